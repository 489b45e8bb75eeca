/- Proved here: the statements' own config makes a configuration. -/
import Derived.Test.YtpobhljcainmdaaKeep1
import Derived.Test.YtpobhljcainmdaaCf2
namespace Go.Proofs.Ytpobhljcainmdaa
open Go.RowKit
set_option linter.unusedSimpArgs false
attribute [local go_sem ↓] Go.wp_at_zero Go.wp_at_succ
attribute [local go_sem] alloc_drewN setCell_drewN

theorem wrap_small {x : Int} (h : -1000000 ≤ x ∧ x ≤ 1000000) : IntKind.i64.wrap x = x := by rw [IntKind.wrap_i64]; omega
theorem below1 (w : World) (o1 : Obj) : Below w.heap.size w (w.alloc o1) := (Below.refl _ _).alloc (Nat.le_refl _) _
theorem below2 (w : World) (o1 o2 : Obj) : Below w.heap.size w ((w.alloc o1).alloc o2) := ((Below.refl _ _).alloc (Nat.le_refl _) _).alloc (by simp) _

set_option maxRecDepth 100000 in
set_option maxHeartbeats 4000000 in
theorem config_makes (a : Option Addr) (len cap : Nat) (w : World) (hl : len ≤ maxLen) (h : Raws w a len) :
    Calls Try.prog 4 #[.slice a len cap] w fun e w' => ∃ sz cl qu mx qn rt bu wk ou, e = .returned (.agg (cfgL sz cl qu mx qn rt bu wk ou)) ∧ cfgB sz cl qu mx qn rt bu wk ou = true ∧ Below w.heap.size w w' := by
  have hraw : Hid (∀ W, Below w.heap.size w W → Raws W a len) := fun W hW => h.later hW
  clear h
  go_enter Try.func4, Try.ntmps4
  go_upto_region 1 with fail
  go_cut [3] (fun p w' => p = .pointer (some ⟨w.heap.size + 1, 0, none⟩) ∧ ∃ sz cl qu mx, w' = ((w.alloc (.cells (cfgL 0 0 0 0 0 0 0 0 0) 24)).alloc (.cells (cfgL sz cl qu mx 0 0 0 0 0) 24)) ∧ (4 ≤ sz ∧ sz ≤ 256 ∧ sz % 4 = 0) ∧ (1 ≤ cl ∧ cl ≤ 8) ∧ (1 ≤ qu ∧ qu ≤ 8) ∧ (4 ≤ mx ∧ mx ≤ 32 ∧ mx % 4 = 0))
  case first =>
    go_wp2_with (first | (go_at_call 7; refine (raw_at a len cap _ _ hl (by omega) (by omega) (hraw.out _ (below1 w _))).mono ?_; rintro e w' ⟨z, rfl, hz, rfl⟩) | (go_at_call 5; refine (pick_any _ _ _ hz (by omega) (by omega)).mono ?_; rintro e w' ⟨r, rfl, hr, rfl⟩))
    go_meet
    case rel => exact ⟨rfl, _, _, _, _, rfl, by omega, by omega, by omega, by omega⟩
  case rest =>
    obtain ⟨rfl, sz, cl, qu, mx, rfl, hsz, hcl, hqu, hmx⟩ := hcut
    have HW : Hid (IntKind.i64.wrap (65 - mx) = 65 - mx) := wrap_small (by omega)
    have HX : Hid (IntKind.i64.wrap (253 - mx) = 253 - mx) := wrap_small (by omega)
    go_upto_region 2 with fail
    go_cut [3] (fun p w' => p = .pointer (some ⟨w.heap.size + 1, 0, none⟩) ∧ ∃ qn d, w' = ((w.alloc (.cells (cfgL 0 0 0 0 0 0 0 0 0) 24)).alloc (.cells (cfgL sz cl qu mx qn 0 0 0 0) 24)).drewN d ∧ mx ≤ qn ∧ qn ≤ 64)
    case first =>
      refine wp_region_noPanic ?_
      refine wp_region_held_drew (S := fun w' => w'.cell? ⟨w.heap.size + 1, 3, none⟩ = some (.int .i64 mx)) (by kernel_rfl) (by simp [go_sem]) ?_
      intro hHeld
      refine wpAnyH_take (i := 0) (oi := _) (v := ?_) rfl (by kernel_rfl) (by kernel_rfl) (by kernel_rfl) (fun _ _ _ h => h) (Or.inl ⟨by rfl, ?_⟩) hHeld ?_
      rotate_left
      · (intro w' hSw; (try dsimp only at hSw); go_simp; try with_reducible rfl)
      try simp only [Act.put, List.getElem_toArray, List.getElem_cons_zero, List.getElem_cons_succ, List.setIfInBounds_toArray, List.set_cons_zero, List.set_cons_succ]
      refine wpAnyH_take (i := 1) (oi := _) (v := ?_) rfl (by kernel_rfl) (by kernel_rfl) (by kernel_rfl) (fun _ _ _ h => h) (Or.inl ⟨by rfl, ?_⟩) hHeld ?_
      rotate_left
      · (intro w' hSw; (try dsimp only at hSw); go_simp; try with_reducible rfl)
      try simp only [Act.put, List.getElem_toArray, List.getElem_cons_zero, List.getElem_cons_succ, List.setIfInBounds_toArray, List.set_cons_zero, List.set_cons_succ]
      refine wpAnyH_take (i := 2) (oi := _) (v := ?_) rfl (by kernel_rfl) (by kernel_rfl) (by kernel_rfl) (fun _ _ _ h => h) (Or.inl ⟨by rfl, ?_⟩) hHeld ?_
      rotate_left
      · (intro w' hSw; (try dsimp only at hSw); go_simp; try with_reducible rfl)
      try simp only [Act.put, List.getElem_toArray, List.getElem_cons_zero, List.getElem_cons_succ, List.setIfInBounds_toArray, List.set_cons_zero, List.set_cons_succ]
      refine wpAnyH_take (i := 4) (oi := _) (v := ?_) rfl (by kernel_rfl) (by kernel_rfl) (by kernel_rfl) (fun _ _ _ h => h) (Or.inl ⟨by rfl, ?_⟩) hHeld ?_
      rotate_left
      · (intro w' hSw; (try dsimp only at hSw); go_simp; try with_reducible rfl)
      try simp only [Act.put, List.getElem_toArray, List.getElem_cons_zero, List.getElem_cons_succ, List.setIfInBounds_toArray, List.set_cons_zero, List.set_cons_succ]
      refine wpAnyH_take (i := 5) (oi := _) (v := ?_) rfl (by kernel_rfl) (by kernel_rfl) (by kernel_rfl) (fun _ _ _ h => h) (Or.inl ⟨by rfl, ?_⟩) hHeld ?_
      rotate_left
      · (intro w' hSw; (try dsimp only at hSw); go_simp; try with_reducible rfl)
      try simp only [Act.put, List.getElem_toArray, List.getElem_cons_zero, List.getElem_cons_succ, List.setIfInBounds_toArray, List.set_cons_zero, List.set_cons_succ]
      refine wpAnyH_take (i := 6) (oi := _) (v := ?_) rfl (by kernel_rfl) (by kernel_rfl) (by kernel_rfl) (fun _ _ _ h => h) (Or.inl ⟨by rfl, ?_⟩) hHeld ?_
      rotate_left
      · (intro w' hSw; (try dsimp only at hSw); go_simp; try with_reducible rfl)
      try simp only [Act.put, List.getElem_toArray, List.getElem_cons_zero, List.getElem_cons_succ, List.setIfInBounds_toArray, List.set_cons_zero, List.set_cons_succ]
      refine wpAnyH_ready (rs := [3]) (by kernel_rfl) (by simp) ?_
      refine AllReadyH.cons (o := _) rfl (fun K hK => ?_) ?_
      · go_simp
        (refine (raw_at a len cap 4 _ hl (by omega) (by omega) (hraw.out _ (below2 w _ _).drew)).mono ?_; rintro e w' ⟨z, rfl, hz, rfl⟩)
        go_wp2_with fail
        refine hK.out _ _ (hHeld) (fun hH3 => ?_)
        clear hK K
        refine wpAnyH_ready (rs := [7]) (by kernel_rfl) (by simp) ?_
        refine AllReadyH.cons (o := _) rfl (fun K hK => ?_) ?_
        · go_simp
          (refine (pick_any _ (IntKind.i64.wrap (65 - mx)) _ hz (by rw [HW.out]; omega) (by rw [HW.out]; omega)).mono ?_; rintro e w' ⟨r, rfl, hr, rfl⟩; rw [HW.out] at hr)
          go_wp2_with fail
          refine hK.out _ _ (hH3) (fun hH3_7 => ?_)
          clear hK K
          refine wpAnyH_take (i := 8) (oi := _) (v := ?_) rfl (by kernel_rfl) (by kernel_rfl) (by kernel_rfl) (fun _ _ _ h => h) (Or.inl ⟨by rfl, ?_⟩) hH3_7 ?_
          rotate_left
          · (intro w' hSw; (try dsimp only at hSw); go_simp; try with_reducible rfl)
          try simp only [Act.put, List.getElem_toArray, List.getElem_cons_zero, List.getElem_cons_succ, List.setIfInBounds_toArray, List.set_cons_zero, List.set_cons_succ]
          refine wpAnyH_take (i := 9) (oi := _) (v := ?_) rfl (by kernel_rfl) (by kernel_rfl) (by kernel_rfl) (fun _ _ _ h => h) (Or.inl ⟨by rfl, ?_⟩) hH3_7 ?_
          rotate_left
          · (intro w' hSw; (try dsimp only at hSw); go_simp; try with_reducible rfl)
          try simp only [Act.put, List.getElem_toArray, List.getElem_cons_zero, List.getElem_cons_succ, List.setIfInBounds_toArray, List.set_cons_zero, List.set_cons_succ]
          refine wpAnyH_ready (rs := [10]) (by kernel_rfl) (by simp) ?_
          refine AllReadyH.cons (o := _) rfl (fun K hK => ?_) ?_
          · go_simp
            refine hK.out _ _ (by simp [go_sem]) (fun hH3_7_10 => ?_)
            clear hK K
            refine wpAnyH_done (by kernel_rfl) ?_ _
            (refine NoPanic.normal ?_; go_wp2_with fail; go_meet; case rel => exact ⟨rfl, IntKind.i64.wrap (mx + r), _, rfl, by rw [wrap_small (by omega)]; omega, by rw [wrap_small (by omega)]; omega⟩)
          exact AllReadyH.nil
        exact AllReadyH.nil
      exact AllReadyH.nil
    case rest =>
      obtain ⟨rfl, qn, d, rfl, hqn1, hqn2⟩ := hcut
      go_upto_region 6 with (first | (go_at_call 7; refine (raw_at a len cap _ _ hl (by omega) (by omega) (hraw.out _ (below_drewN (below2 w _ _) _))).mono ?_; rintro e w' ⟨z, rfl, hz, rfl⟩) | (go_at_call 5; refine (pick_any _ _ _ hz (by omega) (by omega)).mono ?_; rintro e w' ⟨r, rfl, hr, rfl⟩))
      go_cut [3] (fun p w' => p = .pointer (some ⟨w.heap.size + 1, 0, none⟩) ∧ ∃ rt bu wk ou d, w' = ((w.alloc (.cells (cfgL 0 0 0 0 0 0 0 0 0) 24)).alloc (.cells (cfgL sz cl qu mx qn rt bu wk ou) 24)).drewN d ∧ (1 ≤ rt ∧ rt ≤ 16) ∧ (1 ≤ bu ∧ bu ≤ 32) ∧ (1 ≤ wk ∧ wk ≤ 8) ∧ mx + 4 ≤ ou ∧ ou ≤ 256)
      case first =>
        refine wp_region_noPanic ?_
        refine wp_region_held_drew (S := fun w' => w'.cell? ⟨w.heap.size + 1, 3, none⟩ = some (.int .i64 mx)) (by kernel_rfl) (by simp [go_sem]) ?_
        intro hHeld
        refine wpAnyH_take (i := 0) (oi := _) (v := ?_) rfl (by kernel_rfl) (by kernel_rfl) (by kernel_rfl) (fun _ _ _ h => h) (Or.inl ⟨by rfl, ?_⟩) hHeld ?_
        rotate_left
        · (intro w' hSw; (try dsimp only at hSw); go_simp; try with_reducible rfl)
        try simp only [Act.put, List.getElem_toArray, List.getElem_cons_zero, List.getElem_cons_succ, List.setIfInBounds_toArray, List.set_cons_zero, List.set_cons_succ]
        refine wpAnyH_take (i := 1) (oi := _) (v := ?_) rfl (by kernel_rfl) (by kernel_rfl) (by kernel_rfl) (fun _ _ _ h => h) (Or.inl ⟨by rfl, ?_⟩) hHeld ?_
        rotate_left
        · (intro w' hSw; (try dsimp only at hSw); go_simp; try with_reducible rfl)
        try simp only [Act.put, List.getElem_toArray, List.getElem_cons_zero, List.getElem_cons_succ, List.setIfInBounds_toArray, List.set_cons_zero, List.set_cons_succ]
        refine wpAnyH_take (i := 2) (oi := _) (v := ?_) rfl (by kernel_rfl) (by kernel_rfl) (by kernel_rfl) (fun _ _ _ h => h) (Or.inl ⟨by rfl, ?_⟩) hHeld ?_
        rotate_left
        · (intro w' hSw; (try dsimp only at hSw); go_simp; try with_reducible rfl)
        try simp only [Act.put, List.getElem_toArray, List.getElem_cons_zero, List.getElem_cons_succ, List.setIfInBounds_toArray, List.set_cons_zero, List.set_cons_succ]
        refine wpAnyH_take (i := 3) (oi := _) (v := ?_) rfl (by kernel_rfl) (by kernel_rfl) (by kernel_rfl) (fun _ _ _ h => h) (Or.inl ⟨by rfl, ?_⟩) hHeld ?_
        rotate_left
        · (intro w' hSw; (try dsimp only at hSw); go_simp; try with_reducible rfl)
        try simp only [Act.put, List.getElem_toArray, List.getElem_cons_zero, List.getElem_cons_succ, List.setIfInBounds_toArray, List.set_cons_zero, List.set_cons_succ]
        refine wpAnyH_take (i := 5) (oi := _) (v := ?_) rfl (by kernel_rfl) (by kernel_rfl) (by kernel_rfl) (fun _ _ _ h => h) (Or.inl ⟨by rfl, ?_⟩) hHeld ?_
        rotate_left
        · (intro w' hSw; (try dsimp only at hSw); go_simp; try with_reducible rfl)
        try simp only [Act.put, List.getElem_toArray, List.getElem_cons_zero, List.getElem_cons_succ, List.setIfInBounds_toArray, List.set_cons_zero, List.set_cons_succ]
        refine wpAnyH_take (i := 6) (oi := _) (v := ?_) rfl (by kernel_rfl) (by kernel_rfl) (by kernel_rfl) (fun _ _ _ h => h) (Or.inl ⟨by rfl, ?_⟩) hHeld ?_
        rotate_left
        · (intro w' hSw; (try dsimp only at hSw); go_simp; try with_reducible rfl)
        try simp only [Act.put, List.getElem_toArray, List.getElem_cons_zero, List.getElem_cons_succ, List.setIfInBounds_toArray, List.set_cons_zero, List.set_cons_succ]
        refine wpAnyH_take (i := 7) (oi := _) (v := ?_) rfl (by kernel_rfl) (by kernel_rfl) (by kernel_rfl) (fun _ _ _ h => h) (Or.inl ⟨by rfl, ?_⟩) hHeld ?_
        rotate_left
        · (intro w' hSw; (try dsimp only at hSw); go_simp; try with_reducible rfl)
        try simp only [Act.put, List.getElem_toArray, List.getElem_cons_zero, List.getElem_cons_succ, List.setIfInBounds_toArray, List.set_cons_zero, List.set_cons_succ]
        refine wpAnyH_ready (rs := [4]) (by kernel_rfl) (by simp) ?_
        refine AllReadyH.cons (o := _) rfl (fun K hK => ?_) ?_
        · go_simp
          (refine (raw_at a len cap 8 _ hl (by omega) (by omega) (hraw.out _ (below_drewN (below2 w _ _) _).drew)).mono ?_; rintro e w' ⟨z, rfl, hz, rfl⟩)
          go_wp2_with fail
          refine hK.out _ _ (hHeld) (fun hH4 => ?_)
          clear hK K
          refine wpAnyH_ready (rs := [8]) (by kernel_rfl) (by simp) ?_
          refine AllReadyH.cons (o := _) rfl (fun K hK => ?_) ?_
          · go_simp
            (refine (pick_any _ (IntKind.i64.wrap (253 - mx)) _ hz (by rw [HX.out]; omega) (by rw [HX.out]; omega)).mono ?_; rintro e w' ⟨r, rfl, hr, rfl⟩; rw [HX.out] at hr)
            go_wp2_with fail
            refine hK.out _ _ (hH4) (fun hH4_8 => ?_)
            clear hK K
            refine wpAnyH_take (i := 9) (oi := _) (v := ?_) rfl (by kernel_rfl) (by kernel_rfl) (by kernel_rfl) (fun _ _ _ h => h) (Or.inl ⟨by rfl, ?_⟩) hH4_8 ?_
            rotate_left
            · (intro w' hSw; (try dsimp only at hSw); go_simp; try with_reducible rfl)
            try simp only [Act.put, List.getElem_toArray, List.getElem_cons_zero, List.getElem_cons_succ, List.setIfInBounds_toArray, List.set_cons_zero, List.set_cons_succ]
            refine wpAnyH_take (i := 10) (oi := _) (v := ?_) rfl (by kernel_rfl) (by kernel_rfl) (by kernel_rfl) (fun _ _ _ h => h) (Or.inl ⟨by rfl, ?_⟩) hH4_8 ?_
            rotate_left
            · (intro w' hSw; (try dsimp only at hSw); go_simp; try with_reducible rfl)
            try simp only [Act.put, List.getElem_toArray, List.getElem_cons_zero, List.getElem_cons_succ, List.setIfInBounds_toArray, List.set_cons_zero, List.set_cons_succ]
            refine wpAnyH_ready (rs := [11]) (by kernel_rfl) (by simp) ?_
            refine AllReadyH.cons (o := _) rfl (fun K hK => ?_) ?_
            · go_simp
              refine hK.out _ _ (by simp [go_sem]) (fun hH4_8_11 => ?_)
              clear hK K
              refine wpAnyH_done (by kernel_rfl) ?_ _
              (refine NoPanic.normal ?_; go_wp2_with fail; go_meet; case rel => exact ⟨rfl, _, _, _, IntKind.i64.wrap (IntKind.i64.wrap (mx + 4) + r), _, rfl, by omega, by omega, by omega, by rw [wrap_small (x := mx + 4) (by omega), wrap_small (by omega)]; omega, by rw [wrap_small (x := mx + 4) (by omega), wrap_small (by omega)]; omega⟩)
            exact AllReadyH.nil
          exact AllReadyH.nil
        exact AllReadyH.nil
      case rest =>
        obtain ⟨rfl, rt, bu, wk, ou, d', rfl, hrt, hbu, hwk, hou1, hou2⟩ := hcut
        have hC : Hid (cfgB sz cl qu mx qn rt bu wk ou = true) := by
          show cfgB sz cl qu mx qn rt bu wk ou = true
          simp [cfgB, bfB, cfB, seB, wiB]
          omega
        go_wp2
        exact bodyPost_ret (v := .agg (cfgL sz cl qu mx qn rt bu wk ou)) (by simp [results, Try.results4, go_sem]) rfl ⟨sz, cl, qu, mx, qn, rt, bu, wk, ou, rfl, hC.out, below_drewN (below2 w _ _) _⟩
end Go.Proofs.Ytpobhljcainmdaa
