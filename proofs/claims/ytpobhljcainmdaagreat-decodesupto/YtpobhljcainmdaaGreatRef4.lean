/- Proved here: what the document's request answers. -/
import Derived.Test.YtpobhljcainmdaaGreatRef2
import Derived.Test.YtpobhljcainmdaaGreatRef3
import Derived.Deep.RegionHeld3
import Derived.Deep.DrawnRows
namespace Go.Proofs.YtpobhljcainmdaaGreat
open Go.RowKit
set_option linter.unusedSimpArgs false
attribute [local go_sem ↓] Go.wp_at_zero Go.wp_at_succ
attribute [local go_sem] alloc_drewN setCell_drewN

theorem below3 (w : World) (o1 o2 o3 : Obj) (d : Nat) : Below w.heap.size w ((((w.alloc o1).alloc o2).alloc o3).drewN d) :=
  below_drewN ((((Below.refl _ _).alloc (Nat.le_refl _) _).alloc (by simp) _).alloc (by simp; omega) _) d

theorem blk_of_cell {w : World} {b o : Nat} {v : Value} (h : w.cell? ⟨b, o, none⟩ = some v) : b < w.heap.size := by
  by_cases hb : b < w.heap.size
  · exact hb
  · simp [World.cell?, Array.getElem?_eq_none (Nat.le_of_not_lt hb)] at h

theorem IntsAt.later {w w' : World} {a : Option Addr} {l : List Int} (h : IntsAt w a l) (hb : Below w.heap.size w w') : IntsAt w' a l := by
  rcases h with h | ⟨b, off, rfl, h⟩
  · exact .inl h
  · exact .inr ⟨b, off, rfl, fun i hi => (hb.cell (blk_of_cell (h i hi))).trans (h i hi)⟩

theorem two_at (s : ByteArray) (i : Nat) (j : Int) (w : World) (hs : s.size ≤ maxLen) (hi : i + 1 < s.size) (hj : j = i) :
    Calls Tryz.prog 246 #[.string s, .int .i64 j] w fun e w' => e = .returned (.int .i64 (two s i)) ∧ ∃ n, w' = w.drewN n := by
  subst hj
  exact two_any s i w hs hi

set_option maxRecDepth 100000 in
set_option maxHeartbeats 4000000 in
theorem req_any (sz cl qu mx qn rt bu wk ou : Int) (a : Option Addr) (cap : Nat) (used : List Int) (s : ByteArray) (w : World) (hs : s.size ≤ maxLen) (hu : used.length ≤ maxLen) (hc : IntsAt w a used) :
    Calls Tryz.prog 214 #[.agg (cfgL sz cl qu mx qn rt bu wk ou), .slice a used.length cap, .string s] w fun e w' => (∃ m n, (m, n) = reqst sz mx used s ∧ e = .returned (.tuple #[.agg (msgL m.wh m.nm m.kd m.fl m.ck m.of m.ln m.dt m.er), .int .i64 n])) ∧ Below w.heap.size w w' := by
  have hs' := hs
  unfold maxLen at hs'
  by_cases h9 : s.size < 9
  · have hH : Hid (reqst sz mx used s = (.zero, 0)) := by unfold reqst; rw [if_pos h9]; rfl
    go_enter Tryz.func214, Tryz.ntmps214
    go_wp2
    exact bodyPost_ret (v := .tuple #[.agg (msgL 0 ⟨#[]⟩ 0 0 0 0 0 ⟨#[]⟩ 0), .int .i64 0]) (by simp [results, Tryz.results214, go_sem]) rfl ⟨⟨.zero, 0, hH.out.symm, rfl⟩, ((Below.refl _ _).alloc (Nat.le_refl _) _).alloc (by simp) _⟩
  · have h9' : 9 ≤ s.size := by omega
    have n0 : 0 < s.size := by omega
    have n1 : 1 < s.size := by omega
    have n2 : 2 < s.size := by omega
    have i0 : (0 : Int) < s.size := by omega
    have i1 : (1 : Int) < s.size := by omega
    have i2 : (2 : Int) < s.size := by omega
    have e0 := bt_eq s 0 (by omega)
    have e1 := bt_eq s 1 (by omega)
    have e2 := bt_eq s 2 (by omega)
    have r0 := bt_range s 0
    have r1 := bt_range s 1
    have r2 := bt_range s 2
    have k1 : IntKind.i64.wrap (bt s 1) = bt s 1 := by rw [IntKind.wrap_i64]; omega
    have k2 : IntKind.i64.wrap (bt s 2) = bt s 2 := by rw [IntKind.wrap_i64]; omega
    have r3 := two_range s 3
    have r5 := two_range s 5
    have r7 := two_range s 7
    go_enter Tryz.func214, Tryz.ntmps214
    go_upto_region 3 with fail
    go_cut [8] (fun p w' => ∃ d, p = .pointer (some ⟨w.heap.size + 2, 0, none⟩) ∧ w' = (((w.alloc (.cells (cfgL sz cl qu mx qn rt bu wk ou) 35)).alloc (.cells (msgL 0 ⟨#[]⟩ 0 0 0 0 0 ⟨#[]⟩ 0) 132)).alloc (.cells (msgL 3 ⟨#[]⟩ (bt s 1) (bt s 2) (two s 3) (two s 5) (two s 7) ⟨#[]⟩ 0) 132)).drewN d)
    case first =>
      refine wp_region_noPanic ?_
      refine wp_region_held_drew (S := fun _ => True) (by kernel_rfl) trivial ?_
      intro hHeld
      refine wpAnyH_take (i := 0) (oi := _) (v := ?_) rfl (by kernel_rfl) (by kernel_rfl) (by kernel_rfl) (fun _ _ _ h => h) (Or.inl ⟨by rfl, ?_⟩) (by assumption) ?_
      rotate_left
      · (intro w' hSw; go_simp; try with_reducible rfl)
      try simp only [Act.put, List.setIfInBounds_toArray, List.set_cons_zero, List.set_cons_succ]
      refine wpAnyH_take (i := 1) (oi := _) (v := ?_) rfl (by kernel_rfl) (by kernel_rfl) (by kernel_rfl) (fun _ _ _ h => h) (Or.inl ⟨by rfl, ?_⟩) (by assumption) ?_
      rotate_left
      · (intro w' hSw; go_simp; try with_reducible rfl)
      try simp only [Act.put, List.setIfInBounds_toArray, List.set_cons_zero, List.set_cons_succ]
      refine wpAnyH_take (i := 2) (oi := _) (v := ?_) rfl (by kernel_rfl) (by kernel_rfl) (by kernel_rfl) (fun _ _ _ h => h) (Or.inl ⟨by rfl, ?_⟩) (by assumption) ?_
      rotate_left
      · (intro w' hSw; go_simp; try with_reducible rfl)
      try simp only [Act.put, List.setIfInBounds_toArray, List.set_cons_zero, List.set_cons_succ]
      refine wpAnyH_take (i := 3) (oi := _) (v := ?_) rfl (by kernel_rfl) (by kernel_rfl) (by kernel_rfl) (fun _ _ _ h => h) (Or.inl ⟨by rfl, ?_⟩) (by assumption) ?_
      rotate_left
      · (intro w' hSw; go_simp; try with_reducible rfl)
      try simp only [Act.put, List.setIfInBounds_toArray, List.set_cons_zero, List.set_cons_succ]
      refine wpAnyH_take (i := 4) (oi := _) (v := ?_) rfl (by kernel_rfl) (by kernel_rfl) (by kernel_rfl) (fun _ _ _ h => h) (Or.inl ⟨by rfl, ?_⟩) (by assumption) ?_
      rotate_left
      · (intro w' hSw; go_simp; try with_reducible rfl)
      try simp only [Act.put, List.setIfInBounds_toArray, List.set_cons_zero, List.set_cons_succ]
      refine wpAnyH_take (i := 5) (oi := _) (v := ?_) rfl (by kernel_rfl) (by kernel_rfl) (by kernel_rfl) (fun _ _ _ h => h) (Or.inl ⟨by rfl, ?_⟩) (by assumption) ?_
      rotate_left
      · (intro w' hSw; go_simp; try with_reducible rfl)
      try simp only [Act.put, List.setIfInBounds_toArray, List.set_cons_zero, List.set_cons_succ]
      refine wpAnyH_take (i := 6) (oi := _) (v := ?_) rfl (by kernel_rfl) (by kernel_rfl) (by kernel_rfl) (fun _ _ _ h => h) (Or.inl ⟨by rfl, ?_⟩) (by assumption) ?_
      rotate_left
      · (intro w' hSw; go_simp; try with_reducible rfl)
      try simp only [Act.put, List.setIfInBounds_toArray, List.set_cons_zero, List.set_cons_succ]
      refine wpAnyH_take (i := 8) (oi := _) (v := ?_) rfl (by kernel_rfl) (by kernel_rfl) (by kernel_rfl) (fun _ _ _ h => h) (Or.inl ⟨by rfl, ?_⟩) (by assumption) ?_
      rotate_left
      · (intro w' hSw; go_simp; try with_reducible rfl)
      try simp only [Act.put, List.setIfInBounds_toArray, List.set_cons_zero, List.set_cons_succ]
      refine wpAnyH_take (i := 10) (oi := _) (v := ?_) rfl (by kernel_rfl) (by kernel_rfl) (by kernel_rfl) (fun _ _ _ h => h) (Or.inl ⟨by rfl, ?_⟩) (by assumption) ?_
      rotate_left
      · (intro w' hSw; go_simp; try with_reducible rfl)
      try simp only [Act.put, List.setIfInBounds_toArray, List.set_cons_zero, List.set_cons_succ]
      refine wpAnyH_ready (rs := [7, 13]) (by kernel_rfl) (by simp) ?_
      refine AllReadyH.cons (o := _) rfl (fun K hK => ?_) ?_
      · go_simp
        (refine (two_at s 3 _ _ hs (by omega) rfl).mono ?_; rintro e w' ⟨rfl, d, rfl⟩)
        go_wp2_with fail
        refine hK.out _ _ trivial (fun hHeld => ?_)
        clear hK K
        refine wpAnyH_ready (rs := [9, 13]) (by kernel_rfl) (by simp) ?_
        refine AllReadyH.cons (o := _) rfl (fun K hK => ?_) ?_
        · go_simp
          (refine (two_at s 5 _ _ hs (by omega) rfl).mono ?_; rintro e w' ⟨rfl, d, rfl⟩)
          go_wp2_with fail
          refine hK.out _ _ trivial (fun hHeld => ?_)
          clear hK K
          refine wpAnyH_ready (rs := [11, 13]) (by kernel_rfl) (by simp) ?_
          refine AllReadyH.cons (o := _) rfl (fun K hK => ?_) ?_
          · go_simp
            (refine (two_at s 7 _ _ hs (by omega) rfl).mono ?_; rintro e w' ⟨rfl, d, rfl⟩)
            go_wp2_with fail
            refine hK.out _ _ trivial (fun hHeld => ?_)
            clear hK K
            refine wpAnyH_take (i := 12) (oi := _) (v := ?_) rfl (by kernel_rfl) (by kernel_rfl) (by kernel_rfl) (fun _ _ _ h => h) (Or.inl ⟨by rfl, ?_⟩) (by assumption) ?_
            rotate_left
            · (intro w' hSw; go_simp; try with_reducible rfl)
            try simp only [Act.put, List.setIfInBounds_toArray, List.set_cons_zero, List.set_cons_succ]
            refine wpAnyH_ready (rs := [13]) (by kernel_rfl) (by simp) ?_
            refine AllReadyH.cons (o := _) rfl (fun K hK => ?_) ?_
            · go_simp
              refine hK.out _ _ trivial (fun hHeld => ?_)
              clear hK K
              refine wpAnyH_ready (rs := [14]) (by kernel_rfl) (by simp) ?_
              refine AllReadyH.cons (o := _) rfl (fun K hK => ?_) ?_
              · go_simp
                refine hK.out _ _ trivial (fun hHeld => ?_)
                clear hK K
                refine wpAnyH_done (by kernel_rfl) ?_ _
                refine NoPanic.normal ?_
                go_wp2_with fail
                go_meet
                case rel => exact ⟨_, rfl, rfl⟩
              exact AllReadyH.nil
            exact AllReadyH.nil
          refine AllReadyH.cons (o := _) rfl (fun K hK => ?_) ?_
          · go_simp
            refine hK.out _ _ trivial (fun hHeld => ?_)
            clear hK K
            refine wpAnyH_ready (rs := [11]) (by kernel_rfl) (by simp) ?_
            refine AllReadyH.cons (o := _) rfl (fun K hK => ?_) ?_
            · go_simp
              (refine (two_at s 7 _ _ hs (by omega) rfl).mono ?_; rintro e w' ⟨rfl, d, rfl⟩)
              go_wp2_with fail
              refine hK.out _ _ trivial (fun hHeld => ?_)
              clear hK K
              refine wpAnyH_take (i := 12) (oi := _) (v := ?_) rfl (by kernel_rfl) (by kernel_rfl) (by kernel_rfl) (fun _ _ _ h => h) (Or.inl ⟨by rfl, ?_⟩) (by assumption) ?_
              rotate_left
              · (intro w' hSw; go_simp; try with_reducible rfl)
              try simp only [Act.put, List.setIfInBounds_toArray, List.set_cons_zero, List.set_cons_succ]
              refine wpAnyH_ready (rs := [14]) (by kernel_rfl) (by simp) ?_
              refine AllReadyH.cons (o := _) rfl (fun K hK => ?_) ?_
              · go_simp
                refine hK.out _ _ trivial (fun hHeld => ?_)
                clear hK K
                refine wpAnyH_done (by kernel_rfl) ?_ _
                refine NoPanic.normal ?_
                go_wp2_with fail
                go_meet
                case rel => exact ⟨_, rfl, rfl⟩
              exact AllReadyH.nil
            exact AllReadyH.nil
          exact AllReadyH.nil
        refine AllReadyH.cons (o := _) rfl (fun K hK => ?_) ?_
        · go_simp
          refine hK.out _ _ trivial (fun hHeld => ?_)
          clear hK K
          refine wpAnyH_ready (rs := [9]) (by kernel_rfl) (by simp) ?_
          refine AllReadyH.cons (o := _) rfl (fun K hK => ?_) ?_
          · go_simp
            (refine (two_at s 5 _ _ hs (by omega) rfl).mono ?_; rintro e w' ⟨rfl, d, rfl⟩)
            go_wp2_with fail
            refine hK.out _ _ trivial (fun hHeld => ?_)
            clear hK K
            refine wpAnyH_ready (rs := [11]) (by kernel_rfl) (by simp) ?_
            refine AllReadyH.cons (o := _) rfl (fun K hK => ?_) ?_
            · go_simp
              (refine (two_at s 7 _ _ hs (by omega) rfl).mono ?_; rintro e w' ⟨rfl, d, rfl⟩)
              go_wp2_with fail
              refine hK.out _ _ trivial (fun hHeld => ?_)
              clear hK K
              refine wpAnyH_take (i := 12) (oi := _) (v := ?_) rfl (by kernel_rfl) (by kernel_rfl) (by kernel_rfl) (fun _ _ _ h => h) (Or.inl ⟨by rfl, ?_⟩) (by assumption) ?_
              rotate_left
              · (intro w' hSw; go_simp; try with_reducible rfl)
              try simp only [Act.put, List.setIfInBounds_toArray, List.set_cons_zero, List.set_cons_succ]
              refine wpAnyH_ready (rs := [14]) (by kernel_rfl) (by simp) ?_
              refine AllReadyH.cons (o := _) rfl (fun K hK => ?_) ?_
              · go_simp
                refine hK.out _ _ trivial (fun hHeld => ?_)
                clear hK K
                refine wpAnyH_done (by kernel_rfl) ?_ _
                refine NoPanic.normal ?_
                go_wp2_with fail
                go_meet
                case rel => exact ⟨_, rfl, rfl⟩
              exact AllReadyH.nil
            exact AllReadyH.nil
          exact AllReadyH.nil
        exact AllReadyH.nil
      refine AllReadyH.cons (o := _) rfl (fun K hK => ?_) ?_
      · go_simp
        refine hK.out _ _ trivial (fun hHeld => ?_)
        clear hK K
        refine wpAnyH_ready (rs := [7]) (by kernel_rfl) (by simp) ?_
        refine AllReadyH.cons (o := _) rfl (fun K hK => ?_) ?_
        · go_simp
          (refine (two_at s 3 _ _ hs (by omega) rfl).mono ?_; rintro e w' ⟨rfl, d, rfl⟩)
          go_wp2_with fail
          refine hK.out _ _ trivial (fun hHeld => ?_)
          clear hK K
          refine wpAnyH_ready (rs := [9]) (by kernel_rfl) (by simp) ?_
          refine AllReadyH.cons (o := _) rfl (fun K hK => ?_) ?_
          · go_simp
            (refine (two_at s 5 _ _ hs (by omega) rfl).mono ?_; rintro e w' ⟨rfl, d, rfl⟩)
            go_wp2_with fail
            refine hK.out _ _ trivial (fun hHeld => ?_)
            clear hK K
            refine wpAnyH_ready (rs := [11]) (by kernel_rfl) (by simp) ?_
            refine AllReadyH.cons (o := _) rfl (fun K hK => ?_) ?_
            · go_simp
              (refine (two_at s 7 _ _ hs (by omega) rfl).mono ?_; rintro e w' ⟨rfl, d, rfl⟩)
              go_wp2_with fail
              refine hK.out _ _ trivial (fun hHeld => ?_)
              clear hK K
              refine wpAnyH_take (i := 12) (oi := _) (v := ?_) rfl (by kernel_rfl) (by kernel_rfl) (by kernel_rfl) (fun _ _ _ h => h) (Or.inl ⟨by rfl, ?_⟩) (by assumption) ?_
              rotate_left
              · (intro w' hSw; go_simp; try with_reducible rfl)
              try simp only [Act.put, List.setIfInBounds_toArray, List.set_cons_zero, List.set_cons_succ]
              refine wpAnyH_ready (rs := [14]) (by kernel_rfl) (by simp) ?_
              refine AllReadyH.cons (o := _) rfl (fun K hK => ?_) ?_
              · go_simp
                refine hK.out _ _ trivial (fun hHeld => ?_)
                clear hK K
                refine wpAnyH_done (by kernel_rfl) ?_ _
                refine NoPanic.normal ?_
                go_wp2_with fail
                go_meet
                case rel => exact ⟨_, rfl, rfl⟩
              exact AllReadyH.nil
            exact AllReadyH.nil
          exact AllReadyH.nil
        exact AllReadyH.nil
      exact AllReadyH.nil
    case rest =>
      obtain ⟨d, rfl, rfl⟩ := hcut
      have hcl : IntsAt ((((w.alloc (.cells (cfgL sz cl qu mx qn rt bu wk ou) 35)).alloc (.cells (msgL 0 ⟨#[]⟩ 0 0 0 0 0 ⟨#[]⟩ 0) 132)).alloc (.cells (msgL 3 ⟨#[]⟩ (bt s 1) (bt s 2) (two s 3) (two s 5) (two s 7) ⟨#[]⟩ 0) 132)).drewN d) a used :=
        hc.later (below3 _ _ _ _ _)
      have hB3 : Below w.heap.size w ((((w.alloc (.cells (cfgL sz cl qu mx qn rt bu wk ou) 35)).alloc (.cells (msgL 0 ⟨#[]⟩ 0 0 0 0 0 ⟨#[]⟩ 0) 132)).alloc (.cells (msgL 3 ⟨#[]⟩ (bt s 1) (bt s 2) (two s 3) (two s 5) (two s 7) ⟨#[]⟩ 0) 132)).drewN d) :=
        below3 _ _ _ _ _
      by_cases hbad : bt s 0 ≠ 81 ∨ mx < two s 7 ∨ two s 3 ∈ used
      · have hH : Hid (reqst sz mx used s = (.closing, 9)) := by unfold reqst; rw [if_neg h9, if_pos hbad]; rfl
        by_cases q0 : bt s 0 = 81
        · have q0' : (bt s 0 != 81) = false := by simp [q0]
          by_cases q1 : mx < two s 7
          · go_wp2_with (go_at_call 247; refine (has_any a cap used (two s 3) _ hu hcl).mono ?_; rintro e w' ⟨rfl, rfl⟩)
            exact bodyPost_ret (v := .tuple #[.agg (msgL 4 ⟨#[]⟩ 0 0 0 0 0 ⟨#[]⟩ 0), .int .i64 9]) (by simp [results, Tryz.results214, go_sem]) rfl ⟨⟨.closing, 9, hH.out.symm, rfl⟩, below3 _ _ _ _ _⟩
          · have q2 : decide (two s 3 ∈ used) = true := by
              rcases hbad with h | h | h
              · exact absurd q0 h
              · exact absurd h q1
              · simpa using h
            go_wp2_with (go_at_call 247; refine (has_any a cap used (two s 3) _ hu hcl).mono ?_; rw [q2]; rintro e w' ⟨rfl, rfl⟩)
            exact bodyPost_ret (v := .tuple #[.agg (msgL 4 ⟨#[]⟩ 0 0 0 0 0 ⟨#[]⟩ 0), .int .i64 9]) (by simp [results, Tryz.results214, go_sem]) rfl ⟨⟨.closing, 9, hH.out.symm, rfl⟩, below3 _ _ _ _ _⟩
        · have q0' : (bt s 0 != 81) = true := by simp [q0]
          go_wp2_with (go_at_call 247; refine (has_any a cap used (two s 3) _ hu hcl).mono ?_; rintro e w' ⟨rfl, rfl⟩)
          exact bodyPost_ret (v := .tuple #[.agg (msgL 4 ⟨#[]⟩ 0 0 0 0 0 ⟨#[]⟩ 0), .int .i64 9]) (by simp [results, Tryz.results214, go_sem]) rfl ⟨⟨.closing, 9, hH.out.symm, rfl⟩, below3 _ _ _ _ _⟩
      · have q0 : bt s 0 = 81 := by
          by_cases h : bt s 0 = 81
          · exact h
          · exact absurd (.inl h) hbad
        have q0' : (bt s 0 != 81) = false := by simp [q0]
        have q1 : two s 7 ≤ mx := by
          by_cases h : mx < two s 7
          · exact absurd (.inr (.inl h)) hbad
          · omega
        have q2 : decide (two s 3 ∈ used) = false := by
          by_cases h : two s 3 ∈ used
          · exact absurd (.inr (.inr h)) hbad
          · simpa using h
        by_cases kw : bt s 1 = 1
        · by_cases hshort : (s.size : Int) < 9 + two s 7
          · have hH : Hid (reqst sz mx used s = (.zero, 0)) := by unfold reqst; rw [if_neg h9, if_neg hbad, if_pos kw, if_pos hshort]; rfl
            have kw' : (bt s 1 == 1) = true := by simpa using kw
            clear kw hbad
            go_wp2_with (go_at_call 247; refine (has_any a cap used (two s 3) _ hu hcl).mono ?_; rw [q2]; rintro e w' ⟨rfl, rfl⟩)
            exact bodyPost_ret (v := .tuple #[.agg (msgL 0 ⟨#[]⟩ 0 0 0 0 0 ⟨#[]⟩ 0), .int .i64 0]) (by simp [results, Tryz.results214, go_sem]) rfl ⟨⟨.zero, 0, hH.out.symm, rfl⟩, below3 _ _ _ _ _⟩
          · obtain ⟨n, hn⟩ : ∃ n : Nat, (n : Int) = 9 + two s 7 := ⟨(9 + two s 7).toNat, by omega⟩
            have hH : Hid (reqst sz mx used s = (⟨3, ⟨#[]⟩, bt s 1, bt s 2, two s 3, two s 5, two s 7, s.extract 9 n, verdict sz (bt s 1) (bt s 2) (two s 5) (two s 7)⟩, (n : Int))) := by
              unfold reqst
              rw [if_neg h9, if_neg hbad, if_pos kw, if_neg hshort, ← hn]
              rfl
            have hn' : 9 + two s 7 = (n : Int) := hn.symm
            have hn9 : 9 ≤ n := by omega
            have hns : n ≤ s.size := by omega
            have kw' : (bt s 1 == 1) = true := by simpa using kw
            clear kw hbad hn
            go_wp2_with (first | (go_at_call 247; refine (has_any a cap used (two s 3) _ hu hcl).mono ?_; rw [q2]; rintro e w' ⟨rfl, rfl⟩) | (go_at_call 248; refine (verdict_any sz cl qu mx qn rt bu wk ou 3 ⟨#[]⟩ (bt s 1) (bt s 2) (two s 3) (two s 5) (two s 7) (s.extract 9 n) 0 _ r1.1 r2.1 r5.1 r5.2 r7.1 r7.2).mono ?_; rintro e w4 ⟨rfl, hb4⟩; obtain ⟨hc4, hf4⟩ := bcell hb4; have hz4 : w.heap.size + 2 < w4.heap.size := by (have := hb4.size; simp at this; omega)))
            exact bodyPost_ret (v := .tuple #[.agg (msgL 3 ⟨#[]⟩ (bt s 1) (bt s 2) (two s 3) (two s 5) (two s 7) (s.extract 9 n) (verdict sz (bt s 1) (bt s 2) (two s 5) (two s 7))), .int .i64 n]) (by simp [results, Tryz.results214, go_sem, hc4, hz4]) rfl ⟨⟨_, _, hH.out.symm, rfl⟩, below_set9 (((below3 w _ _ _ _).trans (hb4.mono (B' := w.heap.size) (by simp; omega))).setCell (p := ⟨w.heap.size + 2, 8, none⟩) (by simp) _) (by omega) _ _ _ _ _ _ _ _ _⟩
        · have hH : Hid (reqst sz mx used s = (⟨3, ⟨#[]⟩, bt s 1, bt s 2, two s 3, two s 5, two s 7, ⟨#[]⟩, verdict sz (bt s 1) (bt s 2) (two s 5) (two s 7)⟩, 9)) := by
            unfold reqst
            rw [if_neg h9, if_neg hbad, if_neg kw]
            rfl
          have kw' : (bt s 1 == 1) = false := by simpa using kw
          clear kw hbad
          go_wp2_with (first | (go_at_call 247; refine (has_any a cap used (two s 3) _ hu hcl).mono ?_; rw [q2]; rintro e w' ⟨rfl, rfl⟩) | (go_at_call 248; refine (verdict_any sz cl qu mx qn rt bu wk ou 3 ⟨#[]⟩ (bt s 1) (bt s 2) (two s 3) (two s 5) (two s 7) ⟨#[]⟩ 0 _ r1.1 r2.1 r5.1 r5.2 r7.1 r7.2).mono ?_; rintro e w4 ⟨rfl, hb4⟩; obtain ⟨hc4, hf4⟩ := bcell hb4; have hz4 : w.heap.size + 2 < w4.heap.size := by (have := hb4.size; simp at this; omega)))
          exact bodyPost_ret (v := .tuple #[.agg (msgL 3 ⟨#[]⟩ (bt s 1) (bt s 2) (two s 3) (two s 5) (two s 7) ⟨#[]⟩ (verdict sz (bt s 1) (bt s 2) (two s 5) (two s 7))), .int .i64 9]) (by simp [results, Tryz.results214, go_sem, hc4, hz4]) rfl ⟨⟨_, _, hH.out.symm, rfl⟩, below_set9 (((below3 w _ _ _ _).trans (hb4.mono (B' := w.heap.size) (by simp; omega))).setCell (p := ⟨w.heap.size + 2, 8, none⟩) (by simp) _) (by omega) _ _ _ _ _ _ _ _ _⟩
end Go.Proofs.YtpobhljcainmdaaGreat
