/- Proved here: every list that came out still reads as its owner wrote it (looks). -/
import Derived.Test.YtpobhljcainmdaaGreatLaw5
namespace Go.Proofs.YtpobhljcainmdaaGreat
open Go.RowKit
set_option linter.unusedSimpArgs false
attribute [local go_sem ↓] Go.wp_at_zero Go.wp_at_succ
attribute [local go_sem] alloc_drewN setCell_drewN

theorem form_any {w : World} {B e c : Nat} {v : Value} {n : Nat} {xs : List Value} (h : w.ownsRow B e c v n xs) : ∃ a q, v = .slice a n q := by
  rcases h.2 with ⟨h, h0⟩ | ⟨g, cap, _, h, _⟩
  · exact ⟨none, 0, by rw [h0]; exact h⟩
  · exact ⟨_, _, h⟩

/-- What a look at one message of one list reads. -/
abbrev LookAt (wr : World) (b gm gi i gu o : Nat) (vms vmm u : Value) (K : Int) (w' : World) : Prop :=
  Below wr.heap.size wr w' ∧ w'.cell? ⟨b, 1, none⟩ = some vms ∧ w'.cell? ⟨b, 2, none⟩ = some vmm ∧ w'.cell? ⟨gm, i, none⟩ = some u ∧ w'.cell? ⟨gi, i, none⟩ = some (.int .i64 K) ∧
    w'.cell? ⟨gu, o, none⟩ = some (.int .i64 K) ∧ w'.cell? ⟨gu, o + 1, none⟩ = some (.string ⟨#[]⟩) ∧ w'.cell? ⟨gu, o + 2, none⟩ = some (.int .i64 0) ∧ w'.cell? ⟨gu, o + 3, none⟩ = some (.int .i64 0) ∧ w'.cell? ⟨gu, o + 4, none⟩ = some (.int .i64 0) ∧ w'.cell? ⟨gu, o + 5, none⟩ = some (.int .i64 0) ∧ w'.cell? ⟨gu, o + 6, none⟩ = some (.int .i64 0) ∧ w'.cell? ⟨gu, o + 7, none⟩ = some (.string ⟨#[]⟩) ∧ w'.cell? ⟨gu, o + 8, none⟩ = some (.int .i64 0)

theorem LookAt.keep {wr W w3 : World} {b gm gi i gu o : Nat} {vms vmm u : Value} {K : Int} (h : LookAt wr b gm gi i gu o vms vmm u K W) (hb : Below W.heap.size W w3) (h1 : b < wr.heap.size) (h2 : gm < wr.heap.size) (h3 : gi < wr.heap.size) (h4 : gu < wr.heap.size) : LookAt wr b gm gi i gu o vms vmm u K w3 := by
  obtain ⟨q, a0, a1, a2, a3, c0, c1, c2, c3, c4, c5, c6, c7, c8⟩ := h
  have l1 := Nat.lt_of_lt_of_le h1 q.size
  have l2 := Nat.lt_of_lt_of_le h2 q.size
  have l3 := Nat.lt_of_lt_of_le h3 q.size
  have l4 := Nat.lt_of_lt_of_le h4 q.size
  exact ⟨q.trans (hb.mono q.size), (hb.cell l1).trans a0, (hb.cell l1).trans a1, (hb.cell l2).trans a2, (hb.cell l3).trans a3, (hb.cell l4).trans c0, (hb.cell l4).trans c1, (hb.cell l4).trans c2, (hb.cell l4).trans c3, (hb.cell l4).trans c4, (hb.cell l4).trans c5, (hb.cell l4).trans c6, (hb.cell l4).trans c7, (hb.cell l4).trans c8⟩

theorem LW.later {b k : Nat} {w w' : World} (h : LW b k w) (hb : Below w.heap.size w w') : LW b k w' := by
  obtain ⟨vms, vmm, ls, ks, hbox, hms, hmm, hall⟩ := h
  have hbs : b < w.heap.size := (Array.getElem?_eq_some_iff.1 hbox).1
  refine ⟨vms, vmm, ls, ks, (hb.block b hbs).trans hbox, row_below hms hb, row_below hmm hb, fun i hi => ?_⟩
  obtain ⟨u, K, nu, h1, h2, h3, h4⟩ := hall i hi
  exact ⟨u, K, nu, h1, h2, h3, row_below h4 hb⟩

theorem mark_at {w : World} {B g cap nu : Nat} {K : Int} (h : MRow B K w (.slice (some ⟨g, 0, none⟩) nu cap) nu) (j : Nat) (hj : j < nu) : MsgAtO w g (j * 9) (markM K) := by
  have e : (List.replicate nu (markM K)).length = nu := by simp
  have h' : w.ownsRow B 132 9 (.slice (some ⟨g, 0, none⟩) (List.replicate nu (markM K)).length cap) (List.replicate nu (markM K)).length ((List.replicate nu (markM K)).flatMap Msg.cells) := by rw [e]; exact h
  have := msgO h' j (by rw [e]; exact hj)
  simpa using this

theorem same_mark (kk : Int) (w : World) :
    Calls Tryz.prog 88 #[.agg (msgL kk ⟨#[]⟩ 0 0 0 0 0 ⟨#[]⟩ 0), .agg (msgL kk ⟨#[]⟩ 0 0 0 0 0 ⟨#[]⟩ 0)] w fun e w' => e = .returned (.bool true) ∧ Below w.heap.size w w' := same_any (markM kk) w

set_option maxRecDepth 100000 in
set_option maxHeartbeats 1000000 in
theorem looks_any (b k : Nat) (w : World) (hL : LW b k w) (hk : k ≤ 1048576) :
    Calls Tryz.prog 48 #[.pointer (some ⟨b, 0, none⟩)] w fun e w' => e = .returned (.bool true) ∧ Below w.heap.size w w' := by
  obtain ⟨vms, vmm, ls, ks, hbox, hms, hmm, hall⟩ := hL
  obtain ⟨am, qm, rfl⟩ := form_any hms
  obtain ⟨ai, qi, rfl⟩ := form_any hmm
  have hbs : b < w.heap.size := (Array.getElem?_eq_some_iff.1 hbox).1
  obtain ⟨c0, c1, c2, c3, c4, c5, cf⟩ := cellsW hbox
  have HA : Hid (∀ i, i < 4 * k → ∃ u K nu, ls[i]? = some u ∧ ks[i]? = some K ∧ nu ≤ 1048579 ∧ MRow (b + 1) K w u nu) := hall
  have HM : Hid (w.ownsRow (b + 1) 152 1 (.slice am (4 * k) qm) (4 * k) ls) := hms
  have HI : Hid (w.ownsRow (b + 1) 3 1 (.slice ai (4 * k) qi) (4 * k) (ks.map (fun n => Value.int .i64 n))) := hmm
  clear hall hms hmm hbox cf c0 c4 c5
  go_enter Tryz.func48, Tryz.ntmps48
  go_wp2
  go_loopw [3] (fun i wr => ∃ i' : Nat, i' ≤ 4 * k ∧ i = .int .i64 i' ∧ Below w.heap.size w wr) (fun i _ => 4 * k - (intOf i).toNat)
  case atStart => exact ⟨0, Nat.zero_le _, rfl, Below.refl _ _⟩
  case round =>
    obtain ⟨i, hi, rfl, hBr⟩ := hrel
    rw [← hBr.cell (p := ⟨b, 1, none⟩) hbs] at c1
    rw [← hBr.cell (p := ⟨b, 2, none⟩) hbs] at c2
    rw [← hBr.cell (p := ⟨b, 3, none⟩) hbs] at c3
    by_cases hlt : i < 4 * k
    · obtain ⟨u, kk, nu, h1, h2, h3, h4⟩ := HA.out i hlt
      have RM := row_below HM.out hBr
      have RI := row_below HI.out hBr
      have RU := row_below h4 hBr
      obtain ⟨gm, qm', hvm, _, hlm0⟩ := RM.form (by omega)
      obtain ⟨gi, qi', hvi, _, hli0⟩ := RI.form (by omega)
      cases hvm
      cases hvi
      obtain ⟨au, qu, rfl⟩ := form_any RU
      have em : wr.cell? ⟨gm, i, none⟩ = some (.slice au nu qu) := by rw [RM.cellAt i (by omega)]; exact h1
      have ei : wr.cell? ⟨gi, i, none⟩ = some (.int .i64 kk) := by rw [RI.cellAt i (by omega)]; simp [h2]
      have HU : Hid (MRow (b + 1) kk wr (.slice au nu qu) nu) := RU
      have hlb0 : b < wr.heap.size := Nat.lt_of_lt_of_le hbs hBr.size
      clear RM RI RU h1 h2 h4
      have hiI : (0 : Int) ≤ (i : Int) := by omega
      have hiJ : (i : Int) < 4 * (k : Int) := by omega
      obtain ⟨wo, rfl⟩ : ∃ wo : World, wo = wr := ⟨_, rfl⟩
      go_wp2
      go_loopw [4, 5] (fun j _ wr => ∃ j' : Nat, j' ≤ nu ∧ j = .int .i64 j' ∧ Below wo.heap.size wo wr) (fun j _ _ => nu - (intOf j).toNat)
      case atStart => exact ⟨0, Nat.zero_le _, rfl, Below.refl _ _⟩
      case round =>
        obtain ⟨j, hj, rfl, hBj⟩ := hrel
        have hlb := Nat.lt_of_lt_of_le hlb0 hBj.size
        have hlm := Nat.lt_of_lt_of_le hlm0 hBj.size
        have hli := Nat.lt_of_lt_of_le hli0 hBj.size
        rw [← hBj.cell (p := ⟨b, 1, none⟩) hlb0] at c1
        rw [← hBj.cell (p := ⟨b, 2, none⟩) hlb0] at c2
        rw [← hBj.cell (p := ⟨b, 3, none⟩) hlb0] at c3
        rw [← hBj.cell (p := ⟨gm, i, none⟩) hlm0] at em
        rw [← hBj.cell (p := ⟨gi, i, none⟩) hli0] at ei
        by_cases hjl : j < nu
        · have RU := row_below HU.out hBj
          obtain ⟨gu, qu', hvu, _, hlu⟩ := RU.form (by omega)
          cases hvu
          obtain ⟨x0, x1, x2, x3, x4, x5, x6, x7, x8⟩ := mark_at RU j hjl
          have hbox : LookAt wr b gm gi i gu (j * 9) (.slice (some ⟨gm, 0, none⟩) (4 * k) qm) (.slice (some ⟨gi, 0, none⟩) (4 * k) qi) (.slice (some ⟨gu, 0, none⟩) nu qu) kk wr.drew := ⟨(Below.refl _ _).drew, c1, c2, em, ei, x0, x1, x2, x3, x4, x5, x6, x7, x8⟩
          clear RU x0 x1 x2 x3 x4 x5 x6 x7 x8
          have hjI : (0 : Int) ≤ (j : Int) := by omega
          have hjJ : (j : Int) < (nu : Int) := by omega
          go_wp2
          refine wp_region_noPanic ?_
          refine wp_region_held_drew (S := fun w' => LookAt wr b gm gi i gu (j * 9) (.slice (some ⟨gm, 0, none⟩) (4 * k) qm) (.slice (some ⟨gi, 0, none⟩) (4 * k) qi) (.slice (some ⟨gu, 0, none⟩) nu qu) kk w') (by kernel_rfl) hbox ?_
          intro hHeld
          refine wpAnyH_take (i := 0) (oi := _) (v := ?_) rfl (by kernel_rfl) (by kernel_rfl) (by kernel_rfl) (fun _ _ _ h => h) (Or.inl ⟨by rfl, ?_⟩) hHeld ?_
          rotate_left
          · (intro w' hSw; (try dsimp only at hSw); go_simp; try with_reducible rfl)
          try simp only [Act.put, List.getElem_toArray, List.getElem_cons_zero, List.getElem_cons_succ, List.setIfInBounds_toArray, List.set_cons_zero, List.set_cons_succ]
          refine wpAnyH_take (i := 1) (oi := _) (v := ?_) rfl (by kernel_rfl) (by kernel_rfl) (by kernel_rfl) (fun _ _ _ h => h) (Or.inl ⟨by rfl, ?_⟩) hHeld ?_
          rotate_left
          · (intro w' hSw; (try dsimp only at hSw); go_simp; try with_reducible rfl)
          try simp only [Act.put, List.getElem_toArray, List.getElem_cons_zero, List.getElem_cons_succ, List.setIfInBounds_toArray, List.set_cons_zero, List.set_cons_succ]
          refine wpAnyH_take (i := 2) (oi := _) (v := ?_) rfl (by kernel_rfl) (by kernel_rfl) (by kernel_rfl) (fun _ _ _ h => h) (Or.inl ⟨by rfl, ?_⟩) hHeld ?_
          rotate_left
          · (intro w' hSw; (try dsimp only at hSw); go_simp; try with_reducible rfl)
          try simp only [Act.put, List.getElem_toArray, List.getElem_cons_zero, List.getElem_cons_succ, List.setIfInBounds_toArray, List.set_cons_zero, List.set_cons_succ]
          refine wpAnyH_take (i := 3) (oi := _) (v := ?_) rfl (by kernel_rfl) (by kernel_rfl) (by kernel_rfl) (fun _ _ _ h => h) (Or.inl ⟨by rfl, ?_⟩) hHeld ?_
          rotate_left
          · (intro w' hSw; (try dsimp only at hSw); go_simp; try with_reducible rfl)
          try simp only [Act.put, List.getElem_toArray, List.getElem_cons_zero, List.getElem_cons_succ, List.setIfInBounds_toArray, List.set_cons_zero, List.set_cons_succ]
          refine wpAnyH_take (i := 4) (oi := _) (v := ?_) rfl (by kernel_rfl) (by kernel_rfl) (by kernel_rfl) (fun _ _ _ h => h) (Or.inl ⟨by rfl, ?_⟩) hHeld ?_
          rotate_left
          · (intro w' hSw; (try dsimp only at hSw); go_simp; try with_reducible rfl)
          try simp only [Act.put, List.getElem_toArray, List.getElem_cons_zero, List.getElem_cons_succ, List.setIfInBounds_toArray, List.set_cons_zero, List.set_cons_succ]
          refine wpAnyH_take (i := 5) (oi := _) (v := ?_) rfl (by kernel_rfl) (by kernel_rfl) (by kernel_rfl) (fun _ _ _ h => h) (Or.inl ⟨by rfl, ?_⟩) hHeld ?_
          rotate_left
          · (intro w' hSw; (try dsimp only at hSw); go_simp; try with_reducible rfl)
          try simp only [Act.put, List.getElem_toArray, List.getElem_cons_zero, List.getElem_cons_succ, List.setIfInBounds_toArray, List.set_cons_zero, List.set_cons_succ]
          refine wpAnyH_take (i := 6) (oi := _) (v := ?_) rfl (by kernel_rfl) (by kernel_rfl) (by kernel_rfl) (fun _ _ _ h => h) (Or.inl ⟨by rfl, ?_⟩) hHeld ?_
          rotate_left
          · (intro w' hSw; (try dsimp only at hSw); go_simp; try with_reducible rfl)
          try simp only [Act.put, List.getElem_toArray, List.getElem_cons_zero, List.getElem_cons_succ, List.setIfInBounds_toArray, List.set_cons_zero, List.set_cons_succ]
          refine wpAnyH_take (i := 7) (oi := _) (v := ?_) rfl (by kernel_rfl) (by kernel_rfl) (by kernel_rfl) (fun _ _ _ h => h) (Or.inl ⟨by rfl, ?_⟩) hHeld ?_
          rotate_left
          · (intro w' hSw; (try dsimp only at hSw); go_simp; try with_reducible rfl)
          try simp only [Act.put, List.getElem_toArray, List.getElem_cons_zero, List.getElem_cons_succ, List.setIfInBounds_toArray, List.set_cons_zero, List.set_cons_succ]
          refine wpAnyH_take (i := 8) (oi := _) (v := ?_) rfl (by kernel_rfl) (by kernel_rfl) (by kernel_rfl) (fun _ _ _ h => h) (Or.inl ⟨by rfl, ?_⟩) hHeld ?_
          rotate_left
          · (intro w' hSw; (try dsimp only at hSw); go_simp; try with_reducible rfl)
          try simp only [Act.put, List.getElem_toArray, List.getElem_cons_zero, List.getElem_cons_succ, List.setIfInBounds_toArray, List.set_cons_zero, List.set_cons_succ]
          refine wpAnyH_take (i := 9) (oi := _) (v := ?_) rfl (by kernel_rfl) (by kernel_rfl) (by kernel_rfl) (fun _ _ _ h => h) (Or.inl ⟨by rfl, ?_⟩) hHeld ?_
          rotate_left
          · (intro w' hSw; (try dsimp only at hSw); go_simp; try with_reducible rfl)
          try simp only [Act.put, List.getElem_toArray, List.getElem_cons_zero, List.getElem_cons_succ, List.setIfInBounds_toArray, List.set_cons_zero, List.set_cons_succ]
          refine wpAnyH_take (i := 10) (oi := _) (v := ?_) rfl (by kernel_rfl) (by kernel_rfl) (by kernel_rfl) (fun _ _ _ h => h) (Or.inl ⟨by rfl, ?_⟩) hHeld ?_
          rotate_left
          · (intro w' hSw; (try dsimp only at hSw); go_simp; try with_reducible rfl)
          try simp only [Act.put, List.getElem_toArray, List.getElem_cons_zero, List.getElem_cons_succ, List.setIfInBounds_toArray, List.set_cons_zero, List.set_cons_succ]
          refine wpAnyH_take (i := 11) (oi := _) (v := ?_) rfl (by kernel_rfl) (by kernel_rfl) (by kernel_rfl) (fun _ _ _ h => h) (Or.inl ⟨by rfl, ?_⟩) hHeld ?_
          rotate_left
          · (intro w' hSw; (try dsimp only at hSw); go_simp; try with_reducible rfl)
          try simp only [Act.put, List.getElem_toArray, List.getElem_cons_zero, List.getElem_cons_succ, List.setIfInBounds_toArray, List.set_cons_zero, List.set_cons_succ]
          refine wpAnyH_take (i := 12) (oi := _) (v := ?_) rfl (by kernel_rfl) (by kernel_rfl) (by kernel_rfl) (fun _ _ _ h => h) (Or.inl ⟨by rfl, ?_⟩) hHeld ?_
          rotate_left
          · (intro w' hSw; (try dsimp only at hSw); go_simp; try with_reducible rfl)
          try simp only [Act.put, List.getElem_toArray, List.getElem_cons_zero, List.getElem_cons_succ, List.setIfInBounds_toArray, List.set_cons_zero, List.set_cons_succ]
          refine wpAnyH_take (i := 13) (oi := _) (v := ?_) rfl (by kernel_rfl) (by kernel_rfl) (by kernel_rfl) (fun _ _ _ h => h) (Or.inl ⟨by rfl, ?_⟩) hHeld ?_
          rotate_left
          · (intro w' hSw; (try dsimp only at hSw); go_simp; try with_reducible rfl)
          try simp only [Act.put, List.getElem_toArray, List.getElem_cons_zero, List.getElem_cons_succ, List.setIfInBounds_toArray, List.set_cons_zero, List.set_cons_succ]
          refine wpAnyH_take (i := 14) (oi := _) (v := ?_) rfl (by kernel_rfl) (by kernel_rfl) (by kernel_rfl) (fun _ _ _ h => h) (Or.inl ⟨by rfl, ?_⟩) hHeld ?_
          rotate_left
          · (intro w' hSw; (try dsimp only at hSw); go_simp; try with_reducible rfl)
          try simp only [Act.put, List.getElem_toArray, List.getElem_cons_zero, List.getElem_cons_succ, List.setIfInBounds_toArray, List.set_cons_zero, List.set_cons_succ]
          refine wpAnyH_take (i := 15) (oi := _) (v := ?_) rfl (by kernel_rfl) (by kernel_rfl) (by kernel_rfl) (fun _ _ _ h => h) (Or.inl ⟨by rfl, ?_⟩) hHeld ?_
          rotate_left
          · (intro w' hSw; (try dsimp only at hSw); go_simp; try with_reducible rfl)
          try simp only [Act.put, List.getElem_toArray, List.getElem_cons_zero, List.getElem_cons_succ, List.setIfInBounds_toArray, List.set_cons_zero, List.set_cons_succ]
          refine wpAnyH_take (i := 16) (oi := _) (v := ?_) rfl (by kernel_rfl) (by kernel_rfl) (by kernel_rfl) (fun _ _ _ h => h) (Or.inl ⟨by rfl, ?_⟩) hHeld ?_
          rotate_left
          · (intro w' hSw; (try dsimp only at hSw); go_simp; try with_reducible rfl)
          try simp only [Act.put, List.getElem_toArray, List.getElem_cons_zero, List.getElem_cons_succ, List.setIfInBounds_toArray, List.set_cons_zero, List.set_cons_succ]
          refine wpAnyH_take (i := 17) (oi := _) (v := ?_) rfl (by kernel_rfl) (by kernel_rfl) (by kernel_rfl) (fun _ _ _ h => h) (Or.inl ⟨by rfl, ?_⟩) hHeld ?_
          rotate_left
          · (intro w' hSw; (try dsimp only at hSw); go_simp; try with_reducible rfl)
          try simp only [Act.put, List.getElem_toArray, List.getElem_cons_zero, List.getElem_cons_succ, List.setIfInBounds_toArray, List.set_cons_zero, List.set_cons_succ]
          refine wpAnyH_ready (rs := [18]) (by kernel_rfl) (by simp) ?_
          refine AllReadyH.cons (o := _) rfl (fun K hK => ?_) ?_
          · go_simp
            (refine (same_mark kk _).mono ?_; rintro e w3 ⟨rfl, hb3⟩)
            go_wp2_with fail
            refine hK.out _ _ (LookAt.keep hHeld hb3 hlb hlm hli hlu) (fun hH18 => ?_)
            clear hK K
            refine wpAnyH_take (i := 19) (oi := _) (v := ?_) rfl (by kernel_rfl) (by kernel_rfl) (by kernel_rfl) (fun _ _ _ h => h) (Or.inl ⟨by rfl, ?_⟩) hH18 ?_
            rotate_left
            · (intro w' hSw; (try dsimp only at hSw); go_simp; try with_reducible rfl)
            try simp only [Act.put, List.getElem_toArray, List.getElem_cons_zero, List.getElem_cons_succ, List.setIfInBounds_toArray, List.set_cons_zero, List.set_cons_succ]
            refine wpAnyH_done (by kernel_rfl) ?_ _
            refine NoPanic.normal ?_
            go_wp2_with fail
            go_roundw
            case rel => exact ⟨j + 1, by omega, by go_num, hBj.trans ((hH18.1).mono hBj.size)⟩
            case measure => simp [intOf]; omega
          exact AllReadyH.nil
        · go_wp2_with fail
          go_roundw
          case rel => exact ⟨i + 1, by omega, by go_num, hBr.trans (hBj.mono hBr.size)⟩
          case measure => simp [intOf]; omega
    · go_wp2
      refine wp_loop_rounds 1 ?_
      rw [rounds_succ]
      go_wp2
      go_ret
      exact ⟨rfl, hBr⟩
end Go.Proofs.YtpobhljcainmdaaGreat
