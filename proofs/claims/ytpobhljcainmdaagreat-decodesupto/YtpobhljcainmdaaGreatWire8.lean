/- Proved here: how the program's reader follows a message. -/
import Derived.Test.YtpobhljcainmdaaGreatWire7
import Derived.Test.YtpobhljcainmdaaGreatRuns
namespace Go.Proofs.YtpobhljcainmdaaGreat
open Go.RowKit
set_option linter.unusedSimpArgs false
attribute [local go_sem ↓] Go.wp_at_zero Go.wp_at_succ
attribute [local go_sem] alloc_drewN setCell_drewN

/-- One block of the reader's own has turned, or none. -/
def Turned (w w' : World) (rb mb : Nat) : Prop := ∃ row, w.grownBy w' row ∧ ∀ r, row = some r → r = rb ∨ r = mb

theorem uses_put {w : World} {mb : Nat} {us : List Int} (h : Uses w mb us) (ck : Int) (hck : 0 ≤ ck ∧ ck ≤ 65535) (hl : us.length < maxLen) :
    ∃ w', (Instr.mapUpdate 226 (.map (some mb)) (.int .i64 ck) (.agg #[])).run Tryz.prog w = .ok () w' ∧ Uses w' mb (us ++ [ck]) ∧ w.grownBy w' (some mb) := by
  obtain ⟨w', hrun, hown, hg⟩ := h.update (Maps.int_keyed Tryz.underlying3) Tryz.underlying226 hl (key := .int .i64 ck) (val := .agg #[]) (kl := .int .i64 ck) (d := .agg []) (ps := []) (Maps.keyOf_int_mk Tryz.underlying3 (by simp [Lit.wf, IntKind.min, IntKind.max, IntKind.signed, IntKind.bits]; omega)) unitElem_mk
  refine ⟨w', hrun, ?_, hg⟩
  unfold Uses
  rw [List.map_append, List.length_append, List.map_cons, List.map_nil, Maps.setOf_snoc]
  exact hown

theorem RdAt.phase {w : World} {rb mb : Nat} {sz mx ph : Int} {us : List Int} (h : RdAt w rb mb sz mx ph us) (p : Int) : RdAt (w.setCell ⟨rb, 2, none⟩ (.int .i64 p)) rb mb sz mx p us := by
  have hne : mb ≠ rb := fun e => by
    obtain ⟨es, clock, hb, _⟩ := h.uses
    rw [e, h.box] at hb
    cases hb
  refine ⟨?_, h.uses.setCell hne _⟩
  have hlt := h.lt.1
  have hb := (Array.getElem?_eq_some_iff.1 h.box).2
  simp only [World.setCell, Array.getElem?_modify]
  simp [h.box]

theorem RdAt.frozen {w : World} {rb mb : Nat} {sz mx ph : Int} {us : List Int} (h : RdAt w rb mb sz mx ph us) : w.frozen? ⟨rb, 2, none⟩ = false := by
  simp [World.frozen?, h.box]

theorem RdAt.drew {w : World} {rb mb : Nat} {sz mx ph : Int} {us : List Int} (h : RdAt w rb mb sz mx ph us) : RdAt w.drew rb mb sz mx ph us := ⟨h.box, h.uses⟩

theorem fr_end {R : Ending → World → Prop} {a : Act} {w : World} (hd : a.defers = []) (h : R (.returned (.tuple #[])) w) : bodyPost Tryz.prog Tryz.f231 R Exit.normal a w :=
  ⟨hd, .tuple #[], by simp [results, Tryz.results231], h⟩

set_option maxRecDepth 100000 in
set_option maxHeartbeats 2000000 in
theorem followReq_any (rb mb : Nat) (sz mx ph : Int) (us : List Int) (m : Msg) (w : World) (hR : RdAt w rb mb sz mx ph us) (hck : 0 ≤ m.ck ∧ m.ck ≤ 65535) (hl : us.length < maxLen) :
    Calls Tryz.prog 231 #[.pointer (some ⟨rb, 0, none⟩), m.val] w fun e w' => e = .returned (.tuple #[]) ∧ RdAt w' rb mb sz mx (if m.er = 0 ∧ m.kd = 5 then 3 else ph) (if m.er = 0 ∧ m.kd ≠ 5 then us ++ [m.ck] else us) ∧ Turned w w' rb mb := by
  obtain ⟨wh, nm, kd, fl, ck, of, ln, dt, er⟩ := m
  dsimp only at hck ⊢
  obtain ⟨g0, g1, g2, g3⟩ := hR.cell
  have hrb := hR.lt.1
  have q0 : ¬ rb = w.heap.size := by omega
  have f2 := hR.frozen
  have HR : Hid (RdAt w rb mb sz mx ph us) := hR
  clear hR
  generalize hP : (if er = 0 ∧ kd = 5 then 3 else ph) = P
  generalize hU : (if er = 0 ∧ kd ≠ 5 then us ++ [ck] else us) = U
  by_cases he : er = 0
  · subst he
    by_cases hk : kd = 5
    · subst hk
      obtain rfl : 3 = P := by simpa using hP
      obtain rfl : us = U := by simpa using hU
      clear hP hU
      go_enter Tryz.func231, Tryz.ntmps231
      go_wp2
      refine fr_end rfl ⟨rfl, ?_, some rb, (grown_set w rb 2 _).trans (World.grownBy_alloc _ _ (some rb)), fun r e => .inl (by cases e; rfl)⟩
      exact (HR.out.phase 3).kept (World.grownBy_alloc _ _ none) (by simp) (by simp)
    · obtain rfl : ph = P := by simpa [hk] using hP
      obtain rfl : us ++ [ck] = U := by simpa [hk] using hU
      clear hP hU
      have kb : (kd == 5) = false := by simpa using hk
      have hR0 : RdAt ((w.alloc (.cells (msgL wh nm kd fl ck of ln dt 0) 132)).drew) rb mb sz mx ph us := (HR.out.kept (World.grownBy_alloc _ _ none) (by simp) (by simp)).drew
      obtain ⟨w2, hrun, hu2, hg2⟩ := uses_put hR0.uses ck hck hl
      have hne : some rb ≠ some mb := fun e => by
        obtain ⟨es, clock, hb, _⟩ := hR0.uses
        cases e
        rw [hR0.box] at hb
        cases hb
      have hdone : RdAt w2 rb mb sz mx ph (us ++ [ck]) := ⟨(hg2.block _ hR0.lt.1 hne).trans hR0.box, hu2⟩
      have hturn : Turned w w2 rb mb := ⟨some mb, World.grownBy.trans (b := (w.alloc (.cells (msgL wh nm kd fl ck of ln dt 0) 132)).drew) ⟨rfl, rfl, rfl, by simp, fun k hk' _ => Below.heap_alloc _ _ _ hk'⟩ hg2, fun r e => .inr (by cases e; rfl)⟩
      have c3 := hR0.cell.2.2.2
      have hmb := HR.out.lt.2
      have hk4 : w2.cell? ⟨w.heap.size, 4, none⟩ = some (.int .i64 ck) := (World.cell?_of_block (hg2.block _ (by simp) (fun e => absurd hmb (by cases e; exact Nat.lt_irrefl _)))).trans (by simp [go_sem])
      have HKP : Hid (w2.cell? ⟨rb, 3, none⟩ = some (.map (some mb)) ∧ w2.cell? ⟨w.heap.size, 4, none⟩ = some (.int .i64 ck)) := ⟨hdone.cell.2.2.2, hk4⟩
      clear hk4
      have HK : Hid (¬ kd = 5) := hk
      clear hk hR0 hu2 hg2 hne
      go_enter Tryz.func231, Tryz.ntmps231
      go_upto_region 1 with fail
      refine wp_region_noPanic ?_
      refine wp_region_held_drew (S := fun w' => w'.cell? ⟨rb, 3, none⟩ = some (.map (some mb)) ∧ w'.cell? ⟨w.heap.size, 4, none⟩ = some (.int .i64 ck)) (by kernel_rfl) ⟨c3, by simp [go_sem]⟩ ?_
      intro hHeld
      refine wpAnyH_take (i := 0) (oi := _) (v := ?_) rfl (by kernel_rfl) (by kernel_rfl) (by kernel_rfl) (fun _ _ _ h => h) (Or.inl ⟨by rfl, ?_⟩) hHeld ?_
      rotate_left
      · (intro w' hSw; (try dsimp only at hSw); go_simp; try with_reducible rfl)
      try simp only [Act.put, List.getElem_toArray, List.getElem_cons_zero, List.getElem_cons_succ, List.setIfInBounds_toArray, List.set_cons_zero, List.set_cons_succ]
      refine wpAnyH_take (i := 1) (oi := _) (v := ?_) rfl (by kernel_rfl) (by kernel_rfl) (by kernel_rfl) (fun _ _ _ h => h) (Or.inl ⟨by rfl, ?_⟩) hHeld ?_
      rotate_left
      · (intro w' hSw; (try dsimp only at hSw); go_simp; try with_reducible rfl)
      try simp only [Act.put, List.getElem_toArray, List.getElem_cons_zero, List.getElem_cons_succ, List.setIfInBounds_toArray, List.set_cons_zero, List.set_cons_succ]
      refine wpAnyH_take (i := 2) (oi := _) (v := ?_) rfl (by kernel_rfl) (by kernel_rfl) (by kernel_rfl) (fun _ _ _ h => h) (Or.inl ⟨by rfl, ?_⟩) hHeld ?_
      rotate_left
      · (intro w' hSw; (try dsimp only at hSw); go_simp; try with_reducible rfl)
      try simp only [Act.put, List.getElem_toArray, List.getElem_cons_zero, List.getElem_cons_succ, List.setIfInBounds_toArray, List.set_cons_zero, List.set_cons_succ]
      refine wpAnyH_take (i := 3) (oi := _) (v := ?_) rfl (by kernel_rfl) (by kernel_rfl) (by kernel_rfl) (fun _ _ _ h => h) (Or.inl ⟨by rfl, ?_⟩) hHeld ?_
      rotate_left
      · (intro w' hSw; (try dsimp only at hSw); go_simp; try with_reducible rfl)
      try simp only [Act.put, List.getElem_toArray, List.getElem_cons_zero, List.getElem_cons_succ, List.setIfInBounds_toArray, List.set_cons_zero, List.set_cons_succ]
      refine wpAnyH_take (i := 4) (oi := _) (v := ?_) rfl (by kernel_rfl) (by kernel_rfl) (by kernel_rfl) (fun _ _ _ h => h) (Or.inl ⟨by rfl, ?_⟩) hHeld ?_
      rotate_left
      · (intro w' hSw; (try dsimp only at hSw); go_simp; try with_reducible rfl)
      try simp only [Act.put, List.getElem_toArray, List.getElem_cons_zero, List.getElem_cons_succ, List.setIfInBounds_toArray, List.set_cons_zero, List.set_cons_succ]
      refine wpAnyH_take (i := 5) (oi := _) (v := ?_) rfl (by kernel_rfl) (by kernel_rfl) (by kernel_rfl) (fun _ _ _ h => h) (Or.inl ⟨by rfl, ?_⟩) hHeld ?_
      rotate_left
      · (intro w' hSw; (try dsimp only at hSw); go_simp; try with_reducible rfl)
      try simp only [Act.put, List.getElem_toArray, List.getElem_cons_zero, List.getElem_cons_succ, List.setIfInBounds_toArray, List.set_cons_zero, List.set_cons_succ]
      refine wpAnyH_take (i := 6) (oi := _) (v := ?_) rfl (by kernel_rfl) (by kernel_rfl) (by kernel_rfl) (fun _ _ _ h => h) (Or.inl ⟨by rfl, ?_⟩) hHeld ?_
      rotate_left
      · (intro w' hSw; (try dsimp only at hSw); go_simp; try with_reducible rfl)
      try simp only [Act.put, List.getElem_toArray, List.getElem_cons_zero, List.getElem_cons_succ, List.setIfInBounds_toArray, List.set_cons_zero, List.set_cons_succ]
      refine wpAnyH_ready (rs := [7]) (by kernel_rfl) (by simp) ?_
      refine AllReadyH.cons (o := _) rfl (fun K hK => ?_) ?_
      · go_simp
        refine hK.out _ _ (HKP.out) (fun hH7 => ?_)
        clear hK K
        refine wpAnyH_done (by kernel_rfl) ?_ _
        (refine NoPanic.normal ?_; go_wp2_with fail; exact fr_end rfl ⟨rfl, hdone, hturn⟩)
      exact AllReadyH.nil
  · obtain rfl : ph = P := by simpa [he] using hP
    obtain rfl : us = U := by simpa [he] using hU
    have eb : (er != 0) = true := by simpa using he
    clear he hP hU
    go_enter Tryz.func231, Tryz.ntmps231
    go_wp2
    refine fr_end rfl ⟨rfl, ?_, none, World.grownBy_alloc _ _ none, fun r e => by cases e⟩
    exact HR.out.kept (World.grownBy_alloc _ _ none) (by simp) (by simp)

theorem fl_end {R : Ending → World → Prop} {a : Act} {w : World} (hd : a.defers = []) (h : R (.returned (.tuple #[])) w) : bodyPost Tryz.prog Tryz.f191 R Exit.normal a w :=
  ⟨hd, .tuple #[], by simp [results, Tryz.results191], h⟩

/-- The cookies in use behind a message. -/
abbrev usedBy (us : List Int) (m : Msg) : List Int := if accepted m then us ++ [m.ck] else us

set_option maxRecDepth 100000 in
set_option maxHeartbeats 2000000 in
theorem follow_any (rb mb : Nat) (sz mx ph : Int) (us : List Int) (m : Msg) (w : World) (hR : RdAt w rb mb sz mx ph us) (hck : 0 ≤ m.ck ∧ m.ck ≤ 65535) (hl : us.length < maxLen) :
    Calls Tryz.prog 191 #[.pointer (some ⟨rb, 0, none⟩), m.val] w fun e w' => e = .returned (.tuple #[]) ∧ RdAt w' rb mb sz mx (after ph m) (usedBy us m) ∧ Turned w w' rb mb := by
  obtain ⟨wh, nm, kd, fl, ck, of, ln, dt, er⟩ := m
  dsimp only at hck
  obtain ⟨g0, g1, g2, g3⟩ := hR.cell
  have hrb := hR.lt.1
  have q0 : ¬ rb = w.heap.size := by omega
  have f2 := hR.frozen
  have HR : Hid (RdAt w rb mb sz mx ph us) := hR
  clear hR
  generalize hP : after ph ⟨wh, nm, kd, fl, ck, of, ln, dt, er⟩ = P
  generalize hU : usedBy us ⟨wh, nm, kd, fl, ck, of, ln, dt, er⟩ = U
  have HP : Hid (after ph ⟨wh, nm, kd, fl, ck, of, ln, dt, er⟩ = P) := hP
  have HU : Hid (usedBy us ⟨wh, nm, kd, fl, ck, of, ln, dt, er⟩ = U) := hU
  clear hP hU
  have stay : Hid (P = ph → U = us → RdAt (w.alloc (.cells (msgL wh nm kd fl ck of ln dt er) 132)) rb mb sz mx P U ∧ Turned w (w.alloc (.cells (msgL wh nm kd fl ck of ln dt er) 132)) rb mb) := fun e1 e2 => by
    rw [e1, e2]
    exact ⟨HR.out.kept (World.grownBy_alloc _ _ none) (by simp) (by simp), none, World.grownBy_alloc _ _ none, fun r e => by cases e⟩
  have move : Hid (∀ p, P = p → U = us → RdAt ((w.setCell ⟨rb, 2, none⟩ (.int .i64 p)).alloc (.cells (msgL wh nm kd fl ck of ln dt er) 132)) rb mb sz mx P U ∧ Turned w ((w.setCell ⟨rb, 2, none⟩ (.int .i64 p)).alloc (.cells (msgL wh nm kd fl ck of ln dt er) 132)) rb mb) := fun p e1 e2 => by
    rw [e1, e2]
    exact ⟨(HR.out.phase p).kept (World.grownBy_alloc _ _ none) (by simp) (by simp), some rb, (grown_set w rb 2 _).trans (World.grownBy_alloc _ _ (some rb)), fun r e => .inl (by cases e; rfl)⟩
  by_cases h3 : wh = 3
  · subst h3
    have hq : Hid (Calls Tryz.prog 231 #[.pointer (some ⟨rb, 0, none⟩), .agg (msgL 3 nm kd fl ck of ln dt er)] (w.alloc (.cells (msgL 3 nm kd fl ck of ln dt er) 132)) fun e w' => e = .returned (.tuple #[]) ∧ RdAt w' rb mb sz mx P U ∧ Turned w w' rb mb) := by
      refine (followReq_any rb mb sz mx ph us ⟨3, nm, kd, fl, ck, of, ln, dt, er⟩ _ (HR.out.kept (World.grownBy_alloc _ _ none) (by simp) (by simp)) hck hl).mono ?_
      rintro e w' ⟨he, hr, row, hg, hrow⟩
      have e1 : (if er = 0 ∧ kd = 5 then 3 else ph) = P := by
        rw [← HP.out]
        simp [after, and_comm]
      have e2 : (if er = 0 ∧ kd ≠ 5 then us ++ [ck] else us) = U := by
        rw [← HU.out]
        simp [usedBy, accepted]
      dsimp only at hr
      rw [e1, e2] at hr
      exact ⟨he, hr, row, (World.grownBy_alloc _ _ row).trans hg, hrow⟩
    clear stay move
    go_enter Tryz.func191, Tryz.ntmps191
    go_wp2_with (go_at_call 231; refine hq.out.mono ?_; rintro e w1 ⟨rfl, hr1, ht1⟩)
    exact fl_end rfl ⟨rfl, hr1, ht1⟩
  · have b3 : (wh == 3) = false := by simpa using h3
    have hU : Hid (U = us) := by
      show U = us
      rw [← HU.out]
      simp [usedBy, accepted, h3]
    have H3 : Hid (¬ wh = 3) := h3
    clear h3
    by_cases h1 : wh = 1
    · subst h1
      cases hn : nm.toList == [97] with
      | true =>
        have hP : Hid (P = 1) := by show P = 1; rw [← HP.out]; simp only [after, hn]; simp
        go_enter Tryz.func191, Tryz.ntmps191
        go_wp2_with fail
        exact fl_end rfl ⟨rfl, move.out 1 hP.out hU.out⟩
      | false =>
        have hP : Hid (P = ph) := by show P = ph; rw [← HP.out]; simp only [after, hn]; simp
        go_enter Tryz.func191, Tryz.ntmps191
        go_wp2_with fail
        exact fl_end rfl ⟨rfl, stay.out hP.out hU.out⟩
    · have b1 : (wh == 1) = false := by simpa using h1
      have H1 : Hid (¬ wh = 1) := h1
      clear h1
      by_cases h2 : wh = 2
      · subst h2
        cases hn : nm.toList == [103] with
        | true =>
          have hP : Hid (P = 2) := by show P = 2; rw [← HP.out]; simp only [after, hn]; simp
          go_enter Tryz.func191, Tryz.ntmps191
          go_wp2_with fail
          exact fl_end rfl ⟨rfl, move.out 2 hP.out hU.out⟩
        | false =>
          have hP : Hid (P = ph) := by show P = ph; rw [← HP.out]; simp only [after, hn]; simp
          go_enter Tryz.func191, Tryz.ntmps191
          go_wp2_with fail
          exact fl_end rfl ⟨rfl, stay.out hP.out hU.out⟩
      · have b2 : (wh == 2) = false := by simpa using h2
        have H2 : Hid (¬ wh = 2) := h2
        clear h2
        by_cases h4 : wh = 4
        · subst h4
          have hP : Hid (P = 4) := by show P = 4; rw [← HP.out]; simp [after]
          go_enter Tryz.func191, Tryz.ntmps191
          go_wp2_with fail
          exact fl_end rfl ⟨rfl, move.out 4 hP.out hU.out⟩
        · have b4 : (wh == 4) = false := by simpa using h4
          have hP : Hid (P = ph) := by show P = ph; rw [← HP.out]; simp [after, H1.out, H2.out, H3.out, h4]
          clear h4
          go_enter Tryz.func191, Tryz.ntmps191
          go_wp2_with fail
          exact fl_end rfl ⟨rfl, stay.out hP.out hU.out⟩
end Go.Proofs.YtpobhljcainmdaaGreat
