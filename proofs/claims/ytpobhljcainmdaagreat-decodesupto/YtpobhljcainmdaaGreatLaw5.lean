/- Proved here: a Decode of a script is held against the document's, if the program's Decode answers as the plain mathematics says (the walk). -/
import Derived.Test.YtpobhljcainmdaaGreatLaw4
namespace Go.Proofs.YtpobhljcainmdaaGreat
open Go.RowKit
set_option linter.unusedSimpArgs false
attribute [local go_sem ↓] Go.wp_at_zero Go.wp_at_succ
attribute [local go_sem] alloc_drewN setCell_drewN

theorem decode_len (sz mx : Int) (s : ByteArray) (f : Nat) (ph : Int) (used : List Int) (at' : Nat) (h : at' ≤ s.size) : (decode sz mx s f ph used at').1.length ≤ s.size - at' := by
  induction f generalizing ph used at' with
  | zero => simp [decode]
  | succ f ih =>
    have hl := first_le sz mx ph used (s.extract at' s.size)
    rw [extract_size] at hl
    rw [decode]
    by_cases h0 : (first sz mx ph used (s.extract at' s.size)).2 = 0
    · simp [h0]
    · simp only [h0, if_false, List.length_cons]
      have := ih (after ph (first sz mx ph used (s.extract at' s.size)).1) (if accepted (first sz mx ph used (s.extract at' s.size)).1 then used ++ [(first sz mx ph used (s.extract at' s.size)).1.ck] else used) (at' + (first sz mx ph used (s.extract at' s.size)).2.toNat) (by omega)
      omega

theorem decodeAll_len (sz cl qu mx qn rt bu wk ou ph : Int) (s : ByteArray) : (decodeAll sz cl qu mx qn rt bu wk ou ph s).1.length ≤ s.size := by
  unfold decodeAll
  split
  · exact decode_len sz mx s _ ph [] 0 (Nat.zero_le _)
  · simp

/-- Nine cells hold a message, from an offset on. -/
abbrev MsgAtO (w : World) (g o : Nat) (m : Msg) : Prop :=
  w.cell? ⟨g, o, none⟩ = some (.int .i64 m.wh) ∧ w.cell? ⟨g, o + 1, none⟩ = some (.string m.nm) ∧ w.cell? ⟨g, o + 2, none⟩ = some (.int .i64 m.kd) ∧ w.cell? ⟨g, o + 3, none⟩ = some (.int .i64 m.fl) ∧ w.cell? ⟨g, o + 4, none⟩ = some (.int .i64 m.ck) ∧ w.cell? ⟨g, o + 5, none⟩ = some (.int .i64 m.of) ∧ w.cell? ⟨g, o + 6, none⟩ = some (.int .i64 m.ln) ∧ w.cell? ⟨g, o + 7, none⟩ = some (.string m.dt) ∧ w.cell? ⟨g, o + 8, none⟩ = some (.int .i64 m.er)

theorem msgO {w : World} {B g cap : Nat} {ms : List Msg} (h : w.ownsRow B 132 9 (.slice (some ⟨g, 0, none⟩) ms.length cap) ms.length (ms.flatMap Msg.cells)) (i : Nat) (hi : i < ms.length) : MsgAtO w g (i * 9) (ms[i]) := by
  have t := msg_at_row h i hi
  exact ⟨t 0 (by omega), t 1 (by omega), t 2 (by omega), t 3 (by omega), t 4 (by omega), t 5 (by omega), t 6 (by omega), t 7 (by omega), t 8 (by omega)⟩

theorem MsgAtO.later {w w' : World} {B g o : Nat} {m : Msg} (h : MsgAtO w g o m) (hb : Below B w w') (hlt : g < B) : MsgAtO w' g o m := by
  obtain ⟨h0, h1, h2, h3, h4, h5, h6, h7, h8⟩ := h
  exact ⟨(hb.cell hlt).trans h0, (hb.cell hlt).trans h1, (hb.cell hlt).trans h2, (hb.cell hlt).trans h3, (hb.cell hlt).trans h4, (hb.cell hlt).trans h5, (hb.cell hlt).trans h6, (hb.cell hlt).trans h7, (hb.cell hlt).trans h8⟩

abbrev TwoAt (wr : World) (g1 g2 o : Nat) (m : Msg) (w' : World) : Prop := Below wr.heap.size wr w' ∧ MsgAtO w' g1 o m ∧ MsgAtO w' g2 o m

theorem TwoAt.keep {wr W w3 : World} {g1 g2 o : Nat} {m : Msg} (h : TwoAt wr g1 g2 o m W) (hb : Below W.heap.size W w3) (h1 : g1 < wr.heap.size) (h2 : g2 < wr.heap.size) : TwoAt wr g1 g2 o m w3 :=
  ⟨h.1.trans (hb.mono h.1.size), h.2.1.later hb (Nat.lt_of_lt_of_le h1 h.1.size), h.2.2.later hb (Nat.lt_of_lt_of_le h2 h.1.size)⟩

set_option maxRecDepth 100000 in
set_option maxHeartbeats 1000000 in
theorem decoded_any (hD : SaidDecode) (b k : Nat) (kd at' sz cl qu mx qn rt bu wk ou : Int) (s : ByteArray) (x y : Int) (on : Bool) (w : World) (hL : LW b k w) (hk : k < 1048576) (hs : s.size ≤ 1048576) :
    Calls Tryz.prog 83 #[.pointer (some ⟨b, 0, none⟩), opV kd at' sz cl qu mx qn rt bu wk ou s x y on] w fun e w' => e = .returned (.bool true) ∧ LW b (k + 1) w' ∧ Below b w w' := by
  have HL : Hid (LW b k w) := hL
  clear hL
  go_enter Tryz.func83, Tryz.ntmps83
  go_wp2_with (first | (go_at_call 121; refine (hD sz cl qu mx qn rt bu wk ou x s _ hs).mono ?_; rintro e w1 ⟨v, ms, n, hr, rfl, hrow, hb1⟩; obtain ⟨a1, q1, rfl⟩ := form_of_row hrow; have Hr : Hid ((ms, n) = decodeAll sz cl qu mx qn rt bu wk ou x s) := hr; have Hrow : Hid (w1.ownsRow (w.heap.size + 1) 132 9 (.slice a1 ms.length q1) ms.length (ms.flatMap Msg.cells)) := row_base hrow (by simp); clear hr hrow; obtain ⟨hc1, hf1⟩ := bcell hb1) | (go_at_call 122; refine (rdecode_all sz cl qu mx qn rt bu wk ou x s _ hs).mono ?_; rintro e w2 ⟨v', ms', n', hr', rfl, hrow', hb2⟩; obtain ⟨e1, e2⟩ : ms = ms' ∧ n = n' := (by have := Hr.out.trans hr'.symm; simpa using this); subst e1; subst e2; obtain ⟨a2, q2, rfl⟩ := form_of_row hrow'; have Hrow2 : Hid (w2.ownsRow 0 132 9 (.slice a2 ms.length q2) ms.length (ms.flatMap Msg.cells)) := row_base hrow' (Nat.zero_le _); clear hrow' hr'))
  have hml : ms.length ≤ 1048576 := by
    have h := decodeAll_len sz cl qu mx qn rt bu wk ou x s
    rw [← Hr.out] at h
    exact Nat.le_trans h hs
  have hsz1 : w.heap.size + 1 ≤ w1.heap.size := by have := hb1.size; simpa using this
  have hB2 : Below w.heap.size w w2 := (((Below.refl _ _).alloc (Nat.le_refl _) _).trans (hb1.mono (by simp))).trans (hb2.mono (by omega))
  have Hrow1 : Hid (w2.ownsRow (w.heap.size + 1) 132 9 (.slice a1 ms.length q1) ms.length (ms.flatMap Msg.cells)) := row_below Hrow.out hb2
  clear hc1 hf1
  go_loopw [9] (fun i wr => ∃ j : Nat, j ≤ ms.length ∧ i = .int .i64 j ∧ Below w2.heap.size w2 wr) (fun i _ => ms.length - (intOf i).toNat)
  case atStart => exact ⟨0, Nat.zero_le _, rfl, Below.refl _ _⟩
  case round =>
    obtain ⟨j, hj, rfl, hBr⟩ := hrel
    by_cases hlt : j < ms.length
    · have R1 := row_below Hrow1.out hBr
      have R2 := row_below Hrow2.out hBr
      obtain ⟨g1, c1, hv1, _, hg1l⟩ := R1.form (by omega)
      obtain ⟨g2, c2, hv2, _, hg2l⟩ := R2.form (by omega)
      cases hv1
      cases hv2
      have M1 := msgO R1 j hlt
      have M2 := msgO R2 j hlt
      generalize ms[j] = m at M1 M2
      have hbox : TwoAt wr g1 g2 (j * 9) m wr.drew := ⟨(Below.refl _ _).drew, M1, M2⟩
      clear R1 R2 M1 M2
      have hjI : (0 : Int) ≤ (j : Int) := by omega
      have hjJ : (j : Int) < (ms.length : Int) := by omega
      go_wp2
      refine wp_region_noPanic ?_
      refine wp_region_held_drew (S := fun w' => TwoAt wr g1 g2 (j * 9) m w') (by kernel_rfl) hbox ?_
      intro hHeld
      refine wpAnyH_take (i := 0) (oi := _) (v := ?_) rfl (by kernel_rfl) (by kernel_rfl) (by kernel_rfl) (fun _ _ _ h => h) (Or.inl ⟨by rfl, ?_⟩) hHeld ?_
      rotate_left
      · (intro w' hSw; (try dsimp only at hSw); go_simp; try with_reducible rfl)
      try simp only [Act.put, List.getElem_toArray, List.getElem_cons_zero, List.getElem_cons_succ, List.setIfInBounds_toArray, List.set_cons_zero, List.set_cons_succ]
      refine wpAnyH_take (i := 1) (oi := _) (v := ?_) rfl (by kernel_rfl) (by kernel_rfl) (by kernel_rfl) (fun _ _ _ h => h) (Or.inl ⟨by rfl, ?_⟩) hHeld ?_
      rotate_left
      · (intro w' hSw; (try dsimp only at hSw); go_simp; try with_reducible rfl)
      try simp only [Act.put, List.getElem_toArray, List.getElem_cons_zero, List.getElem_cons_succ, List.setIfInBounds_toArray, List.set_cons_zero, List.set_cons_succ]
      refine wpAnyH_take (i := 2) (oi := _) (v := ?_) rfl (by kernel_rfl) (by kernel_rfl) (by kernel_rfl) (fun _ _ _ h => h) (Or.inl ⟨by rfl, ?_⟩) hHeld ?_
      rotate_left
      · (intro w' hSw; (try dsimp only at hSw); go_simp; try with_reducible rfl)
      try simp only [Act.put, List.getElem_toArray, List.getElem_cons_zero, List.getElem_cons_succ, List.setIfInBounds_toArray, List.set_cons_zero, List.set_cons_succ]
      refine wpAnyH_take (i := 3) (oi := _) (v := ?_) rfl (by kernel_rfl) (by kernel_rfl) (by kernel_rfl) (fun _ _ _ h => h) (Or.inl ⟨by rfl, ?_⟩) hHeld ?_
      rotate_left
      · (intro w' hSw; (try dsimp only at hSw); go_simp; try with_reducible rfl)
      try simp only [Act.put, List.getElem_toArray, List.getElem_cons_zero, List.getElem_cons_succ, List.setIfInBounds_toArray, List.set_cons_zero, List.set_cons_succ]
      refine wpAnyH_take (i := 4) (oi := _) (v := ?_) rfl (by kernel_rfl) (by kernel_rfl) (by kernel_rfl) (fun _ _ _ h => h) (Or.inl ⟨by rfl, ?_⟩) hHeld ?_
      rotate_left
      · (intro w' hSw; (try dsimp only at hSw); go_simp; try with_reducible rfl)
      try simp only [Act.put, List.getElem_toArray, List.getElem_cons_zero, List.getElem_cons_succ, List.setIfInBounds_toArray, List.set_cons_zero, List.set_cons_succ]
      refine wpAnyH_take (i := 5) (oi := _) (v := ?_) rfl (by kernel_rfl) (by kernel_rfl) (by kernel_rfl) (fun _ _ _ h => h) (Or.inl ⟨by rfl, ?_⟩) hHeld ?_
      rotate_left
      · (intro w' hSw; (try dsimp only at hSw); go_simp; try with_reducible rfl)
      try simp only [Act.put, List.getElem_toArray, List.getElem_cons_zero, List.getElem_cons_succ, List.setIfInBounds_toArray, List.set_cons_zero, List.set_cons_succ]
      refine wpAnyH_take (i := 6) (oi := _) (v := ?_) rfl (by kernel_rfl) (by kernel_rfl) (by kernel_rfl) (fun _ _ _ h => h) (Or.inl ⟨by rfl, ?_⟩) hHeld ?_
      rotate_left
      · (intro w' hSw; (try dsimp only at hSw); go_simp; try with_reducible rfl)
      try simp only [Act.put, List.getElem_toArray, List.getElem_cons_zero, List.getElem_cons_succ, List.setIfInBounds_toArray, List.set_cons_zero, List.set_cons_succ]
      refine wpAnyH_take (i := 7) (oi := _) (v := ?_) rfl (by kernel_rfl) (by kernel_rfl) (by kernel_rfl) (fun _ _ _ h => h) (Or.inl ⟨by rfl, ?_⟩) hHeld ?_
      rotate_left
      · (intro w' hSw; (try dsimp only at hSw); go_simp; try with_reducible rfl)
      try simp only [Act.put, List.getElem_toArray, List.getElem_cons_zero, List.getElem_cons_succ, List.setIfInBounds_toArray, List.set_cons_zero, List.set_cons_succ]
      refine wpAnyH_ready (rs := [8]) (by kernel_rfl) (by simp) ?_
      refine AllReadyH.cons (o := _) rfl (fun K hK => ?_) ?_
      · go_simp
        (refine (same_any m _).mono ?_; rintro e w3 ⟨rfl, hb3⟩)
        go_wp2_with fail
        refine hK.out _ _ (TwoAt.keep hHeld hb3 hg1l hg2l) (fun hH8 => ?_)
        clear hK K
        refine wpAnyH_take (i := 9) (oi := _) (v := ?_) rfl (by kernel_rfl) (by kernel_rfl) (by kernel_rfl) (fun _ _ _ h => h) (Or.inl ⟨by rfl, ?_⟩) hH8 ?_
        rotate_left
        · (intro w' hSw; (try dsimp only at hSw); go_simp; try with_reducible rfl)
        try simp only [Act.put, List.getElem_toArray, List.getElem_cons_zero, List.getElem_cons_succ, List.setIfInBounds_toArray, List.set_cons_zero, List.set_cons_succ]
        refine wpAnyH_done (by kernel_rfl) ?_ _
        refine NoPanic.normal ?_
        go_wp2_with fail
        go_roundw
        case rel => exact ⟨j + 1, by omega, by go_num, hBr.trans ((hH8.1).mono hBr.size)⟩
        case measure => simp [intOf]; omega
      exact AllReadyH.nil
    · obtain ⟨vms, vmm, ls, ks, hbox, hms, hmm, hall⟩ := HL.out
      have hbs : b < w.heap.size := (Array.getElem?_eq_some_iff.1 hbox).1
      have hBw : Below w.heap.size w wr := hB2.trans (hBr.mono hB2.size)
      have hw1 : w.heap.size + 1 ≤ wr.heap.size := by have h1 := hb2.size; have h2 := hBr.size; omega
      have K0 : Hid (Calls Tryz.prog 123 #[.pointer (some ⟨b, 0, none⟩), .slice a1 ms.length q1] wr fun e w' => e = .returned (.tuple #[]) ∧ OwnDone b (w.heap.size + 1) k ms.length (.slice a1 ms.length q1) ls ks wr w') :=
        own_any b vms vmm (.slice a1 ms.length q1) k ms.length ls ks (ms.flatMap Msg.cells) (w.heap.size + 1) wr ((hBw.block b hbs).trans hbox) (by omega) hml (by omega) hw1 (row_below hms hBw) (row_below hmm hBw) (row_below Hrow1.out hBr)
      have D0 : Hid (∀ w', OwnDone b (w.heap.size + 1) k ms.length (.slice a1 ms.length q1) ls ks wr w' → LW b (k + 1) w' ∧ Below b w w') := fun w' hd => by
        refine ⟨lw_more (w0 := w) (by omega) hml hms hmm (fun i hi => ?_) hd, ?_⟩
        · obtain ⟨u, K, nu, h1, h2, h3, h4⟩ := hall i hi
          exact ⟨u, K, nu, h1, h2, h3, row_below h4 hBw, fun g hg => by have := (row_lt h4 g hg).1; omega⟩
        · obtain ⟨_, _, _, _, _, _, _, _, _, _, _, _, _, hbl⟩ := hd
          exact (hBw.mono (by omega)).trans hbl
      clear hall hbox hms hmm
      go_wp2_with (go_at_call 123; refine K0.out.mono ?_; rintro e w9 ⟨rfl, hdone⟩; have H9 : Hid (OwnDone b (w.heap.size + 1) k ms.length (.slice a1 ms.length q1) ls ks wr w9) := hdone; clear hdone)
      go_ret
      exact ⟨rfl, D0.out _ H9.out⟩
end Go.Proofs.YtpobhljcainmdaaGreat
