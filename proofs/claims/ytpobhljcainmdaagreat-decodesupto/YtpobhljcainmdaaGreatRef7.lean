/- Proved here: what the document's Decode answers (the loop). -/
import Derived.Test.YtpobhljcainmdaaGreatRef6
namespace Go.Proofs.YtpobhljcainmdaaGreat
open Go.RowKit
set_option linter.unusedSimpArgs false
attribute [local go_sem ↓] Go.wp_at_zero Go.wp_at_succ
attribute [local go_sem] alloc_drewN setCell_drewN

theorem row_below {B : Nat} {e : TypeId} {k : Nat} {v : Value} {n : Nat} {xs : List Value} {w w' : World} (h : w.ownsRow B e k v n xs) (hb : Below w.heap.size w w') : w'.ownsRow B e k v n xs :=
  h.kept (row := none) ⟨hb.os, hb.tape, hb.output, hb.size, fun j hj _ => hb.block j hj⟩ (by cases hv : v.ownBlock <;> simp)

/-- The nine cells of a configuration at a block's head, in a world behind w1. -/
abbrev CfgBox (w1 : World) (b : Nat) (sz cl qu mx qn rt bu wk ou : Int) (w' : World) : Prop :=
  Below w1.heap.size w1 w' ∧ w'.cell? ⟨b, 0, none⟩ = some (.int .i64 sz) ∧ w'.cell? ⟨b, 1, none⟩ = some (.int .i64 cl) ∧ w'.cell? ⟨b, 2, none⟩ = some (.int .i64 qu) ∧ w'.cell? ⟨b, 3, none⟩ = some (.int .i64 mx) ∧ w'.cell? ⟨b, 4, none⟩ = some (.int .i64 qn) ∧ w'.cell? ⟨b, 5, none⟩ = some (.int .i64 rt) ∧ w'.cell? ⟨b, 6, none⟩ = some (.int .i64 bu) ∧ w'.cell? ⟨b, 7, none⟩ = some (.int .i64 wk) ∧ w'.cell? ⟨b, 8, none⟩ = some (.int .i64 ou)

theorem CfgBox.keep {w1 : World} {b : Nat} {sz cl qu mx qn rt bu wk ou : Int} {W w2 : World} (hz : b < w1.heap.size) (h : CfgBox w1 b sz cl qu mx qn rt bu wk ou W) (hb : Below w1.heap.size W w2) : CfgBox w1 b sz cl qu mx qn rt bu wk ou w2 := by
  obtain ⟨h0, h1, h2, h3, h4, h5, h6, h7, h8, h9⟩ := h
  exact ⟨h0.trans hb, (hb.cell hz).trans h1, (hb.cell hz).trans h2, (hb.cell hz).trans h3, (hb.cell hz).trans h4, (hb.cell hz).trans h5, (hb.cell hz).trans h6, (hb.cell hz).trans h7, (hb.cell hz).trans h8, (hb.cell hz).trans h9⟩

theorem CfgBox.begin {wr : World} {b : Nat} {sz cl qu mx qn rt bu wk ou : Int} (h : wr.heap[b]? = some (.cells (cfgL sz cl qu mx qn rt bu wk ou) 35 (0, 0))) : CfgBox wr b sz cl qu mx qn rt bu wk ou wr.drew := by
  refine ⟨(Below.refl _ _).drew, ?_, ?_, ?_, ?_, ?_, ?_, ?_, ?_, ?_⟩ <;> exact (cell_of_row wr b _ _ _ _ h).trans rfl

/-- Nine cells hold a message. -/
abbrev MsgAt (w : World) (b : Nat) (m : Msg) : Prop :=
  w.cell? ⟨b, 0, none⟩ = some (.int .i64 m.wh) ∧ w.cell? ⟨b, 1, none⟩ = some (.string m.nm) ∧ w.cell? ⟨b, 2, none⟩ = some (.int .i64 m.kd) ∧ w.cell? ⟨b, 3, none⟩ = some (.int .i64 m.fl) ∧ w.cell? ⟨b, 4, none⟩ = some (.int .i64 m.ck) ∧ w.cell? ⟨b, 5, none⟩ = some (.int .i64 m.of) ∧ w.cell? ⟨b, 6, none⟩ = some (.int .i64 m.ln) ∧ w.cell? ⟨b, 7, none⟩ = some (.string m.dt) ∧ w.cell? ⟨b, 8, none⟩ = some (.int .i64 m.er)

def decodeAll (sz cl qu mx qn rt bu wk ou ph : Int) (s : ByteArray) : List Msg × Int :=
  if cfgB sz cl qu mx qn rt bu wk ou = true ∧ 0 ≤ ph ∧ ph ≤ 2 then decode sz mx s (s.size + 1) ph [] 0 else ([], 0)

theorem dec_eq_step {sz mx : Int} {s : ByteArray} {ph0 : Int} {ms : List Msg} {ph : Int} {used : List Int} {at' : Nat} {m : Msg} {N : Nat} (hle : ms.length ≤ s.size)
    (h : decode sz mx s (s.size + 1) ph0 [] 0 = (ms ++ (decode sz mx s (s.size + 1 - ms.length) ph used at').1, (decode sz mx s (s.size + 1 - ms.length) ph used at').2))
    (hf : (m, (N : Int)) = first sz mx ph used (s.extract at' s.size)) (hN : N ≠ 0) :
    decode sz mx s (s.size + 1) ph0 [] 0 = ((ms ++ [m]) ++ (decode sz mx s (s.size + 1 - (ms ++ [m]).length) (after ph m) (if accepted m then used ++ [m.ck] else used) (at' + N)).1, (decode sz mx s (s.size + 1 - (ms ++ [m]).length) (after ph m) (if accepted m then used ++ [m.ck] else used) (at' + N)).2) := by
  rw [show s.size + 1 - ms.length = (s.size - ms.length) + 1 by omega, decode_step sz mx s _ ph used at' m N hf hN] at h
  rw [h, show s.size + 1 - (ms ++ [m]).length = s.size - ms.length by simp]
  simp

theorem cells_one (m : Msg) : ∀ u ∈ m.cells, u.oneCell' = true := by
  intro u hu
  simp [Msg.cells] at hu
  rcases hu with rfl | rfl | rfl | rfl | rfl | rfl | rfl | rfl | rfl <;> rfl

theorem flat_snoc (ms : List Msg) (m : Msg) : (ms ++ [m]).flatMap Msg.cells = ms.flatMap Msg.cells ++ m.cells := by simp

/-- A row's block lies in the heap. -/
theorem row_lt {w : World} {B e k n : Nat} {v : Value} {xs : List Value} (h : w.ownsRow B e k v n xs) : ∀ g, v.ownBlock = some g → g < w.heap.size ∧ B ≤ g := by
  intro g hg
  rcases h.2 with ⟨rfl, _⟩ | ⟨g', cap, cur, rfl, hb, hh, _⟩
  · cases hg
  · cases hg
    exact ⟨(Array.getElem?_eq_some_iff.1 hh).1, hb⟩

theorem MsgAt.far {w w' : World} {row : Option Nat} {b : Nat} {m : Msg} (h : MsgAt w b m) (hg : w.grownBy w' row) (hlt : b < w.heap.size) (hne : some b ≠ row) : MsgAt w' b m := by
  obtain ⟨h0, h1, h2, h3, h4, h5, h6, h7, h8⟩ := h
  exact ⟨(hg.cell_far _ hlt hne).trans h0, (hg.cell_far _ hlt hne).trans h1, (hg.cell_far _ hlt hne).trans h2, (hg.cell_far _ hlt hne).trans h3, (hg.cell_far _ hlt hne).trans h4, (hg.cell_far _ hlt hne).trans h5, (hg.cell_far _ hlt hne).trans h6, (hg.cell_far _ hlt hne).trans h7, (hg.cell_far _ hlt hne).trans h8⟩

theorem MsgAt.later {w w' : World} {b : Nat} {m : Msg} (h : MsgAt w b m) (hb : Below w.heap.size w w') (hlt : b < w.heap.size) : MsgAt w' b m :=
  h.far (row := none) ⟨hb.os, hb.tape, hb.output, hb.size, fun j hj _ => hb.block j hj⟩ hlt (by simp)

set_option maxRecDepth 100000 in
set_option maxHeartbeats 1000000 in
theorem rdecode_any (sz cl qu mx qn rt bu wk ou ph : Int) (s : ByteArray) (w : World) (hs : s.size ≤ 1048576) (hok : cfgB sz cl qu mx qn rt bu wk ou = true) (hp0 : 0 ≤ ph) (hp2 : ph ≤ 2) :
    Calls Tryz.prog 122 #[.agg (cfgL sz cl qu mx qn rt bu wk ou), .int .i64 ph, .string s] w fun e w' =>
      ∃ v ms n, (ms, n) = decode sz mx s (s.size + 1) ph [] 0 ∧ e = .returned (.tuple #[v, .int .i64 n]) ∧ w'.ownsRow (w.heap.size + 1) 132 9 v ms.length (ms.flatMap Msg.cells) ∧ Below w.heap.size w w' := by
  go_enter Tryz.func122, Tryz.ntmps122
  go_wp2_with (go_at_call 118; refine (config_any sz cl qu mx qn rt bu wk ou _).mono ?_; rw [hok]; rintro e w1 ⟨rfl, hb⟩)
  go_loopw [1, 9, 10, 11] (fun p l u a wr => ∃ (ms : List Msg) (ph' : Int) (used : List Int) (at' : Nat), p = .int .i64 ph' ∧ a = .int .i64 at' ∧ DecS w sz cl qu mx qn rt bu wk ou s ph ms ph' used at' l u wr) (fun _ _ _ a _ => s.size - (intOf a).toNat)
  case atStart =>
    refine ⟨[], ph, [], 0, rfl, rfl, ⟨((Below.refl _ _).alloc (Nat.le_refl _) _).trans (hb.mono (by simp)), ?_, World.ownsRow_nil _ _ _ _, World.ownsRow_nil _ _ _ _, Nat.zero_le _, Nat.le_refl _, Nat.le_refl _, rfl⟩⟩
    rw [hb.block _ (by simp)]
    exact heap_alloc_new w _
  case round =>
    obtain ⟨ms, ph', used, at', rfl, rfl, hS⟩ := hrel
    obtain ⟨a, cap, hvu, hints⟩ := ints_of_row hS.uses
    subst hvu
    have hle := hS.le
    have hus : used.length ≤ maxLen := by have := hS.some; have := hS.many; unfold maxLen; omega
    have hes : (s.extract at' s.size).size ≤ maxLen := by rw [extract_size]; unfold maxLen; omega
    have hz := hS.size
    have hbox := CfgBox.begin hS.box
    have HS : Hid (DecS w sz cl qu mx qn rt bu wk ou s ph ms ph' used at' u9 (.slice a used.length cap) wr) := hS
    clear hS
    go_upto_region 7 with fail
    go_cut [12, 13] (fun p q w' => ∃ (m : Msg) (n : Int) (bm : Nat), p = .pointer (some ⟨bm, 0, none⟩) ∧ q = .int .i64 n ∧ Hid ((m, n) = first sz mx ph' used (s.extract at' s.size)) ∧ Below wr.heap.size wr w' ∧ wr.heap.size ≤ bm ∧ bm < w'.heap.size ∧ MsgAt w' bm m)
    case first =>
      refine wp_region_noPanic ?_
      refine wp_region_held_drew (S := fun w' => CfgBox wr w.heap.size sz cl qu mx qn rt bu wk ou w') (by kernel_rfl) hbox ?_
      intro hHeld
      refine wpAnyH_take (i := 0) (oi := _) (v := ?_) rfl (by kernel_rfl) (by kernel_rfl) (by kernel_rfl) (fun _ _ _ h => h) (Or.inl ⟨by rfl, ?_⟩) hHeld ?_
      rotate_left
      · (intro w' hSw; (try dsimp only at hSw); go_simp; try with_reducible rfl)
      try simp only [Act.put, List.getElem_toArray, List.getElem_cons_zero, List.getElem_cons_succ, List.setIfInBounds_toArray, List.set_cons_zero, List.set_cons_succ]
      refine wpAnyH_take (i := 1) (oi := _) (v := ?_) rfl (by kernel_rfl) (by kernel_rfl) (by kernel_rfl) (fun _ _ _ h => h) (Or.inl ⟨by rfl, ?_⟩) hHeld ?_
      rotate_left
      · (intro w' hSw; (try dsimp only at hSw); go_simp; try with_reducible rfl)
      try simp only [Act.put, List.getElem_toArray, List.getElem_cons_zero, List.getElem_cons_succ, List.setIfInBounds_toArray, List.set_cons_zero, List.set_cons_succ]
      refine wpAnyH_take (i := 2) (oi := _) (v := ?_) rfl (by kernel_rfl) (by kernel_rfl) (by kernel_rfl) (fun _ _ _ h => h) (Or.inl ⟨by rfl, ?_⟩) hHeld ?_
      rotate_left
      · (intro w' hSw; (try dsimp only at hSw); go_simp; try with_reducible rfl)
      try simp only [Act.put, List.getElem_toArray, List.getElem_cons_zero, List.getElem_cons_succ, List.setIfInBounds_toArray, List.set_cons_zero, List.set_cons_succ]
      refine wpAnyH_take (i := 3) (oi := _) (v := ?_) rfl (by kernel_rfl) (by kernel_rfl) (by kernel_rfl) (fun _ _ _ h => h) (Or.inl ⟨by rfl, ?_⟩) hHeld ?_
      rotate_left
      · (intro w' hSw; (try dsimp only at hSw); go_simp; try with_reducible rfl)
      try simp only [Act.put, List.getElem_toArray, List.getElem_cons_zero, List.getElem_cons_succ, List.setIfInBounds_toArray, List.set_cons_zero, List.set_cons_succ]
      refine wpAnyH_take (i := 4) (oi := _) (v := ?_) rfl (by kernel_rfl) (by kernel_rfl) (by kernel_rfl) (fun _ _ _ h => h) (Or.inl ⟨by rfl, ?_⟩) hHeld ?_
      rotate_left
      · (intro w' hSw; (try dsimp only at hSw); go_simp; try with_reducible rfl)
      try simp only [Act.put, List.getElem_toArray, List.getElem_cons_zero, List.getElem_cons_succ, List.setIfInBounds_toArray, List.set_cons_zero, List.set_cons_succ]
      refine wpAnyH_take (i := 5) (oi := _) (v := ?_) rfl (by kernel_rfl) (by kernel_rfl) (by kernel_rfl) (fun _ _ _ h => h) (Or.inl ⟨by rfl, ?_⟩) hHeld ?_
      rotate_left
      · (intro w' hSw; (try dsimp only at hSw); go_simp; try with_reducible rfl)
      try simp only [Act.put, List.getElem_toArray, List.getElem_cons_zero, List.getElem_cons_succ, List.setIfInBounds_toArray, List.set_cons_zero, List.set_cons_succ]
      refine wpAnyH_ready (rs := [6, 10]) (by kernel_rfl) (by simp) ?_
      refine AllReadyH.cons (o := _) rfl (fun K hK => ?_) ?_
      · go_simp
        (refine (first_any sz cl qu mx qn rt bu wk ou ph' a cap used (s.extract at' s.size) _ hes hus (hints.later hHeld.1)).mono ?_; rintro e w2 ⟨⟨m, n, hmn, rfl⟩, hb2⟩; have Hm : Hid ((m, n) = first sz mx ph' used (s.extract at' s.size)) := hmn; clear hmn; obtain ⟨hc2, hf2⟩ := bcell hb2)
        go_wp2_with fail
        refine hK.out _ _ (CfgBox.keep hz hHeld (hb2.mono hHeld.1.size)) (fun hH6 => ?_)
        clear hK K
        refine wpAnyH_take (i := 7) (oi := _) (v := ?_) rfl (by kernel_rfl) (by kernel_rfl) (by kernel_rfl) (fun _ _ _ h => h) (Or.inl ⟨by rfl, ?_⟩) hH6 ?_
        rotate_left
        · (intro w' hSw; (try dsimp only at hSw); go_simp; try with_reducible rfl)
        try simp only [Act.put, List.getElem_toArray, List.getElem_cons_zero, List.getElem_cons_succ, List.setIfInBounds_toArray, List.set_cons_zero, List.set_cons_succ]
        refine wpAnyH_take (i := 8) (oi := _) (v := ?_) rfl (by kernel_rfl) (by kernel_rfl) (by kernel_rfl) (fun _ _ _ h => h) (Or.inl ⟨by rfl, ?_⟩) hH6 ?_
        rotate_left
        · (intro w' hSw; (try dsimp only at hSw); go_simp; try with_reducible rfl)
        try simp only [Act.put, List.getElem_toArray, List.getElem_cons_zero, List.getElem_cons_succ, List.setIfInBounds_toArray, List.set_cons_zero, List.set_cons_succ]
        refine wpAnyH_take (i := 9) (oi := _) (v := ?_) rfl (by kernel_rfl) (by kernel_rfl) (by kernel_rfl) (fun _ _ _ h => h) (Or.inl ⟨by rfl, ?_⟩) hH6 ?_
        rotate_left
        · (intro w' hSw; (try dsimp only at hSw); go_simp; try with_reducible rfl)
        try simp only [Act.put, List.getElem_toArray, List.getElem_cons_zero, List.getElem_cons_succ, List.setIfInBounds_toArray, List.set_cons_zero, List.set_cons_succ]
        refine wpAnyH_ready (rs := [10]) (by kernel_rfl) (by simp) ?_
        refine AllReadyH.cons (o := _) rfl (fun K hK => ?_) ?_
        · go_simp
          refine hK.out _ _ (CfgBox.keep hz hH6 ((Below.refl _ _).alloc hH6.1.size _)) (fun hH6_10 => ?_)
          clear hK K
          refine wpAnyH_ready (rs := [11]) (by kernel_rfl) (by simp) ?_
          refine AllReadyH.cons (o := _) rfl (fun K hK => ?_) ?_
          · go_simp
            refine hK.out _ _ (CfgBox.keep hz hH6 ((Below.refl _ _).alloc hH6.1.size _)) (fun hH6_10_11 => ?_)
            clear hK K
            refine wpAnyH_take (i := 12) (oi := _) (v := ?_) rfl (by kernel_rfl) (by kernel_rfl) (by kernel_rfl) (fun _ _ _ h => h) (Or.inl ⟨by rfl, ?_⟩) hH6_10_11 ?_
            rotate_left
            · (intro w' hSw; (try dsimp only at hSw); go_simp; try with_reducible rfl)
            try simp only [Act.put, List.getElem_toArray, List.getElem_cons_zero, List.getElem_cons_succ, List.setIfInBounds_toArray, List.set_cons_zero, List.set_cons_succ]
            refine wpAnyH_done (by kernel_rfl) ?_ _
            refine NoPanic.normal ?_
            go_wp2_with fail
            go_meet
            case rel =>
              refine ⟨m, n, w2.heap.size, rfl, rfl, Hm, hH6_10_11.1, hH6.1.size, by simp, ?_⟩
              simp [MsgAt, go_sem]
          exact AllReadyH.nil
        exact AllReadyH.nil
      refine AllReadyH.cons (o := _) rfl (fun K hK => ?_) ?_
      · go_simp
        refine hK.out _ _ (CfgBox.keep hz hHeld ((Below.refl _ _).alloc hHeld.1.size _)) (fun hH10 => ?_)
        clear hK K
        refine wpAnyH_ready (rs := [6]) (by kernel_rfl) (by simp) ?_
        refine AllReadyH.cons (o := _) rfl (fun K hK => ?_) ?_
        · go_simp
          (refine (first_any sz cl qu mx qn rt bu wk ou ph' a cap used (s.extract at' s.size) _ hes hus (hints.later hH10.1)).mono ?_; rintro e w2 ⟨⟨m, n, hmn, rfl⟩, hb2⟩; have Hm : Hid ((m, n) = first sz mx ph' used (s.extract at' s.size)) := hmn; clear hmn; obtain ⟨hc2, hf2⟩ := bcell hb2)
          go_wp2_with fail
          refine hK.out _ _ (CfgBox.keep hz hH10 (hb2.mono hH10.1.size)) (fun hH10_6 => ?_)
          clear hK K
          refine wpAnyH_take (i := 7) (oi := _) (v := ?_) rfl (by kernel_rfl) (by kernel_rfl) (by kernel_rfl) (fun _ _ _ h => h) (Or.inl ⟨by rfl, ?_⟩) hH10_6 ?_
          rotate_left
          · (intro w' hSw; (try dsimp only at hSw); go_simp; try with_reducible rfl)
          try simp only [Act.put, List.getElem_toArray, List.getElem_cons_zero, List.getElem_cons_succ, List.setIfInBounds_toArray, List.set_cons_zero, List.set_cons_succ]
          refine wpAnyH_take (i := 8) (oi := _) (v := ?_) rfl (by kernel_rfl) (by kernel_rfl) (by kernel_rfl) (fun _ _ _ h => h) (Or.inl ⟨by rfl, ?_⟩) hH10_6 ?_
          rotate_left
          · (intro w' hSw; (try dsimp only at hSw); go_simp; try with_reducible rfl)
          try simp only [Act.put, List.getElem_toArray, List.getElem_cons_zero, List.getElem_cons_succ, List.setIfInBounds_toArray, List.set_cons_zero, List.set_cons_succ]
          refine wpAnyH_take (i := 9) (oi := _) (v := ?_) rfl (by kernel_rfl) (by kernel_rfl) (by kernel_rfl) (fun _ _ _ h => h) (Or.inl ⟨by rfl, ?_⟩) hH10_6 ?_
          rotate_left
          · (intro w' hSw; (try dsimp only at hSw); go_simp; try with_reducible rfl)
          try simp only [Act.put, List.getElem_toArray, List.getElem_cons_zero, List.getElem_cons_succ, List.setIfInBounds_toArray, List.set_cons_zero, List.set_cons_succ]
          refine wpAnyH_ready (rs := [11]) (by kernel_rfl) (by simp) ?_
          refine AllReadyH.cons (o := _) rfl (fun K hK => ?_) ?_
          · go_simp
            refine hK.out _ _ (CfgBox.keep hz hH10_6 (below_set9 (Below.refl _ _) (Nat.le_refl _) _ _ _ _ _ _ _ _ _)) (fun hH10_6_11 => ?_)
            clear hK K
            refine wpAnyH_take (i := 12) (oi := _) (v := ?_) rfl (by kernel_rfl) (by kernel_rfl) (by kernel_rfl) (fun _ _ _ h => h) (Or.inl ⟨by rfl, ?_⟩) hH10_6_11 ?_
            rotate_left
            · (intro w' hSw; (try dsimp only at hSw); go_simp; try with_reducible rfl)
            try simp only [Act.put, List.getElem_toArray, List.getElem_cons_zero, List.getElem_cons_succ, List.setIfInBounds_toArray, List.set_cons_zero, List.set_cons_succ]
            refine wpAnyH_done (by kernel_rfl) ?_ _
            refine NoPanic.normal ?_
            go_wp2_with fail
            go_meet
            case rel =>
              skip
              refine ⟨m, n, wr.heap.size, rfl, rfl, Hm, hH10_6_11.1, Nat.le_refl _, ?_, ?_⟩
              · have := hb2.size; simp at this; simp; omega
              · simp [MsgAt, go_sem, hc2]
          exact AllReadyH.nil
        exact AllReadyH.nil
      exact AllReadyH.nil
    case rest =>
      obtain ⟨m, n, bm, rfl, rfl, Hm, hbw, hbm, hbm2, m0, m1, m2, m3, m4, m5, m6, m7, m8⟩ := hcut
      have hfl := first_le sz mx ph' used (s.extract at' s.size)
      rw [← Hm.out, extract_size] at hfl
      obtain ⟨hn0, hn1⟩ := hfl
      by_cases hn : n = 0
      · subst hn
        have hE : Hid (decode sz mx s (s.size + 1) ph [] 0 = (ms, (at' : Int))) := by
          have h := HS.out.eq
          have hm := HS.out.many
          rw [show s.size + 1 - ms.length = (s.size - ms.length) + 1 by omega, decode_stop sz mx s _ ph' used at' m Hm.out] at h
          rw [List.append_nil] at h
          exact h
        go_wp2
        go_ret2
        exact ⟨_, ms, _, hE.out.symm, rfl, row_below HS.out.rows hbw, HS.out.below.trans (hbw.mono HS.out.below.size)⟩
      · obtain ⟨N, rfl⟩ : ∃ N : Nat, n = (N : Int) := ⟨n.toNat, by omega⟩
        have hN : N ≠ 0 := by omega
        have hown : (wc.alloc (.cells (msgL m.wh m.nm m.kd m.fl m.ck m.of m.ln m.dt m.er) 132)).ownsRow (w.heap.size + 1) 132 9 u9 ms.length (ms.flatMap Msg.cells) := (row_below HS.out.rows hbw).alloc _
        have huse : (wc.alloc (.cells (msgL m.wh m.nm m.kd m.fl m.ck m.of m.ln m.dt m.er) 132)).ownsRow (w.heap.size + 1) 3 1 (.slice a used.length cap) used.length (used.map (fun n => Value.int .i64 n)) := (row_below HS.out.uses hbw).alloc _
        have hne : some bm ≠ u9.ownBlock := fun e => by have := (row_lt HS.out.rows bm e.symm).1; omega
        have hmA : MsgAt (wc.alloc (.cells (msgL m.wh m.nm m.kd m.fl m.ck m.of m.ln m.dt m.er) 132)) bm m := MsgAt.later (w := wc) ⟨m0, m1, m2, m3, m4, m5, m6, m7, m8⟩ ((Below.refl _ _).alloc (Nat.le_refl _) _) hbm2
        have hml := HS.out.many
        obtain ⟨iM, hiM, hz0, hz1, hz2⟩ := info_parts Tryz.infoMsg
        have HU : Hid ((wc.alloc (.cells (msgL m.wh m.nm m.kd m.fl m.ck m.of m.ln m.dt m.er) 132)).ownsRow (w.heap.size + 1) 3 1 (.slice a used.length cap) used.length (used.map (fun n => Value.int .i64 n))) := huse
        have HO : Hid ((wc.alloc (.cells (msgL m.wh m.nm m.kd m.fl m.ck m.of m.ln m.dt m.er) 132)).ownsRow (w.heap.size + 1) 132 9 u9 ms.length (ms.flatMap Msg.cells)) := hown
        have HA : Hid (MsgAt (wc.alloc (.cells (msgL m.wh m.nm m.kd m.fl m.ck m.of m.ln m.dt m.er) 132)) bm m) := hmA
        clear huse hown hmA
        have hbase : w.heap.size + 1 ≤ wc.heap.size := by have := hbw.size; omega
        have hgB : ∀ w3, (wc.alloc (.cells (msgL m.wh m.nm m.kd m.fl m.ck m.of m.ln m.dt m.er) 132)).grownBy w3 u9.ownBlock → Below (w.heap.size + 1) wr w3 := fun w3 h =>
          (((hbw.mono (by omega)).alloc hbase _).grown h (by simp; omega) (fun k e => (row_lt HS.out.rows k e).2))
        have HG : Hid (∀ w3, (wc.alloc (.cells (msgL m.wh m.nm m.kd m.fl m.ck m.of m.ln m.dt m.er) 132)).grownBy w3 u9.ownBlock → Below (w.heap.size + 1) wr w3) := hgB
        clear hgB
        have tok1 : True := trivial
        cases hacc : accepted m with
        | false =>
          go_wp2_with (first | (at_builtin; have _t := tok1; refine wpList_append_lies _ (by rfl) _ _ 152 (by rfl) (w.heap.size + 1) 132 iM _ 9 88 Tryz.underlying152 hiM hz0 hz1 hz2 (by rfl) (by omega) u9 ms.length (ms.flatMap Msg.cells) (by rfl) HO.out ⟨wc.heap.size, 0, none⟩ 1 1 m.cells (by rfl) (by rfl) (World.news_of_block (heap_alloc_new wc _)) (cells_one m) (by omega) (by unfold maxLen; omega) (by omega) (by simp; omega) (wc.heap.size + 1) (by simp) ?_; intro g cap1 w3 hown3 hgrow3 hat3 hlt3; clear tok1; have hs3 := hgrow3.size; simp only [World.size_alloc] at hs3; obtain ⟨x0, x1, x2, x3, x4, x5, x6, x7, x8⟩ := MsgAt.far HA.out hgrow3 (by simp; omega) hne) | (go_at_call 174; refine (after_any ph' m _).mono ?_; rintro e w4 ⟨rfl, hb4⟩; obtain ⟨y0, y1, y2, y3, y4, y5, y6, y7, y8⟩ := MsgAt.later (w := w3) ⟨x0, x1, x2, x3, x4, x5, x6, x7, x8⟩ hb4 (by omega); have hs4 := hb4.size) | (go_at_call 175; refine (accepted_any m _).mono ?_; rw [hacc]; rintro e w5 ⟨rfl, hb5⟩; obtain ⟨z0, z1, z2, z3, z4, z5, z6, z7, z8⟩ := MsgAt.later (w := w4) ⟨y0, y1, y2, y3, y4, y5, y6, y7, y8⟩ hb5 (by omega); have hs5 := hb5.size))
          go_roundw
          case rel =>
            have hbf := ((HG.out _ hgrow3).trans (hb4.mono (by omega))).trans (hb5.mono (by omega))
            refine ⟨ms ++ [m], after ph' m, used, at' + N, rfl, by go_num, ⟨HS.out.below.trans (hbf.mono (by omega)), (hbf.block _ (by omega)).trans HS.out.box, ?_, ?_, by omega, by simp; omega, by have := HS.out.some; simp; omega, ?_⟩⟩
            · rw [flat_snoc, List.length_append]
              exact row_below (row_below hown3 hb4) hb5
            · exact row_below (row_below (HU.out.kept hgrow3 (rows_apart HU.out HO.out (by decide))) hb4) hb5
            · have := dec_eq_step (by omega) HS.out.eq Hm.out hN
              rw [hacc] at this
              exact this
          case measure => simp [intOf]; omega
        | true =>
          obtain ⟨iI, hiI, hi0, hi1, hi2⟩ := info_parts Tryz.infoInt
          have hul := HS.out.some
          go_wp2_with (first | (at_builtin; have _t := tok1; refine wpList_append_lies _ (by rfl) _ _ 152 (by rfl) (w.heap.size + 1) 132 iM _ 9 88 Tryz.underlying152 hiM hz0 hz1 hz2 (by rfl) (by omega) u9 ms.length (ms.flatMap Msg.cells) (by rfl) HO.out ⟨wc.heap.size, 0, none⟩ 1 1 m.cells (by rfl) (by rfl) (World.news_of_block (heap_alloc_new wc _)) (cells_one m) (by omega) (by unfold maxLen; omega) (by omega) (by simp; omega) (wc.heap.size + 1) (by simp) ?_; intro g cap1 w3 hown3 hgrow3 hat3 hlt3; clear tok1; have hs3 := hgrow3.size; simp only [World.size_alloc] at hs3; obtain ⟨x0, x1, x2, x3, x4, x5, x6, x7, x8⟩ := MsgAt.far HA.out hgrow3 (by simp; omega) hne) | (go_at_call 174; refine (after_any ph' m _).mono ?_; rintro e w4 ⟨rfl, hb4⟩; obtain ⟨y0, y1, y2, y3, y4, y5, y6, y7, y8⟩ := MsgAt.later (w := w3) ⟨x0, x1, x2, x3, x4, x5, x6, x7, x8⟩ hb4 (by omega); have hs4 := hb4.size) | (go_at_call 175; refine (accepted_any m _).mono ?_; rw [hacc]; rintro e w5 ⟨rfl, hb5⟩; obtain ⟨z0, z1, z2, z3, z4, z5, z6, z7, z8⟩ := MsgAt.later (w := w4) ⟨y0, y1, y2, y3, y4, y5, y6, y7, y8⟩ hb5 (by omega); have hs5 := hb5.size; have HU5 : Hid ((w5.alloc (.cells #[.int .i64 m.ck] 3)).ownsRow (w.heap.size + 1) 3 1 (.slice a used.length cap) used.length (used.map (fun n => Value.int .i64 n))) := (row_below (row_below (HU.out.kept hgrow3 (rows_apart HU.out HO.out (by decide))) hb4) hb5).alloc _; have HR5 : Hid ((w5.alloc (.cells #[.int .i64 m.ck] 3)).ownsRow (w.heap.size + 1) 132 9 (.slice (some ⟨g, 0, none⟩) (ms.length + 1) cap1) (ms.length + 1) (ms.flatMap Msg.cells ++ m.cells)) := (row_below (row_below hown3 hb4) hb5).alloc _; have tok2 : True := trivial) | (at_builtin; have _t := tok2; refine wpList_append_lies _ (by rfl) _ _ 25 (by rfl) (w.heap.size + 1) 3 iI _ 1 8 Tryz.underlying25 hiI hi0 hi1 hi2 (by rfl) (by omega) (.slice a used.length cap) used.length (used.map (fun n => Value.int .i64 n)) (by rfl) HU5.out ⟨w5.heap.size, 0, none⟩ 1 1 [.int .i64 m.ck] (by rfl) (by rfl) (World.news_of_block (heap_alloc_new w5 _)) (by intro u hu; simp at hu; subst hu; rfl) (by omega) (by unfold maxLen; omega) (by omega) (by simp; omega) (w5.heap.size + 1) (by simp) ?_; intro g2 cap2 w6 hown6 hgrow6 hat6 hlt6; clear tok2))
          go_roundw
          case rel =>
            have hbf5 := ((HG.out _ hgrow3).trans (hb4.mono (by omega))).trans (hb5.mono (by omega))
            have hbf := (hbf5.alloc (by omega) (.cells #[.int .i64 m.ck] 3)).grown hgrow6 (by simp; omega) (fun k e => (row_lt HS.out.uses k e).2)
            refine ⟨ms ++ [m], after ph' m, used ++ [m.ck], at' + N, rfl, by go_num, ⟨HS.out.below.trans (hbf.mono (by omega)), (hbf.block _ (by omega)).trans HS.out.box, ?_, ?_, by omega, by simp; omega, by simp; omega, ?_⟩⟩
            · rw [flat_snoc, List.length_append]
              exact HR5.out.kept hgrow6 (rows_apart HR5.out HU5.out (by decide))
            · rw [List.map_append, List.length_append]
              exact hown6
            · have := dec_eq_step (by omega) HS.out.eq Hm.out hN
              rw [hacc] at this
              exact this
          case measure => simp [intOf]; omega
end Go.Proofs.YtpobhljcainmdaaGreat
