/- Proved here: what the program's head answers, and when it gives up. -/
import Derived.Test.YtpobhljcainmdaaGreatWire3
import Derived.Test.YtpobhljcainmdaaGreatRef4
import Derived.Maps.OwnSet
namespace Go.Proofs.YtpobhljcainmdaaGreat
open Go.RowKit
set_option linter.unusedSimpArgs false
attribute [local go_sem ↓] Go.wp_at_zero Go.wp_at_succ
attribute [local go_sem] alloc_drewN setCell_drewN

theorem used_has (us : List Int) (ck : Int) : Maps.has (Maps.setOf (H := Unit) (.agg []) (us.map (Lit.int .i64))) (.int .i64 ck) = decide (ck ∈ us) := by
  rw [Maps.has_setOf _ _ _ (by intro x hx; simp at hx; obtain ⟨a, _, rfl⟩ := hx; trivial)]
  rw [Bool.eq_iff_iff]
  simp [Lit.sameKey, List.any_eq_true]

/-- The map of the cookies in use. -/
abbrev Uses (w : World) (mb : Nat) (us : List Int) : Prop := w.ownsMap Tryz.prog 3 (unitElem (H := Unit)) mb us.length (Maps.setOf (.agg []) (us.map (Lit.int .i64)))

theorem uses_look {w : World} {mb : Nat} {us : List Int} (h : Uses w mb us) (ck : Int) (hck : 0 ≤ ck ∧ ck ≤ 65535) :
    (Instr.lookup 226 (.map (some mb)) (.int .i64 ck) true).run Tryz.prog w = .ok (.tuple #[.agg #[], .bool (decide (ck ∈ us))]) w := by
  have hz : (zeroValue 169).run Tryz.prog w = .ok (.agg #[]) w := Tryz.zeroValue169 w
  obtain ⟨v, ps, hrun, hv⟩ := h.look_ok (Maps.int_keyed Tryz.underlying3) Tryz.underlying226 hz unitElem_mk (key := .int .i64 ck) (kl := .int .i64 ck) (Maps.keyOf_int_mk Tryz.underlying3 (by simp [Lit.wf, IntKind.min, IntKind.max, IntKind.signed, IntKind.bits]; omega))
  obtain ⟨rfl, _⟩ := unitElem_inv hv
  rw [used_has] at hrun
  exact hrun

/-- A reader in memory: its four cells, and the map of the cookies in use. -/
structure RdAt (w : World) (rb mb : Nat) (sz mx ph : Int) (us : List Int) : Prop where
  box : w.heap[rb]? = some (.cells #[.int .i64 sz, .int .i64 mx, .int .i64 ph, .map (some mb)] 228 (0, 0))
  uses : Uses w mb us

theorem RdAt.lt {w : World} {rb mb : Nat} {sz mx ph : Int} {us : List Int} (h : RdAt w rb mb sz mx ph us) : rb < w.heap.size ∧ mb < w.heap.size :=
  ⟨(Array.getElem?_eq_some_iff.1 h.box).1, h.uses.lt⟩
theorem RdAt.cell {w : World} {rb mb : Nat} {sz mx ph : Int} {us : List Int} (h : RdAt w rb mb sz mx ph us) :
    w.cell? ⟨rb, 0, none⟩ = some (.int .i64 sz) ∧ w.cell? ⟨rb, 1, none⟩ = some (.int .i64 mx) ∧ w.cell? ⟨rb, 2, none⟩ = some (.int .i64 ph) ∧ w.cell? ⟨rb, 3, none⟩ = some (.map (some mb)) := by
  simp [World.cell?, h.box]
theorem RdAt.kept {w w' : World} {rb mb : Nat} {sz mx ph : Int} {us : List Int} (h : RdAt w rb mb sz mx ph us) {row : Option Nat} (hg : w.grownBy w' row) (h1 : some rb ≠ row) (h2 : some mb ≠ row) : RdAt w' rb mb sz mx ph us :=
  ⟨(hg.block _ h.lt.1 h1).trans h.box, h.uses.kept hg h2⟩
theorem grown_of_below {w w' : World} (h : Below w.heap.size w w') : w.grownBy w' none := ⟨h.os, h.tape, h.output, h.size, fun k hk _ => h.block k hk⟩
theorem RdAt.later {w w' : World} {rb mb : Nat} {sz mx ph : Int} {us : List Int} (h : RdAt w rb mb sz mx ph us) (hb : Below w.heap.size w w') : RdAt w' rb mb sz mx ph us :=
  h.kept (grown_of_below hb) (by simp) (by simp)

theorem two_cut (s : ByteArray) (i : Nat) (h : i + 1 < s.size) : two (s.extract i s.size) 0 = two s i := by
  have e : ∀ j, i + j < s.size → bt (s.extract i s.size) j = bt s (i + j) := fun j hj => by
    unfold bt
    congr 1
    simp [ByteArray.data_extract, Array.getD, hj]
    split
    · rfl
    · rename_i hh
      have : s.data.size = s.size := rfl
      omega
  unfold two
  rw [e 0 (by omega), e (0 + 1) (by omega)]
  rfl

theorem twoAt_any (s : ByteArray) (i : Nat) (s' : ByteArray) (w : World) (hs : s.size ≤ maxLen) (hi : i + 1 < s.size) (hj : s' = s.extract i s.size) :
    Calls Tryz.prog 273 #[.string s'] w fun e w' => e = .returned (.int .i64 (two s i)) ∧ ∃ n, w' = w.drewN n := by
  subst hj
  have hz : (s.extract i s.size).size = s.size - i := by simp [ByteArray.size_extract]
  have := twoBytes_any (s.extract i s.size) w (by omega) (by omega)
  rw [two_cut s i hi] at this
  exact this

/-- What is held while head looks its cookie up. -/
abbrev HeadS (rb mb b : Nat) (ck : Int) (us : List Int) (W : World) : Prop :=
  W.cell? ⟨rb, 3, none⟩ = some (.map (some mb)) ∧ W.cell? ⟨b, 4, none⟩ = some (.int .i64 ck) ∧ (Instr.lookup 226 (.map (some mb)) (.int .i64 ck) true).run Tryz.prog W = .ok (.tuple #[.agg #[], .bool (decide (ck ∈ us))]) W ∧ Uses W mb us ∧ (0 ≤ ck ∧ ck ≤ 65535)

theorem HeadS.mk' {rb mb b : Nat} {ck : Int} {us : List Int} {W : World} (h1 : W.cell? ⟨rb, 3, none⟩ = some (.map (some mb))) (h2 : W.cell? ⟨b, 4, none⟩ = some (.int .i64 ck)) (h3 : Uses W mb us) (h4 : 0 ≤ ck ∧ ck ≤ 65535) : HeadS rb mb b ck us W :=
  ⟨h1, h2, uses_look h3 ck h4, h3, h4⟩
theorem HeadS.keep {rb mb b : Nat} {ck : Int} {us : List Int} {W : World} {o : Obj} (h : HeadS rb mb b ck us W) : HeadS rb mb b ck us (W.alloc o) :=
  have hb := (Below.refl W.heap.size W).alloc (Nat.le_refl _) o
  .mk' ((hb.cell (blk_of_cell h.1)).trans h.1) ((hb.cell (blk_of_cell h.2.1)).trans h.2.1) (h.2.2.2.1.alloc o) h.2.2.2.2

/-- The request that a head tells. -/
abbrev headM (s : ByteArray) : Msg := ⟨3, ⟨#[]⟩, bt s 1, bt s 2, two s 3, two s 5, two s 7, ⟨#[]⟩, 0⟩

set_option maxRecDepth 100000 in
set_option maxHeartbeats 4000000 in
theorem head_any (rb mb : Nat) (sz mx ph : Int) (us : List Int) (s : ByteArray) (w : World) (hs : s.size ≤ maxLen) (h9 : 9 ≤ s.size) (hR : RdAt w rb mb sz mx ph us) :
    Calls Tryz.prog 260 #[.pointer (some ⟨rb, 0, none⟩), .string s] w fun e w' =>
      (if bt s 0 ≠ 81 ∨ mx < two s 7 ∨ two s 3 ∈ us then e = .panicked [{ v := brk 9, recovered := false }] else e = .returned (headM s).val) ∧ Below w.heap.size w w' := by
  have hs' := hs
  unfold maxLen at hs'
  have n0 : 0 < s.size := by omega
  have n1 : 1 < s.size := by omega
  have n2 : 2 < s.size := by omega
  have i0 : (0 : Int) < s.size := by omega
  have i1 : (1 : Int) < s.size := by omega
  have i2 : (2 : Int) < s.size := by omega
  have i3 : (3 : Int) ≤ s.size := by omega
  have i5 : (5 : Int) ≤ s.size := by omega
  have i7 : (7 : Int) ≤ s.size := by omega
  have e0 := bt_eq s 0 (by omega)
  have e1 := bt_eq s 1 (by omega)
  have e2 := bt_eq s 2 (by omega)
  have r0 := bt_range s 0
  have r1 := bt_range s 1
  have r2 := bt_range s 2
  have k1 : IntKind.i64.wrap (bt s 1) = bt s 1 := by rw [IntKind.wrap_i64]; omega
  have k2 : IntKind.i64.wrap (bt s 2) = bt s 2 := by rw [IntKind.wrap_i64]; omega
  have r3 := two_range s 3
  have r5 := two_range s 5
  have r7 := two_range s 7
  obtain ⟨g0, g1, g2, g3⟩ := hR.cell
  have hlt := hR.lt
  have hrb := hlt.1
  have HR : Hid (RdAt w rb mb sz mx ph us) := hR
  clear hR hlt
  go_enter Tryz.func260, Tryz.ntmps260
  go_upto_region 1 with fail
  go_cut [5] (fun p w' => ∃ d, p = .pointer (some ⟨w.heap.size + 1, 0, none⟩) ∧ w' = ((w.alloc (.cells (msgL 0 ⟨#[]⟩ 0 0 0 0 0 ⟨#[]⟩ 0) 132)).alloc (.cells (msgL 3 ⟨#[]⟩ (bt s 1) (bt s 2) (two s 3) (two s 5) (two s 7) ⟨#[]⟩ 0) 132)).drewN d)
  case first =>
    refine wp_region_noPanic ?_
    refine wp_region_held_drew (S := fun _ => True) (by kernel_rfl) trivial ?_
    intro hHeld
    refine wpAnyH_take (i := 0) (oi := _) (v := ?_) rfl (by kernel_rfl) (by kernel_rfl) (by kernel_rfl) (fun _ _ _ h => h) (Or.inl ⟨by rfl, ?_⟩) hHeld ?_
    rotate_left
    · (intro w' hSw; (try dsimp only at hSw); go_simp; try with_reducible rfl)
    try simp only [Act.put, List.getElem_toArray, List.getElem_cons_zero, List.getElem_cons_succ, List.setIfInBounds_toArray, List.set_cons_zero, List.set_cons_succ]
    refine wpAnyH_take (i := 1) (oi := _) (v := ?_) rfl (by kernel_rfl) (by kernel_rfl) (by kernel_rfl) (fun _ _ _ h => h) (Or.inl ⟨by rfl, ?_⟩) hHeld ?_
    rotate_left
    · (intro w' hSw; (try dsimp only at hSw); go_simp; try with_reducible rfl)
    try simp only [Act.put, List.getElem_toArray, List.getElem_cons_zero, List.getElem_cons_succ, List.setIfInBounds_toArray, List.set_cons_zero, List.set_cons_succ]
    refine wpAnyH_take (i := 2) (oi := _) (v := ?_) rfl (by kernel_rfl) (by kernel_rfl) (by kernel_rfl) (fun _ _ _ h => h) (Or.inl ⟨by rfl, ?_⟩) hHeld ?_
    rotate_left
    · (intro w' hSw; (try dsimp only at hSw); go_simp; try with_reducible rfl)
    try simp only [Act.put, List.getElem_toArray, List.getElem_cons_zero, List.getElem_cons_succ, List.setIfInBounds_toArray, List.set_cons_zero, List.set_cons_succ]
    refine wpAnyH_take (i := 3) (oi := _) (v := ?_) rfl (by kernel_rfl) (by kernel_rfl) (by kernel_rfl) (fun _ _ _ h => h) (Or.inl ⟨by rfl, ?_⟩) hHeld ?_
    rotate_left
    · (intro w' hSw; (try dsimp only at hSw); go_simp; try with_reducible rfl)
    try simp only [Act.put, List.getElem_toArray, List.getElem_cons_zero, List.getElem_cons_succ, List.setIfInBounds_toArray, List.set_cons_zero, List.set_cons_succ]
    refine wpAnyH_take (i := 4) (oi := _) (v := ?_) rfl (by kernel_rfl) (by kernel_rfl) (by kernel_rfl) (fun _ _ _ h => h) (Or.inl ⟨by rfl, ?_⟩) hHeld ?_
    rotate_left
    · (intro w' hSw; (try dsimp only at hSw); go_simp; try with_reducible rfl)
    try simp only [Act.put, List.getElem_toArray, List.getElem_cons_zero, List.getElem_cons_succ, List.setIfInBounds_toArray, List.set_cons_zero, List.set_cons_succ]
    refine wpAnyH_take (i := 5) (oi := _) (v := ?_) rfl (by kernel_rfl) (by kernel_rfl) (by kernel_rfl) (fun _ _ _ h => h) (Or.inl ⟨by rfl, ?_⟩) hHeld ?_
    rotate_left
    · (intro w' hSw; (try dsimp only at hSw); go_simp; try with_reducible rfl)
    try simp only [Act.put, List.getElem_toArray, List.getElem_cons_zero, List.getElem_cons_succ, List.setIfInBounds_toArray, List.set_cons_zero, List.set_cons_succ]
    refine wpAnyH_take (i := 6) (oi := _) (v := ?_) rfl (by kernel_rfl) (by kernel_rfl) (by kernel_rfl) (fun _ _ _ h => h) (Or.inl ⟨by rfl, ?_⟩) hHeld ?_
    rotate_left
    · (intro w' hSw; (try dsimp only at hSw); go_simp; try with_reducible rfl)
    try simp only [Act.put, List.getElem_toArray, List.getElem_cons_zero, List.getElem_cons_succ, List.setIfInBounds_toArray, List.set_cons_zero, List.set_cons_succ]
    refine wpAnyH_take (i := 7) (oi := _) (v := ?_) rfl (by kernel_rfl) (by kernel_rfl) (by kernel_rfl) (fun _ _ _ h => h) (Or.inl ⟨by rfl, ?_⟩) hHeld ?_
    rotate_left
    · (intro w' hSw; (try dsimp only at hSw); go_simp; try with_reducible rfl)
    try simp only [Act.put, List.getElem_toArray, List.getElem_cons_zero, List.getElem_cons_succ, List.setIfInBounds_toArray, List.set_cons_zero, List.set_cons_succ]
    refine wpAnyH_take (i := 9) (oi := _) (v := ?_) rfl (by kernel_rfl) (by kernel_rfl) (by kernel_rfl) (fun _ _ _ h => h) (Or.inl ⟨by rfl, ?_⟩) hHeld ?_
    rotate_left
    · (intro w' hSw; (try dsimp only at hSw); go_simp; try with_reducible rfl)
    try simp only [Act.put, List.getElem_toArray, List.getElem_cons_zero, List.getElem_cons_succ, List.setIfInBounds_toArray, List.set_cons_zero, List.set_cons_succ]
    refine wpAnyH_take (i := 10) (oi := _) (v := ?_) rfl (by kernel_rfl) (by kernel_rfl) (by kernel_rfl) (fun _ _ _ h => h) (Or.inl ⟨by rfl, ?_⟩) hHeld ?_
    rotate_left
    · (intro w' hSw; (try dsimp only at hSw); go_simp; try with_reducible rfl)
    try simp only [Act.put, List.getElem_toArray, List.getElem_cons_zero, List.getElem_cons_succ, List.setIfInBounds_toArray, List.set_cons_zero, List.set_cons_succ]
    refine wpAnyH_take (i := 12) (oi := _) (v := ?_) rfl (by kernel_rfl) (by kernel_rfl) (by kernel_rfl) (fun _ _ _ h => h) (Or.inl ⟨by rfl, ?_⟩) hHeld ?_
    rotate_left
    · (intro w' hSw; (try dsimp only at hSw); go_simp; try with_reducible rfl)
    try simp only [Act.put, List.getElem_toArray, List.getElem_cons_zero, List.getElem_cons_succ, List.setIfInBounds_toArray, List.set_cons_zero, List.set_cons_succ]
    refine wpAnyH_take (i := 13) (oi := _) (v := ?_) rfl (by kernel_rfl) (by kernel_rfl) (by kernel_rfl) (fun _ _ _ h => h) (Or.inl ⟨by rfl, ?_⟩) hHeld ?_
    rotate_left
    · (intro w' hSw; (try dsimp only at hSw); go_simp; try with_reducible rfl)
    try simp only [Act.put, List.getElem_toArray, List.getElem_cons_zero, List.getElem_cons_succ, List.setIfInBounds_toArray, List.set_cons_zero, List.set_cons_succ]
    refine wpAnyH_ready (rs := [8, 16]) (by kernel_rfl) (by simp) ?_
    refine AllReadyH.cons (o := _) rfl (fun K hK => ?_) ?_
    · go_simp
      (refine (twoAt_any s 3 _ _ hs (by omega) rfl).mono ?_; rintro e w' ⟨rfl, d, rfl⟩)
      go_wp2_with fail
      refine hK.out _ _ (trivial) (fun hH8 => ?_)
      clear hK K
      refine wpAnyH_ready (rs := [11, 16]) (by kernel_rfl) (by simp) ?_
      refine AllReadyH.cons (o := _) rfl (fun K hK => ?_) ?_
      · go_simp
        (refine (twoAt_any s 5 _ _ hs (by omega) rfl).mono ?_; rintro e w' ⟨rfl, d, rfl⟩)
        go_wp2_with fail
        refine hK.out _ _ (trivial) (fun hH8_11 => ?_)
        clear hK K
        refine wpAnyH_ready (rs := [14, 16]) (by kernel_rfl) (by simp) ?_
        refine AllReadyH.cons (o := _) rfl (fun K hK => ?_) ?_
        · go_simp
          (refine (twoAt_any s 7 _ _ hs (by omega) rfl).mono ?_; rintro e w' ⟨rfl, d, rfl⟩)
          go_wp2_with fail
          refine hK.out _ _ (trivial) (fun hH8_11_14 => ?_)
          clear hK K
          refine wpAnyH_take (i := 15) (oi := _) (v := ?_) rfl (by kernel_rfl) (by kernel_rfl) (by kernel_rfl) (fun _ _ _ h => h) (Or.inl ⟨by rfl, ?_⟩) hH8_11_14 ?_
          rotate_left
          · (intro w' hSw; (try dsimp only at hSw); go_simp; try with_reducible rfl)
          try simp only [Act.put, List.getElem_toArray, List.getElem_cons_zero, List.getElem_cons_succ, List.setIfInBounds_toArray, List.set_cons_zero, List.set_cons_succ]
          refine wpAnyH_ready (rs := [16]) (by kernel_rfl) (by simp) ?_
          refine AllReadyH.cons (o := _) rfl (fun K hK => ?_) ?_
          · go_simp
            refine hK.out _ _ (trivial) (fun hH8_11_14_16 => ?_)
            clear hK K
            refine wpAnyH_ready (rs := [17]) (by kernel_rfl) (by simp) ?_
            refine AllReadyH.cons (o := _) rfl (fun K hK => ?_) ?_
            · go_simp
              refine hK.out _ _ (trivial) (fun hH8_11_14_16_17 => ?_)
              clear hK K
              refine wpAnyH_done (by kernel_rfl) ?_ _
              (refine NoPanic.normal ?_; go_wp2_with fail; go_meet; case rel => exact ⟨_, rfl, rfl⟩)
            exact AllReadyH.nil
          exact AllReadyH.nil
        refine AllReadyH.cons (o := _) rfl (fun K hK => ?_) ?_
        · go_simp
          refine hK.out _ _ (trivial) (fun hH8_11_16 => ?_)
          clear hK K
          refine wpAnyH_ready (rs := [14]) (by kernel_rfl) (by simp) ?_
          refine AllReadyH.cons (o := _) rfl (fun K hK => ?_) ?_
          · go_simp
            (refine (twoAt_any s 7 _ _ hs (by omega) rfl).mono ?_; rintro e w' ⟨rfl, d, rfl⟩)
            go_wp2_with fail
            refine hK.out _ _ (trivial) (fun hH8_11_16_14 => ?_)
            clear hK K
            refine wpAnyH_take (i := 15) (oi := _) (v := ?_) rfl (by kernel_rfl) (by kernel_rfl) (by kernel_rfl) (fun _ _ _ h => h) (Or.inl ⟨by rfl, ?_⟩) hH8_11_16_14 ?_
            rotate_left
            · (intro w' hSw; (try dsimp only at hSw); go_simp; try with_reducible rfl)
            try simp only [Act.put, List.getElem_toArray, List.getElem_cons_zero, List.getElem_cons_succ, List.setIfInBounds_toArray, List.set_cons_zero, List.set_cons_succ]
            refine wpAnyH_ready (rs := [17]) (by kernel_rfl) (by simp) ?_
            refine AllReadyH.cons (o := _) rfl (fun K hK => ?_) ?_
            · go_simp
              refine hK.out _ _ (trivial) (fun hH8_11_16_14_17 => ?_)
              clear hK K
              refine wpAnyH_done (by kernel_rfl) ?_ _
              (refine NoPanic.normal ?_; go_wp2_with fail; go_meet; case rel => exact ⟨_, rfl, rfl⟩)
            exact AllReadyH.nil
          exact AllReadyH.nil
        exact AllReadyH.nil
      refine AllReadyH.cons (o := _) rfl (fun K hK => ?_) ?_
      · go_simp
        refine hK.out _ _ (trivial) (fun hH8_16 => ?_)
        clear hK K
        refine wpAnyH_ready (rs := [11]) (by kernel_rfl) (by simp) ?_
        refine AllReadyH.cons (o := _) rfl (fun K hK => ?_) ?_
        · go_simp
          (refine (twoAt_any s 5 _ _ hs (by omega) rfl).mono ?_; rintro e w' ⟨rfl, d, rfl⟩)
          go_wp2_with fail
          refine hK.out _ _ (trivial) (fun hH8_16_11 => ?_)
          clear hK K
          refine wpAnyH_ready (rs := [14]) (by kernel_rfl) (by simp) ?_
          refine AllReadyH.cons (o := _) rfl (fun K hK => ?_) ?_
          · go_simp
            (refine (twoAt_any s 7 _ _ hs (by omega) rfl).mono ?_; rintro e w' ⟨rfl, d, rfl⟩)
            go_wp2_with fail
            refine hK.out _ _ (trivial) (fun hH8_16_11_14 => ?_)
            clear hK K
            refine wpAnyH_take (i := 15) (oi := _) (v := ?_) rfl (by kernel_rfl) (by kernel_rfl) (by kernel_rfl) (fun _ _ _ h => h) (Or.inl ⟨by rfl, ?_⟩) hH8_16_11_14 ?_
            rotate_left
            · (intro w' hSw; (try dsimp only at hSw); go_simp; try with_reducible rfl)
            try simp only [Act.put, List.getElem_toArray, List.getElem_cons_zero, List.getElem_cons_succ, List.setIfInBounds_toArray, List.set_cons_zero, List.set_cons_succ]
            refine wpAnyH_ready (rs := [17]) (by kernel_rfl) (by simp) ?_
            refine AllReadyH.cons (o := _) rfl (fun K hK => ?_) ?_
            · go_simp
              refine hK.out _ _ (trivial) (fun hH8_16_11_14_17 => ?_)
              clear hK K
              refine wpAnyH_done (by kernel_rfl) ?_ _
              (refine NoPanic.normal ?_; go_wp2_with fail; go_meet; case rel => exact ⟨_, rfl, rfl⟩)
            exact AllReadyH.nil
          exact AllReadyH.nil
        exact AllReadyH.nil
      exact AllReadyH.nil
    refine AllReadyH.cons (o := _) rfl (fun K hK => ?_) ?_
    · go_simp
      refine hK.out _ _ (trivial) (fun hH16 => ?_)
      clear hK K
      refine wpAnyH_ready (rs := [8]) (by kernel_rfl) (by simp) ?_
      refine AllReadyH.cons (o := _) rfl (fun K hK => ?_) ?_
      · go_simp
        (refine (twoAt_any s 3 _ _ hs (by omega) rfl).mono ?_; rintro e w' ⟨rfl, d, rfl⟩)
        go_wp2_with fail
        refine hK.out _ _ (trivial) (fun hH16_8 => ?_)
        clear hK K
        refine wpAnyH_ready (rs := [11]) (by kernel_rfl) (by simp) ?_
        refine AllReadyH.cons (o := _) rfl (fun K hK => ?_) ?_
        · go_simp
          (refine (twoAt_any s 5 _ _ hs (by omega) rfl).mono ?_; rintro e w' ⟨rfl, d, rfl⟩)
          go_wp2_with fail
          refine hK.out _ _ (trivial) (fun hH16_8_11 => ?_)
          clear hK K
          refine wpAnyH_ready (rs := [14]) (by kernel_rfl) (by simp) ?_
          refine AllReadyH.cons (o := _) rfl (fun K hK => ?_) ?_
          · go_simp
            (refine (twoAt_any s 7 _ _ hs (by omega) rfl).mono ?_; rintro e w' ⟨rfl, d, rfl⟩)
            go_wp2_with fail
            refine hK.out _ _ (trivial) (fun hH16_8_11_14 => ?_)
            clear hK K
            refine wpAnyH_take (i := 15) (oi := _) (v := ?_) rfl (by kernel_rfl) (by kernel_rfl) (by kernel_rfl) (fun _ _ _ h => h) (Or.inl ⟨by rfl, ?_⟩) hH16_8_11_14 ?_
            rotate_left
            · (intro w' hSw; (try dsimp only at hSw); go_simp; try with_reducible rfl)
            try simp only [Act.put, List.getElem_toArray, List.getElem_cons_zero, List.getElem_cons_succ, List.setIfInBounds_toArray, List.set_cons_zero, List.set_cons_succ]
            refine wpAnyH_ready (rs := [17]) (by kernel_rfl) (by simp) ?_
            refine AllReadyH.cons (o := _) rfl (fun K hK => ?_) ?_
            · go_simp
              refine hK.out _ _ (trivial) (fun hH16_8_11_14_17 => ?_)
              clear hK K
              refine wpAnyH_done (by kernel_rfl) ?_ _
              (refine NoPanic.normal ?_; go_wp2_with fail; go_meet; case rel => exact ⟨_, rfl, rfl⟩)
            exact AllReadyH.nil
          exact AllReadyH.nil
        exact AllReadyH.nil
      exact AllReadyH.nil
    exact AllReadyH.nil
  case rest =>
    obtain ⟨d, rfl, rfl⟩ := hcut
    have hB1 : Below w.heap.size w ((w.alloc (.cells (msgL 0 ⟨#[]⟩ 0 0 0 0 0 ⟨#[]⟩ 0) 132)).alloc (.cells (msgL 3 ⟨#[]⟩ (bt s 1) (bt s 2) (two s 3) (two s 5) (two s 7) ⟨#[]⟩ 0) 132)) := ((Below.refl _ _).alloc (Nat.le_refl _) _).alloc (by simp) _
    have hbegin : HeadS rb mb (w.heap.size + 1) (two s 3) us (((w.alloc (.cells (msgL 0 ⟨#[]⟩ 0 0 0 0 0 ⟨#[]⟩ 0) 132)).alloc (.cells (msgL 3 ⟨#[]⟩ (bt s 1) (bt s 2) (two s 3) (two s 5) (two s 7) ⟨#[]⟩ 0) 132)).drewN d).drew :=
      HeadS.mk' (by simp only [World.drew_drewN, World.cell?_drewN]; exact (hB1.cell (p := ⟨rb, 3, none⟩) hrb).trans g3) (by simp [go_sem]) (HR.out.later hB1).uses r3
    go_upto_region 2 with fail
    go_cut [7] (fun q w' => ∃ d, q = .bool (decide (two s 3 ∈ us)) ∧ w' = (((w.alloc (.cells (msgL 0 ⟨#[]⟩ 0 0 0 0 0 ⟨#[]⟩ 0) 132)).alloc (.cells (msgL 3 ⟨#[]⟩ (bt s 1) (bt s 2) (two s 3) (two s 5) (two s 7) ⟨#[]⟩ 0) 132)).alloc (.cells #[] 169)).drewN d)
    case first =>
      refine wp_region_noPanic ?_
      refine wp_region_held_drew (S := fun w' => HeadS rb mb (w.heap.size + 1) (two s 3) us w') (by kernel_rfl) hbegin ?_
      intro hHeld
      refine wpAnyH_take (i := 0) (oi := _) (v := ?_) rfl (by kernel_rfl) (by kernel_rfl) (by kernel_rfl) (fun _ _ _ h => h) (Or.inl ⟨by rfl, ?_⟩) hHeld ?_
      rotate_left
      · (intro w' hSw; (try dsimp only at hSw); go_simp; try with_reducible rfl)
      try simp only [Act.put, List.getElem_toArray, List.getElem_cons_zero, List.getElem_cons_succ, List.setIfInBounds_toArray, List.set_cons_zero, List.set_cons_succ]
      refine wpAnyH_take (i := 1) (oi := _) (v := ?_) rfl (by kernel_rfl) (by kernel_rfl) (by kernel_rfl) (fun _ _ _ h => h) (Or.inl ⟨by rfl, ?_⟩) hHeld ?_
      rotate_left
      · (intro w' hSw; (try dsimp only at hSw); go_simp; try with_reducible rfl)
      try simp only [Act.put, List.getElem_toArray, List.getElem_cons_zero, List.getElem_cons_succ, List.setIfInBounds_toArray, List.set_cons_zero, List.set_cons_succ]
      refine wpAnyH_take (i := 2) (oi := _) (v := ?_) rfl (by kernel_rfl) (by kernel_rfl) (by kernel_rfl) (fun _ _ _ h => h) (Or.inl ⟨by rfl, ?_⟩) hHeld ?_
      rotate_left
      · (intro w' hSw; (try dsimp only at hSw); go_simp; try with_reducible rfl)
      try simp only [Act.put, List.getElem_toArray, List.getElem_cons_zero, List.getElem_cons_succ, List.setIfInBounds_toArray, List.set_cons_zero, List.set_cons_succ]
      refine wpAnyH_take (i := 3) (oi := _) (v := ?_) rfl (by kernel_rfl) (by kernel_rfl) (by kernel_rfl) (fun _ _ _ h => h) (Or.inl ⟨by rfl, ?_⟩) hHeld ?_
      rotate_left
      · (intro w' hSw; (try dsimp only at hSw); go_simp; try with_reducible rfl)
      try simp only [Act.put, List.getElem_toArray, List.getElem_cons_zero, List.getElem_cons_succ, List.setIfInBounds_toArray, List.set_cons_zero, List.set_cons_succ]
      refine wpAnyH_take (i := 4) (oi := _) (v := ?_) rfl (by kernel_rfl) (by kernel_rfl) (by kernel_rfl) (fun _ _ _ h => h) (Or.inl ⟨by rfl, ?_⟩) hHeld ?_
      rotate_left
      · (intro w' hSw; (try dsimp only at hSw); go_simp; try with_reducible rfl)
      try simp only [Act.put, List.getElem_toArray, List.getElem_cons_zero, List.getElem_cons_succ, List.setIfInBounds_toArray, List.set_cons_zero, List.set_cons_succ]
      refine wpAnyH_take (i := 5) (oi := _) (v := ?_) rfl (by kernel_rfl) (by kernel_rfl) (by kernel_rfl) (fun _ _ _ h => h) (Or.inl ⟨by rfl, ?_⟩) hHeld ?_
      rotate_left
      · (intro w' hSw; (try dsimp only at hSw); go_simp; try with_reducible rfl)
      try simp only [Act.put, List.getElem_toArray, List.getElem_cons_zero, List.getElem_cons_succ, List.setIfInBounds_toArray, List.set_cons_zero, List.set_cons_succ]
      refine wpAnyH_take (i := 6) (oi := _) (v := ?_) rfl (by kernel_rfl) (by kernel_rfl) (by kernel_rfl) (fun _ _ _ h => h) (Or.inl ⟨by rfl, ?_⟩) hHeld ?_
      rotate_left
      · (intro w' hSw; (try dsimp only at hSw); go_simp; try with_reducible rfl)
      try simp only [Act.put, List.getElem_toArray, List.getElem_cons_zero, List.getElem_cons_succ, List.setIfInBounds_toArray, List.set_cons_zero, List.set_cons_succ]
      refine wpAnyH_take (i := 7) (oi := _) (v := ?_) rfl (by kernel_rfl) (by kernel_rfl) (by kernel_rfl) (fun _ _ _ h => h) (Or.inl ⟨by rfl, ?_⟩) hHeld ?_
      rotate_left
      · (intro w' hSw; (try dsimp only at hSw); go_simp; try with_reducible rfl)
      try simp only [Act.put, List.getElem_toArray, List.getElem_cons_zero, List.getElem_cons_succ, List.setIfInBounds_toArray, List.set_cons_zero, List.set_cons_succ]
      refine wpAnyH_take (i := 8) (oi := _) (v := ?_) rfl (by kernel_rfl) (by kernel_rfl) (by kernel_rfl) (fun _ _ _ h => h) (Or.inl ⟨by rfl, ?_⟩) hHeld ?_
      rotate_left
      · (intro w' hSw; (try dsimp only at hSw); go_simp; try with_reducible rfl)
      try simp only [Act.put, List.getElem_toArray, List.getElem_cons_zero, List.getElem_cons_succ, List.setIfInBounds_toArray, List.set_cons_zero, List.set_cons_succ]
      refine wpAnyH_take (i := 9) (oi := _) (v := ?_) rfl (by kernel_rfl) (by kernel_rfl) (by kernel_rfl) (fun _ _ _ h => h) (Or.inl ⟨by rfl, ?_⟩) hHeld ?_
      rotate_left
      · (intro w' hSw; (try dsimp only at hSw); go_simp; try with_reducible rfl)
      try simp only [Act.put, List.getElem_toArray, List.getElem_cons_zero, List.getElem_cons_succ, List.setIfInBounds_toArray, List.set_cons_zero, List.set_cons_succ]
      refine wpAnyH_ready (rs := [10]) (by kernel_rfl) (by simp) ?_
      refine AllReadyH.cons (o := _) rfl (fun K hK => ?_) ?_
      · go_simp
        refine hK.out _ _ (HeadS.keep hHeld) (fun hH10 => ?_)
        clear hK K
        refine wpAnyH_ready (rs := [11]) (by kernel_rfl) (by simp) ?_
        refine AllReadyH.cons (o := _) rfl (fun K hK => ?_) ?_
        · go_simp
          refine hK.out _ _ (hH10) (fun hH10_11 => ?_)
          clear hK K
          refine wpAnyH_take (i := 12) (oi := _) (v := ?_) rfl (by kernel_rfl) (by kernel_rfl) (by kernel_rfl) (fun _ _ _ h => h) (Or.inl ⟨by rfl, ?_⟩) hH10_11 ?_
          rotate_left
          · (intro w' hSw; (try dsimp only at hSw); go_simp; try with_reducible rfl)
          try simp only [Act.put, List.getElem_toArray, List.getElem_cons_zero, List.getElem_cons_succ, List.setIfInBounds_toArray, List.set_cons_zero, List.set_cons_succ]
          refine wpAnyH_done (by kernel_rfl) ?_ _
          (refine NoPanic.normal ?_; go_wp2_with fail; go_meet; case rel => exact ⟨_, rfl, rfl⟩)
        exact AllReadyH.nil
      exact AllReadyH.nil
    case rest =>
      clear hbegin
      obtain ⟨d2, rfl, rfl⟩ := hcut
      have q0 : ¬ rb = w.heap.size := by omega
      have q1 : ¬ rb = w.heap.size + 1 := by omega
      have q2 : ¬ rb = w.heap.size + 1 + 1 := by omega
      have hB3 : Below w.heap.size w (((w.alloc (.cells (msgL 0 ⟨#[]⟩ 0 0 0 0 0 ⟨#[]⟩ 0) 132)).alloc (.cells (msgL 3 ⟨#[]⟩ (bt s 1) (bt s 2) (two s 3) (two s 5) (two s 7) ⟨#[]⟩ 0) 132)).alloc (.cells #[] 169)) := hB1.trans ((Below.refl _ _).alloc (by simp; omega) _)
      have m1 : (((w.alloc (.cells (msgL 0 ⟨#[]⟩ 0 0 0 0 0 ⟨#[]⟩ 0) 132)).alloc (.cells (msgL 3 ⟨#[]⟩ (bt s 1) (bt s 2) (two s 3) (two s 5) (two s 7) ⟨#[]⟩ 0) 132)).alloc (.cells #[] 169)).cell? ⟨rb, 1, none⟩ = some (.int .i64 mx) := (hB3.cell (p := ⟨rb, 1, none⟩) hrb).trans g1
      by_cases c0 : bt s 0 = 81
      · have hb0 : (bt s 0 != 81) = false := by simpa using c0
        have C0 : Hid (bt s 0 = 81) := c0
        clear c0
        by_cases c1 : mx < two s 7
        · have HP : Hid (bt s 0 ≠ 81 ∨ mx < two s 7 ∨ two s 3 ∈ us) := .inr (.inl c1)
          have hd : decide (mx < two s 7) = true := by simpa using c1
          clear c1
          go_wp2
          go_quiet (fail)
          go_wp2
          exact ⟨rfl, by first | rfl | (rw [if_pos HP.out]), below_drewN hB3 _⟩
        · have hd : decide (mx < two s 7) = false := by simpa using c1
          have C1 : Hid (¬ mx < two s 7) := c1
          clear c1
          by_cases c2 : two s 3 ∈ us
          · have HP : Hid (bt s 0 ≠ 81 ∨ mx < two s 7 ∨ two s 3 ∈ us) := .inr (.inr c2)
            have hd2 : decide (two s 3 ∈ us) = true := by simpa using c2
            clear c2
            go_wp2
            go_quiet (fail)
            go_wp2
            exact ⟨rfl, by first | rfl | (rw [if_pos HP.out]), below_drewN hB3 _⟩
          · have HP : Hid (¬ (bt s 0 ≠ 81 ∨ mx < two s 7 ∨ two s 3 ∈ us)) := by
              rintro (h | h | h)
              · exact h C0.out
              · exact C1.out h
              · exact c2 h
            have hd2 : decide (two s 3 ∈ us) = false := by simpa using c2
            clear c2
            go_wp2
            go_quiet (fail)
            go_wp2
            exact bodyPost_ret (v := (headM s).val) (by simp [results, Tryz.results260, go_sem]) rfl ⟨by first | rfl | (rw [if_neg HP.out]), below3 _ _ _ _ _⟩
      · have HP : Hid (bt s 0 ≠ 81 ∨ mx < two s 7 ∨ two s 3 ∈ us) := .inl c0
        have hb0 : (bt s 0 != 81) = true := by simpa using c0
        clear c0
        go_wp2
        go_quiet (fail)
        go_wp2
        exact ⟨rfl, by first | rfl | (rw [if_pos HP.out]), below_drewN hB3 _⟩
end Go.Proofs.YtpobhljcainmdaaGreat
