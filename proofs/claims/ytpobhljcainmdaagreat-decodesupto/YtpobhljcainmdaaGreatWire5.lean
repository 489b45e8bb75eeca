/- Proved here: what the program's request answers, and when it gives up. -/
import Derived.Test.YtpobhljcainmdaaGreatWire4
import Derived.Test.YtpobhljcainmdaaGreatRef7
namespace Go.Proofs.YtpobhljcainmdaaGreat
open Go.RowKit
set_option linter.unusedSimpArgs false
attribute [local go_sem ↓] Go.wp_at_zero Go.wp_at_succ
attribute [local go_sem] alloc_drewN setCell_drewN

/-- What is held while a request is looked at: the reader's size, the message's cells, and that its last can be written. -/
abbrev ReqS (rb b : Nat) (sz : Int) (m : Msg) (W : World) : Prop := W.cell? ⟨rb, 0, none⟩ = some (.int .i64 sz) ∧ MsgAt W b m ∧ W.frozen? ⟨b, 8, none⟩ = false

theorem ReqS.later {rb b : Nat} {sz : Int} {m : Msg} {W W' : World} (h : ReqS rb b sz m W) (hb : Below W.heap.size W W') : ReqS rb b sz m W' := by
  have hlt : b < W.heap.size := blk_of_cell h.2.1.1
  exact ⟨(hb.cell (blk_of_cell h.1)).trans h.1, h.2.1.later hb hlt, (hb.frozen (p := ⟨b, 8, none⟩) hlt).trans h.2.2⟩

/-- Nine stores of a message. -/
theorem put9_at {W : World} {b : Nat} (m : Msg) (h : ∀ j, j < 9 → (W.cell? ⟨b, j, none⟩).isSome = true) : MsgAt (W.setCells b 0 m.cells) b m := by
  have key := World.cell?_setCells_in b m.cells 0 W (fun j hj => by simpa using h j hj)
  exact ⟨key 0 (by simp [Msg.cells]), key 1 (by simp [Msg.cells]), key 2 (by simp [Msg.cells]), key 3 (by simp [Msg.cells]), key 4 (by simp [Msg.cells]), key 5 (by simp [Msg.cells]), key 6 (by simp [Msg.cells]), key 7 (by simp [Msg.cells]), key 8 (by simp [Msg.cells])⟩

/-- What request hands back. -/
theorem res_request {W : World} {b : Nat} {m : Msg} (h : MsgAt W b m) (tmps : Array Value) (v : Value) (h4 : tmps.getD 4 undef = .pointer (some ⟨b, 0, none⟩)) (h5 : tmps.getD 5 undef = v) :
    (results Tryz.f230 tmps).run Tryz.prog W = .ok (.tuple #[m.val, v]) W := by
  obtain ⟨h0, h1, h2, h3, h4', h5', h6, h7, h8⟩ := h
  simp only [Array.getD_eq_getD_getElem?] at h4 h5
  simp [results, Tryz.results230, go_sem, h4, h5, h0, h1, h2, h3, h4', h5', h6, h7, h8]

theorem some9 {w w1 : World} {o : Obj} (hb : Below (w.alloc o).heap.size (w.alloc o) w1) {m : Msg} (ho : o = .cells (msgL m.wh m.nm m.kd m.fl m.ck m.of m.ln m.dt m.er) 132) : ∀ j, j < 9 → (w1.cell? ⟨w.heap.size, j, none⟩).isSome = true := fun j hj => by
  subst ho
  rw [hb.cell (p := ⟨w.heap.size, j, none⟩) (by simp)]
  match j, hj with
  | 0, _ | 1, _ | 2, _ | 3, _ | 4, _ | 5, _ | 6, _ | 7, _ | 8, _ => simp [go_sem]

theorem below_put9 {B b : Nat} {w W : World} (h : Below B w W) (hb : B ≤ b) (m : Msg) : Below B w (W.setCells b 0 m.cells) := below_set9 h hb _ _ _ _ _ _ _ _ _

set_option maxRecDepth 100000 in
set_option maxHeartbeats 4000000 in
theorem request_few (rb : Nat) (s : ByteArray) (w : World) (h9 : s.size < 9) :
    Calls Tryz.prog 230 #[.pointer (some ⟨rb, 0, none⟩), .string s] w fun e w' => e = .returned (.tuple #[Msg.zero.val, .int .i64 0]) ∧ Below w.heap.size w w' := by
  go_enter Tryz.func230, Tryz.ntmps230
  go_wp2
  exact bodyPost_ret (v := .tuple #[Msg.zero.val, .int .i64 0]) (by simp [results, Tryz.results230, go_sem, Msg.zero]) rfl ⟨rfl, (Below.refl _ _).alloc (Nat.le_refl _) _⟩

set_option maxRecDepth 100000 in
set_option maxHeartbeats 4000000 in
theorem request_shut (rb mb : Nat) (sz mx ph : Int) (us : List Int) (s : ByteArray) (w : World) (hs : s.size ≤ maxLen) (h9 : 9 ≤ s.size) (hR : RdAt w rb mb sz mx ph us) (hc : bt s 0 ≠ 81 ∨ mx < two s 7 ∨ two s 3 ∈ us) :
    Calls Tryz.prog 230 #[.pointer (some ⟨rb, 0, none⟩), .string s] w fun e w' => e = .panicked [{ v := brk 9, recovered := false }] ∧ Below w.heap.size w w' := by
  have hh : Hid (∀ W, Below w.heap.size w W → Calls Tryz.prog 260 #[.pointer (some ⟨rb, 0, none⟩), .string s] W fun e w' => e = .panicked [{ v := brk 9, recovered := false }] ∧ Below W.heap.size W w') := fun W hW => by
    exact (head_any rb mb sz mx ph us s W hs h9 (hR.later hW)).mono (fun e w' h => by rw [if_pos hc] at h; exact h)
  unfold maxLen at hs
  clear hR hc
  go_enter Tryz.func230, Tryz.ntmps230
  go_wp2_with (go_at_call 260; refine (hh.out _ ((Below.refl _ _).alloc (Nat.le_refl _) _)).mono ?_; rintro e w1 ⟨rfl, hb1⟩)
  exact ⟨rfl, rfl, ((Below.refl _ _).alloc (Nat.le_refl _) _).trans (hb1.mono (by simp))⟩

set_option maxRecDepth 100000 in
set_option maxHeartbeats 4000000 in
theorem request_part (rb mb : Nat) (sz mx ph : Int) (us : List Int) (s : ByteArray) (w : World) (hs : s.size ≤ maxLen) (h9 : 9 ≤ s.size) (hR : RdAt w rb mb sz mx ph us) (hc : ¬ (bt s 0 ≠ 81 ∨ mx < two s 7 ∨ two s 3 ∈ us)) (hk : bt s 1 = 1) (hl : (s.size : Int) < 9 + two s 7) :
    Calls Tryz.prog 230 #[.pointer (some ⟨rb, 0, none⟩), .string s] w fun e w' => e = .returned (.tuple #[Msg.zero.val, .int .i64 0]) ∧ Below w.heap.size w w' := by
  have hh : Hid (∀ W, Below w.heap.size w W → Calls Tryz.prog 260 #[.pointer (some ⟨rb, 0, none⟩), .string s] W fun e w' => e = .returned (.agg (msgL 3 ⟨#[]⟩ (bt s 1) (bt s 2) (two s 3) (two s 5) (two s 7) ⟨#[]⟩ 0)) ∧ Below W.heap.size W w') := fun W hW => by
    exact (head_any rb mb sz mx ph us s W hs h9 (hR.later hW)).mono (fun e w' h => by rw [if_neg hc] at h; exact h)
  have r7 := two_range s 7
  have kb : (bt s 1 == 1) = true := by simpa using hk
  unfold maxLen at hs
  clear hR hc hk
  go_enter Tryz.func230, Tryz.ntmps230
  go_wp2_with (go_at_call 260; refine (hh.out _ ((Below.refl _ _).alloc (Nat.le_refl _) _)).mono ?_; rintro e w1 ⟨rfl, hb1⟩; obtain ⟨hcc, hff⟩ := bcell hb1; have hz1 : w.heap.size < w1.heap.size := (by have := hb1.size; simp at this; omega); have hx : ∀ (ob : Obj) (o : Nat), (w1.alloc ob).cell? ⟨w.heap.size, o, none⟩ = w1.cell? ⟨w.heap.size, o, none⟩ := (fun ob o => World.cell?_of_block (Below.heap_alloc w1 ob _ hz1)); have hy : ∀ (ob : Obj) (o : Nat), (w1.alloc ob).frozen? ⟨w.heap.size, o, none⟩ = w1.frozen? ⟨w.heap.size, o, none⟩ := (fun ob o => World.frozen?_of_block (Below.heap_alloc w1 ob _ hz1)))
  have hB1 : Below w.heap.size w w1 := ((Below.refl _ _).alloc (Nat.le_refl _) _).trans (hb1.mono (by simp))
  have hA := put9_at Msg.zero (some9 (m := Msg.zero) hb1 rfl)
  have hlt : w.heap.size < (w1.setCells w.heap.size 0 Msg.zero.cells).heap.size := blk_of_cell hA.1
  exact bodyPost_ret (v := .tuple #[Msg.zero.val, .int .i64 0]) (res_request (b := w.heap.size) (m := Msg.zero) (MsgAt.later (w := w1.setCells w.heap.size 0 Msg.zero.cells) hA ((Below.refl _ _).alloc (Nat.le_refl _) _) hlt) _ _ rfl rfl) rfl
    ⟨rfl, (below_put9 hB1 (Nat.le_refl _) Msg.zero).alloc (Nat.le_of_lt hlt) _⟩

/-- The state in which a request's region begins. -/
theorem req_begin {W : World} {rb b : Nat} {sz : Int} {m : Msg} {d : ByteArray} (h : W.cell? ⟨rb, 0, none⟩ = some (.int .i64 sz)) (hne : rb ≠ b) (hb : W.heap[b]? = some (.cells (msgL m.wh m.nm m.kd m.fl m.ck m.of m.ln ⟨#[]⟩ m.er) 132 (0, 0))) :
    ReqS rb b sz { m with dt := d } (W.setCell ⟨b, 7, none⟩ (.string d)).drew := by
  refine ⟨(World.cell?_setCell_far W ⟨b, 7, none⟩ ⟨rb, 0, none⟩ _ (Ne.symm hne)).trans h, ?_, ?_⟩
  · have hc : ∀ j, j ≠ 7 → ((W.setCell ⟨b, 7, none⟩ (.string d)).drew).cell? ⟨b, j, none⟩ = W.cell? ⟨b, j, none⟩ := fun j hj => World.cell?_setCell_other W ⟨b, 7, none⟩ ⟨b, j, none⟩ _ (fun e => hj (by cases e; rfl))
    have h7 : ((W.setCell ⟨b, 7, none⟩ (.string d)).drew).cell? ⟨b, 7, none⟩ = some (.string d) := World.cell?_setCell_same' W ⟨b, 7, none⟩ _ (by simp [World.cell?, hb])
    refine ⟨?_, ?_, ?_, ?_, ?_, ?_, ?_, h7, ?_⟩ <;> (rw [hc _ (by decide)]; simp [World.cell?, hb])
  · show (W.setCell ⟨b, 7, none⟩ (.string d)).frozen? ⟨b, 8, none⟩ = false
    rw [World.frozen?_setCell]
    simp [World.frozen?, hb]

/-- .. and behind the store of its error. -/
theorem ReqS.err {rb b : Nat} {sz : Int} {m : Msg} {W : World} (h : ReqS rb b sz m W) (e : Int) : MsgAt (W.setCell ⟨b, 8, none⟩ (.int .i64 e)) b { m with er := e } := by
  obtain ⟨_, ⟨h0, h1, h2, h3, h4, h5, h6, h7, h8⟩, _⟩ := h
  have hc : ∀ j, j ≠ 8 → (W.setCell ⟨b, 8, none⟩ (.int .i64 e)).cell? ⟨b, j, none⟩ = W.cell? ⟨b, j, none⟩ := fun j hj => World.cell?_setCell_other W ⟨b, 8, none⟩ ⟨b, j, none⟩ _ (fun e => hj (by cases e; rfl))
  exact ⟨(hc 0 (by decide)).trans h0, (hc 1 (by decide)).trans h1, (hc 2 (by decide)).trans h2, (hc 3 (by decide)).trans h3, (hc 4 (by decide)).trans h4, (hc 5 (by decide)).trans h5, (hc 6 (by decide)).trans h6, (hc 7 (by decide)).trans h7, World.cell?_setCell_same' W ⟨b, 8, none⟩ _ (by rw [h8]; rfl)⟩

theorem box_far {W : World} {b b' j : Nat} {o : Obj} {v : Value} (h : W.heap[b]? = some o) (hne : b ≠ b') : (W.setCell ⟨b', j, none⟩ v).heap[b]? = some o := (Below.heap_setCell W ⟨b', j, none⟩ v b hne).trans h
theorem box_cells {W : World} {b : Nat} (h : W.heap[b]? = some (.cells (msgL 0 ⟨#[]⟩ 0 0 0 0 0 ⟨#[]⟩ 0) 132 (0, 0))) : MsgAt W b Msg.zero := by
  refine ⟨?_, ?_, ?_, ?_, ?_, ?_, ?_, ?_, ?_⟩ <;> simp [World.cell?, h, Msg.zero]
theorem box_some {W : World} {b : Nat} (h : W.heap[b]? = some (.cells (msgL 0 ⟨#[]⟩ 0 0 0 0 0 ⟨#[]⟩ 0) 132 (0, 0))) : ∀ j, j < 9 → (W.cell? ⟨b, j, none⟩).isSome = true := fun j hj => by
  match j, hj with
  | 0, _ | 1, _ | 2, _ | 3, _ | 4, _ | 5, _ | 6, _ | 7, _ | 8, _ => simp [World.cell?, h]
theorem req_end {w W : World} (m : Msg) (tmps : Array Value) (v : Value) (h4 : tmps.getD 4 undef = .pointer (some ⟨w.heap.size, 0, none⟩)) (h5 : tmps.getD 5 undef = v) (hP : ∀ j, j < 9 → (W.cell? ⟨w.heap.size, j, none⟩).isSome = true) (hB : Below w.heap.size w W) :
    bodyPost Tryz.prog Tryz.f230 (fun e w' => e = .returned (.tuple #[m.val, v]) ∧ Below w.heap.size w w') Exit.ret { tmps := tmps, defers := [] }
      (((((((((W.setCell ⟨w.heap.size, 0, none⟩ (.int .i64 m.wh)).setCell ⟨w.heap.size, 1, none⟩ (.string m.nm)).setCell ⟨w.heap.size, 2, none⟩ (.int .i64 m.kd)).setCell ⟨w.heap.size, 3, none⟩ (.int .i64 m.fl)).setCell ⟨w.heap.size, 4, none⟩ (.int .i64 m.ck)).setCell ⟨w.heap.size, 5, none⟩ (.int .i64 m.of)).setCell ⟨w.heap.size, 6, none⟩ (.int .i64 m.ln)).setCell ⟨w.heap.size, 7, none⟩ (.string m.dt)).setCell ⟨w.heap.size, 8, none⟩ (.int .i64 m.er)) :=
  bodyPost_ret (v := .tuple #[m.val, v]) (res_request (b := w.heap.size) (put9_at (W := W) m hP) tmps v h4 h5) rfl ⟨rfl, below_put9 hB (Nat.le_refl _) m⟩
theorem box_later {W W' : World} {b : Nat} {o : Obj} (h : W.heap[b]? = some o) (hb : Below W.heap.size W W') : W'.heap[b]? = some o := (hb.block b (Array.getElem?_eq_some_iff.1 h).1).trans h

set_option maxRecDepth 100000 in
set_option maxHeartbeats 4000000 in
theorem request_write (rb mb : Nat) (sz mx ph : Int) (us : List Int) (s : ByteArray) (w : World) (hs : s.size ≤ maxLen) (h9 : 9 ≤ s.size) (hR : RdAt w rb mb sz mx ph us) (hc : ¬ (bt s 0 ≠ 81 ∨ mx < two s 7 ∨ two s 3 ∈ us)) (hk : bt s 1 = 1) (hl : ¬ (s.size : Int) < 9 + two s 7) (hlim : s.size ≤ 281474976710656) :
    Calls Tryz.prog 230 #[.pointer (some ⟨rb, 0, none⟩), .string s] w fun e w' => e = .returned (.tuple #[Msg.val ⟨3, ⟨#[]⟩, bt s 1, bt s 2, two s 3, two s 5, two s 7, s.extract 9 (9 + two s 7).toNat, faultN ⟨3, ⟨#[]⟩, bt s 1, bt s 2, two s 3, two s 5, two s 7, s.extract 9 (9 + two s 7).toNat, 0⟩ sz⟩, .int .i64 (9 + two s 7)]) ∧ Below w.heap.size w w' := by
  have hh : Hid (∀ W, Below w.heap.size w W → Calls Tryz.prog 260 #[.pointer (some ⟨rb, 0, none⟩), .string s] W fun e w' => e = .returned (.agg (msgL 3 ⟨#[]⟩ (bt s 1) (bt s 2) (two s 3) (two s 5) (two s 7) ⟨#[]⟩ 0)) ∧ Below W.heap.size W w') := fun W hW => by
    exact (head_any rb mb sz mx ph us s W hs h9 (hR.later hW)).mono (fun e w' h => by rw [if_neg hc] at h; exact h)
  have r5 := two_range s 5
  have r7 := two_range s 7
  have kb : (bt s 1 == 1) = true := by simpa using hk
  have i9 : (9 : Int) ≤ s.size := by omega
  have hcr := hR.cell
  have hrb := hR.lt.1
  have HC : Hid (w.cell? ⟨rb, 0, none⟩ = some (.int .i64 sz)) := hcr.1
  unfold maxLen at hs
  clear hR hc hcr
  clear hk
  go_enter Tryz.func230, Tryz.ntmps230
  go_upto_region 10 with (first | (go_at_call 260; refine (hh.out _ ((Below.refl _ _).alloc (Nat.le_refl _) _)).mono ?_; rintro e w1 ⟨rfl, hb1⟩; obtain ⟨hcc, hff⟩ := bcell hb1; have hz1 : w.heap.size < w1.heap.size := (by have := hb1.size; simp at this; omega)) | (go_at_call 117; refine (clone_any _ _ (by simp <;> omega)).mono ?_; rintro e w2 ⟨rfl, hb2⟩; obtain ⟨hcc2, hff2⟩ := bcell hb2))
  have hB1 : Below w.heap.size w w1 := ((Below.refl _ _).alloc (Nat.le_refl _) _).trans (hb1.mono (by simp))
  have hB2 : Below w.heap.size w w2 := (hB1.alloc (Nat.le_of_lt hz1) _).trans (hb2.mono (by simp; exact Nat.le_of_lt (Nat.lt_succ_of_lt hz1)))
  have hz2 : w1.heap.size < w2.heap.size := by have := hb2.size; simp at this; omega
  have hmb : w2.heap[w1.heap.size]? = some (.cells (msgL 3 ⟨#[]⟩ (bt s 1) (bt s 2) (two s 3) (two s 5) (two s 7) ⟨#[]⟩ 0) 132 (0, 0)) := (hb2.block _ (by simp)).trans (heap_alloc_new w1 _)
  have hbx : w2.heap[w.heap.size]? = some (.cells (msgL 0 ⟨#[]⟩ 0 0 0 0 0 ⟨#[]⟩ 0) 132 (0, 0)) := (hb2.block _ (by simp; omega)).trans ((Below.heap_alloc _ _ _ hz1).trans ((hb1.block _ (by simp)).trans (heap_alloc_new w _)))
  have hbegin : ReqS rb w1.heap.size sz ⟨3, ⟨#[]⟩, bt s 1, bt s 2, two s 3, two s 5, two s 7, s.extract 9 (9 + two s 7).toNat, 0⟩ (w2.setCell ⟨w1.heap.size, 7, none⟩ (.string (s.extract 9 (9 + two s 7).toNat))).drew   := req_begin (W := w2) (rb := rb) (b := w1.heap.size) (m := ⟨3, ⟨#[]⟩, bt s 1, bt s 2, two s 3, two s 5, two s 7, ⟨#[]⟩, 0⟩) (d := (s.extract 9 (9 + two s 7).toNat)) (((hB2.cell (p := ⟨rb, 0, none⟩) hrb).trans HC.out)) (by omega) hmb
  have HX : Hid ((w2.setCell ⟨w1.heap.size, 7, none⟩ (.string (s.extract 9 (9 + two s 7).toNat))).heap[w.heap.size]? = some (.cells (msgL 0 ⟨#[]⟩ 0 0 0 0 0 ⟨#[]⟩ 0) 132 (0, 0))) := box_far hbx (by omega)
  have HW : Hid (Below w.heap.size w (w2.setCell ⟨w1.heap.size, 7, none⟩ (.string (s.extract 9 (9 + two s 7).toNat)))) := hB2.setCell (p := ⟨w1.heap.size, 7, none⟩) (Nat.le_of_lt hz1) _
  clear hcc hff hcc2 hff2 hb1 hb2 hB1 hB2 hmb hbx
  have HB : Hid (ReqS rb w1.heap.size sz ⟨3, ⟨#[]⟩, bt s 1, bt s 2, two s 3, two s 5, two s 7, s.extract 9 (9 + two s 7).toNat, 0⟩ (w2.setCell ⟨w1.heap.size, 7, none⟩ (.string (s.extract 9 (9 + two s 7).toNat))).drew) := hbegin
  obtain ⟨hb0, ⟨hm0, hm1, hm2, hm3, hm4, hm5, hm6, hm7, hm8⟩, hb10⟩ := hbegin
  go_cut [7] (fun q w' => q = .int .i64 (9 + two s 7) ∧ MsgAt w' w1.heap.size ⟨3, ⟨#[]⟩, bt s 1, bt s 2, two s 3, two s 5, two s 7, s.extract 9 (9 + two s 7).toNat, faultN ⟨3, ⟨#[]⟩, bt s 1, bt s 2, two s 3, two s 5, two s 7, s.extract 9 (9 + two s 7).toNat, 0⟩ sz⟩ ∧ Below w.heap.size w w' ∧ w'.heap[w.heap.size]? = some (.cells (msgL 0 ⟨#[]⟩ 0 0 0 0 0 ⟨#[]⟩ 0) 132 (0, 0)))
  case first =>
    refine wp_region_noPanic ?_
    refine wp_region_held_drew (S := fun w' => w'.cell? ⟨rb, 0, none⟩ = some (.int .i64 sz) ∧ w'.frozen? ⟨w1.heap.size, 8, none⟩ = false) (by kernel_rfl) ⟨hb0, hb10⟩ ?_
    intro hHeld
    refine wpAnyH_take (i := 1) (oi := _) (v := ?_) rfl (by kernel_rfl) (by kernel_rfl) (by kernel_rfl) (fun _ _ _ h => h) (Or.inl ⟨by rfl, ?_⟩) hHeld ?_
    rotate_left
    · (intro w' hSw; (try dsimp only at hSw); go_simp; try with_reducible rfl)
    try simp only [Act.put, List.getElem_toArray, List.getElem_cons_zero, List.getElem_cons_succ, List.setIfInBounds_toArray, List.set_cons_zero, List.set_cons_succ]
    refine wpAnyH_take (i := 2) (oi := _) (v := ?_) rfl (by kernel_rfl) (by kernel_rfl) (by kernel_rfl) (fun _ _ _ h => h) (Or.inl ⟨by rfl, ?_⟩) hHeld ?_
    rotate_left
    · (intro w' hSw; (try dsimp only at hSw); go_simp; try with_reducible rfl)
    try simp only [Act.put, List.getElem_toArray, List.getElem_cons_zero, List.getElem_cons_succ, List.setIfInBounds_toArray, List.set_cons_zero, List.set_cons_succ]
    refine wpAnyH_take (i := 3) (oi := _) (v := ?_) rfl (by kernel_rfl) (by kernel_rfl) (by kernel_rfl) (fun _ _ _ h => h) (Or.inl ⟨by rfl, ?_⟩) hHeld ?_
    rotate_left
    · (intro w' hSw; (try dsimp only at hSw); go_simp; try with_reducible rfl)
    try simp only [Act.put, List.getElem_toArray, List.getElem_cons_zero, List.getElem_cons_succ, List.setIfInBounds_toArray, List.set_cons_zero, List.set_cons_succ]
    refine wpAnyH_take (i := 4) (oi := _) (v := ?_) rfl (by kernel_rfl) (by kernel_rfl) (by kernel_rfl) (fun _ _ _ h => h) (Or.inl ⟨by rfl, ?_⟩) hHeld ?_
    rotate_left
    · (intro w' hSw; (try dsimp only at hSw); go_simp; try with_reducible rfl)
    try simp only [Act.put, List.getElem_toArray, List.getElem_cons_zero, List.getElem_cons_succ, List.setIfInBounds_toArray, List.set_cons_zero, List.set_cons_succ]
    refine wpAnyH_ready (rs := [0]) (by kernel_rfl) (by simp) ?_
    refine AllReadyH.cons (o := _) rfl (fun K hK => ?_) ?_
    · go_simp
      refine hK.out _ _ (hHeld) (fun hH0 => ?_)
      clear hK K
      refine wpAnyH_ready (rs := [5]) (by kernel_rfl) (by simp) ?_
      refine AllReadyH.cons (o := _) rfl (fun K hK => ?_) ?_
      · go_simp
        (refine (fault_any ⟨3, ⟨#[]⟩, bt s 1, bt s 2, two s 3, two s 5, two s 7, s.extract 9 (9 + two s 7).toNat, 0⟩ sz _ r5.1 r5.2 r7.1 r7.2).mono ?_; rintro e w3 ⟨rfl, hb3⟩; have hq8 : w3.cell? ⟨w1.heap.size, 8, none⟩ = some (.int .i64 0) := (ReqS.later HB.out hb3).2.1.2.2.2.2.2.2.2.2; have hqf : w3.frozen? ⟨w1.heap.size, 8, none⟩ = false := (ReqS.later HB.out hb3).2.2)
        go_wp2_with fail
        refine hK.out _ _ (⟨(ReqS.later HB.out hb3).1, (ReqS.later HB.out hb3).2.2⟩) (fun hH0_5 => ?_)
        clear hK K
        refine wpAnyH_take (i := 6) (oi := _) (v := ?_) rfl (by kernel_rfl) (by kernel_rfl) (by kernel_rfl) (fun _ _ _ h => h) (Or.inl ⟨by rfl, ?_⟩) hH0_5 ?_
        rotate_left
        · (intro w' hSw; (try dsimp only at hSw); go_simp; try with_reducible rfl)
        try simp only [Act.put, List.getElem_toArray, List.getElem_cons_zero, List.getElem_cons_succ, List.setIfInBounds_toArray, List.set_cons_zero, List.set_cons_succ]
        refine wpAnyH_ready (rs := [7]) (by kernel_rfl) (by simp) ?_
        refine AllReadyH.cons (o := _) rfl (fun K hK => ?_) ?_
        · go_simp
          refine hK.out _ _ (⟨(World.cell?_setCell_far _ ⟨w1.heap.size, 8, none⟩ ⟨rb, 0, none⟩ _ (by show w1.heap.size ≠ rb; omega)).trans hH0_5.1, (World.frozen?_setCell _ _ _ _).trans hH0_5.2⟩) (fun hH0_5_7 => ?_)
          clear hK K
          refine wpAnyH_done (by kernel_rfl) ?_ _
          (refine NoPanic.normal ?_; go_wp2_with fail; go_meet; case rel => exact ⟨rfl, (ReqS.later HB.out hb3).err _, ((HW.out.drew).trans (hb3.mono (by exact HW.out.size))).setCell (p := ⟨w1.heap.size, 8, none⟩) (Nat.le_of_lt hz1) _, box_far (box_later (by exact HX.out) hb3) (by omega)⟩)
        exact AllReadyH.nil
      exact AllReadyH.nil
    exact AllReadyH.nil
  case rest =>
    clear hm0 hm1 hm2 hm3 hm4 hm5 hm6 hm7 hm8 hb0 hb10 HB HX HW HC hh
    obtain ⟨rfl, ⟨z0, z1, z2, z3, z4, z5, z6, z7, z8⟩, hBw, hbx⟩ := hcut
    have p9 : ∀ j, j < 9 → (wc.cell? ⟨w.heap.size, j, none⟩).isSome = true := fun j hj => box_some hbx j hj
    have P9 : Hid (∀ j, j < 9 → (wc.cell? ⟨w.heap.size, j, none⟩).isSome = true) := p9
    obtain ⟨p0, p1, p2, p3, p4, p5, p6, p7, p8⟩ := box_cells hbx
    have pf : ∀ j, wc.frozen? ⟨w.heap.size, j, none⟩ = false := fun j => by simp [World.frozen?, hbx]
    have HBx : Hid (wc.heap[w.heap.size]? = some (.cells (msgL 0 ⟨#[]⟩ 0 0 0 0 0 ⟨#[]⟩ 0) 132 (0, 0))) := hbx
    have HBw : Hid (Below w.heap.size w wc) := hBw
    clear hbx p9 hBw
    go_wp2
    exact req_end (W := wc) ⟨3, ⟨#[]⟩, bt s 1, bt s 2, two s 3, two s 5, two s 7, s.extract 9 (9 + two s 7).toNat, faultN ⟨3, ⟨#[]⟩, bt s 1, bt s 2, two s 3, two s 5, two s 7, s.extract 9 (9 + two s 7).toNat, 0⟩ sz⟩ _ _ rfl rfl P9.out HBw.out

set_option maxRecDepth 100000 in
set_option maxHeartbeats 4000000 in
theorem request_other (rb mb : Nat) (sz mx ph : Int) (us : List Int) (s : ByteArray) (w : World) (hs : s.size ≤ maxLen) (h9 : 9 ≤ s.size) (hR : RdAt w rb mb sz mx ph us) (hc : ¬ (bt s 0 ≠ 81 ∨ mx < two s 7 ∨ two s 3 ∈ us)) (hk : ¬ bt s 1 = 1) (hlim : s.size ≤ 281474976710656) :
    Calls Tryz.prog 230 #[.pointer (some ⟨rb, 0, none⟩), .string s] w fun e w' => e = .returned (.tuple #[Msg.val ⟨3, ⟨#[]⟩, bt s 1, bt s 2, two s 3, two s 5, two s 7, ByteArray.empty, faultN ⟨3, ⟨#[]⟩, bt s 1, bt s 2, two s 3, two s 5, two s 7, ByteArray.empty, 0⟩ sz⟩, .int .i64 9]) ∧ Below w.heap.size w w' := by
  have hh : Hid (∀ W, Below w.heap.size w W → Calls Tryz.prog 260 #[.pointer (some ⟨rb, 0, none⟩), .string s] W fun e w' => e = .returned (.agg (msgL 3 ⟨#[]⟩ (bt s 1) (bt s 2) (two s 3) (two s 5) (two s 7) ⟨#[]⟩ 0)) ∧ Below W.heap.size W w') := fun W hW => by
    exact (head_any rb mb sz mx ph us s W hs h9 (hR.later hW)).mono (fun e w' h => by rw [if_neg hc] at h; exact h)
  have r5 := two_range s 5
  have r7 := two_range s 7
  have kb : (bt s 1 == 1) = false := by simpa using hk
  have i9 : (9 : Int) ≤ s.size := by omega
  have hcr := hR.cell
  have hrb := hR.lt.1
  have HC : Hid (w.cell? ⟨rb, 0, none⟩ = some (.int .i64 sz)) := hcr.1
  unfold maxLen at hs
  clear hR hc hcr
  clear hk
  go_enter Tryz.func230, Tryz.ntmps230
  go_upto_region 10 with (first | (go_at_call 260; refine (hh.out _ ((Below.refl _ _).alloc (Nat.le_refl _) _)).mono ?_; rintro e w1 ⟨rfl, hb1⟩; obtain ⟨hcc, hff⟩ := bcell hb1; have hz1 : w.heap.size < w1.heap.size := (by have := hb1.size; simp at this; omega)) | (go_at_call 117; refine (clone_any _ _ (by simp <;> omega)).mono ?_; rintro e w2 ⟨rfl, hb2⟩; obtain ⟨hcc2, hff2⟩ := bcell hb2))
  have hB1 : Below w.heap.size w w1 := ((Below.refl _ _).alloc (Nat.le_refl _) _).trans (hb1.mono (by simp))
  have hB2 : Below w.heap.size w w2 := (hB1.alloc (Nat.le_of_lt hz1) _).trans (hb2.mono (by simp; exact Nat.le_of_lt (Nat.lt_succ_of_lt hz1)))
  have hz2 : w1.heap.size < w2.heap.size := by have := hb2.size; simp at this; omega
  have hmb : w2.heap[w1.heap.size]? = some (.cells (msgL 3 ⟨#[]⟩ (bt s 1) (bt s 2) (two s 3) (two s 5) (two s 7) ⟨#[]⟩ 0) 132 (0, 0)) := (hb2.block _ (by simp)).trans (heap_alloc_new w1 _)
  have hbx : w2.heap[w.heap.size]? = some (.cells (msgL 0 ⟨#[]⟩ 0 0 0 0 0 ⟨#[]⟩ 0) 132 (0, 0)) := (hb2.block _ (by simp; omega)).trans ((Below.heap_alloc _ _ _ hz1).trans ((hb1.block _ (by simp)).trans (heap_alloc_new w _)))
  have hbegin : ReqS rb w1.heap.size sz ⟨3, ⟨#[]⟩, bt s 1, bt s 2, two s 3, two s 5, two s 7, ByteArray.empty, 0⟩ (w2.setCell ⟨w1.heap.size, 7, none⟩ (.string (ByteArray.empty))).drew   := req_begin (W := w2) (rb := rb) (b := w1.heap.size) (m := ⟨3, ⟨#[]⟩, bt s 1, bt s 2, two s 3, two s 5, two s 7, ⟨#[]⟩, 0⟩) (d := (ByteArray.empty)) (((hB2.cell (p := ⟨rb, 0, none⟩) hrb).trans HC.out)) (by omega) hmb
  have HX : Hid ((w2.setCell ⟨w1.heap.size, 7, none⟩ (.string (ByteArray.empty))).heap[w.heap.size]? = some (.cells (msgL 0 ⟨#[]⟩ 0 0 0 0 0 ⟨#[]⟩ 0) 132 (0, 0))) := box_far hbx (by omega)
  have HW : Hid (Below w.heap.size w (w2.setCell ⟨w1.heap.size, 7, none⟩ (.string (ByteArray.empty)))) := hB2.setCell (p := ⟨w1.heap.size, 7, none⟩) (Nat.le_of_lt hz1) _
  clear hcc hff hcc2 hff2 hb1 hb2 hB1 hB2 hmb hbx
  have HB : Hid (ReqS rb w1.heap.size sz ⟨3, ⟨#[]⟩, bt s 1, bt s 2, two s 3, two s 5, two s 7, ByteArray.empty, 0⟩ (w2.setCell ⟨w1.heap.size, 7, none⟩ (.string (ByteArray.empty))).drew) := hbegin
  obtain ⟨hb0, ⟨hm0, hm1, hm2, hm3, hm4, hm5, hm6, hm7, hm8⟩, hb10⟩ := hbegin
  go_cut [7] (fun q w' => q = .int .i64 9 ∧ MsgAt w' w1.heap.size ⟨3, ⟨#[]⟩, bt s 1, bt s 2, two s 3, two s 5, two s 7, ByteArray.empty, faultN ⟨3, ⟨#[]⟩, bt s 1, bt s 2, two s 3, two s 5, two s 7, ByteArray.empty, 0⟩ sz⟩ ∧ Below w.heap.size w w' ∧ w'.heap[w.heap.size]? = some (.cells (msgL 0 ⟨#[]⟩ 0 0 0 0 0 ⟨#[]⟩ 0) 132 (0, 0)))
  case first =>
    refine wp_region_noPanic ?_
    refine wp_region_held_drew (S := fun w' => w'.cell? ⟨rb, 0, none⟩ = some (.int .i64 sz) ∧ w'.frozen? ⟨w1.heap.size, 8, none⟩ = false) (by kernel_rfl) ⟨hb0, hb10⟩ ?_
    intro hHeld
    refine wpAnyH_take (i := 1) (oi := _) (v := ?_) rfl (by kernel_rfl) (by kernel_rfl) (by kernel_rfl) (fun _ _ _ h => h) (Or.inl ⟨by rfl, ?_⟩) hHeld ?_
    rotate_left
    · (intro w' hSw; (try dsimp only at hSw); go_simp; try with_reducible rfl)
    try simp only [Act.put, List.getElem_toArray, List.getElem_cons_zero, List.getElem_cons_succ, List.setIfInBounds_toArray, List.set_cons_zero, List.set_cons_succ]
    refine wpAnyH_take (i := 2) (oi := _) (v := ?_) rfl (by kernel_rfl) (by kernel_rfl) (by kernel_rfl) (fun _ _ _ h => h) (Or.inl ⟨by rfl, ?_⟩) hHeld ?_
    rotate_left
    · (intro w' hSw; (try dsimp only at hSw); go_simp; try with_reducible rfl)
    try simp only [Act.put, List.getElem_toArray, List.getElem_cons_zero, List.getElem_cons_succ, List.setIfInBounds_toArray, List.set_cons_zero, List.set_cons_succ]
    refine wpAnyH_take (i := 3) (oi := _) (v := ?_) rfl (by kernel_rfl) (by kernel_rfl) (by kernel_rfl) (fun _ _ _ h => h) (Or.inl ⟨by rfl, ?_⟩) hHeld ?_
    rotate_left
    · (intro w' hSw; (try dsimp only at hSw); go_simp; try with_reducible rfl)
    try simp only [Act.put, List.getElem_toArray, List.getElem_cons_zero, List.getElem_cons_succ, List.setIfInBounds_toArray, List.set_cons_zero, List.set_cons_succ]
    refine wpAnyH_take (i := 4) (oi := _) (v := ?_) rfl (by kernel_rfl) (by kernel_rfl) (by kernel_rfl) (fun _ _ _ h => h) (Or.inl ⟨by rfl, ?_⟩) hHeld ?_
    rotate_left
    · (intro w' hSw; (try dsimp only at hSw); go_simp; try with_reducible rfl)
    try simp only [Act.put, List.getElem_toArray, List.getElem_cons_zero, List.getElem_cons_succ, List.setIfInBounds_toArray, List.set_cons_zero, List.set_cons_succ]
    refine wpAnyH_ready (rs := [0]) (by kernel_rfl) (by simp) ?_
    refine AllReadyH.cons (o := _) rfl (fun K hK => ?_) ?_
    · go_simp
      refine hK.out _ _ (hHeld) (fun hH0 => ?_)
      clear hK K
      refine wpAnyH_ready (rs := [5]) (by kernel_rfl) (by simp) ?_
      refine AllReadyH.cons (o := _) rfl (fun K hK => ?_) ?_
      · go_simp
        (refine (fault_any ⟨3, ⟨#[]⟩, bt s 1, bt s 2, two s 3, two s 5, two s 7, ByteArray.empty, 0⟩ sz _ r5.1 r5.2 r7.1 r7.2).mono ?_; rintro e w3 ⟨rfl, hb3⟩; have hq8 : w3.cell? ⟨w1.heap.size, 8, none⟩ = some (.int .i64 0) := (ReqS.later HB.out hb3).2.1.2.2.2.2.2.2.2.2; have hqf : w3.frozen? ⟨w1.heap.size, 8, none⟩ = false := (ReqS.later HB.out hb3).2.2)
        go_wp2_with fail
        refine hK.out _ _ (⟨(ReqS.later HB.out hb3).1, (ReqS.later HB.out hb3).2.2⟩) (fun hH0_5 => ?_)
        clear hK K
        refine wpAnyH_take (i := 6) (oi := _) (v := ?_) rfl (by kernel_rfl) (by kernel_rfl) (by kernel_rfl) (fun _ _ _ h => h) (Or.inl ⟨by rfl, ?_⟩) hH0_5 ?_
        rotate_left
        · (intro w' hSw; (try dsimp only at hSw); go_simp; try with_reducible rfl)
        try simp only [Act.put, List.getElem_toArray, List.getElem_cons_zero, List.getElem_cons_succ, List.setIfInBounds_toArray, List.set_cons_zero, List.set_cons_succ]
        refine wpAnyH_ready (rs := [7]) (by kernel_rfl) (by simp) ?_
        refine AllReadyH.cons (o := _) rfl (fun K hK => ?_) ?_
        · go_simp
          refine hK.out _ _ (⟨(World.cell?_setCell_far _ ⟨w1.heap.size, 8, none⟩ ⟨rb, 0, none⟩ _ (by show w1.heap.size ≠ rb; omega)).trans hH0_5.1, (World.frozen?_setCell _ _ _ _).trans hH0_5.2⟩) (fun hH0_5_7 => ?_)
          clear hK K
          refine wpAnyH_done (by kernel_rfl) ?_ _
          (refine NoPanic.normal ?_; go_wp2_with fail; go_meet; case rel => exact ⟨rfl, (ReqS.later HB.out hb3).err _, ((HW.out.drew).trans (hb3.mono (by exact HW.out.size))).setCell (p := ⟨w1.heap.size, 8, none⟩) (Nat.le_of_lt hz1) _, box_far (box_later (by exact HX.out) hb3) (by omega)⟩)
        exact AllReadyH.nil
      exact AllReadyH.nil
    exact AllReadyH.nil
  case rest =>
    clear hm0 hm1 hm2 hm3 hm4 hm5 hm6 hm7 hm8 hb0 hb10 HB HX HW HC hh
    obtain ⟨rfl, ⟨z0, z1, z2, z3, z4, z5, z6, z7, z8⟩, hBw, hbx⟩ := hcut
    have p9 : ∀ j, j < 9 → (wc.cell? ⟨w.heap.size, j, none⟩).isSome = true := fun j hj => box_some hbx j hj
    have P9 : Hid (∀ j, j < 9 → (wc.cell? ⟨w.heap.size, j, none⟩).isSome = true) := p9
    obtain ⟨p0, p1, p2, p3, p4, p5, p6, p7, p8⟩ := box_cells hbx
    have pf : ∀ j, wc.frozen? ⟨w.heap.size, j, none⟩ = false := fun j => by simp [World.frozen?, hbx]
    have HBx : Hid (wc.heap[w.heap.size]? = some (.cells (msgL 0 ⟨#[]⟩ 0 0 0 0 0 ⟨#[]⟩ 0) 132 (0, 0))) := hbx
    have HBw : Hid (Below w.heap.size w wc) := hBw
    clear hbx p9 hBw
    go_wp2
    exact req_end (W := wc) ⟨3, ⟨#[]⟩, bt s 1, bt s 2, two s 3, two s 5, two s 7, ByteArray.empty, faultN ⟨3, ⟨#[]⟩, bt s 1, bt s 2, two s 3, two s 5, two s 7, ByteArray.empty, 0⟩ sz⟩ _ _ rfl rfl P9.out HBw.out

theorem verd (s : ByteArray) (sz : Int) (d : ByteArray) (hz : 0 ≤ sz) : faultN ⟨3, ⟨#[]⟩, bt s 1, bt s 2, two s 3, two s 5, two s 7, d, 0⟩ sz = verdict sz (bt s 1) (bt s 2) (two s 5) (two s 7) :=
  faultN_eq _ sz (bt_range s 1).1 (bt_range s 2).1 hz

theorem request_any (rb mb : Nat) (sz mx ph : Int) (us : List Int) (s : ByteArray) (w : World) (hz : 0 ≤ sz) (hlim : s.size ≤ 281474976710656) (hR : RdAt w rb mb sz mx ph us) :
    Calls Tryz.prog 230 #[.pointer (some ⟨rb, 0, none⟩), .string s] w fun e w' => Ends (reqst sz mx us s) e ∧ Below w.heap.size w w' := by
  have hs : s.size ≤ maxLen := by unfold maxLen; omega
  by_cases h9 : s.size < 9
  · refine (request_few rb s w h9).mono fun e w' h => ⟨.inr ?_, h.2⟩
    unfold reqst
    rw [if_pos h9]
    exact ⟨by decide, h.1⟩
  · have h9' : 9 ≤ s.size := by omega
    by_cases hc : bt s 0 ≠ 81 ∨ mx < two s 7 ∨ two s 3 ∈ us
    · refine (request_shut rb mb sz mx ph us s w hs h9' hR hc).mono fun e w' h => ⟨.inl ?_, h.2⟩
      unfold reqst
      rw [if_neg h9, if_pos hc]
      exact ⟨rfl, h.1⟩
    · by_cases hk : bt s 1 = 1
      · by_cases hl : (s.size : Int) < 9 + two s 7
        · refine (request_part rb mb sz mx ph us s w hs h9' hR hc hk hl).mono fun e w' h => ⟨.inr ?_, h.2⟩
          unfold reqst
          rw [if_neg h9, if_neg hc, if_pos hk, if_pos hl]
          exact ⟨by decide, h.1⟩
        · refine (request_write rb mb sz mx ph us s w hs h9' hR hc hk hl hlim).mono fun e w' h => ⟨.inr ?_, h.2⟩
          unfold reqst
          rw [if_neg h9, if_neg hc, if_pos hk, if_neg hl]
          refine ⟨show (3 : Int) ≠ 4 by decide, ?_⟩
          rw [h.1, verd s sz _ hz]
      · refine (request_other rb mb sz mx ph us s w hs h9' hR hc hk hlim).mono fun e w' h => ⟨.inr ?_, h.2⟩
        unfold reqst
        rw [if_neg h9, if_neg hc, if_neg hk]
        refine ⟨show (3 : Int) ≠ 4 by decide, ?_⟩
        rw [h.1, verd s sz _ hz]
        rfl
end Go.Proofs.YtpobhljcainmdaaGreat
