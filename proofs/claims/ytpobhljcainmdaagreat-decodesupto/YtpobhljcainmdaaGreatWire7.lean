/- Proved here: what the program's next answers: the message that a text begins with, in each phase; a breach is caught. -/
import Derived.Test.YtpobhljcainmdaaGreatWire6
namespace Go.Proofs.YtpobhljcainmdaaGreat
open Go.RowKit
set_option linter.unusedSimpArgs false
attribute [local go_sem ↓] Go.wp_at_zero Go.wp_at_succ
attribute [local go_sem] alloc_drewN setCell_drewN

theorem ends_ret {f : FuncId} {args : Array Value} {w : World} {m : Msg} {n : Int} (h : Calls Tryz.prog f args w fun e w' => Ends (m, n) e ∧ Below w.heap.size w w') (hr : m.wh ≠ 4) :
    Calls Tryz.prog f args w fun e w' => e = .returned (.tuple #[.agg (msgL m.wh m.nm m.kd m.fl m.ck m.of m.ln m.dt m.er), .int .i64 n]) ∧ Below w.heap.size w w' :=
  h.mono fun e w' h => by
    obtain ⟨⟨h1, _⟩ | ⟨_, h2⟩, hb⟩ := h
    · exact absurd (by rw [show m = Msg.closing from h1]; rfl) hr
    · exact ⟨h2, hb⟩
theorem ends_brk {f : FuncId} {args : Array Value} {w : World} {m : Msg} {n : Int} (h : Calls Tryz.prog f args w fun e w' => Ends (m, n) e ∧ Below w.heap.size w w') (hr : m.wh = 4) :
    Calls Tryz.prog f args w fun e w' => e = .panicked [{ v := brk n, recovered := false }] ∧ (m = .closing ∧ Below w.heap.size w w') :=
  h.mono fun e w' h => by
    obtain ⟨⟨h1, h2⟩ | ⟨h1, _⟩, hb⟩ := h
    · exact ⟨h2, h1, hb⟩
    · exact absurd hr h1

/-- What next hands back. -/
theorem res_next {W : World} {b bn : Nat} {m : Msg} {n : Int} (h : MsgAt W b m) (hn : W.cell? ⟨bn, 0, none⟩ = some (.int .i64 n)) (tmps : Array Value) (h4 : tmps.getD 4 undef = .pointer (some ⟨b, 0, none⟩)) (h5 : tmps.getD 5 undef = .pointer (some ⟨bn, 0, none⟩)) :
    (results Tryz.f190 tmps).run Tryz.prog W = .ok (.tuple #[m.val, .int .i64 n]) W := by
  obtain ⟨h0, h1, h2, h3, h4', h5', h6, h7, h8⟩ := h
  simp only [Array.getD_eq_getD_getElem?] at h4 h5
  simp [results, Tryz.results190, go_sem, h4, h5, h0, h1, h2, h3, h4', h5', h6, h7, h8, hn]


abbrev nextBoxes (w : World) : World := (w.alloc (.cells (msgL 0 ⟨#[]⟩ 0 0 0 0 0 ⟨#[]⟩ 0) 132)).alloc (.cells #[.int .i64 0] 3)

theorem next_boxes {w w1 : World} (hb : Below (nextBoxes w).heap.size (nextBoxes w) w1) : w1.heap[w.heap.size]? = some (.cells (msgL 0 ⟨#[]⟩ 0 0 0 0 0 ⟨#[]⟩ 0) 132 (0, 0)) ∧ w1.heap[w.heap.size + 1]? = some (.cells #[.int .i64 0] 3 (0, 0)) ∧ Below w.heap.size w w1 := by
  refine ⟨?_, ?_, ?_⟩
  · rw [hb.block _ (by simp; omega), Below.heap_alloc _ _ _ (by simp)]
    exact heap_alloc_new w _
  · rw [hb.block _ (by simp)]
    have := heap_alloc_new (w.alloc (.cells (msgL 0 ⟨#[]⟩ 0 0 0 0 0 ⟨#[]⟩ 0) 132)) (.cells #[.int .i64 0] 3)
    rwa [World.size_alloc] at this
  · exact (((Below.refl _ _).alloc (Nat.le_refl _) _).alloc (by simp) _).trans (hb.mono (by simp; omega))

theorem next_done {w w1 : World} {m : Msg} {n : Int} (tmps : Array Value) (h4 : tmps.getD 4 undef = .pointer (some ⟨w.heap.size, 0, none⟩)) (h5 : tmps.getD 5 undef = .pointer (some ⟨w.heap.size + 1, 0, none⟩)) (hb : Below (nextBoxes w).heap.size (nextBoxes w) w1) :
    bodyPostD Tryz.prog Tryz.f190 (fun e w' => e = .returned (.tuple #[m.val, .int .i64 n]) ∧ Below w.heap.size w w') Exit.ret
      { tmps := tmps, defers := [{ target := .fn (.func 226) #[.pointer (some ⟨w.heap.size, 0, none⟩), .pointer (some ⟨w.heap.size + 1, 0, none⟩)], args := #[] }] }
      ((((((((((w1.setCell ⟨w.heap.size, 0, none⟩ (.int .i64 m.wh)).setCell ⟨w.heap.size, 1, none⟩ (.string m.nm)).setCell ⟨w.heap.size, 2, none⟩ (.int .i64 m.kd)).setCell ⟨w.heap.size, 3, none⟩ (.int .i64 m.fl)).setCell ⟨w.heap.size, 4, none⟩ (.int .i64 m.ck)).setCell ⟨w.heap.size, 5, none⟩ (.int .i64 m.of)).setCell ⟨w.heap.size, 6, none⟩ (.int .i64 m.ln)).setCell ⟨w.heap.size, 7, none⟩ (.string m.dt)).setCell ⟨w.heap.size, 8, none⟩ (.int .i64 m.er)).setCell ⟨w.heap.size + 1, 0, none⟩ (.int .i64 n)) := by
  obtain ⟨hm, hn, hB⟩ := next_boxes hb
  have hA := put9_at (W := w1) (b := w.heap.size) m (box_some hm)
  have hA' : MsgAt ((w1.setCells w.heap.size 0 m.cells).setCell ⟨w.heap.size + 1, 0, none⟩ (.int .i64 n)) w.heap.size m :=
    MsgAt.far (w := w1.setCells w.heap.size 0 m.cells) (row := some (w.heap.size + 1)) hA (grown_set _ _ _ _) (blk_of_cell hA.1) (by simp)
  have hn' : ((w1.setCells w.heap.size 0 m.cells).setCell ⟨w.heap.size + 1, 0, none⟩ (.int .i64 n)).cell? ⟨w.heap.size + 1, 0, none⟩ = some (.int .i64 n) := by
    refine World.cell?_setCell_same' (w1.setCells w.heap.size 0 m.cells) ⟨w.heap.size + 1, 0, none⟩ _ ?_
    have e : (w1.setCells w.heap.size 0 m.cells).cell? ⟨w.heap.size + 1, 0, none⟩ = w1.cell? ⟨w.heap.size + 1, 0, none⟩ := World.cell?_setCells_out w.heap.size m.cells 0 w1 ⟨w.heap.size + 1, 0, none⟩ (fun h => absurd h (by simp))
    rw [e]
    simp [World.cell?, hn]
  refine leaves_cons (f := 226) (args := #[.pointer (some ⟨w.heap.size, 0, none⟩), .pointer (some ⟨w.heap.size + 1, 0, none⟩)]) (by simp) (by simp [go_sem]) ?_
  refine (door_idle _ _ _).mono ?_
  rintro e u' w'' ⟨rfl, rfl, rfl⟩
  exact ⟨_, res_next (b := w.heap.size) (bn := w.heap.size + 1) (m := m) (n := n) hA' hn' _ h4 h5, rfl, (below_put9 hB (Nat.le_refl _) m).setCell (p := ⟨w.heap.size + 1, 0, none⟩) (Nat.le_succ _) _⟩

theorem next_caught {w w1 : World} {m : Msg} {n : Int} (hcl : m = .closing) (tmps : Array Value) (h4 : tmps.getD 4 undef = .pointer (some ⟨w.heap.size, 0, none⟩)) (h5 : tmps.getD 5 undef = .pointer (some ⟨w.heap.size + 1, 0, none⟩)) (hb : Below (nextBoxes w).heap.size (nextBoxes w) w1) :
    bodyPostD Tryz.prog Tryz.f190 (fun e w' => e = .returned (.tuple #[m.val, .int .i64 n]) ∧ Below w.heap.size w w') (Exit.panic [{ v := brk n, recovered := false }])
      { tmps := tmps, defers := [{ target := .fn (.func 226) #[.pointer (some ⟨w.heap.size, 0, none⟩), .pointer (some ⟨w.heap.size + 1, 0, none⟩)], args := #[] }] } w1 := by
  subst hcl
  obtain ⟨hm, hn, hB⟩ := next_boxes hb
  have hsz : w.heap.size ≤ w1.heap.size := hB.size
  refine leaves_cons (f := 226) (args := #[.pointer (some ⟨w.heap.size, 0, none⟩), .pointer (some ⟨w.heap.size + 1, 0, none⟩)]) (by simp) (by simp [go_sem]) ?_
  refine (door_caught w.heap.size (w.heap.size + 1) n [] w1 (by omega) hm hn).mono ?_
  rintro e u' w2 ⟨rfl, rfl, hA, hc, hB2⟩
  exact ⟨_, res_next (b := w.heap.size) (bn := w.heap.size + 1) (m := Msg.closing) (n := n) hA hc _ h4 h5, rfl, hB.trans (hB2 _ (Nat.le_refl _) (Nat.le_succ _) hsz)⟩

set_option maxRecDepth 100000 in
set_option maxHeartbeats 2000000 in
theorem next_greet_ret (rb : Nat) (s : ByteArray) (w : World) (hs : s.size ≤ maxLen) (hph : w.cell? ⟨rb, 2, none⟩ = some (.int .i64 0)) (m : Msg) (n : Int) (hg : greet s = (m, n)) (hwh : m.wh ≠ 4) :
    Calls Tryz.prog 190 #[.pointer (some ⟨rb, 0, none⟩), .string s] w fun e w' => e = .returned (.tuple #[m.val, .int .i64 n]) ∧ Below w.heap.size w w' := by
  have hmf : ∀ (fn : Fn) (first cap : Array Value) (w : World), (Instr.makeFunc fn first cap).run Tryz.prog w = .ok (.func fn first cap) w := fun _ _ _ _ => rfl
  have hK : Hid (∀ W, Below w.heap.size w W → Calls Tryz.prog 228 #[.string s] W fun e w' => e = .returned (.tuple #[.agg (msgL m.wh m.nm m.kd m.fl m.ck m.of m.ln m.dt m.er), .int .i64 n]) ∧ Below W.heap.size W w') := fun W hW => ends_ret (by rw [← hg]; exact greeting_any s W hs) hwh
  have hrb := blk_of_cell hph
  have q0 : ¬ rb = w.heap.size := by omega
  have q1 : ¬ rb = w.heap.size + 1 := by omega
  have hB0 : Hid (Below w.heap.size w ((w.alloc (.cells (msgL 0 ⟨#[]⟩ 0 0 0 0 0 ⟨#[]⟩ 0) 132)).alloc (.cells #[.int .i64 0] 3))) := ((Below.refl _ _).alloc (Nat.le_refl _) _).alloc (by simp) _
  clear hg hwh
  go_enter_defers Tryz.func190, Tryz.ntmps190
  go_wp2_with (go_at_call 228; refine (hK.out _ hB0.out).mono ?_; rintro e w1 ⟨rfl, hb1⟩; obtain ⟨hcc, hff⟩ := bcell hb1)
  exact next_done _ rfl rfl hb1

set_option maxRecDepth 100000 in
set_option maxHeartbeats 2000000 in
theorem next_greet_brk (rb : Nat) (s : ByteArray) (w : World) (hs : s.size ≤ maxLen) (hph : w.cell? ⟨rb, 2, none⟩ = some (.int .i64 0)) (m : Msg) (n : Int) (hg : greet s = (m, n)) (hwh : m.wh = 4) :
    Calls Tryz.prog 190 #[.pointer (some ⟨rb, 0, none⟩), .string s] w fun e w' => e = .returned (.tuple #[m.val, .int .i64 n]) ∧ Below w.heap.size w w' := by
  have hmf : ∀ (fn : Fn) (first cap : Array Value) (w : World), (Instr.makeFunc fn first cap).run Tryz.prog w = .ok (.func fn first cap) w := fun _ _ _ _ => rfl
  have hK : Hid (∀ W, Below w.heap.size w W → Calls Tryz.prog 228 #[.string s] W fun e w' => e = .panicked [{ v := brk n, recovered := false }] ∧ (m = .closing ∧ Below W.heap.size W w')) := fun W hW => ends_brk (by rw [← hg]; exact greeting_any s W hs) hwh
  have hrb := blk_of_cell hph
  have q0 : ¬ rb = w.heap.size := by omega
  have q1 : ¬ rb = w.heap.size + 1 := by omega
  have hB0 : Hid (Below w.heap.size w ((w.alloc (.cells (msgL 0 ⟨#[]⟩ 0 0 0 0 0 ⟨#[]⟩ 0) 132)).alloc (.cells #[.int .i64 0] 3))) := ((Below.refl _ _).alloc (Nat.le_refl _) _).alloc (by simp) _
  clear hg hwh
  go_enter_defers Tryz.func190, Tryz.ntmps190
  go_wp2_with (go_at_call 228; refine (hK.out _ hB0.out).mono ?_; rintro e w1 ⟨rfl, hcl, hb1⟩; obtain ⟨hcc, hff⟩ := bcell hb1)
  exact next_caught hcl _ rfl rfl hb1

set_option maxRecDepth 100000 in
set_option maxHeartbeats 2000000 in
theorem next_opt_ret (rb : Nat) (s : ByteArray) (w : World) (hs : s.size ≤ maxLen) (hph : w.cell? ⟨rb, 2, none⟩ = some (.int .i64 1)) (m : Msg) (n : Int) (hg : opt s = (m, n)) (hwh : m.wh ≠ 4) :
    Calls Tryz.prog 190 #[.pointer (some ⟨rb, 0, none⟩), .string s] w fun e w' => e = .returned (.tuple #[m.val, .int .i64 n]) ∧ Below w.heap.size w w' := by
  have hmf : ∀ (fn : Fn) (first cap : Array Value) (w : World), (Instr.makeFunc fn first cap).run Tryz.prog w = .ok (.func fn first cap) w := fun _ _ _ _ => rfl
  have hK : Hid (∀ W, Below w.heap.size w W → Calls Tryz.prog 229 #[.string s] W fun e w' => e = .returned (.tuple #[.agg (msgL m.wh m.nm m.kd m.fl m.ck m.of m.ln m.dt m.er), .int .i64 n]) ∧ Below W.heap.size W w') := fun W hW => ends_ret (by rw [← hg]; exact option_any s W hs) hwh
  have hrb := blk_of_cell hph
  have q0 : ¬ rb = w.heap.size := by omega
  have q1 : ¬ rb = w.heap.size + 1 := by omega
  have hB0 : Hid (Below w.heap.size w ((w.alloc (.cells (msgL 0 ⟨#[]⟩ 0 0 0 0 0 ⟨#[]⟩ 0) 132)).alloc (.cells #[.int .i64 0] 3))) := ((Below.refl _ _).alloc (Nat.le_refl _) _).alloc (by simp) _
  clear hg hwh
  go_enter_defers Tryz.func190, Tryz.ntmps190
  go_wp2_with (go_at_call 229; refine (hK.out _ hB0.out).mono ?_; rintro e w1 ⟨rfl, hb1⟩; obtain ⟨hcc, hff⟩ := bcell hb1)
  exact next_done _ rfl rfl hb1

set_option maxRecDepth 100000 in
set_option maxHeartbeats 2000000 in
theorem next_opt_brk (rb : Nat) (s : ByteArray) (w : World) (hs : s.size ≤ maxLen) (hph : w.cell? ⟨rb, 2, none⟩ = some (.int .i64 1)) (m : Msg) (n : Int) (hg : opt s = (m, n)) (hwh : m.wh = 4) :
    Calls Tryz.prog 190 #[.pointer (some ⟨rb, 0, none⟩), .string s] w fun e w' => e = .returned (.tuple #[m.val, .int .i64 n]) ∧ Below w.heap.size w w' := by
  have hmf : ∀ (fn : Fn) (first cap : Array Value) (w : World), (Instr.makeFunc fn first cap).run Tryz.prog w = .ok (.func fn first cap) w := fun _ _ _ _ => rfl
  have hK : Hid (∀ W, Below w.heap.size w W → Calls Tryz.prog 229 #[.string s] W fun e w' => e = .panicked [{ v := brk n, recovered := false }] ∧ (m = .closing ∧ Below W.heap.size W w')) := fun W hW => ends_brk (by rw [← hg]; exact option_any s W hs) hwh
  have hrb := blk_of_cell hph
  have q0 : ¬ rb = w.heap.size := by omega
  have q1 : ¬ rb = w.heap.size + 1 := by omega
  have hB0 : Hid (Below w.heap.size w ((w.alloc (.cells (msgL 0 ⟨#[]⟩ 0 0 0 0 0 ⟨#[]⟩ 0) 132)).alloc (.cells #[.int .i64 0] 3))) := ((Below.refl _ _).alloc (Nat.le_refl _) _).alloc (by simp) _
  clear hg hwh
  go_enter_defers Tryz.func190, Tryz.ntmps190
  go_wp2_with (go_at_call 229; refine (hK.out _ hB0.out).mono ?_; rintro e w1 ⟨rfl, hcl, hb1⟩; obtain ⟨hcc, hff⟩ := bcell hb1)
  exact next_caught hcl _ rfl rfl hb1

set_option maxRecDepth 100000 in
set_option maxHeartbeats 2000000 in
theorem next_req_ret (rb : Nat) (s : ByteArray) (w : World) (mb : Nat) (sz mx : Int) (us : List Int) (hz : 0 ≤ sz) (hlim : s.size ≤ 281474976710656) (hR : RdAt w rb mb sz mx 2 us) (hph : w.cell? ⟨rb, 2, none⟩ = some (.int .i64 2)) (m : Msg) (n : Int) (hg : reqst sz mx us s = (m, n)) (hwh : m.wh ≠ 4) :
    Calls Tryz.prog 190 #[.pointer (some ⟨rb, 0, none⟩), .string s] w fun e w' => e = .returned (.tuple #[m.val, .int .i64 n]) ∧ Below w.heap.size w w' := by
  have hmf : ∀ (fn : Fn) (first cap : Array Value) (w : World), (Instr.makeFunc fn first cap).run Tryz.prog w = .ok (.func fn first cap) w := fun _ _ _ _ => rfl
  have hK : Hid (∀ W, Below w.heap.size w W → Calls Tryz.prog 230 #[.pointer (some ⟨rb, 0, none⟩), .string s] W fun e w' => e = .returned (.tuple #[.agg (msgL m.wh m.nm m.kd m.fl m.ck m.of m.ln m.dt m.er), .int .i64 n]) ∧ Below W.heap.size W w') := fun W hW => ends_ret (by rw [← hg]; exact request_any rb mb sz mx 2 us s W hz hlim (hR.later hW)) hwh
  have hrb := blk_of_cell hph
  have q0 : ¬ rb = w.heap.size := by omega
  have q1 : ¬ rb = w.heap.size + 1 := by omega
  have hB0 : Hid (Below w.heap.size w ((w.alloc (.cells (msgL 0 ⟨#[]⟩ 0 0 0 0 0 ⟨#[]⟩ 0) 132)).alloc (.cells #[.int .i64 0] 3))) := ((Below.refl _ _).alloc (Nat.le_refl _) _).alloc (by simp) _
  clear hg hwh
  go_enter_defers Tryz.func190, Tryz.ntmps190
  go_wp2_with (go_at_call 230; refine (hK.out _ hB0.out).mono ?_; rintro e w1 ⟨rfl, hb1⟩; obtain ⟨hcc, hff⟩ := bcell hb1)
  exact next_done _ rfl rfl hb1

set_option maxRecDepth 100000 in
set_option maxHeartbeats 2000000 in
theorem next_req_brk (rb : Nat) (s : ByteArray) (w : World) (mb : Nat) (sz mx : Int) (us : List Int) (hz : 0 ≤ sz) (hlim : s.size ≤ 281474976710656) (hR : RdAt w rb mb sz mx 2 us) (hph : w.cell? ⟨rb, 2, none⟩ = some (.int .i64 2)) (m : Msg) (n : Int) (hg : reqst sz mx us s = (m, n)) (hwh : m.wh = 4) :
    Calls Tryz.prog 190 #[.pointer (some ⟨rb, 0, none⟩), .string s] w fun e w' => e = .returned (.tuple #[m.val, .int .i64 n]) ∧ Below w.heap.size w w' := by
  have hmf : ∀ (fn : Fn) (first cap : Array Value) (w : World), (Instr.makeFunc fn first cap).run Tryz.prog w = .ok (.func fn first cap) w := fun _ _ _ _ => rfl
  have hK : Hid (∀ W, Below w.heap.size w W → Calls Tryz.prog 230 #[.pointer (some ⟨rb, 0, none⟩), .string s] W fun e w' => e = .panicked [{ v := brk n, recovered := false }] ∧ (m = .closing ∧ Below W.heap.size W w')) := fun W hW => ends_brk (by rw [← hg]; exact request_any rb mb sz mx 2 us s W hz hlim (hR.later hW)) hwh
  have hrb := blk_of_cell hph
  have q0 : ¬ rb = w.heap.size := by omega
  have q1 : ¬ rb = w.heap.size + 1 := by omega
  have hB0 : Hid (Below w.heap.size w ((w.alloc (.cells (msgL 0 ⟨#[]⟩ 0 0 0 0 0 ⟨#[]⟩ 0) 132)).alloc (.cells #[.int .i64 0] 3))) := ((Below.refl _ _).alloc (Nat.le_refl _) _).alloc (by simp) _
  clear hg hwh
  go_enter_defers Tryz.func190, Tryz.ntmps190
  go_wp2_with (go_at_call 230; refine (hK.out _ hB0.out).mono ?_; rintro e w1 ⟨rfl, hcl, hb1⟩; obtain ⟨hcc, hff⟩ := bcell hb1)
  exact next_caught hcl _ rfl rfl hb1

set_option maxRecDepth 100000 in
set_option maxHeartbeats 2000000 in
theorem next_none (rb : Nat) (s : ByteArray) (w : World) (ph : Int) (hph : w.cell? ⟨rb, 2, none⟩ = some (.int .i64 ph)) (h0 : ph ≠ 0) (h1 : ph ≠ 1) (h2 : ph ≠ 2) :
    Calls Tryz.prog 190 #[.pointer (some ⟨rb, 0, none⟩), .string s] w fun e w' => e = .returned (.tuple #[Msg.zero.val, .int .i64 0]) ∧ Below w.heap.size w w' := by
  have hmf : ∀ (fn : Fn) (first cap : Array Value) (w : World), (Instr.makeFunc fn first cap).run Tryz.prog w = .ok (.func fn first cap) w := fun _ _ _ _ => rfl
  have hrb := blk_of_cell hph
  have q0 : ¬ rb = w.heap.size := by omega
  have q1 : ¬ rb = w.heap.size + 1 := by omega
  have b0 : (ph == 0) = false := by simpa using h0
  have b1 : (ph == 1) = false := by simpa using h1
  have b2 : (ph == 2) = false := by simpa using h2
  clear h0 h1 h2
  go_enter_defers Tryz.func190, Tryz.ntmps190
  go_wp2
  refine leaves_cons (f := 226) (args := #[.pointer (some ⟨w.heap.size, 0, none⟩), .pointer (some ⟨w.heap.size + 1, 0, none⟩)]) (by simp) (by simp [go_sem]) ?_
  refine (door_idle _ _ _).mono ?_
  rintro e u' w'' ⟨rfl, rfl, rfl⟩
  exact ⟨_, res_next (b := w.heap.size) (bn := w.heap.size + 1) (m := Msg.zero) (n := 0) (by simp [MsgAt, go_sem, Msg.zero]) (by simp [go_sem]) _ rfl rfl, rfl, ((Below.refl _ _).alloc (Nat.le_refl _) _).alloc (by simp) _⟩

theorem next_any (rb mb : Nat) (sz mx ph : Int) (us : List Int) (s : ByteArray) (w : World) (hz : 0 ≤ sz) (hlim : s.size ≤ 281474976710656) (hR : RdAt w rb mb sz mx ph us) :
    Calls Tryz.prog 190 #[.pointer (some ⟨rb, 0, none⟩), .string s] w fun e w' => e = .returned (.tuple #[(first sz mx ph us s).1.val, .int .i64 (first sz mx ph us s).2]) ∧ Below w.heap.size w w' := by
  have hs : s.size ≤ maxLen := by unfold maxLen; omega
  have hph := hR.cell.2.2.1
  by_cases h0 : ph = 0
  · subst h0
    have e : first sz mx 0 us s = greet s := by unfold first; simp
    rw [e]
    by_cases hw : (greet s).1.wh = 4
    · exact next_greet_brk rb s w hs hph _ _ rfl hw
    · exact next_greet_ret rb s w hs hph _ _ rfl hw
  · by_cases h1 : ph = 1
    · subst h1
      have e : first sz mx 1 us s = opt s := by unfold first; simp
      rw [e]
      by_cases hw : (opt s).1.wh = 4
      · exact next_opt_brk rb s w hs hph _ _ rfl hw
      · exact next_opt_ret rb s w hs hph _ _ rfl hw
    · by_cases h2 : ph = 2
      · subst h2
        have e : first sz mx 2 us s = reqst sz mx us s := by unfold first; simp
        rw [e]
        by_cases hw : (reqst sz mx us s).1.wh = 4
        · exact next_req_brk rb s w mb sz mx us hz hlim hR hph _ _ rfl hw
        · exact next_req_ret rb s w mb sz mx us hz hlim hR hph _ _ rfl hw
      · have e : first sz mx ph us s = (.zero, 0) := by unfold first; simp [h0, h1, h2]
        rw [e]
        exact next_none rb s w ph hph h0 h1 h2
end Go.Proofs.YtpobhljcainmdaaGreat
