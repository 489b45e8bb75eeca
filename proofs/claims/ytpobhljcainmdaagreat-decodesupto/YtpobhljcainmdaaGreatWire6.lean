/- Proved here: what is caught at a client's door: closing, and the deferred function of next. -/
import Derived.Test.YtpobhljcainmdaaGreatWire5
import Derived.Defers
import Derived.Recover
import Derived.Tactics2
namespace Go.Proofs.YtpobhljcainmdaaGreat
open Go.RowKit
set_option linter.unusedSimpArgs false
attribute [local go_sem ↓] Go.wp_at_zero Go.wp_at_succ
attribute [local go_sem] alloc_drewN setCell_drewN

theorem run_assert_brk (n : Int) (w : World) : (Instr.typeAssert (brk n) 20 294 true).run Tryz.prog w = .ok (.tuple #[.agg #[.int .i64 n], .bool true]) w := by
  simp [Instr.typeAssert, run_underlying Tryz.underlying294, go_sem, Result.andThen]

set_option maxRecDepth 100000 in
set_option maxHeartbeats 1000000 in
theorem closing_any (n : Int) (w : World) :
    Calls Tryz.prog 227 #[brk n] w fun e w' => e = .returned (.tuple #[Msg.closing.val, .int .i64 n]) ∧ Below w.heap.size w w' := by
  have hta := run_assert_brk n
  go_enter Tryz.func227, Tryz.ntmps227
  go_wp2
  go_region
  all_goals (go_wp2)
  exact bodyPost_ret (v := .tuple #[Msg.closing.val, .int .i64 n]) (by simp [results, Tryz.results227, go_sem, Msg.closing]) rfl ⟨rfl, (((Below.refl _ _).alloc (Nat.le_refl _) _).alloc (by simp) _).drew⟩

theorem grown_set (W : World) (b j : Nat) (v : Value) : W.grownBy (W.setCell ⟨b, j, none⟩ v) (some b) := ⟨rfl, rfl, rfl, by simp [World.setCell], fun k _ hk => Below.heap_setCell W ⟨b, j, none⟩ v k (fun e => hk (by rw [e]))⟩

/-- The door, of a frame that returns: nothing is caught. -/
theorem door_idle (p q : Addr) (w : World) :
    CallsD Tryz.prog 226 #[.pointer (some p), .pointer (some q)] .returning w fun e u' w' => e = .returned (.tuple #[]) ∧ u' = .returning ∧ w' = w := by
  refine callsD_of_wpS Tryz.func226 rfl fun c₀ cs hu => ?_
  apply wpS_seq
  apply wpS_region
  simp [wpOpsS, go_sem, recoverD, hu, Tryz.ntmps226, Exit.thenS]
  apply wpS_seq
  apply wpS_region
  simp [wpOpsS, go_sem, Exit.thenS]
  refine wpS_cond (t := false) (by simp [Act.eval, Array.replicate]) ?_
  simp only [Bool.false_eq_true, if_false]
  refine wpS_of_wp (wp_skip ?_)
  cases c₀
  simp_all [bodyPostS, results, Tryz.results226]

set_option maxRecDepth 100000 in
set_option maxHeartbeats 1000000 in
/-- The door, of a frame that a breach goes through: it becomes a Closing. -/
theorem door_caught (bm bn : Nat) (n : Int) (older : List PanicEntry) (w : World) (hne : bm ≠ bn) (hm : w.heap[bm]? = some (.cells (msgL 0 ⟨#[]⟩ 0 0 0 0 0 ⟨#[]⟩ 0) 132 (0, 0))) (hn : w.heap[bn]? = some (.cells #[.int .i64 0] 3 (0, 0))) :
    CallsD Tryz.prog 226 #[.pointer (some ⟨bm, 0, none⟩), .pointer (some ⟨bn, 0, none⟩)] (.panicking ({ v := brk n, recovered := false } :: older)) w fun e u' w' =>
      e = .returned (.tuple #[]) ∧ u' = .panicking ({ v := brk n, recovered := true } :: older) ∧ MsgAt w' bm Msg.closing ∧ w'.cell? ⟨bn, 0, none⟩ = some (.int .i64 n) ∧ ∀ B, B ≤ bm → B ≤ bn → B ≤ w.heap.size → Below B w w' := by
  refine callsD_of_wpS Tryz.func226 rfl fun c₀ cs hu => ?_
  apply wpS_seq
  apply wpS_region
  simp [wpOpsS, go_sem, recoverD, hu, Tryz.ntmps226, Exit.thenS]
  apply wpS_seq
  apply wpS_region
  simp [wpOpsS, go_sem, Exit.thenS]
  refine wpS_cond (t := true) (by simp [Act.eval, Array.replicate]) ?_
  simp only [if_true]
  refine wpS_of_wp ?_
  simp only [Array.replicate_succ, Array.replicate_zero, List.push_toArray, List.nil_append, List.cons_append, List.append_toArray, List.setIfInBounds_toArray, List.set_cons_zero, List.set_cons_succ]
  have HM : Hid (w.heap[bm]? = some (.cells (msgL 0 ⟨#[]⟩ 0 0 0 0 0 ⟨#[]⟩ 0) 132 (0, 0))) := hm
  have HN : Hid (w.heap[bn]? = some (.cells #[.int .i64 0] 3 (0, 0))) := hn
  clear hm hn hu
  go_wp2_with (go_at_call 227; refine (closing_any n _).mono ?_; rintro e w1 ⟨rfl, hb1⟩; have hm1 := box_later HM.out hb1; have hn1 := box_later HN.out hb1; obtain ⟨p0, p1, p2, p3, p4, p5, p6, p7, p8⟩ := box_cells hm1; have pf : ∀ j, w1.frozen? ⟨bm, j, none⟩ = false := (fun j => by simp [World.frozen?, hm1]); have q0 : w1.cell? ⟨bn, 0, none⟩ = some (.int .i64 0) := (by simp [World.cell?, hn1]); have qf : w1.frozen? ⟨bn, 0, none⟩ = false := (by simp [World.frozen?, hn1]); have HM1 : Hid (w1.heap[bm]? = some (.cells (msgL 0 ⟨#[]⟩ 0 0 0 0 0 ⟨#[]⟩ 0) 132 (0, 0))) := hm1; have HN1 : Hid (w1.heap[bn]? = some (.cells #[.int .i64 0] 3 (0, 0))) := hn1; clear hm1 hn1)
  have hA := put9_at (W := w1) (b := bm) Msg.closing (box_some HM1.out)
  refine ⟨rfl, _, rfl, .tuple #[], by simp [results, Tryz.results226], rfl, rfl, ?_, ?_, ?_⟩
  · exact MsgAt.far (w := w1.setCells bm 0 Msg.closing.cells) (row := some bn) hA (grown_set _ _ _ _) (blk_of_cell hA.1) (by simp; exact hne)
  · refine World.cell?_setCell_same' (w1.setCells bm 0 Msg.closing.cells) ⟨bn, 0, none⟩ _ ?_
    have e : (w1.setCells bm 0 Msg.closing.cells).cell? ⟨bn, 0, none⟩ = w1.cell? ⟨bn, 0, none⟩ := World.cell?_setCells_out bm Msg.closing.cells 0 w1 ⟨bn, 0, none⟩ (fun h => absurd h (Ne.symm hne))
    rw [e, q0]
    rfl
  · intro B h1 h2 h3
    exact (below_put9 (hb1.mono h3) h1 Msg.closing).setCell (p := ⟨bn, 0, none⟩) h2 _
end Go.Proofs.YtpobhljcainmdaaGreat
