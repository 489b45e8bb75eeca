/- Proved here: what the document's Decode answers, for every configuration, phase and text that is not too long for any slice. -/
import Derived.Test.YtpobhljcainmdaaGreatRef5
import Derived.Deep.AppendLies
import Derived.Deep.RegionHeld3
import Derived.Deep.DrawnRows
namespace Go.Proofs.YtpobhljcainmdaaGreat
open Go.RowKit
set_option linter.unusedSimpArgs false
attribute [local go_sem ↓] Go.wp_at_zero Go.wp_at_succ
attribute [local go_sem] alloc_drewN setCell_drewN

theorem Tryz.infoMsg : (Tryz.prog.info? 132).map (fun i => (i.zero, i.size, i.bytes)) = some (some (.agg (msgL 0 ⟨#[]⟩ 0 0 0 0 0 ⟨#[]⟩ 0)), 9, 88) := by kernel_rfl
theorem Tryz.infoInt : (Tryz.prog.info? 3).map (fun i => (i.zero, i.size, i.bytes)) = some (some (.int .i64 0), 1, 8) := by kernel_rfl

/-- The nine cells of a message. -/
def Msg.cells (m : Msg) : List Value := [.int .i64 m.wh, .string m.nm, .int .i64 m.kd, .int .i64 m.fl, .int .i64 m.ck, .int .i64 m.of, .int .i64 m.ln, .string m.dt, .int .i64 m.er]

theorem greetFrom_le (s : ByteArray) (f i : Nat) : 0 ≤ (greetFrom s f i).2 ∧ (greetFrom s f i).2 ≤ s.size := by
  induction f generalizing i with
  | zero => unfold greetFrom; split <;> simp <;> omega
  | succ f ih =>
    unfold greetFrom
    split
    · simp
    · split
      · exact ih (i + 1)
      · simp; omega

theorem first_le (sz mx ph : Int) (used : List Int) (s : ByteArray) : 0 ≤ (first sz mx ph used s).2 ∧ (first sz mx ph used s).2 ≤ s.size := by
  have r7 := two_range s 7
  unfold first
  split
  · exact greetFrom_le s 5 0
  · split
    · unfold opt; repeat' split
      all_goals simp
      all_goals omega
    · split
      · unfold reqst; repeat' split
        all_goals simp
        all_goals omega
      · simp

theorem extract_size (s : ByteArray) (at' : Nat) : (s.extract at' s.size).size = s.size - at' := by simp [ByteArray.size_extract]

theorem decode_step (sz mx : Int) (s : ByteArray) (f : Nat) (ph : Int) (used : List Int) (at' : Nat) (m : Msg) (n : Nat) (h : (m, (n : Int)) = first sz mx ph used (s.extract at' s.size)) (hn : n ≠ 0) :
    decode sz mx s (f + 1) ph used at' = (m :: (decode sz mx s f (after ph m) (if accepted m then used ++ [m.ck] else used) (at' + n)).1, (decode sz mx s f (after ph m) (if accepted m then used ++ [m.ck] else used) (at' + n)).2) := by
  rw [decode, ← h]
  simp [hn]

theorem decode_stop (sz mx : Int) (s : ByteArray) (f : Nat) (ph : Int) (used : List Int) (at' : Nat) (m : Msg) (h : (m, 0) = first sz mx ph used (s.extract at' s.size)) :
    decode sz mx s (f + 1) ph used at' = ([], (at' : Int)) := by
  rw [decode, ← h]
  simp

/-- What a loop of Decode holds: the box of the configuration, the two lists. -/
structure DecS (w : World) (sz cl qu mx qn rt bu wk ou : Int) (s : ByteArray) (ph0 : Int) (ms : List Msg) (ph : Int) (used : List Int) (at' : Nat) (v vu : Value) (wr : World) : Prop where
  below : Below w.heap.size w wr
  box : wr.heap[w.heap.size]? = some (.cells (cfgL sz cl qu mx qn rt bu wk ou) 35 (0, 0))
  rows : wr.ownsRow (w.heap.size + 1) 132 9 v ms.length (ms.flatMap Msg.cells)
  uses : wr.ownsRow (w.heap.size + 1) 3 1 vu used.length (used.map (fun n => Value.int .i64 n))
  le : at' ≤ s.size
  many : ms.length ≤ at'
  some : used.length ≤ ms.length
  eq : decode sz mx s (s.size + 1) ph0 [] 0 = (ms ++ (decode sz mx s (s.size + 1 - ms.length) ph used at').1, (decode sz mx s (s.size + 1 - ms.length) ph used at').2)

theorem DecS.size {w : World} {sz cl qu mx qn rt bu wk ou : Int} {s : ByteArray} {ph0 : Int} {ms : List Msg} {ph : Int} {used : List Int} {at' : Nat} {v vu : Value} {wr : World}
    (h : DecS w sz cl qu mx qn rt bu wk ou s ph0 ms ph used at' v vu wr) : w.heap.size < wr.heap.size := by
  have := h.box
  exact (Array.getElem?_eq_some_iff.1 this).1

/-- The used cookies as has reads them. -/
theorem ints_of_row {w : World} {B : Nat} {vu : Value} {used : List Int} (h : w.ownsRow B 3 1 vu used.length (used.map (fun n => Value.int .i64 n))) :
    ∃ a cap, vu = .slice a used.length cap ∧ IntsAt w a used := by
  rcases h.2 with ⟨hv, h0⟩ | ⟨g, cap, cur, hv, _, hg, _, _, _, htake⟩
  · exact ⟨none, 0, by rw [h0]; exact hv, .inl (List.eq_nil_of_length_eq_zero h0)⟩
  · refine ⟨some ⟨g, 0, none⟩, cap, hv, .inr ⟨g, 0, rfl, fun i hi => ?_⟩⟩
    subst hv
    rw [Nat.zero_add, h.cellAt i (by omega)]
    simp [List.getD, hi]

/-- Two rows of different elements lie in different blocks. -/
theorem rows_apart {w : World} {B e1 e2 n1 n2 s1 s2 : Nat} {v1 v2 : Value} {x1 x2 : List Value} (h1 : w.ownsRow B e1 s1 v1 n1 x1) (h2 : w.ownsRow B e2 s2 v2 n2 x2) (hne : e1 ≠ e2) : v1.ownBlock = none ∨ v1.ownBlock ≠ v2.ownBlock := by
  rcases h1.2 with ⟨rfl, _⟩ | ⟨g1, c1, cur1, rfl, _, hg1, _⟩
  · exact .inl rfl
  rcases h2.2 with ⟨rfl, _⟩ | ⟨g2, c2, cur2, rfl, _, hg2, _⟩
  · exact .inr (by simp [Value.ownBlock])
  · refine .inr fun e => ?_
    simp only [Value.ownBlock, Option.some.injEq] at e
    rw [e, hg2] at hg1
    simp at hg1
    exact hne hg1.2.symm
end Go.Proofs.YtpobhljcainmdaaGreat
