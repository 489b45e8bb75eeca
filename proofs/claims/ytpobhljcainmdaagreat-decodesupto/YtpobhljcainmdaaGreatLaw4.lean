/- Proved here: a Decode of a script is held against the document's, if the program's Decode answers as the plain mathematics says. -/
import Derived.Test.YtpobhljcainmdaaGreatLaw3
import Derived.Test.YtpobhljcainmdaaGreatSteps
namespace Go.Proofs.YtpobhljcainmdaaGreat
open Go.RowKit
set_option linter.unusedSimpArgs false
attribute [local go_sem ↓] Go.wp_at_zero Go.wp_at_succ
attribute [local go_sem] alloc_drewN setCell_drewN

/-- What is asked of the program's Decode. -/
def SaidDecode : Prop := ∀ (sz cl qu mx qn rt bu wk ou ph : Int) (s : ByteArray) (w : World), s.size ≤ 1048576 →
  Calls Tryz.prog 121 #[.agg (cfgL sz cl qu mx qn rt bu wk ou), .int .i64 ph, .string s] w (DecRet w.heap.size (decodeAll sz cl qu mx qn rt bu wk ou ph s) w)

/-- The law's World: the lists that came out, each full of its mark. -/
def LW (b k : Nat) (w : World) : Prop :=
  ∃ vms vmm ls ks, w.heap[b]? = some (.cells (worldL vms vmm (k : Int)) 87 (0, 0)) ∧ w.ownsRow (b + 1) 152 1 vms (4 * k) ls ∧ w.ownsRow (b + 1) 3 1 vmm (4 * k) ((ks : List Int).map (fun n => Value.int .i64 n)) ∧
    ∀ i, i < 4 * k → ∃ u K nu, ls[i]? = some u ∧ ks[i]? = some K ∧ nu ≤ 1048579 ∧ MRow (b + 1) K w u nu

/-- The cells of the i-th message of a row. -/
theorem flat_get (ms : List Msg) (i j : Nat) (hi : i < ms.length) (hj : j < 9) : (ms.flatMap Msg.cells)[i * 9 + j]? = (ms[i]).cells[j]? := by
  induction ms generalizing i with
  | nil => simp at hi
  | cons m ms ih =>
    rw [List.flatMap_cons]
    have hl : m.cells.length = 9 := rfl
    cases i with
    | zero =>
      rw [List.getElem?_append_left (by omega)]
      simp
    | succ i =>
      rw [List.getElem?_append_right (by omega), hl, show (i + 1) * 9 + j - 9 = i * 9 + j by omega, ih i (by simpa using hi)]
      simp

theorem msg_at_row {w : World} {B g cap : Nat} {ms : List Msg} (h : w.ownsRow B 132 9 (.slice (some ⟨g, 0, none⟩) ms.length cap) ms.length (ms.flatMap Msg.cells)) (i : Nat) (hi : i < ms.length) : ∀ j, j < 9 → w.cell? ⟨g, i * 9 + j, none⟩ = (ms[i]).cells[j]? := by
  intro j hj
  rw [h.cellAt (i * 9 + j) (by omega), flat_get ms i j hi hj]

theorem flat_len (ms : List Msg) : (ms.flatMap Msg.cells).length = ms.length * 9 := by
  induction ms with
  | nil => rfl
  | cons m ms ih => rw [List.flatMap_cons, List.length_append, ih]; simp [Msg.cells]; omega

theorem form_of_row {w : World} {B : Nat} {v : Value} {n : Nat} {xs : List Value} (h : w.ownsRow B 132 9 v n xs) : ∃ a c, v = .slice a n c := by
  rcases h.2 with ⟨h, h0⟩ | ⟨g, cap, _, h, _⟩
  · exact ⟨none, 0, by rw [h0]; exact h⟩
  · exact ⟨_, _, h⟩

/-- The law's World behind one more list. -/
theorem lw_more {b B k n : Nat} {v vms vmm : Value} {ls : List Value} {ks : List Int} {w0 w w' : World} (hbB : b < B) (hn : n ≤ 1048576)
    (hms : w0.ownsRow (b + 1) 152 1 vms (4 * k) ls) (hmm : w0.ownsRow (b + 1) 3 1 vmm (4 * k) (ks.map (fun n => Value.int .i64 n)))
    (hold : ∀ i, i < 4 * k → ∃ u K nu, ls[i]? = some u ∧ ks[i]? = some K ∧ nu ≤ 1048579 ∧ MRow (b + 1) K w u nu ∧ ∀ g, u.ownBlock = some g → g < B) (h : OwnDone b B k n v ls ks w w') : LW b (k + 1) w' := by
  obtain ⟨vms', vmm', v1, v2, v3, hbox, hms', hmm', r0, r1, r2, r3, hk, _⟩ := h
  have hll : ls.length = 4 * k := by have := hms.1; omega
  have hkl : ks.length = 4 * k := by have := hmm.1; simp at this; omega
  refine ⟨vms', vmm', ls ++ [v, v1, v2, v3], ks ++ [-((k : Int) + 1), -((k : Int) + 1), -((k : Int) + 1), -((k : Int) + 1)], hbox, hms', hmm', fun i hi => ?_⟩
  by_cases hlt : i < 4 * k
  · obtain ⟨u, K, nu, h1, h2, h3, h4, h5⟩ := hold i hlt
    exact ⟨u, K, nu, by rw [List.getElem?_append_left (by omega)]; exact h1, by rw [List.getElem?_append_left (by omega)]; exact h2, h3, hk u nu _ h4 h5⟩
  · rw [List.getElem?_append_right (by omega), List.getElem?_append_right (by omega), hll, hkl]
    obtain ⟨d, rfl⟩ : ∃ d, i = 4 * k + d := ⟨i - 4 * k, by omega⟩
    rw [Nat.add_sub_cancel_left]
    match d, (show d < 4 by omega) with
    | 0, _ => exact ⟨v, _, n, rfl, rfl, by omega, row_base r0 (by omega)⟩
    | 1, _ => exact ⟨v1, _, n + 1, rfl, rfl, by omega, row_base r1 (by omega)⟩
    | 2, _ => exact ⟨v2, _, n + 2, rfl, rfl, by omega, row_base r2 (by omega)⟩
    | 3, _ => exact ⟨v3, _, n + 3, rfl, rfl, by omega, row_base r3 (by omega)⟩
end Go.Proofs.YtpobhljcainmdaaGreat
