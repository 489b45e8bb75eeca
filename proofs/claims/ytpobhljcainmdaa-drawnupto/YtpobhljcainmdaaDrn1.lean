/- Proved here: Drawn answers true, at whatever raw numbers, phase, text and cut. -/
import Derived.Test.YtpobhljcainmdaaKeep2
import Derived.Test.YtpobhljcainmdaaDrMath
import Derived.Test.YtpobhljcainmdaaWire11
namespace Go.Proofs.Ytpobhljcainmdaa
open Go.RowKit
set_option linter.unusedSimpArgs false
attribute [local go_sem ↓] Go.wp_at_zero Go.wp_at_succ
attribute [local go_sem] alloc_drewN setCell_drewN

abbrev sampleB : ByteArray := ⟨#[70, 69, 82, 82, 89, 97, 103, 81]⟩
theorem sample_says (sz mx : Int) : decode sz mx sampleB (sampleB.size + 1) 0 [] 0 = ([⟨1, ⟨#[97]⟩, 0, 0, 0, 0, 0, ⟨#[]⟩, 0⟩, ⟨2, ⟨#[103]⟩, 0, 0, 0, 0, 0, ⟨#[]⟩, 0⟩], 7) := by
  kernel_rfl

/-- The cells of a message in a list. -/
theorem cells_at {w : World} {B g cap : Nat} {ms : List Msg} (h : w.ownsRow B 31 9 (.slice (some ⟨g, 0, none⟩) ms.length cap) ms.length (ms.flatMap Msg.cells)) (i : Nat) (hi : i < ms.length) :
    w.cell? ⟨g, i * 9 + 0, none⟩ = some (.int .i64 (ms[i]).wh) ∧ w.cell? ⟨g, i * 9 + 1, none⟩ = some (.string (ms[i]).nm) ∧ w.cell? ⟨g, i * 9 + 4, none⟩ = some (.int .i64 (ms[i]).ck) ∧ w.cell? ⟨g, i * 9 + 7, none⟩ = some (.string (ms[i]).dt) ∧ w.cell? ⟨g, i * 9 + 8, none⟩ = some (.int .i64 (ms[i]).er) := by
  have fg : ∀ (ms : List Msg) (i j : Nat) (hi : i < ms.length) (_ : j < 9), (ms.flatMap Msg.cells)[i * 9 + j]? = (ms[i]).cells[j]? := fun ms => by
    induction ms with
    | nil => intro i j hi; simp at hi
    | cons m ms ih =>
      intro i j hi hj
      rw [List.flatMap_cons]
      have hl : m.cells.length = 9 := rfl
      cases i with
      | zero =>
        rw [List.getElem?_append_left (by omega)]
        simp
      | succ i =>
        rw [List.getElem?_append_right (by omega), hl, show (i + 1) * 9 + j - 9 = i * 9 + j by omega, ih i j (by simpa using hi) hj]
        simp
  have key : ∀ j, j < 9 → w.cell? ⟨g, i * 9 + j, none⟩ = (ms[i]).cells[j]? := fun j hj => by
    rw [h.cellAt (i * 9 + j) (by omega), fg ms i j hi hj]
  exact ⟨key 0 (by omega), key 1 (by omega), key 4 (by omega), key 7 (by omega), key 8 (by omega)⟩

theorem list_form {w : World} {B : Nat} {v : Value} {n : Nat} {xs : List Value} (h : w.ownsRow B 31 9 v n xs) : ∃ a c, v = .slice a n c := by
  rcases h.2 with ⟨h, h0⟩ | ⟨g, cap, _, h, _⟩
  · exact ⟨none, 0, by rw [h0]; exact h⟩
  · exact ⟨_, _, h⟩
end Go.Proofs.Ytpobhljcainmdaa
