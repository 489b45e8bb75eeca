/- Proved here: what the document's own small functions answer (two, has, Verdict, After, Accepted). -/
import Derived.Test.YtpobhljcainmdaaSpec
import Derived.Test.YtpobhljcainmdaaCf2
import Derived.WalkKit
import Derived.WalkSpells
import Derived.WalkLawsBesides
import Derived.Deep.DeepCutAuto
import Derived.Deep.Light
import Derived.Deep.QuietTactic
import Derived.BigQuiet
import Derived.Deep.Draws
namespace Go.Proofs.Ytpobhljcainmdaa
open Go.RowKit

theorem alloc_drewN (w : World) (n : Nat) (o : Obj) : (w.drewN n).alloc o = (w.alloc o).drewN n := rfl
theorem setCell_drewN (w : World) (n : Nat) (a : Addr) (v : Value) : (w.drewN n).setCell a v = (w.setCell a v).drewN n := rfl
theorem ret_int {k : IntKind} {a b : Int} (h : a = b) : Ending.returned (.int k a) = .returned (.int k b) := by rw [h]

/-- The cells of a slice of ints. -/
def IntsAt (w : World) (a : Option Addr) (l : List Int) : Prop := l = [] ∨ ∃ b off, a = some ⟨b, off, none⟩ ∧ ∀ i, i < l.length → w.cell? ⟨b, off + i, none⟩ = some (.int .i64 (l.getD i 0))

theorem has_hit (l : List Int) (n : Int) (k : Nat) (hk : k < l.length) (h : l.getD k 0 = n) : decide (n ∈ l) = true := by
  simp only [decide_eq_true_eq]
  rw [← h]
  simp [List.getD, hk]
theorem has_none (l : List Int) (n : Int) (h : ∀ j, j < l.length → l.getD j 0 ≠ n) : decide (n ∈ l) = false := by
  simp only [decide_eq_false_iff_not]
  intro hm
  obtain ⟨j, hj, e⟩ := List.getElem_of_mem hm
  exact h j hj (by simp [List.getD, hj, e])

/-- The nine cells of a configuration, and of a message. -/
abbrev cfgL (sz cl qu mx qn rt bu wk ou : Int) : Array Value := #[.int .i64 sz, .int .i64 cl, .int .i64 qu, .int .i64 mx, .int .i64 qn, .int .i64 rt, .int .i64 bu, .int .i64 wk, .int .i64 ou]
abbrev msgL (wh : Int) (nm : ByteArray) (kd fl ck of ln : Int) (dt : ByteArray) (er : Int) : Array Value := #[.int .i64 wh, .string nm, .int .i64 kd, .int .i64 fl, .int .i64 ck, .int .i64 of, .int .i64 ln, .string dt, .int .i64 er]

end Go.Proofs.Ytpobhljcainmdaa
