/- Proved here: what the document's First answers, in every phase. -/
import Derived.Test.YtpobhljcainmdaaRef4
namespace Go.Proofs.Ytpobhljcainmdaa
open Go.RowKit
attribute [local go_sem] alloc_drewN setCell_drewN

theorem empty_yes (s : ByteArray) (h : s.size = 0) : s.toList.isEmpty = true := by
  rw [ByteArray.toList_eq, List.isEmpty_iff]
  exact List.eq_nil_of_length_eq_zero (by rw [Array.length_toList]; exact h)
theorem empty_no (s : ByteArray) (h : ¬ s.size = 0) : s.toList.isEmpty = false := by
  rw [ByteArray.toList_eq, List.isEmpty_eq_false_iff]
  intro e
  exact h (by rw [← ByteArray.size_data, ← Array.length_toList, e]; rfl)

/-- What First, greeting and request hand back. -/
abbrev MsgRet (r : Msg × Int) (e : Ending) : Prop := ∃ m n, (m, n) = r ∧ e = .returned (.tuple #[.agg (msgL m.wh m.nm m.kd m.fl m.ck m.of m.ln m.dt m.er), .int .i64 n])

end Go.Proofs.Ytpobhljcainmdaa
