/- Proved here: what the document's Decode answers, for every configuration and phase. -/
import Derived.Test.YtpobhljcainmdaaRef7
namespace Go.Proofs.Ytpobhljcainmdaa
open Go.RowKit

/-- What Decode hands back: a list of its own, that holds the messages; how many bytes. -/
abbrev DecRet (B : Nat) (r : List Msg × Int) (w : World) (e : Ending) (w' : World) : Prop :=
  ∃ v ms n, (ms, n) = r ∧ e = .returned (.tuple #[v, .int .i64 n]) ∧ w'.ownsRow B 31 9 v ms.length (ms.flatMap Msg.cells) ∧ Below w.heap.size w w'

end Go.Proofs.Ytpobhljcainmdaa
