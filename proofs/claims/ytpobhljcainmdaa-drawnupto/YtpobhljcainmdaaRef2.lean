/- Proved here: what the document's Verdict answers, for every request. -/
import Derived.Test.YtpobhljcainmdaaRef1
namespace Go.Proofs.Ytpobhljcainmdaa
open Go.RowKit
end Go.Proofs.Ytpobhljcainmdaa
