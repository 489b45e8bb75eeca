/- Proved here: what the document's Verdict answers, for every request. -/
import Derived.Test.YtgjnccdkimapmaaRef1
namespace Go.Proofs.Ytgjnccdkimapmaa
open Go.RowKit
end Go.Proofs.Ytgjnccdkimapmaa
