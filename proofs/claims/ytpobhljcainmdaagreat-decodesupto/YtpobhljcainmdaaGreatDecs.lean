/- For every script of bulk at most 1048576, Decodes answers true and leaves the script as it was: every Decode of the program answers as the document says, the messages and how many bytes, and the lists that came out stay their owners'. -/
import Derived.Test.YtpobhljcainmdaaGreatLaw9
import Derived.Test.YtpobhljcainmdaaGreatWire11
namespace Go.Proofs.YtpobhljcainmdaaGreat
open Go

theorem saidDecode : SaidDecode := fun sz cl qu mx qn rt bu wk ou ph s w hs => decode_all sz cl qu mx qn rt bu wk ou ph s w hs

theorem decodes_holds : Rows.DecodesUptoSaid := decodes_of saidDecode
#print axioms decodes_holds
end Go.Proofs.YtpobhljcainmdaaGreat
