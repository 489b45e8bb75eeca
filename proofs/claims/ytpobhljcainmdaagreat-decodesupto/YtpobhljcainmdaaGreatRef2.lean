/- Proved here: what the document's Verdict answers, for every request. -/
import Derived.Test.YtpobhljcainmdaaGreatRef1
namespace Go.Proofs.YtpobhljcainmdaaGreat
open Go.RowKit

set_option maxRecDepth 100000 in
set_option maxHeartbeats 4000000 in
theorem verdict_any (sz cl qu mx qn rt bu wk ou : Int) (wh : Int) (nm : ByteArray) (kd fl ck of ln : Int) (dt : ByteArray) (er : Int) (w : World)
    (hk : 0 ≤ kd) (hf : 0 ≤ fl) (ho : 0 ≤ of) (ho' : of ≤ 65535) (hl : 0 ≤ ln) (hl' : ln ≤ 65535) :
    Calls Tryz.prog 248 #[.agg (cfgL sz cl qu mx qn rt bu wk ou), .agg (msgL wh nm kd fl ck of ln dt er)] w fun e w' => e = .returned (.int .i64 (verdict sz kd fl of ln)) ∧ Below w.heap.size w w' := by
  have hkd : kd = 0 ∨ kd = 1 ∨ kd = 2 ∨ kd = 3 ∨ kd = 4 ∨ kd = 5 ∨ 5 < kd := by omega
  have hfl : fl = 0 ∨ fl = 1 ∨ 1 < fl := by omega
  clear hk hf
  rcases hkd with rfl | rfl | rfl | rfl | rfl | rfl | hkd <;> rcases hfl with rfl | rfl | hfl
  all_goals
    go_enter Tryz.func248, Tryz.ntmps248
    go_wp2
    all_goals (go_ret; refine ⟨ret_int ?_, ((Below.refl _ _).alloc (Nat.le_refl _) _).alloc (by simp) _⟩; go_light; simp_all [verdict]; try omega)
end Go.Proofs.YtpobhljcainmdaaGreat
