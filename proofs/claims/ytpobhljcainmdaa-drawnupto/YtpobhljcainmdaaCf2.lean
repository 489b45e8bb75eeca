/- Proved here: the document's Config and Check answer alike with the program's Check. -/
import Derived.Test.YtpobhljcainmdaaCfg
import Derived.Deep.DeepCutAuto
import Derived.Deep.Light
namespace Go.Proofs.Ytpobhljcainmdaa
open Go.RowKit

def rSz (sz mx : Int) : Bool := seB sz 256 && seB mx 32
def rCt (cl qu wk : Int) : Bool := wiB cl 1 8 && wiB qu 1 8 && wiB wk 1 8
def rRt (qn mx rt bu : Int) : Bool := wiB qn mx 64 && wiB rt 1 16 && wiB bu 1 32
def cfgB (sz cl qu mx qn rt bu wk ou : Int) : Bool := bfB sz mx qn ou && cfB cl qu rt bu wk

theorem bv {a b : Bool} (h : a = b) : Value.bool a = Value.bool b := by rw [h]

theorem cfgB_split (sz cl qu mx qn rt bu wk ou : Int) : cfgB sz cl qu mx qn rt bu wk ou = (rSz sz mx && rCt cl qu wk && rRt qn mx rt bu && wiB ou (mx + 4) 256) := by
  unfold cfgB bfB cfB rSz rCt rRt
  cases seB sz 256 <;> cases seB mx 32 <;> cases wiB qn mx 64 <;> cases wiB ou (mx + 4) 256 <;> cases wiB cl 1 8 <;> cases wiB qu 1 8 <;> cases wiB rt 1 16 <;> cases wiB bu 1 32 <;> cases wiB wk 1 8 <;> rfl

/-- What Check answers. -/
def chkN (b : Bool) : Int := if b then 0 else 1

theorem bcell {W w1 : World} (hb : Below W.heap.size W w1) : (∀ b o, b < W.heap.size → w1.cell? ⟨b, o, none⟩ = W.cell? ⟨b, o, none⟩) ∧ (∀ b o, b < W.heap.size → w1.frozen? ⟨b, o, none⟩ = W.frozen? ⟨b, o, none⟩) :=
  ⟨fun b o h => hb.cell (p := ⟨b, o, none⟩) h, fun b o h => hb.frozen (p := ⟨b, o, none⟩) h⟩

set_option maxHeartbeats 400000 in
theorem check_any (sz cl qu mx qn rt bu wk ou : Int) (w : World) :
    Calls Try.prog 8 #[cfgV sz cl qu mx qn rt bu wk ou] w fun e w' => e = .returned (.int .i64 (chkN (cfgB sz cl qu mx qn rt bu wk ou))) ∧ Below w.heap.size w w' := by
  unfold cfgB
  cases h : bfB sz mx qn ou with
  | false =>
    go_enter Try.func8, Try.ntmps8
    go_wp2_with (go_at_call 12; refine (bytes_any sz cl qu mx qn rt bu wk ou _).mono ?_; rw [h]; rintro e w' ⟨rfl, hb⟩)
    go_ret
    exact ⟨rfl, ((Below.refl _ _).alloc (Nat.le_refl _) _).trans (hb.mono (by simp))⟩
  | true =>
    cases h2 : cfB cl qu rt bu wk with
    | false =>
      go_enter Try.func8, Try.ntmps8
      go_wp2_with (first | (go_at_call 12; refine (bytes_any sz cl qu mx qn rt bu wk ou _).mono ?_; rw [h]; rintro e w' ⟨rfl, hb⟩; obtain ⟨hc, hf⟩ := bcell hb) | (go_at_call 13; refine (counts_any sz cl qu mx qn rt bu wk ou _).mono ?_; rw [h2]; rintro e w'' ⟨rfl, hb2⟩))
      go_ret
      exact ⟨rfl, (((Below.refl _ _).alloc (Nat.le_refl _) _).trans (hb.mono (by simp))).trans (hb2.mono (by have := hb.size; simp at this; omega))⟩
    | true =>
      go_enter Try.func8, Try.ntmps8
      go_wp2_with (first | (go_at_call 12; refine (bytes_any sz cl qu mx qn rt bu wk ou _).mono ?_; rw [h]; rintro e w' ⟨rfl, hb⟩; obtain ⟨hc, hf⟩ := bcell hb) | (go_at_call 13; refine (counts_any sz cl qu mx qn rt bu wk ou _).mono ?_; rw [h2]; rintro e w'' ⟨rfl, hb2⟩))
      go_ret
      exact ⟨rfl, (((Below.refl _ _).alloc (Nat.le_refl _) _).trans (hb.mono (by simp))).trans (hb2.mono (by have := hb.size; simp at this; omega))⟩
end Go.Proofs.Ytpobhljcainmdaa
