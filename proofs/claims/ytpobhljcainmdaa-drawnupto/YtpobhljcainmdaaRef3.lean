/- Proved here: what the document's greeting answers. -/
import Derived.Test.YtpobhljcainmdaaRef1
namespace Go.Proofs.Ytpobhljcainmdaa
open Go.RowKit

abbrev ferryB : ByteArray := ⟨#[70, 69, 82, 82, 89]⟩
theorem hello_at (k : Nat) (h : k < ferryB.size) : (ferryB[k].toNat : Int) = hello k := by
  have h5 : k < 5 := h
  match k, h5 with
  | 0, _ => rfl
  | 1, _ => rfl
  | 2, _ => rfl
  | 3, _ => rfl
  | 4, _ => rfl

theorem hello_range (k : Nat) : 0 ≤ hello k ∧ hello k ≤ 255 := by unfold hello; repeat' split; all_goals omega

/-- Nine stores into one block beyond B. -/
theorem below_set9 {B b : Nat} {w W : World} (h : Below B w W) (hb : B ≤ b) (v0 v1 v2 v3 v4 v5 v6 v7 v8 : Value) :
    Below B w (((((((((W.setCell ⟨b, 0, none⟩ v0).setCell ⟨b, 1, none⟩ v1).setCell ⟨b, 2, none⟩ v2).setCell ⟨b, 3, none⟩ v3).setCell ⟨b, 4, none⟩ v4).setCell ⟨b, 5, none⟩ v5).setCell ⟨b, 6, none⟩ v6).setCell ⟨b, 7, none⟩ v7).setCell ⟨b, 8, none⟩ v8) :=
  ((((((((h.setCell (p := ⟨b, 0, none⟩) hb v0).setCell (p := ⟨b, 1, none⟩) hb v1).setCell (p := ⟨b, 2, none⟩) hb v2).setCell (p := ⟨b, 3, none⟩) hb v3).setCell (p := ⟨b, 4, none⟩) hb v4).setCell (p := ⟨b, 5, none⟩) hb v5).setCell (p := ⟨b, 6, none⟩) hb v6).setCell (p := ⟨b, 7, none⟩) hb v7).setCell (p := ⟨b, 8, none⟩) hb v8

end Go.Proofs.Ytpobhljcainmdaa
