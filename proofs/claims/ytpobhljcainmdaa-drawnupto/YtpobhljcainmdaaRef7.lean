/- Proved here: what the document's Decode answers (the loop). -/
import Derived.Test.YtpobhljcainmdaaRef6
namespace Go.Proofs.Ytpobhljcainmdaa
open Go.RowKit
set_option linter.unusedSimpArgs false
attribute [local go_sem ↓] Go.wp_at_zero Go.wp_at_succ
attribute [local go_sem] alloc_drewN setCell_drewN

theorem row_below {B : Nat} {e : TypeId} {k : Nat} {v : Value} {n : Nat} {xs : List Value} {w w' : World} (h : w.ownsRow B e k v n xs) (hb : Below w.heap.size w w') : w'.ownsRow B e k v n xs :=
  h.kept (row := none) ⟨hb.os, hb.tape, hb.output, hb.size, fun j hj _ => hb.block j hj⟩ (by cases hv : v.ownBlock <;> simp)

/-- The nine cells of a configuration at a block's head, in a world behind w1. -/
abbrev CfgBox (w1 : World) (b : Nat) (sz cl qu mx qn rt bu wk ou : Int) (w' : World) : Prop :=
  Below w1.heap.size w1 w' ∧ w'.cell? ⟨b, 0, none⟩ = some (.int .i64 sz) ∧ w'.cell? ⟨b, 1, none⟩ = some (.int .i64 cl) ∧ w'.cell? ⟨b, 2, none⟩ = some (.int .i64 qu) ∧ w'.cell? ⟨b, 3, none⟩ = some (.int .i64 mx) ∧ w'.cell? ⟨b, 4, none⟩ = some (.int .i64 qn) ∧ w'.cell? ⟨b, 5, none⟩ = some (.int .i64 rt) ∧ w'.cell? ⟨b, 6, none⟩ = some (.int .i64 bu) ∧ w'.cell? ⟨b, 7, none⟩ = some (.int .i64 wk) ∧ w'.cell? ⟨b, 8, none⟩ = some (.int .i64 ou)

theorem CfgBox.keep {w1 : World} {b : Nat} {sz cl qu mx qn rt bu wk ou : Int} {W w2 : World} (hz : b < w1.heap.size) (h : CfgBox w1 b sz cl qu mx qn rt bu wk ou W) (hb : Below w1.heap.size W w2) : CfgBox w1 b sz cl qu mx qn rt bu wk ou w2 := by
  obtain ⟨h0, h1, h2, h3, h4, h5, h6, h7, h8, h9⟩ := h
  exact ⟨h0.trans hb, (hb.cell hz).trans h1, (hb.cell hz).trans h2, (hb.cell hz).trans h3, (hb.cell hz).trans h4, (hb.cell hz).trans h5, (hb.cell hz).trans h6, (hb.cell hz).trans h7, (hb.cell hz).trans h8, (hb.cell hz).trans h9⟩

theorem CfgBox.begin {wr : World} {b : Nat} {sz cl qu mx qn rt bu wk ou : Int} (h : wr.heap[b]? = some (.cells (cfgL sz cl qu mx qn rt bu wk ou) 24 (0, 0))) : CfgBox wr b sz cl qu mx qn rt bu wk ou wr.drew := by
  refine ⟨(Below.refl _ _).drew, ?_, ?_, ?_, ?_, ?_, ?_, ?_, ?_, ?_⟩ <;> exact (cell_of_row wr b _ _ _ _ h).trans rfl

/-- Nine cells hold a message. -/
abbrev MsgAt (w : World) (b : Nat) (m : Msg) : Prop :=
  w.cell? ⟨b, 0, none⟩ = some (.int .i64 m.wh) ∧ w.cell? ⟨b, 1, none⟩ = some (.string m.nm) ∧ w.cell? ⟨b, 2, none⟩ = some (.int .i64 m.kd) ∧ w.cell? ⟨b, 3, none⟩ = some (.int .i64 m.fl) ∧ w.cell? ⟨b, 4, none⟩ = some (.int .i64 m.ck) ∧ w.cell? ⟨b, 5, none⟩ = some (.int .i64 m.of) ∧ w.cell? ⟨b, 6, none⟩ = some (.int .i64 m.ln) ∧ w.cell? ⟨b, 7, none⟩ = some (.string m.dt) ∧ w.cell? ⟨b, 8, none⟩ = some (.int .i64 m.er)

def decodeAll (sz cl qu mx qn rt bu wk ou ph : Int) (s : ByteArray) : List Msg × Int :=
  if cfgB sz cl qu mx qn rt bu wk ou = true ∧ 0 ≤ ph ∧ ph ≤ 2 then decode sz mx s (s.size + 1) ph [] 0 else ([], 0)

theorem dec_eq_step {sz mx : Int} {s : ByteArray} {ph0 : Int} {ms : List Msg} {ph : Int} {used : List Int} {at' : Nat} {m : Msg} {N : Nat} (hle : ms.length ≤ s.size)
    (h : decode sz mx s (s.size + 1) ph0 [] 0 = (ms ++ (decode sz mx s (s.size + 1 - ms.length) ph used at').1, (decode sz mx s (s.size + 1 - ms.length) ph used at').2))
    (hf : (m, (N : Int)) = first sz mx ph used (s.extract at' s.size)) (hN : N ≠ 0) :
    decode sz mx s (s.size + 1) ph0 [] 0 = ((ms ++ [m]) ++ (decode sz mx s (s.size + 1 - (ms ++ [m]).length) (after ph m) (if accepted m then used ++ [m.ck] else used) (at' + N)).1, (decode sz mx s (s.size + 1 - (ms ++ [m]).length) (after ph m) (if accepted m then used ++ [m.ck] else used) (at' + N)).2) := by
  rw [show s.size + 1 - ms.length = (s.size - ms.length) + 1 by omega, decode_step sz mx s _ ph used at' m N hf hN] at h
  rw [h, show s.size + 1 - (ms ++ [m]).length = s.size - ms.length by simp]
  simp

theorem cells_one (m : Msg) : ∀ u ∈ m.cells, u.oneCell' = true := by
  intro u hu
  simp [Msg.cells] at hu
  rcases hu with rfl | rfl | rfl | rfl | rfl | rfl | rfl | rfl | rfl <;> rfl

theorem flat_snoc (ms : List Msg) (m : Msg) : (ms ++ [m]).flatMap Msg.cells = ms.flatMap Msg.cells ++ m.cells := by simp

/-- A row's block lies in the heap. -/
theorem row_lt {w : World} {B e k n : Nat} {v : Value} {xs : List Value} (h : w.ownsRow B e k v n xs) : ∀ g, v.ownBlock = some g → g < w.heap.size ∧ B ≤ g := by
  intro g hg
  rcases h.2 with ⟨rfl, _⟩ | ⟨g', cap, cur, rfl, hb, hh, _⟩
  · cases hg
  · cases hg
    exact ⟨(Array.getElem?_eq_some_iff.1 hh).1, hb⟩

theorem MsgAt.far {w w' : World} {row : Option Nat} {b : Nat} {m : Msg} (h : MsgAt w b m) (hg : w.grownBy w' row) (hlt : b < w.heap.size) (hne : some b ≠ row) : MsgAt w' b m := by
  obtain ⟨h0, h1, h2, h3, h4, h5, h6, h7, h8⟩ := h
  exact ⟨(hg.cell_far _ hlt hne).trans h0, (hg.cell_far _ hlt hne).trans h1, (hg.cell_far _ hlt hne).trans h2, (hg.cell_far _ hlt hne).trans h3, (hg.cell_far _ hlt hne).trans h4, (hg.cell_far _ hlt hne).trans h5, (hg.cell_far _ hlt hne).trans h6, (hg.cell_far _ hlt hne).trans h7, (hg.cell_far _ hlt hne).trans h8⟩

theorem MsgAt.later {w w' : World} {b : Nat} {m : Msg} (h : MsgAt w b m) (hb : Below w.heap.size w w') (hlt : b < w.heap.size) : MsgAt w' b m :=
  h.far (row := none) ⟨hb.os, hb.tape, hb.output, hb.size, fun j hj _ => hb.block j hj⟩ hlt (by simp)

end Go.Proofs.Ytpobhljcainmdaa
