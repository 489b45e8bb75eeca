/- Proved here: what the document's Decode answers, for every configuration and phase. -/
import Derived.Test.YtpobhljcainmdaaGreatRef7
namespace Go.Proofs.YtpobhljcainmdaaGreat
open Go.RowKit

/-- What Decode hands back: a list of its own, that holds the messages; how many bytes. -/
abbrev DecRet (B : Nat) (r : List Msg × Int) (w : World) (e : Ending) (w' : World) : Prop :=
  ∃ v ms n, (ms, n) = r ∧ e = .returned (.tuple #[v, .int .i64 n]) ∧ w'.ownsRow B 132 9 v ms.length (ms.flatMap Msg.cells) ∧ Below w.heap.size w w'

set_option maxRecDepth 100000 in
set_option maxHeartbeats 1000000 in
theorem rdecode_all (sz cl qu mx qn rt bu wk ou ph : Int) (s : ByteArray) (w : World) (hs : s.size ≤ 1048576) :
    Calls Tryz.prog 122 #[.agg (cfgL sz cl qu mx qn rt bu wk ou), .int .i64 ph, .string s] w (DecRet (w.heap.size + 1) (decodeAll sz cl qu mx qn rt bu wk ou ph s) w) := by
  by_cases hgood : cfgB sz cl qu mx qn rt bu wk ou = true ∧ 0 ≤ ph ∧ ph ≤ 2
  · have e : decodeAll sz cl qu mx qn rt bu wk ou ph s = decode sz mx s (s.size + 1) ph [] 0 := by unfold decodeAll; rw [if_pos hgood]
    rw [e]
    exact rdecode_any sz cl qu mx qn rt bu wk ou ph s w hs hgood.1 hgood.2.1 hgood.2.2
  · have e : decodeAll sz cl qu mx qn rt bu wk ou ph s = ([], 0) := by unfold decodeAll; rw [if_neg hgood]
    rw [e]
    cases hok : cfgB sz cl qu mx qn rt bu wk ou with
    | false =>
      clear hgood e
      go_enter Tryz.func122, Tryz.ntmps122
      go_wp2_with (go_at_call 118; refine (config_any sz cl qu mx qn rt bu wk ou _).mono ?_; rw [hok]; rintro e w1 ⟨rfl, hb⟩)
      go_ret2
      exact ⟨_, [], 0, rfl, rfl, World.ownsRow_nil _ _ _ _, ((Below.refl _ _).alloc (Nat.le_refl _) _).trans (hb.mono (by simp))⟩
    | true =>
      by_cases h0 : ph < 0
      · clear hgood e
        go_enter Tryz.func122, Tryz.ntmps122
        go_wp2_with (go_at_call 118; refine (config_any sz cl qu mx qn rt bu wk ou _).mono ?_; rw [hok]; rintro e w1 ⟨rfl, hb⟩)
        go_ret2
        exact ⟨_, [], 0, rfl, rfl, World.ownsRow_nil _ _ _ _, ((Below.refl _ _).alloc (Nat.le_refl _) _).trans (hb.mono (by simp))⟩
      · have h2 : 2 < ph := by
          by_cases h : ph ≤ 2
          · exact absurd ⟨hok, by omega, h⟩ hgood
          · omega
        clear hgood e
        go_enter Tryz.func122, Tryz.ntmps122
        go_wp2_with (go_at_call 118; refine (config_any sz cl qu mx qn rt bu wk ou _).mono ?_; rw [hok]; rintro e w1 ⟨rfl, hb⟩)
        go_ret2
        exact ⟨_, [], 0, rfl, rfl, World.ownsRow_nil _ _ _ _, ((Below.refl _ _).alloc (Nat.le_refl _) _).trans (hb.mono (by simp))⟩
end Go.Proofs.YtpobhljcainmdaaGreat
