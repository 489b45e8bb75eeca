/- Proved here: what the statements' own pick and raw answer: a number within its bounds. -/
import Derived.Test.YtpobhljcainmdaaRef1
import Derived.Test.YtpobhljcainmdaaRef4
namespace Go.Proofs.Ytpobhljcainmdaa
open Go.RowKit

/-- A number of 64 bits. -/
abbrev I64 (c : Int) : Prop := -9223372036854775808 ≤ c ∧ c ≤ 9223372036854775807

set_option maxHeartbeats 400000 in
theorem pick_any (c n : Int) (w : World) (hc : I64 c) (h0 : 0 < n) (h1 : n ≤ 9223372036854775807) :
    Calls Try.prog 5 #[.int .i64 c, .int .i64 n] w fun e w' => ∃ r, e = .returned (.int .i64 r) ∧ (0 ≤ r ∧ r < n) ∧ w' = w := by
  by_cases hneg : c < 0
  · have e1 : IntKind.i64.wrap (c + 1) = c + 1 := by rw [IntKind.wrap_i64]; omega
    have e2 : IntKind.i64.wrap (-(c + 1)) = -(c + 1) := by rw [IntKind.wrap_i64]; omega
    have hr : 0 ≤ (-(c + 1)).tmod n ∧ (-(c + 1)).tmod n < n := ⟨Int.tmod_nonneg _ (by omega), Int.tmod_lt_of_pos _ h0⟩
    have HR : Hid (0 ≤ (-(c + 1)).tmod n ∧ (-(c + 1)).tmod n < n) := hr
    have hne : ¬ n = 0 := by omega
    clear hr
    go_enter Try.func5, Try.ntmps5
    go_wp2
    go_ret
    exact ⟨_, rfl, by rw [← Int.neg_tmod]; exact HR.out, rfl⟩
  · have hr : 0 ≤ c.tmod n ∧ c.tmod n < n := ⟨Int.tmod_nonneg _ (by omega), Int.tmod_lt_of_pos _ h0⟩
    have HR : Hid (0 ≤ c.tmod n ∧ c.tmod n < n) := hr
    have HE : Hid (c % n = c.tmod n) := (Int.tmod_eq_emod_of_nonneg (by omega)).symm
    have hne : ¬ n = 0 := by omega
    clear hr
    go_enter Try.func5, Try.ntmps5
    go_wp2
    go_ret
    exact ⟨_, rfl, by first | exact HR.out | (rw [HE.out]; exact HR.out), rfl⟩

/-- Raw numbers in memory. -/
def Raws (w : World) (a : Option Addr) (len : Nat) : Prop := len = 0 ∨ ∃ b off, a = some ⟨b, off, none⟩ ∧ b < w.heap.size ∧ ∀ i, i < len → ∃ z, w.cell? ⟨b, off + i, none⟩ = some (.int .i64 z) ∧ I64 z

theorem Raws.later {w w' : World} {a : Option Addr} {len : Nat} (h : Raws w a len) (hb : Below w.heap.size w w') : Raws w' a len := by
  rcases h with h | ⟨b, off, rfl, hlt, h⟩
  · exact .inl h
  · exact .inr ⟨b, off, rfl, Nat.lt_of_lt_of_le hlt hb.size, fun i hi => by
      obtain ⟨z, h1, h2⟩ := h i hi
      exact ⟨z, (hb.cell (p := ⟨b, off + i, none⟩) hlt).trans h1, h2⟩⟩

set_option maxHeartbeats 400000 in
theorem raw_any (a : Option Addr) (len cap : Nat) (i : Nat) (w : World) (hl : len ≤ maxLen) (hi : i ≤ 1000000) (h : Raws w a len) :
    Calls Try.prog 7 #[.slice a len cap, .int .i64 (i : Int)] w fun e w' => ∃ z, e = .returned (.int .i64 z) ∧ I64 z ∧ w' = w := by
  unfold maxLen at hl
  rcases h with rfl | ⟨b, off, rfl, hlt, h⟩
  · go_enter Try.func7, Try.ntmps7
    go_wp2
    go_ret
    exact ⟨0, rfl, ⟨by decide, by decide⟩, rfl⟩
  · by_cases h0 : len = 0
    · subst h0
      go_enter Try.func7, Try.ntmps7
      go_wp2
      go_ret
      exact ⟨0, rfl, ⟨by decide, by decide⟩, rfl⟩
    · have hm : i % len < len := Nat.mod_lt _ (by omega)
      obtain ⟨z, hz, hI⟩ := h (i % len) hm
      have hi64 : (i : Int) % (len : Int) = ((i % len : Nat) : Int) := by simp
      have ht : Int.tmod (i : Int) (len : Int) = ((i % len : Nat) : Int) := by rw [Int.tmod_eq_emod_of_nonneg (by omega)]; simp
      have HI : Hid (I64 z) := hI
      generalize hj : i % len = j at *
      have hbl : ((len : Int) == 0) = false := by simp; omega
      have hjl : (j : Int) < len := by omega
      have hne : ¬ (len : Int) = 0 := by omega
      clear hj hi64 h hI
      go_enter Try.func7, Try.ntmps7
      go_wp2
      go_ret
      exact ⟨z, rfl, HI.out, rfl⟩

theorem raw_at (a : Option Addr) (len cap : Nat) (j : Int) (w : World) (hl : len ≤ maxLen) (h0 : 0 ≤ j) (h1 : j ≤ 1000000) (h : Raws w a len) :
    Calls Try.prog 7 #[.slice a len cap, .int .i64 j] w fun e w' => ∃ z, e = .returned (.int .i64 z) ∧ I64 z ∧ w' = w := by
  obtain ⟨i, rfl⟩ : ∃ i : Nat, j = i := ⟨j.toNat, by omega⟩
  exact raw_any a len cap i w hl (by omega) h
end Go.Proofs.Ytpobhljcainmdaa
