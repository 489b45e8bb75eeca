/- Proved here: Check and the document's Config answer alike for every configuration (contracts of the small functions on their road). -/
import Derived.Test.YtpobhljcainmdaaGreatRows
import Derived.WalkKit
import Derived.WalkSpells
import Derived.WalkLawsBesides
import Derived.Deep.DeepCutAuto
namespace Go.Proofs.YtpobhljcainmdaaGreat
open Go.RowKit

def wiB (n a b : Int) : Bool := decide (a ≤ n) && decide (n ≤ b)
def seB (n m : Int) : Bool := wiB n 4 m && (n % 4 == 0)

set_option maxHeartbeats 400000 in
theorem within_any (n a b : Int) (w : World) :
    Calls Tryz.prog 71 #[.int .i64 n, .int .i64 a, .int .i64 b] w fun e w' => e = .returned (.bool (wiB n a b)) ∧ w' = w := by
  go_enter Tryz.func71, Tryz.ntmps71
  go_wp2
  all_goals (go_ret; exact ⟨by simp [wiB, *]; try omega, rfl⟩)

set_option maxHeartbeats 400000 in
theorem sectors_any (n m : Int) (w : World) :
    Calls Tryz.prog 172 #[.int .i64 n, .int .i64 m] w fun e w' => e = .returned (.bool (seB n m)) ∧ w' = w := by
  cases h : wiB n 4 m with
  | false =>
    go_enter Tryz.func172, Tryz.ntmps172
    go_wp2_with (go_at_call 71; refine (within_any _ _ _ _).mono ?_; rintro e w' ⟨rfl, rfl⟩)
    go_ret
    exact ⟨by simp [seB, h], rfl⟩
  | true =>
    have h0 : 4 ≤ n := by simp [wiB] at h; exact h.1
    go_enter Tryz.func172, Tryz.ntmps172
    go_wp2_with (go_at_call 71; refine (within_any _ _ _ _).mono ?_; rintro e w' ⟨rfl, rfl⟩)
    go_ret
    exact ⟨by simp [seB, h], rfl⟩

/-- The nine cells of a configuration. -/
abbrev cfgV (sz cl qu mx qn rt bu wk ou : Int) : Value := .agg #[.int .i64 sz, .int .i64 cl, .int .i64 qu, .int .i64 mx, .int .i64 qn, .int .i64 rt, .int .i64 bu, .int .i64 wk, .int .i64 ou]

def bfB (sz mx qn ou : Int) : Bool := seB sz 256 && (seB mx 32 && (wiB qn mx 64 && wiB ou (mx + 4) 256))
def cfB (cl qu rt bu wk : Int) : Bool := wiB cl 1 8 && (wiB qu 1 8 && (wiB rt 1 16 && (wiB bu 1 32 && wiB wk 1 8)))

set_option maxHeartbeats 1000000 in
theorem bytes_any (sz cl qu mx qn rt bu wk ou : Int) (w : World) :
    Calls Tryz.prog 119 #[cfgV sz cl qu mx qn rt bu wk ou] w fun e w' => e = .returned (.bool (bfB sz mx qn ou)) ∧ Below w.heap.size w w' := by
  cases h1 : seB sz 256 with
  | false =>
    go_enter Tryz.func119, Tryz.ntmps119
    go_wp2_with (go_at_call 172; refine (sectors_any _ _ _).mono ?_; rintro e w' ⟨rfl, rfl⟩)
    go_ret
    exact ⟨by simp [bfB, h1], (Below.refl _ _).alloc (Nat.le_refl _) _⟩
  | true =>
    cases h2 : seB mx 32 with
    | false =>
      go_enter Tryz.func119, Tryz.ntmps119
      go_wp2_with (go_at_call 172; refine (sectors_any _ _ _).mono ?_; rintro e w' ⟨rfl, rfl⟩)
      go_ret
      exact ⟨by simp [bfB, h1, h2], (Below.refl _ _).alloc (Nat.le_refl _) _⟩
    | true =>
      have hm : 4 ≤ mx ∧ mx ≤ 32 := by simp [seB, wiB] at h2; exact h2.1
      obtain ⟨hm1, hm2⟩ := hm
      cases h3 : wiB qn mx 64 with
      | false =>
        go_enter Tryz.func119, Tryz.ntmps119
        go_wp2_with (first | (go_at_call 172; refine (sectors_any _ _ _).mono ?_; rintro e w' ⟨rfl, rfl⟩) | (go_at_call 71; refine (within_any _ _ _ _).mono ?_; rintro e w' ⟨rfl, rfl⟩))
        go_ret
        exact ⟨by simp [bfB, h1, h2, h3], (Below.refl _ _).alloc (Nat.le_refl _) _⟩
      | true =>
        go_enter Tryz.func119, Tryz.ntmps119
        go_wp2_with (first | (go_at_call 172; refine (sectors_any _ _ _).mono ?_; rintro e w' ⟨rfl, rfl⟩) | (go_at_call 71; refine (within_any _ _ _ _).mono ?_; rintro e w' ⟨rfl, rfl⟩))
        go_ret
        exact ⟨by simp [bfB, h1, h2, h3], (Below.refl _ _).alloc (Nat.le_refl _) _⟩

set_option maxHeartbeats 1000000 in
theorem counts_any (sz cl qu mx qn rt bu wk ou : Int) (w : World) :
    Calls Tryz.prog 120 #[cfgV sz cl qu mx qn rt bu wk ou] w fun e w' => e = .returned (.bool (cfB cl qu rt bu wk)) ∧ Below w.heap.size w w' := by
  have arm : ∀ b, cfB cl qu rt bu wk = b → Calls Tryz.prog 120 #[cfgV sz cl qu mx qn rt bu wk ou] w fun e w' => e = .returned (.bool b) ∧ Below w.heap.size w w' := by
    cases h1 : wiB cl 1 8 <;> cases h2 : wiB qu 1 8 <;> cases h3 : wiB rt 1 16 <;> cases h4 : wiB bu 1 32 <;> cases h5 : wiB wk 1 8 <;>
    · intro b hb
      simp [cfB, h1, h2, h3, h4, h5] at hb
      subst hb
      go_enter Tryz.func120, Tryz.ntmps120
      go_wp2_with (go_at_call 71; refine (within_any _ _ _ _).mono ?_; rintro e w' ⟨rfl, rfl⟩)
      go_ret
      exact ⟨rfl, (Below.refl _ _).alloc (Nat.le_refl _) _⟩
  exact arm _ rfl
end Go.Proofs.YtpobhljcainmdaaGreat
