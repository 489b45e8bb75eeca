/- Proved here: what the program's greeting and option answer, and with what they give up. -/
import Derived.Test.YtpobhljcainmdaaGreatWire2
namespace Go.Proofs.YtpobhljcainmdaaGreat
open Go.RowKit
set_option linter.unusedSimpArgs false

/-- What a message that must not be is given up with. -/
abbrev brk (n : Int) : Value := .iface 294 (.agg #[.int .i64 n])

/-- How the reading of one message ends: it is handed back, or given up. -/
def Ends (r : Msg × Int) (e : Ending) : Prop :=
  (r.1 = .closing ∧ e = .panicked [{ v := brk r.2, recovered := false }]) ∨ (r.1.wh ≠ 4 ∧ e = .returned (.tuple #[r.1.val, .int .i64 r.2]))

theorem extract_one (s : ByteArray) (i : Nat) (h : i < s.size) : s.extract i (i + 1) = ⟨#[s[i]]⟩ := by
  apply ByteArray.ext
  apply Array.ext
  · simp [ByteArray.data_extract]; omega
  · intro j h1 h2
    have : j = 0 := by simp at h2; omega
    subst this
    simp [ByteArray.data_extract]
    rfl

set_option maxRecDepth 100000 in
set_option maxHeartbeats 1000000 in
theorem option_any (s : ByteArray) (w : World) (hs : s.size ≤ maxLen) :
    Calls Tryz.prog 229 #[.string s] w fun e w' => Ends (opt s) e ∧ Below w.heap.size w w' := by
  unfold maxLen at hs
  by_cases h0 : s.size = 0
  · obtain rfl : s = ⟨#[]⟩ := ByteArray.ext (Array.eq_empty_of_size_eq_zero h0)
    go_enter Tryz.func229, Tryz.ntmps229
    go_wp2
    exact bodyPost_ret (v := .tuple #[Msg.zero.val, .int .i64 0]) (by simp [results, Tryz.results229, go_sem, Msg.zero]) rfl ⟨.inr ⟨by rw [show opt ⟨#[]⟩ = (Msg.zero, 0) from rfl]; decide, rfl⟩, (Below.refl _ _).alloc (Nat.le_refl _) _⟩
  · have hem : s.toList.isEmpty = false := by
      rw [Bool.eq_false_iff, ByteArray.toList_eq]
      intro e
      have := List.isEmpty_iff.1 e
      exact h0 (by rw [Lib.size_eq, this]; rfl)
    have n0 : 0 < s.size := by omega
    have i0 : (0 : Int) < s.size := by omega
    have e0 := bt_eq s 0 n0
    have r0 := bt_range s 0
    by_cases hbad : bt s 0 < 97 ∨ 122 < bt s 0
    · have hO : Hid (opt s = (.closing, 1)) := by unfold opt; rw [if_neg h0, if_pos hbad]; rfl
      have HB : Hid (bt s 0 < 97 ∨ 122 < bt s 0) := hbad
      clear hbad
      by_cases h97 : bt s 0 < 97
      · clear HB
        go_enter Tryz.func229, Tryz.ntmps229
        go_wp2
        exact ⟨rfl, .inl (by rw [hO.out]; exact ⟨rfl, rfl⟩), (Below.refl _ _).alloc (Nat.le_refl _) _⟩
      · have h122 : 122 < bt s 0 := by have := HB.out; omega
        clear HB
        go_enter Tryz.func229, Tryz.ntmps229
        go_wp2
        exact ⟨rfl, .inl (by rw [hO.out]; exact ⟨rfl, rfl⟩), (Below.refl _ _).alloc (Nat.le_refl _) _⟩
    · have hO : Hid (opt s = (⟨2, s.extract 0 1, 0, 0, 0, 0, 0, ⟨#[]⟩, 0⟩, 1)) := by unfold opt; rw [if_neg h0, if_neg hbad]; rfl
      have h97 : ¬ bt s 0 < 97 := by omega
      have h122 : ¬ 122 < bt s 0 := by omega
      clear hbad
      have hob : ∀ W, Calls Tryz.prog 237 #[.int .u8 (bt s 0)] W fun e w' => e = .returned (.string (s.extract 0 1)) ∧ Below W.heap.size W w' := fun W => by
        have := oneByte_any s[0] W
        rw [e0] at this
        rw [extract_one s 0 n0]
        exact this
      have HOB : Hid (∀ W, Calls Tryz.prog 237 #[.int .u8 (bt s 0)] W fun e w' => e = .returned (.string (s.extract 0 1)) ∧ Below W.heap.size W w') := hob
      clear hob
      go_enter Tryz.func229, Tryz.ntmps229
      go_wp2_with (go_at_call 237; refine (HOB.out _).mono ?_; rintro e w1 ⟨rfl, hb1⟩; obtain ⟨hc, hf⟩ := bcell hb1)
      exact bodyPost_ret (v := .tuple #[Msg.val ⟨2, s.extract 0 1, 0, 0, 0, 0, 0, ⟨#[]⟩, 0⟩, .int .i64 1]) (by simp [results, Tryz.results229, go_sem, *]) rfl ⟨.inr (by rw [hO.out]; exact ⟨show (2 : Int) ≠ 4 by decide, rfl⟩), below_set9 (((Below.refl _ _).alloc (Nat.le_refl _) _).trans (hb1.mono (by simp))) (Nat.le_refl _) _ _ _ _ _ _ _ _ _⟩

set_option maxRecDepth 100000 in
set_option maxHeartbeats 2000000 in
theorem greeting_any (s : ByteArray) (w : World) (hs : s.size ≤ maxLen) :
    Calls Tryz.prog 228 #[.string s] w fun e w' => Ends (greet s) e ∧ Below w.heap.size w w' := by
  unfold maxLen at hs
  obtain ⟨N, hN⟩ : ∃ N : Nat, N = min s.size 5 := ⟨_, rfl⟩
  have hmin : ∀ W, (Builtin.min_ #[3, 3] 3 #[.int .i64 (s.size : Int), .int .i64 5]).run Tryz.prog W = .ok (.int .i64 (N : Int)) W := fun W => by
    rw [run_min_int2]
    congr 2
    split <;> omega
  have hN5 : N ≤ 5 := by omega
  have hNs : N ≤ s.size := by omega
  have HN : Hid (N = min s.size 5) := hN
  clear hN
  go_enter Tryz.func228, Tryz.ntmps228
  go_wp2
  go_loopw [8] (fun i wr => ∃ k : Nat, k ≤ N ∧ i = .int .i64 k ∧ Hid (greet s = greetFrom s (5 - k) k) ∧ ∃ d, wr = (w.alloc (.cells (msgL 0 ⟨#[]⟩ 0 0 0 0 0 ⟨#[]⟩ 0) 132)).drewN d) (fun i _ => N - (intOf i).toNat)
  case atStart => exact ⟨0, Nat.zero_le _, rfl, rfl, 0, rfl⟩
  case round =>
    obtain ⟨k, hk, rfl, hp, d, rfl⟩ := hrel
    by_cases hlt : k < N
    · have hk5 : k < 5 := by omega
      have hks : k < s.size := by omega
      have e1 := bt_eq s k hks
      have e2 := hello_at k hk5
      have r1 := bt_range s k
      have r2 := hello_range k
      have hz : (k : Int) < s.size := by omega
      by_cases hq : bt s k = hello k
      · have hH : Hid (greet s = greetFrom s (5 - (k + 1)) (k + 1)) := by
          have := hp.out
          rw [show 5 - k = (5 - (k + 1)) + 1 by omega, greetFrom, if_neg (by omega), if_pos hq] at this
          exact this
        have hb : (bt s k != hello k) = false := by simpa using hq
        clear hq
        go_wp2
        go_quiet (fail)
        go_wp2
        go_roundw
        case rel => exact ⟨k + 1, by omega, by go_num, hH, _, rfl⟩
        case measure => simp [intOf]; omega
      · have hH : Hid (greet s = (.closing, (k : Int) + 1)) := by
          have := hp.out
          rw [show 5 - k = (5 - (k + 1)) + 1 by omega, greetFrom, if_neg (by omega), if_neg hq] at this
          exact this
        have hb : (bt s k != hello k) = true := by simpa using hq
        clear hq
        go_wp2
        go_quiet (fail)
        go_wp2
        exact ⟨rfl, .inl (by rw [hH.out]; exact ⟨rfl, rfl⟩), below_drewN ((Below.refl _ _).alloc (Nat.le_refl _) _) _⟩
    · obtain rfl : k = N := by omega
      by_cases h6 : s.size ≤ 5
      · have hH : Hid (greet s = (.zero, 0)) := by
          have h := hp.out
          have hk' : k = s.size := by have := HN.out; omega
          by_cases h5 : k = 5
          · rw [h5, show 5 - 5 = 0 from rfl, greetFrom, if_pos (by omega)] at h
            exact h
          · rw [show 5 - k = (4 - k) + 1 by omega, greetFrom, if_pos (by omega)] at h
            exact h
        go_wp2
        exact bodyPost_ret (v := .tuple #[Msg.zero.val, .int .i64 0]) (by simp [results, Tryz.results228, go_sem, Msg.zero]) rfl ⟨.inr (by rw [hH.out]; exact ⟨by decide, rfl⟩), below_set9 (below_drewN ((Below.refl _ _).alloc (Nat.le_refl _) _) _) (Nat.le_refl _) _ _ _ _ _ _ _ _ _⟩
      · have hk5 : k = 5 := by have := HN.out; omega
        have hH : Hid (greet s = (⟨1, s.extract 5 6, 0, 0, 0, 0, 0, ⟨#[]⟩, 0⟩, 6)) := by
          have h := hp.out
          rw [hk5, show 5 - 5 = 0 from rfl, greetFrom, if_neg (by omega)] at h
          exact h
        have n5 : 5 < s.size := by omega
        have i5 : (5 : Int) < s.size := by omega
        have e5 := bt_eq s 5 n5
        have r5 := bt_range s 5
        have hob : ∀ W, Calls Tryz.prog 237 #[.int .u8 (bt s 5)] W fun e w' => e = .returned (.string (s.extract 5 6)) ∧ Below W.heap.size W w' := fun W => by
          have := oneByte_any s[5] W
          rw [e5] at this
          rw [extract_one s 5 n5]
          exact this
        have HOB : Hid (∀ W, Calls Tryz.prog 237 #[.int .u8 (bt s 5)] W fun e w' => e = .returned (.string (s.extract 5 6)) ∧ Below W.heap.size W w') := hob
        clear hob
        go_wp2_with (go_at_call 237; refine (HOB.out _).mono ?_; rintro e w1 ⟨rfl, hb1⟩; obtain ⟨hc, hf⟩ := bcell hb1)
        exact bodyPost_ret (v := .tuple #[Msg.val ⟨1, s.extract 5 6, 0, 0, 0, 0, 0, ⟨#[]⟩, 0⟩, .int .i64 6]) (by simp [results, Tryz.results228, go_sem, *]) rfl ⟨.inr (by rw [hH.out]; exact ⟨show (1 : Int) ≠ 4 by decide, rfl⟩), below_set9 ((below_drewN ((Below.refl _ _).alloc (Nat.le_refl _) _) _).trans (hb1.mono (by simp))) (Nat.le_refl _) _ _ _ _ _ _ _ _ _⟩
end Go.Proofs.YtpobhljcainmdaaGreat
