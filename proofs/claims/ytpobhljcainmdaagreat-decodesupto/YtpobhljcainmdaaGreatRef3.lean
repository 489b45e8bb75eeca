/- Proved here: what the document's greeting answers. -/
import Derived.Test.YtpobhljcainmdaaGreatRef1
namespace Go.Proofs.YtpobhljcainmdaaGreat
open Go.RowKit

abbrev ferryB : ByteArray := ⟨#[70, 69, 82, 82, 89]⟩
theorem hello_at (k : Nat) (h : k < ferryB.size) : (ferryB[k].toNat : Int) = hello k := by
  have h5 : k < 5 := h
  match k, h5 with
  | 0, _ => rfl
  | 1, _ => rfl
  | 2, _ => rfl
  | 3, _ => rfl
  | 4, _ => rfl

theorem hello_range (k : Nat) : 0 ≤ hello k ∧ hello k ≤ 255 := by unfold hello; repeat' split; all_goals omega

/-- Nine stores into one block beyond B. -/
theorem below_set9 {B b : Nat} {w W : World} (h : Below B w W) (hb : B ≤ b) (v0 v1 v2 v3 v4 v5 v6 v7 v8 : Value) :
    Below B w (((((((((W.setCell ⟨b, 0, none⟩ v0).setCell ⟨b, 1, none⟩ v1).setCell ⟨b, 2, none⟩ v2).setCell ⟨b, 3, none⟩ v3).setCell ⟨b, 4, none⟩ v4).setCell ⟨b, 5, none⟩ v5).setCell ⟨b, 6, none⟩ v6).setCell ⟨b, 7, none⟩ v7).setCell ⟨b, 8, none⟩ v8) :=
  ((((((((h.setCell (p := ⟨b, 0, none⟩) hb v0).setCell (p := ⟨b, 1, none⟩) hb v1).setCell (p := ⟨b, 2, none⟩) hb v2).setCell (p := ⟨b, 3, none⟩) hb v3).setCell (p := ⟨b, 4, none⟩) hb v4).setCell (p := ⟨b, 5, none⟩) hb v5).setCell (p := ⟨b, 6, none⟩) hb v6).setCell (p := ⟨b, 7, none⟩) hb v7).setCell (p := ⟨b, 8, none⟩) hb v8

set_option maxRecDepth 100000 in
set_option maxHeartbeats 1000000 in
theorem greet_any (s : ByteArray) (w : World) (hs : s.size ≤ maxLen) :
    Calls Tryz.prog 213 #[.string s] w fun e w' => (∃ m n, (m, n) = greet s ∧ e = .returned (.tuple #[.agg (msgL m.wh m.nm m.kd m.fl m.ck m.of m.ln m.dt m.er), .int .i64 n])) ∧ Below w.heap.size w w' := by
  unfold maxLen at hs
  go_enter Tryz.func213, Tryz.ntmps213
  go_wp2
  go_loopw [5] (fun i wr => ∃ k : Nat, k ≤ 5 ∧ k ≤ s.size ∧ i = .int .i64 k ∧ Hid (greet s = greetFrom s (5 - k) k) ∧ ∃ d, wr = (w.alloc (.cells (msgL 0 ⟨#[]⟩ 0 0 0 0 0 ⟨#[]⟩ 0) 132)).drewN d) (fun i _ => 5 - (intOf i).toNat)
  case atStart => exact ⟨0, by omega, Nat.zero_le _, rfl, rfl, 0, rfl⟩
  case round =>
    obtain ⟨k, hk, hks, rfl, hp, d, rfl⟩ := hrel
    by_cases hlt : k < 5
    · by_cases hsz : s.size ≤ k
      · have hH : Hid (greet s = (.zero, 0)) := by
          have := hp.out
          rw [show 5 - k = (4 - k) + 1 by omega, greetFrom, if_pos hsz] at this
          exact this
        have hz : (s.size : Int) ≤ k := by omega
        go_wp2
        exact bodyPost_ret (v := .tuple #[.agg (msgL 0 ⟨#[]⟩ 0 0 0 0 0 ⟨#[]⟩ 0), .int .i64 0]) (by simp [results, Tryz.results213, go_sem]) rfl ⟨⟨.zero, 0, hH.out.symm, rfl⟩, below_set9 (below_drewN ((Below.refl _ _).alloc (Nat.le_refl _) _) _) (Nat.le_refl _) _ _ _ _ _ _ _ _ _⟩
      · have e1 := bt_eq s k (by omega)
        have e2 := hello_at k hlt
        have r1 := bt_range s k
        have r2 := hello_range k
        have hz : (k : Int) < s.size := by omega
        have hz' : k < s.size := by omega
        by_cases hq : bt s k = hello k
        · have hH : Hid (greet s = greetFrom s (5 - (k + 1)) (k + 1)) := by
            have := hp.out
            rw [show 5 - k = (5 - (k + 1)) + 1 by omega, greetFrom, if_neg hsz, if_pos hq] at this
            exact this
          have hb : (bt s k != hello k) = false := by simpa using hq
          clear hq
          go_wp2
          go_quiet (fail)
          go_wp2
          go_roundw
          case rel => exact ⟨k + 1, by omega, by omega, by go_num, hH, _, rfl⟩
          case measure => simp [intOf]; omega
        · have hH : Hid (greet s = (.closing, (k : Int) + 1)) := by
            have := hp.out
            rw [show 5 - k = (5 - (k + 1)) + 1 by omega, greetFrom, if_neg hsz, if_neg hq] at this
            exact this
          have hb : (bt s k != hello k) = true := by simpa using hq
          clear hq
          go_wp2
          go_quiet (fail)
          go_wp2
          exact bodyPost_ret (v := .tuple #[.agg (msgL 4 ⟨#[]⟩ 0 0 0 0 0 ⟨#[]⟩ 0), .int .i64 (k + 1)]) (by simp [results, Tryz.results213, go_sem]) rfl ⟨⟨.closing, _, hH.out.symm, rfl⟩, below_set9 (below_drewN ((Below.refl _ _).alloc (Nat.le_refl _) _) _) (Nat.le_refl _) _ _ _ _ _ _ _ _ _⟩
    · obtain rfl : k = 5 := by omega
      by_cases h6 : s.size < 6
      · have hH : Hid (greet s = (.zero, 0)) := by
          have := hp.out
          rw [show 5 - 5 = 0 from rfl, greetFrom, if_pos h6] at this
          exact this
        go_wp2
        exact bodyPost_ret (v := .tuple #[.agg (msgL 0 ⟨#[]⟩ 0 0 0 0 0 ⟨#[]⟩ 0), .int .i64 0]) (by simp [results, Tryz.results213, go_sem]) rfl ⟨⟨.zero, 0, hH.out.symm, rfl⟩, below_set9 (below_drewN ((Below.refl _ _).alloc (Nat.le_refl _) _) _) (Nat.le_refl _) _ _ _ _ _ _ _ _ _⟩
      · have hH : Hid (greet s = (⟨1, s.extract 5 6, 0, 0, 0, 0, 0, ⟨#[]⟩, 0⟩, 6)) := by
          have := hp.out
          rw [show 5 - 5 = 0 from rfl, greetFrom, if_neg h6] at this
          exact this
        have h6' : 6 ≤ s.size := by omega
        go_wp2
        exact bodyPost_ret (v := .tuple #[.agg (msgL 1 (s.extract 5 6) 0 0 0 0 0 ⟨#[]⟩ 0), .int .i64 6]) (by simp [results, Tryz.results213, go_sem]) rfl ⟨⟨_, 6, hH.out.symm, rfl⟩, below_set9 (below_drewN ((Below.refl _ _).alloc (Nat.le_refl _) _) _) (Nat.le_refl _) _ _ _ _ _ _ _ _ _⟩
end Go.Proofs.YtpobhljcainmdaaGreat
