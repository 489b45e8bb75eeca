/- Proved here: what the law's own small steps do (quiet, step at a Check, ends and looks where nothing was made). -/
import Derived.Test.YtpobhljcainmdaaGreatCf2
import Derived.Deep.RegionHeld3
import Derived.Deep.DrawnRows
namespace Go.Proofs.YtpobhljcainmdaaGreat
open Go.RowKit
attribute [local go_sem ↓] Go.wp_at_zero Go.wp_at_succ

/-- Is there no Q in a text? -/
def quietB (s : ByteArray) : Bool := s.data.toList.all (fun c => c != 81)

theorem quiet_hit (s : ByteArray) (k : Nat) (hk : k < s.size) (h : (s[k].toNat : Int) = 81) : quietB s = false := by
  have e : s[k] = 81 := by apply UInt8.toNat.inj; simpa using (by omega : s[k].toNat = 81)
  unfold quietB
  rw [List.all_eq_false]
  exact ⟨s[k], by rw [show s[k] = s.data[k] from rfl]; simp, by simp [e]⟩

theorem quiet_step (s : ByteArray) (k : Nat) (hk : k < s.size) (h : ¬ (s[k].toNat : Int) = 81) (hp : (s.data.toList.take k).all (fun c => c != 81) = true) : (s.data.toList.take (k + 1)).all (fun c => c != 81) = true := by
  have e : s.data[k] ≠ 81 := by intro e; rw [show s[k] = s.data[k] from rfl] at h; rw [e] at h; simp at h
  rw [List.take_succ_eq_append_getElem (by simpa using hk), List.all_append, hp]
  simpa using e

set_option maxHeartbeats 400000 in
theorem quiet_any (s : ByteArray) (w : World) (hs : s.size ≤ maxLen) :
    Calls Tryz.prog 45 #[.string s] w fun e w' => e = .returned (.bool (quietB s)) ∧ w' = w := by
  unfold maxLen at hs
  go_enter Tryz.func45, Tryz.ntmps45
  go_wp2
  go_loop [3] (fun i => ∃ k : Nat, k ≤ s.size ∧ i = .int .i64 k ∧ Hid ((s.data.toList.take k).all (fun c => c != 81) = true)) (fun i => s.size - (intOf i).toNat)
  case atStart => exact ⟨0, Nat.zero_le _, rfl, by simp [Hid]⟩
  case round =>
    obtain ⟨k, hk, rfl, hp⟩ := hrel
    by_cases hlt : k < s.size
    · by_cases hq : (s[k].toNat : Int) = 81
      · have hH : Hid (quietB s = false) := quiet_hit s k hlt hq
        have hqb : ((s[k].toNat : Int) == 81) = true := by simpa using hq
        clear hq
        go_wp2
        go_ret
        exact ⟨by rw [hH.out]; rfl, rfl⟩
      · have hH : Hid ((s.data.toList.take (k + 1)).all (fun c => c != 81) = true) := quiet_step s k hlt hq hp.out
        have hqb : ((s[k].toNat : Int) == 81) = false := by simpa using hq
        clear hq
        go_wp2
        go_round
        case rel => exact ⟨k + 1, by omega, by go_num, hH⟩
        case measure => simp [intOf]; omega
    · have hH : Hid (quietB s = true) := (by have := hp.out; rw [List.take_of_length_le (by simp; omega)] at this; exact this)
      go_wp2
      go_ret
      exact ⟨by rw [hH.out]; rfl, rfl⟩

/-- One step of a script, as a value. -/
abbrev opV (kd at' sz cl qu mx qn rt bu wk ou : Int) (s : ByteArray) (x y : Int) (on : Bool) : Value :=
  .agg #[.int .i64 kd, .int .i64 at', .int .i64 sz, .int .i64 cl, .int .i64 qu, .int .i64 mx, .int .i64 qn, .int .i64 rt, .int .i64 bu, .int .i64 wk, .int .i64 ou, .string s, .int .i64 x, .int .i64 y, .bool on]

set_option maxHeartbeats 400000 in
theorem ends_none (b : Nat) (hi : Int) (w : World) (h : w.cell? ⟨b, 0, none⟩ = some (.slice none 0 0)) :
    Calls Tryz.prog 47 #[.pointer (some ⟨b, 0, none⟩), .int .i64 hi] w fun e w' => e = .returned (.bool true) ∧ w' = w := by
  go_enter Tryz.func47, Tryz.ntmps47
  go_wp2
  refine wp_loop_rounds 1 ?_
  rw [rounds_succ]
  go_wp2
  go_ret
  exact ⟨rfl, rfl⟩

set_option maxHeartbeats 400000 in
theorem looks_none (b : Nat) (w : World) (h : w.cell? ⟨b, 1, none⟩ = some (.slice none 0 0)) (h3 : w.cell? ⟨b, 3, none⟩ = some (.slice none 0 0)) :
    Calls Tryz.prog 48 #[.pointer (some ⟨b, 0, none⟩)] w fun e w' => e = .returned (.bool true) ∧ w' = w := by
  go_enter Tryz.func48, Tryz.ntmps48
  go_wp2
  refine wp_loop_rounds 1 ?_
  rw [rounds_succ]
  go_wp2
  refine wp_loop_rounds 1 ?_
  rw [rounds_succ]
  go_wp2
  go_ret
  exact ⟨rfl, rfl⟩

/-- The nine cells of a configuration in a block, seen from the second cell on, in a world behind w1. -/
abbrev CfgAt (w1 : World) (b : Nat) (sz cl qu mx qn rt bu wk ou : Int) (w' : World) : Prop :=
  Below w1.heap.size w1 w' ∧ w'.cell? ⟨b, 2, none⟩ = some (.int .i64 sz) ∧ w'.cell? ⟨b, 3, none⟩ = some (.int .i64 cl) ∧ w'.cell? ⟨b, 4, none⟩ = some (.int .i64 qu) ∧ w'.cell? ⟨b, 5, none⟩ = some (.int .i64 mx) ∧ w'.cell? ⟨b, 6, none⟩ = some (.int .i64 qn) ∧ w'.cell? ⟨b, 7, none⟩ = some (.int .i64 rt) ∧ w'.cell? ⟨b, 8, none⟩ = some (.int .i64 bu) ∧ w'.cell? ⟨b, 9, none⟩ = some (.int .i64 wk) ∧ w'.cell? ⟨b, 10, none⟩ = some (.int .i64 ou)

theorem CfgAt.keep {w1 : World} {b : Nat} {sz cl qu mx qn rt bu wk ou : Int} {W w2 : World} (hz : b < w1.heap.size) (h : CfgAt w1 b sz cl qu mx qn rt bu wk ou W) (hb : Below W.heap.size W w2) : CfgAt w1 b sz cl qu mx qn rt bu wk ou w2 := by
  obtain ⟨h0, h1, h2, h3, h4, h5, h6, h7, h8, h9⟩ := h
  have hlt : b < W.heap.size := Nat.lt_of_lt_of_le hz h0.size
  exact ⟨h0.trans (hb.mono h0.size), (hb.cell hlt).trans h1, (hb.cell hlt).trans h2, (hb.cell hlt).trans h3, (hb.cell hlt).trans h4, (hb.cell hlt).trans h5, (hb.cell hlt).trans h6, (hb.cell hlt).trans h7, (hb.cell hlt).trans h8, (hb.cell hlt).trans h9⟩

set_option maxRecDepth 100000 in
set_option maxHeartbeats 1000000 in
theorem step_check (a : Option Addr) (at' sz cl qu mx qn rt bu wk ou : Int) (s : ByteArray) (x y : Int) (on : Bool) (w : World) :
    Calls Tryz.prog 46 #[.pointer a, opV 1 at' sz cl qu mx qn rt bu wk ou s x y on] w fun e w' => e = .returned (.bool true) ∧ Below w.heap.size w w' := by
  go_enter Tryz.func46, Tryz.ntmps46
  go_wp2_with (go_at_call 81; refine (check_any sz cl qu mx qn rt bu wk ou _).mono ?_; rintro e w1 ⟨rfl, hb⟩; obtain ⟨hc, hf⟩ := bcell hb)
  have hz : w.heap.size < w1.heap.size := by have := hb.size; simp at this; omega
  go_region_held3 (fun w' => Below w1.heap.size w1 w' ∧ w'.cell? ⟨w.heap.size, 2, none⟩ = some (.int .i64 sz) ∧ w'.cell? ⟨w.heap.size, 3, none⟩ = some (.int .i64 cl) ∧ w'.cell? ⟨w.heap.size, 4, none⟩ = some (.int .i64 qu) ∧ w'.cell? ⟨w.heap.size, 5, none⟩ = some (.int .i64 mx) ∧ w'.cell? ⟨w.heap.size, 6, none⟩ = some (.int .i64 qn) ∧ w'.cell? ⟨w.heap.size, 7, none⟩ = some (.int .i64 rt) ∧ w'.cell? ⟨w.heap.size, 8, none⟩ = some (.int .i64 bu) ∧ w'.cell? ⟨w.heap.size, 9, none⟩ = some (.int .i64 wk) ∧ w'.cell? ⟨w.heap.size, 10, none⟩ = some (.int .i64 ou)) (first | assumption | (refine ⟨(Below.refl _ _).drew, ?_⟩; go_keep) | (refine CfgAt.keep hz ?_ hb2; assumption))
    (first | (go_at_call 80; refine (num_any _ _).mono ?_; rintro e w' ⟨rfl, rfl⟩) | (go_at_call 82; refine (rcheck_any sz cl qu mx qn rt bu wk ou _).mono ?_; rintro e w2 ⟨rfl, hb2⟩))
  go_wp2
  go_ret
  refine ⟨rfl, ((((Below.refl _ _).alloc (Nat.le_refl _) _).trans (hb.mono (by simp))).trans ((And.left (b := _) (by assumption : CfgAt w1 w.heap.size sz cl qu mx qn rt bu wk ou _)).mono (Nat.le_of_lt hz)))⟩
end Go.Proofs.YtpobhljcainmdaaGreat
