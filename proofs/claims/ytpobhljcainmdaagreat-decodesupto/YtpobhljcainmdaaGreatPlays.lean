/- Proved here: whatever the script, playing its Checks answers true and writes nothing that was there. -/
import Derived.Test.YtpobhljcainmdaaGreatSteps
namespace Go.Proofs.YtpobhljcainmdaaGreat
open Go.RowKit

/-- One step of a script. -/
structure OpR where
  kd : Int
  at' : Int
  sz : Int
  cl : Int
  qu : Int
  mx : Int
  qn : Int
  rt : Int
  bu : Int
  wk : Int
  ou : Int
  s : ByteArray
  x : Int
  y : Int
  on : Bool

/-- Fifteen cells from an address on hold a step. -/
def OpAt (w : World) (b o : Nat) (r : OpR) : Prop :=
  w.cell? ⟨b, o, none⟩ = some (.int .i64 r.kd) ∧ w.cell? ⟨b, o + 1, none⟩ = some (.int .i64 r.at') ∧ w.cell? ⟨b, o + 2, none⟩ = some (.int .i64 r.sz) ∧ w.cell? ⟨b, o + 3, none⟩ = some (.int .i64 r.cl) ∧ w.cell? ⟨b, o + 4, none⟩ = some (.int .i64 r.qu) ∧ w.cell? ⟨b, o + 5, none⟩ = some (.int .i64 r.mx) ∧ w.cell? ⟨b, o + 6, none⟩ = some (.int .i64 r.qn) ∧ w.cell? ⟨b, o + 7, none⟩ = some (.int .i64 r.rt) ∧ w.cell? ⟨b, o + 8, none⟩ = some (.int .i64 r.bu) ∧ w.cell? ⟨b, o + 9, none⟩ = some (.int .i64 r.wk) ∧ w.cell? ⟨b, o + 10, none⟩ = some (.int .i64 r.ou) ∧ w.cell? ⟨b, o + 11, none⟩ = some (.string r.s) ∧ w.cell? ⟨b, o + 12, none⟩ = some (.int .i64 r.x) ∧ w.cell? ⟨b, o + 13, none⟩ = some (.int .i64 r.y) ∧ w.cell? ⟨b, o + 14, none⟩ = some (.bool r.on) ∧ r.s.size ≤ maxLen

set_option maxRecDepth 100000 in
set_option maxHeartbeats 1000000 in
theorem plays_checks (b off len cap : Nat) (f : Nat → OpR) (w : World) (hlen : len ≤ maxLen) (hb : b < w.heap.size) (hf : ∀ i, i < len → OpAt w b (off + i * 15) (f i)) :
    Calls Tryz.prog 14 #[.slice (some ⟨b, off, none⟩) len cap, .int .i64 1, .int .i64 1, .bool false] w fun e w' => e = .returned (.bool true) ∧ Below w.heap.size w w' := by
  unfold maxLen at hlen
  go_enter Tryz.func14, Tryz.ntmps14
  go_wp2
  go_loopw [11] (fun i wr => ∃ k : Nat, k ≤ len ∧ i = .int .i64 k ∧ Below w.heap.size w wr ∧ w.heap.size < wr.heap.size ∧ wr.cell? ⟨w.heap.size, 0, none⟩ = some (.slice none 0 0) ∧ wr.cell? ⟨w.heap.size, 1, none⟩ = some (.slice none 0 0) ∧ wr.cell? ⟨w.heap.size, 3, none⟩ = some (.slice none 0 0)) (fun i _ => len - (intOf i).toNat)
  case atStart => exact ⟨0, Nat.zero_le _, rfl, (Below.refl _ _).alloc (Nat.le_refl _) _, by simp, by simp [go_sem], by simp [go_sem], by simp [go_sem]⟩
  case round =>
    obtain ⟨k, hk, rfl, hB, hz, g0, g1, g3⟩ := hrel
    by_cases hlt : k < len
    · have hr := hf k hlt
      generalize f k = r at hr
      obtain ⟨kd, at', sz, cl, qu, mx, qn, rt, bu, wk, ou, s, x, y, on⟩ := r
      obtain ⟨c0, c1, c2, c3, c4, c5, c6, c7, c8, c9, c10, c11, c12, c13, c14, hs⟩ := hr
      rw [← hB.cell hb] at c0 c1 c2 c3 c4 c5 c6 c7 c8 c9 c10 c11 c12 c13 c14
      dsimp only at c0 c1 c2 c3 c4 c5 c6 c7 c8 c9 c10 c11 c12 c13 c14 hs
      have endR : ∀ wx, Below wr.heap.size wr wx → (Below w.heap.size w wx ∧ w.heap.size < wx.heap.size ∧ wx.cell? ⟨w.heap.size, 0, none⟩ = some (.slice none 0 0) ∧ wx.cell? ⟨w.heap.size, 1, none⟩ = some (.slice none 0 0) ∧ wx.cell? ⟨w.heap.size, 3, none⟩ = some (.slice none 0 0)) := fun wx h =>
        ⟨hB.trans (h.mono hB.size), Nat.lt_of_lt_of_le hz h.size, (h.cell hz).trans g0, (h.cell hz).trans g1, (h.cell hz).trans g3⟩
      have HE := (show Hid (∀ wx, Below wr.heap.size wr wx → (Below w.heap.size w wx ∧ w.heap.size < wx.heap.size ∧ wx.cell? ⟨w.heap.size, 0, none⟩ = some (.slice none 0 0) ∧ wx.cell? ⟨w.heap.size, 1, none⟩ = some (.slice none 0 0) ∧ wx.cell? ⟨w.heap.size, 3, none⟩ = some (.slice none 0 0))) from endR)
      clear endR
      by_cases k1 : kd < 1
      · go_wp2_with fail
        go_roundw
        case rel => exact ⟨k + 1, by omega, by go_num, HE.out _ ((Below.refl _ _).alloc (Nat.le_refl _) _)⟩
        case measure => simp [intOf]; omega
      · by_cases k2 : 1 < kd
        · go_wp2_with fail
          go_roundw
          case rel => exact ⟨k + 1, by omega, by go_num, HE.out _ ((Below.refl _ _).alloc (Nat.le_refl _) _)⟩
          case measure => simp [intOf]; omega
        · obtain rfl : kd = 1 := by omega
          go_wp2_with (first | (go_at_call 45; refine (quiet_any s _ hs).mono ?_; rintro e w' ⟨rfl, rfl⟩) | (go_at_call 46; refine (step_check _ at' sz cl qu mx qn rt bu wk ou s x y on _).mono ?_; rintro e w2 ⟨rfl, hb2⟩))
          go_roundw
          case rel => exact ⟨k + 1, by omega, by go_num, HE.out _ (((Below.refl _ _).alloc (Nat.le_refl _) _).trans (hb2.mono (by simp)))⟩
          case measure => simp [intOf]; omega
    · go_wp2_with (first | (go_at_call 47; refine (ends_none w.heap.size 1 _ g0).mono ?_; rintro e w' ⟨rfl, rfl⟩) | (go_at_call 48; refine (looks_none w.heap.size _ g1 g3).mono ?_; rintro e w' ⟨rfl, rfl⟩))
      go_ret
      exact ⟨rfl, hB⟩
end Go.Proofs.YtpobhljcainmdaaGreat
