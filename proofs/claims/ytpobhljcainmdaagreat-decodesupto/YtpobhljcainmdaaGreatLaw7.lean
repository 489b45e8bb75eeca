/- Proved here: whatever the script, playing its Decodes answers true and writes nothing that was there, if the program's Decode answers as the plain mathematics says. -/
import Derived.Test.YtpobhljcainmdaaGreatLaw6
import Derived.Test.YtpobhljcainmdaaGreatPlays
namespace Go.Proofs.YtpobhljcainmdaaGreat
open Go.RowKit

set_option maxRecDepth 100000 in
set_option maxHeartbeats 1000000 in
theorem step_decode (hD : SaidDecode) (b k : Nat) (at' sz cl qu mx qn rt bu wk ou : Int) (s : ByteArray) (x y : Int) (on : Bool) (w : World) (hL : LW b k w) (hk : k < 1048576) (hs : s.size ≤ 1048576) :
    Calls Tryz.prog 46 #[.pointer (some ⟨b, 0, none⟩), opV 2 at' sz cl qu mx qn rt bu wk ou s x y on] w fun e w' => e = .returned (.bool true) ∧ LW b (k + 1) w' ∧ Below b w w' := by
  have HL : Hid (∀ o, LW b k (w.alloc o)) := fun o => hL.later ((Below.refl _ _).alloc (Nat.le_refl _) o)
  have hbs : b < w.heap.size := by obtain ⟨_, _, _, _, hbox, _⟩ := hL; exact (Array.getElem?_eq_some_iff.1 hbox).1
  clear hL
  go_enter Tryz.func46, Tryz.ntmps46
  go_wp2_with (go_at_call 83; refine (decoded_any hD b k 2 at' sz cl qu mx qn rt bu wk ou s x y on _ (HL.out _) hk hs).mono ?_; rintro e w1 ⟨rfl, hl1, hb1⟩; have H1 : Hid (LW b (k + 1) w1) := hl1; clear hl1)
  go_ret
  exact ⟨rfl, H1.out, ((Below.refl _ _).alloc (by omega) _).trans hb1⟩

/-- The law's World at its beginning. -/
theorem lw_begin (w : World) : LW w.heap.size 0 (w.alloc (.cells (worldL (.slice none 0 0) (.slice none 0 0) 0) 87)) :=
  ⟨.slice none 0 0, .slice none 0 0, [], [], heap_alloc_new w _, World.ownsRow_nil _ _ _ _, World.ownsRow_nil _ _ _ _, fun i hi => by omega⟩

theorem lw_nil {b k : Nat} {w : World} (h : LW b k w) : w.cell? ⟨b, 0, none⟩ = some (.slice none 0 0) := by
  obtain ⟨_, _, _, _, hbox, _⟩ := h
  exact (cellsW hbox).1

theorem lw_lt {b k : Nat} {w : World} (h : LW b k w) : b < w.heap.size := by
  obtain ⟨_, _, _, _, hbox, _⟩ := h
  exact (Array.getElem?_eq_some_iff.1 hbox).1

set_option maxRecDepth 100000 in
set_option maxHeartbeats 1000000 in
theorem plays_decodes (hD : SaidDecode) (b off len cap : Nat) (f : Nat → OpR) (w : World) (hlen : len ≤ 1048576) (hb : b < w.heap.size) (hf : ∀ i, i < len → OpAt w b (off + i * 15) (f i)) (hS : ∀ i, i < len → (f i).s.size ≤ 1048576) :
    Calls Tryz.prog 14 #[.slice (some ⟨b, off, none⟩) len cap, .int .i64 2, .int .i64 2, .bool false] w fun e w' => e = .returned (.bool true) ∧ Below w.heap.size w w' := by
  have HB := lw_begin w
  have HF : Hid (∀ i, i < len → OpAt w b (off + i * 15) (f i) ∧ (f i).s.size ≤ 1048576) := fun i hi => ⟨hf i hi, hS i hi⟩
  clear hf hS
  have HB0 : Hid (LW w.heap.size 0 (w.alloc (.cells (worldL (.slice none 0 0) (.slice none 0 0) 0) 87))) := HB
  clear HB
  go_enter Tryz.func14, Tryz.ntmps14
  go_wp2
  go_loopw [11] (fun i wr => ∃ j k : Nat, j ≤ len ∧ k ≤ j ∧ i = .int .i64 j ∧ Below w.heap.size w wr ∧ Hid (LW w.heap.size k wr)) (fun i _ => len - (intOf i).toNat)
  case atStart => exact ⟨0, 0, Nat.zero_le _, Nat.le_refl _, rfl, (Below.refl _ _).alloc (Nat.le_refl _) _, HB0.out⟩
  case round =>
    obtain ⟨j, k, hj, hkj, rfl, hB, hL⟩ := hrel
    by_cases hlt : j < len
    · obtain ⟨hr, hsz⟩ := HF.out j hlt
      generalize f j = r at hr hsz
      obtain ⟨kd, at', sz, cl, qu, mx, qn, rt, bu, wk, ou, s, x, y, on⟩ := r
      obtain ⟨c0, c1, c2, c3, c4, c5, c6, c7, c8, c9, c10, c11, c12, c13, c14, hs⟩ := hr
      rw [← hB.cell hb] at c0 c1 c2 c3 c4 c5 c6 c7 c8 c9 c10 c11 c12 c13 c14
      dsimp only at c0 c1 c2 c3 c4 c5 c6 c7 c8 c9 c10 c11 c12 c13 c14 hs hsz
      have HE : Hid (∀ o, Below w.heap.size w (wr.alloc o) ∧ LW w.heap.size k (wr.alloc o)) := fun o => ⟨hB.alloc hB.size o, hL.out.later ((Below.refl _ _).alloc (Nat.le_refl _) o)⟩
      have hls := lw_lt hL.out
      by_cases k1 : kd < 2
      · go_wp2_with fail
        go_roundw
        case rel => exact ⟨j + 1, k, by omega, by omega, by go_num, (HE.out _).1, (HE.out _).2⟩
        case measure => simp [intOf]; omega
      · by_cases k2 : 2 < kd
        · go_wp2_with fail
          go_roundw
          case rel => exact ⟨j + 1, k, by omega, by omega, by go_num, (HE.out _).1, (HE.out _).2⟩
          case measure => simp [intOf]; omega
        · obtain rfl : kd = 2 := by omega
          go_wp2_with (first | (go_at_call 45; refine (quiet_any s _ hs).mono ?_; rintro e w' ⟨rfl, rfl⟩) | (go_at_call 46; refine (step_decode hD w.heap.size k at' sz cl qu mx qn rt bu wk ou s x y on _ (HE.out _).2 (by omega) hsz).mono ?_; rintro e w2 ⟨rfl, hl2, hb2⟩; have H2 : Hid (LW w.heap.size (k + 1) w2) := hl2; clear hl2))
          go_roundw
          case rel => exact ⟨j + 1, k + 1, by omega, by omega, by go_num, (HE.out _).1.trans hb2, H2.out⟩
          case measure => simp [intOf]; omega
    · have g0 := lw_nil hL.out
      have hk : k ≤ 1048576 := by omega
      go_wp2_with (first | (go_at_call 47; refine (ends_none w.heap.size 2 _ g0).mono ?_; rintro e w' ⟨rfl, rfl⟩) | (go_at_call 48; refine (looks_any w.heap.size k _ hL.out hk).mono ?_; rintro e w' ⟨rfl, hb9⟩))
      go_ret
      exact ⟨rfl, hB.trans (hb9.mono hB.size)⟩
end Go.Proofs.YtpobhljcainmdaaGreat
