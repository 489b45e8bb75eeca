/- Proved here: what the program's fault, greeting and option answer, and with what they give up. -/
import Derived.Test.YtpobhljcainmdaaGreatWire1
import Derived.Test.YtpobhljcainmdaaGreatRef3
namespace Go.Proofs.YtpobhljcainmdaaGreat
open Go.RowKit
set_option linter.unusedSimpArgs false

/-- A message's nine cells as a value. -/
abbrev Msg.val (m : Msg) : Value := .agg (msgL m.wh m.nm m.kd m.fl m.ck m.of m.ln m.dt m.er)

/-- What fault reckons. -/
def faultN (m : Msg) (sz : Int) : Int :=
  if 5 < m.kd ∨ flagB m = false ∨ rangeB m = false then 22 else if m.of + m.ln ≤ sz then 0 else if m.kd = 1 ∨ m.kd = 4 then 28 else 22

set_option maxHeartbeats 4000000 in
theorem faultN_eq (m : Msg) (sz : Int) (hk : 0 ≤ m.kd) (hf : 0 ≤ m.fl) (hs : 0 ≤ sz) : faultN m sz = verdict sz m.kd m.fl m.of m.ln := by
  obtain ⟨wh, nm, kd, fl, ck, of, ln, dt, er⟩ := m
  dsimp only at hk hf
  unfold faultN verdict flagB rangeB
  dsimp only
  by_cases h5 : 5 < kd
  · simp [h5]
  have hkd : kd = 0 ∨ kd = 1 ∨ kd = 2 ∨ kd = 3 ∨ kd = 4 ∨ kd = 5 := by omega
  by_cases h1 : 1 < fl
  · have f1 : ¬ fl ≤ 1 := by omega
    have f0 : ¬ fl = 0 := by omega
    simp [h5, h1, f1, f0]
  have hfl : fl = 0 ∨ fl = 1 := by omega
  clear h5 h1 hk hf
  by_cases e : of + ln ≤ sz
  · have s' : ¬ sz < of + ln := by omega
    simp only [e, s', if_true, if_false]
    clear e s'
    by_cases a : of = 0 <;> by_cases b : ln = 0 <;> by_cases c : of % 4 = 0 <;> by_cases d : ln % 4 = 0
    all_goals (rcases hkd with rfl | rfl | rfl | rfl | rfl | rfl <;> rcases hfl with rfl | rfl <;> simp [a, b, c, d])
  · have s' : sz < of + ln := by omega
    simp only [e, s', if_true, if_false]
    have z0 : ¬ (of = 0 ∧ ln = 0) := by omega
    clear e s'
    by_cases a : of = 0 <;> by_cases b : ln = 0 <;> by_cases c : of % 4 = 0 <;> by_cases d : ln % 4 = 0
    all_goals (try (exfalso; exact z0 ⟨a, b⟩))
    all_goals (rcases hkd with rfl | rfl | rfl | rfl | rfl | rfl <;> rcases hfl with rfl | rfl <;> simp [a, b, c, d])

set_option maxRecDepth 100000 in
set_option maxHeartbeats 2000000 in
theorem fault_any (m : Msg) (sz : Int) (w : World) (h0 : 0 ≤ m.of) (h0' : m.of ≤ 65535) (h1 : 0 ≤ m.ln) (h1' : m.ln ≤ 65535) :
    Calls Tryz.prog 261 #[m.val, .int .i64 sz] w fun e w' => e = .returned (.int .i64 (faultN m sz)) ∧ Below w.heap.size w w' := by
  obtain ⟨wh, nm, kd, fl, ck, of, ln, dt, er⟩ := m
  dsimp only at h0 h0' h1 h1'
  by_cases hk : 5 < kd
  · have hF : Hid (faultN ⟨wh, nm, kd, fl, ck, of, ln, dt, er⟩ sz = 22) := by unfold faultN; rw [if_pos (.inl hk)]; rfl
    have hd : decide (5 < kd) = true := by simpa using hk
    go_enter Tryz.func261, Tryz.ntmps261
    go_wp2_with fail
    go_ret
    exact ⟨congrArg (fun x => Ending.returned (.int .i64 x)) hF.out.symm, (Below.refl _ _).alloc (Nat.le_refl _) _⟩
  · have hd : decide (5 < kd) = false := by simpa using hk
    cases hfl : flagB ⟨wh, nm, kd, fl, ck, of, ln, dt, er⟩ with
    | false =>
      have hF : Hid (faultN ⟨wh, nm, kd, fl, ck, of, ln, dt, er⟩ sz = 22) := by unfold faultN; rw [if_pos (.inr (.inl hfl))]; rfl
      go_enter Tryz.func261, Tryz.ntmps261
      go_wp2_with (go_at_call 274; refine (flagFits_any ⟨wh, nm, kd, fl, ck, of, ln, dt, er⟩ _).mono ?_; rw [hfl]; rintro e w1 ⟨rfl, hb1⟩)
      go_ret
      exact ⟨congrArg (fun x => Ending.returned (.int .i64 x)) hF.out.symm, ((Below.refl _ _).alloc (Nat.le_refl _) _).trans (hb1.mono (by simp))⟩
    | true =>
      cases hrg : rangeB ⟨wh, nm, kd, fl, ck, of, ln, dt, er⟩ with
      | false =>
        have hF : Hid (faultN ⟨wh, nm, kd, fl, ck, of, ln, dt, er⟩ sz = 22) := by unfold faultN; rw [if_pos (.inr (.inr hrg))]; rfl
        go_enter Tryz.func261, Tryz.ntmps261
        go_wp2_with (first | (go_at_call 274; refine (flagFits_any ⟨wh, nm, kd, fl, ck, of, ln, dt, er⟩ _).mono ?_; rw [hfl]; rintro e w1 ⟨rfl, hb1⟩; obtain ⟨hc, hf⟩ := bcell hb1; have hz1 := hb1.size) | (go_at_call 275; refine (rangeFits_any ⟨wh, nm, kd, fl, ck, of, ln, dt, er⟩ _ h0 h1).mono ?_; rw [hrg]; rintro e w2 ⟨rfl, hb2⟩))
        go_ret
        exact ⟨congrArg (fun x => Ending.returned (.int .i64 x)) hF.out.symm, (((Below.refl _ _).alloc (Nat.le_refl _) _).trans (hb1.mono (by simp))).trans (hb2.mono (by simp at hz1; omega))⟩
      | true =>
        have hF : Hid (faultN ⟨wh, nm, kd, fl, ck, of, ln, dt, er⟩ sz = (if of + ln ≤ sz then 0 else if kd = 1 ∨ kd = 4 then 28 else 22)) := by
          unfold faultN; rw [if_neg (by rw [hfl, hrg]; simp; omega)]; rfl
        have hw1 : ∀ w1 : World, (w.alloc (.cells (msgL wh nm kd fl ck of ln dt er) 132)).heap.size ≤ w1.heap.size → w.heap.size + 1 ≤ w1.heap.size := fun w1 h => by simpa using h
        go_enter Tryz.func261, Tryz.ntmps261
        go_wp2_with (first | (go_at_call 274; refine (flagFits_any ⟨wh, nm, kd, fl, ck, of, ln, dt, er⟩ _).mono ?_; rw [hfl]; rintro e w1 ⟨rfl, hb1⟩; obtain ⟨hc, hf⟩ := bcell hb1; have hz1 := hb1.size) | (go_at_call 275; refine (rangeFits_any ⟨wh, nm, kd, fl, ck, of, ln, dt, er⟩ _ h0 h1).mono ?_; rw [hrg]; rintro e w2 ⟨rfl, hb2⟩; have hc2 : ∀ o, w2.cell? ⟨w.heap.size, o, none⟩ = w1.cell? ⟨w.heap.size, o, none⟩ := fun o => hb2.cell (p := ⟨w.heap.size, o, none⟩) (hw1 _ hz1)))
        all_goals (go_ret; refine ⟨Eq.trans (ret_int ?_) (congrArg (fun x => Ending.returned (.int .i64 x)) hF.out.symm), (((Below.refl _ _).alloc (Nat.le_refl _) _).trans (hb1.mono (by simp))).trans (hb2.mono (by simp at hz1; omega))⟩; clear hF hfl hrg hb1 hb2 hc hf hc2 hw1 hz1; go_light; (repeat' split) <;> simp_all <;> omega)
end Go.Proofs.YtpobhljcainmdaaGreat
