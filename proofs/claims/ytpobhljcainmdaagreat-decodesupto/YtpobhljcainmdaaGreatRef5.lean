/- Proved here: what the document's First answers, in every phase. -/
import Derived.Test.YtpobhljcainmdaaGreatRef4
namespace Go.Proofs.YtpobhljcainmdaaGreat
open Go.RowKit
attribute [local go_sem] alloc_drewN setCell_drewN

theorem empty_yes (s : ByteArray) (h : s.size = 0) : s.toList.isEmpty = true := by
  rw [ByteArray.toList_eq, List.isEmpty_iff]
  exact List.eq_nil_of_length_eq_zero (by rw [Array.length_toList]; exact h)
theorem empty_no (s : ByteArray) (h : ¬ s.size = 0) : s.toList.isEmpty = false := by
  rw [ByteArray.toList_eq, List.isEmpty_eq_false_iff]
  intro e
  exact h (by rw [← ByteArray.size_data, ← Array.length_toList, e]; rfl)

/-- What First, greeting and request hand back. -/
abbrev MsgRet (r : Msg × Int) (e : Ending) : Prop := ∃ m n, (m, n) = r ∧ e = .returned (.tuple #[.agg (msgL m.wh m.nm m.kd m.fl m.ck m.of m.ln m.dt m.er), .int .i64 n])

set_option maxRecDepth 100000 in
set_option maxHeartbeats 1000000 in
theorem first_any (sz cl qu mx qn rt bu wk ou ph : Int) (a : Option Addr) (cap : Nat) (used : List Int) (s : ByteArray) (w : World) (hs : s.size ≤ maxLen) (hu : used.length ≤ maxLen) (hc : IntsAt w a used) :
    Calls Tryz.prog 173 #[.agg (cfgL sz cl qu mx qn rt bu wk ou), .int .i64 ph, .slice a used.length cap, .string s] w fun e w' => MsgRet (first sz mx ph used s) e ∧ Below w.heap.size w w' := by
  have hs' := hs
  unfold maxLen at hs'
  have hcl : IntsAt ((w.alloc (.cells (cfgL sz cl qu mx qn rt bu wk ou) 35)).alloc (.cells (msgL 0 ⟨#[]⟩ 0 0 0 0 0 ⟨#[]⟩ 0) 132)) a used :=
    hc.later (((Below.refl _ _).alloc (Nat.le_refl _) _).alloc (by simp) _)
  by_cases h0 : ph = 0
  · subst h0
    go_enter Tryz.func173, Tryz.ntmps173
    go_wp2_with (go_at_call 213; refine (greet_any s _ hs).mono ?_; rintro e w1 ⟨⟨m, n, hmn, rfl⟩, hb⟩; have Hm : Hid ((m, n) = greet s) := hmn; clear hmn; obtain ⟨hc1, hf1⟩ := bcell hb; have hz1 : w.heap.size + 1 < w1.heap.size := by (have := hb.size; simp at this; omega))
    exact bodyPost_ret (v := .tuple #[.agg (msgL m.wh m.nm m.kd m.fl m.ck m.of m.ln m.dt m.er), .int .i64 n]) (by simp [results, Tryz.results173, go_sem, hc1]) rfl ⟨⟨m, n, Hm.out, rfl⟩, below_set9 ((((Below.refl _ _).alloc (Nat.le_refl _) _).alloc (by simp) _).trans (hb.mono (B' := w.heap.size) (by simp; omega))) (by omega) _ _ _ _ _ _ _ _ _⟩
  · by_cases h1 : ph = 1
    · subst h1
      by_cases hz : s.size = 0
      · have hH : Hid (first sz mx 1 used s = (.zero, 0)) := by simp [first, opt, hz, Hid]
        have hz' : s.toList.isEmpty = true := empty_yes s hz
        go_enter Tryz.func173, Tryz.ntmps173
        go_wp2
        exact bodyPost_ret (v := .tuple #[.agg (msgL 0 ⟨#[]⟩ 0 0 0 0 0 ⟨#[]⟩ 0), .int .i64 0]) (by simp [results, Tryz.results173, go_sem]) rfl ⟨⟨.zero, 0, hH.out.symm, rfl⟩, ((Below.refl _ _).alloc (Nat.le_refl _) _).alloc (by simp) _⟩
      · have hz' : s.toList.isEmpty = false := empty_no s hz
        have e0 := bt_eq s 0 (by omega)
        have n0 : 0 < s.size := by omega
        have n0' : (0 : Int) < s.size := by omega
        have n1 : 1 ≤ s.size := by omega
        have r0 := bt_range s 0
        by_cases ha : bt s 0 < 97
        · have hH : Hid (first sz mx 1 used s = (.closing, 1)) := by simp [first, opt, hz, Hid, ha]
          go_enter Tryz.func173, Tryz.ntmps173
          go_wp2
          exact bodyPost_ret (v := .tuple #[.agg (msgL 4 ⟨#[]⟩ 0 0 0 0 0 ⟨#[]⟩ 0), .int .i64 1]) (by simp [results, Tryz.results173, go_sem]) rfl ⟨⟨.closing, 1, hH.out.symm, rfl⟩, ((Below.refl _ _).alloc (Nat.le_refl _) _).alloc (by simp) _⟩
        · by_cases hb : 122 < bt s 0
          · have hH : Hid (first sz mx 1 used s = (.closing, 1)) := by simp [first, opt, hz, Hid, hb]
            go_enter Tryz.func173, Tryz.ntmps173
            go_wp2
            exact bodyPost_ret (v := .tuple #[.agg (msgL 4 ⟨#[]⟩ 0 0 0 0 0 ⟨#[]⟩ 0), .int .i64 1]) (by simp [results, Tryz.results173, go_sem]) rfl ⟨⟨.closing, 1, hH.out.symm, rfl⟩, ((Below.refl _ _).alloc (Nat.le_refl _) _).alloc (by simp) _⟩
          · have hH : Hid (first sz mx 1 used s = (⟨2, s.extract 0 1, 0, 0, 0, 0, 0, ⟨#[]⟩, 0⟩, 1)) := by
              have : ¬ (bt s 0 < 97 ∨ 122 < bt s 0) := by omega
              simp only [first, opt, Hid]
              rw [if_neg (by omega), if_pos trivial, if_neg hz, if_neg this]
            go_enter Tryz.func173, Tryz.ntmps173
            go_wp2
            exact bodyPost_ret (v := .tuple #[.agg (msgL 2 (s.extract 0 1) 0 0 0 0 0 ⟨#[]⟩ 0), .int .i64 1]) (by simp [results, Tryz.results173, go_sem]) rfl ⟨⟨_, 1, hH.out.symm, rfl⟩, ((Below.refl _ _).alloc (Nat.le_refl _) _).alloc (by simp) _⟩
    · by_cases h2 : ph = 2
      · subst h2
        have e2 : first sz mx 2 used s = reqst sz mx used s := by simp [first]
        rw [e2]
        clear e2 h0 h1
        go_enter Tryz.func173, Tryz.ntmps173
        go_wp2_with (go_at_call 214; refine (req_any sz cl qu mx qn rt bu wk ou a cap used s _ hs hu hcl).mono ?_; rintro e w1 ⟨⟨m, n, hmn, rfl⟩, hb⟩; have Hm : Hid ((m, n) = reqst sz mx used s) := hmn; clear hmn; obtain ⟨hc1, hf1⟩ := bcell hb; have hz1 : w.heap.size + 1 < w1.heap.size := by (have := hb.size; simp at this; omega))
        exact bodyPost_ret (v := .tuple #[.agg (msgL m.wh m.nm m.kd m.fl m.ck m.of m.ln m.dt m.er), .int .i64 n]) (by simp [results, Tryz.results173, go_sem, hc1]) rfl ⟨⟨m, n, Hm.out, rfl⟩, below_set9 ((((Below.refl _ _).alloc (Nat.le_refl _) _).alloc (by simp) _).trans (hb.mono (B' := w.heap.size) (by simp; omega))) (by omega) _ _ _ _ _ _ _ _ _⟩
      · have hH : Hid (first sz mx ph used s = (.zero, 0)) := by simp [first, h0, h1, h2, Hid]
        have b0 : (ph == 0) = false := by simpa using h0
        have b1 : (ph == 1) = false := by simpa using h1
        have b2 : (ph == 2) = false := by simpa using h2
        clear h0 h1 h2
        go_enter Tryz.func173, Tryz.ntmps173
        go_wp2
        exact bodyPost_ret (v := .tuple #[.agg (msgL 0 ⟨#[]⟩ 0 0 0 0 0 ⟨#[]⟩ 0), .int .i64 0]) (by simp [results, Tryz.results173, go_sem]) rfl ⟨⟨.zero, 0, hH.out.symm, rfl⟩, ((Below.refl _ _).alloc (Nat.le_refl _) _).alloc (by simp) _⟩
end Go.Proofs.YtpobhljcainmdaaGreat
