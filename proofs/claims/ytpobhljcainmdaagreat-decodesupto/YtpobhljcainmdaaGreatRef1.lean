/- Proved here: what the document's own small functions answer (two, has, Verdict, After, Accepted). -/
import Derived.Test.YtpobhljcainmdaaGreatSpec
import Derived.Test.YtpobhljcainmdaaGreatCf2
import Derived.WalkKit
import Derived.WalkSpells
import Derived.WalkLawsBesides
import Derived.Deep.DeepCutAuto
import Derived.Deep.Light
import Derived.Deep.QuietTactic
import Derived.BigQuiet
import Derived.Deep.Draws
namespace Go.Proofs.YtpobhljcainmdaaGreat
open Go.RowKit

theorem alloc_drewN (w : World) (n : Nat) (o : Obj) : (w.drewN n).alloc o = (w.alloc o).drewN n := rfl
theorem setCell_drewN (w : World) (n : Nat) (a : Addr) (v : Value) : (w.drewN n).setCell a v = (w.setCell a v).drewN n := rfl
theorem ret_int {k : IntKind} {a b : Int} (h : a = b) : Ending.returned (.int k a) = .returned (.int k b) := by rw [h]

set_option maxHeartbeats 400000 in
theorem two_any (s : ByteArray) (i : Nat) (w : World) (hs : s.size ≤ maxLen) (hi : i + 1 < s.size) :
    Calls Tryz.prog 246 #[.string s, .int .i64 i] w fun e w' => e = .returned (.int .i64 (two s i)) ∧ ∃ n, w' = w.drewN n := by
  unfold maxLen at hs
  have hi0 : i < s.size := by omega
  have e1 := bt_eq s i hi0
  have e2 := bt_eq s (i + 1) hi
  have r1 := bt_range s i
  have r2 := bt_range s (i + 1)
  go_enter Tryz.func246, Tryz.ntmps246
  go_wp2
  go_quiet (fail)
  go_wp2
  go_ret
  exact ⟨rfl, _, rfl⟩

/-- The cells of a slice of ints. -/
def IntsAt (w : World) (a : Option Addr) (l : List Int) : Prop := l = [] ∨ ∃ b off, a = some ⟨b, off, none⟩ ∧ ∀ i, i < l.length → w.cell? ⟨b, off + i, none⟩ = some (.int .i64 (l.getD i 0))

theorem has_hit (l : List Int) (n : Int) (k : Nat) (hk : k < l.length) (h : l.getD k 0 = n) : decide (n ∈ l) = true := by
  simp only [decide_eq_true_eq]
  rw [← h]
  simp [List.getD, hk]
theorem has_none (l : List Int) (n : Int) (h : ∀ j, j < l.length → l.getD j 0 ≠ n) : decide (n ∈ l) = false := by
  simp only [decide_eq_false_iff_not]
  intro hm
  obtain ⟨j, hj, e⟩ := List.getElem_of_mem hm
  exact h j hj (by simp [List.getD, hj, e])

set_option maxHeartbeats 400000 in
theorem has_any (a : Option Addr) (cap : Nat) (l : List Int) (n : Int) (w : World) (hl : l.length ≤ maxLen) (hc : IntsAt w a l) :
    Calls Tryz.prog 247 #[.slice a l.length cap, .int .i64 n] w fun e w' => e = .returned (.bool (decide (n ∈ l))) ∧ w' = w := by
  unfold maxLen at hl
  rcases hc with rfl | ⟨b, off, rfl, hc⟩
  · go_enter Tryz.func247, Tryz.ntmps247
    go_wp2
    refine wp_loop_rounds 1 ?_
    rw [rounds_succ]
    go_wp2
    go_ret
    exact ⟨by simp, rfl⟩
  · have HC : Hid (∀ i, i < l.length → w.cell? ⟨b, off + i, none⟩ = some (.int .i64 (l.getD i 0))) := hc
    clear hc
    generalize hL : l.length = L at *
    have HL : Hid (l.length = L) := hL
    clear hL
    go_enter Tryz.func247, Tryz.ntmps247
    go_wp2
    go_loop [5] (fun i => ∃ k : Nat, k ≤ L ∧ i = .int .i64 k ∧ Hid (∀ j, j < k → l.getD j 0 ≠ n)) (fun i => L - (intOf i).toNat)
    case atStart => exact ⟨0, Nat.zero_le _, rfl, fun j hj => absurd hj (Nat.not_lt_zero _)⟩
    case round =>
      obtain ⟨k, hk, rfl, hp⟩ := hrel
      by_cases hlt : k < L
      · have hcell := HC.out k hlt
        have hcell' : w.cell? ⟨b, off + k, none⟩ = some (.int .i64 (l.getD k 0)) := hcell
        clear hcell
        generalize hx : l.getD k 0 = x at hcell'
        have HX : Hid (l.getD k 0 = x) := hx
        clear hx
        by_cases hq : x = n
        · subst hq
          have hH : Hid (decide (x ∈ l) = true) := has_hit l x k (by rw [HL.out]; exact hlt) HX.out
          go_wp2
          go_ret
          exact ⟨by rw [hH.out]; rfl, rfl⟩
        · have hH : Hid (∀ j, j < k + 1 → l.getD j 0 ≠ n) := fun j hj => by
            by_cases e : j = k
            · rw [e, HX.out]; exact hq
            · exact hp.out j (by omega)
          have hb : (x == n) = false := by simpa using hq
          clear hq
          go_wp2
          go_round
          case rel => exact ⟨k + 1, by omega, by go_num, hH⟩
          case measure => simp [intOf]; omega
      · have hH : Hid (decide (n ∈ l) = false) := has_none l n (fun j hj => hp.out j (by have := HL.out; omega))
        go_wp2
        go_ret
        exact ⟨by rw [hH.out]; rfl, rfl⟩

/-- The nine cells of a configuration, and of a message. -/
abbrev cfgL (sz cl qu mx qn rt bu wk ou : Int) : Array Value := #[.int .i64 sz, .int .i64 cl, .int .i64 qu, .int .i64 mx, .int .i64 qn, .int .i64 rt, .int .i64 bu, .int .i64 wk, .int .i64 ou]
abbrev msgL (wh : Int) (nm : ByteArray) (kd fl ck of ln : Int) (dt : ByteArray) (er : Int) : Array Value := #[.int .i64 wh, .string nm, .int .i64 kd, .int .i64 fl, .int .i64 ck, .int .i64 of, .int .i64 ln, .string dt, .int .i64 er]

set_option maxRecDepth 100000 in
set_option maxHeartbeats 1000000 in
theorem accepted_any (m : Msg) (w : World) :
    Calls Tryz.prog 175 #[.agg (msgL m.wh m.nm m.kd m.fl m.ck m.of m.ln m.dt m.er)] w fun e w' => e = .returned (.bool (accepted m)) ∧ Below w.heap.size w w' := by
  obtain ⟨wh, nm, kd, fl, ck, of, ln, dt, er⟩ := m
  go_enter Tryz.func175, Tryz.ntmps175
  go_wp2
  all_goals (go_ret; exact ⟨by simp [accepted, *, bne] <;> rfl, (Below.refl _ _).alloc (Nat.le_refl _) _⟩)

set_option maxRecDepth 100000 in
set_option maxHeartbeats 1000000 in
theorem after_any (ph : Int) (m : Msg) (w : World) :
    Calls Tryz.prog 174 #[.int .i64 ph, .agg (msgL m.wh m.nm m.kd m.fl m.ck m.of m.ln m.dt m.er)] w fun e w' => e = .returned (.int .i64 (after ph m)) ∧ Below w.heap.size w w' := by
  obtain ⟨wh, nm, kd, fl, ck, of, ln, dt, er⟩ := m
  go_enter Tryz.func174, Tryz.ntmps174
  go_wp2
  all_goals (go_ret; refine ⟨ret_int ?_, (Below.refl _ _).alloc (Nat.le_refl _) _⟩; go_light; simp_all [after])

end Go.Proofs.YtpobhljcainmdaaGreat
