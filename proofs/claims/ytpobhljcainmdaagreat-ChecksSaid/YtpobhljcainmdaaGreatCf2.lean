/- Proved here: the document's Config and Check answer alike with the program's Check. -/
import Derived.Test.YtpobhljcainmdaaGreatCfg
import Derived.Deep.DeepCutAuto
import Derived.Deep.Light
namespace Go.Proofs.YtpobhljcainmdaaGreat
open Go.RowKit

def rSz (sz mx : Int) : Bool := seB sz 256 && seB mx 32
def rCt (cl qu wk : Int) : Bool := wiB cl 1 8 && wiB qu 1 8 && wiB wk 1 8
def rRt (qn mx rt bu : Int) : Bool := wiB qn mx 64 && wiB rt 1 16 && wiB bu 1 32
def cfgB (sz cl qu mx qn rt bu wk ou : Int) : Bool := bfB sz mx qn ou && cfB cl qu rt bu wk

theorem bv {a b : Bool} (h : a = b) : Value.bool a = Value.bool b := by rw [h]

theorem cfgB_split (sz cl qu mx qn rt bu wk ou : Int) : cfgB sz cl qu mx qn rt bu wk ou = (rSz sz mx && rCt cl qu wk && rRt qn mx rt bu && wiB ou (mx + 4) 256) := by
  unfold cfgB bfB cfB rSz rCt rRt
  cases seB sz 256 <;> cases seB mx 32 <;> cases wiB qn mx 64 <;> cases wiB ou (mx + 4) 256 <;> cases wiB cl 1 8 <;> cases wiB qu 1 8 <;> cases wiB rt 1 16 <;> cases wiB bu 1 32 <;> cases wiB wk 1 8 <;> rfl

set_option maxRecDepth 100000 in
set_option maxHeartbeats 1000000 in
theorem config_any (sz cl qu mx qn rt bu wk ou : Int) (w : World) :
    Calls Tryz.prog 118 #[cfgV sz cl qu mx qn rt bu wk ou] w fun e w' => e = .returned (.bool (cfgB sz cl qu mx qn rt bu wk ou)) ∧ Below w.heap.size w w' := by
  rw [cfgB_split]
  go_enter Tryz.func118, Tryz.ntmps118
  go_upto_region 1 with fail
  go_cut [3] (fun s w' => s = .bool (rSz sz mx) ∧ w' = w.alloc (.cells #[.int .i64 sz, .int .i64 cl, .int .i64 qu, .int .i64 mx, .int .i64 qn, .int .i64 rt, .int .i64 bu, .int .i64 wk, .int .i64 ou] 35))
  case first =>
    go_wp2
    all_goals
      go_meet
      case rel => go_light; exact ⟨bv (by rw [Bool.eq_iff_iff]; simp [rSz, seB, wiB, *] <;> omega), rfl⟩
  case rest =>
    obtain ⟨rfl, rfl⟩ := hcut
    go_upto_region 2 with fail
    go_cut [4] (fun s w' => s = .bool (rCt cl qu wk) ∧ w' = w.alloc (.cells #[.int .i64 sz, .int .i64 cl, .int .i64 qu, .int .i64 mx, .int .i64 qn, .int .i64 rt, .int .i64 bu, .int .i64 wk, .int .i64 ou] 35))
    case first =>
      go_wp2
      all_goals
        go_meet
        case rel => go_light; exact ⟨bv (by rw [Bool.eq_iff_iff]; simp [rCt, wiB, *] <;> omega), rfl⟩
    case rest =>
      obtain ⟨rfl, rfl⟩ := hcut
      go_upto_region 3 with fail
      go_cut [5] (fun s w' => s = .bool (rRt qn mx rt bu) ∧ w' = w.alloc (.cells #[.int .i64 sz, .int .i64 cl, .int .i64 qu, .int .i64 mx, .int .i64 qn, .int .i64 rt, .int .i64 bu, .int .i64 wk, .int .i64 ou] 35))
      case first =>
        go_wp2
        all_goals
          go_meet
          case rel => go_light; exact ⟨bv (by rw [Bool.eq_iff_iff]; simp [rRt, wiB, *] <;> omega), rfl⟩
      case rest =>
        obtain ⟨rfl, rfl⟩ := hcut
        cases h1 : rSz sz mx with
        | false =>
          go_wp2
          go_ret
          exact ⟨by simp [h1], (Below.refl _ _).alloc (Nat.le_refl _) _⟩
        | true =>
          have hm : 4 ≤ mx ∧ mx ≤ 32 := by simp [rSz, seB, wiB] at h1; exact h1.2.1
          obtain ⟨hm1, hm2⟩ := hm
          cases h2 : rCt cl qu wk with
          | false =>
            go_wp2
            go_ret
            exact ⟨by simp [h2], (Below.refl _ _).alloc (Nat.le_refl _) _⟩
          | true =>
            cases h3 : rRt qn mx rt bu with
            | false =>
              go_wp2
              go_ret
              exact ⟨by simp [h3], (Below.refl _ _).alloc (Nat.le_refl _) _⟩
            | true =>
              go_wp2
              all_goals (go_ret; exact ⟨by simp [h1, h2, h3, wiB] <;> omega, (Below.refl _ _).alloc (Nat.le_refl _) _⟩)

theorem num_any (n : Int) (w : World) : Calls Tryz.prog 80 #[.int .i64 n] w fun e w' => e = .returned (.int .i64 n) ∧ w' = w := by
  go_enter Tryz.func80, Tryz.ntmps80
  go_wp2
  go_ret
  exact ⟨rfl, rfl⟩

/-- What Check answers. -/
def chkN (b : Bool) : Int := if b then 0 else 1

theorem bcell {W w1 : World} (hb : Below W.heap.size W w1) : (∀ b o, b < W.heap.size → w1.cell? ⟨b, o, none⟩ = W.cell? ⟨b, o, none⟩) ∧ (∀ b o, b < W.heap.size → w1.frozen? ⟨b, o, none⟩ = W.frozen? ⟨b, o, none⟩) :=
  ⟨fun b o h => hb.cell (p := ⟨b, o, none⟩) h, fun b o h => hb.frozen (p := ⟨b, o, none⟩) h⟩

set_option maxHeartbeats 400000 in
theorem rcheck_any (sz cl qu mx qn rt bu wk ou : Int) (w : World) :
    Calls Tryz.prog 82 #[cfgV sz cl qu mx qn rt bu wk ou] w fun e w' => e = .returned (.int .i64 (chkN (cfgB sz cl qu mx qn rt bu wk ou))) ∧ Below w.heap.size w w' := by
  cases h : cfgB sz cl qu mx qn rt bu wk ou with
  | false =>
    go_enter Tryz.func82, Tryz.ntmps82
    go_wp2_with (go_at_call 118; refine (config_any sz cl qu mx qn rt bu wk ou _).mono ?_; rw [h]; rintro e w' ⟨rfl, hb⟩)
    go_ret
    exact ⟨rfl, ((Below.refl _ _).alloc (Nat.le_refl _) _).trans (hb.mono (by simp))⟩
  | true =>
    go_enter Tryz.func82, Tryz.ntmps82
    go_wp2_with (go_at_call 118; refine (config_any sz cl qu mx qn rt bu wk ou _).mono ?_; rw [h]; rintro e w' ⟨rfl, hb⟩)
    go_ret
    exact ⟨rfl, ((Below.refl _ _).alloc (Nat.le_refl _) _).trans (hb.mono (by simp))⟩

set_option maxHeartbeats 400000 in
theorem check_any (sz cl qu mx qn rt bu wk ou : Int) (w : World) :
    Calls Tryz.prog 81 #[cfgV sz cl qu mx qn rt bu wk ou] w fun e w' => e = .returned (.int .i64 (chkN (cfgB sz cl qu mx qn rt bu wk ou))) ∧ Below w.heap.size w w' := by
  unfold cfgB
  cases h : bfB sz mx qn ou with
  | false =>
    go_enter Tryz.func81, Tryz.ntmps81
    go_wp2_with (go_at_call 119; refine (bytes_any sz cl qu mx qn rt bu wk ou _).mono ?_; rw [h]; rintro e w' ⟨rfl, hb⟩)
    go_ret
    exact ⟨rfl, ((Below.refl _ _).alloc (Nat.le_refl _) _).trans (hb.mono (by simp))⟩
  | true =>
    cases h2 : cfB cl qu rt bu wk with
    | false =>
      go_enter Tryz.func81, Tryz.ntmps81
      go_wp2_with (first | (go_at_call 119; refine (bytes_any sz cl qu mx qn rt bu wk ou _).mono ?_; rw [h]; rintro e w' ⟨rfl, hb⟩; obtain ⟨hc, hf⟩ := bcell hb) | (go_at_call 120; refine (counts_any sz cl qu mx qn rt bu wk ou _).mono ?_; rw [h2]; rintro e w'' ⟨rfl, hb2⟩))
      go_ret
      exact ⟨rfl, (((Below.refl _ _).alloc (Nat.le_refl _) _).trans (hb.mono (by simp))).trans (hb2.mono (by have := hb.size; simp at this; omega))⟩
    | true =>
      go_enter Tryz.func81, Tryz.ntmps81
      go_wp2_with (first | (go_at_call 119; refine (bytes_any sz cl qu mx qn rt bu wk ou _).mono ?_; rw [h]; rintro e w' ⟨rfl, hb⟩; obtain ⟨hc, hf⟩ := bcell hb) | (go_at_call 120; refine (counts_any sz cl qu mx qn rt bu wk ou _).mono ?_; rw [h2]; rintro e w'' ⟨rfl, hb2⟩))
      go_ret
      exact ⟨rfl, (((Below.refl _ _).alloc (Nat.le_refl _) _).trans (hb.mono (by simp))).trans (hb2.mono (by have := hb.size; simp at this; omega))⟩
end Go.Proofs.YtpobhljcainmdaaGreat
