/- Proved here: a script that can be read as data lies in memory as steps of fifteen cells each. -/
import Derived.Test.YtpobhljcainmdaaGreatPlays
import Derived.ProofKit
import Derived.OpenShut
import Derived.Deep.Slices
namespace Go.Proofs.YtpobhljcainmdaaGreat
open Go.ChangeShapes Go.WideShapes Go.ChangeAt Go.RowKit Go.Deep

theorem fifteen {α : Type} (l : List α) (h : l.length = 15) : ∃ c0 c1 c2 c3 c4 c5 c6 c7 c8 c9 c10 c11 c12 c13 c14, l = [c0, c1, c2, c3, c4, c5, c6, c7, c8, c9, c10, c11, c12, c13, c14] := by
  match l, h with
  | [c0, c1, c2, c3, c4, c5, c6, c7, c8, c9, c10, c11, c12, c13, c14], _ => exact ⟨c0, c1, c2, c3, c4, c5, c6, c7, c8, c9, c10, c11, c12, c13, c14, rfl⟩

theorem Tryz.cells90 : Tryz.prog.cellsOf 90 = 15 := by kernel_rfl
theorem Tryz.cells35 : Tryz.prog.cellsOf 35 = 9 := by kernel_rfl
theorem Tryz.cells3 : Tryz.prog.cellsOf 3 = 1 := by kernel_rfl
theorem Tryz.cells4 : Tryz.prog.cellsOf 4 = 1 := by kernel_rfl
theorem Tryz.cells9 : Tryz.prog.cellsOf 9 = 1 := by kernel_rfl

def OpR.list (r : OpR) : List Value := [.int .i64 r.kd, .int .i64 r.at', .int .i64 r.sz, .int .i64 r.cl, .int .i64 r.qu, .int .i64 r.mx, .int .i64 r.qn, .int .i64 r.rt, .int .i64 r.bu, .int .i64 r.wk, .int .i64 r.ou, .string r.s, .int .i64 r.x, .int .i64 r.y, .bool r.on]

theorem some_at {α : Type} {l : List α} {n i : Nat} (h : l.length = n) (hi : i < n) : ∃ y, l[i]? = some y := ⟨l[i]'(by omega), by simp⟩

section
variable {H : Type} {enc : TypeId × Value → H} {w : World} {base : Nat} {spare : Nat → Bool} {held : Bool}

theorem one_int {n : Nat} {c : Value} {y : Option (DataW H × List MemPlace)} (hy : ∃ z, y = some z) (h : DataW.trod enc Tryz.prog w base spare held n 3 [c] = y) : ∃ k, c = .int .i64 k := by
  obtain ⟨z, rfl⟩ := hy
  obtain ⟨k, e, _⟩ := DataW.trod_int Tryz.underlying3 h
  exact ⟨k, by simpa using e⟩

theorem op_of_trod {fuel : Nat} {cs : List Value} {x : DataW H × List MemPlace} (h : DataW.trod enc Tryz.prog w base spare held fuel 90 cs = some x) : ∃ r : OpR, cs = r.list ∧ r.s.size ≤ maxLen := by
  obtain ⟨xs, n, _, _, hl, hxl, hf⟩ := DataW.trod_struct Tryz.underlying90 h
  rw [Tryz.cells90] at hl
  have hxl' : xs.length = 7 := hxl
  obtain ⟨c0, c1, c2, c3, c4, c5, c6, c7, c8, c9, c10, c11, c12, c13, c14, rfl⟩ := fifteen cs hl
  have f0 : DataW.trod enc Tryz.prog w base spare held n 3 (([c0, c1, c2, c3, c4, c5, c6, c7, c8, c9, c10, c11, c12, c13, c14].drop 0).take (Tryz.prog.cellsOf 3)) = xs[0]? := hf 0 _ rfl
  have f1 : DataW.trod enc Tryz.prog w base spare held n 3 (([c0, c1, c2, c3, c4, c5, c6, c7, c8, c9, c10, c11, c12, c13, c14].drop 1).take (Tryz.prog.cellsOf 3)) = xs[1]? := hf 1 _ rfl
  have f2 : DataW.trod enc Tryz.prog w base spare held n 35 (([c0, c1, c2, c3, c4, c5, c6, c7, c8, c9, c10, c11, c12, c13, c14].drop 2).take (Tryz.prog.cellsOf 35)) = xs[2]? := hf 2 _ rfl
  have f3 : DataW.trod enc Tryz.prog w base spare held n 9 (([c0, c1, c2, c3, c4, c5, c6, c7, c8, c9, c10, c11, c12, c13, c14].drop 11).take (Tryz.prog.cellsOf 9)) = xs[3]? := hf 3 _ rfl
  have f4 : DataW.trod enc Tryz.prog w base spare held n 3 (([c0, c1, c2, c3, c4, c5, c6, c7, c8, c9, c10, c11, c12, c13, c14].drop 12).take (Tryz.prog.cellsOf 3)) = xs[4]? := hf 4 _ rfl
  have f5 : DataW.trod enc Tryz.prog w base spare held n 3 (([c0, c1, c2, c3, c4, c5, c6, c7, c8, c9, c10, c11, c12, c13, c14].drop 13).take (Tryz.prog.cellsOf 3)) = xs[5]? := hf 5 _ rfl
  have f6 : DataW.trod enc Tryz.prog w base spare held n 4 (([c0, c1, c2, c3, c4, c5, c6, c7, c8, c9, c10, c11, c12, c13, c14].drop 14).take (Tryz.prog.cellsOf 4)) = xs[6]? := hf 6 _ rfl
  simp only [Tryz.cells3, Tryz.cells4, Tryz.cells9, Tryz.cells35, List.drop_succ_cons, List.drop_zero, List.take_succ_cons, List.take_zero] at f0 f1 f2 f3 f4 f5 f6
  obtain ⟨kd, rfl⟩ := one_int (some_at hxl' (by omega)) f0
  obtain ⟨at', rfl⟩ := one_int (some_at hxl' (by omega)) f1
  obtain ⟨vx, rfl⟩ := one_int (some_at hxl' (by omega)) f4
  obtain ⟨vy, rfl⟩ := one_int (some_at hxl' (by omega)) f5
  obtain ⟨y3, e3⟩ := some_at hxl' (show 3 < 7 by omega)
  rw [e3] at f3
  obtain ⟨s, es, _, hs⟩ := DataW.trod_string Tryz.underlying9 f3
  obtain ⟨y6, e6⟩ := some_at hxl' (show 6 < 7 by omega)
  rw [e6] at f6
  obtain ⟨on, eon, _⟩ := DataW.trod_bool Tryz.underlying4 f6
  obtain ⟨y2, e2⟩ := some_at hxl' (show 2 < 7 by omega)
  rw [e2] at f2
  obtain ⟨ys, m, _, _, _, hyl, hg⟩ := DataW.trod_struct Tryz.underlying35 f2
  have hyl' : ys.length = 9 := hyl
  have g0 : DataW.trod enc Tryz.prog w base spare held m 3 (([c2, c3, c4, c5, c6, c7, c8, c9, c10].drop 0).take (Tryz.prog.cellsOf 3)) = ys[0]? := hg 0 _ rfl
  have g1 : DataW.trod enc Tryz.prog w base spare held m 3 (([c2, c3, c4, c5, c6, c7, c8, c9, c10].drop 1).take (Tryz.prog.cellsOf 3)) = ys[1]? := hg 1 _ rfl
  have g2 : DataW.trod enc Tryz.prog w base spare held m 3 (([c2, c3, c4, c5, c6, c7, c8, c9, c10].drop 2).take (Tryz.prog.cellsOf 3)) = ys[2]? := hg 2 _ rfl
  have g3 : DataW.trod enc Tryz.prog w base spare held m 3 (([c2, c3, c4, c5, c6, c7, c8, c9, c10].drop 3).take (Tryz.prog.cellsOf 3)) = ys[3]? := hg 3 _ rfl
  have g4 : DataW.trod enc Tryz.prog w base spare held m 3 (([c2, c3, c4, c5, c6, c7, c8, c9, c10].drop 4).take (Tryz.prog.cellsOf 3)) = ys[4]? := hg 4 _ rfl
  have g5 : DataW.trod enc Tryz.prog w base spare held m 3 (([c2, c3, c4, c5, c6, c7, c8, c9, c10].drop 5).take (Tryz.prog.cellsOf 3)) = ys[5]? := hg 5 _ rfl
  have g6 : DataW.trod enc Tryz.prog w base spare held m 3 (([c2, c3, c4, c5, c6, c7, c8, c9, c10].drop 6).take (Tryz.prog.cellsOf 3)) = ys[6]? := hg 6 _ rfl
  have g7 : DataW.trod enc Tryz.prog w base spare held m 3 (([c2, c3, c4, c5, c6, c7, c8, c9, c10].drop 7).take (Tryz.prog.cellsOf 3)) = ys[7]? := hg 7 _ rfl
  have g8 : DataW.trod enc Tryz.prog w base spare held m 3 (([c2, c3, c4, c5, c6, c7, c8, c9, c10].drop 8).take (Tryz.prog.cellsOf 3)) = ys[8]? := hg 8 _ rfl
  simp only [Tryz.cells3, List.drop_succ_cons, List.drop_zero, List.take_succ_cons, List.take_zero] at g0 g1 g2 g3 g4 g5 g6 g7 g8
  obtain ⟨sz, rfl⟩ := one_int (some_at hyl' (by omega)) g0
  obtain ⟨cl, rfl⟩ := one_int (some_at hyl' (by omega)) g1
  obtain ⟨qu, rfl⟩ := one_int (some_at hyl' (by omega)) g2
  obtain ⟨mx, rfl⟩ := one_int (some_at hyl' (by omega)) g3
  obtain ⟨qn, rfl⟩ := one_int (some_at hyl' (by omega)) g4
  obtain ⟨rt, rfl⟩ := one_int (some_at hyl' (by omega)) g5
  obtain ⟨bu, rfl⟩ := one_int (some_at hyl' (by omega)) g6
  obtain ⟨wk, rfl⟩ := one_int (some_at hyl' (by omega)) g7
  obtain ⟨ou, rfl⟩ := one_int (some_at hyl' (by omega)) g8
  simp only [List.cons.injEq, and_true] at es eon
  subst es eon
  exact ⟨⟨kd, at', sz, cl, qu, mx, qn, rt, bu, wk, ou, s, vx, vy, on⟩, rfl, hs⟩

/-- WHAT THE WALK IS TOLD OF A SCRIPT THAT CAME IN: it has no step; or its steps lie one behind the other. -/
def Script (w : World) (a : Option Addr) (len : Nat) : Prop :=
  len = 0 ∨ ∃ b off, a = some ⟨b, off, none⟩ ∧ b < w.heap.size ∧ ∃ f : Nat → OpR, ∀ i, i < len → OpAt w b (off + i * 15) (f i)

theorem lt_of_cell {w : World} {b o : Nat} {v : Value} (h : w.cell? ⟨b, o, none⟩ = some v) : b < w.heap.size := by
  by_cases hb : b < w.heap.size
  · exact hb
  · simp [World.cell?, Array.getElem?_eq_none (Nat.le_of_not_lt hb)] at h

theorem script_of {fuel : Nat} {a : Option Addr} {len cap : Nat} {x : DataW H × List MemPlace} (h : DataW.trod enc Tryz.prog w base spare held fuel 22 [.slice a len cap] = some x) : len ≤ maxLen ∧ Script w a len := by
  rcases open_slice Tryz.underlying22 h with ⟨hcs, _⟩ | ⟨a', len', cap', m, n, D, Pl, hcs, _, hl, hm, hmm, _, hx⟩
  · simp at hcs
    obtain ⟨rfl, rfl, rfl⟩ := hcs
    exact ⟨by unfold maxLen; omega, .inl rfl⟩
  · simp at hcs
    obtain ⟨rfl, rfl, rfl⟩ := hcs
    refine ⟨by omega, ?_⟩
    by_cases h0 : len = 0
    · exact .inl h0
    right
    have hmle : len ≤ m := by rw [hmm]; split <;> omega
    rw [Tryz.cells90] at hx
    have hop : ∀ i, i < len → ∃ r : OpR, (∀ j, j < 15 → w.cell? ((a'.add (i * 15)).add j) = r.list[j]?) ∧ r.s.size ≤ maxLen := fun i hi => by
      obtain ⟨cs', h1, h2⟩ := hx i (by omega)
      obtain ⟨r, rfl, hs⟩ := op_of_trod h2
      exact ⟨r, (World.cells?_some h1).2.2, hs⟩
    obtain ⟨b, off, spot⟩ := a'
    have hspot : spot = none := by
      obtain ⟨r, hr, _⟩ := hop 0 (by omega)
      have := hr 0 (by omega)
      simp only [Nat.zero_mul, Addr.add, if_true, OpR.list, List.getElem?_cons_zero] at this
      simpa using World.cell?_spot this
    subst hspot
    have hop' : ∀ i, i < len → ∃ r : OpR, OpAt w b (off + i * 15) r := fun i hi => by
      obtain ⟨r, hr, hs⟩ := hop i hi
      simp only [add_plain] at hr
      refine ⟨r, ?_⟩
      have t : ∀ j, j < 15 → w.cell? ⟨b, off + i * 15 + j, none⟩ = r.list[j]? := hr
      exact ⟨t 0 (by omega), t 1 (by omega), t 2 (by omega), t 3 (by omega), t 4 (by omega), t 5 (by omega), t 6 (by omega), t 7 (by omega), t 8 (by omega), t 9 (by omega), t 10 (by omega), t 11 (by omega), t 12 (by omega), t 13 (by omega), t 14 (by omega), hs⟩
    have hblk : b < w.heap.size := by
      obtain ⟨r, hr⟩ := hop' 0 (by omega)
      exact lt_of_cell hr.1
    have hne : Nonempty OpR := let ⟨r, _⟩ := hop' 0 (by omega); ⟨r⟩
    refine ⟨b, off, rfl, hblk, ?_⟩
    classical
    refine ⟨fun i => if hi : i < len then Classical.choose (hop' i hi) else Classical.choice hne, fun i hi => ?_⟩
    simp only [dif_pos hi]
    exact Classical.choose_spec (hop' i hi)
end
end Go.Proofs.YtpobhljcainmdaaGreat
