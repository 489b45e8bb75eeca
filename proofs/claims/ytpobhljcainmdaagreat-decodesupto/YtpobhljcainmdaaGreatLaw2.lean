/- Proved here: a list that came out is written full with its owner's mark, and grows. -/
import Derived.Test.YtpobhljcainmdaaGreatLaw1
import Derived.Deep.CutBlock
namespace Go.Proofs.YtpobhljcainmdaaGreat
open Go.RowKit
set_option linter.unusedSimpArgs false
attribute [local go_sem ↓] Go.wp_at_zero Go.wp_at_succ
attribute [local go_sem] alloc_drewN setCell_drewN

theorem heap_set {W : World} {g T o : Nat} {cur : Array Value} {fr : Nat × Nat} (hg : W.heap[g]? = some (.cells cur T fr)) (v : Value) : (W.setCell ⟨g, o, none⟩ v).heap[g]? = some (.cells (cur.setIfInBounds o v) T fr) := by
  simp [World.setCell, Array.getElem?_modify, hg]

theorem grown_set (W : World) (g o : Nat) (v : Value) : W.grownBy (W.setCell ⟨g, o, none⟩ v) (some g) :=
  ⟨rfl, rfl, rfl, by simp [World.setCell], fun k _ hne => Below.heap_setCell W ⟨g, o, none⟩ v k (fun e => hne (by rw [e]))⟩

theorem take_set_succ {α : Type} (l : List α) (p : Nat) (v : α) (h : p < l.length) : (l.set p v).take (p + 1) = l.take p ++ [v] := by
  rw [List.take_succ_eq_append_getElem (by simpa using h)]
  simp [List.take_set]
  exact List.set_eq_of_length_le (by simp; omega)

theorem row_set {cur : Array Value} {p : Nat} {xs : List Value} (v : Value) (h : cur.toList.take p = xs) (hp : p < cur.size) : (cur.setIfInBounds p v).toList.take (p + 1) = xs ++ [v] := by
  rw [Array.toList_setIfInBounds, take_set_succ _ _ _ (by simpa using hp), h]

/-- One element of nine cells is stored behind those that are there. -/
theorem row_set9 {W : World} {g T p : Nat} {cur : Array Value} {fr : Nat × Nat} {xs : List Value} (hg : W.heap[g]? = some (.cells cur T fr)) (h : cur.toList.take p = xs) (hp : p + 9 ≤ cur.size) (v0 v1 v2 v3 v4 v5 v6 v7 v8 : Value) :
    W.grownBy (((((((((W.setCell ⟨g, p, none⟩ v0).setCell ⟨g, p + 1, none⟩ v1).setCell ⟨g, p + 2, none⟩ v2).setCell ⟨g, p + 3, none⟩ v3).setCell ⟨g, p + 4, none⟩ v4).setCell ⟨g, p + 5, none⟩ v5).setCell ⟨g, p + 6, none⟩ v6).setCell ⟨g, p + 7, none⟩ v7).setCell ⟨g, p + 8, none⟩ v8) (some g) ∧
    ∃ cur', (((((((((W.setCell ⟨g, p, none⟩ v0).setCell ⟨g, p + 1, none⟩ v1).setCell ⟨g, p + 2, none⟩ v2).setCell ⟨g, p + 3, none⟩ v3).setCell ⟨g, p + 4, none⟩ v4).setCell ⟨g, p + 5, none⟩ v5).setCell ⟨g, p + 6, none⟩ v6).setCell ⟨g, p + 7, none⟩ v7).setCell ⟨g, p + 8, none⟩ v8).heap[g]? = some (.cells cur' T fr) ∧ cur'.size = cur.size ∧ cur'.toList.take (p + 9) = xs ++ [v0, v1, v2, v3, v4, v5, v6, v7, v8] := by
  have tr : ∀ {a b c : World}, a.grownBy b (some g) → b.grownBy c (some g) → a.grownBy c (some g) := fun h k =>
    ⟨k.os.trans h.os, k.tape.trans h.tape, k.output.trans h.output, Nat.le_trans h.size k.size, fun i hi hne => (k.block i (Nat.lt_of_lt_of_le hi h.size) hne).trans (h.block i hi hne)⟩
  refine ⟨tr (tr (tr (tr (tr (tr (tr (tr (grown_set _ _ _ _) (grown_set _ _ _ _)) (grown_set _ _ _ _)) (grown_set _ _ _ _)) (grown_set _ _ _ _)) (grown_set _ _ _ _)) (grown_set _ _ _ _)) (grown_set _ _ _ _)) (grown_set _ _ _ _), ?_⟩
  have q0 := row_set v0 h (by omega)
  have q1 := row_set v1 q0 (by simp; omega)
  have q2 := row_set v2 q1 (by simp; omega)
  have q3 := row_set v3 q2 (by simp; omega)
  have q4 := row_set v4 q3 (by simp; omega)
  have q5 := row_set v5 q4 (by simp; omega)
  have q6 := row_set v6 q5 (by simp; omega)
  have q7 := row_set v7 q6 (by simp; omega)
  have q8 := row_set v8 q7 (by simp; omega)
  exact ⟨_, heap_set (heap_set (heap_set (heap_set (heap_set (heap_set (heap_set (heap_set (heap_set hg v0) v1) v2) v3) v4) v5) v6) v7) v8, by simp, by rw [q8]; simp⟩

/-- The mark of an owner. -/
def markM (k : Int) : Msg := ⟨k, ⟨#[]⟩, 0, 0, 0, 0, 0, ⟨#[]⟩, 0⟩
/-- The cells of so many marks. -/
def marks (k : Int) (n : Nat) : List Value := (List.replicate n (markM k)).flatMap Msg.cells
theorem marks_succ (k : Int) (n : Nat) : marks k (n + 1) = marks k n ++ (markM k).cells := by
  unfold marks
  rw [List.replicate_succ']
  simp
theorem marks_length (k : Int) (n : Nat) : (marks k n).length = n * 9 := by
  induction n with
  | zero => rfl
  | succ n ih => rw [marks_succ, List.length_append, ih]; simp [Msg.cells]; omega
theorem marks_add (k : Int) (n m : Nat) : marks k (n + m) = marks k n ++ marks k m := by
  induction m with
  | zero => simp [marks]
  | succ m ih => rw [← Nat.add_assoc, marks_succ, ih, marks_succ, List.append_assoc]


/-- A list that is full of its owner's marks. -/
abbrev MRow (B : Nat) (K : Int) (w : World) (u : Value) (n : Nat) : Prop := w.ownsRow B 132 9 u n (marks K n)
/-- Where a list lies that was grown out of v: elsewhere, or in the same array. -/
def Rel (v : Value) (n : Nat) (u : Value) (nu : Nat) : Prop := u.ownBlock = none ∨ u.ownBlock ≠ v.ownBlock ∨ ∃ g cap, v = .slice (some ⟨g, 0, none⟩) n cap ∧ u = .slice (some ⟨g, 0, none⟩) nu cap

theorem marks_take (K : Int) (n m : Nat) (h : n ≤ m) : (marks K m).take (n * 9) = marks K n := by
  obtain ⟨d, rfl⟩ := Nat.exists_eq_add_of_le h
  rw [marks_add, ← marks_length K n, List.take_left]

theorem marks_one (K : Int) (n : Nat) : ∀ u ∈ marks K n, u.oneCell' = true := by
  intro u hu
  unfold marks at hu
  rw [List.mem_flatMap] at hu
  obtain ⟨m, _, hm⟩ := hu
  exact cells_one m u hm

theorem wpList_append_marks {P : Program} (w : World) {ops : Array Oper} {rest : List Oper} {o : Oper} {a : Act} {Q : Exit → Act → World → Prop} (hgd : o.guard = none) (s x : Operand) (t : TypeId)
    (ho : o.op = .call { callee := .builtin .append, args := #[s, x], argTypes := #[t, t] })
    (base : Nat) (i : TypeInfo) (z : Value) (ht : P.underlying t = some (.slice 132)) (hi : P.info? 132 = some i) (hz : i.zero = some z)
    (hsize : i.size = 9) (hby : i.bytes = 88) (hzs : z.cells.size = 9)
    (K : Int) (v : Value) (n : Nat) (hs : a.eval s = v) (hown : MRow base K w v n)
    (ad : Addr) (m c : Nat) (hx : a.eval x = .slice (some ad) m c) (hnews : ∀ j u, (marks K m)[j]? = some u → w.cell? (ad.add j) = some u)
    (hm : 0 < m) (h63 : n + m ≤ maxLen) (hbytes : (n + m) * 88 ≤ 140737488355328) (hbase : base ≤ w.heap.size)
    (h : ∀ g cap w', MRow base K w' (.slice (some ⟨g, 0, none⟩) (n + m) cap) (n + m) → Rel v n (.slice (some ⟨g, 0, none⟩) (n + m) cap) (n + m) → w.grownBy w' v.ownBlock → (∀ u nu, nu ≤ n + m → MRow base K w u nu → Rel v n u nu → MRow base K w' u nu) → wpList P ops Q rest (a.put o.dst (.slice (some ⟨g, 0, none⟩) (n + m) cap)) w') : wpList P ops Q (o :: rest) a w := by
  have hown' := hown
  rcases hown.2 with ⟨hv, h0⟩ | ⟨g, cap, cur, hv, hb, hh, hn, hc, hcs, htk⟩
  · subst hv
    subst h0
    refine wpList_append_grows w hgd s x t ho 132 i z 9 88 ht hi hz hsize hby hzs (by omega) none 0 0 (marks K 0) hs (fun _ => ⟨rfl, rfl⟩) hown.1 (fun b hb => by cases hb) ad m c (marks K m) hx (marks_length K m) hnews (marks_one K m) (by omega) h63 hbytes ?_
    intro v' w' hr hg
    obtain ⟨g, cap, hv', _, _⟩ := hr.form (by omega)
    subst hv'
    rw [← marks_add] at hr
    exact h g cap w' (row_base hr hbase) (.inr (.inl (by simp [Value.ownBlock]))) hg (fun u nu _ hu _ => hu.kept hg (by cases hu' : u.ownBlock <;> simp))
  · subst hv
    by_cases hfit : n + m ≤ cap
    · refine wpList_append_fits w hgd s x t ho base 132 i 9 ht hi hsize g n cap (marks K n) hs hown' ad m c (marks K m) hx (marks_length K m) hnews (marks_one K m) hfit ?_
      intro w' hr hg
      rw [← marks_add] at hr
      refine h g cap w' hr (.inr (.inr ⟨g, cap, rfl, rfl⟩)) hg (fun u nu hnu hu hrel => ?_)
      rcases hrel with h1 | h1 | ⟨g2, cap2, e1, e2⟩
      · exact hu.kept hg (.inl h1)
      · exact hu.kept hg (.inr h1)
      · cases e1
        subst e2
        refine ⟨hu.1, ?_⟩
        rcases hr.2 with ⟨hx, _⟩ | ⟨g', cap', cur', hv', hb', hh', hn', hc', hs', ht'⟩
        · cases hx
        · cases hv'
          refine .inr ⟨g, cap, cur', rfl, hb', hh', by omega, hc', hs', ?_⟩
          have : (cur'.toList.take ((n + m) * 9)).take (nu * 9) = (marks K (n + m)).take (nu * 9) := by rw [ht']
          rw [List.take_take, Nat.min_eq_left (by omega), marks_take K nu (n + m) hnu] at this
          exact this
    · refine wpList_append_grows w hgd s x t ho 132 i z 9 88 ht hi hz hsize hby hzs (by omega) (some ⟨g, 0, none⟩) n cap (marks K n) hs (fun h => by cases h) hown'.1 (fun b hb => by cases hb; exact hown'.cells rfl) ad m c (marks K m) hx (marks_length K m) hnews (marks_one K m) (by omega) h63 hbytes ?_
      intro v' w' hr hg
      have hrb := hr
      obtain ⟨g2, cap2, hv', hge, _⟩ := hr.form (by omega)
      subst hv'
      rw [← marks_add] at hr
      have hlt := (row_lt hown' g rfl).1
      exact h g2 cap2 w' (row_base hr hbase) (.inr (.inl (by simp [Value.ownBlock]; omega))) ⟨hg.os, hg.tape, hg.output, hg.size, fun k hk _ => hg.block k hk (by simp)⟩ (fun u nu _ hu _ => hu.kept hg (by cases hu' : u.ownBlock <;> simp))

/-- The cells of the law's own World, in its block. -/
abbrev worldL (vms vmm : Value) (k : Int) : Array Value := #[.slice none 0 0, vms, vmm, .slice none 0 0, .slice none 0 0, .int .i64 k]

theorem cellsW {W : World} {b : Nat} {vms vmm : Value} {k : Int} (h : W.heap[b]? = some (.cells (worldL vms vmm k) 87 (0, 0))) :
    W.cell? ⟨b, 0, none⟩ = some (.slice none 0 0) ∧ W.cell? ⟨b, 1, none⟩ = some vms ∧ W.cell? ⟨b, 2, none⟩ = some vmm ∧ W.cell? ⟨b, 3, none⟩ = some (.slice none 0 0) ∧ W.cell? ⟨b, 4, none⟩ = some (.slice none 0 0) ∧ W.cell? ⟨b, 5, none⟩ = some (.int .i64 k) ∧ ∀ o, W.frozen? ⟨b, o, none⟩ = false := by
  refine ⟨(cell_of_row W b 0 _ _ _ h).trans rfl, (cell_of_row W b 1 _ _ _ h).trans rfl, (cell_of_row W b 2 _ _ _ h).trans rfl, (cell_of_row W b 3 _ _ _ h).trans rfl, (cell_of_row W b 4 _ _ _ h).trans rfl, (cell_of_row W b 5 _ _ _ h).trans rfl, fun o => ?_⟩
  simp [World.frozen?, h]

theorem frozenRow {W : World} {g T o : Nat} {cur : Array Value} (h : W.heap[g]? = some (.cells cur T (0, 0))) : W.frozen? ⟨g, o, none⟩ = false := by simp [World.frozen?, h]

end Go.Proofs.YtpobhljcainmdaaGreat
