/- Proved here: a reader is made; its iterator is made; what the iterator's memory holds. -/
import Derived.Test.YtpobhljcainmdaaGreatWire8
import Derived.Test.YtpobhljcainmdaaGreatIter
namespace Go.Proofs.YtpobhljcainmdaaGreat
open Go.RowKit
set_option linter.unusedSimpArgs false
attribute [local go_sem ↓] Go.wp_at_zero Go.wp_at_succ
attribute [local go_sem] alloc_drewN setCell_drewN

set_option maxRecDepth 100000 in
set_option maxHeartbeats 1000000 in
theorem newReader_any (sz cl qu mx qn rt bu wk ou ph : Int) (w : World) :
    Calls Tryz.prog 115 #[.agg (cfgL sz cl qu mx qn rt bu wk ou), .int .i64 ph] w fun e w' => e = .returned (.pointer (some ⟨w.heap.size + 2, 0, none⟩)) ∧
      w' = ((w.alloc (.cells (cfgL sz cl qu mx qn rt bu wk ou) 35)).alloc (.map #[] 0)).alloc (.cells #[.int .i64 sz, .int .i64 mx, .int .i64 ph, .map (some (w.heap.size + 1))] 228) := by
  have hmm := @run_makeMap Tryz.prog
  go_enter Tryz.func115, Tryz.ntmps115
  go_wp2
  go_ret
  exact ⟨rfl, rfl⟩

theorem rd_new (sz cl qu mx qn rt bu wk ou ph : Int) (w : World) :
    RdAt (((w.alloc (.cells (cfgL sz cl qu mx qn rt bu wk ou) 35)).alloc (.map #[] 0)).alloc (.cells #[.int .i64 sz, .int .i64 mx, .int .i64 ph, .map (some (w.heap.size + 1))] 228)) (w.heap.size + 2) (w.heap.size + 1) sz mx ph [] := by
  refine ⟨?_, ?_⟩
  · have := heap_alloc_new ((w.alloc (.cells (cfgL sz cl qu mx qn rt bu wk ou) 35)).alloc (.map #[] 0)) (.cells #[.int .i64 sz, .int .i64 mx, .int .i64 ph, .map (some (w.heap.size + 1))] 228)
    rw [World.size_alloc, World.size_alloc] at this
    exact this
  · have := World.ownsMap_made (H := Unit) (w.alloc (.cells (cfgL sz cl qu mx qn rt bu wk ou) 35)) Tryz.prog 3 unitElem
    rw [World.size_alloc] at this
    exact this.alloc _

set_option maxRecDepth 100000 in
set_option maxHeartbeats 1000000 in
theorem messages_any (rb : Nat) (s : ByteArray) (w : World) :
    Calls Tryz.prog 152 #[.pointer (some ⟨rb, 0, none⟩), .string s] w fun e w' => e = .returned (.func (.func 189) #[] #[.pointer (some ⟨w.heap.size, 0, none⟩), .pointer (some ⟨w.heap.size + 1, 0, none⟩)]) ∧
      w' = (w.alloc (.cells #[.pointer (some ⟨rb, 0, none⟩)] 164)).alloc (.cells #[.string s] 9) := by
  have hmf : ∀ (fn : Fn) (first cap : Array Value) (w : World), (Instr.makeFunc fn first cap).run Tryz.prog w = .ok (.func fn first cap) w := fun _ _ _ _ => rfl
  go_enter Tryz.func152, Tryz.ntmps152
  go_wp2
  go_ret
  exact ⟨rfl, rfl⟩

/-- What the iterator has in memory: the reader, and the two variables that it has captured. -/
structure ItAt (W : World) (rb mb cb sb : Nat) (sz mx : Int) (s : ByteArray) (st : St) : Prop where
  rd : RdAt W rb mb sz mx st.ph st.used
  cp : W.heap[cb]? = some (.cells #[.pointer (some ⟨rb, 0, none⟩)] 164 (0, 0))
  tx : W.heap[sb]? = some (.cells #[.string (s.extract st.pos s.size)] 9 (0, 0))
  apart : rb ≠ sb ∧ mb ≠ sb ∧ cb ≠ sb ∧ cb ≠ rb ∧ cb ≠ mb

/-- The iterator's blocks. -/
abbrev ItR (rb mb sb : Nat) (r : Nat) : Prop := r = rb ∨ r = mb ∨ r = sb
/-- What a round keeps for the iterator. -/
def ItK (rb mb cb sb : Nat) (A B : World) : Prop := B.heap[rb]? = A.heap[rb]? ∧ B.heap[mb]? = A.heap[mb]? ∧ B.heap[cb]? = A.heap[cb]? ∧ B.heap[sb]? = A.heap[sb]?

theorem Uses.block {w w' : World} {mb : Nat} {us : List Int} (h : Uses w mb us) (hb : w'.heap[mb]? = w.heap[mb]?) : Uses w' mb us := by
  obtain ⟨es, clock, he, r⟩ := h
  exact ⟨es, clock, hb.trans he, r⟩

theorem ItAt.kept {A B : World} {rb mb cb sb : Nat} {sz mx : Int} {s : ByteArray} {st : St} (h : ItAt A rb mb cb sb sz mx s st) (k : ItK rb mb cb sb A B) : ItAt B rb mb cb sb sz mx s st :=
  ⟨⟨k.1.trans h.rd.box, h.rd.uses.block k.2.1⟩, k.2.2.1.trans h.cp, k.2.2.2.trans h.tx, h.apart⟩

theorem ItAt.later {A B : World} {rb mb cb sb : Nat} {sz mx : Int} {s : ByteArray} {st : St} (h : ItAt A rb mb cb sb sz mx s st) (hb : A.grownBy B none) : ItAt B rb mb cb sb sz mx s st :=
  h.kept ⟨hb.block _ h.rd.lt.1 (by simp), hb.block _ h.rd.lt.2 (by simp), hb.block _ (Array.getElem?_eq_some_iff.1 h.cp).1 (by simp), hb.block _ (Array.getElem?_eq_some_iff.1 h.tx).1 (by simp)⟩

theorem extract_more (s : ByteArray) (p n : Nat) (_h : p + n ≤ s.size) : (s.extract p s.size).extract n (s.extract p s.size).size = s.extract (p + n) s.size := by
  apply ByteArray.ext
  simp [ByteArray.data_extract, ByteArray.size_extract]
  congr 1
  omega

/-- Behind follow and the cut of the text. -/
theorem ItAt.step {A B : World} {rb mb cb sb : Nat} {sz mx : Int} {s : ByteArray} {st : St} {m : Msg} {n : Int} (h : ItAt A rb mb cb sb sz mx s st) (hr : RdAt B rb mb sz mx (after st.ph m) (usedBy st.used m)) (ht : Turned A B rb mb) :
    ItAt (B.setCell ⟨sb, 0, none⟩ (.string (s.extract (st.pos + n.toNat) s.size))) rb mb cb sb sz mx s (st.step (m, n)) := by
  obtain ⟨row, hg, hrow⟩ := ht
  obtain ⟨a1, a2, a3, a4, a5⟩ := h.apart
  have hcp : B.heap[cb]? = _ := (hg.block cb (Array.getElem?_eq_some_iff.1 h.cp).1 (fun e => (hrow _ e.symm).elim a4 a5)).trans h.cp
  have htx : B.heap[sb]? = _ := (hg.block sb (Array.getElem?_eq_some_iff.1 h.tx).1 (fun e => (hrow _ e.symm).elim (fun e => a1 e.symm) (fun e => a2 e.symm))).trans h.tx
  refine ⟨⟨?_, ?_⟩, ?_, ?_, h.apart⟩
  · rw [Below.heap_setCell _ _ _ _ (by exact a1)]; exact hr.box
  · exact Uses.block hr.uses (Below.heap_setCell _ _ _ _ (by exact a2))
  · rw [Below.heap_setCell _ _ _ _ (by exact a3)]; exact hcp
  · simp only [World.setCell, Array.getElem?_modify, htx]
    simp [St.step]

theorem first_ck (sz mx ph : Int) (us : List Int) (s : ByteArray) : 0 ≤ (first sz mx ph us s).1.ck ∧ (first sz mx ph us s).1.ck ≤ 65535 := by
  have g : ∀ f i, (greetFrom s f i).1.ck = 0 := fun f => by
    induction f with
    | zero => intro i; unfold greetFrom; split <;> rfl
    | succ f ih => intro i; unfold greetFrom; split; rfl; split; exact ih _; rfl
  have r3 := two_range s 3
  unfold first
  split
  · rw [greet, g]; simp
  · split
    · unfold opt; repeat' split
      all_goals simp [Msg.zero, Msg.closing]
    · split
      · unfold reqst; repeat' split
        all_goals (first | exact r3 | simp [Msg.zero, Msg.closing])
      · simp [Msg.zero]

theorem run_used (st : St) (xs : List (Msg × Int)) : (st.run xs).used.length ≤ st.used.length + xs.length := by
  induction xs generalizing st with
  | nil => simp [St.run]
  | cons x xs ih =>
    have := ih (st.step x)
    have e : (st.step x).used.length ≤ st.used.length + 1 := by
      simp only [St.step]
      split <;> simp
    simp only [St.run, List.foldl_cons, List.length_cons] at this ⊢
    omega
end Go.Proofs.YtpobhljcainmdaaGreat
