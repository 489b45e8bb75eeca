/- Proved here: a range over an iterator that keeps a state of its own in memory between two rounds: the caller's invariant abides the turn of the iterator's own blocks. -/
import Derived.RangeFuncNested
import Derived.RangeFuncLeaves
import Derived.Below
namespace Go.Proofs.YtpobhljcainmdaaGreat
open Go.RowKit

/-- What is said of a world abides new blocks, and the turn of a block of R. -/
def Bears {β : Type} (R : Nat → Prop) (J : β → World → Prop) : Prop :=
  ∀ s W W' row, J s W → W.grownBy W' row → (∀ r, row = some r → R r) → J s W'

theorem Bears.put {β : Type} {R : Nat → Prop} {J : β → World → Prop} (h : Bears R J) {s : β} {W : World} (hs : J s W) {l : Nat} (hl : R l) (o : Obj) : J s (W.putObj l o) :=
  h s W _ (some l) hs (grownBy_putObj' W l o) (fun r e => by cases e; exact hl)
theorem Bears.new {β : Type} {R : Nat → Prop} {J : β → World → Prop} (h : Bears R J) {s : β} {W : World} (hs : J s W) (o : Obj) : J s (W.alloc o) :=
  h s W _ none hs (World.grownBy_alloc W o none) (fun r e => by cases e)

/-- The contract of an iterator that writes blocks of R alone: V: what may come; Kp: what a round keeps for it; S, Sp: what stands behind it when all has come, and when a round said that it wants no more. -/
def Iter {α : Type} (F : Fence) (n : Nat) (P : Program) (g : Nat) (lb : Array Value) (encs : α → Array Value) (R : Nat → Prop) (Kp : World → World → Prop) (V : List α → Prop) (S Sp : List α → World → Prop) (W : World) : Prop :=
  ∀ (l : Nat) (J Jx : List α → World → Prop), Bears R J → Bears R Jx →
    (∀ pre x W1, J pre W1 → V (pre ++ [x]) → YieldAt F (n - 1) P l (encs x) W1 fun e W' =>
      (e = .returned (.bool true) ∧ J (pre ++ [x]) W' ∧ Kp W1 W') ∨ (e = .returned (.bool false) ∧ Jx (pre ++ [x]) W' ∧ Kp W1 W')) →
    J [] W →
    CallsIn F n P g (#[.func (.yield l) #[] #[]] ++ lb) W fun e W' => (∃ v, e = .returned v) ∧ ((∃ xs, S xs W' ∧ J xs W') ∨ (∃ pre, Sp pre W' ∧ Jx pre W'))

/-- The loop's two blocks lie as they lay. -/
def Two (B : Nat) (W W' : World) : Prop := W'.heap[B]? = W.heap[B]? ∧ W'.heap[B + 1]? = W.heap[B + 1]?

/-- How the body of a round may be left. -/
def roundEnd {α : Type} (B : Nat) (Kp : World → World → Prop) (I : List α → World → Prop) (Ix : List α → World → Prop) (xs : List α) (W : World) : Exit → Act → World → Prop
  | .normal, _, W' => Two B W W' ∧ Kp W W' ∧ I xs W'
  | .ret, _, W' => Two B W W' ∧ Kp W W' ∧ Ix xs W'
  | _, _, _ => False

theorem range_law {F : Fence} {n : Nat} {P : Program} {α : Type} {g : Operand} {ps : Array Tmp} {assign body : Code} {Q : Exit → Act → World → Prop} {a : Act} {w : World}
    (hro : F.round = none) (h1 : 1 ≤ n) {gf : Nat} {lb : Array Value} (hg : a.eval g = .func (.func gf) #[] lb) (hFg : F.fn gf) (eg : ∀ args w, (callFunc gf args).run P w = .ok (.enter gf args) w)
    {encs : α → Array Value} (hps : ∀ x, (encs x).size = ps.size) {R : Nat → Prop} {Kp : World → World → Prop} {V : List α → Prop} {S Sp : List α → World → Prop}
    (hseq : ∀ W, w.grownBy W none → Iter F (n - 1) P gf lb encs R Kp V S Sp W) (hR : ∀ r, R r → r < w.heap.size)
    (hKt : ∀ {A B C : World}, Kp A B → Kp B C → Kp A C) (hKb : ∀ (W : World) (o : Obj), Kp W (W.putObj (w.heap.size + 1) o))
    (hS : Bears (fun r => w.heap.size ≤ r) S) (hSp : Bears (fun r => w.heap.size ≤ r) Sp)
    (I Ix : List α → World → Prop) (hI : Bears (fun r => R r ∨ r = w.heap.size + 1) I) (hIx : Bears (fun r => R r ∨ r = w.heap.size + 1) Ix) (h0 : I [] w) (Ax : α → Act → World → Prop) (hAx : ∀ x, Bears (fun r => R r ∨ r = w.heap.size + 1) (Ax x))
    (hassign : ∀ (l : Nat) (pre : List α) (x : α) (W : World) (K : Act → World → Prop), I pre W → V (pre ++ [x]) → w.heap.size + 2 ≤ W.heap.size → (∀ a' W', Two w.heap.size W W' → Kp W W' → I pre W' → Ax x a' W' → K a' W') →
      assign.wpIn (F.inRound l) (n - 1 - 1) P (Exit.then K (fun _ _ _ => False)) { tmps := (ps.zip (encs x)).foldl (fun t (p, v) => t.setIfInBounds p v) a.tmps, defers := [] } W)
    (hbody : ∀ (l : Nat) (pre : List α) (x : α) (a' : Act) (W : World), I pre W → Ax x a' W → V (pre ++ [x]) → w.heap.size + 2 ≤ W.heap.size → body.wpIn (F.inRound l) (n - 1 - 1) P (roundEnd w.heap.size Kp I Ix (pre ++ [x]) W) a' W)
    (hdone : ∀ (xs : List α) (W : World), S xs W → I xs W → W.heap[w.heap.size]? = some (.deferred (some [])) → Q .normal { a with defers := { target := .collected w.heap.size, args := #[] } :: a.defers } W)
    (hstop : ∀ (pre : List α) (W : World), Sp pre W → Ix pre W → W.heap[w.heap.size]? = some (.deferred (some [])) → Code.ret.wpIn F n P Q { a with defers := { target := .collected w.heap.size, args := #[] } :: a.defers } W) :
    (Code.rangeFunc g ps assign body).wpIn F n P Q a w := by
  refine wpIn_rangeFunc fun fn hfn => ?_
  rw [hro]
  let rc : LoopState → Option Code → Obj := fun st pe => .loop { state := st, pending := pe, fn, tmps := a.tmps, params := ps, assign, body, defers := w.heap.size }
  have gr : w.grownBy ((w.alloc (.deferred (some []))).alloc (rc .ready none)) none :=
    ⟨rfl, rfl, rfl, by simp; omega, fun k hk _ => (Below.heap_alloc _ _ _ (by simp; omega)).trans (Below.heap_alloc _ _ _ hk)⟩
  have hrec0 : ((w.alloc (.deferred (some []))).alloc (rc .ready none)).heap[w.heap.size + 1]? = some (rc .ready none) := by
    have := World.alloc_heap_new (w.alloc (.deferred (some []))) (rc .ready none)
    rwa [World.size_alloc] at this
  have hdef0 : ((w.alloc (.deferred (some []))).alloc (rc .ready none)).heap[w.heap.size]? = some (.deferred (some [])) :=
    (Below.heap_alloc _ _ _ (by simp)).trans (World.alloc_heap_new w _)
  have kept : ∀ {A B : World} {row : Option Nat} {k : Nat} {o : Obj}, A.grownBy B row → (∀ r, row = some r → R r) → w.heap.size ≤ k → A.heap[k]? = some o → B.heap[k]? = some o := fun hgr hr hk ho =>
    (hgr.block _ (Array.getElem?_eq_some_iff.1 ho).1 (fun e => by have := hR _ (hr _ e.symm); omega)).trans ho
  refine ⟨w.heap.size + 1, [{ target := .collected w.heap.size, args := #[] }], (w.alloc (.deferred (some []))).alloc (rc .ready none), { target := .fn (.func gf) lb, args := #[.func (.yield (w.heap.size + 1)) #[] #[]] }, (w.alloc (.deferred (some []))).alloc (rc .ready none), gf,
    #[.func (.yield (w.heap.size + 1)) #[] #[]] ++ lb, (w.alloc (.deferred (some []))).alloc (rc .ready none), run_enterLoop_outer _ _ _ _ _, ?_, ?_, ?_, fun _ => h1, ?_⟩
  · simp only [resolve, hg]
    simp [go_sem]
  · intro f' hf'
    simp [Target.leads] at hf'
    subst hf'
    exact hFg
  · simp [invoke, go_sem, eg]
  · refine (hseq _ gr (w.heap.size + 1)
      (fun pre W => I pre W ∧ W.heap[w.heap.size + 1]? = some (rc .ready none) ∧ W.heap[w.heap.size]? = some (.deferred (some [])))
      (fun pre W => Ix pre W ∧ W.heap[w.heap.size + 1]? = some (rc .done (some .ret)) ∧ W.heap[w.heap.size]? = some (.deferred (some [])))
      (fun s A B row hs hgr hr => ⟨hI s A B row hs.1 hgr (fun r e => .inl (hr r e)), kept hgr hr (by omega) hs.2.1, kept hgr hr (Nat.le_refl _) hs.2.2⟩)
      (fun s A B row hs hgr hr => ⟨hIx s A B row hs.1 hgr (fun r e => .inl (hr r e)), kept hgr hr (by omega) hs.2.1, kept hgr hr (Nat.le_refl _) hs.2.2⟩)
      ?_ ⟨hI.new (hI.new h0 _) _, hrec0, hdef0⟩).mono ?_
    · rintro pre x W ⟨hi, hl, hk⟩ hv
      have hlt : w.heap.size + 1 < W.heap.size := (Array.getElem?_eq_some_iff.1 hl).1
      refine ⟨fn, _, assign, body, run_yield hl (hps x), roundIn_of_wpIn hfn (hassign _ pre x W _ hi hv (by omega) fun a' W0 ht0 hkp0 hi0 hax0 => ?_)⟩
      have hl0 := ht0.2.trans hl
      have hlt0 : w.heap.size + 1 < W0.heap.size := (Array.getElem?_eq_some_iff.1 hl0).1
      have hk0 := ht0.1.trans hk
      refine ⟨_, run_beginRound hl0 rfl, ?_⟩
      have hl2 : (W0.putObj (w.heap.size + 1) (rc .busy none)).heap[w.heap.size + 1]? = some (rc .busy none) := World.putObj_heap_same hlt0
      have hk2 : (W0.putObj (w.heap.size + 1) (rc .busy none)).heap[w.heap.size]? = some (.deferred (some [])) := (World.putObj_heap_other (by omega)).trans hk0
      refine wpIn_mono (hbody _ pre x a' (W0.putObj (w.heap.size + 1) (rc .busy none)) (hI.put hi0 (.inr rfl) _) ((hAx x).put hax0 (.inr rfl) _) hv (by simp; omega)) ?_
      rintro e a3 W3 hp
      cases e with
      | normal =>
        obtain ⟨ht, hkp, hi3⟩ := hp
        have hl3 := ht.2.trans hl2
        refine ⟨_, _, run_endRound none hl3, .inl ⟨rfl, ⟨hI.put hi3 (.inr rfl) _, World.putObj_heap_same (Array.getElem?_eq_some_iff.1 hl3).1, (World.putObj_heap_other (by omega)).trans (ht.1.trans hk2)⟩, hKt (hKt (hKt hkp0 (hKb _ _)) hkp) (hKb _ _)⟩⟩
      | ret =>
        obtain ⟨ht, hkp, hi3⟩ := hp
        have hl3 := ht.2.trans hl2
        refine ⟨_, _, run_endRound (some .ret) hl3, .inr ⟨rfl, ⟨hIx.put hi3 (.inr rfl) _, World.putObj_heap_same (Array.getElem?_eq_some_iff.1 hl3).1, (World.putObj_heap_other (by omega)).trans (ht.1.trans hk2)⟩, hKt (hKt (hKt hkp0 (hKb _ _)) hkp) (hKb _ _)⟩⟩
      | exit id => exact hp.elim
      | goto t => exact hp.elim
      | panic ch => exact hp.elim
      | outgrown => exact hp.elim
    · rintro e W2 ⟨⟨v, rfl⟩, (⟨xs, hs, hi, hl, hk⟩ | ⟨pre, hs, hi, hl, hk⟩)⟩
      · exact ⟨none, _, run_endLoop hl (by simp), hdone xs _ (hS.put hs (Nat.le_succ _) _) (hI.put hi (.inr rfl) _) ((World.putObj_heap_other (by omega)).trans hk)⟩
      · exact ⟨some .ret, _, run_endLoop hl (by simp), hstop pre _ (hSp.put hs (Nat.le_succ _) _) (hIx.put hi (.inr rfl) _) ((World.putObj_heap_other (by omega)).trans hk)⟩
end Go.Proofs.YtpobhljcainmdaaGreat
