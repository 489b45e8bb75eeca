/- Proved here: the program's Decode answers the messages of the text, for every configuration and phase. -/
import Derived.Test.YtpobhljcainmdaaGreatWire10
import Derived.Test.YtpobhljcainmdaaGreatRef8
import Derived.Test.YtpobhljcainmdaaGreatLaw1
import Derived.RangeFuncBox
import Derived.Maps.AppendAt
namespace Go.Proofs.YtpobhljcainmdaaGreat
open Go.RowKit Go.Shelf
set_option linter.unusedSimpArgs false
attribute [local go_sem] Oper.semAt_some
attribute [local go_sem] alloc_drewN setCell_drewN

theorem size_pos (sz cl qu mx qn rt bu wk ou : Int) (h : cfgB sz cl qu mx qn rt bu wk ou = true) : 0 ≤ sz := by
  simp [cfgB, bfB, seB, wiB] at h
  omega

set_option maxRecDepth 100000 in
set_option maxHeartbeats 4000000 in
theorem decode_bad (sz cl qu mx qn rt bu wk ou ph : Int) (s : ByteArray) (w : World) (hbad : ¬ (cfgB sz cl qu mx qn rt bu wk ou = true ∧ 0 ≤ ph ∧ ph ≤ 2)) :
    Calls Tryz.prog 121 #[.agg (cfgL sz cl qu mx qn rt bu wk ou), .int .i64 ph, .string s] w fun e w' => e = .returned (.tuple #[.slice none 0 0, .int .i64 0]) ∧ Below w.heap.size w w' := by
  cases hok : cfgB sz cl qu mx qn rt bu wk ou with
  | false =>
    clear hbad
    go_enter Tryz.func121, Tryz.ntmps121
    go_wp2_with (go_at_call 81; refine (check_any sz cl qu mx qn rt bu wk ou _).mono ?_; rw [hok]; rintro e w1 ⟨rfl, hb⟩)
    go_ret2
    exact ⟨rfl, ((Below.refl _ _).alloc (Nat.le_refl _) _).trans (hb.mono (by simp))⟩
  | true =>
    have hw : Hid (wiB ph 0 2 = false) := by
      show wiB ph 0 2 = false
      simp only [wiB]
      simp only [hok, true_and] at hbad
      simpa using hbad
    clear hbad
    go_enter Tryz.func121, Tryz.ntmps121
    go_wp2_with (first | (go_at_call 81; refine (check_any sz cl qu mx qn rt bu wk ou _).mono ?_; rw [hok]; rintro e w1 ⟨rfl, hb⟩) | (go_at_call 71; refine (within_any ph 0 2 _).mono ?_; rw [hw.out]; rintro e w2 ⟨rfl, rfl⟩))
    go_ret2
    exact ⟨rfl, ((Below.refl _ _).alloc (Nat.le_refl _) _).trans (hb.mono (by simp))⟩

theorem ItAt.far {A B : World} {rb mb cb sb : Nat} {sz mx : Int} {s : ByteArray} {st : St} {row : Option Nat} (h : ItAt A rb mb cb sb sz mx s st) (hg : A.grownBy B row) (hr : ∀ r, row = some r → rb < r ∧ mb < r ∧ cb < r ∧ sb < r) : ItAt B rb mb cb sb sz mx s st :=
  h.kept ⟨hg.block _ h.rd.lt.1 (fun e => by have := hr _ e.symm; omega), hg.block _ h.rd.lt.2 (fun e => by have := hr _ e.symm; omega), hg.block _ (Array.getElem?_eq_some_iff.1 h.cp).1 (fun e => by have := hr _ e.symm; omega), hg.block _ (Array.getElem?_eq_some_iff.1 h.tx).1 (fun e => by have := hr _ e.symm; omega)⟩

/-- Where the loop of Decode begins: b: the block of its list. -/
abbrev decW0 (w2 : World) (sz cl qu mx qn rt bu wk ou ph : Int) (s : ByteArray) : World :=
  (((((((w2.alloc (.cells #[.slice none 0 0] 152)).alloc (.cells #[.int .i64 0] 3)).alloc (.cells (cfgL sz cl qu mx qn rt bu wk ou) 35)).alloc (.map #[] 0)).alloc
    (.cells #[.int .i64 sz, .int .i64 mx, .int .i64 ph, .map (some (w2.heap.size + 1 + 1 + 1))] 228)).alloc (.cells #[.pointer (some ⟨w2.heap.size + 1 + 1 + 2, 0, none⟩)] 164)).alloc (.cells #[.string s] 9))

theorem dec_begin (w2 : World) (sz cl qu mx qn rt bu wk ou ph : Int) (s : ByteArray) :
    ItAt (decW0 w2 sz cl qu mx qn rt bu wk ou ph s) (w2.heap.size + 1 + 1 + 2) (w2.heap.size + 1 + 1 + 1) (w2.heap.size + 1 + 1 + 1 + 1 + 1) (w2.heap.size + 1 + 1 + 1 + 1 + 1 + 1) sz mx s ⟨ph, [], 0⟩ ∧
    (decW0 w2 sz cl qu mx qn rt bu wk ou ph s).heap.size = w2.heap.size + 7 ∧
    (decW0 w2 sz cl qu mx qn rt bu wk ou ph s).heap[w2.heap.size]? = some (.cells #[.slice none 0 0] 152 (0, 0)) ∧
    (decW0 w2 sz cl qu mx qn rt bu wk ou ph s).heap[w2.heap.size + 1]? = some (.cells #[.int .i64 0] 3 (0, 0)) ∧
    Below w2.heap.size w2 (decW0 w2 sz cl qu mx qn rt bu wk ou ph s) := by
  have hr := rd_new sz cl qu mx qn rt bu wk ou ph ((w2.alloc (.cells #[.slice none 0 0] 152)).alloc (.cells #[.int .i64 0] 3))
  simp only [World.size_alloc] at hr
  have hg : ∀ (W : World) (o : Obj), W.grownBy (W.alloc o) none := fun W o => World.grownBy_alloc W o none
  have e : ∀ (W : World) (o : Obj) (k : Nat) (x : Obj), W.heap[k]? = some x → (W.alloc o).heap[k]? = some x := fun W o k x h => (Below.heap_alloc W o k (Array.getElem?_eq_some_iff.1 h).1).trans h
  have e0 : ∀ (W : World) (o : Obj) (k : Nat), k = W.heap.size → (W.alloc o).heap[k]? = some o := fun W o k h => by subst h; exact heap_alloc_new W o
  refine ⟨⟨((hr.kept (hg _ _) (by simp) (by simp)).kept (hg _ _) (by simp) (by simp)), ?_, ?_, ?_⟩, ?_, ?_, ?_, ?_⟩
  · exact e _ _ _ _ (e0 _ _ _ (by simp))
  · rw [show s.extract (0 : Nat) s.size = s by simp]
    exact e0 _ _ _ (by simp)
  · refine ⟨?_, ?_, ?_, ?_, ?_⟩ <;> omega
  · simp
  · exact e _ _ _ _ (e _ _ _ _ (e _ _ _ _ (e _ _ _ _ (e _ _ _ _ (e _ _ _ _ (e0 _ _ _ rfl))))))
  · exact e _ _ _ _ (e _ _ _ _ (e _ _ _ _ (e _ _ _ _ (e _ _ _ _ (e0 _ _ _ (by simp))))))
  · exact (((((((Below.refl _ _).alloc (Nat.le_refl _) _).alloc (by simp) _).alloc (by simp; omega) _).alloc (by simp; omega) _).alloc (by simp; omega) _).alloc (by simp; omega) _).alloc (by simp; omega) _

/-- What holds between two rounds of Decode. -/
def DecI (w : World) (b N0 : Nat) (ph : Int) (pre : List (Msg × Int)) (W : World) : Prop :=
  ∃ v, W.heap[b]? = some (.cells #[v] 152 (0, 0)) ∧ W.ownsRow (N0 + 2) 132 9 v pre.length ((pre.map (·.1)).flatMap Msg.cells) ∧
    W.heap[b + 1]? = some (.cells #[.int .i64 (((⟨ph, [], 0⟩ : St).run pre).pos : Int)] 3 (0, 0)) ∧ Below w.heap.size w W

theorem lt_of_heap {W : World} {k : Nat} {o : Obj} (h : W.heap[k]? = some o) : k < W.heap.size := (Array.getElem?_eq_some_iff.1 h).1

theorem DecI.bears (w : World) (b : Nat) (ph : Int) (hb : w.heap.size ≤ b) : Bears (fun r => ItR (b + 1 + 1 + 2) (b + 1 + 1 + 1) (b + 1 + 1 + 1 + 1 + 1 + 1) r ∨ r = b + 7 + 1) (DecI w b (b + 7) ph) := by
  rintro pre W W' row ⟨v, h1, h2, h3, h4⟩ hg hr
  have hrow : ∀ r, row = some r → b + 1 < r ∧ r < b + 7 + 2 := fun r e => by
    rcases hr r e with (h | h | h) | h <;> omega
  refine ⟨v, (hg.block _ (lt_of_heap h1) (fun e => by have := hrow _ e.symm; omega)).trans h1, ?_, (hg.block _ (lt_of_heap h3) (fun e => by have := hrow _ e.symm; omega)).trans h3, h4.grown hg h4.size (fun k e => by have := hrow k e; omega)⟩
  refine h2.kept hg ?_
  cases hv : v.ownBlock with
  | none => exact .inl rfl
  | some g =>
    refine .inr (fun e => ?_)
    have h5 := (row_lt h2 g hv).2
    have := hrow g e.symm
    omega

theorem set_box {W : World} {k : Nat} {u v : Value} {T : TypeId} (h : W.heap[k]? = some (.cells #[u] T (0, 0))) : (W.setCell ⟨k, 0, none⟩ v).heap[k]? = some (.cells #[v] T (0, 0)) := by
  simp only [World.setCell, Array.getElem?_modify, h]
  simp

theorem keep_old {W w1 : World} {o : Obj} {row : Option Nat} {k : Nat} {x : Obj} (h : W.heap[k]? = some x) (hg : (W.alloc o).grownBy w1 row) (hne : some k ≠ row) : w1.heap[k]? = some x :=
  (hg.block k (by have := lt_of_heap h; simp; omega) hne).trans ((Below.heap_alloc W o k (lt_of_heap h)).trans h)

/-- The frame behind the assignment of a round's variables. -/
def DecA (w : World) (b : Nat) (sz cl qu mx qn rt bu wk ou ph : Int) (s : ByteArray) (x : Msg × Int) (bm : Nat) : Act :=
  { tmps := #[.agg (cfgL sz cl qu mx qn rt bu wk ou), .int .i64 ph, .string s, .pointer (some ⟨w.heap.size, 0, none⟩), undef, undef, .slice none 0 0, .int .i64 0, .pointer (some ⟨b, 0, none⟩), .pointer (some ⟨b + 1, 0, none⟩), .pointer (some ⟨bm, 0, none⟩), .int .i64 x.2,
      .agg (cfgL sz cl qu mx qn rt bu wk ou), .int .i64 0, .bool false, .bool false, .int .i64 ph, .bool true, .bool false, .bool false, .agg (cfgL sz cl qu mx qn rt bu wk ou), .int .i64 ph, .pointer (some ⟨b + 1 + 1 + 2, 0, none⟩), .string s,
      .func (.func 189) #[] #[.pointer (some ⟨b + 1 + 1 + 1 + 1 + 1, 0, none⟩), .pointer (some ⟨b + 1 + 1 + 1 + 1 + 1 + 1, 0, none⟩)], .agg (msgL x.1.wh x.1.nm x.1.kd x.1.fl x.1.ck x.1.of x.1.ln x.1.dt x.1.er), .int .i64 x.2, undef, undef, undef, undef, undef, undef, undef, undef, undef], defers := [] }

def DecX (w : World) (b : Nat) (sz cl qu mx qn rt bu wk ou ph : Int) (s : ByteArray) (x : Msg × Int) (a : Act) (W : World) : Prop :=
  ∃ bm, b + 7 + 2 ≤ bm ∧ W.heap[bm]? = some (.cells (msgL x.1.wh x.1.nm x.1.kd x.1.fl x.1.ck x.1.of x.1.ln x.1.dt x.1.er) 132 (0, 0)) ∧ (∀ v, W.heap[b]? = some (.cells #[v] 152 (0, 0)) → v.ownBlock ≠ some bm) ∧ a = DecA w b sz cl qu mx qn rt bu wk ou ph s x bm

theorem DecX.bears (w : World) (b : Nat) (sz cl qu mx qn rt bu wk ou ph : Int) (s : ByteArray) (x : Msg × Int) : Bears (fun r => ItR (b + 1 + 1 + 2) (b + 1 + 1 + 1) (b + 1 + 1 + 1 + 1 + 1 + 1) r ∨ r = b + 7 + 1) (DecX w b sz cl qu mx qn rt bu wk ou ph s x) := by
  rintro a W W' row ⟨bm, h1, h2, h3, h4⟩ hg hr
  have hrow : ∀ r, row = some r → b + 1 < r ∧ r < b + 7 + 2 := fun r e => by
    rcases hr r e with (h | h | h) | h <;> omega
  have hlt := lt_of_heap h2
  have hbb : W'.heap[b]? = W.heap[b]? := hg.block _ (by omega) (fun e => by have := hrow _ e.symm; omega)
  exact ⟨bm, h1, (hg.block _ hlt (fun e => by have := hrow _ e.symm; omega)).trans h2, fun v h => h3 v (hbb.symm.trans h), h4⟩

set_option maxRecDepth 100000 in
set_option maxHeartbeats 4000000 in
theorem decode_good (sz cl qu mx qn rt bu wk ou ph : Int) (s : ByteArray) (w : World) (hs : s.size ≤ 1048576) (hok : cfgB sz cl qu mx qn rt bu wk ou = true) (h0 : 0 ≤ ph) (h2 : ph ≤ 2) :
    CallsIn Fence.wide 3 Tryz.prog 121 #[.agg (cfgL sz cl qu mx qn rt bu wk ou), .int .i64 ph, .string s] w (DecRet w.heap.size (decode sz mx s (s.size + 1) ph [] 0) w) := by
  have hw : Hid (wiB ph 0 2 = true) := by
    show wiB ph 0 2 = true
    simp [wiB, h0, h2]
  have hz := size_pos _ _ _ _ _ _ _ _ _ hok
  refine callsIn_of_wp_marks Tryz.func121 rfl trivial ?_ rfl
  simp only [Tryz.ntmps121, List.size_toArray, List.length_cons, List.length_nil, Nat.reduceAdd, Nat.reduceSub, Array.replicate_succ, Array.replicate_zero, List.push_toArray, List.append_toArray, List.nil_append, List.cons_append]
  gi_wp2_with (first | (refine ⟨trivial, ?_⟩; gi_at_call 81; refine (callsIn_wide.2 (check_any sz cl qu mx qn rt bu wk ou _)).mono ?_; rw [hok]; rintro e w1 ⟨rfl, hb1⟩; obtain ⟨hcc, hff⟩ := bcell hb1; have hz1 : w.heap.size < w1.heap.size := (by have := hb1.size; simp at this; omega); have hx : ∀ (oa ob : Obj) (o : Nat), ((w1.alloc oa).alloc ob).cell? ⟨w.heap.size, o, none⟩ = w1.cell? ⟨w.heap.size, o, none⟩ := (fun oa ob o => World.cell?_of_block ((Below.heap_alloc _ ob _ (by simp; omega)).trans (Below.heap_alloc w1 oa _ hz1)))) | (refine ⟨trivial, ?_⟩; gi_at_call 71; refine (callsIn_wide.2 (within_any ph 0 2 _)).mono ?_; rw [hw.out]; rintro e w2 ⟨rfl, rfl⟩) | (refine ⟨trivial, ?_⟩; gi_at_call 115; refine (callsIn_wide.2 (newReader_any sz cl qu mx qn rt bu wk ou ph _)).mono ?_; rintro e w3 ⟨rfl, rfl⟩) | (refine ⟨trivial, ?_⟩; gi_at_call 152; refine (callsIn_wide.2 (messages_any _ s _)).mono ?_; rintro e w4 ⟨rfl, rfl⟩))
  obtain ⟨hit0, hsz, hsaid, htk, hB2⟩ := dec_begin w2 sz cl qu mx qn rt bu wk ou ph s
  have hB1 : Below w.heap.size w w2 := ((Below.refl _ _).alloc (Nat.le_refl _) _).trans (hb1.mono (by simp))
  clear hcc hff hx hb1
  obtain ⟨W0, hW0⟩ : ∃ W0, decW0 w2 sz cl qu mx qn rt bu wk ou ph s = W0 := ⟨_, rfl⟩
  show Code.wpIn Fence.wide 3 Tryz.prog _ _ _ (decW0 w2 sz cl qu mx qn rt bu wk ou ph s)
  rw [hW0] at hit0 hsz hsaid htk hB2 ⊢
  clear hW0
  have hB0 : Below w.heap.size w W0 := hB1.trans (hB2.mono (Nat.le_of_lt hz1))
  clear hB1 hB2
  generalize w2.heap.size = b at *
  have hwb : w.heap.size ≤ b := Nat.le_of_lt hz1
  refine range_law (w := W0) rfl (by decide) (gf := 189) (lb := #[.pointer (some ⟨b + 1 + 1 + 1 + 1 + 1, 0, none⟩), .pointer (some ⟨b + 1 + 1 + 1 + 1 + 1 + 1, 0, none⟩)]) rfl trivial (enters_of Tryz.func189 (by kernel_rfl) rfl) (encs := msgEnc) (fun _ => rfl)
    (R := ItR (b + 1 + 1 + 2) (b + 1 + 1 + 1) (b + 1 + 1 + 1 + 1 + 1 + 1)) (Kp := ItK (b + 1 + 1 + 2) (b + 1 + 1 + 1) (b + 1 + 1 + 1 + 1 + 1) (b + 1 + 1 + 1 + 1 + 1 + 1)) (V := Runs sz mx s ⟨ph, [], 0⟩)
    (S := fun xs W' => Runs sz mx s ⟨ph, [], 0⟩ xs ∧ (((⟨ph, [], 0⟩ : St).run xs).next sz mx s).2 = 0 ∧ ItAt W' (b + 1 + 1 + 2) (b + 1 + 1 + 1) (b + 1 + 1 + 1 + 1 + 1) (b + 1 + 1 + 1 + 1 + 1 + 1) sz mx s ((⟨ph, [], 0⟩ : St).run xs))
    (Sp := fun pre W' => Runs sz mx s ⟨ph, [], 0⟩ pre ∧ ItAt W' (b + 1 + 1 + 2) (b + 1 + 1 + 1) (b + 1 + 1 + 1 + 1 + 1) (b + 1 + 1 + 1 + 1 + 1 + 1) sz mx s ((⟨ph, [], 0⟩ : St).run pre))
    (fun W hW => iter_any 2 (by decide) _ _ _ _ sz mx s ⟨ph, [], 0⟩ W hz (by omega) (by simp) (Nat.zero_le _) (hit0.later hW)) ?hR ?hKt ?hKb ?hS ?hSp
    (DecI w b (b + 7) ph) (fun _ _ => False) ?hI ?hIx ?h0 (DecX w b sz cl qu mx qn rt bu wk ou ph s) ?hAx ?assign ?body ?done ?stop
  case hR => rintro r (h | h | h) <;> omega
  case hKt => exact fun h k => ⟨k.1.trans h.1, k.2.1.trans h.2.1, k.2.2.1.trans h.2.2.1, k.2.2.2.trans h.2.2.2⟩
  case hKb => exact fun W o => ⟨World.putObj_heap_other (by omega), World.putObj_heap_other (by omega), World.putObj_heap_other (by omega), World.putObj_heap_other (by omega)⟩
  case hS => exact fun xs W W' row h hg hr => ⟨h.1, h.2.1, h.2.2.far hg (fun r e => by have := hr r e; rw [hsz] at this; omega)⟩
  case hSp => exact fun xs W W' row h hg hr => ⟨h.1, h.2.far hg (fun r e => by have := hr r e; rw [hsz] at this; omega)⟩
  case hI => rw [hsz]; exact DecI.bears w b ph hwb
  case hIx => exact fun _ _ _ _ h _ _ => h
  case h0 => exact ⟨_, hsaid, World.ownsRow_nil _ _ _ _, htk, hB0⟩
  case hAx => rw [hsz]; exact fun x => DecX.bears w b sz cl qu mx qn rt bu wk ou ph s x
  case assign =>
    rintro l pre ⟨m, nn⟩ W K hi hv hs2 hK
    gi_wp2
    refine hK _ (W.alloc (.cells (msgL m.wh m.nm m.kd m.fl m.ck m.of m.ln m.dt m.er) 132)) ?_ ?_ ?_ ?_
    · exact ⟨Below.heap_alloc _ _ _ (by omega), Below.heap_alloc _ _ _ (by omega)⟩
    · exact ⟨Below.heap_alloc _ _ _ (by omega), Below.heap_alloc _ _ _ (by omega), Below.heap_alloc _ _ _ (by omega), Below.heap_alloc _ _ _ (by omega)⟩
    · exact DecI.bears w b ph hwb _ _ _ none hi (World.grownBy_alloc _ _ none) (fun r e => by cases e)
    · refine ⟨W.heap.size, by omega, heap_alloc_new _ _, fun v hv' e => ?_, rfl⟩
      obtain ⟨v', h1, h2, _⟩ := hi
      have e1 : (W.alloc (.cells (msgL m.wh m.nm m.kd m.fl m.ck m.of m.ln m.dt m.er) 132)).heap[b]? = W.heap[b]? := Below.heap_alloc _ _ _ (lt_of_heap h1)
      rw [e1, h1] at hv'
      cases hv'
      exact absurd (row_lt h2 _ e).1 (Nat.lt_irrefl _)
  case body =>
    rintro l pre ⟨m, nn⟩ a' W ⟨v, i1, i2, i3, i4⟩ ⟨bm, x1, x2, x3, rfl⟩ hv hs2
    obtain ⟨K, rfl⟩ : ∃ K : Nat, nn = (K : Int) := by
      refine ⟨nn.toNat, ?_⟩
      have := next_in sz mx s ((⟨ph, [], 0⟩ : St).run pre)
      have h2 := ((runs_snoc sz mx s ⟨ph, [], 0⟩ pre (m, nn)).1 hv).2.1
      rw [h2] at this
      omega
    have hpos := runs_pos sz mx s ⟨ph, [], 0⟩ (pre ++ [(m, (K : Int))]) (Nat.zero_le _) hv
    rw [St.run_snoc] at hpos
    have hpe : (((⟨ph, [], 0⟩ : St).run pre).step (m, (K : Int))).pos = ((⟨ph, [], 0⟩ : St).run pre).pos + K := rfl
    rw [hpe] at hpos
    obtain ⟨N, hN⟩ : ∃ N : Nat, ((⟨ph, [], 0⟩ : St).run pre).pos = N := ⟨_, rfl⟩
    rw [hN] at hpos hpe i3
    have hp1 : pre.length + 1 ≤ N + K := by
      have := hpos.1
      simp at this
      omega
    have hp2 : N + K ≤ s.size := hpos.2
    have HPE : Hid ((((⟨ph, [], 0⟩ : St).run pre).step (m, (K : Int))).pos = N + K) := hpe
    clear hpe hN hpos hv
    obtain ⟨iM, hiM, hz0, hz1', hz2⟩ := info_parts Tryz.infoMsg
    have c8 : W.cell? ⟨b, 0, none⟩ = some v := by simp [World.cell?, i1]
    have f8 : W.frozen? ⟨b, 0, none⟩ = false := by simp [World.frozen?, i1]
    have c9 : W.cell? ⟨b + 1, 0, none⟩ = some (.int .i64 N) := by simp [World.cell?, i3]
    have f9 : W.frozen? ⟨b + 1, 0, none⟩ = false := by simp [World.frozen?, i3]
    have hm : MsgAt W bm m := by simp [MsgAt, World.cell?, x2]
    obtain ⟨m0, m1, m2, m3, m4, m5, m6, m7, m8⟩ := hm
    have hob : ∀ k, k < b + 7 + 2 → some k ≠ v.ownBlock := fun k hk e => by have := (row_lt i2 k e.symm).2; omega
    unfold DecA
    gi_wp2_with (first | (gi_at_builtin; refine wpListIn_append_own _ rfl _ _ 152 rfl (b + 7 + 2) 132 iM _ 9 88 Tryz.underlying152 hiM hz0 hz1' hz2 rfl (by decide) _ _ _ rfl (i2.alloc _) ⟨W.heap.size, 0, none⟩ 1 1 m.cells rfl rfl (World.news_of_block (heap_alloc_new W _)) (cells_one m) (by unfold maxLen; omega) (by omega) (by simp; omega) ?_; intro v' w1 hown' hgrow _; obtain ⟨g', cap', rfl⟩ := ownsRow_succ hown'; have k8 := keep_old i1 hgrow (hob b (by omega)); have k9 := keep_old i3 hgrow (hob (b + 1) (by omega)); have d8 : w1.cell? ⟨b, 0, none⟩ = some v := (by simp [World.cell?, k8]); have g8 : w1.frozen? ⟨b, 0, none⟩ = false := (by simp [World.frozen?, k8]); have d9 : w1.cell? ⟨b + 1, 0, none⟩ = some (.int .i64 N) := (by simp [World.cell?, k9]); have g9 : w1.frozen? ⟨b + 1, 0, none⟩ = false := (by simp [World.frozen?, k9])))
    have hwW := i4.size
    have hsW : ∀ k, b + 1 < k → k < b + 7 + 2 → ((w1.setCell ⟨b, 0, none⟩ (.slice (some ⟨g', 0, none⟩) (pre.length + 1) cap')).setCell ⟨b + 1, 0, none⟩ (.int .i64 ((N : Int) + (K : Int)))).heap[k]? = W.heap[k]? := fun k h1 h2 => by
      rw [Below.heap_setCell _ _ _ _ (by show k ≠ b + 1; omega), Below.heap_setCell _ _ _ _ (by show k ≠ b; omega), hgrow.block k (by simp; omega) (hob k h2)]
      exact Below.heap_alloc _ _ _ (by omega)
    refine ⟨⟨hsW _ (by omega) (by omega), hsW _ (by omega) (by omega)⟩, ⟨hsW _ (by omega) (by omega), hsW _ (by omega) (by omega), hsW _ (by omega) (by omega), hsW _ (by omega) (by omega)⟩, .slice (some ⟨g', 0, none⟩) (pre.length + 1) cap', ?_, ?_, ?_, ?_⟩
    · rw [Below.heap_setCell _ _ _ _ (by show b ≠ b + 1; omega)]
      exact set_box k8
    · rw [List.length_append, List.map_append, List.flatMap_append]
      have hg' := (row_lt hown' g' rfl).2
      have e : (List.map (fun x => x.1) [(m, (K : Int))]).flatMap Msg.cells = m.cells := by simp
      rw [e]
      exact (hown'.kept (grown_set _ _ _ _) (.inr (fun h => absurd (Option.some.inj (show some g' = some b from h)) (by omega)))).kept (grown_set _ _ _ _) (.inr (fun h => absurd (Option.some.inj (show some g' = some (b + 1) from h)) (by omega)))
    · have e : (((⟨ph, [], 0⟩ : St).run (pre ++ [(m, (K : Int))])).pos : Int) = (N : Int) + (K : Int) := by
        rw [St.run_snoc, HPE.out]
        omega
      rw [e]
      exact set_box (box_far k9 (by omega))
    · have h1 := (i4.alloc hwW (.cells (msgL m.wh m.nm m.kd m.fl m.ck m.of m.ln m.dt m.er) 132)).grown hgrow (by simp; omega) (fun k e => by have := (row_lt i2 k e).2; omega)
      exact (h1.setCell (p := ⟨b, 0, none⟩) hwb _).setCell (p := ⟨b + 1, 0, none⟩) (by show w.heap.size ≤ b + 1; omega) _
  case done =>
    rintro xs W ⟨hr, hend, _⟩ ⟨v, i1, i2, i3, i4⟩ hD
    have c8 : W.cell? ⟨b, 0, none⟩ = some v := by simp [World.cell?, i1]
    have c9 : W.cell? ⟨b + 1, 0, none⟩ = some (.int .i64 ((((⟨ph, [], 0⟩ : St).run xs).pos : Nat) : Int)) := by simp [World.cell?, i3]
    have hdec := runs_decode sz mx s ⟨ph, [], 0⟩ xs (s.size + 1) (Nat.zero_le _) hr hend (by simp)
    generalize hP : ((⟨ph, [], 0⟩ : St).run xs).pos = P at c9 hdec
    have HD : Hid (decode sz mx s (s.size + 1) ph [] 0 = (xs.map (·.1), (P : Int))) := hdec
    have HI : Hid (W.ownsRow (b + 7 + 2) 132 9 v xs.length ((xs.map (·.1)).flatMap Msg.cells) ∧ Below w.heap.size w W ∧ W.heap[W0.heap.size]? = some (.deferred (some []))) := ⟨i2, i4, hD⟩
    clear i1 i2 i3 i4 hr hend hdec hP
    gi_wp2
    gi_region
    all_goals gi_wp2
    have hD' : W.drew.heap[W0.heap.size]? = some (.deferred (some [])) := HI.out.2.2
    refine ⟨by simp, .inl ⟨_, _, rfl, run_takeDeferred hD', ?_⟩⟩
    refine ⟨.tuple #[v, .int .i64 P], by simp [results, Tryz.results121], v, xs.map (·.1), P, HD.out.symm, rfl, ?_, ?_⟩
    · rw [List.length_map]
      have hrow : W.drew.ownsRow (b + 7 + 2) 132 9 v xs.length ((xs.map (·.1)).flatMap Msg.cells) := HI.out.1
      exact row_base (ownsRow_putObj hrow _ hD' rfl) (by omega)
    · exact HI.out.2.1.drew.trans ((Below.refl _ _).grown (grownBy_putObj' _ _ _) (by have := HI.out.2.1.size; exact this) (fun k e => by cases e; omega))
  case stop => exact fun _ _ _ h _ => h.elim

/-- The program's Decode, for every configuration, phase and text that is not too long. -/
theorem decode_all (sz cl qu mx qn rt bu wk ou ph : Int) (s : ByteArray) (w : World) (hs : s.size ≤ 1048576) :
    Calls Tryz.prog 121 #[.agg (cfgL sz cl qu mx qn rt bu wk ou), .int .i64 ph, .string s] w (DecRet w.heap.size (decodeAll sz cl qu mx qn rt bu wk ou ph s) w) := by
  by_cases hgood : cfgB sz cl qu mx qn rt bu wk ou = true ∧ 0 ≤ ph ∧ ph ≤ 2
  · have e : decodeAll sz cl qu mx qn rt bu wk ou ph s = decode sz mx s (s.size + 1) ph [] 0 := by unfold decodeAll; rw [if_pos hgood]
    rw [e]
    exact callsIn_wide.1 (decode_good sz cl qu mx qn rt bu wk ou ph s w hs hgood.1 hgood.2.1 hgood.2.2)
  · have e : decodeAll sz cl qu mx qn rt bu wk ou ph s = ([], 0) := by unfold decodeAll; rw [if_neg hgood]
    rw [e]
    exact (decode_bad sz cl qu mx qn rt bu wk ou ph s w hgood).mono fun e w' h => ⟨_, [], 0, rfl, h.1, World.ownsRow_nil _ _ _ _, h.2⟩
end Go.Proofs.YtpobhljcainmdaaGreat
