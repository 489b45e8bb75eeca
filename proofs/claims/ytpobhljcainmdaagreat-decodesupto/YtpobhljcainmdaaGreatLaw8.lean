/- For every script of bulk at most 1048576, Decodes answers true and leaves the script as it was, if the program's Decode answers as the plain mathematics says. -/
import Derived.Test.YtpobhljcainmdaaGreatLaw7
import Derived.Test.YtpobhljcainmdaaGreatScript
import Derived.Below
import Derived.ChangeOld
namespace Go.Proofs.YtpobhljcainmdaaGreat
open Go.ChangeShapes Go.WideShapes Go.ChangeAt Go.RowKit Go.Deep

theorem bulk_pos {H : Type} (d : DataW H) : 1 ≤ Rows.uptoBulk d := by
  cases d with
  | lit l => cases l <;> simp [Rows.uptoBulk]
  | nil => simp [Rows.uptoBulk]
  | ptr d => simp [Rows.uptoBulk]
  | slice elems spare => simp [Rows.uptoBulk]
  | agg parts => simp [Rows.uptoBulk]
  | iface t d => simp [Rows.uptoBulk]
  | map entries => simp [Rows.uptoBulk]
  | held h => simp [Rows.uptoBulk]

theorem bulk_mem {H : Type} {d : DataW H} {l : List (DataW H)} (h : d ∈ l) : Rows.uptoBulk d ≤ Rows.uptoBulkAll l := by
  induction l with
  | nil => cases h
  | cons x r ih =>
    simp only [Rows.uptoBulkAll]
    rcases List.mem_cons.1 h with e | e
    · subst e; omega
    · have := ih e; omega

theorem bulk_len {H : Type} (l : List (DataW H)) : l.length ≤ Rows.uptoBulkAll l := by
  induction l with
  | nil => simp [Rows.uptoBulkAll]
  | cons x r ih => have := bulk_pos x; simp only [Rows.uptoBulkAll, List.length_cons]; omega

section
variable {H : Type} {enc : TypeId × Value → H} {w : World} {base : Nat} {spare : Nat → Bool} {held : Bool}

theorem text_bulk {fuel : Nat} {r : OpR} {x : DataW H × List MemPlace} (h : DataW.trod enc Tryz.prog w base spare held fuel 90 r.list = some x) : r.s.size ≤ Rows.uptoBulk x.1 := by
  obtain ⟨xs, n, _, hx, hl, hxl, hf⟩ := DataW.trod_struct Tryz.underlying90 h
  have hxl' : xs.length = 7 := hxl
  have f3 : DataW.trod enc Tryz.prog w base spare held n 9 ((r.list.drop 11).take (Tryz.prog.cellsOf 9)) = xs[3]? := hf 3 _ rfl
  obtain ⟨y3, e3⟩ := some_at hxl' (show 3 < 7 by omega)
  rw [e3, Tryz.cells9] at f3
  obtain ⟨s, es, ey, _⟩ := DataW.trod_string Tryz.underlying9 f3
  have es' : r.s = s := by simpa [OpR.list] using es
  subst hx
  have hm : y3.1 ∈ xs.map (·.1) := List.mem_map.2 ⟨y3, List.mem_of_getElem? e3, rfl⟩
  have hb := bulk_mem hm
  rw [ey] at hb
  simp only [Rows.uptoBulk, Array.length_toList] at hb ⊢
  rw [es']
  have : s.data.size = s.size := rfl
  omega

/-- A script as the walk is told of it, with the bounds on its length and texts. -/
def Script2 (w : World) (a : Option Addr) (len : Nat) : Prop :=
  len = 0 ∨ ∃ b off, a = some ⟨b, off, none⟩ ∧ b < w.heap.size ∧ ∃ f : Nat → OpR, (∀ i, i < len → OpAt w b (off + i * 15) (f i)) ∧ ∀ i, i < len → (f i).s.size ≤ 1048576

theorem script2_of {fuel : Nat} {a : Option Addr} {len cap : Nat} {x : DataW H × List MemPlace} (h : DataW.trod enc Tryz.prog w base spare held fuel 22 [.slice a len cap] = some x) (hB : Rows.uptoBulk x.1 ≤ 1048576) : len ≤ 1048576 ∧ Script2 w a len := by
  rcases open_slice Tryz.underlying22 h with ⟨hcs, _⟩ | ⟨a', len', cap', m, n, D, Pl, hcs, _, hl, hm, hmm, hxe, hx⟩
  · simp at hcs
    obtain ⟨rfl, rfl, rfl⟩ := hcs
    exact ⟨by omega, .inl rfl⟩
  · simp at hcs
    obtain ⟨rfl, rfl, rfl⟩ := hcs
    have hB' : Rows.uptoBulkAll ((List.range len).map D) ≤ 1048576 := by
      rw [hxe] at hB
      simp only [Rows.uptoBulk] at hB
      omega
    have hlen : len ≤ 1048576 := by have := bulk_len ((List.range len).map D); simp at this; omega
    refine ⟨hlen, ?_⟩
    by_cases h0 : len = 0
    · exact .inl h0
    right
    have hmle : len ≤ m := by rw [hmm]; split <;> omega
    rw [Tryz.cells90] at hx
    have hop : ∀ i, i < len → ∃ r : OpR, (∀ j, j < 15 → w.cell? ((a'.add (i * 15)).add j) = r.list[j]?) ∧ r.s.size ≤ maxLen ∧ r.s.size ≤ 1048576 := fun i hi => by
      obtain ⟨cs', h1, h2⟩ := hx i (by omega)
      obtain ⟨r, rfl, hs⟩ := op_of_trod h2
      have hb := text_bulk h2
      have hd := bulk_mem (List.mem_map.2 ⟨i, List.mem_range.2 hi, rfl⟩ : D i ∈ (List.range len).map D)
      exact ⟨r, (World.cells?_some h1).2.2, hs, by simp only at hb; omega⟩
    obtain ⟨b, off, spot⟩ := a'
    have hspot : spot = none := by
      obtain ⟨r, hr, _⟩ := hop 0 (by omega)
      have := hr 0 (by omega)
      simp only [Nat.zero_mul, Addr.add, if_true, OpR.list, List.getElem?_cons_zero] at this
      simpa using World.cell?_spot this
    subst hspot
    have hop' : ∀ i, i < len → ∃ r : OpR, OpAt w b (off + i * 15) r ∧ r.s.size ≤ 1048576 := fun i hi => by
      obtain ⟨r, hr, hs, hs2⟩ := hop i hi
      simp only [add_plain] at hr
      refine ⟨r, ?_, hs2⟩
      have t : ∀ j, j < 15 → w.cell? ⟨b, off + i * 15 + j, none⟩ = r.list[j]? := hr
      exact ⟨t 0 (by omega), t 1 (by omega), t 2 (by omega), t 3 (by omega), t 4 (by omega), t 5 (by omega), t 6 (by omega), t 7 (by omega), t 8 (by omega), t 9 (by omega), t 10 (by omega), t 11 (by omega), t 12 (by omega), t 13 (by omega), t 14 (by omega), hs⟩
    have hblk : b < w.heap.size := by
      obtain ⟨r, hr, _⟩ := hop' 0 (by omega)
      exact lt_of_cell hr.1
    have hne : Nonempty OpR := let ⟨r, _⟩ := hop' 0 (by omega); ⟨r⟩
    refine ⟨b, off, rfl, hblk, ?_⟩
    classical
    refine ⟨fun i => if hi : i < len then Classical.choose (hop' i hi) else Classical.choice hne, fun i hi => ?_, fun i hi => ?_⟩
    · simp only [dif_pos hi]
      exact (Classical.choose_spec (hop' i hi)).1
    · simp only [dif_pos hi]
      exact (Classical.choose_spec (hop' i hi)).2
end

set_option maxRecDepth 100000 in
set_option maxHeartbeats 1000000 in
theorem plays_decodes_none (a : Option Addr) (cap : Nat) (w : World) :
    Calls Tryz.prog 14 #[.slice a 0 cap, .int .i64 2, .int .i64 2, .bool false] w fun e w' => e = .returned (.bool true) ∧ Below w.heap.size w w' := by
  go_enter Tryz.func14, Tryz.ntmps14
  go_wp2
  refine wp_loop_rounds 1 ?_
  rw [rounds_succ]
  go_wp2_with (first | (go_at_call 47; refine (ends_none w.heap.size 2 _ (by simp [go_sem])).mono ?_; rintro e w' ⟨rfl, rfl⟩) | (go_at_call 48; refine (looks_none w.heap.size _ (by simp [go_sem]) (by simp [go_sem])).mono ?_; rintro e w' ⟨rfl, rfl⟩))
  go_ret
  exact ⟨rfl, (Below.refl _ _).alloc (Nat.le_refl _) _⟩

set_option maxHeartbeats 400000 in
theorem decodes_walk (hD : SaidDecode) (a : Option Addr) (len cap : Nat) (w : World) (hlen : len ≤ 1048576) (hs : Script2 w a len) :
    Calls Tryz.prog 4 #[.slice a len cap] w fun e w' => e = .returned (.bool true) ∧ Below w.heap.size w w' := by
  have key : Calls Tryz.prog 14 #[.slice a len cap, .int .i64 2, .int .i64 2, .bool false] w fun e w' => e = .returned (.bool true) ∧ Below w.heap.size w w' := by
    rcases hs with rfl | ⟨b, off, rfl, hb, f, hf, hf2⟩
    · exact plays_decodes_none a cap w
    · exact plays_decodes hD b off len cap f w hlen hb hf hf2
  have K : Hid (Calls Tryz.prog 14 #[.slice a len cap, .int .i64 2, .int .i64 2, .bool false] w fun e w' => e = .returned (.bool true) ∧ Below w.heap.size w w') := key
  clear key hs
  go_enter Tryz.func4, Tryz.ntmps4
  go_wp2_with (go_at_call 14; refine K.out.mono ?_; rintro e w' ⟨rfl, hb⟩)
  go_ret
  exact ⟨rfl, hb⟩
end Go.Proofs.YtpobhljcainmdaaGreat
