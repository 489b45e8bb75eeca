/- Proved here: the iterator of a reader hands out the messages of its text, one behind the other; its memory keeps step with them. -/
import Derived.Test.YtpobhljcainmdaaGreatWire9
import Derived.RangeFuncNested
import Derived.RangeFuncBound
import Derived.RangeFuncCalls
import Derived.RangeFuncLeaves
import Derived.Shelf.Abstract
import Derived.Shelf.RegionOpen
import Derived.OwnWalkIn
import Derived.TacticsInMore
import Derived.LoopNIn
import Derived.LoopIn
namespace Go.Proofs.YtpobhljcainmdaaGreat
open Go.RowKit Go.Shelf
set_option linter.unusedSimpArgs false
attribute [local go_sem] Oper.semAt_some
attribute [local go_sem] alloc_drewN setCell_drewN

abbrev msgEnc (x : Msg × Int) : Array Value := #[.agg (msgL x.1.wh x.1.nm x.1.kd x.1.fl x.1.ck x.1.of x.1.ln x.1.dt x.1.er), .int .i64 x.2]

/-- How much text is left, read off the world. -/
def leftIn (W : World) (sb : Nat) : Nat := match W.cell? ⟨sb, 0, none⟩ with | some (.string t) => t.size | _ => 0

theorem leftIn_of {W : World} {rb mb cb sb : Nat} {sz mx : Int} {s : ByteArray} {st : St} (h : ItAt W rb mb cb sb sz mx s st) : leftIn W sb = s.size - st.pos := by
  simp [leftIn, World.cell?, h.tx, ByteArray.size_extract]

set_option maxRecDepth 100000 in
set_option maxHeartbeats 4000000 in
theorem iter_any (n : Nat) (hn : 1 ≤ n) (rb mb cb sb : Nat) (sz mx : Int) (s : ByteArray) (st : St) (W : World) (hz : 0 ≤ sz) (hlim : s.size ≤ 281474976710656) (hu : st.used.length ≤ 281474976710656) (hp : st.pos ≤ s.size) (h0 : ItAt W rb mb cb sb sz mx s st) :
    Iter Fence.wide n Tryz.prog 189 #[.pointer (some ⟨cb, 0, none⟩), .pointer (some ⟨sb, 0, none⟩)] msgEnc (ItR rb mb sb) (ItK rb mb cb sb) (Runs sz mx s st)
      (fun xs W' => Runs sz mx s st xs ∧ ((st.run xs).next sz mx s).2 = 0 ∧ ItAt W' rb mb cb sb sz mx s (st.run xs))
      (fun pre W' => Runs sz mx s st pre ∧ ItAt W' rb mb cb sb sz mx s (st.run pre)) W := by
  intro l J Jx hJ hJx hY hJ0
  refine callsIn_of_wp Tryz.func189 rfl trivial ?_ rfl
  simp only [Tryz.ntmps189, List.size_toArray, List.length_cons, List.length_nil, Nat.reduceAdd, Nat.reduceSub, Array.replicate_succ, Array.replicate_zero, List.push_toArray, List.append_toArray, List.nil_append, List.cons_append]
  gi_wp2
  gi_loopw [5] (fun _ wr => ∃ pre, Hid (Runs sz mx s st pre ∧ ItAt wr rb mb cb sb sz mx s (st.run pre) ∧ J pre wr)) (fun _ wr => leftIn wr sb)
  case atStart => exact ⟨[], trivial, h0, hJ0⟩
  case round =>
    obtain ⟨pre, hH⟩ := hrel
    obtain ⟨hruns, hit, hj⟩ := hH.out
    clear hH
    have hpos := runs_pos sz mx s st pre hp hruns
    have hus := run_used st pre
    generalize hst : st.run pre = st' at hit hpos hus
    obtain ⟨⟨m, nn⟩, hnx⟩ : ∃ x, st'.next sz mx s = x := ⟨_, rfl⟩
    have hin := next_in sz mx s st'
    rw [hnx] at hin
    have hck := first_ck sz mx st'.ph st'.used (s.extract st'.pos s.size)
    have hnx' : first sz mx st'.ph st'.used (s.extract st'.pos s.size) = (m, nn) := hnx
    rw [hnx'] at hck
    obtain ⟨t, ht⟩ : ∃ t, t = s.extract st'.pos s.size := ⟨_, rfl⟩
    have hts : t.size = s.size - st'.pos := by rw [ht]; simp [ByteArray.size_extract]
    have c1 : wr.cell? ⟨cb, 0, none⟩ = some (.pointer (some ⟨rb, 0, none⟩)) := by simp [World.cell?, hit.cp]
    have c2 : wr.cell? ⟨sb, 0, none⟩ = some (.string t) := by simp [World.cell?, hit.tx, ht]
    have hN : Hid (Calls Tryz.prog 190 #[.pointer (some ⟨rb, 0, none⟩), .string t] wr fun e w' => e = .returned (.tuple #[.agg (msgL m.wh m.nm m.kd m.fl m.ck m.of m.ln m.dt m.er), .int .i64 nn]) ∧ Below wr.heap.size wr w') := by
      have := next_any rb mb sz mx st'.ph st'.used t wr hz (by omega) hit.rd
      rw [ht, hnx'] at this
      rw [ht]
      exact this
    by_cases hn0 : nn = 0
    · subst hn0
      have HD : Hid (∀ w1, Below wr.heap.size wr w1 → (∃ xs, (Runs sz mx s st xs ∧ ((st.run xs).next sz mx s).2 = 0 ∧ ItAt (w1.alloc (.cells (msgL m.wh m.nm m.kd m.fl m.ck m.of m.ln m.dt m.er) 132)) rb mb cb sb sz mx s (st.run xs)) ∧ J xs (w1.alloc (.cells (msgL m.wh m.nm m.kd m.fl m.ck m.of m.ln m.dt m.er) 132)))) := fun w1 hb => by
        have hg : wr.grownBy (w1.alloc (.cells (msgL m.wh m.nm m.kd m.fl m.ck m.of m.ln m.dt m.er) 132)) none := (grown_of_below hb).trans (World.grownBy_alloc _ _ none)
        exact ⟨pre, ⟨hruns, by rw [hst, hnx], by rw [hst]; exact hit.later hg⟩, hJ _ _ _ none hj hg (fun r e => by cases e)⟩
      clear hruns hit hj hnx hnx' hck hin hpos hus hst hts ht
      gi_wp2_with (first | (refine ⟨trivial, ?_⟩; gi_at_call 190; refine (callsIn_wide.2 hN.out).mono ?_; rintro e w1 ⟨rfl, hb1⟩))
      refine bodyPost_ret (results_none rfl _ _ _) rfl ?_
      exact ⟨⟨_, rfl⟩, .inl (HD.out w1 hb1)⟩
    · have hb0 : (nn == 0) = false := by simpa using hn0
      have hv : Runs sz mx s st (pre ++ [(m, nn)]) := (runs_snoc sz mx s st pre (m, nn)).2 ⟨hruns, by rw [hst, hnx], hn0⟩
      have hle : nn ≤ (t.size : Int) := by rw [hts]; exact hin.2
      have hge : 0 ≤ nn := hin.1
      have hul : st'.used.length < maxLen := by unfold maxLen; omega
      have hsnoc : st.run (pre ++ [(m, nn)]) = st'.step (m, nn) := by rw [St.run_snoc, hst]
      -- what holds ahead of yield, behind next, the box, follow and the cut
      have HF : Hid (∀ w1, Below wr.heap.size wr w1 → Calls Tryz.prog 191 #[.pointer (some ⟨rb, 0, none⟩), .agg (msgL m.wh m.nm m.kd m.fl m.ck m.of m.ln m.dt m.er)] (w1.alloc (.cells (msgL m.wh m.nm m.kd m.fl m.ck m.of m.ln m.dt m.er) 132)) fun e w2 => e = .returned (.tuple #[]) ∧ (w2.cell? ⟨sb, 0, none⟩ = some (.string t) ∧ w2.frozen? ⟨sb, 0, none⟩ = false ∧ MsgAt w2 w1.heap.size m ∧ sb < w1.heap.size ∧
          ItAt (w2.setCell ⟨sb, 0, none⟩ (.string (t.extract nn.toNat t.size))) rb mb cb sb sz mx s (st'.step (m, nn)) ∧ J pre (w2.setCell ⟨sb, 0, none⟩ (.string (t.extract nn.toNat t.size))))) := fun w1 hb => by
        have hg : wr.grownBy (w1.alloc (.cells (msgL m.wh m.nm m.kd m.fl m.ck m.of m.ln m.dt m.er) 132)) none := (grown_of_below hb).trans (World.grownBy_alloc _ _ none)
        have hit1 := hit.later hg
        have hsb : sb < wr.heap.size := (Array.getElem?_eq_some_iff.1 hit.tx).1
        have hsb1 : sb < w1.heap.size := Nat.lt_of_lt_of_le hsb hb.size
        refine (follow_any rb mb sz mx st'.ph st'.used m (w1.alloc (.cells (msgL m.wh m.nm m.kd m.fl m.ck m.of m.ln m.dt m.er) 132)) hit1.rd hck hul).mono ?_
        rintro e w2 ⟨he, hr2, ht2⟩
        have hst2 := hit1.step (n := nn) hr2 ht2
        obtain ⟨row, hg2, hrow⟩ := ht2
        have hap := hit.apart
        have htx : w2.heap[sb]? = _ := (hg2.block sb (Array.getElem?_eq_some_iff.1 hit1.tx).1 (fun e => (hrow _ e.symm).elim (fun e => hap.1 e.symm) (fun e => hap.2.1 e.symm))).trans hit1.tx
        have hcut : t.extract nn.toNat t.size = s.extract (st'.pos + nn.toNat) s.size := by rw [ht]; exact extract_more s st'.pos nn.toNat (by omega)
        rw [hcut]
        have hm2 : MsgAt w2 w1.heap.size m := MsgAt.far (w := w1.alloc (.cells (msgL m.wh m.nm m.kd m.fl m.ck m.of m.ln m.dt m.er) 132)) (row := row) (by simp [MsgAt, go_sem]) hg2 (by simp) (fun e => by
          have := hit1.rd.lt
          have h1 := hit.rd.lt
          have := hb.size
          rcases hrow _ e.symm with e | e <;> omega)
        exact ⟨he, by simp [World.cell?, htx, ht], by simp [World.frozen?, htx], hm2, hsb1, hst2,
          hJ _ _ _ (some sb) (hJ _ _ _ row (hJ _ _ _ none hj hg (fun r e => by cases e)) hg2 (fun r e => (hrow r e).elim .inl (fun h => .inr (.inl h)))) (grown_set _ _ _ _) (fun r e => .inr (.inr (by cases e; rfl)))⟩
      have HY : Hid (∀ W1, J pre W1 → YieldAt Fence.wide (n - 1) Tryz.prog l (msgEnc (m, nn)) W1 fun e W' => (e = .returned (.bool true) ∧ J (pre ++ [(m, nn)]) W' ∧ ItK rb mb cb sb W1 W') ∨ (e = .returned (.bool false) ∧ Jx (pre ++ [(m, nn)]) W' ∧ ItK rb mb cb sb W1 W')) := fun W1 hj1 => hY pre (m, nn) W1 hj1 hv
      have HV : Hid (Runs sz mx s st (pre ++ [(m, nn)]) ∧ st.run (pre ++ [(m, nn)]) = st'.step (m, nn) ∧ leftIn wr sb = s.size - st'.pos ∧ st'.pos + nn.toNat ≤ s.size) := ⟨hv, hsnoc, leftIn_of hit, by omega⟩
      clear hruns hit hj hnx hnx' hck hpos hus hst ht hv hsnoc hul hin hts
      gi_wp2_with (first | (refine ⟨trivial, ?_⟩; gi_at_call 190; refine (callsIn_wide.2 hN.out).mono ?_; rintro e w1 ⟨rfl, hb1⟩; have HB1 : Hid (Below wr.heap.size wr w1) := hb1; obtain ⟨hcc, hff⟩ := bcell hb1; clear hb1; have cc1 : w1.cell? ⟨cb, 0, none⟩ = some (.pointer (some ⟨rb, 0, none⟩)) := (HB1.out.cell (blk_of_cell c1)).trans c1; have hx : ∀ (ob : Obj) (o : Nat), (w1.alloc ob).cell? ⟨cb, o, none⟩ = w1.cell? ⟨cb, o, none⟩ := (fun ob o => World.cell?_of_block (Below.heap_alloc w1 ob _ (blk_of_cell cc1)))) | (refine ⟨trivial, ?_⟩; gi_at_call 191; refine (callsIn_wide.2 (HF.out w1 HB1.out)).mono ?_; rintro e w2 ⟨rfl, d2, df, ⟨m0, m1, m2, m3, m4, m5, m6, m7, m8⟩, hsb1, hit4, hj4⟩; have nsb : ¬ sb = w1.heap.size := (by omega); obtain ⟨fn, tmps, assign, body, hy, hRd⟩ := HY.out _ hj4; have HI4 : Hid (ItAt (w2.setCell ⟨sb, 0, none⟩ (.string (t.extract nn.toNat t.size))) rb mb cb sb sz mx s (st'.step (m, nn))) := hit4; clear hit4 hj4))
      refine hRd.mono ?_
      rintro e W3 (⟨rfl, hJ3, hk3⟩ | ⟨rfl, hJx3, hk3⟩)
      · have hit3 := HI4.out.kept hk3
        have HI3 : Hid (ItAt W3 rb mb cb sb sz mx s (st'.step (m, nn))) := hit3
        have HJ3 : Hid (J (pre ++ [(m, nn)]) W3) := hJ3
        clear hit3 hJ3 hk3 hRd hy
        gi_wp2
        go_roundw
        case rel => exact ⟨pre ++ [(m, nn)], HV.out.1, by rw [HV.out.2.1]; exact HI3.out, HJ3.out⟩
        case measure =>
          rw [HV.out.2.2.1, leftIn_of HI3.out]
          have := HV.out.2.2.2
          have h1 : (st'.step (m, nn)).pos = st'.pos + nn.toNat := rfl
          rw [h1]
          omega
      · have hit3 := HI4.out.kept hk3
        have HI3 : Hid (ItAt W3 rb mb cb sb sz mx s (st'.step (m, nn))) := hit3
        have HJ3 : Hid (Jx (pre ++ [(m, nn)]) W3) := hJx3
        clear hit3 hJx3 hk3 hRd hy
        gi_wp2
        refine bodyPost_ret (results_none rfl _ _ _) rfl ?_
        exact ⟨⟨_, rfl⟩, .inr ⟨pre ++ [(m, nn)], ⟨HV.out.1, by rw [HV.out.2.1]; exact HI3.out⟩, HJ3.out⟩⟩
end Go.Proofs.YtpobhljcainmdaaGreat
