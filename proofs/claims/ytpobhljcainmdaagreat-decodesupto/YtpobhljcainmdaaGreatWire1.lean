/- Proved here: what the program's small functions on texts and requests answer (oneByte, twoBytes, flagFits, rangeFits, strings.Clone). -/
import Derived.Test.YtpobhljcainmdaaGreatRef1
import Derived.Lib.Strings
import Derived.Lib.Walk
import Derived.Lib.BufferWrite
import Derived.Lib.UnsafeStr
import Derived.Laws.MakeOwn
namespace Go.Proofs.YtpobhljcainmdaaGreat
open Go.RowKit

set_option maxHeartbeats 400000 in
theorem oneByte_any (b : UInt8) (w : World) :
    Calls Tryz.prog 237 #[.int .u8 (b.toNat : Int)] w fun e w' => e = .returned (.string ⟨#[b]⟩) ∧ Below w.heap.size w w' := by
  have kc := run_convert_bytes_back (P := Tryz.prog) (w.alloc (.cells #[.int .u8 (b.toNat : Int)] 5)) 158 9 5 ⟨w.heap.size, 0, none⟩ 1 [b] Tryz.underlying158 Tryz.underlying5 Tryz.underlying9
  have hc : ∀ (j : Nat) (hj : j < [b].length), (w.alloc (.cells #[.int .u8 (b.toNat : Int)] 5)).cell? ((⟨w.heap.size, 0, none⟩ : Addr).add j) = some (.int .u8 (([b] : List UInt8)[j].toNat : Int)) := by
    intro j hj
    match j, hj with
    | 0, _ => simp only [List.getElem_cons_zero]; simp [Addr.add, go_sem]
  have kd : (convert 158 9 (.slice (some ⟨w.heap.size, 0, none⟩) 1 1)).run Tryz.prog (w.alloc (.cells #[.int .u8 (b.toNat : Int)] 5)) = .ok (.string ⟨#[b]⟩) (w.alloc (.cells #[.int .u8 (b.toNat : Int)] 5)) := kc hc
  clear kc hc
  go_enter Tryz.func237, Tryz.ntmps237
  go_wp2
  go_ret
  exact ⟨rfl, (Below.refl _ _).alloc (Nat.le_refl _) _⟩

set_option maxHeartbeats 400000 in
theorem twoBytes_any (s : ByteArray) (w : World) (hs : s.size ≤ maxLen) (hi : 1 < s.size) :
    Calls Tryz.prog 273 #[.string s] w fun e w' => e = .returned (.int .i64 (two s 0)) ∧ ∃ n, w' = w.drewN n := by
  unfold maxLen at hs
  have hi0 : 0 < s.size := by omega
  have e1 := bt_eq s 0 hi0
  have e2 := bt_eq s 1 hi
  have r1 := bt_range s 0
  have r2 := bt_range s 1
  go_enter Tryz.func273, Tryz.ntmps273
  go_wp2
  go_quiet (fail)
  go_wp2
  go_ret
  refine ⟨ret_int ?_, _, rfl⟩
  simp only [two]
  go_light
  rw [Nat.zero_add]
  omega

def flagB (m : Msg) : Bool := if m.kd = 1 ∨ m.kd = 3 ∨ m.kd = 4 then decide (m.fl ≤ 1) else decide (m.fl = 0)
def rangeB (m : Msg) : Bool := if m.kd = 2 ∨ m.kd = 5 then decide (m.of = 0 ∧ m.ln = 0) else decide (m.ln ≠ 0 ∧ m.of % 4 = 0 ∧ m.ln % 4 = 0)

set_option maxRecDepth 100000 in
set_option maxHeartbeats 1000000 in
theorem flagFits_any (m : Msg) (w : World) :
    Calls Tryz.prog 274 #[.agg (msgL m.wh m.nm m.kd m.fl m.ck m.of m.ln m.dt m.er)] w fun e w' => e = .returned (.bool (flagB m)) ∧ Below w.heap.size w w' := by
  obtain ⟨wh, nm, kd, fl, ck, of, ln, dt, er⟩ := m
  go_enter Tryz.func274, Tryz.ntmps274
  go_wp2
  all_goals (go_ret; refine ⟨?_, (Below.refl _ _).alloc (Nat.le_refl _) _⟩; go_light; simp_all [flagB]; try rfl)

set_option maxRecDepth 100000 in
set_option maxHeartbeats 1000000 in
theorem rangeFits_any (m : Msg) (w : World) (h0 : 0 ≤ m.of) (h1 : 0 ≤ m.ln) :
    Calls Tryz.prog 275 #[.agg (msgL m.wh m.nm m.kd m.fl m.ck m.of m.ln m.dt m.er)] w fun e w' => e = .returned (.bool (rangeB m)) ∧ Below w.heap.size w w' := by
  obtain ⟨wh, nm, kd, fl, ck, of, ln, dt, er⟩ := m
  dsimp only at h0 h1
  go_enter Tryz.func275, Tryz.ntmps275
  go_wp2
  all_goals (go_ret; refine ⟨?_, (Below.refl _ _).alloc (Nat.le_refl _) _⟩; go_light; simp_all [rangeB]; try (first | omega | (rw [Bool.eq_iff_iff]; simp_all)))

theorem Tryz.infoByte : (Tryz.prog.info? 5).map (fun i => (i.zero, i.size, i.bytes)) = some (some (.int .u8 0), 1, 1) := by kernel_rfl

set_option maxHeartbeats 4000000 in
set_option maxRecDepth 100000 in
theorem lite_any (s : ByteArray) (w : World) (hlim : s.size ≤ 281474976710656) :
    Calls Tryz.prog 171 #[.string s] w fun e w' => e = .returned (.string s) ∧ Below w.heap.size w w' := by
  by_cases h0 : s.size = 0
  · obtain rfl : s = ⟨#[]⟩ := ByteArray.ext (Array.eq_empty_of_size_eq_zero h0)
    go_enter Tryz.func171, Tryz.ntmps171
    go_wp2
    go_ret
    exact ⟨rfl, Below.refl _ _⟩
  · obtain ⟨i0, hi, hz0, hz1, hz2⟩ := info_parts Tryz.infoByte
    have hinfo : (Tryz.prog.info? 5).map (·.size) = some 1 := by rw [hi]; simp [hz1]
    have hco : Tryz.prog.cellsOf 5 = 1 := by simp [Program.cellsOf, hi, hz1]
    obtain ⟨M, hM⟩ : ∃ M, M = madeCells (Value.int .u8 0).cells (((s.size : Nat) : Int).toNat * i0.size) := ⟨_, rfl⟩
    have hMs : M.size = s.size := by rw [hM, size_madeCells, hz1]; simp
    have hmk : ∀ W : World, (Instr.makeSlice 158 (.int .i64 (s.size : Int)) (.int .i64 (s.size : Int))).run Tryz.prog W = .ok (.slice (some ⟨W.heap.size, 0, none⟩) s.size s.size) (W.alloc (.cells M 5)) := fun W => by
      have h := run_make (P := Tryz.prog) W 158 5 i0 (.int .u8 0) Tryz.underlying158 hi hz0 .i64 .i64 (s.size : Int) (s.size : Int) (by omega) (by omega) (by rw [hz2]; omega) (by omega)
      rw [← hM] at h
      simpa using h
    clear hM
    have hcp := Lib.run_copy_row_string (P := Tryz.prog) (w.alloc (.cells M 5)) 158 9 3 5 w.heap.size 0 s.size s.size s M 5 Tryz.underlying158 hinfo (heap_alloc_new w _) (Nat.le_refl _) (by omega)
    obtain ⟨Y, hY⟩ : ∃ Y, Y = (M.toList.take 0 ++ Lib.byteCells s.data.toList ++ M.toList.drop (0 + s.size)).toArray := ⟨_, rfl⟩
    rw [← hY] at hcp
    have hYl : Y.toList = Lib.byteCells s.data.toList := by
      rw [hY, List.toList_toArray, List.take_zero, List.nil_append, List.drop_of_length_le (by rw [Array.length_toList]; omega), List.append_nil]
    have hYs : Y.size = s.size := by rw [← Array.length_toList, hYl, Lib.byteCells_length, ← Lib.size_eq]
    have hgY : ((w.alloc (.cells M 5)).setRow w.heap.size Y).heap[w.heap.size]? = some (.cells Y 5 (0, 0)) := setRow_heap _ _ M _ 5 (0, 0) (heap_alloc_new w _)
    have hne : s.data.toList ≠ [] := fun e => h0 (by rw [Lib.size_eq, e]; rfl)
    have hUS := Lib.run_unsafeString_row (P := Tryz.prog) ((w.alloc (.cells M 5)).setRow w.heap.size Y) 262 3 9 5 Tryz.underlying262 hco w.heap.size Y.size (by unfold World.shape?; rw [hgY]) s.data.toList hne (by rw [← Lib.size_eq]; omega) (by rw [← Lib.size_eq]; omega)
      (fun j x hx => Lib.cells_of_row hgY Y.size j _ (by rw [List.take_of_length_le (by rw [Array.length_toList]; exact Nat.le_refl _), hYl]; simp [Lib.byteCells, hx]))
    rw [← Lib.size_eq] at hUS
    clear hY
    go_enter Tryz.func171, Tryz.ntmps171
    go_wp2
    go_ret
    have hb1 : Below w.heap.size w (w.alloc (.cells M 5)) := (Below.refl _ w).alloc (Nat.le_refl _) _
    have hb2 : Below w.heap.size (w.alloc (.cells M 5)) ((w.alloc (.cells M 5)).setRow w.heap.size Y) := ⟨rfl, rfl, rfl, by simp, fun k hk => setRow_other _ _ _ _ (by omega)⟩
    exact ⟨rfl, Lib.below_freeze (hb1.trans hb2) (p := ⟨w.heap.size, 0, none⟩) (Nat.le_refl _) _⟩

set_option maxHeartbeats 400000 in
theorem clone_any (s : ByteArray) (w : World) (hlim : s.size ≤ 281474976710656) :
    Calls Tryz.prog 117 #[.string s] w fun e w' => e = .returned (.string s) ∧ Below w.heap.size w w' := by
  go_enter Tryz.func117, Tryz.ntmps117
  go_wp2_with (go_at_call 171; refine (lite_any s _ hlim).mono ?_; rintro e w' ⟨rfl, hb⟩)
  go_ret
  exact ⟨rfl, hb⟩
end Go.Proofs.YtpobhljcainmdaaGreat
