/- Proved here: a list that came out is written full with its owner's mark, and grows (the walk). -/
import Derived.Test.YtpobhljcainmdaaGreatLaw2
namespace Go.Proofs.YtpobhljcainmdaaGreat
open Go.RowKit
set_option linter.unusedSimpArgs false
attribute [local go_sem ↓] Go.wp_at_zero Go.wp_at_succ
attribute [local go_sem] alloc_drewN setCell_drewN

/-- What stays while a list is written full: the law's own World, the mark, the lists of lists, the older lists. -/
structure Tr (b B bm k : Nat) (vms vmm : Value) (ls : List Value) (ks : List Int) (w X : World) : Prop where
  box : X.heap[b]? = some (.cells (worldL vms vmm ((k : Int) + 1)) 87 (0, 0))
  mark : MsgAt X bm (markM (-((k : Int) + 1)))
  lt : bm < X.heap.size
  ms : X.ownsRow (b + 1) 152 1 vms (4 * k) ls
  mm : X.ownsRow (b + 1) 3 1 vmm (4 * k) (ks.map (fun n => Value.int .i64 n))
  old : ∀ u nu yu, w.ownsRow (b + 1) 132 9 u nu yu → (∀ g, u.ownBlock = some g → g < B) → X.ownsRow (b + 1) 132 9 u nu yu
  below : Below b w X

theorem Tryz.infoMsgs : (Tryz.prog.info? 152).map (fun i => (i.zero, i.size, i.bytes)) = some (some (.slice none 0 0), 1, 24) := by kernel_rfl

theorem kwrap (k : Nat) (h : k ≤ 1048576) : IntKind.i64.wrap (-((k : Int) + 1)) = -((k : Int) + 1) := by
  rw [IntKind.wrap_i64]
  omega

theorem gtrans {a b c : World} {row : Option Nat} (h : a.grownBy b row) (k : b.grownBy c row) : a.grownBy c row :=
  ⟨k.os.trans h.os, k.tape.trans h.tape, k.output.trans h.output, Nat.le_trans h.size k.size, fun i hi hne => (k.block i (Nat.lt_of_lt_of_le hi h.size) hne).trans (h.block i hi hne)⟩

theorem Rel.refl {B : Nat} {K : Int} {w : World} {v : Value} {n : Nat} (h : MRow B K w v n) : Rel v n v n := by
  rcases h.2 with ⟨rfl, _⟩ | ⟨g, cap, _, rfl, _⟩
  · exact .inl rfl
  · exact .inr (.inr ⟨g, cap, rfl, rfl⟩)

theorem apart2 {w : World} {B1 B2 e1 e2 n1 n2 s1 s2 : Nat} {v1 v2 : Value} {x1 x2 : List Value} (h1 : w.ownsRow B1 e1 s1 v1 n1 x1) (h2 : w.ownsRow B2 e2 s2 v2 n2 x2) (hne : e1 ≠ e2) : v1.ownBlock = none ∨ v1.ownBlock ≠ v2.ownBlock :=
  rows_apart (row_base h1 (Nat.zero_le _)) (row_base h2 (Nat.zero_le _)) hne

variable {b B bm k : Nat} {vms vmm : Value} {ls : List Value} {ks : List Int} {w X Y : World}

theorem Tr.grown {v : Value} {n : Nat} {xs : List Value} (h : Tr b B bm k vms vmm ls ks w X) (hbB : b < B) (hv : X.ownsRow B 132 9 v n xs) (hbm : v.ownBlock ≠ some bm) (hg : X.grownBy Y v.ownBlock) : Tr b B bm k vms vmm ls ks w Y where
  box := (hg.block b (Array.getElem?_eq_some_iff.1 h.box).1 (fun e => by have := (row_lt hv b e.symm).2; omega)).trans h.box
  mark := h.mark.far hg h.lt (fun e => hbm e.symm)
  lt := Nat.lt_of_lt_of_le h.lt hg.size
  ms := h.ms.kept hg (apart2 h.ms hv (by decide))
  mm := h.mm.kept hg (apart2 h.mm hv (by decide))
  old := fun u nu yu hu hlt => (h.old u nu yu hu hlt).kept hg (by
    cases hb : u.ownBlock with
    | none => exact .inl rfl
    | some g => exact .inr (fun e => by have h1 := hlt g hb; have h2 := (row_lt hv g e.symm).2; omega))
  below := h.below.grown hg (by have := (Array.getElem?_eq_some_iff.1 h.box).1; omega) (fun g e => by have := (row_lt hv g e).2; omega)

theorem Tr.alloc (h : Tr b B bm k vms vmm ls ks w X) (o : Obj) : Tr b B bm k vms vmm ls ks w (X.alloc o) where
  box := (Below.heap_alloc X o b (Array.getElem?_eq_some_iff.1 h.box).1).trans h.box
  mark := h.mark.later ((Below.refl _ _).alloc (Nat.le_refl _) o) h.lt
  lt := by rw [World.size_alloc]; exact Nat.lt_succ_of_lt h.lt
  ms := h.ms.alloc o
  mm := h.mm.alloc o
  old := fun u nu yu hu hlt => (h.old u nu yu hu hlt).alloc o
  below := h.below.alloc (by have := (Array.getElem?_eq_some_iff.1 h.box).1; omega) o

/-- What ownMessages leaves. -/
def OwnDone (b B k n : Nat) (v : Value) (ls : List Value) (ks : List Int) (w w' : World) : Prop :=
  ∃ vms vmm v1 v2 v3, w'.heap[b]? = some (.cells (worldL vms vmm ((k : Int) + 1)) 87 (0, 0)) ∧ w'.ownsRow (b + 1) 152 1 vms (4 * k + 4) (ls ++ [v, v1, v2, v3]) ∧
    w'.ownsRow (b + 1) 3 1 vmm (4 * k + 4) ((ks ++ [-((k : Int) + 1), -((k : Int) + 1), -((k : Int) + 1), -((k : Int) + 1)]).map (fun n => Value.int .i64 n)) ∧
    MRow B (-((k : Int) + 1)) w' v n ∧ MRow B (-((k : Int) + 1)) w' v1 (n + 1) ∧ MRow B (-((k : Int) + 1)) w' v2 (n + 2) ∧ MRow B (-((k : Int) + 1)) w' v3 (n + 3) ∧
    (∀ u nu yu, w.ownsRow (b + 1) 132 9 u nu yu → (∀ g, u.ownBlock = some g → g < B) → w'.ownsRow (b + 1) 132 9 u nu yu) ∧ Below b w w'

/-- The end of ownMessages: all that is to be said of the last world. -/
theorem own_done {b B bm k n : Nat} {vms vmm v : Value} {ls : List Value} {ks : List Int} {w w4 w5 w7 : World} {v1 v2 v3 : Value} {g5 cap5 g7 cap7 : Nat} {o1 o2 : Obj} (hbB : b < B) (hk : k ≤ 1048576)
    (T4 : Tr b B bm k vms vmm ls ks w w4) (V4 : MRow B (-((k : Int) + 1)) w4 v n) (A4 : MRow B (-((k : Int) + 1)) w4 v1 (n + 1)) (B4 : MRow B (-((k : Int) + 1)) w4 v2 (n + 2)) (C4 : MRow B (-((k : Int) + 1)) w4 v3 (n + 3))
    (hr5 : w5.ownsRow (b + 1) 152 1 (.slice (some ⟨g5, 0, none⟩) (4 * k + 4) cap5) (4 * k + 4) (ls ++ [v, v1, v2, v3])) (hg5 : (w4.alloc o1).grownBy w5 vms.ownBlock)
    (X5 : w5.heap[b]? = some (.cells (worldL vms vmm ((k : Int) + 1)) 87 (0, 0)))
    (hr7 : w7.ownsRow (b + 1) 3 1 (.slice (some ⟨g7, 0, none⟩) (4 * k + 4) cap7) (4 * k + 4) (ks.map (fun n => Value.int .i64 n) ++ [.int .i64 (IntKind.i64.wrap (-((k : Int) + 1))), .int .i64 (IntKind.i64.wrap (-((k : Int) + 1))), .int .i64 (IntKind.i64.wrap (-((k : Int) + 1))), .int .i64 (IntKind.i64.wrap (-((k : Int) + 1)))]))
    (hg7 : ((w5.setCell ⟨b, 1, none⟩ (.slice (some ⟨g5, 0, none⟩) (4 * k + 4) cap5)).alloc o2).drew.grownBy w7 vmm.ownBlock)
    (X7 : w7.heap[b]? = some (.cells (worldL (.slice (some ⟨g5, 0, none⟩) (4 * k + 4) cap5) vmm ((k : Int) + 1)) 87 (0, 0))) :
    OwnDone b B k n v ls ks w (w7.setCell ⟨b, 2, none⟩ (.slice (some ⟨g7, 0, none⟩) (4 * k + 4) cap7)) := by
  rw [kwrap k hk] at hr7
  have nb : ∀ {W : World} {B' e c m : Nat} {u : Value} {ys : List Value}, W.ownsRow B' e c u m ys → b < B' → u.ownBlock = none ∨ u.ownBlock ≠ some b := fun h hlt => by
    refine .inr (fun e => ?_)
    have := (row_lt h b e).2
    omega
  have g6 := grown_set w5 b 1 (.slice (some ⟨g5, 0, none⟩) (4 * k + 4) cap5)
  have g8 := grown_set w7 b 2 (.slice (some ⟨g7, 0, none⟩) (4 * k + 4) cap7)
  have m5 : w5.ownsRow (b + 1) 3 1 vmm (4 * k) (ks.map (fun n => Value.int .i64 n)) := (T4.mm.alloc _).kept hg5 (apart2 T4.mm T4.ms (by decide))
  have m6 := ((m5.kept g6 (nb m5 (by omega))).alloc o2).drew
  have mv : ∀ {B' : Nat} {u : Value} {nu : Nat} {yu : List Value}, b < B' → w4.ownsRow B' 132 9 u nu yu → (w7.setCell ⟨b, 2, none⟩ (.slice (some ⟨g7, 0, none⟩) (4 * k + 4) cap7)).ownsRow B' 132 9 u nu yu := fun hlt hu => by
    have h5 := (hu.alloc o1).kept hg5 (apart2 hu T4.ms (by decide))
    have h6 := ((h5.kept g6 (nb h5 hlt)).alloc o2).drew
    have h7 := h6.kept hg7 (apart2 h6 m6 (by decide))
    exact h7.kept g8 (nb h7 hlt)
  have s6 := ((hr5.kept g6 (nb hr5 (by omega))).alloc o2).drew
  have s7 := s6.kept hg7 (apart2 s6 m6 (by decide))
  have hb5 : b < w5.heap.size := (Array.getElem?_eq_some_iff.1 X5).1
  have hb4 : b < w4.heap.size := (Array.getElem?_eq_some_iff.1 T4.box).1
  refine ⟨.slice (some ⟨g5, 0, none⟩) (4 * k + 4) cap5, .slice (some ⟨g7, 0, none⟩) (4 * k + 4) cap7, v1, v2, v3, (heap_set X7 _).trans (by simp), s7.kept g8 (nb s7 (by omega)), ?_, mv hbB V4, mv hbB A4, mv hbB B4, mv hbB C4, fun u nu yu hu hlt => mv (by omega) (T4.old u nu yu hu hlt), ?_⟩
  · have := hr7.kept g8 (nb hr7 (by omega))
    rw [List.map_append]
    exact this
  · have b5 := (T4.below.alloc (by omega) o1).grown hg5 (by simp; omega) (fun g e => by have := (row_lt T4.ms g e).2; omega)
    have b6 := ((b5.setCell (p := ⟨b, 1, none⟩) (Nat.le_refl _) (.slice (some ⟨g5, 0, none⟩) (4 * k + 4) cap5)).alloc (by simp [World.setCell]; omega) o2).drew
    have b7 := b6.grown hg7 (by simp [World.setCell]; omega) (fun g e => by have := (row_lt m6 g e).2; omega)
    exact b7.setCell (p := ⟨b, 2, none⟩) (Nat.le_refl _) _

set_option maxRecDepth 100000 in
set_option maxHeartbeats 1000000 in
theorem own_any (b : Nat) (vms vmm v : Value) (k n : Nat) (ls : List Value) (ks : List Int) (xs : List Value) (B : Nat) (w : World)
    (hW : w.heap[b]? = some (.cells (worldL vms vmm k) 87 (0, 0))) (hk : k ≤ 1048576) (hn : n ≤ 1048576) (hbB : b < B) (hB : B ≤ w.heap.size)
    (hms : w.ownsRow (b + 1) 152 1 vms (4 * k) ls) (hmm : w.ownsRow (b + 1) 3 1 vmm (4 * k) (ks.map (fun n => Value.int .i64 n))) (hv : w.ownsRow B 132 9 v n xs) :
    Calls Tryz.prog 123 #[.pointer (some ⟨b, 0, none⟩), v] w fun e w' => e = .returned (.tuple #[]) ∧ OwnDone b B k n v ls ks w w' := by
  obtain ⟨va, vc, rfl⟩ : ∃ va vc, v = .slice va n vc := by
    rcases hv.2 with ⟨h, h0⟩ | ⟨g, cap, _, h, _⟩
    · exact ⟨none, 0, by rw [h0]; exact h⟩
    · exact ⟨_, _, h⟩
  obtain ⟨c0, c1, c2, c3, c4, c5, cf⟩ := cellsW hW
  have hbs : b < w.heap.size := (Array.getElem?_eq_some_iff.1 hW).1
  have nb : ∀ {B' e k n : Nat} {u : Value} {ys : List Value}, w.ownsRow B' e k u n ys → b < B' → u.ownBlock = none ∨ u.ownBlock ≠ some b := fun h hlt => by
    refine .inr (fun e => ?_)
    have := (row_lt h b e).2
    omega
  have g0 := grown_set w b 5 (.int .i64 ((k : Int) + 1))
  have T0 : Tr b B w.heap.size k vms vmm ls ks w ((w.setCell ⟨b, 5, none⟩ (.int .i64 ((k : Int) + 1))).alloc (.cells (msgL (-((k : Int) + 1)) ⟨#[]⟩ 0 0 0 0 0 ⟨#[]⟩ 0) 132)) := by
    have hb' : (w.setCell ⟨b, 5, none⟩ (.int .i64 ((k : Int) + 1))).heap[b]? = some (.cells (worldL vms vmm ((k : Int) + 1)) 87 (0, 0)) := (heap_set hW _).trans (by simp)
    refine ⟨(Below.heap_alloc _ _ b (Array.getElem?_eq_some_iff.1 hb').1).trans hb', ?_, by simp [World.setCell], (hms.kept g0 (nb hms (by omega))).alloc _, (hmm.kept g0 (nb hmm (by omega))).alloc _, fun u nu yu hu _ => (hu.kept g0 (nb hu (by omega))).alloc _, ?_⟩
    · simp [MsgAt, markM, go_sem, World.setCell]
    · exact ((Below.refl b w).setCell (p := ⟨b, 5, none⟩) (Nat.le_refl _) _).alloc (by simp [World.setCell]; omega) _
  have V0 : ((w.setCell ⟨b, 5, none⟩ (.int .i64 ((k : Int) + 1))).alloc (.cells (msgL (-((k : Int) + 1)) ⟨#[]⟩ 0 0 0 0 0 ⟨#[]⟩ 0) 132)).ownsRow B 132 9 (.slice va n vc) n xs := (hv.kept g0 (nb hv hbB)).alloc _
  have hbm : (Value.slice va n vc).ownBlock ≠ some w.heap.size := fun e => by have := (row_lt hv _ e).1; omega
  go_enter Tryz.func123, Tryz.ntmps123
  go_upto_block 0 with fail
  obtain ⟨w0, hw0⟩ : ∃ w0, w0 = (w.setCell ⟨b, 5, none⟩ (.int .i64 ((k : Int) + 1))).alloc (.cells (msgL (-((k : Int) + 1)) ⟨#[]⟩ 0 0 0 0 0 ⟨#[]⟩ 0) 132) := ⟨_, rfl⟩
  rw [← hw0] at T0 V0 ⊢
  have hz0 : w0.heap.size = w.heap.size + 1 := by rw [hw0]; simp [World.setCell]
  have HT : Hid (Tr b B w.heap.size k vms vmm ls ks w w0) := T0
  have HV : Hid (w0.ownsRow B 132 9 (.slice va n vc) n xs) := V0
  clear T0 V0 hw0 g0 nb c0 c1 c2 c3 c4 c5 cf
  go_cut [5] (fun _ w' => w0.grownBy w' (Value.slice va n vc).ownBlock ∧ MRow B (-((k : Int) + 1)) w' (.slice va n vc) n)
  case first =>
    rcases HV.out.2 with ⟨hv', h0⟩ | ⟨g, cap, cur, hv', hgB, hh, hnc, hcm, hcs, htk⟩
    · cases hv'
      go_wp2
      refine wp_loop_rounds 1 ?_
      rw [rounds_succ]
      go_wp2_with fail
      go_meet
      case rel => exact ⟨⟨rfl, rfl, rfl, Nat.le_refl _, fun _ _ _ => rfl⟩, ⟨marks_length _ _, .inl ⟨rfl, rfl⟩⟩⟩
    · cases hv'
      have hgm : g ≠ w.heap.size := fun e => hbm (by rw [e]; rfl)
      obtain ⟨x0, x1, x2, x3, x4, x5, x6, x7, x8⟩ := HT.out.mark
      dsimp only [markM] at x0 x1 x2 x3 x4 x5 x6 x7 x8
      have HC : Hid (w0.heap[g]? = some (.cells cur 132 (0, 0))) := hh
      have HL : Hid (cur.size = vc * 9) := hcs
      have hgl : g < w0.heap.size := (Array.getElem?_eq_some_iff.1 hh).1
      clear hh hcs htk
      go_wp2
      go_loopw [5] (fun i wr => ∃ j : Nat, j ≤ n ∧ i = .int .i64 j ∧ w0.grownBy wr (some g) ∧ ∃ c, wr.heap[g]? = some (.cells c 132 (0, 0)) ∧ Hid (c.size = vc * 9) ∧ Hid (c.toList.take (j * 9) = marks (-((k : Int) + 1)) j)) (fun i _ => n - (intOf i).toNat)
      case atStart => exact ⟨0, Nat.zero_le _, rfl, ⟨rfl, rfl, rfl, Nat.le_refl _, fun _ _ _ => rfl⟩, cur, HC.out, HL.out, by simp [Hid, marks]⟩
      case round =>
        obtain ⟨j, hj, rfl, hgr, c, hc, hcs, htk⟩ := hrel
        by_cases hlt : j < n
        · have hcl : ∀ o, o < 9 → ∃ u, wr.cell? ⟨g, j * 9 + o, none⟩ = some u := fun o ho => by
            have := hcs.out
            rw [cell_of_row wr g _ _ _ _ hc]
            exact ⟨c[j * 9 + o]'(by omega), by simp⟩
          obtain ⟨u0, p0⟩ := hcl 0 (by omega)
          obtain ⟨u1, p1⟩ := hcl 1 (by omega)
          obtain ⟨u2, p2⟩ := hcl 2 (by omega)
          obtain ⟨u3, p3⟩ := hcl 3 (by omega)
          obtain ⟨u4', p4⟩ := hcl 4 (by omega)
          obtain ⟨u5', p5⟩ := hcl 5 (by omega)
          obtain ⟨u6, p6⟩ := hcl 6 (by omega)
          obtain ⟨u7, p7⟩ := hcl 7 (by omega)
          obtain ⟨u8, p8⟩ := hcl 8 (by omega)
          rw [Nat.add_zero] at p0
          have hfz : ∀ o, wr.frozen? ⟨g, o, none⟩ = false := fun o => frozenRow hc
          rw [← hgr.cell_far ⟨w.heap.size, _, none⟩ (by simp; omega) (by simp; omega)] at x0 x1 x2 x3 x4 x5 x6 x7 x8
          have HCr : Hid (wr.heap[g]? = some (.cells c 132 (0, 0))) := hc
          have HGr : Hid (w0.grownBy wr (some g)) := hgr
          clear hcl hc hgr
          go_wp2
          go_roundw
          case rel =>
            obtain ⟨q1, c', q2, q3, q4⟩ := row_set9 HCr.out htk.out (by have := hcs.out; omega) (.int .i64 (-((k : Int) + 1))) (.string ⟨#[]⟩) (.int .i64 0) (.int .i64 0) (.int .i64 0) (.int .i64 0) (.int .i64 0) (.string ⟨#[]⟩) (.int .i64 0)
            exact ⟨j + 1, by omega, by go_num, gtrans HGr.out q1, c', q2, by rw [q3]; exact hcs.out, by rw [Nat.add_mul, Nat.one_mul, q4, marks_succ]; rfl⟩
          case measure => simp [intOf]; omega
        · obtain rfl : j = n := by omega
          have HCr : Hid (wr.heap[g]? = some (.cells c 132 (0, 0))) := hc
          have HGr : Hid (w0.grownBy wr (some g)) := hgr
          clear hc hgr
          go_wp2_with fail
          go_meet
          case rel => exact ⟨HGr.out, ⟨marks_length _ _, .inr ⟨g, vc, c, rfl, hgB, HCr.out, hnc, hcm, hcs.out, htk.out⟩⟩⟩
  case rest =>
    obtain ⟨hg0, hr0⟩ := hcut
    have T1 : Hid (Tr b B w.heap.size k vms vmm ls ks w wc) := HT.out.grown hbB HV.out hbm hg0
    have V1 : Hid (MRow B (-((k : Int) + 1)) wc (.slice va n vc) n) := hr0
    have hz1' : B ≤ wc.heap.size := by have := hg0.size; omega
    obtain ⟨iM, hiM, hz1, hz2, hz3⟩ := info_parts Tryz.infoMsg
    obtain ⟨iL, hiL, hl1, hl2, hl3⟩ := info_parts Tryz.infoMsgs
    obtain ⟨x0, x1, x2, x3, x4, x5, x6, x7, x8⟩ := T1.out.mark; dsimp only [markM] at x0 x1 x2 x3 x4 x5 x6 x7 x8
    clear hg0 hr0
    have tok1 : True := trivial
    go_wp2_with (first | (at_builtin; have _t := tok1; refine wpList_append_marks _ (by rfl) _ _ 152 (by rfl) B iM _ Tryz.underlying152 hiM hz1 hz2 hz3 (by rfl) (-((k : Int) + 1)) (.slice va n vc) n (by rfl) (V1.out.alloc _) ⟨wc.heap.size, 0, none⟩ 1 1 (by rfl) (fun j u h => World.news_of_block (heap_alloc_new wc _) j u h) (by omega) (by unfold maxLen; omega) (by omega) (by simp; omega) ?_; intro g1 cap1 w2 hr1 hrel1 hg1 hk1; clear tok1; have T2 : Hid (Tr b B w.heap.size k vms vmm ls ks w w2) := (T1.out.alloc _).grown hbB (V1.out.alloc _) hbm hg1; obtain ⟨y0, y1, y2, y3, y4, y5, y6, y7, y8⟩ := T2.out.mark; dsimp only [markM] at y0 y1 y2 y3 y4 y5 y6 y7 y8; have V2 : Hid (MRow B (-((k : Int) + 1)) w2 (.slice va n vc) (n)) := hk1 _ _ (by omega) (V1.out.alloc _) (Rel.refl V1.out); have A2 : Hid (MRow B (-((k : Int) + 1)) w2 (.slice (some ⟨g1, 0, none⟩) (n + 1) cap1) (n + 1)) := hr1; have R1 : Hid (Rel (.slice va n vc) n (.slice (some ⟨g1, 0, none⟩) (n + 1) cap1) (n + 1)) := hrel1; have hz2' : B ≤ w2.heap.size := Nat.le_trans hz1' (Nat.le_trans (by simp) hg1.size); have tok2 : True := trivial; clear hk1 hr1 hrel1) | (at_builtin; have _t := tok2; refine wpList_append_marks _ (by rfl) _ _ 152 (by rfl) B iM _ Tryz.underlying152 hiM hz1 hz2 hz3 (by rfl) (-((k : Int) + 1)) (.slice va n vc) n (by rfl) (V2.out.alloc _) ⟨w2.heap.size, 0, none⟩ 2 2 (by rfl) (fun j u h => World.news_of_block (heap_alloc_new w2 _) j u h) (by omega) (by unfold maxLen; omega) (by omega) (by simp; omega) ?_; intro g2 cap2 w3 hr2 hrel2 hg2 hk2; clear tok2; have T3 : Hid (Tr b B w.heap.size k vms vmm ls ks w w3) := (T2.out.alloc _).grown hbB (V2.out.alloc _) hbm hg2; obtain ⟨z0, z1, z2, z3, z4, z5, z6, z7, z8⟩ := T3.out.mark; dsimp only [markM] at z0 z1 z2 z3 z4 z5 z6 z7 z8; have V3 : Hid (MRow B (-((k : Int) + 1)) w3 (.slice va n vc) (n)) := hk2 _ _ (by omega) (V2.out.alloc _) (Rel.refl V2.out); have A3 : Hid (MRow B (-((k : Int) + 1)) w3 (.slice (some ⟨g1, 0, none⟩) (n + 1) cap1) (n + 1)) := hk2 _ _ (by omega) (A2.out.alloc _) R1.out; have B3 : Hid (MRow B (-((k : Int) + 1)) w3 (.slice (some ⟨g2, 0, none⟩) (n + 2) cap2) (n + 2)) := hr2; have R2 : Hid (Rel (.slice va n vc) n (.slice (some ⟨g2, 0, none⟩) (n + 2) cap2) (n + 2)) := hrel2; have hz3' : B ≤ w3.heap.size := Nat.le_trans hz2' (Nat.le_trans (by simp) hg2.size); have tok3 : True := trivial; clear hk2 hr2 hrel2) | (at_builtin; have _t := tok3; refine wpList_append_marks _ (by rfl) _ _ 152 (by rfl) B iM _ Tryz.underlying152 hiM hz1 hz2 hz3 (by rfl) (-((k : Int) + 1)) (.slice va n vc) n (by rfl) (V3.out.alloc _) ⟨w3.heap.size, 0, none⟩ 3 3 (by rfl) (fun j u h => World.news_of_block (heap_alloc_new w3 _) j u h) (by omega) (by unfold maxLen; omega) (by omega) (by simp; omega) ?_; intro g3 cap3 w4 hr3 hrel3 hg3 hk3; clear tok3; have T4 : Hid (Tr b B w.heap.size k vms vmm ls ks w w4) := (T3.out.alloc _).grown hbB (V3.out.alloc _) hbm hg3; have V4 : Hid (MRow B (-((k : Int) + 1)) w4 (.slice va n vc) (n)) := hk3 _ _ (by omega) (V3.out.alloc _) (Rel.refl V3.out); have A4 : Hid (MRow B (-((k : Int) + 1)) w4 (.slice (some ⟨g1, 0, none⟩) (n + 1) cap1) (n + 1)) := hk3 _ _ (by omega) (A3.out.alloc _) R1.out; have B4 : Hid (MRow B (-((k : Int) + 1)) w4 (.slice (some ⟨g2, 0, none⟩) (n + 2) cap2) (n + 2)) := hk3 _ _ (by omega) (B3.out.alloc _) R2.out; have C4 : Hid (MRow B (-((k : Int) + 1)) w4 (.slice (some ⟨g3, 0, none⟩) (n + 3) cap3) (n + 3)) := hr3; have hz4' : B ≤ w4.heap.size := Nat.le_trans hz3' (Nat.le_trans (by simp) hg3.size); obtain ⟨c0, c1, c2, c3, c4, c5, cf⟩ := cellsW T4.out.box; have tok4 : True := trivial; clear hk3 hr3 hrel3) | (at_builtin; have _t := tok4; refine wpList_append_lies _ (by rfl) _ _ 84 (by rfl) (b + 1) 152 iL _ 1 24 Tryz.underlying84 hiL hl1 hl2 hl3 (by rfl) (by omega) vms (4 * k) ls (by rfl) (T4.out.ms.alloc _) ⟨w4.heap.size, 0, none⟩ 4 4 [(.slice va n vc), (.slice (some ⟨g1, 0, none⟩) (n + 1) cap1), (.slice (some ⟨g2, 0, none⟩) (n + 2) cap2), (.slice (some ⟨g3, 0, none⟩) (n + 3) cap3)] (by rfl) (by rfl) (World.news_of_block (heap_alloc_new w4 _)) (by intro u hu; simp at hu; rcases hu with rfl | rfl | rfl | rfl <;> rfl) (by omega) (by unfold maxLen; omega) (by omega) (Nat.le_trans (Nat.le_trans (Nat.succ_le_of_lt hbB) hz4') (by simp)) (w4.heap.size + 1) (by simp) ?_; intro g5 cap5 w5 hr5 hg5 hat5 hlt5; clear tok4; have X5 : Hid (w5.heap[b]? = some (.cells (worldL vms vmm ((k : Int) + 1)) 87 (0, 0))) := (hg5.block b (Array.getElem?_eq_some_iff.1 (T4.out.alloc _).box).1 (fun e => absurd (row_lt T4.out.ms b e.symm).2 (by omega))).trans (T4.out.alloc _).box; obtain ⟨d0, d1, d2, d3, d4, d5, df⟩ := cellsW X5.out))
    have B6 : (w5.setCell ⟨b, 1, none⟩ (.slice (some ⟨g5, 0, none⟩) (4 * k + 4) cap5)).heap[b]? = some (.cells (worldL (.slice (some ⟨g5, 0, none⟩) (4 * k + 4) cap5) vmm ((k : Int) + 1)) 87 (0, 0)) := (heap_set X5.out _).trans (by simp)
    have M5 : w5.ownsRow (b + 1) 3 1 vmm (4 * k) (ks.map (fun n => Value.int .i64 n)) := (T4.out.mm.alloc _).kept hg5 (apart2 T4.out.mm T4.out.ms (by decide))
    have nb5 : ∀ {B' e k n : Nat} {u : Value} {ys : List Value}, w5.ownsRow B' e k u n ys → b < B' → u.ownBlock = none ∨ u.ownBlock ≠ some b := fun h hlt => by
      refine .inr (fun e => ?_)
      have := (row_lt h b e).2
      omega
    have g6 := grown_set w5 b 1 (.slice (some ⟨g5, 0, none⟩) (4 * k + 4) cap5)
    have M6 : Hid ((w5.setCell ⟨b, 1, none⟩ (.slice (some ⟨g5, 0, none⟩) (4 * k + 4) cap5)).ownsRow (b + 1) 3 1 vmm (4 * k) (ks.map (fun n => Value.int .i64 n))) := M5.kept g6 (nb5 M5 (by omega))
    have G6 : Hid (w5.grownBy (w5.setCell ⟨b, 1, none⟩ (.slice (some ⟨g5, 0, none⟩) (4 * k + 4) cap5)) (some b)) := g6
    have hs6 : (w5.setCell ⟨b, 1, none⟩ (.slice (some ⟨g5, 0, none⟩) (4 * k + 4) cap5)).heap.size = w5.heap.size := by simp [World.setCell]
    have hb6 : b + 1 ≤ w5.heap.size := (Array.getElem?_eq_some_iff.1 X5.out).1
    clear M5 g6 nb5 c0 c1 c2 c3 c4 c5 cf d0 d1 d2 d3 d4 d5 df
    obtain ⟨w6, hw6⟩ : ∃ w6, w6 = (w5.setCell ⟨b, 1, none⟩ (.slice (some ⟨g5, 0, none⟩) (4 * k + 4) cap5)) := ⟨_, rfl⟩
    rw [← hw6] at B6 M6 G6 hs6 ⊢
    have hb6' : b < w6.heap.size := by rw [hs6]; exact hb6
    have HS6 : Hid (w6.heap.size = w5.heap.size) := hs6
    have HW6 : Hid (w6 = (w5.setCell ⟨b, 1, none⟩ (.slice (some ⟨g5, 0, none⟩) (4 * k + 4) cap5))) := hw6
    clear hw6 hs6 hb6
    obtain ⟨d0, d1, d2, d3, d4, d5, df⟩ := cellsW B6
    obtain ⟨iI, hiI, hi1, hi2, hi3⟩ := info_parts Tryz.infoInt
    have BB : Hid (w6.heap[b]? = some (.cells (worldL (.slice (some ⟨g5, 0, none⟩) (4 * k + 4) cap5) vmm ((k : Int) + 1)) 87 (0, 0))) := B6
    clear B6
    have N7 : Hid (∀ j u, ([.int .i64 (IntKind.i64.wrap (-((k : Int) + 1))), .int .i64 (IntKind.i64.wrap (-((k : Int) + 1))), .int .i64 (IntKind.i64.wrap (-((k : Int) + 1))), .int .i64 (IntKind.i64.wrap (-((k : Int) + 1)))] : List Value)[j]? = some u → (w6.alloc (.cells #[.int .i64 (IntKind.i64.wrap (-((k : Int) + 1))), .int .i64 (IntKind.i64.wrap (-((k : Int) + 1))), .int .i64 (IntKind.i64.wrap (-((k : Int) + 1))), .int .i64 (IntKind.i64.wrap (-((k : Int) + 1)))] 3)).drew.cell? ((⟨w6.heap.size, 0, none⟩ : Addr).add j) = some u) := World.news_of_block (w := (w6.alloc (.cells #[.int .i64 (IntKind.i64.wrap (-((k : Int) + 1))), .int .i64 (IntKind.i64.wrap (-((k : Int) + 1))), .int .i64 (IntKind.i64.wrap (-((k : Int) + 1))), .int .i64 (IntKind.i64.wrap (-((k : Int) + 1)))] 3)).drew) (heap_alloc_new w6 _)
    have M7 : Hid ((w6.alloc (.cells #[.int .i64 (IntKind.i64.wrap (-((k : Int) + 1))), .int .i64 (IntKind.i64.wrap (-((k : Int) + 1))), .int .i64 (IntKind.i64.wrap (-((k : Int) + 1))), .int .i64 (IntKind.i64.wrap (-((k : Int) + 1)))] 3)).drew.ownsRow (b + 1) 3 1 vmm (4 * k) (ks.map (fun n => Value.int .i64 n))) := (M6.out.alloc _).drew
    have O7 : Hid (∀ u ∈ ([.int .i64 (IntKind.i64.wrap (-((k : Int) + 1))), .int .i64 (IntKind.i64.wrap (-((k : Int) + 1))), .int .i64 (IntKind.i64.wrap (-((k : Int) + 1))), .int .i64 (IntKind.i64.wrap (-((k : Int) + 1)))] : List Value), u.oneCell' = true) := by
      intro u hu
      simp at hu
      subst hu
      rfl
    refine wp_region_noPanic ?_
    refine wp_region_held_drew (S := fun w' => w'.cell? ⟨b, 5, none⟩ = some (.int .i64 ((k : Int) + 1))) (by kernel_rfl) d5 ?_
    intro hHeld
    refine wpAnyH_take (i := 0) (oi := _) (v := ?_) rfl (by kernel_rfl) (by kernel_rfl) (by kernel_rfl) (fun _ _ _ h => h) (Or.inl ⟨by rfl, ?_⟩) hHeld ?_
    rotate_left
    · (intro w' hSw; (try dsimp only at hSw); go_simp; try with_reducible rfl)
    try simp only [Act.put, List.getElem_toArray, List.getElem_cons_zero, List.getElem_cons_succ, List.setIfInBounds_toArray, List.set_cons_zero, List.set_cons_succ]
    refine wpAnyH_take (i := 1) (oi := _) (v := ?_) rfl (by kernel_rfl) (by kernel_rfl) (by kernel_rfl) (fun _ _ _ h => h) (Or.inl ⟨by rfl, ?_⟩) hHeld ?_
    rotate_left
    · (intro w' hSw; (try dsimp only at hSw); go_simp; try with_reducible rfl)
    try simp only [Act.put, List.getElem_toArray, List.getElem_cons_zero, List.getElem_cons_succ, List.setIfInBounds_toArray, List.set_cons_zero, List.set_cons_succ]
    refine wpAnyH_take (i := 2) (oi := _) (v := ?_) rfl (by kernel_rfl) (by kernel_rfl) (by kernel_rfl) (fun _ _ _ h => h) (Or.inl ⟨by rfl, ?_⟩) hHeld ?_
    rotate_left
    · (intro w' hSw; (try dsimp only at hSw); go_simp; try with_reducible rfl)
    try simp only [Act.put, List.getElem_toArray, List.getElem_cons_zero, List.getElem_cons_succ, List.setIfInBounds_toArray, List.set_cons_zero, List.set_cons_succ]
    refine wpAnyH_take (i := 3) (oi := _) (v := ?_) rfl (by kernel_rfl) (by kernel_rfl) (by kernel_rfl) (fun _ _ _ h => h) (Or.inl ⟨by rfl, ?_⟩) hHeld ?_
    rotate_left
    · (intro w' hSw; (try dsimp only at hSw); go_simp; try with_reducible rfl)
    try simp only [Act.put, List.getElem_toArray, List.getElem_cons_zero, List.getElem_cons_succ, List.setIfInBounds_toArray, List.set_cons_zero, List.set_cons_succ]
    refine wpAnyH_take (i := 5) (oi := _) (v := ?_) rfl (by kernel_rfl) (by kernel_rfl) (by kernel_rfl) (fun _ _ _ h => h) (Or.inl ⟨by rfl, ?_⟩) hHeld ?_
    rotate_left
    · (intro w' hSw; (try dsimp only at hSw); go_simp; try with_reducible rfl)
    try simp only [Act.put, List.getElem_toArray, List.getElem_cons_zero, List.getElem_cons_succ, List.setIfInBounds_toArray, List.set_cons_zero, List.set_cons_succ]
    refine wpAnyH_take (i := 6) (oi := _) (v := ?_) rfl (by kernel_rfl) (by kernel_rfl) (by kernel_rfl) (fun _ _ _ h => h) (Or.inl ⟨by rfl, ?_⟩) hHeld ?_
    rotate_left
    · (intro w' hSw; (try dsimp only at hSw); go_simp; try with_reducible rfl)
    try simp only [Act.put, List.getElem_toArray, List.getElem_cons_zero, List.getElem_cons_succ, List.setIfInBounds_toArray, List.set_cons_zero, List.set_cons_succ]
    refine wpAnyH_take (i := 7) (oi := _) (v := ?_) rfl (by kernel_rfl) (by kernel_rfl) (by kernel_rfl) (fun _ _ _ h => h) (Or.inl ⟨by rfl, ?_⟩) hHeld ?_
    rotate_left
    · (intro w' hSw; (try dsimp only at hSw); go_simp; try with_reducible rfl)
    try simp only [Act.put, List.getElem_toArray, List.getElem_cons_zero, List.getElem_cons_succ, List.setIfInBounds_toArray, List.set_cons_zero, List.set_cons_succ]
    refine wpAnyH_take (i := 8) (oi := _) (v := ?_) rfl (by kernel_rfl) (by kernel_rfl) (by kernel_rfl) (fun _ _ _ h => h) (Or.inl ⟨by rfl, ?_⟩) hHeld ?_
    rotate_left
    · (intro w' hSw; (try dsimp only at hSw); go_simp; try with_reducible rfl)
    try simp only [Act.put, List.getElem_toArray, List.getElem_cons_zero, List.getElem_cons_succ, List.setIfInBounds_toArray, List.set_cons_zero, List.set_cons_succ]
    refine wpAnyH_take (i := 9) (oi := _) (v := ?_) rfl (by kernel_rfl) (by kernel_rfl) (by kernel_rfl) (fun _ _ _ h => h) (Or.inl ⟨by rfl, ?_⟩) hHeld ?_
    rotate_left
    · (intro w' hSw; (try dsimp only at hSw); go_simp; try with_reducible rfl)
    try simp only [Act.put, List.getElem_toArray, List.getElem_cons_zero, List.getElem_cons_succ, List.setIfInBounds_toArray, List.set_cons_zero, List.set_cons_succ]
    refine wpAnyH_take (i := 10) (oi := _) (v := ?_) rfl (by kernel_rfl) (by kernel_rfl) (by kernel_rfl) (fun _ _ _ h => h) (Or.inl ⟨by rfl, ?_⟩) hHeld ?_
    rotate_left
    · (intro w' hSw; (try dsimp only at hSw); go_simp; try with_reducible rfl)
    try simp only [Act.put, List.getElem_toArray, List.getElem_cons_zero, List.getElem_cons_succ, List.setIfInBounds_toArray, List.set_cons_zero, List.set_cons_succ]
    refine wpAnyH_take (i := 11) (oi := _) (v := ?_) rfl (by kernel_rfl) (by kernel_rfl) (by kernel_rfl) (fun _ _ _ h => h) (Or.inl ⟨by rfl, ?_⟩) hHeld ?_
    rotate_left
    · (intro w' hSw; (try dsimp only at hSw); go_simp; try with_reducible rfl)
    try simp only [Act.put, List.getElem_toArray, List.getElem_cons_zero, List.getElem_cons_succ, List.setIfInBounds_toArray, List.set_cons_zero, List.set_cons_succ]
    refine wpAnyH_take (i := 12) (oi := _) (v := ?_) rfl (by kernel_rfl) (by kernel_rfl) (by kernel_rfl) (fun _ _ _ h => h) (Or.inl ⟨by rfl, ?_⟩) hHeld ?_
    rotate_left
    · (intro w' hSw; (try dsimp only at hSw); go_simp; try with_reducible rfl)
    try simp only [Act.put, List.getElem_toArray, List.getElem_cons_zero, List.getElem_cons_succ, List.setIfInBounds_toArray, List.set_cons_zero, List.set_cons_succ]
    refine wpAnyH_take (i := 13) (oi := _) (v := ?_) rfl (by kernel_rfl) (by kernel_rfl) (by kernel_rfl) (fun _ _ _ h => h) (Or.inl ⟨by rfl, ?_⟩) hHeld ?_
    rotate_left
    · (intro w' hSw; (try dsimp only at hSw); go_simp; try with_reducible rfl)
    try simp only [Act.put, List.getElem_toArray, List.getElem_cons_zero, List.getElem_cons_succ, List.setIfInBounds_toArray, List.set_cons_zero, List.set_cons_succ]
    refine wpAnyH_take (i := 14) (oi := _) (v := ?_) rfl (by kernel_rfl) (by kernel_rfl) (by kernel_rfl) (fun _ _ _ h => h) (Or.inl ⟨by rfl, ?_⟩) hHeld ?_
    rotate_left
    · (intro w' hSw; (try dsimp only at hSw); go_simp; try with_reducible rfl)
    try simp only [Act.put, List.getElem_toArray, List.getElem_cons_zero, List.getElem_cons_succ, List.setIfInBounds_toArray, List.set_cons_zero, List.set_cons_succ]
    refine wpAnyH_take (i := 15) (oi := _) (v := ?_) rfl (by kernel_rfl) (by kernel_rfl) (by kernel_rfl) (fun _ _ _ h => h) (Or.inl ⟨by rfl, ?_⟩) hHeld ?_
    rotate_left
    · (intro w' hSw; (try dsimp only at hSw); go_simp; try with_reducible rfl)
    try simp only [Act.put, List.getElem_toArray, List.getElem_cons_zero, List.getElem_cons_succ, List.setIfInBounds_toArray, List.set_cons_zero, List.set_cons_succ]
    refine wpAnyH_take (i := 16) (oi := _) (v := ?_) rfl (by kernel_rfl) (by kernel_rfl) (by kernel_rfl) (fun _ _ _ h => h) (Or.inl ⟨by rfl, ?_⟩) hHeld ?_
    rotate_left
    · (intro w' hSw; (try dsimp only at hSw); go_simp; try with_reducible rfl)
    try simp only [Act.put, List.getElem_toArray, List.getElem_cons_zero, List.getElem_cons_succ, List.setIfInBounds_toArray, List.set_cons_zero, List.set_cons_succ]
    refine wpAnyH_take (i := 17) (oi := _) (v := ?_) rfl (by kernel_rfl) (by kernel_rfl) (by kernel_rfl) (fun _ _ _ h => h) (Or.inl ⟨by rfl, ?_⟩) hHeld ?_
    rotate_left
    · (intro w' hSw; (try dsimp only at hSw); go_simp; try with_reducible rfl)
    try simp only [Act.put, List.getElem_toArray, List.getElem_cons_zero, List.getElem_cons_succ, List.setIfInBounds_toArray, List.set_cons_zero, List.set_cons_succ]
    refine wpAnyH_take (i := 18) (oi := _) (v := ?_) rfl (by kernel_rfl) (by kernel_rfl) (by kernel_rfl) (fun _ _ _ h => h) (Or.inl ⟨by rfl, ?_⟩) hHeld ?_
    rotate_left
    · (intro w' hSw; (try dsimp only at hSw); go_simp; try with_reducible rfl)
    try simp only [Act.put, List.getElem_toArray, List.getElem_cons_zero, List.getElem_cons_succ, List.setIfInBounds_toArray, List.set_cons_zero, List.set_cons_succ]
    refine wpAnyH_take (i := 19) (oi := _) (v := ?_) rfl (by kernel_rfl) (by kernel_rfl) (by kernel_rfl) (fun _ _ _ h => h) (Or.inl ⟨by rfl, ?_⟩) hHeld ?_
    rotate_left
    · (intro w' hSw; (try dsimp only at hSw); go_simp; try with_reducible rfl)
    try simp only [Act.put, List.getElem_toArray, List.getElem_cons_zero, List.getElem_cons_succ, List.setIfInBounds_toArray, List.set_cons_zero, List.set_cons_succ]
    refine wpAnyH_take (i := 20) (oi := _) (v := ?_) rfl (by kernel_rfl) (by kernel_rfl) (by kernel_rfl) (fun _ _ _ h => h) (Or.inl ⟨by rfl, ?_⟩) hHeld ?_
    rotate_left
    · (intro w' hSw; (try dsimp only at hSw); go_simp; try with_reducible rfl)
    try simp only [Act.put, List.getElem_toArray, List.getElem_cons_zero, List.getElem_cons_succ, List.setIfInBounds_toArray, List.set_cons_zero, List.set_cons_succ]
    refine wpAnyH_take (i := 21) (oi := _) (v := ?_) rfl (by kernel_rfl) (by kernel_rfl) (by kernel_rfl) (fun _ _ _ h => h) (Or.inl ⟨by rfl, ?_⟩) hHeld ?_
    rotate_left
    · (intro w' hSw; (try dsimp only at hSw); go_simp; try with_reducible rfl)
    try simp only [Act.put, List.getElem_toArray, List.getElem_cons_zero, List.getElem_cons_succ, List.setIfInBounds_toArray, List.set_cons_zero, List.set_cons_succ]
    refine wpAnyH_take (i := 22) (oi := _) (v := ?_) rfl (by kernel_rfl) (by kernel_rfl) (by kernel_rfl) (fun _ _ _ h => h) (Or.inl ⟨by rfl, ?_⟩) hHeld ?_
    rotate_left
    · (intro w' hSw; (try dsimp only at hSw); go_simp; try with_reducible rfl)
    try simp only [Act.put, List.getElem_toArray, List.getElem_cons_zero, List.getElem_cons_succ, List.setIfInBounds_toArray, List.set_cons_zero, List.set_cons_succ]
    refine wpAnyH_take (i := 23) (oi := _) (v := ?_) rfl (by kernel_rfl) (by kernel_rfl) (by kernel_rfl) (fun _ _ _ h => h) (Or.inl ⟨by rfl, ?_⟩) hHeld ?_
    rotate_left
    · (intro w' hSw; (try dsimp only at hSw); go_simp; try with_reducible rfl)
    try simp only [Act.put, List.getElem_toArray, List.getElem_cons_zero, List.getElem_cons_succ, List.setIfInBounds_toArray, List.set_cons_zero, List.set_cons_succ]
    refine wpAnyH_take (i := 24) (oi := _) (v := ?_) rfl (by kernel_rfl) (by kernel_rfl) (by kernel_rfl) (fun _ _ _ h => h) (Or.inl ⟨by rfl, ?_⟩) hHeld ?_
    rotate_left
    · (intro w' hSw; (try dsimp only at hSw); go_simp; try with_reducible rfl)
    try simp only [Act.put, List.getElem_toArray, List.getElem_cons_zero, List.getElem_cons_succ, List.setIfInBounds_toArray, List.set_cons_zero, List.set_cons_succ]
    refine wpAnyH_ready (rs := [4, 25]) (by kernel_rfl) (by simp) ?_
    refine AllReadyH.cons (o := _) rfl (fun K hK => ?_) ?_
    · go_simp
      refine hK.out _ _ (hHeld) (fun hH4 => ?_)
      clear hK K
      refine wpAnyH_ready (rs := [25]) (by kernel_rfl) (by simp) ?_
      refine AllReadyH.cons (o := _) rfl (fun K hK => ?_) ?_
      · go_simp
        refine hK.out _ _ (((((Below.refl _ _).alloc (Nat.le_refl _) _).cell (p := ⟨b, 5, none⟩) hb6').trans hH4)) (fun hH4_25 => ?_)
        clear hK K
        refine wpAnyH_ready (rs := [26]) (by kernel_rfl) (by simp) ?_
        refine AllReadyH.cons (o := _) rfl (fun K hK => ?_) ?_
        · (refine step_append_lies _ (by rfl) _ _ 25 (by rfl) (b + 1) 3 iI _ 1 8 Tryz.underlying25 hiI hi1 hi2 hi3 (by rfl) (by omega) vmm (4 * k) (ks.map (fun n => Value.int .i64 n)) (by rfl) M7.out ⟨w6.heap.size, 0, none⟩ 4 4 [.int .i64 (IntKind.i64.wrap (-((k : Int) + 1))), .int .i64 (IntKind.i64.wrap (-((k : Int) + 1))), .int .i64 (IntKind.i64.wrap (-((k : Int) + 1))), .int .i64 (IntKind.i64.wrap (-((k : Int) + 1)))] (by rfl) (by rfl) N7.out O7.out (by omega) (by unfold maxLen; omega) (by omega) (Nat.le_trans hb6' (by simp)) (w6.heap.size + 1) (by simp) ?_; intro g7 cap7 w7 hr7 hg7 hat7 hlt7; have X7 : Hid (w7.heap[b]? = some (.cells (worldL (.slice (some ⟨g5, 0, none⟩) (4 * k + 4) cap5) vmm ((k : Int) + 1)) 87 (0, 0))) := (hg7.block b (Nat.lt_of_lt_of_le hb6' (by simp)) (fun e => absurd (row_lt M6.out b e.symm).2 (by omega))).trans ((Below.heap_alloc w6 _ b hb6').trans BB.out); obtain ⟨e0, e1, e2, e3, e4, e5, ef⟩ := cellsW X7.out)
          refine hK.out _ _ (e5) (fun hH4_25_26 => ?_)
          clear hK K
          refine wpAnyH_take (i := 27) (oi := _) (v := ?_) rfl (by kernel_rfl) (by kernel_rfl) (by kernel_rfl) (fun _ _ _ h => h) (Or.inl ⟨by rfl, ?_⟩) hH4_25_26 ?_
          rotate_left
          · (intro w' hSw; (try dsimp only at hSw); go_simp; try with_reducible rfl)
          try simp only [Act.put, List.getElem_toArray, List.getElem_cons_zero, List.getElem_cons_succ, List.setIfInBounds_toArray, List.set_cons_zero, List.set_cons_succ]
          refine wpAnyH_take (i := 28) (oi := _) (v := ?_) rfl (by kernel_rfl) (by kernel_rfl) (by kernel_rfl) (fun _ _ _ h => h) (Or.inl ⟨by rfl, ?_⟩) hH4_25_26 ?_
          rotate_left
          · (intro w' hSw; (try dsimp only at hSw); go_simp; try with_reducible rfl)
          try simp only [Act.put, List.getElem_toArray, List.getElem_cons_zero, List.getElem_cons_succ, List.setIfInBounds_toArray, List.set_cons_zero, List.set_cons_succ]
          refine wpAnyH_ready (rs := [29]) (by kernel_rfl) (by simp) ?_
          refine AllReadyH.cons (o := _) rfl (fun K hK => ?_) ?_
          · go_simp
            refine hK.out _ _ ((by simp [go_sem, e5])) (fun hH4_25_26_29 => ?_)
            clear hK K
            refine wpAnyH_done (by kernel_rfl) ?_ _
            refine NoPanic.normal ?_
            go_wp2_with fail
            go_end0
            exact ⟨rfl, own_done hbB hk T4.out V4.out A4.out B4.out C4.out hr5 hg5 X5.out hr7 (by rw [← HW6.out]; exact hg7) X7.out⟩
          exact AllReadyH.nil
        exact AllReadyH.nil
      exact AllReadyH.nil
    refine AllReadyH.cons (o := _) rfl (fun K hK => ?_) ?_
    · go_simp
      refine hK.out _ _ (((((Below.refl _ _).alloc (Nat.le_refl _) _).cell (p := ⟨b, 5, none⟩) hb6').trans hHeld)) (fun hH25 => ?_)
      clear hK K
      refine wpAnyH_ready (rs := [4]) (by kernel_rfl) (by simp) ?_
      refine AllReadyH.cons (o := _) rfl (fun K hK => ?_) ?_
      · go_simp
        refine hK.out _ _ (hH25) (fun hH25_4 => ?_)
        clear hK K
        refine wpAnyH_ready (rs := [26]) (by kernel_rfl) (by simp) ?_
        refine AllReadyH.cons (o := _) rfl (fun K hK => ?_) ?_
        · (refine step_append_lies _ (by rfl) _ _ 25 (by rfl) (b + 1) 3 iI _ 1 8 Tryz.underlying25 hiI hi1 hi2 hi3 (by rfl) (by omega) vmm (4 * k) (ks.map (fun n => Value.int .i64 n)) (by rfl) M7.out ⟨w6.heap.size, 0, none⟩ 4 4 [.int .i64 (IntKind.i64.wrap (-((k : Int) + 1))), .int .i64 (IntKind.i64.wrap (-((k : Int) + 1))), .int .i64 (IntKind.i64.wrap (-((k : Int) + 1))), .int .i64 (IntKind.i64.wrap (-((k : Int) + 1)))] (by rfl) (by rfl) N7.out O7.out (by omega) (by unfold maxLen; omega) (by omega) (Nat.le_trans hb6' (by simp)) (w6.heap.size + 1) (by simp) ?_; intro g7 cap7 w7 hr7 hg7 hat7 hlt7; have X7 : Hid (w7.heap[b]? = some (.cells (worldL (.slice (some ⟨g5, 0, none⟩) (4 * k + 4) cap5) vmm ((k : Int) + 1)) 87 (0, 0))) := (hg7.block b (Nat.lt_of_lt_of_le hb6' (by simp)) (fun e => absurd (row_lt M6.out b e.symm).2 (by omega))).trans ((Below.heap_alloc w6 _ b hb6').trans BB.out); obtain ⟨e0, e1, e2, e3, e4, e5, ef⟩ := cellsW X7.out)
          refine hK.out _ _ (e5) (fun hH25_4_26 => ?_)
          clear hK K
          refine wpAnyH_take (i := 27) (oi := _) (v := ?_) rfl (by kernel_rfl) (by kernel_rfl) (by kernel_rfl) (fun _ _ _ h => h) (Or.inl ⟨by rfl, ?_⟩) hH25_4_26 ?_
          rotate_left
          · (intro w' hSw; (try dsimp only at hSw); go_simp; try with_reducible rfl)
          try simp only [Act.put, List.getElem_toArray, List.getElem_cons_zero, List.getElem_cons_succ, List.setIfInBounds_toArray, List.set_cons_zero, List.set_cons_succ]
          refine wpAnyH_take (i := 28) (oi := _) (v := ?_) rfl (by kernel_rfl) (by kernel_rfl) (by kernel_rfl) (fun _ _ _ h => h) (Or.inl ⟨by rfl, ?_⟩) hH25_4_26 ?_
          rotate_left
          · (intro w' hSw; (try dsimp only at hSw); go_simp; try with_reducible rfl)
          try simp only [Act.put, List.getElem_toArray, List.getElem_cons_zero, List.getElem_cons_succ, List.setIfInBounds_toArray, List.set_cons_zero, List.set_cons_succ]
          refine wpAnyH_ready (rs := [29]) (by kernel_rfl) (by simp) ?_
          refine AllReadyH.cons (o := _) rfl (fun K hK => ?_) ?_
          · go_simp
            refine hK.out _ _ ((by simp [go_sem, e5])) (fun hH25_4_26_29 => ?_)
            clear hK K
            refine wpAnyH_done (by kernel_rfl) ?_ _
            refine NoPanic.normal ?_
            go_wp2_with fail
            go_end0
            exact ⟨rfl, own_done hbB hk T4.out V4.out A4.out B4.out C4.out hr5 hg5 X5.out hr7 (by rw [← HW6.out]; exact hg7) X7.out⟩
          exact AllReadyH.nil
        exact AllReadyH.nil
      exact AllReadyH.nil
    exact AllReadyH.nil
end Go.Proofs.YtpobhljcainmdaaGreat
