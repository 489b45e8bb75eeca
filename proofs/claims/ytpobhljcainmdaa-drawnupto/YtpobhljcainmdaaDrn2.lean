/- Proved here: Drawn answers true, at whatever raw numbers, phase, text and cut. -/
import Derived.Test.YtpobhljcainmdaaDrn1
namespace Go.Proofs.Ytpobhljcainmdaa
open Go.RowKit
set_option linter.unusedSimpArgs false
attribute [local go_sem ↓] Go.wp_at_zero Go.wp_at_succ
attribute [local go_sem] alloc_drewN setCell_drewN

theorem cfg_cells {W : World} {b : Nat} {sz cl qu mx qn rt bu wk ou : Int} (h : W.heap[b]? = some (.cells (cfgL sz cl qu mx qn rt bu wk ou) 24 (0, 0))) :
    W.cell? ⟨b, 0, none⟩ = some (.int .i64 sz) ∧ W.cell? ⟨b, 1, none⟩ = some (.int .i64 cl) ∧ W.cell? ⟨b, 2, none⟩ = some (.int .i64 qu) ∧ W.cell? ⟨b, 3, none⟩ = some (.int .i64 mx) ∧ W.cell? ⟨b, 4, none⟩ = some (.int .i64 qn) ∧ W.cell? ⟨b, 5, none⟩ = some (.int .i64 rt) ∧ W.cell? ⟨b, 6, none⟩ = some (.int .i64 bu) ∧ W.cell? ⟨b, 7, none⟩ = some (.int .i64 wk) ∧ W.cell? ⟨b, 8, none⟩ = some (.int .i64 ou) := by
  refine ⟨?_, ?_, ?_, ?_, ?_, ?_, ?_, ?_, ?_⟩ <;> simp [World.cell?, h]

/-- What Decode tells of the sample. -/
theorem sample_any (sz cl qu mx qn rt bu wk ou : Int) (hc : cfgB sz cl qu mx qn rt bu wk ou = true) (W : World) :
    Calls Try.prog 6 #[.agg (cfgL sz cl qu mx qn rt bu wk ou), .int .i64 0, .string sampleB] W fun e w' => ∃ g cp, e = .returned (.tuple #[.slice (some ⟨g, 0, none⟩) 2 cp, .int .i64 7]) ∧ (w'.cell? ⟨g, 0, none⟩ = some (.int .i64 1) ∧ w'.cell? ⟨g, 1, none⟩ = some (.string ⟨#[97]⟩) ∧ w'.cell? ⟨g, 9, none⟩ = some (.int .i64 2) ∧ w'.cell? ⟨g, 10, none⟩ = some (.string ⟨#[103]⟩)) ∧ Below W.heap.size W w' := by
  refine (decode_all sz cl qu mx qn rt bu wk ou 0 sampleB W (by decide)).mono ?_
  rintro e w' ⟨v, ms, n, hms, rfl, hown, hb⟩
  have e : decodeAll sz cl qu mx qn rt bu wk ou 0 sampleB = decode sz mx sampleB (sampleB.size + 1) 0 [] 0 := by unfold decodeAll; rw [if_pos ⟨hc, by decide, by decide⟩]
  rw [e, sample_says] at hms
  obtain ⟨rfl, rfl⟩ := Prod.mk.inj hms
  obtain ⟨g, cp, rfl⟩ := ownsRow_succ hown
  have c0 := cells_at hown 0 (by decide)
  have c1 := cells_at hown 1 (by decide)
  exact ⟨g, cp, rfl, ⟨c0.1, c0.2.1, c1.1, c1.2.1⟩, hb⟩

set_option maxRecDepth 100000 in
set_option maxHeartbeats 8000000 in
theorem drawn_walk (a : Option Addr) (len cap : Nat) (ph cut : Int) (s : ByteArray) (w : World) (hl : len ≤ maxLen) (hraw : Raws w a len) (hph : I64 ph) (hcut : I64 cut) (hs : s.size ≤ 1048576) :
    Calls Try.prog 3 #[.slice a len cap, .int .i64 ph, .string s, .int .i64 cut] w fun e w' => e = .returned (.bool true) ∧ Below w.heap.size w w' := by
  have HR : Hid (Raws w a len) := hraw
  clear hraw
  go_enter Try.func3, Try.ntmps3
  go_upto_region 5 with (first | (go_at_call 4; refine (config_makes a len cap _ hl HR.out).mono ?_; rintro e w1 ⟨sz, cl, qu, mx, qn, rt, bu, wk, ou, rfl, hcfg, hb1⟩; have tok : True := trivial) | (go_at_call 5; have _t := tok; refine (pick_any ph 3 _ hph (by omega) (by omega)).mono ?_; rintro e w2 ⟨p, rfl, hp, rfl⟩; clear tok) | (go_at_call 6; refine (decode_all sz cl qu mx qn rt bu wk ou p s _ hs).mono ?_; rintro e w3 ⟨v, ms, n, hms, rfl, hown, hb3⟩; have HM : Hid ((ms, n) = decodeAll sz cl qu mx qn rt bu wk ou p s) := hms; clear hms) | (go_at_call 5; refine (pick_any cut _ _ hcut (by omega) (by omega)).mono ?_; rintro e w4 ⟨k, rfl, hk, rfl⟩))
  have hbox9 : w4.heap[w1.heap.size]? = some (.cells (cfgL sz cl qu mx qn rt bu wk ou) 24 (0, 0)) := (hb3.block _ (by simp)).trans (heap_alloc_new w1 _)
  have hB4 : Below w.heap.size w w4 := (hb1.alloc hb1.size _).trans (hb3.mono (by have := hb1.size; simp; omega))
  have hb9 : w1.heap.size < w4.heap.size := (Array.getElem?_eq_some_iff.1 hbox9).1
  have hk1 : 0 ≤ k := hk.1
  have hk2 : k ≤ s.size := by omega
  obtain ⟨a1, c1, rfl⟩ := list_form hown
  have HO : Hid (w4.ownsRow (w1.alloc (.cells (cfgL sz cl qu mx qn rt bu wk ou) 24)).heap.size 31 9 (.slice a1 ms.length c1) ms.length (ms.flatMap Msg.cells)) := hown
  have HB4 : Hid (Below w.heap.size w w4 ∧ cfgB sz cl qu mx qn rt bu wk ou = true) := ⟨hB4, hcfg⟩
  have hbox := CfgBox.begin hbox9
  have HX9 : Hid (w4.heap[w1.heap.size]? = some (.cells (cfgL sz cl qu mx qn rt bu wk ou) 24 (0, 0))) := hbox9
  clear hown hB4 hcfg hb1 hb3 hbox9 hk hph hcut hl HR
  go_cut [14, 15] (fun q r w' => ∃ v' ms' n', q = v' ∧ r = .int .i64 n' ∧ Hid ((ms', n') = decodeAll sz cl qu mx qn rt bu wk ou p (s.extract 0 k.toNat)) ∧ Hid (w'.ownsRow w4.heap.size 31 9 v' ms'.length (ms'.flatMap Msg.cells)) ∧ Hid (Below w4.heap.size w4 w'))
  case first =>
    refine wp_region_noPanic ?_
    refine wp_region_held_drew (S := fun w' => CfgBox w4 w1.heap.size sz cl qu mx qn rt bu wk ou w') (by kernel_rfl) hbox ?_
    intro hHeld
    refine wpAnyH_take (i := 0) (oi := _) (v := ?_) rfl (by kernel_rfl) (by kernel_rfl) (by kernel_rfl) (fun _ _ _ h => h) (Or.inl ⟨by rfl, ?_⟩) hHeld ?_
    rotate_left
    · (intro w' hSw; (try dsimp only at hSw); go_simp; try with_reducible rfl)
    try simp only [Act.put, List.getElem_toArray, List.getElem_cons_zero, List.getElem_cons_succ, List.setIfInBounds_toArray, List.set_cons_zero, List.set_cons_succ]
    refine wpAnyH_take (i := 1) (oi := _) (v := ?_) rfl (by kernel_rfl) (by kernel_rfl) (by kernel_rfl) (fun _ _ _ h => h) (Or.inl ⟨by rfl, ?_⟩) hHeld ?_
    rotate_left
    · (intro w' hSw; (try dsimp only at hSw); go_simp; try with_reducible rfl)
    try simp only [Act.put, List.getElem_toArray, List.getElem_cons_zero, List.getElem_cons_succ, List.setIfInBounds_toArray, List.set_cons_zero, List.set_cons_succ]
    refine wpAnyH_take (i := 2) (oi := _) (v := ?_) rfl (by kernel_rfl) (by kernel_rfl) (by kernel_rfl) (fun _ _ _ h => h) (Or.inl ⟨by rfl, ?_⟩) hHeld ?_
    rotate_left
    · (intro w' hSw; (try dsimp only at hSw); go_simp; try with_reducible rfl)
    try simp only [Act.put, List.getElem_toArray, List.getElem_cons_zero, List.getElem_cons_succ, List.setIfInBounds_toArray, List.set_cons_zero, List.set_cons_succ]
    refine wpAnyH_take (i := 3) (oi := _) (v := ?_) rfl (by kernel_rfl) (by kernel_rfl) (by kernel_rfl) (fun _ _ _ h => h) (Or.inl ⟨by rfl, ?_⟩) hHeld ?_
    rotate_left
    · (intro w' hSw; (try dsimp only at hSw); go_simp; try with_reducible rfl)
    try simp only [Act.put, List.getElem_toArray, List.getElem_cons_zero, List.getElem_cons_succ, List.setIfInBounds_toArray, List.set_cons_zero, List.set_cons_succ]
    refine wpAnyH_take (i := 4) (oi := _) (v := ?_) rfl (by kernel_rfl) (by kernel_rfl) (by kernel_rfl) (fun _ _ _ h => h) (Or.inl ⟨by rfl, ?_⟩) hHeld ?_
    rotate_left
    · (intro w' hSw; (try dsimp only at hSw); go_simp; try with_reducible rfl)
    try simp only [Act.put, List.getElem_toArray, List.getElem_cons_zero, List.getElem_cons_succ, List.setIfInBounds_toArray, List.set_cons_zero, List.set_cons_succ]
    refine wpAnyH_ready (rs := [5]) (by kernel_rfl) (by simp) ?_
    refine AllReadyH.cons (o := _) rfl (fun K hK => ?_) ?_
    · go_simp
      (refine (decode_all sz cl qu mx qn rt bu wk ou p (s.extract 0 k.toNat) _ (by simp; omega)).mono ?_; rintro e w5 ⟨v', ms', n', hms', rfl, hown', hb5⟩)
      go_wp2_with fail
      refine hK.out _ _ (CfgBox.keep hb9 hHeld (hb5.mono hHeld.1.size)) (fun hH5 => ?_)
      clear hK K
      refine wpAnyH_take (i := 6) (oi := _) (v := ?_) rfl (by kernel_rfl) (by kernel_rfl) (by kernel_rfl) (fun _ _ _ h => h) (Or.inl ⟨by rfl, ?_⟩) hH5 ?_
      rotate_left
      · (intro w' hSw; (try dsimp only at hSw); go_simp; try with_reducible rfl)
      try simp only [Act.put, List.getElem_toArray, List.getElem_cons_zero, List.getElem_cons_succ, List.setIfInBounds_toArray, List.set_cons_zero, List.set_cons_succ]
      refine wpAnyH_take (i := 7) (oi := _) (v := ?_) rfl (by kernel_rfl) (by kernel_rfl) (by kernel_rfl) (fun _ _ _ h => h) (Or.inl ⟨by rfl, ?_⟩) hH5 ?_
      rotate_left
      · (intro w' hSw; (try dsimp only at hSw); go_simp; try with_reducible rfl)
      try simp only [Act.put, List.getElem_toArray, List.getElem_cons_zero, List.getElem_cons_succ, List.setIfInBounds_toArray, List.set_cons_zero, List.set_cons_succ]
      refine wpAnyH_take (i := 8) (oi := _) (v := ?_) rfl (by kernel_rfl) (by kernel_rfl) (by kernel_rfl) (fun _ _ _ h => h) (Or.inl ⟨by rfl, ?_⟩) hH5 ?_
      rotate_left
      · (intro w' hSw; (try dsimp only at hSw); go_simp; try with_reducible rfl)
      try simp only [Act.put, List.getElem_toArray, List.getElem_cons_zero, List.getElem_cons_succ, List.setIfInBounds_toArray, List.set_cons_zero, List.set_cons_succ]
      refine wpAnyH_take (i := 9) (oi := _) (v := ?_) rfl (by kernel_rfl) (by kernel_rfl) (by kernel_rfl) (fun _ _ _ h => h) (Or.inl ⟨by rfl, ?_⟩) hH5 ?_
      rotate_left
      · (intro w' hSw; (try dsimp only at hSw); go_simp; try with_reducible rfl)
      try simp only [Act.put, List.getElem_toArray, List.getElem_cons_zero, List.getElem_cons_succ, List.setIfInBounds_toArray, List.set_cons_zero, List.set_cons_succ]
      refine wpAnyH_take (i := 10) (oi := _) (v := ?_) rfl (by kernel_rfl) (by kernel_rfl) (by kernel_rfl) (fun _ _ _ h => h) (Or.inl ⟨by rfl, ?_⟩) hH5 ?_
      rotate_left
      · (intro w' hSw; (try dsimp only at hSw); go_simp; try with_reducible rfl)
      try simp only [Act.put, List.getElem_toArray, List.getElem_cons_zero, List.getElem_cons_succ, List.setIfInBounds_toArray, List.set_cons_zero, List.set_cons_succ]
      refine wpAnyH_done (by kernel_rfl) ?_ _
      (refine NoPanic.normal ?_; go_wp2_with fail; go_meet; case rel => exact ⟨v', ms', n', rfl, rfl, hms', hown', hHeld.1.trans (hb5.mono (by exact hHeld.1.size))⟩)
    exact AllReadyH.nil
  case rest =>
    clear hbox
    obtain ⟨v', ms', n', rfl, rfl, HM', HO', HB'⟩ := hcut
    have hgood : cfgB sz cl qu mx qn rt bu wk ou = true ∧ 0 ≤ p ∧ p ≤ 2 := ⟨HB4.out.2, by omega, by omega⟩
    have hall : ∀ t, decodeAll sz cl qu mx qn rt bu wk ou p t = decode sz mx t (t.size + 1) p [] 0 := fun t => by unfold decodeAll; rw [if_pos hgood]
    obtain ⟨⟨hn0, hn1⟩, ⟨hm0, hm1⟩, hmn, zs, hzs⟩ := decode_cut sz mx s k.toNat p (by omega) ms ms' n n' (by rw [← hall]; exact HM.out) (by rw [← hall]; exact HM'.out)
    have hm1' : n' ≤ k := by omega
    have hlen : ms'.length ≤ ms.length := by rw [hzs]; simp
    have hmz : ms.length ≤ 1048576 := by
      have h1 := HM.out
      rw [hall] at h1
      obtain ⟨xs, hx, ex⟩ := runs_full sz mx s ⟨p, [], 0⟩ (Nat.zero_le _)
      have d1 : decode sz mx s (s.size + 1) p [] 0 = (xs.map (·.1), _) := runs_decode sz mx s ⟨p, [], 0⟩ xs (s.size + 1) (Nat.zero_le _) hx ex (by simp)
      have p1 := runs_pos sz mx s ⟨p, [], 0⟩ xs (Nat.zero_le _) hx
      rw [d1] at h1
      rw [(Prod.mk.inj h1).1, List.length_map]
      omega
    have HZ : Hid (ms = ms' ++ zs) := hzs
    obtain ⟨a2, c2, rfl⟩ := list_form HO'.out
    have hdA : Hid (∀ i (h : i < ms'.length), ∃ g1 g2 m, a1 = some ⟨g1, 0, none⟩ ∧ a2 = some ⟨g2, 0, none⟩ ∧
        (wc.cell? ⟨g2, i * 9, none⟩ = some (.int .i64 (Msg.wh m)) ∧ wc.cell? ⟨g2, i * 9 + 1, none⟩ = some (.string m.nm) ∧ wc.cell? ⟨g2, i * 9 + 4, none⟩ = some (.int .i64 m.ck) ∧ wc.cell? ⟨g2, i * 9 + 7, none⟩ = some (.string m.dt) ∧ wc.cell? ⟨g2, i * 9 + 8, none⟩ = some (.int .i64 m.er)) ∧
        (wc.cell? ⟨g1, i * 9, none⟩ = some (.int .i64 m.wh) ∧ wc.cell? ⟨g1, i * 9 + 1, none⟩ = some (.string m.nm) ∧ wc.cell? ⟨g1, i * 9 + 4, none⟩ = some (.int .i64 m.ck) ∧ wc.cell? ⟨g1, i * 9 + 7, none⟩ = some (.string m.dt) ∧ wc.cell? ⟨g1, i * 9 + 8, none⟩ = some (.int .i64 m.er))) := fun i hi => by
      obtain ⟨g2, rfl⟩ : ∃ g, a2 = some ⟨g, 0, none⟩ := by
        rcases HO'.out.2 with ⟨_, h0⟩ | ⟨g, cp, _, h, _⟩
        · omega
        · exact ⟨g, by injection h⟩
      obtain ⟨g1, rfl⟩ : ∃ g, a1 = some ⟨g, 0, none⟩ := by
        rcases HO.out.2 with ⟨_, h0⟩ | ⟨g, cp, _, h, _⟩
        · omega
        · exact ⟨g, by injection h⟩
      have hi1 : i < ms.length := by omega
      have e : ms[i] = ms'[i] := by
        have : ms[i]? = ms'[i]? := by rw [HZ.out, List.getElem?_append_left hi]
        simpa [hi, hi1] using this
      have h1 := cells_at (row_below HO.out HB'.out) i hi1
      rw [e] at h1
      exact ⟨g1, g2, ms'[i], rfl, rfl, cells_at HO'.out i hi, h1⟩
    generalize hL : ms'.length = L at *
    generalize hL1 : ms.length = L1 at *
    clear hzs hall hgood hL hL1
    go_wp2_with fail
    go_loopw [16] (fun i wr => ∃ q : Nat, q ≤ L ∧ i = .int .i64 q ∧ ∃ d, wr = wc.drewN d) (fun i _ => L - (intOf i).toNat)
    case atStart => exact ⟨0, Nat.zero_le _, rfl, 0, rfl⟩
    case round =>
      obtain ⟨q, hq, rfl, d, rfl⟩ := hrel
      by_cases hlt : q < L
      · obtain ⟨g1, g2, m, rfl, rfl, ⟨x0, x1, x4, x7, x8⟩, ⟨y0, y1, y4, y7, y8⟩⟩ := hdA.out q hlt
        have hq1 : (q : Int) < L := by omega
        have hq2 : (q : Int) < L1 := by omega
        go_wp2_with fail
        go_quiet (fail)
        go_wp2_with fail
        go_roundw
        case rel => exact ⟨q + 1, by omega, by go_num, _, rfl⟩
        case measure => simp [intOf]; omega
      · obtain ⟨k0, k1, k2, k3, k4, k5, k6, k7, k8⟩ := cfg_cells (box_later HX9.out HB'.out)
        have HS : Hid (∀ W, Calls Try.prog 6 #[.agg (cfgL sz cl qu mx qn rt bu wk ou), .int .i64 0, .string ⟨#[70, 69, 82, 82, 89, 97, 103, 81]⟩] W fun e w' => ∃ g cp, e = .returned (.tuple #[.slice (some ⟨g, 0, none⟩) 2 cp, .int .i64 7]) ∧ (w'.cell? ⟨g, 0, none⟩ = some (.int .i64 1) ∧ w'.cell? ⟨g, 1, none⟩ = some (.string ⟨#[97]⟩) ∧ w'.cell? ⟨g, 9, none⟩ = some (.int .i64 2) ∧ w'.cell? ⟨g, 10, none⟩ = some (.string ⟨#[103]⟩)) ∧ Below W.heap.size W w') := fun W => sample_any sz cl qu mx qn rt bu wk ou HB4.out.2 W
        go_wp2_with (go_at_call 6; refine (HS.out _).mono ?_; rintro e w6 ⟨g, cp, rfl, ⟨s0, s1, s9, s10⟩, hb6⟩)
        go_ret
        exact ⟨rfl, (below_drewN (HB4.out.1.trans (HB'.out.mono HB4.out.1.size)) _).trans (hb6.mono (by have h1 := HB4.out.1.size; have h2 := HB'.out.size; show w.heap.size ≤ wc.heap.size; omega))⟩
end Go.Proofs.Ytpobhljcainmdaa
