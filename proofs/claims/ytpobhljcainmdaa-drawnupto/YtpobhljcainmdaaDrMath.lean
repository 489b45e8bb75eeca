/- The plain mathematics of a text that is cut: what the beginning of a text says is the beginning of what all of it says. Nothing of the program is here. -/
import Derived.Test.YtpobhljcainmdaaRuns
namespace Go.Proofs.Ytpobhljcainmdaa

/-- One text begins another. -/
def Heads (t u : ByteArray) : Prop := t.size ≤ u.size ∧ ∀ i, i < t.size → t.data[i]? = u.data[i]?

theorem Heads.bt {t u : ByteArray} (h : Heads t u) (i : Nat) (hi : i < t.size) : bt t i = bt u i := by
  have e := h.2 i hi
  unfold Go.Proofs.Ytpobhljcainmdaa.bt
  have h1 : t.data.getD i 0 = (t.data[i]?).getD 0 := by simp [Array.getD_eq_getD_getElem?]
  have h2 : u.data.getD i 0 = (u.data[i]?).getD 0 := by simp [Array.getD_eq_getD_getElem?]
  rw [h1, h2, e]

theorem Heads.two {t u : ByteArray} (h : Heads t u) (i : Nat) (hi : i + 1 < t.size) : two t i = two u i := by
  unfold Go.Proofs.Ytpobhljcainmdaa.two
  rw [h.bt i (by omega), h.bt (i + 1) hi]

theorem Heads.cut {t u : ByteArray} (h : Heads t u) (a b : Nat) (hb : b ≤ t.size) : t.extract a b = u.extract a b := by
  apply ByteArray.ext
  apply Array.ext_getElem?
  intro i
  simp only [ByteArray.data_extract, Array.getElem?_extract]
  have hs := h.1
  have e1 : t.data.size = t.size := rfl
  have e2 : u.data.size = u.size := rfl
  by_cases hi : i < b - a
  · rw [if_pos (by omega), if_pos (by omega)]
    exact h.2 _ (by omega)
  · rw [if_neg (by omega), if_neg (by omega)]

theorem heads_extract {t u : ByteArray} (h : Heads t u) (p : Nat) : Heads (t.extract p t.size) (u.extract p u.size) := by
  have hs := h.1
  have e1 : t.data.size = t.size := rfl
  have e2 : u.data.size = u.size := rfl
  refine ⟨by simp [ByteArray.size_extract]; omega, fun i hi => ?_⟩
  have hi' : i < t.size - p := by simpa [ByteArray.size_extract] using hi
  simp only [ByteArray.data_extract, Array.getElem?_extract]
  rw [if_pos (by omega), if_pos (by omega)]
  exact h.2 _ (by omega)

theorem heads_take (s : ByteArray) (k : Nat) (hk : k ≤ s.size) : Heads (s.extract 0 k) s := by
  have e1 : s.data.size = s.size := rfl
  refine ⟨by simp [ByteArray.size_extract]; omega, fun i hi => ?_⟩
  have hi' : i < k := by
    have : (s.extract 0 k).size = min k s.size := by simp [ByteArray.size_extract]
    omega
  simp only [ByteArray.data_extract, Array.getElem?_extract]
  rw [if_pos (by omega)]
  simp

theorem greetFrom_heads {t u : ByteArray} (h : Heads t u) (f i : Nat) (hn : (greetFrom t f i).2 ≠ 0) : greetFrom u f i = greetFrom t f i := by
  have hs := h.1
  induction f generalizing i with
  | zero =>
    unfold greetFrom at hn ⊢
    split at hn
    · simp at hn
    · rename_i h6
      rw [if_neg (by omega), if_neg h6, h.cut 5 6 (by omega)]
  | succ f ih =>
    unfold greetFrom at hn ⊢
    split at hn
    · simp at hn
    · rename_i hi
      rw [if_neg (by omega), if_neg hi, ← h.bt i (by omega)]
      split at hn
      · rename_i hb
        rw [if_pos hb, if_pos hb]
        exact ih (i + 1) hn
      · rename_i hb
        rw [if_neg hb, if_neg hb]

theorem first_heads {t u : ByteArray} (h : Heads t u) (sz mx ph : Int) (us : List Int) (hn : (first sz mx ph us t).2 ≠ 0) : first sz mx ph us u = first sz mx ph us t := by
  have hs := h.1
  unfold first at hn ⊢
  split at hn
  · rename_i h0
    rw [if_pos h0, if_pos h0]
    exact greetFrom_heads h 5 0 hn
  · rename_i h0
    rw [if_neg h0, if_neg h0]
    split at hn
    · rename_i h1
      rw [if_pos h1, if_pos h1]
      unfold opt at hn ⊢
      split at hn
      · simp at hn
      · rename_i hz
        rw [if_neg (by omega), if_neg hz, ← h.bt 0 (by omega), h.cut 0 1 (by omega)]
    · rename_i h1
      rw [if_neg h1, if_neg h1]
      split at hn
      · rename_i h2
        rw [if_pos h2, if_pos h2]
        have r7 := two_range t 7
        unfold reqst at hn ⊢
        split at hn
        · simp at hn
        · rename_i h9
          rw [if_neg (by omega), if_neg h9, ← h.bt 0 (by omega), ← h.bt 1 (by omega), ← h.bt 2 (by omega), ← h.two 3 (by omega), ← h.two 5 (by omega), ← h.two 7 (by omega)]
          split at hn
          · rename_i hc
            rw [if_pos hc, if_pos hc]
          · rename_i hc
            rw [if_neg hc, if_neg hc]
            split at hn
            · rename_i hk
              rw [if_pos hk, if_pos hk]
              split at hn
              · simp at hn
              · rename_i hl
                rw [if_neg (by omega), if_neg hl, h.cut 9 (9 + two t 7).toNat (by omega)]
            · rename_i hk
              rw [if_neg hk, if_neg hk]
      · simp at hn

theorem runs_heads {t u : ByteArray} (h : Heads t u) (sz mx : Int) (st : St) (xs : List (Msg × Int)) (hr : Runs sz mx t st xs) : Runs sz mx u st xs := by
  induction xs generalizing st with
  | nil => trivial
  | cons x xs ih =>
    obtain ⟨h1, h2, h3⟩ := hr
    refine ⟨?_, h2, ih _ h3⟩
    have hx : first sz mx st.ph st.used (t.extract st.pos t.size) = x := h1
    have := first_heads (heads_extract h st.pos) sz mx st.ph st.used (by rw [hx]; exact h2)
    show first sz mx st.ph st.used (u.extract st.pos u.size) = x
    rw [this, hx]

/-- Of two readings of one text, one of which has come to its end, the other is the beginning. -/
theorem runs_prefix_of {sz mx : Int} {s : ByteArray} {st : St} {xs ys : List (Msg × Int)} (hx : Runs sz mx s st xs) (hy : Runs sz mx s st ys) (he : ((st.run ys).next sz mx s).2 = 0) : ∃ zs, ys = xs ++ zs := by
  induction xs generalizing st ys with
  | nil => exact ⟨ys, rfl⟩
  | cons x xs ih =>
    obtain ⟨h1, h2, h3⟩ := hx
    cases ys with
    | nil =>
      have e : (st.next sz mx s).2 = 0 := he
      rw [h1] at e
      exact absurd e h2
    | cons y ys =>
      obtain ⟨g1, g2, g3⟩ := hy
      rw [h1] at g1
      subst g1
      obtain ⟨zs, hz⟩ := ih h3 g3 he
      exact ⟨zs, by rw [hz]; rfl⟩

/-- Every text is read to its end. -/
theorem runs_full (sz mx : Int) (s : ByteArray) (st : St) (h0 : st.pos ≤ s.size) : ∃ xs, Runs sz mx s st xs ∧ ((st.run xs).next sz mx s).2 = 0 := by
  generalize hk : s.size - st.pos = k
  induction k using Nat.strongRecOn generalizing st with
  | ind k ih =>
    by_cases h : (st.next sz mx s).2 = 0
    · exact ⟨[], trivial, h⟩
    · have hin := next_in sz mx s st
      obtain ⟨xs, h1, h2⟩ := ih (s.size - (st.step (st.next sz mx s)).pos) (by show s.size - (st.pos + (st.next sz mx s).2.toNat) < k; omega) (st.step (st.next sz mx s)) (by show st.pos + (st.next sz mx s).2.toNat ≤ s.size; omega) rfl
      exact ⟨st.next sz mx s :: xs, ⟨rfl, h, h1⟩, h2⟩

theorem run_pos_le (st : St) (xs : List (Msg × Int)) : st.pos ≤ (st.run xs).pos := by
  induction xs generalizing st with
  | nil => exact Nat.le_refl _
  | cons x xs ih => exact Nat.le_trans (Nat.le_add_right _ _) (ih (st.step x))

/-- What is told of the beginning of a text is the beginning of what is told of all of it. -/
theorem decode_cut (sz mx : Int) (s : ByteArray) (k : Nat) (ph : Int) (hk : k ≤ s.size) (ms ms' : List Msg) (n n' : Int) (h : (ms, n) = decode sz mx s (s.size + 1) ph [] 0) (h' : (ms', n') = decode sz mx (s.extract 0 k) ((s.extract 0 k).size + 1) ph [] 0) :
    (0 ≤ n ∧ n ≤ s.size) ∧ (0 ≤ n' ∧ n' ≤ k) ∧ n' ≤ n ∧ ∃ zs, ms = ms' ++ zs := by
  obtain ⟨xs, hx, ex⟩ := runs_full sz mx s ⟨ph, [], 0⟩ (Nat.zero_le _)
  obtain ⟨ys, hy, ey⟩ := runs_full sz mx (s.extract 0 k) ⟨ph, [], 0⟩ (Nat.zero_le _)
  have d1 := runs_decode sz mx s ⟨ph, [], 0⟩ xs (s.size + 1) (Nat.zero_le _) hx ex (by simp)
  have d2 := runs_decode sz mx (s.extract 0 k) ⟨ph, [], 0⟩ ys ((s.extract 0 k).size + 1) (Nat.zero_le _) hy ey (by simp)
  have p1 := runs_pos sz mx s ⟨ph, [], 0⟩ xs (Nat.zero_le _) hx
  have p2 := runs_pos sz mx (s.extract 0 k) ⟨ph, [], 0⟩ ys (Nat.zero_le _) hy
  have hsz : (s.extract 0 k).size = k := by simp [ByteArray.size_extract]; omega
  obtain ⟨zs, hz⟩ := runs_prefix_of (runs_heads (heads_take s k hk) sz mx _ ys hy) hx ex
  have d1' : decode sz mx s (s.size + 1) ph [] 0 = (xs.map (·.1), (((⟨ph, [], 0⟩ : St).run xs).pos : Int)) := d1
  have d2' : decode sz mx (s.extract 0 k) ((s.extract 0 k).size + 1) ph [] 0 = (ys.map (·.1), (((⟨ph, [], 0⟩ : St).run ys).pos : Int)) := d2
  rw [d1'] at h
  rw [d2'] at h'
  obtain ⟨rfl, rfl⟩ := Prod.mk.inj h
  obtain ⟨rfl, rfl⟩ := Prod.mk.inj h'
  have hle : ((⟨ph, [], 0⟩ : St).run ys).pos ≤ ((⟨ph, [], 0⟩ : St).run xs).pos := by
    rw [hz]
    have e : (⟨ph, [], 0⟩ : St).run (ys ++ zs) = ((⟨ph, [], 0⟩ : St).run ys).run zs := by simp [St.run, List.foldl_append]
    rw [e]
    exact run_pos_le _ _
  refine ⟨⟨by omega, by omega⟩, ⟨by omega, by omega⟩, by omega, zs.map (·.1), ?_⟩
  rw [hz, List.map_append]
end Go.Proofs.Ytpobhljcainmdaa
