/- The plain mathematics of reading a text message by message: what has come so far, and in which state that leaves the reader. Nothing of the program is here. -/
import Derived.Test.YtpobhljcainmdaaGreatSpec
namespace Go.Proofs.YtpobhljcainmdaaGreat

/-- Where a reader stands: its phase, the cookies in use, the place in the text. -/
structure St where
  ph : Int
  used : List Int
  pos : Nat

def St.step (st : St) (x : Msg × Int) : St := ⟨after st.ph x.1, if accepted x.1 then st.used ++ [x.1.ck] else st.used, st.pos + x.2.toNat⟩
def St.run (st : St) (xs : List (Msg × Int)) : St := xs.foldl St.step st
theorem St.run_snoc (st : St) (xs : List (Msg × Int)) (x : Msg × Int) : st.run (xs ++ [x]) = (st.run xs).step x := by simp [St.run, List.foldl_append]

/-- What comes next. -/
def St.next (sz mx : Int) (s : ByteArray) (st : St) : Msg × Int := first sz mx st.ph st.used (s.extract st.pos s.size)

/-- These messages come, one behind the other. -/
def Runs (sz mx : Int) (s : ByteArray) : St → List (Msg × Int) → Prop
  | _, [] => True
  | st, x :: xs => st.next sz mx s = x ∧ x.2 ≠ 0 ∧ Runs sz mx s (st.step x) xs

theorem runs_snoc (sz mx : Int) (s : ByteArray) (st : St) (xs : List (Msg × Int)) (x : Msg × Int) : Runs sz mx s st (xs ++ [x]) ↔ Runs sz mx s st xs ∧ (st.run xs).next sz mx s = x ∧ x.2 ≠ 0 := by
  induction xs generalizing st with
  | nil => simp [Runs, St.run]
  | cons y ys ih =>
    simp only [List.cons_append, Runs, ih]
    simp only [St.run, List.foldl_cons]
    constructor
    · rintro ⟨h1, h2, h3, h4, h5⟩; exact ⟨⟨h1, h2, h3⟩, h4, h5⟩
    · rintro ⟨⟨h1, h2, h3⟩, h4, h5⟩; exact ⟨h1, h2, h3, h4, h5⟩

theorem greetFrom_in (s : ByteArray) (f i : Nat) : 0 ≤ (greetFrom s f i).2 ∧ (greetFrom s f i).2 ≤ s.size := by
  induction f generalizing i with
  | zero => unfold greetFrom; split <;> simp <;> omega
  | succ f ih =>
    unfold greetFrom
    split
    · simp
    · split
      · exact ih (i + 1)
      · simp; omega

theorem first_in (sz mx ph : Int) (used : List Int) (s : ByteArray) : 0 ≤ (first sz mx ph used s).2 ∧ (first sz mx ph used s).2 ≤ s.size := by
  have r7 := two_range s 7
  unfold first
  split
  · exact greetFrom_in s 5 0
  · split
    · unfold opt; repeat' split
      all_goals simp
      all_goals omega
    · split
      · unfold reqst; repeat' split
        all_goals simp
        all_goals omega
      · simp

theorem next_in (sz mx : Int) (s : ByteArray) (st : St) : 0 ≤ (st.next sz mx s).2 ∧ (st.next sz mx s).2 ≤ (s.size - st.pos : Nat) := by
  have h := first_in sz mx st.ph st.used (s.extract st.pos s.size)
  have e : (s.extract st.pos s.size).size = s.size - st.pos := by simp [ByteArray.size_extract]
  rw [e] at h
  exact h

/-- Each takes a byte or more: the place goes on, and stays within the text. -/
theorem runs_pos (sz mx : Int) (s : ByteArray) (st : St) (xs : List (Msg × Int)) (h0 : st.pos ≤ s.size) (h : Runs sz mx s st xs) : st.pos + xs.length ≤ (st.run xs).pos ∧ (st.run xs).pos ≤ s.size := by
  induction xs generalizing st with
  | nil => simp [St.run]; omega
  | cons x xs ih =>
    obtain ⟨h1, h2, h3⟩ := h
    have hn := next_in sz mx s st
    rw [h1] at hn
    have e : (st.step x).pos = st.pos + x.2.toNat := rfl
    have := ih (st.step x) (by omega) h3
    simp only [St.run, List.foldl_cons, List.length_cons] at this ⊢
    omega

/-- When nothing more comes, what has come is what the text says. -/
theorem runs_decode (sz mx : Int) (s : ByteArray) (st : St) (xs : List (Msg × Int)) (f : Nat) (h0 : st.pos ≤ s.size) (h : Runs sz mx s st xs) (he : ((st.run xs).next sz mx s).2 = 0) (hf : s.size - st.pos < f) :
    decode sz mx s f st.ph st.used st.pos = (xs.map (·.1), ((st.run xs).pos : Int)) := by
  induction xs generalizing st f with
  | nil =>
    cases f with
    | zero => omega
    | succ f =>
      have he' : (first sz mx st.ph st.used (s.extract st.pos s.size)).2 = 0 := he
      simp [decode, he', St.run]
  | cons x xs ih =>
    obtain ⟨h1, h2, h3⟩ := h
    have hn := next_in sz mx s st
    rw [h1] at hn
    cases f with
    | zero => omega
    | succ f =>
      have e : (st.step x).pos = st.pos + x.2.toNat := rfl
      have := ih (st.step x) f (by omega) h3 he (by omega)
      have h1' : first sz mx st.ph st.used (s.extract st.pos s.size) = x := h1
      simp only [decode, h1', h2, if_false]
      have hs : decode sz mx s f (after st.ph x.1) (if accepted x.1 then st.used ++ [x.1.ck] else st.used) (st.pos + x.2.toNat) = (xs.map (·.1), (((st.step x).run xs).pos : Int)) := this
      rw [hs]
      simp [St.run]

theorem runs_prefix (sz mx : Int) (s : ByteArray) (st : St) (xs ys : List (Msg × Int)) (h : Runs sz mx s st (xs ++ ys)) : Runs sz mx s st xs := by
  induction xs generalizing st with
  | nil => trivial
  | cons x xs ih => exact ⟨h.1, h.2.1, ih _ h.2.2⟩
end Go.Proofs.YtpobhljcainmdaaGreat
