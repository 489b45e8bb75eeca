/- The plain mathematics of what a client says: messages, one read out of a text, all of a text. Nothing of the program is here. -/
import Derived.Below
namespace Go.Proofs.YtpobhljcainmdaaGreat

/-- One message. -/
structure Msg where
  wh : Int
  nm : ByteArray
  kd : Int
  fl : Int
  ck : Int
  of : Int
  ln : Int
  dt : ByteArray
  er : Int

def Msg.zero : Msg := ⟨0, ⟨#[]⟩, 0, 0, 0, 0, 0, ⟨#[]⟩, 0⟩
def Msg.closing : Msg := ⟨4, ⟨#[]⟩, 0, 0, 0, 0, 0, ⟨#[]⟩, 0⟩

/-- The byte at a place, as a number. -/
def bt (s : ByteArray) (i : Nat) : Int := ((s.data.getD i 0).toNat : Int)
theorem bt_eq (s : ByteArray) (i : Nat) (h : i < s.size) : (s[i].toNat : Int) = bt s i := by
  unfold bt
  rw [show s[i] = s.data[i] from rfl]
  simp [Array.getD, h]
theorem bt_range (s : ByteArray) (i : Nat) : 0 ≤ bt s i ∧ bt s i ≤ 255 := by
  unfold bt
  have := (s.data.getD i 0).toNat_lt
  omega

/-- The number in two bytes. -/
def two (s : ByteArray) (i : Nat) : Int := bt s i + 256 * bt s (i + 1)
theorem two_range (s : ByteArray) (i : Nat) : 0 ≤ two s i ∧ two s i ≤ 65535 := by
  have h1 := bt_range s i
  have h2 := bt_range s (i + 1)
  unfold two
  omega

/-- The error with which a request is answered at once. -/
def verdict (sz kd fl of ln : Int) : Int :=
  if 5 < kd ∨ 1 < fl then 22
  else if fl = 1 ∧ kd ≠ 3 ∧ kd ≠ 1 ∧ kd ≠ 4 then 22
  else if kd ≠ 0 ∧ kd ≠ 3 ∧ kd ≠ 1 ∧ kd ≠ 4 then (if of ≠ 0 ∨ ln ≠ 0 then 22 else 0)
  else if ln = 0 ∨ ln % 4 ≠ 0 ∨ of % 4 ≠ 0 then 22
  else if sz < of + ln then (if kd = 1 ∨ kd = 4 then 28 else 22)
  else 0

def hello (i : Nat) : Int := if i = 0 then 70 else if i = 1 then 69 else if i = 2 then 82 else if i = 3 then 82 else 89

/-- A greeting, from its i-th byte on. -/
def greetFrom (s : ByteArray) : Nat → Nat → Msg × Int
  | 0, _ => if s.size < 6 then (.zero, 0) else (⟨1, s.extract 5 6, 0, 0, 0, 0, 0, ⟨#[]⟩, 0⟩, 6)
  | f + 1, i => if s.size ≤ i then (.zero, 0) else if bt s i = hello i then greetFrom s f (i + 1) else (.closing, i + 1)
def greet (s : ByteArray) : Msg × Int := greetFrom s 5 0

def opt (s : ByteArray) : Msg × Int :=
  if s.size = 0 then (.zero, 0) else if bt s 0 < 97 ∨ 122 < bt s 0 then (.closing, 1) else (⟨2, s.extract 0 1, 0, 0, 0, 0, 0, ⟨#[]⟩, 0⟩, 1)

def reqst (sz mx : Int) (used : List Int) (s : ByteArray) : Msg × Int :=
  if s.size < 9 then (.zero, 0)
  else if bt s 0 ≠ 81 ∨ mx < two s 7 ∨ two s 3 ∈ used then (.closing, 9)
  else if bt s 1 = 1 then
    (if (s.size : Int) < 9 + two s 7 then (.zero, 0)
     else (⟨3, ⟨#[]⟩, bt s 1, bt s 2, two s 3, two s 5, two s 7, s.extract 9 (9 + two s 7).toNat, verdict sz (bt s 1) (bt s 2) (two s 5) (two s 7)⟩, 9 + two s 7))
  else (⟨3, ⟨#[]⟩, bt s 1, bt s 2, two s 3, two s 5, two s 7, ⟨#[]⟩, verdict sz (bt s 1) (bt s 2) (two s 5) (two s 7)⟩, 9)

/-- The message that begins a text in a phase, and its length; 0: none. -/
def first (sz mx ph : Int) (used : List Int) (s : ByteArray) : Msg × Int :=
  if ph = 0 then greet s else if ph = 1 then opt s else if ph = 2 then reqst sz mx used s else (.zero, 0)

/-- The phase behind a message. -/
def after (ph : Int) (m : Msg) : Int :=
  if m.wh = 1 ∧ (m.nm.toList == [97]) = true then 1 else if m.wh = 2 ∧ (m.nm.toList == [103]) = true then 2 else if m.wh = 3 ∧ m.kd = 5 ∧ m.er = 0 then 3 else if m.wh = 4 then 4 else ph

def accepted (m : Msg) : Bool := decide (m.wh = 3 ∧ m.er = 0 ∧ m.kd ≠ 5)

/-- All messages from a place on, and where they end (f: more than there are). -/
def decode (sz mx : Int) (s : ByteArray) : Nat → Int → List Int → Nat → List Msg × Int
  | 0, _, _, at' => ([], at')
  | f + 1, ph, used, at' =>
    let r := first sz mx ph used (s.extract at' s.size)
    if r.2 = 0 then ([], at')
    else
      let t := decode sz mx s f (after ph r.1) (if accepted r.1 then used ++ [r.1.ck] else used) (at' + r.2.toNat)
      (r.1 :: t.1, t.2)

end Go.Proofs.YtpobhljcainmdaaGreat
