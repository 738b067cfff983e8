/- What the reader does with a text, as plain functions on lists of numbers: no program is spoken of here.
   No conditions but those that each theorem states. -/
import Derived.Test.YtcnjogkgfdbhfaaMath
import Derived.Test.YtcnjogkgfdbhfaaCanon
namespace Go.Proofs.Ytcnjogkgfdbhfaa

/-- What reading comes to: something, and what is left; or what is left where the blame lies, and the error's number. -/
inductive Out (α : Type) where
  | ok (a : α) (r : List Nat)
  | er (r : List Nat) (c : Nat)

def hexDigits : List Nat := [48, 49, 50, 51, 52, 53, 54, 55, 56, 57, 97, 98, 99, 100, 101, 102]
def escapables : List Nat := [40, 41, 91, 93, 123, 125, 124, 42, 43, 63, 46, 92, 45, 94]
def marks : List Nat := [40, 41, 91, 93, 123, 125, 124, 42, 43, 63, 46]
def itemMarks : List Nat := [93, 45, 94]
/-- The place of a number in a list, -1 if it isn't there. -/
def ix : List Nat → Nat → Int
  | [], _ => -1
  | b :: l, c => if b = c then 0 else if ix l c = -1 then -1 else ix l c + 1
theorem ix_ge (l : List Nat) (c : Nat) : -1 ≤ ix l c := by
  induction l with
  | nil => exact Int.le_refl _
  | cons b l ih => unfold ix; split; · omega
                   split <;> omega
theorem ix_lt (l : List Nat) (c : Nat) : ix l c < l.length := by
  induction l with
  | nil => unfold ix; simp
  | cons b l ih => unfold ix; rw [List.length_cons]; split; · omega
                   split <;> omega
theorem ix_nonneg (l : List Nat) (c : Nat) : 0 ≤ ix l c ↔ c ∈ l := by
  induction l with
  | nil => unfold ix; simp
  | cons b l ih =>
    have := ix_ge l c
    unfold ix
    rw [List.mem_cons]
    split
    · rename_i h; subst h; simp
    · rename_i h
      split
      · rename_i h2
        constructor
        · intro h; omega
        · rintro (h | h3)
          · exact absurd h.symm (by assumption)
          · have := ih.2 h3; omega
      · constructor
        · intro h3; exact .inr (ih.1 (by omega))
        · intro _; omega

def hexOf (b : Nat) : Nat := (ix hexDigits b).toNat
def isHex (b : Nat) : Bool := hexDigits.contains b
def phex : List Nat → Out Nat
  | a :: b :: r => if a ∈ hexDigits then (if b ∈ hexDigits then .ok (16 * hexOf a + hexOf b) r else .er (b :: r) 2) else .er (a :: b :: r) 2
  | [a] => if a ∈ hexDigits then .er [] 2 else .er [a] 2
  | [] => .er [] 2
def pesc : List Nat → Out Nat
  | [] => .er [] 2
  | b :: r => if b = 120 then phex r else if b = 110 then .ok 10 r else if b = 116 then .ok 9 r else if b ∈ escapables then .ok b r else .er (b :: r) 2
def pplain (but : List Nat) : List Nat → Out Nat
  | [] => .er [] 2
  | b :: r => if b ∈ but then .er (b :: r) 2 else if b = 92 then pesc r else .ok b r
/-- Digits, as far as they go: what they come to (2147483648 if more), and what is left. -/
def digs : List Nat → Nat → Nat × List Nat
  | [], n => (n, [])
  | b :: r, n => if 48 ≤ b ∧ b ≤ 57 then digs r (min (10 * n + (b - 48)) 2147483648) else (n, b :: r)
def pnumber (r : List Nat) : Out Nat :=
  if (digs r 0).2.length = r.length then .er r 2 else if 2147483647 < (digs r 0).1 then .er r 3 else .ok (digs r 0).1 (digs r 0).2
def pupper (lo : Nat) : List Nat → Out Int
  | 44 :: 125 :: r => .ok (-1) (125 :: r)
  | 44 :: r => match pnumber r with
    | .ok n r' => .ok n r'
    | .er r' c => .er r' c
  | r => .ok lo r
/-- What stands behind a { whose own place is 'brace' (what is left from it on). -/
def pbounds (brace r : List Nat) : Out (Int × Int) :=
  match pnumber r with
  | .er r' c => .er r' c
  | .ok lo r1 => match pupper lo r1 with
    | .er r' c => .er r' c
    | .ok hi r2 => match r2 with
      | 125 :: r3 => if hi ≠ -1 ∧ (lo : Int) > hi then .er brace 2 else .ok (lo, hi) r3
      | r3 => .er r3 2
/-- How often: of what begins with the byte b, one of * + ? {. -/
def ptimes (b : Nat) (r : List Nat) : Out (Int × Int) :=
  if b = 42 then .ok (0, -1) r else if b = 43 then .ok (1, -1) r else if b = 63 then .ok (0, 1) r else pbounds (b :: r) r
/-- The bytes of an item: from the first to the second. -/
def pitem (r : List Nat) : Out (Nat → Bool) :=
  match pplain itemMarks r with
  | .er r' c => .er r' c
  | .ok lo r1 => match r1 with
    | 45 :: r2 => match pplain itemMarks r2 with
      | .er r' c => .er r' c
      | .ok hi r3 => if lo > hi then .er (45 :: r2) 2 else .ok (between lo hi) r3
    | r2 => .ok (between lo lo) r2
theorem digs_le : ∀ (r : List Nat) (n : Nat), (digs r n).2.length ≤ r.length
  | [], n => by unfold digs; simp
  | b :: r, n => by
    unfold digs
    split
    · have := digs_le r (min (10 * n + (b - 48)) 2147483648); simp; omega
    · simp
theorem phex_le : ∀ {r : List Nat} {a : Nat} {r' : List Nat}, phex r = .ok a r' → r'.length < r.length
  | [], _, _, h => by cases h
  | [a], _, _, h => by simp only [phex] at h; split at h <;> cases h
  | a :: b :: r, _, _, h => by
    simp only [phex] at h
    split at h
    · split at h
      · injection h with _ h; subst h; simp; omega
      · cases h
    · cases h
theorem pesc_le {r : List Nat} {a : Nat} {r' : List Nat} (h : pesc r = .ok a r') : r'.length < r.length := by
  cases r with
  | nil => cases h
  | cons b r =>
    simp only [pesc] at h
    split at h
    · have := phex_le h; simp; omega
    · split at h
      · injection h with _ h; subst h; simp
      · split at h
        · injection h with _ h; subst h; simp
        · split at h
          · injection h with _ h; subst h; simp
          · cases h
theorem pplain_le {but r : List Nat} {a : Nat} {r' : List Nat} (h : pplain but r = .ok a r') : r'.length < r.length := by
  cases r with
  | nil => cases h
  | cons b r =>
    simp only [pplain] at h
    split at h
    · cases h
    · split at h
      · have := pesc_le h; simp; omega
      · injection h with _ h; subst h; simp
theorem pitem_le {r : List Nat} {a : Nat → Bool} {r' : List Nat} (h : pitem r = .ok a r') : r'.length < r.length := by
  unfold pitem at h
  split at h
  · cases h
  · rename_i lo r1 h1
    have l1 := pplain_le h1
    split at h
    · rename_i r2
      split at h
      · cases h
      · rename_i hi r3 h2
        have l2 := pplain_le h2
        split at h
        · cases h
        · injection h with _ h; subst h; simp at l1; omega
    · injection h with _ h; subst h; exact l1

/-- Items as far as a ] (the first one may not be it): what all have. -/
def pitems (first : Bool) (S : Nat → Bool) (r : List Nat) : Out (Nat → Bool) :=
  if first = false ∧ r.head? = some 93 then .ok S r.tail
  else match _h : pitem r with
    | .er r' c => .er r' c
    | .ok T r' => pitems false (fun x => S x || T x) r'
termination_by r.length
decreasing_by exact pitem_le _h

/-- The bytes of an atom without brackets, that begins with b. -/
def pset : List Nat → Out (Nat → Bool)
  | 46 :: r => .ok (fun _ => true) r
  | 91 :: 94 :: r => match pitems true (fun _ => false) r with
    | .ok S r' => .ok (fun x => !S x) r'
    | .er r' c => .er r' c
  | 91 :: r => pitems true (fun _ => false) r
  | r => match pplain marks r with
    | .ok a r' => .ok (between a a) r'
    | .er r' c => .er r' c

end Go.Proofs.Ytcnjogkgfdbhfaa
