/- What the reader's calls that read one byte come to: contracts.
   Conditions: the reader's cells are as 'Rd' says, and the text is no longer than memory may be. -/
import Derived.Test.YtcnjogkgfdbhfaaRd
import Derived.Test.YtcnjogkgfdbhfaaPure
import Derived.Lib.Bytealg
namespace Go.Proofs.Ytcnjogkgfdbhfaa
open Go.RowKit

theorem ix_byte (s : ByteArray) (b : Nat) (hb : b < 256) : Lib.indexByte s.data.toList (b : Int).toNat.toUInt8 = ix (txt s) b := by
  unfold txt
  induction s.data.toList with
  | nil => rfl
  | cons c l ih =>
    rw [List.map_cons]
    unfold Lib.indexByte ix
    rw [ih]
    have e : (c == (b : Int).toNat.toUInt8) = decide (c.toNat = b) := by
      rw [Int.toNat_natCast, Bool.eq_iff_iff]
      simp only [beq_iff_eq, decide_eq_true_eq]
      constructor
      · rintro rfl; rw [Nat.toUInt8_eq, UInt8.toNat_ofNat']; exact Nat.mod_eq_of_lt hb
      · intro h; apply UInt8.toNat_inj.1; rw [h, Nat.toUInt8_eq, UInt8.toNat_ofNat']; exact (Nat.mod_eq_of_lt hb).symm
    rw [e]
    by_cases h : c.toNat = b
    · simp [h]
    · by_cases h2 : ix (List.map UInt8.toNat l) b = -1
      · simp [h, h2]
      · simp [h, h2]

/-- What a reading call comes to, told by its outcome: what it answers of what is read, or of the error's number. -/
def Gives {α : Type} (o : Out α) (fo : α → Value) (fe : Nat → Value) (w : World) (rb : Nat) (s : ByteArray) (op : Value) (e : Ending) (w' : World) : Prop :=
  match o with
  | .ok a r => e = .returned (fo a) ∧ ∃ k, Af w rb s op k w' ∧ Tl s k r
  | .er r c => e = .returned (fe c) ∧ ∃ k, Af w rb s op k w' ∧ Tl s k r
theorem Gives.mono' {α : Type} {o : Out α} {fo : α → Value} {fe : Nat → Value} {w w1 : World} {rb k : Nat} {s : ByteArray} {op : Value} {e : Ending} {w' : World} (hA : Af w rb s op k w1) (h : Gives o fo fe w1 rb s op e w') : Gives o fo fe w rb s op e w' := by
  cases o with
  | ok a r => obtain ⟨he, k', h1, h2⟩ := h; exact ⟨he, k', hA.trans h1, h2⟩
  | er r c => obtain ⟨he, k', h1, h2⟩ := h; exact ⟨he, k', hA.trans h1, h2⟩
def byteOk (a : Nat) : Value := .tuple #[.int .u8 a, .int .i64 0]
def byteEr (c : Nat) : Value := .tuple #[.int .u8 0, .int .i64 c]
attribute [local go_sem] byteOk byteEr

theorem hexAdd : ∀ x : Fin 16, ∀ y : Fin 16, bits .or .u8 (((x.val : Nat) : Int) * 16) ((y.val : Nat) : Int) = ((16 * x.val + y.val : Nat) : Int) := by decide
theorem hexOr : ∀ x : Fin 16, bits .or .u8 0 ((x.val : Nat) : Int) = ((x.val : Nat) : Int) := by decide
theorem hexOf_lt (b : Nat) : hexOf b < 16 := by
  have h1 := ix_lt hexDigits b
  have h2 : hexDigits.length = 16 := rfl
  unfold hexOf
  omega
theorem hex_ix {b : Nat} (h : b ∈ hexDigits) : ix hexDigits b = (hexOf b : Nat) := by
  have := (ix_nonneg hexDigits b).2 h
  unfold hexOf
  omega
theorem not_hex_ix {b : Nat} (h : ¬ b ∈ hexDigits) : ix hexDigits b = -1 := by
  have h1 := ix_ge hexDigits b
  have h2 : ¬ 0 ≤ ix hexDigits b := fun h' => h ((ix_nonneg hexDigits b).1 h')
  omega
def hexStr : ByteArray := { data := #[48, 49, 50, 51, 52, 53, 54, 55, 56, 57, 97, 98, 99, 100, 101, 102] }
theorem txt_hexStr : txt { data := #[48, 49, 50, 51, 52, 53, 54, 55, 56, 57, 97, 98, 99, 100, 101, 102] } = hexDigits := by rfl

theorem phex_none (a : Nat) (r : List Nat) (h : ¬ a ∈ hexDigits) : phex (a :: r) = .er (a :: r) 2 := by
  cases r with
  | nil => simp only [phex, h, if_false]
  | cons b r => simp only [phex, h, if_false]
theorem phex_one (a : Nat) (r : List Nat) (h : a ∈ hexDigits) : phex (a :: r) = match r with
    | [] => .er [] 2
    | b :: r => if b ∈ hexDigits then .ok (16 * hexOf a + hexOf b) r else .er (b :: r) 2 := by
  cases r with
  | nil => simp only [phex, h, if_true]
  | cons b r => simp only [phex, h, if_true]

theorem txt_esc : txt { data := #[40, 41, 91, 93, 123, 125, 124, 42, 43, 63, 46, 92, 45, 94] } = escapables := by rfl
theorem txt_marks : txt { data := #[40, 41, 91, 93, 123, 125, 124, 42, 43, 63, 46] } = marks := by rfl
theorem txt_itemMarks : txt { data := #[93, 45, 94] } = itemMarks := by rfl
end Go.Proofs.Ytcnjogkgfdbhfaa
