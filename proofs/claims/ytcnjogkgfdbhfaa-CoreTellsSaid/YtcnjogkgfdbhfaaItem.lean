/- What the reader's call that reads an item of a class comes to: a contract.
   Conditions: the reader's cells are as 'Rd' says, and the text is no longer than memory may be. -/
import Derived.Test.YtcnjogkgfdbhfaaTimes
namespace Go.Proofs.Ytcnjogkgfdbhfaa
open Go.RowKit

def clsV (S : Nat → Bool) : Value := .agg #[.int .u64 (canon S 0 : Nat), .int .u64 (canon S 1 : Nat), .int .u64 (canon S 2 : Nat), .int .u64 (canon S 3 : Nat)]
def clsOk (S : Nat → Bool) : Value := .tuple #[.agg #[.int .u64 (canon S 0 : Nat), .int .u64 (canon S 1 : Nat), .int .u64 (canon S 2 : Nat), .int .u64 (canon S 3 : Nat)], .int .i64 0]
def clsEr (c : Nat) : Value := .tuple #[.agg #[.int .u64 0, .int .u64 0, .int .u64 0, .int .u64 0], .int .i64 c]
attribute [local go_sem] byteOk byteEr clsOk clsEr

theorem Af.store {a b : World} {rb k : Nat} {s : ByteArray} {op : Value} (h : Af a rb s op k b) {p : Addr} (hp : a.heap.size ≤ p.block) (hr : rb < a.heap.size) (v : Value) : Af a rb s op k (b.setCell p v) :=
  h.keep ((Chg.refl (fun x => x = p.block) b).setCell (fun _ => rfl) v) (fun x hx e => by omega) hr
/-- What a block that isn't the reader's holds is kept. -/
theorem Af.cells {a b : World} {rb k : Nat} {s : ByteArray} {op : Value} (h : Af a rb s op k b) {B : Nat} (hB : B < a.heap.size) (hne : B ≠ rb) : (∀ o, b.cell? ⟨B, o, none⟩ = a.cell? ⟨B, o, none⟩) ∧ (∀ o, b.frozen? ⟨B, o, none⟩ = a.frozen? ⟨B, o, none⟩) :=
  ⟨fun o => h.2.cell o hB hne, fun o => h.2.frozen o hB hne⟩
theorem between_one (b : Nat) : inFirst 1 (fun _ => b) = between b b := by
  funext x
  rw [Bool.eq_iff_iff, inFirst_iff, between_iff]
  constructor
  · rintro ⟨_, _, h⟩; omega
  · intro h; exact ⟨0, by decide, by omega⟩
theorem pitem_er1 {r r' : List Nat} {c : Nat} (h : pplain itemMarks r = .er r' c) : pitem r = .er r' c := by unfold pitem; rw [h]
theorem pitem_one {r r1 : List Nat} {lo : Nat} (h : pplain itemMarks r = .ok lo r1) (h2 : r1.head? ≠ some 45) : pitem r = .ok (between lo lo) r1 := by
  unfold pitem; rw [h]; simp only
  split
  · simp at h2
  · rfl
theorem pitem_two {r r2 : List Nat} {lo : Nat} (h : pplain itemMarks r = .ok lo (45 :: r2)) : pitem r = match pplain itemMarks r2 with
    | .er r' c => .er r' c
    | .ok hi r3 => if lo > hi then .er (45 :: r2) 2 else .ok (between lo hi) r3 := by
  unfold pitem; rw [h]; rfl
theorem phex_byte {r : List Nat} {a : Nat} {r' : List Nat} (h : phex r = .ok a r') : a < 256 := by
  match r with
  | [] => cases h
  | [x] => simp only [phex] at h; split at h <;> cases h
  | x :: y :: r =>
    simp only [phex] at h
    split at h
    · split at h
      · injection h with h _
        have := hexOf_lt x
        have := hexOf_lt y
        omega
      · cases h
    · cases h
theorem pplain_byte {but r : List Nat} {a : Nat} {r' : List Nat} {s : ByteArray} {k : Nat} (ht : Tl s k r) (h : pplain but r = .ok a r') : a < 256 := by
  cases r with
  | nil => cases h
  | cons b r =>
    have hb := ht.byte
    simp only [pplain] at h
    split at h
    · cases h
    · split at h
      · cases r with
        | nil => cases h
        | cons c r =>
          have hc := ht.tail.byte
          simp only [pesc] at h
          split at h
          · exact phex_byte h
          · split at h
            · injection h with h _; omega
            · split at h
              · injection h with h _; omega
              · split at h
                · injection h with h _; omega
                · cases h
      · injection h with h _; omega
theorem pplain_two {but r r' : List Nat} {c : Nat} (h : pplain but r = .er r' c) : c = 2 := by
  cases r with
  | nil => injection h with _ h; omega
  | cons b r =>
    simp only [pplain] at h
    split at h
    · injection h with _ h; omega
    · split at h
      · cases r with
        | nil => injection h with _ h; omega
        | cons x r =>
          simp only [pesc] at h
          split at h
          · match r with
            | [] => injection h with _ h; omega
            | [y] => simp only [phex] at h; split at h <;> (injection h with _ h; omega)
            | y :: z :: r =>
              simp only [phex] at h
              split at h
              · split at h
                · cases h
                · injection h with _ h; omega
              · injection h with _ h; omega
          · split at h
            · cases h
            · split at h
              · cases h
              · split at h
                · cases h
                · injection h with _ h; omega
      · cases h

end Go.Proofs.Ytcnjogkgfdbhfaa
