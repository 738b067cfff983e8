/- Texts of bytes, and what the document's Digits come to: plain facts and a contract.
   Conditions: a number of 63 bits. -/
import Derived.Test.YtgdblnppeeknpaaDoorRnM
import Derived.Laws.IdiomStrings
import Derived.Laws.Concat
import Derived.Deep.QuietTactic
import Derived.BigQuiet
import Derived.Below
namespace Go.Proofs.YtgdblnppeeknpaaDoor
open Go.RowKit

/-- The text's bytes, as numbers. -/
def txt (s : ByteArray) : List Nat := s.data.toList.map UInt8.toNat
def hexDigits : List Nat := [48, 49, 50, 51, 52, 53, 54, 55, 56, 57, 97, 98, 99, 100, 101, 102]
def hx (k : Nat) : Nat := hexDigits.getD k 0
theorem hx_lt : ∀ k, k < 16 → hx k < 256 := by decide
theorem txt_append (a b : ByteArray) : txt (a ++ b) = txt a ++ txt b := by
  unfold txt
  simp
def H16 : ByteArray := { data := #[48, 49, 50, 51, 52, 53, 54, 55, 56, 57, 97, 98, 99, 100, 101, 102] }
theorem txt_extract (s : ByteArray) (i j : Nat) : txt (s.extract i j) = ((txt s).take j).drop i := by
  unfold txt
  rw [← List.map_take, ← List.map_drop]
  congr 1
  simp [List.drop_take]
theorem hx_take : ∀ k, k < 16 → (hexDigits.take (k + 1)).drop k = [hx k] := by decide
theorem txt_digit {k : Nat} (h : k < 16) : txt (H16.extract k (k + 1)) = [hx k] := by
  rw [txt_extract, show txt H16 = hexDigits from rfl, hx_take k h]
theorem txt_list (l : List Nat) (h : ∀ x ∈ l, x < 256) : txt ⟨(l.map UInt8.ofNat).toArray⟩ = l := by
  unfold txt
  simp only [List.map_map]
  conv => rhs; rw [← List.map_id l]
  apply List.map_congr_left
  intro x hx
  have := h x hx
  simp
  omega
/-- A row of bytes as a text. -/
theorem conv_at (W : World) (B : Nat) (l : List Nat) (c : Nat) (hl : ∀ x ∈ l, x < 256) (h : ∀ j, W.cell? ⟨B, j, none⟩ = (l.map fun (x : Nat) => Value.int .u8 (x : Int))[j]?) : (convert 22 9 (.slice (some ⟨B, 0, none⟩) l.length c)).run Tryd.prog W = .ok (.string ⟨(l.map UInt8.ofNat).toArray⟩) W := by
  have := run_convert_bytes_back (P := Tryd.prog) W 22 9 5 ⟨B, 0, none⟩ c (l.map UInt8.ofNat) Tryd.underlying22 Tryd.underlying5 Tryd.underlying9 (by
    intro j hj
    have hj' : j < l.length := by simpa using hj
    have e : (UInt8.ofNat l[j]).toNat = l[j] := by
      have := hl l[j] (List.getElem_mem _)
      simp; omega
    rw [show (Addr.add ⟨B, 0, none⟩ j) = ⟨B, j, none⟩ by simp [Addr.add]; intro h; exact h.symm, h j]
    simp [hj', e])
  simpa using this
theorem conv_new (w : World) (l : List Nat) (c : Nat) (hl : ∀ x ∈ l, x < 256) : (convert 22 9 (.slice (some ⟨w.heap.size, 0, none⟩) l.length c)).run Tryd.prog (w.alloc (.cells (l.map fun (x : Nat) => Value.int .u8 (x : Int)).toArray 5)) = .ok (.string ⟨(l.map UInt8.ofNat).toArray⟩) (w.alloc (.cells (l.map fun (x : Nat) => Value.int .u8 (x : Int)).toArray 5)) :=
  conv_at _ _ l c hl fun j => by rw [(row_cells (heap_alloc_new w (.cells (l.map fun (x : Nat) => Value.int .u8 (x : Int)).toArray 5))).1 j]; simp
theorem conv_drew (w : World) (l : List Nat) (c : Nat) (hl : ∀ x ∈ l, x < 256) : (convert 22 9 (.slice (some ⟨w.heap.size, 0, none⟩) l.length c)).run Tryd.prog (w.alloc (.cells (l.map fun (x : Nat) => Value.int .u8 (x : Int)).toArray 5)).drew = .ok (.string ⟨(l.map UInt8.ofNat).toArray⟩) (w.alloc (.cells (l.map fun (x : Nat) => Value.int .u8 (x : Int)).toArray 5)).drew :=
  conv_at _ _ l c hl fun j => by
    have h1 := (row_cells (heap_alloc_new w (.cells (l.map fun (x : Nat) => Value.int .u8 (x : Int)).toArray 5))).1 j
    rw [show (World.drew (w.alloc (.cells (l.map fun (x : Nat) => Value.int .u8 (x : Int)).toArray 5))).cell? ⟨w.heap.size, j, none⟩ = (w.alloc (.cells (l.map fun (x : Nat) => Value.int .u8 (x : Int)).toArray 5)).cell? ⟨w.heap.size, j, none⟩ from rfl, h1]; simp
def Wrote (l : List Nat) (w : World) (e : Ending) (w' : World) : Prop := ∃ s, txt s = l ∧ e = .returned (.string s) ∧ Below w.heap.size w w'
theorem u8_inj : ∀ (a b : List UInt8), a.map UInt8.toNat = b.map UInt8.toNat → a = b
  | [], [], _ => rfl
  | [], _ :: _, h => by simp at h
  | _ :: _, [], h => by simp at h
  | x :: a, y :: b, h => by
    simp only [List.map_cons, List.cons.injEq] at h
    rw [UInt8.toNat_inj.1 h.1, u8_inj a b h.2]
theorem txt_inj {a b : ByteArray} (h : txt a = txt b) : a = b := by
  have := u8_inj _ _ h
  cases a
  cases b
  congr
  exact Array.toList_inj.1 this
/-- The digits of a number, as they are written. -/
def decs (n : Nat) : List Nat := if 9 < n then decs (n / 10) ++ [48 + n % 10] else [48 + n]
termination_by n
theorem decs_big {n : Nat} (h : 9 < n) : decs n = decs (n / 10) ++ [48 + n % 10] := by rw [decs, if_pos h]
theorem decs_small {n : Nat} (h : ¬ 9 < n) : decs n = [48 + n] := by rw [decs, if_neg h]
theorem decs_len : ∀ k n, n < 10 ^ (k + 1) → (decs n).length ≤ k + 1
  | 0, n, h => by rw [decs_small (by omega)]; simp
  | k + 1, n, h => by
    by_cases hn : 9 < n
    · rw [decs_big hn, List.length_append]
      have := decs_len k (n / 10) (by rw [Nat.pow_succ] at h; omega)
      simp
      omega
    · rw [decs_small hn]; simp
theorem decs_len19 {n : Nat} (h : n < 9223372036854775808) : (decs n).length ≤ 19 := decs_len 18 n (by omega)
theorem txt_length (s : ByteArray) : (txt s).length = s.size := by unfold txt; rw [List.length_map]; rfl
theorem conv_dig (w : World) (n : Nat) (x : Int) (hx : x = n) (hn : n < 256) : (convert 22 9 (.slice (some ⟨w.heap.size, 0, none⟩) 1 1)).run Tryd.prog (w.alloc (.cells #[.int .u8 x] 5)) = .ok (.string ⟨#[UInt8.ofNat n]⟩) (w.alloc (.cells #[.int .u8 x] 5)) := by
  subst hx
  exact conv_new w [n] 1 (by simpa using hn)
theorem txt_dig (u : Nat) (hu : u ≤ 9) (s : ByteArray) : txt (⟨#[48 + UInt8.ofNat u]⟩ ++ s) = (48 + u) :: txt s := by
  unfold txt
  simp
  omega
set_option maxHeartbeats 1000000 in
set_option maxRecDepth 100000 in
theorem digitsR_any (n : Nat) (hn : n < 9223372036854775808) (w : World) : Calls Tryd.prog 22 #[.int .i64 n] w (Wrote (decs n) w) := by
  have h20 := decs_len19 hn
  go_enter Tryd.func22, Tryd.ntmps22
  go_wp2_with fail
  go_loopw [0, 3] (fun a b wr => ∃ (m : Nat) (s : ByteArray), a = .int .i64 m ∧ b = .string s ∧ m ≤ n ∧ decs m ++ txt s = decs n ∧ Below w.heap.size w wr) (fun a _ _ => match a with | .int _ m => m.toNat | _ => 0)
  case atStart => exact ⟨n, .empty, rfl, rfl, Nat.le_refl _, by simp [txt], Below.refl _ _⟩
  case round =>
    obtain ⟨m, s, rfl, rfl, hm, hd, hb⟩ := hrel
    have hlen : (txt s).length ≤ 20 := by rw [← hd] at h20; simp at h20; omega
    rw [txt_length] at hlen
    by_cases h9 : 9 < m
    · have g1 : (9 : Int) < (m : Int) := by omega
      have hcv := conv_dig wr (48 + m % 10) (48 + (m : Int) % 10) (by omega) (by omega)
      go_wp2_with fail
      refine ⟨⟨m / 10, _, by simp, rfl, by omega, ?_, hb.alloc hb.size _⟩, by simp; omega⟩
      rw [txt_dig _ (by omega), ← hd, decs_big h9]
      simp
    · have g1 : ¬ (9 : Int) < (m : Int) := by omega
      have hcv := conv_dig wr (48 + m) (48 + (m : Int)) (by omega) (by omega)
      go_wp2_with fail
      go_ret
      refine ⟨_, ?_, rfl, hb.alloc hb.size _⟩
      rw [txt_dig _ (by omega), ← hd, decs_small h9]
      simp

/-- What a run is written as. -/
def rnT (q : Rn) : List Nat := [hx (q.1 / 16), hx (q.1 % 16)] ++ (if q.2 = 1 then [] else 42 :: decs q.2.toNat)
/-- What a word in runs is written as. -/
def txF : List Rn → List Nat
  | [] => []
  | q :: l => rnT q ++ l.flatMap fun q => 32 :: rnT q
theorem txF_snoc (l : List Rn) (q : Rn) : txF (l ++ [q]) = txF l ++ (if l = [] then [] else [32]) ++ rnT q := by
  cases l with
  | nil => simp [txF]
  | cons x l => simp [txF]
theorem rnT_len {q : Rn} (h : q.2 < 9223372036854775808) : (rnT q).length ≤ 22 := by
  unfold rnT
  have := decs_len19 (n := q.2.toNat) (by omega)
  split <;> simp <;> omega

end Go.Proofs.YtgdblnppeeknpaaDoor
