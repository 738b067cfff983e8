/- What a byte is written as: by the program and by the document: contracts.
   Conditions: a byte is below 256. -/
import Derived.Test.YtpibkalbnjgpaaaDoorLex
import Derived.Test.YtpibkalbnjgpaaaDoorShut
import Derived.Laws.IdiomStrings
import Derived.Laws.Concat
import Derived.Deep.QuietTactic
import Derived.BigQuiet
import Derived.Deep.RegionLaw
import Derived.Below
namespace Go.Proofs.YtpibkalbnjgpaaaDoor
open Go.RowKit

def hx (k : Nat) : Nat := hexDigits.getD k 0
def esc2 (n : Nat) : List Nat := [92, 120, hx (n / 16), hx (n % 16)]
/-- What a byte is written as. -/
def byT (b : Nat) : List Nat := if b ∈ escapables then [92, b] else if b = 10 then [92, 110] else if b = 9 then [92, 116] else if 33 ≤ b ∧ b ≤ 126 then [b] else esc2 b
theorem hx_ok : ∀ k, k < 16 → hx k ∈ hexDigits ∧ hexOf (hx k) = k := by decide
theorem hx_lt : ∀ k, k < 16 → hx k < 256 := by decide
theorem txt_append (a b : ByteArray) : txt (a ++ b) = txt a ++ txt b := by
  unfold txt
  simp
def H16 : ByteArray := { data := #[48, 49, 50, 51, 52, 53, 54, 55, 56, 57, 97, 98, 99, 100, 101, 102] }
def dig2 (n : Nat) : ByteArray := ({ data := #[92, 120] } : ByteArray) ++ H16.extract (n / 16) (n / 16 + 1) ++ H16.extract (n % 16) (n % 16 + 1)
theorem dig2_def (n : Nat) : dig2 n = ({ data := #[92, 120] } : ByteArray) ++ ({ data := #[48, 49, 50, 51, 52, 53, 54, 55, 56, 57, 97, 98, 99, 100, 101, 102] } : ByteArray).extract (n / 16) (n / 16 + 1) ++ ({ data := #[48, 49, 50, 51, 52, 53, 54, 55, 56, 57, 97, 98, 99, 100, 101, 102] } : ByteArray).extract (n % 16) (n % 16 + 1) := rfl
theorem txt_extract (s : ByteArray) (i j : Nat) : txt (s.extract i j) = ((txt s).take j).drop i := by
  unfold txt
  rw [← List.map_take, ← List.map_drop]
  congr 1
  simp [List.drop_take]
theorem hx_take : ∀ k, k < 16 → (hexDigits.take (k + 1)).drop k = [hx k] := by decide
theorem txt_digit {k : Nat} (h : k < 16) : txt (H16.extract k (k + 1)) = [hx k] := by
  rw [txt_extract, show txt H16 = hexDigits from rfl, hx_take k h]
theorem txt_dig2 {n : Nat} (h : n < 256) : txt (dig2 n) = esc2 n := by
  unfold dig2
  rw [txt_append, txt_append, txt_digit (by omega), txt_digit (by omega)]
  rfl
theorem txt_list (l : List Nat) (h : ∀ x ∈ l, x < 256) : txt ⟨(l.map UInt8.ofNat).toArray⟩ = l := by
  unfold txt
  simp only [List.map_map]
  conv => rhs; rw [← List.map_id l]
  apply List.map_congr_left
  intro x hx
  have := h x hx
  simp
  omega
/-- A row of bytes as a text. -/
theorem conv_at (W : World) (B : Nat) (l : List Nat) (c : Nat) (hl : ∀ x ∈ l, x < 256) (h : ∀ j, W.cell? ⟨B, j, none⟩ = (l.map fun (x : Nat) => Value.int .u8 (x : Int))[j]?) : (convert 42 9 (.slice (some ⟨B, 0, none⟩) l.length c)).run Tryd.prog W = .ok (.string ⟨(l.map UInt8.ofNat).toArray⟩) W := by
  have := run_convert_bytes_back (P := Tryd.prog) W 42 9 5 ⟨B, 0, none⟩ c (l.map UInt8.ofNat) Tryd.underlying42 Tryd.underlying5 Tryd.underlying9 (by
    intro j hj
    have hj' : j < l.length := by simpa using hj
    have e : (UInt8.ofNat l[j]).toNat = l[j] := by
      have := hl l[j] (List.getElem_mem _)
      simp; omega
    rw [show (Addr.add ⟨B, 0, none⟩ j) = ⟨B, j, none⟩ by simp [Addr.add]; intro h; exact h.symm, h j]
    simp [hj', e])
  simpa using this
theorem conv_new (w : World) (l : List Nat) (c : Nat) (hl : ∀ x ∈ l, x < 256) : (convert 42 9 (.slice (some ⟨w.heap.size, 0, none⟩) l.length c)).run Tryd.prog (w.alloc (.cells (l.map fun (x : Nat) => Value.int .u8 (x : Int)).toArray 5)) = .ok (.string ⟨(l.map UInt8.ofNat).toArray⟩) (w.alloc (.cells (l.map fun (x : Nat) => Value.int .u8 (x : Int)).toArray 5)) :=
  conv_at _ _ l c hl fun j => by rw [(row_cells (heap_alloc_new w (.cells (l.map fun (x : Nat) => Value.int .u8 (x : Int)).toArray 5))).1 j]; simp
theorem conv_drew (w : World) (l : List Nat) (c : Nat) (hl : ∀ x ∈ l, x < 256) : (convert 42 9 (.slice (some ⟨w.heap.size, 0, none⟩) l.length c)).run Tryd.prog (w.alloc (.cells (l.map fun (x : Nat) => Value.int .u8 (x : Int)).toArray 5)).drew = .ok (.string ⟨(l.map UInt8.ofNat).toArray⟩) (w.alloc (.cells (l.map fun (x : Nat) => Value.int .u8 (x : Int)).toArray 5)).drew :=
  conv_at _ _ l c hl fun j => by
    have h1 := (row_cells (heap_alloc_new w (.cells (l.map fun (x : Nat) => Value.int .u8 (x : Int)).toArray 5))).1 j
    rw [show (World.drew (w.alloc (.cells (l.map fun (x : Nat) => Value.int .u8 (x : Int)).toArray 5))).cell? ⟨w.heap.size, j, none⟩ = (w.alloc (.cells (l.map fun (x : Nat) => Value.int .u8 (x : Int)).toArray 5)).cell? ⟨w.heap.size, j, none⟩ from rfl, h1]; simp
theorem and15 : ∀ b, b < 256 → bits .and .u8 ((b : Nat) : Int) 15 = (((b % 16 : Nat)) : Int) := by decide +kernel
theorem hexIx : ∀ k : Fin 16, (({ data := #[48, 49, 50, 51, 52, 53, 54, 55, 56, 57, 97, 98, 99, 100, 101, 102] } : ByteArray)[k.val]'(by have := k.2; show k.val < 16; omega)).toNat = hx k.val := by decide
theorem hexIx2 {k : Nat} {i : Int} (hi : i = (k : Nat)) (hk : k < 16) (h : i.toNat < ({ data := #[48, 49, 50, 51, 52, 53, 54, 55, 56, 57, 97, 98, 99, 100, 101, 102] } : ByteArray).size) : (({ data := #[48, 49, 50, 51, 52, 53, 54, 55, 56, 57, 97, 98, 99, 100, 101, 102] } : ByteArray)[i.toNat]'h).toNat = hx k := by
  subst hi
  exact hexIx ⟨k, hk⟩
theorem below_drewN' {B : Nat} {a w : World} (h : Below B a w) (n : Nat) : Below B a (w.drewN n) := h.trans ⟨rfl, rfl, rfl, Nat.le_refl _, fun _ _ => rfl⟩
def Wrote (l : List Nat) (w : World) (e : Ending) (w' : World) : Prop := ∃ s, txt s = l ∧ e = .returned (.string s) ∧ Below w.heap.size w w'

set_option maxHeartbeats 1000000 in
set_option maxRecDepth 100000 in
theorem byte_any (b : Nat) (hb : b < 256) (w : World) : Calls Tryd.prog 16 #[.int .u8 b] w (Wrote (byT b) w) := by
  have hx := idx_any { data := #[40, 41, 91, 93, 123, 125, 124, 42, 43, 63, 46, 92, 45, 94] } b
  rw [txt_esc] at hx
  have hm := ix_nonneg escapables b
  go_enter Tryd.func16, Tryd.ntmps16
  go_wp2_with fail
  go_at_call 28
  refine (hx _ hb).mono ?_
  rintro e w1 ⟨rfl, rfl⟩
  clear hx
  by_cases h1 : b ∈ escapables
  · have g1 : (0 : Int) ≤ ix escapables b := hm.2 h1
    have hc := conv_new w [92, b] 2 (by simp; omega)
    have ht := txt_list [92, b] (by simp; omega)
    simp at hc ht
    clear hm
    go_wp2_with fail
    go_ret
    refine ⟨_, ?_, rfl, (Below.refl _ _).alloc (Nat.le_refl _) _⟩
    rw [byT, if_pos h1]
    exact ht
  · have g1 : ¬ (0 : Int) ≤ ix escapables b := fun h => h1 (hm.1 h)
    clear hm
    by_cases h2 : b = 10
    · subst h2
      go_wp2_with fail
      go_ret
      exact ⟨_, rfl, rfl, Below.refl _ _⟩
    · have g2 : ((b : Int) == 10) = false := by simp; omega
      by_cases h3 : b = 9
      · subst h3
        go_wp2_with fail
        go_ret
        exact ⟨_, rfl, rfl, Below.refl _ _⟩
      · have g3 : ((b : Int) == 9) = false := by simp; omega
        have hT : byT b = if 33 ≤ b ∧ b ≤ 126 then [b] else esc2 b := by rw [byT, if_neg h1, if_neg h2, if_neg h3]
        by_cases h4 : 33 ≤ b ∧ b ≤ 126
        · have g4 : (33 : Int) ≤ (b : Int) := by omega
          have g5 : (b : Int) ≤ 126 := by omega
          have hc := conv_new w [b] 1 (by simp; omega)
          have ht := txt_list [b] (by simp; omega)
          simp at hc ht
          go_wp2_with fail
          go_ret
          refine ⟨_, ?_, rfl, (Below.refl _ _).alloc (Nat.le_refl _) _⟩
          rw [hT, if_pos h4]
          exact ht
        · have HT := Lib.hid (hT.trans (if_neg h4))
          clear hT
          have n1 : (0 : Int) ≤ (b : Int) / 16 := by omega
          have n2 : (b : Int) / 16 < 16 := by omega
          have n3 : (0 : Int) ≤ (b : Int) % 16 := by omega
          have n4 : (b : Int) % 16 < 16 := by omega
          have n5 := and15 b hb
          have e1 := fun h => hexIx2 (k := b / 16) (i := (b : Int) / 16) (by omega) (by omega) h
          have e2 := fun h => hexIx2 (k := b % 16) (i := (b : Int) % 16) (by omega) (by omega) h
          have b1 := hx_lt (b / 16) (by omega)
          have b2 := hx_lt (b % 16) (by omega)
          have hl : ∀ x ∈ [92, 120, hx (b / 16), hx (b % 16)], x < 256 := by simp; omega
          have hc := conv_drew w [92, 120, hx (b / 16), hx (b % 16)] 4 hl
          have ht := txt_list [92, 120, hx (b / 16), hx (b % 16)] hl
          simp at hc ht n5
          by_cases h5 : 33 ≤ b
          · have g4 : (33 : Int) ≤ (b : Int) := by omega
            have g5 : ¬ (b : Int) ≤ 126 := by omega
            go_wp2_with fail
            go_region_law (fail)
            all_goals
              go_wp2_with fail
              go_ret
              exact ⟨_, ht.trans HT.out.symm, rfl, ((Below.refl _ _).alloc (Nat.le_refl _) _).drew⟩
          · have g4 : ¬ (33 : Int) ≤ (b : Int) := by omega
            go_wp2_with fail
            go_region_law (fail)
            all_goals
              go_wp2_with fail
              go_ret
              exact ⟨_, ht.trans HT.out.symm, rfl, ((Below.refl _ _).alloc (Nat.le_refl _) _).drew⟩

theorem getD_lt {l : List Nat} {i : Nat} (h : i < l.length) : l.getD i 0 = l[i] := by simp [List.getD, h]
theorem esc_lt : ∀ i, i < 14 → escapables.getD i 0 < 256 := by decide
theorem esc_at : ∀ i : Fin 14, (({ data := #[40, 41, 91, 93, 123, 125, 124, 42, 43, 63, 46, 92, 45, 94] } : ByteArray)[i.val]'(by have := i.2; show i.val < 14; omega)).toNat = escapables.getD i.val 0 := by decide
theorem esc_at2 {k : Nat} (hk : k < 14) (h : (k : Int).toNat < ({ data := #[40, 41, 91, 93, 123, 125, 124, 42, 43, 63, 46, 92, 45, 94] } : ByteArray).size) : (({ data := #[40, 41, 91, 93, 123, 125, 124, 42, 43, 63, 46, 92, 45, 94] } : ByteArray)[(k : Int).toNat]'h).toNat = escapables.getD k 0 := esc_at ⟨k, hk⟩
theorem esc_at3 {k : Nat} (hk : k < 14) (h : k < ({ data := #[40, 41, 91, 93, 123, 125, 124, 42, 43, 63, 46, 92, 45, 94] } : ByteArray).size) : (({ data := #[40, 41, 91, 93, 123, 125, 124, 42, 43, 63, 46, 92, 45, 94] } : ByteArray)[k]'h).toNat = escapables.getD k 0 := esc_at ⟨k, hk⟩

set_option maxHeartbeats 1000000 in
set_option maxRecDepth 100000 in
theorem byteR_any (b : Nat) (hb : b < 256) (w : World) : Calls Tryd.prog 17 #[.int .i64 b] w (Wrote (byT b) w) := by
  have h8 : (b : Int) ≤ 255 := by omega
  have h9 : (0 : Int) ≤ (b : Int) := by omega
  go_enter Tryd.func17, Tryd.ntmps17
  go_wp2_with fail
  go_loopw [3] (fun x wr => ∃ i : Nat, x = .int .i64 i ∧ i ≤ 14 ∧ (∀ j, j < i → escapables.getD j 0 ≠ b) ∧ wr = w) (fun x _ => match x with | .int _ m => 14 - m.toNat | _ => 0)
  case atStart => exact ⟨0, rfl, by omega, by omega, rfl⟩
  case round =>
    obtain ⟨i, rfl, hi, hno, rfl⟩ := hrel
    by_cases h14 : i < 14
    · have g1 : (i : Int) < 14 := by omega
      have g2 : i < 14 := h14
      have e1 := esc_at2 h14
      have e3 := esc_at3 h14
      by_cases hE : escapables.getD i 0 = b
      · rw [hE] at e1 e3
        have hmem : b ∈ escapables := by
          have hlt : i < escapables.length := h14
          rw [← hE, getD_lt hlt]
          exact List.getElem_mem _
        have hc := conv_new wr [92, b] 2 (by simp; omega)
        have ht := txt_list [92, b] (by simp; omega)
        simp at hc ht
        have HT := Lib.hid (show byT b = [92, b] by rw [byT, if_pos hmem])
        clear hno hE hmem
        go_wp2_with fail
        go_ret
        exact ⟨_, ht.trans HT.out.symm, rfl, (Below.refl _ _).alloc (Nat.le_refl _) _⟩
      · have g3 : ((b : Int) == ((escapables.getD i 0 : Nat) : Int)) = false := by
          rw [beq_eq_false_iff_ne]; omega
        have HN := Lib.hid (show ∀ j, j < i + 1 → escapables.getD j 0 ≠ b from fun j hj => by
          by_cases e : j = i
          · subst e; exact hE
          · exact hno j (by omega))
        clear hno hE
        have c1 : ((escapables.getD i 0 : Nat) : Int) ≤ 255 := by have := esc_lt i h14; omega
        have c2 : (0 : Int) ≤ ((escapables.getD i 0 : Nat) : Int) := by omega
        generalize escapables.getD i 0 = ci at e1 e3 g3 c1 c2
        go_wp2_with fail
        exact ⟨⟨i + 1, by simp, by omega, HN.out, by trivial⟩, by simp; omega⟩
    · have g1 : ¬ (i : Int) < 14 := by omega
      have hni : ¬ b ∈ escapables := fun hm => by
        obtain ⟨j, hj, e⟩ := List.getElem_of_mem hm
        have : escapables.length = 14 := rfl
        exact hno j (by omega) (by rw [getD_lt hj]; exact e)
      have hT : byT b = if b = 10 then [92, 110] else if b = 9 then [92, 116] else if 33 ≤ b ∧ b ≤ 126 then [b] else esc2 b := by rw [byT, if_neg hni]
      have HT := Lib.hid hT
      clear hno hni hT
      by_cases h3 : b = 9
      · subst h3
        go_wp2_with fail
        go_ret
        exact ⟨_, rfl, rfl, Below.refl _ _⟩
      · have g3 : ((b : Int) == 9) = false := by simp; omega
        by_cases h2 : b = 10
        · subst h2
          go_wp2_with fail
          go_ret
          exact ⟨_, rfl, rfl, Below.refl _ _⟩
        · have g2 : ((b : Int) == 10) = false := by simp; omega
          by_cases h4 : 33 ≤ b ∧ b ≤ 126
          · have g4 : (33 : Int) ≤ (b : Int) := by omega
            have g5 : (b : Int) ≤ 126 := by omega
            have hc := conv_new wr [b] 1 (by simp; omega)
            have ht := txt_list [b] (by simp; omega)
            simp at hc ht
            go_wp2_with fail
            go_ret
            refine ⟨_, ht.trans ?_, rfl, (Below.refl _ _).alloc (Nat.le_refl _) _⟩
            rw [HT.out, if_neg h2, if_neg h3, if_pos h4]
          · have HT2 := Lib.hid (show byT b = esc2 b by rw [HT.out, if_neg h2, if_neg h3, if_neg h4])
            by_cases h5 : 33 ≤ b
            · have g4 : (33 : Int) ≤ (b : Int) := by omega
              have g5 : ¬ (b : Int) ≤ 126 := by omega
              go_wp2_with fail
              go_quiet (fail)
              rw [← dig2_def b]
              go_wp2_with fail
              go_ret
              exact ⟨_, (txt_dig2 hb).trans HT2.out.symm, rfl, below_drewN' (Below.refl _ _) _⟩
            · have g4 : ¬ (33 : Int) ≤ (b : Int) := by omega
              go_wp2_with fail
              go_quiet (fail)
              rw [← dig2_def b]
              go_wp2_with fail
              go_ret
              exact ⟨_, (txt_dig2 hb).trans HT2.out.symm, rfl, below_drewN' (Below.refl _ _) _⟩

end Go.Proofs.YtpibkalbnjgpaaaDoor
