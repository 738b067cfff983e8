/- The walk of the statement SyntaxBytes: called with two bytes it returns true and changes nothing that was there.
   Conditions: two bytes. -/
import Derived.Test.YtbodgadbhldbmaaHexP
import Derived.Test.YtbodgadbhldbmaaBegWalk
import Derived.BigQuiet
namespace Go.Proofs.Ytbodgadbhldbmaa
open Go.RowKit

theorem below_drewN {B : Nat} {a w : World} (h : Below B a w) (n : Nat) : Below B a (w.drewN n) := h.trans ⟨rfl, rfl, rfl, Nat.le_refl _, fun _ _ => rfl⟩
theorem below_go2 {a b c : World} (h : Below a.heap.size a b) (o : Obj) (k : Below (b.alloc o).heap.size (b.alloc o) c) : Below a.heap.size a c := below_go (h.alloc h.size o) k
theorem equal_self (A : Nat → Nat) (w : World) : (Op.equalIn 10000 25 (.agg #[.int .u64 (A 0 : Nat), .int .u64 (A 1 : Nat), .int .u64 (A 2 : Nat), .int .u64 (A 3 : Nat)]) (.agg #[.int .u64 (A 0 : Nat), .int .u64 (A 1 : Nat), .int .u64 (A 2 : Nat), .int .u64 (A 3 : Nat)])).run Try.prog w = .ok true w := by
  rw [run_equal4]
  simp
theorem bit_walk (x k : Nat) : (((x : Int) / 2 ^ k).tmod 2 == 1) = decide (x / 2 ^ k % 2 = 1) := by
  have e : ((x : Int) / 2 ^ k) = ((x / 2 ^ k : Nat) : Int) := by push_cast; rfl
  rw [e, Int.tmod_eq_emod_of_nonneg (Int.natCast_nonneg _)]
  generalize x / 2 ^ k = y
  by_cases h : y % 2 = 1
  · have : (y : Int) % 2 = 1 := by omega
    simp [h, this]
  · have : ¬ (y : Int) % 2 = 1 := by omega
    simp [h, this]
def H16 : ByteArray := { data := #[48, 49, 50, 51, 52, 53, 54, 55, 56, 57, 97, 98, 99, 100, 101, 102] }
def dig2 (n : Nat) : ByteArray := ({ data := #[92, 120] } : ByteArray) ++ H16.extract (n / 16) (n / 16 + 1) ++ H16.extract (n % 16) (n % 16 + 1)
theorem dig2_def (n : Nat) : dig2 n = ({ data := #[92, 120] } : ByteArray) ++ ({ data := #[48, 49, 50, 51, 52, 53, 54, 55, 56, 57, 97, 98, 99, 100, 101, 102] } : ByteArray).extract (n / 16) (n / 16 + 1) ++ ({ data := #[48, 49, 50, 51, 52, 53, 54, 55, 56, 57, 97, 98, 99, 100, 101, 102] } : ByteArray).extract (n % 16) (n % 16 + 1) := rfl
theorem txt_extract (s : ByteArray) (i j : Nat) : txt (s.extract i j) = ((txt s).take j).drop i := by
  unfold txt
  rw [← List.map_take, ← List.map_drop]
  congr 1
  simp [List.drop_take]
theorem hx_take : ∀ k, k < 16 → (hexDigits.take (k + 1)).drop k = [hx k] := by decide
theorem txt_digit {k : Nat} (h : k < 16) : txt (H16.extract k (k + 1)) = [hx k] := by
  rw [txt_extract, show txt H16 = hexDigits from rfl, hx_take k h]
theorem txt_dig2 {n : Nat} (h : n < 256) : txt (dig2 n) = esc2 n := by
  unfold dig2
  rw [txt_append, txt_append, txt_digit (by omega), txt_digit (by omega)]
  rfl
theorem size_dig2 {n : Nat} (h : n < 256) : (dig2 n).size = 4 := by
  rw [← txt_length, txt_dig2 h]; rfl
theorem txt_cls {n : Nat} (h : n < 256) : txt (({ data := #[91] } : ByteArray) ++ dig2 n ++ { data := #[93] }) = 91 :: (esc2 n ++ [93]) := by
  rw [txt_append, txt_append, txt_dig2 h]; rfl
theorem txt_rng {n m : Nat} (h : n < 256) (h2 : m < 256) : txt (({ data := #[91] } : ByteArray) ++ dig2 n ++ { data := #[45] } ++ dig2 m ++ { data := #[93] }) = 91 :: (esc2 n ++ 45 :: (esc2 m ++ [93])) := by
  rw [txt_append, txt_append, txt_append, txt_append, txt_dig2 h, txt_dig2 h2]; rfl

set_option maxHeartbeats 2000000 in
set_option maxRecDepth 100000 in
theorem bytes_walk (a b : Nat) (h1 : a < 256) (h2 : b < 256) (w : World) : Calls Try.prog 4 #[.int .u8 a, .int .u8 b] w fun e w' => e = .returned (.bool true) ∧ Below w.heap.size w w' := by
  go_enter Try.func4, Try.ntmps4
  go_wp2_with fail
  go_quiet (fail)
  rw [← dig2_def a]
  go_wp2_with fail
  go_quiet (fail)
  rw [← dig2_def b]
  have z1 := size_dig2 h1
  have z2 := size_dig2 h2
  go_wp2_with fail
  go_at_call 11
  refine (parse_any _ _).mono ?_
  rintro e w1 ⟨v, sa, sn, sc, hsl, rfl, htr, _, hb1⟩
  rw [txt_dig2 h1, parse_hex h1] at htr ⊢
  obtain ⟨hk, hset, _, _, _⟩ := erase_node htr
  rw [hk, hset]
  have HB1 := Lib.hid (below_go (below_drewN (Below.refl w.heap.size w) _) hb1)
  clear htr hk hset hsl hb1
  go_wp2_with fail
  go_at_call 11
  refine (parse_any _ _).mono ?_
  rintro e w2 ⟨v2, ta, tn, tc, hsl, rfl, htr, _, hb2⟩
  rw [txt_cls h1, parse_cls h1] at htr ⊢
  obtain ⟨hk, hset, _, _, _⟩ := erase_node htr
  rw [hk, hset]
  have HB2 := Lib.hid hb2
  clear htr hk hset hsl hb2
  go_wp2_with fail
  go_at_call 11
  refine (parse_any _ _).mono ?_
  rintro e w3 ⟨v3, ua, un, uc, hsl, rfl, htr, _, hb3⟩
  rw [txt_rng h1 h2, parse_rng h1 h2] at htr ⊢
  have HB3 := Lib.hid hb3
  clear hb3
  by_cases hl : b < a
  · rw [if_pos hl] at htr ⊢
    have g0 : (b : Int) < (a : Int) := by omega
    go_wp2_with fail
    go_at_call 10
    refine (awake_any _).mono ?_
    rintro e w4 ⟨rfl, hb4⟩
    have N3 := hb4
    have N2 := below_go2 HB3.out _ N3
    have N1 := below_go2 HB2.out _ N2
    have HB := Lib.hid (below_go2 HB1.out _ N1)
    have hC := canon_own a
    generalize canon (between a a) = C at *
    have c10 : w4.cell? ⟨w1.heap.size, 0, none⟩ = some (.int .i64 1) := (N1.cell (p := ⟨w1.heap.size, 0, none⟩) (by simp)).trans (by go_simp)
    have c11 : w4.cell? ⟨w1.heap.size, 1, none⟩ = some (.int .u64 (C 0 : Nat)) := (N1.cell (p := ⟨w1.heap.size, 1, none⟩) (by simp)).trans (by go_simp)
    have c12 : w4.cell? ⟨w1.heap.size, 2, none⟩ = some (.int .u64 (C 1 : Nat)) := (N1.cell (p := ⟨w1.heap.size, 2, none⟩) (by simp)).trans (by go_simp)
    have c13 : w4.cell? ⟨w1.heap.size, 3, none⟩ = some (.int .u64 (C 2 : Nat)) := (N1.cell (p := ⟨w1.heap.size, 3, none⟩) (by simp)).trans (by go_simp)
    have c14 : w4.cell? ⟨w1.heap.size, 4, none⟩ = some (.int .u64 (C 3 : Nat)) := (N1.cell (p := ⟨w1.heap.size, 4, none⟩) (by simp)).trans (by go_simp)
    have c21 : w4.cell? ⟨w2.heap.size, 1, none⟩ = some (.int .u64 (C 0 : Nat)) := (N2.cell (p := ⟨w2.heap.size, 1, none⟩) (by simp)).trans (by go_simp)
    have c22 : w4.cell? ⟨w2.heap.size, 2, none⟩ = some (.int .u64 (C 1 : Nat)) := (N2.cell (p := ⟨w2.heap.size, 2, none⟩) (by simp)).trans (by go_simp)
    have c23 : w4.cell? ⟨w2.heap.size, 3, none⟩ = some (.int .u64 (C 2 : Nat)) := (N2.cell (p := ⟨w2.heap.size, 3, none⟩) (by simp)).trans (by go_simp)
    have c24 : w4.cell? ⟨w2.heap.size, 4, none⟩ = some (.int .u64 (C 3 : Nat)) := (N2.cell (p := ⟨w2.heap.size, 4, none⟩) (by simp)).trans (by go_simp)
    have own1 : w4.cell? ⟨w1.heap.size, 1 + a / 64, none⟩ = some (.int .u64 (2 ^ (a % 64) : Nat)) := by
      rw [← hC]
      have : a / 64 = 0 ∨ a / 64 = 1 ∨ a / 64 = 2 ∨ a / 64 = 3 := by omega
      rcases this with e | e | e | e <;> rw [e]
      · exact c11
      · exact c12
      · exact c13
      · exact c14
    have hq := equal_self C w4
    have hp := v_pow a
    clear hb4 N1 N2 N3 hC htr hsl
    go_wp2_with fail
    go_ret
    exact ⟨rfl, HB.out⟩
  · rw [if_neg hl] at htr ⊢
    obtain ⟨hk, hset, _, _, _⟩ := erase_node htr
    rw [hk, hset]
    clear htr hk hset hsl
    go_wp2_with fail
    go_at_call 10
    refine (awake_any _).mono ?_
    rintro e w4 ⟨rfl, hb4⟩
    have N3 := hb4
    have N2 := below_go2 HB3.out _ N3
    have N1 := below_go2 HB2.out _ N2
    have HB := Lib.hid (below_go2 HB1.out _ N1)
    have hC := canon_own a
    generalize canon (between a a) = C at *
    generalize hD : canon (between a b) = D at *
    have c10 : w4.cell? ⟨w1.heap.size, 0, none⟩ = some (.int .i64 1) := (N1.cell (p := ⟨w1.heap.size, 0, none⟩) (by simp)).trans (by go_simp)
    have c11 : w4.cell? ⟨w1.heap.size, 1, none⟩ = some (.int .u64 (C 0 : Nat)) := (N1.cell (p := ⟨w1.heap.size, 1, none⟩) (by simp)).trans (by go_simp)
    have c12 : w4.cell? ⟨w1.heap.size, 2, none⟩ = some (.int .u64 (C 1 : Nat)) := (N1.cell (p := ⟨w1.heap.size, 2, none⟩) (by simp)).trans (by go_simp)
    have c13 : w4.cell? ⟨w1.heap.size, 3, none⟩ = some (.int .u64 (C 2 : Nat)) := (N1.cell (p := ⟨w1.heap.size, 3, none⟩) (by simp)).trans (by go_simp)
    have c14 : w4.cell? ⟨w1.heap.size, 4, none⟩ = some (.int .u64 (C 3 : Nat)) := (N1.cell (p := ⟨w1.heap.size, 4, none⟩) (by simp)).trans (by go_simp)
    have c21 : w4.cell? ⟨w2.heap.size, 1, none⟩ = some (.int .u64 (C 0 : Nat)) := (N2.cell (p := ⟨w2.heap.size, 1, none⟩) (by simp)).trans (by go_simp)
    have c22 : w4.cell? ⟨w2.heap.size, 2, none⟩ = some (.int .u64 (C 1 : Nat)) := (N2.cell (p := ⟨w2.heap.size, 2, none⟩) (by simp)).trans (by go_simp)
    have c23 : w4.cell? ⟨w2.heap.size, 3, none⟩ = some (.int .u64 (C 2 : Nat)) := (N2.cell (p := ⟨w2.heap.size, 3, none⟩) (by simp)).trans (by go_simp)
    have c24 : w4.cell? ⟨w2.heap.size, 4, none⟩ = some (.int .u64 (C 3 : Nat)) := (N2.cell (p := ⟨w2.heap.size, 4, none⟩) (by simp)).trans (by go_simp)
    have c30 : w4.cell? ⟨w3.heap.size, 0, none⟩ = some (.int .i64 1) := (N3.cell (p := ⟨w3.heap.size, 0, none⟩) (by simp)).trans (by go_simp)
    have c3 : ∀ j, j < 4 → w4.cell? ⟨w3.heap.size, 1 + j, none⟩ = some (.int .u64 (D j : Nat)) := fun j hj => (N3.cell (p := ⟨w3.heap.size, 1 + j, none⟩) (by simp)).trans (by
      have : j = 0 ∨ j = 1 ∨ j = 2 ∨ j = 3 := by omega
      rcases this with rfl | rfl | rfl | rfl <;> go_simp)
    have own1 : w4.cell? ⟨w1.heap.size, 1 + a / 64, none⟩ = some (.int .u64 (2 ^ (a % 64) : Nat)) := by
      rw [← hC]
      have : a / 64 = 0 ∨ a / 64 = 1 ∨ a / 64 = 2 ∨ a / 64 = 3 := by omega
      rcases this with e | e | e | e <;> rw [e]
      · exact c11
      · exact c12
      · exact c13
      · exact c14
    have hq := equal_self C w4
    have hp := v_pow a
    clear hb4 N1 N2 N3 hC
    go_wp2_with fail
    clear c10 c11 c12 c13 c14 c21 c22 c23 c24 own1 hq hp
    go_loopw [17] (fun n wr => ∃ i : Nat, n = .int .i64 i ∧ i ≤ 256 ∧ wr = w4) (fun n _ => match n with | .int _ m => 256 - m.toNat | _ => 0)
    case atStart => exact ⟨0, rfl, by omega, rfl⟩
    case round =>
      obtain ⟨i, rfl, hi, rfl⟩ := hrel
      by_cases hlt : i < 256
      · have g1 : (i : Int) < 256 := by omega
        have ci := c3 (i / 64) (by omega)
        have hbit := canon_bit (between a b) i
        rw [hD, ← bit_walk] at hbit
        clear c3
        by_cases ha : a ≤ i
        · have ha' : (a : Int) ≤ (i : Int) := by omega
          by_cases hb : i ≤ b
          · have hb' : (i : Int) ≤ (b : Int) := by omega
            have hbit2 : between a b i = true := by simp [between, ha, hb]
            rw [hbit2] at hbit
            have hv := hbit.symm
            clear hbit hbit2
            go_wp2_with fail
            exact ⟨⟨i + 1, by simp, by omega, trivial⟩, by simp; omega⟩
          · have hb' : ¬ (i : Int) ≤ (b : Int) := by omega
            have hbit2 : between a b i = false := by simp [between, hb]
            rw [hbit2] at hbit
            have hv := hbit.symm
            clear hbit hbit2
            go_wp2_with fail
            exact ⟨⟨i + 1, by simp, by omega, trivial⟩, by simp; omega⟩
        · have ha' : ¬ (a : Int) ≤ (i : Int) := by omega
          have hbit2 : between a b i = false := by simp [between, ha]
          rw [hbit2] at hbit
          have hv := hbit.symm
          clear hbit hbit2
          go_wp2_with fail
          exact ⟨⟨i + 1, by simp, by omega, trivial⟩, by simp; omega⟩
      · have g1 : ¬ (i : Int) < 256 := by omega
        clear c3
        go_wp2_with fail
        go_ret
        exact ⟨rfl, HB.out⟩

end Go.Proofs.Ytbodgadbhldbmaa
