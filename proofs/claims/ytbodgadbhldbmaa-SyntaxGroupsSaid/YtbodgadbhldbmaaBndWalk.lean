/- The walk of the statement SyntaxBounds: called with two numbers it returns true and changes nothing that was there.
   Conditions: numbers of 32 bits. -/
import Derived.Test.YtbodgadbhldbmaaBnd
import Derived.Test.YtbodgadbhldbmaaBegWalk
namespace Go.Proofs.Ytbodgadbhldbmaa
open Go.RowKit

theorem txt_open {s : ByteArray} {n : Nat} (h : txt s = decs n) : txt (({ data := #[97, 123] } : ByteArray) ++ s ++ { data := #[44] } ++ { data := #[125] }) = 97 :: 123 :: (decs n ++ [44, 125]) := by
  rw [txt_append, txt_append, txt_append, h]
  have e1 : txt { data := #[97, 123] } = [97, 123] := rfl
  have e2 : txt { data := #[44] } = [44] := rfl
  have e3 : txt { data := #[125] } = [125] := rfl
  rw [e1, e2, e3]
  simp
theorem txt_two {s t : ByteArray} {n m : Nat} (h : txt s = decs n) (h2 : txt t = decs m) : txt (({ data := #[97, 123] } : ByteArray) ++ s ++ { data := #[44] } ++ t ++ { data := #[125] }) = 97 :: 123 :: (decs n ++ 44 :: (decs m ++ [125])) := by
  rw [txt_append, txt_append, txt_append, txt_append, h, h2]
  have e1 : txt { data := #[97, 123] } = [97, 123] := rfl
  have e2 : txt { data := #[44] } = [44] := rfl
  have e3 : txt { data := #[125] } = [125] := rfl
  rw [e1, e2, e3]
  simp
theorem size_dec {s : ByteArray} {n : Nat} (h : txt s = decs n) (hn : n < 4294967296) : s.size ≤ 20 := by
  have := decs_twenty (n := n) (by omega)
  rw [← h, txt_length] at this
  exact this

set_option maxHeartbeats 2000000 in
set_option maxRecDepth 100000 in
theorem bounds_open (lo hi : Nat) (h1 : lo < 4294967296) (w : World) : Calls Try.prog 9 #[.int .u32 lo, .int .u32 hi, .bool true] w fun e w' => e = .returned (.bool true) ∧ Below w.heap.size w w' := by
  have HP := Lib.hid (parse_open h1)
  go_enter Try.func9, Try.ntmps9
  go_wp2_with fail
  go_at_call 12
  refine (digits_any lo (by omega) _).mono ?_
  rintro e w1 ⟨s, hs, rfl, hb1⟩
  have hz := size_dec hs h1
  go_wp2_with fail
  go_at_call 11
  refine (parse_any _ _).mono ?_
  rintro e w2 ⟨v, sa, sn, sc, hsl, rfl, htr, _, hb2⟩
  rw [txt_open hs, HP.out] at htr ⊢
  have HB := Lib.hid (below_go hb1 hb2)
  clear hb1 hb2 HP hs
  by_cases hl : 2147483647 < lo
  · have g1 : (2147483647 : Int) < (lo : Int) := by omega
    rw [if_pos hl] at htr ⊢
    go_wp2_with fail
    go_at_call 10
    refine (awake_any _).mono ?_
    rintro e w3 ⟨rfl, hb3⟩
    have HB3 := Lib.hid (below_go (HB.out.alloc HB.out.size _) hb3)
    clear hb3
    go_wp2_with fail
    go_ret
    exact ⟨rfl, HB3.out⟩
  · have g1 : ¬ (2147483647 : Int) < (lo : Int) := by omega
    rw [if_neg hl] at htr ⊢
    obtain ⟨hk, _, hlo, hhi, _⟩ := erase_node htr
    go_wp2_with fail
    go_at_call 10
    refine (awake_any _).mono ?_
    rintro e w3 ⟨rfl, hb3⟩
    have HB3 := Lib.hid (below_go (HB.out.alloc HB.out.size _) hb3)
    have c0 : w3.cell? ⟨w2.heap.size, 0, none⟩ = some (.int .i64 4) := by
      rw [← hk]
      exact (hb3.cell (p := ⟨w2.heap.size, 0, none⟩) (by simp)).trans (by go_simp)
    have c6 : w3.cell? ⟨w2.heap.size, 6, none⟩ = some (.int .i64 lo) := by
      rw [← hlo]
      exact (hb3.cell (p := ⟨w2.heap.size, 6, none⟩) (by simp)).trans (by go_simp)
    have c7 : w3.cell? ⟨w2.heap.size, 7, none⟩ = some (.int .i64 (-1)) := by
      rw [← hhi]
      exact (hb3.cell (p := ⟨w2.heap.size, 7, none⟩) (by simp)).trans (by go_simp)
    clear hb3 htr hk hlo hhi hsl
    go_wp2_with fail
    go_ret
    exact ⟨rfl, HB3.out⟩

set_option maxHeartbeats 2000000 in
set_option maxRecDepth 100000 in
theorem bounds_two (lo hi : Nat) (h1 : lo < 4294967296) (h2 : hi < 4294967296) (w : World) : Calls Try.prog 9 #[.int .u32 lo, .int .u32 hi, .bool false] w fun e w' => e = .returned (.bool true) ∧ Below w.heap.size w w' := by
  have HP := Lib.hid (parse_two h1 h2)
  go_enter Try.func9, Try.ntmps9
  go_wp2_with fail
  go_at_call 12
  refine (digits_any lo (by omega) _).mono ?_
  rintro e w0 ⟨s, hs, rfl, hb0⟩
  have hz := size_dec hs h1
  go_wp2_with fail
  go_at_call 12
  refine (digits_any hi (by omega) _).mono ?_
  rintro e w1 ⟨t, ht, rfl, hb1⟩
  have hz2 := size_dec ht h2
  go_wp2_with fail
  go_at_call 11
  refine (parse_any _ _).mono ?_
  rintro e w2 ⟨v, sa, sn, sc, hsl, rfl, htr, _, hb2⟩
  rw [txt_two hs ht, HP.out] at htr ⊢
  have HB := Lib.hid (below_go (below_go hb0 hb1) hb2)
  have HS := Lib.hid hs
  clear hb0 hb1 hb2 HP hs ht
  by_cases hl : 2147483647 < lo
  · have g1 : (2147483647 : Int) < (lo : Int) := by omega
    rw [if_pos hl] at htr ⊢
    clear htr
    go_wp2_with fail
    go_at_call 10
    refine (awake_any _).mono ?_
    rintro e w3 ⟨rfl, hb3⟩
    have HB3 := Lib.hid (below_go (HB.out.alloc HB.out.size _) hb3)
    clear hb3
    go_wp2_with fail
    go_ret
    exact ⟨rfl, HB3.out⟩
  have g1 : ¬ (2147483647 : Int) < (lo : Int) := by omega
  rw [if_neg hl] at htr ⊢
  by_cases hh : 2147483647 < hi
  · have g2 : (2147483647 : Int) < (hi : Int) := by omega
    rw [if_pos hh] at htr ⊢
    clear htr
    go_wp2_with fail
    go_at_call 10
    refine (awake_any _).mono ?_
    rintro e w3 ⟨rfl, hb3⟩
    have HB3 := Lib.hid (below_go (HB.out.alloc HB.out.size _) hb3)
    clear hb3
    go_wp2_with fail
    go_at_call 12
    refine (digits_any lo (by omega) _).mono ?_
    rintro e w4 ⟨s2, hs2, rfl, hb4⟩
    have hz3 := size_dec hs2 h1
    have HB4 := Lib.hid (below_go HB3.out hb4)
    have hlen : ((decs lo).length : Int) = (s2.size : Int) := by
      rw [← hs2, txt_length]
    rw [hlen]
    clear hb4 hs2 hlen
    go_wp2_with fail
    go_ret
    exact ⟨rfl, HB4.out⟩
  have g2 : ¬ (2147483647 : Int) < (hi : Int) := by omega
  rw [if_neg hh] at htr ⊢
  by_cases hx : hi < lo
  · have g3 : (hi : Int) < (lo : Int) := by omega
    rw [if_pos hx] at htr ⊢
    clear htr
    go_wp2_with fail
    go_at_call 10
    refine (awake_any _).mono ?_
    rintro e w3 ⟨rfl, hb3⟩
    have HB3 := Lib.hid (below_go (HB.out.alloc HB.out.size _) hb3)
    clear hb3
    go_wp2_with fail
    go_ret
    exact ⟨rfl, HB3.out⟩
  · have g3 : ¬ (hi : Int) < (lo : Int) := by omega
    rw [if_neg hx] at htr ⊢
    obtain ⟨hk, _, hlo, hhi, _⟩ := erase_node htr
    go_wp2_with fail
    go_at_call 10
    refine (awake_any _).mono ?_
    rintro e w3 ⟨rfl, hb3⟩
    have HB3 := Lib.hid (below_go (HB.out.alloc HB.out.size _) hb3)
    have c0 : w3.cell? ⟨w2.heap.size, 0, none⟩ = some (.int .i64 4) := by
      rw [← hk]
      exact (hb3.cell (p := ⟨w2.heap.size, 0, none⟩) (by simp)).trans (by go_simp)
    have c6 : w3.cell? ⟨w2.heap.size, 6, none⟩ = some (.int .i64 lo) := by
      rw [← hlo]
      exact (hb3.cell (p := ⟨w2.heap.size, 6, none⟩) (by simp)).trans (by go_simp)
    have c7 : w3.cell? ⟨w2.heap.size, 7, none⟩ = some (.int .i64 (hi)) := by
      rw [← hhi]
      exact (hb3.cell (p := ⟨w2.heap.size, 7, none⟩) (by simp)).trans (by go_simp)
    clear hb3 htr hk hlo hhi hsl
    go_wp2_with fail
    go_ret
    exact ⟨rfl, HB3.out⟩

theorem bounds_walk (lo hi : Nat) (o : Bool) (h1 : lo < 4294967296) (h2 : hi < 4294967296) (w : World) : Calls Try.prog 9 #[.int .u32 lo, .int .u32 hi, .bool o] w fun e w' => e = .returned (.bool true) ∧ Below w.heap.size w w' := by
  cases o
  · exact bounds_two lo hi h1 h2 w
  · exact bounds_open lo hi h1 w

end Go.Proofs.Ytbodgadbhldbmaa
