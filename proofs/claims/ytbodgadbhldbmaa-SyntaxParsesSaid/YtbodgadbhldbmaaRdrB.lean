/- The document's own reader: whether a byte is in a list, the number of a digit: contracts.
   Conditions: the reader's cells are as 'Rr' says; the lists are short. -/
import Derived.Test.YtbodgadbhldbmaaRdrA
namespace Go.Proofs.Ytbodgadbhldbmaa
open Go.RowKit

theorem txt_at (s : ByteArray) (n : Nat) (h : n < s.size) : (txt s)[n]? = some (s[n]'h).toNat := by
  unfold txt
  rw [List.getElem?_map]
  have : s.data.toList[n]? = some (s[n]'h) := by
    rw [Array.getElem?_toList]
    exact Array.getElem?_eq_getElem h
  rw [this]
  rfl
theorem take_no_mem {l : List Nat} {n b : Nat} {c : Nat} (hb : l[n]? = some b) (hne : b ≠ c) (h : ¬ c ∈ l.take n) : ¬ c ∈ l.take (n + 1) := by
  rw [List.take_add_one, hb, List.mem_append]
  rintro (h1 | h1)
  · exact h h1
  · simp at h1; exact hne h1.symm
theorem ix_first {l : List Nat} : ∀ {n : Nat} {c : Nat}, l[n]? = some c → ¬ c ∈ l.take n → ix l c = n := by
  induction l with
  | nil => intro n c h; simp at h
  | cons a l ih =>
    intro n c h hn
    unfold ix
    cases n with
    | zero => simp at h; subst h; simp
    | succ n =>
      simp only [List.take_succ_cons, List.mem_cons, not_or] at hn
      have h2 := ih (n := n) (c := c) (by simpa using h) hn.2
      rw [if_neg (fun e => hn.1 e.symm), h2, if_neg (by omega)]
      simp
set_option maxHeartbeats 400000 in
set_option maxRecDepth 100000 in
theorem in_any (s : ByteArray) (c : Nat) (w : World) (hs : s.size ≤ 1000) :
    Calls Try.prog 48 #[.string s, .int .u8 c] w fun e w' => e = .returned (.bool ((txt s).contains c)) ∧ w = w' := by
  obtain ⟨B, hB⟩ : ∃ B, (txt s).contains c = B := ⟨_, rfl⟩
  rw [hB]
  have HB := Lib.hid hB
  clear hB
  go_enter Try.func48, Try.ntmps48
  go_wp2
  go_loop [5] (fun i => ∃ n : Nat, n ≤ s.size ∧ i = .int .i64 n ∧ ¬ c ∈ (txt s).take n) (fun i => s.size - (intOf i).toNat)
  case atStart => exact ⟨0, Nat.zero_le _, rfl, by simp⟩
  case round =>
    obtain ⟨n, hn, rfl, hno⟩ := hrel
    by_cases hlt : n < s.size
    · have hat := txt_at s n hlt
      by_cases he : s[n].toNat = c
      · have HT : Hid (B = true) := Lib.hid (by rw [← HB.out, List.contains_iff_mem]; rw [he] at hat; exact List.mem_of_getElem? hat)
        have g1 : (((s[n]).toNat : Int) == (c : Int)) = true := by simp [he]
        have g2 : (((s[n]).toNat) == c) = true := by simp [he]
        clear he hat hno
        go_wp2
        go_ret
        exact ⟨ret_bool HT.out.symm, rfl⟩
      · have HN := Lib.hid (take_no_mem hat he hno)
        have g1 : (((s[n]).toNat : Int) == (c : Int)) = false := by rw [beq_eq_false_iff_ne]; omega
        have g2 : (((s[n]).toNat) == c) = false := by rw [beq_eq_false_iff_ne]; exact he
        clear he hat hno
        go_wp2
        go_round
        case rel => exact ⟨n + 1, by omega, by go_num, HN.out⟩
        case measure => simp [intOf]; omega
    · have HT : Hid (B = false) := Lib.hid (by
        rw [← HB.out, Bool.eq_false_iff, Ne, List.contains_iff_mem]
        rwa [List.take_of_length_le (by rw [txt_length]; omega)] at hno)
      clear hno
      go_wp2
      go_ret
      exact ⟨ret_bool HT.out.symm, rfl⟩

set_option maxHeartbeats 1000000 in
set_option maxRecDepth 100000 in
theorem digitR_none (w : World) (rb k : Nat) (s L : ByteArray) (pl e pl2 e2 : Int) (h : Rr w rb s k pl e) (hL : L.size ≤ 1000) (hres : (e = 0 ∧ pl2 = k ∧ e2 = 2) ∨ (¬ e = 0 ∧ pl2 = pl ∧ e2 = e))
    (hno : ∀ (c : Nat) (wr : World), c ∈ txt L → Rr wr rb s k pl e → Calls Try.prog 34 #[.pointer (some ⟨rb, 0, none⟩), .int .u8 c] wr fun x w' => x = .returned (.bool false) ∧ Sf wr rb s k pl e w') :
    Calls Try.prog 59 #[.pointer (some ⟨rb, 0, none⟩), .string L] w fun x w' => x = .returned (.int .i64 0) ∧ Sf w rb s k pl2 e2 w' := by
  have HS := Lib.hid (Sf.refl h)
  have HN := Lib.hid hno
  have HR := Lib.hid hres
  clear h hno hres
  go_enter Try.func59, Try.ntmps59
  go_wp2_with fail
  go_loopw [5] (fun i wr => ∃ n : Nat, n ≤ L.size ∧ i = .int .i64 n ∧ Sf w rb s k pl e wr) (fun i _ => L.size - (intOf i).toNat)
  case atStart => exact ⟨0, Nat.zero_le _, rfl, HS.out⟩
  case round =>
    obtain ⟨n, hn, rfl, hS⟩ := hrel
    by_cases hlt : n < L.size
    · have hat := List.mem_of_getElem? (txt_at L n hlt)
      have HC := Lib.hid (HN.out _ wr hat hS.1)
      have HS2 := Lib.hid hS
      clear hat hS
      go_wp2_with fail
      go_at_call 34
      refine HC.out.mono ?_
      rintro x w3 ⟨rfl, h3⟩
      have HS3 := Lib.hid (HS2.out.trans h3)
      clear h3
      go_wp2_with fail
      go_roundw
      case rel => exact ⟨n + 1, by omega, by go_num, HS3.out⟩
      case measure => simp [intOf]; omega
    · have c1 := hS.1.pos
      have HS2 := Lib.hid hS
      clear hS
      go_wp2_with fail
      go_at_call 25
      rcases HR.out with ⟨rfl, rfl, rfl⟩ | ⟨he, rfl, rfl⟩
      · refine (failR_ok _ rb k s pl _ _ HS2.out.1).mono ?_
        rintro x w4 ⟨rfl, h4⟩
        have HS4 := Lib.hid (HS2.out.trans h4)
        clear h4
        go_wp2_with fail
        go_ret
        exact ⟨rfl, HS4.out⟩
      · refine (failR_bad _ rb k s _ _ _ _ HS2.out.1 he).mono ?_
        rintro x w4 ⟨rfl, h4⟩
        have HS4 := Lib.hid (HS2.out.trans h4)
        clear h4 he
        go_wp2_with fail
        go_ret
        exact ⟨rfl, HS4.out⟩

set_option maxHeartbeats 1000000 in
set_option maxRecDepth 100000 in
theorem digitR_in (w : World) (rb k b : Nat) (r : List Nat) (s L : ByteArray) (pl : Int) (h : Rr w rb s k pl 0) (ht : Tl s k (b :: r)) (hs : s.size ≤ 1000) (hL : L.size ≤ 1000) (hin : b ∈ txt L) :
    Calls Try.prog 59 #[.pointer (some ⟨rb, 0, none⟩), .string L] w fun x w' => x = .returned (.int .i64 (ix (txt L) b)) ∧ Sf w rb s (k + 1) pl 0 w' := by
  have HS := Lib.hid (Sf.refl h)
  have HI := Lib.hid hin
  have HT := Lib.hid (And.intro ht hs)
  clear h hin ht hs
  go_enter Try.func59, Try.ntmps59
  go_wp2_with fail
  go_loopw [5] (fun i wr => ∃ n : Nat, n ≤ L.size ∧ i = .int .i64 n ∧ ¬ b ∈ (txt L).take n ∧ Sf w rb s k pl 0 wr) (fun i _ => L.size - (intOf i).toNat)
  case atStart => exact ⟨0, Nat.zero_le _, rfl, by simp, HS.out⟩
  case round =>
    obtain ⟨n, hn, rfl, hno, hS⟩ := hrel
    have hlt : n < L.size := by
      rcases Nat.lt_or_ge n L.size with h | h
      · exact h
      · exact absurd HI.out (by rwa [List.take_of_length_le (by rw [txt_length]; omega)] at hno)
    have hat := txt_at L n hlt
    have hb8 := (L[n]).toNat_lt
    have HS2 := Lib.hid hS
    by_cases he : L[n].toNat = b
    · have hx : ix (txt L) b = n := ix_first (by rw [hat, he]) hno
      have HX := Lib.hid hx
      have HE := Lib.hid he
      clear he hat hno hS hx
      go_wp2_with fail
      go_at_call 34
      rw [HE.out]
      refine (takeR_yes wr rb k b r s pl HS2.out.1 HT.out.1 HT.out.2 HT.out.1.byte).mono ?_
      rintro x w3 ⟨rfl, h3⟩
      have HS3 := Lib.hid (HS2.out.trans h3)
      clear h3
      go_wp2_with fail
      go_ret
      exact ⟨by rw [HX.out]; rfl, HS3.out⟩
    · have HN := Lib.hid (take_no_mem hat he hno)
      have HE := Lib.hid he
      clear he hat hno hS
      go_wp2_with fail
      go_at_call 34
      refine (takeR_no wr rb k b _ r s pl HS2.out.1 HT.out.1 (fun e => HE.out e.symm) hb8).mono ?_
      rintro x w3 ⟨rfl, h3⟩
      have HS3 := Lib.hid (HS2.out.trans h3)
      clear h3
      go_wp2_with fail
      go_roundw
      case rel => exact ⟨n + 1, by omega, by go_num, HN.out, HS3.out⟩
      case measure => simp [intOf]; omega

end Go.Proofs.Ytbodgadbhldbmaa
