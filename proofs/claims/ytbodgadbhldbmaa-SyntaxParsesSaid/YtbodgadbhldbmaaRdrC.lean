/- The document's own reader: an escape, a byte of an item: contracts.
   Conditions: the reader's cells are as 'Rr' says, and the text has at most 1000 bytes. -/
import Derived.Test.YtbodgadbhldbmaaRdrB
namespace Go.Proofs.Ytbodgadbhldbmaa
open Go.RowKit

/-- What a call that reads a byte comes to: that byte, and what is left; or the place and the number of the error, whatever byte it hands back. -/
def Byt (o : Out Nat) (s : ByteArray) (w : World) (rb : Nat) (pl : Int) (x : Ending) (w' : World) : Prop := match o with
  | .ok a r => a < 256 ∧ ∃ k, Tl s k r ∧ x = .returned (.int .i64 a) ∧ Sf w rb s k pl 0 w'
  | .er r c => ∃ v k p : Nat, v < 256 ∧ Tl s p r ∧ x = .returned (.int .i64 v) ∧ Sf w rb s k p c w'
def escList : ByteArray := { data := #[40, 41, 91, 93, 123, 125, 124, 42, 43, 63, 46, 92, 45, 94] }
def hexList : ByteArray := { data := #[48, 49, 50, 51, 52, 53, 54, 55, 56, 57, 97, 98, 99, 100, 101, 102] }
def itemList : ByteArray := { data := #[93, 92, 45, 94] }
theorem txt_escR : txt { data := #[40, 41, 91, 93, 123, 125, 124, 42, 43, 63, 46, 92, 45, 94] } = escapables := rfl
theorem txt_hex : txt { data := #[48, 49, 50, 51, 52, 53, 54, 55, 56, 57, 97, 98, 99, 100, 101, 102] } = hexDigits := rfl
theorem txt_item : txt { data := #[93, 92, 45, 94] } = [93, 92, 45, 94] := rfl
theorem takeR_not (w : World) (rb k c : Nat) (r : List Nat) (s : ByteArray) (pl : Int) (h : Rr w rb s k pl 0) (ht : Tl s k r) (hc : r.head? ≠ some c) (h8 : c < 256) :
    Calls Try.prog 34 #[.pointer (some ⟨rb, 0, none⟩), .int .u8 c] w fun x w' => x = .returned (.bool false) ∧ Sf w rb s k pl 0 w' := by
  cases r with
  | nil => exact takeR_end w rb k c s pl h ht h8
  | cons b r => exact takeR_no w rb k b c r s pl h ht (fun e => hc (by rw [e]; rfl)) h8
/-- A digit, whatever comes. -/
theorem digitR_any (w : World) (rb k : Nat) (r : List Nat) (s : ByteArray) (pl : Int) (h : Rr w rb s k pl 0) (ht : Tl s k r) (hs : s.size ≤ 1000) :
    Calls Try.prog 59 #[.pointer (some ⟨rb, 0, none⟩), .string { data := #[48, 49, 50, 51, 52, 53, 54, 55, 56, 57, 97, 98, 99, 100, 101, 102] }] w fun x w' =>
      (∃ b r2, r = b :: r2 ∧ b ∈ hexDigits ∧ x = .returned (.int .i64 (hexOf b : Nat)) ∧ Sf w rb s (k + 1) pl 0 w') ∨ ((∀ b r2, r = b :: r2 → ¬ b ∈ hexDigits) ∧ x = .returned (.int .i64 0) ∧ Sf w rb s k k 2 w') := by
  by_cases hh : ∃ b r2, r = b :: r2 ∧ b ∈ hexDigits
  · obtain ⟨b, r2, rfl, hb⟩ := hh
    refine (digitR_in w rb k b r2 s _ pl h ht hs (by decide) (by rw [txt_hex]; exact hb)).mono fun x w' ⟨h1, h2⟩ => .inl ⟨b, r2, rfl, hb, ?_, h2⟩
    rw [h1, txt_hex]
    unfold hexOf
    rw [Int.toNat_of_nonneg ((ix_nonneg _ _).2 hb)]
  · refine (digitR_none w rb k s _ pl 0 k 2 h (by decide) (.inl ⟨rfl, rfl, rfl⟩) fun c wr hc hr => ?_).mono fun x w' ⟨h1, h2⟩ => .inr ⟨fun b r2 e hb => hh ⟨b, r2, e, hb⟩, h1, h2⟩
    rw [txt_hex] at hc
    refine takeR_not wr rb k c r s pl hr ht (fun e => ?_) (by revert c; decide)
    cases r with
    | nil => simp at e
    | cons b r => simp at e; subst e; exact hh ⟨b, r, rfl, hc⟩
theorem digitR_bad (w : World) (rb k : Nat) (s : ByteArray) (pl e : Int) (h : Rr w rb s k pl e) (he : ¬ e = 0) :
    Calls Try.prog 59 #[.pointer (some ⟨rb, 0, none⟩), .string { data := #[48, 49, 50, 51, 52, 53, 54, 55, 56, 57, 97, 98, 99, 100, 101, 102] }] w fun x w' => x = .returned (.int .i64 0) ∧ Sf w rb s k pl e w' := by
  refine digitR_none w rb k s _ pl e pl e h (by decide) (.inr ⟨he, rfl, rfl⟩) fun c wr hc hr => ?_
  rw [txt_hex] at hc
  exact takeR_bad wr rb k c s pl e hr he (by revert c; decide)
theorem hexOf_ltR {b : Nat} : hexOf b < 16 := by
  unfold hexOf
  have := ix_lt hexDigits b
  have h2 : hexDigits.length = 16 := rfl
  omega

set_option maxHeartbeats 2000000 in
set_option maxRecDepth 100000 in
theorem escR_any (w : World) (rb k : Nat) (r : List Nat) (s : ByteArray) (pl : Int) (h : Rr w rb s k pl 0) (ht : Tl s k r) (hs : s.size ≤ 1000) :
    Calls Try.prog 51 #[.pointer (some ⟨rb, 0, none⟩)] w (Byt (pesc r) s w rb pl) := by
  have HT := Lib.hid (And.intro h (And.intro ht hs))
  by_cases h110 : r.head? = some 110
  · obtain ⟨r1, rfl⟩ : ∃ r1, r = 110 :: r1 := by cases r with
      | nil => simp at h110
      | cons b r => simp at h110; subst h110; exact ⟨r, rfl⟩
    clear h ht hs h110
    go_enter Try.func51, Try.ntmps51
    go_wp2_with fail
    go_at_call 34
    refine (takeR_yes w rb k 110 r1 s pl HT.out.1 HT.out.2.1 HT.out.2.2 (by decide)).mono ?_
    rintro x w1 ⟨rfl, h1⟩
    have H1 := Lib.hid h1
    clear h1
    go_wp2_with fail
    go_ret
    exact ⟨by decide, k + 1, HT.out.2.1.tail, rfl, H1.out⟩
  · by_cases h116 : r.head? = some 116
    · obtain ⟨r1, rfl⟩ : ∃ r1, r = 116 :: r1 := by cases r with
        | nil => simp at h116
        | cons b r => simp at h116; subst h116; exact ⟨r, rfl⟩
      clear h ht hs h110 h116
      go_enter Try.func51, Try.ntmps51
      go_wp2_with fail
      go_at_call 34
      refine (takeR_not w rb k 110 _ s pl HT.out.1 HT.out.2.1 (by simp) (by decide)).mono ?_
      rintro x w1 ⟨rfl, h1⟩
      have H1 := Lib.hid h1
      clear h1
      go_wp2_with fail
      go_at_call 34
      refine (takeR_yes w1 rb k 116 r1 s pl H1.out.1 HT.out.2.1 HT.out.2.2 (by decide)).mono ?_
      rintro x w2 ⟨rfl, h2⟩
      have H2 := Lib.hid (H1.out.trans h2)
      clear h2
      go_wp2_with fail
      go_ret
      exact ⟨by decide, k + 1, HT.out.2.1.tail, rfl, H2.out⟩
    · have HN := Lib.hid (And.intro h110 h116)
      clear h ht hs h110 h116
      by_cases h120 : r.head? = some 120
      · obtain ⟨r1, rfl⟩ : ∃ r1, r = 120 :: r1 := by cases r with
          | nil => simp at h120
          | cons b r => simp at h120; subst h120; exact ⟨r, rfl⟩
        clear h120
        have hp : pesc (120 :: r1) = phex r1 := rfl
        rw [hp]
        clear hp
        go_enter Try.func51, Try.ntmps51
        go_wp2_with fail
        go_at_call 34
        refine (takeR_not w rb k 110 _ s pl HT.out.1 HT.out.2.1 HN.out.1 (by decide)).mono ?_
        rintro x w1 ⟨rfl, h1⟩
        have H1 := Lib.hid h1
        clear h1
        go_wp2_with fail
        go_at_call 34
        refine (takeR_not w1 rb k 116 _ s pl H1.out.1 HT.out.2.1 HN.out.2 (by decide)).mono ?_
        rintro x w2 ⟨rfl, h2⟩
        have H2 := Lib.hid (H1.out.trans h2)
        clear h2
        go_wp2_with fail
        go_at_call 34
        refine (takeR_yes w2 rb k 120 r1 s pl H2.out.1 HT.out.2.1 HT.out.2.2 (by decide)).mono ?_
        rintro x w3 ⟨rfl, h3⟩
        have H3 := Lib.hid (H2.out.trans h3)
        clear h3
        go_wp2_with fail
        go_at_call 59
        refine (digitR_any w3 rb (k + 1) r1 s pl H3.out.1 HT.out.2.1.tail HT.out.2.2).mono ?_
        rintro x w4 (⟨a, r2, rfl, ha, rfl, h4⟩ | ⟨hno, rfl, h4⟩)
        · have H4 := Lib.hid (H3.out.trans h4)
          have HA := Lib.hid ha
          have hx := hexOf_ltR (b := a)
          have x1 : (0 : Int) ≤ (hexOf a : Nat) := by omega
          have x2 : ((hexOf a : Nat) : Int) ≤ 15 := by omega
          clear h4 ha hx
          go_wp2_with fail
          go_at_call 59
          refine (digitR_any w4 rb (k + 1 + 1) r2 s pl H4.out.1 HT.out.2.1.tail.tail HT.out.2.2).mono ?_
          rintro x w5 (⟨b, r3, rfl, hb, rfl, h5⟩ | ⟨hno, rfl, h5⟩)
          · have H5 := Lib.hid (H4.out.trans h5)
            have HB : Hid (phex (a :: b :: r3) = .ok (16 * hexOf a + hexOf b) r3) := Lib.hid (by simp only [phex]; rw [if_pos HA.out, if_pos hb])
            have hx := hexOf_ltR (b := b)
            have y1 : (0 : Int) ≤ (hexOf b : Nat) := by omega
            have y2 : ((hexOf b : Nat) : Int) ≤ 15 := by omega
            have HY : Hid (16 * hexOf a + hexOf b < 256) := Lib.hid (by omega)
            clear h5 hb hx
            go_wp2_with fail
            go_ret
            rw [HB.out]
            exact ⟨HY.out, k + 1 + 1 + 1, HT.out.2.1.tail.tail.tail, ret_int (by omega), H5.out⟩
          · have H5 := Lib.hid (H4.out.trans h5)
            have HB : Hid (phex (a :: r2) = .er r2 2) := Lib.hid (by
              cases r2 with
              | nil => simp only [phex]; rw [if_pos HA.out]
              | cons b r3 => simp only [phex]; rw [if_pos HA.out, if_neg (hno b r3 rfl)])
            have HY : Hid (16 * hexOf a < 256) := Lib.hid (by omega)
            clear h5 hno
            go_wp2_with fail
            go_ret
            rw [HB.out]
            exact ⟨16 * hexOf a, k + 1 + 1, k + 1 + 1, HY.out, HT.out.2.1.tail.tail, ret_int (by omega), H5.out⟩
        · have H4 := Lib.hid (H3.out.trans h4)
          have HB : Hid (phex r1 = .er r1 2) := Lib.hid (by
            match r1, hno with
            | [], _ => rfl
            | [a], hno => simp only [phex]; rw [if_neg (hno a [] rfl)]
            | a :: b :: r, hno => simp only [phex]; rw [if_neg (hno a _ rfl)])
          clear h4 hno
          go_wp2_with fail
          go_at_call 59
          refine (digitR_bad w4 rb (k + 1) s _ 2 H4.out.1 (by decide)).mono ?_
          rintro x w5 ⟨rfl, h5⟩
          have H5 := Lib.hid (H4.out.trans h5)
          clear h5
          go_wp2_with fail
          go_ret
          rw [HB.out]
          exact ⟨0, k + 1, k + 1, by decide, HT.out.2.1.tail, rfl, H5.out⟩
      · have HN2 := Lib.hid h120
        clear h120
        go_enter Try.func51, Try.ntmps51
        go_wp2_with fail
        go_at_call 34
        refine (takeR_not w rb k 110 _ s pl HT.out.1 HT.out.2.1 HN.out.1 (by decide)).mono ?_
        rintro x w1 ⟨rfl, h1⟩
        have H1 := Lib.hid h1
        clear h1
        go_wp2_with fail
        go_at_call 34
        refine (takeR_not w1 rb k 116 _ s pl H1.out.1 HT.out.2.1 HN.out.2 (by decide)).mono ?_
        rintro x w2 ⟨rfl, h2⟩
        have H2 := Lib.hid (H1.out.trans h2)
        clear h2
        go_wp2_with fail
        go_at_call 34
        refine (takeR_not w2 rb k 120 _ s pl H2.out.1 HT.out.2.1 HN2.out (by decide)).mono ?_
        rintro x w3 ⟨rfl, h3⟩
        have H3 := Lib.hid (H2.out.trans h3)
        clear h3
        go_wp2_with fail
        go_at_call 45
        cases r with
        | nil =>
          refine (nextR_end w3 rb k s pl H3.out.1 HT.out.2.1).mono ?_
          rintro x w4 ⟨rfl, h4⟩
          have c1 := h4.1.pos
          have c2 := h4.1.lt
          have H4 := Lib.hid (H3.out.trans h4)
          clear h4
          go_wp2_with fail
          go_at_call 25
          refine (failR_ok w4 rb k s pl _ 2 H4.out.1).mono ?_
          rintro x w5 ⟨rfl, h5⟩
          have H5 := Lib.hid (H4.out.trans h5)
          clear h5
          go_wp2_with fail
          go_ret
          exact ⟨0, k, k, by decide, HT.out.2.1, rfl, H5.out⟩
        | cons b r =>
          refine (nextR_in w3 rb k b r s pl H3.out.1 HT.out.2.1).mono ?_
          rintro x w4 ⟨rfl, h4⟩
          have c1 := h4.1.pos
          have c2 := h4.1.lt
          have c3 := h4.1.frz 1
          have H4 := Lib.hid (H3.out.trans h4)
          have hb := HT.out.2.1.byte
          have b1 : (0 : Int) ≤ (b : Int) := by omega
          have b2 : (b : Int) ≤ 255 := by omega
          have b3 : ¬ (b : Int) < 0 := by omega
          have hsz := HT.out.2.2
          have hlt := HT.out.2.1.lt
          have b4 : (k : Int) < 1000 := by omega
          have HBT := Lib.hid hb
          clear h4 hb hsz hlt
          go_wp2_with fail
          go_at_call 48
          refine (in_any _ b w4 (by decide)).mono ?_
          rintro x w5 ⟨rfl, rfl⟩
          rw [txt_escR]
          cases hm : escapables.contains b with
          | true =>
            have HB : Hid (pesc (b :: r) = .ok b r) := Lib.hid (by
              have h1 := HN.out
              have h2 := HN2.out
              simp at h1 h2
              simp only [pesc]
              rw [if_neg h2, if_neg h1.1, if_neg h1.2, if_pos (List.contains_iff_mem.1 hm)])
            clear hm
            go_wp2_with fail
            go_ret
            rw [HB.out]
            exact ⟨HBT.out, k + 1, HT.out.2.1.tail, rfl, H4.out.set1 (by simp)⟩
          | false =>
            have HB : Hid (pesc (b :: r) = .er (b :: r) 2) := Lib.hid (by
              have h1 := HN.out
              have h2 := HN2.out
              simp at h1 h2
              simp only [pesc]
              rw [if_neg h2, if_neg h1.1, if_neg h1.2, if_neg (fun h => by rw [List.contains_iff_mem.2 h] at hm; cases hm)])
            clear hm
            go_wp2_with fail
            go_at_call 25
            refine (failR_ok w4 rb k s pl _ 2 H4.out.1).mono ?_
            rintro x w6 ⟨rfl, h6⟩
            have H6 := Lib.hid (H4.out.trans h6)
            clear h6
            go_wp2_with fail
            go_ret
            rw [HB.out]
            exact ⟨0, k, k, by decide, HT.out.2.1, rfl, H6.out⟩

end Go.Proofs.Ytbodgadbhldbmaa
