/- What the reader's calls that read how often something is repeated come to: contracts.
   Conditions: the reader's cells are as 'Rd' says, and the text is no longer than memory may be. -/
import Derived.Test.YtpibkalbnjgpaaaDoorNum
namespace Go.Proofs.YtpibkalbnjgpaaaDoor
open Go.RowKit

def intOk (a : Int) : Value := .tuple #[.int .i64 a, .int .i64 0]
def pairOk (a : Int × Int) : Value := .tuple #[.int .i64 a.1, .int .i64 a.2, .int .i64 0]
def pairEr (c : Nat) : Value := .tuple #[.int .i64 0, .int .i64 0, .int .i64 c]
attribute [local go_sem] numOk numEr intOk pairOk pairEr
theorem pupper_no (lo : Nat) {r : List Nat} (h : r.head? ≠ some 44) : pupper lo r = .ok lo r := by
  unfold pupper
  split
  · simp at h
  · simp at h
  · rfl
theorem pupper_open (lo : Nat) (r : List Nat) : pupper lo (44 :: 125 :: r) = .ok (-1) (125 :: r) := rfl
theorem pupper_num (lo : Nat) {r : List Nat} (h : r.head? ≠ some 125) : pupper lo (44 :: r) = match pnumber r with
    | .ok n r' => .ok n r'
    | .er r' c => .er r' c := by
  unfold pupper
  split
  · rename_i e; injection e with _ e; subst e; simp at h
  · rename_i e; injection e with _ e; subst e; rfl
  · rename_i _ e; exact absurd rfl (e r)
theorem pupper_le {lo : Nat} {r : List Nat} {hi : Int} {r' : List Nat} (hlo : lo ≤ 2147483647) (h : pupper lo r = .ok hi r') : -1 ≤ hi ∧ hi ≤ 2147483647 := by
  by_cases h1 : r.head? = some 44
  · cases r with
    | nil => simp at h1
    | cons b r =>
      simp at h1
      subst h1
      by_cases h2 : r.head? = some 125
      · cases r with
        | nil => simp at h2
        | cons b r =>
          simp at h2
          subst h2
          rw [pupper_open] at h
          injection h with h _
          omega
      · rw [pupper_num lo h2] at h
        unfold pnumber at h
        split at h
        · rename_i n r2 hx
          injection h with h _
          split at hx
          · cases hx
          · split at hx
            · cases hx
            · injection hx with hx _
              omega
        · cases h
  · rw [pupper_no lo h1] at h
    injection h with h _
    omega
theorem pnumber_le {r : List Nat} {n : Nat} {r' : List Nat} (h : pnumber r = .ok n r') : n ≤ 2147483647 := by
  unfold pnumber at h
  split at h
  · cases h
  · split at h
    · cases h
    · injection h with h _
      omega

set_option maxHeartbeats 1000000 in
set_option maxRecDepth 100000 in
theorem upper_any (w : World) (rb k lo : Nat) (r : List Nat) (s : ByteArray) (op : Value) (h : Rd w rb s k op) (ht : Tl s k r) (hs : s.size ≤ maxLen) :
    Calls Tryd.prog 80 #[.pointer (some ⟨rb, 0, none⟩), .int .i64 lo] w (Gives (pupper lo r) intOk numEr w rb s op) := by
  by_cases h1 : r.head? = some 44
  · cases r with
    | nil => simp at h1
    | cons b r =>
      simp at h1
      subst h1
      by_cases h2 : r.head? = some 125
      · cases r with
        | nil => simp at h2
        | cons b r =>
          simp at h2
          subst h2
          go_enter Tryd.func80, Tryd.ntmps80
          go_wp2_with fail
          go_at_call 81
          refine (take_yes w rb k 44 _ s op h ht hs).mono ?_
          rintro e w1 ⟨rfl, hA⟩
          go_wp2_with fail
          go_at_call 37
          refine (next_in _ rb (k + 1) 125 r s op hA.1 ht.tail).mono ?_
          rintro e w2 ⟨rfl, hB⟩
          go_wp2_with fail
          go_ret2
          exact ⟨rfl, k + 1, hA.trans hB, ht.tail⟩
      · have HP := Lib.hid (pupper_num lo h2)
        have key : ∃ v1 : Nat, ∃ v2 : Bool, ((v1 : Int) == 125) = false ∧ ∀ w1, Rd w1 rb s (k + 1) op → Calls Tryd.prog 37 #[.pointer (some ⟨rb, 0, none⟩)] w1 fun e w' => e = .returned (.tuple #[.int .u8 v1, .bool v2]) ∧ Af w1 rb s op (k + 1) w' := by
          cases r with
          | nil => exact ⟨0, false, by decide, fun w1 hA => next_end w1 rb (k + 1) s op hA ht.tail⟩
          | cons b r =>
            simp at h2
            exact ⟨b, true, by simp; omega, fun w1 hA => next_in w1 rb (k + 1) b r s op hA ht.tail⟩
        obtain ⟨v1, v2, e1, hk⟩ := key
        have HK := Lib.hid hk
        clear hk h2
        go_enter Tryd.func80, Tryd.ntmps80
        go_wp2_with fail
        go_at_call 81
        refine (take_yes w rb k 44 _ s op h ht hs).mono ?_
        rintro e w1 ⟨rfl, hA⟩
        go_wp2_with fail
        go_at_call 37
        refine (HK.out _ hA.1).mono ?_
        rintro e w2 ⟨rfl, hB⟩
        go_wp2_with fail
        go_at_call 79
        refine (number_any _ rb (k + 1) r s op hB.1 ht.tail hs).mono ?_
        intro e w3 hG
        have hG2 := Gives.mono' (hA.trans hB) hG
        clear hG
        revert hG2
        cases hx : pnumber r with
        | ok a r' =>
          have HX := Lib.hid hx
          clear hx
          rintro ⟨rfl, hG⟩
          go_wp2_with fail
          go_ret2
          rw [HP.out, HX.out]
          exact ⟨rfl, hG⟩
        | er r' c =>
          have HX := Lib.hid hx
          clear hx
          rintro ⟨rfl, hG⟩
          go_wp2_with fail
          go_ret2
          rw [HP.out, HX.out]
          exact ⟨rfl, hG⟩
  · have HP := Lib.hid (pupper_no lo h1)
    have key : Calls Tryd.prog 81 #[.pointer (some ⟨rb, 0, none⟩), .int .u8 (44 : Nat)] w fun e w' => e = .returned (.bool false) ∧ Af w rb s op k w' := by
      cases r with
      | nil => exact take_end w rb k 44 s op h ht
      | cons b r =>
        simp at h1
        exact take_no w rb k b 44 r s op h ht h1
    clear h1
    go_enter Tryd.func80, Tryd.ntmps80
    go_wp2_with fail
    go_at_call 81
    refine key.mono ?_
    rintro e w1 ⟨rfl, hA⟩
    go_wp2_with fail
    go_ret2
    rw [HP.out]
    exact ⟨rfl, k, hA, ht⟩

theorem take_out (w : World) (rb k c : Nat) (r : List Nat) (s : ByteArray) (op : Value) (h : Rd w rb s k op) (ht : Tl s k r) (hc : r.head? ≠ some c) :
    Calls Tryd.prog 81 #[.pointer (some ⟨rb, 0, none⟩), .int .u8 c] w fun e w' => e = .returned (.bool false) ∧ Af w rb s op k w' := by
  cases r with
  | nil => exact take_end w rb k c s op h ht
  | cons b r =>
    simp at hc
    exact take_no w rb k b c r s op h ht hc

theorem pbounds_er1 {brace r r' : List Nat} {c : Nat} (h : pnumber r = .er r' c) : pbounds brace r = .er r' c := by unfold pbounds; rw [h]
theorem pbounds_er2 {brace r r1 r' : List Nat} {lo c : Nat} (h : pnumber r = .ok lo r1) (h2 : pupper lo r1 = .er r' c) : pbounds brace r = .er r' c := by unfold pbounds; rw [h]; simp only; rw [h2]
theorem pbounds_no {brace r r1 r2 : List Nat} {lo : Nat} {hi : Int} (h : pnumber r = .ok lo r1) (h2 : pupper lo r1 = .ok hi r2) (h3 : r2.head? ≠ some 125) : pbounds brace r = .er r2 2 := by
  unfold pbounds; rw [h]; simp only; rw [h2]; simp only
  split
  · simp at h3
  · rfl
theorem pbounds_in {brace r r1 r3 : List Nat} {lo : Nat} {hi : Int} (h : pnumber r = .ok lo r1) (h2 : pupper lo r1 = .ok hi (125 :: r3)) : pbounds brace r = if hi ≠ -1 ∧ (lo : Int) > hi then .er brace 2 else .ok (lo, hi) r3 := by
  unfold pbounds; rw [h]; simp only; rw [h2]; rfl

set_option maxHeartbeats 1000000 in
set_option maxRecDepth 100000 in
theorem bounds_any (w : World) (rb k : Nat) (r : List Nat) (s : ByteArray) (op : Value) (h : Rd w rb s k op) (ht : Tl s k (123 :: r)) (hs : s.size ≤ maxLen) :
    Calls Tryd.prog 69 #[.pointer (some ⟨rb, 0, none⟩)] w (Gives (pbounds (123 :: r) r) pairOk pairEr w rb s op) := by
  have hs' := Lib.hid hs
  unfold maxLen at hs
  have p1 := h.pos
  have p2 := h.frz 1
  have p3 := h.lt
  have p4 := ht.lt
  have HA := Lib.hid ((Af.refl h).step (k + 1) (v := .int .i64 ((k : Int) + 1)) (by go_num))
  go_enter Tryd.func69, Tryd.ntmps69
  go_wp2_with fail
  go_at_call 79
  refine (number_any _ rb (k + 1) r s op HA.out.1 ht.tail hs'.out).mono ?_
  intro e w1 hG
  have hG1 := Gives.mono' HA.out hG
  clear hG p1 p2 p3
  revert hG1
  cases hx : pnumber r with
  | er r' c =>
    have HX := Lib.hid (pbounds_er1 (brace := 123 :: r) hx)
    have c0 : ((c : Int) != 0) = true := by
      have : c = 2 ∨ c = 3 := by
        unfold pnumber at hx
        split at hx
        · injection hx with _ hx; omega
        · split at hx
          · injection hx with _ hx; omega
          · cases hx
      rw [bne_iff_ne]; omega
    have c1 : ¬ (c : Int) = 0 := by rw [bne_iff_ne] at c0; exact c0
    clear hx
    rintro ⟨rfl, hG⟩
    go_wp2_with fail
    go_ret3
    rw [HX.out]
    exact ⟨rfl, hG⟩
  | ok lo r1 =>
    have hlo := pnumber_le hx
    rintro ⟨rfl, k1, hA1, ht1⟩
    have HX := Lib.hid hx
    clear hx
    go_wp2_with fail
    go_at_call 80
    refine (upper_any _ rb k1 lo r1 s op hA1.1 ht1 hs'.out).mono ?_
    intro e w2 hG
    have hG2 := Gives.mono' hA1 hG
    clear hG
    revert hG2
    cases hy : pupper lo r1 with
    | er r' c =>
      have HY := Lib.hid (pbounds_er2 (brace := 123 :: r) HX.out hy)
      have c0 : ((c : Int) != 0) = true := by
        have : c = 2 ∨ c = 3 := by
          by_cases q1 : r1.head? = some 44
          · cases r1 with
            | nil => simp at q1
            | cons b r1 =>
              simp at q1
              subst q1
              by_cases q2 : r1.head? = some 125
              · cases r1 with
                | nil => simp at q2
                | cons b r1 =>
                  simp at q2
                  subst q2
                  rw [pupper_open] at hy
                  cases hy
              · rw [pupper_num lo q2] at hy
                split at hy
                · cases hy
                · rename_i r2 c2 hz
                  injection hy with _ hy
                  unfold pnumber at hz
                  split at hz
                  · injection hz with _ hz; omega
                  · split at hz
                    · injection hz with _ hz; omega
                    · cases hz
          · rw [pupper_no lo q1] at hy
            cases hy
        rw [bne_iff_ne]; omega
      have c1 : ¬ (c : Int) = 0 := by rw [bne_iff_ne] at c0; exact c0
      clear hy
      rintro ⟨rfl, hG⟩
      go_wp2_with fail
      go_ret3
      rw [HY.out]
      exact ⟨rfl, hG⟩
    | ok hi r2 =>
      rintro ⟨rfl, k2, hA2, ht2⟩
      by_cases h3 : r2.head? = some 125
      · cases r2 with
        | nil => simp at h3
        | cons b r3 =>
          simp at h3
          subst h3
          have HP := Lib.hid (pbounds_in (brace := 123 :: r) HX.out hy)
          clear hy
          by_cases g1 : hi = -1
          · subst g1
            go_wp2_with fail
            go_at_call 81
            refine (take_yes _ rb k2 125 r3 s op hA2.1 ht2 hs'.out).mono ?_
            rintro e w3 ⟨rfl, hA3⟩
            go_wp2_with fail
            go_ret3
            rw [HP.out, if_neg (by rintro ⟨h, _⟩; exact h rfl)]
            exact ⟨rfl, k2 + 1, hA2.trans hA3, ht2.tail⟩
          · have g2 : (hi != -1) = true := by rw [bne_iff_ne]; exact g1
            have g3 : (hi == -1) = false := by simp [g1]
            by_cases g4 : hi < (lo : Int)
            · go_wp2_with fail
              go_at_call 81
              refine (take_yes _ rb k2 125 r3 s op hA2.1 ht2 hs'.out).mono ?_
              rintro e w3 ⟨rfl, hA3⟩
              have p1 := hA3.1.pos
              have p2 := hA3.1.frz 1
              have p3 := hA3.1.lt
              have HB := Lib.hid ((hA2.trans hA3).step k (v := .int .i64 (k : Int)) rfl)
              have HG := Lib.hid g1
              clear g1 hA3
              go_wp2_with fail
              go_ret3
              rw [HP.out, if_pos ⟨HG.out, g4⟩]
              exact ⟨rfl, k, HB.out, ht⟩
            · have HG := Lib.hid g4
              have g5 : (lo : Int) ≤ hi := by omega
              go_wp2_with fail
              go_at_call 81
              refine (take_yes _ rb k2 125 r3 s op hA2.1 ht2 hs'.out).mono ?_
              rintro e w3 ⟨rfl, hA3⟩
              clear g1
              go_wp2_with fail
              go_ret3
              rw [HP.out, if_neg (fun h => by have := HG.out; have := h.2; omega)]
              exact ⟨rfl, k2 + 1, hA2.trans hA3, ht2.tail⟩
      · have HP := Lib.hid (pbounds_no (brace := 123 :: r) HX.out hy h3)
        have HK := Lib.hid (take_out _ rb k2 125 r2 s op hA2.1 ht2 h3)
        clear hy h3
        go_wp2_with fail
        go_at_call 81
        refine HK.out.mono ?_
        rintro e w3 ⟨rfl, hA3⟩
        go_wp2_with fail
        go_ret3
        rw [HP.out]
        exact ⟨rfl, k2, hA2.trans hA3, ht2⟩

set_option maxHeartbeats 1000000 in
set_option maxRecDepth 100000 in
theorem times_any (w : World) (rb k b : Nat) (r : List Nat) (s : ByteArray) (op : Value) (h : Rd w rb s k op) (ht : Tl s k (b :: r)) (hs : s.size ≤ maxLen) (hb : b = 42 ∨ b = 43 ∨ b = 63 ∨ b = 123) :
    Calls Tryd.prog 62 #[.pointer (some ⟨rb, 0, none⟩), .int .u8 b] w (Gives (ptimes b r) pairOk pairEr w rb s op) := by
  have hs' := Lib.hid hs
  unfold maxLen at hs
  have p1 := h.pos
  have p2 := h.frz 1
  have p3 := h.lt
  have p4 := ht.lt
  have HA := Lib.hid ((Af.refl h).step (k + 1) (v := .int .i64 ((k : Int) + 1)) (by go_num))
  rcases hb with rfl | rfl | rfl | rfl
  · go_enter Tryd.func62, Tryd.ntmps62
    go_wp2_with fail
    go_ret3
    exact ⟨rfl, k + 1, HA.out, ht.tail⟩
  · go_enter Tryd.func62, Tryd.ntmps62
    go_wp2_with fail
    go_ret3
    exact ⟨rfl, k + 1, HA.out, ht.tail⟩
  · go_enter Tryd.func62, Tryd.ntmps62
    go_wp2_with fail
    go_ret3
    exact ⟨rfl, k + 1, HA.out, ht.tail⟩
  · have HP := Lib.hid (show ptimes 123 r = pbounds (123 :: r) r from rfl)
    go_enter Tryd.func62, Tryd.ntmps62
    go_wp2_with fail
    go_at_call 69
    refine (bounds_any w rb k r s op h ht hs'.out).mono ?_
    intro e w1 hG
    revert hG
    cases hx : pbounds (123 :: r) r with
    | ok a r' =>
      have HX := Lib.hid hx
      clear hx
      rintro ⟨rfl, hG⟩
      go_wp2_with fail
      go_ret3
      rw [HP.out, HX.out]
      exact ⟨rfl, hG⟩
    | er r' c =>
      have HX := Lib.hid hx
      clear hx
      rintro ⟨rfl, hG⟩
      go_wp2_with fail
      go_ret3
      rw [HP.out, HX.out]
      exact ⟨rfl, hG⟩

end Go.Proofs.YtpibkalbnjgpaaaDoor
