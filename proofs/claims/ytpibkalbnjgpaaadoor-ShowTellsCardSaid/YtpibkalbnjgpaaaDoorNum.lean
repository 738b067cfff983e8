/- What the reader's calls that read numbers, and how often something is repeated, come to: contracts.
   Conditions: the reader's cells are as 'Rd' says, and the text is no longer than memory may be. -/
import Derived.Test.YtpibkalbnjgpaaaDoorLex
namespace Go.Proofs.YtpibkalbnjgpaaaDoor
open Go.RowKit

def numOk (a : Nat) : Value := .tuple #[.int .i64 a, .int .i64 0]
def numEr (c : Nat) : Value := .tuple #[.int .i64 0, .int .i64 c]
attribute [local go_sem] numOk numEr
def posOf (rb : Nat) (w : World) : Nat := match w.cell? ⟨rb, 1, none⟩ with
  | some (.int _ q) => q.toNat
  | _ => 0
theorem posOf_rd {w : World} {rb k : Nat} {s : ByteArray} {op : Value} (h : Rd w rb s k op) : posOf rb w = k := by
  unfold posOf; rw [h.pos]; simp
def Seen (r : List Nat) (b ok : Value) : Prop := (r = [] ∧ b = .int .u8 0 ∧ ok = .bool false) ∨ ∃ c t, r = c :: t ∧ b = .int .u8 c ∧ ok = .bool true
theorem digs_nil (n : Nat) : digs [] n = (n, []) := by unfold digs; rfl
theorem digs_dig {b : Nat} (r : List Nat) (n : Nat) (h : 48 ≤ b ∧ b ≤ 57) : digs (b :: r) n = digs r (min (10 * n + (b - 48)) 2147483648) := by
  rw [digs, if_pos h]
theorem digs_not {b : Nat} (r : List Nat) (n : Nat) (h : ¬ (48 ≤ b ∧ b ≤ 57)) : digs (b :: r) n = (n, b :: r) := by
  rw [digs, if_neg h]

theorem next_any (w : World) (rb k : Nat) (r : List Nat) (s : ByteArray) (op : Value) (h : Rd w rb s k op) (ht : Tl s k r) :
    Calls Tryd.prog 37 #[.pointer (some ⟨rb, 0, none⟩)] w fun e w' => ∃ b ok, Seen r b ok ∧ e = .returned (.tuple #[b, ok]) ∧ Af w rb s op k w' := by
  cases r with
  | nil => exact (next_end w rb k s op h ht).mono fun e w1 ⟨he, hA⟩ => ⟨_, _, .inl ⟨rfl, rfl, rfl⟩, he, hA⟩
  | cons b r => exact (next_in w rb k b r s op h ht).mono fun e w1 ⟨he, hA⟩ => ⟨_, _, .inr ⟨b, r, rfl, rfl, rfl⟩, he, hA⟩
theorem min_lo {m c : Nat} (h1 : 48 ≤ c) (h2 : c ≤ 57) (h : 10 * m + (c - 48) ≤ 2147483648) : ((min (10 * m + (c - 48)) 2147483648 : Nat) : Int) = 10 * (m : Int) + ((c : Int) - 48) := by
  rw [Nat.min_eq_left h]; omega
theorem min_hi {m c : Nat} (h : ¬ 10 * m + (c - 48) ≤ 2147483648) : ((min (10 * m + (c - 48)) 2147483648 : Nat) : Int) = 2147483648 := by
  rw [Nat.min_eq_right (by omega)]; rfl
/-- Behind the digits: what number answers. -/
theorem number_out {r r' : List Nat} {m i k : Nat} {s : ByteArray} (hd : digs r 0 = (m, r')) (hti : Tl s i r') (ht : Tl s k r) :
    pnumber r = if i = k then .er r 2 else if 2147483647 < m then .er r 3 else .ok m r' := by
  unfold pnumber
  rw [hd]
  have h1 := hti.1
  have h2 := ht.1
  have e : (r'.length = r.length) = (i = k) := propext ⟨fun h => by omega, fun h => by omega⟩
  simp only [e]

set_option maxHeartbeats 1000000 in
set_option maxRecDepth 100000 in
theorem number_any (w : World) (rb k : Nat) (r : List Nat) (s : ByteArray) (op : Value) (h : Rd w rb s k op) (ht : Tl s k r) (hs : s.size ≤ maxLen) :
    Calls Tryd.prog 79 #[.pointer (some ⟨rb, 0, none⟩)] w (Gives (pnumber r) numOk numEr w rb s op) := by
  unfold maxLen at hs
  have p1 := h.pos
  have p3 := h.lt
  have hlen := ht.1
  go_enter Tryd.func79, Tryd.ntmps79
  go_wp2_with fail
  go_at_call 37
  refine (next_any w rb k r s op h ht).mono ?_
  rintro e w1 ⟨b, ok, hseen, rfl, hA⟩
  clear p1 p3
  go_wp2_with fail
  go_loopw [5, 6, 7] (fun n b ok wr => ∃ (i m : Nat) (r' : List Nat), n = .int .i64 m ∧ m ≤ 2147483648 ∧ Af w rb s op i wr ∧ Tl s i r' ∧ digs r' m = digs r 0 ∧ Seen r' b ok) (fun _ _ _ wr => s.size - posOf rb wr)
  case atStart => exact ⟨k, 0, r, rfl, by omega, hA, ht, rfl, hseen⟩
  case round =>
    clear hseen hA
    obtain ⟨i, m, r', rfl, hm, hA, hti, hd, hsn⟩ := hrel
    have d3 : (m : Int) ≤ 2147483648 := by omega
    have d4 : (0 : Int) ≤ (m : Int) := by omega
    have q1 := hA.1.pos
    have q2 := hA.1.frz 1
    have q3 := hA.1.lt
    by_cases hstop : digs r' m = (m, r')
    · -- the digits are over
      have HO := Lib.hid (number_out (hd ▸ hstop) hti ht)
      have hstay : (digs r' m).2.length = r'.length := by rw [hstop]
      have hpos := ht.1
      have hpos2 := hti.1
      have hik : k ≤ i := by
        have := digs_le r 0
        rw [← hd, hstop] at this
        have this : r'.length ≤ r.length := this
        omega
      clear hd hstop
      by_cases hi : i = k
      · subst hi
        have e1 : ((i : Int) == (i : Int)) = true := by simp
        have HP : Hid (pnumber r = .er r 2) := Lib.hid (by rw [HO.out, if_pos rfl])
        rcases hsn with ⟨rfl, rfl, rfl⟩ | ⟨c, t, rfl, rfl, rfl⟩
        · go_wp2_with fail
          go_ret2
          rw [HP.out]
          exact ⟨rfl, i, hA, ht⟩
        · have hdig : ¬ (48 ≤ c ∧ c ≤ 57) := fun hdig => by
            rw [digs_dig t m hdig] at hstay
            have := digs_le t (min (10 * m + (c - 48)) 2147483648)
            simp at hstay
            omega
          by_cases g1 : 48 ≤ c
          · have g2 : (48 : Int) ≤ (c : Int) := by omega
            have g3 : ¬ (c : Int) ≤ 57 := by omega
            clear hstay
            go_wp2_with fail
            go_ret2
            rw [HP.out]
            exact ⟨rfl, i, hA, ht⟩
          · have g2 : ¬ (48 : Int) ≤ (c : Int) := by omega
            clear hstay
            go_wp2_with fail
            go_ret2
            rw [HP.out]
            exact ⟨rfl, i, hA, ht⟩
      · have e1 : ((i : Int) == (k : Int)) = false := by simp; omega
        have e2 : ((i : Nat) == k) = false := by simp; omega
        have HS := Lib.hid hi
        clear hi
        by_cases hbig : 2147483647 < m
        · have f1 : (2147483647 : Int) < (m : Int) := by omega
          have HP : Hid (pnumber r = .er r 3) := Lib.hid (by rw [HO.out, if_neg HS.out, if_pos hbig])
          have HB := Lib.hid (hA.step k (v := .int .i64 (k : Int)) rfl)
          rcases hsn with ⟨rfl, rfl, rfl⟩ | ⟨c, t, rfl, rfl, rfl⟩
          · go_wp2_with fail
            go_ret2
            rw [HP.out]
            exact ⟨rfl, k, HB.out, ht⟩
          · have hdig : ¬ (48 ≤ c ∧ c ≤ 57) := fun hdig => by
              rw [digs_dig t m hdig] at hstay
              have := digs_le t (min (10 * m + (c - 48)) 2147483648)
              simp at hstay
              omega
            by_cases g1 : 48 ≤ c
            · have g2 : (48 : Int) ≤ (c : Int) := by omega
              have g3 : ¬ (c : Int) ≤ 57 := by omega
              clear hstay
              go_wp2_with fail
              go_ret2
              rw [HP.out]
              exact ⟨rfl, k, HB.out, ht⟩
            · have g2 : ¬ (48 : Int) ≤ (c : Int) := by omega
              clear hstay
              go_wp2_with fail
              go_ret2
              rw [HP.out]
              exact ⟨rfl, k, HB.out, ht⟩
        · have f1 : ¬ (2147483647 : Int) < (m : Int) := by omega
          have HP : Hid (pnumber r = .ok m r') := Lib.hid (by rw [HO.out, if_neg HS.out, if_neg hbig])
          rcases hsn with ⟨rfl, rfl, rfl⟩ | ⟨c, t, rfl, rfl, rfl⟩
          · go_wp2_with fail
            go_ret2
            rw [HP.out]
            exact ⟨rfl, i, hA, hti⟩
          · have hdig : ¬ (48 ≤ c ∧ c ≤ 57) := fun hdig => by
              rw [digs_dig t m hdig] at hstay
              have := digs_le t (min (10 * m + (c - 48)) 2147483648)
              simp at hstay
              omega
            by_cases g1 : 48 ≤ c
            · have g2 : (48 : Int) ≤ (c : Int) := by omega
              have g3 : ¬ (c : Int) ≤ 57 := by omega
              clear hstay
              go_wp2_with fail
              go_ret2
              rw [HP.out]
              exact ⟨rfl, i, hA, hti⟩
            · have g2 : ¬ (48 : Int) ≤ (c : Int) := by omega
              clear hstay
              go_wp2_with fail
              go_ret2
              rw [HP.out]
              exact ⟨rfl, i, hA, hti⟩
    · -- one more digit
      rcases hsn with ⟨rfl, rfl, rfl⟩ | ⟨c, t, rfl, rfl, rfl⟩
      · exact absurd (digs_nil m) hstop
      · by_cases hdig : 48 ≤ c ∧ c ≤ 57
        · have d1 : (48 : Int) ≤ (c : Int) := by omega
          have d2 : (c : Int) ≤ 57 := by omega
          have q4 := hti.lt
          have hd2 := digs_dig t m hdig
          rw [hd2] at hd
          have HD := Lib.hid hd
          have HA := Lib.hid (hA.step (i + 1) (v := .int .i64 ((i : Int) + 1)) (by go_num))
          clear hd hd2 hstop hA
          by_cases hle : 10 * m + (c - 48) ≤ 2147483648
          · have e1 : 10 * (m : Int) + ((c : Int) - 48) ≤ 2147483648 := by omega
            have HM := Lib.hid (min_lo hdig.1 hdig.2 hle)
            go_wp2_with fail
            go_at_call 37
            refine (next_any _ rb (i + 1) t s op HA.out.1 hti.tail).mono ?_
            rintro e w2 ⟨b2, ok2, hseen2, rfl, hB⟩
            go_wp2_with fail
            go_roundw
            case rel => exact ⟨i + 1, _, t, by rw [HM.out], by omega, HA.out.trans hB, hti.tail, HD.out, hseen2⟩
            case measure =>
              have := posOf_rd (HA.out.trans hB).1
              have e2 : posOf rb wr = i := by unfold posOf; rw [q1]; simp
              rw [this, e2]
              omega
          · have e1 : ¬ 10 * (m : Int) + ((c : Int) - 48) ≤ 2147483648 := by omega
            have HM := Lib.hid (min_hi hle)
            go_wp2_with fail
            go_at_call 37
            refine (next_any _ rb (i + 1) t s op HA.out.1 hti.tail).mono ?_
            rintro e w2 ⟨b2, ok2, hseen2, rfl, hB⟩
            go_wp2_with fail
            go_roundw
            case rel => exact ⟨i + 1, _, t, by rw [HM.out], by omega, HA.out.trans hB, hti.tail, HD.out, hseen2⟩
            case measure =>
              have := posOf_rd (HA.out.trans hB).1
              have e2 : posOf rb wr = i := by unfold posOf; rw [q1]; simp
              rw [this, e2]
              omega
        · exact absurd (digs_not t m hdig) hstop

end Go.Proofs.YtpibkalbnjgpaaaDoor
