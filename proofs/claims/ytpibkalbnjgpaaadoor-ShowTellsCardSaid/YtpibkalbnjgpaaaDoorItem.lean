/- What the reader's call that reads an item of a class comes to: a contract.
   Conditions: the reader's cells are as 'Rd' says, and the text is no longer than memory may be. -/
import Derived.Test.YtpibkalbnjgpaaaDoorTimes
namespace Go.Proofs.YtpibkalbnjgpaaaDoor
open Go.RowKit

def clsV (S : Nat → Bool) : Value := .agg #[.int .u64 (canon S 0 : Nat), .int .u64 (canon S 1 : Nat), .int .u64 (canon S 2 : Nat), .int .u64 (canon S 3 : Nat)]
def clsOk (S : Nat → Bool) : Value := .tuple #[.agg #[.int .u64 (canon S 0 : Nat), .int .u64 (canon S 1 : Nat), .int .u64 (canon S 2 : Nat), .int .u64 (canon S 3 : Nat)], .int .i64 0]
def clsEr (c : Nat) : Value := .tuple #[.agg #[.int .u64 0, .int .u64 0, .int .u64 0, .int .u64 0], .int .i64 c]
attribute [local go_sem] byteOk byteEr clsOk clsEr

theorem Af.store {a b : World} {rb k : Nat} {s : ByteArray} {op : Value} (h : Af a rb s op k b) {p : Addr} (hp : a.heap.size ≤ p.block) (hr : rb < a.heap.size) (v : Value) : Af a rb s op k (b.setCell p v) :=
  h.keep ((Chg.refl (fun x => x = p.block) b).setCell (fun _ => rfl) v) (fun x hx e => by omega) hr
/-- What a block that isn't the reader's holds is kept. -/
theorem Af.cells {a b : World} {rb k : Nat} {s : ByteArray} {op : Value} (h : Af a rb s op k b) {B : Nat} (hB : B < a.heap.size) (hne : B ≠ rb) : (∀ o, b.cell? ⟨B, o, none⟩ = a.cell? ⟨B, o, none⟩) ∧ (∀ o, b.frozen? ⟨B, o, none⟩ = a.frozen? ⟨B, o, none⟩) :=
  ⟨fun o => h.2.cell o hB hne, fun o => h.2.frozen o hB hne⟩
theorem between_one (b : Nat) : inFirst 1 (fun _ => b) = between b b := by
  funext x
  rw [Bool.eq_iff_iff, inFirst_iff, between_iff]
  constructor
  · rintro ⟨_, _, h⟩; omega
  · intro h; exact ⟨0, by decide, by omega⟩
theorem of_one (B b : Nat) (w : World) (hblt : B < w.heap.size) (hcell : w.cell? ⟨B, 0, none⟩ = some (.int .u8 b)) (hb : b < 256) :
    Calls Tryd.prog 72 #[.slice (some ⟨B, 0, none⟩) 1 1] w (GivesClass (between b b) w) := by
  rw [← between_one]
  exact of_class B 0 1 1 (fun _ => b) w (fun _ => hblt) (fun t ht => by
    have e : t = 0 := by omega
    subst e
    exact hcell) (fun _ => hb) (by decide)
theorem pitem_er1 {r r' : List Nat} {c : Nat} (h : pplain itemMarks r = .er r' c) : pitem r = .er r' c := by unfold pitem; rw [h]
theorem pitem_one {r r1 : List Nat} {lo : Nat} (h : pplain itemMarks r = .ok lo r1) (h2 : r1.head? ≠ some 45) : pitem r = .ok (between lo lo) r1 := by
  unfold pitem; rw [h]; simp only
  split
  · simp at h2
  · rfl
theorem pitem_two {r r2 : List Nat} {lo : Nat} (h : pplain itemMarks r = .ok lo (45 :: r2)) : pitem r = match pplain itemMarks r2 with
    | .er r' c => .er r' c
    | .ok hi r3 => if lo > hi then .er (45 :: r2) 2 else .ok (between lo hi) r3 := by
  unfold pitem; rw [h]; rfl
theorem phex_byte {r : List Nat} {a : Nat} {r' : List Nat} (h : phex r = .ok a r') : a < 256 := by
  match r with
  | [] => cases h
  | [x] => simp only [phex] at h; split at h <;> cases h
  | x :: y :: r =>
    simp only [phex] at h
    split at h
    · split at h
      · injection h with h _
        have := hexOf_lt x
        have := hexOf_lt y
        omega
      · cases h
    · cases h
theorem pplain_byte {but r : List Nat} {a : Nat} {r' : List Nat} {s : ByteArray} {k : Nat} (ht : Tl s k r) (h : pplain but r = .ok a r') : a < 256 := by
  cases r with
  | nil => cases h
  | cons b r =>
    have hb := ht.byte
    simp only [pplain] at h
    split at h
    · cases h
    · split at h
      · cases r with
        | nil => cases h
        | cons c r =>
          have hc := ht.tail.byte
          simp only [pesc] at h
          split at h
          · exact phex_byte h
          · split at h
            · injection h with h _; omega
            · split at h
              · injection h with h _; omega
              · split at h
                · injection h with h _; omega
                · cases h
      · injection h with h _; omega
theorem pplain_two {but r r' : List Nat} {c : Nat} (h : pplain but r = .er r' c) : c = 2 := by
  cases r with
  | nil => injection h with _ h; omega
  | cons b r =>
    simp only [pplain] at h
    split at h
    · injection h with _ h; omega
    · split at h
      · cases r with
        | nil => injection h with _ h; omega
        | cons x r =>
          simp only [pesc] at h
          split at h
          · match r with
            | [] => injection h with _ h; omega
            | [y] => simp only [phex] at h; split at h <;> (injection h with _ h; omega)
            | y :: z :: r =>
              simp only [phex] at h
              split at h
              · split at h
                · cases h
                · injection h with _ h; omega
              · injection h with _ h; omega
          · split at h
            · cases h
            · split at h
              · cases h
              · split at h
                · cases h
                · injection h with _ h; omega
      · cases h

set_option maxHeartbeats 1000000 in
set_option maxRecDepth 100000 in
theorem item_any (w : World) (rb k : Nat) (r : List Nat) (s : ByteArray) (op : Value) (h : Rd w rb s k op) (ht : Tl s k r) (hs : s.size ≤ maxLen) :
    Calls Tryd.prog 82 #[.pointer (some ⟨rb, 0, none⟩)] w (Gives (pitem r) clsOk clsEr w rb s op) := by
  have hs' := Lib.hid hs
  unfold maxLen at hs
  have hrb := h.lt
  have HA := Lib.hid ((Af.refl h).alloc (.cells #[.int .u64 0, .int .u64 0, .int .u64 0, .int .u64 0] 24))
  have hne : w.heap.size ≠ rb := by omega
  have hsz : w.heap.size < (w.alloc (.cells #[.int .u64 0, .int .u64 0, .int .u64 0, .int .u64 0] 24)).heap.size := by simp
  have HZ := Lib.hid hsz
  have HN := Lib.hid hne
  clear hsz hne
  have hP := plain_any (w.alloc (.cells #[.int .u64 0, .int .u64 0, .int .u64 0, .int .u64 0] 24)) rb k r s { data := #[93, 45, 94] } op HA.out.1 ht hs'.out
  rw [txt_itemMarks] at hP
  have HP := Lib.hid hP
  clear hP
  go_enter Tryd.func82, Tryd.ntmps82
  go_wp2_with fail
  go_at_call 71
  refine HP.out.mono ?_
  clear HP
  intro e w1 hG
  revert hG
  cases hx : pplain itemMarks r with
  | er r' c =>
    have HX := Lib.hid (pitem_er1 hx)
    have hc := pplain_two hx
    subst hc
    clear hx
    rintro ⟨rfl, k1, hA1, ht1⟩
    obtain ⟨q1, q2⟩ := hA1.cells HZ.out HN.out
    go_wp2_with fail
    refine bodyPost_ret (v := clsEr 2) (by simp [clsEr, results, Tryd.results82, go_sem, q1]) rfl ?_
    rw [HX.out]
    exact ⟨rfl, k1, ((((HA.out.trans hA1).store (by simp) hrb _).store (by simp) hrb _).store (by simp) hrb _).store (by simp) hrb _, ht1⟩
  | ok lo r1 =>
    have hlo := pplain_byte ht hx
    rintro ⟨rfl, k1, hA1, ht1⟩
    have p1 := hA1.1.pos
    have hs1 := hA1.2.size
    by_cases h1 : r1.head? = some 45
    · cases r1 with
      | nil => simp at h1
      | cons b r2 =>
        simp at h1
        subst h1
        have HX := Lib.hid (pitem_two hx)
        clear hx
        go_wp2_with fail
        go_at_call 81
        refine (take_yes _ rb k1 45 r2 s op hA1.1 ht1 hs'.out).mono ?_
        rintro e w2 ⟨rfl, hA2⟩
        have hA3 := hA1.trans hA2
        have hP := plain_any w2 rb (k1 + 1) r2 s { data := #[93, 45, 94] } op hA2.1 ht1.tail hs'.out
        rw [txt_itemMarks] at hP
        have HP := Lib.hid hP
        clear hP hA1 hA2 p1
        go_wp2_with fail
        go_at_call 71
        refine HP.out.mono ?_
        clear HP
        intro e w4 hG
        have hG2 := Gives.mono' hA3 hG
        clear hG hA3
        revert hG2
        cases hy : pplain itemMarks r2 with
        | er r' c =>
          have hc := pplain_two hy
          subst hc
          have HY := Lib.hid hy
          clear hy
          rintro ⟨rfl, k4, hA4, ht4⟩
          obtain ⟨q1, q2⟩ := hA4.cells HZ.out HN.out
          go_wp2_with fail
          refine bodyPost_ret (v := clsEr 2) (by simp [clsEr, results, Tryd.results82, go_sem, q1]) rfl ?_
          rw [HX.out, HY.out]
          exact ⟨rfl, k4, ((((HA.out.trans hA4).store (by simp) hrb _).store (by simp) hrb _).store (by simp) hrb _).store (by simp) hrb _, ht4⟩
        | ok hi r3 =>
          have hhi := pplain_byte ht1.tail hy
          have HY := Lib.hid hy
          clear hy
          rintro ⟨rfl, k4, hA4, ht4⟩
          obtain ⟨q1, q2⟩ := hA4.cells HZ.out HN.out
          by_cases hlt : hi < lo
          · have g1 : (hi : Int) < (lo : Int) := by omega
            have p5 := hA4.1.pos
            have p6 := hA4.1.frz 1
            have p7 := hA4.1.lt
            have HB := Lib.hid ((HA.out.trans hA4).step k1 (v := .int .i64 (k1 : Int)) rfl)
            go_wp2_with fail
            refine bodyPost_ret (v := clsEr 2) (by simp [clsEr, results, Tryd.results82, go_sem, q1]) rfl ?_
            rw [HX.out, HY.out]
            simp only
            rw [if_pos hlt]
            exact ⟨rfl, k1, (((HB.out.store (by simp) hrb _).store (by simp) hrb _).store (by simp) hrb _).store (by simp) hrb _, ht1⟩
          · have g1 : ¬ (hi : Int) < (lo : Int) := by omega
            have HQ := Lib.hid (And.intro q1 q2)
            clear q1 q2
            go_wp2_with fail
            go_at_call 60
            refine (range_class lo hi _ hlo hhi).mono ?_
            rintro e w5 ⟨rfl, hb5⟩
            have hA5 := hA4.keep (Chg.of_below (R := fun _ => False) hb5) (fun _ _ h => h) (by simp; omega)
            obtain ⟨q1, q2⟩ := hA5.cells HZ.out HN.out
            go_wp2_with fail
            refine bodyPost_ret (v := clsOk (between lo hi)) (by simp [clsOk, results, Tryd.results82, go_sem, q1]) rfl ?_
            rw [HX.out, HY.out]
            simp only
            rw [if_neg hlt]
            exact ⟨rfl, k4, ((((HA.out.trans hA5).store (by simp) hrb _).store (by simp) hrb _).store (by simp) hrb _).store (by simp) hrb _, ht4⟩
    · have HX := Lib.hid (pitem_one hx h1)
      have HK := Lib.hid (take_out _ rb k1 45 r1 s op hA1.1 ht1 h1)
      clear hx h1
      go_wp2_with fail
      go_at_call 81
      refine HK.out.mono ?_
      rintro e w2 ⟨rfl, hA2⟩
      have hA3 := hA1.trans hA2
      clear hA1 hA2
      go_wp2_with fail
      go_at_call 72
      refine (of_one _ lo _ (by simp) (by simp) hlo).mono ?_
      rintro e w3 ⟨rfl, hb3⟩
      have hA5 := (hA3.alloc _).keep (Chg.of_below (R := fun _ => False) hb3) (fun _ _ h => h) (by simp; omega)
      obtain ⟨q1, q2⟩ := hA5.cells HZ.out HN.out
      go_wp2_with fail
      refine bodyPost_ret (v := clsOk (between lo lo)) (by simp [clsOk, results, Tryd.results82, go_sem, q1]) rfl ?_
      rw [HX.out]
      exact ⟨rfl, k1, ((((HA.out.trans hA5).store (by simp) hrb _).store (by simp) hrb _).store (by simp) hrb _).store (by simp) hrb _, ht1⟩

end Go.Proofs.YtpibkalbnjgpaaaDoor
