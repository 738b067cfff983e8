/- What the reader's call that reads the bytes of an atom comes to: a contract.
   Conditions: the reader's cells are as 'Rd' says, and the text is no longer than memory may be. -/
import Derived.Test.YtpibkalbnjgpaaaDoorItems
namespace Go.Proofs.YtpibkalbnjgpaaaDoor
open Go.RowKit
attribute [local go_sem] byteOk byteEr clsOk clsEr

theorem pset_dot (r : List Nat) : pset (46 :: r) = .ok (fun _ => true) r := rfl
theorem pset_brack (r : List Nat) : pset (91 :: r) = pbrack r := by
  unfold pbrack
  cases r with
  | nil => rfl
  | cons b r =>
    by_cases h : b = 94
    · subst h; rfl
    · have : (b :: r).head? ≠ some 94 := by simp [h]
      rw [if_neg this]
      unfold pset
      split
      · rename_i e; simp at e
      · rename_i e; simp at e; exact absurd e.1 h
      · rename_i e; simp at e; subst e; rfl
      · rename_i e; exact absurd rfl (e _)
theorem pset_plain {b : Nat} {r : List Nat} (h1 : b ≠ 46) (h2 : b ≠ 91) : pset (b :: r) = match pplain marks (b :: r) with
    | .ok a r' => .ok (between a a) r'
    | .er r' c => .er r' c := by
  unfold pset
  split
  · rename_i e; injection e with e _; exact absurd e h1
  · rename_i e; injection e with e _; exact absurd e h2
  · rename_i e; injection e with e _; exact absurd e h2
  · rfl
theorem pitems_er_two : ∀ (n : Nat) {first : Bool} {S : Nat → Bool} {r r' : List Nat} {c : Nat}, r.length ≤ n → pitems first S r = .er r' c → c = 2
  | n, first, S, r, r', c, hn, h => by
    by_cases hend : first = false ∧ r.head? = some 93
    · rw [pitems, if_pos hend] at h; cases h
    · rw [pitems_more hend] at h
      split at h
      · rename_i hx; injection h with _ h; have := pitem_er_two hx; omega
      · rename_i hx
        have hle := pitem_le hx
        match n, hn with
        | 0, hn => omega
        | n + 1, hn => exact pitems_er_two n (by omega) h
theorem pbrack_er_two {r r' : List Nat} {c : Nat} (h : pbrack r = .er r' c) : c = 2 := by
  unfold pbrack at h
  split at h
  · split at h
    · cases h
    · rename_i hx; injection h with _ h; have := pitems_er_two _ (Nat.le_refl _) hx; omega
  · exact pitems_er_two _ (Nat.le_refl _) h
theorem pset_er_two {r r' : List Nat} {c : Nat} (h : pset r = .er r' c) : c = 2 := by
  cases r with
  | nil => unfold pset pplain at h; injection h with _ h; omega
  | cons b r =>
    by_cases h1 : b = 46
    · subst h1; rw [pset_dot] at h; cases h
    · by_cases h2 : b = 91
      · subst h2; rw [pset_brack] at h; exact pbrack_er_two h
      · rw [pset_plain h1 h2] at h
        split at h
        · cases h
        · rename_i hx; injection h with _ h; have := pplain_two hx; omega

set_option maxHeartbeats 1000000 in
set_option maxRecDepth 100000 in
theorem set_any (w : World) (rb k b : Nat) (r : List Nat) (s : ByteArray) (op : Value) (h : Rd w rb s k op) (ht : Tl s k (b :: r)) (hs : s.size ≤ maxLen) :
    Calls Tryd.prog 63 #[.pointer (some ⟨rb, 0, none⟩), .int .u8 b] w (Gives (pset (b :: r)) clsOk clsEr w rb s op) := by
  have hs' := Lib.hid hs
  unfold maxLen at hs
  have hrb := h.lt
  have hlt := ht.lt
  have hne : w.heap.size ≠ rb := by omega
  have HN := Lib.hid hne
  clear hne
  by_cases h12 : b = 46 ∨ b = 91
  · have p3 := h.pos
    have p4 := h.frz 1
    have hA1 := ((Af.refl h).step (k + 1) (v := .int .i64 ((k : Int) + 1)) (by go_num)).alloc (.cells #[.int .u64 0, .int .u64 0, .int .u64 0, .int .u64 0] 24)
    have c0 := cells_zero (w.setCell ⟨rb, 1, none⟩ (.int .i64 ((k : Int) + 1)))
    have f0 := free_zero (w.setCell ⟨rb, 1, none⟩ (.int .i64 ((k : Int) + 1)))
    have hz : (w.setCell ⟨rb, 1, none⟩ (.int .i64 ((k : Int) + 1))).heap.size = w.heap.size := by simp
    have hz1 : w.heap.size < ((w.setCell ⟨rb, 1, none⟩ (.int .i64 ((k : Int) + 1))).alloc (.cells #[.int .u64 0, .int .u64 0, .int .u64 0, .int .u64 0] 24)).heap.size := by simp
    rw [hz] at c0 f0
    have HA := Lib.hid hA1
    have HC := Lib.hid (And.intro c0 f0)
    have HZ := Lib.hid hz1
    clear hA1 c0 f0 hz hz1
    rcases h12 with rfl | rfl
    · go_enter Tryd.func63, Tryd.ntmps63
      go_wp2_with fail
      go_at_call 59
      refine (not_none _).mono ?_
      rintro e w2 ⟨rfl, hb2⟩
      have hA2 := HA.out.keep (Chg.of_below (R := fun _ => False) hb2) (fun _ _ h => h) hrb
      have c2 := HC.out.1.below hb2
      have f2 := HC.out.2.below HZ.out hb2
      obtain ⟨d0, d1, d2, d3⟩ := c2.four
      have g0 := f2 0 (by decide)
      have g1 := f2 1 (by decide)
      have g2 := f2 2 (by decide)
      have g3 := f2 3 (by decide)
      go_wp2_with fail
      refine bodyPost_ret (v := clsOk (fun _ => true)) (by simp [clsOk, results, Tryd.results63, go_sem, d0, d1, d2, d3]) rfl ?_
      rw [pset_dot]
      exact ⟨rfl, k + 1, store4_af hA2 (Nat.le_refl _) hrb (canon (fun _ => true)), ht.tail⟩
    · go_enter Tryd.func63, Tryd.ntmps63
      go_wp2_with fail
      go_at_call 70
      refine (items_any _ rb (k + 1) r s op HA.out.1 ht.tail hs'.out).mono ?_
      intro e w2 hG
      revert hG
      cases hx : pbrack r with
      | er r' c =>
        have hc := pbrack_er_two hx
        subst hc
        rw [← pset_brack] at hx
        have HX := Lib.hid hx
        clear hx
        rintro ⟨rfl, k2, hA2, ht2⟩
        have c2 := HC.out.1.keep hA2.2 HN.out
        have f2 := HC.out.2.keep HZ.out hA2.2 HN.out
        obtain ⟨d0, d1, d2, d3⟩ := c2.four
        have g0 := f2 0 (by decide)
        have g1 := f2 1 (by decide)
        have g2 := f2 2 (by decide)
        have g3 := f2 3 (by decide)
        go_wp2_with fail
        refine bodyPost_ret (v := clsEr 2) (by simp [clsEr, results, Tryd.results63, go_sem, d0, d1, d2, d3]) rfl ?_
        rw [HX.out]
        exact ⟨rfl, k2, store4_af (HA.out.trans hA2) (Nat.le_refl _) hrb zeros, ht2⟩
      | ok S r' =>
        rw [← pset_brack] at hx
        have HX := Lib.hid hx
        clear hx
        rintro ⟨rfl, k2, hA2, ht2⟩
        have c2 := HC.out.1.keep hA2.2 HN.out
        have f2 := HC.out.2.keep HZ.out hA2.2 HN.out
        obtain ⟨d0, d1, d2, d3⟩ := c2.four
        have g0 := f2 0 (by decide)
        have g1 := f2 1 (by decide)
        have g2 := f2 2 (by decide)
        have g3 := f2 3 (by decide)
        go_wp2_with fail
        refine bodyPost_ret (v := clsOk S) (by simp [clsOk, results, Tryd.results63, go_sem, d0, d1, d2, d3]) rfl ?_
        rw [HX.out]
        exact ⟨rfl, k2, store4_af (HA.out.trans hA2) (Nat.le_refl _) hrb (canon S), ht2⟩
  · have h1 : b ≠ 46 := fun e => h12 (.inl e)
    have h2 : b ≠ 91 := fun e => h12 (.inr e)
    have HX := Lib.hid (pset_plain (r := r) h1 h2)
    have e1 : ((b : Int) == 46) = false := by simp; omega
    have e2 : ((b : Int) == 91) = false := by simp; omega
    clear h12 h1 h2
    have hA1 := (Af.refl h).alloc (.cells #[.int .u64 0, .int .u64 0, .int .u64 0, .int .u64 0] 24)
    have HC := Lib.hid (And.intro (cells_zero w) (free_zero w))
    have HA := Lib.hid hA1
    have HZ := Lib.hid (show w.heap.size < (w.alloc (.cells #[.int .u64 0, .int .u64 0, .int .u64 0, .int .u64 0] 24)).heap.size by simp)
    have hP := plain_any (w.alloc (.cells #[.int .u64 0, .int .u64 0, .int .u64 0, .int .u64 0] 24)) rb k (b :: r) s { data := #[40, 41, 91, 93, 123, 125, 124, 42, 43, 63, 46] } op hA1.1 ht hs'.out
    rw [txt_marks] at hP
    have HP := Lib.hid hP
    clear hP hA1
    go_enter Tryd.func63, Tryd.ntmps63
    go_wp2_with fail
    go_at_call 71
    refine HP.out.mono ?_
    clear HP
    intro e w2 hG
    revert hG
    cases hx : pplain marks (b :: r) with
    | er r' c =>
      have hc := pplain_two hx
      subst hc
      have HY := Lib.hid hx
      clear hx
      rintro ⟨rfl, k2, hA2, ht2⟩
      have c2 := HC.out.1.keep hA2.2 HN.out
      have f2 := HC.out.2.keep HZ.out hA2.2 HN.out
      obtain ⟨d0, d1, d2, d3⟩ := c2.four
      have g0 := f2 0 (by decide)
      have g1 := f2 1 (by decide)
      have g2 := f2 2 (by decide)
      have g3 := f2 3 (by decide)
      go_wp2_with fail
      refine bodyPost_ret (v := clsEr 2) (by simp [clsEr, results, Tryd.results63, go_sem, d0, d1, d2, d3]) rfl ?_
      rw [HX.out, HY.out]
      exact ⟨rfl, k2, store4_af (HA.out.trans hA2) (Nat.le_refl _) hrb zeros, ht2⟩
    | ok a r' =>
      have ha := pplain_byte ht hx
      have HY := Lib.hid hx
      clear hx
      rintro ⟨rfl, k2, hA2, ht2⟩
      have c2 := HC.out.1.keep hA2.2 HN.out
      have f2 := HC.out.2.keep HZ.out hA2.2 HN.out
      go_wp2_with fail
      go_at_call 72
      refine (of_one _ a _ (by simp) (by simp) ha).mono ?_
      rintro e w3 ⟨rfl, hb3⟩
      have hbb : Below w2.heap.size w2 w3 := ((Below.refl _ _).alloc (Nat.le_refl _) _).trans (hb3.mono (by simp))
      have c3 := c2.below hbb
      have f3 := f2.below c2.lt hbb
      have hA3 := (HA.out.trans hA2).keep (Chg.of_below (R := fun _ => False) hbb) (fun _ _ h => h) hrb
      obtain ⟨d0, d1, d2, d3⟩ := c3.four
      have g0 := f3 0 (by decide)
      have g1 := f3 1 (by decide)
      have g2 := f3 2 (by decide)
      have g3 := f3 3 (by decide)
      go_wp2_with fail
      refine bodyPost_ret (v := clsOk (between a a)) (by simp [clsOk, results, Tryd.results63, go_sem, d0, d1, d2, d3]) rfl ?_
      rw [HX.out, HY.out]
      exact ⟨rfl, k2, store4_af hA3 (Nat.le_refl _) hrb (canon (between a a)), ht2⟩

end Go.Proofs.YtpibkalbnjgpaaaDoor
