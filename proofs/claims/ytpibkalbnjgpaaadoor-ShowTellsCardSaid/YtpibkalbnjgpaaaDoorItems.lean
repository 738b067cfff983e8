/- What the reader's calls that read the bytes of an atom come to: contracts.
   Conditions: the reader's cells are as 'Rd' says, and the text is no longer than memory may be. -/
import Derived.Test.YtpibkalbnjgpaaaDoorItem
namespace Go.Proofs.YtpibkalbnjgpaaaDoor
open Go.RowKit
attribute [local go_sem] byteOk byteEr clsOk clsEr

theorem canon_false (j : Nat) (h : j < 4) : canon (fun _ => false) j = 0 := by
  have e := same_canon (C := zeros) (S := fun _ => false) (fun _ => by unfold zeros; omega) (fun b _ => by unfold hasB zeros; simp)
  match j, h with
  | 0, _ => exact e.1.symm
  | 1, _ => exact e.2.1.symm
  | 2, _ => exact e.2.2.1.symm
  | 3, _ => exact e.2.2.2.symm
theorem or_class (S T : Nat → Bool) (w : World) : Calls Tryd.prog 83 #[.agg #[.int .u64 (canon S 0 : Nat), .int .u64 (canon S 1 : Nat), .int .u64 (canon S 2 : Nat), .int .u64 (canon S 3 : Nat)], .agg #[.int .u64 (canon T 0 : Nat), .int .u64 (canon T 1 : Nat), .int .u64 (canon T 2 : Nat), .int .u64 (canon T 3 : Nat)]] w (GivesClass (fun x => S x || T x) w) := by
  refine (or_any (canon S) (canon T) w (Cl_canon S) (Cl_canon T)).mono fun e w' ⟨he, hb⟩ => ⟨?_, hb⟩
  have h := same_canon (C := cOr (canon S) (canon T)) (S := fun x => S x || T x) (Cl_or (Cl_canon S) (Cl_canon T)) (fun b _ => by rw [hasB_or, hasB_canon, hasB_canon])
  rw [he, h.1, h.2.1, h.2.2.1, h.2.2.2]
theorem not_class (S : Nat → Bool) (w : World) : Calls Tryd.prog 59 #[.agg #[.int .u64 (canon S 0 : Nat), .int .u64 (canon S 1 : Nat), .int .u64 (canon S 2 : Nat), .int .u64 (canon S 3 : Nat)]] w (GivesClass (fun x => !S x) w) := by
  refine (not_any (canon S) w (Cl_canon S)).mono fun e w' ⟨he, hb⟩ => ⟨?_, hb⟩
  have h := same_canon (C := cNot (canon S)) (S := fun x => !S x) (Cl_not (Cl_canon S)) (fun b _ => by rw [hasB_not, hasB_canon])
  rw [he, h.1, h.2.1, h.2.2.1, h.2.2.2]
theorem not_none (w : World) : Calls Tryd.prog 59 #[.agg #[.int .u64 0, .int .u64 0, .int .u64 0, .int .u64 0]] w (GivesClass (fun _ => true) w) := by
  have h := not_class (fun _ => false) w
  rw [canon_false 0 (by decide), canon_false 1 (by decide), canon_false 2 (by decide), canon_false 3 (by decide)] at h
  exact h

def pbrack (r : List Nat) : Out (Nat → Bool) := if r.head? = some 94 then (match pitems true (fun _ => false) r.tail with
    | .ok S r' => .ok (fun x => !S x) r'
    | .er r' c => .er r' c) else pitems true (fun _ => false) r
theorem pitems_end (S : Nat → Bool) (r : List Nat) : pitems false S (93 :: r) = .ok S r := by rw [pitems, if_pos ⟨rfl, rfl⟩]; rfl
theorem pitems_more {first : Bool} {S : Nat → Bool} {r : List Nat} (h : ¬ (first = false ∧ r.head? = some 93)) : pitems first S r = match pitem r with
    | .er r' c => .er r' c
    | .ok T r' => pitems false (fun x => S x || T x) r' := by
  rw [pitems, if_neg h]
  cases pitem r <;> rfl
theorem Cells.keep {w w' : World} {b : Nat} {C : Nat → Nat} {R : Nat → Prop} (h : Cells w b C) (hc : Chg R w w') (hn : ¬ R b) : Cells w' b C := fun j hj => (hc.cell j h.lt hn).trans (h j hj)
theorem Free.keep {w w' : World} {b : Nat} {R : Nat → Prop} (h : Free w b) (hl : b < w.heap.size) (hc : Chg R w w') (hn : ¬ R b) : Free w' b := fun j hj => (hc.frozen j hl hn).trans (h j hj)
theorem store4_af {a b : World} {rb k : Nat} {s : ByteArray} {op : Value} (h : Af a rb s op k b) {B : Nat} (hp : a.heap.size ≤ B) (hr : rb < a.heap.size) (C : Nat → Nat) : Af a rb s op k (store4 b B C) :=
  (((h.store hp hr _).store hp hr _).store hp hr _).store hp hr _
theorem Cells.to {w : World} {b : Nat} {S : Nat → Bool} (h : Cells w b zeros) (hS : ∀ x, S x = false) : Cells w b (canon S) := fun j hj => by
  have : S = fun _ => false := funext hS
  rw [h j hj, this, canon_false j hj]
  rfl

theorem pitem_er_two {r r' : List Nat} {c : Nat} (h : pitem r = .er r' c) : c = 2 := by
  unfold pitem at h
  split at h
  · rename_i hx; injection h with _ h; have := pplain_two hx; omega
  · split at h
    · split at h
      · rename_i hx; injection h with _ h; have := pplain_two hx; omega
      · split at h
        · injection h with _ h; omega
        · cases h
    · cases h

set_option maxHeartbeats 2000000 in
set_option maxRecDepth 100000 in
theorem items_any (w : World) (rb k : Nat) (r : List Nat) (s : ByteArray) (op : Value) (h : Rd w rb s k op) (ht : Tl s k r) (hs : s.size ≤ maxLen) :
    Calls Tryd.prog 70 #[.pointer (some ⟨rb, 0, none⟩)] w (Gives (pbrack r) clsOk clsEr w rb s op) := by
  have hs' := Lib.hid hs
  have hrb := h.lt
  have key : ∃ (o : Bool) (k0 : Nat) (r0 : List Nat), Tl s k0 r0 ∧ pbrack r = (if o = true then (match pitems true (fun _ => false) r0 with
      | .ok S r' => .ok (fun x => !S x) r'
      | .er r' c => .er r' c) else pitems true (fun _ => false) r0) ∧ ∀ w1, Rd w1 rb s k op → Calls Tryd.prog 81 #[.pointer (some ⟨rb, 0, none⟩), .int .u8 (94 : Nat)] w1 fun e w' => e = .returned (.bool o) ∧ Af w1 rb s op k0 w' := by
    by_cases h94 : r.head? = some 94
    · cases r with
      | nil => simp at h94
      | cons b r =>
        simp at h94
        subst h94
        exact ⟨true, k + 1, r, ht.tail, by simp [pbrack], fun w1 h1 => take_yes w1 rb k 94 r s op h1 ht hs⟩
    · exact ⟨false, k, r, ht, by simp [pbrack, h94], fun w1 h1 => take_out w1 rb k 94 r s op h1 ht h94⟩
  obtain ⟨o, k0, r0, ht0, hpb, hk⟩ := key
  have HK := Lib.hid hk
  have HPB := Lib.hid hpb
  unfold maxLen at hs
  clear hk hpb
  have hA0 := (Af.refl h).alloc (.cells #[.int .u64 0, .int .u64 0, .int .u64 0, .int .u64 0] 24)
  have HA := Lib.hid hA0
  have hne : w.heap.size ≠ rb := by omega
  have c0 := cells_zero w
  have f0 := free_zero w
  obtain ⟨w0, hw0⟩ : ∃ w0, w.alloc (.cells #[.int .u64 0, .int .u64 0, .int .u64 0, .int .u64 0] 24) = w0 := ⟨_, rfl⟩
  have hz0 : w0.heap.size = w.heap.size + 1 := by rw [← hw0]; simp
  have c1 := cells_zero w0
  have f1 := free_zero w0
  rw [hw0] at c0 f0
  have hB0 := Lib.hid (And.intro c0 f0)
  have hI : Af w0 rb s op k (w0.alloc (.cells #[.int .u64 0, .int .u64 0, .int .u64 0, .int .u64 0] 24)) := (Af.refl (by rw [← hw0]; exact hA0.1)).alloc _
  have hB1 := Lib.hid (And.intro c1 f1)
  have HI := Lib.hid hI
  have HW := Lib.hid hw0
  have HZ := Lib.hid hz0
  have HN := Lib.hid hne
  clear hA0 hne c0 f0 c1 f1 hI hz0
  go_enter Tryd.func70, Tryd.ntmps70
  go_wp2_with fail
  clear hw0
  go_at_call 81
  refine (HK.out _ HI.out.1).mono ?_
  clear HK
  rintro e w2 ⟨rfl, hA2⟩
  have hA3 := HI.out.trans hA2
  have hlt1 : w0.heap.size < (w0.alloc (.cells #[.int .u64 0, .int .u64 0, .int .u64 0, .int .u64 0] 24)).heap.size := by simp
  have hr1 : w0.heap.size ≠ rb := by have := HZ.out; omega
  have cs := (hB1.out.1.keep hA2.2 hr1).to (S := fun _ => false) (fun _ => rfl)
  have fs := hB1.out.2.keep hlt1 hA2.2 hr1
  clear hA2
  go_wp2_with fail
  go_loopw [6] (fun f wr => ∃ (i : Nat) (S : Nat → Bool) (r' : List Nat) (fb : Bool), f = .bool fb ∧ Af w0 rb s op i wr ∧ Tl s i r' ∧ pitems fb S r' = pitems true (fun _ => false) r0 ∧ Cells wr w0.heap.size (canon S) ∧ Free wr w0.heap.size) (fun _ wr => s.size - posOf rb wr)
  case atStart => exact ⟨k0, _, r0, true, rfl, hA3, ht0, rfl, cs, fs⟩
  case round =>
    clear cs fs hA3
    obtain ⟨i, S, r', fb, rfl, hA, hti, hp, cs, fs⟩ := hrel
    have hr0 : rb < w0.heap.size := by have := HZ.out; omega
    have hmeas : posOf rb wr = i := posOf_rd hA.1
    have HM := Lib.hid hmeas
    clear hmeas
    by_cases hend : fb = false ∧ r'.head? = some 93
    · obtain ⟨rfl, h93⟩ := hend
      cases r' with
      | nil => simp at h93
      | cons b r' =>
        simp at h93
        subst h93
        rw [pitems_end] at hp
        have HP := Lib.hid hp.symm
        clear hp
        go_wp2_with fail
        go_at_call 81
        refine (take_yes _ rb i 93 r' s op hA.1 hti hs'.out).mono ?_
        rintro e w3 ⟨rfl, hA3⟩
        have hA4 := hA.trans hA3
        have cs4 := cs.keep hA3.2 (by omega)
        have fs4 := fs.keep cs.lt hA3.2 (by omega)
        have hlt4 := cs4.lt
        clear cs fs hA hA3
        obtain ⟨d0, d1, d2, d3⟩ := cs4.four
        cases o
        · obtain ⟨q1, q2⟩ := hA4.cells (B := w.heap.size) (by have := HZ.out; omega) HN.out
          obtain ⟨z0, z1, z2, z3⟩ := hB0.out.1.four
          have y0 := hB0.out.2 0 (by decide)
          have y1 := hB0.out.2 1 (by decide)
          have y2 := hB0.out.2 2 (by decide)
          have y3 := hB0.out.2 3 (by decide)
          go_wp2_with fail
          refine bodyPost_ret (v := clsOk S) (by simp [clsOk, results, Tryd.results70, go_sem, q1, z0, z1, z2, z3]) rfl ?_
          rw [HPB.out, HP.out]
          have hfin : Af w rb s op (i + 1) w3 := by
            have := hA4
            rw [← HW.out] at this
            exact HA.out.trans this
          exact ⟨rfl, i + 1, (((hfin.store (Nat.le_refl _) hrb _).store (Nat.le_refl _) hrb _).store (Nat.le_refl _) hrb _).store (Nat.le_refl _) hrb _, hti.tail⟩
        · go_wp2_with fail
          go_at_call 59
          refine (not_class S _).mono ?_
          rintro e w5 ⟨rfl, hb5⟩
          have hA5 := hA4.keep (Chg.of_below (R := fun _ => False) hb5) (fun _ _ h => h) hr0
          have cs5 := cs4.below hb5
          have fs5 := fs4.below hlt4 hb5
          have hA6 := store4_af hA5 (Nat.le_refl _) hr0 (canon (fun x => !S x))
          clear d0 d1 d2 d3
          obtain ⟨d0, d1, d2, d3⟩ := cs5.four
          have g0 := fs5 0 (by decide)
          have g1 := fs5 1 (by decide)
          have g2 := fs5 2 (by decide)
          have g3 := fs5 3 (by decide)
          obtain ⟨q1, q2⟩ := hA5.cells (B := w.heap.size) (by have := HZ.out; omega) HN.out
          obtain ⟨z0, z1, z2, z3⟩ := hB0.out.1.four
          have y0 := hB0.out.2 0 (by decide)
          have y1 := hB0.out.2 1 (by decide)
          have y2 := hB0.out.2 2 (by decide)
          have y3 := hB0.out.2 3 (by decide)
          have hsz : w.heap.size < w0.heap.size := by have := HZ.out; omega
          have hsz2 : w.heap.size ≠ w0.heap.size := by omega
          have hsz3 : w0.heap.size ≠ w.heap.size := by omega
          go_wp2_with fail
          refine bodyPost_ret (v := clsOk (fun x => !S x)) (by simp [clsOk, results, Tryd.results70, go_sem, q1, z0, z1, z2, z3]) rfl ?_
          rw [HPB.out, HP.out]
          have hfin : Af w rb s op (i + 1) (store4 w5 w0.heap.size (canon (fun x => !S x))) := by
            have := hA6
            rw [← HW.out] at this
            rw [← HW.out]
            exact HA.out.trans this
          exact ⟨rfl, i + 1, (((hfin.store (Nat.le_refl _) hrb _).store (Nat.le_refl _) hrb _).store (Nat.le_refl _) hrb _).store (Nat.le_refl _) hrb _, hti.tail⟩
    · rw [pitems_more hend] at hp
      have HP := Lib.hid hp.symm
      clear hp
      have hway : fb = true ∨ (fb = false ∧ r'.head? ≠ some 93) := by
        cases fb
        · exact .inr ⟨rfl, fun h => hend ⟨rfl, h⟩⟩
        · exact .inl rfl
      clear hend
      have hcont : ∀ w3, Af wr rb s op i w3 → Af w0 rb s op i w3 ∧ Cells w3 w0.heap.size (canon S) ∧ Free w3 w0.heap.size := fun w3 h3 => ⟨hA.trans h3, cs.keep h3.2 (by omega), fs.keep cs.lt h3.2 (by omega)⟩
      have HC := Lib.hid hcont
      have hrd := hA.1
      clear hcont cs fs hA
      have hfin := HP.out
      clear HP
      rcases hway with rfl | ⟨rfl, h93⟩
      · obtain ⟨hA, cs, fs⟩ := HC.out wr (Af.refl hrd)
        have HFF := Lib.hid hfin
        clear hfin
        go_wp2_with fail
        have hfin := HFF.out
        clear HFF
        go_at_call 82
        refine (item_any _ rb i r' s op hA.1 hti hs'.out).mono ?_
        intro e w4 hG
        revert hG
        cases hx : pitem r' with
        | er r2 c =>
          have hc := pitem_er_two hx
          subst hc
          rw [hx] at hfin
          have HF := Lib.hid hfin
          clear hfin hx
          rintro ⟨rfl, k4, hA4, ht4⟩
          have hA5 := hA.trans hA4
          obtain ⟨q1, q2⟩ := hA5.cells (B := w.heap.size) (by have := HZ.out; omega) HN.out
          obtain ⟨z0, z1, z2, z3⟩ := hB0.out.1.four
          have y0 := hB0.out.2 0 (by decide)
          have y1 := hB0.out.2 1 (by decide)
          have y2 := hB0.out.2 2 (by decide)
          have y3 := hB0.out.2 3 (by decide)
          have hsz : w.heap.size < w0.heap.size := by have := HZ.out; omega
          have hsz4 := hA5.2.size
          have hsz5 : w.heap.size < w4.heap.size := by omega
          have hsz6 : w.heap.size ≠ w4.heap.size := by omega
          clear hA hA4 cs fs
          go_wp2_with fail
          refine bodyPost_ret (v := clsEr 2) (by simp [clsEr, results, Tryd.results70, go_sem, q1, z0, z1, z2, z3, hsz5]) rfl ?_
          rw [HPB.out, HF.out]
          have hfin : Af w rb s op k4 w4 := by
            have := hA5
            rw [← HW.out] at this
            exact HA.out.trans this
          cases o <;> exact ⟨rfl, k4, (((((hfin.store (Nat.le_refl _) hrb _).store (Nat.le_refl _) hrb _).store (Nat.le_refl _) hrb _).store (Nat.le_refl _) hrb _).alloc _), ht4⟩
        | ok T r2 =>
          have hle := pitem_le hx
          rw [hx] at hfin
          have HF := Lib.hid hfin
          clear hfin hx
          rintro ⟨rfl, k4, hA4, ht4⟩
          have hA5 := hA.trans hA4
          have cs4 := cs.keep hA4.2 (show ¬ w0.heap.size = rb by omega)
          have fs4 := fs.keep cs.lt hA4.2 (show ¬ w0.heap.size = rb by omega)
          clear hA hA4 cs fs
          have hl4 := cs4.lt
          have hl5 : w0.heap.size ≠ w4.heap.size := by omega
          obtain ⟨d0, d1, d2, d3⟩ := cs4.four
          go_wp2_with fail
          go_at_call 83
          refine (or_class S T _).mono ?_
          rintro e w5 ⟨rfl, hb5⟩
          have hA6 := (hA5.alloc _).keep (Chg.of_below (R := fun _ => False) hb5) (fun _ _ h => h) hr0
          have hbb : Below w4.heap.size w4 w5 := ((Below.refl _ _).alloc (Nat.le_refl _) _).trans (hb5.mono (by simp))
          have cs5 := cs4.below hbb
          have fs5 := fs4.below hl4 hbb
          clear d0 d1 d2 d3
          obtain ⟨d0, d1, d2, d3⟩ := cs5.four
          have g0 := fs5 0 (by decide)
          have g1 := fs5 1 (by decide)
          have g2 := fs5 2 (by decide)
          have g3 := fs5 3 (by decide)
          go_wp2_with fail
          go_roundw
          case rel => exact ⟨k4, (fun x => S x || T x), r2, false, rfl, store4_af hA6 (Nat.le_refl _) hr0 _, ht4, HF.out.symm, store4_same cs5, store4_free fs5⟩
          case measure =>
            rw [HM.out]
            have e2 := posOf_rd (store4_af hA6 (Nat.le_refl _) hr0 (canon (fun x => S x || T x))).1
            unfold store4 at e2
            rw [e2]
            have := hti.1
            have := ht4.1
            omega
      · have HT := Lib.hid (take_out wr rb i 93 r' s op hrd hti h93)
        have HFF := Lib.hid hfin
        clear h93 hfin
        go_wp2_with fail
        go_at_call 81
        refine HT.out.mono ?_
        rintro e w3 ⟨rfl, hA3⟩
        obtain ⟨hA, cs, fs⟩ := HC.out w3 hA3
        go_wp2_with fail
        have hfin := HFF.out
        clear HFF
        go_at_call 82
        refine (item_any _ rb i r' s op hA.1 hti hs'.out).mono ?_
        intro e w4 hG
        revert hG
        cases hx : pitem r' with
        | er r2 c =>
          have hc := pitem_er_two hx
          subst hc
          rw [hx] at hfin
          have HF := Lib.hid hfin
          clear hfin hx
          rintro ⟨rfl, k4, hA4, ht4⟩
          have hA5 := hA.trans hA4
          obtain ⟨q1, q2⟩ := hA5.cells (B := w.heap.size) (by have := HZ.out; omega) HN.out
          obtain ⟨z0, z1, z2, z3⟩ := hB0.out.1.four
          have y0 := hB0.out.2 0 (by decide)
          have y1 := hB0.out.2 1 (by decide)
          have y2 := hB0.out.2 2 (by decide)
          have y3 := hB0.out.2 3 (by decide)
          have hsz : w.heap.size < w0.heap.size := by have := HZ.out; omega
          have hsz4 := hA5.2.size
          have hsz5 : w.heap.size < w4.heap.size := by omega
          have hsz6 : w.heap.size ≠ w4.heap.size := by omega
          clear hA hA4 cs fs
          go_wp2_with fail
          refine bodyPost_ret (v := clsEr 2) (by simp [clsEr, results, Tryd.results70, go_sem, q1, z0, z1, z2, z3, hsz5]) rfl ?_
          rw [HPB.out, HF.out]
          have hfin : Af w rb s op k4 w4 := by
            have := hA5
            rw [← HW.out] at this
            exact HA.out.trans this
          cases o <;> exact ⟨rfl, k4, (((((hfin.store (Nat.le_refl _) hrb _).store (Nat.le_refl _) hrb _).store (Nat.le_refl _) hrb _).store (Nat.le_refl _) hrb _).alloc _), ht4⟩
        | ok T r2 =>
          have hle := pitem_le hx
          rw [hx] at hfin
          have HF := Lib.hid hfin
          clear hfin hx
          rintro ⟨rfl, k4, hA4, ht4⟩
          have hA5 := hA.trans hA4
          have cs4 := cs.keep hA4.2 (show ¬ w0.heap.size = rb by omega)
          have fs4 := fs.keep cs.lt hA4.2 (show ¬ w0.heap.size = rb by omega)
          clear hA hA4 cs fs
          have hl4 := cs4.lt
          have hl5 : w0.heap.size ≠ w4.heap.size := by omega
          obtain ⟨d0, d1, d2, d3⟩ := cs4.four
          go_wp2_with fail
          go_at_call 83
          refine (or_class S T _).mono ?_
          rintro e w5 ⟨rfl, hb5⟩
          have hA6 := (hA5.alloc _).keep (Chg.of_below (R := fun _ => False) hb5) (fun _ _ h => h) hr0
          have hbb : Below w4.heap.size w4 w5 := ((Below.refl _ _).alloc (Nat.le_refl _) _).trans (hb5.mono (by simp))
          have cs5 := cs4.below hbb
          have fs5 := fs4.below hl4 hbb
          clear d0 d1 d2 d3
          obtain ⟨d0, d1, d2, d3⟩ := cs5.four
          have g0 := fs5 0 (by decide)
          have g1 := fs5 1 (by decide)
          have g2 := fs5 2 (by decide)
          have g3 := fs5 3 (by decide)
          go_wp2_with fail
          go_roundw
          case rel => exact ⟨k4, (fun x => S x || T x), r2, false, rfl, store4_af hA6 (Nat.le_refl _) hr0 _, ht4, HF.out.symm, store4_same cs5, store4_free fs5⟩
          case measure =>
            rw [HM.out]
            have e2 := posOf_rd (store4_af hA6 (Nat.le_refl _) hr0 (canon (fun x => S x || T x))).1
            unfold store4 at e2
            rw [e2]
            have := hti.1
            have := ht4.1
            omega

end Go.Proofs.YtpibkalbnjgpaaaDoor
