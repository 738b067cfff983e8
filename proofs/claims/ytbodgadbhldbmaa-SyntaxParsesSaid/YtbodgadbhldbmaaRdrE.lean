/- The document's own reader: a class between brackets: a contract.
   Conditions: the reader's cells are as 'Rr' says, and the text has at most 1000 bytes. -/
import Derived.Test.YtbodgadbhldbmaaRdrD
import Derived.Deep.MidRow
import Derived.Deep.WholeRow
namespace Go.Proofs.Ytbodgadbhldbmaa
open Go.RowKit

theorem infoBools : (Try.prog.info? 86).map (fun i => (i.zero, i.size)) = some (some (.agg (Array.replicate 256 (.bool false))), 256) := by kernel_rfl
def BFree (w : World) (b : Nat) : Prop := ∀ i, i < 256 → w.frozen? ⟨b, i, none⟩ = false
theorem Bools.congr {w : World} {b : Nat} {s s' : Nat → Bool} (h : Bools w b s) (he : ∀ i, i < 256 → s i = s' i) : Bools w b s' := fun i hi => by rw [← he i hi]; exact h i hi
theorem Bools.set {w : World} {b q : Nat} {v : Bool} {s : Nat → Bool} (h : Bools w b s) : Bools (w.setCell ⟨b, q, none⟩ (.bool v)) b (fun x => if x = q then v else s x) := by
  intro i hi
  by_cases e : i = q
  · subst e
    rw [World.cell?_setCell_same (h := h i hi)]; simp
  · rw [World.cell?_setCell_other (h := addr_ne (.inr fun h => e h.symm)), h i hi]; simp [e]
theorem BFree.set {w : World} {b b' q : Nat} {v : Value} (h : BFree w b) : BFree (w.setCell ⟨b', q, none⟩ v) b := fun i hi => by simp [h i hi]
theorem bools_new (w : World) : Bools (w.alloc (.cells (Array.replicate 256 (.bool false)) 86)) w.heap.size (fun _ => false) := fun i hi => by simp [hi]
theorem bfree_new (w : World) : BFree (w.alloc (.cells (Array.replicate 256 (.bool false)) 86)) w.heap.size := fun i hi => by simp
/-- What the call that reads a class has in memory: the reader's cells, a class of its own, that is still of no byte, and which bytes have come. -/
structure CI (w : World) (rb : Nat) (s : ByteArray) (cb bb k : Nat) (pl e : Int) (S : Nat → Bool) (wr : World) : Prop where
  rr : Rr wr rb s k pl e
  bs : Bools wr bb S
  bf : BFree wr bb
  cs : Cells wr cb zeros
  cf : Free wr cb
  hb : bb < wr.heap.size
  chg : Chg (fun x => x = rb) w wr
theorem CI.sf {w : World} {rb cb bb k k' : Nat} {s : ByteArray} {pl e pl' e' : Int} {S : Nat → Bool} {a b : World} (h : CI w rb s cb bb k pl e S a) (hs : Sf a rb s k' pl' e' b) (h1 : bb ≠ rb) (h2 : cb ≠ rb) : CI w rb s cb bb k' pl' e' S b :=
  ⟨hs.1, fun i hi => (hs.2.cell i h.hb h1).trans (h.bs i hi), fun i hi => (hs.2.frozen i h.hb h1).trans (h.bf i hi), fun i hi => (hs.2.cell i h.cs.lt h2).trans (h.cs i hi), fun i hi => (hs.2.frozen i h.cs.lt h2).trans (h.cf i hi), Nat.lt_of_lt_of_le h.hb hs.2.size, h.chg.trans hs.2 fun _ _ h => h⟩
theorem CI.drew {w : World} {rb cb bb k : Nat} {s : ByteArray} {pl e : Int} {S : Nat → Bool} {a : World} (h : CI w rb s cb bb k pl e S a) : CI w rb s cb bb k pl e S a.drew :=
  ⟨h.rr.keep ((Chg.refl (fun _ => False) _).drew) id, h.bs, h.bf, h.cs, h.cf, h.hb, h.chg.drew⟩
theorem CI.put {w : World} {rb cb bb k q : Nat} {s : ByteArray} {pl e : Int} {v : Bool} {S S' : Nat → Bool} {a : World} (h : CI w rb s cb bb k pl e S a) (h1 : bb ≠ rb) (h2 : bb ≠ cb) (h3 : w.heap.size ≤ bb) (hS : ∀ i, i < 256 → (if i = q then v else S i) = S' i) : CI w rb s cb bb k pl e S' (a.setCell ⟨bb, q, none⟩ (.bool v)) := by
  refine ⟨?_, h.bs.set.congr hS, h.bf.set, fun i hi => ?_, fun i hi => by simp [h.cf i hi], by simpa using h.hb, h.chg.setCell (p := ⟨bb, q, none⟩) (fun hlt => absurd hlt (by show ¬ bb < _; omega)) _⟩
  · have hc : Chg (fun x => x = bb) a (a.setCell ⟨bb, q, none⟩ (.bool v)) := (Chg.refl (fun x => x = bb) a).setCell (p := ⟨bb, q, none⟩) (fun _ => rfl) _
    exact h.rr.keep hc (fun e => h1 e.symm)
  · rw [World.cell?_setCell_other (h := addr_ne (.inl h2))]
    exact h.cs i hi
/-- What holds at the head of the loop over the items. -/
def IRel (w : World) (rb : Nat) (s : ByteArray) (cb bb : Nat) (pl : Int) (r0 : List Nat) (first : Value) (wr : World) : Prop :=
  ∃ (f : Bool) (S : Nat → Bool) (k : Nat), first = .bool f ∧ ((∃ r, CI w rb s cb bb k pl 0 S wr ∧ Tl s k r ∧ pitems true (fun _ => false) r0 = pitems f S r) ∨ (∃ (p : Nat) (r : List Nat), CI w rb s cb bb k p 2 S wr ∧ Tl s p r ∧ pitems true (fun _ => false) r0 = .er r 2))
/-- How far the loop is: less and less. -/
def imeas (rb : Nat) (s : ByteArray) (wr : World) : Nat := match wr.cell? ⟨rb, 3, none⟩, wr.cell? ⟨rb, 1, none⟩ with
  | some (.int _ 0), some (.int _ z) => s.size - z.toNat + 1
  | _, _ => 0
theorem imeas_ok {w : World} {rb : Nat} {s : ByteArray} {cb bb k : Nat} {pl : Int} {S : Nat → Bool} {wr : World} (h : CI w rb s cb bb k pl 0 S wr) : imeas rb s wr = s.size - k + 1 := by
  unfold imeas
  rw [h.rr.err, h.rr.pos]
  simp
theorem imeas_er {w : World} {rb : Nat} {s : ByteArray} {cb bb k : Nat} {pl : Int} {S : Nat → Bool} {wr : World} (h : CI w rb s cb bb k pl 2 S wr) : imeas rb s wr = 0 := by
  unfold imeas
  rw [h.rr.err, h.rr.pos]
  rfl
/-- What an item has come to, ahead of the loop over its bytes. -/
def AI (w : World) (rb : Nat) (s : ByteArray) (cb bb : Nat) (pl : Int) (r : List Nat) (S : Nat → Bool) (lo hi : Nat) (wr : World) : Prop :=
  lo < 256 ∧ hi < 256 ∧ ∃ k, (∃ r', CI w rb s cb bb k pl 0 S wr ∧ Tl s k r' ∧ pitem r = .ok (between lo hi) r') ∨ (∃ (p : Nat) (r' : List Nat), CI w rb s cb bb k p 2 S wr ∧ Tl s p r' ∧ pitem r = .er r' 2)
/-- What the call comes to. -/
def Clg (o : Out (Nat → Bool)) (s : ByteArray) (w : World) (rb : Nat) (pl : Int) (x : Ending) (w' : World) : Prop := match o with
  | .ok S r => ∃ k, Tl s k r ∧ x = .returned (.agg #[.int .u64 (canon S 0 : Nat), .int .u64 (canon S 1 : Nat), .int .u64 (canon S 2 : Nat), .int .u64 (canon S 3 : Nat)]) ∧ Sf w rb s k pl 0 w'
  | .er r c => c = 2 ∧ ∃ (C : Nat → Nat) (k p : Nat), Tl s p r ∧ x = .returned (.agg #[.int .u64 (C 0 : Nat), .int .u64 (C 1 : Nat), .int .u64 (C 2 : Nat), .int .u64 (C 3 : Nat)]) ∧ Sf w rb s k p 2 w'
theorem CI.congr {w : World} {rb cb bb k : Nat} {s : ByteArray} {pl e : Int} {S S' : Nat → Bool} {a : World} (h : CI w rb s cb bb k pl e S a) (hS : ∀ i, i < 256 → S i = S' i) : CI w rb s cb bb k pl e S' a := ⟨h.rr, h.bs.congr hS, h.bf, h.cs, h.cf, h.hb, h.chg⟩
theorem AI.congr {w : World} {rb cb bb lo hi : Nat} {s : ByteArray} {pl : Int} {r : List Nat} {S S' : Nat → Bool} {a : World} (h : AI w rb s cb bb pl r S lo hi a) (hS : ∀ i, i < 256 → S i = S' i) : AI w rb s cb bb pl r S' lo hi a := by
  obtain ⟨h1, h2, k, h3 | h3⟩ := h
  · obtain ⟨r', c, t⟩ := h3
    exact ⟨h1, h2, k, .inl ⟨r', c.congr hS, t⟩⟩
  · obtain ⟨p, r', c, t⟩ := h3
    exact ⟨h1, h2, k, .inr ⟨p, r', c.congr hS, t⟩⟩
theorem AI.put {w : World} {rb cb bb lo hi q : Nat} {s : ByteArray} {pl : Int} {r : List Nat} {S S' : Nat → Bool} {a : World} (h : AI w rb s cb bb pl r S lo hi a) (h1 : bb ≠ rb) (h2 : bb ≠ cb) (h3 : w.heap.size ≤ bb) (hS : ∀ i, i < 256 → (if i = q then true else S i) = S' i) : AI w rb s cb bb pl r S' lo hi (a.setCell ⟨bb, q, none⟩ (.bool true)) := by
  obtain ⟨g1, g2, k, h4 | h4⟩ := h
  · obtain ⟨r', c, t⟩ := h4
    exact ⟨g1, g2, k, .inl ⟨r', c.put h1 h2 h3 hS, t⟩⟩
  · obtain ⟨p, r', c, t⟩ := h4
    exact ⟨g1, g2, k, .inr ⟨p, r', c.put h1 h2 h3 hS, t⟩⟩
theorem AI.mem {w : World} {rb cb bb lo hi : Nat} {s : ByteArray} {pl : Int} {r : List Nat} {S : Nat → Bool} {a : World} (h : AI w rb s cb bb pl r S lo hi a) : Bools a bb S ∧ BFree a bb ∧ bb < a.heap.size := by
  obtain ⟨_, _, k, ⟨r', c, t⟩ | ⟨p, r', c, t⟩⟩ := h
  · exact ⟨c.bs, c.bf, c.hb⟩
  · exact ⟨c.bs, c.bf, c.hb⟩
theorem CI.drewN {w : World} {rb cb bb k : Nat} {s : ByteArray} {pl e : Int} {S : Nat → Bool} {a : World} (h : CI w rb s cb bb k pl e S a) (n : Nat) : CI w rb s cb bb k pl e S (a.drewN n) :=
  ⟨h.rr.keep ((Chg.refl (fun _ => False) _).drewN n) id, h.bs, h.bf, h.cs, h.cf, h.hb, h.chg.drewN n⟩
theorem sf_store4 {w w' : World} {rb k : Nat} {s : ByteArray} {pl e : Int} (h : Sf w rb s k pl e w') (hne : w.heap.size ≠ rb) (C : Nat → Nat) : Sf w rb s k pl e (store4 w' w.heap.size C) := by
  have hc : Chg (fun x => x = w.heap.size) w' (store4 w' w.heap.size C) := by
    unfold store4
    exact ((((Chg.refl (fun x => x = w.heap.size) w').setCell (p := ⟨w.heap.size, 0, none⟩) (fun _ => rfl) _).setCell (p := ⟨w.heap.size, 1, none⟩) (fun _ => rfl) _).setCell (p := ⟨w.heap.size, 2, none⟩) (fun _ => rfl) _).setCell (p := ⟨w.heap.size, 3, none⟩) (fun _ => rfl) _
  exact ⟨h.1.keep hc (fun e => hne e.symm), h.2.trans hc fun x hx e => by omega⟩

set_option maxHeartbeats 16000000 in
set_option maxRecDepth 100000 in
theorem setR_any (w : World) (rb k : Nat) (r : List Nat) (s : ByteArray) (pl : Int) (h : Rr w rb s k pl 0) (ht : Tl s k r) (hs : s.size ≤ 1000) :
    Calls Try.prog 49 #[.pointer (some ⟨rb, 0, none⟩)] w (Clg (pbrack r) s w rb pl) := by
  have HT := Lib.hid (And.intro ht hs)
  have HR := Lib.hid (h.keep ((Chg.refl (fun _ => False) w).alloc (.cells #[.int .u64 0, .int .u64 0, .int .u64 0, .int .u64 0] 25)) id)
  have hrb := h.lt
  have hz0 := (zero_of_info infoBools).1
  clear ht hs h
  obtain ⟨o, ho⟩ : ∃ o, pbrack r = o := ⟨_, rfl⟩
  rw [ho]
  have HO := Lib.hid ho
  clear ho
  by_cases h94 : r.head? = some 94
  · obtain ⟨r0, rfl⟩ : ∃ r0, r = 94 :: r0 := by cases r with
      | nil => simp at h94
      | cons b r => simp at h94; subst h94; exact ⟨r, rfl⟩
    have HPB : Hid (∀ o', pitems true (fun _ => false) r0 = o' → o = (match o' with
      | .ok S r' => .ok (fun x => !S x) r'
      | .er r' c => .er r' c)) := Lib.hid (fun o' h => by rw [← HO.out, ← h]; rfl)
    clear h94
    go_enter Try.func49, Try.ntmps49
    go_wp2_with fail
    go_at_call 34
    refine (takeR_yes _ rb k 94 r0 s pl HR.out HT.out.1 HT.out.2 (by decide)).mono ?_
    rintro x w1 ⟨rfl, h1⟩
    have H1 := Lib.hid h1
    have HT0 := Lib.hid HT.out.1.tail
    clear h1
    generalize hk0 : k + 1 = k0 at *
    have hz1 : w1.heap.size = w1.heap.size := rfl
    have hst : CI w rb s w.heap.size w1.heap.size k0 pl 0 (fun _ => false) (w1.alloc (.cells (Array.replicate 256 (.bool false)) 86)) := by
      have h1 := H1.out
      have hsz := h1.2.size
      simp at hsz
      have c0 := cells_zero w
      have f0 := free_zero w
      have hne : w.heap.size ≠ rb := by omega
      refine ⟨h1.1.keep ((Chg.refl (fun _ => False) _).alloc _) id, bools_new w1, bfree_new w1, fun i hi => ?_, fun i hi => ?_, by simp, ?_⟩
      · exact (Chg.cell ((Chg.refl (fun _ => False) w1).alloc _) i (by omega) id).trans ((h1.2.cell i (by simp) hne).trans (c0 i hi))
      · exact (Chg.frozen ((Chg.refl (fun _ => False) w1).alloc _) i (by omega) id).trans ((h1.2.frozen i (by simp) hne).trans (f0 i hi))
      · exact (((Chg.refl (fun x => x = rb) w).alloc _).trans h1.2 fun _ _ h => h).alloc _
    have hw1 : w.heap.size < w1.heap.size := by have := H1.out.2.size; simp at this; omega
    clear hz1
    have HST := Lib.hid hst
    have hbb : w1.heap.size ≠ rb ∧ w1.heap.size ≠ w.heap.size ∧ w.heap.size ≤ w1.heap.size ∧ w.heap.size ≠ rb := by omega
    have HBB0 := Lib.hid hbb
    clear hst hbb hw1
    go_wp2_with fail
    generalize hbbn : w1.heap.size = bb at *
    have HBB := Lib.hid HBB0.out
    clear hbbn
    go_loopw [5] (fun x wr => IRel w rb s w.heap.size bb pl r0 x wr) (fun _ wr => imeas rb s wr)
    case atStart => exact ⟨true, _, k0, rfl, .inl ⟨r0, HST.out, HT0.out, rfl⟩⟩
    case round =>
      obtain ⟨f, S, k', rfl, hor⟩ := hrel
      rcases hor with ⟨r', hC, htl, hpi⟩ | ⟨p, r', hC, htl, hpi⟩
      · have HCI0 := Lib.hid hC
        have HTL := Lib.hid htl
        have HM0 := Lib.hid (imeas_ok hC)
        have z1 := hC.rr.err
        have z2 := hC.rr.lt
        clear hC htl
        cases f with
        | true =>
          have HMORE := Lib.hid (hpi.trans (pitems_more (fun h => by cases h.1)))
          have HCI := Lib.hid HCI0.out
          clear hpi
          go_wp2_with fail
          go_at_call 58
          refine (itemR_any _ rb k' r' s pl HCI.out.rr HTL.out HT.out.2).mono ?_
          intro x w4 hB
          cases hpl : pplain itemMarks r' with
          | er r2 c =>
            rw [hpl] at hB
            have hc2 : c = 2 := pplain_two hpl
            subst hc2
            obtain ⟨lo, k2, p, hlo, ht2, rfl, h4⟩ := hB
            have HC4 := Lib.hid (HCI.out.sf h4 HBB.out.1 HBB.out.2.2.2)
            have HP2 := Lib.hid (And.intro ht2 (And.intro hlo (pitem_er1 hpl)))
            have z1 := HC4.out.rr.pos
            have z2 := HC4.out.rr.lt
            clear h4 hpl ht2 hlo
            go_wp2_with fail
            go_quiet (fail)
            have HC5 := Lib.hid (HC4.out.drewN nq)
            clear z1 z2
            go_wp2_with fail
            go_at_call 34
            refine (takeR_bad _ rb k2 45 s _ _ HC5.out.rr (by decide) (by decide)).mono ?_
            rintro x w6 ⟨rfl, h6⟩
            have HAI := Lib.hid (show AI w rb s w.heap.size bb pl r' S lo lo w6 from ⟨HP2.out.2.1, HP2.out.2.1, k2, .inr ⟨p, r2, HC5.out.sf h6 HBB.out.1 HBB.out.2.2.2, HP2.out.1, HP2.out.2.2⟩⟩)
            clear h6
            have hai := HAI.out
            have i1 : (0 : Int) ≤ (lo : Int) := by omega
            have i2 : (lo : Int) ≤ 255 := by have := hai.1; omega
            have i3 : (lo : Int) ≤ 255 := by have := hai.2.1; omega
            have i4 : (0 : Int) ≤ (lo : Int) := by omega
            clear hai
            go_wp2_with fail
            go_loopw [9] (fun x wq => ∃ j : Nat, x = .int .i64 j ∧ lo ≤ j ∧ (j ≤ lo + 1 ∨ j = lo) ∧ AI w rb s w.heap.size bb pl r' (fun y => S y || (decide (lo ≤ y) && decide (y < j))) lo lo wq) (fun x _ => match x with | .int _ z => lo + 1 - z.toNat | _ => 0)
            case atStart => exact ⟨lo, rfl, Nat.le_refl _, .inr rfl, HAI.out.congr fun i _ => by
              have : (decide (lo ≤ i) && decide (i < lo)) = false := by rw [Bool.and_eq_false_iff]; simp; omega
              rw [this, Bool.or_false]⟩
            case round =>
              obtain ⟨j, rfl, hj1, hj2, hA⟩ := hrel
              by_cases hjh : j ≤ lo
              · have g1 : (j : Int) ≤ (lo : Int) := by omega
                have g2 : (0 : Int) ≤ (j : Int) := by omega
                have g3 : (j : Int) < 256 := by omega
                obtain ⟨m1, m2, m3⟩ := hA.mem
                have m4 := m1 j (by omega)
                have m5 := m2 j (by omega)
                have hnx := hA.put (q := j) (S' := fun y => S y || (decide (lo ≤ y) && decide (y < j + 1))) HBB.out.1 HBB.out.2.1 HBB.out.2.2.1 (fun i _ => by
                  by_cases e : i = j
                  · subst e
                    simp [hj1]
                  · rw [if_neg e]
                    have : decide (i < j + 1) = decide (i < j) := by rw [decide_eq_decide]; omega
                    rw [this])
                have HNX := Lib.hid hnx
                have HJ := Lib.hid (And.intro hj1 hjh)
                clear hA m1 m2 hnx hj1 hj2 hjh
                go_wp2_with fail
                exact ⟨⟨j + 1, by simp, by have := HJ.out.1; omega, .inl (by have := HJ.out.2; omega), HNX.out⟩, by have := HJ.out.2; simp; omega⟩
              · have g1 : ¬ (j : Int) ≤ (lo : Int) := by omega
                have hfin := hA.congr (S' := fun y => S y || between lo lo y) (fun i _ => by
                  have : (decide (lo ≤ i) && decide (i < j)) = between lo lo i := by unfold between; rw [Bool.eq_iff_iff]; simp; omega
                  rw [this])
                have HFN := Lib.hid hfin
                clear hA hj1 hj2 hjh hfin
                go_wp2_with fail
                obtain ⟨_, _, k2, ⟨r2, hc, ht2, hp⟩ | ⟨p, r2, hc, ht2, hp⟩⟩ := HFN.out
                · have hle := pitem_le hp
                  have hm := HMORE.out
                  rw [hp] at hm
                  refine ⟨⟨false, _, k2, rfl, .inl ⟨r2, hc, ht2, hm⟩⟩, ?_⟩
                  rw [imeas_ok hc, HM0.out]
                  have a1 := HTL.out.1
                  have a2 := ht2.1
                  omega
                · have hm := HMORE.out
                  rw [hp] at hm
                  refine ⟨⟨false, _, k2, rfl, .inr ⟨p, r2, hc, ht2, hm⟩⟩, ?_⟩
                  rw [imeas_er hc, HM0.out]
                  omega
          | ok lo r1 =>
            rw [hpl] at hB
            obtain ⟨hlo, k1, ht1, rfl, h4⟩ := hB
            have HC4 := Lib.hid (HCI.out.sf h4 HBB.out.1 HBB.out.2.2.2)
            have HP1 := Lib.hid (And.intro ht1 (And.intro hlo hpl))
            have z1 := HC4.out.rr.pos
            have z2 := HC4.out.rr.lt
            clear h4 hpl ht1 hlo
            go_wp2_with fail
            go_quiet (fail)
            have HC5 := Lib.hid (HC4.out.drewN nq)
            clear z1 z2
            by_cases h45 : r1.head? = some 45
            · obtain ⟨r2, rfl⟩ : ∃ r2, r1 = 45 :: r2 := by cases r1 with
                | nil => simp at h45
                | cons b r => simp at h45; subst h45; exact ⟨r, rfl⟩
              have hp2 := pitem_two HP1.out.2.2
              have HP2 := Lib.hid hp2
              clear h45 hp2
              go_wp2_with fail
              go_at_call 34
              refine (takeR_yes _ rb k1 45 r2 s pl HC5.out.rr HP1.out.1 HT.out.2 (by decide)).mono ?_
              rintro x w6 ⟨rfl, h6⟩
              have HC6 := Lib.hid (HC5.out.sf h6 HBB.out.1 HBB.out.2.2.2)
              clear h6
              go_wp2_with fail
              go_at_call 58
              refine (itemR_any _ rb (k1 + 1) r2 s pl HC6.out.rr HP1.out.1.tail HT.out.2).mono ?_
              intro x w7 hB
              cases hpl : pplain itemMarks r2 with
              | er r3 c =>
                rw [hpl] at hB
                have hc2 : c = 2 := pplain_two hpl
                subst hc2
                obtain ⟨hi, k2, p, hhi, ht2, rfl, h7⟩ := hB
                have HC7 := Lib.hid (HC6.out.sf h7 HBB.out.1 HBB.out.2.2.2)
                have HP3 := Lib.hid (And.intro ht2 (And.intro hhi (show pitem r' = .er r3 2 by rw [HP2.out, hpl])))
                clear h7 hpl ht2 hhi
                by_cases hgt : hi < lo
                · have g1 : (hi : Int) < (lo : Int) := by omega
                  clear hgt
                  go_wp2_with fail
                  go_at_call 25
                  refine (failR_bad _ rb k2 s _ _ _ _ HC7.out.rr (by decide)).mono ?_
                  rintro x w8 ⟨rfl, h8⟩
                  have HAI := Lib.hid (show AI w rb s w.heap.size bb pl r' S lo hi w8 from ⟨HP1.out.2.1, HP3.out.2.1, k2, .inr ⟨p, r3, HC7.out.sf h8 HBB.out.1 HBB.out.2.2.2, HP3.out.1, HP3.out.2.2⟩⟩)
                  clear h8
                  have hai := HAI.out
                  have i1 : (0 : Int) ≤ (lo : Int) := by omega
                  have i2 : (lo : Int) ≤ 255 := by have := hai.1; omega
                  have i3 : (hi : Int) ≤ 255 := by have := hai.2.1; omega
                  have i4 : (0 : Int) ≤ (hi : Int) := by omega
                  clear hai
                  go_wp2_with fail
                  go_loopw [9] (fun x wq => ∃ j : Nat, x = .int .i64 j ∧ lo ≤ j ∧ (j ≤ hi + 1 ∨ j = lo) ∧ AI w rb s w.heap.size bb pl r' (fun y => S y || (decide (lo ≤ y) && decide (y < j))) lo hi wq) (fun x _ => match x with | .int _ z => hi + 1 - z.toNat | _ => 0)
                  case atStart => exact ⟨lo, rfl, Nat.le_refl _, .inr rfl, HAI.out.congr fun i _ => by
                    have : (decide (lo ≤ i) && decide (i < lo)) = false := by rw [Bool.and_eq_false_iff]; simp; omega
                    rw [this, Bool.or_false]⟩
                  case round =>
                    obtain ⟨j, rfl, hj1, hj2, hA⟩ := hrel
                    by_cases hjh : j ≤ hi
                    · have g1 : (j : Int) ≤ (hi : Int) := by omega
                      have g2 : (0 : Int) ≤ (j : Int) := by omega
                      have g3 : (j : Int) < 256 := by omega
                      obtain ⟨m1, m2, m3⟩ := hA.mem
                      have m4 := m1 j (by omega)
                      have m5 := m2 j (by omega)
                      have hnx := hA.put (q := j) (S' := fun y => S y || (decide (lo ≤ y) && decide (y < j + 1))) HBB.out.1 HBB.out.2.1 HBB.out.2.2.1 (fun i _ => by
                        by_cases e : i = j
                        · subst e
                          simp [hj1]
                        · rw [if_neg e]
                          have : decide (i < j + 1) = decide (i < j) := by rw [decide_eq_decide]; omega
                          rw [this])
                      have HNX := Lib.hid hnx
                      have HJ := Lib.hid (And.intro hj1 hjh)
                      clear hA m1 m2 hnx hj1 hj2 hjh
                      go_wp2_with fail
                      exact ⟨⟨j + 1, by simp, by have := HJ.out.1; omega, .inl (by have := HJ.out.2; omega), HNX.out⟩, by have := HJ.out.2; simp; omega⟩
                    · have g1 : ¬ (j : Int) ≤ (hi : Int) := by omega
                      have hfin := hA.congr (S' := fun y => S y || between lo hi y) (fun i _ => by
                        have : (decide (lo ≤ i) && decide (i < j)) = between lo hi i := by unfold between; rw [Bool.eq_iff_iff]; simp; omega
                        rw [this])
                      have HFN := Lib.hid hfin
                      clear hA hj1 hj2 hjh hfin
                      go_wp2_with fail
                      obtain ⟨_, _, k2, ⟨r2, hc, ht2, hp⟩ | ⟨p, r2, hc, ht2, hp⟩⟩ := HFN.out
                      · have hle := pitem_le hp
                        have hm := HMORE.out
                        rw [hp] at hm
                        refine ⟨⟨false, _, k2, rfl, .inl ⟨r2, hc, ht2, hm⟩⟩, ?_⟩
                        rw [imeas_ok hc, HM0.out]
                        have a1 := HTL.out.1
                        have a2 := ht2.1
                        omega
                      · have hm := HMORE.out
                        rw [hp] at hm
                        refine ⟨⟨false, _, k2, rfl, .inr ⟨p, r2, hc, ht2, hm⟩⟩, ?_⟩
                        rw [imeas_er hc, HM0.out]
                        omega
                · have g1 : ¬ (hi : Int) < (lo : Int) := by omega
                  clear hgt
                  have HAI := Lib.hid (show AI w rb s w.heap.size bb pl r' S lo hi w7 from ⟨HP1.out.2.1, HP3.out.2.1, k2, .inr ⟨p, r3, HC7.out, HP3.out.1, HP3.out.2.2⟩⟩)
                  have hai := HAI.out
                  have i1 : (0 : Int) ≤ (lo : Int) := by omega
                  have i2 : (lo : Int) ≤ 255 := by have := hai.1; omega
                  have i3 : (hi : Int) ≤ 255 := by have := hai.2.1; omega
                  have i4 : (0 : Int) ≤ (hi : Int) := by omega
                  clear hai
                  go_wp2_with fail
                  go_loopw [9] (fun x wq => ∃ j : Nat, x = .int .i64 j ∧ lo ≤ j ∧ (j ≤ hi + 1 ∨ j = lo) ∧ AI w rb s w.heap.size bb pl r' (fun y => S y || (decide (lo ≤ y) && decide (y < j))) lo hi wq) (fun x _ => match x with | .int _ z => hi + 1 - z.toNat | _ => 0)
                  case atStart => exact ⟨lo, rfl, Nat.le_refl _, .inr rfl, HAI.out.congr fun i _ => by
                    have : (decide (lo ≤ i) && decide (i < lo)) = false := by rw [Bool.and_eq_false_iff]; simp; omega
                    rw [this, Bool.or_false]⟩
                  case round =>
                    obtain ⟨j, rfl, hj1, hj2, hA⟩ := hrel
                    by_cases hjh : j ≤ hi
                    · have g1 : (j : Int) ≤ (hi : Int) := by omega
                      have g2 : (0 : Int) ≤ (j : Int) := by omega
                      have g3 : (j : Int) < 256 := by omega
                      obtain ⟨m1, m2, m3⟩ := hA.mem
                      have m4 := m1 j (by omega)
                      have m5 := m2 j (by omega)
                      have hnx := hA.put (q := j) (S' := fun y => S y || (decide (lo ≤ y) && decide (y < j + 1))) HBB.out.1 HBB.out.2.1 HBB.out.2.2.1 (fun i _ => by
                        by_cases e : i = j
                        · subst e
                          simp [hj1]
                        · rw [if_neg e]
                          have : decide (i < j + 1) = decide (i < j) := by rw [decide_eq_decide]; omega
                          rw [this])
                      have HNX := Lib.hid hnx
                      have HJ := Lib.hid (And.intro hj1 hjh)
                      clear hA m1 m2 hnx hj1 hj2 hjh
                      go_wp2_with fail
                      exact ⟨⟨j + 1, by simp, by have := HJ.out.1; omega, .inl (by have := HJ.out.2; omega), HNX.out⟩, by have := HJ.out.2; simp; omega⟩
                    · have g1 : ¬ (j : Int) ≤ (hi : Int) := by omega
                      have hfin := hA.congr (S' := fun y => S y || between lo hi y) (fun i _ => by
                        have : (decide (lo ≤ i) && decide (i < j)) = between lo hi i := by unfold between; rw [Bool.eq_iff_iff]; simp; omega
                        rw [this])
                      have HFN := Lib.hid hfin
                      clear hA hj1 hj2 hjh hfin
                      go_wp2_with fail
                      obtain ⟨_, _, k2, ⟨r2, hc, ht2, hp⟩ | ⟨p, r2, hc, ht2, hp⟩⟩ := HFN.out
                      · have hle := pitem_le hp
                        have hm := HMORE.out
                        rw [hp] at hm
                        refine ⟨⟨false, _, k2, rfl, .inl ⟨r2, hc, ht2, hm⟩⟩, ?_⟩
                        rw [imeas_ok hc, HM0.out]
                        have a1 := HTL.out.1
                        have a2 := ht2.1
                        omega
                      · have hm := HMORE.out
                        rw [hp] at hm
                        refine ⟨⟨false, _, k2, rfl, .inr ⟨p, r2, hc, ht2, hm⟩⟩, ?_⟩
                        rw [imeas_er hc, HM0.out]
                        omega
              | ok hi r3 =>
                rw [hpl] at hB
                obtain ⟨hhi, k2, ht2, rfl, h7⟩ := hB
                have HC7 := Lib.hid (HC6.out.sf h7 HBB.out.1 HBB.out.2.2.2)
                have HP3 := Lib.hid (And.intro ht2 (And.intro hhi (show pitem r' = if lo > hi then .er (45 :: r2) 2 else .ok (between lo hi) r3 by rw [HP2.out, hpl])))
                clear h7 hpl ht2 hhi
                by_cases hgt : hi < lo
                · have g1 : (hi : Int) < (lo : Int) := by omega
                  have HE : Hid (pitem r' = .er (45 :: r2) 2) := Lib.hid (by rw [HP3.out.2.2, if_pos hgt])
                  clear hgt
                  go_wp2_with fail
                  go_at_call 25
                  refine (failR_ok _ rb k2 s pl k1 2 HC7.out.rr).mono ?_
                  rintro x w8 ⟨rfl, h8⟩
                  have HAI := Lib.hid (show AI w rb s w.heap.size bb pl r' S lo hi w8 from ⟨HP1.out.2.1, HP3.out.2.1, k2, .inr ⟨k1, 45 :: r2, HC7.out.sf h8 HBB.out.1 HBB.out.2.2.2, HP1.out.1, HE.out⟩⟩)
                  clear h8
                  have hai := HAI.out
                  have i1 : (0 : Int) ≤ (lo : Int) := by omega
                  have i2 : (lo : Int) ≤ 255 := by have := hai.1; omega
                  have i3 : (hi : Int) ≤ 255 := by have := hai.2.1; omega
                  have i4 : (0 : Int) ≤ (hi : Int) := by omega
                  clear hai
                  go_wp2_with fail
                  go_loopw [9] (fun x wq => ∃ j : Nat, x = .int .i64 j ∧ lo ≤ j ∧ (j ≤ hi + 1 ∨ j = lo) ∧ AI w rb s w.heap.size bb pl r' (fun y => S y || (decide (lo ≤ y) && decide (y < j))) lo hi wq) (fun x _ => match x with | .int _ z => hi + 1 - z.toNat | _ => 0)
                  case atStart => exact ⟨lo, rfl, Nat.le_refl _, .inr rfl, HAI.out.congr fun i _ => by
                    have : (decide (lo ≤ i) && decide (i < lo)) = false := by rw [Bool.and_eq_false_iff]; simp; omega
                    rw [this, Bool.or_false]⟩
                  case round =>
                    obtain ⟨j, rfl, hj1, hj2, hA⟩ := hrel
                    by_cases hjh : j ≤ hi
                    · have g1 : (j : Int) ≤ (hi : Int) := by omega
                      have g2 : (0 : Int) ≤ (j : Int) := by omega
                      have g3 : (j : Int) < 256 := by omega
                      obtain ⟨m1, m2, m3⟩ := hA.mem
                      have m4 := m1 j (by omega)
                      have m5 := m2 j (by omega)
                      have hnx := hA.put (q := j) (S' := fun y => S y || (decide (lo ≤ y) && decide (y < j + 1))) HBB.out.1 HBB.out.2.1 HBB.out.2.2.1 (fun i _ => by
                        by_cases e : i = j
                        · subst e
                          simp [hj1]
                        · rw [if_neg e]
                          have : decide (i < j + 1) = decide (i < j) := by rw [decide_eq_decide]; omega
                          rw [this])
                      have HNX := Lib.hid hnx
                      have HJ := Lib.hid (And.intro hj1 hjh)
                      clear hA m1 m2 hnx hj1 hj2 hjh
                      go_wp2_with fail
                      exact ⟨⟨j + 1, by simp, by have := HJ.out.1; omega, .inl (by have := HJ.out.2; omega), HNX.out⟩, by have := HJ.out.2; simp; omega⟩
                    · have g1 : ¬ (j : Int) ≤ (hi : Int) := by omega
                      have hfin := hA.congr (S' := fun y => S y || between lo hi y) (fun i _ => by
                        have : (decide (lo ≤ i) && decide (i < j)) = between lo hi i := by unfold between; rw [Bool.eq_iff_iff]; simp; omega
                        rw [this])
                      have HFN := Lib.hid hfin
                      clear hA hj1 hj2 hjh hfin
                      go_wp2_with fail
                      obtain ⟨_, _, k2, ⟨r2, hc, ht2, hp⟩ | ⟨p, r2, hc, ht2, hp⟩⟩ := HFN.out
                      · have hle := pitem_le hp
                        have hm := HMORE.out
                        rw [hp] at hm
                        refine ⟨⟨false, _, k2, rfl, .inl ⟨r2, hc, ht2, hm⟩⟩, ?_⟩
                        rw [imeas_ok hc, HM0.out]
                        have a1 := HTL.out.1
                        have a2 := ht2.1
                        omega
                      · have hm := HMORE.out
                        rw [hp] at hm
                        refine ⟨⟨false, _, k2, rfl, .inr ⟨p, r2, hc, ht2, hm⟩⟩, ?_⟩
                        rw [imeas_er hc, HM0.out]
                        omega
                · have g1 : ¬ (hi : Int) < (lo : Int) := by omega
                  have HE : Hid (pitem r' = .ok (between lo hi) r3) := Lib.hid (by rw [HP3.out.2.2, if_neg hgt])
                  clear hgt
                  have HAI := Lib.hid (show AI w rb s w.heap.size bb pl r' S lo hi w7 from ⟨HP1.out.2.1, HP3.out.2.1, k2, .inl ⟨r3, HC7.out, HP3.out.1, HE.out⟩⟩)
                  have hai := HAI.out
                  have i1 : (0 : Int) ≤ (lo : Int) := by omega
                  have i2 : (lo : Int) ≤ 255 := by have := hai.1; omega
                  have i3 : (hi : Int) ≤ 255 := by have := hai.2.1; omega
                  have i4 : (0 : Int) ≤ (hi : Int) := by omega
                  clear hai
                  go_wp2_with fail
                  go_loopw [9] (fun x wq => ∃ j : Nat, x = .int .i64 j ∧ lo ≤ j ∧ (j ≤ hi + 1 ∨ j = lo) ∧ AI w rb s w.heap.size bb pl r' (fun y => S y || (decide (lo ≤ y) && decide (y < j))) lo hi wq) (fun x _ => match x with | .int _ z => hi + 1 - z.toNat | _ => 0)
                  case atStart => exact ⟨lo, rfl, Nat.le_refl _, .inr rfl, HAI.out.congr fun i _ => by
                    have : (decide (lo ≤ i) && decide (i < lo)) = false := by rw [Bool.and_eq_false_iff]; simp; omega
                    rw [this, Bool.or_false]⟩
                  case round =>
                    obtain ⟨j, rfl, hj1, hj2, hA⟩ := hrel
                    by_cases hjh : j ≤ hi
                    · have g1 : (j : Int) ≤ (hi : Int) := by omega
                      have g2 : (0 : Int) ≤ (j : Int) := by omega
                      have g3 : (j : Int) < 256 := by omega
                      obtain ⟨m1, m2, m3⟩ := hA.mem
                      have m4 := m1 j (by omega)
                      have m5 := m2 j (by omega)
                      have hnx := hA.put (q := j) (S' := fun y => S y || (decide (lo ≤ y) && decide (y < j + 1))) HBB.out.1 HBB.out.2.1 HBB.out.2.2.1 (fun i _ => by
                        by_cases e : i = j
                        · subst e
                          simp [hj1]
                        · rw [if_neg e]
                          have : decide (i < j + 1) = decide (i < j) := by rw [decide_eq_decide]; omega
                          rw [this])
                      have HNX := Lib.hid hnx
                      have HJ := Lib.hid (And.intro hj1 hjh)
                      clear hA m1 m2 hnx hj1 hj2 hjh
                      go_wp2_with fail
                      exact ⟨⟨j + 1, by simp, by have := HJ.out.1; omega, .inl (by have := HJ.out.2; omega), HNX.out⟩, by have := HJ.out.2; simp; omega⟩
                    · have g1 : ¬ (j : Int) ≤ (hi : Int) := by omega
                      have hfin := hA.congr (S' := fun y => S y || between lo hi y) (fun i _ => by
                        have : (decide (lo ≤ i) && decide (i < j)) = between lo hi i := by unfold between; rw [Bool.eq_iff_iff]; simp; omega
                        rw [this])
                      have HFN := Lib.hid hfin
                      clear hA hj1 hj2 hjh hfin
                      go_wp2_with fail
                      obtain ⟨_, _, k2, ⟨r2, hc, ht2, hp⟩ | ⟨p, r2, hc, ht2, hp⟩⟩ := HFN.out
                      · have hle := pitem_le hp
                        have hm := HMORE.out
                        rw [hp] at hm
                        refine ⟨⟨false, _, k2, rfl, .inl ⟨r2, hc, ht2, hm⟩⟩, ?_⟩
                        rw [imeas_ok hc, HM0.out]
                        have a1 := HTL.out.1
                        have a2 := ht2.1
                        omega
                      · have hm := HMORE.out
                        rw [hp] at hm
                        refine ⟨⟨false, _, k2, rfl, .inr ⟨p, r2, hc, ht2, hm⟩⟩, ?_⟩
                        rw [imeas_er hc, HM0.out]
                        omega
            · have hp2 := pitem_one HP1.out.2.2 h45
              have HP2 := Lib.hid (And.intro hp2 h45)
              clear h45 hp2
              go_wp2_with fail
              go_at_call 34
              refine (takeR_not _ rb k1 45 _ s pl HC5.out.rr HP1.out.1 HP2.out.2 (by decide)).mono ?_
              rintro x w6 ⟨rfl, h6⟩
              have HAI := Lib.hid (show AI w rb s w.heap.size bb pl r' S lo lo w6 from ⟨HP1.out.2.1, HP1.out.2.1, k1, .inl ⟨r1, HC5.out.sf h6 HBB.out.1 HBB.out.2.2.2, HP1.out.1, HP2.out.1⟩⟩)
              clear h6
              have hai := HAI.out
              have i1 : (0 : Int) ≤ (lo : Int) := by omega
              have i2 : (lo : Int) ≤ 255 := by have := hai.1; omega
              have i3 : (lo : Int) ≤ 255 := by have := hai.2.1; omega
              have i4 : (0 : Int) ≤ (lo : Int) := by omega
              clear hai
              go_wp2_with fail
              go_loopw [9] (fun x wq => ∃ j : Nat, x = .int .i64 j ∧ lo ≤ j ∧ (j ≤ lo + 1 ∨ j = lo) ∧ AI w rb s w.heap.size bb pl r' (fun y => S y || (decide (lo ≤ y) && decide (y < j))) lo lo wq) (fun x _ => match x with | .int _ z => lo + 1 - z.toNat | _ => 0)
              case atStart => exact ⟨lo, rfl, Nat.le_refl _, .inr rfl, HAI.out.congr fun i _ => by
                have : (decide (lo ≤ i) && decide (i < lo)) = false := by rw [Bool.and_eq_false_iff]; simp; omega
                rw [this, Bool.or_false]⟩
              case round =>
                obtain ⟨j, rfl, hj1, hj2, hA⟩ := hrel
                by_cases hjh : j ≤ lo
                · have g1 : (j : Int) ≤ (lo : Int) := by omega
                  have g2 : (0 : Int) ≤ (j : Int) := by omega
                  have g3 : (j : Int) < 256 := by omega
                  obtain ⟨m1, m2, m3⟩ := hA.mem
                  have m4 := m1 j (by omega)
                  have m5 := m2 j (by omega)
                  have hnx := hA.put (q := j) (S' := fun y => S y || (decide (lo ≤ y) && decide (y < j + 1))) HBB.out.1 HBB.out.2.1 HBB.out.2.2.1 (fun i _ => by
                    by_cases e : i = j
                    · subst e
                      simp [hj1]
                    · rw [if_neg e]
                      have : decide (i < j + 1) = decide (i < j) := by rw [decide_eq_decide]; omega
                      rw [this])
                  have HNX := Lib.hid hnx
                  have HJ := Lib.hid (And.intro hj1 hjh)
                  clear hA m1 m2 hnx hj1 hj2 hjh
                  go_wp2_with fail
                  exact ⟨⟨j + 1, by simp, by have := HJ.out.1; omega, .inl (by have := HJ.out.2; omega), HNX.out⟩, by have := HJ.out.2; simp; omega⟩
                · have g1 : ¬ (j : Int) ≤ (lo : Int) := by omega
                  have hfin := hA.congr (S' := fun y => S y || between lo lo y) (fun i _ => by
                    have : (decide (lo ≤ i) && decide (i < j)) = between lo lo i := by unfold between; rw [Bool.eq_iff_iff]; simp; omega
                    rw [this])
                  have HFN := Lib.hid hfin
                  clear hA hj1 hj2 hjh hfin
                  go_wp2_with fail
                  obtain ⟨_, _, k2, ⟨r2, hc, ht2, hp⟩ | ⟨p, r2, hc, ht2, hp⟩⟩ := HFN.out
                  · have hle := pitem_le hp
                    have hm := HMORE.out
                    rw [hp] at hm
                    refine ⟨⟨false, _, k2, rfl, .inl ⟨r2, hc, ht2, hm⟩⟩, ?_⟩
                    rw [imeas_ok hc, HM0.out]
                    have a1 := HTL.out.1
                    have a2 := ht2.1
                    omega
                  · have hm := HMORE.out
                    rw [hp] at hm
                    refine ⟨⟨false, _, k2, rfl, .inr ⟨p, r2, hc, ht2, hm⟩⟩, ?_⟩
                    rw [imeas_er hc, HM0.out]
                    omega
        | false =>
          by_cases h93 : r'.head? = some 93
          · obtain ⟨r2, rfl⟩ : ∃ r2, r' = 93 :: r2 := by cases r' with
              | nil => simp at h93
              | cons b r => simp at h93; subst h93; exact ⟨r, rfl⟩
            rw [pitems_end] at hpi
            have HPI := Lib.hid hpi
            clear hpi h93
            go_wp2_with fail
            go_at_call 34
            refine (takeR_yes _ rb k' 93 r2 s pl HCI0.out.rr HTL.out HT.out.2 (by decide)).mono ?_
            rintro x w4 ⟨rfl, h4⟩
            obtain ⟨kz, plz, ez, SS, wZ, hall⟩ : ∃ (kz : Nat) (plz ez : Int) (SS : Nat → Bool) (wZ : World), kz = k' + 1 ∧ plz = pl ∧ ez = 0 ∧ SS = S ∧ wZ = w4 := ⟨_, _, _, _, _, rfl, rfl, rfl, rfl, rfl⟩
            obtain ⟨ekz, eplz, eez, eSS, eZ⟩ := hall
            have HCI : Hid (CI w rb s w.heap.size bb kz plz ez SS wZ) := Lib.hid (by rw [ekz, eplz, eez, eSS, eZ]; exact HCI0.out.sf h4 HBB.out.1 HBB.out.2.2.2)
            have HFIN : Hid (∀ x w', x = .returned (.agg #[.int .u64 (canon (fun y => !SS y) 0 : Nat), .int .u64 (canon (fun y => !SS y) 1 : Nat), .int .u64 (canon (fun y => !SS y) 2 : Nat), .int .u64 (canon (fun y => !SS y) 3 : Nat)]) → Sf w rb s kz plz ez w' → Clg o s w rb pl x w') := Lib.hid (by
              intro x w' hx hs
              rw [HPB.out _ HPI.out, ekz, eplz, eez] at *
              rw [eSS] at hx
              exact ⟨k' + 1, HTL.out.tail, hx, hs⟩)
            rw [← eZ]
            clear ekz eplz eez eSS h4 z1 z2 eZ
            go_wp2_with fail
            go_loopw [10] (fun x wq => ∃ j : Nat, x = .int .i64 j ∧ j ≤ 256 ∧ CI w rb s w.heap.size bb kz plz ez (fun y => if y < j then !SS y else SS y) wq) (fun x _ => match x with | .int _ z => 256 - z.toNat | _ => 0)
            case atStart => exact ⟨0, rfl, by omega, HCI.out.congr fun i _ => by simp⟩
            case round =>
              obtain ⟨j, rfl, hj, hC⟩ := hrel
              by_cases hjl : j < 256
              · have g1 : (j : Int) < 256 := by omega
                have g2 : (0 : Int) ≤ (j : Int) := by omega
                have m1 := hC.bs j hjl
                have m2 := hC.bf j hjl
                have m3 := hC.hb
                have m4 : (if j < j then !SS j else SS j) = SS j := by simp
                simp only [m4] at m1
                have hnx := hC.put (q := j) (v := !SS j) (S' := fun y => if y < j + 1 then !SS y else SS y) HBB.out.1 HBB.out.2.1 HBB.out.2.2.1 (fun i _ => by
                  by_cases e : i = j
                  · subst e
                    simp
                  · rw [if_neg e]
                    have : (i < j + 1) = (i < j) := by rw [eq_iff_iff]; omega
                    simp only [this])
                have HNX := Lib.hid hnx
                clear hC hnx hj m4
                generalize SS j = sj at *
                go_wp2_with fail
                exact ⟨⟨j + 1, by simp, by omega, HNX.out⟩, by simp; omega⟩
              · have g1 : ¬ (j : Int) < 256 := by omega
                have hfin := hC.congr (S' := fun y => !SS y) (fun i hi => by rw [if_pos (by omega)])
                have HCF := Lib.hid hfin
                clear hC hfin hj hjl
                have r1 := HCF.out.bs.range
                have i1 : (Try.prog.info? 86).map (·.size) = some (boolList (fun y => !SS y)).length := by rw [boolList_length]; exact (zero_of_info infoBools).2
                have m1 := made_class (fun y => !SS y)
                generalize boolList (fun y => !SS y) = L1 at r1 i1 m1
                have MM := Lib.hid m1
                clear m1
                go_wp2_with (refine wpList_load_mid (by rfl) 86 (.tmp 4) (by rfl) _ 0 (by rfl) L1 _ r1 Try.underlying86 (by rfl) i1 ?_)
                go_at_call 50
                refine (MM.out _).mono ?_
                rintro x w8 ⟨rfl, hb8⟩
                have c8 := HCF.out.cs.below hb8
                have f8 := HCF.out.cf.below HCF.out.cs.lt hb8
                have s8 : Sf w rb s kz plz ez w8 := ⟨HCF.out.rr.keep (Chg.of_below (R := fun _ => False) hb8) id, HCF.out.chg.trans (Chg.of_below (R := fun x => x = rb) hb8) fun _ _ h => h⟩
                have HL8 := Lib.hid (And.intro s8 (store4_same (C := canon (fun y => !SS y)) c8))
                obtain ⟨d0, d1, d2, d3⟩ := c8.four
                have e0 := f8 0 (by decide)
                have e1 := f8 1 (by decide)
                have e2 := f8 2 (by decide)
                have e3 := f8 3 (by decide)
                clear r1 i1 c8 f8 s8 hb8
                go_wp2_with fail
                refine bodyPost_ret (v := .agg #[.int .u64 (canon (fun y => !SS y) 0 : Nat), .int .u64 (canon (fun y => !SS y) 1 : Nat), .int .u64 (canon (fun y => !SS y) 2 : Nat), .int .u64 (canon (fun y => !SS y) 3 : Nat)]) (by simp [results, Try.results49, go_sem, d0, d1, d2, d3]) rfl (HFIN.out _ _ rfl ?_)
                exact sf_store4 HL8.out.1 HBB.out.2.2.2 (canon (fun y => !SS y))
          · have HMORE := Lib.hid (hpi.trans (pitems_more (fun h => h93 h.2)))
            have HN93 := Lib.hid h93
            clear hpi h93
            go_wp2_with fail
            go_at_call 34
            refine (takeR_not _ rb k' 93 _ s pl HCI0.out.rr HTL.out HN93.out (by decide)).mono ?_
            rintro x w3 ⟨rfl, h3⟩
            have HCI := Lib.hid (HCI0.out.sf h3 HBB.out.1 HBB.out.2.2.2)
            clear h3 z1 z2
            go_wp2_with fail
            go_at_call 58
            refine (itemR_any _ rb k' r' s pl HCI.out.rr HTL.out HT.out.2).mono ?_
            intro x w4 hB
            cases hpl : pplain itemMarks r' with
            | er r2 c =>
              rw [hpl] at hB
              have hc2 : c = 2 := pplain_two hpl
              subst hc2
              obtain ⟨lo, k2, p, hlo, ht2, rfl, h4⟩ := hB
              have HC4 := Lib.hid (HCI.out.sf h4 HBB.out.1 HBB.out.2.2.2)
              have HP2 := Lib.hid (And.intro ht2 (And.intro hlo (pitem_er1 hpl)))
              have z1 := HC4.out.rr.pos
              have z2 := HC4.out.rr.lt
              clear h4 hpl ht2 hlo
              go_wp2_with fail
              go_quiet (fail)
              have HC5 := Lib.hid (HC4.out.drewN nq)
              clear z1 z2
              go_wp2_with fail
              go_at_call 34
              refine (takeR_bad _ rb k2 45 s _ _ HC5.out.rr (by decide) (by decide)).mono ?_
              rintro x w6 ⟨rfl, h6⟩
              have HAI := Lib.hid (show AI w rb s w.heap.size bb pl r' S lo lo w6 from ⟨HP2.out.2.1, HP2.out.2.1, k2, .inr ⟨p, r2, HC5.out.sf h6 HBB.out.1 HBB.out.2.2.2, HP2.out.1, HP2.out.2.2⟩⟩)
              clear h6
              have hai := HAI.out
              have i1 : (0 : Int) ≤ (lo : Int) := by omega
              have i2 : (lo : Int) ≤ 255 := by have := hai.1; omega
              have i3 : (lo : Int) ≤ 255 := by have := hai.2.1; omega
              have i4 : (0 : Int) ≤ (lo : Int) := by omega
              clear hai
              go_wp2_with fail
              go_loopw [9] (fun x wq => ∃ j : Nat, x = .int .i64 j ∧ lo ≤ j ∧ (j ≤ lo + 1 ∨ j = lo) ∧ AI w rb s w.heap.size bb pl r' (fun y => S y || (decide (lo ≤ y) && decide (y < j))) lo lo wq) (fun x _ => match x with | .int _ z => lo + 1 - z.toNat | _ => 0)
              case atStart => exact ⟨lo, rfl, Nat.le_refl _, .inr rfl, HAI.out.congr fun i _ => by
                have : (decide (lo ≤ i) && decide (i < lo)) = false := by rw [Bool.and_eq_false_iff]; simp; omega
                rw [this, Bool.or_false]⟩
              case round =>
                obtain ⟨j, rfl, hj1, hj2, hA⟩ := hrel
                by_cases hjh : j ≤ lo
                · have g1 : (j : Int) ≤ (lo : Int) := by omega
                  have g2 : (0 : Int) ≤ (j : Int) := by omega
                  have g3 : (j : Int) < 256 := by omega
                  obtain ⟨m1, m2, m3⟩ := hA.mem
                  have m4 := m1 j (by omega)
                  have m5 := m2 j (by omega)
                  have hnx := hA.put (q := j) (S' := fun y => S y || (decide (lo ≤ y) && decide (y < j + 1))) HBB.out.1 HBB.out.2.1 HBB.out.2.2.1 (fun i _ => by
                    by_cases e : i = j
                    · subst e
                      simp [hj1]
                    · rw [if_neg e]
                      have : decide (i < j + 1) = decide (i < j) := by rw [decide_eq_decide]; omega
                      rw [this])
                  have HNX := Lib.hid hnx
                  have HJ := Lib.hid (And.intro hj1 hjh)
                  clear hA m1 m2 hnx hj1 hj2 hjh
                  go_wp2_with fail
                  exact ⟨⟨j + 1, by simp, by have := HJ.out.1; omega, .inl (by have := HJ.out.2; omega), HNX.out⟩, by have := HJ.out.2; simp; omega⟩
                · have g1 : ¬ (j : Int) ≤ (lo : Int) := by omega
                  have hfin := hA.congr (S' := fun y => S y || between lo lo y) (fun i _ => by
                    have : (decide (lo ≤ i) && decide (i < j)) = between lo lo i := by unfold between; rw [Bool.eq_iff_iff]; simp; omega
                    rw [this])
                  have HFN := Lib.hid hfin
                  clear hA hj1 hj2 hjh hfin
                  go_wp2_with fail
                  obtain ⟨_, _, k2, ⟨r2, hc, ht2, hp⟩ | ⟨p, r2, hc, ht2, hp⟩⟩ := HFN.out
                  · have hle := pitem_le hp
                    have hm := HMORE.out
                    rw [hp] at hm
                    refine ⟨⟨false, _, k2, rfl, .inl ⟨r2, hc, ht2, hm⟩⟩, ?_⟩
                    rw [imeas_ok hc, HM0.out]
                    have a1 := HTL.out.1
                    have a2 := ht2.1
                    omega
                  · have hm := HMORE.out
                    rw [hp] at hm
                    refine ⟨⟨false, _, k2, rfl, .inr ⟨p, r2, hc, ht2, hm⟩⟩, ?_⟩
                    rw [imeas_er hc, HM0.out]
                    omega
            | ok lo r1 =>
              rw [hpl] at hB
              obtain ⟨hlo, k1, ht1, rfl, h4⟩ := hB
              have HC4 := Lib.hid (HCI.out.sf h4 HBB.out.1 HBB.out.2.2.2)
              have HP1 := Lib.hid (And.intro ht1 (And.intro hlo hpl))
              have z1 := HC4.out.rr.pos
              have z2 := HC4.out.rr.lt
              clear h4 hpl ht1 hlo
              go_wp2_with fail
              go_quiet (fail)
              have HC5 := Lib.hid (HC4.out.drewN nq)
              clear z1 z2
              by_cases h45 : r1.head? = some 45
              · obtain ⟨r2, rfl⟩ : ∃ r2, r1 = 45 :: r2 := by cases r1 with
                  | nil => simp at h45
                  | cons b r => simp at h45; subst h45; exact ⟨r, rfl⟩
                have hp2 := pitem_two HP1.out.2.2
                have HP2 := Lib.hid hp2
                clear h45 hp2
                go_wp2_with fail
                go_at_call 34
                refine (takeR_yes _ rb k1 45 r2 s pl HC5.out.rr HP1.out.1 HT.out.2 (by decide)).mono ?_
                rintro x w6 ⟨rfl, h6⟩
                have HC6 := Lib.hid (HC5.out.sf h6 HBB.out.1 HBB.out.2.2.2)
                clear h6
                go_wp2_with fail
                go_at_call 58
                refine (itemR_any _ rb (k1 + 1) r2 s pl HC6.out.rr HP1.out.1.tail HT.out.2).mono ?_
                intro x w7 hB
                cases hpl : pplain itemMarks r2 with
                | er r3 c =>
                  rw [hpl] at hB
                  have hc2 : c = 2 := pplain_two hpl
                  subst hc2
                  obtain ⟨hi, k2, p, hhi, ht2, rfl, h7⟩ := hB
                  have HC7 := Lib.hid (HC6.out.sf h7 HBB.out.1 HBB.out.2.2.2)
                  have HP3 := Lib.hid (And.intro ht2 (And.intro hhi (show pitem r' = .er r3 2 by rw [HP2.out, hpl])))
                  clear h7 hpl ht2 hhi
                  by_cases hgt : hi < lo
                  · have g1 : (hi : Int) < (lo : Int) := by omega
                    clear hgt
                    go_wp2_with fail
                    go_at_call 25
                    refine (failR_bad _ rb k2 s _ _ _ _ HC7.out.rr (by decide)).mono ?_
                    rintro x w8 ⟨rfl, h8⟩
                    have HAI := Lib.hid (show AI w rb s w.heap.size bb pl r' S lo hi w8 from ⟨HP1.out.2.1, HP3.out.2.1, k2, .inr ⟨p, r3, HC7.out.sf h8 HBB.out.1 HBB.out.2.2.2, HP3.out.1, HP3.out.2.2⟩⟩)
                    clear h8
                    have hai := HAI.out
                    have i1 : (0 : Int) ≤ (lo : Int) := by omega
                    have i2 : (lo : Int) ≤ 255 := by have := hai.1; omega
                    have i3 : (hi : Int) ≤ 255 := by have := hai.2.1; omega
                    have i4 : (0 : Int) ≤ (hi : Int) := by omega
                    clear hai
                    go_wp2_with fail
                    go_loopw [9] (fun x wq => ∃ j : Nat, x = .int .i64 j ∧ lo ≤ j ∧ (j ≤ hi + 1 ∨ j = lo) ∧ AI w rb s w.heap.size bb pl r' (fun y => S y || (decide (lo ≤ y) && decide (y < j))) lo hi wq) (fun x _ => match x with | .int _ z => hi + 1 - z.toNat | _ => 0)
                    case atStart => exact ⟨lo, rfl, Nat.le_refl _, .inr rfl, HAI.out.congr fun i _ => by
                      have : (decide (lo ≤ i) && decide (i < lo)) = false := by rw [Bool.and_eq_false_iff]; simp; omega
                      rw [this, Bool.or_false]⟩
                    case round =>
                      obtain ⟨j, rfl, hj1, hj2, hA⟩ := hrel
                      by_cases hjh : j ≤ hi
                      · have g1 : (j : Int) ≤ (hi : Int) := by omega
                        have g2 : (0 : Int) ≤ (j : Int) := by omega
                        have g3 : (j : Int) < 256 := by omega
                        obtain ⟨m1, m2, m3⟩ := hA.mem
                        have m4 := m1 j (by omega)
                        have m5 := m2 j (by omega)
                        have hnx := hA.put (q := j) (S' := fun y => S y || (decide (lo ≤ y) && decide (y < j + 1))) HBB.out.1 HBB.out.2.1 HBB.out.2.2.1 (fun i _ => by
                          by_cases e : i = j
                          · subst e
                            simp [hj1]
                          · rw [if_neg e]
                            have : decide (i < j + 1) = decide (i < j) := by rw [decide_eq_decide]; omega
                            rw [this])
                        have HNX := Lib.hid hnx
                        have HJ := Lib.hid (And.intro hj1 hjh)
                        clear hA m1 m2 hnx hj1 hj2 hjh
                        go_wp2_with fail
                        exact ⟨⟨j + 1, by simp, by have := HJ.out.1; omega, .inl (by have := HJ.out.2; omega), HNX.out⟩, by have := HJ.out.2; simp; omega⟩
                      · have g1 : ¬ (j : Int) ≤ (hi : Int) := by omega
                        have hfin := hA.congr (S' := fun y => S y || between lo hi y) (fun i _ => by
                          have : (decide (lo ≤ i) && decide (i < j)) = between lo hi i := by unfold between; rw [Bool.eq_iff_iff]; simp; omega
                          rw [this])
                        have HFN := Lib.hid hfin
                        clear hA hj1 hj2 hjh hfin
                        go_wp2_with fail
                        obtain ⟨_, _, k2, ⟨r2, hc, ht2, hp⟩ | ⟨p, r2, hc, ht2, hp⟩⟩ := HFN.out
                        · have hle := pitem_le hp
                          have hm := HMORE.out
                          rw [hp] at hm
                          refine ⟨⟨false, _, k2, rfl, .inl ⟨r2, hc, ht2, hm⟩⟩, ?_⟩
                          rw [imeas_ok hc, HM0.out]
                          have a1 := HTL.out.1
                          have a2 := ht2.1
                          omega
                        · have hm := HMORE.out
                          rw [hp] at hm
                          refine ⟨⟨false, _, k2, rfl, .inr ⟨p, r2, hc, ht2, hm⟩⟩, ?_⟩
                          rw [imeas_er hc, HM0.out]
                          omega
                  · have g1 : ¬ (hi : Int) < (lo : Int) := by omega
                    clear hgt
                    have HAI := Lib.hid (show AI w rb s w.heap.size bb pl r' S lo hi w7 from ⟨HP1.out.2.1, HP3.out.2.1, k2, .inr ⟨p, r3, HC7.out, HP3.out.1, HP3.out.2.2⟩⟩)
                    have hai := HAI.out
                    have i1 : (0 : Int) ≤ (lo : Int) := by omega
                    have i2 : (lo : Int) ≤ 255 := by have := hai.1; omega
                    have i3 : (hi : Int) ≤ 255 := by have := hai.2.1; omega
                    have i4 : (0 : Int) ≤ (hi : Int) := by omega
                    clear hai
                    go_wp2_with fail
                    go_loopw [9] (fun x wq => ∃ j : Nat, x = .int .i64 j ∧ lo ≤ j ∧ (j ≤ hi + 1 ∨ j = lo) ∧ AI w rb s w.heap.size bb pl r' (fun y => S y || (decide (lo ≤ y) && decide (y < j))) lo hi wq) (fun x _ => match x with | .int _ z => hi + 1 - z.toNat | _ => 0)
                    case atStart => exact ⟨lo, rfl, Nat.le_refl _, .inr rfl, HAI.out.congr fun i _ => by
                      have : (decide (lo ≤ i) && decide (i < lo)) = false := by rw [Bool.and_eq_false_iff]; simp; omega
                      rw [this, Bool.or_false]⟩
                    case round =>
                      obtain ⟨j, rfl, hj1, hj2, hA⟩ := hrel
                      by_cases hjh : j ≤ hi
                      · have g1 : (j : Int) ≤ (hi : Int) := by omega
                        have g2 : (0 : Int) ≤ (j : Int) := by omega
                        have g3 : (j : Int) < 256 := by omega
                        obtain ⟨m1, m2, m3⟩ := hA.mem
                        have m4 := m1 j (by omega)
                        have m5 := m2 j (by omega)
                        have hnx := hA.put (q := j) (S' := fun y => S y || (decide (lo ≤ y) && decide (y < j + 1))) HBB.out.1 HBB.out.2.1 HBB.out.2.2.1 (fun i _ => by
                          by_cases e : i = j
                          · subst e
                            simp [hj1]
                          · rw [if_neg e]
                            have : decide (i < j + 1) = decide (i < j) := by rw [decide_eq_decide]; omega
                            rw [this])
                        have HNX := Lib.hid hnx
                        have HJ := Lib.hid (And.intro hj1 hjh)
                        clear hA m1 m2 hnx hj1 hj2 hjh
                        go_wp2_with fail
                        exact ⟨⟨j + 1, by simp, by have := HJ.out.1; omega, .inl (by have := HJ.out.2; omega), HNX.out⟩, by have := HJ.out.2; simp; omega⟩
                      · have g1 : ¬ (j : Int) ≤ (hi : Int) := by omega
                        have hfin := hA.congr (S' := fun y => S y || between lo hi y) (fun i _ => by
                          have : (decide (lo ≤ i) && decide (i < j)) = between lo hi i := by unfold between; rw [Bool.eq_iff_iff]; simp; omega
                          rw [this])
                        have HFN := Lib.hid hfin
                        clear hA hj1 hj2 hjh hfin
                        go_wp2_with fail
                        obtain ⟨_, _, k2, ⟨r2, hc, ht2, hp⟩ | ⟨p, r2, hc, ht2, hp⟩⟩ := HFN.out
                        · have hle := pitem_le hp
                          have hm := HMORE.out
                          rw [hp] at hm
                          refine ⟨⟨false, _, k2, rfl, .inl ⟨r2, hc, ht2, hm⟩⟩, ?_⟩
                          rw [imeas_ok hc, HM0.out]
                          have a1 := HTL.out.1
                          have a2 := ht2.1
                          omega
                        · have hm := HMORE.out
                          rw [hp] at hm
                          refine ⟨⟨false, _, k2, rfl, .inr ⟨p, r2, hc, ht2, hm⟩⟩, ?_⟩
                          rw [imeas_er hc, HM0.out]
                          omega
                | ok hi r3 =>
                  rw [hpl] at hB
                  obtain ⟨hhi, k2, ht2, rfl, h7⟩ := hB
                  have HC7 := Lib.hid (HC6.out.sf h7 HBB.out.1 HBB.out.2.2.2)
                  have HP3 := Lib.hid (And.intro ht2 (And.intro hhi (show pitem r' = if lo > hi then .er (45 :: r2) 2 else .ok (between lo hi) r3 by rw [HP2.out, hpl])))
                  clear h7 hpl ht2 hhi
                  by_cases hgt : hi < lo
                  · have g1 : (hi : Int) < (lo : Int) := by omega
                    have HE : Hid (pitem r' = .er (45 :: r2) 2) := Lib.hid (by rw [HP3.out.2.2, if_pos hgt])
                    clear hgt
                    go_wp2_with fail
                    go_at_call 25
                    refine (failR_ok _ rb k2 s pl k1 2 HC7.out.rr).mono ?_
                    rintro x w8 ⟨rfl, h8⟩
                    have HAI := Lib.hid (show AI w rb s w.heap.size bb pl r' S lo hi w8 from ⟨HP1.out.2.1, HP3.out.2.1, k2, .inr ⟨k1, 45 :: r2, HC7.out.sf h8 HBB.out.1 HBB.out.2.2.2, HP1.out.1, HE.out⟩⟩)
                    clear h8
                    have hai := HAI.out
                    have i1 : (0 : Int) ≤ (lo : Int) := by omega
                    have i2 : (lo : Int) ≤ 255 := by have := hai.1; omega
                    have i3 : (hi : Int) ≤ 255 := by have := hai.2.1; omega
                    have i4 : (0 : Int) ≤ (hi : Int) := by omega
                    clear hai
                    go_wp2_with fail
                    go_loopw [9] (fun x wq => ∃ j : Nat, x = .int .i64 j ∧ lo ≤ j ∧ (j ≤ hi + 1 ∨ j = lo) ∧ AI w rb s w.heap.size bb pl r' (fun y => S y || (decide (lo ≤ y) && decide (y < j))) lo hi wq) (fun x _ => match x with | .int _ z => hi + 1 - z.toNat | _ => 0)
                    case atStart => exact ⟨lo, rfl, Nat.le_refl _, .inr rfl, HAI.out.congr fun i _ => by
                      have : (decide (lo ≤ i) && decide (i < lo)) = false := by rw [Bool.and_eq_false_iff]; simp; omega
                      rw [this, Bool.or_false]⟩
                    case round =>
                      obtain ⟨j, rfl, hj1, hj2, hA⟩ := hrel
                      by_cases hjh : j ≤ hi
                      · have g1 : (j : Int) ≤ (hi : Int) := by omega
                        have g2 : (0 : Int) ≤ (j : Int) := by omega
                        have g3 : (j : Int) < 256 := by omega
                        obtain ⟨m1, m2, m3⟩ := hA.mem
                        have m4 := m1 j (by omega)
                        have m5 := m2 j (by omega)
                        have hnx := hA.put (q := j) (S' := fun y => S y || (decide (lo ≤ y) && decide (y < j + 1))) HBB.out.1 HBB.out.2.1 HBB.out.2.2.1 (fun i _ => by
                          by_cases e : i = j
                          · subst e
                            simp [hj1]
                          · rw [if_neg e]
                            have : decide (i < j + 1) = decide (i < j) := by rw [decide_eq_decide]; omega
                            rw [this])
                        have HNX := Lib.hid hnx
                        have HJ := Lib.hid (And.intro hj1 hjh)
                        clear hA m1 m2 hnx hj1 hj2 hjh
                        go_wp2_with fail
                        exact ⟨⟨j + 1, by simp, by have := HJ.out.1; omega, .inl (by have := HJ.out.2; omega), HNX.out⟩, by have := HJ.out.2; simp; omega⟩
                      · have g1 : ¬ (j : Int) ≤ (hi : Int) := by omega
                        have hfin := hA.congr (S' := fun y => S y || between lo hi y) (fun i _ => by
                          have : (decide (lo ≤ i) && decide (i < j)) = between lo hi i := by unfold between; rw [Bool.eq_iff_iff]; simp; omega
                          rw [this])
                        have HFN := Lib.hid hfin
                        clear hA hj1 hj2 hjh hfin
                        go_wp2_with fail
                        obtain ⟨_, _, k2, ⟨r2, hc, ht2, hp⟩ | ⟨p, r2, hc, ht2, hp⟩⟩ := HFN.out
                        · have hle := pitem_le hp
                          have hm := HMORE.out
                          rw [hp] at hm
                          refine ⟨⟨false, _, k2, rfl, .inl ⟨r2, hc, ht2, hm⟩⟩, ?_⟩
                          rw [imeas_ok hc, HM0.out]
                          have a1 := HTL.out.1
                          have a2 := ht2.1
                          omega
                        · have hm := HMORE.out
                          rw [hp] at hm
                          refine ⟨⟨false, _, k2, rfl, .inr ⟨p, r2, hc, ht2, hm⟩⟩, ?_⟩
                          rw [imeas_er hc, HM0.out]
                          omega
                  · have g1 : ¬ (hi : Int) < (lo : Int) := by omega
                    have HE : Hid (pitem r' = .ok (between lo hi) r3) := Lib.hid (by rw [HP3.out.2.2, if_neg hgt])
                    clear hgt
                    have HAI := Lib.hid (show AI w rb s w.heap.size bb pl r' S lo hi w7 from ⟨HP1.out.2.1, HP3.out.2.1, k2, .inl ⟨r3, HC7.out, HP3.out.1, HE.out⟩⟩)
                    have hai := HAI.out
                    have i1 : (0 : Int) ≤ (lo : Int) := by omega
                    have i2 : (lo : Int) ≤ 255 := by have := hai.1; omega
                    have i3 : (hi : Int) ≤ 255 := by have := hai.2.1; omega
                    have i4 : (0 : Int) ≤ (hi : Int) := by omega
                    clear hai
                    go_wp2_with fail
                    go_loopw [9] (fun x wq => ∃ j : Nat, x = .int .i64 j ∧ lo ≤ j ∧ (j ≤ hi + 1 ∨ j = lo) ∧ AI w rb s w.heap.size bb pl r' (fun y => S y || (decide (lo ≤ y) && decide (y < j))) lo hi wq) (fun x _ => match x with | .int _ z => hi + 1 - z.toNat | _ => 0)
                    case atStart => exact ⟨lo, rfl, Nat.le_refl _, .inr rfl, HAI.out.congr fun i _ => by
                      have : (decide (lo ≤ i) && decide (i < lo)) = false := by rw [Bool.and_eq_false_iff]; simp; omega
                      rw [this, Bool.or_false]⟩
                    case round =>
                      obtain ⟨j, rfl, hj1, hj2, hA⟩ := hrel
                      by_cases hjh : j ≤ hi
                      · have g1 : (j : Int) ≤ (hi : Int) := by omega
                        have g2 : (0 : Int) ≤ (j : Int) := by omega
                        have g3 : (j : Int) < 256 := by omega
                        obtain ⟨m1, m2, m3⟩ := hA.mem
                        have m4 := m1 j (by omega)
                        have m5 := m2 j (by omega)
                        have hnx := hA.put (q := j) (S' := fun y => S y || (decide (lo ≤ y) && decide (y < j + 1))) HBB.out.1 HBB.out.2.1 HBB.out.2.2.1 (fun i _ => by
                          by_cases e : i = j
                          · subst e
                            simp [hj1]
                          · rw [if_neg e]
                            have : decide (i < j + 1) = decide (i < j) := by rw [decide_eq_decide]; omega
                            rw [this])
                        have HNX := Lib.hid hnx
                        have HJ := Lib.hid (And.intro hj1 hjh)
                        clear hA m1 m2 hnx hj1 hj2 hjh
                        go_wp2_with fail
                        exact ⟨⟨j + 1, by simp, by have := HJ.out.1; omega, .inl (by have := HJ.out.2; omega), HNX.out⟩, by have := HJ.out.2; simp; omega⟩
                      · have g1 : ¬ (j : Int) ≤ (hi : Int) := by omega
                        have hfin := hA.congr (S' := fun y => S y || between lo hi y) (fun i _ => by
                          have : (decide (lo ≤ i) && decide (i < j)) = between lo hi i := by unfold between; rw [Bool.eq_iff_iff]; simp; omega
                          rw [this])
                        have HFN := Lib.hid hfin
                        clear hA hj1 hj2 hjh hfin
                        go_wp2_with fail
                        obtain ⟨_, _, k2, ⟨r2, hc, ht2, hp⟩ | ⟨p, r2, hc, ht2, hp⟩⟩ := HFN.out
                        · have hle := pitem_le hp
                          have hm := HMORE.out
                          rw [hp] at hm
                          refine ⟨⟨false, _, k2, rfl, .inl ⟨r2, hc, ht2, hm⟩⟩, ?_⟩
                          rw [imeas_ok hc, HM0.out]
                          have a1 := HTL.out.1
                          have a2 := ht2.1
                          omega
                        · have hm := HMORE.out
                          rw [hp] at hm
                          refine ⟨⟨false, _, k2, rfl, .inr ⟨p, r2, hc, ht2, hm⟩⟩, ?_⟩
                          rw [imeas_er hc, HM0.out]
                          omega
              · have hp2 := pitem_one HP1.out.2.2 h45
                have HP2 := Lib.hid (And.intro hp2 h45)
                clear h45 hp2
                go_wp2_with fail
                go_at_call 34
                refine (takeR_not _ rb k1 45 _ s pl HC5.out.rr HP1.out.1 HP2.out.2 (by decide)).mono ?_
                rintro x w6 ⟨rfl, h6⟩
                have HAI := Lib.hid (show AI w rb s w.heap.size bb pl r' S lo lo w6 from ⟨HP1.out.2.1, HP1.out.2.1, k1, .inl ⟨r1, HC5.out.sf h6 HBB.out.1 HBB.out.2.2.2, HP1.out.1, HP2.out.1⟩⟩)
                clear h6
                have hai := HAI.out
                have i1 : (0 : Int) ≤ (lo : Int) := by omega
                have i2 : (lo : Int) ≤ 255 := by have := hai.1; omega
                have i3 : (lo : Int) ≤ 255 := by have := hai.2.1; omega
                have i4 : (0 : Int) ≤ (lo : Int) := by omega
                clear hai
                go_wp2_with fail
                go_loopw [9] (fun x wq => ∃ j : Nat, x = .int .i64 j ∧ lo ≤ j ∧ (j ≤ lo + 1 ∨ j = lo) ∧ AI w rb s w.heap.size bb pl r' (fun y => S y || (decide (lo ≤ y) && decide (y < j))) lo lo wq) (fun x _ => match x with | .int _ z => lo + 1 - z.toNat | _ => 0)
                case atStart => exact ⟨lo, rfl, Nat.le_refl _, .inr rfl, HAI.out.congr fun i _ => by
                  have : (decide (lo ≤ i) && decide (i < lo)) = false := by rw [Bool.and_eq_false_iff]; simp; omega
                  rw [this, Bool.or_false]⟩
                case round =>
                  obtain ⟨j, rfl, hj1, hj2, hA⟩ := hrel
                  by_cases hjh : j ≤ lo
                  · have g1 : (j : Int) ≤ (lo : Int) := by omega
                    have g2 : (0 : Int) ≤ (j : Int) := by omega
                    have g3 : (j : Int) < 256 := by omega
                    obtain ⟨m1, m2, m3⟩ := hA.mem
                    have m4 := m1 j (by omega)
                    have m5 := m2 j (by omega)
                    have hnx := hA.put (q := j) (S' := fun y => S y || (decide (lo ≤ y) && decide (y < j + 1))) HBB.out.1 HBB.out.2.1 HBB.out.2.2.1 (fun i _ => by
                      by_cases e : i = j
                      · subst e
                        simp [hj1]
                      · rw [if_neg e]
                        have : decide (i < j + 1) = decide (i < j) := by rw [decide_eq_decide]; omega
                        rw [this])
                    have HNX := Lib.hid hnx
                    have HJ := Lib.hid (And.intro hj1 hjh)
                    clear hA m1 m2 hnx hj1 hj2 hjh
                    go_wp2_with fail
                    exact ⟨⟨j + 1, by simp, by have := HJ.out.1; omega, .inl (by have := HJ.out.2; omega), HNX.out⟩, by have := HJ.out.2; simp; omega⟩
                  · have g1 : ¬ (j : Int) ≤ (lo : Int) := by omega
                    have hfin := hA.congr (S' := fun y => S y || between lo lo y) (fun i _ => by
                      have : (decide (lo ≤ i) && decide (i < j)) = between lo lo i := by unfold between; rw [Bool.eq_iff_iff]; simp; omega
                      rw [this])
                    have HFN := Lib.hid hfin
                    clear hA hj1 hj2 hjh hfin
                    go_wp2_with fail
                    obtain ⟨_, _, k2, ⟨r2, hc, ht2, hp⟩ | ⟨p, r2, hc, ht2, hp⟩⟩ := HFN.out
                    · have hle := pitem_le hp
                      have hm := HMORE.out
                      rw [hp] at hm
                      refine ⟨⟨false, _, k2, rfl, .inl ⟨r2, hc, ht2, hm⟩⟩, ?_⟩
                      rw [imeas_ok hc, HM0.out]
                      have a1 := HTL.out.1
                      have a2 := ht2.1
                      omega
                    · have hm := HMORE.out
                      rw [hp] at hm
                      refine ⟨⟨false, _, k2, rfl, .inr ⟨p, r2, hc, ht2, hm⟩⟩, ?_⟩
                      rw [imeas_er hc, HM0.out]
                      omega
      · have z1 := hC.rr.err
        have z2 := hC.rr.lt
        obtain ⟨kz, plz, ez, SS, hall⟩ : ∃ (kz : Nat) (plz ez : Int) (SS : Nat → Bool), kz = k' ∧ plz = p ∧ ez = 2 ∧ SS = S := ⟨_, _, _, _, rfl, rfl, rfl, rfl⟩
        obtain ⟨ekz, eplz, eez, eSS⟩ := hall
        have HCI : Hid (CI w rb s w.heap.size bb kz plz ez SS wr) := Lib.hid (by rw [ekz, eplz, eez, eSS]; exact hC)
        have HFIN : Hid (∀ x w', x = .returned (.agg #[.int .u64 (canon (fun y => !SS y) 0 : Nat), .int .u64 (canon (fun y => !SS y) 1 : Nat), .int .u64 (canon (fun y => !SS y) 2 : Nat), .int .u64 (canon (fun y => !SS y) 3 : Nat)]) → Sf w rb s kz plz ez w' → Clg o s w rb pl x w') := Lib.hid (by
          intro x w' hx hs
          rw [HPB.out _ hpi, ekz, eplz, eez] at *
          exact ⟨rfl, _, k', p, htl, hx, hs⟩)
        clear ekz eplz eez eSS hC htl hpi
        go_wp2_with fail
        go_loopw [10] (fun x wq => ∃ j : Nat, x = .int .i64 j ∧ j ≤ 256 ∧ CI w rb s w.heap.size bb kz plz ez (fun y => if y < j then !SS y else SS y) wq) (fun x _ => match x with | .int _ z => 256 - z.toNat | _ => 0)
        case atStart => exact ⟨0, rfl, by omega, HCI.out.congr fun i _ => by simp⟩
        case round =>
          obtain ⟨j, rfl, hj, hC⟩ := hrel
          by_cases hjl : j < 256
          · have g1 : (j : Int) < 256 := by omega
            have g2 : (0 : Int) ≤ (j : Int) := by omega
            have m1 := hC.bs j hjl
            have m2 := hC.bf j hjl
            have m3 := hC.hb
            have m4 : (if j < j then !SS j else SS j) = SS j := by simp
            simp only [m4] at m1
            have hnx := hC.put (q := j) (v := !SS j) (S' := fun y => if y < j + 1 then !SS y else SS y) HBB.out.1 HBB.out.2.1 HBB.out.2.2.1 (fun i _ => by
              by_cases e : i = j
              · subst e
                simp
              · rw [if_neg e]
                have : (i < j + 1) = (i < j) := by rw [eq_iff_iff]; omega
                simp only [this])
            have HNX := Lib.hid hnx
            clear hC hnx hj m4
            generalize SS j = sj at *
            go_wp2_with fail
            exact ⟨⟨j + 1, by simp, by omega, HNX.out⟩, by simp; omega⟩
          · have g1 : ¬ (j : Int) < 256 := by omega
            have hfin := hC.congr (S' := fun y => !SS y) (fun i hi => by rw [if_pos (by omega)])
            have HCF := Lib.hid hfin
            clear hC hfin hj hjl
            have r1 := HCF.out.bs.range
            have i1 : (Try.prog.info? 86).map (·.size) = some (boolList (fun y => !SS y)).length := by rw [boolList_length]; exact (zero_of_info infoBools).2
            have m1 := made_class (fun y => !SS y)
            generalize boolList (fun y => !SS y) = L1 at r1 i1 m1
            have MM := Lib.hid m1
            clear m1
            go_wp2_with (refine wpList_load_mid (by rfl) 86 (.tmp 4) (by rfl) _ 0 (by rfl) L1 _ r1 Try.underlying86 (by rfl) i1 ?_)
            go_at_call 50
            refine (MM.out _).mono ?_
            rintro x w8 ⟨rfl, hb8⟩
            have c8 := HCF.out.cs.below hb8
            have f8 := HCF.out.cf.below HCF.out.cs.lt hb8
            have s8 : Sf w rb s kz plz ez w8 := ⟨HCF.out.rr.keep (Chg.of_below (R := fun _ => False) hb8) id, HCF.out.chg.trans (Chg.of_below (R := fun x => x = rb) hb8) fun _ _ h => h⟩
            have HL8 := Lib.hid (And.intro s8 (store4_same (C := canon (fun y => !SS y)) c8))
            obtain ⟨d0, d1, d2, d3⟩ := c8.four
            have e0 := f8 0 (by decide)
            have e1 := f8 1 (by decide)
            have e2 := f8 2 (by decide)
            have e3 := f8 3 (by decide)
            clear r1 i1 c8 f8 s8 hb8
            go_wp2_with fail
            refine bodyPost_ret (v := .agg #[.int .u64 (canon (fun y => !SS y) 0 : Nat), .int .u64 (canon (fun y => !SS y) 1 : Nat), .int .u64 (canon (fun y => !SS y) 2 : Nat), .int .u64 (canon (fun y => !SS y) 3 : Nat)]) (by simp [results, Try.results49, go_sem, d0, d1, d2, d3]) rfl (HFIN.out _ _ rfl ?_)
            exact sf_store4 HL8.out.1 HBB.out.2.2.2 (canon (fun y => !SS y))
  · have HPB : Hid (∀ o', pitems true (fun _ => false) r = o' → o = (match o' with
      | .ok S r' => .ok S r'
      | .er r' c => .er r' c)) := Lib.hid (fun o' h => by
        rw [← HO.out]
        unfold pbrack
        rw [if_neg h94, h]
        cases o' <;> rfl)
    have HN94 := Lib.hid h94
    clear h94
    go_enter Try.func49, Try.ntmps49
    go_wp2_with fail
    go_at_call 34
    refine (takeR_not _ rb k 94 _ s pl HR.out HT.out.1 HN94.out (by decide)).mono ?_
    rintro x w1 ⟨rfl, h1⟩
    have H1 := Lib.hid h1
    have HT0 := Lib.hid HT.out.1
    clear h1
    obtain ⟨k0, hk0⟩ : ∃ k0, k0 = k := ⟨_, rfl⟩
    rw [← hk0] at H1 HT0
    obtain ⟨r0, hr0⟩ : ∃ r0, r0 = r := ⟨_, rfl⟩
    rw [← hr0] at HT0 HPB
    clear hk0 hr0
    have hz1 : w1.heap.size = w1.heap.size := rfl
    have hst : CI w rb s w.heap.size w1.heap.size k0 pl 0 (fun _ => false) (w1.alloc (.cells (Array.replicate 256 (.bool false)) 86)) := by
      have h1 := H1.out
      have hsz := h1.2.size
      simp at hsz
      have c0 := cells_zero w
      have f0 := free_zero w
      have hne : w.heap.size ≠ rb := by omega
      refine ⟨h1.1.keep ((Chg.refl (fun _ => False) _).alloc _) id, bools_new w1, bfree_new w1, fun i hi => ?_, fun i hi => ?_, by simp, ?_⟩
      · exact (Chg.cell ((Chg.refl (fun _ => False) w1).alloc _) i (by omega) id).trans ((h1.2.cell i (by simp) hne).trans (c0 i hi))
      · exact (Chg.frozen ((Chg.refl (fun _ => False) w1).alloc _) i (by omega) id).trans ((h1.2.frozen i (by simp) hne).trans (f0 i hi))
      · exact (((Chg.refl (fun x => x = rb) w).alloc _).trans h1.2 fun _ _ h => h).alloc _
    have hw1 : w.heap.size < w1.heap.size := by have := H1.out.2.size; simp at this; omega
    clear hz1
    have HST := Lib.hid hst
    have hbb : w1.heap.size ≠ rb ∧ w1.heap.size ≠ w.heap.size ∧ w.heap.size ≤ w1.heap.size ∧ w.heap.size ≠ rb := by omega
    have HBB0 := Lib.hid hbb
    clear hst hbb hw1
    go_wp2_with fail
    generalize hbbn : w1.heap.size = bb at *
    have HBB := Lib.hid HBB0.out
    clear hbbn
    go_loopw [5] (fun x wr => IRel w rb s w.heap.size bb pl r0 x wr) (fun _ wr => imeas rb s wr)
    case atStart => exact ⟨true, _, k0, rfl, .inl ⟨r0, HST.out, HT0.out, rfl⟩⟩
    case round =>
      obtain ⟨f, S, k', rfl, hor⟩ := hrel
      rcases hor with ⟨r', hC, htl, hpi⟩ | ⟨p, r', hC, htl, hpi⟩
      · have HCI0 := Lib.hid hC
        have HTL := Lib.hid htl
        have HM0 := Lib.hid (imeas_ok hC)
        have z1 := hC.rr.err
        have z2 := hC.rr.lt
        clear hC htl
        cases f with
        | true =>
          have HMORE := Lib.hid (hpi.trans (pitems_more (fun h => by cases h.1)))
          have HCI := Lib.hid HCI0.out
          clear hpi
          go_wp2_with fail
          go_at_call 58
          refine (itemR_any _ rb k' r' s pl HCI.out.rr HTL.out HT.out.2).mono ?_
          intro x w4 hB
          cases hpl : pplain itemMarks r' with
          | er r2 c =>
            rw [hpl] at hB
            have hc2 : c = 2 := pplain_two hpl
            subst hc2
            obtain ⟨lo, k2, p, hlo, ht2, rfl, h4⟩ := hB
            have HC4 := Lib.hid (HCI.out.sf h4 HBB.out.1 HBB.out.2.2.2)
            have HP2 := Lib.hid (And.intro ht2 (And.intro hlo (pitem_er1 hpl)))
            have z1 := HC4.out.rr.pos
            have z2 := HC4.out.rr.lt
            clear h4 hpl ht2 hlo
            go_wp2_with fail
            go_quiet (fail)
            have HC5 := Lib.hid (HC4.out.drewN nq)
            clear z1 z2
            go_wp2_with fail
            go_at_call 34
            refine (takeR_bad _ rb k2 45 s _ _ HC5.out.rr (by decide) (by decide)).mono ?_
            rintro x w6 ⟨rfl, h6⟩
            have HAI := Lib.hid (show AI w rb s w.heap.size bb pl r' S lo lo w6 from ⟨HP2.out.2.1, HP2.out.2.1, k2, .inr ⟨p, r2, HC5.out.sf h6 HBB.out.1 HBB.out.2.2.2, HP2.out.1, HP2.out.2.2⟩⟩)
            clear h6
            have hai := HAI.out
            have i1 : (0 : Int) ≤ (lo : Int) := by omega
            have i2 : (lo : Int) ≤ 255 := by have := hai.1; omega
            have i3 : (lo : Int) ≤ 255 := by have := hai.2.1; omega
            have i4 : (0 : Int) ≤ (lo : Int) := by omega
            clear hai
            go_wp2_with fail
            go_loopw [9] (fun x wq => ∃ j : Nat, x = .int .i64 j ∧ lo ≤ j ∧ (j ≤ lo + 1 ∨ j = lo) ∧ AI w rb s w.heap.size bb pl r' (fun y => S y || (decide (lo ≤ y) && decide (y < j))) lo lo wq) (fun x _ => match x with | .int _ z => lo + 1 - z.toNat | _ => 0)
            case atStart => exact ⟨lo, rfl, Nat.le_refl _, .inr rfl, HAI.out.congr fun i _ => by
              have : (decide (lo ≤ i) && decide (i < lo)) = false := by rw [Bool.and_eq_false_iff]; simp; omega
              rw [this, Bool.or_false]⟩
            case round =>
              obtain ⟨j, rfl, hj1, hj2, hA⟩ := hrel
              by_cases hjh : j ≤ lo
              · have g1 : (j : Int) ≤ (lo : Int) := by omega
                have g2 : (0 : Int) ≤ (j : Int) := by omega
                have g3 : (j : Int) < 256 := by omega
                obtain ⟨m1, m2, m3⟩ := hA.mem
                have m4 := m1 j (by omega)
                have m5 := m2 j (by omega)
                have hnx := hA.put (q := j) (S' := fun y => S y || (decide (lo ≤ y) && decide (y < j + 1))) HBB.out.1 HBB.out.2.1 HBB.out.2.2.1 (fun i _ => by
                  by_cases e : i = j
                  · subst e
                    simp [hj1]
                  · rw [if_neg e]
                    have : decide (i < j + 1) = decide (i < j) := by rw [decide_eq_decide]; omega
                    rw [this])
                have HNX := Lib.hid hnx
                have HJ := Lib.hid (And.intro hj1 hjh)
                clear hA m1 m2 hnx hj1 hj2 hjh
                go_wp2_with fail
                exact ⟨⟨j + 1, by simp, by have := HJ.out.1; omega, .inl (by have := HJ.out.2; omega), HNX.out⟩, by have := HJ.out.2; simp; omega⟩
              · have g1 : ¬ (j : Int) ≤ (lo : Int) := by omega
                have hfin := hA.congr (S' := fun y => S y || between lo lo y) (fun i _ => by
                  have : (decide (lo ≤ i) && decide (i < j)) = between lo lo i := by unfold between; rw [Bool.eq_iff_iff]; simp; omega
                  rw [this])
                have HFN := Lib.hid hfin
                clear hA hj1 hj2 hjh hfin
                go_wp2_with fail
                obtain ⟨_, _, k2, ⟨r2, hc, ht2, hp⟩ | ⟨p, r2, hc, ht2, hp⟩⟩ := HFN.out
                · have hle := pitem_le hp
                  have hm := HMORE.out
                  rw [hp] at hm
                  refine ⟨⟨false, _, k2, rfl, .inl ⟨r2, hc, ht2, hm⟩⟩, ?_⟩
                  rw [imeas_ok hc, HM0.out]
                  have a1 := HTL.out.1
                  have a2 := ht2.1
                  omega
                · have hm := HMORE.out
                  rw [hp] at hm
                  refine ⟨⟨false, _, k2, rfl, .inr ⟨p, r2, hc, ht2, hm⟩⟩, ?_⟩
                  rw [imeas_er hc, HM0.out]
                  omega
          | ok lo r1 =>
            rw [hpl] at hB
            obtain ⟨hlo, k1, ht1, rfl, h4⟩ := hB
            have HC4 := Lib.hid (HCI.out.sf h4 HBB.out.1 HBB.out.2.2.2)
            have HP1 := Lib.hid (And.intro ht1 (And.intro hlo hpl))
            have z1 := HC4.out.rr.pos
            have z2 := HC4.out.rr.lt
            clear h4 hpl ht1 hlo
            go_wp2_with fail
            go_quiet (fail)
            have HC5 := Lib.hid (HC4.out.drewN nq)
            clear z1 z2
            by_cases h45 : r1.head? = some 45
            · obtain ⟨r2, rfl⟩ : ∃ r2, r1 = 45 :: r2 := by cases r1 with
                | nil => simp at h45
                | cons b r => simp at h45; subst h45; exact ⟨r, rfl⟩
              have hp2 := pitem_two HP1.out.2.2
              have HP2 := Lib.hid hp2
              clear h45 hp2
              go_wp2_with fail
              go_at_call 34
              refine (takeR_yes _ rb k1 45 r2 s pl HC5.out.rr HP1.out.1 HT.out.2 (by decide)).mono ?_
              rintro x w6 ⟨rfl, h6⟩
              have HC6 := Lib.hid (HC5.out.sf h6 HBB.out.1 HBB.out.2.2.2)
              clear h6
              go_wp2_with fail
              go_at_call 58
              refine (itemR_any _ rb (k1 + 1) r2 s pl HC6.out.rr HP1.out.1.tail HT.out.2).mono ?_
              intro x w7 hB
              cases hpl : pplain itemMarks r2 with
              | er r3 c =>
                rw [hpl] at hB
                have hc2 : c = 2 := pplain_two hpl
                subst hc2
                obtain ⟨hi, k2, p, hhi, ht2, rfl, h7⟩ := hB
                have HC7 := Lib.hid (HC6.out.sf h7 HBB.out.1 HBB.out.2.2.2)
                have HP3 := Lib.hid (And.intro ht2 (And.intro hhi (show pitem r' = .er r3 2 by rw [HP2.out, hpl])))
                clear h7 hpl ht2 hhi
                by_cases hgt : hi < lo
                · have g1 : (hi : Int) < (lo : Int) := by omega
                  clear hgt
                  go_wp2_with fail
                  go_at_call 25
                  refine (failR_bad _ rb k2 s _ _ _ _ HC7.out.rr (by decide)).mono ?_
                  rintro x w8 ⟨rfl, h8⟩
                  have HAI := Lib.hid (show AI w rb s w.heap.size bb pl r' S lo hi w8 from ⟨HP1.out.2.1, HP3.out.2.1, k2, .inr ⟨p, r3, HC7.out.sf h8 HBB.out.1 HBB.out.2.2.2, HP3.out.1, HP3.out.2.2⟩⟩)
                  clear h8
                  have hai := HAI.out
                  have i1 : (0 : Int) ≤ (lo : Int) := by omega
                  have i2 : (lo : Int) ≤ 255 := by have := hai.1; omega
                  have i3 : (hi : Int) ≤ 255 := by have := hai.2.1; omega
                  have i4 : (0 : Int) ≤ (hi : Int) := by omega
                  clear hai
                  go_wp2_with fail
                  go_loopw [9] (fun x wq => ∃ j : Nat, x = .int .i64 j ∧ lo ≤ j ∧ (j ≤ hi + 1 ∨ j = lo) ∧ AI w rb s w.heap.size bb pl r' (fun y => S y || (decide (lo ≤ y) && decide (y < j))) lo hi wq) (fun x _ => match x with | .int _ z => hi + 1 - z.toNat | _ => 0)
                  case atStart => exact ⟨lo, rfl, Nat.le_refl _, .inr rfl, HAI.out.congr fun i _ => by
                    have : (decide (lo ≤ i) && decide (i < lo)) = false := by rw [Bool.and_eq_false_iff]; simp; omega
                    rw [this, Bool.or_false]⟩
                  case round =>
                    obtain ⟨j, rfl, hj1, hj2, hA⟩ := hrel
                    by_cases hjh : j ≤ hi
                    · have g1 : (j : Int) ≤ (hi : Int) := by omega
                      have g2 : (0 : Int) ≤ (j : Int) := by omega
                      have g3 : (j : Int) < 256 := by omega
                      obtain ⟨m1, m2, m3⟩ := hA.mem
                      have m4 := m1 j (by omega)
                      have m5 := m2 j (by omega)
                      have hnx := hA.put (q := j) (S' := fun y => S y || (decide (lo ≤ y) && decide (y < j + 1))) HBB.out.1 HBB.out.2.1 HBB.out.2.2.1 (fun i _ => by
                        by_cases e : i = j
                        · subst e
                          simp [hj1]
                        · rw [if_neg e]
                          have : decide (i < j + 1) = decide (i < j) := by rw [decide_eq_decide]; omega
                          rw [this])
                      have HNX := Lib.hid hnx
                      have HJ := Lib.hid (And.intro hj1 hjh)
                      clear hA m1 m2 hnx hj1 hj2 hjh
                      go_wp2_with fail
                      exact ⟨⟨j + 1, by simp, by have := HJ.out.1; omega, .inl (by have := HJ.out.2; omega), HNX.out⟩, by have := HJ.out.2; simp; omega⟩
                    · have g1 : ¬ (j : Int) ≤ (hi : Int) := by omega
                      have hfin := hA.congr (S' := fun y => S y || between lo hi y) (fun i _ => by
                        have : (decide (lo ≤ i) && decide (i < j)) = between lo hi i := by unfold between; rw [Bool.eq_iff_iff]; simp; omega
                        rw [this])
                      have HFN := Lib.hid hfin
                      clear hA hj1 hj2 hjh hfin
                      go_wp2_with fail
                      obtain ⟨_, _, k2, ⟨r2, hc, ht2, hp⟩ | ⟨p, r2, hc, ht2, hp⟩⟩ := HFN.out
                      · have hle := pitem_le hp
                        have hm := HMORE.out
                        rw [hp] at hm
                        refine ⟨⟨false, _, k2, rfl, .inl ⟨r2, hc, ht2, hm⟩⟩, ?_⟩
                        rw [imeas_ok hc, HM0.out]
                        have a1 := HTL.out.1
                        have a2 := ht2.1
                        omega
                      · have hm := HMORE.out
                        rw [hp] at hm
                        refine ⟨⟨false, _, k2, rfl, .inr ⟨p, r2, hc, ht2, hm⟩⟩, ?_⟩
                        rw [imeas_er hc, HM0.out]
                        omega
                · have g1 : ¬ (hi : Int) < (lo : Int) := by omega
                  clear hgt
                  have HAI := Lib.hid (show AI w rb s w.heap.size bb pl r' S lo hi w7 from ⟨HP1.out.2.1, HP3.out.2.1, k2, .inr ⟨p, r3, HC7.out, HP3.out.1, HP3.out.2.2⟩⟩)
                  have hai := HAI.out
                  have i1 : (0 : Int) ≤ (lo : Int) := by omega
                  have i2 : (lo : Int) ≤ 255 := by have := hai.1; omega
                  have i3 : (hi : Int) ≤ 255 := by have := hai.2.1; omega
                  have i4 : (0 : Int) ≤ (hi : Int) := by omega
                  clear hai
                  go_wp2_with fail
                  go_loopw [9] (fun x wq => ∃ j : Nat, x = .int .i64 j ∧ lo ≤ j ∧ (j ≤ hi + 1 ∨ j = lo) ∧ AI w rb s w.heap.size bb pl r' (fun y => S y || (decide (lo ≤ y) && decide (y < j))) lo hi wq) (fun x _ => match x with | .int _ z => hi + 1 - z.toNat | _ => 0)
                  case atStart => exact ⟨lo, rfl, Nat.le_refl _, .inr rfl, HAI.out.congr fun i _ => by
                    have : (decide (lo ≤ i) && decide (i < lo)) = false := by rw [Bool.and_eq_false_iff]; simp; omega
                    rw [this, Bool.or_false]⟩
                  case round =>
                    obtain ⟨j, rfl, hj1, hj2, hA⟩ := hrel
                    by_cases hjh : j ≤ hi
                    · have g1 : (j : Int) ≤ (hi : Int) := by omega
                      have g2 : (0 : Int) ≤ (j : Int) := by omega
                      have g3 : (j : Int) < 256 := by omega
                      obtain ⟨m1, m2, m3⟩ := hA.mem
                      have m4 := m1 j (by omega)
                      have m5 := m2 j (by omega)
                      have hnx := hA.put (q := j) (S' := fun y => S y || (decide (lo ≤ y) && decide (y < j + 1))) HBB.out.1 HBB.out.2.1 HBB.out.2.2.1 (fun i _ => by
                        by_cases e : i = j
                        · subst e
                          simp [hj1]
                        · rw [if_neg e]
                          have : decide (i < j + 1) = decide (i < j) := by rw [decide_eq_decide]; omega
                          rw [this])
                      have HNX := Lib.hid hnx
                      have HJ := Lib.hid (And.intro hj1 hjh)
                      clear hA m1 m2 hnx hj1 hj2 hjh
                      go_wp2_with fail
                      exact ⟨⟨j + 1, by simp, by have := HJ.out.1; omega, .inl (by have := HJ.out.2; omega), HNX.out⟩, by have := HJ.out.2; simp; omega⟩
                    · have g1 : ¬ (j : Int) ≤ (hi : Int) := by omega
                      have hfin := hA.congr (S' := fun y => S y || between lo hi y) (fun i _ => by
                        have : (decide (lo ≤ i) && decide (i < j)) = between lo hi i := by unfold between; rw [Bool.eq_iff_iff]; simp; omega
                        rw [this])
                      have HFN := Lib.hid hfin
                      clear hA hj1 hj2 hjh hfin
                      go_wp2_with fail
                      obtain ⟨_, _, k2, ⟨r2, hc, ht2, hp⟩ | ⟨p, r2, hc, ht2, hp⟩⟩ := HFN.out
                      · have hle := pitem_le hp
                        have hm := HMORE.out
                        rw [hp] at hm
                        refine ⟨⟨false, _, k2, rfl, .inl ⟨r2, hc, ht2, hm⟩⟩, ?_⟩
                        rw [imeas_ok hc, HM0.out]
                        have a1 := HTL.out.1
                        have a2 := ht2.1
                        omega
                      · have hm := HMORE.out
                        rw [hp] at hm
                        refine ⟨⟨false, _, k2, rfl, .inr ⟨p, r2, hc, ht2, hm⟩⟩, ?_⟩
                        rw [imeas_er hc, HM0.out]
                        omega
              | ok hi r3 =>
                rw [hpl] at hB
                obtain ⟨hhi, k2, ht2, rfl, h7⟩ := hB
                have HC7 := Lib.hid (HC6.out.sf h7 HBB.out.1 HBB.out.2.2.2)
                have HP3 := Lib.hid (And.intro ht2 (And.intro hhi (show pitem r' = if lo > hi then .er (45 :: r2) 2 else .ok (between lo hi) r3 by rw [HP2.out, hpl])))
                clear h7 hpl ht2 hhi
                by_cases hgt : hi < lo
                · have g1 : (hi : Int) < (lo : Int) := by omega
                  have HE : Hid (pitem r' = .er (45 :: r2) 2) := Lib.hid (by rw [HP3.out.2.2, if_pos hgt])
                  clear hgt
                  go_wp2_with fail
                  go_at_call 25
                  refine (failR_ok _ rb k2 s pl k1 2 HC7.out.rr).mono ?_
                  rintro x w8 ⟨rfl, h8⟩
                  have HAI := Lib.hid (show AI w rb s w.heap.size bb pl r' S lo hi w8 from ⟨HP1.out.2.1, HP3.out.2.1, k2, .inr ⟨k1, 45 :: r2, HC7.out.sf h8 HBB.out.1 HBB.out.2.2.2, HP1.out.1, HE.out⟩⟩)
                  clear h8
                  have hai := HAI.out
                  have i1 : (0 : Int) ≤ (lo : Int) := by omega
                  have i2 : (lo : Int) ≤ 255 := by have := hai.1; omega
                  have i3 : (hi : Int) ≤ 255 := by have := hai.2.1; omega
                  have i4 : (0 : Int) ≤ (hi : Int) := by omega
                  clear hai
                  go_wp2_with fail
                  go_loopw [9] (fun x wq => ∃ j : Nat, x = .int .i64 j ∧ lo ≤ j ∧ (j ≤ hi + 1 ∨ j = lo) ∧ AI w rb s w.heap.size bb pl r' (fun y => S y || (decide (lo ≤ y) && decide (y < j))) lo hi wq) (fun x _ => match x with | .int _ z => hi + 1 - z.toNat | _ => 0)
                  case atStart => exact ⟨lo, rfl, Nat.le_refl _, .inr rfl, HAI.out.congr fun i _ => by
                    have : (decide (lo ≤ i) && decide (i < lo)) = false := by rw [Bool.and_eq_false_iff]; simp; omega
                    rw [this, Bool.or_false]⟩
                  case round =>
                    obtain ⟨j, rfl, hj1, hj2, hA⟩ := hrel
                    by_cases hjh : j ≤ hi
                    · have g1 : (j : Int) ≤ (hi : Int) := by omega
                      have g2 : (0 : Int) ≤ (j : Int) := by omega
                      have g3 : (j : Int) < 256 := by omega
                      obtain ⟨m1, m2, m3⟩ := hA.mem
                      have m4 := m1 j (by omega)
                      have m5 := m2 j (by omega)
                      have hnx := hA.put (q := j) (S' := fun y => S y || (decide (lo ≤ y) && decide (y < j + 1))) HBB.out.1 HBB.out.2.1 HBB.out.2.2.1 (fun i _ => by
                        by_cases e : i = j
                        · subst e
                          simp [hj1]
                        · rw [if_neg e]
                          have : decide (i < j + 1) = decide (i < j) := by rw [decide_eq_decide]; omega
                          rw [this])
                      have HNX := Lib.hid hnx
                      have HJ := Lib.hid (And.intro hj1 hjh)
                      clear hA m1 m2 hnx hj1 hj2 hjh
                      go_wp2_with fail
                      exact ⟨⟨j + 1, by simp, by have := HJ.out.1; omega, .inl (by have := HJ.out.2; omega), HNX.out⟩, by have := HJ.out.2; simp; omega⟩
                    · have g1 : ¬ (j : Int) ≤ (hi : Int) := by omega
                      have hfin := hA.congr (S' := fun y => S y || between lo hi y) (fun i _ => by
                        have : (decide (lo ≤ i) && decide (i < j)) = between lo hi i := by unfold between; rw [Bool.eq_iff_iff]; simp; omega
                        rw [this])
                      have HFN := Lib.hid hfin
                      clear hA hj1 hj2 hjh hfin
                      go_wp2_with fail
                      obtain ⟨_, _, k2, ⟨r2, hc, ht2, hp⟩ | ⟨p, r2, hc, ht2, hp⟩⟩ := HFN.out
                      · have hle := pitem_le hp
                        have hm := HMORE.out
                        rw [hp] at hm
                        refine ⟨⟨false, _, k2, rfl, .inl ⟨r2, hc, ht2, hm⟩⟩, ?_⟩
                        rw [imeas_ok hc, HM0.out]
                        have a1 := HTL.out.1
                        have a2 := ht2.1
                        omega
                      · have hm := HMORE.out
                        rw [hp] at hm
                        refine ⟨⟨false, _, k2, rfl, .inr ⟨p, r2, hc, ht2, hm⟩⟩, ?_⟩
                        rw [imeas_er hc, HM0.out]
                        omega
                · have g1 : ¬ (hi : Int) < (lo : Int) := by omega
                  have HE : Hid (pitem r' = .ok (between lo hi) r3) := Lib.hid (by rw [HP3.out.2.2, if_neg hgt])
                  clear hgt
                  have HAI := Lib.hid (show AI w rb s w.heap.size bb pl r' S lo hi w7 from ⟨HP1.out.2.1, HP3.out.2.1, k2, .inl ⟨r3, HC7.out, HP3.out.1, HE.out⟩⟩)
                  have hai := HAI.out
                  have i1 : (0 : Int) ≤ (lo : Int) := by omega
                  have i2 : (lo : Int) ≤ 255 := by have := hai.1; omega
                  have i3 : (hi : Int) ≤ 255 := by have := hai.2.1; omega
                  have i4 : (0 : Int) ≤ (hi : Int) := by omega
                  clear hai
                  go_wp2_with fail
                  go_loopw [9] (fun x wq => ∃ j : Nat, x = .int .i64 j ∧ lo ≤ j ∧ (j ≤ hi + 1 ∨ j = lo) ∧ AI w rb s w.heap.size bb pl r' (fun y => S y || (decide (lo ≤ y) && decide (y < j))) lo hi wq) (fun x _ => match x with | .int _ z => hi + 1 - z.toNat | _ => 0)
                  case atStart => exact ⟨lo, rfl, Nat.le_refl _, .inr rfl, HAI.out.congr fun i _ => by
                    have : (decide (lo ≤ i) && decide (i < lo)) = false := by rw [Bool.and_eq_false_iff]; simp; omega
                    rw [this, Bool.or_false]⟩
                  case round =>
                    obtain ⟨j, rfl, hj1, hj2, hA⟩ := hrel
                    by_cases hjh : j ≤ hi
                    · have g1 : (j : Int) ≤ (hi : Int) := by omega
                      have g2 : (0 : Int) ≤ (j : Int) := by omega
                      have g3 : (j : Int) < 256 := by omega
                      obtain ⟨m1, m2, m3⟩ := hA.mem
                      have m4 := m1 j (by omega)
                      have m5 := m2 j (by omega)
                      have hnx := hA.put (q := j) (S' := fun y => S y || (decide (lo ≤ y) && decide (y < j + 1))) HBB.out.1 HBB.out.2.1 HBB.out.2.2.1 (fun i _ => by
                        by_cases e : i = j
                        · subst e
                          simp [hj1]
                        · rw [if_neg e]
                          have : decide (i < j + 1) = decide (i < j) := by rw [decide_eq_decide]; omega
                          rw [this])
                      have HNX := Lib.hid hnx
                      have HJ := Lib.hid (And.intro hj1 hjh)
                      clear hA m1 m2 hnx hj1 hj2 hjh
                      go_wp2_with fail
                      exact ⟨⟨j + 1, by simp, by have := HJ.out.1; omega, .inl (by have := HJ.out.2; omega), HNX.out⟩, by have := HJ.out.2; simp; omega⟩
                    · have g1 : ¬ (j : Int) ≤ (hi : Int) := by omega
                      have hfin := hA.congr (S' := fun y => S y || between lo hi y) (fun i _ => by
                        have : (decide (lo ≤ i) && decide (i < j)) = between lo hi i := by unfold between; rw [Bool.eq_iff_iff]; simp; omega
                        rw [this])
                      have HFN := Lib.hid hfin
                      clear hA hj1 hj2 hjh hfin
                      go_wp2_with fail
                      obtain ⟨_, _, k2, ⟨r2, hc, ht2, hp⟩ | ⟨p, r2, hc, ht2, hp⟩⟩ := HFN.out
                      · have hle := pitem_le hp
                        have hm := HMORE.out
                        rw [hp] at hm
                        refine ⟨⟨false, _, k2, rfl, .inl ⟨r2, hc, ht2, hm⟩⟩, ?_⟩
                        rw [imeas_ok hc, HM0.out]
                        have a1 := HTL.out.1
                        have a2 := ht2.1
                        omega
                      · have hm := HMORE.out
                        rw [hp] at hm
                        refine ⟨⟨false, _, k2, rfl, .inr ⟨p, r2, hc, ht2, hm⟩⟩, ?_⟩
                        rw [imeas_er hc, HM0.out]
                        omega
            · have hp2 := pitem_one HP1.out.2.2 h45
              have HP2 := Lib.hid (And.intro hp2 h45)
              clear h45 hp2
              go_wp2_with fail
              go_at_call 34
              refine (takeR_not _ rb k1 45 _ s pl HC5.out.rr HP1.out.1 HP2.out.2 (by decide)).mono ?_
              rintro x w6 ⟨rfl, h6⟩
              have HAI := Lib.hid (show AI w rb s w.heap.size bb pl r' S lo lo w6 from ⟨HP1.out.2.1, HP1.out.2.1, k1, .inl ⟨r1, HC5.out.sf h6 HBB.out.1 HBB.out.2.2.2, HP1.out.1, HP2.out.1⟩⟩)
              clear h6
              have hai := HAI.out
              have i1 : (0 : Int) ≤ (lo : Int) := by omega
              have i2 : (lo : Int) ≤ 255 := by have := hai.1; omega
              have i3 : (lo : Int) ≤ 255 := by have := hai.2.1; omega
              have i4 : (0 : Int) ≤ (lo : Int) := by omega
              clear hai
              go_wp2_with fail
              go_loopw [9] (fun x wq => ∃ j : Nat, x = .int .i64 j ∧ lo ≤ j ∧ (j ≤ lo + 1 ∨ j = lo) ∧ AI w rb s w.heap.size bb pl r' (fun y => S y || (decide (lo ≤ y) && decide (y < j))) lo lo wq) (fun x _ => match x with | .int _ z => lo + 1 - z.toNat | _ => 0)
              case atStart => exact ⟨lo, rfl, Nat.le_refl _, .inr rfl, HAI.out.congr fun i _ => by
                have : (decide (lo ≤ i) && decide (i < lo)) = false := by rw [Bool.and_eq_false_iff]; simp; omega
                rw [this, Bool.or_false]⟩
              case round =>
                obtain ⟨j, rfl, hj1, hj2, hA⟩ := hrel
                by_cases hjh : j ≤ lo
                · have g1 : (j : Int) ≤ (lo : Int) := by omega
                  have g2 : (0 : Int) ≤ (j : Int) := by omega
                  have g3 : (j : Int) < 256 := by omega
                  obtain ⟨m1, m2, m3⟩ := hA.mem
                  have m4 := m1 j (by omega)
                  have m5 := m2 j (by omega)
                  have hnx := hA.put (q := j) (S' := fun y => S y || (decide (lo ≤ y) && decide (y < j + 1))) HBB.out.1 HBB.out.2.1 HBB.out.2.2.1 (fun i _ => by
                    by_cases e : i = j
                    · subst e
                      simp [hj1]
                    · rw [if_neg e]
                      have : decide (i < j + 1) = decide (i < j) := by rw [decide_eq_decide]; omega
                      rw [this])
                  have HNX := Lib.hid hnx
                  have HJ := Lib.hid (And.intro hj1 hjh)
                  clear hA m1 m2 hnx hj1 hj2 hjh
                  go_wp2_with fail
                  exact ⟨⟨j + 1, by simp, by have := HJ.out.1; omega, .inl (by have := HJ.out.2; omega), HNX.out⟩, by have := HJ.out.2; simp; omega⟩
                · have g1 : ¬ (j : Int) ≤ (lo : Int) := by omega
                  have hfin := hA.congr (S' := fun y => S y || between lo lo y) (fun i _ => by
                    have : (decide (lo ≤ i) && decide (i < j)) = between lo lo i := by unfold between; rw [Bool.eq_iff_iff]; simp; omega
                    rw [this])
                  have HFN := Lib.hid hfin
                  clear hA hj1 hj2 hjh hfin
                  go_wp2_with fail
                  obtain ⟨_, _, k2, ⟨r2, hc, ht2, hp⟩ | ⟨p, r2, hc, ht2, hp⟩⟩ := HFN.out
                  · have hle := pitem_le hp
                    have hm := HMORE.out
                    rw [hp] at hm
                    refine ⟨⟨false, _, k2, rfl, .inl ⟨r2, hc, ht2, hm⟩⟩, ?_⟩
                    rw [imeas_ok hc, HM0.out]
                    have a1 := HTL.out.1
                    have a2 := ht2.1
                    omega
                  · have hm := HMORE.out
                    rw [hp] at hm
                    refine ⟨⟨false, _, k2, rfl, .inr ⟨p, r2, hc, ht2, hm⟩⟩, ?_⟩
                    rw [imeas_er hc, HM0.out]
                    omega
        | false =>
          by_cases h93 : r'.head? = some 93
          · obtain ⟨r2, rfl⟩ : ∃ r2, r' = 93 :: r2 := by cases r' with
              | nil => simp at h93
              | cons b r => simp at h93; subst h93; exact ⟨r, rfl⟩
            rw [pitems_end] at hpi
            have HPI := Lib.hid hpi
            clear hpi h93
            go_wp2_with fail
            go_at_call 34
            refine (takeR_yes _ rb k' 93 r2 s pl HCI0.out.rr HTL.out HT.out.2 (by decide)).mono ?_
            rintro x w4 ⟨rfl, h4⟩
            obtain ⟨kz, plz, ez, SS, wZ, hall⟩ : ∃ (kz : Nat) (plz ez : Int) (SS : Nat → Bool) (wZ : World), kz = k' + 1 ∧ plz = pl ∧ ez = 0 ∧ SS = S ∧ wZ = w4 := ⟨_, _, _, _, _, rfl, rfl, rfl, rfl, rfl⟩
            obtain ⟨ekz, eplz, eez, eSS, eZ⟩ := hall
            have HCI : Hid (CI w rb s w.heap.size bb kz plz ez SS wZ) := Lib.hid (by rw [ekz, eplz, eez, eSS, eZ]; exact HCI0.out.sf h4 HBB.out.1 HBB.out.2.2.2)
            have HFIN : Hid (∀ x w', x = .returned (.agg #[.int .u64 (canon (SS) 0 : Nat), .int .u64 (canon (SS) 1 : Nat), .int .u64 (canon (SS) 2 : Nat), .int .u64 (canon (SS) 3 : Nat)]) → Sf w rb s kz plz ez w' → Clg o s w rb pl x w') := Lib.hid (by
              intro x w' hx hs
              rw [HPB.out _ HPI.out, ekz, eplz, eez] at *
              rw [eSS] at hx
              exact ⟨k' + 1, HTL.out.tail, hx, hs⟩)
            rw [← eZ]
            clear ekz eplz eez eSS h4 z1 z2 eZ
            go_wp2_with fail
            go_loopw [10] (fun x wq => x = .int .i64 0 ∧ CI w rb s w.heap.size bb kz plz ez SS wq) (fun _ _ => 0)
            case atStart => exact ⟨rfl, HCI.out⟩
            case round =>
              obtain ⟨rfl, hC⟩ := hrel
              have HCF := Lib.hid hC
              clear hC
              have r1 := HCF.out.bs.range
              have i1 : (Try.prog.info? 86).map (·.size) = some (boolList SS).length := by rw [boolList_length]; exact (zero_of_info infoBools).2
              have m1 := made_class SS
              generalize boolList SS = L1 at r1 i1 m1
              have MM := Lib.hid m1
              clear m1
              go_wp2_with (refine wpList_load_mid (by rfl) 86 (.tmp 4) (by rfl) _ 0 (by rfl) L1 _ r1 Try.underlying86 (by rfl) i1 ?_)
              go_at_call 50
              refine (MM.out _).mono ?_
              rintro x w8 ⟨rfl, hb8⟩
              have c8 := HCF.out.cs.below hb8
              have f8 := HCF.out.cf.below HCF.out.cs.lt hb8
              have s8 : Sf w rb s kz plz ez w8 := ⟨HCF.out.rr.keep (Chg.of_below (R := fun _ => False) hb8) id, HCF.out.chg.trans (Chg.of_below (R := fun x => x = rb) hb8) fun _ _ h => h⟩
              have HL8 := Lib.hid (And.intro s8 (store4_same (C := canon SS) c8))
              obtain ⟨d0, d1, d2, d3⟩ := c8.four
              have e0 := f8 0 (by decide)
              have e1 := f8 1 (by decide)
              have e2 := f8 2 (by decide)
              have e3 := f8 3 (by decide)
              clear r1 i1 c8 f8 s8 hb8
              go_wp2_with fail
              refine bodyPost_ret (v := .agg #[.int .u64 (canon SS 0 : Nat), .int .u64 (canon SS 1 : Nat), .int .u64 (canon SS 2 : Nat), .int .u64 (canon SS 3 : Nat)]) (by simp [results, Try.results49, go_sem, d0, d1, d2, d3]) rfl (HFIN.out _ _ rfl ?_)
              exact sf_store4 HL8.out.1 HBB.out.2.2.2 (canon SS)
          · have HMORE := Lib.hid (hpi.trans (pitems_more (fun h => h93 h.2)))
            have HN93 := Lib.hid h93
            clear hpi h93
            go_wp2_with fail
            go_at_call 34
            refine (takeR_not _ rb k' 93 _ s pl HCI0.out.rr HTL.out HN93.out (by decide)).mono ?_
            rintro x w3 ⟨rfl, h3⟩
            have HCI := Lib.hid (HCI0.out.sf h3 HBB.out.1 HBB.out.2.2.2)
            clear h3 z1 z2
            go_wp2_with fail
            go_at_call 58
            refine (itemR_any _ rb k' r' s pl HCI.out.rr HTL.out HT.out.2).mono ?_
            intro x w4 hB
            cases hpl : pplain itemMarks r' with
            | er r2 c =>
              rw [hpl] at hB
              have hc2 : c = 2 := pplain_two hpl
              subst hc2
              obtain ⟨lo, k2, p, hlo, ht2, rfl, h4⟩ := hB
              have HC4 := Lib.hid (HCI.out.sf h4 HBB.out.1 HBB.out.2.2.2)
              have HP2 := Lib.hid (And.intro ht2 (And.intro hlo (pitem_er1 hpl)))
              have z1 := HC4.out.rr.pos
              have z2 := HC4.out.rr.lt
              clear h4 hpl ht2 hlo
              go_wp2_with fail
              go_quiet (fail)
              have HC5 := Lib.hid (HC4.out.drewN nq)
              clear z1 z2
              go_wp2_with fail
              go_at_call 34
              refine (takeR_bad _ rb k2 45 s _ _ HC5.out.rr (by decide) (by decide)).mono ?_
              rintro x w6 ⟨rfl, h6⟩
              have HAI := Lib.hid (show AI w rb s w.heap.size bb pl r' S lo lo w6 from ⟨HP2.out.2.1, HP2.out.2.1, k2, .inr ⟨p, r2, HC5.out.sf h6 HBB.out.1 HBB.out.2.2.2, HP2.out.1, HP2.out.2.2⟩⟩)
              clear h6
              have hai := HAI.out
              have i1 : (0 : Int) ≤ (lo : Int) := by omega
              have i2 : (lo : Int) ≤ 255 := by have := hai.1; omega
              have i3 : (lo : Int) ≤ 255 := by have := hai.2.1; omega
              have i4 : (0 : Int) ≤ (lo : Int) := by omega
              clear hai
              go_wp2_with fail
              go_loopw [9] (fun x wq => ∃ j : Nat, x = .int .i64 j ∧ lo ≤ j ∧ (j ≤ lo + 1 ∨ j = lo) ∧ AI w rb s w.heap.size bb pl r' (fun y => S y || (decide (lo ≤ y) && decide (y < j))) lo lo wq) (fun x _ => match x with | .int _ z => lo + 1 - z.toNat | _ => 0)
              case atStart => exact ⟨lo, rfl, Nat.le_refl _, .inr rfl, HAI.out.congr fun i _ => by
                have : (decide (lo ≤ i) && decide (i < lo)) = false := by rw [Bool.and_eq_false_iff]; simp; omega
                rw [this, Bool.or_false]⟩
              case round =>
                obtain ⟨j, rfl, hj1, hj2, hA⟩ := hrel
                by_cases hjh : j ≤ lo
                · have g1 : (j : Int) ≤ (lo : Int) := by omega
                  have g2 : (0 : Int) ≤ (j : Int) := by omega
                  have g3 : (j : Int) < 256 := by omega
                  obtain ⟨m1, m2, m3⟩ := hA.mem
                  have m4 := m1 j (by omega)
                  have m5 := m2 j (by omega)
                  have hnx := hA.put (q := j) (S' := fun y => S y || (decide (lo ≤ y) && decide (y < j + 1))) HBB.out.1 HBB.out.2.1 HBB.out.2.2.1 (fun i _ => by
                    by_cases e : i = j
                    · subst e
                      simp [hj1]
                    · rw [if_neg e]
                      have : decide (i < j + 1) = decide (i < j) := by rw [decide_eq_decide]; omega
                      rw [this])
                  have HNX := Lib.hid hnx
                  have HJ := Lib.hid (And.intro hj1 hjh)
                  clear hA m1 m2 hnx hj1 hj2 hjh
                  go_wp2_with fail
                  exact ⟨⟨j + 1, by simp, by have := HJ.out.1; omega, .inl (by have := HJ.out.2; omega), HNX.out⟩, by have := HJ.out.2; simp; omega⟩
                · have g1 : ¬ (j : Int) ≤ (lo : Int) := by omega
                  have hfin := hA.congr (S' := fun y => S y || between lo lo y) (fun i _ => by
                    have : (decide (lo ≤ i) && decide (i < j)) = between lo lo i := by unfold between; rw [Bool.eq_iff_iff]; simp; omega
                    rw [this])
                  have HFN := Lib.hid hfin
                  clear hA hj1 hj2 hjh hfin
                  go_wp2_with fail
                  obtain ⟨_, _, k2, ⟨r2, hc, ht2, hp⟩ | ⟨p, r2, hc, ht2, hp⟩⟩ := HFN.out
                  · have hle := pitem_le hp
                    have hm := HMORE.out
                    rw [hp] at hm
                    refine ⟨⟨false, _, k2, rfl, .inl ⟨r2, hc, ht2, hm⟩⟩, ?_⟩
                    rw [imeas_ok hc, HM0.out]
                    have a1 := HTL.out.1
                    have a2 := ht2.1
                    omega
                  · have hm := HMORE.out
                    rw [hp] at hm
                    refine ⟨⟨false, _, k2, rfl, .inr ⟨p, r2, hc, ht2, hm⟩⟩, ?_⟩
                    rw [imeas_er hc, HM0.out]
                    omega
            | ok lo r1 =>
              rw [hpl] at hB
              obtain ⟨hlo, k1, ht1, rfl, h4⟩ := hB
              have HC4 := Lib.hid (HCI.out.sf h4 HBB.out.1 HBB.out.2.2.2)
              have HP1 := Lib.hid (And.intro ht1 (And.intro hlo hpl))
              have z1 := HC4.out.rr.pos
              have z2 := HC4.out.rr.lt
              clear h4 hpl ht1 hlo
              go_wp2_with fail
              go_quiet (fail)
              have HC5 := Lib.hid (HC4.out.drewN nq)
              clear z1 z2
              by_cases h45 : r1.head? = some 45
              · obtain ⟨r2, rfl⟩ : ∃ r2, r1 = 45 :: r2 := by cases r1 with
                  | nil => simp at h45
                  | cons b r => simp at h45; subst h45; exact ⟨r, rfl⟩
                have hp2 := pitem_two HP1.out.2.2
                have HP2 := Lib.hid hp2
                clear h45 hp2
                go_wp2_with fail
                go_at_call 34
                refine (takeR_yes _ rb k1 45 r2 s pl HC5.out.rr HP1.out.1 HT.out.2 (by decide)).mono ?_
                rintro x w6 ⟨rfl, h6⟩
                have HC6 := Lib.hid (HC5.out.sf h6 HBB.out.1 HBB.out.2.2.2)
                clear h6
                go_wp2_with fail
                go_at_call 58
                refine (itemR_any _ rb (k1 + 1) r2 s pl HC6.out.rr HP1.out.1.tail HT.out.2).mono ?_
                intro x w7 hB
                cases hpl : pplain itemMarks r2 with
                | er r3 c =>
                  rw [hpl] at hB
                  have hc2 : c = 2 := pplain_two hpl
                  subst hc2
                  obtain ⟨hi, k2, p, hhi, ht2, rfl, h7⟩ := hB
                  have HC7 := Lib.hid (HC6.out.sf h7 HBB.out.1 HBB.out.2.2.2)
                  have HP3 := Lib.hid (And.intro ht2 (And.intro hhi (show pitem r' = .er r3 2 by rw [HP2.out, hpl])))
                  clear h7 hpl ht2 hhi
                  by_cases hgt : hi < lo
                  · have g1 : (hi : Int) < (lo : Int) := by omega
                    clear hgt
                    go_wp2_with fail
                    go_at_call 25
                    refine (failR_bad _ rb k2 s _ _ _ _ HC7.out.rr (by decide)).mono ?_
                    rintro x w8 ⟨rfl, h8⟩
                    have HAI := Lib.hid (show AI w rb s w.heap.size bb pl r' S lo hi w8 from ⟨HP1.out.2.1, HP3.out.2.1, k2, .inr ⟨p, r3, HC7.out.sf h8 HBB.out.1 HBB.out.2.2.2, HP3.out.1, HP3.out.2.2⟩⟩)
                    clear h8
                    have hai := HAI.out
                    have i1 : (0 : Int) ≤ (lo : Int) := by omega
                    have i2 : (lo : Int) ≤ 255 := by have := hai.1; omega
                    have i3 : (hi : Int) ≤ 255 := by have := hai.2.1; omega
                    have i4 : (0 : Int) ≤ (hi : Int) := by omega
                    clear hai
                    go_wp2_with fail
                    go_loopw [9] (fun x wq => ∃ j : Nat, x = .int .i64 j ∧ lo ≤ j ∧ (j ≤ hi + 1 ∨ j = lo) ∧ AI w rb s w.heap.size bb pl r' (fun y => S y || (decide (lo ≤ y) && decide (y < j))) lo hi wq) (fun x _ => match x with | .int _ z => hi + 1 - z.toNat | _ => 0)
                    case atStart => exact ⟨lo, rfl, Nat.le_refl _, .inr rfl, HAI.out.congr fun i _ => by
                      have : (decide (lo ≤ i) && decide (i < lo)) = false := by rw [Bool.and_eq_false_iff]; simp; omega
                      rw [this, Bool.or_false]⟩
                    case round =>
                      obtain ⟨j, rfl, hj1, hj2, hA⟩ := hrel
                      by_cases hjh : j ≤ hi
                      · have g1 : (j : Int) ≤ (hi : Int) := by omega
                        have g2 : (0 : Int) ≤ (j : Int) := by omega
                        have g3 : (j : Int) < 256 := by omega
                        obtain ⟨m1, m2, m3⟩ := hA.mem
                        have m4 := m1 j (by omega)
                        have m5 := m2 j (by omega)
                        have hnx := hA.put (q := j) (S' := fun y => S y || (decide (lo ≤ y) && decide (y < j + 1))) HBB.out.1 HBB.out.2.1 HBB.out.2.2.1 (fun i _ => by
                          by_cases e : i = j
                          · subst e
                            simp [hj1]
                          · rw [if_neg e]
                            have : decide (i < j + 1) = decide (i < j) := by rw [decide_eq_decide]; omega
                            rw [this])
                        have HNX := Lib.hid hnx
                        have HJ := Lib.hid (And.intro hj1 hjh)
                        clear hA m1 m2 hnx hj1 hj2 hjh
                        go_wp2_with fail
                        exact ⟨⟨j + 1, by simp, by have := HJ.out.1; omega, .inl (by have := HJ.out.2; omega), HNX.out⟩, by have := HJ.out.2; simp; omega⟩
                      · have g1 : ¬ (j : Int) ≤ (hi : Int) := by omega
                        have hfin := hA.congr (S' := fun y => S y || between lo hi y) (fun i _ => by
                          have : (decide (lo ≤ i) && decide (i < j)) = between lo hi i := by unfold between; rw [Bool.eq_iff_iff]; simp; omega
                          rw [this])
                        have HFN := Lib.hid hfin
                        clear hA hj1 hj2 hjh hfin
                        go_wp2_with fail
                        obtain ⟨_, _, k2, ⟨r2, hc, ht2, hp⟩ | ⟨p, r2, hc, ht2, hp⟩⟩ := HFN.out
                        · have hle := pitem_le hp
                          have hm := HMORE.out
                          rw [hp] at hm
                          refine ⟨⟨false, _, k2, rfl, .inl ⟨r2, hc, ht2, hm⟩⟩, ?_⟩
                          rw [imeas_ok hc, HM0.out]
                          have a1 := HTL.out.1
                          have a2 := ht2.1
                          omega
                        · have hm := HMORE.out
                          rw [hp] at hm
                          refine ⟨⟨false, _, k2, rfl, .inr ⟨p, r2, hc, ht2, hm⟩⟩, ?_⟩
                          rw [imeas_er hc, HM0.out]
                          omega
                  · have g1 : ¬ (hi : Int) < (lo : Int) := by omega
                    clear hgt
                    have HAI := Lib.hid (show AI w rb s w.heap.size bb pl r' S lo hi w7 from ⟨HP1.out.2.1, HP3.out.2.1, k2, .inr ⟨p, r3, HC7.out, HP3.out.1, HP3.out.2.2⟩⟩)
                    have hai := HAI.out
                    have i1 : (0 : Int) ≤ (lo : Int) := by omega
                    have i2 : (lo : Int) ≤ 255 := by have := hai.1; omega
                    have i3 : (hi : Int) ≤ 255 := by have := hai.2.1; omega
                    have i4 : (0 : Int) ≤ (hi : Int) := by omega
                    clear hai
                    go_wp2_with fail
                    go_loopw [9] (fun x wq => ∃ j : Nat, x = .int .i64 j ∧ lo ≤ j ∧ (j ≤ hi + 1 ∨ j = lo) ∧ AI w rb s w.heap.size bb pl r' (fun y => S y || (decide (lo ≤ y) && decide (y < j))) lo hi wq) (fun x _ => match x with | .int _ z => hi + 1 - z.toNat | _ => 0)
                    case atStart => exact ⟨lo, rfl, Nat.le_refl _, .inr rfl, HAI.out.congr fun i _ => by
                      have : (decide (lo ≤ i) && decide (i < lo)) = false := by rw [Bool.and_eq_false_iff]; simp; omega
                      rw [this, Bool.or_false]⟩
                    case round =>
                      obtain ⟨j, rfl, hj1, hj2, hA⟩ := hrel
                      by_cases hjh : j ≤ hi
                      · have g1 : (j : Int) ≤ (hi : Int) := by omega
                        have g2 : (0 : Int) ≤ (j : Int) := by omega
                        have g3 : (j : Int) < 256 := by omega
                        obtain ⟨m1, m2, m3⟩ := hA.mem
                        have m4 := m1 j (by omega)
                        have m5 := m2 j (by omega)
                        have hnx := hA.put (q := j) (S' := fun y => S y || (decide (lo ≤ y) && decide (y < j + 1))) HBB.out.1 HBB.out.2.1 HBB.out.2.2.1 (fun i _ => by
                          by_cases e : i = j
                          · subst e
                            simp [hj1]
                          · rw [if_neg e]
                            have : decide (i < j + 1) = decide (i < j) := by rw [decide_eq_decide]; omega
                            rw [this])
                        have HNX := Lib.hid hnx
                        have HJ := Lib.hid (And.intro hj1 hjh)
                        clear hA m1 m2 hnx hj1 hj2 hjh
                        go_wp2_with fail
                        exact ⟨⟨j + 1, by simp, by have := HJ.out.1; omega, .inl (by have := HJ.out.2; omega), HNX.out⟩, by have := HJ.out.2; simp; omega⟩
                      · have g1 : ¬ (j : Int) ≤ (hi : Int) := by omega
                        have hfin := hA.congr (S' := fun y => S y || between lo hi y) (fun i _ => by
                          have : (decide (lo ≤ i) && decide (i < j)) = between lo hi i := by unfold between; rw [Bool.eq_iff_iff]; simp; omega
                          rw [this])
                        have HFN := Lib.hid hfin
                        clear hA hj1 hj2 hjh hfin
                        go_wp2_with fail
                        obtain ⟨_, _, k2, ⟨r2, hc, ht2, hp⟩ | ⟨p, r2, hc, ht2, hp⟩⟩ := HFN.out
                        · have hle := pitem_le hp
                          have hm := HMORE.out
                          rw [hp] at hm
                          refine ⟨⟨false, _, k2, rfl, .inl ⟨r2, hc, ht2, hm⟩⟩, ?_⟩
                          rw [imeas_ok hc, HM0.out]
                          have a1 := HTL.out.1
                          have a2 := ht2.1
                          omega
                        · have hm := HMORE.out
                          rw [hp] at hm
                          refine ⟨⟨false, _, k2, rfl, .inr ⟨p, r2, hc, ht2, hm⟩⟩, ?_⟩
                          rw [imeas_er hc, HM0.out]
                          omega
                | ok hi r3 =>
                  rw [hpl] at hB
                  obtain ⟨hhi, k2, ht2, rfl, h7⟩ := hB
                  have HC7 := Lib.hid (HC6.out.sf h7 HBB.out.1 HBB.out.2.2.2)
                  have HP3 := Lib.hid (And.intro ht2 (And.intro hhi (show pitem r' = if lo > hi then .er (45 :: r2) 2 else .ok (between lo hi) r3 by rw [HP2.out, hpl])))
                  clear h7 hpl ht2 hhi
                  by_cases hgt : hi < lo
                  · have g1 : (hi : Int) < (lo : Int) := by omega
                    have HE : Hid (pitem r' = .er (45 :: r2) 2) := Lib.hid (by rw [HP3.out.2.2, if_pos hgt])
                    clear hgt
                    go_wp2_with fail
                    go_at_call 25
                    refine (failR_ok _ rb k2 s pl k1 2 HC7.out.rr).mono ?_
                    rintro x w8 ⟨rfl, h8⟩
                    have HAI := Lib.hid (show AI w rb s w.heap.size bb pl r' S lo hi w8 from ⟨HP1.out.2.1, HP3.out.2.1, k2, .inr ⟨k1, 45 :: r2, HC7.out.sf h8 HBB.out.1 HBB.out.2.2.2, HP1.out.1, HE.out⟩⟩)
                    clear h8
                    have hai := HAI.out
                    have i1 : (0 : Int) ≤ (lo : Int) := by omega
                    have i2 : (lo : Int) ≤ 255 := by have := hai.1; omega
                    have i3 : (hi : Int) ≤ 255 := by have := hai.2.1; omega
                    have i4 : (0 : Int) ≤ (hi : Int) := by omega
                    clear hai
                    go_wp2_with fail
                    go_loopw [9] (fun x wq => ∃ j : Nat, x = .int .i64 j ∧ lo ≤ j ∧ (j ≤ hi + 1 ∨ j = lo) ∧ AI w rb s w.heap.size bb pl r' (fun y => S y || (decide (lo ≤ y) && decide (y < j))) lo hi wq) (fun x _ => match x with | .int _ z => hi + 1 - z.toNat | _ => 0)
                    case atStart => exact ⟨lo, rfl, Nat.le_refl _, .inr rfl, HAI.out.congr fun i _ => by
                      have : (decide (lo ≤ i) && decide (i < lo)) = false := by rw [Bool.and_eq_false_iff]; simp; omega
                      rw [this, Bool.or_false]⟩
                    case round =>
                      obtain ⟨j, rfl, hj1, hj2, hA⟩ := hrel
                      by_cases hjh : j ≤ hi
                      · have g1 : (j : Int) ≤ (hi : Int) := by omega
                        have g2 : (0 : Int) ≤ (j : Int) := by omega
                        have g3 : (j : Int) < 256 := by omega
                        obtain ⟨m1, m2, m3⟩ := hA.mem
                        have m4 := m1 j (by omega)
                        have m5 := m2 j (by omega)
                        have hnx := hA.put (q := j) (S' := fun y => S y || (decide (lo ≤ y) && decide (y < j + 1))) HBB.out.1 HBB.out.2.1 HBB.out.2.2.1 (fun i _ => by
                          by_cases e : i = j
                          · subst e
                            simp [hj1]
                          · rw [if_neg e]
                            have : decide (i < j + 1) = decide (i < j) := by rw [decide_eq_decide]; omega
                            rw [this])
                        have HNX := Lib.hid hnx
                        have HJ := Lib.hid (And.intro hj1 hjh)
                        clear hA m1 m2 hnx hj1 hj2 hjh
                        go_wp2_with fail
                        exact ⟨⟨j + 1, by simp, by have := HJ.out.1; omega, .inl (by have := HJ.out.2; omega), HNX.out⟩, by have := HJ.out.2; simp; omega⟩
                      · have g1 : ¬ (j : Int) ≤ (hi : Int) := by omega
                        have hfin := hA.congr (S' := fun y => S y || between lo hi y) (fun i _ => by
                          have : (decide (lo ≤ i) && decide (i < j)) = between lo hi i := by unfold between; rw [Bool.eq_iff_iff]; simp; omega
                          rw [this])
                        have HFN := Lib.hid hfin
                        clear hA hj1 hj2 hjh hfin
                        go_wp2_with fail
                        obtain ⟨_, _, k2, ⟨r2, hc, ht2, hp⟩ | ⟨p, r2, hc, ht2, hp⟩⟩ := HFN.out
                        · have hle := pitem_le hp
                          have hm := HMORE.out
                          rw [hp] at hm
                          refine ⟨⟨false, _, k2, rfl, .inl ⟨r2, hc, ht2, hm⟩⟩, ?_⟩
                          rw [imeas_ok hc, HM0.out]
                          have a1 := HTL.out.1
                          have a2 := ht2.1
                          omega
                        · have hm := HMORE.out
                          rw [hp] at hm
                          refine ⟨⟨false, _, k2, rfl, .inr ⟨p, r2, hc, ht2, hm⟩⟩, ?_⟩
                          rw [imeas_er hc, HM0.out]
                          omega
                  · have g1 : ¬ (hi : Int) < (lo : Int) := by omega
                    have HE : Hid (pitem r' = .ok (between lo hi) r3) := Lib.hid (by rw [HP3.out.2.2, if_neg hgt])
                    clear hgt
                    have HAI := Lib.hid (show AI w rb s w.heap.size bb pl r' S lo hi w7 from ⟨HP1.out.2.1, HP3.out.2.1, k2, .inl ⟨r3, HC7.out, HP3.out.1, HE.out⟩⟩)
                    have hai := HAI.out
                    have i1 : (0 : Int) ≤ (lo : Int) := by omega
                    have i2 : (lo : Int) ≤ 255 := by have := hai.1; omega
                    have i3 : (hi : Int) ≤ 255 := by have := hai.2.1; omega
                    have i4 : (0 : Int) ≤ (hi : Int) := by omega
                    clear hai
                    go_wp2_with fail
                    go_loopw [9] (fun x wq => ∃ j : Nat, x = .int .i64 j ∧ lo ≤ j ∧ (j ≤ hi + 1 ∨ j = lo) ∧ AI w rb s w.heap.size bb pl r' (fun y => S y || (decide (lo ≤ y) && decide (y < j))) lo hi wq) (fun x _ => match x with | .int _ z => hi + 1 - z.toNat | _ => 0)
                    case atStart => exact ⟨lo, rfl, Nat.le_refl _, .inr rfl, HAI.out.congr fun i _ => by
                      have : (decide (lo ≤ i) && decide (i < lo)) = false := by rw [Bool.and_eq_false_iff]; simp; omega
                      rw [this, Bool.or_false]⟩
                    case round =>
                      obtain ⟨j, rfl, hj1, hj2, hA⟩ := hrel
                      by_cases hjh : j ≤ hi
                      · have g1 : (j : Int) ≤ (hi : Int) := by omega
                        have g2 : (0 : Int) ≤ (j : Int) := by omega
                        have g3 : (j : Int) < 256 := by omega
                        obtain ⟨m1, m2, m3⟩ := hA.mem
                        have m4 := m1 j (by omega)
                        have m5 := m2 j (by omega)
                        have hnx := hA.put (q := j) (S' := fun y => S y || (decide (lo ≤ y) && decide (y < j + 1))) HBB.out.1 HBB.out.2.1 HBB.out.2.2.1 (fun i _ => by
                          by_cases e : i = j
                          · subst e
                            simp [hj1]
                          · rw [if_neg e]
                            have : decide (i < j + 1) = decide (i < j) := by rw [decide_eq_decide]; omega
                            rw [this])
                        have HNX := Lib.hid hnx
                        have HJ := Lib.hid (And.intro hj1 hjh)
                        clear hA m1 m2 hnx hj1 hj2 hjh
                        go_wp2_with fail
                        exact ⟨⟨j + 1, by simp, by have := HJ.out.1; omega, .inl (by have := HJ.out.2; omega), HNX.out⟩, by have := HJ.out.2; simp; omega⟩
                      · have g1 : ¬ (j : Int) ≤ (hi : Int) := by omega
                        have hfin := hA.congr (S' := fun y => S y || between lo hi y) (fun i _ => by
                          have : (decide (lo ≤ i) && decide (i < j)) = between lo hi i := by unfold between; rw [Bool.eq_iff_iff]; simp; omega
                          rw [this])
                        have HFN := Lib.hid hfin
                        clear hA hj1 hj2 hjh hfin
                        go_wp2_with fail
                        obtain ⟨_, _, k2, ⟨r2, hc, ht2, hp⟩ | ⟨p, r2, hc, ht2, hp⟩⟩ := HFN.out
                        · have hle := pitem_le hp
                          have hm := HMORE.out
                          rw [hp] at hm
                          refine ⟨⟨false, _, k2, rfl, .inl ⟨r2, hc, ht2, hm⟩⟩, ?_⟩
                          rw [imeas_ok hc, HM0.out]
                          have a1 := HTL.out.1
                          have a2 := ht2.1
                          omega
                        · have hm := HMORE.out
                          rw [hp] at hm
                          refine ⟨⟨false, _, k2, rfl, .inr ⟨p, r2, hc, ht2, hm⟩⟩, ?_⟩
                          rw [imeas_er hc, HM0.out]
                          omega
              · have hp2 := pitem_one HP1.out.2.2 h45
                have HP2 := Lib.hid (And.intro hp2 h45)
                clear h45 hp2
                go_wp2_with fail
                go_at_call 34
                refine (takeR_not _ rb k1 45 _ s pl HC5.out.rr HP1.out.1 HP2.out.2 (by decide)).mono ?_
                rintro x w6 ⟨rfl, h6⟩
                have HAI := Lib.hid (show AI w rb s w.heap.size bb pl r' S lo lo w6 from ⟨HP1.out.2.1, HP1.out.2.1, k1, .inl ⟨r1, HC5.out.sf h6 HBB.out.1 HBB.out.2.2.2, HP1.out.1, HP2.out.1⟩⟩)
                clear h6
                have hai := HAI.out
                have i1 : (0 : Int) ≤ (lo : Int) := by omega
                have i2 : (lo : Int) ≤ 255 := by have := hai.1; omega
                have i3 : (lo : Int) ≤ 255 := by have := hai.2.1; omega
                have i4 : (0 : Int) ≤ (lo : Int) := by omega
                clear hai
                go_wp2_with fail
                go_loopw [9] (fun x wq => ∃ j : Nat, x = .int .i64 j ∧ lo ≤ j ∧ (j ≤ lo + 1 ∨ j = lo) ∧ AI w rb s w.heap.size bb pl r' (fun y => S y || (decide (lo ≤ y) && decide (y < j))) lo lo wq) (fun x _ => match x with | .int _ z => lo + 1 - z.toNat | _ => 0)
                case atStart => exact ⟨lo, rfl, Nat.le_refl _, .inr rfl, HAI.out.congr fun i _ => by
                  have : (decide (lo ≤ i) && decide (i < lo)) = false := by rw [Bool.and_eq_false_iff]; simp; omega
                  rw [this, Bool.or_false]⟩
                case round =>
                  obtain ⟨j, rfl, hj1, hj2, hA⟩ := hrel
                  by_cases hjh : j ≤ lo
                  · have g1 : (j : Int) ≤ (lo : Int) := by omega
                    have g2 : (0 : Int) ≤ (j : Int) := by omega
                    have g3 : (j : Int) < 256 := by omega
                    obtain ⟨m1, m2, m3⟩ := hA.mem
                    have m4 := m1 j (by omega)
                    have m5 := m2 j (by omega)
                    have hnx := hA.put (q := j) (S' := fun y => S y || (decide (lo ≤ y) && decide (y < j + 1))) HBB.out.1 HBB.out.2.1 HBB.out.2.2.1 (fun i _ => by
                      by_cases e : i = j
                      · subst e
                        simp [hj1]
                      · rw [if_neg e]
                        have : decide (i < j + 1) = decide (i < j) := by rw [decide_eq_decide]; omega
                        rw [this])
                    have HNX := Lib.hid hnx
                    have HJ := Lib.hid (And.intro hj1 hjh)
                    clear hA m1 m2 hnx hj1 hj2 hjh
                    go_wp2_with fail
                    exact ⟨⟨j + 1, by simp, by have := HJ.out.1; omega, .inl (by have := HJ.out.2; omega), HNX.out⟩, by have := HJ.out.2; simp; omega⟩
                  · have g1 : ¬ (j : Int) ≤ (lo : Int) := by omega
                    have hfin := hA.congr (S' := fun y => S y || between lo lo y) (fun i _ => by
                      have : (decide (lo ≤ i) && decide (i < j)) = between lo lo i := by unfold between; rw [Bool.eq_iff_iff]; simp; omega
                      rw [this])
                    have HFN := Lib.hid hfin
                    clear hA hj1 hj2 hjh hfin
                    go_wp2_with fail
                    obtain ⟨_, _, k2, ⟨r2, hc, ht2, hp⟩ | ⟨p, r2, hc, ht2, hp⟩⟩ := HFN.out
                    · have hle := pitem_le hp
                      have hm := HMORE.out
                      rw [hp] at hm
                      refine ⟨⟨false, _, k2, rfl, .inl ⟨r2, hc, ht2, hm⟩⟩, ?_⟩
                      rw [imeas_ok hc, HM0.out]
                      have a1 := HTL.out.1
                      have a2 := ht2.1
                      omega
                    · have hm := HMORE.out
                      rw [hp] at hm
                      refine ⟨⟨false, _, k2, rfl, .inr ⟨p, r2, hc, ht2, hm⟩⟩, ?_⟩
                      rw [imeas_er hc, HM0.out]
                      omega
      · have z1 := hC.rr.err
        have z2 := hC.rr.lt
        obtain ⟨kz, plz, ez, SS, hall⟩ : ∃ (kz : Nat) (plz ez : Int) (SS : Nat → Bool), kz = k' ∧ plz = p ∧ ez = 2 ∧ SS = S := ⟨_, _, _, _, rfl, rfl, rfl, rfl⟩
        obtain ⟨ekz, eplz, eez, eSS⟩ := hall
        have HCI : Hid (CI w rb s w.heap.size bb kz plz ez SS wr) := Lib.hid (by rw [ekz, eplz, eez, eSS]; exact hC)
        have HFIN : Hid (∀ x w', x = .returned (.agg #[.int .u64 (canon (SS) 0 : Nat), .int .u64 (canon (SS) 1 : Nat), .int .u64 (canon (SS) 2 : Nat), .int .u64 (canon (SS) 3 : Nat)]) → Sf w rb s kz plz ez w' → Clg o s w rb pl x w') := Lib.hid (by
          intro x w' hx hs
          rw [HPB.out _ hpi, ekz, eplz, eez] at *
          exact ⟨rfl, _, k', p, htl, hx, hs⟩)
        clear ekz eplz eez eSS hC htl hpi
        go_wp2_with fail
        go_loopw [10] (fun x wq => x = .int .i64 0 ∧ CI w rb s w.heap.size bb kz plz ez SS wq) (fun _ _ => 0)
        case atStart => exact ⟨rfl, HCI.out⟩
        case round =>
          obtain ⟨rfl, hC⟩ := hrel
          have HCF := Lib.hid hC
          clear hC
          have r1 := HCF.out.bs.range
          have i1 : (Try.prog.info? 86).map (·.size) = some (boolList SS).length := by rw [boolList_length]; exact (zero_of_info infoBools).2
          have m1 := made_class SS
          generalize boolList SS = L1 at r1 i1 m1
          have MM := Lib.hid m1
          clear m1
          go_wp2_with (refine wpList_load_mid (by rfl) 86 (.tmp 4) (by rfl) _ 0 (by rfl) L1 _ r1 Try.underlying86 (by rfl) i1 ?_)
          go_at_call 50
          refine (MM.out _).mono ?_
          rintro x w8 ⟨rfl, hb8⟩
          have c8 := HCF.out.cs.below hb8
          have f8 := HCF.out.cf.below HCF.out.cs.lt hb8
          have s8 : Sf w rb s kz plz ez w8 := ⟨HCF.out.rr.keep (Chg.of_below (R := fun _ => False) hb8) id, HCF.out.chg.trans (Chg.of_below (R := fun x => x = rb) hb8) fun _ _ h => h⟩
          have HL8 := Lib.hid (And.intro s8 (store4_same (C := canon SS) c8))
          obtain ⟨d0, d1, d2, d3⟩ := c8.four
          have e0 := f8 0 (by decide)
          have e1 := f8 1 (by decide)
          have e2 := f8 2 (by decide)
          have e3 := f8 3 (by decide)
          clear r1 i1 c8 f8 s8 hb8
          go_wp2_with fail
          refine bodyPost_ret (v := .agg #[.int .u64 (canon SS 0 : Nat), .int .u64 (canon SS 1 : Nat), .int .u64 (canon SS 2 : Nat), .int .u64 (canon SS 3 : Nat)]) (by simp [results, Try.results49, go_sem, d0, d1, d2, d3]) rfl (HFIN.out _ _ rfl ?_)
          exact sf_store4 HL8.out.1 HBB.out.2.2.2 (canon SS)

end Go.Proofs.Ytbodgadbhldbmaa
