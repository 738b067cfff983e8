/- What Parse comes to: the tree, the place and the error's number that the plain function tells.
   Conditions: the text is no longer than memory may be. -/
import Derived.Test.YtpibkalbnjgpaaaDoorWhole
import Derived.Test.YtpibkalbnjgpaaaDoorPlaces
import Derived.Test.YtpibkalbnjgpaaaDoorSize
namespace Go.Proofs.YtpibkalbnjgpaaaDoor
open Go.RowKit

def Parsed (s : ByteArray) (w : World) (e : Ending) (w' : World) : Prop :=
  ∃ (v : V) (sa : Option Addr) (sn sc : Nat), v.v = .slice sa sn sc ∧ e = .returned (.tuple #[.agg #[.int .i64 v.kind, .int .u64 (v.set 0 : Nat), .int .u64 (v.set 1 : Nat), .int .u64 (v.set 2 : Nat), .int .u64 (v.set 3 : Nat), .slice sa sn sc, .int .i64 v.lo, .int .i64 v.hi], .int .i64 ((pparse (txt s)).2.1 : Nat), .int .i64 ((pparse (txt s)).2.2 : Nat)]) ∧
    erase v = (pparse (txt s)).1 ∧ Laid w' (fun b => w.heap.size ≤ b) v ∧ Below w.heap.size w w'
theorem parsed_zero {s : ByteArray} {w w' : World} {at' c : Nat} (h : pparse (txt s) = (zeroT, at', c)) (hb : Below w.heap.size w w') :
    Parsed s w (.returned (.tuple #[.agg #[.int .i64 0, .int .u64 0, .int .u64 0, .int .u64 0, .int .u64 0, .slice none 0 0, .int .i64 0, .int .i64 0], .int .i64 at', .int .i64 c])) w' := by
  refine ⟨zeroV, none, 0, 0, rfl, ?_, by rw [h]; rfl, zeroV_laid _ _, hb⟩
  rw [h]
  rfl
theorem chg_below {w w' : World} {R : Nat → Prop} (h : Chg R w w') (hR : ∀ k, k < w.heap.size → ¬ R k) : Below w.heap.size w w' := h.below (Nat.le_refl _) hR

set_option maxHeartbeats 1000000 in
set_option maxRecDepth 100000 in
theorem parse_long (s : ByteArray) (w : World) (h : 400 < s.size) : Calls Tryd.prog 12 #[.string s] w (Parsed s w) := by
  have h1 : (400 : Int) < (s.size : Int) := by omega
  have HP := Lib.hid (pparse_long (L := txt s) (by rw [txt_length]; exact h))
  go_enter Tryd.func12, Tryd.ntmps12
  go_wp2_with fail
  refine bodyPost_ret (v := .tuple #[.agg #[.int .i64 0, .int .u64 0, .int .u64 0, .int .u64 0, .int .u64 0, .slice none 0 0, .int .i64 0, .int .i64 0], .int .i64 (0 : Nat), .int .i64 (3 : Nat)]) (by simp [results, Tryd.results12, go_sem]) rfl (parsed_zero HP.out ?_)
  exact (Below.refl _ _).alloc (Nat.le_refl _) _

set_option maxHeartbeats 4000000 in
set_option maxRecDepth 100000 in
theorem parse_short (s : ByteArray) (w : World) (h : s.size ≤ 400) : Calls Tryd.prog 12 #[.string s] w (Parsed s w) := by
  have h1 : ¬ (400 : Int) < (s.size : Int) := by omega
  have hL : ¬ 400 < (txt s).length := by rw [txt_length]; omega
  have e0 := heap_alloc_new w (.cells zcells 27)
  have e1 := heap_alloc_new (w.alloc (.cells zcells 27)) (.cells #[.string s, .int .i64 0, .slice none 0 0] 63)
  have hc0 : Chg (fun _ => False) w ((w.alloc (.cells zcells 27)).alloc (.cells #[.string s, .int .i64 0, .slice none 0 0] 63)) := ((Chg.refl _ w).alloc _).alloc _
  have e2 : ((w.alloc (.cells zcells 27)).alloc (.cells #[.string s, .int .i64 0, .slice none 0 0] 63)).heap[w.heap.size]? = some (.cells zcells 27 (0, 0)) := (Below.heap_alloc _ _ _ (by simp)).trans e0
  rw [World.size_alloc] at e1
  have hz : ((w.alloc (.cells zcells 27)).alloc (.cells #[.string s, .int .i64 0, .slice none 0 0] 63)).heap.size = w.heap.size + 2 := by simp
  go_enter Tryd.func12, Tryd.ntmps12
  go_wp2_with fail
  generalize ((w.alloc (.cells zcells 27)).alloc (.cells #[.string s, .int .i64 0, .slice none 0 0] 63)) = w0 at *
  obtain ⟨q1, q2⟩ := row_cells e1
  have hrd : Rd w0 (w.heap.size + 1) s 0 (.slice none 0 0) := ⟨by omega, q1 0, q1 1, q1 2, q2⟩
  have HRD := Lib.hid hrd
  have HE := Lib.hid e2
  have HC := Lib.hid hc0
  have HZ := Lib.hid hz
  clear e0 e1 e2 hc0 hz q1 q2 hrd
  go_at_call 25
  refine (whole_any HRD.out h).mono ?_
  intro e w1 hR
  revert hR
  cases hx : prun ⟨[], []⟩ [] (txt s) with
  | er r c =>
    have HP := Lib.hid (pparse_er hL hx)
    clear hx
    rintro ⟨hc, rfl, hch, k, op, hrd, ht⟩
    have hres := (hch.block w.heap.size (by have := HZ.out; omega) (by omega)).trans HE.out
    obtain ⟨⟨r0, r1, r2, r3⟩, ⟨r4, r5, r6, r7⟩, rf⟩ := res_cells hres
    have p1 := hrd.pos
    have hsz1 : w.heap.size < w1.heap.size := (Array.getElem?_eq_some_iff.1 hres).1
    have hsz2 : w.heap.size + 1 < w1.heap.size := hrd.lt
    have hk := ht.1
    have HF := Lib.hid (And.intro hch hk)
    clear hch hrd ht hres hk
    rcases hc with rfl | rfl
    · go_wp2_with fail
      go_region
      all_goals
        go_wp2_with fail
        refine bodyPost_ret (v := .tuple #[.agg #[.int .i64 0, .int .u64 0, .int .u64 0, .int .u64 0, .int .u64 0, .slice none 0 0, .int .i64 0, .int .i64 0], .int .i64 (k : Nat), .int .i64 (2 : Nat)]) (by simp [results, Tryd.results12, go_sem, r0, r1, r2, r3, r4, r5, r6, r7, hsz1]) rfl (parsed_zero (at' := k) (by rw [HP.out, txt_length, show s.size - r.length = k by have := HF.out.2; omega]) ?_)
        exact chg_below ((store8_chg (R := fun b => w.heap.size ≤ b) ((HC.out.mono (R' := fun b => w.heap.size ≤ b) (fun _ _ h => h.elim)).trans HF.out.1 (fun x _ e => by omega)) (g := w.heap.size) (fun _ => Nat.le_refl _) 0 _ _ _ _ _ _ _ _).alloc _).drew (fun k hk h => by omega)
    · go_wp2_with fail
      go_region
      all_goals
        go_wp2_with fail
        refine bodyPost_ret (v := .tuple #[.agg #[.int .i64 0, .int .u64 0, .int .u64 0, .int .u64 0, .int .u64 0, .slice none 0 0, .int .i64 0, .int .i64 0], .int .i64 (k : Nat), .int .i64 (3 : Nat)]) (by simp [results, Tryd.results12, go_sem, r0, r1, r2, r3, r4, r5, r6, r7, hsz1]) rfl (parsed_zero (at' := k) (by rw [HP.out, txt_length, show s.size - r.length = k by have := HF.out.2; omega]) ?_)
        exact chg_below ((store8_chg (R := fun b => w.heap.size ≤ b) ((HC.out.mono (R' := fun b => w.heap.size ≤ b) (fun _ _ h => h.elim)).trans HF.out.1 (fun x _ e => by omega)) (g := w.heap.size) (fun _ => Nat.le_refl _) 0 _ _ _ _ _ _ _ _).alloc _).drew (fun k hk h => by omega)
  | ok t r =>
    have hsz := sz_all hx
    rw [txt_length] at hsz
    have HP := Lib.hid (pparse_ok hL hx)
    clear hx
    rintro ⟨v, sa, sn, sc, hsl, rfl, htr, hl, hch⟩
    have hdp : dptV v = dptT t := by rw [dpt_erase, htr]
    have hpl : plcV v = plcT t := by rw [plc_erase, htr]
    have hd1 := dpt_sz t
    have hp1 := plc_sz t
    have hres := (hch.block w.heap.size (by have := HZ.out; omega) (by omega)).trans HE.out
    have hzz := HZ.out
    have hsz2 : w.heap.size + 1 < w1.heap.size := by have := hch.size; omega
    have hsz3 : w.heap.size < w1.heap.size := by omega
    have hsz4 : w.heap.size ≠ w1.heap.size := by omega
    have hnd : #[.int .i64 v.kind, .int .u64 (v.set 0 : Nat), .int .u64 (v.set 1 : Nat), .int .u64 (v.set 2 : Nat), .int .u64 (v.set 3 : Nat), .slice sa sn sc, .int .i64 v.lo, .int .i64 v.hi] = (ndc v).toArray := by unfold ndc; rw [hsl]
    have hnew := heap_alloc_new w1 (.cells #[.int .i64 v.kind, .int .u64 (v.set 0 : Nat), .int .u64 (v.set 1 : Nat), .int .u64 (v.set 2 : Nat), .int .u64 (v.set 3 : Nat), .slice sa sn sc, .int .i64 v.lo, .int .i64 v.hi] 27)
    have hl2 : Laid (w1.alloc (.cells #[.int .i64 v.kind, .int .u64 (v.set 0 : Nat), .int .u64 (v.set 1 : Nat), .int .u64 (v.set 2 : Nat), .int .u64 (v.set 3 : Nat), .slice sa sn sc, .int .i64 v.lo, .int .i64 v.hi] 27)) (fun b => w0.heap.size ≤ b) v := hl.chg ((Chg.refl (fun _ => False) w1).alloc _) (fun _ _ _ h => h)
    have hres2 := (Below.heap_alloc w1 (.cells #[.int .i64 v.kind, .int .u64 (v.set 0 : Nat), .int .u64 (v.set 1 : Nat), .int .u64 (v.set 2 : Nat), .int .u64 (v.set 3 : Nat), .slice sa sn sc, .int .i64 v.lo, .int .i64 v.hi] 27) w.heap.size hsz3).trans hres
    have hcw : Chg (fun b => w.heap.size ≤ b) w (w1.alloc (.cells #[.int .i64 v.kind, .int .u64 (v.set 0 : Nat), .int .u64 (v.set 1 : Nat), .int .u64 (v.set 2 : Nat), .int .u64 (v.set 3 : Nat), .slice sa sn sc, .int .i64 v.lo, .int .i64 v.hi] 27)) := ((HC.out.mono (R' := fun b => w.heap.size ≤ b) (fun _ _ h => h.elim)).trans hch (fun x _ e => by omega)).alloc _
    have hlt1 : w1.heap.size < (w1.alloc (.cells #[.int .i64 v.kind, .int .u64 (v.set 0 : Nat), .int .u64 (v.set 1 : Nat), .int .u64 (v.set 2 : Nat), .int .u64 (v.set 3 : Nat), .slice sa sn sc, .int .i64 v.lo, .int .i64 v.hi] 27)).heap.size := by simp
    have HDEP := Lib.hid (callsIn_wide.1 (depth_in v (w1.alloc (.cells #[.int .i64 v.kind, .int .u64 (v.set 0 : Nat), .int .u64 (v.set 1 : Nat), .int .u64 (v.set 2 : Nat), .int .u64 (v.set 3 : Nat), .slice sa sn sc, .int .i64 v.lo, .int .i64 v.hi] 27)) sa sn sc hsl _ hl2 (by omega)))
    have HPLC := Lib.hid (fun (w3 : World) (hl3 : Laid w3 (fun b => w0.heap.size ≤ b) v) => callsIn_wide.1 (places_in v w3 sa sn sc hsl _ hl3 (by omega) (by omega)))
    have HX := Lib.hid (And.intro hsl (And.intro htr (And.intro hl2 (And.intro hres2 (And.intro hcw (And.intro hnew hlt1))))))
    clear hl hch hres hnd hnew hl2 hres2 hcw hsz hd1 hp1 htr hsl hlt1
    go_wp2_with fail
    go_at_call 26
    refine HDEP.out.mono ?_
    clear HDEP
    rintro e w2 ⟨rfl, hb2⟩
    rw [hdp]
    have hn2 := (hb2.block _ HX.out.2.2.2.2.2.2).trans HX.out.2.2.2.2.2.1
    have hr2 := (hb2.block w.heap.size (by simp; omega)).trans HX.out.2.2.2.1
    have hl3 : Laid w2 (fun b => w0.heap.size ≤ b) v := HX.out.2.2.1.chg (Chg.of_below (R := fun _ => False) hb2) (fun _ _ _ h => h)
    have hc2 : Chg (fun b => w.heap.size ≤ b) w w2 := HX.out.2.2.2.2.1.trans (Chg.of_below (R := fun _ => False) hb2) (fun _ _ h => h.elim)
    obtain ⟨⟨r0, r1, r2, r3⟩, ⟨r4, r5, r6, r7⟩, rf⟩ := res_cells hr2
    obtain ⟨n1, n2⟩ := row_cells hn2
    have n10 : w2.cell? ⟨w1.heap.size, 0, none⟩ = some (.int .i64 v.kind) := n1 0
    have n11 : w2.cell? ⟨w1.heap.size, 1, none⟩ = some (.int .u64 (v.set 0 : Nat)) := n1 1
    have n12 : w2.cell? ⟨w1.heap.size, 2, none⟩ = some (.int .u64 (v.set 1 : Nat)) := n1 2
    have n13 : w2.cell? ⟨w1.heap.size, 3, none⟩ = some (.int .u64 (v.set 2 : Nat)) := n1 3
    have n14 : w2.cell? ⟨w1.heap.size, 4, none⟩ = some (.int .u64 (v.set 3 : Nat)) := n1 4
    have n15 : w2.cell? ⟨w1.heap.size, 5, none⟩ = some (.slice sa sn sc) := n1 5
    have n16 : w2.cell? ⟨w1.heap.size, 6, none⟩ = some (.int .i64 v.lo) := n1 6
    have n17 : w2.cell? ⟨w1.heap.size, 7, none⟩ = some (.int .i64 v.hi) := n1 7
    have H2 := Lib.hid (And.intro hl3 (And.intro hc2 (And.intro hr2 hn2)))
    clear hl3 hc2 hr2 hn2 hb2 n1
    by_cases hA : 20 < dptT t
    · have g1 : (20 : Int) < (dptT t : Int) := by omega
      have HA := Lib.hid hA
      clear hA
      go_wp2_with fail
      refine bodyPost_ret (v := .tuple #[.agg #[.int .i64 0, .int .u64 0, .int .u64 0, .int .u64 0, .int .u64 0, .slice none 0 0, .int .i64 0, .int .i64 0], .int .i64 (0 : Nat), .int .i64 (3 : Nat)]) (by simp [results, Tryd.results12, go_sem, r0, r1, r2, r3, r4, r5, r6, r7]) rfl (parsed_zero (by rw [HP.out, if_pos (.inl HA.out)]) ?_)
      exact chg_below (store8_chg (R := fun b => w.heap.size ≤ b) H2.out.2.1 (g := w.heap.size) (fun _ => Nat.le_refl _) 0 _ _ _ _ _ _ _ _) (fun k hk h => by omega)
    · have g1 : ¬ (20 : Int) < (dptT t : Int) := by omega
      have HA := Lib.hid hA
      clear hA
      go_wp2_with fail
      go_at_call 27
      refine (HPLC.out _ H2.out.1).mono ?_
      rintro e w3 ⟨rfl, hb3⟩
      rw [hpl]
      have hsz5 : w.heap.size < w2.heap.size := (Array.getElem?_eq_some_iff.1 H2.out.2.2.1).1
      have hsz6 : w1.heap.size < w2.heap.size := (Array.getElem?_eq_some_iff.1 H2.out.2.2.2).1
      have hr3 := (hb3.block _ hsz5).trans H2.out.2.2.1
      have hn3 := (hb3.block _ hsz6).trans H2.out.2.2.2
      have hl4 : Laid w3 (fun b => w0.heap.size ≤ b) v := H2.out.1.chg (Chg.of_below (R := fun _ => False) hb3) (fun _ _ _ h => h)
      have hc3 : Chg (fun b => w.heap.size ≤ b) w w3 := H2.out.2.1.trans (Chg.of_below (R := fun _ => False) hb3) (fun _ _ h => h.elim)
      clear r0 r1 r2 r3 r4 r5 r6 r7 rf n10 n11 n12 n13 n14 n15 n16 n17 n2
      obtain ⟨⟨r0, r1, r2, r3⟩, ⟨r4, r5, r6, r7⟩, rf⟩ := res_cells hr3
      obtain ⟨n1, n2⟩ := row_cells hn3
      have n10 : w3.cell? ⟨w1.heap.size, 0, none⟩ = some (.int .i64 v.kind) := n1 0
      have n11 : w3.cell? ⟨w1.heap.size, 1, none⟩ = some (.int .u64 (v.set 0 : Nat)) := n1 1
      have n12 : w3.cell? ⟨w1.heap.size, 2, none⟩ = some (.int .u64 (v.set 1 : Nat)) := n1 2
      have n13 : w3.cell? ⟨w1.heap.size, 3, none⟩ = some (.int .u64 (v.set 2 : Nat)) := n1 3
      have n14 : w3.cell? ⟨w1.heap.size, 4, none⟩ = some (.int .u64 (v.set 3 : Nat)) := n1 4
      have n15 : w3.cell? ⟨w1.heap.size, 5, none⟩ = some (.slice sa sn sc) := n1 5
      have n16 : w3.cell? ⟨w1.heap.size, 6, none⟩ = some (.int .i64 v.lo) := n1 6
      have n17 : w3.cell? ⟨w1.heap.size, 7, none⟩ = some (.int .i64 v.hi) := n1 7
      have H3 := Lib.hid (And.intro hl4 hc3)
      clear hl4 hc3 hr3 hn3 hb3 n1
      by_cases hB : 40 < plcT t
      · have g2 : (40 : Int) < (plcT t : Int) := by omega
        have HB := Lib.hid hB
        clear hB
        go_wp2_with fail
        refine bodyPost_ret (v := .tuple #[.agg #[.int .i64 0, .int .u64 0, .int .u64 0, .int .u64 0, .int .u64 0, .slice none 0 0, .int .i64 0, .int .i64 0], .int .i64 (0 : Nat), .int .i64 (3 : Nat)]) (by simp [results, Tryd.results12, go_sem, r0, r1, r2, r3, r4, r5, r6, r7]) rfl (parsed_zero (by rw [HP.out, if_pos (.inr HB.out)]) ?_)
        exact chg_below (store8_chg (R := fun b => w.heap.size ≤ b) H3.out.2 (g := w.heap.size) (fun _ => Nat.le_refl _) 0 _ _ _ _ _ _ _ _) (fun k hk h => by omega)
      · have g2 : ¬ (40 : Int) < (plcT t : Int) := by omega
        have HB := Lib.hid hB
        clear hB
        go_wp2_with fail
        refine bodyPost_ret (v := .tuple #[.agg #[.int .i64 v.kind, .int .u64 (v.set 0 : Nat), .int .u64 (v.set 1 : Nat), .int .u64 (v.set 2 : Nat), .int .u64 (v.set 3 : Nat), .slice sa sn sc, .int .i64 v.lo, .int .i64 v.hi], .int .i64 (0 : Nat), .int .i64 (0 : Nat)]) (by simp [results, Tryd.results12, go_sem, r0, r1, r2, r3, r4, r5, r6, r7]) rfl ?_
        have hP := HP.out
        rw [if_neg (fun h => h.elim HA.out HB.out)] at hP
        have hst := fun (R : Nat → Prop) (a : World) (h : Chg R a w3) (hg : w.heap.size < a.heap.size → R w.heap.size) => store8_chg h (g := w.heap.size) hg 0 (.int .i64 v.kind) (.int .u64 (v.set 0 : Nat)) (.int .u64 (v.set 1 : Nat)) (.int .u64 (v.set 2 : Nat)) (.int .u64 (v.set 3 : Nat)) (.slice sa sn sc) (.int .i64 v.lo) (.int .i64 v.hi)
        refine ⟨v, sa, sn, sc, HX.out.1, by rw [hP], by rw [hP]; exact HX.out.2.1, ?_, chg_below (hst _ _ H3.out.2 (fun _ => Nat.le_refl _)) (fun k hk h => by omega)⟩
        exact H3.out.1.keep (fun b _ hb => by have := HZ.out; omega) (hst (fun b => b = w.heap.size) w3 (Chg.refl _ _) (fun _ => rfl)).size fun b hb hb2 => (hst (fun b => b = w.heap.size) w3 (Chg.refl _ _) (fun _ => rfl)).block b hb (by have := HZ.out; omega)

theorem parse_any (s : ByteArray) (w : World) : Calls Tryd.prog 12 #[.string s] w (Parsed s w) := by
  by_cases h : s.size ≤ 400
  · exact parse_short s w h
  · exact parse_long s w (by omega)

end Go.Proofs.YtpibkalbnjgpaaaDoor
