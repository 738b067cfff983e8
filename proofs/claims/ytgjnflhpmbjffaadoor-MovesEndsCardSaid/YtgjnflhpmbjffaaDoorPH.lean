/- Of every tree the statement MovesEnds returns true, and it reads afterwards as before; the card: what its row lists is tied to the program's text.
   No condition. -/
import Derived.Test.YtgjnflhpmbjffaaDoorPM
import Derived.Deep.DeepCutAuto
import Derived.Deep.RegionHeld3
import Derived.Deep.OwnRows
import Derived.Test.YtgjnflhpmbjffaaDoorPE
import Derived.Test.YtgjnflhpmbjffaaDoorMRo
import Derived.Test.YtgjnflhpmbjffaaDoorMRefF
import Derived.Test.YtgjnflhpmbjffaaDoorMRef
import Derived.Test.YtgjnflhpmbjffaaDoorCards
import Derived.Test.YtgjnflhpmbjffaaDoorTie
import Derived.ProofKit
import Derived.LaidMore
import Derived.OpenShut
import Derived.ChangeOld
import Derived.Below
import Derived.SevenTiedAt

/- The walk of the statement MovesEnds: called with a tree it returns true and changes nothing that was there.
   Conditions: the tree lies in memory, and the library's table. -/
namespace Go.Proofs.YtgjnflhpmbjffaaDoor
open Go.RowKit Go.Shelf
attribute [local go_sem] nodeAgg
def cntE (x p : Nat) : Nat := ((List.range p).filter fun i => x.testBit i).length
theorem cntB_step (x p : Nat) : cntE x (p + 1) = cntE x p + (if x.testBit p then 1 else 0) := by
 unfold cntE
 rw [List.range_succ, List.filter_append, List.length_append]
 congr 1
 cases h : x.testBit p <;> simp [h]
theorem bits_at {x p : Nat} (hp : p < 64) (h : x.testBit p = true) : (bitsL x)[cntE x p]? = some p := by
 have h1 : List.range 64 = List.range (p + 1) ++ ((List.range (64 - (p + 1))).map fun i => p + 1 + i) := by
  rw [← List.range_add]
  congr 1
  omega
 unfold bitsL
 rw [h1, List.filter_append, List.range_succ, List.filter_append, List.append_assoc, cntE, List.getElem?_append_right (Nat.le_refl _), Nat.sub_self]
 simp [h]
theorem bits_cnt {x p : Nat} (hp : p ≤ 64) (h : ∀ i, x.testBit i = true → i < p) : (bitsL x).length = cntE x p := by
 have h1 : List.range 64 = List.range p ++ ((List.range (64 - p)).map fun i => p + i) := by
  rw [← List.range_add]
  congr 1
  omega
 unfold bitsL cntE
 rw [h1, List.filter_append, List.length_append]
 have : ((List.range (64 - p)).map fun i => p + i).filter (fun i => x.testBit i) = [] := by
  rw [List.filter_eq_nil_iff]
  intro a ha hb
  obtain ⟨i, _, rfl⟩ := List.mem_map.1 ha
  have := h _ hb
  omega
 rw [this]
 rfl
theorem cntB_le (x p : Nat) : cntE x p ≤ p := by
 unfold cntE
 exact Nat.le_trans (List.length_filter_le _ _) (by simp)
def LeO (w : World) (x kn c : Nat) (n y : Value) (wr : World) : Prop := ∃ p : Nat, y = .int .i64 p ∧ c = kn + 1 - p ∧ p ≤ kn + 1 ∧ n = .int .i64 (cntE x p : Nat) ∧ Below w.heap.size w wr
set_option maxHeartbeats 8000000 in
set_option maxRecDepth 100000 in
theorem ends6_walk (a : V) (w : World) (R : Nat → Prop) (ha : Laid w R a) (hT : TabE w) (hTl : tabE < w.heap.size) :
  Calls Tryd.prog 3 #[nodeAgg a] w fun e w' => e = .returned (.bool true) ∧ Below w.heap.size w w' := by
 obtain ⟨sa, sc, hv0, _⟩ := laid_row' ha
 obtain ⟨sn, hsn⟩ : ∃ sn, sn = a.ps.length := ⟨_, rfl⟩
 rw [← hsn] at hv0
 obtain ⟨w1, hw1, hbw1, hlt1, hbx⟩ := box_new w a (.slice sa sn sc)
 have HTT := Lib.hid (fun (W : World) (h : Below w.heap.size w W) => And.intro (tab_below hT hTl h) (Nat.lt_of_lt_of_le hTl h.size))
 have HSa := Lib.hid (fun (W : World) (h : Below w.heap.size w W) => by
  have := size_any 100 (by omega) a W R (laid_low ha h)
  rw [nodeAgg_v hv0] at this
  exact this)
 have HMn := Lib.hid (fun (W : World) (h : Below w.heap.size w W) (hz : szT (erase a) ≤ 100) (code : Int) (hc : NoMap (erase a) code) => by
  have := make_none a W R (laid_low ha h) (by omega) code hc
  rw [nodeAgg_v hv0] at this
  exact this)
 have HMg := Lib.hid (fun (W : World) (h : Below w.heap.size w W) (hz : szT (erase a) ≤ 100) (hok : okT (erase a) = true) (m : PM) (hm : mapT (simT (erase a)) = some m) => by
  have := make_good a W R (laid_low ha h) (by omega) hok m hm (tab_below hT hTl h) (Nat.lt_of_lt_of_le hTl h.size)
  rw [nodeAgg_v hv0] at this
  exact this)
 have HFo := Lib.hid (fun (W : World) (h : Below w.heap.size w W) (hz : szT (erase a) ≤ 100) => by
  have := formed_ref 1000000 (Nat.le_refl _) a W R (by omega) (laid_low ha h)
  rw [nodeAgg_v hv0] at this
  exact this)
 have HRf := Lib.hid (fun (W : World) (h : Below w.heap.size w W) (hz : szT (erase a) ≤ 100) (hok : okT (erase a) = true) => by
  have := refOf_any a W R (laid_low ha h) (by omega) hok
  rw [nodeAgg_v hv0] at this
  exact this)
 have HBX := Lib.hid hbx
 have HBW := Lib.hid hbw1
 rw [nodeAgg_v hv0]
 clear hbx ha hv0 hsn hlt1 hbw1 hT hTl
 go_enter Tryd.func3, Tryd.ntmps3
 go_upto_region 1 with fail
 clear hw1
 go_wp2_with fail
 go_at_call 7
 refine (awake6_any _ (HTT.out _ HBW.out).1 (HTT.out _ HBW.out).2).mono ?_
 rintro e w3 ⟨rfl, hb3⟩
 obtain ⟨q0, q1, q2, q3, q4, q5, q6, q7⟩ := HBX.out w3 hb3
 have HB3 := Lib.hid hb3
 clear hb3
 go_wp2_with fail
 go_at_call 8
 refine (HSa.out _ (bhop HBW.out HB3.out)).mono ?_
 rintro e w5 ⟨rfl, hb4⟩
 have HB5 := Lib.hid (bhop HB3.out hb4)
 clear hb4 q0 q1 q2 q3 q4 q5 q6 q7
 obtain ⟨q0, q1, q2, q3, q4, q5, q6, q7⟩ := HBX.out w5 HB5.out
 by_cases hA : szT (erase a) ≤ 100
 ·have hA2 : min (szT (erase a)) (100 + 1) = szT (erase a) := by omega
  rw [hA2]
  have g1 : ¬ (100 : Int) < ((szT (erase a) : Nat) : Int) := by omega
  have HA := Lib.hid hA
  clear hA hA2
  by_cases hmp : okT (erase a) = true ∧ ∃ m, mapT (simT (erase a)) = some m
  ·obtain ⟨hok, m, hm⟩ := hmp
   have HF := Lib.hid (HMg.out w5 (bhop HBW.out HB5.out) HA.out hok m hm)
   have HOK := Lib.hid hok
   clear hok hm
   go_wp2_with fail
   go_at_call 9
   refine HF.out.mono ?_
   rintro e w6 ⟨⟨r, ta, tn, tc, sA, sN, sC, cA, cN, cC, aA, aN, aC, fA, fN, fC, lb, bb, em, vs, L, hR, hrv, rfl⟩, hb6⟩
   have HB6 := Lib.hid (bhop HB5.out hb6)
   have hs : sN = m.sets.length := own_n hR.lists.sets
   have hsa : aN = sN := by
    obtain ⟨vs2, hv2, _⟩ := hR.lists.ars
    have := own_n hv2
    have := hR.ars
    omega
   subst hsa
   have hs41 : aN ≤ 41 := by have := hR.sets; omega
   have hs1 : 1 ≤ aN := by have := hR.one; omega
   obtain ⟨ga, rfl⟩ : ∃ ga, aA = some ⟨ga, 0, none⟩ := by
    obtain ⟨vs2, hv2, _⟩ := hR.lists.ars
    obtain ⟨g, cap, hgv, _⟩ := hv2.form (by have := hR.one; have := hR.ars; omega)
    simp only [Value.slice.injEq] at hgv
    exact ⟨g, hgv.1⟩
   obtain ⟨w7, hw7⟩ : ∃ w7, w6.alloc (.cells #[.int .i64 r.kind, .int .u64 (r.set 0 : Nat), .int .u64 (r.set 1 : Nat), .int .u64 (r.set 2 : Nat), .int .u64 (r.set 3 : Nat), .slice ta tn tc, .int .i64 r.lo, .int .i64 r.hi, .slice sA aN sC, .slice cA cN cC, .slice (some ⟨ga, 0, none⟩) aN aC, .slice fA fN fC, .slice (some ⟨lb, 0, none⟩) aN aN, .slice (some ⟨bb, 0, none⟩) aN aN, .bool em] 39) = w7 := ⟨_, rfl⟩
   have hb67 : Below w6.heap.size w6 w7 := hw7 ▸ (Below.refl _ w6).alloc (Nat.le_refl _) _
   have hmp := (row_cells (hw7 ▸ heap_alloc_new w6 _ : w7.heap[w6.heap.size]? = some (.cells #[.int .i64 r.kind, .int .u64 (r.set 0 : Nat), .int .u64 (r.set 1 : Nat), .int .u64 (r.set 2 : Nat), .int .u64 (r.set 3 : Nat), .slice ta tn tc, .int .i64 r.lo, .int .i64 r.hi, .slice sA aN sC, .slice cA cN cC, .slice (some ⟨ga, 0, none⟩) aN aC, .slice fA fN fC, .slice (some ⟨lb, 0, none⟩) aN aN, .slice (some ⟨bb, 0, none⟩) aN aN, .bool em] 39 (0, 0)))).1
   have c10 := hmp 10; have c11 := hmp 11; have c12 := hmp 12; have c13 := hmp 13
   have hmbl : w6.heap.size < w7.heap.size := by rw [← hw7]; simp
   have HR := Lib.hid (hR.step hb67)
   have HS := Lib.hid hs
   have hrows := HR.out.rows
   rw [HR.out.mvv, ← hs] at hrows
   have HW := Lib.hid hrows
   have HL := Lib.hid HR.out.lists
   have HM := Lib.hid (fun (p : Nat) (x : Mv) (hp : p < aN) (hx : x ∈ L p) => (HR.out.moves p (by omega)).2 x |>.1 hx)
   have HB7 := Lib.hid (show Below w.heap.size w w7 from bhop (bhop HBW.out HB6.out) hb67)
   have HC := Lib.hid (fun (W : World) (h : Below w7.heap.size w7 W) => show W.cell? ⟨w6.heap.size, 10, none⟩ = some (.slice (some ⟨ga, 0, none⟩) aN aC) ∧ W.cell? ⟨w6.heap.size, 11, none⟩ = some (.slice fA fN fC) ∧ W.cell? ⟨w6.heap.size, 12, none⟩ = some (.slice (some ⟨lb, 0, none⟩) aN aN) ∧ W.cell? ⟨w6.heap.size, 13, none⟩ = some (.slice (some ⟨bb, 0, none⟩) aN aN) ∧ w6.heap.size < W.heap.size from
    ⟨(h.cell (p := ⟨w6.heap.size, 10, none⟩) hmbl).trans c10, (h.cell (p := ⟨w6.heap.size, 11, none⟩) hmbl).trans c11, (h.cell (p := ⟨w6.heap.size, 12, none⟩) hmbl).trans c12, (h.cell (p := ⟨w6.heap.size, 13, none⟩) hmbl).trans c13, Nat.lt_of_lt_of_le hmbl h.size⟩)
   have HX7 := Lib.hid (show Below w1.heap.size w1 w7 from bhop HB6.out hb67)
   have c8 := hmp 8; have c14 := hmp 14
   have HC2 := Lib.hid (fun (W : World) (h : Below w7.heap.size w7 W) => show W.cell? ⟨w6.heap.size, 8, none⟩ = some (.slice sA aN sC) ∧ W.cell? ⟨w6.heap.size, 10, none⟩ = some (.slice (some ⟨ga, 0, none⟩) aN aC) ∧ W.cell? ⟨w6.heap.size, 11, none⟩ = some (.slice fA fN fC) ∧ W.cell? ⟨w6.heap.size, 12, none⟩ = some (.slice (some ⟨lb, 0, none⟩) aN aN) ∧ W.cell? ⟨w6.heap.size, 13, none⟩ = some (.slice (some ⟨bb, 0, none⟩) aN aN) ∧ W.cell? ⟨w6.heap.size, 14, none⟩ = some (.bool em) ∧ w6.heap.size < W.heap.size from
    ⟨(h.cell (p := ⟨w6.heap.size, 8, none⟩) hmbl).trans c8, (HC.out W h).1, (HC.out W h).2.1, (HC.out W h).2.2.1, (HC.out W h).2.2.2.1, (h.cell (p := ⟨w6.heap.size, 14, none⟩) hmbl).trans c14, (HC.out W h).2.2.2.2⟩)
   clear hb67 hmp hrows hR hrv hs hb6 c8 c10 c11 c12 c13 c14 hmbl q0 q1 q2 q3 q4 q5 q6 q7
   go_upto_region 4 with fail
   clear hw7
   obtain ⟨q0, q1, q2, q3, q4, q5, q6, q7⟩ := HBX.out w7 HX7.out
   go_wp2_with fail
   go_at_call 10
   refine (HFo.out w7 HB7.out HA.out).mono ?_
   rintro e w8 ⟨rfl, hb8⟩
   have HB8 := Lib.hid hb8
   rw [HOK.out]
   clear hb8 q0 q1 q2 q3 q4 q5 q6 q7
   obtain ⟨q0, q1, q2, q3, q4, q5, q6, q7⟩ := HBX.out w8 (bhop HX7.out HB8.out)
   go_wp2_with fail
   go_at_call 11
   refine (HRf.out w8 (bhop HB7.out HB8.out) HA.out HOK.out).mono ?_
   rintro e w9 ⟨⟨r2, pt, ptn, ptc, pA, pN, pC, pcA, pcN, pcC, paA, paN, paC, hP, hrv2, rfl⟩, hb9⟩
   rw [show codeP (mapT (simT (erase a))) = 0 from by rw [HR.out.map]; rfl]
   have HB9 := Lib.hid (bhop HB8.out hb9)
   have htr : erase r2 = simT (erase a) := by have := hP.tree; rw [HR.out.map] at this; exact this
   obtain ⟨w10, hw10⟩ : ∃ w10, w9.alloc (.cells #[.int .i64 r2.kind, .int .u64 (r2.set 0 : Nat), .int .u64 (r2.set 1 : Nat), .int .u64 (r2.set 2 : Nat), .int .u64 (r2.set 3 : Nat), .slice pt ptn ptc, .int .i64 r2.lo, .int .i64 r2.hi, .slice pA pN pC, .slice pcA pcN pcC, .slice paA paN paC] 34) = w10 := ⟨_, rfl⟩
   have hb10 : Below w9.heap.size w9 w10 := hw10 ▸ (Below.refl _ w9).alloc (Nat.le_refl _) _
   have hmp := (row_cells (hw10 ▸ heap_alloc_new w9 _ : w10.heap[w9.heap.size]? = some (.cells #[.int .i64 r2.kind, .int .u64 (r2.set 0 : Nat), .int .u64 (r2.set 1 : Nat), .int .u64 (r2.set 2 : Nat), .int .u64 (r2.set 3 : Nat), .slice pt ptn ptc, .int .i64 r2.lo, .int .i64 r2.hi, .slice pA pN pC, .slice pcA pcN pcC, .slice paA paN paC] 34 (0, 0)))).1
   have p0 := hmp 0; have p1 := hmp 1; have p2 := hmp 2; have p3 := hmp 3; have p4 := hmp 4; have p5 := hmp 5; have p6 := hmp 6; have p7 := hmp 7
   have hml : w9.heap.size < w10.heap.size := by rw [← hw10]; simp
   have HB10 := Lib.hid (bhop HB9.out hb10)
   have HPC := Lib.hid (fun (W : World) (h : Below w10.heap.size w10 W) => show W.cell? ⟨w9.heap.size, 0, none⟩ = some (.int .i64 r2.kind) ∧ W.cell? ⟨w9.heap.size, 1, none⟩ = some (.int .u64 (r2.set 0 : Nat)) ∧ W.cell? ⟨w9.heap.size, 2, none⟩ = some (.int .u64 (r2.set 1 : Nat)) ∧ W.cell? ⟨w9.heap.size, 3, none⟩ = some (.int .u64 (r2.set 2 : Nat)) ∧ W.cell? ⟨w9.heap.size, 4, none⟩ = some (.int .u64 (r2.set 3 : Nat)) ∧ W.cell? ⟨w9.heap.size, 5, none⟩ = some (.slice pt ptn ptc) ∧ W.cell? ⟨w9.heap.size, 6, none⟩ = some (.int .i64 r2.lo) ∧ W.cell? ⟨w9.heap.size, 7, none⟩ = some (.int .i64 r2.hi) from
    ⟨(h.cell (p := ⟨w9.heap.size, 0, none⟩) hml).trans p0, (h.cell (p := ⟨w9.heap.size, 1, none⟩) hml).trans p1, (h.cell (p := ⟨w9.heap.size, 2, none⟩) hml).trans p2, (h.cell (p := ⟨w9.heap.size, 3, none⟩) hml).trans p3, (h.cell (p := ⟨w9.heap.size, 4, none⟩) hml).trans p4, (h.cell (p := ⟨w9.heap.size, 5, none⟩) hml).trans p5, (h.cell (p := ⟨w9.heap.size, 6, none⟩) hml).trans p6, (h.cell (p := ⟨w9.heap.size, 7, none⟩) hml).trans p7⟩)
   have hpos : npos (erase r2) + 1 = aN := by rw [htr]; have h1 := map_pos HR.out.map; have h2 := HS.out; omega
   have hokr : okF r2 := by show okT (erase r2) = true; rw [htr]; exact (sim_ws _ HOK.out).ok
   have hszr : szT (erase r2) ≤ 1000000 := by rw [htr]; have := sim_sz (erase a); have := HA.out; omega
   have hlr : Laid w10 (fun _ => True) r2 := (laid_low hP.laid hb10).mono fun _ _ _ => trivial
   have HEn := Lib.hid (fun (W : World) (h : Below w10.heap.size w10 W) => by
    have := ends_any 1000000 (Nat.le_refl _) r2 W _ 0 hszr (laid_low hlr h) hokr (by omega)
    rw [nodeAgg_v hrv2] at this
    exact this)
   have HTo := Lib.hid (fun (W : World) (h : Below w10.heap.size w10 W) => by
    have := told_any 1000000 (Nat.le_refl _) r2 W _ hszr (laid_low hlr h) hokr
    rw [nodeAgg_v hrv2] at this
    exact this)
   have HNU := Lib.hid (show em = nuV r2 from by
    rw [HR.out.emp, mv_fc, fc_em _ _ (sim_ws _ HOK.out).ok, nuV, htr])
   have HFC := Lib.hid (show fcT (erase r2) 0 = (mvT (simT (erase a)) 0 0).1 from by rw [htr, mv_fc])
   obtain ⟨kn, hkn⟩ : ∃ kn, kn = npos (erase r2) := ⟨_, rfl⟩
   rw [← hkn] at hpos
   have HKN := Lib.hid hkn
   clear hP hb9 hb10 hmp p0 p1 p2 p3 p4 p5 p6 p7 hml htr hokr hszr hlr hrv2 hkn q0 q1 q2 q3 q4 q5 q6 q7
   go_upto_region 7 with fail
   clear hw10
   obtain ⟨p0, p1, p2, p3, p4, p5, p6, p7⟩ := HPC.out w10 (Below.refl _ _)
   go_wp2_with fail
   go_at_call 12
   refine (HEn.out w10 (Below.refl _ _)).mono ?_
   rintro e w11 ⟨⟨fb, lb2, rfl, h1, h2, h3, h4⟩, hb11⟩
   rw [← HKN.out]
   have HB11 := Lib.hid hb11
   have HRW := Lib.hid (And.intro h1 h2)
   clear p0 p1 p2 p3 p4 p5 p6 p7 h1 h2 h3 h4
   obtain ⟨p0, p1, p2, p3, p4, p5, p6, p7⟩ := HPC.out w11 hb11
   clear hb11
   go_wp2_with fail
   go_at_call 13
   refine (HTo.out w11 HB11.out).mono ?_
   rintro e w12 ⟨rfl, hb12⟩
   have HB12 := Lib.hid (bhop HB10.out (bhop HB11.out hb12))
   have HRB := Lib.hid (show B200 w12 fb (mvT (simT (erase a)) 0 0).1.fi ∧ B200 w12 lb2 (mvT (simT (erase a)) 0 0).1.la from by
    rw [← HFC.out]
    exact ⟨HRW.out.1.below hb12, HRW.out.2.below hb12⟩)
   rw [← HNU.out]
   clear hb12 p0 p1 p2 p3 p4 p5 p6 p7
   obtain ⟨x, hx⟩ : ∃ x, x = (mvT (simT (erase a)) 0 0).1.fi := ⟨_, rfl⟩
   obtain ⟨z, hz⟩ : ∃ z, z = (mvT (simT (erase a)) 0 0).1.la := ⟨_, rfl⟩
   have hfr := HR.out.first
   have hlast := HR.out.last
   rw [← hx] at hfr
   rw [← HS.out, ← hz] at hlast
   have hfn : fN = (bitsL x).length := own_n hfr.own
   have HFP := Lib.hid (fun (y : Nat) (hy : x.testBit y = true) => show y < kn + 1 from by
    rw [hx] at hy
    have h1 := (mv_in (simT (erase a)) 0 0).1.fi _ hy
    have h2 := map_pos HR.out.map
    have h3 := HS.out
    omega)
   have HFR := Lib.hid (And.intro hfr (And.intro hlast hfn))
   have HRC := Lib.hid (show B200 w12 fb x ∧ B200 w12 lb2 z from by rw [hx, hz]; exact HRB.out)
   clear hfr hlast hfn hx hz
   obtain ⟨d8, d10, d11, d12, d13, d14, dlt⟩ := HC2.out w12 HB12.out
   have hk1 : (kn : Int) + 1 = (aN : Int) := by omega
   have hk2 : kn ≤ 40 := by omega
   clear d10
   go_wp2_with fail
   clear d8 d11 d12 d13 d14 dlt
   go_loopw [12, 13] (fun n y wr => ∃ c, LeO w12 x kn c n y wr) (fun n y wr => leastOf (fun c => LeO w12 x kn c n y wr))
   case atStart => exact ⟨_, 0, rfl, rfl, by omega, rfl, Below.refl _ _⟩
   case round =>
    have hls := (leastOf_spec hrel).1
    obtain ⟨p, rfl, hN, hp1, rfl, hb⟩ := hls
    have HN := Lib.hid hN
    have HBp := Lib.hid hb
    clear hN hrel
    have s1 : (0 : Int) ≤ (p : Int) := by omega
    obtain ⟨d8, d10, d11, d12, d13, d14, dlt⟩ := HC2.out wr (bhop HB12.out hb)
    clear d8 d10 d12 d14
    have hcl := cntB_le x p
    by_cases g4 : p ≤ kn
    ·have s2 : (p : Int) ≤ (kn : Int) := by omega
     have s3 : (p : Int) < (aN : Int) := by omega
     have s4 : (p : Int) < 200 := by omega
     obtain ⟨r1, r2', r3⟩ := (HRC.out.1.below hb).cell (p := p) (by omega)
     obtain ⟨k1, k2, k3⟩ := (HRC.out.2.below hb).cell (p := p) (by omega)
     have hla := own_chg HFR.out.2.1 (Chg.of_below (R := fun _ => False) (bhop HB12.out hb)) fun _ _ => id
     have hbb := (hla.lt bb rfl).2
     have l1 : wr.cell? ⟨bb, p, none⟩ = some (.bool (z.testBit p)) := by
      rw [hla.cellAt p (show p < aN * 1 by omega)]
      rw [List.getElem?_map, List.getElem?_range (by omega)]
      rfl
     obtain ⟨zb, hzb⟩ : ∃ zb, zb = z.testBit p := ⟨_, rfl⟩
     rw [← hzb] at k1 l1
     obtain ⟨cn, hcn⟩ : ∃ cn, cn = cntE x p := ⟨_, rfl⟩
     have HST := Lib.hid (cntB_step x p)
     have hcb : (cn : Int) ≤ 40 := by omega
     rw [← hcn]
     have HCN := Lib.hid hcn
     have HP1 := Lib.hid g4
     have HLT := Lib.hid (show kn + 1 - (p + 1) < kn + 1 - p by omega)
     clear hla hzb hcl hp1 r2' k2 hcn
     cases hxb : x.testBit p with
     | true =>
      rw [hxb] at r1
      have hat := bits_at (by omega) hxb
      rw [← HCN.out] at hat
      obtain ⟨g, cap, hv, hg, hc, _⟩ := intsR_at (HFR.out.1.below (bhop HB12.out hb)) hat
      simp only [Value.slice.injEq] at hv
      obtain ⟨rfl, hfx, rfl⟩ := hv
      clear hfx
      have hfl : cn < fN := by rw [HFR.out.2.2]; exact (List.getElem?_eq_some_iff.1 hat).1
      have s5 : ¬ ((fN : Int) ≤ (cn : Int)) := by omega
      have s6 : (cn : Int) < (fN : Int) := by omega
      have s7 : (0 : Int) ≤ (cn : Int) := by omega
      have HP := Lib.hid (fun (W : World) (h : Below w12.heap.size w12 W) => show LeO w12 x kn (kn + 1 - (p + 1)) (.int .i64 ((cn : Int) + 1)) (.int .i64 ((p : Int) + 1)) W from ⟨p + 1, by push_cast; rfl, rfl, by have := HP1.out; omega, by rw [HST.out, hxb, HCN.out]; simp, h⟩)
      clear hat hb
      go_wp2_with fail
      go_quiet (fail)
      go_wp2_with fail
      go_roundw
      case rel => exact ⟨_, HP.out _ (below_drewN HBp.out _)⟩
      case measure =>
       have hn := HN.out
       rw [← HCN.out] at hn
       rw [hn]
       exact Nat.lt_of_le_of_lt (leastOf_le (HP.out _ (below_drewN HBp.out _))) HLT.out
     | false =>
      rw [hxb] at r1
      have HP := Lib.hid (fun (W : World) (h : Below w12.heap.size w12 W) => show LeO w12 x kn (kn + 1 - (p + 1)) (.int .i64 (cn : Int)) (.int .i64 ((p : Int) + 1)) W from ⟨p + 1, by push_cast; rfl, rfl, by have := HP1.out; omega, by rw [HST.out, hxb, HCN.out]; simp, h⟩)
      clear hb d11
      go_wp2_with fail
      go_quiet (fail)
      go_wp2_with fail
      go_roundw
      case rel => exact ⟨_, HP.out _ (below_drewN HBp.out _)⟩
      case measure =>
       have hn := HN.out
       rw [← HCN.out] at hn
       rw [hn]
       exact Nat.lt_of_le_of_lt (leastOf_le (HP.out _ (below_drewN HBp.out _))) HLT.out
    ·have s2 : ¬ (p : Int) ≤ (kn : Int) := by omega
     have hpe : p = kn + 1 := by omega
     have hce : cntE x p = fN := by rw [HFR.out.2.2, hpe]; exact (bits_cnt (by omega) HFP.out).symm
     rw [hce]
     clear hp1 hcl hb d13 hce
     go_wp2_with fail
     go_ret
     exact ⟨rfl, bhop HB7.out (bhop HB12.out HBp.out)⟩
  ·rcases Bool.eq_false_or_eq_true (okT (erase a)) with hok | hok
   ·have hm : mapT (simT (erase a)) = none := by
     cases hm : mapT (simT (erase a)) with
     | none => rfl
     | some m => exact absurd ⟨hok, m, hm⟩ hmp
    have HF := Lib.hid (HMn.out w5 (bhop HBW.out HB5.out) HA.out 3 (.inr ⟨hok, hm, rfl⟩))
    have HOK := Lib.hid (And.intro hok hm)
    clear hok hm hmp
    go_wp2_with fail
    go_at_call 9
    refine HF.out.mono ?_
    rintro e w6 ⟨rfl, hb6⟩
    have HB6 := Lib.hid (bhop HB5.out hb6)
    clear hb6 q0 q1 q2 q3 q4 q5 q6 q7
    go_upto_region 4 with fail
    generalize hw7 : w6.alloc _ = w7
    have hb67 : Below w6.heap.size w6 w7 := hw7 ▸ (Below.refl _ w6).alloc (Nat.le_refl _) _
    have HB7 := Lib.hid (show Below w.heap.size w w7 from bhop (bhop HBW.out HB6.out) hb67)
    have HX7 := Lib.hid (show Below w1.heap.size w1 w7 from bhop HB6.out hb67)
    have hmp := (row_cells (hw7 ▸ heap_alloc_new w6 _ : w7.heap[w6.heap.size]? = some (.cells #[.int .i64 0, .int .u64 0, .int .u64 0, .int .u64 0, .int .u64 0, .slice none 0 0, .int .i64 0, .int .i64 0, .slice none 0 0, .slice none 0 0, .slice none 0 0, .slice none 0 0, .slice none 0 0, .slice none 0 0, .bool false] 39 (0, 0)))).1
    have c12 := hmp 12
    have hmbl : w6.heap.size < w7.heap.size := by rw [← hw7]; simp
    have HC12 := Lib.hid (fun (W : World) (h : Below w7.heap.size w7 W) => show W.cell? ⟨w6.heap.size, 12, none⟩ = some (.slice none 0 0) from (h.cell (p := ⟨w6.heap.size, 12, none⟩) hmbl).trans c12)
    clear hmp hb67 hw7 c12 hmbl
    obtain ⟨q0, q1, q2, q3, q4, q5, q6, q7⟩ := HBX.out w7 HX7.out
    go_wp2_with fail
    go_at_call 10
    refine (HFo.out w7 HB7.out HA.out).mono ?_
    rintro e w8 ⟨rfl, hb8⟩
    have HB8 := Lib.hid hb8
    rw [HOK.out.1]
    clear hb8 q0 q1 q2 q3 q4 q5 q6 q7
    obtain ⟨q0, q1, q2, q3, q4, q5, q6, q7⟩ := HBX.out w8 (bhop HX7.out HB8.out)
    go_wp2_with fail
    go_at_call 11
    refine (HRf.out w8 (bhop HB7.out HB8.out) HA.out HOK.out.1).mono ?_
    rintro e w9 ⟨⟨r2, pt, ptn, ptc, pA, pN, pC, pcA, pcN, pcC, paA, paN, paC, hP, hrv2, rfl⟩, hb9⟩
    rw [show codeP (mapT (simT (erase a))) = 3 from by rw [HOK.out.2]; rfl]
    have HB9 := Lib.hid (bhop HB8.out hb9)
    clear hP hrv2 q0 q1 q2 q3 q4 q5 q6 q7
    go_upto_region 7 with fail
    generalize hw10 : w9.alloc _ = w10
    have hb10 : Below w9.heap.size w9 w10 := hw10 ▸ (Below.refl _ w9).alloc (Nat.le_refl _) _
    have HB10 := Lib.hid (bhop HB9.out hb10)
    have d12 := HC12.out w10 HB10.out
    clear hw10 hb10 hb9
    go_wp2_with fail
    go_ret
    exact ⟨rfl, bhop HB7.out HB10.out⟩
   ·have HF := Lib.hid (HMn.out w5 (bhop HBW.out HB5.out) HA.out 1 (.inl ⟨hok, rfl⟩))
    have HOK := Lib.hid hok
    clear hok hmp
    go_wp2_with fail
    go_at_call 9
    refine HF.out.mono ?_
    rintro e w6 ⟨rfl, hb6⟩
    have HB6 := Lib.hid (bhop HB5.out hb6)
    clear hb6 q0 q1 q2 q3 q4 q5 q6 q7
    go_upto_region 4 with fail
    generalize hw7 : w6.alloc _ = w7
    have hb67 : Below w6.heap.size w6 w7 := hw7 ▸ (Below.refl _ w6).alloc (Nat.le_refl _) _
    have HB7 := Lib.hid (show Below w.heap.size w w7 from bhop (bhop HBW.out HB6.out) hb67)
    have HX7 := Lib.hid (show Below w1.heap.size w1 w7 from bhop HB6.out hb67)
    have hmp := (row_cells (hw7 ▸ heap_alloc_new w6 _ : w7.heap[w6.heap.size]? = some (.cells #[.int .i64 0, .int .u64 0, .int .u64 0, .int .u64 0, .int .u64 0, .slice none 0 0, .int .i64 0, .int .i64 0, .slice none 0 0, .slice none 0 0, .slice none 0 0, .slice none 0 0, .slice none 0 0, .slice none 0 0, .bool false] 39 (0, 0)))).1
    have c12 := hmp 12
    have hmbl : w6.heap.size < w7.heap.size := by rw [← hw7]; simp
    have HC12 := Lib.hid (fun (W : World) (h : Below w7.heap.size w7 W) => show W.cell? ⟨w6.heap.size, 12, none⟩ = some (.slice none 0 0) from (h.cell (p := ⟨w6.heap.size, 12, none⟩) hmbl).trans c12)
    clear hmp hb67 hw7 c12 hmbl
    obtain ⟨q0, q1, q2, q3, q4, q5, q6, q7⟩ := HBX.out w7 HX7.out
    go_wp2_with fail
    go_at_call 10
    refine (HFo.out w7 HB7.out HA.out).mono ?_
    rintro e w8 ⟨rfl, hb8⟩
    have HB8 := Lib.hid hb8
    rw [HOK.out]
    clear hb8 q0 q1 q2 q3 q4 q5 q6 q7
    have d12 := HC12.out w8 HB8.out
    go_wp2_with fail
    go_ret
    exact ⟨rfl, bhop HB7.out HB8.out⟩
 ·have hA2 : min (szT (erase a)) (100 + 1) = 101 := by omega
  rw [hA2]
  clear hA hA2
  go_wp2_with fail
  go_at_call 7
  refine (awake6_any _ (HTT.out _ (bhop HBW.out HB5.out)).1 (HTT.out _ (bhop HBW.out HB5.out)).2).mono ?_
  rintro e w5 ⟨rfl, hb5⟩
  have HB5 := Lib.hid (bhop HB5.out hb5)
  go_wp2_with fail
  go_ret
  exact ⟨rfl, bhop HBW.out HB5.out⟩
end Go.Proofs.YtgjnflhpmbjffaaDoor

/- Of every tree the statement MovesEnds returns true, and it reads afterwards as before; the card: what its row lists is tied to the program's text.
   No condition. -/
namespace Go.Proofs.YtgjnflhpmbjffaaDoor
open Go.ChangeShapes Go.WideShapes Go.ChangeAt Go.RowKit
theorem movesEndsOwn : ownKnob Tryd.prog.godebug = none := by kernel_rfl
theorem movesEndsLaidOut : laidOutB Tryd.prog = true := by kernel_rfl
theorem movesEndsAgg (t : V) : nodeAgg t = .agg (ndc t).toArray := rfl
theorem movesEndsDoor (os : Os) (args : Array Value) : laidMetH Tryd.prog Rows.movesEndsRow.laid ((World.doorLaid Tryd.prog 400 os).forCall (fun _ _ => 0) ⟨#[], args, []⟩).memory :=
 laidMetH_of_parts3 (fuel := 8) (laidMet_of_run' 8 (by kernel_rfl) (by kernel_rfl)) (by kernel_rfl) (by kernel_rfl)
set_option maxRecDepth 100000 in
theorem movesEnds_lifted (os : Os) (started : os.Started) (H : Type) (enc : TypeId × Value → H) :
  ReturnsInHanded {} Tryd.checked os 3 .any (fun w args => (Rows.movesEndsSpec.pre enc Tryd.prog Tryd.f3 Rows.movesEndsRow.domain false w args ∧ laidMetH Tryd.prog Rows.movesEndsRow.laid w) ∧ sizedMet enc Tryd.prog Tryd.f3 (OpenSpec.ofChange Rows.movesEndsSpec) false w args)
   (Rows.movesEndsSpec.post enc Tryd.prog Tryd.f3 false true false false) := by
 refine returnsInHanded_of_change_and (C := Tryd.checked) (X := fun w _ => laidMetH Tryd.prog Rows.movesEndsRow.laid w) (fun _ _ _ hh h => h.of_heap hh) movesEndsOwn started (by kernel_rfl) Tryd.func3
  (ChangeSpec.witness_shaped (enc := enc) (C := Tryd.checked) (os := os) (X := fun w _ => laidMetH Tryd.prog Rows.movesEndsRow.laid w) false (World.doorLaid Tryd.prog 400 os) #[.agg #[.int .i64 0, .int .u64 0, .int .u64 0, .int .u64 0, .int .u64 0, .slice none 0 0, .int .i64 0, .int .i64 0]] 8 rfl (World.shaped_of_RefB (by kernel_rfl) (by kernel_rfl)) (by kernel_rfl) (by kernel_rfl) (by kernel_rfl) (movesEndsDoor os _)) ?_
 intro W base args ds gs before hval0 hW _ _ hLaid _
 have hval : ∀ (j : Nat) t v, Tryd.f3.params[j]? = some t → args[j]? = some v → Value.okWide Tryd.prog W .any base t v := hval0
 have hW' := hW
 obtain ⟨hT, hTl⟩ := tab_laid hLaid
 obtain ⟨p, q, hA0, hV, rfl, hfz, hnd⟩ := hW
 have hA : DataW.TrodAll enc Tryd.prog W 0 (fun _ => true) true Tryd.f3.params.toList args.toList ds p := hA0
 rw [Tryd.params3] at hA hval
 obtain ⟨v0, vs0, d0, ds0, p0, q0, hargs, rfl, rfl, h0, r0⟩ := trodAll_cons hA
 obtain ⟨rfl, rfl, rfl⟩ := trodAll_nil r0
 obtain rfl : args = #[v0] := by cases args; simp_all
 obtain ⟨rfl, rfl⟩ := trodVars_none hV
 have k0 := h0
 have lt0 : ∀ x ∈ p0, x.block < W.heap.size := by obtain ⟨m, hm⟩ := k0; exact DataW.trod_lt m _ _ _ hm
 obtain ⟨t0, rfl, l0, _⟩ := open_tree (hval 0 27 v0 rfl rfl) h0
 clear hA0 hval0
 rw [← movesEndsAgg] at *
 refine (ends6_walk t0 W _ l0 hT hTl).mono fun e W' ⟨he, bel⟩ => ?_
 subst he
 exact ⟨_, rfl, _, _, _, [], _, [], hW', trodAll_mk1 (shut_bool Tryd.underlying4 _), (trodAll_cons_mk (Below.trod movesEndsLaidOut (by kernel_rfl) (of_decide_eq_true (by kernel_rfl)) k0 bel lt0) trodAll_mk0), rfl, bel.frame _, fun h => by cases h⟩
theorem movesEnds_holds : Rows.MovesEndsSaid :=
 OpenClaim.holds_of_wide 3 Tryd.f3 rfl rfl rfl rfl rfl rfl rfl ⟨rfl, rfl, rfl, rfl, rfl⟩ rfl rfl rfl rfl rfl (by kernel_rfl) Tryd.func3 (by kernel_rfl)
  (of_decide_eq_true (by kernel_rfl)) (by unfold Func.isWrapper; rw [if_neg (of_decide_eq_false (by kernel_rfl))]; exact ⟨rfl, rfl⟩)
  (fun os started H enc _ => movesEnds_lifted os started H enc)
theorem movesEnds_card_holds : Rows.MovesEndsCardSaid :=
 Claim7.holds_tied_plain_at .later [] [.data] true _ false
  movesEnds_holds (fun _ h => by cases h) (by kernel_rfl) (fun _ h => by cases h) movesEnds_row_tie rfl ⟨rfl, rfl⟩ (by kernel_rfl) rfl
  (fun f fn hf hfn => by
   obtain rfl : f = 3 := Option.some.inj ((show Tryd.prog.funcNamed "ostinato/ostinatolaw06.MovesEnds" = some 3 by kernel_rfl).symm.trans hf) |>.symm
   obtain rfl : fn = Tryd.f3 := (Option.some.inj (Tryd.func3.symm.trans hfn)).symm
   exact ⟨by kernel_rfl, fun j t ht => by
    rw [Tryd.params3] at ht
    have hm : t ∈ [27] := by simpa using Array.mem_of_getElem? ht
    have hall : ([27].all fun u => !Tryd.prog.wantsStandIn u) = true := by kernel_rfl
    exact (show Tryd.prog.wantsStandIn t = false by simpa using List.all_eq_true.1 hall t hm)⟩)
  (by kernel_rfl)
#print axioms movesEnds_card_holds
end Go.Proofs.YtgjnflhpmbjffaaDoor
