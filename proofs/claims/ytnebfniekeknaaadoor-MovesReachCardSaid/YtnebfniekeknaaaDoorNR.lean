/- Of every tree the statement MovesReach returns true, and it reads afterwards as before; the card: what its row lists is tied to the program's text.
   No condition. -/
import Derived.Test.YtnebfniekeknaaaDoorLA7
import Derived.Test.YtnebfniekeknaaaDoorNM
import Derived.Deep.DeepCutAuto
import Derived.Deep.RegionHeld3
import Derived.Deep.OwnRows
import Derived.Test.YtnebfniekeknaaaDoorMRef
import Derived.Test.YtnebfniekeknaaaDoorCards
import Derived.Test.YtnebfniekeknaaaDoorTie
import Derived.ProofKit
import Derived.LaidMore
import Derived.OpenShut
import Derived.ChangeOld
import Derived.Below
import Derived.SevenTiedAt

/- The walk of the statement MovesReach: called with a tree it returns true and changes nothing that was there.
   Conditions: the tree lies in memory, and the library's table. -/
namespace Go.Proofs.YtnebfniekeknaaaDoor
open Go.RowKit Go.Shelf
attribute [local go_sem] nodeAgg

/-- The positions told so far, in memory. -/
def ToR (w7 : World) (tb n : Nat) (pre : List Nat) (W : World) : Prop :=
  W.heap[tb]? = some (.cells ((List.range n).map fun q => Value.bool (decide (q ∈ pre))).toArray 4 (0, 0)) ∧ Below w7.heap.size w7 W
theorem ToR.put {w7 W : World} {tb n : Nat} {pre : List Nat} (h : ToR w7 tb n pre W) (hl : w7.heap.size ≤ tb) (p : Nat) : ToR w7 tb n (pre ++ [p]) (W.setCell ⟨tb, p, none⟩ (.bool true)) :=
  ⟨by rw [heap_setCell_same W tb _ _ _ _ h.1, tell_set], h.2.setCell hl _⟩
theorem ToR.cell {w7 W : World} {tb n : Nat} {pre : List Nat} (h : ToR w7 tb n pre W) {p : Nat} (hp : p < n) : W.cell? ⟨tb, p, none⟩ = some (.bool (decide (p ∈ pre))) ∧ W.frozen? ⟨tb, p, none⟩ = false ∧ tb < W.heap.size :=
  ⟨by rw [(row_cells h.1).1 p]; simp [hp], (row_cells h.1).2 p, (Array.getElem?_eq_some_iff.1 h.1).1⟩
theorem ToR.drew {w7 W : World} {tb n : Nat} {pre : List Nat} (h : ToR w7 tb n pre W) (k : Nat) : ToR w7 tb n pre (W.drewN k) := ⟨h.1, below_drewN h.2 k⟩
/-- Ahead of a round of the loop over the first positions. -/
def LrF (w7 : World) (tb n : Nat) (fl : List Nat) (c : Nat) (x : Value) (wr : World) : Prop := ∃ i : Nat, x = .int .i64 i ∧ c = fl.length - i ∧ i ≤ fl.length ∧ ToR w7 tb n (fl.take i) wr
/-- Ahead of a round of the loop over a position's moves, and of the loop over the positions. -/
def LrO (w7 : World) (tb n : Nat) (fl : List Nat) (L : Nat → List Mv) (c : Nat) (x : Value) (wr : World) : Prop := ∃ (p : Nat) (pre : List Nat), x = .int .i64 p ∧ c = n - p ∧ p ≤ n ∧ ToR w7 tb n pre wr ∧ (∀ q ∈ fl, q ∈ pre) ∧ ∀ p' < p, ∀ y ∈ L p', y.tt ∈ pre
def LrI (w7 : World) (tb n : Nat) (fl : List Nat) (L : Nat → List Mv) (p c : Nat) (x : Value) (wr : World) : Prop := ∃ (i : Nat) (pre : List Nat), x = .int .i64 i ∧ c = (L p).length - i ∧ i ≤ (L p).length ∧ ToR w7 tb n pre wr ∧ (∀ q ∈ fl, q ∈ pre) ∧ (∀ p' < p, ∀ y ∈ L p', y.tt ∈ pre) ∧ ∀ y ∈ (L p).take i, y.tt ∈ pre
/-- What the statement MovesReach asks of a position. -/
theorem mv_reached {t : T} (hok : okT t = true) {m : PM} (hm : mapT (simT t) = some m) {L : Nat → List Mv} (hL : ∀ i, i < m.sets.length → ∀ x, x ∈ L i ↔ SJ (mvT (simT t) 0 0).2.2 (stOf i x)) (h41 : m.sets.length ≤ 41) {pre : List Nat}
    (hf : ∀ q ∈ bitsL (mvT (simT t) 0 0).1.fi, q ∈ pre) (hpre : ∀ p' < m.sets.length, ∀ y ∈ L p', y.tt ∈ pre) {p : Nat} (h1 : 1 ≤ p) (h2 : p < m.sets.length) :
    p ∈ pre ∧ ((mvT (simT t) 0 0).1.la.testBit p = true ∨ (L p).length ≠ 0) := by
  have hr := moves_reach t hok (sim_ws _ hok).ok p h1 (by have := map_pos hm; omega)
  refine ⟨?_, ?_⟩
  · rcases hr.1 with h | ⟨j, hj, k1, p', k2⟩
    · exact hf p (mem_bits.2 ⟨by omega, h⟩)
    · have hs : SJ (mvT (simT t) 0 0).2.2 (stOf p' ⟨p, j.kp, j.ag⟩) := ⟨j, hj, k2, k1, rfl, rfl⟩
      have hp' := (sj_in hm hs).2.1
      exact hpre p' hp' _ ((hL p' hp' ⟨p, j.kp, j.ag⟩).2 hs)
  · rcases hr.2 with h | ⟨j, hj, k1, p', k2⟩
    · exact .inl h
    · refine .inr fun e => ?_
      have hs : SJ (mvT (simT t) 0 0).2.2 (stOf p ⟨p', j.kp, j.ag⟩) := ⟨j, hj, k1, k2, rfl, rfl⟩
      have := (hL p h2 ⟨p', j.kp, j.ag⟩).2 hs
      rw [List.length_eq_zero_iff.1 e] at this
      cases this

set_option maxHeartbeats 8000000 in
set_option maxRecDepth 100000 in
theorem reach6_walk (a : V) (w : World) (R : Nat → Prop) (ha : Laid w R a) (hT : TabE w) (hTl : tabE < w.heap.size) :
    Calls Tryd.prog 3 #[nodeAgg a] w fun e w' => e = .returned (.bool true) ∧ Below w.heap.size w w' := by
  obtain ⟨sa, sc, hv0, _⟩ := laid_row' ha
  obtain ⟨sn, hsn⟩ : ∃ sn, sn = a.ps.length := ⟨_, rfl⟩
  rw [← hsn] at hv0
  obtain ⟨w1, hw1, hbw1, hlt1, hbx⟩ := box_new w a (.slice sa sn sc)
  have HTT := Lib.hid (fun (W : World) (h : Below w.heap.size w W) => And.intro (tab_below hT hTl h) (Nat.lt_of_lt_of_le hTl h.size))
  have HSa := Lib.hid (fun (W : World) (h : Below w.heap.size w W) => by
    have := size_any 100 (by omega) a W R (laid_low ha h)
    rw [nodeAgg_v hv0] at this
    exact this)
  have HMn := Lib.hid (fun (W : World) (h : Below w.heap.size w W) (hz : szT (erase a) ≤ 100) (code : Int) (hc : NoMap (erase a) code) => by
    have := make_none a W R (laid_low ha h) (by omega) code hc
    rw [nodeAgg_v hv0] at this
    exact this)
  have HMg := Lib.hid (fun (W : World) (h : Below w.heap.size w W) (hz : szT (erase a) ≤ 100) (hok : okT (erase a) = true) (m : PM) (hm : mapT (simT (erase a)) = some m) => by
    have := make_good a W R (laid_low ha h) (by omega) hok m hm (tab_below hT hTl h) (Nat.lt_of_lt_of_le hTl h.size)
    rw [nodeAgg_v hv0] at this
    exact this)
  have HBX := Lib.hid hbx
  have HBW := Lib.hid hbw1
  rw [nodeAgg_v hv0]
  clear hbx ha hv0 hsn hlt1 hbw1 hT hTl
  go_enter Tryd.func3, Tryd.ntmps3
  go_upto_region 1 with fail
  clear hw1
  go_wp2_with fail
  go_at_call 10
  refine (awake6_any _ (HTT.out _ HBW.out).1 (HTT.out _ HBW.out).2).mono ?_
  rintro e w3 ⟨rfl, hb3⟩
  obtain ⟨q0, q1, q2, q3, q4, q5, q6, q7⟩ := HBX.out w3 hb3
  have HB3 := Lib.hid hb3
  clear hb3
  go_wp2_with fail
  go_at_call 11
  refine (HSa.out _ (bhop HBW.out HB3.out)).mono ?_
  rintro e w5 ⟨rfl, hb4⟩
  have HB5 := Lib.hid (bhop HB3.out hb4)
  clear hb4 q0 q1 q2 q3 q4 q5 q6 q7
  obtain ⟨q0, q1, q2, q3, q4, q5, q6, q7⟩ := HBX.out w5 HB5.out
  by_cases hA : szT (erase a) ≤ 100
  · have hA2 : min (szT (erase a)) (100 + 1) = szT (erase a) := by omega
    rw [hA2]
    have g1 : ¬ (100 : Int) < ((szT (erase a) : Nat) : Int) := by omega
    have HA := Lib.hid hA
    clear hA hA2
    by_cases hmp : okT (erase a) = true ∧ ∃ m, mapT (simT (erase a)) = some m
    · obtain ⟨hok, m, hm⟩ := hmp
      have HF := Lib.hid (HMg.out w5 (bhop HBW.out HB5.out) HA.out hok m hm)
      have HOK := Lib.hid hok
      clear hok hm
      go_wp2_with fail
      go_at_call 12
      refine HF.out.mono ?_
      rintro e w6 ⟨⟨r, ta, tn, tc, sA, sN, sC, cA, cN, cC, aA, aN, aC, fA, fN, fC, lb, bb, em, vs, L, hR, hrv, rfl⟩, hb6⟩
      have HB6 := Lib.hid (bhop HB5.out hb6)
      have hs : sN = m.sets.length := own_n hR.lists.sets
      have hsa : aN = sN := by
        obtain ⟨vs2, hv2, _⟩ := hR.lists.ars
        have := own_n hv2
        have := hR.ars
        omega
      subst hsa
      have hs41 : aN ≤ 41 := by have := hR.sets; omega
      have hs1 : 1 ≤ aN := by have := hR.one; omega
      obtain ⟨ga, rfl⟩ : ∃ ga, aA = some ⟨ga, 0, none⟩ := by
        obtain ⟨vs2, hv2, _⟩ := hR.lists.ars
        obtain ⟨g, cap, hgv, _⟩ := hv2.form (by have := hR.one; have := hR.ars; omega)
        simp only [Value.slice.injEq] at hgv
        exact ⟨g, hgv.1⟩
      obtain ⟨w7, hw7⟩ : ∃ w7, w6.alloc (.cells #[.int .i64 r.kind, .int .u64 (r.set 0 : Nat), .int .u64 (r.set 1 : Nat), .int .u64 (r.set 2 : Nat), .int .u64 (r.set 3 : Nat), .slice ta tn tc, .int .i64 r.lo, .int .i64 r.hi, .slice sA aN sC, .slice cA cN cC, .slice (some ⟨ga, 0, none⟩) aN aC, .slice fA fN fC, .slice (some ⟨lb, 0, none⟩) aN aN, .slice (some ⟨bb, 0, none⟩) aN aN, .bool em] 39) = w7 := ⟨_, rfl⟩
      have hb67 : Below w6.heap.size w6 w7 := hw7 ▸ (Below.refl _ w6).alloc (Nat.le_refl _) _
      have hmp := (row_cells (hw7 ▸ heap_alloc_new w6 _ : w7.heap[w6.heap.size]? = some (.cells #[.int .i64 r.kind, .int .u64 (r.set 0 : Nat), .int .u64 (r.set 1 : Nat), .int .u64 (r.set 2 : Nat), .int .u64 (r.set 3 : Nat), .slice ta tn tc, .int .i64 r.lo, .int .i64 r.hi, .slice sA aN sC, .slice cA cN cC, .slice (some ⟨ga, 0, none⟩) aN aC, .slice fA fN fC, .slice (some ⟨lb, 0, none⟩) aN aN, .slice (some ⟨bb, 0, none⟩) aN aN, .bool em] 39 (0, 0)))).1
      have c10 := hmp 10; have c11 := hmp 11; have c12 := hmp 12; have c13 := hmp 13
      have hmbl : w6.heap.size < w7.heap.size := by rw [← hw7]; simp
      have HR := Lib.hid (hR.step hb67)
      have HS := Lib.hid hs
      have hrows := HR.out.rows
      rw [HR.out.mvv, ← hs] at hrows
      have HW := Lib.hid hrows
      have HL := Lib.hid HR.out.lists
      have HM := Lib.hid (fun (p : Nat) (x : Mv) (hp : p < aN) (hx : x ∈ L p) => (HR.out.moves p (by omega)).2 x |>.1 hx)
      have HB7 := Lib.hid (show Below w.heap.size w w7 from bhop (bhop HBW.out HB6.out) hb67)
      have HC := Lib.hid (fun (W : World) (h : Below w7.heap.size w7 W) => show W.cell? ⟨w6.heap.size, 10, none⟩ = some (.slice (some ⟨ga, 0, none⟩) aN aC) ∧ W.cell? ⟨w6.heap.size, 11, none⟩ = some (.slice fA fN fC) ∧ W.cell? ⟨w6.heap.size, 12, none⟩ = some (.slice (some ⟨lb, 0, none⟩) aN aN) ∧ W.cell? ⟨w6.heap.size, 13, none⟩ = some (.slice (some ⟨bb, 0, none⟩) aN aN) ∧ w6.heap.size < W.heap.size from
        ⟨(h.cell (p := ⟨w6.heap.size, 10, none⟩) hmbl).trans c10, (h.cell (p := ⟨w6.heap.size, 11, none⟩) hmbl).trans c11, (h.cell (p := ⟨w6.heap.size, 12, none⟩) hmbl).trans c12, (h.cell (p := ⟨w6.heap.size, 13, none⟩) hmbl).trans c13, Nat.lt_of_lt_of_le hmbl h.size⟩)
      clear hb67 hmp hrows hR hrv hs hb6 c10 c11 c12 c13 hmbl q0 q1 q2 q3 q4 q5 q6 q7
      go_upto_region 4 with fail
      clear hw7
      have HMk := Lib.hid (run_make_row' (P := Tryd.prog) 37 4 (.bool false) 1 Tryd.underlying37 infoBo rfl .i64 .i64 aN (by omega) (by omega) w7)
      obtain ⟨d10, d11, d12, d13, dlt⟩ := HC.out w7 (Below.refl _ _)
      have hmk := HMk.out
      clear d10 d13
      go_upto_region 7 with fail
      clear hmk d11 d12 dlt
      generalize hw8 : w7.alloc _ = w8
      obtain ⟨tb, htb⟩ : ∃ tb, tb = w7.heap.size := ⟨_, rfl⟩
      have hT8 : ToR w7 tb aN [] w8 := by
        refine ⟨?_, hw8 ▸ (Below.refl _ w7).alloc (Nat.le_refl _) _⟩
        rw [← made_bool, ← hw8, htb]
        exact heap_alloc_new w7 _
      have HTB := Lib.hid (show w7.heap.size ≤ tb by omega)
      rw [← htb]
      clear hw8 htb
      obtain ⟨fl, hfl⟩ : ∃ fl, fl = bitsL (mvT (simT (erase a)) 0 0).1.fi := ⟨_, rfl⟩
      have hfr := HR.out.first
      rw [← hfl] at hfr
      have hfn : fN = fl.length := own_n hfr.own
      have HFR := Lib.hid hfr
      have hf41 : fN ≤ 9223372036854775807 := by rw [hfn]; exact own_max hfr.own
      have HFP := Lib.hid (fun (y : Nat) (hy : y ∈ fl) => show y < aN from by
        rw [hfl] at hy
        have h1 := (mv_in (simT (erase a)) 0 0).1.fi _ (mem_bits.1 hy).2
        have h2 := map_pos HR.out.map
        have h3 := HS.out
        omega)
      have HFL := Lib.hid hfl
      have HT8 := Lib.hid hT8
      have HFN := Lib.hid hfn
      clear hfr hfl hT8 hfn
      go_wp2_with fail
      go_loopw [6] (fun x wr => ∃ n, LrF w7 tb aN fl n x wr) (fun x wr => leastOf (fun n => LrF w7 tb aN fl n x wr))
      case atStart => exact ⟨_, 0, rfl, rfl, by omega, HT8.out⟩
      case round =>
        have hls := (leastOf_spec hrel).1
        obtain ⟨i, rfl, hN, hi1, ht⟩ := hls
        have HN := Lib.hid hN
        have HTi := Lib.hid ht
        clear hN hrel
        have s1 : (0 : Int) ≤ (i : Int) := by omega
        obtain ⟨d10, d11, d12, d13, dlt⟩ := HC.out wr ht.2
        clear d10
        by_cases g4 : i < fN
        · have s2 : (i : Int) < (fN : Int) := by omega
          obtain ⟨y, hy⟩ : ∃ y, fl[i]? = some y := ⟨_, List.getElem?_eq_getElem (by have := HFN.out; omega)⟩
          obtain ⟨g, cap, hv, hg, hc, _⟩ := intsR_at (HFR.out.below ht.2) hy
          simp only [Value.slice.injEq] at hv
          obtain ⟨rfl, _, rfl⟩ := hv
          have hyn := HFP.out y (List.mem_of_getElem? hy)
          obtain ⟨t1, t2, t3⟩ := ht.cell hyn
          have s4 : (0 : Int) ≤ (y : Int) := by omega
          have s5 : (y : Int) < (aN : Int) := by omega
          have HP := Lib.hid (show LrF w7 tb aN fl (fl.length - (i + 1)) (.int .i64 ((i : Int) + 1)) (wr.setCell ⟨tb, y, none⟩ (.bool true)) from ⟨i + 1, by push_cast; rfl, rfl, by have := HFN.out; omega, by rw [List.take_add_one, hy]; exact HTi.out.put HTB.out y⟩)
          have HLT := Lib.hid (show fl.length - (i + 1) < fl.length - i by have := HFN.out; omega)
          clear ht hy hi1 d12 d13
          go_wp2_with fail
          go_roundw
          case rel => exact ⟨_, HP.out⟩
          case measure =>
            rw [HN.out]
            exact Nat.lt_of_le_of_lt ((leastOf_spec ⟨_, HP.out⟩).2 _ HP.out) HLT.out
        · have s2 : ¬ (i : Int) < (fN : Int) := by omega
          have HT9 := Lib.hid (show ToR w7 tb aN fl wr by
            have h : fl.take i = fl := List.take_of_length_le (by have := HFN.out; omega)
            rw [h] at ht
            exact ht)
          clear ht hi1 d13
          go_wp2_with fail
          clear d11 d12 dlt
          go_loopw [7] (fun x wr => ∃ n, LrO w7 tb aN fl L n x wr) (fun x wr => leastOf (fun n => LrO w7 tb aN fl L n x wr))
          case atStart => exact ⟨_, 0, fl, rfl, rfl, by omega, HT9.out, fun _ h => h, fun _ h => absurd h (Nat.not_lt_zero _)⟩
          case round =>
            have hls := (leastOf_spec hrel).1
            obtain ⟨p, pre, rfl, hN, hp1, ht, hpf, hpp⟩ := hls
            have HN := Lib.hid hN
            have HTp := Lib.hid ht
            have HPF := Lib.hid hpf
            have HPP := Lib.hid hpp
            clear hN hrel hpf hpp
            have s1 : (0 : Int) ≤ (p : Int) := by omega
            obtain ⟨d10, d11, d12, d13, dlt⟩ := HC.out wr ht.2
            clear d10 d11 d13
            by_cases g5 : p < aN
            · have s2 : (p : Int) < (aN : Int) := by omega
              have hlen := mv_max HW.out g5
              clear ht
              go_wp2_with fail
              clear d12 dlt
              go_loopw [8] (fun x wr => ∃ n, LrI w7 tb aN fl L p n x wr) (fun x wr => leastOf (fun n => LrI w7 tb aN fl L p n x wr))
              case atStart => exact ⟨_, 0, pre, rfl, rfl, by omega, HTp.out, HPF.out, HPP.out, fun _ h => by simp at h⟩
              case round =>
                have hls := (leastOf_spec hrel).1
                obtain ⟨i, pre2, rfl, hN2, hi1, ht, hpf, hpp, hpi⟩ := hls
                have HN2 := Lib.hid hN2
                have HT2 := Lib.hid ht
                have HP2 := Lib.hid (And.intro hpf (And.intro hpp hpi))
                clear hN2 hrel hpf hpp hpi
                obtain ⟨d10, d11, d12, d13, dlt⟩ := HC.out wr ht.2
                clear d10 d11 d13
                obtain ⟨A, c, m1, m2, m3⟩ := mv_read (HW.out.below ht.2) g5
                obtain ⟨ln, hln⟩ : ∃ ln, ln = (L p).length := ⟨_, rfl⟩
                have HLN := Lib.hid hln
                rw [← hln] at m1 hi1 hlen
                clear hln
                have v1 : (0 : Int) ≤ (i : Int) := by omega
                by_cases g6 : i < ln
                · have v2 : (i : Int) < (ln : Int) := by omega
                  obtain ⟨x, hx⟩ : ∃ x, (L p)[i]? = some x := ⟨_, List.getElem?_eq_getElem (by have := HLN.out; omega)⟩
                  obtain ⟨g, rfl, hg, x0, x1, x2⟩ := m3 i x hx
                  have hxn : x.tt < aN := by have h1 : x.tt < m.sets.length := (sj_in HR.out.map (HM.out p x g5 (List.mem_of_getElem? hx))).2.2.2; have h2 := HS.out; omega
                  obtain ⟨t1, t2, t3⟩ := ht.cell hxn
                  have s4 : (0 : Int) ≤ (x.tt : Int) := by omega
                  have s5 : (x.tt : Int) < (aN : Int) := by omega
                  have HQ := Lib.hid (show LrI w7 tb aN fl L p ((L p).length - (i + 1)) (.int .i64 ((i : Int) + 1)) (wr.setCell ⟨tb, x.tt, none⟩ (.bool true)) from ⟨i + 1, pre2 ++ [x.tt], by push_cast; rfl, rfl, by have := HLN.out; omega, HT2.out.put HTB.out x.tt,
                    fun q h => List.mem_append_left _ (HP2.out.1 q h), fun p' h y hy => List.mem_append_left _ (HP2.out.2.1 p' h y hy), fun y hy => by
                      rw [List.take_add_one, hx] at hy
                      rcases List.mem_append.1 hy with hy | hy
                      · exact List.mem_append_left _ (HP2.out.2.2 y hy)
                      · rw [show y = x by simpa using hy]; exact List.mem_append_right _ (List.mem_singleton.2 rfl)⟩)
                  have HLT := Lib.hid (show (L p).length - (i + 1) < (L p).length - i by have := HLN.out; omega)
                  clear ht hx hi1 m3
                  go_wp2_with fail
                  go_roundw
                  case rel => exact ⟨_, HQ.out⟩
                  case measure =>
                    rw [HN2.out]
                    exact Nat.lt_of_le_of_lt ((leastOf_spec ⟨_, HQ.out⟩).2 _ HQ.out) HLT.out
                · have v2 : ¬ (i : Int) < (ln : Int) := by omega
                  have HQ := Lib.hid (show LrO w7 tb aN fl L (aN - (p + 1)) (.int .i64 ((p : Int) + 1)) wr from ⟨p + 1, pre2, by push_cast; rfl, rfl, by omega, HT2.out, HP2.out.1, fun p' h y hy => by
                    by_cases e : p' = p
                    · subst e
                      have h2 : (L p').take i = L p' := List.take_of_length_le (by have := HLN.out; omega)
                      exact HP2.out.2.2 y (by rw [h2]; exact hy)
                    · exact HP2.out.2.1 p' (by omega) y hy⟩)
                  clear ht hi1 m3
                  go_wp2_with fail
                  go_roundw
                  case rel => exact ⟨_, HQ.out⟩
                  case measure =>
                    rw [HN.out]
                    refine Nat.lt_of_le_of_lt ((leastOf_spec ⟨_, HQ.out⟩).2 _ HQ.out) ?_
                    omega
            · have s2 : ¬ (p : Int) < (aN : Int) := by omega
              have HQ := Lib.hid (fun (q : Nat) (h1 : 1 ≤ q) (h2 : q < aN) => mv_reached HOK.out HR.out.map (fun i hi => (HR.out.moves i hi).2) HR.out.sets (by rw [← HFL.out]; exact HPF.out) (fun p' hp' => HPP.out p' (by have := HS.out; omega)) h1 (by have := HS.out; omega))
              clear ht hp1
              go_wp2_with fail
              clear d12 dlt
              go_loopw [9] (fun x wx => ∃ n, LpO w7 aN n x wx ∧ 1 ≤ aN - n ∧ ToR w7 tb aN pre wx) (fun x wx => leastOf (fun n => LpO w7 aN n x wx ∧ 1 ≤ aN - n ∧ ToR w7 tb aN pre wx))
              case atStart => exact ⟨aN - 1, ⟨1, rfl, rfl, by omega, HTp.out.2⟩, by omega, HTp.out⟩
              case round =>
                have hls := (leastOf_spec hrel).1
                obtain ⟨⟨q, rfl, hN3, hq1, hb⟩, hq0, ht⟩ := hls
                have HN3 := Lib.hid hN3
                have HT3 := Lib.hid ht
                rw [hN3] at hq0
                clear hN3 hrel
                obtain ⟨d10, d11, d12, d13, dlt⟩ := HC.out wr hb
                clear d10 d11
                have v1 : (0 : Int) ≤ (q : Int) := by omega
                by_cases g6 : q < aN
                · have v2 : (q : Int) < (aN : Int) := by omega
                  obtain ⟨r1, r2⟩ := HQ.out q (by omega) g6
                  obtain ⟨t1, t2, t3⟩ := ht.cell g6
                  rw [show decide (q ∈ pre) = true by simp [r1]] at t1
                  have hlast := own_chg HR.out.last (Chg.of_below (R := fun _ => False) hb) fun _ _ => id
                  rw [← HS.out] at hlast
                  have hbb := (hlast.lt bb rfl).2
                  obtain ⟨la, hla⟩ : ∃ la, la = (mvT (simT (erase a)) 0 0).1.la.testBit q := ⟨_, rfl⟩
                  have l1 : wr.cell? ⟨bb, q, none⟩ = some (.bool la) := by
                    rw [hlast.cellAt q (show q < aN * 1 by omega), hla]
                    rw [List.getElem?_map, List.getElem?_range g6]
                    rfl
                  rw [← hla] at r2
                  obtain ⟨A, c, m1, m2, _⟩ := mv_read (HW.out.below hb) g6
                  obtain ⟨ln, hln⟩ : ∃ ln, ln = (L q).length := ⟨_, rfl⟩
                  rw [← hln] at m1 r2
                  have HQ3 := Lib.hid (fun (nq : Nat) => show LpO w7 aN (aN - (q + 1)) (.int .i64 ((q : Int) + 1)) (wr.drewN nq) ∧ 1 ≤ aN - (aN - (q + 1)) ∧ ToR w7 tb aN pre (wr.drewN nq) from ⟨⟨q + 1, by push_cast; rfl, rfl, by omega, below_drewN HT3.out.2 _⟩, by omega, HT3.out.drew _⟩)
                  have HLT := Lib.hid (show aN - (q + 1) < aN - q by omega)
                  clear hlast hla hln ht hb hq0 hq1 r1
                  cases la with
                  | true =>
                    clear r2 m1 m2
                    go_wp2_with fail
                    go_roundw
                    case rel => exact ⟨_, HQ3.out 0⟩
                    case measure =>
                      rw [HN3.out]
                      exact Nat.lt_of_le_of_lt ((leastOf_spec ⟨_, HQ3.out 0⟩).2 _ (HQ3.out 0)) HLT.out
                  | false =>
                    have r3 : ¬ (ln : Int) = 0 := by
                      rcases r2 with h | h
                      · cases h
                      · omega
                    clear r2
                    go_wp2_with fail
                    go_roundw
                    case rel => exact ⟨_, HQ3.out 0⟩
                    case measure =>
                      rw [HN3.out]
                      exact Nat.lt_of_le_of_lt ((leastOf_spec ⟨_, HQ3.out 0⟩).2 _ (HQ3.out 0)) HLT.out
                · have v2 : ¬ (q : Int) < (aN : Int) := by omega
                  clear ht hq1 hq0 d13
                  go_wp2_with fail
                  go_ret
                  exact ⟨rfl, bhop HB7.out HT3.out.2⟩
    · have hno : ∃ code : Int, code ≠ 0 ∧ NoMap (erase a) code := by
        cases hok : okT (erase a) with
        | false => exact ⟨1, by omega, .inl ⟨hok, rfl⟩⟩
        | true =>
          cases hm : mapT (simT (erase a)) with
          | none => exact ⟨3, by omega, .inr ⟨hok, hm, rfl⟩⟩
          | some m => exact absurd ⟨hok, m, hm⟩ hmp
      obtain ⟨code, hc0, hno⟩ := hno
      have HF := Lib.hid (HMn.out w5 (bhop HBW.out HB5.out) HA.out code hno)
      have hc1 : (code == 0) = false := by simp [hc0]
      clear hno hmp
      go_wp2_with fail
      go_at_call 12
      refine HF.out.mono ?_
      rintro e w6 ⟨rfl, hb6⟩
      have HB6 := Lib.hid (bhop HB5.out hb6)
      clear hb6 q0 q1 q2 q3 q4 q5 q6 q7
      go_upto_region 4 with fail
      generalize hw7 : w6.alloc _ = w7
      have hb67 : Below w6.heap.size w6 w7 := hw7 ▸ (Below.refl _ w6).alloc (Nat.le_refl _) _
      have HB7 := Lib.hid (show Below w.heap.size w w7 from bhop (bhop HBW.out HB6.out) hb67)
      have hmp := (row_cells (hw7 ▸ heap_alloc_new w6 _ : w7.heap[w6.heap.size]? = some (.cells #[.int .i64 0, .int .u64 0, .int .u64 0, .int .u64 0, .int .u64 0, .slice none 0 0, .int .i64 0, .int .i64 0, .slice none 0 0, .slice none 0 0, .slice none 0 0, .slice none 0 0, .slice none 0 0, .slice none 0 0, .bool false] 39 (0, 0)))).1
      have c12 := hmp 12
      have hmbl : w6.heap.size < w7.heap.size := by rw [← hw7]; simp
      clear hmp hb67 hw7
      go_wp2_with fail
      go_ret
      exact ⟨rfl, HB7.out⟩
  · have hA2 : min (szT (erase a)) (100 + 1) = 101 := by omega
    rw [hA2]
    clear hA hA2
    go_wp2_with fail
    go_at_call 10
    refine (awake6_any _ (HTT.out _ (bhop HBW.out HB5.out)).1 (HTT.out _ (bhop HBW.out HB5.out)).2).mono ?_
    rintro e w5 ⟨rfl, hb5⟩
    have HB5 := Lib.hid (bhop HB5.out hb5)
    go_wp2_with fail
    go_ret
    exact ⟨rfl, bhop HBW.out HB5.out⟩

end Go.Proofs.YtnebfniekeknaaaDoor

/- Of every tree the statement MovesReach returns true, and it reads afterwards as before; the card: what its row lists is tied to the program's text.
   No condition. -/
namespace Go.Proofs.YtnebfniekeknaaaDoor
open Go.ChangeShapes Go.WideShapes Go.ChangeAt Go.RowKit

theorem movesReachOwn : ownKnob Tryd.prog.godebug = none := by kernel_rfl
theorem movesReachLaidOut : laidOutB Tryd.prog = true := by kernel_rfl
theorem movesReachAgg (t : V) : nodeAgg t = .agg (ndc t).toArray := rfl

/-- The door's own heap meets the condition. -/
theorem movesReachDoor (os : Os) (args : Array Value) : laidMetH Tryd.prog Rows.movesReachRow.laid ((World.doorLaid Tryd.prog 400 os).forCall (fun _ _ => 0) ⟨#[], args, []⟩).memory :=
  laidMetH_of_parts3 (fuel := 8) (laidMet_of_run' 8 (by kernel_rfl) (by kernel_rfl)) (by kernel_rfl) (by kernel_rfl)

set_option maxRecDepth 100000 in
theorem movesReach_lifted (os : Os) (started : os.Started) (H : Type) (enc : TypeId × Value → H) :
    ReturnsInHanded {} Tryd.checked os 3 .any (fun w args => (Rows.movesReachSpec.pre enc Tryd.prog Tryd.f3 Rows.movesReachRow.domain false w args ∧ laidMetH Tryd.prog Rows.movesReachRow.laid w) ∧ sizedMet enc Tryd.prog Tryd.f3 (OpenSpec.ofChange Rows.movesReachSpec) false w args)
      (Rows.movesReachSpec.post enc Tryd.prog Tryd.f3 false true false false) := by
  refine returnsInHanded_of_change_and (C := Tryd.checked) (X := fun w _ => laidMetH Tryd.prog Rows.movesReachRow.laid w) (fun _ _ _ hh h => h.of_heap hh) movesReachOwn started (by kernel_rfl) Tryd.func3
    (ChangeSpec.witness_shaped (enc := enc) (C := Tryd.checked) (os := os) (X := fun w _ => laidMetH Tryd.prog Rows.movesReachRow.laid w) false (World.doorLaid Tryd.prog 400 os) #[.agg #[.int .i64 0, .int .u64 0, .int .u64 0, .int .u64 0, .int .u64 0, .slice none 0 0, .int .i64 0, .int .i64 0]] 8 rfl (World.shaped_of_RefB (by kernel_rfl) (by kernel_rfl)) (by kernel_rfl) (by kernel_rfl) (by kernel_rfl) (movesReachDoor os _)) ?_
  intro W base args ds gs before hval0 hW _ _ hLaid _
  have hval : ∀ (j : Nat) t v, Tryd.f3.params[j]? = some t → args[j]? = some v → Value.okWide Tryd.prog W .any base t v := hval0
  have hW' := hW
  obtain ⟨hT, hTl⟩ := tab_laid hLaid
  obtain ⟨p, q, hA0, hV, rfl, hfz, hnd⟩ := hW
  have hA : DataW.TrodAll enc Tryd.prog W 0 (fun _ => true) true Tryd.f3.params.toList args.toList ds p := hA0
  rw [Tryd.params3] at hA hval
  obtain ⟨v0, vs0, d0, ds0, p0, q0, hargs, rfl, rfl, h0, r0⟩ := trodAll_cons hA
  obtain ⟨rfl, rfl, rfl⟩ := trodAll_nil r0
  obtain rfl : args = #[v0] := by cases args; simp_all
  obtain ⟨rfl, rfl⟩ := trodVars_none hV
  have k0 := h0
  have lt0 : ∀ x ∈ p0, x.block < W.heap.size := by obtain ⟨m, hm⟩ := k0; exact DataW.trod_lt m _ _ _ hm
  obtain ⟨t0, rfl, l0, _⟩ := open_tree (hval 0 27 v0 rfl rfl) h0
  clear hA0 hval0
  rw [← movesReachAgg] at *
  refine (reach6_walk t0 W _ l0 hT hTl).mono fun e W' ⟨he, bel⟩ => ?_
  subst he
  exact ⟨_, rfl, _, _, _, [], _, [], hW', trodAll_mk1 (shut_bool Tryd.underlying4 _), (trodAll_cons_mk (Below.trod movesReachLaidOut (by kernel_rfl) (of_decide_eq_true (by kernel_rfl)) k0 bel lt0) trodAll_mk0), rfl, bel.frame _, fun h => by cases h⟩

theorem movesReach_holds : Rows.MovesReachSaid :=
  OpenClaim.holds_of_wide 3 Tryd.f3 rfl rfl rfl rfl rfl rfl rfl ⟨rfl, rfl, rfl, rfl, rfl⟩ rfl rfl rfl rfl rfl (by kernel_rfl) Tryd.func3 (by kernel_rfl)
    (of_decide_eq_true (by kernel_rfl)) (by unfold Func.isWrapper; rw [if_neg (of_decide_eq_false (by kernel_rfl))]; exact ⟨rfl, rfl⟩)
    (fun os started H enc _ => movesReach_lifted os started H enc)

theorem movesReach_card_holds : Rows.MovesReachCardSaid :=
  Claim7.holds_tied_plain_at .later [] [.data] true _ false
    movesReach_holds (fun _ h => by cases h) (by kernel_rfl) (fun _ h => by cases h) movesReach_row_tie rfl ⟨rfl, rfl⟩ (by kernel_rfl) rfl
    (fun f fn hf hfn => by
      obtain rfl : f = 3 := Option.some.inj ((show Tryd.prog.funcNamed "ostinato/ostinatolaw06.MovesReach" = some 3 by kernel_rfl).symm.trans hf) |>.symm
      obtain rfl : fn = Tryd.f3 := (Option.some.inj (Tryd.func3.symm.trans hfn)).symm
      exact ⟨by kernel_rfl, fun j t ht => by
        rw [Tryd.params3] at ht
        have hm : t ∈ [27] := by simpa using Array.mem_of_getElem? ht
        have hall : ([27].all fun u => !Tryd.prog.wantsStandIn u) = true := by kernel_rfl
        exact (show Tryd.prog.wantsStandIn t = false by simpa using List.all_eq_true.1 hall t hm)⟩)
    (by kernel_rfl)
#print axioms movesReach_card_holds

end Go.Proofs.YtnebfniekeknaaaDoor
