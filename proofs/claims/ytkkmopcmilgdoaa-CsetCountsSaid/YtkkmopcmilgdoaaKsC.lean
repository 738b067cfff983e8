/- The walk of the statement CsetCounts: called with a scope's numbers and a number it returns true and changes nothing that was there.
   Conditions: the numbers are of their kinds. -/
import Derived.Test.YtkkmopcmilgdoaaKsG
import Derived.Test.YtkkmopcmilgdoaaKsH
namespace Go.Proofs.Ytkkmopcmilgdoaa
open Go.RowKit

/-- One count, made the next so often. -/
def oneC (lo hi : Int) (i : Nat) : List Int := if hi = -1 then [min ((i : Int) + 1) lo] else if (i : Int) + 1 ≤ hi then [(i : Int) + 1] else []
theorem oneC_ok {lo hi : Int} (hS : ScOk lo hi) (i : Nat) : Cok lo hi (oneC lo hi i) ∧ (oneC lo hi i).length ≤ 1 := by
  have ht : topC lo hi = if hi < 0 then lo else hi := rfl
  obtain ⟨h1, h2, h3⟩ := hS
  unfold oneC
  by_cases g : hi = -1
  · rw [if_pos g]
    rw [if_pos (by omega)] at ht
    exact ⟨⟨by simp, fun x hx => by rw [List.mem_singleton] at hx; omega⟩, by simp⟩
  · rw [if_neg g]
    rw [if_neg (by omega)] at ht
    by_cases g2 : (i : Int) + 1 ≤ hi
    · rw [if_pos g2]
      exact ⟨⟨by simp, fun x hx => by rw [List.mem_singleton] at hx; omega⟩, by simp⟩
    · rw [if_neg g2]
      exact ⟨cok_nil lo hi, by simp⟩
theorem oneC_next {lo hi : Int} (hS : ScOk lo hi) (i : Nat) : nextQ lo hi (oneC lo hi i) = oneC lo hi (i + 1) := by
  obtain ⟨h1, h2, h3⟩ := hS
  unfold oneC
  by_cases g : hi = -1
  · rw [if_pos g, if_pos g, nextQ, if_pos g]
    by_cases g2 : lo ≤ min ((i : Int) + 1) lo
    · rw [if_pos g2, if_neg (by simp)]
      have : min ((i : Int) + 1) lo = min (((i + 1 : Nat) : Int) + 1) lo := by omega
      rw [this]
      rfl
    · rw [if_neg g2]
      have : min ((i : Int) + 1) lo + 1 = min (((i + 1 : Nat) : Int) + 1) lo := by omega
      rw [this]
      rfl
  · rw [if_neg g, if_neg g]
    by_cases g2 : (i : Int) + 1 ≤ hi
    · rw [if_pos g2, nextQ, if_neg g]
      by_cases g3 : (i : Int) + 1 = hi
      · rw [if_pos g3, if_neg (by omega)]
        rfl
      · rw [if_neg g3, if_pos (by omega)]
        have : (i : Int) + 1 + 1 = ((i + 1 : Nat) : Int) + 1 := by omega
        rw [this]
        rfl
    · rw [if_neg g2, if_neg (by omega)]
      rfl
theorem oneC_zero {lo hi : Int} (hS : ScOk lo hi) : oneC lo hi 0 = [1] := by
  obtain ⟨h1, h2, h3⟩ := hS
  unfold oneC
  by_cases g : hi = -1
  · rw [if_pos g, show min (((0 : Nat) : Int) + 1) lo = 1 by omega]
  · rw [if_neg g, if_pos (by omega)]
    rfl
/-- Ahead of a round. -/
def OnI (w : World) (cb : Nat) (lo hi : Int) (k n : Nat) (i : Value) (wr : World) : Prop :=
  ∃ (j : Nat) (cm st : Int), i = .int .i64 (j : Int) ∧ n = k - j ∧ j ≤ k ∧ SetC wr cb lo hi (oneC lo hi j) cm st (fun b => w.heap.size ≤ b) ∧ 0 ≤ cm ∧ cm ≤ j ∧ 0 ≤ st ∧ st ≤ 2 * j + 1 ∧ Below w.heap.size w wr

set_option maxHeartbeats 4000000 in
set_option maxRecDepth 100000 in
theorem counts9_walk (w : World) (low span n : Int) (op : Bool) (h1 : 0 ≤ low ∧ low < 4294967296) (h2 : 0 ≤ span ∧ span < 4294967296) (h3 : 0 ≤ n ∧ n < 65536) :
    Calls Try.prog 3 #[.agg #[.int .u32 low, .int .u32 span, .bool op], .int .u16 n] w fun e w' => e = .returned (.bool true) ∧ Below w.heap.size w w' := by
  have hnb : Below w.heap.size w (w.alloc (.cells #[.int .u32 low, .int .u32 span, .bool op] 24)) := (Below.refl _ w).alloc (Nat.le_refl _) _
  have H1 := Lib.hid (And.intro (heap_alloc_new w (.cells #[.int .u32 low, .int .u32 span, .bool op] 24)) hnb)
  clear hnb
  obtain ⟨k, hk⟩ : ∃ k : Nat, (k : Int) = n % 300 := ⟨(n % 300).toNat, by omega⟩
  have hk3 : k < 300 := by omega
  go_enter Try.func3, Try.ntmps3
  go_wp2_with fail
  generalize w.alloc (.cells #[.int .u32 low, .int .u32 span, .bool op] 24) = w1 at *
  go_at_call 8
  refine (awake9_any w1).mono ?_
  rintro e w2 ⟨rfl, hb2⟩
  have hlt1 := (Array.getElem?_eq_some_iff.1 H1.out.1).1
  have hq := hb2.block _ hlt1
  rw [H1.out.1] at hq
  obtain ⟨q, _⟩ := row_cells hq
  have c0 := q 0
  have c1 := q 1
  have c2 := q 2
  have hlt := (Array.getElem?_eq_some_iff.1 hq).1
  simp only [List.getElem?_toArray, List.getElem?_cons_zero, List.getElem?_cons_succ] at c0 c1 c2
  have H2 := Lib.hid (show Below w.heap.size w w2 from H1.out.2.trans (hb2.mono H1.out.2.size))
  clear hb2 hq q hlt1
  go_wp2_with fail
  go_at_call 9
  refine (scopeR_any w2 low span op h1 h2).mono ?_
  rintro e w3 ⟨lo, hi, rfl, hS, hb3⟩
  have H3 := Lib.hid (And.intro hS (H2.out.trans (hb3.mono H2.out.size)))
  clear hb3 c0 c1 c2 hlt
  go_wp2_with fail
  have H4 := Lib.hid (show (w3.alloc (.cells #[.int .i64 lo, .int .i64 hi] 28)).heap[w3.heap.size]? = some (.cells #[.int .i64 lo, .int .i64 hi] 28 (0, 0)) ∧ Below w.heap.size w (w3.alloc (.cells #[.int .i64 lo, .int .i64 hi] 28)) from ⟨heap_alloc_new w3 _, H3.out.2.alloc H3.out.2.size _⟩)
  generalize w3.alloc (.cells #[.int .i64 lo, .int .i64 hi] 28) = w4 at *
  generalize w3.heap.size = sb at *
  clear H3
  go_at_call 10
  refine (new_any w4 lo hi hS.1).mono ?_
  rintro e w5 ⟨cb, rfl, hcb, hs5, hb5⟩
  have H5 := Lib.hid (And.intro hs5 hb5)
  clear hs5 hb5
  go_wp2_with fail
  go_at_call 11
  refine (begin_any w5 cb lo hi 0 0 [] _ H5.out.1 (by simp) (by omega) (by omega)).mono ?_
  rintro e w6 ⟨rfl, hs6, hc6⟩
  have hs6' : SetC w6 cb lo hi (oneC lo hi 0) 0 1 (fun b => w4.heap.size ≤ b) := by
    rw [oneC_zero hS]
    refine hs6.mono fun b _ q => ?_
    have := H5.out.2.size
    rcases q with q | q
    · exact q
    · omega
  have H6 := Lib.hid (show OnI w4 cb lo hi k k (.int .i64 0) w6 from ⟨0, 0, 1, rfl, rfl, by omega, hs6', by omega, by omega, by omega, by omega, H5.out.2.trans (hc6.below H5.out.2.size fun k hk e => by have : w4.heap.size ≤ k := e; omega)⟩)
  clear hs6'
  clear hs6 hc6 H5
  have wn : IntKind.u16.wrap (n % 300) = n % 300 := by rw [IntKind.wrap_u16]; omega
  have wn2 : IntKind.i64.wrap (n % 300) = n % 300 := by rw [IntKind.wrap_i64]; omega
  go_wp2_with fail
  rw [← hk]
  have HK := Lib.hid hk
  clear hk
  go_loopw [8] (fun i wr => ∃ n, OnI w4 cb lo hi k n i wr) (fun i wr => leastOf (fun n => OnI w4 cb lo hi k n i wr))
  case atStart => exact ⟨_, H6.out⟩
  case round =>
    have hls := (leastOf_spec hrel).1
    obtain ⟨j, cm, st, rfl, hq, hj, hset, hcm0, hcm1, hst0, hst1, hb⟩ := hls
    have HQ := Lib.hid hq
    clear hrel hq
    have hok := oneC_ok hS j
    by_cases hlt : j < k
    · have t1 : (0 : Int) ≤ (j : Int) := by omega
      have t2 : (j : Int) < (k : Int) := by omega
      have wj : IntKind.i64.wrap ((j : Int) + 1) = (j : Int) + 1 := by rw [IntKind.wrap_i64]; omega
      have HI := Lib.hid (And.intro hset (And.intro hok (And.intro hlt hb)))
      clear hset hok hlt hb hj
      go_wp2_with fail
      go_at_call 12
      refine (next_any wr cb lo hi cm st _ _ HI.out.1 hS HI.out.2.1.1 (by have := HI.out.2.1.2; omega) (by omega) (by omega)).mono ?_
      rintro e w7 ⟨rfl, cm', st', m1, m2, s1, s2, hs7, hc7⟩
      have HP := Lib.hid (show OnI w4 cb lo hi k (k - (j + 1)) (.int .i64 ((j : Int) + 1)) w7 from by
        have hb := HI.out.2.2.2
        refine ⟨j + 1, cm', st', by push_cast; rfl, rfl, HI.out.2.2.1, ?_, by omega, by push_cast; omega, by omega, by push_cast; omega, hb.trans (hc7.below hb.size fun k hk e => by have : w4.heap.size ≤ k := e; omega)⟩
        rw [← oneC_next hS]
        exact hs7.mono fun b _ q => by
          rcases q with q | q
          · exact q
          · have := hb.size
            omega)
      clear hs7 hc7
      go_wp2_with fail
      go_roundw
      case rel => exact ⟨_, HP.out⟩
      case measure =>
        rw [HQ.out]
        exact Nat.lt_of_le_of_lt ((leastOf_spec ⟨_, HP.out⟩).2 _ HP.out) (by have := HI.out.2.2.1; omega)
    · have t1 : (0 : Int) ≤ (j : Int) := by omega
      have t2 : ¬ (j : Int) < (k : Int) := by omega
      obtain rfl : j = k := by omega
      have HI := Lib.hid (And.intro hset (And.intro hok hb))
      clear hset hok hb
      have hbnd : ∀ x ∈ oneC lo hi j, 0 ≤ x ∧ x < 10000000000 := fun x hx => by
        have h1 := HI.out.2.1.1.2 x hx
        have h2 := hS.top
        omega
      have HBD := Lib.hid hbnd
      clear hbnd
      go_wp2_with fail
      go_at_call 13
      refine (countsS_any wr cb lo hi cm st _ _ HI.out.1 (by have := HI.out.2.1.2; omega) (fun x hx => by have := HBD.out x hx; omega)).mono ?_
      rintro e w7 ⟨v, rfl, hrow, hb7⟩
      have hbb := HI.out.2.2.trans (hb7.mono HI.out.2.2.size)
      have hsb := (Array.getElem?_eq_some_iff.1 H4.out.1).1
      have hblk := hbb.block _ hsb
      rw [H4.out.1] at hblk
      obtain ⟨d0, d1⟩ := cellsS2 hblk
      have hlb := (Array.getElem?_eq_some_iff.1 hblk).1
      have hset7 := HI.out.1.keep (Chg.of_below (R := fun _ => False) hb7) (fun _ _ _ => id)
      have hwj : IntKind.i64.wrap ((j : Int) + 1) = (j : Int) + 1 := by rw [IntKind.wrap_i64]; omega
      by_cases g : hi = -1
      · have he : oneC lo hi j = [min ((j : Int) + 1) lo] := if_pos g
        have g' : hi < 0 := by omega
        rw [he] at hrow hset7
        obtain ⟨A, c, rfl, hc⟩ := hrow
        obtain ⟨gb, rfl, _, hgl, hgc⟩ := hc 0 _ rfl
        have HF := Lib.hid (show ∀ W, Below w7.heap.size w7 W → (W.cell? ⟨gb, 0, none⟩ = some (.int .i64 (min ((j : Int) + 1) lo)) ∧ W.cell? ⟨sb, 0, none⟩ = some (.int .i64 lo)) ∧ SetC W cb lo hi [(min ((j : Int) + 1) lo)] cm st (fun b => w4.heap.size ≤ b) ∧ Below w.heap.size w W from fun W hW =>
          ⟨⟨(hW.cell (p := ⟨gb, 0, none⟩) hgl).trans hgc, (hW.cell (p := ⟨sb, 0, none⟩) hlb).trans d0⟩, hset7.keep (Chg.of_below (R := fun _ => False) hW) (fun _ _ _ => id), H4.out.2.trans ((hbb.mono H4.out.2.size).trans (hW.mono (by have := H4.out.2.size; have := hbb.size; omega)))⟩)
        have hmb : 0 ≤ (min ((j : Int) + 1) lo) ∧ (min ((j : Int) + 1) lo) < 10000000000 := HBD.out _ (by rw [he]; simp)
        clear hset7 hbb hblk hb7 hc
        simp only [List.reverse_singleton, List.length_singleton]
        go_upto_region 13 with fail
        refine regKs13 (sb := sb) (cb := cb) (gb := gb) (c := c) (j := (j : Int)) (lo := lo) (m := (min ((j : Int) + 1) lo)) (dn := doneL lo [(min ((j : Int) + 1) lo)]) (hlc := fun W h => (HF.out W h).1.1) (hs := fun W h => (HF.out W h).1.2) (hc := fun W h => (doneS_any W cb lo hi cm st [(min ((j : Int) + 1) lo)] _ (HF.out W h).2.1 (by simp; omega)).mono fun e w' h => h) (wj := hwj) (hd := by simp [doneL]; omega) (hm := by simp; omega) (D := _) (v0 := _) (v1 := _) (v2 := _) (v3 := _) (v8 := _) (v10 := _) (v11 := _) (v12 := _) (v13 := _) (v14 := _) (v15 := _) (v16 := _) (v17 := _) (v18 := _) (v19 := _) (v20 := _) (v21 := _) (v22 := _) (v23 := _) (v24 := _) (v25 := _) (v26 := _) (v27 := _) (v28 := _) (v29 := _) (v30 := _) (v31 := _) (v32 := _) (v33 := _) (v34 := _) (v35 := _) (v36 := _) (v37 := _) (v62 := _) (v63 := _) (v64 := _) (v65 := _) (v66 := _) (v67 := _) (v68 := _) (v69 := _) (v70 := _) (v71 := _) (v72 := _) (v73 := _) (v74 := _) (v75 := _) (v76 := _) (v77 := _) (v78 := _) (v79 := _) (v80 := _) (v81 := _) (v82 := _) (v83 := _) (v84 := _) (v85 := _) (v86 := _) (v87 := _) (v88 := _) (v89 := _) (v90 := _) (v91 := _) (v92 := _) (v93 := _) (v94 := _) (v95 := _) (v96 := _) (v97 := _) (v98 := _) (v99 := _) (v100 := _) (wy0 := _) (wy1 := _) (wy2 := _) (wy3 := _) (wy4 := _) (wy5 := _) (wy6 := _) (wy7 := _) (wy8 := _) (wy9 := _) (wy10 := _) (wy11 := _) (wy12 := _) (wy13 := _) (wy14 := _) (wy15 := _) (wy16 := _) (wy17 := _) (wy18 := _) (wy19 := _) (wy20 := _) (wy21 := _) (wy22 := _) (wy23 := _) (wy24 := _) (w := _) (Q := _) (hQ := ?_)
        intros
        rename_i w8 hb8
        dsimp only
        have HB := Lib.hid (HF.out w8 hb8).2.2
        clear hb8
        go_wp2_with fail
        go_ret
        exact ⟨rfl, HB.out⟩
      · have hS' := hS
        obtain ⟨_, _, hS2⟩ := hS'
        have g' : ¬ hi < 0 := by omega
        by_cases g2 : (j : Int) + 1 ≤ hi
        · have he : oneC lo hi j = [(j : Int) + 1] := by unfold oneC; rw [if_neg g, if_pos g2]
          have g2' : ¬ hi < (j : Int) + 1 := by omega
          rw [he] at hrow hset7
          obtain ⟨A, c, rfl, hc⟩ := hrow
          obtain ⟨gb, rfl, _, hgl, hgc⟩ := hc 0 _ rfl
          have HF := Lib.hid (show ∀ W, Below w7.heap.size w7 W → (W.cell? ⟨gb, 0, none⟩ = some (.int .i64 ((j : Int) + 1)) ∧ W.cell? ⟨sb, 0, none⟩ = some (.int .i64 lo)) ∧ SetC W cb lo hi [((j : Int) + 1)] cm st (fun b => w4.heap.size ≤ b) ∧ Below w.heap.size w W from fun W hW =>
            ⟨⟨(hW.cell (p := ⟨gb, 0, none⟩) hgl).trans hgc, (hW.cell (p := ⟨sb, 0, none⟩) hlb).trans d0⟩, hset7.keep (Chg.of_below (R := fun _ => False) hW) (fun _ _ _ => id), H4.out.2.trans ((hbb.mono H4.out.2.size).trans (hW.mono (by have := H4.out.2.size; have := hbb.size; omega)))⟩)
          have hmb : 0 ≤ ((j : Int) + 1) ∧ ((j : Int) + 1) < 10000000000 := HBD.out _ (by rw [he]; simp)
          clear hset7 hbb hblk hb7 hc
          simp only [List.reverse_singleton, List.length_singleton]
          go_upto_region 16 with fail
          refine regKs16 (sb := sb) (cb := cb) (gb := gb) (c := c) (j := (j : Int)) (lo := lo) (m := ((j : Int) + 1)) (dn := doneL lo [((j : Int) + 1)]) (hlc := fun W h => (HF.out W h).1.1) (hs := fun W h => (HF.out W h).1.2) (hc := fun W h => (doneS_any W cb lo hi cm st [((j : Int) + 1)] _ (HF.out W h).2.1 (by simp; omega)).mono fun e w' h => h) (wj := hwj) (hd := by simp [doneL]) (hm := by simp) (D := _) (v0 := _) (v1 := _) (v2 := _) (v3 := _) (v8 := _) (v10 := _) (v11 := _) (v12 := _) (v13 := _) (v14 := _) (v15 := _) (v16 := _) (v17 := _) (v18 := _) (v19 := _) (v20 := _) (v21 := _) (v22 := _) (v23 := _) (v24 := _) (v25 := _) (v26 := _) (v27 := _) (v28 := _) (v29 := _) (v30 := _) (v31 := _) (v32 := _) (v33 := _) (v34 := _) (v35 := _) (v36 := _) (v37 := _) (v38 := _) (v39 := _) (v40 := _) (v41 := _) (v42 := _) (v43 := _) (v44 := _) (v45 := _) (v46 := _) (v47 := _) (v48 := _) (v49 := _) (v50 := _) (v51 := _) (v52 := _) (v53 := _) (v54 := _) (v55 := _) (v56 := _) (v57 := _) (v58 := _) (v59 := _) (v60 := _) (v61 := _) (v62 := _) (v63 := _) (v64 := _) (v65 := _) (v66 := _) (v67 := _) (v68 := _) (v69 := _) (v70 := _) (v71 := _) (v72 := _) (v73 := _) (v74 := _) (v75 := _) (v76 := _) (v77 := _) (v78 := _) (v79 := _) (wy0 := _) (wy1 := _) (wy2 := _) (wy3 := _) (wy4 := _) (wy5 := _) (wy6 := _) (wy7 := _) (wy8 := _) (wy9 := _) (wy10 := _) (wy11 := _) (wy12 := _) (wy13 := _) (wy14 := _) (wy15 := _) (wy16 := _) (wy17 := _) (wy18 := _) (wy19 := _) (wy20 := _) (wy21 := _) (w := _) (Q := _) (hQ := ?_)
          intros
          rename_i w8 hb8
          dsimp only
          have HB := Lib.hid (HF.out w8 hb8).2.2
          clear hb8
          go_wp2_with fail
          go_ret
          exact ⟨rfl, HB.out⟩
        · have he : oneC lo hi j = [] := by unfold oneC; rw [if_neg g, if_neg g2]
          have g2' : hi < (j : Int) + 1 := by omega
          rw [he] at hrow hset7
          obtain ⟨A, c, rfl, hc⟩ := hrow
          have HF := Lib.hid (show ∀ W, Below w7.heap.size w7 W → SetC W cb lo hi [] cm st (fun b => w4.heap.size ≤ b) ∧ Below w.heap.size w W from fun W hW =>
            ⟨hset7.keep (Chg.of_below (R := fun _ => False) hW) (fun _ _ _ => id), H4.out.2.trans ((hbb.mono H4.out.2.size).trans (hW.mono (by have := H4.out.2.size; have := hbb.size; omega)))⟩)
          clear hset7 hbb hblk hb7 hc
          simp only [List.reverse_nil, List.length_nil]
          go_wp2_with fail
          go_at_call 15
          refine (len_any _ cb lo hi cm st [] _ (HF.out _ (Below.refl _ _)).1).mono ?_
          rintro e w8 ⟨rfl, rfl⟩
          go_wp2_with fail
          go_at_call 14
          refine (doneS_any _ cb lo hi cm st [] _ (HF.out _ (Below.refl _ _)).1 (by simp)).mono ?_
          rintro e w9 ⟨rfl, hb9⟩
          have HB := Lib.hid (HF.out w9 hb9).2
          clear hb9
          go_wp2_with fail
          go_ret
          exact ⟨rfl, HB.out⟩

end Go.Proofs.Ytkkmopcmilgdoaa
