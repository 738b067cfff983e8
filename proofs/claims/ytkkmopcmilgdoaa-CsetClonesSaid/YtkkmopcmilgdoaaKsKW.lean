/- The walk of the statement CsetClones: called with a scope's numbers and two lists of small calls it returns true and changes nothing that was there.
   Conditions: the numbers are of their kinds, the lists are in memory. -/
import Derived.Test.YtkkmopcmilgdoaaKsO
namespace Go.Proofs.Ytkkmopcmilgdoaa
open Go.RowKit

/-- Ahead of a round. -/
def CnI (w : World) (db : Nat) (lo hi : Int) (L : List Int) (l : List Nat) (n : Nat) (i : Value) (wr : World) : Prop :=
  ∃ (k : Nat) (cm st : Int), i = .int .i64 (k : Int) ∧ n = l.length - k ∧ k ≤ l.length ∧ SetC wr db lo hi ((l.take k).foldl (sS lo hi) L) cm st (fun b => w.heap.size ≤ b) ∧ (0 ≤ cm ∧ cm ≤ 1000 + k) ∧ (0 ≤ st ∧ st ≤ 2000 + 2 * k) ∧ Below w.heap.size w wr
theorem sS_snoc {lo hi : Int} {L : List Int} {l : List Nat} {k x : Nat} (h : l[k]? = some x) : (l.take (k + 1)).foldl (sS lo hi) L = sS lo hi ((l.take k).foldl (sS lo hi) L) x := by
  rw [List.take_add_one, h, List.foldl_append]
  rfl

set_option maxHeartbeats 8000000 in
set_option maxRecDepth 100000 in
theorem clones9_walk (w : World) (low span : Int) (op : Bool) (v1 v2 : Value) (l1 l2 : List Nat) (hl1 : BytR w v1 l1) (hl2 : BytR w v2 l2) (hn1 : l1.length ≤ maxLen) (hn2 : l2.length ≤ maxLen) (h1 : 0 ≤ low ∧ low < 4294967296) (h2 : 0 ≤ span ∧ span < 4294967296) :
    Calls Try.prog 6 #[.agg #[.int .u32 low, .int .u32 span, .bool op], v1, v2] w fun e w' => e = .returned (.bool true) ∧ Below w.heap.size w w' := by
  have hnb : Below w.heap.size w (w.alloc (.cells #[.int .u32 low, .int .u32 span, .bool op] 24)) := (Below.refl _ w).alloc (Nat.le_refl _) _
  have H1 := Lib.hid (And.intro (heap_alloc_new w (.cells #[.int .u32 low, .int .u32 span, .bool op] 24)) hnb)
  have HL := Lib.hid (And.intro hl1 (And.intro hl2 (And.intro hn1 hn2)))
  obtain ⟨A1, c1, rfl, hr1⟩ := hl1
  obtain ⟨A2, c2, rfl, hr2⟩ := hl2
  have z1 : (0 : Int) ≤ (l1.length : Int) := by omega
  have z2 : (0 : Int) ≤ (l2.length : Int) := by omega
  clear hnb hn1 hn2 hr1 hr2
  go_enter Try.func6, Try.ntmps6
  go_upto_region 1 with fail
  generalize w.alloc (.cells #[.int .u32 low, .int .u32 span, .bool op] 24) = w1 at *
  have fin : l1.length ≤ 120 ∧ l2.length ≤ 40 ∨ ¬ (l1.length ≤ 120 ∧ l2.length ≤ 40) := Classical.em _
  rcases fin with hsm | hsm
  · have y1 : ¬ (120 : Int) < (l1.length : Int) := by omega
    have y2 : ¬ (40 : Int) < (l2.length : Int) := by omega
    go_wp2_with fail
    go_at_call 8
    refine (awake9_any w1).mono ?_
    rintro e w3 ⟨rfl, hb3⟩
    have hq := (hb3.block _ (Array.getElem?_eq_some_iff.1 H1.out.1).1).trans H1.out.1
    obtain ⟨q, _⟩ := row_cells hq
    have d0 := q 0
    have d1 := q 1
    have d2 := q 2
    have hlt := (Array.getElem?_eq_some_iff.1 hq).1
    simp only [List.getElem?_toArray, List.getElem?_cons_zero, List.getElem?_cons_succ] at d0 d1 d2
    have H3 := Lib.hid (show Below w.heap.size w w3 from H1.out.2.trans (hb3.mono H1.out.2.size))
    clear hb3 hq q
    go_wp2_with fail
    go_at_call 9
    refine (scopeR_any w3 low span op h1 h2).mono ?_
    rintro e w4 ⟨lo, hi, rfl, hS, hb4⟩
    have H4 := Lib.hid (H3.out.trans (hb4.mono H3.out.size))
    clear hb4 d0 d1 d2 hlt
    go_wp2_with fail
    have H5 := Lib.hid (show Below w.heap.size w (w4.alloc (.cells #[.int .i64 lo, .int .i64 hi] 28)) from H4.out.alloc H4.out.size _)
    generalize w4.alloc (.cells #[.int .i64 lo, .int .i64 hi] 28) = w5 at *
    go_at_call 17
    refine (small_any w5 _ lo hi l1 (HL.out.1.below H5.out) hS (by omega)).mono ?_
    rintro e w6 ⟨cb, rfl, cm, st, hs6, hcm, hst, hcb, hb6⟩
    have hq1 := sQ_ok hS l1
    have hbd1 : ∀ x ∈ sQ lo hi l1, 0 ≤ x ∧ x < 2200000000 := fun x hx => by have h1 := hq1.1.2 x hx; have h2 := hS.top; omega
    have HQ1 := Lib.hid (And.intro hq1 hbd1)
    have hql := hq1.2.2
    have H6 := Lib.hid (And.intro hs6 (H5.out.trans (hb6.mono H5.out.size)))
    clear hs6 hb6 hq1 hbd1
    go_wp2_with fail
    go_at_call 13
    refine (countsS_any w6 cb lo hi cm st _ _ H6.out.1 (by omega) (fun x hx => by have := HQ1.out.2 x hx; omega)).mono ?_
    rintro e w7 ⟨va, rfl, hr7, hb7⟩
    have hs7 := H6.out.1.keep (Chg.of_below (R := fun _ => False) hb7) (fun _ _ _ => id)
    have H7 := Lib.hid (show SetC w7 cb lo hi (sQ lo hi l1) cm st (fun k => k < w7.heap.size) ∧ RowI w7 (fun k => k < w7.heap.size) va (sQ lo hi l1).reverse ∧ Below w.heap.size w w7 from ⟨hs7.mono fun k hk _ => hk, hr7.keep (R := fun _ => False) (Chg.refl _ _) (fun _ _ _ => id) (fun k hk _ => hk), H6.out.2.trans (hb7.mono H6.out.2.size)⟩)
    clear hs7 hr7 hb7
    go_wp2_with fail
    go_at_call 23
    refine (clone_any w7 cb lo hi cm st _ _ H7.out.1 (by omega) HQ1.out.1.1.1).mono ?_
    rintro e w8 ⟨db, rfl, hs8, hb8⟩
    have H8 := Lib.hid (And.intro hs8 hb8)
    clear hs8 hb8
    go_wp2_with fail
    go_at_call 13
    refine (countsS_any w8 db lo hi cm st _ _ H8.out.1 (by omega) (fun x hx => by have := HQ1.out.2 x hx; omega)).mono ?_
    rintro e w9 ⟨vb, rfl, hr9, hb9⟩
    have H9 := Lib.hid (And.intro hr9 (And.intro (H8.out.2.trans (hb9.mono H8.out.2.size)) (H8.out.1.keep (Chg.of_below (R := fun _ => False) hb9) (fun _ _ _ => id))))
    clear hr9 hb9
    go_wp2_with fail
    go_at_call 19
    refine (same_any w9 _ _ vb va _ _ H9.out.1 (H7.out.2.1.below H9.out.2.1) (by simp; omega) (by simp; omega)).mono ?_
    rintro e wa ⟨rfl, hba⟩
    rw [decide_eq_true rfl]
    have HA := Lib.hid (show CnI w7 db lo hi (sQ lo hi l1) l2 l2.length (.int .i64 0) wa from ⟨0, cm, st, rfl, rfl, by omega, H9.out.2.2.keep (Chg.of_below (R := fun _ => False) hba) (fun _ _ _ => id), by omega, by omega, H9.out.2.1.trans (hba.mono H9.out.2.1.size)⟩)
    clear hba
    go_wp2_with fail
    go_loopw [11] (fun i wr => ∃ n, CnI w7 db lo hi (sQ lo hi l1) l2 n i wr) (fun i wr => leastOf (fun n => CnI w7 db lo hi (sQ lo hi l1) l2 n i wr))
    case atStart => exact ⟨_, HA.out⟩
    case round =>
      have hls := (leastOf_spec hrel).1
      obtain ⟨k, cm2, st2, rfl, hq, hk, hset, hcm2, hst2, hb⟩ := hls
      have HQ := Lib.hid hq
      clear hrel hq
      have hok := sQ_fold hS (l2.take k) (sQ lo hi l1) HQ1.out.1.1
      have hll : ((l2.take k).foldl (sS lo hi) (sQ lo hi l1)).length ≤ 160 := by
        have h1 := hok.2.2
        simp at h1
        omega
      have t1 : (0 : Int) ≤ (k : Int) := by omega
      by_cases hlt : k < l2.length
      · obtain ⟨x, hx0⟩ : ∃ x, l2[k]? = some x := ⟨_, List.getElem?_eq_getElem hlt⟩
        obtain ⟨A2', c2', e2, hr2⟩ := HL.out.2.1
        obtain ⟨hx8, g, o, rfl, hg, hcell⟩ := hr2 k x hx0
        simp only [Value.slice.injEq, true_and] at e2
        obtain ⟨rfl, rfl⟩ := e2
        have hwr := H7.out.2.2.trans (hb.mono H7.out.2.2.size)
        rw [← hwr.cell (p := ⟨g, o + k, none⟩) hg] at hcell
        have hgr : g < wr.heap.size := by have := hwr.size; omega
        have t2 : (k : Int) < (l2.length : Int) := by omega
        have wk : IntKind.i64.wrap ((k : Int) + 1) = (k : Int) + 1 := by rw [IntKind.wrap_i64]; omega
        have w3' : IntKind.u8.wrap ((x : Int) % 3) = (x : Int) % 3 := by rw [IntKind.wrap_u8]; omega
        have x0 : (0 : Int) ≤ (x : Int) := by omega
        have HI := Lib.hid (And.intro hset (And.intro hok (And.intro hll (And.intro hx0 (And.intro hlt hb)))))
        clear hset hok hll hx0 hlt hb hk hg hwr hr2
        by_cases g3 : x % 3 = 0
        · have g3' : ((x : Int) % 3 == 0) = true := by simp; omega
          go_wp2_with fail
          go_at_call 11
          refine (begin_any wr db lo hi cm2 st2 _ _ HI.out.1 (by have := HI.out.2.2.1; omega) (by omega) (by omega)).mono ?_
          rintro e wt ⟨rfl, hs4, hc4⟩
          have HP := Lib.hid (show CnI w7 db lo hi (sQ lo hi l1) l2 (l2.length - (k + 1)) (.int .i64 ((k : Int) + 1)) wt from by
            have hl := HI.out.2.2.2.2.1
            have hb := HI.out.2.2.2.2.2
            refine ⟨k + 1, cm2, st2 + 1, by push_cast; rfl, rfl, hl, ?_, by push_cast; omega, by push_cast; omega, hb.trans (hc4.below hb.size fun k' hk' e => by have : w7.heap.size ≤ k' := e; omega)⟩
            rw [sS_snoc HI.out.2.2.2.1, sS, if_pos g3]
            exact hs4.mono fun b _ q => by
              rcases q with q | q
              · exact q
              · have := hb.size
                omega)
          clear hs4 hc4
          go_wp2_with fail
          go_roundw
          case rel => exact ⟨_, HP.out⟩
          case measure =>
            rw [HQ.out]
            exact Nat.lt_of_le_of_lt ((leastOf_spec ⟨_, HP.out⟩).2 _ HP.out) (by have := HI.out.2.2.2.2.1; omega)
        · have g3' : ((x : Int) % 3 == 0) = false := by simp; omega
          go_wp2_with fail
          go_at_call 12
          refine (next_any wr db lo hi cm2 st2 _ _ HI.out.1 hS HI.out.2.1.1 (by have := HI.out.2.2.1; omega) (by omega) (by omega)).mono ?_
          rintro e wt ⟨rfl, cm', st', m1, m2, s1, s2, hs4, hc4⟩
          have HP := Lib.hid (show CnI w7 db lo hi (sQ lo hi l1) l2 (l2.length - (k + 1)) (.int .i64 ((k : Int) + 1)) wt from by
            have hl := HI.out.2.2.2.2.1
            have hb := HI.out.2.2.2.2.2
            refine ⟨k + 1, cm', st', by push_cast; rfl, rfl, hl, ?_, by push_cast; omega, by push_cast; omega, hb.trans (hc4.below hb.size fun k' hk' e => by have : w7.heap.size ≤ k' := e; omega)⟩
            rw [sS_snoc HI.out.2.2.2.1, sS, if_neg g3]
            exact hs4.mono fun b _ q => by
              rcases q with q | q
              · exact q
              · have := hb.size
                omega)
          clear hs4 hc4
          go_wp2_with fail
          go_roundw
          case rel => exact ⟨_, HP.out⟩
          case measure =>
            rw [HQ.out]
            exact Nat.lt_of_le_of_lt ((leastOf_spec ⟨_, HP.out⟩).2 _ HP.out) (by have := HI.out.2.2.2.2.1; omega)
      · have t2 : ¬ (k : Int) < (l2.length : Int) := by omega
        have hbd2 : ∀ x ∈ (l2.take k).foldl (sS lo hi) (sQ lo hi l1), 0 ≤ x ∧ x < 2200000000 := fun x hx => by have h1 := hok.1.2 x hx; have h2 := hS.top; omega
        have hs7 := H7.out.1.keep (Chg.of_below (R := fun _ => False) hb) (fun _ _ _ => id)
        have hr7 := H7.out.2.1.below hb
        have HI := Lib.hid (And.intro hset (And.intro hb (And.intro hbd2 (And.intro hs7 hr7))))
        clear hset hb hok hbd2 hs7 hr7
        go_wp2_with fail
        go_at_call 18
        have hdb : w7.heap.size ≤ db := by
          obtain ⟨es, _, _, q⟩ := HI.out.1
          exact q db (.inl rfl)
        refine (merge_any wr db cb lo hi cm2 st2 cm st _ _ _ (fun k => k < w7.heap.size) HI.out.1 HI.out.2.2.2.1 (fun h => by have : db < w7.heap.size := h; omega) ⟨by omega, by omega⟩ (by omega) (by omega) (by omega) (fun x hx => by have := HI.out.2.2.1 x hx; omega) (fun x hx => by have := HQ1.out.2 x hx; omega)).mono ?_
        rintro e wm ⟨rfl, hsm, hcm'⟩
        have HM := Lib.hid (show SetC wm cb lo hi (sQ lo hi l1) cm st (fun k => k < w7.heap.size) ∧ RowI wm (fun k => k < w7.heap.size) va (sQ lo hi l1).reverse ∧ Below w.heap.size w wm from ⟨HI.out.2.2.2.1.keep hcm' (fun k _ h e => by have : k < w7.heap.size := h; omega), HI.out.2.2.2.2.chg hcm' (fun k _ h e => by have : k < w7.heap.size := h; omega), by
          have h7 := H7.out.2.2
          have hb := HI.out.2.1
          have h8 := h7.size
          exact (h7.trans (hb.mono h8)).trans (hcm'.below (by have := hb.size; omega) fun k hk e => by omega)⟩)
        clear hsm hcm'
        go_wp2_with fail
        go_at_call 13
        refine (countsS_any wm cb lo hi cm st _ _ HM.out.1 (by omega) (fun x hx => by have := HQ1.out.2 x hx; omega)).mono ?_
        rintro e wn ⟨vc, rfl, hrn, hbn⟩
        have HN := Lib.hid (And.intro hrn hbn)
        clear hrn hbn
        go_wp2_with fail
        go_at_call 19
        refine (same_any wn _ _ vc va _ _ HN.out.1 (HM.out.2.1.below HN.out.2) (by simp; omega) (by simp; omega)).mono ?_
        rintro e wz ⟨rfl, hbz⟩
        rw [decide_eq_true rfl]
        have HZ := Lib.hid (HM.out.2.2.trans ((HN.out.2.trans (hbz.mono HN.out.2.size)).mono HM.out.2.2.size))
        clear hbz
        go_wp2_with fail
        go_ret
        exact ⟨rfl, HZ.out⟩
  · by_cases y1 : (120 : Int) < (l1.length : Int)
    · go_wp2_with fail
      go_at_call 8
      refine (awake9_any w1).mono ?_
      rintro e w3 ⟨rfl, hb3⟩
      have H3 := Lib.hid (show Below w.heap.size w w3 from H1.out.2.trans (hb3.mono H1.out.2.size))
      clear hb3
      go_wp2_with fail
      go_at_call 8
      refine (awake9_any w3).mono ?_
      rintro e w4 ⟨rfl, hb4⟩
      have H4 := Lib.hid (H3.out.trans (hb4.mono H3.out.size))
      clear hb4
      go_wp2_with fail
      go_ret
      exact ⟨rfl, H4.out⟩
    · have y2 : (40 : Int) < (l2.length : Int) := by omega
      go_wp2_with fail
      go_at_call 8
      refine (awake9_any w1).mono ?_
      rintro e w3 ⟨rfl, hb3⟩
      have H3 := Lib.hid (show Below w.heap.size w w3 from H1.out.2.trans (hb3.mono H1.out.2.size))
      clear hb3
      go_wp2_with fail
      go_at_call 8
      refine (awake9_any w3).mono ?_
      rintro e w4 ⟨rfl, hb4⟩
      have H4 := Lib.hid (H3.out.trans (hb4.mono H3.out.size))
      clear hb4
      go_wp2_with fail
      go_ret
      exact ⟨rfl, H4.out⟩
end Go.Proofs.Ytkkmopcmilgdoaa
