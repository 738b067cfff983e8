/- The walk of the statement CsetPlays: called with a scope's numbers and a list of calls it returns true and changes nothing that was there.
   Conditions: the numbers are of their kinds, the list is in memory. -/
import Derived.Test.YtkkmopcmilgdoaaKsO
import Derived.Test.YtkkmopcmilgdoaaKsPR
import Derived.Deep.CutBlock
namespace Go.Proofs.Ytkkmopcmilgdoaa
open Go.RowKit

/-- A set and a list of the document's, apart from each other; both above B. -/
def TwoR (w : World) (B cb : Nat) (lo hi : Int) (C : List Int) (v : Value) (L : List Int) (m : Nat) : Prop :=
  ∃ (G : Nat → Prop) (cm st : Int), SetC w cb lo hi C cm st G ∧ (∀ k, G k → B ≤ k ∧ k < w.heap.size) ∧ RowI w (fun k => ¬ G k) v L ∧ (0 ≤ cm ∧ cm ≤ m) ∧ (0 ≤ st ∧ st ≤ 10000 * m)
theorem TwoR.below {w w' : World} {B cb m : Nat} {lo hi : Int} {C L : List Int} {v : Value} (h : TwoR w B cb lo hi C v L m) (hb : Below w.heap.size w w') : TwoR w' B cb lo hi C v L m := by
  obtain ⟨G, cm, st, h1, h2, h3, h4, h5⟩ := h
  exact ⟨G, cm, st, h1.keep (Chg.of_below (R := fun _ => False) hb) (fun _ _ _ => id), fun k hk => ⟨(h2 k hk).1, Nat.lt_of_lt_of_le (h2 k hk).2 hb.size⟩, h3.below hb, h4, h5⟩
theorem TwoR.after {w w' : World} {B cb m : Nat} {lo hi cm' st' : Int} {C' L : List Int} {v : Value} {G : Nat → Prop} (hs : SetC w' cb lo hi C' cm' st' (fun k => G k ∨ w.heap.size ≤ k)) (hc : Chg G w w') (hG : ∀ k, G k → B ≤ k ∧ k < w.heap.size) (hr : RowI w (fun k => ¬ G k) v L) (hB : B ≤ w.heap.size) (h1 : 0 ≤ cm' ∧ cm' ≤ m) (h2 : 0 ≤ st' ∧ st' ≤ 10000 * m) :
    TwoR w' B cb lo hi C' v L m :=
  ⟨fun k => (G k ∨ w.heap.size ≤ k) ∧ k < w'.heap.size, cm', st', hs.mono fun k hk h => ⟨h, hk⟩, fun k hk => ⟨by
    rcases hk.1 with h | h
    · exact (hG k h).1
    · omega, hk.2⟩, hr.keep hc (fun k _ h => h) (fun k hk h q => by
    rcases q.1 with q | q
    · exact h q
    · omega), h1, h2⟩
/-- Ahead of a round of the calls. -/
def PlI (w : World) (cb : Nat) (lo hi : Int) (l : List (Nat × List Nat)) (n : Nat) (want i : Value) (wr : World) : Prop :=
  ∃ (k : Nat) (C : List Int), i = .int .i64 (k : Int) ∧ n = l.length - k ∧ k ≤ l.length ∧ Cok lo hi C ∧ C.length ≤ 41 * k ∧ TwoR wr w.heap.size cb lo hi C want C.reverse k ∧ Below w.heap.size w wr

/-- Ahead of a round of the look for one that may be left. -/
def DnI (w : World) (lo : Int) (L : List Int) (n : Nat) (d i : Value) (wr : World) : Prop :=
  ∃ j : Nat, i = .int .i64 (j : Int) ∧ n = L.length - j ∧ j ≤ L.length ∧ d = .bool ((L.take j).any fun x => decide (lo ≤ x)) ∧ Below w.heap.size w wr
theorem any_done {lo : Int} {C : List Int} (h : C.Pairwise (fun x y => y < x)) : (C.reverse.any fun x => decide (lo ≤ x)) = doneL lo C := by
  rw [List.any_reverse]
  match C, h with
  | [], _ => rfl
  | x :: C, h =>
    rw [List.pairwise_cons] at h
    rw [doneL, List.any_cons]
    by_cases g : lo ≤ x
    · rw [decide_eq_true g, Bool.true_or]
    · rw [decide_eq_false g, Bool.false_or, List.any_eq_false]
      intro y hy
      have := h.1 y hy
      simp
      omega

set_option maxHeartbeats 8000000 in
set_option maxRecDepth 100000 in
theorem plays9_walk (w : World) (low span : Int) (op : Bool) (v : Value) (l : List (Nat × List Nat)) (hl : OpsR w v l) (hL : l.length ≤ maxLen) (h1 : 0 ≤ low ∧ low < 4294967296) (h2 : 0 ≤ span ∧ span < 4294967296) :
    Calls Try.prog 4 #[.agg #[.int .u32 low, .int .u32 span, .bool op], v] w fun e w' => e = .returned (.bool true) ∧ Below w.heap.size w w' := by
  have hnb : Below w.heap.size w (w.alloc (.cells #[.int .u32 low, .int .u32 span, .bool op] 24)) := (Below.refl _ w).alloc (Nat.le_refl _) _
  have H1 := Lib.hid (And.intro (heap_alloc_new w (.cells #[.int .u32 low, .int .u32 span, .bool op] 24)) hnb)
  have HL := Lib.hid (And.intro hl hL)
  clear hnb hl hL
  go_enter Try.func4, Try.ntmps4
  go_upto_region 1 with fail
  generalize w.alloc (.cells #[.int .u32 low, .int .u32 span, .bool op] 24) = w1 at *
  go_wp2_with fail
  go_at_call 8
  refine (awake9_any w1).mono ?_
  rintro e w2 ⟨rfl, hb2⟩
  have H2 := Lib.hid (show Below w.heap.size w w2 ∧ w2.heap[w.heap.size]? = some (.cells #[.int .u32 low, .int .u32 span, .bool op] 24 (0, 0)) from ⟨H1.out.2.trans (hb2.mono H1.out.2.size), (hb2.block _ (Array.getElem?_eq_some_iff.1 H1.out.1).1).trans H1.out.1⟩)
  clear hb2
  go_wp2_with fail
  go_at_call 16
  refine (few_any w2 v l (HL.out.1.below H2.out.1)).mono ?_
  rintro e w3 ⟨rfl, hb3⟩
  have hq := (hb3.block _ (Array.getElem?_eq_some_iff.1 H2.out.2).1).trans H2.out.2
  obtain ⟨q, _⟩ := row_cells hq
  have c0 := q 0
  have c1 := q 1
  have c2 := q 2
  have hlt := (Array.getElem?_eq_some_iff.1 hq).1
  simp only [List.getElem?_toArray, List.getElem?_cons_zero, List.getElem?_cons_succ] at c0 c1 c2
  have H3 := Lib.hid (show Below w.heap.size w w3 from H2.out.1.trans (hb3.mono H2.out.1.size))
  clear hb3 hq q
  cases hf : fewB l with
  | false =>
    go_wp2_with fail
    go_at_call 8
    refine (awake9_any w3).mono ?_
    rintro e w4 ⟨rfl, hb4⟩
    have H4 := Lib.hid (H3.out.trans (hb4.mono H3.out.size))
    clear hb4
    go_wp2_with fail
    go_ret
    exact ⟨rfl, H4.out⟩
  | true =>
    have hfw := of_decide_eq_true hf
    have HFW := Lib.hid hfw
    clear hfw
    go_wp2_with fail
    go_at_call 9
    refine (scopeR_any w3 low span op h1 h2).mono ?_
    rintro e w4 ⟨lo, hi, rfl, hS, hb4⟩
    have H4 := Lib.hid (H3.out.trans (hb4.mono H3.out.size))
    clear hb4 c0 c1 c2 hlt
    go_wp2_with fail
    have H5 := Lib.hid (show (w4.alloc (.cells #[.int .i64 lo, .int .i64 hi] 28)).heap[w4.heap.size]? = some (.cells #[.int .i64 lo, .int .i64 hi] 28 (0, 0)) ∧ Below w.heap.size w (w4.alloc (.cells #[.int .i64 lo, .int .i64 hi] 28)) from ⟨heap_alloc_new w4 _, H4.out.alloc H4.out.size _⟩)
    generalize w4.alloc (.cells #[.int .i64 lo, .int .i64 hi] 28) = w5 at *
    generalize w4.heap.size = sb at *
    clear H4
    go_at_call 10
    refine (new_any w5 lo hi hS.1).mono ?_
    rintro e w6 ⟨cb, rfl, hcb, hs6, hb6⟩
    have H6 := Lib.hid (And.intro hs6 hb6)
    clear hs6 hb6
    obtain ⟨A, c, rfl, hlr⟩ := HL.out.1
    have HR := Lib.hid hlr
    have hl0 : (0 : Int) ≤ (l.length : Int) := by omega
    clear hlr
    go_wp2_with fail
    go_loopw [7, 8] (fun want i wr => ∃ n, PlI w5 cb lo hi l n want i wr) (fun want i wr => leastOf (fun n => PlI w5 cb lo hi l n want i wr))
    case atStart =>
      refine ⟨_, 0, [], rfl, rfl, by omega, cok_nil lo hi, by simp, ⟨fun k => w5.heap.size ≤ k ∧ k < w6.heap.size, 0, 0, H6.out.1.mono fun k hk h => ⟨h, hk⟩, fun k h => h, ⟨none, 0, rfl, fun i x hi => by simp at hi⟩, by omega, by omega⟩, H6.out.2⟩
    case round =>
      have hls := (leastOf_spec hrel).1
      obtain ⟨k, C, rfl, hq, hk, hok, hlen, htwo, hb⟩ := hls
      have HQ := Lib.hid hq
      clear hrel hq
      have t1 : (0 : Int) ≤ (k : Int) := by omega
      by_cases hlt : k < l.length
      · have t2 : (k : Int) < (l.length : Int) := by omega
        obtain ⟨⟨kk, bb⟩, hx0⟩ : ∃ x, l[k]? = some x := ⟨_, List.getElem?_eq_getElem hlt⟩
        obtain ⟨hk8, hbl, g, o, bv, rfl, hg, hcell, hcell2, hbv⟩ := HR.out k kk bb hx0
        have hwr : Below w.heap.size w wr := H5.out.2.trans (hb.mono H5.out.2.size)
        rw [← hwr.cell (p := ⟨g, o + k * 2, none⟩) hg] at hcell
        have hgr : g < wr.heap.size := by have := hwr.size; omega
        have hl120 : l.length ≤ 120 := HFW.out.1
        have wk : IntKind.i64.wrap ((k : Int) + 1) = (k : Int) + 1 := by rw [IntKind.wrap_i64]; omega
        have w3' : IntKind.u8.wrap ((kk : Int) % 3) = (kk : Int) % 3 := by rw [IntKind.wrap_u8]; omega
        have x0 : (0 : Int) ≤ (kk : Int) := by omega
        have hbb : bb.length ≤ 40 := HFW.out.2 _ (List.mem_of_getElem? hx0)
        have HI := Lib.hid (And.intro hok (And.intro hlen (And.intro htwo (And.intro hb (And.intro hwr (And.intro hx0 hlt))))))
        have HC := Lib.hid (And.intro hcell2 (And.intro hbv hg))
        clear hok hlen htwo hb hwr hx0 hlt hk hcell2 hbv hbl hg
        go_upto_block 2 with fail
        go_cut [9] (fun d wx => TwoR wx w5.heap.size cb lo hi (dQ lo hi C (kk, bb)) u7 C.reverse (k + 1) ∧ Below w5.heap.size w5 wx)
        case first =>
          have hsz := HI.out.2.2.2.1.size
          obtain ⟨G, cm, st, hset, hG, hrow, hcm, hst⟩ := HI.out.2.2.1
          have hlen := HI.out.2.1
          have HS := Lib.hid (And.intro hset (And.intro hG hrow))
          clear hset hG hrow
          by_cases g3 : kk % 3 = 0
          · have g3' : ((kk : Int) % 3 == 0) = true := by simp; omega
            go_wp2_with fail
            go_at_call 11
            refine (begin_any wr cb lo hi cm st C G HS.out.1 (by omega) (by omega) (by omega)).mono ?_
            rintro e w8 ⟨rfl, hs8, hc8⟩
            have HP := Lib.hid (show TwoR w8 w5.heap.size cb lo hi (dQ lo hi C (kk, bb)) u7 C.reverse (k + 1) ∧ Below w5.heap.size w5 w8 from ⟨by
              have e1 : dQ lo hi C (kk, bb) = putM C 1 := if_pos g3
              rw [e1]
              exact TwoR.after hs8 hc8 HS.out.2.1 HS.out.2.2 hsz ⟨by omega, by push_cast; omega⟩ ⟨by omega, by push_cast; omega⟩, HI.out.2.2.2.1.trans (hc8.below hsz fun k hk h => by have := (HS.out.2.1 k h).1; omega)⟩)
            clear hs8 hc8
            go_wp2_with fail
            go_meet
            exact HP.out
          · have g3' : ((kk : Int) % 3 == 0) = false := by simp; omega
            by_cases g4 : kk % 3 = 1
            · have g4' : ((kk : Int) % 3 == 1) = true := by simp; omega
              go_wp2_with fail
              go_at_call 12
              refine (next_any wr cb lo hi cm st C G HS.out.1 hS HI.out.1 (by omega) (by omega) (by omega)).mono ?_
              rintro e w8 ⟨rfl, cm', st', m1, m2, s1, s2, hs8, hc8⟩
              have HP := Lib.hid (show TwoR w8 w5.heap.size cb lo hi (dQ lo hi C (kk, bb)) u7 C.reverse (k + 1) ∧ Below w5.heap.size w5 w8 from ⟨by
                have e1 : dQ lo hi C (kk, bb) = nextQ lo hi C := by unfold dQ; rw [if_neg g3, if_pos g4]
                rw [e1]
                exact TwoR.after hs8 hc8 HS.out.2.1 HS.out.2.2 hsz ⟨by omega, by push_cast; omega⟩ ⟨by omega, by push_cast; omega⟩, HI.out.2.2.2.1.trans (hc8.below hsz fun k hk h => by have := (HS.out.2.1 k h).1; omega)⟩)
              clear hs8 hc8
              go_wp2_with fail
              go_meet
              exact HP.out
            · have g4' : ((kk : Int) % 3 == 1) = false := by simp; omega
              go_upto_region 10 with fail
              have hsb := (HI.out.2.2.2.1.block _ (Array.getElem?_eq_some_iff.1 H5.out.1).1).trans H5.out.1
              obtain ⟨d0, d1⟩ := cellsS2 hsb
              have hlb := (Array.getElem?_eq_some_iff.1 hsb).1
              have hcell3 : wr.cell? ⟨g, o + k * 2 + 1, none⟩ = some bv := (HI.out.2.2.2.2.1.cell (p := ⟨g, o + k * 2 + 1, none⟩) HC.out.2.2).trans HC.out.1
              have HF := Lib.hid (show ∀ W, Below wr.heap.size wr W → (W.cell? ⟨sb, 0, none⟩ = some (.int .i64 lo) ∧ W.cell? ⟨sb, 1, none⟩ = some (.int .i64 hi) ∧ W.cell? ⟨g, o + k * 2 + 1, none⟩ = some bv) ∧ BytR W bv bb from fun W hW =>
                ⟨⟨(hW.cell (p := ⟨sb, 0, none⟩) hlb).trans d0, (hW.cell (p := ⟨sb, 1, none⟩) hlb).trans d1, (hW.cell (p := ⟨g, o + k * 2 + 1, none⟩) hgr).trans hcell3⟩, (HC.out.2.1.below HI.out.2.2.2.2.1).below hW⟩)
              clear hsb
              go_still_tail 6, (by kernel_rfl)
              change wpList _ _ _ _ _ wr.drew
              go_wp2_with fail
              go_at_call 17
              refine (small_any wr.drew bv lo hi bb (HF.out _ (Below.refl _ wr).drew).2 hS (by omega)).mono ?_
              rintro e w8 ⟨db, rfl, cd, sd, hsd, hcd, hstd, hdb, hb8⟩
              have hb8' : Below wr.heap.size wr w8 := ((Below.refl _ wr).drew).trans hb8
              have hs8 := HS.out.1.keep (Chg.of_below (R := fun _ => False) hb8') (fun _ _ _ => id)
              have hcbl := HS.out.1.lt
              have H8 := Lib.hid (And.intro hsd (And.intro hb8' hs8))
              have hsq := sQ_ok hS bb
              have hbdC : ∀ x ∈ C, 0 ≤ x ∧ x < 5000000000 := fun x hx => by have h1 := HI.out.1.2 x hx; have h2 := hS.top; omega
              have hbdS : ∀ x ∈ sQ lo hi bb, 0 ≤ x ∧ x < 5000000000 := fun x hx => by have h1 := hsq.1.2 x hx; have h2 := hS.top; omega
              have HBD := Lib.hid (And.intro hbdC (And.intro hbdS hsq))
              clear hsd hb8 hb8' hs8 d0 d1 hlb hcell3 hbdC hbdS hsq
              go_wp2_with fail
              go_at_call 18
              refine (merge_any w8 cb db lo hi cm st cd sd C (sQ lo hi bb) G (fun b => wr.drew.heap.size ≤ b) H8.out.2.2 H8.out.1 (fun h => by have : wr.heap.size ≤ cb := h; omega) ⟨by omega, by have := HBD.out.2.2.2.2; omega⟩ (by omega) (by omega) (by omega) HBD.out.1 HBD.out.2.1).mono ?_
              rintro e w9 ⟨rfl, hs9, hc9⟩
              have hc09 : Chg (fun k => k = cb) wr w9 := (Chg.of_below (R := fun k => k = cb) H8.out.2.1).trans hc9 fun _ _ e => e
              have hwb : Below w.heap.size w w9 := HI.out.2.2.2.2.1.trans (hc09.below HI.out.2.2.2.2.1.size fun k hk e => by have := H5.out.2.size; omega)
              have hsd9 := H8.out.1.keep hc9 (fun k _ h e => by have : wr.heap.size ≤ k := h; omega)
              have H9 := Lib.hid (show TwoR w9 w5.heap.size cb lo hi (dQ lo hi C (kk, bb)) u7 C.reverse (k + 1) ∧ Below w5.heap.size w5 w9 from ⟨by
                have e1 : dQ lo hi C (kk, bb) = mergeC [] C (sQ lo hi bb) := by unfold dQ; rw [if_neg g3, if_neg g4]
                rw [e1]
                have hq := HBD.out.2.2.2.2
                have h8 := H8.out.2.1.size
                exact TwoR.after (hs9.mono fun k _ h => by
                  rcases h with rfl | h
                  · exact .inl HS.out.1.has
                  · exact .inr (by omega)) (hc09.mono fun k _ e => by subst e; exact HS.out.1.has) HS.out.2.1 HS.out.2.2 hsz ⟨by omega, by push_cast; omega⟩ ⟨by push_cast; omega, by push_cast; omega⟩, HI.out.2.2.2.1.trans (hc09.below hsz fun k hk h => by omega)⟩)
              have hsblt : sb < wr.heap.size := by
                have := (Array.getElem?_eq_some_iff.1 H5.out.1).1
                omega
              have hsbne : sb ≠ cb := by
                have := (Array.getElem?_eq_some_iff.1 H5.out.1).1
                omega
              have HG := Lib.hid (show ∀ W, Below w9.heap.size w9 W → (W.cell? ⟨sb, 0, none⟩ = some (.int .i64 lo) ∧ W.cell? ⟨sb, 1, none⟩ = some (.int .i64 hi) ∧ W.cell? ⟨g, o + k * 2 + 1, none⟩ = some bv) ∧ BytR W bv bb ∧ SetC W db lo hi (sQ lo hi bb) cd sd (fun b => wr.heap.size ≤ b) from fun W hW => by
                obtain ⟨⟨f0, f1, f2⟩, _⟩ := HF.out wr (Below.refl _ _)
                have h9 := hc09.size
                have hg' := HC.out.2.2
                have hw5 := H5.out.2.size
                exact ⟨⟨(hW.cell (p := ⟨sb, 0, none⟩) (by show sb < _; omega)).trans ((hc09.cell 0 hsblt hsbne).trans f0), (hW.cell (p := ⟨sb, 1, none⟩) (by show sb < _; omega)).trans ((hc09.cell 1 hsblt hsbne).trans f1), (hW.cell (p := ⟨g, o + k * 2 + 1, none⟩) (by show g < _; omega)).trans ((hc09.cell _ hgr (by omega)).trans f2)⟩, (HC.out.2.1.below hwb).below hW, hsd9.keep (Chg.of_below (R := fun _ => False) hW) (fun _ _ _ => id)⟩)
              clear hs9 hc9 hc09 hwb hsd9
              go_upto_region 12 with fail
              refine regKp12 (sb := sb) (db := db) (g := g) (o := o) (k := k) (n := l.length) (c := c) (lo := lo) (hi := hi) (bv := bv) (P := fun W v => RowI W (fun _ => True) v (sQ lo hi bb).reverse) (R := fun W v => RowI W (fun _ => True) v (tR lo hi bb)) (hs0 := fun W h => (HG.out W h).1.1) (hs1 := fun W h => (HG.out W h).1.2.1) (hbv := fun W h => (HG.out W h).1.2.2) (hP := fun _ _ _ h hb => h.below hb) (hR := fun _ _ _ h hb => h.below hb) (hc1 := ?_) (hc2 := ?_) (hc3 := ?_) (e1 := t2) (e2 := t1) (t1 := Int.toNat_natCast k) (D := _) (v0 := _) (v2 := _) (v3 := _) (v4 := _) (v6 := _) (v7 := _) (v10 := _) (v11 := _) (v12 := _) (v13 := _) (v14 := _) (v15 := _) (v16 := _) (v17 := _) (v18 := _) (v19 := _) (v20 := _) (v21 := _) (v22 := _) (v23 := _) (v24 := _) (v25 := _) (v26 := _) (v27 := _) (v28 := _) (v29 := _) (v30 := _) (v31 := _) (v32 := _) (v33 := _) (v34 := _) (v35 := _) (v36 := _) (v37 := _) (v38 := _) (v39 := _) (v40 := _) (v41 := _) (v42 := _) (v43 := _) (v44 := _) (v45 := _) (v46 := _) (v47 := _) (v48 := _) (v49 := _) (v50 := _) (v62 := _) (v63 := _) (v64 := _) (v65 := _) (v66 := _) (v67 := _) (v68 := _) (v69 := _) (v70 := _) (v71 := _) (v72 := _) (v73 := _) (v74 := _) (v75 := _) (v76 := _) (v77 := _) (v78 := _) (v79 := _) (v80 := _) (v81 := _) (v82 := _) (v83 := _) (v84 := _) (v85 := _) (v86 := _) (v87 := _) (v88 := _) (v89 := _) (v90 := _) (v91 := _) (v92 := _) (v93 := _) (v94 := _) (v95 := _) (v96 := _) (v97 := _) (v98 := _) (v99 := _) (v100 := _) (v101 := _) (v102 := _) (v103 := _) (v104 := _) (v105 := _) (v106 := _) (v107 := _) (v108 := _) (v109 := _) (v110 := _) (v111 := _) (v112 := _) (v113 := _) (v114 := _) (v115 := _) (v116 := _) (v117 := _) (v118 := _) (v119 := _) (v120 := _) (wy0 := _) (wy1 := _) (wy2 := _) (wy3 := _) (wy4 := _) (wy5 := _) (wy6 := _) (wy7 := _) (wy8 := _) (wy9 := _) (wy10 := _) (w := _) (Q := _) (hQ := ?_)
              · intro W hW
                refine (countsS_any W db lo hi cd sd _ _ (HG.out W hW).2.2 (by have := HBD.out.2.2.2.2; omega) (fun x hx => by have := HBD.out.2.1 x hx; omega)).mono ?_
                rintro e w2 ⟨v, rfl, h1, h2⟩
                exact ⟨v, rfl, h1.mono fun _ _ => trivial, h2⟩
              · intro W hW
                refine (smallR_any W bv lo hi bb (HG.out W hW).2.1 hS (by omega)).mono ?_
                rintro e w2 ⟨v, rfl, h1, h2⟩
                exact ⟨v, rfl, h1.mono fun _ _ => trivial, h2⟩
              · intro W u v hW h1 h2
                have hlq := HBD.out.2.2.2.2
                have hle : (tR lo hi bb).length = (sQ lo hi bb).length := by rw [← HBD.out.2.2.2.1, List.length_reverse]
                refine (same_any W _ _ u v _ _ h1 h2 (by simp; omega) (by omega)).mono ?_
                rintro e w2 ⟨rfl, h3⟩
                exact ⟨by rw [decide_eq_true HBD.out.2.2.2.1], h3⟩
              intros
              rename_i w10 hb10
              dsimp only
              have HP := Lib.hid (show TwoR w10 w5.heap.size cb lo hi (dQ lo hi C (kk, bb)) u7 C.reverse (k + 1) ∧ Below w5.heap.size w5 w10 from ⟨H9.out.1.below hb10, H9.out.2.trans (hb10.mono H9.out.2.size)⟩)
              clear hb10
              go_wp2_with fail
              go_meet
              exact HP.out
        case rest =>
          obtain ⟨⟨G, cm, st, hset, hG, hrow, hcm, hst⟩, hbc⟩ := hcut
          have hwc : Below w.heap.size w wc := H5.out.2.trans (hbc.mono H5.out.2.size)
          have hsb := (hbc.block _ (Array.getElem?_eq_some_iff.1 H5.out.1).1).trans H5.out.1
          obtain ⟨d0, d1⟩ := cellsS2 hsb
          have hlb := (Array.getElem?_eq_some_iff.1 hsb).1
          obtain ⟨_, _, g', o', bv', eA, hg', hcellk, hcellb, hbv'⟩ := HR.out k kk bb HI.out.2.2.2.2.2.1
          obtain ⟨rfl, rfl⟩ : g = g' ∧ o = o' := by simpa using eA
          rw [← hwc.cell (p := ⟨g, o + k * 2, none⟩) hg'] at hcellk
          rw [← hwc.cell (p := ⟨g, o + k * 2 + 1, none⟩) hg'] at hcellb
          have hgc : g < wc.heap.size := by have := hwc.size; omega
          have hokd := dQ_ok hS HI.out.1 (kk, bb)
          have hbdC : ∀ x ∈ C.reverse, -10000000000 ≤ x ∧ x < 10000000000 := fun x hx => by have h1 := HI.out.1.2 x (List.mem_reverse.1 hx); have h2 := hS.top; omega
          have HS := Lib.hid (And.intro hset (And.intro hG (And.intro hrow (And.intro hbc (And.intro hsb (And.intro hbdC (And.intro hokd (hbv'.below hwc))))))))
          clear hset hG hrow hbc hsb hwc hg' hbdC hokd hbv' eA hcell hgr w3' x0
          go_upto_region 18 with fail
          go_still_tail 6, (by kernel_rfl)
          change wpList _ _ _ _ _ wc.drew
          go_wp2_with fail
          go_at_call 21
          have hdr : Below wc.heap.size wc wc.drew := (Below.refl _ wc).drew
          have hlen := HI.out.2.1
          refine (doR_any wc.drew (fun k => ¬ G k) u7 bv' lo hi C.reverse kk bb (HS.out.2.2.1.below hdr) (HS.out.2.2.2.2.2.2.2.below hdr) hS (by simp; omega) (by omega) hk8 HS.out.2.2.2.2.2.1).mono ?_
          rintro e w8 ⟨v8, rfl, hr8, hb8⟩
          have hb8' : Below wc.heap.size wc w8 := hdr.trans hb8
          obtain ⟨C', hC'⟩ : ∃ C', C' = dQ lo hi C (kk, bb) := ⟨_, rfl⟩
          have hok' := HS.out.2.2.2.2.2.2.1
          rw [← hok'.2.1, ← hC'] at hr8
          rw [← hC'] at hok' HS
          have hlen' : C'.length ≤ 41 * (k + 1) := by have h1 := hok'.2.2; omega
          have H8 := Lib.hid (show TwoR w8 w5.heap.size cb lo hi C' v8 C'.reverse (k + 1) ∧ Below w5.heap.size w5 w8 from ⟨⟨G, cm, st, HS.out.1.keep (Chg.of_below (R := fun _ => False) hb8') (fun _ _ _ => id), fun x hx => ⟨(HS.out.2.1 x hx).1, Nat.lt_of_lt_of_le (HS.out.2.1 x hx).2 hb8'.size⟩, hr8.mono fun x hx => by
            rcases hx with hx | hx
            · exact hx
            · intro q
              have h1 : wc.heap.size ≤ x := hx
              have := (HS.out.2.1 x q).2
              omega, hcm, hst⟩, HS.out.2.2.2.1.trans (hb8'.mono HS.out.2.2.2.1.size)⟩)
          have HOK := Lib.hid (And.intro hok'.1 hlen')
          obtain ⟨wA, wn, rfl, hwr⟩ := hr8
          have HW := Lib.hid hwr
          clear hb8 hb8' hdr d0 d1 hlb hcellk hcellb hgc hok' hwr HS hC'
          simp only [List.length_reverse] at H8 HW ⊢
          have hrl : C'.reverse.length = C'.length := List.length_reverse
          have m0 : (0 : Int) ≤ (C'.length : Int) := by omega
          have hsz8 := H8.out.2.size
          go_wp2_with fail
          go_loopw [10, 11] (fun d i wr => ∃ n, DnI w8 lo C'.reverse n d i wr) (fun d i wr => leastOf (fun n => DnI w8 lo C'.reverse n d i wr))
          case atStart => exact ⟨_, 0, rfl, rfl, by omega, rfl, Below.refl _ _⟩
          case round =>
            have hls := (leastOf_spec hrel).1
            obtain ⟨j, rfl, hq2, hj, rfl, hb⟩ := hls
            have HQ2 := Lib.hid hq2
            clear hrel hq2
            have t3 : (0 : Int) ≤ (j : Int) := by omega
            have hbq := H8.out.2.trans (hb.mono hsz8)
            have hsb := (hbq.block _ (Array.getElem?_eq_some_iff.1 H5.out.1).1).trans H5.out.1
            obtain ⟨d0, d1⟩ := cellsS2 hsb
            have hlb := (Array.getElem?_eq_some_iff.1 hsb).1
            by_cases hlt : j < C'.length
            · have t4 : (j : Int) < (C'.length : Int) := by omega
              obtain ⟨x, hx0⟩ : ∃ x, C'.reverse[j]? = some x := ⟨_, List.getElem?_eq_getElem (by omega)⟩
              obtain ⟨gb, rfl, _, hg, hcell⟩ := HW.out j x hx0
              rw [← hb.cell (p := ⟨gb, j, none⟩) hg] at hcell
              have hgb := Nat.lt_of_lt_of_le hg hb.size
              have wj : IntKind.i64.wrap ((j : Int) + 1) = (j : Int) + 1 := by rw [IntKind.wrap_i64]; omega
              have HJ := Lib.hid (And.intro hx0 (And.intro hb (show j + 1 ≤ C'.reverse.length by omega)))
              obtain ⟨db, hdb⟩ : ∃ db, ((C'.reverse.take j).any fun x => decide (lo ≤ x)) = db := ⟨_, rfl⟩
              have HDB := Lib.hid hdb
              rw [hdb] at HQ2 ⊢
              clear hx0 hb hj hlt hsb hbq hdb hg
              go_upto_region 23 with fail
              cases db with
              | true =>
                go_quiet (fail)
                rename Nat => nq
                have HP := Lib.hid (show DnI w8 lo C'.reverse (C'.reverse.length - (j + 1)) (.bool true) (.int .i64 ((j : Int) + 1)) (wr.drewN nq) from ⟨j + 1, by push_cast; rfl, rfl, HJ.out.2.2, by rw [take_snocI HJ.out.1, List.any_append, HDB.out]; simp, ((Chg.of_below (R := fun k => w8.heap.size ≤ k) HJ.out.2.1).drewN nq).below (Nat.le_refl _) fun k hk e => by omega⟩)
                go_wp2_with fail
                go_roundw
                case rel => exact ⟨_, HP.out⟩
                case measure =>
                  rw [HQ2.out]
                  exact Nat.lt_of_le_of_lt ((leastOf_spec ⟨_, HP.out⟩).2 _ HP.out) (by have := HJ.out.2.2; omega)
              | false =>
                by_cases gx : lo ≤ x
                · go_quiet (fail)
                  rename Nat => nq
                  have HP := Lib.hid (show DnI w8 lo C'.reverse (C'.reverse.length - (j + 1)) (.bool true) (.int .i64 ((j : Int) + 1)) (wr.drewN nq) from ⟨j + 1, by push_cast; rfl, rfl, HJ.out.2.2, by rw [take_snocI HJ.out.1, List.any_append, HDB.out]; simp [gx], ((Chg.of_below (R := fun k => w8.heap.size ≤ k) HJ.out.2.1).drewN nq).below (Nat.le_refl _) fun k hk e => by omega⟩)
                  go_wp2_with fail
                  go_roundw
                  case rel => exact ⟨_, HP.out⟩
                  case measure =>
                    rw [HQ2.out]
                    exact Nat.lt_of_le_of_lt ((leastOf_spec ⟨_, HP.out⟩).2 _ HP.out) (by have := HJ.out.2.2; omega)
                · go_quiet (fail)
                  rename Nat => nq
                  have HP := Lib.hid (show DnI w8 lo C'.reverse (C'.reverse.length - (j + 1)) (.bool false) (.int .i64 ((j : Int) + 1)) (wr.drewN nq) from ⟨j + 1, by push_cast; rfl, rfl, HJ.out.2.2, by rw [take_snocI HJ.out.1, List.any_append, HDB.out]; simp [gx], ((Chg.of_below (R := fun k => w8.heap.size ≤ k) HJ.out.2.1).drewN nq).below (Nat.le_refl _) fun k hk e => by omega⟩)
                  go_wp2_with fail
                  go_roundw
                  case rel => exact ⟨_, HP.out⟩
                  case measure =>
                    rw [HQ2.out]
                    exact Nat.lt_of_le_of_lt ((leastOf_spec ⟨_, HP.out⟩).2 _ HP.out) (by have := HJ.out.2.2; omega)
            · have t4 : ¬ (j : Int) < (C'.length : Int) := by omega
              obtain rfl : j = C'.reverse.length := by omega
              have hdn : ((C'.reverse.take C'.reverse.length).any fun x => decide (lo ≤ x)) = doneL lo C' := by rw [List.take_length, any_done HOK.out.1.1]
              rw [hdn]
              have HB := Lib.hid (And.intro hb (And.intro hbq hsb))
              clear hb hbq hsb hdn
              generalize hdn : doneL lo C' = dn at *
              have HD := Lib.hid hdn
              clear hdn
              go_upto_region 24 with fail
              obtain ⟨G8, cm8, st8, hs8, hG8, hr8, hcm8, hst8⟩ := H8.out.1
              have HT := Lib.hid (show ∀ W, Below wr.heap.size wr W → (W.cell? ⟨sb, 0, none⟩ = some (.int .i64 lo) ∧ W.cell? ⟨sb, 1, none⟩ = some (.int .i64 hi)) ∧ SetC W cb lo hi C' cm8 st8 G8 ∧ RowI W (fun k => ¬ G8 k) (.slice wA C'.length wn) C'.reverse ∧ Below w8.heap.size w8 W from fun W hW => by
                have hb8 := HB.out.1.trans (hW.mono HB.out.1.size)
                exact ⟨⟨(hW.cell (p := ⟨sb, 0, none⟩) hlb).trans d0, (hW.cell (p := ⟨sb, 1, none⟩) hlb).trans d1⟩, hs8.keep (Chg.of_below (R := fun _ => False) hb8) (fun _ _ _ => id), hr8.below hb8, hb8⟩)
              have hbd : ∀ x ∈ C', 0 ≤ x ∧ x < 2200000000 := fun x hx => by have h1 := HOK.out.1.2 x hx; have h2 := hS.top; omega
              have hmx : ¬ ((if lo < hi then hi else lo) < (C'.length : Int)) := by
                have h1 := dsc_len (b := topC lo hi) (by have := hS.top; omega) HOK.out.1.1 HOK.out.1.2
                have ht : topC lo hi = if hi < 0 then lo else hi := rfl
                obtain ⟨s1, s2, s3⟩ := hS
                split
                · split at ht <;> omega
                · split at ht <;> omega
              have HBD := Lib.hid hbd
              clear hbd hs8 hr8 d0 d1 hlb
              refine regKp24 (sb := sb) (cb := cb) (n := C'.length) (wc := wn) (lo := lo) (hi := hi) (wA := wA) (dn := dn) (P := fun W v => RowI W (fun _ => True) v C'.reverse) (hs0 := fun W h => (HT.out W h).1.1) (hs1 := fun W h => (HT.out W h).1.2) (hP := fun _ _ _ h hb => h.below hb) (hc1 := ?_) (hc2 := ?_) (hc3 := ?_) (hc4 := ?_) (hmx := hmx) (D := _) (v0 := _) (v1 := _) (v2 := _) (v3 := _) (v4 := _) (v8 := _) (v9 := _) (v11 := _) (v12 := _) (v13 := _) (v14 := _) (v15 := _) (v16 := _) (v17 := _) (v18 := _) (v19 := _) (v20 := _) (v21 := _) (v22 := _) (v23 := _) (v24 := _) (v25 := _) (v26 := _) (v27 := _) (v28 := _) (v29 := _) (v30 := _) (v31 := _) (v32 := _) (v33 := _) (v34 := _) (v35 := _) (v36 := _) (v37 := _) (v38 := _) (v39 := _) (v40 := _) (v41 := _) (v42 := _) (v43 := _) (v44 := _) (v45 := _) (v46 := _) (v47 := _) (v48 := _) (v49 := _) (v50 := _) (v51 := _) (v52 := _) (v53 := _) (v54 := _) (v55 := _) (v56 := _) (v57 := _) (v58 := _) (v59 := _) (v60 := _) (v61 := _) (v62 := _) (v63 := _) (v64 := _) (v65 := _) (v66 := _) (v67 := _) (v68 := _) (v69 := _) (v70 := _) (v71 := _) (v72 := _) (v73 := _) (v74 := _) (v75 := _) (v76 := _) (v77 := _) (v78 := _) (v79 := _) (v80 := _) (v81 := _) (v82 := _) (v83 := _) (v84 := _) (v85 := _) (v86 := _) (v87 := _) (v88 := _) (v89 := _) (v90 := _) (v91 := _) (v92 := _) (wy0 := _) (wy1 := _) (wy2 := _) (wy3 := _) (wy4 := _) (wy5 := _) (wy6 := _) (wy7 := _) (wy8 := _) (wy9 := _) (wy10 := _) (wy11 := _) (wy12 := _) (wy13 := _) (wy14 := _) (wy15 := _) (wy16 := _) (wy17 := _) (wy18 := _) (wy19 := _) (wy20 := _) (wy21 := _) (wy22 := _) (wy23 := _) (wy24 := _) (wy25 := _) (wy26 := _) (wy27 := _) (w := _) (Q := _) (hQ := ?_)
              · intro W hW
                refine (len_any W cb lo hi cm8 st8 C' G8 (HT.out W hW).2.1).mono ?_
                rintro e w2 ⟨rfl, rfl⟩
                exact ⟨rfl, Below.refl _ _⟩
              · intro W hW
                rw [← HD.out]
                exact doneS_any W cb lo hi cm8 st8 C' G8 (HT.out W hW).2.1 fun x hx => by have := HBD.out x hx; omega
              · intro W hW
                refine (countsS_any W cb lo hi cm8 st8 C' G8 (HT.out W hW).2.1 (by omega) (fun x hx => by have := HBD.out x hx; omega)).mono ?_
                rintro e w2 ⟨v, rfl, h1, h2⟩
                exact ⟨v, rfl, h1.mono fun _ _ => trivial, h2⟩
              · intro W u hW h1
                refine (same_any W _ _ u _ _ _ h1 (HT.out W hW).2.2.1 (by omega) (by omega)).mono ?_
                rintro e w2 ⟨rfl, h3⟩
                exact ⟨by rw [decide_eq_true rfl], h3⟩
              intros
              rename_i w10 hb10
              dsimp only
              have HP := Lib.hid (show PlI w5 cb lo hi l (l.length - (k + 1)) (.slice wA C'.length wn) (.int .i64 ((k : Int) + 1)) w10 from by
                have hb810 := (HT.out w10 hb10).2.2.2
                exact ⟨k + 1, C', by push_cast; rfl, rfl, HI.out.2.2.2.2.2.2, HOK.out.1, HOK.out.2, H8.out.1.below hb810, H8.out.2.trans (hb810.mono hsz8)⟩)
              clear hb10
              go_wp2_with fail
              go_roundw
              case rel => exact ⟨_, HP.out⟩
              case measure =>
                rw [HQ.out]
                exact Nat.lt_of_le_of_lt ((leastOf_spec ⟨_, HP.out⟩).2 _ HP.out) (by have := HI.out.2.2.2.2.2.2; omega)
      · have t2 : ¬ (k : Int) < (l.length : Int) := by omega
        have HB := Lib.hid (H5.out.2.trans (hb.mono H5.out.2.size))
        clear hb hok hlen htwo
        go_wp2_with fail
        go_ret
        exact ⟨rfl, HB.out⟩
end Go.Proofs.Ytkkmopcmilgdoaa
