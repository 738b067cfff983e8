/- The walk of the statement CsetSteps: called with a scope's numbers and a list of calls it returns true and changes nothing that was there.
   Conditions: the numbers are of their kinds, the list is in memory. -/
import Derived.Test.YtkkmopcmilgdoaaKsO
import Derived.Deep.CutBlock
namespace Go.Proofs.Ytkkmopcmilgdoaa
open Go.RowKit

/-- Ahead of a round of the calls. -/
def SpI (w : World) (cb : Nat) (lo hi : Int) (l : List (Nat × List Nat)) (n : Nat) (i : Value) (wr : World) : Prop :=
  ∃ (k : Nat) (C : List Int) (cm st : Int), i = .int .i64 (k : Int) ∧ n = l.length - k ∧ k ≤ l.length ∧ Cok lo hi C ∧ C.length ≤ 41 * k ∧ SetC wr cb lo hi C cm st (fun b => w.heap.size ≤ b) ∧ (0 ≤ cm ∧ cm ≤ k) ∧ (0 ≤ st ∧ st ≤ 10000 * k) ∧ Below w.heap.size w wr
/-- Behind a call: it took at most so many steps. -/
def SpC (w : World) (cb : Nat) (lo hi : Int) (k : Nat) (st mm : Int) (wx : World) : Prop :=
  ∃ (C : List Int) (cm' st' : Int), Cok lo hi C ∧ C.length ≤ 41 * (k + 1) ∧ SetC wx cb lo hi C cm' st' (fun b => w.heap.size ≤ b) ∧ (0 ≤ cm' ∧ cm' ≤ k + 1) ∧ (st ≤ st' ∧ st' ≤ st + mm) ∧ (0 ≤ st' ∧ st' ≤ 10000 * (k + 1)) ∧ Below w.heap.size w wx

set_option maxHeartbeats 8000000 in
set_option maxRecDepth 100000 in
theorem steps9_walk (w : World) (low span : Int) (op : Bool) (v : Value) (l : List (Nat × List Nat)) (hl : OpsR w v l) (hL : l.length ≤ maxLen) (h1 : 0 ≤ low ∧ low < 4294967296) (h2 : 0 ≤ span ∧ span < 4294967296) :
    Calls Try.prog 5 #[.agg #[.int .u32 low, .int .u32 span, .bool op], v] w fun e w' => e = .returned (.bool true) ∧ Below w.heap.size w w' := by
  have hnb : Below w.heap.size w (w.alloc (.cells #[.int .u32 low, .int .u32 span, .bool op] 24)) := (Below.refl _ w).alloc (Nat.le_refl _) _
  have H1 := Lib.hid (And.intro (heap_alloc_new w (.cells #[.int .u32 low, .int .u32 span, .bool op] 24)) hnb)
  have HL := Lib.hid (And.intro hl hL)
  clear hnb hl hL
  go_enter Try.func5, Try.ntmps5
  go_upto_region 1 with fail
  generalize w.alloc (.cells #[.int .u32 low, .int .u32 span, .bool op] 24) = w1 at *
  go_wp2_with fail
  go_at_call 8
  refine (awake9_any w1).mono ?_
  rintro e w2 ⟨rfl, hb2⟩
  have H2 := Lib.hid (show Below w.heap.size w w2 ∧ w2.heap[w.heap.size]? = some (.cells #[.int .u32 low, .int .u32 span, .bool op] 24 (0, 0)) from ⟨H1.out.2.trans (hb2.mono H1.out.2.size), (hb2.block _ (Array.getElem?_eq_some_iff.1 H1.out.1).1).trans H1.out.1⟩)
  clear hb2
  go_wp2_with fail
  go_at_call 16
  refine (few_any w2 v l (HL.out.1.below H2.out.1)).mono ?_
  rintro e w3 ⟨rfl, hb3⟩
  have hq := (hb3.block _ (Array.getElem?_eq_some_iff.1 H2.out.2).1).trans H2.out.2
  obtain ⟨q, _⟩ := row_cells hq
  have c0 := q 0
  have c1 := q 1
  have c2 := q 2
  have hlt := (Array.getElem?_eq_some_iff.1 hq).1
  simp only [List.getElem?_toArray, List.getElem?_cons_zero, List.getElem?_cons_succ] at c0 c1 c2
  have H3 := Lib.hid (show Below w.heap.size w w3 from H2.out.1.trans (hb3.mono H2.out.1.size))
  clear hb3 hq q
  cases hf : fewB l with
  | false =>
    go_wp2_with fail
    go_at_call 8
    refine (awake9_any w3).mono ?_
    rintro e w4 ⟨rfl, hb4⟩
    have H4 := Lib.hid (H3.out.trans (hb4.mono H3.out.size))
    clear hb4
    go_wp2_with fail
    go_ret
    exact ⟨rfl, H4.out⟩
  | true =>
    have hfw := of_decide_eq_true hf
    have HFW := Lib.hid hfw
    clear hfw
    go_wp2_with fail
    go_at_call 9
    refine (scopeR_any w3 low span op h1 h2).mono ?_
    rintro e w4 ⟨lo, hi, rfl, hS, hb4⟩
    have H4 := Lib.hid (H3.out.trans (hb4.mono H3.out.size))
    clear hb4 c0 c1 c2 hlt
    go_wp2_with fail
    have H5 := Lib.hid (show (w4.alloc (.cells #[.int .i64 lo, .int .i64 hi] 28)).heap[w4.heap.size]? = some (.cells #[.int .i64 lo, .int .i64 hi] 28 (0, 0)) ∧ Below w.heap.size w (w4.alloc (.cells #[.int .i64 lo, .int .i64 hi] 28)) from ⟨heap_alloc_new w4 _, H4.out.alloc H4.out.size _⟩)
    generalize w4.alloc (.cells #[.int .i64 lo, .int .i64 hi] 28) = w5 at *
    generalize w4.heap.size = sb at *
    clear H4
    go_at_call 10
    refine (new_any w5 lo hi hS.1).mono ?_
    rintro e w6 ⟨cb, rfl, hcb, hs6, hb6⟩
    have H6 := Lib.hid (And.intro hs6 hb6)
    clear hs6 hb6
    obtain ⟨A, c, rfl, hlr⟩ := HL.out.1
    have HR := Lib.hid hlr
    have hl0 : (0 : Int) ≤ (l.length : Int) := by omega
    clear hlr
    go_wp2_with fail
    go_loopw [7] (fun i wr => ∃ n, SpI w5 cb lo hi l n i wr) (fun i wr => leastOf (fun n => SpI w5 cb lo hi l n i wr))
    case atStart => exact ⟨_, 0, [], 0, 0, rfl, rfl, by omega, cok_nil lo hi, by simp, H6.out.1, by omega, by omega, H6.out.2⟩
    case round =>
      have hls := (leastOf_spec hrel).1
      obtain ⟨k, C, cm, st, rfl, hq, hk, hok, hlen, hset, hcm, hst, hb⟩ := hls
      have HQ := Lib.hid hq
      clear hrel hq
      have t1 : (0 : Int) ≤ (k : Int) := by omega
      by_cases hlt : k < l.length
      · have t2 : (k : Int) < (l.length : Int) := by omega
        obtain ⟨⟨kk, bb⟩, hx0⟩ : ∃ x, l[k]? = some x := ⟨_, List.getElem?_eq_getElem hlt⟩
        obtain ⟨hk8, hbl, g, o, bv, rfl, hg, hcell, hcell2, hbv⟩ := HR.out k kk bb hx0
        have hwr : Below w.heap.size w wr := H5.out.2.trans (hb.mono H5.out.2.size)
        rw [← hwr.cell (p := ⟨g, o + k * 2, none⟩) hg] at hcell
        rw [← hwr.cell (p := ⟨g, o + k * 2 + 1, none⟩) hg] at hcell2
        have hgr : g < wr.heap.size := by have := hwr.size; omega
        have hl120 : l.length ≤ 120 := HFW.out.1
        have wk : IntKind.i64.wrap ((k : Int) + 1) = (k : Int) + 1 := by rw [IntKind.wrap_i64]; omega
        have w3' : IntKind.u8.wrap ((kk : Int) % 3) = (kk : Int) % 3 := by rw [IntKind.wrap_u8]; omega
        have x0 : (0 : Int) ≤ (kk : Int) := by omega
        have hbb : bb.length ≤ 40 := HFW.out.2 _ (List.mem_of_getElem? hx0)
        have HI := Lib.hid (And.intro hok (And.intro hlen (And.intro hset (And.intro hb (And.intro (hbv.below hwr) hlt)))))
        clear hok hlen hset hb hwr hx0 hlt hk hbv hbl hg
        go_wp2_with fail
        go_at_call 22
        refine (steps_any wr cb lo hi cm st C _ HI.out.2.2.1).mono ?_
        rintro e wq ⟨rfl, rfl⟩
        go_upto_block 2 with fail
        go_cut [9, 10] (fun most d wx => ∃ mm : Int, most = .int .i64 mm ∧ (0 ≤ mm ∧ mm ≤ 100000) ∧ SpC w5 cb lo hi k st mm wx)
        case first =>
          have hsz := HI.out.2.2.2.1.size
          have hlen := HI.out.2.1
          by_cases g3 : kk % 3 = 0
          · have g3' : ((kk : Int) % 3 == 0) = true := by simp; omega
            go_wp2_with fail
            go_at_call 11
            refine (begin_any wq cb lo hi cm st C _ HI.out.2.2.1 (by omega) (by omega) (by omega)).mono ?_
            rintro e w8 ⟨rfl, hs8, hc8⟩
            have hp := putM_len C 1
            have HP := Lib.hid (show SpC w5 cb lo hi k st 2 w8 from ⟨_, cm, st + 1, cok_put hS HI.out.1, by omega, hs8.mono fun b _ h => by rcases h with h | h; exact h; omega, by omega, by omega, by omega, HI.out.2.2.2.1.trans (hc8.below hsz fun k hk h => by have : w5.heap.size ≤ k := h; omega)⟩)
            clear hs8 hc8 hp
            go_wp2_with fail
            go_meet
            exact ⟨2, rfl, by omega, HP.out⟩
          · have g3' : ((kk : Int) % 3 == 0) = false := by simp; omega
            by_cases g4 : kk % 3 = 1
            · have g4' : ((kk : Int) % 3 == 1) = true := by simp; omega
              go_wp2_with fail
              go_at_call 12
              refine (next_any wq cb lo hi cm st C _ HI.out.2.2.1 hS HI.out.1 (by omega) (by omega) (by omega)).mono ?_
              rintro e w8 ⟨rfl, cm', st', m1, m2, s1, s2, hs8, hc8⟩
              have hp := nextQ_len lo hi C
              have HP := Lib.hid (show SpC w5 cb lo hi k st 2 w8 from ⟨_, cm', st', cok_next hS HI.out.1, by omega, hs8.mono fun b _ h => by rcases h with h | h; exact h; omega, by omega, by omega, by omega, HI.out.2.2.2.1.trans (hc8.below hsz fun k hk h => by have : w5.heap.size ≤ k := h; omega)⟩)
              clear hs8 hc8 hp
              go_wp2_with fail
              go_meet
              exact ⟨2, rfl, by omega, HP.out⟩
            · have g4' : ((kk : Int) % 3 == 1) = false := by simp; omega
              go_upto_region 10 with fail
              have hsb := (HI.out.2.2.2.1.block _ (Array.getElem?_eq_some_iff.1 H5.out.1).1).trans H5.out.1
              obtain ⟨d0, d1⟩ := cellsS2 hsb
              have hlb := (Array.getElem?_eq_some_iff.1 hsb).1
              clear hsb
              go_still_tail 6, (by kernel_rfl)
              change wpList _ _ _ _ _ wq.drew
              go_wp2_with fail
              go_at_call 17
              refine (small_any wq.drew bv lo hi bb (HI.out.2.2.2.2.1.below (Below.refl _ wq).drew) hS (by omega)).mono ?_
              rintro e w8 ⟨db, rfl, cd, sd, hsd, hcd, hstd, hdb, hb8⟩
              have hb8' : Below wq.heap.size wq w8 := ((Below.refl _ wq).drew).trans hb8
              have hs8 := HI.out.2.2.1.keep (Chg.of_below (R := fun _ => False) hb8') (fun _ _ _ => id)
              have hcbl : cb < wq.heap.size := by
                obtain ⟨es, q1, _, _⟩ := HI.out.2.2.1
                exact q1.hd.lt
              have H8 := Lib.hid (And.intro hsd (And.intro hb8' hs8))
              have hsq := sQ_ok hS bb
              have hbdC : ∀ x ∈ C, 0 ≤ x ∧ x < 5000000000 := fun x hx => by have h1 := HI.out.1.2 x hx; have h2 := hS.top; omega
              have hbdS : ∀ x ∈ sQ lo hi bb, 0 ≤ x ∧ x < 5000000000 := fun x hx => by have h1 := hsq.1.2 x hx; have h2 := hS.top; omega
              have hsl := hsq.2.2
              have HBD := Lib.hid (And.intro hbdC (And.intro hbdS hsq))
              clear hsd hb8 hb8' hs8 d0 d1 hlb hbdC hbdS hsq
              go_wp2_with fail
              go_at_call 15
              refine (len_any w8 cb lo hi cm st C _ H8.out.2.2).mono ?_
              rintro e wt ⟨rfl, rfl⟩
              go_wp2_with fail
              go_at_call 15
              refine (len_any _ db lo hi cd sd (sQ lo hi bb) _ H8.out.1).mono ?_
              rintro e wt ⟨rfl, rfl⟩
              have m1 : IntKind.i64.wrap ((C.length : Int) + ((sQ lo hi bb).length : Int)) = (C.length : Int) + ((sQ lo hi bb).length : Int) := by rw [IntKind.wrap_i64]; omega
              have m2 : IntKind.i64.wrap (2 * ((C.length : Int) + ((sQ lo hi bb).length : Int))) = 2 * ((C.length : Int) + ((sQ lo hi bb).length : Int)) := by rw [IntKind.wrap_i64]; omega
              have m3 : IntKind.i64.wrap (2 + 2 * ((C.length : Int) + ((sQ lo hi bb).length : Int))) = 2 + 2 * ((C.length : Int) + ((sQ lo hi bb).length : Int)) := by rw [IntKind.wrap_i64]; omega
              go_wp2_with fail
              go_at_call 18
              refine (merge_any _ cb db lo hi cm st cd sd C (sQ lo hi bb) _ (fun b => wq.drew.heap.size ≤ b) H8.out.2.2 H8.out.1 (fun h => by have : wq.heap.size ≤ cb := h; omega) ⟨by omega, by omega⟩ (by omega) (by omega) (by omega) HBD.out.1 HBD.out.2.1).mono ?_
              rintro e w9 ⟨rfl, hs9, hc9⟩
              have hml := mergeC_len _ [] C (sQ lo hi bb) rfl
              have h8s := H8.out.2.1.size
              have HP := Lib.hid (show SpC w5 cb lo hi k st (2 + 2 * ((C.length : Int) + ((sQ lo hi bb).length : Int))) w9 from ⟨_, cm, _, cok_merge HI.out.1 HBD.out.2.2.1, by simp at hml; omega, hs9.mono fun b _ h => by rcases h with h | h; subst h; exact hcb; omega, by omega, by push_cast; omega, by push_cast; omega, (HI.out.2.2.2.1.trans (H8.out.2.1.mono hsz)).trans (hc9.below (by omega) fun k hk h => by omega)⟩)
              clear hs9 hc9
              go_wp2_with fail
              go_meet
              exact ⟨_, rfl, by omega, HP.out⟩
        case rest =>
          obtain ⟨mm, rfl, hmm, C', cm', st', hok', hlen', hset', hcm', hst', hst2, hb'⟩ := hcut
          have HS := Lib.hid (And.intro hok' (And.intro hlen' (And.intro hset' hb')))
          clear hok' hlen' hset' hb' hcell hcell2 hgr w3' x0
          go_wp2_with fail
          go_at_call 22
          refine (steps_any wc cb lo hi cm' st' C' _ HS.out.2.2.1).mono ?_
          rintro e wt ⟨rfl, rfl⟩
          have n1 : ¬ st' < st := by omega
          have n2 : IntKind.i64.wrap (st' - st) = st' - st := by rw [IntKind.wrap_i64]; omega
          have n3 : ¬ mm < st' - st := by omega
          go_wp2_with fail
          go_at_call 22
          refine (steps_any _ cb lo hi cm' st' C' _ HS.out.2.2.1).mono ?_
          rintro e wt2 ⟨rfl, rfl⟩
          have HP := Lib.hid (show SpI w5 cb lo hi l (l.length - (k + 1)) (.int .i64 ((k : Int) + 1)) wt2 from ⟨k + 1, C', cm', st', by push_cast; rfl, rfl, HI.out.2.2.2.2.2, HS.out.1, HS.out.2.1, HS.out.2.2.1, by push_cast; omega, by push_cast; omega, HS.out.2.2.2⟩)
          go_wp2_with fail
          go_roundw
          case rel => exact ⟨_, HP.out⟩
          case measure =>
            rw [HQ.out]
            exact Nat.lt_of_le_of_lt ((leastOf_spec ⟨_, HP.out⟩).2 _ HP.out) (by have := HI.out.2.2.2.2.2; omega)
      · have t2 : ¬ (k : Int) < (l.length : Int) := by omega
        have HB := Lib.hid (H5.out.2.trans (hb.mono H5.out.2.size))
        clear hb hok hlen hset
        go_wp2_with fail
        go_ret
        exact ⟨rfl, HB.out⟩

end Go.Proofs.Ytkkmopcmilgdoaa
