/- The walk of the statement CsetMerges: called with a scope's numbers and two lists of small calls it returns true and changes nothing that was there.
   Conditions: the numbers are of their kinds, the lists are in memory. -/
import Derived.Test.YtkkmopcmilgdoaaKsO
namespace Go.Proofs.Ytkkmopcmilgdoaa
open Go.RowKit

theorem dsc_ext {a b : List Int} (ha : Dsc a) (hb : Dsc b) (h : ∀ x, x ∈ a ↔ x ∈ b) : a = b := by
  have := asc_ext (rev_asc ha) (rev_asc hb) fun x => by rw [List.mem_reverse, List.mem_reverse, h]
  exact List.reverse_inj.1 this
theorem merge_comm {a b : List Int} (ha : Dsc a) (hb : Dsc b) : mergeC [] a b = mergeC [] b a := by
  obtain ⟨h1, h2⟩ := merge_spec ha hb
  obtain ⟨h3, h4⟩ := merge_spec hb ha
  exact dsc_ext h1 h3 fun x => by rw [h2, h4, or_comm]
theorem merge_self {a : List Int} (ha : Dsc a) : mergeC [] a a = a := by
  obtain ⟨h1, h2⟩ := merge_spec ha ha
  exact dsc_ext h1 ha fun x => by rw [h2, or_self]
/-- Two sets and a list, all apart; the sets above B. -/
def TwoS (w : World) (B cb db : Nat) (lo hi : Int) (C D : List Int) (v : Value) (L : List Int) (m : Int) : Prop :=
  ∃ (G1 G2 : Nat → Prop) (cm st dm dt : Int), SetC w cb lo hi C cm st G1 ∧ SetC w db lo hi D dm dt G2 ∧ (∀ k, G1 k → B ≤ k ∧ k < w.heap.size) ∧ (∀ k, G2 k → B ≤ k ∧ k < w.heap.size) ∧ (∀ k, G1 k → ¬ G2 k) ∧ RowI w (fun k => ¬ G1 k ∧ ¬ G2 k) v L ∧ ((0 ≤ cm ∧ cm ≤ m) ∧ (0 ≤ dm ∧ dm ≤ m)) ∧ ((0 ≤ st ∧ st ≤ 1000 * m) ∧ (0 ≤ dt ∧ dt ≤ 1000 * m))
theorem TwoS.swap {w : World} {B cb db : Nat} {lo hi m : Int} {C D L : List Int} {v : Value} (h : TwoS w B cb db lo hi C D v L m) : TwoS w B db cb lo hi D C v L m := by
  obtain ⟨G1, G2, cm, st, dm, dt, h1, h2, h3, h4, h5, h6, h7, h8⟩ := h
  exact ⟨G2, G1, dm, dt, cm, st, h2, h1, h4, h3, fun k h h' => h5 k h' h, h6.mono fun k h => ⟨h.2, h.1⟩, ⟨h7.2, h7.1⟩, ⟨h8.2, h8.1⟩⟩
theorem TwoS.below {w w' : World} {B cb db : Nat} {lo hi m : Int} {C D L : List Int} {v : Value} (h : TwoS w B cb db lo hi C D v L m) (hb : Below w.heap.size w w') : TwoS w' B cb db lo hi C D v L m := by
  obtain ⟨G1, G2, cm, st, dm, dt, h1, h2, h3, h4, h5, h6, h7, h8⟩ := h
  exact ⟨G1, G2, cm, st, dm, dt, h1.keep (Chg.of_below (R := fun _ => False) hb) (fun _ _ _ => id), h2.keep (Chg.of_below (R := fun _ => False) hb) (fun _ _ _ => id), fun k h => ⟨(h3 k h).1, Nat.lt_of_lt_of_le (h3 k h).2 hb.size⟩, fun k h => ⟨(h4 k h).1, Nat.lt_of_lt_of_le (h4 k h).2 hb.size⟩, h5, h6.below hb, h7, h8⟩
theorem TwoS.row {w w' : World} {B cb db : Nat} {lo hi m : Int} {C D L L' : List Int} {v v' : Value} (h : TwoS w B cb db lo hi C D v L m) (hb : Below w.heap.size w w') (hr : RowI w' (fun k => w.heap.size ≤ k) v' L') : TwoS w' B cb db lo hi C D v' L' m := by
  obtain ⟨G1, G2, cm, st, dm, dt, h1, h2, h3, h4, h5, h6, h7, h8⟩ := h
  refine ⟨G1, G2, cm, st, dm, dt, h1.keep (Chg.of_below (R := fun _ => False) hb) (fun _ _ _ => id), h2.keep (Chg.of_below (R := fun _ => False) hb) (fun _ _ _ => id), fun k h => ⟨(h3 k h).1, Nat.lt_of_lt_of_le (h3 k h).2 hb.size⟩, fun k h => ⟨(h4 k h).1, Nat.lt_of_lt_of_le (h4 k h).2 hb.size⟩, h5, hr.mono fun k hk => ⟨fun q => ?_, fun q => ?_⟩, h7, h8⟩
  · have := (h3 k q).2; omega
  · have := (h4 k q).2; omega
/-- The first set is another behind a call of its own. -/
theorem two_op {w w' : World} {B cb db : Nat} {lo hi m m' cm' st' dm dt : Int} {C' D L : List Int} {v : Value} {G1 G2 : Nat → Prop} (h2 : SetC w db lo hi D dm dt G2) (h3 : ∀ k, G1 k → B ≤ k ∧ k < w.heap.size) (h4 : ∀ k, G2 k → B ≤ k ∧ k < w.heap.size) (h5 : ∀ k, G1 k → ¬ G2 k) (h6 : RowI w (fun k => ¬ G1 k ∧ ¬ G2 k) v L) (hs : SetC w' cb lo hi C' cm' st' (fun k => G1 k ∨ w.heap.size ≤ k)) (hc : Chg G1 w w') (hB : B ≤ w.heap.size)
    (hm : m ≤ m') (h7 : 0 ≤ cm' ∧ cm' ≤ m') (h8 : 0 ≤ st' ∧ st' ≤ 1000 * m') (h9 : 0 ≤ dm ∧ dm ≤ m) (h10 : 0 ≤ dt ∧ dt ≤ 1000 * m) : TwoS w' B cb db lo hi C' D v L m' ∧ Below B w w' := by
  refine ⟨⟨fun k => (G1 k ∨ w.heap.size ≤ k) ∧ k < w'.heap.size, G2, cm', st', dm, dt, hs.mono fun k hk h => ⟨h, hk⟩, h2.keep hc fun k _ h q => h5 k q h, fun k h => ⟨?_, h.2⟩, fun k h => ⟨(h4 k h).1, Nat.lt_of_lt_of_le (h4 k h).2 hc.size⟩, fun k h q => ?_, h6.keep hc (fun k _ h => h.1) (fun k hk h => ⟨fun q => ?_, h.2⟩), ⟨h7, by omega⟩, ⟨h8, by omega⟩⟩, hc.below hB fun k hk q => ?_⟩
  · rcases h.1 with h | h
    · exact (h3 k h).1
    · omega
  · rcases h.1 with h | h
    · exact h5 k h q
    · have := (h4 k q).2; omega
  · rcases q.1 with q | q
    · exact h.1 q
    · omega
  · have := (h3 k q).1; omega
theorem TwoS.lt {w : World} {B cb db : Nat} {lo hi m : Int} {C D L : List Int} {v : Value} (h : TwoS w B cb db lo hi C D v L m) : cb < w.heap.size ∧ db < w.heap.size := by
  obtain ⟨G1, G2, cm, st, dm, dt, h1, h2, _⟩ := h
  exact ⟨h1.lt, h2.lt⟩
/-- What another set has is put in. -/
theorem two_merge (w : World) (B cb db eb : Nat) (lo hi m em et : Int) (C D E L : List Int) (v : Value) (K : Nat → Prop) (h : TwoS w B cb db lo hi C D v L m) (he : SetC w eb lo hi E em et K) (hK : ¬ K cb) (hl : C.length < 300 ∧ E.length < 300) (hm : 0 ≤ m ∧ m < 100000) (hem : 0 ≤ em ∧ em < 100000) (hC : Cok lo hi C) (hE : Cok lo hi E) (hS : ScOk lo hi) (hB : B ≤ w.heap.size) :
    Calls Try.prog 18 #[.pointer (some ⟨cb, 0, none⟩), .pointer (some ⟨eb, 0, none⟩)] w fun e w' => e = .returned (.tuple #[]) ∧ TwoS w' B cb db lo hi (mergeC [] C E) D v L (m + 1) ∧ Below B w w' := by
  obtain ⟨G1, G2, cm, st, dm, dt, h1, h2, h3, h4, h5, h6, h7, h8⟩ := h
  refine (merge_any w cb eb lo hi cm st em et C E G1 K h1 he hK ⟨by omega, by omega⟩ (by omega) (by omega) (by omega) (fun x hx => by have h1 := hC.2 x hx; have h2 := hS.top; omega) (fun x hx => by have h1 := hE.2 x hx; have h2 := hS.top; omega)).mono ?_
  rintro e w' ⟨rfl, hs, hc⟩
  exact ⟨rfl, two_op h2 h3 h4 h5 h6 (hs.mono fun k _ q => by
    rcases q with rfl | q
    · exact .inl h1.has
    · exact .inr q) (hc.mono fun k _ e => by subst e; exact h1.has) hB (by omega) (by omega) (by push_cast; omega) h7.2 h8.2⟩
/-- What the second set has is put in. -/
theorem two_both (w : World) (B cb db : Nat) (lo hi m : Int) (C D L : List Int) (v : Value) (h : TwoS w B cb db lo hi C D v L m) (hl : C.length < 300 ∧ D.length < 300) (hm : 0 ≤ m ∧ m < 100000) (hC : Cok lo hi C) (hD : Cok lo hi D) (hS : ScOk lo hi) (hB : B ≤ w.heap.size) :
    Calls Try.prog 18 #[.pointer (some ⟨cb, 0, none⟩), .pointer (some ⟨db, 0, none⟩)] w fun e w' => e = .returned (.tuple #[]) ∧ TwoS w' B cb db lo hi (mergeC [] C D) D v L (m + 1) ∧ Below B w w' := by
  have h' := h
  obtain ⟨G1, G2, cm, st, dm, dt, h1, h2, h3, h4, h5, h6, h7, h8⟩ := h'
  exact two_merge w B cb db db lo hi m dm dt C D D L v G2 h h2 (h5 cb h1.has) hl hm (by omega) hC hD hS hB
theorem two_next (w : World) (B cb db : Nat) (lo hi m : Int) (C D L : List Int) (v : Value) (h : TwoS w B cb db lo hi C D v L m) (hl : C.length < 300) (hm : 0 ≤ m ∧ m < 100000) (hC : Cok lo hi C) (hS : ScOk lo hi) (hB : B ≤ w.heap.size) :
    Calls Try.prog 12 #[.pointer (some ⟨cb, 0, none⟩)] w fun e w' => e = .returned (.tuple #[]) ∧ TwoS w' B cb db lo hi (nextQ lo hi C) D v L (m + 1) ∧ Below B w w' := by
  obtain ⟨G1, G2, cm, st, dm, dt, h1, h2, h3, h4, h5, h6, h7, h8⟩ := h
  refine (next_any w cb lo hi cm st C G1 h1 hS hC (by omega) (by omega) (by omega)).mono ?_
  rintro e w' ⟨rfl, cm', st', m1, m2, s1, s2, hs, hc⟩
  exact ⟨rfl, two_op h2 h3 h4 h5 h6 hs hc hB (by omega) (by omega) (by omega) h7.2 h8.2⟩

theorem countsT (w : World) (B cb db : Nat) (lo hi m : Int) (C D L : List Int) (v : Value) (h : TwoS w B cb db lo hi C D v L m) (hL : C.length < 1000000) (hC : ∀ x ∈ C, -10000000000 ≤ x ∧ x < 10000000000) :
    Calls Try.prog 13 #[.pointer (some ⟨cb, 0, none⟩)] w fun e w' => ∃ v', e = .returned v' ∧ TwoS w' B cb db lo hi C D v' C.reverse m ∧ Below w.heap.size w w' := by
  have h' := h
  obtain ⟨G1, G2, a1, a2, a3, a4, k1, _⟩ := h'
  refine (countsS_any w cb lo hi a1 a2 C G1 k1 hL hC).mono ?_
  rintro e w' ⟨v', rfl, q1, q2⟩
  exact ⟨v', rfl, h.row q2 q1, q2⟩

set_option maxHeartbeats 8000000 in
set_option maxRecDepth 100000 in
theorem merges9_walk (w : World) (low span : Int) (op : Bool) (v1 v2 : Value) (l1 l2 : List Nat) (hl1 : BytR w v1 l1) (hl2 : BytR w v2 l2) (hn1 : l1.length ≤ maxLen) (hn2 : l2.length ≤ maxLen) (h1 : 0 ≤ low ∧ low < 4294967296) (h2 : 0 ≤ span ∧ span < 4294967296) :
    Calls Try.prog 7 #[.agg #[.int .u32 low, .int .u32 span, .bool op], v1, v2] w fun e w' => e = .returned (.bool true) ∧ Below w.heap.size w w' := by
  have hnb : Below w.heap.size w (w.alloc (.cells #[.int .u32 low, .int .u32 span, .bool op] 24)) := (Below.refl _ w).alloc (Nat.le_refl _) _
  have H1 := Lib.hid (And.intro (heap_alloc_new w (.cells #[.int .u32 low, .int .u32 span, .bool op] 24)) hnb)
  have HL := Lib.hid (And.intro hl1 (And.intro hl2 (And.intro hn1 hn2)))
  obtain ⟨A1, c1, rfl, hr1⟩ := hl1
  obtain ⟨A2, c2, rfl, hr2⟩ := hl2
  have z1 : (0 : Int) ≤ (l1.length : Int) := by omega
  have z2 : (0 : Int) ≤ (l2.length : Int) := by omega
  clear hnb hn1 hn2 hr1 hr2
  go_enter Try.func7, Try.ntmps7
  go_upto_region 1 with fail
  generalize w.alloc (.cells #[.int .u32 low, .int .u32 span, .bool op] 24) = w1 at *
  have fin : l1.length ≤ 40 ∧ l2.length ≤ 40 ∨ ¬ (l1.length ≤ 40 ∧ l2.length ≤ 40) := Classical.em _
  rcases fin with hsm | hsm
  · have y1 : ¬ (40 : Int) < (l1.length : Int) := by omega
    have y2 : ¬ (40 : Int) < (l2.length : Int) := by omega
    go_wp2_with fail
    go_at_call 8
    refine (awake9_any w1).mono ?_
    rintro e w3 ⟨rfl, hb3⟩
    have hq := (hb3.block _ (Array.getElem?_eq_some_iff.1 H1.out.1).1).trans H1.out.1
    obtain ⟨q, _⟩ := row_cells hq
    have d0 := q 0
    have d1 := q 1
    have d2 := q 2
    have hlt := (Array.getElem?_eq_some_iff.1 hq).1
    simp only [List.getElem?_toArray, List.getElem?_cons_zero, List.getElem?_cons_succ] at d0 d1 d2
    have H3 := Lib.hid (show Below w.heap.size w w3 from H1.out.2.trans (hb3.mono H1.out.2.size))
    clear hb3 hq q
    go_wp2_with fail
    go_at_call 9
    refine (scopeR_any w3 low span op h1 h2).mono ?_
    rintro e w4 ⟨lo, hi, rfl, hS, hb4⟩
    have H4 := Lib.hid (H3.out.trans (hb4.mono H3.out.size))
    clear hb4 d0 d1 d2 hlt
    go_wp2_with fail
    have H5 := Lib.hid (show Below w.heap.size w (w4.alloc (.cells #[.int .i64 lo, .int .i64 hi] 28)) from H4.out.alloc H4.out.size _)
    have HSB := Lib.hid (heap_alloc_new w4 (.cells #[.int .i64 lo, .int .i64 hi] 28))
    generalize w4.alloc (.cells #[.int .i64 lo, .int .i64 hi] 28) = w5 at *
    have hsb : w5.heap[w4.heap.size]? = some (.cells #[.int .i64 lo, .int .i64 hi] 28 (0, 0)) := HSB.out
    obtain ⟨d0, d1⟩ := cellsS2 hsb
    have hlb := (Array.getElem?_eq_some_iff.1 hsb).1
    generalize w4.heap.size = sb at *
    have HF := Lib.hid (show ∀ W, Below w5.heap.size w5 W → (W.cell? ⟨sb, 0, none⟩ = some (.int .i64 lo) ∧ W.cell? ⟨sb, 1, none⟩ = some (.int .i64 hi)) ∧ sb < W.heap.size ∧ BytR W (.slice A1 l1.length c1) l1 ∧ BytR W (.slice A2 l2.length c2) l2 from fun W hW => by
      have hwW := H5.out.trans (hW.mono H5.out.size)
      exact ⟨⟨(hW.cell (p := ⟨sb, 0, none⟩) hlb).trans d0, (hW.cell (p := ⟨sb, 1, none⟩) hlb).trans d1⟩, Nat.lt_of_lt_of_le hlb hW.size, HL.out.1.below hwW, HL.out.2.1.below hwW⟩)
    clear hsb
    go_region_law (first
      | (go_simp; go_at_call 17; (with_reducible refine (small_any _ (.slice A1 l1.length c1) lo hi l1 (HF.out _ ?_).2.2.1 hS (by omega)).mono ?_); (first | exact Below.refl _ _ | exact (Below.refl _ _).drew); rintro e w6 ⟨cb, rfl, hs6⟩; have hb6 := hs6.choose_spec.choose_spec.2.2.2.2; have HB6 := Lib.hid (show Below w5.heap.size w5 w6 from by first | exact bhop (Below.refl _ _).drew hb6 | exact hb6); obtain ⟨⟨d0, d1⟩, hlb, _⟩ := HF.out w6 HB6.out; have HS6 := Lib.hid hs6; clear hb6 hs6)
      | (go_simp; go_at_call 17; (with_reducible refine (small_any w6 (.slice A2 l2.length c2) lo hi l2 (HF.out _ HB6.out).2.2.2 hS (by omega)).mono ?_); rintro e w7 ⟨db, rfl, hs7⟩; have HS7 := Lib.hid hs7; clear hs7))
    all_goals
      obtain ⟨cm, st, hs6, hcm, hst, hcb, hb6⟩ := HS6.out
      obtain ⟨dm, dt, hs7, hdm, hdt, hdb, hb7⟩ := HS7.out
      have hX := sQ_ok hS l1
      have hY := sQ_ok hS l2
      have hT7 : TwoS w7 w5.heap.size cb db lo hi (sQ lo hi l1) (sQ lo hi l2) (.slice none 0 0) [] 1000 := ⟨fun k => w5.heap.size ≤ k ∧ k < w6.heap.size, fun k => w6.heap.size ≤ k ∧ k < w7.heap.size, cm, st, dm, dt, (hs6.mono fun k hk h => ⟨h, hk⟩).keep (Chg.of_below (R := fun _ => False) hb7) (fun _ _ _ => id), hs7.mono fun k hk h => ⟨h, hk⟩, fun k h => ⟨h.1, by have := hb7.size; omega⟩, fun k h => ⟨by have := HB6.out.size; omega, h.2⟩, fun k h h' => by omega, ⟨none, 0, rfl, fun i x hi => by simp at hi⟩, by omega, by omega⟩
      have hb57 : Below w5.heap.size w5 w7 := HB6.out.trans (hb7.mono HB6.out.size)
      obtain ⟨⟨e0, e1⟩, hle, _⟩ := HF.out w7 hb57
      have hsz57 := hb57.size
      have H7 := Lib.hid (And.intro hT7 (And.intro hb57 (And.intro hX hY)))
      have hlX := hX.2.2
      have hlY := hY.2.2
      clear hs6 hs7 hT7 hb6 hb7 hcm hst hdm hdt hcb hdb hX hY HS6 HS7 HB6 hb57
      clear d0 d1 hlb
      go_wp2_with fail
      go_at_call 17
      refine (small_any w7 (.slice A2 l2.length c2) lo hi l2 (HF.out _ H7.out.2.1).2.2.2 hS (by omega)).mono ?_
      rintro e w8 ⟨eb, rfl, em, et, hs8, hem, het, heb, hb8⟩
      have hb78 : Below w7.heap.size w7 w8 := hb8
      have hl7 := H7.out.1.lt
      have H8 := Lib.hid (And.intro (H7.out.1.below hb78) (And.intro hs8 (H7.out.2.1.trans (hb78.mono hsz57))))
      have hsz58 := H8.out.2.2.size
      clear hs8 hb8 hb78 e0 e1 hle
      go_wp2_with fail
      go_at_call 18
      refine (two_merge w8 w5.heap.size cb db eb lo hi 1000 em et _ _ _ _ _ (fun b => w7.heap.size ≤ b) H8.out.1 H8.out.2.1 (fun h => by have : w7.heap.size ≤ cb := h; omega) ⟨by omega, by omega⟩ (by omega) (by omega) H7.out.2.2.1.1 H7.out.2.2.2.1 hS hsz58).mono ?_
      rintro e w9 ⟨rfl, ht9, hb9⟩
      have hb59 := H8.out.2.2.trans hb9
      obtain ⟨⟨e0, e1⟩, hle, _⟩ := HF.out w9 hb59
      have H9 := Lib.hid (And.intro ht9 hb59)
      have hsz59 := hb59.size
      clear ht9 hb9 hb59
      go_wp2_with fail
      go_at_call 17
      refine (small_any w9 (.slice A1 l1.length c1) lo hi l1 (HF.out _ H9.out.2).2.2.1 hS (by omega)).mono ?_
      rintro e w10 ⟨fb, rfl, fm, ft, hs10, hfm, hft, hfb, hb10⟩
      have hb910 : Below w9.heap.size w9 w10 := hb10
      have hl9 := H9.out.1.lt
      have H10 := Lib.hid (And.intro (H9.out.1.below hb910).swap (And.intro hs10 (H9.out.2.trans (hb910.mono hsz59))))
      have hsz510 := H10.out.2.2.size
      clear hs10 hb10 hb910 e0 e1 hle
      go_wp2_with fail
      go_at_call 18
      refine (two_merge w10 w5.heap.size db cb fb lo hi _ fm ft _ _ _ _ _ (fun b => w9.heap.size ≤ b) H10.out.1 H10.out.2.1 (fun h => by have : w9.heap.size ≤ db := h; omega) ⟨by omega, by omega⟩ (by omega) (by omega) H7.out.2.2.2.1 H7.out.2.2.1.1 hS hsz510).mono ?_
      rintro e w11 ⟨rfl, ht11, hb11⟩
      obtain ⟨M, hM⟩ : ∃ M, M = mergeC [] (sQ lo hi l1) (sQ lo hi l2) := ⟨_, rfl⟩
      have hM2 : mergeC [] (sQ lo hi l2) (sQ lo hi l1) = M := by rw [hM]; exact merge_comm H7.out.2.2.2.1.1 H7.out.2.2.1.1.1
      have hMc : Cok lo hi M := by rw [hM]; exact cok_merge H7.out.2.2.1.1 H7.out.2.2.2.1
      have hMl : M.length ≤ 80 := by
        have := mergeC_len _ [] (sQ lo hi l1) (sQ lo hi l2) rfl
        rw [hM]
        simp at this
        omega
      have hNc := cok_next hS hMc
      have hNl := nextQ_len lo hi M
      have hMb : ∀ x ∈ M, -10000000000 ≤ x ∧ x < 10000000000 := fun x hx => by have h1 := hMc.2 x hx; have h2 := hS.top; omega
      have hNb : ∀ x ∈ nextQ lo hi M, -10000000000 ≤ x ∧ x < 10000000000 := fun x hx => by have h1 := hNc.2 x hx; have h2 := hS.top; omega
      rw [hM2, ← hM] at ht11
      have H11 := Lib.hid (And.intro ht11.swap (And.intro (H10.out.2.2.trans hb11) (And.intro hMc (And.intro hMb hNb))))
      have hsz511 := H11.out.2.1.size
      have hMM := merge_self hMc.1
      clear ht11 hb11 hM hM2 hMb hNb
      go_wp2_with fail
      go_at_call 13
      refine (countsT w11 w5.heap.size cb db lo hi _ M M [] _ H11.out.1 (by omega) H11.out.2.2.2.1).mono ?_
      rintro e w12 ⟨va, rfl, ht12, hb12⟩
      have H12 := Lib.hid (And.intro ht12 (H11.out.2.1.trans (hb12.mono hsz511)))
      have hsz512 := H12.out.2.size
      clear ht12 hb12
      go_wp2_with fail
      go_at_call 18
      refine (two_both w12 w5.heap.size cb db lo hi _ M M _ va H12.out.1 ⟨by omega, by omega⟩ (by omega) hMc hMc hS hsz512).mono ?_
      rintro e w13 ⟨rfl, ht13, hb13⟩
      rw [hMM] at ht13
      have H13 := Lib.hid (And.intro ht13 (H12.out.2.trans hb13))
      have hsz513 := H13.out.2.size
      clear ht13 hb13
      go_wp2_with fail
      go_at_call 12
      refine (two_next w13 w5.heap.size cb db lo hi _ M M _ va H13.out.1 (by omega) (by omega) hMc hS hsz513).mono ?_
      rintro e w14 ⟨rfl, ht14, hb14⟩
      have H14 := Lib.hid (And.intro ht14.swap (H13.out.2.trans hb14))
      have hsz514 := H14.out.2.size
      clear ht14 hb14
      go_wp2_with fail
      go_at_call 12
      refine (two_next w14 w5.heap.size db cb lo hi _ M (nextQ lo hi M) _ va H14.out.1 (by omega) (by omega) hMc hS hsz514).mono ?_
      rintro e w15 ⟨rfl, ht15, hb15⟩
      have H15 := Lib.hid (And.intro ht15.swap (H14.out.2.trans hb15))
      have hsz515 := H15.out.2.size
      clear ht15 hb15
      generalize nextQ lo hi M = Nx at *
      obtain ⟨G1, G2, a1, a2, a3, a4, k1, k2, _, _, _, k6, _⟩ := H15.out.1
      have HT := Lib.hid (show ∀ W, Below w15.heap.size w15 W → SetC W cb lo hi Nx a1 a2 G1 ∧ SetC W db lo hi Nx a3 a4 G2 ∧ RowI W (fun k => ¬ G1 k ∧ ¬ G2 k) va M.reverse from fun W hW => ⟨k1.keep (Chg.of_below (R := fun _ => False) hW) (fun _ _ _ => id), k2.keep (Chg.of_below (R := fun _ => False) hW) (fun _ _ _ => id), k6.below hW⟩)
      obtain ⟨b0, hb0⟩ : ∃ b0, b0 = decide (M.reverse = Nx.reverse) := ⟨_, rfl⟩
      have HB0 := Lib.hid hb0
      clear k1 k2 k6 hb0
      go_wp2_with fail
      go_at_call 23
      refine (clone_any w15 cb lo hi a1 a2 Nx G1 (HT.out _ (Below.refl _ _)).1 (by omega) hNc.1).mono ?_
      rintro e x1 ⟨ob, rfl, q1, q2⟩
      have X1 := Lib.hid (And.intro q1 q2)
      clear q1 q2
      go_wp2_with fail
      go_at_call 13
      refine (countsS_any x1 ob lo hi a1 a2 Nx _ X1.out.1 (by omega) H11.out.2.2.2.2).mono ?_
      rintro e x2 ⟨v2, rfl, q1, q2⟩
      have X2 := Lib.hid (And.intro q1 (bhop X1.out.2 q2))
      clear q1 q2
      go_wp2_with fail
      go_at_call 19
      refine (same_any x2 _ _ va v2 _ _ (HT.out _ X2.out.2).2.2 X2.out.1 (by simp; omega) (by simp; omega)).mono ?_
      rintro e x3 ⟨rfl, q2⟩
      rw [← HB0.out]
      have X3 := Lib.hid (bhop X2.out.2 q2)
      clear q2
      go_wp2_with fail
      go_at_call 13
      refine (countsS_any x3 db lo hi a3 a4 Nx _ (HT.out _ X3.out).2.1 (by omega) H11.out.2.2.2.2).mono ?_
      rintro e x4 ⟨v4, rfl, q1, q2⟩
      have X4 := Lib.hid (And.intro q1 (bhop X3.out q2))
      clear q1 q2
      go_wp2_with fail
      go_at_call 19
      refine (same_any x4 _ _ va v4 _ _ (HT.out _ X4.out.2).2.2 X4.out.1 (by simp; omega) (by simp; omega)).mono ?_
      rintro e x5 ⟨rfl, q2⟩
      rw [← HB0.out]
      have X5 := Lib.hid (bhop X4.out.2 q2)
      have hbb : (b0 == b0) = true := by simp
      clear q2
      go_wp2_with fail
      go_at_call 13
      refine (countsS_any x5 cb lo hi a1 a2 Nx _ (HT.out _ X5.out).1 (by omega) H11.out.2.2.2.2).mono ?_
      rintro e x6 ⟨v6, rfl, q1, q2⟩
      have X6 := Lib.hid (And.intro q1 (bhop X5.out q2))
      clear q1 q2
      go_wp2_with fail
      go_at_call 13
      refine (countsS_any x6 db lo hi a3 a4 Nx _ (HT.out _ X6.out.2).2.1 (by omega) H11.out.2.2.2.2).mono ?_
      rintro e x7 ⟨v7, rfl, q1, q2⟩
      have X7 := Lib.hid (And.intro q1 (And.intro (X6.out.1.below q2) (bhop X6.out.2 q2)))
      clear q1 q2
      go_wp2_with fail
      go_at_call 19
      refine (same_any x7 _ _ v6 v7 _ _ X7.out.2.1 X7.out.1 (by simp; omega) (by simp; omega)).mono ?_
      rintro e x8 ⟨rfl, q2⟩
      rw [decide_eq_true rfl]
      have HZ := Lib.hid (show Below w.heap.size w x8 from (H5.out.trans ((H15.out.2.trans ((bhop X7.out.2.2 q2).mono hsz515)).mono H5.out.size)))
      clear q2
      go_wp2_with fail
      go_ret
      exact ⟨rfl, HZ.out⟩
  · by_cases y1 : (40 : Int) < (l1.length : Int)
    · go_wp2_with fail
      go_at_call 8
      refine (awake9_any w1).mono ?_
      rintro e w3 ⟨rfl, hb3⟩
      have H3 := Lib.hid (show Below w.heap.size w w3 from H1.out.2.trans (hb3.mono H1.out.2.size))
      clear hb3
      go_wp2_with fail
      go_at_call 8
      refine (awake9_any w3).mono ?_
      rintro e w4 ⟨rfl, hb4⟩
      have H4 := Lib.hid (H3.out.trans (hb4.mono H3.out.size))
      clear hb4
      go_wp2_with fail
      go_ret
      exact ⟨rfl, H4.out⟩
    · have y2 : (40 : Int) < (l2.length : Int) := by omega
      go_wp2_with fail
      go_at_call 8
      refine (awake9_any w1).mono ?_
      rintro e w3 ⟨rfl, hb3⟩
      have H3 := Lib.hid (show Below w.heap.size w w3 from H1.out.2.trans (hb3.mono H1.out.2.size))
      clear hb3
      go_wp2_with fail
      go_at_call 8
      refine (awake9_any w3).mono ?_
      rintro e w4 ⟨rfl, hb4⟩
      have H4 := Lib.hid (H3.out.trans (hb4.mono H3.out.size))
      clear hb4
      go_wp2_with fail
      go_ret
      exact ⟨rfl, H4.out⟩
end Go.Proofs.Ytkkmopcmilgdoaa
