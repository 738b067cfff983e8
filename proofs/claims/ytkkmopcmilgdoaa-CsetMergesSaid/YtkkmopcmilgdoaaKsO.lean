/- The statements' lists of calls: whether they are few, and what the document has behind a call: contracts.
   Conditions: the calls are in memory. -/
import Derived.Test.YtkkmopcmilgdoaaKsD
namespace Go.Proofs.Ytkkmopcmilgdoaa
open Go.RowKit

theorem SetC.lt {w : World} {cb : Nat} {lo hi cm st : Int} {L : List Int} {G : Nat → Prop} (h : SetC w cb lo hi L cm st G) : cb < w.heap.size := by
  obtain ⟨es, h1, _, _⟩ := h
  exact h1.hd.lt
theorem SetC.has {w : World} {cb : Nat} {lo hi cm st : Int} {L : List Int} {G : Nat → Prop} (h : SetC w cb lo hi L cm st G) : G cb := by
  obtain ⟨es, _, _, h3⟩ := h
  exact h3 cb (.inl rfl)
theorem RowI.keep {R G G' : Nat → Prop} {w w' : World} {v : Value} {l : List Int} (h : RowI w G v l) (hc : Chg R w w') (hn : ∀ k, k < w.heap.size → G k → ¬ R k) (hG : ∀ k, k < w.heap.size → G k → G' k) : RowI w' G' v l := by
  obtain ⟨A, c, hv, hr⟩ := h
  refine ⟨A, c, hv, fun i x hi => ?_⟩
  obtain ⟨g, h1, h2, h3, h4⟩ := hr i x hi
  exact ⟨g, h1, hG g h3 h2, Nat.lt_of_lt_of_le h3 hc.size, (hc.cell i h3 (hn g h3 h2)).trans h4⟩
/-- Are the calls few? -/
def fewB (l : List (Nat × List Nat)) : Bool := decide ((l.length ≤ 120) ∧ ∀ q ∈ l, q.2.length ≤ 40)
/-- Ahead of a round. -/
def FwI (w : World) (l : List (Nat × List Nat)) (n : Nat) (i : Value) (wr : World) : Prop :=
  ∃ (k : Nat), i = .int .i64 (k : Int) ∧ n = l.length - k ∧ k ≤ l.length ∧ k ≤ 200 ∧ (∀ q ∈ l.take k, q.2.length ≤ 40) ∧ Below w.heap.size w wr
set_option maxHeartbeats 4000000 in
set_option maxRecDepth 100000 in
theorem few_any (w : World) (v : Value) (l : List (Nat × List Nat)) (h : OpsR w v l) :
    Calls Try.prog 16 #[v] w fun e w' => e = .returned (.bool (fewB l)) ∧ Below w.heap.size w w' := by
  obtain ⟨A, c, rfl, hrow⟩ := h
  have HR := Lib.hid hrow
  have hl0 : (0 : Int) ≤ (l.length : Int) := by omega
  clear hrow
  go_enter Try.func16, Try.ntmps16
  go_wp2_with fail
  go_loopw [3] (fun i wr => ∃ n, FwI w l n i wr) (fun i wr => leastOf (fun n => FwI w l n i wr))
  case atStart => exact ⟨_, 0, rfl, rfl, by omega, by omega, by simp, Below.refl _ _⟩
  case round =>
    have hls := (leastOf_spec hrel).1
    obtain ⟨k, rfl, hq, hk, hk2, hall, hb⟩ := hls
    have HQ := Lib.hid hq
    clear hrel hq
    have t1 : (0 : Int) ≤ (k : Int) := by omega
    by_cases hlt : k < l.length
    · have t2 : (k : Int) < (l.length : Int) := by omega
      by_cases hlt2 : k < 200
      · have t3 : (k : Int) < 200 := by omega
        obtain ⟨⟨kk, bb⟩, hx0⟩ : ∃ x, l[k]? = some x := ⟨_, List.getElem?_eq_getElem hlt⟩
        obtain ⟨_, hbl, g, o, bv, rfl, hg, _, hcell, hbv⟩ := HR.out k kk bb hx0
        obtain ⟨bA, bc, rfl, _⟩ := hbv
        rw [← hb.cell (p := ⟨g, o + k * 2 + 1, none⟩) hg] at hcell
        have hgr : g < wr.heap.size := by have := hb.size; omega
        have wk : IntKind.i64.wrap ((k : Int) + 1) = (k : Int) + 1 := by rw [IntKind.wrap_i64]; omega
        by_cases g4 : bb.length ≤ 40
        · have t4 : ¬ (40 : Int) < (bb.length : Int) := by omega
          have HP := Lib.hid (show FwI w l (l.length - (k + 1)) (.int .i64 ((k : Int) + 1)) wr from ⟨k + 1, by push_cast; rfl, rfl, by omega, by omega, fun q hq => by
            rw [List.take_add_one, hx0] at hq
            rcases List.mem_append.1 hq with hq | hq
            · exact hall q hq
            · simp at hq
              rw [hq]
              exact g4, hb⟩)
          have HL := Lib.hid hlt
          clear hall hb hlt
          go_wp2_with fail
          go_roundw
          case rel => exact ⟨_, HP.out⟩
          case measure =>
            rw [HQ.out]
            exact Nat.lt_of_le_of_lt ((leastOf_spec ⟨_, HP.out⟩).2 _ HP.out) (by have := HL.out; omega)
        · have t4 : (40 : Int) < (bb.length : Int) := by omega
          have HB := Lib.hid (And.intro (show fewB l = false from decide_eq_false fun h => g4 (h.2 _ (List.mem_of_getElem? hx0))) hb)
          clear hall hb
          go_wp2_with fail
          go_ret
          exact ⟨by rw [HB.out.1]; rfl, HB.out.2⟩
      · have t3 : ¬ (k : Int) < 200 := by omega
        have HB := Lib.hid (And.intro (show fewB l = false from decide_eq_false fun h => by omega) hb)
        clear hall hb
        have t5 : ¬ (l.length : Int) ≤ 120 := by omega
        go_wp2_with fail
        go_ret
        exact ⟨by rw [HB.out.1]; rfl, HB.out.2⟩
    · have t2 : ¬ (k : Int) < (l.length : Int) := by omega
      obtain rfl : k = l.length := by omega
      rw [List.take_length] at hall
      have HB := Lib.hid (And.intro (show fewB l = decide ((l.length : Int) ≤ 120) from by
        unfold fewB
        by_cases g : l.length ≤ 120
        · rw [decide_eq_true ⟨g, hall⟩, decide_eq_true (by omega)]
        · rw [decide_eq_false (fun h => g h.1), decide_eq_false (by omega)]) hb)
      clear hall hb
      go_wp2_with fail
      go_ret
      exact ⟨by rw [HB.out.1]; rfl, HB.out.2⟩

/-- The document's counts behind a call. -/
def dR (lo hi : Int) (L : List Int) (q : Nat × List Nat) : List Int := if q.1 % 3 = 0 then pR L 1 else if q.1 % 3 = 1 then nR lo hi L else (tR lo hi q.2).foldl pR L
/-- .. the program's. -/
def dQ (lo hi : Int) (C : List Int) (q : Nat × List Nat) : List Int := if q.1 % 3 = 0 then putM C 1 else if q.1 % 3 = 1 then nextQ lo hi C else mergeC [] C (sQ lo hi q.2)
theorem dQ_ok {lo hi : Int} {C : List Int} (hS : ScOk lo hi) (h : Cok lo hi C) (q : Nat × List Nat) : Cok lo hi (dQ lo hi C q) ∧ (dQ lo hi C q).reverse = dR lo hi C.reverse q ∧ (dQ lo hi C q).length ≤ C.length + 1 + q.2.length := by
  unfold dQ dR
  obtain ⟨s1, s2, s3⟩ := sQ_ok hS q.2
  by_cases g : q.1 % 3 = 0
  · rw [if_pos g, if_pos g]
    have := putM_len C 1
    exact ⟨cok_put hS h, put_rev h.1 fun x hx => (h.2 x hx).1, by omega⟩
  · rw [if_neg g, if_neg g]
    by_cases g2 : q.1 % 3 = 1
    · rw [if_pos g2, if_pos g2]
      have := nextQ_len lo hi C
      exact ⟨cok_next hS h, next_rev hS h, by omega⟩
    · rw [if_neg g2, if_neg g2]
      have := mergeC_len _ [] C (sQ lo hi q.2) rfl
      simp at this
      exact ⟨cok_merge h s1, by rw [merge_rev h.1 s1.1, s2], by omega⟩
/-- Ahead of a round. -/
def DoI (w : World) (G : Nat → Prop) (L m : List Int) (n : Nat) (o i : Value) (wr : World) : Prop :=
  ∃ (k : Nat), i = .int .i64 (k : Int) ∧ n = m.length - k ∧ k ≤ m.length ∧ RowI wr (fun b => G b ∨ w.heap.size ≤ b) o ((m.take k).foldl pR L) ∧ ((m.take k).foldl pR L).length ≤ L.length + k ∧ Below w.heap.size w wr
set_option maxHeartbeats 4000000 in
set_option maxRecDepth 100000 in
theorem doR_any (w : World) (G : Nat → Prop) (v bv : Value) (lo hi : Int) (L : List Int) (k : Nat) (b : List Nat) (h : RowI w G v L) (hB : BytR w bv b) (hS : ScOk lo hi) (hL : L.length < 50000) (hb : b.length ≤ 1000) (hk : k < 256) (hx : ∀ x ∈ L, -10000000000 ≤ x ∧ x < 10000000000) :
    Calls Try.prog 21 #[.agg #[.int .i64 lo, .int .i64 hi], v, .agg #[.int .u8 (k : Int), bv]] w fun e w' => ∃ v', e = .returned v' ∧ RowI w' (fun x => G x ∨ w.heap.size ≤ x) v' (dR lo hi L (k, b)) ∧ Below w.heap.size w w' := by
  have x0 : (0 : Int) ≤ (k : Int) := by omega
  have w3 : IntKind.u8.wrap ((k : Int) % 3) = (k : Int) % 3 := by rw [IntKind.wrap_u8]; omega
  have HH := Lib.hid (And.intro h (And.intro hB (And.intro hS (And.intro hx (And.intro hL hb)))))
  clear h hB hx
  by_cases g : k % 3 = 0
  · have g' : ((k : Int) % 3 == 0) = true := by simp; omega
    have hd : dR lo hi L (k, b) = pR L 1 := if_pos g
    rw [hd]
    go_enter Try.func21, Try.ntmps21
    have HA := Lib.hid (show Below w.heap.size w ((w.alloc (.cells #[.int .i64 lo, .int .i64 hi] 28)).alloc (.cells #[.int .u8 (k : Int), bv] 40)) from ((Below.refl _ w).alloc (Nat.le_refl _) _).alloc (by simp) _)
    go_wp2_with fail
    generalize (w.alloc (.cells #[.int .i64 lo, .int .i64 hi] 28)).alloc (.cells #[.int .u8 (k : Int), bv] 40) = w1 at *
    go_at_call 29
    refine (putR_any w1 G v L 1 (HH.out.1.below HA.out) (by omega)).mono ?_
    rintro e w2 ⟨v2, rfl, ho2, hb2⟩
    have HB := Lib.hid (And.intro ho2.row (HA.out.trans (hb2.mono HA.out.size)))
    clear ho2 hb2
    go_wp2_with fail
    go_ret
    exact ⟨_, rfl, HB.out.1.mono fun x hx => .inr (by have := HA.out.size; have : w1.heap.size ≤ x := hx; omega), HB.out.2⟩
  · by_cases g2 : k % 3 = 1
    · have g' : ((k : Int) % 3 == 0) = false := by simp; omega
      have g2' : ((k : Int) % 3 == 1) = true := by simp; omega
      have hd : dR lo hi L (k, b) = nR lo hi L := by unfold dR; rw [if_neg g, if_pos g2]
      rw [hd]
      go_enter Try.func21, Try.ntmps21
      have HA := Lib.hid (show Below w.heap.size w ((w.alloc (.cells #[.int .i64 lo, .int .i64 hi] 28)).alloc (.cells #[.int .u8 (k : Int), bv] 40)) from ((Below.refl _ w).alloc (Nat.le_refl _) _).alloc (by simp) _)
      go_wp2_with fail
      generalize (w.alloc (.cells #[.int .i64 lo, .int .i64 hi] 28)).alloc (.cells #[.int .u8 (k : Int), bv] 40) = w1 at *
      go_at_call 30
      refine (nextR_any w1 G v lo hi L (HH.out.1.below HA.out) (by omega) HH.out.2.2.2.1).mono ?_
      rintro e w2 ⟨v2, rfl, ho2, hb2⟩
      have HB := Lib.hid (And.intro ho2 (HA.out.trans (hb2.mono HA.out.size)))
      clear ho2 hb2
      go_wp2_with fail
      go_ret
      exact ⟨_, rfl, HB.out.1.mono fun x hx => .inr (by have := HA.out.size; have : w1.heap.size ≤ x := hx; omega), HB.out.2⟩
    · have g' : ((k : Int) % 3 == 0) = false := by simp; omega
      have g2' : ((k : Int) % 3 == 1) = false := by simp; omega
      have hd : dR lo hi L (k, b) = (tR lo hi b).foldl pR L := by unfold dR; rw [if_neg g, if_neg g2]
      rw [hd]
      go_enter Try.func21, Try.ntmps21
      have HA := Lib.hid (show Below w.heap.size w ((w.alloc (.cells #[.int .i64 lo, .int .i64 hi] 28)).alloc (.cells #[.int .u8 (k : Int), bv] 40)) from ((Below.refl _ w).alloc (Nat.le_refl _) _).alloc (by simp) _)
      go_wp2_with fail
      generalize (w.alloc (.cells #[.int .i64 lo, .int .i64 hi] 28)).alloc (.cells #[.int .u8 (k : Int), bv] 40) = w1 at *
      go_at_call 20
      refine (smallR_any w1 bv lo hi b (HH.out.2.1.below HA.out) HH.out.2.2.1 HH.out.2.2.2.2.2).mono ?_
      rintro e w2 ⟨v2, rfl, ho2, hb2⟩
      have hml : (tR lo hi b).length ≤ 1000 := by
        have := sQ_ok HH.out.2.2.1 b
        rw [← this.2.1, List.length_reverse]
        have := HH.out.2.2.2.2.2
        omega
      obtain ⟨mA, mc, rfl, hm⟩ := ho2
      have HB := Lib.hid (And.intro hm (And.intro (HA.out.trans (hb2.mono HA.out.size)) hml))
      have hm0 : (0 : Int) ≤ ((tR lo hi b).length : Int) := by omega
      clear hb2 hm
      go_wp2_with fail
      go_loopw [1, 8] (fun o i wr => ∃ n, DoI w2 G L (tR lo hi b) n o i wr) (fun o i wr => leastOf (fun n => DoI w2 G L (tR lo hi b) n o i wr))
      case atStart => exact ⟨_, 0, rfl, rfl, by omega, (HH.out.1.below HB.out.2.1).mono fun _ h => .inl h, by simp, Below.refl _ _⟩
      case round =>
        have hls := (leastOf_spec hrel).1
        obtain ⟨j, rfl, hq, hj, hrow, hlen, hb⟩ := hls
        have HQ := Lib.hid hq
        clear hrel hq
        have t1 : (0 : Int) ≤ (j : Int) := by omega
        by_cases hlt : j < (tR lo hi b).length
        · have t2 : (j : Int) < ((tR lo hi b).length : Int) := by omega
          obtain ⟨x, hx0⟩ : ∃ x, (tR lo hi b)[j]? = some x := ⟨_, List.getElem?_eq_getElem hlt⟩
          obtain ⟨gb, rfl, hgw, hg, hcell⟩ := HB.out.1 j x hx0
          rw [← hb.cell (p := ⟨gb, j, none⟩) hg] at hcell
          have hgr : gb < wr.heap.size := by have := hb.size; omega
          have wj : IntKind.i64.wrap ((j : Int) + 1) = (j : Int) + 1 := by rw [IntKind.wrap_i64]; omega
          have hl2 : (((tR lo hi b).take j).foldl pR L).length < 1000000 := by omega
          have HI := Lib.hid (And.intro hrow (And.intro hlen (And.intro hb (And.intro hx0 hlt))))
          clear hrow hlen hb hx0 hlt hj
          go_wp2_with fail
          go_at_call 29
          refine (putR_any wr _ _ _ x HI.out.1 hl2).mono ?_
          rintro e w4 ⟨v4, rfl, ho4, hb4⟩
          have HP := Lib.hid (show DoI w2 G L (tR lo hi b) ((tR lo hi b).length - (j + 1)) v4 (.int .i64 ((j : Int) + 1)) w4 from by
            have e1 : ((tR lo hi b).take (j + 1)).foldl pR L = pR (((tR lo hi b).take j).foldl pR L) x := by
              rw [take_snocI HI.out.2.2.2.1, List.foldl_append]
              rfl
            have hb := HI.out.2.2.1
            refine ⟨j + 1, by push_cast; rfl, rfl, HI.out.2.2.2.2, ?_, ?_, hb.trans (hb4.mono hb.size)⟩
            · rw [e1]
              exact ho4.row.mono fun y hy => .inr (by have : wr.heap.size ≤ y := hy; have := hb.size; omega)
            · rw [e1]
              have h1 := pR_len (((tR lo hi b).take j).foldl pR L) x
              have h2 := HI.out.2.1
              omega)
          clear ho4 hb4
          go_wp2_with fail
          go_roundw
          case rel => exact ⟨_, HP.out⟩
          case measure =>
            rw [HQ.out]
            exact Nat.lt_of_le_of_lt ((leastOf_spec ⟨_, HP.out⟩).2 _ HP.out) (by have := HI.out.2.2.2.2; omega)
        · have t2 : ¬ (j : Int) < ((tR lo hi b).length : Int) := by omega
          obtain rfl : j = (tR lo hi b).length := by omega
          rw [List.take_length] at hrow
          have HI := Lib.hid (And.intro hrow hb)
          clear hrow hb hlen
          go_wp2_with fail
          go_ret
          have h1 := HB.out.2.1.size
          exact ⟨_, rfl, HI.out.1.mono fun x hx => by
            rcases hx with hx | hx
            · exact .inl hx
            · exact .inr (by omega), HB.out.2.1.trans (HI.out.2.mono h1)⟩

end Go.Proofs.Ytkkmopcmilgdoaa
