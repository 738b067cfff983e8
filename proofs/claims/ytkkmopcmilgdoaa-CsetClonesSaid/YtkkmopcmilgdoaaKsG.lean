/- The statements' own sets: a set that small calls make, and the document's counts of it; that the program is awake: contracts.
   Conditions: the calls are in memory, and few. -/
import Derived.Test.YtkkmopcmilgdoaaKsE
namespace Go.Proofs.Ytkkmopcmilgdoaa
open Go.RowKit

/-- A list of bytes among the arguments. -/
def BytR (w : World) (v : Value) (l : List Nat) : Prop :=
  ∃ A c, v = .slice A l.length c ∧ ∀ (i x : Nat), l[i]? = some x → x < 256 ∧ ∃ g o, A = some ⟨g, o, none⟩ ∧ g < w.heap.size ∧ w.cell? ⟨g, o + i, none⟩ = some (.int .u8 (x : Int))
theorem BytR.below {w w' : World} {v : Value} {l : List Nat} (h : BytR w v l) (hb : Below w.heap.size w w') : BytR w' v l := by
  obtain ⟨A, c, hv, hr⟩ := h
  refine ⟨A, c, hv, fun i x hi => ?_⟩
  obtain ⟨hx, g, o, h1, h3, h4⟩ := hr i x hi
  exact ⟨hx, g, o, h1, Nat.lt_of_lt_of_le h3 hb.size, (hb.cell (p := ⟨g, o + i, none⟩) h3).trans h4⟩
/-- The counts that small calls make. -/
def sS (lo hi : Int) (L : List Int) (x : Nat) : List Int := if x % 3 = 0 then putM L 1 else nextQ lo hi L
def sQ (lo hi : Int) (l : List Nat) : List Int := l.foldl (sS lo hi) []
/-- .. by the document. -/
def tS (lo hi : Int) (L : List Int) (x : Nat) : List Int := if x % 3 = 0 then pR L 1 else nR lo hi L
def tR (lo hi : Int) (l : List Nat) : List Int := l.foldl (tS lo hi) []
theorem sS_ok {lo hi : Int} {L : List Int} (hS : ScOk lo hi) (h : Cok lo hi L) (x : Nat) : Cok lo hi (sS lo hi L x) ∧ (sS lo hi L x).reverse = tS lo hi L.reverse x ∧ (sS lo hi L x).length ≤ L.length + 1 := by
  unfold sS tS
  by_cases g : x % 3 = 0
  · rw [if_pos g, if_pos g]
    exact ⟨cok_put hS h, put_rev h.1 fun x hx => (h.2 x hx).1, putM_len _ _⟩
  · rw [if_neg g, if_neg g]
    exact ⟨cok_next hS h, next_rev hS h, by have := nextQ_len lo hi L; omega⟩
theorem sQ_fold {lo hi : Int} (hS : ScOk lo hi) : ∀ (l : List Nat) (L : List Int), Cok lo hi L → Cok lo hi (l.foldl (sS lo hi) L) ∧ (l.foldl (sS lo hi) L).reverse = l.foldl (tS lo hi) L.reverse ∧ (l.foldl (sS lo hi) L).length ≤ L.length + l.length
  | [], L, h => ⟨h, rfl, by simp⟩
  | x :: l, L, h => by
    obtain ⟨h1, h2, h3⟩ := sS_ok hS h x
    obtain ⟨h4, h5, h6⟩ := sQ_fold hS l _ h1
    simp only [List.foldl_cons]
    refine ⟨h4, by rw [h5, h2], ?_⟩
    simp only [List.length_cons]
    omega
theorem sQ_ok {lo hi : Int} (hS : ScOk lo hi) (l : List Nat) : Cok lo hi (sQ lo hi l) ∧ (sQ lo hi l).reverse = tR lo hi l ∧ (sQ lo hi l).length ≤ l.length := by
  have := sQ_fold hS l [] (cok_nil lo hi)
  simpa [sQ, tR] using this
theorem sQ_snoc {lo hi : Int} {l : List Nat} {k x : Nat} (h : l[k]? = some x) : sQ lo hi (l.take (k + 1)) = sS lo hi (sQ lo hi (l.take k)) x := by
  unfold sQ
  rw [List.take_add_one, h, List.foldl_append]
  rfl
theorem tR_snoc {lo hi : Int} {l : List Nat} {k x : Nat} (h : l[k]? = some x) : tR lo hi (l.take (k + 1)) = tS lo hi (tR lo hi (l.take k)) x := by
  unfold tR
  rw [List.take_add_one, h, List.foldl_append]
  rfl
/-- A set that was made of small calls. -/
def SmO (w w' : World) (lo hi : Int) (l : List Nat) (cb : Nat) : Prop :=
  ∃ cm st, SetC w' cb lo hi (sQ lo hi l) cm st (fun b => w.heap.size ≤ b) ∧ (0 ≤ cm ∧ cm ≤ 1000) ∧ (0 ≤ st ∧ st ≤ 2000) ∧ w.heap.size ≤ cb ∧ Below w.heap.size w w'
/-- Ahead of a round. -/
def SlI (w : World) (cb : Nat) (lo hi : Int) (l : List Nat) (n : Nat) (i : Value) (wr : World) : Prop :=
  ∃ (k : Nat) (cm st : Int), i = .int .i64 (k : Int) ∧ n = l.length - k ∧ k ≤ l.length ∧ SetC wr cb lo hi (sQ lo hi (l.take k)) cm st (fun b => w.heap.size ≤ b) ∧ 0 ≤ cm ∧ cm ≤ k ∧ 0 ≤ st ∧ st ≤ 2 * k ∧ Below w.heap.size w wr

theorem cellsS2 {w : World} {b : Nat} {a0 a1 : Value} {e : TypeId} (h : w.heap[b]? = some (.cells #[a0, a1] e (0, 0))) : w.cell? ⟨b, 0, none⟩ = some a0 ∧ w.cell? ⟨b, 1, none⟩ = some a1 :=
  ⟨(row_cells h).1 0, (row_cells h).1 1⟩
set_option maxHeartbeats 4000000 in
set_option maxRecDepth 100000 in
theorem small_any (w : World) (v : Value) (lo hi : Int) (l : List Nat) (h : BytR w v l) (hS : ScOk lo hi) (hL : l.length ≤ 1000) :
    Calls Try.prog 17 #[.agg #[.int .i64 lo, .int .i64 hi], v] w fun e w' => ∃ cb, e = .returned (.pointer (some ⟨cb, 0, none⟩)) ∧ SmO w w' lo hi l cb := by
  obtain ⟨A, c, rfl, hrow⟩ := h
  have HR := Lib.hid (And.intro hrow (And.intro hS hL))
  have hl0 : (0 : Int) ≤ (l.length : Int) := by omega
  have h1 := hS.1
  clear hrow
  go_enter Try.func17, Try.ntmps17
  have hb1 : Below w.heap.size w (w.alloc (.cells #[.int .i64 lo, .int .i64 hi] 28)) := (Below.refl _ w).alloc (Nat.le_refl _) _
  go_upto_region 1 with fail
  have HB1 := Lib.hid (And.intro (heap_alloc_new w (.cells #[.int .i64 lo, .int .i64 hi] 28)) hb1)
  clear hb1
  generalize w.alloc (.cells #[.int .i64 lo, .int .i64 hi] 28) = w1 at *
  have hltb := (Array.getElem?_eq_some_iff.1 HB1.out.1).1
  obtain ⟨q0, q1⟩ := cellsS2 HB1.out.1
  go_wp2_with fail
  go_at_call 10
  refine (new_any w1 lo hi h1).mono ?_
  rintro e w2 ⟨cb, rfl, hcb, hset, hb2⟩
  have hsz := HB1.out.2.size
  have H2 := Lib.hid (show SetC w2 cb lo hi [] 0 0 (fun b => w.heap.size ≤ b) ∧ w.heap.size ≤ cb ∧ Below w.heap.size w w2 from ⟨hset.mono fun k _ hk => by have : w1.heap.size ≤ k := hk; omega, by omega, HB1.out.2.trans (hb2.mono hsz)⟩)
  clear hset hb2 q0 q1 hltb hsz hcb
  go_wp2_with fail
  go_loopw [6] (fun i wr => ∃ n, SlI w cb lo hi l n i wr) (fun i wr => leastOf (fun n => SlI w cb lo hi l n i wr))
  case atStart => exact ⟨_, 0, 0, 0, rfl, rfl, by omega, H2.out.1, by omega, by omega, by omega, by omega, H2.out.2.2⟩
  case round =>
    have hls := (leastOf_spec hrel).1
    obtain ⟨k, cm, st, rfl, hq, hk, hset, hcm0, hcm1, hst0, hst1, hb⟩ := hls
    have HQ := Lib.hid hq
    clear hrel hq
    have hok := sQ_ok HR.out.2.1 (l.take k)
    have hll : (sQ lo hi (l.take k)).length ≤ 1000 := by
      have h1 := hok.2.2
      have h2 := HR.out.2.2
      simp at h1
      omega
    by_cases hlt : k < l.length
    · obtain ⟨x, hx0⟩ : ∃ x, l[k]? = some x := ⟨_, List.getElem?_eq_getElem hlt⟩
      obtain ⟨hx8, g, o, rfl, hg, hcell⟩ := HR.out.1 k x hx0
      rw [← hb.cell (p := ⟨g, o + k, none⟩) hg] at hcell
      have hgr : g < wr.heap.size := by have := hb.size; omega
      have t1 : (0 : Int) ≤ (k : Int) := by omega
      have t2 : (k : Int) < (l.length : Int) := by omega
      have wk : IntKind.i64.wrap ((k : Int) + 1) = (k : Int) + 1 := by rw [IntKind.wrap_i64]; omega
      have w3 : IntKind.u8.wrap ((x : Int) % 3) = (x : Int) % 3 := by rw [IntKind.wrap_u8]; omega
      have x0 : (0 : Int) ≤ (x : Int) := by omega
      have HI := Lib.hid (And.intro hset (And.intro hok (And.intro hll (And.intro hx0 (And.intro hlt hb)))))
      clear hset hok hll hx0 hlt hb hk hg
      by_cases g3 : x % 3 = 0
      · have g3' : ((x : Int) % 3 == 0) = true := by simp; omega
        go_wp2_with fail
        go_at_call 11
        have hk1000 : k < 1000 := by have h1 := HI.out.2.2.2.2.1; have h2 := HR.out.2.2; omega
        refine (begin_any wr cb lo hi cm st _ _ HI.out.1 (by have := HI.out.2.2.1; omega) (by omega) (by omega)).mono ?_
        rintro e w4 ⟨rfl, hs4, hc4⟩
        have HP := Lib.hid (show SlI w cb lo hi l (l.length - (k + 1)) (.int .i64 ((k : Int) + 1)) w4 from by
          have hl := HI.out.2.2.2.2.1
          have hb := HI.out.2.2.2.2.2
          refine ⟨k + 1, cm, st + 1, by push_cast; rfl, rfl, hl, ?_, by omega, by push_cast; omega, by omega, by push_cast; omega, hb.trans (hc4.below hb.size fun k' hk' e => by have : w.heap.size ≤ k' := e; omega)⟩
          rw [sQ_snoc HI.out.2.2.2.1, sS, if_pos g3]
          exact hs4.mono fun b _ q => by
            rcases q with q | q
            · exact q
            · have := hb.size
              omega)
        clear hs4 hc4
        go_wp2_with fail
        go_roundw
        case rel => exact ⟨_, HP.out⟩
        case measure =>
          rw [HQ.out]
          exact Nat.lt_of_le_of_lt ((leastOf_spec ⟨_, HP.out⟩).2 _ HP.out) (by have := HI.out.2.2.2.2.1; omega)
      · have g3' : ((x : Int) % 3 == 0) = false := by simp; omega
        go_wp2_with fail
        go_at_call 12
        have hk1000 : k < 1000 := by have h1 := HI.out.2.2.2.2.1; have h2 := HR.out.2.2; omega
        refine (next_any wr cb lo hi cm st _ _ HI.out.1 HR.out.2.1 HI.out.2.1.1 (by have := HI.out.2.2.1; omega) (by omega) (by omega)).mono ?_
        rintro e w4 ⟨rfl, cm', st', c1, c2, s1, s2, hs4, hc4⟩
        have HP := Lib.hid (show SlI w cb lo hi l (l.length - (k + 1)) (.int .i64 ((k : Int) + 1)) w4 from by
          have hl := HI.out.2.2.2.2.1
          have hb := HI.out.2.2.2.2.2
          refine ⟨k + 1, cm', st', by push_cast; rfl, rfl, hl, ?_, by omega, by push_cast; omega, by omega, by push_cast; omega, hb.trans (hc4.below hb.size fun k' hk' e => by have : w.heap.size ≤ k' := e; omega)⟩
          rw [sQ_snoc HI.out.2.2.2.1, sS, if_neg g3]
          exact hs4.mono fun b _ q => by
            rcases q with q | q
            · exact q
            · have := hb.size
              omega)
        clear hs4 hc4
        go_wp2_with fail
        go_roundw
        case rel => exact ⟨_, HP.out⟩
        case measure =>
          rw [HQ.out]
          exact Nat.lt_of_le_of_lt ((leastOf_spec ⟨_, HP.out⟩).2 _ HP.out) (by have := HI.out.2.2.2.2.1; omega)
    · have t1 : (0 : Int) ≤ (k : Int) := by omega
      have t2 : ¬ (k : Int) < (l.length : Int) := by omega
      obtain rfl : k = l.length := by omega
      rw [List.take_length] at hset
      have HI := Lib.hid (And.intro hset hb)
      have hl := HR.out.2.2
      clear hset hb hok hll
      go_wp2_with fail
      exact bodyPost_ret (v := .pointer (some ⟨cb, 0, none⟩)) (by simp [results, Try.results17, go_sem]) rfl ⟨cb, rfl, cm, st, HI.out.1, ⟨by omega, by omega⟩, ⟨by omega, by omega⟩, H2.out.2.1, HI.out.2⟩

/-- Ahead of a round of the document's. -/
def TlI (w : World) (lo hi : Int) (l : List Nat) (n : Nat) (o i : Value) (wr : World) : Prop :=
  ∃ (k : Nat), i = .int .i64 (k : Int) ∧ n = l.length - k ∧ k ≤ l.length ∧ RowI wr (fun b => w.heap.size ≤ b) o (tR lo hi (l.take k)) ∧ Below w.heap.size w wr
set_option maxHeartbeats 4000000 in
set_option maxRecDepth 100000 in
theorem smallR_any (w : World) (v : Value) (lo hi : Int) (l : List Nat) (h : BytR w v l) (hS : ScOk lo hi) (hL : l.length ≤ 1000) :
    Calls Try.prog 20 #[.agg #[.int .i64 lo, .int .i64 hi], v] w fun e w' => ∃ v', e = .returned v' ∧ RowI w' (fun b => w.heap.size ≤ b) v' (tR lo hi l) ∧ Below w.heap.size w w' := by
  obtain ⟨A, c, rfl, hrow⟩ := h
  have HR := Lib.hid (And.intro hrow (And.intro hS hL))
  have hl0 : (0 : Int) ≤ (l.length : Int) := by omega
  clear hrow
  go_enter Try.func20, Try.ntmps20
  have hb1 : Below w.heap.size w (w.alloc (.cells #[.int .i64 lo, .int .i64 hi] 28)) := (Below.refl _ w).alloc (Nat.le_refl _) _
  go_wp2_with fail
  have HB1 := Lib.hid (And.intro (heap_alloc_new w (.cells #[.int .i64 lo, .int .i64 hi] 28)) hb1)
  clear hb1
  generalize w.alloc (.cells #[.int .i64 lo, .int .i64 hi] 28) = w1 at *
  go_loopw [5, 6] (fun o i wr => ∃ n, TlI w1 lo hi l n o i wr) (fun o i wr => leastOf (fun n => TlI w1 lo hi l n o i wr))
  case atStart => exact ⟨_, 0, rfl, rfl, by omega, ⟨none, 0, rfl, fun i x hi => by simp [tR] at hi⟩, Below.refl _ _⟩
  case round =>
    have hls := (leastOf_spec hrel).1
    obtain ⟨k, rfl, hq, hk, hrow, hb⟩ := hls
    have HQ := Lib.hid hq
    clear hrel hq
    by_cases hlt : k < l.length
    · obtain ⟨x, hx0⟩ : ∃ x, l[k]? = some x := ⟨_, List.getElem?_eq_getElem hlt⟩
      obtain ⟨hx8, g, o, rfl, hg, hcell⟩ := HR.out.1 k x hx0
      have hwr : Below w.heap.size w wr := HB1.out.2.trans (hb.mono HB1.out.2.size)
      rw [← hwr.cell (p := ⟨g, o + k, none⟩) hg] at hcell
      have hgr : g < wr.heap.size := by have := hwr.size; omega
      have t1 : (0 : Int) ≤ (k : Int) := by omega
      have t2 : (k : Int) < (l.length : Int) := by omega
      have wk : IntKind.i64.wrap ((k : Int) + 1) = (k : Int) + 1 := by rw [IntKind.wrap_i64]; omega
      have w3 : IntKind.u8.wrap ((x : Int) % 3) = (x : Int) % 3 := by rw [IntKind.wrap_u8]; omega
      have x0 : (0 : Int) ≤ (x : Int) := by omega
      have hok := sQ_ok HR.out.2.1 (l.take k)
      have hb0 := hb.block _ (Array.getElem?_eq_some_iff.1 HB1.out.1).1
      rw [HB1.out.1] at hb0
      obtain ⟨q0, q1⟩ := cellsS2 hb0
      have hltb := (Array.getElem?_eq_some_iff.1 hb0).1
      have HI := Lib.hid (And.intro hrow (And.intro hok (And.intro hx0 (And.intro hlt hb))))
      clear hrow hok hx0 hlt hb hk hg hwr hb0
      have hll : (tR lo hi (l.take k)).length ≤ 1000 := by
        rw [← HI.out.2.1.2.1]
        have h1 := HI.out.2.1.2.2
        have h2 := HR.out.2.2
        simp at h1 ⊢
        omega
      by_cases g3 : x % 3 = 0
      · have g3' : ((x : Int) % 3 == 0) = true := by simp; omega
        go_wp2_with fail
        go_at_call 29
        refine (putR_any wr _ _ _ 1 HI.out.1 (by omega)).mono ?_
        rintro e w4 ⟨v4, rfl, ho4, hb4⟩
        have HP := Lib.hid (show TlI w1 lo hi l (l.length - (k + 1)) v4 (.int .i64 ((k : Int) + 1)) w4 from by
          have hl := HI.out.2.2.2.1
          have hb := HI.out.2.2.2.2
          refine ⟨k + 1, by push_cast; rfl, rfl, hl, ?_, hb.trans (hb4.mono hb.size)⟩
          rw [tR_snoc HI.out.2.2.1, tS, if_pos g3]
          exact ho4.row.mono fun b q => by
            have : wr.heap.size ≤ b := q
            have := hb.size
            omega)
        clear ho4 hb4
        go_wp2_with fail
        go_roundw
        case rel => exact ⟨_, HP.out⟩
        case measure =>
          rw [HQ.out]
          exact Nat.lt_of_le_of_lt ((leastOf_spec ⟨_, HP.out⟩).2 _ HP.out) (by have := HI.out.2.2.2.1; omega)
      · have g3' : ((x : Int) % 3 == 0) = false := by simp; omega
        go_wp2_with fail
        go_at_call 30
        refine (nextR_any wr _ _ lo hi _ HI.out.1 (by omega) (fun y hy => ?_)).mono ?_
        · rw [← HI.out.2.1.2.1, List.mem_reverse] at hy
          have h1 := HI.out.2.1.1.2 y hy
          have h2 := HR.out.2.1.top
          omega
        rintro e w4 ⟨v4, rfl, ho4, hb4⟩
        have HP := Lib.hid (show TlI w1 lo hi l (l.length - (k + 1)) v4 (.int .i64 ((k : Int) + 1)) w4 from by
          have hl := HI.out.2.2.2.1
          have hb := HI.out.2.2.2.2
          refine ⟨k + 1, by push_cast; rfl, rfl, hl, ?_, hb.trans (hb4.mono hb.size)⟩
          rw [tR_snoc HI.out.2.2.1, tS, if_neg g3]
          exact ho4.mono fun b q => by
            have : wr.heap.size ≤ b := q
            have := hb.size
            omega)
        clear ho4 hb4
        go_wp2_with fail
        go_roundw
        case rel => exact ⟨_, HP.out⟩
        case measure =>
          rw [HQ.out]
          exact Nat.lt_of_le_of_lt ((leastOf_spec ⟨_, HP.out⟩).2 _ HP.out) (by have := HI.out.2.2.2.1; omega)
    · have t1 : (0 : Int) ≤ (k : Int) := by omega
      have t2 : ¬ (k : Int) < (l.length : Int) := by omega
      obtain rfl : k = l.length := by omega
      rw [List.take_length] at hrow
      have HI := Lib.hid (And.intro hrow hb)
      clear hrow hb
      go_wp2_with fail
      go_ret
      have h1 := HB1.out.2.size
      exact ⟨_, rfl, HI.out.1.mono fun b hb => by have : w1.heap.size ≤ b := hb; omega, HB1.out.2.trans (HI.out.2.mono h1)⟩

set_option maxHeartbeats 4000000 in
set_option maxRecDepth 100000 in
theorem awake9_any (w : World) : Calls Try.prog 8 #[] w fun e w' => e = .returned (.bool true) ∧ Below w.heap.size w w' := by
  go_enter Try.func8, Try.ntmps8
  go_wp2_with fail
  go_at_call 10
  refine (new_any _ 1 3 (by omega)).mono ?_
  rintro e w2 ⟨cb, rfl, hcb, hset, hb2⟩
  have H2 := Lib.hid (And.intro hset hb2)
  clear hset hb2
  go_wp2_with fail
  go_at_call 11
  refine (begin_any w2 cb 1 3 0 0 [] _ H2.out.1 (by simp) (by omega) (by omega)).mono ?_
  rintro e w3 ⟨rfl, hs3, hc3⟩
  have H3 := Lib.hid (show SetC w3 cb 1 3 [1] 0 1 _ ∧ Below w.heap.size w w3 from ⟨hs3, H2.out.2.trans (hc3.below H2.out.2.size fun k hk e => by have : w.heap.size ≤ k := e; omega)⟩)
  clear hs3 hc3
  go_wp2_with fail
  go_at_call 15
  refine (len_any w3 cb 1 3 0 1 [1] _ H3.out.1).mono ?_
  rintro e w4 ⟨rfl, rfl⟩
  go_wp2_with fail
  go_at_call 14
  refine (doneS_any _ cb 1 3 0 1 [1] _ H3.out.1 (by simp)).mono ?_
  rintro e w5 ⟨rfl, hb5⟩
  have HB := Lib.hid (H3.out.2.trans (hb5.mono H3.out.2.size))
  clear hb5
  go_wp2_with fail
  go_ret
  exact ⟨rfl, HB.out⟩
end Go.Proofs.Ytkkmopcmilgdoaa
