/- The document's own calls on a list of counts: contracts.
   Conditions: the lists are in memory, and short. -/
import Derived.Test.YtkkmopcmilgdoaaKsP
namespace Go.Proofs.Ytkkmopcmilgdoaa
open Go.RowKit

set_option maxHeartbeats 4000000 in
set_option maxRecDepth 100000 in
theorem topR_any (w : World) (lo hi : Int) :
    Calls Try.prog 32 #[.agg #[.int .i64 lo, .int .i64 hi]] w fun e w' => e = .returned (.int .i64 (topC lo hi)) ∧ Below w.heap.size w w' := by
  by_cases g : hi < 0
  · have ht : topC lo hi = lo := if_pos g
    rw [ht]
    clear ht
    go_enter Try.func32, Try.ntmps32
    go_wp2_with fail
    go_ret
    exact ⟨rfl, (Below.refl _ w).alloc (Nat.le_refl _) _⟩
  · have ht : topC lo hi = hi := if_neg g
    rw [ht]
    clear ht
    go_enter Try.func32, Try.ntmps32
    go_wp2_with fail
    go_ret
    exact ⟨rfl, (Below.refl _ w).alloc (Nat.le_refl _) _⟩

theorem RowI.below {w w' : World} {G : Nat → Prop} {v : Value} {l : List Int} (h : RowI w G v l) (hb : Below w.heap.size w w') : RowI w' G v l := by
  obtain ⟨A, c, hv, hr⟩ := h
  refine ⟨A, c, hv, fun i x hi => ?_⟩
  obtain ⟨g, h1, h2, h3, h4⟩ := hr i x hi
  exact ⟨g, h1, h2, Nat.lt_of_lt_of_le h3 hb.size, (hb.cell (p := ⟨g, i, none⟩) h3).trans h4⟩
theorem RowI.mono {w : World} {G G' : Nat → Prop} {v : Value} {l : List Int} (h : RowI w G v l) (hG : ∀ k, G k → G' k) : RowI w G' v l := by
  obtain ⟨A, c, hv, hr⟩ := h
  refine ⟨A, c, hv, fun i x hi => ?_⟩
  obtain ⟨g, h1, h2, h3, h4⟩ := hr i x hi
  exact ⟨g, h1, hG g h2, h3, h4⟩
theorem RowI.chg {R G : Nat → Prop} {w w' : World} {v : Value} {l : List Int} (h : RowI w G v l) (hc : Chg R w w') (hn : ∀ k, k < w.heap.size → G k → ¬ R k) : RowI w' G v l := by
  obtain ⟨A, c, hv, hr⟩ := h
  refine ⟨A, c, hv, fun i x hi => ?_⟩
  obtain ⟨g, h1, h2, h3, h4⟩ := hr i x hi
  exact ⟨g, h1, h2, Nat.lt_of_lt_of_le h3 hc.size, (hc.cell i h3 (hn g h3 h2)).trans h4⟩
theorem pS_len (n : Int) (s : List Int × Bool) (x : Int) : (pS n s x).1.length + s.2.toNat ≤ s.1.length + 1 + (pS n s x).2.toNat := by
  obtain ⟨c, b⟩ := s
  unfold pS
  by_cases h1 : b = false ∧ n ≤ x
  · rw [if_pos h1]
    obtain ⟨rfl, _⟩ := h1
    by_cases h2 : x = n
    · rw [if_pos h2]; simp
    · rw [if_neg h2]; simp
  · rw [if_neg h1]
    by_cases h2 : x = n
    · rw [if_pos h2]; simp
    · rw [if_neg h2]; simp
theorem pF_fold_len (n : Int) : ∀ (l : List Int) (s : List Int × Bool), (l.foldl (pS n) s).1.length + s.2.toNat ≤ s.1.length + l.length + (l.foldl (pS n) s).2.toNat
  | [], s => by simp
  | x :: l, s => by
    rw [List.foldl_cons]
    have h1 := pF_fold_len n l (pS n s x)
    have h2 := pS_len n s x
    simp only [List.length_cons]
    omega
theorem pF_len (n : Int) (l : List Int) : (pF n l).1.length ≤ l.length + (pF n l).2.toNat := by
  have := pF_fold_len n l ([], false)
  simpa [pF] using this
theorem pR_len (l : List Int) (n : Int) : (pR l n).length ≤ l.length + 1 := by
  have h := pF_len n l
  unfold pR
  cases hb : (pF n l).2 with
  | true => rw [if_pos rfl]; rw [hb] at h; simpa using h
  | false => rw [if_neg (by simp)]; rw [hb] at h; simp at h ⊢; omega

/-- A count's next one, put in. -/
def nF (lo hi : Int) (acc : List Int) (x : Int) : List Int := if x < topC lo hi then pR acc (x + 1) else if hi < 0 then pR acc lo else acc
/-- Of each count the next one. -/
def nR (lo hi : Int) (l : List Int) : List Int := l.foldl (nF lo hi) []
theorem nF_len (lo hi : Int) (acc : List Int) (x : Int) : (nF lo hi acc x).length ≤ acc.length + 1 := by
  unfold nF
  split
  · exact pR_len _ _
  · split
    · exact pR_len _ _
    · omega
theorem nR_snoc {lo hi x : Int} {l : List Int} {k : Nat} (h : l[k]? = some x) : nR lo hi (l.take (k + 1)) = nF lo hi (nR lo hi (l.take k)) x := by
  unfold nR
  rw [List.take_add_one, h, List.foldl_append]
  rfl
/-- Ahead of a round of Next. -/
def NxI (w : World) (lo hi : Int) (l : List Int) (q : Nat) (o i : Value) (wr : World) : Prop :=
  ∃ (k : Nat), i = .int .i64 (k : Int) ∧ q = l.length - k ∧ k ≤ l.length ∧ (nR lo hi (l.take k)).length ≤ k ∧ RowI wr (fun b => w.heap.size ≤ b) o (nR lo hi (l.take k)) ∧ Below w.heap.size w wr

set_option maxHeartbeats 8000000 in
set_option maxRecDepth 100000 in
theorem nextR_any (w : World) (G : Nat → Prop) (v : Value) (lo hi : Int) (l : List Int) (h : RowI w G v l) (hL : l.length < 100000) (hb : ∀ x ∈ l, -10000000000 ≤ x ∧ x < 10000000000) :
    Calls Try.prog 30 #[.agg #[.int .i64 lo, .int .i64 hi], v] w fun e w' => ∃ v', e = .returned v' ∧ RowI w' (fun b => w.heap.size ≤ b) v' (nR lo hi l) ∧ Below w.heap.size w w' := by
  obtain ⟨A, c, rfl, hrow⟩ := h
  have HR := Lib.hid (And.intro hrow (And.intro hL hb))
  have hl0 : (0 : Int) ≤ (l.length : Int) := by omega
  obtain ⟨q0, q1⟩ := row_cells (heap_alloc_new w (.cells #[.int .i64 lo, .int .i64 hi] 28))
  have HB := Lib.hid (show (w.alloc (.cells #[.int .i64 lo, .int .i64 hi] 28)).cell? ⟨w.heap.size, 0, none⟩ = some (.int .i64 lo) ∧ (w.alloc (.cells #[.int .i64 lo, .int .i64 hi] 28)).cell? ⟨w.heap.size, 1, none⟩ = some (.int .i64 hi) ∧ (w.alloc (.cells #[.int .i64 lo, .int .i64 hi] 28)).heap.size = w.heap.size + 1 ∧ Below w.heap.size w (w.alloc (.cells #[.int .i64 lo, .int .i64 hi] 28)) from ⟨q0 0, q0 1, by simp, (Below.refl _ w).alloc (Nat.le_refl _) _⟩)
  clear hrow hb q0 q1
  go_enter Try.func30, Try.ntmps30
  go_wp2_with fail
  generalize w.alloc (.cells #[.int .i64 lo, .int .i64 hi] 28) = w1 at *
  obtain ⟨tp, htp⟩ : ∃ tp, tp = topC lo hi := ⟨_, rfl⟩
  have HT := Lib.hid htp
  clear htp
  go_loopw [5, 6] (fun o i wr => ∃ q, NxI w1 lo hi l q o i wr) (fun o i wr => leastOf (fun q => NxI w1 lo hi l q o i wr))
  case atStart => exact ⟨_, 0, rfl, rfl, by omega, by simp [nR], ⟨none, 0, rfl, fun i x hi => by simp [nR] at hi⟩, Below.refl _ _⟩
  case round =>
    have hls := (leastOf_spec hrel).1
    obtain ⟨k, rfl, hq, hk, hlen, hown, hb⟩ := hls
    have HQ := Lib.hid hq
    clear hrel hq
    by_cases hlt : k < l.length
    · obtain ⟨x, hx0⟩ : ∃ x, l[k]? = some x := ⟨_, List.getElem?_eq_getElem hlt⟩
      obtain ⟨g, rfl, _, hg, hcell⟩ := HR.out.1 k x hx0
      have hxb := HR.out.2.2 x (List.mem_of_getElem? hx0)
      have hb1 := HB.out.2.2.2.trans (hb.mono (by have := HB.out.2.2.1; omega))
      have t1 : (0 : Int) ≤ (k : Int) := by omega
      have t2 : (k : Int) < (l.length : Int) := by omega
      have wk : IntKind.i64.wrap ((k : Int) + 1) = (k : Int) + 1 := by rw [IntKind.wrap_i64]; omega
      have wx : IntKind.i64.wrap (x + 1) = x + 1 := by rw [IntKind.wrap_i64]; omega
      have HF := Lib.hid (show ∀ W, Below wr.heap.size wr W → (W.cell? ⟨g, k, none⟩ = some (.int .i64 x) ∧ W.cell? ⟨w.heap.size, 0, none⟩ = some (.int .i64 lo) ∧ W.cell? ⟨w.heap.size, 1, none⟩ = some (.int .i64 hi)) ∧ (g < W.heap.size ∧ w.heap.size < W.heap.size) ∧ Below w1.heap.size w1 W from fun W hW => by
        have h1 := HB.out.2.2.1
        have h2 := hb.size
        have h3 := hb.trans (hW.mono h2)
        have h4 := h3.size
        exact ⟨⟨(((HB.out.2.2.2.trans (h3.mono (by omega))).cell (p := ⟨g, k, none⟩) hg)).trans hcell, (h3.cell (p := ⟨w.heap.size, 0, none⟩) (by show w.heap.size < _; omega)).trans HB.out.1, (h3.cell (p := ⟨w.heap.size, 1, none⟩) (by show w.heap.size < _; omega)).trans HB.out.2.1⟩, ⟨by omega, by omega⟩, h3⟩)
      have HI := Lib.hid (And.intro hown (And.intro hb (And.intro hlen (show k + 1 ≤ l.length from hlt))))
      have HX := Lib.hid hx0
      obtain ⟨⟨c0, c1, c2⟩, ⟨l0, l1⟩, _⟩ := HF.out wr (Below.refl _ _)
      clear hown hb hlen hk hcell hlt hb1 hx0
      by_cases g1 : x < tp
      · go_upto_region 5 with fail
        go_region_with (go_at_call 32; refine (topR_any _ lo hi).mono ?_; rintro e w5 ⟨rfl, hb5⟩; rw [← HT.out]; have HB5 := Lib.hid (show Below wr.heap.size wr w5 from by first | exact bhop (Below.refl _ _).drew hb5 | exact hb5); obtain ⟨⟨c0, c1, c2⟩, ⟨l0, l1⟩, _⟩ := HF.out w5 HB5.out; clear hb5)
        all_goals
          go_wp2_with fail
          go_at_call 29
          have hL2 := HI.out.2.2.1
          refine (putR_any w5 _ u5 (nR lo hi (l.take k)) (x + 1) (HI.out.1.below HB5.out) (by omega)).mono ?_
          rintro e w6 ⟨v6, rfl, ho6, hb6⟩
          have hb56 := (HF.out w6 (bhop HB5.out hb6))
          have HP := Lib.hid (show NxI w1 lo hi l (l.length - (k + 1)) v6 (.int .i64 ((k : Int) + 1)) w6 from by
            have e1 : nF lo hi (nR lo hi (l.take k)) x = pR (nR lo hi (l.take k)) (x + 1) := by
              unfold nF
              rw [if_pos (by rw [← HT.out]; exact g1)]
            refine ⟨k + 1, by push_cast; rfl, rfl, HI.out.2.2.2, ?_, ?_, hb56.2.2⟩
            · rw [nR_snoc HX.out]
              have := nF_len lo hi (nR lo hi (l.take k)) x
              omega
            · rw [nR_snoc HX.out, e1]
              exact ho6.row.mono fun b hb => by
                have h1 := HI.out.2.1.size
                have h2 := HB5.out.size
                have : w5.heap.size ≤ b := hb
                omega)
          clear ho6 hb6 hb56
          go_wp2_with fail
          go_roundw
          case rel => exact ⟨_, HP.out⟩
          case measure =>
            rw [HQ.out]
            exact Nat.lt_of_le_of_lt ((leastOf_spec ⟨_, HP.out⟩).2 _ HP.out) (by have := HI.out.2.2.2; omega)
      · by_cases g2 : hi < 0
        · go_upto_region 5 with fail
          go_region_with (go_at_call 32; refine (topR_any _ lo hi).mono ?_; rintro e w5 ⟨rfl, hb5⟩; rw [← HT.out]; have HB5 := Lib.hid (show Below wr.heap.size wr w5 from by first | exact bhop (Below.refl _ _).drew hb5 | exact hb5); obtain ⟨⟨c0, c1, c2⟩, ⟨l0, l1⟩, _⟩ := HF.out w5 HB5.out; clear hb5)
          all_goals
            go_wp2_with fail
            go_at_call 29
            have hL2 := HI.out.2.2.1
            refine (putR_any w5 _ u5 (nR lo hi (l.take k)) (lo) (HI.out.1.below HB5.out) (by omega)).mono ?_
            rintro e w6 ⟨v6, rfl, ho6, hb6⟩
            have hb56 := (HF.out w6 (bhop HB5.out hb6))
            have HP := Lib.hid (show NxI w1 lo hi l (l.length - (k + 1)) v6 (.int .i64 ((k : Int) + 1)) w6 from by
              have e1 : nF lo hi (nR lo hi (l.take k)) x = pR (nR lo hi (l.take k)) (lo) := by
                unfold nF
                rw [if_neg (by rw [← HT.out]; omega), if_pos g2]
              refine ⟨k + 1, by push_cast; rfl, rfl, HI.out.2.2.2, ?_, ?_, hb56.2.2⟩
              · rw [nR_snoc HX.out]
                have := nF_len lo hi (nR lo hi (l.take k)) x
                omega
              · rw [nR_snoc HX.out, e1]
                exact ho6.row.mono fun b hb => by
                  have h1 := HI.out.2.1.size
                  have h2 := HB5.out.size
                  have : w5.heap.size ≤ b := hb
                  omega)
            clear ho6 hb6 hb56
            go_wp2_with fail
            go_roundw
            case rel => exact ⟨_, HP.out⟩
            case measure =>
              rw [HQ.out]
              exact Nat.lt_of_le_of_lt ((leastOf_spec ⟨_, HP.out⟩).2 _ HP.out) (by have := HI.out.2.2.2; omega)
        · go_upto_region 5 with fail
          go_region_with (go_at_call 32; refine (topR_any _ lo hi).mono ?_; rintro e w5 ⟨rfl, hb5⟩; rw [← HT.out]; have HB5 := Lib.hid (show Below wr.heap.size wr w5 from by first | exact bhop (Below.refl _ _).drew hb5 | exact hb5); obtain ⟨⟨c0, c1, c2⟩, ⟨l0, l1⟩, _⟩ := HF.out w5 HB5.out; clear hb5)
          all_goals
            have HP := Lib.hid (show NxI w1 lo hi l (l.length - (k + 1)) u5 (.int .i64 ((k : Int) + 1)) w5 from by
              have e1 : nF lo hi (nR lo hi (l.take k)) x = nR lo hi (l.take k) := by
                unfold nF
                rw [if_neg (by rw [← HT.out]; omega), if_neg (by omega)]
              refine ⟨k + 1, by push_cast; rfl, rfl, HI.out.2.2.2, ?_, ?_, (HF.out w5 HB5.out).2.2⟩
              · rw [nR_snoc HX.out, e1]
                have := HI.out.2.2.1
                omega
              · rw [nR_snoc HX.out, e1]
                exact HI.out.1.below HB5.out)
            go_wp2_with fail
            go_roundw
            case rel => exact ⟨_, HP.out⟩
            case measure =>
              rw [HQ.out]
              exact Nat.lt_of_le_of_lt ((leastOf_spec ⟨_, HP.out⟩).2 _ HP.out) (by have := HI.out.2.2.2; omega)
    · have t1 : (0 : Int) ≤ (k : Int) := by omega
      have t2 : ¬ (k : Int) < (l.length : Int) := by omega
      obtain rfl : k = l.length := by omega
      rw [List.take_length] at hown
      have HI := Lib.hid (And.intro hown hb)
      clear hown hb
      go_wp2_with fail
      go_ret
      have h1 := HB.out.2.2.1
      exact ⟨_, rfl, HI.out.1.mono fun b hb => by omega, HB.out.2.2.2.trans (HI.out.2.mono (by omega))⟩

end Go.Proofs.Ytkkmopcmilgdoaa
