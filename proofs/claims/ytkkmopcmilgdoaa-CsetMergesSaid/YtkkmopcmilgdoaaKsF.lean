/- The statements' own small calls: two lists compared, a scope that may be: contracts.
   Conditions: the lists are in memory, and short. -/
import Derived.Test.YtkkmopcmilgdoaaKsR
namespace Go.Proofs.Ytkkmopcmilgdoaa
open Go.RowKit

theorem take_snocI {l : List Int} {i : Nat} {x : Int} (h : l[i]? = some x) : l.take (i + 1) = l.take i ++ [x] := by
  rw [List.take_add_one, h]; rfl
/-- Ahead of a round. -/
def SmI (w : World) (l1 l2 : List Int) (n : Nat) (x : Value) (wr : World) : Prop := ∃ i : Nat, x = .int .i64 i ∧ n = l1.length - i ∧ i ≤ l1.length ∧ l1.take i = l2.take i ∧ Below w.heap.size w wr
set_option maxHeartbeats 4000000 in
set_option maxRecDepth 100000 in
theorem same_any (w : World) (G G' : Nat → Prop) (v1 v2 : Value) (l1 l2 : List Int) (h1 : RowI w G v1 l1) (h2 : RowI w G' v2 l2) (hl1 : l1.length < 1000000) (hl2 : l2.length < 1000000) :
    Calls Try.prog 19 #[v1, v2] w fun e w' => e = .returned (.bool (decide (l1 = l2))) ∧ Below w.heap.size w w' := by
  obtain ⟨A1, c1, rfl, hr1⟩ := h1
  obtain ⟨A2, c2, rfl, hr2⟩ := h2
  have HH := Lib.hid (And.intro hr1 hr2)
  have q1 : (0 : Int) ≤ (l1.length : Int) := by omega
  have q2 : (0 : Int) ≤ (l2.length : Int) := by omega
  clear hr1 hr2
  by_cases hn : l1.length = l2.length
  · have hn' : ((l1.length : Int) != (l2.length : Int)) = false := by simp [hn]
    go_enter Try.func19, Try.ntmps19
    go_wp2_with fail
    have HN := Lib.hid hn
    go_loopw [5] (fun x wr => ∃ n, SmI w l1 l2 n x wr) (fun x wr => leastOf (fun n => SmI w l1 l2 n x wr))
    case atStart => exact ⟨_, 0, rfl, rfl, by omega, rfl, Below.refl _ _⟩
    case round =>
      have hls := (leastOf_spec hrel).1
      obtain ⟨i, rfl, hN, hi, hp, hb⟩ := hls
      have HQ := Lib.hid hN
      clear hN hrel
      by_cases g1 : i < l1.length
      · have t1 : (0 : Int) ≤ (i : Int) := by omega
        have t2 : (i : Int) < (l1.length : Int) := by omega
        have t3 : (i : Int) < (l2.length : Int) := by omega
        obtain ⟨x1, hx1⟩ : ∃ x1, l1[i]? = some x1 := ⟨_, List.getElem?_eq_getElem g1⟩
        obtain ⟨x2, hx2⟩ : ∃ x2, l2[i]? = some x2 := ⟨_, List.getElem?_eq_getElem (by omega)⟩
        obtain ⟨g, rfl, _, hg, hc⟩ := HH.out.1 i x1 hx1
        obtain ⟨g', rfl, _, hg', hc'⟩ := HH.out.2 i x2 hx2
        rw [← hb.cell (p := ⟨g, i, none⟩) hg] at hc
        rw [← hb.cell (p := ⟨g', i, none⟩) hg'] at hc'
        have hg1 : g < wr.heap.size := Nat.lt_of_lt_of_le hg hb.size
        have hg2 : g' < wr.heap.size := Nat.lt_of_lt_of_le hg' hb.size
        have wi : IntKind.i64.wrap ((i : Int) + 1) = (i : Int) + 1 := by rw [IntKind.wrap_i64]; omega
        have HI := Lib.hid (And.intro g1 (And.intro hp (And.intro hb (And.intro hx1 hx2))))
        clear hx1 hx2 hp hb g1 hi hg hg' hn
        by_cases he : x1 = x2
        · have he' : (x1 != x2) = false := by simp [he]
          have HE := Lib.hid he
          clear he
          go_upto_region 6 with fail
          go_quiet (fail)
          rename Nat => nq
          have HP := Lib.hid (show SmI w l1 l2 (l1.length - (i + 1)) (.int .i64 ((i : Int) + 1)) (wr.drewN nq) from ⟨i + 1, by push_cast; rfl, rfl, HI.out.1, by rw [take_snocI HI.out.2.2.2.1, take_snocI HI.out.2.2.2.2, HI.out.2.1, HE.out], ((Chg.of_below (R := fun k => w.heap.size ≤ k) HI.out.2.2.1).drewN nq).below (Nat.le_refl _) fun k hk e => by omega⟩)
          go_wp2_with fail
          go_roundw
          case rel => exact ⟨_, HP.out⟩
          case measure =>
            rw [HQ.out]
            refine Nat.lt_of_le_of_lt ((leastOf_spec ⟨_, HP.out⟩).2 _ HP.out) ?_
            have := HI.out.1
            omega
        · have he' : (x1 != x2) = true := by simp [he]
          have hne : l1 ≠ l2 := fun e => by
            have h1 := HI.out.2.2.2.1
            rw [e, HI.out.2.2.2.2] at h1
            exact he (Option.some.inj h1).symm
          have HD := Lib.hid (show decide (l1 = l2) = false from decide_eq_false hne)
          clear hne
          go_upto_region 6 with fail
          go_quiet (fail)
          rename Nat => nq
          go_wp2_with fail
          go_ret
          exact ⟨by rw [HD.out]; rfl, ((Chg.of_below (R := fun k => w.heap.size ≤ k) HI.out.2.2.1).drewN nq).below (Nat.le_refl _) fun k hk e => by omega⟩
      · have t1 : (0 : Int) ≤ (i : Int) := by omega
        have t2 : ¬ (i : Int) < (l1.length : Int) := by omega
        have hd : decide (l1 = l2) = true := by
          rw [List.take_of_length_le (by omega), List.take_of_length_le (by omega)] at hp
          exact decide_eq_true hp
        have HD := Lib.hid hd
        have HB := Lib.hid hb
        clear hd hp hb
        go_wp2_with fail
        go_ret
        exact ⟨by rw [HD.out]; rfl, HB.out⟩
  · have hn' : ((l1.length : Int) != (l2.length : Int)) = true := by simp; omega
    have hd : decide (l1 = l2) = false := decide_eq_false fun e => hn (by rw [e])
    rw [hd]
    clear hd
    go_enter Try.func19, Try.ntmps19
    go_wp2_with fail
    go_ret
    exact ⟨rfl, Below.refl _ _⟩

set_option maxHeartbeats 4000000 in
set_option maxRecDepth 100000 in
theorem scopeR_any (w : World) (low span : Int) (op : Bool) (h1 : 0 ≤ low ∧ low < 4294967296) (h2 : 0 ≤ span ∧ span < 4294967296) :
    Calls Try.prog 9 #[.int .u32 low, .int .u32 span, .bool op] w fun e w' => ∃ lo hi, e = .returned (.agg #[.int .i64 lo, .int .i64 hi]) ∧ ScOk lo hi ∧ Below w.heap.size w w' := by
  have ha : 0 ≤ low % 2147483647 ∧ low % 2147483647 < 2147483647 := by omega
  cases op with
  | true =>
    by_cases g1 : 2147483647 < (1 + low % 2147483647) + span
    · have g2 : ¬ (2147483647 : Int) < 2 := by decide
      by_cases g3 : (1 + low % 2147483647) < 2
      · go_enter Try.func9, Try.ntmps9
        go_wp2_with fail
        all_goals
          refine bodyPost_ret (v := .agg #[.int .i64 (2), .int .i64 (-1)]) (by simp [results, Try.results9, go_sem]) rfl ⟨_, _, rfl, by unfold ScOk; omega, ((Below.refl _ w).alloc (Nat.le_refl _) _).alloc (by simp) _⟩
      · go_enter Try.func9, Try.ntmps9
        go_wp2_with fail
        all_goals
          refine bodyPost_ret (v := .agg #[.int .i64 ((1 + low % 2147483647)), .int .i64 (-1)]) (by simp [results, Try.results9, go_sem]) rfl ⟨_, _, rfl, by unfold ScOk; omega, ((Below.refl _ w).alloc (Nat.le_refl _) _).alloc (by simp) _⟩
    · by_cases g2 : (1 + low % 2147483647) + span < 2
      · have g3 : (1 + low % 2147483647) < 2 := by omega
        go_enter Try.func9, Try.ntmps9
        go_wp2_with fail
        all_goals
          refine bodyPost_ret (v := .agg #[.int .i64 (2), .int .i64 (-1)]) (by simp [results, Try.results9, go_sem]) rfl ⟨_, _, rfl, by unfold ScOk; omega, ((Below.refl _ w).alloc (Nat.le_refl _) _).alloc (by simp) _⟩
      · by_cases g3 : (1 + low % 2147483647) < 2
        · go_enter Try.func9, Try.ntmps9
          go_wp2_with fail
          all_goals
            refine bodyPost_ret (v := .agg #[.int .i64 (2), .int .i64 (-1)]) (by simp [results, Try.results9, go_sem]) rfl ⟨_, _, rfl, by unfold ScOk; omega, ((Below.refl _ w).alloc (Nat.le_refl _) _).alloc (by simp) _⟩
        · go_enter Try.func9, Try.ntmps9
          go_wp2_with fail
          all_goals
            refine bodyPost_ret (v := .agg #[.int .i64 ((1 + low % 2147483647)), .int .i64 (-1)]) (by simp [results, Try.results9, go_sem]) rfl ⟨_, _, rfl, by unfold ScOk; omega, ((Below.refl _ w).alloc (Nat.le_refl _) _).alloc (by simp) _⟩
  | false =>
    by_cases g1 : 2147483647 < (1 + low % 2147483647) + span
    · have g2 : ¬ (2147483647 : Int) < 2 := by decide
      go_enter Try.func9, Try.ntmps9
      go_wp2_with fail
      all_goals
        refine bodyPost_ret (v := .agg #[.int .i64 ((1 + low % 2147483647)), .int .i64 (2147483647)]) (by simp [results, Try.results9, go_sem]) rfl ⟨_, _, rfl, by unfold ScOk; omega, ((Below.refl _ w).alloc (Nat.le_refl _) _).alloc (by simp) _⟩
    · by_cases g2 : (1 + low % 2147483647) + span < 2
      · go_enter Try.func9, Try.ntmps9
        go_wp2_with fail
        all_goals
          refine bodyPost_ret (v := .agg #[.int .i64 ((1 + low % 2147483647)), .int .i64 (2)]) (by simp [results, Try.results9, go_sem]) rfl ⟨_, _, rfl, by unfold ScOk; omega, ((Below.refl _ w).alloc (Nat.le_refl _) _).alloc (by simp) _⟩
      · go_enter Try.func9, Try.ntmps9
        go_wp2_with fail
        all_goals
          refine bodyPost_ret (v := .agg #[.int .i64 ((1 + low % 2147483647)), .int .i64 ((1 + low % 2147483647) + span)]) (by simp [results, Try.results9, go_sem]) rfl ⟨_, _, rfl, by unfold ScOk; omega, ((Below.refl _ w).alloc (Nat.le_refl _) _).alloc (by simp) _⟩

end Go.Proofs.Ytkkmopcmilgdoaa
