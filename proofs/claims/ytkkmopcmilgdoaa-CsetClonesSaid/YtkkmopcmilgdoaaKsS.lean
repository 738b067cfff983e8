/- A set of counts in memory: its cells and its queue; Begin, Len, Steps, Done: contracts.
   Conditions: the set is in memory, its counts are within the scope's. -/
import Derived.Test.YtkkmopcmilgdoaaKsQ
namespace Go.Proofs.Ytkkmopcmilgdoaa
open Go.RowKit

/-- A set's cells. -/
structure SetR (w : World) (cb : Nat) (lo hi cm : Int) (es : List (Nat × Int)) (st : Int) : Prop where
  s0 : w.cell? ⟨cb, 0, none⟩ = some (.int .i64 lo)
  s1 : w.cell? ⟨cb, 1, none⟩ = some (.int .i64 hi)
  s2 : w.cell? ⟨cb, 2, none⟩ = some (.int .i64 cm)
  s6 : w.cell? ⟨cb, 6, none⟩ = some (.int .i64 st)
  hd : Hd w cb 3 es
  q : Que w es
/-- A set's blocks. -/
def FP (cb : Nat) (es : List (Nat × Int)) (k : Nat) : Prop := k = cb ∨ k ∈ es.map Prod.fst
theorem SetR.fp_lt {w : World} {cb k : Nat} {lo hi cm st : Int} {es : List (Nat × Int)} (h : SetR w cb lo hi cm es st) (hk : FP cb es k) : k < w.heap.size := by
  rcases hk with rfl | hk
  · exact h.hd.lt
  · exact h.q.lt hk
theorem SetR.keep {R : Nat → Prop} {w w' : World} {cb : Nat} {lo hi cm st : Int} {es : List (Nat × Int)} (h : SetR w cb lo hi cm es st) (hc : Chg R w w') (hn : ∀ k, FP cb es k → ¬ R k) : SetR w' cb lo hi cm es st :=
  have n := hn cb (.inl rfl)
  ⟨(hc.cell _ h.hd.lt n).trans h.s0, (hc.cell _ h.hd.lt n).trans h.s1, (hc.cell _ h.hd.lt n).trans h.s2, (hc.cell _ h.hd.lt n).trans h.s6, h.hd.keep hc n, h.q.keep hc fun b hb => hn b (.inr hb)⟩
theorem Hd.set {w : World} {qb qo j : Nat} {es : List (Nat × Int)} (h : Hd w qb qo es) (hj : j < qo ∨ qo + 3 ≤ j) (v : Value) : Hd (w.setCell ⟨qb, j, none⟩ v) qb qo es :=
  ⟨by simp [h.lt], by rw [set_other (.inr (by omega)), h.c0], by rw [set_other (.inr (by omega)), h.c1], by rw [set_other (.inr (by omega)), h.c2], fun k => by simp [h.fz], h.own⟩
theorem SetR.set6 {w : World} {cb : Nat} {lo hi cm st : Int} {es : List (Nat × Int)} (h : SetR w cb lo hi cm es st) (st' : Int) : SetR (w.setCell ⟨cb, 6, none⟩ (.int .i64 st')) cb lo hi cm es st' :=
  ⟨by rw [set_other (.inr (by omega)), h.s0], by rw [set_other (.inr (by omega)), h.s1], by rw [set_other (.inr (by omega)), h.s2], set_same h.s6 _, h.hd.set (.inr (by omega)) _, h.q.keep (set_chg _ _ _ _) fun b hb e => h.hd.own (e ▸ hb)⟩
theorem SetR.set2 {w : World} {cb : Nat} {lo hi cm st : Int} {es : List (Nat × Int)} (h : SetR w cb lo hi cm es st) (cm' : Int) : SetR (w.setCell ⟨cb, 2, none⟩ (.int .i64 cm')) cb lo hi cm' es st :=
  ⟨by rw [set_other (.inr (by omega)), h.s0], by rw [set_other (.inr (by omega)), h.s1], set_same h.s2 _, by rw [set_other (.inr (by omega)), h.s6], h.hd.set (.inl (by omega)) _, h.q.keep (set_chg _ _ _ _) fun b hb e => h.hd.own (e ▸ hb)⟩
theorem SetR.out {w w' : World} {cb : Nat} {lo hi cm st : Int} {es : List (Nat × Int)} {ms : List Int} (h : SetR w cb lo hi cm es st) (ho : QOut w cb 3 es ms w') :
    ∃ es', es'.map Prod.snd = ms ∧ SetR w' cb lo hi cm es' st ∧ (∀ k, FP cb es' k → FP cb es k ∨ w.heap.size ≤ k) ∧ Chg (FP cb es) w w' := by
  obtain ⟨es', e, hq, hh, hf, hc, hk⟩ := ho
  refine ⟨es', e, ⟨(hk 0 (by omega)).trans h.s0, (hk 1 (by omega)).trans h.s1, (hk 2 (by omega)).trans h.s2, (hk 6 (by omega)).trans h.s6, hh, hq⟩, fun k hk => ?_, hc⟩
  rcases hk with hk | hk
  · exact .inl (.inl hk)
  · rcases hf k hk with h1 | h1
    · exact .inl (.inr h1)
    · exact .inr h1

/-- The greatest count that a scope has. -/
def topC (lo hi : Int) : Int := if hi < 0 then lo else hi
/-- A scope that may be. -/
def ScOk (lo hi : Int) : Prop := 1 ≤ lo ∧ lo ≤ 2147483647 ∧ ((hi = -1 ∧ 2 ≤ lo) ∨ (2 ≤ hi ∧ lo ≤ hi ∧ hi ≤ 2147483647))
theorem ScOk.top {lo hi : Int} (h : ScOk lo hi) : 2 ≤ topC lo hi ∧ topC lo hi ≤ 2147483647 ∧ lo ≤ topC lo hi := by
  obtain ⟨h1, h2, h3⟩ := h
  unfold topC
  split <;> omega
/-- Counts as they stand in a queue: falling, and within the scope's. -/
def Cok (lo hi : Int) (L : List Int) : Prop := L.Pairwise (fun x y => y < x) ∧ ∀ x ∈ L, 1 ≤ x ∧ x ≤ topC lo hi
/-- A set in memory, by its counts; G has its blocks. -/
def SetC (w : World) (cb : Nat) (lo hi : Int) (L : List Int) (cm st : Int) (G : Nat → Prop) : Prop :=
  ∃ es, SetR w cb lo hi cm es st ∧ L = es.map (fun p => cm - p.2) ∧ ∀ k, FP cb es k → G k
theorem SetC.keep {R G : Nat → Prop} {w w' : World} {cb : Nat} {lo hi cm st : Int} {L : List Int} (h : SetC w cb lo hi L cm st G) (hc : Chg R w w') (hn : ∀ k, k < w.heap.size → G k → ¬ R k) : SetC w' cb lo hi L cm st G := by
  obtain ⟨es, h1, h2, h3⟩ := h
  exact ⟨es, h1.keep hc (fun k hk => hn k (h1.fp_lt hk) (h3 k hk)), h2, h3⟩
theorem SetC.mono {G G' : Nat → Prop} {w : World} {cb : Nat} {lo hi cm st : Int} {L : List Int} (h : SetC w cb lo hi L cm st G) (hG : ∀ k, k < w.heap.size → G k → G' k) : SetC w cb lo hi L cm st G' := by
  obtain ⟨es, h1, h2, h3⟩ := h
  exact ⟨es, h1, h2, fun k hk => hG k (h1.fp_lt hk) (h3 k hk)⟩
theorem putM_map {f : Int → Int} (hf : ∀ a b, f a = f b → a = b) (ms : List Int) (m : Int) : (putM ms m).map f = putM (ms.map f) (f m) := by
  unfold putM
  rw [List.getLast?_map]
  by_cases h : ms.getLast? = some m
  · rw [if_pos h, h, Option.map_some, if_pos rfl]
  · rw [if_neg h, if_neg]
    · simp
    · intro e
      cases hg : ms.getLast? with
      | none => rw [hg] at e; cases e
      | some x =>
        rw [hg, Option.map_some, Option.some.injEq] at e
        exact h (by rw [hg, hf _ _ e])
theorem cts_put (cm : Int) (es : List (Nat × Int)) (es' : List (Nat × Int)) (m : Int) (h : es'.map Prod.snd = putM (es.map Prod.snd) m) : es'.map (fun p => cm - p.2) = putM (es.map (fun p => cm - p.2)) (cm - m) := by
  have e : ∀ l : List (Nat × Int), l.map (fun p => cm - p.2) = (l.map Prod.snd).map (fun x => cm - x) := fun l => by rw [List.map_map]; rfl
  rw [e, e, h, putM_map (f := fun x => cm - x) (fun a b (hab : cm - a = cm - b) => by omega)]

set_option maxHeartbeats 4000000 in
set_option maxRecDepth 100000 in
theorem begin_any (w : World) (cb : Nat) (lo hi cm st : Int) (L : List Int) (G : Nat → Prop) (h : SetC w cb lo hi L cm st G) (hL : L.length < 1000000000) (hcm : 0 ≤ cm ∧ cm < 1000000000) (hst : 0 ≤ st ∧ st < 1000000000000) :
    Calls Try.prog 11 #[.pointer (some ⟨cb, 0, none⟩)] w fun e w' => e = .returned (.tuple #[]) ∧ SetC w' cb lo hi (putM L 1) cm (st + 1) (fun k => G k ∨ w.heap.size ≤ k) ∧ Chg G w w' := by
  obtain ⟨es, hr, rfl, hG⟩ := h
  have c2 := hr.s2
  have c6 := hr.s6
  have f6 := hr.hd.fz 6
  have hlt := hr.hd.lt
  have w1 : IntKind.i64.wrap (st + 1) = st + 1 := by rw [IntKind.wrap_i64]; omega
  have w2 : IntKind.i64.wrap (cm - 1) = cm - 1 := by rw [IntKind.wrap_i64]; omega
  rw [List.length_map] at hL
  have H := Lib.hid (And.intro hr (And.intro hG hL))
  clear hr hG hL hcm hst
  go_enter Try.func11, Try.ntmps11
  go_wp2_with fail
  have H1 := Lib.hid (show SetR (w.setCell ⟨cb, 6, none⟩ (.int .i64 (st + 1))) cb lo hi cm es (st + 1) ∧ Chg (fun k => k = cb) w (w.setCell ⟨cb, 6, none⟩ (.int .i64 (st + 1))) from ⟨H.out.1.set6 _, set_chg _ _ _ _⟩)
  clear c2 c6 f6 hlt w1
  generalize w.setCell ⟨cb, 6, none⟩ (.int .i64 (st + 1)) = wa at *
  have c2 := H1.out.1.s2
  have hlt := H1.out.1.hd.lt
  go_still_tail 8, (by kernel_rfl)
  change wpList _ _ _ _ _ wa.drew
  have H2 := Lib.hid (show SetR wa.drew cb lo hi cm es (st + 1) ∧ Chg (fun k => k = cb) w wa.drew from ⟨H1.out.1.keep ((Chg.refl (fun _ => False) wa).drew) fun _ _ => id, H1.out.2.drew⟩)
  generalize wa.drew = wb at *
  clear c2 hlt H1
  go_wp2_with fail
  go_at_call 24
  refine (put_any wb cb 3 es (cm - 1) H2.out.1.hd H2.out.1.q H.out.2.2).mono ?_
  rintro e w3 ⟨rfl, hq⟩
  obtain ⟨es', e1, hr, hf, hc⟩ := H2.out.1.out hq
  have H3 := Lib.hid (And.intro e1 (And.intro hr (And.intro hf hc)))
  clear e1 hr hf hc hq
  go_wp2_with fail
  refine bodyPost_end (results_none rfl _ _ _) rfl ⟨rfl, ⟨es', H3.out.2.1, ?_, fun k hk => ?_⟩, ?_⟩
  · rw [cts_put cm es es' (cm - 1) H3.out.1, show cm - (cm - 1) = 1 by omega]
  · have := H2.out.2.size
    rcases H3.out.2.2.1 k hk with h | h
    · exact .inl (H.out.2.1 k h)
    · exact .inr (by omega)
  · exact (H2.out.2.mono fun x _ hx => H.out.2.1 x (.inl hx)).trans H3.out.2.2.2 fun x _ hx => H.out.2.1 x hx

set_option maxHeartbeats 4000000 in
set_option maxRecDepth 100000 in
theorem len_any (w : World) (cb : Nat) (lo hi cm st : Int) (L : List Int) (G : Nat → Prop) (h : SetC w cb lo hi L cm st G) :
    Calls Try.prog 15 #[.pointer (some ⟨cb, 0, none⟩)] w fun e w' => e = .returned (.int .i64 (L.length : Int)) ∧ w' = w := by
  obtain ⟨es, hr, rfl, hG⟩ := h
  have c5 := hr.hd.c2
  have hlt := hr.hd.lt
  rw [List.length_map]
  generalize (es.length : Int) = n at *
  go_enter Try.func15, Try.ntmps15
  go_wp2_with fail
  go_ret
  exact ⟨rfl, rfl⟩
set_option maxHeartbeats 4000000 in
set_option maxRecDepth 100000 in
theorem steps_any (w : World) (cb : Nat) (lo hi cm st : Int) (L : List Int) (G : Nat → Prop) (h : SetC w cb lo hi L cm st G) :
    Calls Try.prog 22 #[.pointer (some ⟨cb, 0, none⟩)] w fun e w' => e = .returned (.int .i64 st) ∧ w' = w := by
  obtain ⟨es, hr, rfl, hG⟩ := h
  have c5 := hr.s6
  have hlt := hr.hd.lt
  go_enter Try.func22, Try.ntmps22
  go_wp2_with fail
  go_ret
  exact ⟨rfl, rfl⟩
/-- May one of the counts be left? -/
def doneL (lo : Int) (L : List Int) : Bool := match L with | [] => false | x :: _ => decide (lo ≤ x)
set_option maxHeartbeats 4000000 in
set_option maxRecDepth 100000 in
theorem doneS_any (w : World) (cb : Nat) (lo hi cm st : Int) (L : List Int) (G : Nat → Prop) (h : SetC w cb lo hi L cm st G) (hB : ∀ x ∈ L, 0 ≤ x ∧ x < 10000000000) :
    Calls Try.prog 14 #[.pointer (some ⟨cb, 0, none⟩)] w fun e w' => e = .returned (.bool (doneL lo L)) ∧ Below w.heap.size w w' := by
  obtain ⟨es, hr, rfl, hG⟩ := h
  have c0 := hr.s0
  have c1 := hr.s1
  have c2 := hr.s2
  have c3 := hr.hd.c0
  have hlt := hr.hd.lt
  match es, hr, hB with
  | [], hr, hB =>
    simp only [nx, pe, List.getElem?_nil, Option.map_none] at c3
    go_enter Try.func14, Try.ntmps14
    go_wp2_with fail
    go_quiet (fail)
    go_wp2_with fail
    go_ret
    exact ⟨rfl, ((Chg.refl (fun _ => False) w).drewN _).below (Nat.le_refl _) fun _ _ => id⟩
  | (b, m) :: es, hr, hB =>
    have E := hr.q.ent 0 _ _ rfl
    have e0 := E.mrk
    have hlt2 := E.lt
    simp only [nx, pe, List.getElem?_cons_zero, Option.map_some] at c3
    have hb := hB (cm - m) (by simp)
    have w1 : IntKind.i64.wrap (cm - m) = cm - m := by rw [IntKind.wrap_i64]; omega
    go_enter Try.func14, Try.ntmps14
    go_wp2_with fail
    go_still_tail 16, (by kernel_rfl)
    change wpList _ _ _ _ _ w.drew
    go_wp2_with fail
    go_at_call 28
    refine (done_any lo hi (cm - m) _).mono ?_
    rintro e w3 ⟨rfl, hb3⟩
    have HB := Lib.hid (show Below w.heap.size w w3 from ((Below.refl _ w).drew).trans hb3)
    clear hb3
    go_wp2_with fail
    go_ret
    exact ⟨rfl, HB.out⟩

end Go.Proofs.Ytkkmopcmilgdoaa
