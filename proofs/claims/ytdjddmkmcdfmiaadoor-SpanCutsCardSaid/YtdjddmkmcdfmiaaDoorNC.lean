/- A range over a function that only reads between its rounds, and draws orders: a law for the walks.
   Conditions: those that the theorem states. -/
import Derived.Test.YtdjddmkmcdfmiaaDoorNA
import Derived.RangeFuncNested
import Derived.StillTailTactics
import Derived.OrdersIn

/- A range over a function that only reads between its rounds, whose body may write maps that lay ahead of the loop: two laws for the walks, at the top and within a round.
   Conditions: those that the theorems state. -/
namespace Go.Proofs.YtdjddmkmcdfmiaaDoor
open Go.RowKit Go.Shelf

def LeftW {α : Type} (B : Nat) (Kp : World → World → Prop) (I Ix : List α → World → Prop) (pre : List α) (x : α) (W : World) (e : Exit) (W' : World) : Prop :=
  match e with
  | .normal => KeepsFrom B W W' ∧ Kp W W' ∧ I (pre ++ [x]) W'
  | .ret => KeepsFrom B W W' ∧ Ix (pre ++ [x]) W'
  | _ => False
theorem rangeW_law {α : Type} {g : Operand} {ps : Array Tmp} {assign body : Code} {Q : Exit → Act → World → Prop} {a : Act} {w : World} {n gf : Nat} {lb : Array Value}
    (hg : a.eval g = .func (.func gf) #[] lb) (eg : ∀ args w, (callFunc gf args).run Tryd.prog w = .ok (.enter gf args) w)
    {encs : α → Array Value} {Kp : World → World → Prop} {xs : List α} (hit : IterR (n - 1) gf lb encs Kp xs w)
    (hKt : ∀ {A B C : World}, Kp A B → Kp B C → Kp A C) (hKb : ∀ (W : World) (l : Nat) (o o' : Obj), w.heap.size ≤ l → W.heap[l]? = some o → o.isCells = false → Kp W (W.putObj l o')) (hps : ∀ x, (encs x).size = ps.size)
    (I Ix : List α → World → Prop) (hI : Calm w.heap.size I) (hIx : Calm w.heap.size Ix) (h0 : I [] w)
    (hround : ∀ (l : Nat) (pre : List α) (x : α) (W : World), I pre W → (∃ post, xs = pre ++ x :: post) → w.heap.size < l → l < W.heap.size →
      assign.wpIn (Fence.wide.inRound l) (n - 1 - 1) Tryd.prog (Exit.then (fun a1 w1 => KeepsFrom w.heap.size W w1 ∧ Kp W w1 ∧ I pre w1 ∧ ∀ w2, Chg (fun k => k = l) w1 w2 → (∃ r, w2.heap[l]? = some (.loop r)) → I pre w2 → body.wpIn (Fence.wide.inRound l) (n - 1 - 1) Tryd.prog (fun e _ W' => LeftW w.heap.size Kp I Ix pre x w2 e W') a1 w2) (fun _ _ _ => False)) { tmps := (ps.zip (encs x)).foldl (fun t (p, v) => t.setIfInBounds p v) a.tmps, defers := [] } W)
    (hdone : ∀ (D : Nat) (W : World), I xs W → w.heap.size ≤ D → W.heap[D]? = some (.deferred (some [])) → Q .normal { a with defers := { target := .collected D, args := #[] } :: a.defers } W)
    (hstop : ∀ (D : Nat) (pre : List α) (x : α) (post : List α) (W : World), xs = pre ++ x :: post → Ix (pre ++ [x]) W → w.heap.size ≤ D → W.heap[D]? = some (.deferred (some [])) → Code.ret.wpIn Fence.wide n Tryd.prog Q { a with defers := { target := .collected D, args := #[] } :: a.defers } W) :
    (Code.rangeFunc g ps assign body).wpIn Fence.wide n Tryd.prog Q a w := by
  refine wpIn_rangeFunc fun fn hfn => ?_
  obtain ⟨lp, hlp⟩ : ∃ lp : LoopState → Option Code → Loop, lp = fun st pe => { state := st, pending := pe, fn, tmps := a.tmps, params := ps, assign, body, defers := w.heap.size } := ⟨_, rfl⟩
  have hbel : Below w.heap.size w ((w.alloc (.deferred (some []))).alloc (.loop (lp .ready none))) := ((Below.refl _ w).alloc (Nat.le_refl _) _).alloc (by simp) _
  have hL : ((w.alloc (.deferred (some []))).alloc (.loop (lp .ready none))).heap[w.heap.size + 1]? = some (.loop (lp .ready none)) := by
    have := World.alloc_heap_new (w.alloc (.deferred (some []))) (.loop (lp .ready none))
    rwa [World.size_alloc] at this
  have hD : ((w.alloc (.deferred (some []))).alloc (.loop (lp .ready none))).heap[w.heap.size]? = some (.deferred (some [])) := (Below.heap_alloc _ _ _ (by simp)).trans (World.alloc_heap_new w _)
  have hent := run_enterLoop_outer (P := Tryd.prog) (w := w) fn a.tmps ps assign body
  have hsz : ((w.alloc (.deferred (some []))).alloc (.loop (lp .ready none))).heap.size = w.heap.size + 2 := by simp
  have h1 : I [] ((w.alloc (.deferred (some []))).alloc (.loop (lp .ready none))) := hI _ _ _ w.heap.size h0 (Nat.le_refl _) (fun _ _ _ e => by simp at e) (((Chg.refl _ w).alloc _).alloc _)
  have hW : (w.alloc (.deferred (some []))).alloc (.loop { state := .ready, pending := none, fn, tmps := a.tmps, params := ps, assign, body, defers := w.heap.size }) = (w.alloc (.deferred (some []))).alloc (.loop (lp .ready none)) := by rw [hlp]
  rw [hW] at hent
  generalize (w.alloc (.deferred (some []))).alloc (.loop (lp .ready none)) = W1 at *
  refine ⟨w.heap.size + 1, [{ target := .collected w.heap.size, args := #[] }], W1, { target := .fn (.func gf) lb, args := #[.func (.yield (w.heap.size + 1)) #[] #[]] }, W1, gf, #[.func (.yield (w.heap.size + 1)) #[] #[]] ++ lb, W1, hent, ?_, fun _ _ => trivial, ?_, (fun h => by cases h), ?_⟩
  · simp only [resolve, hg]
    simp [go_sem]
  · simp [invoke, go_sem, eg]
  · refine (hit (w.heap.size + 1) (fun (pre : List α) (W : World) => I pre W ∧ W.heap[w.heap.size + 1]? = some (.loop (lp .ready none)) ∧ W.heap[w.heap.size]? = some (.deferred (some []))) (fun (pre : List α) (W : World) => Ix pre W ∧ W.heap[w.heap.size + 1]? = some (.loop (lp .done (some .ret))) ∧ W.heap[w.heap.size]? = some (.deferred (some []))) W1 hbel ?_ ⟨h1, hL, hD⟩).mono ?_
    · rintro pre x W ⟨q1, q2, q3⟩ hnext
      have hlt := (Array.getElem?_eq_some_iff.1 q2).1
      have hy := run_yield (P := Tryd.prog) (args := encs x) q2 (by rw [hlp]; exact hps x)
      rw [hlp] at hy
      refine ⟨fn, _, assign, body, hy, roundIn_of_wpIn trivial (wpIn_mono (hround _ pre x W q1 hnext (Nat.lt_succ_self _) hlt) ?_)⟩
      rintro e a3 w1 hp
      cases e with
      | normal =>
        obtain ⟨k1, k2, k3, k4⟩ := hp
        have l1 := k1.same _ _ (by omega) q2 rfl
        have d1 := k1.same _ _ (Nat.le_refl _) q3 rfl
        have hlt1 := (Array.getElem?_eq_some_iff.1 l1).1
        refine ⟨_, run_beginRound l1 (by rw [hlp]), ?_⟩
        have c2 : Chg (fun k => k = w.heap.size + 1) w1 (w1.putObj (w.heap.size + 1) (.loop { lp .ready none with state := .busy })) := chg_put _ _ _ rfl
        have i2 := hI _ _ _ _ k3 (by omega) (fun _ _ _ e => by rw [l1] at e; cases e) c2
        have l2 : (w1.putObj (w.heap.size + 1) (.loop { lp .ready none with state := .busy })).heap[w.heap.size + 1]? = some (.loop { lp .ready none with state := .busy }) := World.putObj_heap_same hlt1
        have d2 := (c2.block w.heap.size (Array.getElem?_eq_some_iff.1 d1).1 (by omega)).trans d1
        have kp2 : Kp w1 (w1.putObj (w.heap.size + 1) (.loop { lp .ready none with state := .busy })) := hKb _ _ _ _ (by omega) l1 rfl
        refine wpIn_mono (k4 _ c2 ⟨_, l2⟩ i2) ?_
        have fin : ∀ (jump : Option Code) (W3 : World), KeepsFrom w.heap.size (w1.putObj (w.heap.size + 1) (.loop { lp .ready none with state := .busy })) W3 →
            (Instr.endRound (w.heap.size + 1) jump).run Tryd.prog W3 = .ok (.bool jump.isNone) (W3.putObj (w.heap.size + 1) (.loop (lp (if jump.isNone then .ready else .done) jump))) ∧
            (W3.putObj (w.heap.size + 1) (.loop (lp (if jump.isNone then .ready else .done) jump))).heap[w.heap.size + 1]? = some (.loop (lp (if jump.isNone then .ready else .done) jump)) ∧
            (W3.putObj (w.heap.size + 1) (.loop (lp (if jump.isNone then .ready else .done) jump))).heap[w.heap.size]? = some (.deferred (some [])) ∧ W3.heap[w.heap.size + 1]? = some (.loop { lp .ready none with state := .busy }) := fun jump W3 k5 => by
          have l3 := k5.same _ _ (by omega) l2 rfl
          have d3 := k5.same _ _ (Nat.le_refl _) d2 rfl
          have hr := run_endRound (P := Tryd.prog) jump l3
          rw [hlp] at hr ⊢
          refine ⟨hr, World.putObj_heap_same (Array.getElem?_eq_some_iff.1 l3).1, (World.putObj_heap_other (by omega)).trans d3, ?_⟩
          rw [hlp] at l3
          exact l3
        rintro e a4 W3 hp
        cases e with
        | normal =>
          obtain ⟨k5, k6, k7⟩ := hp
          obtain ⟨r1, r2, r3, r4⟩ := fin none W3 k5
          exact ⟨_, _, r1, .inl ⟨rfl, ⟨hI _ _ _ _ k7 (by omega) (fun _ _ _ e => by rw [r4] at e; cases e) (chg_put _ _ _ rfl), r2, r3⟩, hKt (hKt (hKt k2 kp2) k6) (hKb _ _ _ _ (by omega) r4 rfl)⟩⟩
        | ret =>
          obtain ⟨k5, k7⟩ := hp
          obtain ⟨r1, r2, r3, r4⟩ := fin (some .ret) W3 k5
          exact ⟨_, _, r1, .inr ⟨rfl, hIx _ _ _ _ k7 (by omega) (fun _ _ _ e => by rw [r4] at e; cases e) (chg_put _ _ _ rfl), r2, r3⟩⟩
        | exit id => exact hp.elim
        | goto t => exact hp.elim
        | panic ch => exact hp.elim
        | outgrown => exact hp.elim
      | ret => exact hp.elim
      | exit id => exact hp.elim
      | goto t => exact hp.elim
      | panic ch => exact hp.elim
      | outgrown => exact hp.elim
    · rintro e W2 ⟨⟨v, rfl⟩, (⟨q1, q2, q3⟩ | ⟨pre, x, post, hx, q1, q2, q3⟩)⟩
      · refine ⟨none, _, by have := run_endLoop (P := Tryd.prog) q2 (by rw [hlp]; simp); rw [hlp] at this; exact this, ?_⟩
        exact hdone _ _ (hI _ _ _ _ q1 (by omega) (fun _ _ _ e => by rw [q2] at e; cases e) (chg_put _ _ _ rfl)) (Nat.le_refl _) ((World.putObj_heap_other (by omega)).trans q3)
      · refine ⟨some .ret, _, by have := run_endLoop (P := Tryd.prog) q2 (by rw [hlp]; simp); rw [hlp] at this; exact this, ?_⟩
        exact hstop _ pre x post _ hx (hIx _ _ _ _ q1 (by omega) (fun _ _ _ e => by rw [q2] at e; cases e) (chg_put _ _ _ rfl)) (Nat.le_refl _) ((World.putObj_heap_other (by omega)).trans q3)

theorem rangeN_law {α : Type} {g : Operand} {ps : Array Tmp} {assign body : Code} {Q : Exit → Act → World → Prop} {a : Act} {w : World} {n gf : Nat} {lb : Array Value} {l₀ : Nat} {r₀ : Loop} (hl₀ : w.heap[l₀]? = some (.loop r₀))
    (hg : a.eval g = .func (.func gf) #[] lb) (eg : ∀ args w, (callFunc gf args).run Tryd.prog w = .ok (.enter gf args) w)
    {encs : α → Array Value} {Kp : World → World → Prop} {xs : List α} (hit : IterR (n - 1) gf lb encs Kp xs w)
    (hKt : ∀ {A B C : World}, Kp A B → Kp B C → Kp A C) (hKb : ∀ (W : World) (l : Nat) (o o' : Obj), w.heap.size ≤ l → W.heap[l]? = some o → o.isCells = false → Kp W (W.putObj l o')) (hps : ∀ x, (encs x).size = ps.size)
    (I Ix : List α → World → Prop) (hI : Calm w.heap.size I) (hIx : Calm w.heap.size Ix) (h0 : I [] w)
    (hround : ∀ (l : Nat) (pre : List α) (x : α) (W : World), I pre W → (∃ post, xs = pre ++ x :: post) → w.heap.size ≤ l → l < W.heap.size →
      assign.wpIn (Fence.wide.inRound l) (n - 1 - 1) Tryd.prog (Exit.then (fun a1 w1 => KeepsFrom w.heap.size W w1 ∧ Kp W w1 ∧ I pre w1 ∧ ∀ w2, Chg (fun k => k = l) w1 w2 → (∃ r, w2.heap[l]? = some (.loop r)) → I pre w2 → body.wpIn (Fence.wide.inRound l) (n - 1 - 1) Tryd.prog (fun e _ W' => LeftW w.heap.size Kp I Ix pre x w2 e W') a1 w2) (fun _ _ _ => False)) { tmps := (ps.zip (encs x)).foldl (fun t (p, v) => t.setIfInBounds p v) a.tmps, defers := [] } W)
    (hdone : ∀ (W : World), I xs W → Q .normal a W)
    (hstop : ∀ (pre : List α) (x : α) (post : List α) (W : World), xs = pre ++ x :: post → Ix (pre ++ [x]) W → Code.ret.wpIn (Fence.wide.inRound l₀) n Tryd.prog Q a W) :
    (Code.rangeFunc g ps assign body).wpIn (Fence.wide.inRound l₀) n Tryd.prog Q a w := by
  refine wpIn_rangeFunc fun fn hfn => ?_
  obtain ⟨lp, hlp⟩ : ∃ lp : LoopState → Option Code → Loop, lp = fun st pe => { state := st, pending := pe, fn, tmps := a.tmps, params := ps, assign, body, defers := r₀.defers } := ⟨_, rfl⟩
  have hbel : Below w.heap.size w (w.alloc (.loop (lp .ready none))) := (Below.refl _ w).alloc (Nat.le_refl _) _
  have hL : (w.alloc (.loop (lp .ready none))).heap[w.heap.size]? = some (.loop (lp .ready none)) := World.alloc_heap_new w _
  have hent := run_enterLoop_inner (P := Tryd.prog) (w := w) hl₀ fn a.tmps ps assign body
  have hsz : (w.alloc (.loop (lp .ready none))).heap.size = w.heap.size + 1 := by simp
  have h1 : I [] (w.alloc (.loop (lp .ready none))) := hI _ _ _ w.heap.size h0 (Nat.le_refl _) (fun _ _ _ e => by simp at e) ((Chg.refl _ w).alloc _)
  have hW : w.alloc (.loop { state := .ready, pending := none, fn, tmps := a.tmps, params := ps, assign, body, defers := r₀.defers }) = w.alloc (.loop (lp .ready none)) := by rw [hlp]
  rw [hW] at hent
  generalize w.alloc (.loop (lp .ready none)) = W1 at *
  refine ⟨w.heap.size, [], W1, { target := .fn (.func gf) lb, args := #[.func (.yield (w.heap.size)) #[] #[]] }, W1, gf, #[.func (.yield (w.heap.size)) #[] #[]] ++ lb, W1, hent, ?_, fun _ _ => trivial, ?_, (fun h => by cases h), ?_⟩
  · simp only [resolve, hg]
    simp [go_sem]
  · simp [invoke, go_sem, eg]
  · refine (hit (w.heap.size) (fun (pre : List α) (W : World) => I pre W ∧ W.heap[w.heap.size]? = some (.loop (lp .ready none))) (fun (pre : List α) (W : World) => Ix pre W ∧ W.heap[w.heap.size]? = some (.loop (lp .done (some .ret)))) W1 hbel ?_ ⟨h1, hL⟩).mono ?_
    · rintro pre x W ⟨q1, q2⟩ hnext
      have hlt := (Array.getElem?_eq_some_iff.1 q2).1
      have hy := run_yield (P := Tryd.prog) (args := encs x) q2 (by rw [hlp]; exact hps x)
      rw [hlp] at hy
      refine ⟨fn, _, assign, body, hy, roundIn_of_wpIn trivial (wpIn_mono (hround _ pre x W q1 hnext (Nat.le_refl _) hlt) ?_)⟩
      rintro e a3 w1 hp
      cases e with
      | normal =>
        obtain ⟨k1, k2, k3, k4⟩ := hp
        have l1 := k1.same _ _ (by omega) q2 rfl
        have hlt1 := (Array.getElem?_eq_some_iff.1 l1).1
        refine ⟨_, run_beginRound l1 (by rw [hlp]), ?_⟩
        have c2 : Chg (fun k => k = w.heap.size) w1 (w1.putObj (w.heap.size) (.loop { lp .ready none with state := .busy })) := chg_put _ _ _ rfl
        have i2 := hI _ _ _ _ k3 (by omega) (fun _ _ _ e => by rw [l1] at e; cases e) c2
        have l2 : (w1.putObj (w.heap.size) (.loop { lp .ready none with state := .busy })).heap[w.heap.size]? = some (.loop { lp .ready none with state := .busy }) := World.putObj_heap_same hlt1
        have kp2 : Kp w1 (w1.putObj (w.heap.size) (.loop { lp .ready none with state := .busy })) := hKb _ _ _ _ (by omega) l1 rfl
        refine wpIn_mono (k4 _ c2 ⟨_, l2⟩ i2) ?_
        have fin : ∀ (jump : Option Code) (W3 : World), KeepsFrom w.heap.size (w1.putObj (w.heap.size) (.loop { lp .ready none with state := .busy })) W3 →
            (Instr.endRound (w.heap.size) jump).run Tryd.prog W3 = .ok (.bool jump.isNone) (W3.putObj (w.heap.size) (.loop (lp (if jump.isNone then .ready else .done) jump))) ∧
            (W3.putObj (w.heap.size) (.loop (lp (if jump.isNone then .ready else .done) jump))).heap[w.heap.size]? = some (.loop (lp (if jump.isNone then .ready else .done) jump)) ∧ W3.heap[w.heap.size]? = some (.loop { lp .ready none with state := .busy }) := fun jump W3 k5 => by
          have l3 := k5.same _ _ (by omega) l2 rfl
          have hr := run_endRound (P := Tryd.prog) jump l3
          rw [hlp] at hr ⊢
          refine ⟨hr, World.putObj_heap_same (Array.getElem?_eq_some_iff.1 l3).1, ?_⟩
          rw [hlp] at l3
          exact l3
        rintro e a4 W3 hp
        cases e with
        | normal =>
          obtain ⟨k5, k6, k7⟩ := hp
          obtain ⟨r1, r2, r4⟩ := fin none W3 k5
          exact ⟨_, _, r1, .inl ⟨rfl, ⟨hI _ _ _ _ k7 (by omega) (fun _ _ _ e => by rw [r4] at e; cases e) (chg_put _ _ _ rfl), r2⟩, hKt (hKt (hKt k2 kp2) k6) (hKb _ _ _ _ (by omega) r4 rfl)⟩⟩
        | ret =>
          obtain ⟨k5, k7⟩ := hp
          obtain ⟨r1, r2, r4⟩ := fin (some .ret) W3 k5
          exact ⟨_, _, r1, .inr ⟨rfl, hIx _ _ _ _ k7 (by omega) (fun _ _ _ e => by rw [r4] at e; cases e) (chg_put _ _ _ rfl), r2⟩⟩
        | exit id => exact hp.elim
        | goto t => exact hp.elim
        | panic ch => exact hp.elim
        | outgrown => exact hp.elim
      | ret => exact hp.elim
      | exit id => exact hp.elim
      | goto t => exact hp.elim
      | panic ch => exact hp.elim
      | outgrown => exact hp.elim
    · rintro e W2 ⟨⟨v, rfl⟩, (⟨q1, q2⟩ | ⟨pre, x, post, hx, q1, q2⟩)⟩
      · refine ⟨none, _, by have := run_endLoop (P := Tryd.prog) q2 (by rw [hlp]; simp); rw [hlp] at this; exact this, ?_⟩
        exact hdone _ (hI _ _ _ _ q1 (by omega) (fun _ _ _ e => by rw [q2] at e; cases e) (chg_put _ _ _ rfl))
      · refine ⟨some .ret, _, by have := run_endLoop (P := Tryd.prog) q2 (by rw [hlp]; simp); rw [hlp] at this; exact this, ?_⟩
        exact hstop pre x post _ hx (hIx _ _ _ _ q1 (by omega) (fun _ _ _ e => by rw [q2] at e; cases e) (chg_put _ _ _ rfl))

end Go.Proofs.YtdjddmkmcdfmiaaDoor

/- A region that draws its order, within a round of a loop: as one that stands in none, where nothing is deferred in it.
   Conditions: those that the theorems state. -/
namespace Go.Proofs.YtdjddmkmcdfmiaaDoor
open Go.RowKit

theorem opIn_of {l n : Nat} {P : Program} {o : Oper} {a : Act} {w : World} {K : Act → World → Prop} {Q : Exit → Act → World → Prop} (hd : ∀ c, o.op ≠ .defer c) (h : o.wp P a w K Q) :
    o.wpIn (Fence.wide.inRound l) n P a w K Q := by
  refine ⟨fun _ _ => trivial, ?_⟩
  rw [Oper.semAt_plain _ _ _ hd]
  unfold Oper.wp at h
  generalize (execOp a.eval o).run P w = r at h ⊢
  match r, h with
  | .ok (.value v) w', h => exact h
  | .ok .skip w', h => exact h
  | .ok (.defer d) w', h => exact h
  | .ok (.enter f args) w', h =>
    refine ⟨(fun h => by cases h), (callsIn_wide.2 h).mono ?_⟩
    intro e w2 h2
    cases e with
    | returned v => exact h2
    | panicked ch => exact h2
    | outgrown => exact h2
  | .ok (.row row args) w', h =>
    refine ⟨(fun h => by cases h), ?_⟩
    intro c cs _
    obtain ⟨v, w2, h1, h2⟩ := h c cs
    exact ⟨v, w2, h1, stepsIn_wide.2 h2⟩
  | .halt (.panic v) w', h => exact h
theorem wpAny_in {l n : Nat} {P : Program} {ops : Array Oper} {Q : Exit → Act → World → Prop} {md : Region.Mode} (hd : ∀ (i : Nat) (o : Oper), ops[i]? = some o → ∀ c, o.op ≠ .defer c) (hQ : ∀ a w, ¬ Q .outgrown a w) :
    ∀ (fuel : Nat) (s : Array Bool) (a : Act) (w : World), wpAny P md ops Q fuel s a w → wpAnyIn (Fence.wide.inRound l) n P md ops Q fuel s a w
  | 0, s, a, w, h => h
  | fuel + 1, s, a, w, h => by
    refine ⟨h.1, fun i hi => ?_⟩
    have h2 := h.2 i hi
    unfold wpOp at h2
    unfold wpOpIn
    cases ho : ops[i]? with
    | none =>
      simp only [ho] at h2 ⊢
      exact wpAny_in hd hQ fuel _ _ _ h2
    | some o =>
      simp only [ho] at h2 ⊢
      split
      · rename_i hw
        rw [if_pos hw] at h2
        rcases h2 with h2 | h2
        · exact opIn_of (hd i o ho) (Oper.wp_mono (fun a w h => wpAny_in hd hQ fuel _ a w h) h2)
        · obtain ⟨a', w', h3⟩ := h2.2
          exact absurd h3 (hQ a' w')
      · rename_i hw
        rw [if_neg hw] at h2
        exact ⟨fun _ _ => trivial, wpAny_in hd hQ fuel _ _ _ h2⟩
theorem noDefer_of {l : List Oper} (h : l.all (fun o => match o.op with | .defer _ => false | _ => true) = true) : ∀ (i : Nat) (o : Oper), l.toArray[i]? = some o → ∀ c, o.op ≠ .defer c := by
  intro i o ho c hc
  have hm : o ∈ l := List.mem_of_getElem? (by simpa using ho)
  have := List.all_eq_true.1 h o hm
  rw [hc] at this
  cases this
/-- A region whose operations but the last ones only read, within a round. -/
theorem regionIn_tail {lp k id : Nat} {P : Program} {Q : Exit → Act → World → Prop} {a : Act} {w : World} {l : List Oper} (n : Nat) (hm : P.follows .mixedOrders = true) (hB : Region.lexTailB .any l.toArray n = true)
    (hd : l.all (fun o => match o.op with | .defer _ => false | _ => true) = true) (hQ : ∀ a w, ¬ Q .outgrown a w)
    (h : wpStill P l.toArray (w.drew) (fun a' => wpList P l.toArray Q (l.drop n) a' w.drew) (l.take n) a) : (Code.region id l.toArray true).wpIn (Fence.wide.inRound lp) k P Q a w := by
  simp only [Region.lexTailB, Bool.and_eq_true, decide_eq_true_eq] at hB
  obtain ⟨⟨⟨⟨hsel, hn⟩, hs⟩, hc⟩, hlex⟩ := hB
  have hn' : n < l.length := by simpa using hn
  have htl : (l.take n).length = n := by simp; omega
  have hdl : (l.drop n).length = l.toArray.size - n := by simp
  have inv0 : HeadInv .any l.toArray n (Array.replicate l.toArray.size false) :=
    ⟨by simp, fun j oj _ hl => (by rw [getD_replicate_false] at hl; cases hl), fun t _ ht => getD_in (by simpa using ht) (getD_replicate_false _ _)⟩
  have H := wpAnyL_lex (md := .any) (g := l.toArray.size - n) hsel hs hc hn (l.take n) 0 _ a (fun j hj => by
    have hj' : j < n := by rw [htl] at hj; exact hj
    simp [hj']) (by simpa using htl) inv0 (by rw [htl]; exact hlex) h
  refine wpIn_region_any hm (wpAny_in (noDefer_of hd) hQ _ _ _ _ ?_)
  have := wpAny_of_head (Q' := Q) (g := l.toArray.size - n) (fun listed a' hL => by
    have := wpAny_of_seq (md := .any) (Q' := Q) (l.drop n) n listed a' w.drew (fun j => by simp [List.getElem?_drop]) (by rw [hdl]; exact hL.1) hL.2
    rwa [hdl] at this) _ _ _ H
  rw [htl, show n + (l.toArray.size - n) = l.toArray.size by omega] at this
  exact this

end Go.Proofs.YtdjddmkmcdfmiaaDoor

/- A range over a function that only reads between its rounds, and draws orders: a law for the walks.
   Conditions: those that the theorem states. -/
namespace Go.Proofs.YtdjddmkmcdfmiaaDoor
open Go.RowKit Go.Shelf

/-- The function g, called with a loop's yield, hands it xs, one after another, till it says no more; orders may be drawn between. -/
def IterD {α : Type} (n g : Nat) (lb : Array Value) (encs : α → Array Value) (Kp : World → World → Prop) (xs : List α) (w : World) : Prop :=
  ∀ (l : Nat) (J Jx : List α → World → Prop) (W : World), Below w.heap.size w W → (∀ s A, J s A → J s A.drew) →
    (∀ pre x W1, J pre W1 → (∃ post, xs = pre ++ x :: post) → YieldAt Fence.wide (n - 1) Tryd.prog l (encs x) W1 fun e W' =>
      (e = .returned (.bool true) ∧ J (pre ++ [x]) W' ∧ Kp W1 W') ∨ (e = .returned (.bool false) ∧ Jx (pre ++ [x]) W')) →
    J [] W →
    CallsIn Fence.wide n Tryd.prog g (#[.func (.yield l) #[] #[]] ++ lb) W fun e W' => (∃ v, e = .returned v) ∧ (J xs W' ∨ ∃ pre x post, xs = pre ++ x :: post ∧ Jx (pre ++ [x]) W')
theorem rangeD_law {α : Type} {g : Operand} {ps : Array Tmp} {assign body : Code} {Q : Exit → Act → World → Prop} {a : Act} {w : World} {n gf : Nat} {lb : Array Value}
    (hg : a.eval g = .func (.func gf) #[] lb) (eg : ∀ args w, (callFunc gf args).run Tryd.prog w = .ok (.enter gf args) w)
    {encs : α → Array Value} {Kp : World → World → Prop} {xs : List α} (hit : IterD (n - 1) gf lb encs Kp xs w)
    (hKt : ∀ {A B C : World}, Kp A B → Kp B C → Kp A C) (hKb : ∀ (W : World) (l : Nat) (o o' : Obj), w.heap.size ≤ l → W.heap[l]? = some o → o.isCells = false → Kp W (W.putObj l o')) (hps : ∀ x, (encs x).size = ps.size)
    (I Ix : List α → World → Prop) (hI : Calm w.heap.size I) (hIx : Calm w.heap.size Ix) (h0 : I [] w)
    (hround : ∀ (l : Nat) (pre : List α) (x : α) (W : World), I pre W → (∃ post, xs = pre ++ x :: post) → w.heap.size < l → l < W.heap.size →
      assign.wpIn (Fence.wide.inRound l) (n - 1 - 1) Tryd.prog (Exit.then (fun a1 w1 => KeepsOthers W w1 ∧ Kp W w1 ∧ I pre w1 ∧ ∀ w2, Chg (fun k => k = l) w1 w2 → I pre w2 → body.wpIn (Fence.wide.inRound l) (n - 1 - 1) Tryd.prog (fun e _ W' => Left Kp I Ix pre x w2 e W') a1 w2) (fun _ _ _ => False)) { tmps := (ps.zip (encs x)).foldl (fun t (p, v) => t.setIfInBounds p v) a.tmps, defers := [] } W)
    (hdone : ∀ (D : Nat) (W : World), I xs W → w.heap.size ≤ D → W.heap[D]? = some (.deferred (some [])) → Q .normal { a with defers := { target := .collected D, args := #[] } :: a.defers } W)
    (hstop : ∀ (D : Nat) (pre : List α) (x : α) (post : List α) (W : World), xs = pre ++ x :: post → Ix (pre ++ [x]) W → w.heap.size ≤ D → W.heap[D]? = some (.deferred (some [])) → Code.ret.wpIn Fence.wide n Tryd.prog Q { a with defers := { target := .collected D, args := #[] } :: a.defers } W) :
    (Code.rangeFunc g ps assign body).wpIn Fence.wide n Tryd.prog Q a w := by
  refine wpIn_rangeFunc fun fn hfn => ?_
  obtain ⟨lp, hlp⟩ : ∃ lp : LoopState → Option Code → Loop, lp = fun st pe => { state := st, pending := pe, fn, tmps := a.tmps, params := ps, assign, body, defers := w.heap.size } := ⟨_, rfl⟩
  have hbel : Below w.heap.size w ((w.alloc (.deferred (some []))).alloc (.loop (lp .ready none))) := ((Below.refl _ w).alloc (Nat.le_refl _) _).alloc (by simp) _
  have hL : ((w.alloc (.deferred (some []))).alloc (.loop (lp .ready none))).heap[w.heap.size + 1]? = some (.loop (lp .ready none)) := by
    have := World.alloc_heap_new (w.alloc (.deferred (some []))) (.loop (lp .ready none))
    rwa [World.size_alloc] at this
  have hD : ((w.alloc (.deferred (some []))).alloc (.loop (lp .ready none))).heap[w.heap.size]? = some (.deferred (some [])) := (Below.heap_alloc _ _ _ (by simp)).trans (World.alloc_heap_new w _)
  have hent := run_enterLoop_outer (P := Tryd.prog) (w := w) fn a.tmps ps assign body
  have hsz : ((w.alloc (.deferred (some []))).alloc (.loop (lp .ready none))).heap.size = w.heap.size + 2 := by simp
  have h1 : I [] ((w.alloc (.deferred (some []))).alloc (.loop (lp .ready none))) := hI _ _ _ w.heap.size h0 (Nat.le_refl _) (fun _ _ _ e => by simp at e) (((Chg.refl _ w).alloc _).alloc _)
  have hW : (w.alloc (.deferred (some []))).alloc (.loop { state := .ready, pending := none, fn, tmps := a.tmps, params := ps, assign, body, defers := w.heap.size }) = (w.alloc (.deferred (some []))).alloc (.loop (lp .ready none)) := by rw [hlp]
  rw [hW] at hent
  generalize (w.alloc (.deferred (some []))).alloc (.loop (lp .ready none)) = W1 at *
  refine ⟨w.heap.size + 1, [{ target := .collected w.heap.size, args := #[] }], W1, { target := .fn (.func gf) lb, args := #[.func (.yield (w.heap.size + 1)) #[] #[]] }, W1, gf, #[.func (.yield (w.heap.size + 1)) #[] #[]] ++ lb, W1, hent, ?_, fun _ _ => trivial, ?_, (fun h => by cases h), ?_⟩
  · simp only [resolve, hg]
    simp [go_sem]
  · simp [invoke, go_sem, eg]
  · refine (hit (w.heap.size + 1) (fun (pre : List α) (W : World) => I pre W ∧ W.heap[w.heap.size + 1]? = some (.loop (lp .ready none)) ∧ W.heap[w.heap.size]? = some (.deferred (some []))) (fun (pre : List α) (W : World) => Ix pre W ∧ W.heap[w.heap.size + 1]? = some (.loop (lp .done (some .ret))) ∧ W.heap[w.heap.size]? = some (.deferred (some []))) W1 hbel (fun s A h => ⟨hI s A A.drew (max w.heap.size A.heap.size) h.1 (Nat.le_max_left _ _) (fun c e fz he => by have := (Array.getElem?_eq_some_iff.1 he).1; have := Nat.le_max_right w.heap.size A.heap.size; omega) ((Chg.refl _ A).drew), h.2.1, h.2.2⟩) ?_ ⟨h1, hL, hD⟩).mono ?_
    · rintro pre x W ⟨q1, q2, q3⟩ hnext
      have hlt := (Array.getElem?_eq_some_iff.1 q2).1
      have hy := run_yield (P := Tryd.prog) (args := encs x) q2 (by rw [hlp]; exact hps x)
      rw [hlp] at hy
      refine ⟨fn, _, assign, body, hy, roundIn_of_wpIn trivial (wpIn_mono (hround _ pre x W q1 hnext (Nat.lt_succ_self _) hlt) ?_)⟩
      rintro e a3 w1 hp
      cases e with
      | normal =>
        obtain ⟨k1, k2, k3, k4⟩ := hp
        have l1 := k1.same _ _ q2 rfl
        have d1 := k1.same _ _ q3 rfl
        have hlt1 := (Array.getElem?_eq_some_iff.1 l1).1
        refine ⟨_, run_beginRound l1 (by rw [hlp]), ?_⟩
        have c2 : Chg (fun k => k = w.heap.size + 1) w1 (w1.putObj (w.heap.size + 1) (.loop { lp .ready none with state := .busy })) := chg_put _ _ _ rfl
        have i2 := hI _ _ _ _ k3 (by omega) (fun _ _ _ e => by rw [l1] at e; cases e) c2
        have l2 : (w1.putObj (w.heap.size + 1) (.loop { lp .ready none with state := .busy })).heap[w.heap.size + 1]? = some (.loop { lp .ready none with state := .busy }) := World.putObj_heap_same hlt1
        have d2 := (c2.block w.heap.size (Array.getElem?_eq_some_iff.1 d1).1 (by omega)).trans d1
        have kp2 : Kp w1 (w1.putObj (w.heap.size + 1) (.loop { lp .ready none with state := .busy })) := hKb _ _ _ _ (by omega) l1 rfl
        refine wpIn_mono (k4 _ c2 i2) ?_
        have fin : ∀ (jump : Option Code) (W3 : World), KeepsOthers (w1.putObj (w.heap.size + 1) (.loop { lp .ready none with state := .busy })) W3 →
            (Instr.endRound (w.heap.size + 1) jump).run Tryd.prog W3 = .ok (.bool jump.isNone) (W3.putObj (w.heap.size + 1) (.loop (lp (if jump.isNone then .ready else .done) jump))) ∧
            (W3.putObj (w.heap.size + 1) (.loop (lp (if jump.isNone then .ready else .done) jump))).heap[w.heap.size + 1]? = some (.loop (lp (if jump.isNone then .ready else .done) jump)) ∧
            (W3.putObj (w.heap.size + 1) (.loop (lp (if jump.isNone then .ready else .done) jump))).heap[w.heap.size]? = some (.deferred (some [])) ∧ W3.heap[w.heap.size + 1]? = some (.loop { lp .ready none with state := .busy }) := fun jump W3 k5 => by
          have l3 := k5.same _ _ l2 rfl
          have d3 := k5.same _ _ d2 rfl
          have hr := run_endRound (P := Tryd.prog) jump l3
          rw [hlp] at hr ⊢
          refine ⟨hr, World.putObj_heap_same (Array.getElem?_eq_some_iff.1 l3).1, (World.putObj_heap_other (by omega)).trans d3, ?_⟩
          rw [hlp] at l3
          exact l3
        rintro e a4 W3 hp
        cases e with
        | normal =>
          obtain ⟨k5, k6, k7⟩ := hp
          obtain ⟨r1, r2, r3, r4⟩ := fin none W3 k5
          exact ⟨_, _, r1, .inl ⟨rfl, ⟨hI _ _ _ _ k7 (by omega) (fun _ _ _ e => by rw [r4] at e; cases e) (chg_put _ _ _ rfl), r2, r3⟩, hKt (hKt (hKt k2 kp2) k6) (hKb _ _ _ _ (by omega) r4 rfl)⟩⟩
        | ret =>
          obtain ⟨k5, k7⟩ := hp
          obtain ⟨r1, r2, r3, r4⟩ := fin (some .ret) W3 k5
          exact ⟨_, _, r1, .inr ⟨rfl, hIx _ _ _ _ k7 (by omega) (fun _ _ _ e => by rw [r4] at e; cases e) (chg_put _ _ _ rfl), r2, r3⟩⟩
        | exit id => exact hp.elim
        | goto t => exact hp.elim
        | panic ch => exact hp.elim
        | outgrown => exact hp.elim
      | ret => exact hp.elim
      | exit id => exact hp.elim
      | goto t => exact hp.elim
      | panic ch => exact hp.elim
      | outgrown => exact hp.elim
    · rintro e W2 ⟨⟨v, rfl⟩, (⟨q1, q2, q3⟩ | ⟨pre, x, post, hx, q1, q2, q3⟩)⟩
      · refine ⟨none, _, by have := run_endLoop (P := Tryd.prog) q2 (by rw [hlp]; simp); rw [hlp] at this; exact this, ?_⟩
        exact hdone _ _ (hI _ _ _ _ q1 (by omega) (fun _ _ _ e => by rw [q2] at e; cases e) (chg_put _ _ _ rfl)) (Nat.le_refl _) ((World.putObj_heap_other (by omega)).trans q3)
      · refine ⟨some .ret, _, by have := run_endLoop (P := Tryd.prog) q2 (by rw [hlp]; simp); rw [hlp] at this; exact this, ?_⟩
        exact hstop _ pre x post _ hx (hIx _ _ _ _ q1 (by omega) (fun _ _ _ e => by rw [q2] at e; cases e) (chg_put _ _ _ rfl)) (Nat.le_refl _) ((World.putObj_heap_other (by omega)).trans q3)

end Go.Proofs.YtdjddmkmcdfmiaaDoor
