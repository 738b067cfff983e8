/- A range over a function whose own cells change between its rounds: a law for the walks.
   Conditions: those that the theorem states. -/
import Derived.Test.YtcnjogkgfdbhfaaRd
import Derived.RangeFuncNested
import Derived.RangeFuncBound
import Derived.RangeFuncCalls
import Derived.RangeFuncLeaves
import Derived.RangeFuncBox
import Derived.Shelf.Abstract
import Derived.OwnWalkIn
import Derived.TacticsInMore
import Derived.LoopNIn
import Derived.LoopIn
namespace Go.Proofs.Ytcnjogkgfdbhfaa
open Go.RowKit Go.Shelf

/-- J is kept, whatever becomes of the blocks from number B on. -/
def Abide {β : Type} (B : Nat) (J : β → World → Prop) : Prop := ∀ s W W', J s W → Chg (fun k => B ≤ k) W W' → J s W'
/-- The function g, called with a loop's yield, hands it xs, one after another, till it says no more. -/
def Iter {α : Type} (n g : Nat) (lb : Array Value) (encs : α → Array Value) (Kp : World → World → Prop) (xs : List α) (w : World) : Prop :=
  ∀ (l : Nat) (J Jx : List α → World → Prop) (W : World), Below w.heap.size w W → Abide W.heap.size J → Abide W.heap.size Jx →
    (∀ pre x W1, J pre W1 → (∃ post, xs = pre ++ x :: post) → YieldAt Fence.wide (n - 1) Try.prog l (encs x) W1 fun e W' =>
      (e = .returned (.bool true) ∧ J (pre ++ [x]) W' ∧ Kp W1 W') ∨ (e = .returned (.bool false) ∧ Jx (pre ++ [x]) W')) →
    J [] W →
    CallsIn Fence.wide n Try.prog g (#[.func (.yield l) #[] #[]] ++ lb) W fun e W' => (∃ v, e = .returned v) ∧ (J xs W' ∨ ∃ pre x post, xs = pre ++ x :: post ∧ Jx (pre ++ [x]) W')
/-- How a round is left: it goes on, or the loop is over by a return. -/
def Left {α : Type} (Kp : World → World → Prop) (I Ix : List α → World → Prop) (pre : List α) (x : α) (W : World) (e : Exit) (W' : World) : Prop :=
  match e with
  | .normal => KeepsOthers W W' ∧ Kp W W' ∧ I (pre ++ [x]) W'
  | .ret => KeepsOthers W W' ∧ Ix (pre ++ [x]) W'
  | _ => False
theorem chg_put {R : Nat → Prop} (W : World) (l : Nat) (o : Obj) (h : R l) : Chg R W (W.putObj l o) := (Chg.refl R W).grown (grownBy_putObj' W l o) (fun k hk _ => by injection hk with hk; subst hk; exact h)

theorem range_law {α : Type} {g : Operand} {ps : Array Tmp} {assign body : Code} {Q : Exit → Act → World → Prop} {a : Act} {w : World} {n gf : Nat} {lb : Array Value}
    (hg : a.eval g = .func (.func gf) #[] lb) (eg : ∀ args w, (callFunc gf args).run Try.prog w = .ok (.enter gf args) w)
    {encs : α → Array Value} {Kp : World → World → Prop} {xs : List α} (hit : Iter (n - 1) gf lb encs Kp xs w)
    (hKt : ∀ {A B C : World}, Kp A B → Kp B C → Kp A C) (hKb : ∀ (W : World) (l : Nat) (o o' : Obj), w.heap.size ≤ l → W.heap[l]? = some o → o.isCells = false → Kp W (W.putObj l o')) (hps : ∀ x, (encs x).size = ps.size)
    (I Ix : List α → World → Prop) (hI : Abide w.heap.size I) (hIx : Abide w.heap.size Ix) (h0 : I [] w)
    (hround : ∀ (l : Nat) (pre : List α) (x : α) (W : World), I pre W → (∃ post, xs = pre ++ x :: post) → w.heap.size < l → l < W.heap.size →
      assign.wpIn (Fence.wide.inRound l) (n - 1 - 1) Try.prog (Exit.then (fun a1 w1 => KeepsOthers W w1 ∧ Kp W w1 ∧ I pre w1 ∧ ∀ w2, Chg (fun k => k = l) w1 w2 → I pre w2 → body.wpIn (Fence.wide.inRound l) (n - 1 - 1) Try.prog (fun e _ W' => Left Kp I Ix pre x w2 e W') a1 w2) (fun _ _ _ => False)) { tmps := (ps.zip (encs x)).foldl (fun t (p, v) => t.setIfInBounds p v) a.tmps, defers := [] } W)
    (hdone : ∀ (D : Nat) (W : World), I xs W → w.heap.size ≤ D → W.heap[D]? = some (.deferred (some [])) → Q .normal { a with defers := { target := .collected D, args := #[] } :: a.defers } W)
    (hstop : ∀ (D : Nat) (pre : List α) (x : α) (post : List α) (W : World), xs = pre ++ x :: post → Ix (pre ++ [x]) W → w.heap.size ≤ D → W.heap[D]? = some (.deferred (some [])) → Code.ret.wpIn Fence.wide n Try.prog Q { a with defers := { target := .collected D, args := #[] } :: a.defers } W) :
    (Code.rangeFunc g ps assign body).wpIn Fence.wide n Try.prog Q a w := by
  refine wpIn_rangeFunc fun fn hfn => ?_
  obtain ⟨lp, hlp⟩ : ∃ lp : LoopState → Option Code → Loop, lp = fun st pe => { state := st, pending := pe, fn, tmps := a.tmps, params := ps, assign, body, defers := w.heap.size } := ⟨_, rfl⟩
  have hbel : Below w.heap.size w ((w.alloc (.deferred (some []))).alloc (.loop (lp .ready none))) := ((Below.refl _ w).alloc (Nat.le_refl _) _).alloc (by simp) _
  have hL : ((w.alloc (.deferred (some []))).alloc (.loop (lp .ready none))).heap[w.heap.size + 1]? = some (.loop (lp .ready none)) := by
    have := World.alloc_heap_new (w.alloc (.deferred (some []))) (.loop (lp .ready none))
    rwa [World.size_alloc] at this
  have hD : ((w.alloc (.deferred (some []))).alloc (.loop (lp .ready none))).heap[w.heap.size]? = some (.deferred (some [])) := (Below.heap_alloc _ _ _ (by simp)).trans (World.alloc_heap_new w _)
  have hent := run_enterLoop_outer (P := Try.prog) (w := w) fn a.tmps ps assign body
  have hsz : ((w.alloc (.deferred (some []))).alloc (.loop (lp .ready none))).heap.size = w.heap.size + 2 := by simp
  have h1 : I [] ((w.alloc (.deferred (some []))).alloc (.loop (lp .ready none))) := hI _ _ _ h0 (((Chg.refl _ w).alloc _).alloc _)
  have hW : (w.alloc (.deferred (some []))).alloc (.loop { state := .ready, pending := none, fn, tmps := a.tmps, params := ps, assign, body, defers := w.heap.size }) = (w.alloc (.deferred (some []))).alloc (.loop (lp .ready none)) := by rw [hlp]
  rw [hW] at hent
  generalize (w.alloc (.deferred (some []))).alloc (.loop (lp .ready none)) = W1 at *
  refine ⟨w.heap.size + 1, [{ target := .collected w.heap.size, args := #[] }], W1, { target := .fn (.func gf) lb, args := #[.func (.yield (w.heap.size + 1)) #[] #[]] }, W1, gf, #[.func (.yield (w.heap.size + 1)) #[] #[]] ++ lb, W1, hent, ?_, fun _ _ => trivial, ?_, (fun h => by cases h), ?_⟩
  · simp only [resolve, hg]
    simp [go_sem]
  · simp [invoke, go_sem, eg]
  · have hab : ∀ (I' : List α → World → Prop) (st : LoopState) (pe : Option Code), Abide w.heap.size I' → Abide W1.heap.size (fun (pre : List α) (W : World) => I' pre W ∧ W.heap[w.heap.size + 1]? = some (.loop (lp st pe)) ∧ W.heap[w.heap.size]? = some (.deferred (some []))) := fun I' st pe hI' s A B hs hc => by
      obtain ⟨q1, q2, q3⟩ := hs
      refine ⟨hI' s A B q1 (hc.mono fun x _ hx => by omega), (hc.block _ (Array.getElem?_eq_some_iff.1 q2).1 (by omega)).trans q2, (hc.block _ (Array.getElem?_eq_some_iff.1 q3).1 (by omega)).trans q3⟩
    refine (hit (w.heap.size + 1) _ _ W1 hbel (hab I .ready none hI) (hab Ix .done (some .ret) hIx) ?_ ⟨h1, hL, hD⟩).mono ?_
    · rintro pre x W ⟨q1, q2, q3⟩ hnext
      have hlt := (Array.getElem?_eq_some_iff.1 q2).1
      have hy := run_yield (P := Try.prog) (args := encs x) q2 (by rw [hlp]; exact hps x)
      rw [hlp] at hy
      refine ⟨fn, _, assign, body, hy, roundIn_of_wpIn trivial (wpIn_mono (hround _ pre x W q1 hnext (Nat.lt_succ_self _) hlt) ?_)⟩
      rintro e a3 w1 hp
      cases e with
      | normal =>
        obtain ⟨k1, k2, k3, k4⟩ := hp
        have l1 := k1.same _ _ q2 rfl
        have d1 := k1.same _ _ q3 rfl
        have hlt1 := (Array.getElem?_eq_some_iff.1 l1).1
        refine ⟨_, run_beginRound l1 (by rw [hlp]), ?_⟩
        have c2 : Chg (fun k => k = w.heap.size + 1) w1 (w1.putObj (w.heap.size + 1) (.loop { lp .ready none with state := .busy })) := chg_put _ _ _ rfl
        have i2 := hI _ _ _ k3 (c2.mono fun x _ hx => by omega)
        have l2 : (w1.putObj (w.heap.size + 1) (.loop { lp .ready none with state := .busy })).heap[w.heap.size + 1]? = some (.loop { lp .ready none with state := .busy }) := World.putObj_heap_same hlt1
        have d2 := (c2.block w.heap.size (Array.getElem?_eq_some_iff.1 d1).1 (by omega)).trans d1
        have kp2 : Kp w1 (w1.putObj (w.heap.size + 1) (.loop { lp .ready none with state := .busy })) := hKb _ _ _ _ (by omega) l1 rfl
        refine wpIn_mono (k4 _ c2 i2) ?_
        have fin : ∀ (jump : Option Code) (W3 : World), KeepsOthers (w1.putObj (w.heap.size + 1) (.loop { lp .ready none with state := .busy })) W3 →
            (Instr.endRound (w.heap.size + 1) jump).run Try.prog W3 = .ok (.bool jump.isNone) (W3.putObj (w.heap.size + 1) (.loop (lp (if jump.isNone then .ready else .done) jump))) ∧
            (W3.putObj (w.heap.size + 1) (.loop (lp (if jump.isNone then .ready else .done) jump))).heap[w.heap.size + 1]? = some (.loop (lp (if jump.isNone then .ready else .done) jump)) ∧
            (W3.putObj (w.heap.size + 1) (.loop (lp (if jump.isNone then .ready else .done) jump))).heap[w.heap.size]? = some (.deferred (some [])) ∧ W3.heap[w.heap.size + 1]? = some (.loop { lp .ready none with state := .busy }) := fun jump W3 k5 => by
          have l3 := k5.same _ _ l2 rfl
          have d3 := k5.same _ _ d2 rfl
          have hr := run_endRound (P := Try.prog) jump l3
          rw [hlp] at hr ⊢
          refine ⟨hr, World.putObj_heap_same (Array.getElem?_eq_some_iff.1 l3).1, (World.putObj_heap_other (by omega)).trans d3, ?_⟩
          rw [hlp] at l3
          exact l3
        rintro e a4 W3 hp
        cases e with
        | normal =>
          obtain ⟨k5, k6, k7⟩ := hp
          obtain ⟨r1, r2, r3, r4⟩ := fin none W3 k5
          exact ⟨_, _, r1, .inl ⟨rfl, ⟨hI _ _ _ k7 (chg_put _ _ _ (by omega)), r2, r3⟩, hKt (hKt (hKt k2 kp2) k6) (hKb _ _ _ _ (by omega) r4 rfl)⟩⟩
        | ret =>
          obtain ⟨k5, k7⟩ := hp
          obtain ⟨r1, r2, r3, r4⟩ := fin (some .ret) W3 k5
          exact ⟨_, _, r1, .inr ⟨rfl, hIx _ _ _ k7 (chg_put _ _ _ (by omega)), r2, r3⟩⟩
        | exit id => exact hp.elim
        | goto t => exact hp.elim
        | panic ch => exact hp.elim
        | outgrown => exact hp.elim
      | ret => exact hp.elim
      | exit id => exact hp.elim
      | goto t => exact hp.elim
      | panic ch => exact hp.elim
      | outgrown => exact hp.elim
    · rintro e W2 ⟨⟨v, rfl⟩, (⟨q1, q2, q3⟩ | ⟨pre, x, post, hx, q1, q2, q3⟩)⟩
      · refine ⟨none, _, by have := run_endLoop (P := Try.prog) q2 (by rw [hlp]; simp); rw [hlp] at this; exact this, ?_⟩
        exact hdone _ _ (hI _ _ _ q1 (chg_put _ _ _ (by omega))) (Nat.le_refl _) ((World.putObj_heap_other (by omega)).trans q3)
      · refine ⟨some .ret, _, by have := run_endLoop (P := Try.prog) q2 (by rw [hlp]; simp); rw [hlp] at this; exact this, ?_⟩
        exact hstop _ pre x post _ hx (hIx _ _ _ q1 (chg_put _ _ _ (by omega))) (Nat.le_refl _) ((World.putObj_heap_other (by omega)).trans q3)

end Go.Proofs.Ytcnjogkgfdbhfaa
