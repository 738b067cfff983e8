/- What a tree is written as, by the program: a contract.
   Conditions: the tree lies in memory, and isn't too great; the call that makes a tree's pieces is as is said. -/
import Derived.Test.YtpibkalbnjgpaaaDoorRange
import Derived.Test.YtpibkalbnjgpaaaDoorNodes
import Derived.Test.YtpibkalbnjgpaaaDoorMForm
import Derived.Test.YtpibkalbnjgpaaaDoorSByte
import Derived.Test.YtpibkalbnjgpaaaDoorShelf
import Derived.Lib.FrozenHead2
import Derived.Lib.OthersKept
import Derived.Deep.LoopGhost
import Derived.Maps.OwnIn

/- A range over a function that only reads between its rounds: a law for the walks; the loop's own memory may be new.
   Conditions: those that the theorem states. -/
namespace Go.Proofs.YtpibkalbnjgpaaaDoor
open Go.RowKit Go.Shelf

/-- J is kept where a block from number B on that is no row of cells is touched. -/
def Calm {β : Type} (B : Nat) (J : β → World → Prop) : Prop := ∀ s W W' (l : Nat), J s W → B ≤ l → (∀ c e fz, W.heap[l]? ≠ some (.cells c e fz)) → Chg (fun k => k = l) W W' → J s W'
/-- The function g, called with a loop's yield, hands it xs, one after another, till it says no more. -/
def IterR {α : Type} (n g : Nat) (lb : Array Value) (encs : α → Array Value) (Kp : World → World → Prop) (xs : List α) (w : World) : Prop :=
  ∀ (l : Nat) (J Jx : List α → World → Prop) (W : World), Below w.heap.size w W →
    (∀ pre x W1, J pre W1 → (∃ post, xs = pre ++ x :: post) → YieldAt Fence.wide (n - 1) Tryd.prog l (encs x) W1 fun e W' =>
      (e = .returned (.bool true) ∧ J (pre ++ [x]) W' ∧ Kp W1 W') ∨ (e = .returned (.bool false) ∧ Jx (pre ++ [x]) W')) →
    J [] W →
    CallsIn Fence.wide n Tryd.prog g (#[.func (.yield l) #[] #[]] ++ lb) W fun e W' => (∃ v, e = .returned v) ∧ (J xs W' ∨ ∃ pre x post, xs = pre ++ x :: post ∧ Jx (pre ++ [x]) W')
theorem rangeR_law {α : Type} {g : Operand} {ps : Array Tmp} {assign body : Code} {Q : Exit → Act → World → Prop} {a : Act} {w : World} {n gf : Nat} {lb : Array Value}
    (hg : a.eval g = .func (.func gf) #[] lb) (eg : ∀ args w, (callFunc gf args).run Tryd.prog w = .ok (.enter gf args) w)
    {encs : α → Array Value} {Kp : World → World → Prop} {xs : List α} (hit : IterR (n - 1) gf lb encs Kp xs w)
    (hKt : ∀ {A B C : World}, Kp A B → Kp B C → Kp A C) (hKb : ∀ (W : World) (l : Nat) (o o' : Obj), w.heap.size ≤ l → W.heap[l]? = some o → o.isCells = false → Kp W (W.putObj l o')) (hps : ∀ x, (encs x).size = ps.size)
    (I Ix : List α → World → Prop) (hI : Calm w.heap.size I) (hIx : Calm w.heap.size Ix) (h0 : I [] w)
    (hround : ∀ (l : Nat) (pre : List α) (x : α) (W : World), I pre W → (∃ post, xs = pre ++ x :: post) → w.heap.size < l → l < W.heap.size →
      assign.wpIn (Fence.wide.inRound l) (n - 1 - 1) Tryd.prog (Exit.then (fun a1 w1 => KeepsOthers W w1 ∧ Kp W w1 ∧ I pre w1 ∧ ∀ w2, Chg (fun k => k = l) w1 w2 → I pre w2 → body.wpIn (Fence.wide.inRound l) (n - 1 - 1) Tryd.prog (fun e _ W' => Left Kp I Ix pre x w2 e W') a1 w2) (fun _ _ _ => False)) { tmps := (ps.zip (encs x)).foldl (fun t (p, v) => t.setIfInBounds p v) a.tmps, defers := [] } W)
    (hdone : ∀ (D : Nat) (W : World), I xs W → w.heap.size ≤ D → W.heap[D]? = some (.deferred (some [])) → Q .normal { a with defers := { target := .collected D, args := #[] } :: a.defers } W)
    (hstop : ∀ (D : Nat) (pre : List α) (x : α) (post : List α) (W : World), xs = pre ++ x :: post → Ix (pre ++ [x]) W → w.heap.size ≤ D → W.heap[D]? = some (.deferred (some [])) → Code.ret.wpIn Fence.wide n Tryd.prog Q { a with defers := { target := .collected D, args := #[] } :: a.defers } W) :
    (Code.rangeFunc g ps assign body).wpIn Fence.wide n Tryd.prog Q a w := by
  refine wpIn_rangeFunc fun fn hfn => ?_
  obtain ⟨lp, hlp⟩ : ∃ lp : LoopState → Option Code → Loop, lp = fun st pe => { state := st, pending := pe, fn, tmps := a.tmps, params := ps, assign, body, defers := w.heap.size } := ⟨_, rfl⟩
  have hbel : Below w.heap.size w ((w.alloc (.deferred (some []))).alloc (.loop (lp .ready none))) := ((Below.refl _ w).alloc (Nat.le_refl _) _).alloc (by simp) _
  have hL : ((w.alloc (.deferred (some []))).alloc (.loop (lp .ready none))).heap[w.heap.size + 1]? = some (.loop (lp .ready none)) := by
    have := World.alloc_heap_new (w.alloc (.deferred (some []))) (.loop (lp .ready none))
    rwa [World.size_alloc] at this
  have hD : ((w.alloc (.deferred (some []))).alloc (.loop (lp .ready none))).heap[w.heap.size]? = some (.deferred (some [])) := (Below.heap_alloc _ _ _ (by simp)).trans (World.alloc_heap_new w _)
  have hent := run_enterLoop_outer (P := Tryd.prog) (w := w) fn a.tmps ps assign body
  have hsz : ((w.alloc (.deferred (some []))).alloc (.loop (lp .ready none))).heap.size = w.heap.size + 2 := by simp
  have h1 : I [] ((w.alloc (.deferred (some []))).alloc (.loop (lp .ready none))) := hI _ _ _ w.heap.size h0 (Nat.le_refl _) (fun _ _ _ e => by simp at e) (((Chg.refl _ w).alloc _).alloc _)
  have hW : (w.alloc (.deferred (some []))).alloc (.loop { state := .ready, pending := none, fn, tmps := a.tmps, params := ps, assign, body, defers := w.heap.size }) = (w.alloc (.deferred (some []))).alloc (.loop (lp .ready none)) := by rw [hlp]
  rw [hW] at hent
  generalize (w.alloc (.deferred (some []))).alloc (.loop (lp .ready none)) = W1 at *
  refine ⟨w.heap.size + 1, [{ target := .collected w.heap.size, args := #[] }], W1, { target := .fn (.func gf) lb, args := #[.func (.yield (w.heap.size + 1)) #[] #[]] }, W1, gf, #[.func (.yield (w.heap.size + 1)) #[] #[]] ++ lb, W1, hent, ?_, fun _ _ => trivial, ?_, (fun h => by cases h), ?_⟩
  · simp only [resolve, hg]
    simp [go_sem]
  · simp [invoke, go_sem, eg]
  · refine (hit (w.heap.size + 1) (fun (pre : List α) (W : World) => I pre W ∧ W.heap[w.heap.size + 1]? = some (.loop (lp .ready none)) ∧ W.heap[w.heap.size]? = some (.deferred (some []))) (fun (pre : List α) (W : World) => Ix pre W ∧ W.heap[w.heap.size + 1]? = some (.loop (lp .done (some .ret))) ∧ W.heap[w.heap.size]? = some (.deferred (some []))) W1 hbel ?_ ⟨h1, hL, hD⟩).mono ?_
    · rintro pre x W ⟨q1, q2, q3⟩ hnext
      have hlt := (Array.getElem?_eq_some_iff.1 q2).1
      have hy := run_yield (P := Tryd.prog) (args := encs x) q2 (by rw [hlp]; exact hps x)
      rw [hlp] at hy
      refine ⟨fn, _, assign, body, hy, roundIn_of_wpIn trivial (wpIn_mono (hround _ pre x W q1 hnext (Nat.lt_succ_self _) hlt) ?_)⟩
      rintro e a3 w1 hp
      cases e with
      | normal =>
        obtain ⟨k1, k2, k3, k4⟩ := hp
        have l1 := k1.same _ _ q2 rfl
        have d1 := k1.same _ _ q3 rfl
        have hlt1 := (Array.getElem?_eq_some_iff.1 l1).1
        refine ⟨_, run_beginRound l1 (by rw [hlp]), ?_⟩
        have c2 : Chg (fun k => k = w.heap.size + 1) w1 (w1.putObj (w.heap.size + 1) (.loop { lp .ready none with state := .busy })) := chg_put _ _ _ rfl
        have i2 := hI _ _ _ _ k3 (by omega) (fun _ _ _ e => by rw [l1] at e; cases e) c2
        have l2 : (w1.putObj (w.heap.size + 1) (.loop { lp .ready none with state := .busy })).heap[w.heap.size + 1]? = some (.loop { lp .ready none with state := .busy }) := World.putObj_heap_same hlt1
        have d2 := (c2.block w.heap.size (Array.getElem?_eq_some_iff.1 d1).1 (by omega)).trans d1
        have kp2 : Kp w1 (w1.putObj (w.heap.size + 1) (.loop { lp .ready none with state := .busy })) := hKb _ _ _ _ (by omega) l1 rfl
        refine wpIn_mono (k4 _ c2 i2) ?_
        have fin : ∀ (jump : Option Code) (W3 : World), KeepsOthers (w1.putObj (w.heap.size + 1) (.loop { lp .ready none with state := .busy })) W3 →
            (Instr.endRound (w.heap.size + 1) jump).run Tryd.prog W3 = .ok (.bool jump.isNone) (W3.putObj (w.heap.size + 1) (.loop (lp (if jump.isNone then .ready else .done) jump))) ∧
            (W3.putObj (w.heap.size + 1) (.loop (lp (if jump.isNone then .ready else .done) jump))).heap[w.heap.size + 1]? = some (.loop (lp (if jump.isNone then .ready else .done) jump)) ∧
            (W3.putObj (w.heap.size + 1) (.loop (lp (if jump.isNone then .ready else .done) jump))).heap[w.heap.size]? = some (.deferred (some [])) ∧ W3.heap[w.heap.size + 1]? = some (.loop { lp .ready none with state := .busy }) := fun jump W3 k5 => by
          have l3 := k5.same _ _ l2 rfl
          have d3 := k5.same _ _ d2 rfl
          have hr := run_endRound (P := Tryd.prog) jump l3
          rw [hlp] at hr ⊢
          refine ⟨hr, World.putObj_heap_same (Array.getElem?_eq_some_iff.1 l3).1, (World.putObj_heap_other (by omega)).trans d3, ?_⟩
          rw [hlp] at l3
          exact l3
        rintro e a4 W3 hp
        cases e with
        | normal =>
          obtain ⟨k5, k6, k7⟩ := hp
          obtain ⟨r1, r2, r3, r4⟩ := fin none W3 k5
          exact ⟨_, _, r1, .inl ⟨rfl, ⟨hI _ _ _ _ k7 (by omega) (fun _ _ _ e => by rw [r4] at e; cases e) (chg_put _ _ _ rfl), r2, r3⟩, hKt (hKt (hKt k2 kp2) k6) (hKb _ _ _ _ (by omega) r4 rfl)⟩⟩
        | ret =>
          obtain ⟨k5, k7⟩ := hp
          obtain ⟨r1, r2, r3, r4⟩ := fin (some .ret) W3 k5
          exact ⟨_, _, r1, .inr ⟨rfl, hIx _ _ _ _ k7 (by omega) (fun _ _ _ e => by rw [r4] at e; cases e) (chg_put _ _ _ rfl), r2, r3⟩⟩
        | exit id => exact hp.elim
        | goto t => exact hp.elim
        | panic ch => exact hp.elim
        | outgrown => exact hp.elim
      | ret => exact hp.elim
      | exit id => exact hp.elim
      | goto t => exact hp.elim
      | panic ch => exact hp.elim
      | outgrown => exact hp.elim
    · rintro e W2 ⟨⟨v, rfl⟩, (⟨q1, q2, q3⟩ | ⟨pre, x, post, hx, q1, q2, q3⟩)⟩
      · refine ⟨none, _, by have := run_endLoop (P := Tryd.prog) q2 (by rw [hlp]; simp); rw [hlp] at this; exact this, ?_⟩
        exact hdone _ _ (hI _ _ _ _ q1 (by omega) (fun _ _ _ e => by rw [q2] at e; cases e) (chg_put _ _ _ rfl)) (Nat.le_refl _) ((World.putObj_heap_other (by omega)).trans q3)
      · refine ⟨some .ret, _, by have := run_endLoop (P := Tryd.prog) q2 (by rw [hlp]; simp); rw [hlp] at this; exact this, ?_⟩
        exact hstop _ pre x post _ hx (hIx _ _ _ _ q1 (by omega) (fun _ _ _ e => by rw [q2] at e; cases e) (chg_put _ _ _ rfl)) (Nat.le_refl _) ((World.putObj_heap_other (by omega)).trans q3)

end Go.Proofs.YtpibkalbnjgpaaaDoor

/- The pieces that a text is put together of; the library's going through a list of them from its end: a contract.
   Conditions: the list lies in memory, and the rounds leave it there. -/
namespace Go.Proofs.YtpibkalbnjgpaaaDoor
open Go.RowKit Go.Shelf
attribute [local go_sem] Oper.semAt_some

/-- A piece: a text, or a tree that lies there. -/
inductive Pc where
  | tx (s : ByteArray)
  | tr (b o : Nat) (t : V)
def Pc.str : Pc → ByteArray
  | .tx s => s
  | .tr _ _ _ => { data := #[] }
def Pc.ptr : Pc → Option Addr
  | .tx _ => none
  | .tr b o _ => some ⟨b, o, none⟩
def Pc.cells (p : Pc) : List Value := [.string p.str, .pointer p.ptr]
def pcs (l : List Pc) : List Value := l.flatMap Pc.cells
theorem pcs_nil : pcs [] = [] := rfl
theorem pcs_snoc (l : List Pc) (p : Pc) : pcs (l ++ [p]) = pcs l ++ [.string p.str, .pointer p.ptr] := by unfold pcs Pc.cells; simp
theorem pcs_append (a b : List Pc) : pcs (a ++ b) = pcs a ++ pcs b := by unfold pcs; simp
theorem pcs_length (l : List Pc) : (pcs l).length = l.length * 2 := by
  induction l with
  | nil => rfl
  | cons p l ih =>
    have : pcs (p :: l) = [.string p.str, .pointer p.ptr] ++ pcs l := by unfold pcs Pc.cells; simp
    rw [this, List.length_append, ih]
    simp
    omega
theorem pcs_at : ∀ (l : List Pc) (i : Nat) (p : Pc), l[i]? = some p → (pcs l)[i * 2]? = some (.string p.str) ∧ (pcs l)[i * 2 + 1]? = some (.pointer p.ptr)
  | [], i, p, h => by simp at h
  | q :: l, 0, p, h => by
    simp at h
    subst h
    exact ⟨rfl, rfl⟩
  | q :: l, i + 1, p, h => by
    have ih := pcs_at l i p (by simpa using h)
    have e : pcs (q :: l) = [.string q.str, .pointer q.ptr] ++ pcs l := by unfold pcs Pc.cells; simp
    rw [e, List.getElem?_append_right (by simp; omega), List.getElem?_append_right (by simp; omega)]
    simp only [List.length_cons, List.length_nil]
    rw [show (i + 1) * 2 - (0 + 1 + 1) = i * 2 by omega, show (i + 1) * 2 + 1 - (0 + 1 + 1) = i * 2 + 1 by omega]
    exact ih
/-- What comes, of a list that is told from its end on. -/
def back : List Pc → List (Nat × Pc)
  | [] => []
  | p :: l => (l.length, p) :: back l
def encsP (x : Nat × Pc) : Array Value := #[.int .i64 x.1, .agg #[.string x.2.str, .pointer x.2.ptr]]
/-- Both blocks lie as they lay. -/
def KpP (b g : Nat) (W W' : World) : Prop := W'.heap[b]? = W.heap[b]? ∧ W'.heap[g]? = W.heap[g]?
theorem kpP_t {b g : Nat} {A B C : World} (h : KpP b g A B) (k : KpP b g B C) : KpP b g A C := ⟨k.1.trans h.1, k.2.trans h.2⟩
theorem kpP_refl (b g : Nat) (W : World) : KpP b g W W := ⟨rfl, rfl⟩
theorem kpP_cell {b g j : Nat} {W W' : World} (h : KpP b g W W') : W'.cell? ⟨b, j, none⟩ = W.cell? ⟨b, j, none⟩ ∧ W'.cell? ⟨g, j, none⟩ = W.cell? ⟨g, j, none⟩ := ⟨World.cell?_of_block h.1, World.cell?_of_block h.2⟩

set_option maxRecDepth 100000 in
set_option maxHeartbeats 2000000 in
theorem back_iter (n : Nat) (bx g cap : Nat) (a : Option Addr) (L : List Pc) (w : World) (hlt : bx < w.heap.size) (hgl : g < w.heap.size) (hbx : w.cell? ⟨bx, 0, none⟩ = some (.slice a L.length cap)) (hL : L.length ≤ 1000000)
    (hrow : L ≠ [] → a = some ⟨g, 0, none⟩ ∧ ∀ j u, (pcs L)[j]? = some u → w.cell? ⟨g, j, none⟩ = some u) :
    IterR n 32 #[.pointer (some ⟨bx, 0, none⟩)] encsP (KpP bx g) (back L.reverse) w := by
  intro l J Jx W hb hY h0
  have hk0 : KpP bx g w W := ⟨hb.block _ hlt, hb.block _ hgl⟩
  have HY := Lib.hid hY
  have HR := Lib.hid hrow
  have HB := Lib.hid hbx
  clear hY hrow hb
  refine callsIn_of_wp Tryd.func32 rfl trivial ?_ rfl
  simp only [Tryd.ntmps32, List.size_toArray, List.length_cons, List.length_nil, Nat.reduceAdd, Nat.reduceSub, Array.replicate_succ, Array.replicate_zero, List.push_toArray, List.append_toArray, List.nil_append, List.cons_append]
  have hb0 : W.cell? ⟨bx, 0, none⟩ = some (.slice a L.length cap) := (kpP_cell hk0).1.trans hbx
  clear hbx
  gi_wp2
  gi_loopw [3] (fun x wr => ∃ (rest : List Pc) (pre : List (Nat × Pc)), x = .int .i64 ((rest.length : Int) - 1) ∧ back L.reverse = pre ++ back rest ∧ (∃ aft, L = rest.reverse ++ aft) ∧ J pre wr ∧ KpP bx g w wr) (fun x _ => match x with | .int _ m => (m + 1).toNat | _ => 0)
  case atStart => exact ⟨L.reverse, [], by simp, rfl, ⟨[], by simp⟩, h0, hk0⟩
  case round =>
    clear hb0 h0 hk0
    obtain ⟨rest, pre, rfl, hxs, haft, hJs, hkp⟩ := hrel
    cases rest with
    | nil =>
      have g1 : ¬ (0 : Int) ≤ -1 := by omega
      have HX := Lib.hid hxs
      simp only [List.length_nil]
      gi_wp2
      go_end0
      exact ⟨⟨_, rfl⟩, .inl (by first | (rw [HX.out]; simpa [back] using hJs) | simpa [back] using hJs)⟩
    | cons p rest =>
      obtain ⟨aft, hla⟩ := haft
      have hll : rest.length < L.length := by have := congrArg List.length hla; simp at this; omega
      have hne : L ≠ [] := by rw [hla]; simp
      obtain ⟨ha, hcs⟩ := HR.out hne
      have hat : L[rest.length]? = some p := by rw [hla]; simp
      obtain ⟨p1, p2⟩ := pcs_at L rest.length p hat
      have c0 := (kpP_cell (j := 0) hkp).1.trans HB.out
      have c1 := (kpP_cell (j := rest.length * 2) hkp).2.trans (hcs _ _ p1)
      have c2 := (kpP_cell (j := rest.length * 2 + 1) hkp).2.trans (hcs _ _ p2)
      rw [ha] at c0
      have m1 : (0 : Int) ≤ (rest.length : Int) := by omega
      have m2 : (rest.length : Int) < (L.length : Int) := by omega
      have m3 : ((rest.length + 1 : Nat) : Int) - 1 = (rest.length : Int) := by omega
      obtain ⟨fn, tmps, assign, body, hy, hRn⟩ := HY.out pre (rest.length, p) wr hJs ⟨back rest, by rw [hxs]; rfl⟩
      unfold encsP at hy
      simp only at hy
      have HX := Lib.hid (And.intro hxs (And.intro hla hkp))
      clear hxs hla hkp hcs p1 p2 hat ha hne hJs
      simp only [List.length_cons]
      rw [m3]
      gi_wp2
      refine ⟨(fun h => by cases h), hRn.mono ?_⟩
      rintro e W3 (⟨rfl, hJ3, hk3⟩ | ⟨rfl, hJx3⟩)
      · gi_wp2
        go_roundw
        case rel =>
          obtain ⟨h1, h2, h3⟩ := HX.out
          exact ⟨rest, pre ++ [(rest.length, p)], by simp, by rw [h1, List.append_assoc]; rfl, ⟨p :: aft, by rw [h2]; simp⟩, hJ3, kpP_t h3 hk3⟩
        case measure => simp
      · gi_wp2
        refine bodyPost_ret (results_none rfl _ _ _) rfl ?_
        exact ⟨⟨_, rfl⟩, .inr ⟨pre, (rest.length, p), back rest, by rw [HX.out.1]; rfl, hJx3⟩⟩

end Go.Proofs.YtpibkalbnjgpaaaDoor

/- What a tree is written as; the pieces of its text: plain facts.
   No conditions but those that each theorem states. -/
namespace Go.Proofs.YtpibkalbnjgpaaaDoor
open Go.RowKit

/-- The digits of a number, as they are written. -/
def decs (n : Nat) : List Nat := if 9 < n then decs (n / 10) ++ [48 + n % 10] else [48 + n]
termination_by n
theorem decs_big {n : Nat} (h : 9 < n) : decs n = decs (n / 10) ++ [48 + n % 10] := by rw [decs, if_pos h]
theorem decs_small {n : Nat} (h : ¬ 9 < n) : decs n = [48 + n] := by rw [decs, if_neg h]
/-- The last byte of the run that begins with b; so many steps at most. -/
def runEnd (C : Nat → Nat) : Nat → Nat → Nat
  | 0, b => b
  | n + 1, b => if b < 255 ∧ hasB C (b + 1) = true then runEnd C n (b + 1) else b
def runT (lo hi : Nat) : List Nat := if hi = lo then byT lo else if hi = lo + 1 then byT lo ++ byT hi else byT lo ++ 45 :: byT hi
/-- The runs from b on. -/
def runsT (C : Nat → Nat) : Nat → Nat → List Nat
  | 0, _ => []
  | n + 1, b => if b < 256 then (if hasB C b = true then runT b (runEnd C 256 b) ++ runsT C n (runEnd C 256 b + 1) else runsT C n (b + 1)) else []
/-- The bytes of a class, rising. -/
def memT (C : Nat → Nat) : List Nat := (List.range 256).filter fun b => hasB C b
def setT (C : Nat → Nat) : List Nat := match memT C with
  | [] => [91, 94, 92, 120, 48, 48, 45, 92, 120, 102, 102, 93]
  | [b] => byT b
  | _ => if (memT C).length = 256 then [46] else 91 :: (runsT C 256 0 ++ [93])
def timesT (lo hi : Int) : List Nat := if lo = 0 ∧ hi = -1 then [42] else if lo = 1 ∧ hi = -1 then [43] else if lo = 0 ∧ hi = 1 then [63] else
  123 :: (decs lo.toNat ++ ((if hi = lo then [] else if hi = -1 then [44] else 44 :: decs hi.toNat) ++ [125]))
def brk (p k : Int) (x : List Nat) : List Nat := if p = 3 ∨ (k ≠ 3 ∧ (p = 0 ∨ p = 2)) then 40 :: (x ++ [41]) else x
mutual
/-- What a formed tree is written as. -/
def textT : T → List Nat
  | .node k C lo hi ps => if k = 1 then setT C else belowT k true ps ++ (if k = 4 then timesT lo hi else [])
def belowT (k : Int) (first : Bool) : List T → List Nat
  | [] => []
  | p :: ps => (if first || decide (k ≠ 3) then [] else [124]) ++ (brk p.kind k (textT p) ++ belowT k false ps)
end
mutual
/-- How much there is to write, at most so many pieces. -/
def wtT : T → Nat
  | .node _ _ _ _ ps => wtsT ps + 3
def wtsT : List T → Nat
  | [] => 0
  | t :: ts => wtT t + 3 + wtsT ts
end
def rend : Pc → List Nat
  | .tx s => txt s
  | .tr _ _ t => textT (erase t)
def wtP : Pc → Nat
  | .tx _ => 1
  | .tr _ _ t => wtT (erase t)
def wtL : List Pc → Nat
  | [] => 0
  | p :: l => wtP p + wtL l
theorem wtT_pos (t : T) : 3 ≤ wtT t := by cases t; rw [wtT]; omega
theorem wt_pos (p : Pc) : 1 ≤ wtP p := by
  cases p with
  | tx s => exact Nat.le_refl _
  | tr b o t => show 1 ≤ wtT (erase t); have := wtT_pos (erase t); omega
theorem wtL_append (a b : List Pc) : wtL (a ++ b) = wtL a + wtL b := by
  induction a with
  | nil => simp [wtL]
  | cons p a ih => rw [List.cons_append, wtL, wtL, ih]; omega
theorem wtL_one (p : Pc) : wtL [p] = wtP p := by rw [wtL, wtL]; omega
theorem wtL_len (l : List Pc) : l.length ≤ wtL l := by
  induction l with
  | nil => simp
  | cons p l ih => rw [wtL, List.length_cons]; have := wt_pos p; omega
theorem wtL_rev (l : List Pc) : wtL l.reverse = wtL l := by
  induction l with
  | nil => rfl
  | cons p l ih => rw [List.reverse_cons, wtL_append, wtL_one, ih, wtL]; omega
/-- A piece is in order: a tree lies there, and is formed. -/
def okP (B : Nat) (S : T → Prop) (w : World) : Pc → Prop
  | .tx _ => True
  | .tr b o t => NodeB B w b o t ∧ okT (erase t) = true ∧ S (erase t)
theorem okP.chg {B : Nat} {S : T → Prop} {w w' : World} {p : Pc} (h : okP B S w p) (hc : Chg (fun x => B ≤ x) w w') : okP B S w' p := by
  cases p with
  | tx s => trivial
  | tr b o t => exact ⟨h.1.chg hc, h.2⟩
/-- What the call that makes a tree's pieces comes to. -/
def PartsR (B : Nat) (S : T → Prop) (t : V) (w : World) (e : Ending) (w' : World) : Prop :=
  ∃ (L : List Pc) (a : Option Addr) (cap : Nat), e = .returned (.slice a L.length cap) ∧ (L ≠ [] → ∃ g, a = some ⟨g, 0, none⟩ ∧ w.heap.size ≤ g ∧ g < w'.heap.size ∧ ∀ j u, (pcs L)[j]? = some u → w'.cell? ⟨g, j, none⟩ = some u) ∧
    (∀ p ∈ L, okP B S w' p) ∧ L.flatMap rend = textT (erase t) ∧ wtL L < wtT (erase t) ∧ Below w.heap.size w w'

end Go.Proofs.YtpibkalbnjgpaaaDoor

/- Writing to a Builder that the call has made: contracts.
   Conditions: the Builder is as is said, and what it holds is within Go's limit. -/
namespace Go.Proofs.YtpibkalbnjgpaaaDoor
open Go.RowKit

/-- The Builder in block b holds these bytes. -/
abbrev Bld (B b : Nat) (bs : List Value) (w : World) : Prop := Lib.IsBuilderF 44 5 B b bs w
abbrev BldAt (B b : Nat) (bs : List Value) (w : World) : Prop := Lib.BuilderAtF 44 5 B b (.pointer (some ⟨b, 0, none⟩)) bs w
theorem bldSize : (Tryd.prog.info? 44).map (·.size) = some 2 := by kernel_rfl
theorem bldByte : (Tryd.prog.info? 5).map (fun i => (i.zero, i.size, i.bytes)) = some (some (.int .u8 0), 1, 1) := by kernel_rfl

set_option maxHeartbeats 1000000 in
set_option maxRecDepth 100000 in
theorem copyCheck_any (B b : Nat) (bs : List Value) (w : World) (h : Bld B b bs w) :
    Calls Tryd.prog 31 #[.pointer (some ⟨b, 0, none⟩)] w fun e w' => e = .returned (.tuple #[]) ∧ BldAt B b bs w' ∧ Below B w w' ∧ Lib.OthersKept 5 (some b) w w' := by
  rcases h with h | h
  · have h0 := h.cell0
    have hsh := h.shape
    have hfz := h.frozen0
    have H := Lib.hid h
    obtain ⟨j, hj, hjs⟩ := Option.map_eq_some_iff.1 bldSize
    clear h
    go_enter Tryd.func31, Tryd.ntmps31
    go_wp2
    rw [Lib.run_to_unsafe w ⟨b, 0, none⟩ Tryd.underlying41 Tryd.underlying86 hj (by rw [hjs]; decide) hsh (Nat.zero_lt_succ 1)]
    simp only [Result.andThen]
    rw [Oper.upon_value]
    go_wp2
    rw [run_callFunc_extern Tryd.func43 (by kernel_rfl) (by kernel_rfl) (by kernel_rfl) (e := Extern.AbiNoEscape.same) (by kernel_rfl)]
    rw [Lib.run_noEscape]
    simp only [Result.andThen]
    rw [Oper.upon_value]
    go_wp2
    rw [Lib.run_from_unsafe w ⟨b, 0, none⟩ Tryd.underlying86 Tryd.underlying41 hj hsh (by kernel_rfl)]
    simp only [Result.andThen]
    rw [Oper.upon_value]
    go_wp2
    go_end0
    exact ⟨rfl, H.out.used _, (Below.refl B w).setCell (p := ⟨b, 0, none⟩) H.out.1 _, (Lib.OthersKept.refl _ _ w).setCell ⟨b, 0, none⟩ rfl _⟩
  · have h0 := h.cell0
    have H := Lib.hid h
    obtain ⟨j, hj, _⟩ := Option.map_eq_some_iff.1 bldSize
    clear h
    go_enter Tryd.func31, Tryd.ntmps31
    go_wp2
    rw [Lib.run_neq_ptr_same w _ Tryd.underlying41 hj]
    go_wp2
    go_end0
    exact ⟨rfl, H.out, Below.refl B _, Lib.OthersKept.refl _ _ _⟩

theorem str_cells (s : ByteArray) (l : List Nat) (h : txt s = l) : Lib.strCells s = l.map fun (x : Nat) => Value.int .u8 (x : Int) := by
  subst h
  unfold txt Lib.strCells
  simp
set_option maxHeartbeats 2000000 in
set_option maxRecDepth 100000 in
/-- A text is written behind what the Builder holds. -/
theorem writeString_any (B b : Nat) (bs : List Value) (s : ByteArray) (w : World) (h : Bld B b bs w) (hlen : bs.length + s.size ≤ 140737488355328) (hBw : B ≤ w.heap.size) :
    Calls Tryd.prog 19 #[.pointer (some ⟨b, 0, none⟩), .string s] w fun e w' => e = .returned (.tuple #[.int .i64 s.size, .nilIface]) ∧ BldAt B b (bs ++ Lib.strCells s) w' ∧ Below B w w' ∧ Lib.OthersKept 5 (some b) w w' := by
  obtain ⟨i0, hi, hz0, hz1, hz2⟩ := info_parts bldByte
  go_enter Tryd.func19, Tryd.ntmps19
  go_wp2_with (go_at_call 31; refine (copyCheck_any B b bs _ h).mono ?_)
  rintro e w1 ⟨rfl, h1, hb1, hk1⟩
  obtain ⟨hB, v, hbk, hown, hne⟩ := h1
  have c1 : w1.cell? ⟨b, 1, none⟩ = some v := by rw [Lib.cell_of_heap hbk]; rfl
  have hs1 := hb1.size
  go_wp2_with (at_builtin; refine Lib.wpList_append_own_stringF _ rfl _ _ 42 9 rfl B 5 i0 Tryd.underlying42 Tryd.underlying9 hi hz0 hz1 hz2 _ _ _ rfl hown s rfl ?c3 ?c4 ?c5 ?_)
  case c3 => unfold maxLen; omega
  case c4 => omega
  case c5 => omega
  intro v2 w2 hown2 hgrow _
  have hb2 : w2.heap[b]? = some (.cells #[.pointer (some ⟨b, 0, none⟩), v] 44 (0, 0)) := (hgrow.block b (Array.getElem?_eq_some_iff.1 hbk).1 (fun e => hne e.symm)).trans hbk
  have d1 : w2.cell? ⟨b, 1, none⟩ = some v := by rw [Lib.cell_of_heap hb2]; rfl
  have f1 : w2.frozen? ⟨b, 1, none⟩ = false := Lib.frozen_of_heap hb2 1
  obtain ⟨ao, n2, cap, rfl⟩ : ∃ ao n2 cap, v2 = .slice ao n2 cap := by
    rcases hown2.2 with ⟨e, _⟩ | ⟨g, cap, cur, fz, e, _⟩ <;> exact ⟨_, _, _, e⟩
  go_wp2
  go_ret2
  exact ⟨rfl, Lib.BuilderAtF.put (T := 44) (e := 5) hB hb2 (bs' := bs ++ Lib.strCells s) (by simpa [Lib.strCells_length] using hown2) (by decide),
    (hb1.grown hgrow (by omega) fun k hk => (hown.lt k hk).1).setCell (p := ⟨b, 1, none⟩) hB _, (hk1.grown hgrow (Lib.ownsRowF_kind hown)).setCell ⟨b, 1, none⟩ rfl _⟩

end Go.Proofs.YtpibkalbnjgpaaaDoor

/- What a tree is written as, by the program: a contract.
   Conditions: the tree lies in memory, and isn't too great; the call that makes a tree's pieces is as is said. -/
namespace Go.Proofs.YtpibkalbnjgpaaaDoor
open Go.RowKit Go.Shelf
attribute [local go_sem] nodeAgg encsP Oper.semAt_some

theorem below_hop {a b c : World} (h : Below a.heap.size a b) (k : Below b.heap.size b c) : Below a.heap.size a c := h.trans (k.mono h.size)
theorem bld_cells {B b : Nat} {bs : List Value} {w : World} (h : Bld B b bs w) : ∃ cs, w.heap[b]? = some (.cells cs 44 (0, 0)) := by
  rcases h with ⟨_, v, h, _⟩ | ⟨_, v, h, _⟩ <;> exact ⟨_, h⟩
theorem slice_block {g n cap b : Nat} (h : (Value.slice (some ⟨g, 0, none⟩) n cap).ownBlock = some b) : g = b := Option.some.inj h
theorem chg_low {B : Nat} {w w' : World} (h : Below B w w') : Chg (fun x => B ≤ x) w w' := ⟨h.os, h.tape, h.output, h.size, fun k _ hn => h.block k (by omega)⟩
/-- A Builder stays what it is where neither it nor a row of bytes is touched. -/
theorem bld_chg {B b : Nat} {bs : List Value} {w w' : World} {Q : Nat → Prop} (h : Bld B b bs w) (hc : Chg Q w w') (hQ : ∀ k c fz, w.heap[k]? = some (.cells c 5 fz) → ¬ Q k) (hb : ¬ Q b) : Bld B b bs w' := by
  have key : ∀ p, Lib.BuilderAtF 44 5 B b p bs w → Lib.BuilderAtF 44 5 B b p bs w' := by
    rintro p ⟨hB, v, hbk, hown, hne⟩
    refine ⟨hB, v, (hc.block b (Array.getElem?_eq_some_iff.1 hbk).1 hb).trans hbk, ⟨hown.1, ?_⟩, hne⟩
    rcases hown.2 with e | ⟨g, cap, cur, fz, rfl, h1, h2, rest⟩
    · exact .inl e
    · exact .inr ⟨g, cap, cur, fz, rfl, h1, (hc.block g (Array.getElem?_eq_some_iff.1 h2).1 (hQ g _ _ h2)).trans h2, rest⟩
  exact h.imp (key _) (key _)
/-- What a loop over a function leaves to be done at the end: nothing. -/
def mark (r : Nat) : Deferred := { target := .collected r, args := #[] }
def Marks (B : Nat) (rs : List Nat) (W : World) : Prop := rs.Nodup ∧ ∀ r ∈ rs, B ≤ r ∧ W.heap[r]? = some (.deferred (some []))
theorem leaves_marks {fn : Func} {tmps : Array Value} {R : Ending → World → Prop} {v : Value} {B : Nat} {W0 : World} (hres : ∀ W, (results fn tmps).run Tryd.prog W = .ok v W) :
    ∀ (rs : List Nat) (W : World), Marks B rs W → Below B W0 W → (∀ W', Below B W0 W' → R (.returned v) W') → LeavesInM Fence.wide 9 Tryd.prog fn tmps R (rs.map mark) .returning W
  | [], W, _, hb, hR => ⟨v, hres W, hR W hb⟩
  | r :: rs, W, hm, hb, hR => by
    obtain ⟨hnd, hm⟩ := hm
    have h0 := hm r (by simp)
    have hnd' := List.nodup_cons.1 hnd
    refine ⟨by simp, .inl ⟨r, W.putObj r (.deferred none), rfl, run_takeDeferred h0.2, ?_⟩⟩
    refine leaves_marks hres rs _ ⟨hnd'.2, fun x hx => ?_⟩ ?_ hR
    · have h1 := hm x (by simp [hx])
      exact ⟨h1.1, (World.putObj_heap_other (fun e => by subst e; exact hnd'.1 hx)).trans h1.2⟩
    · exact hb.trans ((chg_put (R := fun k => k = r) W r (.deferred none) rfl).below (by have := h0.1; have := (Array.getElem?_eq_some_iff.1 h0.2).1; omega) fun k hk e => by have e : k = r := e; have := h0.1; omega)

theorem marks_low {B : Nat} {rs : List Nat} {W W' : World} (h : Marks B rs W) (hk : ∀ (k : Nat) (o : Obj), W.heap[k]? = some o → (∀ c e fz, o ≠ Obj.cells c e fz) → W'.heap[k]? = some o) : Marks B rs W' :=
  ⟨h.1, fun r hr => ⟨(h.2 r hr).1, hk r _ (h.2 r hr).2 (fun _ _ _ e => by cases e)⟩⟩
set_option maxHeartbeats 1000000 in
set_option maxRecDepth 100000 in
theorem backward_any (a : Option Addr) (n c : Nat) (w : World) : Calls Tryd.prog 20 #[.slice a n c] w fun e w' => e = .returned (.func (.func 32) #[] #[.pointer (some ⟨w.heap.size, 0, none⟩)]) ∧ w' = w.alloc (.cells #[.slice a n c] 48) := by
  go_enter Tryd.func20, Tryd.ntmps20
  go_wp2
  go_ret
  exact ⟨rfl, rfl⟩

theorem own_others {bb base : Nat} {v : Value} {n : Nat} {xs : List Value} {w w' : World} (h : w.ownsRow base 47 2 v n xs) (k : Lib.OthersKept 5 (some bb) w w') (hb : v.ownBlock ≠ some bb) : w'.ownsRow base 47 2 v n xs := by
  refine ⟨h.1, ?_⟩
  rcases h.2 with hn | ⟨g, cap, cur, rfl, h1, hg, rest⟩
  · exact .inl hn
  · exact .inr ⟨g, cap, cur, rfl, h1, k g _ hg (fun e => hb (by rw [← e]; rfl)) (fun _ _ e => by injection e with _ e _; exact absurd e (by decide)), rest⟩
theorem own_kind {base e size n : Nat} {v : Value} {xs : List Value} {w : World} {g : Nat} (h : w.ownsRow base e size v n xs) (hg : v.ownBlock = some g) : ∃ cur, w.heap[g]? = some (.cells cur e (0, 0)) := by
  rcases h.2 with ⟨rfl, _⟩ | ⟨g2, cap, cur, rfl, h1, hg2, rest⟩
  · cases hg
  · injection hg with hg
    exact ⟨cur, by rw [← hg]; exact hg2⟩
theorem marks_set {bb : Nat} {rs : List Nat} {W : World} {v u : Value} {ty : TypeId} (h : Marks bb rs W) (hc : W.heap[bb + 2]? = some (.cells #[v] ty (0, 0))) (o : Obj) : Marks bb rs ((W.setCell ⟨bb + 2, 0, none⟩ u).alloc o) :=
  marks_low h fun k x hk hx => by
    have hne : k ≠ bb + 2 := fun e => by subst e; rw [hc] at hk; injection hk with hk; exact hx _ _ _ hk.symm
    have h1 : (W.setCell ⟨bb + 2, 0, none⟩ u).heap[k]? = some x := (Below.heap_setCell _ _ _ _ hne).trans hk
    exact (Below.heap_alloc _ _ _ (Array.getElem?_eq_some_iff.1 h1).1).trans h1
theorem back_snd (l : List Pc) : (back l).map Prod.snd = l := by
  induction l with
  | nil => rfl
  | cons p l ih => rw [back, List.map_cons, ih]
theorem back_len (l : List Pc) : (back l).length = l.length := by rw [← List.length_map (f := Prod.snd), back_snd]
/-- What holds between the rounds in which a tree's pieces are put behind the others. -/
def BI (bb : Nat) (l : List Pc) (g : Nat) (w4 : World) (pre : List (Nat × Pc)) (W : World) : Prop :=
  ∃ g2 cap, W.heap[bb + 2]? = some (.cells #[.slice (some ⟨g2, 0, none⟩) (l.length + pre.length : Nat) cap] 48 (0, 0)) ∧
    W.ownsRow (bb + 1) 47 2 (.slice (some ⟨g2, 0, none⟩) (l.length + pre.length) cap) (l.length + pre.length) (pcs (l ++ pre.map Prod.snd)) ∧ g2 ≠ bb + 2 ∧ (g2 = g ∨ w4.heap.size ≤ g2) ∧ Chg (fun x => x = bb + 2 ∨ x = g) w4 W
theorem bi_turn {bb g : Nat} {l : List Pc} {w4 : World} (hb : bb + 2 < w4.heap.size) : Calm w4.heap.size (BI bb l g w4) := by
  rintro pre W W' k ⟨g2, cap, h1, h2, h3, h4, h5⟩ hk hno hc
  refine ⟨g2, cap, (hc.block _ (Array.getElem?_eq_some_iff.1 h1).1 (fun e => by have e : bb + 2 = k := e; omega)).trans h1, own_chg h2 hc (fun b hb e => ?_), h3, h4, h5.trans hc fun x hx e => by have e : x = k := e; omega⟩
  have e : b = k := e
  subst e
  obtain ⟨cur, hcur⟩ := own_kind h2 hb
  exact hno _ _ _ hcur
theorem infoPart : (Tryd.prog.info? 47).map (fun i => (i.zero, i.size, i.bytes)) = some (some (.agg #[.string { data := #[] }, .pointer none]), 2, 24) := by kernel_rfl
/-- What holds at the head of the loop: what is still to be written, and what has been. -/
def TRel (bb : Nat) (S : T → Prop) (W0 : World) (tot : List Nat) (rs : List Nat) (n : Nat) (wr : World) : Prop :=
  ∃ (l : List Pc) (g cap : Nat) (acc : List UInt8), wr.heap[bb + 2]? = some (.cells #[.slice (some ⟨g, 0, none⟩) l.length cap] 48 (0, 0)) ∧
    wr.ownsRow (bb + 1) 47 2 (.slice (some ⟨g, 0, none⟩) l.length cap) l.length (pcs l) ∧ g ≠ bb + 2 ∧ Bld bb bb (Lib.byteCells acc) wr ∧ (∀ p ∈ l, okP bb S wr p) ∧
    acc.map UInt8.toNat ++ l.reverse.flatMap rend = tot ∧ wtL l = n ∧ n ≤ 1000000 ∧ Below bb W0 wr ∧ Marks bb rs wr
def TFrame (t : V) (sa : Option Addr) (sc : Nat) (n0 bb : Nat) (rs : List Nat) (a : Act) : Prop :=
  ∃ x5 x6 x8 x14 x15 x16 x17 x18 x19 x20 x21 x22 x23 x24 x25 x26 x27 x28 x29 x30 x31 x32 x33 x34 x35 x36 x37 x38 x39 x40 x41 x42 : Value, a = { tmps := #[.agg #[.int .i64 t.kind, .int .u64 (t.set 0 : Nat), .int .u64 (t.set 1 : Nat), .int .u64 (t.set 2 : Nat), .int .u64 (t.set 3 : Nat), .slice sa t.ps.length sc, .int .i64 t.lo, .int .i64 t.hi], .pointer (some ⟨n0, 0, none⟩), .string { data := #[] }, .pointer (some ⟨bb, 0, none⟩), .pointer (some ⟨bb + 2, 0, none⟩), x5, x6, undef, x8, .agg #[.int .i64 t.kind, .int .u64 (t.set 0 : Nat), .int .u64 (t.set 1 : Nat), .int .u64 (t.set 2 : Nat), .int .u64 (t.set 3 : Nat), .slice sa t.ps.length sc, .int .i64 t.lo, .int .i64 t.hi], .bool true, .bool false, .agg #[.string { data := #[] }, .pointer (some ⟨n0, 0, none⟩)], .slice (some ⟨bb + 1, 0, none⟩) 1 1, x14, x15, x16, x17, x18, x19, x20, x21, x22, x23, x24, x25, x26, x27, x28, x29, x30, x31, x32, x33, x34, x35, x36, x37, x38, x39, x40, x41, x42, undef], defers := rs.map mark }
def TInv (t : V) (S : T → Prop) (sa : Option Addr) (sc : Nat) (n0 bb : Nat) (W0 : World) (tot : List Nat) (n : Nat) (a : Act) (wr : World) : Prop := ∃ rs, TFrame t sa sc n0 bb rs a ∧ TRel bb S W0 tot rs n wr

set_option maxHeartbeats 8000000 in
set_option maxRecDepth 100000 in
theorem text_formed (S : T → Prop) (t : V) (w : World) (R : Nat → Prop) (hS : S (erase t)) (hl : Laid w R t) (hok : okT (erase t) = true) (hw : wtT (erase t) ≤ 1000000) (hlen : (textT (erase t)).length ≤ 1000000000) (hdep : dptV t ≤ 1000000)
    (hP : ∀ (B b o : Nat) (p : V) (W : World), NodeB B W b o p → okT (erase p) = true → S (erase p) → wtT (erase p) ≤ 1000000 → Below w.heap.size w W → Calls Tryd.prog 21 #[.pointer (some ⟨b, o, none⟩)] W (PartsR B S p W)) :
    Calls Tryd.prog 10 #[nodeAgg t] w (Wrote (textT (erase t)) w) := by
  obtain ⟨sa, sc, hv, _⟩ := laid_row' hl
  refine (callsIn_wide (n := 9)).1 (callsIn_of_wp_marks Tryd.func10 rfl trivial ?_ rfl)
  refine wpIn_wide.2 ?_
  simp only [Tryd.ntmps10, List.size_toArray, List.length_cons, List.length_nil, Nat.reduceAdd, Nat.reduceSub, Array.replicate_succ, Array.replicate_zero, List.push_toArray, List.append_toArray, List.nil_append, List.cons_append]
  simp only [nodeAgg]
  rw [hv]
  have hl1 : Laid (w.alloc (.cells #[.int .i64 t.kind, .int .u64 (t.set 0 : Nat), .int .u64 (t.set 1 : Nat), .int .u64 (t.set 2 : Nat), .int .u64 (t.set 3 : Nat), .slice sa t.ps.length sc, .int .i64 t.lo, .int .i64 t.hi] 27)) R t := hl.chg ((Chg.refl (fun _ => False) w).alloc _) fun _ _ _ => id
  have HF := Lib.hid (callsIn_wide.1 (formed_in t (w.alloc (.cells #[.int .i64 t.kind, .int .u64 (t.set 0 : Nat), .int .u64 (t.set 1 : Nat), .int .u64 (t.set 2 : Nat), .int .u64 (t.set 3 : Nat), .slice sa t.ps.length sc, .int .i64 t.lo, .int .i64 t.hi] 27)) sa t.ps.length sc hv R hl1 hdep))
  have HL := Lib.hid (And.intro hl (And.intro hok (And.intro hw (And.intro hlen hv))))
  have HP := Lib.hid hP
  clear hl hl1 hw hlen hdep hP
  go_wp2_with fail
  go_at_call 18
  refine HF.out.mono ?_
  rintro e w1 ⟨rfl, hb1⟩
  rw [hok]
  have hsz1 : w.heap.size < w1.heap.size := by have := hb1.size; simp at this; omega
  have hnd : #[.int .i64 t.kind, .int .u64 (t.set 0 : Nat), .int .u64 (t.set 1 : Nat), .int .u64 (t.set 2 : Nat), .int .u64 (t.set 3 : Nat), .slice sa t.ps.length sc, .int .i64 t.lo, .int .i64 t.hi] = (ndc t).toArray := by unfold ndc; rw [hv]
  have hbox : w1.heap[w.heap.size]? = some (.cells (ndc t).toArray 27 (0, 0)) := by
    rw [← hnd]
    exact (hb1.block _ (by simp)).trans (heap_alloc_new w _)
  have HB1 := Lib.hid (And.intro hb1 (And.intro hbox hsz1))
  clear hb1 hok hbox hnd HF
  obtain ⟨bb, hbb⟩ : ∃ bb, bb = w1.heap.size := ⟨_, rfl⟩
  obtain ⟨W0, hW0⟩ : ∃ W0, ((w1.alloc (.cells #[.pointer none, .slice none 0 0] 44)).alloc (.cells #[.string { data := #[] }, .pointer (some ⟨w.heap.size, 0, none⟩)] 47)).alloc (.cells #[.slice (some ⟨w1.heap.size + 1, 0, none⟩) 1 1] 48) = W0 := ⟨_, rfl⟩
  have hB0 : Below w1.heap.size w1 W0 := by rw [← hW0]; exact (((Below.refl _ _).alloc (Nat.le_refl _) _).alloc (by simp) _).alloc (by simp; omega) _
  have hz0 : W0.heap.size = bb + 3 := by rw [← hW0, hbb]; simp [World.size_alloc]
  have hst : TRel bb S W0 (textT (erase t)) [] (wtT (erase t)) W0 := by
    refine ⟨[.tr w.heap.size 0 t], bb + 1, 1, [], ?_, ?_, by omega, ?_, ?_, ?_, by rw [wtL_one]; rfl, HL.out.2.2.1, Below.refl _ _, ⟨List.nodup_nil, by simp⟩⟩
    · rw [← hW0, hbb]
      have e := heap_alloc_new ((w1.alloc (.cells #[.pointer none, .slice none 0 0] 44)).alloc (.cells #[.string { data := #[] }, .pointer (some ⟨w.heap.size, 0, none⟩)] 47)) (.cells #[.slice (some ⟨w1.heap.size + 1, 0, none⟩) 1 1] 48)
      rw [World.size_alloc, World.size_alloc] at e
      exact e
    · have e := World.ownsRow_lit (e := 47) (size := 2) (base := bb + 1) (w1.alloc (.cells #[.pointer none, .slice none 0 0] 44)) #[.string { data := #[] }, .pointer (some ⟨w.heap.size, 0, none⟩)] 1 (by simp; omega) (by unfold maxLen; omega) (by simp)
      rw [World.size_alloc, ← hbb] at e
      rw [← hW0, ← hbb]
      exact own_chg e ((Chg.refl (fun _ => False) _).alloc _) (fun _ _ => id)
    · rw [← hW0, hbb]
      exact (((Lib.IsBuilderF.of (Lib.fresh_isBuilder 44 5 w1)).alloc _).alloc _)
    · intro p hp
      simp at hp
      subst hp
      refine ⟨⟨by rw [hbb]; exact HB1.out.2.2, fun j u hu => ?_, ?_⟩, HL.out.2.1, hS⟩
      · rw [Nat.zero_add, (hB0.cell (p := ⟨w.heap.size, j, none⟩) HB1.out.2.2), (row_cells HB1.out.2.1).1 j, List.getElem?_toArray]
        exact hu
      · have hz := HB1.out.2.2
        refine HL.out.1.keep (fun x hx _ => by omega) (by have := hB0.size; omega) fun x hx _ => ?_
        exact (hB0.block x (by omega)).trans ((HB1.out.1.block x (by simp; omega)).trans (Below.heap_alloc _ _ _ hx))
    · simp [rend]
  have HST := Lib.hid hst
  have HB0 := Lib.hid (And.intro hB0 hz0)
  have HW0 := Lib.hid hW0
  have HBB := Lib.hid hbb
  clear hst hB0 hz0 hbb hW0
  go_wp2_with fail
  rw [HW0.out, ← HBB.out]
  refine wp_loop_ghost (TInv t S sa sc w.heap.size bb W0 (textT (erase t))) (wtT (erase t)) ?start ?round
  case start =>
    refine ⟨[], ?_, HST.out⟩
    unfold TFrame
    repeat apply Exists.intro
    rfl
  case round =>
    clear HST hsz1
    intro n a wr hI
    obtain ⟨rs, hfr, l, g, cap, acc, hrest, hown, hg, hbld, hok, htot, hwt, hn, hbel, hmk⟩ := hI
    unfold TFrame at hfr
    obtain ⟨x5, x6, x8, x14, x15, x16, x17, x18, x19, x20, x21, x22, x23, x24, x25, x26, x27, x28, x29, x30, x31, x32, x33, x34, x35, x36, x37, x38, x39, x40, x41, x42, rfl⟩ := hfr
    obtain ⟨q1, q2⟩ := row_cells hrest
    have r0 : wr.cell? ⟨bb + 2, 0, none⟩ = some (.slice (some ⟨g, 0, none⟩) l.length cap) := q1 0
    have f0 := q2 0
    have hrl : bb + 2 < wr.heap.size := (Array.getElem?_eq_some_iff.1 hrest).1
    clear q1 q2
    rcases List.eq_nil_or_concat l with rfl | ⟨l, p, rfl⟩
    · have HX := Lib.hid (And.intro hbld (And.intro htot (And.intro hbel hmk)))
      clear hrest hown hg hbld hok htot hwt hn hbel hmk
      simp only [List.length_nil] at r0
      go_wp2_with fail
      go_at_call 22
      refine (Tryd.Builder_String_any_k bb bb acc wr HX.out.1 (by omega)).mono ?_
      rintro e w2 ⟨rfl, h2, b2, k2⟩
      go_wp2_with fail
      refine leaves_marks (B := bb) (W0 := W0) (fun _ => results_tmp rfl _ _ _) rs w2 (marks_low HX.out.2.2.2 fun k o hk ho => k2 k o hk (fun e => ?_) (fun c fz => ho c _ fz)) (HX.out.2.2.1.trans b2) fun W' hW' => ?_
      · injection e with e; subst e; obtain ⟨cs, hcs⟩ := bld_cells HX.out.1; rw [hcs] at hk; injection hk with hk; exact ho _ _ _ hk.symm
      · refine ⟨_, ?_, rfl, ?_⟩
        · rw [← HX.out.2.1]
          simp [txt]
        · exact (below_hop (below_hop ((Below.refl w.heap.size w).alloc (Nat.le_refl _) _) HB1.out.1) HB0.out.1).trans (hW'.mono (by have := HB1.out.2.2; have := HBB.out; omega))
    · rw [List.concat_eq_append] at *
      rw [List.length_append, List.length_singleton] at hown r0
      rw [pcs_snoc] at hown
      rw [List.reverse_append, List.reverse_singleton, List.singleton_append, List.flatMap_cons] at htot
      rw [wtL_append, wtL_one] at hwt
      have hpl := pcs_length l
      have hlw := wtL_len l
      have hpok := hok p (by simp)
      have hlok : ∀ x ∈ l, okP bb S wr x := fun x hx => hok x (by simp [hx])
      have hgl := (hown.lt g rfl).2
      have hg1 := (hown.lt g rfl).1
      have c0 : wr.cell? ⟨g, l.length * 2, none⟩ = some (.string p.str) := by
        rw [hown.cellAt (l.length * 2) (by omega), List.getElem?_append_right (by omega), hpl]
        simp
      have c1 : wr.cell? ⟨g, l.length * 2 + 1, none⟩ = some (.pointer p.ptr) := by
        rw [hown.cellAt (l.length * 2 + 1) (by omega), List.getElem?_append_right (by omega), hpl]
        rw [show l.length * 2 + 1 - l.length * 2 = 1 by omega]
        rfl
      have m1 : (0 : Int) ≤ (l.length : Int) := by omega
      have m2 : (0 : Int) < (l.length : Int) + 1 := by omega
      have m3 : (l.length : Int) < (l.length : Int) + 1 := by omega
      have m4 : (l.length : Int) ≤ 1000000 := by omega
      have hcap : (l.length : Int) ≤ (cap : Int) := by
        rcases hown.2 with ⟨h1, _⟩ | ⟨g2, cap2, cur, hv2, _, _, hle, _⟩
        · cases h1
        · simp only [Value.slice.injEq] at hv2; omega
      have hpop := ownsRow_pop (by omega) hown
      have HC := Lib.hid (And.intro hrest (And.intro hpop (And.intro hg (And.intro hbld (And.intro hlok (And.intro htot (And.intro hwt (And.intro hn (And.intro hbel (And.intro hmk (And.intro hpok (And.intro hgl (And.intro hg1 hrl)))))))))))))
      clear hrest hown hpop hg hbld hok hlok htot hwt hn hbel hmk hpl hlw hpok hg1
      have hne : ¬ g = bb + 2 := HC.out.2.2.1
      have HGB := Lib.hid (show bb + 1 ≤ g from HC.out.2.2.2.2.2.2.2.2.2.2.2.2.1)
      cases p with
      | tx s =>
        simp only [Pc.str, Pc.ptr] at c0 c1
        obtain ⟨hrest, hpop, hg, hbld, hlok, htot, hwt, hn, hbel, hmk, hpok, hgl', hg1, _⟩ := HC.out
        have hc1 : Chg (fun x => x = bb + 2) wr ((wr.setCell ⟨bb + 2, 0, none⟩ (.slice (some ⟨g, 0, none⟩) l.length cap)).alloc (.cells #[.string s, .pointer none] 47)) := ((Chg.refl (fun x => x = bb + 2) wr).setCell (p := ⟨bb + 2, 0, none⟩) (fun _ => rfl) _).alloc _
        have hb1 : Bld bb bb (Lib.byteCells acc) ((wr.setCell ⟨bb + 2, 0, none⟩ (.slice (some ⟨g, 0, none⟩) l.length cap)).alloc (.cells #[.string s, .pointer none] 47)) := bld_chg hbld hc1 (fun k c fz h e => by have e : k = bb + 2 := e; subst e; rw [hrest] at h; simp at h) (by omega)
        have hlen : acc.length + s.size ≤ 1000000000 := by
          have h1 := congrArg List.length htot
          have h2 := HL.out.2.2.2.1
          rw [List.length_append, List.length_append, List.length_map] at h1
          have h3 : (rend (.tx s)).length = s.size := txt_length s
          omega
        have hr1 : ((wr.setCell ⟨bb + 2, 0, none⟩ (.slice (some ⟨g, 0, none⟩) l.length cap)).alloc (.cells #[.string s, .pointer none] 47)).heap[bb + 2]? = some (.cells #[.slice (some ⟨g, 0, none⟩) l.length cap] 48 (0, 0)) := (Below.heap_alloc _ _ _ (by simpa using hrl)).trans (heap_one hrest)
        have ho1 := own_chg hpop hc1 (fun b hb e => hg ((slice_block hb).trans e))
        have hm1 := marks_set (u := .slice (some ⟨g, 0, none⟩) l.length cap) hmk hrest (.cells #[.string s, .pointer none] 47)
        have hbl1 : Below bb W0 ((wr.setCell ⟨bb + 2, 0, none⟩ (.slice (some ⟨g, 0, none⟩) l.length cap)).alloc (.cells #[.string s, .pointer none] 47)) := (hbel.setCell (p := ⟨bb + 2, 0, none⟩) (by simp) _).alloc (by simp; omega) _
        have H1 := Lib.hid (And.intro hr1 (And.intro ho1 (And.intro hm1 (And.intro hbl1 (And.intro hlok (And.intro hc1 (And.intro htot (And.intro hwt hn))))))))
        have HB := Lib.hid hb1
        have HLN := Lib.hid hlen
        clear hrest hpop hg hbld hlok htot hwt hn hbel hmk hpok hgl' hg1 hc1 hb1 hlen hr1 ho1 hm1 hbl1 HC
        go_wp2_with fail
        refine (writeString_any bb bb _ s _ HB.out (by rw [Lib.byteCells_length]; have := HLN.out; omega) (by simp; omega)).mono ?_
        rintro e w3 ⟨rfl, h3, b3, k3⟩
        have hnb : (Value.slice (some ⟨g, 0, none⟩) l.length cap).ownBlock ≠ some bb := by simp [Value.ownBlock]; have := HGB.out; omega
        obtain ⟨hr1, ho1, hm1, hbl1, hlok, hc1, htot, hwt, hn⟩ := H1.out
        have hT : TRel bb S W0 (textT (erase t)) rs (wtL l) w3 := by
          refine ⟨l, g, cap, acc ++ s.data.toList, k3 _ _ hr1 (by simp) (fun _ _ e => by injection e with _ e _; exact absurd e (by decide)), own_others ho1 k3 hnb, hne, ?_, fun x hx => ((hlok x hx).chg (hc1.mono fun y _ e => by have e : y = bb + 2 := e; show bb ≤ y; omega)).chg (chg_low b3), ?_, rfl, by omega, hbl1.trans b3, marks_low hm1 fun k o hk ho => k3 k o hk (fun e => ?_) (fun c fz => ho c _ fz)⟩
          · rw [Lib.byteCells_append]
            exact .inr h3
          · rw [List.map_append, List.append_assoc, ← htot]
            rfl
          · injection e with e; subst e; obtain ⟨cs, hcs⟩ := bld_cells HB.out; rw [hcs] at hk; injection hk with hk; exact ho _ _ _ hk.symm
        have HT := Lib.hid hT
        have HW := Lib.hid hwt
        clear hT hr1 ho1 hm1 hbl1 hlok hc1 htot hwt hn H1 HB h3 b3 k3
        go_wp2_with fail
        refine ⟨wtL l, by have := HW.out; simp only [wtP] at this; omega, rs, ?_, HT.out⟩
        unfold TFrame
        repeat apply Exists.intro
        rfl
      | tr b o p =>
        simp only [Pc.str, Pc.ptr] at c0 c1
        obtain ⟨hrest, hpop, hg, hbld, hlok, htot, hwt, hn, hbel, hmk, hpok, hgl', hg1, _⟩ := HC.out
        have hc1 : Chg (fun x => x = bb + 2) wr ((wr.setCell ⟨bb + 2, 0, none⟩ (.slice (some ⟨g, 0, none⟩) l.length cap)).alloc (.cells #[.string { data := #[] }, .pointer (some ⟨b, o, none⟩)] 47)) := ((Chg.refl (fun x => x = bb + 2) wr).setCell (p := ⟨bb + 2, 0, none⟩) (fun _ => rfl) _).alloc _
        have hb1 : Bld bb bb (Lib.byteCells acc) ((wr.setCell ⟨bb + 2, 0, none⟩ (.slice (some ⟨g, 0, none⟩) l.length cap)).alloc (.cells #[.string { data := #[] }, .pointer (some ⟨b, o, none⟩)] 47)) := bld_chg hbld hc1 (fun k c fz h e => by have e : k = bb + 2 := e; subst e; rw [hrest] at h; simp at h) (by omega)
        have hr1 : ((wr.setCell ⟨bb + 2, 0, none⟩ (.slice (some ⟨g, 0, none⟩) l.length cap)).alloc (.cells #[.string { data := #[] }, .pointer (some ⟨b, o, none⟩)] 47)).heap[bb + 2]? = some (.cells #[.slice (some ⟨g, 0, none⟩) l.length cap] 48 (0, 0)) := (Below.heap_alloc _ _ _ (by simpa using hrl)).trans (heap_one hrest)
        have ho1 := own_chg hpop hc1 (fun b hb e => hg ((slice_block hb).trans e))
        have hm1 := marks_set (u := .slice (some ⟨g, 0, none⟩) l.length cap) hmk hrest (.cells #[.string { data := #[] }, .pointer (some ⟨b, o, none⟩)] 47)
        have hbl1 : Below bb W0 ((wr.setCell ⟨bb + 2, 0, none⟩ (.slice (some ⟨g, 0, none⟩) l.length cap)).alloc (.cells #[.string { data := #[] }, .pointer (some ⟨b, o, none⟩)] 47)) := (hbel.setCell (p := ⟨bb + 2, 0, none⟩) (by simp) _).alloc (by simp; omega) _
        have hlow : ∀ y, y < wr.heap.size → y = bb + 2 → bb ≤ y := fun y _ e => by omega
        have hpk1 := hpok.chg (hc1.mono hlow)
        have hz1 : ((wr.setCell ⟨bb + 2, 0, none⟩ (.slice (some ⟨g, 0, none⟩) l.length cap)).alloc (.cells #[.string { data := #[] }, .pointer (some ⟨b, o, none⟩)] 47)).heap.size = wr.heap.size + 1 := by simp
        have hbw := ((below_hop ((Below.refl _ w).alloc (Nat.le_refl _) _) HB1.out.1).trans (HB0.out.1.mono (Nat.le_of_lt HB1.out.2.2))).trans (hbl1.mono (by have := HBB.out; have := HB1.out.2.2; omega))
        have HCALL := Lib.hid (HP.out bb b o p ((wr.setCell ⟨bb + 2, 0, none⟩ (.slice (some ⟨g, 0, none⟩) l.length cap)).alloc (.cells #[.string { data := #[] }, .pointer (some ⟨b, o, none⟩)] 47)) hpk1.1 hpk1.2.1 hpk1.2.2 (by simp only [wtP] at hwt; omega) hbw)
        have hlk1 : ∀ x ∈ l, okP bb S ((wr.setCell ⟨bb + 2, 0, none⟩ (.slice (some ⟨g, 0, none⟩) l.length cap)).alloc (.cells #[.string { data := #[] }, .pointer (some ⟨b, o, none⟩)] 47)) x := fun x hx => (hlok x hx).chg (hc1.mono hlow)
        have H1 := Lib.hid (And.intro hr1 (And.intro ho1 (And.intro hm1 (And.intro hbl1 (And.intro hlk1 (And.intro hb1 (And.intro htot (And.intro hwt (And.intro hn hz1)))))))))
        clear hrest hpop hg hbld hlok htot hwt hn hbel hmk hpok hgl' hg1 hc1 hb1 hr1 ho1 hm1 hbl1 HC hlow hpk1 hz1 hlk1
        go_wp2_with fail
        go_at_call 21
        refine HCALL.out.mono ?_
        clear HCALL c0 c1 r0 f0 hcap m1 m2 m3 m4
        generalize ((wr.setCell ⟨bb + 2, 0, none⟩ (.slice (some ⟨g, 0, none⟩) l.length cap)).alloc (.cells #[.string { data := #[] }, .pointer (some ⟨b, o, none⟩)] 47)) = w2 at *
        rintro e w3 ⟨L, a, cap2, rfl, hL1, hL2, hL3, hL4, hb3⟩
        have HLL := Lib.hid (And.intro hL1 (And.intro hL2 (And.intro hL3 (And.intro hL4 hb3))))
        clear hL1 hL2 hL3 hL4 hb3
        go_wp2_with fail
        go_at_call 20
        refine (backward_any a L.length cap2 w3).mono ?_
        rintro e w4 ⟨rfl, rfl⟩
        go_wp2_with fail
        obtain ⟨w4, hw4⟩ : ∃ w4, w3.alloc (.cells #[.slice a L.length cap2] 48) = w4 := ⟨_, rfl⟩
        rw [hw4]
        obtain ⟨hr1, ho1, hm1, hbl1, hlk1, hb1, htot, hwt, hn, hz1⟩ := H1.out
        obtain ⟨hL1, hL2, hL3, hL4, hb3⟩ := HLL.out
        have hb34 : Below w3.heap.size w3 w4 := by rw [← hw4]; exact (Below.refl _ _).alloc (Nat.le_refl _) _
        have hb4 : Below w2.heap.size w2 w4 := below_hop hb3 hb34
        have hs4 : w4.heap.size = w3.heap.size + 1 := by rw [← hw4]; simp
        have hs3 := hb3.size
        have hbx : w4.heap[w3.heap.size]? = some (.cells #[.slice a L.length cap2] 48 (0, 0)) := hw4 ▸ heap_alloc_new w3 _
        have hr4 := (hb4.block (bb + 2) (by omega)).trans hr1
        have ho4 := own_chg ho1 (Chg.of_below (R := fun _ => False) hb4) (fun _ _ => id)
        obtain ⟨cur4, hk4⟩ := own_kind ho4 rfl
        have hgg := (ho1.lt g rfl).2
        have hll := wtL_len L
        have hll2 := wtL_len l
        simp only [wtP] at hwt
        obtain ⟨gL, hg1, hg2, hg3, hg4⟩ : ∃ gL, gL < w4.heap.size ∧ gL ≠ bb + 2 ∧ gL ≠ g ∧ (L ≠ [] → a = some ⟨gL, 0, none⟩ ∧ ∀ j u, (pcs L)[j]? = some u → w4.cell? ⟨gL, j, none⟩ = some u) := by
          by_cases hLn : L = []
          · exact ⟨w3.heap.size, by omega, by omega, by omega, fun h => absurd hLn h⟩
          · obtain ⟨gL, ha, h1, h2, h3⟩ := hL1 hLn
            exact ⟨gL, by omega, by omega, by omega, fun _ => ⟨ha, fun j u hu => (hb34.cell (p := ⟨gL, j, none⟩) h2).trans (h3 j u hu)⟩⟩
        have hit := back_iter 8 w3.heap.size gL cap2 a L w4 (by omega) hg1 ((row_cells hbx).1 0) (by omega) hg4
        have HS := Lib.hid (And.intro hs4 (And.intro hs3 (And.intro hgg (And.intro hz1 (And.intro hg1 (And.intro hg2 (And.intro hg3 (And.intro hwt (And.intro hll (And.intro hll2 (And.intro hn (And.intro hL4 hrl))))))))))))
        have HD := Lib.hid (And.intro hb34 (And.intro hb4 (And.intro hr4 (And.intro hk4 (And.intro hm1 (And.intro hbl1 (And.intro hlk1 (And.intro hb1 (And.intro htot (And.intro hL2 (And.intro hL3 hb3)))))))))))
        have h0 : BI bb l g w4 [] w4 := ⟨g, cap, hr4, by simpa using ho4, hne, .inl rfl, Chg.refl _ _⟩
        have hturn := bi_turn (l := l) (g := g) (show bb + 2 < w4.heap.size by omega)
        clear hr1 ho1 hm1 hbl1 hlk1 hb1 htot hwt hn hz1 hL1 hL2 hL3 hL4 hb3 hb34 hb4 hs4 hs3 hbx hr4 ho4 hk4 hgg hll hll2 hg1 hg2 hg3 hg4 hw4 H1 HLL hrl hgl
        refine (wpIn_wide (n := 9)).1 ?_
        refine rangeR_law (n := 9) (gf := 32) (lb := #[.pointer (some ⟨w3.heap.size, 0, none⟩)]) rfl (enters_of Tryd.func32 (by kernel_rfl) rfl)
          hit kpP_t (fun W k o o2 hk _ _ => ⟨World.putObj_heap_other (by have := HS.out; omega), World.putObj_heap_other (by have := HS.out; omega)⟩) (fun _ => rfl)
          (BI bb l g w4) (fun _ _ => False) hturn (fun _ _ _ _ h => h.elim) h0 ?round2 ?done2 ?stop2
        case stop2 => intro D pre x post W _ h _ _; exact h.elim
        case round2 =>
          clear h0 hturn hit
          intro lp pre x W hI hnext hl1 hl2
          have hpre : pre.length < L.length := by
            obtain ⟨post, hp⟩ := hnext
            have h1 := congrArg List.length hp
            rw [back_len, List.length_reverse] at h1
            simp at h1
            omega
          obtain ⟨hs4, hs3, hgg, hz1, hg1, hg2, hg3, hwt, hll, hll2, hn, hL4, hrl⟩ := HS.out
          have hsW : w4.heap.size ≤ W.heap.size := by obtain ⟨_, _, _, _, _, _, h5⟩ := hI; exact h5.size
          obtain ⟨i0, hi, hz0, hzz1, hzz2⟩ := info_parts infoPart
          have HN := Lib.hid (And.intro hpre (And.intro hs4 (And.intro hs3 (And.intro hgg (And.intro hz1 (And.intro hg1 (And.intro hg2 (And.intro hg3 (And.intro hwt (And.intro hll (And.intro hll2 (And.intro hn (And.intro hL4 (And.intro hrl hsW))))))))))))))
          clear hpre hs4 hs3 hgg hz1 hg1 hg2 hg3 hwt hll hll2 hn hL4 hrl hsW hnext
          have hI1 : BI bb l g w4 pre (W.alloc (.cells #[.string x.2.str, .pointer x.2.ptr] 47)) := by
            obtain ⟨g2, cap3, h1, h2, h3, h4, h5⟩ := hI
            exact ⟨g2, cap3, (Below.heap_alloc _ _ _ (Array.getElem?_eq_some_iff.1 h1).1).trans h1, own_chg h2 ((Chg.refl (fun _ => False) _).alloc _) (fun _ _ => id), h3, h4, h5.alloc _⟩
          have HI1 := Lib.hid hI1
          clear hI hI1
          gi_wp2
          refine ⟨KeepsOthers.alloc _ _, ⟨Below.heap_alloc _ _ _ (by have := HN.out; omega), Below.heap_alloc _ _ _ (by have := HN.out; omega)⟩, HI1.out, ?_⟩
          intro v2 hc2 hI2
          obtain ⟨g2, cap3, h1, h2, h3, h4, h5⟩ := hI2
          obtain ⟨q1, q2⟩ := row_cells h1
          have r1 : v2.cell? ⟨bb + 2, 0, none⟩ = some (.slice (some ⟨g2, 0, none⟩) (l.length + pre.length : Nat) cap3) := q1 0
          have r2 := q2 0
          obtain ⟨p1, p2⟩ := row_cells (heap_alloc_new W (.cells #[.string x.2.str, .pointer x.2.ptr] 47))
          have s0 : v2.cell? ⟨W.heap.size, 0, none⟩ = some (.string x.2.str) := (hc2.cell 0 (by simp) (fun e => by have e : W.heap.size = lp := e; omega)).trans (p1 0)
          have s1 : v2.cell? ⟨W.heap.size, 1, none⟩ = some (.pointer x.2.ptr) := (hc2.cell 1 (by simp) (fun e => by have e : W.heap.size = lp := e; omega)).trans (p1 1)
          have hrv : bb + 2 < v2.heap.size := (Array.getElem?_eq_some_iff.1 h1).1
          have hgv := (h2.lt g2 rfl).2
          have hgb := (h2.lt g2 rfl).1
          obtain ⟨cur2, hcur2⟩ := own_kind h2 rfl
          have HX := Lib.hid (And.intro h1 (And.intro h2 (And.intro h3 (And.intro h4 (And.intro h5 (And.intro hcur2 hgb))))))
          have hg2n : ¬ g2 = bb + 2 := h3
          have hsv := hc2.size
          simp at hsv
          clear h1 h2 h3 h4 h5 q1 q2 p1 p2 hcur2 hgb hc2
          gi_wp2_with ((gi_at_builtin; refine wpListIn_append_own_at _ rfl _ _ 48 rfl (bb + 1) 47 i0 _ 2 24 Tryd.underlying48 hi hz0 hzz1 hzz2 rfl (by decide) (.slice (some ⟨g2, 0, none⟩) (l.length + pre.length) cap3) (l.length + pre.length) (pcs (l ++ pre.map Prod.snd)) rfl (HX.out.2.1.alloc _) ⟨v2.heap.size, 0, none⟩ 1 1 [.string x.2.str, .pointer x.2.ptr] rfl rfl ?n1 (by simp [Value.oneCell']) ?n2 ?n3 ?n4 ?_))
          case n2 => have := HN.out; unfold maxLen; omega
          case n3 => have := HN.out; omega
          case n4 => have := HGB.out; simp; omega
          intro v5 W5 hown5 hgrow5 _ hat5
          obtain ⟨g5, cap5, rfl⟩ := ownsRow_succ hown5
          have hat : g5 = g2 ∨ g5 = v2.heap.size + 1 := by
            rcases hat5 with h | h
            · exact .inl (slice_block h)
            · exact .inr (by have := slice_block h; simpa using this)
          have hc5 : Chg (fun k => k = g2) v2 W5 := ((Chg.refl (fun k => k = g2) v2).alloc _).grown hgrow5 (fun k hk _ => (slice_block hk).symm)
          have e1 := (hc5.block (bb + 2) hrv (fun e => hg2n e.symm)).trans HX.out.1
          have e2 := (row_cells e1).2 0
          have e3 := (row_cells e1).1 0
          have hr5 : bb + 2 < W5.heap.size := (Array.getElem?_eq_some_iff.1 e1).1
          have HY := Lib.hid (And.intro hown5 (And.intro hgrow5 (And.intro hat (And.intro hc5 e1))))
          clear hown5 hgrow5 hat5 hat hc5 e1
          gi_wp2
          obtain ⟨hown5, hgrow5, hat, hc5, e1⟩ := HY.out
          obtain ⟨h1, h2, h3, h4, h5, hcur2, hgb⟩ := HX.out
          obtain ⟨hpre, hs4, hs3, hgg, hz1, hg1, hg2, hg3, hwt, hll, hll2, hn, hL4, hrl, hsW⟩ := HN.out
          have hk2 : ∀ k, k < w4.heap.size → k ≠ g → k ≠ g2 := fun k hk hkg e => by omega
          refine ⟨((KeepsOthers.alloc v2 _).trans (KeepsOthers.of_grownBy hgrow5 fun j o hj ho => ?_)).trans (KeepsOthers.setCell _ _ _), ⟨?_, ?_⟩, g5, cap5, ?_, ?_, ?_, ?_, ?_⟩
          · have hj := slice_block hj
            subst hj
            rw [Below.heap_alloc _ _ _ hgv, hcur2] at ho
            injection ho with ho
            subst ho
            rfl
          · exact (Below.heap_setCell _ _ _ _ (by show w3.heap.size ≠ bb + 2; omega)).trans (hc5.block _ (by omega) (hk2 _ (by omega) (by omega)))
          · exact (Below.heap_setCell _ _ _ _ hg2).trans (hc5.block _ (by omega) (hk2 _ hg1 hg3))
          · rw [List.length_append, List.length_singleton, ← Nat.add_assoc]
            exact heap_one e1
          · rw [List.length_append, List.length_singleton, ← Nat.add_assoc, List.map_append, List.map_singleton, ← List.append_assoc, pcs_snoc]
            exact own_chg hown5 ((Chg.refl (fun k => k = bb + 2) _).setCell (p := ⟨bb + 2, 0, none⟩) (fun _ => rfl) _) (fun b hb e => by have := slice_block hb; have e : b = bb + 2 := e; omega)
          · omega
          · omega
          · exact (h5.trans hc5 fun k hk e => by have e : k = g2 := e; omega).setCell (p := ⟨bb + 2, 0, none⟩) (fun _ => .inl rfl) _
        case done2 =>
          clear h0 hturn hit
          rintro D W ⟨g2, cap3, h1, h2, h3, h4, h5⟩ hD hK
          rw [back_snd] at h2
          rw [back_len, List.length_reverse] at h1 h2
          obtain ⟨hs4, hs3, hgg, hz1, hg1, hg2, hg3, hwt, hll, hll2, hn, hL4, hrl⟩ := HS.out
          obtain ⟨hb34, hb4, hr4, hk4, hm1, hbl1, hlk1, hb1, htot, hL2, hL3, hb3⟩ := HD.out
          have hno : ∀ k c fz, w4.heap[k]? = some (.cells c 5 fz) → ¬ (k = bb + 2 ∨ k = g) := by
            rintro k c fz h (rfl | rfl)
            · rw [hr4] at h; simp at h
            · rw [hk4] at h; simp at h
          have hlow : ∀ y, y < w4.heap.size → y = bb + 2 ∨ y = g → bb ≤ y := fun y _ e => by have := HGB.out; omega
          have hT : TRel bb S W0 (textT (erase t)) (D :: rs) (wtL (l ++ L.reverse)) W := by
            refine ⟨l ++ L.reverse, g2, cap3, acc, ?_, ?_, h3, ?_, ?_, ?_, rfl, ?_, ?_, ?_, ?_⟩
            · rw [List.length_append, List.length_reverse]; exact h1
            · rw [List.length_append, List.length_reverse]; exact h2
            · exact bld_chg (bld_chg hb1 (Chg.of_below (R := fun _ => False) hb4) (fun _ _ _ _ => id) id) h5 hno (by have := HGB.out; omega)
            · intro y hy
              rcases List.mem_append.1 hy with hy | hy
              · exact ((hlk1 y hy).chg (Chg.of_below (R := fun x => bb ≤ x) hb4)).chg (h5.mono hlow)
              · exact ((hL2 y (List.mem_reverse.1 hy)).chg (Chg.of_below (R := fun x => bb ≤ x) hb34)).chg (h5.mono hlow)
            · rw [List.reverse_append, List.reverse_reverse, List.flatMap_append, hL3, ← htot]
              rfl
            · rw [wtL_append, wtL_rev]; omega
            · exact (hbl1.trans (hb4.mono (by omega))).trans (h5.below (by omega) fun k hk e => by have := HGB.out; omega)
            · refine List.nodup_cons.2 ⟨fun hm => ?_, hm1.1⟩
              have := (Array.getElem?_eq_some_iff.1 (hm1.2 D hm).2).1
              omega
            · intro r hr
              rcases List.mem_cons.1 hr with rfl | hr
              · exact ⟨by omega, hK⟩
              · obtain ⟨q1, q2⟩ := hm1.2 r hr
                have q3 := (hb4.block r (Array.getElem?_eq_some_iff.1 q2).1).trans q2
                refine ⟨q1, (h5.block r (Array.getElem?_eq_some_iff.1 q3).1 ?_).trans q3⟩
                rintro (rfl | rfl)
                · rw [hr4] at q3; cases q3
                · rw [hk4] at q3; cases q3
          have HT := Lib.hid hT
          have HW := Lib.hid (show wtL (l ++ L.reverse) < n by rw [wtL_append, wtL_rev]; omega)
          clear hs4 hs3 hgg hz1 hg1 hg2 hg3 hwt hll hll2 hn hL4 hrl hb34 hb4 hr4 hk4 hm1 hbl1 hlk1 hb1 htot hL2 hL3 hb3 hno hlow hT h1 h2 h3 h4 h5 hK
          go_wp2_with fail
          refine ⟨_, HW.out, D :: rs, ?_, HT.out⟩
          unfold TFrame
          repeat apply Exists.intro
          rfl

end Go.Proofs.YtpibkalbnjgpaaaDoor
