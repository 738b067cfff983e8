/- A range over a function that only reads between its rounds: a law for the walks; the loop's own memory may be new.
   Conditions: those that the theorem states. -/
import Derived.Lib.TrailingZeros
import Derived.Test.YtdjddmkmcdfmiaaDoorMBase
import Derived.Shelf.Lays7
import Derived.Shelf.Spec.TrailingZeros
import Derived.Test.YtdjddmkmcdfmiaaDoorProg
import Derived.Test.YtdjddmkmcdfmiaaDoorMWalk

/- The bits of a number, rising: plain facts.
   Conditions: those that each theorem states. -/
namespace Go.Proofs.YtdjddmkmcdfmiaaDoor

/-- The bits of a number, rising. -/
def bitsL (x : Nat) : List Nat := (List.range 64).filter fun i => x.testBit i
theorem mem_bits {x i : Nat} : i ∈ bitsL x ↔ i < 64 ∧ x.testBit i = true := by
  unfold bitsL
  rw [List.mem_filter, List.mem_range]
theorem bitsL_zero : bitsL 0 = [] := by
  unfold bitsL
  rw [List.filter_eq_nil_iff]
  intro i _
  simp
theorem low_form {x : Nat} (h0 : x ≠ 0) (h : x < 18446744073709551616) : ∃ m, x = 2 ^ Lib.ctz 64 x * (2 * m + 1) ∧ Lib.ctz 64 x < 64 := by
  have := Lib.ctzFrom_spec 64 x (by omega) (by simpa using h)
  unfold Lib.ctz
  rw [if_neg h0]
  exact this
theorem low_bits {x k m : Nat} (hx : x = 2 ^ k * (2 * m + 1)) (i : Nat) : x.testBit i = (decide (k ≤ i) && (2 * m + 1).testBit (i - k)) ∧ (x &&& (x - 1)).testBit i = (x.testBit i && decide (i ≠ k)) := by
  have h1 : x.testBit i = (decide (k ≤ i) && (2 * m + 1).testBit (i - k)) := by
    rw [hx, Nat.testBit_two_pow_mul]
  refine ⟨h1, ?_⟩
  have hp : 0 < 2 ^ k := Nat.two_pow_pos k
  have h2 : x - 1 = 2 ^ k * (2 * m) + (2 ^ k - 1) := by
    rw [hx, Nat.mul_add, Nat.mul_one]
    omega
  rw [Nat.testBit_and, h1, h2, Nat.testBit_two_pow_mul_add _ (by omega)]
  by_cases hi : i < k
  · have : ¬ k ≤ i := by omega
    simp [this]
  · rw [if_neg hi]
    have hk : k ≤ i := by omega
    by_cases he : i = k
    · subst he
      simp
    · obtain ⟨j, rfl⟩ : ∃ j, i = k + 1 + j := ⟨i - k - 1, by omega⟩
      rw [show k + 1 + j - k = j + 1 by omega]
      simp only [Nat.testBit_succ]
      rw [show (2 * m + 1) / 2 = m by omega, show 2 * m / 2 = m by omega]
      have : k + 1 + j ≠ k := by omega
      simp [this]
theorem range_at (k : Nat) (h : k < 64) : List.range 64 = List.range k ++ k :: (List.range (63 - k)).map (fun j => k + 1 + j) := by
  have e : 64 = k + (63 - k + 1) := by omega
  conv => lhs; rw [e, List.range_add, List.range_succ_eq_map]
  simp only [List.map_cons, List.map_map]
  congr 2
  apply List.map_congr_left
  intro j _
  simp
  omega
theorem bits_step {x : Nat} (h0 : x ≠ 0) (h : x < 18446744073709551616) : bitsL x = Lib.ctz 64 x :: bitsL (x &&& (x - 1)) := by
  obtain ⟨m, hx, hk⟩ := low_form h0 h
  obtain ⟨k, hkk⟩ : ∃ k, k = Lib.ctz 64 x := ⟨_, rfl⟩
  rw [← hkk] at hx hk ⊢
  have hb := low_bits hx
  unfold bitsL
  rw [range_at k hk, List.filter_append, List.filter_append, List.filter_cons, List.filter_cons]
  have e1 : (List.range k).filter (fun i => x.testBit i) = [] := by
    rw [List.filter_eq_nil_iff]
    intro i hi
    rw [List.mem_range] at hi
    rw [(hb i).1]
    simp
    omega
  have e2 : (List.range k).filter (fun i => (x &&& (x - 1)).testBit i) = [] := by
    rw [List.filter_eq_nil_iff]
    intro i hi
    rw [List.mem_range] at hi
    rw [(hb i).2, (hb i).1]
    simp
    omega
  have e3 : x.testBit k = true := by
    rw [(hb k).1, Nat.sub_self]
    simp
  have e4 : (x &&& (x - 1)).testBit k = false := by
    rw [(hb k).2]
    simp
  rw [e1, e2, e3, e4]
  simp only [List.nil_append, if_true, Bool.false_eq_true, if_false]
  congr 1
  apply List.filter_congr
  intro i hi
  obtain ⟨j, _, rfl⟩ := List.mem_map.1 hi
  rw [(hb (k + 1 + j)).2]
  have : k + 1 + j ≠ k := by omega
  simp [this]
theorem and_pred_lt {x : Nat} (h : x < 18446744073709551616) : x &&& (x - 1) < 18446744073709551616 := Nat.lt_of_le_of_lt Nat.and_le_left h
theorem bits_sorted (x : Nat) : (bitsL x).Pairwise (· < ·) := List.Pairwise.filter _ List.pairwise_lt_range

end Go.Proofs.YtdjddmkmcdfmiaaDoor

/- What math/bits.TrailingZeros64 gives, at this program: the library's contract, laid.
   Condition: the table that it reads lies in memory. -/
namespace Go.Proofs
open Go.Shelf
def Tryd.lays29_ren : Go.Shelf.Ren := ⟨fun | 29 => 63 | n => n, fun | 22 => 22 | 3 => 3 | 4 => 4 | 25 => 76 | 54 => 116 | 0 => 0 | 5 => 5 | n => n, fun | 1 => 0 | n => n⟩
theorem Tryd.lays29 : Go.Proofs.Lays7.n29 Tryd.prog Tryd.lays29_ren := {
  mixed := by kernel_rfl
  f29 := Tryd.func63.trans (congrArg some (by kernel_rfl))
  t0 := Tryd.underlying0
  a0 := Tryd.isAgg0
  z0 := Tryd.sizeOf0
  v0 := Tryd.zeroValue0
  i0 := by kernel_rfl
  t3 := Tryd.underlying3
  a3 := Tryd.isAgg3
  z3 := Tryd.sizeOf3
  v3 := Tryd.zeroValue3
  i3 := by kernel_rfl
  t4 := Tryd.underlying4
  a4 := Tryd.isAgg4
  z4 := Tryd.sizeOf4
  v4 := Tryd.zeroValue4
  i4 := by kernel_rfl
  t5 := Tryd.underlying5
  a5 := Tryd.isAgg5
  z5 := Tryd.sizeOf5
  v5 := Tryd.zeroValue5
  i5 := by kernel_rfl
  t22 := Tryd.underlying22
  a22 := Tryd.isAgg22
  z22 := Tryd.sizeOf22
  v22 := Tryd.zeroValue22
  i22 := by kernel_rfl
  t25 := Tryd.underlying76
  a25 := Tryd.isAgg76
  z25 := Tryd.sizeOf76
  v25 := Tryd.zeroValue76
  i25 := by kernel_rfl
  t54 := Tryd.underlying116
  a54 := Tryd.isAgg116
  z54 := Tryd.sizeOf116
  g1 := by kernel_rfl }
/-- math/bits.TrailingZeros64, every x. -/
theorem Tryd.bits_TrailingZeros64 (x : Nat) (hx : x < 18446744073709551616) (w : World) (hT : x ≠ 0 → TabAt 0 Lib.deBruijn64tab w) :
    Calls Tryd.prog 63 #[.int .u64 x] w fun e w' => e = .returned (.int .i64 (Lib.ctz 64 x)) ∧ w' = w := Any7.bits_TrailingZeros64 Tryd.lays29 x hx w hT
end Go.Proofs

/- A range over a function that only reads between its rounds: a law for the walks; the loop's own memory may be new.
   Conditions: those that the theorem states. -/
namespace Go.Proofs.YtdjddmkmcdfmiaaDoor
open Go.RowKit Go.Shelf

/-- J is kept where a block from number B on that is no row of cells is touched. -/
def Calm {β : Type} (B : Nat) (J : β → World → Prop) : Prop := ∀ s W W' (l : Nat), J s W → B ≤ l → (∀ c e fz, W.heap[l]? ≠ some (.cells c e fz)) → Chg (fun k => k = l) W W' → J s W'
/-- The function g, called with a loop's yield, hands it xs, one after another, till it says no more. -/
def IterR {α : Type} (n g : Nat) (lb : Array Value) (encs : α → Array Value) (Kp : World → World → Prop) (xs : List α) (w : World) : Prop :=
  ∀ (l : Nat) (J Jx : List α → World → Prop) (W : World), Below w.heap.size w W →
    (∀ pre x W1, J pre W1 → (∃ post, xs = pre ++ x :: post) → YieldAt Fence.wide (n - 1) Tryd.prog l (encs x) W1 fun e W' =>
      (e = .returned (.bool true) ∧ J (pre ++ [x]) W' ∧ Kp W1 W') ∨ (e = .returned (.bool false) ∧ Jx (pre ++ [x]) W')) →
    J [] W →
    CallsIn Fence.wide n Tryd.prog g (#[.func (.yield l) #[] #[]] ++ lb) W fun e W' => (∃ v, e = .returned v) ∧ (J xs W' ∨ ∃ pre x post, xs = pre ++ x :: post ∧ Jx (pre ++ [x]) W')
theorem rangeR_law {α : Type} {g : Operand} {ps : Array Tmp} {assign body : Code} {Q : Exit → Act → World → Prop} {a : Act} {w : World} {n gf : Nat} {lb : Array Value}
    (hg : a.eval g = .func (.func gf) #[] lb) (eg : ∀ args w, (callFunc gf args).run Tryd.prog w = .ok (.enter gf args) w)
    {encs : α → Array Value} {Kp : World → World → Prop} {xs : List α} (hit : IterR (n - 1) gf lb encs Kp xs w)
    (hKt : ∀ {A B C : World}, Kp A B → Kp B C → Kp A C) (hKb : ∀ (W : World) (l : Nat) (o o' : Obj), w.heap.size ≤ l → W.heap[l]? = some o → o.isCells = false → Kp W (W.putObj l o')) (hps : ∀ x, (encs x).size = ps.size)
    (I Ix : List α → World → Prop) (hI : Calm w.heap.size I) (hIx : Calm w.heap.size Ix) (h0 : I [] w)
    (hround : ∀ (l : Nat) (pre : List α) (x : α) (W : World), I pre W → (∃ post, xs = pre ++ x :: post) → w.heap.size < l → l < W.heap.size →
      assign.wpIn (Fence.wide.inRound l) (n - 1 - 1) Tryd.prog (Exit.then (fun a1 w1 => KeepsOthers W w1 ∧ Kp W w1 ∧ I pre w1 ∧ ∀ w2, Chg (fun k => k = l) w1 w2 → I pre w2 → body.wpIn (Fence.wide.inRound l) (n - 1 - 1) Tryd.prog (fun e _ W' => Left Kp I Ix pre x w2 e W') a1 w2) (fun _ _ _ => False)) { tmps := (ps.zip (encs x)).foldl (fun t (p, v) => t.setIfInBounds p v) a.tmps, defers := [] } W)
    (hdone : ∀ (D : Nat) (W : World), I xs W → w.heap.size ≤ D → W.heap[D]? = some (.deferred (some [])) → Q .normal { a with defers := { target := .collected D, args := #[] } :: a.defers } W)
    (hstop : ∀ (D : Nat) (pre : List α) (x : α) (post : List α) (W : World), xs = pre ++ x :: post → Ix (pre ++ [x]) W → w.heap.size ≤ D → W.heap[D]? = some (.deferred (some [])) → Code.ret.wpIn Fence.wide n Tryd.prog Q { a with defers := { target := .collected D, args := #[] } :: a.defers } W) :
    (Code.rangeFunc g ps assign body).wpIn Fence.wide n Tryd.prog Q a w := by
  refine wpIn_rangeFunc fun fn hfn => ?_
  obtain ⟨lp, hlp⟩ : ∃ lp : LoopState → Option Code → Loop, lp = fun st pe => { state := st, pending := pe, fn, tmps := a.tmps, params := ps, assign, body, defers := w.heap.size } := ⟨_, rfl⟩
  have hbel : Below w.heap.size w ((w.alloc (.deferred (some []))).alloc (.loop (lp .ready none))) := ((Below.refl _ w).alloc (Nat.le_refl _) _).alloc (by simp) _
  have hL : ((w.alloc (.deferred (some []))).alloc (.loop (lp .ready none))).heap[w.heap.size + 1]? = some (.loop (lp .ready none)) := by
    have := World.alloc_heap_new (w.alloc (.deferred (some []))) (.loop (lp .ready none))
    rwa [World.size_alloc] at this
  have hD : ((w.alloc (.deferred (some []))).alloc (.loop (lp .ready none))).heap[w.heap.size]? = some (.deferred (some [])) := (Below.heap_alloc _ _ _ (by simp)).trans (World.alloc_heap_new w _)
  have hent := run_enterLoop_outer (P := Tryd.prog) (w := w) fn a.tmps ps assign body
  have hsz : ((w.alloc (.deferred (some []))).alloc (.loop (lp .ready none))).heap.size = w.heap.size + 2 := by simp
  have h1 : I [] ((w.alloc (.deferred (some []))).alloc (.loop (lp .ready none))) := hI _ _ _ w.heap.size h0 (Nat.le_refl _) (fun _ _ _ e => by simp at e) (((Chg.refl _ w).alloc _).alloc _)
  have hW : (w.alloc (.deferred (some []))).alloc (.loop { state := .ready, pending := none, fn, tmps := a.tmps, params := ps, assign, body, defers := w.heap.size }) = (w.alloc (.deferred (some []))).alloc (.loop (lp .ready none)) := by rw [hlp]
  rw [hW] at hent
  generalize (w.alloc (.deferred (some []))).alloc (.loop (lp .ready none)) = W1 at *
  refine ⟨w.heap.size + 1, [{ target := .collected w.heap.size, args := #[] }], W1, { target := .fn (.func gf) lb, args := #[.func (.yield (w.heap.size + 1)) #[] #[]] }, W1, gf, #[.func (.yield (w.heap.size + 1)) #[] #[]] ++ lb, W1, hent, ?_, fun _ _ => trivial, ?_, (fun h => by cases h), ?_⟩
  · simp only [resolve, hg]
    simp [go_sem]
  · simp [invoke, go_sem, eg]
  · refine (hit (w.heap.size + 1) (fun (pre : List α) (W : World) => I pre W ∧ W.heap[w.heap.size + 1]? = some (.loop (lp .ready none)) ∧ W.heap[w.heap.size]? = some (.deferred (some []))) (fun (pre : List α) (W : World) => Ix pre W ∧ W.heap[w.heap.size + 1]? = some (.loop (lp .done (some .ret))) ∧ W.heap[w.heap.size]? = some (.deferred (some []))) W1 hbel ?_ ⟨h1, hL, hD⟩).mono ?_
    · rintro pre x W ⟨q1, q2, q3⟩ hnext
      have hlt := (Array.getElem?_eq_some_iff.1 q2).1
      have hy := run_yield (P := Tryd.prog) (args := encs x) q2 (by rw [hlp]; exact hps x)
      rw [hlp] at hy
      refine ⟨fn, _, assign, body, hy, roundIn_of_wpIn trivial (wpIn_mono (hround _ pre x W q1 hnext (Nat.lt_succ_self _) hlt) ?_)⟩
      rintro e a3 w1 hp
      cases e with
      | normal =>
        obtain ⟨k1, k2, k3, k4⟩ := hp
        have l1 := k1.same _ _ q2 rfl
        have d1 := k1.same _ _ q3 rfl
        have hlt1 := (Array.getElem?_eq_some_iff.1 l1).1
        refine ⟨_, run_beginRound l1 (by rw [hlp]), ?_⟩
        have c2 : Chg (fun k => k = w.heap.size + 1) w1 (w1.putObj (w.heap.size + 1) (.loop { lp .ready none with state := .busy })) := chg_put _ _ _ rfl
        have i2 := hI _ _ _ _ k3 (by omega) (fun _ _ _ e => by rw [l1] at e; cases e) c2
        have l2 : (w1.putObj (w.heap.size + 1) (.loop { lp .ready none with state := .busy })).heap[w.heap.size + 1]? = some (.loop { lp .ready none with state := .busy }) := World.putObj_heap_same hlt1
        have d2 := (c2.block w.heap.size (Array.getElem?_eq_some_iff.1 d1).1 (by omega)).trans d1
        have kp2 : Kp w1 (w1.putObj (w.heap.size + 1) (.loop { lp .ready none with state := .busy })) := hKb _ _ _ _ (by omega) l1 rfl
        refine wpIn_mono (k4 _ c2 i2) ?_
        have fin : ∀ (jump : Option Code) (W3 : World), KeepsOthers (w1.putObj (w.heap.size + 1) (.loop { lp .ready none with state := .busy })) W3 →
            (Instr.endRound (w.heap.size + 1) jump).run Tryd.prog W3 = .ok (.bool jump.isNone) (W3.putObj (w.heap.size + 1) (.loop (lp (if jump.isNone then .ready else .done) jump))) ∧
            (W3.putObj (w.heap.size + 1) (.loop (lp (if jump.isNone then .ready else .done) jump))).heap[w.heap.size + 1]? = some (.loop (lp (if jump.isNone then .ready else .done) jump)) ∧
            (W3.putObj (w.heap.size + 1) (.loop (lp (if jump.isNone then .ready else .done) jump))).heap[w.heap.size]? = some (.deferred (some [])) ∧ W3.heap[w.heap.size + 1]? = some (.loop { lp .ready none with state := .busy }) := fun jump W3 k5 => by
          have l3 := k5.same _ _ l2 rfl
          have d3 := k5.same _ _ d2 rfl
          have hr := run_endRound (P := Tryd.prog) jump l3
          rw [hlp] at hr ⊢
          refine ⟨hr, World.putObj_heap_same (Array.getElem?_eq_some_iff.1 l3).1, (World.putObj_heap_other (by omega)).trans d3, ?_⟩
          rw [hlp] at l3
          exact l3
        rintro e a4 W3 hp
        cases e with
        | normal =>
          obtain ⟨k5, k6, k7⟩ := hp
          obtain ⟨r1, r2, r3, r4⟩ := fin none W3 k5
          exact ⟨_, _, r1, .inl ⟨rfl, ⟨hI _ _ _ _ k7 (by omega) (fun _ _ _ e => by rw [r4] at e; cases e) (chg_put _ _ _ rfl), r2, r3⟩, hKt (hKt (hKt k2 kp2) k6) (hKb _ _ _ _ (by omega) r4 rfl)⟩⟩
        | ret =>
          obtain ⟨k5, k7⟩ := hp
          obtain ⟨r1, r2, r3, r4⟩ := fin (some .ret) W3 k5
          exact ⟨_, _, r1, .inr ⟨rfl, hIx _ _ _ _ k7 (by omega) (fun _ _ _ e => by rw [r4] at e; cases e) (chg_put _ _ _ rfl), r2, r3⟩⟩
        | exit id => exact hp.elim
        | goto t => exact hp.elim
        | panic ch => exact hp.elim
        | outgrown => exact hp.elim
      | ret => exact hp.elim
      | exit id => exact hp.elim
      | goto t => exact hp.elim
      | panic ch => exact hp.elim
      | outgrown => exact hp.elim
    · rintro e W2 ⟨⟨v, rfl⟩, (⟨q1, q2, q3⟩ | ⟨pre, x, post, hx, q1, q2, q3⟩)⟩
      · refine ⟨none, _, by have := run_endLoop (P := Tryd.prog) q2 (by rw [hlp]; simp); rw [hlp] at this; exact this, ?_⟩
        exact hdone _ _ (hI _ _ _ _ q1 (by omega) (fun _ _ _ e => by rw [q2] at e; cases e) (chg_put _ _ _ rfl)) (Nat.le_refl _) ((World.putObj_heap_other (by omega)).trans q3)
      · refine ⟨some .ret, _, by have := run_endLoop (P := Tryd.prog) q2 (by rw [hlp]; simp); rw [hlp] at this; exact this, ?_⟩
        exact hstop _ pre x post _ hx (hIx _ _ _ _ q1 (by omega) (fun _ _ _ e => by rw [q2] at e; cases e) (chg_put _ _ _ rfl)) (Nat.le_refl _) ((World.putObj_heap_other (by omega)).trans q3)

end Go.Proofs.YtdjddmkmcdfmiaaDoor
