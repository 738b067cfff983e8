/- How deep a tree is, and how many places it has: contracts.
   Conditions: the tree lies in memory, and is at most 1000000 deep. -/
import Derived.Test.YtcnjogkgfdbhfaaNodes
import Derived.Test.YtcnjogkgfdbhfaaRun
namespace Go.Proofs.Ytcnjogkgfdbhfaa
open Go.RowKit Go.Shelf
attribute [local go_sem] Oper.semAt_some encsV nodeAgg

def maxd (l : List (Nat × V)) : Nat := l.foldl (fun m x => max m x.1) 0
theorem maxd_snoc (l : List (Nat × V)) (x : Nat × V) : maxd (l ++ [x]) = max (maxd l) x.1 := by unfold maxd; rw [List.foldl_append]; rfl
theorem foldl_max (l : List (Nat × V)) (m : Nat) : l.foldl (fun m x => max m x.1) m = max m (maxd l) := by
  induction l generalizing m with
  | nil => simp [maxd]
  | cons x l ih =>
    rw [List.foldl_cons, ih]
    have := ih (max 0 x.1)
    unfold maxd at this ⊢
    rw [List.foldl_cons, this]
    omega
theorem maxd_append (a b : List (Nat × V)) : maxd (a ++ b) = max (maxd a) (maxd b) := by
  unfold maxd
  rw [List.foldl_append, foldl_max]
  rfl
theorem maxd_cons (x : Nat × V) (b : List (Nat × V)) : maxd (x :: b) = max x.1 (maxd b) := by
  have := maxd_append [x] b
  simpa [maxd] using this
mutual
theorem maxd_pre : ∀ (t : V) (d : Nat), maxd (preV (d + 1) t) = d + dptV t
  | .node k C lo hi v ps, d => by
    rw [preV, maxd_cons, dptV]
    have := maxd_pres ps (d + 1)
    by_cases h : ps = []
    · subst h
      rw [presV, dptsV]
      simp [maxd]
    · rw [this h]
      simp only
      omega
theorem maxd_pres : ∀ (ts : List V) (d : Nat), ts ≠ [] → maxd (presV (d + 1) ts) = d + dptsV ts
  | [], d, h => absurd rfl h
  | t :: ts, d, _ => by
    rw [presV, maxd_append, maxd_pre t d, dptsV]
    by_cases h : ts = []
    · subst h
      rw [presV, dptsV]
      simp [maxd]
    · rw [maxd_pres ts d h]
      omega
end
theorem maxd_le (t : V) {pre post : List (Nat × V)} (h : preV 1 t = pre ++ post) : maxd pre ≤ dptV t := by
  have := maxd_pre t 0
  rw [h, maxd_append] at this
  omega
mutual
def plcV : V → Nat
  | .node k _ _ _ _ ps => (if k = 1 then 1 else 0) + plcsV ps
def plcsV : List V → Nat
  | [] => 0
  | t :: ts => plcV t + plcsV ts
end
def ones (l : List (Nat × V)) : Nat := l.countP fun x => x.2.kind == 1
mutual
theorem ones_pre : ∀ (t : V) (d : Nat), ones (preV d t) = plcV t
  | .node k C lo hi v ps, d => by
    rw [preV, plcV]
    unfold ones
    rw [List.countP_cons]
    have := ones_pres ps (d + 1)
    unfold ones at this
    rw [this]
    by_cases h : k = 1
    · subst h; simp [V.kind]; omega
    · simp [V.kind, h]
theorem ones_pres : ∀ (ts : List V) (d : Nat), ones (presV d ts) = plcsV ts
  | [], d => by rw [presV, plcsV]; rfl
  | t :: ts, d => by
    rw [presV, plcsV]
    have h1 := ones_pre t d
    have h2 := ones_pres ts d
    unfold ones at h1 h2 ⊢
    rw [List.countP_append, h1, h2]
end

set_option maxRecDepth 100000 in
set_option maxHeartbeats 2000000 in
theorem nodes_in (n : Nat) (k c0 c1 c2 c3 lo hi : Int) (sa : Option Addr) (sn sc : Nat) (w : World) :
    CallsIn Fence.wide n Try.prog 27 #[.agg #[.int .i64 k, .int .u64 c0, .int .u64 c1, .int .u64 c2, .int .u64 c3, .slice sa sn sc, .int .i64 lo, .int .i64 hi]] w fun e w' => e = .returned (.func (.func 38) #[] #[.pointer (some ⟨w.heap.size, 0, none⟩)]) ∧ w' = w.alloc (.cells #[.int .i64 k, .int .u64 c0, .int .u64 c1, .int .u64 c2, .int .u64 c3, .slice sa sn sc, .int .i64 lo, .int .i64 hi] 27) := by
  refine callsIn_of_wp Try.func27 rfl trivial ?_ rfl
  simp only [Try.ntmps27, List.size_toArray, List.length_cons, List.length_nil, Nat.reduceAdd, Nat.reduceSub, Array.replicate_succ, Array.replicate_zero, List.push_toArray, List.append_toArray, List.nil_append, List.cons_append]
  gi_wp2
  go_ret
  exact ⟨rfl, rfl⟩

def DI (w : World) (pre : List (Nat × V)) (W : World) : Prop := W.heap[w.heap.size + 1]? = some (.cells #[.int .i64 (maxd pre)] 3 (0, 0)) ∧ Below w.heap.size w W ∧ w.heap.size + 1 < W.heap.size

theorem kpV_refl (D0 : Nat) (W : World) : KpV D0 W W := ⟨Nat.le_refl _, fun _ _ _ _ h _ => h⟩
theorem kpV_put {D0 : Nat} (W : World) (l : Nat) (o o' : Obj) (hl : W.heap[l]? = some o) (ho : o.isCells = false) : KpV D0 W (W.putObj l o') :=
  ⟨by simp, fun k c ty f hk _ => (World.putObj_heap_other (fun e => by subst e; rw [hk] at hl; cases hl; cases ho)).trans hk⟩
theorem kpV_set {D0 : Nat} (W : World) (o : Nat) (v : Value) : KpV D0 W (W.setCell ⟨D0, o, none⟩ v) :=
  ⟨by simp, fun k c ty f hk hne => (Below.heap_setCell _ _ _ _ hne).trans hk⟩
theorem kpV_alloc {D0 : Nat} (W : World) (o : Obj) : KpV D0 W (W.alloc o) :=
  ⟨by simp, fun k c ty f hk _ => (Below.heap_alloc _ _ _ (Array.getElem?_eq_some_iff.1 hk).1).trans hk⟩
theorem heap_one {w : World} {B : Nat} {v u : Value} {ty : TypeId} (h : w.heap[B]? = some (.cells #[v] ty (0, 0))) : (w.setCell ⟨B, 0, none⟩ u).heap[B]? = some (.cells #[u] ty (0, 0)) := by
  simp [World.setCell, Array.getElem?_modify, h]
/-- The world in which the loop over a tree's nodes begins. -/
structure Begun (w w0 : World) (t : V) (z : Int) : Prop where
  size : w0.heap.size = w.heap.size + 3
  chg : Chg (fun _ => False) w w0
  cell : w0.heap[w.heap.size + 1]? = some (.cells #[.int .i64 z] 3 (0, 0))
  box : ∀ j u, (ndc t)[j]? = some u → w0.cell? ⟨w.heap.size + 1 + 1, j, none⟩ = some u
theorem begun (w : World) (t : V) (sa : Option Addr) (sn sc : Nat) (hsl : t.v = .slice sa sn sc) :
    Begun w (((w.alloc (.cells #[.int .i64 t.kind, .int .u64 (t.set 0 : Nat), .int .u64 (t.set 1 : Nat), .int .u64 (t.set 2 : Nat), .int .u64 (t.set 3 : Nat), .slice sa sn sc, .int .i64 t.lo, .int .i64 t.hi] 27)).alloc (.cells #[.int .i64 0] 3)).alloc (.cells #[.int .i64 t.kind, .int .u64 (t.set 0 : Nat), .int .u64 (t.set 1 : Nat), .int .u64 (t.set 2 : Nat), .int .u64 (t.set 3 : Nat), .slice sa sn sc, .int .i64 t.lo, .int .i64 t.hi] 27)) t 0 := by
  have hnd : #[.int .i64 t.kind, .int .u64 (t.set 0 : Nat), .int .u64 (t.set 1 : Nat), .int .u64 (t.set 2 : Nat), .int .u64 (t.set 3 : Nat), .slice sa sn sc, .int .i64 t.lo, .int .i64 t.hi] = (ndc t).toArray := by unfold ndc; rw [hsl]
  rw [hnd]
  refine ⟨by simp, (((Chg.refl _ w).alloc _).alloc _).alloc _, ?_, fun j u hu => ?_⟩
  · have e := heap_alloc_new (w.alloc (.cells (ndc t).toArray 27)) (.cells #[.int .i64 0] 3)
    rw [World.size_alloc] at e
    exact (Below.heap_alloc _ _ _ (by simp)).trans e
  · have e := heap_alloc_new ((w.alloc (.cells (ndc t).toArray 27)).alloc (.cells #[.int .i64 0] 3)) (.cells (ndc t).toArray 27)
    rw [World.size_alloc, World.size_alloc] at e
    rw [(row_cells e).1 j, List.getElem?_toArray]
    exact hu

theorem di_step {w w2 : World} {pre : List (Nat × V)} {x : Nat × V} {Ix : List (Nat × V) → World → Prop} (h : DI w pre w2) (m : Nat) (hm : m = max (maxd pre) x.1) :
    Left (KpV (w.heap.size + 1)) (DI w) Ix pre x w2 .normal (w2.setCell ⟨w.heap.size + 1, 0, none⟩ (.int .i64 m)) := by
  obtain ⟨h1, h2, h3⟩ := h
  refine ⟨KeepsOthers.setCell _ _ _, kpV_set _ _ _, ?_, h2.setCell (p := ⟨w.heap.size + 1, 0, none⟩) (by simp) _, by simp; omega⟩
  rw [maxd_snoc, ← hm]
  exact heap_one h1

end Go.Proofs.Ytcnjogkgfdbhfaa
