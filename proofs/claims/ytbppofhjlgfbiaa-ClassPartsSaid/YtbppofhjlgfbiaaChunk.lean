/- What the library's iterator over chunks comes to at a list of at most 64 classes: one round with the list itself, or none: a contract for the proofs of the statements.
   Conditions: those that each theorem states. -/
import Derived.Test.YtbppofhjlgfbiaaGather
import Derived.RangeFuncNested
import Derived.RangeFuncBound
import Derived.RangeFuncCalls
import Derived.RangeFuncLeaves
import Derived.RangeFuncBox
import Derived.Shelf.Abstract
import Derived.OwnWalkIn
import Derived.TacticsInMore
import Derived.LoopNIn
import Derived.LoopIn
import Derived.RegionIn
namespace Go.Proofs.Ytbppofhjlgfbiaa
open Go.RowKit Go.Shelf
attribute [local go_sem] Oper.semAt_some

set_option maxRecDepth 100000 in
set_option maxHeartbeats 2000000 in
theorem chunk_in (F : Fence) (n' : Nat) (h23 : F.fn 23) (hro : F.round = none) (A : Option Addr) (n cap : Nat) (w : World) :
    CallsIn F n' Try.prog 23 #[.slice A n cap, .int .i64 64] w fun e w' => e = .returned (.func (.func 29) #[] #[.pointer (some ⟨w.heap.size, 0, none⟩), .pointer (some ⟨w.heap.size + 1, 0, none⟩)]) ∧ w' = (w.alloc (.cells #[.slice A n cap] 22)).alloc (.cells #[.int .i64 64] 3) := by
  refine callsIn_of_wp Try.func23 rfl h23 ?_ hro
  simp only [Try.ntmps23, List.size_toArray, List.length_cons, List.length_nil, Nat.reduceAdd, Nat.reduceSub, Array.replicate_succ, Array.replicate_zero, List.push_toArray, List.append_toArray, List.nil_append, List.cons_append]
  gi_wp2
  go_ret
  exact ⟨rfl, rfl⟩

def KeepTwo (Bs Bn : Nat) (W W' : World) : Prop := W'.heap[Bs]? = W.heap[Bs]? ∧ W'.heap[Bn]? = W.heap[Bn]?
theorem keepTwo_t {Bs Bn : Nat} {A B C : World} (h : KeepTwo Bs Bn A B) (k : KeepTwo Bs Bn B C) : KeepTwo Bs Bn A C := ⟨k.1.trans h.1, k.2.trans h.2⟩
theorem keepTwo_b {Bs Bn : Nat} {w : World} (hs : Bs < w.heap.size) (hn : Bn < w.heap.size) (W : World) (l : Nat) (o o' : Obj) (hl : w.heap.size ≤ l) (_ : W.heap[l]? = some o) (_ : o.isCells = false) (_ : o.isWalk = false) : KeepTwo Bs Bn W (W.putObj l o') :=
  ⟨World.putObj_heap_other (by omega), World.putObj_heap_other (by omega)⟩

set_option maxRecDepth 100000 in
set_option maxHeartbeats 2000000 in
theorem chunk1_in (F : Fence) (n' : Nat) (h29 : F.fn 29) (hro : F.round = none) (hn' : 1 ≤ n') (l Bs Bn b off n cap : Nat) (hn0 : 0 < n) (hn : n < 64) (hcap : n ≤ cap) (J Jx : List Unit → World → Prop)
    (hY : ∀ pre x W, J pre W → pre.length < 1 → YieldAt F (n' - 1) Try.prog l #[.slice (some ⟨b, off, none⟩) n n] W fun e W' =>
      (e = .returned (.bool true) ∧ J (pre ++ [x]) W' ∧ KeepTwo Bs Bn W W') ∨ (e = .returned (.bool false) ∧ Jx (pre ++ [x]) W'))
    (W : World) (hJa : ∀ s A, J s A → J s A.drew) (hBs : W.cell? ⟨Bs, 0, none⟩ = some (.slice (some ⟨b, off, none⟩) n cap)) (hBn : W.cell? ⟨Bn, 0, none⟩ = some (.int .i64 64)) (h0 : J [] W) :
    CallsIn F n' Try.prog 29 #[.func (.yield l) #[] #[], .pointer (some ⟨Bs, 0, none⟩), .pointer (some ⟨Bn, 0, none⟩)] W fun e W' => (∃ v, e = .returned v) ∧
      ((∃ ys, ys = [()] ∧ J ys W') ∨ (∃ pre, True ∧ Jx pre W')) := by
  have hnI : (0 : Int) < (n : Int) := by omega
  have hn64 : (n : Int) < 64 := by omega
  have hnm : ¬ (64 : Int) ≤ (n : Int) := by omega
  have hnn : min (64 : Int) (n : Int) = (n : Int) := by omega
  have hcI : (n : Int) ≤ (cap : Int) := by omega
  refine callsIn_of_wp Try.func29 rfl h29 ?_ hro
  simp only [Try.ntmps29, List.size_toArray, List.length_cons, List.length_nil, Nat.reduceAdd, Nat.reduceSub, Array.replicate_succ, Array.replicate_zero, List.push_toArray, List.append_toArray, List.nil_append, List.cons_append]
  gi_wp2
  gi_loopw [4, 5] (fun i _ wr => (i = .int .i64 0 ∧ J [] wr ∧ KeepTwo Bs Bn W wr) ∨ (i = .int .i64 64 ∧ J [()] wr ∧ KeepTwo Bs Bn W wr)) (fun i _ _ => 64 - (intOf i).toNat)
  case atStart => exact .inl ⟨rfl, h0, rfl, rfl⟩
  case round =>
    rcases hrel with ⟨rfl, hJ, hk⟩ | ⟨rfl, hJ, hk⟩
    · have c1 := (World.cell?_of_block (a := ⟨Bs, 0, none⟩) hk.1).trans hBs
      have c2 := (World.cell?_of_block (a := ⟨Bn, 0, none⟩) hk.2).trans hBn
      gi_wp2
      gi_region
      all_goals
        obtain ⟨fn, tmps, assign, body, hy, hR⟩ := hY [] () wr.drew (hJa _ _ hJ) (by decide)
        gi_wp2
        refine hR.mono ?_
        rintro e W3 (⟨rfl, hJ3, hk3⟩ | ⟨rfl, hJx3⟩)
        · have d2 := (World.cell?_of_block (a := ⟨Bn, 0, none⟩) (hk3.2.trans hk.2)).trans hBn
          gi_wp2
          go_roundw
          case rel => exact .inr ⟨rfl, hJ3, keepTwo_t hk hk3⟩
          case measure => simp [intOf]
        · gi_wp2
          refine bodyPost_ret (results_none rfl _ _ _) rfl ?_
          exact ⟨⟨_, rfl⟩, .inr ⟨_, trivial, hJx3⟩⟩
    · have c1 := (World.cell?_of_block (a := ⟨Bs, 0, none⟩) hk.1).trans hBs
      have c2 := (World.cell?_of_block (a := ⟨Bn, 0, none⟩) hk.2).trans hBn
      gi_wp2
      go_end0
      exact ⟨⟨_, rfl⟩, .inl ⟨_, rfl, hJ⟩⟩

end Go.Proofs.Ytbppofhjlgfbiaa
