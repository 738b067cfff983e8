/- How great the trees are that the reader makes: plain facts; and what Parse answers.
   No conditions but those that each theorem states. -/
import Derived.Test.YtbohmcfplgdlpaaDoorMNodes
import Derived.Test.YtbohmcfplgdlpaaDoorMBase

/- How deep a tree is, and how many places it has: contracts.
   Conditions: the tree lies in memory, and is at most 1000000 deep. -/
namespace Go.Proofs.YtbohmcfplgdlpaaDoor
open Go.RowKit Go.Shelf
attribute [local go_sem] Oper.semAt_some encsV nodeAgg
def ones (l:List (Nat×V)):Nat:=l.countP fun x=>x.2.kind == 1
set_option maxRecDepth 100000 in
set_option maxHeartbeats 2000000 in
theorem nodes_in (n:Nat) (k c0 c1 c2 c3 lo hi:Int) (sa:Option Addr) (sn sc:Nat) (w:World) :
  CallsIn Fence.wide n Tryd.prog 59 #[.agg #[.int .i64 k,.int .u64 c0,.int .u64 c1,.int .u64 c2,.int .u64 c3,.slice sa sn sc,.int .i64 lo,.int .i64 hi]] w fun e w'=>e=.returned (.func (.func 81) #[] #[.pointer (some ⟨w.heap.size,0,none⟩)])∧w'=w.alloc (.cells #[.int .i64 k,.int .u64 c0,.int .u64 c1,.int .u64 c2,.int .u64 c3,.slice sa sn sc,.int .i64 lo,.int .i64 hi] 27):=by
 refine callsIn_of_wp Tryd.func59 rfl trivial ?_ rfl
 simp only [Tryd.ntmps59,List.size_toArray,List.length_cons,List.length_nil,Nat.reduceAdd,Nat.reduceSub,Array.replicate_succ,Array.replicate_zero,List.push_toArray,List.append_toArray,List.nil_append,List.cons_append]
 gi_wp2
 go_ret
 exact ⟨rfl,rfl⟩
theorem kpV_put {D0:Nat} (W:World) (l:Nat) (o o':Obj) (hl:W.heap[l]? = some o) (ho:o.isCells=false):KpV D0 W (W.putObj l o') :=
 ⟨by simp,fun k c ty f hk _=>(World.putObj_heap_other (fun e=>by subst e;rw [hk] at hl;cases hl;cases ho)).trans hk⟩
theorem kpV_alloc {D0:Nat} (W:World) (o:Obj):KpV D0 W (W.alloc o) :=
 ⟨by simp,fun k c ty f hk _=>(Below.heap_alloc _ _ _ (Array.getElem?_eq_some_iff.1 hk).1).trans hk⟩
theorem heap_one {w:World} {B:Nat} {v u:Value} {ty:TypeId} (h:w.heap[B]? = some (.cells #[v] ty (0,0))):(w.setCell ⟨B,0,none⟩ u).heap[B]? = some (.cells #[u] ty (0,0)):=by
 simp [World.setCell,Array.getElem?_modify,h]
structure Begun (w w0:World) (t:V) (z:Int):Prop where
 size:w0.heap.size=w.heap.size+3
 chg:Chg (fun _=>False) w w0
 cell:w0.heap[w.heap.size+1]? = some (.cells #[.int .i64 z] 3 (0,0))
 box:∀ j u,(ndc t)[j]? = some u→w0.cell? ⟨w.heap.size+1+1,j,none⟩=some u
theorem begun (w:World) (t:V) (sa:Option Addr) (sn sc:Nat) (hsl:t.v=.slice sa sn sc) :
  Begun w (((w.alloc (.cells #[.int .i64 t.kind,.int .u64 (t.set 0:Nat),.int .u64 (t.set 1:Nat),.int .u64 (t.set 2:Nat),.int .u64 (t.set 3:Nat),.slice sa sn sc,.int .i64 t.lo,.int .i64 t.hi] 27)).alloc (.cells #[.int .i64 0] 3)).alloc (.cells #[.int .i64 t.kind,.int .u64 (t.set 0:Nat),.int .u64 (t.set 1:Nat),.int .u64 (t.set 2:Nat),.int .u64 (t.set 3:Nat),.slice sa sn sc,.int .i64 t.lo,.int .i64 t.hi] 27)) t 0:=by
 have hnd:#[.int .i64 t.kind,.int .u64 (t.set 0:Nat),.int .u64 (t.set 1:Nat),.int .u64 (t.set 2:Nat),.int .u64 (t.set 3:Nat),.slice sa sn sc,.int .i64 t.lo,.int .i64 t.hi]=(ndc t).toArray:=by unfold ndc;rw [hsl]
 rw [hnd]
 refine ⟨by simp,(((Chg.refl _ w).alloc _).alloc _).alloc _,?_,fun j u hu=>?_⟩
 ·have e:=heap_alloc_new (w.alloc (.cells (ndc t).toArray 27)) (.cells #[.int .i64 0] 3)
  rw [World.size_alloc] at e
  exact (Below.heap_alloc _ _ _ (by simp)).trans e
 ·have e:=heap_alloc_new ((w.alloc (.cells (ndc t).toArray 27)).alloc (.cells #[.int .i64 0] 3)) (.cells (ndc t).toArray 27)
  rw [World.size_alloc,World.size_alloc] at e
  rw [(row_cells e).1 j,List.getElem?_toArray]
  exact hu
end Go.Proofs.YtbohmcfplgdlpaaDoor

/- How many places a tree has: a contract.
   Conditions: the tree lies in memory, is at most 1000000 deep, and has at most 1000000 places. -/
namespace Go.Proofs.YtbohmcfplgdlpaaDoor
open Go.RowKit Go.Shelf
attribute [local go_sem] Oper.semAt_some encsV nodeAgg
theorem mem_presV:∀ {ts:List V} {d:Nat} {x:Nat×V},x∈presV d ts→∃ t,t∈ts∧x∈preV d t
 | [],d,x,h=>by rw [presV] at h;cases h
 | t :: ts,d,x,h=>by
  rw [presV,List.mem_append] at h
  rcases h with h | h
  ·exact ⟨t,by simp,h⟩
  ·obtain ⟨u,hu,hx⟩:=mem_presV h
   exact ⟨u,by simp [hu],hx⟩
theorem pre_laid {w:World} {R:Nat→Prop} {t:V} (h:Laid w R t):∀ (d:Nat) (x:Nat×V),x∈preV d t→Laid w R x.2:=by
 induction h with
 | none k C lo hi a cap =>
  intro d x hx
  rw [preV,presV,List.mem_singleton] at hx
  subst hx
  exact .none k C lo hi a cap
 | some k C lo hi ps b off cap hR hlt hcap hc hk ih =>
  intro d x hx
  rw [preV,List.mem_cons] at hx
  rcases hx with rfl | hx
  ·exact .some k C lo hi ps b off cap hR hlt hcap hc hk
  ·obtain ⟨u,hu,hx⟩:=mem_presV hx
   exact ih u hu (d+1) x hx
end Go.Proofs.YtbohmcfplgdlpaaDoor

/- How great the trees are that the reader makes: plain facts; and what Parse answers.
   No conditions but those that each theorem states. -/
namespace Go.Proofs.YtbohmcfplgdlpaaDoor
mutual
def dptT:T→Nat
 | .node _ _ _ _ ps=>dptsT ps+1
def dptsT:List T→Nat
 | []=>0
 | t :: ts=>max (dptT t) (dptsT ts)
end
mutual
def szT:T→Nat
 | .node _ _ _ _ ps=>szsT ps+1
def szsT:List T→Nat
 | []=>0
 | t :: ts=>szT t+szsT ts
end
mutual
theorem dpt_erase:∀ t:V,dptV t=dptT (erase t)
 | .node k C lo hi v ps=>by rw [dptV,erase,dptT,dpts_erase ps]
theorem dpts_erase:∀ ts:List V,dptsV ts=dptsT (erases ts)
 | []=>by rw [dptsV,erases,dptsT]
 | t :: ts=>by rw [dptsV,erases,dptsT,dpt_erase t,dpts_erase ts]
end
mutual
theorem dpt_sz:∀ t:T,dptT t≤szT t
 | .node k C lo hi ps=>by rw [dptT,szT];have:=dpts_sz ps;omega
theorem dpts_sz:∀ ts:List T,dptsT ts≤szsT ts
 | []=>by rw [dptsT,szsT];exact Nat.le_refl _
 | t :: ts=>by rw [dptsT,szsT];have:=dpt_sz t;have:=dpts_sz ts;omega
end
theorem szs_append (a b:List T):szsT (a ++ b)=szsT a+szsT b:=by
 induction a with
 | nil=>simp [szsT]
 | cons t a ih=>rw [List.cons_append,szsT,szsT,ih];omega
theorem szs_one (t:T):szsT [t]=szT t:=by rw [szsT,szsT];omega
end Go.Proofs.YtbohmcfplgdlpaaDoor
