/- Whether a tree is formed: the program's own call, a contract.
   Conditions: the tree lies in memory, and is at most 1000000 deep. -/
import Derived.Test.YtbohmcfplgdlpaaDoorMRefS
import Derived.Test.YtbohmcfplgdlpaaDoorMRefF
import Derived.Test.YtbohmcfplgdlpaaDoorMNodes
import Derived.Test.YtbohmcfplgdlpaaDoorMDeep

/- When a node has what its kind has: the program's own call, a contract.
   No condition. -/
namespace Go.Proofs.YtbohmcfplgdlpaaDoor
open Go.RowKit Go.Shelf
attribute [local go_sem] Oper.semAt_some
set_option maxHeartbeats 1000000 in
set_option maxRecDepth 100000 in
theorem bounded_in (n:Nat) (lo hi:Int) (w:World):CallsIn Fence.wide n Tryd.prog 82 #[.int .i64 lo,.int .i64 hi] w fun e w'=>e=.returned (.bool (bnd lo hi))∧w=w':=by
 obtain ⟨B,hB⟩ : ∃ B,bnd lo hi=B:=⟨_,rfl⟩
 rw [hB]
 have HB:=Lib.hid hB
 clear hB
 refine callsIn_of_wp Tryd.func82 rfl trivial ?_ rfl
 simp only [Tryd.ntmps82,List.size_toArray,List.length_cons,List.length_nil,Nat.reduceAdd,Nat.reduceSub,Array.replicate_succ,Array.replicate_zero,List.push_toArray,List.append_toArray,List.nil_append,List.cons_append]
 by_cases hm:hi = -1
 ·subst hm
  gi_wp2
  all_goals
   go_ret
   refine ⟨ret_bool ?_,rfl⟩
   rw [← HB.out]
   unfold bnd
   rw [Bool.eq_iff_iff]
   simp <;> omega
 ·have gm:=beq_no hm
  have HM:=Lib.hid hm
  clear hm
  gi_wp2
  all_goals
   go_ret
   refine ⟨ret_bool ?_,rfl⟩
   rw [← HB.out]
   have hm:=HM.out
   unfold bnd
   rw [Bool.eq_iff_iff]
   simp <;> omega
theorem okA_F (k lo hi:Int) (Z:Bool) (n:Nat) (h:k=0∨k=1∨k=2∨k=3) (h2:¬ (lo=0∧hi=0)):okA k Z lo hi n=false:=by
 unfold okA
 rw [decide_eq_false]
 rintro (h | h | h | h)
 ·exact h2 ⟨h.2.2.1,h.2.2.2.1⟩
 ·exact h2 ⟨h.2.1,h.2.2.1⟩
 ·exact h2 ⟨h.2.2.1,h.2.2.2.1⟩
 ·omega
theorem okA_t {k:Int} {Z:Bool} {lo hi:Int} {n:Nat} {b:Bool} (h:((k=0∧Z=true∧lo=0∧hi=0∧n=0)∨(k=1∧lo=0∧hi=0∧n=0)∨((k=2∨k=3)∧Z=true∧lo=0∧hi=0∧2≤n)∨(k=4∧Z=true∧n=1∧bnd lo hi=true))↔b=true):okA k Z lo hi n=b:=by
 unfold okA
 rw [Bool.eq_iff_iff,decide_eq_true_eq]
 exact h
set_option maxHeartbeats 4000000 in
set_option maxRecDepth 100000 in
theorem formedAlone_in (n:Nat) (k lo hi:Int) (C:Nat→Nat) (sa:Option Addr) (m sc:Nat) (w:World) :
  CallsIn Fence.wide (n+1) Tryd.prog 60 #[.agg #[.int .i64 k,.int .u64 (C 0:Nat),.int .u64 (C 1:Nat),.int .u64 (C 2:Nat),.int .u64 (C 3:Nat),.slice sa m sc,.int .i64 lo,.int .i64 hi]] w fun e w'=>e=.returned (.bool (okA k (z4 C) lo hi m))∧Below w.heap.size w w':=by
 obtain ⟨B,hB⟩ : ∃ B,okA k (z4 C) lo hi m=B:=⟨_,rfl⟩
 rw [hB]
 have heq:=equal_zero C
 generalize z4 C=Z at *
 have fin:∀ b:Bool,okA k Z lo hi m=b→∀ w':World,Below w.heap.size w w'→(Ending.returned (.bool b)=Ending.returned (.bool B)∧Below w.heap.size w w'):=fun b h w' h2=>⟨by rw [← h,hB],h2⟩
 have HFIN:=Lib.hid fin
 clear hB fin
 refine callsIn_of_wp Tryd.func60 rfl trivial ?_ rfl
 simp only [Tryd.ntmps60,List.size_toArray,List.length_cons,List.length_nil,Nat.reduceAdd,Nat.reduceSub,Array.replicate_succ,Array.replicate_zero,List.push_toArray,List.append_toArray,List.nil_append,List.cons_append]
 by_cases h4:k=4
 ·subst h4
  have hlo:lo=0∨¬ lo=0:=by omega
  have hhi:hi=0∨¬ hi=0:=by omega
  cases Z with
  | false =>
   have HV:=Lib.hid (HFIN.out false (okA_t (by simp)))
   rcases hlo with rfl | hlo
   ·rcases hhi with rfl | hhi
    ·gi_wp2
     refine ⟨trivial,?_⟩
     gi_wp2
     go_ret
     exact HV.out _ ((Below.refl _ _).alloc (Nat.le_refl _) _)
    ·have g1:=beq_no hhi
     clear hhi
     gi_wp2
     refine ⟨trivial,?_⟩
     gi_wp2
     go_ret
     exact HV.out _ ((Below.refl _ _).alloc (Nat.le_refl _) _)
   ·have g1:=beq_no hlo
    clear hlo
    gi_wp2
    refine ⟨trivial,?_⟩
    gi_wp2
    go_ret
    exact HV.out _ ((Below.refl _ _).alloc (Nat.le_refl _) _)
  | true =>
   by_cases hm:m=1
   ·subst hm
    have HV:=Lib.hid (HFIN.out (bnd lo hi) (okA_t (by simp)))
    rcases hlo with rfl | hlo
    ·rcases hhi with rfl | hhi
     ·gi_wp2_with (refine ⟨trivial,?_⟩;gi_at_call 82;refine (bounded_in _ _ _ _).mono ?_;rintro e w' ⟨rfl,rfl⟩)
      go_ret
      exact HV.out _ ((Below.refl _ _).alloc (Nat.le_refl _) _)
     ·have g1:=beq_no hhi
      clear hhi
      gi_wp2_with (refine ⟨trivial,?_⟩;gi_at_call 82;refine (bounded_in _ _ _ _).mono ?_;rintro e w' ⟨rfl,rfl⟩)
      go_ret
      exact HV.out _ ((Below.refl _ _).alloc (Nat.le_refl _) _)
    ·have g1:=beq_no hlo
     clear hlo
     gi_wp2_with (refine ⟨trivial,?_⟩;gi_at_call 82;refine (bounded_in _ _ _ _).mono ?_;rintro e w' ⟨rfl,rfl⟩)
     go_ret
     exact HV.out _ ((Below.refl _ _).alloc (Nat.le_refl _) _)
   ·have HV:=Lib.hid (HFIN.out false (okA_t (by simp [hm])))
    have gm:((m:Int) == 1)=false:=by simp;omega
    clear hm
    rcases hlo with rfl | hlo
    ·rcases hhi with rfl | hhi
     ·gi_wp2
      refine ⟨trivial,?_⟩
      gi_wp2
      go_ret
      exact HV.out _ ((Below.refl _ _).alloc (Nat.le_refl _) _)
     ·have g1:=beq_no hhi
      clear hhi
      gi_wp2
      refine ⟨trivial,?_⟩
      gi_wp2
      go_ret
      exact HV.out _ ((Below.refl _ _).alloc (Nat.le_refl _) _)
    ·have g1:=beq_no hlo
     clear hlo
     gi_wp2
     refine ⟨trivial,?_⟩
     gi_wp2
     go_ret
     exact HV.out _ ((Below.refl _ _).alloc (Nat.le_refl _) _)
 ·by_cases hk:k=0∨k=1∨k=2∨k=3
  ·by_cases hF:lo=0∧hi=0
   ·obtain ⟨rfl,rfl⟩:=hF
    rcases hk with rfl | rfl | hk
    ·by_cases hm:m=0
     ·have HV:=Lib.hid (HFIN.out Z (okA_t (by simp [hm])))
      have gm:((m:Int) == 0)=true:=by simp [hm]
      clear hm h4
      cases Z
      all_goals
       gi_wp2
       go_ret
       exact HV.out _ ((Below.refl _ _).alloc (Nat.le_refl _) _)
     ·have HV:=Lib.hid (HFIN.out false (okA_t (by simp [hm])))
      have gm:((m:Int) == 0)=false:=by simp;omega
      clear hm h4
      cases Z
      all_goals
       gi_wp2
       go_ret
       exact HV.out _ ((Below.refl _ _).alloc (Nat.le_refl _) _)
    ·by_cases hm:m=0
     ·have HV:=Lib.hid (HFIN.out true (okA_t (by simp [hm])))
      have gm:((m:Int) == 0)=true:=by simp [hm]
      clear hm h4
      gi_wp2
      go_ret
      exact HV.out _ ((Below.refl _ _).alloc (Nat.le_refl _) _)
     ·have HV:=Lib.hid (HFIN.out false (okA_t (by simp [hm])))
      have gm:((m:Int) == 0)=false:=by simp;omega
      clear hm h4
      gi_wp2
      go_ret
      exact HV.out _ ((Below.refl _ _).alloc (Nat.le_refl _) _)
    ·by_cases hm:2≤m
     ·have HV:=Lib.hid (HFIN.out Z (okA_t (by rcases hk with rfl | rfl <;> simp [hm])))
      have gm:(2:Int)≤(m:Int):=by omega
      clear hm h4
      rcases hk with rfl | rfl <;> cases Z
      all_goals
       gi_wp2
       go_ret
       exact HV.out _ ((Below.refl _ _).alloc (Nat.le_refl _) _)
     ·have HV:=Lib.hid (HFIN.out false (okA_t (by rcases hk with rfl | rfl <;> simp [hm])))
      have gm:¬ (2:Int)≤(m:Int):=by omega
      clear hm h4
      rcases hk with rfl | rfl <;> cases Z
      all_goals
       gi_wp2
       go_ret
       exact HV.out _ ((Below.refl _ _).alloc (Nat.le_refl _) _)
   ·have HV:=Lib.hid (HFIN.out false (okA_F k lo hi Z m hk hF))
    by_cases hlo:lo=0
    ·have hhi:¬ hi=0:=fun h=>hF ⟨hlo,h⟩
     have g1:=beq_no hhi
     subst hlo
     clear hF hhi h4
     rcases hk with rfl | rfl | rfl | rfl <;> cases Z
     all_goals
      gi_wp2
      go_ret
      exact HV.out _ ((Below.refl _ _).alloc (Nat.le_refl _) _)
    ·have g1:=beq_no hlo
     clear hF hlo h4
     rcases hk with rfl | rfl | rfl | rfl <;> cases Z
     all_goals
      gi_wp2
      go_ret
      exact HV.out _ ((Below.refl _ _).alloc (Nat.le_refl _) _)
  ·have HV:=Lib.hid (HFIN.out false (okA_t (by simp;omega)))
   have g0:(k == 0)=false:=beq_no (by omega)
   have g1:(k == 1)=false:=beq_no (by omega)
   have g2:(k == 2)=false:=beq_no (by omega)
   have g3:(k == 3)=false:=beq_no (by omega)
   have g4:=beq_no h4
   clear h4 hk
   by_cases hlo:lo=0
   ·subst hlo
    by_cases hhi:hi=0
    ·subst hhi
     gi_wp2
     go_ret
     exact HV.out _ ((Below.refl _ _).alloc (Nat.le_refl _) _)
    ·have g5:=beq_no hhi
     clear hhi
     gi_wp2
     go_ret
     exact HV.out _ ((Below.refl _ _).alloc (Nat.le_refl _) _)
   ·have g5:=beq_no hlo
    clear hlo
    gi_wp2
    go_ret
    exact HV.out _ ((Below.refl _ _).alloc (Nat.le_refl _) _)
end Go.Proofs.YtbohmcfplgdlpaaDoor

/- Whether a tree is formed: the program's own call, a contract.
   Conditions: the tree lies in memory, and is at most 1000000 deep. -/
namespace Go.Proofs.YtbohmcfplgdlpaaDoor
open Go.RowKit Go.Shelf
attribute [local go_sem] Oper.semAt_some encsV nodeAgg
theorem keeps_below {w w':World} (h:Below w.heap.size w w'):KeepsOthers w w':=⟨h.size,fun _ _ hk _=>(h.block _ (Array.getElem?_eq_some_iff.1 hk).1).trans hk⟩
theorem kpV_below {D0:Nat} {w w':World} (h:Below w.heap.size w w'):KpV D0 w w':=⟨h.size,fun _ _ _ _ hk _=>(h.block _ (Array.getElem?_eq_some_iff.1 hk).1).trans hk⟩
structure BegunB (w w0:World) (t:V):Prop where
 size:w0.heap.size=w.heap.size+3
 chg:Chg (fun _=>False) w w0
 cell:w0.heap[w.heap.size+1]? = some (.cells #[.bool false] 4 (0,0))
 box:∀ j u,(ndc t)[j]? = some u→w0.cell? ⟨w.heap.size+1+1,j,none⟩=some u
theorem begunB (w:World) (t:V) (sa:Option Addr) (sn sc:Nat) (hsl:t.v=.slice sa sn sc) :
  BegunB w (((w.alloc (.cells #[.int .i64 t.kind,.int .u64 (t.set 0:Nat),.int .u64 (t.set 1:Nat),.int .u64 (t.set 2:Nat),.int .u64 (t.set 3:Nat),.slice sa sn sc,.int .i64 t.lo,.int .i64 t.hi] 27)).alloc (.cells #[.bool false] 4)).alloc (.cells #[.int .i64 t.kind,.int .u64 (t.set 0:Nat),.int .u64 (t.set 1:Nat),.int .u64 (t.set 2:Nat),.int .u64 (t.set 3:Nat),.slice sa sn sc,.int .i64 t.lo,.int .i64 t.hi] 27)) t:=by
 have hnd:#[.int .i64 t.kind,.int .u64 (t.set 0:Nat),.int .u64 (t.set 1:Nat),.int .u64 (t.set 2:Nat),.int .u64 (t.set 3:Nat),.slice sa sn sc,.int .i64 t.lo,.int .i64 t.hi]=(ndc t).toArray:=by unfold ndc;rw [hsl]
 rw [hnd]
 refine ⟨by simp,(((Chg.refl _ w).alloc _).alloc _).alloc _,?_,fun j u hu=>?_⟩
 ·have e:=heap_alloc_new (w.alloc (.cells (ndc t).toArray 27)) (.cells #[.bool false] 4)
  rw [World.size_alloc] at e
  exact (Below.heap_alloc _ _ _ (by simp)).trans e
 ·have e:=heap_alloc_new ((w.alloc (.cells (ndc t).toArray 27)).alloc (.cells #[.bool false] 4)) (.cells (ndc t).toArray 27)
  rw [World.size_alloc,World.size_alloc] at e
  rw [(row_cells e).1 j,List.getElem?_toArray]
  exact hu
def FI (w:World) (pre:List (Nat×V)) (W:World):Prop:=W.heap[w.heap.size+1]? = some (.cells #[.bool false] 4 (0,0))∧Below w.heap.size w W∧w.heap.size+1<W.heap.size∧pre.all (fun x=>okV x.2)=true
def FX (w:World) (pre:List (Nat×V)) (W:World):Prop:=W.heap[w.heap.size+1]? = some (.cells #[.bool false] 4 (0,0))∧Below w.heap.size w W∧w.heap.size+1<W.heap.size∧pre.all (fun x=>okV x.2)=false
set_option maxRecDepth 100000 in
set_option maxHeartbeats 4000000 in
theorem formed_in (t:V) (w:World) (sa:Option Addr) (sn sc:Nat) (hsl:t.v=.slice sa sn sc) (R:Nat→Prop) (hl:Laid w R t) (hD:dptV t≤1000000) :
  CallsIn Fence.wide 6 Tryd.prog 43 #[.agg #[.int .i64 t.kind,.int .u64 (t.set 0:Nat),.int .u64 (t.set 1:Nat),.int .u64 (t.set 2:Nat),.int .u64 (t.set 3:Nat),.slice sa sn sc,.int .i64 t.lo,.int .i64 t.hi]] w fun e w'=>e=.returned (.bool (okT (erase t)))∧Below w.heap.size w w':=by
 refine callsIn_of_wp_marks Tryd.func43 rfl trivial ?_ rfl
 simp only [Tryd.ntmps43,List.size_toArray,List.length_cons,List.length_nil,Nat.reduceAdd,Nat.reduceSub,Array.replicate_succ,Array.replicate_zero,List.push_toArray,List.append_toArray,List.nil_append,List.cons_append]
 gi_wp2_with (refine ⟨trivial,?_⟩;gi_at_call 59;refine (nodes_in _ _ _ _ _ _ _ _ _ _ _ _).mono ?_;rintro e w' ⟨rfl,rfl⟩)
 have hbg:=begunB w t sa sn sc hsl
 generalize (((w.alloc (.cells #[.int .i64 t.kind,.int .u64 (t.set 0:Nat),.int .u64 (t.set 1:Nat),.int .u64 (t.set 2:Nat),.int .u64 (t.set 3:Nat),.slice sa sn sc,.int .i64 t.lo,.int .i64 t.hi] 27)).alloc (.cells #[.bool false] 4)).alloc (.cells #[.int .i64 t.kind,.int .u64 (t.set 0:Nat),.int .u64 (t.set 1:Nat),.int .u64 (t.set 2:Nat),.int .u64 (t.set 3:Nat),.slice sa sn sc,.int .i64 t.lo,.int .i64 t.hi] 27))=w0 at *
 obtain ⟨hz,hch,hce,hbx⟩:=hbg
 have HZ:=Lib.hid hz
 have hl0:Laid w0 (fun b=>b≠w.heap.size+1) t:=hl.keep (fun b hb _=>by omega) hch.size fun b hb _=>hch.block b hb (fun h=>h)
 have HL:=Lib.hid hl0
 have HB:=Lib.hid (hch.below (Nat.le_refl _) (fun _ _ h=>h))
 clear hz hl hch hl0
 have HOK:=Lib.hid (all_pre t 1)
 refine range_law (n:=6) (gf:=81) (lb:=#[.pointer (some ⟨w.heap.size+1+1,0,none⟩)]) rfl (enters_of Tryd.func81 (by kernel_rfl) rfl)
  (nodes_iter 5 (w.heap.size+1+1) (w.heap.size+1) 1000000 t w0 hbx (by have:=HZ.out;omega) (by have:=HZ.out;omega) HL.out hD (Nat.le_refl _)) kpV_t (fun W l o o' _ h ho=>kpV_put W l o o' h ho) (fun _=>rfl)
  (FI w) (FX w) ?hI ?hX ⟨hce,HB.out,by have:=HZ.out;omega,rfl⟩ ?round ?done ?stop
 case hI =>
  rintro s A B ⟨h1,h2,h3,h4⟩ hc
  have hz:=HZ.out
  exact ⟨(hc.block _ (Array.getElem?_eq_some_iff.1 h1).1 (by omega)).trans h1,h2.trans (hc.below h2.size (fun k hk=>by omega)),Nat.lt_of_lt_of_le h3 hc.size,h4⟩
 case hX =>
  rintro s A B ⟨h1,h2,h3,h4⟩ hc
  have hz:=HZ.out
  exact ⟨(hc.block _ (Array.getElem?_eq_some_iff.1 h1).1 (by omega)).trans h1,h2.trans (hc.below h2.size (fun k hk=>by omega)),Nat.lt_of_lt_of_le h3 hc.size,h4⟩
 case round =>
  rintro l pre x W hI ⟨post,hnext⟩ hl1 hl2
  obtain ⟨ua,un,uc,hus⟩:=(pre_laid HL.out 1 x (by rw [hnext];simp)).slice
  have hun:un=x.2.ps.length:=by
   rcases (pre_laid HL.out 1 x (by rw [hnext];simp)).form with ⟨a,c,h | h⟩
   ·have:=hus.symm.trans h.1;simp at this;exact this.2.1
   ·have:=hus.symm.trans h.2;simp at this;rw [h.1];simp;exact this.2.1
  have hall:(pre ++ [x]).all (fun x=>okV x.2)=(pre.all (fun x=>okV x.2) && okV x.2):=by simp
  have HIW:=Lib.hid hI
  have hz:=HZ.out
  have hzw:=hI.2.2.1
  have HN:=Lib.hid hnext
  have HA:=Lib.hid (And.intro hall hun)
  clear hI hnext hz hall hun
  simp only [encsV,nodeAgg,hus]
  gi_wp2
  refine ⟨KeepsOthers.alloc W _,kpV_alloc W _,?_,?_⟩
  ·obtain ⟨h1,h2,h3,h4⟩:=HIW.out
   exact ⟨(Below.heap_alloc _ _ _ h3).trans h1,h2.alloc h2.size _,by simp;omega,h4⟩
  intro w2 hc2 hI2
  have hk:∀ j,w2.cell? ⟨W.heap.size,j,none⟩=(W.alloc (.cells #[.int .i64 x.2.kind,.int .u64 (x.2.set 0:Nat),.int .u64 (x.2.set 1:Nat),.int .u64 (x.2.set 2:Nat),.int .u64 (x.2.set 3:Nat),.slice ua un uc,.int .i64 x.2.lo,.int .i64 x.2.hi] 27)).cell? ⟨W.heap.size,j,none⟩:=fun j=>hc2.cell j (b:=W.heap.size) (by simp) (by omega)
  obtain ⟨x0,x1,x2,x3,x4,x5,x6,x7⟩ : w2.cell? ⟨W.heap.size,0,none⟩=some (.int .i64 x.2.kind)∧w2.cell? ⟨W.heap.size,1,none⟩=some (.int .u64 (x.2.set 0:Nat))∧w2.cell? ⟨W.heap.size,2,none⟩=some (.int .u64 (x.2.set 1:Nat))∧w2.cell? ⟨W.heap.size,3,none⟩=some (.int .u64 (x.2.set 2:Nat))∧w2.cell? ⟨W.heap.size,4,none⟩=some (.int .u64 (x.2.set 3:Nat))∧w2.cell? ⟨W.heap.size,5,none⟩=some (.slice ua un uc)∧w2.cell? ⟨W.heap.size,6,none⟩=some (.int .i64 x.2.lo)∧w2.cell? ⟨W.heap.size,7,none⟩=some (.int .i64 x.2.hi):=by
   refine ⟨?_,?_,?_,?_,?_,?_,?_,?_⟩ <;> rw [hk] <;> simp
  have HI2:=Lib.hid hI2
  clear hk hc2 hI2 hl1 hl2 hzw
  gi_wp2
  refine ⟨trivial,?_⟩
  gi_at_call 60
  refine ((formedAlone_in 2 _ _ _ _ _ _ _ _).inRound l).mono ?_
  rintro e w3 ⟨rfl,hb3⟩
  obtain ⟨h1,h2,h3,h4⟩:=HI2.out
  have hc3:w3.heap[w.heap.size+1]? = some (.cells #[.bool false] 4 (0,0)):=(hb3.block _ h3).trans h1
  have hb4:Below w.heap.size w w3:=h2.trans (hb3.mono h2.size)
  have hz3:w.heap.size+1<w3.heap.size:=Nat.lt_of_lt_of_le h3 hb3.size
  have hcell:w3.cell? ⟨w.heap.size+1,0,none⟩=some (.bool false):=(row_cells hc3).1 0
  have hfz:w3.frozen? ⟨w.heap.size+1,0,none⟩=false:=(row_cells hc3).2 0
  have HK:=Lib.hid (And.intro hc3 (And.intro hb4 (And.intro (keeps_below hb3) (kpV_below (D0:=w.heap.size+1) hb3))))
  have HP:=Lib.hid h4
  clear h1 h2 h3 h4 hc3 hb4 hb3 x0 x1 x2 x3 x4 x5 x6 x7
  cases hE:okA x.2.kind (z4 x.2.set) x.2.lo x.2.hi un with
  | true =>
   have hG:(pre ++ [x]).all (fun x=>okV x.2)=true:=by rw [HA.out.1,HP.out];unfold okV;rw [← HA.out.2,hE];rfl
   have HG:=Lib.hid hG
   clear hE hG
   gi_wp2
   exact ⟨HK.out.2.2.1,HK.out.2.2.2,HK.out.1,HK.out.2.1,hz3,HG.out⟩
  | false =>
   have hG:(pre ++ [x]).all (fun x=>okV x.2)=false:=by rw [HA.out.1];unfold okV;rw [← HA.out.2,hE];simp
   have HG:=Lib.hid hG
   clear hE hG
   gi_wp2
   refine ⟨HK.out.2.2.1.trans (KeepsOthers.setCell _ _ _),heap_one HK.out.1,HK.out.2.1.setCell (p:=⟨w.heap.size+1,0,none⟩) (by simp) _,by simpa using hz3,HG.out⟩
 case done =>
  rintro D W ⟨h1,h2,h3,h4⟩ hD2 hK
  have q3:W.cell? ⟨w.heap.size+1,0,none⟩=some (.bool false):=(row_cells h1).1 0
  have q4:W.frozen? ⟨w.heap.size+1,0,none⟩=false:=(row_cells h1).2 0
  have hz:=HZ.out
  have hne:w.heap.size+1≠D:=by omega
  have h5:(W.setCell ⟨w.heap.size+1,0,none⟩ (.bool true)).heap[D]? = some (.deferred (some [])):=(Below.heap_setCell _ _ _ _ (fun h=>hne h.symm)).trans hK
  have h6:((W.setCell ⟨w.heap.size+1,0,none⟩ (.bool true)).putObj D (.deferred none)).heap[w.heap.size+1]? = some (.cells #[.bool true] 4 (0,0)):=(World.putObj_heap_other hne).trans (heap_one h1)
  have h7:((W.setCell ⟨w.heap.size+1,0,none⟩ (.bool true)).putObj D (.deferred none)).cell? ⟨w.heap.size+1,0,none⟩=some (.bool true):=(row_cells h6).1 0
  have h8:Below w.heap.size w ((W.setCell ⟨w.heap.size+1,0,none⟩ (.bool true)).putObj D (.deferred none)) :=
   (h2.setCell (p:=⟨w.heap.size+1,0,none⟩) (by simp) _).trans (belowK_b (w:=w) (Nat.le_refl _) _ D _ _ (by omega) h5 rfl rfl)
  have HK:=Lib.hid (And.intro h5 (And.intro h7 h8))
  have hfin:okT (erase t)=true:=by rw [← HOK.out,h4]
  have HFN:=Lib.hid hfin
  clear hK h1 h2 h4 hz h5 h6 h7 h8 hfin
  gi_wp2
  refine ⟨by simp,.inl ⟨_,_,rfl,run_takeDeferred HK.out.1,?_⟩⟩
  obtain ⟨_,h7,h8⟩:=HK.out
  generalize ((W.setCell ⟨w.heap.size+1,0,none⟩ (.bool true)).putObj D (.deferred none))=W9 at *
  exact ⟨.bool true,by simp [results,Tryd.results43,go_sem,h7],by rw [HFN.out],h8⟩
 case stop =>
  rintro D pre x post W hx ⟨h1,h2,h3,h4⟩ hD2 hK
  have hz:=HZ.out
  have hne:w.heap.size+1≠D:=by omega
  have h6:(W.putObj D (.deferred none)).heap[w.heap.size+1]? = some (.cells #[.bool false] 4 (0,0)):=(World.putObj_heap_other hne).trans h1
  have h7:(W.putObj D (.deferred none)).cell? ⟨w.heap.size+1,0,none⟩=some (.bool false):=(row_cells h6).1 0
  have h8:Below w.heap.size w (W.putObj D (.deferred none)):=h2.trans (belowK_b (w:=w) (Nat.le_refl _) _ D _ _ (by omega) hK rfl rfl)
  have HK:=Lib.hid (And.intro hK (And.intro h7 h8))
  have hfin:okT (erase t)=false:=by
   rw [← HOK.out,hx,show pre ++ x :: post=(pre ++ [x]) ++ post by simp,List.all_append,h4]
   rfl
  have HFN:=Lib.hid hfin
  clear hK h1 h2 h4 hz h6 h7 h8 hfin
  gi_wp2
  refine ⟨by simp,.inl ⟨_,_,rfl,run_takeDeferred HK.out.1,?_⟩⟩
  obtain ⟨_,h7,h8⟩:=HK.out
  generalize (W.putObj D (.deferred none))=W9 at *
  exact ⟨.bool false,by simp [results,Tryd.results43,go_sem,h7],by rw [HFN.out],h8⟩
end Go.Proofs.YtbohmcfplgdlpaaDoor
