/- A range over a function whose own cells change between its rounds: a law for the walks.
   Conditions: those that the theorem states. -/
import Derived.Test.YtbohmcfplgdlpaaDoorMBase
import Derived.RangeFuncNested
import Derived.RangeFuncBound
import Derived.RangeFuncCalls
import Derived.RangeFuncLeaves
import Derived.RangeFuncBox
import Derived.Shelf.Abstract
import Derived.OwnWalkIn
import Derived.TacticsInMore
import Derived.LoopNIn
import Derived.LoopIn

/- The nodes of a tree, one after another: plain facts.
   No conditions but those that each theorem states. -/
namespace Go.Proofs.YtbohmcfplgdlpaaDoor
open Go.RowKit
mutual
def preV:Nat→V→List (Nat×V)
 | d,.node k C lo hi v ps=>(d,.node k C lo hi v ps) :: presV (d+1) ps
def presV:Nat→List V→List (Nat×V)
 | _,[]=>[]
 | d,t :: ts=>preV d t ++ presV d ts
end
mutual
def dptV:V→Nat
 | .node _ _ _ _ _ ps=>dptsV ps+1
def dptsV:List V→Nat
 | []=>0
 | t :: ts=>max (dptV t) (dptsV ts)
end
theorem preV_eq (d:Nat) (t:V):preV d t=(d,t) :: presV (d+1) t.ps:=by
 cases t;rw [preV];rfl
theorem dptV_eq (t:V):dptV t=dptsV t.ps+1:=by
 cases t;rw [dptV];rfl
def todo:List (Value×List V)→List (Nat×V)
 | []=>[]
 | p :: st=>presV (st.length+1) p.2 ++ todo st
theorem todo_nil (v:Value) (st:List (Value×List V)):todo ((v,[]) :: st)=todo st:=by
 show presV _ [] ++ todo st=_
 rw [presV];rfl
theorem todo_cons (v v':Value) (t:V) (ts:List V) (st:List (Value×List V)):todo ((v,t :: ts) :: st)=(st.length+1,t) :: todo ((t.v,t.ps) :: (v',ts) :: st):=by
 show presV _ (t :: ts) ++ todo st=_ :: (presV _ t.ps ++ (presV _ ts ++ todo st))
 rw [presV,preV_eq,List.cons_append,List.cons_append,List.append_assoc]
 rfl
def okd (D:Nat):List (Value×List V)→Prop
 | []=>True
 | p :: st=>dptsV p.2+st.length≤D∧okd D st
theorem okd_push {D:Nat} {v v':Value} {t:V} {ts:List V} {st:List (Value×List V)} (h:okd D ((v,t :: ts) :: st)):okd D ((t.v,t.ps) :: (v',ts) :: st):=by
 obtain ⟨h1,h2⟩:=h
 have e:dptsV (t :: ts)=max (dptV t) (dptsV ts):=by rw [dptsV]
 have e2:=dptV_eq t
 simp only at h1
 rw [e] at h1
 refine ⟨?_,?_,h2⟩
 ·simp only [List.length_cons];omega
 ·simp only;omega
theorem okd_len {D:Nat}:∀ {st:List (Value×List V)},okd D st→st.length≤D+1
 | [],_=>by simp
 | p :: st,h=>by have:=h.1;simp only [List.length_cons];omega
theorem laid_inv {w:World} {R:Nat→Prop} {x:V} (h:Laid w R x):(x.ps=[]∧∃ a cap,x.v=.slice a 0 cap) ∨
  ∃ b off cap,x.v=.slice (some ⟨b,off,none⟩) x.ps.length cap∧R b∧b<w.heap.size∧x.ps.length≤cap∧(∀ i t,x.ps[i]? = some t→∀ j u,(ndc t)[j]? = some u→w.cell? ⟨b,off+i * 8+j,none⟩=some u)∧∀ t,t∈x.ps→Laid w R t:=by
 cases h with
 | none k C lo hi a cap=>exact .inl ⟨rfl,a,cap,rfl⟩
 | some k C lo hi ps b off cap hR hlt hcap hc hk=>exact .inr ⟨b,off,cap,rfl,hR,hlt,hcap,hc,hk⟩
theorem laid_tail {w:World} {R:Nat→Prop} {b off cap:Nat} {t:V} {ts:List V} (h:Laid w R (.node 0 zeros 0 0 (.slice (some ⟨b,off,none⟩) (ts.length+1) cap) (t :: ts))) :
  Laid w R (.node 0 zeros 0 0 (.slice (some ⟨b,off+8,none⟩) ts.length (cap - 1)) ts)∧Laid w R t∧(∀ j u,(ndc t)[j]? = some u→w.cell? ⟨b,off+j,none⟩=some u)∧b<w.heap.size∧R b∧ts.length+1≤cap:=by
 rcases laid_inv h with ⟨h1,_⟩ | ⟨b',off',cap',hv,hR,hlt,hcap,hc,hk⟩
 ·simp [V.ps] at h1
 ·simp only [V.v,V.ps,Value.slice.injEq,Option.some.injEq,Addr.mk.injEq,and_true,List.length_cons,true_and] at hv hcap hc hk
  obtain ⟨⟨rfl,rfl⟩,rfl⟩:=hv
  refine ⟨.some 0 zeros 0 0 ts b (off+8) (cap - 1) hR hlt (by omega) (fun i u hu j x hx=>?_) (fun u hu=>hk u (by simp [hu])),hk t (by simp),fun j u hu=>?_,hlt,hR,hcap⟩
  ·have:=hc (i+1) u (by simpa using hu) j x hx
   rwa [show off+(i+1) * 8+j=off+8+i * 8+j by omega] at this
  ·have:=hc 0 t rfl j u hu
   rwa [Nat.zero_mul,Nat.add_zero] at this
theorem laid_row {w:World} {R:Nat→Prop} {v:Value} {t:V} {ts:List V} (h:Laid w R (.node 0 zeros 0 0 v (t :: ts))):∃ b off cap,v=.slice (some ⟨b,off,none⟩) (ts.length+1) cap:=by
 cases h with
 | some k C lo hi ps b off cap hR hlt hcap hc hk=>exact ⟨b,off,cap,rfl⟩
theorem laid_parts {w:World} {R:Nat→Prop} {t:V} (h:Laid w R t):Laid w R (.node 0 zeros 0 0 t.v t.ps):=by
 cases h with
 | none k C lo hi a cap=>exact .none 0 zeros 0 0 a cap
 | some k C lo hi ps b off cap hR hlt hcap hc hk=>exact .some 0 zeros 0 0 ps b off cap hR hlt hcap hc hk
theorem laid_nil {w:World} {R:Nat→Prop} {v:Value} (h:Laid w R (.node 0 zeros 0 0 v [])):∃ a cap,v=.slice a 0 cap:=by
 cases h with
 | none k C lo hi a cap=>exact ⟨a,cap,rfl⟩
 | some k C lo hi ps b off cap hR hlt hcap hc hk=>exact ⟨_,cap,rfl⟩
theorem laid_null (w:World) (R:Nat→Prop) (a:Option Addr) (cap:Nat):Laid w R (.node 0 zeros 0 0 (.slice a 0 cap) []):=.none 0 zeros 0 0 a cap
def KpV (D0:Nat) (W W':World):Prop:=W.heap.size≤W'.heap.size∧∀ k c t f,W.heap[k]? = some (.cells c t f)→k≠D0→W'.heap[k]? = some (.cells c t f)
theorem kpV_t {D0:Nat} {A B C:World} (h:KpV D0 A B) (k:KpV D0 B C):KpV D0 A C:=⟨Nat.le_trans h.1 k.1,fun x c t f hx hne=>k.2 x c t f (h.2 x c t f hx hne) hne⟩
theorem KpV.own {D0:Nat} {w w':World} {base:Nat} {e:TypeId} {size:Nat} {v:Value} {n:Nat} {xs:List Value} (hk:KpV D0 w w') (h:w.ownsRow base e size v n xs) (hv:v.ownBlock≠some D0):w'.ownsRow base e size v n xs:=by
 refine ⟨h.1,?_⟩
 rcases h.2 with hn | ⟨g,cap,cur,rfl,hb,hg,rest⟩
 ·exact .inl hn
 ·exact .inr ⟨g,cap,cur,rfl,hb,hk.2 g _ _ _ hg (fun e=>hv (by rw [e];rfl)),rest⟩
theorem cell_is_cells {w:World} {a:Addr} {u:Value} (h:w.cell? a=some u):∃ c t f,w.heap[a.block]? = some (.cells c t f):=by
 unfold World.cell? at h
 split at h
 ·rename_i hb;exact ⟨_,_,_,hb⟩
 ·cases h
theorem KpV.cell {D0:Nat} {w w':World} {a:Addr} {u:Value} (hk:KpV D0 w w') (h:w.cell? a=some u) (hne:a.block≠D0):w'.cell? a=some u:=by
 obtain ⟨c,t,f,hb⟩:=cell_is_cells h
 have hb':=hk.2 _ _ _ _ hb hne
 rw [← h]
 exact World.cell?_of_block (hb'.trans hb.symm)
theorem KpV.laid {D0:Nat} {w w':World} {R:Nat→Prop} {t:V} (hk:KpV D0 w w') (h:Laid w R t) (hR:∀ b,R b→b≠D0):Laid w' R t:=by
 induction h with
 | none k C lo hi a cap=>exact .none k C lo hi a cap
 | some k C lo hi ps b off cap hRb hlt hcap hc hkk ih =>
  exact .some k C lo hi ps b off cap hRb (Nat.lt_of_lt_of_le hlt hk.1) hcap (fun i t ht j u hu=>hk.cell (hc i t ht j u hu) (hR b hRb)) ih
end Go.Proofs.YtbohmcfplgdlpaaDoor

/- A range over a function whose own cells change between its rounds: a law for the walks.
   Conditions: those that the theorem states. -/
namespace Go.Proofs.YtbohmcfplgdlpaaDoor
open Go.RowKit Go.Shelf
def Abide {β:Type} (B:Nat) (J:β→World→Prop):Prop:=∀ s W W',J s W→Chg (fun k=>B≤k) W W'→J s W'
def Iter {α:Type} (n g:Nat) (lb:Array Value) (encs:α→Array Value) (Kp:World→World→Prop) (xs:List α) (w:World):Prop :=
 ∀ (l:Nat) (J Jx:List α→World→Prop) (W:World),Below w.heap.size w W→Abide W.heap.size J→Abide W.heap.size Jx →
  (∀ pre x W1,J pre W1→(∃ post,xs=pre ++ x :: post)→YieldAt Fence.wide (n - 1) Tryd.prog l (encs x) W1 fun e W' =>
   (e=.returned (.bool true)∧J (pre ++ [x]) W'∧Kp W1 W')∨(e=.returned (.bool false)∧Jx (pre ++ [x]) W')) →
  J [] W →
  CallsIn Fence.wide n Tryd.prog g (#[.func (.yield l) #[] #[]] ++ lb) W fun e W'=>(∃ v,e=.returned v)∧(J xs W'∨∃ pre x post,xs=pre ++ x :: post∧Jx (pre ++ [x]) W')
def Left {α:Type} (Kp:World→World→Prop) (I Ix:List α→World→Prop) (pre:List α) (x:α) (W:World) (e:Exit) (W':World):Prop :=
 match e with
 | .normal=>KeepsOthers W W'∧Kp W W'∧I (pre ++ [x]) W'
 | .ret=>KeepsOthers W W'∧Ix (pre ++ [x]) W'
 | _=>False
theorem chg_put {R:Nat→Prop} (W:World) (l:Nat) (o:Obj) (h:R l):Chg R W (W.putObj l o):=(Chg.refl R W).grown (grownBy_putObj' W l o) (fun k hk _=>by injection hk with hk;subst hk;exact h)
theorem range_law {α:Type} {g:Operand} {ps:Array Tmp} {assign body:Code} {Q:Exit→Act→World→Prop} {a:Act} {w:World} {n gf:Nat} {lb:Array Value}
  (hg:a.eval g=.func (.func gf) #[] lb) (eg:∀ args w,(callFunc gf args).run Tryd.prog w=.ok (.enter gf args) w)
  {encs:α→Array Value} {Kp:World→World→Prop} {xs:List α} (hit:Iter (n - 1) gf lb encs Kp xs w)
  (hKt:∀ {A B C:World},Kp A B→Kp B C→Kp A C) (hKb:∀ (W:World) (l:Nat) (o o':Obj),w.heap.size≤l→W.heap[l]? = some o→o.isCells=false→Kp W (W.putObj l o')) (hps:∀ x,(encs x).size=ps.size)
  (I Ix:List α→World→Prop) (hI:Abide w.heap.size I) (hIx:Abide w.heap.size Ix) (h0:I [] w)
  (hround:∀ (l:Nat) (pre:List α) (x:α) (W:World),I pre W→(∃ post,xs=pre ++ x :: post)→w.heap.size<l→l<W.heap.size →
   assign.wpIn (Fence.wide.inRound l) (n - 1 - 1) Tryd.prog (Exit.then (fun a1 w1=>KeepsOthers W w1∧Kp W w1∧I pre w1∧∀ w2,Chg (fun k=>k=l) w1 w2→I pre w2→body.wpIn (Fence.wide.inRound l) (n - 1 - 1) Tryd.prog (fun e _ W'=>Left Kp I Ix pre x w2 e W') a1 w2) (fun _ _ _=>False)) { tmps:=(ps.zip (encs x)).foldl (fun t (p,v)=>t.setIfInBounds p v) a.tmps,defers:=[] } W)
  (hdone:∀ (D:Nat) (W:World),I xs W→w.heap.size≤D→W.heap[D]? = some (.deferred (some []))→Q .normal { a with defers:={ target:=.collected D,args:=#[] } :: a.defers } W)
  (hstop:∀ (D:Nat) (pre:List α) (x:α) (post:List α) (W:World),xs=pre ++ x :: post→Ix (pre ++ [x]) W→w.heap.size≤D→W.heap[D]? = some (.deferred (some []))→Code.ret.wpIn Fence.wide n Tryd.prog Q { a with defers:={ target:=.collected D,args:=#[] } :: a.defers } W) :
  (Code.rangeFunc g ps assign body).wpIn Fence.wide n Tryd.prog Q a w:=by
 refine wpIn_rangeFunc fun fn hfn=>?_
 obtain ⟨lp,hlp⟩ : ∃ lp:LoopState→Option Code→Loop,lp=fun st pe=>{ state:=st,pending:=pe,fn,tmps:=a.tmps,params:=ps,assign,body,defers:=w.heap.size }:=⟨_,rfl⟩
 have hbel:Below w.heap.size w ((w.alloc (.deferred (some []))).alloc (.loop (lp .ready none))):=((Below.refl _ w).alloc (Nat.le_refl _) _).alloc (by simp) _
 have hL:((w.alloc (.deferred (some []))).alloc (.loop (lp .ready none))).heap[w.heap.size+1]? = some (.loop (lp .ready none)):=by
  have:=World.alloc_heap_new (w.alloc (.deferred (some []))) (.loop (lp .ready none))
  rwa [World.size_alloc] at this
 have hD:((w.alloc (.deferred (some []))).alloc (.loop (lp .ready none))).heap[w.heap.size]? = some (.deferred (some [])):=(Below.heap_alloc _ _ _ (by simp)).trans (World.alloc_heap_new w _)
 have hent:=run_enterLoop_outer (P:=Tryd.prog) (w:=w) fn a.tmps ps assign body
 have hsz:((w.alloc (.deferred (some []))).alloc (.loop (lp .ready none))).heap.size=w.heap.size+2:=by simp
 have h1:I [] ((w.alloc (.deferred (some []))).alloc (.loop (lp .ready none))):=hI _ _ _ h0 (((Chg.refl _ w).alloc _).alloc _)
 have hW:(w.alloc (.deferred (some []))).alloc (.loop { state:=.ready,pending:=none,fn,tmps:=a.tmps,params:=ps,assign,body,defers:=w.heap.size })=(w.alloc (.deferred (some []))).alloc (.loop (lp .ready none)):=by rw [hlp]
 rw [hW] at hent
 generalize (w.alloc (.deferred (some []))).alloc (.loop (lp .ready none))=W1 at *
 refine ⟨w.heap.size+1,[{ target:=.collected w.heap.size,args:=#[] }],W1,{ target:=.fn (.func gf) lb,args:=#[.func (.yield (w.heap.size+1)) #[] #[]] },W1,gf,#[.func (.yield (w.heap.size+1)) #[] #[]] ++ lb,W1,hent,?_,fun _ _=>trivial,?_,(fun h=>by cases h),?_⟩
 ·simp only [resolve,hg]
  simp [go_sem]
 ·simp [invoke,go_sem,eg]
 ·have hab:∀ (I':List α→World→Prop) (st:LoopState) (pe:Option Code),Abide w.heap.size I'→Abide W1.heap.size (fun (pre:List α) (W:World)=>I' pre W∧W.heap[w.heap.size+1]? = some (.loop (lp st pe))∧W.heap[w.heap.size]? = some (.deferred (some []))):=fun I' st pe hI' s A B hs hc=>by
   obtain ⟨q1,q2,q3⟩:=hs
   refine ⟨hI' s A B q1 (hc.mono fun x _ hx=>by omega),(hc.block _ (Array.getElem?_eq_some_iff.1 q2).1 (by omega)).trans q2,(hc.block _ (Array.getElem?_eq_some_iff.1 q3).1 (by omega)).trans q3⟩
  refine (hit (w.heap.size+1) _ _ W1 hbel (hab I .ready none hI) (hab Ix .done (some .ret) hIx) ?_ ⟨h1,hL,hD⟩).mono ?_
  ·rintro pre x W ⟨q1,q2,q3⟩ hnext
   have hlt:=(Array.getElem?_eq_some_iff.1 q2).1
   have hy:=run_yield (P:=Tryd.prog) (args:=encs x) q2 (by rw [hlp];exact hps x)
   rw [hlp] at hy
   refine ⟨fn,_,assign,body,hy,roundIn_of_wpIn trivial (wpIn_mono (hround _ pre x W q1 hnext (Nat.lt_succ_self _) hlt) ?_)⟩
   rintro e a3 w1 hp
   cases e with
   | normal =>
    obtain ⟨k1,k2,k3,k4⟩:=hp
    have l1:=k1.same _ _ q2 rfl
    have d1:=k1.same _ _ q3 rfl
    have hlt1:=(Array.getElem?_eq_some_iff.1 l1).1
    refine ⟨_,run_beginRound l1 (by rw [hlp]),?_⟩
    have c2:Chg (fun k=>k=w.heap.size+1) w1 (w1.putObj (w.heap.size+1) (.loop { lp .ready none with state:=.busy })):=chg_put _ _ _ rfl
    have i2:=hI _ _ _ k3 (c2.mono fun x _ hx=>by omega)
    have l2:(w1.putObj (w.heap.size+1) (.loop { lp .ready none with state:=.busy })).heap[w.heap.size+1]? = some (.loop { lp .ready none with state:=.busy }):=World.putObj_heap_same hlt1
    have d2:=(c2.block w.heap.size (Array.getElem?_eq_some_iff.1 d1).1 (by omega)).trans d1
    have kp2:Kp w1 (w1.putObj (w.heap.size+1) (.loop { lp .ready none with state:=.busy })):=hKb _ _ _ _ (by omega) l1 rfl
    refine wpIn_mono (k4 _ c2 i2) ?_
    have fin:∀ (jump:Option Code) (W3:World),KeepsOthers (w1.putObj (w.heap.size+1) (.loop { lp .ready none with state:=.busy })) W3 →
      (Instr.endRound (w.heap.size+1) jump).run Tryd.prog W3=.ok (.bool jump.isNone) (W3.putObj (w.heap.size+1) (.loop (lp (if jump.isNone then .ready else .done) jump))) ∧
      (W3.putObj (w.heap.size+1) (.loop (lp (if jump.isNone then .ready else .done) jump))).heap[w.heap.size+1]? = some (.loop (lp (if jump.isNone then .ready else .done) jump)) ∧
      (W3.putObj (w.heap.size+1) (.loop (lp (if jump.isNone then .ready else .done) jump))).heap[w.heap.size]? = some (.deferred (some []))∧W3.heap[w.heap.size+1]? = some (.loop { lp .ready none with state:=.busy }):=fun jump W3 k5=>by
     have l3:=k5.same _ _ l2 rfl
     have d3:=k5.same _ _ d2 rfl
     have hr:=run_endRound (P:=Tryd.prog) jump l3
     rw [hlp] at hr ⊢
     refine ⟨hr,World.putObj_heap_same (Array.getElem?_eq_some_iff.1 l3).1,(World.putObj_heap_other (by omega)).trans d3,?_⟩
     rw [hlp] at l3
     exact l3
    rintro e a4 W3 hp
    cases e with
    | normal =>
     obtain ⟨k5,k6,k7⟩:=hp
     obtain ⟨r1,r2,r3,r4⟩:=fin none W3 k5
     exact ⟨_,_,r1,.inl ⟨rfl,⟨hI _ _ _ k7 (chg_put _ _ _ (by omega)),r2,r3⟩,hKt (hKt (hKt k2 kp2) k6) (hKb _ _ _ _ (by omega) r4 rfl)⟩⟩
    | ret =>
     obtain ⟨k5,k7⟩:=hp
     obtain ⟨r1,r2,r3,r4⟩:=fin (some .ret) W3 k5
     exact ⟨_,_,r1,.inr ⟨rfl,hIx _ _ _ k7 (chg_put _ _ _ (by omega)),r2,r3⟩⟩
    | exit id=>exact hp.elim
    | goto t=>exact hp.elim
    | panic ch=>exact hp.elim
    | outgrown=>exact hp.elim
   | ret=>exact hp.elim
   | exit id=>exact hp.elim
   | goto t=>exact hp.elim
   | panic ch=>exact hp.elim
   | outgrown=>exact hp.elim
  ·rintro e W2 ⟨⟨v,rfl⟩,(⟨q1,q2,q3⟩ | ⟨pre,x,post,hx,q1,q2,q3⟩)⟩
   ·refine ⟨none,_,by have:=run_endLoop (P:=Tryd.prog) q2 (by rw [hlp];simp);rw [hlp] at this;exact this,?_⟩
    exact hdone _ _ (hI _ _ _ q1 (chg_put _ _ _ (by omega))) (Nat.le_refl _) ((World.putObj_heap_other (by omega)).trans q3)
   ·refine ⟨some .ret,_,by have:=run_endLoop (P:=Tryd.prog) q2 (by rw [hlp];simp);rw [hlp] at this;exact this,?_⟩
    exact hstop _ pre x post _ hx (hIx _ _ _ q1 (chg_put _ _ _ (by omega))) (Nat.le_refl _) ((World.putObj_heap_other (by omega)).trans q3)
end Go.Proofs.YtbohmcfplgdlpaaDoor
