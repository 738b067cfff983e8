/- The map that the document's own Of makes, as far as its two loops have come: plain facts, and what is kept in memory.
   Conditions: those that each theorem states. -/
import Derived.Test.YtjcfmbmepmlckaaDoorMQk
import Derived.Test.YtjcfmbmepmlckaaDoorMPt
import Derived.Test.YtjcfmbmepmlckaaDoorMSimA
import Derived.Test.YtjcfmbmepmlckaaDoorMPn
import Derived.Test.YtjcfmbmepmlckaaDoorMMelt
import Derived.Test.YtjcfmbmepmlckaaDoorMPp
import Derived.Test.YtjcfmbmepmlckaaDoorMQs
import Derived.Deep.LoopGhost
import Derived.Deep.DeepCutAuto
import Derived.Test.YtjcfmbmepmlckaaDoorMPS

/- The document's own Simple of every formed tree: a contract.
   Conditions: the tree lies in memory, is formed, and has at most 300000 nodes. -/
namespace Go.Proofs.YtjcfmbmepmlckaaDoor
open Go.RowKit
theorem refSim_any (N:Nat):N≤300000→∀ (t:V) (w:World) (R:Nat→Prop),szT (erase t)≤N→Laid w R t→okF t →
  Calls Tryd.prog 12 #[nodeAgg t] w (SimR (erase t) w):=by
 induction N with
 | zero=>intro _ t w R h;have:=sz_pos (erase t);omega
 | succ N ih =>
  intro hN t w R hz ht hok
  cases hv:vdV t with
  | true=>exact refSim_void t w R ht hok (by omega) hv
  | false =>
   by_cases hk:t.kind<2
   ·exact refSim_leaf t w R ht hok (by omega) hv hk
   ·refine refSim_big t w R ht hok (by omega) hv hk fun p hp W hW=>?_
    have h1:=sz_mem hp
    have h2:=sz_eq t
    exact ih (by omega) p W R (by omega) (laid_low (laid_kidQ ht hp) hW) (hok.part hp)
end Go.Proofs.YtjcfmbmepmlckaaDoor

/- The document's own map of a simple tree, by the paths to its nodes, and that it is the program's: plain facts.
   Conditions: the tree is formed. -/
namespace Go.Proofs.YtjcfmbmepmlckaaDoor
open Go.RowKit
mutual
def mapU:T→List Nat→PM→PM
 | .node k C lo hi ps,ar,m=>mapsU ps (belP k lo hi ar m) (putP k C ar (scP k lo hi m))
def mapsU:List T→List Nat→PM→PM
 | [],_,m=>m
 | t :: ts,ar,m=>mapsU ts ar (mapU t ar m)
end
def bigM (m:PM):Prop:=41<m.sets.length∨∃ l∈m.ars,4<l.length
theorem putP_setsU (k:Int) (C:Nat→Nat) (ar:List Nat) (m:PM):m.sets.length≤(putP k C ar m).sets.length:=by
 unfold putP;split
 ·simp
 ·exact Nat.le_refl _
theorem scP_setsU (k lo hi:Int) (m:PM):(scP k lo hi m).sets=m.sets∧(scP k lo hi m).ars=m.ars:=by
 unfold scP;split <;> exact ⟨rfl,rfl⟩
theorem putP_arsU (k:Int) (C:Nat→Nat) (ar:List Nat) (m:PM):∀ l∈m.ars,l∈(putP k C ar m).ars:=by
 unfold putP;split
 ·intro l hl;exact List.mem_append_left _ hl
 ·exact fun _ h=>h
mutual
theorem mapU_more:∀ (t:T) (ar:List Nat) (m:PM),m.sets.length≤(mapU t ar m).sets.length∧∀ l∈m.ars,l∈(mapU t ar m).ars
 | .node k C lo hi ps,ar,m=>by
  rw [mapU]
  have h:=mapsU_more ps (belP k lo hi ar m) (putP k C ar (scP k lo hi m))
  have h1:=putP_setsU k C ar (scP k lo hi m)
  have h2:=scP_setsU k lo hi m
  rw [h2.1] at h1
  refine ⟨by omega,fun l hl=>h.2 l (putP_arsU _ _ _ _ l (by rw [h2.2];exact hl))⟩
theorem mapsU_more:∀ (ts:List T) (ar:List Nat) (m:PM),m.sets.length≤(mapsU ts ar m).sets.length∧∀ l∈m.ars,l∈(mapsU ts ar m).ars
 | [],ar,m=>⟨Nat.le_refl _,fun _ h=>h⟩
 | t :: ts,ar,m=>by
  rw [mapsU]
  have h1:=mapU_more t ar m
  have h2:=mapsU_more ts ar (mapU t ar m)
  exact ⟨by omega,fun l hl=>h2.2 l (h1.2 l hl)⟩
end
theorem big_more (ts:List T) (ar:List Nat) (m:PM) (h:bigM m):bigM (mapsU ts ar m):=by
 have h1:=mapsU_more ts ar m
 rcases h with h | ⟨l,hl,h⟩
 ·exact .inl (by omega)
 ·exact .inr ⟨l,h1.2 l hl,h⟩
theorem bel_lenU (k lo hi:Int) (ar:List Nat) (m:PM):ar.length≤(belP k lo hi ar m).length:=by
 unfold belP;split
 ·simp
 ·exact Nat.le_refl _
mutual
theorem mapN_some:∀ (t:T) (ar:List Nat) (m m':PM),mapN t ar m=some m'→(∀ l∈m.ars,l.length≤4)→mapU t ar m=m'∧(∀ l∈m'.ars,l.length≤4)∧(m'.sets.length≤41)
 | .node k C lo hi ps,ar,m,m',h,ha=>by
  rw [mapN] at h
  split at h
  ·cases h
  ·rename_i ho
   unfold overP at ho
   have ho':=fun q=>ho (decide_eq_true q)
   have h1:(putP k C ar (scP k lo hi m)).sets.length≤41:=Nat.le_of_not_lt fun q=>ho' (.inl q)
   have h2:(belP k lo hi ar m).length≤4:=Nat.le_of_not_lt fun q=>ho' (.inr q)
   have h3:=bel_lenU k lo hi ar m
   rw [mapU]
   refine mapsN_some ps _ _ m' h (fun l hl=>?_) h1
   unfold putP at hl
   split at hl
   ·rcases List.mem_append.1 hl with hl | hl
    ·exact ha l (by rw [← (scP_setsU k lo hi m).2];exact hl)
    ·rw [List.mem_singleton.1 hl];omega
   ·exact ha l (by rw [← (scP_setsU k lo hi m).2];exact hl)
theorem mapsN_some:∀ (ts:List T) (ar:List Nat) (m m':PM),mapsN ts ar m=some m'→(∀ l∈m.ars,l.length≤4)→m.sets.length≤41→mapsU ts ar m=m'∧(∀ l∈m'.ars,l.length≤4)∧m'.sets.length≤41
 | [],ar,m,m',h,ha,hs=>by
  rw [mapsN] at h
  obtain rfl:=Option.some.inj h
  exact ⟨rfl,ha,hs⟩
 | t :: ts,ar,m,m',h,ha,hs=>by
  rw [mapsN] at h
  cases h1:mapN t ar m with
  | none=>rw [h1] at h;cases h
  | some m1 =>
   rw [h1] at h
   obtain ⟨e,h2,h3⟩:=mapN_some t ar m m1 h1 ha
   rw [mapsU,e]
   exact mapsN_some ts ar m1 m' h h2 h3
end
inductive HpT:T→Prop
 | mk (k:Int) (C:Nat→Nat) (lo hi:Int) (ps:List T) (hh:k=4→∀ (ar:List Nat) (m:PM),∃ l∈(mapsU ps ar m).ars,ar.length≤l.length) (hp:∀ p∈ps,HpT p):HpT (.node k C lo hi ps)
theorem HpT.part {t:T} (h:HpT t):∀ p∈t.ps,HpT p:=by
 cases h with
 | mk k C lo hi ps _ hp=>exact hp
def PosIn (t:T):Prop:=∀ (ar:List Nat) (m:PM),∃ l∈(mapU t ar m).ars,ar.length≤l.length
theorem pos_mem:∀ {ts:List T} {t:T},t∈ts→PosIn t→∀ (ar:List Nat) (m:PM),∃ l∈(mapsU ts ar m).ars,ar.length≤l.length
 | [],t,h,_,_,_=>by cases h
 | u :: ts,t,h,hp,ar,m=>by
  rw [mapsU]
  rcases List.mem_cons.1 h with rfl | h
  ·obtain ⟨l,hl,h1⟩:=hp ar m
   exact ⟨l,(mapsU_more ts ar _).2 l hl,h1⟩
  ·exact pos_mem h hp ar _
theorem pos_part {t p:T} (h:p∈t.ps) (hp:PosIn p):PosIn t:=by
 cases t with
 | node k C lo hi ps =>
  intro ar m
  rw [mapU]
  obtain ⟨l,hl,h1⟩:=pos_mem h hp (belP k lo hi ar m) (putP k C ar (scP k lo hi m))
  exact ⟨l,hl,by have:=bel_lenU k lo hi ar m;omega⟩
theorem pos_leaf {C:Nat→Nat} {lo hi:Int} (ps:List T) (h:z4 C=false):PosIn (.node 1 C lo hi ps):=by
 intro ar m
 rw [mapU]
 refine ⟨ar,(mapsU_more ps _ _).2 ar ?_,Nat.le_refl _⟩
 unfold putP isPos
 rw [if_pos (by rw [h];rfl)]
 exact List.mem_append_right _ (List.mem_singleton.2 rfl)
theorem left_none_twice {ps:List T} (h:leftT 3 [] ps=ps) (hz:∀ p∈ps,p.kind=0→p=noT) (hl:2≤ps.length):∃ p∈ps,p.kind≠0:=by
 match ps,hl with
 | a :: b :: l,_ =>
  by_cases ha:a.kind=0
  ·by_cases hb:b.kind=0
   ·exfalso
    have e1:=hz a (by simp) ha
    have e2:=hz b (by simp) hb
    subst e1 e2
    have h1:leftT 3 [] (noT :: noT :: l)=leftT 3 [noT] l:=by
     rw [leftT,show dropT 3 [] noT=false by simp [dropT,vdT]]
     simp only [Bool.false_eq_true,if_false,List.nil_append]
     rw [leftT,show dropT 3 [noT] noT=true by simp [dropT,like_refl]]
     simp
    have h2:∀ (a l:List T),(leftT 3 l a).length≤l.length+a.length:=by
     intro a
     induction a with
     | nil=>intro l;rw [leftT];simp
     | cons x a ih =>
      intro l
      rw [leftT]
      split
      ·have:=ih l;rw [List.length_cons];omega
      ·have:=ih (l ++ [x]);rw [List.length_append] at this;simp only [List.length_cons,List.length_nil] at this ⊢;omega
    have h3:=h2 l [noT]
    rw [← h1,h] at h3
    simp only [List.length_cons,List.length_nil] at h3
    omega
   ·exact ⟨b,by simp,hb⟩
  ·exact ⟨a,by simp,ha⟩
mutual
theorem pos_in:∀ t:T,SmT t→lnT t=true→PwT t→ZnT t→WsT t→t.kind≠0→PosIn t
 | .node k C lo hi ps,hs,hl,hw,hz,hk,h0=>by
  have hps:=poss_in ps (fun p hp=>hs.part p hp) (fun p hp=>ln_ps hl p hp) (fun p hp=>hw.part p hp) (fun p hp=>hz.part p hp) fun p hp=>hk.part p hp
  have hv:=ln_vd hl
  have ha:okA k (z4 C) lo hi ps.length=true:=by cases hk with | mk _ _ _ _ _ _ h _=>exact h
  have ha:=of_decide_eq_true ha
  simp only [T.kind] at h0
  by_cases h1:k=1
  ·subst h1
   refine pos_leaf ps ?_
   rw [vdT] at hv
   simpa using hv
  ·have hex:∃ p∈ps,p.kind≠0:=by
    by_cases h2:k=2
    ·match ps,(by omega:2≤ps.length),hs with
     | a :: l,_,hs=>exact ⟨a,by simp,(hs.two h2 a (by simp [T.ps])).1⟩
    ·by_cases h3:k=3
     ·refine left_none_twice (by cases hw with | mk _ _ _ _ _ h _=>exact h h3) (fun p hp hk0=>(hz.part p hp).zero hk0) (by omega)
     ·match ps,(by omega:1≤ps.length),hs with
      | a :: l,_,hs =>
       cases hs with
       | mk _ _ _ _ _ _ _ h4 _=>exact ⟨a,by simp,(h4 (by omega) a (by simp)).1⟩
   obtain ⟨p,hp,hk0⟩:=hex
   exact pos_part (t:=.node k C lo hi ps) hp (hps p hp hk0)
theorem poss_in:∀ ts:List T,(∀ p∈ts,SmT p)→(∀ p∈ts,lnT p=true)→(∀ p∈ts,PwT p)→(∀ p∈ts,ZnT p)→(∀ p∈ts,WsT p)→∀ p∈ts,p.kind≠0→PosIn p
 | [],_,_,_,_,_,p,hp,_=>by cases hp
 | t :: ts,h1,h2,h3,h4,h5,p,hp,h0=>by
  rcases List.mem_cons.1 hp with e | hp
  ·rw [e] at h0 ⊢;exact pos_in t (h1 t (by simp)) (h2 t (by simp)) (h3 t (by simp)) (h4 t (by simp)) (h5 t (by simp)) h0
  ·exact poss_in ts (fun p hp=>h1 p (List.mem_cons_of_mem _ hp)) (fun p hp=>h2 p (List.mem_cons_of_mem _ hp)) (fun p hp=>h3 p (List.mem_cons_of_mem _ hp)) (fun p hp=>h4 p (List.mem_cons_of_mem _ hp)) (fun p hp=>h5 p (List.mem_cons_of_mem _ hp)) p hp h0
end
mutual
theorem hp_of:∀ t:T,SmT t→lnT t=true→PwT t→ZnT t→WsT t→HpT t
 | .node k C lo hi ps,hs,hl,hw,hz,hk=>by
  have ha:okA k (z4 C) lo hi ps.length=true:=by cases hk with | mk _ _ _ _ _ _ h _=>exact h
  have ha:=of_decide_eq_true ha
  refine .mk _ _ _ _ _ (fun e ar m=>?_) (hps_of ps (fun p hp=>hs.part p hp) (fun p hp=>ln_ps hl p hp) (fun p hp=>hw.part p hp) (fun p hp=>hz.part p hp) fun p hp=>hk.part p hp)
  have hex:∃ p∈ps,p.kind≠0:=by
   match ps,(by omega:1≤ps.length),hs with
   | a :: l,_,hs =>
    cases hs with
    | mk _ _ _ _ _ _ _ h4 _=>exact ⟨a,by simp,(h4 e a (by simp)).1⟩
  obtain ⟨p,hp,h0⟩:=hex
  exact pos_mem hp (pos_in p (hs.part p hp) (ln_ps hl p hp) (hw.part p hp) (hz.part p hp) (hk.part p hp) h0) ar m
theorem hps_of:∀ ts:List T,(∀ p∈ts,SmT p)→(∀ p∈ts,lnT p=true)→(∀ p∈ts,PwT p)→(∀ p∈ts,ZnT p)→(∀ p∈ts,WsT p)→∀ p∈ts,HpT p
 | [],_,_,_,_,_,p,hp=>by cases hp
 | t :: ts,h1,h2,h3,h4,h5,p,hp=>by
  rcases List.mem_cons.1 hp with e | hp
  ·rw [e];exact hp_of t (h1 t (by simp)) (h2 t (by simp)) (h3 t (by simp)) (h4 t (by simp)) (h5 t (by simp))
  ·exact hps_of ts (fun p hp=>h1 p (List.mem_cons_of_mem _ hp)) (fun p hp=>h2 p (List.mem_cons_of_mem _ hp)) (fun p hp=>h3 p (List.mem_cons_of_mem _ hp)) (fun p hp=>h4 p (List.mem_cons_of_mem _ hp)) (fun p hp=>h5 p (List.mem_cons_of_mem _ hp)) p hp
end
mutual
theorem mapN_none:∀ (t:T) (ar:List Nat) (m:PM),HpT t→ar.length≤4→mapN t ar m=none→bigM (mapU t ar m)
 | .node k C lo hi ps,ar,m,hp,hl,h=>by
  rw [mapN] at h
  rw [mapU]
  split at h
  ·rename_i ho
   unfold overP at ho
   rcases of_decide_eq_true ho with h1 | h1
   ·exact big_more _ _ _ (.inl h1)
   ·have hk:k=4:=by
     unfold belP at h1
     split at h1
     ·rename_i hc
      unfold cnt4 at hc
      simp only [Bool.and_eq_true,decide_eq_true_eq] at hc
      exact hc.1
     ·omega
    cases hp with
    | mk _ _ _ _ _ hh _ =>
     obtain ⟨l,h2,h3⟩:=hh hk (belP k lo hi ar m) (putP k C ar (scP k lo hi m))
     exact .inr ⟨l,h2,by omega⟩
  ·rename_i ho
   unfold overP at ho
   have ho':=fun q=>ho (decide_eq_true q)
   exact mapsN_none ps _ _ (fun p hm=>hp.part p hm) (Nat.le_of_not_lt fun q=>ho' (.inr q)) h
theorem mapsN_none:∀ (ts:List T) (ar:List Nat) (m:PM),(∀ p∈ts,HpT p)→ar.length≤4→mapsN ts ar m=none→bigM (mapsU ts ar m)
 | [],ar,m,_,_,h=>by rw [mapsN] at h;cases h
 | t :: ts,ar,m,hp,hl,h=>by
  rw [mapsN] at h
  rw [mapsU]
  cases h1:mapN t ar m with
  | none=>exact big_more _ _ _ (mapN_none t ar m (hp t (by simp)) hl h1)
  | some m1 =>
   rw [h1] at h
   have hmm:mapsN ts ar m1=none:=h
   have h2:=mapU_of_some t ar m m1 h1
   rw [h2]
   exact mapsN_none ts ar m1 (fun p hm=>hp p (List.mem_cons_of_mem _ hm)) hl hmm
theorem mapU_of_some:∀ (t:T) (ar:List Nat) (m m':PM),mapN t ar m=some m'→mapU t ar m=m'
 | .node k C lo hi ps,ar,m,m',h=>by
  rw [mapN] at h
  rw [mapU]
  split at h
  ·cases h
  ·exact mapsU_of_some ps _ _ _ h
theorem mapsU_of_some:∀ (ts:List T) (ar:List Nat) (m m':PM),mapsN ts ar m=some m'→mapsU ts ar m=m'
 | [],ar,m,m',h=>by rw [mapsN] at h;exact Option.some.inj h
 | t :: ts,ar,m,m',h=>by
  rw [mapsN] at h
  rw [mapsU]
  cases h1:mapN t ar m with
  | none=>rw [h1] at h;cases h
  | some m1 =>
   rw [h1] at h
   rw [mapU_of_some t ar m m1 h1]
   exact mapsU_of_some ts ar m1 m' h
end
def umapT (t:T):PM:=mapU (simT t) [] pm0
theorem map_lim {t:T} (hok:okT t=true):(bigM (umapT t)→mapT (simT t)=none)∧(¬ bigM (umapT t)→mapT (simT t)=some (umapT t)):=by
 unfold mapT umapT
 have h0:∀ l∈pm0.ars,l.length≤4:=fun l hl=>by rw [List.mem_singleton.1 hl];exact Nat.zero_le _
 have hH:HpT (simT t):=by
  cases hv:vdT t with
  | true =>
   rw [sim_void hv]
   exact .mk _ _ _ _ _ (fun e=>by cases e) fun p hp=>by cases hp
  | false=>exact hp_of _ (sim_sm t hok) (sim_ln t hok hv) (sim_pw t hok) (sim_zn t hok) (sim_ws t hok)
 cases hm:mapN (simT t) [] pm0 with
 | none =>
  have hb:=mapN_none _ _ _ hH (Nat.zero_le _) hm
  exact ⟨fun _=>rfl,fun h=>absurd hb h⟩
 | some m =>
  obtain ⟨e,h1,h2⟩:=mapN_some _ _ _ _ hm h0
  rw [e]
  refine ⟨fun hb=>?_,fun _=>rfl⟩
  rcases hb with hb | ⟨l,hl,hb⟩
  ·omega
  ·have:=h1 l hl;omega
end Go.Proofs.YtjcfmbmepmlckaaDoor

/- The document's own list of a tree's nodes, the paths to them, their numbers, and the map that comes of these: plain facts.
   No conditions but those that each theorem states. -/
namespace Go.Proofs.YtjcfmbmepmlckaaDoor
open Go.RowKit
def cntV (t:V):Bool:=cnt4 t.kind t.lo t.hi
def posV (t:V):Bool:=isPos t.kind t.set
mutual
def npV:V→List Nat→Nat→List (V×List Nat)
 | .node k C lo hi v ps,up,f=>(.node k C lo hi v ps,up) :: npsV ps (up ++ [f]) (f+1)
def npsV:List V→List Nat→Nat→List (V×List Nat)
 | [],_,_=>[]
 | t :: ts,up,f=>npV t up f ++ npsV ts up (f+szT (erase t))
end
mutual
theorem np_len:∀ (t:V) (up:List Nat) (f:Nat),(npV t up f).length=szT (erase t)
 | .node k C lo hi v ps,up,f=>by rw [npV,List.length_cons,nps_len,erase,szT]
theorem nps_len:∀ (ts:List V) (up:List Nat) (f:Nat),(npsV ts up f).length=szsT (erases ts)
 | [],up,f=>by simp [npsV,erases,szsT]
 | t :: ts,up,f=>by rw [npsV,List.length_append,np_len,nps_len,erases,szsT]
end
theorem nps_app (a b:List V) (up:List Nat) (f:Nat):npsV (a ++ b) up f=npsV a up f ++ npsV b up (f+szsT (erases a)):=by
 induction a generalizing f with
 | nil=>simp [npsV,erases,szsT]
 | cons t a ih=>rw [List.cons_append,npsV,npsV,ih,erases,szsT,List.append_assoc,Nat.add_assoc]
theorem nps_take {ts:List V} {i:Nat} {t:V} (h:ts[i]? = some t) (up:List Nat) (f:Nat):npsV (ts.take (i+1)) up f=npsV (ts.take i) up f ++ npV t up (f+(npsV (ts.take i) up f).length):=by
 rw [List.take_add_one,h,nps_app,nps_len]
 congr 1
 show npsV [t] up _=_
 rw [npsV,npsV,List.append_nil]
mutual
theorem np_lt:∀ (t:V) (up:List Nat) (f:Nat),(∀ x∈up,x<f)→∀ (j:Nat) (q:V×List Nat),(npV t up f)[j]? = some q→∀ x∈q.2,x<f+j
 | .node k C lo hi v ps,up,f,h,j,q,hq=>by
  rw [npV] at hq
  cases j with
  | zero=>obtain rfl:=Option.some.inj hq;exact fun x hx=>by have:=h x hx;omega
  | succ j =>
   have:=nps_lt ps (up ++ [f]) (f+1) (fun x hx=>by
    rcases List.mem_append.1 hx with hx | hx
    ·have:=h x hx;omega
    ·rw [List.mem_singleton.1 hx];omega) j q (by simpa using hq)
   exact fun x hx=>by have:=this x hx;omega
theorem nps_lt:∀ (ts:List V) (up:List Nat) (f:Nat),(∀ x∈up,x<f)→∀ (j:Nat) (q:V×List Nat),(npsV ts up f)[j]? = some q→∀ x∈q.2,x<f+j
 | [],up,f,h,j,q,hq=>by rw [npsV] at hq;simp at hq
 | t :: ts,up,f,h,j,q,hq=>by
  rw [npsV] at hq
  rcases Nat.lt_or_ge j (npV t up f).length with hj | hj
  ·rw [List.getElem?_append_left hj] at hq
   exact np_lt t up f h j q hq
  ·rw [List.getElem?_append_right hj] at hq
   have:=nps_lt ts up (f+szT (erase t)) (fun x hx=>by have:=h x hx;omega) _ q hq
   rw [np_len] at this hj
   exact fun x hx=>by have:=this x hx;rw [np_len] at *;omega
end
mutual
theorem np_dep:∀ (t:V) (up:List Nat) (f:Nat),∀ q∈npV t up f,q.2.length<up.length+szT (erase t)
 | .node k C lo hi v ps,up,f,q,hq=>by
  rw [npV] at hq
  rw [erase,szT]
  rcases List.mem_cons.1 hq with rfl | hq
  ·simp only;omega
  ·have:=nps_dep ps _ _ q hq
   rw [List.length_append] at this
   simp only [List.length_cons,List.length_nil] at this
   omega
theorem nps_dep:∀ (ts:List V) (up:List Nat) (f:Nat),∀ q∈npsV ts up f,q.2.length<up.length+szsT (erases ts)
 | [],up,f,q,hq=>by rw [npsV] at hq;cases hq
 | t :: ts,up,f,q,hq=>by
  rw [npsV] at hq
  rw [erases,szsT]
  rcases List.mem_append.1 hq with hq | hq
  ·have:=np_dep t up f q hq;omega
  ·have:=nps_dep ts up _ q hq;omega
end
inductive Sub:V→V→Prop
 | self (t:V):Sub t t
 | part (s p t:V) (hp:p∈t.ps) (h:Sub s p):Sub s t
mutual
theorem np_sub:∀ (t:V) (up:List Nat) (f:Nat),∀ q∈npV t up f,Sub q.1 t
 | .node k C lo hi v ps,up,f,q,hq=>by
  rw [npV] at hq
  rcases List.mem_cons.1 hq with rfl | hq
  ·exact .self _
  ·obtain ⟨p,hp,h⟩:=nps_sub ps _ _ q hq
   exact .part _ p _ hp h
theorem nps_sub:∀ (ts:List V) (up:List Nat) (f:Nat),∀ q∈npsV ts up f,∃ p∈ts,Sub q.1 p
 | [],up,f,q,hq=>by rw [npsV] at hq;cases hq
 | t :: ts,up,f,q,hq=>by
  rw [npsV] at hq
  rcases List.mem_append.1 hq with hq | hq
  ·exact ⟨t,by simp,np_sub t up f q hq⟩
  ·obtain ⟨p,hp,h⟩:=nps_sub ts up _ q hq
   exact ⟨p,List.mem_cons_of_mem _ hp,h⟩
end
theorem Sub.laid {w:World} {R:Nat→Prop} {s t:V} (h:Sub s t) (ht:Laid w R t):Laid w R s:=by
 induction h with
 | self=>exact ht
 | part p t hp _ ih =>
  refine ih ?_
  rcases laid_inv ht with ⟨h1,_⟩ | ⟨_,_,_,_,_,_,_,_,h9⟩
  ·rw [h1] at hp;cases hp
  ·exact h9 p hp
theorem Sub.ok {s t:V} (h:Sub s t) (ht:okF t):okF s:=by
 induction h with
 | self=>exact ht
 | part p t hp _ ih=>exact ih (ht.part hp)
def nums:List V→Nat→List Int
 | [],_=>[]
 | t :: l,c=>if cntV t then (c:Int) :: nums l (c+1) else (-1) :: nums l c
def cnts (l:List V):Nat:=(l.filter cntV).length
theorem nums_app (a b:List V) (c:Nat):nums (a ++ b) c=nums a c ++ nums b (c+cnts a):=by
 induction a generalizing c with
 | nil=>rfl
 | cons t a ih =>
  rw [List.cons_append,nums,nums]
  have e:cnts (t :: a)=(if cntV t then 1 else 0)+cnts a:=by
   unfold cnts
   rw [List.filter_cons]
   split <;> simp [Nat.add_comm]
  rw [e]
  split
  ·rw [ih,List.cons_append,show c+1+cnts a=c+(1+cnts a) by omega]
  ·rw [ih,List.cons_append,Nat.zero_add]
theorem nums_len (l:List V) (c:Nat):(nums l c).length=l.length:=by
 induction l generalizing c with
 | nil=>rfl
 | cons t l ih=>rw [nums];split <;> simp [ih]
theorem nums_take {l:List V} {i:Nat} {t:V} (h:l[i]? = some t):nums (l.take (i+1)) 0=nums (l.take i) 0 ++ [if cntV t then (cnts (l.take i):Int) else -1]:=by
 rw [List.take_add_one,h,nums_app,Nat.zero_add]
 congr 1
 show nums [t] _=_
 rw [nums]
 split <;> rfl
def aroundOf (N:List Int) (path:List Nat):List Nat:=path.flatMap fun (j:Nat)=>match (N[j]?:Option Int) with
 | some x=>if 0≤x then [x.toNat] else []
 | none=>[]
theorem around_snoc (N:List Int) (p:List Nat) (j:Nat) (x:Int) (h:N[j]? = some x):aroundOf N (p ++ [j])=aroundOf N p ++ (if 0≤x then [x.toNat] else []):=by
 unfold aroundOf
 rw [List.flatMap_append]
 congr 1
 rw [List.flatMap_cons,List.flatMap_nil,List.append_nil,h]
theorem around_take {N:List Int} {p:List Nat} {k j:Nat} {x:Int} (hk:p[k]? = some j) (h:N[j]? = some x):aroundOf N (p.take (k+1))=aroundOf N (p.take k) ++ (if 0≤x then [x.toNat] else []):=by
 rw [List.take_add_one,hk]
 exact around_snoc N _ j x h
theorem around_len (N:List Int) (p:List Nat):(aroundOf N p).length≤p.length:=by
 unfold aroundOf
 induction p with
 | nil=>exact Nat.le_refl _
 | cons j p ih =>
  rw [List.flatMap_cons,List.length_append,List.length_cons]
  have:(match N[j]? with | some x=>if 0≤x then [x.toNat] else [] | none=>([]:List Nat)).length≤1:=by
   split
   ·split <;> simp
   ·simp
  omega
def addP (m:PM) (N:List Int) (l:List (V×List Nat)):PM:=⟨m.sets ++ (l.filter fun q=>posV q.1).map fun q=>q.1.set,m.scs ++ (l.filter fun q=>cntV q.1).map fun q=>(max 1 q.1.lo,q.1.hi),m.ars ++ (l.filter fun q=>posV q.1).map fun q=>aroundOf N q.2⟩
theorem addP_nil (m:PM) (N:List Int):addP m N []=m:=by simp [addP]
theorem addP_app (m:PM) (N:List Int) (a b:List (V×List Nat)):addP m N (a ++ b)=addP (addP m N a) N b:=by
 simp [addP,List.filter_append,List.map_append,List.append_assoc]
theorem addP_one (m:PM) (N:List Int) (t:V) (up:List Nat):addP m N [(t,up)]=putP t.kind t.set (aroundOf N up) (scP t.kind t.lo t.hi m):=by
 unfold addP putP scP
 rw [List.filter_cons,List.filter_cons]
 simp only [posV,cntV,List.filter_nil]
 by_cases h1:isPos t.kind t.set=true <;> by_cases h2:cnt4 t.kind t.lo t.hi=true <;> simp [h1,h2]
theorem addP_scs (m:PM) (N:List Int) (l:List (V×List Nat)):(addP m N l).scs.length=m.scs.length+cnts (l.map Prod.fst):=by
 unfold addP cnts
 rw [List.length_append,List.length_map,List.filter_map,List.length_map]
 rfl
def NumAt (N:List Int) (f:Nat) (l:List V) (c:Nat):Prop:=∀ (j:Nat) (x:Int),(nums l c)[j]? = some x→N[f+j]? = some x
theorem NumAt.left {N:List Int} {f c:Nat} {a b:List V} (h:NumAt N f (a ++ b) c):NumAt N f a c:=fun j x hx=>h j x (by
 rw [nums_app,List.getElem?_append_left (List.getElem?_eq_some_iff.1 hx).1];exact hx)
theorem NumAt.right {N:List Int} {f c:Nat} {a b:List V} (h:NumAt N f (a ++ b) c):NumAt N (f+a.length) b (c+cnts a):=fun j x hx=>by
 have:=h (a.length+j) x (by
  rw [nums_app,List.getElem?_append_right (by rw [nums_len];omega),nums_len,Nat.add_sub_cancel_left];exact hx)
 rw [Nat.add_assoc];exact this
mutual
theorem mapU_np:∀ (t:V) (up:List Nat) (f:Nat) (m:PM) (N:List Int),NumAt N f ((npV t up f).map Prod.fst) m.scs.length→mapU (erase t) (aroundOf N up) m=addP m N (npV t up f)
 | .node k C lo hi v ps,up,f,m,N,h=>by
  rw [npV,List.map_cons] at h
  have hn:NumAt N f ([V.node k C lo hi v ps] ++ (npsV ps (up ++ [f]) (f+1)).map Prod.fst) m.scs.length:=h
  have h1:=hn.right
  have h0:=hn.left
  rw [erase,mapU,npV,show (V.node k C lo hi v ps,up) :: npsV ps (up ++ [f]) (f+1)=[(V.node k C lo hi v ps,up)] ++ npsV ps (up ++ [f]) (f+1) from rfl,addP_app]
  have e1:=addP_one m N (.node k C lo hi v ps) up
  simp only [V.kind,V.set,V.lo,V.hi] at e1
  rw [← e1]
  have hs:=addP_scs m N [(V.node k C lo hi v ps,up)]
  have e2:belP k lo hi (aroundOf N up) m=aroundOf N (up ++ [f]):=by
   have h2:=h0 0 (if cntV (.node k C lo hi v ps) then (m.scs.length:Int) else -1) (by rw [nums];split <;> rfl)
   rw [Nat.add_zero] at h2
   rw [around_snoc N up f _ h2]
   unfold belP
   by_cases hc:cnt4 k lo hi=true
   ·rw [if_pos hc,show cntV (.node k C lo hi v ps)=true from hc]
    simp
   ·rw [if_neg hc,show cntV (.node k C lo hi v ps)=false from by show cnt4 k lo hi=false;simpa using hc]
    simp
  rw [e2]
  refine mapsU_nps ps (up ++ [f]) (f+1) _ N ?_
  rw [hs]
  exact h1
theorem mapsU_nps:∀ (ts:List V) (up:List Nat) (f:Nat) (m:PM) (N:List Int),NumAt N f ((npsV ts up f).map Prod.fst) m.scs.length→mapsU (erases ts) (aroundOf N up) m=addP m N (npsV ts up f)
 | [],up,f,m,N,_=>by rw [erases,mapsU,npsV,addP_nil]
 | t :: ts,up,f,m,N,h=>by
  rw [npsV,List.map_append] at h
  rw [erases,mapsU,npsV,addP_app,mapU_np t up f m N h.left]
  refine mapsU_nps ts up _ _ N ?_
  rw [addP_scs]
  have:=h.right
  rw [List.length_map,np_len] at this
  exact this
end
theorem umap_np {t:T} {r:V} (h:erase r=simT t):umapT t=addP pm0 (nums ((npV r [] 0).map Prod.fst) 0) (npV r [] 0):=by
 unfold umapT
 rw [← h]
 exact mapU_np r [] 0 pm0 (nums ((npV r [] 0).map Prod.fst) 0) fun j x hx=>by rw [Nat.zero_add];exact hx
end Go.Proofs.YtjcfmbmepmlckaaDoor

/- Whether a node of a formed tree counts, by the document: a contract.
   Conditions: the tree is formed. -/
namespace Go.Proofs.YtjcfmbmepmlckaaDoor
open Go.RowKit Go.Shelf
attribute [local go_sem] nodeAgg
def Bx2k (b:Nat) (k:Int) (C:Nat→Nat) (pv:Value) (W:World):Prop:=W.heap[b]? = some (.cells #[.int .i64 k,.int .u64 (C 0:Nat),.int .u64 (C 1:Nat),.int .u64 (C 2:Nat),.int .u64 (C 3:Nat),pv,.int .i64 0,.int .i64 0] 27 (0,0))∧ZB2 (b+1) W
theorem bx2k_new (w:World) (k:Int) (C:Nat→Nat) (pv:Value):∃ w2,(w.alloc (.cells #[.int .i64 k,.int .u64 (C 0:Nat),.int .u64 (C 1:Nat),.int .u64 (C 2:Nat),.int .u64 (C 3:Nat),pv,.int .i64 0,.int .i64 0] 27)).alloc (.cells #[.int .i64 0,.int .i64 0] 59)=w2∧Below w.heap.size w w2∧Bx2k w.heap.size k C pv w2:=by
 refine ⟨_,rfl,((Below.refl _ w).alloc (Nat.le_refl _) _).alloc (by simp) _,(Below.heap_alloc _ _ _ (by simp)).trans (heap_alloc_new w _),?_⟩
 have:=heap_alloc_new (w.alloc (.cells #[.int .i64 k,.int .u64 (C 0:Nat),.int .u64 (C 1:Nat),.int .u64 (C 2:Nat),.int .u64 (C 3:Nat),pv,.int .i64 0,.int .i64 0] 27)) (.cells #[.int .i64 0,.int .i64 0] 59)
 rw [World.size_alloc] at this
 exact this
set_option maxHeartbeats 4000000 in
set_option maxRecDepth 100000 in
theorem refCounts_not (k:Int) (C:Nat→Nat) (pv:Value) (w:World) (g:¬ k=4) :
  Calls Tryd.prog 14 #[.agg #[.int .i64 k,.int .u64 (C 0:Nat),.int .u64 (C 1:Nat),.int .u64 (C 2:Nat),.int .u64 (C 3:Nat),pv,.int .i64 0,.int .i64 0]] w fun e w'=>e=.returned (.tuple #[.agg #[.int .i64 1,.int .i64 0],.bool false])∧Below w.heap.size w w':=by
 obtain ⟨w2,hw2,hb2,hx⟩:=bx2k_new w k C pv
 have g4:(k == 4)=false:=by simp [g]
 have HX:=Lib.hid (And.intro hx hb2)
 obtain ⟨c0,c1,c2,c3,c4,c5,c6,c7⟩:=cells8 hx.1
 obtain ⟨⟨s0,s1⟩,f0,f1,hl⟩:=hx.2.cells
 clear hx hb2 g
 go_enter Tryd.func14,Tryd.ntmps14
 go_upto_region 1 with fail
 clear hw2
 go_wp2_with fail
 clear s0 s1 f0 f1 c0 c1 c2 c3 c4 c5 c6 c7
 have hf:=set2_heap HX.out.1.2 (.int .i64 1) (.int .i64 0)
 have hch:=set2_chg w2 (w.heap.size+1) (.int .i64 1) (.int .i64 0)
 generalize ((w2.setCell ⟨w.heap.size+1,0,none⟩ (.int .i64 1)).setCell ⟨w.heap.size+1,1,none⟩ (.int .i64 0))=w4 at *
 obtain ⟨r0,r1⟩:=cells2 hf
 refine bodyPost_ret (v:=.tuple #[.agg #[.int .i64 1,.int .i64 0],.bool false]) (by simp [results,Tryd.results14,go_sem,r0,r1]) rfl ⟨rfl,?_⟩
 exact HX.out.2.trans (hch.below (by have:=HX.out.2.size;omega) fun k hk e=>by omega)
theorem refCounts_t (t:V) (w:World) (hok:okF t) :
  Calls Tryd.prog 14 #[.agg #[.int .i64 t.kind,.int .u64 (t.set 0:Nat),.int .u64 (t.set 1:Nat),.int .u64 (t.set 2:Nat),.int .u64 (t.set 3:Nat),t.v,.int .i64 t.lo,.int .i64 t.hi]] w fun e w'=>e=.returned (.tuple #[.agg #[.int .i64 (max 1 t.lo),.int .i64 t.hi],.bool (cnt4 t.kind t.lo t.hi)])∧Below w.heap.size w w':=by
 have ha:okA t.kind (z4 t.set) t.lo t.hi t.ps.length=true:=by
  unfold okF at hok
  cases t with
  | node k C lo hi v ps =>
   rw [erase] at hok
   have:=(Bool.and_eq_true _ _▸(show (okA k (z4 C) lo hi (erases ps).length && oksT (erases ps))=true from by rw [← okT];exact hok):_∧_).1
   rwa [erases_length] at this
 have ha:=of_decide_eq_true ha
 by_cases hk:t.kind=4
 ·have hz:z4 t.set=true∧bnd t.lo t.hi=true:=by
   rcases ha with h | h | h | h
   ·omega
   ·omega
   ·omega
   ·exact ⟨h.2.1,h.2.2.2⟩
  have h4:=of_decide_eq_true hz.1
  have hb:=of_decide_eq_true hz.2
  have:=refCounts_any t.lo t.hi t.v w hb.1 (by omega)
  rw [hk,h4.1,h4.2.1,h4.2.2.1,h4.2.2.2,show cnt4 4 t.lo t.hi=cntS (max 1 t.lo) t.hi from by unfold cnt4;simp]
  exact this
 ·have h0:t.lo=0∧t.hi=0:=by
   rcases ha with h | h | h | h
   ·exact ⟨h.2.2.1,h.2.2.2.1⟩
   ·exact ⟨h.2.1,h.2.2.1⟩
   ·exact ⟨h.2.2.1,h.2.2.2.1⟩
   ·omega
  rw [h0.1,h0.2,show cnt4 t.kind 0 0=false from by unfold cnt4;simp [hk],show (max 1 0:Int)=1 by omega]
  exact refCounts_not t.kind t.set t.v w hk
end Go.Proofs.YtjcfmbmepmlckaaDoor

/- The document's own list of a tree's nodes, and of the paths to them: a contract.
   Conditions: the tree lies in memory, and isn't great. -/
namespace Go.Proofs.YtjcfmbmepmlckaaDoor
open Go.RowKit Go.Shelf
attribute [local go_sem] nodeAgg
structure PthR (w:World) (a B:Nat) (v:Value) (ls:List (List Nat)):Prop where
 own:∃ vs,w.ownsRow a 39 1 v ls.length vs∧∀ (i:Nat) (l:List Nat),ls[i]? = some l→∃ u,vs[i]? = some u∧IntsR w B u l
theorem PthR.keep {w w':World} {a B:Nat} {v:Value} {ls:List (List Nat)} {Q:Nat→Prop} (h:PthR w a B v ls) (hc:Chg Q w w') (hQ:∀ x,Q x→¬ TyB w x 39∧¬ TyB w x 3):PthR w' a B v ls:=by
 obtain ⟨vs,h1,h2⟩:=h.own
 refine ⟨vs,own_chg h1 hc fun b hb q=>(hQ b q).1 (own_ty h1 hb),fun i l hl=>?_⟩
 obtain ⟨u,hu,hr⟩:=h2 i l hl
 exact ⟨u,hu,hr.keep hc fun x q _=>(hQ x q).2⟩
theorem PthR.below {w w':World} {a B:Nat} {v:Value} {ls:List (List Nat)} (h:PthR w a B v ls) (hb:Below w.heap.size w w'):PthR w' a B v ls :=
 h.keep (Chg.of_below (R:=fun _=>False) hb) fun _ q=>q.elim
theorem PthR.low {w:World} {a a' B:Nat} {v:Value} {ls:List (List Nat)} (h:PthR w a B v ls) (ha:a'≤a):PthR w a' B v ls:=by
 obtain ⟨vs,h1,h2⟩:=h.own
 exact ⟨vs,own_low h1 ha,h2⟩
theorem pth_join {w:World} {a B:Nat} {v:Value} {ls ms:List (List Nat)} {vs qs:List Value} (hl:vs.length=ls.length) (h1:∀ (i:Nat) (l:List Nat),ls[i]? = some l→∃ u,vs[i]? = some u∧IntsR w B u l) (h2:∀ (i:Nat) (l:List Nat),ms[i]? = some l→∃ u,qs[i]? = some u∧IntsR w B u l)
  (ho:w.ownsRow a 39 1 v (ls.length+ms.length) (vs ++ qs)):PthR w a B v (ls ++ ms):=by
 refine ⟨vs ++ qs,by rw [List.length_append];exact ho,fun i l hi=>?_⟩
 rcases Nat.lt_or_ge i ls.length with h | h
 ·rw [List.getElem?_append_left h] at hi
  obtain ⟨u,hu,hr⟩:=h1 i l hi
  exact ⟨u,by rw [List.getElem?_append_left (by omega)];exact hu,hr⟩
 ·rw [List.getElem?_append_right h] at hi
  obtain ⟨u,hu,hr⟩:=h2 _ l hi
  exact ⟨u,by rw [List.getElem?_append_right (by omega),hl];exact hu,hr⟩
theorem add_zero' (g j:Nat):(⟨g,0,none⟩ : Addr).add j=⟨g,j,none⟩:=by unfold Addr.add;split <;> simp_all
theorem own_news {w:World} {a e s n g c:Nat} {xs:List Value} (h:w.ownsRow a e s (.slice (some ⟨g,0,none⟩) n c) n xs):∀ j u,xs[j]? = some u→w.cell? ((⟨g,0,none⟩ : Addr).add j)=some u:=by
 intro j u hu
 have hj:j<xs.length:=(List.getElem?_eq_some_iff.1 hu).1
 rw [add_zero',h.cellAt j (by have:=h.1;omega)]
 exact hu
theorem ints_snoc (l:List Nat) (f:Nat):ints (l ++ [f])=ints l ++ [.int .i64 (f:Int)]:=by simp [ints]
theorem ints_one (l:List Nat):∀ u∈ints l,u.oneCell'=true:=by
 intro u hu
 obtain ⟨x,_,rfl⟩:=List.mem_map.1 hu
 rfl
def npP (t:V) (up:List Nat) (f i:Nat):List (V×List Nat):=(t,up) :: npsV (t.ps.take i) (up ++ [f]) (f+1)
theorem npP_all (t:V) (up:List Nat) (f:Nat):npP t up f t.ps.length=npV t up f:=by
 cases t with
 | node k C lo hi v ps=>rw [npP,npV,V.ps,List.take_length]
theorem npP_step {t p:V} {i:Nat} (h:t.ps[i]? = some p) (up:List Nat) (f:Nat):npP t up f (i+1)=npP t up f i ++ npV p (up ++ [f]) (f+(npP t up f i).length):=by
 rw [npP,npP,nps_take h,List.cons_append,List.length_cons]
 congr 3
 omega
theorem npP_len (t:V) (up:List Nat) (f i:Nat):(npP t up f i).length≤szT (erase t):=by
 rw [npP,List.length_cons,nps_len,sz_eq]
 have h:∀ (l:List V) (i:Nat),szsT (erases (l.take i))≤szsT (erases l):=by
  intro l
  induction l with
  | nil=>intro i;simp
  | cons a l ih =>
   intro i
   cases i with
   | zero=>rw [List.take_zero];simp [erases,szsT]
   | succ i=>rw [List.take_succ_cons,erases,erases,szsT,szsT];have:=ih i;omega
 have:=h t.ps i
 omega
def NodE (W:World) (B:Nat) (L:List (V×List Nat)) (e:Ending) (w':World):Prop :=
 (∃ lv pv,e=.returned (.tuple #[lv,pv])∧w'.ownsRow W.heap.size 27 8 lv L.length (flat (L.map Prod.fst))∧PthR w' W.heap.size B pv (L.map Prod.snd))∧Below W.heap.size W w'
def NodI (w:World) (t:V) (up:List Nat) (f B n:Nat) (lv pv x:Value) (wr:World):Prop:=∃ i:Nat,x=.int .i64 i∧n=t.ps.length - i∧i≤t.ps.length∧wr.ownsRow w.heap.size 27 8 lv (npP t up f i).length (flat ((npP t up f i).map Prod.fst))∧PthR wr w.heap.size B pv ((npP t up f i).map Prod.snd)∧Below w.heap.size w wr
set_option maxHeartbeats 8000000 in
set_option maxRecDepth 100000 in
theorem nodes_any (N:Nat):N≤100000→∀ (t:V) (up:List Nat) (uv:Value) (f B:Nat) (w:World) (R:Nat→Prop),szT (erase t)≤N→Laid w R t→IntsR w B uv up→up.length+szT (erase t)≤1000000→f+szT (erase t)≤1000000→B≤w.heap.size →
  Calls Tryd.prog 13 #[nodeAgg t,uv,.int .i64 f] w (NodE w B (npV t up f)):=by
 induction N with
 | zero=>intro _ t up uv f B w R h;have:=sz_pos (erase t);omega
 | succ N ih =>
 intro hN t up uv f B w R hz ht hup hul hfl hBw
 obtain ⟨i0,hi,hz0,hz1,hz2⟩:=info_parts info27
 obtain ⟨j0,hj,hy0,hy1,hy2⟩:=info_parts infoL39
 obtain ⟨k0,hk,hx0,hx1,hx2⟩:=info_parts infoI3
 have hap0:∀ (b:Nat) (W:World),(Builtin.append_ #[39,39] 39 #[.slice (some ⟨b,0,none⟩) 0 0,.slice none 0 0]).run Tryd.prog W=.ok (.slice (some ⟨b,0,none⟩) 0 0) W:=fun b W=>by kernel_rfl
 obtain ⟨sa,sc,hs,hrow⟩:=laid_row' ht
 obtain ⟨sn,hsn⟩ : ∃ sn,sn=t.ps.length:=⟨_,rfl⟩
 rw [← hsn] at hs
 obtain ⟨ua,uc,huf⟩:=hup.form
 obtain ⟨un,hun⟩ : ∃ un,un=up.length:=⟨_,rfl⟩
 rw [← hun] at huf
 subst huf
 have hsn1:sn≤100000:=by have:=len_sz t.ps;have:=sz_eq t;omega
 have q1:(0:Int)≤(sn:Int):=by omega
 have hun1:un≤1000000:=by omega
 have hf1:f≤1000000:=by omega
 have qf:(0:Int)≤(f:Int):=by omega
 rw [nodeAgg_v hs]
 obtain ⟨w2,hw2⟩ : ∃ w2,w.alloc (.cells #[.int .i64 t.kind,.int .u64 (t.set 0:Nat),.int .u64 (t.set 1:Nat),.int .u64 (t.set 2:Nat),.int .u64 (t.set 3:Nat),.slice sa sn sc,.int .i64 t.lo,.int .i64 t.hi] 27)=w2:=⟨_,rfl⟩
 have hb2:Below w.heap.size w w2:=hw2▸(Below.refl _ w).alloc (Nat.le_refl _) _
 have e2:w2.heap[w.heap.size]? = some (.cells #[.int .i64 t.kind,.int .u64 (t.set 0:Nat),.int .u64 (t.set 1:Nat),.int .u64 (t.set 2:Nat),.int .u64 (t.set 3:Nat),.slice sa sn sc,.int .i64 t.lo,.int .i64 t.hi] 27 (0,0)):=hw2▸heap_alloc_new w _
 obtain ⟨c0,c1,c2,c3,c4,c5,c6,c7⟩:=cells8 e2
 have HT:=Lib.hid (And.intro ht (And.intro hrow (And.intro hup (And.intro hul (And.intro hfl (And.intro hBw (And.intro hsn (And.intro hun (And.intro hs (And.intro hz (And.intro hb2 e2)))))))))))
 have hs2:w2.heap.size=w.heap.size+1:=by rw [← hw2];simp
 have HS2:=Lib.hid hs2
 have HNI:=Lib.hid (show NodI w2 t up f B t.ps.length (.slice (some ⟨w2.heap.size,0,none⟩) 1 1) (.slice (some ⟨w2.heap.size+1,0,none⟩) 1 1) (.int .i64 0) ((w2.alloc (.cells #[.int .i64 t.kind,.int .u64 (t.set 0:Nat),.int .u64 (t.set 1:Nat),.int .u64 (t.set 2:Nat),.int .u64 (t.set 3:Nat),.slice sa sn sc,.int .i64 t.lo,.int .i64 t.hi] 27)).alloc (.cells #[.slice ua un uc] 39)) from by
  refine ⟨0,rfl,rfl,Nat.zero_le _,?_,?_,((Below.refl _ w2).alloc (Nat.le_refl _) _).alloc (by simp) _⟩
  ·have h1:=World.ownsRow_lit (e:=27) (size:=8) (base:=w2.heap.size) w2 #[.int .i64 t.kind,.int .u64 (t.set 0:Nat),.int .u64 (t.set 1:Nat),.int .u64 (t.set 2:Nat),.int .u64 (t.set 3:Nat),.slice sa sn sc,.int .i64 t.lo,.int .i64 t.hi] 1 (Nat.le_refl _) (by decide) rfl
   have h2:=own_chg h1 ((Chg.refl (fun _=>False) _).alloc (.cells #[.slice ua un uc] 39)) fun _ _=>id
   have e:flat ((npP t up f 0).map Prod.fst)=(#[.int .i64 t.kind,.int .u64 (t.set 0:Nat),.int .u64 (t.set 1:Nat),.int .u64 (t.set 2:Nat),.int .u64 (t.set 3:Nat),.slice sa sn sc,.int .i64 t.lo,.int .i64 t.hi]:Array Value).toList:=by
    rw [npP,List.take_zero,npsV]
    show ndc t ++ []=_
    unfold ndc
    rw [hs]
    rfl
   rw [e]
   exact h2
  ·have h1:=World.ownsRow_lit (e:=39) (size:=1) (base:=w2.heap.size) (w2.alloc (.cells #[.int .i64 t.kind,.int .u64 (t.set 0:Nat),.int .u64 (t.set 1:Nat),.int .u64 (t.set 2:Nat),.int .u64 (t.set 3:Nat),.slice sa sn sc,.int .i64 t.lo,.int .i64 t.hi] 27)) #[.slice ua un uc] 1 (by simp) (by decide) rfl
   refine ⟨[.slice ua un uc],?_,fun i l hl=>?_⟩
   ·rw [npP,List.take_zero,npsV]
    have h2:=h1
    rw [World.size_alloc] at h2
    exact h2
   ·rw [npP,List.take_zero,npsV] at hl
    cases i with
    | zero =>
     obtain rfl:up=l:=Option.some.inj hl
     exact ⟨_,rfl,hup.below (((hb2.alloc hb2.size _)).alloc (by have:=hb2.size;simp;omega) _)⟩
    | succ i=>simp at hl)
 clear hul hfl hBw hsn hun hs hz hb2 e2 ht hrow hup hs2
 go_enter Tryd.func13,Tryd.ntmps13
 go_upto_region 1 with fail
 clear hw2
 go_wp2_with fail
 clear c0 c1 c2 c3 c4 c5 c6 c7
 go_loopw [8,9,10] (fun lv pv x wr=>∃ n,NodI w2 t up f B n lv pv x wr) (fun lv pv x wr=>leastOf (fun n=>NodI w2 t up f B n lv pv x wr))
 case atStart=>exact ⟨_,HNI.out⟩
 case round =>
  have hls:=(leastOf_spec hrel).1
  obtain ⟨i,rfl,hN2,hi1,hlo,hpt,hb⟩:=hls
  have s1:(0:Int)≤(i:Int):=by omega
  have hsnn:=HT.out.2.2.2.2.2.2.1
  have hcb:=(hb.block _ (by have:=HS2.out;omega)).trans HT.out.2.2.2.2.2.2.2.2.2.2.2
  obtain ⟨c0,c1,c2,c3,c4,c5,c6,c7⟩:=cells8 hcb
  obtain ⟨L,hL⟩ : ∃ L,L=npP t up f i:=⟨_,rfl⟩
  rw [← hL] at hlo hpt
  obtain ⟨ln,hln⟩ : ∃ ln,ln=L.length:=⟨_,rfl⟩
  obtain ⟨lA,lC,hlv⟩:=own_form hlo
  rw [← hln] at hlv
  subst hlv
  obtain ⟨vs,hvo,hvr⟩:=hpt.own
  obtain ⟨vA,vC,hpv⟩:=own_form hvo
  rw [List.length_map,← hln] at hpv
  subst hpv
  have hln7:ln≤100001:=by rw [hln,hL];have:=npP_len t up f i;have:=HT.out.2.2.2.2.2.2.2.2.2.1;omega
  have q2:(0:Int)≤(ln:Int):=by omega
  by_cases g4:i<sn
  ·have s2:(i:Int)<(sn:Int):=by omega
   obtain ⟨p,hp⟩ : ∃ p,t.ps[i]? = some p:=⟨_,List.getElem?_eq_getElem (by omega)⟩
   obtain ⟨b',o',hsa,hbl,hcc,hlp⟩:=HT.out.2.1 i p hp
   subst hsa
   obtain ⟨pa,pn,pc,hpv⟩:=hlp.slice
   have hbw:Below w.heap.size w wr:=bhop HT.out.2.2.2.2.2.2.2.2.2.2.1 hb
   have hcell:∀ j u,(ndc p)[j]? = some u→wr.cell? ⟨b',o' + i * 8+j,none⟩=some u:=fun j u hu=>(hbw.cell (p:=⟨b',o' + i * 8+j,none⟩) hbl).trans (hcc j u hu)
   have hbl2:=Nat.lt_of_lt_of_le hbl hbw.size
   have hLp:=npP_step hp up f
   have hlen:ln+szT (erase p)≤szT (erase t):=by
    have h1:=npP_len t up f (i+1)
    rw [hLp,List.length_append,np_len,← hL,← hln] at h1
    exact h1
   have HP:=Lib.hid (And.intro hpv (And.intro hcell (And.intro hbl2 (And.intro (show npP t up f (i+1)=L ++ npV p (up ++ [f]) (f+ln) by rw [hLp,← hL,← hln]) (And.intro hlen (And.intro (laid_low hlp hbw) (And.intro hN2 (And.intro (show i+1≤t.ps.length by omega) (And.intro (List.mem_of_getElem? hp) (HT.out.2.2.1.below hbw))))))))))
   have HLN1:=Lib.hid (show 1≤L.length by rw [hL,npP,List.length_cons];omega)
   have HL:=Lib.hid (And.intro hlo (And.intro hvo (And.intro hvr (And.intro hb hln))))
   have HC:=Lib.hid hcb
   have hfln:f+ln≤1000000:=by have:=HT.out.2.2.2.2.1;omega
   have hwr:w2.heap.size≤wr.heap.size:=hb.size
   have HBw:=Lib.hid hbw
   clear hN2 hi1 hlo hpt hb hrel hsnn hcb hvo hvr hp hcc hlp hbl hpv hbw hcell hLp hlen hbl2 hL hln
   by_cases hu0:un=0
   ·have hup0:up=[]:=List.length_eq_zero_iff.1 (by have:=HT.out.2.2.2.2.2.2.2.1;omega)
    have HU:=Lib.hid hup0
    have huv0:=(HT.out.2.2.1).nil hup0
    simp only [Value.slice.injEq] at huv0
    obtain ⟨rfl,hu0',rfl⟩:=huv0
    clear hup0 hu0'
    subst hu0
    clear hun1
    obtain ⟨w3,hw3⟩ : ∃ w3,w3=wr.alloc (.cells #[] 3):=⟨_,rfl⟩
    have hb3:Below wr.heap.size wr w3:=hw3▸(Below.refl _ wr).alloc (Nat.le_refl _) _
    have ho3:w3.ownsRow wr.heap.size 3 1 (.slice (some ⟨wr.heap.size,0,none⟩) 0 0) 0 []:=by
     rw [hw3]
     exact World.ownsRow_lit (e:=3) (size:=1) (base:=wr.heap.size) wr #[] 0 (Nat.le_refl _) (Nat.zero_le _) rfl
    have HO3:=Lib.hid (And.intro hw3 (And.intro ho3 hb3))
    clear hw3 ho3 hb3
    go_wp2_with ((at_builtin;refine wpList_append_lies _ (by rfl) _ _ 39 (by rfl) wr.heap.size 3 k0 _ 1 8 Tryd.underlying39 hk hx0 hx1 hx2 rfl (by decide) (.slice (some ⟨wr.heap.size,0,none⟩) 0 0) 0 [] (by rfl) ?c6 ⟨wr.heap.size+1,0,none⟩ 1 1 [.int .i64 (f:Int)] (by rfl) ?c0 ?c1 ?c2 (by decide) ?c3 ?c4 ?c5 _ rfl ?_))
    case c0=>rfl
    case c1 =>
     have:=World.news_of_block (heap_alloc_new (wr.alloc (.cells #[] 3)) (.cells #[.int .i64 (f:Int)] 3))
     rw [World.size_alloc] at this
     exact this
    case c2=>intro u hu;rw [List.mem_singleton.1 hu];rfl
    case c3=>unfold maxLen;omega
    case c4=>omega
    case c5=>simp;omega
    case c6=>have:=HO3.out.2.1;rw [HO3.out.1] at this;exact this.alloc _
    intro g6 cap6 w6 hown6 hgrow6 hat6 hlt6
    have HI6:=Lib.hid (show IntsR w6 wr.heap.size (.slice (some ⟨g6,0,none⟩) 1 cap6) (up ++ [f])∧Below wr.heap.size wr w6 from ⟨⟨by
     rw [HU.out,List.nil_append,show ints [f]=[.int .i64 (f:Int)] from rfl]
     exact hown6,fun e=>by simp at e⟩,by
     have h1:Chg (fun x=>wr.heap.size≤x) wr ((wr.alloc (.cells #[] 3)).alloc (.cells #[.int .i64 (f:Int)] 3)):=((Chg.refl _ wr).alloc _).alloc _
     exact (h1.grown hgrow6 (fun k hk _=>by have h2:wr.heap.size=k:=Option.some.inj hk;show wr.heap.size≤k;omega)).below (Nat.le_refl _) fun k hk e=>by omega⟩)
    clear hown6 hgrow6 hat6 hlt6
    have hcb6:=(HI6.out.2.block _ (Array.getElem?_eq_some_iff.1 HC.out).1).trans HC.out
    clear c0 c1 c2 c3 c4 c5 c6 c7
    obtain ⟨c0,c1,c2,c3,c4,c5,c6,c7⟩:=cells8 hcb6
    have y0:w6.cell? ⟨b',o' + i * 8,none⟩=some (.int .i64 p.kind):=(HI6.out.2.cell (p:=⟨b',_,none⟩) HP.out.2.2.1).trans (HP.out.2.1 0 _ rfl)
    have y1:w6.cell? ⟨b',o' + i * 8+1,none⟩=some (.int .u64 (p.set 0:Nat)):=(HI6.out.2.cell (p:=⟨b',_,none⟩) HP.out.2.2.1).trans (HP.out.2.1 1 _ rfl)
    have y2:w6.cell? ⟨b',o' + i * 8+2,none⟩=some (.int .u64 (p.set 1:Nat)):=(HI6.out.2.cell (p:=⟨b',_,none⟩) HP.out.2.2.1).trans (HP.out.2.1 2 _ rfl)
    have y3:w6.cell? ⟨b',o' + i * 8+3,none⟩=some (.int .u64 (p.set 2:Nat)):=(HI6.out.2.cell (p:=⟨b',_,none⟩) HP.out.2.2.1).trans (HP.out.2.1 3 _ rfl)
    have y4:w6.cell? ⟨b',o' + i * 8+4,none⟩=some (.int .u64 (p.set 3:Nat)):=(HI6.out.2.cell (p:=⟨b',_,none⟩) HP.out.2.2.1).trans (HP.out.2.1 4 _ rfl)
    have y5:w6.cell? ⟨b',o' + i * 8+5,none⟩=some (.slice pa pn pc):=(HI6.out.2.cell (p:=⟨b',_,none⟩) HP.out.2.2.1).trans (HP.out.2.1 5 _ (by rw [← HP.out.1];rfl))
    have y6:w6.cell? ⟨b',o' + i * 8+6,none⟩=some (.int .i64 p.lo):=(HI6.out.2.cell (p:=⟨b',_,none⟩) HP.out.2.2.1).trans (HP.out.2.1 6 _ rfl)
    have y7:w6.cell? ⟨b',o' + i * 8+7,none⟩=some (.int .i64 p.hi):=(HI6.out.2.cell (p:=⟨b',_,none⟩) HP.out.2.2.1).trans (HP.out.2.1 7 _ rfl)
    have HCa:=Lib.hid (show Calls Tryd.prog 13 #[.agg #[.int .i64 p.kind,.int .u64 (p.set 0:Nat),.int .u64 (p.set 1:Nat),.int .u64 (p.set 2:Nat),.int .u64 (p.set 3:Nat),.slice pa pn pc,.int .i64 p.lo,.int .i64 p.hi],.slice (some ⟨g6,0,none⟩) (1) cap6,.int .i64 ((f:Int)+(ln:Int))] w6 (NodE w6 B (npV p (up ++ [f]) (f+ln))) by
     have h1:=HP.out.2.2.2.2.1
     have h2:=HT.out.2.2.2.2.2.2.2.2.2.1
     have h3:=HT.out.2.2.2.1
     have h4:=HT.out.2.2.2.2.1
     have h6:1≤ln:=by rw [HL.out.2.2.2.2];exact HLN1.out
     have:=ih (by omega) p (up ++ [f]) _ (f+ln) B w6 _ (by omega) (laid_low HP.out.2.2.2.2.2.1 HI6.out.2) (HI6.out.1.low (by have:=HT.out.2.2.2.2.2.1;have:=HBw.out.size;omega)) (by rw [List.length_append,List.length_singleton];omega) (by omega) (by have:=HT.out.2.2.2.2.2.1;have:=HBw.out.size;have:=HI6.out.2.size;omega)
     rw [nodeAgg_v HP.out.1] at this
     push_cast at this
     exact this)
    clear hcb6
    go_wp2_with fail
    go_at_call 13
    refine HCa.out.mono ?_
    rintro e w7 ⟨⟨kv,qv,rfl,hko,hqt⟩,hb7⟩
    obtain ⟨pl,hpl2⟩ : ∃ pl,pl=(npV p (up ++ [f]) (f+ln)).length:=⟨_,rfl⟩
    have hpl1:0<pl:=by rw [hpl2,np_len];exact sz_pos _
    have hpl3:ln+pl≤100001:=by rw [hpl2,np_len];have:=HP.out.2.2.2.2.1;have:=HT.out.2.2.2.2.2.2.2.2.2.1;omega
    obtain ⟨qs,hqo,hqr⟩:=hqt.own
    rw [List.length_map] at hqo
    rw [← hpl2] at hko hqo
    obtain ⟨kg,kc,hkv,_,hkg⟩:=hko.form hpl1
    subst hkv
    obtain ⟨qg,qc,hqv,_,hqg⟩:=hqo.form hpl1
    subst hqv
    have hb37:Below wr.heap.size wr w7:=bhop HI6.out.2 hb7
    have hlo7:=own_chg HL.out.1 (Chg.of_below (R:=fun _=>False) hb37) fun _ _=>id
    have hvo7:=own_chg HL.out.2.1 (Chg.of_below (R:=fun _=>False) hb37) fun _ _=>id
    rw [List.length_map,← HL.out.2.2.2.2] at hvo7
    rw [← HL.out.2.2.2.2] at hlo7
    have hone:=one_flat (ps:=(npV p (up ++ [f]) (f+ln)).map Prod.fst) (fun x hx=>by
     obtain ⟨q,hq,rfl⟩:=List.mem_map.1 hx
     exact (np_sub _ _ _ q hq).laid HP.out.2.2.2.2.2.1)
    have hw7:wr.heap.size≤w7.heap.size:=hb37.size
    have H7:=Lib.hid (And.intro hko (And.intro hqo (And.intro hqr (And.intro hlo7 (And.intro hvo7 (And.intro hone (And.intro hb37 (And.intro (show (flat ((npV p (up ++ [f]) (f+ln)).map Prod.fst)).length=pl * 8 by rw [flat_length,List.length_map,← hpl2]) hpl2))))))))
    clear hko hqt hb7 hqo hqr hlo7 hvo7 hone hb37 hpl2 y0 y1 y2 y3 y4 y5 y6 y7 c0 c1 c2 c3 c4 c5 c6 c7 hkg hqg
    go_wp2_with ((at_builtin;refine wpList_append_lies _ (by rfl) _ _ 25 (by rfl) w2.heap.size 27 i0 _ 8 80 Tryd.underlying25 hi hz0 hz1 hz2 rfl (by decide) (.slice lA ln lC) ln (flat (L.map Prod.fst)) (by rfl) H7.out.2.2.2.1 ⟨kg,0,none⟩ pl kc (flat ((npV p (up ++ [f]) (f+ln)).map Prod.fst)) (by rfl) ?c0 ?c1 ?c2 hpl1 ?c3 ?c4 ?c5 _ rfl ?_))
    case c0=>exact H7.out.2.2.2.2.2.2.2.1
    case c1=>exact own_news H7.out.1
    case c2=>exact H7.out.2.2.2.2.2.1
    case c3=>unfold maxLen;omega
    case c4=>omega
    case c5=>omega
    intro g8 cap8 w8 hown8 hgrow8 hat8 hlt8
    have hc8:Chg (fun x=>(Value.slice lA ln lC).ownBlock=some x) w7 w8:=(Chg.refl _ w7).grown hgrow8 fun k hk _=>hk
    have hT8:∀ x,(Value.slice lA ln lC).ownBlock=some x→TyB w7 x 27:=fun x e=>own_ty H7.out.2.2.2.1 e
    have hvo8:=own_chg H7.out.2.2.2.2.1 hc8 fun x hx e=>by have:=(hT8 x e).eq (own_ty H7.out.2.2.2.2.1 hx);revert this;decide
    have hqo8:=own_chg H7.out.2.1 hc8 fun x hx e=>by have:=(hT8 x e).eq (own_ty H7.out.2.1 hx);revert this;decide
    have hvr8:∀ (i:Nat) (l:List Nat),(L.map Prod.snd)[i]? = some l→∃ u,vs[i]? = some u∧IntsR w8 B u l:=fun i l hl=>by
     obtain ⟨u,hu,hr⟩:=HL.out.2.2.1 i l hl
     exact ⟨u,hu,(hr.below H7.out.2.2.2.2.2.2.1).keep hc8 fun x e _ hty=>by have:=(hT8 x e).eq hty;revert this;decide⟩
    have hqr8:∀ (i:Nat) (l:List Nat),((npV p (up ++ [f]) (f+ln)).map Prod.snd)[i]? = some l→∃ u,qs[i]? = some u∧IntsR w8 B u l:=fun i l hl=>by
     obtain ⟨u,hu,hr⟩:=H7.out.2.2.1 i l hl
     exact ⟨u,hu,hr.keep hc8 fun x e _ hty=>by have:=(hT8 x e).eq hty;revert this;decide⟩
    have hqone:∀ u∈qs,u.oneCell'=true:=fun u hu=>by
     obtain ⟨i,hiu⟩:=List.getElem?_of_mem hu
     have hlq:qs.length=((npV p (up ++ [f]) (f+ln)).map Prod.snd).length:=by rw [List.length_map,← H7.out.2.2.2.2.2.2.2.2];have:=H7.out.2.1.1;omega
     obtain ⟨l,hl⟩ : ∃ l,((npV p (up ++ [f]) (f+ln)).map Prod.snd)[i]? = some l:=⟨_,List.getElem?_eq_getElem (by have:=(List.getElem?_eq_some_iff.1 hiu).1;omega)⟩
     obtain ⟨u',hu',hr⟩:=hqr8 i l hl
     obtain rfl:u=u':=Option.some.inj (hiu.symm.trans hu')
     obtain ⟨A',c',rfl⟩:=hr.form
     rfl
    have hw8:w7.heap.size≤w8.heap.size:=hc8.size
    have H8:=Lib.hid (And.intro hown8 (And.intro hc8 (And.intro hvo8 (And.intro hqo8 (And.intro hvr8 (And.intro hqr8 (And.intro hqone hgrow8)))))))
    clear hown8 hc8 hvo8 hqo8 hvr8 hqr8 hqone hgrow8 hat8 hlt8 hT8
    go_wp2_with ((at_builtin;refine wpList_append_lies _ (by rfl) _ _ 33 (by rfl) w2.heap.size 39 j0 _ 1 24 Tryd.underlying33 hj hy0 hy1 hy2 rfl (by decide) (.slice vA ln vC) ln vs (by rfl) H8.out.2.2.1 ⟨qg,0,none⟩ pl qc qs (by rfl) ?c0 ?c1 ?c2 hpl1 ?c3 ?c4 ?c5 _ rfl ?_))
    case c0=>have:=H7.out.2.1.1;omega
    case c1=>exact own_news H8.out.2.2.2.1
    case c2=>exact H8.out.2.2.2.2.2.2.1
    case c3=>unfold maxLen;omega
    case c4=>omega
    case c5=>omega
    intro g9 cap9 w9 hown9 hgrow9 hat9 hlt9
    have hc9:Chg (fun x=>(Value.slice vA ln vC).ownBlock=some x) w8 w9:=(Chg.refl _ w8).grown hgrow9 fun k hk _=>hk
    have hT9:∀ x,(Value.slice vA ln vC).ownBlock=some x→TyB w8 x 39:=fun x e=>own_ty H8.out.2.2.1 e
    have HQ:=Lib.hid (show NodI w2 t up f B (t.ps.length - (i+1)) (.slice (some ⟨g8,0,none⟩) (ln+pl) cap8) (.slice (some ⟨g9,0,none⟩) (ln+pl) cap9) (.int .i64 ((i:Int)+1)) w9 from by
     refine ⟨i+1,by push_cast;rfl,rfl,HP.out.2.2.2.2.2.2.2.1,?_,?_,?_⟩
     ·rw [HP.out.2.2.2.1,List.map_append,flat_app,List.length_append,← HL.out.2.2.2.2,← H7.out.2.2.2.2.2.2.2.2]
      exact own_chg H8.out.1 hc9 fun x hx e=>by have:=(hT9 x e).eq (own_ty H8.out.1 hx);revert this;decide
     ·rw [HP.out.2.2.2.1,List.map_append]
      refine pth_join (vs:=vs) (qs:=qs) (by rw [List.length_map,← HL.out.2.2.2.2];have:=H8.out.2.2.1.1;omega) (fun i l hl=>?_) (fun i l hl=>?_) (by rw [List.length_map,List.length_map,← HL.out.2.2.2.2,← H7.out.2.2.2.2.2.2.2.2];exact hown9)
      ·obtain ⟨u,hu,hr⟩:=H8.out.2.2.2.2.1 i l hl
       exact ⟨u,hu,hr.keep hc9 fun x e _ hty=>by have:=(hT9 x e).eq hty;revert this;decide⟩
      ·obtain ⟨u,hu,hr⟩:=H8.out.2.2.2.2.2.1 i l hl
       exact ⟨u,hu,hr.keep hc9 fun x e _ hty=>by have:=(hT9 x e).eq hty;revert this;decide⟩
     ·have h1:Chg (fun x=>w2.heap.size≤x) w2 w7:=Chg.of_below (bhop HL.out.2.2.2.1 H7.out.2.2.2.2.2.2.1)
      exact ((h1.grown H8.out.2.2.2.2.2.2.2 fun k hk _=>(H7.out.2.2.2.1.lt k hk).1).grown hgrow9 fun k hk _=>(H8.out.2.2.1.lt k hk).1).below (Nat.le_refl _) fun k hk e=>by omega)
    clear hown9 hgrow9 hat9 hlt9 hc9 hT9
    go_wp2_with fail
    go_roundw
    case rel=>exact ⟨_,HQ.out⟩
    case measure =>
     rw [HP.out.2.2.2.2.2.2.1]
     refine Nat.lt_of_le_of_lt ((leastOf_spec ⟨_,HQ.out⟩).2 _ HQ.out) ?_
     have:=HP.out.2.2.2.2.2.2.2.1
     omega
   ·have hu1:0<un:=by omega
    obtain ⟨ug,ucp,hugv,_,hugl⟩:=(HT.out.2.2.1).own.form (by have:=HT.out.2.2.2.2.2.2.2.1;omega)
    simp only [Value.slice.injEq] at hugv
    obtain ⟨rfl,rfl⟩:=And.intro hugv.1 hugv.2.2
    clear hugv
    obtain ⟨w3,hw3⟩ : ∃ w3,w3=wr.alloc (.cells #[] 3):=⟨_,rfl⟩
    have hb3:Below wr.heap.size wr w3:=hw3▸(Below.refl _ wr).alloc (Nat.le_refl _) _
    have ho3:w3.ownsRow wr.heap.size 3 1 (.slice (some ⟨wr.heap.size,0,none⟩) 0 0) 0 []:=by
     rw [hw3]
     exact World.ownsRow_lit (e:=3) (size:=1) (base:=wr.heap.size) wr #[] 0 (Nat.le_refl _) (Nat.zero_le _) rfl
    have hun9:w3.ownsRow B 3 1 (.slice (some ⟨ug,0,none⟩) un uc) un (ints up):=by
     have h1:=(HP.out.2.2.2.2.2.2.2.2.2.below hb3).own
     rwa [← HT.out.2.2.2.2.2.2.2.1] at h1
    have HO3:=Lib.hid (And.intro hw3 (And.intro ho3 (And.intro hb3 hun9)))
    clear hw3 ho3 hb3 hun9 hugl hu0
    go_wp2_with ((at_builtin;refine wpList_append_lies _ (by rfl) _ _ 39 (by rfl) wr.heap.size 3 k0 _ 1 8 Tryd.underlying39 hk hx0 hx1 hx2 rfl (by decide) (.slice (some ⟨wr.heap.size,0,none⟩) 0 0) 0 [] (by rfl) ?c6 ⟨ug,0,none⟩ un uc (ints up) (by rfl) ?c0 ?c1 ?c2 hu1 ?c3 ?c4 ?c5 _ rfl ?_))
    case c0=>rw [ints_len,Nat.mul_one];exact HT.out.2.2.2.2.2.2.2.1.symm
    case c1=>have:=own_news HO3.out.2.2.2;rw [HO3.out.1] at this;exact this
    case c2=>exact ints_one up
    case c3=>unfold maxLen;omega
    case c4=>omega
    case c5=>simp
    case c6=>have:=HO3.out.2.1;rw [HO3.out.1] at this;exact this
    intro g5 cap5 w5 hown5 hgrow5 hat5 hlt5
    have HO5:=Lib.hid (show w5.ownsRow wr.heap.size 3 1 (.slice (some ⟨g5,0,none⟩) un cap5) un (ints up)∧Below wr.heap.size wr w5 from ⟨by
     exact hown5,by
     have h1:Chg (fun x=>wr.heap.size≤x) wr (wr.alloc (.cells #[] 3)):=(Chg.refl _ wr).alloc _
     exact (h1.grown hgrow5 (fun k hk _=>by have h2:wr.heap.size=k:=Option.some.inj hk;show wr.heap.size≤k;omega)).below (Nat.le_refl _) fun k hk e=>by omega⟩)
    have hs5:=HO5.out.2.size
    clear hown5 hgrow5 hat5 hlt5
    go_wp2_with ((at_builtin;refine wpList_append_lies _ (by rfl) _ _ 39 (by rfl) wr.heap.size 3 k0 _ 1 8 Tryd.underlying39 hk hx0 hx1 hx2 rfl (by decide) (.slice (some ⟨g5,0,none⟩) un cap5) un (ints up) (by rfl) ?c6 ⟨w5.heap.size,0,none⟩ 1 1 [.int .i64 (f:Int)] (by rfl) ?c0 ?c1 ?c2 (by decide) ?c3 ?c4 ?c5 _ rfl ?_))
    case c0=>rfl
    case c1=>exact World.news_of_block (heap_alloc_new w5 (.cells #[.int .i64 (f:Int)] 3))
    case c2=>intro u hu;rw [List.mem_singleton.1 hu];rfl
    case c3=>unfold maxLen;omega
    case c4=>omega
    case c5=>simp;omega
    case c6=>exact HO5.out.1.alloc _
    intro g6 cap6 w6 hown6 hgrow6 hat6 hlt6
    have HI6:=Lib.hid (show IntsR w6 wr.heap.size (.slice (some ⟨g6,0,none⟩) (un+1) cap6) (up ++ [f])∧Below wr.heap.size wr w6 from ⟨⟨by
     rw [ints_snoc,List.length_append,List.length_singleton,← HT.out.2.2.2.2.2.2.2.1]
     exact hown6,fun e=>by simp at e⟩,by
     have h1:Chg (fun x=>wr.heap.size≤x) wr (w5.alloc (.cells #[.int .i64 (f:Int)] 3)):=(Chg.of_below HO5.out.2).alloc _
     exact (h1.grown hgrow6 (fun k hk _=>(HO5.out.1.lt k hk).1)).below (Nat.le_refl _) fun k hk e=>by omega⟩)
    clear hown6 hgrow6 hat6 hlt6 hs5
    have hcb6:=(HI6.out.2.block _ (Array.getElem?_eq_some_iff.1 HC.out).1).trans HC.out
    clear c0 c1 c2 c3 c4 c5 c6 c7
    obtain ⟨c0,c1,c2,c3,c4,c5,c6,c7⟩:=cells8 hcb6
    have y0:w6.cell? ⟨b',o' + i * 8,none⟩=some (.int .i64 p.kind):=(HI6.out.2.cell (p:=⟨b',_,none⟩) HP.out.2.2.1).trans (HP.out.2.1 0 _ rfl)
    have y1:w6.cell? ⟨b',o' + i * 8+1,none⟩=some (.int .u64 (p.set 0:Nat)):=(HI6.out.2.cell (p:=⟨b',_,none⟩) HP.out.2.2.1).trans (HP.out.2.1 1 _ rfl)
    have y2:w6.cell? ⟨b',o' + i * 8+2,none⟩=some (.int .u64 (p.set 1:Nat)):=(HI6.out.2.cell (p:=⟨b',_,none⟩) HP.out.2.2.1).trans (HP.out.2.1 2 _ rfl)
    have y3:w6.cell? ⟨b',o' + i * 8+3,none⟩=some (.int .u64 (p.set 2:Nat)):=(HI6.out.2.cell (p:=⟨b',_,none⟩) HP.out.2.2.1).trans (HP.out.2.1 3 _ rfl)
    have y4:w6.cell? ⟨b',o' + i * 8+4,none⟩=some (.int .u64 (p.set 3:Nat)):=(HI6.out.2.cell (p:=⟨b',_,none⟩) HP.out.2.2.1).trans (HP.out.2.1 4 _ rfl)
    have y5:w6.cell? ⟨b',o' + i * 8+5,none⟩=some (.slice pa pn pc):=(HI6.out.2.cell (p:=⟨b',_,none⟩) HP.out.2.2.1).trans (HP.out.2.1 5 _ (by rw [← HP.out.1];rfl))
    have y6:w6.cell? ⟨b',o' + i * 8+6,none⟩=some (.int .i64 p.lo):=(HI6.out.2.cell (p:=⟨b',_,none⟩) HP.out.2.2.1).trans (HP.out.2.1 6 _ rfl)
    have y7:w6.cell? ⟨b',o' + i * 8+7,none⟩=some (.int .i64 p.hi):=(HI6.out.2.cell (p:=⟨b',_,none⟩) HP.out.2.2.1).trans (HP.out.2.1 7 _ rfl)
    have HCa:=Lib.hid (show Calls Tryd.prog 13 #[.agg #[.int .i64 p.kind,.int .u64 (p.set 0:Nat),.int .u64 (p.set 1:Nat),.int .u64 (p.set 2:Nat),.int .u64 (p.set 3:Nat),.slice pa pn pc,.int .i64 p.lo,.int .i64 p.hi],.slice (some ⟨g6,0,none⟩) (un+1) cap6,.int .i64 ((f:Int)+(ln:Int))] w6 (NodE w6 B (npV p (up ++ [f]) (f+ln))) by
     have h1:=HP.out.2.2.2.2.1
     have h2:=HT.out.2.2.2.2.2.2.2.2.2.1
     have h3:=HT.out.2.2.2.1
     have h4:=HT.out.2.2.2.2.1
     have h6:1≤ln:=by rw [HL.out.2.2.2.2];exact HLN1.out
     have:=ih (by omega) p (up ++ [f]) _ (f+ln) B w6 _ (by omega) (laid_low HP.out.2.2.2.2.2.1 HI6.out.2) (HI6.out.1.low (by have:=HT.out.2.2.2.2.2.1;have:=HBw.out.size;omega)) (by rw [List.length_append,List.length_singleton];omega) (by omega) (by have:=HT.out.2.2.2.2.2.1;have:=HBw.out.size;have:=HI6.out.2.size;omega)
     rw [nodeAgg_v HP.out.1] at this
     push_cast at this
     exact this)
    clear hcb6
    go_wp2_with fail
    go_at_call 13
    refine HCa.out.mono ?_
    rintro e w7 ⟨⟨kv,qv,rfl,hko,hqt⟩,hb7⟩
    obtain ⟨pl,hpl2⟩ : ∃ pl,pl=(npV p (up ++ [f]) (f+ln)).length:=⟨_,rfl⟩
    have hpl1:0<pl:=by rw [hpl2,np_len];exact sz_pos _
    have hpl3:ln+pl≤100001:=by rw [hpl2,np_len];have:=HP.out.2.2.2.2.1;have:=HT.out.2.2.2.2.2.2.2.2.2.1;omega
    obtain ⟨qs,hqo,hqr⟩:=hqt.own
    rw [List.length_map] at hqo
    rw [← hpl2] at hko hqo
    obtain ⟨kg,kc,hkv,_,hkg⟩:=hko.form hpl1
    subst hkv
    obtain ⟨qg,qc,hqv,_,hqg⟩:=hqo.form hpl1
    subst hqv
    have hb37:Below wr.heap.size wr w7:=bhop HI6.out.2 hb7
    have hlo7:=own_chg HL.out.1 (Chg.of_below (R:=fun _=>False) hb37) fun _ _=>id
    have hvo7:=own_chg HL.out.2.1 (Chg.of_below (R:=fun _=>False) hb37) fun _ _=>id
    rw [List.length_map,← HL.out.2.2.2.2] at hvo7
    rw [← HL.out.2.2.2.2] at hlo7
    have hone:=one_flat (ps:=(npV p (up ++ [f]) (f+ln)).map Prod.fst) (fun x hx=>by
     obtain ⟨q,hq,rfl⟩:=List.mem_map.1 hx
     exact (np_sub _ _ _ q hq).laid HP.out.2.2.2.2.2.1)
    have hw7:wr.heap.size≤w7.heap.size:=hb37.size
    have H7:=Lib.hid (And.intro hko (And.intro hqo (And.intro hqr (And.intro hlo7 (And.intro hvo7 (And.intro hone (And.intro hb37 (And.intro (show (flat ((npV p (up ++ [f]) (f+ln)).map Prod.fst)).length=pl * 8 by rw [flat_length,List.length_map,← hpl2]) hpl2))))))))
    clear hko hqt hb7 hqo hqr hlo7 hvo7 hone hb37 hpl2 y0 y1 y2 y3 y4 y5 y6 y7 c0 c1 c2 c3 c4 c5 c6 c7 hkg hqg
    go_wp2_with ((at_builtin;refine wpList_append_lies _ (by rfl) _ _ 25 (by rfl) w2.heap.size 27 i0 _ 8 80 Tryd.underlying25 hi hz0 hz1 hz2 rfl (by decide) (.slice lA ln lC) ln (flat (L.map Prod.fst)) (by rfl) H7.out.2.2.2.1 ⟨kg,0,none⟩ pl kc (flat ((npV p (up ++ [f]) (f+ln)).map Prod.fst)) (by rfl) ?c0 ?c1 ?c2 hpl1 ?c3 ?c4 ?c5 _ rfl ?_))
    case c0=>exact H7.out.2.2.2.2.2.2.2.1
    case c1=>exact own_news H7.out.1
    case c2=>exact H7.out.2.2.2.2.2.1
    case c3=>unfold maxLen;omega
    case c4=>omega
    case c5=>omega
    intro g8 cap8 w8 hown8 hgrow8 hat8 hlt8
    have hc8:Chg (fun x=>(Value.slice lA ln lC).ownBlock=some x) w7 w8:=(Chg.refl _ w7).grown hgrow8 fun k hk _=>hk
    have hT8:∀ x,(Value.slice lA ln lC).ownBlock=some x→TyB w7 x 27:=fun x e=>own_ty H7.out.2.2.2.1 e
    have hvo8:=own_chg H7.out.2.2.2.2.1 hc8 fun x hx e=>by have:=(hT8 x e).eq (own_ty H7.out.2.2.2.2.1 hx);revert this;decide
    have hqo8:=own_chg H7.out.2.1 hc8 fun x hx e=>by have:=(hT8 x e).eq (own_ty H7.out.2.1 hx);revert this;decide
    have hvr8:∀ (i:Nat) (l:List Nat),(L.map Prod.snd)[i]? = some l→∃ u,vs[i]? = some u∧IntsR w8 B u l:=fun i l hl=>by
     obtain ⟨u,hu,hr⟩:=HL.out.2.2.1 i l hl
     exact ⟨u,hu,(hr.below H7.out.2.2.2.2.2.2.1).keep hc8 fun x e _ hty=>by have:=(hT8 x e).eq hty;revert this;decide⟩
    have hqr8:∀ (i:Nat) (l:List Nat),((npV p (up ++ [f]) (f+ln)).map Prod.snd)[i]? = some l→∃ u,qs[i]? = some u∧IntsR w8 B u l:=fun i l hl=>by
     obtain ⟨u,hu,hr⟩:=H7.out.2.2.1 i l hl
     exact ⟨u,hu,hr.keep hc8 fun x e _ hty=>by have:=(hT8 x e).eq hty;revert this;decide⟩
    have hqone:∀ u∈qs,u.oneCell'=true:=fun u hu=>by
     obtain ⟨i,hiu⟩:=List.getElem?_of_mem hu
     have hlq:qs.length=((npV p (up ++ [f]) (f+ln)).map Prod.snd).length:=by rw [List.length_map,← H7.out.2.2.2.2.2.2.2.2];have:=H7.out.2.1.1;omega
     obtain ⟨l,hl⟩ : ∃ l,((npV p (up ++ [f]) (f+ln)).map Prod.snd)[i]? = some l:=⟨_,List.getElem?_eq_getElem (by have:=(List.getElem?_eq_some_iff.1 hiu).1;omega)⟩
     obtain ⟨u',hu',hr⟩:=hqr8 i l hl
     obtain rfl:u=u':=Option.some.inj (hiu.symm.trans hu')
     obtain ⟨A',c',rfl⟩:=hr.form
     rfl
    have hw8:w7.heap.size≤w8.heap.size:=hc8.size
    have H8:=Lib.hid (And.intro hown8 (And.intro hc8 (And.intro hvo8 (And.intro hqo8 (And.intro hvr8 (And.intro hqr8 (And.intro hqone hgrow8)))))))
    clear hown8 hc8 hvo8 hqo8 hvr8 hqr8 hqone hgrow8 hat8 hlt8 hT8
    go_wp2_with ((at_builtin;refine wpList_append_lies _ (by rfl) _ _ 33 (by rfl) w2.heap.size 39 j0 _ 1 24 Tryd.underlying33 hj hy0 hy1 hy2 rfl (by decide) (.slice vA ln vC) ln vs (by rfl) H8.out.2.2.1 ⟨qg,0,none⟩ pl qc qs (by rfl) ?c0 ?c1 ?c2 hpl1 ?c3 ?c4 ?c5 _ rfl ?_))
    case c0=>have:=H7.out.2.1.1;omega
    case c1=>exact own_news H8.out.2.2.2.1
    case c2=>exact H8.out.2.2.2.2.2.2.1
    case c3=>unfold maxLen;omega
    case c4=>omega
    case c5=>omega
    intro g9 cap9 w9 hown9 hgrow9 hat9 hlt9
    have hc9:Chg (fun x=>(Value.slice vA ln vC).ownBlock=some x) w8 w9:=(Chg.refl _ w8).grown hgrow9 fun k hk _=>hk
    have hT9:∀ x,(Value.slice vA ln vC).ownBlock=some x→TyB w8 x 39:=fun x e=>own_ty H8.out.2.2.1 e
    have HQ:=Lib.hid (show NodI w2 t up f B (t.ps.length - (i+1)) (.slice (some ⟨g8,0,none⟩) (ln+pl) cap8) (.slice (some ⟨g9,0,none⟩) (ln+pl) cap9) (.int .i64 ((i:Int)+1)) w9 from by
     refine ⟨i+1,by push_cast;rfl,rfl,HP.out.2.2.2.2.2.2.2.1,?_,?_,?_⟩
     ·rw [HP.out.2.2.2.1,List.map_append,flat_app,List.length_append,← HL.out.2.2.2.2,← H7.out.2.2.2.2.2.2.2.2]
      exact own_chg H8.out.1 hc9 fun x hx e=>by have:=(hT9 x e).eq (own_ty H8.out.1 hx);revert this;decide
     ·rw [HP.out.2.2.2.1,List.map_append]
      refine pth_join (vs:=vs) (qs:=qs) (by rw [List.length_map,← HL.out.2.2.2.2];have:=H8.out.2.2.1.1;omega) (fun i l hl=>?_) (fun i l hl=>?_) (by rw [List.length_map,List.length_map,← HL.out.2.2.2.2,← H7.out.2.2.2.2.2.2.2.2];exact hown9)
      ·obtain ⟨u,hu,hr⟩:=H8.out.2.2.2.2.1 i l hl
       exact ⟨u,hu,hr.keep hc9 fun x e _ hty=>by have:=(hT9 x e).eq hty;revert this;decide⟩
      ·obtain ⟨u,hu,hr⟩:=H8.out.2.2.2.2.2.1 i l hl
       exact ⟨u,hu,hr.keep hc9 fun x e _ hty=>by have:=(hT9 x e).eq hty;revert this;decide⟩
     ·have h1:Chg (fun x=>w2.heap.size≤x) w2 w7:=Chg.of_below (bhop HL.out.2.2.2.1 H7.out.2.2.2.2.2.2.1)
      exact ((h1.grown H8.out.2.2.2.2.2.2.2 fun k hk _=>(H7.out.2.2.2.1.lt k hk).1).grown hgrow9 fun k hk _=>(H8.out.2.2.1.lt k hk).1).below (Nat.le_refl _) fun k hk e=>by omega)
    clear hown9 hgrow9 hat9 hlt9 hc9 hT9
    go_wp2_with fail
    go_roundw
    case rel=>exact ⟨_,HQ.out⟩
    case measure =>
     rw [HP.out.2.2.2.2.2.2.1]
     refine Nat.lt_of_le_of_lt ((leastOf_spec ⟨_,HQ.out⟩).2 _ HQ.out) ?_
     have:=HP.out.2.2.2.2.2.2.2.1
     omega
  ·have s2:¬ (i:Int)<(sn:Int):=by omega
   have hin:i=t.ps.length:=by omega
   have HE:=Lib.hid (show L=npV t up f by rw [hL,hin,npP_all])
   have HF:=Lib.hid (And.intro hlo (And.intro hpt hb))
   clear hlo hpt hb hN2 hrel hi1 hsnn hcb hvo hvr hin hL hln
   go_wp2_with fail
   go_ret2
   refine ⟨⟨_,_,rfl,?_,?_⟩,bhop HT.out.2.2.2.2.2.2.2.2.2.2.1 HF.out.2.2⟩
   ·rw [← HE.out]
    exact own_low HF.out.1 (show w.heap.size≤w2.heap.size by have:=HS2.out;omega)
   ·rw [← HE.out]
    exact HF.out.2.1.low (by have:=HS2.out;omega)
end Go.Proofs.YtjcfmbmepmlckaaDoor

/- The map that the document's own Of makes, as far as its two loops have come: plain facts, and what is kept in memory.
   Conditions: those that each theorem states. -/
namespace Go.Proofs.YtjcfmbmepmlckaaDoor
open Go.RowKit Go.Shelf
def intz (l:List Int):List Value:=l.map fun x=>Value.int .i64 x
theorem intz_len (l:List Int):(intz l).length=l.length:=by simp [intz]
theorem intz_snoc (l:List Int) (x:Int):intz (l ++ [x])=intz l ++ [.int .i64 x]:=by simp [intz]
def mAB (N:List Int) (L:List (V×List Nat)) (i j:Nat):PM:=⟨pm0.sets ++ ((L.take j).filter fun q=>posV q.1).map fun q=>q.1.set,pm0.scs ++ ((L.take i).filter fun q=>cntV q.1).map fun q=>(max 1 q.1.lo,q.1.hi),pm0.ars ++ ((L.take j).filter fun q=>posV q.1).map fun q=>aroundOf N q.2⟩
theorem mAB_zero (N:List Int) (L:List (V×List Nat)):mAB N L 0 0=pm0:=by simp [mAB]
theorem mAB_all (N:List Int) (L:List (V×List Nat)):mAB N L L.length L.length=addP pm0 N L:=by simp [mAB,addP]
theorem mAB_sc {N:List Int} {L:List (V×List Nat)} {i j:Nat} {q:V×List Nat} (h:L[i]? = some q) (hc:cntV q.1=true):mAB N L (i+1) j = { mAB N L i j with scs:=(mAB N L i j).scs ++ [(max 1 q.1.lo,q.1.hi)] }:=by
 unfold mAB
 rw [List.take_add_one,h]
 simp [List.filter_append,hc]
theorem mAB_no {N:List Int} {L:List (V×List Nat)} {i j:Nat} {q:V×List Nat} (h:L[i]? = some q) (hc:cntV q.1=false):mAB N L (i+1) j=mAB N L i j:=by
 unfold mAB
 rw [List.take_add_one,h]
 simp [List.filter_append,hc]
theorem mAB_pos {N:List Int} {L:List (V×List Nat)} {i j:Nat} {q:V×List Nat} (h:L[j]? = some q) (hc:posV q.1=true):mAB N L i (j+1) = { mAB N L i j with sets:=(mAB N L i j).sets ++ [q.1.set],ars:=(mAB N L i j).ars ++ [aroundOf N q.2] }:=by
 unfold mAB
 rw [List.take_add_one,h]
 simp [List.filter_append,hc]
theorem mAB_pass {N:List Int} {L:List (V×List Nat)} {i j:Nat} {q:V×List Nat} (h:L[j]? = some q) (hc:posV q.1=false):mAB N L i (j+1)=mAB N L i j:=by
 unfold mAB
 rw [List.take_add_one,h]
 simp [List.filter_append,hc]
theorem mAB_cnts (N:List Int) (L:List (V×List Nat)) (i j:Nat):(mAB N L i j).scs.length=cnts ((L.map Prod.fst).take i):=by
 unfold mAB cnts
 rw [List.length_append,List.length_map,← List.map_take,List.filter_map,List.length_map]
 simp [pm0]
 rfl
theorem mAB_sets (N:List Int) (L:List (V×List Nat)) (i j:Nat):(mAB N L i j).sets.length≤j+1∧(mAB N L i j).ars.length=(mAB N L i j).sets.length∧(mAB N L i j).scs.length≤i:=by
 unfold mAB
 have h1:=List.length_filter_le (fun q:V×List Nat=>posV q.1) (L.take j)
 have h2:=List.length_filter_le (fun q:V×List Nat=>cntV q.1) (L.take i)
 have h3:(L.take j).length≤j:=by rw [List.length_take];omega
 have h4:(L.take i).length≤i:=by rw [List.length_take];omega
 simp only [List.length_append,List.length_map,pm0,List.length_cons,List.length_nil]
 refine ⟨?_,trivial,?_⟩ <;> omega
theorem mAB_big {N:List Int} {L:List (V×List Nat)}:bigM (addP pm0 N L)↔41<(mAB N L L.length L.length).sets.length∨∃ q∈L,posV q.1=true∧4<(aroundOf N q.2).length:=by
 rw [mAB_all]
 unfold bigM
 refine or_congr Iff.rfl ⟨?_,?_⟩
 ·rintro ⟨l,hl,h⟩
  unfold addP at hl
  rcases List.mem_append.1 hl with hl | hl
  ·simp [pm0] at hl;subst hl;simp at h
  ·obtain ⟨q,hq,rfl⟩:=List.mem_map.1 hl
   obtain ⟨h1,h2⟩:=List.mem_filter.1 hq
   exact ⟨q,h1,h2,h⟩
 ·rintro ⟨q,hq,hp,h⟩
  refine ⟨aroundOf N q.2,?_,h⟩
  unfold addP
  exact List.mem_append_right _ (List.mem_map.2 ⟨q,List.mem_filter.2 ⟨hq,hp⟩,rfl⟩)
def Qm (a b:Nat) (x:Nat):Prop:=a≤x∧x<b
def OutB (b c:Nat) (v:Value):Prop:=∀ x,v.ownBlock=some x→x<b∨c≤x
structure OfA0 (a b:Nat) (w6:World) (tc:List Value) (N:List Int) (L:List (V×List Nat)) (sv av:Value) (i:Nat) (nv cv:Value) (wr:World):Prop where
 num:wr.ownsRow w6.heap.size 3 1 nv i (intz (nums ((L.map Prod.fst).take i) 0))
 map:MapS wr a (a+2) tc (mAB N L i 0) sv cv av
 out:OutB b w6.heap.size cv
 chg:Chg (Qm a b) w6 wr
def OfA (a b:Nat) (w6:World) (tc:List Value) (N:List Int) (L:List (V×List Nat)) (sv av:Value) (n:Nat) (nv x:Value) (wr:World):Prop:=∃ (i:Nat) (cv:Value),x=.int .i64 i∧n=L.length - i∧i≤L.length∧OfA0 a b w6 tc N L sv av i nv cv wr
structure OfB0 (a b:Nat) (w6:World) (tc:List Value) (N:List Int) (L:List (V×List Nat)) (nv cv:Value) (j:Nat) (sv av:Value) (wr:World):Prop where
 num:wr.ownsRow w6.heap.size 3 1 nv L.length (intz N)
 map:MapS wr a (a+2) tc (mAB N L L.length j) sv cv av
 outs:OutB b w6.heap.size sv
 outa:OutB b w6.heap.size av
 chg:Chg (Qm a b) w6 wr
 lim:∀ q∈L.take j,posV q.1=true→(aroundOf N q.2).length≤4
def OfB (a b:Nat) (w6:World) (tc:List Value) (N:List Int) (L:List (V×List Nat)) (nv cv:Value) (n:Nat) (x:Value) (wr:World):Prop:=∃ (j:Nat) (sv av:Value),x=.int .i64 j∧n=L.length - j∧j≤L.length∧OfB0 a b w6 tc N L nv cv j sv av wr
def OfC (wa:World) (N:List Int) (p:List Nat) (n:Nat) (v x:Value) (wr:World):Prop:=∃ k:Nat,x=.int .i64 k∧n=p.length - k∧k≤p.length∧IntsR wr wa.heap.size v (aroundOf N (p.take k))∧Below wa.heap.size wa wr
variable {a b:Nat} {w6 wr wd w3:World} {tc:List Value} {N:List Int} {L:List (V×List Nat)} {sv cv av nv nv' u:Value} {i j:Nat} {q:V×List Nat}
theorem chg_far {Q:Nat→Prop} (h:Chg (Qm a b) w6 wr) (hc:Chg Q wr wd) (hQ:∀ x,Q x→(x<b∧a≤x)∨w6.heap.size≤x):Chg (Qm a b) w6 wd :=
 h.trans hc fun x hx q=>by rcases hQ x q with h | h;exact ⟨h.2,h.1⟩;omega
theorem own_far {e s n base:Nat} {v:Value} {xs:List Value} (h:w6.ownsRow base e s v n xs) (hb:b≤base) (hc:Chg (Qm a b) w6 wr):wr.ownsRow base e s v n xs :=
 own_chg h hc fun x hx q=>by have:=(h.lt x hx).1;have:=q.2;omega
theorem num_snoc (h:L[i]? = some q):nums ((L.map Prod.fst).take (i+1)) 0=nums ((L.map Prod.fst).take i) 0 ++ [if cntV q.1 then (cnts ((L.map Prod.fst).take i):Int) else -1] :=
 nums_take (by rw [List.getElem?_map,h];rfl)
theorem MapS.keepI {w w':World} {B mb:Nat} {tc:List Value} {m:PM} {Q:Nat→Prop} (h:MapS w B mb tc m sv cv av) (hn:∀ l∈m.ars,l=[]) (hc:Chg Q w w') (hQ:∀ x,Q x→TyB w x 3):MapS w' B mb tc m sv cv av:=by
 refine ⟨(hc.block mb h.ty.lt fun q=>by have:=(hQ mb q).eq h.ty;revert this;decide).trans h.blk,h.len,h.low,own_chg h.lists.sets hc fun x hx q=>?_,own_chg h.lists.scs hc fun x hx q=>?_,?_⟩
 ·have:=(hQ x q).eq (own_ty h.lists.sets hx);revert this;decide
 ·have:=(hQ x q).eq (own_ty h.lists.scs hx);revert this;decide
 ·obtain ⟨vs,h1,h2⟩:=h.lists.ars
  refine ⟨vs,own_chg h1 hc fun x hx q=>by have:=(hQ x q).eq (own_ty h1 hx);revert this;decide,fun i l hl=>?_⟩
  obtain ⟨v,hv,hr⟩:=h2 i l hl
  obtain rfl:=hn l (List.mem_of_getElem? hl)
  obtain rfl:=hr.nil rfl
  exact ⟨_,hv,IntsR.none _ _⟩
theorem mAB_nil (N:List Int) (L:List (V×List Nat)) (i:Nat):∀ l∈(mAB N L i 0).ars,l=[]:=by
 intro l hl
 unfold mAB at hl
 simpa [pm0] using hl
theorem OfA0.num1 (h:OfA0 a b w6 tc N L sv av i nv cv wr) (hch:Chg (fun x=>nv.ownBlock=some x) wr wd):MapS wd a (a+2) tc (mAB N L i 0) sv cv av∧Chg (Qm a b) w6 wd :=
 ⟨h.map.keepI (mAB_nil N L i) hch fun _ hx=>own_ty h.num hx,chg_far h.chg hch fun x hx=>.inr (h.num.lt x hx).1⟩
theorem OfA0.skip (h:OfA0 a b w6 tc N L sv av i nv cv wr) (hch:Chg (fun x=>nv.ownBlock=some x) wr wd) (ho:wd.ownsRow w6.heap.size 3 1 nv' (i+1) (intz (nums ((L.map Prod.fst).take i) 0) ++ [.int .i64 (-1)])) (hq:L[i]? = some q) (hc:cntV q.1=false) :
  OfA0 a b w6 tc N L sv av (i+1) nv' cv wd:=by
 obtain ⟨h1,h2⟩:=h.num1 hch
 refine ⟨?_,by rw [mAB_no hq hc];exact h1,h.out,h2⟩
 rw [num_snoc hq,hc,intz_snoc]
 exact ho
theorem OfA0.step (h:OfA0 a b w6 tc N L sv av i nv cv wr) (hch:Chg (fun x=>nv.ownBlock=some x) wr wd) (ho:wd.ownsRow w6.heap.size 3 1 nv' (i+1) (intz (nums ((L.map Prod.fst).take i) 0) ++ [.int .i64 ((mAB N L i 0).scs.length:Nat)])) (hq:L[i]? = some q) (hc:cntV q.1=true)
  (hc3:Chg (fun x=>cv.ownBlock=some x) wd w3) (hos:w3.ownsRow a 59 2 u ((mAB N L i 0).scs.length+1) ((mAB N L i 0).scs.flatMap sc2 ++ sc2 (max 1 q.1.lo,q.1.hi))) (hou:OutB b w6.heap.size u) (hab:a+2<b) :
  OfA0 a b w6 tc N L sv av (i+1) nv' u (w3.setCell ⟨a+2,9,none⟩ u):=by
 obtain ⟨h1,h2⟩:=h.num1 hch
 have h3:=(h1.put9 hc3 (s:=(max 1 q.1.lo,q.1.hi)) hos).1
 have hcm:Chg (fun x=>x=a+2∨cv.ownBlock=some x) wd (w3.setCell ⟨a+2,9,none⟩ u):=(hc3.mono fun x _ e=>.inr e).setCell (p:=⟨a+2,9,none⟩) (fun _=>.inl rfl) u
 refine ⟨?_,by rw [mAB_sc hq hc];exact h3,hou,chg_far h2 hcm fun x hx=>?_⟩
 ·rw [num_snoc hq,hc,intz_snoc,if_pos rfl,← mAB_cnts N L i 0]
  refine own_chg ho hcm fun x hx e=>?_
  rcases e with rfl | e
  ·have:=(own_ty ho hx).eq h1.ty;revert this;decide
  ·have:=(own_ty ho hx).eq (own_ty h1.lists.scs e);revert this;decide
 ·rcases hx with rfl | e
  ·exact .inl ⟨hab,by omega⟩
  ·rcases h.out x e with h4 | h4
   ·exact .inl ⟨h4,(h1.lists.scs.lt x e).1⟩
   ·exact .inr h4
theorem lim_snoc (h:∀ q∈L.take j,posV q.1=true→(aroundOf N q.2).length≤4) (hq:L[j]? = some q) (hl:posV q.1=true→(aroundOf N q.2).length≤4):∀ q∈L.take (j+1),posV q.1=true→(aroundOf N q.2).length≤4:=by
 intro p hp
 rw [List.take_add_one,hq] at hp
 rcases List.mem_append.1 hp with hp | hp
 ·exact h p hp
 ·obtain rfl:p=q:=by simpa using hp
  exact hl
theorem OfB0.skip (h:OfB0 a b w6 tc N L nv cv j sv av wr) (hb:Below wr.heap.size wr wd) (hq:L[j]? = some q) (hc:posV q.1=false):OfB0 a b w6 tc N L nv cv (j+1) sv av wd :=
 ⟨own_chg h.num (Chg.of_below (R:=fun _=>False) hb) fun _ _=>id,by rw [mAB_pass hq hc];exact h.map.below hb,h.outs,h.outa,h.chg.trans (Chg.of_below (R:=fun _=>False) hb) fun _ _ e=>e.elim,lim_snoc h.lim hq fun e=>by rw [hc] at e;cases e⟩
theorem OfB0.step {wx w4 w5:World} {v su au:Value} {vs:List Value} (h:OfB0 a b w6 tc N L nv cv j sv av wr) (hb:Below wr.heap.size wr wx) (hq:L[j]? = some q) (hc:posV q.1=true) (hl:(aroundOf N q.2).length≤4)
  (hc3:Chg (fun x=>sv.ownBlock=some x) wx w3) (hos:w3.ownsRow a 24 4 su ((mAB N L L.length j).sets.length+1) ((mAB N L L.length j).sets.flatMap cls4 ++ cls4 q.1.set)) (hosu:OutB b w6.heap.size su)
  (e4:w3.setCell ⟨a+2,8,none⟩ su=w4) (hvs:w4.ownsRow a 39 1 av (mAB N L L.length j).ars.length vs) (hvr:∀ (i:Nat) (l:List Nat),(mAB N L L.length j).ars[i]? = some l→∃ u,vs[i]? = some u∧IntsR w4 a u l) (hv:IntsR w4 a v (aroundOf N q.2))
  (hc5:Chg (fun x=>av.ownBlock=some x) w4 w5) (hoa:w5.ownsRow a 39 1 au ((mAB N L L.length j).ars.length+1) (vs ++ [v])) (hoau:OutB b w6.heap.size au) (hab:a+2<b) :
  OfB0 a b w6 tc N L nv cv (j+1) su au (w5.setCell ⟨a+2,10,none⟩ au):=by
 subst e4
 have hm:=h.map.below hb
 have h1:=(hm.put8 hc3 (C:=q.1.set) hos).1
 have h2:=(h1.put10 (vs:=vs) hvs hvr hc5 (l:=aroundOf N q.2) hv hoa).1
 have hcm:Chg (fun x=>x=a+2∨sv.ownBlock=some x) wx (w3.setCell ⟨a+2,8,none⟩ su):=(hc3.mono fun x _ e=>.inr e).setCell (p:=⟨a+2,8,none⟩) (fun _=>.inl rfl) su
 have hcn:Chg (fun x=>x=a+2∨av.ownBlock=some x) (w3.setCell ⟨a+2,8,none⟩ su) (w5.setCell ⟨a+2,10,none⟩ au):=(hc5.mono fun x _ e=>.inr e).setCell (p:=⟨a+2,10,none⟩) (fun _=>.inl rfl) au
 have hn1:=own_chg h.num (Chg.of_below (R:=fun _=>False) hb) fun _ _=>id
 have hn2:=own_chg hn1 hcm fun x hx e=>by
  rcases e with rfl | e
  ·have:=(own_ty hn1 hx).eq hm.ty;revert this;decide
  ·have:=(own_ty hn1 hx).eq (own_ty hm.lists.sets e);revert this;decide
 have hn3:=own_chg hn2 hcn fun x hx e=>by
  rcases e with rfl | e
  ·have:=(own_ty hn2 hx).eq h1.ty;revert this;decide
  ·have:=(own_ty hn2 hx).eq (own_ty hvs e);revert this;decide
 refine ⟨hn3,by rw [mAB_pos hq hc];exact h2,hosu,hoau,chg_far (chg_far (h.chg.trans (Chg.of_below (R:=fun _=>False) hb) fun _ _ e=>e.elim) hcm fun x hx=>?_) hcn fun x hx=>?_,lim_snoc h.lim hq fun _=>hl⟩
 ·rcases hx with rfl | e
  ·exact .inl ⟨hab,by omega⟩
  ·rcases h.outs x e with h4 | h4
   ·exact .inl ⟨h4,(hm.lists.sets.lt x e).1⟩
   ·exact .inr h4
 ·rcases hx with rfl | e
  ·exact .inl ⟨hab,by omega⟩
  ·rcases h.outa x e with h4 | h4
   ·exact .inl ⟨h4,(hvs.lt x e).1⟩
   ·exact .inr h4
end Go.Proofs.YtjcfmbmepmlckaaDoor
