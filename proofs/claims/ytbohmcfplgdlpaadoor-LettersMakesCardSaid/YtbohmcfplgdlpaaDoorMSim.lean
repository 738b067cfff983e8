/- What a simple tree is like, more: what is repeated is so at most not 0 times, and not just once: plain facts.
   Conditions: the trees are formed. -/
import Derived.Test.YtbohmcfplgdlpaaDoorMMelt
import Derived.Test.YtbohmcfplgdlpaaDoorMRefS

/- The simple tree: the document's own, as a plain function of trees; what a simple tree is like.
   No conditions but those that each theorem states. -/
namespace Go.Proofs.YtbohmcfplgdlpaaDoor
open Go.RowKit
def wash (C:Nat→Nat):Nat→Nat:=fun i=>if i<4 then C i else 0
theorem wash_z4 (C:Nat→Nat):z4 (wash C)=z4 C:=rfl
abbrev noT:T:=.node 0 zeros 0 0 []
abbrev emptyT:T:=.node 1 zeros 0 0 []
def T.set:T→Nat→Nat | .node _ C _ _ _=>C
def T.lo:T→Int | .node _ _ l _ _=>l
def T.hi:T→Int | .node _ _ _ h _=>h
def spreadT (k:Int):List T→List T
 | []=>[]
 | t :: ts=>(if t.kind=k then t.ps else [t]) ++ spreadT k ts
def dropT (k:Int) (left:List T) (t:T):Bool:=if k=2 then decide (t.kind=0) else vdT t || left.any fun u=>likeT u t
def leftT (k:Int):List T→List T→List T
 | left,[]=>left
 | left,t :: ts=>leftT k (if dropT k left t then left else left ++ [t]) ts
def oneOf (k:Int):List T→T
 | []=>noT
 | [t]=>t
 | t :: u :: ts=>.node k zeros 0 0 (t :: u :: ts)
def rep4 (lo hi:Int) (s:T):T :=
 if hi=0∨s.kind=0∨vdT s=true then noT else if lo=1∧hi=1 then s else .node 4 zeros (if nuT s then 0 else lo) hi [s]
mutual
def simT:T→T
 | .node k C lo hi ps=>if vdT (.node k C lo hi ps) then emptyT else if k<2 then .node k (wash C) lo hi ps else if k=4 then (match simsT ps with | []=>noT | s :: _=>rep4 lo hi s) else oneOf k (leftT k [] (spreadT k (simsT ps)))
def simsT:List T→List T
 | []=>[]
 | t :: ts=>simT t :: simsT ts
end
theorem sims_map (ts:List T):simsT ts=ts.map simT:=by
 induction ts with
 | nil=>rw [simsT];rfl
 | cons t ts ih=>rw [simsT,ih];rfl
theorem spread_append (k:Int) (a b:List T):spreadT k (a ++ b)=spreadT k a ++ spreadT k b:=by
 induction a with
 | nil=>rfl
 | cons t a ih=>rw [List.cons_append,spreadT,spreadT,ih,List.append_assoc]
theorem left_append (k:Int) (l a b:List T):leftT k l (a ++ b)=leftT k (leftT k l a) b:=by
 induction a generalizing l with
 | nil=>rfl
 | cons t a ih=>rw [List.cons_append,leftT,leftT,ih]
theorem left_all {k:Int} {P:T→Prop}:∀ (a l:List T),(∀ t∈l,P t)→(∀ t∈a,P t)→∀ t∈leftT k l a,P t
 | [],_,h,_,t,ht=>h t ht
 | u :: a,l,h,ha,t,ht=>by
  rw [leftT] at ht
  refine left_all a _ (fun x hx=>?_) (fun x hx=>ha x (List.mem_cons_of_mem _ hx)) t ht
  split at hx
  ·exact h x hx
  ·rcases List.mem_append.1 hx with q | q
   ·exact h x q
   ·rw [List.mem_singleton.1 q]
    exact ha u List.mem_cons_self
theorem left_none {k:Int} {P:T→Prop} (hP:∀ l t,dropT k l t=false→P t):∀ (a l:List T),(∀ t∈l,P t)→∀ t∈leftT k l a,P t
 | [],_,h,t,ht=>h t ht
 | u :: a,l,h,t,ht=>by
  rw [leftT] at ht
  refine left_none hP a _ (fun x hx=>?_) t ht
  split at hx
  ·exact h x hx
  ·rename_i hd
   rcases List.mem_append.1 hx with q | q
   ·exact h x q
   ·rw [List.mem_singleton.1 q]
    exact hP l u (by simpa using hd)
theorem spread_mem {k:Int} {t:T}:∀ {l:List T},t∈spreadT k l→(∃ u∈l,u.kind=k∧t∈u.ps)∨(t∈l∧t.kind≠k)
 | [],h=>by cases h
 | u :: l,h=>by
  rw [spreadT] at h
  rcases List.mem_append.1 h with q | q
  ·split at q
   ·rename_i hk
    exact .inl ⟨u,List.mem_cons_self,hk,q⟩
   ·rename_i hk
    rw [List.mem_singleton.1 q]
    exact .inr ⟨List.mem_cons_self,hk⟩
  ·rcases spread_mem q with ⟨v,hv,h1,h2⟩ | ⟨h1,h2⟩
   ·exact .inl ⟨v,List.mem_cons_of_mem _ hv,h1,h2⟩
   ·exact .inr ⟨List.mem_cons_of_mem _ h1,h2⟩
theorem oks_mem:∀ {ps:List T},oksT ps=true→∀ p∈ps,okT p=true
 | [],_,p,hp=>by cases hp
 | q :: ps,h,p,hp=>by
  rw [oksT,Bool.and_eq_true] at h
  rcases List.mem_cons.1 hp with rfl | hp
  ·exact h.1
  ·exact oks_mem h.2 p hp
theorem ok_parts {k lo hi:Int} {C:Nat→Nat} {ps:List T} (h:okT (.node k C lo hi ps)=true):oksT ps=true:=by
 rw [okT,Bool.and_eq_true] at h
 exact h.2
theorem ok_kind {k lo hi:Int} {C:Nat→Nat} {ps:List T} (h:okT (.node k C lo hi ps)=true):okA k (z4 C) lo hi ps.length=true:=by
 rw [okT,Bool.and_eq_true] at h
 exact h.1
theorem vdAny_no {ps:List T}:vdAny ps=false↔∀ p∈ps,vdT p=false:=by
 induction ps with
 | nil=>simp [vdAny]
 | cons q ps ih=>rw [vdAny,Bool.or_eq_false_iff,ih];simp
theorem vdAll_no {ps:List T}:vdAll ps=false↔∃ p∈ps,vdT p=false:=by
 induction ps with
 | nil=>simp [vdAll]
 | cons q ps ih=>rw [vdAll,Bool.and_eq_false_iff,ih];simp
mutual
def lnT:T→Bool
 | .node k C lo hi ps=>!vdT (.node k C lo hi ps) && lnsT ps
def lnsT:List T→Bool
 | []=>true
 | t :: ts=>lnT t && lnsT ts
end
theorem lns_mem {ps:List T}:lnsT ps=true↔∀ p∈ps,lnT p=true:=by
 induction ps with
 | nil=>simp [lnsT]
 | cons q ps ih=>rw [lnsT,Bool.and_eq_true,ih];simp
theorem ln_vd {t:T} (h:lnT t=true):vdT t=false:=by
 cases t with
 | node k C lo hi ps=>rw [lnT,Bool.and_eq_true] at h;simpa using h.1
theorem ln_ps {t:T} (h:lnT t=true):∀ p∈t.ps,lnT p=true:=by
 cases t with
 | node k C lo hi ps=>rw [lnT,Bool.and_eq_true] at h;exact lns_mem.1 h.2
theorem ln_none:lnT noT=true:=by simp [lnT,lnsT,vdT]
theorem vd_empty:vdT emptyT=true:=by simp [vdT];decide
theorem ln_row {k:Int} (hk:k=2∨k=3):∀ {l:List T},(∀ t∈l,lnT t=true)→lnT (oneOf k l)=true
 | [],_=>ln_none
 | [t],h=>h t (by simp)
 | t :: u :: ts,h=>by
  have h1:=ln_vd (h t (by simp))
  have h2:vdAny (t :: u :: ts)=false:=vdAny_no.2 fun p hp=>ln_vd (h p hp)
  have h3:vdAll (t :: u :: ts)=false:=vdAll_no.2 ⟨t,by simp,h1⟩
  rw [oneOf,lnT,Bool.and_eq_true]
  refine ⟨?_,lns_mem.2 h⟩
  rw [vdT,h2,h3]
  rcases hk with rfl | rfl <;> simp
theorem ln_rep {lo hi:Int} {s:T} (h:lnT s=true):lnT (rep4 lo hi s)=true:=by
 have h1:=ln_vd h
 unfold rep4
 split
 ·exact ln_none
 ·split
  ·exact h
  ·rw [lnT,Bool.and_eq_true]
   refine ⟨?_,lns_mem.2 fun p hp=>by rw [List.mem_singleton.1 hp];exact h⟩
   rw [vdT,vdAny,vdAny,h1]
   simp
theorem rep_void {lo hi:Int} {s:T} (h:vdT s=true):rep4 lo hi s=noT:=if_pos (.inr (.inr h))
theorem sim_void {t:T} (h:vdT t=true):simT t=emptyT:=by
 cases t with
 | node k C lo hi ps=>rw [simT,if_pos h]
mutual
theorem sim_ln:∀ t:T,okT t=true→vdT t=false→lnT (simT t)=true
 | .node k C lo hi ps,hok,hv=>by
  have hs:=sims_ln ps (ok_parts hok)
  have hm:∀ u∈simsT ps,u=emptyT∨lnT u=true:=fun u hu=>by
   rw [sims_map] at hu
   obtain ⟨p,hp,rfl⟩:=List.mem_map.1 hu
   cases h:vdT p with
   | true=>exact .inl (sim_void h)
   | false=>exact .inr (hs p hp h)
  have ha:=of_decide_eq_true (ok_kind hok)
  have hsp:∀ {j:Int},(j=2∨j=3)→∀ u∈spreadT j (simsT ps),u=emptyT∨lnT u=true:=fun hj u hu=>by
   rcases spread_mem hu with ⟨v,hv,h1,h2⟩ | ⟨h1,_⟩
   ·rcases hm v hv with rfl | h3
    ·have:(1:Int)=_:=h1;omega
    ·exact .inr (ln_ps h3 u h2)
   ·exact hm u h1
  rw [simT,if_neg (by rw [hv];decide)]
  split
  ·rename_i hk
   have hps:ps=[]:=by
    rcases ha with ⟨_,_,_,_,h⟩ | ⟨_,_,_,h⟩ | ⟨h,_⟩ | ⟨h,_⟩
    ·exact List.length_eq_zero_iff.1 h
    ·exact List.length_eq_zero_iff.1 h
    ·omega
    ·omega
   rw [hps] at hv ⊢
   rw [lnT,show vdT (.node k (wash C) lo hi [])=vdT (.node k C lo hi []) from by rw [vdT,vdT,wash_z4],hv]
   rfl
  ·rename_i hk
   split
   ·rename_i h4
    cases hl:simsT ps with
    | nil=>exact ln_none
    | cons s l =>
     show lnT (rep4 lo hi s)=true
     rcases hm s (by rw [hl];simp) with rfl | h3
     ·rw [rep_void vd_empty];exact ln_none
     ·exact ln_rep h3
   ·rename_i h4
    have hk2:k=2∨k=3:=by rcases ha with ⟨h,_⟩ | ⟨h,_⟩ | ⟨h,_⟩ | ⟨h,_⟩ <;> omega
    refine ln_row hk2 fun u hu=>?_
    rcases hk2 with rfl | rfl
    ·have hall:∀ u∈simsT ps,lnT u=true:=fun u hu=>by
      rw [sims_map] at hu
      obtain ⟨p,hp,rfl⟩:=List.mem_map.1 hu
      rw [vdT,if_neg (by decide),if_pos rfl] at hv
      exact hs p hp (vdAny_no.1 hv p hp)
     refine left_all (P:=fun u=>lnT u=true) _ _ (by simp) (fun x hx=>?_) u hu
     rcases spread_mem hx with ⟨v,hv,_,h2⟩ | ⟨h1,_⟩
     ·exact ln_ps (hall v hv) x h2
     ·exact hall x h1
    ·have h1:=left_all (P:=fun u=>u=emptyT∨lnT u=true) _ _ (by simp) (hsp (.inr rfl)) u hu
     have h2:=left_none (k:=3) (P:=fun u=>vdT u=false) (fun l t h=>by
      unfold dropT at h
      rw [if_neg (by decide),Bool.or_eq_false_iff] at h
      exact h.1) _ _ (by simp) u hu
     rcases h1 with rfl | h1
     ·rw [vd_empty] at h2;cases h2
     ·exact h1
theorem sims_ln:∀ ts:List T,oksT ts=true→∀ p∈ts,vdT p=false→lnT (simT p)=true
 | [],_,p,hp,_=>by cases hp
 | t :: ts,h,p,hp,hv=>by
  rw [oksT,Bool.and_eq_true] at h
  rcases List.mem_cons.1 hp with e | hp
  ·rw [e] at hv ⊢
   exact sim_ln t h.1 hv
  ·exact sims_ln ts h.2 p hp hv
end
end Go.Proofs.YtbohmcfplgdlpaaDoor

/- The simple tree is nullable as the tree is: plain facts.
   Conditions: the tree is formed, and isn't void. -/
namespace Go.Proofs.YtbohmcfplgdlpaaDoor
open Go.RowKit
theorem nuAll_yes {ps:List T}:nuAll ps=true↔∀ p∈ps,nuT p=true:=by
 induction ps with
 | nil=>simp [nuAll]
 | cons q ps ih=>rw [nuAll,Bool.and_eq_true,ih];simp
theorem nuAny_yes {ps:List T}:nuAny ps=true↔∃ p∈ps,nuT p=true:=by
 induction ps with
 | nil=>simp [nuAny]
 | cons q ps ih=>rw [nuAny,Bool.or_eq_true,ih];simp
theorem nuAll_append (a b:List T):nuAll (a ++ b)=(nuAll a && nuAll b):=by
 induction a with
 | nil=>simp [nuAll]
 | cons t a ih=>rw [List.cons_append,nuAll,nuAll,ih,Bool.and_assoc]
theorem nuAny_append (a b:List T):nuAny (a ++ b)=(nuAny a || nuAny b):=by
 induction a with
 | nil=>simp [nuAny]
 | cons t a ih=>rw [List.cons_append,nuAny,nuAny,ih,Bool.or_assoc]
theorem nu_two {t:T} (h:t.kind=2):nuT t=nuAll t.ps:=by
 cases t with
 | node k C lo hi ps=>rw [nuT];have e:k=2:=h;rw [if_neg (by omega),if_pos e];rfl
theorem nu_three {t:T} (h:t.kind=3):nuT t=nuAny t.ps:=by
 cases t with
 | node k C lo hi ps=>rw [nuT];have e:k=3:=h;rw [if_neg (by omega),if_neg (by omega),if_pos e];rfl
theorem nu_nothing {t:T} (h:t.kind=0):nuT t=true:=by
 cases t with
 | node k C lo hi ps=>rw [nuT];exact if_pos h
theorem spread_nu2 (l:List T):nuAll (spreadT 2 l)=nuAll l:=by
 induction l with
 | nil=>rfl
 | cons t l ih =>
  rw [spreadT,nuAll_append,ih,nuAll]
  split
  ·rename_i h;rw [nu_two h]
  ·rw [nuAll,nuAll,Bool.and_true]
theorem spread_nu3 (l:List T):nuAny (spreadT 3 l)=nuAny l:=by
 induction l with
 | nil=>rfl
 | cons t l ih =>
  rw [spreadT,nuAny_append,ih,nuAny]
  split
  ·rename_i h;rw [nu_three h]
  ·rw [nuAny,nuAny,Bool.or_false]
theorem left_nu2 (a:List T):∀ l,nuAll (leftT 2 l a)=(nuAll l && nuAll a):=by
 induction a with
 | nil=>intro l;rw [leftT,nuAll,Bool.and_true]
 | cons t a ih =>
  intro l
  rw [leftT,ih,nuAll]
  split
  ·rename_i h
   unfold dropT at h
   rw [if_pos rfl] at h
   rw [nu_nothing (of_decide_eq_true h),Bool.true_and]
  ·rw [nuAll_append,nuAll,nuAll,Bool.and_true,Bool.and_assoc]
mutual
theorem like_nu:∀ a b:T,likeT a b=true→nuT a=nuT b
 | .node k C lo hi ps,.node k' C' lo' hi' qs,h=>by
  rw [likeT,Bool.and_eq_true] at h
  obtain ⟨h1,h2⟩:=h
  have h3:=of_decide_eq_true h1
  obtain ⟨e1,_,e3,_,e5⟩:=h3
  have e1':k=k':=e1
  have e3':lo=lo':=e3
  have e5':ps.length=qs.length:=e5
  obtain ⟨q1,q2⟩:=likes_nu ps qs e5' h2
  rw [nuT,nuT,q1,q2,e1',e3']
theorem likes_nu:∀ xs ys:List T,xs.length=ys.length→likesT xs ys=true→nuAll xs=nuAll ys∧nuAny xs=nuAny ys
 | [],[],_,_=>⟨rfl,rfl⟩
 | [],_ :: _,h,_=>by simp at h
 | _ :: _,[],h,_=>by simp at h
 | a :: xs,b :: ys,h,hl=>by
  rw [likesT,Bool.and_eq_true] at hl
  have h1:=like_nu a b hl.1
  obtain ⟨h2,h3⟩:=likes_nu xs ys (by simpa using h) hl.2
  rw [nuAll,nuAll,nuAny,nuAny,h1,h2,h3]
  exact ⟨rfl,rfl⟩
end
theorem left_nu3 (a:List T) (ha:∀ u∈a,vdT u=true→nuT u=false):∀ l,nuAny (leftT 3 l a)=(nuAny l || nuAny a):=by
 induction a with
 | nil=>intro l;rw [leftT,nuAny,Bool.or_false]
 | cons t a ih =>
  intro l
  rw [leftT,ih (fun u hu=>ha u (List.mem_cons_of_mem _ hu)),nuAny]
  split
  ·rename_i h
   unfold dropT at h
   rw [if_neg (by decide),Bool.or_eq_true] at h
   rcases h with h | h
   ·rw [ha t List.mem_cons_self h,Bool.false_or]
   ·obtain ⟨u,hu,hl⟩:=List.any_eq_true.1 h
    cases hn:nuT t with
    | false=>rw [Bool.false_or]
    | true =>
     have:nuAny l=true:=nuAny_yes.2 ⟨u,hu,(like_nu u t hl).trans hn⟩
     rw [this,Bool.true_or,Bool.true_or]
  ·rw [nuAny_append,nuAny,nuAny,Bool.or_false,Bool.or_assoc]
theorem left_some (a:List T):∀ l,l≠[]∨(∃ u∈a,vdT u=false)→leftT 3 l a≠[]:=by
 induction a with
 | nil=>intro l h;rcases h with h | ⟨u,hu,_⟩;exact h;cases hu
 | cons t a ih =>
  intro l h
  rw [leftT]
  apply ih
  split
  ·rename_i hd
   rcases h with h | ⟨u,hu,hv⟩
   ·exact .inl h
   ·rcases List.mem_cons.1 hu with e | hu
    ·unfold dropT at hd
     rw [if_neg (by decide),← e,hv,Bool.false_or] at hd
     obtain ⟨x,hx,_⟩:=List.any_eq_true.1 hd
     exact .inl (fun e=>by rw [e] at hx;cases hx)
    ·exact .inr ⟨u,hu,hv⟩
  ·exact .inl (by simp)
theorem one_nu2:∀ l:List T,nuT (oneOf 2 l)=nuAll l
 | []=>by simp [oneOf,nuT,nuAll]
 | [t]=>by simp [oneOf,nuAll]
 | t :: u :: ts=>nu_two rfl
theorem one_nu3:∀ l:List T,l≠[]→nuT (oneOf 3 l)=nuAny l
 | [],h=>absurd rfl h
 | [t],_=>by simp [oneOf,nuAny]
 | t :: u :: ts,_=>nu_three rfl
theorem rep_nu {lo hi:Int} {s:T} (h0:hi=0→lo=0) (hs:vdT s=false):nuT (rep4 lo hi s)=(decide (lo=0) || nuT s):=by
 unfold rep4
 split
 ·rename_i h
  rw [nu_nothing rfl]
  rcases h with h | h | h
  ·rw [h0 h];rfl
  ·rw [nu_nothing h,Bool.or_true]
  ·rw [hs] at h;cases h
 ·split
  ·rename_i h;rw [h.1];simp
  ·rw [nuT,nuAny,nuAny,Bool.or_false]
   cases nuT s <;> simp
theorem spread_some {l:List T} {u:T} (hu:u∈l) (hv:vdT u=false):∃ x∈spreadT 3 l,vdT x=false:=by
 induction l with
 | nil=>cases hu
 | cons t l ih =>
  rw [spreadT]
  rcases List.mem_cons.1 hu with e | hu
  ·rw [← e]
   split
   ·rename_i hk
    cases u with
    | node k C lo hi ps =>
     have hk':k=3:=hk
     rw [vdT,if_neg (by omega),if_neg (by omega),if_pos hk'] at hv
     obtain ⟨x,hx,hxv⟩:=vdAll_no.1 hv
     exact ⟨x,List.mem_append.2 (.inl hx),hxv⟩
   ·exact ⟨u,by simp,hv⟩
  ·obtain ⟨x,hx,h⟩:=ih hu
   exact ⟨x,List.mem_append.2 (.inr hx),h⟩
mutual
theorem void_nu:∀ t:T,okT t=true→vdT t=true→nuT t=false
 | .node k C lo hi ps,hok,hv=>by
  have hs:=voids_nu ps (ok_parts hok)
  have ha:=of_decide_eq_true (ok_kind hok)
  rcases ha with ⟨h,_⟩ | ⟨h,_⟩ | ⟨h,_,_,_,hlen⟩ | ⟨h,_,hlen,hb⟩
  ·rw [vdT,if_neg (by omega),if_neg (by omega),if_neg (by omega),if_neg (by omega)] at hv
   cases hv
  ·rw [nuT,if_neg (by omega),if_neg (by omega),if_neg (by omega),if_neg (by omega)]
  ·rcases h with h | h
   ·rw [vdT,if_neg (by omega),if_pos h] at hv
    rw [nuT,if_neg (by omega),if_pos h,← Bool.not_eq_true,nuAll_yes]
    intro hall
    have:¬ vdAny ps=false:=by rw [hv];decide
    exact this (vdAny_no.2 fun p hp=>by
     cases hpv:vdT p with
     | false=>rfl
     | true=>have h1:=hs p hp hpv;rw [hall p hp] at h1;cases h1)
   ·rw [vdT,if_neg (by omega),if_neg (by omega),if_pos h] at hv
    rw [nuT,if_neg (by omega),if_neg (by omega),if_pos h,← Bool.not_eq_true,nuAny_yes]
    rintro ⟨p,hp,hn⟩
    cases hpv:vdT p with
    | true=>rw [hs p hp hpv] at hn;cases hn
    | false=>rw [vdAll_no.2 ⟨p,hp,hpv⟩] at hv;cases hv
  ·rw [vdT,if_neg (by omega),if_neg (by omega),if_neg (by omega),if_pos h,Bool.and_eq_true] at hv
   have hlo:=of_decide_eq_true hv.1
   rw [nuT,if_neg (by omega),if_neg (by omega),if_neg (by omega),if_pos h]
   match ps,hlen with
   | [p],_ =>
    have hp:vdT p=true:=by have:=hv.2;rw [vdAny,vdAny,Bool.or_false] at this;exact this
    rw [nuAny,nuAny,hs p (by simp) hp,decide_eq_false (by omega)]
    rfl
theorem voids_nu:∀ ts:List T,oksT ts=true→∀ p∈ts,vdT p=true→nuT p=false
 | [],_,p,hp,_=>by cases hp
 | t :: ts,h,p,hp,hv=>by
  rw [oksT,Bool.and_eq_true] at h
  rcases List.mem_cons.1 hp with e | hp
  ·rw [e] at hv ⊢
   exact void_nu t h.1 hv
  ·exact voids_nu ts h.2 p hp hv
end
mutual
theorem sim_nu:∀ t:T,okT t=true→vdT t=false→nuT (simT t)=nuT t
 | .node k C lo hi ps,hok,hv=>by
  have hs:=sims_nu ps (ok_parts hok)
  have hks:=oks_mem (ok_parts hok)
  have ha:=of_decide_eq_true (ok_kind hok)
  rw [simT,if_neg (by rw [hv];decide)]
  split
  ·rfl
  ·rename_i hk
   split
   ·rename_i h4
    have h4':=ha.resolve_left (fun h=>by omega)
    have h5:=(h4'.resolve_left (fun h=>by omega)).resolve_left (fun h=>by omega)
    obtain ⟨_,_,hlen,hb⟩:=h5
    obtain ⟨b1,b2,b3⟩:=of_decide_eq_true hb
    match ps,hlen with
    | [p],_ =>
     rw [simsT,simsT]
     show nuT (rep4 lo hi (simT p))=_
     have e1:nuT (.node k C lo hi [p])=(decide (lo=0) || nuT p):=by rw [nuT,if_neg (by omega),if_neg (by omega),if_neg (by omega),if_pos h4,nuAny,nuAny,Bool.or_false]
     rw [e1]
     cases hp:vdT p with
     | true =>
      rw [sim_void hp,rep_void vd_empty,nu_nothing rfl]
      rw [vdT,if_neg (by omega),if_neg (by omega),if_neg (by omega),if_pos h4,vdAny,vdAny,hp] at hv
      have:lo=0:=by
       simp at hv
       omega
      rw [this]
      rfl
     | false =>
      rw [rep_nu (fun h=>by omega) (ln_vd (sim_ln p (hks p (by simp)) hp)),hs p (by simp) hp]
   ·rename_i h4
    have hk2:k=2∨k=3:=by rcases ha with ⟨h,_⟩ | ⟨h,_⟩ | ⟨h,_⟩ | ⟨h,_⟩ <;> omega
    rcases hk2 with rfl | rfl
    ·rw [one_nu2,left_nu2,spread_nu2,nuAll,Bool.true_and,nu_two rfl,sims_map]
     rw [vdT,if_neg (by decide),if_pos rfl] at hv
     have hv':=vdAny_no.1 hv
     rw [Bool.eq_iff_iff,nuAll_yes,nuAll_yes]
     constructor
     ·intro h p hp
      rw [← hs p hp (hv' p hp)]
      exact h _ (List.mem_map_of_mem hp)
     ·intro h u hu
      obtain ⟨p,hp,rfl⟩:=List.mem_map.1 hu
      rw [hs p hp (hv' p hp)]
      exact h p hp
    ·rw [vdT,if_neg (by decide),if_neg (by decide),if_pos rfl] at hv
     have hm:∀ u∈simsT ps,u=emptyT∨lnT u=true:=fun u hu=>by
      rw [sims_map] at hu
      obtain ⟨p,hp,rfl⟩:=List.mem_map.1 hu
      cases h:vdT p with
      | true=>exact .inl (sim_void h)
      | false=>exact .inr (sim_ln p (hks p hp) h)
     have hm2:∀ u∈spreadT 3 (simsT ps),u=emptyT∨lnT u=true:=fun u hu=>by
      rcases spread_mem hu with ⟨v,hv,h1,h2⟩ | ⟨h1,_⟩
      ·rcases hm v hv with rfl | h3
       ·have:(1:Int)=_:=h1;omega
       ·exact .inr (ln_ps h3 u h2)
      ·exact hm u h1
     have hne:leftT 3 [] (spreadT 3 (simsT ps))≠[]:=by
      refine left_some _ _ (.inr ?_)
      obtain ⟨p,hp,hpv⟩:=vdAll_no.1 hv
      have hl:=sim_ln p (hks p hp) hpv
      have hmem:simT p∈simsT ps:=by rw [sims_map];exact List.mem_map_of_mem hp
      exact spread_some hmem (ln_vd hl)
     rw [one_nu3 _ hne,left_nu3 _ (fun u hu hvu=>by
      rcases hm2 u hu with rfl | h
      ·rfl
      ·rw [ln_vd h] at hvu;cases hvu),spread_nu3,nuAny,Bool.false_or,nu_three rfl,sims_map]
     rw [Bool.eq_iff_iff,nuAny_yes,nuAny_yes]
     constructor
     ·rintro ⟨u,hu,hn⟩
      obtain ⟨p,hp,rfl⟩:=List.mem_map.1 hu
      cases hpv:vdT p with
      | true=>rw [sim_void hpv] at hn;cases hn
      | false=>exact ⟨p,hp,by rw [← hs p hp hpv];exact hn⟩
     ·rintro ⟨p,hp,hn⟩
      cases hpv:vdT p with
      | true=>rw [void_nu p (hks p hp) hpv] at hn;cases hn
      | false=>exact ⟨_,List.mem_map_of_mem hp,by rw [hs p hp hpv];exact hn⟩
theorem sims_nu:∀ ts:List T,oksT ts=true→∀ p∈ts,vdT p=false→nuT (simT p)=nuT p
 | [],_,p,hp,_=>by cases hp
 | t :: ts,h,p,hp,hv=>by
  rw [oksT,Bool.and_eq_true] at h
  rcases List.mem_cons.1 hp with e | hp
  ·rw [e] at hv ⊢
   exact sim_nu t h.1 hv
  ·exact sims_nu ts h.2 p hp hv
end
end Go.Proofs.YtbohmcfplgdlpaaDoor

/- What a simple tree is like: no Kind 0 in a row or repeated, no row in a row, no alternatives in alternatives, what is nullable is repeated 0 or more times: plain facts.
   Conditions: the tree is formed. -/
namespace Go.Proofs.YtbohmcfplgdlpaaDoor
open Go.RowKit
inductive SmT:T→Prop
 | mk (k:Int) (C:Nat→Nat) (lo hi:Int) (ps:List T) (h2:k=2→∀ p∈ps,p.kind≠0∧p.kind≠2) (h3:k=3→∀ p∈ps,p.kind≠3)
  (h4:k=4→∀ p∈ps,p.kind≠0∧(nuT p=true→lo=0)) (hp:∀ p∈ps,SmT p):SmT (.node k C lo hi ps)
theorem SmT.two {t:T} (h:SmT t) (hk:t.kind=2):∀ p∈t.ps,p.kind≠0∧p.kind≠2:=by
 cases h with
 | mk k C lo hi ps h2 _ _ _=>exact h2 hk
theorem SmT.three {t:T} (h:SmT t) (hk:t.kind=3):∀ p∈t.ps,p.kind≠3:=by
 cases h with
 | mk k C lo hi ps _ h3 _ _=>exact h3 hk
theorem SmT.part {t:T} (h:SmT t):∀ p∈t.ps,SmT p:=by
 cases h with
 | mk k C lo hi ps _ _ _ hp=>exact hp
theorem sm_leaf {k:Int} {C:Nat→Nat} {lo hi:Int}:SmT (.node k C lo hi []):=.mk _ _ _ _ _ (fun _ p hp=>by cases hp) (fun _ p hp=>by cases hp) (fun _ p hp=>by cases hp) fun p hp=>by cases hp
theorem sm_one2:∀ {l:List T},(∀ t∈l,SmT t∧t.kind≠0∧t.kind≠2)→SmT (oneOf 2 l)
 | [],_=>sm_leaf
 | [t],h=>(h t (by simp)).1
 | t :: u :: ts,h=>.mk _ _ _ _ _ (fun _ p hp=>(h p hp).2) (fun e=>by cases e) (fun e=>by cases e) fun p hp=>(h p hp).1
theorem sm_one3:∀ {l:List T},(∀ t∈l,SmT t∧t.kind≠3)→SmT (oneOf 3 l)
 | [],_=>sm_leaf
 | [t],h=>(h t (by simp)).1
 | t :: u :: ts,h=>.mk _ _ _ _ _ (fun e=>by cases e) (fun _ p hp=>(h p hp).2) (fun e=>by cases e) fun p hp=>(h p hp).1
theorem sm_rep {lo hi:Int} {s:T} (h:SmT s):SmT (rep4 lo hi s):=by
 unfold rep4
 split
 ·exact sm_leaf
 ·rename_i h0
  split
  ·exact h
  ·refine .mk _ _ _ _ _ (fun e=>by cases e) (fun e=>by cases e) (fun _ p hp=>?_) fun p hp=>by rw [List.mem_singleton.1 hp];exact h
   rw [List.mem_singleton.1 hp]
   exact ⟨fun e=>h0 (.inr (.inl e)),fun e=>if_pos e⟩
theorem spread_sm2 {l:List T} (h:∀ u∈l,SmT u):∀ x∈spreadT 2 l,SmT x∧x.kind≠2:=fun x hx=>by
 rcases spread_mem hx with ⟨u,hu,hk,hp⟩ | ⟨h1,h2⟩
 ·exact ⟨(h u hu).part x hp,((h u hu).two hk x hp).2⟩
 ·exact ⟨h x h1,h2⟩
theorem spread_sm3 {l:List T} (h:∀ u∈l,SmT u):∀ x∈spreadT 3 l,SmT x∧x.kind≠3:=fun x hx=>by
 rcases spread_mem hx with ⟨u,hu,hk,hp⟩ | ⟨h1,h2⟩
 ·exact ⟨(h u hu).part x hp,(h u hu).three hk x hp⟩
 ·exact ⟨h x h1,h2⟩
mutual
theorem sim_sm:∀ t:T,okT t=true→SmT (simT t)
 | .node k C lo hi ps,hok=>by
  have hs:=sims_sm ps (ok_parts hok)
  have ha:=of_decide_eq_true (ok_kind hok)
  rw [simT]
  split
  ·exact sm_leaf
  ·split
   ·rename_i hk
    have hps:ps=[]:=by
     rcases ha with ⟨_,_,_,_,h⟩ | ⟨_,_,_,h⟩ | ⟨h,_⟩ | ⟨h,_⟩
     ·exact List.length_eq_zero_iff.1 h
     ·exact List.length_eq_zero_iff.1 h
     ·omega
     ·omega
    rw [hps]
    exact sm_leaf
   ·rename_i hk
    split
    ·cases hl:simsT ps with
     | nil=>exact sm_leaf
     | cons s l=>exact sm_rep (hs s (by rw [hl];simp))
    ·rename_i h4
     have hk2:k=2∨k=3:=by rcases ha with ⟨h,_⟩ | ⟨h,_⟩ | ⟨h,_⟩ | ⟨h,_⟩ <;> omega
     rcases hk2 with rfl | rfl
     ·refine sm_one2 fun u hu=>?_
      have h1:=left_all (P:=fun u=>SmT u∧u.kind≠2) _ _ (by simp) (spread_sm2 hs) u hu
      have h2:=left_none (k:=2) (P:=fun u=>u.kind≠0) (fun l t h=>by
       unfold dropT at h
       rw [if_pos rfl] at h
       exact of_decide_eq_false h) _ _ (by simp) u hu
      exact ⟨h1.1,h2,h1.2⟩
     ·exact sm_one3 fun u hu=>left_all (P:=fun u=>SmT u∧u.kind≠3) _ _ (by simp) (spread_sm3 hs) u hu
theorem sims_sm:∀ ts:List T,oksT ts=true→∀ u∈simsT ts,SmT u
 | [],_,u,hu=>by rw [simsT] at hu;cases hu
 | t :: ts,h,u,hu=>by
  rw [oksT,Bool.and_eq_true] at h
  rw [simsT] at hu
  rcases List.mem_cons.1 hu with e | hu
  ·rw [e];exact sim_sm t h.1
  ·exact sims_sm ts h.2 u hu
end
end Go.Proofs.YtbohmcfplgdlpaaDoor

/- Whether rows in rows are made simple one by one or all at once is all one: plain facts.
   Conditions: the trees are formed, none is void. -/
namespace Go.Proofs.YtbohmcfplgdlpaaDoor
open Go.RowKit
mutual
def flatT (k:Int):T→List T
 | .node k' C lo hi ps=>if meltK k' lo hi k then flatsT k ps else [.node k' C lo hi ps]
def flatsT (k:Int):List T→List T
 | []=>[]
 | p :: ps=>flatT k p ++ flatsT k ps
end
mutual
theorem flat_erase (k:Int):∀ p:V,erases (flatV k p)=flatT k (erase p)
 | .node k' C lo hi v ps=>by
  rw [flatV,erase,flatT]
  split
  ·exact flats_erase k ps
  ·rw [erases,erases,erase]
theorem flats_erase (k:Int):∀ ps:List V,erases (flatsV k ps)=flatsT k (erases ps)
 | []=>by rw [flatsV,erases,flatsT]
 | p :: ps=>by
  rw [flatsV,erases,flatsT,← flat_erase k p,← flats_erase k ps,erases_append]
end
def gT (us:List T):List T:=(spreadT 2 us).filter fun t=>decide (t.kind≠0)
theorem left_two (a:List T):∀ l,leftT 2 l a=l ++ a.filter fun t=>decide (t.kind≠0):=by
 induction a with
 | nil=>intro l;rw [leftT,List.filter_nil,List.append_nil]
 | cons t a ih =>
  intro l
  rw [leftT,ih,List.filter_cons]
  unfold dropT
  rw [if_pos rfl]
  by_cases h:t.kind=0
  ·simp [h]
  ·simp [h]
theorem left_g (us:List T):leftT 2 [] (spreadT 2 us)=gT us:=by rw [left_two,List.nil_append];rfl
theorem g_append (a b:List T):gT (a ++ b)=gT a ++ gT b:=by rw [gT,spread_append,List.filter_append];rfl
theorem g_nothing {t:T} (h:t.kind=0):gT [t]=[]:=by
 rw [gT,spreadT,spreadT,if_neg (by omega)]
 simp [h]
theorem g_one:∀ {l:List T},(∀ t∈l,t.kind≠0∧t.kind≠2)→gT [oneOf 2 l]=l
 | [],_=>g_nothing rfl
 | [t],h=>by
  obtain ⟨h1,h2⟩:=h t (by simp)
  rw [oneOf,gT,spreadT,spreadT,if_neg h2]
  simp [h1]
 | t :: u :: ts,h=>by
  rw [oneOf,gT,spreadT,spreadT,if_pos (show (T.node 2 zeros 0 0 (t :: u :: ts)).kind=2 from rfl),List.append_nil]
  exact List.filter_eq_self.2 fun x hx=>by have:=(h x hx).1;simpa using this
theorem g_sm {us:List T} (h:∀ u∈us,SmT u):∀ x∈gT us,x.kind≠0∧x.kind≠2:=fun x hx=>by
 obtain ⟨h1,h2⟩:=List.mem_filter.1 hx
 exact ⟨of_decide_eq_true h2,(spread_sm2 h x h1).2⟩
mutual
theorem g_flat:∀ p:T,okT p=true→vdT p=false→gT (simsT (flatT 2 p))=gT [simT p]
 | .node k C lo hi ps,hok,hv=>by
  rw [flatT]
  by_cases hm:meltK k lo hi 2=true
  ·rw [if_pos hm]
   have hoks:=ok_parts hok
   have ha:=of_decide_eq_true (ok_kind hok)
   rcases melt_cases hm with ⟨e,_⟩ | ⟨e,e1,e2⟩
   ·have hvs:∀ p∈ps,vdT p=false:=by
     rw [vdT,if_neg (by omega),if_pos e] at hv
     exact vdAny_no.1 hv
    rw [g_flats ps hoks hvs,simT,if_neg (by rw [hv];decide),if_neg (by omega),if_neg (by omega),e,left_g,g_one (g_sm (sims_sm ps hoks))]
   ·have h5:=((ha.resolve_left (fun h=>by omega)).resolve_left (fun h=>by omega)).resolve_left (fun h=>by omega)
    have hlen:=h5.2.2.1
    have hvs:∀ p∈ps,vdT p=false:=by
     rw [vdT,if_neg (by omega),if_neg (by omega),if_neg (by omega),if_pos e,decide_eq_true (by omega),Bool.true_and] at hv
     exact vdAny_no.1 hv
    rw [g_flats ps hoks hvs,simT,if_neg (by rw [hv];decide),if_neg (by omega),if_pos e]
    match ps,hlen,hvs,hoks with
    | [q],_,hvs,hoks =>
     rw [simsT,simsT]
     show gT [simT q]=gT [rep4 lo hi (simT q)]
     have hq:=ln_vd (sim_ln q (oks_mem hoks q (by simp)) (hvs q (by simp)))
     unfold rep4
     by_cases h0:(simT q).kind=0
     ·rw [if_pos (.inr (.inl h0)),g_nothing h0,g_nothing rfl]
     ·rw [if_neg (by rintro (h | h | h);omega;exact h0 h;rw [hq] at h;cases h),if_pos ⟨e1,e2⟩]
  ·rw [if_neg hm,simsT,simsT]
theorem g_flats:∀ ps:List T,oksT ps=true→(∀ p∈ps,vdT p=false)→gT (simsT (flatsT 2 ps))=gT (simsT ps)
 | [],_,_=>by rw [flatsT]
 | p :: ps,h,hv=>by
  rw [oksT,Bool.and_eq_true] at h
  have h1:=g_flat p h.1 (hv p List.mem_cons_self)
  have h2:=g_flats ps h.2 fun q hq=>hv q (List.mem_cons_of_mem _ hq)
  rw [flatsT,sims_map,List.map_append,g_append,← sims_map,← sims_map,h1,h2,simsT,← g_append]
  rfl
end
end Go.Proofs.YtbohmcfplgdlpaaDoor

/- Trees that are alike; alternatives of which those that are alike are left out at once, or one by one; what is repeated: plain facts.
   Conditions: those that each theorem states. -/
namespace Go.Proofs.YtbohmcfplgdlpaaDoor
open Go.RowKit
theorem eq4_z4 {A B:Nat→Nat} (h:eq4 A B=true):z4 A=z4 B:=by
 obtain ⟨h0,h1,h2,h3⟩:=of_decide_eq_true h
 unfold z4
 rw [h0,h1,h2,h3]
mutual
theorem like_vd:∀ a b:T,likeT a b=true→vdT a=vdT b
 | .node k C lo hi ps,.node k' C' lo' hi' qs,h=>by
  rw [likeT,Bool.and_eq_true] at h
  obtain ⟨h1,h2⟩:=h
  have h3:=of_decide_eq_true h1
  obtain ⟨e1,e2,e3,_,e5⟩:=h3
  have e1':k=k':=e1
  have e3':lo=lo':=e3
  have e5':ps.length=qs.length:=e5
  obtain ⟨q1,q2⟩:=likes_vd ps qs e5' h2
  rw [vdT,vdT,q1,q2,e1',e3',eq4_z4 e2]
theorem likes_vd:∀ xs ys:List T,xs.length=ys.length→likesT xs ys=true→vdAny xs=vdAny ys∧vdAll xs=vdAll ys
 | [],[],_,_=>⟨rfl,rfl⟩
 | [],_ :: _,h,_=>by simp at h
 | _ :: _,[],h,_=>by simp at h
 | a :: xs,b :: ys,h,hl=>by
  rw [likesT,Bool.and_eq_true] at hl
  have h1:=like_vd a b hl.1
  obtain ⟨h2,h3⟩:=likes_vd xs ys (by simpa using h) hl.2
  rw [vdAny,vdAny,vdAll,vdAll,h1,h2,h3]
  exact ⟨rfl,rfl⟩
end
theorem eq4_trans {A B C:Nat→Nat} (h:eq4 A B=true) (h':eq4 B C=true):eq4 A C=true:=by
 obtain ⟨a0,a1,a2,a3⟩:=of_decide_eq_true h
 obtain ⟨b0,b1,b2,b3⟩:=of_decide_eq_true h'
 exact decide_eq_true ⟨a0.trans b0,a1.trans b1,a2.trans b2,a3.trans b3⟩
theorem eq4_refl (A:Nat→Nat):eq4 A A=true:=decide_eq_true ⟨rfl,rfl,rfl,rfl⟩
mutual
theorem like_refl:∀ a:T,likeT a a=true
 | .node k C lo hi ps=>by
  rw [likeT,Bool.and_eq_true]
  exact ⟨decide_eq_true ⟨rfl,eq4_refl C,rfl,rfl,rfl⟩,likes_refl ps⟩
theorem likes_refl:∀ xs:List T,likesT xs xs=true
 | []=>by rw [likesT]
 | a :: xs=>by rw [likesT,like_refl a,likes_refl xs];rfl
end
mutual
theorem like_trans:∀ a b c:T,likeT a b=true→likeT b c=true→likeT a c=true
 | .node k C lo hi ps,.node k' C' lo' hi' qs,.node k'' C'' lo'' hi'' rs,h,h'=>by
  rw [likeT,Bool.and_eq_true] at h h'
  obtain ⟨e1,e2,e3,e4,e5⟩:=of_decide_eq_true h.1
  obtain ⟨d1,d2,d3,d4,d5⟩:=of_decide_eq_true h'.1
  rw [likeT,Bool.and_eq_true]
  exact ⟨decide_eq_true ⟨e1.trans d1,eq4_trans e2 d2,e3.trans d3,e4.trans d4,e5.trans d5⟩,likes_trans ps qs rs e5 d5 h.2 h'.2⟩
theorem likes_trans:∀ xs ys zs:List T,xs.length=ys.length→ys.length=zs.length→likesT xs ys=true→likesT ys zs=true→likesT xs zs=true
 | [],_,_,_,_,_,_=>by rw [likesT]
 | _ :: _,[],_,h,_,_,_=>by simp at h
 | _ :: _,_ :: _,[],_,h,_,_=>by simp at h
 | a :: xs,b :: ys,c :: zs,h1,h2,h3,h4=>by
  rw [likesT,Bool.and_eq_true] at h3 h4 ⊢
  exact ⟨like_trans a b c h3.1 h4.1,likes_trans xs ys zs (by simpa using h1) (by simpa using h2) h3.2 h4.2⟩
end
theorem left_keeps (a:List T):∀ l,∀ t∈l,t∈leftT 3 l a:=by
 induction a with
 | nil=>intro l t h;exact h
 | cons u a ih =>
  intro l t h
  rw [leftT]
  refine ih _ t ?_
  split
  ·exact h
  ·exact List.mem_append.2 (.inl h)
theorem left_has (a:List T):∀ l,∀ t∈a,vdT t=true∨∃ x∈leftT 3 l a,likeT x t=true:=by
 induction a with
 | nil=>intro l t h;cases h
 | cons u a ih =>
  intro l t h
  rcases List.mem_cons.1 h with e | h
  ·rw [leftT,e]
   split
   ·rename_i hd
    unfold dropT at hd
    rw [if_neg (by decide),Bool.or_eq_true] at hd
    rcases hd with hd | hd
    ·exact .inl hd
    ·obtain ⟨x,hx,hl⟩:=List.any_eq_true.1 hd
     exact .inr ⟨x,left_keeps a _ x hx,hl⟩
   ·exact .inr ⟨u,left_keeps a _ u (by simp),like_refl u⟩
  ·rw [leftT]
   exact ih _ t h
theorem drop_left {l m:List T} {t:T} (h:dropT 3 m t=true):dropT 3 (leftT 3 l m) t=true:=by
 unfold dropT at h ⊢
 rw [if_neg (by decide),Bool.or_eq_true] at h ⊢
 rcases h with h | h
 ·exact .inl h
 ·obtain ⟨x,hx,hl⟩:=List.any_eq_true.1 h
  rcases left_has m l x hx with hv | ⟨y,hy,hl2⟩
  ·exact .inl ((like_vd x t hl).symm.trans hv)
  ·exact .inr (List.any_eq_true.2 ⟨y,hy,like_trans y x t hl2 hl⟩)
theorem left_left (a:List T):∀ l m,leftT 3 l (leftT 3 m a)=leftT 3 (leftT 3 l m) a:=by
 induction a with
 | nil=>intro l m;rfl
 | cons t a ih =>
  intro l m
  rw [leftT,ih,leftT]
  by_cases h:dropT 3 m t=true
  ·rw [if_pos h,if_pos (drop_left h)]
  ·rw [if_neg h,left_append]
   rfl
end Go.Proofs.YtbohmcfplgdlpaaDoor

/- Whether alternatives in alternatives, and what is repeated once, are made simple one by one or all at once is all one: plain facts.
   Conditions: the trees are formed. -/
namespace Go.Proofs.YtbohmcfplgdlpaaDoor
open Go.RowKit
inductive ZnT:T→Prop
 | mk (k:Int) (C:Nat→Nat) (lo hi:Int) (ps:List T) (h:k=0→T.node k C lo hi ps=noT) (hp:∀ p∈ps,ZnT p):ZnT (.node k C lo hi ps)
theorem ZnT.part {t:T} (h:ZnT t):∀ p∈t.ps,ZnT p:=by
 cases h with
 | mk k C lo hi ps _ hp=>exact hp
theorem ZnT.zero {t:T} (h:ZnT t) (hk:t.kind=0):t=noT:=by
 cases h with
 | mk k C lo hi ps h _=>exact h hk
theorem zn_none:ZnT noT:=.mk _ _ _ _ _ (fun _=>rfl) fun p hp=>by cases hp
theorem zn_empty:ZnT emptyT:=.mk _ _ _ _ _ (fun e=>by cases e) fun p hp=>by cases hp
theorem zn_one {k:Int} (hk:k≠0):∀ {l:List T},(∀ t∈l,ZnT t)→ZnT (oneOf k l)
 | [],_=>zn_none
 | [t],h=>h t (by simp)
 | t :: u :: ts,h=>.mk _ _ _ _ _ (fun e=>absurd e hk) h
theorem zn_rep {lo hi:Int} {s:T} (h:ZnT s):ZnT (rep4 lo hi s):=by
 unfold rep4
 split
 ·exact zn_none
 ·split
  ·exact h
  ·exact .mk _ _ _ _ _ (fun e=>by cases e) fun p hp=>by rw [List.mem_singleton.1 hp];exact h
theorem wash_zero {C:Nat→Nat} (h:z4 C=true):wash C=zeros:=by
 obtain ⟨h0,h1,h2,h3⟩:=of_decide_eq_true h
 funext i
 unfold wash
 split
 ·match i with
  | 0=>exact h0
  | 1=>exact h1
  | 2=>exact h2
  | 3=>exact h3
  | i+4=>omega
 ·rfl
mutual
theorem sim_zn:∀ t:T,okT t=true→ZnT (simT t)
 | .node k C lo hi ps,hok=>by
  have hs:=sims_zn ps (ok_parts hok)
  have ha:=of_decide_eq_true (ok_kind hok)
  rw [simT]
  split
  ·exact zn_empty
  ·split
   ·rcases ha with ⟨h,hz,h1,h2,h3⟩ | ⟨h,h1,h2,h3⟩ | ⟨h,_⟩ | ⟨h,_⟩
    ·rw [wash_zero hz,h,h1,h2,List.length_eq_zero_iff.1 h3]
     exact zn_none
    ·rw [List.length_eq_zero_iff.1 h3]
     exact .mk _ _ _ _ _ (fun e=>by omega) fun p hp=>by cases hp
    ·omega
    ·omega
   ·split
    ·cases hl:simsT ps with
     | nil=>exact zn_none
     | cons s l=>exact zn_rep (hs s (by rw [hl];simp))
    ·refine zn_one (by omega) fun u hu=>left_all (P:=ZnT) _ _ (by simp) (fun x hx=>?_) u hu
     rcases spread_mem hx with ⟨v,hv,_,h2⟩ | ⟨h1,_⟩
     ·exact (hs v hv).part x h2
     ·exact hs x h1
theorem sims_zn:∀ ts:List T,oksT ts=true→∀ u∈simsT ts,ZnT u
 | [],_,u,hu=>by rw [simsT] at hu;cases hu
 | t :: ts,h,u,hu=>by
  rw [oksT,Bool.and_eq_true] at h
  rw [simsT] at hu
  rcases List.mem_cons.1 hu with e | hu
  ·rw [e];exact sim_zn t h.1
  ·exact sims_zn ts h.2 u hu
end
theorem sim_once {C:Nat→Nat} {q:T} (hok:okT (.node 4 C 1 1 [q])=true):simT (.node 4 C 1 1 [q])=simT q:=by
 have hq:okT q=true:=oks_mem (ok_parts hok) q (by simp)
 have e1:vdT (.node 4 C 1 1 [q])=vdT q:=by rw [vdT,vdAny,vdAny];simp
 cases hv:vdT q with
 | true=>rw [sim_void (e1.trans hv),sim_void hv]
 | false =>
  rw [simT,if_neg (by rw [e1,hv];decide),if_neg (by decide),if_pos rfl,simsT,simsT]
  show rep4 1 1 (simT q)=simT q
  have h1:=ln_vd (sim_ln q hq hv)
  unfold rep4
  by_cases h0:(simT q).kind=0
  ·rw [if_pos (.inr (.inl h0)),(sim_zn q hq).zero h0]
  ·rw [if_neg (by rintro (h | h | h);omega;exact h0 h;rw [h1] at h;cases h),if_pos ⟨rfl,rfl⟩]
theorem ok_once {k lo hi:Int} {C:Nat→Nat} {ps:List T} (hok:okT (.node k C lo hi ps)=true) (e:k=4):∃ q,ps=[q]:=by
 have ha:=of_decide_eq_true (ok_kind hok)
 have h5:=((ha.resolve_left (fun h=>by omega)).resolve_left (fun h=>by omega)).resolve_left (fun h=>by omega)
 exact List.length_eq_one_iff.1 h5.2.2.1
mutual
theorem f_flat:∀ p:T,okT p=true→simsT (flatT 4 p)=[simT p]
 | .node k C lo hi ps,hok=>by
  rw [flatT]
  by_cases hm:meltK k lo hi 4=true
  ·rw [if_pos hm,f_flats ps (ok_parts hok)]
   have h4:k=4∧lo=1∧hi=1:=by
    rcases melt_cases hm with ⟨e,h⟩ | h
    ·omega
    ·exact h
   obtain ⟨rfl,rfl,rfl⟩:=h4
   obtain ⟨q,rfl⟩:=ok_once hok rfl
   rw [sim_once hok,simsT,simsT]
  ·rw [if_neg hm,simsT,simsT]
theorem f_flats:∀ ps:List T,oksT ps=true→simsT (flatsT 4 ps)=simsT ps
 | [],_=>by rw [flatsT]
 | p :: ps,h=>by
  rw [oksT,Bool.and_eq_true] at h
  rw [flatsT,sims_map,List.map_append,← sims_map,← sims_map,f_flat p h.1,f_flats ps h.2,simsT]
  rfl
end
theorem left_voids (a:List T):∀ l,(∀ u∈a,vdT u=true)→leftT 3 l a=l:=by
 induction a with
 | nil=>intro l _;rfl
 | cons t a ih =>
  intro l h
  rw [leftT,if_pos (by unfold dropT;rw [if_neg (by decide),h t List.mem_cons_self];rfl)]
  exact ih l fun u hu=>h u (List.mem_cons_of_mem _ hu)
theorem spread_one3:∀ {l:List T},l≠[]→(∀ t∈l,t.kind≠3)→spreadT 3 [oneOf 3 l]=l
 | [],h,_=>absurd rfl h
 | [t],_,h=>by rw [oneOf,spreadT,spreadT,if_neg (h t (by simp)),List.append_nil]
 | t :: u :: ts,_,_=>by rw [oneOf,spreadT,spreadT,if_pos (show (T.node 3 zeros 0 0 (t :: u :: ts)).kind=3 from rfl),List.append_nil];rfl
mutual
theorem h_flat:∀ p:T,okT p=true→∀ l,leftT 3 l (spreadT 3 (simsT (flatT 3 p)))=leftT 3 l (spreadT 3 [simT p])
 | .node k C lo hi ps,hok=>fun l=>by
  rw [flatT]
  by_cases hm:meltK k lo hi 3=true
  ·have hoks:=ok_parts hok
   rw [if_pos hm,h_flats ps hoks]
   rcases melt_cases hm with ⟨e,_⟩ | ⟨e,e1,e2⟩
   ·cases hv:vdT (.node k C lo hi ps) with
    | true =>
     rw [sim_void hv]
     rw [vdT,if_neg (by omega),if_neg (by omega),if_pos e] at hv
     have hall:∀ u∈simsT ps,u=emptyT:=fun u hu=>by
      rw [sims_map] at hu
      obtain ⟨p,hp,rfl⟩:=List.mem_map.1 hu
      cases hpv:vdT p with
      | true=>exact sim_void hpv
      | false=>rw [vdAll_no.2 ⟨p,hp,hpv⟩] at hv;cases hv
     rw [left_voids _ _ fun u hu=>?_,left_voids _ _ fun u hu=>?_]
     ·rcases spread_mem hu with ⟨v,hv,h1,_⟩ | ⟨h1,_⟩
      ·rw [List.mem_singleton.1 hv] at h1;exact absurd h1 (by decide)
      ·rw [List.mem_singleton.1 h1];exact vd_empty
     ·rcases spread_mem hu with ⟨v,hv,h1,_⟩ | ⟨h1,_⟩
      ·rw [hall v hv] at h1;exact absurd h1 (by decide)
      ·rw [hall u h1];exact vd_empty
    | false =>
     have hne:leftT 3 [] (spreadT 3 (simsT ps))≠[]:=by
      refine left_some _ _ (.inr ?_)
      have hv2:=hv
      rw [vdT,if_neg (by omega),if_neg (by omega),if_pos e] at hv2
      obtain ⟨p,hp,hpv⟩:=vdAll_no.1 hv2
      have hmem:simT p∈simsT ps:=by rw [sims_map];exact List.mem_map_of_mem hp
      exact spread_some hmem (ln_vd (sim_ln p (oks_mem hoks p hp) hpv))
     rw [simT,if_neg (by rw [hv];decide),if_neg (by omega),if_neg (by omega),e,
      spread_one3 hne fun t ht=>(left_all (P:=fun u=>SmT u∧u.kind≠3) _ _ (by simp) (spread_sm3 (sims_sm ps hoks)) t ht).2,left_left]
     rfl
   ·subst e e1 e2
    obtain ⟨q,rfl⟩:=ok_once hok rfl
    rw [sim_once hok,simsT,simsT]
  ·rw [if_neg hm,simsT,simsT]
theorem h_flats:∀ ps:List T,oksT ps=true→∀ l,leftT 3 l (spreadT 3 (simsT (flatsT 3 ps)))=leftT 3 l (spreadT 3 (simsT ps))
 | [],_=>fun l=>by rw [flatsT]
 | p :: ps,h=>fun l=>by
  rw [oksT,Bool.and_eq_true] at h
  have h1:=h_flat p h.1 l
  have h2:=h_flats ps h.2
  rw [flatsT,sims_map,List.map_append,spread_append,left_append,← sims_map,← sims_map,h1,h2,← left_append,← spread_append,simsT]
  rfl
end
end Go.Proofs.YtbohmcfplgdlpaaDoor

/- What the program makes of a row's results, and of what is repeated: plain functions, and that they give the document's simple tree.
   Conditions: the trees are formed. -/
namespace Go.Proofs.YtbohmcfplgdlpaaDoor
open Go.RowKit
def vB (s:T):Bool:=decide (s.kind=1) && z4 s.set
theorem vB_ln {s:T} (h:lnT s=true):vB s=false:=by
 have h1:=ln_vd h
 cases s with
 | node k C lo hi ps =>
  by_cases hk:k=1
  ·rw [vdT,if_pos hk] at h1
   show (decide (k=1) && z4 C)=false
   rw [h1,Bool.and_false]
  ·show (decide (k=1) && z4 C)=false
   rw [decide_eq_false hk,Bool.false_and]
theorem vB_sim {t:T} (hok:okT t=true):vB (simT t)=vdT t:=by
 cases h:vdT t with
 | true=>rw [sim_void h];rfl
 | false=>exact vB_ln (sim_ln t hok h)
mutual
theorem flat_okT (k:Int):∀ p:T,okT p=true→∀ u∈flatT k p,okT u=true
 | .node k' C lo hi ps,h=>fun u hu=>by
  rw [flatT] at hu
  split at hu
  ·exact flats_okT k ps (ok_parts h) u hu
  ·rw [List.mem_singleton.1 hu];exact h
theorem flats_okT (k:Int):∀ ps:List T,oksT ps=true→∀ u∈flatsT k ps,okT u=true
 | [],_=>fun u hu=>by rw [flatsT] at hu;cases hu
 | p :: ps,h=>fun u hu=>by
  rw [oksT,Bool.and_eq_true] at h
  rw [flatsT] at hu
  rcases List.mem_append.1 hu with hu | hu
  ·exact flat_okT k p h.1 u hu
  ·exact flats_okT k ps h.2 u hu
end
def resT (t:T):T×Bool:=(simT t,nuT t)
def rowP (rs:List (T×Bool)):T×Bool :=
 match rs.find? fun r=>vB r.1 with
 | some r=>r
 | none=>(oneOf 2 (spreadT 2 ((rs.map Prod.fst).filter fun s=>decide (s.kind≠0))),rs.all Prod.snd)
theorem spread_filter {l:List T} (h:∀ u∈l,SmT u):spreadT 2 (l.filter fun s=>decide (s.kind≠0))=gT l:=by
 induction l with
 | nil=>rfl
 | cons t l ih =>
  have ih:=ih fun u hu=>h u (List.mem_cons_of_mem _ hu)
  rw [show t :: l=[t] ++ l from rfl,g_append,← ih,List.filter_append,spread_append]
  congr 1
  by_cases h0:t.kind=0
  ·rw [g_nothing h0,List.filter_cons_of_neg (by simpa using h0)]
   rfl
  ·rw [List.filter_cons_of_pos (by simpa using h0),List.filter_nil,gT,spreadT,spreadT,List.append_nil]
   split
   ·rename_i hk
    exact (List.filter_eq_self.2 fun x hx=>by have:=((h t List.mem_cons_self).two hk x hx).1;simpa using this).symm
   ·rw [List.filter_cons_of_pos (by simpa using h0),List.filter_nil]
theorem row_sim {t:V} (hok:okF t) (hk:t.kind=2):rowP ((flatsV 2 t.ps).map fun u=>resT (erase u))=resT (erase t):=by
 have hks:∀ p∈t.ps,okF p:=fun p hp=>hok.part hp
 have hvv:(flatsV 2 t.ps).any vdV=vdV t:=by
  rw [flats_any 2 vdV (vd_melt_any (.inl rfl)) t.ps hks,vd_eq,if_neg (by omega),if_pos hk]
 have hnn:(flatsV 2 t.ps).all nuV=nuV t:=by
  rw [flats_all 2 nuV nu_melt_all t.ps hks,nu_eq,if_neg (by omega),if_pos hk]
 cases t with
 | node k C lo hi v ps =>
  have hk':k=2:=hk
  have hok':okT (.node k C lo hi (erases ps))=true:=by have h:=hok;unfold okF at h;rw [erase] at h;exact h
  have hoks:=ok_parts hok'
  have hfo:∀ u∈flatsV 2 ps,okT (erase u)=true:=fun u hu=>by
   refine flats_okT 2 _ hoks _ ?_
   rw [← flats_erase,erases_map]
   exact List.mem_map_of_mem hu
  show rowP ((flatsV 2 ps).map fun u=>resT (erase u))=resT (erase (.node k C lo hi v ps))
  unfold rowP
  cases hf:((flatsV 2 ps).map fun u=>resT (erase u)).find? fun r=>vB r.1 with
  | some r =>
   obtain ⟨u,hu,hr⟩:=List.mem_map.1 (List.mem_of_find?_eq_some hf)
   have hb:vB r.1=true:=by simpa using List.find?_some hf
   rw [← hr] at hb
   have hvu:vdT (erase u)=true:=by rw [← vB_sim (hfo u hu)];exact hb
   have hvt:vdV (.node k C lo hi v ps)=true:=by rw [← hvv];exact List.any_eq_true.2 ⟨u,hu,hvu⟩
   have hvt':vdT (erase (.node k C lo hi v ps))=true:=hvt
   show r=resT _
   rw [← hr,resT,resT,sim_void hvu,sim_void hvt',void_nu _ (hfo u hu) hvu,void_nu _ hok hvt']
  | none =>
   have hno:∀ u∈flatsV 2 ps,vdT (erase u)=false:=fun u hu=>by
    have:=List.find?_eq_none.1 hf _ (List.mem_map_of_mem hu)
    rw [← vB_sim (hfo u hu)]
    have h3:vB (resT (erase u)).1=false:=by simpa using this
    exact h3
   have hvt:vdT (erase (.node k C lo hi v ps))=false:=by
    have:vdV (.node k C lo hi v ps)=false:=by
     rw [← hvv,← Bool.not_eq_true,List.any_eq_true]
     rintro ⟨u,hu,h⟩
     have h2:vdT (erase u)=true:=h
     rw [hno u hu] at h2
     cases h2
    exact this
   have hvs:∀ p∈erases ps,vdT p=false:=by
    have h:=hvt
    rw [erase,vdT,if_neg (by omega),if_pos hk'] at h
    exact vdAny_no.1 h
   have e1:(((flatsV 2 ps).map fun u=>resT (erase u)).map Prod.fst)=simsT (flatsT 2 (erases ps)):=by
    rw [List.map_map,← flats_erase,sims_map,erases_map,List.map_map]
    rfl
   have e2:((flatsV 2 ps).map fun u=>resT (erase u)).all Prod.snd=nuT (erase (.node k C lo hi v ps)):=by
    rw [List.all_map]
    exact hnn
   show (oneOf 2 (spreadT 2 ((((flatsV 2 ps).map fun u=>resT (erase u)).map Prod.fst).filter fun s=>decide (s.kind≠0))),((flatsV 2 ps).map fun u=>resT (erase u)).all Prod.snd)=_
   rw [e1,e2,spread_filter (fun u hu=>by
    rw [sims_map] at hu
    obtain ⟨x,hx,rfl⟩:=List.mem_map.1 hu
    exact sim_sm x (flats_okT 2 _ hoks x hx)),g_flats _ hoks hvs,resT]
   rw [erase,simT,if_neg (by rw [erase] at hvt;rw [hvt];decide),if_neg (by omega),if_neg (by omega),hk',left_g]
end Go.Proofs.YtbohmcfplgdlpaaDoor

/- What the program makes of the result of what is repeated: a plain function, and that it gives the document's simple tree.
   Conditions: the trees are formed. -/
namespace Go.Proofs.YtbohmcfplgdlpaaDoor
open Go.RowKit
def timesP (r:T×Bool) (lo hi:Int):T×Bool :=
 if vB r.1=true∧0<lo∨lo=1∧hi=1 then r
 else if vB r.1=true∨r.1.kind=0∨hi=0 then (noT,true)
 else (.node 4 zeros (if r.2 then 0 else lo) hi [r.1],decide ((if r.2 then 0 else lo)=0))
theorem times_one {lo hi:Int} {C:Nat→Nat} {p:T} (hok:okT (.node 4 C lo hi [p])=true):timesP (resT p) lo hi=resT (.node 4 C lo hi [p]):=by
 have hp:okT p=true:=oks_mem (ok_parts hok) p (by simp)
 have ha:=of_decide_eq_true (ok_kind hok)
 have h5:=((ha.resolve_left (fun h=>by omega)).resolve_left (fun h=>by omega)).resolve_left (fun h=>by omega)
 obtain ⟨b1,b2,b3⟩:=of_decide_eq_true h5.2.2.2
 have ev:vdT (.node 4 C lo hi [p])=(decide (0<lo) && vdT p):=by rw [vdT,vdAny,vdAny];simp
 have en:nuT (.node 4 C lo hi [p])=(decide (lo=0) || nuT p):=by rw [nuT,nuAny,nuAny];simp
 unfold timesP
 rw [show (resT p).1=simT p from rfl,show (resT p).2=nuT p from rfl,vB_sim hp]
 cases hv:vdT p with
 | true =>
  by_cases h0:0<lo
  ·rw [if_pos (.inl ⟨rfl,h0⟩)]
   have hvt:vdT (.node 4 C lo hi [p])=true:=by rw [ev,hv,decide_eq_true h0];rfl
   rw [resT,resT,sim_void hv,sim_void hvt,void_nu p hp hv,void_nu _ hok hvt]
  ·rw [if_neg (by rintro (⟨_,h⟩ | ⟨h,_⟩) <;> omega),if_pos (.inl rfl)]
   have h1:lo=0:=by omega
   rw [resT,en,simT,if_neg (by rw [ev,hv,decide_eq_false h0];decide),if_neg (by decide),if_pos rfl,simsT,simsT,h1]
   show (noT,true)=(rep4 0 hi (simT p),_)
   rw [sim_void hv,rep_void vd_empty]
   rfl
 | false =>
  have hvt:vdT (.node 4 C lo hi [p])=false:=by rw [ev,hv,Bool.and_false]
  have hs:=ln_vd (sim_ln p hp hv)
  by_cases h11:lo=1∧hi=1
  ·rw [if_pos (.inr h11),resT,resT,en]
   obtain ⟨rfl,rfl⟩:=h11
   rw [sim_once hok]
   simp
  ·rw [if_neg (by rintro (⟨h,_⟩ | h);cases h;exact h11 h)]
   have es:simT (.node 4 C lo hi [p])=rep4 lo hi (simT p):=by
    rw [simT,if_neg (by rw [hvt];decide),if_neg (by decide),if_pos rfl,simsT,simsT]
   by_cases h0:(simT p).kind=0∨hi=0
   ·rw [if_pos (.inr h0),resT,en,es]
    have e1:rep4 lo hi (simT p)=noT:=by
     unfold rep4
     exact if_pos (by rcases h0 with h | h;exact .inr (.inl h);exact .inl h)
    rw [e1]
    rcases h0 with h | h
    ·rw [← sim_nu p hp hv,nu_nothing h,Bool.or_true]
    ·rw [decide_eq_true (by omega),Bool.true_or]
   ·rw [if_neg (by rintro (h | h | h);cases h;exact h0 (.inl h);exact h0 (.inr h)),resT,en,es]
    have e1:rep4 lo hi (simT p)=.node 4 zeros (if nuT p then 0 else lo) hi [simT p]:=by
     unfold rep4
     rw [if_neg (by rintro (h | h | h);exact h0 (.inr h);exact h0 (.inl h);rw [hs] at h;cases h),if_neg h11,sim_nu p hp hv]
    rw [e1]
    cases nuT p <;> simp
theorem times_sim {t:V} (hok:okF t) (hk:t.kind=4):∃ q,flatsV 4 t.ps=[q]∧timesP (resT (erase q)) t.lo t.hi=resT (erase t):=by
 have hks:∀ p∈t.ps,okF p:=fun p hp=>hok.part hp
 obtain ⟨p,hp⟩:=hok.four hk
 have hlen:=flats_four t.ps hks
 rw [hp] at hlen
 obtain ⟨q,hq⟩:=List.length_eq_one_iff.1 hlen
 have hn:=flats_any 4 nuV (nu_melt_any (.inr rfl)) t.ps hks
 rw [hp,hq] at hn
 simp at hn
 cases t with
 | node k C lo hi v ps =>
  have hk':k=4:=hk
  have hp':ps=[p]:=hp
  subst hk' hp'
  have hok':okT (.node 4 C lo hi [erase p])=true:=by have h:=hok;unfold okF at h;rw [erase,erases,erases] at h;exact h
  have hf:=f_flats [erase p] (ok_parts hok')
  have e0:flatsT 4 [erase p]=[erase q]:=by
   have:=flats_erase 4 [p]
   rw [hq,erases,erases,erases,erases] at this
   exact this.symm
  rw [e0,simsT,simsT,simsT,simsT] at hf
  have e1:simT (erase q)=simT (erase p):=by injection hf
  refine ⟨q,hq,?_⟩
  have e2:resT (erase q)=resT (erase p):=by rw [resT,resT,e1];exact congrArg _ hn
  show timesP (resT (erase q)) lo hi=resT (erase (.node 4 C lo hi v [p]))
  rw [e2,times_one hok',erase,erases,erases]
end Go.Proofs.YtbohmcfplgdlpaaDoor

/- What the program makes of the results of alternatives: a plain function, and that it gives the document's simple tree.
   Conditions: the trees are formed. -/
namespace Go.Proofs.YtbohmcfplgdlpaaDoor
open Go.RowKit
def altsP (rs:List (T×Bool)):List T:=spreadT 3 ((rs.map Prod.fst).filter fun s=>!vB s)
def eitherP (rs:List (T×Bool)):T×Bool :=
 match altsP rs,rs with
 | [],r :: _=>r
 | [],[]=>(noT,false)
 | l,_=>(oneOf 3 (leftT 3 [] l),rs.any Prod.snd)
theorem left_filter {us:List T} (h:∀ u∈us,vB u=true→u=emptyT):∀ l,leftT 3 l (spreadT 3 (us.filter fun s=>!vB s))=leftT 3 l (spreadT 3 us):=by
 induction us with
 | nil=>intro l;rfl
 | cons t us ih =>
  intro l
  have ih:=ih fun u hu=>h u (List.mem_cons_of_mem _ hu)
  cases hv:vB t with
  | true =>
   rw [List.filter_cons_of_neg (by rw [hv];decide),ih,spreadT,left_append]
   have e:=h t List.mem_cons_self hv
   rw [e,if_neg (show ¬ (emptyT.kind=3) from by decide)]
   rw [show leftT 3 l [emptyT]=l from left_voids [emptyT] l fun u hu=>by rw [List.mem_singleton.1 hu];exact vd_empty]
  | false=>rw [List.filter_cons_of_pos (by rw [hv];decide),spreadT,spreadT,left_append,left_append,ih]
theorem either_sim {t:V} (hok:okF t) (hk:t.kind=3) (hne:flatsV 3 t.ps≠[]):eitherP ((flatsV 3 t.ps).map fun u=>resT (erase u))=resT (erase t):=by
 have hks:∀ p∈t.ps,okF p:=fun p hp=>hok.part hp
 have hvv:(flatsV 3 t.ps).all vdV=vdV t:=by
  rw [flats_all 3 vdV vd_melt_all t.ps hks,vd_eq,if_neg (by omega),if_neg (by omega),if_pos hk]
 have hnn:(flatsV 3 t.ps).any nuV=nuV t:=by
  rw [flats_any 3 nuV (nu_melt_any (.inl rfl)) t.ps hks,nu_eq,if_neg (by omega),if_neg (by omega),if_pos hk]
 cases t with
 | node k C lo hi v ps =>
  have hk':k=3:=hk
  subst hk'
  have hok':okT (.node 3 C lo hi (erases ps))=true:=by have h:=hok;unfold okF at h;rw [erase] at h;exact h
  have hoks:=ok_parts hok'
  have hfo:∀ u∈flatsV 3 ps,okT (erase u)=true:=fun u hu=>by
   refine flats_okT 3 _ hoks _ ?_
   rw [← flats_erase,erases_map]
   exact List.mem_map_of_mem hu
  have e1:(((flatsV 3 ps).map fun u=>resT (erase u)).map Prod.fst)=simsT (flatsT 3 (erases ps)):=by
   rw [List.map_map,← flats_erase,sims_map,erases_map,List.map_map]
   rfl
  have e2:((flatsV 3 ps).map fun u=>resT (erase u)).any Prod.snd=nuT (erase (.node 3 C lo hi v ps)):=by
   rw [List.any_map]
   exact hnn
  have hall:∀ s∈simsT (flatsT 3 (erases ps)),vB s=true→s=emptyT:=fun s hs hb=>by
   rw [sims_map] at hs
   obtain ⟨x,hx,rfl⟩:=List.mem_map.1 hs
   rw [vB_sim (flats_okT 3 _ hoks x hx)] at hb
   exact sim_void hb
  have el:leftT 3 [] (altsP ((flatsV 3 ps).map fun u=>resT (erase u)))=leftT 3 [] (spreadT 3 (simsT (erases ps))):=by
   unfold altsP
   rw [e1,left_filter hall,h_flats _ hoks]
  show eitherP ((flatsV 3 ps).map fun u=>resT (erase u))=resT (erase (.node 3 C lo hi v ps))
  cases hvt:vdT (erase (.node 3 C lo hi v ps)) with
  | true =>
   have hva:∀ u∈flatsV 3 ps,vdT (erase u)=true:=fun u hu=>by
    have h:(flatsV 3 ps).all vdV=true:=hvv.trans hvt
    exact List.all_eq_true.1 h u hu
   have ea:altsP ((flatsV 3 ps).map fun u=>resT (erase u))=[]:=by
    unfold altsP
    rw [List.filter_eq_nil_iff.2 fun s hs=>?_]
    ·rfl
    ·rw [List.map_map] at hs
     obtain ⟨u,hu,rfl⟩:=List.mem_map.1 hs
     have:vB (simT (erase u))=true:=by rw [vB_sim (hfo u hu)];exact hva u hu
     show ¬ (!vB (simT (erase u)))=true
     rw [this]
     decide
   have hne':flatsV 3 ps≠[]:=hne
   unfold eitherP
   rw [ea]
   cases hl:flatsV 3 ps with
   | nil=>exact absurd hl hne'
   | cons u us =>
    have hu:u∈flatsV 3 ps:=by rw [hl];simp
    show resT (erase u)=_
    rw [resT,resT,sim_void (hva u hu),sim_void hvt,void_nu _ (hfo u hu) (hva u hu),void_nu _ hok hvt]
  | false =>
   have hne2:altsP ((flatsV 3 ps).map fun u=>resT (erase u))≠[]:=by
    have h:(flatsV 3 ps).all vdV=false:=hvv.trans hvt
    obtain ⟨u,hu,hn⟩:=List.all_eq_false.1 h
    have hn2:vdV u=false:=by simpa using hn
    have hn':vdT (erase u)=false:=hn2
    have hm:simT (erase u)∈((((flatsV 3 ps).map fun u=>resT (erase u)).map Prod.fst).filter fun s=>!vB s):=by
     refine List.mem_filter.2 ⟨?_,by rw [vB_sim (hfo u hu),hn'];rfl⟩
     rw [List.map_map]
     exact List.mem_map.2 ⟨u,hu,rfl⟩
    obtain ⟨x,hx,_⟩:=spread_some hm (ln_vd (sim_ln _ (hfo u hu) hn'))
    intro e
    have:x∈altsP ((flatsV 3 ps).map fun u=>resT (erase u)):=hx
    rw [e] at this
    cases this
   have es:simT (erase (.node 3 C lo hi v ps))=oneOf 3 (leftT 3 [] (spreadT 3 (simsT (erases ps)))):=by
    rw [erase] at hvt ⊢
    rw [simT,if_neg (by rw [hvt];decide),if_neg (by decide),if_neg (by decide)]
   have e3:eitherP ((flatsV 3 ps).map fun u=>resT (erase u))=(oneOf 3 (leftT 3 [] (altsP ((flatsV 3 ps).map fun u=>resT (erase u)))),((flatsV 3 ps).map fun u=>resT (erase u)).any Prod.snd):=by
    unfold eitherP
    cases ha:altsP ((flatsV 3 ps).map fun u=>resT (erase u)) with
    | nil=>exact absurd ha hne2
    | cons x xs=>rfl
   rw [e3,el,e2,resT,es]
end Go.Proofs.YtbohmcfplgdlpaaDoor

/- What a simple tree is like, more: its sets are washed, its nodes formed; it is no greater: plain facts.
   Conditions: the trees are formed. -/
namespace Go.Proofs.YtbohmcfplgdlpaaDoor
open Go.RowKit
inductive WsT:T→Prop
 | mk (k:Int) (C:Nat→Nat) (lo hi:Int) (ps:List T) (hC:wash C=C) (hk:okA k (z4 C) lo hi ps.length=true) (hp:∀ p∈ps,WsT p):WsT (.node k C lo hi ps)
theorem WsT.part {t:T} (h:WsT t):∀ p∈t.ps,WsT p:=by
 cases h with
 | mk k C lo hi ps _ _ hp=>exact hp
theorem wash_wash (C:Nat→Nat):wash (wash C)=wash C:=by
 funext i
 unfold wash
 split <;> rfl
theorem wash_zeros:wash zeros=zeros:=by
 funext i
 unfold wash
 split <;> rfl
theorem ws_none:WsT noT:=.mk _ _ _ _ _ wash_zeros (by decide) fun p hp=>by cases hp
theorem ws_empty:WsT emptyT:=.mk _ _ _ _ _ wash_zeros (by decide) fun p hp=>by cases hp
theorem ws_one {k:Int} (hk:k=2∨k=3):∀ {l:List T},(∀ t∈l,WsT t)→WsT (oneOf k l)
 | [],_=>ws_none
 | [t],h=>h t (by simp)
 | t :: u :: ts,h=>.mk _ _ _ _ _ wash_zeros (decide_eq_true (.inr (.inr (.inl ⟨hk,by decide,rfl,rfl,by simp⟩)))) h
theorem ws_rep {lo hi:Int} {s:T} (hb:bnd lo hi=true) (h:WsT s):WsT (rep4 lo hi s):=by
 unfold rep4
 split
 ·exact ws_none
 ·split
  ·exact h
  ·refine .mk _ _ _ _ _ wash_zeros (decide_eq_true (.inr (.inr (.inr ⟨rfl,by decide,rfl,?_⟩)))) fun p hp=>by rw [List.mem_singleton.1 hp];exact h
   have hb:=of_decide_eq_true hb
   split
   ·exact decide_eq_true (by omega)
   ·exact decide_eq_true hb
mutual
theorem sim_ws:∀ t:T,okT t=true→WsT (simT t)
 | .node k C lo hi ps,hok=>by
  have hs:=sims_ws ps (ok_parts hok)
  have hk:=ok_kind hok
  have ha:=of_decide_eq_true hk
  rw [simT]
  split
  ·exact ws_empty
  ·split
   ·refine .mk _ _ _ _ _ (wash_wash C) (by rw [wash_z4];exact hk) ?_
    have h0:ps.length=0:=by
     rcases ha with h | h | h | h <;> omega
    rw [List.length_eq_zero_iff.1 h0]
    exact fun p hp=>by cases hp
   ·split
    ·cases hl:simsT ps with
     | nil=>exact ws_none
     | cons s l =>
      refine ws_rep ?_ (hs s (by rw [hl];simp))
      rcases ha with h | h | h | h
      ·omega
      ·omega
      ·omega
      ·exact h.2.2.2
    ·have hk2:k=2∨k=3:=by
      rcases ha with h | h | h | h
      ·omega
      ·omega
      ·exact h.1
      ·omega
     refine ws_one hk2 fun u hu=>left_all (P:=WsT) _ _ (by simp) (fun x hx=>?_) u hu
     rcases spread_mem hx with ⟨v,hv,_,h2⟩ | ⟨h1,_⟩
     ·exact (hs v hv).part x h2
     ·exact hs x h1
theorem sims_ws:∀ ts:List T,oksT ts=true→∀ u∈simsT ts,WsT u
 | [],_,u,hu=>by rw [simsT] at hu;cases hu
 | t :: ts,h,u,hu=>by
  rw [oksT,Bool.and_eq_true] at h
  rw [simsT] at hu
  rcases List.mem_cons.1 hu with e | hu
  ·rw [e];exact sim_ws t h.1
  ·exact sims_ws ts h.2 u hu
end
theorem WsT.ne {t:T} (h:WsT t) (hk:t.kind=2∨t.kind=3):t.ps≠[]:=by
 cases h with
 | mk k C lo hi ps hC ha hp =>
  have ha:=of_decide_eq_true ha
  have hk':k=2∨k=3:=hk
  intro e
  have e':ps=[]:=e
  rw [e'] at ha
  rcases ha with h | h | h | h
  ·omega
  ·omega
  ·have:=h.2.2.2.2;simp at this
  ·omega
mutual
theorem WsT.ok:∀ {t:T},WsT t→okT t=true
 | .node _ _ _ _ ps,h=>by
  cases h with
  | mk _ _ _ _ _ hC hk hp=>rw [okT,hk,Bool.true_and];exact wss_ok ps hp
theorem wss_ok:∀ ts:List T,(∀ p∈ts,WsT p)→oksT ts=true
 | [],_=>rfl
 | t :: ts,h=>by rw [oksT,WsT.ok (h t (by simp)),wss_ok ts fun p hp=>h p (List.mem_cons_of_mem _ hp)];rfl
end
theorem eq4_wash {A B:Nat→Nat} (hA:wash A=A) (hB:wash B=B) (h:eq4 A B=true):A=B:=by
 obtain ⟨h0,h1,h2,h3⟩:=of_decide_eq_true h
 rw [← hA,← hB]
 funext i
 unfold wash
 split
 ·match i with
  | 0=>exact h0
  | 1=>exact h1
  | 2=>exact h2
  | 3=>exact h3
  | i+4=>omega
 ·rfl
mutual
theorem like_eq:∀ {a b:T},WsT a→WsT b→likeT a b=true→a=b
 | .node k C lo hi ps,.node k' C' lo' hi' qs,ha,hb,h=>by
  cases ha with
  | mk _ _ _ _ _ hC _ hp =>
   cases hb with
   | mk _ _ _ _ _ hC' _ hq =>
    rw [likeT,Bool.and_eq_true] at h
    obtain ⟨h1,h2⟩:=h
    obtain ⟨rfl,h4,rfl,rfl,hl⟩:=of_decide_eq_true h1
    rw [eq4_wash hC hC' h4,likes_eq hl hp hq h2]
theorem likes_eq:∀ {xs ys:List T},xs.length=ys.length→(∀ p∈xs,WsT p)→(∀ p∈ys,WsT p)→likesT xs ys=true→xs=ys
 | [],[],_,_,_,_=>rfl
 | x :: xs,y :: ys,hl,hx,hy,h=>by
  rw [likesT,Bool.and_eq_true] at h
  rw [like_eq (hx x (by simp)) (hy y (by simp)) h.1,likes_eq (by simpa using hl) (fun p hp=>hx p (List.mem_cons_of_mem _ hp)) (fun p hp=>hy p (List.mem_cons_of_mem _ hp)) h.2]
 | [],_ :: _,hl,_,_,_=>by simp at hl
 | _ :: _,[],hl,_,_,_=>by simp at hl
end
theorem szw_append (a b:List T):szsT (a ++ b)=szsT a+szsT b:=by
 induction a with
 | nil=>rw [szsT,List.nil_append];omega
 | cons t a ih=>rw [List.cons_append,szsT,szsT,ih];omega
theorem sz_mem' {l:List T} {t:T} (h:t∈l):szT t≤szsT l:=by
 induction l with
 | nil=>cases h
 | cons u l ih =>
  rw [szsT]
  rcases List.mem_cons.1 h with rfl | h
  ·omega
  ·have:=ih h;omega
theorem sz_spread (k:Int) (l:List T):szsT (spreadT k l)≤szsT l:=by
 induction l with
 | nil=>rw [spreadT];exact Nat.le_refl _
 | cons t l ih =>
  rw [spreadT,szw_append,szsT]
  have:szsT (if t.kind=k then t.ps else [t])≤szT t:=by
   split
   ·cases t with
    | node k' C lo hi ps=>rw [szT];show szsT ps≤_;omega
   ·rw [szsT,szsT];omega
  omega
theorem sz_left (k:Int):∀ (a l:List T),szsT (leftT k l a)≤szsT l+szsT a
 | [],l=>by rw [leftT,szsT];omega
 | t :: a,l=>by
  rw [leftT,szsT]
  refine Nat.le_trans (sz_left k a _) ?_
  split
  ·omega
  ·rw [szw_append,szsT,szsT];omega
theorem sz_one (k:Int):∀ l:List T,szT (oneOf k l)≤szsT l+1
 | []=>by rw [oneOf,szT,szsT];omega
 | [t]=>by rw [oneOf,szsT,szsT];omega
 | t :: u :: ts=>by rw [oneOf,szT];omega
theorem szw_rep (lo hi:Int) (s:T):szT (rep4 lo hi s)≤szT s+1:=by
 unfold rep4
 split
 ·rw [szT,szsT];omega
 ·split
  ·omega
  ·rw [szT,szsT,szsT];omega
mutual
theorem sim_sz:∀ t:T,szT (simT t)≤szT t
 | .node k C lo hi ps=>by
  have hs:=sims_sz ps
  have h1:szT (.node k C lo hi ps)=szsT ps+1:=by rw [szT]
  rw [simT]
  split
  ·rw [show szT emptyT=1 from rfl];omega
  ·split
   ·rw [szT,h1];omega
   ·split
    ·cases hl:simsT ps with
     | nil=>rw [show szT noT=1 from rfl];omega
     | cons s l =>
      have h2:=szw_rep lo hi s
      rw [hl,szsT] at hs
      show szT (rep4 lo hi s)≤_
      omega
    ·have h2:=sz_one k (leftT k [] (spreadT k (simsT ps)))
     have h3:=sz_left k (spreadT k (simsT ps)) []
     have h4:=sz_spread k (simsT ps)
     rw [show szsT []=0 from rfl] at h3
     omega
theorem sims_sz:∀ ts:List T,szsT (simsT ts)≤szsT ts
 | []=>by rw [simsT];exact Nat.le_refl _
 | t :: ts=>by
  rw [simsT,szsT,szsT]
  have:=sim_sz t
  have:=sims_sz ts
  omega
end
def GoodT (s:T):Prop:=∃ p,okT p=true∧s=simT p
theorem GoodT.ws {s:T} (h:GoodT s):WsT s:=by
 obtain ⟨p,hp,rfl⟩:=h
 exact sim_ws p hp
theorem GoodT.ln {s:T} (h:GoodT s) (hv:vB s=false):lnT s=true:=by
 obtain ⟨p,hp,rfl⟩:=h
 rw [vB_sim hp] at hv
 exact sim_ln p hp hv
theorem alts_good {rs:List (T×Bool)} (h:∀ r∈rs,GoodT r.1):∀ x∈altsP rs,WsT x∧vdT x=false∧∃ r∈rs,szT x≤szT r.1:=fun x hx=>by
 have hm:∀ u∈(rs.map Prod.fst).filter (fun s=>!vB s),∃ r∈rs,r.1=u∧vB u=false:=fun u hu=>by
  obtain ⟨h1,h2⟩:=List.mem_filter.1 hu
  obtain ⟨r,hr,rfl⟩:=List.mem_map.1 h1
  exact ⟨r,hr,rfl,by simpa using h2⟩
 rcases spread_mem hx with ⟨u,hu,_,h2⟩ | ⟨h1,_⟩
 ·obtain ⟨r,hr,rfl,hv⟩:=hm u hu
  refine ⟨(h r hr).ws.part x h2,ln_vd (ln_ps ((h r hr).ln hv) x h2),r,hr,?_⟩
  have:=sz_mem' h2
  cases hr1:r.1 with
  | node k C lo hi ps=>rw [hr1] at this;rw [szT];have h5:szsT (T.node k C lo hi ps).ps=szsT ps:=rfl;omega
 ·obtain ⟨r,hr,rfl,hv⟩:=hm x h1
  exact ⟨(h r hr).ws,ln_vd ((h r hr).ln hv),r,hr,Nat.le_refl _⟩
end Go.Proofs.YtbohmcfplgdlpaaDoor

/- What a simple tree is like, more: what is repeated is so at most not 0 times, and not just once: plain facts.
   Conditions: the trees are formed. -/
namespace Go.Proofs.YtbohmcfplgdlpaaDoor
open Go.RowKit
inductive RpT:T→Prop
 | mk (k:Int) (C:Nat→Nat) (lo hi:Int) (ps:List T) (h:k=4→hi≠0∧¬ (lo=1∧hi=1)) (hp:∀ p∈ps,RpT p):RpT (.node k C lo hi ps)
theorem RpT.part {t:T} (h:RpT t):∀ p∈t.ps,RpT p:=by
 cases h with
 | mk k C lo hi ps _ hp=>exact hp
theorem RpT.four {t:T} (h:RpT t) (hk:t.kind=4):t.hi≠0∧¬ (t.lo=1∧t.hi=1):=by
 cases h with
 | mk k C lo hi ps h _=>exact h hk
structure Thin (t:T):Prop where
 sm:SmT t
 rp:RpT t
 ln:lnT t=true
 ws:WsT t
theorem Thin.part {t p:T} (h:Thin t) (hp:p∈t.ps):Thin p:=⟨h.sm.part p hp,h.rp.part p hp,ln_ps h.ln p hp,h.ws.part p hp⟩
theorem Thin.four {t p:T} (h:Thin t) (hk:t.kind=4) (hp:p∈t.ps):p.kind≠0∧(nuT p=true→t.lo=0)∧t.hi≠0∧¬ (t.lo=1∧t.hi=1):=by
 have h1:=h.rp.four hk
 have h2:=h.sm
 cases h2 with
 | mk k C lo hi ps _ _ h4 _ =>
  obtain ⟨a,b⟩:=h4 hk p hp
  exact ⟨a,b,h1.1,h1.2⟩
end Go.Proofs.YtbohmcfplgdlpaaDoor
