/- The moves that were met, of each position, in their order (walker.sorted): a contract.
   Conditions: the walker lies in memory, its moves are from positions below the number that is handed in. -/
import Derived.Test.YtbohmcfplgdlpaaDoorPA
import Derived.Test.YtbohmcfplgdlpaaDoorMPt
import Derived.Shelf.SlSortCmp.InsertionK
import Derived.Test.YtbohmcfplgdlpaaDoorOSo
import Derived.Maps.RangeWalk
import Derived.Maps.OwnSet
import Derived.Deep.RegionHeld3
import Derived.Deep.RegionLaw
import Derived.Deep.AppendLies
import Derived.Deep.DeepCutAuto

/- Lists of moves, plain and in memory: their order, the row of lists, what an append and a sort make of it.
   Conditions: those that each theorem states. -/
namespace Go.Proofs.YtbohmcfplgdlpaaDoor
open Go.RowKit Go.Maps Go.Sort
structure Mv where
 tt:Nat
 kp:Nat
 ag:Bool
instance:Inhabited Mv:=⟨⟨0,0,false⟩⟩
def mvc (m:Mv):List Value:=[.int .i64 m.tt,.int .i64 m.kp,.bool m.ag]
def stOf (p:Nat) (m:Mv):St:=⟨p,m.tt,m.kp,m.ag⟩
def mvOf (s:St):Mv:=⟨s.tt,s.kp,s.ag⟩
def cfM (a b:Mv):Int:=ordM a.tt a.kp b.tt b.kp a.ag b.ag
def mvLt (a b:Mv):Prop:=a.tt<b.tt∨a.tt=b.tt∧(a.kp<b.kp∨a.kp=b.kp∧a.ag=false∧b.ag=true)
theorem cfM_lt (a b:Mv):cfM a b<0↔mvLt a b:=by
 obtain ⟨a1,a2,a3⟩:=a
 obtain ⟨b1,b2,b3⟩:=b
 unfold cfM ordM mvLt orI
 simp only
 rcases cmpI_cases (a1:Int) (b1:Int) with ⟨e1,h1⟩ | ⟨e1,h1⟩ | ⟨e1,h1⟩ <;> rcases cmpI_cases (a2:Int) (b2:Int) with ⟨e2,h2⟩ | ⟨e2,h2⟩ | ⟨e2,h2⟩ <;> cases a3 <;> cases b3 <;> rw [e1,e2] <;> simp [agI] <;> omega
theorem ltM (a b:Mv):ltOf cfM a b=true↔mvLt a b:=by
 unfold ltOf
 rw [decide_eq_true_iff]
 exact cfM_lt a b
theorem ltM_false (a b:Mv):ltOf cfM a b=false↔¬ mvLt a b:=by
 rw [← ltM];simp
theorem mvLt_irr (a:Mv):¬ mvLt a a:=by unfold mvLt;rintro (h | ⟨_,h | ⟨_,h1,h2⟩⟩);omega;omega;rw [h1] at h2;cases h2
theorem mvLt_tr {a b c:Mv} (h:mvLt a b) (k:mvLt b c):mvLt a c:=by
 unfold mvLt at *
 obtain ⟨a1,a2,a3⟩:=a
 obtain ⟨b1,b2,b3⟩:=b
 obtain ⟨c1,c2,c3⟩:=c
 simp only at *
 cases a3 <;> cases b3 <;> cases c3 <;> simp at * <;> omega
theorem mvLt_tot {a b:Mv} (h:¬ mvLt a b) (k:¬ mvLt b a):a=b:=by
 unfold mvLt at *
 obtain ⟨a1,a2,a3⟩:=a
 obtain ⟨b1,b2,b3⟩:=b
 simp only at *
 have e1:a1=b1:=by omega
 have e2:a2=b2:=by omega
 subst e1 e2
 cases a3 <;> cases b3 <;> simp at h k ⊢
theorem swoM:SWO (ltOf cfM) where
 irrefl x:=by rw [ltM_false];exact mvLt_irr x
 trans x y z h1 h2:=by rw [ltM] at *;exact mvLt_tr h1 h2
 ntrans x y z h1 h2:=by
  rw [ltM_false] at *
  intro h
  by_cases hyx:mvLt y x
  ·exact h2 (mvLt_tr hyx h)
  ·obtain rfl:=mvLt_tot h1 hyx
   exact h2 h
theorem totM (x y:Mv) (h:ltOf cfM x y=false) (k:ltOf cfM y x=false):x=y:=by
 rw [ltM_false] at *
 exact mvLt_tot h k
def sortM (l:List Mv):List Mv:=l.mergeSort fun x y=>!ltOf cfM y x
theorem sortM_perm (l:List Mv):(sortM l).Perm l:=List.mergeSort_perm _ _
theorem sortM_lt {l:List Mv} (hn:l.Nodup):(sortM l).Pairwise mvLt:=by
 have h1:(sortM l).Pairwise fun x y=>(!ltOf cfM y x)=true:=by
  refine List.pairwise_mergeSort (fun a b c h1 h2=>?_) (fun a b=>?_) l
  ·have h1':ltOf cfM b a=false:=by simpa using h1
   have h2':ltOf cfM c b=false:=by simpa using h2
   simpa using swoM.ntrans c b a h2' h1'
  ·cases h1:ltOf cfM b a with
   | false=>simp
   | true =>
    have:ltOf cfM a b=false:=by
     rw [ltM] at h1
     rw [ltM_false]
     exact fun h=>mvLt_irr _ (mvLt_tr h1 h)
    simp [this]
 have h2:(sortM l).Nodup:=(sortM_perm l).nodup_iff.2 hn
 refine (h1.and h2).imp fun {a b} h=>?_
 obtain ⟨ha,hb⟩:=h
 have ha':ltOf cfM b a=false:=by simpa using ha
 rw [ltM_false] at ha'
 by_cases hab:mvLt a b
 ·exact hab
 ·exact absurd (mvLt_tot hab ha') hb
theorem mvcs_len (l:List Mv):(l.flatMap mvc).length=l.length * 3:=by
 induction l with
 | nil=>rfl
 | cons f l ih=>rw [List.flatMap_cons,List.length_append,ih,List.length_cons];show 3+_=_;omega
def updL (L:Nat→List Mv) (i:Nat) (l:List Mv):Nat→List Mv:=fun j=>if j=i then l else L j
theorem updL_same (L:Nat→List Mv) (i:Nat) (l:List Mv):updL L i l i=l:=if_pos rfl
theorem updL_other (L:Nat→List Mv) {i j:Nat} (l:List Mv) (h:j≠i):updL L i l j=L j:=if_neg h
structure RowsM (w:World) (B n:Nat) (lv:Value) (vs:List Value) (L:Nat→List Mv):Prop where
 own:w.ownsRow B 103 1 lv n vs
 row:∀ i,i<n→∃ v,vs[i]? = some v∧w.ownsRow B 100 3 v (L i).length ((L i).flatMap mvc)
 apart:∀ (i j x:Nat) (v v':Value),vs[i]? = some v→vs[j]? = some v'→v.ownBlock=some x→v'.ownBlock=some x→i=j
variable {w w':World} {B n:Nat} {lv:Value} {vs:List Value} {L:Nat→List Mv}
theorem RowsM.len (h:RowsM w B n lv vs L):vs.length=n:=by have:=h.own.1;omega
theorem RowsM.keep {Q:Nat→Prop} (h:RowsM w B n lv vs L) (hc:Chg Q w w') (hQ:∀ x ty,Q x→B≤x→TyB w x ty→ty≠103∧ty≠100):RowsM w' B n lv vs L:=by
 refine ⟨own_chg h.own hc fun b hb q=>(hQ b _ q (h.own.lt b hb).1 (own_ty h.own hb)).1 rfl,fun i hi=>?_,h.apart⟩
 obtain ⟨v,h1,h2⟩:=h.row i hi
 exact ⟨v,h1,own_chg h2 hc fun b hb q=>(hQ b _ q (h2.lt b hb).1 (own_ty h2 hb)).2 rfl⟩
theorem RowsM.below (h:RowsM w B n lv vs L) (hb:Below w.heap.size w w'):RowsM w' B n lv vs L:=h.keep (Chg.of_below (R:=fun _=>False) hb) fun _ _ q=>q.elim
theorem RowsM.turn {i:Nat} {v:Value} {l:List Mv} (h:RowsM w B n lv vs L) (hi:i<n) (hv:vs[i]? = some v) (hc:Chg (fun x=>v.ownBlock=some x) w w') (hown:w'.ownsRow B 100 3 v l.length (l.flatMap mvc)):RowsM w' B n lv vs (updL L i l):=by
 obtain ⟨v1,hv1,hr1⟩:=h.row i hi
 obtain rfl:=Option.some.inj (hv.symm.trans hv1)
 refine ⟨own_chg h.own hc fun b hb q=>?_,fun j hj=>?_,h.apart⟩
 ·have:=(own_ty h.own hb).eq (own_ty hr1 q);revert this;decide
 ·obtain ⟨v2,hv2,hr2⟩:=h.row j hj
  by_cases e:j=i
  ·subst e
   obtain rfl:=Option.some.inj (hv.symm.trans hv2)
   exact ⟨v,hv,by rw [updL_same];exact hown⟩
  ·exact ⟨v2,hv2,by rw [updL_other L l e];exact own_chg hr2 hc fun b hb q=>e (h.apart j i b v2 v hv2 hv hb q)⟩
theorem RowsM.put {i lb cap:Nat} {v v':Value} {l:List Mv} (h:RowsM w B n (.slice (some ⟨lb,0,none⟩) n cap) vs L) (hi:i<n) (hv:vs[i]? = some v) (hc:Chg (fun x=>v.ownBlock=some x) w w')
  (hown:w'.ownsRow B 100 3 v' l.length (l.flatMap mvc)) (hat:∀ x,v'.ownBlock=some x→v.ownBlock=some x∨w.heap.size≤x) :
  RowsM (w'.setCell ⟨lb,i,none⟩ v') B n (.slice (some ⟨lb,0,none⟩) n cap) (vs.set i v') (updL L i l):=by
 obtain ⟨v1,hv1,hr1⟩:=h.row i hi
 obtain rfl:=Option.some.inj (hv.symm.trans hv1)
 have hlb:=own_ty h.own (x:=lb) rfl
 have hlt:=h.len
 have ho:w'.ownsRow B 103 1 (.slice (some ⟨lb,0,none⟩) n cap) n vs:=own_chg h.own hc fun b hb q=>by
  have:=(own_ty h.own hb).eq (own_ty hr1 q);revert this;decide
 have hlb':=own_ty ho (x:=lb) rfl
 have hch:Chg (fun x=>x=lb) w' (w'.setCell ⟨lb,i,none⟩ v'):=(Chg.refl (fun x=>x=lb) w').setCell (p:=⟨lb,i,none⟩) (fun _=>rfl) _
 have hne:∀ {u:Value} {k:Nat} {xs:List Value},w'.ownsRow B 100 3 u k xs→∀ b,u.ownBlock=some b→b≠lb:=fun {u k xs} hu b hb e=>by
  subst e
  have:=(own_ty hu hb).eq hlb';revert this;decide
 refine ⟨(ho.stored i v').1,fun j hj=>?_,fun a b x u u' hu hu' hx hx'=>?_⟩
 ·by_cases e:j=i
  ·subst e
   exact ⟨v',by rw [List.getElem?_set_self (by omega)],by rw [updL_same];exact own_chg hown hch fun b hb q=>hne hown b hb q⟩
  ·obtain ⟨v2,hv2,hr2⟩:=h.row j hj
   have hr3:=own_chg hr2 hc fun b hb q=>e (h.apart j i b v2 v hv2 hv hb q)
   exact ⟨v2,by rw [List.getElem?_set_ne (fun e'=>e e'.symm)];exact hv2,by rw [updL_other L l e];exact own_chg hr3 hch fun b hb q=>hne hr3 b hb q⟩
 ·have key:∀ (c:Nat) (u:Value),(vs.set i v')[c]? = some u→c≠i→vs[c]? = some u:=fun c u hu hc'=>by rwa [List.getElem?_set_ne (fun e'=>hc' e'.symm)] at hu
  have self:∀ u:Value,(vs.set i v')[i]? = some u→u=v':=fun u hu=>by rw [List.getElem?_set_self (by omega)] at hu;exact (Option.some.inj hu).symm
  have low:∀ (c:Nat) (u:Value) (y:Nat),vs[c]? = some u→u.ownBlock=some y→y<w.heap.size:=fun c u y hu hy=>by
   have hcn:c<n:=by have:=(List.getElem?_eq_some_iff.1 hu).1;omega
   obtain ⟨v2,hv2,hr2⟩:=h.row c hcn
   obtain rfl:=Option.some.inj (hu.symm.trans hv2)
   exact (hr2.lt y hy).2
  by_cases ea:a=i
  ·by_cases eb:b=i
   ·exact ea.trans eb.symm
   ·subst ea
    obtain rfl:=self u hu
    have hb':=key b u' hu' eb
    rcases hat x hx with e | e
    ·exact h.apart a b x v u' hv hb' e hx'
    ·have:=low b u' x hb' hx';omega
  ·by_cases eb:b=i
   ·subst eb
    obtain rfl:=self u' hu'
    have ha':=key a u hu ea
    rcases hat x hx' with e | e
    ·exact h.apart a b x u v ha' hv hx e
    ·have:=low a u x ha' hx;omega
   ·exact h.apart a b x u u' (key a u hu ea) (key b u' hu' eb) hx hx'
end Go.Proofs.YtbohmcfplgdlpaaDoor

/- A row of moves, sorted by slices.SortFunc: a contract.
   Conditions: the row is the call's own, and has fewer than 2 to the power 62 moves. -/
namespace Go.Proofs.YtbohmcfplgdlpaaDoor
open Go.RowKit Go.Maps Go.Sort Go.Shelf
theorem mvc_get:∀ (l:List Mv) (t:Nat),t<l.length * 3→(l.flatMap mvc)[t]? = some (mvc l[t / 3]!)[t % 3]!
 | [],t,h=>by simp at h
 | m :: l,t,h=>by
  rw [List.flatMap_cons]
  by_cases ht:t<3
  ·rw [List.getElem?_append_left (by show t<3;exact ht)]
   have h3:t / 3=0:=by omega
   have h4:t % 3=t:=by omega
   rw [h3,h4]
   have:t=0∨t=1∨t=2:=by omega
   rcases this with rfl | rfl | rfl <;> rfl
  ·rw [List.getElem?_append_right (by show 3≤t;omega)]
   have h3:t / 3=(t - 3) / 3+1:=by omega
   have h4:t % 3=(t - 3) % 3:=by omega
   have h5:=mvc_get l (t - 3) (by simp only [List.length_cons] at h;omega)
   rw [show t - (mvc m).length=t - 3 from rfl,h5,h3,h4]
   simp
theorem flat_mv (l:List Mv) (t:Nat) (h:t<l.length * 3):(l.flatMap mvc)[t]? = some (flatK mvc 3 l.toArray)[t]!:=by
 rw [mvc_get l t h,get_flatK mvc 3 l.toArray t (by simpa using h)]
 simp
theorem holds_mv {w:World} {B g cap:Nat} {l:List Mv} (h:w.ownsRow B 100 3 (.slice (some ⟨g,0,none⟩) l.length cap) l.length (l.flatMap mvc)):HoldsK mvc 3 w g 0 l.toArray:=by
 intro j hj
 have hj':j<l.length * 3:=by simpa using hj
 rw [Nat.zero_add]
 refine ⟨?_,h.frozenAt j⟩
 rw [h.cellAt j hj',flat_mv l j hj']
 rfl
theorem owns_sorted {w:World} {B g cap m:Nat} {l l':List Mv} {os:Array Obj} (h:w.ownsRow B 100 3 (.slice (some ⟨g,0,none⟩) l.length cap) l.length (l.flatMap mvc)) (hl:l'.length=l.length) :
  (sortWorldK mvc 3 w g 0 m l'.toArray os).ownsRow B 100 3 (.slice (some ⟨g,0,none⟩) l.length cap) l'.length (l'.flatMap mvc)∧Chg (fun x=>g=x) w (sortWorldK mvc 3 w g 0 m l'.toArray os):=by
 have hlt:=(h.lt g rfl).2
 rcases h.2 with ⟨e0,_⟩ | ⟨g',cap',cur,e0,hb,hg,hn,hm,hs,ht⟩
 ·cases e0
 ·injection e0 with e1 _ e3
  injection e1 with e1
  injection e1 with e1
  subst e1;subst e3
  have hput:(putRowK mvc 3 (Sort.ahead w m) g 0 l'.toArray).heap[g]? = some (.cells (putCells id 0 (flatK mvc 3 l'.toArray) cur) 100 (0,0)):=by
   simp [putRowK,putRow,mapBlock,Sort.ahead,Array.getElem?_modify,hg,onCells]
  have hsz:(putRowK mvc 3 (Sort.ahead w m) g 0 l'.toArray).heap.size=w.heap.size:=by simp [putRowK,putRow,mapBlock,Sort.ahead]
  have hgr:(sortWorldK mvc 3 w g 0 m l'.toArray os).heap[g]? = some (.cells (putCells id 0 (flatK mvc 3 l'.toArray) cur) 100 (0,0)):=by
   unfold sortWorldK grow
   show ((putRowK mvc 3 (Sort.ahead w m) g 0 l'.toArray).heap ++ os)[g]? = _
   rw [Array.getElem?_append_left (by omega)]
   exact hput
  refine ⟨⟨?_,.inr ⟨g,cap,putCells id 0 (flatK mvc 3 l'.toArray) cur,by rw [hl],hb,hgr,by omega,hm,by simpa [putCells] using hs,?_⟩⟩,?_⟩
  ·rw [mvcs_len]
  ·apply List.ext_getElem?
   intro j
   rw [List.getElem?_take,Array.getElem?_toList]
   by_cases hj:j<l'.length * 3
   ·have hjc:j<cur.size:=by
     have:l.length * 3≤cap * 3:=Nat.mul_le_mul_right 3 hn
     omega
    rw [if_pos hj,flat_mv l' j hj]
    simp only [putCells,Array.getElem?_mapIdx,Array.getElem?_eq_getElem hjc,Option.map_some]
    rw [if_pos (by simp;omega)]
    rfl
   ·rw [if_neg hj,List.getElem?_eq_none (by rw [mvcs_len];omega)]
  ·refine ⟨rfl,rfl,rfl,?_,fun k hk hne=>?_⟩
   ·unfold sortWorldK grow
    show w.heap.size≤((putRowK mvc 3 (Sort.ahead w m) g 0 l'.toArray).heap ++ os).size
    rw [Array.size_append,hsz]
    omega
   ·unfold sortWorldK grow
    show ((putRowK mvc 3 (Sort.ahead w m) g 0 l'.toArray).heap ++ os)[k]? = _
    rw [Array.getElem?_append_left (by omega)]
    simp [putRowK,putRow,mapBlock,Sort.ahead,Array.getElem?_modify,hne]
theorem sort_row (w:World) (B:Nat) (v:Value) (l:List Mv) (h:w.ownsRow B 100 3 v l.length (l.flatMap mvc)) (hl:l.length<4611686018427387904) :
  Calls Tryd.prog 36 #[v,.func (.func 37) #[] #[]] w fun e w'=>e=.returned (.tuple #[])∧w'.ownsRow B 100 3 v (sortM l).length ((sortM l).flatMap mvc)∧Chg (fun x=>v.ownBlock=some x) w w':=by
 have hsl:(sortM l).length=l.length:=(sortM_perm l).length_eq
 cases l with
 | nil =>
  obtain ⟨A,cp,rfl⟩:=own_form h
  refine (AnyF.slices_SortFunc_none Tryd.sortMv A cp (.func (.func 37) #[] #[]) w).mono ?_
  rintro e w' ⟨rfl,rfl⟩
  have e1:sortM []=[]:=List.eq_nil_of_length_eq_zero hsl
  exact ⟨rfl,by rw [e1];exact h,Chg.refl _ _⟩
 | cons m l =>
  obtain ⟨g,cap,rfl⟩:=ownsRow_succ h
  have eg:∀ args w,(callFunc 37 args).run Tryd.prog w=.ok (.enter 37 args) w:=enters_of Tryd.func37 (by kernel_rfl) rfl
  have hcmp:CmpLays Tryd.prog 37 #[] mvc 3 cfM g 0 (m :: l).toArray.size w:=fun q os dk _ x y=>orderM_any x.tt x.kp y.tt y.kp x.ag y.ag _
  refine (AnyQ.slices_SortFunc_total Tryd.sortMv 3 Tryd.isAgg100 Tryd.sizeOf100 mvc (fun _=>rfl) (fun x v hv=>by simp [mvc] at hv;rcases hv with rfl | rfl | rfl <;> rfl) cfM swoM 37 #[] g 0 cap (m :: l).toArray w eg hcmp (holds_mv h) (h.lt g rfl).2 (by simpa using hl) totM).mono ?_
  rintro e w' ⟨rfl,q,os,rfl⟩
  have h1:=owns_sorted (m:=q) (os:=os) h hsl
  exact ⟨rfl,h1.1,h1.2.mono fun x _ e=>by rw [← e];rfl⟩
end Go.Proofs.YtbohmcfplgdlpaaDoor

/- The moves that were met, of each position, in their order (walker.sorted): a contract.
   Conditions: the walker lies in memory, its moves are from positions below the number that is handed in. -/
namespace Go.Proofs.YtbohmcfplgdlpaaDoor
open Go.RowKit Go.Maps Go.Sort Go.Shelf
open Go.WideElems (Fit rd rg pl rd_key rd_val rg_of other_key)
theorem ranges_has {w:World} {b r n cnt:Nat} {D:DataW Unit} {left:Lit→Bool} (h:w.ranges Tryd.prog 102 unitElem b r n D left cnt) {kl:Lit} (hk:left kl=true):Maps.has D kl=true:=by
 obtain ⟨es,clock,since,seen,c0,hb,F,hs,rfl,hr,hold,hc,hl1,hl2,_⟩:=h
 obtain ⟨x,hx,rfl⟩:=hl2 kl hk
 obtain ⟨y,hy⟩:=F.reads x hx
 refine List.any_eq_true.2 ⟨rg Tryd.prog 102 unitElem x,mem_sorted.2 (List.mem_map.2 ⟨x,hx,rfl⟩),WideAt.sameKey_self (by rw [rg_of hy];exact keyedS.key (rd_key hy))⟩
def MetL (D:DataW Unit) (left:Lit→Bool) (n nm cnt:Nat) (L:Nat→List Mv):Prop :=
 ∀ i,i<n→(L i).Nodup∧(L i).length+cnt≤nm∧∀ m,m∈L i↔∃ l,St63 (stOf i m)∧keyOf Tryd.prog 102 (encS (stOf i m))=some l∧Maps.has D l=true∧left l=false
theorem metL_start (D:DataW Unit) (n nm:Nat) (h:Maps.size D≤nm):MetL D (Maps.has D) n nm (Maps.size D) (fun _=>[]):=fun i _ =>
 ⟨List.nodup_nil,by simp;exact h,fun m=>by
  refine ⟨fun h=>by simp at h,?_⟩
  rintro ⟨l,_,_,h1,h2⟩
  rw [h1] at h2;cases h2⟩
theorem metL_step {D:DataW Unit} {left:Lit→Bool} {n nm cnt cnt':Nat} {L:Nat→List Mv} (h:MetL D left n nm cnt L) {s:St} {kl:Lit} (hs:St63 s) (hkl:keyOf Tryd.prog 102 (encS s)=some kl) (hl:left kl=true) (hd:Maps.has D kl=true) (hc:cnt' < cnt) :
  MetL D (fun z=>left z && !z.sameKey kl) n nm cnt' (updL L s.fr (L s.fr ++ [mvOf s])):=fun i hi=>by
 have hK:=keyedS.key hkl
 have hsame:∀ z:Lit,(left z && !z.sameKey kl)=false↔left z=false∨z=kl:=fun z=>by
  by_cases e:z=kl
  ·subst e
   rw [WideAt.sameKey_self hK]
   simp
  ·cases hz:z.sameKey kl with
   | true=>exact absurd (WideAt.sameKey_eq hz) e
   | false=>simp [e]
 obtain ⟨h1,h2,h3⟩:=h i hi
 by_cases e:i=s.fr
 ·subst e
  rw [updL_same]
  have hnot:mvOf s ∉ L s.fr:=fun hm=>by
   obtain ⟨l,_,hl1,_,hl3⟩:=(h3 (mvOf s)).1 hm
   have:l=kl:=Option.some.inj (hl1.symm.trans hkl)
   subst this
   rw [hl] at hl3;cases hl3
  refine ⟨?_,?_,fun m=>?_⟩
  ·rw [List.nodup_append]
   exact ⟨h1,by simp,fun a ha b hb hab=>by rw [List.mem_singleton.1 hb] at hab;subst hab;exact hnot ha⟩
  ·rw [List.length_append];simp;omega
  ·rw [List.mem_append,h3 m,List.mem_singleton]
   constructor
   ·rintro (⟨l,a1,a2,a3,a4⟩ | rfl)
    ·exact ⟨l,a1,a2,a3,(hsame l).2 (.inl a4)⟩
    ·exact ⟨kl,hs,hkl,hd,(hsame kl).2 (.inr rfl)⟩
   ·rintro ⟨l,a1,a2,a3,a4⟩
    rcases (hsame l).1 a4 with a4 | rfl
    ·exact .inl ⟨l,a1,a2,a3,a4⟩
    ·right
     have:=key_st_inj a2 hkl
     rw [← this]
     rfl
 ·rw [updL_other L _ e]
  refine ⟨h1,by omega,fun m=>(h3 m).trans ⟨fun ⟨l,a1,a2,a3,a4⟩=>⟨l,a1,a2,a3,(hsame l).2 (.inl a4)⟩,fun ⟨l,a1,a2,a3,a4⟩=>⟨l,a1,a2,a3,?_⟩⟩⟩
  rcases (hsame l).1 a4 with a4 | rfl
  ·exact a4
  ·have:=key_st_inj a2 hkl
   exact absurd (congrArg St.fr this) e
theorem metL_end {D:DataW Unit} {left:Lit→Bool} {n nm cnt:Nat} {L:Nat→List Mv} {S:St→Prop} (h:MetL D left n nm cnt L) (hl:∀ kl,left kl=false) (hD:StsAre D S):∀ i,i<n→(L i).Nodup∧(L i).length≤nm∧∀ m,m∈L i↔St63 (stOf i m)∧S (stOf i m):=fun i hi=>by
 obtain ⟨h1,h2,h3⟩:=h i hi
 refine ⟨h1,by omega,fun m=>(h3 m).trans ⟨fun ⟨l,a1,a2,a3,_⟩=>⟨a1,(hD.mem _ l a1 a2).1 a3⟩,fun ⟨a1,a2⟩=>?_⟩⟩
 obtain ⟨l,hl'⟩:=key_st _ a1
 exact ⟨l,a1,hl',(hD.mem _ l a1 hl').2 a2,hl l⟩
theorem infoMv:(Tryd.prog.info? 100).map (fun i=>(i.zero,i.size,i.bytes))=some (some (.agg #[.int .i64 0,.int .i64 0,.bool false]),3,24):=by kernel_rfl
theorem infoMvs:(Tryd.prog.info? 103).map (fun i=>(i.zero,i.size,i.bytes))=some (some (.slice none 0 0),1,24):=by kernel_rfl
theorem made_nil (n:Nat):(madeCells (Value.slice none 0 0).cells (n * 1)).toList=List.replicate n (.slice none 0 0):=by
 have h0:(Value.slice none 0 0).cells=#[.slice none 0 0]:=rfl
 rw [h0,Nat.mul_one]
 refine List.eq_replicate_iff.2 ⟨by simp [madeCells],fun b hb=>?_⟩
 unfold madeCells at hb
 simp only [Array.toList_map,List.mem_map] at hb
 obtain ⟨i,_,rfl⟩:=hb
 simp [Nat.mod_one]
theorem RowsM.made {w:World} {B n:Nat} {lv:Value} (h:w.ownsRow B 103 1 lv n (List.replicate n (.slice none 0 0))):RowsM w B n lv (List.replicate n (.slice none 0 0)) (fun _=>[]):=by
 refine ⟨h,fun i hi=>⟨.slice none 0 0,by rw [List.getElem?_replicate,if_pos hi],World.ownsRow_nil _ _ _ _⟩,fun i j x v v' hv _ hx _=>?_⟩
 rw [List.getElem?_replicate] at hv
 split at hv
 ·rw [← Option.some.inj hv] at hx;cases hx
 ·cases hv
theorem ranges_chg {w w':World} {Q:Nat→Prop} {b r n cnt:Nat} {D:DataW Unit} {left:Lit→Bool} (h:w.ranges Tryd.prog 102 unitElem b r n D left cnt) (hc:Chg Q w w') (hQ:∀ x,Q x→∃ ty,TyB w x ty):w'.ranges Tryd.prog 102 unitElem b r n D left cnt:=by
 have h1:=h.owns.lt
 have h2:=h.lt
 obtain ⟨es,clock,since,seen,c0,hb,F,hs,hD,hr,rest⟩:=h
 refine ⟨es,clock,since,seen,c0,(hc.block b h1 fun q=>?_).trans hb,F,hs,hD,(hc.block r h2 fun q=>?_).trans hr,rest⟩
 ·obtain ⟨ty,cs,m,h⟩:=hQ b q
  rw [h] at hb;cases hb
 ·obtain ⟨ty,cs,m,h⟩:=hQ r q
  rw [h] at hr;cases hr
theorem ranges_noty {w:World} {b r n cnt:Nat} {D:DataW Unit} {left:Lit→Bool} (h:w.ranges Tryd.prog 102 unitElem b r n D left cnt):(∀ ty,¬ TyB w b ty)∧∀ ty,¬ TyB w r ty:=by
 obtain ⟨es,clock,since,seen,c0,hb,F,hs,hD,hr,rest⟩:=h
 refine ⟨?_,?_⟩
 ·rintro ty ⟨cs,m,h⟩
  rw [h] at hb;cases hb
 ·rintro ty ⟨cs,m,h⟩
  rw [h] at hr;cases hr
def SrI (w:World) (mb r nm n lb:Nat) (D:DataW Unit) (cnt:Nat) (wr:World):Prop :=
 ∃ left vs L,wr.ranges Tryd.prog 102 unitElem mb r nm D left cnt∧RowsM wr w.heap.size n (.slice (some ⟨lb,0,none⟩) n n) vs L∧MetL D left n nm cnt L∧Below w.heap.size w wr
def SrJ (w:World) (n lb:Nat) (vs:List Value) (L:Nat→List Mv) (k:Nat) (wr:World):Prop :=
 k≤n∧RowsM wr w.heap.size n (.slice (some ⟨lb,0,none⟩) n n) vs (fun i=>if i<k then sortM (L i) else L i)∧Below w.heap.size w wr
theorem sr_step {w wr w3 w4 w5:World} {mb r nm n lb cnt cnt1 fr tt kp ln g5 cap5 vc:Nat} {ag:Bool} {vA:Option Addr} {D:DataW Unit} {left:Lit→Bool} {kl:Lit} {vs:List Value} {L:Nat→List Mv}
  (hrg:wr.ranges Tryd.prog 102 unitElem mb r nm D left cnt) (hM:MetL D left n nm cnt L) (hB:Below w.heap.size w wr) (hr:w.heap.size≤r) (hlt:cnt1<cnt) (hrg3:w3.ranges Tryd.prog 102 unitElem mb r nm D (fun z=>left z && !z.sameKey kl) cnt1)
  (hc3:Chg (fun k=>k=r) wr w3) (hb4:Below w3.heap.size w3 w4) (hR4:RowsM w4 w.heap.size n (.slice (some ⟨lb,0,none⟩) n n) vs L) (hfr:fr<n) (hv:vs[fr]? = some (.slice vA (L fr).length vc)) (hln:ln=(L fr).length)
  (hs:St63 ⟨fr,tt,kp,ag⟩) (hsk:keyOf Tryd.prog 102 (encS ⟨fr,tt,kp,ag⟩)=some kl) (hlk:left kl=true) (hhas:Maps.has D kl=true)
  (hown5:w5.ownsRow w.heap.size 100 3 (.slice (some ⟨g5,0,none⟩) (ln+1) cap5) (ln+1) ((L fr).flatMap mvc ++ [.int .i64 tt,.int .i64 kp,.bool ag])) (hgrow5:(w4.alloc (.cells #[.int .i64 tt,.int .i64 kp,.bool ag] 100)).drew.grownBy w5 (Value.slice vA ln vc).ownBlock)
  (hat5:(Value.slice vA ln vc).ownBlock=some g5∨g5=(w4.alloc (.cells #[.int .i64 tt,.int .i64 kp,.bool ag] 100)).drew.heap.size) :
  (∃ cnt,SrI w mb r nm n lb D cnt (w5.setCell ⟨lb,fr,none⟩ (.slice (some ⟨g5,0,none⟩) (ln+1) cap5)))∧(w5.setCell ⟨lb,fr,none⟩ (.slice (some ⟨g5,0,none⟩) (ln+1) cap5)).rangeLeft mb r<wr.rangeLeft mb r:=by
 subst hln
 obtain ⟨v1,hv1,hrow⟩:=hR4.row fr hfr
 obtain rfl:=Option.some.inj (hv.symm.trans hv1)
 have hc5:Chg (fun x=>(Value.slice vA (L fr).length vc).ownBlock=some x) w4 w5:=(((Chg.refl (fun x=>(Value.slice vA (L fr).length vc).ownBlock=some x) w4).alloc _).drew).grown hgrow5 fun k hk _=>hk
 have hlb:=own_ty hR4.own (x:=lb) rfl
 have hlbz:=(hR4.own.lt lb rfl).1
 have hlb5:TyB w5 lb 103:=hlb.keep (hc5.block lb hlb.lt fun e=>by have:=hlb.eq (own_ty hrow e);revert this;decide)
 have hc6:Chg (fun x=>x=lb) w5 (w5.setCell ⟨lb,fr,none⟩ (.slice (some ⟨g5,0,none⟩) ((L fr).length+1) cap5)):=(Chg.refl (fun x=>x=lb) w5).setCell (p:=⟨lb,fr,none⟩) (fun _=>rfl) _
 have hrg4:=ranges_chg hrg3 (Chg.of_below (R:=fun _=>False) hb4) fun _ q=>q.elim
 have hrg5:=ranges_chg hrg4 hc5 fun x e=>⟨_,own_ty hrow e⟩
 have hrg6:=ranges_chg hrg5 hc6 fun x e=>⟨_,e▸hlb5⟩
 have e1:(L fr).flatMap mvc ++ [.int .i64 tt,.int .i64 kp,.bool ag]=(L fr ++ [mvOf ⟨fr,tt,kp,ag⟩]).flatMap mvc:=by simp [mvc,mvOf]
 have e2:(L fr).length+1=(L fr ++ [mvOf ⟨fr,tt,kp,ag⟩]).length:=by simp
 rw [e1] at hown5
 have hput:=hR4.put hfr hv hc5 (v':=.slice (some ⟨g5,0,none⟩) ((L fr).length+1) cap5) (l:=L fr ++ [mvOf ⟨fr,tt,kp,ag⟩]) (by rw [← e2];exact hown5) fun x hx=>by
  have ex:g5=x:=Option.some.inj hx
  subst ex
  refine hat5.imp id fun e=>?_
  rw [e]
  simp
 refine ⟨⟨cnt1,_,_,_,hrg6,hput,metL_step hM hs hsk hlk hhas hlt,?_⟩,?_⟩
 ·have s1:=hB.size
  have s3:=hc3.size
  have s4:=hb4.size
  have b3:=hB.trans (hc3.below (B:=w.heap.size) s1 fun k hk e=>by omega)
  have b4:=b3.trans (hb4.mono (by omega))
  have b5:=b4.trans (hc5.below (B:=w.heap.size) (by omega) fun k hk e=>by have:=(hrow.lt k e).1;omega)
  exact b5.trans (hc6.below (B:=w.heap.size) (by have:=hc5.size;omega) fun k hk e=>by omega)
 ·rw [hrg6.left_eq,hrg.left_eq]
  exact hlt
set_option maxHeartbeats 8000000 in
set_option maxRecDepth 100000 in
theorem sorted_any (w:World) {wk mb jb at' nm nj:Nat} {S:St→Prop} {T:Jt→Prop} (hW:Wk w wk mb jb at' S T nm nj) (n:Nat) (hn:n≤1000) (hS:∀ s,S s→s.fr<n) (hnm:nm≤2000000000) :
  Calls Tryd.prog 24 #[.pointer (some ⟨wk,0,none⟩),.int .i64 n] w fun e w'=>∃ lb vs L,e=.returned (.slice (some ⟨lb,0,none⟩) n n)∧RowsM w' w.heap.size n (.slice (some ⟨lb,0,none⟩) n n) vs L∧(∀ i,i<n→(L i).Pairwise mvLt∧∀ m,m∈L i↔St63 (stOf i m)∧S (stOf i m))∧Below w.heap.size w w':=by
 obtain ⟨i0,hi,hz0,hz1,hz2⟩:=info_parts infoMv
 obtain ⟨j0,hj,hy0,hy1,hy2⟩:=info_parts infoMvs
 obtain ⟨w1,hmk,hown1,hg1⟩:=run_make_full (P:=Tryd.prog) w w.heap.size 35 103 j0 (.slice none 0 0) 1 Tryd.underlying35 hj hy0 hy1 .i64 .i64 n (by rw [hy2];omega) (by unfold maxLen;omega) (Nat.le_refl _)
 rw [made_nil] at hown1
 obtain ⟨lb,hlb⟩ : ∃ lb,lb=w.heap.size:=⟨_,rfl⟩
 have hmk':(Instr.makeSlice 35 (.int .i64 (n:Int)) (.int .i64 (n:Int))).run Tryd.prog w=.ok (.slice (some ⟨lb,0,none⟩) n n) w1:=by rw [hlb];exact hmk
 rw [← hlb] at hown1
 have hB1:Below lb w w1:=⟨hg1.os,hg1.tape,hg1.output,hg1.size,fun k hk=>hg1.block k (by omega) (by simp)⟩
 have hR1:RowsM w1 lb n (.slice (some ⟨lb,0,none⟩) n n) (List.replicate n (.slice none 0 0)) (fun _=>[]):=RowsM.made hown1
 have hwl:wk<w.heap.size:=(Array.getElem?_eq_some_iff.1 hW.row).1
 have hwl1:wk<w1.heap.size:=by have:=hB1.size;omega
 have c1:w1.cell? ⟨wk,1,none⟩=some (.map (some mb)):=(World.cell?_of_block (w:=w) (hB1.block wk (by omega))).trans ((row_cells hW.row).1 1)
 obtain ⟨D,hD,hDS⟩:=hW.met
 have hml:=hW.met.lt
 have hD1:w1.ownsMap Tryd.prog 102 unitElem mb nm D:=ownsMap_at hD (hB1.block mb (by omega))
 have HD:=Lib.hid (And.intro hD1 (And.intro hDS (And.intro hR1 (And.intro hB1 (And.intro hlb (And.intro hn (And.intro hS (And.intro hnm hD1.size_le))))))))
 clear hmk hown1 hg1 hB1 hR1 hW hD hDS hml hD1 hlb hnm hS hj hy0 hy1 hy2 j0
 have m0:(n:Int)≤1000:=by omega
 have m1:(0:Int)≤(n:Int):=by omega
 clear hn
 go_enter Tryd.func24,Tryd.ntmps24
 go_wp2_with ((at_range;refine wpList_range_own _ rfl _ 89 rfl 102 159 keyedS Tryd.underlying89 unitElem mb nm D rfl HD.out.1 ?_;intro w2 hrg2 hg2 hs2))
 go_frame
 obtain ⟨r,hr⟩ : ∃ r,r=w1.heap.size:=⟨_,rfl⟩
 rw [← hr] at hrg2 ⊢
 have HRR:=Lib.hid (show w.heap.size≤r by have h1:=HD.out.2.2.2.1.size;omega)
 have HST:=Lib.hid (show SrI w mb r nm n lb D (Maps.size D) w2 from ⟨_,_,_,hrg2,by have h:=HD.out.2.2.1;have e:=HD.out.2.2.2.2.1;rw [← e];exact h.below ⟨hg2.os,hg2.tape,hg2.output,hg2.size,fun k hk=>hg2.block k hk (by simp)⟩,metL_start D n nm HD.out.2.2.2.2.2.2.2.2,by
  have h:=HD.out.2.2.2.1
  rw [HD.out.2.2.2.2.1] at h
  exact h.trans ⟨hg2.os,hg2.tape,hg2.output,hg2.size,fun k hk=>hg2.block k (by have:=h.size;omega) (by simp)⟩⟩)
 clear hrg2 hg2 hs2 c1 hmk' hwl1
 go_loopw [6] (fun _ wr=>∃ cnt,SrI w mb r nm n lb D cnt wr) (fun _ wr=>wr.rangeLeft mb r)
 case atStart=>exact ⟨_,HST.out⟩
 case round =>
  clear HST hr
  obtain ⟨cnt,left,vs,L,hrg,hRw,hML,hBw⟩:=hrel
  have HR:=Lib.hid (And.intro hrg (And.intro hRw (And.intro hML hBw)))
  clear hRw hML hBw
  go_wp2_with ((at_next;refine wpList_next_ranges _ rfl _ rfl 102 keyedS unitElem (α:=Value) (β:=Unit) (fun x=>x) (fun _=>.agg #[]) (fun key kl _=>⟨key,rfl⟩) (fun v y h=>⟨(),(unitElem_inv h).1⟩) mb r nm D left cnt rfl hrg ?_ ?_))
  ·intro _ hl0
   have HE:=Lib.hid (metL_end HR.out.2.2.1 hl0 HD.out.2.1)
   have HJ:=Lib.hid (show SrJ w n lb vs L 0 wr from ⟨Nat.zero_le _,by simpa using HR.out.2.1,HR.out.2.2.2⟩)
   clear hrg hl0
   go_wp2_with fail
   go_loopw [35] (fun x wq=>∃ k:Nat,x=.int .i64 k∧SrJ w n lb vs L k wq) (fun x _=>match x with | .int _ z=>n - z.toNat | _=>0)
   case atStart=>exact ⟨0,rfl,HJ.out⟩
   case round =>
    clear HJ
    obtain ⟨k,rfl,hk,hRw,hBw⟩:=hrel
    by_cases hkn:k=n
    ·subst hkn
     have g1:((k:Int)<(k:Int))=False:=by simp
     have HF:=Lib.hid (And.intro hRw hBw)
     clear hRw hBw hk
     go_wp2_with fail
     go_ret
     refine ⟨lb,vs,fun i=>if i<k then sortM (L i) else L i,rfl,HF.out.1,fun i hi=>?_,HF.out.2⟩
     obtain ⟨h1,_,h3⟩:=HE.out i hi
     simp only [if_pos hi]
     exact ⟨sortM_lt h1,fun m=>(sortM_perm (L i)).mem_iff.trans (h3 m)⟩
    ·have g1:(k:Int)<(n:Int):=by omega
     have g0:(0:Int)≤(k:Int):=by omega
     obtain ⟨v,hv,hrow⟩:=hRw.row k (by omega)
     simp only [Nat.lt_irrefl,if_false] at hrow
     have d0:wr.cell? ⟨lb,k,none⟩=some v:=(hRw.own.cellAt k (by omega)).trans hv
     have hlbl:=(hRw.own.lt lb rfl).2
     have HC:=Lib.hid (sort_row wr w.heap.size v (L k) hrow (by have:=(HE.out k (by omega)).2.1;have:=HD.out.2.2.2.2.2.2.2.1;omega))
     have HF:=Lib.hid (And.intro hRw (And.intro hBw (And.intro hv (And.intro hrow (And.intro hk hkn)))))
     obtain ⟨vA,vc,rfl⟩:=own_form hrow
     obtain ⟨ln,hlne⟩ : ∃ ln,ln=(L k).length:=⟨_,rfl⟩
     rw [← hlne] at d0 HC
     have HLN:=Lib.hid hlne
     clear hRw hBw hv hrow hk hkn hlne
     go_wp2_with fail
     go_at_call 36
     refine HC.out.mono ?_
     rintro e w6 ⟨rfl,hown6,hc6⟩
     have HN:=Lib.hid (show SrJ w n lb vs L (k+1) w6 from by
      have hk:k<n:=by have h1:=HF.out.2.2.2.2.1;have h2:=HF.out.2.2.2.2.2;omega
      rw [HLN.out] at hown6 hc6
      have hcc:=hc6
      have h1:=HF.out.1.turn hk HF.out.2.2.1 hcc hown6
      refine ⟨by omega,?_,HF.out.2.1.trans (hcc.below (B:=w.heap.size) HF.out.2.1.size fun x hx e=>by have:=(HF.out.2.2.2.1.lt x e).1;omega)⟩
      have e1:updL (fun i=>if i<k then sortM (L i) else L i) k (sortM (L k))=fun i=>if i<k+1 then sortM (L i) else L i:=by
       funext i
       unfold updL
       by_cases e:i=k
       ·subst e;simp
       ·rw [if_neg e]
        show (if i<k then sortM (L i) else L i)=if i<k+1 then sortM (L i) else L i
        by_cases h:i<k
        ·rw [if_pos h,if_pos (by omega)]
        ·rw [if_neg h,if_neg (by omega)]
      rw [e1] at h1
      exact h1)
     clear hown6 hc6 d0
     go_wp2_with fail
     go_roundw
     case rel=>exact ⟨k+1,by simp,HN.out⟩
     case measure=>dsimp only;omega
  ·intro x kl y1 y2 w3 cnt1 hkey hlk hun hat hrg3 hlt3 hg3 hs3 hen
   have hhas:=ranges_has hrg hlk
   obtain ⟨s,hs63,hsk⟩:=HD.out.2.1.key kl hhas
   obtain rfl:x=encS s:=keyedS.inj hkey hsk
   have hsS:=(HD.out.2.1.mem s kl hs63 hsk).1 hhas
   have hsn:=HD.out.2.2.2.2.2.2.1 s hsS
   obtain ⟨fr,tt,kp,ag⟩:=s
   simp only [encS] at hen ⊢
   have HK:=Lib.hid (And.intro hkey (And.intro hlk (And.intro hrg3 (And.intro hlt3 (And.intro hg3 (And.intro hs3 (And.intro hs63 (And.intro hsk (And.intro hsS (And.intro hsn hhas))))))))))
   clear hkey hlk hun hat hrg3 hlt3 hg3 hs3 hs63 hsk hsS hsn hhas hrg
   go_upto_region 5 with fail
   obtain ⟨w4,hw4⟩ : ∃ w4,w3.alloc (.cells #[.int .i64 fr,.int .i64 tt,.int .i64 kp,.bool ag] 102)=w4:=⟨_,rfl⟩
   rw [hw4]
   have hb4:Below w3.heap.size w3 w4:=hw4▸(Below.refl _ w3).alloc (Nat.le_refl _) _
   have hcs:w4.heap[w3.heap.size]? = some (.cells #[.int .i64 fr,.int .i64 tt,.int .i64 kp,.bool ag] 102 (0,0)):=hw4▸heap_alloc_new w3 _
   clear hw4
   have hc3:=chg_of_grown HK.out.2.2.2.2.1
   have hR3:=HR.out.2.1.keep hc3 fun x ty e _ hty=>by subst e;exact absurd hty ((ranges_noty HR.out.1).2 ty)
   have hR4:=hR3.below hb4
   have hsn:fr<n:=HK.out.2.2.2.2.2.2.2.2.2.1
   obtain ⟨v,hv,hrow⟩:=hR4.row fr hsn
   obtain ⟨vA,vc,hvf⟩:=own_form hrow
   subst hvf
   have hlbt:=own_ty hR4.own (x:=lb) rfl
   have hlbl:=hlbt.lt
   have hlbne:(Value.slice vA (L fr).length vc).ownBlock≠some lb:=fun e=>by have:=(own_ty hrow e).eq hlbt;revert this;decide
   have hsne:(Value.slice vA (L fr).length vc).ownBlock≠some w3.heap.size:=fun e=>by have:=(own_ty hrow e).eq ⟨_,_,hcs⟩;revert this;decide
   have hln:(L fr).length≤2000000000:=by have:=(HR.out.2.2.1 fr hsn).2.1;have:=HD.out.2.2.2.2.2.2.2.1;omega
   obtain ⟨ln,hlne⟩ : ∃ ln,ln=(L fr).length:=⟨_,rfl⟩
   have hv':=hv
   have hrow':=hrow
   rw [← hlne] at hv' hrow' hln hlbne hsne
   have d0:w4.cell? ⟨lb,fr,none⟩=some (.slice vA ln vc):=(hR4.own.cellAt fr (by omega)).trans hv'
   have df:w4.frozen? ⟨lb,fr,none⟩=false:=hR4.own.frozenAt _
   have s0:=(row_cells hcs).1 0
   have s1:=(row_cells hcs).1 1
   have s2:=(row_cells hcs).1 2
   have s3:=(row_cells hcs).1 3
   have hsl:w3.heap.size<w4.heap.size:=(Array.getElem?_eq_some_iff.1 hcs).1
   have n1:(0:Int)≤(fr:Int):=by omega
   have n2:(fr:Int)<(n:Int):=by omega
   have n3:(0:Int)≤(ln:Int):=by omega
   have HB4:=Lib.hid (And.intro hR4 (And.intro hrow' (And.intro hb4 (And.intro hc3 (And.intro hv (And.intro hlne (And.intro hlbne hsne)))))))
   simp at s0 s1 s2 s3
   clear hR3 hR4 hrow hrow' hv hv' hlne hcs hb4 hc3 hlbt hlbne hsne hsn
   go_region_law (refine step_append_lies _ rfl _ _ 103 rfl w.heap.size 100 i0 _ 3 24 Tryd.underlying103 hi hz0 hz1 hz2 rfl (by decide) (.slice vA ln vc) ln ((L fr).flatMap mvc) rfl ((HB4.out.2.1.alloc _).drew) ⟨w4.heap.size,0,none⟩ 1 1 [.int .i64 tt,.int .i64 kp,.bool ag] rfl rfl (World.news_of_block (w:=(w4.alloc (.cells #[.int .i64 tt,.int .i64 kp,.bool ag] 100)).drew) (heap_alloc_new w4 _)) (by simp [Value.oneCell']) (by decide) (by unfold maxLen;omega) (by omega) (by have h1:=HR.out.2.2.2.size;have h2:=HB4.out.2.2.2.1.size;have h3:=HB4.out.2.2.1.size;simp;omega) _ rfl ?_;intro g5 cap5 w5 hown5 hgrow5 hat5 hlt5;have c5:w5.heap[lb]? = w4.heap[lb]?:=(hgrow5.block lb (by simp;omega) (fun e=>HB4.out.2.2.2.2.2.2.1 e.symm)).trans (Below.heap_alloc w4 _ _ hlbl);have c6:w5.heap[w3.heap.size]? = w4.heap[w3.heap.size]?:=(hgrow5.block w3.heap.size (by simp;omega) (fun e=>HB4.out.2.2.2.2.2.2.2 e.symm)).trans (Below.heap_alloc w4 _ _ hsl);have t0:=(World.cell?_of_block (w:=w4) c6:w5.cell? ⟨w3.heap.size,0,none⟩=_).trans s0;have f5:=(World.frozen?_of_block (w:=w4) c5:w5.frozen? ⟨lb,fr,none⟩=_).trans df;have d5:=(World.cell?_of_block (w:=w4) c5:w5.cell? ⟨lb,fr,none⟩=_).trans d0;have l5:=hlt5;have HO:=Lib.hid (And.intro hown5 (And.intro hgrow5 hat5));clear hown5 hgrow5 hat5 c5 c6)
   all_goals
    go_wp2_with fail
    exact sr_step HR.out.1 HR.out.2.2.1 HR.out.2.2.2 HRR.out HK.out.2.2.2.1 HK.out.2.2.1 HB4.out.2.2.2.1 HB4.out.2.2.1 HB4.out.1 HK.out.2.2.2.2.2.2.2.2.2.1 HB4.out.2.2.2.2.1 HB4.out.2.2.2.2.2.1 HK.out.2.2.2.2.2.2.1 HK.out.1 HK.out.2.1 HK.out.2.2.2.2.2.2.2.2.2.2 HO.out.1 HO.out.2.1 HO.out.2.2
end Go.Proofs.YtbohmcfplgdlpaaDoor
