/- The document's own Simple of rows, alternatives, and what is repeated: a contract, given that of the parts.
   Conditions: the tree lies in memory, and is formed. -/
import Derived.Test.YtjcfmbmepmlckaaDoorMQs
import Derived.Deep.DeepCutAuto
import Derived.BigQuiet
import Derived.StillTailTactics

/- The document's own Simple of rows, alternatives, and what is repeated: a contract, given that of the parts.
   Conditions: the tree lies in memory, and is formed. -/
namespace Go.Proofs.YtjcfmbmepmlckaaDoor
open Go.RowKit Go.Shelf
attribute [local go_sem] nodeAgg
structure RowB (w:World) (a:Nat) (v:Value) (ts:List V):Prop where
 own:w.ownsRow a 27 8 v ts.length (flat ts)
 kids:∀ t∈ts,Laid w (fun x=>a≤x∧x<w.heap.size∧v.ownBlock≠some x) t
theorem RowB.nil (w:World) (a:Nat):RowB w a (.slice none 0 0) []:=⟨World.ownsRow_nil _ _ _ _,fun t ht=>by cases ht⟩
theorem RowB.below {w w':World} {a:Nat} {v:Value} {ts:List V} (h:RowB w a v ts) (hb:Below w.heap.size w w'):RowB w' a v ts :=
 ⟨own_chg h.own (Chg.of_below (R:=fun _=>False) hb) fun _ _=>id,fun t ht=>(h.kids t ht).keep (fun b _ hr=>⟨hr.1,by have:=hb.size;have:=hr.2.1;omega,hr.2.2⟩) hb.size fun k hk _=>hb.block k hk⟩
theorem RowB.push {w W w5:World} {a:Nat} {v:Value} {ts:List V} {r:V} {ob:Obj} {g5 n5 cap5:Nat} (h:RowB w a v ts) (hb:Below w.heap.size w W) (ha:a≤w.heap.size) (hr:Laid W (fun x=>w.heap.size≤x∧x<W.heap.size) r) (hg:(W.alloc ob).grownBy w5 v.ownBlock)
  (hown:w5.ownsRow a 27 8 (.slice (some ⟨g5,0,none⟩) n5 cap5) (ts.length+1) (flat ts ++ ndc r)) (hat:v.ownBlock=some g5∨W.heap.size≤g5):RowB w5 a (.slice (some ⟨g5,0,none⟩) n5 cap5) (ts ++ [r])∧Chg (fun x=>v.ownBlock=some x) w w5:=by
 have hch:Chg (fun x=>v.ownBlock=some x) W w5:=((Chg.refl (fun x=>v.ownBlock=some x) W).alloc ob).grown hg fun k hk _=>hk
 have hol:∀ x,v.ownBlock=some x→x<w.heap.size:=fun x hx=>(h.own.lt x hx).2
 have hsz:=hb.size
 have hsz5:=hch.size
 refine ⟨⟨by rw [List.length_append,flat_snoc];exact hown,fun t ht=>?_⟩,(Chg.of_below (R:=fun x=>v.ownBlock=some x) hb).trans hch fun _ _ e=>e⟩
 rcases List.mem_append.1 ht with ht | ht
 ·have h1:=(h.below hb).kids t ht
  refine h1.keep (fun x hx hr=>⟨hr.1,by omega,fun e=>?_⟩) hsz5 fun k hk hr=>hch.block k hk hr.2.2
  have e1:g5=x:=Option.some.inj e
  rcases hat with h2 | h2
  ·exact hr.2.2 (e1▸h2)
  ·omega
 ·rw [List.mem_singleton.1 ht]
  refine hr.keep (fun x hx hr=>⟨by omega,by omega,fun e=>?_⟩) hsz5 fun k hk hr=>hch.block k hk fun e=>by have:=hol k e;omega
  have e1:g5=x:=Option.some.inj e
  rcases hat with h2 | h2
  ·have:=hol g5 h2;omega
  ·omega
theorem RowB.laid {w:World} {a:Nat} {v:Value} {ts:List V} (h:RowB w a v ts) (k:Int) (C:Nat→Nat) (lo hi:Int):Laid w (fun x=>a≤x∧x<w.heap.size) (.node k C lo hi v ts):=by
 have hk:∀ t∈ts,Laid w (fun x=>a≤x∧x<w.heap.size) t:=fun t ht=>(h.kids t ht).mono fun b _ hr=>⟨hr.1,hr.2.1⟩
 have own:=h.own
 cases ts with
 | nil =>
  obtain ⟨A,cp,rfl⟩:=own_form own
  exact .none k C lo hi A cp
 | cons p ps =>
  obtain ⟨g,cap,rfl,hg,hlt⟩:=own.form (Nat.succ_pos _)
  have hle:(p :: ps).length≤cap:=by
   rcases own.2 with ⟨h1,_⟩ | ⟨g',cap',cur,hv,_,_,hle,_⟩
   ·cases h1
   ·simp only [Value.slice.injEq] at hv
    omega
  refine .some k C lo hi (p :: ps) g 0 cap ⟨hg,hlt⟩ hlt hle (fun i t ht j u hu=>?_) hk
  have hi:i<(p :: ps).length:=(List.getElem?_eq_some_iff.1 ht).1
  have hj:j<8:=by have:=(List.getElem?_eq_some_iff.1 hu).1;rwa [ndc_length] at this
  rw [Nat.zero_add,own.cellAt _ (by omega),flat_at _ i t ht j hj]
  exact hu
theorem spV_len (k:Int):∀ ts:List V,(spV k ts).length≤szsT (erases ts)
 | []=>by simp [spV]
 | t :: ts=>by
  have ih:=spV_len k ts
  unfold spV at ih ⊢
  have h1:=len_sz t.ps
  have h2:=sz_eq t
  rw [List.flatMap_cons,List.length_append,erases,szsT]
  split
  ·omega
  ·simp only [List.length_cons,List.length_nil];omega
theorem spV_mem {k:Int} {ts:List V} {u:V} (h:u∈spV k ts):∃ t∈ts,u=t∨u∈t.ps:=by
 unfold spV at h
 obtain ⟨t,ht,hu⟩:=List.mem_flatMap.1 h
 refine ⟨t,ht,?_⟩
 split at hu
 ·exact .inr hu
 ·exact .inl (List.mem_singleton.1 hu)
theorem laid_kidQ {w:World} {R:Nat→Prop} {t u:V} (h:Laid w R t) (hu:u∈t.ps):Laid w R u:=by
 rcases laid_inv h with ⟨h1,_⟩ | ⟨_,_,_,_,_,_,_,_,h9⟩
 ·rw [h1] at hu;cases hu
 ·exact h9 u hu
theorem okF_two {t:V} (h:okF t) (hk:t.kind=2∨t.kind=3):t.ps≠[]:=by
 unfold okF at h
 cases t with
 | node k C lo hi v ps =>
  rw [erase,okT,Bool.and_eq_true] at h
  have h1:=h.1
  unfold okA at h1
  have h2:=of_decide_eq_true h1
  simp only [V.kind] at hk
  rw [erases_length] at h2
  intro e
  simp only [V.ps] at e
  subst e
  simp at h2
  omega
def LeftI (w:World) (k:Int) (us:List V) (n:Nat) (v x:Value) (wr:World):Prop:=∃ (i:Nat) (ls:List V),x=.int .i64 i∧n=us.length - i∧i≤us.length∧wr.ownsRow w.heap.size 27 8 v ls.length (flat ls)∧(∀ u∈ls,u∈us)∧erases ls=leftT k [] (erases (us.take i))∧ls.length≤i∧Below w.heap.size w wr
def SimI (w:World) (t:V) (n:Nat) (v x:Value) (wr:World):Prop:=∃ (i:Nat) (rs:List V),x=.int .i64 i∧n=t.ps.length - i∧i≤t.ps.length∧rs.length=i∧erases rs=simsT (erases (t.ps.take i))∧RowB wr w.heap.size v rs∧Below w.heap.size w wr
def DropI (w:World) (u:V) (ls:List V) (n:Nat) (v x:Value) (wr:World):Prop:=∃ (q:Nat) (b:Bool),x=.int .i64 q∧v=.bool b∧n=ls.length - q∧q≤ls.length∧b=(vdV u || (erases (ls.take q)).any fun a=>likeT a (erase u))∧Below w.heap.size w wr
set_option maxHeartbeats 8000000 in
set_option maxRecDepth 100000 in
theorem refSim_big (t:V) (w:World) (R:Nat→Prop) (ht:Laid w R t) (hok:okF t) (hz:szT (erase t)≤300000) (hv:vdV t=false) (hk:¬ t.kind<2)
  (ih:∀ p∈t.ps,∀ W:World,Below w.heap.size w W→Calls Tryd.prog 12 #[nodeAgg p] W (SimR (erase p) W)) :
  Calls Tryd.prog 12 #[nodeAgg t] w (SimR (erase t) w):=by
 obtain ⟨i0,hi,hz0,hz1,hz2⟩:=info_parts info27
 obtain ⟨sa,sc,hs,hrow⟩:=laid_row' ht
 obtain ⟨sn,hsn⟩ : ∃ sn,sn=t.ps.length:=⟨_,rfl⟩
 rw [← hsn] at hs
 have HTo:=Lib.hid (fun (W:World) (h:Below w.heap.size w W)=>by
  have:=told_any 1000000 (Nat.le_refl _) t W R (by omega) (laid_low ht h) hok
  rw [nodeAgg_v hs,hv] at this
  exact this)
 have HT:=Lib.hid (And.intro ht (And.intro hok (And.intro hz (And.intro hv (And.intro hrow (And.intro hs (And.intro hsn ih)))))))
 have hk':¬ (t.kind:Int)<2:=hk
 have hsn1:sn≤300000:=by have:=len_sz t.ps;have:=sz_eq t;omega
 have q1:(0:Int)≤(sn:Int):=by omega
 rw [nodeAgg_v hs]
 clear ht hok hz hv hk hrow hsn hs ih
 obtain ⟨w2,hw2⟩ : ∃ w2,(w.alloc (.cells #[.int .i64 t.kind,.int .u64 (t.set 0:Nat),.int .u64 (t.set 1:Nat),.int .u64 (t.set 2:Nat),.int .u64 (t.set 3:Nat),.slice sa sn sc,.int .i64 t.lo,.int .i64 t.hi] 27)).alloc (.cells #[.int .i64 0,.int .u64 0,.int .u64 0,.int .u64 0,.int .u64 0,.slice none 0 0,.int .i64 0,.int .i64 0] 27)=w2:=⟨_,rfl⟩
 have hb2:Below w.heap.size w w2:=hw2▸((Below.refl _ w).alloc (Nat.le_refl _) _).alloc (by simp) _
 have e1:w2.heap[w.heap.size]? = some (.cells #[.int .i64 t.kind,.int .u64 (t.set 0:Nat),.int .u64 (t.set 1:Nat),.int .u64 (t.set 2:Nat),.int .u64 (t.set 3:Nat),.slice sa sn sc,.int .i64 t.lo,.int .i64 t.hi] 27 (0,0)):=by rw [← hw2];exact (Below.heap_alloc _ _ _ (by simp)).trans (heap_alloc_new w _)
 have e2:ZB8 (w.heap.size+1) w2:=by
  rw [← hw2]
  have:=heap_alloc_new (w.alloc (.cells #[.int .i64 t.kind,.int .u64 (t.set 0:Nat),.int .u64 (t.set 1:Nat),.int .u64 (t.set 2:Nat),.int .u64 (t.set 3:Nat),.slice sa sn sc,.int .i64 t.lo,.int .i64 t.hi] 27)) (.cells #[.int .i64 0,.int .u64 0,.int .u64 0,.int .u64 0,.int .u64 0,.slice none 0 0,.int .i64 0,.int .i64 0] 27)
  rw [World.size_alloc] at this
  exact this
 obtain ⟨c0,c1,c2,c3,c4,c5,c6,c7⟩:=cells8 e1
 have HB:=Lib.hid (And.intro hb2 (And.intro e2 e1))
 clear hb2 e1 e2
 go_enter Tryd.func12,Tryd.ntmps12
 go_upto_region 1 with fail
 clear hw2
 go_wp2_with fail
 go_at_call 21
 refine (HTo.out _ HB.out.1).mono ?_
 rintro e w3 ⟨rfl,hb3⟩
 have hz3:ZB8 (w.heap.size+1) w3:=(hb3.block _ (Array.getElem?_eq_some_iff.1 HB.out.2.1).1).trans HB.out.2.1
 have e3:=(hb3.block _ (Array.getElem?_eq_some_iff.1 HB.out.2.2).1).trans HB.out.2.2
 have hsz3:w.heap.size+2≤w3.heap.size:=by have:=(Array.getElem?_eq_some_iff.1 hz3).1;omega
 have HB3:=Lib.hid (And.intro (bhop HB.out.1 hb3) (And.intro hz3 e3))
 clear hz3 hb3 c0 c1 c2 c3 c4 c5 c6 c7
 obtain ⟨c0,c1,c2,c3,c4,c5,c6,c7⟩:=cells8 e3
 clear e3
 go_wp2_with fail
 clear c0 c1 c2 c3 c4 c5 c6 c7
 go_loopw [5,6] (fun v x wr=>∃ n,SimI w3 t n v x wr) (fun v x wr=>leastOf (fun n=>SimI w3 t n v x wr))
 case atStart=>exact ⟨_,0,[],rfl,rfl,Nat.zero_le _,rfl,rfl,RowB.nil _ _,Below.refl _ _⟩
 case round =>
  have hls:=(leastOf_spec hrel).1
  obtain ⟨i,rs,rfl,hN,hi1,hrl,hre,hR,hb⟩:=hls
  have hsnn:=HT.out.2.2.2.2.2.2.1
  have s1:(0:Int)≤(i:Int):=by omega
  have hcb:=(hb.block _ (Array.getElem?_eq_some_iff.1 HB3.out.2.2).1).trans HB3.out.2.2
  obtain ⟨c0,c1,c2,c3,c4,c5,c6,c7⟩:=cells8 hcb
  obtain ⟨oA,oC,hov⟩:=own_form hR.own
  obtain ⟨on,hon⟩ : ∃ on,on=rs.length:=⟨_,rfl⟩
  rw [← hon] at hov
  subst hov
  by_cases g4:i<sn
  ·have s2:(i:Int)<(sn:Int):=by omega
   obtain ⟨p,hp⟩ : ∃ p,t.ps[i]? = some p:=⟨_,List.getElem?_eq_getElem (by omega)⟩
   obtain ⟨b',o',hsa,hbl,hcc,hlp⟩:=HT.out.2.2.2.2.1 i p hp
   subst hsa
   obtain ⟨pa,pn,pc,hpv⟩:=hlp.slice
   have hbw:Below w.heap.size w wr:=bhop HB3.out.1 hb
   have hcell:∀ j u,(ndc p)[j]? = some u→wr.cell? ⟨b',o' + i * 8+j,none⟩=some u:=fun j u hu=>(hbw.cell (p:=⟨b',o' + i * 8+j,none⟩) hbl).trans (hcc j u hu)
   have y0:wr.cell? ⟨b',o' + i * 8,none⟩=some (.int .i64 p.kind):=hcell 0 _ rfl
   have y1:wr.cell? ⟨b',o' + i * 8+1,none⟩=some (.int .u64 (p.set 0:Nat)):=hcell 1 _ rfl
   have y2:wr.cell? ⟨b',o' + i * 8+2,none⟩=some (.int .u64 (p.set 1:Nat)):=hcell 2 _ rfl
   have y3:wr.cell? ⟨b',o' + i * 8+3,none⟩=some (.int .u64 (p.set 2:Nat)):=hcell 3 _ rfl
   have y4:wr.cell? ⟨b',o' + i * 8+4,none⟩=some (.int .u64 (p.set 3:Nat)):=hcell 4 _ rfl
   have y5:wr.cell? ⟨b',o' + i * 8+5,none⟩=some (.slice pa pn pc):=hcell 5 _ (by rw [← hpv];rfl)
   have y6:wr.cell? ⟨b',o' + i * 8+6,none⟩=some (.int .i64 p.lo):=hcell 6 _ rfl
   have y7:wr.cell? ⟨b',o' + i * 8+7,none⟩=some (.int .i64 p.hi):=hcell 7 _ rfl
   have HC:=Lib.hid (show Calls Tryd.prog 12 #[.agg #[.int .i64 p.kind,.int .u64 (p.set 0:Nat),.int .u64 (p.set 1:Nat),.int .u64 (p.set 2:Nat),.int .u64 (p.set 3:Nat),.slice pa pn pc,.int .i64 p.lo,.int .i64 p.hi]] wr (SimR (erase p) wr) by
    have:=HT.out.2.2.2.2.2.2.2 p (List.mem_of_getElem? hp) wr hbw
    rwa [nodeAgg_v hpv] at this)
   have HE:=Lib.hid (show simsT (erases (t.ps.take (i+1)))=simsT (erases (t.ps.take i)) ++ [simT (erase p)] by
    rw [List.take_add_one,hp,erases_append,sims_map,sims_map,List.map_append]
    simp [erases])
   have HI:=Lib.hid (And.intro hN (And.intro hrl (And.intro hre (And.intro hR (And.intro hb hon)))))
   have hil:i+1≤t.ps.length:=by omega
   have hon7:on≤300000:=by omega
   have hw3:w3.heap.size≤wr.heap.size:=hb.size
   clear hN hrl hre hR hb hon hrel hcb hcell hlp hbl hp hpv hsnn hbw hcc
   go_wp2_with fail
   go_at_call 12
   refine HC.out.mono ?_
   rintro e w4 ⟨⟨r,rfl,her,hlr⟩,hb4⟩
   obtain ⟨ra,rn,rc,hrv⟩:=hlr.slice
   rw [nodeAgg_v hrv]
   have HO:=Lib.hid (And.intro her (And.intro hlr (And.intro hb4 (And.intro hrv (show w4.ownsRow w3.heap.size 27 8 (.slice oA on oC) on (flat rs) by
    have:=own_chg HI.out.2.2.2.1.own (Chg.of_below (R:=fun _=>False) hb4) fun _ _=>id
    rwa [← HI.out.2.2.2.2.2] at this)))))
   have hs4:wr.heap.size≤w4.heap.size:=hb4.size
   clear her hlr hb4 hrv y0 y1 y2 y3 y4 y5 y6 y7 c0 c1 c2 c3 c4 c5 c6 c7
   go_wp2_with ((at_builtin;refine wpList_append_lies _ (by rfl) _ _ 25 (by rfl) w3.heap.size 27 i0 _ 8 80 Tryd.underlying25 hi hz0 hz1 hz2 rfl (by decide) (.slice oA on oC) on (flat rs) (by rfl) (HO.out.2.2.2.2.alloc _) ⟨w4.heap.size,0,none⟩ 1 1 (ndc r) (by rfl) ?c0 ?c1 ?c2 (by decide) ?c3 ?c4 ?c5 _ rfl ?_))
   case c0=>rfl
   case c1=>unfold ndc;rw [HO.out.2.2.2.1];exact World.news_of_block (heap_alloc_new w4 _)
   case c2=>exact one_ndc r (by rw [HO.out.2.2.2.1];rfl)
   case c3=>unfold maxLen;omega
   case c4=>omega
   case c5=>simp;omega
   intro g5 cap5 w5 hown5 hgrow5 hat5 hlt5
   obtain ⟨hP1,hP2⟩:=HI.out.2.2.2.1.push HO.out.2.2.1 hw3 HO.out.2.1 hgrow5 (by rw [← HI.out.2.2.2.2.2];exact hown5) (hat5.imp id fun e=>by rw [e];simp)
   have HP:=Lib.hid (show SimI w3 t (t.ps.length - (i+1)) (.slice (some ⟨g5,0,none⟩) (on+1) cap5) (.int .i64 ((i:Int)+1)) w5 from ⟨i+1,rs ++ [r],by push_cast;rfl,rfl,hil,by rw [List.length_append,HI.out.2.1];rfl,by
    rw [HE.out,erases_append,HI.out.2.2.1,erases,erases,HO.out.1],hP1,HI.out.2.2.2.2.1.trans (hP2.below (by omega) fun k hk e=>by have:=(HI.out.2.2.2.1.own.lt k e).1;omega)⟩)
   have HN2:=Lib.hid (And.intro HI.out.1 (show t.ps.length - (i+1)<t.ps.length - i by omega))
   clear hown5 hgrow5 hat5 hlt5 hP1 hP2
   go_wp2_with fail
   go_roundw
   case rel=>exact ⟨_,HP.out⟩
   case measure =>
    rw [HN2.out.1]
    exact Nat.lt_of_le_of_lt ((leastOf_spec ⟨_,HP.out⟩).2 _ HP.out) HN2.out.2
  ·have s2:¬ (i:Int)<(sn:Int):=by omega
   have hin:i=t.ps.length:=by omega
   have hre2:erases rs=simsT (erases t.ps):=by rw [hre,hin,List.take_length]
   have hrn:rs.length=t.ps.length:=by omega
   have hbz:ZB8 (w.heap.size+1) wr:=(hb.block _ (by omega)).trans HB3.out.2.1
   have hw3:w3.heap.size≤wr.heap.size:=hb.size
   have hon2:on=sn:=by omega
   by_cases hk4:t.kind=4
   ·have g1:(t.kind == 4)=true:=by simp [hk4]
    obtain ⟨s,hrs⟩ : ∃ s,rs=[s]:=by
     have hok:=HT.out.2.1
     have h1:t.ps.length=1:=by
      unfold okF at hok
      cases t with
      | node k C lo hi v ps =>
       rw [erase,okT,Bool.and_eq_true] at hok
       have h1:=hok.1
       unfold okA at h1
       have h2:=of_decide_eq_true h1
       simp only [V.kind] at hk4
       rw [erases_length] at h2
       show ps.length=1
       omega
     match rs,(by omega:rs.length=1) with
     | [s],_=>exact ⟨s,rfl⟩
    subst hrs
    have hso:okF s∧szT (erase s)≤1000000:=by
     have h1:erases [s]=simsT (erases t.ps):=hre2
     rw [sims_map] at h1
     have h2:erase s∈(erases t.ps).map simT:=by rw [← h1];simp [erases]
     obtain ⟨u,hu,hus⟩:=List.mem_map.1 h2
     have h3:∃ p∈t.ps,erase p=u:=by
      rw [erases_map] at hu
      exact List.mem_map.1 hu
     obtain ⟨p,hp,hpu⟩:=h3
     have h4:=HT.out.2.1.part hp
     refine ⟨?_,?_⟩
     ·show okT (erase s)=true
      rw [← hus,← hpu]
      exact (sim_ws _ h4).ok
     ·rw [← hus,← hpu]
      have h5:=sim_sz (erase p)
      have h6:=sz_mem hp
      have h7:=HT.out.2.2.1
      have h8:=sz_eq t
      omega
    have hsim:simT (erase t)=rep4 t.lo t.hi (erase s):=by
     have h1:=HT.out.2.2.2.1
     have h2:erases [s]=simsT (erases t.ps):=hre2
     cases t with
     | node k C lo hi v ps =>
      simp only [V.kind] at hk4
      subst hk4
      simp only [V.ps] at h2
      rw [erase]
      rw [simT,show vdT (.node 4 C lo hi (erases ps))=false from h1,← h2]
      simp [erases]
      rfl
    have hls:=hR.kids s (by simp)
    obtain ⟨ya,yn,yc,hsv⟩:=hls.slice
    obtain ⟨g,gc,hgv,_,hgl⟩:=hR.own.form (by simp)
    simp only [Value.slice.injEq] at hgv
    obtain ⟨rfl,hon1,rfl⟩:=hgv
    simp only [List.length_cons,List.length_nil] at hon1
    subst hon1
    subst hon2
    have hown:=hR.own
    have hcell:∀ j u,(ndc s)[j]? = some u→wr.cell? ⟨g,j,none⟩=some u:=fun j u hu=>by
     have hj:j<8:=by have:=(List.getElem?_eq_some_iff.1 hu).1;rwa [ndc_length] at this
     refine (hown.cellAt j (by simp;omega)).trans ?_
     have:=flat_at [s] 0 s rfl j hj
     rw [Nat.zero_mul,Nat.zero_add] at this
     exact this.trans hu
    have y0:wr.cell? ⟨g,0,none⟩=some (.int .i64 s.kind):=hcell 0 _ rfl
    have y1:wr.cell? ⟨g,1,none⟩=some (.int .u64 (s.set 0:Nat)):=hcell 1 _ rfl
    have y2:wr.cell? ⟨g,2,none⟩=some (.int .u64 (s.set 1:Nat)):=hcell 2 _ rfl
    have y3:wr.cell? ⟨g,3,none⟩=some (.int .u64 (s.set 2:Nat)):=hcell 3 _ rfl
    have y4:wr.cell? ⟨g,4,none⟩=some (.int .u64 (s.set 3:Nat)):=hcell 4 _ rfl
    have y5:wr.cell? ⟨g,5,none⟩=some (.slice ya yn yc):=hcell 5 _ (by rw [← hsv];rfl)
    have y6:wr.cell? ⟨g,6,none⟩=some (.int .i64 s.lo):=hcell 6 _ rfl
    have y7:wr.cell? ⟨g,7,none⟩=some (.int .i64 s.hi):=hcell 7 _ rfl
    have HTs:=Lib.hid (show Calls Tryd.prog 21 #[.agg #[.int .i64 s.kind,.int .u64 (s.set 0:Nat),.int .u64 (s.set 1:Nat),.int .u64 (s.set 2:Nat),.int .u64 (s.set 3:Nat),.slice ya yn yc,.int .i64 s.lo,.int .i64 s.hi]] wr fun e w'=>e=.returned (.tuple #[.bool (vdV s),.bool (nuV s)])∧Below wr.heap.size wr w' by
     have:=told_any 1000000 (Nat.le_refl _) s wr _ hso.2 hls hso.1
     rwa [nodeAgg_v hsv] at this)
    have HI:=Lib.hid (And.intro hR (And.intro hb (And.intro hsim (And.intro hcb (And.intro hbz (And.intro hcell hsv))))))
    clear hN hrl hre hrel hcb hin hre2 hrn hbz hR hb hsim hls hown hcell hsv hso hon hk4 hsnn hi1
    go_wp2_with fail
    go_at_call 21
    refine HTs.out.mono ?_
    rintro e w4 ⟨rfl,hb4⟩
    have hcb4:=(hb4.block _ (Array.getElem?_eq_some_iff.1 HI.out.2.2.2.1).1).trans HI.out.2.2.2.1
    obtain ⟨c0,c1,c2,c3,c4,c5,c6,c7⟩:=cells8 hcb4
    have hbz4:=(hb4.block _ (Array.getElem?_eq_some_iff.1 HI.out.2.2.2.2.1).1).trans HI.out.2.2.2.2.1
    have hcell4:∀ j u,(ndc s)[j]? = some u→w4.cell? ⟨g,j,none⟩=some u:=fun j u hu=>(hb4.cell (p:=⟨g,j,none⟩) hgl).trans (HI.out.2.2.2.2.2.1 j u hu)
    have y0:w4.cell? ⟨g,0,none⟩=some (.int .i64 s.kind):=hcell4 0 _ rfl
    have y1:w4.cell? ⟨g,1,none⟩=some (.int .u64 (s.set 0:Nat)):=hcell4 1 _ rfl
    have y2:w4.cell? ⟨g,2,none⟩=some (.int .u64 (s.set 1:Nat)):=hcell4 2 _ rfl
    have y3:w4.cell? ⟨g,3,none⟩=some (.int .u64 (s.set 2:Nat)):=hcell4 3 _ rfl
    have y4:w4.cell? ⟨g,4,none⟩=some (.int .u64 (s.set 3:Nat)):=hcell4 4 _ rfl
    have y5:w4.cell? ⟨g,5,none⟩=some (.slice ya yn yc):=hcell4 5 _ (by rw [← HI.out.2.2.2.2.2.2];rfl)
    have y6:w4.cell? ⟨g,6,none⟩=some (.int .i64 s.lo):=hcell4 6 _ rfl
    have y7:w4.cell? ⟨g,7,none⟩=some (.int .i64 s.hi):=hcell4 7 _ rfl
    have hgl4:=Nat.lt_of_lt_of_le hgl hb4.size
    have hbw4:Below w.heap.size w w4:=bhop HB3.out.1 (bhop HI.out.2.1 hb4)
    have HJ:=Lib.hid (And.intro hbw4 (And.intro (HI.out.1.below hb4) (And.intro hbz4 hcell4)))
    obtain ⟨⟨z0,z1,z2,z3,z4,z5,z6,z7⟩,f0,f1,f2,f3,f4,f5,f6,f7,hzl⟩:=ZB8.cells hbz4
    clear hcb4 hbz4 hcell4 hbw4 hb4
    by_cases hno:t.hi=0∨s.kind=0∨vdV s=true
    ·have HS:=Lib.hid (show simT (erase t)=noT by rw [HI.out.2.2.1,rep4,if_pos (by rw [erase_kind];exact hno)])
     by_cases h1:t.hi=0
     ·have b1:(t.hi == 0)=true:=by simp [h1]
      clear h1 hno
      go_wp2_with fail
      clear z0 z1 z2 z3 z4 z5 z6 z7 f0 f1 f2 f3 f4 f5 f6 f7 c0 c1 c2 c3 c4 c5 c6 c7 y0 y1 y2 y3 y4 y5 y6 y7
      have hf:=set8x_heap HJ.out.2.2.1 (.int .i64 0) (.int .u64 0) (.int .u64 0) (.int .u64 0) (.int .u64 0) (.slice none 0 0) (.int .i64 0) (.int .i64 0)
      have hch:=set8x_chg w4 (w.heap.size+1) (.int .i64 0) (.int .u64 0) (.int .u64 0) (.int .u64 0) (.int .u64 0) (.slice none 0 0) (.int .i64 0) (.int .i64 0)
      generalize ((((((((w4.setCell ⟨w.heap.size+1,0,none⟩ (.int .i64 0)).setCell ⟨w.heap.size+1,1,none⟩ (.int .u64 0)).setCell ⟨w.heap.size+1,2,none⟩ (.int .u64 0)).setCell ⟨w.heap.size+1,3,none⟩ (.int .u64 0)).setCell ⟨w.heap.size+1,4,none⟩ (.int .u64 0)).setCell ⟨w.heap.size+1,5,none⟩ (.slice none 0 0)).setCell ⟨w.heap.size+1,6,none⟩ (.int .i64 0)).setCell ⟨w.heap.size+1,7,none⟩ (.int .i64 0))=w6 at *
      obtain ⟨r0,r1,r2,r3,r4,r5,r6,r7⟩:=cells8 hf
      refine bodyPost_ret (v:=.agg #[.int .i64 0,.int .u64 0,.int .u64 0,.int .u64 0,.int .u64 0,.slice none 0 0,.int .i64 0,.int .i64 0]) (by simp [results,Tryd.results12,go_sem,r0,r1,r2,r3,r4,r5,r6,r7]) rfl ⟨⟨.node 0 zeros 0 0 (.slice none 0 0) [],rfl,HS.out.symm,.none _ _ _ _ _ _⟩,HJ.out.1.trans (hch.below (by have:=HJ.out.1.size;omega) fun k hk e=>by omega)⟩
     ·have b1:(t.hi == 0)=false:=by simp [h1]
      by_cases h2:s.kind=0
      ·have b2:(s.kind == 0)=true:=by simp [h2]
       clear h1 h2 hno
       go_wp2_with fail
       clear z0 z1 z2 z3 z4 z5 z6 z7 f0 f1 f2 f3 f4 f5 f6 f7 c0 c1 c2 c3 c4 c5 c6 c7 y0 y1 y2 y3 y4 y5 y6 y7
       have hf:=set8x_heap HJ.out.2.2.1 (.int .i64 0) (.int .u64 0) (.int .u64 0) (.int .u64 0) (.int .u64 0) (.slice none 0 0) (.int .i64 0) (.int .i64 0)
       have hch:=set8x_chg w4 (w.heap.size+1) (.int .i64 0) (.int .u64 0) (.int .u64 0) (.int .u64 0) (.int .u64 0) (.slice none 0 0) (.int .i64 0) (.int .i64 0)
       generalize ((((((((w4.setCell ⟨w.heap.size+1,0,none⟩ (.int .i64 0)).setCell ⟨w.heap.size+1,1,none⟩ (.int .u64 0)).setCell ⟨w.heap.size+1,2,none⟩ (.int .u64 0)).setCell ⟨w.heap.size+1,3,none⟩ (.int .u64 0)).setCell ⟨w.heap.size+1,4,none⟩ (.int .u64 0)).setCell ⟨w.heap.size+1,5,none⟩ (.slice none 0 0)).setCell ⟨w.heap.size+1,6,none⟩ (.int .i64 0)).setCell ⟨w.heap.size+1,7,none⟩ (.int .i64 0))=w6 at *
       obtain ⟨r0,r1,r2,r3,r4,r5,r6,r7⟩:=cells8 hf
       refine bodyPost_ret (v:=.agg #[.int .i64 0,.int .u64 0,.int .u64 0,.int .u64 0,.int .u64 0,.slice none 0 0,.int .i64 0,.int .i64 0]) (by simp [results,Tryd.results12,go_sem,r0,r1,r2,r3,r4,r5,r6,r7]) rfl ⟨⟨.node 0 zeros 0 0 (.slice none 0 0) [],rfl,HS.out.symm,.none _ _ _ _ _ _⟩,HJ.out.1.trans (hch.below (by have:=HJ.out.1.size;omega) fun k hk e=>by omega)⟩
      ·have b2:(s.kind == 0)=false:=by simp [h2]
       have b3:vdV s=true:=by
        rcases hno with h | h | h
        ·exact absurd h h1
        ·exact absurd h h2
        ·exact h
       clear hno
       go_wp2_with fail
       clear z0 z1 z2 z3 z4 z5 z6 z7 f0 f1 f2 f3 f4 f5 f6 f7 c0 c1 c2 c3 c4 c5 c6 c7 y0 y1 y2 y3 y4 y5 y6 y7
       have hf:=set8x_heap HJ.out.2.2.1 (.int .i64 0) (.int .u64 0) (.int .u64 0) (.int .u64 0) (.int .u64 0) (.slice none 0 0) (.int .i64 0) (.int .i64 0)
       have hch:=set8x_chg w4 (w.heap.size+1) (.int .i64 0) (.int .u64 0) (.int .u64 0) (.int .u64 0) (.int .u64 0) (.slice none 0 0) (.int .i64 0) (.int .i64 0)
       generalize ((((((((w4.setCell ⟨w.heap.size+1,0,none⟩ (.int .i64 0)).setCell ⟨w.heap.size+1,1,none⟩ (.int .u64 0)).setCell ⟨w.heap.size+1,2,none⟩ (.int .u64 0)).setCell ⟨w.heap.size+1,3,none⟩ (.int .u64 0)).setCell ⟨w.heap.size+1,4,none⟩ (.int .u64 0)).setCell ⟨w.heap.size+1,5,none⟩ (.slice none 0 0)).setCell ⟨w.heap.size+1,6,none⟩ (.int .i64 0)).setCell ⟨w.heap.size+1,7,none⟩ (.int .i64 0))=w6 at *
       obtain ⟨r0,r1,r2,r3,r4,r5,r6,r7⟩:=cells8 hf
       refine bodyPost_ret (v:=.agg #[.int .i64 0,.int .u64 0,.int .u64 0,.int .u64 0,.int .u64 0,.slice none 0 0,.int .i64 0,.int .i64 0]) (by simp [results,Tryd.results12,go_sem,r0,r1,r2,r3,r4,r5,r6,r7]) rfl ⟨⟨.node 0 zeros 0 0 (.slice none 0 0) [],rfl,HS.out.symm,.none _ _ _ _ _ _⟩,HJ.out.1.trans (hch.below (by have:=HJ.out.1.size;omega) fun k hk e=>by omega)⟩
    ·have b1:(t.hi == 0)=false:=by simp;exact fun h=>hno (.inl h)
     have b2:(s.kind == 0)=false:=by simp;exact fun h=>hno (.inr (.inl h))
     have b3:vdV s=false:=by simpa using fun h=>hno (.inr (.inr h))
     have hnn:=hno
     by_cases hone:t.lo=1∧t.hi=1
     ·have HS:=Lib.hid (show simT (erase t)=erase s by rw [HI.out.2.2.1,rep4,if_neg (by rw [erase_kind];exact hno),if_pos hone])
      have b4:(t.lo == 1)=true:=by simp [hone.1]
      have b5:(t.hi == 1)=true:=by simp [hone.2]
      clear hno hnn hone
      go_wp2_with fail
      clear z0 z1 z2 z3 z4 z5 z6 z7 f0 f1 f2 f3 f4 f5 f6 f7 c0 c1 c2 c3 c4 c5 c6 c7 y0 y1 y2 y3 y4 y5 y6 y7
      have hf:=set8x_heap HJ.out.2.2.1 (.int .i64 s.kind) (.int .u64 (s.set 0:Nat)) (.int .u64 (s.set 1:Nat)) (.int .u64 (s.set 2:Nat)) (.int .u64 (s.set 3:Nat)) (.slice ya yn yc) (.int .i64 s.lo) (.int .i64 s.hi)
      have hch:=set8x_chg w4 (w.heap.size+1) (.int .i64 s.kind) (.int .u64 (s.set 0:Nat)) (.int .u64 (s.set 1:Nat)) (.int .u64 (s.set 2:Nat)) (.int .u64 (s.set 3:Nat)) (.slice ya yn yc) (.int .i64 s.lo) (.int .i64 s.hi)
      generalize ((((((((w4.setCell ⟨w.heap.size+1,0,none⟩ (.int .i64 s.kind)).setCell ⟨w.heap.size+1,1,none⟩ (.int .u64 (s.set 0:Nat))).setCell ⟨w.heap.size+1,2,none⟩ (.int .u64 (s.set 1:Nat))).setCell ⟨w.heap.size+1,3,none⟩ (.int .u64 (s.set 2:Nat))).setCell ⟨w.heap.size+1,4,none⟩ (.int .u64 (s.set 3:Nat))).setCell ⟨w.heap.size+1,5,none⟩ (.slice ya yn yc)).setCell ⟨w.heap.size+1,6,none⟩ (.int .i64 s.lo)).setCell ⟨w.heap.size+1,7,none⟩ (.int .i64 s.hi))=w6 at *
      obtain ⟨r0,r1,r2,r3,r4,r5,r6,r7⟩:=cells8 hf
      refine bodyPost_ret (v:=.agg #[.int .i64 s.kind,.int .u64 (s.set 0:Nat),.int .u64 (s.set 1:Nat),.int .u64 (s.set 2:Nat),.int .u64 (s.set 3:Nat),.slice ya yn yc,.int .i64 s.lo,.int .i64 s.hi]) (by simp [results,Tryd.results12,go_sem,r0,r1,r2,r3,r4,r5,r6,r7]) rfl ⟨⟨s,by rw [nodeAgg_v HI.out.2.2.2.2.2.2],HS.out.symm,?_⟩,HJ.out.1.trans (hch.below (by have:=HJ.out.1.size;omega) fun k hk e=>by omega)⟩
      refine (HJ.out.2.1.kids s (by simp)).keep (fun x hx hr=>⟨by omega,by have:=hch.size;omega⟩) hch.size fun x hx hr=>hch.block x hx fun e=>by omega
     ·have hg4:∃ bb:Bool,bb=nuV s:=⟨_,rfl⟩
      obtain ⟨bb,hbb⟩:=hg4
      obtain ⟨lo',hlo'⟩ : ∃ lo':Int,lo'=if bb then 0 else t.lo:=⟨_,rfl⟩
      have HS:=Lib.hid (show simT (erase t)=.node 4 zeros lo' t.hi [erase s] by rw [HI.out.2.2.1,rep4,if_neg (by rw [erase_kind];exact hno),if_neg hone,hlo',hbb];rfl)
      have HLO:=Lib.hid hlo'
      have HBB:=Lib.hid hbb
      have hb4:(t.lo == 1)=true∧(t.hi == 1)=false∨(t.lo == 1)=false:=by
       by_cases h:t.lo=1
       ·exact .inl ⟨by simp [h],by simp;exact fun h2=>hone ⟨h,h2⟩⟩
       ·exact .inr (by simp [h])
      clear hno hnn hone hlo'
      rw [← hbb]
      clear hbb
      rcases hb4 with ⟨b4,b5⟩ | b4
      all_goals
       cases bb with
       | true =>
        have HL0:=Lib.hid (show lo'=0 from HLO.out.trans rfl)
        go_wp2_with fail
        clear z0 z1 z2 z3 z4 z5 z6 z7 f0 f1 f2 f3 f4 f5 f6 f7 c0 c1 c2 c3 c4 c5 c6 c7 y0 y1 y2 y3 y4 y5 y6 y7
        have hf:=set8x_heap HJ.out.2.2.1 (.int .i64 4) (.int .u64 0) (.int .u64 0) (.int .u64 0) (.int .u64 0) (.slice (some ⟨g,0,none⟩) 1 oC) (.int .i64 0) (.int .i64 t.hi)
        have hch:=set8x_chg w4 (w.heap.size+1) (.int .i64 4) (.int .u64 0) (.int .u64 0) (.int .u64 0) (.int .u64 0) (.slice (some ⟨g,0,none⟩) 1 oC) (.int .i64 0) (.int .i64 t.hi)
        generalize ((((((((w4.setCell ⟨w.heap.size+1,0,none⟩ (.int .i64 4)).setCell ⟨w.heap.size+1,1,none⟩ (.int .u64 0)).setCell ⟨w.heap.size+1,2,none⟩ (.int .u64 0)).setCell ⟨w.heap.size+1,3,none⟩ (.int .u64 0)).setCell ⟨w.heap.size+1,4,none⟩ (.int .u64 0)).setCell ⟨w.heap.size+1,5,none⟩ (.slice (some ⟨g,0,none⟩) 1 oC)).setCell ⟨w.heap.size+1,6,none⟩ (.int .i64 0)).setCell ⟨w.heap.size+1,7,none⟩ (.int .i64 t.hi))=w6 at *
        have hf7:(w6.alloc (.cells #[.int .i64 4,.int .u64 0,.int .u64 0,.int .u64 0,.int .u64 0,.slice (some ⟨g,0,none⟩) 1 oC,.int .i64 0,.int .i64 t.hi] 27)).heap[w.heap.size+1]? = _:=(Below.heap_alloc w6 _ _ (Array.getElem?_eq_some_iff.1 hf).1).trans hf
        have hch7:Chg (fun x=>x=w.heap.size+1) w4 (w6.alloc (.cells #[.int .i64 4,.int .u64 0,.int .u64 0,.int .u64 0,.int .u64 0,.slice (some ⟨g,0,none⟩) 1 oC,.int .i64 0,.int .i64 t.hi] 27)):=hch.alloc _
        generalize w6.alloc (.cells #[.int .i64 4,.int .u64 0,.int .u64 0,.int .u64 0,.int .u64 0,.slice (some ⟨g,0,none⟩) 1 oC,.int .i64 0,.int .i64 t.hi] 27)=w7 at *
        obtain ⟨r0,r1,r2,r3,r4,r5,r6,r7⟩:=cells8 hf7
        refine bodyPost_ret (v:=.agg #[.int .i64 4,.int .u64 0,.int .u64 0,.int .u64 0,.int .u64 0,.slice (some ⟨g,0,none⟩) 1 oC,.int .i64 0,.int .i64 t.hi]) (by simp [results,Tryd.results12,go_sem,r0,r1,r2,r3,r4,r5,r6,r7]) rfl ⟨⟨.node 4 zeros 0 t.hi (.slice (some ⟨g,0,none⟩) 1 oC) [s],rfl,?_,?_⟩,HJ.out.1.trans (hch7.below (by have:=HJ.out.1.size;omega) fun k hk e=>by omega)⟩
        ·rw [HS.out,HL0.out,erase,erases,erases]
        ·exact (HJ.out.2.1.laid 4 zeros 0 t.hi).keep (fun x hx hr=>⟨by omega,by have:=hch7.size;omega⟩) hch7.size fun x hx hr=>hch7.block x hx fun e=>by omega
       | false =>
        have HL0:=Lib.hid (show lo'=t.lo from HLO.out.trans rfl)
        go_wp2_with fail
        clear z0 z1 z2 z3 z4 z5 z6 z7 f0 f1 f2 f3 f4 f5 f6 f7 c0 c1 c2 c3 c4 c5 c6 c7 y0 y1 y2 y3 y4 y5 y6 y7
        have hf:=set8x_heap HJ.out.2.2.1 (.int .i64 4) (.int .u64 0) (.int .u64 0) (.int .u64 0) (.int .u64 0) (.slice (some ⟨g,0,none⟩) 1 oC) (.int .i64 t.lo) (.int .i64 t.hi)
        have hch:=set8x_chg w4 (w.heap.size+1) (.int .i64 4) (.int .u64 0) (.int .u64 0) (.int .u64 0) (.int .u64 0) (.slice (some ⟨g,0,none⟩) 1 oC) (.int .i64 t.lo) (.int .i64 t.hi)
        generalize ((((((((w4.setCell ⟨w.heap.size+1,0,none⟩ (.int .i64 4)).setCell ⟨w.heap.size+1,1,none⟩ (.int .u64 0)).setCell ⟨w.heap.size+1,2,none⟩ (.int .u64 0)).setCell ⟨w.heap.size+1,3,none⟩ (.int .u64 0)).setCell ⟨w.heap.size+1,4,none⟩ (.int .u64 0)).setCell ⟨w.heap.size+1,5,none⟩ (.slice (some ⟨g,0,none⟩) 1 oC)).setCell ⟨w.heap.size+1,6,none⟩ (.int .i64 t.lo)).setCell ⟨w.heap.size+1,7,none⟩ (.int .i64 t.hi))=w6 at *
        have hf7:(w6.alloc (.cells #[.int .i64 4,.int .u64 0,.int .u64 0,.int .u64 0,.int .u64 0,.slice (some ⟨g,0,none⟩) 1 oC,.int .i64 t.lo,.int .i64 t.hi] 27)).heap[w.heap.size+1]? = _:=(Below.heap_alloc w6 _ _ (Array.getElem?_eq_some_iff.1 hf).1).trans hf
        have hch7:Chg (fun x=>x=w.heap.size+1) w4 (w6.alloc (.cells #[.int .i64 4,.int .u64 0,.int .u64 0,.int .u64 0,.int .u64 0,.slice (some ⟨g,0,none⟩) 1 oC,.int .i64 t.lo,.int .i64 t.hi] 27)):=hch.alloc _
        generalize w6.alloc (.cells #[.int .i64 4,.int .u64 0,.int .u64 0,.int .u64 0,.int .u64 0,.slice (some ⟨g,0,none⟩) 1 oC,.int .i64 t.lo,.int .i64 t.hi] 27)=w7 at *
        obtain ⟨r0,r1,r2,r3,r4,r5,r6,r7⟩:=cells8 hf7
        refine bodyPost_ret (v:=.agg #[.int .i64 4,.int .u64 0,.int .u64 0,.int .u64 0,.int .u64 0,.slice (some ⟨g,0,none⟩) 1 oC,.int .i64 t.lo,.int .i64 t.hi]) (by simp [results,Tryd.results12,go_sem,r0,r1,r2,r3,r4,r5,r6,r7]) rfl ⟨⟨.node 4 zeros t.lo t.hi (.slice (some ⟨g,0,none⟩) 1 oC) [s],rfl,?_,?_⟩,HJ.out.1.trans (hch7.below (by have:=HJ.out.1.size;omega) fun k hk e=>by omega)⟩
        ·rw [HS.out,HL0.out,erase,erases,erases]
        ·exact (HJ.out.2.1.laid 4 zeros t.lo t.hi).keep (fun x hx hr=>⟨by omega,by have:=hch7.size;omega⟩) hch7.size fun x hx hr=>hch7.block x hx fun e=>by omega
   ·have hok:=HT.out.2.1
    have hk23:t.kind=2∨t.kind=3:=by have:=hok.kinds;omega
    have g1:(t.kind == 4)=false:=by simp [hk4]
    have hall:∀ s∈rs,okF s:=by
     intro s hs
     have h1:erase s∈erases rs:=by rw [erases_map];exact List.mem_map.2 ⟨s,hs,rfl⟩
     rw [hre2,sims_map] at h1
     obtain ⟨u,hu,hus⟩:=List.mem_map.1 h1
     rw [erases_map] at hu
     obtain ⟨p,hp,hpu⟩:=List.mem_map.1 hu
     show okT (erase s)=true
     rw [← hus,← hpu]
     exact (sim_ws _ (hok.part hp)).ok
    have hszs:szsT (erases rs)≤300000:=by
     rw [hre2]
     have h1:=sims_sz (erases t.ps)
     have h2:=HT.out.2.2.1
     have h3:=sz_eq t
     omega
    have hsp:=spV_len t.kind rs
    have HSp:=Lib.hid (spread_any wr w3.heap.size t.kind (.slice oA on oC) rs _ hR.own hR.kids (fun s hs hks=>okF_two (hall s hs) (by omega)) (by omega) (by have:=len_sz rs;omega))
    have HI:=Lib.hid (And.intro hR (And.intro hb (And.intro hcb (And.intro hbz (And.intro hre2 (And.intro hall (And.intro hszs hk23)))))))
    clear hN hrl hre hrel hcb hin hre2 hrn hbz hR hb hon hall hszs hsp hok hon2 hsnn hi1 hk23
    go_wp2_with fail
    go_at_call 23
    refine HSp.out.mono ?_
    rintro e w4 ⟨v4,rfl,hown4,hb4⟩
    obtain ⟨us,hus⟩ : ∃ us,us=spV t.kind rs:=⟨_,rfl⟩
    rw [← hus] at hown4
    obtain ⟨uA,uC,huv⟩:=own_form hown4
    obtain ⟨un,hun⟩ : ∃ un,un=us.length:=⟨_,rfl⟩
    rw [← hun] at huv
    subst huv
    have hcb4:=(hb4.block _ (Array.getElem?_eq_some_iff.1 HI.out.2.2.1).1).trans HI.out.2.2.1
    obtain ⟨c0,c1,c2,c3,c4,c5,c6,c7⟩:=cells8 hcb4
    have hbz4:=(hb4.block _ (Array.getElem?_eq_some_iff.1 HI.out.2.2.2.1).1).trans HI.out.2.2.2.1
    have hkid4:∀ u∈us,Laid w4 (fun x=>w3.heap.size≤x∧x<wr.heap.size) u:=by
     intro u hu
     rw [hus] at hu
     obtain ⟨s,hs,hsu⟩:=spV_mem hu
     have h1:=(HI.out.1.kids s hs)
     have h2:Laid wr (fun x=>w3.heap.size≤x∧x<wr.heap.size) u:=by
      rcases hsu with rfl | hsu
      ·exact h1.mono fun b _ hr=>⟨hr.1,hr.2.1⟩
      ·exact (laid_kidQ h1 hsu).mono fun b _ hr=>⟨hr.1,hr.2.1⟩
     exact h2.keep (fun _ _ h=>h) hb4.size fun k hk _=>hb4.block k hk
    have hoku:∀ u∈us,okF u:=by
     intro u hu
     rw [hus] at hu
     obtain ⟨s,hs,hsu⟩:=spV_mem hu
     rcases hsu with rfl | hsu
     ·exact HI.out.2.2.2.2.2.1 _ hs
     ·exact (HI.out.2.2.2.2.2.1 s hs).part hsu
    have HZU:=Lib.hid (show ∀ u∈us,szT (erase u)≤1000000 by
     intro u hu
     rw [hus] at hu
     obtain ⟨s,hs,hsu⟩:=spV_mem hu
     have h1:=sz_mem hs
     have h2:=HI.out.2.2.2.2.2.2.1
     rcases hsu with rfl | hsu
     ·omega
     ·have h3:=sz_mem hsu
      have h4:=sz_eq s
      omega)
    have hsz4:=hb4.size
    have hun7:un≤300000:=by
     have h1:=spV_len t.kind rs
     have h2:=HI.out.2.2.2.2.2.2.1
     rw [hun,hus]
     omega
    have hbw4:Below w.heap.size w w4:=bhop HB3.out.1 (bhop HI.out.2.1 hb4)
    have HS:=Lib.hid (show simT (erase t)=oneOf t.kind (leftT t.kind [] (erases us)) by
     have h1:=HT.out.2.2.2.1
     rw [hus,spV_erase,HI.out.2.2.2.2.1]
     have hkk:=HI.out.2.2.2.2.2.2.2
     cases t with
     | node k C lo hi v ps =>
      simp only [V.kind] at hkk hk4
      simp only [V.kind,V.ps]
      rw [erase,simT,show vdT (.node k C lo hi (erases ps))=false from h1]
      simp only [Bool.false_eq_true,if_false]
      rw [if_neg (by omega),if_neg hk4])
    have HJ:=Lib.hid (And.intro hown4 (And.intro hkid4 (And.intro hoku (And.intro hbw4 (And.intro hcb4 (And.intro hbz4 hun))))))
    clear hown4 hb4 hcb4 hbz4 hkid4 hoku hbw4 hus hk4 hun
    go_wp2_with fail
    go_loopw [10,11] (fun v x wr=>∃ n,LeftI w4 t.kind us n v x wr) (fun v x wr=>leastOf (fun n=>LeftI w4 t.kind us n v x wr))
    case atStart=>exact ⟨_,0,[],rfl,rfl,Nat.zero_le _,World.ownsRow_nil _ _ _ _,(fun u hu=>by cases hu),rfl,Nat.le_refl _,Below.refl _ _⟩
    case round =>
     have hls:=(leastOf_spec hrel).1
     obtain ⟨j,ls,rfl,hN,hj1,hlo,hlm,hle,hll,hb⟩:=hls
     obtain ⟨lA,lC,hlv⟩:=own_form hlo
     obtain ⟨ln,hln⟩ : ∃ ln,ln=ls.length:=⟨_,rfl⟩
     rw [← hln] at hlv
     subst hlv
     have s3:(0:Int)≤(j:Int):=by omega
     have hcbr:=(hb.block _ (Array.getElem?_eq_some_iff.1 HJ.out.2.2.2.2.1).1).trans HJ.out.2.2.2.2.1
     obtain ⟨c0,c1,c2,c3,c4,c5,c6,c7⟩:=cells8 hcbr
     by_cases g5:j<un
     ·have s4:(j:Int)<(un:Int):=by omega
      obtain ⟨wa,hwa⟩ : ∃ wa,wa=wr:=⟨_,rfl⟩
      subst hwa
      have hunl:=HJ.out.2.2.2.2.2.2
      obtain ⟨u,hu⟩ : ∃ u,us[j]? = some u:=⟨_,List.getElem?_eq_getElem (by omega)⟩
      have hum:=List.mem_of_getElem? hu
      have hlu:=laid_low (HJ.out.2.1 u hum) hb
      obtain ⟨ua,uu,uc,huv⟩:=hlu.slice
      have hownu:=own_chg HJ.out.1 (Chg.of_below (R:=fun _=>False) hb) fun _ _=>id
      rw [← hunl] at hownu
      obtain ⟨g,gc,hgv,_,hgl⟩:=hownu.form (by omega)
      simp only [Value.slice.injEq] at hgv
      obtain ⟨rfl,rfl⟩:=And.intro hgv.1 hgv.2.2
      have hcell:∀ q u',(ndc u)[q]? = some u'→wa.cell? ⟨g,j * 8+q,none⟩=some u':=fun q u' hu'=>by
       have hq:q<8:=by have:=(List.getElem?_eq_some_iff.1 hu').1;rwa [ndc_length] at this
       exact ((hownu.cellAt (j * 8+q) (by omega)).trans (flat_at us j u hu q hq)).trans hu'
      have y0:wa.cell? ⟨g,j * 8,none⟩=some (.int .i64 u.kind):=hcell 0 _ rfl
      have y1:wa.cell? ⟨g,j * 8+1,none⟩=some (.int .u64 (u.set 0:Nat)):=hcell 1 _ rfl
      have y2:wa.cell? ⟨g,j * 8+2,none⟩=some (.int .u64 (u.set 1:Nat)):=hcell 2 _ rfl
      have y3:wa.cell? ⟨g,j * 8+3,none⟩=some (.int .u64 (u.set 2:Nat)):=hcell 3 _ rfl
      have y4:wa.cell? ⟨g,j * 8+4,none⟩=some (.int .u64 (u.set 3:Nat)):=hcell 4 _ rfl
      have y5:wa.cell? ⟨g,j * 8+5,none⟩=some (.slice ua uu uc):=hcell 5 _ (by rw [← huv];rfl)
      have y6:wa.cell? ⟨g,j * 8+6,none⟩=some (.int .i64 u.lo):=hcell 6 _ rfl
      have y7:wa.cell? ⟨g,j * 8+7,none⟩=some (.int .i64 u.hi):=hcell 7 _ rfl
      have HTu:=Lib.hid (show Calls Tryd.prog 21 #[.agg #[.int .i64 u.kind,.int .u64 (u.set 0:Nat),.int .u64 (u.set 1:Nat),.int .u64 (u.set 2:Nat),.int .u64 (u.set 3:Nat),.slice ua uu uc,.int .i64 u.lo,.int .i64 u.hi]] wa fun e w'=>e=.returned (.tuple #[.bool (vdV u),.bool (nuV u)])∧Below wa.heap.size wa w' by
       have:=told_any 1000000 (Nat.le_refl _) u wa _ (HZU.out u hum) hlu (HJ.out.2.2.1 u hum)
       rwa [nodeAgg_v huv] at this)
      have HE:=Lib.hid (show leftT t.kind [] (erases (us.take (j+1)))=if dropT t.kind (erases ls) (erase u)=true then erases ls else erases ls ++ [erase u] by
       rw [List.take_add_one,hu,erases_append,left_append,← hle]
       simp only [Option.toList,erases,leftT])
      have HUM:=Lib.hid hum
      have HLN:=Lib.hid hln
      have HLU:=Lib.hid hlu
      have HA:=Lib.hid (And.intro huv (And.intro hb (And.intro hlo (And.intro hlm (And.intro hll (And.intro (show j+1≤us.length by omega) (And.intro hN (And.intro hgl hcell))))))))
      have HCB:=Lib.hid hcbr
      have hln7:ln≤300000:=by omega
      clear hN hrel hj1 hlo hlm hle hll hb hcbr hln hu hum hlu huv hownu hgl hcell hgv hunl
      go_wp2_with fail
      go_at_call 21
      refine HTu.out.mono ?_
      rintro e w5 ⟨rfl,hb5⟩
      have HB5:=Lib.hid hb5
      have hcb5:=(hb5.block _ (Array.getElem?_eq_some_iff.1 HCB.out).1).trans HCB.out
      clear c0 c1 c2 c3 c4 c5 c6 c7 y0 y1 y2 y3 y4 y5 y6 y7
      obtain ⟨c0,c1,c2,c3,c4,c5,c6,c7⟩:=cells8 hcb5
      have y0:w5.cell? ⟨g,j * 8,none⟩=some (.int .i64 u.kind):=(HB5.out.cell (p:=⟨g,_,none⟩) HA.out.2.2.2.2.2.2.2.1).trans (HA.out.2.2.2.2.2.2.2.2 0 _ rfl)
      have y1:w5.cell? ⟨g,j * 8+1,none⟩=some (.int .u64 (u.set 0:Nat)):=(HB5.out.cell (p:=⟨g,_,none⟩) HA.out.2.2.2.2.2.2.2.1).trans (HA.out.2.2.2.2.2.2.2.2 1 _ rfl)
      have y2:w5.cell? ⟨g,j * 8+2,none⟩=some (.int .u64 (u.set 1:Nat)):=(HB5.out.cell (p:=⟨g,_,none⟩) HA.out.2.2.2.2.2.2.2.1).trans (HA.out.2.2.2.2.2.2.2.2 2 _ rfl)
      have y3:w5.cell? ⟨g,j * 8+3,none⟩=some (.int .u64 (u.set 2:Nat)):=(HB5.out.cell (p:=⟨g,_,none⟩) HA.out.2.2.2.2.2.2.2.1).trans (HA.out.2.2.2.2.2.2.2.2 3 _ rfl)
      have y4:w5.cell? ⟨g,j * 8+4,none⟩=some (.int .u64 (u.set 3:Nat)):=(HB5.out.cell (p:=⟨g,_,none⟩) HA.out.2.2.2.2.2.2.2.1).trans (HA.out.2.2.2.2.2.2.2.2 4 _ rfl)
      have y5:w5.cell? ⟨g,j * 8+5,none⟩=some (.slice ua uu uc):=(HB5.out.cell (p:=⟨g,_,none⟩) HA.out.2.2.2.2.2.2.2.1).trans (HA.out.2.2.2.2.2.2.2.2 5 _ (by rw [← HA.out.1];rfl))
      have y6:w5.cell? ⟨g,j * 8+6,none⟩=some (.int .i64 u.lo):=(HB5.out.cell (p:=⟨g,_,none⟩) HA.out.2.2.2.2.2.2.2.1).trans (HA.out.2.2.2.2.2.2.2.2 6 _ rfl)
      have y7:w5.cell? ⟨g,j * 8+7,none⟩=some (.int .i64 u.hi):=(HB5.out.cell (p:=⟨g,_,none⟩) HA.out.2.2.2.2.2.2.2.1).trans (HA.out.2.2.2.2.2.2.2.2 7 _ rfl)
      clear hb5 hcb5
      have hkk:=HI.out.2.2.2.2.2.2.2
      by_cases hk2:t.kind=2
      ·have k2:(t.kind == 2)=true:=by simp [hk2]
       have k3:(t.kind == 3)=false:=by simp [hk2]
       by_cases hl0:0<ln
       ·have hl0':(0:Int)<(ln:Int):=by omega
        by_cases hu0:u.kind=0
        ·have u0:(u.kind == 0)=true:=by simp [hu0]
         have HD:=Lib.hid (show dropT t.kind (erases ls) (erase u)=true by rw [dropT,if_pos hk2,erase_kind];simp [hu0])
         clear hk2 hu0 hkk hl0
         go_wp2_with fail
         refine wp_loop_rounds 1 ?_
         rw [rounds_succ]
         go_wp2_with fail
         have HP:=Lib.hid (show LeftI w4 t.kind us (us.length - (j+1)) (.slice lA ln lC) (.int .i64 ((j:Int)+1)) w5 from ⟨j+1,ls,by push_cast;rfl,rfl,HA.out.2.2.2.2.2.1,own_chg HA.out.2.2.1 (Chg.of_below (R:=fun _=>False) (HB5.out)) fun _ _=>id,HA.out.2.2.2.1,by rw [HE.out,HD.out,if_pos rfl],by have:=HA.out.2.2.2.2.1;omega,bhop HA.out.2.1 (HB5.out)⟩)
         go_wp2_with fail
         go_roundw
         case rel=>exact ⟨_,HP.out⟩
         case measure =>
          rw [HA.out.2.2.2.2.2.2.1]
          refine Nat.lt_of_le_of_lt ((leastOf_spec ⟨_,HP.out⟩).2 _ HP.out) ?_
          have:=HA.out.2.2.2.2.2.1
          omega
        ·have u0:(u.kind == 0)=false:=by simp [hu0]
         have HD:=Lib.hid (show dropT t.kind (erases ls) (erase u)=false by rw [dropT,if_pos hk2,erase_kind];simp [hu0])
         clear hk2 hu0 hkk hl0
         go_wp2_with fail
         refine wp_loop_rounds 1 ?_
         rw [rounds_succ]
         have y0:w5.cell? ⟨g,j * 8,none⟩=some (.int .i64 u.kind):=((HB5.out).cell (p:=⟨g,_,none⟩) HA.out.2.2.2.2.2.2.2.1).trans (HA.out.2.2.2.2.2.2.2.2 0 _ rfl)
         have y1:w5.cell? ⟨g,j * 8+1,none⟩=some (.int .u64 (u.set 0:Nat)):=((HB5.out).cell (p:=⟨g,_,none⟩) HA.out.2.2.2.2.2.2.2.1).trans (HA.out.2.2.2.2.2.2.2.2 1 _ rfl)
         have y2:w5.cell? ⟨g,j * 8+2,none⟩=some (.int .u64 (u.set 1:Nat)):=((HB5.out).cell (p:=⟨g,_,none⟩) HA.out.2.2.2.2.2.2.2.1).trans (HA.out.2.2.2.2.2.2.2.2 2 _ rfl)
         have y3:w5.cell? ⟨g,j * 8+3,none⟩=some (.int .u64 (u.set 2:Nat)):=((HB5.out).cell (p:=⟨g,_,none⟩) HA.out.2.2.2.2.2.2.2.1).trans (HA.out.2.2.2.2.2.2.2.2 3 _ rfl)
         have y4:w5.cell? ⟨g,j * 8+4,none⟩=some (.int .u64 (u.set 3:Nat)):=((HB5.out).cell (p:=⟨g,_,none⟩) HA.out.2.2.2.2.2.2.2.1).trans (HA.out.2.2.2.2.2.2.2.2 4 _ rfl)
         have y5:w5.cell? ⟨g,j * 8+5,none⟩=some (.slice ua uu uc):=((HB5.out).cell (p:=⟨g,_,none⟩) HA.out.2.2.2.2.2.2.2.1).trans (HA.out.2.2.2.2.2.2.2.2 5 _ (by rw [← HA.out.1];rfl))
         have y6:w5.cell? ⟨g,j * 8+6,none⟩=some (.int .i64 u.lo):=((HB5.out).cell (p:=⟨g,_,none⟩) HA.out.2.2.2.2.2.2.2.1).trans (HA.out.2.2.2.2.2.2.2.2 6 _ rfl)
         have y7:w5.cell? ⟨g,j * 8+7,none⟩=some (.int .i64 u.hi):=((HB5.out).cell (p:=⟨g,_,none⟩) HA.out.2.2.2.2.2.2.2.1).trans (HA.out.2.2.2.2.2.2.2.2 7 _ rfl)
         have HO:=Lib.hid (And.intro (show w5.ownsRow w4.heap.size 27 8 (.slice lA ln lC) ln (flat ls) by have:=own_chg HA.out.2.2.1 (Chg.of_below (R:=fun _=>False) (HB5.out)) fun _ _=>id;rwa [← HLN.out] at this) (HB5.out))
         have hw4s:w4.heap.size≤w5.heap.size:=(bhop HA.out.2.1 HO.out.2).size
         go_wp2_with ((at_builtin;refine wpList_append_lies _ (by rfl) _ _ 25 (by rfl) w4.heap.size 27 i0 _ 8 80 Tryd.underlying25 hi hz0 hz1 hz2 rfl (by decide) (.slice lA ln lC) ln (flat ls) (by rfl) (HO.out.1.alloc _) ⟨w5.heap.size,0,none⟩ 1 1 (ndc u) (by rfl) ?c0 ?c1 ?c2 (by decide) ?c3 ?c4 ?c5 _ rfl ?_))
         case c0=>rfl
         case c1=>unfold ndc;rw [HA.out.1];first | exact World.news_of_block (heap_alloc_new w5 _) | exact fun _ _ h=>h
         case c2=>exact one_ndc u (by rw [HA.out.1];rfl)
         case c3=>unfold maxLen;omega
         case c4=>omega
         case c5=>simp;omega
         intro g5 cap5 w6 hown5 hgrow5 hat5 hlt5
         have HP:=Lib.hid (show LeftI w4 t.kind us (us.length - (j+1)) (.slice (some ⟨g5,0,none⟩) (ln+1) cap5) (.int .i64 ((j:Int)+1)) w6 from ⟨j+1,ls ++ [u],by push_cast;rfl,rfl,HA.out.2.2.2.2.2.1,by
          rw [flat_app,List.length_append,show flat [u]=ndc u by unfold flat;simp,← HLN.out]
          exact hown5,(fun x hx=>by
          rcases List.mem_append.1 hx with hx | hx
          ·exact HA.out.2.2.2.1 x hx
          ·rw [List.mem_singleton.1 hx];exact HUM.out),by
          rw [HE.out,HD.out,if_neg (by simp),erases_append,erases,erases],by have:=HA.out.2.2.2.2.1;rw [List.length_append,List.length_singleton];omega,(((Chg.of_below (R:=fun x=>w4.heap.size≤x) (bhop HA.out.2.1 HO.out.2)).alloc _).grown hgrow5 (fun k hk _=>(HO.out.1.lt k hk).1)).below (Nat.le_refl _) fun k hk e=>by omega⟩)
         clear hown5 hgrow5 hat5 hlt5
         go_wp2_with fail
         go_roundw
         case rel=>exact ⟨_,HP.out⟩
         case measure =>
          rw [HA.out.2.2.2.2.2.2.1]
          refine Nat.lt_of_le_of_lt ((leastOf_spec ⟨_,HP.out⟩).2 _ HP.out) ?_
          have:=HA.out.2.2.2.2.2.1
          omega
       ·have hl0':¬ (0:Int)<(ln:Int):=by omega
        by_cases hu0:u.kind=0
        ·have u0:(u.kind == 0)=true:=by simp [hu0]
         have HD:=Lib.hid (show dropT t.kind (erases ls) (erase u)=true by rw [dropT,if_pos hk2,erase_kind];simp [hu0])
         clear hk2 hu0 hkk hl0
         go_wp2_with fail
         refine wp_loop_rounds 1 ?_
         rw [rounds_succ]
         go_wp2_with fail
         have HP:=Lib.hid (show LeftI w4 t.kind us (us.length - (j+1)) (.slice lA ln lC) (.int .i64 ((j:Int)+1)) w5 from ⟨j+1,ls,by push_cast;rfl,rfl,HA.out.2.2.2.2.2.1,own_chg HA.out.2.2.1 (Chg.of_below (R:=fun _=>False) (HB5.out)) fun _ _=>id,HA.out.2.2.2.1,by rw [HE.out,HD.out,if_pos rfl],by have:=HA.out.2.2.2.2.1;omega,bhop HA.out.2.1 (HB5.out)⟩)
         go_wp2_with fail
         go_roundw
         case rel=>exact ⟨_,HP.out⟩
         case measure =>
          rw [HA.out.2.2.2.2.2.2.1]
          refine Nat.lt_of_le_of_lt ((leastOf_spec ⟨_,HP.out⟩).2 _ HP.out) ?_
          have:=HA.out.2.2.2.2.2.1
          omega
        ·have u0:(u.kind == 0)=false:=by simp [hu0]
         have HD:=Lib.hid (show dropT t.kind (erases ls) (erase u)=false by rw [dropT,if_pos hk2,erase_kind];simp [hu0])
         clear hk2 hu0 hkk hl0
         go_wp2_with fail
         refine wp_loop_rounds 1 ?_
         rw [rounds_succ]
         have y0:w5.cell? ⟨g,j * 8,none⟩=some (.int .i64 u.kind):=((HB5.out).cell (p:=⟨g,_,none⟩) HA.out.2.2.2.2.2.2.2.1).trans (HA.out.2.2.2.2.2.2.2.2 0 _ rfl)
         have y1:w5.cell? ⟨g,j * 8+1,none⟩=some (.int .u64 (u.set 0:Nat)):=((HB5.out).cell (p:=⟨g,_,none⟩) HA.out.2.2.2.2.2.2.2.1).trans (HA.out.2.2.2.2.2.2.2.2 1 _ rfl)
         have y2:w5.cell? ⟨g,j * 8+2,none⟩=some (.int .u64 (u.set 1:Nat)):=((HB5.out).cell (p:=⟨g,_,none⟩) HA.out.2.2.2.2.2.2.2.1).trans (HA.out.2.2.2.2.2.2.2.2 2 _ rfl)
         have y3:w5.cell? ⟨g,j * 8+3,none⟩=some (.int .u64 (u.set 2:Nat)):=((HB5.out).cell (p:=⟨g,_,none⟩) HA.out.2.2.2.2.2.2.2.1).trans (HA.out.2.2.2.2.2.2.2.2 3 _ rfl)
         have y4:w5.cell? ⟨g,j * 8+4,none⟩=some (.int .u64 (u.set 3:Nat)):=((HB5.out).cell (p:=⟨g,_,none⟩) HA.out.2.2.2.2.2.2.2.1).trans (HA.out.2.2.2.2.2.2.2.2 4 _ rfl)
         have y5:w5.cell? ⟨g,j * 8+5,none⟩=some (.slice ua uu uc):=((HB5.out).cell (p:=⟨g,_,none⟩) HA.out.2.2.2.2.2.2.2.1).trans (HA.out.2.2.2.2.2.2.2.2 5 _ (by rw [← HA.out.1];rfl))
         have y6:w5.cell? ⟨g,j * 8+6,none⟩=some (.int .i64 u.lo):=((HB5.out).cell (p:=⟨g,_,none⟩) HA.out.2.2.2.2.2.2.2.1).trans (HA.out.2.2.2.2.2.2.2.2 6 _ rfl)
         have y7:w5.cell? ⟨g,j * 8+7,none⟩=some (.int .i64 u.hi):=((HB5.out).cell (p:=⟨g,_,none⟩) HA.out.2.2.2.2.2.2.2.1).trans (HA.out.2.2.2.2.2.2.2.2 7 _ rfl)
         have HO:=Lib.hid (And.intro (show w5.ownsRow w4.heap.size 27 8 (.slice lA ln lC) ln (flat ls) by have:=own_chg HA.out.2.2.1 (Chg.of_below (R:=fun _=>False) (HB5.out)) fun _ _=>id;rwa [← HLN.out] at this) (HB5.out))
         have hw4s:w4.heap.size≤w5.heap.size:=(bhop HA.out.2.1 HO.out.2).size
         go_wp2_with ((at_builtin;refine wpList_append_lies _ (by rfl) _ _ 25 (by rfl) w4.heap.size 27 i0 _ 8 80 Tryd.underlying25 hi hz0 hz1 hz2 rfl (by decide) (.slice lA ln lC) ln (flat ls) (by rfl) (HO.out.1.alloc _) ⟨w5.heap.size,0,none⟩ 1 1 (ndc u) (by rfl) ?c0 ?c1 ?c2 (by decide) ?c3 ?c4 ?c5 _ rfl ?_))
         case c0=>rfl
         case c1=>unfold ndc;rw [HA.out.1];first | exact World.news_of_block (heap_alloc_new w5 _) | exact fun _ _ h=>h
         case c2=>exact one_ndc u (by rw [HA.out.1];rfl)
         case c3=>unfold maxLen;omega
         case c4=>omega
         case c5=>simp;omega
         intro g5 cap5 w6 hown5 hgrow5 hat5 hlt5
         have HP:=Lib.hid (show LeftI w4 t.kind us (us.length - (j+1)) (.slice (some ⟨g5,0,none⟩) (ln+1) cap5) (.int .i64 ((j:Int)+1)) w6 from ⟨j+1,ls ++ [u],by push_cast;rfl,rfl,HA.out.2.2.2.2.2.1,by
          rw [flat_app,List.length_append,show flat [u]=ndc u by unfold flat;simp,← HLN.out]
          exact hown5,(fun x hx=>by
          rcases List.mem_append.1 hx with hx | hx
          ·exact HA.out.2.2.2.1 x hx
          ·rw [List.mem_singleton.1 hx];exact HUM.out),by
          rw [HE.out,HD.out,if_neg (by simp),erases_append,erases,erases],by have:=HA.out.2.2.2.2.1;rw [List.length_append,List.length_singleton];omega,(((Chg.of_below (R:=fun x=>w4.heap.size≤x) (bhop HA.out.2.1 HO.out.2)).alloc _).grown hgrow5 (fun k hk _=>(HO.out.1.lt k hk).1)).below (Nat.le_refl _) fun k hk e=>by omega⟩)
         clear hown5 hgrow5 hat5 hlt5
         go_wp2_with fail
         go_roundw
         case rel=>exact ⟨_,HP.out⟩
         case measure =>
          rw [HA.out.2.2.2.2.2.2.1]
          refine Nat.lt_of_le_of_lt ((leastOf_spec ⟨_,HP.out⟩).2 _ HP.out) ?_
          have:=HA.out.2.2.2.2.2.1
          omega
      ·have hk3:t.kind=3:=by omega
       have k2:(t.kind == 2)=false:=by simp [hk3]
       have k3:(t.kind == 3)=true:=by simp [hk3]
       have HK3:=Lib.hid hk3
       clear hk2 hk3 hkk
       go_wp2_with fail
       go_loopw [14,15] (fun v x wr=>∃ n,DropI w5 u ls n v x wr) (fun v x wr=>leastOf (fun n=>DropI w5 u ls n v x wr))
       case atStart=>exact ⟨_,0,vdV u,rfl,rfl,rfl,Nat.zero_le _,by simp [erases],Below.refl _ _⟩
       case round =>
        have hls:=(leastOf_spec hrel).1
        obtain ⟨q,b,rfl,rfl,hN,hq1,hbq,hbi⟩:=hls
        have s5:(0:Int)≤(q:Int):=by omega
        have hbw5:Below wa.heap.size wa wr:=bhop HB5.out hbi
        have hcb6:=(hbw5.block _ (Array.getElem?_eq_some_iff.1 HCB.out).1).trans HCB.out
        clear c0 c1 c2 c3 c4 c5 c6 c7 y0 y1 y2 y3 y4 y5 y6 y7
        obtain ⟨c0,c1,c2,c3,c4,c5,c6,c7⟩:=cells8 hcb6
        by_cases hq:q<ln
        ·have s6:(q:Int)<(ln:Int):=by omega
         obtain ⟨a,ha⟩ : ∃ a,ls[q]? = some a:=⟨_,List.getElem?_eq_getElem (by have:=HLN.out;omega)⟩
         have ham:=List.mem_of_getElem? ha
         have haus:=HA.out.2.2.2.1 a ham
         have hla:=laid_low (laid_low (HJ.out.2.1 a haus) HA.out.2.1) hbw5
         obtain ⟨aa,an,ac,hav⟩:=hla.slice
         have hownl:=own_chg HA.out.2.2.1 (Chg.of_below (R:=fun _=>False) hbw5) fun _ _=>id
         rw [← HLN.out] at hownl
         obtain ⟨gl,glc,hglv,_,hgll⟩:=hownl.form (by have:=HLN.out;omega)
         simp only [Value.slice.injEq] at hglv
         obtain ⟨rfl,rfl⟩:=And.intro hglv.1 hglv.2.2
         have hxc:∀ j u',(ndc a)[j]? = some u'→wr.cell? ⟨gl,q * 8+j,none⟩=some u':=fun j u' hu'=>by
          have hq8:j<8:=by have:=(List.getElem?_eq_some_iff.1 hu').1;rwa [ndc_length] at this
          exact ((hownl.cellAt (q * 8+j) (by have:=HLN.out;omega)).trans (flat_at ls q a ha j hq8)).trans hu'
         have x0:wr.cell? ⟨gl,q * 8,none⟩=some (.int .i64 a.kind):=hxc 0 _ rfl
         have x1:wr.cell? ⟨gl,q * 8+1,none⟩=some (.int .u64 (a.set 0:Nat)):=hxc 1 _ rfl
         have x2:wr.cell? ⟨gl,q * 8+2,none⟩=some (.int .u64 (a.set 1:Nat)):=hxc 2 _ rfl
         have x3:wr.cell? ⟨gl,q * 8+3,none⟩=some (.int .u64 (a.set 2:Nat)):=hxc 3 _ rfl
         have x4:wr.cell? ⟨gl,q * 8+4,none⟩=some (.int .u64 (a.set 3:Nat)):=hxc 4 _ rfl
         have x5:wr.cell? ⟨gl,q * 8+5,none⟩=some (.slice aa an ac):=hxc 5 _ (by rw [← hav];rfl)
         have x6:wr.cell? ⟨gl,q * 8+6,none⟩=some (.int .i64 a.lo):=hxc 6 _ rfl
         have x7:wr.cell? ⟨gl,q * 8+7,none⟩=some (.int .i64 a.hi):=hxc 7 _ rfl
         have y0:wr.cell? ⟨g,j * 8,none⟩=some (.int .i64 u.kind):=(hbw5.cell (p:=⟨g,_,none⟩) HA.out.2.2.2.2.2.2.2.1).trans (HA.out.2.2.2.2.2.2.2.2 0 _ rfl)
         have y1:wr.cell? ⟨g,j * 8+1,none⟩=some (.int .u64 (u.set 0:Nat)):=(hbw5.cell (p:=⟨g,_,none⟩) HA.out.2.2.2.2.2.2.2.1).trans (HA.out.2.2.2.2.2.2.2.2 1 _ rfl)
         have y2:wr.cell? ⟨g,j * 8+2,none⟩=some (.int .u64 (u.set 1:Nat)):=(hbw5.cell (p:=⟨g,_,none⟩) HA.out.2.2.2.2.2.2.2.1).trans (HA.out.2.2.2.2.2.2.2.2 2 _ rfl)
         have y3:wr.cell? ⟨g,j * 8+3,none⟩=some (.int .u64 (u.set 2:Nat)):=(hbw5.cell (p:=⟨g,_,none⟩) HA.out.2.2.2.2.2.2.2.1).trans (HA.out.2.2.2.2.2.2.2.2 3 _ rfl)
         have y4:wr.cell? ⟨g,j * 8+4,none⟩=some (.int .u64 (u.set 3:Nat)):=(hbw5.cell (p:=⟨g,_,none⟩) HA.out.2.2.2.2.2.2.2.1).trans (HA.out.2.2.2.2.2.2.2.2 4 _ rfl)
         have y5:wr.cell? ⟨g,j * 8+5,none⟩=some (.slice ua uu uc):=(hbw5.cell (p:=⟨g,_,none⟩) HA.out.2.2.2.2.2.2.2.1).trans (HA.out.2.2.2.2.2.2.2.2 5 _ (by rw [← HA.out.1];rfl))
         have y6:wr.cell? ⟨g,j * 8+6,none⟩=some (.int .i64 u.lo):=(hbw5.cell (p:=⟨g,_,none⟩) HA.out.2.2.2.2.2.2.2.1).trans (HA.out.2.2.2.2.2.2.2.2 6 _ rfl)
         have y7:wr.cell? ⟨g,j * 8+7,none⟩=some (.int .i64 u.hi):=(hbw5.cell (p:=⟨g,_,none⟩) HA.out.2.2.2.2.2.2.2.1).trans (HA.out.2.2.2.2.2.2.2.2 7 _ rfl)
         have HSm:=Lib.hid (fun (W:World) (h:Below wr.heap.size wr W)=>by
          have:=same_ref 1000000 (Nat.le_refl _) a u W _ _ (HZU.out a haus) (laid_low hla h) (laid_low (laid_low HLU.out hbw5) h)
          rw [nodeAgg_v hav,nodeAgg_v HA.out.1] at this
          exact this)
         have HE2:=Lib.hid (show (vdV u || (erases (ls.take (q+1))).any fun a=>likeT a (erase u))=(b || likeT (erase a) (erase u)) by
          rw [hbq,List.take_add_one,ha,erases_append,List.any_append,Bool.or_assoc]
          simp [erases])
         have HW:=Lib.hid hbi
         have HN:=Lib.hid hN
         have HQ1:=Lib.hid (show q+1≤ls.length by have:=HLN.out;omega)
         clear hN hrel hq1 hbq hbi hbw5 hcb6 hq ha ham haus hla hav hownl hgll hxc hglv
         cases b with
         | true =>
          have HP:=Lib.hid (show ∀ W:World,Below wr.heap.size wr W→DropI w5 u ls (ls.length - (q+1)) (.bool true) (.int .i64 ((q:Int)+1)) W from fun W h=>⟨q+1,true,by push_cast;rfl,rfl,rfl,HQ1.out,by rw [HE2.out];rfl,bhop HW.out h⟩)
          go_wp2_with fail
          go_quiet (fail)
          go_wp2_with fail
          go_roundw
          case rel=>exact ⟨_,HP.out _ (below_drewN (Below.refl _ _) _)⟩
          case measure =>
           rw [HN.out]
           refine Nat.lt_of_le_of_lt ((leastOf_spec ⟨_,HP.out _ (below_drewN (Below.refl _ _) _)⟩).2 _ (HP.out _ (below_drewN (Below.refl _ _) _))) ?_
           have:=HQ1.out
           omega
         | false =>
          have HP:=Lib.hid (show ∀ W:World,Below wr.heap.size wr W→DropI w5 u ls (ls.length - (q+1)) (.bool (likeT (erase a) (erase u))) (.int .i64 ((q:Int)+1)) W from fun W h=>⟨q+1,_,by push_cast;rfl,rfl,rfl,HQ1.out,by rw [HE2.out];rfl,bhop HW.out h⟩)
          go_wp2_with fail
          go_still_tail 10,(by kernel_rfl)
          change wpList _ _ _ _ _ wr.drew
          have HD:=Lib.hid (show Below wr.heap.size wr wr.drew from (Below.refl _ wr).drew)
          generalize wr.drew=wd at *
          go_wp2_with fail
          go_at_call 24
          refine (HSm.out _ HD.out).mono ?_
          rintro e w6 ⟨rfl,hb6⟩
          have HQ:=Lib.hid (HP.out w6 (bhop HD.out hb6))
          clear hb6
          go_wp2_with fail
          go_roundw
          case rel=>exact ⟨_,HQ.out⟩
          case measure =>
           rw [HN.out]
           refine Nat.lt_of_le_of_lt ((leastOf_spec ⟨_,HQ.out⟩).2 _ HQ.out) ?_
           have:=HQ1.out
           omega
        ·have s6:¬ (q:Int)<(ln:Int):=by omega
         have HD0:=Lib.hid (show dropT t.kind (erases ls) (erase u)=b by
          rw [dropT,if_neg (by have:=HK3.out;omega),hbq,List.take_of_length_le (by have:=HLN.out;omega)]
          rfl)
         have HW:=Lib.hid hbw5
         clear hN hrel hq1 hbq hbi hbw5 hcb6 hq
         cases b with
         | true =>
          have HD:=Lib.hid HD0.out
          go_wp2_with fail
          have HP:=Lib.hid (show LeftI w4 t.kind us (us.length - (j+1)) (.slice lA ln lC) (.int .i64 ((j:Int)+1)) wr from ⟨j+1,ls,by push_cast;rfl,rfl,HA.out.2.2.2.2.2.1,own_chg HA.out.2.2.1 (Chg.of_below (R:=fun _=>False) (HW.out)) fun _ _=>id,HA.out.2.2.2.1,by rw [HE.out,HD.out,if_pos rfl],by have:=HA.out.2.2.2.2.1;omega,bhop HA.out.2.1 (HW.out)⟩)
          go_wp2_with fail
          go_roundw
          case rel=>exact ⟨_,HP.out⟩
          case measure =>
           rw [HA.out.2.2.2.2.2.2.1]
           refine Nat.lt_of_le_of_lt ((leastOf_spec ⟨_,HP.out⟩).2 _ HP.out) ?_
           have:=HA.out.2.2.2.2.2.1
           omega
         | false =>
          have HD:=Lib.hid HD0.out
          have y0:wr.cell? ⟨g,j * 8,none⟩=some (.int .i64 u.kind):=((HW.out).cell (p:=⟨g,_,none⟩) HA.out.2.2.2.2.2.2.2.1).trans (HA.out.2.2.2.2.2.2.2.2 0 _ rfl)
          have y1:wr.cell? ⟨g,j * 8+1,none⟩=some (.int .u64 (u.set 0:Nat)):=((HW.out).cell (p:=⟨g,_,none⟩) HA.out.2.2.2.2.2.2.2.1).trans (HA.out.2.2.2.2.2.2.2.2 1 _ rfl)
          have y2:wr.cell? ⟨g,j * 8+2,none⟩=some (.int .u64 (u.set 1:Nat)):=((HW.out).cell (p:=⟨g,_,none⟩) HA.out.2.2.2.2.2.2.2.1).trans (HA.out.2.2.2.2.2.2.2.2 2 _ rfl)
          have y3:wr.cell? ⟨g,j * 8+3,none⟩=some (.int .u64 (u.set 2:Nat)):=((HW.out).cell (p:=⟨g,_,none⟩) HA.out.2.2.2.2.2.2.2.1).trans (HA.out.2.2.2.2.2.2.2.2 3 _ rfl)
          have y4:wr.cell? ⟨g,j * 8+4,none⟩=some (.int .u64 (u.set 3:Nat)):=((HW.out).cell (p:=⟨g,_,none⟩) HA.out.2.2.2.2.2.2.2.1).trans (HA.out.2.2.2.2.2.2.2.2 4 _ rfl)
          have y5:wr.cell? ⟨g,j * 8+5,none⟩=some (.slice ua uu uc):=((HW.out).cell (p:=⟨g,_,none⟩) HA.out.2.2.2.2.2.2.2.1).trans (HA.out.2.2.2.2.2.2.2.2 5 _ (by rw [← HA.out.1];rfl))
          have y6:wr.cell? ⟨g,j * 8+6,none⟩=some (.int .i64 u.lo):=((HW.out).cell (p:=⟨g,_,none⟩) HA.out.2.2.2.2.2.2.2.1).trans (HA.out.2.2.2.2.2.2.2.2 6 _ rfl)
          have y7:wr.cell? ⟨g,j * 8+7,none⟩=some (.int .i64 u.hi):=((HW.out).cell (p:=⟨g,_,none⟩) HA.out.2.2.2.2.2.2.2.1).trans (HA.out.2.2.2.2.2.2.2.2 7 _ rfl)
          have HO:=Lib.hid (And.intro (show wr.ownsRow w4.heap.size 27 8 (.slice lA ln lC) ln (flat ls) by have:=own_chg HA.out.2.2.1 (Chg.of_below (R:=fun _=>False) (HW.out)) fun _ _=>id;rwa [← HLN.out] at this) (HW.out))
          have hw4s:w4.heap.size≤wr.heap.size:=(bhop HA.out.2.1 HO.out.2).size
          go_wp2_with ((at_builtin;refine wpList_append_lies _ (by rfl) _ _ 25 (by rfl) w4.heap.size 27 i0 _ 8 80 Tryd.underlying25 hi hz0 hz1 hz2 rfl (by decide) (.slice lA ln lC) ln (flat ls) (by rfl) (HO.out.1.alloc _) ⟨wr.heap.size,0,none⟩ 1 1 (ndc u) (by rfl) ?c0 ?c1 ?c2 (by decide) ?c3 ?c4 ?c5 _ rfl ?_))
          case c0=>rfl
          case c1=>unfold ndc;rw [HA.out.1];first | exact World.news_of_block (heap_alloc_new wr _) | exact fun _ _ h=>h
          case c2=>exact one_ndc u (by rw [HA.out.1];rfl)
          case c3=>unfold maxLen;omega
          case c4=>omega
          case c5=>first | omega | (simp;omega)
          intro g5 cap5 w6 hown5 hgrow5 hat5 hlt5
          have HP:=Lib.hid (show LeftI w4 t.kind us (us.length - (j+1)) (.slice (some ⟨g5,0,none⟩) (ln+1) cap5) (.int .i64 ((j:Int)+1)) w6 from ⟨j+1,ls ++ [u],by push_cast;rfl,rfl,HA.out.2.2.2.2.2.1,by
           rw [flat_app,List.length_append,show flat [u]=ndc u by unfold flat;simp,← HLN.out]
           exact hown5,(fun x hx=>by
           rcases List.mem_append.1 hx with hx | hx
           ·exact HA.out.2.2.2.1 x hx
           ·rw [List.mem_singleton.1 hx];exact HUM.out),by
           rw [HE.out,HD.out,if_neg (by simp),erases_append,erases,erases],by have:=HA.out.2.2.2.2.1;rw [List.length_append,List.length_singleton];omega,(((Chg.of_below (R:=fun x=>w4.heap.size≤x) (bhop HA.out.2.1 HO.out.2)).alloc _).grown hgrow5 (fun k hk _=>(HO.out.1.lt k hk).1)).below (Nat.le_refl _) fun k hk e=>by omega⟩)
          clear hown5 hgrow5 hat5 hlt5
          go_wp2_with fail
          go_roundw
          case rel=>exact ⟨_,HP.out⟩
          case measure =>
           rw [HA.out.2.2.2.2.2.2.1]
           refine Nat.lt_of_le_of_lt ((leastOf_spec ⟨_,HP.out⟩).2 _ HP.out) ?_
           have:=HA.out.2.2.2.2.2.1
           omega
     ·have s4:¬ (j:Int)<(un:Int):=by omega
      have hj2:j=us.length:=by have:=HJ.out.2.2.2.2.2.2;omega
      have hle2:erases ls=leftT t.kind [] (erases us):=by rw [hle,hj2,List.take_length]
      have hzr:ZB8 (w.heap.size+1) wr:=(hb.block _ (Array.getElem?_eq_some_iff.1 HJ.out.2.2.2.2.2.1).1).trans HJ.out.2.2.2.2.2.1
      have hRL:RowB wr w3.heap.size (.slice lA ln lC) ls:=⟨own_low hlo (by omega),fun u hu=>(HJ.out.2.1 u (hlm u hu)).keep (fun x hx hr=>⟨hr.1,by have:=hb.size;omega,fun e=>by have:=(hlo.lt x e).1;omega⟩) hb.size fun k hk _=>hb.block k hk⟩
      obtain ⟨⟨z0,z1,z2,z3,z4,z5,z6,z7⟩,f0,f1,f2,f3,f4,f5,f6,f7,hzl⟩:=hzr.cells
      have HQ:=Lib.hid (And.intro hle2 (And.intro hzr (And.intro hRL (And.intro hb hln))))
      have hlz:ln=ls.length:=hln
      clear hN hrel hj1 hlo hlm hle hll hb hcbr hj2 hle2 hzr hRL hln
      by_cases e0:ln=0
      ·have hl0:ls=[]:=List.length_eq_zero_iff.1 (by omega)
       have HZ:=Lib.hid (show simT (erase t)=noT by rw [HS.out,← HQ.out.1,hl0];rfl)
       subst e0
       clear hlz hl0
       go_wp2_with fail
       clear z0 z1 z2 z3 z4 z5 z6 z7 f0 f1 f2 f3 f4 f5 f6 f7 c0 c1 c2 c3 c4 c5 c6 c7
       have hf:=set8x_heap HQ.out.2.1 (.int .i64 0) (.int .u64 0) (.int .u64 0) (.int .u64 0) (.int .u64 0) (.slice none 0 0) (.int .i64 0) (.int .i64 0)
       have hch:=set8x_chg wr (w.heap.size+1) (.int .i64 0) (.int .u64 0) (.int .u64 0) (.int .u64 0) (.int .u64 0) (.slice none 0 0) (.int .i64 0) (.int .i64 0)
       generalize ((((((((wr.setCell ⟨w.heap.size+1,0,none⟩ (.int .i64 0)).setCell ⟨w.heap.size+1,1,none⟩ (.int .u64 0)).setCell ⟨w.heap.size+1,2,none⟩ (.int .u64 0)).setCell ⟨w.heap.size+1,3,none⟩ (.int .u64 0)).setCell ⟨w.heap.size+1,4,none⟩ (.int .u64 0)).setCell ⟨w.heap.size+1,5,none⟩ (.slice none 0 0)).setCell ⟨w.heap.size+1,6,none⟩ (.int .i64 0)).setCell ⟨w.heap.size+1,7,none⟩ (.int .i64 0))=w6 at *
       obtain ⟨r0,r1,r2,r3,r4,r5,r6,r7⟩:=cells8 hf
       have hbt:Below w.heap.size w wr:=HJ.out.2.2.2.1.trans (HQ.out.2.2.2.1.mono HJ.out.2.2.2.1.size)
       refine bodyPost_ret (v:=.agg #[.int .i64 0,.int .u64 0,.int .u64 0,.int .u64 0,.int .u64 0,.slice none 0 0,.int .i64 0,.int .i64 0]) (by simp [results,Tryd.results12,go_sem,r0,r1,r2,r3,r4,r5,r6,r7]) rfl ⟨⟨.node 0 zeros 0 0 (.slice none 0 0) [],rfl,HZ.out.symm,.none _ _ _ _ _ _⟩,hbt.trans (hch.below (by have:=hbt.size;omega) fun k hk e=>by omega)⟩
      ·by_cases e1:ln=1
       ·obtain ⟨u,hl1⟩ : ∃ u,ls=[u]:=by
         match ls,(by omega:ls.length=1) with
         | [u],_=>exact ⟨u,rfl⟩
        have HZ:=Lib.hid (show simT (erase t)=erase u by rw [HS.out,← HQ.out.1,hl1];simp only [erases];rfl)
        subst hl1
        subst e1
        have hlu:=HQ.out.2.2.1.kids u (by simp)
        obtain ⟨ua,uu,uc,huv⟩:=hlu.slice
        have hown:=HQ.out.2.2.1.own
        obtain ⟨g,gc,hgv,_,hgl⟩:=hown.form (by simp)
        simp only [Value.slice.injEq] at hgv
        obtain ⟨rfl,rfl⟩:=And.intro hgv.1 hgv.2.2
        have hcell:∀ j u',(ndc u)[j]? = some u'→wr.cell? ⟨g,j,none⟩=some u':=fun j u' hu=>by
         have hj:j<8:=by have:=(List.getElem?_eq_some_iff.1 hu).1;rwa [ndc_length] at this
         refine (hown.cellAt j (by simp;omega)).trans ?_
         have:=flat_at [u] 0 u rfl j hj
         rw [Nat.zero_mul,Nat.zero_add] at this
         exact this.trans hu
        have y0:wr.cell? ⟨g,0,none⟩=some (.int .i64 u.kind):=hcell 0 _ rfl
        have y1:wr.cell? ⟨g,1,none⟩=some (.int .u64 (u.set 0:Nat)):=hcell 1 _ rfl
        have y2:wr.cell? ⟨g,2,none⟩=some (.int .u64 (u.set 1:Nat)):=hcell 2 _ rfl
        have y3:wr.cell? ⟨g,3,none⟩=some (.int .u64 (u.set 2:Nat)):=hcell 3 _ rfl
        have y4:wr.cell? ⟨g,4,none⟩=some (.int .u64 (u.set 3:Nat)):=hcell 4 _ rfl
        have y5:wr.cell? ⟨g,5,none⟩=some (.slice ua uu uc):=hcell 5 _ (by rw [← huv];rfl)
        have y6:wr.cell? ⟨g,6,none⟩=some (.int .i64 u.lo):=hcell 6 _ rfl
        have y7:wr.cell? ⟨g,7,none⟩=some (.int .i64 u.hi):=hcell 7 _ rfl
        have HU:=Lib.hid (And.intro huv hlu)
        clear hlz e0 hgv hown hcell hlu huv
        go_wp2_with fail
        clear y0 y1 y2 y3 y4 y5 y6 y7
        clear z0 z1 z2 z3 z4 z5 z6 z7 f0 f1 f2 f3 f4 f5 f6 f7 c0 c1 c2 c3 c4 c5 c6 c7
        have hf:=set8x_heap HQ.out.2.1 (.int .i64 u.kind) (.int .u64 (u.set 0:Nat)) (.int .u64 (u.set 1:Nat)) (.int .u64 (u.set 2:Nat)) (.int .u64 (u.set 3:Nat)) (.slice ua uu uc) (.int .i64 u.lo) (.int .i64 u.hi)
        have hch:=set8x_chg wr (w.heap.size+1) (.int .i64 u.kind) (.int .u64 (u.set 0:Nat)) (.int .u64 (u.set 1:Nat)) (.int .u64 (u.set 2:Nat)) (.int .u64 (u.set 3:Nat)) (.slice ua uu uc) (.int .i64 u.lo) (.int .i64 u.hi)
        generalize ((((((((wr.setCell ⟨w.heap.size+1,0,none⟩ (.int .i64 u.kind)).setCell ⟨w.heap.size+1,1,none⟩ (.int .u64 (u.set 0:Nat))).setCell ⟨w.heap.size+1,2,none⟩ (.int .u64 (u.set 1:Nat))).setCell ⟨w.heap.size+1,3,none⟩ (.int .u64 (u.set 2:Nat))).setCell ⟨w.heap.size+1,4,none⟩ (.int .u64 (u.set 3:Nat))).setCell ⟨w.heap.size+1,5,none⟩ (.slice ua uu uc)).setCell ⟨w.heap.size+1,6,none⟩ (.int .i64 u.lo)).setCell ⟨w.heap.size+1,7,none⟩ (.int .i64 u.hi))=w6 at *
        obtain ⟨r0,r1,r2,r3,r4,r5,r6,r7⟩:=cells8 hf
        have hbt:Below w.heap.size w wr:=HJ.out.2.2.2.1.trans (HQ.out.2.2.2.1.mono HJ.out.2.2.2.1.size)
        refine bodyPost_ret (v:=.agg #[.int .i64 u.kind,.int .u64 (u.set 0:Nat),.int .u64 (u.set 1:Nat),.int .u64 (u.set 2:Nat),.int .u64 (u.set 3:Nat),.slice ua uu uc,.int .i64 u.lo,.int .i64 u.hi]) (by simp [results,Tryd.results12,go_sem,r0,r1,r2,r3,r4,r5,r6,r7]) rfl ⟨⟨u,by rw [nodeAgg_v HU.out.1],HZ.out.symm,?_⟩,hbt.trans (hch.below (by have:=hbt.size;omega) fun k hk e=>by omega)⟩
        exact HU.out.2.keep (fun x hx hr=>⟨by omega,by have:=hch.size;omega⟩) hch.size fun x hx hr=>hch.block x hx fun e=>by omega
       ·have HZ:=Lib.hid (show simT (erase t)=.node t.kind zeros 0 0 (erases ls) by
         rw [HS.out,← HQ.out.1]
         match ls,hlz with
         | [],h=>exact absurd h e0
         | [_],h=>exact absurd h e1
         | a :: b :: l,_=>simp only [erases];rfl)
        have m1:((ln:Int) == 0)=false:=by simp;omega
        have m2:((ln:Int) == 1)=false:=by simp;omega
        have m3:¬ (ln:Int)=1:=by omega
        clear hlz
        go_wp2_with fail
        clear z0 z1 z2 z3 z4 z5 z6 z7 f0 f1 f2 f3 f4 f5 f6 f7 c0 c1 c2 c3 c4 c5 c6 c7
        have hf:=set8x_heap HQ.out.2.1 (.int .i64 t.kind) (.int .u64 0) (.int .u64 0) (.int .u64 0) (.int .u64 0) (.slice lA ln lC) (.int .i64 0) (.int .i64 0)
        have hch:=set8x_chg wr (w.heap.size+1) (.int .i64 t.kind) (.int .u64 0) (.int .u64 0) (.int .u64 0) (.int .u64 0) (.slice lA ln lC) (.int .i64 0) (.int .i64 0)
        generalize ((((((((wr.setCell ⟨w.heap.size+1,0,none⟩ (.int .i64 t.kind)).setCell ⟨w.heap.size+1,1,none⟩ (.int .u64 0)).setCell ⟨w.heap.size+1,2,none⟩ (.int .u64 0)).setCell ⟨w.heap.size+1,3,none⟩ (.int .u64 0)).setCell ⟨w.heap.size+1,4,none⟩ (.int .u64 0)).setCell ⟨w.heap.size+1,5,none⟩ (.slice lA ln lC)).setCell ⟨w.heap.size+1,6,none⟩ (.int .i64 0)).setCell ⟨w.heap.size+1,7,none⟩ (.int .i64 0))=w6 at *
        obtain ⟨r0,r1,r2,r3,r4,r5,r6,r7⟩:=cells8 hf
        have hbt:Below w.heap.size w wr:=HJ.out.2.2.2.1.trans (HQ.out.2.2.2.1.mono HJ.out.2.2.2.1.size)
        refine bodyPost_ret (v:=.agg #[.int .i64 t.kind,.int .u64 0,.int .u64 0,.int .u64 0,.int .u64 0,.slice lA ln lC,.int .i64 0,.int .i64 0]) (by simp [results,Tryd.results12,go_sem,r0,r1,r2,r3,r4,r5,r6,r7]) rfl ⟨⟨.node t.kind zeros 0 0 (.slice lA ln lC) ls,rfl,?_,?_⟩,hbt.trans (hch.below (by have:=hbt.size;omega) fun k hk e=>by omega)⟩
        ·rw [HZ.out,erase]
        ·exact (HQ.out.2.2.1.laid t.kind zeros 0 0).keep (fun x hx hr=>⟨by omega,by have:=hch.size;omega⟩) hch.size fun x hx hr=>hch.block x hx fun e=>by omega
end Go.Proofs.YtjcfmbmepmlckaaDoor
