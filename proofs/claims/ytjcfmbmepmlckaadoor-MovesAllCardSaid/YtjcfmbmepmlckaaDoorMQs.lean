/- The document's own Simple of what is void, and of leaves: contracts.
   Conditions: the tree lies in memory, and is formed. -/
import Derived.Test.YtjcfmbmepmlckaaDoorMVoid
import Derived.Test.YtjcfmbmepmlckaaDoorMPi
import Derived.Deep.LoopGhost
import Derived.Deep.DeepCutAuto
import Derived.Test.YtjcfmbmepmlckaaDoorMTold
import Derived.Test.YtjcfmbmepmlckaaDoorMWk

/- The document's own spread: a contract.
   Conditions: the trees lie in memory, those of the kind have parts. -/
namespace Go.Proofs.YtjcfmbmepmlckaaDoor
open Go.RowKit Go.Shelf
attribute [local go_sem] nodeAgg
def spV (k:Int) (ts:List V):List V:=ts.flatMap fun t=>if t.kind=k then t.ps else [t]
theorem spV_erase (k:Int):∀ ts:List V,erases (spV k ts)=spreadT k (erases ts)
 | []=>rfl
 | t :: ts=>by
  have ih:=spV_erase k ts
  unfold spV at ih ⊢
  rw [List.flatMap_cons,erases_append,ih,erases,spreadT,erase_kind]
  congr 1
  split
  ·rw [erase_ps]
  ·rw [erases,erases]
theorem spV_take {k:Int} {ts:List V} {i:Nat} {t:V} (h:ts[i]? = some t):spV k (ts.take (i+1))=spV k (ts.take i) ++ (if t.kind=k then t.ps else [t]):=by
 unfold spV
 rw [List.take_add_one,h,List.flatMap_append]
 simp
theorem spV_le (k:Int) (ts:List V) (i:Nat):(spV k (ts.take i)).length≤(spV k ts).length:=by
 have h:spV k ts=spV k (ts.take i) ++ spV k (ts.drop i):=by
  unfold spV
  rw [← List.flatMap_append,List.take_append_drop]
 rw [h,List.length_append]
 omega
theorem flat_app (a b:List V):flat (a ++ b)=flat a ++ flat b:=by unfold flat;rw [List.flatMap_append]
theorem one_flat {w:World} {R:Nat→Prop} {ps:List V} (h:∀ p∈ps,Laid w R p):∀ u∈flat ps,u.oneCell'=true:=by
 intro u hu
 obtain ⟨x,hx,hux⟩:=List.mem_flatMap.1 hu
 obtain ⟨a',n',c',hxv⟩:=(h x hx).slice
 exact one_ndc x (by rw [hxv];rfl) u hux
theorem laid_news {w:World} {R:Nat→Prop} {t:V} (h:Laid w R t) (hne:t.ps≠[]):∃ sb so sc,t.v=.slice (some ⟨sb,so,none⟩) t.ps.length sc∧∀ j u,(flat t.ps)[j]? = some u→w.cell? ((⟨sb,so,none⟩ : Addr).add j)=some u:=by
 rcases laid_inv h with ⟨h1,_⟩ | ⟨b,off,cap,hv,_,_,_,hc,_⟩
 ·exact absurd h1 hne
 ·refine ⟨b,off,cap,hv,fun j u hu=>?_⟩
  have hadd:(⟨b,off,none⟩ : Addr).add j=⟨b,off+j,none⟩:=by unfold Addr.add;split <;> simp_all
  have hjl:j<(flat t.ps).length:=(List.getElem?_eq_some_iff.1 hu).1
  rw [flat_length] at hjl
  have hi:j / 8<t.ps.length:=by omega
  have hp:t.ps[j / 8]? = some t.ps[j / 8]:=List.getElem?_eq_getElem hi
  have h8:=flat_at t.ps (j / 8) _ hp (j % 8) (by omega)
  rw [show j / 8 * 8+j % 8=j by omega,hu] at h8
  rw [hadd]
  have:=hc (j / 8) _ hp (j % 8) u h8.symm
  rwa [show off+j / 8 * 8+j % 8=off+j by omega] at this
def SprI (w:World) (k:Int) (ts:List V) (n:Nat) (out x:Value) (wr:World):Prop:=∃ i:Nat,x=.int .i64 i∧n=ts.length - i∧i≤ts.length∧wr.ownsRow w.heap.size 27 8 out (spV k (ts.take i)).length (flat (spV k (ts.take i)))∧Below w.heap.size w wr
set_option maxHeartbeats 4000000 in
set_option maxRecDepth 100000 in
theorem spread_any (w:World) (a:Nat) (k:Int) (v:Value) (ts:List V) (R:Nat→Prop) (hown:w.ownsRow a 27 8 v ts.length (flat ts)) (hk:∀ t∈ts,Laid w R t) (hne:∀ t∈ts,t.kind=k→t.ps≠[]) (hsz:(spV k ts).length≤1000000) (hsz2:ts.length≤1000000) :
  Calls Tryd.prog 23 #[.int .i64 k,v] w fun e w'=>∃ v',e=.returned v'∧w'.ownsRow w.heap.size 27 8 v' (spV k ts).length (flat (spV k ts))∧Below w.heap.size w w':=by
 obtain ⟨i0,hi,hz0,hz1,hz2⟩:=info_parts info27
 obtain ⟨A,c,hv⟩:=own_form hown
 obtain ⟨n,hn⟩ : ∃ n,n=ts.length:=⟨_,rfl⟩
 rw [← hn] at hv
 subst hv
 have q1:(0:Int)≤(n:Int):=by omega
 have HH:=Lib.hid (And.intro hown (And.intro hk (And.intro hne (And.intro hsz (And.intro hsz2 hn)))))
 clear hown hk hne hsz hsz2 hn
 go_enter Tryd.func23,Tryd.ntmps23
 go_wp2_with fail
 go_loopw [5,6] (fun out x wr=>∃ m,SprI w k ts m out x wr) (fun out x wr=>leastOf (fun m=>SprI w k ts m out x wr))
 case atStart=>exact ⟨_,0,rfl,rfl,by omega,World.ownsRow_nil _ _ _ _,Below.refl _ _⟩
 case round =>
  have hls:=(leastOf_spec hrel).1
  obtain ⟨i,rfl,hN,hi1,ho,hb⟩:=hls
  have HN:=Lib.hid hN
  have hnn:=HH.out.2.2.2.2.2
  have s1:(0:Int)≤(i:Int):=by omega
  obtain ⟨oA,oC,hov⟩:=own_form ho
  obtain ⟨on,hon⟩ : ∃ on,on=(spV k (ts.take i)).length:=⟨_,rfl⟩
  rw [← hon] at hov
  subst hov
  by_cases g4:i<n
  ·have s2:(i:Int)<(n:Int):=by omega
   obtain ⟨t,ht⟩ : ∃ t,ts[i]? = some t:=⟨_,List.getElem?_eq_getElem (by omega)⟩
   have htm:=List.mem_of_getElem? ht
   have hlt:=HH.out.2.1 t htm
   obtain ⟨ta,tn,tc,htv⟩:=hlt.slice
   have hownr:=own_chg HH.out.1 (Chg.of_below (R:=fun _=>False) hb) fun _ _=>id
   rw [← hnn] at hownr
   obtain ⟨g,gc,hgv,_,hgl⟩:=hownr.form (by omega)
   simp only [Value.slice.injEq] at hgv
   obtain ⟨rfl,rfl⟩:=And.intro hgv.1 hgv.2.2
   clear hgv
   have hcell:∀ j u,(ndc t)[j]? = some u→wr.cell? ⟨g,i * 8+j,none⟩=some u:=fun j u hu=>by
    have hj:j<8:=by have:=(List.getElem?_eq_some_iff.1 hu).1;rwa [ndc_length] at this
    exact ((hownr.cellAt (i * 8+j) (by omega)).trans (flat_at ts i t ht j hj)).trans hu
   have y0:wr.cell? ⟨g,i * 8,none⟩=some (.int .i64 t.kind):=hcell 0 _ rfl
   have y1:wr.cell? ⟨g,i * 8+1,none⟩=some (.int .u64 (t.set 0:Nat)):=hcell 1 _ rfl
   have y2:wr.cell? ⟨g,i * 8+2,none⟩=some (.int .u64 (t.set 1:Nat)):=hcell 2 _ rfl
   have y3:wr.cell? ⟨g,i * 8+3,none⟩=some (.int .u64 (t.set 2:Nat)):=hcell 3 _ rfl
   have y4:wr.cell? ⟨g,i * 8+4,none⟩=some (.int .u64 (t.set 3:Nat)):=hcell 4 _ rfl
   have y5:wr.cell? ⟨g,i * 8+5,none⟩=some (.slice ta tn tc):=hcell 5 _ (by rw [← htv];rfl)
   have y6:wr.cell? ⟨g,i * 8+6,none⟩=some (.int .i64 t.lo):=hcell 6 _ rfl
   have y7:wr.cell? ⟨g,i * 8+7,none⟩=some (.int .i64 t.hi):=hcell 7 _ rfl
   have hst:=spV_take (k:=k) ht
   have hle:=spV_le k ts (i+1)
   rw [hst,List.length_append,← hon] at hle
   have hz:=HH.out.2.2.2.1
   have hbw:=hb.size
   have hn7:n≤1000000:=by have:=HH.out.2.2.2.2.1;omega
   have hil:i+1≤ts.length:=by omega
   by_cases hkk:t.kind=k
   ·have g1:(t.kind == k)=true:=by simp [hkk]
    rw [if_pos hkk] at hst hle
    obtain ⟨sb,so,sc,htv2,hnews⟩:=laid_news (laid_low hlt hb) (HH.out.2.2.1 t htm hkk)
    rw [htv] at htv2
    simp only [Value.slice.injEq] at htv2
    obtain ⟨rfl,rfl,rfl⟩:=htv2
    have hpl:0<t.ps.length:=List.length_pos_iff.2 (HH.out.2.2.1 t htm hkk)
    obtain ⟨tn,htn⟩ : ∃ tn,tn=t.ps.length:=⟨_,rfl⟩
    rw [← htn] at y5 hle hpl
    rw [← hon] at ho
    have HO:=Lib.hid (And.intro ho (And.intro hnews (And.intro (one_flat (fun p hp=>(by
     rcases laid_inv (laid_low hlt hb) with ⟨h1,_⟩ | ⟨_,_,_,_,_,_,_,_,h9⟩
     ·rw [h1] at hp;cases hp
     ·exact h9 p hp):∀ p∈t.ps,Laid wr R p)) (And.intro htn (And.intro hst (And.intro hb (And.intro hon hN)))))))
    clear ho hnews hst hb hon hN hrel htv hownr hcell htm ht hlt hkk htn hnn
    go_wp2_with ((at_builtin;refine wpList_append_lies _ (by rfl) _ _ 25 (by rfl) w.heap.size 27 i0 _ 8 80 Tryd.underlying25 hi hz0 hz1 hz2 rfl (by decide) (.slice oA on oC) on (flat (spV k (ts.take i))) (by rfl) HO.out.1 ⟨sb,so,none⟩ tn tc (flat t.ps) (by rfl) ?c0 HO.out.2.1 HO.out.2.2.1 (by omega) ?c3 ?c4 ?c5 _ rfl ?_))
    case c0=>rw [flat_length,HO.out.2.2.2.1]
    case c3=>unfold maxLen;omega
    case c4=>omega
    case c5=>omega
    intro g5 cap5 w5 hown5 hgrow5 hat5 hlt5
    have HP:=Lib.hid (show SprI w k ts (ts.length - (i+1)) (.slice (some ⟨g5,0,none⟩) (on+tn) cap5) (.int .i64 ((i:Int)+1)) w5 from ⟨i+1,by push_cast;rfl,rfl,by omega,by
     rw [HO.out.2.2.2.2.1,flat_app,List.length_append,← HO.out.2.2.2.2.2.2.1,← HO.out.2.2.2.1]
     exact hown5,((Chg.of_below (R:=fun x=>w.heap.size≤x) HO.out.2.2.2.2.2.1).grown hgrow5 (fun k hk _=>(HO.out.1.lt k hk).1)).below (Nat.le_refl _) fun k hk e=>by omega⟩)
    have HN2:=Lib.hid (And.intro HO.out.2.2.2.2.2.2.2 (show ts.length - (i+1)<ts.length - i by omega))
    clear hown5 hgrow5 hat5 hlt5
    go_wp2_with fail
    go_roundw
    case rel=>exact ⟨_,HP.out⟩
    case measure =>
     rw [HN2.out.1]
     exact Nat.lt_of_le_of_lt ((leastOf_spec ⟨_,HP.out⟩).2 _ HP.out) HN2.out.2
   ·have g1:(t.kind == k)=false:=by simp [hkk]
    rw [if_neg hkk] at hst hle
    simp only [List.length_cons,List.length_nil] at hle
    rw [← hon] at ho
    have HO:=Lib.hid (And.intro ho (And.intro hst (And.intro hb (And.intro hon (And.intro hN htv)))))
    clear ho hst hb hon hN hrel hownr hcell htm ht hlt hkk htv hnn
    go_wp2_with ((at_builtin;refine wpList_append_lies _ (by rfl) _ _ 25 (by rfl) w.heap.size 27 i0 _ 8 80 Tryd.underlying25 hi hz0 hz1 hz2 rfl (by decide) (.slice oA on oC) on (flat (spV k (ts.take i))) (by rfl) (HO.out.1.alloc _) ⟨wr.heap.size,0,none⟩ 1 1 (ndc t) (by rfl) ?c0 ?c1 ?c2 (by decide) ?c3 ?c4 ?c5 _ rfl ?_))
    case c0=>rfl
    case c1=>unfold ndc;rw [HO.out.2.2.2.2.2];exact World.news_of_block (heap_alloc_new wr _)
    case c2=>exact one_ndc t (by rw [HO.out.2.2.2.2.2];rfl)
    case c3=>unfold maxLen;omega
    case c4=>omega
    case c5=>simp;omega
    intro g5 cap5 w5 hown5 hgrow5 hat5 hlt5
    have HP:=Lib.hid (show SprI w k ts (ts.length - (i+1)) (.slice (some ⟨g5,0,none⟩) (on+1) cap5) (.int .i64 ((i:Int)+1)) w5 from ⟨i+1,by push_cast;rfl,rfl,by omega,by
     rw [HO.out.2.1,flat_app,List.length_append,← HO.out.2.2.2.1,show flat [t]=ndc t by unfold flat;simp]
     exact hown5,(((Chg.of_below (R:=fun x=>w.heap.size≤x) HO.out.2.2.1).alloc _).grown hgrow5 (fun k hk _=>(HO.out.1.lt k hk).1)).below (Nat.le_refl _) fun k hk e=>by omega⟩)
    have HN2:=Lib.hid (And.intro HO.out.2.2.2.2.1 (show ts.length - (i+1)<ts.length - i by omega))
    clear hown5 hgrow5 hat5 hlt5
    go_wp2_with fail
    go_roundw
    case rel=>exact ⟨_,HP.out⟩
    case measure =>
     rw [HN2.out.1]
     exact Nat.lt_of_le_of_lt ((leastOf_spec ⟨_,HP.out⟩).2 _ HP.out) HN2.out.2
  ·have s2:¬ (i:Int)<(n:Int):=by omega
   have hin:i=ts.length:=by omega
   have HI:=Lib.hid (And.intro hb (And.intro ho hon))
   have HE:=Lib.hid (show spV k (ts.take i)=spV k ts by rw [hin,List.take_length])
   clear hb ho hi1 hN hrel hon hnn hin
   go_wp2_with fail
   go_ret
   exact ⟨_,rfl,by
    rw [← HE.out]
    have h:=HI.out.2.1
    rw [HI.out.2.2] at h ⊢
    exact h,HI.out.1⟩
end Go.Proofs.YtjcfmbmepmlckaaDoor

/- The document's own Simple of what is void, and of leaves: contracts.
   Conditions: the tree lies in memory, and is formed. -/
namespace Go.Proofs.YtjcfmbmepmlckaaDoor
open Go.RowKit Go.Shelf
attribute [local go_sem] nodeAgg
def SimR (u:T) (W:World) (e:Ending) (w':World):Prop:=(∃ r:V,e=.returned (nodeAgg r)∧erase r=simT u∧Laid w' (fun x=>W.heap.size≤x∧x<w'.heap.size) r)∧Below W.heap.size W w'
set_option maxHeartbeats 4000000 in
set_option maxRecDepth 100000 in
theorem refSim_void (t:V) (w:World) (R:Nat→Prop) (ht:Laid w R t) (hok:okF t) (hz:szT (erase t)≤300000) (hv:vdV t=true) :
  Calls Tryd.prog 12 #[nodeAgg t] w (SimR (erase t) w):=by
 obtain ⟨sa,sn,sc,hs⟩:=ht.slice
 have HTo:=Lib.hid (fun (W:World) (h:Below w.heap.size w W)=>by
  have:=told_any 1000000 (Nat.le_refl _) t W R (by omega) (laid_low ht h) hok
  rw [nodeAgg_v hs,hv] at this
  exact this)
 have HS:=Lib.hid (show simT (erase t)=emptyT by
  have h:vdT (erase t)=true:=hv
  cases t with
  | node k C lo hi v ps=>rw [erase] at h ⊢;rw [simT,h];rfl)
 rw [nodeAgg_v hs]
 clear hs ht hok hz hv
 obtain ⟨w2,hw2⟩ : ∃ w2,(w.alloc (.cells #[.int .i64 t.kind,.int .u64 (t.set 0:Nat),.int .u64 (t.set 1:Nat),.int .u64 (t.set 2:Nat),.int .u64 (t.set 3:Nat),.slice sa sn sc,.int .i64 t.lo,.int .i64 t.hi] 27)).alloc (.cells #[.int .i64 0,.int .u64 0,.int .u64 0,.int .u64 0,.int .u64 0,.slice none 0 0,.int .i64 0,.int .i64 0] 27)=w2:=⟨_,rfl⟩
 have hb2:Below w.heap.size w w2:=hw2▸((Below.refl _ w).alloc (Nat.le_refl _) _).alloc (by simp) _
 have e1:w2.heap[w.heap.size]? = some (.cells #[.int .i64 t.kind,.int .u64 (t.set 0:Nat),.int .u64 (t.set 1:Nat),.int .u64 (t.set 2:Nat),.int .u64 (t.set 3:Nat),.slice sa sn sc,.int .i64 t.lo,.int .i64 t.hi] 27 (0,0)):=by rw [← hw2];exact (Below.heap_alloc _ _ _ (by simp)).trans (heap_alloc_new w _)
 have e2:ZB8 (w.heap.size+1) w2:=by
  rw [← hw2]
  have:=heap_alloc_new (w.alloc (.cells #[.int .i64 t.kind,.int .u64 (t.set 0:Nat),.int .u64 (t.set 1:Nat),.int .u64 (t.set 2:Nat),.int .u64 (t.set 3:Nat),.slice sa sn sc,.int .i64 t.lo,.int .i64 t.hi] 27)) (.cells #[.int .i64 0,.int .u64 0,.int .u64 0,.int .u64 0,.int .u64 0,.slice none 0 0,.int .i64 0,.int .i64 0] 27)
  rw [World.size_alloc] at this
  exact this
 obtain ⟨c0,c1,c2,c3,c4,c5,c6,c7⟩:=cells8 e1
 have HB:=Lib.hid (And.intro hb2 e2)
 clear hb2 e1 e2
 go_enter Tryd.func12,Tryd.ntmps12
 go_upto_region 1 with fail
 clear hw2
 go_wp2_with fail
 go_at_call 21
 refine (HTo.out _ HB.out.1).mono ?_
 rintro e w3 ⟨rfl,hb3⟩
 have hz3:ZB8 (w.heap.size+1) w3:=(hb3.block _ (Array.getElem?_eq_some_iff.1 HB.out.2).1).trans HB.out.2
 have HB3:=Lib.hid (And.intro (bhop HB.out.1 hb3) hz3)
 obtain ⟨⟨s0,s1,s2,s3,s4,s5,s6,s7⟩,f0,f1,f2,f3,f4,f5,f6,f7,hl⟩:=hz3.cells
 clear hb3 hz3 c0 c1 c2 c3 c4 c5 c6 c7
 go_wp2_with fail
 clear s0 s1 s2 s3 s4 s5 s6 s7 f0 f1 f2 f3 f4 f5 f6 f7
 have hf:=set8x_heap HB3.out.2 (.int .i64 1) (.int .u64 0) (.int .u64 0) (.int .u64 0) (.int .u64 0) (.slice none 0 0) (.int .i64 0) (.int .i64 0)
 have hch:=set8x_chg w3 (w.heap.size+1) (.int .i64 1) (.int .u64 0) (.int .u64 0) (.int .u64 0) (.int .u64 0) (.slice none 0 0) (.int .i64 0) (.int .i64 0)
 generalize ((((((((w3.setCell ⟨w.heap.size+1,0,none⟩ (.int .i64 1)).setCell ⟨w.heap.size+1,1,none⟩ (.int .u64 0)).setCell ⟨w.heap.size+1,2,none⟩ (.int .u64 0)).setCell ⟨w.heap.size+1,3,none⟩ (.int .u64 0)).setCell ⟨w.heap.size+1,4,none⟩ (.int .u64 0)).setCell ⟨w.heap.size+1,5,none⟩ (.slice none 0 0)).setCell ⟨w.heap.size+1,6,none⟩ (.int .i64 0)).setCell ⟨w.heap.size+1,7,none⟩ (.int .i64 0))=w5 at *
 obtain ⟨r0,r1,r2,r3,r4,r5,r6,r7⟩:=cells8 hf
 refine bodyPost_ret (v:=.agg #[.int .i64 1,.int .u64 0,.int .u64 0,.int .u64 0,.int .u64 0,.slice none 0 0,.int .i64 0,.int .i64 0]) (by simp [results,Tryd.results12,go_sem,r0,r1,r2,r3,r4,r5,r6,r7]) rfl ⟨⟨.node 1 zeros 0 0 (.slice none 0 0) [],rfl,HS.out.symm,.none _ _ _ _ _ _⟩,?_⟩
 exact HB3.out.1.trans (hch.below (by have:=HB3.out.1.size;omega) fun k hk e=>by omega)
set_option maxHeartbeats 4000000 in
set_option maxRecDepth 100000 in
theorem refSim_leaf (t:V) (w:World) (R:Nat→Prop) (ht:Laid w R t) (hok:okF t) (hz:szT (erase t)≤300000) (hv:vdV t=false) (hk:t.kind<2) :
  Calls Tryd.prog 12 #[nodeAgg t] w (SimR (erase t) w):=by
 obtain ⟨sa,sn,sc,hs⟩:=ht.slice
 have HTo:=Lib.hid (fun (W:World) (h:Below w.heap.size w W)=>by
  have:=told_any 1000000 (Nat.le_refl _) t W R (by omega) (laid_low ht h) hok
  rw [nodeAgg_v hs,hv] at this
  exact this)
 have HS:=Lib.hid (show ∃ r:V,nodeAgg r=nodeAgg t∧erase r=simT (erase t)∧∀ (W:World) (Q:Nat→Prop),Laid W Q r by
  have h:vdT (erase t)=false:=hv
  have h0:t.ps=[]:=by
   unfold okF at hok
   cases t with
   | node k C lo hi v ps =>
    rw [erase,okT,Bool.and_eq_true] at hok
    have h1:=hok.1
    unfold okA at h1
    have h2:=of_decide_eq_true h1
    simp only [V.kind] at hk
    have h3:(erases ps).length=0:=by omega
    rw [erases_length] at h3
    exact List.length_eq_zero_iff.1 h3
  cases t with
  | node k C lo hi v ps =>
   simp only [V.ps] at h0
   subst h0
   obtain ⟨a,c,hvs⟩:=laid_nil (laid_parts ht)
   simp only [V.v] at hvs
   subst hvs
   rw [erase] at h ⊢
   refine ⟨.node k (wash C) lo hi (.slice a 0 c) [],rfl,?_,fun W Q=>.none _ _ _ _ _ _⟩
   rw [simT,h,erase]
   simp only [V.kind] at hk
   simp [hk])
 have hk':(t.kind:Int)<2:=hk
 rw [nodeAgg_v hs]
 clear ht hok hz hv hk
 obtain ⟨w2,hw2⟩ : ∃ w2,(w.alloc (.cells #[.int .i64 t.kind,.int .u64 (t.set 0:Nat),.int .u64 (t.set 1:Nat),.int .u64 (t.set 2:Nat),.int .u64 (t.set 3:Nat),.slice sa sn sc,.int .i64 t.lo,.int .i64 t.hi] 27)).alloc (.cells #[.int .i64 0,.int .u64 0,.int .u64 0,.int .u64 0,.int .u64 0,.slice none 0 0,.int .i64 0,.int .i64 0] 27)=w2:=⟨_,rfl⟩
 have hb2:Below w.heap.size w w2:=hw2▸((Below.refl _ w).alloc (Nat.le_refl _) _).alloc (by simp) _
 have e1:w2.heap[w.heap.size]? = some (.cells #[.int .i64 t.kind,.int .u64 (t.set 0:Nat),.int .u64 (t.set 1:Nat),.int .u64 (t.set 2:Nat),.int .u64 (t.set 3:Nat),.slice sa sn sc,.int .i64 t.lo,.int .i64 t.hi] 27 (0,0)):=by rw [← hw2];exact (Below.heap_alloc _ _ _ (by simp)).trans (heap_alloc_new w _)
 have e2:ZB8 (w.heap.size+1) w2:=by
  rw [← hw2]
  have:=heap_alloc_new (w.alloc (.cells #[.int .i64 t.kind,.int .u64 (t.set 0:Nat),.int .u64 (t.set 1:Nat),.int .u64 (t.set 2:Nat),.int .u64 (t.set 3:Nat),.slice sa sn sc,.int .i64 t.lo,.int .i64 t.hi] 27)) (.cells #[.int .i64 0,.int .u64 0,.int .u64 0,.int .u64 0,.int .u64 0,.slice none 0 0,.int .i64 0,.int .i64 0] 27)
  rw [World.size_alloc] at this
  exact this
 obtain ⟨c0,c1,c2,c3,c4,c5,c6,c7⟩:=cells8 e1
 have HB:=Lib.hid (And.intro hb2 (And.intro e2 (And.intro e1 hs)))
 clear hb2 e1 e2 hs
 go_enter Tryd.func12,Tryd.ntmps12
 go_upto_region 1 with fail
 clear hw2
 go_wp2_with fail
 go_at_call 21
 refine (HTo.out _ HB.out.1).mono ?_
 rintro e w3 ⟨rfl,hb3⟩
 have hz3:ZB8 (w.heap.size+1) w3:=(hb3.block _ (Array.getElem?_eq_some_iff.1 HB.out.2.1).1).trans HB.out.2.1
 have HB3:=Lib.hid (And.intro (bhop HB.out.1 hb3) hz3)
 have e3:=(hb3.block _ (Array.getElem?_eq_some_iff.1 HB.out.2.2.1).1).trans HB.out.2.2.1
 obtain ⟨⟨s0,s1,s2,s3,s4,s5,s6,s7⟩,f0,f1,f2,f3,f4,f5,f6,f7,hl⟩:=hz3.cells
 clear hz3 hb3 c0 c1 c2 c3 c4 c5 c6 c7
 obtain ⟨c0,c1,c2,c3,c4,c5,c6,c7⟩:=cells8 e3
 clear e3
 go_wp2_with fail
 clear s0 s1 s2 s3 s4 s5 s6 s7 f0 f1 f2 f3 f4 f5 f6 f7 c0 c1 c2 c3 c4 c5 c6 c7
 have hf:=set8x_heap HB3.out.2 (.int .i64 t.kind) (.int .u64 (t.set 0:Nat)) (.int .u64 (t.set 1:Nat)) (.int .u64 (t.set 2:Nat)) (.int .u64 (t.set 3:Nat)) (.slice sa sn sc) (.int .i64 t.lo) (.int .i64 t.hi)
 have hch:=set8x_chg w3 (w.heap.size+1) (.int .i64 t.kind) (.int .u64 (t.set 0:Nat)) (.int .u64 (t.set 1:Nat)) (.int .u64 (t.set 2:Nat)) (.int .u64 (t.set 3:Nat)) (.slice sa sn sc) (.int .i64 t.lo) (.int .i64 t.hi)
 generalize ((((((((w3.setCell ⟨w.heap.size+1,0,none⟩ (.int .i64 t.kind)).setCell ⟨w.heap.size+1,1,none⟩ (.int .u64 (t.set 0:Nat))).setCell ⟨w.heap.size+1,2,none⟩ (.int .u64 (t.set 1:Nat))).setCell ⟨w.heap.size+1,3,none⟩ (.int .u64 (t.set 2:Nat))).setCell ⟨w.heap.size+1,4,none⟩ (.int .u64 (t.set 3:Nat))).setCell ⟨w.heap.size+1,5,none⟩ (.slice sa sn sc)).setCell ⟨w.heap.size+1,6,none⟩ (.int .i64 t.lo)).setCell ⟨w.heap.size+1,7,none⟩ (.int .i64 t.hi))=w5 at *
 obtain ⟨r0,r1,r2,r3,r4,r5,r6,r7⟩:=cells8 hf
 obtain ⟨r,hr1,hr2,hr3⟩:=HS.out
 refine bodyPost_ret (v:=.agg #[.int .i64 t.kind,.int .u64 (t.set 0:Nat),.int .u64 (t.set 1:Nat),.int .u64 (t.set 2:Nat),.int .u64 (t.set 3:Nat),.slice sa sn sc,.int .i64 t.lo,.int .i64 t.hi]) (by simp [results,Tryd.results12,go_sem,r0,r1,r2,r3,r4,r5,r6,r7]) rfl ⟨⟨r,by rw [hr1,nodeAgg_v HB.out.2.2.2],hr2,hr3 _ _⟩,?_⟩
 exact HB3.out.1.trans (hch.below (by have:=HB3.out.1.size;omega) fun k hk e=>by omega)
end Go.Proofs.YtjcfmbmepmlckaaDoor
