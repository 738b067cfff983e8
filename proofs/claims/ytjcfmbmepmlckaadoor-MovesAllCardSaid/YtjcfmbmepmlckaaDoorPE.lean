/- The document's Ends of a node whose positions begin behind so many: the face of what moves makes of it.
   Conditions: the tree lies in memory, is formed, and its positions are below 200. -/
import Derived.Test.YtjcfmbmepmlckaaDoorPA
import Derived.Test.YtjcfmbmepmlckaaDoorMMelt
import Derived.Test.YtjcfmbmepmlckaaDoorMSim
import Derived.Test.YtjcfmbmepmlckaaDoorPM
import Derived.Test.YtjcfmbmepmlckaaDoorMTold
import Derived.Deep.DeepCutAuto
import Derived.Deep.RegionHeld3
import Derived.Deep.RegionLaw
import Derived.Deep.OwnRows

/- What a simple tree begins and ends with, as the document counts it: the faces of what moves makes of it.
   Conditions: those that each theorem states. -/
namespace Go.Proofs.YtjcfmbmepmlckaaDoor
open Go.RowKit
mutual
def fcT:T→Nat→Fc
 | .node k C lo _ ps,a=>fcsT k ps (opF k C lo a) (opA k C a)
def fcsT (k:Int):List T→Fc→Nat→Fc
 | [],f,_=>f
 | p :: ps,f,a=>fcsT k ps (adF k f (fcT p a)) (a+npos p)
end
mutual
theorem mv_fc:∀ (t:T) (ar a:Nat),(mvT t ar a).1=fcT t a
 | .node k C lo hi ps,ar,a=>by rw [mvT,fcT,mvs_fc]
theorem mvs_fc (k hi:Int) (ar:Nat) (ag:Bool):∀ (ts:List T) (f:Fc) (a:Nat),(mvsT k hi ar ag ts f a).1=fcsT k ts f a
 | [],f,a=>by rw [mvsT,fcsT]
 | t :: ts,f,a=>by
  rw [mvsT,fcsT]
  simp only
  rw [mvs_fc,mv_fc t,mv_at t]
end
theorem npos_snoc (xs:List T) (p:T):nposs (xs ++ [p])=nposs xs+npos p:=by
 induction xs with
 | nil=>simp [nposs]
 | cons x xs ih=>rw [List.cons_append,nposs,nposs,ih];omega
theorem fcs_snoc (k:Int) (p:T):∀ (xs:List T) (f:Fc) (a:Nat),fcsT k (xs ++ [p]) f a=adF k (fcsT k xs f a) (fcT p (a+nposs xs))
 | [],f,a=>by simp [fcsT,nposs]
 | x :: xs,f,a=>by rw [List.cons_append,fcsT,fcsT,fcs_snoc k p xs,nposs,Nat.add_assoc]
mutual
theorem fc_em:∀ (t:T) (a:Nat),okT t=true→(fcT t a).em=nuT t
 | .node k C lo hi ps,a,h=>by
  have h1:=ok_kind h
  have h2:=ok_parts h
  rw [fcT,nuT]
  unfold okA at h1
  rw [decide_eq_true_iff] at h1
  rcases h1 with ⟨rfl,hz,_,_,hl⟩ | ⟨rfl,_,_,hl⟩ | ⟨hk,hz,_⟩ | ⟨rfl,hz,_⟩
  ·obtain rfl:=List.length_eq_zero_iff.1 hl
   rw [fcsT]
   simp [opF,isPos]
  ·obtain rfl:=List.length_eq_zero_iff.1 hl
   rw [fcsT]
   unfold opF
   split <;> simp
  ·rcases hk with rfl | rfl
   ·rw [fcs_all ps _ _ h2]
    simp [opF,isPos]
   ·rw [fcs_any 3 (by decide) ps _ _ h2]
    simp [opF,isPos]
  ·rw [fcs_any 4 (by decide) ps _ _ h2]
   simp [opF,isPos]
theorem fcs_all:∀ (ts:List T) (f:Fc) (a:Nat),oksT ts=true→(fcsT 2 ts f a).em=(f.em && nuAll ts)
 | [],f,a,_=>by rw [fcsT,nuAll,Bool.and_true]
 | t :: ts,f,a,h=>by
  rw [oksT,Bool.and_eq_true] at h
  rw [fcsT,fcs_all ts _ _ h.2,nuAll,← Bool.and_assoc,← fc_em t a h.1]
  rfl
theorem fcs_any (k:Int) (hk:k≠2):∀ (ts:List T) (f:Fc) (a:Nat),oksT ts=true→(fcsT k ts f a).em=(f.em || nuAny ts)
 | [],f,a,_=>by rw [fcsT,nuAny,Bool.or_false]
 | t :: ts,f,a,h=>by
  rw [oksT,Bool.and_eq_true] at h
  rw [fcsT,fcs_any k hk ts _ _ h.2,nuAny,← Bool.or_assoc,← fc_em t a h.1,adF,if_neg hk]
  rfl
end
def B200 (w:World) (b:Nat) (X:Nat):Prop:=w.heap[b]? = some (.cells ((List.range 200).map fun p=>Value.bool (X.testBit p)).toArray 4 (0,0))
def U200 (w:World) (b p X Y:Nat):Prop:=w.heap[b]? = some (.cells ((List.range 200).map fun q=>Value.bool (if q<p then Y.testBit q else X.testBit q)).toArray 4 (0,0))
theorem B200.cell {w:World} {b X p:Nat} (h:B200 w b X) (hp:p<200):w.cell? ⟨b,p,none⟩=some (.bool (X.testBit p))∧w.frozen? ⟨b,p,none⟩=false∧b<w.heap.size :=
 ⟨by rw [(row_cells h).1 p];simp [hp],(row_cells h).2 p,(Array.getElem?_eq_some_iff.1 h).1⟩
theorem U200.cell {w:World} {b p X Y:Nat} (h:U200 w b p X Y) (hp:p<200):w.cell? ⟨b,p,none⟩=some (.bool (X.testBit p))∧w.frozen? ⟨b,p,none⟩=false∧b<w.heap.size :=
 ⟨by rw [(row_cells h).1 p];simp [hp],(row_cells h).2 p,(Array.getElem?_eq_some_iff.1 h).1⟩
theorem rowU_start {w:World} {b X Y:Nat} (h:B200 w b X):U200 w b 0 X Y:=by
 unfold U200
 simpa [B200] using h
theorem rowU_end {w:World} {b X Y:Nat} (h:U200 w b 200 X Y):B200 w b Y:=by
 unfold B200
 rw [show ((List.range 200).map fun p=>Value.bool (Y.testBit p))=(List.range 200).map fun q=>Value.bool (if q<200 then Y.testBit q else X.testBit q) from List.map_congr_left fun q hq=>by rw [if_pos (List.mem_range.1 hq)]]
 exact h
theorem U200.set {w:World} {b p X Y:Nat} {v:Bool} (h:U200 w b p X Y) (hv:Y.testBit p=v):U200 (w.setCell ⟨b,p,none⟩ (.bool v)) b (p+1) X Y:=by
 unfold U200
 rw [heap_setCell_same w b _ _ _ _ h]
 congr 2
 apply Array.ext_getElem?
 intro i
 rw [Array.getElem?_setIfInBounds]
 simp only [List.getElem?_toArray,List.getElem?_map,List.size_toArray,List.length_map,List.length_range]
 by_cases hi:i<200
 ·rw [List.getElem?_range hi]
  by_cases e:p=i
  ·subst e;simp [hi,hv]
  ·rw [if_neg e]
   have:i<p+1↔i<p:=by omega
   simp [this]
 ·rw [List.getElem?_eq_none (by simp;omega)]
  split <;> simp
  omega
theorem U200.same {w:World} {b p X Y:Nat} (h:U200 w b p X Y) (hv:Y.testBit p=X.testBit p):U200 w b (p+1) X Y:=by
 unfold U200
 rw [show ((List.range 200).map fun q=>Value.bool (if q<p+1 then Y.testBit q else X.testBit q))=(List.range 200).map fun q=>Value.bool (if q<p then Y.testBit q else X.testBit q) from List.map_congr_left fun q _=>by
  by_cases e:q=p
  ·subst e;simp [hv]
  ·have:q<p+1↔q<p:=by omega
   simp [this]]
 exact h
end Go.Proofs.YtjcfmbmepmlckaaDoor

/- The document's Ends of a node whose positions begin behind so many: the face of what moves makes of it.
   Conditions: the tree lies in memory, is formed, and its positions are below 200. -/
namespace Go.Proofs.YtjcfmbmepmlckaaDoor
open Go.RowKit Go.Shelf
attribute [local go_sem] nodeAgg
theorem made_zero:madeCells #[.bool false] 200=((List.range 200).map fun p=>Value.bool ((0:Nat).testBit p)).toArray:=by
 rw [made_bool]
 refine congrArg List.toArray (List.map_congr_left fun p _=>?_)
 simp
theorem row_a (w:World):B200 ((w.alloc (.cells (madeCells #[.bool false] 200) 4)).alloc (.cells (madeCells #[.bool false] 200) 4)) w.heap.size 0:=by
 unfold B200
 rw [← made_zero]
 exact (Below.heap_alloc _ _ _ (by simp)).trans (heap_alloc_new w _)
theorem row_b (w:World):B200 ((w.alloc (.cells (madeCells #[.bool false] 200) 4)).alloc (.cells (madeCells #[.bool false] 200) 4)) (w.heap.size+1) 0:=by
 unfold B200
 rw [← made_zero]
 have:=heap_alloc_new (w.alloc (.cells (madeCells #[.bool false] 200) 4)) (.cells (madeCells #[.bool false] 200) 4)
 rw [World.size_alloc] at this
 exact this
theorem B200.other {w:World} {b c X p:Nat} {v:Value} (h:B200 w b X) (hne:b≠c):B200 (w.setCell ⟨c,p,none⟩ v) b X:=(((Chg.refl (fun x=>x=c) w).setCell (p:=⟨c,p,none⟩) (fun _=>rfl) v).block b (Array.getElem?_eq_some_iff.1 h).1 hne).trans h
theorem U200.other {w:World} {b c q X Y p:Nat} {v:Value} (h:U200 w b q X Y) (hne:b≠c):U200 (w.setCell ⟨c,p,none⟩ v) b q X Y:=(((Chg.refl (fun x=>x=c) w).setCell (p:=⟨c,p,none⟩) (fun _=>rfl) v).block b (Array.getElem?_eq_some_iff.1 h).1 hne).trans h
theorem B200.below {w w':World} {b X:Nat} (h:B200 w b X) (hb:Below w.heap.size w w'):B200 w' b X:=(hb.block b (Array.getElem?_eq_some_iff.1 h).1).trans h
theorem B200.one {w:World} {b p:Nat} (h:B200 w b 0) (hp:p<200):B200 (w.setCell ⟨b,p,none⟩ (.bool true)) b (2 ^ p):=by
 unfold B200
 rw [heap_setCell_same w b _ _ _ _ h]
 refine congrArg (fun c=>some (Obj.cells c 4 (0,0))) ?_
 apply Array.ext_getElem?
 intro i
 rw [Array.getElem?_setIfInBounds]
 simp only [List.getElem?_toArray,List.getElem?_map,List.size_toArray,List.length_map,List.length_range]
 by_cases hi:i<200
 ·rw [List.getElem?_range hi]
  by_cases e:p=i
  ·subst e;simp [hi]
  ·rw [if_neg e]
   simp [Nat.testBit_two_pow,e]
 ·rw [List.getElem?_eq_none (by simp;omega)]
  split <;> simp
  omega
theorem U200.set2 {w:World} {b p X Y:Nat} {u v:Bool} (h:U200 w b p X Y) (hv:Y.testBit p=v):U200 ((w.setCell ⟨b,p,none⟩ (.bool u)).setCell ⟨b,p,none⟩ (.bool v)) b (p+1) X Y:=by
 have h1:=h.set hv
 unfold U200 at h1 ⊢
 rw [heap_setCell_same w b _ _ _ _ h] at h1
 rw [heap_setCell_same _ b _ _ _ _ (heap_setCell_same w b _ _ _ _ h)]
 rw [Array.setIfInBounds_setIfInBounds]
 exact h1
theorem nposs_take {ps:List V} {i:Nat} {p:V} (hp:ps[i]? = some p):nposs (erases (ps.take (i+1)))=nposs (erases (ps.take i))+npos (erase p):=by
 rw [List.take_add_one,hp,erases_append]
 show nposs (erases (ps.take i) ++ [erase p])=_
 rw [npos_snoc]
theorem nposs_app (xs ys:List T):nposs (xs ++ ys)=nposs xs+nposs ys:=by
 induction xs with
 | nil=>simp [nposs]
 | cons x xs ih=>rw [List.cons_append,nposs,nposs,ih];omega
theorem nposs_le (ps:List V) (i:Nat):nposs (erases (ps.take i))≤nposs (erases ps):=by
 have:erases ps=erases (ps.take i) ++ erases (ps.drop i):=by rw [← erases_append,List.take_append_drop]
 rw [this,nposs_app]
 omega
def fcI (k:Int) (ps:List V) (f:Fc) (a i:Nat):Fc:=fcsT k (erases (ps.take i)) f a
theorem fcI_step {k:Int} {ps:List V} {f:Fc} {a i:Nat} {p:V} (hp:ps[i]? = some p):fcI k ps f a (i+1)=adF k (fcI k ps f a i) (fcT (erase p) (a+nposs (erases (ps.take i)))):=by
 unfold fcI
 rw [List.take_add_one,hp,erases_append]
 show fcsT k (erases (ps.take i) ++ [erase p]) f a=_
 rw [fcs_snoc]
theorem all_step {ps:List V} {i:Nat} {p:V} (hp:ps[i]? = some p):(ps.take (i+1)).all nuV=((ps.take i).all nuV && nuV p):=by
 rw [List.take_add_one,hp,List.all_append]
 simp
theorem nuAll_take (ps:List V):nuAll (erases ps)=ps.all nuV:=by
 induction ps with
 | nil=>rw [erases,nuAll];rfl
 | cons p ps ih=>rw [erases,nuAll,ih,List.all_cons];rfl
def EnI (w2:World) (fb lb f2 l2 X1 Y1 X2 Y2 G1 G2 c:Nat) (x:Value) (wr:World):Prop:=∃ q:Nat,x=.int .i64 q∧c=200 - q∧q≤200∧U200 wr fb q X1 Y1∧U200 wr lb q X2 Y2∧B200 wr f2 G1∧B200 wr l2 G2∧Below w2.heap.size w2 wr
def EnO (w2:World) (k:Int) (ps:List V) (f0:Fc) (bf fb lb c:Nat) (n ah x:Value) (wr:World):Prop:=∃ i:Nat,x=.int .i64 i∧c=ps.length - i∧i≤ps.length∧n=.int .i64 (nposs (erases (ps.take i)):Nat)∧ah=.bool ((ps.take i).all nuV)∧B200 wr fb (fcI k ps f0 bf i).fi∧B200 wr lb (fcI k ps f0 bf i).la∧Below w2.heap.size w2 wr
theorem leastOf_le {P:Nat→Prop} {n:Nat} (h:P n):leastOf P≤n:=(leastOf_spec ⟨n,h⟩).2 n h
set_option maxHeartbeats 8000000 in
set_option maxRecDepth 100000 in
theorem ends_any (N:Nat):N≤1000000→∀ (t:V) (w:World) (R:Nat→Prop) (bf:Nat),szT (erase t)≤N→Laid w R t→okF t→bf+npos (erase t)≤199 →
  Calls Tryd.prog 20 #[nodeAgg t,.int .i64 (bf:Int)] w fun e w'=>(∃ fb lb:Nat,e=.returned (.tuple #[.slice (some ⟨fb,0,none⟩) 200 200,.slice (some ⟨lb,0,none⟩) 200 200,.int .i64 (npos (erase t):Nat)])∧B200 w' fb (fcT (erase t) bf).fi∧B200 w' lb (fcT (erase t) bf).la∧w.heap.size≤fb∧w.heap.size≤lb)∧Below w.heap.size w w':=by
 induction N with
 | zero=>intro _ t w R bf h;rw [sz_eq] at h;omega
 | succ N ih =>
  intro hN t w R bf hd ha hok hbf
  obtain ⟨sa,sc,hv,hrow⟩:=laid_row' ha
  have hsz:=sz_eq t
  have hlen:=len_sz t.ps
  have hn1:(t.ps.length:Int)≤1000000:=by omega
  have hnp:npos (erase t)=(if isPos t.kind t.set then 1 else 0)+nposs (erases t.ps):=by cases t;rw [erase,npos];rfl
  have hfc:fcT (erase t) bf=fcsT t.kind (erases t.ps) (opF t.kind t.set t.lo bf) (opA t.kind t.set bf):=by cases t;rw [erase,fcT];rfl
  have hokk:okA t.kind (z4 t.set) t.lo t.hi t.ps.length=true∧oksT (erases t.ps)=true:=by
   have h:okT (erase t)=true:=hok
   rw [okT_eq,Bool.and_eq_true] at h
   exact h
  have HP:=Lib.hid (fun (i:Nat) (p:V) (hp:t.ps[i]? = some p) (W:World) (hW:Below w.heap.size w W) (b':Nat) (hb':b' + npos (erase p)≤199)=>by
   obtain ⟨_,_,_,_,_,L1⟩:=hrow i p hp
   have hpz:=sz_mem (List.mem_of_getElem? hp)
   exact ih (by omega) p W R b' (by omega) (laid_low L1 hW) (hok.part (List.mem_of_getElem? hp)) hb')
  have HT:=Lib.hid (fun (i:Nat) (p:V) (hp:t.ps[i]? = some p) (W:World) (hW:Below w.heap.size w W)=>by
   obtain ⟨_,_,_,_,_,L1⟩:=hrow i p hp
   have hpz:=sz_mem (List.mem_of_getElem? hp)
   exact told_any N (by omega) p W R (by omega) (laid_low L1 hW) (hok.part (List.mem_of_getElem? hp)))
  have HR:=Lib.hid hrow
  have HNF:=Lib.hid (And.intro hnp (And.intro hfc (And.intro hokk hbf)))
  obtain ⟨w2,hw2,hbw,hlt2,hbx⟩:=box_new w t (.slice sa t.ps.length sc)
  have HBX:=Lib.hid hbx
  have HBW:=Lib.hid hbw
  have HL2:=Lib.hid hlt2
  have he:∀ w,(Op.equalIn 10000 24 (.agg #[.int .u64 (t.set 0:Nat),.int .u64 (t.set 1:Nat),.int .u64 (t.set 2:Nat),.int .u64 (t.set 3:Nat)]) (.agg #[.int .u64 0,.int .u64 0,.int .u64 0,.int .u64 0])).run Tryd.prog w=.ok (z4 t.set) w:=fun w=>by rw [run_equal4,z4_beq']
  have hmks:∀ W:World,(Instr.makeSlice 41 (.int .i64 200) (.int .i64 200)).run Tryd.prog W=.ok (.slice (some ⟨W.heap.size,0,none⟩) 200 200) (W.alloc (.cells (madeCells #[.bool false] 200) 4)):=fun W=>run_make_row' (P:=Tryd.prog) 41 4 (.bool false) 1 Tryd.underlying41 infoBo rfl .i64 .i64 200 (by omega) (by omega) W
  have hbf2:(bf:Int)≤199:=by omega
  rw [nodeAgg_v hv]
  clear hrow hsz hlen hbx hbw hlt2 hd ha hok ih hv hnp hfc hokk hbf
  go_enter Tryd.func20,Tryd.ntmps20
  go_upto_region 1 with fail
  clear hw2
  go_cut [7,8] (fun f l wx=>∃ fb lb,f=.slice (some ⟨fb,0,none⟩) 200 200∧l=.slice (some ⟨lb,0,none⟩) 200 200∧B200 wx fb 0∧B200 wx lb 0∧fb≠lb∧w2.heap.size≤fb∧w2.heap.size≤lb∧Below w2.heap.size w2 wx)
  case first =>
   clear he
   go_wp2_with fail
   go_region_law (fail)
   all_goals
    go_wp2_with fail
    go_meet
    first
     | exact ⟨_,_,rfl,rfl,row_a w2,row_b w2,by omega,by omega,by omega,(((Below.refl _ w2).alloc (Nat.le_refl _) _).alloc (by simp) _).drew⟩
     | exact ⟨_,_,rfl,rfl,row_b w2,row_a w2,by omega,by omega,by omega,(((Below.refl _ w2).alloc (Nat.le_refl _) _).alloc (by simp) _).drew⟩
  case rest =>
   obtain ⟨fb,lb,rfl,rfl,hf,hl,hne,hfl,hll,hb⟩:=hcut
   have hws:w.heap.size≤w2.heap.size:=HBW.out.size
   obtain ⟨x0,x1,x2,x3,x4,x5,x6,x7⟩:=HBX.out _ hb
   clear hmks
   by_cases hk:t.kind=1
   ·have hps:t.ps=[]:=by
     have h:=HNF.out.2.2.1.1
     unfold okA at h
     rw [decide_eq_true_iff,hk] at h
     rcases h with h | h | h | h
     ·omega
     ·exact List.length_eq_zero_iff.1 h.2.2.2
     ·omega
     ·omega
    have hne':lb≠fb:=fun e=>hne e.symm
    cases hz:z4 t.set with
    | true =>
     rw [hz] at he
     rw [hk] at x0
     have HB:=Lib.hid (And.intro hf (And.intro hl hb))
     have hpz:isPos t.kind t.set=false:=by unfold isPos;simp [hz]
     have HE:=Lib.hid (show npos (erase t)=0∧(fcT (erase t) bf).fi=0∧(fcT (erase t) bf).la=0 from by
      obtain ⟨h1,h2,_⟩:=HNF.out
      rw [h1,h2,hps,erases,nposs,fcsT,opF,hpz]
      simp [hk])
     clear hf hl hb hpz hps
     go_wp2_with fail
     go_ret3
     exact ⟨⟨fb,lb,by rw [HE.out.1];rfl,by rw [HE.out.2.1];exact HB.out.1,by rw [HE.out.2.2];exact HB.out.2.1,by omega,by omega⟩,bhop HBW.out HB.out.2.2⟩
    | false =>
     rw [hz] at he
     rw [hk] at x0
     have HB:=Lib.hid (And.intro hf (And.intro hl hb))
     have hpz:isPos t.kind t.set=true:=by unfold isPos;simp [hz,hk]
     have HE:=Lib.hid (show npos (erase t)=1∧(fcT (erase t) bf).fi=2 ^ (bf+1)∧(fcT (erase t) bf).la=2 ^ (bf+1)∧bf+1<200 from by
      obtain ⟨h1,h2,_,h4⟩:=HNF.out
      rw [hpz,if_pos rfl] at h1
      refine ⟨by rw [h1,hps,erases,nposs],?_,?_,by omega⟩ <;> rw [h2,hps,erases,fcsT,opF,hpz,if_pos rfl])
     obtain ⟨c1,c2,c3⟩:=hf.cell HE.out.2.2.2
     obtain ⟨e1,e2,e3⟩:=hl.cell HE.out.2.2.2
     rw [Nat.zero_testBit] at c1 e1
     have s1:(0:Int)≤(bf:Int)+1:=by omega
     have s2:(bf:Int)+1<200:=by have:=HE.out.2.2.2;omega
     clear hf hl hb hpz hps
     go_wp2_with fail
     go_ret3
     exact ⟨⟨fb,lb,by rw [HE.out.1];rfl,by rw [HE.out.2.1];exact (HB.out.1.one HE.out.2.2.2).other hne,by rw [HE.out.2.2.1];exact (HB.out.2.1.other hne').one HE.out.2.2.2,by omega,by omega⟩,bhop HBW.out ((HB.out.2.2.setCell hfl _).setCell hll _)⟩
   ·have hpz:isPos t.kind t.set=false:=by unfold isPos;simp [hk]
    obtain ⟨f0,hf0⟩ : ∃ f0,f0=opF t.kind t.set t.lo bf:=⟨_,rfl⟩
    have hf1:f0.fi=0∧f0.la=0∧(t.kind=2→f0.em=true):=by
     rw [hf0,opF,hpz]
     by_cases h4:t.kind=4
     ·rw [if_neg (by decide),if_pos h4]
      exact ⟨rfl,rfl,fun e=>by omega⟩
     ·rw [if_neg (by decide),if_neg h4]
      exact ⟨rfl,rfl,fun e=>by simp [e]⟩
    have HE:=Lib.hid (show npos (erase t)=nposs (erases t.ps)∧fcT (erase t) bf=fcI t.kind t.ps f0 bf t.ps.length∧bf+nposs (erases t.ps)≤199 from by
     obtain ⟨h1,h2,_,h4⟩:=HNF.out
     rw [hpz] at h1
     have h5:npos (erase t)=nposs (erases t.ps):=by simpa using h1
     refine ⟨h5,?_,by omega⟩
     rw [h2,← hf0,opA,hpz,fcI,List.take_length]
     rfl)
    have HF1:=Lib.hid hf1
    have HRB:=Lib.hid (And.intro hf (And.intro hl hb))
    have hk':(t.kind == 1)=false:=by simp [hk]
    clear hf hl hb hpz hf1 hf0 he
    go_wp2_with fail
    clear x0 x1 x2 x3 x4 x5 x6 x7
    go_loopw [9,10,11] (fun n ah x wr=>∃ c,EnO w2 t.kind t.ps f0 bf fb lb c n ah x wr) (fun n ah x wr=>leastOf (fun c=>EnO w2 t.kind t.ps f0 bf fb lb c n ah x wr))
    case atStart=>exact ⟨_,0,rfl,rfl,by omega,by simp [erases,nposs],by simp,by rw [fcI];simp only [List.take_zero,erases,fcsT];rw [HF1.out.1];exact HRB.out.1,by rw [fcI];simp only [List.take_zero,erases,fcsT];rw [HF1.out.2.1];exact HRB.out.2.1,HRB.out.2.2⟩
    case round =>
     have hls:=(leastOf_spec hrel).1
     obtain ⟨i,rfl,hN1,hi1,rfl,rfl,hf,hl,hb⟩:=hls
     have HN1:=Lib.hid hN1
     clear hN1 hrel
     obtain ⟨x0,x1,x2,x3,x4,x5,x6,x7⟩:=HBX.out _ hb
     have s1:(0:Int)≤(i:Int):=by omega
     by_cases hlt:i<t.ps.length
     ·have g1:(i:Int)<(t.ps.length:Int):=by omega
      obtain ⟨p,hp⟩ : ∃ p,t.ps[i]? = some p:=⟨_,List.getElem?_eq_getElem hlt⟩
      obtain ⟨b1,o1,rfl,hlt1,cc1,L1⟩:=HR.out i p hp
      obtain ⟨pa,pc,hpv,_⟩:=laid_row' L1
      have hbww:Below w.heap.size w wr:=bhop HBW.out hb
      obtain ⟨y0,y1,y2,y3,y4,y5,y6,y7⟩:=node_cells cc1 hlt1 hbww
      rw [hpv] at y5
      have hcn:=nposs_take hp
      have hcl:=nposs_le t.ps (i+1)
      have hbd:=HE.out.2.2
      obtain ⟨cn,hcnn⟩ : ∃ cn,cn=nposs (erases (t.ps.take i)):=⟨_,rfl⟩
      rw [← hcnn] at hcn ⊢
      have HC:=Lib.hid (by
       have:=HP.out i p hp wr hbww (bf+cn) (by omega)
       rw [nodeAgg_v hpv,show ((bf+cn:Nat):Int)=(bf:Int)+(cn:Int) by push_cast;rfl] at this
       exact this)
      have HTD:=Lib.hid (fun (W:World) (h:Below wr.heap.size wr W)=>by
       have:=HT.out i p hp W (bhop hbww h)
       rw [nodeAgg_v hpv] at this
       exact this)
      have HCN:=Lib.hid (And.intro hcnn hcn)
      have HI:=Lib.hid (And.intro hp hlt)
      have HRW:=Lib.hid (And.intro hf (And.intro hl hb))
      have HY:=Lib.hid (fun (W:World) (h:Below w.heap.size w W)=>node_cells cc1 hlt1 h)
      have HPV:=Lib.hid hpv
      have t1:(cn:Int)≤199:=by omega
      have t2:(bf:Int)+(cn:Int)≤199:=by omega
      have t3:cn+npos (erase p)≤199:=by omega
      obtain ⟨ah,hah⟩ : ∃ ah,ah=(t.ps.take i).all nuV:=⟨_,rfl⟩
      rw [← hah]
      have HAH:=Lib.hid hah
      clear hf hl hb hbww hp hlt L1 cc1 hlt1 hpv hcn hcl hbd hcnn hah hi1
      go_wp2_with fail
      go_at_call 20
      refine HC.out.mono ?_
      rintro e w4 ⟨⟨f2,l2,rfl,hf2,hl2,hf2s,hl2s⟩,hb4⟩
      have HB4:=Lib.hid hb4
      have HRX:=Lib.hid (And.intro hf2 (And.intro hl2 (And.intro hf2s hl2s)))
      clear hb4 hf2 hl2 hf2s hl2s x0 x1 x2 x3 x4 x5 x6 x7 y0 y1 y2 y3 y4 y5 y6 y7
      obtain ⟨x0,x1,x2,x3,x4,x5,x6,x7⟩:=HBX.out _ (bhop HRW.out.2.2 HB4.out)
      obtain ⟨y0,y1,y2,y3,y4,y5,y6,y7⟩:=HY.out w4 (bhop HBW.out (bhop HRW.out.2.2 HB4.out))
      rw [HPV.out] at y5
      go_wp2_with fail
      go_at_call 21
      refine (HTD.out w4 HB4.out).mono ?_
      rintro e w5 ⟨rfl,hb5⟩
      have HB5:=Lib.hid hb5
      clear hb5 x0 x1 x2 x3 x4 x5 x6 x7 y0 y1 y2 y3 y4 y5 y6 y7
      have hfb:=(HRW.out.1.cell (p:=0) (by decide)).2.2
      have hlb:=(HRW.out.2.1.cell (p:=0) (by decide)).2.2
      have HNE:=Lib.hid (show f2≠fb∧f2≠lb∧l2≠fb∧l2≠lb from by
       obtain ⟨_,_,h1,h2⟩:=HRX.out
       exact ⟨by omega,by omega,by omega,by omega⟩)
      have hne':lb≠fb:=fun e=>hne e.symm
      have HRS:=Lib.hid (show EnI w2 fb lb f2 l2 (fcI t.kind t.ps f0 bf i).fi (fcI t.kind t.ps f0 bf (i+1)).fi (fcI t.kind t.ps f0 bf i).la (fcI t.kind t.ps f0 bf (i+1)).la (fcT (erase p) (bf+cn)).fi (fcT (erase p) (bf+cn)).la 200 (.int .i64 0) w5 from
       ⟨0,rfl,rfl,by omega,rowU_start ((HRW.out.1.below HB4.out).below HB5.out),rowU_start ((HRW.out.2.1.below HB4.out).below HB5.out),HRX.out.1.below HB5.out,HRX.out.2.1.below HB5.out,bhop (bhop HRW.out.2.2 HB4.out) HB5.out⟩)
      have HAD:=Lib.hid (show fcI t.kind t.ps f0 bf (i+1)=adF t.kind (fcI t.kind t.ps f0 bf i) (fcT (erase p) (bf+cn)) from by rw [HCN.out.1];exact fcI_step HI.out.1)
      obtain ⟨nu,hnu⟩ : ∃ nu,nu=nuV p:=⟨_,rfl⟩
      rw [← hnu]
      have HNU:=Lib.hid hnu
      have HEM:=Lib.hid (show (t.kind=2→(fcI t.kind t.ps f0 bf i).em=ah)∧(fcT (erase p) (bf+cn)).em=nu from by
       have hoks:=HNF.out.2.2.1.2
       have hot:oksT (erases (t.ps.take i))=true:=by
        have h:erases t.ps=erases (t.ps.take i) ++ erases (t.ps.drop i):=by rw [← erases_append,List.take_append_drop]
        rw [h,oks_append,Bool.and_eq_true] at hoks
        exact hoks.1
       refine ⟨fun e=>?_,?_⟩
       ·rw [fcI,e,fcs_all _ _ _ hot,HF1.out.2.2 e,Bool.true_and,nuAll_take,HAH.out]
       ·rw [HNU.out]
        exact fc_em _ _ (oks_mem hoks _ (by rw [erases_map];exact List.mem_map.2 ⟨p,List.mem_of_getElem? HI.out.1,rfl⟩)))
      obtain ⟨X1,hX1⟩ : ∃ X1,X1=(fcI t.kind t.ps f0 bf i).fi:=⟨_,rfl⟩
      obtain ⟨Y1,hY1⟩ : ∃ Y1,Y1=(fcI t.kind t.ps f0 bf (i+1)).fi:=⟨_,rfl⟩
      obtain ⟨X2,hX2⟩ : ∃ X2,X2=(fcI t.kind t.ps f0 bf i).la:=⟨_,rfl⟩
      obtain ⟨Y2,hY2⟩ : ∃ Y2,Y2=(fcI t.kind t.ps f0 bf (i+1)).la:=⟨_,rfl⟩
      obtain ⟨G1,hG1⟩ : ∃ G1,G1=(fcT (erase p) (bf+cn)).fi:=⟨_,rfl⟩
      obtain ⟨G2,hG2⟩ : ∃ G2,G2=(fcT (erase p) (bf+cn)).la:=⟨_,rfl⟩
      rw [← hX1,← hX2,← hY1,← hY2,← hG1,← hG2] at HRS
      have HV:=Lib.hid (fun (q:Nat)=>show (t.kind≠2→Y1.testBit q=(X1.testBit q || G1.testBit q)∧Y2.testBit q=(X2.testBit q || G2.testBit q))∧(t.kind=2→Y1.testBit q=(if ah then (X1.testBit q || G1.testBit q) else X1.testBit q)∧Y2.testBit q=(if nu then (X2.testBit q || G2.testBit q) else G2.testBit q)) from by
       rw [hY1,hY2,HAD.out,hX1,hX2,hG1,hG2]
       refine ⟨fun e=>?_,fun e=>?_⟩
       ·rw [adF,if_neg e]
        exact ⟨Nat.testBit_or _ _ _,Nat.testBit_or _ _ _⟩
       ·rw [adF,if_pos e]
        have h1:=HEM.out.1 e
        have h2:=HEM.out.2
        unfold thenF
        rw [h1,h2]
        refine ⟨?_,?_⟩
        ·cases ah
         ·rfl
         ·exact Nat.testBit_or _ _ _
        ·cases nu
         ·rfl
         ·exact (Nat.testBit_or _ _ _).trans (Bool.or_comm _ _))
      have HXY:=Lib.hid (And.intro hY1 hY2)
      clear hX1 hX2 hY1 hY2 hG1 hG2 hnu hfb hlb
      go_wp2_with fail
      go_loopw [17] (fun x wq=>∃ c,EnI w2 fb lb f2 l2 X1 Y1 X2 Y2 G1 G2 c x wq) (fun x wq=>leastOf (fun c=>EnI w2 fb lb f2 l2 X1 Y1 X2 Y2 G1 G2 c x wq))
      case atStart=>exact ⟨_,HRS.out⟩
      case round =>
       have hls:=(leastOf_spec hrel).1
       obtain ⟨q,rfl,hN2,hq1,r1,r2,r3,r4,hb⟩:=hls
       have HN2:=Lib.hid hN2
       have HRR:=Lib.hid (And.intro r1 (And.intro r2 (And.intro r3 (And.intro r4 hb))))
       clear hN2 hrel
       obtain ⟨x0,x1,x2,x3,x4,x5,x6,x7⟩:=HBX.out _ hb
       have v1:(0:Int)≤(q:Int):=by omega
       by_cases hq:q<200
       ·have v2:(q:Int)<200:=by omega
        obtain ⟨c1,c2,c3⟩:=r1.cell hq
        obtain ⟨d1,d2,d3⟩:=r2.cell hq
        obtain ⟨e1,e2,e3⟩:=r3.cell hq
        obtain ⟨k1,k2,k3⟩:=r4.cell hq
        obtain ⟨n1,n2,n3,n4⟩:=HNE.out
        obtain ⟨b1,hb1⟩ : ∃ b1,b1=X1.testBit q:=⟨_,rfl⟩
        obtain ⟨b2,hb2⟩ : ∃ b2,b2=X2.testBit q:=⟨_,rfl⟩
        obtain ⟨g1,hg1⟩ : ∃ g1,g1=G1.testBit q:=⟨_,rfl⟩
        obtain ⟨g2,hg2⟩ : ∃ g2,g2=G2.testBit q:=⟨_,rfl⟩
        have hvq:=HV.out q
        rw [← hb1,← hb2,← hg1,← hg2] at hvq
        rw [← hb1] at c1
        rw [← hb2] at d1
        rw [← hg1] at e1
        rw [← hg2] at k1
        have HU:=Lib.hid hb1
        have m0:=HL2.out
        have m1:w.heap.size≠fb:=by omega
        have m2:w.heap.size≠lb:=by omega
        have m3:fb≠w.heap.size:=by omega
        have m4:lb≠w.heap.size:=by omega
        have n5:fb≠f2:=fun e=>n1 e.symm
        have n6:lb≠f2:=fun e=>n2 e.symm
        have n7:fb≠l2:=fun e=>n3 e.symm
        have n8:lb≠l2:=fun e=>n4 e.symm
        have HLT:=Lib.hid (show 200 - (q+1)<200 - q by omega)
        have HQ:=Lib.hid hq
        clear r1 r2 r3 r4 hb hb1 hb2 hg1 hg2 hq1 hq k2 e2
        by_cases hk2:t.kind=2
        ·have HVQ:=Lib.hid (hvq.2 hk2)
         rw [hk2] at x0
         clear hvq
         cases ah
         ·cases nu
          ·clear c1
           go_wp2_with fail
           go_roundw
           case rel=>exact ⟨200 - (q+1),⟨q+1,by push_cast;rfl,rfl,by have:=HQ.out;omega,((HRR.out.1.same (by rw [HVQ.out.1,← HU.out];rfl)).other hne).other hne,HRR.out.2.1.set2 (by rw [HVQ.out.2];rfl),(HRR.out.2.2.1.other HNE.out.2.1).other HNE.out.2.1,(HRR.out.2.2.2.1.other HNE.out.2.2.2).other HNE.out.2.2.2,(HRR.out.2.2.2.2.setCell hll _).setCell hll _⟩⟩
           case measure =>
            rw [HN2.out]
            exact Nat.lt_of_le_of_lt (leastOf_le (n:=200 - (q+1)) ⟨q+1,by push_cast;rfl,rfl,by have:=HQ.out;omega,((HRR.out.1.same (by rw [HVQ.out.1,← HU.out];rfl)).other hne).other hne,HRR.out.2.1.set2 (by rw [HVQ.out.2];rfl),(HRR.out.2.2.1.other HNE.out.2.1).other HNE.out.2.1,(HRR.out.2.2.2.1.other HNE.out.2.2.2).other HNE.out.2.2.2,(HRR.out.2.2.2.2.setCell hll _).setCell hll _⟩) HLT.out
          ·cases b2
           all_goals
            go_wp2_with fail
            go_roundw
            case rel=>exact ⟨200 - (q+1),⟨q+1,by push_cast;rfl,rfl,by have:=HQ.out;omega,(HRR.out.1.same (by rw [HVQ.out.1,← HU.out];rfl)).other hne,HRR.out.2.1.set (by rw [HVQ.out.2];rfl),HRR.out.2.2.1.other HNE.out.2.1,HRR.out.2.2.2.1.other HNE.out.2.2.2,HRR.out.2.2.2.2.setCell hll _⟩⟩
            case measure =>
             rw [HN2.out]
             exact Nat.lt_of_le_of_lt (leastOf_le (n:=200 - (q+1)) ⟨q+1,by push_cast;rfl,rfl,by have:=HQ.out;omega,(HRR.out.1.same (by rw [HVQ.out.1,← HU.out];rfl)).other hne,HRR.out.2.1.set (by rw [HVQ.out.2];rfl),HRR.out.2.2.1.other HNE.out.2.1,HRR.out.2.2.2.1.other HNE.out.2.2.2,HRR.out.2.2.2.2.setCell hll _⟩) HLT.out
         ·cases nu
          ·cases b1
           all_goals
            go_wp2_with fail
            go_roundw
            case rel=>exact ⟨200 - (q+1),⟨q+1,by push_cast;rfl,rfl,by have:=HQ.out;omega,((HRR.out.1.set (by rw [HVQ.out.1];rfl)).other hne).other hne,(HRR.out.2.1.other hne').set2 (by rw [HVQ.out.2];rfl),((HRR.out.2.2.1.other HNE.out.1).other HNE.out.2.1).other HNE.out.2.1,((HRR.out.2.2.2.1.other HNE.out.2.2.1).other HNE.out.2.2.2).other HNE.out.2.2.2,((HRR.out.2.2.2.2.setCell hfl _).setCell hll _).setCell hll _⟩⟩
            case measure =>
             rw [HN2.out]
             exact Nat.lt_of_le_of_lt (leastOf_le (n:=200 - (q+1)) ⟨q+1,by push_cast;rfl,rfl,by have:=HQ.out;omega,((HRR.out.1.set (by rw [HVQ.out.1];rfl)).other hne).other hne,(HRR.out.2.1.other hne').set2 (by rw [HVQ.out.2];rfl),((HRR.out.2.2.1.other HNE.out.1).other HNE.out.2.1).other HNE.out.2.1,((HRR.out.2.2.2.1.other HNE.out.2.2.1).other HNE.out.2.2.2).other HNE.out.2.2.2,((HRR.out.2.2.2.2.setCell hfl _).setCell hll _).setCell hll _⟩) HLT.out
          ·cases b1 <;> cases b2
           all_goals
            go_wp2_with fail
            go_roundw
            case rel=>exact ⟨200 - (q+1),⟨q+1,by push_cast;rfl,rfl,by have:=HQ.out;omega,(HRR.out.1.set (by rw [HVQ.out.1];rfl)).other hne,(HRR.out.2.1.other hne').set (by rw [HVQ.out.2];rfl),(HRR.out.2.2.1.other HNE.out.1).other HNE.out.2.1,(HRR.out.2.2.2.1.other HNE.out.2.2.1).other HNE.out.2.2.2,(HRR.out.2.2.2.2.setCell hfl _).setCell hll _⟩⟩
            case measure =>
             rw [HN2.out]
             exact Nat.lt_of_le_of_lt (leastOf_le (n:=200 - (q+1)) ⟨q+1,by push_cast;rfl,rfl,by have:=HQ.out;omega,(HRR.out.1.set (by rw [HVQ.out.1];rfl)).other hne,(HRR.out.2.1.other hne').set (by rw [HVQ.out.2];rfl),(HRR.out.2.2.1.other HNE.out.1).other HNE.out.2.1,(HRR.out.2.2.2.1.other HNE.out.2.2.1).other HNE.out.2.2.2,(HRR.out.2.2.2.2.setCell hfl _).setCell hll _⟩) HLT.out
        ·have HVQ:=Lib.hid (hvq.1 hk2)
         have hk3:(t.kind == 2)=false:=by simp [hk2]
         clear hvq
         cases b1 <;> cases b2
         all_goals
          go_wp2_with fail
          go_roundw
          case rel=>exact ⟨200 - (q+1),⟨q+1,by push_cast;rfl,rfl,by have:=HQ.out;omega,(HRR.out.1.set (by rw [HVQ.out.1];rfl)).other hne,(HRR.out.2.1.other hne').set (by rw [HVQ.out.2];rfl),(HRR.out.2.2.1.other HNE.out.1).other HNE.out.2.1,(HRR.out.2.2.2.1.other HNE.out.2.2.1).other HNE.out.2.2.2,(HRR.out.2.2.2.2.setCell hfl _).setCell hll _⟩⟩
          case measure =>
           rw [HN2.out]
           exact Nat.lt_of_le_of_lt (leastOf_le (n:=200 - (q+1)) ⟨q+1,by push_cast;rfl,rfl,by have:=HQ.out;omega,(HRR.out.1.set (by rw [HVQ.out.1];rfl)).other hne,(HRR.out.2.1.other hne').set (by rw [HVQ.out.2];rfl),(HRR.out.2.2.1.other HNE.out.1).other HNE.out.2.1,(HRR.out.2.2.2.1.other HNE.out.2.2.1).other HNE.out.2.2.2,(HRR.out.2.2.2.2.setCell hfl _).setCell hll _⟩) HLT.out
       ·have v2:¬ (q:Int)<200:=by omega
        obtain rfl:q=200:=by omega
        have HFI:=Lib.hid (show EnO w2 t.kind t.ps f0 bf fb lb (t.ps.length - (i+1)) (.int .i64 ((cn:Int)+(npos (erase p):Nat))) (.bool (ah && nu)) (.int .i64 ((i:Int)+1)) wr from
         ⟨i+1,by push_cast;rfl,rfl,by have:=HI.out.2;omega,by rw [HCN.out.2];push_cast;rfl,by rw [all_step HI.out.1,HAH.out,HNU.out],by rw [← HXY.out.1];exact rowU_end r1,by rw [← HXY.out.2];exact rowU_end r2,hb⟩)
        have HLT:=Lib.hid (show t.ps.length - (i+1)<t.ps.length - i by have:=HI.out.2;omega)
        have HIL:=HI.out.2
        clear r1 r2 r3 r4 hb hq1 hq
        cases ah
        all_goals
         go_wp2_with fail
         go_roundw
         case rel=>exact ⟨_,HFI.out⟩
         case measure =>
          have hn1:=HN1.out
          rw [← HCN.out.1,← HAH.out] at hn1
          rw [hn1]
          exact Nat.lt_of_le_of_lt ((leastOf_spec ⟨_,HFI.out⟩).2 _ HFI.out) HLT.out
     ·have g1:¬ (i:Int)<(t.ps.length:Int):=by omega
      have hil:i=t.ps.length:=by omega
      subst hil
      have HRW:=Lib.hid (And.intro hf (And.intro hl hb))
      have HL:=Lib.hid HE.out.1
      clear hf hl hb hi1
      go_wp2_with fail
      go_ret3
      exact ⟨⟨fb,lb,by rw [HL.out];rfl,by rw [HE.out.2.1];exact HRW.out.1,by rw [HE.out.2.1];exact HRW.out.2.1,by omega,by omega⟩,bhop HBW.out HRW.out.2.2⟩
end Go.Proofs.YtjcfmbmepmlckaaDoor
