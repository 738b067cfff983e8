/- The statements' awake of stage 5 is true: a contract.
   No condition. -/
import Derived.Test.YtbohmcfplgdlpaaDoorMPmap
import Derived.Test.YtbohmcfplgdlpaaDoorMSimA
import Derived.Deep.DeepCutAuto

/- place.Of of every tree: contracts.
   Conditions: the tree lies in memory, and has at most 300000 nodes. -/
namespace Go.Proofs.YtbohmcfplgdlpaaDoor
open Go.RowKit Go.Shelf
attribute [local go_sem] nodeAgg
structure POfR (w w':World) (u:T) (m:PM) (r:V) (sv cv av:Value):Prop where
 some:mapT (simT u)=some m
 tree:erase r=simT u
 res:Res w' w.heap.size w'.heap.size r
 lists:MapL w' w.heap.size m sv cv av
 sets:m.sets.length≤41
 ars:m.ars.length=m.sets.length
 scs:m.scs.length≤700000
 one:1≤m.sets.length
def POfE (w w':World) (u:T) (e:Ending):Prop :=
 (∃ (m:PM) (r:V) (ta:Option Addr) (tn tc:Nat) (sA:Option Addr) (sN sC:Nat) (cA:Option Addr) (cN cC:Nat) (aA:Option Addr) (aN aC:Nat),POfR w w' u m r (.slice sA sN sC) (.slice cA cN cC) (.slice aA aN aC)∧r.v=.slice ta tn tc∧e=.returned (.tuple #[.agg #[.int .i64 r.kind,.int .u64 (r.set 0:Nat),.int .u64 (r.set 1:Nat),.int .u64 (r.set 2:Nat),.int .u64 (r.set 3:Nat),.slice ta tn tc,.int .i64 r.lo,.int .i64 r.hi,.slice sA sN sC,.slice cA cN cC,.slice aA aN aC],.int .i64 0])) ∨
  (mapT (simT u)=none∧e=.returned (.tuple #[.agg #[.int .i64 0,.int .u64 0,.int .u64 0,.int .u64 0,.int .u64 0,.slice none 0 0,.int .i64 0,.int .i64 0,.slice none 0 0,.slice none 0 0,.slice none 0 0],.int .i64 3]))
set_option maxHeartbeats 4000000 in
set_option maxRecDepth 100000 in
theorem of_bad (t:V) (w:World) (R:Nat→Prop) (ht:Laid w R t) (hz:szT (erase t)≤300000) (hok:okT (erase t)=false) :
  Calls Tryd.prog 21 #[nodeAgg t] w fun e w'=>e=.returned (.tuple #[.agg #[.int .i64 0,.int .u64 0,.int .u64 0,.int .u64 0,.int .u64 0,.slice none 0 0,.int .i64 0,.int .i64 0,.slice none 0 0,.slice none 0 0,.slice none 0 0],.int .i64 1])∧Below w.heap.size w w':=by
 obtain ⟨sa,sn,sc,hs⟩:=ht.slice
 have HSi:=Lib.hid (fun (W:World) (h:Below w.heap.size w W)=>by
  have:=simple_bad t W R (laid_low ht h) hz hok
  rw [nodeAgg_v hs,show nodeAgg zeroV=.agg #[.int .i64 0,.int .u64 0,.int .u64 0,.int .u64 0,.int .u64 0,.slice none 0 0,.int .i64 0,.int .i64 0] from rfl] at this
  exact this)
 rw [nodeAgg_v hs]
 clear hs ht hz hok
 obtain ⟨w2,hw2⟩ : ∃ w2,(w.alloc (.cells #[.int .i64 t.kind,.int .u64 (t.set 0:Nat),.int .u64 (t.set 1:Nat),.int .u64 (t.set 2:Nat),.int .u64 (t.set 3:Nat),.slice sa sn sc,.int .i64 t.lo,.int .i64 t.hi] 27)).alloc (.cells #[.int .i64 0,.int .u64 0,.int .u64 0,.int .u64 0,.int .u64 0,.slice none 0 0,.int .i64 0,.int .i64 0,.slice none 0 0,.slice none 0 0,.slice none 0 0] 33)=w2:=⟨_,rfl⟩
 have hb2:Below w.heap.size w w2:=hw2▸((Below.refl _ w).alloc (Nat.le_refl _) _).alloc (by simp) _
 have e1:w2.heap[w.heap.size]? = some (.cells #[.int .i64 t.kind,.int .u64 (t.set 0:Nat),.int .u64 (t.set 1:Nat),.int .u64 (t.set 2:Nat),.int .u64 (t.set 3:Nat),.slice sa sn sc,.int .i64 t.lo,.int .i64 t.hi] 27 (0,0)):=by rw [← hw2];exact (Below.heap_alloc _ _ _ (by simp)).trans (heap_alloc_new w _)
 have e2:ZBM (w.heap.size+1) w2:=by
  rw [← hw2]
  have:=heap_alloc_new (w.alloc (.cells #[.int .i64 t.kind,.int .u64 (t.set 0:Nat),.int .u64 (t.set 1:Nat),.int .u64 (t.set 2:Nat),.int .u64 (t.set 3:Nat),.slice sa sn sc,.int .i64 t.lo,.int .i64 t.hi] 27)) (.cells #[.int .i64 0,.int .u64 0,.int .u64 0,.int .u64 0,.int .u64 0,.slice none 0 0,.int .i64 0,.int .i64 0,.slice none 0 0,.slice none 0 0,.slice none 0 0] 33)
  rw [World.size_alloc] at this
  exact this
 obtain ⟨c0,c1,c2,c3,c4,c5,c6,c7⟩:=cells8 e1
 have HB:=Lib.hid (And.intro hb2 e2)
 clear hb2 e1 e2
 go_enter Tryd.func21,Tryd.ntmps21
 go_upto_region 1 with fail
 clear hw2
 go_wp2_with fail
 go_at_call 32
 refine (HSi.out _ HB.out.1).mono ?_
 rintro e w3 ⟨rfl,hb3⟩
 obtain ⟨w4,hw4⟩ : ∃ w4,w3.alloc (.cells #[.int .i64 0,.int .u64 0,.int .u64 0,.int .u64 0,.int .u64 0,.slice none 0 0,.int .i64 0,.int .i64 0] 27)=w4:=⟨_,rfl⟩
 have hb4:Below w3.heap.size w3 w4:=hw4▸(Below.refl _ w3).alloc (Nat.le_refl _) _
 have h24:Below w2.heap.size w2 w4:=hb3.trans (hb4.mono hb3.size)
 have HB4:=Lib.hid (show Below w.heap.size w w4∧ZBM (w.heap.size+1) w4 from ⟨HB.out.1.trans (h24.mono HB.out.1.size),(h24.block _ (Array.getElem?_eq_some_iff.1 HB.out.2).1).trans HB.out.2⟩)
 clear hb3 hb4 h24 c0 c1 c2 c3 c4 c5 c6 c7
 have HW4:=Lib.hid hw4
 clear hw4
 go_upto_region 2 with fail
 rw [HW4.out]
 obtain ⟨⟨z0,z1,z2,z3,z4,z5,z6,z7,z8,z9,z10⟩,hfz,hl⟩:=HB4.out.2.cells
 have f0:=hfz 0;have f1:=hfz 1;have f2:=hfz 2;have f3:=hfz 3;have f4:=hfz 4;have f5:=hfz 5;have f6:=hfz 6;have f7:=hfz 7;have f8:=hfz 8;have f9:=hfz 9;have f10:=hfz 10
 clear hfz
 go_wp2_with fail
 clear z0 z1 z2 z3 z4 z5 z6 z7 z8 z9 z10 f0 f1 f2 f3 f4 f5 f6 f7 f8 f9 f10
 have hf:=set11_heap HB4.out.2 (.int .i64 0) (.int .u64 0) (.int .u64 0) (.int .u64 0) (.int .u64 0) (.slice none 0 0) (.int .i64 0) (.int .i64 0) (.slice none 0 0) (.slice none 0 0) (.slice none 0 0)
 have hch:=set11_chg w4 (w.heap.size+1) (.int .i64 0) (.int .u64 0) (.int .u64 0) (.int .u64 0) (.int .u64 0) (.slice none 0 0) (.int .i64 0) (.int .i64 0) (.slice none 0 0) (.slice none 0 0) (.slice none 0 0)
 generalize (((((((((((w4.setCell ⟨w.heap.size+1,0,none⟩ (.int .i64 0)).setCell ⟨w.heap.size+1,1,none⟩ (.int .u64 0)).setCell ⟨w.heap.size+1,2,none⟩ (.int .u64 0)).setCell ⟨w.heap.size+1,3,none⟩ (.int .u64 0)).setCell ⟨w.heap.size+1,4,none⟩ (.int .u64 0)).setCell ⟨w.heap.size+1,5,none⟩ (.slice none 0 0)).setCell ⟨w.heap.size+1,6,none⟩ (.int .i64 0)).setCell ⟨w.heap.size+1,7,none⟩ (.int .i64 0)).setCell ⟨w.heap.size+1,8,none⟩ (.slice none 0 0)).setCell ⟨w.heap.size+1,9,none⟩ (.slice none 0 0)).setCell ⟨w.heap.size+1,10,none⟩ (.slice none 0 0))=w6 at *
 obtain ⟨rr,_⟩:=row_cells hf
 have r0:=rr 0;have r1:=rr 1;have r2:=rr 2;have r3:=rr 3;have r4:=rr 4;have r5:=rr 5;have r6:=rr 6;have r7:=rr 7;have r8:=rr 8;have r9:=rr 9;have r10:=rr 10
 refine bodyPost_ret (v:=.tuple #[.agg #[.int .i64 0,.int .u64 0,.int .u64 0,.int .u64 0,.int .u64 0,.slice none 0 0,.int .i64 0,.int .i64 0,.slice none 0 0,.slice none 0 0,.slice none 0 0],.int .i64 1]) (by simp [results,Tryd.results21,go_sem,r0,r1,r2,r3,r4,r5,r6,r7,r8,r9,r10]) rfl ⟨rfl,?_⟩
 exact HB4.out.1.trans (hch.below (by have:=HB4.out.1.size;omega) fun k hk e=>by omega)
set_option maxHeartbeats 4000000 in
set_option maxRecDepth 100000 in
theorem of_good (t:V) (w:World) (R:Nat→Prop) (ht:Laid w R t) (hz:szT (erase t)≤300000) (hok:okT (erase t)=true) :
  Calls Tryd.prog 21 #[nodeAgg t] w fun e w'=>POfE w w' (erase t) e∧Below w.heap.size w w':=by
 obtain ⟨sa,sn,sc,hs⟩:=ht.slice
 have HSi:=Lib.hid (fun (W:World) (h:Below w.heap.size w W)=>by
  have:=simple_good t W R (laid_low ht h) hz hok
  rw [nodeAgg_v hs] at this
  exact this)
 have HK:=Lib.hid (And.intro hz hok)
 rw [nodeAgg_v hs]
 clear hs ht hz hok
 obtain ⟨w2,hw2⟩ : ∃ w2,(w.alloc (.cells #[.int .i64 t.kind,.int .u64 (t.set 0:Nat),.int .u64 (t.set 1:Nat),.int .u64 (t.set 2:Nat),.int .u64 (t.set 3:Nat),.slice sa sn sc,.int .i64 t.lo,.int .i64 t.hi] 27)).alloc (.cells #[.int .i64 0,.int .u64 0,.int .u64 0,.int .u64 0,.int .u64 0,.slice none 0 0,.int .i64 0,.int .i64 0,.slice none 0 0,.slice none 0 0,.slice none 0 0] 33)=w2:=⟨_,rfl⟩
 have hb2:Below w.heap.size w w2:=hw2▸((Below.refl _ w).alloc (Nat.le_refl _) _).alloc (by simp) _
 have e1:w2.heap[w.heap.size]? = some (.cells #[.int .i64 t.kind,.int .u64 (t.set 0:Nat),.int .u64 (t.set 1:Nat),.int .u64 (t.set 2:Nat),.int .u64 (t.set 3:Nat),.slice sa sn sc,.int .i64 t.lo,.int .i64 t.hi] 27 (0,0)):=by rw [← hw2];exact (Below.heap_alloc _ _ _ (by simp)).trans (heap_alloc_new w _)
 have e2:ZBM (w.heap.size+1) w2:=by
  rw [← hw2]
  have:=heap_alloc_new (w.alloc (.cells #[.int .i64 t.kind,.int .u64 (t.set 0:Nat),.int .u64 (t.set 1:Nat),.int .u64 (t.set 2:Nat),.int .u64 (t.set 3:Nat),.slice sa sn sc,.int .i64 t.lo,.int .i64 t.hi] 27)) (.cells #[.int .i64 0,.int .u64 0,.int .u64 0,.int .u64 0,.int .u64 0,.slice none 0 0,.int .i64 0,.int .i64 0,.slice none 0 0,.slice none 0 0,.slice none 0 0] 33)
  rw [World.size_alloc] at this
  exact this
 obtain ⟨c0,c1,c2,c3,c4,c5,c6,c7⟩:=cells8 e1
 have HB:=Lib.hid (And.intro hb2 e2)
 clear hb2 e1 e2
 go_enter Tryd.func21,Tryd.ntmps21
 go_upto_region 1 with fail
 clear hw2
 go_wp2_with fail
 go_at_call 32
 refine (HSi.out _ HB.out.1).mono ?_
 rintro e w3 ⟨⟨r,rfl,her,hres⟩,hb3⟩
 obtain ⟨ta,tn,tc,hrv⟩:=hres.laid.slice
 rw [nodeAgg_v hrv]
 obtain ⟨w4,hw4⟩ : ∃ w4,w3.alloc (.cells #[.int .i64 r.kind,.int .u64 (r.set 0:Nat),.int .u64 (r.set 1:Nat),.int .u64 (r.set 2:Nat),.int .u64 (r.set 3:Nat),.slice ta tn tc,.int .i64 r.lo,.int .i64 r.hi] 27)=w4:=⟨_,rfl⟩
 have hb4:Below w3.heap.size w3 w4:=hw4▸(Below.refl _ w3).alloc (Nat.le_refl _) _
 have e4:w4.heap[w3.heap.size]? = some (.cells #[.int .i64 r.kind,.int .u64 (r.set 0:Nat),.int .u64 (r.set 1:Nat),.int .u64 (r.set 2:Nat),.int .u64 (r.set 3:Nat),.slice ta tn tc,.int .i64 r.lo,.int .i64 r.hi] 27 (0,0)):=hw4▸heap_alloc_new w3 _
 have h24:Below w2.heap.size w2 w4:=hb3.trans (hb4.mono hb3.size)
 have hz2:w.heap.size+1<w2.heap.size:=(Array.getElem?_eq_some_iff.1 HB.out.2).1
 have hres4:Res w4 w2.heap.size w3.heap.size r:=Res.chg hres (Chg.of_below (R:=fun _=>False) hb4) fun _ _ _ _=>id
 have HB4:=Lib.hid (show Below w.heap.size w w4∧ZBM (w.heap.size+1) w4 from ⟨HB.out.1.trans (h24.mono HB.out.1.size),(h24.block _ (Array.getElem?_eq_some_iff.1 HB.out.2).1).trans HB.out.2⟩)
 have HR:=Lib.hid (And.intro her (And.intro hres4 (And.intro hrv (And.intro hz2 (And.intro hb3.size hb4.size)))))
 have HMp:=Lib.hid (show Calls Tryd.prog 33 #[.agg #[.int .i64 r.kind,.int .u64 (r.set 0:Nat),.int .u64 (r.set 1:Nat),.int .u64 (r.set 2:Nat),.int .u64 (r.set 3:Nat),.slice ta tn tc,.int .i64 r.lo,.int .i64 r.hi]] w4 fun e w'=>MapE w4 w' r (mapT (erase r)) e∧Below w4.heap.size w4 w' by
  have:=mapped_any r w4 (hres4.laid.mono fun b hb _=>hb) (show okT (erase r)=true by rw [her];exact (sim_ws _ HK.out.2).ok) (by rw [her];have:=sim_sz (erase t);have:=HK.out.1;omega)
  rw [nodeAgg_v hrv] at this
  exact this)
 clear hb3 hb4 h24 c0 c1 c2 c3 c4 c5 c6 c7 hz2 hres4 her hres hrv
 obtain ⟨c0,c1,c2,c3,c4,c5,c6,c7⟩:=cells8 e4
 have HW4:=Lib.hid hw4
 clear e4 hw4
 go_upto_region 2 with fail
 rw [HW4.out]
 go_wp2_with fail
 go_at_call 33
 refine HMp.out.mono ?_
 rintro e w5 ⟨hE,hb5⟩
 have HB5:=Lib.hid (show Below w.heap.size w w5∧ZBM (w.heap.size+1) w5 from ⟨HB4.out.1.trans (hb5.mono HB4.out.1.size),(hb5.block _ (Array.getElem?_eq_some_iff.1 HB4.out.2).1).trans HB4.out.2⟩)
 have HX5:=Lib.hid hb5
 clear hb5 c0 c1 c2 c3 c4 c5 c6 c7
 obtain ⟨⟨z0,z1,z2,z3,z4,z5,z6,z7,z8,z9,z10⟩,hfz,hl⟩:=HB5.out.2.cells
 have f0:=hfz 0;have f1:=hfz 1;have f2:=hfz 2;have f3:=hfz 3;have f4:=hfz 4;have f5:=hfz 5;have f6:=hfz 6;have f7:=hfz 7;have f8:=hfz 8;have f9:=hfz 9;have f10:=hfz 10
 clear hfz
 rcases hE with ⟨m,sA,sN,sC,cA,cN,cC,aA,aN,aC,hm,rfl,hL,hm1,hm2,hm3,hm4⟩ | ⟨hm,rfl⟩
 ·have hnd:((ndc r ++ [Value.slice sA sN sC,Value.slice cA cN cC,Value.slice aA aN aC]).toArray)=#[.int .i64 r.kind,.int .u64 (r.set 0:Nat),.int .u64 (r.set 1:Nat),.int .u64 (r.set 2:Nat),.int .u64 (r.set 3:Nat),.slice ta tn tc,.int .i64 r.lo,.int .i64 r.hi,.slice sA sN sC,.slice cA cN cC,.slice aA aN aC]:=by unfold ndc;rw [HR.out.2.2.1];rfl
  rw [hnd]
  have HM:=Lib.hid (And.intro hm (And.intro hL (And.intro hm1 (And.intro hm2 (And.intro hm3 hm4)))))
  clear hm hL hm1 hm2 hm3 hm4 hnd
  go_wp2_with fail
  clear z0 z1 z2 z3 z4 z5 z6 z7 z8 z9 z10 f0 f1 f2 f3 f4 f5 f6 f7 f8 f9 f10
  have hf:=set11_heap HB5.out.2 (.int .i64 r.kind) (.int .u64 (r.set 0:Nat)) (.int .u64 (r.set 1:Nat)) (.int .u64 (r.set 2:Nat)) (.int .u64 (r.set 3:Nat)) (.slice ta tn tc) (.int .i64 r.lo) (.int .i64 r.hi) (.slice sA sN sC) (.slice cA cN cC) (.slice aA aN aC)
  have hch:=set11_chg w5 (w.heap.size+1) (.int .i64 r.kind) (.int .u64 (r.set 0:Nat)) (.int .u64 (r.set 1:Nat)) (.int .u64 (r.set 2:Nat)) (.int .u64 (r.set 3:Nat)) (.slice ta tn tc) (.int .i64 r.lo) (.int .i64 r.hi) (.slice sA sN sC) (.slice cA cN cC) (.slice aA aN aC)
  generalize (((((((((((w5.setCell ⟨w.heap.size+1,0,none⟩ (.int .i64 r.kind)).setCell ⟨w.heap.size+1,1,none⟩ (.int .u64 (r.set 0:Nat))).setCell ⟨w.heap.size+1,2,none⟩ (.int .u64 (r.set 1:Nat))).setCell ⟨w.heap.size+1,3,none⟩ (.int .u64 (r.set 2:Nat))).setCell ⟨w.heap.size+1,4,none⟩ (.int .u64 (r.set 3:Nat))).setCell ⟨w.heap.size+1,5,none⟩ (.slice ta tn tc)).setCell ⟨w.heap.size+1,6,none⟩ (.int .i64 r.lo)).setCell ⟨w.heap.size+1,7,none⟩ (.int .i64 r.hi)).setCell ⟨w.heap.size+1,8,none⟩ (.slice sA sN sC)).setCell ⟨w.heap.size+1,9,none⟩ (.slice cA cN cC)).setCell ⟨w.heap.size+1,10,none⟩ (.slice aA aN aC))=w6 at *
  obtain ⟨rr,_⟩:=row_cells hf
  have r0:=rr 0;have r1:=rr 1;have r2:=rr 2;have r3:=rr 3;have r4:=rr 4;have r5:=rr 5;have r6:=rr 6;have r7:=rr 7;have r8:=rr 8;have r9:=rr 9;have r10:=rr 10
  have hmt:mapT (simT (erase t))=some m:=by rw [← HR.out.1];exact HM.out.1
  have hzs:w.heap.size+1<w4.heap.size:=(Array.getElem?_eq_some_iff.1 HB4.out.2).1
  have hzr:=HR.out.2.2.2.1
  refine bodyPost_ret (v:=.tuple #[.agg #[.int .i64 r.kind,.int .u64 (r.set 0:Nat),.int .u64 (r.set 1:Nat),.int .u64 (r.set 2:Nat),.int .u64 (r.set 3:Nat),.slice ta tn tc,.int .i64 r.lo,.int .i64 r.hi,.slice sA sN sC,.slice cA cN cC,.slice aA aN aC],.int .i64 0]) (by simp [results,Tryd.results21,go_sem,r0,r1,r2,r3,r4,r5,r6,r7,r8,r9,r10]) rfl ⟨.inl ⟨m,r,ta,tn,tc,sA,sN,sC,cA,cN,cC,aA,aN,aC,⟨hmt,HR.out.1,?_,?_,HM.out.2.2.1,HM.out.2.2.2.1,HM.out.2.2.2.2.1,HM.out.2.2.2.2.2⟩,HR.out.2.2.1,rfl⟩,?_⟩
  ·have h1:=Res.chg (HR.out.2.1) (Chg.of_below (R:=fun _=>False) HX5.out) fun _ _ _ _=>id
   refine (Res.chg h1 hch fun x _ h4 _ e=>by omega).wid (by omega) (by have h1:=HR.out.2.2.2.2.2;have h2:=HX5.out.size;have h3:=hch.size;omega)
  ·exact (HM.out.2.1.keep hch fun x ty e hx _=>by omega).lower (by omega)
  ·exact HB5.out.1.trans (hch.below (by have:=HB5.out.1.size;omega) fun k hk e=>by omega)
 ·have HM:=Lib.hid hm
  clear hm
  go_wp2_with fail
  clear z0 z1 z2 z3 z4 z5 z6 z7 z8 z9 z10 f0 f1 f2 f3 f4 f5 f6 f7 f8 f9 f10
  have hf:=set11_heap HB5.out.2 (.int .i64 0) (.int .u64 0) (.int .u64 0) (.int .u64 0) (.int .u64 0) (.slice none 0 0) (.int .i64 0) (.int .i64 0) (.slice none 0 0) (.slice none 0 0) (.slice none 0 0)
  have hch:=set11_chg w5 (w.heap.size+1) (.int .i64 0) (.int .u64 0) (.int .u64 0) (.int .u64 0) (.int .u64 0) (.slice none 0 0) (.int .i64 0) (.int .i64 0) (.slice none 0 0) (.slice none 0 0) (.slice none 0 0)
  generalize (((((((((((w5.setCell ⟨w.heap.size+1,0,none⟩ (.int .i64 0)).setCell ⟨w.heap.size+1,1,none⟩ (.int .u64 0)).setCell ⟨w.heap.size+1,2,none⟩ (.int .u64 0)).setCell ⟨w.heap.size+1,3,none⟩ (.int .u64 0)).setCell ⟨w.heap.size+1,4,none⟩ (.int .u64 0)).setCell ⟨w.heap.size+1,5,none⟩ (.slice none 0 0)).setCell ⟨w.heap.size+1,6,none⟩ (.int .i64 0)).setCell ⟨w.heap.size+1,7,none⟩ (.int .i64 0)).setCell ⟨w.heap.size+1,8,none⟩ (.slice none 0 0)).setCell ⟨w.heap.size+1,9,none⟩ (.slice none 0 0)).setCell ⟨w.heap.size+1,10,none⟩ (.slice none 0 0))=w6 at *
  obtain ⟨rr,_⟩:=row_cells hf
  have r0:=rr 0;have r1:=rr 1;have r2:=rr 2;have r3:=rr 3;have r4:=rr 4;have r5:=rr 5;have r6:=rr 6;have r7:=rr 7;have r8:=rr 8;have r9:=rr 9;have r10:=rr 10
  refine bodyPost_ret (v:=.tuple #[.agg #[.int .i64 0,.int .u64 0,.int .u64 0,.int .u64 0,.int .u64 0,.slice none 0 0,.int .i64 0,.int .i64 0,.slice none 0 0,.slice none 0 0,.slice none 0 0],.int .i64 3]) (by simp [results,Tryd.results21,go_sem,r0,r1,r2,r3,r4,r5,r6,r7,r8,r9,r10]) rfl ⟨.inr ⟨by rw [← HR.out.1];exact HM.out,rfl⟩,?_⟩
  exact HB5.out.1.trans (hch.below (by have:=HB5.out.1.size;omega) fun k hk e=>by omega)
end Go.Proofs.YtbohmcfplgdlpaaDoor

/- The statements' awake of stage 5 is true: a contract.
   No condition. -/
namespace Go.Proofs.YtbohmcfplgdlpaaDoor
open Go.RowKit Go.Shelf
theorem own_n {w:World} {base sz n k:Nat} {e:TypeId} {A:Option Addr} {c:Nat} {xs:List Value} (h:w.ownsRow base e sz (.slice A n c) k xs):n=k:=by
 obtain ⟨A',c',h'⟩:=own_form h
 simp only [Value.slice.injEq] at h'
 exact h'.2.1
end Go.Proofs.YtbohmcfplgdlpaaDoor
