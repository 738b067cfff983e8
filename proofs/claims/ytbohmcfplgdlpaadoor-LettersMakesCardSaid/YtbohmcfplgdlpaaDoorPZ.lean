/- The statements' Auto: of a tree of a size that is looked at, and that has a map, the automaton; else none.
   Conditions: the tree lies in memory, and the library's table. -/
import Derived.Test.YtbohmcfplgdlpaaDoorPM
import Derived.Test.YtbohmcfplgdlpaaDoorPG
import Derived.Deep.DeepCutAuto

/- The statements' Auto: of a tree of a size that is looked at, and that has a map, the automaton; else none.
   Conditions: the tree lies in memory, and the library's table. -/
namespace Go.Proofs.YtbohmcfplgdlpaaDoor
open Go.RowKit Go.Shelf
attribute [local go_sem] nodeAgg
structure AuG (B:Nat) (w:World) (u:T) (a:Au) (m:PM) (L:Nat→List Mv):Prop where
 map:mapT (simT u)=some m
 ok:okT u=true
 au:AuL w B m a (bitsL (mvT (simT u) 0 0).1.fi) (mvT (simT u) 0 0).1.la
 rows:∃ vs,RowsM w B a.n (.slice (some ⟨a.mb,0,none⟩) a.n a.n) vs L
 moves:∀ i,i<a.n→(L i).Pairwise mvLt∧∀ x,x∈L i↔SJ (mvT (simT u) 0 0).2.2 (stOf i x)
 em:a.em=(mvT (simT u) 0 0).1.em
theorem AuL.chg {w w':World} {B:Nat} {m:PM} {a:Au} {fl:List Nat} {la:Nat} (h:AuL w B m a fl la) (hc:Chg (fun x=>x<B) w w'):AuL w' B m a fl la :=
 ⟨h.lists.keep hc fun _ _ q hb=>absurd q (Nat.not_lt.2 hb),h.wf,h.first.keep hc fun _ q hb=>absurd q (Nat.not_lt.2 hb),h.fin,own_chg h.last hc fun b hb q=>absurd q (Nat.not_lt.2 (h.last.lt b hb).1),h.sets,h.ars,h.one,h.most⟩
theorem AuG.chg {B:Nat} {w w':World} {u:T} {a:Au} {m:PM} {L:Nat→List Mv} (h:AuG B w u a m L) (hc:Chg (fun x=>x<B) w w'):AuG B w' u a m L :=
 ⟨h.map,h.ok,h.au.chg hc,by obtain ⟨vs,hv⟩:=h.rows;exact ⟨vs,hv.keep hc fun _ _ q hb=>absurd q (Nat.not_lt.2 hb)⟩,h.moves,h.em⟩
theorem AuG.step {B:Nat} {w w':World} {u:T} {a:Au} {m:PM} {L:Nat→List Mv} (h:AuG B w u a m L) (hb:Below w.heap.size w w'):AuG B w' u a m L :=
 h.chg ((Chg.of_below (R:=fun _=>False) hb).mono fun _ _ q=>q.elim)
theorem make_au (t:V) (w:World) (R:Nat→Prop) (ht:Laid w R t) (hz:szT (erase t)≤300000) (hok:okT (erase t)=true) (m:PM) (hm:mapT (simT (erase t))=some m) (hT:TabE w) (hTl:tabE<w.heap.size) :
  Calls Tryd.prog 14 #[nodeAgg t] w fun e w'=>(∃ (a:Au) (L:Nat→List Mv),AuG w.heap.size w' (erase t) a m L∧e=.returned (.tuple #[.agg #[.int .i64 a.k,.int .u64 (a.s0:Nat),.int .u64 (a.s1:Nat),.int .u64 (a.s2:Nat),.int .u64 (a.s3:Nat),.slice a.ta a.tn a.tc,.int .i64 a.lo,.int .i64 a.hi,.slice a.sA a.n a.sC,.slice a.cA a.cN a.cC,.slice (some ⟨a.ga,0,none⟩) a.n a.aC,.slice a.fA a.fN a.fC,.slice (some ⟨a.mb,0,none⟩) a.n a.n,.slice (some ⟨a.lb,0,none⟩) a.n a.n,.bool a.em],.int .i64 0]))∧Below w.heap.size w w':=by
 refine (make_good t w R ht hz hok m hm hT hTl).mono ?_
 rintro e w' ⟨⟨r,ta,tn,tc,sA,sN,sC,cA,cN,cC,aA,aN,aC,fA,fN,fC,lb,bb,em,vs,L,hR,hrv,rfl⟩,hb⟩
 have hs:sN=m.sets.length:=own_n hR.lists.sets
 have hsa:aN=sN:=by
  obtain ⟨vs2,hv2,_⟩:=hR.lists.ars
  have:=own_n hv2
  have:=hR.ars
  omega
 subst hsa
 obtain ⟨ga,rfl⟩ : ∃ ga,aA=some ⟨ga,0,none⟩:=by
  obtain ⟨vs2,hv2,_⟩:=hR.lists.ars
  obtain ⟨g,cap,hgv,_⟩:=hv2.form (by have:=hR.one;have:=hR.ars;omega)
  simp only [Value.slice.injEq] at hgv
  exact ⟨g,hgv.1⟩
 have hin:=(mv_in (simT (erase t)) 0 0).1.fi
 have hpos:=map_pos hR.map
 refine ⟨⟨⟨r.kind,r.set 0,r.set 1,r.set 2,r.set 3,ta,tn,tc,r.lo,r.hi,sA,aN,sC,cA,cN,cC,ga,aC,fA,fN,fC,lb,bb,em⟩,L,⟨hR.map,hok,⟨hR.lists,map_w (sim_ws _ hok).ok hR.map,hR.first,fun q hq=>?_,?_,hs.symm,by rw [hR.ars,hs],by show 1≤aN;have:=hR.one;omega,by show aN≤41;have:=hR.sets;omega⟩,⟨vs,?_⟩,fun i hi=>hR.moves i (by rw [← hs];exact hi),hR.emp⟩,rfl⟩,hb⟩
 ·have h1:=hin q (mem_bits.1 hq).2
  show 1≤q∧q<aN
  omega
 ·have:=hR.last
  rw [← hs] at this
  exact this
 ·have:=hR.rows
  rw [hR.mvv,← hs] at this
  exact this
set_option maxHeartbeats 8000000 in
set_option maxRecDepth 100000 in
theorem auto_big (t:V) (w:World) (R:Nat→Prop) (ht:Laid w R t) (hT:TabE w) (hTl:tabE<w.heap.size) (hA:¬ szT (erase t)≤80) :
  Calls Tryd.prog 5 #[nodeAgg t] w fun e w'=>((e=.returned (.tuple #[.agg #[.int .i64 0,.int .u64 0,.int .u64 0,.int .u64 0,.int .u64 0,.slice none 0 0,.int .i64 0,.int .i64 0,.slice none 0 0,.slice none 0 0,.slice none 0 0,.slice none 0 0,.slice none 0 0,.slice none 0 0,.bool false],.bool false])∧¬ (szT (erase t)≤80∧okT (erase t)=true∧∃ m,mapT (simT (erase t))=some m))∨∃ (B:Nat) (a:Au) (m:PM) (L:Nat→List Mv),AuG B w' (erase t) a m L∧e=.returned (.tuple #[.agg #[.int .i64 a.k,.int .u64 (a.s0:Nat),.int .u64 (a.s1:Nat),.int .u64 (a.s2:Nat),.int .u64 (a.s3:Nat),.slice a.ta a.tn a.tc,.int .i64 a.lo,.int .i64 a.hi,.slice a.sA a.n a.sC,.slice a.cA a.cN a.cC,.slice (some ⟨a.ga,0,none⟩) a.n a.aC,.slice a.fA a.fN a.fC,.slice (some ⟨a.mb,0,none⟩) a.n a.n,.slice (some ⟨a.lb,0,none⟩) a.n a.n,.bool a.em],.bool true]))∧Below w.heap.size w w':=by
 obtain ⟨sa,sc,hv0,_⟩:=laid_row' ht
 obtain ⟨sn,hsn⟩ : ∃ sn,sn=t.ps.length:=⟨_,rfl⟩
 rw [← hsn] at hv0
 obtain ⟨w0,hw0,hb0,hlt0,hbx⟩:=box_new w t (.slice sa sn sc)
 obtain ⟨w1,hw1⟩ : ∃ w1,w0.alloc (.cells #[.int .i64 0,.int .u64 0,.int .u64 0,.int .u64 0,.int .u64 0,.slice none 0 0,.int .i64 0,.int .i64 0,.slice none 0 0,.slice none 0 0,.slice none 0 0,.slice none 0 0,.slice none 0 0,.slice none 0 0,.bool false] 38)=w1:=⟨_,rfl⟩
 have hb1:Below w0.heap.size w0 w1:=hw1▸(Below.refl _ w0).alloc (Nat.le_refl _) _
 have hz1:ZAB w0.heap.size w1:=by rw [← hw1];exact heap_alloc_new w0 _
 have hs0:w0.heap.size=w.heap.size+1:=by rw [← hw0];simp
 rw [hs0] at hz1
 have hw01:(w.alloc (.cells #[.int .i64 t.kind,.int .u64 (t.set 0:Nat),.int .u64 (t.set 1:Nat),.int .u64 (t.set 2:Nat),.int .u64 (t.set 3:Nat),.slice sa sn sc,.int .i64 t.lo,.int .i64 t.hi] 27)).alloc (.cells #[.int .i64 0,.int .u64 0,.int .u64 0,.int .u64 0,.int .u64 0,.slice none 0 0,.int .i64 0,.int .i64 0,.slice none 0 0,.slice none 0 0,.slice none 0 0,.slice none 0 0,.slice none 0 0,.slice none 0 0,.bool false] 38)=w1:=by rw [hw0];exact hw1
 have HB:=Lib.hid (bhop hb0 hb1)
 have HTT:=Lib.hid (fun (W:World) (h:Below w1.heap.size w1 W)=>show TabE W∧tabE<W.heap.size from ⟨tab_below hT hTl (bhop HB.out h),Nat.lt_of_lt_of_le hTl (bhop HB.out h).size⟩)
 have HBX:=Lib.hid (fun (W:World) (h:Below w1.heap.size w1 W)=>hbx W (bhop hb1 h))
 have HZ:=Lib.hid (fun (W:World) (h:Below w1.heap.size w1 W)=>hz1.below h)
 have HSa:=Lib.hid (fun (W:World) (h:Below w1.heap.size w1 W)=>by
  have:=size_any 80 (by omega) t W R (laid_low ht (bhop HB.out h))
  rw [nodeAgg_v hv0] at this
  exact this)
 have HMn:=Lib.hid (fun (W:World) (h:Below w1.heap.size w1 W) (hz:szT (erase t)≤80) (code:Int) (hc:NoMap (erase t) code)=>by
  have:=make_none t W R (laid_low ht (bhop HB.out h)) (by omega) code hc
  rw [nodeAgg_v hv0] at this
  exact this)
 have HMg:=Lib.hid (fun (W:World) (h:Below w1.heap.size w1 W) (hz:szT (erase t)≤80) (hok:okT (erase t)=true) (m:PM) (hm:mapT (simT (erase t))=some m)=>by
  have:=make_au t W R (laid_low ht (bhop HB.out h)) (by omega) hok m hm (HTT.out W h).1 (HTT.out W h).2
  rw [nodeAgg_v hv0] at this
  exact this)
 rw [nodeAgg_v hv0]
 clear hbx ht hv0 hsn hlt0 hb0 hb1 hz1 hs0 hw0 hw1 hT hTl
 obtain ⟨q0,q1,q2,q3,q4,q5,q6,q7⟩:=HBX.out w1 (Below.refl _ _)
 go_enter Tryd.func5,Tryd.ntmps5
 go_upto_region 1 with fail
 clear hw01
 go_wp2_with fail
 go_at_call 13
 refine (HSa.out _ (Below.refl _ _)).mono ?_
 rintro e w2 ⟨rfl,hb2⟩
 have HB2:=Lib.hid hb2
 clear hb2 q0 q1 q2 q3 q4 q5 q6 q7
 have hA2:min (szT (erase t)) (80+1)=81:=by omega
 rw [hA2]
 have hz4:=HZ.out w2 HB2.out
 have HZ4:=Lib.hid hz4
 obtain ⟨y0,y1,y2,y3,y4,y5,y6,y7,y8,y9,y10,y11,y12,y13,y14⟩:=hz4.all
 have yf:=(row_cells hz4).2
 have yl:w.heap.size+1<w2.heap.size:=(Array.getElem?_eq_some_iff.1 hz4).1
 have f0:=yf 0;have f1:=yf 1;have f2:=yf 2;have f3:=yf 3;have f4:=yf 4;have f5:=yf 5;have f6:=yf 6;have f7:=yf 7;have f8:=yf 8;have f9:=yf 9;have f10:=yf 10;have f11:=yf 11;have f12:=yf 12;have f13:=yf 13;have f14:=yf 14
 have HNA:=Lib.hid hA
 clear hA hA2 hz4 yf
 go_wp2_with fail
 have hf:=sta15_zero HZ4.out
 have hch:=sta15_chg w2 (w.heap.size+1) (.int .i64 0) (.int .u64 0) (.int .u64 0) (.int .u64 0) (.int .u64 0) (.slice none 0 0) (.int .i64 0) (.int .i64 0) (.slice none 0 0) (.slice none 0 0) (.slice none 0 0) (.slice none 0 0) (.slice none 0 0) (.slice none 0 0) (.bool false)
 generalize (((((((((((((((w2.setCell ⟨w.heap.size+1,0,none⟩ (.int .i64 0)).setCell ⟨w.heap.size+1,1,none⟩ (.int .u64 0)).setCell ⟨w.heap.size+1,2,none⟩ (.int .u64 0)).setCell ⟨w.heap.size+1,3,none⟩ (.int .u64 0)).setCell ⟨w.heap.size+1,4,none⟩ (.int .u64 0)).setCell ⟨w.heap.size+1,5,none⟩ (.slice none 0 0)).setCell ⟨w.heap.size+1,6,none⟩ (.int .i64 0)).setCell ⟨w.heap.size+1,7,none⟩ (.int .i64 0)).setCell ⟨w.heap.size+1,8,none⟩ (.slice none 0 0)).setCell ⟨w.heap.size+1,9,none⟩ (.slice none 0 0)).setCell ⟨w.heap.size+1,10,none⟩ (.slice none 0 0)).setCell ⟨w.heap.size+1,11,none⟩ (.slice none 0 0)).setCell ⟨w.heap.size+1,12,none⟩ (.slice none 0 0)).setCell ⟨w.heap.size+1,13,none⟩ (.slice none 0 0)).setCell ⟨w.heap.size+1,14,none⟩ (.bool false))=w5 at *
 obtain ⟨r0,r1,r2,r3,r4,r5,r6,r7,r8,r9,r10,r11,r12,r13,r14⟩:=hf.all
 refine bodyPost_ret (v:=.tuple #[.agg #[.int .i64 0,.int .u64 0,.int .u64 0,.int .u64 0,.int .u64 0,.slice none 0 0,.int .i64 0,.int .i64 0,.slice none 0 0,.slice none 0 0,.slice none 0 0,.slice none 0 0,.slice none 0 0,.slice none 0 0,.bool false],.bool false]) (by simp [results,Tryd.results5,go_sem,r0,r1,r2,r3,r4,r5,r6,r7,r8,r9,r10,r11,r12,r13,r14]) rfl ⟨?_,?_⟩
 ·exact .inl ⟨rfl,fun h=>HNA.out h.1⟩
 ·exact (bhop HB.out HB2.out).trans (hch.below (by have:=(bhop HB.out HB2.out).size;omega) fun k hk e=>by omega)
set_option maxHeartbeats 8000000 in
set_option maxRecDepth 100000 in
theorem auto_no (t:V) (w:World) (R:Nat→Prop) (ht:Laid w R t) (hT:TabE w) (hTl:tabE<w.heap.size) (hA:szT (erase t)≤80) (hmp:¬ (okT (erase t)=true∧∃ m,mapT (simT (erase t))=some m)) :
  Calls Tryd.prog 5 #[nodeAgg t] w fun e w'=>((e=.returned (.tuple #[.agg #[.int .i64 0,.int .u64 0,.int .u64 0,.int .u64 0,.int .u64 0,.slice none 0 0,.int .i64 0,.int .i64 0,.slice none 0 0,.slice none 0 0,.slice none 0 0,.slice none 0 0,.slice none 0 0,.slice none 0 0,.bool false],.bool false])∧¬ (szT (erase t)≤80∧okT (erase t)=true∧∃ m,mapT (simT (erase t))=some m))∨∃ (B:Nat) (a:Au) (m:PM) (L:Nat→List Mv),AuG B w' (erase t) a m L∧e=.returned (.tuple #[.agg #[.int .i64 a.k,.int .u64 (a.s0:Nat),.int .u64 (a.s1:Nat),.int .u64 (a.s2:Nat),.int .u64 (a.s3:Nat),.slice a.ta a.tn a.tc,.int .i64 a.lo,.int .i64 a.hi,.slice a.sA a.n a.sC,.slice a.cA a.cN a.cC,.slice (some ⟨a.ga,0,none⟩) a.n a.aC,.slice a.fA a.fN a.fC,.slice (some ⟨a.mb,0,none⟩) a.n a.n,.slice (some ⟨a.lb,0,none⟩) a.n a.n,.bool a.em],.bool true]))∧Below w.heap.size w w':=by
 obtain ⟨sa,sc,hv0,_⟩:=laid_row' ht
 obtain ⟨sn,hsn⟩ : ∃ sn,sn=t.ps.length:=⟨_,rfl⟩
 rw [← hsn] at hv0
 obtain ⟨w0,hw0,hb0,hlt0,hbx⟩:=box_new w t (.slice sa sn sc)
 obtain ⟨w1,hw1⟩ : ∃ w1,w0.alloc (.cells #[.int .i64 0,.int .u64 0,.int .u64 0,.int .u64 0,.int .u64 0,.slice none 0 0,.int .i64 0,.int .i64 0,.slice none 0 0,.slice none 0 0,.slice none 0 0,.slice none 0 0,.slice none 0 0,.slice none 0 0,.bool false] 38)=w1:=⟨_,rfl⟩
 have hb1:Below w0.heap.size w0 w1:=hw1▸(Below.refl _ w0).alloc (Nat.le_refl _) _
 have hz1:ZAB w0.heap.size w1:=by rw [← hw1];exact heap_alloc_new w0 _
 have hs0:w0.heap.size=w.heap.size+1:=by rw [← hw0];simp
 rw [hs0] at hz1
 have hw01:(w.alloc (.cells #[.int .i64 t.kind,.int .u64 (t.set 0:Nat),.int .u64 (t.set 1:Nat),.int .u64 (t.set 2:Nat),.int .u64 (t.set 3:Nat),.slice sa sn sc,.int .i64 t.lo,.int .i64 t.hi] 27)).alloc (.cells #[.int .i64 0,.int .u64 0,.int .u64 0,.int .u64 0,.int .u64 0,.slice none 0 0,.int .i64 0,.int .i64 0,.slice none 0 0,.slice none 0 0,.slice none 0 0,.slice none 0 0,.slice none 0 0,.slice none 0 0,.bool false] 38)=w1:=by rw [hw0];exact hw1
 have HB:=Lib.hid (bhop hb0 hb1)
 have HTT:=Lib.hid (fun (W:World) (h:Below w1.heap.size w1 W)=>show TabE W∧tabE<W.heap.size from ⟨tab_below hT hTl (bhop HB.out h),Nat.lt_of_lt_of_le hTl (bhop HB.out h).size⟩)
 have HBX:=Lib.hid (fun (W:World) (h:Below w1.heap.size w1 W)=>hbx W (bhop hb1 h))
 have HZ:=Lib.hid (fun (W:World) (h:Below w1.heap.size w1 W)=>hz1.below h)
 have HSa:=Lib.hid (fun (W:World) (h:Below w1.heap.size w1 W)=>by
  have:=size_any 80 (by omega) t W R (laid_low ht (bhop HB.out h))
  rw [nodeAgg_v hv0] at this
  exact this)
 have HMn:=Lib.hid (fun (W:World) (h:Below w1.heap.size w1 W) (hz:szT (erase t)≤80) (code:Int) (hc:NoMap (erase t) code)=>by
  have:=make_none t W R (laid_low ht (bhop HB.out h)) (by omega) code hc
  rw [nodeAgg_v hv0] at this
  exact this)
 have HMg:=Lib.hid (fun (W:World) (h:Below w1.heap.size w1 W) (hz:szT (erase t)≤80) (hok:okT (erase t)=true) (m:PM) (hm:mapT (simT (erase t))=some m)=>by
  have:=make_au t W R (laid_low ht (bhop HB.out h)) (by omega) hok m hm (HTT.out W h).1 (HTT.out W h).2
  rw [nodeAgg_v hv0] at this
  exact this)
 rw [nodeAgg_v hv0]
 clear hbx ht hv0 hsn hlt0 hb0 hb1 hz1 hs0 hw0 hw1 hT hTl
 obtain ⟨q0,q1,q2,q3,q4,q5,q6,q7⟩:=HBX.out w1 (Below.refl _ _)
 go_enter Tryd.func5,Tryd.ntmps5
 go_upto_region 1 with fail
 clear hw01
 go_wp2_with fail
 go_at_call 13
 refine (HSa.out _ (Below.refl _ _)).mono ?_
 rintro e w2 ⟨rfl,hb2⟩
 have HB2:=Lib.hid hb2
 clear hb2 q0 q1 q2 q3 q4 q5 q6 q7
 have hA2:min (szT (erase t)) (80+1)=szT (erase t):=by omega
 rw [hA2]
 have g1:¬ (80:Int)<((szT (erase t):Nat):Int):=by omega
 have HA:=Lib.hid hA
 clear hA hA2
 obtain ⟨q0,q1,q2,q3,q4,q5,q6,q7⟩:=HBX.out w2 HB2.out
 have hno:∃ code:Int,code≠0∧NoMap (erase t) code:=by
  cases hok:okT (erase t) with
  | false=>exact ⟨1,by omega,.inl ⟨hok,rfl⟩⟩
  | true =>
   cases hm:mapT (simT (erase t)) with
   | none=>exact ⟨3,by omega,.inr ⟨hok,hm,rfl⟩⟩
   | some m=>exact absurd ⟨hok,m,hm⟩ hmp
 obtain ⟨code,hc0,hno⟩:=hno
 have HF:=Lib.hid (HMn.out w2 HB2.out HA.out code hno)
 have hc1:(code == 0)=false:=by simp [hc0]
 have HNM:=Lib.hid hmp
 clear hno hmp
 go_wp2_with fail
 go_at_call 14
 refine HF.out.mono ?_
 rintro e w3 ⟨rfl,hb3⟩
 have HB3:=Lib.hid (bhop HB2.out hb3)
 clear hb3 q0 q1 q2 q3 q4 q5 q6 q7 hc0
 go_upto_region 4 with fail
 generalize hw4:w3.alloc _=w4
 have hb4:Below w3.heap.size w3 w4:=hw4▸(Below.refl _ w3).alloc (Nat.le_refl _) _
 have hz3:ZAB w3.heap.size w4:=by rw [← hw4];exact heap_alloc_new w3 _
 have HB4:=Lib.hid (bhop HB3.out hb4)
 have hz4:=HZ.out w4 HB4.out
 have HZ4:=Lib.hid hz4
 obtain ⟨z0,z1,z2,z3,z4,z5,z6,z7,z8,z9,z10,z11,z12,z13,z14⟩:=hz3.all
 obtain ⟨y0,y1,y2,y3,y4,y5,y6,y7,y8,y9,y10,y11,y12,y13,y14⟩:=hz4.all
 have yf:=(row_cells hz4).2
 have yl:w.heap.size+1<w4.heap.size:=(Array.getElem?_eq_some_iff.1 hz4).1
 have f0:=yf 0;have f1:=yf 1;have f2:=yf 2;have f3:=yf 3;have f4:=yf 4;have f5:=yf 5;have f6:=yf 6;have f7:=yf 7;have f8:=yf 8;have f9:=yf 9;have f10:=yf 10;have f11:=yf 11;have f12:=yf 12;have f13:=yf 13;have f14:=yf 14
 clear hb4 hz3 hz4 yf hw4
 go_wp2_with fail
 have hf:=sta15_zero HZ4.out
 have hch:=sta15_chg w4 (w.heap.size+1) (.int .i64 0) (.int .u64 0) (.int .u64 0) (.int .u64 0) (.int .u64 0) (.slice none 0 0) (.int .i64 0) (.int .i64 0) (.slice none 0 0) (.slice none 0 0) (.slice none 0 0) (.slice none 0 0) (.slice none 0 0) (.slice none 0 0) (.bool false)
 generalize (((((((((((((((w4.setCell ⟨w.heap.size+1,0,none⟩ (.int .i64 0)).setCell ⟨w.heap.size+1,1,none⟩ (.int .u64 0)).setCell ⟨w.heap.size+1,2,none⟩ (.int .u64 0)).setCell ⟨w.heap.size+1,3,none⟩ (.int .u64 0)).setCell ⟨w.heap.size+1,4,none⟩ (.int .u64 0)).setCell ⟨w.heap.size+1,5,none⟩ (.slice none 0 0)).setCell ⟨w.heap.size+1,6,none⟩ (.int .i64 0)).setCell ⟨w.heap.size+1,7,none⟩ (.int .i64 0)).setCell ⟨w.heap.size+1,8,none⟩ (.slice none 0 0)).setCell ⟨w.heap.size+1,9,none⟩ (.slice none 0 0)).setCell ⟨w.heap.size+1,10,none⟩ (.slice none 0 0)).setCell ⟨w.heap.size+1,11,none⟩ (.slice none 0 0)).setCell ⟨w.heap.size+1,12,none⟩ (.slice none 0 0)).setCell ⟨w.heap.size+1,13,none⟩ (.slice none 0 0)).setCell ⟨w.heap.size+1,14,none⟩ (.bool false))=w5 at *
 obtain ⟨r0,r1,r2,r3,r4,r5,r6,r7,r8,r9,r10,r11,r12,r13,r14⟩:=hf.all
 refine bodyPost_ret (v:=.tuple #[.agg #[.int .i64 0,.int .u64 0,.int .u64 0,.int .u64 0,.int .u64 0,.slice none 0 0,.int .i64 0,.int .i64 0,.slice none 0 0,.slice none 0 0,.slice none 0 0,.slice none 0 0,.slice none 0 0,.slice none 0 0,.bool false],.bool false]) (by simp [results,Tryd.results5,go_sem,r0,r1,r2,r3,r4,r5,r6,r7,r8,r9,r10,r11,r12,r13,r14]) rfl ⟨?_,?_⟩
 ·exact .inl ⟨rfl,fun h=>HNM.out h.2⟩
 ·exact (bhop HB.out HB4.out).trans (hch.below (by have:=(bhop HB.out HB4.out).size;omega) fun k hk e=>by omega)
set_option maxHeartbeats 8000000 in
set_option maxRecDepth 100000 in
theorem auto_yes (t:V) (w:World) (R:Nat→Prop) (ht:Laid w R t) (hT:TabE w) (hTl:tabE<w.heap.size) (hA:szT (erase t)≤80) (hmp:okT (erase t)=true∧∃ m,mapT (simT (erase t))=some m) :
  Calls Tryd.prog 5 #[nodeAgg t] w fun e w'=>((e=.returned (.tuple #[.agg #[.int .i64 0,.int .u64 0,.int .u64 0,.int .u64 0,.int .u64 0,.slice none 0 0,.int .i64 0,.int .i64 0,.slice none 0 0,.slice none 0 0,.slice none 0 0,.slice none 0 0,.slice none 0 0,.slice none 0 0,.bool false],.bool false])∧¬ (szT (erase t)≤80∧okT (erase t)=true∧∃ m,mapT (simT (erase t))=some m))∨∃ (B:Nat) (a:Au) (m:PM) (L:Nat→List Mv),AuG B w' (erase t) a m L∧e=.returned (.tuple #[.agg #[.int .i64 a.k,.int .u64 (a.s0:Nat),.int .u64 (a.s1:Nat),.int .u64 (a.s2:Nat),.int .u64 (a.s3:Nat),.slice a.ta a.tn a.tc,.int .i64 a.lo,.int .i64 a.hi,.slice a.sA a.n a.sC,.slice a.cA a.cN a.cC,.slice (some ⟨a.ga,0,none⟩) a.n a.aC,.slice a.fA a.fN a.fC,.slice (some ⟨a.mb,0,none⟩) a.n a.n,.slice (some ⟨a.lb,0,none⟩) a.n a.n,.bool a.em],.bool true]))∧Below w.heap.size w w':=by
 obtain ⟨sa,sc,hv0,_⟩:=laid_row' ht
 obtain ⟨sn,hsn⟩ : ∃ sn,sn=t.ps.length:=⟨_,rfl⟩
 rw [← hsn] at hv0
 obtain ⟨w0,hw0,hb0,hlt0,hbx⟩:=box_new w t (.slice sa sn sc)
 obtain ⟨w1,hw1⟩ : ∃ w1,w0.alloc (.cells #[.int .i64 0,.int .u64 0,.int .u64 0,.int .u64 0,.int .u64 0,.slice none 0 0,.int .i64 0,.int .i64 0,.slice none 0 0,.slice none 0 0,.slice none 0 0,.slice none 0 0,.slice none 0 0,.slice none 0 0,.bool false] 38)=w1:=⟨_,rfl⟩
 have hb1:Below w0.heap.size w0 w1:=hw1▸(Below.refl _ w0).alloc (Nat.le_refl _) _
 have hz1:ZAB w0.heap.size w1:=by rw [← hw1];exact heap_alloc_new w0 _
 have hs0:w0.heap.size=w.heap.size+1:=by rw [← hw0];simp
 rw [hs0] at hz1
 have hw01:(w.alloc (.cells #[.int .i64 t.kind,.int .u64 (t.set 0:Nat),.int .u64 (t.set 1:Nat),.int .u64 (t.set 2:Nat),.int .u64 (t.set 3:Nat),.slice sa sn sc,.int .i64 t.lo,.int .i64 t.hi] 27)).alloc (.cells #[.int .i64 0,.int .u64 0,.int .u64 0,.int .u64 0,.int .u64 0,.slice none 0 0,.int .i64 0,.int .i64 0,.slice none 0 0,.slice none 0 0,.slice none 0 0,.slice none 0 0,.slice none 0 0,.slice none 0 0,.bool false] 38)=w1:=by rw [hw0];exact hw1
 have HB:=Lib.hid (bhop hb0 hb1)
 have HTT:=Lib.hid (fun (W:World) (h:Below w1.heap.size w1 W)=>show TabE W∧tabE<W.heap.size from ⟨tab_below hT hTl (bhop HB.out h),Nat.lt_of_lt_of_le hTl (bhop HB.out h).size⟩)
 have HBX:=Lib.hid (fun (W:World) (h:Below w1.heap.size w1 W)=>hbx W (bhop hb1 h))
 have HZ:=Lib.hid (fun (W:World) (h:Below w1.heap.size w1 W)=>hz1.below h)
 have HSa:=Lib.hid (fun (W:World) (h:Below w1.heap.size w1 W)=>by
  have:=size_any 80 (by omega) t W R (laid_low ht (bhop HB.out h))
  rw [nodeAgg_v hv0] at this
  exact this)
 have HMn:=Lib.hid (fun (W:World) (h:Below w1.heap.size w1 W) (hz:szT (erase t)≤80) (code:Int) (hc:NoMap (erase t) code)=>by
  have:=make_none t W R (laid_low ht (bhop HB.out h)) (by omega) code hc
  rw [nodeAgg_v hv0] at this
  exact this)
 have HMg:=Lib.hid (fun (W:World) (h:Below w1.heap.size w1 W) (hz:szT (erase t)≤80) (hok:okT (erase t)=true) (m:PM) (hm:mapT (simT (erase t))=some m)=>by
  have:=make_au t W R (laid_low ht (bhop HB.out h)) (by omega) hok m hm (HTT.out W h).1 (HTT.out W h).2
  rw [nodeAgg_v hv0] at this
  exact this)
 rw [nodeAgg_v hv0]
 clear hbx ht hv0 hsn hlt0 hb0 hb1 hz1 hs0 hw0 hw1 hT hTl
 obtain ⟨q0,q1,q2,q3,q4,q5,q6,q7⟩:=HBX.out w1 (Below.refl _ _)
 go_enter Tryd.func5,Tryd.ntmps5
 go_upto_region 1 with fail
 clear hw01
 go_wp2_with fail
 go_at_call 13
 refine (HSa.out _ (Below.refl _ _)).mono ?_
 rintro e w2 ⟨rfl,hb2⟩
 have HB2:=Lib.hid hb2
 clear hb2 q0 q1 q2 q3 q4 q5 q6 q7
 have hA2:min (szT (erase t)) (80+1)=szT (erase t):=by omega
 rw [hA2]
 have g1:¬ (80:Int)<((szT (erase t):Nat):Int):=by omega
 have HA:=Lib.hid hA
 clear hA hA2
 obtain ⟨q0,q1,q2,q3,q4,q5,q6,q7⟩:=HBX.out w2 HB2.out
 obtain ⟨hok,m,hm⟩:=hmp
 have HF:=Lib.hid (HMg.out w2 HB2.out HA.out hok m hm)
 clear hok hm
 go_wp2_with fail
 go_at_call 14
 refine HF.out.mono ?_
 rintro e w3 ⟨⟨a,L,hG,rfl⟩,hb3⟩
 obtain ⟨w4,hw4,hb4,ha4⟩:=au_box w3 a
 have HB4:=Lib.hid (bhop HB2.out (bhop hb3 hb4))
 have HG:=Lib.hid (hG.step hb4)
 have HSZ:=Lib.hid (show w.heap.size+1<w2.heap.size from Nat.lt_of_lt_of_le (Array.getElem?_eq_some_iff.1 (HZ.out w2 HB2.out)).1 (Nat.le_refl _))
 obtain ⟨z0,z1,z2,z3,z4,z5,z6,z7,z8,z9,z10,z11,z12,z13,z14⟩:=ha4.all
 have hz4:=HZ.out w4 HB4.out
 have HZ4:=Lib.hid hz4
 obtain ⟨y0,y1,y2,y3,y4,y5,y6,y7,y8,y9,y10,y11,y12,y13,y14⟩:=hz4.all
 have yf:=(row_cells hz4).2
 have yl:w.heap.size+1<w4.heap.size:=(Array.getElem?_eq_some_iff.1 hz4).1
 have f0:=yf 0;have f1:=yf 1;have f2:=yf 2;have f3:=yf 3;have f4:=yf 4;have f5:=yf 5;have f6:=yf 6;have f7:=yf 7;have f8:=yf 8;have f9:=yf 9;have f10:=yf 10;have f11:=yf 11;have f12:=yf 12;have f13:=yf 13;have f14:=yf 14
 clear hG hb3 hb4 ha4 hz4 yf q0 q1 q2 q3 q4 q5 q6 q7
 go_upto_region 4 with fail
 clear hw4
 go_wp2_with fail
 have hf:=sta15_heap HZ4.out a
 have hch:=sta15_chg w4 (w.heap.size+1) (.int .i64 a.k) (.int .u64 (a.s0:Nat)) (.int .u64 (a.s1:Nat)) (.int .u64 (a.s2:Nat)) (.int .u64 (a.s3:Nat)) (.slice a.ta a.tn a.tc) (.int .i64 a.lo) (.int .i64 a.hi) (.slice a.sA a.n a.sC) (.slice a.cA a.cN a.cC) (.slice (some ⟨a.ga,0,none⟩) a.n a.aC) (.slice a.fA a.fN a.fC) (.slice (some ⟨a.mb,0,none⟩) a.n a.n) (.slice (some ⟨a.lb,0,none⟩) a.n a.n) (.bool a.em)
 generalize (((((((((((((((w4.setCell ⟨w.heap.size+1,0,none⟩ (.int .i64 a.k)).setCell ⟨w.heap.size+1,1,none⟩ (.int .u64 (a.s0:Nat))).setCell ⟨w.heap.size+1,2,none⟩ (.int .u64 (a.s1:Nat))).setCell ⟨w.heap.size+1,3,none⟩ (.int .u64 (a.s2:Nat))).setCell ⟨w.heap.size+1,4,none⟩ (.int .u64 (a.s3:Nat))).setCell ⟨w.heap.size+1,5,none⟩ (.slice a.ta a.tn a.tc)).setCell ⟨w.heap.size+1,6,none⟩ (.int .i64 a.lo)).setCell ⟨w.heap.size+1,7,none⟩ (.int .i64 a.hi)).setCell ⟨w.heap.size+1,8,none⟩ (.slice a.sA a.n a.sC)).setCell ⟨w.heap.size+1,9,none⟩ (.slice a.cA a.cN a.cC)).setCell ⟨w.heap.size+1,10,none⟩ (.slice (some ⟨a.ga,0,none⟩) a.n a.aC)).setCell ⟨w.heap.size+1,11,none⟩ (.slice a.fA a.fN a.fC)).setCell ⟨w.heap.size+1,12,none⟩ (.slice (some ⟨a.mb,0,none⟩) a.n a.n)).setCell ⟨w.heap.size+1,13,none⟩ (.slice (some ⟨a.lb,0,none⟩) a.n a.n)).setCell ⟨w.heap.size+1,14,none⟩ (.bool a.em))=w5 at *
 obtain ⟨r0,r1,r2,r3,r4,r5,r6,r7,r8,r9,r10,r11,r12,r13,r14⟩:=hf.all
 refine bodyPost_ret (v:=.tuple #[.agg #[.int .i64 a.k,.int .u64 (a.s0:Nat),.int .u64 (a.s1:Nat),.int .u64 (a.s2:Nat),.int .u64 (a.s3:Nat),.slice a.ta a.tn a.tc,.int .i64 a.lo,.int .i64 a.hi,.slice a.sA a.n a.sC,.slice a.cA a.cN a.cC,.slice (some ⟨a.ga,0,none⟩) a.n a.aC,.slice a.fA a.fN a.fC,.slice (some ⟨a.mb,0,none⟩) a.n a.n,.slice (some ⟨a.lb,0,none⟩) a.n a.n,.bool a.em],.bool true]) (by simp [results,Tryd.results5,go_sem,r0,r1,r2,r3,r4,r5,r6,r7,r8,r9,r10,r11,r12,r13,r14]) rfl ⟨?_,?_⟩
 ·exact .inr ⟨_,a,m,L,HG.out.chg (hch.mono fun x _ e=>by have:=HSZ.out;omega),rfl⟩
 ·exact (bhop HB.out HB4.out).trans (hch.below (by have:=(bhop HB.out HB4.out).size;omega) fun k hk e=>by omega)
theorem auto_any (t:V) (w:World) (R:Nat→Prop) (ht:Laid w R t) (hT:TabE w) (hTl:tabE<w.heap.size) :
  Calls Tryd.prog 5 #[nodeAgg t] w fun e w'=>((e=.returned (.tuple #[.agg #[.int .i64 0,.int .u64 0,.int .u64 0,.int .u64 0,.int .u64 0,.slice none 0 0,.int .i64 0,.int .i64 0,.slice none 0 0,.slice none 0 0,.slice none 0 0,.slice none 0 0,.slice none 0 0,.slice none 0 0,.bool false],.bool false])∧¬ (szT (erase t)≤80∧okT (erase t)=true∧∃ m,mapT (simT (erase t))=some m))∨∃ (B:Nat) (a:Au) (m:PM) (L:Nat→List Mv),AuG B w' (erase t) a m L∧e=.returned (.tuple #[.agg #[.int .i64 a.k,.int .u64 (a.s0:Nat),.int .u64 (a.s1:Nat),.int .u64 (a.s2:Nat),.int .u64 (a.s3:Nat),.slice a.ta a.tn a.tc,.int .i64 a.lo,.int .i64 a.hi,.slice a.sA a.n a.sC,.slice a.cA a.cN a.cC,.slice (some ⟨a.ga,0,none⟩) a.n a.aC,.slice a.fA a.fN a.fC,.slice (some ⟨a.mb,0,none⟩) a.n a.n,.slice (some ⟨a.lb,0,none⟩) a.n a.n,.bool a.em],.bool true]))∧Below w.heap.size w w':=by
 by_cases hA:szT (erase t)≤80
 ·by_cases hmp:okT (erase t)=true∧∃ m,mapT (simT (erase t))=some m
  ·exact auto_yes t w R ht hT hTl hA hmp
  ·exact auto_no t w R ht hT hTl hA hmp
 ·exact auto_big t w R ht hT hTl hA
end Go.Proofs.YtbohmcfplgdlpaaDoor
