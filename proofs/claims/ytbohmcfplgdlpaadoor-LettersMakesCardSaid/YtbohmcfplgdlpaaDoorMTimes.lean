/- The simple tree of one that is repeated, of its part's: a contract.
   Conditions: the part's result is its own, in memory. -/
import Derived.Test.YtbohmcfplgdlpaaDoorMSn
import Derived.Deep.DeepCutAuto

/- The simple tree of one that is repeated, of its part's: a contract.
   Conditions: the part's result is its own, in memory. -/
namespace Go.Proofs.YtbohmcfplgdlpaaDoor
open Go.RowKit Go.Shelf
attribute [local go_sem] nodeAgg
def TM (w w2:World) (t:V) (n:Bool) (v:Value):Prop:=Below w.heap.size w w2∧w2.heap.size=w.heap.size+2∧ZB9 (w.heap.size+1) w2∧t.v=v∧∀ W,Below w2.heap.size w2 W→BoxC9 w.heap.size t v n W
theorem times_same {a m:Nat} {w w2 w3 w4:World} {t:V} {n:Bool} {v:Value} (hr:Res w a m t) (hm:m≤w.heap.size) (h:TM w w2 t n v) (h3:Below w2.heap.size w2 w3) (h4:Chg (fun x=>x=w.heap.size+1) w3 w4) :
  GivesS a (er (t,n)) (.returned (.agg #[.int .i64 t.kind,.int .u64 (t.set 0:Nat),.int .u64 (t.set 1:Nat),.int .u64 (t.set 2:Nat),.int .u64 (t.set 3:Nat),v,.int .i64 t.lo,.int .i64 t.hi,.bool n])) w4∧Below w.heap.size w w4:=by
 have hb:Below w.heap.size w w3:=bhop h.1 h3
 have hb4:Below w.heap.size w w4:=hb.trans (h4.below hb.size fun k hk e=>by omega)
 exact ⟨⟨(t,n),by rw [rcells_v h.2.2.2.1],rfl,(hr.chg (Chg.of_below (R:=fun _=>False) hb4) fun _ _ _ _=>id).wid (Nat.le_refl _) (Nat.le_trans hm hb4.size)⟩,hb4⟩
theorem times_zero {a:Nat} {w w2 w3 w4:World} {t:V} {n:Bool} {v:Value} (h:TM w w2 t n v) (h3:Below w2.heap.size w2 w3) (h4:Chg (fun x=>x=w.heap.size+1) w3 w4) :
  GivesS a (noT,true) (.returned (.agg #[.int .i64 0,.int .u64 0,.int .u64 0,.int .u64 0,.int .u64 0,.slice none 0 0,.int .i64 0,.int .i64 0,.bool true])) w4∧Below w.heap.size w w4:=by
 have hb:Below w.heap.size w w3:=bhop h.1 h3
 have hb4:Below w.heap.size w w4:=hb.trans (h4.below hb.size fun k hk e=>by omega)
 exact ⟨⟨(zeroV,true),rfl,rfl,Res.leaf _ _ _ _ _ _ _⟩,hb4⟩
theorem times_new {a m:Nat} {w w2 w3 w5:World} {t:V} {n:Bool} {v:Value} {lo hi:Int} {nb:Bool} (hr:Res w a m t) (ha:a≤w.heap.size) (hm:m≤w.heap.size) (h:TM w w2 t n v) (h3:Below w2.heap.size w2 w3)
  (h5:(((((((((w3.setCell ⟨w.heap.size+1,0,none⟩ (.int .i64 4)).setCell ⟨w.heap.size+1,1,none⟩ (.int .u64 0)).setCell ⟨w.heap.size+1,2,none⟩ (.int .u64 0)).setCell ⟨w.heap.size+1,3,none⟩ (.int .u64 0)).setCell ⟨w.heap.size+1,4,none⟩ (.int .u64 0)).setCell ⟨w.heap.size+1,5,none⟩ (.slice (some ⟨w3.heap.size,0,none⟩) 1 1)).setCell ⟨w.heap.size+1,6,none⟩ (.int .i64 lo)).setCell ⟨w.heap.size+1,7,none⟩ (.int .i64 hi)).setCell ⟨w.heap.size+1,8,none⟩ (.bool nb))=w5) :
  BoxC9 (w.heap.size+1) (.node 4 zeros lo hi (.slice (some ⟨w3.heap.size,0,none⟩) 1 1) [t]) (.slice (some ⟨w3.heap.size,0,none⟩) 1 1) nb (w5.alloc (.cells #[.int .i64 t.kind,.int .u64 (t.set 0:Nat),.int .u64 (t.set 1:Nat),.int .u64 (t.set 2:Nat),.int .u64 (t.set 3:Nat),v,.int .i64 t.lo,.int .i64 t.hi] 27)) ∧
  GivesS a (.node 4 zeros lo hi [erase t],nb) (.returned (.agg #[.int .i64 4,.int .u64 0,.int .u64 0,.int .u64 0,.int .u64 0,.slice (some ⟨w3.heap.size,0,none⟩) 1 1,.int .i64 lo,.int .i64 hi,.bool nb])) (w5.alloc (.cells #[.int .i64 t.kind,.int .u64 (t.set 0:Nat),.int .u64 (t.set 1:Nat),.int .u64 (t.set 2:Nat),.int .u64 (t.set 3:Nat),v,.int .i64 t.lo,.int .i64 t.hi] 27))∧Below w.heap.size w (w5.alloc (.cells #[.int .i64 t.kind,.int .u64 (t.set 0:Nat),.int .u64 (t.set 1:Nat),.int .u64 (t.set 2:Nat),.int .u64 (t.set 3:Nat),v,.int .i64 t.lo,.int .i64 t.hi] 27)):=by
 have h4:Chg (fun x=>x=w.heap.size+1) w3 w5:=h5▸set9x_chg w3 (w.heap.size+1) _ _ _ _ _ _ _ _ _
 have hsz:w5.heap.size=w3.heap.size:=by rw [← h5];exact set9x_size _ _ _ _ _ _ _ _ _ _ _
 have hbx:w5.heap[w.heap.size+1]? = some (.cells #[.int .i64 4,.int .u64 0,.int .u64 0,.int .u64 0,.int .u64 0,.slice (some ⟨w3.heap.size,0,none⟩) 1 1,.int .i64 lo,.int .i64 hi,.bool nb] 117 (0,0)):=by rw [← h5];exact set9x_heap (h.2.2.1.below h3) _ _ _ _ _ _ _ _ _
 have hb:Below w.heap.size w w3:=bhop h.1 h3
 have hs3:w.heap.size+2≤w3.heap.size:=by have:=h3.size;have:=h.2.1;omega
 have hb5:Below w.heap.size w w5:=hb.trans (h4.below hb.size fun k hk e=>by omega)
 have hb4:Below w.heap.size w (w5.alloc (.cells #[.int .i64 t.kind,.int .u64 (t.set 0:Nat),.int .u64 (t.set 1:Nat),.int .u64 (t.set 2:Nat),.int .u64 (t.set 3:Nat),v,.int .i64 t.lo,.int .i64 t.hi] 27)):=hb5.alloc hb5.size _
 have hlit:=World.ownsRow_lit (e:=27) (size:=8) (base:=w5.heap.size) w5 #[.int .i64 t.kind,.int .u64 (t.set 0:Nat),.int .u64 (t.set 1:Nat),.int .u64 (t.set 2:Nat),.int .u64 (t.set 3:Nat),v,.int .i64 t.lo,.int .i64 t.hi] 1 (Nat.le_refl _) (by unfold maxLen;omega) rfl
 rw [hsz] at hlit
 have hrow:RowA (w5.alloc (.cells #[.int .i64 t.kind,.int .u64 (t.set 0:Nat),.int .u64 (t.set 1:Nat),.int .u64 (t.set 2:Nat),.int .u64 (t.set 3:Nat),v,.int .i64 t.lo,.int .i64 t.hi] 27)) a m (fun x=>x=w3.heap.size) (.slice (some ⟨w3.heap.size,0,none⟩) 1 1) [t]:=by
  refine ⟨?_,fun x hx=>(Option.some.inj hx).symm,fun u hu=>?_⟩
  ·have h6:=own_low hlit (base':=a) (by omega)
   have e:flat [t]=#[.int .i64 t.kind,.int .u64 (t.set 0:Nat),.int .u64 (t.set 1:Nat),.int .u64 (t.set 2:Nat),.int .u64 (t.set 3:Nat),v,.int .i64 t.lo,.int .i64 t.hi].toList:=by unfold flat;rw [List.flatMap_cons,List.flatMap_nil,List.append_nil];unfold ndc;rw [h.2.2.2.1]
   rw [e]
   exact h6
  ·rw [List.mem_singleton.1 hu]
   refine OwnT.mono (hr.chg (Chg.of_below (R:=fun _=>False) hb4) fun _ _ _ _=>id) fun b _ hbr=>⟨hbr,fun e=>?_⟩
   have:w3.heap.size=b:=Option.some.inj e
   have:=hbr.2.1
   omega
 refine ⟨.of ((Below.heap_alloc _ _ _ (by omega)).trans hbx),⟨(.node 4 zeros lo hi (.slice (some ⟨w3.heap.size,0,none⟩) 1 1) [t],nb),rfl,by unfold er;rw [erase,erases,erases],hrow.res (Nat.le_trans hm hb4.size) (fun x hx=>?_) _ _ _ _⟩,hb4⟩
 rw [World.size_alloc]
 omega
theorem timesP_1 {t:V} {n:Bool} {lo hi:Int} (h:vB (erase t)=true) (h0:0<lo):timesP (er (t,n)) lo hi=er (t,n):=if_pos (.inl ⟨h,h0⟩)
theorem timesP_2 {t:V} {n:Bool}:timesP (er (t,n)) 1 1=er (t,n):=if_pos (.inr ⟨rfl,rfl⟩)
theorem timesP_3 {t:V} {n:Bool} {lo hi:Int} (h1:¬ (vB (erase t)=true∧0<lo)) (h2:¬ (lo=1∧hi=1)) (h3:vB (erase t)=true∨t.kind=0∨hi=0):timesP (er (t,n)) lo hi=(noT,true):=by
 unfold timesP
 rw [if_neg (by rintro (h | h);exact h1 h;exact h2 h),if_pos (by rw [← erase_kind t] at h3;exact h3)]
theorem timesP_4 {t:V} {n:Bool} {lo hi:Int} (h1:vB (erase t)=false) (h2:¬ (lo=1∧hi=1)) (h3:t.kind≠0) (h4:hi≠0):timesP (er (t,n)) lo hi=(.node 4 zeros (if n then 0 else lo) hi [erase t],decide ((if n then 0 else lo)=0)):=by
 unfold timesP
 rw [if_neg (by rintro (h | h);have h5:vB (erase t)=true:=h.1;rw [h1] at h5;cases h5;exact h2 h),if_neg (by rintro (h | h | h);have h5:vB (erase t)=true:=h;rw [h1] at h5;cases h5;exact h3 (by rw [← erase_kind t];exact h);exact h4 h)]
 rfl
set_option maxHeartbeats 4000000 in
set_option maxRecDepth 100000 in
theorem times_w1 (a m:Nat) (t:V) (n:Bool) (lo hi:Int) (sa:Option Addr) (sn sc:Nat) (w:World) (hr:Res w a m t) (ha:a≤w.heap.size) (hm:m≤w.heap.size) (hv0:t.v=.slice sa sn sc) (hvb:vB (erase t)=true) (h0:0<lo) :
  Calls Tryd.prog 65 #[.agg #[.int .i64 t.kind,.int .u64 (t.set 0:Nat),.int .u64 (t.set 1:Nat),.int .u64 (t.set 2:Nat),.int .u64 (t.set 3:Nat),.slice sa sn sc,.int .i64 t.lo,.int .i64 t.hi,.bool n],.int .i64 lo,.int .i64 hi] w fun e w'=>GivesS a (timesP (er (t,n)) lo hi) e w'∧Below w.heap.size w w':=by
 obtain ⟨w2,hw2,hbw,hsz2,hzb,hbx⟩:=box9_new w t (.slice sa sn sc) n
 have HTM:=Lib.hid (show TM w w2 t n (.slice sa sn sc) from ⟨hbw,hsz2,hzb,hv0,hbx⟩)
 have HR:=Lib.hid (And.intro hr (And.intro ha hm))
 obtain ⟨b0,b1,b2,b3,b4,b5,b6,b7,b8⟩:=hbx w2 (Below.refl _ _)
 have HVO:=Lib.hid (fun W=>sVoid_any t (.slice sa sn sc) n W)
 rw [hvb] at HVO
 have HE:=Lib.hid (timesP_1 (n:=n) (hi:=hi) hvb h0)
 clear hbw hsz2 hzb hbx hr ha hm hv0 hvb
 go_enter Tryd.func65,Tryd.ntmps65
 go_upto_region 1 with fail
 clear hw2
 go_wp2_with fail
 go_at_call 84
 refine (HVO.out _).mono ?_
 rintro e w3 ⟨rfl,hb⟩
 have HB3:=Lib.hid (hb)
 clear hb b0 b1 b2 b3 b4 b5 b6 b7 b8
 obtain ⟨b0,b1,b2,b3,b4,b5,b6,b7,b8⟩:=HTM.out.2.2.2.2 w3 HB3.out
 obtain ⟨⟨s0,s1,s2,s3,s4,s5,s6,s7,s8⟩,f0,f1,f2,f3,f4,f5,f6,f7,f8,hl⟩:=(HTM.out.2.2.1.below HB3.out).cells
 go_wp2_with fail
 refine bodyPost_ret (v:=.agg #[.int .i64 t.kind,.int .u64 (t.set 0:Nat),.int .u64 (t.set 1:Nat),.int .u64 (t.set 2:Nat),.int .u64 (t.set 3:Nat),.slice sa sn sc,.int .i64 t.lo,.int .i64 t.hi,.bool n]) (by simp [results,Tryd.results65,go_sem,s0,s1,s2,s3,s4,s5,s6,s7,s8]) rfl ?_
 rw [HE.out]
 exact times_same HR.out.1 HR.out.2.2 HTM.out HB3.out (set9x_chg _ _ _ _ _ _ _ _ _ _ _)
set_option maxHeartbeats 4000000 in
set_option maxRecDepth 100000 in
theorem times_w2 (a m:Nat) (t:V) (n:Bool) (lo hi:Int) (sa:Option Addr) (sn sc:Nat) (w:World) (hr:Res w a m t) (ha:a≤w.heap.size) (hm:m≤w.heap.size) (hv0:t.v=.slice sa sn sc) (hvb:vB (erase t)=true) (h0:¬ 0<lo) :
  Calls Tryd.prog 65 #[.agg #[.int .i64 t.kind,.int .u64 (t.set 0:Nat),.int .u64 (t.set 1:Nat),.int .u64 (t.set 2:Nat),.int .u64 (t.set 3:Nat),.slice sa sn sc,.int .i64 t.lo,.int .i64 t.hi,.bool n],.int .i64 lo,.int .i64 hi] w fun e w'=>GivesS a (timesP (er (t,n)) lo hi) e w'∧Below w.heap.size w w':=by
 obtain ⟨w2,hw2,hbw,hsz2,hzb,hbx⟩:=box9_new w t (.slice sa sn sc) n
 have HTM:=Lib.hid (show TM w w2 t n (.slice sa sn sc) from ⟨hbw,hsz2,hzb,hv0,hbx⟩)
 have HR:=Lib.hid (And.intro hr (And.intro ha hm))
 obtain ⟨b0,b1,b2,b3,b4,b5,b6,b7,b8⟩:=hbx w2 (Below.refl _ _)
 have HVO:=Lib.hid (fun W=>sVoid_any t (.slice sa sn sc) n W)
 rw [hvb] at HVO
 have HE:=Lib.hid (timesP_3 (n:=n) (hi:=hi) (by intro h;exact h0 h.2) (by intro h;exact h0 (by rw [h.1];decide)) (.inl hvb))
 clear hbw hsz2 hzb hbx hr ha hm hv0 hvb
 have g11:(lo == 1)=false:=by simp;omega
 go_enter Tryd.func65,Tryd.ntmps65
 go_upto_region 1 with fail
 clear hw2
 go_wp2_with fail
 go_at_call 84
 refine (HVO.out _).mono ?_
 rintro e w3 ⟨rfl,hb⟩
 have HB3:=Lib.hid (hb)
 clear hb b0 b1 b2 b3 b4 b5 b6 b7 b8
 obtain ⟨b0,b1,b2,b3,b4,b5,b6,b7,b8⟩:=HTM.out.2.2.2.2 w3 HB3.out
 go_wp2_with fail
 go_at_call 84
 refine (HVO.out _).mono ?_
 rintro e w4 ⟨rfl,hb⟩
 have HB4:=Lib.hid (bhop HB3.out hb)
 clear hb b0 b1 b2 b3 b4 b5 b6 b7 b8
 obtain ⟨b0,b1,b2,b3,b4,b5,b6,b7,b8⟩:=HTM.out.2.2.2.2 w4 HB4.out
 obtain ⟨⟨s0,s1,s2,s3,s4,s5,s6,s7,s8⟩,f0,f1,f2,f3,f4,f5,f6,f7,f8,hl⟩:=(HTM.out.2.2.1.below HB4.out).cells
 go_wp2_with fail
 refine bodyPost_ret (v:=.agg #[.int .i64 0,.int .u64 0,.int .u64 0,.int .u64 0,.int .u64 0,.slice none 0 0,.int .i64 0,.int .i64 0,.bool true]) (by simp [results,Tryd.results65,go_sem,s0,s1,s2,s3,s4,s5,s6,s7,s8]) rfl ?_
 rw [HE.out]
 exact times_zero HTM.out HB4.out (set9x_chg _ _ _ _ _ _ _ _ _ _ _)
set_option maxHeartbeats 4000000 in
set_option maxRecDepth 100000 in
theorem times_w3 (a m:Nat) (t:V) (n:Bool) (lo hi:Int) (sa:Option Addr) (sn sc:Nat) (w:World) (hr:Res w a m t) (ha:a≤w.heap.size) (hm:m≤w.heap.size) (hv0:t.v=.slice sa sn sc) (hvb:vB (erase t)=false) (h1:lo=1) (h2:hi=1) :
  Calls Tryd.prog 65 #[.agg #[.int .i64 t.kind,.int .u64 (t.set 0:Nat),.int .u64 (t.set 1:Nat),.int .u64 (t.set 2:Nat),.int .u64 (t.set 3:Nat),.slice sa sn sc,.int .i64 t.lo,.int .i64 t.hi,.bool n],.int .i64 lo,.int .i64 hi] w fun e w'=>GivesS a (timesP (er (t,n)) lo hi) e w'∧Below w.heap.size w w':=by
 obtain ⟨w2,hw2,hbw,hsz2,hzb,hbx⟩:=box9_new w t (.slice sa sn sc) n
 have HTM:=Lib.hid (show TM w w2 t n (.slice sa sn sc) from ⟨hbw,hsz2,hzb,hv0,hbx⟩)
 have HR:=Lib.hid (And.intro hr (And.intro ha hm))
 obtain ⟨b0,b1,b2,b3,b4,b5,b6,b7,b8⟩:=hbx w2 (Below.refl _ _)
 have HVO:=Lib.hid (fun W=>sVoid_any t (.slice sa sn sc) n W)
 rw [hvb] at HVO
 have HE:=Lib.hid (show timesP (er (t,n)) lo hi=er (t,n) by rw [h1,h2];exact timesP_2)
 clear hbw hsz2 hzb hbx hr ha hm hv0 hvb
 subst h1 h2
 go_enter Tryd.func65,Tryd.ntmps65
 go_upto_region 1 with fail
 clear hw2
 go_wp2_with fail
 go_at_call 84
 refine (HVO.out _).mono ?_
 rintro e w3 ⟨rfl,hb⟩
 have HB3:=Lib.hid (hb)
 clear hb b0 b1 b2 b3 b4 b5 b6 b7 b8
 obtain ⟨b0,b1,b2,b3,b4,b5,b6,b7,b8⟩:=HTM.out.2.2.2.2 w3 HB3.out
 obtain ⟨⟨s0,s1,s2,s3,s4,s5,s6,s7,s8⟩,f0,f1,f2,f3,f4,f5,f6,f7,f8,hl⟩:=(HTM.out.2.2.1.below HB3.out).cells
 go_wp2_with fail
 refine bodyPost_ret (v:=.agg #[.int .i64 t.kind,.int .u64 (t.set 0:Nat),.int .u64 (t.set 1:Nat),.int .u64 (t.set 2:Nat),.int .u64 (t.set 3:Nat),.slice sa sn sc,.int .i64 t.lo,.int .i64 t.hi,.bool n]) (by simp [results,Tryd.results65,go_sem,s0,s1,s2,s3,s4,s5,s6,s7,s8]) rfl ?_
 rw [HE.out]
 exact times_same HR.out.1 HR.out.2.2 HTM.out HB3.out (set9x_chg _ _ _ _ _ _ _ _ _ _ _)
set_option maxHeartbeats 4000000 in
set_option maxRecDepth 100000 in
theorem times_w4x (a m:Nat) (t:V) (n:Bool) (lo hi:Int) (sa:Option Addr) (sn sc:Nat) (w:World) (hr:Res w a m t) (ha:a≤w.heap.size) (hm:m≤w.heap.size) (hv0:t.v=.slice sa sn sc) (hvb:vB (erase t)=false) (h1:lo=1) (h2:hi≠1) (hk:t.kind=0) :
  Calls Tryd.prog 65 #[.agg #[.int .i64 t.kind,.int .u64 (t.set 0:Nat),.int .u64 (t.set 1:Nat),.int .u64 (t.set 2:Nat),.int .u64 (t.set 3:Nat),.slice sa sn sc,.int .i64 t.lo,.int .i64 t.hi,.bool n],.int .i64 lo,.int .i64 hi] w fun e w'=>GivesS a (timesP (er (t,n)) lo hi) e w'∧Below w.heap.size w w':=by
 obtain ⟨w2,hw2,hbw,hsz2,hzb,hbx⟩:=box9_new w t (.slice sa sn sc) n
 have HTM:=Lib.hid (show TM w w2 t n (.slice sa sn sc) from ⟨hbw,hsz2,hzb,hv0,hbx⟩)
 have HR:=Lib.hid (And.intro hr (And.intro ha hm))
 obtain ⟨b0,b1,b2,b3,b4,b5,b6,b7,b8⟩:=hbx w2 (Below.refl _ _)
 have HVO:=Lib.hid (fun W=>sVoid_any t (.slice sa sn sc) n W)
 rw [hvb] at HVO
 have HE:=Lib.hid (timesP_3 (n:=n) (lo:=lo) (hi:=hi) (by rw [hvb];intro h;cases h.1) (fun h=>h2 h.2) (.inr (.inl hk)))
 clear hbw hsz2 hzb hbx hr ha hm hv0 hvb
 have g12:(hi == 1)=false:=by simp [h2]
 clear h2
 subst h1
 have HK:=Lib.hid hk
 have HVK:=HVO
 rw [hk] at b0 HVK
 clear hk
 go_enter Tryd.func65,Tryd.ntmps65
 go_upto_region 1 with fail
 clear hw2
 go_wp2_with fail
 go_at_call 84
 refine (HVK.out _).mono ?_
 rintro e w3 ⟨rfl,hb⟩
 have HB3:=Lib.hid (hb)
 clear hb b0 b1 b2 b3 b4 b5 b6 b7 b8
 obtain ⟨b0,b1,b2,b3,b4,b5,b6,b7,b8⟩:=HTM.out.2.2.2.2 w3 HB3.out
 rw [HK.out] at b0
 go_wp2_with fail
 go_at_call 84
 refine (HVK.out _).mono ?_
 rintro e w4 ⟨rfl,hb⟩
 have HB4:=Lib.hid (bhop HB3.out hb)
 clear hb b0 b1 b2 b3 b4 b5 b6 b7 b8
 obtain ⟨b0,b1,b2,b3,b4,b5,b6,b7,b8⟩:=HTM.out.2.2.2.2 w4 HB4.out
 rw [HK.out] at b0
 obtain ⟨⟨s0,s1,s2,s3,s4,s5,s6,s7,s8⟩,f0,f1,f2,f3,f4,f5,f6,f7,f8,hl⟩:=(HTM.out.2.2.1.below HB4.out).cells
 go_wp2_with fail
 refine bodyPost_ret (v:=.agg #[.int .i64 0,.int .u64 0,.int .u64 0,.int .u64 0,.int .u64 0,.slice none 0 0,.int .i64 0,.int .i64 0,.bool true]) (by simp [results,Tryd.results65,go_sem,s0,s1,s2,s3,s4,s5,s6,s7,s8]) rfl ?_
 rw [HE.out]
 exact times_zero HTM.out HB4.out (set9x_chg _ _ _ _ _ _ _ _ _ _ _)
set_option maxHeartbeats 4000000 in
set_option maxRecDepth 100000 in
theorem times_w5x (a m:Nat) (t:V) (n:Bool) (lo hi:Int) (sa:Option Addr) (sn sc:Nat) (w:World) (hr:Res w a m t) (ha:a≤w.heap.size) (hm:m≤w.heap.size) (hv0:t.v=.slice sa sn sc) (hvb:vB (erase t)=false) (h1:lo=1) (h2:hi≠1) (hk:t.kind≠0) (hh:hi=0) :
  Calls Tryd.prog 65 #[.agg #[.int .i64 t.kind,.int .u64 (t.set 0:Nat),.int .u64 (t.set 1:Nat),.int .u64 (t.set 2:Nat),.int .u64 (t.set 3:Nat),.slice sa sn sc,.int .i64 t.lo,.int .i64 t.hi,.bool n],.int .i64 lo,.int .i64 hi] w fun e w'=>GivesS a (timesP (er (t,n)) lo hi) e w'∧Below w.heap.size w w':=by
 obtain ⟨w2,hw2,hbw,hsz2,hzb,hbx⟩:=box9_new w t (.slice sa sn sc) n
 have HTM:=Lib.hid (show TM w w2 t n (.slice sa sn sc) from ⟨hbw,hsz2,hzb,hv0,hbx⟩)
 have HR:=Lib.hid (And.intro hr (And.intro ha hm))
 obtain ⟨b0,b1,b2,b3,b4,b5,b6,b7,b8⟩:=hbx w2 (Below.refl _ _)
 have HVO:=Lib.hid (fun W=>sVoid_any t (.slice sa sn sc) n W)
 rw [hvb] at HVO
 have HE:=Lib.hid (timesP_3 (n:=n) (lo:=lo) (hi:=hi) (by rw [hvb];intro h;cases h.1) (fun h=>h2 h.2) (.inr (.inr hh)))
 clear hbw hsz2 hzb hbx hr ha hm hv0 hvb
 have g12:(hi == 1)=false:=by simp [h2]
 clear h2
 subst h1
 have gk:(t.kind == 0)=false:=by simp [hk]
 clear hk
 subst hh
 go_enter Tryd.func65,Tryd.ntmps65
 go_upto_region 1 with fail
 clear hw2
 go_wp2_with fail
 go_at_call 84
 refine (HVO.out _).mono ?_
 rintro e w3 ⟨rfl,hb⟩
 have HB3:=Lib.hid (hb)
 clear hb b0 b1 b2 b3 b4 b5 b6 b7 b8
 obtain ⟨b0,b1,b2,b3,b4,b5,b6,b7,b8⟩:=HTM.out.2.2.2.2 w3 HB3.out
 go_wp2_with fail
 go_at_call 84
 refine (HVO.out _).mono ?_
 rintro e w4 ⟨rfl,hb⟩
 have HB4:=Lib.hid (bhop HB3.out hb)
 clear hb b0 b1 b2 b3 b4 b5 b6 b7 b8
 obtain ⟨b0,b1,b2,b3,b4,b5,b6,b7,b8⟩:=HTM.out.2.2.2.2 w4 HB4.out
 obtain ⟨⟨s0,s1,s2,s3,s4,s5,s6,s7,s8⟩,f0,f1,f2,f3,f4,f5,f6,f7,f8,hl⟩:=(HTM.out.2.2.1.below HB4.out).cells
 go_wp2_with fail
 refine bodyPost_ret (v:=.agg #[.int .i64 0,.int .u64 0,.int .u64 0,.int .u64 0,.int .u64 0,.slice none 0 0,.int .i64 0,.int .i64 0,.bool true]) (by simp [results,Tryd.results65,go_sem,s0,s1,s2,s3,s4,s5,s6,s7,s8]) rfl ?_
 rw [HE.out]
 exact times_zero HTM.out HB4.out (set9x_chg _ _ _ _ _ _ _ _ _ _ _)
set_option maxHeartbeats 4000000 in
set_option maxRecDepth 100000 in
theorem times_w6xt (a m:Nat) (t:V) (n:Bool) (lo hi:Int) (sa:Option Addr) (sn sc:Nat) (w:World) (hr:Res w a m t) (ha:a≤w.heap.size) (hm:m≤w.heap.size) (hv0:t.v=.slice sa sn sc) (hvb:vB (erase t)=false) (h1:lo=1) (h2:hi≠1) (hk:t.kind≠0) (hh:hi≠0) (hn:n=true) :
  Calls Tryd.prog 65 #[.agg #[.int .i64 t.kind,.int .u64 (t.set 0:Nat),.int .u64 (t.set 1:Nat),.int .u64 (t.set 2:Nat),.int .u64 (t.set 3:Nat),.slice sa sn sc,.int .i64 t.lo,.int .i64 t.hi,.bool n],.int .i64 lo,.int .i64 hi] w fun e w'=>GivesS a (timesP (er (t,n)) lo hi) e w'∧Below w.heap.size w w':=by
 obtain ⟨w2,hw2,hbw,hsz2,hzb,hbx⟩:=box9_new w t (.slice sa sn sc) n
 have HTM:=Lib.hid (show TM w w2 t n (.slice sa sn sc) from ⟨hbw,hsz2,hzb,hv0,hbx⟩)
 have HR:=Lib.hid (And.intro hr (And.intro ha hm))
 obtain ⟨b0,b1,b2,b3,b4,b5,b6,b7,b8⟩:=hbx w2 (Below.refl _ _)
 have HVO:=Lib.hid (fun W=>sVoid_any t (.slice sa sn sc) n W)
 rw [hvb] at HVO
 have HE:=Lib.hid (show timesP (er (t,n)) lo hi=(.node 4 zeros (0) hi [erase t],true) by rw [timesP_4 (n:=n) (lo:=lo) hvb (fun h=>h2 h.2) hk hh,hn];rfl)
 clear hbw hsz2 hzb hbx hr ha hm hv0 hvb
 subst hn
 have g12:(hi == 1)=false:=by simp [h2]
 clear h2
 subst h1
 have gh:(hi == 0)=false:=by simp [hh]
 have gk:(t.kind == 0)=false:=by simp [hk]
 clear hk hh
 go_enter Tryd.func65,Tryd.ntmps65
 go_upto_region 1 with fail
 clear hw2
 go_wp2_with fail
 go_at_call 84
 refine (HVO.out _).mono ?_
 rintro e w3 ⟨rfl,hb⟩
 have HB3:=Lib.hid (hb)
 clear hb b0 b1 b2 b3 b4 b5 b6 b7 b8
 obtain ⟨b0,b1,b2,b3,b4,b5,b6,b7,b8⟩:=HTM.out.2.2.2.2 w3 HB3.out
 go_wp2_with fail
 go_at_call 84
 refine (HVO.out _).mono ?_
 rintro e w4 ⟨rfl,hb⟩
 have HB4:=Lib.hid (bhop HB3.out hb)
 clear hb b0 b1 b2 b3 b4 b5 b6 b7 b8
 obtain ⟨b0,b1,b2,b3,b4,b5,b6,b7,b8⟩:=HTM.out.2.2.2.2 w4 HB4.out
 obtain ⟨⟨s0,s1,s2,s3,s4,s5,s6,s7,s8⟩,f0,f1,f2,f3,f4,f5,f6,f7,f8,hl⟩:=(HTM.out.2.2.1.below HB4.out).cells
 go_wp2_with fail
 obtain ⟨w5,hw5⟩ : ∃ w5,(((((((((w4.setCell ⟨w.heap.size+1,0,none⟩ (.int .i64 4)).setCell ⟨w.heap.size+1,1,none⟩ (.int .u64 0)).setCell ⟨w.heap.size+1,2,none⟩ (.int .u64 0)).setCell ⟨w.heap.size+1,3,none⟩ (.int .u64 0)).setCell ⟨w.heap.size+1,4,none⟩ (.int .u64 0)).setCell ⟨w.heap.size+1,5,none⟩ (.slice (some ⟨w4.heap.size,0,none⟩) 1 1)).setCell ⟨w.heap.size+1,6,none⟩ (.int .i64 0)).setCell ⟨w.heap.size+1,7,none⟩ (.int .i64 hi)).setCell ⟨w.heap.size+1,8,none⟩ (.bool true))=w5:=⟨_,rfl⟩
 obtain ⟨⟨r0,r1,r2,r3,r4,r5,r6,r7,r8⟩,hfin⟩:=times_new HR.out.1 HR.out.2.1 HR.out.2.2 HTM.out HB4.out hw5
 rw [hw5]
 clear hw5 s0 s1 s2 s3 s4 s5 s6 s7 s8 f0 f1 f2 f3 f4 f5 f6 f7 f8 b0 b1 b2 b3 b4 b5 b6 b7 b8
 generalize w5.alloc (.cells #[.int .i64 t.kind,.int .u64 (t.set 0:Nat),.int .u64 (t.set 1:Nat),.int .u64 (t.set 2:Nat),.int .u64 (t.set 3:Nat),.slice sa sn sc,.int .i64 t.lo,.int .i64 t.hi] 27)=w6 at *
 refine bodyPost_ret (v:=.agg #[.int .i64 4,.int .u64 0,.int .u64 0,.int .u64 0,.int .u64 0,.slice (some ⟨w4.heap.size,0,none⟩) 1 1,.int .i64 0,.int .i64 hi,.bool true]) (by simp [results,Tryd.results65,go_sem,r0,r1,r2,r3,r4,r5,r6,r7,r8,V.kind,V.set,V.lo,V.hi,zeros]) rfl ?_
 rw [HE.out]
 exact hfin
set_option maxHeartbeats 4000000 in
set_option maxRecDepth 100000 in
theorem times_w6xf (a m:Nat) (t:V) (n:Bool) (lo hi:Int) (sa:Option Addr) (sn sc:Nat) (w:World) (hr:Res w a m t) (ha:a≤w.heap.size) (hm:m≤w.heap.size) (hv0:t.v=.slice sa sn sc) (hvb:vB (erase t)=false) (h1:lo=1) (h2:hi≠1) (hk:t.kind≠0) (hh:hi≠0) (hn:n=false) :
  Calls Tryd.prog 65 #[.agg #[.int .i64 t.kind,.int .u64 (t.set 0:Nat),.int .u64 (t.set 1:Nat),.int .u64 (t.set 2:Nat),.int .u64 (t.set 3:Nat),.slice sa sn sc,.int .i64 t.lo,.int .i64 t.hi,.bool n],.int .i64 lo,.int .i64 hi] w fun e w'=>GivesS a (timesP (er (t,n)) lo hi) e w'∧Below w.heap.size w w':=by
 obtain ⟨w2,hw2,hbw,hsz2,hzb,hbx⟩:=box9_new w t (.slice sa sn sc) n
 have HTM:=Lib.hid (show TM w w2 t n (.slice sa sn sc) from ⟨hbw,hsz2,hzb,hv0,hbx⟩)
 have HR:=Lib.hid (And.intro hr (And.intro ha hm))
 obtain ⟨b0,b1,b2,b3,b4,b5,b6,b7,b8⟩:=hbx w2 (Below.refl _ _)
 have HVO:=Lib.hid (fun W=>sVoid_any t (.slice sa sn sc) n W)
 rw [hvb] at HVO
 have HE:=Lib.hid (show timesP (er (t,n)) lo hi=(.node 4 zeros (lo) hi [erase t],decide (lo=0)) by rw [timesP_4 (n:=n) (lo:=lo) hvb (fun h=>h2 h.2) hk hh,hn];rfl)
 clear hbw hsz2 hzb hbx hr ha hm hv0 hvb
 subst hn
 have g12:(hi == 1)=false:=by simp [h2]
 clear h2
 subst h1
 have gh:(hi == 0)=false:=by simp [hh]
 have gk:(t.kind == 0)=false:=by simp [hk]
 clear hk hh
 go_enter Tryd.func65,Tryd.ntmps65
 go_upto_region 1 with fail
 clear hw2
 go_wp2_with fail
 go_at_call 84
 refine (HVO.out _).mono ?_
 rintro e w3 ⟨rfl,hb⟩
 have HB3:=Lib.hid (hb)
 clear hb b0 b1 b2 b3 b4 b5 b6 b7 b8
 obtain ⟨b0,b1,b2,b3,b4,b5,b6,b7,b8⟩:=HTM.out.2.2.2.2 w3 HB3.out
 go_wp2_with fail
 go_at_call 84
 refine (HVO.out _).mono ?_
 rintro e w4 ⟨rfl,hb⟩
 have HB4:=Lib.hid (bhop HB3.out hb)
 clear hb b0 b1 b2 b3 b4 b5 b6 b7 b8
 obtain ⟨b0,b1,b2,b3,b4,b5,b6,b7,b8⟩:=HTM.out.2.2.2.2 w4 HB4.out
 obtain ⟨⟨s0,s1,s2,s3,s4,s5,s6,s7,s8⟩,f0,f1,f2,f3,f4,f5,f6,f7,f8,hl⟩:=(HTM.out.2.2.1.below HB4.out).cells
 go_wp2_with fail
 obtain ⟨w5,hw5⟩ : ∃ w5,(((((((((w4.setCell ⟨w.heap.size+1,0,none⟩ (.int .i64 4)).setCell ⟨w.heap.size+1,1,none⟩ (.int .u64 0)).setCell ⟨w.heap.size+1,2,none⟩ (.int .u64 0)).setCell ⟨w.heap.size+1,3,none⟩ (.int .u64 0)).setCell ⟨w.heap.size+1,4,none⟩ (.int .u64 0)).setCell ⟨w.heap.size+1,5,none⟩ (.slice (some ⟨w4.heap.size,0,none⟩) 1 1)).setCell ⟨w.heap.size+1,6,none⟩ (.int .i64 1)).setCell ⟨w.heap.size+1,7,none⟩ (.int .i64 hi)).setCell ⟨w.heap.size+1,8,none⟩ (.bool false))=w5:=⟨_,rfl⟩
 obtain ⟨⟨r0,r1,r2,r3,r4,r5,r6,r7,r8⟩,hfin⟩:=times_new HR.out.1 HR.out.2.1 HR.out.2.2 HTM.out HB4.out hw5
 rw [hw5]
 clear hw5 s0 s1 s2 s3 s4 s5 s6 s7 s8 f0 f1 f2 f3 f4 f5 f6 f7 f8 b0 b1 b2 b3 b4 b5 b6 b7 b8
 generalize w5.alloc (.cells #[.int .i64 t.kind,.int .u64 (t.set 0:Nat),.int .u64 (t.set 1:Nat),.int .u64 (t.set 2:Nat),.int .u64 (t.set 3:Nat),.slice sa sn sc,.int .i64 t.lo,.int .i64 t.hi] 27)=w6 at *
 refine bodyPost_ret (v:=.agg #[.int .i64 4,.int .u64 0,.int .u64 0,.int .u64 0,.int .u64 0,.slice (some ⟨w4.heap.size,0,none⟩) 1 1,.int .i64 1,.int .i64 hi,.bool false]) (by simp [results,Tryd.results65,go_sem,r0,r1,r2,r3,r4,r5,r6,r7,r8,V.kind,V.set,V.lo,V.hi,zeros]) rfl ?_
 rw [HE.out]
 exact hfin
set_option maxHeartbeats 4000000 in
set_option maxRecDepth 100000 in
theorem times_w4y (a m:Nat) (t:V) (n:Bool) (lo hi:Int) (sa:Option Addr) (sn sc:Nat) (w:World) (hr:Res w a m t) (ha:a≤w.heap.size) (hm:m≤w.heap.size) (hv0:t.v=.slice sa sn sc) (hvb:vB (erase t)=false) (h1:lo≠1) (hk:t.kind=0) :
  Calls Tryd.prog 65 #[.agg #[.int .i64 t.kind,.int .u64 (t.set 0:Nat),.int .u64 (t.set 1:Nat),.int .u64 (t.set 2:Nat),.int .u64 (t.set 3:Nat),.slice sa sn sc,.int .i64 t.lo,.int .i64 t.hi,.bool n],.int .i64 lo,.int .i64 hi] w fun e w'=>GivesS a (timesP (er (t,n)) lo hi) e w'∧Below w.heap.size w w':=by
 obtain ⟨w2,hw2,hbw,hsz2,hzb,hbx⟩:=box9_new w t (.slice sa sn sc) n
 have HTM:=Lib.hid (show TM w w2 t n (.slice sa sn sc) from ⟨hbw,hsz2,hzb,hv0,hbx⟩)
 have HR:=Lib.hid (And.intro hr (And.intro ha hm))
 obtain ⟨b0,b1,b2,b3,b4,b5,b6,b7,b8⟩:=hbx w2 (Below.refl _ _)
 have HVO:=Lib.hid (fun W=>sVoid_any t (.slice sa sn sc) n W)
 rw [hvb] at HVO
 have HE:=Lib.hid (timesP_3 (n:=n) (lo:=lo) (hi:=hi) (by rw [hvb];intro h;cases h.1) (fun h=>h1 h.1) (.inr (.inl hk)))
 clear hbw hsz2 hzb hbx hr ha hm hv0 hvb
 have g11:(lo == 1)=false:=by simp [h1]
 clear h1
 have HK:=Lib.hid hk
 have HVK:=HVO
 rw [hk] at b0 HVK
 clear hk
 go_enter Tryd.func65,Tryd.ntmps65
 go_upto_region 1 with fail
 clear hw2
 go_wp2_with fail
 go_at_call 84
 refine (HVK.out _).mono ?_
 rintro e w3 ⟨rfl,hb⟩
 have HB3:=Lib.hid (hb)
 clear hb b0 b1 b2 b3 b4 b5 b6 b7 b8
 obtain ⟨b0,b1,b2,b3,b4,b5,b6,b7,b8⟩:=HTM.out.2.2.2.2 w3 HB3.out
 rw [HK.out] at b0
 go_wp2_with fail
 go_at_call 84
 refine (HVK.out _).mono ?_
 rintro e w4 ⟨rfl,hb⟩
 have HB4:=Lib.hid (bhop HB3.out hb)
 clear hb b0 b1 b2 b3 b4 b5 b6 b7 b8
 obtain ⟨b0,b1,b2,b3,b4,b5,b6,b7,b8⟩:=HTM.out.2.2.2.2 w4 HB4.out
 rw [HK.out] at b0
 obtain ⟨⟨s0,s1,s2,s3,s4,s5,s6,s7,s8⟩,f0,f1,f2,f3,f4,f5,f6,f7,f8,hl⟩:=(HTM.out.2.2.1.below HB4.out).cells
 go_wp2_with fail
 refine bodyPost_ret (v:=.agg #[.int .i64 0,.int .u64 0,.int .u64 0,.int .u64 0,.int .u64 0,.slice none 0 0,.int .i64 0,.int .i64 0,.bool true]) (by simp [results,Tryd.results65,go_sem,s0,s1,s2,s3,s4,s5,s6,s7,s8]) rfl ?_
 rw [HE.out]
 exact times_zero HTM.out HB4.out (set9x_chg _ _ _ _ _ _ _ _ _ _ _)
set_option maxHeartbeats 4000000 in
set_option maxRecDepth 100000 in
theorem times_w5y (a m:Nat) (t:V) (n:Bool) (lo hi:Int) (sa:Option Addr) (sn sc:Nat) (w:World) (hr:Res w a m t) (ha:a≤w.heap.size) (hm:m≤w.heap.size) (hv0:t.v=.slice sa sn sc) (hvb:vB (erase t)=false) (h1:lo≠1) (hk:t.kind≠0) (hh:hi=0) :
  Calls Tryd.prog 65 #[.agg #[.int .i64 t.kind,.int .u64 (t.set 0:Nat),.int .u64 (t.set 1:Nat),.int .u64 (t.set 2:Nat),.int .u64 (t.set 3:Nat),.slice sa sn sc,.int .i64 t.lo,.int .i64 t.hi,.bool n],.int .i64 lo,.int .i64 hi] w fun e w'=>GivesS a (timesP (er (t,n)) lo hi) e w'∧Below w.heap.size w w':=by
 obtain ⟨w2,hw2,hbw,hsz2,hzb,hbx⟩:=box9_new w t (.slice sa sn sc) n
 have HTM:=Lib.hid (show TM w w2 t n (.slice sa sn sc) from ⟨hbw,hsz2,hzb,hv0,hbx⟩)
 have HR:=Lib.hid (And.intro hr (And.intro ha hm))
 obtain ⟨b0,b1,b2,b3,b4,b5,b6,b7,b8⟩:=hbx w2 (Below.refl _ _)
 have HVO:=Lib.hid (fun W=>sVoid_any t (.slice sa sn sc) n W)
 rw [hvb] at HVO
 have HE:=Lib.hid (timesP_3 (n:=n) (lo:=lo) (hi:=hi) (by rw [hvb];intro h;cases h.1) (fun h=>h1 h.1) (.inr (.inr hh)))
 clear hbw hsz2 hzb hbx hr ha hm hv0 hvb
 have g11:(lo == 1)=false:=by simp [h1]
 clear h1
 have gk:(t.kind == 0)=false:=by simp [hk]
 clear hk
 subst hh
 go_enter Tryd.func65,Tryd.ntmps65
 go_upto_region 1 with fail
 clear hw2
 go_wp2_with fail
 go_at_call 84
 refine (HVO.out _).mono ?_
 rintro e w3 ⟨rfl,hb⟩
 have HB3:=Lib.hid (hb)
 clear hb b0 b1 b2 b3 b4 b5 b6 b7 b8
 obtain ⟨b0,b1,b2,b3,b4,b5,b6,b7,b8⟩:=HTM.out.2.2.2.2 w3 HB3.out
 go_wp2_with fail
 go_at_call 84
 refine (HVO.out _).mono ?_
 rintro e w4 ⟨rfl,hb⟩
 have HB4:=Lib.hid (bhop HB3.out hb)
 clear hb b0 b1 b2 b3 b4 b5 b6 b7 b8
 obtain ⟨b0,b1,b2,b3,b4,b5,b6,b7,b8⟩:=HTM.out.2.2.2.2 w4 HB4.out
 obtain ⟨⟨s0,s1,s2,s3,s4,s5,s6,s7,s8⟩,f0,f1,f2,f3,f4,f5,f6,f7,f8,hl⟩:=(HTM.out.2.2.1.below HB4.out).cells
 go_wp2_with fail
 refine bodyPost_ret (v:=.agg #[.int .i64 0,.int .u64 0,.int .u64 0,.int .u64 0,.int .u64 0,.slice none 0 0,.int .i64 0,.int .i64 0,.bool true]) (by simp [results,Tryd.results65,go_sem,s0,s1,s2,s3,s4,s5,s6,s7,s8]) rfl ?_
 rw [HE.out]
 exact times_zero HTM.out HB4.out (set9x_chg _ _ _ _ _ _ _ _ _ _ _)
set_option maxHeartbeats 4000000 in
set_option maxRecDepth 100000 in
theorem times_w6yt (a m:Nat) (t:V) (n:Bool) (lo hi:Int) (sa:Option Addr) (sn sc:Nat) (w:World) (hr:Res w a m t) (ha:a≤w.heap.size) (hm:m≤w.heap.size) (hv0:t.v=.slice sa sn sc) (hvb:vB (erase t)=false) (h1:lo≠1) (hk:t.kind≠0) (hh:hi≠0) (hn:n=true) :
  Calls Tryd.prog 65 #[.agg #[.int .i64 t.kind,.int .u64 (t.set 0:Nat),.int .u64 (t.set 1:Nat),.int .u64 (t.set 2:Nat),.int .u64 (t.set 3:Nat),.slice sa sn sc,.int .i64 t.lo,.int .i64 t.hi,.bool n],.int .i64 lo,.int .i64 hi] w fun e w'=>GivesS a (timesP (er (t,n)) lo hi) e w'∧Below w.heap.size w w':=by
 obtain ⟨w2,hw2,hbw,hsz2,hzb,hbx⟩:=box9_new w t (.slice sa sn sc) n
 have HTM:=Lib.hid (show TM w w2 t n (.slice sa sn sc) from ⟨hbw,hsz2,hzb,hv0,hbx⟩)
 have HR:=Lib.hid (And.intro hr (And.intro ha hm))
 obtain ⟨b0,b1,b2,b3,b4,b5,b6,b7,b8⟩:=hbx w2 (Below.refl _ _)
 have HVO:=Lib.hid (fun W=>sVoid_any t (.slice sa sn sc) n W)
 rw [hvb] at HVO
 have HE:=Lib.hid (show timesP (er (t,n)) lo hi=(.node 4 zeros (0) hi [erase t],true) by rw [timesP_4 (n:=n) (lo:=lo) hvb (fun h=>h1 h.1) hk hh,hn];rfl)
 clear hbw hsz2 hzb hbx hr ha hm hv0 hvb
 subst hn
 have g11:(lo == 1)=false:=by simp [h1]
 clear h1
 have gh:(hi == 0)=false:=by simp [hh]
 have gk:(t.kind == 0)=false:=by simp [hk]
 clear hk hh
 go_enter Tryd.func65,Tryd.ntmps65
 go_upto_region 1 with fail
 clear hw2
 go_wp2_with fail
 go_at_call 84
 refine (HVO.out _).mono ?_
 rintro e w3 ⟨rfl,hb⟩
 have HB3:=Lib.hid (hb)
 clear hb b0 b1 b2 b3 b4 b5 b6 b7 b8
 obtain ⟨b0,b1,b2,b3,b4,b5,b6,b7,b8⟩:=HTM.out.2.2.2.2 w3 HB3.out
 go_wp2_with fail
 go_at_call 84
 refine (HVO.out _).mono ?_
 rintro e w4 ⟨rfl,hb⟩
 have HB4:=Lib.hid (bhop HB3.out hb)
 clear hb b0 b1 b2 b3 b4 b5 b6 b7 b8
 obtain ⟨b0,b1,b2,b3,b4,b5,b6,b7,b8⟩:=HTM.out.2.2.2.2 w4 HB4.out
 obtain ⟨⟨s0,s1,s2,s3,s4,s5,s6,s7,s8⟩,f0,f1,f2,f3,f4,f5,f6,f7,f8,hl⟩:=(HTM.out.2.2.1.below HB4.out).cells
 go_wp2_with fail
 obtain ⟨w5,hw5⟩ : ∃ w5,(((((((((w4.setCell ⟨w.heap.size+1,0,none⟩ (.int .i64 4)).setCell ⟨w.heap.size+1,1,none⟩ (.int .u64 0)).setCell ⟨w.heap.size+1,2,none⟩ (.int .u64 0)).setCell ⟨w.heap.size+1,3,none⟩ (.int .u64 0)).setCell ⟨w.heap.size+1,4,none⟩ (.int .u64 0)).setCell ⟨w.heap.size+1,5,none⟩ (.slice (some ⟨w4.heap.size,0,none⟩) 1 1)).setCell ⟨w.heap.size+1,6,none⟩ (.int .i64 0)).setCell ⟨w.heap.size+1,7,none⟩ (.int .i64 hi)).setCell ⟨w.heap.size+1,8,none⟩ (.bool true))=w5:=⟨_,rfl⟩
 obtain ⟨⟨r0,r1,r2,r3,r4,r5,r6,r7,r8⟩,hfin⟩:=times_new HR.out.1 HR.out.2.1 HR.out.2.2 HTM.out HB4.out hw5
 rw [hw5]
 clear hw5 s0 s1 s2 s3 s4 s5 s6 s7 s8 f0 f1 f2 f3 f4 f5 f6 f7 f8 b0 b1 b2 b3 b4 b5 b6 b7 b8
 generalize w5.alloc (.cells #[.int .i64 t.kind,.int .u64 (t.set 0:Nat),.int .u64 (t.set 1:Nat),.int .u64 (t.set 2:Nat),.int .u64 (t.set 3:Nat),.slice sa sn sc,.int .i64 t.lo,.int .i64 t.hi] 27)=w6 at *
 refine bodyPost_ret (v:=.agg #[.int .i64 4,.int .u64 0,.int .u64 0,.int .u64 0,.int .u64 0,.slice (some ⟨w4.heap.size,0,none⟩) 1 1,.int .i64 0,.int .i64 hi,.bool true]) (by simp [results,Tryd.results65,go_sem,r0,r1,r2,r3,r4,r5,r6,r7,r8,V.kind,V.set,V.lo,V.hi,zeros]) rfl ?_
 rw [HE.out]
 exact hfin
set_option maxHeartbeats 4000000 in
set_option maxRecDepth 100000 in
theorem times_w6yf (a m:Nat) (t:V) (n:Bool) (lo hi:Int) (sa:Option Addr) (sn sc:Nat) (w:World) (hr:Res w a m t) (ha:a≤w.heap.size) (hm:m≤w.heap.size) (hv0:t.v=.slice sa sn sc) (hvb:vB (erase t)=false) (h1:lo≠1) (hk:t.kind≠0) (hh:hi≠0) (hn:n=false) :
  Calls Tryd.prog 65 #[.agg #[.int .i64 t.kind,.int .u64 (t.set 0:Nat),.int .u64 (t.set 1:Nat),.int .u64 (t.set 2:Nat),.int .u64 (t.set 3:Nat),.slice sa sn sc,.int .i64 t.lo,.int .i64 t.hi,.bool n],.int .i64 lo,.int .i64 hi] w fun e w'=>GivesS a (timesP (er (t,n)) lo hi) e w'∧Below w.heap.size w w':=by
 obtain ⟨w2,hw2,hbw,hsz2,hzb,hbx⟩:=box9_new w t (.slice sa sn sc) n
 have HTM:=Lib.hid (show TM w w2 t n (.slice sa sn sc) from ⟨hbw,hsz2,hzb,hv0,hbx⟩)
 have HR:=Lib.hid (And.intro hr (And.intro ha hm))
 obtain ⟨b0,b1,b2,b3,b4,b5,b6,b7,b8⟩:=hbx w2 (Below.refl _ _)
 have HVO:=Lib.hid (fun W=>sVoid_any t (.slice sa sn sc) n W)
 rw [hvb] at HVO
 have HE:=Lib.hid (show timesP (er (t,n)) lo hi=(.node 4 zeros (lo) hi [erase t],decide (lo=0)) by rw [timesP_4 (n:=n) (lo:=lo) hvb (fun h=>h1 h.1) hk hh,hn];rfl)
 clear hbw hsz2 hzb hbx hr ha hm hv0 hvb
 subst hn
 have g11:(lo == 1)=false:=by simp [h1]
 clear h1
 have gh:(hi == 0)=false:=by simp [hh]
 have gk:(t.kind == 0)=false:=by simp [hk]
 clear hk hh
 go_enter Tryd.func65,Tryd.ntmps65
 go_upto_region 1 with fail
 clear hw2
 go_wp2_with fail
 go_at_call 84
 refine (HVO.out _).mono ?_
 rintro e w3 ⟨rfl,hb⟩
 have HB3:=Lib.hid (hb)
 clear hb b0 b1 b2 b3 b4 b5 b6 b7 b8
 obtain ⟨b0,b1,b2,b3,b4,b5,b6,b7,b8⟩:=HTM.out.2.2.2.2 w3 HB3.out
 go_wp2_with fail
 go_at_call 84
 refine (HVO.out _).mono ?_
 rintro e w4 ⟨rfl,hb⟩
 have HB4:=Lib.hid (bhop HB3.out hb)
 clear hb b0 b1 b2 b3 b4 b5 b6 b7 b8
 obtain ⟨b0,b1,b2,b3,b4,b5,b6,b7,b8⟩:=HTM.out.2.2.2.2 w4 HB4.out
 obtain ⟨⟨s0,s1,s2,s3,s4,s5,s6,s7,s8⟩,f0,f1,f2,f3,f4,f5,f6,f7,f8,hl⟩:=(HTM.out.2.2.1.below HB4.out).cells
 go_wp2_with fail
 obtain ⟨w5,hw5⟩ : ∃ w5,(((((((((w4.setCell ⟨w.heap.size+1,0,none⟩ (.int .i64 4)).setCell ⟨w.heap.size+1,1,none⟩ (.int .u64 0)).setCell ⟨w.heap.size+1,2,none⟩ (.int .u64 0)).setCell ⟨w.heap.size+1,3,none⟩ (.int .u64 0)).setCell ⟨w.heap.size+1,4,none⟩ (.int .u64 0)).setCell ⟨w.heap.size+1,5,none⟩ (.slice (some ⟨w4.heap.size,0,none⟩) 1 1)).setCell ⟨w.heap.size+1,6,none⟩ (.int .i64 lo)).setCell ⟨w.heap.size+1,7,none⟩ (.int .i64 hi)).setCell ⟨w.heap.size+1,8,none⟩ (.bool (lo == 0)))=w5:=⟨_,rfl⟩
 obtain ⟨⟨r0,r1,r2,r3,r4,r5,r6,r7,r8⟩,hfin⟩:=times_new HR.out.1 HR.out.2.1 HR.out.2.2 HTM.out HB4.out hw5
 rw [hw5]
 clear hw5 s0 s1 s2 s3 s4 s5 s6 s7 s8 f0 f1 f2 f3 f4 f5 f6 f7 f8 b0 b1 b2 b3 b4 b5 b6 b7 b8
 generalize w5.alloc (.cells #[.int .i64 t.kind,.int .u64 (t.set 0:Nat),.int .u64 (t.set 1:Nat),.int .u64 (t.set 2:Nat),.int .u64 (t.set 3:Nat),.slice sa sn sc,.int .i64 t.lo,.int .i64 t.hi] 27)=w6 at *
 refine bodyPost_ret (v:=.agg #[.int .i64 4,.int .u64 0,.int .u64 0,.int .u64 0,.int .u64 0,.slice (some ⟨w4.heap.size,0,none⟩) 1 1,.int .i64 lo,.int .i64 hi,.bool (lo == 0)]) (by simp [results,Tryd.results65,go_sem,r0,r1,r2,r3,r4,r5,r6,r7,r8,V.kind,V.set,V.lo,V.hi,zeros]) rfl ?_
 rw [HE.out]
 exact hfin
theorem ctimes_any (a m:Nat) (t:V) (n:Bool) (lo hi:Int) (w:World) (hr:Res w a m t) (ha:a≤w.heap.size) (hm:m≤w.heap.size) :
  Calls Tryd.prog 65 #[.agg (rcells (t,n)).toArray,.int .i64 lo,.int .i64 hi] w fun e w'=>GivesS a (timesP (er (t,n)) lo hi) e w'∧Below w.heap.size w w':=by
 obtain ⟨sa,sc,hv0⟩:=own_form hr.row.own
 rw [rcells_v hv0]
 cases hvb:vB (erase t) with
 | true =>
  by_cases h0:0<lo
  ·exact times_w1 a m t n lo hi sa _ sc w hr ha hm hv0 hvb h0
  ·exact times_w2 a m t n lo hi sa _ sc w hr ha hm hv0 hvb h0
 | false =>
  by_cases h1:lo=1
  ·by_cases h2:hi=1
   ·exact times_w3 a m t n lo hi sa _ sc w hr ha hm hv0 hvb h1 h2
   ·by_cases hk:t.kind=0
    ·exact times_w4x a m t n lo hi sa _ sc w hr ha hm hv0 hvb h1 h2 hk
    ·by_cases hh:hi=0
     ·exact times_w5x a m t n lo hi sa _ sc w hr ha hm hv0 hvb h1 h2 hk hh
     ·cases hn:n with
      | true=>rw [← hn];exact times_w6xt a m t n lo hi sa _ sc w hr ha hm hv0 hvb h1 h2 hk hh hn
      | false=>rw [← hn];exact times_w6xf a m t n lo hi sa _ sc w hr ha hm hv0 hvb h1 h2 hk hh hn
  ·by_cases hk:t.kind=0
   ·exact times_w4y a m t n lo hi sa _ sc w hr ha hm hv0 hvb h1 hk
   ·by_cases hh:hi=0
    ·exact times_w5y a m t n lo hi sa _ sc w hr ha hm hv0 hvb h1 hk hh
    ·cases hn:n with
     | true=>rw [← hn];exact times_w6yt a m t n lo hi sa _ sc w hr ha hm hv0 hvb h1 hk hh hn
     | false=>rw [← hn];exact times_w6yf a m t n lo hi sa _ sc w hr ha hm hv0 hvb h1 hk hh hn
end Go.Proofs.YtbohmcfplgdlpaaDoor
