/- The document's own Of of every formed tree: a contract.
   Conditions: the tree lies in memory, is formed, and has at most 1000 nodes. -/
import Derived.Test.YtjcfmbmepmlckaaDoorMRa
import Derived.Deep.LoopGhost
import Derived.Deep.DeepCutAuto
import Derived.Deep.RegionHeld3

/- The document's own Of of every formed tree: a contract.
   Conditions: the tree lies in memory, is formed, and has at most 1000 nodes. -/
namespace Go.Proofs.YtjcfmbmepmlckaaDoor
open Go.RowKit Go.Shelf
attribute [local go_sem] nodeAgg
def OfU (w:World) (u:T) (e:Ending) (w':World):Prop:=(∃ (r:V) (pt:Option Addr) (ptn ptc:Nat) (pA:Option Addr) (pN pC:Nat) (pcA:Option Addr) (pcN pcC:Nat) (paA:Option Addr) (paN paC:Nat),POu w.heap.size w' (mapT (simT u)) (simT u) r (.slice pA pN pC) (.slice pcA pcN pcC) (.slice paA paN paC)∧r.v=.slice pt ptn ptc∧e=.returned (.tuple #[.agg #[.int .i64 r.kind,.int .u64 (r.set 0:Nat),.int .u64 (r.set 1:Nat),.int .u64 (r.set 2:Nat),.int .u64 (r.set 3:Nat),.slice pt ptn ptc,.int .i64 r.lo,.int .i64 r.hi,.slice pA pN pC,.slice pcA pcN pcC,.slice paA paN paC],.int .i64 (codeP (mapT (simT u)))]))∧Below w.heap.size w w'
theorem ofU_none {w w':World} {u:T} (h:mapT (simT u)=none) (hb:Below w.heap.size w w'):OfU w u (.returned (.tuple #[.agg #[.int .i64 0,.int .u64 0,.int .u64 0,.int .u64 0,.int .u64 0,.slice none 0 0,.int .i64 0,.int .i64 0,.slice none 0 0,.slice none 0 0,.slice none 0 0],.int .i64 3])) w':=by
 refine ⟨⟨zeroV,none,0,0,none,0,0,none,0,0,none,0,0,⟨?_,?_,?_,?_,?_,?_⟩,rfl,?_⟩,hb⟩
 ·rw [h];rfl
 ·exact zeroV_laid _ _
 ·rw [h];exact ⟨World.ownsRow_nil _ _ _ _,World.ownsRow_nil _ _ _ _,[],World.ownsRow_nil _ _ _ _,fun i l hl=>by simp [pmE] at hl⟩
 ·rw [h];rfl
 ·rw [h];simp [pmE]
 ·rw [h];simp [pmE]
 ·rw [h];rfl
theorem MapL.low {w:World} {B B':Nat} {m:PM} {sv cv av:Value} (h:MapL w B m sv cv av) (hb:B'≤B):MapL w B' m sv cv av:=by
 obtain ⟨vs,h1,h2⟩:=h.ars
 refine ⟨own_low h.sets hb,own_low h.scs hb,vs,own_low h1 hb,fun i l hl=>?_⟩
 obtain ⟨v,hv,hr⟩:=h2 i l hl
 exact ⟨v,hv,hr.low hb⟩
theorem node_at {w:World} {base g n c:Nat} {ts:List V} {i:Nat} {t:V} (h:w.ownsRow base 27 8 (.slice (some ⟨g,0,none⟩) n c) n (flat ts)) (hn:n=ts.length) (ht:ts[i]? = some t):∀ j u,(ndc t)[j]? = some u→w.cell? ⟨g,i * 8+j,none⟩=some u:=by
 intro j u hu
 have hj:j<8:=by have:=(List.getElem?_eq_some_iff.1 hu).1;rwa [ndc_length] at this
 have hi:=(List.getElem?_eq_some_iff.1 ht).1
 exact ((h.cellAt (i * 8+j) (by omega)).trans (flat_at ts i t ht j hj)).trans hu
set_option maxHeartbeats 16000000 in
set_option maxRecDepth 100000 in
theorem refOf_any (t:V) (w:World) (R:Nat→Prop) (ht:Laid w R t) (hz:szT (erase t)≤1000) (hok:okT (erase t)=true) :
  Calls Tryd.prog 7 #[nodeAgg t] w (OfU w (erase t)):=by
 obtain ⟨i0,hi,hz0,hz1,hz2⟩:=info_parts infoI3
 obtain ⟨j0,hj,hy0,hy1,hy2⟩:=info_parts infoL39
 obtain ⟨k0,hk,hx0,hx1,hx2⟩:=info_parts infoC24
 obtain ⟨l0,hl,hv0,hv1,hv2⟩:=info_parts infoS59
 obtain ⟨sa,sn,sc,hs⟩:=ht.slice
 have HSi:=Lib.hid (fun (W:World) (h:Below w.heap.size w W)=>by
  have:=refSim_any 300000 (Nat.le_refl _) t W R (by omega) (laid_low ht h) hok
  rw [nodeAgg_v hs] at this
  exact this)
 have HT:=Lib.hid (And.intro hz hok)
 rw [nodeAgg_v hs]
 clear hs ht hz hok
 obtain ⟨w2,hw2⟩ : ∃ w2,(w.alloc (.cells #[.int .i64 t.kind,.int .u64 (t.set 0:Nat),.int .u64 (t.set 1:Nat),.int .u64 (t.set 2:Nat),.int .u64 (t.set 3:Nat),.slice sa sn sc,.int .i64 t.lo,.int .i64 t.hi] 27)).alloc (.cells #[.int .i64 0,.int .u64 0,.int .u64 0,.int .u64 0,.int .u64 0,.slice none 0 0,.int .i64 0,.int .i64 0,.slice none 0 0,.slice none 0 0,.slice none 0 0] 35)=w2:=⟨_,rfl⟩
 have hb2:Below w.heap.size w w2:=hw2▸((Below.refl _ w).alloc (Nat.le_refl _) _).alloc (by simp) _
 have e1:w2.heap[w.heap.size]? = some (.cells #[.int .i64 t.kind,.int .u64 (t.set 0:Nat),.int .u64 (t.set 1:Nat),.int .u64 (t.set 2:Nat),.int .u64 (t.set 3:Nat),.slice sa sn sc,.int .i64 t.lo,.int .i64 t.hi] 27 (0,0)):=by rw [← hw2];exact (Below.heap_alloc _ _ _ (by simp)).trans (heap_alloc_new w _)
 have e2:ZBM (w.heap.size+1) w2:=by
  rw [← hw2]
  have:=heap_alloc_new (w.alloc (.cells #[.int .i64 t.kind,.int .u64 (t.set 0:Nat),.int .u64 (t.set 1:Nat),.int .u64 (t.set 2:Nat),.int .u64 (t.set 3:Nat),.slice sa sn sc,.int .i64 t.lo,.int .i64 t.hi] 27)) (.cells #[.int .i64 0,.int .u64 0,.int .u64 0,.int .u64 0,.int .u64 0,.slice none 0 0,.int .i64 0,.int .i64 0,.slice none 0 0,.slice none 0 0,.slice none 0 0] 35)
  rw [World.size_alloc] at this
  exact this
 obtain ⟨c0,c1,c2,c3,c4,c5,c6,c7⟩:=cells8 e1
 have HB:=Lib.hid (And.intro hb2 e2)
 clear hb2 e1 e2
 go_enter Tryd.func7,Tryd.ntmps7
 go_upto_region 1 with fail
 clear hw2
 go_wp2_with fail
 go_at_call 12
 refine (HSi.out _ HB.out.1).mono ?_
 rintro e w3 ⟨⟨r,rfl,her,hlr⟩,hb3⟩
 obtain ⟨ra,rc,hrv,_⟩:=laid_row' hlr
 obtain ⟨rn,hrn⟩ : ∃ s,s=r.ps.length:=⟨_,rfl⟩
 rw [← hrn] at hrv
 rw [nodeAgg_v hrv]
 have HR:=Lib.hid (And.intro her (And.intro hlr (And.intro hrv hb3)))
 clear her hlr hrv hrn hb3 c0 c1 c2 c3 c4 c5 c6 c7
 obtain ⟨w4,hw4,hb4,hlt4,hbx4⟩:=box_new w3 r (.slice ra rn rc)
 have HX:=Lib.hid hbx4
 have HB4:=Lib.hid (And.intro (bhop HB.out.1 (bhop HR.out.2.2.2 hb4)) hb4)
 clear hb4 hlt4 hbx4
 obtain ⟨x0,x1,x2,x3,x4,x5,x6,x7⟩:=HX.out w4 (Below.refl _ _)
 go_upto_region 2 with fail
 clear hw4
 obtain ⟨w5,hw5⟩ : ∃ w5,((w4.alloc (.cells #[.int .u64 0,.int .u64 0,.int .u64 0,.int .u64 0] 24)).alloc (.cells #[.slice none 0 0] 39)).alloc (.cells #[.int .i64 r.kind,.int .u64 (r.set 0:Nat),.int .u64 (r.set 1:Nat),.int .u64 (r.set 2:Nat),.int .u64 (r.set 3:Nat),.slice ra rn rc,.int .i64 r.lo,.int .i64 r.hi,.slice (some ⟨w4.heap.size,0,none⟩) 1 1,.slice none 0 0,.slice (some ⟨w4.heap.size+1,0,none⟩) 1 1] 35)=w5:=⟨_,rfl⟩
 have hb5:Below w4.heap.size w4 w5:=hw5▸(((Below.refl _ w4).alloc (Nat.le_refl _) _).alloc (by simp) _).alloc (by simp;omega) _
 have hs5:w5.heap.size=w4.heap.size+3:=by rw [← hw5];simp
 have hm5:MapS w5 w4.heap.size (w4.heap.size+2) [.int .i64 r.kind,.int .u64 (r.set 0:Nat),.int .u64 (r.set 1:Nat),.int .u64 (r.set 2:Nat),.int .u64 (r.set 3:Nat),.slice ra rn rc,.int .i64 r.lo,.int .i64 r.hi] pm0 (.slice (some ⟨w4.heap.size,0,none⟩) 1 1) (.slice none 0 0) (.slice (some ⟨w4.heap.size+1,0,none⟩) 1 1):=by
  rw [← hw5]
  refine ⟨?_,rfl,by omega,⟨?_,World.ownsRow_nil _ _ _ _,[.slice none 0 0],?_,fun i l hl=>?_⟩⟩
  ·have:=heap_alloc_new ((w4.alloc (.cells #[.int .u64 0,.int .u64 0,.int .u64 0,.int .u64 0] 24)).alloc (.cells #[.slice none 0 0] 39)) (.cells #[.int .i64 r.kind,.int .u64 (r.set 0:Nat),.int .u64 (r.set 1:Nat),.int .u64 (r.set 2:Nat),.int .u64 (r.set 3:Nat),.slice ra rn rc,.int .i64 r.lo,.int .i64 r.hi,.slice (some ⟨w4.heap.size,0,none⟩) 1 1,.slice none 0 0,.slice (some ⟨w4.heap.size+1,0,none⟩) 1 1] 35)
   rw [World.size_alloc,World.size_alloc] at this
   exact this
  ·have h1:=World.ownsRow_lit (e:=24) (size:=4) (base:=w4.heap.size) w4 #[.int .u64 0,.int .u64 0,.int .u64 0,.int .u64 0] 1 (Nat.le_refl _) (by decide) rfl
   exact own_chg h1 (((Chg.refl (fun _=>False) _).alloc _).alloc _) fun _ _=>id
  ·have h1:=World.ownsRow_lit (e:=39) (size:=1) (base:=w4.heap.size) (w4.alloc (.cells #[.int .u64 0,.int .u64 0,.int .u64 0,.int .u64 0] 24)) #[.slice none 0 0] 1 (by simp) (by decide) rfl
   rw [World.size_alloc] at h1
   exact own_chg h1 ((Chg.refl (fun _=>False) _).alloc _) fun _ _=>id
  ·cases i with
   | zero=>obtain rfl : []=l:=Option.some.inj hl;exact ⟨_,rfl,IntsR.none _ _⟩
   | succ i=>simp [pm0] at hl
 obtain ⟨L,hL⟩ : ∃ L,L=npV r [] 0:=⟨_,rfl⟩
 have hrz:szT (erase r)≤1000:=by rw [HR.out.1];have:=sim_sz (erase t);have:=HT.out.1;omega
 have HN:=Lib.hid (show Calls Tryd.prog 13 #[.agg #[.int .i64 r.kind,.int .u64 (r.set 0:Nat),.int .u64 (r.set 1:Nat),.int .u64 (r.set 2:Nat),.int .u64 (r.set 3:Nat),.slice ra rn rc,.int .i64 r.lo,.int .i64 r.hi],.slice none 0 0,.int .i64 0] w5 (NodE w5 w5.heap.size L) by
  have:=nodes_any 100000 (Nat.le_refl _) r [] (.slice none 0 0) 0 w5.heap.size w5 _ (by omega) (laid_low HR.out.2.1 (bhop HB4.out.2 hb5)) (IntsR.none _ _) (by simp;omega) (by omega) (Nat.le_refl _)
  rw [nodeAgg_v HR.out.2.2.1,← hL] at this
  exact this)
 have HM5:=Lib.hid (And.intro hm5 (And.intro hb5 hs5))
 obtain ⟨x0,x1,x2,x3,x4,x5,x6,x7⟩:=HX.out w5 hb5
 clear hm5 hb5
 go_upto_region 3 with fail
 clear hw5
 go_wp2_with fail
 go_at_call 13
 refine HN.out.mono ?_
 rintro e w6 ⟨⟨lv,pv,rfl,hlo,hpt⟩,hb6⟩
 obtain ⟨ln,hln⟩ : ∃ ln,ln=L.length:=⟨_,rfl⟩
 have hlnz:ln=szT (erase r):=by rw [hln,hL,np_len]
 have hln0:0<ln:=by rw [hlnz];exact sz_pos _
 have hln1:ln≤1000:=by omega
 rw [← hln] at hlo
 obtain ⟨lg,lc,hlv,_,_⟩:=hlo.form hln0
 subst hlv
 obtain ⟨vs,hvo,hvr⟩:=hpt.own
 rw [List.length_map,← hln] at hvo
 obtain ⟨pg,pc,hpv,_,_⟩:=hvo.form hln0
 subst hpv
 obtain ⟨N,hNd⟩ : ∃ N,N=nums (L.map Prod.fst) 0:=⟨_,rfl⟩
 have HL:=Lib.hid (And.intro hL (And.intro hln (And.intro hlo (And.intro hvo (And.intro hvr (And.intro hb6 hNd))))))
 have HNL:=Lib.hid (show N.length=ln by rw [hNd,nums_len,List.length_map,hln])
 have HZ:=Lib.hid (fun (W:World) (h:Chg (Qm w4.heap.size w5.heap.size) w6 W)=>show ZBM (w.heap.size+1) W by
  have l2:=(Array.getElem?_eq_some_iff.1 HB.out.2).1
  have h4:Below w2.heap.size w2 w4:=bhop HR.out.2.2.2 HB4.out.2
  have h6:Below w2.heap.size w2 w6:=bhop h4 (bhop HM5.out.2.1 hb6)
  have l6:w.heap.size+1<w6.heap.size:=Nat.lt_of_lt_of_le l2 h6.size
  exact (h.block _ l6 fun q=>by have:=q.1;have:=h4.size;omega).trans ((h6.block _ l2).trans HB.out.2))
 have HBW:=Lib.hid (fun (W:World) (h:Chg (Qm w4.heap.size w5.heap.size) w6 W)=>show Below w.heap.size w W by
  have h5:Below w.heap.size w w4:=HB4.out.1
  have h6:Below w.heap.size w w6:=bhop h5 (bhop HM5.out.2.1 hb6)
  exact ((Chg.of_below (R:=fun x=>w4.heap.size≤x) h6).trans h fun x hx q=>q.1).below (Nat.le_refl _) fun k hk e=>by have:=h5.size;omega)
 have HUM:=Lib.hid (show umapT (erase t)=addP pm0 N L by rw [umap_np HR.out.1,← hL,← hNd])
 have HLim:=Lib.hid (map_lim HT.out.2)
 have HA0:=Lib.hid (show OfA w4.heap.size w5.heap.size w6 [.int .i64 r.kind,.int .u64 (r.set 0:Nat),.int .u64 (r.set 1:Nat),.int .u64 (r.set 2:Nat),.int .u64 (r.set 3:Nat),.slice ra rn rc,.int .i64 r.lo,.int .i64 r.hi] N L (.slice (some ⟨w4.heap.size,0,none⟩) 1 1) (.slice (some ⟨w4.heap.size+1,0,none⟩) 1 1) L.length (.slice none 0 0) (.int .i64 0) w6 from
  ⟨0,.slice none 0 0,rfl,rfl,Nat.zero_le _,⟨World.ownsRow_nil _ _ _ _,by rw [mAB_zero];exact HM5.out.1.below hb6,(fun x hx=>by simp [Value.ownBlock] at hx),Chg.refl _ _⟩⟩)
 have q1:(0:Int)≤(ln:Int):=by omega
 have hs56:w5.heap.size≤w6.heap.size:=hb6.size
 have hab:w4.heap.size+2<w5.heap.size:=by omega
 clear hlo hpt hb6 hvo hvr hL hln hlnz hNd x0 x1 x2 x3 x4 x5 x6 x7 hrz
 go_wp2_with fail
 go_loopw [8,9] (fun nv x wr=>∃ n,OfA w4.heap.size w5.heap.size w6 [.int .i64 r.kind,.int .u64 (r.set 0:Nat),.int .u64 (r.set 1:Nat),.int .u64 (r.set 2:Nat),.int .u64 (r.set 3:Nat),.slice ra rn rc,.int .i64 r.lo,.int .i64 r.hi] N L (.slice (some ⟨w4.heap.size,0,none⟩) 1 1) (.slice (some ⟨w4.heap.size+1,0,none⟩) 1 1) n nv x wr) (fun nv x wr=>leastOf (fun n=>OfA w4.heap.size w5.heap.size w6 [.int .i64 r.kind,.int .u64 (r.set 0:Nat),.int .u64 (r.set 1:Nat),.int .u64 (r.set 2:Nat),.int .u64 (r.set 3:Nat),.slice ra rn rc,.int .i64 r.lo,.int .i64 r.hi] N L (.slice (some ⟨w4.heap.size,0,none⟩) 1 1) (.slice (some ⟨w4.heap.size+1,0,none⟩) 1 1) n nv x wr))
 case atStart=>exact ⟨_,HA0.out⟩
 case round =>
  have hls:=(leastOf_spec hrel).1
  obtain ⟨i,cv,rfl,hN2,hi1,hA⟩:=hls
  have s1:(0:Int)≤(i:Int):=by omega
  obtain ⟨nA,nC,hnv⟩:=own_form hA.num
  subst hnv
  by_cases g4:i<ln
  ·have s2:(i:Int)<(ln:Int):=by omega
   obtain ⟨q,hq⟩ : ∃ q,L[i]? = some q:=⟨_,List.getElem?_eq_getElem (by have:=HL.out.2.1;omega)⟩
   obtain ⟨u,hu⟩ : ∃ u,u=q.1:=⟨_,rfl⟩
   have hqm:=List.mem_of_getElem? hq
   have hsub:Sub u r:=by rw [hu];exact np_sub r [] 0 q (by rw [← HL.out.1];exact hqm)
   have hul:=hsub.laid HR.out.2.1
   have huk:okF u:=hsub.ok (show okT (erase r)=true by rw [HR.out.1];exact (sim_ws _ HT.out.2).ok)
   obtain ⟨ua,un,uc,huv⟩:=hul.slice
   have hlor:=own_far HL.out.2.2.1 (Nat.le_refl _) hA.chg
   have hcell:=node_at hlor (by rw [List.length_map];exact HL.out.2.1) (show (L.map Prod.fst)[i]? = some u by rw [List.getElem?_map,hq,hu];rfl)
   have y0:wr.cell? ⟨lg,i * 8,none⟩=some (.int .i64 u.kind):=hcell 0 _ rfl
   have y1:wr.cell? ⟨lg,i * 8+1,none⟩=some (.int .u64 (u.set 0:Nat)):=hcell 1 _ rfl
   have y2:wr.cell? ⟨lg,i * 8+2,none⟩=some (.int .u64 (u.set 1:Nat)):=hcell 2 _ rfl
   have y3:wr.cell? ⟨lg,i * 8+3,none⟩=some (.int .u64 (u.set 2:Nat)):=hcell 3 _ rfl
   have y4:wr.cell? ⟨lg,i * 8+4,none⟩=some (.int .u64 (u.set 3:Nat)):=hcell 4 _ rfl
   have y5:wr.cell? ⟨lg,i * 8+5,none⟩=some (.slice ua un uc):=hcell 5 _ (by rw [← huv];rfl)
   have y6:wr.cell? ⟨lg,i * 8+6,none⟩=some (.int .i64 u.lo):=hcell 6 _ rfl
   have y7:wr.cell? ⟨lg,i * 8+7,none⟩=some (.int .i64 u.hi):=hcell 7 _ rfl
   have HCo:=Lib.hid (show Calls Tryd.prog 14 #[.agg #[.int .i64 u.kind,.int .u64 (u.set 0:Nat),.int .u64 (u.set 1:Nat),.int .u64 (u.set 2:Nat),.int .u64 (u.set 3:Nat),.slice ua un uc,.int .i64 u.lo,.int .i64 u.hi]] wr _ by
    have:=refCounts_t u wr huk
    rw [huv] at this
    exact this)
   have hw6:w6.heap.size≤wr.heap.size:=hA.chg.size
   have HI:=Lib.hid (And.intro hA (And.intro hq (And.intro hu (And.intro hN2 (show i+1≤L.length by have:=HL.out.2.1;omega)))))
   clear hA hq hu hN2 hi1 hrel hqm hsub hul huk huv hlor hcell
   go_wp2_with fail
   go_at_call 14
   refine HCo.out.mono ?_
   rintro e wb ⟨rfl,hbb⟩
   obtain ⟨wc,hwc⟩ : ∃ wc,wb.alloc (.cells #[.int .i64 (max 1 u.lo),.int .i64 u.hi] 59)=wc:=⟨_,rfl⟩
   have hbc:Below wr.heap.size wr wc:=bhop hbb (hwc▸(Below.refl _ wb).alloc (Nat.le_refl _) _)
   have hbx:wc.heap[wb.heap.size]? = some (.cells #[.int .i64 (max 1 u.lo),.int .i64 u.hi] 59 (0,0)):=hwc▸heap_alloc_new wb _
   have hwb:wr.heap.size≤wb.heap.size:=hbb.size
   have hwbc:wb.heap.size<wc.heap.size:=(Array.getElem?_eq_some_iff.1 hbx).1
   have HC:=Lib.hid (And.intro hbc (And.intro hbx (own_chg HI.out.1.num (Chg.of_below (R:=fun _=>False) hbc) fun _ _=>id)))
   clear hbb hbc hbx y0 y1 y2 y3 y4 y5 y6 y7
   go_upto_region 9 with fail
   clear hwc
   go_wp2_with ((at_builtin;refine wpList_append_lies _ (by rfl) _ _ 39 (by rfl) w6.heap.size 3 i0 _ 1 8 Tryd.underlying39 hi hz0 hz1 hz2 rfl (by decide) (.slice nA i nC) i (intz (nums ((L.map Prod.fst).take i) 0)) (by rfl) (HC.out.2.2.alloc _) ⟨wc.heap.size,0,none⟩ 1 1 [.int .i64 (-1)] (by rfl) ?c0 ?c1 ?c2 (by decide) ?c3 ?c4 ?c5 _ rfl ?_))
   case c0=>rfl
   case c1=>exact World.news_of_block (heap_alloc_new wc (.cells #[.int .i64 (-1)] 3))
   case c2=>intro v hv;rw [List.mem_singleton.1 hv];rfl
   case c3=>unfold maxLen;omega
   case c4=>omega
   case c5=>simp;omega
   intro g8 cap8 wd hown8 hgrow8 hat8 hlt8
   have hcd:Chg (fun x=>(Value.slice nA i nC).ownBlock=some x) wr wd:=((Chg.of_below HC.out.1).alloc _).grown hgrow8 fun k hk _=>hk
   have hbd:wd.heap[wb.heap.size]? = some (.cells #[.int .i64 (max 1 u.lo),.int .i64 u.hi] 59 (0,0)):=(hgrow8.block _ (by simp;omega) (fun e=>by have:=(HI.out.1.num.lt _ e.symm).2;omega)).trans ((Below.heap_alloc _ _ _ hwbc).trans HC.out.2.1)
   cases hc:cntV u with
   | false =>
    have hc':cnt4 u.kind u.lo u.hi=false:=hc
    have HQ:=Lib.hid (show OfA w4.heap.size w5.heap.size w6 [.int .i64 r.kind,.int .u64 (r.set 0:Nat),.int .u64 (r.set 1:Nat),.int .u64 (r.set 2:Nat),.int .u64 (r.set 3:Nat),.slice ra rn rc,.int .i64 r.lo,.int .i64 r.hi] N L (.slice (some ⟨w4.heap.size,0,none⟩) 1 1) (.slice (some ⟨w4.heap.size+1,0,none⟩) 1 1) (L.length - (i+1)) (.slice (some ⟨g8,0,none⟩) (i+1) cap8) (.int .i64 ((i:Int)+1)) wd from
     ⟨i+1,cv,by push_cast;rfl,rfl,HI.out.2.2.2.2,HI.out.1.skip hcd hown8 HI.out.2.1 (by rw [← HI.out.2.2.1];exact hc)⟩)
    rw [hc']
    clear hown8 hgrow8 hat8 hlt8 hcd hbd hc
    go_wp2_with fail
    go_roundw
    case rel=>exact ⟨_,HQ.out⟩
    case measure =>
     rw [HI.out.2.2.2.1]
     refine Nat.lt_of_le_of_lt ((leastOf_spec ⟨_,HQ.out⟩).2 _ HQ.out) ?_
     have:=HI.out.2.2.2.2
     omega
   | true =>
    have hc':cnt4 u.kind u.lo u.hi=true:=hc
    rw [hc']
    obtain ⟨hmd,hmc⟩:=HI.out.1.num1 hcd
    obtain ⟨cA,cC,hcv⟩:=own_form hmd.lists.scs
    obtain ⟨cn,hcn⟩ : ∃ cn,cn=(mAB N L i 0).scs.length:=⟨_,rfl⟩
    rw [← hcn] at hcv
    subst hcv
    have hcnl:cn≤1000:=by rw [hcn];have:=(mAB_sets N L i 0).2.2;omega
    have m9:wd.cell? ⟨w4.heap.size+1+1,9,none⟩=some (.slice cA cn cC):=hmd.cell.2.1
    have z1:wd.cell? ⟨g8,i,none⟩=some (.int .i64 (-1)):=by
     rw [hown8.cellAt i (by omega),List.getElem?_append_right (by rw [intz_len,nums_len,List.length_take,List.length_map];omega),intz_len,nums_len,List.length_take,List.length_map,Nat.min_eq_left (by have:=HI.out.2.2.2.2;omega),Nat.sub_self]
     rfl
    have z2:wd.frozen? ⟨g8,i,none⟩=false:=hown8.frozenAt _
    have hst:=(hown8.stored i (.int .i64 (cn:Nat))).1
    have hg6:w6.heap.size≤g8:=(hown8.lt g8 rfl).1
    have hg8:g8<wd.heap.size:=hlt8
    obtain ⟨we,hwe⟩ : ∃ we,wd.setCell ⟨g8,i,none⟩ (.int .i64 (cn:Nat))=we:=⟨_,rfl⟩
    have hse:we.heap.size=wd.heap.size:=by rw [← hwe];simp [World.setCell]
    have hce:Chg (fun x=>(Value.slice nA i nC).ownBlock=some x) wr we:=by
     rw [← hwe]
     refine hcd.setCell (p:=⟨g8,i,none⟩) (fun h=>?_) _
     rcases hat8 with h8 | h8
     ·exact h8
     ·have:wr.heap.size≤g8:=by first | omega | (simp at h8;omega)
      exact absurd h (by show ¬ g8<_;omega)
    rw [hwe] at hst
    have hbe:we.heap[wb.heap.size]? = some (.cells #[.int .i64 (max 1 u.lo),.int .i64 u.hi] 59 (0,0)):=by
     rw [← hwe]
     refine (Below.heap_setCell _ _ _ _ (fun e=>?_)).trans hbd
     have h1:=own_ty hown8 (x:=g8) rfl
     have h2:TyB wd g8 59:=⟨_,_,by rw [← show wb.heap.size=g8 from e];exact hbd⟩
     have:=h1.eq h2
     revert this;decide
    obtain ⟨hme,hmf⟩:=HI.out.1.num1 hce
    have n9:we.cell? ⟨w4.heap.size+1+1,9,none⟩=some (.slice cA cn cC):=hme.cell.2.1
    have n9f:we.frozen? ⟨w4.heap.size+1+1,9,none⟩=false:=hme.fz 9
    obtain ⟨v0,v1⟩:=cells2 hbe
    have hne9:(Value.slice cA cn cC).ownBlock≠some (w4.heap.size+1+1):=fun e=>by have:=hme.ty.eq (own_ty hme.lists.scs e);revert this;decide
    have hmlt:w4.heap.size+1+1<we.heap.size:=hme.ty.lt
    have HD:=Lib.hid (And.intro hce (And.intro hst (And.intro hme (And.intro hmf (And.intro hcn (show Chg (fun x=>(Value.slice cA cn cC).ownBlock=some x) we (we.alloc (.cells #[.int .i64 (max 1 u.lo),.int .i64 u.hi] 59)) from (Chg.refl _ we).alloc _))))))
    have HK:=Lib.hid (show we.ownsRow w4.heap.size 59 2 (.slice cA cn cC) cn ((mAB N L i 0).scs.flatMap sc2) by have:=hme.lists.scs;rwa [← hcn] at this)
    have HCC:=Lib.hid hc
    have hw6e:w6.heap.size≤we.heap.size:=Nat.le_trans hw6 hce.size
    clear hown8 hgrow8 hat8 hlt8 hcd hbd hc hmd hmc hst hme hmf hcn hce hbe hse
    go_upto_region 12 with fail
    try rw [hwe]
    clear hwe
    go_wp2_with ((at_builtin;refine wpList_append_lies _ (by rfl) _ _ 32 (by rfl) w4.heap.size 59 l0 _ 2 16 Tryd.underlying32 hl hv0 hv1 hv2 rfl (by decide) (.slice cA cn cC) cn ((mAB N L i 0).scs.flatMap sc2) (by rfl) (HK.out.alloc _) ⟨we.heap.size,0,none⟩ 1 1 [.int .i64 (max 1 u.lo),.int .i64 u.hi] (by rfl) ?c0 ?c1 ?c2 (by decide) ?c3 ?c4 ?c5 _ rfl ?_))
    case c0=>rfl
    case c1=>exact World.news_of_block (heap_alloc_new we (.cells #[.int .i64 (max 1 u.lo),.int .i64 u.hi] 59))
    case c2=>intro v hv;simp at hv;rcases hv with rfl | rfl <;> rfl
    case c3=>unfold maxLen;omega
    case c4=>omega
    case c5=>simp;omega
    intro g9 cap9 w9 hown9 hgrow9 hat9 hlt9
    have hc9:Chg (fun x=>(Value.slice cA cn cC).ownBlock=some x) we w9:=HD.out.2.2.2.2.2.grown hgrow9 fun k hk _=>hk
    have m8:w9.cell? ⟨w4.heap.size+1+1,9,none⟩=some (.slice cA cn cC):=(hc9.cell 9 hmlt hne9).trans n9
    have m8f:w9.frozen? ⟨w4.heap.size+1+1,9,none⟩=false:=(hc9.frozen 9 hmlt hne9).trans n9f
    have HQ:=Lib.hid (show OfA w4.heap.size w5.heap.size w6 [.int .i64 r.kind,.int .u64 (r.set 0:Nat),.int .u64 (r.set 1:Nat),.int .u64 (r.set 2:Nat),.int .u64 (r.set 3:Nat),.slice ra rn rc,.int .i64 r.lo,.int .i64 r.hi] N L (.slice (some ⟨w4.heap.size,0,none⟩) 1 1) (.slice (some ⟨w4.heap.size+1,0,none⟩) 1 1) (L.length - (i+1)) (.slice (some ⟨g8,0,none⟩) (i+1) cap8) (.int .i64 ((i:Int)+1)) (w9.setCell ⟨w4.heap.size+2,9,none⟩ (.slice (some ⟨g9,0,none⟩) (cn+1) cap9)) from by
     have hst:=HD.out.2.1
     rw [List.set_append_right _ _ (by rw [intz_len,nums_len,List.length_take,List.length_map];omega),intz_len,nums_len,List.length_take,List.length_map,Nat.min_eq_left (by have:=HI.out.2.2.2.2;omega),Nat.sub_self] at hst
     refine ⟨i+1,_,by push_cast;rfl,rfl,HI.out.2.2.2.2,HI.out.1.step HD.out.1 (by rw [← HD.out.2.2.2.2.1];exact hst) HI.out.2.1 (by rw [← HI.out.2.2.1];exact HCC.out) hc9 (by rw [← HI.out.2.2.1,← HD.out.2.2.2.2.1];exact hown9) (fun x hx=>?_) hab⟩
     obtain rfl:g9=x:=Option.some.inj hx
     rcases hat9 with h9 | h9
     ·exact HI.out.1.out g9 h9
     ·right;first | omega | (simp at h9;omega))
    clear hown9 hgrow9 hat9 hlt9 hc9 n9 n9f v0 v1 m9 z1 z2
    go_wp2_with fail
    go_roundw
    case rel=>exact ⟨_,HQ.out⟩
    case measure =>
     rw [HI.out.2.2.2.1]
     refine Nat.lt_of_le_of_lt ((leastOf_spec ⟨_,HQ.out⟩).2 _ HQ.out) ?_
     have:=HI.out.2.2.2.2
     omega
  ·have s2:¬ (i:Int)<(ln:Int):=by omega
   have hin:i=L.length:=by have:=HL.out.2.1;omega
   have HIN:=Lib.hid hin
   have hi0:0<i:=by omega
   have hi7:i≤1000:=by have:=HL.out.2.1;omega
   obtain ⟨ng,ngc,hngv,_,_⟩:=hA.num.form hi0
   simp only [Value.slice.injEq] at hngv
   obtain ⟨rfl,rfl⟩:=And.intro hngv.1 hngv.2.2
   obtain ⟨cA,cC,hcv⟩:=own_form hA.map.lists.scs
   subst hcv
   obtain ⟨cn,hcn⟩ : ∃ cn,cn=(mAB N L i 0).scs.length:=⟨_,rfl⟩
   rw [← hcn] at hA
   have hcnl:cn≤1000:=by rw [hcn];have:=(mAB_sets N L i 0).2.2;omega
   have HB0:=Lib.hid (show OfB w4.heap.size w5.heap.size w6 [.int .i64 r.kind,.int .u64 (r.set 0:Nat),.int .u64 (r.set 1:Nat),.int .u64 (r.set 2:Nat),.int .u64 (r.set 3:Nat),.slice ra rn rc,.int .i64 r.lo,.int .i64 r.hi] N L (.slice (some ⟨ng,0,none⟩) i nC) (.slice cA cn cC) L.length (.int .i64 0) wr from
    ⟨0,.slice (some ⟨w4.heap.size,0,none⟩) 1 1,.slice (some ⟨w4.heap.size+1,0,none⟩) 1 1,rfl,rfl,Nat.zero_le _,⟨by have:=hA.num;rw [hin,List.take_of_length_le (by rw [List.length_map];exact Nat.le_refl _),← HL.out.2.2.2.2.2.2] at this;rw [hin];exact this,by have:=hA.map;rw [hin] at this;exact this,(fun x hx=>.inl (by have:w4.heap.size=x:=Option.some.inj hx;omega)),(fun x hx=>.inl (by have:w4.heap.size+1=x:=Option.some.inj hx;omega)),hA.chg,fun q hq=>by simp at hq⟩⟩)
   have qi:(0:Int)≤(i:Int):=by omega
   clear hA hin hN2 hi1 hrel g4 hngv hcn
   go_wp2_with fail
   go_loopw [12] (fun x wr=>∃ n,OfB w4.heap.size w5.heap.size w6 [.int .i64 r.kind,.int .u64 (r.set 0:Nat),.int .u64 (r.set 1:Nat),.int .u64 (r.set 2:Nat),.int .u64 (r.set 3:Nat),.slice ra rn rc,.int .i64 r.lo,.int .i64 r.hi] N L (.slice (some ⟨ng,0,none⟩) i nC) (.slice cA cn cC) n x wr) (fun x wr=>leastOf (fun n=>OfB w4.heap.size w5.heap.size w6 [.int .i64 r.kind,.int .u64 (r.set 0:Nat),.int .u64 (r.set 1:Nat),.int .u64 (r.set 2:Nat),.int .u64 (r.set 3:Nat),.slice ra rn rc,.int .i64 r.lo,.int .i64 r.hi] N L (.slice (some ⟨ng,0,none⟩) i nC) (.slice cA cn cC) n x wr))
   case atStart=>exact ⟨_,HB0.out⟩
   case round =>
    have hls:=(leastOf_spec hrel).1
    obtain ⟨j,sv,av,rfl,hN2,hj1,hBB⟩:=hls
    have t1:(0:Int)≤(j:Int):=by omega
    by_cases g4:j<ln
    ·have t2:(j:Int)<(ln:Int):=by omega
     obtain ⟨q,hq⟩ : ∃ q,L[j]? = some q:=⟨_,List.getElem?_eq_getElem (by have:=HL.out.2.1;omega)⟩
     obtain ⟨u,hu⟩ : ∃ u,u=q.1:=⟨_,rfl⟩
     have hqm:q∈npV r [] 0:=by rw [← HL.out.1];exact List.mem_of_getElem? hq
     have hul:=(show Sub u r by rw [hu];exact np_sub r [] 0 q hqm).laid HR.out.2.1
     obtain ⟨ua,un,uc,huv⟩:=hul.slice
     have hlor:=own_far HL.out.2.2.1 (Nat.le_refl _) hBB.chg
     have hcell:=node_at hlor (by rw [List.length_map];exact HL.out.2.1) (show (L.map Prod.fst)[j]? = some u by rw [List.getElem?_map,hq,hu];rfl)
     have hlgl:=(hlor.lt lg rfl).2
     have y0:wr.cell? ⟨lg,j * 8,none⟩=some (.int .i64 u.kind):=hcell 0 _ rfl
     have y1:wr.cell? ⟨lg,j * 8+1,none⟩=some (.int .u64 (u.set 0:Nat)):=hcell 1 _ rfl
     have y2:wr.cell? ⟨lg,j * 8+2,none⟩=some (.int .u64 (u.set 1:Nat)):=hcell 2 _ rfl
     have y3:wr.cell? ⟨lg,j * 8+3,none⟩=some (.int .u64 (u.set 2:Nat)):=hcell 3 _ rfl
     have y4:wr.cell? ⟨lg,j * 8+4,none⟩=some (.int .u64 (u.set 3:Nat)):=hcell 4 _ rfl
     have y5:wr.cell? ⟨lg,j * 8+5,none⟩=some (.slice ua un uc):=hcell 5 _ (by rw [← huv];rfl)
     have y6:wr.cell? ⟨lg,j * 8+6,none⟩=some (.int .i64 u.lo):=hcell 6 _ rfl
     have y7:wr.cell? ⟨lg,j * 8+7,none⟩=some (.int .i64 u.hi):=hcell 7 _ rfl
     have hw6:w6.heap.size≤wr.heap.size:=hBB.chg.size
     have HI:=Lib.hid (And.intro hBB (And.intro hq (And.intro hu (And.intro hN2 (And.intro (show j+1≤L.length by have:=HL.out.2.1;omega) hcell)))))
     have HM:=Lib.hid (show ∀ (sv' av':Value) (W:World),OfB0 w4.heap.size w5.heap.size w6 [.int .i64 r.kind,.int .u64 (r.set 0:Nat),.int .u64 (r.set 1:Nat),.int .u64 (r.set 2:Nat),.int .u64 (r.set 3:Nat),.slice ra rn rc,.int .i64 r.lo,.int .i64 r.hi] N L (.slice (some ⟨ng,0,none⟩) i nC) (.slice cA cn cC) (j+1) sv' av' W→OfB w4.heap.size w5.heap.size w6 [.int .i64 r.kind,.int .u64 (r.set 0:Nat),.int .u64 (r.set 1:Nat),.int .u64 (r.set 2:Nat),.int .u64 (r.set 3:Nat),.slice ra rn rc,.int .i64 r.lo,.int .i64 r.hi] N L (.slice (some ⟨ng,0,none⟩) i nC) (.slice cA cn cC) (L.length - (j+1)) (.int .i64 ((j:Int)+1)) W from fun sv' av' W h=>⟨j+1,sv',av',by push_cast;rfl,rfl,HI.out.2.2.2.2.1,h⟩)
     clear hu hN2 hj1 hrel hul huv hlor
     by_cases hk:u.kind=1
     ·have k1:(u.kind != 1)=false:=by simp [hk]
      have he:=fun W=>equal_zero u.set W
      cases hz:z4 u.set with
      | true =>
       rw [hz] at he
       have HQ:=Lib.hid (show OfB w4.heap.size w5.heap.size w6 [.int .i64 r.kind,.int .u64 (r.set 0:Nat),.int .u64 (r.set 1:Nat),.int .u64 (r.set 2:Nat),.int .u64 (r.set 3:Nat),.slice ra rn rc,.int .i64 r.lo,.int .i64 r.hi] N L (.slice (some ⟨ng,0,none⟩) i nC) (.slice cA cn cC) (L.length - (j+1)) (.int .i64 ((j:Int)+1)) wr from HM.out _ _ _ (hBB.skip (Below.refl _ _) hq (by rw [← HI.out.2.2.1];unfold posV isPos;rw [hz];simp)))
       clear hBB hq hqm hk hz hcell
       go_wp2_with fail
       go_roundw
       case rel=>exact ⟨_,HQ.out⟩
       case measure =>
        rw [HI.out.2.2.2.1]
        refine Nat.lt_of_le_of_lt ((leastOf_spec ⟨_,HQ.out⟩).2 _ HQ.out) ?_
        have:=HI.out.2.2.2.2.1
        omega
      | false =>
       rw [hz] at he
       have HPo:=Lib.hid (show posV q.1=true by rw [← HI.out.2.2.1];unfold posV isPos;rw [hz,hk];rfl)
       obtain ⟨p,hp⟩ : ∃ p,p=q.2:=⟨_,rfl⟩
       obtain ⟨pu,hpu,hpr⟩:=HL.out.2.2.2.2.1 j q.2 (by rw [List.getElem?_map,hq];rfl)
       rw [← hp] at hpr
       have hpl:p.length≤1000:=by
        have h1:=np_dep r [] 0 q hqm
        have h2:szT (erase r)≤1000:=by rw [HR.out.1];have:=sim_sz (erase t);have:=HT.out.1;omega
        rw [← hp] at h1
        simp at h1
        omega
       have hplt:∀ x∈p,x<i:=fun x hx=>by
        have:=np_lt r [] 0 (fun y hy=>by cases hy) j q (by rw [← HL.out.1];exact hq) x (by rw [← hp];exact hx)
        have h2:=HIN.out
        have h3:=HL.out.2.1
        omega
       obtain ⟨pA,pC,hpf⟩:=hpr.form
       obtain ⟨pl,hple⟩ : ∃ pl,pl=p.length:=⟨_,rfl⟩
       rw [← hple] at hpf
       subst hpf
       have hvor:=own_far HL.out.2.2.2.1 (Nat.le_refl _) hBB.chg
       have r0:wr.cell? ⟨pg,j,none⟩=some (.slice pA pl pC):=by rw [hvor.cellAt j (by omega)];exact hpu
       have hpgl:=(hvor.lt pg rfl).2
       have hpr':IntsR wr w5.heap.size (.slice pA pl pC) p:=⟨own_far hpr.own (Nat.le_refl _) hBB.chg,hpr.nil⟩
       have hnum:=hBB.num
       rw [← HIN.out] at hnum
       have hngl:=(hnum.lt ng rfl).2
       have hlN:N.length=i:=by rw [HNL.out,HL.out.2.1,HIN.out]
       have HPa:=Lib.hid (And.intro hpr' (And.intro hplt (And.intro hple (And.intro hnum (And.intro hlN hp)))))
       have hpl7:pl≤1000:=by omega
       have qp:(0:Int)≤(pl:Int):=by omega
       obtain ⟨wa,hwa⟩ : ∃ wa,wa=wr:=⟨_,rfl⟩
       subst hwa
       have HC0:=Lib.hid (show OfC wa N p p.length (.slice none 0 0) (.int .i64 0) wa from ⟨0,rfl,rfl,Nat.zero_le _,by rw [List.take_zero];exact IntsR.none _ _,Below.refl _ _⟩)
       clear hBB hq hqm hk hz hcell hpr hpu hpr' hplt hple hnum hlN hp hpl hvor
       go_wp2_with fail
       go_loopw [13,14] (fun v x wr=>∃ n,OfC wa N p n v x wr) (fun v x wr=>leastOf (fun n=>OfC wa N p n v x wr))
       case atStart=>exact ⟨_,HC0.out⟩
       case round =>
        have hls:=(leastOf_spec hrel).1
        obtain ⟨k,rfl,hN3,hk1,hv,hbk⟩:=hls
        have u1:(0:Int)≤(k:Int):=by omega
        have r1:wr.cell? ⟨pg,j,none⟩=some (.slice pA pl pC):=(hbk.cell (p:=⟨pg,j,none⟩) hpgl).trans r0
        obtain ⟨vA,vC,hvf⟩:=hv.form
        obtain ⟨vn,hvn⟩ : ∃ vn,vn=(aroundOf N (p.take k)).length:=⟨_,rfl⟩
        rw [← hvn] at hvf
        subst hvf
        have hvn7:vn≤1000:=by rw [hvn];have:=around_len N (p.take k);rw [List.length_take] at this;have:=HPa.out.2.2.1;omega
        clear r0 y0 y1 y2 y3 y4 y5 y6 y7
        by_cases g5:k<pl
        ·have u2:(k:Int)<(pl:Int):=by omega
         obtain ⟨m,hm⟩ : ∃ m,p[k]? = some m:=⟨_,List.getElem?_eq_getElem (by have:=HPa.out.2.2.1;omega)⟩
         obtain ⟨kg,kc,hkv,hkg,hkc,_⟩:=intsR_at (HPa.out.1.below hbk) hm
         simp only [Value.slice.injEq] at hkv
         obtain ⟨rfl,rfl⟩:=And.intro hkv.1 hkv.2.2
         have hmi:=HPa.out.2.1 m (List.mem_of_getElem? hm)
         obtain ⟨y,hy⟩ : ∃ y,N[m]? = some y:=⟨_,List.getElem?_eq_getElem (by have:=HPa.out.2.2.2.2.1;omega)⟩
         have hnc:wr.cell? ⟨ng,m,none⟩=some (.int .i64 y):=by
          have h1:=(own_chg HPa.out.2.2.2.1 (Chg.of_below (R:=fun _=>False) hbk) fun _ _=>id).cellAt m (by omega)
          rw [h1,intz,List.getElem?_map,hy]
          rfl
         have u3:(0:Int)≤(m:Int):=by omega
         have u4:(m:Int)<(i:Int):=by omega
         have HK:=Lib.hid (And.intro hv (And.intro hbk (And.intro hN3 (And.intro (show k+1≤p.length by have:=HPa.out.2.2.1;omega) (And.intro (around_take (N:=N) hm hy) hvn)))))
         clear hv hbk hN3 hk1 hrel hm hy hmi hkv hvn
         by_cases g6:0≤y
         ·have hyn:y=((y.toNat:Nat):Int):=(Int.toNat_of_nonneg g6).symm
          have HY:=Lib.hid hyn
          have HE:=Lib.hid (show aroundOf N (p.take (k+1))=aroundOf N (p.take k) ++ [y.toNat] by rw [HK.out.2.2.2.2.1,if_pos g6])
          clear hyn
          have HO:=Lib.hid (show wr.ownsRow wa.heap.size 3 1 (.slice vA vn vC) vn (ints (aroundOf N (p.take k))) by have:=HK.out.1.own;rwa [← HK.out.2.2.2.2.2] at this)
          have hwar:wa.heap.size≤wr.heap.size:=HK.out.2.1.size
          go_wp2_with ((at_builtin;refine wpList_append_lies _ (by rfl) _ _ 39 (by rfl) wa.heap.size 3 i0 _ 1 8 Tryd.underlying39 hi hz0 hz1 hz2 rfl (by decide) (.slice vA vn vC) vn (ints (aroundOf N (p.take k))) (by rfl) (HO.out.alloc _) ⟨wr.heap.size,0,none⟩ 1 1 [.int .i64 y] (by rfl) ?c0 ?c1 ?c2 (by decide) ?c3 ?c4 ?c5 _ rfl ?_))
          case c0=>rfl
          case c1=>exact World.news_of_block (heap_alloc_new wr (.cells #[.int .i64 y] 3))
          case c2=>intro v hv;rw [List.mem_singleton.1 hv];rfl
          case c3=>unfold maxLen;omega
          case c4=>omega
          case c5=>first | omega | (simp;omega)
          intro g8 cap8 wd hown8 hgrow8 hat8 hlt8
          have HQ:=Lib.hid (show OfC wa N p (p.length - (k+1)) (.slice (some ⟨g8,0,none⟩) (vn+1) cap8) (.int .i64 ((k:Int)+1)) wd from ⟨k+1,by push_cast;rfl,rfl,HK.out.2.2.2.1,⟨by
           rw [HE.out,ints_snoc,List.length_append,List.length_singleton,← HK.out.2.2.2.2.2,← HY.out]
           exact hown8,fun e=>by rw [HE.out] at e;simp at e⟩,(((Chg.of_below (R:=fun x=>wa.heap.size≤x) HK.out.2.1).alloc _).grown hgrow8 fun k hk _=>(HO.out.lt k hk).1).below (Nat.le_refl _) fun k hk e=>by omega⟩)
          clear hown8 hgrow8 hat8 hlt8
          go_wp2_with fail
          go_roundw
          case rel=>exact ⟨_,HQ.out⟩
          case measure =>
           rw [HK.out.2.2.1]
           refine Nat.lt_of_le_of_lt ((leastOf_spec ⟨_,HQ.out⟩).2 _ HQ.out) ?_
           have:=HK.out.2.2.2.1
           omega
         ·have HQ:=Lib.hid (show OfC wa N p (p.length - (k+1)) (.slice vA vn vC) (.int .i64 ((k:Int)+1)) wr from ⟨k+1,by push_cast;rfl,rfl,HK.out.2.2.2.1,by rw [HK.out.2.2.2.2.1,if_neg g6,List.append_nil];exact HK.out.1,HK.out.2.1⟩)
          go_wp2_with fail
          go_roundw
          case rel=>exact ⟨_,HQ.out⟩
          case measure =>
           rw [HK.out.2.2.1]
           refine Nat.lt_of_le_of_lt ((leastOf_spec ⟨_,HQ.out⟩).2 _ HQ.out) ?_
           have:=HK.out.2.2.2.1
           omega
        ·have u2:¬ (k:Int)<(pl:Int):=by omega
         have hkp:k=p.length:=by have:=HPa.out.2.2.1;omega
         have hvd:IntsR wr wa.heap.size (.slice vA vn vC) (aroundOf N q.2):=by have:=hv;rwa [hkp,List.take_length,HPa.out.2.2.2.2.2] at this
         have hvl:vn=(aroundOf N q.2).length:=by rw [hvn,hkp,List.take_length,HPa.out.2.2.2.2.2]
         have HV:=Lib.hid (And.intro hvd (And.intro hvl hbk))
         clear hv hN3 hk1 hrel hvn hkp hvd hvl
         by_cases g6:4<vn
         ·have u3:(4:Int)<(vn:Int):=by omega
          have HCw:=Lib.hid (HI.out.1.chg.trans (Chg.of_below (R:=fun _=>False) HV.out.2.2) fun _ _ e=>e.elim)
          have hzr:=HZ.out wr HCw.out
          have HBt:=Lib.hid (HBW.out wr HCw.out)
          have HNo:=Lib.hid (show mapT (simT (erase t))=none from HLim.out.1 (by rw [HUM.out];exact mAB_big.2 (.inr ⟨q,List.mem_of_getElem? HI.out.2.1,HPo.out,by rw [← HV.out.2.1];exact g6⟩)))
          clear g6
          obtain ⟨⟨z0,z1,z2,z3,z4,z5,z6,z7,z8,z9,z10⟩,hfz,hzl⟩:=hzr.cells
          have f0:=hfz 0;have f1:=hfz 1;have f2:=hfz 2;have f3:=hfz 3;have f4:=hfz 4;have f5:=hfz 5;have f6:=hfz 6;have f7:=hfz 7;have f8:=hfz 8;have f9:=hfz 9;have f10:=hfz 10
          have HZR:=Lib.hid hzr
          clear hfz hzr
          go_wp2_with fail
          clear z0 z1 z2 z3 z4 z5 z6 z7 z8 z9 z10 f0 f1 f2 f3 f4 f5 f6 f7 f8 f9 f10
          have hf:=set11_heap HZR.out (.int .i64 0) (.int .u64 0) (.int .u64 0) (.int .u64 0) (.int .u64 0) (.slice none 0 0) (.int .i64 0) (.int .i64 0) (.slice none 0 0) (.slice none 0 0) (.slice none 0 0)
          have hch:=set11_chg wr (w.heap.size+1) (.int .i64 0) (.int .u64 0) (.int .u64 0) (.int .u64 0) (.int .u64 0) (.slice none 0 0) (.int .i64 0) (.int .i64 0) (.slice none 0 0) (.slice none 0 0) (.slice none 0 0)
          generalize (((((((((((wr.setCell ⟨w.heap.size+1,0,none⟩ (.int .i64 0)).setCell ⟨w.heap.size+1,1,none⟩ (.int .u64 0)).setCell ⟨w.heap.size+1,2,none⟩ (.int .u64 0)).setCell ⟨w.heap.size+1,3,none⟩ (.int .u64 0)).setCell ⟨w.heap.size+1,4,none⟩ (.int .u64 0)).setCell ⟨w.heap.size+1,5,none⟩ (.slice none 0 0)).setCell ⟨w.heap.size+1,6,none⟩ (.int .i64 0)).setCell ⟨w.heap.size+1,7,none⟩ (.int .i64 0)).setCell ⟨w.heap.size+1,8,none⟩ (.slice none 0 0)).setCell ⟨w.heap.size+1,9,none⟩ (.slice none 0 0)).setCell ⟨w.heap.size+1,10,none⟩ (.slice none 0 0))=w7 at *
          obtain ⟨rr,_⟩:=row_cells hf
          have r0:=rr 0;have r1:=rr 1;have r2:=rr 2;have r3:=rr 3;have r4:=rr 4;have r5:=rr 5;have r6:=rr 6;have r7:=rr 7;have r8:=rr 8;have r9:=rr 9;have r10:=rr 10
          refine bodyPost_ret (v:=.tuple #[.agg #[.int .i64 0,.int .u64 0,.int .u64 0,.int .u64 0,.int .u64 0,.slice none 0 0,.int .i64 0,.int .i64 0,.slice none 0 0,.slice none 0 0,.slice none 0 0],.int .i64 3]) (by simp [results,Tryd.results7,go_sem,r0,r1,r2,r3,r4,r5,r6,r7,r8,r9,r10]) rfl (ofU_none HNo.out (HBt.out.trans (hch.below (by have:=HBt.out.size;omega) fun k hk e=>by omega)))
         ·have u3:¬ (4:Int)<(vn:Int):=by omega
          have hMx:=HI.out.1.map.below HV.out.2.2
          obtain ⟨sA,sC,hsv⟩:=own_form hMx.lists.sets
          obtain ⟨sN,hsN⟩ : ∃ sN,sN=(mAB N L L.length j).sets.length:=⟨_,rfl⟩
          rw [← hsN] at hsv
          subst hsv
          have hsN7:sN≤1001:=by rw [hsN];have:=(mAB_sets N L L.length j).1;have:=HL.out.2.1;have:=HI.out.2.2.2.2.1;omega
          have g8:wr.cell? ⟨w4.heap.size+1+1,8,none⟩=some (.slice sA sN sC):=hMx.cell.1
          have k8:wr.frozen? ⟨w4.heap.size+1+1,8,none⟩=false:=hMx.fz 8
          have hm8:w4.heap.size+1+1<wr.heap.size:=hMx.ty.lt
          have hown:wr.ownsRow w4.heap.size 24 4 (.slice sA sN sC) sN ((mAB N L L.length j).sets.flatMap cls4):=by have:=hMx.lists.sets;rwa [← hsN] at this
          have hne1:(Value.slice sA sN sC).ownBlock≠some (w4.heap.size+1+1):=fun e=>by have:=hMx.ty.eq (own_ty hown e);revert this;decide
          have HMx:=Lib.hid (And.intro hMx (And.intro hown hsN))
          have HW:=Lib.hid (show Chg (fun _=>False) wr (wr.alloc (.cells #[.int .u64 (u.set 0:Nat),.int .u64 (u.set 1:Nat),.int .u64 (u.set 2:Nat),.int .u64 (u.set 3:Nat)] 24)).drew from ((Chg.refl _ _).alloc _).drew)
          have y1:wr.cell? ⟨lg,j * 8+1,none⟩=some (.int .u64 (u.set 0:Nat)):=(HV.out.2.2.cell (p:=⟨lg,_,none⟩) hlgl).trans (HI.out.2.2.2.2.2 1 _ rfl)
          have y2:wr.cell? ⟨lg,j * 8+2,none⟩=some (.int .u64 (u.set 1:Nat)):=(HV.out.2.2.cell (p:=⟨lg,_,none⟩) hlgl).trans (HI.out.2.2.2.2.2 2 _ rfl)
          have y3:wr.cell? ⟨lg,j * 8+3,none⟩=some (.int .u64 (u.set 2:Nat)):=(HV.out.2.2.cell (p:=⟨lg,_,none⟩) hlgl).trans (HI.out.2.2.2.2.2 3 _ rfl)
          have y4:wr.cell? ⟨lg,j * 8+4,none⟩=some (.int .u64 (u.set 3:Nat)):=(HV.out.2.2.cell (p:=⟨lg,_,none⟩) hlgl).trans (HI.out.2.2.2.2.2 4 _ rfl)
          have hwar:wa.heap.size≤wr.heap.size:=HV.out.2.2.size
          clear hMx hown hsN
          go_wp2_with fail
          go_region_law (refine step_append_lies _ rfl _ _ 31 rfl w4.heap.size 24 k0 _ 4 32 Tryd.underlying31 hk hx0 hx1 hx2 rfl (by decide) (.slice sA sN sC) sN ((mAB N L L.length j).sets.flatMap cls4) rfl ((HMx.out.2.1.alloc _).drew) ⟨wr.heap.size,0,none⟩ 1 1 [.int .u64 (u.set 0:Nat),.int .u64 (u.set 1:Nat),.int .u64 (u.set 2:Nat),.int .u64 (u.set 3:Nat)] rfl rfl (World.news_of_block (w:=(wr.alloc (.cells #[.int .u64 (u.set 0:Nat),.int .u64 (u.set 1:Nat),.int .u64 (u.set 2:Nat),.int .u64 (u.set 3:Nat)] 24)).drew) (heap_alloc_new wr _)) (by simp [Value.oneCell']) (by decide) (by unfold maxLen;omega) (by omega) (by simp;omega) _ rfl ?_;intro g cap w7 hown7 hgrow7 hat7 hlt7;obtain ⟨b1,b2,b3,b4,b5⟩:=app_field (x:=8) hgrow7 HW.out hm8 hne1 hat7 g8 k8;have HO:=Lib.hid (And.intro hown7 (And.intro hgrow7 (And.intro hat7 (And.intro hlt7 b5))));clear hown7 hgrow7 hat7 hlt7 b5)
          all_goals
           obtain ⟨hown7,hgrow7,hat7,hlt7,hmb7⟩:=HO.out
           have hc7:Chg (fun x=>(Value.slice sA sN sC).ownBlock=some x) wr w7:=(HW.out.mono fun b _ h=>h.elim).grown hgrow7 (fun k hk _=>hk)
           obtain ⟨w8,hw8⟩ : ∃ w8,w7.setCell ⟨w4.heap.size+1+1,8,none⟩ (.slice (some ⟨g,0,none⟩) (sN+1) cap)=w8:=⟨_,rfl⟩
           have hX:=(HMx.out.1.put8 hc7 (C:=u.set) (u:=.slice (some ⟨g,0,none⟩) (sN+1) cap) (by rw [← HMx.out.2.2];exact hown7)).1
           have hcm:Chg (fun x=>x=w4.heap.size+1+1∨(Value.slice sA sN sC).ownBlock=some x) wr w8:=hw8▸(hc7.mono fun x _ e=>.inr e).setCell (p:=⟨w4.heap.size+1+1,8,none⟩) (fun _=>.inl rfl) _
           rw [show w7.setCell ⟨w4.heap.size+2,8,none⟩ (.slice (some ⟨g,0,none⟩) (sN+1) cap)=w8 from hw8] at hX
           have hv8:IntsR w8 wa.heap.size (.slice vA vn vC) (aroundOf N q.2):=HV.out.1.keep hcm fun x e _ hty=>by
            rcases e with rfl | e
            ·have:=hty.eq HMx.out.1.ty;revert this;decide
            ·have:=hty.eq (own_ty HMx.out.2.1 e);revert this;decide
           obtain ⟨vz,hvz,hvzr⟩:=hX.lists.ars
           obtain ⟨aA,aC,hav⟩:=own_form hvz
           obtain ⟨aN,haN⟩ : ∃ aN,aN=(mAB N L L.length j).ars.length:=⟨_,rfl⟩
           replace hvz:w8.ownsRow w4.heap.size 39 1 av aN vz:=by rw [haN];exact hvz
           replace hav:av=.slice aA aN aC:=by rw [haN];exact hav
           subst hav
           have haN7:aN≤1001:=by rw [haN,(mAB_sets N L L.length j).2.1];have:=(mAB_sets N L L.length j).1;have:=HL.out.2.1;have:=HI.out.2.2.2.2.1;omega
           have n10:w8.cell? ⟨w4.heap.size+1+1,10,none⟩=some (.slice aA aN aC):=hX.cell.2.2
           have n10f:w8.frozen? ⟨w4.heap.size+1+1,10,none⟩=false:=hX.fz 10
           have hm10:w4.heap.size+1+1<w8.heap.size:=hX.ty.lt
           have hne2:(Value.slice aA aN aC).ownBlock≠some (w4.heap.size+1+1):=fun e=>by have:=hX.ty.eq (own_ty hvz e);revert this;decide
           have hw78:wr.heap.size≤w8.heap.size:=hcm.size
           have HP8:=Lib.hid (And.intro hw8 (And.intro hc7 (And.intro hown7 (And.intro hat7 (And.intro hX (And.intro hv8 (And.intro hvz (And.intro hvzr haN))))))))
           clear hw8 hc7 hown7 hat7 hgrow7 hlt7 hmb7 hX hcm hv8 hvz hvzr haN b1 b2 b3 b4 g8 k8 hm8 hne1 y1 y2 y3 y4 r1
           go_upto_region 26 with fail
           rw [HP8.out.1]
           go_wp2_with ((at_builtin;refine wpList_append_lies _ (by rfl) _ _ 33 (by rfl) w4.heap.size 39 j0 _ 1 24 Tryd.underlying33 hj hy0 hy1 hy2 rfl (by decide) (.slice aA aN aC) aN vz (by rfl) (HP8.out.2.2.2.2.2.2.1.alloc _) ⟨w8.heap.size,0,none⟩ 1 1 [.slice vA vn vC] (by rfl) (by rfl) (World.news_of_block (heap_alloc_new w8 (.cells #[.slice vA vn vC] 39))) ?c2 (by decide) ?c3 ?c4 ?c5 _ rfl ?_))
           case c2=>first | rfl | (intro v hv;rw [List.mem_singleton.1 hv];rfl)
           case c3=>unfold maxLen;omega
           case c4=>omega
           case c5=>first | omega | (simp;omega)
           intro g9 cap9 w9 hown9 hgrow9 hat9 hlt9
           have hc9:Chg (fun x=>(Value.slice aA aN aC).ownBlock=some x) w8 w9:=((Chg.refl _ w8).alloc _).grown hgrow9 fun k hk _=>hk
           have m10:w9.cell? ⟨w4.heap.size+1+1,10,none⟩=some (.slice aA aN aC):=(hc9.cell 10 hm10 hne2).trans n10
           have m10f:w9.frozen? ⟨w4.heap.size+1+1,10,none⟩=false:=(hc9.frozen 10 hm10 hne2).trans n10f
           have HQ:=Lib.hid (HM.out (.slice (some ⟨g,0,none⟩) (sN+1) cap) (.slice (some ⟨g9,0,none⟩) (aN+1) cap9) (w9.setCell ⟨w4.heap.size+1+1,10,none⟩ (.slice (some ⟨g9,0,none⟩) (aN+1) cap9)) (HI.out.1.step (wx:=wr) (w3:=w7) (w4:=w8) (w5:=w9) (v:=.slice vA vn vC) (vs:=vz) HV.out.2.2 HI.out.2.1 HPo.out (by rw [← HV.out.2.1];omega) HP8.out.2.1 (by rw [← HMx.out.2.2,← HI.out.2.2.1];exact HP8.out.2.2.1) (fun x hx=>by
            obtain rfl:g=x:=Option.some.inj hx
            rcases HP8.out.2.2.2.1 with h9 | h9
            ·exact HI.out.1.outs g h9
            ·right;first | omega | (simp at h9;omega)) HP8.out.1 (by rw [← HP8.out.2.2.2.2.2.2.2.2];exact HP8.out.2.2.2.2.2.2.1) HP8.out.2.2.2.2.2.2.2.1 (HP8.out.2.2.2.2.2.1.low (by omega)) hc9 (by rw [← HP8.out.2.2.2.2.2.2.2.2];exact hown9) (fun x hx=>by
            obtain rfl:g9=x:=Option.some.inj hx
            rcases hat9 with h9 | h9
            ·exact HI.out.1.outa g9 h9
            ·right;first | omega | (simp at h9;omega)) hab))
           clear hown9 hgrow9 hat9 hlt9 hc9 n10 n10f
           go_wp2_with fail
           go_roundw
           case rel=>exact ⟨_,HQ.out⟩
           case measure =>
            rw [HI.out.2.2.2.1]
            refine Nat.lt_of_le_of_lt ((leastOf_spec ⟨_,HQ.out⟩).2 _ HQ.out) ?_
            have:=HI.out.2.2.2.2.1
            omega
     ·have k1:(u.kind != 1)=true:=by simp [hk]
      have HQ:=Lib.hid (show OfB w4.heap.size w5.heap.size w6 [.int .i64 r.kind,.int .u64 (r.set 0:Nat),.int .u64 (r.set 1:Nat),.int .u64 (r.set 2:Nat),.int .u64 (r.set 3:Nat),.slice ra rn rc,.int .i64 r.lo,.int .i64 r.hi] N L (.slice (some ⟨ng,0,none⟩) i nC) (.slice cA cn cC) (L.length - (j+1)) (.int .i64 ((j:Int)+1)) wr from HM.out _ _ _ (hBB.skip (Below.refl _ _) hq (by rw [← HI.out.2.2.1];unfold posV isPos;simp [hk])))
      clear hBB hq hqm hk hcell
      go_wp2_with fail
      go_roundw
      case rel=>exact ⟨_,HQ.out⟩
      case measure =>
       rw [HI.out.2.2.2.1]
       refine Nat.lt_of_le_of_lt ((leastOf_spec ⟨_,HQ.out⟩).2 _ HQ.out) ?_
       have:=HI.out.2.2.2.2.1
       omega
    ·have t2:¬ (j:Int)<(ln:Int):=by omega
     have hjn:j=L.length:=by have:=HL.out.2.1;omega
     subst hjn
     have hm:=hBB.map
     obtain ⟨sA,sC,hsv⟩:=own_form hm.lists.sets
     obtain ⟨sN,hsN⟩ : ∃ sN,sN=(mAB N L L.length L.length).sets.length:=⟨_,rfl⟩
     obtain ⟨vz,hvz,_⟩:=hm.lists.ars
     obtain ⟨aA,aC,hav⟩:=own_form hvz
     obtain ⟨aN,haN⟩ : ∃ aN,aN=(mAB N L L.length L.length).ars.length:=⟨_,rfl⟩
     rw [← hsN] at hsv
     rw [← haN] at hav
     subst hsv
     subst hav
     have hsN7:sN≤1001:=by rw [hsN];have:=(mAB_sets N L L.length L.length).1;have:=HL.out.2.1;omega
     have qs:(0:Int)≤(sN:Int):=by omega
     have hzr:=HZ.out wr hBB.chg
     have HBt:=Lib.hid (HBW.out wr hBB.chg)
     have HE:=Lib.hid (And.intro hBB (And.intro hsN haN))
     by_cases g6:41<sN
     ·have u3:(41:Int)<(sN:Int):=by omega
      have HNo:=Lib.hid (show mapT (simT (erase t))=none from HLim.out.1 (by rw [HUM.out];exact mAB_big.2 (.inl (by rw [← hsN];exact g6))))
      have m8:wr.cell? ⟨w4.heap.size+1+1,8,none⟩=some (.slice sA sN sC):=hm.cell.1
      clear g6 hm hBB hsN haN hvz hN2 hj1 hrel
      obtain ⟨⟨z0,z1,z2,z3,z4,z5,z6,z7,z8,z9,z10⟩,hfz,hzl⟩:=hzr.cells
      have f0:=hfz 0;have f1:=hfz 1;have f2:=hfz 2;have f3:=hfz 3;have f4:=hfz 4;have f5:=hfz 5;have f6:=hfz 6;have f7:=hfz 7;have f8:=hfz 8;have f9:=hfz 9;have f10:=hfz 10
      have HZR:=Lib.hid hzr
      clear hfz hzr
      go_wp2_with fail
      clear z0 z1 z2 z3 z4 z5 z6 z7 z8 z9 z10 f0 f1 f2 f3 f4 f5 f6 f7 f8 f9 f10
      have hf:=set11_heap HZR.out (.int .i64 0) (.int .u64 0) (.int .u64 0) (.int .u64 0) (.int .u64 0) (.slice none 0 0) (.int .i64 0) (.int .i64 0) (.slice none 0 0) (.slice none 0 0) (.slice none 0 0)
      have hch:=set11_chg wr (w.heap.size+1) (.int .i64 0) (.int .u64 0) (.int .u64 0) (.int .u64 0) (.int .u64 0) (.slice none 0 0) (.int .i64 0) (.int .i64 0) (.slice none 0 0) (.slice none 0 0) (.slice none 0 0)
      generalize (((((((((((wr.setCell ⟨w.heap.size+1,0,none⟩ (.int .i64 0)).setCell ⟨w.heap.size+1,1,none⟩ (.int .u64 0)).setCell ⟨w.heap.size+1,2,none⟩ (.int .u64 0)).setCell ⟨w.heap.size+1,3,none⟩ (.int .u64 0)).setCell ⟨w.heap.size+1,4,none⟩ (.int .u64 0)).setCell ⟨w.heap.size+1,5,none⟩ (.slice none 0 0)).setCell ⟨w.heap.size+1,6,none⟩ (.int .i64 0)).setCell ⟨w.heap.size+1,7,none⟩ (.int .i64 0)).setCell ⟨w.heap.size+1,8,none⟩ (.slice none 0 0)).setCell ⟨w.heap.size+1,9,none⟩ (.slice none 0 0)).setCell ⟨w.heap.size+1,10,none⟩ (.slice none 0 0))=w7 at *
      obtain ⟨rr,_⟩:=row_cells hf
      have r0:=rr 0;have r1:=rr 1;have r2:=rr 2;have r3:=rr 3;have r4:=rr 4;have r5:=rr 5;have r6:=rr 6;have r7:=rr 7;have r8:=rr 8;have r9:=rr 9;have r10:=rr 10
      refine bodyPost_ret (v:=.tuple #[.agg #[.int .i64 0,.int .u64 0,.int .u64 0,.int .u64 0,.int .u64 0,.slice none 0 0,.int .i64 0,.int .i64 0,.slice none 0 0,.slice none 0 0,.slice none 0 0],.int .i64 3]) (by simp [results,Tryd.results7,go_sem,r0,r1,r2,r3,r4,r5,r6,r7,r8,r9,r10]) rfl (ofU_none HNo.out (HBt.out.trans (hch.below (by have:=HBt.out.size;omega) fun k hk e=>by omega)))
     ·have u3:¬ (41:Int)<(sN:Int):=by omega
      have HYes:=Lib.hid (show mapT (simT (erase t))=some (umapT (erase t)) from HLim.out.2 (by
       rw [HUM.out,mAB_big]
       rintro (h | ⟨q,hq,hp,h⟩)
       ·omega
       ·have:=hBB.lim q (by rw [List.take_length];exact hq) hp;omega))
      have m0:wr.cell? ⟨w4.heap.size+1+1,0,none⟩=some (.int .i64 r.kind):=(row_cells hm.blk).1 0
      have m1:wr.cell? ⟨w4.heap.size+1+1,1,none⟩=some (.int .u64 (r.set 0:Nat)):=(row_cells hm.blk).1 1
      have m2:wr.cell? ⟨w4.heap.size+1+1,2,none⟩=some (.int .u64 (r.set 1:Nat)):=(row_cells hm.blk).1 2
      have m3:wr.cell? ⟨w4.heap.size+1+1,3,none⟩=some (.int .u64 (r.set 2:Nat)):=(row_cells hm.blk).1 3
      have m4:wr.cell? ⟨w4.heap.size+1+1,4,none⟩=some (.int .u64 (r.set 3:Nat)):=(row_cells hm.blk).1 4
      have m5:wr.cell? ⟨w4.heap.size+1+1,5,none⟩=some (.slice ra rn rc):=(row_cells hm.blk).1 5
      have m6:wr.cell? ⟨w4.heap.size+1+1,6,none⟩=some (.int .i64 r.lo):=(row_cells hm.blk).1 6
      have m7:wr.cell? ⟨w4.heap.size+1+1,7,none⟩=some (.int .i64 r.hi):=(row_cells hm.blk).1 7
      have m8:wr.cell? ⟨w4.heap.size+1+1,8,none⟩=some (.slice sA sN sC):=(row_cells hm.blk).1 8
      have m9:wr.cell? ⟨w4.heap.size+1+1,9,none⟩=some (.slice cA cn cC):=(row_cells hm.blk).1 9
      have m10:wr.cell? ⟨w4.heap.size+1+1,10,none⟩=some (.slice aA aN aC):=(row_cells hm.blk).1 10
      obtain ⟨⟨z0,z1,z2,z3,z4,z5,z6,z7,z8,z9,z10⟩,hfz,hzl⟩:=hzr.cells
      have f0:=hfz 0;have f1:=hfz 1;have f2:=hfz 2;have f3:=hfz 3;have f4:=hfz 4;have f5:=hfz 5;have f6:=hfz 6;have f7:=hfz 7;have f8:=hfz 8;have f9:=hfz 9;have f10:=hfz 10
      have HZR:=Lib.hid hzr
      have HG:=Lib.hid g6
      clear hfz hzr g6 hm hBB hsN haN hvz hN2 hj1 hrel
      go_wp2_with fail
      clear z0 z1 z2 z3 z4 z5 z6 z7 z8 z9 z10 f0 f1 f2 f3 f4 f5 f6 f7 f8 f9 f10 m0 m1 m2 m3 m4 m5 m6 m7 m8 m9 m10
      have hf:=set11_heap HZR.out (.int .i64 r.kind) (.int .u64 (r.set 0:Nat)) (.int .u64 (r.set 1:Nat)) (.int .u64 (r.set 2:Nat)) (.int .u64 (r.set 3:Nat)) (.slice ra rn rc) (.int .i64 r.lo) (.int .i64 r.hi) (.slice sA sN sC) (.slice cA cn cC) (.slice aA aN aC)
      have hch:=set11_chg wr (w.heap.size+1) (.int .i64 r.kind) (.int .u64 (r.set 0:Nat)) (.int .u64 (r.set 1:Nat)) (.int .u64 (r.set 2:Nat)) (.int .u64 (r.set 3:Nat)) (.slice ra rn rc) (.int .i64 r.lo) (.int .i64 r.hi) (.slice sA sN sC) (.slice cA cn cC) (.slice aA aN aC)
      generalize (((((((((((wr.setCell ⟨w.heap.size+1,0,none⟩ (.int .i64 r.kind)).setCell ⟨w.heap.size+1,1,none⟩ (.int .u64 (r.set 0:Nat))).setCell ⟨w.heap.size+1,2,none⟩ (.int .u64 (r.set 1:Nat))).setCell ⟨w.heap.size+1,3,none⟩ (.int .u64 (r.set 2:Nat))).setCell ⟨w.heap.size+1,4,none⟩ (.int .u64 (r.set 3:Nat))).setCell ⟨w.heap.size+1,5,none⟩ (.slice ra rn rc)).setCell ⟨w.heap.size+1,6,none⟩ (.int .i64 r.lo)).setCell ⟨w.heap.size+1,7,none⟩ (.int .i64 r.hi)).setCell ⟨w.heap.size+1,8,none⟩ (.slice sA sN sC)).setCell ⟨w.heap.size+1,9,none⟩ (.slice cA cn cC)).setCell ⟨w.heap.size+1,10,none⟩ (.slice aA aN aC))=w7 at *
      obtain ⟨rr,_⟩:=row_cells hf
      have r0:=rr 0;have r1:=rr 1;have r2:=rr 2;have r3:=rr 3;have r4:=rr 4;have r5:=rr 5;have r6:=rr 6;have r7:=rr 7;have r8:=rr 8;have r9:=rr 9;have r10:=rr 10
      refine bodyPost_ret (v:=.tuple #[.agg #[.int .i64 r.kind,.int .u64 (r.set 0:Nat),.int .u64 (r.set 1:Nat),.int .u64 (r.set 2:Nat),.int .u64 (r.set 3:Nat),.slice ra rn rc,.int .i64 r.lo,.int .i64 r.hi,.slice sA sN sC,.slice cA cn cC,.slice aA aN aC],.int .i64 0]) (by simp [results,Tryd.results7,go_sem,r0,r1,r2,r3,r4,r5,r6,r7,r8,r9,r10]) rfl ⟨⟨r,ra,rn,rc,sA,sN,sC,cA,cn,cC,aA,aN,aC,⟨?_,?_,?_,?_,?_,?_⟩,HR.out.2.2.1,by rw [HYes.out];rfl⟩,HBt.out.trans (hch.below (by have:=HBt.out.size;omega) fun k hk e=>by omega)⟩
      ·rw [HYes.out];exact HR.out.1
      ·have l2:=(Array.getElem?_eq_some_iff.1 HB.out.2).1
       have h6:Below w3.heap.size w3 w6:=bhop HB4.out.2 (bhop HM5.out.2.1 HL.out.2.2.2.2.2.1)
       have h1:=(laid_low HR.out.2.1 h6).chg HE.out.1.chg fun x _ hr q=>by have:=hr.2;have:=q.1;have:=HB4.out.2.size;omega
       exact (h1.chg hch fun x _ hr q=>by have:=hr.1;omega).mono fun x hx _=>hx
      ·rw [HYes.out,Option.getD_some,HUM.out,← mAB_all]
       exact (HE.out.1.map.lists.keep hch fun x ty hx hB _=>by have:=HB4.out.1.size;have l2:=(Array.getElem?_eq_some_iff.1 HB.out.2).1;have h4:Below w2.heap.size w2 w4:=bhop HR.out.2.2.2 HB4.out.2;have:=h4.size;omega).low HB4.out.1.size
      ·rw [HYes.out,Option.getD_some,HUM.out,← mAB_all];exact (mAB_sets N L _ _).2.1
      ·rw [HYes.out,Option.getD_some,HUM.out,← mAB_all,← HE.out.2.1];have:=HG.out;omega
      ·rw [HYes.out,Option.getD_some,HUM.out,← mAB_all];have:=(mAB_sets N L L.length L.length).2.2;have:=HL.out.2.1;omega
end Go.Proofs.YtjcfmbmepmlckaaDoor
