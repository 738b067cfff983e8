/- within of a node, whatever it is: a contract.
   Conditions: the map lies in memory. -/
import Derived.Test.YtbohmcfplgdlpaaDoorMPt
import Derived.Deep.DeepCutAuto
import Derived.Deep.RegionHeld3

/- put of a node, whatever it is: a contract.
   Conditions: the map lies in memory. -/
namespace Go.Proofs.YtbohmcfplgdlpaaDoor
open Go.RowKit Go.Shelf
theorem infoC24:(Tryd.prog.info? 24).map (fun i=>(i.zero,i.size,i.bytes))=some (some (.agg #[.int .u64 0,.int .u64 0,.int .u64 0,.int .u64 0]),4,32):=by kernel_rfl
theorem infoL34:(Tryd.prog.info? 34).map (fun i=>(i.zero,i.size,i.bytes))=some (some (.slice none 0 0),1,24):=by kernel_rfl
set_option maxHeartbeats 4000000 in
set_option maxRecDepth 100000 in
theorem put_posA (w:World) (B mb nb no:Nat) (tc:List Value) (m:PM) (sv cv av iv:Value) (al:List Nat) (C:Nat→Nat) (h:MapS w B mb tc m sv cv av) (hC:z4 C=false) (hiv:IntsR w B iv al)
  (h0:w.cell? ⟨nb,no,none⟩=some (.int .i64 1)) (h1:w.cell? ⟨nb,no+1,none⟩=some (.int .u64 (C 0:Nat))) (h2:w.cell? ⟨nb,no+2,none⟩=some (.int .u64 (C 1:Nat))) (h3:w.cell? ⟨nb,no+3,none⟩=some (.int .u64 (C 2:Nat))) (h4:w.cell? ⟨nb,no+4,none⟩=some (.int .u64 (C 3:Nat))) (hn:nb<w.heap.size)
  (hnm:m.sets.length≤1000) (ham:m.ars.length≤1000) (hal:al.length≤1000) (hB:B≤w.heap.size) :
  Calls Tryd.prog 47 #[.pointer (some ⟨mb,0,none⟩),.pointer (some ⟨nb,no,none⟩),iv] w fun e w'=>e=.returned (.tuple #[])∧(∃ sv' av',MapS w' B mb tc { m with sets:=m.sets ++ [C],ars:=m.ars ++ [al] } sv' cv av')∧Chg (fun x=>B≤x∧(TyB w x 33∨TyB w x 24∨TyB w x 34)) w w':=by
 have hce:=fun W=>classEmpty_any C W
 rw [hC] at hce
 obtain ⟨i0,hi,hz0,hz1,hz2⟩:=info_parts infoC24
 obtain ⟨j0,hj,hy0,hy1,hy2⟩:=info_parts infoL34
 obtain ⟨ia,ic,hivf⟩:=hiv.form
 obtain ⟨il,hil⟩ : ∃ il,il=al.length:=⟨_,rfl⟩
 rw [← hil] at hivf
 subst hivf
 have HA:=Lib.hid (And.intro h (And.intro hiv (And.intro hB (And.intro hal ham))))
 obtain ⟨n,hnn⟩ : ∃ n,n=m.sets.length:=⟨_,rfl⟩
 obtain ⟨A1,c1,hsv⟩:=own_form h.lists.sets
 rw [← hnn] at hsv hnm
 subst hsv
 have hnml:=Lib.hid hnm
 have HNN:=Lib.hid hnn
 clear h hiv hal ham hnn hB hil
 go_enter Tryd.func47,Tryd.ntmps47
 go_wp2_with fail
 go_at_call 49
 refine (hce _).mono ?_
 rintro e w2 ⟨rfl,hb2⟩
 have g0:w2.cell? ⟨nb,no,none⟩=some (.int .i64 1):=(hb2.cell (p:=⟨nb,no,none⟩) hn).trans h0
 have g1:w2.cell? ⟨nb,no+1,none⟩=some (.int .u64 (C 0:Nat)):=(hb2.cell (p:=⟨nb,no+1,none⟩) hn).trans h1
 have g2:w2.cell? ⟨nb,no+2,none⟩=some (.int .u64 (C 1:Nat)):=(hb2.cell (p:=⟨nb,no+2,none⟩) hn).trans h2
 have g3:w2.cell? ⟨nb,no+3,none⟩=some (.int .u64 (C 2:Nat)):=(hb2.cell (p:=⟨nb,no+3,none⟩) hn).trans h3
 have g4:w2.cell? ⟨nb,no+4,none⟩=some (.int .u64 (C 3:Nat)):=(hb2.cell (p:=⟨nb,no+4,none⟩) hn).trans h4
 have hM2:=HA.out.1.below hb2
 obtain ⟨g8,_,_⟩:=hM2.cell
 have k8:=hM2.fz 8
 have hown:w2.ownsRow B 24 4 (.slice A1 n c1) n (m.sets.flatMap cls4):=by have:=hM2.lists.sets;rwa [← HNN.out] at this
 have HM2:=Lib.hid (And.intro hM2 (And.intro hb2 hown))
 have HW:=Lib.hid (show Chg (fun _=>False) w2 (w2.alloc (.cells #[.int .u64 (C 0:Nat),.int .u64 (C 1:Nat),.int .u64 (C 2:Nat),.int .u64 (C 3:Nat)] 24)).drew from ((Chg.refl _ _).alloc _).drew)
 have hm2:=hM2.ty.lt
 have hne1:(Value.slice A1 n c1).ownBlock≠some mb:=fun e=>by have:=hM2.ty.eq (own_ty hown e);revert this;decide
 clear h0 h1 h2 h3 h4 hb2 hM2 hn hown
 go_wp2_with fail
 go_region_law (refine step_append_lies _ rfl _ _ 29 rfl B 24 i0 _ 4 32 Tryd.underlying29 hi hz0 hz1 hz2 rfl (by decide) (.slice A1 n c1) n (m.sets.flatMap cls4) rfl ((HM2.out.2.2.alloc _).drew) ⟨w2.heap.size,0,none⟩ 1 1 [.int .u64 (C 0:Nat),.int .u64 (C 1:Nat),.int .u64 (C 2:Nat),.int .u64 (C 3:Nat)] rfl rfl (World.news_of_block (w:=(w2.alloc (.cells #[.int .u64 (C 0:Nat),.int .u64 (C 1:Nat),.int .u64 (C 2:Nat),.int .u64 (C 3:Nat)] 24)).drew) (heap_alloc_new w2 _)) (by simp [Value.oneCell']) (by decide) (by have:=hnml.out;unfold maxLen;omega) (by have:=hnml.out;omega) (by have h1:=HM2.out.2.1.size;have h2:=HA.out.2.2.1;simp;omega) _ rfl ?_;intro g cap w3 hown3 hgrow hat hlt;obtain ⟨b1,b2,b3,b4,b5⟩:=app_field (x:=8) hgrow HW.out hm2 hne1 hat g8 k8;have HO:=Lib.hid (And.intro hown3 (And.intro hgrow (And.intro hat (And.intro hlt b5))));clear hown3 hgrow hat hlt b5)
 all_goals
  obtain ⟨hown3,hgrow,hat,hlt,hmb⟩:=HO.out
  have hc3:Chg (fun x=>(Value.slice A1 n c1).ownBlock=some x) w2 w3:=(HW.out.mono fun b _ h=>h.elim).grown hgrow (fun k hk _=>hk)
  have hX:=HM2.out.1.put8 hc3 (C:=C) (u:=.slice (some ⟨g,0,none⟩) (n+1) cap) (by rw [← HNN.out];exact hown3)
  have HX:=Lib.hid hX
  clear hX hown3 hgrow hat hlt hmb hc3
  have hw3:=Lib.hid (show w2.heap.size≤(w3.setCell ⟨mb,8,none⟩ (.slice (some ⟨g,0,none⟩) (n+1) cap)).heap.size from HX.out.2.size)
  clear b1 b2 b3 b4 g0 g1 g2 g3 g4 g8 k8 hm2
  generalize (w3.setCell ⟨mb,8,none⟩ (.slice (some ⟨g,0,none⟩) (n+1) cap))=w4 at *
  have hC14:=((show Chg (fun _=>False) w w2 from Chg.of_below HM2.out.2.1).mono (R':=fun x=>B≤x∧(TyB w x 33∨TyB w x 24)) (fun b _ h=>h.elim)).trans HX.out.2 (fun x hx q=>⟨q.1,by
   have e:=HM2.out.2.1.block x hx
   exact q.2.imp (fun t=>t.keep e.symm) fun t=>t.keep e.symm⟩)
  have hiv4:=HA.out.2.1.keep hC14 fun x q _ hty=>by
   rcases q.2 with q | q
   ·have:=hty.eq q;revert this;decide
   ·have:=hty.eq q;revert this;decide
  have HIV:=Lib.hid (And.intro hiv4 hC14)
  clear hC14 hiv4
  obtain ⟨vs,hvs,hvr⟩:=HX.out.1.lists.ars
  obtain ⟨p,hp⟩ : ∃ p,p=m.ars.length:=⟨_,rfl⟩
  obtain ⟨A2,c2,hav⟩:=own_form hvs
  rw [show ({ m with sets:=m.sets ++ [C] }:PM).ars=m.ars from rfl] at hvs hvr hav
  rw [← hp] at hav hvs
  subst hav
  have HV:=Lib.hid (And.intro hvs hvr)
  have HP:=Lib.hid hp
  obtain ⟨_,_,g10⟩:=HX.out.1.cell
  have k10:=HX.out.1.fz 10
  have HCl:=Lib.hid (fun (W:World) (hW:Below w4.heap.size w4 W)=>cloneI_any W B (.slice ia il ic) al (HIV.out.1.below hW) HA.out.2.2.2.1)
  have hm4:=HX.out.1.ty.lt
  have hne2:(Value.slice A2 p c2).ownBlock≠some mb:=fun e=>by have:=HX.out.1.ty.eq (own_ty hvs e);revert this;decide
  have hpl:=Lib.hid (show p≤1000 by rw [HP.out];exact HA.out.2.2.2.2)
  clear hvs hvr hp
  go_wp2_with fail
  go_region_law (first
   | (go_simp;go_at_call 68;((with_reducible refine (HCl.out _ (by first | exact (Below.refl _ _).drew | exact Below.refl _ _)).mono ?_);rintro e w5 ⟨v5,rfl,hv5,hb5⟩;replace hb5:Below w4.heap.size w4 w5:=(by first | exact hb5 | exact bhop (Below.refl _ w4).drew hb5);obtain ⟨va,vc,rfl⟩:=hv5.form;replace hv5:IntsR w5 w4.heap.size (.slice va al.length vc) al:=hv5;have d10:w5.cell? ⟨mb,10,none⟩=some (.slice A2 p c2):=(hb5.cell (p:=⟨mb,10,none⟩) hm4).trans g10;have m10:w5.frozen? ⟨mb,10,none⟩=false:=(hb5.frozen (p:=⟨mb,10,none⟩) hm4).trans k10;have HW5:=Lib.hid (show Chg (fun _=>False) w5 (w5.alloc (.cells #[.slice va al.length vc] 34)) from (Chg.refl _ _).alloc _);have hm5:mb<w5.heap.size:=Nat.lt_of_lt_of_le hm4 hb5.size;have HB5:=Lib.hid (And.intro hv5 hb5);clear hv5 hb5))
   | (refine step_append_lies _ rfl _ _ 31 rfl B 34 j0 _ 1 24 Tryd.underlying31 hj hy0 hy1 hy2 rfl (by decide) (.slice A2 p c2) p vs rfl ((own_chg HV.out.1 (Chg.of_below (R:=fun _=>False) HB5.out.2) fun _ _=>id).alloc _) ⟨w5.heap.size,0,none⟩ 1 1 [.slice va al.length vc] rfl rfl (World.news_of_block (w:=w5.alloc (.cells #[.slice va al.length vc] 34)) (heap_alloc_new w5 _)) (by simp [Value.oneCell']) (by decide) (by have:=hpl.out;unfold maxLen;omega) (by have:=hpl.out;omega) (by have h1:=HM2.out.2.1.size;have h2:=HA.out.2.2.1;have h3:=hw3.out;have h4:=HB5.out.2.size;simp;omega) _ rfl ?_;intro g2 cap2 w6 hown5 hgrow5 hat5 hlt5;obtain ⟨d1,d2,d3,d4,d5⟩:=app_field (x:=10) hgrow5 HW5.out (Nat.lt_of_lt_of_le hm4 HB5.out.2.size) hne2 hat5 d10 m10;have HO5:=Lib.hid (And.intro hown5 (And.intro hgrow5 (And.intro hat5 (And.intro hlt5 d5))));clear hown5 hgrow5 hat5 hlt5 d5))
  all_goals
   obtain ⟨hown5,hgrow5,_,_,_⟩:=HO5.out
   have hc6:Chg (fun x=>(Value.slice A2 p c2).ownBlock=some x) w4 w6:=((Chg.of_below (R:=fun x=>(Value.slice A2 p c2).ownBlock=some x) HB5.out.2).trans (R':=fun _=>False) HW5.out fun _ _ q=>q.elim).grown hgrow5 (fun k hk _=>hk)
   obtain ⟨vs0,hvs0,_⟩:=HA.out.1.lists.ars
   have hM5:=HX.out.1.below HB5.out.2
   obtain ⟨hM7,_⟩:=hM5.put10 (w3:=w6) (vs:=vs) (v:=.slice va al.length vc) (l:=al) (u:=.slice (some ⟨g2,0,none⟩) (p+1) cap2) (by
    rw [show ({ m with sets:=m.sets ++ [C] }:PM).ars.length=p from HP.out.symm]
    exact own_chg HV.out.1 (Chg.of_below (R:=fun _=>False) HB5.out.2) fun _ _=>id) (fun i l hl=>by
    obtain ⟨v,h1,h2⟩:=HV.out.2 i l hl
    exact ⟨v,h1,h2.below HB5.out.2⟩) ((HW5.out.mono fun _ _ q=>q.elim).grown hgrow5 (fun k hk _=>hk)) (HB5.out.1.low (by have h1:=HM2.out.2.1.size;have h2:=HA.out.2.2.1;have h3:=hw3.out;omega)) (by
    rw [show ({ m with sets:=m.sets ++ [C] }:PM).ars.length=p from HP.out.symm]
    exact hown5)
   have hc7:Chg (fun x=>x=mb∨(Value.slice A2 p c2).ownBlock=some x) w4 (w6.setCell ⟨mb,10,none⟩ (.slice (some ⟨g2,0,none⟩) (p+1) cap2)):=(hc6.mono fun x _ e=>.inr e).setCell (p:=⟨mb,10,none⟩) (fun _=>.inl rfl) _
   have t4:Chg (fun x=>B≤x∧(TyB w x 33∨TyB w x 24∨TyB w x 34)) w (w6.setCell ⟨mb,10,none⟩ (.slice (some ⟨g2,0,none⟩) (p+1) cap2)):=(HIV.out.2.mono (fun x _ q=>⟨q.1,q.2.imp id .inl⟩)).trans hc7 fun x hx e=>by
    rcases e with rfl | e
    ·exact ⟨HA.out.1.low,.inl HA.out.1.ty⟩
    ·exact ⟨(hvs0.lt x e).1,.inr (.inr (own_ty hvs0 e))⟩
   go_end0
   exact ⟨rfl,⟨_,_,hM7⟩,t4⟩
set_option maxHeartbeats 2000000 in
set_option maxRecDepth 100000 in
theorem put_zero (mp iv:Value) (nb no:Nat) (C:Nat→Nat) (w:World) (hC:z4 C=true) (h0:w.cell? ⟨nb,no,none⟩=some (.int .i64 1)) (h1:w.cell? ⟨nb,no+1,none⟩=some (.int .u64 (C 0:Nat))) (h2:w.cell? ⟨nb,no+2,none⟩=some (.int .u64 (C 1:Nat))) (h3:w.cell? ⟨nb,no+3,none⟩=some (.int .u64 (C 2:Nat))) (h4:w.cell? ⟨nb,no+4,none⟩=some (.int .u64 (C 3:Nat))) :
  Calls Tryd.prog 47 #[mp,.pointer (some ⟨nb,no,none⟩),iv] w fun e w'=>e=.returned (.tuple #[])∧Below w.heap.size w w':=by
 have hce:=fun W=>classEmpty_any C W
 rw [hC] at hce
 go_enter Tryd.func47,Tryd.ntmps47
 go_wp2_with fail
 go_at_call 49
 refine (hce _).mono ?_
 rintro e w2 ⟨rfl,hb2⟩
 go_wp2_with fail
 go_end0
 exact ⟨rfl,hb2⟩
theorem pput_any (w:World) (B mb nb no:Nat) (tc:List Value) (m:PM) (sv cv av iv:Value) (al:List Nat) (k:Int) (C:Nat→Nat) (h:MapS w B mb tc m sv cv av) (hiv:IntsR w B iv al)
  (h0:w.cell? ⟨nb,no,none⟩=some (.int .i64 k)) (h1:w.cell? ⟨nb,no+1,none⟩=some (.int .u64 (C 0:Nat))) (h2:w.cell? ⟨nb,no+2,none⟩=some (.int .u64 (C 1:Nat))) (h3:w.cell? ⟨nb,no+3,none⟩=some (.int .u64 (C 2:Nat))) (h4:w.cell? ⟨nb,no+4,none⟩=some (.int .u64 (C 3:Nat))) (hn:nb<w.heap.size)
  (hnm:m.sets.length≤1000) (ham:m.ars.length≤1000) (hal:al.length≤1000) (hB:B≤w.heap.size) :
  Calls Tryd.prog 47 #[.pointer (some ⟨mb,0,none⟩),.pointer (some ⟨nb,no,none⟩),iv] w fun e w'=>e=.returned (.tuple #[])∧(∃ sv' av',MapS w' B mb tc (putP k C al m) sv' cv av')∧Chg (fun x=>B≤x∧(TyB w x 33∨TyB w x 24∨TyB w x 34)) w w':=by
 by_cases hk:k=1
 ·subst hk
  by_cases hC:z4 C=true
  ·have e:putP 1 C al m=m:=by simp [putP,isPos,hC]
   rw [e]
   exact (put_zero _ _ nb no C w hC h0 h1 h2 h3 h4).mono fun e w' ⟨a,b⟩=>⟨a,⟨_,_,h.below b⟩,Chg.of_below b⟩
  ·have hC':z4 C=false:=by simpa using hC
   have e:putP 1 C al m = { m with sets:=m.sets ++ [C],ars:=m.ars ++ [al] }:=by simp [putP,isPos,hC']
   rw [e]
   exact put_posA w B mb nb no tc m sv cv av iv al C h hC' hiv h0 h1 h2 h3 h4 hn hnm ham hal hB
 ·have e:putP k C al m=m:=by simp [putP,isPos,hk]
  rw [e]
  exact (put_other _ nb no k iv w h0 hk).mono fun e w' ⟨a,b⟩=>⟨a,⟨_,_,h.below b⟩,Chg.of_below b⟩
end Go.Proofs.YtbohmcfplgdlpaaDoor

/- within of a node, whatever it is: a contract.
   Conditions: the map lies in memory. -/
namespace Go.Proofs.YtbohmcfplgdlpaaDoor
open Go.RowKit Go.Shelf
set_option maxHeartbeats 4000000 in
set_option maxRecDepth 100000 in
theorem within_no (w:World) (mp:Value) (nb no:Nat) (lo hi:Int) (iv:Value) (h0:w.cell? ⟨nb,no,none⟩=some (.int .i64 4)) (h6:w.cell? ⟨nb,no+6,none⟩=some (.int .i64 lo)) (h7:w.cell? ⟨nb,no+7,none⟩=some (.int .i64 hi)) (hn:nb<w.heap.size) (hc:cntS (max 1 lo) hi=false) :
  Calls Tryd.prog 46 #[mp,.pointer (some ⟨nb,no,none⟩),iv] w fun e w'=>e=.returned iv∧Below w.heap.size w w':=by
 obtain ⟨mx,hmx⟩ : ∃ mx,mx=max 1 lo:=⟨_,rfl⟩
 rw [← hmx] at hc
 have HM:=Lib.hid hmx
 have HC:=Lib.hid hc
 clear hmx hc
 go_enter Tryd.func46,Tryd.ntmps46
 go_wp2_with fail
 go_at_call 66
 refine (scopeOf_at nb no lo hi _ h6 h7 hn).mono ?_
 rintro e w4 ⟨rfl,hb4⟩
 rw [← HM.out]
 obtain ⟨w5,hw5⟩ : ∃ w5,w4.alloc (.cells #[.int .i64 mx,.int .i64 hi] 154)=w5:=⟨_,rfl⟩
 have hs5:w5.heap[w4.heap.size]? = some (.cells #[.int .i64 mx,.int .i64 hi] 154 (0,0)):=hw5▸heap_alloc_new w4 _
 have hb5:Below w4.heap.size w4 w5:=hw5▸(Below.refl _ w4).alloc (Nat.le_refl _) _
 have HB5:=Lib.hid (bhop hb4 hb5)
 obtain ⟨t0,t1⟩:=cells2 hs5
 clear hb5 hb4 h0 h6 h7 hn hs5
 go_upto_region 4 with fail
 clear hw5
 go_wp2_with fail
 go_at_call 67
 refine (counts_any mx hi _).mono ?_
 rintro e w7 ⟨rfl,hb7⟩
 rw [HC.out]
 go_wp2_with fail
 go_ret
 exact ⟨rfl,bhop HB5.out hb7⟩
set_option maxHeartbeats 8000000 in
set_option maxRecDepth 100000 in
theorem within_yes (w:World) (B mb nb no:Nat) (tc:List Value) (m:PM) (sv cv av iv:Value) (al:List Nat) (lo hi:Int) (h:MapS w B mb tc m sv cv av) (hiv:IntsR w B iv al) (h0:w.cell? ⟨nb,no,none⟩=some (.int .i64 4)) (h6:w.cell? ⟨nb,no+6,none⟩=some (.int .i64 lo)) (h7:w.cell? ⟨nb,no+7,none⟩=some (.int .i64 hi)) (hn:nb<w.heap.size)
  (hsc:m.scs.length≤1000000) (hal:al.length≤1000) (hB:B≤w.heap.size) (hc:cntS (max 1 lo) hi=true) :
  Calls Tryd.prog 46 #[.pointer (some ⟨mb,0,none⟩),.pointer (some ⟨nb,no,none⟩),iv] w fun e w'=>(∃ iv' cv',e=.returned iv'∧MapS w' B mb tc { m with scs:=m.scs ++ [(max 1 lo,hi)] } sv cv' av∧IntsR w' B iv' (al ++ [m.scs.length]))∧Chg (fun x=>B≤x∧(TyB w x 33∨TyB w x 154)) w w':=by
 obtain ⟨i0,hi0,hz0,hz1,hz2⟩:=info_parts infoS154
 obtain ⟨j0,hj0,hy0,hy1,hy2⟩:=info_parts infoI3
 obtain ⟨mx,hmx⟩ : ∃ mx,mx=max 1 lo:=⟨_,rfl⟩
 rw [← hmx] at hc ⊢
 have HM:=Lib.hid hmx
 have HC:=Lib.hid hc
 obtain ⟨ia,ic,hivf⟩:=hiv.form
 obtain ⟨il,hil⟩ : ∃ il,il=al.length:=⟨_,rfl⟩
 rw [← hil] at hivf
 subst hivf
 have HA:=Lib.hid (And.intro h (And.intro hiv (And.intro hB hal)))
 obtain ⟨n,hnn⟩ : ∃ n,n=m.scs.length:=⟨_,rfl⟩
 obtain ⟨A1,c1,hcv⟩:=own_form h.lists.scs
 rw [← hnn] at hcv hsc
 subst hcv
 have hnml:=Lib.hid hsc
 have HNN:=Lib.hid hnn
 have HIL:=Lib.hid hil
 clear h hiv hal hnn hB hil hmx hc
 go_enter Tryd.func46,Tryd.ntmps46
 go_wp2_with fail
 go_at_call 66
 refine (scopeOf_at nb no lo hi _ h6 h7 hn).mono ?_
 rintro e w4 ⟨rfl,hb4⟩
 rw [← HM.out]
 obtain ⟨w5,hw5⟩ : ∃ w5,w4.alloc (.cells #[.int .i64 mx,.int .i64 hi] 154)=w5:=⟨_,rfl⟩
 have hs5:w5.heap[w4.heap.size]? = some (.cells #[.int .i64 mx,.int .i64 hi] 154 (0,0)):=hw5▸heap_alloc_new w4 _
 have hb5:Below w4.heap.size w4 w5:=hw5▸(Below.refl _ w4).alloc (Nat.le_refl _) _
 have HB5:=Lib.hid (And.intro (bhop hb4 hb5) hs5)
 obtain ⟨t0,t1⟩:=cells2 hs5
 clear hb5 hb4 h0 h6 h7 hn hs5
 go_upto_region 4 with fail
 clear hw5
 go_wp2_with fail
 go_at_call 67
 refine (counts_any mx hi _).mono ?_
 rintro e w2 ⟨rfl,hb7⟩
 rw [HC.out]
 obtain ⟨bx,hbx⟩ : ∃ bx,bx=w4.heap.size:=⟨_,rfl⟩
 have hb2:Below w.heap.size w w2:=bhop HB5.out.1 hb7
 have hx2:w2.heap[bx]? = some (.cells #[.int .i64 mx,.int .i64 hi] 154 (0,0)):=by
  rw [hbx];exact (hb7.block _ (Array.getElem?_eq_some_iff.1 HB5.out.2).1).trans HB5.out.2
 rw [← hbx]
 clear t0 t1 hb7 hbx
 obtain ⟨t0,t1⟩:=cells2 hx2
 have hbl:=(Array.getElem?_eq_some_iff.1 hx2).1
 have hM2:=HA.out.1.below hb2
 obtain ⟨_,g9,_⟩:=hM2.cell
 have k9:=hM2.fz 9
 have hown:w2.ownsRow B 154 2 (.slice A1 n c1) n (m.scs.flatMap sc2):=by have:=hM2.lists.scs;rwa [← HNN.out] at this
 have HM2:=Lib.hid (And.intro hM2 (And.intro hb2 hown))
 have HW:=Lib.hid (show Chg (fun _=>False) w2 (w2.alloc (.cells #[.int .i64 mx,.int .i64 hi] 154)).drew from ((Chg.refl _ _).alloc _).drew)
 have hm2:=hM2.ty.lt
 have hne1:(Value.slice A1 n c1).ownBlock≠some mb:=fun e=>by have:=hM2.ty.eq (own_ty hown e);revert this;decide
 clear hb2 hM2 hown hx2
 go_wp2_with fail
 go_region_law (refine step_append_lies _ rfl _ _ 30 rfl B 154 i0 _ 2 16 Tryd.underlying30 hi0 hz0 hz1 hz2 rfl (by decide) (.slice A1 n c1) n (m.scs.flatMap sc2) rfl ((HM2.out.2.2.alloc _).drew) ⟨w2.heap.size,0,none⟩ 1 1 [.int .i64 mx,.int .i64 hi] rfl rfl (World.news_of_block (w:=(w2.alloc (.cells #[.int .i64 mx,.int .i64 hi] 154)).drew) (heap_alloc_new w2 _)) (by simp [Value.oneCell']) (by decide) (by have:=hnml.out;unfold maxLen;omega) (by have:=hnml.out;omega) (by have h1:=HM2.out.2.1.size;have h2:=HA.out.2.2.1;simp;omega) _ rfl ?_;intro g cap w3 hown3 hgrow hat hlt;obtain ⟨b1,b2,b3,b4,b5⟩:=app_field (x:=9) hgrow HW.out hm2 hne1 hat g9 k9;have HO:=Lib.hid (And.intro hown3 (And.intro hgrow (And.intro hat (And.intro hlt b5))));clear hown3 hgrow hat hlt b5)
 all_goals
  obtain ⟨hown3,hgrow,hat,hlt,hmb⟩:=HO.out
  have hc3:Chg (fun x=>(Value.slice A1 n c1).ownBlock=some x) w2 w3:=(HW.out.mono fun b _ h=>h.elim).grown hgrow (fun k hk _=>hk)
  have HX:=Lib.hid (HM2.out.1.put9 hc3 (s:=(mx,hi)) (u:=.slice (some ⟨g,0,none⟩) (n+1) cap) (by rw [← HNN.out];exact hown3))
  clear hown3 hgrow hat hlt hmb hc3
  clear b1 b2 b3 b4 g9 k9 hm2 t0 t1 hbl
  generalize (w3.setCell ⟨mb,9,none⟩ (.slice (some ⟨g,0,none⟩) (n+1) cap))=w4 at *
  have hC14:=((show Chg (fun _=>False) w w2 from Chg.of_below HM2.out.2.1).mono (R':=fun x=>B≤x∧(TyB w x 33∨TyB w x 154)) (fun b _ h=>h.elim)).trans HX.out.2 (fun x hx q=>⟨q.1,by
   have e:=HM2.out.2.1.block x hx
   exact q.2.imp (fun t=>t.keep e.symm) fun t=>t.keep e.symm⟩)
  have hiv4:=HA.out.2.1.keep hC14 fun x q _ hty=>by
   rcases q.2 with q | q
   ·have:=hty.eq q;revert this;decide
   ·have:=hty.eq q;revert this;decide
  have HIV:=Lib.hid (And.intro hiv4 hC14)
  obtain ⟨_,g9,_⟩:=HX.out.1.cell
  have hm4:=HX.out.1.ty.lt
  have hwr:IntKind.i64.wrap (n:Int)=(n:Int):=by rw [IntKind.wrap_i64];have:=hnml.out;omega
  have hwr2:IntKind.i64.wrap ((n:Int)+1 - 1)=(n:Int):=by rw [IntKind.wrap_i64];have:=hnml.out;omega
  have HCl:=Lib.hid (fun (W:World) (hW:Below w4.heap.size w4 W)=>cloneI_any W B (.slice ia il ic) al (HIV.out.1.below hW) HA.out.2.2.2)
  clear hC14 hiv4
  have hBW:=Lib.hid (show B≤w4.heap.size by have h1:=HM2.out.2.1.size;have h2:=HA.out.2.2.1;have h3:=HIV.out.2.size;omega)
  go_wp2_with fail
  go_region_law (first
   | (go_simp;go_at_call 68;((with_reducible refine (HCl.out _ (by first | exact (Below.refl _ _).drew | exact ((Below.refl _ w4).alloc (Nat.le_refl _) _).drew)).mono ?_);rintro e w5 ⟨v5,rfl,hv5,hb5⟩;obtain ⟨va,vc,rfl⟩:=hv5.form;(try (have hnw:w5.heap[w4.heap.size]? = some (.cells #[.int .i64 (n:Int)] 3 (0,0)):=(hb5.block _ (by simp)).trans (heap_alloc_new w4 _);have HNW:=Lib.hid hnw;clear hnw));replace hv5:=(show IntsR w5 w4.heap.size (.slice va al.length vc) al from hv5.low (by simp));have hb45:Below w4.heap.size w4 w5:=(by first | exact bhop (Below.refl _ w4).drew hb5 | exact bhop ((Below.refl _ w4).alloc (Nat.le_refl _) _).drew hb5);have d9:w5.cell? ⟨mb,9,none⟩=some (.slice (some ⟨g,0,none⟩) (n+1) cap):=(hb45.cell (p:=⟨mb,9,none⟩) hm4).trans g9;have hm5:mb<w5.heap.size:=Nat.lt_of_lt_of_le hm4 hb45.size;have HB5':=Lib.hid (And.intro hv5 hb45);clear hv5 hb5 hb45))
   | (refine step_append_lies _ rfl _ _ 34 rfl w4.heap.size 3 j0 _ 1 8 Tryd.underlying34 hj0 hy0 hy1 hy2 rfl (by decide) (.slice va al.length vc) al.length (ints al) rfl (HB5'.out.1.own.alloc _) ⟨w5.heap.size,0,none⟩ 1 1 [.int .i64 (n:Int)] rfl rfl (World.news_of_block (w:=w5.alloc (.cells #[.int .i64 (n:Int)] 3)) (heap_alloc_new w5 _)) (by simp [Value.oneCell']) (by decide) (by have:=HA.out.2.2.2;unfold maxLen;omega) (by have:=HA.out.2.2.2;omega) (by have h4:=HB5'.out.2.size;simp;omega) _ rfl ?_;intro g2 cap2 w6 hown5 hgrow5 hat5 hlt5;have HO5:=Lib.hid (And.intro hown5 (show Below w4.heap.size w4 w6 from ((Chg.of_below (R:=fun x=>w4.heap.size≤x) (HB5'.out.2.alloc HB5'.out.2.size _)).grown hgrow5 (fun k hk _=>(HB5'.out.1.own.lt k hk).1)).below (Nat.le_refl _) fun k hk e=>by omega));clear hown5 hgrow5 hat5 hlt5)
   | (refine step_append_lies _ rfl _ _ 34 rfl w4.heap.size 3 j0 _ 1 8 Tryd.underlying34 hj0 hy0 hy1 hy2 rfl (by decide) (.slice va al.length vc) al.length (ints al) rfl HB5'.out.1.own ⟨w4.heap.size,0,none⟩ 1 1 [.int .i64 (n:Int)] rfl rfl (World.news_of_block HNW.out) (by simp [Value.oneCell']) (by decide) (by have:=HA.out.2.2.2;unfold maxLen;omega) (by have:=HA.out.2.2.2;omega) (by have h4:=HB5'.out.2.size;omega) _ rfl ?_;intro g2 cap2 w6 hown5 hgrow5 hat5 hlt5;have HO5:=Lib.hid (And.intro hown5 (show Below w4.heap.size w4 w6 from ((Chg.of_below (R:=fun x=>w4.heap.size≤x) HB5'.out.2).grown hgrow5 (fun k hk _=>(HB5'.out.1.own.lt k hk).1)).below (Nat.le_refl _) fun k hk e=>by omega));clear hown5 hgrow5 hat5 hlt5))
  all_goals
   go_wp2_with fail
   go_ret
   refine ⟨⟨_,_,rfl,HX.out.1.below HO5.out.2,⟨?_,fun e=>by simp at e⟩⟩,HIV.out.2.trans (R':=fun _=>False) (Chg.of_below HO5.out.2) fun _ _ q=>q.elim⟩
   have:=own_low HO5.out.1 hBW.out
   rw [List.length_append,ints,List.map_append,← HNN.out]
   exact this
theorem within_any (w:World) (B mb nb no:Nat) (tc:List Value) (m:PM) (sv cv av iv:Value) (al:List Nat) (k lo hi:Int) (h:MapS w B mb tc m sv cv av) (hiv:IntsR w B iv al) (h0:w.cell? ⟨nb,no,none⟩=some (.int .i64 k)) (h6:w.cell? ⟨nb,no+6,none⟩=some (.int .i64 lo)) (h7:w.cell? ⟨nb,no+7,none⟩=some (.int .i64 hi)) (hn:nb<w.heap.size)
  (hk:k=0∨k=1∨k=2∨k=3∨k=4) (hsc:m.scs.length≤1000000) (hal:al.length≤1000) (hB:B≤w.heap.size) :
  Calls Tryd.prog 46 #[.pointer (some ⟨mb,0,none⟩),.pointer (some ⟨nb,no,none⟩),iv] w fun e w'=>(∃ iv' cv',e=.returned iv'∧MapS w' B mb tc (scP k lo hi m) sv cv' av∧IntsR w' B iv' (belP k lo hi al m))∧Chg (fun x=>B≤x∧(TyB w x 33∨TyB w x 154)) w w':=by
 by_cases h4:k=4
 ·subst h4
  by_cases hc:cntS (max 1 lo) hi=true
  ·have e1:scP 4 lo hi m = { m with scs:=m.scs ++ [(max 1 lo,hi)] }:=by simp [scP,cnt4,hc]
   have e2:belP 4 lo hi al m=al ++ [m.scs.length]:=by simp [belP,cnt4,hc]
   rw [e1,e2]
   exact within_yes w B mb nb no tc m sv cv av iv al lo hi h hiv h0 h6 h7 hn hsc hal hB hc
  ·have hc':cntS (max 1 lo) hi=false:=by simpa using hc
   have e1:scP 4 lo hi m=m:=by simp [scP,cnt4,hc']
   have e2:belP 4 lo hi al m=al:=by simp [belP,cnt4,hc']
   rw [e1,e2]
   exact (within_no w _ nb no lo hi iv h0 h6 h7 hn hc').mono fun e w' ⟨a,b⟩=>⟨⟨_,_,a,h.below b,hiv.below b⟩,Chg.of_below b⟩
 ·have e1:scP k lo hi m=m:=by simp [scP,cnt4,h4]
  have e2:belP k lo hi al m=al:=by simp [belP,cnt4,h4]
  rw [e1,e2]
  exact (within_plain _ nb no k iv w h0 (by omega)).mono fun e w' ⟨a,b⟩=>⟨⟨_,_,a,h.below b,hiv.below b⟩,Chg.of_below b⟩
end Go.Proofs.YtbohmcfplgdlpaaDoor
