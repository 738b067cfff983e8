/- What the call that opens a group comes to: a contract.
   Conditions: the node lies in memory. -/
import Derived.Test.YtbohmcfplgdlpaaDoorMMelt
import Derived.Deep.LoopGhost
import Derived.Deep.RegionLaw

/- What the call for a group's next part comes to: a contract.
   Conditions: those that the theorem states. -/
namespace Go.Proofs.YtbohmcfplgdlpaaDoor
open Go.RowKit Go.Shelf
def LNextS (W:World) (base B G o:Nat) (cs:Array Value) (rv0:Value) (k:Int) (st0:List (Value×List V)) (n:Nat) (wr:World):Prop :=
 ∃ st rv,NH W base B G o cs 145 rv0 st rv wr∧todoF k st0=todoF k st∧wF st≤wF st0∧n=wF st
set_option maxHeartbeats 4000000 in
set_option maxRecDepth 100000 in
theorem next_anyS (W:World) (base B G o nb no:Nat) (cs:Array Value) (rv0:Value) (t:V) (st0:List (Value×List V)) (hown:W.ownsRow base 25 1 rv0 st0.length (st0.map Prod.fst).reverse)
  (hrows:∀ p∈st0,Laid W (fun x=>x<B) (.node 0 zeros 0 0 p.1 p.2)) (hG:W.heap[G]? = some (.cells cs 145 (0,0))) (hc:cs[o+2]? = some rv0) (hn:cs[o]? = some (.pointer (some ⟨nb,no,none⟩)))
  (hnode:NodeB B W nb no t) (hB:B≤base) (hBG:B≤G) (hsz:base≤W.heap.size) (hw:wF st0≤1000000) :
  Calls Tryd.prog 62 #[.pointer (some ⟨G,o,none⟩)] W (NextR W base B G o cs 145 rv0 t.kind st0):=by
 have hty:145≠25:=by decide
 have ho:o+2<cs.size:=(Array.getElem?_eq_some_iff.1 hc).1
 have HST:=Lib.hid (show LNextS W base B G o cs rv0 t.kind st0 (wF st0) W from ⟨st0,rv0,NH.start hown hrows hG hc,rfl,Nat.le_refl _,rfl⟩)
 have HND:=Lib.hid (And.intro hnode (And.intro hB (And.intro hBG (And.intro hsz (And.intro hty hw)))))
 have HO:=Lib.hid (And.intro ho hn)
 have HR0:=Lib.hid (fun x (e:rv0.ownBlock=some x)=>(hown.lt x e).1)
 obtain ⟨i0,hi,hz0,hz1,hz2⟩:=info_parts info25
 clear hown hrows hG hc hn hnode hB hBG hsz hty ho hw
 go_enter Tryd.func62,Tryd.ntmps62
 go_wp2_with fail
 go_loopw [3] (fun _ wr=>∃ n,LNextS W base B G o cs rv0 t.kind st0 n wr) (fun _ wr=>leastOf (fun n=>LNextS W base B G o cs rv0 t.kind st0 n wr))
 case atStart=>exact ⟨_,HST.out⟩
 case round =>
  have hls:=(leastOf_spec hrel).1
  obtain ⟨st,rv,hH,htd,hwt,hN⟩:=hls
  have HN:=Lib.hid hN
  have HTD:=Lib.hid (And.intro htd hwt)
  clear hN hrel htd hwt
  have hcell0:wr.cell? ⟨G,o,none⟩=some (.pointer (some ⟨nb,no,none⟩)):=by rw [hH.cell o (by omega)];exact HO.out.2
  have hrest:=hH.rest HO.out.1
  have hGl:=hH.lt
  have hGf:=hH.fz (o+2)
  cases st with
  | nil =>
   obtain ⟨A,cp,rfl⟩:=own_form hH.own
   have HH:=Lib.hid hH
   simp only [List.length_nil] at hrest
   clear hH
   go_wp2_with fail
   go_ret
   exact ⟨[],_,HH.out,.inl ⟨by rw [HTD.out.1,todoF],rfl,rfl⟩⟩
  | cons p st =>
   obtain ⟨v,row⟩:=p
   have hlen:st.length+1≤1000000:=by have h1:=wF_len ((v,row) :: st);have h2:=HTD.out.2;have h3:=HND.out.2.2.2.2.2;simp only [List.length_cons] at h1;omega
   obtain ⟨g,cap,rfl⟩:=ownsRow_succ hH.own
   have hrow:=hH.rows (v,row) (by simp)
   have hgl:=(hH.own.lt g rfl).2
   have hgb:=(hH.own.lt g rfl).1
   have hgG:g≠G:=hH.off HND.out.2.2.2.2.1 (g:=g) rfl
   have hGg:G≠g:=fun e=>hgG e.symm
   have hgf:wr.frozen? ⟨g,st.length,none⟩=false:=hH.own.frozenAt _
   have hcell:wr.cell? ⟨g,st.length,none⟩=some v:=by
    have:=hH.own.cellAt st.length (by simp)
    rw [this,List.map_cons,List.reverse_cons,List.getElem?_append_right (by simp)]
    simp
   have hcap:(st.length:Int)+1≤(cap:Int):=by
    rcases hH.own.2 with ⟨h1,_⟩ | ⟨g',cap',cur,hv,_,_,hle,_⟩
    ·cases h1
    ·simp only [Value.slice.injEq,List.length_cons] at hv hle;omega
   have hcap2:(st.length:Int)≤(cap:Int):=by omega
   have m1:(0:Int)≤(st.length:Int):=by omega
   have m2:(0:Int)<(st.length:Int)+1:=by omega
   have m3:(st.length:Int)<(st.length:Int)+1:=by omega
   have m4:(st.length:Int)≤2000000:=by omega
   cases row with
   | nil =>
    obtain ⟨ra,rc,rfl⟩:=laid_nil hrow
    have hpop:LNextS W base B G o cs rv0 t.kind st0 (wF st) (wr.setCell ⟨G,o+2,none⟩ (.slice (some ⟨g,0,none⟩) st.length cap)) :=
     ⟨st,_,hH.pop HND.out.2.2.1 HND.out.2.2.2.2.1,by rw [HTD.out.1,todoF_nil],by have:=HTD.out.2;rw [wF_nil] at this;omega,rfl⟩
    have HP:=Lib.hid hpop
    clear hpop hrow hH
    go_wp2_with fail
    go_roundw
    case rel=>exact ⟨_,HP.out⟩
    case measure =>
     rw [HN.out]
     refine Nat.lt_of_le_of_lt ((leastOf_spec ⟨_,HP.out⟩).2 _ HP.out) ?_
     rw [wF_nil]
     omega
   | cons u us =>
    obtain ⟨b,off,rcap,rfl⟩:=laid_row hrow
    obtain ⟨htail,hlu,hcu,hblt,hbR,hrcap⟩:=laid_tail hrow
    obtain ⟨ua,un,uc,husl⟩:=hlu.slice
    have hbB:b<B:=hbR
    have hbg:b≠g:=by have:=HND.out.2.1;omega
    have hgb2:g≠b:=fun e=>hbg e.symm
    have hbG:b≠G:=by have:=HND.out.2.2.1;omega
    have hGb:G≠b:=fun e=>hbG e.symm
    have e5:wr.cell? ⟨b,off+5,none⟩=some (.slice ua un uc):=hcu 5 _ (by rw [← husl];rfl)
    have u1:(0:Int)≤(us.length:Int):=by omega
    have u2:(0:Int)<(us.length:Int)+1:=by omega
    have u3:((us.length:Int)+1 == 0)=false:=by simp;omega
    have u4:¬ (us.length:Int)+1=0:=by omega
    have u5:(1:Int)≤(us.length:Int)+1:=by omega
    have u6:(us.length:Int)+1≤(rcap:Int):=by omega
    have hnd:NodeB B wr nb no t:=HND.out.1.chg (hH.chg.mono fun x _ e=>by
     have h2:=HND.out.2.2.1
     have h3:=HND.out.2.1
     rcases e with e | e
     ·omega
     ·have:=HR0.out x e;omega)
    have HML:=Lib.hid (fun (W3:World) (hch:Chg (fun x=>B≤x) wr W3)=>melts_any b off nb no u t W3
     (fun j x hx=>(hch.cell (off+j) hblt (by omega)).trans (hcu j x hx)) (hnd.chg hch).2.1)
    have HU:=Lib.hid (fun (W3:World) (hch:Chg (fun x=>B≤x) wr W3)=>(show NodeB B W3 b off u from ⟨hbB,fun j x hx=>(hch.cell (off+j) hblt (by omega)).trans (hcu j x hx),hlu.chg hch fun x _ hx e=>by omega⟩))
    have HG0:=Lib.hid (show Chg (fun x=>B≤x) wr (wr.setCell ⟨g,st.length,none⟩ (.bool false)) from (Chg.refl _ wr).setCell (p:=⟨g,st.length,none⟩) (fun _=>by show B≤g;have:=HND.out.2.1;omega) _)
    have HWT:=Lib.hid (fun (tv:Value)=>And.intro (wF_push (.slice (some ⟨b,off,none⟩) (us.length+1) rcap) tv u us st) (wF_cons (.slice (some ⟨b,off,none⟩) (us.length+1) rcap) tv u us st))
    have HTY:=Lib.hid (fun (tv:Value) (h:meltK u.kind u.lo u.hi t.kind=true)=>HTD.out.1.trans (todoF_yes (v':=tv) h))
    have HTN:=Lib.hid (fun (tv:Value) (h:meltK u.kind u.lo u.hi t.kind=false)=>HTD.out.1.trans (todoF_no (v':=tv) h))
    have HUS:=Lib.hid husl
    have HRC:=Lib.hid hrcap
    by_cases hc1:rcap=1
    ·have hus:us=[]:=by cases us with
      | nil=>rfl
      | cons x xs=>simp only [List.length_cons] at hrcap;omega
     subst hus
     subst hc1
     have HT:=Lib.hid (hH.take HND.out.2.1 HND.out.2.2.2.2.1 (laid_null wr (fun x=>x<B) (some ⟨b,off,none⟩) 0))
     have hbl:=hblt
     clear htail hlu hrow hcu husl hrcap hH hnd hblt hbR
     go_wp2_with fail
     go_region
     have hT3:=HT.out.drew
     have hch3:Chg (fun x=>x=g) wr (wr.setCell ⟨g,st.length,none⟩ (.slice (some ⟨b,off,none⟩) 0 0)).drew:=((Chg.refl (fun x=>x=g) wr).setCell (p:=⟨g,st.length,none⟩) (fun _=>rfl) _).drew
     have hchB:Chg (fun x=>B≤x) wr (wr.setCell ⟨g,st.length,none⟩ (.slice (some ⟨b,off,none⟩) 0 0)).drew:=hch3.mono fun x _ e=>by have:=HND.out.2.1;omega
     have r0:=hT3.cell o (by omega)
     rw [HO.out.2] at r0
     have e5':=(hch3.cell (off+5) hbl (by omega)).trans e5
     have HM3:=Lib.hid (HML.out _ hchB)
     have HU3:=Lib.hid (HU.out _ hchB)
     have HT3:=Lib.hid hT3
     clear hch3 hchB hT3 HT HML HU e5 hcell hcell0 hrest hgf
     generalize (wr.setCell ⟨g,st.length,none⟩ (.slice (some ⟨b,off,none⟩) 0 0)).drew=W3 at *
     go_wp2_with fail
     go_at_call 83
     refine HM3.out.mono ?_
     rintro e W4 ⟨rfl,n,rfl⟩
     have HT4:=Lib.hid (HT3.out.draw n)
     have HU4:=Lib.hid (HU3.out.chg ((Chg.refl (fun x=>B≤x) W3).drewN n))
     have r4:(W3.drewN n).cell? ⟨G,o,none⟩=some (.pointer (some ⟨nb,no,none⟩)):=r0
     have e54:(W3.drewN n).cell? ⟨b,off+5,none⟩=some (.slice ua un uc):=e5'
     clear HT3 HU3 HM3 r0 e5'
     generalize W3.drewN n=W4 at *
     cases hm:meltK u.kind u.lo u.hi t.kind with
     | false =>
      have HMM:=Lib.hid hm
      clear hm
      go_wp2_with fail
      go_ret
      refine ⟨_,_,HT4.out,.inr ⟨u,b,off,rfl,HU4.out,?_,?_⟩⟩
      ·exact HTN.out (.slice (some ⟨b,off,none⟩) 0 0) HMM.out
      ·have:=HTD.out.2
       have:=(HWT.out (.slice (some ⟨b,off,none⟩) 0 0)).2
       omega
     | true =>
      have HMM:=Lib.hid hm
      have r2:=HT4.out.rest HO.out.1
      have rf:=HT4.out.fz (o+2)
      have rl:=HT4.out.lt
      have hgl4:=(HT4.out.own.lt g rfl).2
      have hgc4:=HT4.out.own.frozenAt st.length
      clear hm
      go_wp2_with fail
      go_region_law (refine step_append_lies _ rfl _ _ 143 rfl base 25 i0 (.slice none 0 0) 1 24 Tryd.underlying143 hi hz0 hz1 hz2 rfl (by decide) (.slice (some ⟨g,0,none⟩) (st.length+1) cap) (st.length+1) ((((.slice (some ⟨b,off,none⟩) 0 0),([]:List V)) :: st).map Prod.fst).reverse rfl (HT4.out.own.alloc _).drew ⟨W4.heap.size,0,none⟩ 1 1 [.slice ua un uc] rfl rfl (World.news_of_block (w:=(W4.alloc (.cells #[.slice ua un uc] 25)).drew) (heap_alloc_new W4 _)) (by simp [Value.oneCell']) (by decide) (by unfold maxLen;omega) (by omega) (by have:=(HT4.out.own.lt g rfl).1;have:=(HT4.out.own.lt g rfl).2;simp;omega) _ rfl ?_;intro g5 cap5 w5 hown5 hgrow5 hat5 hlt5;have hP:=HT4.out.drew.push (r:=.slice ua un uc) (ps:=u.ps) (ob:=.cells #[.slice ua un uc] 25) HND.out.2.1 HND.out.2.2.1 HND.out.2.2.2.2.1 (by have:=laid_parts HU4.out.2.2;rw [HUS.out] at this;exact this.chg ((Chg.refl (fun _=>False) W4).drew) fun _ _ _=>id) hgrow5 hown5 (hat5.imp id fun e=>by rw [e];simp);have c5:w5.heap[G]? = W4.heap[G]?:=(hgrow5.block G (by simp;omega) (fun e=>hGg (Option.some.inj e))).trans (Below.heap_alloc W4 _ _ rl);have HC5:=Lib.hid (show LNextS W base B G o cs rv0 t.kind st0 (wF ((u.v,u.ps) :: ((.slice (some ⟨b,off,none⟩) 0 0),([]:List V)) :: st)) (w5.setCell ⟨G,o+2,none⟩ (.slice (some ⟨g5,0,none⟩) (st.length+1+1) cap5)) from ⟨_,_,hP,by rw [HTY.out (.slice (some ⟨b,off,none⟩) 0 0) HMM.out,HUS.out],by have h1:=HTD.out.2;have h2:=(HWT.out (.slice (some ⟨b,off,none⟩) 0 0)).1;rw [HUS.out] at h2;omega,by rw [HUS.out]⟩);have f5:=(World.frozen?_of_block (w:=W4) c5:w5.frozen? ⟨G,o+2,none⟩=_).trans rf;have d5:=(World.cell?_of_block (w:=W4) c5:w5.cell? ⟨G,o+2,none⟩=_).trans r2;have l5:=hlt5;clear hown5 hgrow5 hat5 hP c5)
      all_goals
       go_wp2_with fail
       go_roundw
       case rel=>exact ⟨_,HC5.out⟩
       case measure =>
        rw [HN.out]
        refine Nat.lt_of_le_of_lt ((leastOf_spec ⟨_,HC5.out⟩).2 _ HC5.out) ?_
        have:=(HWT.out (.slice (some ⟨b,off,none⟩) 0 0)).1
        omega
    ·have hc2:((1:Int) == (rcap:Int))=false:=by simp;omega
     have hc3:¬ (1:Int)=(rcap:Int):=by omega
     have HT:=Lib.hid (hH.take HND.out.2.1 HND.out.2.2.2.2.1 htail)
     have hbl:=hblt
     clear htail hlu hrow hcu husl hrcap hH hnd hblt hbR
     go_wp2_with fail
     go_region
     have hT3:=HT.out.drew
     have hch3:Chg (fun x=>x=g) wr (wr.setCell ⟨g,st.length,none⟩ (.slice (some ⟨b,off+8,none⟩) us.length (rcap - 1))).drew:=((Chg.refl (fun x=>x=g) wr).setCell (p:=⟨g,st.length,none⟩) (fun _=>rfl) _).drew
     have hchB:Chg (fun x=>B≤x) wr (wr.setCell ⟨g,st.length,none⟩ (.slice (some ⟨b,off+8,none⟩) us.length (rcap - 1))).drew:=hch3.mono fun x _ e=>by have:=HND.out.2.1;omega
     have r0:=hT3.cell o (by omega)
     rw [HO.out.2] at r0
     have e5':=(hch3.cell (off+5) hbl (by omega)).trans e5
     have HM3:=Lib.hid (HML.out _ hchB)
     have HU3:=Lib.hid (HU.out _ hchB)
     have HT3:=Lib.hid hT3
     clear hch3 hchB hT3 HT HML HU e5 hcell hcell0 hrest hgf
     generalize (wr.setCell ⟨g,st.length,none⟩ (.slice (some ⟨b,off+8,none⟩) us.length (rcap - 1))).drew=W3 at *
     go_wp2_with fail
     go_at_call 83
     refine HM3.out.mono ?_
     rintro e W4 ⟨rfl,n,rfl⟩
     have HT4:=Lib.hid (HT3.out.draw n)
     have HU4:=Lib.hid (HU3.out.chg ((Chg.refl (fun x=>B≤x) W3).drewN n))
     have r4:(W3.drewN n).cell? ⟨G,o,none⟩=some (.pointer (some ⟨nb,no,none⟩)):=r0
     have e54:(W3.drewN n).cell? ⟨b,off+5,none⟩=some (.slice ua un uc):=e5'
     clear HT3 HU3 HM3 r0 e5'
     generalize W3.drewN n=W4 at *
     cases hm:meltK u.kind u.lo u.hi t.kind with
     | false =>
      have HMM:=Lib.hid hm
      clear hm
      go_wp2_with fail
      go_ret
      refine ⟨_,_,HT4.out,.inr ⟨u,b,off,rfl,HU4.out,?_,?_⟩⟩
      ·exact HTN.out (.slice (some ⟨b,off+8,none⟩) us.length (rcap - 1)) HMM.out
      ·have:=HTD.out.2
       have:=(HWT.out (.slice (some ⟨b,off+8,none⟩) us.length (rcap - 1))).2
       omega
     | true =>
      have HMM:=Lib.hid hm
      have r2:=HT4.out.rest HO.out.1
      have rf:=HT4.out.fz (o+2)
      have rl:=HT4.out.lt
      have hgl4:=(HT4.out.own.lt g rfl).2
      have hgc4:=HT4.out.own.frozenAt st.length
      clear hm
      go_wp2_with fail
      go_region_law (refine step_append_lies _ rfl _ _ 143 rfl base 25 i0 (.slice none 0 0) 1 24 Tryd.underlying143 hi hz0 hz1 hz2 rfl (by decide) (.slice (some ⟨g,0,none⟩) (st.length+1) cap) (st.length+1) ((((.slice (some ⟨b,off+8,none⟩) us.length (rcap - 1)),us) :: st).map Prod.fst).reverse rfl (HT4.out.own.alloc _).drew ⟨W4.heap.size,0,none⟩ 1 1 [.slice ua un uc] rfl rfl (World.news_of_block (w:=(W4.alloc (.cells #[.slice ua un uc] 25)).drew) (heap_alloc_new W4 _)) (by simp [Value.oneCell']) (by decide) (by unfold maxLen;omega) (by omega) (by have:=(HT4.out.own.lt g rfl).1;have:=(HT4.out.own.lt g rfl).2;simp;omega) _ rfl ?_;intro g5 cap5 w5 hown5 hgrow5 hat5 hlt5;have hP:=HT4.out.drew.push (r:=.slice ua un uc) (ps:=u.ps) (ob:=.cells #[.slice ua un uc] 25) HND.out.2.1 HND.out.2.2.1 HND.out.2.2.2.2.1 (by have:=laid_parts HU4.out.2.2;rw [HUS.out] at this;exact this.chg ((Chg.refl (fun _=>False) W4).drew) fun _ _ _=>id) hgrow5 hown5 (hat5.imp id fun e=>by rw [e];simp);have c5:w5.heap[G]? = W4.heap[G]?:=(hgrow5.block G (by simp;omega) (fun e=>hGg (Option.some.inj e))).trans (Below.heap_alloc W4 _ _ rl);have HC5:=Lib.hid (show LNextS W base B G o cs rv0 t.kind st0 (wF ((u.v,u.ps) :: ((.slice (some ⟨b,off+8,none⟩) us.length (rcap - 1)),us) :: st)) (w5.setCell ⟨G,o+2,none⟩ (.slice (some ⟨g5,0,none⟩) (st.length+1+1) cap5)) from ⟨_,_,hP,by rw [HTY.out (.slice (some ⟨b,off+8,none⟩) us.length (rcap - 1)) HMM.out,HUS.out],by have h1:=HTD.out.2;have h2:=(HWT.out (.slice (some ⟨b,off+8,none⟩) us.length (rcap - 1))).1;rw [HUS.out] at h2;omega,by rw [HUS.out]⟩);have f5:=(World.frozen?_of_block (w:=W4) c5:w5.frozen? ⟨G,o+2,none⟩=_).trans rf;have d5:=(World.cell?_of_block (w:=W4) c5:w5.cell? ⟨G,o+2,none⟩=_).trans r2;have l5:=hlt5;clear hown5 hgrow5 hat5 hP c5)
      all_goals
       go_wp2_with fail
       go_roundw
       case rel=>exact ⟨_,HC5.out⟩
       case measure =>
        rw [HN.out]
        refine Nat.lt_of_le_of_lt ((leastOf_spec ⟨_,HC5.out⟩).2 _ HC5.out) ?_
        have:=(HWT.out (.slice (some ⟨b,off+8,none⟩) us.length (rcap - 1))).1
        omega
end Go.Proofs.YtbohmcfplgdlpaaDoor

/- What the call that opens a group comes to: a contract.
   Conditions: the node lies in memory. -/
namespace Go.Proofs.YtbohmcfplgdlpaaDoor
open Go.RowKit Go.Shelf
def OpenedRS (B:Nat) (W:World) (nb no:Nat) (t:V) (e:Ending) (w':World):Prop :=
 ∃ rv st,e=.returned (.agg #[.pointer (some ⟨nb,no,none⟩),.slice none 0 0,rv])∧w'.ownsRow W.heap.size 25 1 rv st.length (st.map Prod.fst).reverse ∧
  (∀ p∈st,Laid w' (fun x=>x<B) (.node 0 zeros 0 0 p.1 p.2))∧todoF t.kind st=flatsV t.kind t.ps∧wF st≤3 * szsT (erases t.ps)+1∧Below W.heap.size W w'
set_option maxHeartbeats 2000000 in
set_option maxRecDepth 100000 in
theorem opened_anyS (B nb no:Nat) (t:V) (W:World) (h:NodeB B W nb no t):Calls Tryd.prog 61 #[.pointer (some ⟨nb,no,none⟩)] W (OpenedRS B W nb no t):=by
 obtain ⟨sa,sc,hv,_⟩:=laid_row' h.2.2
 have e5:W.cell? ⟨nb,no+5,none⟩=some (.slice sa t.ps.length sc):=h.five hv
 have hlt:=h.at.lt
 have hne:nb≠W.heap.size:=by omega
 have HL:=Lib.hid (And.intro h.2.2 hv)
 by_cases h0:t.ps=[]
 ·have HT:=Lib.hid h0
  rw [h0] at e5
  simp only [List.length_nil] at e5
  clear h h0 hv
  go_enter Tryd.func61,Tryd.ntmps61
  go_wp2_with fail
  refine bodyPost_ret (v:=.agg #[.pointer (some ⟨nb,no,none⟩),.slice none 0 0,.slice none 0 0]) (by simp [results,Tryd.results61,go_sem]) rfl ?_
  refine ⟨_,[],rfl,World.ownsRow_nil _ _ _ _,by simp,by rw [HT.out,todoF,flatsV],by rw [wF];omega,?_⟩
  exact (Below.refl _ W).alloc (Nat.le_refl _) _
 ·have hn:((t.ps.length:Int) == 0)=false:=by
   have:t.ps.length≠0:=fun e=>h0 (List.eq_nil_of_length_eq_zero e)
   simp;omega
  have hn2:(0:Int)≤(t.ps.length:Int):=by omega
  clear h h0 hv
  go_enter Tryd.func61,Tryd.ntmps61
  go_wp2_with fail
  refine bodyPost_ret (v:=.agg #[.pointer (some ⟨nb,no,none⟩),.slice none 0 0,.slice (some ⟨W.heap.size+1,0,none⟩) 1 1]) (by simp [results,Tryd.results61,go_sem]) rfl ?_
  have hch:Below W.heap.size W ((W.alloc (.cells #[.pointer (some ⟨nb,no,none⟩),.slice none 0 0,.slice (some ⟨W.heap.size+1,0,none⟩) 1 1] 145)).alloc (.cells #[.slice sa t.ps.length sc] 25)):=((Below.refl _ W).alloc (Nat.le_refl _) _).alloc (by simp) _
  refine ⟨_,[(.slice sa t.ps.length sc,t.ps)],rfl,?_,fun p hp=>?_,by rw [todoF,todoF,List.append_nil],by simp only [wF];omega,hch⟩
  ·have:=World.ownsRow_lit (e:=25) (size:=1) (base:=W.heap.size) (W.alloc (.cells #[.pointer (some ⟨nb,no,none⟩),.slice none 0 0,.slice (some ⟨W.heap.size+1,0,none⟩) 1 1] 145)) #[.slice sa t.ps.length sc] 1 (by simp) (by unfold maxLen;omega) rfl
   rw [World.size_alloc] at this
   exact this
  ·simp at hp
   subst hp
   have:=laid_parts HL.out.1
   rw [HL.out.2] at this
   exact laid_low' this hch
end Go.Proofs.YtbohmcfplgdlpaaDoor
