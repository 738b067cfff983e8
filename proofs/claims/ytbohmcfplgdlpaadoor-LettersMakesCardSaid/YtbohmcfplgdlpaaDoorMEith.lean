/- The simple tree of alternatives, of their results: a contract.
   Conditions: the results are their own, in memory, one behind the other; they are formed trees' simple ones. -/
import Derived.Test.YtbohmcfplgdlpaaDoorMRow
import Derived.Test.YtbohmcfplgdlpaaDoorMDist
import Derived.Test.YtbohmcfplgdlpaaDoorMSim

/- The simple tree of alternatives, of their results: a contract.
   Conditions: the results are their own, in memory, one behind the other; they are formed trees' simple ones. -/
namespace Go.Proofs.YtbohmcfplgdlpaaDoor
open Go.RowKit Go.Shelf
attribute [local go_sem] nodeAgg
def fE (s:T):Bool:=!vB s
def EI (w:World) (a M:Nat) (rs:List (V×Bool)) (i:Nat) (nb:Bool) (v:Value) (wr:World):Prop :=
 ∃ ts mi,GI w a M 3 fE rs i v ts mi wr∧nb=(rs.take i).any Prod.snd∧(ts=[]→Chg (fun _=>False) w wr)
theorem either_any' {rs:List (V×Bool)} {i:Nat} {t:V} {n b:Bool} (hr:rs[i]? = some (t,n)) (hb:b=(rs.take i).any Prod.snd):(b || n)=(rs.take (i+1)).any Prod.snd:=by
 rw [take_one hr,List.any_append,← hb]
 simp
theorem alts_er (rs:List (V×Bool)):altsP (rs.map er)=fl 3 fE rs:=rfl
theorem eith_none {rs:List (V×Bool)} {r:V×Bool} (h:fl 3 fE rs=[]) (hr:rs[0]? = some r):eitherP (rs.map er)=er r:=by
 cases rs with
 | nil=>simp at hr
 | cons q rs =>
  simp at hr
  subst hr
  unfold eitherP
  rw [alts_er,h]
  rfl
theorem eith_some {rs:List (V×Bool)} {b:Bool} (h:fl 3 fE rs≠[]) (hb:b=(rs.take rs.length).any Prod.snd):eitherP (rs.map er)=(oneOf 3 (leftT 3 [] (fl 3 fE rs)),b):=by
 unfold eitherP
 rw [alts_er]
 cases hl:fl 3 fE rs with
 | nil=>exact absurd hl h
 | cons x xs =>
  rw [hb,List.take_length]
  show (_,(rs.map er).any Prod.snd)=_
  rw [List.any_map]
  rfl
section
variable {w wr w2 w3 w4:World} {a M:Nat} {rs:List (V×Bool)} {i:Nat} {v v':Value} {ts:List V} {mi:Nat} {t:V} {n:Bool} {sa:Option Addr} {sn sc:Nat}
theorem eith_first (hG:GI w a M 3 fE rs i v ts mi wr) (hn:Chg (fun _=>False) w wr) (hseq:SeqR w a rs M) (hr:rs[0]? = some (t,n)) (hM:M≤w.heap.size) (hs:t.v=.slice sa sn sc) (hc:Chg (fun x=>x=w.heap.size) wr w3) :
  GivesS a (er (t,n)) (.returned (.agg #[.int .i64 t.kind,.int .u64 (t.set 0:Nat),.int .u64 (t.set 1:Nat),.int .u64 (t.set 2:Nat),.int .u64 (t.set 3:Nat),.slice sa sn sc,.int .i64 t.lo,.int .i64 t.hi,.bool n])) w3∧Chg (fun x=>a≤x∧NT w x) w w3:=by
 have hc3:=chg_box hG.chg hc (Nat.le_refl _)
 refine ⟨⟨(t,n),by rw [rcells_v hs],rfl,?_⟩,hc3⟩
 cases rs with
 | nil=>simp at hr
 | cons q rs =>
  simp at hr
  subst hr
  obtain ⟨m',h1,h2,h3⟩:=hseq
  have h4:Res wr a m' t:=Res.chg h2 hn fun _ _ _ _=>id
  exact (res_box h4 hG.zb hc).wid (Nat.le_refl _) (by have:=h3.le;have:=hc3.size;omega)
theorem eith_row (hG:GI w a M 3 fE rs i v ts mi wr) (hM:mi≤w.heap.size) (hb:Below wr.heap.size wr w2) (hown:w2.ownsRow (wr.heap.size+2) 27 8 v' (dsV [] ts).length (flat (dsV [] ts))):RowA w2 a w2.heap.size (fun x=>x<w2.heap.size) v' (dsV [] ts):=by
 have hws:=hG.chg.size
 have hG2:=hG.below hb
 refine ⟨own_low hown (by have:=hG.le;omega),fun x hx=>(hown.lt x hx).2,fun t ht=>?_⟩
 have hm:t∈ts:=by
  rcases dsV_mem _ _ t ht with h | h
  ·cases h
  ·exact h
 refine OwnT.mono (hG2.row.kids t hm) fun b _ hr=>⟨⟨hr.1.1,hr.1.2.2.lt,hr.1.2.2⟩,fun e=>?_⟩
 have h1:=(hown.lt b e).1
 have h2:=hr.1.2.1
 omega
theorem eith_done (hG:GI w a M 3 fE rs i v ts mi wr) (hs:t.v=.slice sa sn sc) (ht:Res w2 a w2.heap.size t) (hb:Below wr.heap.size wr w2) (hb3:Below w2.heap.size w2 w3) (hc:Chg (fun x=>x=w.heap.size) w3 w4) :
  GivesS a (erase t,n) (.returned (.agg #[.int .i64 t.kind,.int .u64 (t.set 0:Nat),.int .u64 (t.set 1:Nat),.int .u64 (t.set 2:Nat),.int .u64 (t.set 3:Nat),.slice sa sn sc,.int .i64 t.lo,.int .i64 t.hi,.bool n])) w4∧Chg (fun x=>a≤x∧NT w x) w w4:=by
 have hG3:=hG.below (bhop hb hb3)
 have h3:Res w3 a w2.heap.size t:=ht.chg (Chg.of_below (R:=fun _=>False) hb3) fun _ _ _ _=>id
 exact ⟨⟨(t,n),by rw [rcells_v hs],rfl,(res_box h3 hG3.zb hc).wid (Nat.le_refl _) (Nat.le_trans hb3.size hc.size)⟩,chg_box hG3.chg hc (Nat.le_refl _)⟩
end
theorem gath_ne {k:Int} {ts:List V} {t:V} (h:t.kind=k→t.ps≠[]):gath k ts t≠[]:=fun e=>by
 unfold gath at e
 rw [List.append_eq_nil_iff] at e
 have e2:=e.2
 split at e2
 ·rename_i hk;exact h hk e2
 ·cases e2
theorem eith_v {w:World} {a M:Nat} {rs:List (V×Bool)} {t:V} {n:Bool} (hseq:SeqR w a rs M) (hr:rs[0]? = some (t,n)):∃ sa sn sc,t.v=.slice sa sn sc:=by
 cases rs with
 | nil=>simp at hr
 | cons q rs =>
  simp at hr
  subst hr
  obtain ⟨m',h1,h2,h3⟩:=hseq
  exact (Res.laid h2).slice
set_option maxHeartbeats 4000000 in
set_option maxRecDepth 100000 in
theorem either_any (a M base:Nat) (rs:List (V×Bool)) (pv:Value) (w:World) (hseq:SeqR w a rs M) (hM:M≤w.heap.size) (hown:w.ownsRow base 117 9 pv rs.length (rs.flatMap rcells))
  (hgd:∀ r∈rs,GoodT (erase r.1)) (hsz:szR rs≤900000) (hszt:∀ r∈rs,szT (erase r.1)≤1000000) (h0:rs≠[]) :
  Calls Tryd.prog 64 #[pv] w fun e w'=>GivesS a (eitherP (rs.map er)) e w'∧Chg (fun x=>a≤x∧NT w x) w w':=by
 obtain ⟨A,cp,hpv⟩:=own_form hown
 subst hpv
 have hlen:rs.length≤900000:=by
  refine Nat.le_trans ?_ hsz
  clear hsz hgd hown hseq h0 hszt
  induction rs with
  | nil=>simp
  | cons r rs ih=>simp only [szR,List.map_cons,List.sum_cons,List.length_cons] at ih ⊢;omega
 have HST:=Lib.hid (GI.start 3 fE hseq)
 have hne:∀ r∈rs,r.1.kind=3→r.1.ps≠[]:=fun r hr hk e=>by
  refine (hgd r hr).ws.ne (.inr (by rw [erase_kind];exact hk)) ?_
  rw [erase_ps,e]
  rfl
 have HO:=Lib.hid (And.intro hown (And.intro hM (And.intro hne hsz)))
 have HGD:=Lib.hid (And.intro hgd (And.intro hszt (And.intro h0 hseq)))
 have hn0:(0:Int)≤(rs.length:Int):=by omega
 have hn1:(rs.length:Int)≤900000:=by omega
 obtain ⟨w0,hw0⟩ : ∃ w0,w.alloc (.cells #[.int .i64 0,.int .u64 0,.int .u64 0,.int .u64 0,.int .u64 0,.slice none 0 0,.int .i64 0,.int .i64 0,.bool false] 117)=w0:=⟨_,rfl⟩
 have HST0:=Lib.hid (show Below w.heap.size w w0 by rw [← hw0];exact (Below.refl _ _).alloc (Nat.le_refl _) _)
 rw [hw0] at HST
 clear hseq hM hown hne hsz hlen hgd hszt h0
 go_enter Tryd.func64,Tryd.ntmps64
 go_wp2_with fail
 clear hw0
 go_loopw [3,4,9] (fun nb v x wr=>∃ (i:Nat) (b:Bool),x=.int .i64 i∧nb=.bool b∧i≤rs.length∧EI w a M rs i b v wr) (fun _ _ x _=>match x with | .int _ z=>rs.length - z.toNat | _=>0)
 case atStart=>exact ⟨0,false,rfl,rfl,by omega,[],a,HST.out,by simp,fun _=>Chg.of_below (HST0.out)⟩
 case round =>
  obtain ⟨i,b,rfl,rfl,hi,ts,mi,hG,hb,hv0⟩:=hrel
  have hGo:=hG.parts HO.out.1
  obtain ⟨vA,vcp,hvv⟩:=own_form hG.row.own
  obtain ⟨q,hq⟩ : ∃ q,q=ts.length:=⟨_,rfl⟩
  rw [← hq] at hvv
  subst hvv
  have HG:=Lib.hid (And.intro hG (And.intro hb (And.intro hv0 hq)))
  clear HST hb hv0 hq
  by_cases hlt:i<rs.length
  ·have g1:(i:Int)<(rs.length:Int):=by omega
   have g0:(0:Int)≤(i:Int):=by omega
   obtain ⟨r,hr⟩ : ∃ r,rs[i]? = some r:=⟨_,List.getElem?_eq_getElem hlt⟩
   obtain ⟨t,n⟩:=r
   obtain ⟨g,cap,hgv,_,hgl⟩:=hGo.form (by omega)
   obtain ⟨m',a1,a2,a3,a4⟩:=hG.here hr
   obtain ⟨sa,sc,hs⟩:=own_form a2.row.own
   obtain ⟨sn,hsn⟩ : ∃ sn,sn=t.ps.length:=⟨_,rfl⟩
   rw [← hsn] at hs
   have hc:∀ j,j<9→wr.cell? ⟨g,i * 9+j,none⟩=(rcells (t,n))[j]?:=fun j hj=>by
    have h:=hGo
    rw [hgv] at h
    rw [h.cellAt _ (by omega),rcells_at rs i (t,n) hr j hj]
   have y0:wr.cell? ⟨g,i * 9,none⟩=some (.int .i64 t.kind):=hc 0 (by decide)
   have y1:wr.cell? ⟨g,i * 9+1,none⟩=some (.int .u64 (t.set 0:Nat)):=hc 1 (by decide)
   have y2:wr.cell? ⟨g,i * 9+2,none⟩=some (.int .u64 (t.set 1:Nat)):=hc 2 (by decide)
   have y3:wr.cell? ⟨g,i * 9+3,none⟩=some (.int .u64 (t.set 2:Nat)):=hc 3 (by decide)
   have y4:wr.cell? ⟨g,i * 9+4,none⟩=some (.int .u64 (t.set 3:Nat)):=hc 4 (by decide)
   have y5:wr.cell? ⟨g,i * 9+5,none⟩=some (.slice sa sn sc):=(hc 5 (by decide)).trans (congrArg some hs)
   have y6:wr.cell? ⟨g,i * 9+6,none⟩=some (.int .i64 t.lo):=hc 6 (by decide)
   have y7:wr.cell? ⟨g,i * 9+7,none⟩=some (.int .i64 t.hi):=hc 7 (by decide)
   have y8:wr.cell? ⟨g,i * 9+8,none⟩=some (.bool n):=hc 8 (by decide)
   obtain ⟨w1,hw1,hb1,hz1,hbx⟩:=boxr_new wr t (.slice sa sn sc) n
   have HR:=Lib.hid (And.intro hr (And.intro hs (And.intro a1 (And.intro a2 (And.intro a3 a4)))))
   have HB:=Lib.hid (And.intro hb1 (And.intro hz1 hbx))
   have HI:=Lib.hid hlt
   cases hgv
   clear hc hG hGo hr a1 a2 a3 a4 hs hsn hb1 hz1 hbx hlt hi
   go_upto_region 6 with fail
   clear hw1
   obtain ⟨b0,b1,b2,b3,b4,b5,b6,b7,b8⟩:=HB.out.2.2 w1 (Below.refl _ _)
   have HVO:=Lib.hid (sVoid_any t (.slice sa sn sc) n w1)
   cases hvb:vB (erase t) with
   | true =>
    rw [hvb] at HVO
    have HF:=Lib.hid (show fE (erase t)=false by unfold fE;rw [hvb];rfl)
    clear hvb
    cases b <;> cases n
    all_goals
     go_wp2_with fail
     go_at_call 84
     refine HVO.out.mono ?_
     rintro e w2 ⟨rfl,hb2⟩
     have HB2:=Lib.hid (bhop HB.out.1 hb2)
     clear hb2 y0 y1 y2 y3 y4 y5 y6 y7 y8 b0 b1 b2 b3 b4 b5 b6 b7 b8
     go_wp2_with fail
     go_roundw
     case rel =>
      obtain ⟨m2,h2⟩:=(HG.out.1.below HB2.out).skip HR.out.1 HF.out
      exact ⟨i+1,_,by push_cast;rfl,rfl,HI.out,_,_,h2,either_any' HR.out.1 HG.out.2.1,fun e=>(HG.out.2.2.1 e).trans (Chg.of_below (R:=fun _=>False) HB2.out) fun _ _ e=>e⟩
     case measure=>have:=HI.out;simp;omega
   | false =>
    rw [hvb] at HVO
    have HF:=Lib.hid (show fE (erase t)=true by unfold fE;rw [hvb];rfl)
    clear hvb
    have HGA:=Lib.hid (fun (W:World) (h:Below wr.heap.size wr W)=>row_call HG.out.1 HR.out.1 HR.out.2.1 HR.out.2.2.1 HR.out.2.2.2.1 HR.out.2.2.2.2.1 HR.out.2.2.2.2.2 HO.out.2.1 (HO.out.2.2.1 _ (List.mem_of_getElem? HR.out.1)) HO.out.2.2.2 HG.out.2.2.2 h)
    cases b <;> cases n
    all_goals
     go_wp2_with fail
     go_at_call 84
     refine HVO.out.mono ?_
     rintro e w2 ⟨rfl,hb2⟩
     have HB2:=Lib.hid (bhop HB.out.1 hb2)
     clear b0 b1 b2 b3 b4 b5 b6 b7 b8
     obtain ⟨b0,b1,b2,b3,b4,b5,b6,b7,b8⟩:=HB.out.2.2 w2 hb2
     clear hb2 y0 y1 y2 y3 y4 y5 y6 y7 y8
     go_wp2_with fail
     go_at_call 85
     refine (HGA.out w2 HB2.out).mono ?_
     rintro e w3 ⟨v',rfl,hc3,hrow3⟩
     have HC:=Lib.hid (And.intro hc3 hrow3)
     clear hc3 hrow3 b0 b1 b2 b3 b4 b5 b6 b7 b8
     go_wp2_with fail
     go_roundw
     case rel =>
      exact ⟨i+1,_,by push_cast;rfl,rfl,HI.out,_,_,(HG.out.1.below HB2.out).more HR.out.1 HF.out (HO.out.2.2.1 _ (List.mem_of_getElem? HR.out.1)) (HR.out.2.2.2.2.1.chg (Chg.of_below (R:=fun _=>False) HB2.out) fun _ _ _ _=>id) HR.out.2.2.1 HR.out.2.2.2.2.2 HO.out.2.1 HC.out.1 HC.out.2,either_any' HR.out.1 HG.out.2.1,fun e=>absurd e (gath_ne (HO.out.2.2.1 _ (List.mem_of_getElem? HR.out.1)))⟩
     case measure=>have:=HI.out;simp;omega
  ·have hi2:i=rs.length:=by omega
   subst hi2
   have hne0:=HGD.out.2.2.1
   have her:erases ts=fl 3 fE rs:=by have:=hG.er;rw [List.take_length] at this;exact this
   by_cases hts:ts=[]
   ·have hvn:=hG.nil hts
    have hq0:q=0:=by rw [HG.out.2.2.2,hts];rfl
    subst hq0
    obtain ⟨r,hr⟩ : ∃ r,rs[0]? = some r:=⟨_,List.getElem?_eq_getElem (List.length_pos_iff.2 hne0)⟩
    obtain ⟨t,n⟩:=r
    have hpos:0<rs.length:=List.length_pos_iff.2 hne0
    have hpos':(0:Int)<(rs.length:Int):=by omega
    obtain ⟨g,cap,hgv,_,hgl⟩:=hGo.form hpos
    have hown:=hGo
    cases hgv
    have hs:=eith_v HGD.out.2.2.2 hr
    obtain ⟨sa,sn,sc,hs⟩:=hs
    have hc:∀ j,j<9→wr.cell? ⟨g,j,none⟩=(rcells (t,n))[j]?:=fun j hj=>by
     have h1:=hown.cellAt (0 * 9+j) (by omega)
     rw [rcells_at rs 0 (t,n) hr j hj,Nat.zero_mul,Nat.zero_add] at h1
     exact h1
    have y0:wr.cell? ⟨g,0,none⟩=some (.int .i64 t.kind):=hc 0 (by decide)
    have y1:wr.cell? ⟨g,1,none⟩=some (.int .u64 (t.set 0:Nat)):=hc 1 (by decide)
    have y2:wr.cell? ⟨g,2,none⟩=some (.int .u64 (t.set 1:Nat)):=hc 2 (by decide)
    have y3:wr.cell? ⟨g,3,none⟩=some (.int .u64 (t.set 2:Nat)):=hc 3 (by decide)
    have y4:wr.cell? ⟨g,4,none⟩=some (.int .u64 (t.set 3:Nat)):=hc 4 (by decide)
    have y5:wr.cell? ⟨g,5,none⟩=some (.slice sa sn sc):=(hc 5 (by decide)).trans (congrArg some hs)
    have y6:wr.cell? ⟨g,6,none⟩=some (.int .i64 t.lo):=hc 6 (by decide)
    have y7:wr.cell? ⟨g,7,none⟩=some (.int .i64 t.hi):=hc 7 (by decide)
    have y8:wr.cell? ⟨g,8,none⟩=some (.bool n):=hc 8 (by decide)
    have HE:=Lib.hid (eith_none (by rw [← her,hts];rfl) hr)
    have HX:=Lib.hid (fun (w3:World) (hc:Chg (fun x=>x=w.heap.size) wr w3)=>eith_first HG.out.1 (HG.out.2.2.1 hts) HGD.out.2.2.2 hr HO.out.2.1 hs hc)
    have hzb:=hG.zb
    obtain ⟨⟨s0,s1,s2,s3,s4,s5,s6,s7,s8⟩,f0,f1,f2,f3,f4,f5,f6,f7,f8,hl⟩:=hzb.cells
    have HZB:=Lib.hid hzb
    clear hc hown hG hGo hs hr hts hvn her hne0 hi hlt hzb hpos
    go_wp2_with fail
    have hf:=set9x_heap HZB.out (.int .i64 t.kind) (.int .u64 (t.set 0:Nat)) (.int .u64 (t.set 1:Nat)) (.int .u64 (t.set 2:Nat)) (.int .u64 (t.set 3:Nat)) (.slice sa sn sc) (.int .i64 t.lo) (.int .i64 t.hi) (.bool n)
    have hch:=set9x_chg wr w.heap.size (.int .i64 t.kind) (.int .u64 (t.set 0:Nat)) (.int .u64 (t.set 1:Nat)) (.int .u64 (t.set 2:Nat)) (.int .u64 (t.set 3:Nat)) (.slice sa sn sc) (.int .i64 t.lo) (.int .i64 t.hi) (.bool n)
    clear s0 s1 s2 s3 s4 s5 s6 s7 s8 f0 f1 f2 f3 f4 f5 f6 f7 f8 y0 y1 y2 y3 y4 y5 y6 y7 y8
    generalize (((((((((wr.setCell ⟨w.heap.size,0,none⟩ (.int .i64 t.kind)).setCell ⟨w.heap.size,1,none⟩ (.int .u64 (t.set 0:Nat))).setCell ⟨w.heap.size,2,none⟩ (.int .u64 (t.set 1:Nat))).setCell ⟨w.heap.size,3,none⟩ (.int .u64 (t.set 2:Nat))).setCell ⟨w.heap.size,4,none⟩ (.int .u64 (t.set 3:Nat))).setCell ⟨w.heap.size,5,none⟩ (.slice sa sn sc)).setCell ⟨w.heap.size,6,none⟩ (.int .i64 t.lo)).setCell ⟨w.heap.size,7,none⟩ (.int .i64 t.hi)).setCell ⟨w.heap.size,8,none⟩ (.bool n))=w3 at *
    obtain ⟨r0,r1,r2,r3,r4,r5,r6,r7,r8⟩:=cells9 hf
    refine bodyPost_ret (v:=.agg #[.int .i64 t.kind,.int .u64 (t.set 0:Nat),.int .u64 (t.set 1:Nat),.int .u64 (t.set 2:Nat),.int .u64 (t.set 3:Nat),.slice sa sn sc,.int .i64 t.lo,.int .i64 t.hi,.bool n]) (by simp [results,Tryd.results64,go_sem,r0,r1,r2,r3,r4,r5,r6,r7,r8]) rfl ?_
    rw [HE.out]
    exact HX.out w3 hch
   ·have hqp:0<q:=by rw [HG.out.2.2.2];exact List.length_pos_iff.2 hts
    have gq:((q:Int) == 0)=false:=by simp;omega
    have hmiM:mi≤w.heap.size:=by have h1:=hG.seq.le;have h2:=HO.out.2.1;omega
    have hal:=alts_good (rs:=rs.map er) fun x hx=>by
     obtain ⟨r,hr,rfl⟩:=List.mem_map.1 hx
     exact HGD.out.1 r hr
    have hat:∀ t∈ts,WsT (erase t)∧vdT (erase t)=false∧∃ r∈rs.map er,szT (erase t)≤szT r.1:=fun t ht=>hal _ (by
     show erase t∈fl 3 fE rs
     rw [← her,erases_map]
     exact List.mem_map_of_mem ht)
    have HDI:=Lib.hid (distinct_any a mi (fun x=>x<mi∨w.heap.size≤x) (.slice vA q vcp) ts wr hG.row (fun t ht=>by
      obtain ⟨_,_,r,hr,hle⟩:=hat t ht
      obtain ⟨r',hr',rfl⟩:=List.mem_map.1 hr
      exact Nat.le_trans hle (HGD.out.2.1 r' hr')) (by have h1:=hG.len;have h2:=HO.out.2.2.2;omega) fun t ht u hu hlk=>oV_erase (like_eq (hat t ht).1 (hat u hu).1 hlk))
    have HE:=Lib.hid (show eitherP (rs.map er)=(erases (dsV [] ts) |> oneOf 3,b) by rw [eith_some (by rw [← her,erases_map];simpa using hts) HG.out.2.1,dsV_erase _ _ (fun t ht=>(hat t ht).2.1),her];rfl)
    have HL:=Lib.hid (show (dsV [] ts).length≤1000000 by have h0:=dsV_len ts [];have h1:=hG.len;have h2:=HO.out.2.2.2;simp at h0;omega)
    have HGG:=Lib.hid (And.intro hG hmiM)
    clear hG hGo hts her hne0 hi hlt hal hat hmiM hqp
    go_wp2_with fail
    go_at_call 87
    refine HDI.out.mono ?_
    rintro e w2 ⟨v2,rfl,hown2,hb2⟩
    have hrow2:=eith_row HGG.out.1 HGG.out.2 hb2 hown2
    have HJ:=Lib.hid (cjoined_any a w2.heap.size (fun x=>x<w2.heap.size) 3 v2 (dsV [] ts) w2 hrow2 HL.out)
    have HRJ:=Lib.hid (Res.join hrow2 (Nat.le_refl _) (fun x hx=>hx) 3)
    have HE2:=Lib.hid (show eitherP (rs.map er)=(erase (joinV 3 v2 (dsV [] ts)),b) by rw [HE.out,join_erase])
    have HB2:=Lib.hid hb2
    clear hown2 hb2 hrow2
    generalize joinV 3 v2 (dsV [] ts)=t at *
    go_wp2_with fail
    go_at_call 86
    refine HJ.out.mono ?_
    rintro e w3 ⟨⟨sa,sn,sc,hs,rfl⟩,hb3⟩
    have HB3:=Lib.hid hb3
    have HS:=Lib.hid hs
    have HZB:=Lib.hid (HGG.out.1.below (bhop HB2.out hb3)).zb
    obtain ⟨⟨s0,s1,s2,s3,s4,s5,s6,s7,s8⟩,f0,f1,f2,f3,f4,f5,f6,f7,f8,hl⟩:=HZB.out.cells
    clear hb3 hs
    go_wp2_with fail
    have hf:=set9x_heap HZB.out (.int .i64 t.kind) (.int .u64 (t.set 0:Nat)) (.int .u64 (t.set 1:Nat)) (.int .u64 (t.set 2:Nat)) (.int .u64 (t.set 3:Nat)) (.slice sa sn sc) (.int .i64 t.lo) (.int .i64 t.hi) (.bool b)
    have hch:=set9x_chg w3 w.heap.size (.int .i64 t.kind) (.int .u64 (t.set 0:Nat)) (.int .u64 (t.set 1:Nat)) (.int .u64 (t.set 2:Nat)) (.int .u64 (t.set 3:Nat)) (.slice sa sn sc) (.int .i64 t.lo) (.int .i64 t.hi) (.bool b)
    clear s0 s1 s2 s3 s4 s5 s6 s7 s8 f0 f1 f2 f3 f4 f5 f6 f7 f8
    generalize (((((((((w3.setCell ⟨w.heap.size,0,none⟩ (.int .i64 t.kind)).setCell ⟨w.heap.size,1,none⟩ (.int .u64 (t.set 0:Nat))).setCell ⟨w.heap.size,2,none⟩ (.int .u64 (t.set 1:Nat))).setCell ⟨w.heap.size,3,none⟩ (.int .u64 (t.set 2:Nat))).setCell ⟨w.heap.size,4,none⟩ (.int .u64 (t.set 3:Nat))).setCell ⟨w.heap.size,5,none⟩ (.slice sa sn sc)).setCell ⟨w.heap.size,6,none⟩ (.int .i64 t.lo)).setCell ⟨w.heap.size,7,none⟩ (.int .i64 t.hi)).setCell ⟨w.heap.size,8,none⟩ (.bool b))=w4 at *
    obtain ⟨r0,r1,r2,r3,r4,r5,r6,r7,r8⟩:=cells9 hf
    refine bodyPost_ret (v:=.agg #[.int .i64 t.kind,.int .u64 (t.set 0:Nat),.int .u64 (t.set 1:Nat),.int .u64 (t.set 2:Nat),.int .u64 (t.set 3:Nat),.slice sa sn sc,.int .i64 t.lo,.int .i64 t.hi,.bool b]) (by simp [results,Tryd.results64,go_sem,r0,r1,r2,r3,r4,r5,r6,r7,r8]) rfl ?_
    rw [HE2.out]
    exact eith_done HGG.out.1 HS.out HRJ.out HB2.out HB3.out hch
end Go.Proofs.YtbohmcfplgdlpaaDoor
