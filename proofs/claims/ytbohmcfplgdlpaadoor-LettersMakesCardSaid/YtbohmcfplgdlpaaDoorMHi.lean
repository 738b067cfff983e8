/- A tree's outline: a contract: a function of the tree.
   Conditions: the tree lies in memory. -/
import Derived.Test.YtbohmcfplgdlpaaDoorMRow
import Derived.Deep.DeepCutAuto

/- A tree's highest nodes, twenty at most: a contract.
   Conditions: the tree lies in memory. -/
namespace Go.Proofs.YtbohmcfplgdlpaaDoor
open Go.RowKit Go.Shelf
attribute [local go_sem] nodeAgg
def psAt (l:List V) (i:Nat):List V:=match l[i]? with | some t=>t.ps | none=>[]
def hiV:Nat→Nat→List V→List V
 | 0,_,l=>l
 | n+1,i,l=>if i<l.length∧l.length<20 then hiV n (i+1) (l ++ (psAt l i).take (20 - l.length)) else l
theorem hiV_len:∀ (n i:Nat) (l:List V),l.length≤20→(hiV n i l).length≤20
 | 0,_,_,h=>h
 | n+1,i,l,h=>by
  rw [hiV]
  split
  ·refine hiV_len n _ _ ?_
   rw [List.length_append,List.length_take]
   omega
  ·exact h
structure HI (w:World) (R:Nat→Prop) (t:V) (i:Nat) (v:Value) (l:List V) (wr:World):Prop where
 le:l.length≤20
 i20:i≤20
 fin:hiV (20 - i) i l=hiV 20 0 [t]
 own:wr.ownsRow w.heap.size 27 8 v l.length (flat l)
 laid:∀ u∈l,Laid w R u
 below:Below w.heap.size w wr
theorem laid_kid {w:World} {R:Nat→Prop} {x p:V} (h:Laid w R x) (hp:p∈x.ps):Laid w R p:=by
 obtain ⟨sa,sc,_,hrow⟩:=laid_row' h
 obtain ⟨i,hi⟩:=List.getElem?_of_mem hp
 obtain ⟨_,_,_,_,_,hl⟩:=hrow i p hi
 exact hl
theorem laid_cells {w:World} {R:Nat→Prop} {x:V} {sa:Option Addr} {sc:Nat} (h:Laid w R x) (hv:x.v=.slice sa x.ps.length sc) (hne:x.ps≠[]):∃ b off,sa=some ⟨b,off,none⟩∧b<w.heap.size∧(∀ W,Below w.heap.size w W→∀ j v,(flat x.ps)[j]? = some v→W.cell? ((⟨b,off,none⟩ : Addr).add j)=some v)∧∀ v∈flat x.ps,v.oneCell'=true:=by
 obtain ⟨sa',sc',hv',hrow⟩:=laid_row' h
 rw [hv] at hv'
 simp only [Value.slice.injEq,true_and] at hv'
 obtain ⟨rfl,rfl⟩:=hv'
 obtain ⟨p0,hp0⟩ : ∃ p,x.ps[0]? = some p:=⟨_,List.getElem?_eq_getElem (List.length_pos_iff.2 hne)⟩
 obtain ⟨b,off,hsa,hb,_,_⟩:=hrow 0 p0 hp0
 refine ⟨b,off,hsa,hb,fun W hW j v hj=>?_,fun v hv=>?_⟩
 ·have hjl:=(List.getElem?_eq_some_iff.1 hj).1
  rw [flat_length] at hjl
  obtain ⟨q,hq⟩ : ∃ q,x.ps[j / 8]? = some q:=⟨_,List.getElem?_eq_getElem (by omega)⟩
  obtain ⟨b',off',hsa',_,hc,_⟩:=hrow (j / 8) q hq
  rw [hsa] at hsa'
  simp only [Option.some.injEq,Addr.mk.injEq,and_true] at hsa'
  obtain ⟨rfl,rfl⟩:=hsa'
  have hf:=flat_at x.ps (j / 8) q hq (j % 8) (by omega)
  rw [show j / 8 * 8+j % 8=j by omega,hj] at hf
  have:=hc (j % 8) v hf.symm
  rw [show off+j / 8 * 8+j % 8=off+j by omega] at this
  have hadd:(⟨b,off,none⟩ : Addr).add j=⟨b,off+j,none⟩:=by unfold Addr.add;split <;> simp_all
  rw [hadd,hW.cell (p:=⟨b,off+j,none⟩) hb,this]
 ·obtain ⟨y,hy,hvy⟩:=List.mem_flatMap.1 hv
  obtain ⟨a',n',c',hyv⟩:=(laid_kid h hy).slice
  exact one_ndc y (by rw [hyv];rfl) v hvy
theorem hi_end {w wr:World} {R:Nat→Prop} {t:V} {i:Nat} {v:Value} {l:List V} (h:HI w R t i v l wr) (he:l.length≤i∨20≤l.length):wr.ownsRow w.heap.size 27 8 v (hiV 20 0 [t]).length (flat (hiV 20 0 [t]))∧(∀ u∈hiV 20 0 [t],Laid w R u)∧Below w.heap.size w wr:=by
 have e:hiV 20 0 [t]=l:=by
  rw [← h.fin]
  cases 20 - i with
  | zero=>rfl
  | succ n=>rw [hiV,if_neg (by omega)]
 rw [e]
 exact ⟨h.own,h.laid,h.below⟩
theorem flat_take:∀ (n:Nat) (ps:List V),flat (ps.take n)=(flat ps).take (n * 8)
 | 0,_=>by simp [flat]
 | n+1,[]=>by simp [flat]
 | n+1,p :: ps=>by
  have e:∀ qs:List V,flat (p :: qs)=ndc p ++ flat qs:=fun qs=>by unfold flat;rw [List.flatMap_cons]
  rw [List.take_succ_cons,e,e,flat_take n ps,List.take_append,ndc_length,show (n+1) * 8 - 8=n * 8 by omega,List.take_of_length_le (l:=ndc p) (by rw [ndc_length];omega)]
theorem hi_none {w wr:World} {R:Nat→Prop} {t u:V} {i:Nat} {v:Value} {l:List V} (h:HI w R t i v l wr) (hu:l[i]? = some u) (h0:u.ps=[]) (hi:i<20) (hl:l.length<20):HI w R t (i+1) v l wr:=by
 refine ⟨h.le,hi,?_,h.own,h.laid,h.below⟩
 rw [← h.fin,show 20 - i=(20 - (i+1))+1 by omega,hiV,if_pos ⟨(List.getElem?_eq_some_iff.1 hu).1,hl⟩]
 simp [psAt,hu,h0]
theorem hi_more {w wr w':World} {R:Nat→Prop} {t u:V} {i m:Nat} {v v':Value} {l:List V} (h:HI w R t i v l wr) (hu:l[i]? = some u) (hi:i<20) (hl:l.length<20) (hm:(u.ps.take (20 - l.length)).length=m)
  (hown:w'.ownsRow w.heap.size 27 8 v' (l.length+m) (flat l ++ flat (u.ps.take (20 - l.length)))) (hg:wr.grownBy w' v.ownBlock):HI w R t (i+1) v' (l ++ u.ps.take (20 - l.length)) w':=by
 refine ⟨?_,hi,?_,?_,fun x hx=>?_,?_⟩
 ·rw [List.length_append,List.length_take];omega
 ·rw [← h.fin,show 20 - i=(20 - (i+1))+1 by omega,hiV,if_pos ⟨(List.getElem?_eq_some_iff.1 hu).1,hl⟩]
  simp [psAt,hu]
 ·rw [List.length_append,hm,show flat (l ++ u.ps.take (20 - l.length))=flat l ++ flat (u.ps.take (20 - l.length)) by unfold flat;rw [List.flatMap_append]]
  exact hown
 ·rcases List.mem_append.1 hx with hx | hx
  ·exact h.laid x hx
  ·have hux:=h.laid u (List.mem_of_getElem? hu)
   exact laid_kid hux (List.mem_of_mem_take hx)
 ·exact h.below.trans ((((Chg.refl (fun x=>v.ownBlock=some x) wr).grown hg fun k hk _=>hk).below h.below.size fun k hk e=>by have:=(h.own.lt k e).1;omega))
set_option maxHeartbeats 4000000 in
set_option maxRecDepth 100000 in
theorem highest_any (t:V) (w:World) (R:Nat→Prop) (ht:Laid w R t) :
  Calls Tryd.prog 98 #[nodeAgg t] w fun e w'=>∃ v,e=.returned v∧w'.ownsRow w.heap.size 27 8 v (hiV 20 0 [t]).length (flat (hiV 20 0 [t]))∧(∀ u∈hiV 20 0 [t],Laid w R u)∧Below w.heap.size w w':=by
 obtain ⟨i0,hi,hz0,hz1,hz2⟩:=info_parts info27
 obtain ⟨sa,sn,sc,hv0⟩:=ht.slice
 obtain ⟨w2,hw2,hbw,hlt2,hbx⟩:=box_new w t (.slice sa sn sc)
 obtain ⟨x0,x1,x2,x3,x4,x5,x6,x7⟩:=hbx w2 (Below.refl _ _)
 have HST:=Lib.hid (show HI w R t 0 (.slice (some ⟨w2.heap.size,0,none⟩) 1 1) [t] (w2.alloc (.cells #[.int .i64 t.kind,.int .u64 (t.set 0:Nat),.int .u64 (t.set 1:Nat),.int .u64 (t.set 2:Nat),.int .u64 (t.set 3:Nat),.slice sa sn sc,.int .i64 t.lo,.int .i64 t.hi] 27)) by
  refine ⟨by simp,by omega,rfl,?_,fun u hu=>by rw [List.mem_singleton.1 hu];exact ht,bhop hbw ((Below.refl _ w2).alloc (Nat.le_refl _) _)⟩
  have:=World.ownsRow_lit (e:=27) (size:=8) (base:=w.heap.size) w2 #[.int .i64 t.kind,.int .u64 (t.set 0:Nat),.int .u64 (t.set 1:Nat),.int .u64 (t.set 2:Nat),.int .u64 (t.set 3:Nat),.slice sa sn sc,.int .i64 t.lo,.int .i64 t.hi] 1 (by omega) (by unfold maxLen;omega) rfl
  have e:flat [t]=#[.int .i64 t.kind,.int .u64 (t.set 0:Nat),.int .u64 (t.set 1:Nat),.int .u64 (t.set 2:Nat),.int .u64 (t.set 3:Nat),.slice sa sn sc,.int .i64 t.lo,.int .i64 t.hi].toList:=by unfold flat;rw [List.flatMap_cons,List.flatMap_nil,List.append_nil];unfold ndc;rw [hv0]
  rw [e]
  exact this)
 rw [nodeAgg_v hv0]
 clear hbx hv0 ht hbw
 go_enter Tryd.func98,Tryd.ntmps98
 go_upto_region 1 with fail
 clear hw2
 go_wp2_with fail
 clear x0 x1 x2 x3 x4 x5 x6 x7
 go_loopw [3,4] (fun v x wr=>∃ (i:Nat) (l:List V),x=.int .i64 i∧HI w R t i v l wr) (fun _ x _=>match x with | .int _ z=>20 - z.toNat | _=>0)
 case atStart=>exact ⟨0,_,rfl,HST.out⟩
 case round =>
  obtain ⟨i,l,rfl,hI⟩:=hrel
  clear HST
  obtain ⟨A,cp,hvv⟩:=own_form hI.own
  obtain ⟨q,hq⟩ : ∃ q,q=l.length:=⟨_,rfl⟩
  rw [← hq] at hvv
  subst hvv
  have HH:=Lib.hid (And.intro hI hq)
  have hq20:=hI.le
  rw [← hq] at hq20
  by_cases h1:i<q
  ·by_cases h2:q<20
   ·obtain ⟨u,hu⟩ : ∃ u,l[i]? = some u:=⟨_,List.getElem?_eq_getElem (by omega)⟩
    have hown:=hI.own
    rw [← hq] at hown
    obtain ⟨g,cap,hgv,_,hgl⟩:=hown.form (by omega)
    have hcp:q≤cp:=by
     rcases hown.2 with ⟨h1,_⟩ | ⟨g',cap',cur,h1,_,_,hle,_⟩
     ·rw [hgv] at h1;cases h1
     ·simp only [Value.slice.injEq] at h1;omega
    simp only [Value.slice.injEq,true_and] at hgv
    obtain ⟨rfl,rfl⟩:=hgv
    obtain ⟨ua,uc,hus,_⟩:=laid_row' (hI.laid u (List.mem_of_getElem? hu))
    obtain ⟨un,hun⟩ : ∃ un,un=u.ps.length:=⟨_,rfl⟩
    rw [← hun] at hus
    have y5:wr.cell? ⟨g,i * 8+5,none⟩=some (.slice ua un uc):=by
     rw [hown.cellAt _ (by omega),flat_at l i u hu 5 (by decide)]
     exact congrArg some hus
    have g0:(0:Int)≤(i:Int):=by omega
    have g1:(i:Int)<(q:Int):=by omega
    have g2:(q:Int)<20:=by omega
    have g3:(0:Int)≤(un:Int):=by omega
    have g4:(0:Int)≤(q:Int):=by omega
    have g5:(i:Int)≤20:=by omega
    have hlu:=hI.laid u (List.mem_of_getElem? hu)
    have hcu:un≤uc:=by
     obtain ⟨a',c',h5 | h5⟩:=hlu.form
     ·have h6:=h5.1
      rw [hus] at h6
      simp only [Value.slice.injEq] at h6
      omega
     ·have h6:=h5.2
      rw [hus] at h6
      simp only [Value.slice.injEq] at h6
      omega
    have HU:=Lib.hid (And.intro hu (And.intro hus hun))
    have HQ:=Lib.hid (And.intro h1 h2)
    have HO:=Lib.hid hown
    by_cases hu0:un=0
    ·subst hu0
     have HN:=Lib.hid (hi_none HH.out.1 hu (List.eq_nil_of_length_eq_zero hun.symm) (by omega) (by omega))
     clear hI hu hus hun hq hq20 h1 h2 hown hlu
     cases ua
     all_goals
      go_wp2_with fail
      go_roundw
      case rel=>exact ⟨i+1,l,by push_cast;rfl,HN.out⟩
      case measure=>have h1:=HQ.out;simp;omega
    ·obtain ⟨ub,uo,hua,hub,hnews,hone⟩:=laid_cells hlu (hun▸hus) (fun e=>hu0 (by rw [hun,e];rfl))
     subst hua
     have HW:=Lib.hid (And.intro (hnews wr hI.below) (And.intro hone hub))
     have HL:=Lib.hid (And.intro (show 0<un by omega) trivial)
     by_cases hmin:un≤20 - q
     ·have g6:(un:Int)≤20 - (q:Int):=by omega
      have htk:u.ps.take (20 - l.length)=u.ps:=List.take_of_length_le (by omega)
      have HF:=Lib.hid (fun (v':Value) (w':World)=>hi_more HH.out.1 hu (m:=un) (v':=v') (w':=w') (by omega) (by omega) (by rw [htk];exact hun.symm))
      rw [htk] at HF
      have HB:=Lib.hid (And.intro (show q+un≤1000000 by omega) hI.below.size)
      clear hI hu hus hun hq hq20 h1 h2 hown hlu hnews hone hub hmin hu0 htk
      go_wp2_with ((at_builtin;refine wpList_append_lies _ (by rfl) _ _ 25 (by rfl) w.heap.size 27 i0 _ 8 80 Tryd.underlying25 hi hz0 hz1 hz2 rfl (by decide) (.slice (some ⟨g,0,none⟩) q cp) q (flat l) (by rfl) HO.out ⟨ub,uo,none⟩ un uc (flat u.ps) (by rfl) ?c0 HW.out.1 HW.out.2.1 HL.out.1 ?c3 ?c4 HB.out.2 _ rfl ?_))
      case c0=>rw [flat_length,HU.out.2.2]
      case c3=>have:=HB.out.1;unfold maxLen;omega
      case c4=>have:=HB.out.1;omega
      intro g5 cap5 w5 hown5 hgrow5 hat5 hlt5
      have HN:=Lib.hid (HF.out (.slice (some ⟨g5,0,none⟩) (q+un) cap5) w5 (by rw [← HH.out.2];exact hown5) hgrow5)
      clear hown5 hgrow5 hat5 hlt5
      go_wp2_with fail
      go_roundw
      case rel=>exact ⟨i+1,_,by push_cast;rfl,HN.out⟩
      case measure=>have h1:=HQ.out;simp;omega
     ·have g6:20 - (q:Int)<(un:Int):=by omega
      have htl:(u.ps.take (20 - l.length)).length=20 - q:=by rw [List.length_take,hq];omega
      have HF:=Lib.hid (fun (v':Value) (w':World)=>hi_more HH.out.1 hu (m:=20 - q) (v':=v') (w':=w') (by omega) (by omega) htl)
      have HB:=Lib.hid (And.intro (show q+(20 - q)≤1000000 by omega) hI.below.size)
      have hft:flat (u.ps.take (20 - l.length))=(flat u.ps).take ((20 - l.length) * 8):=flat_take _ _
      have HT:=Lib.hid (show (flat (u.ps.take (20 - l.length))).length=(20 - q) * 8∧(∀ j v,(flat (u.ps.take (20 - l.length)))[j]? = some v→wr.cell? ((⟨ub,uo,none⟩ : Addr).add j)=some v)∧(∀ v∈flat (u.ps.take (20 - l.length)),v.oneCell'=true)∧0<20 - q by
       refine ⟨by rw [flat_length,htl],fun j v hj=>hnews wr hI.below j v ?_,fun v hv=>hone v ?_,by omega⟩
       ·rw [hft,List.getElem?_take] at hj
        split at hj
        ·exact hj
        ·cases hj
       ·rw [hft] at hv
        exact List.mem_of_mem_take hv)
      have g7:(q:Int)≤20:=by omega
      clear hI hu hus hun hq hq20 h1 h2 hown hlu hnews hone hub hmin hu0 htl hft
      go_wp2_with ((at_builtin;refine wpList_append_lies _ (by rfl) _ _ 25 (by rfl) w.heap.size 27 i0 _ 8 80 Tryd.underlying25 hi hz0 hz1 hz2 rfl (by decide) (.slice (some ⟨g,0,none⟩) q cp) q (flat l) (by rfl) HO.out ⟨ub,uo,none⟩ (20 - q) uc (flat (u.ps.take (20 - l.length))) (by rfl) HT.out.1 HT.out.2.1 HT.out.2.2.1 HT.out.2.2.2 ?c3 ?c4 HB.out.2 _ rfl ?_))
      case c3=>have:=HB.out.1;unfold maxLen;omega
      case c4=>have:=HB.out.1;omega
      intro g5 cap5 w5 hown5 hgrow5 hat5 hlt5
      have HN:=Lib.hid (HF.out (.slice (some ⟨g5,0,none⟩) (q+(20 - q)) cap5) w5 (Eq.mp (congrArg (fun z=>World.ownsRow w5 w.heap.size 27 8 (.slice (some ⟨g5,0,none⟩) (q+(20 - q)) cap5) (z+(20 - q)) (flat l ++ flat (u.ps.take (20 - l.length)))) HH.out.2) hown5) hgrow5)
      clear hown5 hgrow5 hat5 hlt5
      go_wp2_with fail
      go_roundw
      case rel=>exact ⟨i+1,_,by push_cast;rfl,HN.out⟩
      case measure=>have h1:=HQ.out;simp;omega
   ·have HE:=Lib.hid (hi_end HH.out.1 (.inr (by omega)))
    have g1:(i:Int)<(q:Int):=by omega
    have g2:¬ (q:Int)<20:=by omega
    clear hI hq hq20 h1 h2
    go_wp2_with fail
    go_ret
    exact ⟨_,rfl,HE.out.1,HE.out.2.1,HE.out.2.2⟩
  ·have HE:=Lib.hid (hi_end HH.out.1 (.inl (by omega)))
   have g1:¬ (i:Int)<(q:Int):=by omega
   clear hI hq hq20 h1
   go_wp2_with fail
   go_ret
   exact ⟨_,rfl,HE.out.1,HE.out.2.1,HE.out.2.2⟩
end Go.Proofs.YtbohmcfplgdlpaaDoor

/- A tree's outline: a contract: a function of the tree.
   Conditions: the tree lies in memory. -/
namespace Go.Proofs.YtbohmcfplgdlpaaDoor
open Go.RowKit Go.Shelf
attribute [local go_sem] nodeAgg
def wordsV (u:V):Nat→Int
 | 0=>IntKind.u64.wrap u.kind
 | 1=>(u.set 0:Nat)
 | 2=>(u.set 1:Nat)
 | 3=>(u.set 2:Nat)
 | 4=>(u.set 3:Nat)
 | 5=>IntKind.u64.wrap u.lo
 | 6=>IntKind.u64.wrap u.hi
 | _=>IntKind.u64.wrap (u.ps.length:Nat)
def mixO (s x:Int):Int:=bits BinOp.xor IntKind.u64 (IntKind.u64.wrap (bits BinOp.xor IntKind.u64 s x * 11400714819323198485)) (IntKind.u64.wrap (bits BinOp.xor IntKind.u64 s x * 11400714819323198485) / 4294967296)
def mixK (s:Int) (u:V) (k:Nat):Int:=(List.range k).foldl (fun s j=>mixO s (wordsV u j)) s
def outL (l:List V):Int:=l.foldl (fun s u=>mixK s u 8) 0
theorem mixK_succ (s:Int) (u:V) (k:Nat):mixK s u (k+1)=mixO (mixK s u k) (wordsV u k):=by unfold mixK;rw [List.range_succ,List.foldl_append,List.foldl_cons,List.foldl_nil]
theorem outL_snoc {l:List V} {i:Nat} {u:V} (h:l[i]? = some u):outL (l.take (i+1))=mixK (outL (l.take i)) u 8:=by rw [take_one h];unfold outL;rw [List.foldl_append,List.foldl_cons,List.foldl_nil]
theorem idx8 (x:Nat→Int) (k:Nat) (h:k<8) (w:World):(Instr.index 189 (.agg #[.int .u64 (x 0),.int .u64 (x 1),.int .u64 (x 2),.int .u64 (x 3),.int .u64 (x 4),.int .u64 (x 5),.int .u64 (x 6),.int .u64 (x 7)]) (.int .i64 k)).run Tryd.prog w=.ok (.int .u64 (x k)) w:=by
 rcases k with _ | _ | _ | _ | _ | _ | _ | _ | k
 all_goals first | omega | kernel_rfl
set_option maxHeartbeats 4000000 in
set_option maxRecDepth 100000 in
theorem outline_any (t:V) (w:World) (R:Nat→Prop) (ht:Laid w R t) :
  Calls Tryd.prog 93 #[nodeAgg t] w fun e w'=>e=.returned (.int .u64 (outL (hiV 20 0 [t])))∧Below w.heap.size w w':=by
 obtain ⟨sa,sn,sc,hv0⟩:=ht.slice
 obtain ⟨w2,hw2,hbw,hlt2,hbx⟩:=box_new w t (.slice sa sn sc)
 obtain ⟨x0,x1,x2,x3,x4,x5,x6,x7⟩:=hbx w2 (Below.refl _ _)
 have HHI:=Lib.hid (highest_any t w2 R (laid_low ht hbw))
 have hlen:=hiV_len 20 0 [t] (by simp)
 rw [nodeAgg_v hv0] at HHI ⊢
 generalize hiV 20 0 [t]=l at *
 have HB:=Lib.hid (And.intro hbw hlen)
 clear hbx hv0 ht hbw hlen
 go_enter Tryd.func93,Tryd.ntmps93
 go_upto_region 1 with fail
 clear hw2
 go_wp2_with fail
 go_at_call 98
 refine HHI.out.mono ?_
 rintro e w3 ⟨v,rfl,hown,hlaid,hb3⟩
 obtain ⟨A,cp,hvv⟩:=own_form hown
 subst hvv
 have HO:=Lib.hid (And.intro hown (And.intro hlaid hb3))
 have hn0:(0:Int)≤(l.length:Int):=by omega
 have hn1:(l.length:Int)≤20:=by have:=HB.out.2;omega
 clear hown hlaid hb3 x0 x1 x2 x3 x4 x5 x6 x7
 go_wp2_with fail
 go_loopw [3,11] (fun s x wr=>∃ i:Nat,x=.int .i64 i∧i≤l.length∧s=.int .u64 (outL (l.take i))∧Below w3.heap.size w3 wr) (fun _ x _=>match x with | .int _ z=>l.length - z.toNat | _=>0)
 case atStart=>exact ⟨0,rfl,by omega,rfl,Below.refl _ _⟩
 case round =>
  obtain ⟨i,rfl,hi,rfl,hb⟩:=hrel
  by_cases hlt:i<l.length
  ·have g1:(i:Int)<(l.length:Int):=by omega
   have g0:(0:Int)≤(i:Int):=by omega
   obtain ⟨u,hu⟩ : ∃ u,l[i]? = some u:=⟨_,List.getElem?_eq_getElem hlt⟩
   obtain ⟨g,cap,hgv,_,hgl⟩:=HO.out.1.form (by omega)
   obtain ⟨ua,uc,hus,_⟩:=laid_row' (HO.out.2.1 u (List.mem_of_getElem? hu))
   have hown:=HO.out.1
   simp only [Value.slice.injEq,true_and] at hgv
   obtain ⟨rfl,rfl⟩:=hgv
   have hc:∀ j,j<8→wr.cell? ⟨g,i * 8+j,none⟩=(ndc u)[j]?:=fun j hj=>by
    rw [hb.cell (p:=⟨g,i * 8+j,none⟩) hgl,hown.cellAt _ (by omega),flat_at l i u hu j hj]
   obtain ⟨un,hun⟩ : ∃ un,un=u.ps.length:=⟨_,rfl⟩
   rw [← hun] at hus
   have y0:wr.cell? ⟨g,i * 8,none⟩=some (.int .i64 u.kind):=hc 0 (by decide)
   have y1:wr.cell? ⟨g,i * 8+1,none⟩=some (.int .u64 (u.set 0:Nat)):=hc 1 (by decide)
   have y2:wr.cell? ⟨g,i * 8+2,none⟩=some (.int .u64 (u.set 1:Nat)):=hc 2 (by decide)
   have y3:wr.cell? ⟨g,i * 8+3,none⟩=some (.int .u64 (u.set 2:Nat)):=hc 3 (by decide)
   have y4:wr.cell? ⟨g,i * 8+4,none⟩=some (.int .u64 (u.set 3:Nat)):=hc 4 (by decide)
   have y5:wr.cell? ⟨g,i * 8+5,none⟩=some (.slice ua un uc):=(hc 5 (by decide)).trans (congrArg some hus)
   have y6:wr.cell? ⟨g,i * 8+6,none⟩=some (.int .i64 u.lo):=hc 6 (by decide)
   have y7:wr.cell? ⟨g,i * 8+7,none⟩=some (.int .i64 u.hi):=hc 7 (by decide)
   obtain ⟨w5,hw5,hb5,hlt5,hbx⟩:=box_new wr u (.slice ua un uc)
   obtain ⟨x0,x1,x2,x3,x4,x5,x6,x7⟩:=hbx w5 (Below.refl _ _)
   have HU:=Lib.hid (And.intro hu (And.intro hun (And.intro hlt (bhop hb hb5))))
   have hs:=outL_snoc hu
   generalize outL (l.take i)=s at *
   have HS:=Lib.hid hs
   have HIX:=Lib.hid (fun (k:Nat) (hk:k<8) (W:World)=>show (Instr.index 189 (.agg #[.int .u64 (IntKind.u64.wrap u.kind),.int .u64 (u.set 0:Nat),.int .u64 (u.set 1:Nat),.int .u64 (u.set 2:Nat),.int .u64 (u.set 3:Nat),.int .u64 (IntKind.u64.wrap u.lo),.int .u64 (IntKind.u64.wrap u.hi),.int .u64 (IntKind.u64.wrap (un:Nat))]) (.int .i64 k)).run Tryd.prog W=.ok (.int .u64 (wordsV u k)) W by rw [hun];exact idx8 (wordsV u) k hk W)
   clear hc hown hbx hb5 hb hus hun hu hlt hi hs
   go_upto_region 5 with fail
   clear hw5 y0 y1 y2 y3 y4 y5 y6 y7
   go_wp2_with fail
   clear x0 x1 x2 x3 x4 x5 x6 x7
   go_loopw [3,41] (fun s2 y wq=>∃ k:Nat,y=.int .i64 k∧k≤8∧s2=.int .u64 (mixK s u k)∧wq=w5) (fun _ y _=>match y with | .int _ z=>8 - z.toNat | _=>0)
   case atStart=>exact ⟨0,rfl,by omega,rfl,rfl⟩
   case round =>
    obtain ⟨k,rfl,hk,rfl,rfl⟩:=hrel
    by_cases hk8:k<8
    ·have k1:(k:Int)<8:=by omega
     have k0:(0:Int)≤(k:Int):=by omega
     have hix:=HIX.out k hk8
     have hm:=mixK_succ s u k
     generalize mixK s u k=s2 at *
     generalize wordsV u k=x at *
     have HM:=Lib.hid (And.intro hm hk8)
     clear hm hk hk8
     go_wp2_with fail
     go_roundw
     case rel=>exact ⟨k+1,by push_cast;rfl,HM.out.2,by rw [HM.out.1];rfl,trivial⟩
     case measure=>have:=HM.out.2;simp;omega
    ·have hke:k=8:=by omega
     subst hke
     have HM:=Lib.hid HS.out
     go_wp2_with fail
     go_roundw
     case rel=>exact ⟨i+1,by push_cast;rfl,HU.out.2.2.1,by rw [HM.out],HU.out.2.2.2⟩
     case measure=>have:=HU.out.2.2.1;simp;omega
  ·have hie:i=l.length:=by omega
   subst hie
   have HS:=Lib.hid (show outL (l.take l.length)=outL l by rw [List.take_length])
   have HW:=Lib.hid (bhop HB.out.1 (bhop HO.out.2.2 hb))
   clear hb hlt hi
   go_wp2_with fail
   go_ret
   exact ⟨congrArg (fun z=>Ending.returned (.int .u64 z)) HS.out,HW.out⟩
end Go.Proofs.YtbohmcfplgdlpaaDoor
