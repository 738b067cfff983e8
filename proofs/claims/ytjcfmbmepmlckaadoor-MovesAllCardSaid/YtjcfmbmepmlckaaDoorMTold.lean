/- What the document's own Told comes to: a contract.
   Conditions: the tree lies in memory, is formed, and has at most 1000000 nodes. -/
import Derived.Test.YtjcfmbmepmlckaaDoorMMelt
import Derived.Test.YtjcfmbmepmlckaaDoorMSame
import Derived.Test.YtjcfmbmepmlckaaDoorMRef
import Derived.Test.YtjcfmbmepmlckaaDoorMBase
import Derived.Deep.QuietTactic
import Derived.BigQuiet

/- What the document's own Told comes to: a contract.
   Conditions: the tree lies in memory, is formed, and has at most 1000000 nodes. -/
namespace Go.Proofs.YtjcfmbmepmlckaaDoor
open Go.RowKit Go.Shelf
attribute [local go_sem] nodeAgg
theorem count_take {ps:List V} {i:Nat} {p:V} (q:V→Bool) (h:ps[i]? = some p):(ps.take (i+1)).countP q=(ps.take i).countP q+if q p then 1 else 0:=by
 rw [List.take_add_one,h,List.countP_append]
 simp
theorem count_any (q:V→Bool) (ps:List V):decide (0<ps.countP q)=ps.any q:=by
 rw [Bool.eq_iff_iff]
 simp [List.countP_pos_iff]
theorem count_all (q:V→Bool) (ps:List V):decide (ps.countP q=ps.length)=ps.all q:=by
 rw [Bool.eq_iff_iff]
 simp [List.countP_eq_length]
theorem beq_nat (a b:Nat):(((a:Nat):Int) == ((b:Nat):Int))=decide (a=b):=by
 rw [Bool.eq_iff_iff]
 simp
 omega
theorem z4_beq' (C:Nat→Nat):(((C 0:Nat):Int) == 0 && (((C 1:Nat):Int) == 0 && (((C 2:Nat):Int) == 0 && ((C 3:Nat):Int) == 0)))=z4 C:=by
 unfold z4
 rw [Bool.eq_iff_iff]
 simp
set_option maxHeartbeats 4000000 in
set_option maxRecDepth 100000 in
theorem told_any (N:Nat):N≤1000000→∀ (t:V) (w:World) (R:Nat→Prop),szT (erase t)≤N→Laid w R t→okF t →
  Calls Tryd.prog 21 #[nodeAgg t] w fun e w'=>e=.returned (.tuple #[.bool (vdV t),.bool (nuV t)])∧Below w.heap.size w w':=by
 induction N with
 | zero=>intro _ t w R h;rw [sz_eq] at h;omega
 | succ N ih =>
  intro hN t w R hd ha hok
  obtain ⟨sa,sc,hv,hrow⟩:=laid_row' ha
  have hsz:=sz_eq t
  have hlen:=len_sz t.ps
  have hn1:(t.ps.length:Int)≤1000000:=by omega
  have HP:=Lib.hid (fun (i:Nat) (p:V) (hp:t.ps[i]? = some p) (W:World) (hW:Below w.heap.size w W)=>by
   obtain ⟨_,_,_,_,_,L1⟩:=hrow i p hp
   have hpz:=sz_mem (List.mem_of_getElem? hp)
   exact ih (by omega) p W R (by omega) (laid_low L1 hW) (hok.part (List.mem_of_getElem? hp)))
  have HR:=Lib.hid hrow
  have HV:=Lib.hid (And.intro (vd_eq t) (nu_eq t))
  have HK:=Lib.hid hok.kinds
  obtain ⟨w2,hw2,hbw,hlt2,hbx⟩:=box_new w t (.slice sa t.ps.length sc)
  have HBX:=Lib.hid hbx
  have HBW:=Lib.hid hbw
  have he:∀ w,(Op.equalIn 10000 24 (.agg #[.int .u64 (t.set 0:Nat),.int .u64 (t.set 1:Nat),.int .u64 (t.set 2:Nat),.int .u64 (t.set 3:Nat)]) (.agg #[.int .u64 0,.int .u64 0,.int .u64 0,.int .u64 0])).run Tryd.prog w=.ok (z4 t.set) w:=fun w=>by rw [run_equal4,z4_beq']
  rw [nodeAgg_v hv]
  clear hrow hsz hlen hbx hbw hlt2 hd ha hok ih hv
  go_enter Tryd.func21,Tryd.ntmps21
  go_wp2_with fail
  clear hw2
  go_loopw [4,5,6] (fun a b x wr=>∃ i:Nat,x=.int .i64 i∧i≤t.ps.length∧a=.int .i64 ((t.ps.take i).countP vdV:Nat)∧b=.int .i64 ((t.ps.take i).countP nuV:Nat)∧Below w2.heap.size w2 wr) (fun _ _ x _=>match x with | .int _ z=>t.ps.length - z.toNat | _=>0)
  case atStart=>exact ⟨0,rfl,by omega,rfl,rfl,Below.refl _ _⟩
  case round =>
   obtain ⟨i,rfl,hi,rfl,rfl,hb⟩:=hrel
   have hc1:(t.ps.take i).countP vdV≤t.ps.length:=Nat.le_trans (List.countP_le_length ..) (by rw [List.length_take];omega)
   have hc2:(t.ps.take i).countP nuV≤t.ps.length:=Nat.le_trans (List.countP_le_length ..) (by rw [List.length_take];omega)
   obtain ⟨x0,x1,x2,x3,x4,x5,x6,x7⟩:=HBX.out wr hb
   by_cases hlt:i<t.ps.length
   ·have g1:(i:Int)<(t.ps.length:Int):=by omega
    have g0:(0:Int)≤(i:Int):=by omega
    have g3:(((t.ps.take i).countP vdV:Nat):Int)≤1000000:=by omega
    have g4:(((t.ps.take i).countP nuV:Nat):Int)≤1000000:=by omega
    have g5:(0:Int)≤(((t.ps.take i).countP vdV:Nat):Int):=by omega
    have g6:(0:Int)≤(((t.ps.take i).countP nuV:Nat):Int):=by omega
    obtain ⟨p,hp⟩ : ∃ p,t.ps[i]? = some p:=⟨_,List.getElem?_eq_getElem hlt⟩
    obtain ⟨b1,o1,rfl,hlt1,cc1,L1⟩:=HR.out i p hp
    obtain ⟨pa,pc,hpv,_⟩:=laid_row' L1
    have hbww:Below w.heap.size w wr:=HBW.out.trans (hb.mono HBW.out.size)
    obtain ⟨y0,y1,y2,y3,y4,y5,y6,y7⟩:=node_cells cc1 hlt1 hbww
    rw [hpv] at y5
    have HC:=Lib.hid (by
     have:=HP.out i p hp wr hbww
     rw [nodeAgg_v hpv] at this
     exact this)
    have HN1:=Lib.hid (count_take vdV hp)
    have HN2:=Lib.hid (count_take nuV hp)
    have HI:=Lib.hid hlt
    have HB:=Lib.hid hb
    clear hb cc1 hp hlt hbww hlt1 hi L1 hpv hc1 hc2
    generalize (t.ps.take i).countP vdV=c1 at *
    generalize (t.ps.take i).countP nuV=c2 at *
    go_wp2_with fail
    go_at_call 21
    refine HC.out.mono ?_
    rintro e w4 ⟨rfl,hb4⟩
    have HB4:=Lib.hid (HB.out.trans (hb4.mono HB.out.size))
    clear hb4 y0 y1 y2 y3 y4 y5 y6 y7 x0 x1 x2 x3 x4 x5 x6 x7
    cases hq1:vdV p <;> cases hq2:nuV p
    all_goals
     rw [hq1] at HN1
     rw [hq2] at HN2
     go_wp2_with fail
     exact ⟨⟨i+1,by simp,HI.out,by rw [HN1.out];simp,by rw [HN2.out];simp,HB4.out⟩,by have:=HI.out;simp;omega⟩
   ·have g1:¬ (i:Int)<(t.ps.length:Int):=by omega
    have hall:t.ps.take i=t.ps:=List.take_of_length_le (by omega)
    rw [hall] at hc1 hc2
    rw [hall]
    have HBB:=Lib.hid (HBW.out.trans (hb.mono HBW.out.size))
    have HVA:=Lib.hid (count_any vdV t.ps)
    have HVL:=Lib.hid (count_all vdV t.ps)
    have HNA:=Lib.hid (count_any nuV t.ps)
    have HNL:=Lib.hid (count_all nuV t.ps)
    have g3:((t.ps.countP vdV:Nat):Int)≤1000000:=by omega
    have g4:((t.ps.countP nuV:Nat):Int)≤1000000:=by omega
    clear hall hb hi hlt hc1 hc2
    rcases HK.out with hk | hk | hk | hk | hk
    ·have HE:=Lib.hid (And.intro (HV.out.1.trans (by rw [if_neg (by omega),if_neg (by omega),if_neg (by omega),if_neg (by omega)])) (HV.out.2.trans (by rw [if_pos hk])))
     rw [hk] at x0
     clear hk
     go_wp2_with fail
     go_ret2
     exact ⟨by rw [HE.out.1,HE.out.2];rfl,HBB.out⟩
    ·have HE:=Lib.hid (And.intro (HV.out.1.trans (by rw [if_pos hk])) (HV.out.2.trans (by rw [if_neg (by omega),if_neg (by omega),if_neg (by omega),if_neg (by omega)])))
     rw [hk] at x0
     clear hk
     go_wp2_with fail
     go_ret2
     exact ⟨by rw [HE.out.1,HE.out.2];rfl,HBB.out⟩
    ·have HE:=Lib.hid (And.intro (HV.out.1.trans (by rw [if_neg (by omega),if_pos hk,← HVA.out])) (HV.out.2.trans (by rw [if_neg (by omega),if_pos hk,← HNL.out])))
     rw [hk] at x0
     clear hk
     generalize t.ps.countP vdV=c1 at *
     generalize t.ps.countP nuV=c2 at *
     go_wp2_with fail
     go_quiet (fail)
     go_wp2_with fail
     go_ret2
     refine ⟨?_,⟨HBB.out.os,HBB.out.tape,HBB.out.output,HBB.out.size,HBB.out.block⟩⟩
     rw [HE.out.1,HE.out.2]
     show Ending.returned (Value.tuple #[.bool (decide (0<c1)),.bool (((c2:Nat):Int) == ((t.ps.length:Nat):Int))])=_
     rw [beq_nat]
    ·have HE:=Lib.hid (And.intro (HV.out.1.trans (by rw [if_neg (by omega),if_neg (by omega),if_pos hk,← HVL.out])) (HV.out.2.trans (by rw [if_neg (by omega),if_neg (by omega),if_pos hk,← HNA.out])))
     rw [hk] at x0
     clear hk
     generalize t.ps.countP vdV=c1 at *
     generalize t.ps.countP nuV=c2 at *
     go_wp2_with fail
     go_ret2
     refine ⟨?_,HBB.out⟩
     rw [HE.out.1,HE.out.2]
     show Ending.returned (Value.tuple #[.bool (((c1:Nat):Int) == ((t.ps.length:Nat):Int)),.bool (decide (0<c2))])=_
     rw [beq_nat]
    ·have HE:=Lib.hid (And.intro (HV.out.1.trans (by rw [if_neg (by omega),if_neg (by omega),if_neg (by omega),if_pos hk,← HVA.out])) (HV.out.2.trans (by rw [if_neg (by omega),if_neg (by omega),if_neg (by omega),if_pos hk,← HNA.out])))
     rw [hk] at x0
     clear hk
     generalize t.ps.countP vdV=c1 at *
     generalize t.ps.countP nuV=c2 at *
     generalize t.lo=lo at *
     by_cases e1:0<c1
     ·by_cases e3:0<lo
      ·have f4:(lo == 0)=false:=by simp;omega
       have HX:=Lib.hid (show (decide (0<lo) && decide (0<c1))=true∧(decide (lo=0) || decide (0<c2))=decide (0<c2) from by constructor <;> simp <;> omega)
       go_wp2_with fail
       go_ret2
       refine ⟨?_,HBB.out⟩
       rw [HE.out.1,HE.out.2,HX.out.1,HX.out.2]
       rfl
      ·by_cases e4:lo=0
       ·have f4:(lo == 0)=true:=by simp [e4]
        have HX:=Lib.hid (show (decide (0<lo) && decide (0<c1))=false∧(decide (lo=0) || decide (0<c2))=true from by constructor <;> simp <;> omega)
        go_wp2_with fail
        go_ret2
        refine ⟨?_,HBB.out⟩
        rw [HE.out.1,HE.out.2,HX.out.1,HX.out.2]
        rfl
       ·have f4:(lo == 0)=false:=by simp;omega
        have HX:=Lib.hid (show (decide (0<lo) && decide (0<c1))=false∧(decide (lo=0) || decide (0<c2))=decide (0<c2) from by constructor <;> simp <;> omega)
        go_wp2_with fail
        go_ret2
        refine ⟨?_,HBB.out⟩
        rw [HE.out.1,HE.out.2,HX.out.1,HX.out.2]
        rfl
     ·by_cases e4:lo=0
      ·have f4:(lo == 0)=true:=by simp [e4]
       have HX:=Lib.hid (show (decide (0<lo) && decide (0<c1))=false∧(decide (lo=0) || decide (0<c2))=true from by constructor <;> simp <;> omega)
       go_wp2_with fail
       go_ret2
       refine ⟨?_,HBB.out⟩
       rw [HE.out.1,HE.out.2,HX.out.1,HX.out.2]
       rfl
      ·have f4:(lo == 0)=false:=by simp;omega
       have HX:=Lib.hid (show (decide (0<lo) && decide (0<c1))=false∧(decide (lo=0) || decide (0<c2))=decide (0<c2) from by constructor <;> simp <;> omega)
       go_wp2_with fail
       go_ret2
       refine ⟨?_,HBB.out⟩
       rw [HE.out.1,HE.out.2,HX.out.1,HX.out.2]
       rfl
end Go.Proofs.YtjcfmbmepmlckaaDoor
