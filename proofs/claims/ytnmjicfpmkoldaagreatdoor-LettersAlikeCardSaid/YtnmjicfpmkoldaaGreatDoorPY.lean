/- Begin: the contract.
   Conditions: the automaton lies in memory, its classes are four words below 2^64. -/
import Derived.Test.YtnmjicfpmkoldaaGreatDoorMBase
import Derived.Deep.RegionWith
import Derived.Test.YtnmjicfpmkoldaaGreatDoorPX
import Derived.Test.YtnmjicfpmkoldaaGreatDoorMPS
import Derived.Deep.AppendLies

/- class.Has: the contract.
   Conditions: classes are four words below 2^64, bytes below 256. -/
namespace Go.Proofs.YtnmjicfpmkoldaaGreatDoor
open Go.RowKit
theorem gpick4 (C:Nat→Nat) (i:Nat) (h:i<4) : [Value.int .u64 (C 0),Value.int .u64 (C 1),Value.int .u64 (C 2),Value.int .u64 (C 3)][i]? = some (Value.int .u64 (C i)):=by
 match i,h with
 | 0,_=>rfl
 | 1,_=>rfl
 | 2,_=>rfl
 | 3,_=>rfl
theorem ghasB_div (C:Nat→Nat) (b:Nat):hasB C b=decide (C (b / 64) / 2 ^ (b % 64) % 2=1):=by
 unfold hasB
 rw [Nat.testBit_eq_decide_div_mod_eq]
def cbitN (C:Nat→Nat) (b:Nat):Nat:=C (b / 64) / 2 ^ (b % 64) % 2
theorem v_cbit {C:Nat→Nat} (h:Cl C) (b:Nat):bits .and .u64 ((C (b / 64):Int) / 2 ^ (b % 64)) 1=((cbitN C b:Nat):Int):=by
 have e:((C (b / 64):Int) / 2 ^ (b % 64))=((C (b / 64) / 2 ^ (b % 64):Nat):Int):=by simp
 have l:=Nat.lt_of_le_of_lt (Nat.div_le_self (C (b / 64)) (2 ^ (b % 64))) (h (b / 64))
 rw [e]
 generalize hx:C (b / 64) / 2 ^ (b % 64)=x at l
 rw [and_one_u64 _ (Int.natCast_nonneg _) (by omega)]
 unfold cbitN
 rw [hx]
 omega
theorem cbitN_one (C:Nat→Nat) (b:Nat):((cbitN C b:Int) == 1)=hasB C b:=by
 rw [ghasB_div]
 unfold cbitN
 generalize C (b / 64) / 2 ^ (b % 64)=x
 rcases Nat.mod_two_eq_zero_or_one x with h | h <;> simp [h]
set_option maxHeartbeats 400000 in
set_option maxRecDepth 100000 in
theorem cbit_any (C:Nat→Nat) (b:Nat) (w:World) (hC:Cl C) (hb:b<256) :
  Calls Tryz.prog 59 #[.agg #[.int .u64 (C 0:Nat),.int .u64 (C 1:Nat),.int .u64 (C 2:Nat),.int .u64 (C 3:Nat)],.int .u8 b] w fun e w'=>e=.returned (.int .u64 (cbitN C b))∧Below w.heap.size w w':=by
 have hc:=gpick4 C (b / 64) (by omega)
 have hv:=v_cbit hC b
 go_enter Tryz.func59,Tryz.ntmps59
 go_wp2
 go_ret
 exact ⟨rfl,(Below.refl _ _).alloc (Nat.le_refl _) _⟩
set_option maxHeartbeats 400000 in
set_option maxRecDepth 100000 in
theorem chas_any (C:Nat→Nat) (b:Nat) (w:World) (hC:Cl C) (hb:b<256) :
  Calls Tryz.prog 37 #[.agg #[.int .u64 (C 0:Nat),.int .u64 (C 1:Nat),.int .u64 (C 2:Nat),.int .u64 (C 3:Nat)],.int .u8 b] w fun e w'=>e=.returned (.bool (hasB C b))∧Below w.heap.size w w':=by
 have hv:=cbitN_one C b
 go_enter Tryz.func37,Tryz.ntmps37
 go_wp2_with (go_at_call 59;refine (cbit_any C b _ hC hb).mono ?_;rintro e w1 ⟨rfl,hb1⟩)
 go_ret
 exact ⟨rfl,((Below.refl _ _).alloc (Nat.le_refl _) _).trans (hb1.mono (by simp))⟩
end Go.Proofs.YtnmjicfpmkoldaaGreatDoor

/- Right, the program's and the document's: contracts.
   Conditions: the automaton lies in memory. -/
namespace Go.Proofs.YtnmjicfpmkoldaaGreatDoor
open Go.RowKit Go.Shelf
theorem cidx0 (x:Nat→Int) (w:World):(Instr.index 53 (.agg #[.int .i64 (x 0),.int .i64 (x 1),.int .i64 (x 2),.int .i64 (x 3)]) (.int .i64 0)).run Tryz.prog w=.ok (.int .i64 (x 0)) w:=by kernel_rfl
theorem cidx1 (x:Nat→Int) (w:World):(Instr.index 53 (.agg #[.int .i64 (x 0),.int .i64 (x 1),.int .i64 (x 2),.int .i64 (x 3)]) (.int .i64 1)).run Tryz.prog w=.ok (.int .i64 (x 1)) w:=by kernel_rfl
theorem cidx2 (x:Nat→Int) (w:World):(Instr.index 53 (.agg #[.int .i64 (x 0),.int .i64 (x 1),.int .i64 (x 2),.int .i64 (x 3)]) (.int .i64 2)).run Tryz.prog w=.ok (.int .i64 (x 2)) w:=by kernel_rfl
theorem cidx3 (x:Nat→Int) (w:World):(Instr.index 53 (.agg #[.int .i64 (x 0),.int .i64 (x 1),.int .i64 (x 2),.int .i64 (x 3)]) (.int .i64 3)).run Tryz.prog w=.ok (.int .i64 (x 3)) w:=by kernel_rfl
theorem cidx_at (x:Nat→Int) (i:Nat) (h:i<4) (w:World):(Instr.index 53 (.agg #[.int .i64 (x 0),.int .i64 (x 1),.int .i64 (x 2),.int .i64 (x 3)]) (.int .i64 i)).run Tryz.prog w=.ok (.int .i64 (x i)) w:=by
 match i,h with
 | 0,_=>exact cidx0 x w
 | 1,_=>exact cidx1 x w
 | 2,_=>exact cidx2 x w
 | 3,_=>exact cidx3 x w
def RgI (w:World) (m:PM) (l:List Nat) (x:Nat→Int) (n:Nat) (z:Value) (wr:World):Prop:=∃ i:Nat,z=.int .i64 i∧n=4 - i∧i≤4∧(∀ j<i,cntB m l j (x j)=true)∧Below w.heap.size w wr
theorem RgI.next {w wr wr':World} {m:PM} {l:List Nat} {x:Nat→Int} {i:Nat} (h:∀ j<i,cntB m l j (x j)=true) (hi:i<4) (hc:cntB m l i (x i)=true) (hb:Below w.heap.size w wr) (hb':Below wr.heap.size wr wr'):RgI w m l x (4 - (i+1)) (.int .i64 ((i:Int)+1)) wr' :=
 ⟨i+1,by push_cast;rfl,rfl,hi,fun j hj=>by
  by_cases e:j=i
  ·rw [e];exact hc
  ·exact h j (by omega),bhop hb hb'⟩
set_option maxHeartbeats 8000000 in
set_option maxRecDepth 100000 in
theorem right_any {B:Nat} {m:PM} {a:Au} {fl:List Nat} {la:Nat} (w:World) (hL:AuL w B m a fl la) (p:Int) (x:Nat→Int) :
  Calls Tryz.prog 53 #[.agg #[.int .i64 a.k,.int .u64 (a.s0:Nat),.int .u64 (a.s1:Nat),.int .u64 (a.s2:Nat),.int .u64 (a.s3:Nat),.slice a.ta a.tn a.tc,.int .i64 a.lo,.int .i64 a.hi,.slice a.sA a.n a.sC,.slice a.cA a.cN a.cC,.slice (some ⟨a.ga,0,none⟩) a.n a.aC,.slice a.fA a.fN a.fC,.slice (some ⟨a.mb,0,none⟩) a.n a.n,.slice (some ⟨a.lb,0,none⟩) a.n a.n,.bool a.em],.agg #[.int .i64 p,.int .i64 (x 0),.int .i64 (x 1),.int .i64 (x 2),.int .i64 (x 3)]] w fun e w'=>e=.returned (.bool (rightB m p x))∧Below w.heap.size w w':=by
 obtain ⟨w2,hw2,hb2,ha2,hc2⟩:=au_cf_box w a p x
 have HB:=Lib.hid hb2
 by_cases g1:p<1
 ·have hr:=right_lo (m:=m) (x:=x) g1
  rw [hr]
  obtain ⟨_,_,c10,_⟩:=ha2.cells
  obtain ⟨d0,_⟩:=hc2.five
  clear hr hb2 ha2 hc2 hL
  go_enter Tryz.func53,Tryz.ntmps53
  go_upto_region 1 with fail
  clear hw2
  go_wp2_with fail
  go_ret
  exact ⟨rfl,HB.out⟩
 ·by_cases g2:(a.n:Int)≤p
  ·have hr:=right_hi (m:=m) (x:=x) (p:=p) (by rw [hL.ars];exact g2)
   rw [hr]
   obtain ⟨_,_,c10,_⟩:=ha2.cells
   obtain ⟨d0,_⟩:=hc2.five
   clear hr hb2 ha2 hc2 hL
   go_enter Tryz.func53,Tryz.ntmps53
   go_upto_region 1 with fail
   clear hw2
   go_wp2_with fail
   go_ret
   exact ⟨rfl,HB.out⟩
  ·obtain ⟨q,rfl⟩ : ∃ q:Nat,p=q:=⟨p.toNat,by omega⟩
   obtain ⟨l,hl,hlm,hl4⟩:=hL.at (p:=q) (by omega)
   have hr:=right_at (x:=x) (by omega:1≤q) hl
   rw [hr]
   have HF:=Lib.hid (fun (W:World) (h:Below w2.heap.size w2 W)=>show AuB W w.heap.size a∧AuL W B m a fl la∧CfB W (w.heap.size+1) q x from ⟨ha2.below h,hL.below (bhop hb2 h),hc2.below h⟩)
   have HS:=Lib.hid (fun (s:Int×Int) (hs:s∈m.scs)=>hL.wf.scs s hs)
   have HW:=Lib.hid hL.wf
   have HM:=Lib.hid hlm
   have HLQ:=Lib.hid hl
   obtain ⟨A,c,r1,_⟩:=(hL.below hb2).row hl
   obtain ⟨_,_,c10,_⟩:=ha2.cells
   obtain ⟨d0,d1,d2,d3,d4⟩:=hc2.five
   obtain ⟨ln,hln⟩ : ∃ ln,ln=l.length:=⟨_,rfl⟩
   have HLN:=Lib.hid hln
   rw [← hln] at r1 hl4
   have v1:(0:Int)≤(q:Int):=by omega
   have v2:(q:Int)<(a.n:Int):=by omega
   have v3:((q:Int)).toNat=q:=by omega
   clear hr hb2 ha2 hc2 hL hl hlm hln
   go_enter Tryz.func53,Tryz.ntmps53
   go_upto_region 1 with fail
   clear hw2
   go_wp2_with fail
   clear r1 c10 d0 d1 d2 d3 d4
   go_loopw [32] (fun z wr=>∃ n,RgI w2 m l x n z wr) (fun z wr=>leastOf (fun n=>RgI w2 m l x n z wr))
   case atStart=>exact ⟨_,0,rfl,rfl,by omega,fun _ h=>absurd h (Nat.not_lt_zero _),Below.refl _ _⟩
   case round =>
    have hls:=(leastOf_spec hrel).1
    obtain ⟨i,rfl,hN,hi4,hall,hb⟩:=hls
    have HN:=Lib.hid hN
    have HA:=Lib.hid hall
    have HR:=Lib.hid hb
    have s1:(0:Int)≤(i:Int):=by omega
    have s3:((i:Int)).toNat=i:=by omega
    clear hN hall hrel
    by_cases g3:i<4
    ·have s2:(i:Int)<4:=by omega
     have hix:=fun W=>cidx_at x i g3 W
     have HP:=Lib.hid (fun (hc:cntB m l i (x i)=true) (W:World) (h:Below wr.heap.size wr W)=>RgI.next HA.out g3 hc HR.out h)
     have HLT:=Lib.hid (show 4 - (i+1)<4 - i by omega)
     have HX:=Lib.hid (fun (h:cntB m l i (x i)=false)=>cnts_not g3 h)
     obtain ⟨v,hv⟩ : ∃ v,v=x i:=⟨_,rfl⟩
     rw [← hv] at hix HP HX
     obtain ⟨_,_,fC⟩:=HF.out wr hb
     obtain ⟨d0,_⟩:=fC.five
     clear hb fC
     have HV:=Lib.hid hv
     clear hv
     by_cases g4:i<ln
     ·have s4:(i:Int)<(ln:Int):=by omega
      obtain ⟨k,_,_,hok⟩:=sc_in HW.out HM.out (by have:=HLN.out;omega:i<l.length)
      have HCI:=Lib.hid (cnt_in (m:=m) (v:=v) (by have:=HLN.out;omega:i<l.length))
      have HTN:=Lib.hid (show (scA m l i).2<0→(scA m l i).2 = -1 by unfold ScOk at hok;omega)
      obtain ⟨tp,htp⟩ : ∃ tp,tp=topS (scA m l i):=⟨_,rfl⟩
      have HTP:=Lib.hid htp
      clear hok htp
      go_wp2_with fail
      go_at_call 77
      refine (scope_any _ (HF.out _ HR.out).1 (HF.out _ HR.out).2.1 HLQ.out (by have:=HLN.out;omega)).mono ?_
      rintro e w3 ⟨rfl,hb3⟩
      have HB3:=Lib.hid hb3
      clear hb3
      go_wp2_with fail
      go_at_call 76
      refine (greatest_any _ _ _ HTN.out).mono ?_
      rintro e w4 ⟨rfl,hb4⟩
      have HB4:=Lib.hid (bhop HB3.out hb4)
      rw [show topS ((scA m l i).1,(scA m l i).2)=tp from HTP.out.symm]
      clear hb4
      by_cases g5:v<1
      ·go_wp2_with fail
       go_ret
       exact ⟨by rw [HX.out (by rw [HCI.out,decide_eq_false (by omega:¬ 1≤v),Bool.false_and])];rfl,bhop HB.out (bhop HR.out HB4.out)⟩
      ·by_cases g6:tp<v
       ·go_wp2_with fail
        go_ret
        exact ⟨by rw [HX.out (by rw [HCI.out,← HTP.out,decide_eq_false (by omega:¬ v≤tp),Bool.and_false])];rfl,bhop HB.out (bhop HR.out HB4.out)⟩
       ·have hc:cntB m l i v=true:=by rw [HCI.out,← HTP.out,decide_eq_true (by omega:1≤v),decide_eq_true (by omega:v≤tp),Bool.true_and]
        have HC:=Lib.hid hc
        clear hc
        go_wp2_with fail
        go_roundw
        all_goals have hc:=HC.out
        case rel=>exact ⟨_,HP.out hc _ (HB4.out)⟩
        case measure =>
         rw [HN.out]
         exact Nat.lt_of_le_of_lt ((leastOf_spec ⟨_,HP.out hc _ (HB4.out)⟩).2 _ (HP.out hc _ (HB4.out))) HLT.out
     ·have s4:¬ (i:Int)<(ln:Int):=by omega
      have HCO:=Lib.hid (cnt_out (m:=m) (v:=v) (by have:=HLN.out;omega:¬ i<l.length))
      by_cases g5:v<0
      ·go_wp2_with fail
       go_ret
       exact ⟨by rw [HX.out (by rw [HCO.out,decide_eq_false (by omega)])];rfl,bhop HB.out HR.out⟩
      ·by_cases g6:0<v
       ·go_wp2_with fail
        go_ret
        exact ⟨by rw [HX.out (by rw [HCO.out,decide_eq_false (by omega)])];rfl,bhop HB.out HR.out⟩
       ·have HC:=Lib.hid (show cntB m l i v=true by rw [HCO.out,decide_eq_true (by omega)])
        go_wp2_with fail
        go_roundw
        all_goals have hc:=HC.out
        case rel=>exact ⟨_,HP.out hc _ (Below.refl _ _)⟩
        case measure =>
         rw [HN.out]
         exact Nat.lt_of_le_of_lt ((leastOf_spec ⟨_,HP.out hc _ (Below.refl _ _)⟩).2 _ (HP.out hc _ (Below.refl _ _))) HLT.out
    ·have s2:¬ (i:Int)<4:=by omega
     have HD:=Lib.hid (show cntsB m l x=true from cnts_iff.2 fun j hj=>HA.out j (by omega))
     clear hb
     go_wp2_with fail
     go_ret
     exact ⟨by rw [HD.out];rfl,bhop HB.out HR.out⟩
end Go.Proofs.YtnmjicfpmkoldaaGreatDoor

/- Accepts, the program's and the document's: contracts.
   Conditions: the automaton lies in memory. -/
namespace Go.Proofs.YtnmjicfpmkoldaaGreatDoor
open Go.RowKit Go.Shelf
theorem right_pos {m:PM} {p:Int} {x:Nat→Int} (h:rightB m p x=true):∃ q:Nat,p=q∧1≤q∧q<m.ars.length:=by
 unfold rightB at h
 rw [Bool.and_eq_true,Bool.and_eq_true,decide_eq_true_eq,decide_eq_true_eq] at h
 exact ⟨p.toNat,by omega,by omega,by omega⟩
theorem acc_not {m:PM} {la:Nat} {p:Int} {x:Nat→Int} (h:rightB m p x=false):accB m la p x=false:=by unfold accB;rw [h];rfl
theorem acc_at {m:PM} {la q:Nat} {l:List Nat} {x:Nat→Int} (h:rightB m (q:Int) x=true) (hl:m.ars[q]? = some l):accB m la (q:Int) x=(la.testBit q && leftB m l x 0):=by
 unfold accB
 rw [h,show ((q:Int)).toNat=q by omega,List.getD_eq_getElem?_getD,hl]
 rfl
set_option maxHeartbeats 8000000 in
set_option maxRecDepth 100000 in
theorem accepts_any {B:Nat} {m:PM} {a:Au} {fl:List Nat} {la:Nat} (w:World) (hL:AuL w B m a fl la) (p:Int) (x:Nat→Int) :
  Calls Tryz.prog 28 #[.agg #[.int .i64 a.k,.int .u64 (a.s0:Nat),.int .u64 (a.s1:Nat),.int .u64 (a.s2:Nat),.int .u64 (a.s3:Nat),.slice a.ta a.tn a.tc,.int .i64 a.lo,.int .i64 a.hi,.slice a.sA a.n a.sC,.slice a.cA a.cN a.cC,.slice (some ⟨a.ga,0,none⟩) a.n a.aC,.slice a.fA a.fN a.fC,.slice (some ⟨a.mb,0,none⟩) a.n a.n,.slice (some ⟨a.lb,0,none⟩) a.n a.n,.bool a.em],.agg #[.int .i64 p,.int .i64 (x 0),.int .i64 (x 1),.int .i64 (x 2),.int .i64 (x 3)]] w fun e w'=>e=.returned (.bool (accB m la p x))∧Below w.heap.size w w':=by
 obtain ⟨w2,hw2,hb2,ha2,hc2⟩:=au_cf_box w a p x
 have HB:=Lib.hid hb2
 have HF:=Lib.hid (fun (W:World) (h:Below w2.heap.size w2 W)=>show AuB W w.heap.size a∧AuL W B m a fl la∧CfB W (w.heap.size+1) p x from ⟨ha2.below h,hL.below (bhop hb2 h),hc2.below h⟩)
 have HR:=Lib.hid (fun (W:World) (h:Below w2.heap.size w2 W)=>right_any W (HF.out W h).2.1 p x)
 cases hr:rightB m p x with
 | false =>
  have HD:=Lib.hid (acc_not (la:=la) hr)
  have HR2:=Lib.hid (fun (W:World) (h:Below w2.heap.size w2 W)=>by
   have:=HR.out W h
   rw [hr] at this
   exact this)
  obtain ⟨z0,z1,z2,z3,z4,z5,z6,z7,z8,z9,z10,z11,z12,z13,z14⟩:=ha2.all
  obtain ⟨d0,d1,d2,d3,d4⟩:=hc2.five
  clear hb2 ha2 hc2 hL hr
  go_enter Tryz.func28,Tryz.ntmps28
  go_upto_region 1 with fail
  clear hw2
  go_wp2_with fail
  go_at_call 53
  refine (HR2.out _ (by first | exact Below.refl _ _ | exact (Below.refl _ _).drew)).mono ?_
  rintro e w3 ⟨rfl,hb3⟩
  have HB3:=Lib.hid ((by first | exact hb3 | exact bhop (Below.refl _ _).drew hb3:Below w2.heap.size w2 w3))
  clear hb3 z0 z1 z2 z3 z4 z5 z6 z7 z8 z9 z10 z11 z12 z13 z14 d0 d1 d2 d3 d4
  go_wp2_with fail
  go_ret
  exact ⟨by rw [HD.out];rfl,bhop HB.out HB3.out⟩
 | true =>
  obtain ⟨q,rfl,hq1,hq2⟩:=right_pos hr
  rw [hL.ars] at hq2
  obtain ⟨l,hl,hlm,hl4⟩:=hL.at hq2
  have hacc:=acc_at (la:=la) hr hl
  have HR2:=Lib.hid (fun (W:World) (h:Below w2.heap.size w2 W)=>by
   have:=HR.out W h
   rw [hr] at this
   exact this)
  have HLA:=Lib.hid (fun (W:World) (h:Below w2.heap.size w2 W)=>((HF.out W h).2.1.la hq2).1)
  have v1:(0:Int)≤(q:Int):=by omega
  have v2:(q:Int)<(a.n:Int):=by omega
  have v3:((q:Int)).toNat=q:=by omega
  cases hla:la.testBit q with
  | false =>
   rw [hla] at hacc HLA
   have HD:=Lib.hid (show accB m la q x=false by rw [hacc];rfl)
   obtain ⟨z0,z1,z2,z3,z4,z5,z6,z7,z8,z9,z10,z11,z12,z13,z14⟩:=ha2.all
   obtain ⟨d0,d1,d2,d3,d4⟩:=hc2.five
   clear hb2 ha2 hc2 hL hr hacc hl hlm hl4 hla hq1 hq2
   go_enter Tryz.func28,Tryz.ntmps28
   go_upto_region 1 with fail
   clear hw2
   go_wp2_with fail
   go_at_call 53
   refine (HR2.out _ (by first | exact Below.refl _ _ | exact (Below.refl _ _).drew)).mono ?_
   rintro e w3 ⟨rfl,hb3⟩
   have HB3:=Lib.hid ((by first | exact hb3 | exact bhop (Below.refl _ _).drew hb3:Below w2.heap.size w2 w3))
   clear hb3 z0 z1 z2 z3 z4 z5 z6 z7 z8 z9 z10 z11 z12 z13 z14 d0 d1 d2 d3 d4
   obtain ⟨_,_,_,_,_,z13⟩:=(HF.out _ HB3.out).1.cells
   obtain ⟨d0,d1,d2,d3,d4⟩:=(HF.out _ HB3.out).2.2.five
   have y0:=HLA.out _ HB3.out
   go_wp2_with fail
   go_ret
   exact ⟨by rw [HD.out];rfl,bhop HB.out HB3.out⟩
  | true =>
   rw [hla] at hacc HLA
   have HD:=Lib.hid (show accB m la q x=leftB m l x 0 by rw [hacc];rfl)
   have HP:=Lib.hid hl
   obtain ⟨z0,z1,z2,z3,z4,z5,z6,z7,z8,z9,z10,z11,z12,z13,z14⟩:=ha2.all
   obtain ⟨d0,d1,d2,d3,d4⟩:=hc2.five
   clear hb2 ha2 hc2 hL hr hacc hl hlm hl4 hla hq1 hq2
   go_enter Tryz.func28,Tryz.ntmps28
   go_upto_region 1 with fail
   clear hw2
   go_wp2_with fail
   go_at_call 53
   refine (HR2.out _ (by first | exact Below.refl _ _ | exact (Below.refl _ _).drew)).mono ?_
   rintro e w3 ⟨rfl,hb3⟩
   have HB3:=Lib.hid ((by first | exact hb3 | exact bhop (Below.refl _ _).drew hb3:Below w2.heap.size w2 w3))
   clear hb3 z0 z1 z2 z3 z4 z5 z6 z7 z8 z9 z10 z11 z12 z13 z14 d0 d1 d2 d3 d4
   obtain ⟨_,_,_,_,_,z13⟩:=(HF.out _ HB3.out).1.cells
   obtain ⟨d0,d1,d2,d3,d4⟩:=(HF.out _ HB3.out).2.2.five
   have y0:=HLA.out _ HB3.out
   go_wp2_with fail
   go_at_call 54
   refine (leaves_any _ (HF.out _ HB3.out).1 (HF.out _ HB3.out).2.1 HP.out x 0 (by omega)).mono ?_
   rintro e w4 ⟨rfl,hb4⟩
   have HB4:=Lib.hid (bhop HB3.out hb4)
   clear hb4
   go_wp2_with fail
   go_ret
   exact ⟨by rw [HD.out];rfl,bhop HB.out HB4.out⟩
end Go.Proofs.YtnmjicfpmkoldaaGreatDoor

/- Begin: the contract.
   Conditions: the automaton lies in memory, its classes are four words below 2^64. -/
namespace Go.Proofs.YtnmjicfpmkoldaaGreatDoor
open Go.RowKit Go.Shelf
structure Cf where
 p:Nat
 x:Nat→Int
def cfc (c:Cf):List Value:=[.int .i64 c.p,.int .i64 (c.x 0),.int .i64 (c.x 1),.int .i64 (c.x 2),.int .i64 (c.x 3)]
def bgL (m:PM) (b:Nat) (fl:List Nat):List Cf:=(fl.filter fun q=>hasB (m.sets.getD q zeros) b).map fun q=>⟨q,entX (m.ars.getD q []) (fun _=>0) 0⟩
theorem bg_snoc (m:PM) (b:Nat) (fl:List Nat) (q:Nat):bgL m b (fl ++ [q])=bgL m b fl ++ (if hasB (m.sets.getD q zeros) b then [⟨q,entX (m.ars.getD q []) (fun _=>0) 0⟩] else []):=by
 unfold bgL
 rw [List.filter_append,List.map_append]
 congr 1
 rw [List.filter_cons,List.filter_nil]
 cases hasB (m.sets.getD q zeros) b <;> rfl
theorem bg_len (m:PM) (b:Nat) (fl:List Nat):(bgL m b fl).length≤fl.length:=by
 unfold bgL
 rw [List.length_map]
 exact List.length_filter_le _ _
theorem infoCf:(Tryz.prog.info? 55).map (fun i=>(i.zero,i.size,i.bytes))=some (some (.agg #[.int .i64 0,.int .i64 0,.int .i64 0,.int .i64 0,.int .i64 0]),5,40):=by kernel_rfl
theorem row_below {B:Nat} {wr w5:World} {e:TypeId} {sz n:Nat} {v:Value} {xs:List Value} {ob:Obj} (ho:wr.ownsRow B e sz v n xs) (hB:B≤wr.heap.size) (hg:(wr.alloc ob).grownBy w5 v.ownBlock):Below B wr w5 :=
 (((Chg.refl (fun x=>v.ownBlock=some x) wr).alloc ob).grown hg fun k hk _=>hk).below hB fun k hk e=>by have:=(ho.lt k e).1;omega
def BgI (w:World) (m:PM) (b:Nat) (fl:List Nat) (n:Nat) (z lv:Value) (wr:World):Prop:=∃ i:Nat,z=.int .i64 i∧n=fl.length - i∧i≤fl.length∧wr.ownsRow w.heap.size 55 5 lv (bgL m b (fl.take i)).length ((bgL m b (fl.take i)).flatMap cfc)∧Below w.heap.size w wr
set_option maxHeartbeats 8000000 in
set_option maxRecDepth 100000 in
theorem begin_any {B:Nat} {m:PM} {a:Au} {fl:List Nat} {la:Nat} (w:World) (hL:AuL w B m a fl la) (hC:∀ C∈m.sets,Cl C) (hfl:fl.length≤41) (b:Nat) (hb:b<256) :
  Calls Tryz.prog 45 #[.agg #[.int .i64 a.k,.int .u64 (a.s0:Nat),.int .u64 (a.s1:Nat),.int .u64 (a.s2:Nat),.int .u64 (a.s3:Nat),.slice a.ta a.tn a.tc,.int .i64 a.lo,.int .i64 a.hi,.slice a.sA a.n a.sC,.slice a.cA a.cN a.cC,.slice (some ⟨a.ga,0,none⟩) a.n a.aC,.slice a.fA a.fN a.fC,.slice (some ⟨a.mb,0,none⟩) a.n a.n,.slice (some ⟨a.lb,0,none⟩) a.n a.n,.bool a.em],.int .u8 b] w fun e w'=>(∃ A c,e=.returned (.slice A (bgL m b fl).length c)∧w'.ownsRow w.heap.size 55 5 (.slice A (bgL m b fl).length c) (bgL m b fl).length ((bgL m b fl).flatMap cfc))∧Below w.heap.size w w':=by
 obtain ⟨i0,hi,hz0,hz1,hz2⟩:=info_parts infoCf
 obtain ⟨w2,hw2,hb2,ha2⟩:=au_box w a
 have HF:=Lib.hid (fun (W:World) (h:Below w2.heap.size w2 W)=>show AuB W w.heap.size a∧AuL W B m a fl la from ⟨ha2.below h,hL.below (bhop hb2 h)⟩)
 have HB:=Lib.hid hb2
 have hfn:a.fN=fl.length:=own_num hL.first.own
 have HFN:=Lib.hid hfn
 have HIN:=Lib.hid (fun (q:Nat) (hq:q∈fl)=>show 1≤q∧q<a.n∧∃ C l,m.sets[q]? = some C∧m.ars[q]? = some l∧m.sets.getD q zeros=C∧m.ars.getD q []=l∧Cl C from by
  obtain ⟨h1,h2⟩:=hL.fin q hq
  have h3:=List.getElem?_eq_getElem (l:=m.sets) (i:=q) (by rw [hL.sets];exact h2)
  have h4:=List.getElem?_eq_getElem (l:=m.ars) (i:=q) (by rw [hL.ars];exact h2)
  exact ⟨h1,h2,_,_,h3,h4,by rw [List.getD_eq_getElem?_getD,h3];rfl,by rw [List.getD_eq_getElem?_getD,h4];rfl,hC _ (List.mem_of_getElem? h3)⟩)
 obtain ⟨_,_,_,c11,_⟩:=ha2.cells
 clear hb2 ha2 hL hfn hC
 go_enter Tryz.func45,Tryz.ntmps45
 go_upto_region 1 with fail
 clear hw2
 go_wp2_with fail
 clear c11
 go_loopw [11,5] (fun z lv wr=>∃ n,BgI w2 m b fl n z lv wr) (fun z lv wr=>leastOf (fun n=>BgI w2 m b fl n z lv wr))
 case atStart=>exact ⟨_,0,rfl,rfl,Nat.zero_le _,World.ownsRow_nil _ _ _ _,Below.refl _ _⟩
 case round =>
  have hls:=(leastOf_spec hrel).1
  obtain ⟨i,rfl,hN,hif,hown,hbr⟩:=hls
  obtain ⟨A,cp,rfl⟩:=own_form hown
  have HN:=Lib.hid hN
  have HO:=Lib.hid hown
  have HR:=Lib.hid hbr
  clear hN hrel hown
  have s1:(0:Int)≤(i:Int):=by omega
  have s3:((i:Int)).toNat=i:=by omega
  by_cases g:i<a.fN
  ·have s2:(i:Int)<(a.fN:Int):=by omega
   have gi:i<fl.length:=by have:=HFN.out;omega
   obtain ⟨q,hq⟩ : ∃ q,fl[i]? = some q:=⟨_,List.getElem?_eq_getElem gi⟩
   obtain ⟨fA,fL⟩:=HF.out wr hbr
   obtain ⟨gf,cf,hv,hgf,hcf,_⟩:=intsR_at fL.first hq
   simp only [Value.slice.injEq] at hv
   obtain ⟨hfa,hfm,hfc⟩:=hv
   clear hfm
   obtain ⟨h1,h2,C,l,k1,k2,k3,k4,k5⟩:=HIN.out q (List.mem_of_getElem? hq)
   have hsz:=fL.lists.sets
   rw [own_num hsz] at hsz
   obtain ⟨gs,hgs,hgl,e0,e1,e2,e3⟩:=cls_at hsz k1
   have hsn:=own_num fL.lists.sets
   obtain ⟨c8,_⟩:=fA.cells
   rw [hgs] at c8
   have v1:(0:Int)≤(q:Int):=by omega
   have v2:(q:Int)<(a.n:Int):=by omega
   have v3:((q:Int)).toNat=q:=by omega
   have hst:=bg_snoc m b (fl.take i) q
   rw [k3,k4,show fl.take i ++ [q]=fl.take (i+1) by rw [List.take_add_one,hq];rfl] at hst
   have HST:=Lib.hid hst
   have HK:=Lib.hid (And.intro k2 k5)
   have HLT:=Lib.hid (show fl.length - (i+1)<fl.length - i by omega)
   have HI1:=Lib.hid gi
   have hbl:=bg_len m b (fl.take i)
   have htl:(fl.take i).length≤41:=by rw [List.length_take];omega
   have hi41:i≤41:=by omega
   obtain ⟨k,hk⟩ : ∃ k,k=(bgL m b (fl.take i)).length:=⟨_,rfl⟩
   have HKL:=Lib.hid hk
   have hk41:k≤41:=by omega
   have HO2:=Lib.hid (show wr.ownsRow w2.heap.size 55 5 (.slice A k cp) k ((bgL m b (fl.take i)).flatMap cfc) from by have:=HO.out;rw [← hk] at this;exact this)
   have HN2:=Lib.hid (show (leastOf fun n=>BgI w2 m b fl n (.int .i64 i) (.slice A k cp) wr)=fl.length - i by have:=HN.out;rw [← hk] at this;exact this)
   rw [← hk,hfa]
   clear fA fL hsz hbr hst hfa hfc k1 k2 k3 k4 k5 hk htl hbl h1 h2 hif hq hsn hgs hgl hgf gi hfl
   go_wp2_with fail
   go_at_call 37
   refine (chas_any C b _ HK.out.2 hb).mono ?_
   rintro e w3 ⟨rfl,hb3⟩
   have HB3:=Lib.hid hb3
   clear hb3
   cases hh:hasB C b with
   | true =>
    have HT:=Lib.hid (show bgL m b (fl.take (i+1))=bgL m b (fl.take i) ++ [⟨q,entX l (fun _=>0) 0⟩] by rw [HST.out,hh];rfl)
    have HEN:=Lib.hid (entered_any w3 (HF.out w3 (bhop HR.out HB3.out)).1 (HF.out w3 (bhop HR.out HB3.out)).2 HK.out.1 (fun _=>0) 0 (by omega))
    clear hh e0 e1 e2 e3 hcf c8
    go_wp2_with fail
    go_at_call 69
    refine HEN.out.mono ?_
    rintro e w4 ⟨rfl,hb4⟩
    have HB4:=Lib.hid (bhop HB3.out hb4)
    clear hb4
    go_wp2_with ((at_builtin;refine wpList_append_lies _ (by rfl) _ _ 42 (by rfl) w2.heap.size 55 i0 _ 5 40 Tryz.underlying42 hi hz0 hz1 hz2 rfl (by decide) (.slice A k cp) k ((bgL m b (fl.take i)).flatMap cfc) (by rfl) ((own_chg HO2.out (Chg.of_below (R:=fun _=>False) HB4.out) fun _ _=>id).alloc _) ⟨w4.heap.size,0,none⟩ 1 1 [.int .i64 q,.int .i64 ((entX l (fun _=>0) 0) 0),.int .i64 ((entX l (fun _=>0) 0) 1),.int .i64 ((entX l (fun _=>0) 0) 2),.int .i64 ((entX l (fun _=>0) 0) 3)] (by rfl) ?c0 ?c1 ?c2 (by decide) ?c3 ?c4 ?c5 _ rfl ?_))
    case c0=>rfl
    case c1=>exact World.news_of_block (heap_alloc_new w4 _)
    case c2=>simp [Value.oneCell']
    case c3=>unfold maxLen;omega
    case c4=>omega
    case c5=>have:=(bhop HR.out HB4.out).size;simp;omega
    intro g5 cap5 w5 hown5 hgrow5 hat5 hlt5
    have HP:=Lib.hid (show BgI w2 m b fl (fl.length - (i+1)) (.int .i64 ((i:Int)+1)) (.slice (some ⟨g5,0,none⟩) (k+1) cap5) w5 from
     ⟨i+1,by push_cast;rfl,rfl,HI1.out,by
      rw [HT.out,List.length_append,List.flatMap_append,← HKL.out]
      exact hown5,bhop HR.out HB4.out |>.trans (row_below (own_chg HO2.out (Chg.of_below (R:=fun _=>False) HB4.out) fun _ _=>id) (bhop HR.out HB4.out).size hgrow5)⟩)
    clear hown5 hgrow5 hat5 hlt5
    go_wp2_with fail
    go_roundw
    case rel=>exact ⟨_,HP.out⟩
    case measure =>
     rw [HN2.out]
     exact Nat.lt_of_le_of_lt ((leastOf_spec ⟨_,HP.out⟩).2 _ HP.out) HLT.out
   | false =>
    have HT:=Lib.hid (show bgL m b (fl.take (i+1))=bgL m b (fl.take i) by rw [HST.out,hh];exact List.append_nil _)
    have HP:=Lib.hid (show BgI w2 m b fl (fl.length - (i+1)) (.int .i64 ((i:Int)+1)) (.slice A k cp) w3 from
     ⟨i+1,by push_cast;rfl,rfl,HI1.out,by
      rw [HT.out,← HKL.out]
      exact own_chg HO2.out (Chg.of_below (R:=fun _=>False) HB3.out) fun _ _=>id,bhop HR.out HB3.out⟩)
    clear hh e0 e1 e2 e3 hcf c8
    go_wp2_with fail
    go_roundw
    case rel=>exact ⟨_,HP.out⟩
    case measure =>
     rw [HN2.out]
     exact Nat.lt_of_le_of_lt ((leastOf_spec ⟨_,HP.out⟩).2 _ HP.out) HLT.out
  ·have s2:¬ (i:Int)<(a.fN:Int):=by omega
   have htk:fl.take i=fl:=List.take_of_length_le (by have:=HFN.out;omega)
   have hown2:=HO.out
   rw [htk] at hown2
   rw [htk]
   have HO3:=Lib.hid hown2
   clear hown2 hbr hif
   go_wp2_with fail
   go_ret
   exact ⟨⟨A,cp,rfl,own_low HO3.out HB.out.size⟩,bhop HB.out HR.out⟩
end Go.Proofs.YtnmjicfpmkoldaaGreatDoor
