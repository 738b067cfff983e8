/- Of every input the statement NaiveDead returns true, and it reads afterwards as before; the card: what its row lists is tied to the program's text.
   No condition. -/
import Derived.Test.YtnmjicfpmkoldaaGreatDoorN5
import Derived.Test.YtnmjicfpmkoldaaGreatDoorN1
import Derived.StillTailTactics
import Derived.Test.YtnmjicfpmkoldaaGreatDoorPM
import Derived.Test.YtnmjicfpmkoldaaGreatDoorMRef
import Derived.Test.YtnmjicfpmkoldaaGreatDoorCards
import Derived.Test.YtnmjicfpmkoldaaGreatDoorTie
import Derived.ProofKit
import Derived.LaidMore
import Derived.OpenShut
import Derived.ChangeOld
import Derived.Below
import Derived.SevenTiedAt

/- A word appended to a word of one's own: laws.
   Conditions: the words lie in memory. -/
namespace Go.Proofs.YtnmjicfpmkoldaaGreatDoor
open Go.RowKit Go.Maps Go.Shelf
theorem infoBy:(Tryz.prog.info? 5).map (fun i=>(i.zero,i.size,i.bytes))=some (some (.int .u8 0),1,1):=by kernel_rfl
def byc (l:List Nat):List Value:=l.map fun (x:Nat)=>.int .u8 (x:Int)
theorem byc_one (l:List Nat):∀ u∈byc l,u.oneCell'=true:=fun u hu=>by
 obtain ⟨x,_,rfl⟩:=List.mem_map.1 hu
 rfl
theorem byc_app (l r:List Nat):byc (l ++ r)=byc l ++ byc r:=List.map_append
theorem run_append_voidB {w:World} (base:Nat) (t ty e:TypeId) (i:TypeInfo) (size c:Nat) (ht:Tryz.prog.underlying t=some (.slice e)) (hi:Tryz.prog.info? e=some i) (v:Value) (n:Nat) (xs:List Value) (hown:w.ownsRow base e size v n xs) :
  (Builtin.append_ #[t,t] ty #[v,.slice none 0 c]).run Tryz.prog w=.ok v w:=by
 rcases hown.2 with ⟨rfl,rfl⟩ | ⟨g,cap,cur,rfl,_,_,hnc,_⟩
 ·simp [Builtin.append_,run_underlying ht,sizeOf,typeInfo,hi,Builtin.lenOf,Builtin.firstCells]
 ·simp [Builtin.append_,run_underlying ht,sizeOf,typeInfo,hi,Builtin.lenOf,Builtin.firstCells,hnc,storeCells]
theorem wpList_append_by {w:World} {ops:Array Oper} {rest:List Oper} {o:Oper} {a:Act} {Q:Exit→Act→World→Prop} (hgd:o.guard=none) (s x:Operand)
  (ho:o.op=.call { callee:=.builtin .append,args:=#[s,x],argTypes:=#[28,28] })
  (base:Nat) (v:Value) (n:Nat) (xs:List Value) (hs:a.eval s=v) (hown:w.ownsRow base 5 1 v n xs) {bv:Value} {l:List Nat} (hw:WrdR w bv l) (hx:a.eval x=bv)
  (h63:n+l.length≤maxLen) (hbytes:n+l.length≤140737488355328) (hbase:base≤w.heap.size)
  (h:∀ v' w',w'.ownsRow base 5 1 v' (n+l.length) (xs ++ byc l)→w.grownBy w' v.ownBlock→wpList Tryz.prog ops Q rest (a.put o.dst v') w'):wpList Tryz.prog ops Q (o :: rest) a w:=by
 obtain ⟨i,hi,hz,hsize,hby⟩:=info_parts infoBy
 obtain ⟨A,c,rfl,hr⟩:=hw
 cases A with
 | none =>
  have hl:l=[]:=by
   cases l with
   | nil=>rfl
   | cons q l =>
    obtain ⟨_,g,o,hA,_⟩:=hr 0 q rfl
    cases hA
  subst hl
  refine wpList_plain hgd fun K hK=>?_
  have hrun:=run_append_voidB (w:=w) base 28 o.type 5 i 1 c Tryz.underlying28 hi v n xs hown
  unfold Oper.wp
  simp only [List.length_nil] at hx
  simp [execOp,ho,resolve,invoke,builtin,hs,hx,hrun,Result.andThen]
  exact hK _ _ (h v w (by simpa [byc] using hown) ⟨rfl,rfl,rfl,Nat.le_refl _,fun _ _ _=>rfl⟩)
 | some ad =>
  refine wpList_append_own_at w hgd s x _ ho base 5 i _ 1 1 Tryz.underlying28 hi hz hsize hby rfl (by decide) v n xs hs hown ad l.length c (byc l) hx (by simp [byc]) (fun j u hj=>?_) (byc_one l) h63 (by omega) hbase fun v' w' k1 k2 _ _=>h v' w' k1 k2
  have hj':=hj
  unfold byc at hj'
  rw [List.getElem?_map] at hj'
  obtain ⟨y,hy,rfl⟩:=Option.map_eq_some_iff.1 hj'
  obtain ⟨_,g,o,hA,_,h1⟩:=hr j y hy
  obtain rfl:=Option.some.inj hA
  by_cases hj0:j=0
  ·subst hj0
   simpa [Addr.add] using h1
  ·simpa [Addr.add,hj0] using h1
theorem wrd_own {w:World} {base:Nat} {v:Value} {l:List Nat} (h:w.ownsRow base 5 1 v l.length (byc l)) (hl:∀ x∈l,x<256):WrdR w v l:=by
 obtain ⟨A,c,rfl⟩:=own_form h
 refine ⟨A,c,rfl,fun i x hx=>⟨hl x (List.mem_of_getElem? hx),?_⟩⟩
 have hil:=(List.getElem?_eq_some_iff.1 hx).1
 obtain ⟨g,cap,hv,_,_⟩:=World.ownsRow.form h (by omega:0<l.length)
 simp only [Value.slice.injEq,true_and] at hv
 obtain ⟨rfl,rfl⟩:=hv
 refine ⟨g,0,rfl,(h.lt g rfl).2,?_⟩
 rw [Nat.zero_add]
 refine (World.ownsRow.cellAt h i (by omega)).trans ?_
 unfold byc
 rw [List.getElem?_map,hx]
 rfl
end Go.Proofs.YtnmjicfpmkoldaaGreatDoor

/- The walk of the statement NaiveDead: called with a tree and two words it returns true and changes nothing that was there.
   Conditions: the tree and the words lie in memory, the tree's sets are four words below 2^64, and the library's table lies there. -/
namespace Go.Proofs.YtnmjicfpmkoldaaGreatDoor
open Go.RowKit Go.Maps Go.Shelf
attribute [local go_sem] nodeAgg
theorem dead_of {w:World} {B:Nat} {m:PM} {a:Au} {fl:List Nat} {la:Nat} {L:Nat→List Mv} {u:List Nat} {l:List Kc} (hL:AuL w B m a fl la) (hM:MvL m L) (h:∀ k,k∈l↔Kc63 k∧bhS m fl L u k) (hl:(sortC l).length=0) (hu:u≠[]) (r:List Nat):∀ k,¬ bhS m fl L (u ++ r) k:=by
 refine bhS_dead hu (fun k hk=>?_) r
 rw [(sortC_perm l).length_eq,List.length_eq_zero_iff] at hl
 have:=(h k).2 ⟨ok_63 hL.wf (by rw [hL.ars];exact hL.most) (bhS_ok hL.wf (fun q hq=>⟨(hL.fin q hq).1,by rw [hL.ars];exact (hL.fin q hq).2⟩) hM _ k hk),hk⟩
 rw [hl] at this
 simp at this
set_option maxRecDepth 100000 in
theorem own_nilB (W:World) (base:Nat) (hbase:base≤W.heap.size):(W.alloc (.cells #[] 5)).ownsRow base 5 1 (.slice (some ⟨W.heap.size,0,none⟩) 0 0) 0 []:=by
 obtain ⟨i,hi,hz,hs,hb⟩:=info_parts infoBy
 obtain ⟨w',hrun,r1,_⟩:=run_make_own (P:=Tryz.prog) W base 28 5 i _ 1 Tryz.underlying28 hi hz hs .i64 .i64 0 (by rw [hb];omega) (by unfold maxLen;omega) hbase
 have h2:=run_make (P:=Tryz.prog) W 28 5 i _ Tryz.underlying28 hi hz .i64 .i64 0 0 (by omega) (by omega) (by rw [hb];omega) (by omega)
 have e0:madeCells #[.int .u8 0] 0=#[]:=by simp [madeCells]
 rw [hs,show (Value.int .u8 0).cells=#[.int .u8 0] by simp [Value.cells]] at h2
 simp only [Int.toNat_zero,Nat.mul_one,Int.ofNat_zero] at h2 hrun
 rw [e0] at h2
 have h3:=h2.symm.trans hrun
 simp only [Result.ok.injEq] at h3
 rw [h3.2]
 exact r1
theorem grown_below {w w3 w5:World} {v:Value} {n:Nat} {xs:List Value} (hown:w3.ownsRow w.heap.size 5 1 v n xs) (hb:Below w.heap.size w w3) (hg:w3.grownBy w5 v.ownBlock):Below w.heap.size w w5 :=
 have hc:Chg (fun k=>w.heap.size≤k) w3 w5:=(Chg.refl _ w3).grown hg fun k hk _=>(World.ownsRow.lt hown k hk).1
 hb.trans (hc.below hb.size fun k hk e=>by omega)
set_option maxHeartbeats 8000000 in
set_option maxRecDepth 100000 in
theorem dead8_walk (t:V) (v1 v2:Value) (u r:List Nat) (w:World) (R:Nat→Prop) (ht:Laid w R t) (hgd:Good t) (hT:TabE w) (hTl:tabE<w.heap.size) (hu:WrdR w v1 u) (hr:WrdR w v2 r) :
  Calls Tryz.prog 3 #[nodeAgg t,v1,v2] w fun e w'=>e=.returned (.bool true)∧Below w.heap.size w w':=by
 obtain ⟨sa,sc,hv0,_⟩:=laid_row' ht
 obtain ⟨sn,hsn⟩ : ∃ sn,sn=t.ps.length:=⟨_,rfl⟩
 rw [← hsn] at hv0
 have HTT:=Lib.hid (fun (W:World) (h:Below w.heap.size w W)=>show TabE W∧tabE<W.heap.size from ⟨tab_below hT hTl h,Nat.lt_of_lt_of_le hTl h.size⟩)
 have HAU:=Lib.hid (fun (W:World) (h:Below w.heap.size w W)=>by
  have:=auto_any t W R (laid_low ht h) (HTT.out W h).1 (HTT.out W h).2
  rw [nodeAgg_v hv0] at this
  exact this)
 have HW:=Lib.hid (fun (W:World) (h:Below w.heap.size w W)=>And.intro (hu.below h) (hr.below h))
 have HGD:=Lib.hid hgd
 obtain ⟨A1,c1,rfl,hu0⟩:=hu
 obtain ⟨A2,c2,rfl,hr0⟩:=hr
 obtain ⟨un,hun⟩ : ∃ n,n=u.length:=⟨_,rfl⟩
 obtain ⟨rn,hrn⟩ : ∃ n,n=r.length:=⟨_,rfl⟩
 have HL:=Lib.hid (And.intro hun hrn)
 have H256:=Lib.hid (show (∀ x∈u,x<256)∧(∀ x∈r,x<256) from ⟨fun x hx=>by obtain ⟨i,hi⟩:=List.mem_iff_getElem?.1 hx;exact (hu0 i x hi).1,fun x hx=>by obtain ⟨i,hi⟩:=List.mem_iff_getElem?.1 hx;exact (hr0 i x hi).1⟩)
 rw [← hun,← hrn] at HW ⊢
 rw [nodeAgg_v hv0]
 have HAW:=Lib.hid (fun (W:World) (h:Below w.heap.size w W)=>awake8_any W (HTT.out W h).1 (HTT.out W h).2)
 obtain ⟨w0,hw0,hb0,hlt0,hbx⟩:=box_new w t (.slice sa sn sc)
 have HBX:=Lib.hid hbx
 have HB0:=Lib.hid hb0
 clear ht hv0 hsn hT hTl hu0 hr0 hun hrn hgd hbx hb0 hlt0
 go_enter Tryz.func3,Tryz.ntmps3
 go_upto_region 1 with fail
 clear hw0
 go_wp2_with fail
 go_at_call 9
 refine (HAW.out _ HB0.out).mono ?_
 rintro e w2 ⟨rfl,hb2⟩
 have HB2:=Lib.hid (bhop HB0.out hb2)
 obtain ⟨q0,q1,q2,q3,q4,q5,q6,q7⟩:=HBX.out w2 hb2
 clear hb2
 by_cases h1:30<un
 ·have h1':(30:Int)<(un:Int):=by omega
  go_wp2_with fail
  go_at_call 9
  refine (HAW.out _ HB2.out).mono ?_
  rintro e w3 ⟨rfl,hb3⟩
  have HB3:=Lib.hid (bhop HB2.out hb3)
  clear hb3
  go_wp2_with fail
  go_ret
  exact ⟨rfl,HB3.out⟩
 have h1':¬ (30:Int)<(un:Int):=by omega
 by_cases h2:un=0
 ·have h2':(un:Int)=0:=by omega
  go_wp2_with fail
  go_at_call 9
  refine (HAW.out _ HB2.out).mono ?_
  rintro e w3 ⟨rfl,hb3⟩
  have HB3:=Lib.hid (bhop HB2.out hb3)
  clear hb3
  go_wp2_with fail
  go_ret
  exact ⟨rfl,HB3.out⟩
 have h2':¬ (un:Int)=0:=by omega
 by_cases h3:10<rn
 ·have h3':(10:Int)<(rn:Int):=by omega
  go_wp2_with fail
  go_at_call 9
  refine (HAW.out _ HB2.out).mono ?_
  rintro e w3 ⟨rfl,hb3⟩
  have HB3:=Lib.hid (bhop HB2.out hb3)
  clear hb3
  go_wp2_with fail
  go_ret
  exact ⟨rfl,HB3.out⟩
 have h3':¬ (10:Int)<(rn:Int):=by omega
 have hno:¬ (((30:Int)<(un:Int)∨((un:Int) == 0)=true)∨(10:Int)<(rn:Int)):=by
  rintro ((hx | hx) | hx)
  ·omega
  ·exact h2' (by simpa using hx)
  ·omega
 go_wp2_with fail
 go_at_call 10
 refine Calls.mono (HAU.out w2 HB2.out) ?_
 rintro e w3 ⟨hh,hb3⟩
 have HB3:=Lib.hid (bhop HB2.out hb3)
 rcases hh with ⟨rfl,_⟩ | ⟨B,a,m,L,hG,rfl⟩
 ·clear hb3
  go_wp2_with fail
  go_ret
  exact ⟨rfl,HB3.out.alloc HB3.out.size _⟩
 obtain ⟨w4,hw4,hb4,ha4⟩:=au_box w3 a
 have hau:=hG.au
 obtain ⟨vs,hrw⟩:=hG.rows
 have hmv:=hG.mvl
 have hCl:∀ C∈m.sets,Cl C:=map_cl HGD.out hG.map
 have hfs:(bitsL (mvT (simT (erase t)) 0 0).1.fi).Pairwise (· < ·):=List.Pairwise.filter _ List.pairwise_lt_range
 generalize bitsL (mvT (simT (erase t)) 0 0).1.fi=fl at hau hfs
 generalize (mvT (simT (erase t)) 0 0).1.la=la at hau
 have hfl:fl.length≤41:=by have:=fl_few hfs fun q hq=>(hau.fin q hq).2;have:=hau.most;omega
 have HB4:=Lib.hid (bhop HB3.out hb4)
 have HF:=Lib.hid (fun (W:World) (h:Below w4.heap.size w4 W)=>show AuB W w3.heap.size a∧AuL W B m a fl la∧RowsM W B a.n (.slice (some ⟨a.mb,0,none⟩) a.n a.n) vs L from ⟨ha4.below h,hau.below (bhop hb4 h),hrw.below (bhop hb4 h)⟩)
 have HP:=Lib.hid (And.intro hCl (And.intro hfl hmv))
 obtain ⟨z0,z1,z2,z3,z4,z5,z6,z7,z8,z9,z10,z11,z12,z13,z14⟩:=ha4.all
 clear hG hau hrw hmv hCl hfs hfl hb3 hb4 ha4
 go_upto_region 4 with fail
 clear hw4
 have hwu:=(HW.out w4 HB4.out).1
 have HBe:=Lib.hid (behind_any w4 (HF.out w4 (Below.refl _ _)).2.1 (HF.out w4 (Below.refl _ _)).2.2 HP.out.1 HP.out.2.1 HP.out.2.2 _ u hwu (by have:=HL.out.1;omega))
 clear hwu
 go_wp2_with fail
 go_at_call 11
 refine HBe.out.mono ?_
 rintro e w5 ⟨A5,c5,l,rfl,l1,l2,_,_,hb5⟩
 have HB5:=Lib.hid (And.intro (bhop HB4.out hb5) hb5)
 obtain ⟨ll,hll⟩ : ∃ n,n=(sortC l).length:=⟨_,rfl⟩
 have HLL:=Lib.hid (And.intro hll (And.intro l1 l2))
 rw [← hll]
 clear hb5 l1 l2 hll z0 z1 z2 z3 z4 z5 z6 z7 z8 z9 z10 z11 z12 z13 z14
 by_cases h4:0<ll
 ·have h4':(0:Int)<(ll:Int):=by omega
  go_wp2_with fail
  go_ret
  exact ⟨rfl,HB5.out.1⟩
 have h4':¬ (0:Int)<(ll:Int):=by omega
 go_upto_region 6 with fail
 have hown0:=own_nilB w5 w5.heap.size (Nat.le_refl _)
 have hba:=(Below.refl w5.heap.size w5).alloc (Nat.le_refl _) (.cells #[] 5)
 have H0:=Lib.hid (And.intro hown0 hba)
 have HL2:=Lib.hid (show un≤30∧rn≤10∧un≠0 from ⟨by omega,by omega,h2⟩)
 have hll0:ll=0:=by omega
 have HDE:=Lib.hid (dead_of (HF.out w4 (Below.refl _ _)).2.1 HP.out.2.2 HLL.out.2.2 (by rw [← HLL.out.1];exact hll0) (u:=u) (by rintro rfl;have:=HL.out.1;simp at this;omega) r)
 clear hown0 hba hll0
 go_wp2_with (first
  | (at_builtin;refine wpList_append_by rfl _ _ rfl w5.heap.size _ 0 [] rfl H0.out.1 (HW.out _ (bhop HB5.out.1 H0.out.2)).1 rfl (by have:=HL2.out;have:=HL.out;unfold maxLen;omega) (by have:=HL2.out;have:=HL.out;omega) H0.out.2.size ?_;intro v7 w7 hown7 hg7;have H7:=Lib.hid (grown_below H0.out.1 H0.out.2 hg7);have H7o:=Lib.hid hown7;clear hown7 hg7)
  | (at_builtin;refine wpList_append_by rfl _ _ rfl w5.heap.size _ _ _ rfl H7o.out (HW.out _ (bhop HB5.out.1 H7.out)).2 rfl (by have:=HL2.out;have:=HL.out;unfold maxLen;omega) (by have:=HL2.out;have:=HL.out;omega) H7.out.size ?_;intro v8 w8 hown8 hg8;have H8:=Lib.hid (grown_below H7o.out H7.out hg8);have H8o:=Lib.hid hown8;have H84:=Lib.hid (bhop HB5.out.2 H8.out);obtain ⟨z0,z1,z2,z3,z4,z5,z6,z7,z8,z9,z10,z11,z12,z13,z14⟩:=(HF.out w8 H84.out).1.all;clear hown8 hg8))
 have HWL:=Lib.hid (show WrdR w8 v8 (u ++ r) from wrd_own (by have h:=H8o.out;rw [List.nil_append,← byc_app,Nat.zero_add,← List.length_append] at h;exact h) fun x hx=>(List.mem_append.1 hx).elim (H256.out.1 x) (H256.out.2 x))
 have HLN:=Lib.hid (show (u ++ r).length≤40 from by rw [List.length_append];have:=HL2.out;have:=HL.out;omega)
 have HBe2:=Lib.hid (behind_any w8 (HF.out w8 H84.out).2.1 (HF.out w8 H84.out).2.2 HP.out.1 HP.out.2.1 HP.out.2.2 _ _ HWL.out HLN.out)
 go_wp2_with fail
 go_at_call 11
 refine HBe2.out.mono ?_
 rintro e w9 ⟨A9,c9,l9,rfl,g1,g2,_,_,hb9⟩
 have hl9:(sortC l9).length=0:=by
  rw [(sortC_perm l9).length_eq,List.length_eq_zero_iff]
  exact List.eq_nil_iff_forall_not_mem.2 fun k hk=>HDE.out k ((g2 k).1 hk).2
 rw [hl9]
 have H9:=Lib.hid (And.intro (bhop H84.out hb9) hb9)
 clear hl9 g1 g2 hb9 z0 z1 z2 z3 z4 z5 z6 z7 z8 z9 z10 z11 z12 z13 z14
 obtain ⟨z0,z1,z2,z3,z4,z5,z6,z7,z8,z9,z10,z11,z12,z13,z14⟩:=(HF.out w9 H9.out.1).1.all
 have HMt:=Lib.hid (nmatch_any w9 (HF.out w9 H9.out.1).2.1 (HF.out w9 H9.out.1).2.2 HP.out.1 HP.out.2.1 HP.out.2.2 _ _ (HWL.out.below H9.out.2) HLN.out)
 go_wp2_with fail
 go_at_call 12
 refine HMt.out.mono ?_
 rintro e w10 ⟨bv,rfl,hbv,hb10⟩
 have HBV:=Lib.hid (show bv=false from by
  cases hx:bv with
  | false=>rfl
  | true =>
   obtain ⟨k,_,k2,_⟩:=(hbv.2 (by intro e;have h0:=(congrArg List.length (List.append_eq_nil_iff.1 e).1).trans List.length_nil;have h1:=HL2.out.2.2;have h2:=HL.out.1;omega)).1 hx
   exact absurd k2 (HDE.out k))
 rw [HBV.out]
 have HE:=Lib.hid (bhop HB4.out (bhop H9.out.1 hb10))
 clear hbv hb10
 go_wp2_with fail
 go_ret
 exact ⟨rfl,HE.out⟩
end Go.Proofs.YtnmjicfpmkoldaaGreatDoor

/- Of every input the statement NaiveDead returns true, and it reads afterwards as before; the card: what its row lists is tied to the program's text.
   No condition. -/
namespace Go.Proofs.YtnmjicfpmkoldaaGreatDoor
open Go.ChangeShapes Go.WideShapes Go.ChangeAt Go.RowKit
theorem naiveDeadOwn:ownKnob Tryz.prog.godebug=none:=by kernel_rfl
theorem naiveDeadLaidOut:laidOutB Tryz.prog=true:=by kernel_rfl
theorem naiveDeadAgg (t:V):nodeAgg t=.agg (ndc t).toArray:=rfl
theorem naiveDeadDoor (os:Os) (args:Array Value):laidMetH Tryz.prog Rows.naiveDeadRow.laid ((World.doorLaid Tryz.prog 400 os).forCall (fun _ _=>0) ⟨#[],args,[]⟩).memory :=
 laidMetH_of_parts3 (fuel:=8) (laidMet_of_run' 8 (by kernel_rfl) (by kernel_rfl)) (by kernel_rfl) (by kernel_rfl)
set_option maxRecDepth 100000 in
theorem naiveDead_lifted (os:Os) (started:os.Started) (H:Type) (enc:TypeId×Value→H) :
  ReturnsInHanded {} Tryz.checked os 3 .any (fun w args=>(Rows.naiveDeadSpec.pre enc Tryz.prog Tryz.f3 Rows.naiveDeadRow.domain false w args∧laidMetH Tryz.prog Rows.naiveDeadRow.laid w)∧sizedMet enc Tryz.prog Tryz.f3 (OpenSpec.ofChange Rows.naiveDeadSpec) false w args)
   (Rows.naiveDeadSpec.post enc Tryz.prog Tryz.f3 false true false false):=by
 refine returnsInHanded_of_change_and (C:=Tryz.checked) (X:=fun w _=>laidMetH Tryz.prog Rows.naiveDeadRow.laid w) (fun _ _ _ hh h=>h.of_heap hh) naiveDeadOwn started (by kernel_rfl) Tryz.func3
  (ChangeSpec.witness_shaped (enc:=enc) (C:=Tryz.checked) (os:=os) (X:=fun w _=>laidMetH Tryz.prog Rows.naiveDeadRow.laid w) false (World.doorLaid Tryz.prog 400 os) #[.agg #[.int .i64 0,.int .u64 0,.int .u64 0,.int .u64 0,.int .u64 0,.slice none 0 0,.int .i64 0,.int .i64 0],.slice none 0 0,.slice none 0 0] 8 rfl (World.shaped_of_RefB (by kernel_rfl) (by kernel_rfl)) (by kernel_rfl) (by kernel_rfl) (by kernel_rfl) (naiveDeadDoor os _)) ?_
 intro W base args ds gs before hval0 hW _ _ hLaid _
 have hval:∀ (j:Nat) t v,Tryz.f3.params[j]? = some t→args[j]? = some v→Value.okWide Tryz.prog W .any base t v:=hval0
 have hW':=hW
 obtain ⟨hT,hTl⟩:=tab_laid hLaid
 obtain ⟨p,q,hA0,hV,rfl,hfz,hnd⟩:=hW
 have hA:DataW.TrodAll enc Tryz.prog W 0 (fun _=>true) true Tryz.f3.params.toList args.toList ds p:=hA0
 rw [Tryz.params3] at hA hval
 obtain ⟨v0,vs0,d0,ds0,p0,q0,hargs,rfl,rfl,h0,rr0⟩:=trodAll_cons hA
 obtain ⟨v1,vs1,d1,ds1,p1,q1,rfl,rfl,rfl,h1,rr1⟩:=trodAll_cons rr0
 obtain ⟨v2,vs2,d2,ds2,p2,q2,rfl,rfl,rfl,h2,rr2⟩:=trodAll_cons rr1
 obtain ⟨rfl,rfl,rfl⟩:=trodAll_nil rr2
 obtain rfl:args=#[v0,v1,v2]:=by cases args;simp_all
 obtain ⟨rfl,rfl⟩:=trodVars_none hV
 have k0:=h0
 have lt0:∀ x∈p0,x.block<W.heap.size:=by obtain ⟨m,hm⟩:=k0;exact DataW.trod_lt m _ _ _ hm
 have k1:=h1
 have lt1:∀ x∈p1,x.block<W.heap.size:=by obtain ⟨m,hm⟩:=k1;exact DataW.trod_lt m _ _ _ hm
 have k2:=h2
 have lt2:∀ x∈p2,x.block<W.heap.size:=by obtain ⟨m,hm⟩:=k2;exact DataW.trod_lt m _ _ _ hm
 obtain ⟨t0,rfl,l0,gd0⟩:=open_tree (hval 0 27 v0 rfl rfl) h0
 obtain ⟨wd1,hwd1,_⟩:=open_bytes8 (hval 1 28 v1 rfl rfl) h1
 obtain ⟨wd2,hwd2,_⟩:=open_bytes8 (hval 2 28 v2 rfl rfl) h2
 clear hA0 hval0
 rw [← naiveDeadAgg] at *
 refine (dead8_walk t0 v1 v2 wd1 wd2 W _ l0 gd0 hT hTl hwd1 hwd2).mono fun e W' ⟨he,bel⟩=>?_
 subst he
 exact ⟨_,rfl,_,_,_,[],_,[],hW',trodAll_mk1 (shut_bool Tryz.underlying4 _),(trodAll_cons_mk (Below.trod naiveDeadLaidOut (by kernel_rfl) (of_decide_eq_true (by kernel_rfl)) k0 bel lt0) (trodAll_cons_mk (Below.trod naiveDeadLaidOut (by kernel_rfl) (of_decide_eq_true (by kernel_rfl)) k1 bel lt1) (trodAll_cons_mk (Below.trod naiveDeadLaidOut (by kernel_rfl) (of_decide_eq_true (by kernel_rfl)) k2 bel lt2) trodAll_mk0))),rfl,bel.frame _,fun h=>by cases h⟩
theorem naiveDead_holds:Rows.NaiveDeadSaid :=
 OpenClaim.holds_of_wide 3 Tryz.f3 rfl rfl rfl rfl rfl rfl rfl ⟨rfl,rfl,rfl,rfl,rfl⟩ rfl rfl rfl rfl rfl (by kernel_rfl) Tryz.func3 (by kernel_rfl)
  (of_decide_eq_true (by kernel_rfl)) (by unfold Func.isWrapper;rw [if_neg (of_decide_eq_false (by kernel_rfl))];exact ⟨rfl,rfl⟩)
  (fun os started H enc _=>naiveDead_lifted os started H enc)
theorem naiveDead_card_holds:Rows.NaiveDeadCardSaid :=
 Claim7.holds_tied_plain_at .later [] [.data] true _ false
  naiveDead_holds (fun _ h=>by cases h) (by kernel_rfl) (fun _ h=>by cases h) naiveDead_row_tie rfl ⟨rfl,rfl⟩ (by kernel_rfl) rfl
  (fun f fn hf hfn=>by
   obtain rfl:f=3:=Option.some.inj ((show Tryz.prog.funcNamed "ostinato/ostinatolaw08.NaiveDead" = some 3 by kernel_rfl).symm.trans hf) |>.symm
   obtain rfl:fn=Tryz.f3:=(Option.some.inj (Tryz.func3.symm.trans hfn)).symm
   exact ⟨by kernel_rfl,fun j t ht=>by
    rw [Tryz.params3] at ht
    have hm:t∈[27,28,28]:=by simpa using Array.mem_of_getElem? ht
    have hall:([27,28,28].all fun u=>!Tryz.prog.wantsStandIn u)=true:=by kernel_rfl
    exact (show Tryz.prog.wantsStandIn t=false by simpa using List.all_eq_true.1 hall t hm)⟩)
  (by kernel_rfl)
#print axioms naiveDead_card_holds
end Go.Proofs.YtnmjicfpmkoldaaGreatDoor
