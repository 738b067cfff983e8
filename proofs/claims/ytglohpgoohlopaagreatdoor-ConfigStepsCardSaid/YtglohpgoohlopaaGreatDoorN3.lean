/- The document's Begin: a contract.
   Conditions: the automaton lies in memory, its classes are four words below 2^64. -/
import Derived.Test.YtglohpgoohlopaaGreatDoorN2
import Derived.Test.YtglohpgoohlopaaGreatDoorN1
import Derived.Test.YtglohpgoohlopaaGreatDoorPY
import Derived.Test.YtglohpgoohlopaaGreatDoorPG
import Derived.Test.YtglohpgoohlopaaGreatDoorPM
import Derived.Test.YtglohpgoohlopaaGreatDoorPJ
import Derived.WalkKit
import Derived.KernelRfl
import Derived.Test.YtglohpgoohlopaaGreatDoorPA
import Derived.Test.YtglohpgoohlopaaGreatDoorMBase
import Derived.Deep.AppendLies
import Derived.StillTailTactics

/- A right config's numbers are ints.
   No conditions. -/
namespace Go.Proofs.YtglohpgoohlopaaGreatDoor
open Go.RowKit
theorem cnts_63 {m:PM} (hw:MapW m) {l:List Nat} (hl:l∈m.ars) {x:Nat→Int} (hx:cntsB m l x=true) {t:Nat} (ht:t<1000000):Kc63 (kcOf (t:Nat) x):=by
 rw [cnts_iff] at hx
 have h:∀ i<4,I63 (x i):=fun i hi=>by
  have h1:=hx i hi
  unfold I63
  by_cases g:i<l.length
  ·obtain ⟨_,_,_,hok⟩:=sc_in hw hl g
   have:=top_pos hok
   rw [cnt_in g,Bool.and_eq_true,decide_eq_true_iff,decide_eq_true_iff] at h1
   omega
  ·rw [cnt_out g,decide_eq_true_iff] at h1
   omega
 exact ⟨by unfold I63 kcOf;show _≤(t:Int)∧(t:Int)≤_;omega,h 0 (by omega),h 1 (by omega),h 2 (by omega),h 3 (by omega)⟩
end Go.Proofs.YtglohpgoohlopaaGreatDoor

/- config.Step at what is no right config, equality of configs, what a store into a config leaves: contracts and plain facts.
   Conditions: those that each theorem states. -/
namespace Go.Proofs.YtglohpgoohlopaaGreatDoor
open Go.RowKit Go.Shelf
attribute [local go_sem] nodeAgg
theorem infoI64k:(Tryz.prog.info? 2).map (fun i=>(i.zero,i.size,i.bytes))=some (some (.int .i64 0),1,8):=by kernel_rfl
theorem cellsI64k:Tryz.prog.cellsOf 2=1:=by kernel_rfl
theorem run_eqk4 (w:World) (a0 a1 a2 a3 b0 b1 b2 b3:Int) :
  (Op.equalIn 9999 28 (.agg #[.int .i64 a0,.int .i64 a1,.int .i64 a2,.int .i64 a3]) (.agg #[.int .i64 b0,.int .i64 b1,.int .i64 b2,.int .i64 b3])).run Tryz.prog w=.ok (a0 == b0 && (a1 == b1 && (a2 == b2 && a3 == b3))) w:=by
 obtain ⟨i0,hi,_,_,_⟩:=info_parts infoI64k
 have q:∀ (w':World) (a b:Int),(Op.equalIn 9998 2 (.int .i64 a) (.int .i64 b)).run Tryz.prog w'=.ok (a == b) w':=fun w' a b=>run_equalIn_int w' 9997 2 .i64 .i64 a b Tryz.underlying2
 rw [run_equalIn_array w 9998 _ _ Tryz.underlying28 hi,cellsI64k,show List.range 4=[0,1,2,3] from rfl]
 simp only [Op.eqItems,Sem.run_bind]
 simp only [part,isAgg,run_underlying Tryz.underlying2,Sem.run_bind,Result.andThen_ok]
 simp
 simp only [q,Result.andThen_ok]
 cases (a0 == b0) <;> cases (a1 == b1) <;> cases (a2 == b2) <;> cases (a3 == b3) <;> rfl
theorem AuL.cfg {w w':World} {B cb:Nat} {m:PM} {a:Au} {fl:List Nat} {la:Nat} (h:AuL w B m a fl la) (hc:Chg (fun k=>k=cb) w w') (hcb:TyB w cb 30):AuL w' B m a fl la :=
 ⟨h.lists.keep hc fun x ty q _ hty=>by subst q;rw [hty.eq hcb];decide,h.wf,h.first.keep hc fun x q _ hty=>by subst q;have:=hty.eq hcb;revert this;decide,h.fin,own_chg h.last hc fun b hb q=>by
  subst q
  have:=(own_ty h.last hb).eq hcb
  revert this
  decide,h.sets,h.ars,h.one,h.most⟩
theorem rowsM_cfg {w w':World} {B n cb:Nat} {lv:Value} {vs:List Value} {L:Nat→List Mv} (h:RowsM w B n lv vs L) (hc:Chg (fun k=>k=cb) w w') (hcb:TyB w cb 30):RowsM w' B n lv vs L :=
 h.keep hc fun x ty q _ hty=>by subst q;rw [hty.eq hcb];exact ⟨by decide,by decide⟩
set_option maxHeartbeats 4000000 in
set_option maxRecDepth 100000 in
theorem step_not {B:Nat} {m:PM} {a:Au} {fl:List Nat} {la:Nat} (w:World) (hL:AuL w B m a fl la) (p:Int) (x:Nat→Int) (hr:rightB m p x=false) (b:Int) :
  Calls Tryz.prog 16 #[.agg #[.int .i64 a.k,.int .u64 (a.s0:Nat),.int .u64 (a.s1:Nat),.int .u64 (a.s2:Nat),.int .u64 (a.s3:Nat),.slice a.ta a.tn a.tc,.int .i64 a.lo,.int .i64 a.hi,.slice a.sA a.n a.sC,.slice a.cA a.cN a.cC,.slice (some ⟨a.ga,0,none⟩) a.n a.aC,.slice a.fA a.fN a.fC,.slice (some ⟨a.mb,0,none⟩) a.n a.n,.slice (some ⟨a.lb,0,none⟩) a.n a.n,.bool a.em],.agg #[.int .i64 p,.int .i64 (x 0),.int .i64 (x 1),.int .i64 (x 2),.int .i64 (x 3)],.int .u8 b] w fun e w'=>e=.returned (.slice none 0 0)∧Below w.heap.size w w':=by
 obtain ⟨w2,hw2,hb2,ha2,hc2⟩:=au_cf_box w a p x
 have HB:=Lib.hid hb2
 have HR:=Lib.hid (fun (W:World) (h:Below w2.heap.size w2 W)=>by
  have:=right_any W (hL.below (bhop hb2 h)) p x
  rw [hr] at this
  exact this)
 obtain ⟨z0,z1,z2,z3,z4,z5,z6,z7,z8,z9,z10,z11,z12,z13,z14⟩:=ha2.all
 obtain ⟨d0,d1,d2,d3,d4⟩:=hc2.five
 clear hb2 ha2 hc2 hL hr
 go_enter Tryz.func16,Tryz.ntmps16
 go_upto_region 1 with fail
 clear hw2
 go_wp2_with fail
 go_at_call 25
 refine (HR.out _ (Below.refl _ _)).mono ?_
 rintro e w3 ⟨rfl,hb3⟩
 have HB3:=Lib.hid hb3
 clear hb3 z0 z1 z2 z3 z4 z5 z6 z7 z8 z9 z10 z11 z12 z13 z14 d0 d1 d2 d3 d4
 go_wp2_with fail
 go_ret
 exact ⟨rfl,bhop HB.out HB3.out⟩
end Go.Proofs.YtglohpgoohlopaaGreatDoor

/- The document's Has: is a config in a list? A contract.
   Conditions: the list lies in memory. -/
namespace Go.Proofs.YtglohpgoohlopaaGreatDoor
open Go.RowKit Go.Maps Go.Shelf Go.Lib
attribute [local go_sem] Oper.semAt_some
def CfsR (w:World) (A:Option Addr) (l:List Kc):Prop:=∀ i k,l[i]? = some k→∃ g,A=some ⟨g,0,none⟩∧g<w.heap.size∧w.cell? ⟨g,i * 5,none⟩=some (.int .i64 k.p)∧w.cell? ⟨g,i * 5+1,none⟩=some (.int .i64 k.a)∧w.cell? ⟨g,i * 5+2,none⟩=some (.int .i64 k.b)∧w.cell? ⟨g,i * 5+3,none⟩=some (.int .i64 k.c)∧w.cell? ⟨g,i * 5+4,none⟩=some (.int .i64 k.d)
theorem CfsR.below {w w':World} {A:Option Addr} {l:List Kc} (h:CfsR w A l) (hb:Below w.heap.size w w'):CfsR w' A l:=fun i k hk=>by
 obtain ⟨g,h1,h2,h3,h4,h5,h6,h7⟩:=h i k hk
 exact ⟨g,h1,Nat.lt_of_lt_of_le h2 hb.size,(hb.cell (p:=⟨g,_,none⟩) h2).trans h3,(hb.cell (p:=⟨g,_,none⟩) h2).trans h4,(hb.cell (p:=⟨g,_,none⟩) h2).trans h5,(hb.cell (p:=⟨g,_,none⟩) h2).trans h6,(hb.cell (p:=⟨g,_,none⟩) h2).trans h7⟩
theorem kcc_len (l:List Kc):(l.flatMap kcc).length=l.length * 5:=by
 induction l with
 | nil=>rfl
 | cons q l ih=>rw [List.flatMap_cons,List.length_append,ih];simp only [kcc,List.length_cons,List.length_nil];omega
theorem kcc_flat:∀ {l:List Kc} {i:Nat} {k:Kc},l[i]? = some k→(l.flatMap kcc)[i * 5]? = some (.int .i64 k.p)∧(l.flatMap kcc)[i * 5+1]? = some (.int .i64 k.a)∧(l.flatMap kcc)[i * 5+2]? = some (.int .i64 k.b)∧(l.flatMap kcc)[i * 5+3]? = some (.int .i64 k.c)∧(l.flatMap kcc)[i * 5+4]? = some (.int .i64 k.d)
 | [],i,k,h=>by simp at h
 | x :: l,0,k,h=>by
  obtain rfl:=Option.some.inj h
  exact ⟨rfl,rfl,rfl,rfl,rfl⟩
 | x :: l,i+1,k,h=>by
  have:=kcc_flat (l:=l) (i:=i) h
  rw [List.flatMap_cons,show (i+1) * 5=i * 5+5 by omega]
  exact this
theorem own_cfs {w:World} {H c:Nat} {A:Option Addr} {l:List Kc} (h:w.ownsRow H 30 5 (.slice A l.length c) l.length (l.flatMap kcc)):CfsR w A l:=fun i k hk=>by
 have hil:=(List.getElem?_eq_some_iff.1 hk).1
 obtain ⟨g,cap,hv,_,hg⟩:=World.ownsRow.form h (by omega:0<l.length)
 simp only [Value.slice.injEq,true_and] at hv
 obtain ⟨rfl,rfl⟩:=hv
 obtain ⟨f0,f1,f2,f3,f4⟩:=kcc_flat hk
 exact ⟨g,rfl,(h.lt g rfl).2,(World.ownsRow.cellAt h (i * 5) (by omega)).trans f0,(World.ownsRow.cellAt h (i * 5+1) (by omega)).trans f1,(World.ownsRow.cellAt h (i * 5+2) (by omega)).trans f2,(World.ownsRow.cellAt h (i * 5+3) (by omega)).trans f3,(World.ownsRow.cellAt h (i * 5+4) (by omega)).trans f4⟩
def HcI (w:World) (l:List Kc) (k:Kc) (z:Value) (wr:World):Prop:=∃ i:Nat,z=.int .i64 i∧i≤l.length∧k ∉ l.take i∧Below w.heap.size w wr
def kcE (x y:Kc):Bool:=(x.p == y.p) && ((x.a == y.a) && ((x.b == y.b) && ((x.c == y.c) && (x.d == y.d))))
theorem kcE_iff {x y:Kc}:kcE x y=true↔x=y:=by
 obtain ⟨a,b,c,d,e⟩:=x
 obtain ⟨a',b',c',d',e'⟩:=y
 unfold kcE
 simp
theorem kcE_no {x y:Kc} (h:x≠y):kcE x y=false:=by
 rw [Bool.eq_false_iff]
 exact fun e=>h (kcE_iff.1 e)
def hasK (l:List Kc) (k:Kc):Bool:=l.any fun j=>kcE j k
theorem hasK_iff {l:List Kc} {k:Kc}:hasK l k=true↔k∈l:=by
 unfold hasK
 rw [List.any_eq_true]
 exact ⟨fun ⟨j,h1,h2⟩=>kcE_iff.1 h2▸h1,fun h=>⟨k,h,kcE_iff.2 rfl⟩⟩
theorem hasK_no {l:List Kc} {k:Kc} (h:k ∉ l):hasK l k=false:=by
 rw [Bool.eq_false_iff]
 exact fun e=>h (hasK_iff.1 e)
theorem run_eqKc (x y:Kc) (w:World):(Op.equalIn 10000 30 (.agg #[.int .i64 x.p,.int .i64 x.a,.int .i64 x.b,.int .i64 x.c,.int .i64 x.d]) (.agg #[.int .i64 y.p,.int .i64 y.a,.int .i64 y.b,.int .i64 y.c,.int .i64 y.d])).run Tryz.prog w=.ok (kcE x y) w:=by
 have u3:=Tryz.underlying3
 have a3:=Tryz.isAgg3
 have z3:=Tryz.sizeOf3
 have u5:=Tryz.underlying28
 have a5:=Tryz.isAgg28
 have z5:=Tryz.sizeOf28
 have hS:Tryz.prog.underlying 30=some (.struct (Tryz.prog.fieldsOf 30)):=by kernel_rfl
 have hp:Tryz.prog.stoodInHeld 30=false:=by kernel_rfl
 have q4:=run_eqk4 w x.a x.b x.c x.d y.a y.b y.c y.d
 rw [show (10000:Nat)=9999+1 from rfl,run_equalIn_agg w 9999 30 _ _ hS hp]
 simp only [Program.fieldsOf,Tryz.underlying30]
 go_simp
 unfold kcE
 by_cases h0:x.p=y.p <;> by_cases h1:x.a=y.a <;> by_cases h2:x.b=y.b <;> by_cases h3:x.c=y.c <;> by_cases h4:x.d=y.d <;> simp [h0,h1,h2,h3,h4]
set_option maxHeartbeats 8000000 in
set_option maxRecDepth 100000 in
theorem hasC_any (w:World) (A:Option Addr) (c:Nat) (l:List Kc) (h:CfsR w A l) (hl:l.length<1000000000000) (k:Kc) :
  Calls Tryz.prog 24 #[.slice A l.length c,.agg #[.int .i64 k.p,.int .i64 k.a,.int .i64 k.b,.int .i64 k.c,.int .i64 k.d]] w fun e w'=>e=.returned (.bool (hasK l k))∧Below w.heap.size w w':=by
 obtain ⟨w2,hw2⟩ : ∃ w2,w.alloc (.cells #[.int .i64 k.p,.int .i64 k.a,.int .i64 k.b,.int .i64 k.c,.int .i64 k.d] 30)=w2:=⟨_,rfl⟩
 have hb2:Below w.heap.size w w2:=hw2▸(Below.refl _ w).alloc (Nat.le_refl _) _
 have hc2:CfB w2 w.heap.size k.p k.x:=by rw [← hw2];exact heap_alloc_new w _
 have HC:=Lib.hid (fun (W:World) (hb:Below w2.heap.size w2 W)=>show W.cell? ⟨w.heap.size,0,none⟩=some (.int .i64 k.p)∧W.cell? ⟨w.heap.size,1,none⟩=some (.int .i64 k.a)∧W.cell? ⟨w.heap.size,2,none⟩=some (.int .i64 k.b)∧W.cell? ⟨w.heap.size,3,none⟩=some (.int .i64 k.c)∧W.cell? ⟨w.heap.size,4,none⟩=some (.int .i64 k.d) from CfB.five (hc2.below hb))
 obtain ⟨ln,hln⟩ : ∃ ln,ln=l.length:=⟨_,rfl⟩
 have HB:=Lib.hid (And.intro hb2 (And.intro (h.below hb2) (And.intro hl hln)))
 rw [← hln]
 clear hb2 hc2 h hln
 go_enter Tryz.func24,Tryz.ntmps24
 go_upto_region 1 with fail
 clear hw2
 go_wp2_with fail
 go_loopw [5] (fun z wr=>HcI w2 l k z wr) (fun z _=>match z with | .int _ z=>l.length - z.toNat | _=>0)
 case atStart=>exact ⟨0,rfl,Nat.zero_le _,by simp,Below.refl _ _⟩
 case round =>
  obtain ⟨i,rfl,hif,hnm,hb⟩:=hrel
  have HN:=Lib.hid (And.intro hif (And.intro hnm hb))
  have s1:(0:Int)≤(i:Int):=by omega
  have s3:((i:Int)).toNat=i:=by omega
  have hib:i<1000000000000:=by have h1:=HB.out.2.2.1;omega
  have wk:IntKind.i64.wrap ((i:Int)+1)=(i:Int)+1:=by rw [IntKind.wrap_i64];omega
  clear hif hnm
  by_cases g:i<ln
  ·have s2:(i:Int)<(ln:Int):=by omega
   obtain ⟨j,hj⟩ : ∃ j,l[i]? = some j:=⟨_,List.getElem?_eq_getElem (by have:=HB.out.2.2.2;omega)⟩
   obtain ⟨gg,rfl,hgl,y0,y1,y2,y3,y4⟩:=(HB.out.2.1.below hb) i j hj
   obtain ⟨x0,x1,x2,x3,x4⟩:=HC.out _ hb
   have HJ:=Lib.hid (And.intro hj (show i+1≤l.length by have:=HB.out.2.2.2;omega))
   have he:=run_eqKc j k
   clear hj hb
   by_cases hjk:j=k
   ·simp only [kcE_iff.2 hjk] at he
    have HM:=Lib.hid (show hasK l k=true from hasK_iff.2 (hjk▸List.mem_of_getElem? HJ.out.1))
    clear hjk
    go_wp2_with fail
    go_quiet (fail)
    go_wp2_with fail
    go_ret
    exact ⟨ret_bool HM.out.symm,below_drewN (bhop HB.out.1 HN.out.2.2) _⟩
   ·simp only [kcE_no hjk] at he
    have HM:=Lib.hid (show k ∉ l.take (i+1) from fun hm=>by
     rw [List.take_add_one,HJ.out.1] at hm
     rcases List.mem_append.1 hm with hm | hm
     ·exact HN.out.2.1 hm
     ·exact hjk (show k=j by simpa using hm).symm)
    clear hjk
    go_wp2_with fail
    go_quiet (fail)
    go_wp2_with fail
    go_roundw
    case rel=>exact ⟨i+1,by push_cast;rfl,HJ.out.2,HM.out,below_drewN HN.out.2.2 _⟩
    case measure=>have:=HJ.out.2;simp;omega
  ·have s2:¬ (i:Int)<(ln:Int):=by omega
   have HM:=Lib.hid (show hasK l k=false from hasK_no (by have h1:=HN.out.2.1;rwa [List.take_of_length_le (by have:=HB.out.2.2.2;omega)] at h1))
   go_wp2_with fail
   go_ret
   exact ⟨ret_bool HM.out.symm,bhop HB.out.1 HN.out.2.2⟩
end Go.Proofs.YtglohpgoohlopaaGreatDoor

/- Lists of configs that rise: plain facts.
   Conditions: those that each theorem states. -/
namespace Go.Proofs.YtglohpgoohlopaaGreatDoor
open Go.RowKit
def kcB (c:Cf):Kc:=kcOf (c.p:Nat) c.x
theorem cfc_kcc (l:List Cf):l.flatMap cfc=(l.map kcB).flatMap kcc:=by
 rw [List.flatMap_map]
 rfl
theorem bg_rise {m:PM} {b:Nat} {fl:List Nat} (h:fl.Pairwise (· < ·)):((bgL m b fl).map kcB).Pairwise kcLt:=by
 unfold bgL
 rw [List.map_map,List.pairwise_map]
 refine (List.Pairwise.filter _ h).imp fun {p q} hpq=>.inl ?_
 show ((p:Nat):Int)<((q:Nat):Int)
 omega
theorem rise_next:∀ {l:List Kc},l.Pairwise kcLt→∀ {i:Nat} {x y:Kc},l[i]? = some x→l[i+1]? = some y→kcLt x y
 | [],_,i,x,y,hx,_=>by simp at hx
 | a :: l,h,0,x,y,hx,hy=>by
  obtain rfl:=Option.some.inj hx
  exact (List.pairwise_cons.1 h).1 y (List.mem_of_getElem? hy)
 | a :: l,h,i+1,x,y,hx,hy=>rise_next (List.pairwise_cons.1 h).2 hx hy
theorem ent_right {m:PM} (hw:MapW m) {q:Nat} {l:List Nat} (h1:1≤q) (hl:m.ars[q]? = some l):rightB m (q:Int) (entX l (fun _=>0) 0)=true:=by
 have hm:=List.mem_of_getElem? hl
 rw [right_at h1 hl]
 refine cnts_iff.2 fun i hi=>?_
 have e1:entX l (fun _=>0) 0 i=if i<l.length then 1 else 0:=by
  unfold entX
  by_cases g:i<l.length
  ·rw [if_pos ⟨Nat.zero_le _,g⟩,if_pos g]
  ·rw [if_neg (fun h=>g h.2),if_neg g]
 rw [e1]
 by_cases g:i<l.length
 ·obtain ⟨_,_,_,hok⟩:=sc_in hw hm g
  have:=top_pos hok
  rw [if_pos g,cnt_in g,decide_eq_true (by omega),decide_eq_true this.1]
  rfl
 ·rw [if_neg g,cnt_out g]
  rfl
theorem bg_right {m:PM} (hw:MapW m) {fl:List Nat} (hfl:∀ q∈fl,1≤q∧q<m.ars.length) {b:Nat}:∀ c∈bgL m b fl,rightB m (c.p:Int) c.x=true:=fun c hc=>by
 obtain ⟨q,hq,rfl⟩:=List.mem_map.1 hc
 obtain ⟨h1,h2⟩:=hfl q (List.mem_filter.1 hq).1
 have hl:=List.getElem?_eq_getElem (l:=m.ars) (i:=q) h2
 show rightB m (q:Int) (entX (m.ars.getD q []) (fun _=>0) 0)=true
 rw [show m.ars.getD q []=m.ars[q] by rw [List.getD_eq_getElem?_getD,hl];rfl]
 exact ent_right hw h1 hl
theorem same_len {l m:List Kc} (hl:l.Nodup) (hm:m.Nodup) (h:∀ k,k∈l↔k∈m):l.length=m.length:=by
 have h1:=hl.length_le_of_subset (fun k hk=>(h k).1 hk)
 have h2:=hm.length_le_of_subset (fun k hk=>(h k).2 hk)
 omega
end Go.Proofs.YtglohpgoohlopaaGreatDoor

/- A drawn region of the document's Sorted.
   Conditions: what it loads lies in memory; what it calls. -/
namespace Go.Proofs.YtglohpgoohlopaaGreatDoor
open Go.RowKit
abbrev opsregSra:Array Oper:=#[{ dst:=some 17,op:=Op.move (Operand.tmp 1),type:=45,pos := "ref.go:129",after:=#[],guard:=none },
 { dst:=some 18,op:=Op.move (Operand.tmp 0),type:=45,pos := "ref.go:129",after:=#[],guard:=none },
 { dst:=some 19,op:=Op.move (Operand.tmp 5),type:=3,pos := "ref.go:129",after:=#[],guard:=none },
 { dst:=some 20,op:=Op.indexAddr 45 (Operand.tmp 18) (Operand.tmp 19),type:=0,pos := "ref.go:129",after:=#[{ on:=1,ground:=Ground.data },{ on:=2,ground:=Ground.data }],guard:=none },
 { dst:=some 21,op:=Op.load 30 (Operand.tmp 20),type:=30,pos := "ref.go:129",after:=#[{ on:=3,ground:=Ground.data }],guard:=none },
 { dst:=some 22,op:=Op.call { callee:=Callee.value (Operand.func 24),args:=#[Operand.tmp 17,Operand.tmp 21],argTypes:=#[45,30] },type:=4,pos := "ref.go:129",after:=#[{ on:=0,ground:=Ground.data },{ on:=4,ground:=Ground.data }],guard:=none },
 { dst:=some 23,op:=Op.unOp UnOp.not 4 (Operand.tmp 22),type:=4,pos := "ref.go:129",after:=#[{ on:=5,ground:=Ground.data }],guard:=none },
 { dst:=some 24,op:=Op.move (Operand.tmp 23),type:=4,pos := "ref.go:129",after:=#[{ on:=6,ground:=Ground.data },{ on:=5,ground:=Ground.chain }],guard:=none },
 { dst:=some 25,op:=Op.move (Operand.tmp 5),type:=3,pos := "ref.go:129",after:=#[{ on:=7,ground:=Ground.guard }],guard:=some (7,false) },
 { dst:=some 26,op:=Op.binOp BinOp.gtr 3 (Operand.tmp 25) (Operand.const (Value.int IntKind.i64 0)) 3,type:=4,pos := "ref.go:129",after:=#[{ on:=8,ground:=Ground.data },{ on:=7,ground:=Ground.guard }],guard:=some (7,false) },
 { dst:=some 27,op:=Op.move (Operand.tmp 26),type:=4,pos := "ref.go:129",after:=#[{ on:=9,ground:=Ground.data },{ on:=7,ground:=Ground.chain },{ on:=7,ground:=Ground.guard }],guard:=some (7,false) },
 { dst:=some 28,op:=Op.move (Operand.tmp 0),type:=45,pos := "ref.go:129",after:=#[{ on:=10,ground:=Ground.guard }],guard:=some (10,true) },
 { dst:=some 29,op:=Op.move (Operand.tmp 5),type:=3,pos := "ref.go:129",after:=#[{ on:=10,ground:=Ground.guard }],guard:=some (10,true) },
 { dst:=some 30,op:=Op.binOp BinOp.sub 3 (Operand.tmp 29) (Operand.const (Value.int IntKind.i64 1)) 3,type:=3,pos := "ref.go:129",after:=#[{ on:=12,ground:=Ground.data },{ on:=10,ground:=Ground.guard }],guard:=some (10,true) },
 { dst:=some 31,op:=Op.indexAddr 45 (Operand.tmp 28) (Operand.tmp 30),type:=0,pos := "ref.go:129",after:=#[{ on:=11,ground:=Ground.data },{ on:=13,ground:=Ground.data },{ on:=10,ground:=Ground.guard }],guard:=some (10,true) },
 { dst:=some 32,op:=Op.load 30 (Operand.tmp 31),type:=30,pos := "ref.go:129",after:=#[{ on:=14,ground:=Ground.data },{ on:=10,ground:=Ground.guard }],guard:=some (10,true) },
 { dst:=some 33,op:=Op.move (Operand.tmp 0),type:=45,pos := "ref.go:129",after:=#[{ on:=10,ground:=Ground.guard }],guard:=some (10,true) },
 { dst:=some 34,op:=Op.move (Operand.tmp 5),type:=3,pos := "ref.go:129",after:=#[{ on:=10,ground:=Ground.guard }],guard:=some (10,true) },
 { dst:=some 35,op:=Op.indexAddr 45 (Operand.tmp 33) (Operand.tmp 34),type:=0,pos := "ref.go:129",after:=#[{ on:=16,ground:=Ground.data },{ on:=17,ground:=Ground.data },{ on:=10,ground:=Ground.guard }],guard:=some (10,true) },
 { dst:=some 36,op:=Op.load 30 (Operand.tmp 35),type:=30,pos := "ref.go:129",after:=#[{ on:=18,ground:=Ground.data },{ on:=10,ground:=Ground.guard }],guard:=some (10,true) },
 { dst:=some 37,op:=Op.call { callee:=Callee.value (Operand.func 31),args:=#[Operand.tmp 32,Operand.tmp 36],argTypes:=#[30,30] },type:=3,pos := "ref.go:129",after:=#[{ on:=15,ground:=Ground.data },{ on:=19,ground:=Ground.data },{ on:=10,ground:=Ground.chain },{ on:=10,ground:=Ground.guard }],guard:=some (10,true) },
 { dst:=some 38,op:=Op.binOp BinOp.geq 3 (Operand.tmp 37) (Operand.const (Value.int IntKind.i64 0)) 3,type:=4,pos := "ref.go:129",after:=#[{ on:=20,ground:=Ground.data },{ on:=10,ground:=Ground.guard }],guard:=some (10,true) },
 { dst:=some 39,op:=Op.pick (Operand.tmp 27) (Operand.tmp 38) (Operand.const (Value.bool false)),type:=4,pos := "ref.go:129",after:=#[{ on:=10,ground:=Ground.data },{ on:=21,ground:=Ground.data },{ on:=7,ground:=Ground.guard }],guard:=some (7,false) },
 { dst:=some 40,op:=Op.pick (Operand.tmp 24) (Operand.const (Value.bool true)) (Operand.tmp 39),type:=4,pos := "ref.go:129",after:=#[{ on:=7,ground:=Ground.data },{ on:=22,ground:=Ground.data }],guard:=none }]
def WregSra (i ln c1 c2 g:Nat) (dA:Option Addr) (x0 x1 x2 x3 x4:Int) (D:List Deferred) (v2 v3 v4 v6 v7 v8 v9 v10 v11 v12 v13 v14 v15 v16:Value) (w0:World) (l:Nat→Bool) (a:Act) (w:World):Prop :=
 ∃ (y0 y1 y2 y3 y4 y5 y6 y7 y8 y9 y10 y11 y12 y13 y14 y15 y16 y17 y18 y19 y20 y21 y22 y23:Value),a = { tmps:=#[.slice (some ⟨g,0,none⟩) ln c1,.slice dA ln c2,v2,v3,v4,.int .i64 (i:Int),v6,v7,v8,v9,v10,v11,v12,v13,v14,v15,v16,y0,y1,y2,y3,y4,y5,y6,y7,y8,y9,y10,y11,y12,y13,y14,y15,y16,y17,y18,y19,y20,y21,y22,y23],defers:=D }∧Below w0.heap.size w0 w ∧
  (l 0=true→y0=.slice dA ln c2)∧(l 1=true→y1=.slice (some ⟨g,0,none⟩) ln c1)∧(l 2=true→y2=.int .i64 (i:Int))∧(l 3=true→y3=.pointer (some ⟨g,i * 5,none⟩))∧(l 4=true→y4=.agg #[.int .i64 x0,.int .i64 x1,.int .i64 x2,.int .i64 x3,.int .i64 x4])∧(l 5=true→y5=.bool true)∧(l 6=true→y6=.bool false)∧(l 7=true→y7=.bool false)∧(l 8=true→y8=.int .i64 (i:Int))∧(l 9=true→y9=.bool false)∧(l 10=true→y10=.bool false)∧(l 22=true→y22=.bool false)∧(l 23=true→y23=.bool false)
set_option maxHeartbeats 8000000 in
set_option maxRecDepth 100000 in
theorem regSra (i ln c1 c2 g:Nat) (dA:Option Addr) (x0 x1 x2 x3 x4:Int) (D:List Deferred) (v2 v3 v4 v6 v7 v8 v9 v10 v11 v12 v13 v14 v15 v16 wy0 wy1 wy2 wy3 wy4 wy5 wy6 wy7 wy8 wy9 wy10 wy11 wy12 wy13 wy14 wy15 wy16 wy17 wy18 wy19 wy20 wy21 wy22 wy23:Value) (w:World) (s1:(0:Int)≤(i:Int)) (s2:(i:Int)<(ln:Int)) (s3:((i:Int)).toNat=i) (hx:(∀ w',Below w.heap.size w w'→w'.cell? ⟨g,i * 5,none⟩=some (.int .i64 x0)∧w'.cell? ⟨g,i * 5+1,none⟩=some (.int .i64 x1)∧w'.cell? ⟨g,i * 5+2,none⟩=some (.int .i64 x2)∧w'.cell? ⟨g,i * 5+3,none⟩=some (.int .i64 x3)∧w'.cell? ⟨g,i * 5+4,none⟩=some (.int .i64 x4))) (hc1:∀ w',Below w.heap.size w w'→Calls Tryz.prog 24 #[.slice dA ln c2,.agg #[.int .i64 x0,.int .i64 x1,.int .i64 x2,.int .i64 x3,.int .i64 x4]] w' fun e w2=>e=.returned (.bool true)∧Below w'.heap.size w' w2) (g3:¬ (0:Int)<(i:Int)) (Q:Exit→Act→World→Prop)
  (hQ:∀ (y0 y1 y2 y3 y4 y5 y6 y7 y8 y9 y10 y11 y12 y13 y14 y15 y16 y17 y18 y19 y20 y21 y22:Value) (w':World),Below w.heap.size w w'→Q .normal { tmps:=#[.slice (some ⟨g,0,none⟩) ln c1,.slice dA ln c2,v2,v3,v4,.int .i64 (i:Int),v6,v7,v8,v9,v10,v11,v12,v13,v14,v15,v16,y0,y1,y2,y3,y4,y5,y6,y7,y8,y9,y10,y11,y12,y13,y14,y15,y16,y17,y18,y19,y20,y21,y22,.bool false],defers:=D } w') :
  (Code.region 6 opsregSra true).wp Tryz.prog Q { tmps:=#[.slice (some ⟨g,0,none⟩) ln c1,.slice dA ln c2,v2,v3,v4,.int .i64 (i:Int),v6,v7,v8,v9,v10,v11,v12,v13,v14,v15,v16,wy0,wy1,wy2,wy3,wy4,wy5,wy6,wy7,wy8,wy9,wy10,wy11,wy12,wy13,wy14,wy15,wy16,wy17,wy18,wy19,wy20,wy21,wy22,wy23],defers:=D } w:=by
 refine wp_region_inv (by kernel_rfl) (WregSra i ln c1 c2 g dA x0 x1 x2 x3 x4 D v2 v3 v4 v6 v7 v8 v9 v10 v11 v12 v13 v14 v15 v16 w) ?hacy ?h0 ?hstep ?hdone
 case hacy=>kernel_rfl
 case h0=>exact ⟨wy0,wy1,wy2,wy3,wy4,wy5,wy6,wy7,wy8,wy9,wy10,wy11,wy12,wy13,wy14,wy15,wy16,wy17,wy18,wy19,wy20,wy21,wy22,wy23,rfl,below_drewN (Below.refl _ _) 1,(fun p=>by cases p),(fun p=>by cases p),(fun p=>by cases p),(fun p=>by cases p),(fun p=>by cases p),(fun p=>by cases p),(fun p=>by cases p),(fun p=>by cases p),(fun p=>by cases p),(fun p=>by cases p),(fun p=>by cases p),(fun p=>by cases p),(fun p=>by cases p)⟩
 case hdone =>
  intro l a w1 hI hall
  obtain ⟨y0,y1,y2,y3,y4,y5,y6,y7,y8,y9,y10,y11,y12,y13,y14,y15,y16,y17,y18,y19,y20,y21,y22,y23,rfl,hb,h0,h1,h2,h3,h4,h5,h6,h7,h8,h9,h10,h22,h23⟩:=hI
  obtain rfl:=h23 (hall 23 (by decide))
  exact hQ _ _ _ _ _ _ _ _ _ _ _ _ _ _ _ _ _ _ _ _ _ _ _ _ hb
 case hstep =>
  intro l a w1 i o hI ho hl hall
  obtain ⟨y0,y1,y2,y3,y4,y5,y6,y7,y8,y9,y10,y11,y12,y13,y14,y15,y16,y17,y18,y19,y20,y21,y22,y23,rfl,hb,h0,h1,h2,h3,h4,h5,h6,h7,h8,h9,h10,h22,h23⟩:=hI
  have hi:i<24:=(Array.getElem?_eq_some_iff.1 ho).1
  match i,hi with
  | 0,_ =>
   have ho':=ho
   simp [opsregSra] at ho
   subst ho
   refine wpOp_one ho' rfl fun K hK=>?_
   go_simp
   exact hK _ _ ⟨_,y1,y2,y3,y4,y5,y6,y7,y8,y9,y10,y11,y12,y13,y14,y15,y16,y17,y18,y19,y20,y21,y22,y23,rfl,hb,fun _=>(by first | rfl | simp),h1,h2,h3,h4,h5,h6,h7,h8,h9,h10,h22,h23⟩
  | 1,_ =>
   have ho':=ho
   simp [opsregSra] at ho
   subst ho
   refine wpOp_one ho' rfl fun K hK=>?_
   go_simp
   exact hK _ _ ⟨y0,_,y2,y3,y4,y5,y6,y7,y8,y9,y10,y11,y12,y13,y14,y15,y16,y17,y18,y19,y20,y21,y22,y23,rfl,hb,h0,fun _=>(by first | rfl | simp),h2,h3,h4,h5,h6,h7,h8,h9,h10,h22,h23⟩
  | 2,_ =>
   have ho':=ho
   simp [opsregSra] at ho
   subst ho
   refine wpOp_one ho' rfl fun K hK=>?_
   go_simp
   exact hK _ _ ⟨y0,y1,_,y3,y4,y5,y6,y7,y8,y9,y10,y11,y12,y13,y14,y15,y16,y17,y18,y19,y20,y21,y22,y23,rfl,hb,h0,h1,fun _=>(by first | rfl | simp),h3,h4,h5,h6,h7,h8,h9,h10,h22,h23⟩
  | 3,_ =>
   have ho':=ho
   simp [opsregSra] at ho
   subst ho
   obtain rfl:=h1 (hall ⟨1,.data⟩ (by simp) rfl)
   obtain rfl:=h2 (hall ⟨2,.data⟩ (by simp) rfl)
   refine wpOp_one ho' rfl fun K hK=>?_
   go_simp
   exact hK _ _ ⟨y0,_,_,_,y4,y5,y6,y7,y8,y9,y10,y11,y12,y13,y14,y15,y16,y17,y18,y19,y20,y21,y22,y23,rfl,hb,h0,fun _=>rfl,fun _=>rfl,fun _=>(by first | rfl | simp),h4,h5,h6,h7,h8,h9,h10,h22,h23⟩
  | 4,_ =>
   have ho':=ho
   simp [opsregSra] at ho
   subst ho
   obtain rfl:=h3 (hall ⟨3,.data⟩ (by simp) rfl)
   refine wpOp_one ho' rfl fun K hK=>?_
   obtain ⟨q0,q1,q2,q3,q4⟩:=hx w1 hb
   go_simp
   exact hK _ _ ⟨y0,y1,y2,_,_,y5,y6,y7,y8,y9,y10,y11,y12,y13,y14,y15,y16,y17,y18,y19,y20,y21,y22,y23,rfl,hb,h0,h1,h2,fun _=>rfl,fun _=>(by first | rfl | simp),h5,h6,h7,h8,h9,h10,h22,h23⟩
  | 5,_ =>
   have ho':=ho
   simp [opsregSra] at ho
   subst ho
   obtain rfl:=h0 (hall ⟨0,.data⟩ (by simp) rfl)
   obtain rfl:=h4 (hall ⟨4,.data⟩ (by simp) rfl)
   refine wpOp_one ho' rfl fun K hK=>?_
   go_simp
   go_at_call 24
   refine (hc1 _ hb).mono ?_
   rintro e w2 ⟨rfl,hb2⟩
   exact hK _ _ ⟨_,y1,y2,y3,_,_,y6,y7,y8,y9,y10,y11,y12,y13,y14,y15,y16,y17,y18,y19,y20,y21,y22,y23,rfl,(hb.trans (hb2.mono hb.size)),fun _=>rfl,h1,h2,h3,fun _=>rfl,fun _=>(by first | rfl | simp),h6,h7,h8,h9,h10,h22,h23⟩
  | 6,_ =>
   have ho':=ho
   simp [opsregSra] at ho
   subst ho
   obtain rfl:=h5 (hall ⟨5,.data⟩ (by simp) rfl)
   refine wpOp_one ho' rfl fun K hK=>?_
   go_simp
   exact hK _ _ ⟨y0,y1,y2,y3,y4,_,_,y7,y8,y9,y10,y11,y12,y13,y14,y15,y16,y17,y18,y19,y20,y21,y22,y23,rfl,hb,h0,h1,h2,h3,h4,fun _=>rfl,fun _=>(by first | rfl | simp),h7,h8,h9,h10,h22,h23⟩
  | 7,_ =>
   have ho':=ho
   simp [opsregSra] at ho
   subst ho
   obtain rfl:=h6 (hall ⟨6,.data⟩ (by simp) rfl)
   refine wpOp_one ho' rfl fun K hK=>?_
   go_simp
   exact hK _ _ ⟨y0,y1,y2,y3,y4,y5,_,_,y8,y9,y10,y11,y12,y13,y14,y15,y16,y17,y18,y19,y20,y21,y22,y23,rfl,hb,h0,h1,h2,h3,h4,h5,fun _=>rfl,fun _=>(by first | rfl | simp),h8,h9,h10,h22,h23⟩
  | 8,_ =>
   have ho':=ho
   simp [opsregSra] at ho
   subst ho
   obtain rfl:=h7 (hall ⟨7,.guard⟩ (by simp) rfl)
   refine wpOp_on ho' rfl fun K hK=>?_
   go_simp
   exact hK _ _ ⟨y0,y1,y2,y3,y4,y5,y6,_,_,y9,y10,y11,y12,y13,y14,y15,y16,y17,y18,y19,y20,y21,y22,y23,rfl,hb,h0,h1,h2,h3,h4,h5,h6,fun _=>rfl,fun _=>(by first | rfl | simp),h9,h10,h22,h23⟩
  | 9,_ =>
   have ho':=ho
   simp [opsregSra] at ho
   subst ho
   obtain rfl:=h7 (hall ⟨7,.guard⟩ (by simp) rfl)
   obtain rfl:=h8 (hall ⟨8,.data⟩ (by simp) rfl)
   refine wpOp_on ho' rfl fun K hK=>?_
   go_simp
   exact hK _ _ ⟨y0,y1,y2,y3,y4,y5,y6,_,_,_,y10,y11,y12,y13,y14,y15,y16,y17,y18,y19,y20,y21,y22,y23,rfl,hb,h0,h1,h2,h3,h4,h5,h6,fun _=>rfl,fun _=>rfl,fun _=>(by first | rfl | (simp;omega)),h10,h22,h23⟩
  | 10,_ =>
   have ho':=ho
   simp [opsregSra] at ho
   subst ho
   obtain rfl:=h7 (hall ⟨7,.chain⟩ (by simp) rfl)
   obtain rfl:=h9 (hall ⟨9,.data⟩ (by simp) rfl)
   refine wpOp_on ho' rfl fun K hK=>?_
   go_simp
   exact hK _ _ ⟨y0,y1,y2,y3,y4,y5,y6,_,y8,_,_,y11,y12,y13,y14,y15,y16,y17,y18,y19,y20,y21,y22,y23,rfl,hb,h0,h1,h2,h3,h4,h5,h6,fun _=>rfl,h8,fun _=>rfl,fun _=>(by first | rfl | simp),h22,h23⟩
  | 11,_ =>
   have ho':=ho
   simp [opsregSra] at ho
   subst ho
   obtain rfl:=h10 (hall ⟨10,.guard⟩ (by simp) rfl)
   refine wpOq_off ho' rfl ?_
   exact ⟨y0,y1,y2,y3,y4,y5,y6,y7,y8,y9,_,_,y12,y13,y14,y15,y16,y17,y18,y19,y20,y21,y22,y23,rfl,hb,h0,h1,h2,h3,h4,h5,h6,h7,h8,h9,fun _=>rfl,h22,h23⟩
  | 12,_ =>
   have ho':=ho
   simp [opsregSra] at ho
   subst ho
   obtain rfl:=h10 (hall ⟨10,.guard⟩ (by simp) rfl)
   refine wpOq_off ho' rfl ?_
   exact ⟨y0,y1,y2,y3,y4,y5,y6,y7,y8,y9,_,y11,_,y13,y14,y15,y16,y17,y18,y19,y20,y21,y22,y23,rfl,hb,h0,h1,h2,h3,h4,h5,h6,h7,h8,h9,fun _=>rfl,h22,h23⟩
  | 13,_ =>
   have ho':=ho
   simp [opsregSra] at ho
   subst ho
   obtain rfl:=h10 (hall ⟨10,.guard⟩ (by simp) rfl)
   refine wpOq_off ho' rfl ?_
   exact ⟨y0,y1,y2,y3,y4,y5,y6,y7,y8,y9,_,y11,y12,_,y14,y15,y16,y17,y18,y19,y20,y21,y22,y23,rfl,hb,h0,h1,h2,h3,h4,h5,h6,h7,h8,h9,fun _=>rfl,h22,h23⟩
  | 14,_ =>
   have ho':=ho
   simp [opsregSra] at ho
   subst ho
   obtain rfl:=h10 (hall ⟨10,.guard⟩ (by simp) rfl)
   refine wpOq_off ho' rfl ?_
   exact ⟨y0,y1,y2,y3,y4,y5,y6,y7,y8,y9,_,y11,y12,y13,_,y15,y16,y17,y18,y19,y20,y21,y22,y23,rfl,hb,h0,h1,h2,h3,h4,h5,h6,h7,h8,h9,fun _=>rfl,h22,h23⟩
  | 15,_ =>
   have ho':=ho
   simp [opsregSra] at ho
   subst ho
   obtain rfl:=h10 (hall ⟨10,.guard⟩ (by simp) rfl)
   refine wpOq_off ho' rfl ?_
   exact ⟨y0,y1,y2,y3,y4,y5,y6,y7,y8,y9,_,y11,y12,y13,y14,_,y16,y17,y18,y19,y20,y21,y22,y23,rfl,hb,h0,h1,h2,h3,h4,h5,h6,h7,h8,h9,fun _=>rfl,h22,h23⟩
  | 16,_ =>
   have ho':=ho
   simp [opsregSra] at ho
   subst ho
   obtain rfl:=h10 (hall ⟨10,.guard⟩ (by simp) rfl)
   refine wpOq_off ho' rfl ?_
   exact ⟨y0,y1,y2,y3,y4,y5,y6,y7,y8,y9,_,y11,y12,y13,y14,y15,_,y17,y18,y19,y20,y21,y22,y23,rfl,hb,h0,h1,h2,h3,h4,h5,h6,h7,h8,h9,fun _=>rfl,h22,h23⟩
  | 17,_ =>
   have ho':=ho
   simp [opsregSra] at ho
   subst ho
   obtain rfl:=h10 (hall ⟨10,.guard⟩ (by simp) rfl)
   refine wpOq_off ho' rfl ?_
   exact ⟨y0,y1,y2,y3,y4,y5,y6,y7,y8,y9,_,y11,y12,y13,y14,y15,y16,_,y18,y19,y20,y21,y22,y23,rfl,hb,h0,h1,h2,h3,h4,h5,h6,h7,h8,h9,fun _=>rfl,h22,h23⟩
  | 18,_ =>
   have ho':=ho
   simp [opsregSra] at ho
   subst ho
   obtain rfl:=h10 (hall ⟨10,.guard⟩ (by simp) rfl)
   refine wpOq_off ho' rfl ?_
   exact ⟨y0,y1,y2,y3,y4,y5,y6,y7,y8,y9,_,y11,y12,y13,y14,y15,y16,y17,_,y19,y20,y21,y22,y23,rfl,hb,h0,h1,h2,h3,h4,h5,h6,h7,h8,h9,fun _=>rfl,h22,h23⟩
  | 19,_ =>
   have ho':=ho
   simp [opsregSra] at ho
   subst ho
   obtain rfl:=h10 (hall ⟨10,.guard⟩ (by simp) rfl)
   refine wpOq_off ho' rfl ?_
   exact ⟨y0,y1,y2,y3,y4,y5,y6,y7,y8,y9,_,y11,y12,y13,y14,y15,y16,y17,y18,_,y20,y21,y22,y23,rfl,hb,h0,h1,h2,h3,h4,h5,h6,h7,h8,h9,fun _=>rfl,h22,h23⟩
  | 20,_ =>
   have ho':=ho
   simp [opsregSra] at ho
   subst ho
   obtain rfl:=h10 (hall ⟨10,.chain⟩ (by simp) rfl)
   refine wpOq_off ho' rfl ?_
   exact ⟨y0,y1,y2,y3,y4,y5,y6,y7,y8,y9,_,y11,y12,y13,y14,y15,y16,y17,y18,y19,_,y21,y22,y23,rfl,hb,h0,h1,h2,h3,h4,h5,h6,h7,h8,h9,fun _=>rfl,h22,h23⟩
  | 21,_ =>
   have ho':=ho
   simp [opsregSra] at ho
   subst ho
   obtain rfl:=h10 (hall ⟨10,.guard⟩ (by simp) rfl)
   refine wpOq_off ho' rfl ?_
   exact ⟨y0,y1,y2,y3,y4,y5,y6,y7,y8,y9,_,y11,y12,y13,y14,y15,y16,y17,y18,y19,y20,_,y22,y23,rfl,hb,h0,h1,h2,h3,h4,h5,h6,h7,h8,h9,fun _=>rfl,h22,h23⟩
  | 22,_ =>
   have ho':=ho
   simp [opsregSra] at ho
   subst ho
   obtain rfl:=h7 (hall ⟨7,.guard⟩ (by simp) rfl)
   obtain rfl:=h10 (hall ⟨10,.data⟩ (by simp) rfl)
   refine wpOp_on ho' rfl fun K hK=>?_
   go_simp
   exact hK _ _ ⟨y0,y1,y2,y3,y4,y5,y6,_,y8,y9,_,y11,y12,y13,y14,y15,y16,y17,y18,y19,y20,y21,_,y23,rfl,hb,h0,h1,h2,h3,h4,h5,h6,fun _=>rfl,h8,h9,fun _=>rfl,fun _=>(by first | rfl | simp),h23⟩
  | 23,_ =>
   have ho':=ho
   simp [opsregSra] at ho
   subst ho
   obtain rfl:=h7 (hall ⟨7,.data⟩ (by simp) rfl)
   obtain rfl:=h22 (hall ⟨22,.data⟩ (by simp) rfl)
   refine wpOp_one ho' rfl fun K hK=>?_
   go_simp
   exact hK _ _ ⟨y0,y1,y2,y3,y4,y5,y6,_,y8,y9,y10,y11,y12,y13,y14,y15,y16,y17,y18,y19,y20,y21,_,_,rfl,hb,h0,h1,h2,h3,h4,h5,h6,fun _=>rfl,h8,h9,h10,fun _=>rfl,fun _=>(by first | rfl | simp)⟩
  | k+24,hi=>omega
def WregSrb (i k ln c1 c2 g:Nat) (dA:Option Addr) (x0 x1 x2 x3 x4 u0 u1 u2 u3 u4 r:Int) (D:List Deferred) (v2 v3 v4 v6 v7 v8 v9 v10 v11 v12 v13 v14 v15 v16:Value) (w0:World) (l:Nat→Bool) (a:Act) (w:World):Prop :=
 ∃ (y0 y1 y2 y3 y4 y5 y6 y7 y8 y9 y10 y11 y12 y13 y14 y15 y16 y17 y18 y19 y20 y21 y22 y23:Value),a = { tmps:=#[.slice (some ⟨g,0,none⟩) ln c1,.slice dA ln c2,v2,v3,v4,.int .i64 (i:Int),v6,v7,v8,v9,v10,v11,v12,v13,v14,v15,v16,y0,y1,y2,y3,y4,y5,y6,y7,y8,y9,y10,y11,y12,y13,y14,y15,y16,y17,y18,y19,y20,y21,y22,y23],defers:=D }∧Below w0.heap.size w0 w ∧
  (l 0=true→y0=.slice dA ln c2)∧(l 1=true→y1=.slice (some ⟨g,0,none⟩) ln c1)∧(l 2=true→y2=.int .i64 (i:Int))∧(l 3=true→y3=.pointer (some ⟨g,i * 5,none⟩))∧(l 4=true→y4=.agg #[.int .i64 x0,.int .i64 x1,.int .i64 x2,.int .i64 x3,.int .i64 x4])∧(l 5=true→y5=.bool true)∧(l 6=true→y6=.bool false)∧(l 7=true→y7=.bool false)∧(l 8=true→y8=.int .i64 (i:Int))∧(l 9=true→y9=.bool true)∧(l 10=true→y10=.bool true)∧(l 11=true→y11=.slice (some ⟨g,0,none⟩) ln c1)∧(l 12=true→y12=.int .i64 (i:Int))∧(l 13=true→y13=.int .i64 (k:Int))∧(l 14=true→y14=.pointer (some ⟨g,k * 5,none⟩))∧(l 15=true→y15=.agg #[.int .i64 u0,.int .i64 u1,.int .i64 u2,.int .i64 u3,.int .i64 u4])∧(l 16=true→y16=.slice (some ⟨g,0,none⟩) ln c1)∧(l 17=true→y17=.int .i64 (i:Int))∧(l 18=true→y18=.pointer (some ⟨g,i * 5,none⟩))∧(l 19=true→y19=.agg #[.int .i64 x0,.int .i64 x1,.int .i64 x2,.int .i64 x3,.int .i64 x4])∧(l 20=true→y20=.int .i64 r)∧(l 21=true→y21=.bool false)∧(l 22=true→y22=.bool false)∧(l 23=true→y23=.bool false)
set_option maxHeartbeats 8000000 in
set_option maxRecDepth 100000 in
theorem regSrb (i k ln c1 c2 g:Nat) (dA:Option Addr) (x0 x1 x2 x3 x4 u0 u1 u2 u3 u4 r:Int) (D:List Deferred) (v2 v3 v4 v6 v7 v8 v9 v10 v11 v12 v13 v14 v15 v16 wy0 wy1 wy2 wy3 wy4 wy5 wy6 wy7 wy8 wy9 wy10 wy11 wy12 wy13 wy14 wy15 wy16 wy17 wy18 wy19 wy20 wy21 wy22 wy23:Value) (w:World) (s1:(0:Int)≤(i:Int)) (s2:(i:Int)<(ln:Int)) (s3:((i:Int)).toNat=i) (hx:(∀ w',Below w.heap.size w w'→w'.cell? ⟨g,i * 5,none⟩=some (.int .i64 x0)∧w'.cell? ⟨g,i * 5+1,none⟩=some (.int .i64 x1)∧w'.cell? ⟨g,i * 5+2,none⟩=some (.int .i64 x2)∧w'.cell? ⟨g,i * 5+3,none⟩=some (.int .i64 x3)∧w'.cell? ⟨g,i * 5+4,none⟩=some (.int .i64 x4))) (hc1:∀ w',Below w.heap.size w w'→Calls Tryz.prog 24 #[.slice dA ln c2,.agg #[.int .i64 x0,.int .i64 x1,.int .i64 x2,.int .i64 x3,.int .i64 x4]] w' fun e w2=>e=.returned (.bool true)∧Below w'.heap.size w' w2) (g3:(0:Int)<(i:Int)) (hy:(∀ w',Below w.heap.size w w'→w'.cell? ⟨g,k * 5,none⟩=some (.int .i64 u0)∧w'.cell? ⟨g,k * 5+1,none⟩=some (.int .i64 u1)∧w'.cell? ⟨g,k * 5+2,none⟩=some (.int .i64 u2)∧w'.cell? ⟨g,k * 5+3,none⟩=some (.int .i64 u3)∧w'.cell? ⟨g,k * 5+4,none⟩=some (.int .i64 u4))) (hc2:∀ w',Below w.heap.size w w'→Calls Tryz.prog 31 #[.agg #[.int .i64 u0,.int .i64 u1,.int .i64 u2,.int .i64 u3,.int .i64 u4],.agg #[.int .i64 x0,.int .i64 x1,.int .i64 x2,.int .i64 x3,.int .i64 x4]] w' fun e w2=>e=.returned (.int .i64 r)∧Below w'.heap.size w' w2) (hr:¬ (0:Int)≤r) (wm:IntKind.i64.wrap ((i:Int) - 1)=(k:Int)) (k1:(0:Int)≤(k:Int)) (k2:(k:Int)<(ln:Int)) (k3:((k:Int)).toNat=k) (Q:Exit→Act→World→Prop)
  (hQ:∀ (y0 y1 y2 y3 y4 y5 y6 y7 y8 y9 y10 y11 y12 y13 y14 y15 y16 y17 y18 y19 y20 y21 y22:Value) (w':World),Below w.heap.size w w'→Q .normal { tmps:=#[.slice (some ⟨g,0,none⟩) ln c1,.slice dA ln c2,v2,v3,v4,.int .i64 (i:Int),v6,v7,v8,v9,v10,v11,v12,v13,v14,v15,v16,y0,y1,y2,y3,y4,y5,y6,y7,y8,y9,y10,y11,y12,y13,y14,y15,y16,y17,y18,y19,y20,y21,y22,.bool false],defers:=D } w') :
  (Code.region 6 opsregSra true).wp Tryz.prog Q { tmps:=#[.slice (some ⟨g,0,none⟩) ln c1,.slice dA ln c2,v2,v3,v4,.int .i64 (i:Int),v6,v7,v8,v9,v10,v11,v12,v13,v14,v15,v16,wy0,wy1,wy2,wy3,wy4,wy5,wy6,wy7,wy8,wy9,wy10,wy11,wy12,wy13,wy14,wy15,wy16,wy17,wy18,wy19,wy20,wy21,wy22,wy23],defers:=D } w:=by
 refine wp_region_inv (by kernel_rfl) (WregSrb i k ln c1 c2 g dA x0 x1 x2 x3 x4 u0 u1 u2 u3 u4 r D v2 v3 v4 v6 v7 v8 v9 v10 v11 v12 v13 v14 v15 v16 w) ?hacy ?h0 ?hstep ?hdone
 case hacy=>kernel_rfl
 case h0=>exact ⟨wy0,wy1,wy2,wy3,wy4,wy5,wy6,wy7,wy8,wy9,wy10,wy11,wy12,wy13,wy14,wy15,wy16,wy17,wy18,wy19,wy20,wy21,wy22,wy23,rfl,below_drewN (Below.refl _ _) 1,(fun p=>by cases p),(fun p=>by cases p),(fun p=>by cases p),(fun p=>by cases p),(fun p=>by cases p),(fun p=>by cases p),(fun p=>by cases p),(fun p=>by cases p),(fun p=>by cases p),(fun p=>by cases p),(fun p=>by cases p),(fun p=>by cases p),(fun p=>by cases p),(fun p=>by cases p),(fun p=>by cases p),(fun p=>by cases p),(fun p=>by cases p),(fun p=>by cases p),(fun p=>by cases p),(fun p=>by cases p),(fun p=>by cases p),(fun p=>by cases p),(fun p=>by cases p),(fun p=>by cases p)⟩
 case hdone =>
  intro l a w1 hI hall
  obtain ⟨y0,y1,y2,y3,y4,y5,y6,y7,y8,y9,y10,y11,y12,y13,y14,y15,y16,y17,y18,y19,y20,y21,y22,y23,rfl,hb,h0,h1,h2,h3,h4,h5,h6,h7,h8,h9,h10,h11,h12,h13,h14,h15,h16,h17,h18,h19,h20,h21,h22,h23⟩:=hI
  obtain rfl:=h23 (hall 23 (by decide))
  exact hQ _ _ _ _ _ _ _ _ _ _ _ _ _ _ _ _ _ _ _ _ _ _ _ _ hb
 case hstep =>
  intro l a w1 i o hI ho hl hall
  obtain ⟨y0,y1,y2,y3,y4,y5,y6,y7,y8,y9,y10,y11,y12,y13,y14,y15,y16,y17,y18,y19,y20,y21,y22,y23,rfl,hb,h0,h1,h2,h3,h4,h5,h6,h7,h8,h9,h10,h11,h12,h13,h14,h15,h16,h17,h18,h19,h20,h21,h22,h23⟩:=hI
  have hi:i<24:=(Array.getElem?_eq_some_iff.1 ho).1
  match i,hi with
  | 0,_ =>
   have ho':=ho
   simp [opsregSra] at ho
   subst ho
   refine wpOp_one ho' rfl fun K hK=>?_
   go_simp
   exact hK _ _ ⟨_,y1,y2,y3,y4,y5,y6,y7,y8,y9,y10,y11,y12,y13,y14,y15,y16,y17,y18,y19,y20,y21,y22,y23,rfl,hb,fun _=>(by first | rfl | simp),h1,h2,h3,h4,h5,h6,h7,h8,h9,h10,h11,h12,h13,h14,h15,h16,h17,h18,h19,h20,h21,h22,h23⟩
  | 1,_ =>
   have ho':=ho
   simp [opsregSra] at ho
   subst ho
   refine wpOp_one ho' rfl fun K hK=>?_
   go_simp
   exact hK _ _ ⟨y0,_,y2,y3,y4,y5,y6,y7,y8,y9,y10,y11,y12,y13,y14,y15,y16,y17,y18,y19,y20,y21,y22,y23,rfl,hb,h0,fun _=>(by first | rfl | simp),h2,h3,h4,h5,h6,h7,h8,h9,h10,h11,h12,h13,h14,h15,h16,h17,h18,h19,h20,h21,h22,h23⟩
  | 2,_ =>
   have ho':=ho
   simp [opsregSra] at ho
   subst ho
   refine wpOp_one ho' rfl fun K hK=>?_
   go_simp
   exact hK _ _ ⟨y0,y1,_,y3,y4,y5,y6,y7,y8,y9,y10,y11,y12,y13,y14,y15,y16,y17,y18,y19,y20,y21,y22,y23,rfl,hb,h0,h1,fun _=>(by first | rfl | simp),h3,h4,h5,h6,h7,h8,h9,h10,h11,h12,h13,h14,h15,h16,h17,h18,h19,h20,h21,h22,h23⟩
  | 3,_ =>
   have ho':=ho
   simp [opsregSra] at ho
   subst ho
   obtain rfl:=h1 (hall ⟨1,.data⟩ (by simp) rfl)
   obtain rfl:=h2 (hall ⟨2,.data⟩ (by simp) rfl)
   refine wpOp_one ho' rfl fun K hK=>?_
   go_simp
   exact hK _ _ ⟨y0,_,_,_,y4,y5,y6,y7,y8,y9,y10,y11,y12,y13,y14,y15,y16,y17,y18,y19,y20,y21,y22,y23,rfl,hb,h0,fun _=>rfl,fun _=>rfl,fun _=>(by first | rfl | simp),h4,h5,h6,h7,h8,h9,h10,h11,h12,h13,h14,h15,h16,h17,h18,h19,h20,h21,h22,h23⟩
  | 4,_ =>
   have ho':=ho
   simp [opsregSra] at ho
   subst ho
   obtain rfl:=h3 (hall ⟨3,.data⟩ (by simp) rfl)
   refine wpOp_one ho' rfl fun K hK=>?_
   obtain ⟨q0,q1,q2,q3,q4⟩:=hx w1 hb
   go_simp
   exact hK _ _ ⟨y0,y1,y2,_,_,y5,y6,y7,y8,y9,y10,y11,y12,y13,y14,y15,y16,y17,y18,y19,y20,y21,y22,y23,rfl,hb,h0,h1,h2,fun _=>rfl,fun _=>(by first | rfl | simp),h5,h6,h7,h8,h9,h10,h11,h12,h13,h14,h15,h16,h17,h18,h19,h20,h21,h22,h23⟩
  | 5,_ =>
   have ho':=ho
   simp [opsregSra] at ho
   subst ho
   obtain rfl:=h0 (hall ⟨0,.data⟩ (by simp) rfl)
   obtain rfl:=h4 (hall ⟨4,.data⟩ (by simp) rfl)
   refine wpOp_one ho' rfl fun K hK=>?_
   go_simp
   go_at_call 24
   refine (hc1 _ hb).mono ?_
   rintro e w2 ⟨rfl,hb2⟩
   exact hK _ _ ⟨_,y1,y2,y3,_,_,y6,y7,y8,y9,y10,y11,y12,y13,y14,y15,y16,y17,y18,y19,y20,y21,y22,y23,rfl,(hb.trans (hb2.mono hb.size)),fun _=>rfl,h1,h2,h3,fun _=>rfl,fun _=>(by first | rfl | simp),h6,h7,h8,h9,h10,h11,h12,h13,h14,h15,h16,h17,h18,h19,h20,h21,h22,h23⟩
  | 6,_ =>
   have ho':=ho
   simp [opsregSra] at ho
   subst ho
   obtain rfl:=h5 (hall ⟨5,.data⟩ (by simp) rfl)
   refine wpOp_one ho' rfl fun K hK=>?_
   go_simp
   exact hK _ _ ⟨y0,y1,y2,y3,y4,_,_,y7,y8,y9,y10,y11,y12,y13,y14,y15,y16,y17,y18,y19,y20,y21,y22,y23,rfl,hb,h0,h1,h2,h3,h4,fun _=>rfl,fun _=>(by first | rfl | simp),h7,h8,h9,h10,h11,h12,h13,h14,h15,h16,h17,h18,h19,h20,h21,h22,h23⟩
  | 7,_ =>
   have ho':=ho
   simp [opsregSra] at ho
   subst ho
   obtain rfl:=h6 (hall ⟨6,.data⟩ (by simp) rfl)
   refine wpOp_one ho' rfl fun K hK=>?_
   go_simp
   exact hK _ _ ⟨y0,y1,y2,y3,y4,y5,_,_,y8,y9,y10,y11,y12,y13,y14,y15,y16,y17,y18,y19,y20,y21,y22,y23,rfl,hb,h0,h1,h2,h3,h4,h5,fun _=>rfl,fun _=>(by first | rfl | simp),h8,h9,h10,h11,h12,h13,h14,h15,h16,h17,h18,h19,h20,h21,h22,h23⟩
  | 8,_ =>
   have ho':=ho
   simp [opsregSra] at ho
   subst ho
   obtain rfl:=h7 (hall ⟨7,.guard⟩ (by simp) rfl)
   refine wpOp_on ho' rfl fun K hK=>?_
   go_simp
   exact hK _ _ ⟨y0,y1,y2,y3,y4,y5,y6,_,_,y9,y10,y11,y12,y13,y14,y15,y16,y17,y18,y19,y20,y21,y22,y23,rfl,hb,h0,h1,h2,h3,h4,h5,h6,fun _=>rfl,fun _=>(by first | rfl | simp),h9,h10,h11,h12,h13,h14,h15,h16,h17,h18,h19,h20,h21,h22,h23⟩
  | 9,_ =>
   have ho':=ho
   simp [opsregSra] at ho
   subst ho
   obtain rfl:=h7 (hall ⟨7,.guard⟩ (by simp) rfl)
   obtain rfl:=h8 (hall ⟨8,.data⟩ (by simp) rfl)
   refine wpOp_on ho' rfl fun K hK=>?_
   go_simp
   exact hK _ _ ⟨y0,y1,y2,y3,y4,y5,y6,_,_,_,y10,y11,y12,y13,y14,y15,y16,y17,y18,y19,y20,y21,y22,y23,rfl,hb,h0,h1,h2,h3,h4,h5,h6,fun _=>rfl,fun _=>rfl,fun _=>(by first | rfl | (simp;omega)),h10,h11,h12,h13,h14,h15,h16,h17,h18,h19,h20,h21,h22,h23⟩
  | 10,_ =>
   have ho':=ho
   simp [opsregSra] at ho
   subst ho
   obtain rfl:=h7 (hall ⟨7,.chain⟩ (by simp) rfl)
   obtain rfl:=h9 (hall ⟨9,.data⟩ (by simp) rfl)
   refine wpOp_on ho' rfl fun K hK=>?_
   go_simp
   exact hK _ _ ⟨y0,y1,y2,y3,y4,y5,y6,_,y8,_,_,y11,y12,y13,y14,y15,y16,y17,y18,y19,y20,y21,y22,y23,rfl,hb,h0,h1,h2,h3,h4,h5,h6,fun _=>rfl,h8,fun _=>rfl,fun _=>(by first | rfl | simp),h11,h12,h13,h14,h15,h16,h17,h18,h19,h20,h21,h22,h23⟩
  | 11,_ =>
   have ho':=ho
   simp [opsregSra] at ho
   subst ho
   obtain rfl:=h10 (hall ⟨10,.guard⟩ (by simp) rfl)
   refine wpOp_on ho' rfl fun K hK=>?_
   go_simp
   exact hK _ _ ⟨y0,y1,y2,y3,y4,y5,y6,y7,y8,y9,_,_,y12,y13,y14,y15,y16,y17,y18,y19,y20,y21,y22,y23,rfl,hb,h0,h1,h2,h3,h4,h5,h6,h7,h8,h9,fun _=>rfl,fun _=>(by first | rfl | simp),h12,h13,h14,h15,h16,h17,h18,h19,h20,h21,h22,h23⟩
  | 12,_ =>
   have ho':=ho
   simp [opsregSra] at ho
   subst ho
   obtain rfl:=h10 (hall ⟨10,.guard⟩ (by simp) rfl)
   refine wpOp_on ho' rfl fun K hK=>?_
   go_simp
   exact hK _ _ ⟨y0,y1,y2,y3,y4,y5,y6,y7,y8,y9,_,y11,_,y13,y14,y15,y16,y17,y18,y19,y20,y21,y22,y23,rfl,hb,h0,h1,h2,h3,h4,h5,h6,h7,h8,h9,fun _=>rfl,h11,fun _=>(by first | rfl | simp),h13,h14,h15,h16,h17,h18,h19,h20,h21,h22,h23⟩
  | 13,_ =>
   have ho':=ho
   simp [opsregSra] at ho
   subst ho
   obtain rfl:=h10 (hall ⟨10,.guard⟩ (by simp) rfl)
   obtain rfl:=h12 (hall ⟨12,.data⟩ (by simp) rfl)
   refine wpOp_on ho' rfl fun K hK=>?_
   go_simp
   exact hK _ _ ⟨y0,y1,y2,y3,y4,y5,y6,y7,y8,y9,_,y11,_,_,y14,y15,y16,y17,y18,y19,y20,y21,y22,y23,rfl,hb,h0,h1,h2,h3,h4,h5,h6,h7,h8,h9,fun _=>rfl,h11,fun _=>rfl,fun _=>(by first | rfl | simp),h14,h15,h16,h17,h18,h19,h20,h21,h22,h23⟩
  | 14,_ =>
   have ho':=ho
   simp [opsregSra] at ho
   subst ho
   obtain rfl:=h10 (hall ⟨10,.guard⟩ (by simp) rfl)
   obtain rfl:=h11 (hall ⟨11,.data⟩ (by simp) rfl)
   obtain rfl:=h13 (hall ⟨13,.data⟩ (by simp) rfl)
   refine wpOp_on ho' rfl fun K hK=>?_
   go_simp
   exact hK _ _ ⟨y0,y1,y2,y3,y4,y5,y6,y7,y8,y9,_,_,y12,_,_,y15,y16,y17,y18,y19,y20,y21,y22,y23,rfl,hb,h0,h1,h2,h3,h4,h5,h6,h7,h8,h9,fun _=>rfl,fun _=>rfl,h12,fun _=>rfl,fun _=>(by first | rfl | simp),h15,h16,h17,h18,h19,h20,h21,h22,h23⟩
  | 15,_ =>
   have ho':=ho
   simp [opsregSra] at ho
   subst ho
   obtain rfl:=h10 (hall ⟨10,.guard⟩ (by simp) rfl)
   obtain rfl:=h14 (hall ⟨14,.data⟩ (by simp) rfl)
   refine wpOp_on ho' rfl fun K hK=>?_
   obtain ⟨q0,q1,q2,q3,q4⟩:=hy w1 hb
   go_simp
   exact hK _ _ ⟨y0,y1,y2,y3,y4,y5,y6,y7,y8,y9,_,y11,y12,y13,_,_,y16,y17,y18,y19,y20,y21,y22,y23,rfl,hb,h0,h1,h2,h3,h4,h5,h6,h7,h8,h9,fun _=>rfl,h11,h12,h13,fun _=>rfl,fun _=>(by first | rfl | simp),h16,h17,h18,h19,h20,h21,h22,h23⟩
  | 16,_ =>
   have ho':=ho
   simp [opsregSra] at ho
   subst ho
   obtain rfl:=h10 (hall ⟨10,.guard⟩ (by simp) rfl)
   refine wpOp_on ho' rfl fun K hK=>?_
   go_simp
   exact hK _ _ ⟨y0,y1,y2,y3,y4,y5,y6,y7,y8,y9,_,y11,y12,y13,y14,y15,_,y17,y18,y19,y20,y21,y22,y23,rfl,hb,h0,h1,h2,h3,h4,h5,h6,h7,h8,h9,fun _=>rfl,h11,h12,h13,h14,h15,fun _=>(by first | rfl | simp),h17,h18,h19,h20,h21,h22,h23⟩
  | 17,_ =>
   have ho':=ho
   simp [opsregSra] at ho
   subst ho
   obtain rfl:=h10 (hall ⟨10,.guard⟩ (by simp) rfl)
   refine wpOp_on ho' rfl fun K hK=>?_
   go_simp
   exact hK _ _ ⟨y0,y1,y2,y3,y4,y5,y6,y7,y8,y9,_,y11,y12,y13,y14,y15,y16,_,y18,y19,y20,y21,y22,y23,rfl,hb,h0,h1,h2,h3,h4,h5,h6,h7,h8,h9,fun _=>rfl,h11,h12,h13,h14,h15,h16,fun _=>(by first | rfl | simp),h18,h19,h20,h21,h22,h23⟩
  | 18,_ =>
   have ho':=ho
   simp [opsregSra] at ho
   subst ho
   obtain rfl:=h10 (hall ⟨10,.guard⟩ (by simp) rfl)
   obtain rfl:=h16 (hall ⟨16,.data⟩ (by simp) rfl)
   obtain rfl:=h17 (hall ⟨17,.data⟩ (by simp) rfl)
   refine wpOp_on ho' rfl fun K hK=>?_
   go_simp
   exact hK _ _ ⟨y0,y1,y2,y3,y4,y5,y6,y7,y8,y9,_,y11,y12,y13,y14,y15,_,_,_,y19,y20,y21,y22,y23,rfl,hb,h0,h1,h2,h3,h4,h5,h6,h7,h8,h9,fun _=>rfl,h11,h12,h13,h14,h15,fun _=>rfl,fun _=>rfl,fun _=>(by first | rfl | simp),h19,h20,h21,h22,h23⟩
  | 19,_ =>
   have ho':=ho
   simp [opsregSra] at ho
   subst ho
   obtain rfl:=h10 (hall ⟨10,.guard⟩ (by simp) rfl)
   obtain rfl:=h18 (hall ⟨18,.data⟩ (by simp) rfl)
   refine wpOp_on ho' rfl fun K hK=>?_
   obtain ⟨q0,q1,q2,q3,q4⟩:=hx w1 hb
   go_simp
   exact hK _ _ ⟨y0,y1,y2,y3,y4,y5,y6,y7,y8,y9,_,y11,y12,y13,y14,y15,y16,y17,_,_,y20,y21,y22,y23,rfl,hb,h0,h1,h2,h3,h4,h5,h6,h7,h8,h9,fun _=>rfl,h11,h12,h13,h14,h15,h16,h17,fun _=>rfl,fun _=>(by first | rfl | simp),h20,h21,h22,h23⟩
  | 20,_ =>
   have ho':=ho
   simp [opsregSra] at ho
   subst ho
   obtain rfl:=h10 (hall ⟨10,.chain⟩ (by simp) rfl)
   obtain rfl:=h15 (hall ⟨15,.data⟩ (by simp) rfl)
   obtain rfl:=h19 (hall ⟨19,.data⟩ (by simp) rfl)
   refine wpOp_on ho' rfl fun K hK=>?_
   go_simp
   go_at_call 31
   refine (hc2 _ hb).mono ?_
   rintro e w2 ⟨rfl,hb2⟩
   exact hK _ _ ⟨y0,y1,y2,y3,y4,y5,y6,y7,y8,y9,_,y11,y12,y13,y14,_,y16,y17,y18,_,_,y21,y22,y23,rfl,(hb.trans (hb2.mono hb.size)),h0,h1,h2,h3,h4,h5,h6,h7,h8,h9,fun _=>rfl,h11,h12,h13,h14,fun _=>rfl,h16,h17,h18,fun _=>rfl,fun _=>(by first | rfl | simp),h21,h22,h23⟩
  | 21,_ =>
   have ho':=ho
   simp [opsregSra] at ho
   subst ho
   obtain rfl:=h10 (hall ⟨10,.guard⟩ (by simp) rfl)
   obtain rfl:=h20 (hall ⟨20,.data⟩ (by simp) rfl)
   refine wpOp_on ho' rfl fun K hK=>?_
   go_simp
   exact hK _ _ ⟨y0,y1,y2,y3,y4,y5,y6,y7,y8,y9,_,y11,y12,y13,y14,y15,y16,y17,y18,y19,_,_,y22,y23,rfl,hb,h0,h1,h2,h3,h4,h5,h6,h7,h8,h9,fun _=>rfl,h11,h12,h13,h14,h15,h16,h17,h18,h19,fun _=>rfl,fun _=>(by first | rfl | (simp;omega)),h22,h23⟩
  | 22,_ =>
   have ho':=ho
   simp [opsregSra] at ho
   subst ho
   obtain rfl:=h7 (hall ⟨7,.guard⟩ (by simp) rfl)
   obtain rfl:=h10 (hall ⟨10,.data⟩ (by simp) rfl)
   obtain rfl:=h21 (hall ⟨21,.data⟩ (by simp) rfl)
   refine wpOp_on ho' rfl fun K hK=>?_
   go_simp
   exact hK _ _ ⟨y0,y1,y2,y3,y4,y5,y6,_,y8,y9,_,y11,y12,y13,y14,y15,y16,y17,y18,y19,y20,_,_,y23,rfl,hb,h0,h1,h2,h3,h4,h5,h6,fun _=>rfl,h8,h9,fun _=>rfl,h11,h12,h13,h14,h15,h16,h17,h18,h19,h20,fun _=>rfl,fun _=>(by first | rfl | simp),h23⟩
  | 23,_ =>
   have ho':=ho
   simp [opsregSra] at ho
   subst ho
   obtain rfl:=h7 (hall ⟨7,.data⟩ (by simp) rfl)
   obtain rfl:=h22 (hall ⟨22,.data⟩ (by simp) rfl)
   refine wpOp_one ho' rfl fun K hK=>?_
   go_simp
   exact hK _ _ ⟨y0,y1,y2,y3,y4,y5,y6,_,y8,y9,y10,y11,y12,y13,y14,y15,y16,y17,y18,y19,y20,y21,_,_,rfl,hb,h0,h1,h2,h3,h4,h5,h6,fun _=>rfl,h8,h9,h10,h11,h12,h13,h14,h15,h16,h17,h18,h19,h20,h21,fun _=>rfl,fun _=>(by first | rfl | simp)⟩
  | k+24,hi=>omega
end Go.Proofs.YtglohpgoohlopaaGreatDoor

/- The document's Sorted, where a list rises and has just what another one has: a contract.
   Conditions: both lists lie in memory. -/
namespace Go.Proofs.YtglohpgoohlopaaGreatDoor
open Go.RowKit
def SdI (w:World) (l:List Kc) (z:Value) (wr:World):Prop:=∃ i:Nat,z=.int .i64 i∧i≤l.length∧Below w.heap.size w wr
set_option maxHeartbeats 8000000 in
set_option maxRecDepth 100000 in
theorem sortedR_true (w:World) (A D:Option Addr) (c1 c2:Nat) (l want:List Kc) (hl:CfsR w A l) (hw:CfsR w D want) (hlen:l.length=want.length) (hbig:l.length<1000000000000) (hmem:∀ x∈l,x∈want) (hs:l.Pairwise kcLt) :
  Calls Tryz.prog 13 #[.slice A l.length c1,.slice D want.length c2] w fun e w'=>e=.returned (.bool true)∧Below w.heap.size w w':=by
 have HW:=Lib.hid (fun (W:World) (hb:Below w.heap.size w W) (k:Kc)=>hasC_any W D c2 want (hw.below hb) (by omega) k)
 obtain ⟨ln,hln⟩ : ∃ ln,ln=l.length:=⟨_,rfl⟩
 have HR:=Lib.hid (And.intro hl (And.intro hln (And.intro hmem (And.intro hs hbig))))
 rw [← hln] at hlen ⊢
 rw [← hlen] at HW ⊢
 clear hl hw hln hmem hs hlen hbig
 have g0:((ln:Int) != (ln:Int))=false:=by simp
 go_enter Tryz.func13,Tryz.ntmps13
 go_wp2_with fail
 go_loopw [5] (fun z wr=>SdI w l z wr) (fun z _=>match z with | .int _ z=>l.length - z.toNat | _=>0)
 case atStart=>exact ⟨0,rfl,Nat.zero_le _,Below.refl _ _⟩
 case round =>
  obtain ⟨i,rfl,hif,hb⟩:=hrel
  have HN:=Lib.hid (And.intro hif hb)
  have s1:(0:Int)≤(i:Int):=by omega
  have s3:((i:Int)).toNat=i:=by omega
  have hib:i<1000000000000:=by have h1:=HR.out.2.2.2.2;omega
  have wk:IntKind.i64.wrap ((i:Int)+1)=(i:Int)+1:=by rw [IntKind.wrap_i64];omega
  clear hif
  by_cases g:i<ln
  ·have s2:(i:Int)<(ln:Int):=by omega
   have gi:i<l.length:=by have:=HR.out.2.1;omega
   obtain ⟨j,hj⟩ : ∃ j,l[i]? = some j:=⟨_,List.getElem?_eq_getElem gi⟩
   obtain ⟨gg,rfl,_⟩:=HR.out.1 i j hj
   have HX:=Lib.hid (fun (W:World) (h:Below wr.heap.size wr W)=>show W.cell? ⟨gg,i * 5,none⟩=some (.int .i64 j.p)∧W.cell? ⟨gg,i * 5+1,none⟩=some (.int .i64 j.a)∧W.cell? ⟨gg,i * 5+2,none⟩=some (.int .i64 j.b)∧W.cell? ⟨gg,i * 5+3,none⟩=some (.int .i64 j.c)∧W.cell? ⟨gg,i * 5+4,none⟩=some (.int .i64 j.d) from by
    obtain ⟨g2,h1,_,h3⟩:=(HR.out.1.below (bhop hb h)) i j hj
    obtain rfl:gg=g2:=by simpa using h1
    exact h3)
   have HC:=Lib.hid (fun (W:World) (h:Below wr.heap.size wr W)=>(HW.out W (bhop hb h) j).mono fun e w' ⟨he,hb'⟩=>show e=Ending.returned (Value.bool true)∧Below W.heap.size W w' from ⟨by rw [he,hasK_iff.2 (HR.out.2.2.1 j (List.mem_of_getElem? hj))],hb'⟩)
   have HJ:=Lib.hid (And.intro hj gi)
   clear hj
   by_cases g3:0<i
   ·have g3':(0:Int)<(i:Int):=by omega
    obtain ⟨k,hk⟩ : ∃ k,i=k+1:=⟨i - 1,by omega⟩
    obtain ⟨y,hy⟩ : ∃ y,l[k]? = some y:=⟨_,List.getElem?_eq_getElem (by omega)⟩
    have hlt:kcLt y j:=rise_next HR.out.2.2.2.1 hy (by rw [← hk];exact HJ.out.1)
    obtain ⟨r,hr⟩ : ∃ r,r=lexI [y.p,y.a,y.b,y.c,y.d] [j.p,j.a,j.b,j.c,j.d]:=⟨_,rfl⟩
    have hr0:¬ (0:Int)≤r:=by
     have h1:=(cfC_lt y j).2 hlt
     rw [hr]
     show ¬ (0:Int)≤cfC y j
     omega
    have HY:=Lib.hid (fun (W:World) (h:Below wr.heap.size wr W)=>show W.cell? ⟨gg,k * 5,none⟩=some (.int .i64 y.p)∧W.cell? ⟨gg,k * 5+1,none⟩=some (.int .i64 y.a)∧W.cell? ⟨gg,k * 5+2,none⟩=some (.int .i64 y.b)∧W.cell? ⟨gg,k * 5+3,none⟩=some (.int .i64 y.c)∧W.cell? ⟨gg,k * 5+4,none⟩=some (.int .i64 y.d) from by
     obtain ⟨g2,h1,_,h3⟩:=(HR.out.1.below (bhop hb h)) k y hy
     obtain rfl:gg=g2:=by simpa using h1
     exact h3)
    have HO:=Lib.hid (fun (W:World)=>by
     have:=refOrder_any y.p y.a y.b y.c y.d j.p j.a j.b j.c j.d W
     rw [← hr] at this
     exact this)
    have wm:IntKind.i64.wrap ((i:Int) - 1)=(k:Int):=by rw [IntKind.wrap_i64];omega
    have k1:(0:Int)≤(k:Int):=by omega
    have k2:(k:Int)<(ln:Int):=by omega
    have k3:((k:Int)).toNat=k:=by omega
    clear hk hy hlt hr hb
    go_upto_region 6 with fail
    refine regSrb i k ln c1 c2 gg D j.p j.a j.b j.c j.d y.p y.a y.b y.c y.d r _ _ _ _ _ _ _ _ _ _ _ _ _ _ _ _ _ _ _ _ _ _ _ _ _ _ _ _ _ _ _ _ _ _ _ _ _ _ _ wr s1 s2 s3 (fun W h=>HX.out W h) (fun W h=>HC.out W h) g3' (fun W h=>HY.out W h) (fun W _=>HO.out W) hr0 wm k1 k2 k3 _ ?_
    intros
    rename_i W' hW'
    have HW':=Lib.hid hW'
    clear hW'
    go_wp2_with fail
    go_roundw
    case rel=>exact ⟨i+1,by push_cast;rfl,HJ.out.2,bhop HN.out.2 HW'.out⟩
    case measure=>have:=HJ.out.2;simp;omega
   ·have g3':¬ (0:Int)<(i:Int):=by omega
    clear hb
    go_upto_region 6 with fail
    refine regSra i ln c1 c2 gg D j.p j.a j.b j.c j.d _ _ _ _ _ _ _ _ _ _ _ _ _ _ _ _ _ _ _ _ _ _ _ _ _ _ _ _ _ _ _ _ _ _ _ _ _ _ _ wr s1 s2 s3 (fun W h=>HX.out W h) (fun W h=>HC.out W h) g3' _ ?_
    intros
    rename_i W' hW'
    have HW':=Lib.hid hW'
    clear hW'
    go_wp2_with fail
    go_roundw
    case rel=>exact ⟨i+1,by push_cast;rfl,HJ.out.2,bhop HN.out.2 HW'.out⟩
    case measure=>have:=HJ.out.2;simp;omega
  ·have s2:¬ (i:Int)<(ln:Int):=by omega
   clear hb
   go_wp2_with fail
   go_ret
   exact ⟨rfl,HN.out.2⟩
end Go.Proofs.YtglohpgoohlopaaGreatDoor

/- The document's Begin: a contract.
   Conditions: the automaton lies in memory, its classes are four words below 2^64. -/
namespace Go.Proofs.YtglohpgoohlopaaGreatDoor
open Go.RowKit Go.Shelf
set_option maxHeartbeats 8000000 in
set_option maxRecDepth 100000 in
theorem refBegin_any {B:Nat} {m:PM} {a:Au} {fl:List Nat} {la:Nat} (w:World) (hL:AuL w B m a fl la) (hC:∀ C∈m.sets,Cl C) (hfl:fl.length≤41) (b:Nat) (hb:b<256) :
  Calls Tryz.prog 14 #[.agg #[.int .i64 a.k,.int .u64 (a.s0:Nat),.int .u64 (a.s1:Nat),.int .u64 (a.s2:Nat),.int .u64 (a.s3:Nat),.slice a.ta a.tn a.tc,.int .i64 a.lo,.int .i64 a.hi,.slice a.sA a.n a.sC,.slice a.cA a.cN a.cC,.slice (some ⟨a.ga,0,none⟩) a.n a.aC,.slice a.fA a.fN a.fC,.slice (some ⟨a.mb,0,none⟩) a.n a.n,.slice (some ⟨a.lb,0,none⟩) a.n a.n,.bool a.em],.int .u8 b] w fun e w'=>(∃ A c,e=.returned (.slice A (bgL m b fl).length c)∧w'.ownsRow w.heap.size 30 5 (.slice A (bgL m b fl).length c) (bgL m b fl).length ((bgL m b fl).flatMap cfc))∧Below w.heap.size w w':=by
 obtain ⟨i0,hi,hz0,hz1,hz2⟩:=info_parts infoCf
 obtain ⟨w2,hw2,hb2,ha2⟩:=au_box w a
 have HF:=Lib.hid (fun (W:World) (h:Below w2.heap.size w2 W)=>show AuB W w.heap.size a∧AuL W B m a fl la from ⟨ha2.below h,hL.below (bhop hb2 h)⟩)
 have HB:=Lib.hid hb2
 have hfn:a.fN=fl.length:=own_num hL.first.own
 have HFN:=Lib.hid hfn
 have HW4:=Lib.hid (fun l (hl:l∈m.ars)=>(hL.wf.ars l hl).1)
 have HIN:=Lib.hid (fun (q:Nat) (hq:q∈fl)=>show 1≤q∧q<a.n∧∃ C l,m.sets[q]? = some C∧m.ars[q]? = some l∧m.sets.getD q zeros=C∧m.ars.getD q []=l∧Cl C from by
  obtain ⟨h1,h2⟩:=hL.fin q hq
  have h3:=List.getElem?_eq_getElem (l:=m.sets) (i:=q) (by rw [hL.sets];exact h2)
  have h4:=List.getElem?_eq_getElem (l:=m.ars) (i:=q) (by rw [hL.ars];exact h2)
  exact ⟨h1,h2,_,_,h3,h4,by rw [List.getD_eq_getElem?_getD,h3];rfl,by rw [List.getD_eq_getElem?_getD,h4];rfl,hC _ (List.mem_of_getElem? h3)⟩)
 clear hb2 ha2 hL hfn hC
 go_enter Tryz.func14,Tryz.ntmps14
 go_upto_region 1 with fail
 clear hw2
 go_wp2_with fail
 go_loopw [5,6] (fun lv z wr=>∃ n,BgI w2 m b fl n z lv wr) (fun lv z wr=>leastOf (fun n=>BgI w2 m b fl n z lv wr))
 case atStart=>exact ⟨_,0,rfl,rfl,Nat.zero_le _,World.ownsRow_nil _ _ _ _,Below.refl _ _⟩
 case round =>
  have hls:=(leastOf_spec hrel).1
  obtain ⟨i,rfl,hN,hif,hown,hbr⟩:=hls
  obtain ⟨A,cp,rfl⟩:=own_form hown
  have HN:=Lib.hid hN
  have HO:=Lib.hid hown
  have HR:=Lib.hid hbr
  clear hN hrel hown
  have s1:(0:Int)≤(i:Int):=by omega
  have s3:((i:Int)).toNat=i:=by omega
  have c11:=(HF.out wr hbr).1.cells.2.2.2.1
  by_cases g:i<a.fN
  ·have s2:(i:Int)<(a.fN:Int):=by omega
   have gi:i<fl.length:=by have:=HFN.out;omega
   obtain ⟨q,hq⟩ : ∃ q,fl[i]? = some q:=⟨_,List.getElem?_eq_getElem gi⟩
   obtain ⟨fA,fL⟩:=HF.out wr hbr
   obtain ⟨gf,cf,hv,hgf,hcf,_⟩:=intsR_at fL.first hq
   simp only [Value.slice.injEq] at hv
   obtain ⟨hfa,hfm,hfc⟩:=hv
   clear hfm
   obtain ⟨h1,h2,C,l,k1,k2,k3,k4,k5⟩:=HIN.out q (List.mem_of_getElem? hq)
   have hsz:=fL.lists.sets
   rw [own_num hsz] at hsz
   obtain ⟨gs,hgs,hgl,e0,e1,e2,e3⟩:=cls_at hsz k1
   have hsn:=own_num fL.lists.sets
   have c8:=fA.cells.1
   rw [hgs] at c8
   have v1:(0:Int)≤(q:Int):=by omega
   have v2:(q:Int)<(a.n:Int):=by omega
   have v3:((q:Int)).toNat=q:=by omega
   have wb:IntKind.i64.wrap (b:Int)=(b:Int):=by rw [IntKind.wrap_i64];omega
   have hst:=bg_snoc m b (fl.take i) q
   rw [k3,k4,show fl.take i ++ [q]=fl.take (i+1) by rw [List.take_add_one,hq];rfl] at hst
   have HST:=Lib.hid hst
   have HK:=Lib.hid (And.intro k2 (And.intro k5 (HW4.out l (List.mem_of_getElem? k2))))
   have HLT:=Lib.hid (show fl.length - (i+1)<fl.length - i by omega)
   have HI1:=Lib.hid gi
   have hbl:=bg_len m b (fl.take i)
   have htl:(fl.take i).length≤41:=by rw [List.length_take];omega
   have hi41:i≤41:=by omega
   obtain ⟨k,hk⟩ : ∃ k,k=(bgL m b (fl.take i)).length:=⟨_,rfl⟩
   have HKL:=Lib.hid hk
   have hk41:k≤41:=by omega
   have HO2:=Lib.hid (show wr.ownsRow w2.heap.size 30 5 (.slice A k cp) k ((bgL m b (fl.take i)).flatMap cfc) from by have:=HO.out;rw [← hk] at this;exact this)
   have HN2:=Lib.hid (show (leastOf fun n=>BgI w2 m b fl n (.int .i64 i) (.slice A k cp) wr)=fl.length - i by have:=HN.out;rw [← hk] at this;exact this)
   have HG:=Lib.hid (fun (W:World) (h:Below wr.heap.size wr W)=>show W.cell? ⟨w.heap.size,11,none⟩=some (.slice (some ⟨gf,0,none⟩) a.fN cf)∧W.cell? ⟨gf,i,none⟩=some (.int .i64 q) from
    ⟨(h.cell (p:=⟨w.heap.size,11,none⟩) fA.lt).trans (by rw [c11,hfa,hfc]),(h.cell (p:=⟨gf,i,none⟩) hgf).trans hcf⟩)
   rw [hfa,hfc] at c11
   rw [← hk,hfa]
   clear fA fL hsz hbr hst hfa hfc k1 k2 k3 k4 k5 hk htl hbl h1 h2 hif hq hsn hgs hgl hgf gi hfl
   go_wp2_with fail
   go_still_tail 12,(by kernel_rfl)
   change wpList _ _ _ _ _ wr.drew
   go_wp2_with fail
   go_at_call 32
   refine (rhas_any C b _ HK.out.2.1 hb).mono ?_
   rintro e w3 ⟨rfl,hb3⟩
   have HB3:=Lib.hid (show Below wr.heap.size wr w3 from bhop (Below.refl _ _).drew hb3)
   clear hb3 e0 e1 e2 e3 c8 c11 hcf
   obtain ⟨c11,hcf⟩:=HG.out w3 HB3.out
   cases hh:hasB C b with
   | true =>
    have HT:=Lib.hid (show bgL m b (fl.take (i+1))=bgL m b (fl.take i) ++ [⟨q,entX l (fun _=>0) 0⟩] by rw [HST.out,hh];rfl)
    clear hh
    go_upto_region 7 with fail
    obtain ⟨w4,hw4,hb4,hc4⟩ : ∃ w4,w3.alloc (.cells #[.int .i64 (q:Int),.int .i64 0,.int .i64 0,.int .i64 0,.int .i64 0] 30)=w4∧Below w3.heap.size w3 w4∧CfB w4 w3.heap.size q (fun j=>if 0≤j∧j<0 then 1 else (fun _=>0) j):=⟨_,rfl,(Below.refl _ w3).alloc (Nat.le_refl _) _,heap_alloc_new w3 _⟩
    rw [hw4]
    obtain ⟨ob,hob⟩ : ∃ ob,ob=w3.heap.size:=⟨_,rfl⟩
    have HOB:=Lib.hid hob
    rw [← hob]
    rw [← hob] at hc4
    obtain ⟨lm,hlm⟩ : ∃ lm,lm=l.length:=⟨_,rfl⟩
    have HLM:=Lib.hid (And.intro hlm (show lm≤4 by rw [hlm];exact HK.out.2.2))
    have H4:=Lib.hid (And.intro hb4 hc4)
    clear hw4 hob hb4 hc4 hlm c11 hcf
    go_wp2_with fail
    go_loopw [8] (fun z wr=>∃ j:Nat,z=.int .i64 j∧j≤l.length∧CfB wr ob q (fun t=>if 0≤t∧t<j then 1 else (fun _=>0) t)∧Below w3.heap.size w3 wr) (fun z _=>match z with | .int _ z=>l.length - z.toNat | _=>0)
    case atStart=>exact ⟨0,rfl,Nat.zero_le _,H4.out.2,H4.out.1⟩
    case round =>
     obtain ⟨j,rfl,hj,hcf,hbq⟩:=hrel
     have HQ:=Lib.hid (And.intro hcf hbq)
     obtain ⟨fA,fL⟩:=HF.out wr (bhop HR.out (bhop HB3.out hbq))
     obtain ⟨rA,rc,r1,_⟩:=fL.row HK.out.1
     have c10:=fA.cells.2.2.1
     have d0:=hcf.cell.1
     rw [← HLM.out.1] at r1
     have t1:(0:Int)≤(j:Int):=by omega
     have t3:((j:Int)).toNat=j:=by omega
     have wk:IntKind.i64.wrap ((j:Int)+1)=(j:Int)+1:=by have:=HLM.out;rw [IntKind.wrap_i64];omega
     clear fA fL
     by_cases gj:j<lm
     ·have t2:(j:Int)<(lm:Int):=by omega
      have t4:(j:Int)<4:=by have:=HLM.out.2;omega
      have e1:=hcf.cell.2.1 j (by omega)
      have e2:=hcf.cell.2.2 (1+j)
      have e3:=hcf.lt
      have HP2:=Lib.hid (show CfB (wr.setCell ⟨ob,1+j,none⟩ (.int .i64 1)) ob q (fun t=>if 0≤t∧t<j+1 then 1 else (fun _=>0) t)∧Below w3.heap.size w3 (wr.setCell ⟨ob,1+j,none⟩ (.int .i64 1))∧j+1≤l.length from by
       refine ⟨?_,hbq.setCell (by rw [HOB.out];exact Nat.le_refl _) _,by have:=HLM.out.1;omega⟩
       have:=hcf.put (i:=j) (by omega) 1
       rw [ent_put (l:=l) (Nat.zero_le j) (by have:=HLM.out.1;omega)] at this
       exact this)
      clear hcf hbq hj
      go_wp2_with fail
      go_roundw
      case rel=>exact ⟨j+1,by push_cast;rfl,HP2.out.2.2,HP2.out.1,HP2.out.2.1⟩
      case measure=>have:=HP2.out.2.2;simp;omega
     ·have t2:¬ (j:Int)<(lm:Int):=by omega
      have hjl:j=l.length:=by have:=HLM.out.1;omega
      have HC5:=Lib.hid (show CfB wr ob q (entX l (fun _=>0) 0) from by rw [hjl] at hcf;exact hcf)
      obtain ⟨q0,q1,q2,q3,q4⟩:=HC5.out.five
      have HB4:=Lib.hid (bhop HB3.out hbq)
      clear hcf hbq hj hjl
      go_upto_region 11 with fail
      clear c10 d0 r1
      go_wp2_with ((at_builtin;refine wpList_append_lies _ (by rfl) _ _ 45 (by rfl) w2.heap.size 30 i0 _ 5 40 Tryz.underlying45 hi hz0 hz1 hz2 rfl (by decide) (.slice A k cp) k ((bgL m b (fl.take i)).flatMap cfc) (by rfl) ((own_chg HO2.out (Chg.of_below (R:=fun _=>False) HB4.out) fun _ _=>id).alloc _) ⟨wr.heap.size,0,none⟩ 1 1 [.int .i64 q,.int .i64 ((entX l (fun _=>0) 0) 0),.int .i64 ((entX l (fun _=>0) 0) 1),.int .i64 ((entX l (fun _=>0) 0) 2),.int .i64 ((entX l (fun _=>0) 0) 3)] (by rfl) ?c0 ?c1 ?c2 (by decide) ?c3 ?c4 ?c5 _ rfl ?_))
      case c2=>simp [Value.oneCell']
      case c3=>unfold maxLen;omega
      case c4=>omega
      case c5=>have:=(bhop HR.out HB4.out).size;simp;omega
      intro g5 cap5 w5 hown5 hgrow5 hat5 hlt5
      have HP:=Lib.hid (show BgI w2 m b fl (fl.length - (i+1)) (.int .i64 ((i:Int)+1)) (.slice (some ⟨g5,0,none⟩) (k+1) cap5) w5 from
       ⟨i+1,by push_cast;rfl,rfl,HI1.out,by
        rw [HT.out,List.length_append,List.flatMap_append,← HKL.out]
        exact hown5,bhop HR.out HB4.out |>.trans (row_below (own_chg HO2.out (Chg.of_below (R:=fun _=>False) HB4.out) fun _ _=>id) (bhop HR.out HB4.out).size hgrow5)⟩)
      clear hown5 hgrow5 hat5 hlt5 q0 q1 q2 q3 q4
      go_wp2_with fail
      go_roundw
      case rel=>exact ⟨_,HP.out⟩
      case measure =>
       rw [HN2.out]
       exact Nat.lt_of_le_of_lt ((leastOf_spec ⟨_,HP.out⟩).2 _ HP.out) HLT.out
   | false =>
    have HT:=Lib.hid (show bgL m b (fl.take (i+1))=bgL m b (fl.take i) by rw [HST.out,hh];exact List.append_nil _)
    have HP:=Lib.hid (show BgI w2 m b fl (fl.length - (i+1)) (.int .i64 ((i:Int)+1)) (.slice A k cp) w3 from
     ⟨i+1,by push_cast;rfl,rfl,HI1.out,by
      rw [HT.out,← HKL.out]
      exact own_chg HO2.out (Chg.of_below (R:=fun _=>False) HB3.out) fun _ _=>id,bhop HR.out HB3.out⟩)
    clear hh
    go_wp2_with fail
    go_roundw
    case rel=>exact ⟨_,HP.out⟩
    case measure =>
     rw [HN2.out]
     exact Nat.lt_of_le_of_lt ((leastOf_spec ⟨_,HP.out⟩).2 _ HP.out) HLT.out
  ·have s2:¬ (i:Int)<(a.fN:Int):=by omega
   have hil:fl.take i=fl:=List.take_of_length_le (by have:=HFN.out;omega)
   have HE:=Lib.hid (show wr.ownsRow w2.heap.size 30 5 (.slice A (bgL m b fl).length cp) (bgL m b fl).length ((bgL m b fl).flatMap cfc) from by have:=HO.out;rw [hil] at this;exact this)
   rw [hil]
   clear hil hif
   go_wp2_with fail
   go_ret
   exact ⟨⟨_,_,rfl,own_low HE.out HB.out.size⟩,bhop HB.out HR.out⟩
end Go.Proofs.YtglohpgoohlopaaGreatDoor
