/- letters.Byte: contracts.
   Conditions: the letters' sets lie in memory, each byte's letter is told by a relation. -/
import Derived.Test.YtbohmcfplgdlpaaDoorOrder
import Derived.Test.YtbohmcfplgdlpaaDoorRows
import Derived.WalkKit
import Derived.KernelRfl
import Derived.Test.YtbohmcfplgdlpaaDoorMBase
import Derived.Test.YtbohmcfplgdlpaaDoorLC
import Derived.Test.YtbohmcfplgdlpaaDoorLT
import Derived.Deep.AppendLies
import Derived.Deep.DeepCutAuto
import Derived.Deep.WholeRow

/- A drawn region of Together: a class has two bytes alike, or not.
   Conditions: what it loads lies in memory; the contracts of what it calls. -/
namespace Go.Proofs.YtbohmcfplgdlpaaDoor.Lc
open Go.RowKit
abbrev opsregTg4:Array Oper:=#[{ dst:=some 14,op:=Op.move (Operand.tmp 0),type:=29,pos := "ref.go:42",after:=#[],guard:=none },
 { dst:=some 15,op:=Op.move (Operand.tmp 7),type:=3,pos := "ref.go:42",after:=#[],guard:=none },
 { dst:=some 16,op:=Op.indexAddr 29 (Operand.tmp 14) (Operand.tmp 15),type:=0,pos := "ref.go:42",after:=#[{ on:=0,ground:=Ground.data },{ on:=1,ground:=Ground.data }],guard:=none },
 { dst:=some 17,op:=Op.load 24 (Operand.tmp 16),type:=24,pos := "ref.go:42",after:=#[{ on:=2,ground:=Ground.data }],guard:=none },
 { dst:=some 18,op:=Op.move (Operand.tmp 1),type:=3,pos := "ref.go:42",after:=#[],guard:=none },
 { dst:=some 19,op:=Op.call { callee:=Callee.value (Operand.func 10),args:=#[Operand.tmp 17,Operand.tmp 18],argTypes:=#[24,3] },type:=4,pos := "ref.go:42",after:=#[{ on:=3,ground:=Ground.data },{ on:=4,ground:=Ground.data }],guard:=none },
 { dst:=some 20,op:=Op.move (Operand.tmp 0),type:=29,pos := "ref.go:42",after:=#[],guard:=none },
 { dst:=some 21,op:=Op.move (Operand.tmp 7),type:=3,pos := "ref.go:42",after:=#[],guard:=none },
 { dst:=some 22,op:=Op.indexAddr 29 (Operand.tmp 20) (Operand.tmp 21),type:=0,pos := "ref.go:42",after:=#[{ on:=6,ground:=Ground.data },{ on:=7,ground:=Ground.data }],guard:=none },
 { dst:=some 23,op:=Op.load 24 (Operand.tmp 22),type:=24,pos := "ref.go:42",after:=#[{ on:=8,ground:=Ground.data }],guard:=none },
 { dst:=some 24,op:=Op.move (Operand.tmp 2),type:=3,pos := "ref.go:42",after:=#[],guard:=none },
 { dst:=some 25,op:=Op.call { callee:=Callee.value (Operand.func 10),args:=#[Operand.tmp 23,Operand.tmp 24],argTypes:=#[24,3] },type:=4,pos := "ref.go:42",after:=#[{ on:=9,ground:=Ground.data },{ on:=10,ground:=Ground.data },{ on:=5,ground:=Ground.chain }],guard:=none },
 { dst:=some 26,op:=Op.binOp BinOp.neq 4 (Operand.tmp 19) (Operand.tmp 25) 4,type:=4,pos := "ref.go:42",after:=#[{ on:=5,ground:=Ground.data },{ on:=11,ground:=Ground.data }],guard:=none }]
def WregTg4 (C:Nat→Nat) (b off n cap pp qq k:Nat) (e1 e2:Bool) (D:List Deferred) (v3 v4 v5 v6 v8 v9 v10 v11 v12 v13:Value) (w0:World) (l:Nat→Bool) (a:Act) (w:World):Prop :=
 ∃ (y0 y1 y2 y3 y4 y5 y6 y7 y8 y9 y10 y11 y12:Value),a = { tmps:=#[.slice (some ⟨b,off,none⟩) n cap,.int .i64 pp,.int .i64 qq,v3,v4,v5,v6,.int .i64 k,v8,v9,v10,v11,v12,v13,y0,y1,y2,y3,y4,y5,y6,y7,y8,y9,y10,y11,y12],defers:=D }∧Below w0.heap.size w0 w ∧
  (l 0=true→y0=.slice (some ⟨b,off,none⟩) n cap)∧(l 1=true→y1=.int .i64 k)∧(l 2=true→y2=.pointer (some ⟨b,off+k * 4,none⟩))∧(l 3=true→y3=.agg #[.int .u64 (C 0:Nat),.int .u64 (C 1:Nat),.int .u64 (C 2:Nat),.int .u64 (C 3:Nat)])∧(l 4=true→y4=.int .i64 pp)∧(l 5=true→y5=.bool e1)∧(l 6=true→y6=.slice (some ⟨b,off,none⟩) n cap)∧(l 7=true→y7=.int .i64 k)∧(l 8=true→y8=.pointer (some ⟨b,off+k * 4,none⟩))∧(l 9=true→y9=.agg #[.int .u64 (C 0:Nat),.int .u64 (C 1:Nat),.int .u64 (C 2:Nat),.int .u64 (C 3:Nat)])∧(l 10=true→y10=.int .i64 qq)∧(l 11=true→y11=.bool e2)∧(l 12=true→y12=.bool (e1 != e2))
set_option maxHeartbeats 8000000 in
set_option maxRecDepth 100000 in
theorem regTg4 (C:Nat→Nat) (b off n cap pp qq k:Nat) (e1 e2:Bool) (D:List Deferred) (v3 v4 v5 v6 v8 v9 v10 v11 v12 v13 wy0 wy1 wy2 wy3 wy4 wy5 wy6 wy7 wy8 wy9 wy10 wy11 wy12:Value) (w:World) (hx:∀ w',Below w.heap.size w w'→w'.cell? ⟨b,off+k * 4,none⟩=some (.int .u64 (C 0:Nat))∧w'.cell? ⟨b,off+k * 4+1,none⟩=some (.int .u64 (C 1:Nat))∧w'.cell? ⟨b,off+k * 4+2,none⟩=some (.int .u64 (C 2:Nat))∧w'.cell? ⟨b,off+k * 4+3,none⟩=some (.int .u64 (C 3:Nat))) (s1:(0:Int)≤(k:Int)) (s2:(k:Int)<(n:Int)) (s3:((k:Int)).toNat=k) (hc1:(∀ w',Below w.heap.size w w'→Calls Tryd.prog 10 #[.agg #[.int .u64 (C 0:Nat),.int .u64 (C 1:Nat),.int .u64 (C 2:Nat),.int .u64 (C 3:Nat)],.int .i64 pp] w' fun e w2=>e=.returned (.bool e1)∧Below w'.heap.size w' w2)) (hc2:(∀ w',Below w.heap.size w w'→Calls Tryd.prog 10 #[.agg #[.int .u64 (C 0:Nat),.int .u64 (C 1:Nat),.int .u64 (C 2:Nat),.int .u64 (C 3:Nat)],.int .i64 qq] w' fun e w2=>e=.returned (.bool e2)∧Below w'.heap.size w' w2)) (Q:Exit→Act→World→Prop)
  (hQ:∀ (y0 y1 y2 y3 y4 y5 y6 y7 y8 y9 y10 y11:Value) (w':World),Below w.heap.size w w'→Q .normal { tmps:=#[.slice (some ⟨b,off,none⟩) n cap,.int .i64 pp,.int .i64 qq,v3,v4,v5,v6,.int .i64 k,v8,v9,v10,v11,v12,v13,y0,y1,y2,y3,y4,y5,y6,y7,y8,y9,y10,y11,.bool (e1 != e2)],defers:=D } w') :
  (Code.region 4 opsregTg4 true).wp Tryd.prog Q { tmps:=#[.slice (some ⟨b,off,none⟩) n cap,.int .i64 pp,.int .i64 qq,v3,v4,v5,v6,.int .i64 k,v8,v9,v10,v11,v12,v13,wy0,wy1,wy2,wy3,wy4,wy5,wy6,wy7,wy8,wy9,wy10,wy11,wy12],defers:=D } w:=by
 refine wp_region_inv (by kernel_rfl) (WregTg4 C b off n cap pp qq k e1 e2 D v3 v4 v5 v6 v8 v9 v10 v11 v12 v13 w) ?hacy ?h0 ?hstep ?hdone
 case hacy=>kernel_rfl
 case h0=>exact ⟨wy0,wy1,wy2,wy3,wy4,wy5,wy6,wy7,wy8,wy9,wy10,wy11,wy12,rfl,below_drewN (Below.refl _ _) 1,(fun p=>by cases p),(fun p=>by cases p),(fun p=>by cases p),(fun p=>by cases p),(fun p=>by cases p),(fun p=>by cases p),(fun p=>by cases p),(fun p=>by cases p),(fun p=>by cases p),(fun p=>by cases p),(fun p=>by cases p),(fun p=>by cases p),(fun p=>by cases p)⟩
 case hdone =>
  intro l a w1 hI hall
  obtain ⟨y0,y1,y2,y3,y4,y5,y6,y7,y8,y9,y10,y11,y12,rfl,hb,h0,h1,h2,h3,h4,h5,h6,h7,h8,h9,h10,h11,h12⟩:=hI
  obtain rfl:=h12 (hall 12 (by decide))
  exact hQ _ _ _ _ _ _ _ _ _ _ _ _ _ hb
 case hstep =>
  intro l a w1 i o hI ho hl hall
  obtain ⟨y0,y1,y2,y3,y4,y5,y6,y7,y8,y9,y10,y11,y12,rfl,hb,h0,h1,h2,h3,h4,h5,h6,h7,h8,h9,h10,h11,h12⟩:=hI
  have hi:i<13:=(Array.getElem?_eq_some_iff.1 ho).1
  match i,hi with
  | 0,_ =>
   have ho':=ho
   simp [opsregTg4] at ho
   subst ho
   refine wpOp_one ho' rfl fun K hK=>?_
   go_simp
   exact hK _ _ ⟨_,y1,y2,y3,y4,y5,y6,y7,y8,y9,y10,y11,y12,rfl,hb,fun _=>(by first | rfl | simp),h1,h2,h3,h4,h5,h6,h7,h8,h9,h10,h11,h12⟩
  | 1,_ =>
   have ho':=ho
   simp [opsregTg4] at ho
   subst ho
   refine wpOp_one ho' rfl fun K hK=>?_
   go_simp
   exact hK _ _ ⟨y0,_,y2,y3,y4,y5,y6,y7,y8,y9,y10,y11,y12,rfl,hb,h0,fun _=>(by first | rfl | simp),h2,h3,h4,h5,h6,h7,h8,h9,h10,h11,h12⟩
  | 2,_ =>
   have ho':=ho
   simp [opsregTg4] at ho
   subst ho
   obtain rfl:=h0 (hall ⟨0,.data⟩ (by simp) rfl)
   obtain rfl:=h1 (hall ⟨1,.data⟩ (by simp) rfl)
   refine wpOp_one ho' rfl fun K hK=>?_
   go_simp
   exact hK _ _ ⟨_,_,_,y3,y4,y5,y6,y7,y8,y9,y10,y11,y12,rfl,hb,fun _=>rfl,fun _=>rfl,fun _=>(by first | rfl | simp),h3,h4,h5,h6,h7,h8,h9,h10,h11,h12⟩
  | 3,_ =>
   have ho':=ho
   simp [opsregTg4] at ho
   subst ho
   obtain rfl:=h2 (hall ⟨2,.data⟩ (by simp) rfl)
   refine wpOp_one ho' rfl fun K hK=>?_
   obtain ⟨q0,q1,q2,q3⟩:=hx w1 hb
   go_simp
   exact hK _ _ ⟨y0,y1,_,_,y4,y5,y6,y7,y8,y9,y10,y11,y12,rfl,hb,h0,h1,fun _=>rfl,fun _=>(by first | rfl | simp),h4,h5,h6,h7,h8,h9,h10,h11,h12⟩
  | 4,_ =>
   have ho':=ho
   simp [opsregTg4] at ho
   subst ho
   refine wpOp_one ho' rfl fun K hK=>?_
   go_simp
   exact hK _ _ ⟨y0,y1,y2,y3,_,y5,y6,y7,y8,y9,y10,y11,y12,rfl,hb,h0,h1,h2,h3,fun _=>(by first | rfl | simp),h5,h6,h7,h8,h9,h10,h11,h12⟩
  | 5,_ =>
   have ho':=ho
   simp [opsregTg4] at ho
   subst ho
   obtain rfl:=h3 (hall ⟨3,.data⟩ (by simp) rfl)
   obtain rfl:=h4 (hall ⟨4,.data⟩ (by simp) rfl)
   refine wpOp_one ho' rfl fun K hK=>?_
   go_simp
   go_at_call 10
   refine (hc1 _ hb).mono ?_
   rintro e w2 ⟨rfl,hb2⟩
   exact hK _ _ ⟨y0,y1,y2,_,_,_,y6,y7,y8,y9,y10,y11,y12,rfl,(hb.trans (hb2.mono hb.size)),h0,h1,h2,fun _=>rfl,fun _=>rfl,fun _=>(by first | rfl | simp),h6,h7,h8,h9,h10,h11,h12⟩
  | 6,_ =>
   have ho':=ho
   simp [opsregTg4] at ho
   subst ho
   refine wpOp_one ho' rfl fun K hK=>?_
   go_simp
   exact hK _ _ ⟨y0,y1,y2,y3,y4,y5,_,y7,y8,y9,y10,y11,y12,rfl,hb,h0,h1,h2,h3,h4,h5,fun _=>(by first | rfl | simp),h7,h8,h9,h10,h11,h12⟩
  | 7,_ =>
   have ho':=ho
   simp [opsregTg4] at ho
   subst ho
   refine wpOp_one ho' rfl fun K hK=>?_
   go_simp
   exact hK _ _ ⟨y0,y1,y2,y3,y4,y5,y6,_,y8,y9,y10,y11,y12,rfl,hb,h0,h1,h2,h3,h4,h5,h6,fun _=>(by first | rfl | simp),h8,h9,h10,h11,h12⟩
  | 8,_ =>
   have ho':=ho
   simp [opsregTg4] at ho
   subst ho
   obtain rfl:=h6 (hall ⟨6,.data⟩ (by simp) rfl)
   obtain rfl:=h7 (hall ⟨7,.data⟩ (by simp) rfl)
   refine wpOp_one ho' rfl fun K hK=>?_
   go_simp
   exact hK _ _ ⟨y0,y1,y2,y3,y4,y5,_,_,_,y9,y10,y11,y12,rfl,hb,h0,h1,h2,h3,h4,h5,fun _=>rfl,fun _=>rfl,fun _=>(by first | rfl | simp),h9,h10,h11,h12⟩
  | 9,_ =>
   have ho':=ho
   simp [opsregTg4] at ho
   subst ho
   obtain rfl:=h8 (hall ⟨8,.data⟩ (by simp) rfl)
   refine wpOp_one ho' rfl fun K hK=>?_
   obtain ⟨q0,q1,q2,q3⟩:=hx w1 hb
   go_simp
   exact hK _ _ ⟨y0,y1,y2,y3,y4,y5,y6,y7,_,_,y10,y11,y12,rfl,hb,h0,h1,h2,h3,h4,h5,h6,h7,fun _=>rfl,fun _=>(by first | rfl | simp),h10,h11,h12⟩
  | 10,_ =>
   have ho':=ho
   simp [opsregTg4] at ho
   subst ho
   refine wpOp_one ho' rfl fun K hK=>?_
   go_simp
   exact hK _ _ ⟨y0,y1,y2,y3,y4,y5,y6,y7,y8,y9,_,y11,y12,rfl,hb,h0,h1,h2,h3,h4,h5,h6,h7,h8,h9,fun _=>(by first | rfl | simp),h11,h12⟩
  | 11,_ =>
   have ho':=ho
   simp [opsregTg4] at ho
   subst ho
   obtain rfl:=h9 (hall ⟨9,.data⟩ (by simp) rfl)
   obtain rfl:=h10 (hall ⟨10,.data⟩ (by simp) rfl)
   refine wpOp_one ho' rfl fun K hK=>?_
   go_simp
   go_at_call 10
   refine (hc2 _ hb).mono ?_
   rintro e w2 ⟨rfl,hb2⟩
   exact hK _ _ ⟨y0,y1,y2,y3,y4,y5,y6,y7,y8,_,_,_,y12,rfl,(hb.trans (hb2.mono hb.size)),h0,h1,h2,h3,h4,h5,h6,h7,h8,fun _=>rfl,fun _=>rfl,fun _=>(by first | rfl | simp),h12⟩
  | 12,_ =>
   have ho':=ho
   simp [opsregTg4] at ho
   subst ho
   obtain rfl:=h5 (hall ⟨5,.data⟩ (by simp) rfl)
   obtain rfl:=h11 (hall ⟨11,.data⟩ (by simp) rfl)
   refine wpOp_one ho' rfl fun K hK=>?_
   go_simp
   exact hK _ _ ⟨y0,y1,y2,y3,y4,_,y6,y7,y8,y9,y10,_,_,rfl,hb,h0,h1,h2,h3,h4,fun _=>rfl,h6,h7,h8,h9,h10,fun _=>rfl,fun _=>(by first | rfl | (cases e1 <;> cases e2 <;> rfl))⟩
  | k+13,hi=>omega
end Go.Proofs.YtbohmcfplgdlpaaDoor.Lc

/- The contract of ref01.Together, and what it comes to of an automaton's sets.
   Conditions: classes are four words below 2^64 ('Cl'), in a row of memory as they are read, fewer than 1000; bytes below 256. -/
namespace Go.Proofs.YtbohmcfplgdlpaaDoor.Lc
open Go.RowKit
set_option maxHeartbeats 2000000 in
set_option maxRecDepth 100000 in
theorem together_any (A:Option Addr) (n cap p q:Nat) (L:Nat→Nat→Nat) (w:World) (hrow:ClassRow w A n L) (hL:∀ t,Cl (L t)) (hn:n<1000) (hp:p<256) (hq:q<256) :
  Calls Tryd.prog 18 #[.slice A n cap,.int .i64 p,.int .i64 q] w fun e w'=>e=.returned (.bool (rel zeros L n p q))∧Below w.heap.size w w':=by
 go_enter Tryd.func18,Tryd.ntmps18
 go_wp2_with fail
 go_loopw [7] (fun i wr=>∃ k:Nat,k≤n∧i=.int .i64 k∧(∀ t,t<k→hasB (L t) p=hasB (L t) q)∧Below w.heap.size w wr) (fun i _=>n - (intOf i).toNat)
 case atStart=>exact ⟨0,Nat.zero_le _,rfl,fun t ht=>by omega,Below.refl _ _⟩
 case round =>
  obtain ⟨k,hk,rfl,hall,hbw⟩:=hrel
  by_cases hlt:k<n
  ·obtain ⟨b,off,rfl,hblt,hcell⟩:=hrow (by omega)
   have h1:(k:Int)<(n:Int):=by omega
   have h0:(0:Int)≤(k:Int):=by omega
   have h3:((k:Int)).toNat=k:=by omega
   obtain ⟨wv,hwv⟩ : ∃ wv,wv=wr:=⟨_,rfl⟩
   subst hwv
   have HC:=Lib.hid (fun (W:World) (h:Below wv.heap.size wv W) (i:Nat) (h4:i<4)=>((bhop hbw h).cell (p:=⟨b,off+k * 4+i,none⟩) hblt).trans (hcell k hlt i h4))
   go_upto_region 4 with fail
   refine regTg4 (L k) b off n cap p q k (hasB (L k) p) (hasB (L k) q) _ _ _ _ _ _ _ _ _ _ _ _ _ _ _ _ _ _ _ _ _ _ _ _ wv (fun W h=>⟨HC.out W h 0 (by omega),HC.out W h 1 (by omega),HC.out W h 2 (by omega),HC.out W h 3 (by omega)⟩) h0 h1 h3 (fun W _=>rhas_any (L k) p W (hL k) hp) (fun W _=>rhas_any (L k) q W (hL k) hq) _ ?_
   intros
   rename_i w2 hb2
   have hb3:=bhop hbw hb2
   cases he:(hasB (L k) p != hasB (L k) q) with
   | true =>
    have hr:rel zeros L n p q=false:=by
     unfold rel zeros
     simp
     intro h
     rw [(mem_eq_iff L p q n).1 h k hlt] at he
     simp at he
    go_wp2_with fail
    go_ret
    exact ⟨by rw [hr];rfl,hb3⟩
   | false =>
    have hk2:∀ t,t<k+1→hasB (L t) p=hasB (L t) q:=fun t ht=>by
     by_cases htk:t<k
     ·exact hall t htk
     ·obtain rfl:t=k:=by omega
      simpa using he
    clear hall
    go_wp2_with fail
    go_roundw
    case rel=>exact ⟨k+1,by omega,by go_num,hk2,hb3⟩
    case measure=>simp [intOf];omega
  ·obtain rfl:k=n:=by omega
   have hr:rel zeros L k p q=true:=by
    unfold rel zeros
    simp
    exact (mem_eq_iff L p q k).2 hall
   have h1:¬ (k:Int)<(k:Int):=by omega
   go_wp2_with fail
   go_ret
   exact ⟨by first | rfl | (rw [hr];rfl) | simp [hr],hbw⟩
theorem rel_alR {L:Nat→Nat→Nat} {S:List (Nat→Nat)} {n:Nat} (hn:S.length=n) (hS:∀ t,t<n→L t=S.getD t zeros) (p q:Nat):rel zeros L n p q=AlR S p q:=by
 rw [Bool.eq_iff_iff,alR_iff]
 unfold rel zeros
 simp
 rw [mem_eq_iff]
 constructor
 ·intro h C hC
  obtain ⟨t,ht⟩:=List.mem_iff_getElem?.1 hC
  have htn:t<n:=by have:=(List.getElem?_eq_some_iff.1 ht).1;omega
  have:=h t htn
  rw [hS t htn,List.getD_eq_getElem?_getD,ht] at this
  exact this
 ·intro h t ht
  rw [hS t ht,List.getD_eq_getElem?_getD,List.getElem?_eq_getElem (by omega)]
  exact h _ (List.getElem_mem _)
end Go.Proofs.YtbohmcfplgdlpaaDoor.Lc

/- ref13.Sets and ref13.Plain, of one automaton: contracts.
   Conditions: the automaton lies in a row of memory, its map and rows too. -/
namespace Go.Proofs.YtbohmcfplgdlpaaDoor.Lc
open Go.RowKit
def S13 (w:World) (m:PM) (kk:Nat) (wr:World) (A:Option Addr) (c:Nat):Prop:=wr.ownsRow w.heap.size 24 4 (.slice A kk c) kk (((m.sets.drop 1).take kk).flatMap cls4)∧Below w.heap.size w wr
theorem S13.row {w wr:World} {m:PM} {kk c:Nat} {A:Option Addr} (h:S13 w m kk wr A c) (hk:m.sets.length=kk+1):ClassRow wr A kk (fun t=>m.sets.getD (t+1) zeros):=fun h0=>by
 obtain ⟨g,cap,hv,_,hg⟩:=World.ownsRow.form h.1 h0
 simp only [Value.slice.injEq,true_and] at hv
 obtain ⟨rfl,rfl⟩:=hv
 refine ⟨g,0,rfl,(h.1.lt g rfl).2,fun t ht j hj=>?_⟩
 rw [Nat.zero_add]
 have hC:((m.sets.drop 1).take kk)[t]? = some (m.sets.getD (t+1) zeros):=by
  rw [List.getElem?_take,if_pos ht,List.getElem?_drop,List.getD_eq_getElem?_getD,Nat.add_comm,List.getElem?_eq_getElem (by omega)]
  rfl
 exact (World.ownsRow.cellAt h.1 (t * 4+j) (by omega)).trans (cls4_at _ _ _ _ hj hC)
theorem fst_some {r:Nat→Nat→Bool} (h:Alike r) {x b:Nat} (_:x<b) (h1:∀ t,t<x→r t b=false) (h2:r x b=true):fst r b=x:=by
 have k:=fst_spec h b
 rcases Nat.lt_trichotomy (fst r b) x with e | e | e
 ·rw [h1 _ e] at k;exact absurd k.2.1 (by decide)
 ·exact e
 ·rw [k.2.2 x e] at h2;exact absurd h2 (by decide)
theorem fst_none {r:Nat→Nat→Bool} (h:Alike r) {b:Nat} (h1:∀ t,t<b→r t b=false):fst r b=b:=by
 have k:=fst_spec h b
 rcases Nat.lt_or_ge (fst r b) b with e | e
 ·rw [h1 _ e] at k;exact absurd k.2.1 (by decide)
 ·omega
end Go.Proofs.YtbohmcfplgdlpaaDoor.Lc

/- What lies in memory while the parts are found one by one: the list so far, which bytes are done, which are in the part.
   Conditions: those that the theorems state. -/
namespace Go.Proofs.YtbohmcfplgdlpaaDoor.Lc
open Go.RowKit
theorem grown_put (w:World) (a:Addr) (u:Value):w.grownBy (w.setCell a u) (some a.block) :=
 ⟨rfl,rfl,rfl,by simp,fun k _ hk=>heap_setCell_other w a k u (fun e=>hk (by rw [e]))⟩
theorem new_like {r:Nat→Nat→Bool} (h:Alike r) {a b:Nat} (hn:fst r a=a):(r a b=true)↔fst r b=a:=by
 constructor
 ·intro e
  rw [← fst_eq h e,hn]
 ·intro e
  have:=(fst_spec h b).2.1
  rwa [e] at this
theorem new_part {r:Nat→Nat→Bool} (h:Alike r) {a x:Nat} (hn:fst r a=a):(fst r x == a)=(nm r x == news r a):=by
 rw [Bool.eq_iff_iff]
 simp only [beq_iff_eq]
 rw [← nm_new a hn]
 constructor
 ·intro e
  exact (nm_eq h ((new_like h hn).2 e)).symm
 ·intro e
  exact (new_like h hn).1 (alike_of_nm h e.symm)
def doneTo (r:Nat→Nat→Bool) (a b x:Nat):Bool:=decide (fst r x<a) || (fst r x == a && decide (x<b))
def partTo (r:Nat→Nat→Bool) (a b x:Nat):Bool:=fst r x == a && decide (x<b)
def doneAt (r:Nat→Nat→Bool) (a x:Nat):Bool:=decide (fst r x<a)
theorem done_start {r:Nat→Nat→Bool} (h:Alike r) (a x:Nat):doneAt r a x=doneTo r a a x:=by
 unfold doneAt doneTo
 have:=(fst_spec h x).1
 rw [Bool.eq_iff_iff]
 simp
 omega
theorem part_start {r:Nat→Nat→Bool} (h:Alike r) (a x:Nat):false=partTo r a a x:=by
 unfold partTo
 have:=(fst_spec h x).1
 rw [Bool.eq_iff_iff]
 simp
 omega
theorem done_hit {r:Nat→Nat→Bool} {a b:Nat} (hb:fst r b=a) (x:Nat):(doneTo r a b x || x == b)=doneTo r a (b+1) x:=by
 unfold doneTo
 rw [Bool.eq_iff_iff]
 simp
 constructor
 ·rintro ((h | h) | h)
  ·exact .inl h
  ·exact .inr ⟨h.1,by omega⟩
  ·subst h;exact .inr ⟨hb,by omega⟩
 ·rintro (h | ⟨h1,h2⟩)
  ·exact .inl (.inl h)
  ·by_cases e:x=b
   ·exact .inr e
   ·exact .inl (.inr ⟨h1,by omega⟩)
theorem part_hit {r:Nat→Nat→Bool} {a b:Nat} (hb:fst r b=a) (x:Nat):(partTo r a b x || x == b)=partTo r a (b+1) x:=by
 unfold partTo
 rw [Bool.eq_iff_iff]
 simp
 constructor
 ·rintro (h | h)
  ·exact ⟨h.1,by omega⟩
  ·subst h;exact ⟨hb,by omega⟩
 ·rintro ⟨h1,h2⟩
  by_cases e:x=b
  ·exact .inr e
  ·exact .inl ⟨h1,by omega⟩
theorem done_miss {r:Nat→Nat→Bool} {a b:Nat} (hb:¬ fst r b=a) (x:Nat):doneTo r a b x=doneTo r a (b+1) x:=by
 unfold doneTo
 rw [Bool.eq_iff_iff]
 simp
 by_cases e:x=b
 ·subst e;simp [hb]
 ·have:x<b↔x<b+1:=by omega
  rw [this]
theorem part_miss {r:Nat→Nat→Bool} {a b:Nat} (hb:¬ fst r b=a) (x:Nat):partTo r a b x=partTo r a (b+1) x:=by
 unfold partTo
 rw [Bool.eq_iff_iff]
 simp
 by_cases e:x=b
 ·subst e;simp [hb]
 ·have:x<b↔x<b+1:=by omega
  rw [this]
  exact fun _=>Iff.rfl
theorem done_end {r:Nat→Nat→Bool} (a x:Nat) (hx:x<256):doneTo r a 256 x=doneAt r (a+1) x:=by
 unfold doneTo doneAt
 rw [Bool.eq_iff_iff]
 simp [hx]
 omega
theorem part_end {r:Nat→Nat→Bool} (h:Alike r) {a:Nat} (hn:fst r a=a) (x:Nat) (hx:x<256):partTo r a 256 x=(nm r x == news r a):=by
 unfold partTo
 rw [← new_part h hn]
 simp [hx]
theorem done_old {r:Nat→Nat→Bool} {a:Nat} (hn:¬ fst r a=a) (x:Nat) (h:Alike r):doneAt r a x=doneAt r (a+1) x:=by
 unfold doneAt
 rw [Bool.eq_iff_iff]
 simp
 constructor
 ·intro e;omega
 ·intro e
  have h1:=fst_fst h x
  by_cases e1:fst r x=a
  ·rw [e1] at h1;exact absurd h1 hn
  ·omega
end Go.Proofs.YtbohmcfplgdlpaaDoor.Lc

/- Rows of 256 flags in memory, two at once, and rows of classes: plain facts.
   No conditions but those stated. -/
namespace Go.Proofs.YtbohmcfplgdlpaaDoor
open Go.RowKit
def BFree (w:World) (b:Nat):Prop:=∀ i,i<256→w.frozen? ⟨b,i,none⟩=false
theorem BFree.below {w w':World} {b:Nat} (h:BFree w b) (hl:b<w.heap.size) (hb:Below w.heap.size w w'):BFree w' b:=fun i hi=>(hb.frozen (p:=⟨b,i,none⟩) hl).trans (h i hi)
theorem Bools.lt {w:World} {b:Nat} {s:Nat→Bool} (h:Bools w b s):b<w.heap.size:=World.block_lt_of_cell? _ _ (h 0 (by decide))
theorem Bools.congr {w:World} {b:Nat} {s s':Nat→Bool} (h:Bools w b s) (he:∀ i,i<256→s i=s' i):Bools w b s':=fun i hi=>by rw [← he i hi];exact h i hi
theorem Bools.put {w:World} {b q:Nat} {s:Nat→Bool} (h:Bools w b s):Bools (w.setCell ⟨b,q,none⟩ (.bool true)) b (fun x=>s x || x == q):=by
 intro i hi
 by_cases e:i=q
 ·subst e
  rw [World.cell?_setCell_same (h:=h i hi)]
  simp
 ·rw [World.cell?_setCell_other (h:=addr_ne (.inr fun h=>e h.symm)),h i hi]
  have:(i == q)=false:=by simp [e]
  simp [this]
theorem Bools.put_other {w:World} {b b' q:Nat} {s:Nat→Bool} (h:Bools w b s) (hne:b'≠b):Bools (w.setCell ⟨b',q,none⟩ (.bool true)) b s:=by
 intro i hi
 rw [World.cell?_setCell_other (h:=addr_ne (.inl hne))]
 exact h i hi
theorem BFree.put {w:World} {b b' q:Nat} (h:BFree w b):BFree (w.setCell ⟨b',q,none⟩ (.bool true)) b:=fun i hi=>by simp [h i hi]
def MW (w:World) (b7 b8:Nat) (s1 s2:Nat→Bool) (wr:World):Prop :=
 Bools wr b7 s1∧BFree wr b7∧Bools wr b8 s2∧BFree wr b8∧w.heap.size≤b7∧b7<b8∧Below w.heap.size w wr
theorem MW.put1 {w wr:World} {b7 b8 q:Nat} {s1 s2:Nat→Bool} (h:MW w b7 b8 s1 s2 wr):MW w b7 b8 (fun x=>s1 x || x == q) s2 (wr.setCell ⟨b7,q,none⟩ (.bool true)) :=
 ⟨h.1.put,h.2.1.put,h.2.2.1.put_other (by have:=h.2.2.2.2.2.1;omega),h.2.2.2.1.put,h.2.2.2.2.1,h.2.2.2.2.2.1,h.2.2.2.2.2.2.setCell h.2.2.2.2.1 _⟩
theorem MW.put2 {w wr:World} {b7 b8 q:Nat} {s1 s2:Nat→Bool} (h:MW w b7 b8 s1 s2 wr):MW w b7 b8 s1 (fun x=>s2 x || x == q) (wr.setCell ⟨b8,q,none⟩ (.bool true)) :=
 ⟨h.1.put_other (by have:=h.2.2.2.2.2.1;omega),h.2.1.put,h.2.2.1.put,h.2.2.2.1.put,h.2.2.2.2.1,h.2.2.2.2.2.1,h.2.2.2.2.2.2.setCell (by have:=h.2.2.2.2.1;have:=h.2.2.2.2.2.1;show w.heap.size≤b8;omega) _⟩
theorem MW.congr {w wr:World} {b7 b8:Nat} {s1 s2 t1 t2:Nat→Bool} (h:MW w b7 b8 s1 s2 wr) (h1:∀ i,i<256→s1 i=t1 i) (h2:∀ i,i<256→s2 i=t2 i):MW w b7 b8 t1 t2 wr :=
 ⟨h.1.congr h1,h.2.1,h.2.2.1.congr h2,h.2.2.2.1,h.2.2.2.2.1,h.2.2.2.2.2.1,h.2.2.2.2.2.2⟩
theorem bools_new (w:World):Bools (w.alloc (.cells (Array.replicate 256 (.bool false)) 62)) w.heap.size (fun _=>false):=fun i hi=>by simp [hi]
theorem bfree_new (w:World):BFree (w.alloc (.cells (Array.replicate 256 (.bool false)) 62)) w.heap.size:=fun i hi=>by simp
theorem MW.start {w w1:World} (hb:Below w.heap.size w w1):MW w w1.heap.size (w1.heap.size+1) (fun _=>false) (fun _=>false) ((w1.alloc (.cells (Array.replicate 256 (.bool false)) 62)).alloc (.cells (Array.replicate 256 (.bool false)) 62)):=by
 have e1:(w1.alloc (.cells (Array.replicate 256 (.bool false)) 62)).heap.size=w1.heap.size+1:=by simp
 have c:=bools_new (w1.alloc (.cells (Array.replicate 256 (.bool false)) 62))
 have f:=bfree_new (w1.alloc (.cells (Array.replicate 256 (.bool false)) 62))
 rw [e1] at c f
 exact ⟨(bools_new w1).below (below_alloc _ _),(bfree_new w1).below (by simp) (below_alloc _ _),c,f,hb.size,by omega,(hb.alloc hb.size _).alloc (by rw [e1];have:=hb.size;omega) _⟩
def four (C:Nat→Nat):List Value:=[.int .u64 (C 0:Nat),.int .u64 (C 1:Nat),.int .u64 (C 2:Nat),.int .u64 (C 3:Nat)]
def rowsOf (L:Nat→Nat→Nat):Nat→List Value
 | 0=>[]
 | t+1=>rowsOf L t ++ four (L t)
theorem rowsOf_length (L:Nat→Nat→Nat):∀ t,(rowsOf L t).length=t * 4
 | 0=>rfl
 | t+1=>by
  show (rowsOf L t ++ four (L t)).length=_
  rw [List.length_append,rowsOf_length L t]
  show t * 4+4=_
  omega
theorem rowsOf_at (L:Nat→Nat→Nat) (j:Nat) (hj:j<4):∀ t i,i<t→(rowsOf L t)[i * 4+j]? = some (.int .u64 (L i j:Nat))
 | t+1,i,h=>by
  show (rowsOf L t ++ four (L t))[i * 4+j]? = _
  have hl:=rowsOf_length L t
  by_cases h1:i<t
  ·rw [List.getElem?_append_left (by omega)]
   exact rowsOf_at L j hj t i h1
  ·obtain rfl:i=t:=by omega
   rw [List.getElem?_append_right (by omega),hl,Nat.add_sub_cancel_left]
   match j,hj with
   | 0,_=>rfl
   | 1,_=>rfl
   | 2,_=>rfl
   | 3,_=>rfl
theorem own_kept {W w':World} {base:Nat} {e:TypeId} {size:Nat} {v:Value} {n:Nat} {xs:List Value} (h:W.ownsRow base e size v n xs) (hb:Below W.heap.size W w'):w'.ownsRow base e size v n xs :=
 h.kept (row:=none) ⟨hb.os,hb.tape,hb.output,hb.size,fun k hk _=>hb.block k hk⟩ (by cases v.ownBlock <;> simp)
theorem keep_from {W w w':World} {B:Nat} (hb:Below W.heap.size W w') (h:Below B w W) (hB:B≤W.heap.size):Below B w w':=h.trans (hb.mono hB)
theorem info62:(Tryd.prog.info? 62).map (fun i=>(i.zero,i.size))=some (some (.agg (Array.replicate 256 (.bool false))),256):=by kernel_rfl
theorem own_row {w:World} {base g cap n:Nat} {M:Nat→Nat→Nat} (h:w.ownsRow base 24 4 (.slice (some ⟨g,0,none⟩) n cap) n (rowsOf M n)):Lc.ClassRow w (some ⟨g,0,none⟩) n M∧n≤cap:=by
 have hc:=h.cells (g:=g) rfl
 constructor
 ·intro h0
  have hcell:∀ t,t<n→∀ j,j<4→w.cell? ⟨g,0+t * 4+j,none⟩=some (.int .u64 (M t j:Nat)):=fun t ht j hj=>by
   have:=hc _ _ (rowsOf_at M j hj n t ht)
   rw [Addr.add_mid] at this
   rw [Nat.add_assoc]
   exact this
  exact ⟨g,0,rfl,World.block_lt_of_cell? _ _ (hcell 0 h0 0 (by decide)),hcell⟩
 ·rcases h.2 with ⟨h1,_⟩ | ⟨g',cap',cur,hv,_,_,hle,_⟩
  ·cases h1
  ·simp at hv
   omega
theorem one_four (C:Nat→Nat):∀ u∈four C,u.oneCell'=true:=by simp [four,Value.oneCell']
end Go.Proofs.YtbohmcfplgdlpaaDoor

/- The contract of the document's own Parts: of a list of classes the row of the classes of its numbering, one behind the other.
   Conditions: classes are four words below 2^64 ('Cl'), in a row of memory as they are read; fewer than 64 of them. -/
namespace Go.Proofs.YtbohmcfplgdlpaaDoor.Lc
open Go.RowKit
def RP (r:Nat→Nat→Bool) (w:World) (D:Nat) (v:Value) (a:Nat) (wr:World):Prop :=
 wr.ownsRow w.heap.size 24 4 v (news r a) (rowsOf (partOf r) (news r a))∧Bools wr D (doneAt r a)∧BFree wr D∧w.heap.size≤D∧v.ownBlock≠some D∧Below w.heap.size w wr
def RI (r:Nat→Nat→Bool) (w:World) (D I:Nat) (v:Value) (a b:Nat) (wr:World):Prop :=
 wr.ownsRow w.heap.size 24 4 v (news r a) (rowsOf (partOf r) (news r a))∧MW w D I (doneTo r a b) (partTo r a b) wr∧v.ownBlock≠some D∧v.ownBlock≠some I
theorem RP.start {r:Nat→Nat→Bool} (w:World):RP r w w.heap.size (.slice none 0 0) 0 (w.alloc (.cells (Array.replicate 256 (.bool false)) 62)) :=
 ⟨World.ownsRow_nil _ _ _ _,(bools_new w).congr (fun i _=>by unfold doneAt;simp),bfree_new w,Nat.le_refl _,by simp [Value.ownBlock],below_alloc w _⟩
theorem RP.inner {r:Nat→Nat→Bool} (hr:Alike r) {w wr:World} {D a:Nat} {v:Value} (h:RP r w D v a wr) :
  RI r w D wr.heap.size v a a (wr.alloc (.cells (Array.replicate 256 (.bool false)) 62)):=by
 obtain ⟨h1,h2,h3,h4,h5,h6⟩:=h
 have hb:=below_alloc wr (.cells (Array.replicate 256 (.bool false)) 62)
 refine ⟨h1.alloc _,⟨(h2.below hb).congr (fun x _=>done_start hr a x),h3.below h2.lt hb,(bools_new wr).congr (fun x _=>part_start hr a x),bfree_new wr,h4,h2.lt,h6.alloc h6.size _⟩,h5,fun e=>?_⟩
 have:=(h1.lt _ e).2
 omega
theorem RI.hit {r:Nat→Nat→Bool} {w wr:World} {D I a b:Nat} {v:Value} (hb:fst r b=a) (h:RI r w D I v a b wr) :
  RI r w D I v a (b+1) ((wr.setCell ⟨I,b,none⟩ (.bool true)).setCell ⟨D,b,none⟩ (.bool true)):=by
 obtain ⟨h1,h2,h3,h4⟩:=h
 refine ⟨(h1.kept (grown_put _ _ _) (.inr h4)).kept (grown_put _ _ _) (.inr h3),?_,h3,h4⟩
 exact (h2.put2 (q:=b)).put1 (q:=b) |>.congr (fun x _=>done_hit hb x) (fun x _=>part_hit hb x)
theorem RI.miss {r:Nat→Nat→Bool} {w wr:World} {D I a b:Nat} {v:Value} (hb:¬ fst r b=a) (h:RI r w D I v a b wr):RI r w D I v a (b+1) wr :=
 ⟨h.1,h.2.1.congr (fun x _=>done_miss hb x) (fun x _=>part_miss hb x),h.2.2⟩
theorem _root_.Go.Proofs.YtbohmcfplgdlpaaDoor.MW.below {w wr w':World} {b7 b8:Nat} {s1 s2:Nat→Bool} (h:MW w b7 b8 s1 s2 wr) (hb:Below wr.heap.size wr w'):MW w b7 b8 s1 s2 w' :=
 ⟨h.1.below hb,h.2.1.below h.1.lt hb,h.2.2.1.below hb,h.2.2.2.1.below h.2.2.1.lt hb,h.2.2.2.2.1,h.2.2.2.2.2.1,keep_from hb h.2.2.2.2.2.2 h.2.2.2.2.2.2.size⟩
theorem RI.below {r:Nat→Nat→Bool} {w wr w':World} {D I a b:Nat} {v:Value} (h:RI r w D I v a b wr) (hb:Below wr.heap.size wr w'):RI r w D I v a b w' :=
 ⟨own_kept h.1 hb,h.2.1.below hb,h.2.2⟩
theorem RP.old {r:Nat→Nat→Bool} (hr:Alike r) {w wr:World} {D a:Nat} {v:Value} (hn:¬ fst r a=a) (h:RP r w D v a wr):RP r w D v (a+1) wr:=by
 obtain ⟨h1,h2,h3⟩:=h
 have e:news r (a+1)=news r a:=by rw [news_succ,if_neg hn];rfl
 exact ⟨by rw [e];exact h1,h2.congr (fun x _=>done_old hn x hr),h3⟩
end Go.Proofs.YtbohmcfplgdlpaaDoor.Lc

/- The walk of the document's own Parts: of a list of classes the row of the classes of its numbering, one behind the other.
   Conditions: classes are four words below 2^64 ('Cl'), in a row of memory as they are read; fewer than 64 of them. -/
namespace Go.Proofs.YtbohmcfplgdlpaaDoor.Lc
open Go.RowKit
theorem made_part (r:Nat→Nat→Bool) (q:Nat) (w:World):Calls Tryd.prog 19 #[.agg (boolList (fun x=>nm r x == q)).toArray] w fun e w'=>e=.returned (.agg #[.int .u64 (partOf r q 0:Nat),.int .u64 (partOf r q 1:Nat),.int .u64 (partOf r q 2:Nat),.int .u64 (partOf r q 3:Nat)])∧Below w.heap.size w w':=made_class _ w
theorem RP.next {r:Nat→Nat→Bool} {w W w9:World} {D I a g cp:Nat} {v:Value} (hn:fst r a=a) (h:RI r w D I v a 256 W) (hgrow:W.grownBy w9 v.ownBlock)
  (hown:w9.ownsRow w.heap.size 24 4 (.slice (some ⟨g,0,none⟩) (news r a+1) cp) (news r a+1) (rowsOf (partOf r) (news r a) ++ four (partOf r (news r a)))) (hat:v.ownBlock=some g∨g=W.heap.size) :
  RP r w D (.slice (some ⟨g,0,none⟩) (news r a+1) cp) (a+1) w9:=by
 obtain ⟨h1,h2,h3,h4⟩:=h
 have e:news r (a+1)=news r a+1:=by rw [news_succ,if_pos hn]
 have hD:=h2.1.lt
 have hne:some D≠v.ownBlock:=fun e=>h3 e.symm
 have hd:=h2.1.congr (fun x hx=>done_end (r:=r) a x hx)
 refine ⟨by rw [e];exact hown,fun i hi=>?_,fun i hi=>?_,h2.2.2.2.2.1,?_,h2.2.2.2.2.2.2.grown hgrow h2.2.2.2.2.2.2.size (fun k hk=>(h1.lt k hk).1)⟩
 ·rw [hgrow.cell_far ⟨D,i,none⟩ hD hne];exact hd i hi
 ·rw [hgrow.frozen_far ⟨D,i,none⟩ hD hne];exact h2.2.1 i hi
 ·simp only [Value.ownBlock]
  rcases hat with h | h
  ·rw [← h];exact h3
  ·intro e;injection e with e;omega
theorem RI.bytes {r:Nat→Nat→Bool} (hr:Alike r) {w wr:World} {D I a:Nat} {v:Value} (hn:fst r a=a) (h:RI r w D I v a 256 wr):Bools wr I (fun x=>nm r x == news r a) :=
 h.2.1.2.2.1.congr (fun x hx=>part_end hr hn x hx)
theorem RP.parts {r:Nat→Nat→Bool} (hr:Alike r) {w wr:World} {D:Nat} {v:Value} (h:RP r w D v 256 wr) :
  ∃ g cp,v=.slice (some ⟨g,0,none⟩) (news r 256) cp∧PartsAt wr g (news r 256) (partOf r):=by
 obtain ⟨g,cp,rfl,_,_⟩:=h.1.form (news_pos hr)
 obtain ⟨b,off,e,_,hc⟩:=(own_row h.1).1 (news_pos hr)
 simp at e
 obtain ⟨rfl,rfl⟩:=e
 refine ⟨_,_,rfl,fun q hq j hj=>?_⟩
 have:=hc q hq j hj
 rwa [Nat.zero_add] at this
set_option maxHeartbeats 4000000 in
set_option maxRecDepth 100000 in
theorem ref_any (A:Option Addr) (n cap:Nat) (L:Nat→Nat→Nat) (w:World) (hrow:ClassRow w A n L) (hL:∀ t,Cl (L t)) (hn64:n<1000) :
  Calls Tryd.prog 7 #[.slice A n cap] w fun e w'=>∃ g cp,e=.returned (.slice (some ⟨g,0,none⟩) (news (rel zeros L n) 256) cp)∧PartsAt w' g (news (rel zeros L n) 256) (partOf (rel zeros L n))∧Below w.heap.size w w':=by
 have hzero:=(zero_of_info info62).1
 have hal:=alike_rel zeros L n
 obtain ⟨i0,hi,hz0,hz1,hz2⟩:=info_parts infoCls
 have htog:=fun (a b:Nat) (ha:a<256) (hb:b<256) (w':World) (h:ClassRow w' A n L)=>together_any A n cap a b L w' h hL hn64 ha hb
 have hst:=RP.start (r:=rel zeros L n) w
 generalize rel zeros L n=r at *
 go_enter Tryd.func7,Tryd.ntmps7
 go_wp2_with fail
 go_loopw [3,5] (fun v i wr=>∃ a:Nat,a≤256∧i=.int .i64 a∧RP r w w.heap.size v a wr) (fun _ i _=>256 - (intOf i).toNat)
 case atStart=>exact ⟨0,Nat.zero_le _,rfl,hst⟩
 case round =>
  clear hst
  obtain ⟨a,ha,rfl,hP⟩:=hrel
  have hle:=news_le (r:=r) a
  by_cases hlt:a<256
  ·have h1:(a:Int)<256:=by omega
   have h0:(0:Int)≤(a:Int):=by omega
   have hd:=hP.2.1 a hlt
   by_cases hn:fst r a=a
   ·rw [show doneAt r a a=false by unfold doneAt;simp [hn]] at hd
    have hI:=hP.inner hal
    clear hP
    go_wp2_with fail
    go_loopw [7] (fun i wz=>∃ b:Nat,a≤b∧b≤256∧i=.int .i64 b∧RI r w w.heap.size wr.heap.size u3 a b wz) (fun i _=>256 - (intOf i).toNat)
    case atStart=>exact ⟨a,Nat.le_refl _,by omega,rfl,hI⟩
    case round =>
     clear hI hd hzero
     obtain ⟨b,hb1,hb2,rfl,hJ⟩:=hrel
     by_cases hbl:b<256
     ·have g1:(b:Int)<256:=by omega
      have g0:(0:Int)≤(b:Int):=by omega
      have hrw:=hrow.below hJ.2.1.2.2.2.2.2.2
      go_wp2_with fail
      go_at_call 18
      refine (htog a b hlt hbl _ hrw).mono ?_
      rintro e w5 ⟨rfl,hb5⟩
      have hK:=hJ.below hb5
      clear hJ hrw
      cases hr:r a b with
      | true =>
       have hf:=(new_like hal hn).1 hr
       have hnx:=hK.hit hf
       have d1:=hK.2.1.1 b hbl
       have d2:=hK.2.1.2.1 b hbl
       have d3:=hK.2.1.2.2.1 b hbl
       have d4:=hK.2.1.2.2.2.1 b hbl
       have d5:=(hK.2.1.put2 (q:=b)).1 b hbl
       clear hK
       go_wp2_with fail
       go_roundw
       case rel=>exact ⟨b+1,by omega,by omega,by go_num,hnx⟩
       case measure=>simp [intOf];omega
      | false =>
       have hnx:=hK.miss (fun e=>by rw [(new_like hal hn).2 e] at hr;cases hr)
       clear hK
       go_wp2_with fail
       go_roundw
       case rel=>exact ⟨b+1,by omega,by omega,by go_num,hnx⟩
       case measure=>simp [intOf];omega
     ·obtain rfl:b=256:=by omega
      have r1:=(hJ.bytes hal hn).range
      have i1:(Tryd.prog.info? 62).map (·.size)=some (boolList (fun x=>nm r x == news r a)).length:=by rw [boolList_length];exact (zero_of_info info62).2
      have m1:=made_part r (news r a)
      generalize boolList (fun x=>nm r x == news r a)=L1 at r1 i1 m1
      go_wp2_with (refine wpList_load_mid (by rfl) 62 (.tmp 6) (by rfl) _ 0 (by rfl) L1 _ r1 Tryd.underlying62 (by rfl) i1 ?_)
      go_at_call 19
      refine (m1 _).mono ?_
      rintro e w6 ⟨rfl,hb6⟩
      have hK:=hJ.below hb6
      clear hJ r1 m1 i1
      go_wp2_with ((at_builtin;refine wpList_append_lies _ (by rfl) _ _ 29 (by rfl) w.heap.size 24 i0 _ 4 32 Tryd.underlying29 hi hz0 hz1 hz2 rfl (by decide) _ (news r a) (rowsOf (partOf r) (news r a)) (by rfl) (hK.1.alloc _) ⟨w6.heap.size,0,none⟩ 1 1 (four (partOf r (news r a))) (by rfl) rfl ?c1 ?c2 (by decide) ?c3 ?c4 ?c5 _ rfl ?_))
      case c1=>exact World.news_of_block (heap_alloc_new w6 _)
      case c2=>exact one_four _
      case c3=>unfold maxLen;omega
      case c4=>omega
      case c5=>have:=hK.2.1.2.2.2.2.2.2.size;simp;omega
      intro g cp w7 hown7 hgrow hat _
      have hnx:=RP.next hn (hK.below (below_alloc w6 _)) hgrow hown7 (by simpa using hat)
      clear hown7 hgrow hat hK
      go_wp2_with fail
      go_roundw
      case rel=>exact ⟨a+1,by omega,by go_num,hnx⟩
      case measure=>simp [intOf];omega
   ·rw [show doneAt r a a=true by unfold doneAt;have:=(fst_spec hal a).1;simp;omega] at hd
    have hnx:=hP.old hal hn
    clear hP
    go_wp2_with fail
    go_roundw
    case rel=>exact ⟨a+1,by omega,by go_num,hnx⟩
    case measure=>simp [intOf];omega
  ·obtain rfl:a=256:=by omega
   obtain ⟨g,cp,hv,hp⟩:=hP.parts hal
   subst hv
   go_wp2_with fail
   go_ret
   exact ⟨g,cp,rfl,hp,hP.2.2.2.2.2⟩
end Go.Proofs.YtbohmcfplgdlpaaDoor.Lc

/- ref13.Sets of some automata, letters.Byte: contracts.
   Conditions: the automata lie in a row of memory, each one's map and rows too; at most twenty of them. -/
namespace Go.Proofs.YtbohmcfplgdlpaaDoor.Lc
open Go.RowKit
def SR (w:World) (S:List (Nat→Nat)) (n:Nat) (wr:World) (A:Option Addr) (c:Nat):Prop:=S.length=n∧wr.ownsRow w.heap.size 24 4 (.slice A n c) n (S.flatMap cls4)∧Below w.heap.size w wr
theorem SR.row {w wr:World} {S:List (Nat→Nat)} {n c:Nat} {A:Option Addr} (h:SR w S n wr A c):ClassRow wr A n (fun t=>S.getD t zeros):=fun h0=>by
 obtain ⟨g,cap,hv,_,hg⟩:=World.ownsRow.form h.2.1 h0
 simp only [Value.slice.injEq,true_and] at hv
 obtain ⟨rfl,rfl⟩:=hv
 refine ⟨g,0,rfl,(h.2.1.lt g rfl).2,fun t ht j hj=>?_⟩
 rw [Nat.zero_add]
 have hC:S[t]? = some (S.getD t zeros):=by
  rw [List.getD_eq_getElem?_getD,List.getElem?_eq_getElem (by have:=h.1;omega)]
  rfl
 exact (World.ownsRow.cellAt h.2.1 (t * 4+j) (by omega)).trans (cls4_at _ _ _ _ hj hC)
theorem setsL_few {w:World} {A:Option Addr}:∀ {xs:List (Au×PM)},(∀ x∈xs,x.2.sets.length≤41)→(setsL xs).length≤xs.length * 40
 | [],_=>by simp [setsL]
 | x :: xs,h=>by
  have:=setsL_few (w:=w) (A:=A) (xs:=xs) fun y hy=>h y (List.mem_cons_of_mem _ hy)
  have h1:=h x (List.mem_cons_self ..)
  show (x.2.sets.drop 1 ++ setsL xs).length≤_
  rw [List.length_append,List.length_drop,List.length_cons]
  omega
theorem aus_few {w:World} {A:Option Addr} {xs:List (Au×PM)} (h:AusR w A xs):∀ x∈xs,x.2.sets.length≤41:=fun x hx=>by
 obtain ⟨i,hi⟩:=List.mem_iff_getElem?.1 hx
 obtain ⟨_,_,_,_,_,B,fl,la,hau0⟩:=h i x hi
 have hau:AuL w B x.2 x.1 fl la:=hau0
 have:=hau.most
 have:=hau.sets
 omega
set_option maxHeartbeats 8000000 in
set_option maxRecDepth 100000 in
theorem sets13_all (w:World) (g c:Nat) (xs:List (Au×PM)) (h:AusR w (some ⟨g,0,none⟩) xs) (hx:xs.length≤20) :
  Calls Tryd.prog 8 #[.slice (some ⟨g,0,none⟩) xs.length c] w fun e w'=>∃ A c,e=.returned (.slice A (setsL xs).length c)∧ClassRow w' A (setsL xs).length (fun t=>(setsL xs).getD t zeros)∧Below w.heap.size w w':=by
 obtain ⟨i0,hi,hz0,hz1,hz2⟩:=info_parts infoCls
 obtain ⟨N,hN⟩ : ∃ N,N=xs.length:=⟨_,rfl⟩
 have H:=Lib.hid (And.intro h (And.intro hx (And.intro hN (aus_few h))))
 rw [← hN]
 clear h hx hN
 go_enter Tryd.func8,Tryd.ntmps8
 go_wp2_with fail
 go_loopw [3,4,5] (fun v3 v4 v5 wr=>∃ i:Nat,v4=.int .i64 i∧i≤N∧∃ A n c,v3=.slice A n c∧SR w (setsL (xs.take i)) n wr A c) (fun _ v4 _ _=>match v4 with | .int _ z=>N - z.toNat | _=>0)
 case atStart=>exact ⟨0,rfl,Nat.zero_le _,none,0,0,rfl,by simp [setsL],by simpa [setsL] using World.ownsRow_nil _ _ _ _,Below.refl _ _⟩
 case round =>
  obtain ⟨i,rfl,hiN,A0,n0,c0,rfl,hS0⟩:=hrel
  by_cases hlt0:i<N
  ·have s2:(i:Int)<(N:Int):=by omega
   have s1:(0:Int)≤(i:Int):=by omega
   have s3:((i:Int)).toNat=i:=by omega
   have wi:IntKind.i64.wrap ((i:Int)+1)=(i:Int)+1:=by have:=H.out.2.1;have:=H.out.2.2.1;rw [IntKind.wrap_i64];omega
   obtain ⟨⟨a,m⟩,hxk⟩ : ∃ y,xs[i]? = some y:=⟨_,List.getElem?_eq_getElem (by have:=H.out.2.2.1;omega)⟩
   obtain ⟨g',eg,hgl,hrange,hCl,B,fl,la,hau0⟩:=H.out.1 i _ hxk
   have hau:AuL w B m a fl la:=hau0
   clear hau0
   simp only [Option.some.injEq,Addr.mk.injEq,and_true] at eg
   subst eg
   obtain ⟨gs,hA,hc,hrow⟩:=row_sets hau
   have hone:=hau.one
   have hmost:=hau.most
   have hsl:=hau.sets
   obtain ⟨n,hn⟩ : ∃ n,n=a.n:=⟨_,rfl⟩
   have e8:w.cell? ⟨g,i * 15+8,none⟩=some (.slice (some ⟨gs,0,none⟩) n a.sC):=by
    have:=hrange 8 (.slice a.sA a.n a.sC) rfl
    rw [hA,← hn] at this
    exact this
   obtain ⟨sc,hsc⟩ : ∃ sc,sc=a.sC:=⟨_,rfl⟩
   rw [← hsc] at e8
   have hfew:(setsL (xs.take i)).length≤800:=by
    have:=setsL_few (w:=w) (A:=none) (xs:=xs.take i) fun x hx=>H.out.2.2.2 x (List.mem_of_mem_take hx)
    rw [List.length_take] at this
    have:=H.out.2.1
    omega
   have HI:=Lib.hid (And.intro hsl (And.intro hone (And.intro hmost (And.intro hrow (And.intro hgl (And.intro hn (And.intro e8 (And.intro hxk (And.intro hfew (And.intro hS0.1 (show i+1≤N from hlt0)))))))))))
   clear hrange hCl hau hA hc hrow hone hmost hsl hn hsc hxk hfew hlt0 hiN
   have HS0:=Lib.hid hS0
   have hb0:=hS0.2.2
   clear hS0
   go_wp2_with fail
   go_loopw [3,5] (fun v3 v5 wr=>∃ k:Nat,v5=.int .i64 k∧1≤k∧k≤n∧∃ A c,v3=.slice A (n0+(k - 1)) c∧SR w (setsL (xs.take i) ++ (m.sets.drop 1).take (k - 1)) (n0+(k - 1)) wr A c) (fun _ v5 _=>match v5 with | .int _ z=>n - z.toNat | _=>0)
   case atStart=>exact ⟨1,rfl,Nat.le_refl _,by have:=HI.out.2.1;have:=HI.out.2.2.2.2.2.1;omega,A0,c0,rfl,by simpa using HS0.out⟩
   case round =>
    obtain ⟨k,rfl,hk1,hkn,A,c5,rfl,hS⟩:=hrel
    have e8':=(hS.2.2.cell (p:=⟨g,i * 15+8,none⟩) HI.out.2.2.2.2.1).trans HI.out.2.2.2.2.2.2.1
    by_cases hlt:k<n
    ·have u2:(k:Int)<(n:Int):=by omega
     have u1:(0:Int)≤(k:Int):=by omega
     have u3:((k:Int)).toNat=k:=by omega
     have wk:IntKind.i64.wrap ((k:Int)+1)=(k:Int)+1:=by have:=HI.out.2.2.1;have:=HI.out.2.2.2.2.2.1;rw [IntKind.wrap_i64];omega
     have hrow:=(HI.out.2.2.2.1 4 (.inr rfl)).below hS.2.2
     rw [← HI.out.2.2.2.2.2.1] at hrow
     obtain ⟨C,hC⟩ : ∃ C,C=m.sets.getD k zeros:=⟨_,rfl⟩
     have d:∀ j,j<4→wr.cell? ⟨gs,k * 4+j,none⟩=some (.int .u64 (C j:Nat)):=fun j hj=>by
      have:=hrow.cells (j:=(k - 1) * 4+j) (by omega)
      rw [show ((k - 1) * 4+j) / 4=k - 1 by omega,show ((k - 1) * 4+j) % 4=j by omega,show 4+((k - 1) * 4+j)=k * 4+j by omega,show k - 1+1=k by omega,← hC] at this
      exact this
     have d0:=d 0 (by omega)
     have d1:=d 1 (by omega)
     have d2:=d 2 (by omega)
     have d3:=d 3 (by omega)
     rw [Nat.add_zero] at d0
     have HK:=Lib.hid (And.intro hS (And.intro hC (And.intro hk1 (show k+1≤n from hlt))))
     obtain ⟨q,hq⟩ : ∃ q,q=n0+(k - 1):=⟨_,rfl⟩
     have HQ:=Lib.hid (And.intro hq (show q≤1000 by have:=HI.out.2.2.2.2.2.2.2.2.1;have:=HI.out.2.2.2.2.2.2.2.2.2.1;have:=HI.out.2.2.1;have:=HI.out.2.2.2.2.2.1;omega))
     rw [← hq] at hS ⊢
     have HO:=Lib.hid hS.2.1
     clear hrow hC d hkn hS hq
     go_wp2_with ((at_builtin;refine wpList_append_lies _ (by rfl) _ _ 29 (by rfl) w.heap.size 24 i0 _ 4 32 Tryd.underlying29 hi hz0 hz1 hz2 rfl (by decide) (.slice A q c5) q _ (by rfl) (HO.out.alloc _) ⟨wr.heap.size,0,none⟩ 1 1 [.int .u64 (C 0:Nat),.int .u64 (C 1:Nat),.int .u64 (C 2:Nat),.int .u64 (C 3:Nat)] (by rfl) ?c0 ?c1 ?c2 (by decide) ?c3 ?c4 ?c5 _ rfl ?_))
     case c0=>rfl
     case c1=>exact World.news_of_block (heap_alloc_new wr _)
     case c2=>simp [Value.oneCell']
     case c3=>have:=HQ.out.2;unfold maxLen;omega
     case c4=>have:=HQ.out.2;omega
     case c5=>have:=HK.out.1.2.2.size;simp;omega
     intro g5 cap5 w5 hown5 hgrow5 hat5 hlt5
     have hN:=Lib.hid (show SR w (setsL (xs.take i) ++ (m.sets.drop 1).take k) (q+1) w5 (some ⟨g5,0,none⟩) cap5 from by
      have hmk:(m.sets.drop 1)[k - 1]? = some C:=by
       have h1:=HI.out.1;have h2:=HI.out.2.2.2.2.2.1;have h3:=HK.out.2.2.2;have h4:=HK.out.2.2.1
       rw [List.getElem?_drop,show 1+(k - 1)=k by omega,HK.out.2.1,List.getD_eq_getElem?_getD,List.getElem?_eq_getElem (by omega)]
       rfl
      have e2:(m.sets.drop 1).take k=(m.sets.drop 1).take (k - 1) ++ [C]:=by
       have h4:=HK.out.2.2.1
       rw [show k=(k - 1)+1 by omega,List.take_add_one,hmk,show k - 1+1 - 1=k - 1 by omega]
       rfl
      have hl1:=HK.out.1.1
      rw [e2,← List.append_assoc]
      refine ⟨by rw [List.length_append,hl1,HQ.out.1];rfl,by rw [List.flatMap_append];simpa [cls4] using hown5,?_⟩
      have hc:Chg (fun k=>w.heap.size≤k) (wr.alloc (.cells #[.int .u64 (C 0:Nat),.int .u64 (C 1:Nat),.int .u64 (C 2:Nat),.int .u64 (C 3:Nat)] 24)) w5:=(Chg.refl _ _).grown hgrow5 fun k hk _=>(World.ownsRow.lt (HO.out.alloc (.cells #[.int .u64 (C 0:Nat),.int .u64 (C 1:Nat),.int .u64 (C 2:Nat),.int .u64 (C 3:Nat)] 24)) k hk).1
      exact (bhop HK.out.1.2.2 (below_alloc wr _)).trans (hc.below (by have:=HK.out.1.2.2.size;simp;omega) fun k hk e=>by omega))
     clear hown5 hgrow5 hat5 hlt5
     go_wp2_with fail
     go_roundw
     case rel =>
      have e3:q+1=n0+(k+1 - 1):=by have:=HQ.out.1;have:=HK.out.2.2.1;omega
      exact ⟨k+1,by push_cast;rfl,by omega,HK.out.2.2.2,some ⟨g5,0,none⟩,cap5,by rw [← e3],by rw [← e3];exact hN.out⟩
     case measure=>have:=HK.out.2.2.2;simp;omega
    ·have u2:¬ (k:Int)<(n:Int):=by omega
     obtain rfl:k=n:=by omega
     have HE:=Lib.hid (show SR w (setsL (xs.take (i+1))) (n0+(k - 1)) wr A c5 from by
      rw [setsL_take HI.out.2.2.2.2.2.2.2.1]
      rw [List.take_of_length_le (l:=m.sets.drop 1) (by have h1:=HI.out.1;have h2:=HI.out.2.2.2.2.2.1;rw [List.length_drop];omega)] at hS
      exact hS)
     clear hS
     go_wp2_with fail
     go_roundw
     case rel=>exact ⟨i+1,by push_cast;rfl,HI.out.2.2.2.2.2.2.2.2.2.2,A,_,c5,rfl,HE.out⟩
     case measure=>have:=HI.out.2.2.2.2.2.2.2.2.2.2;simp;omega
  ·have s2:¬ (i:Int)<(N:Int):=by omega
   have hE:xs.take i=xs:=List.take_of_length_le (by have:=H.out.2.2.1;omega)
   rw [hE] at hS0
   have hn0:=hS0.1
   subst hn0
   have HE:=Lib.hid hS0
   clear hS0 hE
   go_wp2_with fail
   go_ret
   exact ⟨A0,⟨c0,rfl⟩,HE.out.row,HE.out.2.2⟩
theorem cl_setsL {w:World} {A:Option Addr} {xs:List (Au×PM)} (h:AusR w A xs) (t:Nat):Cl ((setsL xs).getD t zeros):=by
 rw [List.getD_eq_getElem?_getD]
 cases e:(setsL xs)[t]? with
 | none=>exact cl_zero
 | some C =>
  obtain ⟨x,hx,hC⟩:=List.mem_flatMap.1 (List.mem_of_getElem? e)
  obtain ⟨i,hi⟩:=List.mem_iff_getElem?.1 hx
  obtain ⟨_,_,_,_,hCl,_⟩:=h i x hi
  exact hCl C (List.mem_of_mem_drop hC)
set_option maxHeartbeats 8000000 in
set_option maxRecDepth 100000 in
theorem plain13_all (w:World) (g c:Nat) (xs:List (Au×PM)) (h:AusR w (some ⟨g,0,none⟩) xs) (hx:xs.length≤20) (b:Nat) (hb:b<256) :
  Calls Tryd.prog 11 #[.slice (some ⟨g,0,none⟩) xs.length c,.int .i64 b] w fun e w'=>e=.returned (.int .i64 ((fst (AlR (setsL xs)) b:Nat):Int))∧Below w.heap.size w w':=by
 have HS:=Lib.hid (sets13_all w g c xs h hx)
 have hfew:=setsL_few (w:=w) (A:=none) (aus_few h)
 have hal:=alike_AlR (setsL xs)
 obtain ⟨n,hn⟩ : ∃ n,n=(setsL xs).length:=⟨_,rfl⟩
 have HT:=Lib.hid (fun (W:World) (A:Option Addr) (c:Nat) (x:Nat) (hxx:x<256) (hrow:ClassRow W A n (fun t=>(setsL xs).getD t zeros))=>show Calls Tryd.prog 18 #[.slice A n c,.int .i64 x,.int .i64 b] W (fun e w'=>e=.returned (.bool (AlR (setsL xs) x b))∧Below W.heap.size W w') from by
  have:=together_any A n c x b _ W hrow (fun t=>cl_setsL h t) (by omega) hxx hb
  rw [rel_alR (S:=setsL xs) hn.symm (fun t _=>rfl)] at this
  exact this)
 obtain ⟨N,hN⟩ : ∃ N,N=xs.length:=⟨_,rfl⟩
 rw [← hN] at HS ⊢
 rw [← hn] at HS
 obtain ⟨L,hL⟩ : ∃ L,L=fun t=>(setsL xs).getD t zeros:=⟨_,rfl⟩
 obtain ⟨r,hr⟩ : ∃ r,r=AlR (setsL xs):=⟨_,rfl⟩
 rw [← hr] at HT hal ⊢
 rw [← hL] at HT HS
 have HB:=Lib.hid (And.intro hal hb)
 clear h hx hfew hal hn hr hL hN
 go_enter Tryd.func11,Tryd.ntmps11
 go_wp2_with fail
 go_at_call 8
 refine HS.out.mono ?_
 rintro e w2 ⟨A,c2,rfl,hrow,hb2⟩
 have H2:=Lib.hid (And.intro hrow hb2)
 clear hrow hb2
 go_wp2_with fail
 go_loopw [6] (fun v6 wr=>∃ x:Nat,v6=.int .i64 x∧x≤b∧(∀ t,t<x→r t b=false)∧Below w2.heap.size w2 wr) (fun v6 _=>match v6 with | .int _ z=>b - z.toNat | _=>0)
 case atStart=>exact ⟨0,rfl,Nat.zero_le _,fun t ht=>by omega,Below.refl _ _⟩
 case round =>
  obtain ⟨x,rfl,hxb,hall,hbw⟩:=hrel
  by_cases hlt:x<b
  ·have s2:(x:Int)<(b:Int):=by omega
   have wx:IntKind.i64.wrap ((x:Int)+1)=(x:Int)+1:=by have:=HB.out.2;rw [IntKind.wrap_i64];omega
   have HI:=Lib.hid (And.intro hall (And.intro hbw (show x+1≤b from hlt)))
   clear hall hbw hxb hlt
   go_wp2_with fail
   go_at_call 18
   refine (HT.out wr A c2 x (by have:=HB.out.2;have:=HI.out.2.2;omega) (H2.out.1.below HI.out.2.1)).mono ?_
   rintro e w4 ⟨rfl,hb4⟩
   have HB4:=Lib.hid (bhop HI.out.2.1 hb4)
   clear hb4
   cases he:r x b with
   | true =>
    have HE:=Lib.hid (fst_some HB.out.1 (show x<b by have:=HI.out.2.2;omega) HI.out.1 he)
    go_wp2_with fail
    go_ret
    exact ⟨by rw [HE.out];rfl,bhop H2.out.2 HB4.out⟩
   | false =>
    have HE:=Lib.hid (show ∀ t,t<x+1→r t b=false from fun t ht=>by
     by_cases htx:t<x
     ·exact HI.out.1 t htx
     ·obtain rfl:t=x:=by omega
      exact he)
    go_wp2_with fail
    go_roundw
    case rel=>exact ⟨x+1,by push_cast;rfl,HI.out.2.2,HE.out,HB4.out⟩
    case measure=>have:=HI.out.2.2;simp;omega
  ·have s2:¬ (x:Int)<(b:Int):=by omega
   obtain rfl:x=b:=by omega
   have HE:=Lib.hid (And.intro (fst_none HB.out.1 hall) hbw)
   clear hall hbw
   go_wp2_with fail
   go_ret
   exact ⟨by rw [HE.out.1];rfl,bhop H2.out.2 HE.out.2⟩
end Go.Proofs.YtbohmcfplgdlpaaDoor.Lc

/- letters.Byte: contracts.
   Conditions: the letters' sets lie in memory, each byte's letter is told by a relation. -/
namespace Go.Proofs.YtbohmcfplgdlpaaDoor.Lc
open Go.RowKit
theorem byte_hit {r:Nat→Nat→Bool} {i:Nat} (hi:i<news r 256):∃ b,b<256∧fst r b=b∧nm r b=i:=by
 obtain ⟨b,h1,h2,h3⟩:=news_hit (r:=r) 256 i hi
 exact ⟨b,h1,h2,by rw [nm_new b h2,h3]⟩
set_option maxHeartbeats 8000000 in
set_option maxRecDepth 100000 in
theorem byte_any (w:World) (r:Nat→Nat→Bool) (g M:Nat) (hal:Alike r) (hM:M=news r 256) (hrow:ClassRow w (some ⟨g,0,none⟩) M (partOf r)) (b:Nat) (hb:b<256) (hbn:fst r b=b) :
  Calls Tryd.prog 9 #[.agg (ltA (.slice (some ⟨g,0,none⟩) M M) (nm r)),.int .i64 ((nm r b:Nat):Int)] w fun e w'=>e=.returned (.tuple #[.int .u8 (b:Int),.bool true])∧Below w.heap.size w w':=by
 obtain ⟨cx,hcx⟩ : ∃ cx,cx=ltA (.slice (some ⟨g,0,none⟩) M M) (nm r):=⟨_,rfl⟩
 have HX0:=Lib.hid (show LtrB (w.alloc (.cells cx 44)) w.heap.size (.slice (some ⟨g,0,none⟩) M M) (nm r) from by rw [hcx];exact heap_alloc_new w _)
 have hb1:Below w.heap.size w (w.alloc (.cells cx 44)):=(Below.refl _ _).alloc (Nat.le_refl _) _
 have HL:=Lib.hid (show Calls Tryd.prog 20 #[.slice (some ⟨g,0,none⟩) M M,.int .i64 ((nm r b:Nat):Int)] (w.alloc (.cells cx 44)) (fun e w2=>e=.returned (.tuple #[.int .u8 (b:Int),.bool true])∧Below (w.alloc (.cells cx 44)).heap.size (w.alloc (.cells cx 44)) w2) from by
  have:=leastS_any _ g 0 M M (partOf r) (hrow.below hb1) (fun t=>Cl_partOf r t) (nm r b) (by rw [hM];exact nm_lt hal hb)
  rw [lst_part hal hb,hbn] at this
  exact this)
 have HB1:=Lib.hid hb1
 rw [← hcx]
 have sv:=HX0.out.sv
 clear hcx hrow hb1 hal hM hbn
 go_enter Tryd.func9,Tryd.ntmps9
 go_wp2_with fail
 go_at_call 20
 refine HL.out.mono ?_
 rintro e w2 ⟨rfl,hb2⟩
 have HB:=Lib.hid (bhop HB1.out hb2)
 clear hb2 sv
 go_wp2_with fail
 go_ret2
 exact ⟨rfl,HB.out⟩
set_option maxHeartbeats 8000000 in
set_option maxRecDepth 100000 in
theorem byte_no (w:World) (f:Nat→Nat) (g M:Nat) (i:Int) (hi:i<0∨(M:Int)≤i) :
  Calls Tryd.prog 9 #[.agg (ltA (.slice (some ⟨g,0,none⟩) M M) f),.int .i64 i] w fun e w'=>e=.returned (.tuple #[.int .u8 0,.bool false])∧Below w.heap.size w w':=by
 obtain ⟨cx,hcx⟩ : ∃ cx,cx=ltA (.slice (some ⟨g,0,none⟩) M M) f:=⟨_,rfl⟩
 have HX0:=Lib.hid (show LtrB (w.alloc (.cells cx 44)) w.heap.size (.slice (some ⟨g,0,none⟩) M M) f from by rw [hcx];exact heap_alloc_new w _)
 have HB1:=Lib.hid (show Below w.heap.size w (w.alloc (.cells cx 44)) from (Below.refl _ _).alloc (Nat.le_refl _) _)
 have HL:=Lib.hid (least_no (w.alloc (.cells cx 44)) (some ⟨g,0,none⟩) M M i hi)
 rw [← hcx]
 have sv:=HX0.out.sv
 clear hcx hi
 go_enter Tryd.func9,Tryd.ntmps9
 go_wp2_with fail
 go_at_call 20
 refine HL.out.mono ?_
 rintro e w2 ⟨rfl,hb2⟩
 have HB:=Lib.hid (bhop HB1.out hb2)
 clear hb2 sv
 go_wp2_with fail
 go_ret2
 exact ⟨rfl,HB.out⟩
end Go.Proofs.YtbohmcfplgdlpaaDoor.Lc
