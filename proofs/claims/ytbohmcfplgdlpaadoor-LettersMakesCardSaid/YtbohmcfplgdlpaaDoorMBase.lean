/- What the reader comes to on a whole text: a contract.
   Conditions: the text has at most 400 bytes. -/
import Derived.KernelRfl
import Derived.Test.YtbohmcfplgdlpaaDoorRows
import Derived.WalkKit
import Derived.WalkSpells
import Derived.WalkLawsBesides
import Derived.ChangeKeysEq
import Derived.Lib.Hide
import Derived.Deep.LoopGhost
import Derived.RegionTactic
import Derived.BigRegion
import Derived.ChangeAlike
import Derived.Deep.MidRow
import Derived.Deep.QuietTactic
import Derived.BigQuiet
import Derived.IntWalk
import Derived.Lib.Bytealg
import Derived.Deep.AppendLies
import Derived.WalkSmall
import Derived.Deep.RegionLaw
import Derived.Deep.RegionWith

/- Plain facts on sets of bytes as four words of 64 bits: no program is spoken of here.
   No conditions but those that each theorem states. -/
namespace Go.Proofs.YtbohmcfplgdlpaaDoor
def Cl (C:Nat→Nat):Prop:=∀ i,C i<18446744073709551616
def hasB (C:Nat→Nat) (b:Nat):Bool:=(C (b / 64)).testBit (b % 64)
def same4 (A B:Nat→Nat):Prop:=A 0=B 0∧A 1=B 1∧A 2=B 2∧A 3=B 3
theorem pow64:(2:Nat) ^ 64=18446744073709551616:=by decide
theorem Cl.lt {C:Nat→Nat} (h:Cl C) (i:Nat):C i<2 ^ 64:=by rw [pow64];exact h i
theorem Cl.mk {C:Nat→Nat} (h:∀ i,C i<2 ^ 64):Cl C:=fun i=>by rw [← pow64];exact h i
theorem word_eq {a b:Nat} (ha:a<2 ^ 64) (hb:b<2 ^ 64) (h:∀ j,j<64→a.testBit j=b.testBit j):a=b:=by
 apply Nat.eq_of_testBit_eq
 intro j
 by_cases hj:j<64
 ·exact h j hj
 ·have hp:2 ^ 64≤2 ^ j:=Nat.pow_le_pow_right (by decide) (by omega)
  rw [Nat.testBit_lt_two_pow (Nat.lt_of_lt_of_le ha hp),Nat.testBit_lt_two_pow (Nat.lt_of_lt_of_le hb hp)]
theorem word_eq' {A B:Nat→Nat} (hA:Cl A) (hB:Cl B) {i:Nat} (hi:i<4) (h:∀ b,b<256→hasB A b=hasB B b):A i=B i:=by
 apply word_eq (hA.lt i) (hB.lt i)
 intro j hj
 have:=h (64 * i+j) (by omega)
 unfold hasB at this
 rw [show (64 * i+j) / 64=i by omega,show (64 * i+j) % 64=j by omega] at this
 exact this
theorem ext4 {A B:Nat→Nat} (hA:Cl A) (hB:Cl B) (h:∀ b,b<256→hasB A b=hasB B b):same4 A B :=
 ⟨word_eq' hA hB (by decide) h,word_eq' hA hB (by decide) h,word_eq' hA hB (by decide) h,word_eq' hA hB (by decide) h⟩
def cnt (C:Nat→Nat) (n:Nat):Nat:=(List.range n).countP (hasB C)
theorem hasB_at (C:Nat→Nat) (i k:Nat) (hk:k<64):hasB C (64 * i+k)=decide (C i / 2 ^ k % 2=1):=by
 unfold hasB
 rw [show (64 * i+k) / 64=i by omega,show (64 * i+k) % 64=k by omega,Nat.testBit_eq_decide_div_mod_eq]
theorem hasB_div (C:Nat→Nat) (b:Nat):hasB C b=decide (C (b / 64) / 2 ^ (b % 64) % 2=1):=by
 unfold hasB
 rw [Nat.testBit_eq_decide_div_mod_eq]
theorem shr_succ (x k:Nat):x / 2 ^ k / 2=x / 2 ^ (k+1):=by rw [Nat.div_div_eq_div_mul,Nat.pow_succ]
theorem shr_zero_add {x k:Nat} (h:x / 2 ^ k=0) (j:Nat):x / 2 ^ (k+j)=0:=by
 rw [Nat.pow_add,← Nat.div_div_eq_div_mul,h];simp
theorem shr_lt {C:Nat→Nat} (hC:Cl C) {i k:Nat} (h:¬ C i / 2 ^ k=0):k<64:=by
 by_cases hk:k<64
 ·exact hk
 ·exfalso
  apply h
  have hp:2 ^ 64≤2 ^ k:=Nat.pow_le_pow_right (by decide) (by omega)
  exact Nat.div_eq_of_lt (Nat.lt_of_lt_of_le (hC.lt i) hp)
def lst (C:Nat→Nat):Nat→Option Nat
 | 0=>none
 | n+1=>match lst C n with
  | some x=>some x
  | none=>if hasB C n then some n else none
theorem lst_none {C:Nat→Nat} {n:Nat} (h:∀ b,b<n→hasB C b=false):lst C n=none:=by
 induction n with
 | zero=>rfl
 | succ n ih=>unfold lst;rw [ih fun b hb=>h b (by omega),h n (by omega)];rfl
theorem lst_some {C:Nat→Nat} {m:Nat} (h:∀ b,b<m→hasB C b=false) (hm:hasB C m=true) (n:Nat) (hn:m<n):lst C n=some m:=by
 induction n with
 | zero=>omega
 | succ n ih =>
  unfold lst
  by_cases e:m=n
  ·subst e;rw [lst_none h,hm];rfl
  ·rw [ih (by omega)]
end Go.Proofs.YtbohmcfplgdlpaaDoor

/- What each call of the layer's small functions comes to, and that nothing which was there is changed: contracts for the proofs of the statements.
   Conditions: classes are four words below 2^64 ('Cl'), bytes below 256, as each theorem states. -/
namespace Go.Proofs.YtbohmcfplgdlpaaDoor
open Go.RowKit
theorem pick4 (C:Nat→Nat) (i:Nat) (h:i<4) : [Value.int .u64 (C 0),Value.int .u64 (C 1),Value.int .u64 (C 2),Value.int .u64 (C 3)][i]? = some (Value.int .u64 (C i)):=by
 have:i=0∨i=1∨i=2∨i=3:=by omega
 rcases this with rfl | rfl | rfl | rfl <;> rfl
theorem info23:(Tryd.prog.info? 22).map (fun i=>(i.zero,i.size,i.bytes))=some (some (.int .u64 0),1,8):=by kernel_rfl
theorem cells24:Tryd.prog.cellsOf 22=1:=by kernel_rfl
theorem run_equal4 (w:World) (a0 a1 a2 a3 b0 b1 b2 b3:Int) :
  (Op.equalIn 10000 24 (.agg #[.int .u64 a0,.int .u64 a1,.int .u64 a2,.int .u64 a3]) (.agg #[.int .u64 b0,.int .u64 b1,.int .u64 b2,.int .u64 b3])).run Tryd.prog w=.ok (a0 == b0 && (a1 == b1 && (a2 == b2 && a3 == b3))) w:=by
 obtain ⟨i0,hi,_,_,_⟩:=info_parts info23
 have q:∀ (w':World) (a b:Int),(Op.equalIn 9999 22 (.int .u64 a) (.int .u64 b)).run Tryd.prog w'=.ok (a == b) w':=fun w' a b=>run_equalIn_int w' 9998 22 .u64 .u64 a b Tryd.underlying22
 rw [run_equalIn_array w 9999 _ _ Tryd.underlying24 hi,cells24,show List.range 4=[0,1,2,3] from rfl]
 simp only [Op.eqItems,Sem.run_bind]
 simp only [part,isAgg,run_underlying Tryd.underlying22,Sem.run_bind,Result.andThen_ok]
 simp
 simp only [q,Result.andThen_ok]
 cases (a0 == b0) <;> cases (a1 == b1) <;> cases (a2 == b2) <;> cases (a3 == b3) <;> rfl
end Go.Proofs.YtbohmcfplgdlpaaDoor

/- What each call of the layer's functions with loops comes to: a byte's membership by halving, sizes, the least byte: contracts for the proofs of the statements.
   Conditions: classes are four words below 2^64 ('Cl'), bytes below 256, as each theorem states. -/
namespace Go.Proofs.YtbohmcfplgdlpaaDoor
open Go.RowKit
theorem ret_bool {a b:Bool} (h:a=b):Ending.returned (.bool a)=.returned (.bool b):=by rw [h]
theorem wrapu {x:Nat} (h:x<18446744073709551616):IntKind.u64.wrap ((x:Int) / 2)=(x:Int) / 2:=by rw [IntKind.wrap_u64];omega
theorem odd_hasB {C:Nat→Nat} {b x k:Nat} (h:x=C (b / 64) / 2 ^ k) (hk:k=b % 64):((x:Int) % 2 == 1)=hasB C b:=by
 rw [hasB_div,← hk,← h]
 rcases Nat.mod_two_eq_zero_or_one x with e | e
 ·have:(x:Int) % 2=0:=by omega
  simp [this,e]
 ·have:(x:Int) % 2=1:=by omega
  simp [this,e]
theorem shr_bound {C:Nat→Nat} (hC:Cl C) (i k:Nat):C i / 2 ^ k<18446744073709551616:=Nat.lt_of_le_of_lt (Nat.div_le_self _ _) (hC i)
theorem and_one_nat {x:Nat} (h:x<18446744073709551616):bits .and .u64 (x:Int) 1=(x:Int) % 2:=and_one_u64 _ (Int.natCast_nonneg _) (by omega)
theorem idx0 (C:Nat→Nat) (w:World):(Instr.index 24 (.agg #[.int .u64 (C 0:Nat),.int .u64 (C 1:Nat),.int .u64 (C 2:Nat),.int .u64 (C 3:Nat)]) (.int .i64 0)).run Tryd.prog w=.ok (.int .u64 (C 0:Nat)) w:=by kernel_rfl
theorem idx1 (C:Nat→Nat) (w:World):(Instr.index 24 (.agg #[.int .u64 (C 0:Nat),.int .u64 (C 1:Nat),.int .u64 (C 2:Nat),.int .u64 (C 3:Nat)]) (.int .i64 1)).run Tryd.prog w=.ok (.int .u64 (C 1:Nat)) w:=by kernel_rfl
theorem idx2 (C:Nat→Nat) (w:World):(Instr.index 24 (.agg #[.int .u64 (C 0:Nat),.int .u64 (C 1:Nat),.int .u64 (C 2:Nat),.int .u64 (C 3:Nat)]) (.int .i64 2)).run Tryd.prog w=.ok (.int .u64 (C 2:Nat)) w:=by kernel_rfl
theorem idx3 (C:Nat→Nat) (w:World):(Instr.index 24 (.agg #[.int .u64 (C 0:Nat),.int .u64 (C 1:Nat),.int .u64 (C 2:Nat),.int .u64 (C 3:Nat)]) (.int .i64 3)).run Tryd.prog w=.ok (.int .u64 (C 3:Nat)) w:=by kernel_rfl
theorem idx_at (C:Nat→Nat) (k:Nat) (h:k<4) (w:World):(Instr.index 24 (.agg #[.int .u64 (C 0:Nat),.int .u64 (C 1:Nat),.int .u64 (C 2:Nat),.int .u64 (C 3:Nat)]) (.int .i64 k)).run Tryd.prog w=.ok (.int .u64 (C k:Nat)) w:=by
 match k,h with
 | 0,_=>exact idx0 C w
 | 1,_=>exact idx1 C w
 | 2,_=>exact idx2 C w
 | 3,_=>exact idx3 C w
set_option maxHeartbeats 400000 in
set_option maxRecDepth 100000 in
theorem rhas_any (C:Nat→Nat) (b:Nat) (w:World) (hC:Cl C) (hb:b<256) :
  Calls Tryd.prog 10 #[.agg #[.int .u64 (C 0:Nat),.int .u64 (C 1:Nat),.int .u64 (C 2:Nat),.int .u64 (C 3:Nat)],.int .i64 b] w fun e w'=>e=.returned (.bool (hasB C b))∧Below w.heap.size w w':=by
 have hc:=pick4 C (b / 64) (by omega)
 go_enter Tryd.func10,Tryd.ntmps10
 go_wp2
 go_loop [5,6] (fun v i=>∃ k x:Nat,k≤b % 64∧x=C (b / 64) / 2 ^ k∧v=.int .u64 x∧i=.int .i64 k) (fun _ i=>b % 64 - (intOf i).toNat)
 case atStart=>exact ⟨0,_,Nat.zero_le _,by simp,rfl,rfl⟩
 case round =>
  obtain ⟨k,x,hk,hx,rfl,rfl⟩:=hrel
  have HX:=Lib.hid hx
  have hw:IntKind.u64.wrap ((x:Int) / 2)=(x:Int) / 2:=wrapu (by rw [hx];exact shr_bound hC _ _)
  clear hx
  by_cases hlt:k<b % 64
  ·go_wp2
   go_round
   case rel=>exact ⟨k+1,x / 2,by omega,by rw [HX.out,shr_succ],by go_num,by go_num⟩
   case measure=>simp [intOf];omega
  ·have hke:k=b % 64:=by omega
   have hr:=odd_hasB HX.out hke
   go_wp2
   go_ret
   exact ⟨rfl,(Below.refl _ _).alloc (Nat.le_refl _) _⟩
end Go.Proofs.YtbohmcfplgdlpaaDoor

/- What the calls that make classes come to: contracts for the proofs of the statements.
   Conditions: classes are four words below 2^64 ('Cl'), bytes below 256, as each theorem states. -/
namespace Go.Proofs.YtbohmcfplgdlpaaDoor
open Go.RowKit
def setOf (S:Nat→Prop) (C:Nat→Nat):Prop:=Cl C∧∀ b,b<256→(hasB C b=true↔S b)
def GivesSet (S:Nat→Prop) (w:World) (e:Ending) (w':World):Prop:=∃ C:Nat→Nat,setOf S C∧e=.returned (.agg #[.int .u64 (C 0:Nat),.int .u64 (C 1:Nat),.int .u64 (C 2:Nat),.int .u64 (C 3:Nat)])∧Below w.heap.size w w'
def zeros (_:Nat):Nat:=0
theorem setOf_zeros {S:Nat→Prop} (h:∀ b,b<256→¬ S b):setOf S zeros :=
 ⟨fun _=>by unfold zeros;omega,fun b hb=>by unfold hasB zeros;simp [h b hb]⟩
def put (C:Nat→Nat) (b:Nat) (i:Nat):Nat:=if i=b / 64 then C i ||| 2 ^ (b % 64) else C i
theorem pow_lt (b:Nat):2 ^ (b % 64)<18446744073709551616:=by
 have:2 ^ (b % 64)<2 ^ 64:=Nat.pow_lt_pow_right (by decide) (Nat.mod_lt _ (by decide))
 rwa [pow64] at this
theorem Cl_put {C:Nat→Nat} (h:Cl C) (b:Nat):Cl (put C b):=Cl.mk fun i=>by
 unfold put
 split
 ·exact Nat.or_lt_two_pow (h.lt i) (by rw [pow64];exact pow_lt b)
 ·exact h.lt i
theorem hasB_put (C:Nat→Nat) (b x:Nat):hasB (put C b) x=true↔hasB C x=true∨x=b:=by
 unfold hasB put
 by_cases e:x / 64=b / 64
 ·rw [if_pos e,Nat.testBit_or,Nat.testBit_two_pow]
  simp
  constructor
  ·rintro (h | h)
   ·exact .inl h
   ·exact .inr (by omega)
  ·rintro (h | h)
   ·exact .inl h
   ·exact .inr (by omega)
 ·rw [if_neg e]
  constructor
  ·exact .inl
  ·rintro (h | h)
   ·exact h
   ·subst h;exact absurd rfl e
theorem setOf_put {S T:Nat→Prop} {C:Nat→Nat} {b:Nat} (h:setOf S C) (hT:∀ x,x<256→(T x↔S x∨x=b)):setOf T (put C b) :=
 ⟨Cl_put h.1 b,fun x hx=>by rw [hasB_put,h.2 x hx,hT x hx]⟩
theorem v_pow (b:Nat):IntKind.u64.wrap ((2:Int) ^ (b % 64))=((2 ^ (b % 64):Nat):Int):=by
 have e:((2:Int) ^ (b % 64))=((2 ^ (b % 64):Nat):Int):=by simp
 have l:=pow_lt b
 rw [e,IntKind.wrap_u64]
 generalize 2 ^ (b % 64)=x at l
 omega
theorem i64_and63 (n:Int):bits .and .i64 n 63=n % 64:=by
 have h63:(BitVec.ofInt 64 63).toNat=2 ^ 6 - 1:=by decide
 have key:(BitVec.ofInt 64 n &&& BitVec.ofInt 64 63).toNat=(n % ((2 ^ 64:Nat):Int)).toNat % 2 ^ 6:=by
  rw [BitVec.toNat_and,BitVec.toNat_ofInt,h63,Nat.and_two_pow_sub_one_eq_mod]
 show IntKind.i64.wrap ((BitVec.ofInt 64 n &&& BitVec.ofInt 64 63).toNat:Nat)=n % 64
 rw [key,IntKind.wrap_i64]
 omega
end Go.Proofs.YtbohmcfplgdlpaaDoor

/- Classes that lie in memory: four cells of a block, read, stored into, and carried on. Plain facts on worlds.
   Conditions: those that each theorem states. -/
namespace Go.Proofs.YtbohmcfplgdlpaaDoor
open Go.RowKit
def Cells (w:World) (b:Nat) (C:Nat→Nat):Prop:=∀ j,j<4→w.cell? ⟨b,j,none⟩=some (.int .u64 (C j:Nat))
def Free (w:World) (b:Nat):Prop:=∀ j,j<4→w.frozen? ⟨b,j,none⟩=false
def IsVar (w:World) (H:Nat) (x:Value) (b:Nat) (E:Nat→Nat):Prop:=x=.pointer (some ⟨b,0,none⟩)∧H≤b∧b<w.heap.size∧Cells w b E∧Free w b
theorem Cells.lt {w:World} {b:Nat} {C:Nat→Nat} (h:Cells w b C):b<w.heap.size:=World.block_lt_of_cell? _ _ (h 0 (by decide))
theorem Cells.below {w w':World} {b:Nat} {C:Nat→Nat} (h:Cells w b C) (hb:Below w.heap.size w w'):Cells w' b C:=fun j hj=>(hb.cell (p:=⟨b,j,none⟩) h.lt).trans (h j hj)
theorem Free.below {w w':World} {b:Nat} (h:Free w b) (hl:b<w.heap.size) (hb:Below w.heap.size w w'):Free w' b:=fun j hj=>(hb.frozen (p:=⟨b,j,none⟩) hl).trans (h j hj)
theorem IsVar.below {w w':World} {H b:Nat} {x:Value} {E:Nat→Nat} (h:IsVar w H x b E) (hb:Below w.heap.size w w'):IsVar w' H x b E :=
 ⟨h.1,h.2.1,Nat.lt_of_lt_of_le h.2.2.1 hb.size,h.2.2.2.1.below hb,h.2.2.2.2.below h.2.2.1 hb⟩
def store4 (w:World) (b:Nat) (C:Nat→Nat):World:=(((w.setCell ⟨b,0,none⟩ (.int .u64 (C 0:Nat))).setCell ⟨b,1,none⟩ (.int .u64 (C 1:Nat))).setCell ⟨b,2,none⟩ (.int .u64 (C 2:Nat))).setCell ⟨b,3,none⟩ (.int .u64 (C 3:Nat))
theorem addr_ne {b b' j k:Nat} (h:b≠b'∨j≠k):(⟨b,j,none⟩ : Addr)≠⟨b',k,none⟩:=by
 intro e
 injection e with e1 e2 _
 rcases h with h | h
 ·exact h e1
 ·exact h e2
theorem store4_same {w:World} {b:Nat} {C E:Nat→Nat} (h:Cells w b E):Cells (store4 w b C) b C:=by
 intro j hj
 have e0:=h 0 (by decide)
 have e1:=h 1 (by decide)
 have e2:=h 2 (by decide)
 have e3:=h 3 (by decide)
 unfold store4
 match j,hj with
 | 0,_ =>
  rw [World.cell?_setCell_other (h:=addr_ne (.inr (by decide))),World.cell?_setCell_other (h:=addr_ne (.inr (by decide))),World.cell?_setCell_other (h:=addr_ne (.inr (by decide))),World.cell?_setCell_same (h:=e0)]
 | 1,_ =>
  rw [World.cell?_setCell_other (h:=addr_ne (.inr (by decide))),World.cell?_setCell_other (h:=addr_ne (.inr (by decide))),World.cell?_setCell_same (h:=by rw [World.cell?_setCell_other (h:=addr_ne (.inr (by decide)))];exact e1)]
 | 2,_ =>
  rw [World.cell?_setCell_other (h:=addr_ne (.inr (by decide))),World.cell?_setCell_same (h:=by rw [World.cell?_setCell_other (h:=addr_ne (.inr (by decide))),World.cell?_setCell_other (h:=addr_ne (.inr (by decide)))];exact e2)]
 | 3,_ =>
  rw [World.cell?_setCell_same (h:=by rw [World.cell?_setCell_other (h:=addr_ne (.inr (by decide))),World.cell?_setCell_other (h:=addr_ne (.inr (by decide))),World.cell?_setCell_other (h:=addr_ne (.inr (by decide)))];exact e3)]
theorem store4_other {w:World} {b b':Nat} {C E:Nat→Nat} (h:Cells w b' E) (hne:b≠b'):Cells (store4 w b C) b' E:=by
 intro j hj
 unfold store4
 rw [World.cell?_setCell_other (h:=addr_ne (.inl hne)),World.cell?_setCell_other (h:=addr_ne (.inl hne)),World.cell?_setCell_other (h:=addr_ne (.inl hne)),World.cell?_setCell_other (h:=addr_ne (.inl hne))]
 exact h j hj
theorem store4_free {w:World} {b b':Nat} {C:Nat→Nat} (h:Free w b'):Free (store4 w b C) b':=by
 intro j hj
 unfold store4
 simp [h j hj]
theorem store4_size (w:World) (b:Nat) (C:Nat→Nat):(store4 w b C).heap.size=w.heap.size:=by
 unfold store4
 simp
theorem store4_below {w0 w:World} {b:Nat} {C:Nat→Nat} (h:Below w0.heap.size w0 w) (hb:w0.heap.size≤b):Below w0.heap.size w0 (store4 w b C) :=
 (((h.setCell hb _).setCell hb _).setCell hb _).setCell hb _
theorem below_alloc (w:World) (o:Obj):Below w.heap.size w (w.alloc o):=(Below.refl _ _).alloc (Nat.le_refl _) _
theorem Cells.four {w:World} {b:Nat} {C:Nat→Nat} (h:Cells w b C):w.cell? ⟨b,0,none⟩=some (.int .u64 (C 0:Nat))∧w.cell? ⟨b,1,none⟩=some (.int .u64 (C 1:Nat))∧w.cell? ⟨b,2,none⟩=some (.int .u64 (C 2:Nat))∧w.cell? ⟨b,3,none⟩=some (.int .u64 (C 3:Nat)) :=
 ⟨h 0 (by decide),h 1 (by decide),h 2 (by decide),h 3 (by decide)⟩
end Go.Proofs.YtbohmcfplgdlpaaDoor

/- What the document's own making of a class, byte by byte, comes to, and that the program is awake: contracts for the proofs of the statements.
   Conditions: classes are four words below 2^64 ('Cl'), bytes below 256, as each theorem states. -/
namespace Go.Proofs.YtbohmcfplgdlpaaDoor
open Go.RowKit
theorem add_or {x j:Nat} (hx:x<2 ^ 64) (hj:j<64) (h:x.testBit j=false):(x+2 ^ j) % 2 ^ 64=x ||| 2 ^ j:=by
 have hp:2 ^ j<2 ^ 64:=Nat.pow_lt_pow_right (by decide) hj
 have ha:BitVec.ofNat 64 x &&& BitVec.ofNat 64 (2 ^ j)=0#64:=by
  apply BitVec.eq_of_getLsbD_eq
  intro i hi
  rw [BitVec.getLsbD_and,BitVec.getLsbD_ofNat,BitVec.getLsbD_ofNat,Nat.testBit_two_pow]
  by_cases e:j=i
  ·subst e;simp [h]
  ·simp [e]
 have e:=congrArg BitVec.toNat (BitVec.add_eq_or_of_and_eq_zero _ _ ha)
 rw [BitVec.toNat_add,BitVec.toNat_or,BitVec.toNat_ofNat,BitVec.toNat_ofNat,Nat.mod_eq_of_lt hx,Nat.mod_eq_of_lt hp] at e
 exact e
theorem add_put {C:Nat→Nat} (hC:Cl C) {b:Nat} (h:hasB C b=false):IntKind.u64.wrap ((C (b / 64):Int)+((2 ^ (b % 64):Nat):Int))=((put C b (b / 64):Nat):Int):=by
 have e:=add_or (hC.lt (b / 64)) (Nat.mod_lt b (by decide)) (by unfold hasB at h;exact h)
 unfold put
 rw [if_pos rfl,← e,IntKind.wrap_u64,pow64]
 omega
theorem dbl {k x:Nat} (hx:x=2 ^ k) (hk:k<63):IntKind.u64.wrap ((x:Int) * 2)=(x:Int) * 2:=by
 have:x<2 ^ 63:=by rw [hx];exact Nat.pow_lt_pow_right (by decide) hk
 have e:(2:Nat) ^ 63=9223372036854775808:=by decide
 rw [e] at this
 rw [IntKind.wrap_u64]
 omega
theorem cells_put {w1:World} {B:Nat} {C:Nat→Nat} (hc:∀ j,j<4→w1.cell? ⟨B,j,none⟩=some (.int .u64 (C j))) {b:Nat} {v:Int} (hv:v=(put C b (b / 64):Nat)) :
  ∀ j,j<4→(w1.setCell ⟨B,b / 64,none⟩ (.int .u64 v)).cell? ⟨B,j,none⟩=some (.int .u64 (put C b j:Nat)):=by
 intro j hj
 by_cases e:j=b / 64
 ·subst e
  rw [World.cell?_setCell_same (h:=hc _ hj),hv]
 ·rw [World.cell?_setCell_other (h:=by intro h;injection h with _ h2 _;exact e h2.symm),hc j hj]
  unfold put
  rw [if_neg e]
theorem bcell {W w1:World} (hb:Below W.heap.size W w1):(∀ b o,b<W.heap.size→w1.cell? ⟨b,o,none⟩=W.cell? ⟨b,o,none⟩)∧(∀ b o,b<W.heap.size→w1.frozen? ⟨b,o,none⟩=W.frozen? ⟨b,o,none⟩) :=
 ⟨fun b o h=>hb.cell (p:=⟨b,o,none⟩) h,fun b o h=>hb.frozen (p:=⟨b,o,none⟩) h⟩
set_option maxHeartbeats 1000000 in
set_option maxRecDepth 100000 in
theorem put_any (C:Nat→Nat) (b:Nat) (w:World) (hC:Cl C) (hb:b<256) :
  Calls Tryd.prog 30 #[.agg #[.int .u64 (C 0:Nat),.int .u64 (C 1:Nat),.int .u64 (C 2:Nat),.int .u64 (C 3:Nat)],.int .i64 b] w (GivesSet (fun x=>hasB C x=true∨x=b) w):=by
 have hp:=pick4 C (b / 64) (by omega)
 by_cases hh:hasB C b=true
 ·go_enter Tryd.func30,Tryd.ntmps30
  go_wp2_with (go_at_call 10;refine (rhas_any C b _ hC hb).mono ?_;rintro e w1 ⟨rfl,hb1⟩;obtain ⟨hc,hf⟩:=bcell hb1)
  refine bodyPost_ret (v:=.agg #[.int .u64 (C 0:Nat),.int .u64 (C 1:Nat),.int .u64 (C 2:Nat),.int .u64 (C 3:Nat)]) (by simp [results,Tryd.results30,go_sem,hc]) rfl ⟨C,⟨hC,fun x hx=>?_⟩,rfl,?_⟩
  ·constructor
   ·exact .inl
   ·rintro (h | h)
    ·exact h
    ·subst h;exact hh
  ·exact (((((((Below.refl _ _).alloc (Nat.le_refl _) _).alloc (by simp) _).trans (hb1.mono (by simp;omega))).setCell (by simp) _).setCell (by simp) _).setCell (by simp) _).setCell (by simp) _
 ·have hf0:hasB C b=false:=by simpa using hh
  go_enter Tryd.func30,Tryd.ntmps30
  go_wp2_with (go_at_call 10;refine (rhas_any C b _ hC hb).mono ?_;rintro e w1 ⟨rfl,hb1⟩;obtain ⟨hc,hf⟩:=bcell hb1)
  have HC:=Lib.hid hc
  have HF:=Lib.hid hf
  clear hc hf
  go_loop [5,6] (fun v i=>∃ k x:Nat,k≤b % 64∧x=2 ^ k∧v=.int .u64 x∧i=.int .i64 k) (fun _ i=>b % 64 - (intOf i).toNat)
  case atStart=>exact ⟨0,1,Nat.zero_le _,rfl,rfl,rfl⟩
  case round =>
   obtain ⟨k,x,hk,hx,rfl,rfl⟩:=hrel
   have HX:=Lib.hid hx
   by_cases hlt:k<b % 64
   ·have hw:=dbl hx (by omega)
    clear hx
    go_wp2
    go_round
    case rel=>exact ⟨k+1,x * 2,by omega,by rw [HX.out,Nat.pow_succ],by go_num,by go_num⟩
    case measure=>simp [intOf];omega
   ·have hke:k=b % 64:=by omega
    have hxe:x=2 ^ (b % 64):=by rw [hx,hke]
    have hc:=HC.out
    have hf:=HF.out
    have hcs:∀ j,j<4→w1.cell? ⟨w.heap.size,j,none⟩=some (.int .u64 (C j)):=fun j hj=>by
     rw [hc _ _ (by simp;omega)]
     have:=pick4 C j hj
     simp [this]
    have hg:=cells_put hcs (v:=IntKind.u64.wrap (((C (b / 64):Nat):Int)+(x:Int))) (by rw [hxe];exact add_put hC hf0)
    have g0:=hg 0 (by decide)
    have g1:=hg 1 (by decide)
    have g2:=hg 2 (by decide)
    have g3:=hg 3 (by decide)
    clear hx hxe hg hcs
    go_wp2
    refine bodyPost_ret (v:=.agg #[.int .u64 (put C b 0:Nat),.int .u64 (put C b 1:Nat),.int .u64 (put C b 2:Nat),.int .u64 (put C b 3:Nat)]) (by simp [results,Tryd.results30,go_sem,hc]) rfl ⟨put C b,⟨Cl_put hC b,fun x _=>hasB_put C b x⟩,rfl,?_⟩
    exact ((((((((Below.refl _ _).alloc (Nat.le_refl _) _).alloc (by simp) _).trans (hb1.mono (by simp;omega))).setCell (by simp) _).setCell (by simp) _).setCell (by simp) _).setCell (by simp) _).setCell (by simp) _
end Go.Proofs.YtbohmcfplgdlpaaDoor

/- What the document's own making of a class out of 256 bools comes to: contracts for the proofs of the statements.
   Conditions: the array holds 256 bools, as the theorem states. -/
namespace Go.Proofs.YtbohmcfplgdlpaaDoor
open Go.RowKit
def Bools (w:World) (b:Nat) (s:Nat→Bool):Prop:=∀ i,i<256→w.cell? ⟨b,i,none⟩=some (.bool (s i))
theorem Bools.below {w w':World} {b:Nat} {s:Nat→Bool} (h:Bools w b s) (hb:Below w.heap.size w w'):Bools w' b s:=fun i hi =>
 (hb.cell (p:=⟨b,i,none⟩) (World.block_lt_of_cell? _ _ (h i hi))).trans (h i hi)
theorem Bools.store {w:World} {b b':Nat} {s:Nat→Bool} {C:Nat→Nat} (h:Bools w b s) (hne:b'≠b):Bools (store4 w b' C) b s:=by
 intro i hi
 unfold store4
 rw [World.cell?_setCell_other (h:=addr_ne (.inl hne)),World.cell?_setCell_other (h:=addr_ne (.inl hne)),World.cell?_setCell_other (h:=addr_ne (.inl hne)),World.cell?_setCell_other (h:=addr_ne (.inl hne))]
 exact h i hi
def MS (s:Nat→Bool) (w:World) (C:Nat→Nat) (wr:World):Prop :=
 Bools wr w.heap.size s∧Cells wr (w.heap.size+1) zeros∧Free wr (w.heap.size+1)∧Cells wr (w.heap.size+2) C∧Free wr (w.heap.size+2)∧w.heap.size+3≤wr.heap.size∧Below w.heap.size w wr
theorem MS.below {s:Nat→Bool} {w wr w':World} {C:Nat→Nat} (h:MS s w C wr) (hb:Below wr.heap.size wr w'):MS s w C w' :=
 ⟨h.1.below hb,h.2.1.below hb,h.2.2.1.below (by have:=h.2.2.2.2.2.1;omega) hb,h.2.2.2.1.below hb,h.2.2.2.2.1.below (by have:=h.2.2.2.2.2.1;omega) hb,Nat.le_trans h.2.2.2.2.2.1 hb.size,h.2.2.2.2.2.2.trans (hb.mono h.2.2.2.2.2.2.size)⟩
theorem MS.store {s:Nat→Bool} {w wr:World} {C D:Nat→Nat} (h:MS s w C wr):MS s w D (store4 wr (w.heap.size+2) D) :=
 ⟨h.1.store (by omega),store4_other h.2.1 (by omega),store4_free h.2.2.1,store4_same h.2.2.2.1,store4_free h.2.2.2.2.1,by rw [store4_size];exact h.2.2.2.2.2.1,store4_below h.2.2.2.2.2.2 (by omega)⟩
theorem cells_zero (w:World):Cells (w.alloc (.cells #[.int .u64 0,.int .u64 0,.int .u64 0,.int .u64 0] 24)) w.heap.size zeros:=by
 intro j hj
 match j,hj with
 | 0,_=>simp [zeros]
 | 1,_=>simp [zeros]
 | 2,_=>simp [zeros]
 | 3,_=>simp [zeros]
theorem free_zero (w:World):Free (w.alloc (.cells #[.int .u64 0,.int .u64 0,.int .u64 0,.int .u64 0] 24)) w.heap.size:=fun j hj=>by simp
theorem MS.start {M:Array Value} {s:Nat→Bool} {w:World} (hM:∀ i,i<256→M[i]? = some (.bool (s i))) :
  MS s w zeros (((w.alloc (.cells M 62)).alloc (.cells #[.int .u64 0,.int .u64 0,.int .u64 0,.int .u64 0] 24)).alloc (.cells #[.int .u64 0,.int .u64 0,.int .u64 0,.int .u64 0] 24)):=by
 have e1:(w.alloc (.cells M 62)).heap.size=w.heap.size+1:=by simp
 have e2:((w.alloc (.cells M 62)).alloc (.cells #[.int .u64 0,.int .u64 0,.int .u64 0,.int .u64 0] 24)).heap.size=w.heap.size+2:=by simp
 have c1:=cells_zero (w.alloc (.cells M 62))
 have f1:=free_zero (w.alloc (.cells M 62))
 have c2:=cells_zero ((w.alloc (.cells M 62)).alloc (.cells #[.int .u64 0,.int .u64 0,.int .u64 0,.int .u64 0] 24))
 have f2:=free_zero ((w.alloc (.cells M 62)).alloc (.cells #[.int .u64 0,.int .u64 0,.int .u64 0,.int .u64 0] 24))
 rw [e1] at c1 f1
 rw [e2] at c2 f2
 refine ⟨fun i hi=>?_,c1.below (below_alloc _ _),f1.below (by simp) (below_alloc _ _),c2,f2,by simp,(((Below.refl _ _).alloc (Nat.le_refl _) _).alloc (by simp) _).alloc (by simp;omega) _⟩
 have:(w.alloc (.cells M 62)).cell? ⟨w.heap.size,i,none⟩=some (.bool (s i)):=by simp [hM i hi]
 rw [← this]
 exact ((below_alloc _ _).trans ((below_alloc _ _).mono (by simp))).cell (p:=⟨w.heap.size,i,none⟩) (by simp)
set_option maxHeartbeats 1000000 in
set_option maxRecDepth 100000 in
theorem made_any (M:Array Value) (s:Nat→Bool) (w:World) (hM:∀ i,i<256→M[i]? = some (.bool (s i))) :
  Calls Tryd.prog 19 #[.agg M] w (GivesSet (fun x=>s x=true) w):=by
 have hst:=MS.start (w:=w) hM
 clear hM
 go_enter Tryd.func19,Tryd.ntmps19
 go_wp2_with fail
 go_loopw [4] (fun i wr=>∃ (k:Nat) (C:Nat→Nat),k≤256∧i=.int .i64 k∧setOf (fun x=>x<k∧s x=true) C∧MS s w C wr) (fun i _=>256 - (intOf i).toNat)
 case atStart=>exact ⟨0,zeros,Nat.zero_le _,rfl,setOf_zeros fun b _ h=>by omega,hst⟩
 case round =>
  clear hst
  obtain ⟨k,C,hk,rfl,hC,hms⟩:=hrel
  obtain ⟨c0,c1,c2,c3⟩:=hms.2.2.2.1.four
  by_cases hlt:k<256
  ·have h1:(k:Int)<256:=by omega
   have hck:=hms.1 k hlt
   cases hs:s k
   ·rw [hs] at hck
    go_wp2_with fail
    go_roundw
    case rel =>
     refine ⟨k+1,C,by omega,by go_num,⟨hC.1,fun x hx=>?_⟩,hms⟩
     rw [hC.2 x hx]
     constructor
     ·rintro ⟨h1,h2⟩;exact ⟨by omega,h2⟩
     ·rintro ⟨h1,h2⟩
      refine ⟨?_,h2⟩
      by_cases e:x=k
      ·subst e;rw [hs] at h2;cases h2
      ·omega
    case measure=>simp [intOf];omega
   ·rw [hs] at hck
    go_wp2_with fail
    go_at_call 30
    refine (put_any C k _ hC.1 hlt).mono ?_
    rintro e w2 ⟨D,hD,rfl,hb⟩
    have m2:=hms.below hb
    have m3:=m2.store (D:=D)
    obtain ⟨d0,d1,d2,d3⟩:=m2.2.2.2.1.four
    have f0:=m2.2.2.2.2.1 0 (by decide)
    have f1:=m2.2.2.2.2.1 1 (by decide)
    have f2:=m2.2.2.2.2.1 2 (by decide)
    have f3:=m2.2.2.2.2.1 3 (by decide)
    go_wp2_with fail
    go_roundw
    case rel =>
     refine ⟨k+1,D,by omega,by go_num,⟨hD.1,fun x hx=>?_⟩,m3⟩
     rw [hD.2 x hx]
     show (hasB C x=true∨x=k)↔_
     rw [hC.2 x hx]
     constructor
     ·rintro (⟨h1,h2⟩ | h)
      ·exact ⟨by omega,h2⟩
      ·subst h;exact ⟨by omega,hs⟩
     ·rintro ⟨h1,h2⟩
      by_cases e:x=k
      ·exact .inr e
      ·exact .inl ⟨by omega,h2⟩
    case measure=>simp [intOf];omega
  ·have hk6:k=256:=by omega
   subst hk6
   obtain ⟨d0,d1,d2,d3⟩:=hms.2.1.four
   have f0:=hms.2.2.1 0 (by decide)
   have f1:=hms.2.2.1 1 (by decide)
   have f2:=hms.2.2.1 2 (by decide)
   have f3:=hms.2.2.1 3 (by decide)
   go_wp2_with fail
   refine bodyPost_ret (v:=.agg #[.int .u64 (C 0:Nat),.int .u64 (C 1:Nat),.int .u64 (C 2:Nat),.int .u64 (C 3:Nat)]) (by simp [results,Tryd.results19,go_sem,d0,d1,d2,d3]) rfl ⟨C,⟨hC.1,fun x hx=>?_⟩,rfl,?_⟩
   ·rw [hC.2 x hx]
    constructor
    ·exact fun h=>h.2
    ·exact fun h=>⟨hx,h⟩
   ·exact store4_below (C:=C) hms.2.2.2.2.2.2 (by omega)
end Go.Proofs.YtbohmcfplgdlpaaDoor

/- Classes told by their bytes: the one class that has just these, and the contracts of what makes classes, said by it.
   Conditions: those that each theorem states. -/
namespace Go.Proofs.YtbohmcfplgdlpaaDoor
open Go.RowKit
def wordOf (S:Nat→Bool) (i:Nat):Nat→Nat
 | 0=>0
 | n+1=>wordOf S i n ||| (if S (64 * i+n) then 2 ^ n else 0)
theorem wordOf_bit (S:Nat→Bool) (i j:Nat):∀ n,(wordOf S i n).testBit j=(decide (j<n) && S (64 * i+j))
 | 0=>by simp [wordOf]
 | n+1=>by
  unfold wordOf
  rw [Nat.testBit_or,wordOf_bit S i j n]
  by_cases e:j=n
  ·subst e
   cases S (64 * i+j) <;> simp
  ·have hne:¬ n=j:=fun h=>e h.symm
   have h2:(if S (64 * i+n)=true then 2 ^ n else 0).testBit j=false:=by
    split
    ·rw [Nat.testBit_two_pow];simp [hne]
    ·simp
   rw [h2,Bool.or_false]
   congr 1
   rw [Bool.eq_iff_iff]
   simp
   omega
theorem wordOf_lt (S:Nat→Bool) (i:Nat):∀ n,n≤64→wordOf S i n<2 ^ 64
 | 0,_=>by unfold wordOf;decide
 | n+1,h=>by
  unfold wordOf
  refine Nat.or_lt_two_pow (wordOf_lt S i n (by omega)) ?_
  split
  ·exact Nat.pow_lt_pow_right (by decide) (by omega)
  ·decide
def canon (S:Nat→Bool) (i:Nat):Nat:=wordOf S i 64
theorem Cl_canon (S:Nat→Bool):Cl (canon S):=Cl.mk fun i=>wordOf_lt S i 64 (Nat.le_refl _)
theorem hasB_canon (S:Nat→Bool) (b:Nat):hasB (canon S) b=S b:=by
 unfold hasB canon
 rw [wordOf_bit,show 64 * (b / 64)+b % 64=b by omega]
 simp [Nat.mod_lt]
theorem same_canon {C:Nat→Nat} {S:Nat→Bool} (hC:Cl C) (h:∀ b,b<256→hasB C b=S b):same4 C (canon S) :=
 ext4 hC (Cl_canon S) fun b hb=>by rw [h b hb,hasB_canon]
def GivesClass (S:Nat→Bool) (w:World) (e:Ending) (w':World):Prop:=e=.returned (.agg #[.int .u64 (canon S 0:Nat),.int .u64 (canon S 1:Nat),.int .u64 (canon S 2:Nat),.int .u64 (canon S 3:Nat)])∧Below w.heap.size w w'
theorem gives_class {S:Nat→Bool} {P:Nat→Prop} {w:World} (hP:∀ x,x<256→(P x↔S x=true)):∀ e w',GivesSet P w e w'→GivesClass S w e w':=by
 rintro e w' ⟨C,hC,rfl,hb⟩
 have h:=same_canon (S:=S) hC.1 (fun b hb=>by rw [Bool.eq_iff_iff,hC.2 b hb,hP b hb])
 refine ⟨?_,hb⟩
 rw [h.1,h.2.1,h.2.2.1,h.2.2.2]
def between (lo hi:Nat) (x:Nat):Bool:=decide (lo≤x) && decide (x≤hi)
def boolList (s:Nat→Bool):List Value:=(List.range 256).map fun i=>Value.bool (s i)
theorem boolList_at (s:Nat→Bool) (i:Nat) (h:i<256):(boolList s)[i]? = some (.bool (s i)):=by
 unfold boolList
 rw [List.getElem?_map,List.getElem?_range h]
 rfl
theorem boolList_length (s:Nat→Bool):(boolList s).length=256:=by unfold boolList;simp
theorem made_class (s:Nat→Bool) (w:World):Calls Tryd.prog 19 #[.agg (boolList s).toArray] w (GivesClass s w) :=
 (made_any _ s w fun i hi=>by rw [List.getElem?_toArray];exact boolList_at s i hi).mono (gives_class fun _ _=>Iff.rfl)
theorem Bools.range {w:World} {b:Nat} {s:Nat→Bool} (h:Bools w b s):w.rangeAt b 0 (boolList s):=fun j v hv=>by
 have hj:j<256:=by have:=(List.getElem?_eq_some_iff.1 hv).1;rwa [boolList_length] at this
 rw [boolList_at s j hj] at hv
 rw [← hv,Nat.zero_add]
 exact h j hj
end Go.Proofs.YtbohmcfplgdlpaaDoor

/- The reader's cells in memory, what a call may change, and what the smallest calls of the reader come to.
   Conditions: those that each theorem states. -/
namespace Go.Proofs.YtbohmcfplgdlpaaDoor
open Go.RowKit
structure Chg (R:Nat→Prop) (w w':World):Prop where
 os:w'.os=w.os
 tape:w'.tape=w.tape
 output:w'.output=w.output
 size:w.heap.size≤w'.heap.size
 block:∀ k,k<w.heap.size→¬ R k→w'.heap[k]? = w.heap[k]?
theorem Chg.refl (R:Nat→Prop) (w:World):Chg R w w:=⟨rfl,rfl,rfl,Nat.le_refl _,fun _ _ _=>rfl⟩
theorem Chg.trans {R R':Nat→Prop} {a b c:World} (h:Chg R a b) (k:Chg R' b c) (hR:∀ x,x<a.heap.size→R' x→R x):Chg R a c :=
 ⟨k.os.trans h.os,k.tape.trans h.tape,k.output.trans h.output,Nat.le_trans h.size k.size,fun i hi hn=>(k.block i (Nat.lt_of_lt_of_le hi h.size) (fun h'=>hn (hR i hi h'))).trans (h.block i hi hn)⟩
theorem Chg.mono {R R':Nat→Prop} {w w':World} (h:Chg R w w') (hR:∀ x,x<w.heap.size→R x→R' x):Chg R' w w':=⟨h.os,h.tape,h.output,h.size,fun k hk hn=>h.block k hk (fun h'=>hn (hR k hk h'))⟩
theorem Chg.alloc {R:Nat→Prop} {a w:World} (h:Chg R a w) (o:Obj):Chg R a (w.alloc o) :=
 h.trans (R':=fun _=>False) ⟨rfl,rfl,rfl,by simp,fun k hk _=>Below.heap_alloc _ _ _ hk⟩ (fun _ _ h=>h.elim)
theorem Chg.setCell {R:Nat→Prop} {a w:World} (h:Chg R a w) {p:Addr} (hp:p.block<a.heap.size→R p.block) (u:Value):Chg R a (w.setCell p u) :=
 h.trans (R':=fun x=>x=p.block) ⟨rfl,rfl,rfl,by simp [World.setCell],fun k _ hn=>Below.heap_setCell _ _ _ _ hn⟩ (fun x hx e=>by subst e;exact hp hx)
theorem Chg.drewN {R:Nat→Prop} {a w:World} (h:Chg R a w) (n:Nat):Chg R a (w.drewN n):=⟨h.os,h.tape,h.output,h.size,h.block⟩
theorem Chg.drew {R:Nat→Prop} {a w:World} (h:Chg R a w):Chg R a w.drew:=⟨h.os,h.tape,h.output,h.size,h.block⟩
theorem Chg.of_below {R:Nat→Prop} {w w':World} (h:Below w.heap.size w w'):Chg R w w':=⟨h.os,h.tape,h.output,h.size,fun k hk _=>h.block k hk⟩
theorem Chg.below {R:Nat→Prop} {w w':World} (h:Chg R w w') {B:Nat} (hB:B≤w.heap.size) (hR:∀ k,k<B→¬ R k):Below B w w':=⟨h.os,h.tape,h.output,h.size,fun k hk=>h.block k (by omega) (hR k hk)⟩
theorem Chg.grown {R:Nat→Prop} {a w w':World} {row:Option Nat} (h:Chg R a w) (hg:w.grownBy w' row) (hr:∀ k,row=some k→k<a.heap.size→R k):Chg R a w' :=
 h.trans (R':=fun x=>row=some x) ⟨hg.os,hg.tape,hg.output,hg.size,fun k hk hn=>hg.block k hk (fun e=>hn e.symm)⟩ (fun x hx e=>hr x e hx)
theorem Chg.cell {R:Nat→Prop} {w w':World} (h:Chg R w w') {b:Nat} (o:Nat) (hb:b<w.heap.size) (hn:¬ R b):w'.cell? ⟨b,o,none⟩=w.cell? ⟨b,o,none⟩:=World.cell?_of_block (w:=w) (h.block b hb hn)
theorem Chg.frozen {R:Nat→Prop} {w w':World} (h:Chg R w w') {b:Nat} (o:Nat) (hb:b<w.heap.size) (hn:¬ R b):w'.frozen? ⟨b,o,none⟩=w.frozen? ⟨b,o,none⟩:=World.frozen?_of_block (w:=w) (h.block b hb hn)
theorem Chg.grownBy {w w':World} {b:Nat} (h:Chg (· = b) w w'):w.grownBy w' (some b):=⟨h.os,h.tape,h.output,h.size,fun k hk hn=>h.block k hk (fun e=>hn (by rw [e]))⟩
def txt (s:ByteArray):List Nat:=s.data.toList.map UInt8.toNat
theorem txt_length (s:ByteArray):(txt s).length=s.size:=by unfold txt;rw [List.length_map];rfl
def Tl (s:ByteArray) (k:Nat) (r:List Nat):Prop:=k+r.length=s.size∧(txt s).drop k=r
theorem Tl.start (s:ByteArray):Tl s 0 (txt s):=⟨by rw [txt_length];omega,by simp⟩
theorem Tl.nil {s:ByteArray} {k:Nat} (h:Tl s k []):k=s.size:=by have:=h.1;simpa using this
theorem Tl.lt {s:ByteArray} {k b:Nat} {r:List Nat} (h:Tl s k (b :: r)):k<s.size:=by have:=h.1;simp at this;omega
theorem Tl.at {s:ByteArray} {k b:Nat} {r:List Nat} (h:Tl s k (b :: r)):(s[k]'h.lt).toNat=b:=by
 have h1:=h.2
 have h2:(txt s)[k]? = some b:=by
  have:=congrArg (fun l:List Nat=>l[0]?) h1
  simpa using this
 unfold txt at h2
 rw [List.getElem?_map] at h2
 have h3:s.data.toList[k]? = some (s[k]'h.lt):=by
  rw [List.getElem?_eq_getElem (by simpa using h.lt)];rfl
 rw [h3] at h2
 simpa using h2
theorem Tl.tail {s:ByteArray} {k b:Nat} {r:List Nat} (h:Tl s k (b :: r)):Tl s (k+1) r:=by
 refine ⟨by have:=h.1;simp at this;omega,?_⟩
 have:=congrArg (fun l:List Nat=>l.drop 1) h.2
 simpa using this
theorem Tl.byte {s:ByteArray} {k b:Nat} {r:List Nat} (h:Tl s k (b :: r)):b<256:=by
 rw [← h.at];exact (s[k]'h.lt).toNat_lt
structure Rd (w:World) (rb:Nat) (s:ByteArray) (k:Nat) (op:Value):Prop where
 lt:rb<w.heap.size
 text:w.cell? ⟨rb,0,none⟩=some (.string s)
 pos:w.cell? ⟨rb,1,none⟩=some (.int .i64 k)
 opn:w.cell? ⟨rb,2,none⟩=some op
 frz:∀ o,w.frozen? ⟨rb,o,none⟩=false
theorem Rd.keep {R:Nat→Prop} {w w':World} {rb k:Nat} {s:ByteArray} {op:Value} (h:Rd w rb s k op) (hc:Chg R w w') (hn:¬ R rb):Rd w' rb s k op :=
 ⟨Nat.lt_of_lt_of_le h.lt hc.size,(hc.cell _ h.lt hn).trans h.text,(hc.cell _ h.lt hn).trans h.pos,(hc.cell _ h.lt hn).trans h.opn,fun o=>(hc.frozen _ h.lt hn).trans (h.frz o)⟩
theorem Rd.step {w:World} {rb k:Nat} {s:ByteArray} {op:Value} (h:Rd w rb s k op) (k':Nat) {v:Value} (hv:v=.int .i64 k'):Rd (w.setCell ⟨rb,1,none⟩ v) rb s k' op:=by
 subst hv
 exact ⟨by simp [World.setCell];exact h.lt,by rw [World.cell?_setCell_other (h:=addr_ne (.inr (by decide)))];exact h.text,World.cell?_setCell_same _ _ _ h.pos,by rw [World.cell?_setCell_other (h:=addr_ne (.inr (by decide)))];exact h.opn,fun o=>by simp [h.frz o]⟩
def Af (w:World) (rb:Nat) (s:ByteArray) (op:Value) (k:Nat) (w':World):Prop:=Rd w' rb s k op∧Chg (· = rb) w w'
theorem Af.refl {w:World} {rb k:Nat} {s:ByteArray} {op:Value} (h:Rd w rb s k op):Af w rb s op k w:=⟨h,Chg.refl _ _⟩
theorem Af.trans {a b c:World} {rb k k':Nat} {s:ByteArray} {op:Value} (h:Af a rb s op k b) (h':Af b rb s op k' c):Af a rb s op k' c:=⟨h'.1,h.2.trans h'.2 fun _ _ e=>e⟩
theorem Af.drewN {a b:World} {rb k:Nat} {s:ByteArray} {op:Value} (h:Af a rb s op k b) (n:Nat):Af a rb s op k (b.drewN n):=⟨h.1.keep ((Chg.refl (fun _=>False) _).drewN n) id,h.2.drewN n⟩
theorem Af.step {a b:World} {rb k:Nat} {s:ByteArray} {op:Value} (h:Af a rb s op k b) (k':Nat) {v:Value} (hv:v=.int .i64 k'):Af a rb s op k' (b.setCell ⟨rb,1,none⟩ v):=⟨h.1.step k' hv,h.2.setCell (fun _=>rfl) _⟩
theorem Af.alloc {a b:World} {rb k:Nat} {s:ByteArray} {op:Value} (h:Af a rb s op k b) (o:Obj):Af a rb s op k (b.alloc o):=⟨h.1.keep ((Chg.refl (fun _=>False) _).alloc o) id,h.2.alloc o⟩
theorem Af.keep {R:Nat→Prop} {a b c:World} {rb k:Nat} {s:ByteArray} {op:Value} (h:Af a rb s op k b) (hc:Chg R b c) (hR:∀ x,x<a.heap.size→¬ R x) (hr:rb<a.heap.size):Af a rb s op k c :=
 ⟨h.1.keep hc (hR rb hr),h.2.trans hc fun x hx e=>absurd e (hR x hx)⟩
theorem Af.lt {a b:World} {rb k:Nat} {s:ByteArray} {op:Value} (h:Af a rb s op k b):rb<b.heap.size:=h.1.lt
end Go.Proofs.YtbohmcfplgdlpaaDoor

/- What the reader does with a text, as plain functions on lists of numbers: no program is spoken of here.
   No conditions but those that each theorem states. -/
namespace Go.Proofs.YtbohmcfplgdlpaaDoor
inductive Out (α:Type) where
 | ok (a:α) (r:List Nat)
 | er (r:List Nat) (c:Nat)
def hexDigits:List Nat:=[48,49,50,51,52,53,54,55,56,57,97,98,99,100,101,102]
def escapables:List Nat:=[40,41,91,93,123,125,124,42,43,63,46,92,45,94]
def marks:List Nat:=[40,41,91,93,123,125,124,42,43,63,46]
def itemMarks:List Nat:=[93,45,94]
def ix:List Nat→Nat→Int
 | [],_=>-1
 | b :: l,c=>if b=c then 0 else if ix l c = -1 then -1 else ix l c+1
def hexOf (b:Nat):Nat:=(ix hexDigits b).toNat
def phex:List Nat→Out Nat
 | a :: b :: r=>if a∈hexDigits then (if b∈hexDigits then .ok (16 * hexOf a+hexOf b) r else .er (b :: r) 2) else .er (a :: b :: r) 2
 | [a]=>if a∈hexDigits then .er [] 2 else .er [a] 2
 | []=>.er [] 2
def pesc:List Nat→Out Nat
 | []=>.er [] 2
 | b :: r=>if b=120 then phex r else if b=110 then .ok 10 r else if b=116 then .ok 9 r else if b∈escapables then .ok b r else .er (b :: r) 2
def pplain (but:List Nat):List Nat→Out Nat
 | []=>.er [] 2
 | b :: r=>if b∈but then .er (b :: r) 2 else if b=92 then pesc r else .ok b r
def digs:List Nat→Nat→Nat×List Nat
 | [],n=>(n,[])
 | b :: r,n=>if 48≤b∧b≤57 then digs r (min (10 * n+(b - 48)) 2147483648) else (n,b :: r)
def pnumber (r:List Nat):Out Nat :=
 if (digs r 0).2.length=r.length then .er r 2 else if 2147483647<(digs r 0).1 then .er r 3 else .ok (digs r 0).1 (digs r 0).2
def pupper (lo:Nat):List Nat→Out Int
 | 44 :: 125 :: r=>.ok (-1) (125 :: r)
 | 44 :: r=>match pnumber r with
  | .ok n r'=>.ok n r'
  | .er r' c=>.er r' c
 | r=>.ok lo r
def pbounds (brace r:List Nat):Out (Int×Int) :=
 match pnumber r with
 | .er r' c=>.er r' c
 | .ok lo r1=>match pupper lo r1 with
  | .er r' c=>.er r' c
  | .ok hi r2=>match r2 with
   | 125 :: r3=>if hi≠-1∧(lo:Int) > hi then .er brace 2 else .ok (lo,hi) r3
   | r3=>.er r3 2
def ptimes (b:Nat) (r:List Nat):Out (Int×Int) :=
 if b=42 then .ok (0,-1) r else if b=43 then .ok (1,-1) r else if b=63 then .ok (0,1) r else pbounds (b :: r) r
def pitem (r:List Nat):Out (Nat→Bool) :=
 match pplain itemMarks r with
 | .er r' c=>.er r' c
 | .ok lo r1=>match r1 with
  | 45 :: r2=>match pplain itemMarks r2 with
   | .er r' c=>.er r' c
   | .ok hi r3=>if lo > hi then .er (45 :: r2) 2 else .ok (between lo hi) r3
  | r2=>.ok (between lo lo) r2
theorem phex_le:∀ {r:List Nat} {a:Nat} {r':List Nat},phex r=.ok a r'→r'.length<r.length
 | [],_,_,h=>by cases h
 | [a],_,_,h=>by simp only [phex] at h;split at h <;> cases h
 | a :: b :: r,_,_,h=>by
  simp only [phex] at h
  split at h
  ·split at h
   ·injection h with _ h;subst h;simp;omega
   ·cases h
  ·cases h
theorem pesc_le {r:List Nat} {a:Nat} {r':List Nat} (h:pesc r=.ok a r'):r'.length<r.length:=by
 cases r with
 | nil=>cases h
 | cons b r =>
  simp only [pesc] at h
  split at h
  ·have:=phex_le h;simp;omega
  ·split at h
   ·injection h with _ h;subst h;simp
   ·split at h
    ·injection h with _ h;subst h;simp
    ·split at h
     ·injection h with _ h;subst h;simp
     ·cases h
theorem pplain_le {but r:List Nat} {a:Nat} {r':List Nat} (h:pplain but r=.ok a r'):r'.length<r.length:=by
 cases r with
 | nil=>cases h
 | cons b r =>
  simp only [pplain] at h
  split at h
  ·cases h
  ·split at h
   ·have:=pesc_le h;simp;omega
   ·injection h with _ h;subst h;simp
theorem pitem_le {r:List Nat} {a:Nat→Bool} {r':List Nat} (h:pitem r=.ok a r'):r'.length<r.length:=by
 unfold pitem at h
 split at h
 ·cases h
 ·rename_i lo r1 h1
  have l1:=pplain_le h1
  split at h
  ·rename_i r2
   split at h
   ·cases h
   ·rename_i hi r3 h2
    have l2:=pplain_le h2
    split at h
    ·cases h
    ·injection h with _ h;subst h;simp at l1;omega
  ·injection h with _ h;subst h;exact l1
def pitems (first:Bool) (S:Nat→Bool) (r:List Nat):Out (Nat→Bool) :=
 if first=false∧r.head? = some 93 then .ok S r.tail
 else match _h:pitem r with
  | .er r' c=>.er r' c
  | .ok T r'=>pitems false (fun x=>S x || T x) r'
termination_by r.length
decreasing_by exact pitem_le _h
def pset:List Nat→Out (Nat→Bool)
 | 46 :: r=>.ok (fun _=>true) r
 | 91 :: 94 :: r=>match pitems true (fun _=>false) r with
  | .ok S r'=>.ok (fun x=>!S x) r'
  | .er r' c=>.er r' c
 | 91 :: r=>pitems true (fun _=>false) r
 | r=>match pplain marks r with
  | .ok a r'=>.ok (between a a) r'
  | .er r' c=>.er r' c
end Go.Proofs.YtbohmcfplgdlpaaDoor

/- What the reader's calls that read one byte come to: contracts.
   Conditions: the reader's cells are as 'Rd' says, and the text is no longer than memory may be. -/
namespace Go.Proofs.YtbohmcfplgdlpaaDoor
open Go.RowKit
def byteOk (a:Nat):Value:=.tuple #[.int .u8 a,.int .i64 0]
def byteEr (c:Nat):Value:=.tuple #[.int .u8 0,.int .i64 c]
attribute [local go_sem] byteOk byteEr
end Go.Proofs.YtbohmcfplgdlpaaDoor

/- What the reader's call that reads an item of a class comes to: a contract.
   Conditions: the reader's cells are as 'Rd' says, and the text is no longer than memory may be. -/
namespace Go.Proofs.YtbohmcfplgdlpaaDoor
open Go.RowKit
def clsOk (S:Nat→Bool):Value:=.tuple #[.agg #[.int .u64 (canon S 0:Nat),.int .u64 (canon S 1:Nat),.int .u64 (canon S 2:Nat),.int .u64 (canon S 3:Nat)],.int .i64 0]
def clsEr (c:Nat):Value:=.tuple #[.agg #[.int .u64 0,.int .u64 0,.int .u64 0,.int .u64 0],.int .i64 c]
attribute [local go_sem] byteOk byteEr clsOk clsEr
theorem Af.store {a b:World} {rb k:Nat} {s:ByteArray} {op:Value} (h:Af a rb s op k b) {p:Addr} (hp:a.heap.size≤p.block) (hr:rb<a.heap.size) (v:Value):Af a rb s op k (b.setCell p v) :=
 h.keep ((Chg.refl (fun x=>x=p.block) b).setCell (fun _=>rfl) v) (fun x hx e=>by omega) hr
theorem Af.cells {a b:World} {rb k:Nat} {s:ByteArray} {op:Value} (h:Af a rb s op k b) {B:Nat} (hB:B<a.heap.size) (hne:B≠rb):(∀ o,b.cell? ⟨B,o,none⟩=a.cell? ⟨B,o,none⟩)∧(∀ o,b.frozen? ⟨B,o,none⟩=a.frozen? ⟨B,o,none⟩) :=
 ⟨fun o=>h.2.cell o hB hne,fun o=>h.2.frozen o hB hne⟩
end Go.Proofs.YtbohmcfplgdlpaaDoor

/- What the reader's calls that read the bytes of an atom come to: contracts.
   Conditions: the reader's cells are as 'Rd' says, and the text is no longer than memory may be. -/
namespace Go.Proofs.YtbohmcfplgdlpaaDoor
open Go.RowKit
attribute [local go_sem] byteOk byteEr clsOk clsEr
theorem canon_false (j:Nat) (h:j<4):canon (fun _=>false) j=0:=by
 have e:=same_canon (C:=zeros) (S:=fun _=>false) (fun _=>by unfold zeros;omega) (fun b _=>by unfold hasB zeros;simp)
 match j,h with
 | 0,_=>exact e.1.symm
 | 1,_=>exact e.2.1.symm
 | 2,_=>exact e.2.2.1.symm
 | 3,_=>exact e.2.2.2.symm
theorem Cells.keep {w w':World} {b:Nat} {C:Nat→Nat} {R:Nat→Prop} (h:Cells w b C) (hc:Chg R w w') (hn:¬ R b):Cells w' b C:=fun j hj=>(hc.cell j h.lt hn).trans (h j hj)
theorem Free.keep {w w':World} {b:Nat} {R:Nat→Prop} (h:Free w b) (hl:b<w.heap.size) (hc:Chg R w w') (hn:¬ R b):Free w' b:=fun j hj=>(hc.frozen j hl hn).trans (h j hj)
theorem Cells.to {w:World} {b:Nat} {S:Nat→Bool} (h:Cells w b zeros) (hS:∀ x,S x=false):Cells w b (canon S):=fun j hj=>by
 have:S=fun _=>false:=funext hS
 rw [h j hj,this,canon_false j hj]
 rfl
end Go.Proofs.YtbohmcfplgdlpaaDoor

/- Trees, and how they lie in memory: plain facts.
   Conditions: those that each theorem states. -/
namespace Go.Proofs.YtbohmcfplgdlpaaDoor
open Go.RowKit
inductive V where
 | node (k:Int) (C:Nat→Nat) (lo hi:Int) (v:Value) (ps:List V)
def V.kind:V→Int | .node k _ _ _ _ _=>k
def V.set:V→Nat→Nat | .node _ C _ _ _ _=>C
def V.lo:V→Int | .node _ _ l _ _ _=>l
def V.hi:V→Int | .node _ _ _ h _ _=>h
def V.v:V→Value | .node _ _ _ _ v _=>v
def V.ps:V→List V | .node _ _ _ _ _ p=>p
def ndc (t:V):List Value:=[.int .i64 t.kind,.int .u64 (t.set 0:Nat),.int .u64 (t.set 1:Nat),.int .u64 (t.set 2:Nat),.int .u64 (t.set 3:Nat),t.v,.int .i64 t.lo,.int .i64 t.hi]
theorem ndc_length (t:V):(ndc t).length=8:=rfl
inductive Laid (w:World) (R:Nat→Prop):V→Prop where
 | none (k:Int) (C:Nat→Nat) (lo hi:Int) (a:Option Addr) (cap:Nat):Laid w R (.node k C lo hi (.slice a 0 cap) [])
 | some (k:Int) (C:Nat→Nat) (lo hi:Int) (ps:List V) (b off cap:Nat) (hR:R b) (hlt:b<w.heap.size) (hcap:ps.length≤cap)
   (hc:∀ i t,ps[i]? = some t→∀ j u,(ndc t)[j]? = some u→w.cell? ⟨b,off+i * 8+j,none⟩=some u)
   (hk:∀ t,t∈ps→Laid w R t):Laid w R (.node k C lo hi (.slice (some ⟨b,off,none⟩) ps.length cap) ps)
theorem Laid.keep {w w':World} {R R':Nat→Prop} {t:V} (h:Laid w R t) (hR:∀ b,b<w.heap.size→R b→R' b) (hs:w.heap.size≤w'.heap.size) (hw:∀ b,b<w.heap.size→R b→w'.heap[b]? = w.heap[b]?):Laid w' R' t:=by
 induction h with
 | none k C lo hi a cap=>exact .none k C lo hi a cap
 | some k C lo hi ps b off cap hRb hlt hcap hc hk ih =>
  refine .some k C lo hi ps b off cap (hR b hlt hRb) (Nat.lt_of_lt_of_le hlt hs) hcap (fun i t ht j u hu=>?_) ih
  rw [← hc i t ht j u hu]
  exact World.cell?_of_block (w:=w) (hw b hlt hRb)
theorem Laid.mono {w:World} {R R':Nat→Prop} {t:V} (h:Laid w R t) (hR:∀ b,b<w.heap.size→R b→R' b):Laid w R' t:=h.keep hR (Nat.le_refl _) fun _ _ _=>rfl
theorem Laid.chg {w w':World} {R Q:Nat→Prop} {t:V} (h:Laid w R t) (hc:Chg Q w w') (hRQ:∀ b,b<w.heap.size→R b→¬ Q b):Laid w' R t :=
 h.keep (fun _ _ hr=>hr) hc.size fun b hb hr=>hc.block b hb (hRQ b hb hr)
theorem Laid.form {w:World} {R:Nat→Prop} {t:V} (h:Laid w R t):∃ a c,t.v=.slice a t.ps.length c∧t.ps.length≤c∨t.ps=[]∧t.v=.slice a 0 c:=by
 cases h with
 | none k C lo hi a cap=>exact ⟨a,cap,.inr ⟨rfl,rfl⟩⟩
 | some k C lo hi ps b off cap hRb hlt hcap hc hk=>exact ⟨_,cap,.inl ⟨rfl,hcap⟩⟩
theorem Laid.slice {w:World} {R:Nat→Prop} {t:V} (h:Laid w R t):∃ a n c,t.v=.slice a n c:=by
 obtain ⟨a,c,h | h⟩:=h.form
 ·exact ⟨a,_,c,h.1⟩
 ·exact ⟨a,_,c,h.2⟩
def flat (ps:List V):List Value:=ps.flatMap ndc
theorem flat_snoc (ps:List V) (p:V):flat (ps ++ [p])=flat ps ++ ndc p:=by unfold flat;simp
theorem flat_length (ps:List V):(flat ps).length=ps.length * 8:=by
 induction ps with
 | nil=>rfl
 | cons p ps ih =>
  have e:flat (p :: ps)=ndc p ++ flat ps:=by unfold flat;rw [List.flatMap_cons]
  rw [e,List.length_append,ih,ndc_length,List.length_cons]
  omega
theorem flat_at:∀ (ps:List V) (i:Nat) (p:V),ps[i]? = some p→∀ j,j<8→(flat ps)[i * 8+j]? = (ndc p)[j]?
 | [],i,p,h,_,_=>by simp at h
 | q :: ps,0,p,h,j,hj=>by
  simp at h
  subst h
  unfold flat
  rw [List.flatMap_cons,Nat.zero_mul,Nat.zero_add,List.getElem?_append_left (by rw [ndc_length];exact hj)]
 | q :: ps,i+1,p,h,j,hj=>by
  have ih:=flat_at ps i p (by simpa using h) j hj
  unfold flat at ih ⊢
  rw [List.flatMap_cons,List.getElem?_append_right (by rw [ndc_length];omega),ndc_length,show (i+1) * 8+j - 8=i * 8+j by omega]
  exact ih
def zeroV:V:=.node 0 zeros 0 0 (.slice none 0 0) []
theorem info27:(Tryd.prog.info? 27).map (fun i=>(i.zero,i.size,i.bytes))=some (some (.agg #[.int .i64 0,.int .u64 0,.int .u64 0,.int .u64 0,.int .u64 0,.slice none 0 0,.int .i64 0,.int .i64 0]),8,80):=by kernel_rfl
theorem one_ndc (t:V) (hv:t.v.oneCell'=true):∀ u∈ndc t,u.oneCell'=true:=by
 intro u hu
 simp [ndc] at hu
 rcases hu with rfl | rfl | rfl | rfl | rfl | rfl | rfl | rfl <;> first | rfl | exact hv
def zndc:List Value:=[.int .i64 0,.int .u64 0,.int .u64 0,.int .u64 0,.int .u64 0,.slice none 0 0,.int .i64 0,.int .i64 0]
theorem one_zndc:∀ u∈zndc,u.oneCell'=true:=by
 intro u hu
 simp [zndc] at hu
 rcases hu with rfl | rfl | rfl | rfl <;> rfl
def store8 (w:World) (g o:Nat) (a0 a1 a2 a3 a4 a5 a6 a7:Value):World:=(((((((w.setCell ⟨g,o,none⟩ a0).setCell ⟨g,o+1,none⟩ a1).setCell ⟨g,o+2,none⟩ a2).setCell ⟨g,o+3,none⟩ a3).setCell ⟨g,o+4,none⟩ a4).setCell ⟨g,o+5,none⟩ a5).setCell ⟨g,o+6,none⟩ a6).setCell ⟨g,o+7,none⟩ a7
theorem set_at {xs zs:List Value} {o:Nat} (hx:xs.length=o) (j:Nat) (u:Value):(xs ++ zs).set (o+j) u=xs ++ zs.set j u:=by
 rw [List.set_append_right _ _ (by omega)]
 congr 2
 omega
theorem store8_own {w:World} {base g m cap o:Nat} {xs:List Value} {z0 z1 z2 z3 z4 z5 z6 z7:Value} (a0 a1 a2 a3 a4 a5 a6 a7:Value) (hx:xs.length=o) (h:w.ownsRow base 27 8 (.slice (some ⟨g,0,none⟩) m cap) m (xs ++ [z0,z1,z2,z3,z4,z5,z6,z7])) :
  (store8 w g o a0 a1 a2 a3 a4 a5 a6 a7).ownsRow base 27 8 (.slice (some ⟨g,0,none⟩) m cap) m (xs ++ [a0,a1,a2,a3,a4,a5,a6,a7]):=by
 unfold store8
 have h0:=(h.stored (o+0) a0).1
 rw [set_at hx] at h0
 have h1:=(h0.stored (o+1) a1).1
 rw [set_at hx] at h1
 have h2:=(h1.stored (o+2) a2).1
 rw [set_at hx] at h2
 have h3:=(h2.stored (o+3) a3).1
 rw [set_at hx] at h3
 have h4:=(h3.stored (o+4) a4).1
 rw [set_at hx] at h4
 have h5:=(h4.stored (o+5) a5).1
 rw [set_at hx] at h5
 have h6:=(h5.stored (o+6) a6).1
 rw [set_at hx] at h6
 have h7:=(h6.stored (o+7) a7).1
 rw [set_at hx] at h7
 exact h7
theorem store8_heap (w:World) (g o:Nat) (a0 a1 a2 a3 a4 a5 a6 a7:Value) (k:Nat) (h:k≠g):(store8 w g o a0 a1 a2 a3 a4 a5 a6 a7).heap[k]? = w.heap[k]?:=by
 unfold store8
 repeat (rw [Below.heap_setCell _ _ _ _ h])
theorem store8_chg {R:Nat→Prop} {a w:World} (h:Chg R a w) {g:Nat} (hg:g<a.heap.size→R g) (o:Nat) (a0 a1 a2 a3 a4 a5 a6 a7:Value):Chg R a (store8 w g o a0 a1 a2 a3 a4 a5 a6 a7) :=
 (((((((h.setCell (p:=⟨g,o,none⟩) hg _).setCell (p:=⟨g,o+1,none⟩) hg _).setCell (p:=⟨g,o+2,none⟩) hg _).setCell (p:=⟨g,o+3,none⟩) hg _).setCell (p:=⟨g,o+4,none⟩) hg _).setCell (p:=⟨g,o+5,none⟩) hg _).setCell (p:=⟨g,o+6,none⟩) hg _).setCell (p:=⟨g,o+7,none⟩) hg _
theorem store8_size (w:World) (g o:Nat) (a0 a1 a2 a3 a4 a5 a6 a7:Value):(store8 w g o a0 a1 a2 a3 a4 a5 a6 a7).heap.size=w.heap.size:=by unfold store8;simp
theorem set_heap {w w1:World} {B x:Nat} {u:Value} (h:w1.heap[B]? = w.heap[B]?):(w1.setCell ⟨B,x,none⟩ u).heap[B]? = (w.setCell ⟨B,x,none⟩ u).heap[B]?:=by
 simp [World.setCell,Array.getElem?_modify,h]
theorem own_heap {w w':World} {base:Nat} {e:TypeId} {size:Nat} {v:Value} {n:Nat} {xs:List Value} (h:w.ownsRow base e size v n xs) (hw:∀ b,v.ownBlock=some b→w'.heap[b]? = w.heap[b]?):w'.ownsRow base e size v n xs:=by
 refine ⟨h.1,?_⟩
 rcases h.2 with hn | ⟨g,cap,cur,rfl,hb,hg,rest⟩
 ·exact .inl hn
 ·exact .inr ⟨g,cap,cur,rfl,hb,(hw g rfl).trans hg,rest⟩
theorem own_chg {w w':World} {Q:Nat→Prop} {base:Nat} {e:TypeId} {size:Nat} {v:Value} {n:Nat} {xs:List Value} (h:w.ownsRow base e size v n xs) (hc:Chg Q w w') (hv:∀ b,v.ownBlock=some b→¬ Q b):w'.ownsRow base e size v n xs :=
 own_heap h fun b hb=>hc.block b (h.lt b hb).2 (hv b hb)
end Go.Proofs.YtbohmcfplgdlpaaDoor

/- What the call that adds a part to a group comes to: a contract.
   Conditions: those that the theorem states. -/
namespace Go.Proofs.YtbohmcfplgdlpaaDoor
open Go.RowKit
def Added (base B o:Nat) (v:Value) (xs:List Value) (n:Nat) (cells:List Value) (w w':World):Prop :=
 ∃ g cap,w'.ownsRow base 27 8 (.slice (some ⟨g,0,none⟩) (n+1) cap) (n+1) (xs ++ cells)∧(v.ownBlock=some g∨w.heap.size≤g)∧g<w'.heap.size ∧
  w'.heap[B]? = (w.setCell ⟨B,o,none⟩ (.slice (some ⟨g,0,none⟩) (n+1) cap)).heap[B]?∧Chg (fun k=>k=B∨v.ownBlock=some k) w w'
theorem own_form {w:World} {base:Nat} {e:TypeId} {size:Nat} {v:Value} {n:Nat} {xs:List Value} (h:w.ownsRow base e size v n xs):∃ A cp,v=.slice A n cp:=by
 rcases h.2 with ⟨rfl,rfl⟩ | ⟨g,cap,cur,rfl,_⟩
 ·exact ⟨none,0,rfl⟩
 ·exact ⟨_,_,rfl⟩
theorem news_zero (wa:World) (H:Nat) (h:wa.heap.size=H):∀ j u,zndc[j]? = some u→(wa.alloc (.cells #[.int .i64 0,.int .u64 0,.int .u64 0,.int .u64 0,.int .u64 0,.slice none 0 0,.int .i64 0,.int .i64 0] 27)).cell? ((⟨H,0,none⟩ : Addr).add j)=some u:=by
 subst h
 exact World.news_of_block (heap_alloc_new wa _)
theorem app_cells {w2:World} {base g n cap:Nat} {xs:List Value} (h:w2.ownsRow base 27 8 (.slice (some ⟨g,0,none⟩) (n+1) cap) (n+1) (xs ++ zndc)) (hx:xs.length=n * 8) :
  (w2.cell? ⟨g,n * 8,none⟩=some (.int .i64 0)∧w2.cell? ⟨g,n * 8+1,none⟩=some (.int .u64 0)∧w2.cell? ⟨g,n * 8+2,none⟩=some (.int .u64 0)∧w2.cell? ⟨g,n * 8+3,none⟩=some (.int .u64 0)) ∧
  (w2.cell? ⟨g,n * 8+4,none⟩=some (.int .u64 0)∧w2.cell? ⟨g,n * 8+5,none⟩=some (.slice none 0 0)∧w2.cell? ⟨g,n * 8+6,none⟩=some (.int .i64 0)∧w2.cell? ⟨g,n * 8+7,none⟩=some (.int .i64 0)) ∧
  (∀ j,w2.frozen? ⟨g,j,none⟩=false):=by
 have hc:∀ j,j<8→w2.cell? ⟨g,n * 8+j,none⟩=zndc[j]?:=fun j hj=>by
  rw [h.cellAt (n * 8+j) (by omega),List.getElem?_append_right (by omega),hx,show n * 8+j - n * 8=j by omega]
 exact ⟨⟨hc 0 (by decide),hc 1 (by decide),hc 2 (by decide),hc 3 (by decide)⟩,⟨hc 4 (by decide),hc 5 (by decide),hc 6 (by decide),hc 7 (by decide)⟩,fun j=>h.frozenAt j⟩
theorem app_field {w wa w2:World} {B x g n:Nat} {v:Value} {A:Option Addr} {cp:Nat} (hgrow:wa.grownBy w2 (Value.slice A n cp).ownBlock) (hwa:Chg (fun _=>False) w wa) (hB:B<w.heap.size) (hne:(Value.slice A n cp).ownBlock≠some B)
  (hg:(Value.slice A n cp).ownBlock=some g∨g=wa.heap.size) (hv:w.cell? ⟨B,x,none⟩=some v) (hf:w.frozen? ⟨B,x,none⟩=false):w2.cell? ⟨B,x,none⟩=some v∧w2.frozen? ⟨B,x,none⟩=false∧g≠B∧B≠g∧w2.heap[B]? = w.heap[B]?:=by
 have h1:=hwa.block B hB (fun h=>h)
 have h2:=hgrow.block B (Nat.lt_of_lt_of_le hB hwa.size) (fun e=>hne e.symm)
 have h3:w2.heap[B]? = w.heap[B]?:=h2.trans h1
 have h4:g≠B:=by
  rcases hg with hg | hg
  ·rintro rfl;exact hne hg
  ·have:=hwa.size;omega
 exact ⟨(World.cell?_of_block (w:=w) h3).trans hv,(World.frozen?_of_block (w:=w) h3).trans hf,h4,fun e=>h4 e.symm,h3⟩
theorem added_of {w wa w2 w3:World} {base B x g n cap:Nat} {v:Value} {A:Option Addr} {cp:Nat} {xs:List Value} {a0 a1 a2 a3 a4 a5 a6 a7:Value} (hgrow:wa.grownBy w2 (Value.slice A n cp).ownBlock) (hwa:Chg (fun _=>False) w wa) (hB:B<w.heap.size) (hne:(Value.slice A n cp).ownBlock≠some B)
  (hg:(Value.slice A n cp).ownBlock=some g∨g=wa.heap.size) (hlt:g<w2.heap.size) (hv:w.cell? ⟨B,x,none⟩=some v) (hf:w.frozen? ⟨B,x,none⟩=false)
  (hx:xs.length=n * 8) (h:w2.ownsRow base 27 8 (.slice (some ⟨g,0,none⟩) (n+1) cap) (n+1) (xs ++ zndc))
  (h3:w3=(store8 w2 g (n * 8) a0 a1 a2 a3 a4 a5 a6 a7).setCell ⟨B,x,none⟩ (.slice (some ⟨g,0,none⟩) (n+1) cap)∨w3=store8 (w2.setCell ⟨B,x,none⟩ (.slice (some ⟨g,0,none⟩) (n+1) cap)) g (n * 8) a0 a1 a2 a3 a4 a5 a6 a7) :
  Added base B x (.slice A n cp) xs n [a0,a1,a2,a3,a4,a5,a6,a7] w w3:=by
 obtain ⟨_,_,h4,h5,h6⟩:=app_field (v:=v) hgrow hwa hB hne hg hv hf
 have c2:Chg (fun k=>k=B∨(Value.slice A n cp).ownBlock=some k) w w2:=(hwa.mono (fun _ _ h=>h.elim)).grown hgrow fun k hk _=>.inr hk
 have hge:(Value.slice A n cp).ownBlock=some g∨w.heap.size≤g:=hg.imp id fun e=>by have:=hwa.size;omega
 have hgR:g<w.heap.size→(g=B∨(Value.slice A n cp).ownBlock=some g):=fun hl=>by
  rcases hge with e | e
  ·exact .inr e
  ·omega
 refine ⟨g,cap,?_,hge,?_,?_,?_⟩
 ·rcases h3 with rfl | rfl
  ·refine own_heap (store8_own a0 a1 a2 a3 a4 a5 a6 a7 hx h) fun b hb=>?_
   have:b=g:=by simpa [Value.ownBlock] using hb.symm
   subst this
   exact Below.heap_setCell _ _ _ _ h4
  ·refine store8_own a0 a1 a2 a3 a4 a5 a6 a7 hx (z0:=.int .i64 0) (z1:=.int .u64 0) (z2:=.int .u64 0) (z3:=.int .u64 0) (z4:=.int .u64 0) (z5:=.slice none 0 0) (z6:=.int .i64 0) (z7:=.int .i64 0) (own_heap h fun b hb=>?_)
   have:b=g:=by simpa [Value.ownBlock] using hb.symm
   subst this
   exact Below.heap_setCell _ _ _ _ h4
 ·rcases h3 with rfl | rfl
  ·simp [store8_size];exact hlt
  ·rw [store8_size];simp;exact hlt
 ·rcases h3 with rfl | rfl
  ·exact set_heap ((store8_heap _ _ _ _ _ _ _ _ _ _ _ _ h5).trans h6)
  ·rw [store8_heap _ _ _ _ _ _ _ _ _ _ _ _ h5]
   exact set_heap h6
 ·rcases h3 with rfl | rfl
  ·exact (store8_chg c2 hgR _ _ _ _ _ _ _ _ _).setCell (p:=⟨B,x,none⟩) (fun _=>.inl rfl) _
  ·exact store8_chg (c2.setCell (p:=⟨B,x,none⟩) (fun _=>.inl rfl) _) hgR _ _ _ _ _ _ _ _ _
theorem added_l {w wa w2:World} {base B x g n cap:Nat} {v:Value} {A:Option Addr} {cp:Nat} {xs:List Value} {a0 a1 a2 a3 a4 a5 a6 a7:Value} (hgrow:wa.grownBy w2 (Value.slice A n cp).ownBlock) (hwa:Chg (fun _=>False) w wa) (hB:B<w.heap.size) (hne:(Value.slice A n cp).ownBlock≠some B)
  (hg:(Value.slice A n cp).ownBlock=some g∨g=wa.heap.size) (hlt:g<w2.heap.size) (hv:w.cell? ⟨B,x,none⟩=some v) (hf:w.frozen? ⟨B,x,none⟩=false)
  (hx:xs.length=n * 8) (h:w2.ownsRow base 27 8 (.slice (some ⟨g,0,none⟩) (n+1) cap) (n+1) (xs ++ zndc)) :
  Added base B x (.slice A n cp) xs n [a0,a1,a2,a3,a4,a5,a6,a7] w (((((((((w2.setCell ⟨g,n * 8,none⟩ a0).setCell ⟨g,n * 8+1,none⟩ a1).setCell ⟨g,n * 8+2,none⟩ a2).setCell ⟨g,n * 8+3,none⟩ a3).setCell ⟨g,n * 8+4,none⟩ a4).setCell ⟨g,n * 8+5,none⟩ a5).setCell ⟨g,n * 8+6,none⟩ a6).setCell ⟨g,n * 8+7,none⟩ a7).setCell ⟨B,x,none⟩ (.slice (some ⟨g,0,none⟩) (n+1) cap)) :=
 added_of hgrow hwa hB hne hg hlt hv hf hx h (.inl rfl)
theorem added_r {w wa w2:World} {base B x g n cap:Nat} {v:Value} {A:Option Addr} {cp:Nat} {xs:List Value} {a0 a1 a2 a3 a4 a5 a6 a7:Value} (hgrow:wa.grownBy w2 (Value.slice A n cp).ownBlock) (hwa:Chg (fun _=>False) w wa) (hB:B<w.heap.size) (hne:(Value.slice A n cp).ownBlock≠some B)
  (hg:(Value.slice A n cp).ownBlock=some g∨g=wa.heap.size) (hlt:g<w2.heap.size) (hv:w.cell? ⟨B,x,none⟩=some v) (hf:w.frozen? ⟨B,x,none⟩=false)
  (hx:xs.length=n * 8) (h:w2.ownsRow base 27 8 (.slice (some ⟨g,0,none⟩) (n+1) cap) (n+1) (xs ++ zndc)) :
  Added base B x (.slice A n cp) xs n [a0,a1,a2,a3,a4,a5,a6,a7] w (((((((((w2.setCell ⟨B,x,none⟩ (.slice (some ⟨g,0,none⟩) (n+1) cap)).setCell ⟨g,n * 8,none⟩ a0).setCell ⟨g,n * 8+1,none⟩ a1).setCell ⟨g,n * 8+2,none⟩ a2).setCell ⟨g,n * 8+3,none⟩ a3).setCell ⟨g,n * 8+4,none⟩ a4).setCell ⟨g,n * 8+5,none⟩ a5).setCell ⟨g,n * 8+6,none⟩ a6).setCell ⟨g,n * 8+7,none⟩ a7) :=
 added_of hgrow hwa hB hne hg hlt hv hf hx h (.inr rfl)
end Go.Proofs.YtbohmcfplgdlpaaDoor

/- What the reader's call that joins the parts of a row comes to, and which group is the innermost: contracts.
   Conditions: those that the theorems state. -/
namespace Go.Proofs.YtbohmcfplgdlpaaDoor
open Go.RowKit
def joinV (kind:Int) (v:Value):List V→V
 | []=>zeroV
 | [p]=>p
 | ps=>.node kind zeros 0 0 v ps
def nodeAgg (t:V):Value:=.agg #[.int .i64 t.kind,.int .u64 (t.set 0:Nat),.int .u64 (t.set 1:Nat),.int .u64 (t.set 2:Nat),.int .u64 (t.set 3:Nat),t.v,.int .i64 t.lo,.int .i64 t.hi]
end Go.Proofs.YtbohmcfplgdlpaaDoor

/- How the reader's groups lie in memory, each apart from the others and from the trees: plain facts.
   Conditions: those that each theorem states. -/
namespace Go.Proofs.YtbohmcfplgdlpaaDoor
open Go.RowKit
def Bel (base rb:Nat) (w w':World):Prop:=Chg (fun b=>b=rb∨base≤b) w w'
theorem Bel.refl (base rb:Nat) (w:World):Bel base rb w w:=Chg.refl _ w
theorem Bel.trans {base rb:Nat} {a b c:World} (h:Bel base rb a b) (k:Bel base rb b c):Bel base rb a c:=Chg.trans h k fun _ _ h=>h
theorem Bel.alloc {base rb:Nat} {a b:World} (h:Bel base rb a b) (o:Obj):Bel base rb a (b.alloc o):=Chg.alloc h o
theorem Bel.drew {base rb:Nat} {a b:World} (h:Bel base rb a b):Bel base rb a b.drew:=Chg.drew h
theorem Bel.below {base rb:Nat} {w w':World} (h:Bel base rb w w') {B:Nat} (hB:B≤base) (hr:B≤rb) (hw:B≤w.heap.size):Below B w w':=Chg.below h hw fun k hk=>by
 rintro (e | e) <;> omega
structure Grp where
 rows:List V
 row:List V
 v1:Value
 v2:Value
end Go.Proofs.YtbohmcfplgdlpaaDoor

/- What the call that ends the innermost group comes to: a contract.
   Conditions: the memory is as 'Mem' says, and rows have at most 1000 parts. -/
namespace Go.Proofs.YtbohmcfplgdlpaaDoor
open Go.RowKit
theorem row_cells {w:World} {b:Nat} {cur:Array Value} {e:TypeId} (h:w.heap[b]? = some (.cells cur e (0,0))):(∀ j,w.cell? ⟨b,j,none⟩=cur[j]?)∧(∀ j,w.frozen? ⟨b,j,none⟩=false) :=
 ⟨fun j=>cell_of_row w b j cur e (0,0) h,fun j=>frozen_of_row w b j cur e h⟩
end Go.Proofs.YtbohmcfplgdlpaaDoor

/- What the reader makes of a text: trees, its groups, its steps, as plain functions.
   No conditions but those that each theorem states. -/
namespace Go.Proofs.YtbohmcfplgdlpaaDoor
inductive T where
 | node (k:Int) (C:Nat→Nat) (lo hi:Int) (ps:List T)
def T.kind:T→Int | .node k _ _ _ _=>k
def T.ps:T→List T | .node _ _ _ _ p=>p
mutual
def erase:V→T
 | .node k C lo hi _ ps=>.node k C lo hi (erases ps)
def erases:List V→List T
 | []=>[]
 | t :: ts=>erase t :: erases ts
end
theorem erases_map (ps:List V):erases ps=ps.map erase:=by
 induction ps with
 | nil=>rfl
 | cons t ts ih=>rw [erases,ih,List.map_cons]
theorem erases_append (ps qs:List V):erases (ps ++ qs)=erases ps ++ erases qs:=by simp [erases_map]
theorem erases_length (ps:List V):(erases ps).length=ps.length:=by simp [erases_map]
def zeroT:T:=.node 0 zeros 0 0 []
def joinT (kind:Int):List T→T
 | []=>zeroT
 | [p]=>p
 | ps=>.node kind zeros 0 0 ps
structure G where
 rows:List T
 row:List T
def Grp.er (g:Grp):G:=⟨erases g.rows,erases g.row⟩
def shutT (g:G):T:=joinT 3 (g.rows ++ [joinT 2 g.row])
def atomT (S:Nat→Bool):T:=.node 1 (canon S) 0 0 []
def repT (b:Int×Int) (t:T):T:=.node 4 zeros b.1 b.2 [t]
def repLast (b:Int×Int):List T→List T
 | []=>[]
 | [t]=>[repT b t]
 | t :: ts=>t :: repLast b ts
theorem repLast_length (b:Int×Int) (ps:List T):(repLast b ps).length=ps.length:=by
 induction ps with
 | nil=>rfl
 | cons p ps ih =>
  cases ps with
  | nil=>rfl
  | cons q ps=>show (repLast b (q :: ps)).length+1=_;rw [ih];rfl
def pstep (g:G) (frs:List G):List Nat→Out (G×List G)
 | []=>.er [] 2
 | b :: r =>
  if b=40 then .ok (⟨[],[]⟩,g :: frs) r
  else if b=124 then .ok (⟨g.rows ++ [joinT 2 g.row],[]⟩,frs) r
  else if b=41 then (match frs with
   | []=>.er (b :: r) 2
   | p :: ps=>.ok (⟨p.rows,p.row ++ [shutT g]⟩,ps) r)
  else if b=42∨b=43∨b=63∨b=123 then
   (if g.row=[] then .er (b :: r) 2 else match ptimes b r with
    | .er r' c=>.er r' c
    | .ok t r'=>.ok (⟨g.rows,repLast t g.row⟩,frs) r')
  else match pset (b :: r) with
   | .er r' c=>.er r' c
   | .ok S r'=>.ok (⟨g.rows,g.row ++ [atomT S]⟩,frs) r'
def Bd (n:Nat) (g:G) (frs:List G):Prop:=g.rows.length≤n∧g.row.length≤n∧(∀ x,x∈frs→x.rows.length≤n∧x.row.length≤n)∧frs.length≤n
theorem Bd.mono {n m:Nat} {g:G} {frs:List G} (h:Bd n g frs) (hm:n≤m):Bd m g frs :=
 ⟨Nat.le_trans h.1 hm,Nat.le_trans h.2.1 hm,fun x hx=>⟨Nat.le_trans (h.2.2.1 x hx).1 hm,Nat.le_trans (h.2.2.1 x hx).2 hm⟩,Nat.le_trans h.2.2.2 hm⟩
theorem Bd.step {n:Nat} {g:G} {frs:List G} {r:List Nat} {x:G×List G} {r':List Nat} (hb:Bd n g frs) (h:pstep g frs r=.ok x r'):Bd (n+1) x.1 x.2:=by
 have hb1:=hb.mono (Nat.le_succ n)
 cases r with
 | nil=>cases h
 | cons b r =>
  simp only [pstep] at h
  split at h
  ·injection h with h _;subst h
   refine ⟨by simp,by simp,fun y hy=>?_,by have:=hb.2.2.2;simp;omega⟩
   rcases List.mem_cons.1 hy with rfl | hy
   ·exact ⟨hb1.1,hb1.2.1⟩
   ·exact hb1.2.2.1 y hy
  ·split at h
   ·injection h with h _;subst h
    exact ⟨by have:=hb.1;simp;omega,by simp,hb1.2.2.1,hb1.2.2.2⟩
   ·split at h
    ·split at h
     ·cases h
     ·rename_i p ps
      injection h with h _;subst h
      have hp:=hb.2.2.1 p (by simp)
      have hl:=hb.2.2.2
      simp at hl
      exact ⟨by have:=hp.1;show p.rows.length≤n+1;omega,by have:=hp.2;simp;omega,fun y hy=>hb1.2.2.1 y (by simp [hy]),by show ps.length≤n+1;omega⟩
    ·split at h
     ·split at h
      ·cases h
      ·split at h
       ·cases h
       ·injection h with h _;subst h
        exact ⟨hb1.1,by show (repLast _ g.row).length≤n+1;rw [repLast_length];exact hb1.2.1,hb1.2.2.1,hb1.2.2.2⟩
     ·split at h
      ·cases h
      ·injection h with h _;subst h
       exact ⟨hb1.1,by have:=hb.2.1;simp;omega,hb1.2.2.1,hb1.2.2.2⟩
end Go.Proofs.YtbohmcfplgdlpaaDoor

/- What the reader comes to on a whole text: a contract.
   Conditions: the text has at most 400 bytes. -/
namespace Go.Proofs.YtbohmcfplgdlpaaDoor
open Go.RowKit
theorem Bel.res {w w':World} {B rb:Nat} {o:Obj} (h:Bel (B+1) rb w w') (hB:B<w.heap.size) (hne:B≠rb) (he:w.heap[B]? = some o):w'.heap[B]? = some o:=(Chg.block h B hB (by rintro (e | e) <;> omega)).trans he
end Go.Proofs.YtbohmcfplgdlpaaDoor
