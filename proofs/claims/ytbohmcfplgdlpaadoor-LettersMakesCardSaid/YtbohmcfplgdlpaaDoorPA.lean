/- Whether a repeated node is a scope, asked by its bounds alone: a contract.
   Conditions: the node's bounds lie in memory; a repeated node of nothing with them is formed. -/
import Derived.Test.YtbohmcfplgdlpaaDoorMBase
import Derived.BigQuiet
import Derived.Deep.LoopGhost
import Derived.Deep.DeepCutAuto
import Derived.StillTailTactics
import Derived.Lib.TrailingZeros
import Derived.Shelf.Lays7
import Derived.Shelf.Spec.TrailingZeros
import Derived.Test.YtbohmcfplgdlpaaDoorProg
import Derived.Test.YtbohmcfplgdlpaaDoorMWalk
import Derived.Laws.Bits64b
import Derived.Maps.OwnSet
import Derived.Maps.OwnOps
import Derived.Maps.Views
import Derived.DeepKeys4
import Derived.RangeFuncNested
import Derived.OrdersIn
import Derived.Deep.RegionWith
import Derived.Deep.RegionLaw
import Derived.Deep.RegionHeld3
import Derived.Sort.Grow
import Derived.Deep.Draws
import Derived.Carry
import Derived.Test.YtbohmcfplgdlpaaDoorMPt
import Derived.Test.YtbohmcfplgdlpaaDoorMSame
import Derived.Test.YtbohmcfplgdlpaaDoorMMelt
import Derived.Test.YtbohmcfplgdlpaaDoorMPn

/- cmp.Compare, cmp.Or of two, slices.Compare of numbers; layer 7's Order, the program's and the document's: contracts.
   Conditions: the numbers lie in memory. -/
namespace Go.Proofs.YtbohmcfplgdlpaaDoor
open Go.RowKit
def cmpI (x y:Int):Int:=if x<y then -1 else if y<x then 1 else 0
def orI (x y:Int):Int:=if x=0 then y else x
theorem cmpI_cases (x y:Int):cmpI x y = -1∧x<y∨cmpI x y=1∧y<x∨cmpI x y=0∧x=y:=by
 unfold cmpI
 split
 ·exact .inl ⟨rfl,by assumption⟩
 ·split
  ·exact .inr (.inl ⟨rfl,by assumption⟩)
  ·exact .inr (.inr ⟨rfl,by omega⟩)
theorem isNaN_int (x:Int) (w:World):Calls Tryd.prog 80 #[.int .i64 x] w fun e w'=>e=.returned (.bool false)∧w'=w:=by
 go_enter Tryd.func80,Tryd.ntmps80
 go_wp2_with fail
 go_ret
 simp
set_option maxHeartbeats 1000000 in
theorem compare_int (x y:Int) (w:World):Calls Tryd.prog 58 #[.int .i64 x,.int .i64 y] w fun e w'=>e=.returned (.int .i64 (cmpI x y))∧w'=w:=by
 go_enter Tryd.func58,Tryd.ntmps58
 go_wp2_with fail
 go_at_call 80
 refine (isNaN_int _ _).mono ?_
 rintro e w1 ⟨rfl,rfl⟩
 go_wp2_with fail
 go_at_call 80
 refine (isNaN_int _ _).mono ?_
 rintro e w2 ⟨rfl,rfl⟩
 rcases cmpI_cases x y with ⟨h,hlt⟩ | ⟨h,hlt⟩ | ⟨h,hlt⟩
 ·have HC:=Lib.hid h
  clear h
  go_wp2_with fail
  go_ret
  exact ⟨by rw [HC.out];rfl,rfl⟩
 ·have HC:=Lib.hid h
  clear h
  have g:¬ x<y:=by omega
  go_wp2_with fail
  go_ret
  exact ⟨by rw [HC.out];rfl,rfl⟩
 ·have HC:=Lib.hid h
  clear h
  have g:¬ x<y:=by omega
  have g2:¬ y<x:=by omega
  clear hlt
  go_wp2_with fail
  go_ret
  exact ⟨by rw [HC.out];rfl,rfl⟩
set_option maxHeartbeats 2000000 in
theorem or_two (b:Nat) (x y:Int) (w:World) (h0:w.cell? ⟨b,0,none⟩=some (.int .i64 x)) (h1:w.cell? ⟨b,1,none⟩=some (.int .i64 y)) :
  Calls Tryd.prog 57 #[.slice (some ⟨b,0,none⟩) 2 2] w fun e w'=>e=.returned (.int .i64 (orI x y))∧w'=w:=by
 by_cases hx:x=0
 ·subst hx
  go_enter Tryd.func57,Tryd.ntmps57
  go_wp2_with fail
  refine wp_loop_rounds 3 ?_
  rw [rounds_succ]
  go_wp2_with fail
  rw [rounds_succ]
  by_cases hy:y=0
  ·subst hy
   go_wp2_with fail
   rw [rounds_succ]
   go_wp2_with fail
   go_ret
   simp [orI]
  ·have hy':(y != 0)=true:=by simp [hy]
   go_wp2_with fail
   go_ret
   simp [orI]
 ·have hx':(x != 0)=true:=by simp [hx]
  go_enter Tryd.func57,Tryd.ntmps57
  go_wp2_with fail
  refine wp_loop_rounds 3 ?_
  rw [rounds_succ]
  go_wp2_with fail
  go_ret
  simp [orI,hx]
end Go.Proofs.YtbohmcfplgdlpaaDoor

/- The bits of a number, rising: plain facts.
   Conditions: those that each theorem states. -/
namespace Go.Proofs.YtbohmcfplgdlpaaDoor
def bitsL (x:Nat):List Nat:=(List.range 64).filter fun i=>x.testBit i
theorem mem_bits {x i:Nat}:i∈bitsL x↔i<64∧x.testBit i=true:=by
 unfold bitsL
 rw [List.mem_filter,List.mem_range]
theorem bitsL_zero:bitsL 0=[]:=by
 unfold bitsL
 rw [List.filter_eq_nil_iff]
 intro i _
 simp
theorem low_form {x:Nat} (h0:x≠0) (h:x<18446744073709551616):∃ m,x=2 ^ Lib.ctz 64 x * (2 * m+1)∧Lib.ctz 64 x<64:=by
 have:=Lib.ctzFrom_spec 64 x (by omega) (by simpa using h)
 unfold Lib.ctz
 rw [if_neg h0]
 exact this
theorem low_bits {x k m:Nat} (hx:x=2 ^ k * (2 * m+1)) (i:Nat):x.testBit i=(decide (k≤i) && (2 * m+1).testBit (i - k))∧(x &&& (x - 1)).testBit i=(x.testBit i && decide (i≠k)):=by
 have h1:x.testBit i=(decide (k≤i) && (2 * m+1).testBit (i - k)):=by
  rw [hx,Nat.testBit_two_pow_mul]
 refine ⟨h1,?_⟩
 have hp:0<2 ^ k:=Nat.two_pow_pos k
 have h2:x - 1=2 ^ k * (2 * m)+(2 ^ k - 1):=by
  rw [hx,Nat.mul_add,Nat.mul_one]
  omega
 rw [Nat.testBit_and,h1,h2,Nat.testBit_two_pow_mul_add _ (by omega)]
 by_cases hi:i<k
 ·have:¬ k≤i:=by omega
  simp [this]
 ·rw [if_neg hi]
  have hk:k≤i:=by omega
  by_cases he:i=k
  ·subst he
   simp
  ·obtain ⟨j,rfl⟩ : ∃ j,i=k+1+j:=⟨i - k - 1,by omega⟩
   rw [show k+1+j - k=j+1 by omega]
   simp only [Nat.testBit_succ]
   rw [show (2 * m+1) / 2=m by omega,show 2 * m / 2=m by omega]
   have:k+1+j≠k:=by omega
   simp [this]
theorem range_at (k:Nat) (h:k<64):List.range 64=List.range k ++ k :: (List.range (63 - k)).map (fun j=>k+1+j):=by
 have e:64=k+(63 - k+1):=by omega
 conv=>lhs;rw [e,List.range_add,List.range_succ_eq_map]
 simp only [List.map_cons,List.map_map]
 congr 2
 apply List.map_congr_left
 intro j _
 simp
 omega
theorem bits_step {x:Nat} (h0:x≠0) (h:x<18446744073709551616):bitsL x=Lib.ctz 64 x :: bitsL (x &&& (x - 1)):=by
 obtain ⟨m,hx,hk⟩:=low_form h0 h
 obtain ⟨k,hkk⟩ : ∃ k,k=Lib.ctz 64 x:=⟨_,rfl⟩
 rw [← hkk] at hx hk ⊢
 have hb:=low_bits hx
 unfold bitsL
 rw [range_at k hk,List.filter_append,List.filter_append,List.filter_cons,List.filter_cons]
 have e1:(List.range k).filter (fun i=>x.testBit i)=[]:=by
  rw [List.filter_eq_nil_iff]
  intro i hi
  rw [List.mem_range] at hi
  rw [(hb i).1]
  simp
  omega
 have e2:(List.range k).filter (fun i=>(x &&& (x - 1)).testBit i)=[]:=by
  rw [List.filter_eq_nil_iff]
  intro i hi
  rw [List.mem_range] at hi
  rw [(hb i).2,(hb i).1]
  simp
  omega
 have e3:x.testBit k=true:=by
  rw [(hb k).1,Nat.sub_self]
  simp
 have e4:(x &&& (x - 1)).testBit k=false:=by
  rw [(hb k).2]
  simp
 rw [e1,e2,e3,e4]
 simp only [List.nil_append,if_true,Bool.false_eq_true,if_false]
 congr 1
 apply List.filter_congr
 intro i hi
 obtain ⟨j,_,rfl⟩:=List.mem_map.1 hi
 rw [(hb (k+1+j)).2]
 have:k+1+j≠k:=by omega
 simp [this]
theorem and_pred_lt {x:Nat} (h:x<18446744073709551616):x &&& (x - 1)<18446744073709551616:=Nat.lt_of_le_of_lt Nat.and_le_left h
theorem bits_sorted (x:Nat):(bitsL x).Pairwise (· < ·):=List.Pairwise.filter _ List.pairwise_lt_range
end Go.Proofs.YtbohmcfplgdlpaaDoor

/- What math/bits.TrailingZeros64 gives, at this program: the library's contract, laid.
   Condition: the table that it reads lies in memory. -/
namespace Go.Proofs
open Go.Shelf
def Tryd.lays29_ren:Go.Shelf.Ren:=⟨fun | 29=>39 | n=>n,fun | 22=>22 | 3=>3 | 4=>4 | 25=>114 | 54=>138 | 0=>0 | 5=>5 | n=>n,fun | 1=>0 | n=>n⟩
theorem Tryd.lays29:Go.Proofs.Lays7.n29 Tryd.prog Tryd.lays29_ren:={
 mixed:=by kernel_rfl
 f29:=Tryd.func39.trans (congrArg some (by kernel_rfl))
 t0:=Tryd.underlying0
 a0:=Tryd.isAgg0
 z0:=Tryd.sizeOf0
 v0:=Tryd.zeroValue0
 i0:=by kernel_rfl
 t3:=Tryd.underlying3
 a3:=Tryd.isAgg3
 z3:=Tryd.sizeOf3
 v3:=Tryd.zeroValue3
 i3:=by kernel_rfl
 t4:=Tryd.underlying4
 a4:=Tryd.isAgg4
 z4:=Tryd.sizeOf4
 v4:=Tryd.zeroValue4
 i4:=by kernel_rfl
 t5:=Tryd.underlying5
 a5:=Tryd.isAgg5
 z5:=Tryd.sizeOf5
 v5:=Tryd.zeroValue5
 i5:=by kernel_rfl
 t22:=Tryd.underlying22
 a22:=Tryd.isAgg22
 z22:=Tryd.sizeOf22
 v22:=Tryd.zeroValue22
 i22:=by kernel_rfl
 t25:=Tryd.underlying114
 a25:=Tryd.isAgg114
 z25:=Tryd.sizeOf114
 v25:=Tryd.zeroValue114
 i25:=by kernel_rfl
 t54:=Tryd.underlying138
 a54:=Tryd.isAgg138
 z54:=Tryd.sizeOf138
 g1:=by kernel_rfl }
theorem Tryd.bits_TrailingZeros64 (x:Nat) (hx:x<18446744073709551616) (w:World) (hT:x≠0→TabAt 0 Lib.deBruijn64tab w) :
  Calls Tryd.prog 39 #[.int .u64 x] w fun e w'=>e=.returned (.int .i64 (Lib.ctz 64 x))∧w'=w:=Any7.bits_TrailingZeros64 Tryd.lays29 x hx w hT
end Go.Proofs

/- A range over a function that only reads between its rounds: a law for the walks; the loop's own memory may be new.
   Conditions: those that the theorem states. -/
namespace Go.Proofs.YtbohmcfplgdlpaaDoor
open Go.RowKit Go.Shelf
def Calm {β:Type} (B:Nat) (J:β→World→Prop):Prop:=∀ s W W' (l:Nat),J s W→B≤l→(∀ c e fz,W.heap[l]?≠some (.cells c e fz))→Chg (fun k=>k=l) W W'→J s W'
def IterR {α:Type} (n g:Nat) (lb:Array Value) (encs:α→Array Value) (Kp:World→World→Prop) (xs:List α) (w:World):Prop :=
 ∀ (l:Nat) (J Jx:List α→World→Prop) (W:World),Below w.heap.size w W →
  (∀ pre x W1,J pre W1→(∃ post,xs=pre ++ x :: post)→YieldAt Fence.wide (n - 1) Tryd.prog l (encs x) W1 fun e W' =>
   (e=.returned (.bool true)∧J (pre ++ [x]) W'∧Kp W1 W')∨(e=.returned (.bool false)∧Jx (pre ++ [x]) W')) →
  J [] W →
  CallsIn Fence.wide n Tryd.prog g (#[.func (.yield l) #[] #[]] ++ lb) W fun e W'=>(∃ v,e=.returned v)∧(J xs W'∨∃ pre x post,xs=pre ++ x :: post∧Jx (pre ++ [x]) W')
end Go.Proofs.YtbohmcfplgdlpaaDoor

/- The positions of a set, one after another: what each gives, and its rounds: contracts.
   Conditions: the library's table lies in memory. -/
namespace Go.Proofs.YtbohmcfplgdlpaaDoor
open Go.RowKit Go.Shelf
attribute [local go_sem] Oper.semAt_some
def tabE:Nat:=0
abbrev TabE (w:World):Prop:=TabAt 0 Lib.deBruijn64tab w
def encE (i:Nat):Array Value:=#[.int .i64 i]
def KpE (bx:Nat) (W W':World):Prop:=W'.heap[bx]? = W.heap[bx]?∧W'.heap[tabE]? = W.heap[tabE]?
theorem kpE_t {bx:Nat} {A B C:World} (h:KpE bx A B) (k:KpE bx B C):KpE bx A C:=⟨k.1.trans h.1,k.2.trans h.2⟩
theorem kpE_tab {bx:Nat} {W W':World} (h:KpE bx W W') (ht:TabE W):TabE W':=fun j hj=>(World.cell?_of_block (w:=W) h.2).trans (ht j hj)
theorem kpE_cell {bx j:Nat} {W W':World} (h:KpE bx W W'):W'.cell? ⟨bx,j,none⟩=W.cell? ⟨bx,j,none⟩:=World.cell?_of_block h.1
set_option maxHeartbeats 2000000 in
theorem each_any (x:Nat) (w:World):Calls Tryd.prog 25 #[.int .u64 x] w fun e w'=>e=.returned (.func (.func 38) #[] #[.pointer (some ⟨w.heap.size,0,none⟩)])∧w'=w.alloc (.cells #[.int .u64 x] 70):=by
 go_enter Tryd.func25,Tryd.ntmps25
 go_wp2_with fail
 go_ret
 exact ⟨rfl,rfl⟩
set_option maxRecDepth 100000 in
set_option maxHeartbeats 2000000 in
theorem each_iter (n bx x:Nat) (w:World) (hlt:bx<w.heap.size) (hbx:w.cell? ⟨bx,0,none⟩=some (.int .u64 x)) (hx:x<18446744073709551616) (hT:TabE w) (hTl:tabE<w.heap.size) :
  IterR n 38 #[.pointer (some ⟨bx,0,none⟩)] encE (KpE bx) (bitsL x) w:=by
 intro l J Jx W hb hY h0
 have hk0:KpE bx w W:=⟨hb.block _ hlt,hb.block _ hTl⟩
 have HY:=Lib.hid hY
 have HT:=Lib.hid hT
 clear hY hb hT
 refine callsIn_of_wp Tryd.func38 rfl trivial ?_ rfl
 simp only [Tryd.ntmps38,List.size_toArray,List.length_cons,List.length_nil,Nat.reduceAdd,Nat.reduceSub,Array.replicate_succ,Array.replicate_zero,List.push_toArray,List.append_toArray,List.nil_append,List.cons_append]
 have hb0:W.cell? ⟨bx,0,none⟩=some (.int .u64 x):=(kpE_cell hk0).trans hbx
 clear hbx
 gi_wp2
 gi_loopw [3] (fun v wr=>∃ (r:Nat) (pre:List Nat),v=.int .u64 r∧r<18446744073709551616∧bitsL x=pre ++ bitsL r∧J pre wr∧KpE bx w wr) (fun v _=>match v with | .int _ m=>m.toNat | _=>0)
 case atStart=>exact ⟨x,[],rfl,hx,rfl,h0,hk0⟩
 case round =>
  clear hb0 h0 hk0
  obtain ⟨r,pre,rfl,hr,hxs,hJs,hkp⟩:=hrel
  by_cases hr0:r=0
  ·subst hr0
   have HX:=Lib.hid hxs
   gi_wp2
   go_end0
   exact ⟨⟨_,rfl⟩,.inl (by rw [HX.out,bitsL_zero,List.append_nil];exact hJs)⟩
  ·have g1:((r:Int) != 0)=true:=by simp;omega
   have hst:=bits_step hr0 hr
   have hz:=Tryd.bits_TrailingZeros64 r hr wr (fun _=>kpE_tab hkp HT.out)
   obtain ⟨k,hk⟩ : ∃ k,k=Lib.ctz 64 r:=⟨_,rfl⟩
   rw [← hk] at hst hz
   obtain ⟨fn,tmps,assign,body,hy,hRn⟩:=HY.out pre k wr hJs ⟨bitsL (r &&& (r - 1)),by rw [hxs,hst]⟩
   unfold encE at hy
   have HZ:=Lib.hid hz
   have HX:=Lib.hid (And.intro hxs (And.intro hst (And.intro hkp hr)))
   have HLT:=Lib.hid (show (r &&& (r - 1))<r from Nat.lt_of_le_of_lt Nat.and_le_right (by omega))
   have hw1:IntKind.u64.wrap ((r:Int) - 1)=((r - 1:Nat):Int):=by rw [IntKind.wrap_u64];omega
   have hw2:bits BinOp.and IntKind.u64 (r:Int) ((r - 1:Nat):Int)=((r &&& (r - 1):Nat):Int):=bits_and_u64_nat r (r - 1) hr (by omega)
   clear hxs hst hkp hz hk hJs hr hr0
   gi_wp2
   refine ⟨trivial,(fun h=>by cases h),(callsIn_wide.2 HZ.out).mono ?_⟩
   rintro e w2 ⟨rfl,rfl⟩
   gi_wp2
   refine ⟨(fun h=>by cases h),hRn.mono ?_⟩
   rintro e W3 (⟨rfl,hJ3,hk3⟩ | ⟨rfl,hJx3⟩)
   ·gi_wp2
    go_roundw
    case rel =>
     obtain ⟨h1,h2,h3,h4⟩:=HX.out
     exact ⟨r &&& (r - 1),pre ++ [k],rfl,and_pred_lt h4,by rw [h1,h2,List.append_assoc];rfl,hJ3,kpE_t h3 hk3⟩
    case measure =>
     have:=HLT.out
     simpa using this
   ·gi_wp2
    refine bodyPost_ret (results_none rfl _ _ _) rfl ?_
    exact ⟨⟨_,rfl⟩,.inr ⟨pre,k,bitsL (r &&& (r - 1)),by rw [HX.out.1,HX.out.2.1],hJx3⟩⟩
end Go.Proofs.YtbohmcfplgdlpaaDoor

/- Faces and joints, as plain values.
   No conditions. -/
namespace Go.Proofs.YtbohmcfplgdlpaaDoor
structure Fc where
 fi:Nat
 la:Nat
 em:Bool
structure Jt where
 fr:Nat
 tt:Nat
 kp:Nat
 ag:Bool
def thenF (f g:Fc):Fc:=⟨if f.em then f.fi ||| g.fi else f.fi,if g.em then g.la ||| f.la else g.la,f.em && g.em⟩
def orF (f g:Fc):Fc:=⟨f.fi ||| g.fi,f.la ||| g.la,f.em || g.em⟩
end Go.Proofs.YtbohmcfplgdlpaaDoor

/- The keys of the walker's two maps, and what is in a map of those: sets.
   Conditions: those that each theorem states. -/
namespace Go.Proofs.YtbohmcfplgdlpaaDoor
open Go.RowKit Go.Maps
theorem mvLaid:laidOutB Tryd.prog=true:=by kernel_rfl
structure St where
 fr:Nat
 tt:Nat
 kp:Nat
 ag:Bool
def encJ (j:Jt):Value:=.agg #[.int .u64 j.fr,.int .u64 j.tt,.int .i64 j.kp,.bool j.ag]
def encS (s:St):Value:=.agg #[.int .i64 s.fr,.int .i64 s.tt,.int .i64 s.kp,.bool s.ag]
structure Jt64 (j:Jt):Prop where
 fr:j.fr<18446744073709551616
 tt:j.tt<18446744073709551616
 kp:j.kp<9223372036854775808
structure St63 (s:St):Prop where
 fr:s.fr<9223372036854775808
 tt:s.tt<9223372036854775808
 kp:s.kp<9223372036854775808
theorem keyedJ:Keyed Tryd.prog 132:=Keyed.of_law (deep_law_laid mvLaid (m:=5) (by decide) (of_decide_eq_true (by kernel_rfl)) (by kernel_rfl) (by kernel_rfl))
theorem keyedS:Keyed Tryd.prog 102:=Keyed.of_law (deep_law_laid mvLaid (m:=5) (by decide) (of_decide_eq_true (by kernel_rfl)) (by kernel_rfl) (by kernel_rfl))
theorem ktJ:Tryd.prog.keyType 132=true:=by kernel_rfl
theorem ktS:Tryd.prog.keyType 102=true:=by kernel_rfl
theorem cellsJ:Tryd.prog.cellsOf 132=4:=by kernel_rfl
theorem cellsS:Tryd.prog.cellsOf 102=4:=by kernel_rfl
theorem cellsMv:Tryd.prog.cellsOf 100=3:=by kernel_rfl
theorem cellsPs:Tryd.prog.cellsOf 70=1:=by kernel_rfl
theorem cellsIn:Tryd.prog.cellsOf 3=1:=by kernel_rfl
theorem cellsBo:Tryd.prog.cellsOf 4=1:=by kernel_rfl
theorem wfU {x:Nat} (h:x<18446744073709551616):(Lit.int .u64 (x:Int)).wf=true:=by
 have e1:IntKind.u64.min=0:=by decide
 have e2:IntKind.u64.max=18446744073709551615:=by decide
 simp [Lit.wf,e1,e2]
 omega
theorem wfI {x:Nat} (h:x<9223372036854775808):(Lit.int .i64 (x:Int)).wf=true:=by
 have e1:IntKind.i64.min = -9223372036854775808:=by decide
 have e2:IntKind.i64.max=9223372036854775807:=by decide
 simp [Lit.wf,e1,e2]
 omega
theorem litPs (d:Nat) {x:Nat} (h:x<18446744073709551616):Tryd.prog.keyLits (d+1) 70 [.int .u64 (x:Int)]=some [.int .u64 (x:Int)]:=by
 unfold Program.keyLits
 rw [Tryd.underlying70]
 simp [wfU h]
theorem litIn (d:Nat) {x:Nat} (h:x<9223372036854775808):Tryd.prog.keyLits (d+1) 3 [.int .i64 (x:Int)]=some [.int .i64 (x:Int)]:=by
 unfold Program.keyLits
 rw [Tryd.underlying3]
 simp [wfI h]
theorem litBo (d:Nat) (b:Bool):Tryd.prog.keyLits (d+1) 4 [.bool b]=some [.bool b]:=by
 unfold Program.keyLits
 rw [Tryd.underlying4]
theorem litMv (d:Nat) {x y:Nat} (b:Bool) (hx:x<9223372036854775808) (hy:y<9223372036854775808) :
  Tryd.prog.keyLits (d+1+1) 100 [.int .i64 (x:Int),.int .i64 (y:Int),.bool b]=some [.int .i64 (x:Int),.int .i64 (y:Int),.bool b]:=by
 unfold Program.keyLits
 rw [Tryd.underlying100]
 simp [cellsMv,cellsIn,cellsBo,litIn d hx,litIn d hy,litBo d b]
theorem key_jt (j:Jt) (h:Jt64 j):∃ l,keyOf Tryd.prog 132 (encJ j)=some l:=by
 unfold keyOf encJ
 rw [Tryd.underlying132]
 obtain ⟨d,hd⟩ : ∃ d,Tryd.prog.types.size+1=d+1+1:=⟨Tryd.prog.types.size - 1,by have:1≤Tryd.prog.types.size:=of_decide_eq_true (by kernel_rfl);omega⟩
 have hf:Value.formed Tryd.prog 132 (.agg #[.int .u64 j.fr,.int .u64 j.tt,.int .i64 j.kp,.bool j.ag])=true:=by
  simp [Value.formed,Tryd.underlying132,cellsJ]
 have hl:Tryd.prog.keyLits (d+1+1) 132 [.int .u64 j.fr,.int .u64 j.tt,.int .i64 j.kp,.bool j.ag]=some [.int .u64 j.fr,.int .u64 j.tt,.int .i64 j.kp,.bool j.ag]:=by
  unfold Program.keyLits
  rw [Tryd.underlying132]
  simp [cellsJ,cellsPs,cellsIn,cellsBo,litPs d h.fr,litPs d h.tt,litIn d h.kp,litBo d j.ag]
 simp only [ktJ,hd,hf,Value.cells,hl]
 exact ⟨_,rfl⟩
theorem key_st (s:St) (h:St63 s):∃ l,keyOf Tryd.prog 102 (encS s)=some l:=by
 unfold keyOf encS
 rw [Tryd.underlying102]
 obtain ⟨d,hd⟩ : ∃ d,Tryd.prog.types.size+1=d+1+1+1:=⟨Tryd.prog.types.size - 2,by have:2≤Tryd.prog.types.size:=of_decide_eq_true (by kernel_rfl);omega⟩
 have hf:Value.formed Tryd.prog 102 (.agg #[.int .i64 s.fr,.int .i64 s.tt,.int .i64 s.kp,.bool s.ag])=true:=by
  simp [Value.formed,Tryd.underlying102,cellsS]
 have hl:Tryd.prog.keyLits (d+1+1+1) 102 [.int .i64 s.fr,.int .i64 s.tt,.int .i64 s.kp,.bool s.ag]=some [.int .i64 s.fr,.int .i64 s.tt,.int .i64 s.kp,.bool s.ag]:=by
  unfold Program.keyLits
  rw [Tryd.underlying102]
  simp [cellsS,cellsMv,cellsIn,litIn (d+1) h.fr,litMv d s.ag h.tt h.kp]
 simp only [ktS,hd,hf,Value.cells,hl]
 exact ⟨_,rfl⟩
def JtsAre (D:DataW Unit) (S:Jt→Prop):Prop:=∀ j l,Jt64 j→keyOf Tryd.prog 132 (encJ j)=some l→(Maps.has D l=true↔S j)
structure StsAre (D:DataW Unit) (S:St→Prop):Prop where
 mem:∀ s l,St63 s→keyOf Tryd.prog 102 (encS s)=some l→(Maps.has D l=true↔S s)
 key:∀ l,Maps.has D l=true→∃ s,St63 s∧keyOf Tryd.prog 102 (encS s)=some l
theorem encJ_inj {j k:Jt} (h:encJ j=encJ k):j=k:=by
 obtain ⟨a,b,c,d⟩:=j
 obtain ⟨a',b',c',d'⟩:=k
 simp [encJ] at h
 obtain ⟨h1,h2,h3,h4⟩:=h
 have:a=a':=by omega
 have:b=b':=by omega
 have:c=c':=by omega
 subst a b c d
 rfl
theorem encS_inj {j k:St} (h:encS j=encS k):j=k:=by
 obtain ⟨a,b,c,d⟩:=j
 obtain ⟨a',b',c',d'⟩:=k
 simp [encS] at h
 obtain ⟨h1,h2,h3,h4⟩:=h
 have:a=a':=by omega
 have:b=b':=by omega
 have:c=c':=by omega
 subst a b c d
 rfl
theorem has_put {D:DataW Unit} {l l':Lit} {d:DataW Unit} (hD:IsMap D) (hl:WideAt.IsKeyLit l):Maps.has (D.put l d) l'=true↔l'=l∨Maps.has D l'=true:=by
 by_cases e:l'=l
 ·subst e
  rw [has_put_same hD hl]
  exact ⟨fun _=>.inl rfl,fun _=>rfl⟩
 ·rw [has_put_other e]
  exact ⟨.inr,fun h=>h.resolve_left e⟩
theorem key_jt_inj {j k:Jt} {l:Lit} (h:keyOf Tryd.prog 132 (encJ j)=some l) (h':keyOf Tryd.prog 132 (encJ k)=some l):j=k:=encJ_inj (keyedJ.inj h h')
theorem key_st_inj {j k:St} {l:Lit} (h:keyOf Tryd.prog 102 (encS j)=some l) (h':keyOf Tryd.prog 102 (encS k)=some l):j=k:=encS_inj (keyedS.inj h h')
theorem JtsAre.put {D:DataW Unit} {S:Jt→Prop} (h:JtsAre D S) (hD:IsMap D) {j:Jt} {l:Lit} (hl:keyOf Tryd.prog 132 (encJ j)=some l) (d:DataW Unit):JtsAre (D.put l d) (fun k=>S k∨k=j):=fun k l' hk hl'=>by
 rw [has_put hD (keyedJ.key hl),h k l' hk hl']
 constructor
 ·rintro (rfl | h1)
  ·exact .inr (key_jt_inj hl' hl)
  ·exact .inl h1
 ·rintro (h1 | rfl)
  ·exact .inr h1
  ·exact .inl (Option.some.inj (hl'.symm.trans hl))
theorem StsAre.put {D:DataW Unit} {S:St→Prop} (h:StsAre D S) (hD:IsMap D) {j:St} {l:Lit} (hj:St63 j) (hl:keyOf Tryd.prog 102 (encS j)=some l) (d:DataW Unit):StsAre (D.put l d) (fun k=>S k∨k=j):=by
 refine ⟨fun k l' hk hl'=>?_,fun l' hl'=>?_⟩
 ·rw [has_put hD (keyedS.key hl),h.mem k l' hk hl']
  constructor
  ·rintro (rfl | h1)
   ·exact .inr (key_st_inj hl' hl)
   ·exact .inl h1
  ·rintro (h1 | rfl)
   ·exact .inr h1
   ·exact .inl (Option.some.inj (hl'.symm.trans hl))
 ·rcases (has_put hD (keyedS.key hl)).1 hl' with rfl | h1
  ·exact ⟨j,hj,hl⟩
  ·exact h.key l' h1
theorem StsAre.iff {D:DataW Unit} {S S':St→Prop} (h:StsAre D S) (hs:∀ s,S s↔S' s):StsAre D S':=⟨fun s l hs' hl=>(h.mem s l hs' hl).trans (hs s),h.key⟩
theorem JtsAre.iff {D:DataW Unit} {S S':Jt→Prop} (h:JtsAre D S) (hs:∀ s,S s↔S' s):JtsAre D S':=fun s l hs' hl=>(h s l hs' hl).trans (hs s)
theorem jtsAre_nil:JtsAre (.map []) (fun _=>False):=fun j l _ _=>by simp [Maps.has]
theorem stsAre_nil:StsAre (.map []) (fun _=>False):=⟨fun j l _ _=>by simp [Maps.has],fun l h=>by simp [Maps.has] at h⟩
end Go.Proofs.YtbohmcfplgdlpaaDoor

/- A range over a function that only reads between its rounds, whose body may write maps that lay ahead of the loop: two laws for the walks, at the top and within a round.
   Conditions: those that the theorems state. -/
namespace Go.Proofs.YtbohmcfplgdlpaaDoor
open Go.RowKit Go.Shelf
def LeftW {α:Type} (B:Nat) (Kp:World→World→Prop) (I Ix:List α→World→Prop) (pre:List α) (x:α) (W:World) (e:Exit) (W':World):Prop :=
 match e with
 | .normal=>KeepsFrom B W W'∧Kp W W'∧I (pre ++ [x]) W'
 | .ret=>KeepsFrom B W W'∧Ix (pre ++ [x]) W'
 | _=>False
theorem rangeW_law {α:Type} {g:Operand} {ps:Array Tmp} {assign body:Code} {Q:Exit→Act→World→Prop} {a:Act} {w:World} {n gf:Nat} {lb:Array Value}
  (hg:a.eval g=.func (.func gf) #[] lb) (eg:∀ args w,(callFunc gf args).run Tryd.prog w=.ok (.enter gf args) w)
  {encs:α→Array Value} {Kp:World→World→Prop} {xs:List α} (hit:IterR (n - 1) gf lb encs Kp xs w)
  (hKt:∀ {A B C:World},Kp A B→Kp B C→Kp A C) (hKb:∀ (W:World) (l:Nat) (o o':Obj),w.heap.size≤l→W.heap[l]? = some o→o.isCells=false→Kp W (W.putObj l o')) (hps:∀ x,(encs x).size=ps.size)
  (I Ix:List α→World→Prop) (hI:Calm w.heap.size I) (hIx:Calm w.heap.size Ix) (h0:I [] w)
  (hround:∀ (l:Nat) (pre:List α) (x:α) (W:World),I pre W→(∃ post,xs=pre ++ x :: post)→w.heap.size<l→l<W.heap.size →
   assign.wpIn (Fence.wide.inRound l) (n - 1 - 1) Tryd.prog (Exit.then (fun a1 w1=>KeepsFrom w.heap.size W w1∧Kp W w1∧I pre w1∧∀ w2,Chg (fun k=>k=l) w1 w2→(∃ r,w2.heap[l]? = some (.loop r))→I pre w2→body.wpIn (Fence.wide.inRound l) (n - 1 - 1) Tryd.prog (fun e _ W'=>LeftW w.heap.size Kp I Ix pre x w2 e W') a1 w2) (fun _ _ _=>False)) { tmps:=(ps.zip (encs x)).foldl (fun t (p,v)=>t.setIfInBounds p v) a.tmps,defers:=[] } W)
  (hdone:∀ (D:Nat) (W:World),I xs W→w.heap.size≤D→W.heap[D]? = some (.deferred (some []))→Q .normal { a with defers:={ target:=.collected D,args:=#[] } :: a.defers } W)
  (hstop:∀ (D:Nat) (pre:List α) (x:α) (post:List α) (W:World),xs=pre ++ x :: post→Ix (pre ++ [x]) W→w.heap.size≤D→W.heap[D]? = some (.deferred (some []))→Code.ret.wpIn Fence.wide n Tryd.prog Q { a with defers:={ target:=.collected D,args:=#[] } :: a.defers } W) :
  (Code.rangeFunc g ps assign body).wpIn Fence.wide n Tryd.prog Q a w:=by
 refine wpIn_rangeFunc fun fn hfn=>?_
 obtain ⟨lp,hlp⟩ : ∃ lp:LoopState→Option Code→Loop,lp=fun st pe=>{ state:=st,pending:=pe,fn,tmps:=a.tmps,params:=ps,assign,body,defers:=w.heap.size }:=⟨_,rfl⟩
 have hbel:Below w.heap.size w ((w.alloc (.deferred (some []))).alloc (.loop (lp .ready none))):=((Below.refl _ w).alloc (Nat.le_refl _) _).alloc (by simp) _
 have hL:((w.alloc (.deferred (some []))).alloc (.loop (lp .ready none))).heap[w.heap.size+1]? = some (.loop (lp .ready none)):=by
  have:=World.alloc_heap_new (w.alloc (.deferred (some []))) (.loop (lp .ready none))
  rwa [World.size_alloc] at this
 have hD:((w.alloc (.deferred (some []))).alloc (.loop (lp .ready none))).heap[w.heap.size]? = some (.deferred (some [])):=(Below.heap_alloc _ _ _ (by simp)).trans (World.alloc_heap_new w _)
 have hent:=run_enterLoop_outer (P:=Tryd.prog) (w:=w) fn a.tmps ps assign body
 have hsz:((w.alloc (.deferred (some []))).alloc (.loop (lp .ready none))).heap.size=w.heap.size+2:=by simp
 have h1:I [] ((w.alloc (.deferred (some []))).alloc (.loop (lp .ready none))):=hI _ _ _ w.heap.size h0 (Nat.le_refl _) (fun _ _ _ e=>by simp at e) (((Chg.refl _ w).alloc _).alloc _)
 have hW:(w.alloc (.deferred (some []))).alloc (.loop { state:=.ready,pending:=none,fn,tmps:=a.tmps,params:=ps,assign,body,defers:=w.heap.size })=(w.alloc (.deferred (some []))).alloc (.loop (lp .ready none)):=by rw [hlp]
 rw [hW] at hent
 generalize (w.alloc (.deferred (some []))).alloc (.loop (lp .ready none))=W1 at *
 refine ⟨w.heap.size+1,[{ target:=.collected w.heap.size,args:=#[] }],W1,{ target:=.fn (.func gf) lb,args:=#[.func (.yield (w.heap.size+1)) #[] #[]] },W1,gf,#[.func (.yield (w.heap.size+1)) #[] #[]] ++ lb,W1,hent,?_,fun _ _=>trivial,?_,(fun h=>by cases h),?_⟩
 ·simp only [resolve,hg]
  simp [go_sem]
 ·simp [invoke,go_sem,eg]
 ·refine (hit (w.heap.size+1) (fun (pre:List α) (W:World)=>I pre W∧W.heap[w.heap.size+1]? = some (.loop (lp .ready none))∧W.heap[w.heap.size]? = some (.deferred (some []))) (fun (pre:List α) (W:World)=>Ix pre W∧W.heap[w.heap.size+1]? = some (.loop (lp .done (some .ret)))∧W.heap[w.heap.size]? = some (.deferred (some []))) W1 hbel ?_ ⟨h1,hL,hD⟩).mono ?_
  ·rintro pre x W ⟨q1,q2,q3⟩ hnext
   have hlt:=(Array.getElem?_eq_some_iff.1 q2).1
   have hy:=run_yield (P:=Tryd.prog) (args:=encs x) q2 (by rw [hlp];exact hps x)
   rw [hlp] at hy
   refine ⟨fn,_,assign,body,hy,roundIn_of_wpIn trivial (wpIn_mono (hround _ pre x W q1 hnext (Nat.lt_succ_self _) hlt) ?_)⟩
   rintro e a3 w1 hp
   cases e with
   | normal =>
    obtain ⟨k1,k2,k3,k4⟩:=hp
    have l1:=k1.same _ _ (by omega) q2 rfl
    have d1:=k1.same _ _ (Nat.le_refl _) q3 rfl
    have hlt1:=(Array.getElem?_eq_some_iff.1 l1).1
    refine ⟨_,run_beginRound l1 (by rw [hlp]),?_⟩
    have c2:Chg (fun k=>k=w.heap.size+1) w1 (w1.putObj (w.heap.size+1) (.loop { lp .ready none with state:=.busy })):=chg_put _ _ _ rfl
    have i2:=hI _ _ _ _ k3 (by omega) (fun _ _ _ e=>by rw [l1] at e;cases e) c2
    have l2:(w1.putObj (w.heap.size+1) (.loop { lp .ready none with state:=.busy })).heap[w.heap.size+1]? = some (.loop { lp .ready none with state:=.busy }):=World.putObj_heap_same hlt1
    have d2:=(c2.block w.heap.size (Array.getElem?_eq_some_iff.1 d1).1 (by omega)).trans d1
    have kp2:Kp w1 (w1.putObj (w.heap.size+1) (.loop { lp .ready none with state:=.busy })):=hKb _ _ _ _ (by omega) l1 rfl
    refine wpIn_mono (k4 _ c2 ⟨_,l2⟩ i2) ?_
    have fin:∀ (jump:Option Code) (W3:World),KeepsFrom w.heap.size (w1.putObj (w.heap.size+1) (.loop { lp .ready none with state:=.busy })) W3 →
      (Instr.endRound (w.heap.size+1) jump).run Tryd.prog W3=.ok (.bool jump.isNone) (W3.putObj (w.heap.size+1) (.loop (lp (if jump.isNone then .ready else .done) jump))) ∧
      (W3.putObj (w.heap.size+1) (.loop (lp (if jump.isNone then .ready else .done) jump))).heap[w.heap.size+1]? = some (.loop (lp (if jump.isNone then .ready else .done) jump)) ∧
      (W3.putObj (w.heap.size+1) (.loop (lp (if jump.isNone then .ready else .done) jump))).heap[w.heap.size]? = some (.deferred (some []))∧W3.heap[w.heap.size+1]? = some (.loop { lp .ready none with state:=.busy }):=fun jump W3 k5=>by
     have l3:=k5.same _ _ (by omega) l2 rfl
     have d3:=k5.same _ _ (Nat.le_refl _) d2 rfl
     have hr:=run_endRound (P:=Tryd.prog) jump l3
     rw [hlp] at hr ⊢
     refine ⟨hr,World.putObj_heap_same (Array.getElem?_eq_some_iff.1 l3).1,(World.putObj_heap_other (by omega)).trans d3,?_⟩
     rw [hlp] at l3
     exact l3
    rintro e a4 W3 hp
    cases e with
    | normal =>
     obtain ⟨k5,k6,k7⟩:=hp
     obtain ⟨r1,r2,r3,r4⟩:=fin none W3 k5
     exact ⟨_,_,r1,.inl ⟨rfl,⟨hI _ _ _ _ k7 (by omega) (fun _ _ _ e=>by rw [r4] at e;cases e) (chg_put _ _ _ rfl),r2,r3⟩,hKt (hKt (hKt k2 kp2) k6) (hKb _ _ _ _ (by omega) r4 rfl)⟩⟩
    | ret =>
     obtain ⟨k5,k7⟩:=hp
     obtain ⟨r1,r2,r3,r4⟩:=fin (some .ret) W3 k5
     exact ⟨_,_,r1,.inr ⟨rfl,hIx _ _ _ _ k7 (by omega) (fun _ _ _ e=>by rw [r4] at e;cases e) (chg_put _ _ _ rfl),r2,r3⟩⟩
    | exit id=>exact hp.elim
    | goto t=>exact hp.elim
    | panic ch=>exact hp.elim
    | outgrown=>exact hp.elim
   | ret=>exact hp.elim
   | exit id=>exact hp.elim
   | goto t=>exact hp.elim
   | panic ch=>exact hp.elim
   | outgrown=>exact hp.elim
  ·rintro e W2 ⟨⟨v,rfl⟩,(⟨q1,q2,q3⟩ | ⟨pre,x,post,hx,q1,q2,q3⟩)⟩
   ·refine ⟨none,_,by have:=run_endLoop (P:=Tryd.prog) q2 (by rw [hlp];simp);rw [hlp] at this;exact this,?_⟩
    exact hdone _ _ (hI _ _ _ _ q1 (by omega) (fun _ _ _ e=>by rw [q2] at e;cases e) (chg_put _ _ _ rfl)) (Nat.le_refl _) ((World.putObj_heap_other (by omega)).trans q3)
   ·refine ⟨some .ret,_,by have:=run_endLoop (P:=Tryd.prog) q2 (by rw [hlp];simp);rw [hlp] at this;exact this,?_⟩
    exact hstop _ pre x post _ hx (hIx _ _ _ _ q1 (by omega) (fun _ _ _ e=>by rw [q2] at e;cases e) (chg_put _ _ _ rfl)) (Nat.le_refl _) ((World.putObj_heap_other (by omega)).trans q3)
theorem rangeN_law {α:Type} {g:Operand} {ps:Array Tmp} {assign body:Code} {Q:Exit→Act→World→Prop} {a:Act} {w:World} {n gf:Nat} {lb:Array Value} {l₀:Nat} {r₀:Loop} (hl₀:w.heap[l₀]? = some (.loop r₀))
  (hg:a.eval g=.func (.func gf) #[] lb) (eg:∀ args w,(callFunc gf args).run Tryd.prog w=.ok (.enter gf args) w)
  {encs:α→Array Value} {Kp:World→World→Prop} {xs:List α} (hit:IterR (n - 1) gf lb encs Kp xs w)
  (hKt:∀ {A B C:World},Kp A B→Kp B C→Kp A C) (hKb:∀ (W:World) (l:Nat) (o o':Obj),w.heap.size≤l→W.heap[l]? = some o→o.isCells=false→Kp W (W.putObj l o')) (hps:∀ x,(encs x).size=ps.size)
  (I Ix:List α→World→Prop) (hI:Calm w.heap.size I) (hIx:Calm w.heap.size Ix) (h0:I [] w)
  (hround:∀ (l:Nat) (pre:List α) (x:α) (W:World),I pre W→(∃ post,xs=pre ++ x :: post)→w.heap.size≤l→l<W.heap.size →
   assign.wpIn (Fence.wide.inRound l) (n - 1 - 1) Tryd.prog (Exit.then (fun a1 w1=>KeepsFrom w.heap.size W w1∧Kp W w1∧I pre w1∧∀ w2,Chg (fun k=>k=l) w1 w2→(∃ r,w2.heap[l]? = some (.loop r))→I pre w2→body.wpIn (Fence.wide.inRound l) (n - 1 - 1) Tryd.prog (fun e _ W'=>LeftW w.heap.size Kp I Ix pre x w2 e W') a1 w2) (fun _ _ _=>False)) { tmps:=(ps.zip (encs x)).foldl (fun t (p,v)=>t.setIfInBounds p v) a.tmps,defers:=[] } W)
  (hdone:∀ (W:World),I xs W→Q .normal a W)
  (hstop:∀ (pre:List α) (x:α) (post:List α) (W:World),xs=pre ++ x :: post→Ix (pre ++ [x]) W→Code.ret.wpIn (Fence.wide.inRound l₀) n Tryd.prog Q a W) :
  (Code.rangeFunc g ps assign body).wpIn (Fence.wide.inRound l₀) n Tryd.prog Q a w:=by
 refine wpIn_rangeFunc fun fn hfn=>?_
 obtain ⟨lp,hlp⟩ : ∃ lp:LoopState→Option Code→Loop,lp=fun st pe=>{ state:=st,pending:=pe,fn,tmps:=a.tmps,params:=ps,assign,body,defers:=r₀.defers }:=⟨_,rfl⟩
 have hbel:Below w.heap.size w (w.alloc (.loop (lp .ready none))):=(Below.refl _ w).alloc (Nat.le_refl _) _
 have hL:(w.alloc (.loop (lp .ready none))).heap[w.heap.size]? = some (.loop (lp .ready none)):=World.alloc_heap_new w _
 have hent:=run_enterLoop_inner (P:=Tryd.prog) (w:=w) hl₀ fn a.tmps ps assign body
 have hsz:(w.alloc (.loop (lp .ready none))).heap.size=w.heap.size+1:=by simp
 have h1:I [] (w.alloc (.loop (lp .ready none))):=hI _ _ _ w.heap.size h0 (Nat.le_refl _) (fun _ _ _ e=>by simp at e) ((Chg.refl _ w).alloc _)
 have hW:w.alloc (.loop { state:=.ready,pending:=none,fn,tmps:=a.tmps,params:=ps,assign,body,defers:=r₀.defers })=w.alloc (.loop (lp .ready none)):=by rw [hlp]
 rw [hW] at hent
 generalize w.alloc (.loop (lp .ready none))=W1 at *
 refine ⟨w.heap.size,[],W1,{ target:=.fn (.func gf) lb,args:=#[.func (.yield (w.heap.size)) #[] #[]] },W1,gf,#[.func (.yield (w.heap.size)) #[] #[]] ++ lb,W1,hent,?_,fun _ _=>trivial,?_,(fun h=>by cases h),?_⟩
 ·simp only [resolve,hg]
  simp [go_sem]
 ·simp [invoke,go_sem,eg]
 ·refine (hit (w.heap.size) (fun (pre:List α) (W:World)=>I pre W∧W.heap[w.heap.size]? = some (.loop (lp .ready none))) (fun (pre:List α) (W:World)=>Ix pre W∧W.heap[w.heap.size]? = some (.loop (lp .done (some .ret)))) W1 hbel ?_ ⟨h1,hL⟩).mono ?_
  ·rintro pre x W ⟨q1,q2⟩ hnext
   have hlt:=(Array.getElem?_eq_some_iff.1 q2).1
   have hy:=run_yield (P:=Tryd.prog) (args:=encs x) q2 (by rw [hlp];exact hps x)
   rw [hlp] at hy
   refine ⟨fn,_,assign,body,hy,roundIn_of_wpIn trivial (wpIn_mono (hround _ pre x W q1 hnext (Nat.le_refl _) hlt) ?_)⟩
   rintro e a3 w1 hp
   cases e with
   | normal =>
    obtain ⟨k1,k2,k3,k4⟩:=hp
    have l1:=k1.same _ _ (by omega) q2 rfl
    have hlt1:=(Array.getElem?_eq_some_iff.1 l1).1
    refine ⟨_,run_beginRound l1 (by rw [hlp]),?_⟩
    have c2:Chg (fun k=>k=w.heap.size) w1 (w1.putObj (w.heap.size) (.loop { lp .ready none with state:=.busy })):=chg_put _ _ _ rfl
    have i2:=hI _ _ _ _ k3 (by omega) (fun _ _ _ e=>by rw [l1] at e;cases e) c2
    have l2:(w1.putObj (w.heap.size) (.loop { lp .ready none with state:=.busy })).heap[w.heap.size]? = some (.loop { lp .ready none with state:=.busy }):=World.putObj_heap_same hlt1
    have kp2:Kp w1 (w1.putObj (w.heap.size) (.loop { lp .ready none with state:=.busy })):=hKb _ _ _ _ (by omega) l1 rfl
    refine wpIn_mono (k4 _ c2 ⟨_,l2⟩ i2) ?_
    have fin:∀ (jump:Option Code) (W3:World),KeepsFrom w.heap.size (w1.putObj (w.heap.size) (.loop { lp .ready none with state:=.busy })) W3 →
      (Instr.endRound (w.heap.size) jump).run Tryd.prog W3=.ok (.bool jump.isNone) (W3.putObj (w.heap.size) (.loop (lp (if jump.isNone then .ready else .done) jump))) ∧
      (W3.putObj (w.heap.size) (.loop (lp (if jump.isNone then .ready else .done) jump))).heap[w.heap.size]? = some (.loop (lp (if jump.isNone then .ready else .done) jump))∧W3.heap[w.heap.size]? = some (.loop { lp .ready none with state:=.busy }):=fun jump W3 k5=>by
     have l3:=k5.same _ _ (by omega) l2 rfl
     have hr:=run_endRound (P:=Tryd.prog) jump l3
     rw [hlp] at hr ⊢
     refine ⟨hr,World.putObj_heap_same (Array.getElem?_eq_some_iff.1 l3).1,?_⟩
     rw [hlp] at l3
     exact l3
    rintro e a4 W3 hp
    cases e with
    | normal =>
     obtain ⟨k5,k6,k7⟩:=hp
     obtain ⟨r1,r2,r4⟩:=fin none W3 k5
     exact ⟨_,_,r1,.inl ⟨rfl,⟨hI _ _ _ _ k7 (by omega) (fun _ _ _ e=>by rw [r4] at e;cases e) (chg_put _ _ _ rfl),r2⟩,hKt (hKt (hKt k2 kp2) k6) (hKb _ _ _ _ (by omega) r4 rfl)⟩⟩
    | ret =>
     obtain ⟨k5,k7⟩:=hp
     obtain ⟨r1,r2,r4⟩:=fin (some .ret) W3 k5
     exact ⟨_,_,r1,.inr ⟨rfl,hIx _ _ _ _ k7 (by omega) (fun _ _ _ e=>by rw [r4] at e;cases e) (chg_put _ _ _ rfl),r2⟩⟩
    | exit id=>exact hp.elim
    | goto t=>exact hp.elim
    | panic ch=>exact hp.elim
    | outgrown=>exact hp.elim
   | ret=>exact hp.elim
   | exit id=>exact hp.elim
   | goto t=>exact hp.elim
   | panic ch=>exact hp.elim
   | outgrown=>exact hp.elim
  ·rintro e W2 ⟨⟨v,rfl⟩,(⟨q1,q2⟩ | ⟨pre,x,post,hx,q1,q2⟩)⟩
   ·refine ⟨none,_,by have:=run_endLoop (P:=Tryd.prog) q2 (by rw [hlp];simp);rw [hlp] at this;exact this,?_⟩
    exact hdone _ (hI _ _ _ _ q1 (by omega) (fun _ _ _ e=>by rw [q2] at e;cases e) (chg_put _ _ _ rfl))
   ·refine ⟨some .ret,_,by have:=run_endLoop (P:=Tryd.prog) q2 (by rw [hlp];simp);rw [hlp] at this;exact this,?_⟩
    exact hstop pre x post _ hx (hIx _ _ _ _ q1 (by omega) (fun _ _ _ e=>by rw [q2] at e;cases e) (chg_put _ _ _ rfl))
end Go.Proofs.YtbohmcfplgdlpaaDoor

/- A region that draws its order, within a round of a loop: as one that stands in none, where nothing is deferred in it.
   Conditions: those that the theorems state. -/
namespace Go.Proofs.YtbohmcfplgdlpaaDoor
open Go.RowKit
theorem opIn_of {l n:Nat} {P:Program} {o:Oper} {a:Act} {w:World} {K:Act→World→Prop} {Q:Exit→Act→World→Prop} (hd:∀ c,o.op≠.defer c) (h:o.wp P a w K Q) :
  o.wpIn (Fence.wide.inRound l) n P a w K Q:=by
 refine ⟨fun _ _=>trivial,?_⟩
 rw [Oper.semAt_plain _ _ _ hd]
 unfold Oper.wp at h
 generalize (execOp a.eval o).run P w=r at h ⊢
 match r,h with
 | .ok (.value v) w',h=>exact h
 | .ok .skip w',h=>exact h
 | .ok (.defer d) w',h=>exact h
 | .ok (.enter f args) w',h =>
  refine ⟨(fun h=>by cases h),(callsIn_wide.2 h).mono ?_⟩
  intro e w2 h2
  cases e with
  | returned v=>exact h2
  | panicked ch=>exact h2
  | outgrown=>exact h2
 | .ok (.row row args) w',h =>
  refine ⟨(fun h=>by cases h),?_⟩
  intro c cs _
  obtain ⟨v,w2,h1,h2⟩:=h c cs
  exact ⟨v,w2,h1,stepsIn_wide.2 h2⟩
 | .halt (.panic v) w',h=>exact h
theorem wpAny_in {l n:Nat} {P:Program} {ops:Array Oper} {Q:Exit→Act→World→Prop} {md:Region.Mode} (hd:∀ (i:Nat) (o:Oper),ops[i]? = some o→∀ c,o.op≠.defer c) (hQ:∀ a w,¬ Q .outgrown a w) :
  ∀ (fuel:Nat) (s:Array Bool) (a:Act) (w:World),wpAny P md ops Q fuel s a w→wpAnyIn (Fence.wide.inRound l) n P md ops Q fuel s a w
 | 0,s,a,w,h=>h
 | fuel+1,s,a,w,h=>by
  refine ⟨h.1,fun i hi=>?_⟩
  have h2:=h.2 i hi
  unfold wpOp at h2
  unfold wpOpIn
  cases ho:ops[i]? with
  | none =>
   simp only [ho] at h2 ⊢
   exact wpAny_in hd hQ fuel _ _ _ h2
  | some o =>
   simp only [ho] at h2 ⊢
   split
   ·rename_i hw
    rw [if_pos hw] at h2
    rcases h2 with h2 | h2
    ·exact opIn_of (hd i o ho) (Oper.wp_mono (fun a w h=>wpAny_in hd hQ fuel _ a w h) h2)
    ·obtain ⟨a',w',h3⟩:=h2.2
     exact absurd h3 (hQ a' w')
   ·rename_i hw
    rw [if_neg hw] at h2
    exact ⟨fun _ _=>trivial,wpAny_in hd hQ fuel _ _ _ h2⟩
theorem noDefer_of {l:List Oper} (h:l.all (fun o=>match o.op with | .defer _=>false | _=>true)=true):∀ (i:Nat) (o:Oper),l.toArray[i]? = some o→∀ c,o.op≠.defer c:=by
 intro i o ho c hc
 have hm:o∈l:=List.mem_of_getElem? (by simpa using ho)
 have:=List.all_eq_true.1 h o hm
 rw [hc] at this
 cases this
theorem regionIn_tail {lp k id:Nat} {P:Program} {Q:Exit→Act→World→Prop} {a:Act} {w:World} {l:List Oper} (n:Nat) (hm:P.follows .mixedOrders=true) (hB:Region.lexTailB .any l.toArray n=true)
  (hd:l.all (fun o=>match o.op with | .defer _=>false | _=>true)=true) (hQ:∀ a w,¬ Q .outgrown a w)
  (h:wpStill P l.toArray (w.drew) (fun a'=>wpList P l.toArray Q (l.drop n) a' w.drew) (l.take n) a):(Code.region id l.toArray true).wpIn (Fence.wide.inRound lp) k P Q a w:=by
 simp only [Region.lexTailB,Bool.and_eq_true,decide_eq_true_eq] at hB
 obtain ⟨⟨⟨⟨hsel,hn⟩,hs⟩,hc⟩,hlex⟩:=hB
 have hn':n<l.length:=by simpa using hn
 have htl:(l.take n).length=n:=by simp;omega
 have hdl:(l.drop n).length=l.toArray.size - n:=by simp
 have inv0:HeadInv .any l.toArray n (Array.replicate l.toArray.size false) :=
  ⟨by simp,fun j oj _ hl=>(by rw [getD_replicate_false] at hl;cases hl),fun t _ ht=>getD_in (by simpa using ht) (getD_replicate_false _ _)⟩
 have H:=wpAnyL_lex (md:=.any) (g:=l.toArray.size - n) hsel hs hc hn (l.take n) 0 _ a (fun j hj=>by
  have hj':j<n:=by rw [htl] at hj;exact hj
  simp [hj']) (by simpa using htl) inv0 (by rw [htl];exact hlex) h
 refine wpIn_region_any hm (wpAny_in (noDefer_of hd) hQ _ _ _ _ ?_)
 have:=wpAny_of_head (Q':=Q) (g:=l.toArray.size - n) (fun listed a' hL=>by
  have:=wpAny_of_seq (md:=.any) (Q':=Q) (l.drop n) n listed a' w.drew (fun j=>by simp [List.getElem?_drop]) (by rw [hdl];exact hL.1) hL.2
  rwa [hdl] at this) _ _ _ H
 rw [htl,show n+(l.toArray.size - n)=l.toArray.size by omega] at this
 exact this
end Go.Proofs.YtbohmcfplgdlpaaDoor

/- The walker in memory: its position, the moves that it met, the joints: what a look and a store into its two sets come to.
   Conditions: those that each theorem states. -/
namespace Go.Proofs.YtbohmcfplgdlpaaDoor
open Go.RowKit Go.Maps
theorem ownsMap_at {H:Type} {P:Program} {k:TypeId} {R:Value→Option (DataW H×List MemPlace)} {w w':World} {b n:Nat} {D:DataW H} (h:w.ownsMap P k R b n D) (e:w'.heap[b]? = w.heap[b]?):w'.ownsMap P k R b n D:=by
 obtain ⟨es,c,hb,r⟩:=h
 exact ⟨es,c,e.trans hb,r⟩
theorem ownsMap_kind {H:Type} {P:Program} {k:TypeId} {R:Value→Option (DataW H×List MemPlace)} {w:World} {b n:Nat} {D:DataW H} (h:w.ownsMap P k R b n D):∃ es c,w.heap[b]? = some (.map es c):=by
 obtain ⟨es,c,hb,_⟩:=h
 exact ⟨es,c,hb⟩
def MetS (w:World) (b n:Nat) (S:St→Prop):Prop:=∃ D:DataW Unit,w.ownsMap Tryd.prog 102 unitElem b n D∧StsAre D S
def JoinS (w:World) (b n:Nat) (T:Jt→Prop):Prop:=∃ D:DataW Unit,w.ownsMap Tryd.prog 132 unitElem b n D∧JtsAre D T
theorem MetS.at {w w':World} {b n:Nat} {S:St→Prop} (h:MetS w b n S) (e:w'.heap[b]? = w.heap[b]?):MetS w' b n S:=let ⟨D,h1,h2⟩:=h;⟨D,ownsMap_at h1 e,h2⟩
theorem JoinS.at {w w':World} {b n:Nat} {S:Jt→Prop} (h:JoinS w b n S) (e:w'.heap[b]? = w.heap[b]?):JoinS w' b n S:=let ⟨D,h1,h2⟩:=h;⟨D,ownsMap_at h1 e,h2⟩
theorem MetS.mono {w:World} {b n n':Nat} {S:St→Prop} (h:MetS w b n S) (hn:n≤n'):MetS w b n' S:=let ⟨D,h1,h2⟩:=h;⟨D,h1.mono hn,h2⟩
theorem JoinS.mono {w:World} {b n n':Nat} {S:Jt→Prop} (h:JoinS w b n S) (hn:n≤n'):JoinS w b n' S:=let ⟨D,h1,h2⟩:=h;⟨D,h1.mono hn,h2⟩
theorem MetS.iff {w:World} {b n:Nat} {S S':St→Prop} (h:MetS w b n S) (hs:∀ s,S s↔S' s):MetS w b n S':=let ⟨D,h1,h2⟩:=h;⟨D,h1,h2.iff hs⟩
theorem JoinS.iff {w:World} {b n:Nat} {S S':Jt→Prop} (h:JoinS w b n S) (hs:∀ s,S s↔S' s):JoinS w b n S':=let ⟨D,h1,h2⟩:=h;⟨D,h1,h2.iff hs⟩
theorem MetS.kind {w:World} {b n:Nat} {S:St→Prop} (h:MetS w b n S):∃ es c,w.heap[b]? = some (.map es c):=let ⟨_,h1,_⟩:=h;ownsMap_kind h1
theorem JoinS.kind {w:World} {b n:Nat} {S:Jt→Prop} (h:JoinS w b n S):∃ es c,w.heap[b]? = some (.map es c):=let ⟨_,h1,_⟩:=h;ownsMap_kind h1
theorem MetS.lt {w:World} {b n:Nat} {S:St→Prop} (h:MetS w b n S):b<w.heap.size:=let ⟨_,h1,_⟩:=h;h1.lt
theorem JoinS.lt {w:World} {b n:Nat} {S:Jt→Prop} (h:JoinS w b n S):b<w.heap.size:=let ⟨_,h1,_⟩:=h;h1.lt
theorem zeroUnit (w:World):(zeroValue 159).run Tryd.prog w=.ok (.agg #[]) w:=by kernel_rfl
theorem chg_of_grown {w w':World} {b:Nat} (h:w.grownBy w' (some b)):Chg (fun k=>k=b) w w':=⟨h.os,h.tape,h.output,h.size,fun k hk hn=>h.block k hk (fun e=>hn (by injection e))⟩
theorem look_jt {w:World} {b n:Nat} {T:Jt→Prop} (h:JoinS w b n T) (j:Jt) (hj:Jt64 j):∃ B:Bool,(B=true↔T j)∧∀ w':World,w'.heap[b]? = w.heap[b]? →
  (Instr.lookup 90 (.map (some b)) (.agg #[.int .u64 j.fr,.int .u64 j.tt,.int .i64 j.kp,.bool j.ag]) true).run Tryd.prog w'=.ok (.tuple #[.agg #[],.bool B]) w':=by
 obtain ⟨D,h1,h2⟩:=h
 obtain ⟨l,hl⟩:=key_jt j hj
 refine ⟨Maps.has D l,h2 j l hj hl,fun w' e=>?_⟩
 obtain ⟨v,ps,hr,hv⟩:=(ownsMap_at h1 e).look_ok keyedJ Tryd.underlying90 (zeroUnit w') unitElem_mk hl
 obtain ⟨rfl,_⟩:=unitElem_inv hv
 exact hr
theorem put_jt {w:World} {b n:Nat} {T:Jt→Prop} (h:JoinS w b n T) (hn:n<maxLen) (j:Jt) (hj:Jt64 j):∃ w':World,
  (Instr.mapUpdate 90 (.map (some b)) (.agg #[.int .u64 j.fr,.int .u64 j.tt,.int .i64 j.kp,.bool j.ag]) (.agg #[])).run Tryd.prog w=.ok () w'∧JoinS w' b (n+1) (fun k=>T k∨k=j)∧Chg (fun k=>k=b) w w':=by
 obtain ⟨D,h1,h2⟩:=h
 obtain ⟨l,hl⟩:=key_jt j hj
 obtain ⟨w',hr,h3,h4⟩:=h1.update keyedJ Tryd.underlying90 hn hl unitElem_mk
 exact ⟨w',hr,⟨_,h3,h2.put h1.isMap hl _⟩,chg_of_grown h4⟩
theorem put_st {w:World} {b n:Nat} {S:St→Prop} (h:MetS w b n S) (hn:n<maxLen) (s:St) (hs:St63 s):∃ w':World,
  (Instr.mapUpdate 89 (.map (some b)) (.agg #[.int .i64 s.fr,.int .i64 s.tt,.int .i64 s.kp,.bool s.ag]) (.agg #[])).run Tryd.prog w=.ok () w'∧MetS w' b (n+1) (fun k=>S k∨k=s)∧Chg (fun k=>k=b) w w':=by
 obtain ⟨D,h1,h2⟩:=h
 obtain ⟨l,hl⟩:=key_st s hs
 obtain ⟨w',hr,h3,h4⟩:=h1.update keyedS Tryd.underlying89 hn hl unitElem_mk
 exact ⟨w',hr,⟨_,h3,h2.put h1.isMap hs hl _⟩,chg_of_grown h4⟩
def fromJ (j:Jt) (s:St):Prop:=j.fr.testBit s.fr=true∧j.tt.testBit s.tt=true∧s.kp=j.kp∧s.ag=j.ag
structure Wk (w:World) (wk mb jb at':Nat) (S:St→Prop) (T:Jt→Prop) (nm nj:Nat):Prop where
 row:w.heap[wk]? = some (.cells #[.int .i64 at',.map (some mb),.map (some jb)] 92 (0,0))
 met:MetS w mb nm S
 joi:JoinS w jb nj T
 ne:mb≠jb
 inv:∀ k,T k→∀ s,fromJ k s→S s
theorem Wk.wk_met {w:World} {wk mb jb at':Nat} {S:St→Prop} {T:Jt→Prop} {nm nj:Nat} (h:Wk w wk mb jb at' S T nm nj):wk≠mb∧wk≠jb:=by
 obtain ⟨e1,c1,h1⟩:=h.met.kind
 obtain ⟨e2,c2,h2⟩:=h.joi.kind
 constructor
 ·rintro rfl;rw [h.row] at h1;cases h1
 ·rintro rfl;rw [h.row] at h2;cases h2
theorem Wk.at {w w':World} {wk mb jb at':Nat} {S:St→Prop} {T:Jt→Prop} {nm nj:Nat} (h:Wk w wk mb jb at' S T nm nj) (e0:w'.heap[wk]? = w.heap[wk]?) (e1:w'.heap[mb]? = w.heap[mb]?) (e2:w'.heap[jb]? = w.heap[jb]?):Wk w' wk mb jb at' S T nm nj :=
 ⟨e0.trans h.row,h.met.at e1,h.joi.at e2,h.ne,h.inv⟩
theorem Wk.chg {w w':World} {R:Nat→Prop} {wk mb jb at':Nat} {S:St→Prop} {T:Jt→Prop} {nm nj:Nat} (h:Wk w wk mb jb at' S T nm nj) (hc:Chg R w w') (hR:¬ R wk∧¬ R mb∧¬ R jb):Wk w' wk mb jb at' S T nm nj :=
 h.at (hc.block _ (Array.getElem?_eq_some_iff.1 h.row).1 hR.1) (hc.block _ h.met.lt hR.2.1) (hc.block _ h.joi.lt hR.2.2)
end Go.Proofs.YtbohmcfplgdlpaaDoor

/- Meeting the moves of a joint: contract.
   Conditions: the library's table lies in memory. -/
namespace Go.Proofs.YtbohmcfplgdlpaaDoor
open Go.RowKit Go.Maps Go.Shelf
attribute [local go_sem] Oper.semAt_some
theorem wk_end {w w2:World} {wk mb jb at' nm nj:Nat} {S:St→Prop} {T:Jt→Prop} (h:Wk w wk mb jb at' S T nm nj) (j:Jt) (hT:T j) (hnm:nm≤nm+4096) (hc:Chg (fun _=>False) w w2) :
  Wk w2 wk mb jb at' (fun s=>S s∨fromJ j s) (fun k=>T k∨k=j) (nm+4096) (nj+1):=by
 have h2:=h.chg hc ⟨fun h=>h,fun h=>h,fun h=>h⟩
 refine ⟨h2.row,(h2.met.mono hnm).iff fun s=>⟨.inl,fun h3=>h3.elim id (h.inv j hT s)⟩,(h2.joi.mono (Nat.le_succ _)).iff fun k=>⟨.inl,?_⟩,h.ne,?_⟩
 ·rintro (h3 | rfl)
  ·exact h3
  ·exact hT
 ·rintro k (h3 | rfl) s hs
  ·exact .inl (h.inv k h3 s hs)
  ·exact .inr hs
def JO (j:Jt) (S:St→Prop) (mb nm:Nat) (w3:World) (pre:List Nat) (W:World):Prop :=
 MetS W mb (nm+64 * pre.length) (fun s=>S s∨(s.fr∈pre∧s.tt∈bitsL j.tt∧s.kp=j.kp∧s.ag=j.ag))∧Chg (fun b=>b=mb) w3 W
def JN (j:Jt) (S:St→Prop) (p mb nm:Nat) (w3:World) (pre:List Nat) (W:World):Prop :=
 MetS W mb (nm+pre.length) (fun s=>S s∨(s.fr=p∧s.tt∈pre∧s.kp=j.kp∧s.ag=j.ag))∧Chg (fun b=>b=mb) w3 W
theorem jo_calm {j:Jt} {S:St→Prop} {mb nm:Nat} {w3:World} (h:mb<w3.heap.size):Calm w3.heap.size (JO j S mb nm w3):=by
 rintro s W W' l ⟨h1,h2⟩ hl _ hc
 exact ⟨h1.at (hc.block _ h1.lt (by omega)),h2.trans hc (fun x hx e=>by omega)⟩
theorem jn_calm {j:Jt} {S:St→Prop} {p mb nm:Nat} {w3:World} (h:mb<w3.heap.size):Calm w3.heap.size (JN j S p mb nm w3):=by
 rintro s W W' l ⟨h1,h2⟩ hl _ hc
 exact ⟨h1.at (hc.block _ h1.lt (by omega)),h2.trans hc (fun x hx e=>by omega)⟩
theorem keeps_of_chg {B mb:Nat} {W W':World} (h:Chg (fun b=>b=mb) W W') (hB:mb<B):KeepsFrom B W W' :=
 ⟨h.size,fun k o hk ho _=>(h.block k (Array.getElem?_eq_some_iff.1 ho).1 (by omega)).trans ho⟩
theorem bit64 {x i:Nat} (hx:x<18446744073709551616) (h:x.testBit i=true):i<64:=by
 by_cases h1:i<64
 ·exact h1
 ·exfalso
  have:x<2 ^ i:=Nat.lt_of_lt_of_le hx (by
   have:=Nat.pow_le_pow_right (n:=2) (by decide) (show 64≤i by omega)
   simpa using this)
  rw [Nat.testBit_lt_two_pow this] at h
  cases h
theorem bits_len (x:Nat):(bitsL x).length≤64:=by
 unfold bitsL
 exact Nat.le_trans (List.length_filter_le _ _) (by simp)
theorem tab_ne {w:World} (h:TabE w) {b:Nat} {es:_} {c:_} (hb:w.heap[b]? = some (.map es c)):tabE≠b:=by
 rintro rfl
 have h0:w.cell? ⟨tabE,0,none⟩=_:=h 0 (by decide)
 unfold World.cell? at h0
 rw [show w.heap[(⟨tabE,0,none⟩ : Addr).block]? = _ from hb] at h0
 cases h0
theorem wp_one {c:Code} {n:Nat} {P:Program} {Q:Exit→Act→World→Prop} {a:Act} {w:World} (A:Act) (W:World) (h:c.wp P (fun e a' w'=>e=.normal∧a'=A∧w'=W) a w) (hq:Q .normal A W):c.wpIn Fence.wide n P Q a w :=
 wpIn_wide.2 (wp_mono h fun e a' w' ⟨h1,h2,h3⟩=>by subst h1 h2 h3;exact hq)
theorem wpIn_one {c:Code} {F:Fence} {n:Nat} {P:Program} {Q:Exit→Act→World→Prop} {a:Act} {w:World} (A:Act) (W:World) (h:c.wpIn F n P (fun e a' w'=>e=.normal∧a'=A∧w'=W) a w) (hq:Q .normal A W):c.wpIn F n P Q a w :=
 wpIn_mono h fun e a' w' ⟨h1,h2,h3⟩=>by subst h1 h2 h3;exact hq
set_option maxRecDepth 100000 in
set_option maxHeartbeats 4000000 in
theorem join_in (w:World) {wk mb jb at' nm nj:Nat} {S:St→Prop} {T:Jt→Prop} (hW:Wk w wk mb jb at' S T nm nj) (j:Jt) (hj:Jt64 j) (hT:TabE w) (hTl:tabE<w.heap.size) (hnm:nm+4096<maxLen) (hnj:nj+1<maxLen) :
  CallsIn Fence.wide 9 Tryd.prog 52 #[.pointer (some ⟨wk,0,none⟩),.agg #[.int .u64 j.fr,.int .u64 j.tt,.int .i64 j.kp,.bool j.ag]] w fun e w' =>
   e=.returned (.tuple #[])∧Wk w' wk mb jb at' (fun s=>S s∨fromJ j s) (fun k=>T k∨k=j) (nm+4096) (nj+1)∧Chg (fun b=>b=mb∨b=jb) w w':=by
 refine callsIn_of_wp_marks Tryd.func52 rfl trivial ?_ rfl
 simp only [Tryd.ntmps52,List.size_toArray,List.length_cons,List.length_nil,Nat.reduceAdd,Nat.reduceSub,Array.replicate_succ,Array.replicate_zero,List.push_toArray,List.append_toArray,List.nil_append,List.cons_append]
 gi_wp2
 obtain ⟨w0,hw0⟩ : ∃ w0,(w.alloc (.cells #[.pointer (some ⟨wk,0,none⟩)] 68)).alloc (.cells #[.int .u64 j.fr,.int .u64 j.tt,.int .i64 j.kp,.bool j.ag] 132)=w0:=⟨_,rfl⟩
 rw [hw0]
 have hc0:Chg (fun _=>False) w w0:=hw0▸((Chg.refl _ w).alloc _).alloc _
 have hs0:w0.heap.size=w.heap.size+1+1:=by rw [← hw0];simp
 have hb0:w0.heap[w.heap.size]? = some (.cells #[.pointer (some ⟨wk,0,none⟩)] 68 (0,0)):=by
  rw [← hw0];exact (Below.heap_alloc _ _ _ (by simp)).trans (heap_alloc_new w _)
 have hb1:w0.heap[w.heap.size+1]? = some (.cells #[.int .u64 j.fr,.int .u64 j.tt,.int .i64 j.kp,.bool j.ag] 132 (0,0)):=by
  rw [← hw0]
  have:=heap_alloc_new (w.alloc (.cells #[.pointer (some ⟨wk,0,none⟩)] 68)) (.cells #[.int .u64 j.fr,.int .u64 j.tt,.int .i64 j.kp,.bool j.ag] 132)
  simpa using this
 have hW0:=hW.chg hc0 ⟨fun h=>h,fun h=>h,fun h=>h⟩
 have hT0:w0.heap[tabE]? = w.heap[tabE]?:=hc0.block _ hTl (fun h=>h)
 clear hw0
 have c0:=(row_cells hb0).1 0
 have c1:=(row_cells hb1).1 0
 have c2:=(row_cells hb1).1 1
 have c3:=(row_cells hb1).1 2
 have c4:=(row_cells hb1).1 3
 have k1:=(row_cells hW0.row).1 1
 have k2:=(row_cells hW0.row).1 2
 simp at c0 c1 c2 c3 c4 k1 k2
 obtain ⟨B,hB,hlk⟩:=look_jt hW0.joi j hj
 have l1:=hlk w0.drew rfl
 have l2:∀ o,(Instr.lookup 90 (.map (some jb)) (.agg #[.int .u64 j.fr,.int .u64 j.tt,.int .i64 j.kp,.bool j.ag]) true).run Tryd.prog (w0.alloc o).drew=.ok (.tuple #[.agg #[],.bool B]) (w0.alloc o).drew:=fun o=>hlk _ (Below.heap_alloc w0 o _ hW0.joi.lt)
 have b1:w.heap.size<w0.heap.size:=by omega
 have b2:w.heap.size+1<w0.heap.size:=by omega
 have b3:wk<w0.heap.size:=(Array.getElem?_eq_some_iff.1 hW0.row).1
 have HB:=Lib.hid hB
 have HW:=Lib.hid (And.intro hW (And.intro hW0 (And.intro hc0 (And.intro hb0 (And.intro hb1 (And.intro hs0 (And.intro hT0 (And.intro hT (And.intro hTl (And.intro hj (And.intro hnm hnj)))))))))))
 clear hB hlk hW hW0 hc0 hb0 hb1 hs0 hT0 hT hTl hj hnm hnj
 apply wp_one
 ·go_region
  all_goals exact ⟨rfl,rfl,rfl⟩
 cases B with
 | true =>
  gi_wp2
  obtain ⟨hW,hW0,hc0,hb0,hb1,hs0,hT0,hT,hTl,hj,hnm,hnj⟩:=HW.out
  have hc1:Chg (fun _=>False) w0 (w0.alloc (Obj.cells #[] 159)).drew:=((Chg.refl _ w0).alloc _).drew
  have hc2:=hc0.trans hc1 (fun _ _ h=>h)
  exact ⟨_,results_none rfl _ _ _,rfl,wk_end hW j (HB.out.1 trivial) (by omega) hc2,hc2.mono (fun _ _ h=>h.elim)⟩
 | false =>
  clear l1 l2 b1 b2 b3 c0 c1 c2 c3 c4 k1 k2
  obtain ⟨w1,hw1⟩ : ∃ w1,(w0.alloc (Obj.cells #[] 159)).drew=w1:=⟨_,rfl⟩
  rw [hw1]
  have hc1:Chg (fun _=>False) w0 w1:=hw1▸((Chg.refl _ w0).alloc _).drew
  clear hw1
  obtain ⟨hW,hW0,hc0,hb0,hb1,hs0,hT0,hT,hTl,hj,hnm,hnj⟩:=HW.out
  have hW1:=hW0.chg hc1 ⟨fun h=>h,fun h=>h,fun h=>h⟩
  have hb0':=(hc1.block _ (by omega) (fun h=>h)).trans hb0
  have hb1':=(hc1.block _ (by omega) (fun h=>h)).trans hb1
  have c0:=(row_cells hb0').1 0
  have c1:=(row_cells hb1').1 0
  have c2:=(row_cells hb1').1 1
  have c3:=(row_cells hb1').1 2
  have c4:=(row_cells hb1').1 3
  have k2:=(row_cells hW1.row).1 2
  simp at c0 c1 c2 c3 c4 k2
  obtain ⟨w2,hr2,hj2,hc2⟩:=put_jt (w:=w1.drew) (hW1.joi.at rfl) (by omega) j hj
  have H2:=Lib.hid (And.intro hj2 (And.intro hc2 (And.intro hc1 (And.intro hW1 (And.intro hb0' hb1')))))
  clear hW hW0 hc0 hb0 hb1 hs0 hT0 hT hTl hj hnm hnj hj2 hc2 hc1 hW1 hb0' hb1'
  gi_wp2
  apply wp_one
  ·go_still_tail 6,(by kernel_rfl)
   change wpList _ _ _ _ _ (World.drew w1)
   go_wp2_with fail
   first | exact ⟨rfl,rfl,rfl⟩ | exact ⟨rfl,rfl⟩ | rfl
  obtain ⟨hj2,hc2,hc1,hW1,hb0',hb1'⟩:=H2.out
  obtain ⟨hW,hW0,hc0,hb0,hb1,hs0,hT0,hT,hTl,hj,hnm,hnj⟩:=HW.out
  have hc02:Chg (fun b=>b=jb) w0 w2:=(hc1.drew.mono (R':=fun b=>b=jb) (fun _ _ h=>h.elim)).trans hc2 (fun _ _ h=>h)
  have hmlt:=hW0.met.lt
  have hjlt:=hW.joi.lt
  have hwk:=hW0.wk_met
  have hwlt:=(Array.getElem?_eq_some_iff.1 hW0.row).1
  have hmet2:MetS w2 mb nm S:=hW0.met.at (hc02.block _ hmlt hW0.ne)
  have hrow2:=(hc02.block wk hwlt hwk.2).trans hW0.row
  have hB0:=(hc02.block _ (by omega) (fun e=>by omega)).trans hb0
  have hB1:=(hc02.block _ (by omega) (fun e=>by omega)).trans hb1
  obtain ⟨es,cl,hjk⟩:=hW.joi.kind
  obtain ⟨em,clm,hmk⟩:=hW.met.kind
  have htm:=tab_ne hT hmk
  have htj:=tab_ne hT hjk
  have hT2:w2.heap[tabE]? = w.heap[tabE]?:=(hc02.block _ (by omega) htj).trans hT0
  have hs2:=hc02.size
  have c1':=(row_cells hB1).1 0
  simp at c1'
  obtain ⟨w3,hw3⟩ : ∃ w3,w2.alloc (.cells #[.int .u64 j.fr] 70)=w3:=⟨_,rfl⟩
  have hc3:Chg (fun _=>False) w2 w3:=hw3▸(Chg.refl _ w2).alloc _
  have hs3:w3.heap.size=w2.heap.size+1:=by rw [← hw3];simp
  have hp3:w3.cell? ⟨w2.heap.size,0,none⟩=some (.int .u64 j.fr):=by rw [← hw3];simp
  have hB0':=(hc3.block _ (by omega) (fun h=>h)).trans hB0
  have hB1':=(hc3.block _ (by omega) (fun h=>h)).trans hB1
  have hrow3:=(hc3.block _ (by omega) (fun h=>h)).trans hrow2
  have hmet3:MetS w3 mb nm S:=hmet2.at (hc3.block _ hmet2.lt (fun h=>h))
  have hj3:JoinS w3 jb (nj+1) (fun k=>T k∨k=j):=hj2.at (hc3.block _ hj2.lt (fun h=>h))
  have hT3:w3.heap[tabE]? = w.heap[tabE]?:=(hc3.block _ (by omega) (fun h=>h)).trans hT2
  have hc03:Chg (fun b=>b=jb) w0 w3:=hc02.trans hc3 (fun _ _ h=>h.elim)
  have HF:=Lib.hid (And.intro hB0' (And.intro hB1' (And.intro hrow3 (And.intro hj3 (And.intro hT3 (And.intro hc03 (And.intro hs3 (And.intro hwk (And.intro htm htj)))))))))
  have HN:=Lib.hid (And.intro hW (And.intro hW0.ne (And.intro hc0 (And.intro hs0 (And.intro hT (And.intro hTl (And.intro hj (And.intro hnm (And.intro hnj (And.intro hmlt (And.intro hjlt (And.intro hwlt hs2))))))))))))
  have hm3:mb<w3.heap.size:=hmet3.lt
  have hit:=each_iter 8 w2.heap.size j.fr w3 (by omega) hp3 hj.fr (fun i hi=>(World.cell?_of_block (w:=w) hT3).trans (hT i hi)) (by omega)
  have h0:JO j S mb nm w3 [] w3:=⟨hmet3.iff fun s=>by simp,Chg.refl _ _⟩
  clear hj2 hc2 hc1 hW1 hb0' hb1' hW hW0 hc0 hb0 hb1 hs0 hT0 hT hTl hj hnm hnj hc02 hmlt hjlt hwk hwlt hmet2 hrow2 hB0 hB1 hjk hmk htm htj hT2 hs2 hc3 hs3 hp3 hB0' hB1' hrow3 hmet3 hj3 hT3 hc03 c0 c1 c2 c3 c4 k2 hr2
  gi_wp2_with (refine ⟨trivial,?_⟩;gi_at_call 25;refine (callsIn_wide.2 (each_any _ _)).mono ?_;rintro e w' ⟨rfl,rfl⟩)
  clear hw3 c1'
  refine rangeW_law (n:=9) (gf:=38) (lb:=#[.pointer (some ⟨w2.heap.size,0,none⟩)]) rfl (enters_of Tryd.func38 (by kernel_rfl) rfl)
   hit kpE_t (fun W k o o2 hk _ _=>⟨World.putObj_heap_other (by have:=HF.out;omega),World.putObj_heap_other (by have:=HF.out;have:=HN.out;omega)⟩) (fun _=>rfl)
   (JO j S mb nm w3) (fun _ _=>False) (jo_calm hm3) (fun _ _ _ _ h=>h.elim) h0 ?round ?done ?stop
  case stop=>intro D pre x post W _ h _ _;exact h.elim
  case round =>
   clear h0 hit
   intro l pre p W hI hnext hl1 hl2
   obtain ⟨hB0,hB1,hrow3,hj3,hT3,hc03,hs3,hwk,htm,htj⟩:=HF.out
   obtain ⟨hW,hne,hc0,hs0,hT,hTl,hj,hnm,hnj,hmlt,hjlt,hwlt,hs2⟩:=HN.out
   have hpm:p∈bitsL j.fr:=by obtain ⟨post,h⟩:=hnext;rw [h];simp
   have hplen:pre.length<64:=by
    obtain ⟨post,h⟩:=hnext
    have:=bits_len j.fr
    rw [h] at this
    simp at this
    omega
   have hp64:p<64:=(mem_bits.1 hpm).1
   have HP:=Lib.hid (And.intro hnext (And.intro hpm (And.intro hplen hp64)))
   have hsW:=hI.2.size
   have HI0:=Lib.hid hI
   have hIa:JO j S mb nm w3 pre (W.alloc (.cells #[.int .i64 p] 3)):=⟨hI.1.at (Below.heap_alloc _ _ _ hI.1.lt),hI.2.alloc _⟩
   have HIA:=Lib.hid hIa
   clear hnext hpm hplen hp64 hI hIa hB0 hB1 hrow3 hj3 hT3 hc03 hs3 hwk htm htj hW hne hc0 hs0 hT hTl hj hnm hnj hmlt hjlt hwlt hs2
   simp only [encE]
   gi_wp2
   refine ⟨(KeepsOthers.alloc W _).from _,⟨Below.heap_alloc _ _ _ (by have:=HF.out;omega),Below.heap_alloc _ _ _ (by have:=HF.out;have:=HN.out;omega)⟩,HIA.out,?_⟩
   intro w5 hc5 hrl hI5
   obtain ⟨rl,hrl⟩:=hrl
   obtain ⟨hB0,hB1,hrow3,hj3,hT3,hc03,hs3,hwk,htm,htj⟩:=HF.out
   obtain ⟨hW,hne,hc0,hs0,hT,hTl,hj,hnm,hnj,hmlt,hjlt,hwlt,hs2⟩:=HN.out
   obtain ⟨hnext,hpm,hplen,hp64⟩:=HP.out
   have hmw:=hW.met.lt
   have hlr:=(Array.getElem?_eq_some_iff.1 hrl).1
   have hsW5:=hc5.size
   simp at hsW5
   obtain ⟨w6,hw6⟩ : ∃ w6,w5.alloc (.cells #[.int .u64 j.tt] 70)=w6:=⟨_,rfl⟩
   have hc6:Chg (fun _=>False) w5 w6:=hw6▸(Chg.refl _ w5).alloc _
   have hs6:w6.heap.size=w5.heap.size+1:=by rw [← hw6];simp
   have hp6:w6.cell? ⟨w5.heap.size,0,none⟩=some (.int .u64 j.tt):=by rw [← hw6];simp
   have hrl6:=(hc6.block _ hlr (fun h=>h)).trans hrl
   have hc36:Chg (fun b=>b=mb) w3 w6:=hI5.2.trans hc6 (fun _ _ h=>h.elim)
   have hB05:=(hI5.2.block _ (by omega) (by omega)).trans hB0
   have hB15:=(hI5.2.block _ (by omega) (by omega)).trans hB1
   have hB06:=(hc36.block _ (by omega) (by omega)).trans hB0
   have hB16:=(hc36.block _ (by omega) (by omega)).trans hB1
   have hrow6:=(hc36.block _ (by omega) hwk.1).trans hrow3
   have hT6:=(hc36.block _ (by omega) htm).trans hT3
   have hf5:w5.heap[W.heap.size]? = some (.cells #[.int .i64 p] 3 (0,0)):=(hc5.block _ (by simp) (fun e=>by have e:W.heap.size=l:=e;omega)).trans (heap_alloc_new W _)
   have hf6:=(hc6.block _ (by omega) (fun h=>h)).trans hf5
   have d2:=(row_cells hB15).1 1
   simp at d2
   have hm6:mb<w6.heap.size:=by omega
   have hJ6:MetS w6 mb (nm+64 * pre.length) (fun s=>S s∨(s.fr∈pre∧s.tt∈bitsL j.tt∧s.kp=j.kp∧s.ag=j.ag)):=hI5.1.at (hc6.block _ hI5.1.lt (fun h=>h))
   have hit2:=each_iter 6 w5.heap.size j.tt w6 (by omega) hp6 hj.tt (fun i hi=>(World.cell?_of_block (w:=w) hT6).trans (hT i hi)) (by omega)
   have h02:JN j (fun s=>S s∨(s.fr∈pre∧s.tt∈bitsL j.tt∧s.kp=j.kp∧s.ag=j.ag)) p mb (nm+64 * pre.length) w6 [] w6:=⟨hJ6.iff fun s=>by simp,Chg.refl _ _⟩
   have H6:=Lib.hid (And.intro hc6 (And.intro hs6 (And.intro hc36 (And.intro hB06 (And.intro hB16 (And.intro hrow6 (And.intro hf6 (And.intro hsW5 (And.intro hs3 (And.intro hlr (And.intro hmw (And.intro hm6 hsW))))))))))))
   have HI5:=Lib.hid hI5
   clear hB0 hB1 hrow3 hj3 hT3 hc03 hs3 hwk htm htj hW hne hc0 hs0 hT hTl hj hnm hnj hmlt hjlt hwlt hs2 hnext hpm hplen hp64 hc5 hrl hI5 hmw hlr hsW5 hc6 hs6 hp6 hc36 hB05 hB15 hB06 hB16 hrow6 hT6 hf5 hf6 hJ6 hsW hl1 hl2
   gi_wp2_with (refine ⟨trivial,?_⟩;refine (((callsIn_wide.2 (each_any _ _)).inRound l).mono ?_);rintro e w' ⟨rfl,rfl⟩)
   clear hw6 d2
   refine rangeN_law (n:=7) (l₀:=l) (r₀:=rl) hrl6 (gf:=38) (lb:=#[.pointer (some ⟨w5.heap.size,0,none⟩)]) rfl (enters_of Tryd.func38 (by kernel_rfl) rfl)
    hit2 kpE_t (fun W k o o2 hk _ _=>⟨World.putObj_heap_other (by have:=H6.out;omega),World.putObj_heap_other (by have:=H6.out;have:=HF.out;have:=HN.out;omega)⟩) (fun _=>rfl)
    (JN j (fun s=>S s∨(s.fr∈pre∧s.tt∈bitsL j.tt∧s.kp=j.kp∧s.ag=j.ag)) p mb (nm+64 * pre.length) w6) (fun _ _=>False) (jn_calm H6.out.2.2.2.2.2.2.2.2.2.2.2.1) (fun _ _ _ _ h=>h.elim) h02 ?round2 ?done2 ?stop2
   case stop2=>intro pre x post W _ h;exact h.elim
   case round2 =>
    clear h02 hit2 hrl6
    intro l2 pre2 q W2 hI2 hnext2 hl21 hl22
    have hI2':=Lib.hid hI2
    have HX:=Lib.hid hnext2
    clear hI2 hnext2
    simp only [encE]
    gi_wp2
    refine ⟨KeepsFrom.refl _ _,⟨rfl,rfl⟩,hI2'.out,?_⟩
    intro w8 hc8 _ hI8
    clear hc8
    obtain ⟨hc6,hs6,hc36,hB06,hB16,hrow6,hf6,hsW5,hs3,hlr,hmw,hm6,hsW⟩:=H6.out
    obtain ⟨hW,hne,hc0,hs0,hT,hTl,hj,hnm,hnj,hmlt,hjlt,hwlt,hs2⟩:=HN.out
    obtain ⟨hnext,hpm,hplen,hp64⟩:=HP.out
    have hqm:q∈bitsL j.tt:=by obtain ⟨post,h⟩:=HX.out;rw [h];simp
    have hqlen:pre2.length<64:=by
     obtain ⟨post,h⟩:=HX.out
     have:=bits_len j.tt
     rw [h] at this
     simp at this
     omega
    have hq64:q<64:=(mem_bits.1 hqm).1
    have hwk:=HF.out.2.2.2.2.2.2.2.1
    have d0:=(row_cells ((hI8.2.block _ (by omega) (by omega)).trans hB06)).1 0
    have e0:=(row_cells ((hI8.2.block _ (by omega) (by omega)).trans hB16)).1 2
    have e1:=(row_cells ((hI8.2.block _ (by omega) (by omega)).trans hB16)).1 3
    have e2:=(row_cells ((hI8.2.block _ (by omega) hwk.1).trans hrow6)).1 1
    have e3:=(row_cells ((hI8.2.block _ (by omega) (by omega)).trans hf6)).1 0
    simp at d0 e0 e1 e2 e3
    have hn9:nm+64 * pre.length+pre2.length<maxLen:=by omega
    obtain ⟨w9,hr9,hm9,hc9⟩:=put_st (w:=w8.drew) (hI8.1.at rfl) hn9 ⟨p,q,j.kp,j.ag⟩ ⟨by show p<_;omega,by show q<_;omega,hj.kp⟩
    have H9:=Lib.hid (And.intro hm9 (And.intro hc9 (And.intro hI8 (And.intro hm6 (And.intro hs3 hT)))))
    clear hc6 hs6 hc36 hB06 hB16 hrow6 hf6 hsW5 hs3 hlr hmw hm6 hsW hW hne hc0 hs0 hT hTl hj hnm hnj hmlt hjlt hwlt hs2 hnext hpm hplen hp64 hqm hqlen hq64 hwk hn9 hm9 hc9 hI8 hl21 hl22
    gi_wp2
    apply wpIn_one
    ·refine regionIn_tail 13 (by kernel_rfl) (by kernel_rfl) (by rfl) (fun _ _ h=>by cases h.1) ?_
     simp only [List.take_succ_cons,List.take_zero,List.drop_succ_cons,List.drop_zero]
     repeat still_step
     try refine wpStill_nil ?_
     go_wp2_with fail
     first | exact ⟨rfl,rfl,rfl⟩ | exact ⟨rfl,rfl⟩ | rfl
    gi_wp2
    obtain ⟨hm9,hc9,hI8,hm6,hs3,hT⟩:=H9.out
    obtain ⟨hc6,hs6,hc36,hB06,hB16,hrow6,hf6,hsW5,_,hlr,hmw,_,hsW⟩:=H6.out
    obtain ⟨hW,hne,hc0,hs0,_,hTl,hj,hnm,hnj,hmlt,hjlt,hwlt,hs2⟩:=HN.out
    have htm:=HF.out.2.2.2.2.2.2.2.2.1
    have hc89:Chg (fun b=>b=mb) w8 w9:=(Chg.refl (fun b=>b=mb) w8).drew.trans hc9 (fun _ _ h=>h)
    have hs8:=hI8.2.size
    refine ⟨keeps_of_chg hc89 hm6,⟨hc89.block _ (by omega) (by omega),hc89.block _ (by omega) htm⟩,?_,hI8.2.trans hc89 (fun _ _ h=>h)⟩
    rw [List.length_append,List.length_singleton,← Nat.add_assoc]
    refine hm9.iff fun s=>⟨?_,?_⟩
    ·rintro ((h | ⟨h1,h2,h3⟩) | rfl)
     ·exact .inl h
     ·exact .inr ⟨h1,List.mem_append.2 (.inl h2),h3⟩
     ·exact .inr ⟨rfl,by simp,rfl,rfl⟩
    ·rintro (h | ⟨h1,h2,h3,h4⟩)
     ·exact .inl (.inl h)
     ·rcases List.mem_append.1 h2 with h2 | h2
      ·exact .inl (.inr ⟨h1,h2,h3,h4⟩)
      ·right
       obtain ⟨a,b,c,d⟩:=s
       have h2:=List.mem_singleton.1 h2
       simp at h1 h2 h3 h4
       subst h1 h2 h3 h4
       rfl
   case done2 =>
    clear h02 hit2 hrl6
    intro W9 hI9
    have HI9:=Lib.hid hI9
    clear hI9
    gi_wp2
    obtain ⟨hI91,hI92⟩:=HI9.out
    obtain ⟨hc6,hs6,hc36,hB06,hB16,hrow6,hf6,hsW5,hs3,hlr,hmw,_,hsW⟩:=H6.out
    obtain ⟨hW,hne,hc0,hs0,_,hTl,hj,hnm,hnj,hmlt,hjlt,hwlt,hs2⟩:=HN.out
    have htm:=HF.out.2.2.2.2.2.2.2.2.1
    have hs35:=HI5.out.2.size
    have hc59:Chg (fun b=>b=mb) w5 W9:=(hc6.mono (R':=fun b=>b=mb) (fun _ _ h=>h.elim)).trans hI92 (fun _ _ h=>h)
    refine ⟨keeps_of_chg hc59 hm3,⟨hc59.block _ (by omega) (by omega),hc59.block _ (by omega) htm⟩,?_,HI5.out.2.trans hc59 (fun _ _ h=>h)⟩
    have hbl:=bits_len j.tt
    refine (hI91.mono (show _≤nm+64 * (pre ++ [p]).length by rw [List.length_append,List.length_singleton];omega)).iff fun s=>⟨?_,?_⟩
    ·rintro ((h | ⟨h1,h2⟩) | ⟨h1,h2⟩)
     ·exact .inl h
     ·exact .inr ⟨List.mem_append.2 (.inl h1),h2⟩
     ·exact .inr ⟨by rw [h1];simp,h2⟩
    ·rintro (h | ⟨h1,h2⟩)
     ·exact .inl (.inl h)
     ·rcases List.mem_append.1 h1 with h1 | h1
      ·exact .inl (.inr ⟨h1,h2⟩)
      ·exact .inr ⟨List.mem_singleton.1 h1,h2⟩
  case done =>
   clear h0 hit
   intro D W hI hD hK
   have HK:=Lib.hid hK
   have HD:=Lib.hid (And.intro hI hD)
   clear hI hD hK
   gi_wp2
   refine ⟨by simp,.inl ⟨_,_,rfl,run_takeDeferred HK.out,?_⟩⟩
   obtain ⟨⟨hm,hc3W⟩,hD⟩:=HD.out
   obtain ⟨hB0,hB1,hrow3,hj3,hT3,hc03,hs3,hwk,htm,htj⟩:=HF.out
   obtain ⟨hW,hne,hc0,hs0,hT,hTl,hj,hnm,hnj,hmlt,hjlt,hwlt,hs2⟩:=HN.out
   have hsW:=hc3W.size
   have hcp:Chg (fun b=>b=D) W (W.putObj D (.deferred none)):=chg_put _ _ _ rfl
   have hw3:=hc03.size
   have hc3D:Chg (fun b=>b=mb) w3 (W.putObj D (.deferred none)):=hc3W.trans hcp (fun x hx e=>by omega)
   have hc0D:Chg (fun b=>b=mb∨b=jb) w0 (W.putObj D (.deferred none)):=(hc03.mono (R':=fun b=>b=mb∨b=jb) (fun _ _ h=>.inr h)).trans hc3D (fun _ _ h=>.inl h)
   refine ⟨_,results_none rfl _ _ _,rfl,⟨?_,?_,?_,hW.ne,?_⟩,(hc0.mono (R':=fun b=>b=mb∨b=jb) (fun _ _ h=>h.elim)).trans hc0D (fun _ _ h=>h)⟩
   ·exact (hc3D.block _ (by omega) hwk.1).trans hrow3
   ·have hbl:=bits_len j.fr
    refine ((hm.at (hcp.block mb hm.lt (by omega))).mono (by omega)).iff fun s=>⟨?_,?_⟩
    ·rintro (h | ⟨h1,h2,h3⟩)
     ·exact .inl h
     ·exact .inr ⟨(mem_bits.1 h1).2,(mem_bits.1 h2).2,h3⟩
    ·rintro (h | ⟨h1,h2,h3⟩)
     ·exact .inl h
     ·exact .inr ⟨mem_bits.2 ⟨bit64 hj.fr h1,h1⟩,mem_bits.2 ⟨bit64 hj.tt h2,h2⟩,h3⟩
   ·exact hj3.at (hc3D.block _ hj3.lt hW.ne.symm)
   ·rintro k (h3 | rfl) s hs
    ·exact .inl (hW.inv k h3 s hs)
    ·exact .inr hs
theorem join_any (w:World) {wk mb jb at' nm nj:Nat} {S:St→Prop} {T:Jt→Prop} (hW:Wk w wk mb jb at' S T nm nj) (j:Jt) (hj:Jt64 j) (hT:TabE w) (hTl:tabE<w.heap.size) (hnm:nm+4096<maxLen) (hnj:nj+1<maxLen) :
  Calls Tryd.prog 52 #[.pointer (some ⟨wk,0,none⟩),.agg #[.int .u64 j.fr,.int .u64 j.tt,.int .i64 j.kp,.bool j.ag]] w fun e w' =>
   e=.returned (.tuple #[])∧Wk w' wk mb jb at' (fun s=>S s∨fromJ j s) (fun k=>T k∨k=j) (nm+4096) (nj+1)∧Chg (fun b=>b=mb∨b=jb) w w' :=
 callsIn_wide.1 (join_in w hW j hj hT hTl hnm hnj)
end Go.Proofs.YtbohmcfplgdlpaaDoor

/- Layer 7's Order, the program's and the document's: contracts.
   No conditions. -/
namespace Go.Proofs.YtbohmcfplgdlpaaDoor
open Go.RowKit
theorem bhopO {w w1 w2:World} (h1:Below w.heap.size w w1) (h2:Below w1.heap.size w1 w2):Below w.heap.size w w2:=h1.trans (h2.mono h1.size)
end Go.Proofs.YtbohmcfplgdlpaaDoor

/- The set of one position, faces put together, the order of moves: contracts.
   Conditions: sets are words. -/
namespace Go.Proofs.YtbohmcfplgdlpaaDoor
open Go.RowKit
theorem wrap_two_pow (k:Nat) (h:k<64):IntKind.u64.wrap ((2:Int) ^ k)=((2 ^ k:Nat):Int):=by
 rw [IntKind.wrap_u64]
 have h1:2 ^ k<2 ^ 64:=Nat.pow_lt_pow_right (by omega) h
 have h2:((2:Int) ^ k)=((2 ^ k:Nat):Int):=by push_cast;rfl
 rw [h2]
 have h3:(2:Nat) ^ 64=18446744073709551616:=by decide
 rw [h3] at h1
 generalize (2:Nat) ^ k=n at h1 ⊢
 omega
set_option maxHeartbeats 1000000 in
theorem only_any (k:Nat) (h:k<64) (w:World):Calls Tryd.prog 50 #[.int .i64 (k:Int)] w fun e w'=>e=.returned (.int .u64 ((2 ^ k:Nat):Int))∧w'=w:=by
 have q:(0:Int)≤(k:Int):=by omega
 have hw:=Lib.hid (wrap_two_pow k h)
 go_enter Tryd.func50,Tryd.ntmps50
 go_wp2_with fail
 go_ret
 exact ⟨by rw [← hw.out];rfl,rfl⟩
def fcv (f:Fc):Value:=.agg #[.int .u64 (f.fi:Nat),.int .u64 (f.la:Nat),.bool f.em]
structure Fc64 (f:Fc):Prop where
 fi:f.fi<18446744073709551616
 la:f.la<18446744073709551616
theorem set3_heap {w:World} {b:Nat} {x0 x1 x2:Value} {e:TypeId} (h:w.heap[b]? = some (.cells #[x0,x1,x2] e (0,0))) (a0 a1 a2:Value):(((w.setCell ⟨b,0,none⟩ a0).setCell ⟨b,1,none⟩ a1).setCell ⟨b,2,none⟩ a2).heap[b]? = some (.cells #[a0,a1,a2] e (0,0)):=by
 simp [World.setCell,Array.getElem?_modify,h]
theorem set3_chg (w:World) (b:Nat) (a0 a1 a2:Value):Chg (fun x=>x=b) w (((w.setCell ⟨b,0,none⟩ a0).setCell ⟨b,1,none⟩ a1).setCell ⟨b,2,none⟩ a2):=by
 refine (((Chg.refl _ w).setCell ?_ _).setCell ?_ _).setCell ?_ _
 all_goals exact fun _=>rfl
theorem cells3 {w:World} {b:Nat} {a0 a1 a2:Value} {e:TypeId} (h:w.heap[b]? = some (.cells #[a0,a1,a2] e (0,0))):(w.cell? ⟨b,0,none⟩=some a0∧w.cell? ⟨b,1,none⟩=some a1∧w.cell? ⟨b,2,none⟩=some a2)∧w.frozen? ⟨b,0,none⟩=false∧w.frozen? ⟨b,1,none⟩=false∧w.frozen? ⟨b,2,none⟩=false :=
 have p:=(row_cells h).1
 have q:=(row_cells h).2
 ⟨⟨p 0,p 1,p 2⟩,q 0,q 1,q 2⟩
theorem three_new (w:World) (f g:Fc):∃ w2,((w.alloc (.cells #[.int .u64 (f.fi:Nat),.int .u64 (f.la:Nat),.bool f.em] 72)).alloc (.cells #[.int .u64 (g.fi:Nat),.int .u64 (g.la:Nat),.bool g.em] 72)).alloc (.cells #[.int .u64 0,.int .u64 0,.bool false] 72)=w2∧Below w.heap.size w w2∧w2.heap[w.heap.size]? = some (.cells #[.int .u64 (f.fi:Nat),.int .u64 (f.la:Nat),.bool f.em] 72 (0,0))∧w2.heap[w.heap.size+1]? = some (.cells #[.int .u64 (g.fi:Nat),.int .u64 (g.la:Nat),.bool g.em] 72 (0,0))∧w2.heap[w.heap.size+1+1]? = some (.cells #[.int .u64 0,.int .u64 0,.bool false] 72 (0,0)):=by
 refine ⟨_,rfl,(((Below.refl _ w).alloc (Nat.le_refl _) _).alloc (by simp) _).alloc (by simp;omega) _,?_,?_,?_⟩
 ·exact (Below.heap_alloc _ _ _ (by simp;omega)).trans ((Below.heap_alloc _ _ _ (by simp)).trans (heap_alloc_new w _))
 ·have:=heap_alloc_new (w.alloc (.cells #[.int .u64 (f.fi:Nat),.int .u64 (f.la:Nat),.bool f.em] 72)) (.cells #[.int .u64 (g.fi:Nat),.int .u64 (g.la:Nat),.bool g.em] 72)
  rw [World.size_alloc] at this
  exact (Below.heap_alloc _ _ _ (by simp)).trans this
 ·have:=heap_alloc_new ((w.alloc (.cells #[.int .u64 (f.fi:Nat),.int .u64 (f.la:Nat),.bool f.em] 72)).alloc (.cells #[.int .u64 (g.fi:Nat),.int .u64 (g.la:Nat),.bool g.em] 72)) (.cells #[.int .u64 0,.int .u64 0,.bool false] 72)
  rw [World.size_alloc,World.size_alloc] at this
  exact this
set_option maxHeartbeats 2000000 in
theorem faceOr_any (f g:Fc) (hf:Fc64 f) (hg:Fc64 g) (w:World):Calls Tryd.prog 54 #[.agg #[.int .u64 (f.fi:Nat),.int .u64 (f.la:Nat),.bool f.em],.agg #[.int .u64 (g.fi:Nat),.int .u64 (g.la:Nat),.bool g.em]] w fun e w'=>e=.returned (fcv (orF f g))∧Below w.heap.size w w':=by
 obtain ⟨w2,hw2,hb,e1,e2,e3⟩:=three_new w f g
 obtain ⟨⟨c0,c1,c2⟩,_⟩:=cells3 e1
 obtain ⟨⟨d0,d1,d2⟩,_⟩:=cells3 e2
 obtain ⟨⟨z0,z1,z2⟩,f0,f1,f2⟩:=cells3 e3
 have o1:=bits_or_u64_nat f.fi g.fi hf.fi hg.fi
 have o2:=bits_or_u64_nat f.la g.la hf.la hg.la
 have HB:=Lib.hid (And.intro hb e3)
 clear hb e1 e2 e3
 go_enter Tryd.func54,Tryd.ntmps54
 go_upto_region 1 with fail
 clear hw2
 cases he:f.em with
 | true =>
  rw [he] at c2
  go_wp2_with fail
  clear c0 c1 c2 d0 d1 d2 z0 z1 z2 f0 f1 f2 o1 o2
  have hf3:=set3_heap HB.out.2 (.int .u64 ((f.fi ||| g.fi:Nat):Int)) (.int .u64 ((f.la ||| g.la:Nat):Int)) (.bool true)
  have hch:=set3_chg w2 (w.heap.size+1+1) (.int .u64 ((f.fi ||| g.fi:Nat):Int)) (.int .u64 ((f.la ||| g.la:Nat):Int)) (.bool true)
  generalize (((w2.setCell ⟨w.heap.size+1+1,0,none⟩ (.int .u64 ((f.fi ||| g.fi:Nat):Int))).setCell ⟨w.heap.size+1+1,1,none⟩ (.int .u64 ((f.la ||| g.la:Nat):Int))).setCell ⟨w.heap.size+1+1,2,none⟩ (.bool true))=w3 at *
  obtain ⟨⟨r0,r1,r2⟩,_⟩:=cells3 hf3
  refine bodyPost_ret (v:=.agg #[.int .u64 ((f.fi ||| g.fi:Nat):Int),.int .u64 ((f.la ||| g.la:Nat):Int),.bool true]) (by simp [results,Tryd.results54,go_sem,r0,r1,r2]) rfl ⟨by unfold fcv orF;rw [he];rfl,?_⟩
  exact HB.out.1.trans (hch.below (by have:=HB.out.1.size;omega) fun k hk e=>by omega)
 | false =>
  rw [he] at c2
  go_wp2_with fail
  clear c0 c1 c2 d0 d1 d2 z0 z1 z2 f0 f1 f2 o1 o2
  have hf3:=set3_heap HB.out.2 (.int .u64 ((f.fi ||| g.fi:Nat):Int)) (.int .u64 ((f.la ||| g.la:Nat):Int)) (.bool g.em)
  have hch:=set3_chg w2 (w.heap.size+1+1) (.int .u64 ((f.fi ||| g.fi:Nat):Int)) (.int .u64 ((f.la ||| g.la:Nat):Int)) (.bool g.em)
  generalize (((w2.setCell ⟨w.heap.size+1+1,0,none⟩ (.int .u64 ((f.fi ||| g.fi:Nat):Int))).setCell ⟨w.heap.size+1+1,1,none⟩ (.int .u64 ((f.la ||| g.la:Nat):Int))).setCell ⟨w.heap.size+1+1,2,none⟩ (.bool g.em))=w3 at *
  obtain ⟨⟨r0,r1,r2⟩,_⟩:=cells3 hf3
  refine bodyPost_ret (v:=.agg #[.int .u64 ((f.fi ||| g.fi:Nat):Int),.int .u64 ((f.la ||| g.la:Nat):Int),.bool g.em]) (by simp [results,Tryd.results54,go_sem,r0,r1,r2]) rfl ⟨by unfold fcv orF;rw [he];rfl,?_⟩
  exact HB.out.1.trans (hch.below (by have:=HB.out.1.size;omega) fun k hk e=>by omega)
set_option maxHeartbeats 4000000 in
set_option maxRecDepth 100000 in
theorem faceThen_any (f g:Fc) (hf:Fc64 f) (hg:Fc64 g) (w:World):Calls Tryd.prog 53 #[.agg #[.int .u64 (f.fi:Nat),.int .u64 (f.la:Nat),.bool f.em],.agg #[.int .u64 (g.fi:Nat),.int .u64 (g.la:Nat),.bool g.em]] w fun e w'=>e=.returned (fcv (thenF f g))∧Below w.heap.size w w':=by
 obtain ⟨w2,hw2,hb,e1,e2,e3⟩:=three_new w f g
 obtain ⟨⟨c0,c1,c2⟩,_⟩:=cells3 e1
 obtain ⟨⟨d0,d1,d2⟩,_⟩:=cells3 e2
 have o1:=bits_or_u64_nat f.fi g.fi hf.fi hg.fi
 have o2:=bits_or_u64_nat g.la f.la hg.la hf.la
 obtain ⟨w3,hw3⟩ : ∃ w3,w2.alloc (.cells #[.int .u64 (f.fi:Nat),.int .u64 (g.la:Nat),.bool (f.em && g.em)] 72)=w3:=⟨_,rfl⟩
 have hb3:Below w2.heap.size w2 w3:=hw3▸(Below.refl _ w2).alloc (Nat.le_refl _) _
 have e4:w3.heap[w2.heap.size]? = some (.cells #[.int .u64 (f.fi:Nat),.int .u64 (g.la:Nat),.bool (f.em && g.em)] 72 (0,0)):=hw3▸heap_alloc_new w2 _
 have e1':=(hb3.block _ (Array.getElem?_eq_some_iff.1 e1).1).trans e1
 have e2':=(hb3.block _ (Array.getElem?_eq_some_iff.1 e2).1).trans e2
 have e3':=(hb3.block _ (Array.getElem?_eq_some_iff.1 e3).1).trans e3
 have hlt:w.heap.size+1+1<w2.heap.size:=(Array.getElem?_eq_some_iff.1 e3).1
 have HW3:=Lib.hid hw3
 have HB:=Lib.hid (And.intro (bhopO hb hb3) (And.intro e3' (And.intro e4 (And.intro e1' e2'))))
 clear hb hb3 hw3 e1 e2 e3 e1' e2' e3' e4
 go_enter Tryd.func53,Tryd.ntmps53
 go_upto_region 1 with fail
 clear hw2
 cases hfe:f.em with
 | true =>
  cases hge:g.em with
  | true =>
   rw [hfe] at c2
   rw [hge] at d2
   have HW:=Lib.hid (show w2.alloc (.cells #[.int .u64 (f.fi:Nat),.int .u64 (g.la:Nat),.bool true] 72)=w3 by have:=HW3.out;rw [hfe,hge] at this;exact this)
   have e4:w3.heap[w2.heap.size]? = some (.cells #[.int .u64 (f.fi:Nat),.int .u64 (g.la:Nat),.bool true] 72 (0,0)):=by have:=HB.out.2.2.1;rw [hfe,hge] at this;exact this
   have E4:=Lib.hid e4
   go_upto_region 2 with fail
   try rw [HW.out]
   clear c0 c1 c2 d0 d1 d2
   obtain ⟨⟨c0,c1,c2⟩,_⟩:=cells3 HB.out.2.2.2.1
   obtain ⟨⟨d0,d1,d2⟩,_⟩:=cells3 HB.out.2.2.2.2
   rw [hfe] at c2
   rw [hge] at d2
   obtain ⟨⟨z0,z1,z2⟩,f0,f1,f2⟩:=cells3 HB.out.2.1
   obtain ⟨⟨y0,y1,y2⟩,h0,h1,h2⟩:=cells3 e4
   have hne:w2.heap.size≠w.heap.size+1+1:=by omega
   have hl3:=(Array.getElem?_eq_some_iff.1 e4).1
   have HF:=Lib.hid (And.intro hfe hge)
   clear e4 hfe hge
   go_wp2_with fail
   clear c0 c1 c2 d0 d1 d2 z0 z1 z2 f0 f1 f2 y0 y1 y2 h0 h1 h2 o1 o2
   have hf3:=set3_heap (w:=((w3.setCell ⟨w2.heap.size,0,none⟩ (.int .u64 ((f.fi ||| g.fi:Nat):Int))).setCell ⟨w2.heap.size,1,none⟩ (.int .u64 ((g.la ||| f.la:Nat):Int)))) ((Below.heap_setCell _ _ _ _ (fun e=>hne e.symm)).trans ((Below.heap_setCell _ _ _ _ (fun e=>hne e.symm)).trans (HB.out.2.1))) (.int .u64 ((f.fi ||| g.fi:Nat):Int)) (.int .u64 ((g.la ||| f.la:Nat):Int)) (.bool true)
   have hch:Chg (fun x=>x=w2.heap.size∨x=w.heap.size+1+1) w3 (((((w3.setCell ⟨w2.heap.size,0,none⟩ (.int .u64 ((f.fi ||| g.fi:Nat):Int))).setCell ⟨w2.heap.size,1,none⟩ (.int .u64 ((g.la ||| f.la:Nat):Int))).setCell ⟨w.heap.size+1+1,0,none⟩ (.int .u64 ((f.fi ||| g.fi:Nat):Int))).setCell ⟨w.heap.size+1+1,1,none⟩ (.int .u64 ((g.la ||| f.la:Nat):Int))).setCell ⟨w.heap.size+1+1,2,none⟩ (.bool true)):=((((((Chg.refl (fun x=>x=w2.heap.size∨x=w.heap.size+1+1) w3).setCell (p:=⟨w2.heap.size,0,none⟩) (fun _=>.inl rfl) _).setCell (p:=⟨w2.heap.size,1,none⟩) (fun _=>.inl rfl) _).setCell (p:=⟨w.heap.size+1+1,0,none⟩) (fun _=>.inr rfl) _).setCell (p:=⟨w.heap.size+1+1,1,none⟩) (fun _=>.inr rfl) _).setCell (p:=⟨w.heap.size+1+1,2,none⟩) (fun _=>.inr rfl) _)
   generalize (((((w3.setCell ⟨w2.heap.size,0,none⟩ (.int .u64 ((f.fi ||| g.fi:Nat):Int))).setCell ⟨w2.heap.size,1,none⟩ (.int .u64 ((g.la ||| f.la:Nat):Int))).setCell ⟨w.heap.size+1+1,0,none⟩ (.int .u64 ((f.fi ||| g.fi:Nat):Int))).setCell ⟨w.heap.size+1+1,1,none⟩ (.int .u64 ((g.la ||| f.la:Nat):Int))).setCell ⟨w.heap.size+1+1,2,none⟩ (.bool true))=w7 at *
   obtain ⟨⟨r0,r1,r2⟩,_⟩:=cells3 hf3
   refine bodyPost_ret (v:=.agg #[.int .u64 ((f.fi ||| g.fi:Nat):Int),.int .u64 ((g.la ||| f.la:Nat):Int),.bool true]) (by simp [results,Tryd.results53,go_sem,r0,r1,r2]) rfl ⟨by unfold fcv thenF;rw [HF.out.1,HF.out.2];rfl,?_⟩
   exact HB.out.1.trans (hch.below (by have:=HB.out.1.size;omega) fun k hk e=>by omega)
  | false =>
   rw [hfe] at c2
   rw [hge] at d2
   have HW:=Lib.hid (show w2.alloc (.cells #[.int .u64 (f.fi:Nat),.int .u64 (g.la:Nat),.bool false] 72)=w3 by have:=HW3.out;rw [hfe,hge] at this;exact this)
   have e4:w3.heap[w2.heap.size]? = some (.cells #[.int .u64 (f.fi:Nat),.int .u64 (g.la:Nat),.bool false] 72 (0,0)):=by have:=HB.out.2.2.1;rw [hfe,hge] at this;exact this
   have E4:=Lib.hid e4
   go_upto_region 2 with fail
   try rw [HW.out]
   clear c0 c1 c2 d0 d1 d2
   obtain ⟨⟨c0,c1,c2⟩,_⟩:=cells3 HB.out.2.2.2.1
   obtain ⟨⟨d0,d1,d2⟩,_⟩:=cells3 HB.out.2.2.2.2
   rw [hfe] at c2
   rw [hge] at d2
   obtain ⟨⟨z0,z1,z2⟩,f0,f1,f2⟩:=cells3 HB.out.2.1
   obtain ⟨⟨y0,y1,y2⟩,h0,h1,h2⟩:=cells3 e4
   have hne:w2.heap.size≠w.heap.size+1+1:=by omega
   have hl3:=(Array.getElem?_eq_some_iff.1 e4).1
   have HF:=Lib.hid (And.intro hfe hge)
   clear e4 hfe hge
   go_wp2_with fail
   clear c0 c1 c2 d0 d1 d2 z0 z1 z2 f0 f1 f2 y0 y1 y2 h0 h1 h2 o1 o2
   have hf3:=set3_heap (w:=(w3.setCell ⟨w2.heap.size,0,none⟩ (.int .u64 ((f.fi ||| g.fi:Nat):Int)))) ((Below.heap_setCell _ _ _ _ (fun e=>hne e.symm)).trans (HB.out.2.1)) (.int .u64 ((f.fi ||| g.fi:Nat):Int)) (.int .u64 (g.la:Nat)) (.bool false)
   have hch:Chg (fun x=>x=w2.heap.size∨x=w.heap.size+1+1) w3 ((((w3.setCell ⟨w2.heap.size,0,none⟩ (.int .u64 ((f.fi ||| g.fi:Nat):Int))).setCell ⟨w.heap.size+1+1,0,none⟩ (.int .u64 ((f.fi ||| g.fi:Nat):Int))).setCell ⟨w.heap.size+1+1,1,none⟩ (.int .u64 (g.la:Nat))).setCell ⟨w.heap.size+1+1,2,none⟩ (.bool false)):=(((((Chg.refl (fun x=>x=w2.heap.size∨x=w.heap.size+1+1) w3).setCell (p:=⟨w2.heap.size,0,none⟩) (fun _=>.inl rfl) _).setCell (p:=⟨w.heap.size+1+1,0,none⟩) (fun _=>.inr rfl) _).setCell (p:=⟨w.heap.size+1+1,1,none⟩) (fun _=>.inr rfl) _).setCell (p:=⟨w.heap.size+1+1,2,none⟩) (fun _=>.inr rfl) _)
   generalize ((((w3.setCell ⟨w2.heap.size,0,none⟩ (.int .u64 ((f.fi ||| g.fi:Nat):Int))).setCell ⟨w.heap.size+1+1,0,none⟩ (.int .u64 ((f.fi ||| g.fi:Nat):Int))).setCell ⟨w.heap.size+1+1,1,none⟩ (.int .u64 (g.la:Nat))).setCell ⟨w.heap.size+1+1,2,none⟩ (.bool false))=w7 at *
   obtain ⟨⟨r0,r1,r2⟩,_⟩:=cells3 hf3
   refine bodyPost_ret (v:=.agg #[.int .u64 ((f.fi ||| g.fi:Nat):Int),.int .u64 (g.la:Nat),.bool false]) (by simp [results,Tryd.results53,go_sem,r0,r1,r2]) rfl ⟨by unfold fcv thenF;rw [HF.out.1,HF.out.2];rfl,?_⟩
   exact HB.out.1.trans (hch.below (by have:=HB.out.1.size;omega) fun k hk e=>by omega)
 | false =>
  cases hge:g.em with
  | true =>
   rw [hfe] at c2
   rw [hge] at d2
   have HW:=Lib.hid (show w2.alloc (.cells #[.int .u64 (f.fi:Nat),.int .u64 (g.la:Nat),.bool false] 72)=w3 by have:=HW3.out;rw [hfe,hge] at this;exact this)
   have e4:w3.heap[w2.heap.size]? = some (.cells #[.int .u64 (f.fi:Nat),.int .u64 (g.la:Nat),.bool false] 72 (0,0)):=by have:=HB.out.2.2.1;rw [hfe,hge] at this;exact this
   have E4:=Lib.hid e4
   go_upto_region 2 with fail
   try rw [HW.out]
   clear c0 c1 c2 d0 d1 d2
   obtain ⟨⟨c0,c1,c2⟩,_⟩:=cells3 HB.out.2.2.2.1
   obtain ⟨⟨d0,d1,d2⟩,_⟩:=cells3 HB.out.2.2.2.2
   rw [hfe] at c2
   rw [hge] at d2
   obtain ⟨⟨z0,z1,z2⟩,f0,f1,f2⟩:=cells3 HB.out.2.1
   obtain ⟨⟨y0,y1,y2⟩,h0,h1,h2⟩:=cells3 e4
   have hne:w2.heap.size≠w.heap.size+1+1:=by omega
   have hl3:=(Array.getElem?_eq_some_iff.1 e4).1
   have HF:=Lib.hid (And.intro hfe hge)
   clear e4 hfe hge
   go_wp2_with fail
   clear c0 c1 c2 d0 d1 d2 z0 z1 z2 f0 f1 f2 y0 y1 y2 h0 h1 h2 o1 o2
   have hf3:=set3_heap (w:=(w3.setCell ⟨w2.heap.size,1,none⟩ (.int .u64 ((g.la ||| f.la:Nat):Int)))) ((Below.heap_setCell _ _ _ _ (fun e=>hne e.symm)).trans (HB.out.2.1)) (.int .u64 (f.fi:Nat)) (.int .u64 ((g.la ||| f.la:Nat):Int)) (.bool false)
   have hch:Chg (fun x=>x=w2.heap.size∨x=w.heap.size+1+1) w3 ((((w3.setCell ⟨w2.heap.size,1,none⟩ (.int .u64 ((g.la ||| f.la:Nat):Int))).setCell ⟨w.heap.size+1+1,0,none⟩ (.int .u64 (f.fi:Nat))).setCell ⟨w.heap.size+1+1,1,none⟩ (.int .u64 ((g.la ||| f.la:Nat):Int))).setCell ⟨w.heap.size+1+1,2,none⟩ (.bool false)):=(((((Chg.refl (fun x=>x=w2.heap.size∨x=w.heap.size+1+1) w3).setCell (p:=⟨w2.heap.size,1,none⟩) (fun _=>.inl rfl) _).setCell (p:=⟨w.heap.size+1+1,0,none⟩) (fun _=>.inr rfl) _).setCell (p:=⟨w.heap.size+1+1,1,none⟩) (fun _=>.inr rfl) _).setCell (p:=⟨w.heap.size+1+1,2,none⟩) (fun _=>.inr rfl) _)
   generalize ((((w3.setCell ⟨w2.heap.size,1,none⟩ (.int .u64 ((g.la ||| f.la:Nat):Int))).setCell ⟨w.heap.size+1+1,0,none⟩ (.int .u64 (f.fi:Nat))).setCell ⟨w.heap.size+1+1,1,none⟩ (.int .u64 ((g.la ||| f.la:Nat):Int))).setCell ⟨w.heap.size+1+1,2,none⟩ (.bool false))=w7 at *
   obtain ⟨⟨r0,r1,r2⟩,_⟩:=cells3 hf3
   refine bodyPost_ret (v:=.agg #[.int .u64 (f.fi:Nat),.int .u64 ((g.la ||| f.la:Nat):Int),.bool false]) (by simp [results,Tryd.results53,go_sem,r0,r1,r2]) rfl ⟨by unfold fcv thenF;rw [HF.out.1,HF.out.2];rfl,?_⟩
   exact HB.out.1.trans (hch.below (by have:=HB.out.1.size;omega) fun k hk e=>by omega)
  | false =>
   rw [hfe] at c2
   rw [hge] at d2
   have HW:=Lib.hid (show w2.alloc (.cells #[.int .u64 (f.fi:Nat),.int .u64 (g.la:Nat),.bool false] 72)=w3 by have:=HW3.out;rw [hfe,hge] at this;exact this)
   have e4:w3.heap[w2.heap.size]? = some (.cells #[.int .u64 (f.fi:Nat),.int .u64 (g.la:Nat),.bool false] 72 (0,0)):=by have:=HB.out.2.2.1;rw [hfe,hge] at this;exact this
   have E4:=Lib.hid e4
   go_upto_region 2 with fail
   try rw [HW.out]
   clear c0 c1 c2 d0 d1 d2
   obtain ⟨⟨c0,c1,c2⟩,_⟩:=cells3 HB.out.2.2.2.1
   obtain ⟨⟨d0,d1,d2⟩,_⟩:=cells3 HB.out.2.2.2.2
   rw [hfe] at c2
   rw [hge] at d2
   obtain ⟨⟨z0,z1,z2⟩,f0,f1,f2⟩:=cells3 HB.out.2.1
   obtain ⟨⟨y0,y1,y2⟩,h0,h1,h2⟩:=cells3 e4
   have hne:w2.heap.size≠w.heap.size+1+1:=by omega
   have hl3:=(Array.getElem?_eq_some_iff.1 e4).1
   have HF:=Lib.hid (And.intro hfe hge)
   clear e4 hfe hge
   go_wp2_with fail
   clear c0 c1 c2 d0 d1 d2 z0 z1 z2 f0 f1 f2 y0 y1 y2 h0 h1 h2 o1 o2
   have hf3:=set3_heap (w:=w3) (HB.out.2.1) (.int .u64 (f.fi:Nat)) (.int .u64 (g.la:Nat)) (.bool false)
   have hch:Chg (fun x=>x=w2.heap.size∨x=w.heap.size+1+1) w3 (((w3.setCell ⟨w.heap.size+1+1,0,none⟩ (.int .u64 (f.fi:Nat))).setCell ⟨w.heap.size+1+1,1,none⟩ (.int .u64 (g.la:Nat))).setCell ⟨w.heap.size+1+1,2,none⟩ (.bool false)):=((((Chg.refl (fun x=>x=w2.heap.size∨x=w.heap.size+1+1) w3).setCell (p:=⟨w.heap.size+1+1,0,none⟩) (fun _=>.inr rfl) _).setCell (p:=⟨w.heap.size+1+1,1,none⟩) (fun _=>.inr rfl) _).setCell (p:=⟨w.heap.size+1+1,2,none⟩) (fun _=>.inr rfl) _)
   generalize (((w3.setCell ⟨w.heap.size+1+1,0,none⟩ (.int .u64 (f.fi:Nat))).setCell ⟨w.heap.size+1+1,1,none⟩ (.int .u64 (g.la:Nat))).setCell ⟨w.heap.size+1+1,2,none⟩ (.bool false))=w7 at *
   obtain ⟨⟨r0,r1,r2⟩,_⟩:=cells3 hf3
   refine bodyPost_ret (v:=.agg #[.int .u64 (f.fi:Nat),.int .u64 (g.la:Nat),.bool false]) (by simp [results,Tryd.results53,go_sem,r0,r1,r2]) rfl ⟨by unfold fcv thenF;rw [HF.out.1,HF.out.2];rfl,?_⟩
   exact HB.out.1.trans (hch.below (by have:=HB.out.1.size;omega) fun k hk e=>by omega)
end Go.Proofs.YtbohmcfplgdlpaaDoor

/- The order of moves: a contract.
   No conditions. -/
namespace Go.Proofs.YtbohmcfplgdlpaaDoor
open Go.RowKit Go.Sort
def agI (a b:Bool):Int:=if a=b then 0 else if b then -1 else 1
def ordM (at' ak bt bk:Int) (aa ba:Bool):Int:=if orI (cmpI at' bt) (cmpI ak bk)=0 then agI aa ba else orI (cmpI at' bt) (cmpI ak bk)
def Grows (w w':World):Prop:=∃ (q:Nat) (os':Array Obj),w'=grow (w.drewN q) os'
theorem Grows.refl (w:World):Grows w w:=⟨0,#[],by unfold grow World.drewN;simp⟩
theorem Grows.alloc {w w':World} (h:Grows w w') (o:Obj):Grows w (w'.alloc o):=by
 obtain ⟨q,os,rfl⟩:=h
 exact ⟨q,os ++ #[o],by rw [alloc_eq_grow,grow_grow]⟩
theorem Grows.drew {w w':World} (h:Grows w w'):Grows w w'.drew:=by
 obtain ⟨q,os,rfl⟩:=h
 exact ⟨q+1,os,rfl⟩
set_option maxHeartbeats 4000000 in
set_option maxRecDepth 100000 in
theorem orderM_any (a0 a1 b0 b1:Int) (a2 b2:Bool) (w:World) :
  Calls Tryd.prog 37 #[.agg #[.int .i64 a0,.int .i64 a1,.bool a2],.agg #[.int .i64 b0,.int .i64 b1,.bool b2]] w fun e w'=>e=.returned (.int .i64 (ordM a0 a1 b0 b1 a2 b2))∧Grows w w':=by
 obtain ⟨w2,hw2⟩ : ∃ w2,(w.alloc (.cells #[.int .i64 a0,.int .i64 a1,.bool a2] 100)).alloc (.cells #[.int .i64 b0,.int .i64 b1,.bool b2] 100)=w2:=⟨_,rfl⟩
 have hb2:Grows w w2:=hw2▸((Grows.refl w).alloc _).alloc _
 have e1:w2.heap[w.heap.size]? = some (.cells #[.int .i64 a0,.int .i64 a1,.bool a2] 100 (0,0)):=by rw [← hw2];exact (Below.heap_alloc _ _ _ (by simp)).trans (heap_alloc_new w _)
 have e2:w2.heap[w.heap.size+1]? = some (.cells #[.int .i64 b0,.int .i64 b1,.bool b2] 100 (0,0)):=by
  rw [← hw2]
  have:=heap_alloc_new (w.alloc (.cells #[.int .i64 a0,.int .i64 a1,.bool a2] 100)) (.cells #[.int .i64 b0,.int .i64 b1,.bool b2] 100)
  rw [World.size_alloc] at this
  exact this
 obtain ⟨⟨c0,c1,c2⟩,_⟩:=cells3 e1
 obtain ⟨⟨d0,d1,d2⟩,_⟩:=cells3 e2
 have l1:w.heap.size<w2.heap.size:=(Array.getElem?_eq_some_iff.1 e1).1
 have l2:w.heap.size+1<w2.heap.size:=(Array.getElem?_eq_some_iff.1 e2).1
 have HB:=Lib.hid hb2
 clear hb2 e1 e2
 go_enter Tryd.func37,Tryd.ntmps37
 go_upto_region 1 with fail
 clear hw2
 go_region_held3 (fun W=>W.cell? ⟨w.heap.size,0,none⟩=some (.int .i64 a0)∧W.cell? ⟨w.heap.size,1,none⟩=some (.int .i64 a1)∧W.cell? ⟨w.heap.size+1,0,none⟩=some (.int .i64 b0)∧W.cell? ⟨w.heap.size+1,1,none⟩=some (.int .i64 b1))
 (first | go_keep | (go_split_ands;refine ⟨?_,?_,?_,?_⟩ <;> first | go_keep | assumption | exact (World.cell?_of_block (w:=w2) (Below.heap_alloc _ _ _ (by assumption))).trans (by assumption) | (simp;omega)))
 (first
  | (go_at_call 58;((with_reducible refine (compare_int _ _ _).mono ?_);rintro e w1 ⟨rfl,rfl⟩))
  | (go_at_call 57;(refine (or_two w2.heap.size (cmpI a0 b0) (cmpI a1 b1) _ (by first | exact (row_cells (heap_alloc_new _ _)).1 0) (by first | exact (row_cells (heap_alloc_new _ _)).1 1)).mono ?_;rintro e w1 ⟨rfl,rfl⟩)))
 all_goals
  generalize horr:orI (cmpI a0 b0) (cmpI a1 b1)=o
  have HO:=Lib.hid horr
  clear horr
  by_cases h0:o=0
  ·have HE:Hid (ordM a0 a1 b0 b1 a2 b2=agI a2 b2):=Lib.hid (by unfold ordM;rw [HO.out,if_pos h0])
   subst h0
   clear HO
   cases a2 with
   | true =>
    cases b2 with
    | true =>
     go_wp2_with fail
     go_ret
     exact ⟨by rw [HE.out];rfl,(HB.out.alloc _).drew⟩
    | false =>
     go_wp2_with fail
     go_ret
     exact ⟨by rw [HE.out];rfl,(HB.out.alloc _).drew⟩
   | false =>
    cases b2 with
    | true =>
     go_wp2_with fail
     go_ret
     exact ⟨by rw [HE.out];rfl,(HB.out.alloc _).drew⟩
    | false =>
     go_wp2_with fail
     go_ret
     exact ⟨by rw [HE.out];rfl,(HB.out.alloc _).drew⟩
  ·have HE:Hid (ordM a0 a1 b0 b1 a2 b2=o):=Lib.hid (by unfold ordM;rw [HO.out,if_neg h0])
   have g:(o != 0)=true:=by simp [h0]
   clear HO h0
   go_wp2_with fail
   go_ret
   exact ⟨by rw [HE.out];rfl,(HB.out.alloc _).drew⟩
end Go.Proofs.YtbohmcfplgdlpaaDoor

/- A new walker: a contract.
   No conditions. -/
namespace Go.Proofs.YtbohmcfplgdlpaaDoor
open Go.RowKit Go.Maps
set_option maxHeartbeats 2000000 in
set_option maxRecDepth 100000 in
theorem newWalker_any (w:World):Calls Tryd.prog 22 #[] w fun e w'=>∃ wk mb jb,e=.returned (.pointer (some ⟨wk,0,none⟩))∧Wk w' wk mb jb 0 (fun _=>False) (fun _=>False) 0 0∧w.heap.size≤wk∧w.heap.size≤mb∧w.heap.size≤jb∧Below w.heap.size w w':=by
 have hmm:=@run_makeMap Tryd.prog
 go_enter Tryd.func22,Tryd.ntmps22
 go_wp2_with fail
 clear hmm
 go_ret
 have hb:Below w.heap.size w (((w.alloc (.map #[] 0)).alloc (.map #[] 0)).alloc (.cells #[.int .i64 0,.map (some w.heap.size),.map (some (w.heap.size+1))] 92)):=(((Below.refl _ w).alloc (Nat.le_refl _) _).alloc (by simp) _).alloc (by simp;omega) _
 have h0:=World.ownsMap_made (H:=Unit) w Tryd.prog 102 unitElem
 have h1:=World.ownsMap_made (H:=Unit) (w.alloc (.map #[] 0)) Tryd.prog 132 unitElem
 rw [World.size_alloc] at h1
 refine ⟨w.heap.size+1+1,w.heap.size,w.heap.size+1,rfl,⟨?_,?_,?_,by omega,fun k h=>h.elim⟩,by omega,by omega,by omega,hb⟩
 ·have:=heap_alloc_new ((w.alloc (.map #[] 0)).alloc (.map #[] 0)) (.cells #[.int .i64 0,.map (some w.heap.size),.map (some (w.heap.size+1))] 92)
  rw [World.size_alloc,World.size_alloc] at this
  exact this
 ·exact ⟨_,(h0.alloc _).alloc _,stsAre_nil⟩
 ·exact ⟨_,h1.alloc _,jtsAre_nil⟩
end Go.Proofs.YtbohmcfplgdlpaaDoor

/- The moves of a simple tree, as plain values: faces, joints, positions.
   Conditions: those that each theorem states. -/
namespace Go.Proofs.YtbohmcfplgdlpaaDoor
open Go.RowKit
def opF (k:Int) (C:Nat→Nat) (lo:Int) (at':Nat):Fc :=
 if isPos k C then ⟨2 ^ (at' + 1),2 ^ (at' + 1),false⟩ else if k=4 then ⟨0,0,decide (lo=0)⟩ else ⟨0,0,decide (k=0∨k=2)⟩
def opA (k:Int) (C:Nat→Nat) (at':Nat):Nat:=if isPos k C then at' + 1 else at'
def adF (k:Int) (f g:Fc):Fc:=if k=2 then thenF f g else orF f g
def adJ (k hi:Int) (ar:Nat) (ag:Bool) (f g:Fc):List Jt :=
 if k=2 then [⟨f.la,g.fi,ar,false⟩] else if k=4∧hi≠1 then [⟨g.la,g.fi,ar,ag⟩] else []
def blA (ar:Nat) (ag:Bool):Nat:=if ag then ar+1 else ar
mutual
def mvT:T→Nat→Nat→Fc×Nat×List Jt
 | .node k C lo hi ps,ar,at'=>mvsT k hi ar (cnt4 k lo hi) ps (opF k C lo at') (opA k C at')
def mvsT (k hi:Int) (ar:Nat) (ag:Bool):List T→Fc→Nat→Fc×Nat×List Jt
 | [],f,at'=>(f,at',[])
 | p :: ps,f,at' =>
  let r:=mvT p (blA ar ag) at'
  let s:=mvsT k hi ar ag ps (adF k f r.1) r.2.1
  (s.1,s.2.1,r.2.2 ++ adJ k hi ar ag f r.1 ++ s.2.2)
end
mutual
def npos:T→Nat
 | .node k C _ _ ps=>(if isPos k C then 1 else 0)+nposs ps
def nposs:List T→Nat
 | []=>0
 | t :: ts=>npos t+nposs ts
end
mutual
theorem mv_at:∀ (t:T) (ar at':Nat),(mvT t ar at').2.1=at' + npos t
 | .node k C lo hi ps,ar,at'=>by
  rw [mvT,mvs_at,npos]
  unfold opA
  split <;> omega
theorem mvs_at (k hi:Int) (ar:Nat) (ag:Bool):∀ (ts:List T) (f:Fc) (at':Nat),(mvsT k hi ar ag ts f at').2.1=at' + nposs ts
 | [],f,at'=>by rw [mvsT,nposs];rfl
 | t :: ts,f,at'=>by
  rw [mvsT]
  simp only
  rw [mvs_at k hi ar ag ts,mv_at t,nposs]
  omega
end
def Bt (a b n:Nat):Prop:=∀ p,n.testBit p=true→a<p∧p≤b
theorem bt_zero (a b:Nat):Bt a b 0:=fun p h=>by simp at h
theorem bt_one (a:Nat):Bt a (a+1) (2 ^ (a+1)):=fun p h=>by
 rw [Nat.testBit_two_pow] at h
 have:a+1=p:=by simpa using h
 omega
theorem bt_or {a b m n:Nat} (h:Bt a b m) (k:Bt a b n):Bt a b (m ||| n):=fun p hp=>by
 rw [Nat.testBit_or] at hp
 rcases Bool.or_eq_true _ _▸hp with hp | hp
 ·exact h p hp
 ·exact k p hp
theorem Bt.wid {a b a' b' n:Nat} (h:Bt a b n) (ha:a'≤a) (hb:b≤b'):Bt a' b' n:=fun p hp=>by have:=h p hp;omega
theorem Bt.lt {a b n:Nat} (h:Bt a b n):n<2 ^ (b+1):=by
 refine Nat.lt_pow_two_of_testBit n fun p hp=>?_
 cases hb:n.testBit p with
 | false=>rfl
 | true=>have:=h p hb;omega
structure FcIn (a b:Nat) (f:Fc):Prop where
 fi:Bt a b f.fi
 la:Bt a b f.la
theorem FcIn.wid {a b a' b':Nat} {f:Fc} (h:FcIn a b f) (ha:a'≤a) (hb:b≤b'):FcIn a' b' f:=⟨h.fi.wid ha hb,h.la.wid ha hb⟩
theorem ad_in {a b:Nat} {k:Int} {f g:Fc} (h:FcIn a b f) (h':FcIn a b g):FcIn a b (adF k f g):=by
 unfold adF thenF orF
 split
 ·refine ⟨?_,?_⟩
  ·show Bt a b (if f.em then f.fi ||| g.fi else f.fi)
   split
   ·exact bt_or h.fi h'.fi
   ·exact h.fi
  ·show Bt a b (if g.em then g.la ||| f.la else g.la)
   split
   ·exact bt_or h'.la h.la
   ·exact h'.la
 ·exact ⟨bt_or h.fi h'.fi,bt_or h.la h'.la⟩
theorem op_in (k:Int) (C:Nat→Nat) (lo:Int) (a:Nat):FcIn a (opA k C a) (opF k C lo a):=by
 unfold opA opF
 split
 ·exact ⟨bt_one a,bt_one a⟩
 ·split
  ·exact ⟨bt_zero _ _,bt_zero _ _⟩
  ·exact ⟨bt_zero _ _,bt_zero _ _⟩
theorem op_le (k:Int) (C:Nat→Nat) (a:Nat):a≤opA k C a:=by unfold opA;split <;> omega
structure JtIn (a b:Nat) (j:Jt):Prop where
 fr:Bt a b j.fr
 tt:Bt a b j.tt
theorem JtIn.wid {a b a' b':Nat} {j:Jt} (h:JtIn a b j) (ha:a'≤a) (hb:b≤b'):JtIn a' b' j:=⟨h.fr.wid ha hb,h.tt.wid ha hb⟩
mutual
theorem mv_in:∀ (t:T) (ar a:Nat),FcIn a (a+npos t) (mvT t ar a).1∧∀ j∈(mvT t ar a).2.2,JtIn a (a+npos t) j
 | .node k C lo hi ps,ar,a=>by
  have h:=mvs_in k hi ar (cnt4 k lo hi) ps (opF k C lo a) a (opA k C a) (op_le k C a) (op_in k C lo a)
  rw [mvT]
  have e:a+npos (.node k C lo hi ps)=opA k C a+nposs ps:=by
   rw [npos];unfold opA;split <;> omega
  rw [e]
  exact h
theorem mvs_in (k hi:Int) (ar:Nat) (ag:Bool):∀ (ts:List T) (f:Fc) (a0 a:Nat),a0≤a→FcIn a0 a f→FcIn a0 (a+nposs ts) (mvsT k hi ar ag ts f a).1∧∀ j∈(mvsT k hi ar ag ts f a).2.2,JtIn a0 (a+nposs ts) j
 | [],f,a0,a,_,h=>by
  rw [mvsT,nposs]
  exact ⟨h,fun j hj=>by cases hj⟩
 | t :: ts,f,a0,a,ha,h=>by
  obtain ⟨h1,h2⟩:=mv_in t (blA ar ag) a
  have e:=mv_at t (blA ar ag) a
  have hf:FcIn a0 (a+npos t) (adF k f (mvT t (blA ar ag) a).1):=ad_in (h.wid (Nat.le_refl _) (by omega)) (h1.wid ha (Nat.le_refl _))
  have h3:=mvs_in k hi ar ag ts (adF k f (mvT t (blA ar ag) a).1) a0 (a+npos t) (by omega) hf
  rw [mvsT,nposs]
  simp only
  rw [e]
  refine ⟨h3.1.wid (Nat.le_refl _) (by omega),fun j hj=>?_⟩
  rcases List.mem_append.1 hj with hj | hj
  ·rcases List.mem_append.1 hj with hj | hj
   ·exact (h2 j hj).wid ha (by omega)
   ·unfold adJ at hj
    split at hj
    ·rw [List.mem_singleton.1 hj]
     exact ⟨h.la.wid (Nat.le_refl _) (by omega),h1.fi.wid ha (by omega)⟩
    ·split at hj
     ·rw [List.mem_singleton.1 hj]
      exact ⟨h1.la.wid ha (by omega),h1.fi.wid ha (by omega)⟩
     ·cases hj
  ·exact (h3.2 j hj).wid (Nat.le_refl _) (by omega)
end
mutual
theorem mapN_pos:∀ (t:T) (al:List Nat) (m m':PM),mapN t al m=some m'→m'.sets.length=m.sets.length+npos t
 | .node k C lo hi ps,al,m,m',h=>by
  rw [mapN] at h
  split at h
  ·cases h
  ·have h1:=mapsN_pos ps _ _ m' h
   rw [h1,npos]
   unfold putP scP
   split <;> split <;> simp <;> omega
theorem mapsN_pos:∀ (ts:List T) (al:List Nat) (m m':PM),mapsN ts al m=some m'→m'.sets.length=m.sets.length+nposs ts
 | [],al,m,m',h=>by
  rw [mapsN] at h
  obtain rfl:=Option.some.inj h
  rw [nposs];rfl
 | t :: ts,al,m,m',h=>by
  rw [mapsN] at h
  cases h1:mapN t al m with
  | none=>rw [h1] at h;cases h
  | some m1 =>
   rw [h1] at h
   rw [mapsN_pos ts al m1 m' h,mapN_pos t al m m1 h1,nposs]
   omega
end
theorem map_pos {t:T} {m:PM} (h:mapT t=some m):m.sets.length=npos t+1:=by
 have:=mapN_pos t [] pm0 m h
 rw [this]
 show 1+npos t=_
 omega
end Go.Proofs.YtbohmcfplgdlpaaDoor

/- The groups that are open while a tree is gone through for its moves: what is still to come of them, as plain values.
   Conditions: those that each theorem states. -/
namespace Go.Proofs.YtbohmcfplgdlpaaDoor
open Go.RowKit
structure Gp where
 nb:Nat
 no:Nat
 t:V
 ar:Nat
 nv:Value
 ps:List V
 f:Fc
def Gp.ag (g:Gp):Bool:=cnt4 g.t.kind g.t.lo g.t.hi
def Gp.be (g:Gp):Nat:=blA g.ar g.ag
def Gp.ad (g:Gp) (f:Fc):Gp:={ g with f:=adF g.t.kind g.f f }
def Gp.js (g:Gp) (f:Fc):List Jt:=adJ g.t.kind g.t.hi g.ar g.ag g.f f
def Gp.tk (g:Gp) (nv:Value) (ps:List V):Gp:={ g with nv:=nv,ps:=ps }
def Gp.op (nb no:Nat) (u:V) (ar a:Nat):Gp:=⟨nb,no,u,ar,u.v,u.ps,opF u.kind u.set u.lo a⟩
def gpR (g:Gp) (a:Nat):Fc×Nat×List Jt:=mvsT g.t.kind g.t.hi g.ar g.ag (erases g.ps) g.f a
def upW:List Gp→Fc→Nat→Fc×Nat×List Jt
 | [],f,a=>(f,a,[])
 | p :: gs,f,a=>((upW gs (gpR (p.ad f) a).1 (gpR (p.ad f) a).2.1).1,(upW gs (gpR (p.ad f) a).1 (gpR (p.ad f) a).2.1).2.1,p.js f ++ ((gpR (p.ad f) a).2.2 ++ (upW gs (gpR (p.ad f) a).1 (gpR (p.ad f) a).2.1).2.2))
def resW (g:Gp) (gs:List Gp) (a:Nat):Fc×Nat×List Jt:=((upW gs (gpR g a).1 (gpR g a).2.1).1,(upW gs (gpR g a).1 (gpR g a).2.1).2.1,(gpR g a).2.2 ++ (upW gs (gpR g a).1 (gpR g a).2.1).2.2)
theorem gpR_nil (g:Gp) (a:Nat) (h:g.ps=[]):gpR g a=(g.f,a,[]):=by unfold gpR;rw [h,erases,mvsT]
theorem resW_end (g:Gp) (a:Nat) (h:g.ps=[]):resW g [] a=(g.f,a,[]):=by unfold resW;rw [gpR_nil g a h,upW];rfl
theorem resW_pop (g p:Gp) (gs:List Gp) (a:Nat) (h:g.ps=[]):resW g (p :: gs) a=((resW (p.ad g.f) gs a).1,(resW (p.ad g.f) gs a).2.1,p.js g.f ++ (resW (p.ad g.f) gs a).2.2):=by
 unfold resW;rw [gpR_nil g a h,upW];rfl
theorem gpR_op (nb no:Nat) (u:V) (ar a:Nat):gpR (Gp.op nb no u ar a) (opA u.kind u.set a)=mvT (erase u) ar a:=by
 cases u with
 | node k C lo hi v ps =>
  unfold gpR Gp.op Gp.ag
  simp only [V.kind,V.set,V.lo,V.hi,V.ps]
  rw [erase,mvT]
theorem resW_start (nb no:Nat) (u:V) (a:Nat):resW (Gp.op nb no u 0 a) [] (opA u.kind u.set a)=mvT (erase u) 0 a:=by
 unfold resW
 rw [gpR_op,upW,List.append_nil]
theorem resW_take (g:Gp) (gs:List Gp) (a nb no:Nat) (nv:Value) (u:V) (us:List V) (h:g.ps=u :: us) :
  resW (Gp.op nb no u g.be a) (g.tk nv us :: gs) (opA u.kind u.set a)=resW g gs a:=by
 unfold resW
 rw [gpR_op,upW]
 have e:∀ r:Fc×Nat×List Jt,mvT (erase u) g.be a=r→gpR g a=((gpR ((g.tk nv us).ad r.1) r.2.1).1,(gpR ((g.tk nv us).ad r.1) r.2.1).2.1,r.2.2 ++ (g.tk nv us).js r.1 ++ (gpR ((g.tk nv us).ad r.1) r.2.1).2.2):=fun r hr=>by
  subst hr
  conv=>lhs;unfold gpR
  rw [h,erases,mvsT]
  rfl
 rw [e _ rfl]
 generalize mvT (erase u) g.be a=r
 generalize gpR ((g.tk nv us).ad r.1) r.2.1=s
 simp only [List.append_assoc]
theorem gpR_at (g:Gp) (a:Nat):(gpR g a).2.1=a+nposs (erases g.ps):=by unfold gpR;rw [mvs_at]
theorem upW_le:∀ (gs:List Gp) (f:Fc) (a:Nat),a≤(upW gs f a).2.1
 | [],f,a=>by rw [upW];exact Nat.le_refl _
 | p :: gs,f,a=>by
  rw [upW]
  have h1:=upW_le gs (gpR (p.ad f) a).1 (gpR (p.ad f) a).2.1
  have h2:=gpR_at (p.ad f) a
  show a≤(upW gs (gpR (p.ad f) a).1 (gpR (p.ad f) a).2.1).2.1
  omega
theorem resW_le (g:Gp) (gs:List Gp) (a:Nat):a≤(resW g gs a).2.1:=by
 unfold resW
 have h1:=upW_le gs (gpR g a).1 (gpR g a).2.1
 have h2:=gpR_at g a
 show a≤(upW gs (gpR g a).1 (gpR g a).2.1).2.1
 omega
mutual
theorem mv_js:∀ (t:T) (ar a:Nat),(mvT t ar a).2.2.length+1≤szT t
 | .node k C lo hi ps,ar,a=>by
  rw [mvT,szT]
  have:=mvs_js k hi ar (cnt4 k lo hi) ps (opF k C lo a) (opA k C a)
  omega
theorem mvs_js (k hi:Int) (ar:Nat) (ag:Bool):∀ (ts:List T) (f:Fc) (a:Nat),(mvsT k hi ar ag ts f a).2.2.length≤szsT ts
 | [],f,a=>by rw [mvsT];simp
 | t :: ts,f,a=>by
  rw [mvsT,szsT]
  have h1:=mv_js t (blA ar ag) a
  have h2:=mvs_js k hi ar ag ts (adF k f (mvT t (blA ar ag) a).1) (mvT t (blA ar ag) a).2.1
  have h3:(adJ k hi ar ag f (mvT t (blA ar ag) a).1).length≤1:=by
   unfold adJ
   split
   ·simp
   ·split <;> simp
  simp only [List.length_append]
  omega
end
mutual
def in4:T→Nat→Prop
 | .node k _ lo hi ps,ar=>blA ar (cnt4 k lo hi)≤4∧in4s ps (blA ar (cnt4 k lo hi))
def in4s:List T→Nat→Prop
 | [],_=>True
 | t :: ts,ar=>in4 t ar∧in4s ts ar
end
theorem belP_bl (k lo hi:Int) (al:List Nat) (m:PM):(belP k lo hi al m).length=blA al.length (cnt4 k lo hi):=by
 unfold belP blA
 split <;> simp
mutual
theorem mapN_in4:∀ (t:T) (al:List Nat) (m m':PM),mapN t al m=some m'→in4 t al.length
 | .node k C lo hi ps,al,m,m',h=>by
  rw [mapN] at h
  split at h
  ·cases h
  ·rename_i ho
   have h1:=mapsN_in4 ps _ _ m' h
   rw [belP_bl] at h1
   rw [in4]
   refine ⟨?_,h1⟩
   have h2:¬ (41<(putP k C al (scP k lo hi m)).sets.length∨4<(belP k lo hi al m).length):=fun h=>ho (by unfold overP;exact decide_eq_true h)
   rw [belP_bl] at h2
   omega
theorem mapsN_in4:∀ (ts:List T) (al:List Nat) (m m':PM),mapsN ts al m=some m'→in4s ts al.length
 | [],al,m,m',h=>by rw [in4s];trivial
 | t :: ts,al,m,m',h=>by
  rw [mapsN] at h
  cases h1:mapN t al m with
  | none=>rw [h1] at h;cases h
  | some m1 =>
   rw [h1] at h
   rw [in4s]
   exact ⟨mapN_in4 t al m m1 h1,mapsN_in4 ts al m1 m' h⟩
end
theorem map_in4 {t:T} {m:PM} (h:mapT t=some m):in4 t 0:=mapN_in4 t [] pm0 m h
theorem in4_op {u:V} {ar:Nat} (h:in4 (erase u) ar):blA ar (cnt4 u.kind u.lo u.hi)≤4∧in4s (erases u.ps) (blA ar (cnt4 u.kind u.lo u.hi)):=by
 cases u with
 | node k C lo hi v ps=>rw [erase,in4] at h;exact h
theorem fc64_in {a:Nat} {f:Fc} (h:FcIn 0 a f) (ha:a≤40):Fc64 f:=by
 have e:(2:Nat) ^ 41<18446744073709551616:=by decide
 exact ⟨Nat.lt_trans (h.fi.wid (Nat.le_refl 0) ha).lt e,Nat.lt_trans (h.la.wid (Nat.le_refl 0) ha).lt e⟩
def wGp:List Gp→Nat
 | []=>0
 | g :: gs=>2 * szsT (erases g.ps)+1+wGp gs
theorem wGp_len:∀ gs:List Gp,gs.length≤wGp gs
 | []=>by simp [wGp]
 | g :: gs=>by have:=wGp_len gs;rw [wGp,List.length_cons];omega
theorem wGp_take (g:Gp) (gs:List Gp) (nb no ar a:Nat) (nv:Value) (u:V) (us:List V) (h:g.ps=u :: us):wGp (Gp.op nb no u ar a :: g.tk nv us :: gs)+1=wGp (g :: gs):=by
 have:=sz_eq u
 simp only [wGp,Gp.op,Gp.tk,h,erases,szsT]
 omega
theorem okF.bnd4 {u:V} (h:okF u) (hk:u.kind=4):okT (.node 4 zeros u.lo u.hi [.node 0 zeros 0 0 []])=true:=by
 unfold okF at h
 cases u with
 | node k C lo hi v ps =>
  simp only [V.kind,V.lo,V.hi] at hk ⊢
  subst hk
  rw [erase,okT,Bool.and_eq_true] at h
  have h1:=of_decide_eq_true (show okA 4 (z4 C) lo hi (erases ps).length=true from h.1:decide _=true)
  have hb:bnd lo hi=true:=by
   rcases h1 with ⟨e,_⟩ | ⟨e,_⟩ | ⟨e,_⟩ | ⟨_,_,_,e⟩
   ·omega
   ·omega
   ·omega
   ·exact e
  have hz:z4 zeros=true:=by decide
  simp [okT,oksT,okA,hb,hz]
structure GOk (a:Nat) (g:Gp):Prop where
 ok:okF g.t
 oks:∀ p∈g.ps,okF p
 be:g.be≤4
 in4:in4s (erases g.ps) g.be
 fc:FcIn 0 a g.f
theorem GOk.wid {a b:Nat} {g:Gp} (h:GOk a g) (hab:a≤b):GOk b g:=⟨h.ok,h.oks,h.be,h.in4,h.fc.wid (Nat.le_refl _) hab⟩
theorem GOk.opn {a ar nb no:Nat} {u:V} (hok:okF u) (hin:Go.Proofs.YtbohmcfplgdlpaaDoor.in4 (erase u) ar):GOk (opA u.kind u.set a) (Gp.op nb no u ar a) :=
 ⟨hok,fun _ hp=>hok.part hp,(in4_op hin).1,(in4_op hin).2,(op_in u.kind u.set u.lo a).wid (Nat.zero_le _) (Nat.le_refl _)⟩
theorem GOk.take {a:Nat} {g:Gp} {u:V} {us:List V} {nv:Value} (h:GOk a g) (hps:g.ps=u :: us):GOk a (g.tk nv us)∧okF u∧Go.Proofs.YtbohmcfplgdlpaaDoor.in4 (erase u) g.be:=by
 have h1:=h.in4
 rw [hps,erases,in4s] at h1
 exact ⟨⟨h.ok,fun p hp=>h.oks p (by rw [hps];simp [show p∈us from hp]),h.be,h1.2,h.fc⟩,h.oks u (by rw [hps];simp),h1.1⟩
theorem GOk.add {a:Nat} {g:Gp} {f:Fc} (h:GOk a g) (hf:FcIn 0 a f):GOk a (g.ad f):=⟨h.ok,h.oks,h.be,h.in4,ad_in h.fc hf⟩
end Go.Proofs.YtbohmcfplgdlpaaDoor

/- Whether a repeated node is a scope, asked by its bounds alone: a contract.
   Conditions: the node's bounds lie in memory; a repeated node of nothing with them is formed. -/
namespace Go.Proofs.YtbohmcfplgdlpaaDoor
open Go.RowKit Go.Shelf
theorem alloc2_new (w:World) (A B:Obj):((w.alloc A).alloc B).heap[w.heap.size+1]? = some B:=by
 have:=World.alloc_heap_new (w.alloc A) B
 rwa [World.size_alloc] at this
abbrev zero8:Array Value:=#[.int .i64 0,.int .u64 0,.int .u64 0,.int .u64 0,.int .u64 0,.slice none 0 0,.int .i64 0,.int .i64 0]
theorem cnt_call (lo hi m:Int) (c:Bool) (hm:m=max 1 lo) (hcc:c=cntS (max 1 lo) hi) (hok:okT (.node 4 zeros lo hi [.node 0 zeros 0 0 []])=true) (W:World) (bs:Nat) (hb:W.heap[bs]? = some (.cells zero8 27 (0,0))) :
  Calls Tryd.prog 69 #[.agg #[.int .i64 4,.int .u64 0,.int .u64 0,.int .u64 0,.int .u64 0,.slice (some ⟨bs,0,none⟩) 1 1,.int .i64 lo,.int .i64 hi]] W fun e w'=>e=.returned (.tuple #[.agg #[.int .i64 m,.int .i64 hi],.bool c])∧Below W.heap.size W w':=by
 subst hm hcc
 refine placeCounts_any lo hi (some ⟨bs,0,none⟩) 1 1 [.node 0 zeros 0 0 (.slice none 0 0) []] W (fun _=>True) ?_ ?_ ?_
 ·refine Laid.some 4 zeros lo hi [.node 0 zeros 0 0 (.slice none 0 0) []] bs 0 1 trivial (Array.getElem?_eq_some_iff.1 hb).1 (by simp) ?_ ?_
  ·intro i t ht k u hu
   cases i with
   | succ i=>simp at ht
   | zero =>
    simp at ht
    subst ht
    rw [show (0+0 * 8+k:Nat)=k by omega,(row_cells hb).1 k,← hu]
    rw [← Array.getElem?_toList]
    rfl
  ·intro t ht
   rw [List.mem_singleton.1 ht]
   exact Laid.none _ _ _ _ _ _
 ·simp [erase,erases,szT,szsT]
 ·exact hok
set_option maxHeartbeats 4000000 in
set_option maxRecDepth 100000 in
theorem cnt_any (nb no:Nat) (lo hi:Int) (hok:okT (.node 4 zeros lo hi [.node 0 zeros 0 0 []])=true) (w:World) (c6:w.cell? ⟨nb,no+6,none⟩=some (.int .i64 lo)) (c7:w.cell? ⟨nb,no+7,none⟩=some (.int .i64 hi)) (hlt:nb<w.heap.size) :
  Calls Tryd.prog 51 #[.pointer (some ⟨nb,no,none⟩)] w fun e w'=>e=.returned (.bool (cntS (max 1 lo) hi))∧Below w.heap.size w w':=by
 go_enter Tryd.func51,Tryd.ntmps51
 go_upto_region 1 with fail
 have HOK:=Lib.hid hok
 clear hok
 obtain ⟨m,hm⟩ : ∃ m,m=max 1 lo:=⟨_,rfl⟩
 obtain ⟨c,hcc⟩ : ∃ c,c=cntS (max 1 lo) hi:=⟨_,rfl⟩
 have HM:=Lib.hid hm
 have HC:=Lib.hid hcc
 clear hm hcc
 go_region_held3 (fun W=>W.cell? ⟨nb,no+6,none⟩=some (.int .i64 lo)∧W.cell? ⟨nb,no+7,none⟩=some (.int .i64 hi)) (first | exact ⟨q6,q7⟩ | go_keep | exact ⟨(World.cell?_of_block ((Below.heap_setCell _ _ _ _ (by dsimp only;omega)).trans (Below.heap_setCell _ _ _ _ (by dsimp only;omega)))).trans q6,(World.cell?_of_block ((Below.heap_setCell _ _ _ _ (by dsimp only;omega)).trans (Below.heap_setCell _ _ _ _ (by dsimp only;omega)))).trans q7⟩) ((go_at_call 69;refine (cnt_call lo hi m c HM.out HC.out HOK.out _ _ (by first | exact heap_alloc_new _ _ | exact alloc2_new _ _ _ | exact (Below.heap_alloc _ _ _ (by simp)).trans (heap_alloc_new _ _))).mono ?_;rintro e w7 ⟨rfl,hb7⟩;have HB7:Hid (Below w.heap.size w w7):=Lib.hid (by first | exact bhop ((Below.refl _ w).alloc (Nat.le_refl _) _).drew hb7 | exact bhop (((Below.refl _ w).alloc (Nat.le_refl _) _).alloc (by simp) _).drew hb7);(try (have hbx:w7.heap[w.heap.size]? = some (.cells #[.int .i64 0,.int .i64 0] 154 (0,0)):=(hb7.block _ (by simp;try omega)).trans (by first | exact heap_alloc_new _ _ | exact (Below.heap_alloc _ _ _ (by simp)).trans (heap_alloc_new _ _));have s0:=(row_cells hbx).1 0;have s1:=(row_cells hbx).1 1;have f0:=(row_cells hbx).2 0;have f1:=(row_cells hbx).2 1;have hl:=(Array.getElem?_eq_some_iff.1 hbx).1;simp at s0 s1;clear hbx));(try (have hbx:w7.heap[w.heap.size+1]? = some (.cells #[.int .i64 0,.int .i64 0] 154 (0,0)):=(hb7.block _ (by simp)).trans (alloc2_new _ _ _);have s0:=(row_cells hbx).1 0;have s1:=(row_cells hbx).1 1;have f0:=(row_cells hbx).2 0;have f1:=(row_cells hbx).2 1;have hl:=(Array.getElem?_eq_some_iff.1 hbx).1;simp at s0 s1;clear hbx));have q6:w7.cell? ⟨nb,no+6,none⟩=some (.int .i64 lo):=(HB7.out.cell (p:=⟨nb,no+6,none⟩) hlt).trans c6;have q7:w7.cell? ⟨nb,no+7,none⟩=some (.int .i64 hi):=(HB7.out.cell (p:=⟨nb,no+7,none⟩) hlt).trans c7;have ql:nb<w7.heap.size:=Nat.lt_of_lt_of_le hlt HB7.out.size;clear hb7))
 all_goals
  go_wp2_with fail
  have hs7:=HB7.out.size
  refine bodyPost_ret (results_tmp rfl _ _ _) rfl ⟨by show Ending.returned (.bool c)=_;rw [HC.out],?_⟩
  first
   | exact (HB7.out.setCell (show w.heap.size≤w.heap.size by omega) _).setCell (show w.heap.size≤w.heap.size by omega) _
   | exact (HB7.out.setCell (show w.heap.size≤w.heap.size+1 by omega) _).setCell (show w.heap.size≤w.heap.size+1 by omega) _
   | exact HB7.out.alloc hs7 _
   | exact ((HB7.out.alloc hs7 _).setCell (p:=⟨w7.heap.size,0,none⟩) hs7 _).setCell (p:=⟨w7.heap.size,1,none⟩) hs7 _
end Go.Proofs.YtbohmcfplgdlpaaDoor
