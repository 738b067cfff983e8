/- What the parts of a list of classes come to, however many these are: the classes of the numbering by first occurrence, in a row of their own: a contract for the proofs of the statements.
   Conditions: at most a million classes, each four words below 2^64, in a row of memory, as the theorem states. -/
import Derived.KernelRfl
import Derived.Test.YtbohmcfplgdlpaaDoorMBase
import Derived.Deep.RegionWith
import Derived.Maps.OwnSet
import Derived.Maps.OwnOps
import Derived.Maps.Views
import Derived.DeepKeys4
import Derived.Deep.WholeRow
import Derived.RegionTactic
import Derived.BigRegion
import Derived.Test.YtbohmcfplgdlpaaDoorPA
import Derived.RangeFuncNested
import Derived.RangeFuncBound
import Derived.RangeFuncCalls
import Derived.RangeFuncLeaves
import Derived.RangeFuncBox
import Derived.Shelf.Abstract
import Derived.Lib.Hide
import Derived.OwnWalkIn
import Derived.TacticsInMore
import Derived.LoopNIn
import Derived.LoopIn
import Derived.RegionIn

/- Numbering what is alike by its first occurrence: plain facts on an equivalence of numbers; no program is spoken of here.
   Conditions: the relation is reflexive, symmetric and transitive ('Alike'). -/
namespace Go.Proofs.YtbohmcfplgdlpaaDoor.Lc
def Alike (r:Nat→Nat→Bool):Prop:=(∀ a,r a a=true)∧(∀ a b,r a b=true→r b a=true)∧∀ a b c,r a b=true→r b c=true→r a c=true
theorem Alike.refl {r:Nat→Nat→Bool} (h:Alike r):∀ a,r a a=true:=h.1
theorem Alike.symm {r:Nat→Nat→Bool} (h:Alike r):∀ a b,r a b=true→r b a=true:=h.2.1
theorem Alike.trans {r:Nat→Nat→Bool} (h:Alike r):∀ a b c,r a b=true→r b c=true→r a c=true:=h.2.2
def firstLt (p:Nat→Bool):Nat→Option Nat
 | 0=>none
 | n+1=>match firstLt p n with
  | some x=>some x
  | none=>if p n then some n else none
theorem firstLt_spec (p:Nat→Bool) (n:Nat):(firstLt p n=none∧∀ a,a<n→p a=false)∨(∃ a,firstLt p n=some a∧a<n∧p a=true∧∀ b,b<a→p b=false):=by
 induction n with
 | zero=>exact .inl ⟨rfl,fun a h=>by omega⟩
 | succ n ih =>
  rcases ih with ⟨h1,h2⟩ | ⟨a,h1,h2,h3,h4⟩
  ·cases e:p n with
   | true=>exact .inr ⟨n,by simp [firstLt,h1,e],by omega,e,h2⟩
   | false =>
    refine .inl ⟨by simp [firstLt,h1,e],fun a ha=>?_⟩
    by_cases h:a=n
    ·subst h;exact e
    ·exact h2 a (by omega)
  ·exact .inr ⟨a,by simp [firstLt,h1],by omega,h3,h4⟩
def fst (r:Nat→Nat→Bool) (b:Nat):Nat:=(firstLt (fun a=>r a b) (b+1)).getD 0
def news (r:Nat→Nat→Bool) (n:Nat):Nat:=(List.range n).countP (fun b=>fst r b == b)
def nm (r:Nat→Nat→Bool) (b:Nat):Nat:=news r (fst r b)
section
variable {r:Nat→Nat→Bool}
theorem fst_spec (h:Alike r) (b:Nat):fst r b≤b∧r (fst r b) b=true∧∀ a,a<fst r b→r a b=false:=by
 unfold fst
 rcases firstLt_spec (fun a=>r a b) (b+1) with ⟨_,h2⟩ | ⟨a,h1,h2,h3,h4⟩
 ·have:=h2 b (by omega)
  rw [h.refl b] at this
  cases this
 ·rw [h1]
  exact ⟨by simp;omega,h3,h4⟩
theorem fst_le (h:Alike r) {a b:Nat} (hab:r a b=true):fst r b≤a:=by
 by_cases e:fst r b≤a
 ·exact e
 ·have:=(fst_spec h b).2.2 a (by omega)
  rw [hab] at this
  cases this
theorem fst_eq (h:Alike r) {a b:Nat} (hab:r a b=true):fst r a=fst r b:=by
 have h1:=fst_le h (h.trans _ _ _ (fst_spec h a).2.1 hab)
 have h2:=fst_le h (h.trans _ _ _ (fst_spec h b).2.1 (h.symm _ _ hab))
 omega
theorem fst_fst (h:Alike r) (b:Nat):fst r (fst r b)=fst r b:=fst_eq h (fst_spec h b).2.1
theorem alike_of_fst (h:Alike r) {a b:Nat} (e:fst r a=fst r b):r a b=true :=
 h.trans _ _ _ (h.symm _ _ (fst_spec h a).2.1) (by rw [e];exact (fst_spec h b).2.1)
theorem news_succ (n:Nat):news r (n+1)=news r n+if fst r n=n then 1 else 0:=by
 unfold news
 rw [List.range_succ,List.countP_append]
 simp [List.countP_cons]
theorem news_le (n:Nat):news r n≤n:=by
 have:=List.countP_le_length (p:=fun b=>fst r b == b) (l:=List.range n)
 unfold news;simpa using this
theorem news_mono {n m:Nat} (h:n≤m):news r n≤news r m:=by
 induction m with
 | zero =>
  obtain rfl:n=0:=by omega
  exact Nat.le_refl _
 | succ m ih =>
  by_cases e:n=m+1
  ·subst e;exact Nat.le_refl _
  ·rw [news_succ];have:=ih (by omega);omega
theorem news_lt {n m:Nat} (h:n<m) (hn:fst r n=n):news r n<news r m:=by
 have h1:=news_mono (r:=r) (show n+1≤m by omega)
 rw [news_succ,if_pos hn] at h1
 omega
theorem nm_eq (h:Alike r) {a b:Nat} (hab:r a b=true):nm r a=nm r b:=by unfold nm;rw [fst_eq h hab]
theorem alike_of_nm (h:Alike r) {a b:Nat} (e:nm r a=nm r b):r a b=true:=by
 apply alike_of_fst h
 unfold nm at e
 rcases Nat.lt_trichotomy (fst r a) (fst r b) with h1 | h1 | h1
 ·have:=news_lt h1 (fst_fst h a);omega
 ·exact h1
 ·have:=news_lt h1 (fst_fst h b);omega
theorem nm_iff (h:Alike r) (a b:Nat):nm r a=nm r b↔r a b=true:=⟨alike_of_nm h,nm_eq h⟩
theorem nm_new (b:Nat) (hb:fst r b=b):nm r b=news r b:=by unfold nm;rw [hb]
theorem nm_lt (h:Alike r) {b n:Nat} (hb:b<n):nm r b<news r n:=by
 unfold nm
 exact news_lt (Nat.lt_of_le_of_lt (fst_spec h b).1 hb) (fst_fst h b)
theorem news_hit (n k:Nat) (hk:k<news r n):∃ b,b<n∧fst r b=b∧news r b=k:=by
 induction n with
 | zero=>simp [news] at hk
 | succ n ih =>
  rw [news_succ] at hk
  by_cases e:fst r n=n
  ·rw [if_pos e] at hk
   by_cases e2:k<news r n
   ·obtain ⟨b,h1,h2,h3⟩:=ih e2
    exact ⟨b,by omega,h2,h3⟩
   ·exact ⟨n,by omega,e,by omega⟩
  ·rw [if_neg e] at hk
   obtain ⟨b,h1,h2,h3⟩:=ih (by omega)
   exact ⟨b,by omega,h2,h3⟩
theorem news_pos (h:Alike r):0<news r 256:=by
 have h0:fst r 0=0:=by have:=(fst_spec h 0).1;omega
 have:=news_lt (r:=r) (show 0<256 by decide) h0
 omega
theorem new_iff (h:Alike r) (i:Nat):fst r i=i↔∀ a,a<i→r a i=false:=by
 constructor
 ·intro e a ha
  exact (fst_spec h i).2.2 a (by omega)
 ·intro e
  have h1:=fst_spec h i
  by_cases h2:fst r i=i
  ·exact h2
  ·have:=e (fst r i) (by omega)
   rw [h1.2.1] at this
   cases this
theorem nm_old (h:Alike r) {i a:Nat} (ha:a<i) (hr:r a i=true):news r (i+1)=news r i∧nm r i=nm r a:=by
 refine ⟨?_,(nm_eq h hr).symm⟩
 rw [news_succ,if_neg]
 ·rfl
 ·intro e
  have:=(new_iff h i).1 e a ha
  rw [hr] at this
  cases this
theorem nm_fresh (h:Alike r) {i:Nat} (hn:∀ a,a<i→r a i=false):news r (i+1)=news r i+1∧nm r i=news r i:=by
 have e:=(new_iff h i).2 hn
 exact ⟨by rw [news_succ,if_pos e],nm_new i e⟩
end
theorem fst_congr {r s:Nat→Nat→Bool} (hr:Alike r) (hs:Alike s) {n:Nat} (he:∀ a b,a<n→b<n→r a b=s a b) {b:Nat} (hb:b<n):fst r b=fst s b:=by
 have h1:=fst_spec hr b
 have h2:=fst_spec hs b
 have a1:fst s b≤fst r b:=fst_le hs (by rw [← he _ _ (by omega) hb];exact h1.2.1)
 have a2:fst r b≤fst s b:=fst_le hr (by rw [he _ _ (by omega) hb];exact h2.2.1)
 omega
theorem news_congr {r s:Nat→Nat→Bool} (hr:Alike r) (hs:Alike s) {n:Nat} (he:∀ a b,a<n→b<n→r a b=s a b):∀ m,m≤n→news r m=news s m
 | 0,_=>rfl
 | m+1,h=>by
  rw [news_succ,news_succ,news_congr hr hs he m (by omega),fst_congr hr hs he (show m<n by omega)]
theorem nm_congr {r s:Nat→Nat→Bool} (hr:Alike r) (hs:Alike s) {n:Nat} (he:∀ a b,a<n→b<n→r a b=s a b) {b:Nat} (hb:b<n):nm r b=nm s b:=by
 unfold nm
 rw [fst_congr hr hs he hb]
 exact news_congr hr hs he _ (by have:=(fst_spec hs b).1;omega)
end Go.Proofs.YtbohmcfplgdlpaaDoor.Lc

/- Whether a byte is in a class, and a class's least byte: the program's own calls, contracts.
   Conditions: classes are four words below 2^64 ('Cl'), bytes below 256. -/
namespace Go.Proofs.YtbohmcfplgdlpaaDoor.Lc
open Go.RowKit
def bitN (C:Nat→Nat) (b:Nat):Nat:=C (b / 64) / 2 ^ (b % 64) % 2
theorem v_bit {C:Nat→Nat} (h:Cl C) (b:Nat):bits .and .u64 ((C (b / 64):Int) / 2 ^ (b % 64)) 1=((bitN C b:Nat):Int):=by
 have e:((C (b / 64):Int) / 2 ^ (b % 64))=((C (b / 64) / 2 ^ (b % 64):Nat):Int):=by simp
 have l:=Nat.lt_of_le_of_lt (Nat.div_le_self (C (b / 64)) (2 ^ (b % 64))) (h (b / 64))
 rw [e]
 generalize hx:C (b / 64) / 2 ^ (b % 64)=x at l
 rw [and_one_u64 _ (Int.natCast_nonneg _) (by omega)]
 unfold bitN
 rw [hx]
 omega
theorem bitN_one (C:Nat→Nat) (b:Nat):((bitN C b:Int) == 1)=hasB C b:=by
 rw [hasB_div]
 unfold bitN
 generalize C (b / 64) / 2 ^ (b % 64)=x
 rcases Nat.mod_two_eq_zero_or_one x with h | h <;> simp [h]
set_option maxHeartbeats 400000 in
set_option maxRecDepth 100000 in
theorem bit_any (C:Nat→Nat) (b:Nat) (w:World) (hC:Cl C) (hb:b<256) :
  Calls Tryd.prog 29 #[.agg #[.int .u64 (C 0:Nat),.int .u64 (C 1:Nat),.int .u64 (C 2:Nat),.int .u64 (C 3:Nat)],.int .u8 b] w fun e w'=>e=.returned (.int .u64 (bitN C b))∧Below w.heap.size w w':=by
 have hc:=pick4 C (b / 64) (by omega)
 have hv:=v_bit hC b
 go_enter Tryd.func29,Tryd.ntmps29
 go_wp2
 go_ret
 exact ⟨rfl,(Below.refl _ _).alloc (Nat.le_refl _) _⟩
set_option maxHeartbeats 400000 in
set_option maxRecDepth 100000 in
theorem has_any (C:Nat→Nat) (b:Nat) (w:World) (hC:Cl C) (hb:b<256) :
  Calls Tryd.prog 17 #[.agg #[.int .u64 (C 0:Nat),.int .u64 (C 1:Nat),.int .u64 (C 2:Nat),.int .u64 (C 3:Nat)],.int .u8 b] w fun e w'=>e=.returned (.bool (hasB C b))∧Below w.heap.size w w':=by
 have hv:=bitN_one C b
 go_enter Tryd.func17,Tryd.ntmps17
 go_wp2_with (go_at_call 29;refine (bit_any C b _ hC hb).mono ?_;rintro e w1 ⟨rfl,hb1⟩)
 go_ret
 exact ⟨rfl,((Below.refl _ _).alloc (Nat.le_refl _) _).trans (hb1.mono (by simp))⟩
def NoneBelow (C:Nat→Nat) (n:Nat):Prop:=∀ b,b<n→hasB C b=false
theorem noneBelow_succ {C:Nat→Nat} {i j x:Nat} (h:NoneBelow C (64 * i+j)) (hx:x=C i / 2 ^ j) (hj:j<64) (he:((x:Int) % 2 == 1)=false):NoneBelow C (64 * i+(j+1)):=by
 intro b hb
 by_cases e:b=64 * i+j
 ·subst e
  rw [hasB_at C i j hj,← hx]
  simp at he
  simp;omega
 ·exact h b (by omega)
theorem noneBelow_rest {C:Nat→Nat} {i j:Nat} (h:NoneBelow C (64 * i+j)) (hz:C i / 2 ^ j=0):NoneBelow C (64 * (i+1)):=by
 intro b hb
 by_cases e:b<64 * i+j
 ·exact h b e
 ·have hk:b=64 * i+(b - 64 * i):=by omega
  rw [hk,hasB_at C i _ (by omega),show b - 64 * i=j+(b - 64 * i - j) by omega,shr_zero_add hz]
  rfl
theorem least_here {C:Nat→Nat} {i j x:Nat} (h:NoneBelow C (64 * i+j)) (hx:x=C i / 2 ^ j) (hi:i<4) (hj:j<64) (he:((x:Int) % 2 == 1)=true):lst C 256=some (64 * i+j):=by
 refine lst_some h ?_ 256 (by omega)
 rw [hasB_at C i j hj,← hx]
 simp at he
 simp;omega
set_option maxHeartbeats 1000000 in
set_option maxRecDepth 100000 in
theorem least_any (C:Nat→Nat) (w:World) (hC:Cl C) :
  Calls Tryd.prog 31 #[.agg #[.int .u64 (C 0:Nat),.int .u64 (C 1:Nat),.int .u64 (C 2:Nat),.int .u64 (C 3:Nat)]] w fun e w'=>e=.returned (.tuple #[.int .u8 ((lst C 256).getD 0:Nat),.bool (lst C 256).isSome])∧Below w.heap.size w w':=by
 go_enter Tryd.func31,Tryd.ntmps31
 go_wp2
 go_loop [4,5,6,8] (fun _ _ _ i=>∃ k:Nat,k≤4∧i=.int .i64 k∧NoneBelow C (64 * k)) (fun _ _ _ i=>4 - (intOf i).toNat)
 case atStart=>exact ⟨0,Nat.zero_le _,rfl,fun b hb=>by omega⟩
 case round =>
  obtain ⟨k,hk,rfl,hn⟩:=hrel
  by_cases hlt:k<4
  ·have i0:=idx_at C k hlt
   have hk0:(0:Int)≤(k:Int):=Int.natCast_nonneg _
   have hk1:(k:Int)<4:=by omega
   go_wp2
   go_loop [5,6] (fun v b=>∃ j x:Nat,j≤64∧x=C k / 2 ^ j∧v=.int .u64 x∧b=.int .i64 (64 * k+j:Nat)∧NoneBelow C (64 * k+j)) (fun v _=>(intOf v).toNat)
   case atStart=>exact ⟨0,_,Nat.zero_le _,by simp,rfl,by go_num,hn⟩
   case round =>
    obtain ⟨j,x,hj,hx,rfl,rfl,hm⟩:=hrel
    have hxl:x<18446744073709551616:=by rw [hx];exact shr_bound hC _ _
    have hv:=and_one_nat hxl
    by_cases hz:x=0
    ·have hd:=noneBelow_rest hm (by rw [← hx];exact hz)
     clear hx hv hxl
     subst hz
     go_wp2
     go_round
     case rel=>exact ⟨k+1,by omega,by go_num,hd⟩
     case measure=>simp [intOf];omega
    ·have hj':j<64:=shr_lt hC (i:=k) (k:=j) (by rw [← hx];exact hz)
     have hz':((x:Int) == 0)=false:=by simp [hz]
     have hz2:((x:Int) != 0)=true:=by simp [hz]
     have hw:IntKind.u64.wrap ((x:Int) / 2)=(x:Int) / 2:=wrapu hxl
     have HX:=Lib.hid hx
     clear hx hxl
     by_cases ho:((x:Int) % 2 == 1)=true
     ·have hl:=least_here hm HX.out hlt hj' ho
      go_wp2
      go_ret2
      exact ⟨rfl,(Below.refl _ _).alloc (Nat.le_refl _) _⟩
     ·have ho':((x:Int) % 2 == 1)=false:=by simpa using ho
      have hn':=noneBelow_succ hm HX.out hj' ho'
      go_wp2
      go_round
      case rel=>exact ⟨j+1,x / 2,by omega,by rw [HX.out,shr_succ],by go_num,by go_num,hn'⟩
      case measure=>simp [intOf];omega
  ·have hk4:k=4:=by omega
   subst hk4
   have hl:=lst_none hn
   go_wp2
   go_ret2
   exact ⟨rfl,(Below.refl _ _).alloc (Nat.le_refl _) _⟩
end Go.Proofs.YtbohmcfplgdlpaaDoor.Lc

/- What the call that tells a byte's classes as the bits of a word comes to: a contract for the proofs of the statements.
   Conditions: at most 64 classes, each four words below 2^64, in a row of memory, as the theorem states. -/
namespace Go.Proofs.YtbohmcfplgdlpaaDoor.Lc
open Go.RowKit
def ClassRow (w:World) (A:Option Addr) (n:Nat) (L:Nat→Nat→Nat):Prop:=0<n→∃ b off,A=some ⟨b,off,none⟩∧b<w.heap.size∧∀ t,t<n→∀ j,j<4→w.cell? ⟨b,off+t * 4+j,none⟩=some (.int .u64 (L t j:Nat))
theorem ClassRow.below {w w':World} {A:Option Addr} {n:Nat} {L:Nat→Nat→Nat} (h:ClassRow w A n L) (hb:Below w.heap.size w w'):ClassRow w' A n L:=fun h0=>by
 obtain ⟨b,off,e,hlt,hc⟩:=h h0
 exact ⟨b,off,e,Nat.lt_of_lt_of_le hlt hb.size,fun t ht j hj=>(hb.cell (p:=⟨b,off+t * 4+j,none⟩) hlt).trans (hc t ht j hj)⟩
def mem (L:Nat→Nat→Nat) (b:Nat):Nat→Nat
 | 0=>0
 | t+1=>mem L b t * 2+bitN (L t) b
theorem bitN_le (C:Nat→Nat) (b:Nat):bitN C b≤1:=by unfold bitN;omega
theorem mem_lt (L:Nat→Nat→Nat) (b:Nat):∀ t,mem L b t<2 ^ t
 | 0=>by unfold mem;decide
 | t+1=>by
  unfold mem
  have h1:=mem_lt L b t
  have h2:=bitN_le (L t) b
  rw [Nat.pow_succ]
  omega
theorem mem_64 (L:Nat→Nat→Nat) (b:Nat) {t:Nat} (h:t≤64):mem L b t<18446744073709551616:=by
 have h1:=mem_lt L b t
 have h2:2 ^ t≤2 ^ 64:=Nat.pow_le_pow_right (by decide) h
 rw [pow64] at h2
 omega
theorem mem_63 (L:Nat→Nat→Nat) (b:Nat) {t:Nat} (h:t<64):mem L b t<9223372036854775808:=by
 have h1:=mem_lt L b t
 have h2:2 ^ t≤2 ^ 63:=Nat.pow_le_pow_right (by decide) (by omega)
 have e:(2:Nat) ^ 63=9223372036854775808:=by decide
 rw [e] at h2
 omega
theorem mem_eq_iff (L:Nat→Nat→Nat) (a b:Nat):∀ t,mem L a t=mem L b t↔∀ k,k<t→hasB (L k) a=hasB (L k) b
 | 0=>⟨fun _ k h=>by omega,fun _=>rfl⟩
 | t+1=>by
  have ih:=mem_eq_iff L a b t
  have h1:=bitN_le (L t) a
  have h2:=bitN_le (L t) b
  have hb:bitN (L t) a=bitN (L t) b↔hasB (L t) a=hasB (L t) b:=by
   rw [← bitN_one,← bitN_one]
   constructor
   ·intro e;rw [e]
   ·intro e
    have e1:bitN (L t) a=0∨bitN (L t) a=1:=by omega
    have e2:bitN (L t) b=0∨bitN (L t) b=1:=by omega
    rcases e1 with e1 | e1 <;> rcases e2 with e2 | e2 <;> rw [e1,e2] at e ⊢ <;> simp at e
  show mem L a t * 2+bitN (L t) a=mem L b t * 2+bitN (L t) b↔_
  constructor
  ·intro e k hk
   have e1:mem L a t=mem L b t:=by omega
   by_cases ek:k=t
   ·subst ek;exact hb.1 (by omega)
   ·exact ih.1 e1 k (by omega)
  ·intro e
   have e1:=ih.2 fun k hk=>e k (by omega)
   have e2:=hb.2 (e t (by omega))
   omega
theorem v_step {m q:Nat} (hm:m<9223372036854775808) (hq:q≤1):bits .or .u64 ((m:Int) * 2) (q:Int)=((m * 2+q:Nat):Int):=by
 have e:((m:Int) * 2)=((m * 2:Nat):Int):=by omega
 rw [e,bits_or_u64_nat _ _ (by omega) (by omega)]
 have:m * 2 ||| q=m * 2+q:=by
  have h:=Nat.two_pow_add_eq_or_of_lt (i:=1) (b:=q) (by omega) m
  rw [Nat.mul_comm m 2]
  simpa using h.symm
 rw [this]
set_option maxHeartbeats 1000000 in
set_option maxRecDepth 100000 in
theorem members_any (A:Option Addr) (n cap:Nat) (L:Nat→Nat→Nat) (q:Nat) (w:World) (hrow:ClassRow w A n L) (hL:∀ t,Cl (L t)) (hn:n≤64) (hq:q<256) :
  Calls Tryd.prog 41 #[.slice A n cap,.int .u8 q] w fun e w'=>e=.returned (.int .u64 (mem L q n))∧Below w.heap.size w w':=by
 go_enter Tryd.func41,Tryd.ntmps41
 go_wp2_with fail
 go_loopw [5,7,10] (fun m _ i wr=>∃ k:Nat,k≤n∧i=.int .i64 k∧m=.int .u64 (mem L q k)∧Below w.heap.size w wr) (fun _ _ i _=>n - (intOf i).toNat)
 case atStart=>exact ⟨0,Nat.zero_le _,rfl,rfl,Below.refl _ _⟩
 case round =>
  obtain ⟨k,hk,rfl,rfl,hB⟩:=hrel
  by_cases hlt:k<n
  ·obtain ⟨b,off,hAe,hblt,hcell⟩:=hrow (by omega)
   subst hAe
   have h1:(k:Int)<n:=by omega
   have hc:∀ j,j<4→wr.cell? ⟨b,off+k * 4+j,none⟩=some (.int .u64 (L k j:Nat)):=fun j hj=>(hB.cell (p:=⟨b,off+k * 4+j,none⟩) hblt).trans (hcell k hlt j hj)
   have c0:wr.cell? ⟨b,off+k * 4,none⟩=some (.int .u64 (L k 0:Nat)):=hc 0 (by decide)
   have c1:=hc 1 (by decide)
   have c2:=hc 2 (by decide)
   have c3:=hc 3 (by decide)
   have HV:=Lib.hid (v_step (mem_63 L q (show k<64 by omega)) (bitN_le (L k) q))
   have hm:=mem_63 L q (show k<64 by omega)
   clear hc hcell
   go_wp2_with fail
   go_at_call 29
   refine (bit_any (L k) q _ (hL k) hq).mono ?_
   rintro e w2 ⟨rfl,hb2⟩
   go_wp2_with fail
   go_roundw
   case rel=>exact ⟨k+1,by omega,by go_num,by rw [HV.out];rfl,(hB.alloc hB.size _).trans (hb2.mono (by have:=hB.size;simp;omega))⟩
   case measure=>simp [intOf];omega
  ·have hke:k=n:=by omega
   subst hke
   go_wp2_with fail
   go_ret
   exact ⟨rfl,hB⟩
end Go.Proofs.YtbohmcfplgdlpaaDoor.Lc

/- Keys that are two words, and the facts on a map from them to numbers that the proof of the splitting wants.
   Conditions: those that each theorem states. -/
namespace Go.Proofs.YtbohmcfplgdlpaaDoor.Lc
open Go.RowKit Go.Maps
theorem laidOut':laidOutB Tryd.prog=true:=by kernel_rfl
theorem keyed58:Keyed Tryd.prog 111:=Keyed.of_law (deep_law_laid laidOut' (m:=3) (by decide) (of_decide_eq_true (by kernel_rfl)) (by kernel_rfl) (by kernel_rfl))
theorem kt58:Tryd.prog.keyType 111=true:=by kernel_rfl
theorem c58:Tryd.prog.cellsOf 111=2:=by kernel_rfl
theorem wf64 {x:Nat} (h:x<18446744073709551616):(Lit.int .u64 (x:Int)).wf=true:=by
 have e1:IntKind.u64.min=0:=by decide
 have e2:IntKind.u64.max=18446744073709551615:=by decide
 simp [Lit.wf,e1,e2]
 omega
theorem lits24 (d:Nat) {x:Nat} (h:x<18446744073709551616):Tryd.prog.keyLits (d+1) 22 [.int .u64 (x:Int)]=some [.int .u64 (x:Int)]:=by
 unfold Program.keyLits
 rw [Tryd.underlying22]
 simp [wf64 h]
theorem lits58 (d:Nat) {x y:Nat} (hx:x<18446744073709551616) (hy:y<18446744073709551616):Tryd.prog.keyLits (d+1+1) 111 [.int .u64 (x:Int),.int .u64 (y:Int)]=some [.int .u64 (x:Int),.int .u64 (y:Int)]:=by
 unfold Program.keyLits
 rw [Tryd.underlying111]
 simp [c58,cells24,show List.range 2=[0,1] from rfl,lits24 d hx,lits24 d hy]
theorem key58 (x y:Nat) (hx:x<18446744073709551616) (hy:y<18446744073709551616):∃ l,keyOf Tryd.prog 111 (.agg #[.int .u64 (x:Int),.int .u64 (y:Int)])=some l:=by
 unfold keyOf
 rw [Tryd.underlying111]
 obtain ⟨dd,hn⟩ : ∃ d,Tryd.prog.types.size+1=d+1+1:=⟨Tryd.prog.types.size - 1,by have:1≤Tryd.prog.types.size:=of_decide_eq_true (by kernel_rfl);omega⟩
 simp only [kt58,hn]
 have hf:Value.formed Tryd.prog 111 (.agg #[.int .u64 (x:Int),.int .u64 (y:Int)])=true:=by
  simp [Value.formed,Tryd.underlying111,c58]
 have hl:=lits58 dd hx hy
 simp only [hf,Value.cells]
 refine ⟨.string (keyBytes [.int .u64 (x:Int),.int .u64 (y:Int)]),?_⟩
 rw [hl]
 rfl
theorem wf3 {x:Nat} (h:x<9223372036854775808):(Lit.int .i64 (x:Int)).wf=true:=by
 have e1:IntKind.i64.min = -9223372036854775808:=by decide
 have e2:IntKind.i64.max=9223372036854775807:=by decide
 simp [Lit.wf,e1,e2]
 omega
def rel (p:Nat→Nat) (L:Nat→Nat→Nat) (n:Nat) (a b:Nat):Bool:=p a == p b && mem L a n == mem L b n
theorem alike_rel (p:Nat→Nat) (L:Nat→Nat→Nat) (n:Nat):Alike (rel p L n):=by
 refine ⟨fun a=>by simp [rel],fun a b h=>?_,fun a b c h k=>?_⟩
 ·simp [rel] at h ⊢
  exact ⟨h.1.symm,h.2.symm⟩
 ·simp [rel] at h k ⊢
  exact ⟨h.1.trans k.1,h.2.trans k.2⟩
def KeysAre (p:Nat→Nat) (L:Nat→Nat→Nat) (n:Nat) (KL:Nat→Lit):Prop:=∀ b,b<256→keyOf Tryd.prog 111 (.agg #[.int .u64 (p b:Int),.int .u64 (mem L b n:Int)])=some (KL b)
theorem keys_are (p:Nat→Nat) (L:Nat→Nat→Nat) (n:Nat) (hp:∀ b,p b<256) (hn:n≤64):∃ KL,KeysAre p L n KL:=by
 have h:∀ b:Nat,∃ l,keyOf Tryd.prog 111 (.agg #[.int .u64 (p b:Int),.int .u64 (mem L b n:Int)])=some l:=fun b=>key58 _ _ (by have:=hp b;omega) (mem_64 L b hn)
 obtain ⟨KL,hKL⟩:=Classical.axiomOfChoice h
 exact ⟨KL,fun b _=>hKL b⟩
theorem KeysAre.iff {p:Nat→Nat} {L:Nat→Nat→Nat} {n:Nat} {KL:Nat→Lit} (h:KeysAre p L n KL) {a b:Nat} (ha:a<256) (hb:b<256):KL a=KL b↔rel p L n a b=true:=by
 constructor
 ·intro e
  have h1:=h a ha
  rw [e] at h1
  have:=keyed58.inj h1 (h b hb)
  simp at this
  simp [rel]
  exact ⟨by omega,by omega⟩
 ·intro e
  simp [rel] at e
  have h1:=h a ha
  rw [e.1,e.2,h b hb] at h1
  simpa using h1.symm
def MapInv (r:Nat→Nat→Bool) (KL:Nat→Lit) (k:Nat) (D:DataW Unit):Prop :=
 (∀ a,a<k→D.atKey (KL a) (.lit (.int .i64 0))=.lit (.int .i64 (nm r a:Int)))∧(∀ q,q<256→(Maps.has D (KL q)=true↔∃ a,a<k∧r a q=true))∧Maps.size D=news r k
theorem mapInv_start (r:Nat→Nat→Bool) (KL:Nat→Lit):MapInv r KL 0 (.map []) :=
 ⟨fun a h=>by omega,fun q _=>by simp [Maps.has],rfl⟩
theorem mapInv_old {p:Nat→Nat} {L:Nat→Nat→Nat} {n k:Nat} {KL:Nat→Lit} {D:DataW Unit} (hK:KeysAre p L n KL) (h:MapInv (rel p L n) KL k D) (hk:k<256) {a:Nat} (ha:a<k) (hr:rel p L n a k=true) :
  MapInv (rel p L n) KL (k+1) D∧D.atKey (KL k) (.lit (.int .i64 0))=.lit (.int .i64 (nm (rel p L n) k:Int)):=by
 have ho:=nm_old (alike_rel p L n) ha hr
 have e:KL a=KL k:=(hK.iff (by omega) hk).2 hr
 have hv:D.atKey (KL k) (.lit (.int .i64 0))=.lit (.int .i64 (nm (rel p L n) k:Int)):=by rw [← e,h.1 a ha,ho.2]
 refine ⟨⟨fun b hb=>?_,fun q hq=>?_,by rw [ho.1];exact h.2.2⟩,hv⟩
 ·by_cases eb:b=k
  ·subst eb;exact hv
  ·exact h.1 b (by omega)
 ·rw [h.2.1 q hq]
  constructor
  ·rintro ⟨b,hb,hq⟩;exact ⟨b,by omega,hq⟩
  ·rintro ⟨b,hb,hbq⟩
   by_cases eb:b=k
   ·subst eb;exact ⟨a,ha,(alike_rel p L n).trans _ _ _ hr hbq⟩
   ·exact ⟨b,by omega,hbq⟩
theorem mapInv_new {p:Nat→Nat} {L:Nat→Nat→Nat} {n k:Nat} {KL:Nat→Lit} {D:DataW Unit} (hK:KeysAre p L n KL) (hT:Tidy D) (h:MapInv (rel p L n) KL k D) (hk:k<256) (hr:∀ a,a<k→rel p L n a k=false) :
  MapInv (rel p L n) KL (k+1) (D.put (KL k) (.lit (.int .i64 (news (rel p L n) k:Int))))∧nm (rel p L n) k=news (rel p L n) k:=by
 have ho:=nm_fresh (alike_rel p L n) hr
 have hkey:=keyed58.key (hK k hk)
 have hne:∀ b,b<256→rel p L n k b=false→KL b≠KL k:=fun b hb e1 e2=>by
  have:=(hK.iff hb hk).1 e2
  have:=(alike_rel p L n).symm _ _ this
  rw [e1] at this
  cases this
 refine ⟨⟨fun b hb=>?_,fun q hq=>?_,?_⟩,ho.2⟩
 ·by_cases eb:b=k
  ·subst eb
   rw [atKey_put_same hT.isMap hkey,ho.2]
  ·have hb':b<k:=by omega
   have hf:rel p L n k b=false:=by
    cases e:rel p L n k b with
    | false=>rfl
    | true =>
     have:=(alike_rel p L n).symm _ _ e
     rw [hr b hb'] at this
     cases this
   rw [atKey_put_other (hne b (by omega) hf)]
   exact h.1 b hb'
 ·cases e:rel p L n k q with
  | true =>
   have e2:KL q=KL k:=((hK.iff hk hq).2 e).symm
   rw [e2,has_put_same hT.isMap hkey]
   simp
   exact ⟨k,by omega,e⟩
  | false =>
   rw [has_put_other (hne q hq e),h.2.1 q hq]
   constructor
   ·rintro ⟨b,hb,hbq⟩;exact ⟨b,by omega,hbq⟩
   ·rintro ⟨b,hb,hbq⟩
    by_cases eb:b=k
    ·subst eb;rw [e] at hbq;cases hbq
    ·exact ⟨b,by omega,hbq⟩
 ·have hno:Maps.has D (KL k)=false:=by
   cases e:Maps.has D (KL k) with
   | false=>rfl
   | true =>
    obtain ⟨a,ha,h2⟩:=(h.2.1 k hk).1 e
    rw [hr a ha] at h2
    cases h2
  rw [size_put hT,hno,ho.1,h.2.2]
  rfl
theorem mapInv_has {p:Nat→Nat} {L:Nat→Nat→Nat} {n k:Nat} {KL:Nat→Lit} {D:DataW Unit} (h:MapInv (rel p L n) KL k D) (hk:k<256) :
  (∃ a,a<k∧rel p L n a k=true∧Maps.has D (KL k)=true)∨((∀ a,a<k→rel p L n a k=false)∧Maps.has D (KL k)=false):=by
 cases e:Maps.has D (KL k) with
 | true =>
  obtain ⟨a,ha,h2⟩:=(h.2.1 k hk).1 e
  exact .inl ⟨a,ha,h2,rfl⟩
 | false =>
  refine .inr ⟨fun a ha=>?_,rfl⟩
  cases e2:rel p L n a k with
  | false=>rfl
  | true =>
   have:=(h.2.1 k hk).2 ⟨a,ha,e2⟩
   rw [e] at this
   cases this
end Go.Proofs.YtbohmcfplgdlpaaDoor.Lc

/- What the call that splits a numbering of the bytes by a list of classes comes to: a contract for the proofs of the statements.
   Conditions: numbers below 256, at most 64 classes in a row of memory, as the theorem states. -/
namespace Go.Proofs.YtbohmcfplgdlpaaDoor.Lc
open Go.RowKit Go.Maps
def intList (p:Nat→Nat):List Value:=(List.range 256).map fun i=>Value.int .i64 (p i:Int)
theorem intList_at (p:Nat→Nat) (i:Nat) (h:i<256):(intList p)[i]? = some (.int .i64 (p i:Int)):=by
 unfold intList
 rw [List.getElem?_map,List.getElem?_range h]
 rfl
theorem intList_length (p:Nat→Nat):(intList p).length=256:=by unfold intList;simp
theorem info42:(Tryd.prog.info? 42).map (fun i=>(i.zero,i.size))=some (some (.agg (Array.replicate 256 (.int .i64 0))),256):=by kernel_rfl
theorem index46 (p:Nat→Nat) (k:Nat) (h:k<256) (w:World):(Instr.index 42 (.agg (intList p).toArray) (.int .i64 k)).run Tryd.prog w=.ok (.int .i64 (p k:Int)) w:=by
 have hi:=intList_at p k h
 simp [Instr.index,asIntOf,run_underlying Tryd.underlying42,Result.andThen,part,h,hi]
def IntsAt (w:World) (b:Nat) (f:Nat→Nat):Prop:=∀ i,i<256→w.cell? ⟨b,i,none⟩=some (.int .i64 (f i:Int))
def BFree256 (w:World) (b:Nat):Prop:=∀ i,i<256→w.frozen? ⟨b,i,none⟩=false
theorem IntsAt.lt {w:World} {b:Nat} {f:Nat→Nat} (h:IntsAt w b f):b<w.heap.size:=World.block_lt_of_cell? _ _ (h 0 (by decide))
theorem IntsAt.below {w w':World} {b:Nat} {f:Nat→Nat} (h:IntsAt w b f) (hb:Below w.heap.size w w'):IntsAt w' b f:=fun i hi=>(hb.cell (p:=⟨b,i,none⟩) h.lt).trans (h i hi)
theorem BFree256.below {w w':World} {b:Nat} (h:BFree256 w b) (hl:b<w.heap.size) (hb:Below w.heap.size w w'):BFree256 w' b:=fun i hi=>(hb.frozen (p:=⟨b,i,none⟩) hl).trans (h i hi)
theorem IntsAt.congr {w:World} {b:Nat} {f g:Nat→Nat} (h:IntsAt w b f) (he:∀ i,i<256→f i=g i):IntsAt w b g:=fun i hi=>by rw [← he i hi];exact h i hi
theorem IntsAt.range {w:World} {b:Nat} {f:Nat→Nat} (h:IntsAt w b f):w.rangeAt b 0 (intList f):=fun j v hv=>by
 have hj:j<256:=by have:=(List.getElem?_eq_some_iff.1 hv).1;rwa [intList_length] at this
 rw [intList_at f j hj] at hv
 rw [← hv,Nat.zero_add]
 exact h j hj
theorem IntsAt.put {w:World} {b q x:Nat} {f:Nat→Nat} (h:IntsAt w b f):IntsAt (w.setCell ⟨b,q,none⟩ (.int .i64 (x:Int))) b (fun i=>if i=q then x else f i):=by
 intro i hi
 by_cases e:i=q
 ·subst e
  rw [World.cell?_setCell_same (h:=h i hi)]
  simp
 ·rw [World.cell?_setCell_other (h:=addr_ne (.inr fun h=>e h.symm)),h i hi]
  simp [e]
theorem IntsAt.put_other {w:World} {b b' q:Nat} {v:Value} {f:Nat→Nat} (h:IntsAt w b f) (hne:b'≠b):IntsAt (w.setCell ⟨b',q,none⟩ v) b f:=by
 intro i hi
 rw [World.cell?_setCell_other (h:=addr_ne (.inl hne))]
 exact h i hi
theorem BFree256.put {w:World} {b b' q:Nat} {v:Value} (h:BFree256 w b):BFree256 (w.setCell ⟨b',q,none⟩ v) b:=fun i hi=>by simp [h i hi]
theorem owns_same {w w':World} {b n:Nat} {D:DataW Unit} (h:w.ownsMap Tryd.prog 111 (plainElem Tryd.prog 3) b n D) (e:w'.heap[b]? = w.heap[b]?):w'.ownsMap Tryd.prog 111 (plainElem Tryd.prog 3) b n D:=by
 obtain ⟨es,clock,h1,h2⟩:=h
 exact ⟨es,clock,by rw [e];exact h1,h2⟩
def SS (r:Nat→Nat→Bool) (KL:Nat→Lit) (p:Nat→Nat) (w:World) (k:Nat) (wr:World):Prop :=
 IntsAt wr w.heap.size (fun i=>if i<k then nm r i else p i)∧BFree256 wr w.heap.size∧IntsAt wr (w.heap.size+1) zeros∧BFree256 wr (w.heap.size+1) ∧
 (∃ D,wr.ownsMap Tryd.prog 111 (plainElem (H:=Unit) Tryd.prog 3) (w.heap.size+2) k D∧MapInv r KL k D)∧w.heap.size+3≤wr.heap.size∧Below w.heap.size w wr
theorem SS.below {r:Nat→Nat→Bool} {KL:Nat→Lit} {p:Nat→Nat} {w wr w':World} {k:Nat} (h:SS r KL p w k wr) (hb:Below wr.heap.size wr w'):SS r KL p w k w':=by
 obtain ⟨h1,h2,h3,h4,⟨D,h5,h6⟩,h7,h8⟩:=h
 exact ⟨h1.below hb,h2.below h1.lt hb,h3.below hb,h4.below h3.lt hb,⟨D,owns_same h5 (hb.block _ (by omega)),h6⟩,Nat.le_trans h7 hb.size,h8.trans (hb.mono h8.size)⟩
theorem SS.range {r:Nat→Nat→Bool} {KL:Nat→Lit} {p:Nat→Nat} {w wr:World} (h:SS r KL p w 0 wr):wr.rangeAt w.heap.size 0 (intList p):=(h.1.congr (fun i _=>by simp)).range
theorem ints_new (w:World) (t:TypeId):IntsAt (w.alloc (.cells (Array.replicate 256 (.int .i64 0)) t)) w.heap.size zeros:=fun i hi=>by simp [hi,zeros]
theorem ifree_new (w:World) (c:Array Value) (t:TypeId):BFree256 (w.alloc (.cells c t)) w.heap.size:=fun i hi=>by simp
theorem ints_box (w:World) (p:Nat→Nat):IntsAt (w.alloc (.cells (intList p).toArray 42)) w.heap.size p:=fun i hi=>by simp [intList_at p i hi]
theorem SS.start (r:Nat→Nat→Bool) (KL:Nat→Lit) (p:Nat→Nat) (w:World) :
  SS r KL p w 0 (((w.alloc (.cells (intList p).toArray 42)).alloc (.cells (Array.replicate 256 (.int .i64 0)) 42)).alloc (.map #[] 0)):=by
 have e1:(w.alloc (.cells (intList p).toArray 42)).heap.size=w.heap.size+1:=by simp
 have e2:((w.alloc (.cells (intList p).toArray 42)).alloc (.cells (Array.replicate 256 (.int .i64 0)) 42)).heap.size=w.heap.size+2:=by simp
 have c1:=ints_new (w.alloc (.cells (intList p).toArray 42)) 42
 have f1:=ifree_new (w.alloc (.cells (intList p).toArray 42)) (Array.replicate 256 (.int .i64 0)) 42
 have m:=World.ownsMap_made ((w.alloc (.cells (intList p).toArray 42)).alloc (.cells (Array.replicate 256 (.int .i64 0)) 42)) Tryd.prog 111 (plainElem (H:=Unit) Tryd.prog 3)
 rw [e1] at c1 f1
 rw [e2] at m
 have hb1:=below_alloc (w.alloc (.cells (intList p).toArray 42)) (.cells (Array.replicate 256 (.int .i64 0)) 42)
 have hb2:=below_alloc ((w.alloc (.cells (intList p).toArray 42)).alloc (.cells (Array.replicate 256 (.int .i64 0)) 42)) (.map #[] 0)
 refine ⟨((((ints_box w p).below hb1).below hb2)).congr (fun i _=>by simp),((ifree_new w _ 42).below (by simp) hb1).below (by simp;omega) hb2,c1.below hb2,f1.below (by simp) hb2,⟨_,m,mapInv_start r KL⟩,by simp,(((Below.refl _ _).alloc (Nat.le_refl _) _).alloc (by simp) _).alloc (by simp;omega) _⟩
theorem SS.store {r:Nat→Nat→Bool} {KL:Nat→Lit} {p:Nat→Nat} {w wr w2:World} {k:Nat} (h:SS r KL p w k wr) (hb:∀ b,b<w.heap.size+2→w2.heap[b]? = wr.heap[b]?) (hsz:wr.heap.size≤w2.heap.size)
  (hm:∃ D,w2.ownsMap Tryd.prog 111 (plainElem (H:=Unit) Tryd.prog 3) (w.heap.size+2) (k+1) D∧MapInv r KL (k+1) D) (hB:Below w.heap.size w w2) :
  SS r KL p w (k+1) (w2.setCell ⟨w.heap.size,k,none⟩ (.int .i64 (nm r k:Int))):=by
 obtain ⟨h1,h2,h3,h4,_,h7,h8⟩:=h
 obtain ⟨D,hD,hI⟩:=hm
 have g1:IntsAt w2 w.heap.size (fun i=>if i<k then nm r i else p i):=fun i hi=>(World.cell?_of_block (w:=wr) (a:=⟨w.heap.size,i,none⟩) (hb _ (by show w.heap.size<_;omega))).trans (h1 i hi)
 have g2:BFree256 w2 w.heap.size:=fun i hi=>(World.frozen?_of_block (w:=wr) (a:=⟨w.heap.size,i,none⟩) (hb _ (by show w.heap.size<_;omega))).trans (h2 i hi)
 have g3:IntsAt w2 (w.heap.size+1) zeros:=fun i hi=>(World.cell?_of_block (w:=wr) (a:=⟨w.heap.size+1,i,none⟩) (hb _ (by show w.heap.size+1<_;omega))).trans (h3 i hi)
 have g4:BFree256 w2 (w.heap.size+1):=fun i hi=>(World.frozen?_of_block (w:=wr) (a:=⟨w.heap.size+1,i,none⟩) (hb _ (by show w.heap.size+1<_;omega))).trans (h4 i hi)
 refine ⟨g1.put.congr (fun i _=>?_),g2.put,g3.put_other (by omega),g4.put,⟨D,owns_same hD ?_,hI⟩,by simp;omega,hB.setCell (Nat.le_refl _) _⟩
 ·by_cases e:i=k
  ·subst e;simp
  ·rw [if_neg e]
   by_cases e2:i<k
   ·rw [if_pos e2,if_pos (by omega)]
   ·rw [if_neg e2,if_neg (by omega)]
 ·exact Below.heap_setCell _ _ _ _ (by simp)
theorem own_setCells {B:Nat} {a:World} (b:Nat) (hb:B≤b):∀ (vs:List Value) (o:Nat) {w:World},Below B a w→Below B a (w.setCells b o vs)
 | [],_,_,h=>h
 | v :: r,o,_,h=>own_setCells b hb r (o+1) (h.setCell (p:=⟨b,o,none⟩) hb v)
set_option maxHeartbeats 2000000 in
set_option maxRecDepth 100000 in
theorem split_any (A:Option Addr) (n cap:Nat) (L:Nat→Nat→Nat) (p:Nat→Nat) (w:World) (hrow:ClassRow w A n L) (hL:∀ t,Cl (L t)) (hn:n≤64) (hp:∀ b,p b<256) :
  Calls Tryd.prog 27 #[.agg (intList p).toArray,.slice A n cap] w fun e w'=>e=.returned (.agg (intList (nm (rel p L n))).toArray)∧Below w.heap.size w w':=by
 obtain ⟨KL,hK⟩:=keys_are p L n hp hn
 have hmm:=@run_makeMap Tryd.prog
 have hzero:=(zero_of_info info42).1
 have hst:=SS.start (rel p L n) KL p w
 have hrg:=hst.range
 have hix:=index46 p
 have hsz:(Tryd.prog.info? 42).map (·.size)=some (intList p).length:=by rw [intList_length];exact (zero_of_info info42).2
 generalize intList p=cs at hst hrg hix hsz
 go_enter Tryd.func27,Tryd.ntmps27
 go_wp2_with (refine wpList_load_mid rfl 42 _ rfl w.heap.size 0 rfl cs _ hrg Tryd.underlying42 rfl hsz ?_)
 clear hmm hzero hrg hsz
 go_loopw [6,7,8,9,10,13,24] (fun _ _ _ _ _ i _ wr=>∃ k:Nat,k≤256∧i=.int .i64 k∧SS (rel p L n) KL p w k wr) (fun _ _ _ _ _ i _ _=>256 - (intOf i).toNat)
 case atStart=>exact ⟨0,Nat.zero_le _,rfl,hst⟩
 case round =>
  clear hst
  obtain ⟨k,hk,rfl,hss⟩:=hrel
  by_cases hlt:k<256
  ·have h1:(k:Int)<256:=by omega
   have hpk:=hp k
   have hxk:=hix k hlt
   have hkb:IntKind.u8.wrap (k:Int)=(k:Int):=by rw [IntKind.wrap_u8];omega
   have hnl:=news_le (r:=rel p L n) k
   have hBr:=hss.2.2.2.2.2.2
   go_wp2_with fail
   go_at_call 41
   refine (members_any A n cap L k _ (hrow.below hBr) hL hn hlt).mono ?_
   rintro e w2 ⟨rfl,hb2⟩
   have s2:=hss.below hb2
   obtain ⟨_,_,_,_,⟨D,hD,hI⟩,hz2,hB2⟩:=s2.below (below_alloc w2 (.cells #[.int .u64 (p k:Int),.int .u64 (mem L k n:Int)] 111))
   have s3:=s2.below (below_alloc w2 (.cells #[.int .u64 (p k:Int),.int .u64 (mem L k n:Int)] 111))
   have hd2:w2.cell? ⟨w.heap.size,k,none⟩=some (.int .i64 (p k:Int)):=by have:=s2.1 k hlt;simpa using this
   have hf2:=s2.2.1 k hlt
   have hz:w.heap.size+2<w2.heap.size:=by have:=s2.2.2.2.2.2.1;omega
   have hd3:(w2.alloc (.cells #[.int .u64 (p k:Int),.int .u64 (mem L k n:Int)] 111)).cell? ⟨w.heap.size,k,none⟩=some (.int .i64 (p k:Int)):=by have:=s3.1 k hlt;simpa using this
   have hf3:=s3.2.1 k hlt
   rcases mapInv_has hI hlt with ⟨a,ha,hra,hhas⟩ | ⟨hnew,hhas⟩
   ·obtain ⟨hI',hval⟩:=mapInv_old hK hI hlt ha hra
    clear hra ha
    go_wp2_with (at_lookup;refine wpList_lookup_own_ok_int (H:=Unit) _ rfl _ _ 109 rfl 111 3 .i64 keyed58 Tryd.underlying109 Tryd.underlying3 (Tryd.zeroValue3 _) (w.heap.size+2) k D rfl hD _ (KL k) rfl (hK k hlt) ?_;intro c hat hwc;rw [hval] at hat;(obtain rfl:c=(nm (rel p L n) k:Int):=by simpa using hat.symm);rw [hhas])
    go_roundw
    case rel=>exact ⟨k+1,by omega,by go_num,SS.store s3 (fun _ _=>rfl) (Nat.le_refl _) ⟨D,hD.mono (by omega),hI'⟩ hB2⟩
    case measure=>simp [intOf];omega
   ·obtain ⟨hI',hval⟩:=mapInv_new hK (hD.tidy keyed58) hI hlt hnew
    go_wp2_with (first
     | (at_lookup;refine wpList_lookup_own_ok_int (H:=Unit) _ rfl _ _ 109 rfl 111 3 .i64 keyed58 Tryd.underlying109 Tryd.underlying3 (Tryd.zeroValue3 _) (w.heap.size+2) k D rfl hD _ (KL k) rfl (hK k hlt) ?_;intro c hat hwc;rw [hhas])
     | (at_len;refine wpList_len_own _ rfl _ 109 rfl 111 3 Tryd.underlying109 _ (w.heap.size+2) k D rfl hD ?_;rw [hI.2.2])
     | (at_mapUpdate;refine wpList_mapUpdate_own _ rfl _ _ _ 109 rfl 111 3 keyed58 Tryd.underlying109 _ (w.heap.size+2) k D rfl hD (by unfold maxLen;omega) _ _ _ rfl rfl (hK k hlt) _ [] (plainElem_int Tryd.underlying3 (wf3 (x:=news (rel p L n) k) (by omega))) ?_;intro w4 hown1 hgrow1;have hd4:w4.cell? ⟨w.heap.size,k,none⟩=some (.int .i64 (p k:Int)):=(World.cell?_of_block (hgrow1.block _ (by simp;omega) (by simp))).trans hd3;have hf4:w4.frozen? ⟨w.heap.size,k,none⟩=false:=(World.frozen?_of_block (hgrow1.block _ (by simp;omega) (by simp))).trans hf3))
    rw [← hval]
    go_roundw
    case rel=>exact ⟨k+1,by omega,by go_num,SS.store s3 (fun b hb=>hgrow1.block b (by simp;omega) (by simp;omega)) hgrow1.size ⟨_,hown1,hI'⟩ (hB2.grown hgrow1 (by simp;omega) (fun j hj=>by simp at hj;omega))⟩
    case measure=>simp [intOf];omega
  ·have hke:k=256:=by omega
   subst hke
   have hr:=(hss.1.congr (g:=nm (rel p L n)) (fun i hi=>by simp [hi])).range
   have hsz2:(Tryd.prog.info? 42).map (·.size)=some (intList (nm (rel p L n))).length:=by rw [intList_length];exact (zero_of_info info42).2
   have ht:wr.there (w.heap.size+1) 0 (intList (nm (rel p L n))).length:=fun j hj=>by
    rw [intList_length] at hj
    rw [Nat.zero_add]
    exact ⟨by rw [hss.2.2.1 j hj];rfl,hss.2.2.2.1 j hj⟩
   have ho:∀ v∈intList (nm (rel p L n)),v.oneCell'=true:=fun v hv=>by
    obtain ⟨i,_,rfl⟩:=List.mem_map.1 hv
    rfl
   have hB:=hss.2.2.2.2.2.2
   generalize hds:intList (nm (rel p L n))=ds at hr hsz2 ht ho
   have HD:=Lib.hid hds
   clear hds
   go_wp2_with (first
    | (refine wpList_load_mid rfl 42 _ rfl w.heap.size 0 rfl ds _ hr Tryd.underlying42 rfl hsz2 ?_)
    | (refine wpList_store_mid rfl 42 _ _ rfl (w.heap.size+1) 0 ds.toArray rfl rfl (by simpa using ht) (by simpa using hsz2) (all_oneCell_toArray ho) ?_))
   have hld:=run_loadVar_mid (P:=Tryd.prog) (wr.setCells (w.heap.size+1) 0 ds) (w.heap.size+1) 0 42 ds _ (World.rangeAt_setCells_same wr _ _ ds ht) Tryd.underlying42 rfl hsz2
   refine bodyPost_ret (v:=.agg ds.toArray) ?_ rfl ⟨by rw [HD.out],own_setCells (w.heap.size+1) (by omega) ds 0 hB⟩
   simp [results,Tryd.results27,asAddr,Act.put,hld]
end Go.Proofs.YtbohmcfplgdlpaaDoor.Lc

/- What the calls that find the greatest number and that gather the numbered bytes into classes come to: contracts for the proofs of the statements.
   Conditions: the numbers are those of a numbering by first occurrence, as the theorems state. -/
namespace Go.Proofs.YtbohmcfplgdlpaaDoor.Lc
open Go.RowKit
def mxf (f:Nat→Nat):Nat→Nat
 | 0=>f 0
 | k+1=>max (mxf f k) (f (k+1))
theorem mxf_le {f:Nat→Nat} {m:Nat} (h:∀ i,i<256→f i≤m):∀ k,k<256→mxf f k≤m
 | 0,_=>h 0 (by decide)
 | k+1,hk=>by unfold mxf;have:=mxf_le h k (by omega);have:=h (k+1) hk;omega
theorem le_mxf {f:Nat→Nat} {i:Nat}:∀ k,i≤k→f i≤mxf f k
 | 0,h=>by
  obtain rfl:i=0:=by omega
  exact Nat.le_refl _
 | k+1,h=>by
  unfold mxf
  by_cases e:i=k+1
  ·subst e;omega
  ·have:=le_mxf (f:=f) (i:=i) k (by omega);omega
theorem mxf_hit {f:Nat→Nat}:∀ k,∃ i,i≤k∧mxf f k=f i
 | 0=>⟨0,Nat.le_refl _,rfl⟩
 | k+1=>by
  obtain ⟨i,hi,e⟩:=mxf_hit (f:=f) k
  unfold mxf
  by_cases h:mxf f k≤f (k+1)
  ·exact ⟨k+1,Nat.le_refl _,by omega⟩
  ·exact ⟨i,by omega,by omega⟩
theorem mxf_succ (f:Nat→Nat) (k:Nat):((mxf f (k+1):Nat):Int)=if mxf f k<f (k+1) then (f (k+1):Int) else (mxf f k:Int):=by
 show ((max (mxf f k) (f (k+1)):Nat):Int)=_
 split <;> omega
theorem mxf_news {r:Nat→Nat→Bool} (h:Alike r):mxf (nm r) 255+1=news r 256:=by
 obtain ⟨i,hi,e⟩:=mxf_hit (f:=nm r) 255
 have h1:=nm_lt h (b:=i) (n:=256) (by omega)
 have h0:=news_pos h
 obtain ⟨b,hb,hf,hn⟩:=news_hit (r:=r) 256 (news r 256 - 1) (by omega)
 have h2:=le_mxf (f:=nm r) (i:=b) 255 (by omega)
 rw [nm_new b hf,hn] at h2
 omega
set_option maxHeartbeats 1000000 in
set_option maxRecDepth 100000 in
theorem max_any (b:Nat) (f:Nat→Nat) (w:World) (hf:IntsAt w b f) (hlt:∀ i,i<256→f i<4294967296) :
  Calls Tryd.prog 42 #[.slice (some ⟨b,0,none⟩) 256 256] w fun e w'=>e=.returned (.int .i64 (mxf f 255))∧w=w':=by
 have h0:=hf 0 (by decide)
 go_enter Tryd.func42,Tryd.ntmps42
 go_wp2_with fail
 go_loop [3,4] (fun m i=>∃ k:Nat,k<256∧i=.int .i64 (k+1:Nat)∧m=.int .i64 (mxf f k)) (fun _ i=>256 - (intOf i).toNat)
 case atStart=>exact ⟨0,by decide,rfl,rfl⟩
 case round =>
  obtain ⟨k,hk,rfl,rfl⟩:=hrel
  have hb:=mxf_le (f:=f) (m:=4294967295) (fun i hi=>by have:=hlt i hi;omega) k hk
  by_cases hl:k<255
  ·have hc:=hf (k+1) (by omega)
   have hb2:=hlt (k+1) (by omega)
   have h1:((k+1:Nat):Int)<256:=by omega
   clear hf
   go_wp2_with fail
   go_round
   case rel =>
    exact ⟨k+1,by omega,by go_num,by rw [mxf_succ]⟩
   case measure=>simp [intOf];omega
  ·have hke:k=255:=by omega
   subst hke
   go_wp2_with fail
   go_ret
   exact ⟨rfl,rfl⟩
def PartsAt (w:World) (g M:Nat) (Cs:Nat→Nat→Nat):Prop:=∀ q,q<M→∀ j,j<4→w.cell? ⟨g,q * 4+j,none⟩=some (.int .u64 (Cs q j:Int))
def PFree (w:World) (g M:Nat):Prop:=∀ q,q<M→∀ j,j<4→w.frozen? ⟨g,q * 4+j,none⟩=false
theorem info24:(Tryd.prog.info? 24).map (fun i=>(i.zero,i.size,i.bytes))=some (some (.agg #[.int .u64 0,.int .u64 0,.int .u64 0,.int .u64 0]),4,32):=by kernel_rfl
theorem make22 (m:Nat) (hm:m<256) (w:World):(Instr.makeSlice 29 (.int .i64 ((m:Int)+1)) (.int .i64 ((m:Int)+1))).run Tryd.prog w =
  .ok (.slice (some ⟨w.heap.size,0,none⟩) (m+1) (m+1)) (w.alloc (.cells (madeCells #[.int .u64 0,.int .u64 0,.int .u64 0,.int .u64 0] ((m+1) * 4)) 24)):=by
 obtain ⟨i0,hi,hz,hs,hb⟩:=info_parts info24
 have h:=run_make (P:=Tryd.prog) w 29 24 i0 _ Tryd.underlying29 hi hz .i64 .i64 ((m:Int)+1) ((m:Int)+1) (by omega) (Int.le_refl _) (by rw [hb];omega) (by omega)
 have e:((m:Int)+1).toNat=m+1:=by omega
 rw [e,hs] at h
 exact h
theorem made_zero {n j:Nat} (h:j<n):(madeCells #[.int .u64 0,.int .u64 0,.int .u64 0,.int .u64 0] n)[j]? = some (Value.int .u64 0):=by
 unfold madeCells
 simp only [Array.getElem?_map,Array.getElem?_range,h,if_true,Option.map_some]
 have:j % 4=0∨j % 4=1∨j % 4=2∨j % 4=3:=by omega
 rcases this with e | e | e | e <;> simp [e]
theorem parts_start (w:World) (M:Nat):PartsAt (w.alloc (.cells (madeCells #[.int .u64 0,.int .u64 0,.int .u64 0,.int .u64 0] (M * 4)) 24)) w.heap.size M (fun _=>zeros):=by
 intro q hq j hj
 have:=made_zero (n:=M * 4) (j:=q * 4+j) (by omega)
 simp [this,zeros]
theorem pfree_start (w:World) (c:Array Value) (M:Nat):PFree (w.alloc (.cells c 24)) w.heap.size M:=fun q hq j hj=>by simp
theorem parts_put {w:World} {g M P0 k:Nat} {Cs:Nat→Nat→Nat} {v:Int} (h:PartsAt w g M Cs) (hk:k<256) (hv:v=(put (Cs P0) k (k / 64):Nat)) :
  PartsAt (w.setCell ⟨g,P0 * 4+k / 64,none⟩ (.int .u64 v)) g M (fun q=>if q=P0 then put (Cs q) k else Cs q):=by
 intro q hq j hj
 by_cases e:q * 4+j=P0 * 4+k / 64
 ·have e1:q=P0:=by omega
  have e2:j=k / 64:=by omega
  subst e1 e2
  rw [World.cell?_setCell_same (h:=h q hq _ hj),hv]
  simp
 ·rw [World.cell?_setCell_other (h:=addr_ne (.inr fun h=>e h.symm)),h q hq j hj]
  by_cases e1:q=P0
  ·subst e1
   have e2:¬ j=k / 64:=by omega
   simp [put,e2]
  ·simp [e1]
theorem PFree.put {w:World} {g M o:Nat} {v:Value} (h:PFree w g M):PFree (w.setCell ⟨g,o,none⟩ v) g M:=fun q hq j hj=>by simp [h q hq j hj]
theorem v_put {C:Nat→Nat} (hC:Cl C) (b:Nat):bits .or .u64 ((C (b / 64):Nat):Int) (IntKind.u64.wrap (2 ^ (b % 64)))=((YtbohmcfplgdlpaaDoor.put C b (b / 64):Nat):Int):=by
 rw [v_pow,bits_or_u64_nat _ _ (hC _) (pow_lt b)]
 unfold YtbohmcfplgdlpaaDoor.put
 rw [if_pos rfl]
def partOf (r:Nat→Nat→Bool) (q:Nat):Nat→Nat:=canon (fun x=>nm r x == q)
def GivesParts (r:Nat→Nat→Bool) (w:World) (e:Ending) (w':World):Prop :=
 ∃ g,e=.returned (.slice (some ⟨g,0,none⟩) (news r 256) (news r 256))∧w.heap.size≤g∧PartsAt w' g (news r 256) (partOf r)∧Below w.heap.size w w'
def GS (r:Nat→Nat→Bool) (w:World) (g M k:Nat) (wr:World):Prop :=
 ∃ Cs,(∀ q,q<M→setOf (fun x=>x<k∧nm r x=q) (Cs q))∧PartsAt wr g M Cs∧PFree wr g M∧w.heap.size≤g∧Below w.heap.size w wr
theorem GS.step {r:Nat→Nat→Bool} {w wr:World} {g M k d:Nat} {Cs:Nat→Nat→Nat} (hS:∀ q,q<M→setOf (fun x=>x<k∧nm r x=q) (Cs q)) (hP:PartsAt wr g M Cs) (hF:PFree wr g M) (hg:w.heap.size≤g) (hB:Below w.heap.size w wr) (hk:k<256) (hq:nm r k<M) :
  GS r w g M (k+1) ((wr.drewN d).setCell ⟨g,nm r k * 4+k / 64,none⟩ (.int .u64 (bits .or .u64 ((Cs (nm r k) (k / 64):Nat):Int) (IntKind.u64.wrap (2 ^ (k % 64)))))):=by
 have hP':PartsAt (wr.drewN d) g M Cs:=hP
 have hF':PFree (wr.drewN d) g M:=hF
 refine ⟨_,fun q hqM=>?_,parts_put hP' hk (v_put (hS _ hq).1 k),hF'.put,hg,(below_drewN hB d).setCell hg _⟩
 by_cases e:q=nm r k
 ·subst e
  simp only [if_true]
  exact setOf_put (hS _ hqM) fun x _=>by
   constructor
   ·rintro ⟨h1,h2⟩
    by_cases ex:x=k
    ·exact .inr ex
    ·exact .inl ⟨by omega,h2⟩
   ·rintro (⟨h1,h2⟩ | h)
    ·exact ⟨by omega,h2⟩
    ·subst h;exact ⟨by omega,rfl⟩
 ·rw [if_neg e]
  refine ⟨(hS q hqM).1,fun x hx=>?_⟩
  rw [(hS q hqM).2 x hx]
  constructor
  ·rintro ⟨h1,h2⟩;exact ⟨by omega,h2⟩
  ·rintro ⟨h1,h2⟩
   refine ⟨?_,h2⟩
   by_cases ex:x=k
   ·subst ex;exact absurd h2.symm e
   ·omega
theorem GS.done {r:Nat→Nat→Bool} {w wr:World} {g M:Nat} (h:GS r w g M 256 wr):PartsAt wr g M (partOf r)∧w.heap.size≤g∧Below w.heap.size w wr:=by
 obtain ⟨Cs,hS,hP,_,hg,hB⟩:=h
 refine ⟨fun q hq j hj=>?_,hg,hB⟩
 rw [hP q hq j hj]
 have hs:=same_canon (S:=fun x=>nm r x == q) (hS q hq).1 (fun b hb=>by
  rw [Bool.eq_iff_iff,(hS q hq).2 b hb]
  simp [hb])
 have:Cs q j=partOf r q j:=by
  have hj4:j=0∨j=1∨j=2∨j=3:=by omega
  rcases hj4 with rfl | rfl | rfl | rfl
  ·exact hs.1
  ·exact hs.2.1
  ·exact hs.2.2.1
  ·exact hs.2.2.2
 rw [this]
set_option maxHeartbeats 2000000 in
set_option maxRecDepth 100000 in
theorem gather_any (r:Nat→Nat→Bool) (hr:Alike r) (w:World) :
  Calls Tryd.prog 28 #[.agg (intList (nm r)).toArray] w (GivesParts r w):=by
 have hbox:=ints_box w (nm r)
 have hix:=index46 (nm r)
 have hsz:(Tryd.prog.info? 42).map (·.size)=some (intList (nm r)).length:=by rw [intList_length];exact (zero_of_info info42).2
 have hrg:=hbox.range
 have hM:=mxf_news hr
 have hlt:∀ i,nm r i≤i:=fun i=>by unfold nm;have:=news_le (r:=r) (fst r i);have:=(fst_spec hr i).1;omega
 have hnm:∀ i,i<256→nm r i≤mxf (nm r) 255:=fun i hi=>le_mxf 255 (by omega)
 have hm:mxf (nm r) 255<256:=by obtain ⟨i,hi,e⟩:=mxf_hit (f:=nm r) 255;have:=hlt i;omega
 have hmax:=max_any w.heap.size (nm r) (w.alloc (.cells (intList (nm r)).toArray 42)) hbox (fun i hi=>by have:=hlt i;omega)
 generalize intList (nm r)=cs at hbox hix hsz hrg hmax
 unfold GivesParts
 rw [← hM]
 generalize mxf (nm r) 255=m at hnm hm hmax
 have hmk:=make22 m hm
 clear hM
 go_enter Tryd.func28,Tryd.ntmps28
 go_wp2_with fail
 go_at_call 42
 refine hmax.mono ?_
 rintro e w1 ⟨rfl,rfl⟩
 have hs0:GS r w (w.heap.size+1) (m+1) 0 ((w.alloc (.cells cs.toArray 42)).alloc (.cells (madeCells #[.int .u64 0,.int .u64 0,.int .u64 0,.int .u64 0] ((m+1) * 4)) 24)):=by
  have h1:=parts_start (w.alloc (.cells cs.toArray 42)) (m+1)
  have h2:=pfree_start (w.alloc (.cells cs.toArray 42)) (madeCells #[.int .u64 0,.int .u64 0,.int .u64 0,.int .u64 0] ((m+1) * 4)) (m+1)
  simp only [World.size_alloc] at h1 h2
  exact ⟨fun _=>zeros,fun q _=>setOf_zeros fun b _ h=>by omega,h1,h2,by omega,((Below.refl _ _).alloc (Nat.le_refl _) _).alloc (by simp) _⟩
 have hrg2:((w.alloc (.cells cs.toArray 42)).alloc (.cells (madeCells #[.int .u64 0,.int .u64 0,.int .u64 0,.int .u64 0] ((m+1) * 4)) 24)).rangeAt w.heap.size 0 cs:=World.rangeAt_alloc hrg _
 clear hrg hbox hmax
 go_wp2_with (refine wpList_load_mid rfl 42 _ rfl w.heap.size 0 rfl cs _ hrg2 Tryd.underlying42 rfl hsz ?_)
 clear hrg2 hsz hmk
 go_loopw [4,5,11] (fun _ _ i wr=>∃ k:Nat,k≤256∧i=.int .i64 k∧GS r w (w.heap.size+1) (m+1) k wr) (fun _ _ i _=>256 - (intOf i).toNat)
 case atStart=>exact ⟨0,Nat.zero_le _,rfl,hs0⟩
 case round =>
  clear hs0
  obtain ⟨k,hk,rfl,hgs⟩:=hrel
  by_cases hl:k<256
  ·have h1:(k:Int)<256:=by omega
   have h2:(0:Int)≤(k:Int):=by omega
   have hxk:=hix k hl
   obtain ⟨Cs,hS,hP,hF,hg,hB⟩:=hgs
   have hq:=hnm k hl
   have hc:=hP (nm r k) (by omega) (k / 64) (by omega)
   have hf:=hF (nm r k) (by omega) (k / 64) (by omega)
   have hq0:(0:Int)≤(k:Int) / 64:=by omega
   have hq1:(k:Int) / 64<4:=by omega
   have hp0:(0:Int)≤(nm r k:Int):=by omega
   have hp1:(nm r k:Int)<(m:Int)+1:=by omega
   have ha:bits .and .i64 (k:Int) 63=(k:Int) % 64:=i64_and63 _
   have hst:=GS.step hS hP hF hg hB hl (show nm r k<m+1 by omega) (d:=1)
   have HST:=Lib.hid hst
   clear hst hS hP hF hix hlt hnm hg
   go_wp2_with fail
   go_region
   go_wp2_with fail
   go_roundw
   case rel=>exact ⟨k+1,by omega,by go_num,HST.out⟩
   case measure=>simp [intOf];omega
  ·have hke:k=256:=by omega
   subst hke
   obtain ⟨d1,d2,d3⟩:=hgs.done
   go_wp2_with fail
   go_ret
   exact ⟨w.heap.size+1,rfl,d2,d1,d3⟩
end Go.Proofs.YtbohmcfplgdlpaaDoor.Lc

/- A range over a function that draws orders between its rounds, whose body may write rows that lay ahead of the loop: a law for the walks.
   Conditions: those that the theorem states. -/
namespace Go.Proofs.YtbohmcfplgdlpaaDoor.Lc
open Go.RowKit Go.Shelf
def IterD {α:Type} (n g:Nat) (lb:Array Value) (encs:α→Array Value) (Kp:World→World→Prop) (xs:List α) (w:World):Prop :=
 ∀ (l:Nat) (J Jx:List α→World→Prop) (W:World),Below w.heap.size w W→(∀ s A,J s A→J s A.drew) →
  (∀ pre x W1,J pre W1→(∃ post,xs=pre ++ x :: post)→YieldAt Fence.wide (n - 1) Tryd.prog l (encs x) W1 fun e W' =>
   (e=.returned (.bool true)∧J (pre ++ [x]) W'∧Kp W1 W')∨(e=.returned (.bool false)∧Jx (pre ++ [x]) W')) →
  J [] W →
  CallsIn Fence.wide n Tryd.prog g (#[.func (.yield l) #[] #[]] ++ lb) W fun e W'=>(∃ v,e=.returned v)∧(J xs W'∨∃ pre x post,xs=pre ++ x :: post∧Jx (pre ++ [x]) W')
theorem rangeE_law {α:Type} {g:Operand} {ps:Array Tmp} {assign body:Code} {Q:Exit→Act→World→Prop} {a:Act} {w:World} {n gf:Nat} {lb:Array Value}
  (hg:a.eval g=.func (.func gf) #[] lb) (eg:∀ args w,(callFunc gf args).run Tryd.prog w=.ok (.enter gf args) w)
  {encs:α→Array Value} {Kp:World→World→Prop} {xs:List α} (hit:IterD (n - 1) gf lb encs Kp xs w)
  (hKt:∀ {A B C:World},Kp A B→Kp B C→Kp A C) (hKb:∀ (W:World) (l:Nat) (o o':Obj),w.heap.size≤l→W.heap[l]? = some o→o.isCells=false→Kp W (W.putObj l o')) (hps:∀ x,(encs x).size=ps.size)
  (I Ix:List α→World→Prop) (hI:Calm w.heap.size I) (hIx:Calm w.heap.size Ix) (h0:I [] w)
  (hround:∀ (l:Nat) (pre:List α) (x:α) (W:World),I pre W→(∃ post,xs=pre ++ x :: post)→w.heap.size<l→l<W.heap.size →
   assign.wpIn (Fence.wide.inRound l) (n - 1 - 1) Tryd.prog (Exit.then (fun a1 w1=>KeepsFrom w.heap.size W w1∧Kp W w1∧I pre w1∧∀ w2,Chg (fun k=>k=l) w1 w2→(∃ r,w2.heap[l]? = some (.loop r))→I pre w2→body.wpIn (Fence.wide.inRound l) (n - 1 - 1) Tryd.prog (fun e _ W'=>LeftW w.heap.size Kp I Ix pre x w2 e W') a1 w2) (fun _ _ _=>False)) { tmps:=(ps.zip (encs x)).foldl (fun t (p,v)=>t.setIfInBounds p v) a.tmps,defers:=[] } W)
  (hdone:∀ (D:Nat) (W:World),I xs W→w.heap.size≤D→W.heap[D]? = some (.deferred (some []))→Q .normal { a with defers:={ target:=.collected D,args:=#[] } :: a.defers } W)
  (hstop:∀ (D:Nat) (pre:List α) (x:α) (post:List α) (W:World),xs=pre ++ x :: post→Ix (pre ++ [x]) W→w.heap.size≤D→W.heap[D]? = some (.deferred (some []))→Code.ret.wpIn Fence.wide n Tryd.prog Q { a with defers:={ target:=.collected D,args:=#[] } :: a.defers } W) :
  (Code.rangeFunc g ps assign body).wpIn Fence.wide n Tryd.prog Q a w:=by
 refine wpIn_rangeFunc fun fn hfn=>?_
 obtain ⟨lp,hlp⟩ : ∃ lp:LoopState→Option Code→Loop,lp=fun st pe=>{ state:=st,pending:=pe,fn,tmps:=a.tmps,params:=ps,assign,body,defers:=w.heap.size }:=⟨_,rfl⟩
 have hbel:Below w.heap.size w ((w.alloc (.deferred (some []))).alloc (.loop (lp .ready none))):=((Below.refl _ w).alloc (Nat.le_refl _) _).alloc (by simp) _
 have hL:((w.alloc (.deferred (some []))).alloc (.loop (lp .ready none))).heap[w.heap.size+1]? = some (.loop (lp .ready none)):=by
  have:=World.alloc_heap_new (w.alloc (.deferred (some []))) (.loop (lp .ready none))
  rwa [World.size_alloc] at this
 have hD:((w.alloc (.deferred (some []))).alloc (.loop (lp .ready none))).heap[w.heap.size]? = some (.deferred (some [])):=(Below.heap_alloc _ _ _ (by simp)).trans (World.alloc_heap_new w _)
 have hent:=run_enterLoop_outer (P:=Tryd.prog) (w:=w) fn a.tmps ps assign body
 have hsz:((w.alloc (.deferred (some []))).alloc (.loop (lp .ready none))).heap.size=w.heap.size+2:=by simp
 have h1:I [] ((w.alloc (.deferred (some []))).alloc (.loop (lp .ready none))):=hI _ _ _ w.heap.size h0 (Nat.le_refl _) (fun _ _ _ e=>by simp at e) (((Chg.refl _ w).alloc _).alloc _)
 have hW:(w.alloc (.deferred (some []))).alloc (.loop { state:=.ready,pending:=none,fn,tmps:=a.tmps,params:=ps,assign,body,defers:=w.heap.size })=(w.alloc (.deferred (some []))).alloc (.loop (lp .ready none)):=by rw [hlp]
 rw [hW] at hent
 generalize (w.alloc (.deferred (some []))).alloc (.loop (lp .ready none))=W1 at *
 refine ⟨w.heap.size+1,[{ target:=.collected w.heap.size,args:=#[] }],W1,{ target:=.fn (.func gf) lb,args:=#[.func (.yield (w.heap.size+1)) #[] #[]] },W1,gf,#[.func (.yield (w.heap.size+1)) #[] #[]] ++ lb,W1,hent,?_,fun _ _=>trivial,?_,(fun h=>by cases h),?_⟩
 ·simp only [resolve,hg]
  simp [go_sem]
 ·simp [invoke,go_sem,eg]
 ·refine (hit (w.heap.size+1) (fun (pre:List α) (W:World)=>I pre W∧W.heap[w.heap.size+1]? = some (.loop (lp .ready none))∧W.heap[w.heap.size]? = some (.deferred (some []))) (fun (pre:List α) (W:World)=>Ix pre W∧W.heap[w.heap.size+1]? = some (.loop (lp .done (some .ret)))∧W.heap[w.heap.size]? = some (.deferred (some []))) W1 hbel (fun s A h=>⟨hI s A A.drew (max w.heap.size A.heap.size) h.1 (Nat.le_max_left _ _) (fun c e fz he=>by have:=(Array.getElem?_eq_some_iff.1 he).1;have:=Nat.le_max_right w.heap.size A.heap.size;omega) ((Chg.refl _ A).drew),h.2.1,h.2.2⟩) ?_ ⟨h1,hL,hD⟩).mono ?_
  ·rintro pre x W ⟨q1,q2,q3⟩ hnext
   have hlt:=(Array.getElem?_eq_some_iff.1 q2).1
   have hy:=run_yield (P:=Tryd.prog) (args:=encs x) q2 (by rw [hlp];exact hps x)
   rw [hlp] at hy
   refine ⟨fn,_,assign,body,hy,roundIn_of_wpIn trivial (wpIn_mono (hround _ pre x W q1 hnext (Nat.lt_succ_self _) hlt) ?_)⟩
   rintro e a3 w1 hp
   cases e with
   | normal =>
    obtain ⟨k1,k2,k3,k4⟩:=hp
    have l1:=k1.same _ _ (by omega) q2 rfl
    have d1:=k1.same _ _ (Nat.le_refl _) q3 rfl
    have hlt1:=(Array.getElem?_eq_some_iff.1 l1).1
    refine ⟨_,run_beginRound l1 (by rw [hlp]),?_⟩
    have c2:Chg (fun k=>k=w.heap.size+1) w1 (w1.putObj (w.heap.size+1) (.loop { lp .ready none with state:=.busy })):=chg_put _ _ _ rfl
    have i2:=hI _ _ _ _ k3 (by omega) (fun _ _ _ e=>by rw [l1] at e;cases e) c2
    have l2:(w1.putObj (w.heap.size+1) (.loop { lp .ready none with state:=.busy })).heap[w.heap.size+1]? = some (.loop { lp .ready none with state:=.busy }):=World.putObj_heap_same hlt1
    have d2:=(c2.block w.heap.size (Array.getElem?_eq_some_iff.1 d1).1 (by omega)).trans d1
    have kp2:Kp w1 (w1.putObj (w.heap.size+1) (.loop { lp .ready none with state:=.busy })):=hKb _ _ _ _ (by omega) l1 rfl
    refine wpIn_mono (k4 _ c2 ⟨_,l2⟩ i2) ?_
    have fin:∀ (jump:Option Code) (W3:World),KeepsFrom w.heap.size (w1.putObj (w.heap.size+1) (.loop { lp .ready none with state:=.busy })) W3 →
      (Instr.endRound (w.heap.size+1) jump).run Tryd.prog W3=.ok (.bool jump.isNone) (W3.putObj (w.heap.size+1) (.loop (lp (if jump.isNone then .ready else .done) jump))) ∧
      (W3.putObj (w.heap.size+1) (.loop (lp (if jump.isNone then .ready else .done) jump))).heap[w.heap.size+1]? = some (.loop (lp (if jump.isNone then .ready else .done) jump)) ∧
      (W3.putObj (w.heap.size+1) (.loop (lp (if jump.isNone then .ready else .done) jump))).heap[w.heap.size]? = some (.deferred (some []))∧W3.heap[w.heap.size+1]? = some (.loop { lp .ready none with state:=.busy }):=fun jump W3 k5=>by
     have l3:=k5.same _ _ (by omega) l2 rfl
     have d3:=k5.same _ _ (Nat.le_refl _) d2 rfl
     have hr:=run_endRound (P:=Tryd.prog) jump l3
     rw [hlp] at hr ⊢
     refine ⟨hr,World.putObj_heap_same (Array.getElem?_eq_some_iff.1 l3).1,(World.putObj_heap_other (by omega)).trans d3,?_⟩
     rw [hlp] at l3
     exact l3
    rintro e a4 W3 hp
    cases e with
    | normal =>
     obtain ⟨k5,k6,k7⟩:=hp
     obtain ⟨r1,r2,r3,r4⟩:=fin none W3 k5
     exact ⟨_,_,r1,.inl ⟨rfl,⟨hI _ _ _ _ k7 (by omega) (fun _ _ _ e=>by rw [r4] at e;cases e) (chg_put _ _ _ rfl),r2,r3⟩,hKt (hKt (hKt k2 kp2) k6) (hKb _ _ _ _ (by omega) r4 rfl)⟩⟩
    | ret =>
     obtain ⟨k5,k7⟩:=hp
     obtain ⟨r1,r2,r3,r4⟩:=fin (some .ret) W3 k5
     exact ⟨_,_,r1,.inr ⟨rfl,hIx _ _ _ _ k7 (by omega) (fun _ _ _ e=>by rw [r4] at e;cases e) (chg_put _ _ _ rfl),r2,r3⟩⟩
    | exit id=>exact hp.elim
    | goto t=>exact hp.elim
    | panic ch=>exact hp.elim
    | outgrown=>exact hp.elim
   | ret=>exact hp.elim
   | exit id=>exact hp.elim
   | goto t=>exact hp.elim
   | panic ch=>exact hp.elim
   | outgrown=>exact hp.elim
  ·rintro e W2 ⟨⟨v,rfl⟩,(⟨q1,q2,q3⟩ | ⟨pre,x,post,hx,q1,q2,q3⟩)⟩
   ·refine ⟨none,_,by have:=run_endLoop (P:=Tryd.prog) q2 (by rw [hlp];simp);rw [hlp] at this;exact this,?_⟩
    exact hdone _ _ (hI _ _ _ _ q1 (by omega) (fun _ _ _ e=>by rw [q2] at e;cases e) (chg_put _ _ _ rfl)) (Nat.le_refl _) ((World.putObj_heap_other (by omega)).trans q3)
   ·refine ⟨some .ret,_,by have:=run_endLoop (P:=Tryd.prog) q2 (by rw [hlp];simp);rw [hlp] at this;exact this,?_⟩
    exact hstop _ pre x post _ hx (hIx _ _ _ _ q1 (by omega) (fun _ _ _ e=>by rw [q2] at e;cases e) (chg_put _ _ _ rfl)) (Nat.le_refl _) ((World.putObj_heap_other (by omega)).trans q3)
end Go.Proofs.YtbohmcfplgdlpaaDoor.Lc

/- What the library's iterator over chunks comes to at a list of classes: 64 at a time: a contract for the proofs of the statements.
   Conditions: those that each theorem states. -/
namespace Go.Proofs.YtbohmcfplgdlpaaDoor.Lc
open Go.RowKit Go.Shelf
attribute [local go_sem] Oper.semAt_some
set_option maxRecDepth 100000 in
set_option maxHeartbeats 2000000 in
theorem chunk_in (F:Fence) (n':Nat) (h23:F.fn 26) (hro:F.round=none) (A:Option Addr) (n cap:Nat) (w:World) :
  CallsIn F n' Tryd.prog 26 #[.slice A n cap,.int .i64 64] w fun e w'=>e=.returned (.func (.func 40) #[] #[.pointer (some ⟨w.heap.size,0,none⟩),.pointer (some ⟨w.heap.size+1,0,none⟩)])∧w'=(w.alloc (.cells #[.slice A n cap] 29)).alloc (.cells #[.int .i64 64] 3):=by
 refine callsIn_of_wp Tryd.func26 rfl h23 ?_ hro
 simp only [Tryd.ntmps26,List.size_toArray,List.length_cons,List.length_nil,Nat.reduceAdd,Nat.reduceSub,Array.replicate_succ,Array.replicate_zero,List.push_toArray,List.append_toArray,List.nil_append,List.cons_append]
 gi_wp2
 go_ret
 exact ⟨rfl,rfl⟩
def KeepTwo (Bs Bn:Nat) (W W':World):Prop:=W'.heap[Bs]? = W.heap[Bs]?∧W'.heap[Bn]? = W.heap[Bn]?
theorem keepTwo_t {Bs Bn:Nat} {A B C:World} (h:KeepTwo Bs Bn A B) (k:KeepTwo Bs Bn B C):KeepTwo Bs Bn A C:=⟨k.1.trans h.1,k.2.trans h.2⟩
def nCh (n:Nat):Nat:=(n+63) / 64
set_option maxRecDepth 100000 in
set_option maxHeartbeats 4000000 in
theorem chunk_iter (nn:Nat) (h1:1≤nn) (Bs Bn b off n cap:Nat) (hcap:n≤cap) (hn:n≤1000000) (w:World) (hBs:Bs<w.heap.size) (hBn:Bn<w.heap.size) (hc:w.cell? ⟨Bs,0,none⟩=some (.slice (some ⟨b,off,none⟩) n cap)) (hd:w.cell? ⟨Bn,0,none⟩=some (.int .i64 64)) :
  IterD nn 40 #[.pointer (some ⟨Bs,0,none⟩),.pointer (some ⟨Bn,0,none⟩)] (fun i:Nat=>#[.slice (some ⟨b,off+64 * i * 4,none⟩) (min 64 (n - 64 * i)) (min 64 (n - 64 * i))]) (KeepTwo Bs Bn) (List.range (nCh n)) w:=by
 intro l J Jx W hW hJa hY h0
 refine callsIn_of_wp Tryd.func40 rfl trivial ?_ rfl
 simp only [Tryd.ntmps40,List.size_toArray,List.length_cons,List.length_nil,Nat.reduceAdd,Nat.reduceSub,Array.replicate_succ,Array.replicate_zero,List.push_toArray,List.append_toArray,List.nil_append,List.cons_append]
 gi_wp2
 gi_loopw [4,5] (fun i _ wr=>∃ j:Nat,i=.int .i64 ((64 * j:Nat):Int)∧j≤nCh n∧J (List.range j) wr∧KeepTwo Bs Bn W wr) (fun i _ _=>n+64 - (intOf i).toNat)
 case atStart=>exact ⟨0,rfl,Nat.zero_le _,h0,rfl,rfl⟩
 case round =>
  obtain ⟨j,rfl,hj,hJ,hk⟩:=hrel
  have c1:=(World.cell?_of_block (a:=⟨Bs,0,none⟩) hk.1).trans ((hW.cell (p:=⟨Bs,0,none⟩) hBs).trans hc)
  have c2:=(World.cell?_of_block (a:=⟨Bn,0,none⟩) hk.2).trans ((hW.cell (p:=⟨Bn,0,none⟩) hBn).trans hd)
  obtain ⟨i,hi⟩ : ∃ i,i=64 * j:=⟨_,rfl⟩
  rw [← hi]
  by_cases hlt:i<n
  ·have hjn:j<nCh n:=by unfold nCh;omega
   obtain ⟨e,he⟩ : ∃ e,e=min 64 (n - i):=⟨_,rfl⟩
   have s1:(i:Int)<(n:Int):=by omega
   have s2:(0:Int)≤(i:Int):=by omega
   have s3:((i:Int)).toNat=i:=by omega
   have s4:(i:Int)≤(n:Int):=by omega
   have s5:(n:Int)≤(cap:Int):=by omega
   have hpost:∃ post,List.range (nCh n)=List.range j ++ j :: post:=by
    refine ⟨(List.range (nCh n)).drop (j+1),?_⟩
    have h2:=(List.take_append_drop j (List.range (nCh n))).symm
    rw [List.take_range,Nat.min_eq_left (by omega),List.drop_eq_getElem_cons (by simpa using hjn),List.getElem_range] at h2
    exact h2
   have hmin:(if ((n - i:Nat):Int)<64 then ((n - i:Nat):Int) else 64)=(e:Int):=by split <;> omega
   have hie:(i:Int)+(e:Int)≤(cap:Int):=by omega
   have he0:(0:Int)≤(i:Int)+(e:Int):=by omega
   have hi2:(i:Int)≤(i:Int)+(e:Int):=by omega
   have wie:IntKind.i64.wrap ((i:Int)+(e:Int))=(i:Int)+(e:Int):=by rw [IntKind.wrap_i64];omega
   have wi64:IntKind.i64.wrap ((i:Int)+64)=(i:Int)+64:=by rw [IntKind.wrap_i64];omega
   have hte:((i:Int)+(e:Int)).toNat=i+e:=by omega
   have hsub:i+e - i=e:=by omega
   have HY:=Lib.hid (hY (List.range j) j wr.drew (hJa _ _ hJ) hpost)
   have HE:=Lib.hid (And.intro hi (And.intro he (And.intro hjn hlt)))
   have HK:=Lib.hid hk
   have HPO:=Lib.hid hpost
   clear hi he hY hpost hjn hlt hJ hk
   gi_wp2
   gi_region
   all_goals
    obtain ⟨fn,tmps,assign,body,hy,hR⟩:=HY.out
    rw [← HE.out.1,← HE.out.2.1] at hy
    gi_wp2
    refine hR.mono ?_
    rintro e W3 (⟨rfl,hJ3,hk3⟩ | ⟨rfl,hJx3⟩)
    ·have d2:=(World.cell?_of_block (a:=⟨Bn,0,none⟩) (hk3.2.trans HK.out.2)).trans ((hW.cell (p:=⟨Bn,0,none⟩) hBn).trans hd)
     gi_wp2
     go_roundw
     case rel=>exact ⟨j+1,congrArg (Value.int .i64) (by have h:=HE.out.1;push_cast;omega),HE.out.2.2.1,by rw [List.range_succ];exact hJ3,keepTwo_t HK.out hk3⟩
     case measure=>simp [intOf];omega
    ·gi_wp2
     refine bodyPost_ret (results_none rfl _ _ _) rfl ?_
     exact ⟨⟨_,rfl⟩,.inr ⟨_,j,_,HPO.out.choose_spec,hJx3⟩⟩
  ·have s1:¬ (i:Int)<(n:Int):=by omega
   have hjn:j=nCh n:=by unfold nCh at hj ⊢;omega
   gi_wp2
   go_end0
   exact ⟨⟨_,rfl⟩,.inl (by rw [← hjn];exact hJ)⟩
end Go.Proofs.YtbohmcfplgdlpaaDoor.Lc

/- What the parts of a list of classes come to, however many these are: the classes of the numbering by first occurrence, in a row of their own: a contract for the proofs of the statements.
   Conditions: at most a million classes, each four words below 2^64, in a row of memory, as the theorem states. -/
namespace Go.Proofs.YtbohmcfplgdlpaaDoor.Lc
open Go.RowKit Go.Shelf
attribute [local go_sem] Oper.semAt_some
section
variable {F:Fence} {nF:Nat} {P:Program} {ops:Array Oper} {rest:List Oper} {o:Oper} {a:Act} {w:World} {Q:Exit→Act→World→Prop}
theorem wpListIn_load_row (hg:o.guard=none) (ty:TypeId) (x:Operand) (hop:o.op=.load ty x) (b off:Nat) (hx:a.eval x=.pointer (some ⟨b,off,none⟩)) (cs:List Value) (d:TypeDesc) (hc:w.rangeAt b off cs)
  (hu:P.underlying ty=some d) (hd:d.isRow=true) (hi:(P.info? ty).map (·.size)=some cs.length)
  (h:wpListIn F nF P ops Q rest (a.put o.dst (.agg cs.toArray)) w):wpListIn F nF P ops Q (o :: rest) a w:=by
 refine wpListIn_plain hg fun K' hK'=>?_
 unfold Oper.wpIn
 refine ⟨by simp [Oper.about,hop],?_⟩
 rw [Oper.semAt_plain F _ _ (by rw [hop];intro c hc';cases hc')]
 unfold execOp
 simp only [hop,hx,Instr.loadAt,Instr.sureAddr,Sem.run_bind,Sem.run_pure,Result.andThen_ok,run_loadVar_mid w b off ty cs d hc hu hd hi]
 exact hK' _ _ h
end
set_option maxRecDepth 100000 in
set_option maxHeartbeats 2000000 in
theorem chunk0_iter (nn:Nat) (Bs Bn cap:Nat) (A:Option Addr) (w:World) (hBs:Bs<w.heap.size) (hc:w.cell? ⟨Bs,0,none⟩=some (.slice A 0 cap)) :
  IterD nn 40 #[.pointer (some ⟨Bs,0,none⟩),.pointer (some ⟨Bn,0,none⟩)] (fun i:Nat=>#[.slice (some ⟨0,0+64 * i * 4,none⟩) (min 64 (0 - 64 * i)) (min 64 (0 - 64 * i))]) (KeepTwo Bs Bn) (List.range (nCh 0)) w:=by
 intro l J Jx W hW _ _ h0
 have c1:=(hW.cell (p:=⟨Bs,0,none⟩) hBs).trans hc
 refine callsIn_of_wp Tryd.func40 rfl trivial ?_ rfl
 simp only [Tryd.ntmps40,List.size_toArray,List.length_cons,List.length_nil,Nat.reduceAdd,Nat.reduceSub,Array.replicate_succ,Array.replicate_zero,List.push_toArray,List.append_toArray,List.nil_append,List.cons_append]
 gi_wp2
 gi_loopw [4,5] (fun i _ wr=>i=.int .i64 0∧wr=W) (fun _ _ _=>0)
 case atStart=>exact ⟨rfl,rfl⟩
 case round =>
  obtain ⟨rfl,rfl⟩:=hrel
  gi_wp2
  go_end0
  exact ⟨⟨_,rfl⟩,.inl h0⟩
theorem setCells_other (b:Nat) {k:Nat}:∀ (cs:List Value) (o:Nat) (w:World),k≠b→(w.setCells b o cs).heap[k]? = w.heap[k]?
 | [],_,_,_=>rfl
 | v :: r,o,w,h=>(setCells_other b r (o+1) (w.setCell ⟨b,o,none⟩ v) h).trans (Below.heap_setCell _ _ _ _ h)
theorem frozen_setCells (b:Nat) {p:Addr}:∀ (cs:List Value) (o:Nat) (w:World),(w.setCells b o cs).frozen? p=w.frozen? p
 | [],_,_=>rfl
 | v :: r,o,w=>(frozen_setCells b r (o+1) (w.setCell ⟨b,o,none⟩ v)).trans (World.frozen?_setCell _ _ _ _)
theorem cell_first (X:World) (v:Value) (t:TypeId):(X.alloc (.cells #[v] t)).cell? ⟨X.heap.size,0,none⟩=some v:=by simp
theorem keeps_split {B b:Nat} {W W2:World} (hb:Below W.heap.size W W2) (hB:b<B) (cs:List Value):KeepsFrom B W (W2.setCells b 0 cs) :=
 ⟨by have:=(own_setCells (B:=0) b (Nat.zero_le _) cs 0 (Below.refl 0 W2)).size;exact Nat.le_trans hb.size this,fun k o hk ho _=>by
  have hlt:k<W.heap.size:=(Array.getElem?_eq_some_iff.1 ho).1
  have hlt2:k<W2.heap.size:=Nat.lt_of_lt_of_le hlt hb.size
  rw [setCells_other (k:=k) b cs 0 W2 (by omega),hb.block k hlt]
  exact ho⟩
def thru (n k:Nat):Nat:=min n (64 * k)
theorem nm_zero (L:Nat→Nat→Nat) (i:Nat):nm (rel zeros L 0) i=0:=by
 have hr:rel zeros L 0 0 i=true:=by simp [rel,zeros,mem]
 have:=fst_le (alike_rel zeros L 0) hr
 unfold nm
 rw [show fst (rel zeros L 0) i=0 by omega]
 rfl
theorem rel_iff (L:Nat→Nat→Nat) (n a b:Nat):rel zeros L n a b=true↔∀ k,k<n→hasB (L k) a=hasB (L k) b:=by
 unfold rel
 rw [Bool.and_eq_true,beq_iff_eq,beq_iff_eq,mem_eq_iff]
 exact ⟨fun h=>h.2,fun h=>⟨rfl,h⟩⟩
theorem nm_chunk (L:Nat→Nat→Nat) (i k b:Nat) (hb:b<256):nm (rel (nm (rel zeros L i)) (fun t=>L (i+t)) k) b=nm (rel zeros L (i+k)) b:=by
 refine nm_congr (n:=256) (alike_rel _ _ _) (alike_rel _ _ _) (fun a c _ _=>?_) hb
 rw [Bool.eq_iff_iff,rel_iff]
 show (nm (rel zeros L i) a == nm (rel zeros L i) c && mem (fun t=>L (i+t)) a k == mem (fun t=>L (i+t)) c k)=true↔_
 rw [Bool.and_eq_true,beq_iff_eq,beq_iff_eq,nm_iff (alike_rel _ _ _),rel_iff,mem_eq_iff]
 constructor
 ·rintro ⟨h1,h2⟩ t ht
  by_cases g:t<i
  ·exact h1 t g
  ·have:=h2 (t - i) (by omega)
   simpa [show i+(t - i)=t by omega] using this
 ·intro h
  exact ⟨fun t ht=>h t (by omega),fun t ht=>h (i+t) (by omega)⟩
theorem range_pre {M x:Nat} {pre post:List Nat} (h:List.range M=pre ++ x :: post):pre.length=x∧x<M:=by
 have h1:(List.range M)[pre.length]? = some x:=by rw [h];simp
 have h2:=(List.getElem?_eq_some_iff.1 h1).1
 rw [List.length_range] at h2
 rw [List.getElem?_range h2] at h1
 have:=Option.some.inj h1
 exact ⟨this,by omega⟩
def PS (L:Nat→Nat→Nat) (n:Nat) (w:World) (pre:List Nat) (W:World):Prop:=(IntsAt W w.heap.size (nm (rel zeros L (thru n pre.length)))∧BFree256 W w.heap.size)∧(w.heap.size+3≤W.heap.size∧Below w.heap.size w W)
theorem ps_calm (L:Nat→Nat→Nat) (n:Nat) (w:World) {B:Nat} (hB:w.heap.size<B):Calm B (PS L n w):=fun s W W' l ⟨⟨h1,h2⟩,h3,h4⟩ hl _ hc=>by
 have e:W'.heap[w.heap.size]? = W.heap[w.heap.size]?:=hc.block _ (by omega) (by omega)
 refine ⟨⟨fun i hi=>?_,fun i hi=>?_⟩,by have:=hc.size;omega,h4.trans (hc.below (by omega) fun k hk q=>by omega)⟩
 ·exact (World.cell?_of_block (a:=⟨w.heap.size,i,none⟩) e).trans (h1 i hi)
 ·have:=h2 i hi
  unfold World.frozen? at this ⊢
  simp only [e]
  exact this
theorem chunk_all (nn:Nat) (h1:1≤nn) (Bs Bn n cap:Nat) (A:Option Addr) (hA:0<n→∃ b off,A=some ⟨b,off,none⟩) (hcap:n≤cap) (hn:n≤1000000) (w:World) (hBs:Bs<w.heap.size) (hBn:Bn<w.heap.size) (hc:w.cell? ⟨Bs,0,none⟩=some (.slice A n cap)) (hd:w.cell? ⟨Bn,0,none⟩=some (.int .i64 64)) :
  ∃ b off,(0<n→A=some ⟨b,off,none⟩)∧IterD nn 40 #[.pointer (some ⟨Bs,0,none⟩),.pointer (some ⟨Bn,0,none⟩)] (fun i:Nat=>#[.slice (some ⟨b,off+64 * i * 4,none⟩) (min 64 (n - 64 * i)) (min 64 (n - 64 * i))]) (KeepTwo Bs Bn) (List.range (nCh n)) w:=by
 by_cases h:n=0
 ·subst h
  exact ⟨0,0,fun h=>absurd h (Nat.lt_irrefl 0),chunk0_iter nn Bs Bn cap A w hBs hc⟩
 ·obtain ⟨b,off,rfl⟩:=hA (by omega)
  exact ⟨b,off,fun _=>rfl,chunk_iter nn h1 Bs Bn b off n cap hcap hn w hBs hBn hc hd⟩
theorem row_chunk {w:World} {A:Option Addr} {n b off:Nat} {L:Nat→Nat→Nat} (h:ClassRow w A n L) (hA:0<n→A=some ⟨b,off,none⟩) (i k:Nat) (hk:64 * i+k≤n):ClassRow w (some ⟨b,off+64 * i * 4,none⟩) k (fun t=>L (64 * i+t)):=fun h0=>by
 obtain ⟨b',off',e,hb,hc⟩:=h (by omega)
 rw [hA (by omega)] at e
 simp only [Option.some.injEq,Addr.mk.injEq,and_true] at e
 obtain ⟨rfl,rfl⟩:=e
 refine ⟨b,off+64 * i * 4,rfl,hb,fun t ht j hj=>?_⟩
 have:=hc (64 * i+t) (by omega) j hj
 rw [show off+64 * i * 4+t * 4+j=off+(64 * i+t) * 4+j by omega]
 exact this
set_option maxRecDepth 100000 in
set_option maxHeartbeats 4000000 in
theorem parts_in (A:Option Addr) (n cap:Nat) (L:Nat→Nat→Nat) (w:World) (hrow:ClassRow w A n L) (hL:∀ t,Cl (L t)) (hn:n≤1000000) (hcap:n≤cap) :
  CallsIn Fence.wide 5 Tryd.prog 15 #[.slice A n cap] w (GivesParts (rel zeros L n) w):=by
 have hzero:=(zero_of_info info42).1
 have hA:0<n→∃ b off,A=some ⟨b,off,none⟩:=fun h=>by obtain ⟨b,off,e,_⟩:=hrow h;exact ⟨b,off,e⟩
 refine callsIn_of_wp_marks Tryd.func15 rfl trivial ?_ rfl
 simp only [Tryd.ntmps15,List.size_toArray,List.length_cons,List.length_nil,Nat.reduceAdd,Nat.reduceSub,Array.replicate_succ,Array.replicate_zero,List.push_toArray,List.append_toArray,List.nil_append,List.cons_append]
 gi_wp2_with (refine ⟨trivial,?_⟩;gi_at_call 26;refine (chunk_in Fence.wide _ trivial rfl _ _ _ _).mono ?_;rintro e w' ⟨rfl,rfl⟩)
 have hi0:=ints_new w 42
 have hf0:=ifree_new w (Array.replicate 256 (.int .i64 0)) 42
 obtain ⟨W0,hW0⟩ : ∃ W0,((w.alloc (.cells (Array.replicate 256 (.int .i64 0)) 42)).alloc (.cells #[.slice A n cap] 29)).alloc (.cells #[.int .i64 64] 3)=W0:=⟨_,rfl⟩
 have hz:W0.heap.size=w.heap.size+3:=by rw [← hW0];simp
 have hB0:Below w.heap.size w W0:=by rw [← hW0];exact (((Below.refl _ w).alloc (Nat.le_refl _) _).alloc (by simp) _).alloc (by simp;omega) _
 have hb1:Below (w.alloc (.cells (Array.replicate 256 (.int .i64 0)) 42)).heap.size (w.alloc (.cells (Array.replicate 256 (.int .i64 0)) 42)) W0:=by rw [← hW0];exact (below_alloc _ _).trans ((below_alloc _ _).mono (by simp))
 have hc1:W0.cell? ⟨w.heap.size+1,0,none⟩=some (.slice A n cap):=by
  rw [← hW0]
  have h:=(below_alloc ((w.alloc (.cells (Array.replicate 256 (.int .i64 0)) 42)).alloc (.cells #[.slice A n cap] 29)) (.cells #[.int .i64 64] 3)).cell (p:=⟨w.heap.size+1,0,none⟩) (by simp)
  rw [h]
  simp
 have hc2:W0.cell? ⟨w.heap.size+2,0,none⟩=some (.int .i64 64):=by
  have k:=cell_first ((w.alloc (.cells (Array.replicate 256 (.int .i64 0)) 42)).alloc (.cells #[.slice A n cap] 29)) (.int .i64 64) 3
  simp only [World.size_alloc] at k
  rw [← hW0]
  exact k
 have hI0:PS L n w [] W0:=⟨⟨(hi0.below hb1).congr fun i _=>by rw [show thru n ([]:List Nat).length=0 by simp [thru],nm_zero];rfl,hf0.below (by simp) hb1⟩,by omega,hB0⟩
 have e2:w.heap.size+1+1=w.heap.size+2:=by omega
 rw [hW0]
 obtain ⟨b,off,hAb,hit⟩:=chunk_all 4 (by decide) (w.heap.size+1) (w.heap.size+2) n cap A hA hcap hn W0 (by omega) (by omega) hc1 hc2
 clear hW0 hi0 hf0 hzero hb1 hc1 hc2 hA
 refine rangeE_law (n:=5) (gf:=40) (lb:=#[.pointer (some ⟨w.heap.size+1,0,none⟩),.pointer (some ⟨w.heap.size+2,0,none⟩)]) rfl (enters_of Tryd.func40 (by kernel_rfl) rfl)
  hit keepTwo_t (fun W k o o2 hk _ _=>⟨World.putObj_heap_other (by omega),World.putObj_heap_other (by omega)⟩) (fun _=>rfl)
  (PS L n w) (fun _ _=>False) (ps_calm L n w (by omega)) (fun _ _ _ _ h=>h.elim) hI0 ?round ?done ?stop
 case stop=>intro D pre x post W _ h _ _;exact h.elim
 case round =>
  intro l pre x W hI hnext hl1 hl2
  obtain ⟨post,hpo⟩:=hnext
  obtain ⟨hpx,hxM⟩:=range_pre hpo
  have HI0:=Lib.hid hI
  clear hI hpo
  gi_wp2
  refine ⟨KeepsFrom.refl _ _,⟨rfl,rfl⟩,HI0.out,?_⟩
  clear HI0
  intro v2 hc2 _ _ hI2
  clear hc2
  obtain ⟨⟨hi,hf⟩,hW3,hB⟩:=hI2
  rw [hpx] at hi
  obtain ⟨k,hk⟩ : ∃ k,k=min 64 (n - 64 * x):=⟨_,rfl⟩
  have hxn:64 * x<n:=by unfold nCh at hxM;omega
  have hth:thru n x=64 * x:=by unfold thru;omega
  have hth2:thru n (pre ++ [x]).length=64 * x+k:=by rw [List.length_append,hpx];unfold thru;simp;omega
  rw [hth] at hi
  obtain ⟨p0,hp0⟩ : ∃ p0:Nat→Nat,p0=fun b=>if b<256 then nm (rel zeros L (64 * x)) b else 0:=⟨_,rfl⟩
  have hp0i:∀ i,i<256→nm (rel zeros L (64 * x)) i=p0 i:=fun i h=>by rw [hp0];exact (if_pos h).symm
  have hi2:IntsAt v2 w.heap.size p0:=hi.congr hp0i
  have hp256:∀ b,p0 b<256:=fun b=>by
   rw [hp0]
   show (if b<256 then nm (rel zeros L (64 * x)) b else 0)<256
   split
   ·rename_i h
    have h1:=nm_lt (alike_rel zeros L (64 * x)) h
    have h2:=news_le (r:=rel zeros L (64 * x)) 256
    omega
   ·omega
  have hr:=hi2.range
  have hsz:(Tryd.prog.info? 42).map (·.size)=some (intList p0).length:=by rw [intList_length];exact (zero_of_info info42).2
  obtain ⟨p1,hp1⟩ : ∃ p1,p1=nm (rel p0 (fun t=>L (64 * x+t)) k):=⟨_,rfl⟩
  have hsp:=split_any (some ⟨b,off+64 * x * 4,none⟩) k k (fun t=>L (64 * x+t)) p0 v2 ((row_chunk hrow hAb x k (by omega)).below hB) (fun t=>hL _) (by omega) hp256
  rw [← hp1] at hsp
  have hp1i:∀ i,i<256→p1 i=nm (rel zeros L (thru n (pre ++ [x]).length)) i:=fun i h=>by
   rw [hp1,hth2,← nm_chunk L (64 * x) k i h]
   refine nm_congr (n:=256) (alike_rel _ _ _) (alike_rel _ _ _) (fun a c ha hc=>?_) h
   show (p0 a == p0 c && _)=(nm (rel zeros L (64 * x)) a == nm (rel zeros L (64 * x)) c && _)
   rw [hp0i a ha,hp0i c hc]
  have hsz2:(Tryd.prog.info? 42).map (·.size)=some (intList p1).length:=by rw [intList_length];exact (zero_of_info info42).2
  have ho:∀ v∈intList p1,v.oneCell'=true:=fun v hv=>by
   obtain ⟨i,_,rfl⟩:=List.mem_map.1 hv
   rfl
  have hlen2:=intList_length p1
  have hend:∀ w2,Below v2.heap.size v2 w2→PS L n w (pre ++ [x]) (w2.setCells w.heap.size 0 (intList p1)):=fun w2 hb2=>by
   have ht2:w2.there w.heap.size 0 (intList p1).length:=fun j hj=>by
    rw [intList_length] at hj
    rw [Nat.zero_add]
    exact ⟨by rw [hi2.below hb2 j hj];rfl,hf.below hi2.lt hb2 j hj⟩
   have hra:=World.rangeAt_setCells_same w2 w.heap.size 0 _ ht2
   refine ⟨⟨fun i hi3=>?_,fun i hi3=>?_⟩,?_,own_setCells _ (Nat.le_refl _) _ 0 (hB.trans (hb2.mono hB.size))⟩
   ·have:=hra i _ (intList_at _ i hi3)
    rw [Nat.zero_add] at this
    rw [← hp1i i hi3]
    exact this
   ·rw [frozen_setCells]
    exact hf.below hi2.lt hb2 i hi3
   ·exact Nat.le_trans hW3 (Nat.le_trans hb2.size (own_setCells (B:=0) _ (Nat.zero_le _) _ 0 (Below.refl 0 w2)).size)
  have hth:∀ w2,Below v2.heap.size v2 w2→w2.there w.heap.size 0 256:=fun w2 hb2 j hj=>by
   rw [Nat.zero_add]
   exact ⟨by rw [hi2.below hb2 j hj];rfl,hf.below hi2.lt hb2 j hj⟩
  rw [← hk]
  have HEN:=Lib.hid (And.intro hend (And.intro hth (And.intro hB hW3)))
  clear hend hth hp1i hp0i hp256 hp0 hp1 hi hi2 hf hk hxn hth2 hpx hxM
  generalize intList p0=zs at hr hsz hsp
  generalize intList p1=ds at hsz2 hsp ho HEN hlen2
  gi_wp2_with (first
   | (refine wpListIn_load_row rfl 42 _ rfl w.heap.size 0 rfl zs _ hr Tryd.underlying42 rfl hsz ?_)
   | (refine ⟨trivial,?_⟩;gi_at_call 27;refine (CallsIn.inRound l (callsIn_wide.2 hsp)).mono ?_;rintro e w2 ⟨rfl,hb2⟩))
  have hrun:=run_storeCells_cells (P:=Tryd.prog) w.heap.size 0 ds 0 w2 (fun j hj=>by have:=HEN.out.2.1 w2 hb2 j (by omega);simpa using this.1) (fun j hj=>by have:=HEN.out.2.1 w2 hb2 j (by omega);simpa using this.2) ho
  simp only [Nat.add_zero] at hrun
  rw [hrun]
  gi_wp2
  have hW3:=HEN.out.2.2.2
  exact ⟨keeps_split hb2 (by omega) ds,⟨(setCells_other (k:=w.heap.size+1) _ ds 0 w2 (by omega)).trans (hb2.block _ (by omega)),(setCells_other (k:=w.heap.size+2) _ ds 0 w2 (by omega)).trans (hb2.block _ (by omega))⟩,HEN.out.1 w2 hb2⟩
 case done =>
  intro D W ⟨⟨hi,hf⟩,hW3,hB⟩ hD hK
  rw [List.length_range,show thru n (nCh n)=n by unfold thru nCh;omega] at hi
  have hr:=hi.range
  have hsz:(Tryd.prog.info? 42).map (·.size)=some (intList (nm (rel zeros L n))).length:=by rw [intList_length];exact (zero_of_info info42).2
  have hga:=gather_any (rel zeros L n) (alike_rel zeros L n) W
  generalize intList (nm (rel zeros L n))=ds at hr hsz hga
  gi_wp2_with (first
   | (refine wpListIn_load_row rfl 42 _ rfl w.heap.size 0 rfl ds _ hr Tryd.underlying42 rfl hsz ?_)
   | (refine ⟨trivial,?_⟩;gi_at_call 28;refine (callsIn_wide.2 hga).mono ?_;rintro e w2 ⟨g,rfl,hg,hP,hb2⟩))
  have hDl:D<W.heap.size:=(Array.getElem?_eq_some_iff.1 hK).1
  have hK2:w2.heap[D]? = some (.deferred (some [])):=(hb2.block D hDl).trans hK
  refine ⟨by simp,.inl ⟨_,_,rfl,run_takeDeferred hK2,?_⟩⟩
  refine ⟨_,results_tmp rfl _ _ _,g,rfl,Nat.le_trans (Nat.le_trans (by omega) hW3) hg,fun q hq j hj=>?_,(hB.trans (hb2.mono hB.size)).trans (belowK_b (w:=w) (Nat.le_refl _) w2 D _ _ (by omega) hK2 rfl rfl)⟩
  exact cell_kept (hP q hq j hj) (grownBy_putObj' _ D (.deferred none)) (fun r e=>by cases e;exact ⟨_,hK2,rfl⟩)
theorem parts_any (A:Option Addr) (n cap:Nat) (L:Nat→Nat→Nat) (w:World) (hrow:ClassRow w A n L) (hL:∀ t,Cl (L t)) (hn:n≤1000000) (hcap:n≤cap) :
  Calls Tryd.prog 15 #[.slice A n cap] w (GivesParts (rel zeros L n) w):=callsIn_wide.1 (parts_in A n cap L w hrow hL hn hcap)
end Go.Proofs.YtbohmcfplgdlpaaDoor.Lc
