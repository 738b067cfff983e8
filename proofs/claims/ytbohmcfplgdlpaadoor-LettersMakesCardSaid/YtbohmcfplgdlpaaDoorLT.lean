/- What letters.Spell and Plain answer of a word: a contract each, and the statement's guard.
   Conditions: the letters' sets lie in memory, each byte's letter is told by a relation. -/
import Derived.Below
import Derived.Test.YtbohmcfplgdlpaaDoorPA
import Derived.Test.YtbohmcfplgdlpaaDoorPG
import Derived.Test.YtbohmcfplgdlpaaDoorLC
import Derived.Test.YtbohmcfplgdlpaaDoorMBase
import Derived.ArgAppend
import Derived.Deep.AppendLies
import Derived.Test.YtbohmcfplgdlpaaDoorRows
import Derived.WalkKit
import Derived.KernelRfl
import Derived.Deep.WholeRow
import Derived.Great.BuildSlice
import Derived.Laws.Rows
import Derived.Laws.CopyOwn
import Derived.Test.YtbohmcfplgdlpaaDoorProg
import Derived.Deep.OwnRows

/- A word that lies in memory (for a seat without naive: filled under the name NaC).
   No conditions. -/
namespace Go.Proofs.YtbohmcfplgdlpaaDoor
open Go.RowKit
def WrdR (w:World) (v:Value) (l:List Nat):Prop :=
 ∃ A c,v=.slice A l.length c∧∀ (i x:Nat),l[i]? = some x→x<256∧∃ g o,A=some ⟨g,o,none⟩∧g<w.heap.size∧w.cell? ⟨g,o+i,none⟩=some (.int .u8 (x:Int))
theorem WrdR.below {w w':World} {v:Value} {l:List Nat} (h:WrdR w v l) (hb:Below w.heap.size w w'):WrdR w' v l:=by
 obtain ⟨A,c,h1,h2⟩:=h
 refine ⟨A,c,h1,fun i x hx=>?_⟩
 obtain ⟨h3,g,o,h4,h5,h6⟩:=h2 i x hx
 exact ⟨h3,g,o,h4,Nat.lt_of_lt_of_le h5 hb.size,(hb.cell (p:=⟨g,_,none⟩) h5).trans h6⟩
end Go.Proofs.YtbohmcfplgdlpaaDoor

/- A region whose order is open, of which some edges bind real Go's compiler alone: by one condition, as in Order.
   Conditions: those that the theorem states. -/
namespace Go.Proofs.YtbohmcfplgdlpaaDoor
open Go.RowKit
section
variable {P:Program} {ops:Array Oper} {Q:Exit→Act→World→Prop}
theorem ready_allB {s:Array Bool} (hs:s.size=ops.size) (hacy:∀ (i:Nat) (o:Oper),ops[i]? = some o→∀ e∈o.after,Region.binds .any e=true→e.on<i) (h:Region.ready .any ops s=[]):∀ i,i<ops.size→lst14 s i=true:=by
 intro i
 induction i using Nat.strongRecOn with
 | ind i ih =>
  intro hi
  cases e:lst14 s i with
  | true=>rfl
  | false =>
   exfalso
   have hm:i∈Region.ready .any ops s:=by
    refine mem_ready.2 ⟨?_,ops[i],by simp [hi],fun e he hbd=>?_⟩
    ·unfold lst14 at e
     rw [Array.getD_eq_getD_getElem?] at e ⊢
     rw [Array.getElem?_eq_getElem (by omega)] at e ⊢
     simpa using e
    ·have hlt:=hacy i ops[i] (by simp [hi]) e he hbd
     exact ih _ hlt (by omega)
   rw [h] at hm
   cases hm
theorem wpAny_invB (I:(Nat→Bool)→Act→World→Prop) (hacy:∀ (i:Nat) (o:Oper),ops[i]? = some o→∀ e∈o.after,Region.binds .any e=true→e.on<i)
  (hstep:∀ l a w i o,I l a w→ops[i]? = some o→l i=false→(∀ e∈o.after,Region.binds .any e=true→l e.on=true)→wpOp P ops Q i (I (upd l i)) a w)
  (hdone:∀ l a w,I l a w→(∀ i,i<ops.size→l i=true)→Q .normal a w) :
  ∀ (fuel:Nat) (s:Array Bool) (a:Act) (w:World),s.size=ops.size→left s≤fuel→I (lst14 s) a w→wpAny P .any ops Q fuel s a w:=by
 intro fuel
 induction fuel with
 | zero =>
  intro s a w hs hl hI
  have hnil:Region.ready .any ops s=[]:=by
   apply List.eq_nil_iff_forall_not_mem.2
   intro i hi
   obtain ⟨h1,_⟩:=mem_ready.1 hi
   have:=left_set s.toList i (getD_false h1)
   unfold left at hl
   omega
  exact ⟨hnil,hdone _ _ _ hI (ready_allB hs hacy hnil)⟩
 | succ fuel ih =>
  intro s a w hs hl hI
  refine ⟨fun hnil=>hdone _ _ _ hI (ready_allB hs hacy hnil),fun i hi=>?_⟩
  obtain ⟨h1,o,ho,hall⟩:=mem_ready.1 hi
  have hlt:i<s.size:=by
   have:=getD_false h1
   have:=(List.getElem?_eq_some_iff.1 this).1
   simpa using this
  have hf:lst14 s i=false:=by
   unfold lst14
   rw [Array.getD_eq_getD_getElem?] at h1 ⊢
   rw [Array.getElem?_eq_getElem hlt] at h1 ⊢
   simpa using h1
  refine wpOp_mono (fun a' w' hI'=>?_) (hstep _ a w i o hI ho hf hall)
  refine ih _ a' w' (by simpa using hs) ?_ (by rw [upd_listed _ _ hlt];exact hI')
  have:=left_set s.toList i (getD_false h1)
  unfold left at hl ⊢
  simp only [Array.toList_setIfInBounds]
  omega
def acyB (ops:Array Oper):Bool:=(List.range ops.size).all fun i=>((ops[i]?).map fun o=>o.after.all fun e=>!Region.binds .any e || decide (e.on<i)).getD true
theorem acyB_spec (h:acyB ops=true):∀ (i:Nat) (o:Oper),ops[i]? = some o→∀ e∈o.after,Region.binds .any e=true→e.on<i:=by
 intro i o ho e he hb
 have hi:i<ops.size:=(Array.getElem?_eq_some_iff.1 ho).1
 have h1:=List.all_eq_true.1 h i (by simpa using hi)
 rw [ho] at h1
 simp only [Option.map_some,Option.getD_some] at h1
 have h2:=(Array.all_eq_true'.1 h1) e he
 rw [hb] at h2
 simpa using h2
theorem wp_region_invB {id:Nat} {a:Act} {w:World} (hm:P.follows .mixedOrders=true) (I:(Nat→Bool)→Act→World→Prop)
  (hacy:acyB ops=true)
  (h0:I (fun _=>false) a w.drew)
  (hstep:∀ l a w i o,I l a w→ops[i]? = some o→l i=false→(∀ e∈o.after,Region.binds .any e=true→l e.on=true)→wpOp P ops Q i (I (upd l i)) a w)
  (hdone:∀ l a w,I l a w→(∀ i,i<ops.size→l i=true)→Q .normal a w):(Code.region id ops true).wp P Q a w :=
 wp_region_any hm (wpAny_invB I (acyB_spec hacy) hstep hdone _ _ _ _ (by simp) (left_replicate _) (by
  have:lst14 (Array.replicate ops.size false)=fun _=>false:=by
   funext j
   unfold lst14
   rw [Array.getD_eq_getD_getElem?,Array.getElem?_replicate]
   split <;> rfl
  rw [this];exact h0))
end
end Go.Proofs.YtbohmcfplgdlpaaDoor

/- Letters in memory: the row of their sets, and of each byte the number of its letter; classes appended to a row of parts.
   Conditions: those that each theorem states. -/
namespace Go.Proofs.YtbohmcfplgdlpaaDoor.Lc
open Go.RowKit Go.Shelf
def ltA (sv:Value) (f:Nat→Nat):Array Value:=(sv :: intList f).toArray
theorem ltA_size (sv:Value) (f:Nat→Nat):(ltA sv f).size=257:=by simp [ltA,intList_length]
theorem ltA_one {sv:Value} (h:sv.oneCell'=true) (f:Nat→Nat):(ltA sv f).all (·.oneCell')=true:=by
 refine all_oneCell_toArray fun v hv=>?_
 rcases List.mem_cons.1 hv with rfl | hv
 ·exact h
 ·obtain ⟨i,_,rfl⟩:=List.mem_map.1 hv
  rfl
theorem ltA_get0 (sv:Value) (f:Nat→Nat):(ltA sv f)[0]? = some sv:=by simp [ltA]
theorem ltA_get (sv:Value) (f:Nat→Nat) {i:Nat} (h:i<256):(ltA sv f)[1+i]? = some (.int .i64 (f i:Int)):=by
 rw [ltA,List.getElem?_toArray,Nat.add_comm,List.getElem?_cons_succ,intList_at f i h]
theorem ltA_set0 (sv tv:Value) (f:Nat→Nat):(ltA sv f).setIfInBounds 0 tv=ltA tv f:=by simp [ltA]
theorem ltA_set (sv:Value) (f:Nat→Nat) {b x:Nat}:(ltA sv f).setIfInBounds (1+b) (.int .i64 (x:Int))=ltA sv (fun j=>if j=b then x else f j):=by
 unfold ltA
 rw [List.setIfInBounds_toArray,Nat.add_comm,List.set_cons_succ]
 congr 2
 apply List.ext_getElem?
 intro i
 rw [List.getElem?_set]
 by_cases hi:i<256
 ·rw [intList_at f i hi,intList_at (fun j=>if j=b then x else f j) i hi]
  by_cases e:b=i
  ·subst e
   rw [if_pos rfl,if_pos (by rw [intList_length];exact hi)]
   show some (Value.int .i64 (x:Int))=some (.int .i64 ((if b=b then x else f b:Nat):Int))
   rw [if_pos rfl]
  ·rw [if_neg e]
   show some (Value.int .i64 (f i:Int))=some (.int .i64 ((if i=b then x else f i:Nat):Int))
   rw [if_neg fun h=>e h.symm]
 ·have e1:∀ g,(intList g)[i]? = none:=fun g=>List.getElem?_eq_none (by rw [intList_length];omega)
  rw [e1,e1]
  split
  ·rename_i e
   rw [if_neg (by rw [intList_length];omega)]
  ·rfl
theorem infoLt:(Tryd.prog.info? 44).map (fun i=>(i.zero,i.size))=some (some (.agg (ltA (.slice none 0 0) zeros)),257):=by kernel_rfl
theorem sizeLt:(Tryd.prog.info? 44).map (·.size)=some 257:=by kernel_rfl
def LtrB (w:World) (x:Nat) (sv:Value) (f:Nat→Nat):Prop:=w.heap[x]? = some (.cells (ltA sv f) 44 (0,0))
theorem LtrB.lt {w:World} {x:Nat} {sv:Value} {f:Nat→Nat} (h:LtrB w x sv f):x<w.heap.size:=(Array.getElem?_eq_some_iff.1 h).1
theorem LtrB.sv {w:World} {x:Nat} {sv:Value} {f:Nat→Nat} (h:LtrB w x sv f):w.cell? ⟨x,0,none⟩=some sv:=((row_cells h).1 0).trans (ltA_get0 sv f)
theorem LtrB.of {w:World} {x:Nat} {sv:Value} {f:Nat→Nat} (h:LtrB w x sv f) {i:Nat} (hi:i<256):w.cell? ⟨x,1+i,none⟩=some (.int .i64 (f i:Int)):=((row_cells h).1 (1+i)).trans (ltA_get sv f hi)
theorem LtrB.fz {w:World} {x:Nat} {sv:Value} {f:Nat→Nat} (h:LtrB w x sv f) (j:Nat):w.frozen? ⟨x,j,none⟩=false:=(row_cells h).2 j
theorem LtrB.below {w w':World} {x:Nat} {sv:Value} {f:Nat→Nat} (h:LtrB w x sv f) (hb:Below w.heap.size w w'):LtrB w' x sv f:=(hb.block x h.lt).trans h
theorem LtrB.put0 {w:World} {x:Nat} {sv:Value} {f:Nat→Nat} (h:LtrB w x sv f) (tv:Value):LtrB (w.setCell ⟨x,0,none⟩ tv) x tv f:=by
 have:=heap_setCell_same w x 0 _ _ tv h
 rw [ltA_set0] at this
 exact this
theorem LtrB.put {w:World} {x:Nat} {sv:Value} {f:Nat→Nat} (h:LtrB w x sv f) (b v:Nat):LtrB (w.setCell ⟨x,1+b,none⟩ (.int .i64 (v:Int))) x sv (fun j=>if j=b then v else f j):=by
 have:=heap_setCell_same w x (1+b) _ _ (.int .i64 (v:Int)) h
 rw [ltA_set] at this
 exact this
def clsC (n:Nat) (L:Nat→Nat→Nat):List Value:=(List.range (n * 4)).map fun j=>.int .u64 (L (j / 4) (j % 4):Int)
theorem clsC_len (n:Nat) (L:Nat→Nat→Nat):(clsC n L).length=n * 4:=by simp [clsC]
theorem clsC_at {n:Nat} {L:Nat→Nat→Nat} {j:Nat} (h:j<n * 4):(clsC n L)[j]? = some (.int .u64 (L (j / 4) (j % 4):Int)):=by
 unfold clsC
 rw [List.getElem?_map,List.getElem?_range h]
 rfl
theorem clsC_get {n:Nat} {L:Nat→Nat→Nat} {j:Nat} {u:Value} (h:(clsC n L)[j]? = some u):j<n * 4∧u=.int .u64 (L (j / 4) (j % 4):Int):=by
 have h1:=(List.getElem?_eq_some_iff.1 h).1
 rw [clsC_len] at h1
 rw [clsC_at h1] at h
 exact ⟨h1,(Option.some.inj h).symm⟩
def catL (C:Nat→Nat→Nat) (M:Nat) (S:Nat→Nat→Nat) (t:Nat):Nat→Nat:=if t<M then C t else S (t - M)
theorem ClassRow.cells {w:World} {b off n:Nat} {L:Nat→Nat→Nat} (h:ClassRow w (some ⟨b,off,none⟩) n L) {j:Nat} (hj:j<n * 4):w.cell? ⟨b,off+j,none⟩=some (.int .u64 (L (j / 4) (j % 4):Int)):=by
 obtain ⟨b',off',e,_,hc⟩:=h (by omega)
 simp only [Option.some.injEq,Addr.mk.injEq,and_true] at e
 obtain ⟨rfl,rfl⟩:=e
 have:=hc (j / 4) (by omega) (j % 4) (by omega)
 rwa [show off+j / 4 * 4+j % 4=off+j by omega] at this
theorem infoCls:(Tryd.prog.info? 24).map (fun i=>(i.zero,i.size,i.bytes))=some (some (.agg #[.int .u64 0,.int .u64 0,.int .u64 0,.int .u64 0]),4,32):=by kernel_rfl
theorem add_off (b o i:Nat):(⟨b,o,none⟩ : Addr).add i=⟨b,o+i,none⟩:=by
 unfold Addr.add
 split
 ·rename_i h;subst h;rfl
 ·rfl
theorem run_append_cls (w:World) (g M:Nat) (C:Nat→Nat→Nat) (hM:0<M) (hM2:M≤256) (hP:ClassRow w (some ⟨g,0,none⟩) M C) (b off k c:Nat) (S:Nat→Nat→Nat) (hS:ClassRow w (some ⟨b,off,none⟩) k S) (hk:k≤100000) :
  ∃ A' c' w',(Builtin.append_ #[29,29] 29 #[.slice (some ⟨g,0,none⟩) M M,.slice (some ⟨b,off,none⟩) k c]).run Tryd.prog w=.ok (.slice A' (M+k) c') w'∧M+k≤c'∧ClassRow w' A' (M+k) (catL C M S)∧Below w.heap.size w w':=by
 obtain ⟨i0,hi,hz0,hz1,hz2⟩:=info_parts infoCls
 by_cases h0:k=0
 ·subst h0
  have:=run_append_room_cells (P:=Tryd.prog) w 29 29 24 i0 Tryd.underlying29 hi g 0 M M ⟨b,off,none⟩ 0 c [] (by simp) (fun j u hj=>by cases hj) (fun u hu=>by cases hu) (by omega) (fun j hj=>absurd hj (Nat.not_lt_zero j)) (fun j hj=>absurd hj (Nat.not_lt_zero j))
  refine ⟨_,M,w,this,by omega,fun h0=>?_,Below.refl _ _⟩
  obtain ⟨b1,o1,e1,e2,e3⟩:=hP hM
  refine ⟨b1,o1,e1,e2,fun t ht j hj=>?_⟩
  unfold catL
  rw [if_pos (by omega)]
  exact e3 t (by omega) j hj
 ·obtain ⟨v',w',hrun,hown,hgr⟩:=run_append_arg_grows (P:=Tryd.prog) w 29 29 24 i0 _ 4 32 Tryd.underlying29 hi hz0 hz1 hz2 rfl (by decide) ⟨g,0,none⟩ M M (clsC M C) (clsC_len _ _) (fun j u hj=>by
   obtain ⟨h1,rfl⟩:=clsC_get hj
   rw [add_off]
   exact hP.cells h1) ⟨b,off,none⟩ k c (clsC k S) (clsC_len _ _) (fun j u hj=>by
   obtain ⟨h1,rfl⟩:=clsC_get hj
   rw [add_off]
   exact hS.cells h1) (by omega) (by unfold maxLen;omega) (by omega)
  obtain ⟨g',cap,hv,hcap,hlt⟩:=World.ownsRow.form hown (by omega:0<M+k)
  subst hv
  have hle:M+k≤cap:=by
   rcases hown.2 with h | ⟨_,_,c2,h1,h2,h3,h4,_⟩
   ·omega
   ·simp only [Value.slice.injEq,true_and] at h1
    omega
  refine ⟨_,cap,w',hrun,hle,fun _=>⟨g',0,rfl,(hown.lt g' rfl).2,fun t ht j hj=>?_⟩,⟨hgr.os,hgr.tape,hgr.output,hgr.size,fun q hq=>hgr.block q (by omega) (by simp)⟩⟩
  have hc:=World.ownsRow.cellAt hown (t * 4+j) (by omega)
  rw [Nat.zero_add]
  refine hc.trans ?_
  unfold catL
  by_cases q:t<M
  ·rw [List.getElem?_append_left (by rw [clsC_len];omega),clsC_at (by omega),if_pos q,show (t * 4+j) / 4=t by omega,show (t * 4+j) % 4=j by omega]
  ·rw [List.getElem?_append_right (by rw [clsC_len];omega),clsC_len,clsC_at (by omega),if_neg q,show (t * 4+j - M * 4) / 4=t - M by omega,show (t * 4+j - M * 4) % 4=j by omega]
end Go.Proofs.YtbohmcfplgdlpaaDoor.Lc

/- Letters, as plain values: the relation 'no set of some automata tells them apart', set by set and part by part.
   Conditions: those that each theorem states. -/
namespace Go.Proofs.YtbohmcfplgdlpaaDoor.Lc
open Go.RowKit
def AlR (S:List (Nat→Nat)) (a b:Nat):Bool:=S.all fun C=>hasB C a == hasB C b
theorem alR_iff {S:List (Nat→Nat)} {a b:Nat}:AlR S a b=true↔∀ C∈S,hasB C a=hasB C b:=by
 unfold AlR
 rw [List.all_eq_true]
 exact ⟨fun h C hC=>by simpa using h C hC,fun h C hC=>by simpa using h C hC⟩
theorem alike_AlR (S:List (Nat→Nat)):Alike (AlR S) :=
 ⟨fun _=>alR_iff.2 fun _ _=>rfl,fun _ _ h=>alR_iff.2 fun C hC=>(alR_iff.1 h C hC).symm,fun _ _ _ h k=>alR_iff.2 fun C hC=>(alR_iff.1 h C hC).trans (alR_iff.1 k C hC)⟩
theorem rel_none (L:Nat→Nat→Nat):rel zeros L 0=AlR []:=by
 funext a b
 simp [rel,zeros,mem,AlR]
theorem word_congr {S T:Nat→Bool} {i:Nat}:∀ n,(∀ t,t<n→S (64 * i+t)=T (64 * i+t))→wordOf S i n=wordOf T i n
 | 0,_=>rfl
 | n+1,h=>by
  unfold wordOf
  rw [word_congr n fun t ht=>h t (by omega),h n (by omega)]
theorem partOf_congr {r s:Nat→Nat→Bool} (h:∀ b,b<256→nm r b=nm s b) (q:Nat) {j:Nat} (hj:j<4):partOf r q j=partOf s q j:=by
 unfold partOf canon
 exact word_congr 64 fun t ht=>by rw [h (64 * j+t) (by omega)]
theorem Cl_partOf (r:Nat→Nat→Bool) (q:Nat):Cl (partOf r q):=Cl_canon _
theorem has_partOf (r:Nat→Nat→Bool) (q b:Nat):hasB (partOf r q) b=(nm r b == q):=hasB_canon _ b
theorem ClassRow.congr {w:World} {A:Option Addr} {n:Nat} {L K:Nat→Nat→Nat} (h:ClassRow w A n L) (he:∀ t,t<n→∀ j,j<4→L t j=K t j):ClassRow w A n K:=fun h0=>by
 obtain ⟨b,off,e1,e2,e3⟩:=h h0
 exact ⟨b,off,e1,e2,fun t ht j hj=>by rw [← he t ht j hj];exact e3 t ht j hj⟩
theorem parts_row {w:World} {g M:Nat} {Cs:Nat→Nat→Nat} (h:PartsAt w g M Cs):ClassRow w (some ⟨g,0,none⟩) M Cs:=fun h0 =>
 ⟨g,0,rfl,World.block_lt_of_cell? _ _ (h 0 h0 0 (by decide)),fun t ht j hj=>by rw [Nat.zero_add];exact h t ht j hj⟩
theorem rel_more {S T:List (Nat→Nat)} {k:Nat} (hk:T.length=k) {a b:Nat} (ha:a<256) :
  rel zeros (catL (partOf (AlR S)) (news (AlR S) 256) (fun t=>T.getD t zeros)) (news (AlR S) 256+k) a b=AlR (S ++ T) a b:=by
 have hal:=alike_AlR S
 rw [Bool.eq_iff_iff,rel_iff,alR_iff]
 constructor
 ·intro h
  have h1:AlR S a b=true:=by
   rw [← nm_iff hal]
   have h2:=h (nm (AlR S) a) (by have:=nm_lt hal ha;omega)
   unfold catL at h2
   rw [if_pos (nm_lt hal ha),has_partOf,has_partOf] at h2
   have h3:(nm (AlR S) b == nm (AlR S) a)=true:=by rw [← h2];simp
   exact (by simpa using h3:nm (AlR S) b=nm (AlR S) a).symm
  intro C hC
  rcases List.mem_append.1 hC with hC | hC
  ·exact alR_iff.1 h1 C hC
  ·obtain ⟨t,ht⟩:=List.mem_iff_getElem?.1 hC
   have htl:=(List.getElem?_eq_some_iff.1 ht).1
   have h2:=h (news (AlR S) 256+t) (by omega)
   unfold catL at h2
   rw [if_neg (by omega),show news (AlR S) 256+t - news (AlR S) 256=t by omega] at h2
   have e:T.getD t zeros=C:=by rw [List.getD_eq_getElem?_getD,ht];rfl
   rw [← e]
   exact h2
 ·intro h q hq
  have h1:AlR S a b=true:=alR_iff.2 fun C hC=>h C (List.mem_append_left _ hC)
  unfold catL
  by_cases g:q<news (AlR S) 256
  ·rw [if_pos g,has_partOf,has_partOf,(nm_iff hal a b).2 h1]
  ·rw [if_neg g]
   have ht:q - news (AlR S) 256<T.length:=by omega
   have e:T.getD (q - news (AlR S) 256) zeros=T[q - news (AlR S) 256]:=by rw [List.getD_eq_getElem?_getD,List.getElem?_eq_getElem ht];rfl
   show hasB (T.getD (q - news (AlR S) 256) zeros) a=hasB (T.getD (q - news (AlR S) 256) zeros) b
   rw [e]
   exact h _ (List.mem_append_right _ (List.getElem_mem ht))
set_option maxRecDepth 100000 in
theorem news_more {S T:List (Nat→Nat)} {k:Nat} (hk:T.length=k):news (rel zeros (catL (partOf (AlR S)) (news (AlR S) 256) (fun t=>T.getD t zeros)) (news (AlR S) 256+k)) 256=news (AlR (S ++ T)) 256 :=
 news_congr (alike_rel _ _ _) (alike_AlR _) (n:=256) (fun _ _ ha _=>rel_more hk ha) 256 (Nat.le_refl _)
set_option maxRecDepth 100000 in
theorem nm_more {S T:List (Nat→Nat)} {k:Nat} (hk:T.length=k) {b:Nat} (hb:b<256):nm (rel zeros (catL (partOf (AlR S)) (news (AlR S) 256) (fun t=>T.getD t zeros)) (news (AlR S) 256+k)) b=nm (AlR (S ++ T)) b :=
 nm_congr (alike_rel _ _ _) (alike_AlR _) (n:=256) (fun _ _ ha _=>rel_more hk ha) hb
theorem lst_spec {C:Nat→Nat}:∀ n,(lst C n=none∧∀ b,b<n→hasB C b=false)∨∃ m,lst C n=some m∧m<n∧hasB C m=true∧∀ b,b<m→hasB C b=false
 | 0=>.inl ⟨rfl,fun b hb=>by omega⟩
 | n+1=>by
  rcases lst_spec (C:=C) n with ⟨h1,h2⟩ | ⟨m,h1,h2,h3,h4⟩
  ·by_cases g:hasB C n=true
   ·refine .inr ⟨n,?_,by omega,g,h2⟩
    show (match lst C n with | some x=>some x | none=>if hasB C n then some n else none)=some n
    rw [h1]
    simp [g]
   ·refine .inl ⟨?_,fun b hb=>?_⟩
    ·show (match lst C n with | some x=>some x | none=>if hasB C n then some n else none)=none
     rw [h1]
     simp [g]
    ·by_cases e:b=n
     ·subst e;simpa using g
     ·exact h2 b (by omega)
  ·refine .inr ⟨m,?_,by omega,h3,h4⟩
   show (match lst C n with | some x=>some x | none=>if hasB C n then some n else none)=some m
   rw [h1]
set_option maxRecDepth 100000 in
theorem lst_part {r:Nat→Nat→Bool} (h:Alike r) {b:Nat} (hb:b<256):lst (partOf r (nm r b)) 256=some (fst r b):=by
 have hf:=fst_spec h b
 have hfp:hasB (partOf r (nm r b)) (fst r b)=true:=by rw [has_partOf,nm_eq h hf.2.1];simp
 rcases lst_spec (C:=partOf r (nm r b)) 256 with ⟨_,h2⟩ | ⟨m,h1,h2,h3,h4⟩
 ·rw [h2 (fst r b) (by omega)] at hfp
  cases hfp
 ·rw [h1]
  refine congrArg some ?_
  have hm:r m b=true:=by
   rw [has_partOf] at h3
   exact (nm_iff h m b).1 (by simpa using h3)
  have g1:fst r b≤m:=fst_le h hm
  have g2:¬ fst r b<m:=fun g=>by rw [h4 _ g] at hfp;cases hfp
  omega
def ofN (r:Nat→Nat→Bool) (i j b:Nat):Nat:=if nm r b<i∨(nm r b=i∧b<j) then nm r b else 0
theorem ofN_zero (r:Nat→Nat→Bool) (b:Nat):ofN r 0 0 b=0:=by
 unfold ofN
 rw [if_neg (by omega)]
theorem ofN_row (r:Nat→Nat→Bool) (i:Nat) {b:Nat} (hb:b<256):ofN r i 256 b=ofN r (i+1) 0 b:=by
 unfold ofN
 by_cases h:nm r b<i∨(nm r b=i∧b<256)
 ·rw [if_pos h,if_pos (by omega)]
 ·rw [if_neg h,if_neg (by omega)]
theorem ofN_yes {r:Nat→Nat→Bool} {i j:Nat} (h:nm r j=i) (b:Nat):(if b=j then i else ofN r i j b)=ofN r i (j+1) b:=by
 unfold ofN
 by_cases e:b=j
 ·subst e;rw [if_pos rfl,if_pos (by omega),h]
 ·rw [if_neg e]
  by_cases h:nm r b<i∨(nm r b=i∧b<j)
  ·rw [if_pos h,if_pos (by omega)]
  ·rw [if_neg h,if_neg (by omega)]
theorem ofN_no {r:Nat→Nat→Bool} {i j:Nat} (h:nm r j≠i) (b:Nat):ofN r i j b=ofN r i (j+1) b:=by
 unfold ofN
 by_cases e:b=j
 ·subst e
  by_cases h2:nm r b<i
  ·rw [if_pos (.inl h2),if_pos (.inl h2)]
  ·rw [if_neg (by omega),if_neg (by omega)]
 ·by_cases h:nm r b<i∨(nm r b=i∧b<j)
  ·rw [if_pos h,if_pos (by omega)]
  ·rw [if_neg h,if_neg (by omega)]
theorem ofN_all {r:Nat→Nat→Bool} (h:Alike r) {b:Nat} (hb:b<256):ofN r (news r 256) 0 b=nm r b:=by
 unfold ofN
 rw [if_pos (.inl (nm_lt h hb))]
theorem LtrB.congr {w:World} {x:Nat} {sv:Value} {f g:Nat→Nat} (h:LtrB w x sv f) (he:∀ b,b<256→f b=g b):LtrB w x sv g:=by
 unfold LtrB ltA at h ⊢
 rw [h]
 congr 4
 unfold intList
 exact List.map_congr_left fun i hi=>by rw [he i (by simpa using hi)]
end Go.Proofs.YtbohmcfplgdlpaaDoor.Lc

/- letters.sets and letters.least: the sets of an automaton's positions, a set's least byte: contracts.
   Conditions: those that each theorem states. -/
namespace Go.Proofs.YtbohmcfplgdlpaaDoor.Lc
open Go.RowKit Go.Shelf
theorem cls4_at:∀ (l:List (Nat→Nat)) (i j:Nat) (C:Nat→Nat),j<4→l[i]? = some C→(l.flatMap cls4)[i * 4+j]? = some (.int .u64 (C j:Nat))
 | [],_,_,_,_,h=>by cases h
 | D :: l,0,j,C,hj,h=>by
  obtain rfl:=Option.some.inj h
  rw [List.flatMap_cons,List.getElem?_append_left (by simp [cls4];omega)]
  rcases (by omega:j=0∨j=1∨j=2∨j=3) with rfl | rfl | rfl | rfl <;> rfl
 | D :: l,i+1,j,C,hj,h=>by
  rw [List.flatMap_cons,List.getElem?_append_right (by simp [cls4];omega),show (i+1) * 4+j - (cls4 D).length=i * 4+j by simp [cls4];omega]
  exact cls4_at l i j C hj h
theorem own_cap {w:World} {base:Nat} {e:TypeId} {size n c:Nat} {A:Option Addr} {xs:List Value} (hown:w.ownsRow base e size (.slice A n c) n xs) (hn:0<n):n≤c:=by
 rcases hown.2 with h | ⟨_,_,c2,h1,h2,h3,h4,_⟩
 ·omega
 ·simp only [Value.slice.injEq,true_and] at h1
  omega
theorem row_sets {w:World} {B:Nat} {m:PM} {a:Au} {fl:List Nat} {la:Nat} (h:AuL w B m a fl la):∃ gs,a.sA=some ⟨gs,0,none⟩∧a.n≤a.sC∧∀ off,(a.n=1∨off=4)→ClassRow w (some ⟨gs,off,none⟩) (a.n - 1) (fun t=>m.sets.getD (t+1) zeros):=by
 have hs:=h.lists.sets
 have h1:=h.one
 have hn:=h.sets
 rw [hn] at hs
 obtain ⟨g,cap,hv,_,hg⟩:=World.ownsRow.form hs (by omega)
 simp only [Value.slice.injEq,true_and] at hv
 obtain ⟨e1,e2⟩:=hv
 refine ⟨g,e1,own_cap hs (by omega),fun off ho h0=>⟨g,off,rfl,(hs.lt g (by rw [e1];rfl)).2,fun t ht j hj=>?_⟩⟩
 have ho4:off=4:=by rcases ho with h | h <;> omega
 have hC:m.sets[t+1]? = some (m.sets.getD (t+1) zeros):=by
  rw [List.getD_eq_getElem?_getD,List.getElem?_eq_getElem (by omega)]
  rfl
 rw [show off+t * 4+j=(t+1) * 4+j by omega]
 rw [e1] at hs
 exact (World.ownsRow.cellAt hs ((t+1) * 4+j) (by omega)).trans (cls4_at _ _ _ _ hj hC)
def SetsO (w:World) (n:Nat) (m:PM) (e:Ending) (w':World):Prop:=∃ b off c,e=.returned (.slice (some ⟨b,off,none⟩) (n - 1) c)∧ClassRow w' (some ⟨b,off,none⟩) (n - 1) (fun t=>m.sets.getD (t+1) zeros)∧Below w.heap.size w w'
set_option maxHeartbeats 4000000 in
set_option maxRecDepth 100000 in
theorem sets_any {B:Nat} {m:PM} {a:Au} {fl:List Nat} {la:Nat} (w:World) (h:AuL w B m a fl la) :
  Calls Tryd.prog 16 #[.agg #[.int .i64 a.k,.int .u64 (a.s0:Nat),.int .u64 (a.s1:Nat),.int .u64 (a.s2:Nat),.int .u64 (a.s3:Nat),.slice a.ta a.tn a.tc,.int .i64 a.lo,.int .i64 a.hi,.slice a.sA a.n a.sC,.slice a.cA a.cN a.cC,.slice (some ⟨a.ga,0,none⟩) a.n a.aC,.slice a.fA a.fN a.fC,.slice (some ⟨a.mb,0,none⟩) a.n a.n,.slice (some ⟨a.lb,0,none⟩) a.n a.n,.bool a.em]] w (SetsO w a.n m):=by
 obtain ⟨gs,hA,hc,hrow⟩:=row_sets h
 obtain ⟨w2,hw2,hb2,ha2⟩:=au_box w a
 obtain ⟨z0,z1,z2,z3,z4,z5,z6,z7,z8,z9,z10,z11,z12,z13,z14⟩:=ha2.all
 have HR:=Lib.hid (fun off (ho:a.n=1∨off=4)=>show ClassRow w2 (some ⟨gs,off,none⟩) (a.n - 1) (fun t=>m.sets.getD (t+1) zeros) from (hrow off ho).below hb2)
 have HB:=Lib.hid hb2
 have s1:(1:Int)≤(a.n:Int):=by have:=h.one;omega
 have s0:¬ (a.n:Int)<1:=by omega
 obtain ⟨n,hn⟩ : ∃ n,a.n=n:=⟨_,rfl⟩
 obtain ⟨c,hcc⟩ : ∃ c,a.sC=c:=⟨_,rfl⟩
 have hmin:(if (n:Int)<1 then (n:Int) else 1)=1:=by split <;> omega
 rw [hA] at z8 hw2 ⊢
 rw [hcc] at z8 hw2 hc ⊢
 rw [hn] at z8 z10 z12 z13 hw2 hc s1 s0 HR ⊢
 have s2:(n:Int)≤(c:Int):=by omega
 have s4:(1:Int)≤(c:Int):=by omega
 clear ha2 hrow hb2 h hn hcc hA
 go_enter Tryd.func16,Tryd.ntmps16
 go_upto_region 1 with fail
 clear hw2
 by_cases h1:c=1
 ·subst h1
  have hn1:n=1:=by omega
  subst hn1
  go_wp2_with fail
  go_ret
  exact ⟨gs,0,_,rfl,HR.out 0 (.inl (by first | rfl | trivial)),HB.out⟩
 ·have h2:¬ c≤1:=by omega
  have h3:¬ c - 1=0:=by omega
  go_wp2_with fail
  all_goals
   go_ret
   first
   | exact ⟨gs,4,_,rfl,HR.out 4 (.inr rfl),HB.out⟩
   | (exfalso;omega)
set_option maxHeartbeats 4000000 in
set_option maxRecDepth 100000 in
theorem least_no (w:World) (A:Option Addr) (n c:Nat) (i:Int) (hi:i<0∨(n:Int)≤i) :
  Calls Tryd.prog 20 #[.slice A n c,.int .i64 i] w fun e w'=>e=.returned (.tuple #[.int .u8 0,.bool false])∧Below w.heap.size w w':=by
 go_enter Tryd.func20,Tryd.ntmps20
 by_cases h1:i<0
 ·go_wp2_with fail
  go_ret2
  exact ⟨rfl,Below.refl _ _⟩
 ·have h2:(n:Int)≤i:=by omega
  go_wp2_with fail
  go_ret2
  exact ⟨rfl,Below.refl _ _⟩
set_option maxHeartbeats 4000000 in
set_option maxRecDepth 100000 in
theorem leastS_any (w:World) (b off n c:Nat) (L:Nat→Nat→Nat) (h:ClassRow w (some ⟨b,off,none⟩) n L) (hL:∀ t,Cl (L t)) (i:Nat) (hi:i<n) :
  Calls Tryd.prog 20 #[.slice (some ⟨b,off,none⟩) n c,.int .i64 i] w fun e w'=>e=.returned (.tuple #[.int .u8 ((lst (L i) 256).getD 0:Nat),.bool (lst (L i) 256).isSome])∧Below w.heap.size w w':=by
 have c0:=h.cells (j:=i * 4) (by omega)
 have c1:=h.cells (j:=i * 4+1) (by omega)
 have c2:=h.cells (j:=i * 4+2) (by omega)
 have c3:=h.cells (j:=i * 4+3) (by omega)
 rw [show i * 4 / 4=i by omega,show i * 4 % 4=0 by omega] at c0
 rw [show (i * 4+1) / 4=i by omega,show (i * 4+1) % 4=1 by omega,← Nat.add_assoc] at c1
 rw [show (i * 4+2) / 4=i by omega,show (i * 4+2) % 4=2 by omega,← Nat.add_assoc] at c2
 rw [show (i * 4+3) / 4=i by omega,show (i * 4+3) % 4=3 by omega,← Nat.add_assoc] at c3
 have s1:(0:Int)≤(i:Int):=by omega
 have s2:(i:Int)<(n:Int):=by omega
 have s3:((i:Int)).toNat=i:=by omega
 have s4:¬ (i:Int)<0:=by omega
 have s5:¬ (n:Int)≤(i:Int):=by omega
 have HL:=Lib.hid (least_any (L i) w (hL i))
 clear h
 go_enter Tryd.func20,Tryd.ntmps20
 go_wp2_with fail
 go_at_call 31
 refine HL.out.mono ?_
 rintro e w2 ⟨rfl,hb2⟩
 go_wp2_with fail
 go_ret2
 exact ⟨rfl,hb2⟩
end Go.Proofs.YtbohmcfplgdlpaaDoor.Lc

/- A drawn region of letters.Make: an automaton's sets are appended to the parts, their parts stored.
   Conditions: what it loads lies in memory; the contracts of what it calls. -/
namespace Go.Proofs.YtbohmcfplgdlpaaDoor.Lc
open Go.RowKit
abbrev opsregLm5:Array Oper:=#[{ dst:=some 17,op:=Op.fieldAddr 44 (Operand.tmp 3) 0,type:=0,pos := "letters.go:21",after:=#[],guard:=none },
 { dst:=some 18,op:=Op.load 29 (Operand.tmp 17),type:=29,pos := "letters.go:21",after:=#[{ on:=0,ground:=Ground.data }],guard:=none },
 { dst:=some 19,op:=Op.load 38 (Operand.tmp 5),type:=38,pos := "letters.go:21",after:=#[],guard:=none },
 { dst:=some 20,op:=Op.call { callee:=Callee.value (Operand.func 16),args:=#[Operand.tmp 19],argTypes:=#[38] },type:=29,pos := "letters.go:21",after:=#[{ on:=2,ground:=Ground.data }],guard:=none },
 { dst:=some 21,op:=Op.call { callee:=Callee.builtin Builtin.append,args:=#[Operand.tmp 18,Operand.tmp 20],argTypes:=#[29,29] },type:=29,pos := "letters.go:21",after:=#[{ on:=1,ground:=Ground.data },{ on:=3,ground:=Ground.data },{ on:=3,ground:=Ground.chain }],guard:=none },
 { dst:=some 22,op:=Op.call { callee:=Callee.value (Operand.func 15),args:=#[Operand.tmp 21],argTypes:=#[29] },type:=29,pos := "letters.go:21",after:=#[{ on:=4,ground:=Ground.data },{ on:=4,ground:=Ground.chain }],guard:=none },
 { dst:=some 23,op:=Op.fieldAddr 44 (Operand.tmp 3) 0,type:=0,pos := "letters.go:21",after:=#[{ on:=0,ground:=Ground.phase },{ on:=1,ground:=Ground.phase },{ on:=2,ground:=Ground.phase },{ on:=3,ground:=Ground.phase },{ on:=4,ground:=Ground.phase },{ on:=5,ground:=Ground.phase }],guard:=none },
 { dst:=none,op:=Op.store 29 (Operand.tmp 23) (Operand.tmp 22),type:=0,pos := "letters.go:21",after:=#[{ on:=6,ground:=Ground.data },{ on:=5,ground:=Ground.data },{ on:=5,ground:=Ground.chain },{ on:=0,ground:=Ground.phase },{ on:=1,ground:=Ground.phase },{ on:=2,ground:=Ground.phase },{ on:=3,ground:=Ground.phase },{ on:=4,ground:=Ground.phase },{ on:=5,ground:=Ground.phase }],guard:=none }]
def WregLm5 (ca:Array Value) (ab x:Nat) (sv:Value) (P1 P2 P3:World→Value→Prop) (D:List Deferred) (v0 v1 v2 v4 v6 v7 v8 v9 v10 v11 v12 v13 v14 v15 v16 v24 v25 v26 v27 v28 v29 v30 v31 v32 v33 v34 v35 v36 v37 v38 v39 v40 v41 v42 v43 v44 v45 v46:Value) (w0:World) (l:Nat→Bool) (a:Act) (w:World):Prop :=
 (l 7=false∧∃ (y0 y1 y2 y3 y4 y5 y6:Value),a = { tmps:=#[v0,v1,v2,.pointer (some ⟨x,0,none⟩),v4,.pointer (some ⟨ab,0,none⟩),v6,v7,v8,v9,v10,v11,v12,v13,v14,v15,v16,y0,y1,y2,y3,y4,y5,y6,v24,v25,v26,v27,v28,v29,v30,v31,v32,v33,v34,v35,v36,v37,v38,v39,v40,v41,v42,v43,v44,v45,v46],defers:=D }∧Below w0.heap.size w0 w∧(l 0=true→y0=.pointer (some ⟨x,0,none⟩))∧(l 1=true→y1=sv)∧(l 2=true→y2=.agg ca)∧(l 3=true→P1 w y3)∧(l 4=true→P2 w y4)∧(l 5=true→P3 w y5)∧(l 6=true→y6=.pointer (some ⟨x,0,none⟩))) ∨
 (l 7=true∧(l 0=true∧l 1=true∧l 2=true∧l 3=true∧l 4=true∧l 5=true∧l 6=true)∧∃ (y0 y1 y2 y3 y4 y5 y6:Value) (u:World),a = { tmps:=#[v0,v1,v2,.pointer (some ⟨x,0,none⟩),v4,.pointer (some ⟨ab,0,none⟩),v6,v7,v8,v9,v10,v11,v12,v13,v14,v15,v16,y0,y1,y2,y3,y4,y5,y6,v24,v25,v26,v27,v28,v29,v30,v31,v32,v33,v34,v35,v36,v37,v38,v39,v40,v41,v42,v43,v44,v45,v46],defers:=D }∧w=u.setCell ⟨x,0,none⟩ (y5)∧Below w0.heap.size w0 u∧(l 0=true→y0=.pointer (some ⟨x,0,none⟩))∧(l 1=true→y1=sv)∧(l 2=true→y2=.agg ca)∧(l 3=true→P1 u y3)∧(l 4=true→P2 u y4)∧(l 5=true→P3 u y5)∧(l 6=true→y6=.pointer (some ⟨x,0,none⟩)))
set_option maxHeartbeats 8000000 in
set_option maxRecDepth 100000 in
theorem regLm5 (ca:Array Value) (ab x:Nat) (sv:Value) (P1 P2 P3:World→Value→Prop) (D:List Deferred) (v0 v1 v2 v4 v6 v7 v8 v9 v10 v11 v12 v13 v14 v15 v16 v24 v25 v26 v27 v28 v29 v30 v31 v32 v33 v34 v35 v36 v37 v38 v39 v40 v41 v42 v43 v44 v45 v46 wy0 wy1 wy2 wy3 wy4 wy5 wy6:Value) (w:World) (hA:∀ w',Below w.heap.size w w'→w'.heap[ab]? = some (.cells ca 38 (0,0))) (shA:(Tryd.prog.info? 38).map (·.size)=some ca.size) (hsv:∀ w',Below w.heap.size w w'→w'.cell? ⟨x,0,none⟩=some sv) (hfz:∀ w',Below w.heap.size w w'→w'.frozen? ⟨x,0,none⟩=false) (hP1:(∀ w v w',P1 w v→Below w.heap.size w w'→P1 w' v)) (hP2:(∀ w v w',P2 w v→Below w.heap.size w w'→P2 w' v)) (hP3:(∀ w v w',P3 w v→Below w.heap.size w w'→P3 w' v)) (hc1:∀ w',Below w.heap.size w w'→Calls Tryd.prog 16 #[.agg ca] w' fun e w2=>∃ v,e=.returned v∧P1 w2 v∧Below w'.heap.size w' w2) (hap:∀ w' u,Below w.heap.size w w'→P1 w' u→∃ v w2,(Builtin.append_ #[29,29] 29 #[sv,u]).run Tryd.prog w'=.ok v w2∧P2 w2 v∧Below w'.heap.size w' w2) (hc2:∀ w' u,Below w.heap.size w w'→P2 w' u→Calls Tryd.prog 15 #[u] w' fun e w2=>∃ v,e=.returned v∧P3 w2 v∧Below w'.heap.size w' w2) (h1c:∀ w' u,P3 w' u→∃ A n c,u=.slice A n c) (Q:Exit→Act→World→Prop)
  (hQ:∀ (y0 y1 y2 y3 y4 y5 y6:Value) (w':World),Below w.heap.size w w'→(P3 w' y5)→Q .normal { tmps:=#[v0,v1,v2,.pointer (some ⟨x,0,none⟩),v4,.pointer (some ⟨ab,0,none⟩),v6,v7,v8,v9,v10,v11,v12,v13,v14,v15,v16,y0,y1,y2,y3,y4,y5,y6,v24,v25,v26,v27,v28,v29,v30,v31,v32,v33,v34,v35,v36,v37,v38,v39,v40,v41,v42,v43,v44,v45,v46],defers:=D } (w'.setCell ⟨x,0,none⟩ (y5))) :
  (Code.region 5 opsregLm5 true).wp Tryd.prog Q { tmps:=#[v0,v1,v2,.pointer (some ⟨x,0,none⟩),v4,.pointer (some ⟨ab,0,none⟩),v6,v7,v8,v9,v10,v11,v12,v13,v14,v15,v16,wy0,wy1,wy2,wy3,wy4,wy5,wy6,v24,v25,v26,v27,v28,v29,v30,v31,v32,v33,v34,v35,v36,v37,v38,v39,v40,v41,v42,v43,v44,v45,v46],defers:=D } w:=by
 refine wp_region_invB (by kernel_rfl) (WregLm5 ca ab x sv P1 P2 P3 D v0 v1 v2 v4 v6 v7 v8 v9 v10 v11 v12 v13 v14 v15 v16 v24 v25 v26 v27 v28 v29 v30 v31 v32 v33 v34 v35 v36 v37 v38 v39 v40 v41 v42 v43 v44 v45 v46 w) ?hacy ?h0 ?hstep ?hdone
 case hacy=>kernel_rfl
 case h0=>exact .inl ⟨rfl,wy0,wy1,wy2,wy3,wy4,wy5,wy6,rfl,below_drewN (Below.refl _ _) 1,(fun p=>by cases p),(fun p=>by cases p),(fun p=>by cases p),(fun p=>by cases p),(fun p=>by cases p),(fun p=>by cases p),(fun p=>by cases p)⟩
 case hdone =>
  intro l a w1 hI hall
  rcases hI with ⟨hf,_⟩ | ⟨_,_,y0,y1,y2,y3,y4,y5,y6,u,rfl,rfl,hb,h0,h1,h2,h3,h4,h5,h6⟩
  ·rw [hall 7 (by decide)] at hf;cases hf
  ·exact hQ _ _ _ _ _ _ _ _ hb (h5 (hall 5 (by decide)))
 case hstep =>
  intro l a w1 i o hI ho hl hall
  have hi:i<8:=(Array.getElem?_eq_some_iff.1 ho).1
  rcases hI with ⟨hf,y0,y1,y2,y3,y4,y5,y6,rfl,hb,h0,h1,h2,h3,h4,h5,h6⟩ | ⟨ht,hd,y0,y1,y2,y3,y4,y5,y6,u,rfl,hw,hb,h0,h1,h2,h3,h4,h5,h6⟩
  ·match i,hi with
   | 0,_ =>
    have ho':=ho
    simp [opsregLm5] at ho
    subst ho
    refine wpOp_one ho' rfl fun K hK=>?_
    go_simp
    exact hK _ _ (.inl ⟨(by unfold upd;rw [if_neg (by decide)];exact hf),_,y1,y2,y3,y4,y5,y6,rfl,hb,fun _=>(by first | rfl | simp),h1,h2,h3,h4,h5,h6⟩)
   | 1,_ =>
    have ho':=ho
    simp [opsregLm5] at ho
    subst ho
    obtain rfl:=h0 (hall ⟨0,.data⟩ (by simp) rfl)
    refine wpOp_one ho' rfl fun K hK=>?_
    have hc0:=hsv w1 hb
    go_simp
    exact hK _ _ (.inl ⟨(by unfold upd;rw [if_neg (by decide)];exact hf),_,_,y2,y3,y4,y5,y6,rfl,hb,fun _=>rfl,fun _=>(by first | rfl | simp),h2,h3,h4,h5,h6⟩)
   | 2,_ =>
    have ho':=ho
    simp [opsregLm5] at ho
    subst ho
    refine wpOp_one ho' rfl fun K hK=>?_
    refine wp_load_row 38 (.tmp 5) rfl ab rfl 38 ca (0,0) _ (hA w1 hb) Tryd.underlying38 rfl shA ?_
    exact hK _ _ (.inl ⟨(by unfold upd;rw [if_neg (by decide)];exact hf),y0,y1,_,y3,y4,y5,y6,rfl,hb,h0,h1,fun _=>(by first | rfl | simp),h3,h4,h5,h6⟩)
   | 3,_ =>
    have ho':=ho
    simp [opsregLm5] at ho
    subst ho
    obtain rfl:=h2 (hall ⟨2,.data⟩ (by simp) rfl)
    refine wpOp_one ho' rfl fun K hK=>?_
    go_simp
    go_at_call 16
    refine (hc1 _ hb).mono ?_
    rintro e w2 ⟨rv,rfl,hp2,hb2⟩
    exact hK _ _ (.inl ⟨(by unfold upd;rw [if_neg (by decide)];exact hf),y0,y1,_,_,y4,y5,y6,rfl,(hb.trans (hb2.mono hb.size)),h0,h1,fun _=>rfl,fun _=>hp2,fun q=>hP2 _ _ _ (h4 q) hb2,fun q=>hP3 _ _ _ (h5 q) hb2,h6⟩)
   | 4,_ =>
    have ho':=ho
    simp [opsregLm5] at ho
    subst ho
    obtain rfl:=h1 (hall ⟨1,.data⟩ (by simp) rfl)
    have p3:=h3 (hall ⟨3,.data⟩ (by simp) rfl)
    refine wpOp_one ho' rfl fun K hK=>?_
    obtain ⟨rv,w2,hrun,hp2,hb2⟩:=hap _ _ hb p3
    unfold Oper.wp
    simp [execOp,resolve,invoke,builtin,Act.eval,hrun,Result.andThen]
    exact hK _ _ (.inl ⟨(by unfold upd;rw [if_neg (by decide)];exact hf),y0,_,y2,y3,_,y5,y6,rfl,(hb.trans (hb2.mono hb.size)),h0,fun _=>rfl,h2,fun q=>hP1 _ _ _ (h3 q) hb2,fun _=>hp2,fun q=>hP3 _ _ _ (h5 q) hb2,h6⟩)
   | 5,_ =>
    have ho':=ho
    simp [opsregLm5] at ho
    subst ho
    have p4:=h4 (hall ⟨4,.data⟩ (by simp) rfl)
    refine wpOp_one ho' rfl fun K hK=>?_
    go_simp
    go_at_call 15
    refine (hc2 _ _ hb p4).mono ?_
    rintro e w2 ⟨rv,rfl,hp2,hb2⟩
    exact hK _ _ (.inl ⟨(by unfold upd;rw [if_neg (by decide)];exact hf),y0,y1,y2,y3,y4,_,y6,rfl,(hb.trans (hb2.mono hb.size)),h0,h1,h2,fun q=>hP1 _ _ _ (h3 q) hb2,fun q=>hP2 _ _ _ (h4 q) hb2,fun _=>hp2,h6⟩)
   | 6,_ =>
    have ho':=ho
    simp [opsregLm5] at ho
    subst ho
    refine wpOp_one ho' rfl fun K hK=>?_
    go_simp
    exact hK _ _ (.inl ⟨(by unfold upd;rw [if_neg (by decide)];exact hf),y0,y1,y2,y3,y4,y5,_,rfl,hb,h0,h1,h2,h3,h4,h5,fun _=>(by first | rfl | simp)⟩)
   | 7,_ =>
    have ho':=ho
    simp [opsregLm5] at ho
    subst ho
    have p5:=h5 (hall ⟨5,.data⟩ (by simp) rfl)
    obtain rfl:=h6 (hall ⟨6,.data⟩ (by simp) rfl)
    refine wpOp_one ho' rfl fun K hK=>?_
    have hc0:=hsv w1 hb
    have hc9:=hfz w1 hb
    obtain ⟨sA,sn,sc,rfl⟩:=h1c _ _ p5
    go_simp
    exact hK _ _ (.inr ⟨by simp [upd],⟨hall ⟨0,.phase⟩ (by simp) rfl,hall ⟨1,.phase⟩ (by simp) rfl,hall ⟨2,.phase⟩ (by simp) rfl,hall ⟨3,.phase⟩ (by simp) rfl,hall ⟨4,.phase⟩ (by simp) rfl,hall ⟨5,.data⟩ (by simp) rfl,hall ⟨6,.data⟩ (by simp) rfl⟩,y0,y1,y2,y3,y4,_,_,w1,rfl,rfl,hb,h0,h1,h2,h3,h4,h5,fun _=>rfl⟩)
   | k+8,hi=>omega
  ·subst hw
   obtain ⟨d0,d1,d2,d3,d4,d5,d6⟩:=hd
   match i,hi with
   | 0,_=>rw [d0] at hl;cases hl
   | 1,_=>rw [d1] at hl;cases hl
   | 2,_=>rw [d2] at hl;cases hl
   | 3,_=>rw [d3] at hl;cases hl
   | 4,_=>rw [d4] at hl;cases hl
   | 5,_=>rw [d5] at hl;cases hl
   | 6,_=>rw [d6] at hl;cases hl
   | 7,_=>rw [ht] at hl;cases hl
   | k+8,hi=>omega
end Go.Proofs.YtbohmcfplgdlpaaDoor.Lc

/- letters.Make: the letters of some automata are the parts of all their positions' sets, and each byte has its own: a contract.
   Conditions: the automata lie in a row of memory, each one's map and rows too. -/
namespace Go.Proofs.YtbohmcfplgdlpaaDoor.Lc
open Go.RowKit Go.Shelf
def auC (a:Au):List Value:=[.int .i64 a.k,.int .u64 (a.s0:Nat),.int .u64 (a.s1:Nat),.int .u64 (a.s2:Nat),.int .u64 (a.s3:Nat),.slice a.ta a.tn a.tc,.int .i64 a.lo,.int .i64 a.hi,.slice a.sA a.n a.sC,.slice a.cA a.cN a.cC,.slice (some ⟨a.ga,0,none⟩) a.n a.aC,.slice a.fA a.fN a.fC,.slice (some ⟨a.mb,0,none⟩) a.n a.n,.slice (some ⟨a.lb,0,none⟩) a.n a.n,.bool a.em]
def AusR (w:World) (A:Option Addr) (xs:List (Au×PM)):Prop:=∀ (i:Nat) (x:Au×PM),xs[i]? = some x→∃ g,A=some ⟨g,0,none⟩∧g<w.heap.size∧w.rangeAt g (i * 15) (auC x.1)∧(∀ C∈x.2.sets,Cl C)∧∃ B fl la,AuL w B x.2 x.1 fl la
theorem AusR.below {w w':World} {A:Option Addr} {xs:List (Au×PM)} (h:AusR w A xs) (hb:Below w.heap.size w w'):AusR w' A xs:=fun i x hx=>by
 obtain ⟨g,h1,h2,h3,h5,B,fl,la,h4⟩:=h i x hx
 exact ⟨g,h1,Nat.lt_of_lt_of_le h2 hb.size,fun j v hv=>(hb.cell (p:=⟨g,_,none⟩) h2).trans (h3 j v hv),h5,B,fl,la,h4.below hb⟩
def setsL (xs:List (Au×PM)):List (Nat→Nat):=xs.flatMap fun x=>x.2.sets.drop 1
def MkI (w1:World) (x:Nat) (xs:List (Au×PM)) (k:Nat) (wr:World):Prop:=∃ g,LtrB wr x (.slice (some ⟨g,0,none⟩) (news (AlR (setsL (xs.take k))) 256) (news (AlR (setsL (xs.take k))) 256)) zeros∧ClassRow wr (some ⟨g,0,none⟩) (news (AlR (setsL (xs.take k))) 256) (partOf (AlR (setsL (xs.take k))))∧Chg (fun q=>q=x) w1 wr
theorem setsL_take {xs:List (Au×PM)} {k:Nat} {a:Au} {m:PM} (h:xs[k]? = some (a,m)):setsL (xs.take (k+1))=setsL (xs.take k) ++ m.sets.drop 1:=by
 unfold setsL
 rw [List.take_add_one,h]
 simp
theorem mk_step {w3 wm w9:World} {x k kk g g9:Nat} {xs:List (Au×PM)} {a:Au} {m:PM} (hx:xs[k]? = some (a,m)) (hk:m.sets.length=kk+1) (h4:LtrB wm x (.slice (some ⟨g,0,none⟩) (news (AlR (setsL (xs.take k))) 256) (news (AlR (setsL (xs.take k))) 256)) zeros) (hc4:Chg (fun q=>q=x) w3 wm) (hb:Below wm.heap.size wm w9) (hg9:wm.heap.size≤g9)
  (hp9:PartsAt w9 g9 (news (rel zeros (catL (partOf (AlR (setsL (xs.take k)))) (news (AlR (setsL (xs.take k))) 256) (fun t=>m.sets.getD (t+1) zeros)) (news (AlR (setsL (xs.take k))) 256+kk)) 256) (partOf (rel zeros (catL (partOf (AlR (setsL (xs.take k)))) (news (AlR (setsL (xs.take k))) 256) (fun t=>m.sets.getD (t+1) zeros)) (news (AlR (setsL (xs.take k))) 256+kk)))) :
  MkI w3 x xs (k+1) (w9.setCell ⟨x,0,none⟩ (.slice (some ⟨g9,0,none⟩) (news (rel zeros (catL (partOf (AlR (setsL (xs.take k)))) (news (AlR (setsL (xs.take k))) 256) (fun t=>m.sets.getD (t+1) zeros)) (news (AlR (setsL (xs.take k))) 256+kk)) 256) (news (rel zeros (catL (partOf (AlR (setsL (xs.take k)))) (news (AlR (setsL (xs.take k))) 256) (fun t=>m.sets.getD (t+1) zeros)) (news (AlR (setsL (xs.take k))) 256+kk)) 256))):=by
 have hT:(m.sets.drop 1).length=kk:=by rw [List.length_drop,hk];omega
 have hS:(fun t=>m.sets.getD (t+1) zeros)=fun t=>(m.sets.drop 1).getD t zeros:=by
  funext t
  rw [List.getD_eq_getElem?_getD,List.getD_eq_getElem?_getD,List.getElem?_drop,Nat.add_comm]
 rw [hS] at hp9 ⊢
 have hn:=news_more (S:=setsL (xs.take k)) hT
 have hm:∀ b,b<256→nm (rel zeros (catL (partOf (AlR (setsL (xs.take k)))) (news (AlR (setsL (xs.take k))) 256) (fun t=>(m.sets.drop 1).getD t zeros)) (news (AlR (setsL (xs.take k))) 256+kk)) b=nm (AlR (setsL (xs.take k) ++ m.sets.drop 1)) b:=fun b hb=>nm_more hT hb
 have hxm:x<wm.heap.size:=h4.lt
 have hrow:=(parts_row hp9).congr fun t _ j hj=>partOf_congr hm t hj
 generalize rel zeros (catL (partOf (AlR (setsL (xs.take k)))) (news (AlR (setsL (xs.take k))) 256) (fun t=>(m.sets.drop 1).getD t zeros)) (news (AlR (setsL (xs.take k))) 256+kk)=r9 at *
 refine ⟨g9,?_,?_,?_⟩
 ·rw [setsL_take hx,← hn]
  exact (h4.below hb).put0 _
 ·rw [setsL_take hx,← hn]
  intro h0
  obtain ⟨b,off,e1,e2,e3⟩:=hrow h0
  simp only [Option.some.injEq,Addr.mk.injEq,and_true] at e1
  obtain ⟨rfl,rfl⟩:=e1
  exact ⟨g9,0,rfl,by simpa using e2,fun t ht j hj=>(World.cell?_of_block (a:=⟨g9,0+t * 4+j,none⟩) (Below.heap_setCell w9 ⟨x,0,none⟩ _ _ (by show g9≠x;omega))).trans (e3 t ht j hj)⟩
 ·exact (hc4.trans (Chg.of_below hb) fun q _ e=>e).setCell (p:=⟨x,0,none⟩) (fun _=>rfl) _
theorem cl_zero:Cl zeros:=fun i=>by unfold zeros;omega
def MakeO (w:World) (r:Nat→Nat→Bool) (e:Ending) (w':World):Prop:=∃ g,e=.returned (.agg (ltA (.slice (some ⟨g,0,none⟩) (news r 256) (news r 256)) (nm r)))∧ClassRow w' (some ⟨g,0,none⟩) (news r 256) (partOf r)∧Below w.heap.size w w'
def P1 (kk:Nat) (m:PM) (W:World) (v:Value):Prop:=∃ b off c,v=.slice (some ⟨b,off,none⟩) kk c∧ClassRow W (some ⟨b,off,none⟩) kk (fun t=>m.sets.getD (t+1) zeros)
def P2 (r:Nat→Nat→Bool) (M kk:Nat) (m:PM) (W:World) (v:Value):Prop:=∃ A c,v=.slice A (M+kk) c∧M+kk≤c∧ClassRow W A (M+kk) (catL (partOf r) M (fun t=>m.sets.getD (t+1) zeros))
def P3 (H:Nat) (r:Nat→Nat→Bool) (M kk:Nat) (m:PM) (W:World) (v:Value):Prop:=∃ g9,v=.slice (some ⟨g9,0,none⟩) (news (rel zeros (catL (partOf r) M (fun t=>m.sets.getD (t+1) zeros)) (M+kk)) 256) (news (rel zeros (catL (partOf r) M (fun t=>m.sets.getD (t+1) zeros)) (M+kk)) 256)∧H≤g9∧PartsAt W g9 (news (rel zeros (catL (partOf r) M (fun t=>m.sets.getD (t+1) zeros)) (M+kk)) 256) (partOf (rel zeros (catL (partOf r) M (fun t=>m.sets.getD (t+1) zeros)) (M+kk)))
theorem P1.keep {kk:Nat} {m:PM} {W W':World} {v:Value} (h:P1 kk m W v) (hb:Below W.heap.size W W'):P1 kk m W' v:=by
 obtain ⟨b,off,c,e,h⟩:=h
 exact ⟨b,off,c,e,h.below hb⟩
theorem P2.keep {r:Nat→Nat→Bool} {M kk:Nat} {m:PM} {W W':World} {v:Value} (h:P2 r M kk m W v) (hb:Below W.heap.size W W'):P2 r M kk m W' v:=by
 obtain ⟨A,c,e,h1,h⟩:=h
 exact ⟨A,c,e,h1,h.below hb⟩
theorem P3.keep {H:Nat} {r:Nat→Nat→Bool} {M kk:Nat} {m:PM} {W W':World} {v:Value} (h:P3 H r M kk m W v) (hb:Below W.heap.size W W'):P3 H r M kk m W' v:=by
 obtain ⟨g9,e,h1,h⟩:=h
 exact ⟨g9,e,h1,fun q hq j hj=>(hb.cell (p:=⟨g9,_,none⟩) (World.block_lt_of_cell? _ _ (h q hq j hj))).trans (h q hq j hj)⟩
set_option maxHeartbeats 8000000 in
set_option maxRecDepth 100000 in
theorem make_any (w:World) (A:Option Addr) (xs:List (Au×PM)) (cap:Nat) (h:AusR w A xs) (hn:xs.length≤1000) :
  Calls Tryd.prog 6 #[.slice A xs.length cap] w (MakeO w (AlR (setsL xs))):=by
 have hzero:=(zero_of_info infoLt).1
 obtain ⟨c0,hc0⟩ : ∃ c0,c0=ltA (.slice none 0 0) zeros:=⟨_,rfl⟩
 rw [← hc0] at hzero
 have HC0:=Lib.hid hc0
 have HA:=Lib.hid h
 obtain ⟨n,hnn⟩ : ∃ n,n=xs.length:=⟨_,rfl⟩
 have HN:=Lib.hid (And.intro hnn hn)
 rw [← hnn]
 have HP0:=Lib.hid (fun (W:World)=>parts_any none 0 0 (fun _=>zeros) W (fun h=>absurd h (Nat.lt_irrefl 0)) (fun _=>cl_zero) (by omega) (Nat.le_refl 0))
 clear hc0 h hn hnn
 go_enter Tryd.func6,Tryd.ntmps6
 go_upto_region 1 with fail
 obtain ⟨w1,hw1⟩ : ∃ w1,w1=w.alloc (.cells c0 44):=⟨_,rfl⟩
 have hb1:Below w.heap.size w w1:=by rw [hw1];exact (Below.refl _ _).alloc (Nat.le_refl _) _
 have hr1:w1.heap[w.heap.size]? = some (.cells c0 44 (0,0)):=by rw [hw1];exact heap_alloc_new w _
 have H1:=Lib.hid (And.intro hb1 hr1)
 rw [← hw1]
 clear hw1 hb1 hr1
 go_wp2_with fail
 go_at_call 15
 refine (HP0.out w1).mono ?_
 rintro e w2 ⟨g0,rfl,hg0,hp0,hb2⟩
 rw [rel_none] at hp0 ⊢
 obtain ⟨M0,hM0⟩ : ∃ M,M=news (AlR []) 256:=⟨_,rfl⟩
 rw [← hM0] at hp0 ⊢
 obtain ⟨w3,hw3⟩ : ∃ w3,w3=w2.alloc (.cells (ltA (.slice (some ⟨g0,0,none⟩) M0 M0) zeros) 44):=⟨_,rfl⟩
 have hb3:Below w2.heap.size w2 w3:=by rw [hw3];exact (Below.refl _ _).alloc (Nat.le_refl _) _
 have hx3:LtrB w3 w2.heap.size (.slice (some ⟨g0,0,none⟩) M0 M0) zeros:=by rw [hw3];exact heap_alloc_new w2 _
 have HWE:=Lib.hid hw3
 obtain ⟨x,hx⟩ : ∃ x,x=w2.heap.size:=⟨_,rfl⟩
 have H3:=Lib.hid (And.intro (bhop H1.out.1 (bhop hb2 hb3)) (And.intro ((bhop hb2 hb3).block _ (Array.getElem?_eq_some_iff.1 H1.out.2).1 |>.trans H1.out.2) (And.intro (show w.heap.size<x by rw [hx];have:=(Array.getElem?_eq_some_iff.1 H1.out.2).1;have:=hb2.size;omega) (show MkI w3 x xs 0 w3 from by
  refine ⟨g0,?_,?_,Chg.refl _ _⟩
  ·show LtrB w3 x (.slice (some ⟨g0,0,none⟩) (news (AlR []) 256) (news (AlR []) 256)) zeros
   rw [← hM0,hx]
   exact hx3
  ·show ClassRow w3 (some ⟨g0,0,none⟩) (news (AlR []) 256) (partOf (AlR []))
   rw [← hM0]
   exact (parts_row hp0).below hb3))))
 have hs1:(ltA (.slice (some ⟨g0,0,none⟩) M0 M0) zeros).size=257:=ltA_size _ _
 have hs2:(ltA (.slice (some ⟨g0,0,none⟩) M0 M0) zeros).all (·.oneCell')=true:=ltA_one rfl _
 have hs0:c0.size=257:=by rw [HC0.out];exact ltA_size _ _
 obtain ⟨c1,hc1⟩ : ∃ c1,c1=ltA (.slice (some ⟨g0,0,none⟩) M0 M0) zeros:=⟨_,rfl⟩
 rw [← hc1] at hs1 hs2 HWE
 have HC1:=Lib.hid hc1
 clear hw3 hb3 hx3 hg0 hp0 hb2 hM0 hc1
 go_upto_region 2 with (first | (refine wpList_buildTo (by rfl) 44 #[(0,Operand.tmp 9)] (by rfl) (some 10) (by rfl) (ltA (.slice (some ⟨g0,0,none⟩) M0 M0) zeros) (by kernel_rfl) ?_;rw [← HC1.out]) | (refine wpList_store_row (by rfl) 44 (.tmp 3) (.tmp 10) (by rfl) w2.heap.size c1 (by rfl) (by rfl) 44 c0 (heap_alloc_new w2 _) (by rw [hs1];exact sizeLt) (by rw [hs0,hs1]) hs2 ?_;rw [World.setRow_alloc_new]))
 rw [← HWE.out,← hx]
 clear hx HWE hs0 hs1 hs2 HC1
 go_upto_region 3 with fail
 go_wp2_with fail
 go_loopw [13] (fun z wr=>∃ k:Nat,z=.int .i64 k∧k≤n∧MkI w3 x xs k wr) (fun z _=>match z with | .int _ z=>n - z.toNat | _=>0)
 case atStart=>exact ⟨0,rfl,Nat.zero_le _,H3.out.2.2.2⟩
 case round =>
  obtain ⟨k,rfl,hk1,g,hx4,hr4,hc4⟩:=hrel
  obtain ⟨wm,hwm⟩ : ∃ wm,wm=wr:=⟨_,rfl⟩
  subst hwm
  have s1:(0:Int)≤(k:Int):=by omega
  have s3:((k:Int)).toNat=k:=by omega
  have wk:IntKind.i64.wrap ((k:Int)+1)=(k:Int)+1:=by have:=HN.out;rw [IntKind.wrap_i64];omega
  by_cases g5:k<n
  ·have s2:(k:Int)<(n:Int):=by omega
   obtain ⟨⟨a,m⟩,hxk⟩ : ∃ y,xs[k]? = some y:=⟨_,List.getElem?_eq_getElem (by have:=HN.out.1;omega)⟩
   have hbm:Below w.heap.size w wm:=H3.out.1.trans (hc4.below H3.out.1.size fun q hq e=>by have:=H3.out.2.2.1;omega)
   obtain ⟨ga,hgA,hgl,hrange,hCl,B,fl,la,hau0⟩:=(HA.out.below hbm) k _ hxk
   have hau:AuL wm B m a fl la:=hau0
   clear hau0
   obtain ⟨w5,hw5,hb5,ha5⟩:=au_box wm a
   have hx5:=hx4.below hb5
   have sv5:=hx5.sv
   have fz5:=hx5.fz 0
   have hr5:=hr4.below hb5
   have hau5:=hau.below hb5
   have hxl3:x<w3.heap.size:=by obtain ⟨_,h0,_⟩:=H3.out.2.2.2;exact h0.lt
   obtain ⟨M,hM⟩ : ∃ M,M=news (AlR (setsL (xs.take k))) 256:=⟨_,rfl⟩
   have hM0:0<M:=by rw [hM];exact news_pos (alike_AlR _)
   have hM2:M≤256:=by rw [hM];exact news_le 256
   obtain ⟨kk,hkk⟩ : ∃ kk,kk=a.n - 1:=⟨_,rfl⟩
   have hk40:kk≤40:=by have:=hau.most;omega
   have hms:m.sets.length=kk+1:=by have:=hau.sets;have:=hau.one;omega
   have HST:=Lib.hid (sets_any w5.drew (hau5.below (Below.refl _ _).drew))
   have HKK:=Lib.hid hkk
   have HR:=Lib.hid (And.intro hxk (And.intro hms (And.intro hxl3 (And.intro hx4 (And.intro hc4 (And.intro hb5 hM))))))
   rw [← hM] at hr5 sv5
   have HR5:=Lib.hid hr5
   have hCl2:∀ t,Cl (catL (partOf (AlR (setsL (xs.take k)))) M (fun t=>m.sets.getD (t+1) zeros) t):=fun t=>by
    unfold catL
    split
    ·exact Cl_partOf _ _
    ·show Cl (m.sets.getD (t - M+1) zeros)
     rw [List.getD_eq_getElem?_getD]
     cases e:m.sets[t - M+1]? with
     | none=>exact cl_zero
     | some C=>exact hCl C (List.mem_of_getElem? e)
   have HCL:=Lib.hid hCl2
   have hA5:=ha5.blk
   have hszA:(Tryd.prog.info? 38).map (·.size)=some (auC a).length:=by kernel_rfl
   have hra:wm.rangeAt ga (k * 15) [.int .i64 a.k,.int .u64 (a.s0:Nat),.int .u64 (a.s1:Nat),.int .u64 (a.s2:Nat),.int .u64 (a.s3:Nat),.slice a.ta a.tn a.tc,.int .i64 a.lo,.int .i64 a.hi,.slice a.sA a.n a.sC,.slice a.cA a.cN a.cC,.slice (some ⟨a.ga,0,none⟩) a.n a.aC,.slice a.fA a.fN a.fC,.slice (some ⟨a.mb,0,none⟩) a.n a.n,.slice (some ⟨a.lb,0,none⟩) a.n a.n,.bool a.em]:=hrange
   have HC:=Lib.hid (fun (W:World) (h:Below w5.heap.size w5 W)=>show Calls Tryd.prog 16 #[.agg #[.int .i64 a.k,.int .u64 (a.s0:Nat),.int .u64 (a.s1:Nat),.int .u64 (a.s2:Nat),.int .u64 (a.s3:Nat),.slice a.ta a.tn a.tc,.int .i64 a.lo,.int .i64 a.hi,.slice a.sA a.n a.sC,.slice a.cA a.cN a.cC,.slice (some ⟨a.ga,0,none⟩) a.n a.aC,.slice a.fA a.fN a.fC,.slice (some ⟨a.mb,0,none⟩) a.n a.n,.slice (some ⟨a.lb,0,none⟩) a.n a.n,.bool a.em]] W (fun e w2=>∃ v,e=.returned v∧P1 kk m w2 v∧Below W.heap.size W w2) from
    (sets_any W (hau5.below h)).mono fun e w2 ⟨b,off,c,e1,e2,e3⟩=>⟨_,e1,⟨b,off,c,by rw [← HKK.out],by rw [HKK.out];exact e2⟩,e3⟩)
   have HAP:=Lib.hid (fun (W:World) (u:Value) (h:Below w5.heap.size w5 W) (hp:P1 kk m W u)=>show ∃ v w2,(Builtin.append_ #[29,29] 29 #[.slice (some ⟨g,0,none⟩) M M,u]).run Tryd.prog W=.ok v w2∧P2 (AlR (setsL (xs.take k))) M kk m w2 v∧Below W.heap.size W w2 from by
    obtain ⟨b,off,c,rfl,hS⟩:=hp
    obtain ⟨A',c',w2,h1,h2,h3,h4⟩:=run_append_cls W g M (partOf (AlR (setsL (xs.take k)))) hM0 hM2 (HR5.out.below h) b off kk c (fun t=>m.sets.getD (t+1) zeros) hS (by omega)
    exact ⟨_,w2,h1,⟨A',c',rfl,h2,h3⟩,h4⟩)
   have HPA:=Lib.hid (fun (W:World) (u:Value) (h:Below w5.heap.size w5 W) (hp:P2 (AlR (setsL (xs.take k))) M kk m W u)=>show Calls Tryd.prog 15 #[u] W (fun e w2=>∃ v,e=.returned v∧P3 w5.heap.size (AlR (setsL (xs.take k))) M kk m w2 v∧Below W.heap.size W w2) from by
    obtain ⟨A',c',rfl,h2,h3⟩:=hp
    exact (parts_any A' (M+kk) c' _ W h3 HCL.out (by omega) h2).mono fun e w2 ⟨g9,e1,e2,e3,e4⟩=>⟨_,e1,⟨g9,rfl,Nat.le_trans h.size e2,e3⟩,e4⟩)
   have HX5:=Lib.hid (fun (W:World) (h:Below w5.heap.size w5 W)=>show W.heap[wm.heap.size]? = some (.cells #[.int .i64 a.k,.int .u64 (a.s0:Nat),.int .u64 (a.s1:Nat),.int .u64 (a.s2:Nat),.int .u64 (a.s3:Nat),.slice a.ta a.tn a.tc,.int .i64 a.lo,.int .i64 a.hi,.slice a.sA a.n a.sC,.slice a.cA a.cN a.cC,.slice (some ⟨a.ga,0,none⟩) a.n a.aC,.slice a.fA a.fN a.fC,.slice (some ⟨a.mb,0,none⟩) a.n a.n,.slice (some ⟨a.lb,0,none⟩) a.n a.n,.bool a.em] 38 (0,0))∧W.cell? ⟨x,0,none⟩=some (.slice (some ⟨g,0,none⟩) M M)∧W.frozen? ⟨x,0,none⟩=false from ⟨(h.block _ (Array.getElem?_eq_some_iff.1 hA5).1).trans hA5,(h.cell (p:=⟨x,0,none⟩) hx5.lt).trans sv5,(hx5.below h).fz 0⟩)
   subst hgA
   clear hk1 hx4 hr4 hc4 hxk hbm hrange hCl hau hb5 ha5 hx5 hr5 hau5 hxl3 hM hkk hms hCl2 sv5 fz5 hA5
   go_upto_region 5 with (refine wpList_load_mid (by rfl) 38 (.tmp 15) (by rfl) ga (k * 15) (by rfl) [.int .i64 a.k,.int .u64 (a.s0:Nat),.int .u64 (a.s1:Nat),.int .u64 (a.s2:Nat),.int .u64 (a.s3:Nat),.slice a.ta a.tn a.tc,.int .i64 a.lo,.int .i64 a.hi,.slice a.sA a.n a.sC,.slice a.cA a.cN a.cC,.slice (some ⟨a.ga,0,none⟩) a.n a.aC,.slice a.fA a.fN a.fC,.slice (some ⟨a.mb,0,none⟩) a.n a.n,.slice (some ⟨a.lb,0,none⟩) a.n a.n,.bool a.em] _ hra Tryd.underlying38 rfl hszA ?_)
   clear hw5 hra hszA
   refine regLm5 #[.int .i64 a.k,.int .u64 (a.s0:Nat),.int .u64 (a.s1:Nat),.int .u64 (a.s2:Nat),.int .u64 (a.s3:Nat),.slice a.ta a.tn a.tc,.int .i64 a.lo,.int .i64 a.hi,.slice a.sA a.n a.sC,.slice a.cA a.cN a.cC,.slice (some ⟨a.ga,0,none⟩) a.n a.aC,.slice a.fA a.fN a.fC,.slice (some ⟨a.mb,0,none⟩) a.n a.n,.slice (some ⟨a.lb,0,none⟩) a.n a.n,.bool a.em] wm.heap.size x (.slice (some ⟨g,0,none⟩) M M) (P1 kk m) (P2 (AlR (setsL (xs.take k))) M kk m) (P3 w5.heap.size (AlR (setsL (xs.take k))) M kk m) _ _ _ _ _ _ _ _ _ _ _ _ _ _ _ _ _ _ _ _ _ _ _ _ _ _ _ _ _ _ _ _ _ _ _ _ _ _ _ _ _ _ _ _ _ _ w5 (fun W h=>(HX5.out W h).1) (by kernel_rfl) (fun W h=>(HX5.out W h).2.1) (fun W h=>(HX5.out W h).2.2) (fun W v W' h hb=>h.keep hb) (fun W v W' h hb=>h.keep hb) (fun W v W' h hb=>h.keep hb) (fun W h=>HC.out W h) (fun W u h hp=>HAP.out W u h hp) (fun W u h hp=>HPA.out W u h hp) (fun W u ⟨g9,e,_,_⟩=>⟨_,_,_,e⟩) _ ?_
   intros
   rename_i yv w20 hb20 hp20
   obtain ⟨g9,rfl,hg9,hp9⟩:=hp20
   have HMK:=Lib.hid (by
    have h:=mk_step (g9:=g9) HR.out.1 HR.out.2.1 HR.out.2.2.2.1 HR.out.2.2.2.2.1 (bhop HR.out.2.2.2.2.2.1 hb20) (by have:=HR.out.2.2.2.2.2.1.size;omega) (by rw [← HR.out.2.2.2.2.2.2];exact hp9)
    rw [← HR.out.2.2.2.2.2.2] at h
    exact h)
   have HK1:=Lib.hid (show k+1≤n from g5)
   clear hb20 hg9 hp9
   go_wp2_with fail
   go_roundw
   case rel=>exact ⟨k+1,by push_cast;rfl,HK1.out,HMK.out⟩
   case measure=>have:=HK1.out;simp;omega
  ·have s2:¬ (k:Int)<(n:Int):=by omega
   have htk:xs.take k=xs:=List.take_of_length_le (by have:=HN.out.1;omega)
   rw [htk] at hx4 hr4
   have hal:=alike_AlR (setsL xs)
   obtain ⟨r,hr⟩ : ∃ r,r=AlR (setsL xs):=⟨_,rfl⟩
   rw [← hr] at hx4 hr4 hal ⊢
   have HR0:=Lib.hid hr
   clear hr
   obtain ⟨M,hM⟩ : ∃ M,M=news r 256:=⟨_,rfl⟩
   have hM2:M≤256:=by rw [hM];exact news_le 256
   have hM0:0<M:=by rw [hM];exact news_pos hal
   have HMM:=Lib.hid (And.intro hM hal)
   rw [← hM] at hx4 hr4
   have hx6:LtrB wm x (.slice (some ⟨g,0,none⟩) M M) (ofN r 0 0):=hx4.congr fun b _=>by rw [ofN_zero];rfl
   have hgx:g≠x:=fun e=>by
    have h1:=hr4.cells (j:=0) (by omega)
    rw [e] at h1
    rw [hx4.sv] at h1
    cases h1
   have hgl:g<wm.heap.size:=by obtain ⟨b,o,e,h,_⟩:=hr4 hM0;simp only [Option.some.injEq,Addr.mk.injEq,and_true] at e;rw [e.1];exact h
   have hbm:Below w.heap.size w wm:=H3.out.1.trans (hc4.below H3.out.1.size fun q hq e=>by have:=H3.out.2.2.1;omega)
   have hb2m:wm.heap[w.heap.size]? = some (.cells c0 44 (0,0)):=(hc4.block _ (Array.getElem?_eq_some_iff.1 H3.out.2.1).1 (by have:=H3.out.2.2.1;omega)).trans H3.out.2.1
   have HRW:=Lib.hid (fun (W:World) (h:Chg (fun q=>q=x) wm W)=>show ClassRow W (some ⟨g,0,none⟩) M (partOf r) from fun h0=>by
    obtain ⟨b,o,e,h1,h2⟩:=hr4 h0
    simp only [Option.some.injEq,Addr.mk.injEq,and_true] at e
    obtain ⟨rfl,rfl⟩:=e
    exact ⟨g,0,rfl,Nat.lt_of_lt_of_le hgl h.size,fun t ht j hj=>(h.cell _ hgl hgx).trans (h2 t ht j hj)⟩)
   have HBM:=Lib.hid (And.intro hbm (And.intro hb2m hx6.lt))
   have sv6:=hx6.sv
   have HX6:=Lib.hid hx6
   clear hk1 htk hx4 hr4 hc4 hal hM hgx hgl hbm hb2m hx6
   go_upto_region 7 with fail
   go_wp2_with fail
   clear sv6
   go_loopw [28] (fun z wr=>∃ i:Nat,z=.int .i64 i∧i≤M∧LtrB wr x (.slice (some ⟨g,0,none⟩) M M) (ofN r i 0)∧Chg (fun q=>q=x) wm wr) (fun z _=>match z with | .int _ z=>M - z.toNat | _=>0)
   case atStart=>exact ⟨0,rfl,Nat.zero_le _,HX6.out,Chg.refl _ _⟩
   case round =>
    obtain ⟨i,rfl,hi1,hxr,hcr⟩:=hrel
    obtain ⟨wv,hwv⟩ : ∃ wv,wv=wr:=⟨_,rfl⟩
    subst hwv
    have s1:(0:Int)≤(i:Int):=by omega
    have s3:((i:Int)).toNat=i:=by omega
    have wi:IntKind.i64.wrap ((i:Int)+1)=(i:Int)+1:=by rw [IntKind.wrap_i64];omega
    by_cases g6:i<M
    ·have s2:(i:Int)<(M:Int):=by omega
     have hrw:=HRW.out wv hcr
     have e0:=hrw.cells (j:=i * 4) (by omega)
     have e1:=hrw.cells (j:=i * 4+1) (by omega)
     have e2:=hrw.cells (j:=i * 4+2) (by omega)
     have e3:=hrw.cells (j:=i * 4+3) (by omega)
     rw [show i * 4 / 4=i by omega,show i * 4 % 4=0 by omega,Nat.zero_add] at e0
     rw [show (i * 4+1) / 4=i by omega,show (i * 4+1) % 4=1 by omega,Nat.zero_add] at e1
     rw [show (i * 4+2) / 4=i by omega,show (i * 4+2) % 4=2 by omega,Nat.zero_add] at e2
     rw [show (i * 4+3) / 4=i by omega,show (i * 4+3) % 4=3 by omega,Nat.zero_add] at e3
     obtain ⟨w5,hw5,hb5,hk5⟩ : ∃ w5,wv.alloc (.cells #[.int .u64 (partOf r i 0:Nat),.int .u64 (partOf r i 1:Nat),.int .u64 (partOf r i 2:Nat),.int .u64 (partOf r i 3:Nat)] 24)=w5∧Below wv.heap.size wv w5∧w5.heap[wv.heap.size]? = some (.cells #[.int .u64 (partOf r i 0:Nat),.int .u64 (partOf r i 1:Nat),.int .u64 (partOf r i 2:Nat),.int .u64 (partOf r i 3:Nat)] 24 (0,0)):=⟨_,rfl,(Below.refl _ wv).alloc (Nat.le_refl _) _,heap_alloc_new wv _⟩
     have HI:=Lib.hid (And.intro hcr (And.intro hb5 (And.intro hk5 (And.intro (show x≠wv.heap.size by have:=hxr.lt;omega) (And.intro (show i+1≤M from g6) (hxr.below hb5))))))
     clear hi1 hxr hcr hrw hb5 hk5
     go_upto_region 10 with fail
     clear hw5 e0 e1 e2 e3
     go_wp2_with fail
     go_loopw [33] (fun z wr=>∃ j:Nat,z=.int .i64 j∧j≤256∧LtrB wr x (.slice (some ⟨g,0,none⟩) M M) (ofN r i j)∧Chg (fun q=>q=x) w5 wr) (fun z _=>match z with | .int _ z=>256 - z.toNat | _=>0)
     case atStart=>exact ⟨0,rfl,Nat.zero_le _,HI.out.2.2.2.2.2,Chg.refl _ _⟩
     case round =>
      obtain ⟨j,rfl,hj1,hxr,hcr⟩:=hrel
      have t1:(0:Int)≤(j:Int):=by omega
      have t3:((j:Int)).toNat=j:=by omega
      have wj:IntKind.i64.wrap ((j:Int)+1)=(j:Int)+1:=by rw [IntKind.wrap_i64];omega
      by_cases g7:j<256
      ·have t2:(j:Int)<256:=by omega
       have wu:IntKind.u8.wrap (j:Int)=(j:Int):=by rw [IntKind.wrap_u8];omega
       have hbx:=(hcr.block _ (Array.getElem?_eq_some_iff.1 HI.out.2.2.1).1 (fun e=>HI.out.2.2.2.1 e.symm)).trans HI.out.2.2.1
       have d0:wr.cell? ⟨wv.heap.size,0,none⟩=some (.int .u64 (partOf r i 0:Nat)):=(row_cells hbx).1 0
       have d1:wr.cell? ⟨wv.heap.size,1,none⟩=some (.int .u64 (partOf r i 1:Nat)):=(row_cells hbx).1 1
       have d2:wr.cell? ⟨wv.heap.size,2,none⟩=some (.int .u64 (partOf r i 2:Nat)):=(row_cells hbx).1 2
       have d3:wr.cell? ⟨wv.heap.size,3,none⟩=some (.int .u64 (partOf r i 3:Nat)):=(row_cells hbx).1 3
       have HJ:=Lib.hid (And.intro hxr (And.intro hcr (show j+1≤256 from g7)))
       clear hj1 hxr hcr hbx
       go_wp2_with fail
       go_at_call 17
       refine (has_any (partOf r i) j wr (Cl_partOf r i) g7).mono ?_
       rintro e w7 ⟨rfl,hb7⟩
       rw [has_partOf]
       have hx7:=HJ.out.1.below hb7
       have hc7:Chg (fun q=>q=x) w5 w7:=HJ.out.2.1.trans (Chg.of_below (R:=fun q=>q=x) hb7) fun q _ e=>e
       clear hb7 d0 d1 d2 d3
       by_cases hnm:nm r j=i
       ·have hbe:(nm r j == i)=true:=by simp [hnm]
        rw [hbe]
        have f1:=hx7.of g7
        have f2:=hx7.fz (1+j)
        have H7:=Lib.hid (And.intro ((hx7.put j i).congr fun b _=>ofN_yes hnm b) (hc7.setCell (p:=⟨x,1+j,none⟩) (fun _=>rfl) (.int .i64 (i:Int))))
        clear hx7 hc7 hbe
        go_wp2_with fail
        go_roundw
        case rel=>exact ⟨j+1,by push_cast;rfl,HJ.out.2.2,H7.out.1,H7.out.2⟩
        case measure=>have:=HJ.out.2.2;simp;omega
       ·have hbe:(nm r j == i)=false:=by simp [hnm]
        rw [hbe]
        have H7:=Lib.hid (And.intro (hx7.congr fun b _=>ofN_no hnm b) hc7)
        clear hx7 hc7 hbe
        go_wp2_with fail
        go_roundw
        case rel=>exact ⟨j+1,by push_cast;rfl,HJ.out.2.2,H7.out.1,H7.out.2⟩
        case measure=>have:=HJ.out.2.2;simp;omega
      ·have t2:¬ (j:Int)<256:=by omega
       obtain rfl:j=256:=by omega
       have H7:=Lib.hid (And.intro (hxr.congr fun b hb=>ofN_row r i hb) ((HI.out.1.trans (Chg.of_below (R:=fun q=>q=x) HI.out.2.1) fun q _ e=>e).trans hcr fun q _ e=>e))
       clear hj1 hxr hcr
       go_wp2_with fail
       go_roundw
       case rel=>exact ⟨i+1,by push_cast;rfl,HI.out.2.2.2.2.1,H7.out.1,H7.out.2⟩
       case measure=>have:=HI.out.2.2.2.2.1;simp;omega
    ·have s2:¬ (i:Int)<(M:Int):=by omega
     obtain rfl:i=M:=by omega
     have hxf:LtrB wv x (.slice (some ⟨g,0,none⟩) i i) (nm r):=hxr.congr fun b hb=>by rw [HMM.out.1];exact ofN_all HMM.out.2 hb
     have hrw:=HRW.out wv hcr
     have hres:=(hcr.block _ (Array.getElem?_eq_some_iff.1 HBM.out.2.1).1 (by have:=H3.out.2.2.1;omega)).trans HBM.out.2.1
     have hlt0:w.heap.size<x:=H3.out.2.2.1
     obtain ⟨c2,hc2⟩ : ∃ c2,c2=ltA (.slice (some ⟨g,0,none⟩) i i) (nm r):=⟨_,rfl⟩
     have hs2:c2.size=257:=by rw [hc2];exact ltA_size _ _
     have ho2:c2.all (·.oneCell')=true:=by rw [hc2];exact ltA_one rfl _
     have hs0:c0.size=257:=by rw [HC0.out];exact ltA_size _ _
     have hxc:wv.heap[x]? = some (.cells c2 44 (0,0)):=by rw [hc2];exact hxf
     have hbv:Below w.heap.size w wv:=HBM.out.1.trans (hcr.below HBM.out.1.size fun q hq e=>by omega)
     have hset:(wv.setRow w.heap.size c2).heap[w.heap.size]? = some (.cells c2 44 (0,0)):=setRow_heap _ _ _ _ _ _ hres
     have HF:=Lib.hid (show MakeO w r (.returned (.agg c2)) (wv.setRow w.heap.size c2) from by
      refine ⟨g,?_,?_,?_⟩
      ·rw [hc2,← HMM.out.1]
      ·rw [← HMM.out.1]
       intro h0
       obtain ⟨b,o,e,h1,h2⟩:=hrw h0
       simp only [Option.some.injEq,Addr.mk.injEq,and_true] at e
       obtain ⟨rfl,rfl⟩:=e
       have hgn:g≠w.heap.size:=fun e=>by
        have h3:=h2 0 h0 0 (by omega)
        rw [e] at h3
        rw [show (0+0 * 4+0:Nat)=0 from rfl,(row_cells hres).1 0,HC0.out,ltA_get0] at h3
        cases h3
       exact ⟨g,0,rfl,by rw [setRow_size];exact h1,fun t ht j hj=>(cell_setRow_other _ _ _ _ hgn).trans (h2 t ht j hj)⟩
      ·exact below_setRow hbv (Nat.le_refl _) _)
     clear hi1 hxr hcr hxf hrw hlt0 hbv hc2
     go_upto_region 18 with (first | (refine wpList_load_row (by rfl) 44 (.tmp 3) (by rfl) x (by rfl) 44 c2 (0,0) _ hxc Tryd.underlying44 rfl (by rw [hs2];exact sizeLt) ?_) | (refine wpList_store_row (by rfl) 44 (.tmp 2) (.tmp 46) (by rfl) w.heap.size c2 (by rfl) (by rfl) 44 c0 hres (by rw [hs2];exact sizeLt) (by rw [hs0,hs2]) ho2 ?_))
     refine bodyPost_ret (v:=.agg c2) (results_cell_row Tryd.results6 _ _ w.heap.size 44 c2 (0,0) _ rfl hset Tryd.underlying44 rfl (by rw [hs2];exact sizeLt)) rfl ?_
     rw [← HR0.out]
     exact HF.out
end Go.Proofs.YtbohmcfplgdlpaaDoor.Lc

/- What letters.Spell and Plain answer of a word: a contract each, and the statement's guard.
   Conditions: the letters' sets lie in memory, each byte's letter is told by a relation. -/
namespace Go.Proofs.YtbohmcfplgdlpaaDoor.Lc
open Go.RowKit Go.Shelf
def pB (k:IntKind) (n:Nat) (f:Nat→Nat):Array Value:=((List.range n).map fun j=>Value.int k (f j:Int)).toArray
theorem pB_size (k:IntKind) (n:Nat) (f:Nat→Nat):(pB k n f).size=n:=by simp [pB]
theorem pB_get (k:IntKind) {n:Nat} (f:Nat→Nat) {j:Nat} (h:j<n):(pB k n f)[j]? = some (.int k (f j:Int)):=by simp [pB,h]
theorem pB_zero (k:IntKind) (n:Nat) (F:Nat→Nat):madeCells #[.int k 0] n=pB k n (fun j=>if j<0 then F j else 0):=by
 apply Array.ext_getElem?
 intro j
 unfold madeCells pB
 simp only [List.getElem?_toArray,List.getElem?_map,Array.getElem?_map]
 by_cases hj:j<n
 ·simp [hj,Nat.mod_one]
 ·simp [hj]
theorem pB_set (k:IntKind) {n:Nat} (F:Nat→Nat) (i:Nat):(pB k n (fun j=>if j<i then F j else 0)).setIfInBounds i (.int k (F i:Int))=pB k n (fun j=>if j<i+1 then F j else 0):=by
 apply Array.ext_getElem?
 intro j
 rw [Array.getElem?_setIfInBounds]
 by_cases hj:j<n
 ·by_cases e:i=j
  ·subst e
   rw [if_pos rfl,if_pos (by rw [pB_size];exact hj),pB_get k _ hj,if_pos (Nat.lt_succ_self i)]
  ·rw [if_neg e,pB_get k _ hj,pB_get k _ hj]
   by_cases h:j<i
   ·rw [if_pos h,if_pos (by omega)]
   ·rw [if_neg h,if_neg (by omega)]
 ·have e1:∀ g:Nat→Nat,(pB k n g)[j]? = none:=fun g=>Array.getElem?_eq_none (by rw [pB_size];omega)
  rw [e1,e1]
  split
  ·rename_i e
   rw [if_neg (by rw [pB_size];omega)]
  ·rfl
theorem infoInt:(Tryd.prog.info? 3).map (fun i=>(i.zero,i.size,i.bytes))=some (some (.int .i64 0),1,8):=by kernel_rfl
set_option maxHeartbeats 8000000 in
set_option maxRecDepth 100000 in
theorem spell_any (w:World) (A:Option Addr) (c:Nat) (u:List Nat) (r:Nat→Nat→Bool) (g M:Nat) (hal:Alike r) (hM:M=news r 256) (hrow:ClassRow w (some ⟨g,0,none⟩) M (partOf r)) (hu:WrdR w (.slice A u.length c) u) (hn:u.length≤1000000) :
  Calls Tryd.prog 12 #[.agg (ltA (.slice (some ⟨g,0,none⟩) M M) (nm r)),.slice A u.length c] w fun e w'=>∃ lb,e=.returned (.slice (some ⟨lb,0,none⟩) u.length u.length)∧w'.heap[lb]? = some (.cells (pB .i64 u.length (fun j=>if j<u.length then nm r (u.getD j 0) else 0)) 3 (0,0))∧Below w.heap.size w w':=by
 obtain ⟨n,hnn⟩ : ∃ n,n=u.length:=⟨_,rfl⟩
 have HUN:=Lib.hid hnn
 rw [← hnn] at hn hu ⊢
 have hmk:∀ W:World,(Instr.makeSlice 34 (.int .i64 (n:Int)) (.int .i64 (n:Int))).run Tryd.prog W=.ok (.slice (some ⟨W.heap.size,0,none⟩) n n) (W.alloc (.cells (madeCells #[.int .i64 0] n) 3)):=fun W=>run_make_row' (P:=Tryd.prog) 34 3 (.int .i64 0) 8 Tryd.underlying34 infoInt rfl .i64 .i64 n (by omega) (by omega) W
 have HF:=Lib.hid (And.intro hal hM)
 obtain ⟨cx,hcx⟩ : ∃ cx,cx=ltA (.slice (some ⟨g,0,none⟩) M M) (nm r):=⟨_,rfl⟩
 have HX0:=Lib.hid (show LtrB (w.alloc (.cells cx 44)) w.heap.size (.slice (some ⟨g,0,none⟩) M M) (nm r) from by rw [hcx];exact heap_alloc_new w _)
 have HIN:=Lib.hid (And.intro hrow hu)
 rw [← hcx]
 clear hcx hal hM hrow hu hnn
 go_enter Tryd.func12,Tryd.ntmps12
 go_wp2_with fail
 obtain ⟨w1,hw1⟩ : ∃ w1,w1=w.alloc (.cells cx 44):=⟨_,rfl⟩
 rw [← hw1] at HX0 ⊢
 have hb1:Below w.heap.size w w1:=by rw [hw1];exact (Below.refl _ _).alloc (Nat.le_refl _) _
 have hz1:w.heap.size+1=w1.heap.size:=by rw [hw1];simp
 try rw [hz1]
 obtain ⟨x,hx⟩ : ∃ x,x=w.heap.size:=⟨_,rfl⟩
 rw [← hx] at HX0 ⊢
 obtain ⟨lb,hlb⟩ : ∃ lb,lb=w1.heap.size:=⟨_,rfl⟩
 obtain ⟨w2,hw2⟩ : ∃ w2,w2=w1.alloc (.cells (madeCells #[.int .i64 0] n) 3):=⟨_,rfl⟩
 have hb2:Below w1.heap.size w1 w2:=by rw [hw2];exact (Below.refl _ _).alloc (Nat.le_refl _) _
 have e2:w2.heap[lb]? = some (.cells (pB .i64 n (fun j=>if j<0 then nm r (u.getD j 0) else 0)) 3 (0,0)):=by
  rw [hw2,hlb,← pB_zero]
  exact heap_alloc_new w1 _
 rw [← hw2,← hlb]
 have HB2:=Lib.hid (And.intro (bhop hb1 hb2) (And.intro (HX0.out.below hb2) (And.intro (show x≠lb by have:=HX0.out.lt;omega) (And.intro (show g<w.heap.size by obtain ⟨b,o,e,h,_⟩:=HIN.out.1 (by rw [HF.out.2];exact news_pos HF.out.1);simp only [Option.some.injEq,Addr.mk.injEq,and_true] at e;rw [e.1];exact h) (show w.heap.size≤lb by rw [hlb];exact hb1.size)))))
 have E2:=Lib.hid e2
 clear hw1 hb1 hz1 hx hlb hw2 hb2 e2 hmk
 go_loopw [13] (fun v wr=>∃ i:Nat,v=.int .i64 (i:Nat)∧i≤n∧wr.heap[lb]? = some (.cells (pB .i64 n (fun j=>if j<i then nm r (u.getD j 0) else 0)) 3 (0,0))∧Chg (fun k=>k=lb) w2 wr) (fun v _=>match v with | .int _ i=>n - i.toNat | _=>0)
 case atStart=>exact ⟨0,rfl,by omega,E2.out,Chg.refl _ _⟩
 case round =>
  obtain ⟨i,rfl,hi1,hce,hc⟩:=hrel
  have hbw:Below w.heap.size w wr:=HB2.out.1.trans (hc.below HB2.out.1.size fun k hk e=>by have:=HB2.out.2.2.2.2;omega)
  by_cases him:i<n
  ·have s1:(0:Int)≤(i:Int):=by omega
   have s2:(i:Int)<(n:Int):=by omega
   have s3:((i:Int)).toNat=i:=by omega
   have hw1:IntKind.i64.wrap ((i:Int)+1)=((i+1:Nat):Int):=by rw [IntKind.wrap_i64];omega
   obtain ⟨A',c',ev,hcells⟩:=HIN.out.2.below hbw
   obtain ⟨b,hub⟩ : ∃ b,u[i]? = some b:=⟨_,List.getElem?_eq_getElem (by rw [← HUN.out];exact him)⟩
   obtain ⟨hb256,ga,oa,eA,hga,hcell⟩:=hcells i b hub
   rw [eA] at ev
   simp only [Value.slice.injEq] at ev
   obtain ⟨rfl,_,_⟩:=ev
   clear hcells eA
   have hcw:Chg (fun k=>k=lb) w2 wr:=hc
   have HJ:=Lib.hid (And.intro hce (And.intro hcw (And.intro hub (show i+1≤n from him))))
   have HRR:=Lib.hid (fun (W:World) (h:Below wr.heap.size wr W)=>show LtrB W x (.slice (some ⟨g,0,none⟩) M M) (nm r)∧ClassRow W (some ⟨g,0,none⟩) M (partOf r)∧W.heap[lb]? = some (.cells (pB .i64 n (fun j=>if j<i then nm r (u.getD j 0) else 0)) 3 (0,0)) from
    ⟨((hcw.block x HB2.out.2.1.lt HB2.out.2.2.1).trans HB2.out.2.1 |> fun h0=>(h.block x (Array.getElem?_eq_some_iff.1 h0).1).trans h0),(HIN.out.1.below (bhop hbw h)),(h.block lb (Array.getElem?_eq_some_iff.1 hce).1).trans hce⟩)
   have t1:(0:Int)≤(b:Int):=by omega
   have t2:(b:Int)<256:=by omega
   have t3:((b:Int)).toNat=b:=by omega
   have HHB:=Lib.hid hb256
   clear hce hc hcw hbw hub hi1 him hb256
   have f0:=(HRR.out wr (Below.refl _ _)).1.of HHB.out
   have f1:=((row_cells (HRR.out wr (Below.refl _ _)).2.2).1 i).trans (pB_get .i64 _ (show i<n by have:=HJ.out.2.2.2;omega))
   have f2:=(row_cells (HRR.out wr (Below.refl _ _)).2.2).2 i
   have HN:=Lib.hid (show (wr.setCell ⟨lb,i,none⟩ (.int .i64 ((nm r b:Nat):Int))).heap[lb]? = some (.cells (pB .i64 n (fun j=>if j<i+1 then nm r (u.getD j 0) else 0)) 3 (0,0))∧Chg (fun k=>k=lb) w2 (wr.setCell ⟨lb,i,none⟩ (.int .i64 ((nm r b:Nat):Int))) from ⟨by
    rw [heap_setCell_same wr _ _ _ _ _ (HRR.out wr (Below.refl _ _)).2.2,← pB_set .i64 (fun j=>nm r (u.getD j 0)) i]
    have hg:u.getD i 0=b:=by rw [List.getD_eq_getElem?_getD,HJ.out.2.2.1];rfl
    simp only [hg],(HJ.out.2.1.setCell (p:=⟨lb,i,none⟩) (fun _=>rfl) _)⟩)
   go_wp2_with fail
   go_roundw
   case rel=>exact ⟨i+1,by push_cast;rfl,HJ.out.2.2.2,HN.out.1,HN.out.2⟩
   case measure=>have:=HJ.out.2.2.2;simp;omega
  ·have s2:¬ (i:Int)<(n:Int):=by omega
   obtain rfl:i=n:=by omega
   have HE:=Lib.hid (And.intro hce hbw)
   clear hce hc hbw hi1
   go_wp2_with fail
   go_ret
   exact ⟨lb,rfl,HE.out.1,HE.out.2⟩
theorem wpList_load_rowG {P:Program} {ops:Array Oper} {rest:List Oper} {o:Oper} {a:Act} {w:World} {Q:Exit→Act→World→Prop} (hgd:Region.wanted o (yielded ops a.tmps)=true) (ty:TypeId) (x:Operand) (ho:o.op=.load ty x)
  (g:Nat) (hx:a.eval x=.pointer (some ⟨g,0,none⟩)) (t:TypeId) (cs:Array Value) (fr:Nat×Nat) (d:TypeDesc) (hg:w.heap[g]? = some (.cells cs t fr))
  (hu:P.underlying ty=some d) (hd:(match d with | .struct _ | .array _ _=>true | _=>false)=true) (hi:(P.info? ty).map (·.size)=some cs.size)
  (h:wpList P ops Q rest (a.put o.dst (.agg cs)) w):wpList P ops Q (o :: rest) a w :=
 wpList_step fun K hK=>by rw [if_pos hgd];exact wp_load_row ty x ho g hx t cs fr d hg hu hd hi (hK _ _ h)
set_option maxHeartbeats 8000000 in
set_option maxRecDepth 100000 in
theorem awake13_any (w:World):Calls Tryd.prog 4 #[] w fun e w'=>e=.returned (.bool true)∧Below w.heap.size w w':=by
 have HM:=Lib.hid (fun (W:World)=>make_any W none [] 0 (fun i x h=>by simp at h) (by simp))
 have hal:=alike_AlR (setsL [])
 have hne:news (AlR (setsL [])) 256=1:=by decide
 obtain ⟨r,hr⟩ : ∃ r,r=AlR (setsL []):=⟨_,rfl⟩
 rw [← hr] at HM hal hne
 have HS:=Lib.hid (fun (W:World) (b:Nat) (g:Nat) (hrow:ClassRow W (some ⟨g,0,none⟩) 1 (partOf r)) (hu:WrdR W (.slice (some ⟨b,0,none⟩) 1 1) [3])=>spell_any W (some ⟨b,0,none⟩) 1 [3] r g 1 hal hne.symm hrow hu (by simp))
 have HNE:=Lib.hid hne
 clear hal hr hne
 have hzero:=(zero_of_info infoLt).1
 obtain ⟨c0,hc0⟩ : ∃ c0,c0=ltA (.slice none 0 0) zeros:=⟨_,rfl⟩
 rw [← hc0] at hzero
 have hs0:c0.size=257:=by rw [hc0];exact ltA_size _ _
 clear hc0
 go_enter Tryd.func4,Tryd.ntmps4
 go_upto_region 1 with fail
 go_wp2_with fail
 go_at_call 6
 refine (HM.out w).mono ?_
 rintro e w1 ⟨g,rfl,hrow,hb1⟩
 rw [HNE.out] at hrow ⊢
 obtain ⟨cx,hcx⟩ : ∃ cx,cx=ltA (.slice (some ⟨g,0,none⟩) 1 1) (nm r):=⟨_,rfl⟩
 have hs2:cx.size=257:=by rw [hcx];exact ltA_size _ _
 have ho2:cx.all (·.oneCell')=true:=by rw [hcx];exact ltA_one rfl _
 have hx:LtrB (w1.alloc (.cells cx 44)) w1.heap.size (.slice (some ⟨g,0,none⟩) 1 1) (nm r):=by rw [hcx];exact heap_alloc_new w1 _
 have HCX:=Lib.hid hcx
 rw [← hcx]
 clear hcx
 obtain ⟨w2,hw2⟩ : ∃ w2,w2=w1.alloc (.cells cx 44):=⟨_,rfl⟩
 have hb2:Below w1.heap.size w1 w2:=by rw [hw2];exact (Below.refl _ _).alloc (Nat.le_refl _) _
 rw [← hw2] at hx
 have HWE:=Lib.hid hw2
 have H2:=Lib.hid (And.intro (bhop hb1 hb2) (And.intro hx (hrow.below hb2)))
 clear hw2 hb2 hx hrow hb1
 go_upto_region 2 with (refine wpList_store_row (by rfl) 44 (.tmp 1) (.tmp 2) (by rfl) w1.heap.size cx (by rfl) (by rfl) 44 c0 (heap_alloc_new w1 _) (by rw [hs2];exact sizeLt) (by rw [hs0,hs2]) ho2 ?_;rw [World.setRow_alloc_new])
 rw [← HWE.out]
 clear HWE ho2 hs0 hzero
 have sv2:=H2.out.2.1.sv
 have hx2:=H2.out.2.1
 unfold LtrB at hx2
 rw [← HCX.out] at hx2
 obtain ⟨w3,hw3,hb3,hk3⟩ : ∃ w3,w2.alloc (.cells #[.int .u8 3] 5)=w3∧Below w2.heap.size w2 w3∧w3.heap[w2.heap.size]? = some (.cells #[.int .u8 3] 5 (0,0)):=⟨_,rfl,(Below.refl _ w2).alloc (Nat.le_refl _) _,heap_alloc_new w2 _⟩
 have HS3:=Lib.hid (HS.out w3 w2.heap.size g (H2.out.2.2.below hb3) ⟨_,_,rfl,fun i x hx=>by
  cases i with
  | zero =>
   obtain rfl:3=x:=by simpa using hx
   exact ⟨by decide,_,_,rfl,(Array.getElem?_eq_some_iff.1 hk3).1,by rw [(row_cells hk3).1];rfl⟩
  | succ i=>simp at hx⟩)
 rw [← HCX.out] at HS3
 have HB3:=Lib.hid (bhop H2.out.1 hb3)
 clear hb3 hk3 HCX
 go_wp2_with (refine wpList_load_rowG (by rfl) 44 (.tmp 1) (by rfl) w1.heap.size (by rfl) 44 cx (0,0) _ hx2 Tryd.underlying44 rfl (by rw [hs2];exact sizeLt) ?_)
 go_at_call 12
 try rw [hw3]
 refine Calls.mono HS3.out ?_
 rintro e w4 ⟨lb,rfl,_,hb4⟩
 have HB4:=Lib.hid (bhop HB3.out hb4)
 clear hb4 hw3 hx2 sv2
 go_wp2_with fail
 go_ret
 exact ⟨rfl,HB4.out⟩
end Go.Proofs.YtbohmcfplgdlpaaDoor.Lc
