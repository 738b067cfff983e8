/- A region whose order is open, by one condition that holds whichever operations have come up: a law for the walks of the statements.
   Conditions: those that the theorem states. -/
import Derived.WalkKit
import Derived.WalkSmall
import Derived.Orders

namespace Go.Proofs.YtbohmcfplgdlpaaDoor
open Go.RowKit
def upd (l:Nat→Bool) (i:Nat) (j:Nat):Bool:=if j=i then true else l j
def lst14 (s:Array Bool) (j:Nat):Bool:=s.getD j false
theorem upd_listed (s:Array Bool) (i:Nat) (h:i<s.size):lst14 (s.setIfInBounds i true)=upd (lst14 s) i:=by
 funext j
 unfold upd lst14
 by_cases e:j=i
 ·subst e;simp [h]
 ·rw [if_neg e]
  simp only [Array.getD_eq_getD_getElem?,Array.getElem?_setIfInBounds]
  rw [if_neg (fun h=>e h.symm)]
def left (s:Array Bool):Nat:=s.toList.countP (fun b=>!b)
theorem left_set:∀ (l:List Bool) (i:Nat),l[i]? = some false→(l.set i true).countP (fun b=>!b)+1=l.countP (fun b=>!b)
 | [],i,h=>by simp at h
 | b :: l,0,h=>by simp at h;subst h;simp
 | b :: l,i+1,h=>by
  have ih:=left_set l i (by simpa using h)
  simp only [List.set_cons_succ,List.countP_cons]
  omega
theorem getD_false {s:Array Bool} {i:Nat} (h:s.getD i true=false):s.toList[i]? = some false:=by
 rw [Array.getD_eq_getD_getElem?] at h
 cases e:s[i]? with
 | none=>simp [e] at h
 | some b=>rw [e] at h;simp at h;subst h;rw [Array.getElem?_toList];exact e
section
variable {P:Program} {ops:Array Oper} {Q:Exit→Act→World→Prop}
theorem ready_all {s:Array Bool} (hs:s.size=ops.size) (hacy:∀ (i:Nat) (o:Oper),ops[i]? = some o→∀ e∈o.after,e.on<i) (h:Region.ready .any ops s=[]):∀ i,i<ops.size→lst14 s i=true:=by
 intro i
 induction i using Nat.strongRecOn with
 | ind i ih =>
  intro hi
  cases e:lst14 s i with
  | true=>rfl
  | false =>
   exfalso
   have hm:i∈Region.ready .any ops s:=by
    refine mem_ready.2 ⟨?_,ops[i],by simp [hi],fun e he _=>?_⟩
    ·unfold lst14 at e
     rw [Array.getD_eq_getD_getElem?] at e ⊢
     rw [Array.getElem?_eq_getElem (by omega)] at e ⊢
     simpa using e
    ·have hlt:=hacy i ops[i] (by simp [hi]) e he
     exact ih _ hlt (by omega)
   rw [h] at hm
   cases hm
theorem wpAny_inv (I:(Nat→Bool)→Act→World→Prop) (hacy:∀ (i:Nat) (o:Oper),ops[i]? = some o→∀ e∈o.after,e.on<i)
  (hstep:∀ l a w i o,I l a w→ops[i]? = some o→l i=false→(∀ e∈o.after,Region.binds .any e=true→l e.on=true)→wpOp P ops Q i (I (upd l i)) a w)
  (hdone:∀ l a w,I l a w→(∀ i,i<ops.size→l i=true)→Q .normal a w) :
  ∀ (fuel:Nat) (s:Array Bool) (a:Act) (w:World),s.size=ops.size→left s≤fuel→I (lst14 s) a w→wpAny P .any ops Q fuel s a w:=by
 intro fuel
 induction fuel with
 | zero =>
  intro s a w hs hl hI
  have hnil:Region.ready .any ops s=[]:=by
   apply List.eq_nil_iff_forall_not_mem.2
   intro i hi
   obtain ⟨h1,_⟩:=mem_ready.1 hi
   have:=left_set s.toList i (getD_false h1)
   unfold left at hl
   omega
  exact ⟨hnil,hdone _ _ _ hI (ready_all hs hacy hnil)⟩
 | succ fuel ih =>
  intro s a w hs hl hI
  refine ⟨fun hnil=>hdone _ _ _ hI (ready_all hs hacy hnil),fun i hi=>?_⟩
  obtain ⟨h1,o,ho,hall⟩:=mem_ready.1 hi
  have hlt:i<s.size:=by
   have:=getD_false h1
   have:=(List.getElem?_eq_some_iff.1 this).1
   simpa using this
  have hf:lst14 s i=false:=by
   unfold lst14
   rw [Array.getD_eq_getD_getElem?] at h1 ⊢
   rw [Array.getElem?_eq_getElem hlt] at h1 ⊢
   simpa using h1
  refine wpOp_mono (fun a' w' hI'=>?_) (hstep _ a w i o hI ho hf hall)
  refine ih _ a' w' (by simpa using hs) ?_ (by rw [upd_listed _ _ hlt];exact hI')
  have:=left_set s.toList i (getD_false h1)
  unfold left at hl ⊢
  simp only [Array.toList_setIfInBounds]
  omega
theorem left_replicate (n:Nat):left (Array.replicate n false)≤n:=by
 unfold left
 have:=List.countP_le_length (p:=fun b=>!b) (l:=(Array.replicate n false).toList)
 simpa using this
def acy (ops:Array Oper):Bool:=(List.range ops.size).all fun i=>((ops[i]?).map fun o=>o.after.all fun e=>decide (e.on<i)).getD true
theorem acy_spec (h:acy ops=true):∀ (i:Nat) (o:Oper),ops[i]? = some o→∀ e∈o.after,e.on<i:=by
 intro i o ho e he
 have hi:i<ops.size:=(Array.getElem?_eq_some_iff.1 ho).1
 have h1:=List.all_eq_true.1 h i (by simpa using hi)
 rw [ho] at h1
 simp only [Option.map_some,Option.getD_some] at h1
 have h2:=(Array.all_eq_true'.1 h1) e he
 simpa using h2
theorem wp_region_inv {id:Nat} {a:Act} {w:World} (hm:P.follows .mixedOrders=true) (I:(Nat→Bool)→Act→World→Prop)
  (hacy:acy ops=true)
  (h0:I (fun _=>false) a w.drew)
  (hstep:∀ l a w i o,I l a w→ops[i]? = some o→l i=false→(∀ e∈o.after,Region.binds .any e=true→l e.on=true)→wpOp P ops Q i (I (upd l i)) a w)
  (hdone:∀ l a w,I l a w→(∀ i,i<ops.size→l i=true)→Q .normal a w):(Code.region id ops true).wp P Q a w :=
 wp_region_any hm (wpAny_inv I (acy_spec hacy) hstep hdone _ _ _ _ (by simp) (left_replicate _) (by
  have:lst14 (Array.replicate ops.size false)=fun _=>false:=by
   funext j
   unfold lst14
   rw [Array.getD_eq_getD_getElem?,Array.getElem?_replicate]
   split <;> rfl
  rw [this];exact h0))
end
theorem wpOp_on {P:Program} {ops:Array Oper} {Q:Exit→Act→World→Prop} {i:Nat} {o:Oper} {I:Act→World→Prop} {a:Act} {w:World} (hi:ops[i]? = some o) (hg:Region.wanted o (yielded ops a.tmps)=true)
  (h:∀ K:Act→World→Prop,(∀ a w,I a w→K a w)→o.wp P a w K Q):wpOp P ops Q i I a w:=by
 unfold wpOp
 simp only [hi]
 rw [if_pos hg]
 exact .inl (h I fun _ _=>id)
theorem wpOp_one {P:Program} {ops:Array Oper} {Q:Exit→Act→World→Prop} {i:Nat} {o:Oper} {I:Act→World→Prop} {a:Act} {w:World} (hi:ops[i]? = some o) (hg:o.guard=none)
  (h:∀ K:Act→World→Prop,(∀ a w,I a w→K a w)→o.wp P a w K Q):wpOp P ops Q i I a w:=wpOp_on hi (by simp [Region.wanted,hg]) h
end Go.Proofs.YtbohmcfplgdlpaaDoor
