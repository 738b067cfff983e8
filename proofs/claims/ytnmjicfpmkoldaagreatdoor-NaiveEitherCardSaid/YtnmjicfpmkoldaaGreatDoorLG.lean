/- The configs behind a word, as plain values: which they are, that they are right, that a word is matched just if it is one of the tree's.
   Conditions: those that each theorem states. -/
import Derived.Test.YtnmjicfpmkoldaaGreatDoorPA
import Derived.Test.YtnmjicfpmkoldaaGreatDoorMMelt
import Derived.Test.YtnmjicfpmkoldaaGreatDoorMSim
import Derived.Test.YtnmjicfpmkoldaaGreatDoorPM
import Derived.Test.YtnmjicfpmkoldaaGreatDoorN1

/- What a simple tree begins and ends with, as the document counts it: the faces of what moves makes of it.
   Conditions: those that each theorem states. -/
namespace Go.Proofs.YtnmjicfpmkoldaaGreatDoor
open Go.RowKit
mutual
def fcT:T→Nat→Fc
 | .node k C lo _ ps,a=>fcsT k ps (opF k C lo a) (opA k C a)
def fcsT (k:Int):List T→Fc→Nat→Fc
 | [],f,_=>f
 | p :: ps,f,a=>fcsT k ps (adF k f (fcT p a)) (a+npos p)
end
mutual
theorem mv_fc:∀ (t:T) (ar a:Nat),(mvT t ar a).1=fcT t a
 | .node k C lo hi ps,ar,a=>by rw [mvT,fcT,mvs_fc]
theorem mvs_fc (k hi:Int) (ar:Nat) (ag:Bool):∀ (ts:List T) (f:Fc) (a:Nat),(mvsT k hi ar ag ts f a).1=fcsT k ts f a
 | [],f,a=>by rw [mvsT,fcsT]
 | t :: ts,f,a=>by
  rw [mvsT,fcsT]
  simp only
  rw [mvs_fc,mv_fc t,mv_at t]
end
mutual
theorem fc_em:∀ (t:T) (a:Nat),okT t=true→(fcT t a).em=nuT t
 | .node k C lo hi ps,a,h=>by
  have h1:=ok_kind h
  have h2:=ok_parts h
  rw [fcT,nuT]
  unfold okA at h1
  rw [decide_eq_true_iff] at h1
  rcases h1 with ⟨rfl,hz,_,_,hl⟩ | ⟨rfl,_,_,hl⟩ | ⟨hk,hz,_⟩ | ⟨rfl,hz,_⟩
  ·obtain rfl:=List.length_eq_zero_iff.1 hl
   rw [fcsT]
   simp [opF,isPos]
  ·obtain rfl:=List.length_eq_zero_iff.1 hl
   rw [fcsT]
   unfold opF
   split <;> simp
  ·rcases hk with rfl | rfl
   ·rw [fcs_all ps _ _ h2]
    simp [opF,isPos]
   ·rw [fcs_any 3 (by decide) ps _ _ h2]
    simp [opF,isPos]
  ·rw [fcs_any 4 (by decide) ps _ _ h2]
   simp [opF,isPos]
theorem fcs_all:∀ (ts:List T) (f:Fc) (a:Nat),oksT ts=true→(fcsT 2 ts f a).em=(f.em && nuAll ts)
 | [],f,a,_=>by rw [fcsT,nuAll,Bool.and_true]
 | t :: ts,f,a,h=>by
  rw [oksT,Bool.and_eq_true] at h
  rw [fcsT,fcs_all ts _ _ h.2,nuAll,← Bool.and_assoc,← fc_em t a h.1]
  rfl
theorem fcs_any (k:Int) (hk:k≠2):∀ (ts:List T) (f:Fc) (a:Nat),oksT ts=true→(fcsT k ts f a).em=(f.em || nuAny ts)
 | [],f,a,_=>by rw [fcsT,nuAny,Bool.or_false]
 | t :: ts,f,a,h=>by
  rw [oksT,Bool.and_eq_true] at h
  rw [fcsT,fcs_any k hk ts _ _ h.2,nuAny,← Bool.or_assoc,← fc_em t a h.1,adF,if_neg hk]
  rfl
end
def B200 (w:World) (b:Nat) (X:Nat):Prop:=w.heap[b]? = some (.cells ((List.range 200).map fun p=>Value.bool (X.testBit p)).toArray 4 (0,0))
def U200 (w:World) (b p X Y:Nat):Prop:=w.heap[b]? = some (.cells ((List.range 200).map fun q=>Value.bool (if q<p then Y.testBit q else X.testBit q)).toArray 4 (0,0))
theorem B200.cell {w:World} {b X p:Nat} (h:B200 w b X) (hp:p<200):w.cell? ⟨b,p,none⟩=some (.bool (X.testBit p))∧w.frozen? ⟨b,p,none⟩=false∧b<w.heap.size :=
 ⟨by rw [(row_cells h).1 p];simp [hp],(row_cells h).2 p,(Array.getElem?_eq_some_iff.1 h).1⟩
theorem U200.cell {w:World} {b p X Y:Nat} (h:U200 w b p X Y) (hp:p<200):w.cell? ⟨b,p,none⟩=some (.bool (X.testBit p))∧w.frozen? ⟨b,p,none⟩=false∧b<w.heap.size :=
 ⟨by rw [(row_cells h).1 p];simp [hp],(row_cells h).2 p,(Array.getElem?_eq_some_iff.1 h).1⟩
theorem U200.set {w:World} {b p X Y:Nat} {v:Bool} (h:U200 w b p X Y) (hv:Y.testBit p=v):U200 (w.setCell ⟨b,p,none⟩ (.bool v)) b (p+1) X Y:=by
 unfold U200
 rw [heap_setCell_same w b _ _ _ _ h]
 congr 2
 apply Array.ext_getElem?
 intro i
 rw [Array.getElem?_setIfInBounds]
 simp only [List.getElem?_toArray,List.getElem?_map,List.size_toArray,List.length_map,List.length_range]
 by_cases hi:i<200
 ·rw [List.getElem?_range hi]
  by_cases e:p=i
  ·subst e;simp [hi,hv]
  ·rw [if_neg e]
   have:i<p+1↔i<p:=by omega
   simp [this]
 ·rw [List.getElem?_eq_none (by simp;omega)]
  split <;> simp
  omega
theorem U200.same {w:World} {b p X Y:Nat} (h:U200 w b p X Y) (hv:Y.testBit p=X.testBit p):U200 w b (p+1) X Y:=by
 unfold U200
 rw [show ((List.range 200).map fun q=>Value.bool (if q<p+1 then Y.testBit q else X.testBit q))=(List.range 200).map fun q=>Value.bool (if q<p then Y.testBit q else X.testBit q) from List.map_congr_left fun q _=>by
  by_cases e:q=p
  ·subst e;simp [hv]
  ·have:q<p+1↔q<p:=by omega
   simp [this]]
 exact h
end Go.Proofs.YtnmjicfpmkoldaaGreatDoor

/- The words of a tree, as a plain relation; the simple tree has the same words.
   Conditions: those that each theorem states. -/
namespace Go.Proofs.YtnmjicfpmkoldaaGreatDoor
def PowL (L:List Nat→Prop):Nat→List Nat→Prop
 | 0,w=>w=[]
 | n+1,w=>∃ a b,w=a ++ b∧L a∧PowL L n b
mutual
def Lg:T→List Nat→Prop
 | .node k C lo hi ps=>fun w =>
  if k=0 then w=[]
  else if k=1 then ∃ b,b<256∧hasB C b=true∧w=[b]
  else if k=2 then LgC ps w
  else if k=3 then LgA ps w
  else ∃ n:Nat,lo≤(n:Int)∧(hi<0∨(n:Int)≤hi)∧PowL (LgC ps) n w
def LgC:List T→List Nat→Prop
 | []=>fun w=>w=[]
 | t :: ts=>fun w=>∃ a b,w=a ++ b∧Lg t a∧LgC ts b
def LgA:List T→List Nat→Prop
 | []=>fun _=>False
 | t :: ts=>fun w=>Lg t w∨LgA ts w
end
theorem lg_zero {k lo hi:Int} {C:Nat→Nat} {ps:List T} (h:k=0) (w:List Nat):Lg (.node k C lo hi ps) w↔w=[]:=by rw [Lg];simp only [if_pos h]
theorem lg_one {k lo hi:Int} {C:Nat→Nat} {ps:List T} (h:k=1) (w:List Nat):Lg (.node k C lo hi ps) w↔∃ b,b<256∧hasB C b=true∧w=[b]:=by
 rw [Lg];simp only [if_neg (show ¬ k=0 by omega),if_pos h]
theorem lg_two {k lo hi:Int} {C:Nat→Nat} {ps:List T} (h:k=2) (w:List Nat):Lg (.node k C lo hi ps) w↔LgC ps w:=by
 rw [Lg];simp only [if_neg (show ¬ k=0 by omega),if_neg (show ¬ k=1 by omega),if_pos h]
theorem lg_three {k lo hi:Int} {C:Nat→Nat} {ps:List T} (h:k=3) (w:List Nat):Lg (.node k C lo hi ps) w↔LgA ps w:=by
 rw [Lg];simp only [if_neg (show ¬ k=0 by omega),if_neg (show ¬ k=1 by omega),if_neg (show ¬ k=2 by omega),if_pos h]
theorem lg_four {k lo hi:Int} {C:Nat→Nat} {ps:List T} (h0:k≠0) (h1:k≠1) (h2:k≠2) (h3:k≠3) (w:List Nat):Lg (.node k C lo hi ps) w↔∃ n:Nat,lo≤(n:Int)∧(hi<0∨(n:Int)≤hi)∧PowL (LgC ps) n w:=by
 rw [Lg];simp only [if_neg h0,if_neg h1,if_neg h2,if_neg h3]
theorem lgc_nil (w:List Nat):LgC [] w↔w=[]:=by rw [LgC]
theorem lgc_cons (t:T) (ts:List T) (w:List Nat):LgC (t :: ts) w↔∃ a b,w=a ++ b∧Lg t a∧LgC ts b:=by rw [LgC]
theorem lga_nil (w:List Nat):LgA [] w↔False:=by rw [LgA]
theorem lga_cons (t:T) (ts:List T) (w:List Nat):LgA (t :: ts) w↔Lg t w∨LgA ts w:=by rw [LgA]
theorem lgc_one (t:T) (w:List Nat):LgC [t] w↔Lg t w:=by
 rw [lgc_cons]
 constructor
 ·rintro ⟨a,b,rfl,h,hb⟩
  rw [lgc_nil] at hb
  rw [hb,List.append_nil];exact h
 ·exact fun h=>⟨w,[],by simp,h,(lgc_nil _).2 rfl⟩
theorem lgc_append (xs ys:List T):∀ w,LgC (xs ++ ys) w↔∃ a b,w=a ++ b∧LgC xs a∧LgC ys b:=by
 induction xs with
 | nil =>
  intro w
  constructor
  ·exact fun h=>⟨[],w,rfl,(lgc_nil _).2 rfl,h⟩
  ·rintro ⟨a,b,rfl,ha,hb⟩
   rw [lgc_nil] at ha
   rw [ha];exact hb
 | cons t xs ih =>
  intro w
  rw [List.cons_append,lgc_cons]
  constructor
  ·rintro ⟨a,b,rfl,ha,hb⟩
   obtain ⟨c,d,rfl,hc,hd⟩:=(ih b).1 hb
   exact ⟨a ++ c,d,by rw [List.append_assoc],(lgc_cons _ _ _).2 ⟨a,c,rfl,ha,hc⟩,hd⟩
  ·rintro ⟨a,b,rfl,ha,hb⟩
   obtain ⟨c,d,rfl,hc,hd⟩:=(lgc_cons _ _ _).1 ha
   exact ⟨c,d ++ b,by rw [List.append_assoc],hc,(ih _).2 ⟨d,b,rfl,hd,hb⟩⟩
theorem lga_mem (ts:List T) (w:List Nat):LgA ts w↔∃ t∈ts,Lg t w:=by
 induction ts with
 | nil=>rw [lga_nil];simp
 | cons t ts ih=>rw [lga_cons,ih];simp
theorem pow_iff {L M:List Nat→Prop} (h:∀ w,L w↔M w):∀ n w,PowL L n w↔PowL M n w
 | 0,_=>Iff.rfl
 | n+1,w=>by
  rw [PowL,PowL]
  exact ⟨fun ⟨a,b,e,x,y⟩=>⟨a,b,e,(h a).1 x,(pow_iff h n b).1 y⟩,fun ⟨a,b,e,x,y⟩=>⟨a,b,e,(h a).2 x,(pow_iff h n b).2 y⟩⟩
theorem pow_pad {L:List Nat→Prop} (h:L []) {n m:Nat} {w:List Nat} (hnm:n≤m) (hw:PowL L n w):PowL L m w:=by
 induction hnm with
 | refl=>exact hw
 | step _ ih=>exact ⟨[],w,rfl,h,ih⟩
theorem pow_none {L:List Nat→Prop} (h:∀ w,¬ L w) {n:Nat} {w:List Nat} (hw:PowL L n w):n=0∧w=[]:=by
 cases n with
 | zero=>exact ⟨rfl,hw⟩
 | succ n=>obtain ⟨a,_,_,ha,_⟩:=hw;exact absurd ha (h a)
theorem pow_eps {L:List Nat→Prop} (h:∀ w,L w↔w=[]):∀ (n:Nat) (w:List Nat),PowL L n w↔w=[]
 | 0,_=>Iff.rfl
 | n+1,w=>by
  constructor
  ·rintro ⟨a,b,rfl,ha,hb⟩
   rw [(h a).1 ha,(pow_eps h n b).1 hb];rfl
  ·rintro rfl
   exact ⟨[],[],rfl,(h []).2 rfl,(pow_eps h n []).2 rfl⟩
theorem pow_once {L:List Nat→Prop} (w:List Nat):PowL L 1 w↔L w:=by
 constructor
 ·rintro ⟨a,b,rfl,ha,hb⟩
  rw [show b=[] from hb,List.append_nil];exact ha
 ·exact fun h=>⟨w,[],by simp,h,rfl⟩
theorem z4_no {C:Nat→Nat} (h:z4 C=true) {b:Nat} (hb:b<256):hasB C b=false:=by
 obtain ⟨h0,h1,h2,h3⟩:=of_decide_eq_true h
 have h4:C (b / 64)=0:=by
  have:b / 64=0∨b / 64=1∨b / 64=2∨b / 64=3:=by omega
  rcases this with e | e | e | e <;> rw [e] <;> assumption
 unfold hasB
 rw [h4,Nat.zero_testBit]
theorem eq4_has {A B:Nat→Nat} (h:eq4 A B=true) {b:Nat} (hb:b<256):hasB A b=hasB B b:=by
 obtain ⟨h0,h1,h2,h3⟩:=of_decide_eq_true h
 have h4:A (b / 64)=B (b / 64):=by
  have:b / 64=0∨b / 64=1∨b / 64=2∨b / 64=3:=by omega
  rcases this with e | e | e | e <;> rw [e] <;> assumption
 unfold hasB
 rw [h4]
theorem wash_has (C:Nat→Nat) {b:Nat} (hb:b<256):hasB (wash C) b=hasB C b:=by
 unfold hasB wash
 rw [if_pos (by omega)]
mutual
theorem lg_void:∀ (t:T),vdT t=true→∀ w,¬ Lg t w
 | .node k C lo hi ps,h,w,hw=>by
  rw [vdT] at h
  split at h
  ·rename_i e
   obtain ⟨b,hb,hc,_⟩:=(lg_one e w).1 hw
   rw [z4_no h hb] at hc;cases hc
  ·split at h
   ·rename_i e
    exact lgc_void ps h w ((lg_two e w).1 hw)
   ·split at h
    ·rename_i e
     exact lga_void ps h w ((lg_three e w).1 hw)
    ·split at h
     ·rename_i e
      rw [Bool.and_eq_true,decide_eq_true_eq] at h
      obtain ⟨n,h1,_,h2⟩:=(lg_four (by omega) (by omega) (by omega) (by omega) w).1 hw
      have:=pow_none (lgc_void ps h.2) h2
      omega
     ·cases h
theorem lgc_void:∀ (ts:List T),vdAny ts=true→∀ w,¬ LgC ts w
 | [],h,_,_=>by rw [vdAny] at h;cases h
 | t :: ts,h,w,hw=>by
  rw [vdAny,Bool.or_eq_true] at h
  obtain ⟨a,b,_,ha,hb⟩:=(lgc_cons _ _ _).1 hw
  rcases h with h | h
  ·exact lg_void t h a ha
  ·exact lgc_void ts h b hb
theorem lga_void:∀ (ts:List T),vdAll ts=true→∀ w,¬ LgA ts w
 | [],_,w,hw=>(lga_nil w).1 hw
 | t :: ts,h,w,hw=>by
  rw [vdAll,Bool.and_eq_true] at h
  rcases (lga_cons _ _ _).1 hw with hw | hw
  ·exact lg_void t h.1 w hw
  ·exact lga_void ts h.2 w hw
end
theorem bnd_le {lo hi:Int} (h:bnd lo hi=true):0≤lo∧(hi = -1∨lo≤hi):=by
 have:=of_decide_eq_true h
 omega
mutual
theorem lg_null:∀ (t:T),okT t=true→nuT t=true→Lg t []
 | .node k C lo hi ps,hok,h=>by
  have hs:=lgs_null ps (ok_parts hok)
  rw [nuT] at h
  split at h
  ·rename_i e;exact (lg_zero e _).2 rfl
  ·split at h
   ·rename_i e;exact (lg_two e _).2 (hs.1 h)
   ·split at h
    ·rename_i e;exact (lg_three e _).2 (hs.2 h)
    ·split at h
     ·rename_i e
      have hk:=of_decide_eq_true (ok_kind hok)
      have hb:bnd lo hi=true∧ps.length=1:=by
       rcases hk with h | h | h | h
       ·omega
       ·omega
       ·omega
       ·exact ⟨h.2.2.2,h.2.2.1⟩
      have hb2:=bnd_le hb.1
      refine (lg_four (by omega) (by omega) (by omega) (by omega) _).2 ⟨lo.toNat,by omega,by omega,?_⟩
      rw [Bool.or_eq_true,decide_eq_true_eq] at h
      rcases h with h | h
      ·rw [h];rfl
      ·have h1:LgC ps []:=by
        match ps,hb.2,hs,h with
        | [p],_,hs,h=>exact hs.1 (by rw [nuAll,nuAll,Bool.and_true];rw [nuAny,nuAny,Bool.or_false] at h;exact h)
       exact pow_pad h1 (Nat.zero_le _) rfl
     ·cases h
theorem lgs_null:∀ (ts:List T),oksT ts=true→(nuAll ts=true→LgC ts [])∧(nuAny ts=true→LgA ts [])
 | [],_=>⟨fun _=>(lgc_nil _).2 rfl,fun h=>by rw [nuAny] at h;cases h⟩
 | t :: ts,hok=>by
  rw [oksT,Bool.and_eq_true] at hok
  have h1:=lg_null t hok.1
  have h2:=lgs_null ts hok.2
  refine ⟨fun h=>?_,fun h=>?_⟩
  ·rw [nuAll,Bool.and_eq_true] at h
   exact (lgc_cons _ _ _).2 ⟨[],[],rfl,h1 h.1,h2.1 h.2⟩
  ·rw [nuAny,Bool.or_eq_true] at h
   rcases h with h | h
   ·exact (lga_cons _ _ _).2 (.inl (h1 h))
   ·exact (lga_cons _ _ _).2 (.inr (h2.2 h))
end
mutual
theorem lg_like:∀ a b:T,likeT a b=true→∀ w,Lg a w↔Lg b w
 | .node k C lo hi ps,.node k' C' lo' hi' qs,h,w=>by
  rw [likeT,Bool.and_eq_true] at h
  obtain ⟨rfl,hC,rfl,rfl,hl⟩:=of_decide_eq_true h.1
  have hs:=lgs_like ps qs hl h.2
  rw [Lg,Lg]
  simp only
  split
  ·exact Iff.rfl
  ·split
   ·constructor
    ·rintro ⟨b,hb,hc,e⟩;exact ⟨b,hb,by rw [← eq4_has hC hb];exact hc,e⟩
    ·rintro ⟨b,hb,hc,e⟩;exact ⟨b,hb,by rw [eq4_has hC hb];exact hc,e⟩
   ·split
    ·exact (hs w).1
    ·split
     ·exact (hs w).2
     ·exact ⟨fun ⟨n,h1,h2,h3⟩=>⟨n,h1,h2,(pow_iff (fun v=>(hs v).1) n w).1 h3⟩,fun ⟨n,h1,h2,h3⟩=>⟨n,h1,h2,(pow_iff (fun v=>(hs v).1) n w).2 h3⟩⟩
theorem lgs_like:∀ xs ys:List T,xs.length=ys.length→likesT xs ys=true→∀ w,(LgC xs w↔LgC ys w)∧(LgA xs w↔LgA ys w)
 | [],[],_,_,w=>⟨Iff.rfl,Iff.rfl⟩
 | [],_ :: _,h,_,_=>by simp at h
 | _ :: _,[],h,_,_=>by simp at h
 | x :: xs,y :: ys,hl,h,w=>by
  rw [likesT,Bool.and_eq_true] at h
  have h1:=lg_like x y h.1
  have h2:=lgs_like xs ys (by simpa using hl) h.2
  refine ⟨?_,?_⟩
  ·rw [lgc_cons,lgc_cons]
   exact ⟨fun ⟨a,b,e,p,q⟩=>⟨a,b,e,(h1 a).1 p,(h2 b).1.1 q⟩,fun ⟨a,b,e,p,q⟩=>⟨a,b,e,(h1 a).2 p,(h2 b).1.2 q⟩⟩
  ·rw [lga_cons,lga_cons,h1 w,(h2 w).2]
end
theorem lg_kind2 {t:T} (h:t.kind=2) (w:List Nat):Lg t w↔LgC t.ps w:=by
 cases t with
 | node k C lo hi ps=>exact lg_two h w
theorem lg_kind3 {t:T} (h:t.kind=3) (w:List Nat):Lg t w↔LgA t.ps w:=by
 cases t with
 | node k C lo hi ps=>exact lg_three h w
theorem lg_kind0 {t:T} (h:t.kind=0) (w:List Nat):Lg t w↔w=[]:=by
 cases t with
 | node k C lo hi ps=>exact lg_zero h w
theorem lgc_spread (l:List T):∀ w,LgC (spreadT 2 l) w↔LgC l w:=by
 induction l with
 | nil=>intro w;rfl
 | cons t l ih =>
  intro w
  rw [spreadT,lgc_append,lgc_cons]
  have h:∀ a,LgC (if t.kind=2 then t.ps else [t]) a↔Lg t a:=fun a=>by
   split
   ·rename_i e;exact (lg_kind2 e a).symm
   ·exact lgc_one t a
  exact ⟨fun ⟨a,b,e,p,q⟩=>⟨a,b,e,(h a).1 p,(ih b).1 q⟩,fun ⟨a,b,e,p,q⟩=>⟨a,b,e,(h a).2 p,(ih b).2 q⟩⟩
theorem lga_append (xs ys:List T) (w:List Nat):LgA (xs ++ ys) w↔LgA xs w∨LgA ys w:=by
 rw [lga_mem,lga_mem,lga_mem]
 constructor
 ·rintro ⟨t,ht,h⟩
  rcases List.mem_append.1 ht with ht | ht
  ·exact .inl ⟨t,ht,h⟩
  ·exact .inr ⟨t,ht,h⟩
 ·rintro (⟨t,ht,h⟩ | ⟨t,ht,h⟩)
  ·exact ⟨t,List.mem_append.2 (.inl ht),h⟩
  ·exact ⟨t,List.mem_append.2 (.inr ht),h⟩
theorem lga_spread (l:List T):∀ w,LgA (spreadT 3 l) w↔LgA l w:=by
 induction l with
 | nil=>intro w;rfl
 | cons t l ih =>
  intro w
  rw [spreadT,lga_append,lga_cons,ih]
  have h:LgA (if t.kind=3 then t.ps else [t]) w↔Lg t w:=by
   split
   ·rename_i e;exact (lg_kind3 e w).symm
   ·rw [lga_cons,lga_nil,or_false]
  rw [h]
theorem lgc_left (a:List T):∀ l w,LgC (leftT 2 l a) w↔LgC (l ++ a) w:=by
 induction a with
 | nil=>intro l w;rw [leftT,List.append_nil]
 | cons t a ih =>
  intro l w
  rw [leftT,ih]
  split
  ·rename_i hd
   have e:t.kind=0:=by
    unfold dropT at hd
    rw [if_pos rfl] at hd
    exact of_decide_eq_true hd
   rw [lgc_append,lgc_append]
   have h:∀ b,LgC (t :: a) b↔LgC a b:=fun b=>by
    rw [lgc_cons]
    constructor
    ·rintro ⟨c,d,rfl,hc,hd⟩
     rw [(lg_kind0 e c).1 hc];exact hd
    ·exact fun h=>⟨[],b,rfl,(lg_kind0 e _).2 rfl,h⟩
   exact ⟨fun ⟨x,y,e,p,q⟩=>⟨x,y,e,p,(h y).2 q⟩,fun ⟨x,y,e,p,q⟩=>⟨x,y,e,p,(h y).1 q⟩⟩
  ·rw [List.append_assoc];rfl
theorem lga_left (a:List T):∀ l w,LgA (leftT 3 l a) w↔LgA l w∨LgA a w:=by
 induction a with
 | nil=>intro l w;rw [leftT,lga_nil,or_false]
 | cons t a ih =>
  intro l w
  rw [leftT,ih,lga_cons]
  split
  ·rename_i hd
   unfold dropT at hd
   rw [if_neg (by decide),Bool.or_eq_true] at hd
   constructor
   ·rintro (h | h)
    ·exact .inl h
    ·exact .inr (.inr h)
   ·rintro (h | h | h)
    ·exact .inl h
    ·rcases hd with hd | hd
     ·exact absurd h (lg_void t hd w)
     ·rw [List.any_eq_true] at hd
      obtain ⟨u,hu,hl⟩:=hd
      exact .inl ((lga_mem _ _).2 ⟨u,hu,(lg_like u t hl w).2 h⟩)
    ·exact .inr h
  ·rw [lga_append,lga_cons,lga_nil,or_false,or_assoc]
theorem lg_oneof2:∀ (l:List T) (w:List Nat),Lg (oneOf 2 l) w↔LgC l w
 | [],w=>by rw [oneOf,lg_zero rfl,lgc_nil]
 | [t],w=>by rw [oneOf,lgc_one]
 | t :: u :: ts,w=>by rw [oneOf,lg_two rfl]
theorem lg_oneof3:∀ (l:List T) (w:List Nat),l≠[]→(Lg (oneOf 3 l) w↔LgA l w)
 | [],_,h=>absurd rfl h
 | [t],w,_=>by rw [oneOf,lga_cons,lga_nil,or_false]
 | t :: u :: ts,w,_=>by rw [oneOf,lg_three rfl]
mutual
theorem lg_sim:∀ t:T,okT t=true→∀ w,Lg (simT t) w↔Lg t w
 | .node k C lo hi ps,hok,w=>by
  have hs:=lgs_sim ps (ok_parts hok)
  have hk:=of_decide_eq_true (ok_kind hok)
  rw [simT]
  split
  ·rename_i hv
   exact ⟨fun h=>absurd h (lg_void emptyT vd_empty w),fun h=>absurd h (lg_void _ hv w)⟩
  ·rename_i hv
   have hv2:vdT (.node k C lo hi ps)=false:=by simpa using hv
   split
   ·rename_i hk2
    by_cases e:k=0
    ·rw [lg_zero e,lg_zero e]
    ·have e:k=1:=by rcases hk with h | h | h | h <;> omega
     rw [lg_one e,lg_one e]
     exact ⟨fun ⟨b,hb,hc,h⟩=>⟨b,hb,by rw [← wash_has C hb];exact hc,h⟩,fun ⟨b,hb,hc,h⟩=>⟨b,hb,by rw [wash_has C hb];exact hc,h⟩⟩
   ·split
    ·rename_i e
     have hb:bnd lo hi=true∧ps.length=1:=by
      rcases hk with h | h | h | h
      ·omega
      ·omega
      ·omega
      ·exact ⟨h.2.2.2,h.2.2.1⟩
     have hb2:=bnd_le hb.1
     match ps,hb.2,hs,hv2,hok with
     | [p],_,hs,hv2,hok =>
      have hp:∀ v,Lg (simT p) v↔Lg p v:=fun v=>by
       have:=(hs v).1
       rw [simsT,simsT,lgc_one,lgc_one] at this
       exact this
      have hokp:okT p=true:=by have:=ok_parts hok;rw [oksT,oksT,Bool.and_true] at this;exact this
      rw [simsT]
      show Lg (rep4 lo hi (simT p)) w↔_
      rw [lg_four (by omega) (by omega) (by omega) (by omega)]
      have hpw:∀ n v,PowL (LgC [p]) n v↔PowL (Lg (simT p)) n v:=pow_iff fun v=>by rw [lgc_one,hp v]
      unfold rep4
      split
      ·rename_i h
       rw [lg_zero rfl]
       by_cases h0:hi=0
       ·constructor
        ·rintro rfl;exact ⟨0,by omega,by omega,rfl⟩
        ·rintro ⟨n,h1,h2,h3⟩
         have:n=0:=by omega
         subst this
         exact h3
       ·by_cases h1:(simT p).kind=0
        ·have he:∀ v,Lg (simT p) v↔v=[]:=lg_kind0 h1
         constructor
         ·rintro rfl;exact ⟨lo.toNat,by omega,by omega,(hpw _ _).2 ((pow_eps he _ _).2 rfl)⟩
         ·rintro ⟨n,_,_,h3⟩
          exact (pow_eps he n w).1 ((hpw n w).1 h3)
        ·have h2:vdT (simT p)=true:=by rcases h with h | h | h;exact absurd h h0;exact absurd h h1;exact h
         have h3:vdT p=true:=by
          cases hvp:vdT p with
          | true=>rfl
          | false=>have:=ln_vd (sim_ln p hokp hvp);rw [h2] at this;cases this
         have h4:¬ 0<lo:=by
          rw [vdT,if_neg (by omega),if_neg (by omega),if_neg (by omega),if_pos e,vdAny,vdAny,h3] at hv2
          simpa using hv2
         constructor
         ·rintro rfl;exact ⟨0,by omega,by omega,rfl⟩
         ·rintro ⟨n,_,_,h5⟩
          exact (pow_none (lgc_void [p] (by rw [vdAny,h3];rfl)) h5).2
      ·rename_i h
       split
       ·rename_i h1
        rw [h1.1,h1.2]
        constructor
        ·exact fun h=>⟨1,by omega,by omega,(hpw _ _).2 ((pow_once w).2 h)⟩
        ·rintro ⟨n,h3,h4,h5⟩
         have:n=1:=by omega
         subst this
         exact (pow_once w).1 ((hpw _ _).1 h5)
       ·rw [lg_four (by omega) (by omega) (by omega) (by omega)]
        have hpw2:∀ n v,PowL (LgC [simT p]) n v↔PowL (Lg (simT p)) n v:=pow_iff fun v=>lgc_one _ v
        split
        ·rename_i hn
         have hne:LgC [p] []:=by
          have hvs:vdT p=false:=by
           cases hvp:vdT p with
           | false=>rfl
           | true=>exact absurd (.inr (.inr (by rw [sim_void hvp];exact vd_empty))) h
          rw [lgc_one]
          exact lg_null p hokp (by rw [← sim_nu p hokp hvs];exact hn)
         constructor
         ·rintro ⟨n,h3,h4,h5⟩
          have h6:=(hpw n w).2 ((hpw2 n w).1 h5)
          exact ⟨max n lo.toNat,by omega,by omega,pow_pad hne (Nat.le_max_left _ _) h6⟩
         ·rintro ⟨n,h3,h4,h5⟩
          exact ⟨n,by omega,h4,(hpw2 n w).2 ((hpw n w).1 h5)⟩
        ·exact ⟨fun ⟨n,h3,h4,h5⟩=>⟨n,h3,h4,(hpw n w).2 ((hpw2 n w).1 h5)⟩,fun ⟨n,h3,h4,h5⟩=>⟨n,h3,h4,(hpw2 n w).2 ((hpw n w).1 h5)⟩⟩
    ·rename_i e
     have hk23:k=2∨k=3:=by rcases hk with h | h | h | h <;> omega
     rcases hk23 with rfl | rfl
     ·rw [lg_oneof2,lgc_left,List.nil_append,lgc_spread,lg_two rfl]
      exact (hs w).1
     ·have hne:leftT 3 [] (spreadT 3 (simsT ps))≠[]:=by
       have hv3:vdAll ps=false:=by
        rw [vdT,if_neg (by omega),if_neg (by omega),if_pos rfl] at hv2
        exact hv2
       obtain ⟨p,hp,hpv⟩:=vdAll_no.1 hv3
       refine left_some _ _ (.inr ?_)
       exact spread_some (u:=simT p) (by rw [sims_map];exact List.mem_map_of_mem hp) (ln_vd (sim_ln p (oks_mem (ok_parts hok) p hp) hpv))
      rw [lg_oneof3 _ _ hne,lga_left,lga_nil,false_or,lga_spread,lg_three rfl]
      exact (hs w).2
theorem lgs_sim:∀ ts:List T,oksT ts=true→∀ w,(LgC (simsT ts) w↔LgC ts w)∧(LgA (simsT ts) w↔LgA ts w)
 | [],_,w=>by rw [simsT];exact ⟨Iff.rfl,Iff.rfl⟩
 | t :: ts,h,w=>by
  rw [oksT,Bool.and_eq_true] at h
  have h1:=lg_sim t h.1
  have h2:=lgs_sim ts h.2
  rw [simsT]
  refine ⟨?_,?_⟩
  ·rw [lgc_cons,lgc_cons]
   exact ⟨fun ⟨a,b,e,p,q⟩=>⟨a,b,e,(h1 a).1 p,(h2 b).1.1 q⟩,fun ⟨a,b,e,p,q⟩=>⟨a,b,e,(h1 a).2 p,(h2 b).1.2 q⟩⟩
  ·rw [lga_cons,lga_cons,h1 w,(h2 w).2]
end
end Go.Proofs.YtnmjicfpmkoldaaGreatDoor

/- The automaton of a simple tree, its counts among it, matches just the tree's words: pure, by the tree's parts.
   Conditions: those that each theorem states. -/
namespace Go.Proofs.YtnmjicfpmkoldaaGreatDoor
def arX (m:PM) (q:Nat):List Nat:=m.ars.getD q []
def seX (m:PM) (q:Nat):Nat→Nat:=m.sets.getD q zeros
abbrev Cfg:=Nat×(Nat→Int)
def BegA (m:PM) (fi ar:Nat) (x:Nat→Int) (b:Nat) (c:Cfg):Prop:=b<256∧fi.testBit c.1=true∧hasB (seX m c.1) b=true∧c.2=toX (arX m c.1) x ar none
def StpA (m:PM) (J:List Jt) (c:Cfg) (b:Nat) (c':Cfg):Prop:=∃ j∈J,j.fr.testBit c.1=true∧j.tt.testBit c'.1=true∧b<256∧hasB (seX m c'.1) b=true∧madeX m (arX m c.1) (arX m c'.1) c.2 j.kp j.ag=some c'.2
def RunA (m:PM) (J:List Jt):Cfg→List Nat→Cfg→Prop
 | c,[],e=>e=c
 | c,b :: w,e=>∃ d,StpA m J c b d∧RunA m J d w e
def AccA (m:PM) (la ar:Nat) (c:Cfg):Prop:=la.testBit c.1=true∧leftB m (arX m c.1) c.2 ar=true
theorem run_append {m:PM} {J:List Jt}:∀ {c d e:Cfg} {u v:List Nat},RunA m J c u d→RunA m J d v e→RunA m J c (u ++ v) e
 | c,d,e,[],v,h,h'=>by rw [show d=c from h] at h';exact h'
 | c,d,e,b :: u,v,⟨d1,h1,h2⟩,h'=>⟨d1,h1,run_append h2 h'⟩
theorem stp_mono {m:PM} {J K:List Jt} (h:∀ j∈J,j∈K) {c d:Cfg} {b:Nat}:StpA m J c b d→StpA m K c b d
 | ⟨j,hj,r⟩=>⟨j,h j hj,r⟩
theorem run_mono {m:PM} {J K:List Jt} (h:∀ j∈J,j∈K):∀ {w:List Nat} {c e:Cfg},RunA m J c w e→RunA m K c w e
 | [],_,_,r=>r
 | _ :: _,_,_,⟨d,h1,h2⟩=>⟨d,stp_mono h h1,run_mono h h2⟩
theorem run_in {m:PM} {J:List Jt} {a b:Nat} (hJ:∀ j∈J,JtIn a b j):∀ {w:List Nat} {c e:Cfg},(a<c.1∧c.1≤b)→RunA m J c w e→a<e.1∧e.1≤b
 | [],_,_,hc,r=>by rw [show _=_ from r];exact hc
 | _ :: _,_,_,_,⟨d,⟨j,hj,_,h2,_⟩,r⟩=>run_in hJ ((hJ j hj).tt _ h2) r
theorem toX_low {lt:List Nat} {x:Nat→Int} {kp:Nat} {v:Option Int} {i:Nat} (h:i<kp):toX lt x kp v i=x i:=by unfold toX;rw [if_pos h]
theorem made_low {m:PM} {lf lt:List Nat} {x y:Nat→Int} {kp:Nat} {ag:Bool} (h:madeX m lf lt x kp ag=some y) {i:Nat} (hi:i<kp):y i=x i:=by
 unfold madeX at h
 cases ag with
 | false =>
  simp only [Bool.false_eq_true,if_false] at h
  split at h
  ·rw [← Option.some.inj h,toX_low hi]
  ·cases h
 | true =>
  simp only [if_true] at h
  obtain ⟨v,_,h⟩:=Option.bind_eq_some_iff.1 h
  split at h
  ·rw [← Option.some.inj h,toX_low hi]
  ·cases h
theorem run_low {m:PM} {J:List Jt} {ar:Nat} (hJ:∀ j∈J,ar≤j.kp):∀ {w:List Nat} {c e:Cfg},RunA m J c w e→∀ i,i<ar→e.2 i=c.2 i
 | [],_,_,r,_,_=>by rw [show _=_ from r]
 | _ :: _,_,_,⟨d,⟨j,hj,_,_,_,_,h⟩,r⟩,i,hi=>by rw [run_low hJ r i hi,made_low h (Nat.lt_of_lt_of_le hi (hJ j hj))]
structure Rec (m:PM) (ar:Nat) (f:Fc) (J:List Jt) (a b:Nat) (L:List Nat→Prop):Prop where
 inF:FcIn a b f
 inJ:∀ j∈J,JtIn a b j
 kp:∀ j∈J,ar≤j.kp
 em:f.em=true↔L []
 wd:∀ (x:Nat→Int) (c:Nat) (w:List Nat),L (c :: w)↔∃ d e,BegA m f.fi ar x c d∧RunA m J d w e∧AccA m f.la ar e
theorem Rec.lang {m:PM} {ar:Nat} {f:Fc} {J:List Jt} {a b:Nat} {L M:List Nat→Prop} (h:Rec m ar f J a b L) (e:∀ w,M w↔L w):Rec m ar f J a b M :=
 ⟨h.inF,h.inJ,h.kp,by rw [e];exact h.em,fun x c w=>by rw [e];exact h.wd x c w⟩
theorem Rec.joints {m:PM} {ar:Nat} {f:Fc} {J K:List Jt} {a b:Nat} {L:List Nat→Prop} (h:Rec m ar f J a b L) (e:∀ j,j∈K↔j∈J):Rec m ar f K a b L :=
 ⟨h.inF,fun j hj=>h.inJ j ((e j).1 hj),fun j hj=>h.kp j ((e j).1 hj),h.em,fun x c w=>by
  rw [h.wd x c w]
  exact ⟨fun ⟨d,e',p,q,r⟩=>⟨d,e',p,run_mono (fun j hj=>(e j).2 hj) q,r⟩,fun ⟨d,e',p,q,r⟩=>⟨d,e',p,run_mono (fun j hj=>(e j).1 hj) q,r⟩⟩⟩
theorem run_split {m:PM} {K:List Jt} {X:Jt}:∀ {w:List Nat} {d e:Cfg},RunA m (K ++ [X]) d w e→RunA m K d w e∨∃ w1 c2 w2 mid d2,w=w1 ++ c2 :: w2∧RunA m K d w1 mid∧StpA m [X] mid c2 d2∧RunA m (K ++ [X]) d2 w2 e
 | [],_,_,r=>.inl r
 | b :: w,d,e,⟨d1,⟨j,hj,hs⟩,r⟩=>by
  rcases List.mem_append.1 hj with hj | hj
  ·rcases run_split r with h | ⟨w1,c2,w2,mid,d2,rfl,h1,h2,h3⟩
   ·exact .inl ⟨d1,⟨j,hj,hs⟩,h⟩
   ·exact .inr ⟨b :: w1,c2,w2,mid,d2,rfl,⟨d1,⟨j,hj,hs⟩,h1⟩,h2,h3⟩
  ·exact .inr ⟨[],b,w,d,d1,rfl,rfl,⟨j,hj,hs⟩,r⟩
theorem over_plain {m:PM} {la fi ar:Nat} {c d:Cfg} {b:Nat}:StpA m [⟨la,fi,ar,false⟩] c b d↔AccA m la ar c∧BegA m fi ar c.2 b d:=by
 constructor
 ·rintro ⟨j,hj,h1,h2,h3,h4,h5⟩
  rw [List.mem_singleton.1 hj] at h1 h2 h5
  unfold madeX at h5
  simp only [Bool.false_eq_true,if_false] at h5
  split at h5
  ·rename_i hl
   exact ⟨⟨h1,hl⟩,h3,h2,h4,(Option.some.inj h5).symm⟩
  ·cases h5
 ·rintro ⟨⟨h1,hl⟩,h3,h2,h4,h5⟩
  refine ⟨_,List.mem_singleton.2 rfl,h1,h2,h3,h4,?_⟩
  unfold madeX
  simp only [Bool.false_eq_true,if_false]
  rw [if_pos hl,h5]
theorem rec_eps {m:PM} {ar a:Nat} {L:List Nat→Prop} (h:∀ w,L w↔w=[]):Rec m ar ⟨0,0,true⟩ [] a a L :=
 ⟨⟨bt_zero _ _,bt_zero _ _⟩,fun j hj=>(by cases hj),fun j hj=>(by cases hj),by rw [h];simp,fun x c w=>by
  rw [h]
  constructor
  ·intro e;cases e
  ·rintro ⟨d,e,⟨_,h1,_⟩,_⟩;simp at h1⟩
theorem rec_none {m:PM} {ar a:Nat} {L:List Nat→Prop} (h:∀ w,¬ L w):Rec m ar ⟨0,0,false⟩ [] a a L :=
 ⟨⟨bt_zero _ _,bt_zero _ _⟩,fun j hj=>(by cases hj),fun j hj=>(by cases hj),⟨fun e=>(by cases e),fun e=>absurd e (h _)⟩,fun x c w=>by
  constructor
  ·intro e;exact absurd e (h _)
  ·rintro ⟨d,e,⟨_,h1,_⟩,_⟩;simp at h1⟩
theorem bit_one {n p:Nat}:(2 ^ n).testBit p=true↔p=n:=by
 rw [Nat.testBit_two_pow]
 simp only [decide_eq_true_eq]
 omega
theorem rec_byte {m:PM} {al:List Nat} {a:Nat} {C:Nat→Nat} (hs:seX m (a+1)=C) (ha:arX m (a+1)=al) {L:List Nat→Prop} (h:∀ w,L w↔∃ b,b<256∧hasB C b=true∧w=[b]) :
  Rec m al.length ⟨2 ^ (a+1),2 ^ (a+1),false⟩ [] a (a+1) L :=
 ⟨⟨bt_one a,bt_one a⟩,fun j hj=>(by cases hj),fun j hj=>(by cases hj),by rw [h];simp,fun x c w=>by
  rw [h]
  constructor
  ·rintro ⟨b,h1,h2,e⟩
   obtain ⟨rfl,rfl⟩ : c=b∧w=[]:=by simpa using e
   exact ⟨(a+1,toX (arX m (a+1)) x al.length none),_,⟨h1,bit_one.2 rfl,by rw [hs];exact h2,rfl⟩,rfl,bit_one.2 rfl,by show leftB m (arX m (a+1)) _ _=true;rw [ha];exact left_end (Nat.le_refl _)⟩
  ·rintro ⟨d,e,⟨h1,h2,h3,_⟩,hr,_⟩
   rw [bit_one.1 h2,hs] at h3
   cases w with
   | nil=>exact ⟨c,h1,h3,rfl⟩
   | cons b w=>obtain ⟨_,⟨j,hj,_⟩,_⟩:=hr;cases hj⟩
theorem rec_or {m:PM} {ar:Nat} {f g:Fc} {J K:List Jt} {a0 a b:Nat} {L1 L2:List Nat→Prop} (h0:a0≤a) (h1:Rec m ar f J a0 a L1) (h2:Rec m ar g K a b L2) (hab:a≤b) :
  Rec m ar (orF f g) (J ++ K) a0 b (fun w=>L1 w∨L2 w):=by
 refine ⟨⟨bt_or (h1.inF.fi.wid (Nat.le_refl _) hab) (h2.inF.fi.wid h0 (Nat.le_refl _)),bt_or (h1.inF.la.wid (Nat.le_refl _) hab) (h2.inF.la.wid h0 (Nat.le_refl _))⟩,fun j hj=>?_,fun j hj=>?_,?_,fun x c w=>?_⟩
 ·rcases List.mem_append.1 hj with hj | hj
  ·exact (h1.inJ j hj).wid (Nat.le_refl _) hab
  ·exact (h2.inJ j hj).wid h0 (Nat.le_refl _)
 ·rcases List.mem_append.1 hj with hj | hj
  ·exact h1.kp j hj
  ·exact h2.kp j hj
 ·show (f.em || g.em)=true↔_
  rw [Bool.or_eq_true,h1.em,h2.em]
 ·rw [h1.wd x c w,h2.wd x c w]
  have hin:∀ {w:List Nat} {d e:Cfg},RunA m (J ++ K) d w e→((a0<d.1∧d.1≤a)→RunA m J d w e)∧((a<d.1∧d.1≤b)→RunA m K d w e):=by
   intro w
   induction w with
   | nil=>exact fun r=>⟨fun _=>r,fun _=>r⟩
   | cons c w ih =>
    rintro d e ⟨d1,⟨j,hj,k1,k2,k3⟩,r⟩
    refine ⟨fun hd=>?_,fun hd=>?_⟩
    ·rcases List.mem_append.1 hj with hj | hj
     ·exact ⟨d1,⟨j,hj,k1,k2,k3⟩,(ih r).1 ((h1.inJ j hj).tt _ k2)⟩
     ·have:=(h2.inJ j hj).fr _ k1;omega
    ·rcases List.mem_append.1 hj with hj | hj
     ·have:=(h1.inJ j hj).fr _ k1;omega
     ·exact ⟨d1,⟨j,hj,k1,k2,k3⟩,(ih r).2 ((h2.inJ j hj).tt _ k2)⟩
  constructor
  ·rintro (⟨d,e,⟨p1,p2,p3,p4⟩,r,q1,q2⟩ | ⟨d,e,⟨p1,p2,p3,p4⟩,r,q1,q2⟩)
   ·exact ⟨d,e,⟨p1,by show (f.fi ||| g.fi).testBit _=_;rw [Nat.testBit_or,p2];rfl,p3,p4⟩,run_mono (fun j hj=>List.mem_append.2 (.inl hj)) r,by show (f.la ||| g.la).testBit _=_;rw [Nat.testBit_or,q1];rfl,q2⟩
   ·exact ⟨d,e,⟨p1,by show (f.fi ||| g.fi).testBit _=_;rw [Nat.testBit_or,p2,Bool.or_true],p3,p4⟩,run_mono (fun j hj=>List.mem_append.2 (.inr hj)) r,by show (f.la ||| g.la).testBit _=_;rw [Nat.testBit_or,q1,Bool.or_true],q2⟩
  ·rintro ⟨d,e,⟨p1,p2,p3,p4⟩,r,q1,q2⟩
   have p2':(f.fi ||| g.fi).testBit d.1=true:=p2
   have q1':(f.la ||| g.la).testBit e.1=true:=q1
   rw [Nat.testBit_or,Bool.or_eq_true] at p2' q1'
   rcases p2' with p | p
   ·have hd:=h1.inF.fi _ p
    have r1:=(hin r).1 hd
    have he:=run_in h1.inJ hd r1
    rcases q1' with q | q
    ·exact .inl ⟨d,e,⟨p1,p,p3,p4⟩,r1,q,q2⟩
    ·have:=h2.inF.la _ q;omega
   ·have hd:=h2.inF.fi _ p
    have r1:=(hin r).2 hd
    have he:=run_in h2.inJ hd r1
    rcases q1' with q | q
    ·have:=h1.inF.la _ q;omega
    ·exact .inr ⟨d,e,⟨p1,p,p3,p4⟩,r1,q,q2⟩
theorem rec_then {m:PM} {ar:Nat} {f g:Fc} {J K:List Jt} {a0 a b:Nat} {L1 L2:List Nat→Prop} (h0:a0≤a) (h1:Rec m ar f J a0 a L1) (h2:Rec m ar g K a b L2) (hab:a≤b) :
  Rec m ar (thenF f g) (J ++ K ++ [⟨f.la,g.fi,ar,false⟩]) a0 b (fun w=>∃ u v,w=u ++ v∧L1 u∧L2 v):=by
 have hfi:∀ p,(thenF f g).fi.testBit p=true↔f.fi.testBit p=true∨f.em=true∧g.fi.testBit p=true:=fun p=>by
  unfold thenF
  cases f.em <;> simp [Nat.testBit_or]
 have hla:∀ p,(thenF f g).la.testBit p=true↔g.la.testBit p=true∨g.em=true∧f.la.testBit p=true:=fun p=>by
  unfold thenF
  cases g.em <;> simp [Nat.testBit_or]
 refine ⟨⟨fun p hp=>?_,fun p hp=>?_⟩,fun j hj=>?_,fun j hj=>?_,?_,fun x c w=>?_⟩
 ·rcases (hfi p).1 hp with h | ⟨_,h⟩
  ·have:=h1.inF.fi _ h;omega
  ·have:=h2.inF.fi _ h;omega
 ·rcases (hla p).1 hp with h | ⟨_,h⟩
  ·have:=h2.inF.la _ h;omega
  ·have:=h1.inF.la _ h;omega
 ·rcases List.mem_append.1 hj with hj | hj
  ·rcases List.mem_append.1 hj with hj | hj
   ·exact (h1.inJ j hj).wid (Nat.le_refl _) hab
   ·exact (h2.inJ j hj).wid h0 (Nat.le_refl _)
  ·rw [List.mem_singleton.1 hj]
   exact ⟨h1.inF.la.wid (Nat.le_refl _) hab,h2.inF.fi.wid h0 (Nat.le_refl _)⟩
 ·rcases List.mem_append.1 hj with hj | hj
  ·rcases List.mem_append.1 hj with hj | hj
   ·exact h1.kp j hj
   ·exact h2.kp j hj
  ·rw [List.mem_singleton.1 hj]
   exact Nat.le_refl _
 ·show (f.em && g.em)=true↔_
  rw [Bool.and_eq_true,h1.em,h2.em]
  constructor
  ·exact fun h=>⟨[],[],rfl,h.1,h.2⟩
  ·rintro ⟨u,v,e,hu,hv⟩
   obtain ⟨rfl,rfl⟩ : u=[]∧v=[]:=by simpa using e.symm
   exact ⟨hu,hv⟩
 ·have hmJ:∀ j∈J,j∈J ++ K ++ [(⟨f.la,g.fi,ar,false⟩ : Jt)]:=fun j hj=>by simp [hj]
  have hmK:∀ j∈K,j∈J ++ K ++ [(⟨f.la,g.fi,ar,false⟩ : Jt)]:=fun j hj=>by simp [hj]
  have hK:∀ {w:List Nat} {d e:Cfg},(a<d.1∧d.1≤b)→RunA m (J ++ K ++ [⟨f.la,g.fi,ar,false⟩]) d w e→RunA m K d w e:=by
   intro w
   induction w with
   | nil=>exact fun _ r=>r
   | cons c w ih =>
    rintro d e hd ⟨d1,⟨j,hj,k1,k2,k3⟩,r⟩
    rcases List.mem_append.1 hj with hj | hj
    ·rcases List.mem_append.1 hj with hj | hj
     ·have:=(h1.inJ j hj).fr _ k1;omega
     ·exact ⟨d1,⟨j,hj,k1,k2,k3⟩,ih ((h2.inJ j hj).tt _ k2) r⟩
    ·rw [List.mem_singleton.1 hj] at k1
     have:=h1.inF.la _ k1;omega
  have hJ:∀ {w:List Nat} {d e:Cfg},(a0<d.1∧d.1≤a)→RunA m (J ++ K) d w e→RunA m J d w e:=by
   intro w
   induction w with
   | nil=>exact fun _ r=>r
   | cons c w ih =>
    rintro d e hd ⟨d1,⟨j,hj,k1,k2,k3⟩,r⟩
    rcases List.mem_append.1 hj with hj | hj
    ·exact ⟨d1,⟨j,hj,k1,k2,k3⟩,ih ((h1.inJ j hj).tt _ k2) r⟩
    ·have:=(h2.inJ j hj).fr _ k1;omega
  constructor
  ·rintro ⟨u,v,e,hu,hv⟩
   cases u with
   | nil =>
    rw [List.nil_append] at e
    subst e
    obtain ⟨d,e,⟨p1,p2,p3,p4⟩,r,q1,q2⟩:=(h2.wd x c w).1 hv
    exact ⟨d,e,⟨p1,(hfi _).2 (.inr ⟨h1.em.2 hu,p2⟩),p3,p4⟩,run_mono hmK r,(hla _).2 (.inl q1),q2⟩
   | cons c1 u =>
    obtain ⟨rfl,rfl⟩ : c=c1∧w=u ++ v:=by simpa using e
    obtain ⟨d,e1,⟨p1,p2,p3,p4⟩,r,q⟩:=(h1.wd x c u).1 hu
    cases v with
    | nil =>
     rw [List.append_nil]
     exact ⟨d,e1,⟨p1,(hfi _).2 (.inl p2),p3,p4⟩,run_mono hmJ r,(hla _).2 (.inr ⟨h2.em.2 hv,q.1⟩),q.2⟩
    | cons c2 v =>
     obtain ⟨d2,e2,s1,s2,s3⟩:=(h2.wd e1.2 c2 v).1 hv
     refine ⟨d,e2,⟨p1,(hfi _).2 (.inl p2),p3,p4⟩,run_append (run_mono hmJ r) ⟨d2,stp_mono (fun j hj=>?_) (over_plain.2 ⟨q,s1⟩),run_mono hmK s2⟩,(hla _).2 (.inl s3.1),s3.2⟩
     rw [List.mem_singleton.1 hj];simp
  ·rintro ⟨d,e,⟨p1,p2,p3,p4⟩,r,q1,q2⟩
   rcases (hfi _).1 p2 with p | ⟨hm,p⟩
   ·have hd:=h1.inF.fi _ p
    rcases run_split r with h | ⟨w1,c2,w2,mid,d2,rfl,k1,k2,k3⟩
    ·have r1:=hJ hd h
     have he:=run_in h1.inJ hd r1
     rcases (hla _).1 q1 with q | ⟨hm,q⟩
     ·have:=h2.inF.la _ q;omega
     ·exact ⟨c :: w,[],by simp,(h1.wd x c w).2 ⟨d,e,⟨p1,p,p3,p4⟩,r1,q,q2⟩,h2.em.1 hm⟩
    ·obtain ⟨s1,s2⟩:=over_plain.1 k2
     have r1:=hJ hd k1
     have hd2:=h2.inF.fi _ s2.2.1
     have r2:=hK hd2 k3
     have he:=run_in h2.inJ hd2 r2
     rcases (hla _).1 q1 with q | ⟨_,q⟩
     ·exact ⟨c :: w1,c2 :: w2,rfl,(h1.wd x c w1).2 ⟨d,mid,⟨p1,p,p3,p4⟩,r1,s1⟩,(h2.wd mid.2 c2 w2).2 ⟨d2,e,s2,r2,q,q2⟩⟩
     ·have:=h1.inF.la _ q;omega
   ·have hd:=h2.inF.fi _ p
    have r2:=hK hd r
    have he:=run_in h2.inJ hd r2
    rcases (hla _).1 q1 with q | ⟨_,q⟩
    ·exact ⟨[],c :: w,rfl,h1.em.1 hm,(h2.wd x c w).2 ⟨d,e,⟨p1,p,p3,p4⟩,r2,q,q2⟩⟩
    ·have:=h1.inF.la _ q;omega
def PowN (L:List Nat→Prop):Nat→List Nat→Prop
 | 0,w=>w=[]
 | n+1,w=>∃ c a b,w=(c :: a) ++ b∧L (c :: a)∧PowN L n b
theorem pow_of {L:List Nat→Prop}:∀ {k:Nat} {w:List Nat},PowN L k w→PowL L k w
 | 0,_,h=>h
 | _+1,_,⟨c,a,b,e,h,r⟩=>⟨c :: a,b,e,h,pow_of r⟩
theorem pown_of {L:List Nat→Prop}:∀ {n:Nat} {w:List Nat},PowL L n w→∃ k,k≤n∧PowN L k w∧(k=n∨L [])
 | 0,_,h=>⟨0,Nat.le_refl _,h,.inl rfl⟩
 | n+1,w,⟨a,b,e,h,r⟩=>by
  obtain ⟨k,h1,h2,h3⟩:=pown_of r
  cases a with
  | nil=>exact ⟨k,by omega,by rw [e];exact h2,.inr h⟩
  | cons c a=>exact ⟨k+1,by omega,⟨c,a,b,e,h,h2⟩,h3.imp (by omega) id⟩
theorem rec_loop {m:PM} {ar:Nat} {g:Fc} {K:List Jt} {a b:Nat} {Lb L:List Nat→Prop} (h:Rec m ar g K a b Lb) (em:Bool) (hem:em=true↔L []) (hL:∀ c w,L (c :: w)↔∃ k,PowN Lb (k+1) (c :: w)) :
  Rec m ar ⟨g.fi,g.la,em⟩ (K ++ [⟨g.la,g.fi,ar,false⟩]) a b L:=by
 refine ⟨⟨h.inF.fi,h.inF.la⟩,fun j hj=>?_,fun j hj=>?_,hem,fun x c w=>?_⟩
 ·rcases List.mem_append.1 hj with hj | hj
  ·exact h.inJ j hj
  ·rw [List.mem_singleton.1 hj];exact ⟨h.inF.la,h.inF.fi⟩
 ·rcases List.mem_append.1 hj with hj | hj
  ·exact h.kp j hj
  ·rw [List.mem_singleton.1 hj];exact Nat.le_refl _
 have hm:∀ j∈K,j∈K ++ [(⟨g.la,g.fi,ar,false⟩ : Jt)]:=fun j hj=>by simp [hj]
 rw [hL]
 constructor
 ·rintro ⟨k,hk⟩
  induction k generalizing x c w with
  | zero =>
   obtain ⟨c1,u,v,e,h1,h2⟩:=hk
   obtain ⟨rfl,rfl⟩ : c=c1∧w=u ++ v:=by simpa using e
   rw [show v=[] from h2,List.append_nil]
   obtain ⟨d,e1,s1,s2,s3⟩:=(h.wd x c u).1 h1
   exact ⟨d,e1,s1,run_mono hm s2,s3⟩
  | succ k ih =>
   obtain ⟨c1,u,v,e,h1,c2,a2,b2,rfl,h3,h4⟩:=hk
   obtain ⟨rfl,rfl⟩ : c=c1∧w=u ++ c2 :: (a2 ++ b2):=by simpa using e
   obtain ⟨d,e1,s1,s2,s3⟩:=(h.wd x c u).1 h1
   obtain ⟨d2,e2,r1,r2,r3⟩:=ih e1.2 c2 (a2 ++ b2) ⟨c2,a2,b2,rfl,h3,h4⟩
   refine ⟨d,e2,s1,run_append (run_mono hm s2) ⟨d2,stp_mono (fun j hj=>?_) (over_plain.2 ⟨s3,r1⟩),r2⟩,r3⟩
   rw [List.mem_singleton.1 hj];simp
 ·rintro ⟨d,e,s1,s2,s3⟩
  obtain ⟨n,hn⟩ : ∃ n,w.length≤n:=⟨_,Nat.le_refl _⟩
  induction n generalizing x c w d e with
  | zero =>
   obtain rfl:w=[]:=List.eq_nil_of_length_eq_zero (by omega)
   exact ⟨0,c,[],[],rfl,(h.wd x c []).2 ⟨d,e,s1,s2,s3⟩,rfl⟩
  | succ n ih =>
   rcases run_split s2 with r | ⟨w1,c2,w2,mid,d2,rfl,k1,k2,k3⟩
   ·exact ⟨0,c,w,[],by simp,(h.wd x c w).2 ⟨d,e,s1,r,s3⟩,rfl⟩
   ·obtain ⟨q1,q2⟩:=over_plain.1 k2
    obtain ⟨k,hk⟩:=ih mid.2 c2 w2 d2 e q2 k3 s3 (by simp only [List.length_append,List.length_cons] at hn;omega)
    exact ⟨k+1,c,w1,c2 :: w2,rfl,(h.wd x c w1).2 ⟨d,mid,s1,k1,q1⟩,hk⟩
def setX (x:Nat→Int) (i:Nat) (v:Int):Nat→Int:=fun j=>if j=i then v else x j
theorem toX_some {lt:List Nat} {x:Nat→Int} {ar:Nat} {v:Int}:toX lt x ar (some v)=toX lt (setX x ar v) (ar+1) none:=by
 funext i
 unfold toX setX
 by_cases h1:i<ar
 ·rw [if_pos h1,if_pos (by omega),if_neg (by omega)]
 ·rw [if_neg h1]
  by_cases h2:i=ar
  ·rw [if_pos ⟨h2,rfl⟩,if_pos (by omega),if_pos h2];rfl
  ·rw [if_neg (fun h=>h2 h.1),if_neg (show ¬ i<ar+1 by omega)]
   simp
theorem toX_none {lt:List Nat} {x:Nat→Int} {ar:Nat} (h:ar<lt.length):toX lt x ar none=toX lt (setX x ar 1) (ar+1) none:=by
 funext i
 unfold toX setX
 by_cases h1:i<ar
 ·rw [if_pos h1,if_pos (by omega),if_neg (by omega)]
 ·rw [if_neg h1,if_neg (fun h=>by simp at h)]
  by_cases h2:i=ar
  ·rw [if_pos (show i<lt.length by omega),if_pos (show i<ar+1 by omega),if_pos h2]
  ·rw [if_neg (show ¬ i<ar+1 by omega)]
   simp
theorem over_count {m:PM} {la fi ar:Nat} {c d:Cfg} {b:Nat}:StpA m [⟨la,fi,ar,true⟩] c b d↔AccA m la (ar+1) c∧∃ v,nextP (scA m (arX m c.1) ar) (c.2 ar)=some v∧BegA m fi (ar+1) (setX c.2 ar v) b d:=by
 constructor
 ·rintro ⟨j,hj,h1,h2,h3,h4,h5⟩
  rw [List.mem_singleton.1 hj] at h1 h2 h5
  unfold madeX at h5
  simp only [if_true] at h5
  obtain ⟨v,hv,h5⟩:=Option.bind_eq_some_iff.1 h5
  split at h5
  ·rename_i hl
   exact ⟨⟨h1,hl⟩,v,hv,h3,h2,h4,by rw [← toX_some];exact (Option.some.inj h5).symm⟩
  ·cases h5
 ·rintro ⟨⟨h1,hl⟩,v,hv,h3,h2,h4,h5⟩
  refine ⟨_,List.mem_singleton.2 rfl,h1,h2,h3,h4,?_⟩
  unfold madeX
  simp only [if_true]
  rw [hv,Option.bind_some,if_pos hl,h5,toX_some]
def cv (s:Int×Int) (k:Nat):Int:=if s.2 = -1 then min (k:Int) s.1 else k
theorem cv_next {s:Int×Int} (hs:ScOk s) {k:Nat} (h1:1≤k) (_:s.2 = -1∨(k:Int)≤s.2):nextP s (cv s k)=if s.2 = -1∨(k:Int)<s.2 then some (cv s (k+1)) else none:=by
 unfold ScOk at hs
 by_cases g:s.2 = -1
 ·rw [show cv s k=min (k:Int) s.1 from if_pos g,show cv s (k+1)=min ((k+1:Nat):Int) s.1 from if_pos g]
  unfold nextP
  rw [if_neg (show ¬ (min (k:Int) s.1=s.2∨s.2<min (k:Int) s.1∧s.2≠-1) by omega),if_pos (show s.2 = -1∨(k:Int)<s.2 from .inl g)]
  by_cases g2:s.1≤(k:Int)
  ·rw [if_pos ⟨by omega,g⟩];congr 1;omega
  ·rw [if_neg (by omega)];congr 1;omega
 ·rw [show cv s k=(k:Int) from if_neg g,show cv s (k+1)=((k+1:Nat):Int) from if_neg g]
  unfold nextP
  by_cases g2:(k:Int)<s.2
  ·rw [if_neg (by omega),if_neg (by omega),if_pos (.inr g2)];rfl
  ·rw [if_pos (by omega),if_neg (by omega)]
theorem cv_done {s:Int×Int} {k:Nat}:s.1≤cv s k↔s.1≤(k:Int):=by unfold cv;split <;> omega
theorem rec_count {m:PM} {ar:Nat} {g:Fc} {K:List Jt} {a b:Nat} {Lb L:List Nat→Prop} {s:Int×Int} (h:Rec m (ar+1) g K a b Lb) (hs:ScOk s) (hp:∀ q,a<q→q≤b→ar<(arX m q).length∧scA m (arX m q) ar=s)
  (em:Bool) (hem:em=true↔L []) (hL:∀ c w,L (c :: w)↔∃ k:Nat,s.1≤((k+1:Nat):Int)∧(s.2 = -1∨((k+1:Nat):Int)≤s.2)∧PowN Lb (k+1) (c :: w)) :
  Rec m ar ⟨g.fi,g.la,em⟩ (K ++ [⟨g.la,g.fi,ar,true⟩]) a b L:=by
 refine ⟨⟨h.inF.fi,h.inF.la⟩,fun j hj=>?_,fun j hj=>?_,hem,fun x c w=>?_⟩
 ·rcases List.mem_append.1 hj with hj | hj
  ·exact h.inJ j hj
  ·rw [List.mem_singleton.1 hj];exact ⟨h.inF.la,h.inF.fi⟩
 ·rcases List.mem_append.1 hj with hj | hj
  ·have:=h.kp j hj;omega
  ·rw [List.mem_singleton.1 hj];exact Nat.le_refl _
 have hm:∀ j∈K,j∈K ++ [(⟨g.la,g.fi,ar,true⟩ : Jt)]:=fun j hj=>by simp [hj]
 have hbeg:∀ {d:Cfg},BegA m g.fi ar x c d↔BegA m g.fi (ar+1) (setX x ar (cv s 1)) c d:=fun {d}=>by
  have e1:cv s 1=1:=by unfold ScOk at hs;unfold cv;split <;> omega
  rw [e1]
  constructor
  ·rintro ⟨h1,h2,h3,h4⟩
   have hd:=h.inF.fi _ h2
   exact ⟨h1,h2,h3,by rw [h4,toX_none (hp d.1 hd.1 hd.2).1]⟩
  ·rintro ⟨h1,h2,h3,h4⟩
   have hd:=h.inF.fi _ h2
   exact ⟨h1,h2,h3,by rw [h4,toX_none (hp d.1 hd.1 hd.2).1]⟩
 have hacc:∀ {e:Cfg},AccA m g.la ar e↔AccA m g.la (ar+1) e∧s.1≤e.2 ar:=fun {e}=>by
  constructor
  ·rintro ⟨h1,h2⟩
   have he:=h.inF.la _ h1
   obtain ⟨p1,p2⟩:=hp e.1 he.1 he.2
   rw [left_step p1,p2,Bool.and_eq_true,decide_eq_true_eq] at h2
   exact ⟨⟨h1,h2.2⟩,h2.1⟩
  ·rintro ⟨⟨h1,h2⟩,h3⟩
   have he:=h.inF.la _ h1
   obtain ⟨p1,p2⟩:=hp e.1 he.1 he.2
   refine ⟨h1,?_⟩
   rw [left_step p1,p2,Bool.and_eq_true,decide_eq_true_eq]
   exact ⟨h3,h2⟩
 have hkeep:∀ {x:Nat→Int} {c v w d e},BegA m g.fi (ar+1) (setX x ar v) c d→RunA m K d w e→e.2 ar=v:=fun {x c v w d e} hb hr=>by
  rw [run_low h.kp hr ar (by omega),hb.2.2.2,toX_low (by omega)]
  exact if_pos rfl
 rw [hL]
 have fwd:∀ (r k:Nat) (x:Nat→Int) (c:Nat) (w:List Nat),1≤k→s.1≤((k+r:Nat):Int)→(s.2 = -1∨((k+r:Nat):Int)≤s.2)→PowN Lb (r+1) (c :: w)→∃ d e,BegA m g.fi (ar+1) (setX x ar (cv s k)) c d∧RunA m (K ++ [⟨g.la,g.fi,ar,true⟩]) d w e∧AccA m g.la ar e:=by
  intro r
  induction r with
  | zero =>
   rintro k x c w hk h1 h2 ⟨c1,u,v,e,h3,h4⟩
   obtain ⟨rfl,rfl⟩ : c=c1∧w=u ++ v:=by simpa using e
   rw [show v=[] from h4,List.append_nil]
   obtain ⟨d,e1,s1,s2,s3⟩:=(h.wd (setX x ar (cv s k)) c u).1 h3
   exact ⟨d,e1,s1,run_mono hm s2,hacc.2 ⟨s3,by rw [hkeep s1 s2,cv_done];exact h1⟩⟩
  | succ r ih =>
   rintro k x c w hk h1 h2 ⟨c1,u,v,e,h3,c2,a2,b2,rfl,h5,h6⟩
   obtain ⟨rfl,rfl⟩ : c=c1∧w=u ++ c2 :: (a2 ++ b2):=by simpa using e
   obtain ⟨d,e1,s1,s2,s3⟩:=(h.wd (setX x ar (cv s k)) c u).1 h3
   obtain ⟨d2,e2,r1,r2,r3⟩:=ih (k+1) e1.2 c2 (a2 ++ b2) (by omega) (by omega) (by omega) ⟨c2,a2,b2,rfl,h5,h6⟩
   have he:=h.inF.la _ s3.1
   refine ⟨d,e2,s1,run_append (run_mono hm s2) ⟨d2,stp_mono (fun j hj=>?_) (over_count.2 ⟨s3,cv s (k+1),?_,r1⟩),r2⟩,r3⟩
   ·rw [List.mem_singleton.1 hj];simp
   ·rw [(hp e1.1 he.1 he.2).2,hkeep s1 s2,cv_next hs hk (by omega),if_pos (by omega)]
 have bwd:∀ (n:Nat) (w:List Nat),w.length≤n→∀ (k:Nat) (x:Nat→Int) (c:Nat) (d e:Cfg),1≤k→(s.2 = -1∨(k:Int)≤s.2)→BegA m g.fi (ar+1) (setX x ar (cv s k)) c d→RunA m (K ++ [⟨g.la,g.fi,ar,true⟩]) d w e→AccA m g.la ar e →
   ∃ r,s.1≤((k+r:Nat):Int)∧(s.2 = -1∨((k+r:Nat):Int)≤s.2)∧PowN Lb (r+1) (c :: w):=by
  intro n
  induction n with
  | zero =>
   intro w hw k x c d e hk h2 s1 s2 s3
   obtain rfl:w=[]:=List.eq_nil_of_length_eq_zero (by omega)
   have s2':RunA m K d [] e:=s2
   obtain ⟨q1,q2⟩:=hacc.1 s3
   rw [hkeep s1 s2',cv_done] at q2
   exact ⟨0,q2,h2,c,[],[],rfl,(h.wd _ c []).2 ⟨d,e,s1,s2',q1⟩,rfl⟩
  | succ n ih =>
   intro w hw k x c d e hk h2 s1 s2 s3
   rcases run_split s2 with r | ⟨w1,c2,w2,mid,d2,rfl,k1,k2,k3⟩
   ·obtain ⟨q1,q2⟩:=hacc.1 s3
    rw [hkeep s1 r,cv_done] at q2
    exact ⟨0,q2,h2,c,w,[],by simp,(h.wd _ c w).2 ⟨d,e,s1,r,q1⟩,rfl⟩
   ·obtain ⟨q1,v,q2,q3⟩:=over_count.1 k2
    have he:=h.inF.la _ q1.1
    rw [(hp mid.1 he.1 he.2).2,hkeep s1 k1,cv_next hs hk h2] at q2
    split at q2
    ·rename_i hlt
     obtain rfl:=Option.some.inj q2
     obtain ⟨r,p1,p2,p3⟩:=ih w2 (by simp only [List.length_append,List.length_cons] at hw;omega) (k+1) mid.2 c2 d2 e (by omega) (by omega) q3 k3 s3
     exact ⟨r+1,by omega,by omega,c,w1,c2 :: w2,rfl,(h.wd _ c w1).2 ⟨d,mid,s1,k1,q1⟩,p3⟩
    ·cases q2
 constructor
 ·rintro ⟨k,h1,h2,h3⟩
  obtain ⟨d,e,s1,s2,s3⟩:=fwd k 1 x c w (Nat.le_refl _) (by omega) (by omega) h3
  exact ⟨d,e,hbeg.2 s1,s2,s3⟩
 ·rintro ⟨d,e,s1,s2,s3⟩
  obtain ⟨r,p1,p2,p3⟩:=bwd _ w (Nat.le_refl _) 1 x c d e (Nat.le_refl _) (by unfold ScOk at hs;omega) (hbeg.1 s1) s2 s3
  exact ⟨r,by omega,by omega,p3⟩
end Go.Proofs.YtnmjicfpmkoldaaGreatDoor

/- The automaton of a simple tree's map and moves matches just the tree's words.
   Conditions: those that each theorem states. -/
namespace Go.Proofs.YtnmjicfpmkoldaaGreatDoor
inductive HzT:T→Prop
 | mk (k:Int) (C:Nat→Nat) (lo hi:Int) (ps:List T) (h:k=4→hi≠0) (hp:∀ p∈ps,HzT p):HzT (.node k C lo hi ps)
theorem HzT.part {t:T} (h:HzT t):∀ p∈t.ps,HzT p:=by
 cases h with
 | mk _ _ _ _ _ _ hp=>exact hp
theorem hz_leaf {k:Int} (C:Nat→Nat) (lo hi:Int) (h:k≠4):HzT (.node k C lo hi []):=.mk _ _ _ _ _ (fun e=>absurd e h) fun p hp=>(by cases hp)
theorem hz_one {k:Int} (hk:k≠4):∀ {l:List T},(∀ t∈l,HzT t)→HzT (oneOf k l)
 | [],_=>hz_leaf _ _ _ (by decide)
 | [t],h=>h t (by simp)
 | t :: u :: ts,h=>.mk _ _ _ _ _ (fun e=>absurd e hk) h
mutual
theorem hz_sim:∀ t:T,okT t=true→HzT (simT t)
 | .node k C lo hi ps,hok=>by
  have hs:=hz_sims ps (ok_parts hok)
  have hk:=of_decide_eq_true (ok_kind hok)
  rw [simT]
  split
  ·exact hz_leaf _ _ _ (by decide)
  ·split
   ·rename_i h2
    have hps:ps=[]:=by
     rcases hk with ⟨_,_,_,_,h⟩ | ⟨_,_,_,h⟩ | ⟨h,_⟩ | ⟨h,_⟩
     ·exact List.length_eq_zero_iff.1 h
     ·exact List.length_eq_zero_iff.1 h
     ·omega
     ·omega
    rw [hps]
    exact hz_leaf _ _ _ (by omega)
   ·split
    ·cases hss:simsT ps with
     | nil=>exact hz_leaf _ _ _ (by decide)
     | cons s r =>
      have h1:=hs s (by rw [hss];simp)
      show HzT (rep4 lo hi s)
      unfold rep4
      split
      ·exact hz_leaf _ _ _ (by decide)
      ·rename_i hn
       split
       ·exact h1
       ·exact .mk _ _ _ _ _ (fun _ e=>hn (.inl e)) fun p hp=>by rw [List.mem_singleton.1 hp];exact h1
    ·refine hz_one (by omega) fun u hu=>left_all (P:=HzT) _ _ (by simp) (fun x hx=>?_) u hu
     rcases spread_mem hx with ⟨v,hv,_,hx2⟩ | ⟨hx2,_⟩
     ·exact (hs v hv).part x hx2
     ·exact hs x hx2
theorem hz_sims:∀ ts:List T,oksT ts=true→∀ u∈simsT ts,HzT u
 | [],_,u,hu=>by rw [simsT] at hu;cases hu
 | t :: ts,h,u,hu=>by
  rw [oksT,Bool.and_eq_true] at h
  rw [simsT] at hu
  rcases List.mem_cons.1 hu with rfl | hu
  ·exact hz_sim t h.1
  ·exact hz_sims ts h.2 u hu
end
structure SubM (m m':PM):Prop where
 sets:m.sets <+: m'.sets
 scs:m.scs <+: m'.scs
 ars:m.ars <+: m'.ars
theorem SubM.refl (m:PM):SubM m m:=⟨List.prefix_refl _,List.prefix_refl _,List.prefix_refl _⟩
theorem SubM.trans {a b c:PM} (h:SubM a b) (k:SubM b c):SubM a c:=⟨h.sets.trans k.sets,h.scs.trans k.scs,h.ars.trans k.ars⟩
theorem sub_sc (k lo hi:Int) (m:PM):SubM m (scP k lo hi m):=by
 unfold scP
 split
 ·exact ⟨List.prefix_refl _,List.prefix_append _ _,List.prefix_refl _⟩
 ·exact .refl m
theorem sub_put (k:Int) (C:Nat→Nat) (al:List Nat) (m:PM):SubM m (putP k C al m):=by
 unfold putP
 split
 ·exact ⟨List.prefix_append _ _,List.prefix_refl _,List.prefix_append _ _⟩
 ·exact .refl m
mutual
theorem mapN_sub:∀ (t:T) (al:List Nat) (m m':PM),mapN t al m=some m'→SubM m m'
 | .node k C lo hi ps,al,m,m',h=>by
  rw [mapN] at h
  split at h
  ·cases h
  ·exact ((sub_sc k lo hi m).trans (sub_put k C al _)).trans (mapsN_sub ps _ _ m' h)
theorem mapsN_sub:∀ (ts:List T) (al:List Nat) (m m':PM),mapsN ts al m=some m'→SubM m m'
 | [],al,m,m',h=>by
  rw [mapsN] at h
  rw [← Option.some.inj h]
  exact .refl m
 | t :: ts,al,m,m',h=>by
  rw [mapsN] at h
  cases h1:mapN t al m with
  | none=>rw [h1] at h;cases h
  | some m1 =>
   rw [h1] at h
   exact (mapN_sub t al m m1 h1).trans (mapsN_sub ts al m1 m' h)
end
theorem pre_get {α:Type} {l l':List α} (h:l <+: l') {i:Nat} {x:α} (hi:l[i]? = some x):l'[i]? = some x:=by
 obtain ⟨t,rfl⟩:=h
 rw [List.getElem?_append_left (List.getElem?_eq_some_iff.1 hi).1,hi]
theorem ars_pre {al:List Nat} {m1 m:PM} {X A:List (List Nat)} {a:Nat} (h1:m1.ars=A ++ X) (hA:A.length=a+1) (hX:∀ l∈X,al <+: l) (hm:SubM m1 m):∀ q,a<q→q≤a+X.length→al <+: arX m q:=fun q h2 h3=>by
 have hq:X[q - (a+1)]? = some (X[q - (a+1)]'(by omega)):=List.getElem?_eq_getElem (by omega)
 have e:m.ars[q]? = some (X[q - (a+1)]'(by omega)):=pre_get hm.ars (by rw [h1,List.getElem?_append_right (by omega),hA];exact hq)
 unfold arX
 rw [List.getD_eq_getElem?_getD,e]
 exact hX _ (List.mem_of_getElem? hq)
structure MvC (t:T):Prop where
 ok:okT t=true
 sm:SmT t
 hz:HzT t
theorem MvC.parts {k lo hi:Int} {C:Nat→Nat} {ps:List T} (h:MvC (.node k C lo hi ps)):∀ p∈ps,MvC p:=fun p hp=>⟨oks_mem (ok_parts h.ok) p hp,h.sm.part p hp,h.hz.part p hp⟩
theorem cnt4_no {k lo hi:Int} (h:k≠4):cnt4 k lo hi=false:=by unfold cnt4;rw [decide_eq_false h];rfl
theorem bel_no {k lo hi:Int} (h:cnt4 k lo hi=false) (al:List Nat) (m:PM):belP k lo hi al m=al:=by unfold belP;rw [h];rfl
theorem sc_no {k lo hi:Int} (h:cnt4 k lo hi=false) (m:PM):scP k lo hi m=m:=by unfold scP;rw [h];rfl
theorem put_no {k:Int} {C:Nat→Nat} (h:isPos k C=false) (al:List Nat) (m:PM):putP k C al m=m:=by unfold putP;rw [h];rfl
theorem pos_no {k:Int} {C:Nat→Nat} (h:k≠1):isPos k C=false:=by unfold isPos;rw [decide_eq_false h];rfl
theorem ars_len {t:T} {al:List Nat} {m m':PM} (h:mapN t al m=some m'):m'.ars.length=m.ars.length+npos t:=by
 obtain ⟨X,h1,h2,_⟩:=mapN_ars t al m m' h
 rw [h1,List.length_append,h2]
theorem pow_lift {Lb:List Nat→Prop} {lo hi:Int} (hb:0≤lo∧(hi = -1∨lo≤hi)) (hn:Lb []→lo=0) (c:Nat) (w:List Nat) :
  (∃ n:Nat,lo≤(n:Int)∧(hi<0∨(n:Int)≤hi)∧PowL Lb n (c :: w))↔∃ k:Nat,max 1 lo≤((k+1:Nat):Int)∧(hi = -1∨((k+1:Nat):Int)≤hi)∧PowN Lb (k+1) (c :: w):=by
 constructor
 ·rintro ⟨n,h1,h2,h3⟩
  obtain ⟨k,k1,k2,k3⟩:=pown_of h3
  cases k with
  | zero=>cases (show c :: w=[] from k2)
  | succ k =>
   refine ⟨k,?_,by omega,k2⟩
   rcases k3 with e | e
   ·omega
   ·have:=hn e;omega
 ·rintro ⟨k,h1,h2,h3⟩
  exact ⟨k+1,by omega,by omega,pow_of h3⟩
mutual
theorem rec_mv (m:PM):∀ (t:T) (al:List Nat) (m0 m1:PM) (a:Nat),MvC t→mapN t al m0=some m1→SubM m1 m→m0.ars.length=a+1→m0.sets.length=a+1→Rec m al.length (mvT t al.length a).1 (mvT t al.length a).2.2 a (a+npos t) (Lg t)
 | .node k C lo hi ps,al,m0,m1,a,hc,h,hm,hA,hS=>by
  have hk:=of_decide_eq_true (ok_kind hc.ok)
  rw [mapN] at h
  split at h
  ·cases h
  rw [mvT,npos]
  rcases hk with ⟨h0,_,_,_,hp⟩ | ⟨h1,_,_,hp⟩ | ⟨h23,_,_,_,hp⟩ | ⟨h4,_,hp,hb⟩
  ·have hps:ps=[]:=List.length_eq_zero_iff.1 hp
   subst hps
   rw [mvsT,nposs,pos_no (by omega)]
   unfold opF opA
   rw [pos_no (by omega),if_neg (by decide),if_neg (by omega),if_neg (by decide),decide_eq_true (.inl h0)]
   exact rec_eps fun w=>lg_zero h0 w
  ·have hps:ps=[]:=List.length_eq_zero_iff.1 hp
   subst hps
   rw [mvsT,nposs]
   unfold opF opA
   cases hpos:isPos k C with
   | false =>
    rw [if_neg (by decide),if_neg (by omega),if_neg (by decide),if_neg (by decide),decide_eq_false (by omega)]
    refine rec_none fun w hw=>?_
    obtain ⟨b,hb,hcb,_⟩:=(lg_one h1 w).1 hw
    have hz:z4 C=true:=by
     unfold isPos at hpos
     rw [decide_eq_true h1] at hpos
     simpa using hpos
    rw [z4_no hz hb] at hcb;cases hcb
   | true =>
    rw [if_pos rfl,if_pos rfl,if_pos rfl]
    rw [mapsN] at h
    have h:=Option.some.inj h
    rw [sc_no (cnt4_no (by omega))] at h
    unfold putP at h
    rw [if_pos hpos] at h
    have hs:seX m (a+1)=C:=by
     unfold seX
     rw [List.getD_eq_getElem?_getD,pre_get hm.sets (x:=C) (by rw [← h];show (m0.sets ++ [C])[a+1]? = _;rw [List.getElem?_append_right (by omega)];simp [hS])]
     rfl
    have ha:arX m (a+1)=al:=by
     unfold arX
     rw [List.getD_eq_getElem?_getD,pre_get hm.ars (x:=al) (by rw [← h];show (m0.ars ++ [al])[a+1]? = _;rw [List.getElem?_append_right (by omega)];simp [hA])]
     rfl
    exact rec_byte hs ha fun w=>lg_one h1 w
  ·have hpos:isPos k C=false:=pos_no (by omega)
   have hcn:cnt4 k lo hi=false:=cnt4_no (by omega)
   rw [bel_no hcn,sc_no hcn,put_no hpos] at h
   rw [hcn,hpos,if_neg (by decide),Nat.zero_add]
   unfold opF opA
   rw [hpos,if_neg (by decide),if_neg (by omega),if_neg (by decide)]
   rcases h23 with rfl | rfl
   ·rw [decide_eq_true (.inr rfl)]
    have:=rec_row m hi ps al m0 m1 ⟨0,0,true⟩ [] a a (fun w=>w=[]) hc.parts h hm hA hS (Nat.le_refl _) (rec_eps fun w=>Iff.rfl)
    refine (this.lang fun w=>?_).joints fun j=>by rw [List.nil_append]
    rw [lg_two rfl]
    exact ⟨fun h=>⟨[],w,rfl,rfl,h⟩,fun ⟨u,v,e,hu,hv⟩=>by rw [e,hu];exact hv⟩
   ·rw [decide_eq_false (by decide)]
    have:=rec_alt m hi ps al m0 m1 ⟨0,0,false⟩ [] a a (fun w=>False) hc.parts h hm hA hS (Nat.le_refl _) (rec_none fun w e=>e)
    refine (this.lang fun w=>?_).joints fun j=>by rw [List.nil_append]
    rw [lg_three rfl,false_or]
  ·have hpos:isPos k C=false:=pos_no (by omega)
   match ps,hp,hc,h with
   | [p],_,hc,h =>
    have hcp:=hc.parts p (by simp)
    have hhz:hi≠0:=by cases hc.hz with | mk _ _ _ _ _ h _=>exact h h4
    have hnu:nuT p=true→lo=0:=by cases hc.sm with | mk _ _ _ _ _ _ _ h _=>exact (h h4 p (by simp)).2
    have hb2:=bnd_le hb
    rw [mapsN] at h
    cases h1:mapN p (belP k lo hi al m0) (putP k C al (scP k lo hi m0)) with
    | none=>rw [h1] at h;cases h
    | some m2 =>
     rw [h1] at h
     obtain rfl:m2=m1:=Option.some.inj h
     rw [put_no hpos] at h1
     rw [hpos,if_neg (by decide),Nat.zero_add,nposs,nposs,Nat.add_zero,mvsT,mvsT]
     simp only
     unfold opF opA
     rw [hpos,if_neg (by decide),if_pos h4,if_neg (by decide)]
     have hsa:(scP k lo hi m0).ars=m0.ars:=by unfold scP;split <;> rfl
     have hss:(scP k lo hi m0).sets=m0.sets:=by unfold scP;split <;> rfl
     have hr:=rec_mv m p (belP k lo hi al m0) (scP k lo hi m0) m2 a hcp h1 hm (by rw [hsa];exact hA) (by rw [hss];exact hS)
     have hbl:(belP k lo hi al m0).length=blA al.length (cnt4 k lo hi):=by
      unfold belP blA
      split <;> simp
     rw [hbl] at hr
     generalize hmv:mvT p (blA al.length (cnt4 k lo hi)) a=r at hr
     have hnull:r.1.em=nuT p:=by rw [← hmv,mv_fc];exact fc_em p a hcp.ok
     have hlb:Lg p []→lo=0:=fun e=>hnu (by rw [← hnull];exact hr.em.2 e)
     have hpw:∀ n v,PowL (LgC [p]) n v↔PowL (Lg p) n v:=pow_iff fun v=>lgc_one p v
     have hlg:∀ w,Lg (.node k C lo hi [p]) w↔∃ n:Nat,lo≤(n:Int)∧(hi<0∨(n:Int)≤hi)∧PowL (Lg p) n w:=fun w=>by
      rw [lg_four (by omega) (by omega) (by omega) (by omega)]
      exact ⟨fun ⟨n,a,b,c⟩=>⟨n,a,b,(hpw n w).1 c⟩,fun ⟨n,a,b,c⟩=>⟨n,a,b,(hpw n w).2 c⟩⟩
     have hwd:∀ c w,Lg (.node k C lo hi [p]) (c :: w)↔∃ j:Nat,max 1 lo≤((j+1:Nat):Int)∧(hi = -1∨((j+1:Nat):Int)≤hi)∧PowN (Lg p) (j+1) (c :: w):=fun c w=>by
      rw [hlg,pow_lift hb2 hlb]
     have hem:(decide (lo=0) || r.1.em)=true↔Lg (.node k C lo hi [p]) []:=by
      rw [hlg,Bool.or_eq_true,decide_eq_true_eq,hr.em]
      constructor
      ·rintro (e | e)
       ·exact ⟨0,by omega,by omega,rfl⟩
       ·exact ⟨lo.toNat,by omega,by omega,pow_pad e (Nat.zero_le _) rfl⟩
      ·rintro ⟨n,n1,n2,n3⟩
       obtain ⟨j,j1,j2,j3⟩:=pown_of n3
       cases j with
       | zero =>
        rcases j3 with e | e
        ·exact .inl (by omega)
        ·exact .inr e
       | succ j=>obtain ⟨c,x,y,e,_⟩:=j2;simp at e
     have hface:adF k ⟨0,0,decide (lo=0)⟩ r.1=⟨r.1.fi,r.1.la,decide (lo=0) || r.1.em⟩:=by
      unfold adF orF
      rw [if_neg (by omega)]
      simp
     rw [hface]
     unfold adJ
     rw [if_neg (by omega)]
     simp only [List.append_nil]
     by_cases h11:hi=1
     ·have hcn:cnt4 k lo hi=false:=by
       unfold cnt4 cntS
       rw [h11]
       simp only [Bool.and_eq_false_iff,decide_eq_false_iff_not]
       omega
      rw [if_neg (by omega),List.append_nil]
      rw [hcn] at hr
      refine ⟨⟨hr.inF.fi,hr.inF.la⟩,hr.inJ,hr.kp,hem,fun x c w=>?_⟩
      refine Iff.trans ?_ (hr.wd x c w)
      rw [hwd]
      constructor
      ·rintro ⟨j,_,h2,h3⟩
       obtain rfl:j=0:=by omega
       obtain ⟨c',u,v,e,h5,h6⟩:=h3
       rw [show v=[] from h6,List.append_nil] at e
       rw [e];exact h5
      ·exact fun h=>⟨0,by omega,by omega,c,w,[],by simp,h,rfl⟩
     ·rw [if_pos ⟨h4,h11⟩]
      cases hcn:cnt4 k lo hi with
      | false =>
       rw [hcn] at hr
       have hnc:¬ (1<hi∨hi = -1∧1<max 1 lo):=by
        unfold cnt4 cntS at hcn
        rw [decide_eq_true h4,Bool.true_and] at hcn
        exact of_decide_eq_false hcn
       have hh:hi = -1:=by omega
       refine rec_loop hr _ hem fun c w=>?_
       rw [hwd]
       exact ⟨fun ⟨j,_,_,h⟩=>⟨j,h⟩,fun ⟨j,h⟩=>⟨j,by omega,.inl hh,h⟩⟩
      | true =>
       rw [hcn] at hr
       have hyc:1<hi∨hi = -1∧1<max 1 lo:=by
        unfold cnt4 cntS at hcn
        rw [decide_eq_true h4,Bool.true_and] at hcn
        exact of_decide_eq_true hcn
       have hb3:lo≤2147483647∧hi≤2147483647:=by
        have:=of_decide_eq_true hb
        omega
       have hsok:ScOk (max 1 lo,hi):=by unfold ScOk;simp only;omega
       refine rec_count (s:=(max 1 lo,hi)) hr hsok (fun q q1 q2=>?_) _ hem hwd
       obtain ⟨X,x1,x2,x3⟩:=mapN_ars p _ _ m2 h1
       rw [hsa] at x1
       have hpre:=ars_pre x1 hA x3 hm q q1 (by omega)
       unfold belP at hpre
       rw [if_pos hcn] at hpre
       have hsc:m.scs[m0.scs.length]? = some (max 1 lo,hi):=by
        refine pre_get ((mapN_sub p _ _ m2 h1).trans hm).scs ?_
        unfold scP
        rw [if_pos hcn]
        simp
       obtain ⟨Y,hY⟩:=hpre
       refine ⟨by rw [← hY];simp,?_⟩
       unfold scA
       rw [← hY]
       simp only [List.getD_eq_getElem?_getD]
       rw [List.append_assoc,List.getElem?_append_right (Nat.le_refl _)]
       simp [hsc]
theorem rec_row (m:PM) (hi:Int):∀ (ts:List T) (al:List Nat) (m0 m1:PM) (f:Fc) (J:List Jt) (a0 a:Nat) (L:List Nat→Prop),(∀ p∈ts,MvC p)→mapsN ts al m0=some m1→SubM m1 m→m0.ars.length=a+1→m0.sets.length=a+1→a0≤a→Rec m al.length f J a0 a L →
  Rec m al.length (mvsT 2 hi al.length false ts f a).1 (J ++ (mvsT 2 hi al.length false ts f a).2.2) a0 (a+nposs ts) (fun w=>∃ u v,w=u ++ v∧L u∧LgC ts v)
 | [],al,m0,m1,f,J,a0,a,L,_,h,hm,hA,hS,h0,hr=>by
  rw [mvsT,nposs]
  refine (hr.lang fun w=>?_).joints fun j=>by simp
  constructor
  ·rintro ⟨u,v,e,hu,hv⟩
   rw [(lgc_nil v).1 hv,List.append_nil] at e
   rw [e];exact hu
  ·exact fun h=>⟨w,[],by simp,h,(lgc_nil _).2 rfl⟩
 | t :: ts,al,m0,m1,f,J,a0,a,L,hc,h,hm,hA,hS,h0,hr=>by
  rw [mapsN] at h
  cases h1:mapN t al m0 with
  | none=>rw [h1] at h;cases h
  | some m2 =>
   rw [h1] at h
   have h:mapsN ts al m2=some m1:=h
   have hr2:=rec_mv m t al m0 m2 a (hc t (by simp)) h1 ((mapsN_sub ts al m2 m1 h).trans hm) hA hS
   have e1:=ars_len h1
   have e2:=mapN_pos t al m0 m2 h1
   have e3:=mv_at t al.length a
   have hr3:=rec_then h0 hr hr2 (by omega)
   have hr4:=rec_row m hi ts al m2 m1 _ _ a0 (a+npos t) _ (fun p hp=>hc p (List.mem_cons_of_mem _ hp)) h hm (by omega) (by omega) (by omega) hr3
   rw [mvsT,nposs]
   simp only [blA,Bool.false_eq_true,if_false]
   unfold adF adJ
   rw [if_pos rfl,if_pos rfl,e3]
   rw [← Nat.add_assoc]
   refine (hr4.lang fun w=>?_).joints fun j=>by simp only [List.mem_append,or_assoc]
   constructor
   ·rintro ⟨u,v,rfl,hu,hv⟩
    obtain ⟨x,y,rfl,hx,hy⟩:=(lgc_cons _ _ _).1 hv
    exact ⟨u ++ x,y,by rw [List.append_assoc],⟨u,x,rfl,hu,hx⟩,hy⟩
   ·rintro ⟨z,y,rfl,⟨u,x,rfl,hu,hx⟩,hy⟩
    exact ⟨u,x ++ y,by rw [List.append_assoc],hu,(lgc_cons _ _ _).2 ⟨x,y,rfl,hx,hy⟩⟩
theorem rec_alt (m:PM) (hi:Int):∀ (ts:List T) (al:List Nat) (m0 m1:PM) (f:Fc) (J:List Jt) (a0 a:Nat) (L:List Nat→Prop),(∀ p∈ts,MvC p)→mapsN ts al m0=some m1→SubM m1 m→m0.ars.length=a+1→m0.sets.length=a+1→a0≤a→Rec m al.length f J a0 a L →
  Rec m al.length (mvsT 3 hi al.length false ts f a).1 (J ++ (mvsT 3 hi al.length false ts f a).2.2) a0 (a+nposs ts) (fun w=>L w∨LgA ts w)
 | [],al,m0,m1,f,J,a0,a,L,_,h,hm,hA,hS,h0,hr=>by
  rw [mvsT,nposs]
  refine (hr.lang fun w=>?_).joints fun j=>by simp
  rw [lga_nil,or_false]
 | t :: ts,al,m0,m1,f,J,a0,a,L,hc,h,hm,hA,hS,h0,hr=>by
  rw [mapsN] at h
  cases h1:mapN t al m0 with
  | none=>rw [h1] at h;cases h
  | some m2 =>
   rw [h1] at h
   have h:mapsN ts al m2=some m1:=h
   have hr2:=rec_mv m t al m0 m2 a (hc t (by simp)) h1 ((mapsN_sub ts al m2 m1 h).trans hm) hA hS
   have e1:=ars_len h1
   have e2:=mapN_pos t al m0 m2 h1
   have e3:=mv_at t al.length a
   have hr3:=rec_or h0 hr hr2 (by omega)
   have hr4:=rec_alt m hi ts al m2 m1 _ _ a0 (a+npos t) _ (fun p hp=>hc p (List.mem_cons_of_mem _ hp)) h hm (by omega) (by omega) (by omega) hr3
   rw [mvsT,nposs]
   simp only [blA,Bool.false_eq_true,if_false]
   unfold adF adJ
   rw [if_neg (by decide),if_neg (by decide),if_neg (show ¬ ((3:Int)=4∧hi≠1) from fun h=>absurd h.1 (by decide)),e3]
   rw [← Nat.add_assoc]
   refine (hr4.lang fun w=>?_).joints fun j=>by simp only [List.mem_append,List.append_nil,or_assoc]
   rw [lga_cons,or_assoc]
end
theorem rec_auto {t:T} {m:PM} (hok:okT t=true) (hoks:okT (simT t)=true) (hsm:SmT (simT t)) (h:mapT (simT t)=some m):Rec m 0 (mvT (simT t) 0 0).1 (mvT (simT t) 0 0).2.2 0 (npos (simT t)) (Lg t):=by
 have:=rec_mv m (simT t) [] pm0 m 0 ⟨hoks,hsm,hz_sim t hok⟩ h (SubM.refl m) rfl rfl
 rw [Nat.zero_add] at this
 exact this.lang fun w=>(lg_sim t hok w).symm
end Go.Proofs.YtnmjicfpmkoldaaGreatDoor

/- The configs behind a word, as plain values: which they are, that they are right, that a word is matched just if it is one of the tree's.
   Conditions: those that each theorem states. -/
namespace Go.Proofs.YtnmjicfpmkoldaaGreatDoor
def BehR (m:PM) (fi:Nat) (J:List Jt):List Nat→Cfg→Prop
 | [],_=>False
 | b :: w,e=>∃ d,BegA m fi 0 (fun _=>0) b d∧RunA m J d w e
theorem run_snoc {m:PM} {J:List Jt} {b:Nat}:∀ {w:List Nat} {c e:Cfg},RunA m J c (w ++ [b]) e↔∃ d,RunA m J c w d∧StpA m J d b e
 | [],c,e=>⟨fun ⟨d,h1,h2⟩=>⟨c,rfl,by rw [show e=d from h2];exact h1⟩,fun ⟨d,h1,h2⟩=>⟨e,by rw [← show d=c from h1];exact h2,rfl⟩⟩
 | a :: w,c,e=>by
  constructor
  ·rintro ⟨d,h1,h2⟩
   obtain ⟨f,h3,h4⟩:=run_snoc.1 h2
   exact ⟨f,⟨d,h1,h3⟩,h4⟩
  ·rintro ⟨f,⟨d,h1,h3⟩,h4⟩
   exact ⟨d,h1,run_snoc.2 ⟨f,h3,h4⟩⟩
theorem beh_one {m:PM} {fi:Nat} {J:List Jt} {b:Nat} {e:Cfg}:BehR m fi J [b] e↔BegA m fi 0 (fun _=>0) b e :=
 ⟨fun ⟨d,h1,h2⟩=>by rw [show e=d from h2];exact h1,fun h=>⟨e,h,rfl⟩⟩
theorem beh_snoc {m:PM} {fi:Nat} {J:List Jt} {b:Nat} {w:List Nat} (hw:w≠[]) {e:Cfg}:BehR m fi J (w ++ [b]) e↔∃ d,BehR m fi J w d∧StpA m J d b e:=by
 cases w with
 | nil=>exact absurd rfl hw
 | cons a w =>
  constructor
  ·rintro ⟨d,h1,h2⟩
   obtain ⟨f,h3,h4⟩:=run_snoc.1 h2
   exact ⟨f,⟨d,h1,h3⟩,h4⟩
  ·rintro ⟨f,⟨d,h1,h3⟩,h4⟩
   exact ⟨d,h1,run_snoc.2 ⟨f,h3,h4⟩⟩
theorem beh_dead {m:PM} {fi:Nat} {J:List Jt} {w v:List Nat} (hw:w≠[]) (h:∀ e,¬ BehR m fi J w e):∀ e,¬ BehR m fi J (w ++ v) e:=by
 cases w with
 | nil=>exact absurd rfl hw
 | cons a w =>
  rintro e ⟨d,h1,h2⟩
  have key:∀ {v w:List Nat} {c:Cfg},RunA m J c (w ++ v) e→∃ f,RunA m J c w f:=by
   intro v w
   induction w with
   | nil=>exact fun {c} _=>⟨c,rfl⟩
   | cons a w ih =>
    rintro c ⟨d,h1,h2⟩
    obtain ⟨f,hf⟩:=ih h2
    exact ⟨f,d,h1,hf⟩
  obtain ⟨f,hf⟩:=key h2
  exact h f ⟨d,h1,hf⟩
def RightC (m:PM) (e:Cfg):Prop:=∃ l,m.ars[e.1]? = some l∧1≤e.1∧cntsB m l e.2=true∧∀ i,4≤i→e.2 i=0
theorem arX_at {m:PM} {q:Nat} {l:List Nat} (h:m.ars[q]? = some l):arX m q=l:=by
 unfold arX
 rw [List.getD_eq_getElem?_getD,h];rfl
theorem toX_hi {lt:List Nat} {x:Nat→Int} {kp:Nat} {v:Option Int} (hl:lt.length≤4) (hk:kp+(if v.isSome then 1 else 0)≤4):∀ i,4≤i→toX lt x kp v i=0:=fun i hi=>by
 unfold toX
 rw [if_neg (by omega),if_neg (fun h=>by rw [if_pos h.2] at hk;omega),if_neg (by omega)]
theorem beg_right {m:PM} (hw:MapW m) {fi:Nat} (hfi:∀ q,fi.testBit q=true→1≤q∧q<m.ars.length) {b:Nat} {x:Nat→Int} {e:Cfg} (h:BegA m fi 0 x b e):RightC m e:=by
 obtain ⟨_,h2,_,h4⟩:=h
 obtain ⟨q1,q2⟩:=hfi _ h2
 have hl:=List.getElem?_eq_getElem (l:=m.ars) (i:=e.1) q2
 have hm:=List.mem_of_getElem? hl
 have h5:=(hw.ars _ hm).1
 rw [arX_at hl] at h4
 refine ⟨_,hl,q1,cnts_iff.2 fun i hi=>?_,by rw [h4];exact toX_hi h5 (by decide)⟩
 have e1:e.2 i=if i<(m.ars[e.1]).length then 1 else 0:=by
  rw [h4]
  unfold toX
  rw [if_neg (by omega),if_neg (fun h=>by simp at h)]
 rw [e1]
 by_cases g:i<(m.ars[e.1]).length
 ·obtain ⟨_,_,_,hok⟩:=sc_in hw hm g
  have:=top_pos hok
  rw [if_pos g,cnt_in g,decide_eq_true (by omega),decide_eq_true this.1]
  rfl
 ·rw [if_neg g,cnt_out g]
  rfl
def KeepJ (m:PM) (J:List Jt):Prop:=∀ j∈J,∀ p q,j.fr.testBit p=true→j.tt.testBit q=true→1≤p∧1≤q∧j.kp≤4∧∃ c lf lt,c.length=j.kp+(if j.ag then 1 else 0)∧m.ars[p]? = some lf∧m.ars[q]? = some lt∧c <+: lf∧c <+: lt
theorem made_hi {lf lt:List Nat} {m:PM} {x y:Nat→Int} {kp:Nat} {ag:Bool} (h:madeX m lf lt x kp ag=some y) (hl:lt.length≤4) (hk:kp+(if ag then 1 else 0)≤4):∀ i,4≤i→y i=0:=by
 unfold madeX at h
 cases ag with
 | false =>
  simp only [Bool.false_eq_true,if_false] at h hk
  split at h
  ·rw [← Option.some.inj h];exact toX_hi hl (by simpa using hk)
  ·cases h
 | true =>
  simp only [if_true] at h hk
  obtain ⟨v,_,h⟩:=Option.bind_eq_some_iff.1 h
  split at h
  ·rw [← Option.some.inj h];exact toX_hi hl (by simpa using hk)
  ·cases h
theorem stp_right {m:PM} (hw:MapW m) {J:List Jt} (hJ:KeepJ m J) {b:Nat} {c e:Cfg} (hc:RightC m c) (h:StpA m J c b e):RightC m e:=by
 obtain ⟨j,hj,h1,h2,_,_,h5⟩:=h
 obtain ⟨_,k2,_,s,lf,lt,s1,s2,s3,s4,s5⟩:=hJ j hj _ _ h1 h2
 obtain ⟨l,l1,_,l3,_⟩:=hc
 obtain rfl:lf=l:=Option.some.inj (s2.symm.trans l1)
 rw [arX_at s2,arX_at s3] at h5
 have hmf:=List.mem_of_getElem? s2
 have hmt:=List.mem_of_getElem? s3
 refine ⟨lt,s3,k2,made_right hw hmf hmt ⟨s4,s5⟩ s1 l3 h5,made_hi h5 (hw.ars _ hmt).1 ?_⟩
 have:=(hw.ars _ hmf).1
 have:=s4.length_le
 omega
theorem run_right {m:PM} (hw:MapW m) {J:List Jt} (hJ:KeepJ m J):∀ {w:List Nat} {c e:Cfg},RightC m c→RunA m J c w e→RightC m e
 | [],_,_,hc,r=>by rw [show _=_ from r];exact hc
 | _ :: _,_,_,hc,⟨_,h1,r⟩=>run_right hw hJ (stp_right hw hJ hc h1) r
theorem beh_right {m:PM} (hw:MapW m) {fi:Nat} (hfi:∀ q,fi.testBit q=true→1≤q∧q<m.ars.length) {J:List Jt} (hJ:KeepJ m J):∀ {w:List Nat} {e:Cfg},BehR m fi J w e→RightC m e
 | [],_,h=>h.elim
 | _ :: _,_,⟨_,h1,r⟩=>run_right hw hJ (beg_right hw hfi h1) r
theorem lang_beh {m:PM} {f:Fc} {J:List Jt} {a b:Nat} {L:List Nat→Prop} (h:Rec m 0 f J a b L) (w:List Nat):L w↔(w=[]∧f.em=true)∨∃ e,BehR m f.fi J w e∧AccA m f.la 0 e:=by
 cases w with
 | nil =>
  rw [← h.em]
  exact ⟨fun h=>.inl ⟨rfl,h⟩,fun h=>by
   rcases h with h | ⟨_,h,_⟩
   ·exact h.2
   ·exact h.elim⟩
 | cons c w =>
  rw [h.wd (fun _=>0) c w]
  constructor
  ·rintro ⟨d,e,h1,h2,h3⟩
   exact .inr ⟨e,⟨d,h1,h2⟩,h3⟩
  ·rintro (h | ⟨e,⟨d,h1,h2⟩,h3⟩)
   ·cases h.1
   ·exact ⟨d,e,h1,h2,h3⟩
end Go.Proofs.YtnmjicfpmkoldaaGreatDoor
