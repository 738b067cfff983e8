/- The document's Edges of a node whose positions begin behind so many, with so many scopes around it: the moves of what moves makes of it.
   Conditions: the tree lies in memory, is formed, of at most 1000 nodes, and its positions are below 200. -/
import Derived.Test.YtjcfmbmepmlckaaDoorPQ
import Derived.Test.YtjcfmbmepmlckaaDoorMRa
import Derived.Laws.AppendOwnNone
import Derived.Deep.AppendLies
import Derived.StillTailTactics
import Derived.Deep.DeepCutAuto

/- What the document's Edges collects in memory: edges, rows of truths, and lists of those: plain facts.
   Conditions: those that each theorem states. -/
namespace Go.Proofs.YtjcfmbmepmlckaaDoor
open Go.RowKit Go.Shelf
abbrev rowV (q:Nat×Nat):Value:=.slice (some ⟨q.1,0,none⟩) 200 200
structure EdM (B:Nat) (w:World) (ov bv ev nv:Value) (l:List St) (fs ls:List (Nat×Nat)) (ns:List Bool):Prop where
 o:EdR w B ov l
 b:w.ownsRow B 41 1 bv fs.length (fs.map rowV)
 e:w.ownsRow B 41 1 ev ls.length (ls.map rowV)
 n:w.ownsRow B 4 1 nv ns.length (ns.map Value.bool)
 rf:∀ q∈fs,B200 w q.1 q.2
 rl:∀ q∈ls,B200 w q.1 q.2
 be:∀ x,bv.ownBlock=some x→ev.ownBlock≠some x
 nf:∀ q∈fs,nv.ownBlock≠some q.1
 nl:∀ q∈ls,nv.ownBlock≠some q.1
theorem B200.ty {w:World} {b X:Nat} (h:B200 w b X):TyB w b 4:=⟨_,_,h⟩
theorem B200.chg {Q:Nat→Prop} {w w':World} {b X:Nat} (h:B200 w b X) (hc:Chg Q w w') (hn:¬ Q b):B200 w' b X:=(hc.block b (Array.getElem?_eq_some_iff.1 h).1 hn).trans h
variable {B:Nat} {w w':World} {ov bv ev nv:Value} {l:List St} {fs ls:List (Nat×Nat)} {ns:List Bool}
theorem EdM.nil (B:Nat) (w:World):EdM B w (.slice none 0 0) (.slice none 0 0) (.slice none 0 0) (.slice none 0 0) [] [] [] [] :=
 ⟨World.ownsRow_nil _ _ _ _,World.ownsRow_nil _ _ _ _,World.ownsRow_nil _ _ _ _,World.ownsRow_nil _ _ _ _,by simp,by simp,fun x h=>(by cases h),by simp,by simp⟩
theorem EdM.below (h:EdM B w ov bv ev nv l fs ls ns) (hb:Below w.heap.size w w'):EdM B w' ov bv ev nv l fs ls ns:=by
 have hc:=Chg.of_below (R:=fun _=>False) hb
 exact ⟨own_chg h.o hc fun _ _=>id,own_chg h.b hc fun _ _=>id,own_chg h.e hc fun _ _=>id,own_chg h.n hc fun _ _=>id,fun q hq=>(h.rf q hq).below hb,fun q hq=>(h.rl q hq).below hb,h.be,h.nf,h.nl⟩
theorem EdM.oput {v':Value} {l':List St} (h:EdM B w ov bv ev nv l fs ls ns) (hc:Chg (fun x=>ov.ownBlock=some x) w w') (ho:EdR w' B v' l'):EdM B w' v' bv ev nv l' fs ls ns:=by
 refine ⟨ho,own_chg h.b hc fun x hx e=>?_,own_chg h.e hc fun x hx e=>?_,own_chg h.n hc fun x hx e=>?_,fun q hq=>(h.rf q hq).chg hc fun e=>?_,fun q hq=>(h.rl q hq).chg hc fun e=>?_,h.be,h.nf,h.nl⟩
 ·have:=(own_ty h.o e).eq (own_ty h.b hx);revert this;decide
 ·have:=(own_ty h.o e).eq (own_ty h.e hx);revert this;decide
 ·have:=(own_ty h.o e).eq (own_ty h.n hx);revert this;decide
 ·have:=(own_ty h.o e).eq (h.rf q hq).ty;revert this;decide
 ·have:=(own_ty h.o e).eq (h.rl q hq).ty;revert this;decide
theorem EdM.bput {g cap:Nat} {q:Nat×Nat} (h:EdM B w ov bv ev nv l fs ls ns) (hc:Chg (fun x=>bv.ownBlock=some x) w w') (hb:w'.ownsRow B 41 1 (.slice (some ⟨g,0,none⟩) (fs.length+1) cap) (fs.length+1) (fs.map rowV ++ [rowV q])) (hg:bv.ownBlock=some g∨w.heap.size≤g) (hq:B200 w q.1 q.2) (hn:nv.ownBlock≠some q.1) :
  EdM B w' ov (.slice (some ⟨g,0,none⟩) (fs.length+1) cap) ev nv l (fs ++ [q]) ls ns:=by
 have hrow:∀ q':Nat×Nat,B200 w q'.1 q'.2→B200 w' q'.1 q'.2:=fun q' h'=>h'.chg hc fun e=>by have:=(own_ty h.b e).eq h'.ty;revert this;decide
 refine ⟨own_chg h.o hc fun x hx e=>?_,?_,own_chg h.e hc fun x hx e=>h.be x e hx,own_chg h.n hc fun x hx e=>?_,fun q' hq'=>?_,fun q' hq'=>hrow _ (h.rl q' hq'),fun x hx e=>?_,fun q' hq'=>?_,h.nl⟩
 ·have:=(own_ty h.b e).eq (own_ty h.o hx);revert this;decide
 ·rw [List.length_append,List.map_append];exact hb
 ·have:=(own_ty h.b e).eq (own_ty h.n hx);revert this;decide
 ·rcases List.mem_append.1 hq' with hq' | hq'
  ·exact hrow _ (h.rf q' hq')
  ·rw [List.mem_singleton.1 hq'];exact hrow _ hq
 ·have hx':g=x:=Option.some.inj hx
  subst hx'
  rcases hg with hg | hg
  ·exact h.be g hg e
  ·have:=(h.e.lt g e).2;omega
 ·rcases List.mem_append.1 hq' with hq' | hq'
  ·exact h.nf q' hq'
  ·rw [List.mem_singleton.1 hq'];exact hn
theorem EdM.eput {g cap:Nat} {q:Nat×Nat} (h:EdM B w ov bv ev nv l fs ls ns) (hc:Chg (fun x=>ev.ownBlock=some x) w w') (hb:w'.ownsRow B 41 1 (.slice (some ⟨g,0,none⟩) (ls.length+1) cap) (ls.length+1) (ls.map rowV ++ [rowV q])) (hg:ev.ownBlock=some g∨w.heap.size≤g) (hq:B200 w q.1 q.2) (hn:nv.ownBlock≠some q.1) :
  EdM B w' ov bv (.slice (some ⟨g,0,none⟩) (ls.length+1) cap) nv l fs (ls ++ [q]) ns:=by
 have hrow:∀ q':Nat×Nat,B200 w q'.1 q'.2→B200 w' q'.1 q'.2:=fun q' h'=>h'.chg hc fun e=>by have:=(own_ty h.e e).eq h'.ty;revert this;decide
 refine ⟨own_chg h.o hc fun x hx e=>?_,own_chg h.b hc fun x hx e=>h.be x hx e,?_,own_chg h.n hc fun x hx e=>?_,fun q' hq'=>hrow _ (h.rf q' hq'),fun q' hq'=>?_,fun x hx e=>?_,h.nf,fun q' hq'=>?_⟩
 ·have:=(own_ty h.e e).eq (own_ty h.o hx);revert this;decide
 ·rw [List.length_append,List.map_append];exact hb
 ·have:=(own_ty h.e e).eq (own_ty h.n hx);revert this;decide
 ·rcases List.mem_append.1 hq' with hq' | hq'
  ·exact hrow _ (h.rl q' hq')
  ·rw [List.mem_singleton.1 hq'];exact hrow _ hq
 ·have hx':g=x:=Option.some.inj e
  subst hx'
  rcases hg with hg | hg
  ·exact h.be g hx hg
  ·have:=(h.b.lt g hx).2;omega
 ·rcases List.mem_append.1 hq' with hq' | hq'
  ·exact h.nl q' hq'
  ·rw [List.mem_singleton.1 hq'];exact hn
theorem EdM.nput {g cap:Nat} {u:Bool} (h:EdM B w ov bv ev nv l fs ls ns) (hc:Chg (fun x=>nv.ownBlock=some x) w w') (hb:w'.ownsRow B 4 1 (.slice (some ⟨g,0,none⟩) (ns.length+1) cap) (ns.length+1) (ns.map Value.bool ++ [.bool u])) (hg:nv.ownBlock=some g∨w.heap.size≤g) :
  EdM B w' ov bv ev (.slice (some ⟨g,0,none⟩) (ns.length+1) cap) l fs ls (ns ++ [u]):=by
 have hne:∀ q:Nat×Nat,B200 w q.1 q.2→nv.ownBlock≠some q.1→(Value.slice (some ⟨g,0,none⟩) (ns.length+1) cap).ownBlock≠some q.1:=fun q hq hn e=>by
  have hx':g=q.1:=Option.some.inj e
  rcases hg with hg | hg
  ·exact hn (hx'▸hg)
  ·have:=(Array.getElem?_eq_some_iff.1 hq).1;omega
 refine ⟨own_chg h.o hc fun x hx e=>?_,own_chg h.b hc fun x hx e=>?_,own_chg h.e hc fun x hx e=>?_,?_,fun q hq=>(h.rf q hq).chg hc (h.nf q hq),fun q hq=>(h.rl q hq).chg hc (h.nl q hq),h.be,fun q hq=>hne q (h.rf q hq) (h.nf q hq),fun q hq=>hne q (h.rl q hq) (h.nl q hq)⟩
 ·have:=(own_ty h.n e).eq (own_ty h.o hx);revert this;decide
 ·have:=(own_ty h.n e).eq (own_ty h.b hx);revert this;decide
 ·have:=(own_ty h.n e).eq (own_ty h.e hx);revert this;decide
 ·rw [List.length_append,List.map_append];exact hb
end Go.Proofs.YtjcfmbmepmlckaaDoor

/- What the document's Edges has collected: ahead of a part, and ahead of a pair of parts: plain facts.
   Conditions: those that each theorem states. -/
namespace Go.Proofs.YtjcfmbmepmlckaaDoor
open Go.RowKit Go.Shelf
theorem ar_next {a b i x y:Nat} (h1:a+40000000 * i≤40000000 * x) (h2:b+40000000≤40000000 * y):a+b+40000000 * (i+1)≤40000000 * (x+y):=by
 rw [Nat.mul_add,Nat.mul_one,Nat.mul_add,Nat.add_add_add_comm]
 exact Nat.add_le_add h1 h2
theorem ar_pair {a b c x k:Nat} (h1:a≤b+40000 * (x+k)) (h2:c≤a+40000):c≤b+40000 * (x+(k+1)):=by
 rw [← Nat.add_assoc x k 1,Nat.mul_add 40000 (x+k) 1,Nat.mul_one,← Nat.add_assoc]
 exact Nat.le_trans h2 (Nat.add_le_add_right h1 _)
theorem ar_four {a b x:Nat} (h1:a+40000000 * 1≤40000000 * x) (h2:b≤a+40000):b+40000000≤40000000 * (x+1):=by
 rw [Nat.mul_add,Nat.mul_one] at *
 exact Nat.add_le_add (Nat.le_trans h2 (Nat.le_trans (Nat.add_le_add_left (Nat.le_of_ble_eq_true rfl) _) h1)) (Nat.le_refl _)
theorem ar_two {a b n x:Nat} (hn:n≤1000) (h1:a+40000000 * n≤40000000 * x) (h2:b≤a+40000 * (n * n+0)):b+40000000≤40000000 * (x+1):=by
 rw [Nat.mul_add,Nat.mul_one]
 refine Nat.add_le_add (Nat.le_trans h2 (Nat.le_trans (Nat.add_le_add_left ?_ _) h1)) (Nat.le_refl _)
 rw [Nat.add_zero,show 40000000=40000 * 1000 from rfl,Nat.mul_assoc]
 exact Nat.mul_le_mul_left _ (Nat.mul_le_mul_right _ hn)
theorem ar_else {a n x:Nat} (h1:a+40000000 * n≤40000000 * x):a+40000000≤40000000 * (x+1):=by
 rw [Nat.mul_add,Nat.mul_one]
 exact Nat.add_le_add (Nat.le_trans (Nat.le_add_right _ _) h1) (Nat.le_refl _)
theorem ar_big {a b i n k:Nat} (hn:n≤1000) (hi:i≤n) (hk:k≤n) (h1:b≤40000000000) (h2:a≤b+40000 * (i * n+k)):a≤1000000000000:=by
 refine Nat.le_trans h2 (Nat.le_trans (Nat.add_le_add h1 (Nat.mul_le_mul_left 40000 (Nat.add_le_add (Nat.mul_le_mul (Nat.le_trans hi hn) hn) (Nat.le_trans hk hn)))) ?_)
 exact Nat.le_of_ble_eq_true rfl
theorem ar_begin {a b x i:Nat} (h1:a≤b+40000 * (x+0)):a≤b+40000 * (x+(i+1)):=by omega
structure EgI (ps:List V) (bf ar B i:Nat) (ov bv ev nv:Value) (l:List St) (fs ls:List (Nat×Nat)) (ns:List Bool) (wr:World):Prop where
 m:EdM B wr ov bv ev nv l fs ls ns
 mem:∀ s,s∈l↔∃ j p,j<i∧ps[j]? = some p∧SJ (mvT (erase p) ar (bf+nposs (erases (ps.take j)))).2.2 s
 len:l.length+40000000 * i≤40000000 * szsT (erases (ps.take i))
 lf:fs.length=i
 ll:ls.length=i
 ln:ns.length=i
 vf:∀ (j:Nat) (q:Nat×Nat) (p:V),fs[j]? = some q→ps[j]? = some p→q.2=(fcT (erase p) (bf+nposs (erases (ps.take j)))).fi
 vl:∀ (j:Nat) (q:Nat×Nat) (p:V),ls[j]? = some q→ps[j]? = some p→q.2=(fcT (erase p) (bf+nposs (erases (ps.take j)))).la
 vn:∀ (j:Nat) (u:Bool) (p:V),ns[j]? = some u→ps[j]? = some p→u=nuV p
theorem EgI.start (ps:List V) (bf ar B:Nat) (w:World):EgI ps bf ar B 0 (.slice none 0 0) (.slice none 0 0) (.slice none 0 0) (.slice none 0 0) [] [] [] [] w :=
 ⟨EdM.nil B w,fun s=>by simp,by simp,rfl,rfl,rfl,by simp,by simp,by simp⟩
variable {ps:List V} {bf ar B i:Nat} {ov bv ev nv ov' bv' ev' nv':Value} {l l2:List St} {fs ls:List (Nat×Nat)} {ns:List Bool} {w w':World} {p:V} {q1 q2:Nat×Nat}
theorem get_snoc {α:Type} {xs:List α} {x y:α} {i j:Nat} (hl:xs.length=i) (h:(xs ++ [x])[j]? = some y):xs[j]? = some y∨(j=i∧x=y):=by
 by_cases hj:j<xs.length
 ·rw [List.getElem?_append_left hj] at h
  exact .inl h
 ·rw [List.getElem?_append_right (by omega)] at h
  have h1:=(List.getElem?_eq_some_iff.1 h).1
  have h2:j - xs.length=0:=by simpa using h1
  rw [h2] at h
  exact .inr ⟨by omega,by simpa using h⟩
theorem EgI.next (hp:ps[i]? = some p) (h:EgI ps bf ar B i ov bv ev nv l fs ls ns w) (m:EdM B w' ov' bv' ev' nv' (l ++ l2) (fs ++ [q1]) (ls ++ [q2]) (ns ++ [nuV p]))
  (h2:∀ s,s∈l2↔SJ (mvT (erase p) ar (bf+nposs (erases (ps.take i)))).2.2 s) (hl:l2.length+40000000≤40000000 * szT (erase p)) (hf:q1.2=(fcT (erase p) (bf+nposs (erases (ps.take i)))).fi) (hla:q2.2=(fcT (erase p) (bf+nposs (erases (ps.take i)))).la) :
  EgI ps bf ar B (i+1) ov' bv' ev' nv' (l ++ l2) (fs ++ [q1]) (ls ++ [q2]) (ns ++ [nuV p]) w':=by
 refine ⟨m,fun s=>?_,?_,by rw [List.length_append,h.lf];rfl,by rw [List.length_append,h.ll];rfl,by rw [List.length_append,h.ln];rfl,fun j q u hq hu=>?_,fun j q u hq hu=>?_,fun j b u hq hu=>?_⟩
 ·rw [List.mem_append,h.mem s,h2 s]
  constructor
  ·rintro (⟨j,u,h1,h3,h4⟩ | h1)
   ·exact ⟨j,u,by omega,h3,h4⟩
   ·exact ⟨i,p,by omega,hp,h1⟩
  ·rintro ⟨j,u,h1,h3,h4⟩
   by_cases e:j=i
   ·subst e
    obtain rfl:p=u:=Option.some.inj (hp.symm.trans h3)
    exact .inr h4
   ·exact .inl ⟨j,u,by omega,h3,h4⟩
 ·rw [List.length_append,szs_take hp]
  exact ar_next h.len hl
 ·rcases get_snoc h.lf hq with h1 | ⟨rfl,rfl⟩
  ·exact h.vf j q u h1 hu
  ·obtain rfl:p=u:=Option.some.inj (hp.symm.trans hu)
   exact hf
 ·rcases get_snoc h.ll hq with h1 | ⟨rfl,rfl⟩
  ·exact h.vl j q u h1 hu
  ·obtain rfl:p=u:=Option.some.inj (hp.symm.trans hu)
   exact hla
 ·rcases get_snoc h.ln hq with h1 | ⟨rfl,rfl⟩
  ·exact h.vn j b u h1 hu
  ·obtain rfl:p=u:=Option.some.inj (hp.symm.trans hu)
   rfl
def CX (ps:List V) (bf ar i k:Nat) (s:St):Prop:=∃ t u,ps[i]? = some t∧ps[k]? = some u∧i<k∧(fcT (erase t) (bf+nposs (erases (ps.take i)))).la.testBit s.fr=true∧((ps.take k).drop (i+1)).all nuV=true∧(fcT (erase u) (bf+nposs (erases (ps.take k)))).fi.testBit s.tt=true∧s.kp=ar∧s.ag=false
structure EgK (ps:List V) (bf ar B i k:Nat) (ov bv ev nv:Value) (l0 l:List St) (fs ls:List (Nat×Nat)) (ns:List Bool) (wr:World):Prop where
 m:EdM B wr ov bv ev nv l fs ls ns
 mem:∀ s,s∈l↔s∈l0∨(∃ i' k',i' < i∧CX ps bf ar i' k' s)∨∃ k',k' < k∧CX ps bf ar i k' s
 len:l.length≤l0.length+40000 * (i * ps.length+k)
theorem no_cx {s:St} {k:Nat} (h:k≤i+1):¬ ∃ k',k' < k∧CX ps bf ar i k' s:=by
 rintro ⟨k',h1,_,_,_,_,h2,_⟩
 omega
theorem EgI.cross (h:EgI ps bf ar B i ov bv ev nv l fs ls ns w):EgK ps bf ar B 0 0 ov bv ev nv l l fs ls ns w :=
 ⟨h.m,fun s=>by simp,Nat.le_add_right _ _⟩
variable {k:Nat} {l0 l':List St} {X Y:Nat}
theorem EgK.begin (h:EgK ps bf ar B i 0 ov bv ev nv l0 l fs ls ns w):EgK ps bf ar B i (i+1) ov bv ev nv l0 l fs ls ns w :=
 ⟨h.m,fun s=>by
  rw [h.mem s]
  have h1:=no_cx (ps:=ps) (bf:=bf) (ar:=ar) (s:=s) (Nat.le_refl (i+1))
  have h2:=no_cx (ps:=ps) (bf:=bf) (ar:=ar) (s:=s) (Nat.zero_le (i+1))
  simp only [h1,h2],ar_begin h.len⟩
theorem EgK.pair {t u:V} (h:EgK ps bf ar B i k ov bv ev nv l0 l fs ls ns w) (m:EdM B w' ov' bv ev nv l' fs ls ns) (ht:ps[i]? = some t) (hu:ps[k]? = some u) (hik:i<k) (hall:((ps.take k).drop (i+1)).all nuV=true)
  (hX:X=(fcT (erase t) (bf+nposs (erases (ps.take i)))).la) (hY:Y=(fcT (erase u) (bf+nposs (erases (ps.take k)))).fi) (hXb:∀ b,X.testBit b=true→b<200) (hYb:∀ b,Y.testBit b=true→b<200)
  (hl:∀ s,s∈l'↔s∈l∨(X.testBit s.fr=true∧Y.testBit s.tt=true∧s.tt<200∧s.fr<200∧s.kp=ar∧s.ag=false)) (hn:l'.length≤l.length+40000):EgK ps bf ar B i (k+1) ov' bv ev nv l0 l' fs ls ns w':=by
 refine ⟨m,fun s=>?_,ar_pair h.len hn⟩
 rw [hl s,h.mem s]
 constructor
 ·rintro ((h1 | h1 | ⟨k',h1,h2⟩) | ⟨h1,h2,_,_,h3,h4⟩)
  ·exact .inl h1
  ·exact .inr (.inl h1)
  ·exact .inr (.inr ⟨k',by omega,h2⟩)
  ·exact .inr (.inr ⟨k,by omega,t,u,ht,hu,hik,hX▸h1,hall,hY▸h2,h3,h4⟩)
 ·rintro (h1 | h1 | ⟨k',h1,h2⟩)
  ·exact .inl (.inl h1)
  ·exact .inl (.inr (.inl h1))
  ·by_cases e:k'=k
   ·subst e
    obtain ⟨t',u',e1,e2,_,e4,_,e6,e7,e8⟩:=h2
    obtain rfl:t=t':=Option.some.inj (ht.symm.trans e1)
    obtain rfl:u=u':=Option.some.inj (hu.symm.trans e2)
    rw [← hX] at e4
    rw [← hY] at e6
    exact .inr ⟨e4,e6,hYb _ e6,hXb _ e4,e7,e8⟩
   ·exact .inl (.inr (.inr ⟨k',by omega,h2⟩))
theorem EgK.none {u:V} (h:EgK ps bf ar B i k ov bv ev nv l0 l fs ls ns w) (hk:ps[k - 1]? = some u) (hik:i+1<k) (hkn:k≤ps.length) (hu:nuV u=false):EgK ps bf ar B (i+1) 0 ov bv ev nv l0 l fs ls ns w:=by
 refine ⟨h.m,fun s=>?_,?_⟩
 ·rw [h.mem s]
  have h2:=no_cx (ps:=ps) (bf:=bf) (ar:=ar) (s:=s) (Nat.zero_le (i+1+1))
  constructor
  ·rintro (h1 | ⟨i',k',h1,h3⟩ | ⟨k',h1,h3⟩)
   ·exact .inl h1
   ·exact .inr (.inl ⟨i',k',by omega,h3⟩)
   ·exact .inr (.inl ⟨i,k',by omega,h3⟩)
  ·rintro (h1 | ⟨i',k',h1,h3⟩ | h1)
   ·exact .inl h1
   ·by_cases e:i'=i
    ·subst e
     refine .inr (.inr ⟨k',?_,h3⟩)
     obtain ⟨_,_,_,_,_,_,e5,_⟩:=h3
     refine Nat.lt_of_not_le fun hge=>?_
     have:=List.all_eq_true.1 e5 u ?_
     ·rw [hu] at this;cases this
     ·rw [List.mem_iff_getElem?]
      refine ⟨k - 1 - (i' + 1),?_⟩
      rw [List.getElem?_drop,List.getElem?_take_of_lt (by omega),show i' + 1+(k - 1 - (i' + 1))=k - 1 by omega]
      exact hk
    ·exact .inr (.inl ⟨i',k',by omega,h3⟩)
   ·exact absurd h1 h2
 ·have h1:=h.len
  have e:(i+1) * ps.length=i * ps.length+ps.length:=Nat.succ_mul _ _
  rw [e]
  omega
theorem EgK.done (h:EgK ps bf ar B i ps.length ov bv ev nv l0 l fs ls ns w):EgK ps bf ar B (i+1) 0 ov bv ev nv l0 l fs ls ns w:=by
 refine ⟨h.m,fun s=>?_,?_⟩
 ·rw [h.mem s]
  have h2:=no_cx (ps:=ps) (bf:=bf) (ar:=ar) (s:=s) (Nat.zero_le (i+1+1))
  constructor
  ·rintro (h1 | ⟨i',k',h1,h3⟩ | ⟨k',h1,h3⟩)
   ·exact .inl h1
   ·exact .inr (.inl ⟨i',k',by omega,h3⟩)
   ·exact .inr (.inl ⟨i,k',by omega,h3⟩)
  ·rintro (h1 | ⟨i',k',h1,h3⟩ | h1)
   ·exact .inl h1
   ·by_cases e:i'=i
    ·subst e
     obtain ⟨t,u,e1,e2,e3⟩:=h3
     exact .inr (.inr ⟨k',(List.getElem?_eq_some_iff.1 e2).1,t,u,e1,e2,e3⟩)
    ·exact .inr (.inl ⟨i',k',by omega,h3⟩)
   ·exact absurd h1 h2
 ·have h1:=h.len
  have e:(i+1) * ps.length=i * ps.length+ps.length:=Nat.succ_mul _ _
  rw [e]
  omega
theorem all_next {u:V} (hu:ps[k]? = some u) (hik:i<k) (h:((ps.take k).drop (i+1)).all nuV=true) (hn:nuV u=true):((ps.take (k+1)).drop (i+1)).all nuV=true:=by
 rw [List.take_add_one,hu]
 have hl:(ps.take k).length=k:=by rw [List.length_take];have:=(List.getElem?_eq_some_iff.1 hu).1;omega
 rw [List.drop_append_of_le_length (by omega),List.all_append,h]
 simp [hn]
theorem all_first (ps:List V) (i:Nat):((ps.take (i+1)).drop (i+1)).all nuV=true:=by
 rw [List.drop_eq_nil_of_le (by rw [List.length_take];omega)]
 rfl
theorem sj_ps (ps:List V) (bf ar:Nat) (s:St):(∃ i t,(erases ps)[i]? = some t∧SJ (mvT t ar (bf+nposs ((erases ps).take i))).2.2 s)↔∃ j p,j<ps.length∧ps[j]? = some p∧SJ (mvT (erase p) ar (bf+nposs (erases (ps.take j)))).2.2 s:=by
 have ht:∀ j,(erases ps).take j=erases (ps.take j):=fun j=>by rw [erases_map,erases_map,List.map_take]
 constructor
 ·rintro ⟨i,t,h1,h2⟩
  rw [erases_map,List.getElem?_map] at h1
  obtain ⟨p,h3,rfl⟩:=Option.map_eq_some_iff.1 h1
  rw [ht] at h2
  exact ⟨i,p,(List.getElem?_eq_some_iff.1 h3).1,h3,h2⟩
 ·rintro ⟨i,p,_,h1,h2⟩
  refine ⟨i,erase p,by rw [erases_map,List.getElem?_map,h1];rfl,?_⟩
  rw [ht]
  exact h2
theorem cx_ps (ps:List V) (bf ar:Nat) (s:St):(∃ i k t u,(erases ps)[i]? = some t∧(erases ps)[k]? = some u∧i<k∧(fcT t (bf+nposs ((erases ps).take i))).la.testBit s.fr=true∧nuAll (((erases ps).take k).drop (i+1))=true∧(fcT u (bf+nposs ((erases ps).take k))).fi.testBit s.tt=true∧s.kp=ar∧s.ag=false)↔∃ i k,i<ps.length∧CX ps bf ar i k s:=by
 have ht:∀ j,(erases ps).take j=erases (ps.take j):=fun j=>by rw [erases_map,erases_map,List.map_take]
 have hd:∀ (i:Nat) (l:List V),(erases l).drop i=erases (l.drop i):=fun i l=>by rw [erases_map,erases_map,List.map_drop]
 unfold CX
 simp only [ht,hd,nuAll_take]
 constructor
 ·rintro ⟨i,k,t,u,h1,h2,h3⟩
  rw [erases_map,List.getElem?_map] at h1 h2
  obtain ⟨p,h4,rfl⟩:=Option.map_eq_some_iff.1 h1
  obtain ⟨q,h5,rfl⟩:=Option.map_eq_some_iff.1 h2
  exact ⟨i,k,(List.getElem?_eq_some_iff.1 h4).1,p,q,h4,h5,h3⟩
 ·rintro ⟨i,k,_,p,q,h1,h2,h3⟩
  exact ⟨i,k,erase p,erase q,by rw [erases_map,List.getElem?_map,h1];rfl,by rw [erases_map,List.getElem?_map,h2];rfl,h3⟩
theorem fc_lt (t:T) (a:Nat) (h:a+npos t<200):(∀ b,(fcT t a).fi.testBit b=true→b<200)∧∀ b,(fcT t a).la.testBit b=true→b<200:=by
 have h1:=(mv_in t 0 a).1
 rw [mv_fc] at h1
 exact ⟨fun b hb=>by have:=h1.fi b hb;omega,fun b hb=>by have:=h1.la b hb;omega⟩
theorem edc_one (l:List St):∀ u∈l.flatMap edc,u.oneCell'=true:=by
 intro u hu
 obtain ⟨s,_,hs⟩:=List.mem_flatMap.1 hu
 simp only [edc,List.mem_cons,List.not_mem_nil,or_false] at hs
 rcases hs with rfl | rfl | rfl | rfl <;> rfl
theorem mv_v (t:V) (ar bf:Nat):mvT (erase t) ar bf=mvsT t.kind t.hi ar (cnt4 t.kind t.lo t.hi) (erases t.ps) (opF t.kind t.set t.lo bf) (opA t.kind t.set bf):=by cases t;rw [erase,mvT];rfl
def PaM (t:V) (bf ar:Nat) (l:List St):Prop:=∀ s,s∈l↔∃ j p,j<t.ps.length∧t.ps[j]? = some p∧SJ (mvT (erase p) (blA ar (cnt4 t.kind t.lo t.hi)) (bf+nposs (erases (t.ps.take j)))).2.2 s
theorem opA_not {k:Int} {C:Nat→Nat} {a:Nat} (h:k≠1):opA k C a=a:=by unfold opA isPos;simp [h]
theorem four_mem {t q:V} {bf ar:Nat} {l:List St} (hl:PaM t bf ar l) (hk:t.kind=4) (hps:t.ps=[q]) (hh:t.hi≠1) (s:St) :
  (s∈l∨((fcT (erase q) bf).la.testBit s.fr=true∧(fcT (erase q) bf).fi.testBit s.tt=true∧s.kp=ar∧s.ag=cnt4 t.kind t.lo t.hi))↔SJ (mvT (erase t) ar bf).2.2 s:=by
 rw [mv_v,hl s,hps,opA_not (by omega)]
 have h4:∀ ag,SJ (mvsT t.kind t.hi ar ag (erases [q]) (opF t.kind t.set t.lo bf) bf).2.2 s↔SJ (mvT (erase q) (blA ar ag) bf).2.2 s∨(t.hi≠1∧(fcT (erase q) bf).la.testBit s.fr=true∧(fcT (erase q) bf).fi.testBit s.tt=true∧s.kp=ar∧s.ag=ag):=fun ag=>by
  rw [hk]
  exact sj_four t.hi ar ag s (erase q) _ bf
 rw [h4]
 refine or_congr ⟨?_,fun h=>⟨0,q,by simp,rfl,by simpa [erases,nposs] using h⟩⟩ ⟨fun h=>⟨hh,h⟩,fun h=>h.2⟩
 rintro ⟨j,p,hj,hp,h⟩
 obtain rfl:j=0:=by simp at hj;omega
 obtain rfl:q=p:=by simpa using hp
 simpa [erases,nposs] using h
theorem cnt_not {k lo hi:Int} (h:k≠4):cnt4 k lo hi=false:=by unfold cnt4;simp [h]
theorem two_mem {t:V} {bf ar:Nat} {l:List St} (hl:PaM t bf ar l) (hk:t.kind=2) (hok:oksT (erases t.ps)=true) (s:St) :
  (s∈l∨∃ i k,i<t.ps.length∧CX t.ps bf ar i k s)↔SJ (mvT (erase t) ar bf).2.2 s:=by
 have hf:(opF 2 t.set t.lo bf).la=0:=by unfold opF isPos;simp
 have h1:=hl s
 rw [cnt_not (by omega)] at h1
 rw [mv_v,h1,opA_not (by omega),cnt_not (by omega),← cx_ps,hk,sj_two t.hi ar s (erases t.ps) _ hf bf hok,sj_ps]
 rfl
theorem else_mem {t:V} {bf ar:Nat} {l:List St} (hl:PaM t bf ar l) (h2:t.kind≠2) (h4:t.kind=4→t.hi=1∧∃ q,t.ps=[q]) (h1:t.kind=1→t.ps=[]) (s:St):s∈l↔SJ (mvT (erase t) ar bf).2.2 s:=by
 by_cases e4:t.kind=4
 ·obtain ⟨hh,q,hps⟩:=h4 e4
  rw [mv_v,hl s,hps,opA_not (by omega)]
  have h4:∀ ag,SJ (mvsT t.kind t.hi ar ag (erases [q]) (opF t.kind t.set t.lo bf) bf).2.2 s↔SJ (mvT (erase q) (blA ar ag) bf).2.2 s∨(t.hi≠1∧(fcT (erase q) bf).la.testBit s.fr=true∧(fcT (erase q) bf).fi.testBit s.tt=true∧s.kp=ar∧s.ag=ag):=fun ag=>by
   rw [e4]
   exact sj_four t.hi ar ag s (erase q) _ bf
  rw [h4]
  constructor
  ·rintro ⟨j,p,hj,hp,h⟩
   obtain rfl:j=0:=by simp at hj;omega
   obtain rfl:q=p:=by simpa using hp
   exact .inl (by simpa [erases,nposs] using h)
  ·rintro (h | h)
   ·exact ⟨0,q,by simp,rfl,by simpa [erases,nposs] using h⟩
   ·exact absurd hh h.1
 ·have e1:=hl s
  rw [cnt_not e4] at e1
  rw [mv_v,e1,cnt_not e4]
  by_cases e2:t.kind=1
  ·rw [h1 e2,show erases ([]:List V)=[] from rfl,mvsT]
   unfold SJ
   simp
  ·rw [opA_not e2,sj_else h2 e4,sj_ps]
   rfl
end Go.Proofs.YtjcfmbmepmlckaaDoor

/- The document's Edges of a node whose positions begin behind so many, with so many scopes around it: the moves of what moves makes of it.
   Conditions: the tree lies in memory, is formed, of at most 1000 nodes, and its positions are below 200. -/
namespace Go.Proofs.YtjcfmbmepmlckaaDoor
open Go.RowKit Go.Shelf
attribute [local go_sem] nodeAgg
theorem infoBs:(Tryd.prog.info? 41).map (fun i=>(i.zero,i.size,i.bytes))=some (some (.slice none 0 0),1,24):=by kernel_rfl
theorem wpList_append_two {P:Program} {w:World} {ops:Array Oper} {rest:List Oper} {o:Oper} {a:Act} {Q:Exit→Act→World→Prop} (hgd:o.guard=none) (s x:Operand) (t:TypeId)
  (ho:o.op=.call { callee:=.builtin .append,args:=#[s,x],argTypes:=#[t,t] })
  (base:Nat) (e:TypeId) (i:TypeInfo) (z:Value) (size bytes:Nat) (ht:P.underlying t=some (.slice e)) (hi:P.info? e=some i) (hz:i.zero=some z)
  (hsize:i.size=size) (hby:i.bytes=bytes) (hzs:z.cells.size=size) (hsz:0<size)
  (v:Value) (n:Nat) (xs:List Value) (hs:a.eval s=v) (hown:w.ownsRow base e size v n xs)
  (u:Value) (m base2:Nat) (news:List Value) (hx:a.eval x=u) (hrow:w.ownsRow base2 e size u m news) (h1:∀ u∈news,u.oneCell'=true)
  (h63:n+m≤maxLen) (hbytes:(n+m) * bytes≤140737488355328) (hbase:base≤w.heap.size)
  (h:∀ v' w',w'.ownsRow base e size v' (n+m) (xs ++ news)→w.grownBy w' v.ownBlock→(v'.ownBlock=v.ownBlock∨v'.ownBlock=some w.heap.size)→wpList P ops Q rest (a.put o.dst v') w'):wpList P ops Q (o :: rest) a w:=by
 have hl:=hrow.1
 rcases hrow.2 with ⟨hu,h0⟩ | ⟨g,cap,cur,hu,_⟩
 ·subst hu
  subst h0
  have hn:news=[]:=List.length_eq_zero_iff.1 (by rw [hl];simp)
  subst hn
  refine wpList_append_own_none hgd s x t ho base e i size ht hi v n xs hs hown hx (h v w ?_ ⟨rfl,rfl,rfl,Nat.le_refl _,fun _ _ _=>rfl⟩ (.inl rfl))
  rw [List.append_nil]
  exact hown
 ·refine wpList_append_own_at w hgd s x t ho base e i z size bytes ht hi hz hsize hby hzs hsz v n xs hs hown ⟨g,0,none⟩ m cap news (by rw [hx,hu]) hl (hrow.cells (by rw [hu];rfl)) h1 h63 hbytes hbase fun v' w' k1 k2 _ k4=>h v' w' k1 k2 k4
def EgO (w2:World) (ps:List V) (bf ar B c:Nat) (o b e n a x:Value) (wr:World):Prop:=∃ (i:Nat) (l:List St) (fs ls:List (Nat×Nat)) (ns:List Bool),x=.int .i64 i∧c=ps.length - i∧i≤ps.length∧a=.int .i64 (bf+nposs (erases (ps.take i)):Nat)∧EgI ps bf ar B i o b e n l fs ls ns wr∧Below w2.heap.size w2 wr
def EkO (w2:World) (ps:List V) (bf ar B:Nat) (bv ev nv:Value) (l0:List St) (fs ls:List (Nat×Nat)) (ns:List Bool) (c:Nat) (o x:Value) (wr:World):Prop:=∃ (i:Nat) (l:List St),x=.int .i64 i∧c=ps.length - i∧i≤ps.length∧EgK ps bf ar B i 0 o bv ev nv l0 l fs ls ns wr∧Below w2.heap.size w2 wr
def EkI (w2:World) (ps:List V) (bf ar B i:Nat) (bv ev nv:Value) (l0:List St) (fs ls:List (Nat×Nat)) (ns:List Bool) (c:Nat) (o y:Value) (wr:World):Prop:=∃ (k:Nat) (l:List St),y=.int .i64 k∧c=ps.length - k∧i+1≤k∧k≤ps.length∧EgK ps bf ar B i k o bv ev nv l0 l fs ls ns wr∧((ps.take k).drop (i+1)).all nuV=true∧Below w2.heap.size w2 wr
theorem row_get {w:World} {B n c:Nat} {A:Option Addr} {xs:List Value} {e:TypeId} {k:Nat} {v:Value} (h:w.ownsRow B e 1 (.slice A n c) n xs) (hk:xs[k]? = some v):∃ g,A=some ⟨g,0,none⟩∧g<w.heap.size∧w.cell? ⟨g,k,none⟩=some v:=by
 have hl:=h.1
 have hkl:=(List.getElem?_eq_some_iff.1 hk).1
 obtain ⟨g,cap,e,_,hlt⟩:=h.form (by omega)
 simp only [Value.slice.injEq] at e
 obtain ⟨rfl,_,rfl⟩:=e
 exact ⟨g,rfl,hlt,by rw [h.cellAt k (by omega)];exact hk⟩
set_option maxHeartbeats 8000000 in
set_option maxRecDepth 100000 in
theorem edges_any (N:Nat):N≤1000→∀ (t:V) (w:World) (R:Nat→Prop) (bf ar:Nat),szT (erase t)≤N→Laid w R t→okF t→bf+npos (erase t)≤199→ar+N≤100000 →
  Calls Tryd.prog 9 #[nodeAgg t,.int .i64 (bf:Int),.int .i64 (ar:Int)] w fun e w'=>(∃ (v:Value) (l:List St),e=.returned v∧EdR w' w.heap.size v l∧(∀ s,s∈l↔SJ (mvT (erase t) ar bf).2.2 s)∧l.length+40000000≤40000000 * szT (erase t))∧Below w.heap.size w w':=by
 induction N with
 | zero=>intro _ t w R bf ar h;rw [sz_eq] at h;omega
 | succ N ih =>
  intro hN t w R bf ar hd ha hok hbf har
  obtain ⟨i0,hi,hz0,hz1,hz2⟩:=info_parts infoEd
  obtain ⟨j0,hj,hy0,hy1,hy2⟩:=info_parts infoBo
  obtain ⟨k0,hk,hx0,hx1,hx2⟩:=info_parts infoBs
  obtain ⟨sa,sc,hv,hrow⟩:=laid_row' ha
  have hsz:=sz_eq t
  have hlen:=len_sz t.ps
  have hn1:(t.ps.length:Int)≤1000:=by omega
  have hnp:npos (erase t)=(if isPos t.kind t.set then 1 else 0)+nposs (erases t.ps):=by cases t;rw [erase,npos];rfl
  have hmv:mvT (erase t) ar bf=mvsT t.kind t.hi ar (cnt4 t.kind t.lo t.hi) (erases t.ps) (opF t.kind t.set t.lo bf) (opA t.kind t.set bf):=by cases t;rw [erase,mvT];rfl
  have hokk:okA t.kind (z4 t.set) t.lo t.hi t.ps.length=true∧oksT (erases t.ps)=true:=by
   have h:okT (erase t)=true:=hok
   rw [okT_eq,Bool.and_eq_true] at h
   exact h
  have HP:=Lib.hid (fun (i:Nat) (p:V) (hp:t.ps[i]? = some p) (W:World) (hW:Below w.heap.size w W) (b' a':Nat) (hb':b' + npos (erase p)≤199) (ha':a'≤ar+1)=>by
   obtain ⟨_,_,_,_,_,L1⟩:=hrow i p hp
   have hpz:=sz_mem (List.mem_of_getElem? hp)
   exact ih (by omega) p W R b' a' (by omega) (laid_low L1 hW) (hok.part (List.mem_of_getElem? hp)) hb' (by omega))
  have HE:=Lib.hid (fun (i:Nat) (p:V) (hp:t.ps[i]? = some p) (W:World) (hW:Below w.heap.size w W) (b':Nat) (hb':b' + npos (erase p)≤199)=>by
   obtain ⟨_,_,_,_,_,L1⟩:=hrow i p hp
   have hpz:=sz_mem (List.mem_of_getElem? hp)
   exact ends_any N (by omega) p W R b' (by omega) (laid_low L1 hW) (hok.part (List.mem_of_getElem? hp)) hb')
  have HT:=Lib.hid (fun (i:Nat) (p:V) (hp:t.ps[i]? = some p) (W:World) (hW:Below w.heap.size w W)=>by
   obtain ⟨_,_,_,_,_,L1⟩:=hrow i p hp
   have hpz:=sz_mem (List.mem_of_getElem? hp)
   exact told_any N (by omega) p W R (by omega) (laid_low L1 hW) (hok.part (List.mem_of_getElem? hp)))
  have HR:=Lib.hid hrow
  have HNF:=Lib.hid (And.intro hnp (And.intro hmv (And.intro hokk (And.intro hbf (And.intro har (And.intro hN (show szT (erase t)≤1000 by omega)))))))
  obtain ⟨w2,hw2,hbw,hlt2,hbx⟩:=box_new w t (.slice sa t.ps.length sc)
  have HBX:=Lib.hid hbx
  have HBW:=Lib.hid hbw
  have HL2:=Lib.hid hlt2
  have HCT:=Lib.hid (by have:=refCounts_t t w2 hok;rw [hv] at this;exact this)
  obtain ⟨ag,hag⟩ : ∃ ag,ag=cnt4 t.kind t.lo t.hi:=⟨_,rfl⟩
  rw [← hag] at HCT
  have HAG:=Lib.hid hag
  have hbf2:(bf:Int)≤199:=by omega
  have har2:(ar:Int)≤100000:=by omega
  rw [nodeAgg_v hv]
  clear hrow hsz hlen hbx hbw hlt2 hd ha hok ih hv hnp hmv hokk hbf har hag
  obtain ⟨x0,x1,x2,x3,x4,x5,x6,x7⟩:=HBX.out w2 (Below.refl _ _)
  go_enter Tryd.func9,Tryd.ntmps9
  go_upto_region 3 with fail
  clear hw2
  go_wp2_with fail
  go_at_call 14
  refine HCT.out.mono ?_
  rintro e w3 ⟨rfl,hb3⟩
  have HB3:=Lib.hid hb3
  clear hb3 x0 x1 x2 x3 x4 x5 x6 x7
  go_upto_if 29 with fail
  have hb5:Below w2.heap.size w2 (w3.alloc (.cells #[.int .i64 (max 1 t.lo),.int .i64 t.hi] 59)):=HB3.out.alloc HB3.out.size _
  generalize w3.alloc (.cells #[.int .i64 (max 1 t.lo),.int .i64 t.hi] 59)=w5 at *
  have HB5:=Lib.hid hb5
  clear hb5
  go_cut [8] (fun inner wx=>inner=.int .i64 (blA ar ag:Nat)∧wx=w5)
  case first =>
   cases ag
   all_goals
    go_wp2_with fail
    go_meet
    exact ⟨rfl,rfl⟩
  case rest =>
   obtain ⟨rfl,rfl⟩:=hcut
   obtain ⟨a',ha'⟩ : ∃ a',a'=blA ar ag:=⟨_,rfl⟩
   rw [← ha']
   have hal:a'≤ar+1:=by rw [ha'];unfold blA;split <;> omega
   have HA:=Lib.hid (And.intro ha' hal)
   have ha2:(a':Int)≤100001:=by omega
   clear ha' hal
   go_wp2_with fail
   go_loopw [7,11,12,13,14,15] (fun o b d n a x wr=>∃ c,EgO w2 t.ps bf a' w2.heap.size c o b d n a x wr) (fun o b d n a x wr=>leastOf (fun c=>EgO w2 t.ps bf a' w2.heap.size c o b d n a x wr))
   case atStart=>exact ⟨_,0,[],[],[],[],rfl,rfl,by omega,by simp [erases,nposs],EgI.start _ _ _ _ _,HB5.out⟩
   case round =>
    have hls:=(leastOf_spec hrel).1
    obtain ⟨i,l,fs,ls,ns,rfl,hN1,hi1,rfl,hI,hb⟩:=hls
    have HN1:=Lib.hid hN1
    have HI:=Lib.hid (And.intro hI hb)
    clear hN1 hrel
    obtain ⟨x0,x1,x2,x3,x4,x5,x6,x7⟩:=HBX.out _ hb
    have s1:(0:Int)≤(i:Int):=by omega
    have hps1:t.ps.length≤1000:=by omega
    by_cases hlt:i<t.ps.length
    ·have g1:(i:Int)<(t.ps.length:Int):=by omega
     obtain ⟨p,hp⟩ : ∃ p,t.ps[i]? = some p:=⟨_,List.getElem?_eq_getElem hlt⟩
     obtain ⟨b1,o1,rfl,hlt1,cc1,L1⟩:=HR.out i p hp
     obtain ⟨pa,pc,hpv,_⟩:=laid_row' L1
     have hbww:Below w.heap.size w wr:=bhop HBW.out hb
     obtain ⟨y0,y1,y2,y3,y4,y5,y6,y7⟩:=node_cells cc1 hlt1 hbww
     rw [hpv] at y5
     obtain ⟨cn,hcnn⟩ : ∃ cn,cn=bf+nposs (erases (t.ps.take i)):=⟨_,rfl⟩
     rw [← hcnn]
     have hcb:cn+npos (erase p)≤199:=by
      have h1:=nposs_take hp
      have h2:=nposs_le t.ps (i+1)
      obtain ⟨h3,_,_,h4,_⟩:=HNF.out
      omega
     have hnx:bf+nposs (erases (t.ps.take (i+1)))=cn+npos (erase p):=by rw [nposs_take hp,hcnn];omega
     have hl1:l.length≤40000000000∧szT (erase p)≤1000:=by
      have h1:=HI.out.1.len
      have h2:=szs_take hp
      have h3:szsT (erases (t.ps.take (i+1)))≤szsT (erases t.ps):=by
       have h4:=szw_append (erases (t.ps.take (i+1))) (erases (t.ps.drop (i+1)))
       rw [← erases_append,List.take_append_drop] at h4
       omega
      have h5:=HNF.out.2.2.2.2.2.2
      have h6:=sz_eq t
      omega
     have HC:=Lib.hid (by
      have:=HP.out i p hp wr hbww cn a' hcb HA.out.2
      rw [nodeAgg_v hpv] at this
      exact this)
     have HE1:=Lib.hid (fun (W:World) (h:Below w.heap.size w W)=>by
      have:=HE.out i p hp W h cn hcb
      rw [nodeAgg_v hpv] at this
      exact this)
     have HT1:=Lib.hid (fun (W:World) (h:Below w.heap.size w W)=>by
      have:=HT.out i p hp W h
      rw [nodeAgg_v hpv] at this
      exact this)
     have HY:=Lib.hid (fun (W:World) (h:Below w.heap.size w W)=>by
      have:=node_cells cc1 hlt1 h
      rw [hpv] at this
      exact this)
     have HCN:=Lib.hid (And.intro hcnn hnx)
     have HPI:=Lib.hid (And.intro hp hlt)
     have t1:(cn:Int)+(npos (erase p):Int)≤199:=by omega
     have t2:(cn:Int)≤199:=by omega
     have HL:=Lib.hid hl1
     clear hp hlt L1 cc1 hlt1 hpv hcnn hnx hcb hbww hl1 hI hb hi1
     go_wp2_with fail
     go_at_call 9
     refine HC.out.mono ?_
     rintro e w6 ⟨⟨rv,l2,rfl,hR2,hm2,hl2⟩,hb6⟩
     have hM6:=HI.out.1.m.below hb6
     have hB6:Below w2.heap.size w2 w6:=bhop HI.out.2 hb6
     have hl3:l.length≤40000000000:=HL.out.1
     have hl4:l2.length≤40000000000:=by have:=HL.out.2;omega
     have hs6:=hB6.size
     clear x0 x1 x2 x3 x4 x5 x6 x7 y0 y1 y2 y3 y4 y5 y6 y7
     go_wp2_with (at_builtin;refine wpList_append_two rfl _ _ 46 rfl w2.heap.size 54 i0 _ 4 32 Tryd.underlying46 hi hz0 hz1 hz2 rfl (by decide) _ l.length (l.flatMap edc) rfl hM6.o _ l2.length wr.heap.size (l2.flatMap edc) rfl hR2 (edc_one l2) (by unfold maxLen;omega) (by omega) hs6 ?_)
     intro v7 w7 hown7 hgrow7 hloc7
     have hc7:Chg (fun x=>u7.ownBlock=some x) w6 w7:=(Chg.refl _ w6).grown hgrow7 fun k hk _=>hk
     have hM7:EdM w2.heap.size w7 v7 u11 u12 u13 (l ++ l2) fs ls ns:=hM6.oput hc7 (by
      show w7.ownsRow _ _ 4 v7 (l ++ l2).length ((l ++ l2).flatMap edc)
      rw [List.length_append,List.flatMap_append]
      exact hown7)
     have hB7:Below w2.heap.size w2 w7:=hB6.trans (hc7.below hs6 fun k hk e=>by have:=(hM6.o.lt k e).1;omega)
     have H7:=Lib.hid (And.intro hM7 (And.intro hB7 (And.intro hm2 hl2)))
     clear hc7 hM7 hB7 hM6 hB6 hs6 hown7 hgrow7 hloc7 hR2 hm2 hl2 hb6 hl3 hl4
     obtain ⟨y0,y1,y2,y3,y4,y5,y6,y7⟩:=HY.out w7 (bhop HBW.out H7.out.2.1)
     obtain ⟨x0,x1,x2,x3,x4,x5,x6,x7⟩:=HBX.out w7 H7.out.2.1
     go_wp2_with fail
     go_at_call 20
     refine (HE1.out w7 (bhop HBW.out H7.out.2.1)).mono ?_
     rintro e' w8 ⟨⟨f2,g2,rfl,hf2,hg2,hf2s,hg2s⟩,hb8⟩
     have hnn:∀ q,w7.heap.size≤q→u13.ownBlock≠some q:=fun q hq e=>by have:=(H7.out.1.n.lt q e).2;omega
     have H8:=Lib.hid (And.intro (H7.out.1.below hb8) (And.intro (H7.out.2.1.trans (hb8.mono H7.out.2.1.size)) (And.intro hf2 (And.intro hg2 (And.intro (hnn f2 hf2s) (hnn g2 hg2s))))))
     clear hf2 hg2 hf2s hg2s hnn hb8 x0 x1 x2 x3 x4 x5 x6 x7 y0 y1 y2 y3 y4 y5 y6 y7
     obtain ⟨y0,y1,y2,y3,y4,y5,y6,y7⟩:=HY.out w8 (bhop HBW.out H8.out.2.1)
     obtain ⟨x0,x1,x2,x3,x4,x5,x6,x7⟩:=HBX.out w8 H8.out.2.1
     go_wp2_with fail
     go_at_call 21
     refine (HT1.out w8 (bhop HBW.out H8.out.2.1)).mono ?_
     rintro e' w9 ⟨rfl,hb9⟩
     obtain ⟨nu,hnu⟩ : ∃ nu,nu=nuV p:=⟨_,rfl⟩
     rw [← hnu]
     have HNU:=Lib.hid hnu
     have H9:=Lib.hid (And.intro (H8.out.1.below hb9) (And.intro (H8.out.2.1.trans (hb9.mono H8.out.2.1.size)) (And.intro (H8.out.2.2.1.below hb9) (H8.out.2.2.2.1.below hb9))))
     clear hb9 hnu x0 x1 x2 x3 x4 x5 x6 x7 y0 y1 y2 y3 y4 y5 y6 y7
     have hM9:=H9.out.1
     have hs9:=H9.out.2.1.size
     have hfl:fs.length≤1000:=by have h1:=HI.out.1.lf;have h2:=HPI.out.2;omega
     have hll:ls.length≤1000:=by have h1:=HI.out.1.ll;have h2:=HPI.out.2;omega
     have hnl:ns.length≤1000:=by have h1:=HI.out.1.ln;have h2:=HPI.out.2;omega
     go_wp2_with (at_builtin;refine wpList_append_lies _ (by rfl) _ _ 73 (by rfl) w2.heap.size 41 k0 _ 1 24 Tryd.underlying73 hk hx0 hx1 hx2 rfl (by decide) _ fs.length (fs.map rowV) (by rfl) (hM9.b.alloc _) ⟨w9.heap.size,0,none⟩ 1 1 [.slice (some ⟨f2,0,none⟩) 200 200] (by rfl) rfl (World.news_of_block (heap_alloc_new w9 _)) (by simp [Value.oneCell']) (by decide) (by unfold maxLen;omega) (by omega) (by simp;omega) _ rfl ?_)
     intro gA cA wA hownA hgrowA hatA hltA
     have hcA:Chg (fun x=>u11.ownBlock=some x) w9 wA:=((Chg.refl _ w9).alloc _).grown hgrowA fun k hk _=>hk
     have hMA:=hM9.bput (q:=(f2,(fcT (erase p) cn).fi)) hcA hownA (hatA.imp id fun e=>by rw [e];simp) H9.out.2.2.1 H8.out.2.2.2.2.1
     have hBA:Below w2.heap.size w2 wA:=H9.out.2.1.trans (hcA.below hs9 fun k hk e=>by have:=(hM9.b.lt k e).1;omega)
     have hgA:B200 wA g2 (fcT (erase p) cn).la:=H9.out.2.2.2.chg hcA fun e=>by have:=(own_ty hM9.b e).eq H9.out.2.2.2.ty;revert this;decide
     have HA2:=Lib.hid (And.intro hMA (And.intro hBA hgA))
     clear hcA hMA hBA hgA hownA hgrowA hatA hltA hM9 hs9
     have hMA:=HA2.out.1
     have hsA:=HA2.out.2.1.size
     go_wp2_with (at_builtin;refine wpList_append_lies _ (by rfl) _ _ 73 (by rfl) w2.heap.size 41 k0 _ 1 24 Tryd.underlying73 hk hx0 hx1 hx2 rfl (by decide) _ ls.length (ls.map rowV) (by rfl) (hMA.e.alloc _) ⟨wA.heap.size,0,none⟩ 1 1 [.slice (some ⟨g2,0,none⟩) 200 200] (by rfl) rfl (World.news_of_block (heap_alloc_new wA _)) (by simp [Value.oneCell']) (by decide) (by unfold maxLen;omega) (by omega) (by simp;omega) _ rfl ?_)
     intro gB cB wB hownB hgrowB hatB hltB
     have hcB:Chg (fun x=>u12.ownBlock=some x) wA wB:=((Chg.refl _ wA).alloc _).grown hgrowB fun k hk _=>hk
     have hMB:=hMA.eput (q:=(g2,(fcT (erase p) cn).la)) hcB hownB (hatB.imp id fun e=>by rw [e];simp) HA2.out.2.2 H8.out.2.2.2.2.2
     have hBB:Below w2.heap.size w2 wB:=HA2.out.2.1.trans (hcB.below hsA fun k hk e=>by have:=(hMA.e.lt k e).1;omega)
     have HB2:=Lib.hid (And.intro hMB hBB)
     clear hcB hMB hBB hownB hgrowB hatB hltB hMA hsA
     have hMB:=HB2.out.1
     have hsB:=HB2.out.2.size
     go_wp2_with (at_builtin;refine wpList_append_lies _ (by rfl) _ _ 41 (by rfl) w2.heap.size 4 j0 _ 1 1 Tryd.underlying41 hj hy0 hy1 hy2 rfl (by decide) _ ns.length (ns.map Value.bool) (by rfl) (hMB.n.alloc _) ⟨wB.heap.size,0,none⟩ 1 1 [.bool nu] (by rfl) rfl (World.news_of_block (heap_alloc_new wB _)) (by simp [Value.oneCell']) (by decide) (by unfold maxLen;omega) (by omega) (by simp;omega) _ rfl ?_)
     intro gC cC wC hownC hgrowC hatC hltC
     have hcC:Chg (fun x=>u13.ownBlock=some x) wB wC:=((Chg.refl _ wB).alloc _).grown hgrowC fun k hk _=>hk
     have hMC:=hMB.nput (u:=nu) hcC hownC (hatC.imp id fun e=>by rw [e];simp)
     have hBC:Below w2.heap.size w2 wC:=HB2.out.2.trans (hcC.below hsB fun k hk e=>by have:=(hMB.n.lt k e).1;omega)
     have HFI:=Lib.hid (show EgO w2 t.ps bf a' w2.heap.size (t.ps.length - (i+1)) v7 (.slice (some ⟨gA,0,none⟩) (fs.length+1) cA) (.slice (some ⟨gB,0,none⟩) (ls.length+1) cB) (.slice (some ⟨gC,0,none⟩) (ns.length+1) cC) (.int .i64 ((cn:Int)+(npos (erase p):Int))) (.int .i64 ((i:Int)+1)) wC from
      ⟨i+1,_,_,_,_,by push_cast;rfl,rfl,by have:=HPI.out.2;omega,by rw [HCN.out.2];push_cast;rfl,HI.out.1.next HPI.out.1 (HNU.out▸hMC) (HCN.out.1▸H7.out.2.2.1) H7.out.2.2.2 (by rw [HCN.out.1]) (by rw [HCN.out.1]),hBC⟩)
     have HLT:=Lib.hid (show t.ps.length - (i+1)<t.ps.length - i by have:=HPI.out.2;omega)
     clear hcC hMC hBC hownC hgrowC hatC hltC hMB hsB
     have s3:(i:Int)<1000:=by have:=HPI.out.2;omega
     go_wp2_with fail
     go_roundw
     case rel=>exact ⟨_,HFI.out⟩
     case measure =>
      have hn1:=HN1.out
      rw [← HCN.out.1] at hn1
      rw [hn1]
      exact Nat.lt_of_le_of_lt ((leastOf_spec ⟨_,HFI.out⟩).2 _ HFI.out) HLT.out
    ·have g1:¬ (i:Int)<(t.ps.length:Int):=by omega
     have hil:i=t.ps.length:=by omega
     subst hil
     have hM:=HI.out.1.m
     have hlf:=HI.out.1.lf
     have hll:=HI.out.1.ll
     have hln:=HI.out.1.ln
     have hnn:t.ps.length≤1000:=hps1
     have hl1:l.length≤40000000000:=by
      have h1:=HI.out.1.len
      rw [List.take_length] at h1
      have h5:=HNF.out.2.2.2.2.2.2
      have h6:=sz_eq t
      omega
     obtain ⟨bA,bc,rfl⟩:=own_form hM.b
     obtain ⟨dA,dc,rfl⟩:=own_form hM.e
     obtain ⟨nA,nc,rfl⟩:=own_form hM.n
     have HM:=Lib.hid hM
     have HPM:=Lib.hid (show PaM t bf ar l from fun s=>by
      have:=HI.out.1.mem s
      rw [HA.out.1,HAG.out] at this
      exact this)
     clear hI hb hM hi1
     have hwr:=HI.out.2.size
     have hMd:EdM w2.heap.size wr.drew u7 (.slice bA fs.length bc) (.slice dA ls.length dc) (.slice nA ns.length nc) l fs ls ns:=HM.out.below ((Below.refl _ wr).drew)
     have HMD:=Lib.hid hMd
     have HNN:=Lib.hid hnn
     clear hMd
     by_cases k4:t.kind=4∧t.hi≠1
     ·rw [k4.1] at x0
      have kh':(t.hi == 1)=false:=by simp [k4.2]
      have hps:∃ q,t.ps=[q]:=by
       have h:=HNF.out.2.2.1.1
       unfold okA at h
       rw [decide_eq_true_iff,k4.1] at h
       refine List.length_eq_one_iff.1 ?_
       rcases h with h | h | h | h <;> omega
      obtain ⟨q,hps⟩:=hps
      have hn1':t.ps.length=1:=by rw [hps];rfl
      obtain ⟨q1,hq1⟩:=List.length_eq_one_iff.1 (hlf.trans hn1')
      obtain ⟨q2,hq2⟩:=List.length_eq_one_iff.1 (hll.trans hn1')
      obtain ⟨gd,rfl,hgd,hcd⟩:=row_get (k:=0) (v:=rowV q2) HMD.out.e (by rw [hq2];rfl)
      obtain ⟨gb,rfl,hgb,hcb⟩:=row_get (k:=0) (v:=rowV q1) HMD.out.b (by rw [hq1];rfl)
      have hq0:t.ps[0]? = some q:=by rw [hps];rfl
      have hv1:=HI.out.1.vf 0 q1 q (by rw [hq1];rfl) hq0
      have hv2:=HI.out.1.vl 0 q2 q (by rw [hq2];rfl) hq0
      have hz0':bf+nposs (erases (t.ps.take 0))=bf:=by simp [erases,nposs]
      rw [hz0'] at hv1 hv2
      have hpq:bf+npos (erase q)<200:=by
       have h1:=HNF.out.1
       have h4:=HNF.out.2.2.2.1
       have h2:=nposs_take hq0
       have h3:=nposs_le t.ps (0+1)
       omega
      have hfl:=fc_lt (erase q) bf hpq
      have HQ:=Lib.hid (And.intro hps (And.intro hn1' (And.intro hv1 (And.intro hv2 (And.intro hfl k4)))))
      have hb1:B200 wr.drew q1.1 q1.2:=HMD.out.rf q1 (by rw [hq1];simp)
      have hb2:B200 wr.drew q2.1 q2.2:=HMD.out.rl q2 (by rw [hq2];simp)
      have hcr:=cross_any wr.drew w2.heap.size u7 l q2.1 q1.1 q2.2 q1.2 0 ar ag HMD.out.o hwr hb2 hb1 (by omega)
      rw [show ((0:Nat):Int)=0 from rfl] at hcr
      have HCR:=Lib.hid hcr
      have hf1:fs.length=1:=hlf.trans hn1'
      have hl1':ls.length=1:=hll.trans hn1'
      rw [hf1,hl1']
      have hcd':wr.cell? ⟨gd,0,none⟩=some (rowV q2):=hcd
      have hcb':wr.cell? ⟨gb,0,none⟩=some (rowV q1):=hcb
      have hgd':gd<wr.heap.size:=hgd
      have hgb':gb<wr.heap.size:=hgb
      clear hcr hb1 hb2 hfl hpq hz0' hv1 hv2 hq0 hcd hcb hgd hgb hq1 hq2 hps k4 hlf hll hln
      go_wp2_with fail
      go_still_tail 10,(by kernel_rfl)
      change wpList _ _ _ _ _ wr.drew
      go_wp2_with fail
      go_at_call 22
      refine HCR.out.mono ?_
      rintro e w6 ⟨v',l',rfl,hR,hm,hl,hc,_⟩
      have HF:=Lib.hid (And.intro hR (And.intro hm (And.intro hl hc)))
      clear hR hm hl hc
      go_wp2_with fail
      go_ret
      obtain ⟨hR,hm,hl,hc⟩:=HF.out
      obtain ⟨hps,hn1',hv1,hv2,hfl,k4⟩:=HQ.out
      refine ⟨⟨v',l',rfl,own_low hR HBW.out.size,fun s=>?_,?_⟩,?_⟩
      ·rw [hm s]
       refine Iff.trans (or_congr Iff.rfl ?_) (four_mem HPM.out k4.1 hps k4.2 s)
       rw [hv1,hv2]
       exact ⟨fun ⟨h1,h2,_,_,h3,h4⟩=>⟨h1,h2,h3,h4.trans HAG.out⟩,fun ⟨h1,h2,h3,h4⟩=>⟨h1,h2,hfl.1 _ h2,hfl.2 _ h1,h3,h4.trans HAG.out.symm⟩⟩
      ·rw [sz_eq t]
       refine ar_four ?_ hl
       have h1:=HI.out.1.len
       rw [List.take_length,hn1'] at h1
       exact h1
      ·exact bhop HBW.out (HI.out.2.drew.trans (hc.below (B:=w2.heap.size) hwr fun k hk e=>by have:=(HMD.out.o.lt k e).1;omega))
     ·have hk41:t.kind=4→t.hi=1:=fun e=>Classical.byContradiction fun h=>k4 ⟨e,h⟩
      have HK4:=Lib.hid hk41
      clear k4 hk41
      by_cases k2:t.kind=2
      ·rw [k2] at x0
       have haa:a'=ar:=by rw [HA.out.1,HAG.out,cnt_not (by omega)];rfl
       have HAA:=Lib.hid haa
       have HLL:=Lib.hid (And.intro hlf (And.intro hll (And.intro hln hl1)))
       clear haa hlf hll hln hl1
       go_wp2_with fail
       go_loopw [7,21] (fun o x wr=>∃ c,EkO w2 t.ps bf a' w2.heap.size (.slice bA fs.length bc) (.slice dA ls.length dc) (.slice nA ns.length nc) l fs ls ns c o x wr) (fun o x wr=>leastOf (fun c=>EkO w2 t.ps bf a' w2.heap.size (.slice bA fs.length bc) (.slice dA ls.length dc) (.slice nA ns.length nc) l fs ls ns c o x wr))
       case atStart=>exact ⟨_,0,l,rfl,rfl,Nat.zero_le _,HI.out.1.cross,HI.out.2⟩
       case round =>
        have hls:=(leastOf_spec hrel).1
        obtain ⟨i,l3,rfl,hN2,hi2,hK,hb2⟩:=hls
        have HN2:=Lib.hid hN2
        have HK:=Lib.hid (And.intro hK hb2)
        clear hN2 hrel hK
        obtain ⟨x0,x1,x2,x3,x4,x5,x6,x7⟩:=HBX.out _ hb2
        rw [k2] at x0
        have v1:(0:Int)≤(i:Int):=by omega
        by_cases hin:i<t.ps.length
        ·have v2:(i:Int)<(t.ps.length:Int):=by omega
         have v3:(i:Int)<1000:=by omega
         go_wp2_with fail
         go_loopw [7,22] (fun o y wr=>∃ c,EkI w2 t.ps bf a' w2.heap.size i (.slice bA fs.length bc) (.slice dA ls.length dc) (.slice nA ns.length nc) l fs ls ns c o y wr) (fun o y wr=>leastOf (fun c=>EkI w2 t.ps bf a' w2.heap.size i (.slice bA fs.length bc) (.slice dA ls.length dc) (.slice nA ns.length nc) l fs ls ns c o y wr))
         case atStart=>exact ⟨_,i+1,l3,by push_cast;rfl,rfl,Nat.le_refl _,hin,HK.out.1.begin,all_first _ _,HK.out.2⟩
         case round =>
          have hls:=(leastOf_spec hrel).1
          obtain ⟨k,l4,rfl,hN3,hk1,hk2,hK3,hall,hb3⟩:=hls
          have HN3:=Lib.hid hN3
          have HK3:=Lib.hid (And.intro hK3 (And.intro hall (And.intro hb3 (And.intro hk1 hk2))))
          clear hN3 hrel hK3 hall
          obtain ⟨x0,x1,x2,x3,x4,x5,x6,x7⟩:=HBX.out _ hb3
          rw [k2] at x0
          have q1:(0:Int)≤(k:Int):=by omega
          by_cases hkn:k<t.ps.length
          ·have q2:(k:Int)<(t.ps.length:Int):=by omega
           have q3:(k:Int)<1000:=by omega
           obtain ⟨tp,htp⟩ : ∃ tp,t.ps[i]? = some tp:=⟨_,List.getElem?_eq_getElem hin⟩
           obtain ⟨up,hup⟩ : ∃ up,t.ps[k]? = some up:=⟨_,List.getElem?_eq_getElem hkn⟩
           have hMd:EdM w2.heap.size wr.drew u7 (.slice bA fs.length bc) (.slice dA ls.length dc) (.slice nA ns.length nc) l4 fs ls ns:=HK3.out.1.m.below ((Below.refl _ wr).drew)
           obtain ⟨r2,hr2⟩ : ∃ r2,ls[i]? = some r2:=⟨_,List.getElem?_eq_getElem (by have:=HLL.out.2.1;omega)⟩
           obtain ⟨r1,hr1⟩ : ∃ r1,fs[k]? = some r1:=⟨_,List.getElem?_eq_getElem (by have:=HLL.out.1;omega)⟩
           obtain ⟨nb,hnb⟩ : ∃ nb,ns[k]? = some nb:=⟨_,List.getElem?_eq_getElem (by have:=HLL.out.2.2.1;omega)⟩
           obtain ⟨gd,rfl,hgd,hcd⟩:=row_get (k:=i) (v:=rowV r2) hMd.e (by rw [List.getElem?_map,hr2];rfl)
           obtain ⟨gb,rfl,hgb,hcb⟩:=row_get (k:=k) (v:=rowV r1) hMd.b (by rw [List.getElem?_map,hr1];rfl)
           have hb1:B200 wr.drew r1.1 r1.2:=hMd.rf r1 (List.mem_of_getElem? hr1)
           have hb2':B200 wr.drew r2.1 r2.2:=hMd.rl r2 (List.mem_of_getElem? hr2)
           have hcr:=cross_any wr.drew w2.heap.size u7 l4 r2.1 r1.1 r2.2 r1.2 0 ar false hMd.o HK3.out.2.2.1.size hb2' hb1 (ar_big HNN.out (Nat.le_of_lt hin) hk2 HLL.out.2.2.2 HK3.out.1.len)
           rw [show ((0:Nat):Int)=0 from rfl] at hcr
           have HCR:=Lib.hid hcr
           have hcd':wr.cell? ⟨gd,i,none⟩=some (rowV r2):=hcd
           have hcb':wr.cell? ⟨gb,k,none⟩=some (rowV r1):=hcb
           have hgd':gd<wr.heap.size:=hgd
           have hgb':gb<wr.heap.size:=hgb
           have hfl:fs.length=t.ps.length:=HLL.out.1
           have hll:ls.length=t.ps.length:=HLL.out.2.1
           have hnl:ns.length=t.ps.length:=HLL.out.2.2.1
           have g3:(i:Int)<(ls.length:Int):=by omega
           have g4:(k:Int)<(fs.length:Int):=by omega
           have g5:(k:Int)<(ns.length:Int):=by omega
           have hlt:∀ (j:Nat) (y:V),t.ps[j]? = some y→bf+nposs (erases (t.ps.take j))+npos (erase y)<200:=fun j y hy=>by
            have h1:=HNF.out.1
            have h4:=HNF.out.2.2.2.1
            have h2:=nposs_take hy
            have h3:=nposs_le t.ps (j+1)
            omega
           have HMD:=Lib.hid (And.intro hMd (And.intro htp (And.intro hup (And.intro hr2 (And.intro hr1 (And.intro hnb (And.intro hin (And.intro hkn hlt))))))))
           clear hcr hcd hcb hgd hgb hb1 hb2' hMd htp hup hr2 hr1 hnb hb3 hk1 hk2 hin hkn hi2 hfl hll hnl hlt
           go_wp2_with fail
           go_still_tail 11,(by kernel_rfl)
           change wpList _ _ _ _ _ wr.drew
           go_wp2_with fail
           go_at_call 22
           refine HCR.out.mono ?_
           rintro e w6 ⟨v',l',rfl,hR,hm,hl,hc,_⟩
           obtain ⟨hMd,htp,hup,hr2,hr1,hnb,hin,hkn,hlt⟩:=HMD.out
           have hM6:=hMd.oput hc hR
           have hB6:Below w2.heap.size w2 w6:=HK3.out.2.2.1.drew.trans (hc.below (B:=w2.heap.size) HK3.out.2.2.1.size fun k hk e=>by have:=(hMd.o.lt k e).1;omega)
           obtain ⟨gn,rfl,hgn,hcn⟩:=row_get (k:=k) (v:=.bool nb) hM6.n (by rw [List.getElem?_map,hnb];rfl)
           have hX:=HI.out.1.vl i r2 tp hr2 htp
           have hY:=HI.out.1.vf k r1 up hr1 hup
           have hik:i<k:=by have:=HK3.out.2.2.2.1;omega
           have hKn:=HK3.out.1.pair hM6 htp hup hik HK3.out.2.1 hX hY (by rw [hX];exact (fc_lt _ _ (hlt i tp htp)).2) (by rw [hY];exact (fc_lt _ _ (hlt k up hup)).1) (fun s=>by rw [HAA.out];exact hm s) hl
           have hnu:=HI.out.1.vn k nb up hnb hup
           have HE6:=Lib.hid (And.intro hKn (And.intro hB6 (And.intro hnu (And.intro hup (And.intro hik (And.intro hin hkn))))))
           clear hM6 hB6 hX hY hKn hnu hik hMd htp hup hr2 hr1 hnb hR hm hl hc hcd' hcb' hgd' hgb' hlt hin hkn x0 x1 x2 x3 x4 x5 x6 x7
           cases nb
           ·have HFI:=Lib.hid (show EkO w2 t.ps bf a' w2.heap.size _ _ _ l fs ls ns (t.ps.length - (i+1)) v' (.int .i64 ((i:Int)+1)) w6 from
             ⟨i+1,l',by push_cast;rfl,rfl,HE6.out.2.2.2.2.2.1,HE6.out.1.none HE6.out.2.2.2.1 (by have:=HE6.out.2.2.2.2.1;omega) HE6.out.2.2.2.2.2.2 HE6.out.2.2.1.symm,HE6.out.2.1⟩)
            have HLT:=Lib.hid (show t.ps.length - (i+1)<t.ps.length - i by have:=HE6.out.2.2.2.2.2.1;omega)
            go_wp2_with fail
            go_roundw
            case rel=>exact ⟨_,HFI.out⟩
            case measure =>
             rw [HN2.out]
             exact Nat.lt_of_le_of_lt ((leastOf_spec ⟨_,HFI.out⟩).2 _ HFI.out) HLT.out
           ·have HFI:=Lib.hid (show EkI w2 t.ps bf a' w2.heap.size i _ _ _ l fs ls ns (t.ps.length - (k+1)) v' (.int .i64 ((k:Int)+1)) w6 from
             ⟨k+1,l',by push_cast;rfl,rfl,by have:=HE6.out.2.2.2.2.1;omega,HE6.out.2.2.2.2.2.2,HE6.out.1,all_next HE6.out.2.2.2.1 HE6.out.2.2.2.2.1 HK3.out.2.1 HE6.out.2.2.1.symm,HE6.out.2.1⟩)
            have HLT:=Lib.hid (show t.ps.length - (k+1)<t.ps.length - k by have:=HE6.out.2.2.2.2.2.2;omega)
            go_wp2_with fail
            go_roundw
            case rel=>exact ⟨_,HFI.out⟩
            case measure =>
             rw [HN3.out]
             exact Nat.lt_of_le_of_lt ((leastOf_spec ⟨_,HFI.out⟩).2 _ HFI.out) HLT.out
          ·have q2:¬ (k:Int)<(t.ps.length:Int):=by omega
           obtain rfl:k=t.ps.length:=by omega
           have HFI:=Lib.hid (show EkO w2 t.ps bf a' w2.heap.size (.slice bA fs.length bc) (.slice dA ls.length dc) (.slice nA ns.length nc) l fs ls ns (t.ps.length - (i+1)) u7 (.int .i64 ((i:Int)+1)) wr from
            ⟨i+1,l4,by push_cast;rfl,rfl,hin,HK3.out.1.done,HK3.out.2.2.1⟩)
           have HLT:=Lib.hid (show t.ps.length - (i+1)<t.ps.length - i by omega)
           clear hb3 hkn hk1 hk2 hin hi2
           go_wp2_with fail
           go_roundw
           case rel=>exact ⟨_,HFI.out⟩
           case measure =>
            rw [HN2.out]
            exact Nat.lt_of_le_of_lt ((leastOf_spec ⟨_,HFI.out⟩).2 _ HFI.out) HLT.out
        ·have v2:¬ (i:Int)<(t.ps.length:Int):=by omega
         obtain rfl:i=t.ps.length:=by omega
         clear hb2 hi2 hin
         go_wp2_with fail
         go_ret
         refine ⟨⟨_,rfl,l3,own_low HK.out.1.m.o HBW.out.size,fun s=>?_,?_⟩,bhop HBW.out HK.out.2⟩
         ·rw [HK.out.1.mem s,HAA.out]
          refine Iff.trans (or_congr Iff.rfl ?_) (two_mem HPM.out k2 HNF.out.2.2.1.2 s)
          constructor
          ·rintro (⟨i',k',h1,h2⟩ | ⟨k',h1,h2⟩)
           ·exact ⟨i',k',h1,h2⟩
           ·omega
          ·rintro ⟨i',k',h1,h2⟩
           exact .inl ⟨i',k',h1,h2⟩
         ·rw [sz_eq t]
          have h1:=HI.out.1.len
          rw [List.take_length] at h1
          exact ar_two HNN.out h1 HK.out.1.len
      ·have hk2:(t.kind == 2)=false:=by simp [k2]
       have HEL:=Lib.hid (show ∀ s,s∈l↔SJ (mvT (erase t) ar bf).2.2 s from else_mem HPM.out k2
        (fun e=>⟨HK4.out e,List.length_eq_one_iff.1 (by
         have h:=HNF.out.2.2.1.1
         unfold okA at h
         rw [decide_eq_true_iff] at h
         rcases h with h | h | h | h <;> omega)⟩)
        (fun e=>List.length_eq_zero_iff.1 (by
         have h:=HNF.out.2.2.1.1
         unfold okA at h
         rw [decide_eq_true_iff] at h
         rcases h with h | h | h | h <;> omega)))
       have HLE:=Lib.hid (show l.length+40000000≤40000000 * szT (erase t) by
        rw [sz_eq t]
        have h1:=HI.out.1.len
        rw [List.take_length] at h1
        exact ar_else h1)
       clear hlf hll hln hl1
       by_cases k4:t.kind=4
       ·rw [k4] at x0
        rw [HK4.out k4] at x7
        go_wp2_with fail
        go_loopw [7,21] (fun o x wx=>o=u7∧x=.int .i64 0∧wx=wr) (fun _ _ _=>0)
        case atStart=>exact ⟨rfl,rfl,rfl⟩
        case round =>
         obtain ⟨rfl,rfl,rfl⟩:=hrel
         by_cases h0:(0:Int)<(t.ps.length:Int)
         all_goals
          go_wp2_with fail
          go_ret
          first
           | exact ⟨⟨_,rfl,l,own_low HM.out.o HBW.out.size,HEL.out,HLE.out⟩,bhop HBW.out HI.out.2⟩
           | exact ⟨⟨_,l,rfl,own_low HM.out.o HBW.out.size,HEL.out,HLE.out⟩,bhop HBW.out HI.out.2⟩
       ·have hk4:(t.kind == 4)=false:=by simp [k4]
        go_wp2_with fail
        go_loopw [7,21] (fun o x wx=>o=u7∧x=.int .i64 0∧wx=wr) (fun _ _ _=>0)
        case atStart=>exact ⟨rfl,rfl,rfl⟩
        case round =>
         obtain ⟨rfl,rfl,rfl⟩:=hrel
         by_cases h0:(0:Int)<(t.ps.length:Int)
         all_goals
          go_wp2_with fail
          go_ret
          first
           | exact ⟨⟨_,rfl,l,own_low HM.out.o HBW.out.size,HEL.out,HLE.out⟩,bhop HBW.out HI.out.2⟩
           | exact ⟨⟨_,l,rfl,own_low HM.out.o HBW.out.size,HEL.out,HLE.out⟩,bhop HBW.out HI.out.2⟩
end Go.Proofs.YtjcfmbmepmlckaaDoor
