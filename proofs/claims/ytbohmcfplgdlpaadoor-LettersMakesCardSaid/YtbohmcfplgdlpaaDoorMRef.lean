/- When a tree is formed, when two are alike: plain functions and facts.
   No conditions but those that each theorem states. -/
import Derived.Test.YtbohmcfplgdlpaaDoorMSame
import Derived.Test.YtbohmcfplgdlpaaDoorMWalk
import Derived.Test.YtbohmcfplgdlpaaDoorRows
import Derived.WalkKit
import Derived.ProofKit
import Derived.OpenShut
import Derived.ChangeOld
import Derived.Below
import Derived.Laws.IdiomArrays
import Derived.Deep.Slices

/- What the document's own functions on trees come to: how many nodes, how deep, how many places: contracts.
   Conditions: the tree lies in memory, and has at most 1000000 nodes (how many nodes: at any tree). -/
namespace Go.Proofs.YtbohmcfplgdlpaaDoor
open Go.RowKit
attribute [local go_sem] nodeAgg
theorem szs_take {ps:List V} {i:Nat} {p:V} (h:ps[i]? = some p):szsT (erases (ps.take (i+1)))=szsT (erases (ps.take i))+szT (erase p):=by
 rw [List.take_add_one,h,erases_append,szs_append]
 show _+szsT (erases [p])=_
 rw [erases,erases,szs_one]
theorem szs_all {ps:List V} {i:Nat} (h:ps.length≤i):ps.take i=ps:=List.take_of_length_le h
theorem szs_take_le (ps:List V) (i:Nat):szsT (erases (ps.take i))≤szsT (erases ps):=by
 have h:=szs_append (erases (ps.take i)) (erases (ps.drop i))
 rw [← erases_append,List.take_append_drop] at h
 omega
set_option maxHeartbeats 2000000 in
set_option maxRecDepth 100000 in
theorem size_any (N:Nat):N≤1000000→∀ (t:V) (w:World) (R:Nat→Prop),Laid w R t →
  Calls Tryd.prog 13 #[nodeAgg t,.int .i64 N] w fun e w'=>e=.returned (.int .i64 (min (szT (erase t)) (N+1):Nat))∧Below w.heap.size w w':=by
 induction N using Nat.strongRecOn with
 | ind N ih =>
  intro hN t w R ha
  obtain ⟨sa,sc,hv,hrow⟩:=laid_row' ha
  have hsz:=sz_eq t
  simp only [nodeAgg]
  rw [hv,hsz]
  generalize t.kind=k,t.set=C,t.lo=lo,t.hi=hi
  generalize hps:t.ps=ps at *
  have HR:=Lib.hid (And.intro hrow ih)
  clear hrow ih hsz hv ha hps
  have m0:(N:Int)≤1000000:=by omega
  have m1:(0:Int)≤(N:Int):=by omega
  go_enter Tryd.func13,Tryd.ntmps13
  go_wp2_with fail
  go_loopw [5,6] (fun kk x wr=>∃ i:Nat,x=.int .i64 i∧i≤ps.length∧kk=.int .i64 (min (1+szsT (erases (ps.take i))) (N+1):Nat)∧wr.cell? ⟨w.heap.size,5,none⟩=some (.slice sa ps.length sc)∧Below w.heap.size w wr∧w.heap.size<wr.heap.size) (fun _ x _=>match x with | .int _ z=>ps.length - z.toNat | _=>0)
  case atStart=>exact ⟨0,rfl,by omega,by simp [erases,szsT],by go_simp,(Below.refl _ _).alloc (Nat.le_refl _) _,by simp⟩
  case round =>
   obtain ⟨i,rfl,hi,rfl,c1,hb,hsz⟩:=hrel
   generalize hS:szsT (erases (ps.take i))=S
   generalize hq:1+S=q
   by_cases hlt:i<ps.length
   ·have g1:(i:Int)<(ps.length:Int):=by omega
    by_cases hle:q≤N
    ·have hmin:min q (N+1)=q:=by omega
     rw [hmin]
     have g2:(q:Int)≤(N:Int):=by omega
     obtain ⟨p,hp⟩ : ∃ p,ps[i]? = some p:=⟨_,List.getElem?_eq_getElem hlt⟩
     have hnext:=szs_take hp
     rw [hS] at hnext
     have hnext2:1+szsT (erases (ps.take (i+1)))=q+szT (erase p):=by omega
     obtain ⟨r1,r2⟩:=HR.out
     obtain ⟨b1,o1,rfl,hlt1,cc1,L1⟩:=r1 i p hp
     obtain ⟨x0,x1,x2,x3,x4,x5,x6,x7⟩:=node_cells cc1 hlt1 hb
     have HC:=Lib.hid (r2 (N - q) (by omega) (by omega) p wr R (L1.keep (fun _ _ h=>h) hb.size fun k hk _=>hb.block k hk))
     have g7:(i:Int)≤1000000:=by have h1:=len_sz (ps.take i);rw [hS,List.length_take] at h1;omega
     have g3:((N:Int) - (q:Int))=((N - q:Nat):Int):=by omega
     have HG:=Lib.hid g3
     have HN:=Lib.hid hnext2
     have g4:(0:Int)≤(q:Int):=by omega
     clear r1 r2 cc1 L1 hp hlt1 hnext hnext2 hS hmin g3 hq
     go_wp2_with fail
     go_at_call 13
     rw [HG.out]
     refine HC.out.mono ?_
     rintro e w3 ⟨rfl,hb3⟩
     have f1:w3.cell? ⟨w.heap.size,5,none⟩=some (.slice (some ⟨b1,o1,none⟩) ps.length sc):=(hb3.cell (p:=⟨w.heap.size,5,none⟩) hsz).trans c1
     have fz:w.heap.size<w3.heap.size:=by have:=hb3.size;omega
     have hb4:Below w.heap.size w w3:=hb.trans (hb3.mono hb.size)
     have hsum:(q:Int)+((min (szT (erase p)) (N - q+1):Nat):Int)=((min (1+szsT (erases (ps.take (i+1)))) (N+1):Nat):Int):=by rw [HN.out];omega
     have g5:(0:Int)≤((min (szT (erase p)) (N - q+1):Nat):Int):=by omega
     have g6:((min (szT (erase p)) (N - q+1):Nat):Int)≤1000001:=by omega
     have HS:=Lib.hid hsum
     clear hb3 hb hsum HN
     generalize min (szT (erase p)) (N - q+1)=r at *
     go_wp2_with fail
     exact ⟨⟨i+1,by simp,by omega,by rw [← HS.out],f1,hb4,fz⟩,by simp;omega⟩
    ·have hle2:=szs_take_le ps i
     rw [hS] at hle2
     have hres:min q (N+1)=min (szsT (erases ps)+1) (N+1):=by omega
     have g2:¬ ((min (szsT (erases ps)+1) (N+1):Nat):Int)≤(N:Int):=by omega
     rw [hres]
     clear hres hS hle2 hq hle
     go_wp2_with fail
     go_ret
     exact ⟨rfl,hb⟩
   ·have g1:¬ (i:Int)<(ps.length:Int):=by omega
    have hall:ps.take i=ps:=szs_all (by omega)
    rw [hall] at hS
    have hres:min q (N+1)=min (szsT (erases ps)+1) (N+1):=by omega
    rw [hres]
    clear hall hS hres hq
    go_wp2_with fail
    go_ret
    exact ⟨rfl,hb⟩
end Go.Proofs.YtbohmcfplgdlpaaDoor

/- How a tree among the arguments is opened: as it lies in memory, its numbers within their kinds.
   Conditions: none but the reading itself. -/
namespace Go.Proofs.YtbohmcfplgdlpaaDoor
open Go.ChangeShapes Go.WideShapes Go.ChangeAt Go.RowKit Go.Deep
def I64 (x:Int):Prop:=-9223372036854775808≤x∧x≤9223372036854775807
inductive Good:V→Prop where
 | mk (k:Int) (C:Nat→Nat) (lo hi:Int) (v:Value) (ps:List V) (hk:I64 k) (hC:Cl C) (hz:∀ i,4≤i→C i=0) (hlo:I64 lo) (hhi:I64 hi) (hp:∀ t,t∈ps→Good t):Good (.node k C lo hi v ps)
theorem list8 {α:Type} (l:List α) (h:l.length=8):∃ a b c d e f g i,l=[a,b,c,d,e,f,g,i]:=by
 match l,h with
 | [a,b,c,d,e,f,g,i],_=>exact ⟨a,b,c,d,e,f,g,i,rfl⟩
theorem list5 {α:Type} (l:List α) (h:l.length=5):∃ a b c d e,l=[a,b,c,d,e]:=by
 match l,h with
 | [a,b,c,d,e],_=>exact ⟨a,b,c,d,e,rfl⟩
def words4 (x0 x1 x2 x3:Int):Nat→Nat
 | 0=>x0.toNat
 | 1=>x1.toNat
 | 2=>x2.toNat
 | 3=>x3.toNat
 | _=>0
theorem cast_toNat4 {x:Int} (h:0≤x):((x.toNat:Nat):Int)=x:=Int.toNat_of_nonneg h
theorem Cl_words4 {x0 x1 x2 x3:Int} (h0:x0≤18446744073709551615) (h1:x1≤18446744073709551615) (h2:x2≤18446744073709551615) (h3:x3≤18446744073709551615):Cl (words4 x0 x1 x2 x3):=by
 intro i
 match i with
 | 0=>show x0.toNat<_;omega
 | 1=>show x1.toNat<_;omega
 | 2=>show x2.toNat<_;omega
 | 3=>show x3.toNat<_;omega
 | _+4=>show 0<18446744073709551616;decide
theorem words4_zero (x0 x1 x2 x3:Int):∀ i,4≤i→words4 x0 x1 x2 x3 i=0
 | _+4,_=>rfl
theorem cellsNode:Tryd.prog.cellsOf 27=8:=by kernel_rfl
theorem cellsClass:Tryd.prog.cellsOf 24=4:=by kernel_rfl
theorem cellsU64:Tryd.prog.cellsOf 22=1:=by kernel_rfl
theorem cellsInt:Tryd.prog.cellsOf 3=1:=by kernel_rfl
theorem cellsI64:Tryd.prog.cellsOf 2=1:=by kernel_rfl
theorem cellsNodes:Tryd.prog.cellsOf 25=1:=by kernel_rfl
section
variable {H:Type} {enc:TypeId×Value→H} {W:World} {base:Nat} {spare:Nat→Bool} {held:Bool}
theorem trod_class4 {fuel:Nat} {cs:List Value} {x:DataW H×List MemPlace} (hl:cs.length=4) (h:DataW.trod enc Tryd.prog W base spare held fuel 24 cs=some x) :
  ∃ C:Nat→Nat,Cl C∧(∀ i,4≤i→C i=0)∧cs=[.int .u64 (C 0:Nat),.int .u64 (C 1:Nat),.int .u64 (C 2:Nat),.int .u64 (C 3:Nat)]:=by
 match cs,hl with
 | [c0,c1,c2,c3],_ =>
 obtain ⟨y0,y1,y2,y3,m,_,hy0,hy1,hy2,hy3⟩:=trod_array4 Tryd.underlying24 cellsU64 h
 obtain ⟨x0,e0,_,w0⟩:=DataW.trod_int Tryd.underlying22 hy0
 obtain ⟨x1,e1,_,w1⟩:=DataW.trod_int Tryd.underlying22 hy1
 obtain ⟨x2,e2,_,w2⟩:=DataW.trod_int Tryd.underlying22 hy2
 obtain ⟨x3,e3,_,w3⟩:=DataW.trod_int Tryd.underlying22 hy3
 simp at e0 e1 e2 e3
 subst e0 e1 e2 e3
 have k0:=bounds_u64 w0
 have k1:=bounds_u64 w1
 have k2:=bounds_u64 w2
 have k3:=bounds_u64 w3
 refine ⟨words4 x0 x1 x2 x3,Cl_words4 k0.2 k1.2 k2.2 k3.2,words4_zero _ _ _ _,?_⟩
 simp [words4,cast_toNat4 k0.1,cast_toNat4 k1.1,cast_toNat4 k2.1,cast_toNat4 k3.1]
theorem trod_node:∀ (fuel:Nat) (cs:List Value) (x:DataW H×List MemPlace),DataW.trod enc Tryd.prog W base spare held fuel 27 cs=some x→∃ t:V,cs=ndc t∧Laid W (fun _=>True) t∧Good t:=by
 intro fuel
 induction fuel using Nat.strongRecOn with
 | ind fuel ih =>
 intro cs x h
 obtain ⟨xs,n,rfl,hx,hlen,hxl,hf⟩:=DataW.trod_struct Tryd.underlying27 h
 rw [cellsNode] at hlen
 obtain ⟨c0,c1,c2,c3,c4,c5,c6,c7,rfl⟩:=list8 cs hlen
 obtain ⟨y0,y1,y2,y3,y4,rfl⟩:=list5 xs (by simpa using hxl)
 have h0:=hf 0 { name := "Kind",type:=3,offset:=0,embedded:=false,tag := "",pkgPath := "",byteOffset:=0 } rfl
 have h1:=hf 1 { name := "Set",type:=24,offset:=1,embedded:=false,tag := "",pkgPath := "",byteOffset:=8 } rfl
 have h2:=hf 2 { name := "Parts",type:=25,offset:=5,embedded:=false,tag := "",pkgPath := "",byteOffset:=40 } rfl
 have h3:=hf 3 { name := "Lo",type:=2,offset:=6,embedded:=false,tag := "",pkgPath := "",byteOffset:=64 } rfl
 have h4:=hf 4 { name := "Hi",type:=2,offset:=7,embedded:=false,tag := "",pkgPath := "",byteOffset:=72 } rfl
 dsimp only at h0 h1 h2 h3 h4
 simp only [cellsInt,cellsClass,cellsNodes,cellsI64,List.drop_zero,List.drop_succ_cons,List.take_succ_cons,List.take_zero,List.getElem?_cons_zero,List.getElem?_cons_succ] at h0 h1 h2 h3 h4
 clear hf
 obtain ⟨k,e0,_,wk⟩:=DataW.trod_int Tryd.underlying3 h0
 obtain ⟨C,hC,hz,e1⟩:=trod_class4 rfl h1
 obtain ⟨lo,e3,_,wlo⟩:=DataW.trod_int Tryd.underlying2 h3
 obtain ⟨hi,e4,_,whi⟩:=DataW.trod_int Tryd.underlying2 h4
 simp only [List.cons.injEq,and_true] at e0 e1 e3 e4
 obtain ⟨rfl,rfl,rfl,rfl⟩:=e1
 subst e0 e3 e4
 have bk:=bounds_i64 wk
 have blo:=bounds_i64 wlo
 have bhi:=bounds_i64 whi
 rcases DataW.trod_slice Tryd.underlying25 h2 with ⟨e2,_⟩ | ⟨a,len,cap,elems,rest,m,rfl,e2,_,_,hlc,_,hel,hall,_⟩
 ·simp only [List.cons.injEq,and_true] at e2
  subst e2
  exact ⟨.node k C lo hi (.slice none 0 0) [],rfl,.none k C lo hi none 0,.mk k C lo hi _ [] bk hC hz blo bhi (fun _ h=>by cases h)⟩
 ·simp only [List.cons.injEq,and_true] at e2
  subst e2
  rw [cellsNode] at hall
  have hex:∀ i,i<len→∃ t:V,(∀ j u,(ndc t)[j]? = some u→W.cell? (a.add (i * 8+j))=some u)∧Laid W (fun _=>True) t∧Good t:=fun i hi=>by
   have hi2:=hall i hi
   rw [List.getElem?_eq_getElem (by omega)] at hi2
   obtain ⟨cs',hc,ht⟩:=Option.bind_eq_some_iff.1 hi2
   obtain ⟨_,hcl,hat⟩:=World.cells?_some hc
   obtain ⟨t,rfl,hl,hg⟩:=ih m (by omega) cs' _ ht
   refine ⟨t,fun j u hu=>?_,hl,hg⟩
   have hj:=(List.getElem?_eq_some_iff.1 hu).1
   rw [ndc_length] at hj
   rw [← Go.Deep.add_add,hat j hj,hu]
  have hfun:∀ n,n≤len→∃ ts:List V,ts.length=n∧∀ i t,ts[i]? = some t→(∀ j u,(ndc t)[j]? = some u→W.cell? (a.add (i * 8+j))=some u)∧Laid W (fun _=>True) t∧Good t:=by
   intro n
   induction n with
   | zero=>exact fun _=>⟨[],rfl,fun i t h=>by simp at h⟩
   | succ n ihn =>
    intro hn
    obtain ⟨ts,h1,h2⟩:=ihn (by omega)
    obtain ⟨t,h3⟩:=hex n (by omega)
    refine ⟨ts ++ [t],by simp [h1],fun i u hu=>?_⟩
    by_cases hin:i<n
    ·rw [List.getElem?_append_left (by omega)] at hu
     exact h2 i u hu
    ·have hlt:=(List.getElem?_eq_some_iff.1 hu).1
     simp [h1] at hlt
     have e:i=n:=by omega
     subst e
     rw [List.getElem?_append_right (by omega),h1] at hu
     simp at hu
     subst hu
     exact h3
  obtain ⟨ts,hlen2,hts⟩:=hfun len (Nat.le_refl _)
  have hgood:∀ t,t∈ts→Good t:=fun t ht=>by
   obtain ⟨i,hi,he⟩:=List.getElem_of_mem ht
   exact (hts i t (by rw [List.getElem?_eq_getElem hi,he])).2.2
  cases ts with
  | nil =>
   simp at hlen2
   subst hlen2
   exact ⟨.node k C lo hi (.slice (some a) 0 cap) [],rfl,.none k C lo hi (some a) cap,.mk k C lo hi _ [] bk hC hz blo bhi (fun _ h=>by cases h)⟩
  | cons t0 ts =>
   have hc0:=(hts 0 t0 rfl).1 0 _ rfl
   obtain ⟨b,off,spot⟩:=a
   have hspot:spot=none:=by simpa [Addr.add] using World.cell?_spot hc0
   subst hspot
   have hblt:b<W.heap.size:=World.block_lt_of_cell? _ _ hc0
   subst hlen2
   refine ⟨.node k C lo hi (.slice (some ⟨b,off,none⟩) (t0 :: ts).length cap) (t0 :: ts),rfl,.some k C lo hi _ b off cap trivial hblt hlc (fun i t ht j u hu=>?_) (fun t ht=>?_),.mk k C lo hi _ _ bk hC hz blo bhi hgood⟩
   ·have:=(hts i t ht).1 j u hu
    rw [Addr.add_mid,← Nat.add_assoc] at this
    exact this
   ·obtain ⟨i,hi,he⟩:=List.getElem_of_mem ht
    exact (hts i t (by rw [List.getElem?_eq_getElem hi,he])).2.1
set_option maxRecDepth 100000 in
theorem open_tree {r:Reach} {b0:Nat} {v:Value} {d:DataW H} {p:List MemPlace} (hv:Value.okWide Tryd.prog W r b0 27 v) (h:DataW.Trod enc Tryd.prog W base spare held 27 v d p) :
  ∃ t:V,v=.agg (ndc t).toArray∧Laid W (fun _=>True) t∧Good t:=by
 obtain ⟨cs,rfl,hsz⟩:=okWide_struct Tryd.underlying27 hv
 obtain ⟨fuel,hf⟩:=h
 obtain ⟨t,ht,hl,hg⟩:=trod_node fuel _ _ hf
 refine ⟨t,?_,hl,hg⟩
 have hcs:cs.toList=ndc t:=by
  rw [← ht]
  exact (by simp [Value.cells])
 rw [← hcs]
end
end Go.Proofs.YtbohmcfplgdlpaaDoor

/- When a tree is formed, when two are alike: plain functions and facts.
   No conditions but those that each theorem states. -/
namespace Go.Proofs.YtbohmcfplgdlpaaDoor
open Go.RowKit
def z4 (C:Nat→Nat):Bool:=decide (C 0=0∧C 1=0∧C 2=0∧C 3=0)
def bnd (lo hi:Int):Bool:=decide (0≤lo∧lo≤2147483647∧(hi = -1∨(lo≤hi∧hi≤2147483647)))
def okA (k:Int) (Z:Bool) (lo hi:Int) (n:Nat):Bool :=
 decide ((k=0∧Z=true∧lo=0∧hi=0∧n=0)∨(k=1∧lo=0∧hi=0∧n=0)∨((k=2∨k=3)∧Z=true∧lo=0∧hi=0∧2≤n)∨(k=4∧Z=true∧n=1∧bnd lo hi=true))
mutual
def okT:T→Bool
 | .node k C lo hi ps=>okA k (z4 C) lo hi ps.length && oksT ps
def oksT:List T→Bool
 | []=>true
 | t :: ts=>okT t && oksT ts
end
def okV (t:V):Bool:=okA t.kind (z4 t.set) t.lo t.hi t.ps.length
theorem okT_eq (t:V):okT (erase t)=(okV t && oksT (erases t.ps)):=by
 cases t with
 | node k C lo hi v ps=>rw [erase,okT,erases_length];rfl
mutual
theorem all_pre:∀ (t:V) (d:Nat),(preV d t).all (fun x=>okV x.2)=okT (erase t)
 | .node k C lo hi v ps,d=>by
  rw [preV,List.all_cons,all_pres ps (d+1),okT_eq]
  rfl
theorem all_pres:∀ (ts:List V) (d:Nat),(presV d ts).all (fun x=>okV x.2)=oksT (erases ts)
 | [],d=>by rw [presV,erases,oksT];rfl
 | t :: ts,d=>by rw [presV,List.all_append,all_pre t d,all_pres ts d,erases,oksT]
end
def eq4 (A B:Nat→Nat):Bool:=decide (A 0=B 0∧A 1=B 1∧A 2=B 2∧A 3=B 3)
def likeA (a b:T):Bool:=match a,b with
 | .node k C lo hi ps,.node k' C' lo' hi' qs=>decide (k=k'∧eq4 C C'=true∧lo=lo'∧hi=hi'∧ps.length=qs.length)
mutual
def likeT:T→T→Bool
 | .node k C lo hi ps,b=>likeA (.node k C lo hi ps) b && likesT ps b.ps
def likesT:List T→List T→Bool
 | [],_=>true
 | _ :: _,[]=>true
 | p :: ps,q :: qs=>likeT p q && likesT ps qs
end
def likeV (a b:V):Bool:=decide (a.kind=b.kind∧eq4 a.set b.set=true∧a.lo=b.lo∧a.hi=b.hi∧a.ps.length=b.ps.length)
theorem erase_ps (b:V):(erase b).ps=erases b.ps:=by cases b;rw [erase];rfl
theorem likeT_eq (a b:V):likeT (erase a) (erase b)=(likeV a b && likesT (erases a.ps) (erases b.ps)):=by
 cases a with
 | node k C lo hi v ps =>
 cases b with
 | node k' C' lo' hi' v' qs =>
  rw [erase,likeT,erase]
  congr 1
  simp only [likeA,likeV,V.kind,V.set,V.lo,V.hi,V.ps,erases_length]
  rfl
theorem likes_take {ps qs:List V} (hlen:ps.length=qs.length):∀ {i:Nat} {p q:V},ps[i]? = some p→qs[i]? = some q→likesT (erases (ps.take (i+1))) (erases (qs.take (i+1)))=(likesT (erases (ps.take i)) (erases (qs.take i)) && likeT (erase p) (erase q)):=by
 induction ps generalizing qs with
 | nil=>intro i p q h;simp at h
 | cons x ps ih =>
  cases qs with
  | nil=>simp at hlen
  | cons y qs =>
   intro i p q h1 h2
   cases i with
   | zero =>
    simp at h1 h2
    subst h1 h2
    simp [erases,likesT]
   | succ i =>
    have:=ih (qs:=qs) (by simpa using hlen) (i:=i) (p:=p) (q:=q) (by simpa using h1) (by simpa using h2)
    simp only [List.take_succ_cons,erases,likesT] at this ⊢
    rw [this,Bool.and_assoc]
end Go.Proofs.YtbohmcfplgdlpaaDoor
