/- An operation whose guard is false passes.
   No conditions. -/
import Derived.Test.YtbohmcfplgdlpaaDoorMPt
import Derived.Test.YtbohmcfplgdlpaaDoorMRef
import Derived.Test.YtbohmcfplgdlpaaDoorPF
import Derived.Test.YtbohmcfplgdlpaaDoorMMelt
import Derived.Test.YtbohmcfplgdlpaaDoorMBase
import Derived.Test.YtbohmcfplgdlpaaDoorOrder

/- Configs as plain values: which are right, which may be left; what the scopes of a map are like.
   Conditions: those that each theorem states. -/
namespace Go.Proofs.YtbohmcfplgdlpaaDoor
def ScOk (s:Int×Int):Prop:=1≤s.1∧s.1≤2147483647∧(s.2 = -1∧2≤s.1∨2≤s.2∧s.1≤s.2∧s.2≤2147483647)
structure MapW (m:PM):Prop where
 scs:∀ s∈m.scs,ScOk s
 ars:∀ l∈m.ars,l.length≤4∧∀ x∈l,x<m.scs.length
theorem mw_sc {m:PM} (h:MapW m) {k lo hi:Int} {Z:Bool} {n:Nat} (hk:okA k Z lo hi n=true):MapW (scP k lo hi m)∧m.scs.length≤(scP k lo hi m).scs.length:=by
 unfold scP
 split
 ·rename_i hc
  refine ⟨⟨fun s hs=>?_,fun l hl=>⟨(h.ars l hl).1,fun x hx=>?_⟩⟩,by simp⟩
  ·rcases List.mem_append.1 hs with hs | hs
   ·exact h.scs s hs
   ·rw [List.mem_singleton.1 hs]
    unfold cnt4 cntS at hc
    rw [Bool.and_eq_true,decide_eq_true_eq,decide_eq_true_eq] at hc
    have hk':=of_decide_eq_true hk
    unfold bnd at hk'
    rw [decide_eq_true_eq] at hk'
    unfold ScOk
    simp only
    omega
  ·have:=(h.ars l hl).2 x hx
   show x<(m.scs ++ _).length
   rw [List.length_append]
   omega
 ·exact ⟨h,Nat.le_refl _⟩
theorem mw_bel {m:PM} {k lo hi:Int} {ar:List Nat} (ha:∀ x∈ar,x<m.scs.length):∀ x∈belP k lo hi ar m,x<(scP k lo hi m).scs.length:=by
 unfold belP scP
 split
 ·intro x hx
  show x<(m.scs ++ _).length
  rw [List.length_append]
  rcases List.mem_append.1 hx with hx | hx
  ·have:=ha x hx;omega
  ·rw [List.mem_singleton.1 hx];simp
 ·exact ha
theorem mw_put {m:PM} (h:MapW m) {ar:List Nat} (ha:ar.length≤4∧∀ x∈ar,x<m.scs.length) (k:Int) (C:Nat→Nat):MapW (putP k C ar m):=by
 unfold putP
 split
 ·refine ⟨h.scs,fun l hl=>?_⟩
  rcases List.mem_append.1 hl with hl | hl
  ·exact h.ars l hl
  ·rw [List.mem_singleton.1 hl];exact ha
 ·exact h
theorem put_scs (k:Int) (C:Nat→Nat) (ar:List Nat) (m:PM):(putP k C ar m).scs=m.scs:=by unfold putP;split <;> rfl
mutual
theorem mapN_w:∀ (t:T) (ar:List Nat) (m m':PM),okT t=true→mapN t ar m=some m'→MapW m→(ar.length≤4∧∀ x∈ar,x<m.scs.length)→MapW m'∧m.scs.length≤m'.scs.length
 | .node k C lo hi ps,ar,m,m',hok,h,hm,ha=>by
  rw [mapN] at h
  rw [okT,Bool.and_eq_true] at hok
  split at h
  ·cases h
  ·rename_i ho
   have h1:=mw_sc hm hok.1
   have hb:=mw_bel (k:=k) (lo:=lo) (hi:=hi) ha.2
   have hl:(belP k lo hi ar m).length≤4:=by
    unfold overP at ho
    rw [decide_eq_true_eq] at ho
    omega
   have h2:=mw_put h1.1 ⟨ha.1,fun x hx=>Nat.lt_of_lt_of_le (ha.2 x hx) h1.2⟩ k C
   have h3:=mapsN_w ps _ _ m' hok.2 h h2 ⟨hl,by rw [put_scs];exact hb⟩
   rw [put_scs] at h3
   exact ⟨h3.1,Nat.le_trans h1.2 h3.2⟩
theorem mapsN_w:∀ (ts:List T) (ar:List Nat) (m m':PM),oksT ts=true→mapsN ts ar m=some m'→MapW m→(ar.length≤4∧∀ x∈ar,x<m.scs.length)→MapW m'∧m.scs.length≤m'.scs.length
 | [],ar,m,m',_,h,hm,_=>by
  rw [mapsN] at h
  rw [← Option.some.inj h]
  exact ⟨hm,Nat.le_refl _⟩
 | t :: ts,ar,m,m',hok,h,hm,ha=>by
  rw [oksT,Bool.and_eq_true] at hok
  rw [mapsN] at h
  cases h1:mapN t ar m with
  | none=>rw [h1] at h;cases h
  | some m1 =>
   rw [h1] at h
   have h2:=mapN_w t ar m m1 hok.1 h1 hm ha
   have h3:=mapsN_w ts ar m1 m' hok.2 h h2.1 ⟨ha.1,fun x hx=>Nat.lt_of_lt_of_le (ha.2 x hx) h2.2⟩
   exact ⟨h3.1,Nat.le_trans h2.2 h3.2⟩
end
theorem map_w {t:T} {m:PM} (hok:okT t=true) (h:mapT t=some m):MapW m :=
 (mapN_w t [] pm0 m hok h ⟨fun s hs=>(by cases hs),fun l hl=>by rw [List.mem_singleton.1 hl];exact ⟨by simp,fun x hx=>(by cases hx)⟩⟩ ⟨by simp,fun x hx=>(by cases hx)⟩).1
def scA (m:PM) (l:List Nat) (i:Nat):Int×Int:=m.scs.getD (l.getD i 0) (0,0)
theorem sc_in {m:PM} (h:MapW m) {l:List Nat} (hl:l∈m.ars) {i:Nat} (hi:i<l.length):∃ k:Nat,l[i]? = some k∧m.scs[k]? = some (scA m l i)∧ScOk (scA m l i):=by
 obtain ⟨k,hk⟩ : ∃ k,l[i]? = some k:=⟨_,List.getElem?_eq_getElem hi⟩
 have h1:=(h.ars l hl).2 k (List.mem_of_getElem? hk)
 have e:scA m l i=m.scs[k]:=by
  unfold scA
  rw [List.getD_eq_getElem?_getD,List.getD_eq_getElem?_getD,hk]
  simp [h1]
 exact ⟨k,hk,by rw [e];exact List.getElem?_eq_getElem h1,by rw [e];exact h.scs _ (List.getElem_mem h1)⟩
end Go.Proofs.YtbohmcfplgdlpaaDoor

/- An automaton and a config in memory: what layer 7 reads of them.
   Conditions: those that each theorem states. -/
namespace Go.Proofs.YtbohmcfplgdlpaaDoor
open Go.RowKit Go.Shelf
structure Au where
 k:Int
 s0:Nat
 s1:Nat
 s2:Nat
 s3:Nat
 ta:Option Addr
 tn:Nat
 tc:Nat
 lo:Int
 hi:Int
 sA:Option Addr
 n:Nat
 sC:Nat
 cA:Option Addr
 cN:Nat
 cC:Nat
 ga:Nat
 aC:Nat
 fA:Option Addr
 fN:Nat
 fC:Nat
 mb:Nat
 lb:Nat
 em:Bool
structure AuB (w:World) (ab:Nat) (a:Au):Prop where
 blk:w.heap[ab]? = some (.cells #[.int .i64 a.k,.int .u64 (a.s0:Nat),.int .u64 (a.s1:Nat),.int .u64 (a.s2:Nat),.int .u64 (a.s3:Nat),.slice a.ta a.tn a.tc,.int .i64 a.lo,.int .i64 a.hi,.slice a.sA a.n a.sC,.slice a.cA a.cN a.cC,.slice (some ⟨a.ga,0,none⟩) a.n a.aC,.slice a.fA a.fN a.fC,.slice (some ⟨a.mb,0,none⟩) a.n a.n,.slice (some ⟨a.lb,0,none⟩) a.n a.n,.bool a.em] 38 (0,0))
theorem AuB.lt {w:World} {ab:Nat} {a:Au} (h:AuB w ab a):ab<w.heap.size:=(Array.getElem?_eq_some_iff.1 h.blk).1
theorem AuB.below {w w':World} {ab:Nat} {a:Au} (h:AuB w ab a) (hb:Below w.heap.size w w'):AuB w' ab a:=⟨(hb.block ab h.lt).trans h.blk⟩
theorem AuB.cells {w:World} {ab:Nat} {a:Au} (h:AuB w ab a):w.cell? ⟨ab,8,none⟩=some (.slice a.sA a.n a.sC)∧w.cell? ⟨ab,9,none⟩=some (.slice a.cA a.cN a.cC)∧w.cell? ⟨ab,10,none⟩=some (.slice (some ⟨a.ga,0,none⟩) a.n a.aC)∧w.cell? ⟨ab,11,none⟩=some (.slice a.fA a.fN a.fC)∧w.cell? ⟨ab,12,none⟩=some (.slice (some ⟨a.mb,0,none⟩) a.n a.n)∧w.cell? ⟨ab,13,none⟩=some (.slice (some ⟨a.lb,0,none⟩) a.n a.n) :=
 have p:=(row_cells h.blk).1
 ⟨p 8,p 9,p 10,p 11,p 12,p 13⟩
theorem au_box (w:World) (a:Au):∃ w2,w.alloc (.cells #[.int .i64 a.k,.int .u64 (a.s0:Nat),.int .u64 (a.s1:Nat),.int .u64 (a.s2:Nat),.int .u64 (a.s3:Nat),.slice a.ta a.tn a.tc,.int .i64 a.lo,.int .i64 a.hi,.slice a.sA a.n a.sC,.slice a.cA a.cN a.cC,.slice (some ⟨a.ga,0,none⟩) a.n a.aC,.slice a.fA a.fN a.fC,.slice (some ⟨a.mb,0,none⟩) a.n a.n,.slice (some ⟨a.lb,0,none⟩) a.n a.n,.bool a.em] 38)=w2∧Below w.heap.size w w2∧AuB w2 w.heap.size a :=
 ⟨_,rfl,(Below.refl _ w).alloc (Nat.le_refl _) _,⟨heap_alloc_new w _⟩⟩
theorem scp_at {w:World} {B n:Nat} {A:Option Addr} {c:Nat} {l:List (Int×Int)} (h:w.ownsRow B 154 2 (.slice A n c) l.length (l.flatMap sc2)) {i:Nat} {s:Int×Int} (hi:l[i]? = some s) :
  ∃ g,A=some ⟨g,0,none⟩∧g<w.heap.size∧w.cell? ⟨g,i * 2,none⟩=some (.int .i64 s.1)∧w.cell? ⟨g,i * 2+1,none⟩=some (.int .i64 s.2):=by
 have hl:i<l.length:=(List.getElem?_eq_some_iff.1 hi).1
 obtain ⟨g,cap,hv,_,hg⟩:=h.form (by omega)
 simp only [Value.slice.injEq] at hv
 obtain ⟨rfl,rfl,rfl⟩:=hv
 have hx:∀ j,j<2→(l.flatMap sc2)[i * 2+j]? = (sc2 s)[j]?:=by
  clear h hg
  intro j hj
  induction l generalizing i with
  | nil=>simp at hi
  | cons a l ih =>
   rw [List.flatMap_cons]
   cases i with
   | zero =>
    obtain rfl:a=s:=by simpa using hi
    rw [Nat.zero_mul,Nat.zero_add,List.getElem?_append_left (by show j<2;omega)]
   | succ i =>
    rw [List.getElem?_append_right (by show 2≤_;omega),show (i+1) * 2+j - (sc2 a).length=i * 2+j by show _ - 2=_;omega]
    exact ih (by simpa using hi) (by simp at hl;omega)
 refine ⟨g,rfl,hg,?_,?_⟩
 ·exact (h.cellAt (i * 2) (by omega)).trans (hx 0 (by omega))
 ·exact (h.cellAt (i * 2+1) (by omega)).trans (hx 1 (by omega))
structure AuL (w:World) (B:Nat) (m:PM) (a:Au) (fl:List Nat) (la:Nat):Prop where
 lists:MapL w B m (.slice a.sA a.n a.sC) (.slice a.cA a.cN a.cC) (.slice (some ⟨a.ga,0,none⟩) a.n a.aC)
 wf:MapW m
 first:IntsR w B (.slice a.fA a.fN a.fC) fl
 fin:∀ q∈fl,1≤q∧q<a.n
 last:w.ownsRow B 4 1 (.slice (some ⟨a.lb,0,none⟩) a.n a.n) a.n ((List.range a.n).map fun p=>.bool (la.testBit p))
 sets:m.sets.length=a.n
 ars:m.ars.length=a.n
 one:1≤a.n
 most:a.n≤41
theorem AuL.below {w w':World} {B:Nat} {m:PM} {a:Au} {fl:List Nat} {la:Nat} (h:AuL w B m a fl la) (hb:Below w.heap.size w w'):AuL w' B m a fl la :=
 ⟨mapL_below h.lists hb,h.wf,h.first.below hb,h.fin,own_chg h.last (Chg.of_below (R:=fun _=>False) hb) fun _ _=>id,h.sets,h.ars,h.one,h.most⟩
theorem AuL.at {w:World} {B:Nat} {m:PM} {a:Au} {fl:List Nat} {la p:Nat} (h:AuL w B m a fl la) (hp:p<a.n):∃ l,m.ars[p]? = some l∧l∈m.ars∧l.length≤4:=by
 have hl:=List.getElem?_eq_getElem (l:=m.ars) (i:=p) (by rw [h.ars];exact hp)
 have hm:=List.mem_of_getElem? hl
 exact ⟨_,hl,hm,(h.wf.ars _ hm).1⟩
theorem AuL.row {w:World} {B:Nat} {m:PM} {a:Au} {fl:List Nat} {la p:Nat} {l:List Nat} (h:AuL w B m a fl la) (hp:m.ars[p]? = some l):∃ A c,w.cell? ⟨a.ga,p,none⟩=some (.slice A l.length c)∧a.ga<w.heap.size:=by
 obtain ⟨A,c,h1,h2,_⟩:=ar_read h.lists hp
 exact ⟨A,c,h1,h2⟩
theorem AuL.sc {w:World} {B:Nat} {m:PM} {a:Au} {fl:List Nat} {la p i:Nat} {l:List Nat} (h:AuL w B m a fl la) (hp:m.ars[p]? = some l) (hi:i<l.length):∃ (g c k gs:Nat),
  w.cell? ⟨a.ga,p,none⟩=some (.slice (some ⟨g,0,none⟩) l.length c)∧w.cell? ⟨g,i,none⟩=some (.int .i64 (k:Int))∧a.cA=some ⟨gs,0,none⟩∧k<a.cN∧w.cell? ⟨gs,k * 2,none⟩=some (.int .i64 (scA m l i).1)∧w.cell? ⟨gs,k * 2+1,none⟩=some (.int .i64 (scA m l i).2) ∧
  a.ga<w.heap.size∧g<w.heap.size∧gs<w.heap.size:=by
 obtain ⟨A,c,h1,h2,_,h3⟩:=ar_read h.lists hp
 obtain ⟨k,k1,k2,_⟩:=sc_in h.wf (List.mem_of_getElem? hp) hi
 obtain ⟨g,rfl,hg,hc⟩:=h3 i k k1
 have hk:=(List.getElem?_eq_some_iff.1 k2).1
 have ho:=h.lists.scs
 rw [own_num ho] at ho
 obtain ⟨gs,hgs,hlt,s0,s1⟩:=scp_at ho k2
 exact ⟨g,c,k,gs,h1,hc,hgs,by rw [own_num h.lists.scs];exact hk,s0,s1,h2,hg,hlt⟩
theorem AuL.la {w:World} {B:Nat} {m:PM} {a:Au} {fl:List Nat} {la p:Nat} (h:AuL w B m a fl la) (hp:p<a.n):w.cell? ⟨a.lb,p,none⟩=some (.bool (la.testBit p))∧a.lb<w.heap.size:=by
 refine ⟨?_,(h.last.lt a.lb rfl).2⟩
 rw [h.last.cellAt p (show p<a.n * 1 by omega),List.getElem?_map,List.getElem?_range hp]
 rfl
end Go.Proofs.YtbohmcfplgdlpaaDoor

/- A config's cells, stored and read.
   No conditions. -/
namespace Go.Proofs.YtbohmcfplgdlpaaDoor
open Go.RowKit Go.Shelf
theorem set5_chg (w:World) (b:Nat) (v0 v1 v2 v3 v4:Value):Chg (fun x=>x=b) w (((((w.setCell ⟨b,0,none⟩ v0).setCell ⟨b,1,none⟩ v1).setCell ⟨b,2,none⟩ v2).setCell ⟨b,3,none⟩ v3).setCell ⟨b,4,none⟩ v4):=by
 refine (((((Chg.refl _ w).setCell ?_ _).setCell ?_ _).setCell ?_ _).setCell ?_ _).setCell ?_ _
 all_goals exact fun _=>rfl
theorem AuB.all {w:World} {ab:Nat} {a:Au} (h:AuB w ab a):w.cell? ⟨ab,0,none⟩=some (.int .i64 a.k)∧w.cell? ⟨ab,1,none⟩=some (.int .u64 (a.s0:Nat))∧w.cell? ⟨ab,2,none⟩=some (.int .u64 (a.s1:Nat))∧w.cell? ⟨ab,3,none⟩=some (.int .u64 (a.s2:Nat))∧w.cell? ⟨ab,4,none⟩=some (.int .u64 (a.s3:Nat))∧w.cell? ⟨ab,5,none⟩=some (.slice a.ta a.tn a.tc)∧w.cell? ⟨ab,6,none⟩=some (.int .i64 a.lo)∧w.cell? ⟨ab,7,none⟩=some (.int .i64 a.hi)∧w.cell? ⟨ab,8,none⟩=some (.slice a.sA a.n a.sC)∧w.cell? ⟨ab,9,none⟩=some (.slice a.cA a.cN a.cC)∧w.cell? ⟨ab,10,none⟩=some (.slice (some ⟨a.ga,0,none⟩) a.n a.aC)∧w.cell? ⟨ab,11,none⟩=some (.slice a.fA a.fN a.fC)∧w.cell? ⟨ab,12,none⟩=some (.slice (some ⟨a.mb,0,none⟩) a.n a.n)∧w.cell? ⟨ab,13,none⟩=some (.slice (some ⟨a.lb,0,none⟩) a.n a.n)∧w.cell? ⟨ab,14,none⟩=some (.bool a.em) :=
 have p:=(row_cells h.blk).1
 ⟨p 0,p 1,p 2,p 3,p 4,p 5,p 6,p 7,p 8,p 9,p 10,p 11,p 12,p 13,p 14⟩
end Go.Proofs.YtbohmcfplgdlpaaDoor

/- An automaton's cells, stored.
   No conditions. -/
namespace Go.Proofs.YtbohmcfplgdlpaaDoor
open Go.RowKit Go.Shelf
def ZAB (b:Nat) (W:World):Prop:=W.heap[b]? = some (.cells #[.int .i64 0,.int .u64 0,.int .u64 0,.int .u64 0,.int .u64 0,.slice none 0 0,.int .i64 0,.int .i64 0,.slice none 0 0,.slice none 0 0,.slice none 0 0,.slice none 0 0,.slice none 0 0,.slice none 0 0,.bool false] 38 (0,0))
theorem ZAB.below {w w':World} {b:Nat} (h:ZAB b w) (hb:Below w.heap.size w w'):ZAB b w':=(hb.block b (Array.getElem?_eq_some_iff.1 h).1).trans h
theorem sta15_heap {w:World} {b:Nat} (h:ZAB b w) (a:Au):AuB (((((((((((((((w.setCell ⟨b,0,none⟩ (.int .i64 a.k)).setCell ⟨b,1,none⟩ (.int .u64 (a.s0:Nat))).setCell ⟨b,2,none⟩ (.int .u64 (a.s1:Nat))).setCell ⟨b,3,none⟩ (.int .u64 (a.s2:Nat))).setCell ⟨b,4,none⟩ (.int .u64 (a.s3:Nat))).setCell ⟨b,5,none⟩ (.slice a.ta a.tn a.tc)).setCell ⟨b,6,none⟩ (.int .i64 a.lo)).setCell ⟨b,7,none⟩ (.int .i64 a.hi)).setCell ⟨b,8,none⟩ (.slice a.sA a.n a.sC)).setCell ⟨b,9,none⟩ (.slice a.cA a.cN a.cC)).setCell ⟨b,10,none⟩ (.slice (some ⟨a.ga,0,none⟩) a.n a.aC)).setCell ⟨b,11,none⟩ (.slice a.fA a.fN a.fC)).setCell ⟨b,12,none⟩ (.slice (some ⟨a.mb,0,none⟩) a.n a.n)).setCell ⟨b,13,none⟩ (.slice (some ⟨a.lb,0,none⟩) a.n a.n)).setCell ⟨b,14,none⟩ (.bool a.em)) b a:=by
 refine ⟨?_⟩
 unfold ZAB at h
 simp [World.setCell,Array.getElem?_modify,h]
theorem sta15_zero {w:World} {b:Nat} (h:ZAB b w):ZAB b (((((((((((((((w.setCell ⟨b,0,none⟩ (.int .i64 0)).setCell ⟨b,1,none⟩ (.int .u64 0)).setCell ⟨b,2,none⟩ (.int .u64 0)).setCell ⟨b,3,none⟩ (.int .u64 0)).setCell ⟨b,4,none⟩ (.int .u64 0)).setCell ⟨b,5,none⟩ (.slice none 0 0)).setCell ⟨b,6,none⟩ (.int .i64 0)).setCell ⟨b,7,none⟩ (.int .i64 0)).setCell ⟨b,8,none⟩ (.slice none 0 0)).setCell ⟨b,9,none⟩ (.slice none 0 0)).setCell ⟨b,10,none⟩ (.slice none 0 0)).setCell ⟨b,11,none⟩ (.slice none 0 0)).setCell ⟨b,12,none⟩ (.slice none 0 0)).setCell ⟨b,13,none⟩ (.slice none 0 0)).setCell ⟨b,14,none⟩ (.bool false)):=by
 unfold ZAB at *
 simp [World.setCell,Array.getElem?_modify,h]
theorem sta15_chg (w:World) (b:Nat) (v0 v1 v2 v3 v4 v5 v6 v7 v8 v9 v10 v11 v12 v13 v14:Value):Chg (fun x=>x=b) w (((((((((((((((w.setCell ⟨b,0,none⟩ (v0)).setCell ⟨b,1,none⟩ (v1)).setCell ⟨b,2,none⟩ (v2)).setCell ⟨b,3,none⟩ (v3)).setCell ⟨b,4,none⟩ (v4)).setCell ⟨b,5,none⟩ (v5)).setCell ⟨b,6,none⟩ (v6)).setCell ⟨b,7,none⟩ (v7)).setCell ⟨b,8,none⟩ (v8)).setCell ⟨b,9,none⟩ (v9)).setCell ⟨b,10,none⟩ (v10)).setCell ⟨b,11,none⟩ (v11)).setCell ⟨b,12,none⟩ (v12)).setCell ⟨b,13,none⟩ (v13)).setCell ⟨b,14,none⟩ (v14)):=by
 refine (((((((((((((((Chg.refl _ w).setCell ?_ _).setCell ?_ _).setCell ?_ _).setCell ?_ _).setCell ?_ _).setCell ?_ _).setCell ?_ _).setCell ?_ _).setCell ?_ _).setCell ?_ _).setCell ?_ _).setCell ?_ _).setCell ?_ _).setCell ?_ _).setCell ?_ _
 all_goals exact fun _=>rfl
theorem ZAB.all {W:World} {b:Nat} (h:ZAB b W):W.cell? ⟨b,0,none⟩=some (.int .i64 0)∧W.cell? ⟨b,1,none⟩=some (.int .u64 0)∧W.cell? ⟨b,2,none⟩=some (.int .u64 0)∧W.cell? ⟨b,3,none⟩=some (.int .u64 0)∧W.cell? ⟨b,4,none⟩=some (.int .u64 0)∧W.cell? ⟨b,5,none⟩=some (.slice none 0 0)∧W.cell? ⟨b,6,none⟩=some (.int .i64 0)∧W.cell? ⟨b,7,none⟩=some (.int .i64 0)∧W.cell? ⟨b,8,none⟩=some (.slice none 0 0)∧W.cell? ⟨b,9,none⟩=some (.slice none 0 0)∧W.cell? ⟨b,10,none⟩=some (.slice none 0 0)∧W.cell? ⟨b,11,none⟩=some (.slice none 0 0)∧W.cell? ⟨b,12,none⟩=some (.slice none 0 0)∧W.cell? ⟨b,13,none⟩=some (.slice none 0 0)∧W.cell? ⟨b,14,none⟩=some (.bool false) :=
 have p:=(row_cells h).1
 ⟨p 0,p 1,p 2,p 3,p 4,p 5,p 6,p 7,p 8,p 9,p 10,p 11,p 12,p 13,p 14⟩
end Go.Proofs.YtbohmcfplgdlpaaDoor

/- An operation whose guard is false passes.
   No conditions. -/
namespace Go.Proofs.YtbohmcfplgdlpaaDoor
open Go.RowKit
theorem wpOq_off {P:Program} {ops:Array Oper} {Q:Exit→Act→World→Prop} {i:Nat} {o:Oper} {I:Act→World→Prop} {a:Act} {w:World} (hi:ops[i]? = some o) (hg:Region.wanted o (yielded ops a.tmps)=false)
  (h:I (a.put o.dst undef) w):wpOp P ops Q i I a w:=by
 unfold wpOp
 simp only [hi]
 rw [if_neg (by simp [hg])]
 exact h
end Go.Proofs.YtbohmcfplgdlpaaDoor
