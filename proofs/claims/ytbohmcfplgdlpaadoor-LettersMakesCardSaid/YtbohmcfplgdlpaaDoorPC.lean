/- A tree is gone through for its moves (walker.whole): a contract.
   Conditions: the tree lies in memory below the walker, is formed, has at most 300000 nodes, 40 positions, and four scopes around each. -/
import Derived.Test.YtbohmcfplgdlpaaDoorPA
import Derived.Test.YtbohmcfplgdlpaaDoorMAdd
import Derived.Test.YtbohmcfplgdlpaaDoorMOpn
import Derived.Test.YtbohmcfplgdlpaaDoorMMelt
import Derived.Test.YtbohmcfplgdlpaaDoorMSameS
import Derived.Test.YtbohmcfplgdlpaaDoorMPmap
import Derived.Deep.LoopGhost
import Derived.Deep.DeepCutAuto
import Derived.Deep.AppendLies
import Derived.Deep.RegionWith

/- The groups that are open while a tree is gone through for its moves, in memory: what each step keeps.
   Conditions: those that each theorem states. -/
namespace Go.Proofs.YtbohmcfplgdlpaaDoor
open Go.RowKit
def gpc (g:Gp):List Value:=[.pointer (some ⟨g.nb,g.no,none⟩),.int .i64 g.ar,.int .i64 g.be,g.nv,.int .u64 g.f.fi,.int .u64 g.f.la,.bool g.f.em]
theorem gpc_len (l:List Gp):(l.flatMap gpc).length=l.length * 7:=by
 induction l with
 | nil=>rfl
 | cons f l ih=>rw [List.flatMap_cons,List.length_append,ih,List.length_cons];show 7+_=_;omega
theorem rev_gpc (g:Gp) (gs:List Gp):(g :: gs).reverse.flatMap gpc=gs.reverse.flatMap gpc ++ gpc g:=by simp
structure SkW (w:World) (B Z:Nat) (gs:List Gp) (ov:Value):Prop where
 own:w.ownsRow Z 94 7 ov gs.length (gs.reverse.flatMap gpc)
 fr:∀ g∈gs,NodeB B w g.nb g.no g.t∧Laid w (fun x=>x<B) (.node 0 zeros 0 0 g.nv g.ps)
variable {w w':World} {B Z:Nat} {gs:List Gp} {ov:Value}
theorem SkW.keep {Q:Nat→Prop} (h:SkW w B Z gs ov) (hc:Chg Q w w') (hQ:∀ x,Q x→B≤x∧∀ b,ov.ownBlock=some b→x≠b):SkW w' B Z gs ov :=
 ⟨own_chg h.own hc fun b hb q=>(hQ b q).2 b hb rfl,fun g hg=>⟨(h.fr g hg).1.chg (hc.mono fun x _ q=>(hQ x q).1),(h.fr g hg).2.chg hc fun x _ hx q=>by have:=(hQ x q).1;omega⟩⟩
theorem SkW.below (h:SkW w B Z gs ov) (hb:Below w.heap.size w w'):SkW w' B Z gs ov:=h.keep (Chg.of_below (R:=fun _=>False) hb) fun _ q=>q.elim
theorem gp_set (g g':Gp) (gs:List Gp) (j:Nat) (v:Value) (h:(gpc g).set j v=gpc g') (hj:j<7):((g :: gs).reverse.flatMap gpc).set (gs.length * 7+j) v=(g' :: gs).reverse.flatMap gpc:=by
 rw [rev_gpc,rev_gpc,List.set_append_right _ _ (by rw [gpc_len,List.length_reverse];omega),gpc_len,List.length_reverse,← h]
 congr 2
 omega
theorem SkW.cell {g:Gp} {G cap:Nat} (h:SkW w B Z (g :: gs) (.slice (some ⟨G,0,none⟩) (gs.length+1) cap)) (j:Nat) (hj:j<7):w.cell? ⟨G,gs.length * 7+j,none⟩=(gpc g)[j]?:=by
 rw [h.own.cellAt _ (by omega),rev_gpc,List.getElem?_append_right (by rw [gpc_len,List.length_reverse];omega),gpc_len,List.length_reverse]
 congr 1
 omega
theorem SkW.cell2 {g p:Gp} {G cap:Nat} (h:SkW w B Z (g :: p :: gs) (.slice (some ⟨G,0,none⟩) (gs.length+1+1) cap)) (j:Nat) (hj:j<7):w.cell? ⟨G,gs.length * 7+j,none⟩=(gpc p)[j]?:=by
 rw [h.own.cellAt _ (by omega),rev_gpc,List.getElem?_append_left (by rw [gpc_len,List.length_reverse,List.length_cons];omega),rev_gpc,List.getElem?_append_right (by rw [gpc_len,List.length_reverse];omega),gpc_len,List.length_reverse]
 congr 1
 omega
theorem SkW.take {g:Gp} {G cap:Nat} {us:List V} {tv:Value} (h:SkW w B Z (g :: gs) (.slice (some ⟨G,0,none⟩) (gs.length+1) cap)) (hB:B≤Z)
  (ht:Laid w (fun x=>x<B) (.node 0 zeros 0 0 tv us)):SkW (w.setCell ⟨G,gs.length * 7+3,none⟩ tv) B Z (g.tk tv us :: gs) (.slice (some ⟨G,0,none⟩) (gs.length+1) cap):=by
 have hgb:=(h.own.lt G rfl).1
 have hch:Chg (fun x=>x=G) w (w.setCell ⟨G,gs.length * 7+3,none⟩ tv):=(Chg.refl (fun x=>x=G) w).setCell (p:=⟨G,gs.length * 7+3,none⟩) (fun _=>rfl) _
 refine ⟨?_,fun q hq=>?_⟩
 ·have h1:=(h.own.stored (gs.length * 7+3) tv).1
  rw [gp_set g (g.tk tv us) gs 3 tv rfl (by omega)] at h1
  exact h1
 ·rcases List.mem_cons.1 hq with rfl | hq
  ·exact ⟨(h.fr g (by simp)).1.chg (hch.mono fun x _ e=>by omega),ht.chg hch fun x _ hx e=>by omega⟩
  ·exact ⟨(h.fr q (by simp [hq])).1.chg (hch.mono fun x _ e=>by omega),(h.fr q (by simp [hq])).2.chg hch fun x _ hx e=>by omega⟩
theorem setF_chg (w:World) (G o:Nat) (f:Fc):Chg (fun x=>x=G) w (setF w G o f):=by
 unfold setF
 refine (((Chg.refl _ w).setCell ?_ _).setCell ?_ _).setCell ?_ _
 all_goals exact fun _=>rfl
theorem SkW.pop {g:Gp} {G cap:Nat} (h:SkW w B Z (g :: gs) (.slice (some ⟨G,0,none⟩) (gs.length+1) cap)):SkW w B Z gs (.slice (some ⟨G,0,none⟩) gs.length cap):=by
 refine ⟨?_,fun q hq=>h.fr q (by simp [hq])⟩
 have:=h.own
 rw [rev_gpc] at this
 exact ownsRow_pop (by rw [gpc_len,List.length_reverse]) this
theorem SkW.face {p:Gp} {G cap:Nat} (h:SkW w B Z (p :: gs) (.slice (some ⟨G,0,none⟩) (gs.length+1) cap)) (hB:B≤Z) (f f':Fc) (hf:f'=(p.ad f).f):SkW (setF w G (gs.length * 7) f') B Z (p.ad f :: gs) (.slice (some ⟨G,0,none⟩) (gs.length+1) cap):=by
 subst hf
 have hgb:=(h.own.lt G rfl).1
 have hch:=setF_chg w G (gs.length * 7) (p.ad f).f
 refine ⟨?_,fun q hq=>?_⟩
 ·have h1:=(h.own.stored (gs.length * 7+4) (.int .u64 (p.ad f).f.fi)).1
  rw [gp_set p { p with f:={ p.f with fi:=(p.ad f).f.fi } } gs 4 _ rfl (by omega)] at h1
  have h2:=(h1.stored (gs.length * 7+5) (.int .u64 (p.ad f).f.la)).1
  rw [gp_set { p with f:={ p.f with fi:=(p.ad f).f.fi } } { p with f:={ p.f with fi:=(p.ad f).f.fi,la:=(p.ad f).f.la } } gs 5 _ rfl (by omega)] at h2
  have h3:=(h2.stored (gs.length * 7+6) (.bool (p.ad f).f.em)).1
  rw [gp_set { p with f:={ p.f with fi:=(p.ad f).f.fi,la:=(p.ad f).f.la } } (p.ad f) gs 6 _ rfl (by omega)] at h3
  exact h3
 ·rcases List.mem_cons.1 hq with rfl | hq
  ·exact ⟨(h.fr p (by simp)).1.chg (hch.mono fun x _ e=>by omega),(h.fr p (by simp)).2.chg hch fun x _ hx e=>by omega⟩
  ·exact ⟨(h.fr q (by simp [hq])).1.chg (hch.mono fun x _ e=>by omega),(h.fr q (by simp [hq])).2.chg hch fun x _ hx e=>by omega⟩
theorem SkW.push {w5:World} {g:Gp} {ov':Value} {ob:Obj} (h:SkW w B Z gs ov) (hB:B≤Z) (hg:(w.alloc ob).grownBy w5 ov.ownBlock) (hown:w5.ownsRow Z 94 7 ov' (gs.length+1) (gs.reverse.flatMap gpc ++ gpc g))
  (hn:NodeB B w g.nb g.no g.t) (hl:Laid w (fun x=>x<B) (.node 0 zeros 0 0 g.nv g.ps)):SkW w5 B Z (g :: gs) ov'∧Chg (fun x=>ov.ownBlock=some x) w w5:=by
 have hch:Chg (fun x=>ov.ownBlock=some x) w w5:=((Chg.refl (fun x=>ov.ownBlock=some x) w).alloc ob).grown hg fun k hk _=>hk
 have hBo:∀ x,ov.ownBlock=some x→B≤x:=fun x e=>by have:=(h.own.lt x e).1;omega
 refine ⟨⟨by rw [rev_gpc];exact hown,fun q hq=>?_⟩,hch⟩
 rcases List.mem_cons.1 hq with rfl | hq
 ·exact ⟨hn.chg (hch.mono fun x _ e=>hBo x e),hl.chg hch fun x _ hx e=>by have:=hBo x e;omega⟩
 ·exact ⟨(h.fr q hq).1.chg (hch.mono fun x _ e=>hBo x e),(h.fr q hq).2.chg hch fun x _ hx e=>by have:=hBo x e;omega⟩
theorem SkW.gd {g p:Gp} {G cap:Nat} (h:SkW w B Z (g :: p :: gs) (.slice (some ⟨G,0,none⟩) (gs.length+1+1) cap)):Gd w G (gs.length * 7) p.nb p.no p.t.kind p.t.hi p.ar p.be p.f:=by
 have hn:=(h.fr p (by simp)).1
 have hlt:=hn.at.lt
 refine ⟨h.cell2 0 (by omega),h.cell2 1 (by omega),h.cell2 2 (by omega),h.cell2 4 (by omega),h.cell2 5 (by omega),h.cell2 6 (by omega),h.own.frozenAt _,h.own.frozenAt _,h.own.frozenAt _,?_,?_,(h.own.lt G rfl).2,hlt⟩
 ·exact hn.2.1 0 _ rfl
 ·exact hn.2.1 7 _ rfl
theorem nodeB_8 {nb no:Nat} {t:V} (h:NodeB B w nb no t) {sa:Option Addr} {sn sc:Nat} (hv:t.v=.slice sa sn sc):Nd8 w nb no t.kind t.set t.lo t.hi (.slice sa sn sc) :=
 ⟨h.2.1 0 _ rfl,h.2.1 1 _ rfl,h.2.1 2 _ rfl,h.2.1 3 _ rfl,h.2.1 4 _ rfl,by rw [← hv];exact h.2.1 5 _ rfl,h.2.1 6 _ rfl,h.2.1 7 _ rfl,h.at.lt⟩
theorem Wk.iff {wk mb jb at' nm nj:Nat} {S S':St→Prop} {T T':Jt→Prop} (h:Wk w wk mb jb at' S T nm nj) (hs:∀ s,S s↔S' s) (ht:∀ s,T s↔T' s):Wk w wk mb jb at' S' T' nm nj :=
 ⟨h.row,h.met.iff hs,h.joi.iff ht,h.ne,fun k hk s hf=>(hs s).1 (h.inv k ((ht k).2 hk) s hf)⟩
theorem Wk.mono {wk mb jb at' nm nj nm' nj':Nat} {S:St→Prop} {T:Jt→Prop} (h:Wk w wk mb jb at' S T nm nj) (h1:nm≤nm') (h2:nj≤nj'):Wk w wk mb jb at' S T nm' nj' :=
 ⟨h.row,h.met.mono h1,h.joi.mono h2,h.ne,h.inv⟩
def SJ (js:List Jt) (s:St):Prop:=∃ j∈js,fromJ j s
theorem sj_snoc (js:List Jt) (j:Jt) (s:St):(SJ js s∨fromJ j s)↔SJ (js ++ [j]) s:=by
 unfold SJ
 constructor
 ·rintro (⟨k,hk,h⟩ | h)
  ·exact ⟨k,by simp [hk],h⟩
  ·exact ⟨j,by simp,h⟩
 ·rintro ⟨k,hk,h⟩
  rcases List.mem_append.1 hk with hk | hk
  ·exact .inl ⟨k,hk,h⟩
  ·rw [List.mem_singleton.1 hk] at h;exact .inr h
theorem mj_snoc (js:List Jt) (j k:Jt):(k∈js∨k=j)↔k∈js ++ [j]:=by simp
theorem add_any (w:World) {wk mb jb at':Nat} {js:List Jt} (hW:Wk w wk mb jb at' (SJ js) (fun k=>k∈js) (4096 * js.length) js.length) (hT:TabE w) (hTl:tabE<w.heap.size) (hjs:js.length≤300000)
  (gb go:Nat) (p:Gp) (g:Fc) (hG:Gd w gb go p.nb p.no p.t.kind p.t.hi p.ar p.be p.f) (hf:Fc64 p.f) (hg:Fc64 g) (har:p.be≤4) :
  Calls Tryd.prog 35 #[.pointer (some ⟨wk,0,none⟩),.pointer (some ⟨gb,go,none⟩),.agg #[.int .u64 g.fi,.int .u64 g.la,.bool g.em]] w fun e w'=>e=.returned (.tuple #[])∧∃ w3,Wk w3 wk mb jb at' (SJ (js ++ p.js g)) (fun k=>k∈js ++ p.js g) (4096 * (js ++ p.js g).length) (js ++ p.js g).length∧Chg (fun b=>b=mb∨b=jb) w w3∧w'=setF w3 gb go (p.ad g).f:=by
 have har2:p.ar≤4:=by
  have:p.ar≤p.be:=by unfold Gp.be blA;split <;> omega
  omega
 have hmx:4096 * js.length+4096<maxLen:=by unfold maxLen;omega
 have hjx:js.length+1<maxLen:=by unfold maxLen;omega
 by_cases h2:p.t.kind=2
 ·rw [h2] at hG
  refine (add_cat w hW hT hTl hmx hjx gb go p.nb p.no p.t.hi p.ar p.be p.f g hG hf hg (by omega)).mono ?_
  rintro e w' ⟨rfl,w3,h3,hc,rfl⟩
  have e1:p.js g=[⟨p.f.la,g.fi,p.ar,false⟩]:=by unfold Gp.js adJ;rw [if_pos h2]
  refine ⟨rfl,w3,?_,hc,?_⟩
  ·rw [e1]
   refine (h3.iff (sj_snoc js _) (mj_snoc js _)).mono ?_ ?_
   ·simp only [List.length_append,List.length_singleton];omega
   ·simp
  ·unfold Gp.ad adF;simp only [h2,if_true]
 ·by_cases h4:p.t.kind=4∧p.t.hi≠1
  ·rw [h4.1] at hG
   refine (add_rep w hW hT hTl hmx hjx gb go p.nb p.no p.t.hi p.ar p.be p.f g hG h4.2 hf hg (by omega)).mono ?_
   rintro e w' ⟨rfl,w3,h3,hc,rfl⟩
   have e0:decide (p.ar<p.be)=p.ag:=by
    unfold Gp.be blA
    cases p.ag <;> simp
   have e1:p.js g=[⟨g.la,g.fi,p.ar,p.ag⟩]:=by unfold Gp.js adJ;rw [if_neg h2,if_pos h4]
   rw [e0] at h3
   refine ⟨rfl,w3,?_,hc,?_⟩
   ·rw [e1]
    refine (h3.iff (sj_snoc js _) (mj_snoc js _)).mono ?_ ?_
    ·simp only [List.length_append,List.length_singleton];omega
    ·simp
   ·unfold Gp.ad adF;simp only [if_neg h2]
  ·refine (add_plain w wk gb go p.nb p.no p.t.kind p.t.hi p.ar p.be p.f g hG hf hg h2 h4).mono ?_
   rintro e w' ⟨rfl,w3,hb,rfl⟩
   have e1:p.js g=[]:=by unfold Gp.js adJ;rw [if_neg h2,if_neg h4]
   refine ⟨rfl,w3,?_,Chg.of_below hb,?_⟩
   ·rw [e1,List.append_nil]
    exact hW.chg (Chg.of_below (R:=fun _=>False) hb) ⟨id,id,id⟩
   ·unfold Gp.ad adF;simp only [if_neg h2]
end Go.Proofs.YtbohmcfplgdlpaaDoor

/- A tree is gone through for its moves (walker.whole): a contract.
   Conditions: the tree lies in memory below the walker, is formed, has at most 300000 nodes, 40 positions, and four scopes around each. -/
namespace Go.Proofs.YtbohmcfplgdlpaaDoor
open Go.RowKit Go.Shelf
theorem infoGrpM:(Tryd.prog.info? 94).map (fun i=>(i.zero,i.size,i.bytes))=some (some (.agg #[.pointer none,.int .i64 0,.int .i64 0,.slice none 0 0,.int .u64 0,.int .u64 0,.bool false]),7,72):=by kernel_rfl
def LWh (w0:World) (B wk mb jb:Nat) (root:T) (n:Nat) (ov:Value) (wr:World):Prop :=
 ∃ g gs a js,SkW wr B w0.heap.size (g :: gs) ov∧Wk wr wk mb jb a (SJ js) (fun k=>k∈js) (4096 * js.length) js.length∧(∀ x∈g :: gs,GOk a x) ∧
  (resW g gs a).1=(mvT root 0 0).1∧(resW g gs a).2.1=(mvT root 0 0).2.1∧js ++ (resW g gs a).2.2=(mvT root 0 0).2.2∧n=wGp (g :: gs)∧n≤700000∧Chg (fun b=>b=wk∨b=mb∨b=jb) w0 wr
theorem opened_at (w:World) {wk mb jb at' nm nj:Nat} {S:St→Prop} {T:Jt→Prop} (hW:Wk w wk mb jb at' S T nm nj) (hat:at' < 63) (B nb no ar:Nat) (t:V) (be:Nat) (f:Fc) (hn:NodeB B w nb no t) (hok:okF t) (har:ar<1000) (hbe:be=blA ar (cnt4 t.kind t.lo t.hi)) (hf:f=opF t.kind t.set t.lo at') :
  Calls Tryd.prog 34 #[.pointer (some ⟨wk,0,none⟩),.pointer (some ⟨nb,no,none⟩),.int .i64 ar] w fun e w'=>(∃ sa sn sc,t.v=.slice sa sn sc∧e=.returned (.agg #[.pointer (some ⟨nb,no,none⟩),.int .i64 ar,.int .i64 be,.slice sa sn sc,.int .u64 f.fi,.int .u64 f.la,.bool f.em]))∧Wk w' wk mb jb (opA t.kind t.set at') S T nm nj∧Chg (fun b=>b=wk) w w':=by
 obtain ⟨sa,sn,sc,hv⟩:=hn.2.2.slice
 subst hbe hf
 refine (opened_any w hW hat nb no ar t.kind t.set t.lo t.hi sa sn sc (nodeB_8 hn hv) hok.kind har fun h4=>hok.bnd4 h4).mono ?_
 rintro e w' ⟨rfl,h1,h2⟩
 exact ⟨⟨sa,sn,sc,hv,rfl⟩,h1,h2⟩
set_option maxHeartbeats 8000000 in
set_option maxRecDepth 100000 in
theorem whole_any (B nb no:Nat) (root:V) (w:World) {wk mb jb:Nat} (hW:Wk w wk mb jb 0 (SJ []) (fun k=>k∈([]:List Jt)) 0 0) (hT:TabE w) (hTB:tabE<B) (hB:B≤w.heap.size) (hb3:B≤wk∧B≤mb∧B≤jb)
  (hroot:NodeB B w nb no root) (hok:okF root) (hsz:szT (erase root)≤300000) (hin:in4 (erase root) 0) (hpos:npos (erase root)≤40) (F:Fc) (hF:F=(mvT (erase root) 0 0).1) :
  Calls Tryd.prog 23 #[.pointer (some ⟨wk,0,none⟩),.pointer (some ⟨nb,no,none⟩)] w fun e w'=>e=.returned (.agg #[.int .u64 F.fi,.int .u64 F.la,.bool F.em])∧Wk w' wk mb jb (npos (erase root)) (SJ (mvT (erase root) 0 0).2.2) (fun k=>k∈(mvT (erase root) 0 0).2.2) (4096 * (mvT (erase root) 0 0).2.2.length) (mvT (erase root) 0 0).2.2.length∧Chg (fun b=>b=wk∨b=mb∨b=jb) w w':=by
 obtain ⟨i0,hi,hz0,hz1,hz2⟩:=info_parts infoGrpM
 obtain ⟨w1,hw1⟩ : ∃ w1,w.alloc (.cells #[.int .u64 0,.int .u64 0,.bool false] 72)=w1:=⟨_,rfl⟩
 have hb1:Below w.heap.size w w1:=hw1▸(Below.refl _ w).alloc (Nat.le_refl _) _
 have hres:w1.heap[w.heap.size]? = some (.cells #[.int .u64 0,.int .u64 0,.bool false] 72 (0,0)):=hw1▸heap_alloc_new w _
 have hs1:w1.heap.size=w.heap.size+1:=by rw [← hw1];simp
 have hW1:=hW.chg (Chg.of_below (R:=fun _=>False) hb1) ⟨id,id,id⟩
 have hn1:NodeB B w1 nb no root:=hroot.chg (Chg.of_below hb1)
 have htot:=mv_js (erase root) 0 0
 have hat0:=mv_at (erase root) 0 0
 obtain ⟨be,hbe⟩ : ∃ be,be=blA 0 (cnt4 root.kind root.lo root.hi):=⟨_,rfl⟩
 obtain ⟨f0,hf0⟩ : ∃ f0,f0=opF root.kind root.set root.lo 0:=⟨_,rfl⟩
 have HOP:=Lib.hid (opened_at w1 hW1 (by omega) B nb no 0 root be f0 hn1 hok (by omega) hbe hf0)
 have HD:=Lib.hid (And.intro hTB (And.intro hB (And.intro hb3 (And.intro hb1 (And.intro hres (And.intro hs1 (And.intro hT (And.intro hF (And.intro htot (And.intro hat0 hpos))))))))))
 have HR:=Lib.hid (And.intro hn1 (And.intro hok (And.intro hsz (And.intro hin (And.intro hbe (And.intro hf0 (And.intro (Array.getElem?_eq_some_iff.1 hW.row).1 (And.intro hW.met.lt hW.joi.lt))))))))
 clear hW hT hTB hB hb3 hroot hok hsz hin hpos hF hb1 hres hs1 hW1 hn1 htot hat0 hbe hf0
 go_enter Tryd.func23,Tryd.ntmps23
 go_upto_region 1 with fail
 clear hw1
 go_wp2_with fail
 go_at_call 34
 refine HOP.out.mono ?_
 rintro e w2 ⟨⟨sa,sn,sc,hv,rfl⟩,hW2,hc2⟩
 have HST:=Lib.hid (show LWh w1 B wk mb jb (erase root) (wGp [Gp.op nb no root 0 0]) (.slice (some ⟨w2.heap.size,0,none⟩) 1 1) (w2.alloc (.cells #[.pointer (some ⟨nb,no,none⟩),.int .i64 0,.int .i64 be,.slice sa sn sc,.int .u64 f0.fi,.int .u64 f0.la,.bool f0.em] 94)) by
  have hbw:Below w2.heap.size w2 (w2.alloc (.cells #[.pointer (some ⟨nb,no,none⟩),.int .i64 0,.int .i64 be,.slice sa sn sc,.int .u64 f0.fi,.int .u64 f0.la,.bool f0.em] 94)):=(Below.refl _ w2).alloc (Nat.le_refl _) _
  have hn2:NodeB B w2 nb no root:=HR.out.1.chg (hc2.mono fun x _ e=>by have:=HD.out.2.2.1.1;omega)
  have hn3:=hn2.chg (B:=B) (Chg.of_below hbw)
  refine ⟨Gp.op nb no root 0 0,[],opA root.kind root.set 0,[],⟨?_,fun g hg=>?_⟩,hW2.chg (Chg.of_below (R:=fun _=>False) hbw) ⟨id,id,id⟩,fun x hx=>?_,?_,?_,?_,rfl,?_,(hc2.mono fun x _ e=>.inl e).trans (Chg.of_below (R:=fun _=>False) hbw) fun _ _ q=>q.elim⟩
  ·have e1:gpc (Gp.op nb no root 0 0)=[.pointer (some ⟨nb,no,none⟩),.int .i64 (0:Nat),.int .i64 be,.slice sa sn sc,.int .u64 f0.fi,.int .u64 f0.la,.bool f0.em]:=by
    unfold gpc Gp.op Gp.be Gp.ag
    simp only
    rw [hv,HR.out.2.2.2.2.1,HR.out.2.2.2.2.2.1]
   have:=World.ownsRow_lit (e:=94) (size:=7) (base:=w1.heap.size) w2 #[.pointer (some ⟨nb,no,none⟩),.int .i64 0,.int .i64 be,.slice sa sn sc,.int .u64 f0.fi,.int .u64 f0.la,.bool f0.em] 1 hc2.size (by unfold maxLen;omega) rfl
   show World.ownsRow _ _ _ _ _ _ (gpc (Gp.op nb no root 0 0) ++ [])
   rw [e1]
   exact this
  ·obtain rfl:=List.mem_singleton.1 hg
   exact ⟨hn3,laid_parts hn3.2.2⟩
  ·obtain rfl:=List.mem_singleton.1 hx
   exact GOk.opn HR.out.2.1 HR.out.2.2.2.1
  ·rw [resW_start]
  ·rw [resW_start]
  ·rw [resW_start];rfl
  ·have h1:=HR.out.2.2.1
   have h2:=sz_eq root
   simp only [wGp,Gp.op]
   omega)
 clear hv hW2 hc2
 go_wp2_with fail
 go_loopw [5] (fun ov wr=>∃ n,LWh w1 B wk mb jb (erase root) n ov wr) (fun ov wr=>leastOf (fun n=>LWh w1 B wk mb jb (erase root) n ov wr))
 case atStart=>exact ⟨_,HST.out⟩
 case round =>
  clear HST
  have hls:=(leastOf_spec hrel).1
  obtain ⟨g,gs,a,js,hS,hWk,hG,hr1,hr2,hr3,hN,hn,hch⟩:=hls
  obtain ⟨G,cap,rfl⟩:=ownsRow_succ hS.own
  have hlen:gs.length+1≤1000000:=by have:=wGp_len (g :: gs);simp only [List.length_cons] at this;omega
  have hgl:=(hS.own.lt G rfl).2
  have hgb:=(hS.own.lt G rfl).1
  have y0:=hS.cell 0 (by omega)
  have y2:=hS.cell 2 (by omega)
  have y3:=hS.cell 3 (by omega)
  have y4:=hS.cell 4 (by omega)
  have y5:=hS.cell 5 (by omega)
  have y6:=hS.cell 6 (by omega)
  have hgf:wr.frozen? ⟨G,gs.length * 7+3,none⟩=false:=hS.own.frozenAt _
  have hcap:(gs.length:Int)+1≤(cap:Int):=by
   rcases hS.own.2 with ⟨h1,_⟩ | ⟨g',cap',cur,hv,_,_,hle,_⟩
   ·cases h1
   ·simp only [Value.slice.injEq,List.length_cons] at hv hle;omega
  have m1:(0:Int)≤(gs.length:Int):=by omega
  have m2:(0:Int)<(gs.length:Int)+1:=by omega
  have m3:(gs.length:Int)<(gs.length:Int)+1:=by omega
  have m4:(gs.length:Int)≤2000000:=by omega
  have hfr:=hS.fr g (by simp)
  have hale:a≤40:=by
   have h1:=resW_le g gs a
   have h2:=HD.out
   omega
  have hjs:js.length≤300000:=by
   have h1:=congrArg List.length hr3
   rw [List.length_append] at h1
   have h2:=HD.out.2.2.2.2.2.2.2.2.1
   have h3:=HR.out.2.2.1
   omega
  cases hps:g.ps with
  | nil =>
   have hnv:=hfr.2
   rw [hps] at hnv
   obtain ⟨na,nc,hnn⟩:=laid_nil hnv
   have y3':wr.cell? ⟨G,gs.length * 7+3,none⟩=some (.slice na 0 nc):=by rw [y3];show some g.nv=_;rw [hnn]
   have y4':wr.cell? ⟨G,gs.length * 7+4,none⟩=some (.int .u64 g.f.fi):=y4
   have y5':wr.cell? ⟨G,gs.length * 7+5,none⟩=some (.int .u64 g.f.la):=y5
   have y6':wr.cell? ⟨G,gs.length * 7+6,none⟩=some (.bool g.f.em):=y6
   clear y0 y2 y3 y4 y5 y6 hnv hnn hgf
   cases gs with
   | nil =>
    have hre:(mvT (erase root) 0 0).1=g.f∧(mvT (erase root) 0 0).2.1=a∧(mvT (erase root) 0 0).2.2=js:=by
     rw [resW_end g a hps] at hr1 hr2 hr3
     exact ⟨hr1.symm,hr2.symm,by rw [← hr3];simp⟩
    have hrr:wr.heap[w.heap.size]? = some (.cells #[.int .u64 0,.int .u64 0,.bool false] 72 (0,0)):=(hch.block _ (by have:=HD.out.2.2.2.2.2.1;omega) (by have:=HR.out.2.2.2.2.2.2;omega)).trans HD.out.2.2.2.2.1
    obtain ⟨⟨z0,z1,z2⟩,e0,e1,e2⟩:=cells3 hrr
    have hzl:=(Array.getElem?_eq_some_iff.1 hrr).1
    simp only [List.length_nil,Nat.zero_mul,Nat.zero_add] at y3' y4' y5' y6' hcap m1 m2 m3 m4
    obtain ⟨fi,hfi⟩ : ∃ fi,fi=g.f.fi:=⟨_,rfl⟩
    obtain ⟨la,hla⟩ : ∃ la,la=g.f.la:=⟨_,rfl⟩
    obtain ⟨em,hem⟩ : ∃ em,em=g.f.em:=⟨_,rfl⟩
    rw [← hfi] at y4'
    rw [← hla] at y5'
    rw [← hem] at y6'
    have HE:=Lib.hid (And.intro hre (And.intro hrr (And.intro hWk (And.intro hch (And.intro hfi (And.intro hla hem))))))
    clear hrel hS hWk hG hr1 hr2 hr3 hN hn hch hfr hale hjs hps hre hrr hfi hla hem hlen hgb
    go_wp2_with fail
    clear z0 z1 z2 e0 e1 e2 y3' y4' y5' y6'
    have hf3:=set3_heap HE.out.2.1 (.int .u64 (fi:Nat)) (.int .u64 (la:Nat)) (.bool em)
    have hc3:=set3_chg wr w.heap.size (.int .u64 (fi:Nat)) (.int .u64 (la:Nat)) (.bool em)
    generalize (((wr.setCell ⟨w.heap.size,0,none⟩ (.int .u64 (fi:Nat))).setCell ⟨w.heap.size,1,none⟩ (.int .u64 (la:Nat))).setCell ⟨w.heap.size,2,none⟩ (.bool em))=w6 at *
    obtain ⟨⟨r0,r1,r2⟩,_⟩:=cells3 hf3
    refine bodyPost_ret (v:=.agg #[.int .u64 (fi:Nat),.int .u64 (la:Nat),.bool em]) (by simp [results,Tryd.results23,go_sem,r0,r1,r2]) rfl ⟨?_,?_,?_⟩
    ·rw [HD.out.2.2.2.2.2.2.2.1,HE.out.1.1,HE.out.2.2.2.2.1,HE.out.2.2.2.2.2.1,HE.out.2.2.2.2.2.2]
    ·have h1:=HE.out.2.2.1.chg hc3 (by have:=HR.out.2.2.2.2.2.2;omega)
     have h2:=HD.out.2.2.2.2.2.2.2.2.2.1
     rw [HE.out.1.2.1,Nat.zero_add] at h2
     rw [HE.out.1.2.2,← h2]
     exact h1
    ·exact ((Chg.of_below (R:=fun b=>b=wk∨b=mb∨b=jb) HD.out.2.2.2.1).trans HE.out.2.2.2.1 fun _ _ q=>q).trans hc3 fun x hx e=>absurd e (by omega)
   | cons p gs =>
    simp only [List.length_cons] at y3' y4' y5' y6' hcap hlen m1 m2 m3 m4
    clear m1 m2 m3 m4
    have n1:(0:Int)≤(gs.length:Int):=by omega
    have n2:(0:Int)≤(gs.length:Int)+1:=by omega
    have n3:(gs.length:Int)<(gs.length:Int)+1:=by omega
    have n4:(gs.length:Int)+1<(gs.length:Int)+1+1:=by omega
    have n5:(gs.length:Int)+1≤2000000:=by omega
    have n6:(gs.length:Int)+1+1≤(cap:Int):=by omega
    have n7:(gs.length:Int)+1≤(gs.length:Int)+1+1:=by omega
    have n8:(gs.length:Int)<(gs.length:Int)+1+1:=by omega
    have n9:IntKind.i64.wrap (gs.length:Int)=(gs.length:Int):=by simp [IntKind.wrap,IntKind.bits,IntKind.signed];omega
    have m5:((gs.length:Int)+1 == 0)=false:=by simp;omega
    have m6:¬ (gs.length:Int)+1=0:=by omega
    have hcap2:(gs.length:Int)+1≤(cap:Int):=by omega
    clear hcap
    obtain ⟨fi,hfi⟩ : ∃ fi,fi=g.f.fi:=⟨_,rfl⟩
    obtain ⟨la,hla⟩ : ∃ la,la=g.f.la:=⟨_,rfl⟩
    obtain ⟨em,hem⟩ : ∃ em,em=g.f.em:=⟨_,rfl⟩
    rw [← hfi] at y4'
    rw [← hla] at y5'
    rw [← hem] at y6'
    have hSd:SkW wr.drew B w1.heap.size (g :: p :: gs) (.slice (some ⟨G,0,none⟩) (gs.length+1+1) cap):=hS.keep ((Chg.refl (fun _=>False) wr).drew) fun _ q=>q.elim
    have hWd:Wk wr.drew wk mb jb a (SJ js) (fun k=>k∈js) (4096 * js.length) js.length:=hWk.chg ((Chg.refl (fun _=>False) wr).drew) ⟨id,id,id⟩
    have hbt:wr.heap[tabE]? = w.heap[tabE]?:=(hch.block tabE (by have:=HD.out;omega) (by have:=HD.out;omega)).trans (HD.out.2.2.2.1.block tabE (by have:=HD.out;omega))
    have hTd:TabE wr.drew:=fun i hi=>(World.cell?_of_block (w:=w) (w':=wr.drew) (a:=⟨tabE,i,none⟩) hbt).trans (HD.out.2.2.2.2.2.2.1 i hi)
    have hGp:=hG p (by simp)
    have hGg:=hG g (by simp)
    have HAD:=Lib.hid (add_any wr.drew hWd hTd (by show tabE<wr.heap.size;have:=hch.size;have:=HD.out;omega) hjs G (gs.length * 7) p ⟨fi,la,em⟩ hSd.gd (fc64_in hGp.fc hale) (fc64_in (by rw [show (⟨fi,la,em⟩ : Fc)=g.f by rw [hfi,hla,hem]];exact hGg.fc) hale) hGp.be)
    have HE:=Lib.hid (And.intro hSd (And.intro hG (And.intro hr1 (And.intro hr2 (And.intro hr3 (And.intro hN (And.intro hn (And.intro hch (And.intro hps (And.intro (show (⟨fi,la,em⟩ : Fc)=g.f by rw [hfi,hla,hem]) hgb))))))))))
    clear hrel hS hWk hG hr1 hr2 hr3 hN hn hch hfr hale hjs hps hfi hla hem hSd hWd hTd hGp hGg hgb
    go_wp2_with fail
    go_still_tail 9,(by kernel_rfl)
    change wpList _ _ _ _ _ wr.drew
    go_wp2_with fail
    go_at_call 35
    refine HAD.out.mono ?_
    rintro e w4 ⟨rfl,w3,hW3,hc3,rfl⟩
    have hne:G≠wk∧G≠mb∧G≠jb:=by have h1:=HE.out.2.2.2.2.2.2.2.2.2.2;have h2:=HR.out.2.2.2.2.2.2;have h3:=HD.out.2.2.2.2.2.1;omega
    have hS3:=HE.out.1.keep hc3 fun x e=>⟨by have:=HD.out.2.2.1;omega,fun b hb e2=>by have e3:G=b:=Option.some.inj hb;omega⟩
    have hgw:(⟨fi,la,em⟩ : Fc)=g.f:=HE.out.2.2.2.2.2.2.2.2.2.1
    have hZ1:B≤w1.heap.size:=by have:=HD.out;omega
    have HL:=Lib.hid (show LWh w1 B wk mb jb (erase root) (wGp (p.ad g.f :: gs)) (.slice (some ⟨G,0,none⟩) (gs.length+1) cap) (setF w3 G (gs.length * 7) (p.ad ⟨fi,la,em⟩).f) from by
     have hpop:=resW_pop g p gs a HE.out.2.2.2.2.2.2.2.2.1
     have hr1:=HE.out.2.2.1
     have hr2:=HE.out.2.2.2.1
     have hr3:=HE.out.2.2.2.2.1
     rw [hpop] at hr1 hr2 hr3
     have hch:=HE.out.2.2.2.2.2.2.2.1
     rw [hgw]
     refine ⟨p.ad g.f,gs,a,js ++ p.js g.f,(hS3.pop).face hZ1 g.f _ rfl,?_,fun x hx=>?_,hr1,hr2,?_,rfl,?_,?_⟩
     ·rw [hgw] at hW3
      exact hW3.chg (setF_chg _ _ _ _) ⟨fun e=>hne.1 e.symm,fun e=>hne.2.1 e.symm,fun e=>hne.2.2 e.symm⟩
     ·rcases List.mem_cons.1 hx with rfl | hx
      ·exact (HE.out.2.1 p (by simp)).add (HE.out.2.1 g (by simp)).fc
      ·exact HE.out.2.1 x (by simp [hx])
     ·rw [← hr3,List.append_assoc]
     ·have h1:=HE.out.2.2.2.2.2.1
      have h2:=HE.out.2.2.2.2.2.2.1
      simp only [wGp,Gp.ad] at h1 ⊢
      omega
     ·refine ((hch.trans ((Chg.refl (fun _=>False) wr).drew) fun _ _ q=>q.elim).trans hc3 fun x _ q=>.inr q).trans (setF_chg _ _ _ _) fun x hx e=>?_
      have:=HE.out.2.2.2.2.2.2.2.2.2.2
      omega)
    have HM:=Lib.hid (show wGp (p.ad g.f :: gs)<wGp (g :: p :: gs) by simp only [wGp,Gp.ad];omega)
    clear hW3 hc3 hS3 hgw hne y3' y4' y5' y6'
    go_wp2_with fail
    go_roundw
    case rel=>exact ⟨_,HL.out⟩
    case measure =>
     rw [HE.out.2.2.2.2.2.1]
     exact Nat.lt_of_le_of_lt ((leastOf_spec ⟨_,HL.out⟩).2 _ HL.out) HM.out
  | cons u us =>
   have hrow:=hfr.2
   rw [hps] at hrow
   obtain ⟨b,off,rcap,hnv⟩:=laid_row hrow
   rw [hnv] at hrow
   have y3':wr.cell? ⟨G,gs.length * 7+3,none⟩=some (.slice (some ⟨b,off,none⟩) (us.length+1) rcap):=by rw [y3];show some g.nv=_;rw [hnv]
   have y2':wr.cell? ⟨G,gs.length * 7+2,none⟩=some (.int .i64 g.be):=y2
   clear y0 y2 y3 y4 y5 y6
   obtain ⟨htail,hlu,hcu,hblt,hbR,hrcap⟩:=laid_tail hrow
   have hGt:=(hG g (by simp)).take (nv:=.slice none 0 0) hps
   have hbg:b≠G:=by have:=HD.out;omega
   have hgb2:G≠b:=fun e=>hbg e.symm
   have u1:(0:Int)≤(us.length:Int):=by omega
   have u2:(0:Int)<(us.length:Int)+1:=by omega
   have u3:((us.length:Int)+1 == 0)=false:=by simp;omega
   have u4:¬ (us.length:Int)+1=0:=by omega
   have u5:(1:Int)≤(us.length:Int)+1:=by omega
   have u6:(us.length:Int)+1≤(rcap:Int):=by omega
   have hZ1:B≤w1.heap.size:=by have:=HD.out;omega
   have hnode:NodeB B wr b off u:=⟨hbR,hcu,hlu⟩
   obtain ⟨gbe,hgbe⟩ : ∃ gbe,gbe=g.be:=⟨_,rfl⟩
   rw [← hgbe] at y2'
   obtain ⟨be2,hbe2⟩ : ∃ be2,be2=blA gbe (cnt4 u.kind u.lo u.hi):=⟨_,rfl⟩
   obtain ⟨f2,hf2⟩ : ∃ f2,f2=opF u.kind u.set u.lo a:=⟨_,rfl⟩
   have HE:=Lib.hid (And.intro hS (And.intro hWk (And.intro hG (And.intro hr1 (And.intro hr2 (And.intro hr3 (And.intro hN (And.intro hn (And.intro hch (And.intro hps (And.intro hnode (And.intro hGt.2 (And.intro hgbe (And.intro hbe2 (And.intro hf2 (And.intro hgb hale))))))))))))))))
   have HTL:=Lib.hid htail
   by_cases hc1:rcap=1
   ·have hus:us=[]:=by cases us with
     | nil=>rfl
     | cons x xs=>simp only [List.length_cons] at hrcap;omega
    subst hus
    subst hc1
    have HX:=Lib.hid (hS.take hZ1 (laid_null wr (fun x=>x<B) (some ⟨b,off,none⟩) 0))
    have hch1:Chg (fun x=>x=G) wr (wr.setCell ⟨G,gs.length * 7+3,none⟩ (.slice (some ⟨b,off,none⟩) 0 0)):=(Chg.refl (fun x=>x=G) wr).setCell (p:=⟨G,gs.length * 7+3,none⟩) (fun _=>rfl) _
    have hne:G≠wk∧G≠mb∧G≠jb:=by have h2:=HR.out.2.2.2.2.2.2;have h3:=HD.out.2.2.2.2.2.1;omega
    have hW1:=hWk.chg hch1 ⟨fun e=>hne.1 e.symm,fun e=>hne.2.1 e.symm,fun e=>hne.2.2 e.symm⟩
    have hn1:NodeB B (wr.setCell ⟨G,gs.length * 7+3,none⟩ (.slice (some ⟨b,off,none⟩) 0 0)) b off u:=hnode.chg (hch1.mono fun x _ e=>by have:=HD.out;omega)
    have HOP1:=Lib.hid (opened_at _ hW1 (by omega) B b off gbe u be2 f2 hn1 hGt.2.1 (by have:=(hG g (by simp)).be;omega) hbe2 hf2)
    have HB1:=Lib.hid (And.intro (hch.trans hch1 fun x hx e=>by omega) (And.intro hn1 (And.intro hW1 hne)))
    have hgl1:G<(wr.setCell ⟨G,gs.length * 7+3,none⟩ (.slice (some ⟨b,off,none⟩) 0 0)).heap.size:=by have:=hch1.size;omega
    clear hrel hS hWk hG hr1 hr2 hr3 hN hn hch hfr hale hjs hps hrow htail hlu hcu hbR hrcap hnv hGt hch1 hne hW1 hn1 hnode hgbe hbe2 hf2
    go_wp2_with fail
    generalize (wr.setCell ⟨G,gs.length * 7+3,none⟩ (.slice (some ⟨b,off,none⟩) 0 0))=x1 at *
    clear y3' hgf
    go_at_call 34
    refine HOP1.out.mono ?_
    rintro e x2 ⟨⟨ta,tn,tc,hv2,rfl⟩,hW2,hc2'⟩
    have hS2:=HX.out.keep hc2' fun x e=>⟨by have:=HD.out.2.2.1;omega,fun b hb e2=>by have e3:G=b:=Option.some.inj hb;have:=HB1.out.2.2.2;omega⟩
    have hn2:=HB1.out.2.1.chg (hc2'.mono fun x _ e=>by have:=HD.out.2.2.1;omega)
    have H2:=Lib.hid (And.intro hS2 (And.intro hW2 (And.intro hn2 (And.intro (HB1.out.1.trans hc2' fun x _ e=>.inl e) hv2))))
    have zl:w1.heap.size≤x2.heap.size:=H2.out.2.2.2.1.size
    clear hS2 hW2 hn2 hc2' hv2
    go_wp2_with ((at_builtin;refine wpList_append_lies _ (by rfl) _ _ 96 (by rfl) w1.heap.size 94 i0 _ 7 72 Tryd.underlying96 hi hz0 hz1 hz2 rfl (by decide) (.slice (some ⟨G,0,none⟩) (gs.length+1) cap) (gs.length+1) ((g.tk (.slice (some ⟨b,off,none⟩) 0 0) ([]:List V) :: gs).reverse.flatMap gpc) (by rfl) (H2.out.1.own.alloc _) ⟨x2.heap.size,0,none⟩ 1 1 [.pointer (some ⟨b,off,none⟩),.int .i64 gbe,.int .i64 be2,.slice ta tn tc,.int .u64 f2.fi,.int .u64 f2.la,.bool f2.em] (by rfl) ?c0 ?c1 ?c2 (by decide) ?c3 ?c4 ?c5 _ rfl ?_))
    case c0=>rfl
    case c1=>exact World.news_of_block (heap_alloc_new x2 _)
    case c2=>simp [Value.oneCell']
    case c3=>unfold maxLen;omega
    case c4=>omega
    case c5=>simp;omega
    intro g5 cap5 w5 hown5 hgrow5 hat5 hlt5
    have hgpc:gpc (Gp.op b off u g.be a)=[.pointer (some ⟨b,off,none⟩),.int .i64 gbe,.int .i64 be2,.slice ta tn tc,.int .u64 f2.fi,.int .u64 f2.la,.bool f2.em]:=by
     unfold gpc Gp.op Gp.be Gp.ag
     simp only
     rw [H2.out.2.2.2.2,HE.out.2.2.2.2.2.2.2.2.2.2.2.2.2.2.1,HE.out.2.2.2.2.2.2.2.2.2.2.2.2.2.1,HE.out.2.2.2.2.2.2.2.2.2.2.2.2.1]
     rfl
    obtain ⟨hS5,hc5⟩:=H2.out.1.push (g:=Gp.op b off u g.be a) (ov':=.slice (some ⟨g5,0,none⟩) (gs.length+1+1) cap5) hZ1 hgrow5 (by rw [hgpc,rev_gpc,List.append_assoc,List.length_cons];exact hown5) H2.out.2.2.1 (laid_parts H2.out.2.2.1.2.2)
    have HL:=Lib.hid (show LWh w1 B wk mb jb (erase root) (wGp (Gp.op b off u g.be a :: g.tk (.slice (some ⟨b,off,none⟩) 0 0) ([]:List V) :: gs)) (.slice (some ⟨g5,0,none⟩) (gs.length+1+1) cap5) w5 from by
     have htk:=resW_take g gs a b off (.slice (some ⟨b,off,none⟩) 0 0) u ([]:List V) HE.out.2.2.2.2.2.2.2.2.2.1
     have hop:=op_le u.kind u.set a
     refine ⟨_,_,opA u.kind u.set a,js,hS5,H2.out.2.1.chg hc5 ?_,fun x hx=>?_,?_,?_,?_,rfl,?_,(H2.out.2.2.2.1).trans hc5 fun x hx e=>?_⟩
     ·have:=HB1.out.2.2.2
      exact ⟨fun e=>this.1 (Option.some.inj e),fun e=>this.2.1 (Option.some.inj e),fun e=>this.2.2 (Option.some.inj e)⟩
     ·rcases List.mem_cons.1 hx with rfl | hx
      ·exact GOk.opn HE.out.2.2.2.2.2.2.2.2.2.2.2.1.1 HE.out.2.2.2.2.2.2.2.2.2.2.2.1.2
      ·rcases List.mem_cons.1 hx with rfl | hx
       ·exact (((HE.out.2.2.1 g (by simp)).take (nv:=.slice (some ⟨b,off,none⟩) 0 0) HE.out.2.2.2.2.2.2.2.2.2.1).1).wid hop
       ·exact (HE.out.2.2.1 x (by simp [hx])).wid hop
     ·rw [htk];exact HE.out.2.2.2.1
     ·rw [htk];exact HE.out.2.2.2.2.1
     ·rw [htk];exact HE.out.2.2.2.2.2.1
     ·have h1:=wGp_take g gs b off g.be a (.slice (some ⟨b,off,none⟩) 0 0) u ([]:List V) HE.out.2.2.2.2.2.2.2.2.2.1
      have h2:=HE.out.2.2.2.2.2.2.1
      have h3:=HE.out.2.2.2.2.2.2.2.1
      omega
     ·have e3:G=x:=Option.some.inj e
      have:=HE.out.2.2.2.2.2.2.2.2.2.2.2.2.2.2.2.1
      omega)
    have HM:=Lib.hid (show wGp (Gp.op b off u g.be a :: g.tk (.slice (some ⟨b,off,none⟩) 0 0) ([]:List V) :: gs)<wGp (g :: gs) by have h1:=wGp_take g gs b off g.be a (.slice (some ⟨b,off,none⟩) 0 0) u ([]:List V) HE.out.2.2.2.2.2.2.2.2.2.1;omega)
    clear hown5 hgrow5 hat5 hgpc hS5 hc5 y2'
    go_wp2_with fail
    go_roundw
    case rel=>exact ⟨_,HL.out⟩
    case measure =>
     rw [HE.out.2.2.2.2.2.2.1]
     exact Nat.lt_of_le_of_lt ((leastOf_spec ⟨_,HL.out⟩).2 _ HL.out) HM.out
   ·have hc2:((1:Int) == (rcap:Int))=false:=by simp;omega
    have hc3:¬ (1:Int)=(rcap:Int):=by omega
    have HX:=Lib.hid (hS.take hZ1 HTL.out)
    have hch1:Chg (fun x=>x=G) wr (wr.setCell ⟨G,gs.length * 7+3,none⟩ (.slice (some ⟨b,off+8,none⟩) us.length (rcap - 1))):=(Chg.refl (fun x=>x=G) wr).setCell (p:=⟨G,gs.length * 7+3,none⟩) (fun _=>rfl) _
    have hne:G≠wk∧G≠mb∧G≠jb:=by have h2:=HR.out.2.2.2.2.2.2;have h3:=HD.out.2.2.2.2.2.1;omega
    have hW1:=hWk.chg hch1 ⟨fun e=>hne.1 e.symm,fun e=>hne.2.1 e.symm,fun e=>hne.2.2 e.symm⟩
    have hn1:NodeB B (wr.setCell ⟨G,gs.length * 7+3,none⟩ (.slice (some ⟨b,off+8,none⟩) us.length (rcap - 1))) b off u:=hnode.chg (hch1.mono fun x _ e=>by have:=HD.out;omega)
    have HOP1:=Lib.hid (opened_at _ hW1 (by omega) B b off gbe u be2 f2 hn1 hGt.2.1 (by have:=(hG g (by simp)).be;omega) hbe2 hf2)
    have HB1:=Lib.hid (And.intro (hch.trans hch1 fun x hx e=>by omega) (And.intro hn1 (And.intro hW1 hne)))
    have hgl1:G<(wr.setCell ⟨G,gs.length * 7+3,none⟩ (.slice (some ⟨b,off+8,none⟩) us.length (rcap - 1))).heap.size:=by have:=hch1.size;omega
    clear hrel hS hWk hG hr1 hr2 hr3 hN hn hch hfr hale hjs hps hrow htail hlu hcu hbR hrcap hnv hGt hch1 hne hW1 hn1 hnode hgbe hbe2 hf2
    go_wp2_with fail
    generalize (wr.setCell ⟨G,gs.length * 7+3,none⟩ (.slice (some ⟨b,off+8,none⟩) us.length (rcap - 1)))=x1 at *
    clear y3' hgf
    go_at_call 34
    refine HOP1.out.mono ?_
    rintro e x2 ⟨⟨ta,tn,tc,hv2,rfl⟩,hW2,hc2'⟩
    have hS2:=HX.out.keep hc2' fun x e=>⟨by have:=HD.out.2.2.1;omega,fun b hb e2=>by have e3:G=b:=Option.some.inj hb;have:=HB1.out.2.2.2;omega⟩
    have hn2:=HB1.out.2.1.chg (hc2'.mono fun x _ e=>by have:=HD.out.2.2.1;omega)
    have H2:=Lib.hid (And.intro hS2 (And.intro hW2 (And.intro hn2 (And.intro (HB1.out.1.trans hc2' fun x _ e=>.inl e) hv2))))
    have zl:w1.heap.size≤x2.heap.size:=H2.out.2.2.2.1.size
    clear hS2 hW2 hn2 hc2' hv2
    go_wp2_with ((at_builtin;refine wpList_append_lies _ (by rfl) _ _ 96 (by rfl) w1.heap.size 94 i0 _ 7 72 Tryd.underlying96 hi hz0 hz1 hz2 rfl (by decide) (.slice (some ⟨G,0,none⟩) (gs.length+1) cap) (gs.length+1) ((g.tk (.slice (some ⟨b,off+8,none⟩) us.length (rcap - 1)) us :: gs).reverse.flatMap gpc) (by rfl) (H2.out.1.own.alloc _) ⟨x2.heap.size,0,none⟩ 1 1 [.pointer (some ⟨b,off,none⟩),.int .i64 gbe,.int .i64 be2,.slice ta tn tc,.int .u64 f2.fi,.int .u64 f2.la,.bool f2.em] (by rfl) ?c0 ?c1 ?c2 (by decide) ?c3 ?c4 ?c5 _ rfl ?_))
    case c0=>rfl
    case c1=>exact World.news_of_block (heap_alloc_new x2 _)
    case c2=>simp [Value.oneCell']
    case c3=>unfold maxLen;omega
    case c4=>omega
    case c5=>simp;omega
    intro g5 cap5 w5 hown5 hgrow5 hat5 hlt5
    have hgpc:gpc (Gp.op b off u g.be a)=[.pointer (some ⟨b,off,none⟩),.int .i64 gbe,.int .i64 be2,.slice ta tn tc,.int .u64 f2.fi,.int .u64 f2.la,.bool f2.em]:=by
     unfold gpc Gp.op Gp.be Gp.ag
     simp only
     rw [H2.out.2.2.2.2,HE.out.2.2.2.2.2.2.2.2.2.2.2.2.2.2.1,HE.out.2.2.2.2.2.2.2.2.2.2.2.2.2.1,HE.out.2.2.2.2.2.2.2.2.2.2.2.2.1]
     rfl
    obtain ⟨hS5,hc5⟩:=H2.out.1.push (g:=Gp.op b off u g.be a) (ov':=.slice (some ⟨g5,0,none⟩) (gs.length+1+1) cap5) hZ1 hgrow5 (by rw [hgpc,rev_gpc,List.append_assoc,List.length_cons];exact hown5) H2.out.2.2.1 (laid_parts H2.out.2.2.1.2.2)
    have HL:=Lib.hid (show LWh w1 B wk mb jb (erase root) (wGp (Gp.op b off u g.be a :: g.tk (.slice (some ⟨b,off+8,none⟩) us.length (rcap - 1)) us :: gs)) (.slice (some ⟨g5,0,none⟩) (gs.length+1+1) cap5) w5 from by
     have htk:=resW_take g gs a b off (.slice (some ⟨b,off+8,none⟩) us.length (rcap - 1)) u us HE.out.2.2.2.2.2.2.2.2.2.1
     have hop:=op_le u.kind u.set a
     refine ⟨_,_,opA u.kind u.set a,js,hS5,H2.out.2.1.chg hc5 ?_,fun x hx=>?_,?_,?_,?_,rfl,?_,(H2.out.2.2.2.1).trans hc5 fun x hx e=>?_⟩
     ·have:=HB1.out.2.2.2
      exact ⟨fun e=>this.1 (Option.some.inj e),fun e=>this.2.1 (Option.some.inj e),fun e=>this.2.2 (Option.some.inj e)⟩
     ·rcases List.mem_cons.1 hx with rfl | hx
      ·exact GOk.opn HE.out.2.2.2.2.2.2.2.2.2.2.2.1.1 HE.out.2.2.2.2.2.2.2.2.2.2.2.1.2
      ·rcases List.mem_cons.1 hx with rfl | hx
       ·exact (((HE.out.2.2.1 g (by simp)).take (nv:=.slice (some ⟨b,off+8,none⟩) us.length (rcap - 1)) HE.out.2.2.2.2.2.2.2.2.2.1).1).wid hop
       ·exact (HE.out.2.2.1 x (by simp [hx])).wid hop
     ·rw [htk];exact HE.out.2.2.2.1
     ·rw [htk];exact HE.out.2.2.2.2.1
     ·rw [htk];exact HE.out.2.2.2.2.2.1
     ·have h1:=wGp_take g gs b off g.be a (.slice (some ⟨b,off+8,none⟩) us.length (rcap - 1)) u us HE.out.2.2.2.2.2.2.2.2.2.1
      have h2:=HE.out.2.2.2.2.2.2.1
      have h3:=HE.out.2.2.2.2.2.2.2.1
      omega
     ·have e3:G=x:=Option.some.inj e
      have:=HE.out.2.2.2.2.2.2.2.2.2.2.2.2.2.2.2.1
      omega)
    have HM:=Lib.hid (show wGp (Gp.op b off u g.be a :: g.tk (.slice (some ⟨b,off+8,none⟩) us.length (rcap - 1)) us :: gs)<wGp (g :: gs) by have h1:=wGp_take g gs b off g.be a (.slice (some ⟨b,off+8,none⟩) us.length (rcap - 1)) u us HE.out.2.2.2.2.2.2.2.2.2.1;omega)
    clear hown5 hgrow5 hat5 hgpc hS5 hc5 y2'
    go_wp2_with fail
    go_roundw
    case rel=>exact ⟨_,HL.out⟩
    case measure =>
     rw [HE.out.2.2.2.2.2.2.1]
     exact Nat.lt_of_le_of_lt ((leastOf_spec ⟨_,HL.out⟩).2 _ HL.out) HM.out
end Go.Proofs.YtbohmcfplgdlpaaDoor
