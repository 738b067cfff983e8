/- What a store into a map's field comes to: plain facts.
   Conditions: those that each theorem states. -/
import Derived.Test.YtbohmcfplgdlpaaDoorMPn
import Derived.Test.YtbohmcfplgdlpaaDoorMBase
import Derived.Deep.DeepCutAuto
import Derived.Deep.RegionHeld3
import Derived.StillTailTactics

/- What place makes of a tree, as plain values, and what it keeps of it in memory.
   Conditions: those that each theorem states. -/
namespace Go.Proofs.YtbohmcfplgdlpaaDoor
open Go.RowKit Go.Shelf
structure PM where
 sets:List (Nat→Nat)
 scs:List (Int×Int)
 ars:List (List Nat)
def pm0:PM:=⟨[zeros],[],[[]]⟩
def cnt4 (k lo hi:Int):Bool:=decide (k=4) && cntS (max 1 lo) hi
def belP (k lo hi:Int) (ar:List Nat) (m:PM):List Nat:=if cnt4 k lo hi then ar ++ [m.scs.length] else ar
def scP (k lo hi:Int) (m:PM):PM:=if cnt4 k lo hi then { m with scs:=m.scs ++ [(max 1 lo,hi)] } else m
def isPos (k:Int) (C:Nat→Nat):Bool:=decide (k=1) && !z4 C
def putP (k:Int) (C:Nat→Nat) (ar:List Nat) (m:PM):PM:=if isPos k C then { m with sets:=m.sets ++ [C],ars:=m.ars ++ [ar] } else m
def overP (m:PM) (bl:List Nat):Bool:=decide (41<m.sets.length∨4<bl.length)
mutual
def mapN:T→List Nat→PM→Option PM
 | .node k C lo hi ps,ar,m =>
  if overP (putP k C ar (scP k lo hi m)) (belP k lo hi ar m) then none else mapsN ps (belP k lo hi ar m) (putP k C ar (scP k lo hi m))
def mapsN:List T→List Nat→PM→Option PM
 | [],_,m=>some m
 | t :: ts,ar,m=>(mapN t ar m).bind (mapsN ts ar)
end
def mapT (t:T):Option PM:=mapN t [] pm0
def TyB (w:World) (x:Nat) (ty:TypeId):Prop:=∃ cs m,w.heap[x]? = some (.cells cs ty m)
theorem TyB.lt {w:World} {x:Nat} {ty:TypeId} (h:TyB w x ty):x<w.heap.size:=by
 obtain ⟨cs,m,h⟩:=h
 exact (Array.getElem?_eq_some_iff.1 h).1
theorem TyB.keep {w w':World} {x:Nat} {ty:TypeId} (h:TyB w x ty) (hw:w'.heap[x]? = w.heap[x]?):TyB w' x ty:=by
 obtain ⟨cs,m,h⟩:=h
 exact ⟨cs,m,hw.trans h⟩
theorem TyB.eq {w:World} {x:Nat} {a b:TypeId} (h:TyB w x a) (k:TyB w x b):a=b:=by
 obtain ⟨cs,m,h⟩:=h
 obtain ⟨cs',m',k⟩:=k
 have:=Option.some.inj (h.symm.trans k)
 simp only [Obj.cells.injEq] at this
 exact this.2.1
theorem own_ty {w:World} {base sz n x:Nat} {e:TypeId} {v:Value} {xs:List Value} (h:w.ownsRow base e sz v n xs) (hx:v.ownBlock=some x):TyB w x e:=by
 rcases h.2 with ⟨e1,_⟩ | ⟨g,cap,cur,rfl,_,hb,_⟩
 ·rw [e1] at hx;cases hx
 ·have:g=x:=Option.some.inj hx
  subst this
  exact ⟨_,_,hb⟩
def ints (l:List Nat):List Value:=l.map fun (i:Nat)=>Value.int .i64 (i:Int)
theorem ints_len (l:List Nat):(ints l).length=l.length:=by simp [ints]
structure IntsR (w:World) (B:Nat) (v:Value) (l:List Nat):Prop where
 own:w.ownsRow B 3 1 v l.length (ints l)
 nil:l=[]→v=.slice none 0 0
theorem IntsR.keep {w w':World} {B:Nat} {v:Value} {l:List Nat} {Q:Nat→Prop} (h:IntsR w B v l) (hc:Chg Q w w') (hQ:∀ x,Q x→B≤x→¬ TyB w x 3):IntsR w' B v l :=
 ⟨own_chg h.own hc fun b hb q=>hQ b q (h.own.lt b hb).1 (own_ty h.own hb),h.nil⟩
theorem IntsR.form {w:World} {B:Nat} {v:Value} {l:List Nat} (h:IntsR w B v l):∃ A c,v=.slice A l.length c:=own_form h.own
theorem IntsR.none (w:World) (B:Nat):IntsR w B (.slice none 0 0) []:=⟨World.ownsRow_nil _ _ _ _,fun _=>rfl⟩
theorem IntsR.below {w w':World} {B:Nat} {v:Value} {l:List Nat} (h:IntsR w B v l) (hb:Below w.heap.size w w'):IntsR w' B v l :=
 h.keep (Chg.of_below (R:=fun _=>False) hb) fun _ q=>q.elim
theorem IntsR.low {w:World} {B B':Nat} {v:Value} {l:List Nat} (h:IntsR w B v l) (hb:B'≤B):IntsR w B' v l:=⟨own_low h.own hb,h.nil⟩
def cls4 (C:Nat→Nat):List Value:=[.int .u64 (C 0:Nat),.int .u64 (C 1:Nat),.int .u64 (C 2:Nat),.int .u64 (C 3:Nat)]
def sc2 (s:Int×Int):List Value:=[.int .i64 s.1,.int .i64 s.2]
def mapTy (ty:TypeId):Bool:=ty == 33 || ty == 24 || ty == 154 || ty == 34 || ty == 3
structure MapL (w:World) (B:Nat) (m:PM) (sv cv av:Value):Prop where
 sets:w.ownsRow B 24 4 sv m.sets.length (m.sets.flatMap cls4)
 scs:w.ownsRow B 154 2 cv m.scs.length (m.scs.flatMap sc2)
 ars:∃ vs,w.ownsRow B 34 1 av m.ars.length vs∧∀ (i:Nat) (l:List Nat),m.ars[i]? = some l→∃ v,vs[i]? = some v∧IntsR w B v l
structure MapS (w:World) (B mb:Nat) (tc:List Value) (m:PM) (sv cv av:Value):Prop where
 blk:w.heap[mb]? = some (.cells (tc ++ [sv,cv,av]).toArray 33 (0,0))
 len:tc.length=8
 low:B≤mb
 lists:MapL w B m sv cv av
theorem MapL.keep {w w':World} {B:Nat} {m:PM} {sv cv av:Value} {Q:Nat→Prop} (h:MapL w B m sv cv av) (hc:Chg Q w w') (hQ:∀ x ty,Q x→B≤x→TyB w x ty→mapTy ty=false):MapL w' B m sv cv av:=by
 refine ⟨own_chg h.sets hc fun b hb q=>?_,own_chg h.scs hc fun b hb q=>?_,?_⟩
 ·have:=hQ b _ q (h.sets.lt b hb).1 (own_ty h.sets hb);revert this;decide
 ·have:=hQ b _ q (h.scs.lt b hb).1 (own_ty h.scs hb);revert this;decide
 ·obtain ⟨vs,h1,h2⟩:=h.ars
  refine ⟨vs,own_chg h1 hc fun b hb q=>?_,fun i l hl=>?_⟩
  ·have:=hQ b _ q (h1.lt b hb).1 (own_ty h1 hb);revert this;decide
  ·obtain ⟨v,hv,hr⟩:=h2 i l hl
   exact ⟨v,hv,hr.keep hc fun x q hx hty=>by have:=hQ x _ q hx hty;revert this;decide⟩
theorem MapS.ty {w:World} {B mb:Nat} {tc:List Value} {m:PM} {sv cv av:Value} (h:MapS w B mb tc m sv cv av):TyB w mb 33:=⟨_,_,h.blk⟩
theorem MapS.keep {w w':World} {B mb:Nat} {tc:List Value} {m:PM} {sv cv av:Value} {Q:Nat→Prop} (h:MapS w B mb tc m sv cv av) (hc:Chg Q w w') (hQ:∀ x ty,Q x→B≤x→TyB w x ty→mapTy ty=false):MapS w' B mb tc m sv cv av :=
 ⟨(hc.block mb h.ty.lt fun q=>by have:=hQ mb _ q h.low h.ty;revert this;decide).trans h.blk,h.len,h.low,h.lists.keep hc hQ⟩
theorem MapS.below {w w':World} {B mb:Nat} {tc:List Value} {m:PM} {sv cv av:Value} (h:MapS w B mb tc m sv cv av) (hb:Below w.heap.size w w'):MapS w' B mb tc m sv cv av :=
 h.keep (Chg.of_below (R:=fun _=>False) hb) fun _ _ q=>q.elim
theorem MapS.cell {w:World} {B mb:Nat} {tc:List Value} {m:PM} {sv cv av:Value} (h:MapS w B mb tc m sv cv av):w.cell? ⟨mb,8,none⟩=some sv∧w.cell? ⟨mb,9,none⟩=some cv∧w.cell? ⟨mb,10,none⟩=some av:=by
 have p:=(row_cells h.blk).1
 have hl:=h.len
 refine ⟨(p 8).trans ?_,(p 9).trans ?_,(p 10).trans ?_⟩
 ·simp [hl]
 ·simp [hl]
 ·simp [hl]
theorem MapS.fz {w:World} {B mb:Nat} {tc:List Value} {m:PM} {sv cv av:Value} (h:MapS w B mb tc m sv cv av) (j:Nat):w.frozen? ⟨mb,j,none⟩=false:=(row_cells h.blk).2 j
structure Rw where
 nv:Value
 ps:List V
 av:Value
 al:List Nat
def rwc (r:Rw):List Value:=[r.nv,r.av]
theorem rwc_len (l:List Rw):(l.flatMap rwc).length=l.length * 2:=by
 induction l with
 | nil=>rfl
 | cons f l ih=>rw [List.flatMap_cons,List.length_append,ih,List.length_cons];show 2+_=_;omega
def stkTy (ty:TypeId):Bool:=ty == 121 || ty == 27 || ty == 3
structure StkP (w:World) (B rb:Nat) (rs:List Rw) (ov:Value):Prop where
 own:w.ownsRow B 121 2 ov rs.length (rs.reverse.flatMap rwc)
 node:TyB w rb 27
 fr:∀ r∈rs,Laid w (fun x=>x<B∨x=rb) (.node 0 zeros 0 0 r.nv r.ps)∧IntsR w B r.av r.al
theorem laid_rb {w w':World} {B rb:Nat} {Q:Nat→Prop} {t:V} (h:Laid w (fun x=>x<B∨x=rb) t) (hn:TyB w rb 27) (hc:Chg Q w w') (hQ:∀ x,Q x→B≤x∧¬ TyB w x 27):Laid w' (fun x=>x<B∨x=rb) t :=
 h.chg hc fun b _ hb q=>by
  have:=hQ b q
  rcases hb with hb | rfl
  ·omega
  ·exact this.2 hn
theorem StkP.keep {w w':World} {B rb:Nat} {rs:List Rw} {ov:Value} {Q:Nat→Prop} (h:StkP w B rb rs ov) (hc:Chg Q w w') (hQ:∀ x,Q x→B≤x∧∀ ty,TyB w x ty→stkTy ty=false):StkP w' B rb rs ov:=by
 refine ⟨own_chg h.own hc fun b hb q=>?_,h.node.keep (hc.block rb h.node.lt fun q=>?_),fun r hr=>⟨laid_rb (h.fr r hr).1 h.node hc fun x q=>⟨(hQ x q).1,fun hty=>?_⟩,(h.fr r hr).2.keep hc fun x q _ hty=>?_⟩⟩
 ·have:=(hQ b q).2 _ (own_ty h.own hb);revert this;decide
 ·have:=(hQ rb q).2 _ h.node;revert this;decide
 ·have:=(hQ x q).2 _ hty;revert this;decide
 ·have:=(hQ x q).2 _ hty;revert this;decide
theorem StkP.below {w w':World} {B rb:Nat} {rs:List Rw} {ov:Value} (h:StkP w B rb rs ov) (hb:Below w.heap.size w w'):StkP w' B rb rs ov :=
 h.keep (Chg.of_below (R:=fun _=>False) hb) fun _ q=>q.elim
theorem rev_rwc (r:Rw) (rs:List Rw):(r :: rs).reverse.flatMap rwc=rs.reverse.flatMap rwc ++ rwc r:=by simp
theorem StkP.take {w:World} {B rb g cap:Nat} {r:Rw} {rs:List Rw} {us:List V} {tv:Value} (h:StkP w B rb (r :: rs) (.slice (some ⟨g,0,none⟩) (rs.length+1) cap))
  (ht:Laid w (fun x=>x<B∨x=rb) (.node 0 zeros 0 0 tv us)):StkP (w.setCell ⟨g,rs.length * 2,none⟩ tv) B rb ({ r with nv:=tv,ps:=us } :: rs) (.slice (some ⟨g,0,none⟩) (rs.length+1) cap):=by
 have hgt:=own_ty h.own (x:=g) rfl
 have hgb:=(h.own.lt g rfl).1
 have hch:Chg (fun x=>x=g) w (w.setCell ⟨g,rs.length * 2,none⟩ tv):=(Chg.refl (fun x=>x=g) w).setCell (p:=⟨g,rs.length * 2,none⟩) (fun _=>rfl) _
 have hQ:∀ x,x=g→B≤x∧¬ TyB w x 27:=fun x e=>⟨by omega,fun hty=>by subst e;have:=hty.eq hgt;revert this;decide⟩
 have hI:∀ x,x=g→B≤x→¬ TyB w x 3:=fun x e _ hty=>by subst e;have:=hty.eq hgt;revert this;decide
 refine ⟨?_,h.node.keep (hch.block rb h.node.lt fun e=>(hQ rb e).2 h.node),fun q hq=>?_⟩
 ·have h1:=(h.own.stored (rs.length * 2) tv).1
  have e:(((r :: rs).reverse.flatMap rwc)).set (rs.length * 2) tv=({ r with nv:=tv,ps:=us } :: rs).reverse.flatMap rwc:=by
   rw [rev_rwc,rev_rwc,List.set_append_right _ _ (by rw [rwc_len,List.length_reverse];omega),rwc_len,List.length_reverse,Nat.sub_self]
   rfl
  rw [e] at h1
  exact h1
 ·rcases List.mem_cons.1 hq with rfl | hq
  ·exact ⟨laid_rb ht h.node hch hQ,(h.fr r (by simp)).2.keep hch hI⟩
  ·exact ⟨laid_rb (h.fr q (by simp [hq])).1 h.node hch hQ,(h.fr q (by simp [hq])).2.keep hch hI⟩
theorem StkP.pop {w:World} {B rb g cap:Nat} {r:Rw} {rs:List Rw} (h:StkP w B rb (r :: rs) (.slice (some ⟨g,0,none⟩) (rs.length+1) cap)):StkP w B rb rs (.slice (some ⟨g,0,none⟩) rs.length cap):=by
 refine ⟨?_,h.node,fun q hq=>h.fr q (by simp [hq])⟩
 have:=h.own
 rw [rev_rwc] at this
 exact ownsRow_pop (by rw [rwc_len,List.length_reverse]) this
theorem StkP.push {w w5:World} {B rb:Nat} {r:Rw} {rs:List Rw} {ov ov':Value} {ob:Obj} (h:StkP w B rb rs ov) (hg:(w.alloc ob).grownBy w5 ov.ownBlock) (hown:w5.ownsRow B 121 2 ov' (rs.length+1) (rs.reverse.flatMap rwc ++ rwc r))
  (hr:Laid w (fun x=>x<B∨x=rb) (.node 0 zeros 0 0 r.nv r.ps)∧IntsR w B r.av r.al):StkP w5 B rb (r :: rs) ov'∧Chg (fun x=>B≤x∧TyB w x 121) w w5:=by
 have hch:Chg (fun x=>ov.ownBlock=some x) w w5:=((Chg.refl (fun x=>ov.ownBlock=some x) w).alloc ob).grown hg fun k hk _=>hk
 have hQ:∀ x,ov.ownBlock=some x→B≤x∧¬ TyB w x 27:=fun x e=>⟨(h.own.lt x e).1,fun hty=>by have:=hty.eq (own_ty h.own e);revert this;decide⟩
 have hI:∀ x,ov.ownBlock=some x→B≤x→¬ TyB w x 3:=fun x e _ hty=>by have:=hty.eq (own_ty h.own e);revert this;decide
 refine ⟨⟨by rw [rev_rwc];exact hown,h.node.keep (hch.block rb h.node.lt fun e=>(hQ rb e).2 h.node),fun q hq=>?_⟩,hch.mono fun x _ e=>⟨(h.own.lt x e).1,own_ty h.own e⟩⟩
 rcases List.mem_cons.1 hq with rfl | hq
 ·exact ⟨laid_rb hr.1 h.node hch hQ,hr.2.keep hch hI⟩
 ·exact ⟨laid_rb (h.fr q hq).1 h.node hch hQ,(h.fr q hq).2.keep hch hI⟩
def todoP:List Rw→PM→Option PM
 | [],m=>some m
 | r :: rs,m=>(mapsN (erases r.ps) r.al m).bind (todoP rs)
def wRw:List Rw→Nat
 | []=>0
 | r :: rs=>2 * szsT (erases r.ps)+1+wRw rs
theorem wRw_len:∀ rs:List Rw,rs.length≤wRw rs
 | []=>by simp [wRw]
 | r :: rs=>by have:=wRw_len rs;rw [wRw,List.length_cons];omega
theorem todoP_pop (r:Rw) (rs:List Rw) (m:PM) (h:r.ps=[]):todoP (r :: rs) m=todoP rs m:=by rw [todoP,h,erases,mapsN];rfl
theorem todoP_take (r:Rw) (rs:List Rw) (m:PM) (u:V) (us:List V) (h:r.ps=u :: us) (tv:Value) (b:Value)
  (ho:overP (putP u.kind u.set r.al (scP u.kind u.lo u.hi m)) (belP u.kind u.lo u.hi r.al m)=false) :
  todoP (r :: rs) m=todoP (⟨u.v,u.ps,b,belP u.kind u.lo u.hi r.al m⟩ :: { r with nv:=tv,ps:=us } :: rs) (putP u.kind u.set r.al (scP u.kind u.lo u.hi m)):=by
 cases u with
 | node k C lo hi v ps =>
  simp only [V.kind,V.set,V.lo,V.hi,V.ps,V.v] at *
  rw [todoP,h,erases,erase,mapsN,mapN,ho,todoP]
  simp only [Bool.false_eq_true,if_false]
  rw [Option.bind_assoc]
  rfl
theorem todoP_over (r:Rw) (rs:List Rw) (m:PM) (u:V) (us:List V) (h:r.ps=u :: us)
  (ho:overP (putP u.kind u.set r.al (scP u.kind u.lo u.hi m)) (belP u.kind u.lo u.hi r.al m)=true):todoP (r :: rs) m=none:=by
 cases u with
 | node k C lo hi v ps =>
  simp only [V.kind,V.set,V.lo,V.hi] at *
  rw [todoP,h,erases,erase,mapsN,mapN,ho]
  rfl
end Go.Proofs.YtbohmcfplgdlpaaDoor

/- slices.Clone of a list of numbers, a node's scope wherever it lies, within: contracts.
   Conditions: those that each theorem states. -/
namespace Go.Proofs.YtbohmcfplgdlpaaDoor
open Go.RowKit Go.Shelf
theorem infoI3:(Tryd.prog.info? 3).map (fun i=>(i.zero,i.size,i.bytes))=some (some (.int .i64 0),1,8):=by kernel_rfl
theorem infoS154:(Tryd.prog.info? 154).map (fun i=>(i.zero,i.size,i.bytes))=some (some (.agg #[.int .i64 0,.int .i64 0]),2,16):=by kernel_rfl
set_option maxHeartbeats 2000000 in
set_option maxRecDepth 100000 in
theorem cloneI_any (w:World) (B:Nat) (v:Value) (l:List Nat) (h:IntsR w B v l) (hl:l.length≤1000) :
  Calls Tryd.prog 68 #[v] w fun e w'=>∃ v',e=.returned v'∧IntsR w' w.heap.size v' l∧Below w.heap.size w w':=by
 cases l with
 | nil =>
  obtain rfl:=h.nil rfl
  exact (cloneI_nil w).mono fun e w' ⟨h1,h2⟩=>⟨_,h1,IntsR.none _ _,h2▸Below.refl _ _⟩
 | cons a l =>
  obtain ⟨i0,hi,hz0,hz1,hz2⟩:=info_parts infoI3
  obtain ⟨q,hq⟩ : ∃ q,q=l.length:=⟨_,rfl⟩
  have hown:=h.own
  rw [List.length_cons,← hq] at hown
  obtain ⟨g,cp,rfl⟩:=ownsRow_succ hown
  have hnl:∀ W,(binOp .eql 34 (.slice (some ⟨g,0,none⟩) (q+1) cp) (.slice none 0 0)).run Tryd.prog W=.ok (.bool false) W:=fun W=>by kernel_rfl
  have hgl:=(hown.lt g rfl).2
  obtain ⟨xs,hxs⟩ : ∃ xs,xs=ints (a :: l):=⟨_,rfl⟩
  have hxl:xs.length=q+1:=by rw [hxs,ints_len,List.length_cons,hq]
  have hone:∀ u∈xs,u.oneCell'=true:=by
   intro u hu
   rw [hxs] at hu
   obtain ⟨x,_,rfl⟩:=List.mem_map.1 hu
   rfl
  rw [← hxs] at hown
  obtain ⟨w2,hw2⟩ : ∃ w2,w.alloc (.cells #[] 3)=w2:=⟨_,rfl⟩
  have hb2:Below w.heap.size w w2:=hw2▸(Below.refl _ w).alloc (Nat.le_refl _) _
  have ho2:w2.ownsRow w.heap.size 3 1 (.slice (some ⟨w.heap.size,0,none⟩) 0 0) 0 []:=by
   rw [← hw2]
   exact World.ownsRow_lit (e:=3) (size:=1) (base:=w.heap.size) w #[] 0 (Nat.le_refl _) (Nat.zero_le _) rfl
  have hnews:∀ j u,xs[j]? = some u→w2.cell? ((⟨g,0,none⟩ : Addr).add j)=some u:=by
   intro j u hu
   have hadd:(⟨g,0,none⟩ : Addr).add j=⟨g,j,none⟩:=by unfold Addr.add;split <;> simp_all
   have hjl:j<xs.length:=(List.getElem?_eq_some_iff.1 hu).1
   rw [hadd,hb2.cell (p:=⟨g,j,none⟩) hgl,hown.cellAt j (by omega)]
   exact hu
  have HH:=Lib.hid (And.intro hb2 (And.intro ho2 (And.intro hnews (And.intro hone (And.intro hxl hxs)))))
  have hq1:q≤1000:=by rw [hq];rw [List.length_cons] at hl;omega
  have HQ:=Lib.hid hq
  clear hb2 ho2 hnews hone hxs hxl h hown hl hq hgl
  go_enter Tryd.func68,Tryd.ntmps68
  go_wp2_with ((at_builtin;refine wpList_append_lies _ (by rfl) _ _ 34 (by rfl) w.heap.size 3 i0 _ 1 8 Tryd.underlying34 hi hz0 hz1 hz2 rfl (by decide) (.slice (some ⟨w.heap.size,0,none⟩) 0 0) 0 [] (by rfl) ?c6 ⟨g,0,none⟩ (q+1) cp xs (by rfl) ?c0 ?c1 HH.out.2.2.2.1 (by omega) ?c3 ?c4 ?c5 _ rfl ?_))
  case c0=>rw [HH.out.2.2.2.2.1];omega
  case c1=>exact HH.out.2.2.1
  case c3=>unfold maxLen;omega
  case c4=>omega
  case c5=>exact HH.out.1.size
  case c6=>exact HH.out.2.1
  intro g5 cap5 w5 hown5 hgrow5 hat5 hlt5
  go_wp2_with fail
  go_ret
  refine ⟨_,rfl,⟨?_,fun e=>by cases e⟩,?_⟩
  ·rw [← HH.out.2.2.2.2.2,List.length_cons,← HQ.out]
   exact hown5
  ·exact ((Chg.of_below (R:=fun _=>False) HH.out.1).grown hgrow5 (fun k hk hl=>by
    have:w.heap.size=k:=Option.some.inj hk
    omega)).below (Nat.le_refl _) fun _ _=>id
set_option maxHeartbeats 2000000 in
set_option maxRecDepth 100000 in
theorem scopeOf_at (b o:Nat) (lo hi:Int) (w:World) (h6:w.cell? ⟨b,o+6,none⟩=some (.int .i64 lo)) (h7:w.cell? ⟨b,o+7,none⟩=some (.int .i64 hi)) (hlt:b<w.heap.size) :
  Calls Tryd.prog 66 #[.pointer (some ⟨b,o,none⟩)] w fun e w'=>e=.returned (.agg #[.int .i64 (max 1 lo),.int .i64 hi])∧Below w.heap.size w w':=by
 obtain ⟨w2,hw2⟩ : ∃ w2,w.alloc (.cells #[.int .i64 0,.int .i64 0] 154)=w2:=⟨_,rfl⟩
 have hb2:Below w.heap.size w w2:=hw2▸(Below.refl _ w).alloc (Nat.le_refl _) _
 have e1:ZB2 w.heap.size w2:=by rw [← hw2];exact heap_alloc_new w _
 rw [← hb2.cell (p:=⟨b,o+6,none⟩) hlt] at h6
 rw [← hb2.cell (p:=⟨b,o+7,none⟩) hlt] at h7
 have HB:=Lib.hid (And.intro hb2 e1)
 clear hb2 e1 hlt
 go_enter Tryd.func66,Tryd.ntmps66
 go_upto_region 1 with fail
 clear hw2
 go_still_tail 10,(by kernel_rfl)
 change wpList _ _ _ _ _ w2.drew
 have HX:=Lib.hid (show ZB2 w.heap.size w2.drew∧Below w.heap.size w w2.drew from ⟨HB.out.2,HB.out.1.drew⟩)
 replace h6:w2.drew.cell? ⟨b,o+6,none⟩=some (.int .i64 lo):=h6
 replace h7:w2.drew.cell? ⟨b,o+7,none⟩=some (.int .i64 hi):=h7
 generalize w2.drew=w3 at *
 obtain ⟨⟨s0,s1⟩,f0,f1,hl⟩:=HX.out.1.cells
 go_wp2_with fail
 case inl =>
  rw [show (max 1 lo:Int)=lo by omega]
  have hf:=set2_heap HX.out.1 (.int .i64 lo) (.int .i64 hi)
  have hch:=set2_chg w3 w.heap.size (.int .i64 lo) (.int .i64 hi)
  generalize ((w3.setCell ⟨w.heap.size,0,none⟩ (.int .i64 lo)).setCell ⟨w.heap.size,1,none⟩ (.int .i64 hi))=w4 at *
  obtain ⟨r0,r1⟩:=cells2 hf
  refine bodyPost_ret (v:=.agg #[.int .i64 lo,.int .i64 hi]) (by simp [results,Tryd.results66,go_sem,r0,r1]) rfl ⟨rfl,?_⟩
  exact HX.out.2.trans (hch.below (by have:=HX.out.2.size;omega) fun k hk e=>by omega)
 case inr =>
  rw [show (max 1 lo:Int)=1 by omega]
  clear h6 h7 s0 s1 f0 f1
  have hf:=set2_heap HX.out.1 (.int .i64 1) (.int .i64 hi)
  have hch:=set2_chg w3 w.heap.size (.int .i64 1) (.int .i64 hi)
  generalize ((w3.setCell ⟨w.heap.size,0,none⟩ (.int .i64 1)).setCell ⟨w.heap.size,1,none⟩ (.int .i64 hi))=w4 at *
  obtain ⟨r0,r1⟩:=cells2 hf
  refine bodyPost_ret (v:=.agg #[.int .i64 1,.int .i64 hi]) (by simp [results,Tryd.results66,go_sem,r0,r1]) rfl ⟨rfl,?_⟩
  exact HX.out.2.trans (hch.below (by have:=HX.out.2.size;omega) fun k hk e=>by omega)
end Go.Proofs.YtbohmcfplgdlpaaDoor

/- What a store into a map's field comes to: plain facts.
   Conditions: those that each theorem states. -/
namespace Go.Proofs.YtbohmcfplgdlpaaDoor
open Go.RowKit Go.Shelf
variable {w w3:World} {B mb:Nat} {tc:List Value} {m:PM} {sv cv av u:Value}
theorem MapS.put8 (h:MapS w B mb tc m sv cv av) (hc:Chg (fun x=>sv.ownBlock=some x) w w3) {C:Nat→Nat} (ho:w3.ownsRow B 24 4 u (m.sets.length+1) (m.sets.flatMap cls4 ++ cls4 C)) :
  MapS (w3.setCell ⟨mb,8,none⟩ u) B mb tc { m with sets:=m.sets ++ [C] } u cv av∧Chg (fun x=>B≤x∧(TyB w x 33∨TyB w x 24)) w (w3.setCell ⟨mb,8,none⟩ u):=by
 have hcm:Chg (fun x=>x=mb∨sv.ownBlock=some x) w (w3.setCell ⟨mb,8,none⟩ u):=(hc.mono fun x _ e=>.inr e).setCell (p:=⟨mb,8,none⟩) (fun _=>.inl rfl) u
 have hb3:w3.heap[mb]? = some (.cells (tc ++ [sv,cv,av]).toArray 33 (0,0)):=(hc.block mb h.ty.lt fun e=>by have:=h.ty.eq (own_ty h.lists.sets e);revert this;decide).trans h.blk
 have hs:Chg (fun x=>x=mb) w3 (w3.setCell ⟨mb,8,none⟩ u):=(Chg.refl (fun x=>x=mb) w3).setCell (p:=⟨mb,8,none⟩) (fun _=>rfl) u
 refine ⟨⟨?_,h.len,h.low,⟨?_,?_,?_⟩⟩,hcm.mono fun x _ e=>?_⟩
 ·rw [heap_setCell_same w3 mb 8 _ _ u hb3]
  congr 2
  have hl:=h.len
  simp [List.set_append_right,hl]
 ·have:=own_chg ho hs fun x hx e=>by
   subst e
   have:=(own_ty ho hx).eq ⟨_,_,hb3⟩
   revert this;decide
  simpa [List.flatMap_append] using this
 ·exact own_chg h.lists.scs hcm fun x hx e=>by
   rcases e with rfl | e
   ·have:=(own_ty h.lists.scs hx).eq h.ty;revert this;decide
   ·have:=(own_ty h.lists.scs hx).eq (own_ty h.lists.sets e);revert this;decide
 ·obtain ⟨vs,h1,h2⟩:=h.lists.ars
  refine ⟨vs,own_chg h1 hcm fun x hx e=>?_,fun i l hl=>?_⟩
  ·rcases e with rfl | e
   ·have:=(own_ty h1 hx).eq h.ty;revert this;decide
   ·have:=(own_ty h1 hx).eq (own_ty h.lists.sets e);revert this;decide
  ·obtain ⟨v,hv,hr⟩:=h2 i l hl
   refine ⟨v,hv,hr.keep hcm fun x e _ hty=>?_⟩
   rcases e with rfl | e
   ·have:=hty.eq h.ty;revert this;decide
   ·have:=hty.eq (own_ty h.lists.sets e);revert this;decide
 ·rcases e with rfl | e
  ·exact ⟨h.low,.inl h.ty⟩
  ·exact ⟨(h.lists.sets.lt x e).1,.inr (own_ty h.lists.sets e)⟩
theorem MapS.put9 (h:MapS w B mb tc m sv cv av) (hc:Chg (fun x=>cv.ownBlock=some x) w w3) {s:Int×Int} (ho:w3.ownsRow B 154 2 u (m.scs.length+1) (m.scs.flatMap sc2 ++ sc2 s)) :
  MapS (w3.setCell ⟨mb,9,none⟩ u) B mb tc { m with scs:=m.scs ++ [s] } sv u av∧Chg (fun x=>B≤x∧(TyB w x 33∨TyB w x 154)) w (w3.setCell ⟨mb,9,none⟩ u):=by
 have hcm:Chg (fun x=>x=mb∨cv.ownBlock=some x) w (w3.setCell ⟨mb,9,none⟩ u):=(hc.mono fun x _ e=>.inr e).setCell (p:=⟨mb,9,none⟩) (fun _=>.inl rfl) u
 have hb3:w3.heap[mb]? = some (.cells (tc ++ [sv,cv,av]).toArray 33 (0,0)):=(hc.block mb h.ty.lt fun e=>by have:=h.ty.eq (own_ty h.lists.scs e);revert this;decide).trans h.blk
 have hs:Chg (fun x=>x=mb) w3 (w3.setCell ⟨mb,9,none⟩ u):=(Chg.refl (fun x=>x=mb) w3).setCell (p:=⟨mb,9,none⟩) (fun _=>rfl) u
 refine ⟨⟨?_,h.len,h.low,⟨?_,?_,?_⟩⟩,hcm.mono fun x _ e=>?_⟩
 ·rw [heap_setCell_same w3 mb 9 _ _ u hb3]
  congr 2
  have hl:=h.len
  simp [List.set_append_right,hl]
 ·exact own_chg h.lists.sets hcm fun x hx e=>by
   rcases e with rfl | e
   ·have:=(own_ty h.lists.sets hx).eq h.ty;revert this;decide
   ·have:=(own_ty h.lists.sets hx).eq (own_ty h.lists.scs e);revert this;decide
 ·have:=own_chg ho hs fun x hx e=>by
   subst e
   have:=(own_ty ho hx).eq ⟨_,_,hb3⟩
   revert this;decide
  simpa [List.flatMap_append] using this
 ·obtain ⟨vs,h1,h2⟩:=h.lists.ars
  refine ⟨vs,own_chg h1 hcm fun x hx e=>?_,fun i l hl=>?_⟩
  ·rcases e with rfl | e
   ·have:=(own_ty h1 hx).eq h.ty;revert this;decide
   ·have:=(own_ty h1 hx).eq (own_ty h.lists.scs e);revert this;decide
  ·obtain ⟨v,hv,hr⟩:=h2 i l hl
   refine ⟨v,hv,hr.keep hcm fun x e _ hty=>?_⟩
   rcases e with rfl | e
   ·have:=hty.eq h.ty;revert this;decide
   ·have:=hty.eq (own_ty h.lists.scs e);revert this;decide
 ·rcases e with rfl | e
  ·exact ⟨h.low,.inl h.ty⟩
  ·exact ⟨(h.lists.scs.lt x e).1,.inr (own_ty h.lists.scs e)⟩
theorem MapS.put10 (h:MapS w B mb tc m sv cv av) {vs:List Value} (h1:w.ownsRow B 34 1 av m.ars.length vs) (h2:∀ (i:Nat) (l:List Nat),m.ars[i]? = some l→∃ v,vs[i]? = some v∧IntsR w B v l)
  (hc:Chg (fun x=>av.ownBlock=some x) w w3) {l:List Nat} {v:Value} (hv:IntsR w B v l) (ho:w3.ownsRow B 34 1 u (m.ars.length+1) (vs ++ [v])) :
  MapS (w3.setCell ⟨mb,10,none⟩ u) B mb tc { m with ars:=m.ars ++ [l] } sv cv u∧Chg (fun x=>B≤x∧(TyB w x 33∨TyB w x 34)) w (w3.setCell ⟨mb,10,none⟩ u):=by
 have hcm:Chg (fun x=>x=mb∨av.ownBlock=some x) w (w3.setCell ⟨mb,10,none⟩ u):=(hc.mono fun x _ e=>.inr e).setCell (p:=⟨mb,10,none⟩) (fun _=>.inl rfl) u
 have hb3:w3.heap[mb]? = some (.cells (tc ++ [sv,cv,av]).toArray 33 (0,0)):=(hc.block mb h.ty.lt fun e=>by have:=h.ty.eq (own_ty h1 e);revert this;decide).trans h.blk
 have hs:Chg (fun x=>x=mb) w3 (w3.setCell ⟨mb,10,none⟩ u):=(Chg.refl (fun x=>x=mb) w3).setCell (p:=⟨mb,10,none⟩) (fun _=>rfl) u
 have hI:∀ x,(x=mb∨av.ownBlock=some x)→B≤x→¬ TyB w x 3:=fun x e _ hty=>by
  rcases e with rfl | e
  ·have:=hty.eq h.ty;revert this;decide
  ·have:=hty.eq (own_ty h1 e);revert this;decide
 have hvl:vs.length=m.ars.length:=by have:=h1.1;omega
 refine ⟨⟨?_,h.len,h.low,⟨?_,?_,vs ++ [v],?_,fun i l' hl=>?_⟩⟩,hcm.mono fun x _ e=>?_⟩
 ·rw [heap_setCell_same w3 mb 10 _ _ u hb3]
  congr 2
  have hl:=h.len
  simp [List.set_append_right,hl]
 ·exact own_chg h.lists.sets hcm fun x hx e=>by
   rcases e with rfl | e
   ·have:=(own_ty h.lists.sets hx).eq h.ty;revert this;decide
   ·have:=(own_ty h.lists.sets hx).eq (own_ty h1 e);revert this;decide
 ·exact own_chg h.lists.scs hcm fun x hx e=>by
   rcases e with rfl | e
   ·have:=(own_ty h.lists.scs hx).eq h.ty;revert this;decide
   ·have:=(own_ty h.lists.scs hx).eq (own_ty h1 e);revert this;decide
 ·have:=own_chg ho hs fun x hx e=>by
   subst e
   have:=(own_ty ho hx).eq ⟨_,_,hb3⟩
   revert this;decide
  simpa using this
 ·rcases Nat.lt_or_ge i m.ars.length with hi | hi
  ·rw [List.getElem?_append_left hi] at hl
   obtain ⟨v',hv',hr⟩:=h2 i l' hl
   exact ⟨v',by rw [List.getElem?_append_left (by omega)];exact hv',hr.keep hcm hI⟩
  ·rw [List.getElem?_append_right hi] at hl
   have hi0:i=m.ars.length:=by
    have:=(List.getElem?_eq_some_iff.1 hl).1
    simp at this
    omega
   subst hi0
   rw [Nat.sub_self] at hl
   obtain rfl:l=l':=Option.some.inj hl
   exact ⟨v,by rw [List.getElem?_append_right (by omega),hvl,Nat.sub_self];rfl,hv.keep hcm hI⟩
 ·rcases e with rfl | e
  ·exact ⟨h.low,.inl h.ty⟩
  ·exact ⟨(h1.lt x e).1,.inr (own_ty h1 e)⟩
end Go.Proofs.YtbohmcfplgdlpaaDoor
