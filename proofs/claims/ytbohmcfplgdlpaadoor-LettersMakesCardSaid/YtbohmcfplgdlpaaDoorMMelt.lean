/- When a tree is void, when it is nullable: plain facts; the calls that tell it of a node, of what they told of its parts: contracts.
   Conditions: the node lies in memory, and is formed. -/
import Derived.Test.YtbohmcfplgdlpaaDoorMSameS
import Derived.Deep.QuietTactic
import Derived.BigQuiet
import Derived.Test.YtbohmcfplgdlpaaDoorMBase

/- Which parts melt into a node, and what is gone through of a node's parts: plain facts; the call that tells it: a contract.
   Conditions: both nodes lie in memory. -/
namespace Go.Proofs.YtbohmcfplgdlpaaDoor
open Go.RowKit
def meltK (k' lo hi k:Int):Bool:=if k'=2∨k'=3 then decide (k'=k) else if k'=4 then decide (lo=1∧hi=1) else false
mutual
def flatV (k:Int):V→List V
 | .node k' C lo hi v ps=>if meltK k' lo hi k then flatsV k ps else [.node k' C lo hi v ps]
def flatsV (k:Int):List V→List V
 | []=>[]
 | p :: ps=>flatV k p ++ flatsV k ps
end
theorem flat_yes {k:Int} {p:V} (h:meltK p.kind p.lo p.hi k=true):flatV k p=flatsV k p.ps:=by
 cases p with
 | node k' C lo hi v ps=>rw [flatV,if_pos (show meltK k' lo hi k=true from h)];rfl
theorem flat_no {k:Int} {p:V} (h:meltK p.kind p.lo p.hi k=false):flatV k p=[p]:=by
 cases p with
 | node k' C lo hi v ps=>rw [flatV,if_neg (by rw [show meltK k' lo hi k=false from h];decide)]
def todoF (k:Int):List (Value×List V)→List V
 | []=>[]
 | r :: st=>flatsV k r.2 ++ todoF k st
def wF:List (Value×List V)→Nat
 | []=>0
 | r :: st=>3 * szsT (erases r.2)+1+wF st
theorem wF_len:∀ st:List (Value×List V),st.length≤wF st
 | []=>by simp
 | r :: st=>by have:=wF_len st;rw [wF,List.length_cons];omega
theorem todoF_nil (k:Int) (v:Value) (st:List (Value×List V)):todoF k ((v,[]) :: st)=todoF k st:=by
 rw [todoF,flatsV];rfl
theorem todoF_yes {k:Int} {v v':Value} {u:V} {us:List V} {st:List (Value×List V)} (h:meltK u.kind u.lo u.hi k=true):todoF k ((v,u :: us) :: st)=todoF k ((u.v,u.ps) :: (v',us) :: st):=by
 rw [todoF,todoF,todoF,flatsV,flat_yes h,List.append_assoc]
theorem todoF_no {k:Int} {v v':Value} {u:V} {us:List V} {st:List (Value×List V)} (h:meltK u.kind u.lo u.hi k=false):todoF k ((v,u :: us) :: st)=u :: todoF k ((v',us) :: st):=by
 rw [todoF,todoF,flatsV,flat_no h]
 rfl
theorem wF_nil (v:Value) (st:List (Value×List V)):wF ((v,[]) :: st)=wF st+1:=by rw [wF,erases,szsT];omega
theorem wF_cons (v v':Value) (u:V) (us:List V) (st:List (Value×List V)):wF ((v,u :: us) :: st)=3 * szT (erase u)+wF ((v',us) :: st):=by simp only [wF,erases,szsT];omega
theorem wF_push (v v':Value) (u:V) (us:List V) (st:List (Value×List V)):wF ((u.v,u.ps) :: (v',us) :: st)+2=wF ((v,u :: us) :: st):=by
 rw [wF_cons v v',wF,sz_eq]
 show 3 * szsT (erases u.ps)+1+_+2=_
 omega
set_option maxHeartbeats 2000000 in
set_option maxRecDepth 100000 in
theorem melts_any (b1 o1 b2 o2:Nat) (p t:V) (w:World) (hp:∀ j u,(ndc p)[j]? = some u→w.cell? ⟨b1,o1+j,none⟩=some u) (ht:∀ j u,(ndc t)[j]? = some u→w.cell? ⟨b2,o2+j,none⟩=some u) :
  Calls Tryd.prog 83 #[.pointer (some ⟨b1,o1,none⟩),.pointer (some ⟨b2,o2,none⟩)] w fun e w'=>e=.returned (.bool (meltK p.kind p.lo p.hi t.kind))∧∃ n,w'=w.drewN n:=by
 have x0:w.cell? ⟨b1,o1,none⟩=some (.int .i64 p.kind):=hp 0 _ rfl
 have x6:w.cell? ⟨b1,o1+6,none⟩=some (.int .i64 p.lo):=hp 6 _ rfl
 have x7:w.cell? ⟨b1,o1+7,none⟩=some (.int .i64 p.hi):=hp 7 _ rfl
 have y0:w.cell? ⟨b2,o2,none⟩=some (.int .i64 t.kind):=ht 0 _ rfl
 clear hp ht
 generalize p.kind=k' at *
 generalize t.kind=k at *
 generalize p.lo=lo at *
 generalize p.hi=hi at *
 by_cases h2:k'=2
 ·subst h2
  have HM:=Lib.hid (show meltK 2 lo hi k=(2 == k) by unfold meltK;rw [if_pos (by decide)];by_cases e:(2:Int)=k <;> simp [e])
  go_enter Tryd.func83,Tryd.ntmps83
  go_wp2_with fail
  go_quiet (fail)
  go_wp2_with fail
  go_ret
  exact ⟨by rw [HM.out];rfl,_,rfl⟩
 by_cases h3:k'=3
 ·subst h3
  have HM:=Lib.hid (show meltK 3 lo hi k=(3 == k) by unfold meltK;rw [if_pos (by decide)];by_cases e:(3:Int)=k <;> simp [e])
  go_enter Tryd.func83,Tryd.ntmps83
  go_wp2_with fail
  go_quiet (fail)
  go_wp2_with fail
  go_ret
  exact ⟨by rw [HM.out];rfl,_,rfl⟩
 have f2:(k' == 2)=false:=by simp [h2]
 have f3:(k' == 3)=false:=by simp [h3]
 by_cases h4:k'=4
 ·subst h4
  by_cases e1:lo=1
  ·have g1:(lo == 1)=true:=by simp [e1]
   have HM:=Lib.hid (show meltK 4 lo hi k=(hi == 1) by unfold meltK;rw [if_neg (by decide),if_pos rfl];by_cases e:hi=1 <;> simp [e1,e])
   clear e1 h2 h3
   go_enter Tryd.func83,Tryd.ntmps83
   go_wp2_with fail
   go_ret
   exact ⟨by rw [HM.out];rfl,0,rfl⟩
  ·have g1:(lo == 1)=false:=by simp [e1]
   have HM:=Lib.hid (show meltK 4 lo hi k=false by unfold meltK;rw [if_neg (by decide),if_pos rfl];simp [e1])
   clear e1 h2 h3
   go_enter Tryd.func83,Tryd.ntmps83
   go_wp2_with fail
   go_ret
   exact ⟨by rw [HM.out];rfl,0,rfl⟩
 ·have f4:(k' == 4)=false:=by simp [h4]
  have HM:=Lib.hid (show meltK k' lo hi k=false by unfold meltK;rw [if_neg (by omega),if_neg h4])
  clear h2 h3 h4
  go_enter Tryd.func83,Tryd.ntmps83
  go_wp2_with fail
  go_ret
  exact ⟨by rw [HM.out];rfl,0,rfl⟩
end Go.Proofs.YtbohmcfplgdlpaaDoor

/- The lists of nodes that a group has still to go through, in memory: what each step keeps.
   Conditions: those that each theorem states. -/
namespace Go.Proofs.YtbohmcfplgdlpaaDoor
open Go.RowKit
theorem laid_low' {w w':World} {R:Nat→Prop} {t:V} (h:Laid w R t) (hb:Below w.heap.size w w'):Laid w' R t:=h.keep (fun _ _ h=>h) hb.size fun k hk _=>hb.block k hk
structure NH (W:World) (base B G o:Nat) (cs:Array Value) (ty:TypeId) (rv0:Value) (st:List (Value×List V)) (rv:Value) (wr:World):Prop where
 own:wr.ownsRow base 25 1 rv st.length (st.map Prod.fst).reverse
 rows:∀ p∈st,Laid wr (fun x=>x<B) (.node 0 zeros 0 0 p.1 p.2)
 chg:Chg (fun x=>x=G∨rv0.ownBlock=some x) W wr
 grp:wr.heap[G]? = some (.cells (cs.setIfInBounds (o+2) rv) ty (0,0))
 blk:rv.ownBlock=rv0.ownBlock∨∀ g,rv.ownBlock=some g→W.heap.size≤g
variable {W wr:World} {base B G o:Nat} {cs:Array Value} {ty:TypeId} {rv0 rv:Value} {st:List (Value×List V)}
theorem set_self {cs:Array Value} {i:Nat} {v:Value} (h:cs[i]? = some v):cs.setIfInBounds i v=cs:=by
 apply Array.ext_getElem?
 intro j
 rw [Array.getElem?_setIfInBounds]
 by_cases e:i=j
 ·subst e
  have:=(Array.getElem?_eq_some_iff.1 h).1
  simp only [this,if_true]
  exact h.symm
 ·simp [e]
theorem NH.start (hown:W.ownsRow base 25 1 rv st.length (st.map Prod.fst).reverse) (hrows:∀ p∈st,Laid W (fun x=>x<B) (.node 0 zeros 0 0 p.1 p.2))
  (hG:W.heap[G]? = some (.cells cs ty (0,0))) (hc:cs[o+2]? = some rv):NH W base B G o cs ty rv st rv W :=
 ⟨hown,hrows,Chg.refl _ _,by rw [set_self hc];exact hG,.inl rfl⟩
theorem NH.lt (h:NH W base B G o cs ty rv0 st rv wr):G<wr.heap.size:=(Array.getElem?_eq_some_iff.1 h.grp).1
theorem NH.off (h:NH W base B G o cs ty rv0 st rv wr) (hty:ty≠25) {g:Nat} (hg:rv.ownBlock=some g):g≠G:=by
 rintro rfl
 rcases h.own.2 with ⟨e,_⟩ | ⟨g',cap,cur,e,_,hb,_⟩
 ·rw [e] at hg;cases hg
 ·rw [e] at hg
  have:g'=g:=Option.some.inj hg
  subst this
  have:=Option.some.inj (hb.symm.trans h.grp)
  simp only [Obj.cells.injEq] at this
  exact hty this.2.1.symm
theorem NH.inR (h:NH W base B G o cs ty rv0 st rv wr) {g:Nat} (hg:rv.ownBlock=some g):g<W.heap.size→g=G∨rv0.ownBlock=some g:=fun hl=>by
 rcases h.blk with e | e
 ·exact .inr (e▸hg)
 ·have:=e g hg;omega
theorem NH.cell (h:NH W base B G o cs ty rv0 st rv wr) (j:Nat) (hj:j≠o+2):wr.cell? ⟨G,j,none⟩=cs[j]?:=by
 rw [(row_cells h.grp).1 j,Array.getElem?_setIfInBounds,if_neg (fun e=>hj e.symm)]
theorem NH.rest (h:NH W base B G o cs ty rv0 st rv wr) (ho:o+2<cs.size):wr.cell? ⟨G,o+2,none⟩=some rv:=by
 rw [(row_cells h.grp).1 (o+2),Array.getElem?_setIfInBounds,if_pos rfl,if_pos ho]
theorem NH.fz (h:NH W base B G o cs ty rv0 st rv wr) (j:Nat):wr.frozen? ⟨G,j,none⟩=false:=(row_cells h.grp).2 j
theorem NH.draw (h:NH W base B G o cs ty rv0 st rv wr) (n:Nat):NH W base B G o cs ty rv0 st rv (wr.drewN n) :=
 ⟨own_chg h.own ((Chg.refl (fun _=>False) wr).drewN n) fun _ _=>id,fun p hp=>(h.rows p hp).chg ((Chg.refl (fun _=>False) wr).drewN n) fun _ _ _=>id,h.chg.drewN n,h.grp,h.blk⟩
theorem NH.drew (h:NH W base B G o cs ty rv0 st rv wr):NH W base B G o cs ty rv0 st rv wr.drew :=
 ⟨own_chg h.own ((Chg.refl (fun _=>False) wr).drew) fun _ _=>id,fun p hp=>(h.rows p hp).chg ((Chg.refl (fun _=>False) wr).drew) fun _ _ _=>id,h.chg.drew,h.grp,h.blk⟩
theorem NH.pop {v:Value} {g cap:Nat} (h:NH W base B G o cs ty rv0 ((v,[]) :: st) (.slice (some ⟨g,0,none⟩) (st.length+1) cap) wr) (hB:B≤G) (hty:ty≠25) :
  NH W base B G o cs ty rv0 st (.slice (some ⟨g,0,none⟩) st.length cap) (wr.setCell ⟨G,o+2,none⟩ (.slice (some ⟨g,0,none⟩) st.length cap)):=by
 have hne:=h.off hty (g:=g) rfl
 refine ⟨?_,fun p hp=>?_,?_,?_,h.blk⟩
 ·have h1:=h.own
  rw [List.map_cons,List.reverse_cons] at h1
  exact own_chg (ownsRow_pop (by simp) h1) ((Chg.refl (fun x=>x=G) wr).setCell (p:=⟨G,o+2,none⟩) (fun _=>rfl) _) fun b hb e=>hne (by have:g=b:=Option.some.inj hb;omega)
 ·exact (h.rows p (by simp [hp])).chg ((Chg.refl (fun x=>x=G) wr).setCell (p:=⟨G,o+2,none⟩) (fun _=>rfl) _) fun x _ hx e=>by omega
 ·exact h.chg.setCell (p:=⟨G,o+2,none⟩) (fun _=>.inl rfl) _
 ·rw [heap_setCell_same wr G (o+2) _ ty _ h.grp,Array.setIfInBounds_setIfInBounds]
theorem NH.take {v tv:Value} {u:V} {us:List V} {g cap:Nat} (h:NH W base B G o cs ty rv0 ((v,u :: us) :: st) (.slice (some ⟨g,0,none⟩) (st.length+1) cap) wr) (hB:B≤base) (hty:ty≠25)
  (ht:Laid wr (fun x=>x<B) (.node 0 zeros 0 0 tv us)) :
  NH W base B G o cs ty rv0 ((tv,us) :: st) (.slice (some ⟨g,0,none⟩) (st.length+1) cap) (wr.setCell ⟨g,st.length,none⟩ tv):=by
 have hne:=h.off hty (g:=g) rfl
 have hgb:=(h.own.lt g rfl).1
 have hch:Chg (fun x=>x=g) wr (wr.setCell ⟨g,st.length,none⟩ tv):=(Chg.refl (fun x=>x=g) wr).setCell (p:=⟨g,st.length,none⟩) (fun _=>rfl) _
 have hlay:∀ {x:V},Laid wr (fun x=>x<B) x→Laid (wr.setCell ⟨g,st.length,none⟩ tv) (fun x=>x<B) x:=fun hx=>hx.chg hch fun x _ hx e=>by omega
 refine ⟨?_,fun p hp=>?_,?_,?_,h.blk⟩
 ·have:=own_top tv h.own
  rw [List.map_cons,List.reverse_cons]
  exact this
 ·rcases List.mem_cons.1 hp with rfl | hp
  ·exact hlay ht
  ·exact hlay (h.rows p (by simp [hp]))
 ·exact h.chg.setCell (p:=⟨g,st.length,none⟩) (fun hl=>h.inR (g:=g) rfl hl) _
 ·exact (Below.heap_setCell _ _ _ _ (fun e=>hne e.symm)).trans h.grp
theorem NH.push {w5:World} {r:Value} {ps:List V} {g5 cap5:Nat} {ob:Obj} (h:NH W base B G o cs ty rv0 st rv wr) (hB:B≤base) (hBG:B≤G) (hty:ty≠25)
  (hr:Laid wr (fun x=>x<B) (.node 0 zeros 0 0 r ps)) (hg:(wr.alloc ob).grownBy w5 rv.ownBlock) (hown:w5.ownsRow base 25 1 (.slice (some ⟨g5,0,none⟩) (st.length+1) cap5) (st.length+1) ((st.map Prod.fst).reverse ++ [r]))
  (hat:rv.ownBlock=some g5∨wr.heap.size≤g5) :
  NH W base B G o cs ty rv0 ((r,ps) :: st) (.slice (some ⟨g5,0,none⟩) (st.length+1) cap5) (w5.setCell ⟨G,o+2,none⟩ (.slice (some ⟨g5,0,none⟩) (st.length+1) cap5)):=by
 have hch:Chg (fun x=>rv.ownBlock=some x) wr w5:=((Chg.refl (fun x=>rv.ownBlock=some x) wr).alloc ob).grown hg fun k hk _=>hk
 have hGl:=h.lt
 have hG5:w5.heap[G]? = some (.cells (cs.setIfInBounds (o+2) rv) ty (0,0)):=(hch.block G hGl (fun e=>h.off hty e rfl)).trans h.grp
 have hne:g5≠G:=by
  rcases hat with e | e
  ·exact h.off hty e
  ·omega
 have hlay:∀ {x:V},Laid wr (fun x=>x<B) x→Laid (w5.setCell ⟨G,o+2,none⟩ (.slice (some ⟨g5,0,none⟩) (st.length+1) cap5)) (fun x=>x<B) x:=fun hx =>
  (hx.chg hch fun x _ hx e=>by have:=(h.own.lt x e).1;omega).chg ((Chg.refl (fun x=>x=G) w5).setCell (p:=⟨G,o+2,none⟩) (fun _=>rfl) _) fun x _ hx e=>by omega
 refine ⟨?_,fun p hp=>?_,?_,?_,?_⟩
 ·rw [List.map_cons,List.reverse_cons]
  exact own_chg hown ((Chg.refl (fun x=>x=G) w5).setCell (p:=⟨G,o+2,none⟩) (fun _=>rfl) _) fun b hb e=>hne (by have:g5=b:=Option.some.inj hb;omega)
 ·rcases List.mem_cons.1 hp with rfl | hp
  ·exact hlay hr
  ·exact hlay (h.rows p hp)
 ·exact (h.chg.trans hch fun x hx e=>h.inR e hx).setCell (p:=⟨G,o+2,none⟩) (fun _=>.inl rfl) _
 ·rw [heap_setCell_same w5 G (o+2) _ ty _ hG5,Array.setIfInBounds_setIfInBounds]
 ·rcases hat with e | e
  ·rcases h.blk with e2 | e2
   ·exact .inl ((show (Value.slice (some ⟨g5,0,none⟩) (st.length+1) cap5).ownBlock=some g5 from rfl).trans (e.symm.trans e2))
   ·exact .inr fun g hg=>by have:g5=g:=Option.some.inj hg;subst this;exact e2 g5 e
  ·exact .inr fun g hg=>by have:g5=g:=Option.some.inj hg;subst this;have:=h.chg.size;omega
def NextR (W:World) (base B G o:Nat) (cs:Array Value) (ty:TypeId) (rv0:Value) (k:Int) (st0:List (Value×List V)) (e:Ending) (w':World):Prop :=
 ∃ st rv,NH W base B G o cs ty rv0 st rv w'∧((todoF k st0=[]∧st=[]∧e=.returned (.pointer none)) ∨
  ∃ p b off,e=.returned (.pointer (some ⟨b,off,none⟩))∧NodeB B w' b off p∧todoF k st0=p :: todoF k st∧wF st+3 * szT (erase p)≤wF st0)
end Go.Proofs.YtbohmcfplgdlpaaDoor

/- The stack of groups with which a tree is folded, in memory: what each step keeps.
   Conditions: those that each theorem states. -/
namespace Go.Proofs.YtbohmcfplgdlpaaDoor
open Go.RowKit
theorem bhop {a b c:World} (h:Below a.heap.size a b) (k:Below b.heap.size b c):Below a.heap.size a c:=h.trans (k.mono h.size)
structure Fr where
 nb:Nat
 no:Nat
 t:V
 ds:List V
 pv:Value
 rv:Value
 st:List (Value×List V)
def fcells (f:Fr):List Value:=[.pointer (some ⟨f.nb,f.no,none⟩),f.pv,f.rv]
theorem fcells_len (l:List Fr):(l.flatMap fcells).length=l.length * 3:=by
 induction l with
 | nil=>rfl
 | cons f l ih=>rw [List.flatMap_cons,List.length_append,ih,List.length_cons];show 3+_=_;omega
structure FrOk (B base te sz:Nat) (F:V→List Value) (S:V→Prop) (f:Fr) (wr:World):Prop where
 node:NodeB B wr f.nb f.no f.t
 s:S f.t
 parts:wr.ownsRow base te sz f.pv f.ds.length (f.ds.flatMap F)
 rest:wr.ownsRow base 25 1 f.rv f.st.length (f.st.map Prod.fst).reverse
 rows:∀ p∈f.st,Laid wr (fun x=>x<B) (.node 0 zeros 0 0 p.1 p.2)
theorem FrOk.chg {B base te sz:Nat} {F:V→List Value} {S:V→Prop} {f:Fr} {wr w':World} {R:Nat→Prop} (h:FrOk B base te sz F S f wr) (hc:Chg R wr w') (hB:∀ x,x<wr.heap.size→R x→B≤x)
  (hp:∀ x,f.pv.ownBlock=some x→¬ R x) (hr:∀ x,f.rv.ownBlock=some x→¬ R x):FrOk B base te sz F S f w' :=
 ⟨h.node.chg (hc.mono hB),h.s,own_chg h.parts hc hp,own_chg h.rest hc hr,fun p hm=>(h.rows p hm).chg hc fun x hx hl e=>by have:=hB x hx e;omega⟩
structure StkI (w0:World) (B tg te sz:Nat) (F:V→List Value) (S:V→Prop) (fs:List Fr) (ov:Value) (wr:World):Prop where
 own:wr.ownsRow w0.heap.size tg 3 ov fs.length (fs.reverse.flatMap fcells)
 fr:∀ f∈fs,FrOk B w0.heap.size te sz F S f wr
 nd1:(fs.filterMap fun f=>f.rv.ownBlock).Nodup
 nd2:(fs.filterMap fun f=>f.pv.ownBlock).Nodup
 below:Below w0.heap.size w0 wr
theorem own_low {w:World} {base base' e size n:Nat} {v:Value} {xs:List Value} (h:w.ownsRow base e size v n xs) (hb:base'≤base):w.ownsRow base' e size v n xs:=by
 refine ⟨h.1,?_⟩
 rcases h.2 with e1 | ⟨g,cap,cur,e1,h1,rest⟩
 ·exact .inl e1
 ·exact .inr ⟨g,cap,cur,e1,Nat.le_trans hb h1,rest⟩
mutual
theorem flat_len (k:Int):∀ t:V,(flatV k t).length≤szT (erase t)
 | .node k' C lo hi v ps=>by
  have:=flats_len k ps
  rw [flatV,erase,szT]
  split
  ·omega
  ·simp
theorem flats_len (k:Int):∀ ts:List V,(flatsV k ts).length≤szsT (erases ts)
 | []=>by rw [flatsV];simp
 | t :: ts=>by
  have h1:=flat_len k t
  have h2:=flats_len k ts
  rw [flatsV,erases,szsT,List.length_append]
  omega
end
theorem own_cells {w:World} {base e size n g cap:Nat} {xs:List Value} (h:w.ownsRow base e size (.slice (some ⟨g,0,none⟩) n cap) n xs):∃ cs:Array Value,w.heap[g]? = some (.cells cs e (0,0))∧∀ j,j<n * size→cs[j]? = xs[j]?:=by
 rcases h.2 with ⟨h',_⟩ | ⟨g',cap',cur,h',hb,hg,hnc,hcm,hcs,htake⟩
 ·simp at h'
 ·simp only [Value.slice.injEq,Option.some.injEq,Addr.mk.injEq,and_true,true_and] at h'
  obtain ⟨rfl,rfl⟩:=h'
  refine ⟨cur,hg,fun j hj=>?_⟩
  rw [← htake,List.getElem?_take,if_pos hj,Array.getElem?_toList]
theorem own_type {w:World} {base base' e e' size size' n n':Nat} {v v':Value} {xs xs':List Value} (h:w.ownsRow base e size v n xs) (h':w.ownsRow base' e' size' v' n' xs') (hne:e≠e') {x:Nat} (hx:v.ownBlock=some x):v'.ownBlock≠some x:=by
 intro hx'
 rcases h.2 with ⟨e1,_⟩ | ⟨g1,c1,cur1,rfl,_,hb1,_⟩
 ·rw [e1] at hx;cases hx
 ·rcases h'.2 with ⟨e2,_⟩ | ⟨g2,c2,cur2,rfl,_,hb2,_⟩
  ·rw [e2] at hx';cases hx'
  ·have a1:g1=x:=Option.some.inj hx
   have a2:g2=x:=Option.some.inj hx'
   subst a1
   subst a2
   have:=Option.some.inj (hb1.symm.trans hb2)
   simp only [Obj.cells.injEq] at this
   exact hne this.2.1
variable {w0 wr:World} {B tg te sz:Nat} {F:V→List Value} {S:V→Prop} {fs:List Fr} {ov:Value}
theorem rev_cells (f:Fr) (fs:List Fr):(f :: fs).reverse.flatMap fcells=fs.reverse.flatMap fcells ++ fcells f:=by simp
theorem top_set (f f':Fr) (fs:List Fr) (j:Nat) (v:Value) (h:(fcells f).set j v=fcells f') (hj:j<3):((f :: fs).reverse.flatMap fcells).set (fs.length * 3+j) v=(f' :: fs).reverse.flatMap fcells:=by
 rw [rev_cells,rev_cells,List.set_append_right _ _ (by rw [fcells_len,List.length_reverse];omega),fcells_len,List.length_reverse,← h]
 congr 2
 omega
theorem mem_filt {l:List Fr} {q:Fr→Option Nat} {f:Fr} {x:Nat} (hf:f∈l) (hx:q f=some x):x∈l.filterMap q:=List.mem_filterMap.2 ⟨f,hf,hx⟩
theorem StkI.next {f:Fr} {g cap:Nat} {cs:Array Value} {w':World} {st':List (Value×List V)} {rv':Value} (h:StkI w0 B tg te sz F S (f :: fs) (.slice (some ⟨g,0,none⟩) (fs.length+1) cap) wr) (hB:B≤w0.heap.size)
  (h1:tg≠25) (h2:te≠25) (h3:te≠tg) (hcs:wr.heap[g]? = some (.cells cs tg (0,0))) (hN:NH wr w0.heap.size B g (fs.length * 3) cs tg f.rv st' rv' w') :
  StkI w0 B tg te sz F S ({ f with st:=st',rv:=rv' } :: fs) (.slice (some ⟨g,0,none⟩) (fs.length+1) cap) w':=by
 have hgl:=(h.own.lt g rfl).2
 have hgb:=(h.own.lt g rfl).1
 have hf:=h.fr f (by simp)
 have hgr:∀ f'∈f :: fs,∀ x,f'.rv.ownBlock=some x→x≠g:=fun f' hf' x hx e=>own_type (h.fr f' hf').rest h.own (fun e=>h1 e.symm) hx (by rw [e];rfl)
 have hgp:∀ f'∈f :: fs,∀ x,f'.pv.ownBlock=some x→x≠g:=fun f' hf' x hx e=>own_type (h.fr f' hf').parts h.own h3 hx (by rw [e];rfl)
 have hBR:∀ x,x<wr.heap.size→(x=g∨f.rv.ownBlock=some x)→B≤x:=fun x _ e=>by
  rcases e with e | e
  ·omega
  ·have:=(hf.rest.lt x e).1;omega
 have hnd:=h.nd1
 have hother:∀ f'∈fs,∀ x,f'.rv.ownBlock=some x→f.rv.ownBlock≠some x:=fun f' hf' x hx e=>by
  rw [List.filterMap_cons,e] at hnd
  exact (List.nodup_cons.1 hnd).1 (mem_filt hf' hx)
 have hpr:∀ f'∈f :: fs,∀ x,f'.pv.ownBlock=some x→f.rv.ownBlock≠some x:=fun f' hf' x hx=>own_type (h.fr f' hf').parts hf.rest h2 hx
 refine ⟨?_,fun f' hf'=>?_,?_,?_,?_⟩
 ·have hst:=(h.own.stored (fs.length * 3+2) rv').1
  rw [top_set f { f with st:=st',rv:=rv' } fs 2 rv' rfl (by omega)] at hst
  refine own_heap hst fun b hb=>?_
  have:g=b:=Option.some.inj hb
  subst this
  rw [hN.grp,heap_setCell_same wr g _ cs tg _ hcs]
 ·rcases List.mem_cons.1 hf' with rfl | hf'
  ·refine ⟨hf.node.chg (hN.chg.mono hBR),hf.s,own_chg hf.parts hN.chg fun x hx e=>?_,hN.own,hN.rows⟩
   rcases e with e | e
   ·exact hgp f (by simp) x hx e
   ·exact hpr f (by simp) x hx e
  ·refine (h.fr f' (by simp [hf'])).chg hN.chg hBR (fun x hx e=>?_) fun x hx e=>?_
   ·rcases e with e | e
    ·exact hgp f' (by simp [hf']) x hx e
    ·exact hpr f' (by simp [hf']) x hx e
   ·rcases e with e | e
    ·exact hgr f' (by simp [hf']) x hx e
    ·exact hother f' hf' x hx e
 ·rw [List.filterMap_cons] at hnd
  have hnd0:(fs.filterMap fun f=>f.rv.ownBlock).Nodup:=by
   split at hnd
   ·exact hnd
   ·exact (List.nodup_cons.1 hnd).2
  cases hrv:rv'.ownBlock with
  | none=>rw [List.filterMap_cons_none (by exact hrv)];exact hnd0
  | some b =>
   rw [List.filterMap_cons_some (by exact hrv)]
   refine List.nodup_cons.2 ⟨fun hm=>?_,hnd0⟩
   obtain ⟨f',hf',hx⟩:=List.mem_filterMap.1 hm
   rcases hN.blk with e | e
   ·exact hother f' hf' b hx (e▸hrv)
   ·have:=e b hrv
    have:=((h.fr f' (by simp [hf'])).rest.lt b hx).2
    omega
 ·exact h.nd2
 ·exact h.below.trans (hN.chg.below (by have:=h.below.size;exact this) fun k hk e=>by
   rcases e with e | e
   ·omega
   ·have:=(hf.rest.lt k e).1;omega)
theorem StkI.push {fn:Fr} {w5:World} {ov':Value} {w2:World} {ob:Obj} (h:StkI w0 B tg te sz F S fs ov wr) (h1:tg≠25) (h3:te≠tg) (hb:Below wr.heap.size wr w2)
  (hn:FrOk B w0.heap.size te sz F S fn w2) (hp:fn.pv.ownBlock=none) (hr:∀ x,fn.rv.ownBlock=some x→wr.heap.size≤x) (hg:(w2.alloc ob).grownBy w5 ov.ownBlock)
  (hown:w5.ownsRow w0.heap.size tg 3 ov' (fs.length+1) (fs.reverse.flatMap fcells ++ fcells fn)) (hB:B≤w0.heap.size):StkI w0 B tg te sz F S (fn :: fs) ov' w5:=by
 have hch:Chg (fun x=>ov.ownBlock=some x) wr w5:=((Chg.of_below (R:=fun x=>ov.ownBlock=some x) hb).alloc ob).grown hg fun k hk _=>hk
 have hch2:Chg (fun x=>ov.ownBlock=some x) w2 w5:=((Chg.refl (fun x=>ov.ownBlock=some x) w2).alloc ob).grown hg fun k hk _=>hk
 have hBo:∀ x,ov.ownBlock=some x→B≤x:=fun x e=>by have:=(h.own.lt x e).1;omega
 refine ⟨by rw [rev_cells];exact hown,fun f hf=>?_,?_,?_,?_⟩
 ·rcases List.mem_cons.1 hf with rfl | hf
  ·refine hn.chg hch2 (fun x _ e=>hBo x e) (fun x hx=>by rw [hp] at hx;cases hx) fun x hx e=>?_
   have h4:=(h.own.lt x e).2
   have h5:=hr x hx
   omega
  ·exact (h.fr f hf).chg hch (fun x _ e=>hBo x e) (fun x hx e=>own_type (h.fr f hf).parts h.own h3 hx e) fun x hx e=>own_type (h.fr f hf).rest h.own (fun e=>h1 e.symm) hx e
 ·rw [List.filterMap_cons]
  split
  ·exact h.nd1
  ·rename_i b hbk
   refine List.nodup_cons.2 ⟨fun hm=>?_,h.nd1⟩
   obtain ⟨f',hf',hx⟩:=List.mem_filterMap.1 hm
   have h4:=((h.fr f' hf').rest.lt b hx).2
   have h5:=hr b hbk
   omega
 ·rw [List.filterMap_cons,hp]
  exact h.nd2
 ·exact h.below.trans (hch.below h.below.size fun k hk e=>by have:=(h.own.lt k e).1;omega)
theorem StkI.pop {f g:Fr} {b cap:Nat} {w2 w5:World} {ob:Obj} {pv':Value} (h:StkI w0 B tg te sz F S (f :: g :: fs) (.slice (some ⟨b,0,none⟩) (fs.length+2) cap) wr) (h1:tg≠25) (h2:te≠25) (h3:te≠tg)
  (hb:Below wr.heap.size wr w2) (hg:(w2.alloc ob).grownBy w5 g.pv.ownBlock) (hown:w5.ownsRow w0.heap.size te sz pv' (g.ds.length+1) (g.ds.flatMap F ++ F f.t)) (hat:∀ x,pv'.ownBlock=some x→g.pv.ownBlock=some x∨wr.heap.size≤x) (hB:B≤w0.heap.size) :
  StkI w0 B tg te sz F S ({ g with pv:=pv',ds:=g.ds ++ [f.t] } :: fs) (.slice (some ⟨b,0,none⟩) (fs.length+1) cap) (w5.setCell ⟨b,fs.length * 3+1,none⟩ pv'):=by
 have hf:=h.fr f (by simp)
 have hG:=h.fr g (by simp)
 have hgl:=(h.own.lt b rfl).2
 have hgb:=(h.own.lt b rfl).1
 have hch:Chg (fun x=>g.pv.ownBlock=some x) wr w5:=((Chg.of_below (R:=fun x=>g.pv.ownBlock=some x) hb).alloc ob).grown hg fun k hk _=>hk
 have hch6:Chg (fun x=>x=b∨g.pv.ownBlock=some x) wr (w5.setCell ⟨b,fs.length * 3+1,none⟩ pv'):=(hch.mono fun x _ e=>.inr e).setCell (p:=⟨b,fs.length * 3+1,none⟩) (fun _=>.inl rfl) _
 have hbp:∀ f'∈f :: g :: fs,∀ x,f'.pv.ownBlock=some x→x≠b:=fun f' hf' x hx e=>own_type (h.fr f' hf').parts h.own h3 hx (by rw [e];rfl)
 have hbr:∀ f'∈f :: g :: fs,∀ x,f'.rv.ownBlock=some x→x≠b:=fun f' hf' x hx e=>own_type (h.fr f' hf').rest h.own (fun e=>h1 e.symm) hx (by rw [e];rfl)
 have hnd2:=h.nd2
 have hnd2':((g :: fs).filterMap fun f=>f.pv.ownBlock).Nodup:=by
  rw [List.filterMap_cons] at hnd2
  split at hnd2
  ·exact hnd2
  ·exact (List.nodup_cons.1 hnd2).2
 have hother:∀ f'∈fs,∀ x,f'.pv.ownBlock=some x→g.pv.ownBlock≠some x:=fun f' hf' x hx e=>by
  rw [List.filterMap_cons,e] at hnd2'
  exact (List.nodup_cons.1 hnd2').1 (mem_filt hf' hx)
 have hBR:∀ x,x<wr.heap.size→(x=b∨g.pv.ownBlock=some x)→B≤x:=fun x _ e=>by
  rcases e with e | e
  ·omega
  ·have:=(hG.parts.lt x e).1;omega
 have hpb:∀ x,pv'.ownBlock=some x→x≠b:=fun x hx e=>by
  rcases hat x hx with e2 | e2
  ·exact hbp g (by simp) x e2 e
  ·omega
 have hrp:∀ f'∈f :: g :: fs,∀ x,f'.rv.ownBlock=some x→g.pv.ownBlock≠some x:=fun f' hf' x hx e=>own_type hG.parts (h.fr f' hf').rest h2 e hx
 refine ⟨?_,fun f' hf'=>?_,?_,?_,?_⟩
 ·have ho:wr.ownsRow w0.heap.size tg 3 (.slice (some ⟨b,0,none⟩) (fs.length+1) cap) (fs.length+1) ((g :: fs).reverse.flatMap fcells):=by
   have:=h.own
   rw [rev_cells] at this
   exact ownsRow_pop (by rw [fcells_len,List.length_reverse];rfl) this
  have ho5:=own_chg ho hch fun x hx e=>by have e1:b=x:=Option.some.inj hx;exact hbp g (by simp) x e e1.symm
  have hst:=(ho5.stored (fs.length * 3+1) pv').1
  rw [top_set g { g with pv:=pv',ds:=g.ds ++ [f.t] } fs 1 pv' rfl (by omega)] at hst
  exact hst
 ·rcases List.mem_cons.1 hf' with rfl | hf'
  ·refine ⟨hG.node.chg (hch6.mono hBR),hG.s,?_,own_chg hG.rest hch6 fun x hx e=>?_,fun p hp=>(hG.rows p hp).chg hch6 fun x hx hl e=>by have:=hBR x hx e;omega⟩
   ·have:=own_chg hown ((Chg.refl (fun x=>x=b) w5).setCell (p:=⟨b,fs.length * 3+1,none⟩) (fun _=>rfl) pv') fun x hx e=>hpb x hx e
    show World.ownsRow _ _ _ _ _ (g.ds ++ [f.t]).length ((g.ds ++ [f.t]).flatMap F)
    rw [List.length_append,List.flatMap_append]
    simpa using this
   ·rcases e with e | e
    ·exact hbr g (by simp) x hx e
    ·exact hrp g (by simp) x hx e
  ·refine (h.fr f' (by simp [hf'])).chg hch6 hBR (fun x hx e=>?_) fun x hx e=>?_
   ·rcases e with e | e
    ·exact hbp f' (by simp [hf']) x hx e
    ·exact hother f' hf' x hx e
   ·rcases e with e | e
    ·exact hbr f' (by simp [hf']) x hx e
    ·exact hrp f' (by simp [hf']) x hx e
 ·have hnd:=h.nd1
  rw [List.filterMap_cons] at hnd
  split at hnd
  ·exact hnd
  ·exact (List.nodup_cons.1 hnd).2
 ·have hnd0:(fs.filterMap fun f=>f.pv.ownBlock).Nodup:=by
   rw [List.filterMap_cons] at hnd2'
   split at hnd2'
   ·exact hnd2'
   ·exact (List.nodup_cons.1 hnd2').2
  cases hpv:pv'.ownBlock with
  | none=>rw [List.filterMap_cons_none (by exact hpv)];exact hnd0
  | some c =>
   rw [List.filterMap_cons_some (by exact hpv)]
   refine List.nodup_cons.2 ⟨fun hm=>?_,hnd0⟩
   obtain ⟨f',hf',hx⟩:=List.mem_filterMap.1 hm
   rcases hat c hpv with e | e
   ·exact hother f' hf' c hx e
   ·have:=((h.fr f' (by simp [hf'])).parts.lt c hx).2
    omega
 ·exact h.below.trans (hch6.below h.below.size fun k hk e=>by
   rcases e with e | e
   ·omega
   ·have:=(hG.parts.lt k e).1;omega)
end Go.Proofs.YtbohmcfplgdlpaaDoor

/- When a tree is void, when it is nullable: plain facts; the calls that tell it of a node, of what they told of its parts: contracts.
   Conditions: the node lies in memory, and is formed. -/
namespace Go.Proofs.YtbohmcfplgdlpaaDoor
open Go.RowKit Go.Shelf
mutual
def vdT:T→Bool
 | .node k C lo _ ps=>if k=1 then z4 C else if k=2 then vdAny ps else if k=3 then vdAll ps else if k=4 then decide (0<lo) && vdAny ps else false
def vdAny:List T→Bool
 | []=>false
 | t :: ts=>vdT t || vdAny ts
def vdAll:List T→Bool
 | []=>true
 | t :: ts=>vdT t && vdAll ts
end
mutual
def nuT:T→Bool
 | .node k _ lo _ ps=>if k=0 then true else if k=2 then nuAll ps else if k=3 then nuAny ps else if k=4 then decide (lo=0) || nuAny ps else false
def nuAny:List T→Bool
 | []=>false
 | t :: ts=>nuT t || nuAny ts
def nuAll:List T→Bool
 | []=>true
 | t :: ts=>nuT t && nuAll ts
end
def vdV (t:V):Bool:=vdT (erase t)
def nuV (t:V):Bool:=nuT (erase t)
theorem vdAny_v (ps:List V):vdAny (erases ps)=ps.any vdV:=by
 induction ps with
 | nil=>rw [erases,vdAny];rfl
 | cons p ps ih=>rw [erases,vdAny,ih,List.any_cons];rfl
theorem vdAll_v (ps:List V):vdAll (erases ps)=ps.all vdV:=by
 induction ps with
 | nil=>rw [erases,vdAll];rfl
 | cons p ps ih=>rw [erases,vdAll,ih,List.all_cons];rfl
theorem nuAny_v (ps:List V):nuAny (erases ps)=ps.any nuV:=by
 induction ps with
 | nil=>rw [erases,nuAny];rfl
 | cons p ps ih=>rw [erases,nuAny,ih,List.any_cons];rfl
theorem nuAll_v (ps:List V):nuAll (erases ps)=ps.all nuV:=by
 induction ps with
 | nil=>rw [erases,nuAll];rfl
 | cons p ps ih=>rw [erases,nuAll,ih,List.all_cons];rfl
theorem vd_eq (t:V):vdV t=if t.kind=1 then z4 t.set else if t.kind=2 then t.ps.any vdV else if t.kind=3 then t.ps.all vdV else if t.kind=4 then decide (0<t.lo) && t.ps.any vdV else false:=by
 cases t with
 | node k C lo hi v ps=>rw [vdV,erase,vdT,vdAny_v,vdAll_v];rfl
theorem nu_eq (t:V):nuV t=if t.kind=0 then true else if t.kind=2 then t.ps.all nuV else if t.kind=3 then t.ps.any nuV else if t.kind=4 then decide (t.lo=0) || t.ps.any nuV else false:=by
 cases t with
 | node k C lo hi v ps=>rw [nuV,erase,nuT,nuAny_v,nuAll_v];rfl
def okF (t:V):Prop:=okT (erase t)=true
theorem okF.part {t p:V} (h:okF t) (hp:p∈t.ps):okF p:=by
 obtain ⟨i,hi⟩:=List.getElem?_of_mem hp
 have h1:=h
 unfold okF at h1 ⊢
 rw [okT_eq,Bool.and_eq_true] at h1
 have:∀ (ps:List V) (i:Nat) (p:V),oksT (erases ps)=true→ps[i]? = some p→okT (erase p)=true:=by
  intro ps
  induction ps with
  | nil=>intro i p _ h;simp at h
  | cons q ps ih =>
   intro i p hk h
   rw [erases,oksT,Bool.and_eq_true] at hk
   cases i with
   | zero=>simp at h;subst h;exact hk.1
   | succ i=>exact ih i p hk.2 (by simpa using h)
 exact this t.ps i p h1.2 hi
theorem okF.four {t:V} (h:okF t) (hk:t.kind=4):∃ p,t.ps=[p]:=by
 unfold okF at h
 rw [okT_eq,Bool.and_eq_true] at h
 have h1:=h.1
 unfold okV okA at h1
 rcases of_decide_eq_true h1 with ⟨h2,_⟩ | ⟨h2,_⟩ | ⟨h2,_⟩ | ⟨_,_,h2,_⟩
 ·omega
 ·omega
 ·omega
 ·exact List.length_eq_one_iff.1 h2
theorem okF.kinds {t:V} (h:okF t):t.kind=0∨t.kind=1∨t.kind=2∨t.kind=3∨t.kind=4:=by
 unfold okF at h
 rw [okT_eq,Bool.and_eq_true] at h
 have h1:=h.1
 unfold okV okA at h1
 rcases of_decide_eq_true h1 with ⟨h2,_⟩ | ⟨h2,_⟩ | ⟨h2,_⟩ | ⟨h2,_⟩ <;> omega
theorem melt_cases {k' lo hi k:Int} (h:meltK k' lo hi k=true):(k'=k∧(k'=2∨k'=3))∨(k'=4∧lo=1∧hi=1):=by
 unfold meltK at h
 split at h
 ·rename_i h2;exact .inl ⟨of_decide_eq_true h,h2⟩
 ·split at h
  ·rename_i h4;have:=of_decide_eq_true h;exact .inr ⟨h4,this.1,this.2⟩
  ·cases h
mutual
theorem flat_any (k:Int) (q:V→Bool) (hq:∀ t,okF t→meltK t.kind t.lo t.hi k=true→q t=t.ps.any q):∀ t:V,okF t→(flatV k t).any q=q t
 | .node k' C lo hi v ps,h=>by
  rw [flatV]
  by_cases hm:meltK k' lo hi k=true
  ·rw [if_pos hm,flats_any k q hq ps (fun p hp=>h.part hp)]
   exact (hq (.node k' C lo hi v ps) h hm).symm
  ·rw [if_neg hm];simp
theorem flats_any (k:Int) (q:V→Bool) (hq:∀ t,okF t→meltK t.kind t.lo t.hi k=true→q t=t.ps.any q):∀ ts:List V,(∀ t∈ts,okF t)→(flatsV k ts).any q=ts.any q
 | [],_=>by rw [flatsV]
 | t :: ts,h=>by
  rw [flatsV,List.any_append,flat_any k q hq t (h t (by simp)),flats_any k q hq ts (fun u hu=>h u (by simp [hu])),List.any_cons]
end
mutual
theorem flat_all (k:Int) (q:V→Bool) (hq:∀ t,okF t→meltK t.kind t.lo t.hi k=true→q t=t.ps.all q):∀ t:V,okF t→(flatV k t).all q=q t
 | .node k' C lo hi v ps,h=>by
  rw [flatV]
  by_cases hm:meltK k' lo hi k=true
  ·rw [if_pos hm,flats_all k q hq ps (fun p hp=>h.part hp)]
   exact (hq (.node k' C lo hi v ps) h hm).symm
  ·rw [if_neg hm];simp
theorem flats_all (k:Int) (q:V→Bool) (hq:∀ t,okF t→meltK t.kind t.lo t.hi k=true→q t=t.ps.all q):∀ ts:List V,(∀ t∈ts,okF t)→(flatsV k ts).all q=ts.all q
 | [],_=>by rw [flatsV]
 | t :: ts,h=>by
  rw [flatsV,List.all_append,flat_all k q hq t (h t (by simp)),flats_all k q hq ts (fun u hu=>h u (by simp [hu])),List.all_cons]
end
mutual
theorem flat_four:∀ t:V,okF t→(flatV 4 t).length=1
 | .node k' C lo hi v ps,h=>by
  rw [flatV]
  by_cases hm:meltK k' lo hi 4=true
  ·rw [if_pos hm,flats_four ps (fun p hp=>h.part hp)]
   have hk:k'=4:=by rcases melt_cases hm with ⟨e,h2⟩ | ⟨e,_⟩ <;> omega
   obtain ⟨p,hp⟩:=h.four hk
   have hp':ps=[p]:=hp
   rw [hp']
   rfl
  ·rw [if_neg hm];rfl
theorem flats_four:∀ ts:List V,(∀ t∈ts,okF t)→(flatsV 4 ts).length=ts.length
 | [],_=>by rw [flatsV]
 | t :: ts,h=>by
  rw [flatsV,List.length_append,flat_four t (h t (by simp)),flats_four ts (fun u hu=>h u (by simp [hu])),List.length_cons]
  omega
end
theorem vd_melt_any {k:Int} (hk:k=2∨k=4):∀ t,okF t→meltK t.kind t.lo t.hi k=true→vdV t=t.ps.any vdV:=fun t h hm=>by
 rw [vd_eq]
 rcases melt_cases hm with ⟨e,h2⟩ | ⟨e,h1,_⟩
 ·rw [if_neg (by omega),if_pos (by omega)]
 ·rw [if_neg (by omega),if_neg (by omega),if_neg (by omega),if_pos e,h1]
  rfl
theorem vd_melt_all:∀ t,okF t→meltK t.kind t.lo t.hi 3=true→vdV t=t.ps.all vdV:=fun t h hm=>by
 rw [vd_eq]
 rcases melt_cases hm with ⟨e,h2⟩ | ⟨e,h1,_⟩
 ·rw [if_neg (by omega),if_neg (by omega),if_pos (by omega)]
 ·rw [if_neg (by omega),if_neg (by omega),if_neg (by omega),if_pos e,h1]
  obtain ⟨p,hp⟩:=h.four e
  rw [hp]
  simp
theorem nu_melt_any {k:Int} (hk:k=3∨k=4):∀ t,okF t→meltK t.kind t.lo t.hi k=true→nuV t=t.ps.any nuV:=fun t h hm=>by
 rw [nu_eq]
 rcases melt_cases hm with ⟨e,h2⟩ | ⟨e,h1,_⟩
 ·rw [if_neg (by omega),if_neg (by omega),if_pos (by omega)]
 ·rw [if_neg (by omega),if_neg (by omega),if_neg (by omega),if_pos e,h1]
  rfl
theorem nu_melt_all:∀ t,okF t→meltK t.kind t.lo t.hi 2=true→nuV t=t.ps.all nuV:=fun t h hm=>by
 rw [nu_eq]
 rcases melt_cases hm with ⟨e,h2⟩ | ⟨e,h1,_⟩
 ·rw [if_neg (by omega),if_pos (by omega)]
 ·rw [if_neg (by omega),if_neg (by omega),if_neg (by omega),if_pos e,h1]
  obtain ⟨p,hp⟩:=h.four e
  rw [hp]
  simp
end Go.Proofs.YtbohmcfplgdlpaaDoor
