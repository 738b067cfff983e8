/- A node of that kind, of a list of its own: a contract.
   Conditions: the list is its own, in memory. -/
import Derived.Test.YtbohmcfplgdlpaaDoorMVoid
import Derived.Test.YtbohmcfplgdlpaaDoorMSim
import Derived.Test.YtbohmcfplgdlpaaDoorMFoldS
import Derived.Test.YtbohmcfplgdlpaaDoorMMelt
import Derived.Deep.LoopGhost
import Derived.Deep.RegionLaw
import Derived.Deep.RegionWith
import Derived.Deep.AppendLies
import Derived.Test.YtbohmcfplgdlpaaDoorMSame
import Derived.Test.YtbohmcfplgdlpaaDoorMForm
import Derived.Deep.DeepCutAuto

/- Results in boxes of their own: plain facts.
   Conditions: those that each theorem states. -/
namespace Go.Proofs.YtbohmcfplgdlpaaDoor
open Go.RowKit Go.Shelf
def BoxC9 (b:Nat) (t:V) (v:Value) (n:Bool) (W:World):Prop :=
 W.cell? ⟨b,0,none⟩=some (.int .i64 t.kind)∧W.cell? ⟨b,1,none⟩=some (.int .u64 (t.set 0:Nat))∧W.cell? ⟨b,2,none⟩=some (.int .u64 (t.set 1:Nat))∧W.cell? ⟨b,3,none⟩=some (.int .u64 (t.set 2:Nat))∧W.cell? ⟨b,4,none⟩=some (.int .u64 (t.set 3:Nat))∧W.cell? ⟨b,5,none⟩=some v∧W.cell? ⟨b,6,none⟩=some (.int .i64 t.lo)∧W.cell? ⟨b,7,none⟩=some (.int .i64 t.hi)∧W.cell? ⟨b,8,none⟩=some (.bool n)
theorem BoxC9.of {b:Nat} {t:V} {v:Value} {n:Bool} {W:World} (h:W.heap[b]? = some (.cells #[.int .i64 t.kind,.int .u64 (t.set 0:Nat),.int .u64 (t.set 1:Nat),.int .u64 (t.set 2:Nat),.int .u64 (t.set 3:Nat),v,.int .i64 t.lo,.int .i64 t.hi,.bool n] 117 (0,0))):BoxC9 b t v n W:=by
 have q:=(row_cells h).1
 exact ⟨q 0,q 1,q 2,q 3,q 4,q 5,q 6,q 7,q 8⟩
def ZB9 (b:Nat) (W:World):Prop:=W.heap[b]? = some (.cells #[.int .i64 0,.int .u64 0,.int .u64 0,.int .u64 0,.int .u64 0,.slice none 0 0,.int .i64 0,.int .i64 0,.bool false] 117 (0,0))
theorem ZB9.lt {b:Nat} {W:World} (h:ZB9 b W):b<W.heap.size:=(Array.getElem?_eq_some_iff.1 h).1
theorem ZB9.keep {b:Nat} {W W':World} (h:ZB9 b W) (hw:W'.heap[b]? = W.heap[b]?):ZB9 b W':=hw.trans h
theorem ZB9.below {b:Nat} {W W':World} (h:ZB9 b W) (hw:Below W.heap.size W W'):ZB9 b W':=h.keep (hw.block b h.lt)
theorem box9_new (w:World) (t:V) (v:Value) (n:Bool):∃ w2,(w.alloc (.cells #[.int .i64 t.kind,.int .u64 (t.set 0:Nat),.int .u64 (t.set 1:Nat),.int .u64 (t.set 2:Nat),.int .u64 (t.set 3:Nat),v,.int .i64 t.lo,.int .i64 t.hi,.bool n] 117)).alloc (.cells #[.int .i64 0,.int .u64 0,.int .u64 0,.int .u64 0,.int .u64 0,.slice none 0 0,.int .i64 0,.int .i64 0,.bool false] 117)=w2∧Below w.heap.size w w2∧w2.heap.size=w.heap.size+2∧ZB9 (w.heap.size+1) w2∧∀ W,Below w2.heap.size w2 W→BoxC9 w.heap.size t v n W:=by
 have h0:Below w.heap.size w ((w.alloc (.cells #[.int .i64 t.kind,.int .u64 (t.set 0:Nat),.int .u64 (t.set 1:Nat),.int .u64 (t.set 2:Nat),.int .u64 (t.set 3:Nat),v,.int .i64 t.lo,.int .i64 t.hi,.bool n] 117)).alloc (.cells #[.int .i64 0,.int .u64 0,.int .u64 0,.int .u64 0,.int .u64 0,.slice none 0 0,.int .i64 0,.int .i64 0,.bool false] 117)):=((Below.refl _ _).alloc (Nat.le_refl _) _).alloc (by simp) _
 refine ⟨_,rfl,h0,by simp,?_,fun W hW=>?_⟩
 ·have:=heap_alloc_new (w.alloc (.cells #[.int .i64 t.kind,.int .u64 (t.set 0:Nat),.int .u64 (t.set 1:Nat),.int .u64 (t.set 2:Nat),.int .u64 (t.set 3:Nat),v,.int .i64 t.lo,.int .i64 t.hi,.bool n] 117)) (.cells #[.int .i64 0,.int .u64 0,.int .u64 0,.int .u64 0,.int .u64 0,.slice none 0 0,.int .i64 0,.int .i64 0,.bool false] 117)
  rw [World.size_alloc] at this
  exact this
 ·refine .of ((hW.block _ (by simp;omega)).trans ((Below.heap_alloc _ _ _ (by simp)).trans (heap_alloc_new w _)))
theorem set9x_chg (w:World) (b:Nat) (a0 a1 a2 a3 a4 a5 a6 a7 a8:Value):Chg (fun x=>x=b) w (((((((((w.setCell ⟨b,0,none⟩ (a0)).setCell ⟨b,1,none⟩ (a1)).setCell ⟨b,2,none⟩ (a2)).setCell ⟨b,3,none⟩ (a3)).setCell ⟨b,4,none⟩ (a4)).setCell ⟨b,5,none⟩ (a5)).setCell ⟨b,6,none⟩ (a6)).setCell ⟨b,7,none⟩ (a7)).setCell ⟨b,8,none⟩ (a8)):=by
 refine ((((((((((Chg.refl _ w).setCell ?_ _).setCell ?_ _).setCell ?_ _).setCell ?_ _).setCell ?_ _).setCell ?_ _).setCell ?_ _).setCell ?_ _).setCell ?_ _)
 all_goals exact fun _=>rfl
theorem set9x_heap {w:World} {b:Nat} (h:ZB9 b w) (a0 a1 a2 a3 a4 a5 a6 a7 a8:Value):(((((((((w.setCell ⟨b,0,none⟩ (a0)).setCell ⟨b,1,none⟩ (a1)).setCell ⟨b,2,none⟩ (a2)).setCell ⟨b,3,none⟩ (a3)).setCell ⟨b,4,none⟩ (a4)).setCell ⟨b,5,none⟩ (a5)).setCell ⟨b,6,none⟩ (a6)).setCell ⟨b,7,none⟩ (a7)).setCell ⟨b,8,none⟩ (a8)).heap[b]? = some (.cells #[a0,a1,a2,a3,a4,a5,a6,a7,a8] 117 (0,0)):=by
 unfold ZB9 at h
 simp [World.setCell,Array.getElem?_modify,h]
theorem set9x_size (w:World) (b:Nat) (a0 a1 a2 a3 a4 a5 a6 a7 a8:Value):(((((((((w.setCell ⟨b,0,none⟩ (a0)).setCell ⟨b,1,none⟩ (a1)).setCell ⟨b,2,none⟩ (a2)).setCell ⟨b,3,none⟩ (a3)).setCell ⟨b,4,none⟩ (a4)).setCell ⟨b,5,none⟩ (a5)).setCell ⟨b,6,none⟩ (a6)).setCell ⟨b,7,none⟩ (a7)).setCell ⟨b,8,none⟩ (a8)).heap.size=w.heap.size:=by simp [World.setCell]
theorem cells9 {w:World} {b:Nat} {a0 a1 a2 a3 a4 a5 a6 a7 a8:Value} {e:TypeId} {m:Nat×Nat} (h:w.heap[b]? = some (.cells #[a0,a1,a2,a3,a4,a5,a6,a7,a8] e m)):w.cell? ⟨b,0,none⟩=some a0∧w.cell? ⟨b,1,none⟩=some a1∧w.cell? ⟨b,2,none⟩=some a2∧w.cell? ⟨b,3,none⟩=some a3∧w.cell? ⟨b,4,none⟩=some a4∧w.cell? ⟨b,5,none⟩=some a5∧w.cell? ⟨b,6,none⟩=some a6∧w.cell? ⟨b,7,none⟩=some a7∧w.cell? ⟨b,8,none⟩=some a8:=by
 have q:∀ j,w.cell? ⟨b,j,none⟩=#[a0,a1,a2,a3,a4,a5,a6,a7,a8][j]?:=fun j=>by simp [World.cell?,h]
 exact ⟨q 0,q 1,q 2,q 3,q 4,q 5,q 6,q 7,q 8⟩
theorem ZB9.cells {b:Nat} {W:World} (h:ZB9 b W):(W.cell? ⟨b,0,none⟩=some (.int .i64 0)∧W.cell? ⟨b,1,none⟩=some (.int .u64 0)∧W.cell? ⟨b,2,none⟩=some (.int .u64 0)∧W.cell? ⟨b,3,none⟩=some (.int .u64 0)∧W.cell? ⟨b,4,none⟩=some (.int .u64 0)∧W.cell? ⟨b,5,none⟩=some (.slice none 0 0)∧W.cell? ⟨b,6,none⟩=some (.int .i64 0)∧W.cell? ⟨b,7,none⟩=some (.int .i64 0)∧W.cell? ⟨b,8,none⟩=some (.bool false)) ∧
  W.frozen? ⟨b,0,none⟩=false∧W.frozen? ⟨b,1,none⟩=false∧W.frozen? ⟨b,2,none⟩=false∧W.frozen? ⟨b,3,none⟩=false∧W.frozen? ⟨b,4,none⟩=false∧W.frozen? ⟨b,5,none⟩=false∧W.frozen? ⟨b,6,none⟩=false∧W.frozen? ⟨b,7,none⟩=false∧W.frozen? ⟨b,8,none⟩=false∧b<W.heap.size:=by
 have q:=(row_cells h).2
 exact ⟨cells9 h,q 0,q 1,q 2,q 3,q 4,q 5,q 6,q 7,q 8,h.lt⟩
def ZB8 (b:Nat) (W:World):Prop:=W.heap[b]? = some (.cells #[.int .i64 0,.int .u64 0,.int .u64 0,.int .u64 0,.int .u64 0,.slice none 0 0,.int .i64 0,.int .i64 0] 27 (0,0))
theorem ZB8.cells {b:Nat} {W:World} (h:ZB8 b W):(W.cell? ⟨b,0,none⟩=some (.int .i64 0)∧W.cell? ⟨b,1,none⟩=some (.int .u64 0)∧W.cell? ⟨b,2,none⟩=some (.int .u64 0)∧W.cell? ⟨b,3,none⟩=some (.int .u64 0)∧W.cell? ⟨b,4,none⟩=some (.int .u64 0)∧W.cell? ⟨b,5,none⟩=some (.slice none 0 0)∧W.cell? ⟨b,6,none⟩=some (.int .i64 0)∧W.cell? ⟨b,7,none⟩=some (.int .i64 0)) ∧
  W.frozen? ⟨b,0,none⟩=false∧W.frozen? ⟨b,1,none⟩=false∧W.frozen? ⟨b,2,none⟩=false∧W.frozen? ⟨b,3,none⟩=false∧W.frozen? ⟨b,4,none⟩=false∧W.frozen? ⟨b,5,none⟩=false∧W.frozen? ⟨b,6,none⟩=false∧W.frozen? ⟨b,7,none⟩=false∧b<W.heap.size:=by
 have q:=(row_cells h).2
 have p:=(row_cells h).1
 exact ⟨⟨p 0,p 1,p 2,p 3,p 4,p 5,p 6,p 7⟩,q 0,q 1,q 2,q 3,q 4,q 5,q 6,q 7,(Array.getElem?_eq_some_iff.1 h).1⟩
theorem cells8 {w:World} {b:Nat} {a0 a1 a2 a3 a4 a5 a6 a7:Value} {e:TypeId} {m:Nat×Nat} (h:w.heap[b]? = some (.cells #[a0,a1,a2,a3,a4,a5,a6,a7] e m)):w.cell? ⟨b,0,none⟩=some a0∧w.cell? ⟨b,1,none⟩=some a1∧w.cell? ⟨b,2,none⟩=some a2∧w.cell? ⟨b,3,none⟩=some a3∧w.cell? ⟨b,4,none⟩=some a4∧w.cell? ⟨b,5,none⟩=some a5∧w.cell? ⟨b,6,none⟩=some a6∧w.cell? ⟨b,7,none⟩=some a7:=by
 have q:∀ j,w.cell? ⟨b,j,none⟩=#[a0,a1,a2,a3,a4,a5,a6,a7][j]?:=fun j=>by simp [World.cell?,h]
 exact ⟨q 0,q 1,q 2,q 3,q 4,q 5,q 6,q 7⟩
theorem set8x_heap {w:World} {b:Nat} (h:ZB8 b w) (a0 a1 a2 a3 a4 a5 a6 a7:Value):((((((((w.setCell ⟨b,0,none⟩ (a0)).setCell ⟨b,1,none⟩ (a1)).setCell ⟨b,2,none⟩ (a2)).setCell ⟨b,3,none⟩ (a3)).setCell ⟨b,4,none⟩ (a4)).setCell ⟨b,5,none⟩ (a5)).setCell ⟨b,6,none⟩ (a6)).setCell ⟨b,7,none⟩ (a7)).heap[b]? = some (.cells #[a0,a1,a2,a3,a4,a5,a6,a7] 27 (0,0)):=by
 unfold ZB8 at h
 simp [World.setCell,Array.getElem?_modify,h]
theorem set8x_chg (w:World) (b:Nat) (a0 a1 a2 a3 a4 a5 a6 a7:Value):Chg (fun x=>x=b) w ((((((((w.setCell ⟨b,0,none⟩ (a0)).setCell ⟨b,1,none⟩ (a1)).setCell ⟨b,2,none⟩ (a2)).setCell ⟨b,3,none⟩ (a3)).setCell ⟨b,4,none⟩ (a4)).setCell ⟨b,5,none⟩ (a5)).setCell ⟨b,6,none⟩ (a6)).setCell ⟨b,7,none⟩ (a7)):=by
 refine (((((((((Chg.refl _ w).setCell ?_ _).setCell ?_ _).setCell ?_ _).setCell ?_ _).setCell ?_ _).setCell ?_ _).setCell ?_ _).setCell ?_ _)
 all_goals exact fun _=>rfl
def er (r:V×Bool):T×Bool:=(erase r.1,r.2)
def GivesS (a:Nat) (x:T×Bool) (e:Ending) (w':World):Prop:=∃ r:V×Bool,e=.returned (.agg (rcells r).toArray)∧er r=x∧Res w' a w'.heap.size r.1
theorem rcells_v {t:V} {v:Value} {n:Bool} (hv:t.v=v):(.agg (rcells (t,n)).toArray:Value)=.agg #[.int .i64 t.kind,.int .u64 (t.set 0:Nat),.int .u64 (t.set 1:Nat),.int .u64 (t.set 2:Nat),.int .u64 (t.set 3:Nat),v,.int .i64 t.lo,.int .i64 t.hi,.bool n]:=by subst hv;rfl
end Go.Proofs.YtbohmcfplgdlpaaDoor

/- A node of that kind, of a list of its own: a contract.
   Conditions: the list is its own, in memory. -/
namespace Go.Proofs.YtbohmcfplgdlpaaDoor
open Go.RowKit Go.Shelf
attribute [local go_sem] nodeAgg
set_option maxHeartbeats 2000000 in
set_option maxRecDepth 100000 in
theorem joined_one (a m:Nat) (P:Nat→Prop) (k:Int) (v:Value) (t:V) (w:World) (h:RowA w a m P v [t]) :
  Calls Tryd.prog 86 #[.int .i64 k,v] w fun e w'=>(∃ sa sn sc,t.v=.slice sa sn sc∧e=.returned (.agg #[.int .i64 t.kind,.int .u64 (t.set 0:Nat),.int .u64 (t.set 1:Nat),.int .u64 (t.set 2:Nat),.int .u64 (t.set 3:Nat),.slice sa sn sc,.int .i64 t.lo,.int .i64 t.hi]))∧Below w.heap.size w w':=by
 obtain ⟨g,cap,hg⟩:=ownsRow_succ (k:=0) h.own
 subst hg
 have hk:=(h.kids t (by simp)).laid
 obtain ⟨sa,sn,sc,hs⟩:=hk.slice
 have hc:∀ j,j<8→w.cell? ⟨g,j,none⟩=(ndc t)[j]?:=fun j hj=>by
  rw [h.own.cellAt j (by simpa using hj)]
  have:=flat_at [t] 0 t rfl j hj
  rwa [Nat.zero_mul,Nat.zero_add] at this
 obtain ⟨w1,hw1⟩ : ∃ w1,w.alloc (.cells #[.int .i64 0,.int .u64 0,.int .u64 0,.int .u64 0,.int .u64 0,.slice none 0 0,.int .i64 0,.int .i64 0] 27)=w1:=⟨_,rfl⟩
 have hb1:Below w.heap.size w w1:=hw1▸(Below.refl _ _).alloc (Nat.le_refl _) _
 have hgl:=(h.own.lt g rfl).2
 have hc1:∀ j,j<8→w1.cell? ⟨g,j,none⟩=(ndc t)[j]?:=fun j hj=>(hb1.cell (p:=⟨g,j,none⟩) hgl).trans (hc j hj)
 have x0:w1.cell? ⟨g,0,none⟩=some (.int .i64 t.kind):=hc1 0 (by decide)
 have x1:w1.cell? ⟨g,1,none⟩=some (.int .u64 (t.set 0:Nat)):=hc1 1 (by decide)
 have x2:w1.cell? ⟨g,2,none⟩=some (.int .u64 (t.set 1:Nat)):=hc1 2 (by decide)
 have x3:w1.cell? ⟨g,3,none⟩=some (.int .u64 (t.set 2:Nat)):=hc1 3 (by decide)
 have x4:w1.cell? ⟨g,4,none⟩=some (.int .u64 (t.set 3:Nat)):=hc1 4 (by decide)
 have x5:w1.cell? ⟨g,5,none⟩=some (.slice sa sn sc):=(hc1 5 (by decide)).trans (congrArg some hs)
 have x6:w1.cell? ⟨g,6,none⟩=some (.int .i64 t.lo):=hc1 6 (by decide)
 have x7:w1.cell? ⟨g,7,none⟩=some (.int .i64 t.hi):=hc1 7 (by decide)
 have e1:w1.heap[w.heap.size]? = some (.cells #[.int .i64 0,.int .u64 0,.int .u64 0,.int .u64 0,.int .u64 0,.slice none 0 0,.int .i64 0,.int .i64 0] 27 (0,0)):=by rw [← hw1];exact heap_alloc_new w _
 obtain ⟨⟨s0,s1,s2,s3,s4,s5,s6,s7⟩,f0,f1,f2,f3,f4,f5,f6,f7,hl1⟩:=ZB8.cells (b:=w.heap.size) (W:=w1) e1
 have HB:=Lib.hid (And.intro hb1 (And.intro hs (show ZB8 w.heap.size w1 from e1)))
 have hne:g≠w.heap.size:=by omega
 clear hc hc1 h hk hs e1 hb1
 show Calls _ _ #[.int .i64 k,.slice (some ⟨g,0,none⟩) 1 cap] w _
 go_enter Tryd.func86,Tryd.ntmps86
 go_upto_region 1 with fail
 clear hw1
 go_wp2_with fail
 have hf:=set8x_heap HB.out.2.2 (.int .i64 t.kind) (.int .u64 (t.set 0:Nat)) (.int .u64 (t.set 1:Nat)) (.int .u64 (t.set 2:Nat)) (.int .u64 (t.set 3:Nat)) (.slice sa sn sc) (.int .i64 t.lo) (.int .i64 t.hi)
 have hfin:=HB.out.1.trans ((set8x_chg w1 w.heap.size (.int .i64 t.kind) (.int .u64 (t.set 0:Nat)) (.int .u64 (t.set 1:Nat)) (.int .u64 (t.set 2:Nat)) (.int .u64 (t.set 3:Nat)) (.slice sa sn sc) (.int .i64 t.lo) (.int .i64 t.hi)).below HB.out.1.size fun k hk e=>by omega)
 clear s0 s1 s2 s3 s4 s5 s6 s7 f0 f1 f2 f3 f4 f5 f6 f7 x0 x1 x2 x3 x4 x5 x6 x7
 generalize ((((((((w1.setCell ⟨w.heap.size,0,none⟩ (.int .i64 t.kind)).setCell ⟨w.heap.size,1,none⟩ (.int .u64 (t.set 0:Nat))).setCell ⟨w.heap.size,2,none⟩ (.int .u64 (t.set 1:Nat))).setCell ⟨w.heap.size,3,none⟩ (.int .u64 (t.set 2:Nat))).setCell ⟨w.heap.size,4,none⟩ (.int .u64 (t.set 3:Nat))).setCell ⟨w.heap.size,5,none⟩ (.slice sa sn sc)).setCell ⟨w.heap.size,6,none⟩ (.int .i64 t.lo)).setCell ⟨w.heap.size,7,none⟩ (.int .i64 t.hi))=w5 at *
 obtain ⟨r0,r1,r2,r3,r4,r5,r6,r7⟩:=cells8 hf
 refine bodyPost_ret (v:=.agg #[.int .i64 t.kind,.int .u64 (t.set 0:Nat),.int .u64 (t.set 1:Nat),.int .u64 (t.set 2:Nat),.int .u64 (t.set 3:Nat),.slice sa sn sc,.int .i64 t.lo,.int .i64 t.hi]) (by simp [results,Tryd.results86,go_sem,r0,r1,r2,r3,r4,r5,r6,r7]) rfl ⟨⟨sa,sn,sc,HB.out.2.1,rfl⟩,hfin⟩
theorem cjoined_any (a m:Nat) (P:Nat→Prop) (k:Int) (v:Value) (ts:List V) (w:World) (h:RowA w a m P v ts) (hm:ts.length≤1000000) :
  Calls Tryd.prog 86 #[.int .i64 k,v] w fun e w'=>(∃ sa sn sc,(joinV k v ts).v=.slice sa sn sc∧e=.returned (.agg #[.int .i64 (joinV k v ts).kind,.int .u64 ((joinV k v ts).set 0:Nat),.int .u64 ((joinV k v ts).set 1:Nat),.int .u64 ((joinV k v ts).set 2:Nat),.int .u64 ((joinV k v ts).set 3:Nat),.slice sa sn sc,.int .i64 (joinV k v ts).lo,.int .i64 (joinV k v ts).hi]))∧Below w.heap.size w w':=by
 obtain ⟨A,cp,hv⟩:=own_form h.own
 match ts,h,hm,hv with
 | [],_,_,hv =>
  subst hv
  refine (joined_none k A cp w).mono ?_
  rintro e w' ⟨rfl,hb⟩
  exact ⟨⟨none,0,0,rfl,rfl⟩,hb⟩
 | t :: u :: ts,_,hm,hv =>
  subst hv
  refine (joined_more k A (t :: u :: ts).length cp w (by simp) hm).mono ?_
  rintro e w' ⟨rfl,hb⟩
  exact ⟨⟨A,_,cp,rfl,rfl⟩,hb⟩
 | [t],h,_,_=>exact joined_one a m P k v t w h
end Go.Proofs.YtbohmcfplgdlpaaDoor
