/- A node is opened: a contract.
   Conditions: the node and the walker lie in memory. -/
import Derived.Test.YtbohmcfplgdlpaaDoorPA

namespace Go.Proofs.YtbohmcfplgdlpaaDoor
open Go.RowKit Go.Shelf
structure Nd8 (w:World) (nb no:Nat) (k:Int) (C:Nat→Nat) (lo hi:Int) (v:Value):Prop where
 c0:w.cell? ⟨nb,no,none⟩=some (.int .i64 k)
 c1:w.cell? ⟨nb,no+1,none⟩=some (.int .u64 (C 0:Nat))
 c2:w.cell? ⟨nb,no+2,none⟩=some (.int .u64 (C 1:Nat))
 c3:w.cell? ⟨nb,no+3,none⟩=some (.int .u64 (C 2:Nat))
 c4:w.cell? ⟨nb,no+4,none⟩=some (.int .u64 (C 3:Nat))
 c5:w.cell? ⟨nb,no+5,none⟩=some v
 c6:w.cell? ⟨nb,no+6,none⟩=some (.int .i64 lo)
 c7:w.cell? ⟨nb,no+7,none⟩=some (.int .i64 hi)
 lt:nb<w.heap.size
theorem Nd8.at {w w':World} {nb no:Nat} {k:Int} {C:Nat→Nat} {lo hi:Int} {v:Value} (h:Nd8 w nb no k C lo hi v) (e:w'.heap[nb]? = w.heap[nb]?) (hs:w.heap.size≤w'.heap.size):Nd8 w' nb no k C lo hi v :=
 ⟨(World.cell?_of_block e).trans h.c0,(World.cell?_of_block e).trans h.c1,(World.cell?_of_block e).trans h.c2,(World.cell?_of_block e).trans h.c3,(World.cell?_of_block e).trans h.c4,(World.cell?_of_block e).trans h.c5,(World.cell?_of_block e).trans h.c6,(World.cell?_of_block e).trans h.c7,Nat.lt_of_lt_of_le h.lt hs⟩
def grp7 (nb no ar be:Nat) (v:Value) (f:Fc):Array Value:=#[.pointer (some ⟨nb,no,none⟩),.int .i64 ar,.int .i64 be,v,.int .u64 f.fi,.int .u64 f.la,.bool f.em]
theorem set7_heap {w:World} {b:Nat} {x0 x1 x2 x3 x4 x5 x6:Value} {e:TypeId} (h:w.heap[b]? = some (.cells #[x0,x1,x2,x3,x4,x5,x6] e (0,0))) (a0 a1 a2 a3 a4 a5 a6:Value):(((((((w.setCell ⟨b,0,none⟩ a0).setCell ⟨b,1,none⟩ a1).setCell ⟨b,2,none⟩ a2).setCell ⟨b,3,none⟩ a3).setCell ⟨b,4,none⟩ a4).setCell ⟨b,5,none⟩ a5).setCell ⟨b,6,none⟩ a6).heap[b]? = some (.cells #[a0,a1,a2,a3,a4,a5,a6] e (0,0)):=by
 simp [World.setCell,Array.getElem?_modify,h]
theorem set7_chg (w:World) (b:Nat) (a0 a1 a2 a3 a4 a5 a6:Value):Chg (fun x=>x=b) w (((((((w.setCell ⟨b,0,none⟩ a0).setCell ⟨b,1,none⟩ a1).setCell ⟨b,2,none⟩ a2).setCell ⟨b,3,none⟩ a3).setCell ⟨b,4,none⟩ a4).setCell ⟨b,5,none⟩ a5).setCell ⟨b,6,none⟩ a6):=by
 refine ((((((((Chg.refl _ w).setCell ?_ _).setCell ?_ _).setCell ?_ _).setCell ?_ _).setCell ?_ _).setCell ?_ _).setCell ?_ _)
 all_goals exact fun _=>rfl
theorem cells7 {w:World} {b:Nat} {a0 a1 a2 a3 a4 a5 a6:Value} {e:TypeId} (h:w.heap[b]? = some (.cells #[a0,a1,a2,a3,a4,a5,a6] e (0,0))):(w.cell? ⟨b,0,none⟩=some a0∧w.cell? ⟨b,1,none⟩=some a1∧w.cell? ⟨b,2,none⟩=some a2∧w.cell? ⟨b,3,none⟩=some a3∧w.cell? ⟨b,4,none⟩=some a4∧w.cell? ⟨b,5,none⟩=some a5∧w.cell? ⟨b,6,none⟩=some a6)∧(w.frozen? ⟨b,0,none⟩=false∧w.frozen? ⟨b,1,none⟩=false∧w.frozen? ⟨b,2,none⟩=false∧w.frozen? ⟨b,3,none⟩=false∧w.frozen? ⟨b,4,none⟩=false∧w.frozen? ⟨b,5,none⟩=false∧w.frozen? ⟨b,6,none⟩=false) :=
 have p:=(row_cells h).1
 have q:=(row_cells h).2
 ⟨⟨p 0,p 1,p 2,p 3,p 4,p 5,p 6⟩,⟨q 0,q 1,q 2,q 3,q 4,q 5,q 6⟩⟩
set_option maxHeartbeats 4000000 in
set_option maxRecDepth 100000 in
theorem opened_none (w:World) (wk nb no ar:Nat) (C:Nat→Nat) (lo hi:Int) (sa:Option Addr) (sn sc:Nat) (hn:Nd8 w nb no 0 C lo hi (.slice sa sn sc)) :
  Calls Tryd.prog 34 #[.pointer (some ⟨wk,0,none⟩),.pointer (some ⟨nb,no,none⟩),.int .i64 ar] w fun e w'=>e=.returned (.agg (grp7 nb no ar ar (.slice sa sn sc) ⟨0,0,true⟩))∧Below w.heap.size w w':=by
 obtain ⟨x0,x1,x2,x3,x4,x5,x6,x7,hlt⟩:=hn
 go_enter Tryd.func34,Tryd.ntmps34
 go_wp2_with fail
 refine bodyPost_ret (v:=.agg (grp7 nb no ar ar (.slice sa sn sc) ⟨0,0,true⟩)) (by simp [results,Tryd.results34,go_sem,grp7]) rfl ⟨rfl,?_⟩
 exact ((Below.refl _ w).alloc (Nat.le_refl _) _).alloc (by simp) _
set_option maxHeartbeats 4000000 in
set_option maxRecDepth 100000 in
theorem opened_cat (w:World) (wk nb no ar:Nat) (C:Nat→Nat) (lo hi:Int) (sa:Option Addr) (sn sc:Nat) (hn:Nd8 w nb no 2 C lo hi (.slice sa sn sc)) :
  Calls Tryd.prog 34 #[.pointer (some ⟨wk,0,none⟩),.pointer (some ⟨nb,no,none⟩),.int .i64 ar] w fun e w'=>e=.returned (.agg (grp7 nb no ar ar (.slice sa sn sc) ⟨0,0,true⟩))∧Below w.heap.size w w':=by
 obtain ⟨x0,x1,x2,x3,x4,x5,x6,x7,hlt⟩:=hn
 go_enter Tryd.func34,Tryd.ntmps34
 go_wp2_with fail
 refine bodyPost_ret (v:=.agg (grp7 nb no ar ar (.slice sa sn sc) ⟨0,0,true⟩)) (by simp [results,Tryd.results34,go_sem,grp7]) rfl ⟨rfl,?_⟩
 exact ((Below.refl _ w).alloc (Nat.le_refl _) _).alloc (by simp) _
set_option maxHeartbeats 4000000 in
set_option maxRecDepth 100000 in
theorem opened_alt (w:World) (wk nb no ar:Nat) (C:Nat→Nat) (lo hi:Int) (sa:Option Addr) (sn sc:Nat) (hn:Nd8 w nb no 3 C lo hi (.slice sa sn sc)) :
  Calls Tryd.prog 34 #[.pointer (some ⟨wk,0,none⟩),.pointer (some ⟨nb,no,none⟩),.int .i64 ar] w fun e w'=>e=.returned (.agg (grp7 nb no ar ar (.slice sa sn sc) ⟨0,0,false⟩))∧Below w.heap.size w w':=by
 obtain ⟨x0,x1,x2,x3,x4,x5,x6,x7,hlt⟩:=hn
 go_enter Tryd.func34,Tryd.ntmps34
 go_wp2_with fail
 refine bodyPost_ret (v:=.agg (grp7 nb no ar ar (.slice sa sn sc) ⟨0,0,false⟩)) (by simp [results,Tryd.results34,go_sem,grp7]) rfl ⟨rfl,?_⟩
 exact ((Below.refl _ w).alloc (Nat.le_refl _) _).alloc (by simp) _
set_option maxHeartbeats 4000000 in
set_option maxRecDepth 100000 in
theorem opened_rep (w:World) (wk nb no ar:Nat) (C:Nat→Nat) (lo hi:Int) (sa:Option Addr) (sn sc:Nat) (hn:Nd8 w nb no 4 C lo hi (.slice sa sn sc)) (har:ar<1000) (hok:okT (.node 4 zeros lo hi [.node 0 zeros 0 0 []])=true) :
  Calls Tryd.prog 34 #[.pointer (some ⟨wk,0,none⟩),.pointer (some ⟨nb,no,none⟩),.int .i64 ar] w fun e w'=>e=.returned (.agg (grp7 nb no ar (blA ar (cntS (max 1 lo) hi)) (.slice sa sn sc) ⟨0,0,decide (lo=0)⟩))∧Below w.heap.size w w':=by
 have HN:=Lib.hid hn
 obtain ⟨x0,x1,x2,x3,x4,x5,x6,x7,hlt⟩:=hn
 obtain ⟨c,hcc⟩ : ∃ c,c=cntS (max 1 lo) hi:=⟨_,rfl⟩
 obtain ⟨b,hbb⟩ : ∃ b,b=(lo == 0):=⟨_,rfl⟩
 have hbb':=hbb.symm
 have HC:=Lib.hid (And.intro hcc (And.intro hbb hok))
 clear hcc hbb hok
 go_enter Tryd.func34,Tryd.ntmps34
 go_wp2_with fail
 obtain ⟨W1,hW1⟩ : ∃ W1,(w.alloc (.cells #[.pointer none,.int .i64 0,.int .i64 0,.slice none 0 0,.int .u64 0,.int .u64 0,.bool false] 94)).alloc (.cells #[.pointer (some ⟨nb,no,none⟩),.int .i64 ar,.int .i64 ar,.slice sa sn sc,.int .u64 0,.int .u64 0,.bool b] 94)=W1:=⟨_,rfl⟩
 rw [hW1]
 have hb1:Below w.heap.size w W1:=hW1▸((Below.refl _ w).alloc (Nat.le_refl _) _).alloc (by simp) _
 have e6:W1.heap[w.heap.size]? = some (.cells #[.pointer none,.int .i64 0,.int .i64 0,.slice none 0 0,.int .u64 0,.int .u64 0,.bool false] 94 (0,0)):=hW1▸(Below.heap_alloc _ _ _ (by simp)).trans (heap_alloc_new w _)
 have e7:W1.heap[w.heap.size+1]? = some (.cells #[.pointer (some ⟨nb,no,none⟩),.int .i64 ar,.int .i64 ar,.slice sa sn sc,.int .u64 0,.int .u64 0,.bool b] 94 (0,0)):=hW1▸alloc2_new w _ _
 clear hW1
 have hN1:=HN.out.at (hb1.block _ HN.out.lt) hb1.size
 refine (cnt_any nb no lo hi HC.out.2.2 W1 hN1.c6 hN1.c7 hN1.lt).mono ?_
 rintro e w3 ⟨rfl,hb3⟩
 rw [← HC.out.1]
 have e6':=(hb3.block _ (Array.getElem?_eq_some_iff.1 e6).1).trans e6
 have e7':=(hb3.block _ (Array.getElem?_eq_some_iff.1 e7).1).trans e7
 obtain ⟨⟨y0,y1,y2,y3,y4,y5,y6⟩,f0,f1,f2,f3,f4,f5,f6⟩:=cells7 e6'
 obtain ⟨⟨z0,z1,z2,z3,z4,z5,z6⟩,g0,g1,g2,g3,g4,g5,g6⟩:=cells7 e7'
 have l7:w.heap.size+1<w3.heap.size:=(Array.getElem?_eq_some_iff.1 e7').1
 have l6:w.heap.size<w3.heap.size:=by omega
 have HB:=Lib.hid (And.intro (bhop hb1 hb3) (And.intro e6' e7'))
 have q0:(0:Int)≤(ar:Int):=by omega
 have q1:(ar:Int)<1000:=by omega
 have HCB:Hid (b=decide (lo=0)):=Lib.hid (by rw [HC.out.2.1];rfl)
 clear hb1 hb3 e6 e7 e6' e7' hN1 x0 x1 x2 x3 x4 x5 x6 x7 hbb'
 cases c with
 | true =>
  go_wp2_with fail
  clear y0 y1 y2 y3 y4 y5 y6 f0 f1 f2 f3 f4 f5 f6 z0 z1 z2 z3 z4 z5 z6 g0 g1 g2 g3 g4 g5 g6
  have hf:=set7_heap (w:=(w3.setCell ⟨w.heap.size+1,2,none⟩ (.int .i64 ((ar:Int)+1)))) ((Below.heap_setCell _ _ _ _ (by dsimp only;omega)).trans HB.out.2.1) (.pointer (some ⟨nb,no,none⟩)) (.int .i64 ar) (.int .i64 ((ar:Int)+1)) (.slice sa sn sc) (.int .u64 0) (.int .u64 0) (.bool b)
  have hch:Chg (fun x=>x=w.heap.size∨x=w.heap.size+1) w3 ((((((((w3.setCell ⟨w.heap.size+1,2,none⟩ (.int .i64 ((ar:Int)+1))).setCell ⟨w.heap.size,0,none⟩ (.pointer (some ⟨nb,no,none⟩))).setCell ⟨w.heap.size,1,none⟩ (.int .i64 ar)).setCell ⟨w.heap.size,2,none⟩ (.int .i64 ((ar:Int)+1))).setCell ⟨w.heap.size,3,none⟩ (.slice sa sn sc)).setCell ⟨w.heap.size,4,none⟩ (.int .u64 0)).setCell ⟨w.heap.size,5,none⟩ (.int .u64 0)).setCell ⟨w.heap.size,6,none⟩ (.bool b)):=((Chg.refl _ w3).setCell (p:=⟨w.heap.size+1,2,none⟩) (fun _=>.inr rfl) _).trans (set7_chg (w3.setCell ⟨w.heap.size+1,2,none⟩ (.int .i64 ((ar:Int)+1))) w.heap.size (.pointer (some ⟨nb,no,none⟩)) (.int .i64 ar) (.int .i64 ((ar:Int)+1)) (.slice sa sn sc) (.int .u64 0) (.int .u64 0) (.bool b)) (fun x _ e=>.inl e)
  generalize ((((((((w3.setCell ⟨w.heap.size+1,2,none⟩ (.int .i64 ((ar:Int)+1))).setCell ⟨w.heap.size,0,none⟩ (.pointer (some ⟨nb,no,none⟩))).setCell ⟨w.heap.size,1,none⟩ (.int .i64 ar)).setCell ⟨w.heap.size,2,none⟩ (.int .i64 ((ar:Int)+1))).setCell ⟨w.heap.size,3,none⟩ (.slice sa sn sc)).setCell ⟨w.heap.size,4,none⟩ (.int .u64 0)).setCell ⟨w.heap.size,5,none⟩ (.int .u64 0)).setCell ⟨w.heap.size,6,none⟩ (.bool b))=w8 at *
  obtain ⟨⟨r0,r1,r2,r3,r4,r5,r6⟩,_⟩:=cells7 hf
  refine bodyPost_ret (v:=.agg (grp7 nb no ar (ar+1) (.slice sa sn sc) ⟨0,0,b⟩)) (by simp [results,Tryd.results34,go_sem,grp7,r0,r1,r2,r3,r4,r5,r6]) rfl ⟨by rw [HCB.out,← HC.out.1];rfl,?_⟩
  exact HB.out.1.trans (hch.below (by have:=HB.out.1.size;omega) fun k hk e=>by omega)
 | false =>
  go_wp2_with fail
  clear y0 y1 y2 y3 y4 y5 y6 f0 f1 f2 f3 f4 f5 f6 z0 z1 z2 z3 z4 z5 z6 g0 g1 g2 g3 g4 g5 g6
  have hf:=set7_heap HB.out.2.1 (.pointer (some ⟨nb,no,none⟩)) (.int .i64 ar) (.int .i64 ar) (.slice sa sn sc) (.int .u64 0) (.int .u64 0) (.bool b)
  have hch:=set7_chg w3 w.heap.size (.pointer (some ⟨nb,no,none⟩)) (.int .i64 ar) (.int .i64 ar) (.slice sa sn sc) (.int .u64 0) (.int .u64 0) (.bool b)
  generalize (((((((w3.setCell ⟨w.heap.size,0,none⟩ (.pointer (some ⟨nb,no,none⟩))).setCell ⟨w.heap.size,1,none⟩ (.int .i64 ar)).setCell ⟨w.heap.size,2,none⟩ (.int .i64 ar)).setCell ⟨w.heap.size,3,none⟩ (.slice sa sn sc)).setCell ⟨w.heap.size,4,none⟩ (.int .u64 0)).setCell ⟨w.heap.size,5,none⟩ (.int .u64 0)).setCell ⟨w.heap.size,6,none⟩ (.bool b))=w8 at *
  obtain ⟨⟨r0,r1,r2,r3,r4,r5,r6⟩,_⟩:=cells7 hf
  refine bodyPost_ret (v:=.agg (grp7 nb no ar ar (.slice sa sn sc) ⟨0,0,b⟩)) (by simp [results,Tryd.results34,go_sem,grp7,r0,r1,r2,r3,r4,r5,r6]) rfl ⟨by rw [HCB.out,← HC.out.1];rfl,?_⟩
  exact HB.out.1.trans (hch.below (by have:=HB.out.1.size;omega) fun k hk e=>by omega)
set_option maxHeartbeats 4000000 in
set_option maxRecDepth 100000 in
theorem opened_void (w:World) (wk nb no ar:Nat) (C:Nat→Nat) (lo hi:Int) (sa:Option Addr) (sn sc:Nat) (hn:Nd8 w nb no 1 C lo hi (.slice sa sn sc)) (hz:z4 C=true) :
  Calls Tryd.prog 34 #[.pointer (some ⟨wk,0,none⟩),.pointer (some ⟨nb,no,none⟩),.int .i64 ar] w fun e w'=>e=.returned (.agg (grp7 nb no ar ar (.slice sa sn sc) ⟨0,0,false⟩))∧Below w.heap.size w w':=by
 have HN:=Lib.hid hn
 obtain ⟨x0,x1,x2,x3,x4,x5,x6,x7,hlt⟩:=hn
 go_enter Tryd.func34,Tryd.ntmps34
 go_wp2_with fail
 obtain ⟨W1,hW1⟩ : ∃ W1,(w.alloc (.cells #[.pointer none,.int .i64 0,.int .i64 0,.slice none 0 0,.int .u64 0,.int .u64 0,.bool false] 94)).alloc (.cells #[.pointer (some ⟨nb,no,none⟩),.int .i64 ar,.int .i64 ar,.slice sa sn sc,.int .u64 0,.int .u64 0,.bool false] 94)=W1:=⟨_,rfl⟩
 rw [hW1]
 have hb1:Below w.heap.size w W1:=hW1▸((Below.refl _ w).alloc (Nat.le_refl _) _).alloc (by simp) _
 have e6:W1.heap[w.heap.size]? = some (.cells #[.pointer none,.int .i64 0,.int .i64 0,.slice none 0 0,.int .u64 0,.int .u64 0,.bool false] 94 (0,0)):=hW1▸(Below.heap_alloc _ _ _ (by simp)).trans (heap_alloc_new w _)
 have e7:W1.heap[w.heap.size+1]? = some (.cells #[.pointer (some ⟨nb,no,none⟩),.int .i64 ar,.int .i64 ar,.slice sa sn sc,.int .u64 0,.int .u64 0,.bool false] 94 (0,0)):=hW1▸alloc2_new w _ _
 clear hW1
 refine (classEmpty_any C W1).mono ?_
 rintro e w3 ⟨rfl,hb3⟩
 have e6':=(hb3.block _ (Array.getElem?_eq_some_iff.1 e6).1).trans e6
 have e7':=(hb3.block _ (Array.getElem?_eq_some_iff.1 e7).1).trans e7
 have HB:=Lib.hid (And.intro (bhop hb1 hb3) (And.intro e6' e7'))
 obtain ⟨⟨y0,y1,y2,y3,y4,y5,y6⟩,f0,f1,f2,f3,f4,f5,f6⟩:=cells7 e6'
 obtain ⟨⟨z0,z1,z2,z3,z4,z5,z6⟩,g0,g1,g2,g3,g4,g5,g6⟩:=cells7 e7'
 have l7:w.heap.size+1<w3.heap.size:=(Array.getElem?_eq_some_iff.1 e7').1
 have l6:w.heap.size<w3.heap.size:=by omega
 clear hb1 hb3 e6 e7 e6' e7' x0 x1 x2 x3 x4 x5 x6 x7
 rw [hz]
 clear hz
 go_wp2_with fail
 clear y0 y1 y2 y3 y4 y5 y6 f0 f1 f2 f3 f4 f5 f6 z0 z1 z2 z3 z4 z5 z6 g0 g1 g2 g3 g4 g5 g6
 have hf:=set7_heap HB.out.2.1 (.pointer (some ⟨nb,no,none⟩)) (.int .i64 ar) (.int .i64 ar) (.slice sa sn sc) (.int .u64 0) (.int .u64 0) (.bool false)
 have hch:=set7_chg w3 w.heap.size (.pointer (some ⟨nb,no,none⟩)) (.int .i64 ar) (.int .i64 ar) (.slice sa sn sc) (.int .u64 0) (.int .u64 0) (.bool false)
 generalize (((((((w3.setCell ⟨w.heap.size,0,none⟩ (.pointer (some ⟨nb,no,none⟩))).setCell ⟨w.heap.size,1,none⟩ (.int .i64 ar)).setCell ⟨w.heap.size,2,none⟩ (.int .i64 ar)).setCell ⟨w.heap.size,3,none⟩ (.slice sa sn sc)).setCell ⟨w.heap.size,4,none⟩ (.int .u64 0)).setCell ⟨w.heap.size,5,none⟩ (.int .u64 0)).setCell ⟨w.heap.size,6,none⟩ (.bool false))=w8 at *
 obtain ⟨⟨r0,r1,r2,r3,r4,r5,r6⟩,_⟩:=cells7 hf
 refine bodyPost_ret (v:=.agg (grp7 nb no ar ar (.slice sa sn sc) ⟨0,0,false⟩)) (by simp [results,Tryd.results34,go_sem,grp7,r0,r1,r2,r3,r4,r5,r6]) rfl ⟨rfl,?_⟩
 exact HB.out.1.trans (hch.below (by have:=HB.out.1.size;omega) fun k hk e=>by omega)
set_option maxHeartbeats 4000000 in
set_option maxRecDepth 100000 in
theorem opened_byte (w:World) {wk mb jb at' nm nj:Nat} {S:St→Prop} {T:Jt→Prop} (hW:Wk w wk mb jb at' S T nm nj) (hat:at' < 63) (nb no ar:Nat) (C:Nat→Nat) (lo hi:Int) (sa:Option Addr) (sn sc:Nat) (hn:Nd8 w nb no 1 C lo hi (.slice sa sn sc)) (hz:z4 C=false) :
  Calls Tryd.prog 34 #[.pointer (some ⟨wk,0,none⟩),.pointer (some ⟨nb,no,none⟩),.int .i64 ar] w fun e w'=>e=.returned (.agg (grp7 nb no ar ar (.slice sa sn sc) ⟨2 ^ (at' + 1),2 ^ (at' + 1),false⟩))∧Wk w' wk mb jb (at' + 1) S T nm nj∧Chg (fun b=>b=wk) w w':=by
 have HN:=Lib.hid hn
 obtain ⟨x0,x1,x2,x3,x4,x5,x6,x7,hlt⟩:=hn
 go_enter Tryd.func34,Tryd.ntmps34
 go_wp2_with fail
 obtain ⟨W1,hW1⟩ : ∃ W1,(w.alloc (.cells #[.pointer none,.int .i64 0,.int .i64 0,.slice none 0 0,.int .u64 0,.int .u64 0,.bool false] 94)).alloc (.cells #[.pointer (some ⟨nb,no,none⟩),.int .i64 ar,.int .i64 ar,.slice sa sn sc,.int .u64 0,.int .u64 0,.bool false] 94)=W1:=⟨_,rfl⟩
 rw [hW1]
 have hb1:Below w.heap.size w W1:=hW1▸((Below.refl _ w).alloc (Nat.le_refl _) _).alloc (by simp) _
 have e6:W1.heap[w.heap.size]? = some (.cells #[.pointer none,.int .i64 0,.int .i64 0,.slice none 0 0,.int .u64 0,.int .u64 0,.bool false] 94 (0,0)):=hW1▸(Below.heap_alloc _ _ _ (by simp)).trans (heap_alloc_new w _)
 have e7:W1.heap[w.heap.size+1]? = some (.cells #[.pointer (some ⟨nb,no,none⟩),.int .i64 ar,.int .i64 ar,.slice sa sn sc,.int .u64 0,.int .u64 0,.bool false] 94 (0,0)):=hW1▸alloc2_new w _ _
 clear hW1
 refine (classEmpty_any C W1).mono ?_
 rintro e w3 ⟨rfl,hb3⟩
 have e6':=(hb3.block _ (Array.getElem?_eq_some_iff.1 e6).1).trans e6
 have e7':=(hb3.block _ (Array.getElem?_eq_some_iff.1 e7).1).trans e7
 have HB:=Lib.hid (And.intro (bhop hb1 hb3) (And.intro e6' e7'))
 obtain ⟨⟨y0,y1,y2,y3,y4,y5,y6⟩,f0,f1,f2,f3,f4,f5,f6⟩:=cells7 e6'
 obtain ⟨⟨z0,z1,z2,z3,z4,z5,z6⟩,g0,g1,g2,g3,g4,g5,g6⟩:=cells7 e7'
 have l7:w.heap.size+1<w3.heap.size:=(Array.getElem?_eq_some_iff.1 e7').1
 have l6:w.heap.size<w3.heap.size:=by omega
 clear hb1 hb3 e6 e7 e6' e7' x0 x1 x2 x3 x4 x5 x6 x7
 rw [hz]
 clear hz
 have hwl:wk<w.heap.size:=(Array.getElem?_eq_some_iff.1 hW.row).1
 have hrow:=(HB.out.1.block wk hwl).trans hW.row
 have k0:=(row_cells hrow).1 0
 have k1:=(row_cells hrow).2 0
 have hwk3:wk<w3.heap.size:=by omega
 simp at k0
 have q0:(0:Int)≤(at':Int):=by omega
 have q1:(at':Int)<63:=by omega
 have n0:wk≠w.heap.size:=by omega
 have n1:wk≠w.heap.size+1:=by omega
 have HW:=Lib.hid (And.intro hW (And.intro hat hrow))
 clear hW hat hrow
 go_wp2_with fail
 go_region_with (go_at_call 50;refine (only_any (at' + 1) (by have:=HW.out.2.1;omega) _).mono ?_;rintro e w5 ⟨rfl,rfl⟩)
 all_goals go_wp2_with fail
 all_goals
  clear y0 y1 y2 y3 y4 y5 y6 f0 f1 f2 f3 f4 f5 f6 z0 z1 z2 z3 z4 z5 z6 g0 g1 g2 g3 g4 g5 g6 k0 k1
  obtain ⟨hW,hat,hrow⟩:=HW.out
  have hb4:((((w3.setCell ⟨wk,0,none⟩ (.int .i64 ((at':Int)+1))).setCell ⟨w.heap.size+1,4,none⟩ (.int .u64 ((2:Int) ^ (at' + 1)))).setCell ⟨w.heap.size+1,5,none⟩ (.int .u64 ((2:Int) ^ (at' + 1)))).setCell ⟨w.heap.size+1,6,none⟩ (.bool false)).heap[w.heap.size]? = w3.heap[w.heap.size]? :=
   (Below.heap_setCell _ _ _ _ (by dsimp only;omega)).trans ((Below.heap_setCell _ _ _ _ (by dsimp only;omega)).trans ((Below.heap_setCell _ _ _ _ (by dsimp only;omega)).trans (Below.heap_setCell _ _ _ _ (by dsimp only;omega))))
  have hf:=set7_heap (w:=((((w3.setCell ⟨wk,0,none⟩ (.int .i64 ((at':Int)+1))).setCell ⟨w.heap.size+1,4,none⟩ (.int .u64 ((2:Int) ^ (at' + 1)))).setCell ⟨w.heap.size+1,5,none⟩ (.int .u64 ((2:Int) ^ (at' + 1)))).setCell ⟨w.heap.size+1,6,none⟩ (.bool false))) (hb4.trans HB.out.2.1) (.pointer (some ⟨nb,no,none⟩)) (.int .i64 ar) (.int .i64 ar) (.slice sa sn sc) (.int .u64 ((2:Int) ^ (at' + 1))) (.int .u64 ((2:Int) ^ (at' + 1))) (.bool false)
  have hw1:(w3.setCell ⟨wk,0,none⟩ (.int .i64 ((at':Int)+1))).heap[wk]? = some (.cells #[.int .i64 ((at':Int)+1),.map (some mb),.map (some jb)] 92 (0,0)):=by
   simp [World.setCell,Array.getElem?_modify,hrow]
  have hw4:((((w3.setCell ⟨wk,0,none⟩ (.int .i64 ((at':Int)+1))).setCell ⟨w.heap.size+1,4,none⟩ (.int .u64 ((2:Int) ^ (at' + 1)))).setCell ⟨w.heap.size+1,5,none⟩ (.int .u64 ((2:Int) ^ (at' + 1)))).setCell ⟨w.heap.size+1,6,none⟩ (.bool false)).heap[wk]? = some (.cells #[.int .i64 ((at':Int)+1),.map (some mb),.map (some jb)] 92 (0,0)) :=
   (Below.heap_setCell _ _ _ _ (by dsimp only;omega)).trans ((Below.heap_setCell _ _ _ _ (by dsimp only;omega)).trans ((Below.heap_setCell _ _ _ _ (by dsimp only;omega)).trans hw1))
  have hc7:=set7_chg ((((w3.setCell ⟨wk,0,none⟩ (.int .i64 ((at':Int)+1))).setCell ⟨w.heap.size+1,4,none⟩ (.int .u64 ((2:Int) ^ (at' + 1)))).setCell ⟨w.heap.size+1,5,none⟩ (.int .u64 ((2:Int) ^ (at' + 1)))).setCell ⟨w.heap.size+1,6,none⟩ (.bool false)) w.heap.size (.pointer (some ⟨nb,no,none⟩)) (.int .i64 ar) (.int .i64 ar) (.slice sa sn sc) (.int .u64 ((2:Int) ^ (at' + 1))) (.int .u64 ((2:Int) ^ (at' + 1))) (.bool false)
  have hch:Chg (fun x=>x=wk∨x=w.heap.size∨x=w.heap.size+1) w3 (((((((((((w3.setCell ⟨wk,0,none⟩ (.int .i64 ((at':Int)+1))).setCell ⟨w.heap.size+1,4,none⟩ (.int .u64 ((2:Int) ^ (at' + 1)))).setCell ⟨w.heap.size+1,5,none⟩ (.int .u64 ((2:Int) ^ (at' + 1)))).setCell ⟨w.heap.size+1,6,none⟩ (.bool false)).setCell ⟨w.heap.size,0,none⟩ (.pointer (some ⟨nb,no,none⟩))).setCell ⟨w.heap.size,1,none⟩ (.int .i64 ar)).setCell ⟨w.heap.size,2,none⟩ (.int .i64 ar)).setCell ⟨w.heap.size,3,none⟩ (.slice sa sn sc)).setCell ⟨w.heap.size,4,none⟩ (.int .u64 ((2:Int) ^ (at' + 1)))).setCell ⟨w.heap.size,5,none⟩ (.int .u64 ((2:Int) ^ (at' + 1)))).setCell ⟨w.heap.size,6,none⟩ (.bool false)) :=
   (((((Chg.refl _ w3).setCell (p:=⟨wk,0,none⟩) (fun _=>.inl rfl) _).setCell (p:=⟨w.heap.size+1,4,none⟩) (fun _=>.inr (.inr rfl)) _).setCell (p:=⟨w.heap.size+1,5,none⟩) (fun _=>.inr (.inr rfl)) _).setCell (p:=⟨w.heap.size+1,6,none⟩) (fun _=>.inr (.inr rfl)) _).trans hc7 (fun x _ e=>.inr (.inl e))
  have hrw:=(hc7.block wk (by simp [World.setCell];omega) (fun e=>n0 e)).trans hw4
  clear hc7 hw4 hw1 hb4
  generalize (((((((((((w3.setCell ⟨wk,0,none⟩ (.int .i64 ((at':Int)+1))).setCell ⟨w.heap.size+1,4,none⟩ (.int .u64 ((2:Int) ^ (at' + 1)))).setCell ⟨w.heap.size+1,5,none⟩ (.int .u64 ((2:Int) ^ (at' + 1)))).setCell ⟨w.heap.size+1,6,none⟩ (.bool false)).setCell ⟨w.heap.size,0,none⟩ (.pointer (some ⟨nb,no,none⟩))).setCell ⟨w.heap.size,1,none⟩ (.int .i64 ar)).setCell ⟨w.heap.size,2,none⟩ (.int .i64 ar)).setCell ⟨w.heap.size,3,none⟩ (.slice sa sn sc)).setCell ⟨w.heap.size,4,none⟩ (.int .u64 ((2:Int) ^ (at' + 1)))).setCell ⟨w.heap.size,5,none⟩ (.int .u64 ((2:Int) ^ (at' + 1)))).setCell ⟨w.heap.size,6,none⟩ (.bool false))=w8 at *
  obtain ⟨⟨r0,r1,r2,r3,r4,r5,r6⟩,_⟩:=cells7 hf
  have hcw:Chg (fun b=>b=wk) w w8.drew:=by
   refine ⟨hch.os.trans HB.out.1.os,hch.tape.trans HB.out.1.tape,hch.output.trans HB.out.1.output,Nat.le_trans HB.out.1.size hch.size,fun x hx hn=>(hch.block x (by omega) ?_).trans (HB.out.1.block x hx)⟩
   rintro (h | h | h)
   ·exact hn h
   ·omega
   ·omega
  have hml:=hW.met.lt
  have hjl:=hW.joi.lt
  refine bodyPost_ret (v:=.agg #[.pointer (some ⟨nb,no,none⟩),.int .i64 ar,.int .i64 ar,.slice sa sn sc,.int .u64 ((2:Int) ^ (at' + 1)),.int .u64 ((2:Int) ^ (at' + 1)),.bool false]) (by simp [results,Tryd.results34,go_sem,r0,r1,r2,r3,r4,r5,r6]) rfl ⟨by unfold grp7;simp,⟨?_,hW.met.at (hcw.block mb hml (fun e=>hW.wk_met.1 e.symm)),hW.joi.at (hcw.block jb hjl (fun e=>hW.wk_met.2 e.symm)),hW.ne,hW.inv⟩,hcw⟩
  exact hrw
theorem opened_any (w:World) {wk mb jb at' nm nj:Nat} {S:St→Prop} {T:Jt→Prop} (hW:Wk w wk mb jb at' S T nm nj) (hat:at' < 63) (nb no ar:Nat) (k:Int) (C:Nat→Nat) (lo hi:Int) (sa:Option Addr) (sn sc:Nat) (hn:Nd8 w nb no k C lo hi (.slice sa sn sc))
  (hk:k=0∨k=1∨k=2∨k=3∨k=4) (har:ar<1000) (hok:k=4→okT (.node 4 zeros lo hi [.node 0 zeros 0 0 []])=true) :
  Calls Tryd.prog 34 #[.pointer (some ⟨wk,0,none⟩),.pointer (some ⟨nb,no,none⟩),.int .i64 ar] w fun e w'=>e=.returned (.agg (grp7 nb no ar (blA ar (cnt4 k lo hi)) (.slice sa sn sc) (opF k C lo at')))∧Wk w' wk mb jb (opA k C at') S T nm nj∧Chg (fun b=>b=wk) w w':=by
 have fin:∀ {w':World},Below w.heap.size w w'→Wk w' wk mb jb at' S T nm nj∧Chg (fun b=>b=wk) w w':=fun h =>
  ⟨hW.chg (Chg.of_below (R:=fun _=>False) h) ⟨fun h=>h,fun h=>h,fun h=>h⟩,Chg.of_below h⟩
 rcases hk with rfl | rfl | rfl | rfl | rfl
 ·refine (opened_none w wk nb no ar C lo hi sa sn sc hn).mono ?_
  rintro e w' ⟨rfl,hb⟩
  exact ⟨by simp [cnt4,blA,opF,isPos],by simpa [opA,isPos] using fin hb⟩
 ·cases hz:z4 C with
  | true =>
   refine (opened_void w wk nb no ar C lo hi sa sn sc hn hz).mono ?_
   rintro e w' ⟨rfl,hb⟩
   exact ⟨by simp [cnt4,blA,opF,isPos,hz],by simpa [opA,isPos,hz] using fin hb⟩
  | false =>
   refine (opened_byte w hW hat nb no ar C lo hi sa sn sc hn hz).mono ?_
   rintro e w' ⟨rfl,hb⟩
   exact ⟨by simp [cnt4,blA,opF,isPos,hz],by simpa [opA,isPos,hz] using hb⟩
 ·refine (opened_cat w wk nb no ar C lo hi sa sn sc hn).mono ?_
  rintro e w' ⟨rfl,hb⟩
  exact ⟨by simp [cnt4,blA,opF,isPos],by simpa [opA,isPos] using fin hb⟩
 ·refine (opened_alt w wk nb no ar C lo hi sa sn sc hn).mono ?_
  rintro e w' ⟨rfl,hb⟩
  exact ⟨by simp [cnt4,blA,opF,isPos],by simpa [opA,isPos] using fin hb⟩
 ·refine (opened_rep w wk nb no ar C lo hi sa sn sc hn har (hok rfl)).mono ?_
  rintro e w' ⟨rfl,hb⟩
  exact ⟨by simp [cnt4,opF,isPos],by simpa [opA,isPos] using fin hb⟩
end Go.Proofs.YtbohmcfplgdlpaaDoor
