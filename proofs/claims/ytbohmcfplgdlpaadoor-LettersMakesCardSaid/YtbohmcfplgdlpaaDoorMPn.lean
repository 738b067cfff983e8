/- The leaf of the statements' awake, and a map's box: plain facts.
   Conditions: those that each theorem states. -/
import Derived.Test.YtbohmcfplgdlpaaDoorMVoid
import Derived.Test.YtbohmcfplgdlpaaDoorMSame
import Derived.Test.YtbohmcfplgdlpaaDoorMSn
import Derived.StillTailTactics
import Derived.Deep.DeepCutAuto
import Derived.Test.YtbohmcfplgdlpaaDoorMForm
import Derived.Test.YtbohmcfplgdlpaaDoorMWk

/- What scopes count, what is behind the next time, whether they may be left: contracts.
   No conditions but those that each theorem states. -/
namespace Go.Proofs.YtbohmcfplgdlpaaDoor
open Go.RowKit Go.Shelf
def cntS (low high:Int):Bool:=decide (1<high∨(high = -1∧1<low))
set_option maxHeartbeats 2000000 in
set_option maxRecDepth 100000 in
theorem counts_any (low high:Int) (w:World) :
  Calls Tryd.prog 67 #[.agg #[.int .i64 low,.int .i64 high]] w fun e w'=>e=.returned (.bool (cntS low high))∧Below w.heap.size w w':=by
 by_cases g1:1<high
 ·have hc:cntS low high=true:=decide_eq_true (.inl g1)
  rw [hc]
  clear hc
  go_enter Tryd.func67,Tryd.ntmps67
  go_wp2_with fail
  go_ret
  exact ⟨rfl,(Below.refl _ w).alloc (Nat.le_refl _) _⟩
 ·by_cases g2:high = -1
  ·subst g2
   by_cases g3:1<low
   ·have hc:cntS low (-1)=true:=decide_eq_true (.inr ⟨rfl,g3⟩)
    rw [hc]
    clear hc
    go_enter Tryd.func67,Tryd.ntmps67
    go_wp2_with fail
    go_ret
    exact ⟨rfl,(Below.refl _ w).alloc (Nat.le_refl _) _⟩
   ·have hc:cntS low (-1)=false:=decide_eq_false (by omega)
    rw [hc]
    clear hc
    go_enter Tryd.func67,Tryd.ntmps67
    go_wp2_with fail
    go_ret
    exact ⟨rfl,(Below.refl _ w).alloc (Nat.le_refl _) _⟩
  ·have hc:cntS low high=false:=decide_eq_false (by omega)
   rw [hc]
   clear hc
   go_enter Tryd.func67,Tryd.ntmps67
   go_wp2_with fail
   go_ret
   exact ⟨rfl,(Below.refl _ w).alloc (Nat.le_refl _) _⟩
def ZB2 (b:Nat) (W:World):Prop:=W.heap[b]? = some (.cells #[.int .i64 0,.int .i64 0] 154 (0,0))
theorem ZB2.cells {b:Nat} {W:World} (h:ZB2 b W):(W.cell? ⟨b,0,none⟩=some (.int .i64 0)∧W.cell? ⟨b,1,none⟩=some (.int .i64 0))∧W.frozen? ⟨b,0,none⟩=false∧W.frozen? ⟨b,1,none⟩=false∧b<W.heap.size:=by
 have q:=(row_cells h).2
 have p:=(row_cells h).1
 exact ⟨⟨p 0,p 1⟩,q 0,q 1,(Array.getElem?_eq_some_iff.1 h).1⟩
theorem cells2 {w:World} {b:Nat} {a0 a1:Value} {e:TypeId} {m:Nat×Nat} (h:w.heap[b]? = some (.cells #[a0,a1] e m)):w.cell? ⟨b,0,none⟩=some a0∧w.cell? ⟨b,1,none⟩=some a1:=by
 have q:∀ j,w.cell? ⟨b,j,none⟩=#[a0,a1][j]?:=fun j=>by simp [World.cell?,h]
 exact ⟨q 0,q 1⟩
theorem set2_heap {w:World} {b:Nat} (h:ZB2 b w) (a0 a1:Value):((w.setCell ⟨b,0,none⟩ a0).setCell ⟨b,1,none⟩ a1).heap[b]? = some (.cells #[a0,a1] 154 (0,0)):=by
 unfold ZB2 at h
 simp [World.setCell,Array.getElem?_modify,h]
theorem set2_chg (w:World) (b:Nat) (a0 a1:Value):Chg (fun x=>x=b) w ((w.setCell ⟨b,0,none⟩ a0).setCell ⟨b,1,none⟩ a1):=by
 refine ((Chg.refl _ w).setCell ?_ _).setCell ?_ _
 all_goals exact fun _=>rfl
set_option maxHeartbeats 2000000 in
set_option maxRecDepth 100000 in
theorem scopeOf_any (b:Nat) (lo hi:Int) (w:World) (h6:w.cell? ⟨b,6,none⟩=some (.int .i64 lo)) (h7:w.cell? ⟨b,7,none⟩=some (.int .i64 hi)) (hlt:b<w.heap.size) :
  Calls Tryd.prog 66 #[.pointer (some ⟨b,0,none⟩)] w fun e w'=>e=.returned (.agg #[.int .i64 (max 1 lo),.int .i64 hi])∧Below w.heap.size w w':=by
 obtain ⟨w2,hw2⟩ : ∃ w2,w.alloc (.cells #[.int .i64 0,.int .i64 0] 154)=w2:=⟨_,rfl⟩
 have hb2:Below w.heap.size w w2:=hw2▸(Below.refl _ w).alloc (Nat.le_refl _) _
 have e1:ZB2 w.heap.size w2:=by rw [← hw2];exact heap_alloc_new w _
 rw [← hb2.cell (p:=⟨b,6,none⟩) hlt] at h6
 rw [← hb2.cell (p:=⟨b,7,none⟩) hlt] at h7
 have HB:=Lib.hid (And.intro hb2 e1)
 clear hb2 e1 hlt
 go_enter Tryd.func66,Tryd.ntmps66
 go_upto_region 1 with fail
 clear hw2
 go_still_tail 10,(by kernel_rfl)
 change wpList _ _ _ _ _ w2.drew
 have HX:=Lib.hid (show ZB2 w.heap.size w2.drew∧Below w.heap.size w w2.drew from ⟨HB.out.2,HB.out.1.drew⟩)
 replace h6:w2.drew.cell? ⟨b,6,none⟩=some (.int .i64 lo):=h6
 replace h7:w2.drew.cell? ⟨b,7,none⟩=some (.int .i64 hi):=h7
 generalize w2.drew=w3 at *
 obtain ⟨⟨s0,s1⟩,f0,f1,hl⟩:=HX.out.1.cells
 go_wp2_with fail
 case inl =>
  rw [show (max 1 lo:Int)=lo by omega]
  have hf:=set2_heap HX.out.1 (.int .i64 lo) (.int .i64 hi)
  have hch:=set2_chg w3 w.heap.size (.int .i64 lo) (.int .i64 hi)
  generalize ((w3.setCell ⟨w.heap.size,0,none⟩ (.int .i64 lo)).setCell ⟨w.heap.size,1,none⟩ (.int .i64 hi))=w4 at *
  obtain ⟨r0,r1⟩:=cells2 hf
  refine bodyPost_ret (v:=.agg #[.int .i64 lo,.int .i64 hi]) (by simp [results,Tryd.results66,go_sem,r0,r1]) rfl ⟨rfl,?_⟩
  exact HX.out.2.trans (hch.below (by have:=HX.out.2.size;omega) fun k hk e=>by omega)
 case inr =>
  rw [show (max 1 lo:Int)=1 by omega]
  clear h6 h7 s0 s1 f0 f1
  have hf:=set2_heap HX.out.1 (.int .i64 1) (.int .i64 hi)
  have hch:=set2_chg w3 w.heap.size (.int .i64 1) (.int .i64 hi)
  generalize ((w3.setCell ⟨w.heap.size,0,none⟩ (.int .i64 1)).setCell ⟨w.heap.size,1,none⟩ (.int .i64 hi))=w4 at *
  obtain ⟨r0,r1⟩:=cells2 hf
  refine bodyPost_ret (v:=.agg #[.int .i64 1,.int .i64 hi]) (by simp [results,Tryd.results66,go_sem,r0,r1]) rfl ⟨rfl,?_⟩
  exact HX.out.2.trans (hch.below (by have:=HX.out.2.size;omega) fun k hk e=>by omega)
end Go.Proofs.YtbohmcfplgdlpaaDoor

/- Whether a repeated node counts, by the document and by the program: contracts.
   No conditions but those that each theorem states. -/
namespace Go.Proofs.YtbohmcfplgdlpaaDoor
open Go.RowKit Go.Shelf
def Bx2 (b:Nat) (pv:Value) (lo hi:Int) (W:World):Prop:=W.heap[b]? = some (.cells #[.int .i64 4,.int .u64 0,.int .u64 0,.int .u64 0,.int .u64 0,pv,.int .i64 lo,.int .i64 hi] 27 (0,0))∧ZB2 (b+1) W
theorem Bx2.low {b:Nat} {pv:Value} {lo hi:Int} {W W':World} (h:Bx2 b pv lo hi W) (hb:Below W.heap.size W W'):Bx2 b pv lo hi W' :=
 ⟨(hb.block _ (Array.getElem?_eq_some_iff.1 h.1).1).trans h.1,(hb.block _ (Array.getElem?_eq_some_iff.1 h.2).1).trans h.2⟩
theorem bx2_new (w:World) (pv:Value) (lo hi:Int):∃ w2,(w.alloc (.cells #[.int .i64 4,.int .u64 0,.int .u64 0,.int .u64 0,.int .u64 0,pv,.int .i64 lo,.int .i64 hi] 27)).alloc (.cells #[.int .i64 0,.int .i64 0] 154)=w2∧Below w.heap.size w w2∧Bx2 w.heap.size pv lo hi w2:=by
 refine ⟨_,rfl,((Below.refl _ w).alloc (Nat.le_refl _) _).alloc (by simp) _,(Below.heap_alloc _ _ _ (by simp)).trans (heap_alloc_new w _),?_⟩
 have:=heap_alloc_new (w.alloc (.cells #[.int .i64 4,.int .u64 0,.int .u64 0,.int .u64 0,.int .u64 0,pv,.int .i64 lo,.int .i64 hi] 27)) (.cells #[.int .i64 0,.int .i64 0] 154)
 rw [World.size_alloc] at this
 exact this
end Go.Proofs.YtbohmcfplgdlpaaDoor

/- place.Counts of a formed repeated node: a contract.
   Conditions: the node lies in memory, and has at most 300000 nodes. -/
namespace Go.Proofs.YtbohmcfplgdlpaaDoor
open Go.RowKit Go.Shelf
set_option maxHeartbeats 4000000 in
set_option maxRecDepth 100000 in
theorem placeCounts_any (lo hi:Int) (sa:Option Addr) (sn sc:Nat) (ps:List V) (w:World) (R:Nat→Prop) (ht:Laid w R (.node 4 zeros lo hi (.slice sa sn sc) ps)) (hz:szT (erase (.node 4 zeros lo hi (.slice sa sn sc) ps))≤300000) (hok:okT (erase (.node 4 zeros lo hi (.slice sa sn sc) ps))=true) :
  Calls Tryd.prog 69 #[.agg #[.int .i64 4,.int .u64 0,.int .u64 0,.int .u64 0,.int .u64 0,.slice sa sn sc,.int .i64 lo,.int .i64 hi]] w fun e w'=>e=.returned (.tuple #[.agg #[.int .i64 (max 1 lo),.int .i64 hi],.bool (cntS (max 1 lo) hi)])∧Below w.heap.size w w':=by
 obtain ⟨m,hm⟩ : ∃ m,m=max 1 lo:=⟨_,rfl⟩
 rw [← hm]
 have HM:=Lib.hid hm
 clear hm
 obtain ⟨w2,hw2,hb2,hx⟩:=bx2_new w (.slice sa sn sc) lo hi
 have hl1:Laid w (fun x=>x<w.heap.size+1) (.node 4 zeros lo hi (.slice sa sn sc) ps):=ht.mono fun b hb _=>by omega
 have hl2:=laid_low hl1 hb2
 have HFm:=Lib.hid (callsIn_wide.1 (formed_in _ w2 sa sn sc rfl _ hl2 (by rw [dpt_erase];have:=dpt_sz (erase (V.node 4 zeros lo hi (.slice sa sn sc) ps));omega)))
 rw [hok] at HFm
 have HX:=Lib.hid (And.intro hx hb2)
 obtain ⟨c0,c1,c2,c3,c4,c5,c6,c7⟩:=cells8 hx.1
 clear hx hb2 hl1 hl2 ht hz hok
 go_enter Tryd.func69,Tryd.ntmps69
 go_upto_region 1 with fail
 clear hw2
 go_wp2_with fail
 go_at_call 43
 refine HFm.out.mono ?_
 rintro e w3 ⟨rfl,hb3⟩
 have HB3:=Lib.hid (And.intro (HX.out.1.low hb3) (bhop HX.out.2 hb3))
 clear hb3 c0 c1 c2 c3 c4 c5 c6 c7 HFm
 obtain ⟨c0,c1,c2,c3,c4,c5,c6,c7⟩:=cells8 HB3.out.1.1
 have hlt:=(Array.getElem?_eq_some_iff.1 HB3.out.1.1).1
 go_wp2_with fail
 go_at_call 66
 refine (scopeOf_any w.heap.size lo hi w3 c6 c7 hlt).mono ?_
 rintro e w4 ⟨rfl,hb4⟩
 rw [← HM.out]
 have HB4:=Lib.hid (And.intro (HB3.out.1.low hb4) (bhop HB3.out.2 hb4))
 clear hb4 c0 c1 c2 c3 c4 c5 c6 c7 hlt
 obtain ⟨w5,hw5⟩ : ∃ w5,w4.alloc (.cells #[.int .i64 m,.int .i64 hi] 154)=w5:=⟨_,rfl⟩
 have hs5:w5.heap[w4.heap.size]? = some (.cells #[.int .i64 m,.int .i64 hi] 154 (0,0)):=hw5▸heap_alloc_new w4 _
 have hb5:Below w4.heap.size w4 w5:=hw5▸(Below.refl _ w4).alloc (Nat.le_refl _) _
 have HB5:=Lib.hid (show Bx2 w.heap.size (.slice sa sn sc) lo hi w5∧Below w.heap.size w w5∧w5.heap[w4.heap.size]? = some (.cells #[.int .i64 m,.int .i64 hi] 154 (0,0)) from ⟨HB4.out.1.low hb5,bhop HB4.out.2 hb5,hs5⟩)
 clear hs5 hb5
 go_upto_region 4 with fail
 clear hw5
 obtain ⟨t0,t1⟩:=cells2 HB5.out.2.2
 have HC:=Lib.hid (fun (W:World) (h:Below w5.heap.size w5 W)=>show (Bx2 w.heap.size (.slice sa sn sc) lo hi W∧Below w.heap.size w W)∧W.cell? ⟨w4.heap.size,0,none⟩=some (.int .i64 m)∧W.cell? ⟨w4.heap.size,1,none⟩=some (.int .i64 hi) from
  ⟨⟨HB5.out.1.low h,bhop HB5.out.2.1 h⟩,cells2 ((h.block _ (Array.getElem?_eq_some_iff.1 HB5.out.2.2).1).trans HB5.out.2.2)⟩)
 generalize hcc:cntS m hi=c at *
 have HCC:=Lib.hid hcc
 clear hcc
 go_region_with (go_at_call 67;refine (counts_any m hi _).mono ?_;rintro e w7 ⟨rfl,hb7⟩;rw [HCC.out];have HB7:=Lib.hid (HC.out w7 (by first | exact bhop (Below.refl _ _).drew hb7 | exact hb7));obtain ⟨q0,q1⟩:=HB7.out.2;obtain ⟨⟨s0,s1⟩,f0,f1,hl⟩:=HB7.out.1.1.2.cells;clear hb7)
 all_goals
  go_wp2_with fail
  clear s0 s1 f0 f1
  have hf:=set2_heap HB7.out.1.1.2 (.int .i64 m) (.int .i64 hi)
  have hch:=set2_chg w7 (w.heap.size+1) (.int .i64 m) (.int .i64 hi)
  generalize ((w7.setCell ⟨w.heap.size+1,0,none⟩ (.int .i64 m)).setCell ⟨w.heap.size+1,1,none⟩ (.int .i64 hi))=w8 at *
  obtain ⟨r0,r1⟩:=cells2 hf
  refine bodyPost_ret (v:=.tuple #[.agg #[.int .i64 m,.int .i64 hi],.bool c]) (by simp [results,Tryd.results69,go_sem,r0,r1]) rfl ⟨by rw [HCC.out],?_⟩
  exact HB7.out.1.2.trans (hch.below (by have:=HB7.out.1.2.size;omega) fun k hk e=>by omega)
end Go.Proofs.YtbohmcfplgdlpaaDoor

/- Contracts of place's list of what is open: clone of nothing, within of a node that isn't repeated, put of a node that is no position, tooMuch.
   Conditions: those that each theorem states. -/
namespace Go.Proofs.YtbohmcfplgdlpaaDoor
open Go.RowKit Go.Shelf
set_option maxHeartbeats 2000000 in
set_option maxRecDepth 100000 in
theorem cloneI_nil (w:World) :
  Calls Tryd.prog 68 #[.slice none 0 0] w fun e w'=>e=.returned (.slice none 0 0)∧w'=w:=by
 have hnl:∀ W,(binOp .eql 34 (.slice none 0 0) (.slice none 0 0)).run Tryd.prog W=.ok (.bool true) W:=fun W=>by kernel_rfl
 go_enter Tryd.func68,Tryd.ntmps68
 go_wp2_with fail
 go_ret
 exact ⟨rfl,rfl⟩
set_option maxHeartbeats 2000000 in
set_option maxRecDepth 100000 in
theorem tooMuch_any (mb:Nat) (sa aa:Option Addr) (sn sc an ac:Nat) (w:World) (h8:w.cell? ⟨mb,8,none⟩=some (.slice sa sn sc)) (hsn:sn≤1000000) (hs0:1≤sn) (han:an≤1000000) :
  Calls Tryd.prog 48 #[.pointer (some ⟨mb,0,none⟩),.slice aa an ac] w fun e w'=>e=.returned (.bool (decide (41<sn∨4<an)))∧Below w.heap.size w w':=by
 have hw:IntKind.i64.wrap ((sn:Int) - 1)=(sn:Int) - 1:=by rw [IntKind.wrap_i64];omega
 by_cases g1:(40:Int)<(sn:Int) - 1
 ·rw [decide_eq_true (.inl (by omega))]
  go_enter Tryd.func48,Tryd.ntmps48
  go_wp2_with fail
  go_ret
  exact ⟨rfl,Below.refl _ w⟩
 ·by_cases g2:(4:Int)<(an:Int)
  ·rw [decide_eq_true (.inr (by omega))]
   go_enter Tryd.func48,Tryd.ntmps48
   go_wp2_with fail
   go_ret
   exact ⟨rfl,Below.refl _ w⟩
  ·rw [decide_eq_false (by omega)]
   go_enter Tryd.func48,Tryd.ntmps48
   go_wp2_with fail
   go_ret
   exact ⟨rfl,Below.refl _ w⟩
set_option maxHeartbeats 2000000 in
set_option maxRecDepth 100000 in
theorem within_plain (mp:Value) (nb no:Nat) (k:Int) (av:Value) (w:World) (h0:w.cell? ⟨nb,no,none⟩=some (.int .i64 k)) (hk:k=0∨k=1∨k=2∨k=3) :
  Calls Tryd.prog 46 #[mp,.pointer (some ⟨nb,no,none⟩),av] w fun e w'=>e=.returned av∧Below w.heap.size w w':=by
 rcases hk with rfl | rfl | rfl | rfl
 all_goals
  go_enter Tryd.func46,Tryd.ntmps46
  go_wp2_with fail
  go_ret
  exact ⟨rfl,Below.refl _ w⟩
set_option maxHeartbeats 2000000 in
set_option maxRecDepth 100000 in
theorem put_other (mp:Value) (nb no:Nat) (k:Int) (av:Value) (w:World) (h0:w.cell? ⟨nb,no,none⟩=some (.int .i64 k)) (hk:k≠1) :
  Calls Tryd.prog 47 #[mp,.pointer (some ⟨nb,no,none⟩),av] w fun e w'=>e=.returned (.tuple #[])∧Below w.heap.size w w':=by
 go_enter Tryd.func47,Tryd.ntmps47
 go_wp2_with fail
 go_end0
 exact ⟨rfl,Below.refl _ w⟩
end Go.Proofs.YtbohmcfplgdlpaaDoor

/- The leaf of the statements' awake, and a map's box: plain facts.
   Conditions: those that each theorem states. -/
namespace Go.Proofs.YtbohmcfplgdlpaaDoor
open Go.RowKit Go.Shelf
attribute [local go_sem] nodeAgg
def ZBM (b:Nat) (W:World):Prop:=W.heap[b]? = some (.cells #[.int .i64 0,.int .u64 0,.int .u64 0,.int .u64 0,.int .u64 0,.slice none 0 0,.int .i64 0,.int .i64 0,.slice none 0 0,.slice none 0 0,.slice none 0 0] 33 (0,0))
theorem ZBM.cells {b:Nat} {W:World} (h:ZBM b W):(W.cell? ⟨b,0,none⟩=some (.int .i64 0)∧W.cell? ⟨b,1,none⟩=some (.int .u64 0)∧W.cell? ⟨b,2,none⟩=some (.int .u64 0)∧W.cell? ⟨b,3,none⟩=some (.int .u64 0)∧W.cell? ⟨b,4,none⟩=some (.int .u64 0)∧W.cell? ⟨b,5,none⟩=some (.slice none 0 0)∧W.cell? ⟨b,6,none⟩=some (.int .i64 0)∧W.cell? ⟨b,7,none⟩=some (.int .i64 0)∧W.cell? ⟨b,8,none⟩=some (.slice none 0 0)∧W.cell? ⟨b,9,none⟩=some (.slice none 0 0)∧W.cell? ⟨b,10,none⟩=some (.slice none 0 0))∧(∀ j,W.frozen? ⟨b,j,none⟩=false)∧b<W.heap.size:=by
 have q:=(row_cells h).2
 have p:=(row_cells h).1
 exact ⟨⟨p 0,p 1,p 2,p 3,p 4,p 5,p 6,p 7,p 8,p 9,p 10⟩,q,(Array.getElem?_eq_some_iff.1 h).1⟩
theorem set11_heap {w:World} {b:Nat} (h:ZBM b w) (a0 a1 a2 a3 a4 a5 a6 a7 a8 a9 a10:Value):(((((((((((w.setCell ⟨b,0,none⟩ a0).setCell ⟨b,1,none⟩ a1).setCell ⟨b,2,none⟩ a2).setCell ⟨b,3,none⟩ a3).setCell ⟨b,4,none⟩ a4).setCell ⟨b,5,none⟩ a5).setCell ⟨b,6,none⟩ a6).setCell ⟨b,7,none⟩ a7).setCell ⟨b,8,none⟩ a8).setCell ⟨b,9,none⟩ a9).setCell ⟨b,10,none⟩ a10).heap[b]? = some (.cells #[a0,a1,a2,a3,a4,a5,a6,a7,a8,a9,a10] 33 (0,0)):=by
 unfold ZBM at h
 simp [World.setCell,Array.getElem?_modify,h]
theorem set11_chg (w:World) (b:Nat) (a0 a1 a2 a3 a4 a5 a6 a7 a8 a9 a10:Value):Chg (fun x=>x=b) w (((((((((((w.setCell ⟨b,0,none⟩ a0).setCell ⟨b,1,none⟩ a1).setCell ⟨b,2,none⟩ a2).setCell ⟨b,3,none⟩ a3).setCell ⟨b,4,none⟩ a4).setCell ⟨b,5,none⟩ a5).setCell ⟨b,6,none⟩ a6).setCell ⟨b,7,none⟩ a7).setCell ⟨b,8,none⟩ a8).setCell ⟨b,9,none⟩ a9).setCell ⟨b,10,none⟩ a10):=by
 refine ((((((((((((Chg.refl _ w).setCell ?_ _).setCell ?_ _).setCell ?_ _).setCell ?_ _).setCell ?_ _).setCell ?_ _).setCell ?_ _).setCell ?_ _).setCell ?_ _).setCell ?_ _).setCell ?_ _)
 all_goals exact fun _=>rfl
end Go.Proofs.YtbohmcfplgdlpaaDoor
