/- core.Simple: the contract: a formed tree's simple tree, in memory of its own; else nothing, and the error.
   Conditions: the tree lies in memory, and has at most 300000 nodes. -/
import Derived.Test.YtbohmcfplgdlpaaDoorMFoldG
import Derived.Test.YtbohmcfplgdlpaaDoorMFoldS
import Derived.Test.YtbohmcfplgdlpaaDoorMMelt
import Derived.Deep.LoopGhost
import Derived.Deep.RegionLaw
import Derived.Deep.RegionWith
import Derived.Deep.AppendLies
import Derived.Test.YtbohmcfplgdlpaaDoorMVoid
import Derived.Test.YtbohmcfplgdlpaaDoorMSame
import Derived.Test.YtbohmcfplgdlpaaDoorMForm
import Derived.Deep.DeepCutAuto

/- core.Simple: the contract: a formed tree's simple tree, in memory of its own; else nothing, and the error.
   Conditions: the tree lies in memory, and has at most 300000 nodes. -/
namespace Go.Proofs.YtbohmcfplgdlpaaDoor
open Go.RowKit Go.Shelf
attribute [local go_sem] nodeAgg
theorem fldG (t:V) (v:Value) (n:Bool) (w:World):(Instr.field 117 (.agg #[.int .i64 t.kind,.int .u64 (t.set 0:Nat),.int .u64 (t.set 1:Nat),.int .u64 (t.set 2:Nat),.int .u64 (t.set 3:Nat),v,.int .i64 t.lo,.int .i64 t.hi,.bool n]) 0).run Tryd.prog w=.ok (.agg #[.int .i64 t.kind,.int .u64 (t.set 0:Nat),.int .u64 (t.set 1:Nat),.int .u64 (t.set 2:Nat),.int .u64 (t.set 3:Nat),v,.int .i64 t.lo,.int .i64 t.hi]) w:=by kernel_rfl
set_option maxHeartbeats 4000000 in
set_option maxRecDepth 100000 in
theorem simple_bad (t:V) (w:World) (R:Nat→Prop) (ht:Laid w R t) (hz:szT (erase t)≤300000) (hok:okT (erase t)=false) :
  Calls Tryd.prog 32 #[nodeAgg t] w fun e w'=>e=.returned (.tuple #[nodeAgg zeroV,.int .i64 1])∧Below w.heap.size w w':=by
 obtain ⟨sa,sn,sc,hv0⟩:=ht.slice
 obtain ⟨w2,hw2⟩ : ∃ w2,(w.alloc (.cells #[.int .i64 t.kind,.int .u64 (t.set 0:Nat),.int .u64 (t.set 1:Nat),.int .u64 (t.set 2:Nat),.int .u64 (t.set 3:Nat),.slice sa sn sc,.int .i64 t.lo,.int .i64 t.hi] 27)).alloc (.cells #[.int .i64 0,.int .u64 0,.int .u64 0,.int .u64 0,.int .u64 0,.slice none 0 0,.int .i64 0,.int .i64 0] 27)=w2:=⟨_,rfl⟩
 have hb2:Below w.heap.size w w2:=hw2▸((Below.refl _ w).alloc (Nat.le_refl _) _).alloc (by simp) _
 have e1:w2.heap[w.heap.size]? = some (.cells #[.int .i64 t.kind,.int .u64 (t.set 0:Nat),.int .u64 (t.set 1:Nat),.int .u64 (t.set 2:Nat),.int .u64 (t.set 3:Nat),.slice sa sn sc,.int .i64 t.lo,.int .i64 t.hi] 27 (0,0)):=by rw [← hw2];exact (Below.heap_alloc _ _ _ (by simp)).trans (heap_alloc_new w _)
 have e2:ZB8 (w.heap.size+1) w2:=by
  rw [← hw2]
  have:=heap_alloc_new (w.alloc (.cells #[.int .i64 t.kind,.int .u64 (t.set 0:Nat),.int .u64 (t.set 1:Nat),.int .u64 (t.set 2:Nat),.int .u64 (t.set 3:Nat),.slice sa sn sc,.int .i64 t.lo,.int .i64 t.hi] 27)) (.cells #[.int .i64 0,.int .u64 0,.int .u64 0,.int .u64 0,.int .u64 0,.slice none 0 0,.int .i64 0,.int .i64 0] 27)
  rw [World.size_alloc] at this
  exact this
 have hl1:Laid w (fun x=>x<w.heap.size+1) t:=ht.mono fun b hb _=>by omega
 have hl2:=laid_low hl1 hb2
 have HFm:=Lib.hid (callsIn_wide.1 (formed_in t w2 sa sn sc hv0 _ hl2 (by rw [dpt_erase];have:=dpt_sz (erase t);omega)))
 have HB:=Lib.hid (And.intro hb2 (And.intro e1 e2))
 obtain ⟨c0,c1,c2,c3,c4,c5,c6,c7⟩:=cells8 e1
 rw [hok] at HFm
 rw [nodeAgg_v hv0]
 clear hb2 e1 e2 hl1 hl2 ht hz hok hv0
 go_enter Tryd.func32,Tryd.ntmps32
 go_upto_region 1 with fail
 clear hw2
 go_wp2_with fail
 go_at_call 43
 refine HFm.out.mono ?_
 rintro e w3 ⟨rfl,hb3⟩
 have HB3:=Lib.hid hb3
 clear hb3 c0 c1 c2 c3 c4 c5 c6 c7
 have hz3:ZB8 (w.heap.size+1) w3:=(HB3.out.block _ (Array.getElem?_eq_some_iff.1 HB.out.2.2).1).trans HB.out.2.2
 obtain ⟨⟨s0,s1,s2,s3,s4,s5,s6,s7⟩,f0,f1,f2,f3,f4,f5,f6,f7,hl⟩:=hz3.cells
 have HX:=Lib.hid hz3
 clear hz3
 go_wp2_with fail
 have hf:=set8x_heap HX.out (.int .i64 0) (.int .u64 0) (.int .u64 0) (.int .u64 0) (.int .u64 0) (.slice none 0 0) (.int .i64 0) (.int .i64 0)
 have hch:=set8x_chg w3 (w.heap.size+1) (.int .i64 0) (.int .u64 0) (.int .u64 0) (.int .u64 0) (.int .u64 0) (.slice none 0 0) (.int .i64 0) (.int .i64 0)
 clear s0 s1 s2 s3 s4 s5 s6 s7 f0 f1 f2 f3 f4 f5 f6 f7
 generalize ((((((((w3.setCell ⟨w.heap.size+1,0,none⟩ (.int .i64 0)).setCell ⟨w.heap.size+1,1,none⟩ (.int .u64 0)).setCell ⟨w.heap.size+1,2,none⟩ (.int .u64 0)).setCell ⟨w.heap.size+1,3,none⟩ (.int .u64 0)).setCell ⟨w.heap.size+1,4,none⟩ (.int .u64 0)).setCell ⟨w.heap.size+1,5,none⟩ (.slice none 0 0)).setCell ⟨w.heap.size+1,6,none⟩ (.int .i64 0)).setCell ⟨w.heap.size+1,7,none⟩ (.int .i64 0))=w5 at *
 obtain ⟨r0,r1,r2,r3,r4,r5,r6,r7⟩:=cells8 hf
 refine bodyPost_ret (v:=.tuple #[.agg #[.int .i64 0,.int .u64 0,.int .u64 0,.int .u64 0,.int .u64 0,.slice none 0 0,.int .i64 0,.int .i64 0],.int .i64 1]) (by simp [results,Tryd.results32,go_sem,r0,r1,r2,r3,r4,r5,r6,r7]) rfl ⟨rfl,?_⟩
 exact (bhop HB.out.1 HB3.out).trans (hch.below (by have:=(bhop HB.out.1 HB3.out).size;omega) fun k hk e=>by omega)
set_option maxHeartbeats 4000000 in
set_option maxRecDepth 100000 in
theorem simple_good (t:V) (w:World) (R:Nat→Prop) (ht:Laid w R t) (hz:szT (erase t)≤300000) (hok:okT (erase t)=true) :
  Calls Tryd.prog 32 #[nodeAgg t] w fun e w'=>(∃ r:V,e=.returned (.tuple #[nodeAgg r,.int .i64 0])∧erase r=simT (erase t)∧Res w' w.heap.size w'.heap.size r)∧Below w.heap.size w w':=by
 obtain ⟨sa,sn,sc,hv0⟩:=ht.slice
 obtain ⟨w2,hw2⟩ : ∃ w2,(w.alloc (.cells #[.int .i64 t.kind,.int .u64 (t.set 0:Nat),.int .u64 (t.set 1:Nat),.int .u64 (t.set 2:Nat),.int .u64 (t.set 3:Nat),.slice sa sn sc,.int .i64 t.lo,.int .i64 t.hi] 27)).alloc (.cells #[.int .i64 0,.int .u64 0,.int .u64 0,.int .u64 0,.int .u64 0,.slice none 0 0,.int .i64 0,.int .i64 0] 27)=w2:=⟨_,rfl⟩
 have hb2:Below w.heap.size w w2:=hw2▸((Below.refl _ w).alloc (Nat.le_refl _) _).alloc (by simp) _
 have e1:w2.heap[w.heap.size]? = some (.cells #[.int .i64 t.kind,.int .u64 (t.set 0:Nat),.int .u64 (t.set 1:Nat),.int .u64 (t.set 2:Nat),.int .u64 (t.set 3:Nat),.slice sa sn sc,.int .i64 t.lo,.int .i64 t.hi] 27 (0,0)):=by rw [← hw2];exact (Below.heap_alloc _ _ _ (by simp)).trans (heap_alloc_new w _)
 have e2:ZB8 (w.heap.size+1) w2:=by
  rw [← hw2]
  have:=heap_alloc_new (w.alloc (.cells #[.int .i64 t.kind,.int .u64 (t.set 0:Nat),.int .u64 (t.set 1:Nat),.int .u64 (t.set 2:Nat),.int .u64 (t.set 3:Nat),.slice sa sn sc,.int .i64 t.lo,.int .i64 t.hi] 27)) (.cells #[.int .i64 0,.int .u64 0,.int .u64 0,.int .u64 0,.int .u64 0,.slice none 0 0,.int .i64 0,.int .i64 0] 27)
  rw [World.size_alloc] at this
  exact this
 have hl1:Laid w (fun x=>x<w.heap.size+1) t:=ht.mono fun b hb _=>by omega
 have hl2:=laid_low hl1 hb2
 have hnode:NodeB (w.heap.size+1) w2 w.heap.size 0 t:=⟨by omega,fun j u hu=>by rw [Nat.zero_add,(row_cells e1).1 j,← hu,List.getElem?_toArray];unfold ndc;rw [hv0],hl2⟩
 have HFm:=Lib.hid (callsIn_wide.1 (formed_in t w2 sa sn sc hv0 _ hl2 (by rw [dpt_erase];have:=dpt_sz (erase t);omega)))
 have HFo:=Lib.hid (fun (W:World) (h:Below w2.heap.size w2 W)=>fold_G (w.heap.size+1) w.heap.size 0 t W (hnode.chg (Chg.of_below h)) hok (by have:=h.size;have:=(Array.getElem?_eq_some_iff.1 e2).1;omega) hz)
 have HB:=Lib.hid (And.intro hb2 (And.intro e1 e2))
 obtain ⟨c0,c1,c2,c3,c4,c5,c6,c7⟩:=cells8 e1
 rw [hok] at HFm
 rw [nodeAgg_v hv0]
 have HOK:=Lib.hid (And.intro hok hv0)
 clear hb2 e1 e2 hl1 hl2 hnode ht hz hok hv0
 have hfd:=fldG
 go_enter Tryd.func32,Tryd.ntmps32
 go_upto_region 1 with fail
 clear hw2
 go_wp2_with fail
 go_at_call 43
 refine HFm.out.mono ?_
 rintro e w3 ⟨rfl,hb3⟩
 have HB3:=Lib.hid hb3
 clear hb3 c0 c1 c2 c3 c4 c5 c6 c7
 go_wp2_with fail
 go_at_call 44
 refine (HFo.out w3 HB3.out).mono ?_
 rintro e w4 ⟨⟨⟨t',n'⟩,rfl,hx,hres⟩,hb4⟩
 obtain ⟨ta,tn,tc,hs⟩:=hres.laid.slice
 rw [rcells_v hs]
 have HB4:=Lib.hid (bhop HB3.out hb4)
 have hz4:ZB8 (w.heap.size+1) w4:=(HB4.out.block _ (Array.getElem?_eq_some_iff.1 HB.out.2.2).1).trans HB.out.2.2
 obtain ⟨⟨s0,s1,s2,s3,s4,s5,s6,s7⟩,f0,f1,f2,f3,f4,f5,f6,f7,hl⟩:=hz4.cells
 have HX:=Lib.hid (And.intro hx (And.intro hs (And.intro hres (And.intro hz4 (show w.heap.size+1<w3.heap.size by have:=(Array.getElem?_eq_some_iff.1 HB.out.2.2).1;have:=HB3.out.size;omega)))))
 clear hb4 hx hs hres hz4
 go_wp2_with fail
 have hf:=set8x_heap HX.out.2.2.2.1 (.int .i64 t'.kind) (.int .u64 (t'.set 0:Nat)) (.int .u64 (t'.set 1:Nat)) (.int .u64 (t'.set 2:Nat)) (.int .u64 (t'.set 3:Nat)) (.slice ta tn tc) (.int .i64 t'.lo) (.int .i64 t'.hi)
 have hch:=set8x_chg w4 (w.heap.size+1) (.int .i64 t'.kind) (.int .u64 (t'.set 0:Nat)) (.int .u64 (t'.set 1:Nat)) (.int .u64 (t'.set 2:Nat)) (.int .u64 (t'.set 3:Nat)) (.slice ta tn tc) (.int .i64 t'.lo) (.int .i64 t'.hi)
 clear s0 s1 s2 s3 s4 s5 s6 s7 f0 f1 f2 f3 f4 f5 f6 f7
 generalize ((((((((w4.setCell ⟨w.heap.size+1,0,none⟩ (.int .i64 t'.kind)).setCell ⟨w.heap.size+1,1,none⟩ (.int .u64 (t'.set 0:Nat))).setCell ⟨w.heap.size+1,2,none⟩ (.int .u64 (t'.set 1:Nat))).setCell ⟨w.heap.size+1,3,none⟩ (.int .u64 (t'.set 2:Nat))).setCell ⟨w.heap.size+1,4,none⟩ (.int .u64 (t'.set 3:Nat))).setCell ⟨w.heap.size+1,5,none⟩ (.slice ta tn tc)).setCell ⟨w.heap.size+1,6,none⟩ (.int .i64 t'.lo)).setCell ⟨w.heap.size+1,7,none⟩ (.int .i64 t'.hi))=w5 at *
 obtain ⟨r0,r1,r2,r3,r4,r5,r6,r7⟩:=cells8 hf
 refine bodyPost_ret (v:=.tuple #[.agg #[.int .i64 t'.kind,.int .u64 (t'.set 0:Nat),.int .u64 (t'.set 1:Nat),.int .u64 (t'.set 2:Nat),.int .u64 (t'.set 3:Nat),.slice ta tn tc,.int .i64 t'.lo,.int .i64 t'.hi],.int .i64 0]) (by simp [results,Tryd.results32,go_sem,r0,r1,r2,r3,r4,r5,r6,r7]) rfl ⟨⟨t',by rw [nodeAgg_v HX.out.2.1],congrArg Prod.fst HX.out.1,?_⟩,?_⟩
 ·refine (HX.out.2.2.1.chg hch fun x _ h4 _ e=>?_).wid (by have:=HX.out.2.2.2.2;omega) hch.size
  have:=HX.out.2.2.2.2
  omega
 ·exact (bhop HB.out.1 HB4.out).trans (hch.below (by have:=(bhop HB.out.1 HB4.out).size;omega) fun k hk e=>by omega)
end Go.Proofs.YtbohmcfplgdlpaaDoor
