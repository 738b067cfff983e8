/- The face of the next part is put to a group's own, where no joint comes of it: a contract.
   Conditions: the group, its node and the walker lie in memory. -/
import Derived.Test.YtbohmcfplgdlpaaDoorPA
import Derived.Deep.RegionWith
import Derived.Deep.RegionHeld3

namespace Go.Proofs.YtbohmcfplgdlpaaDoor
open Go.RowKit
structure Gd (w:World) (gb go nb no:Nat) (k hi:Int) (ar be:Nat) (f:Fc):Prop where
 p0:w.cell? ⟨gb,go,none⟩=some (.pointer (some ⟨nb,no,none⟩))
 p1:w.cell? ⟨gb,go+1,none⟩=some (.int .i64 ar)
 p2:w.cell? ⟨gb,go+2,none⟩=some (.int .i64 be)
 p4:w.cell? ⟨gb,go+4,none⟩=some (.int .u64 f.fi)
 p5:w.cell? ⟨gb,go+5,none⟩=some (.int .u64 f.la)
 p6:w.cell? ⟨gb,go+6,none⟩=some (.bool f.em)
 q4:w.frozen? ⟨gb,go+4,none⟩=false
 q5:w.frozen? ⟨gb,go+5,none⟩=false
 q6:w.frozen? ⟨gb,go+6,none⟩=false
 n0:w.cell? ⟨nb,no,none⟩=some (.int .i64 k)
 n7:w.cell? ⟨nb,no+7,none⟩=some (.int .i64 hi)
 lg:gb<w.heap.size
 ln:nb<w.heap.size
theorem Gd.at {w w':World} {gb go nb no:Nat} {k hi:Int} {ar be:Nat} {f:Fc} (h:Gd w gb go nb no k hi ar be f) (e:w'.heap[gb]? = w.heap[gb]?) (e':w'.heap[nb]? = w.heap[nb]?) (hs:w.heap.size≤w'.heap.size):Gd w' gb go nb no k hi ar be f :=
 ⟨(World.cell?_of_block e).trans h.p0,(World.cell?_of_block e).trans h.p1,(World.cell?_of_block e).trans h.p2,(World.cell?_of_block e).trans h.p4,(World.cell?_of_block e).trans h.p5,(World.cell?_of_block e).trans h.p6,
  (World.frozen?_of_block e).trans h.q4,(World.frozen?_of_block e).trans h.q5,(World.frozen?_of_block e).trans h.q6,(World.cell?_of_block e').trans h.n0,(World.cell?_of_block e').trans h.n7,Nat.lt_of_lt_of_le h.lg hs,Nat.lt_of_lt_of_le h.ln hs⟩
def setF (w:World) (gb go:Nat) (f:Fc):World:=((w.setCell ⟨gb,go+4,none⟩ (.int .u64 f.fi)).setCell ⟨gb,go+5,none⟩ (.int .u64 f.la)).setCell ⟨gb,go+6,none⟩ (.bool f.em)
theorem faceOr_at (f g o:Fc) (ho:orF f g=o) (hf:Fc64 f) (hg:Fc64 g) (w:World):Calls Tryd.prog 54 #[.agg #[.int .u64 (f.fi:Nat),.int .u64 (f.la:Nat),.bool f.em],.agg #[.int .u64 (g.fi:Nat),.int .u64 (g.la:Nat),.bool g.em]] w fun e w'=>e=.returned (.agg #[.int .u64 (o.fi:Nat),.int .u64 (o.la:Nat),.bool o.em])∧Below w.heap.size w w':=by
 subst ho
 exact faceOr_any f g hf hg w
theorem faceThen_at (f g o:Fc) (ho:thenF f g=o) (hf:Fc64 f) (hg:Fc64 g) (w:World):Calls Tryd.prog 53 #[.agg #[.int .u64 (f.fi:Nat),.int .u64 (f.la:Nat),.bool f.em],.agg #[.int .u64 (g.fi:Nat),.int .u64 (g.la:Nat),.bool g.em]] w fun e w'=>e=.returned (.agg #[.int .u64 (o.fi:Nat),.int .u64 (o.la:Nat),.bool o.em])∧Below w.heap.size w w':=by
 subst ho
 exact faceThen_any f g hf hg w
set_option maxHeartbeats 4000000 in
set_option maxRecDepth 100000 in
theorem add_plain (w:World) (wk gb go nb no:Nat) (k hi:Int) (ar be:Nat) (f g:Fc) (hG:Gd w gb go nb no k hi ar be f) (hf:Fc64 f) (hg:Fc64 g) (hk:k≠2) (hkh:¬ (k=4∧hi≠1)) :
  Calls Tryd.prog 35 #[.pointer (some ⟨wk,0,none⟩),.pointer (some ⟨gb,go,none⟩),.agg #[.int .u64 g.fi,.int .u64 g.la,.bool g.em]] w fun e w'=>e=.returned (.tuple #[])∧∃ w3,Below w.heap.size w w3∧w'=setF w3 gb go (orF f g):=by
 obtain ⟨o,ho⟩ : ∃ o,orF f g=o:=⟨_,rfl⟩
 have HO:=Lib.hid (And.intro ho (And.intro hf hg))
 rw [ho]
 have HG:=Lib.hid hG
 obtain ⟨p0,p1,p2,p4,p5,p6,q4,q5,q6,n0,n7,lg,ln⟩:=hG
 have k2:(k == 2)=false:=by simp [hk]
 obtain ⟨k4,hk4⟩ : ∃ b,(k == 4)=b:=⟨_,rfl⟩
 obtain ⟨h1,hh1⟩ : ∃ b,(hi != 1)=b:=⟨_,rfl⟩
 have hpk:k4=false∨h1=false:=by
  cases k4 with
  | false=>exact .inl rfl
  | true =>
   cases h1 with
   | false=>exact .inr rfl
   | true=>exact absurd ⟨by simpa using hk4,by simpa using hh1⟩ hkh
 clear ho hf hg hk hkh
 go_enter Tryd.func35,Tryd.ntmps35
 go_upto_region 1 with fail
 obtain ⟨w1,hw1⟩ : ∃ w1,w.alloc (.cells #[.int .u64 g.fi,.int .u64 g.la,.bool g.em] 72)=w1:=⟨_,rfl⟩
 rw [hw1]
 have hb1:Below w.heap.size w w1:=hw1▸(Below.refl _ w).alloc (Nat.le_refl _) _
 obtain ⟨⟨b0,b1,b2⟩,_⟩:=cells3 (hw1▸heap_alloc_new w _:w1.heap[w.heap.size]? = some (.cells #[.int .u64 g.fi,.int .u64 g.la,.bool g.em] 72 (0,0)))
 clear hw1
 have hG1:=HG.out.at (hb1.block _ lg) (hb1.block _ ln) hb1.size
 have HB1:=Lib.hid (And.intro hb1 hG1)
 clear p0 p1 p2 p4 p5 p6 q4 q5 q6 n0 n7 lg ln hb1
 obtain ⟨p0,p1,p2,p4,p5,p6,q4,q5,q6,n0,n7,lg,ln⟩:=hG1
 rcases hpk with rfl | rfl
 ·go_wp2_with fail
  go_region_with (go_at_call 54;refine (faceOr_at f g o HO.out.1 HO.out.2.1 HO.out.2.2 _).mono ?_;rintro e w5 ⟨rfl,hb5⟩;have hbw:Below w.heap.size w w5:=bhopO HB1.out.1.drew hb5;have hG5:=HG.out.at (hbw.block _ HG.out.lg) (hbw.block _ HG.out.ln) hbw.size;have HB:=Lib.hid hbw;clear p0 p1 p2 p4 p5 p6 q4 q5 q6 n0 n7 lg ln hb5 hbw;obtain ⟨p0,p1,p2,p4,p5,p6,q4,q5,q6,n0,n7,lg,ln⟩:=hG5)
  all_goals
   go_wp2_with fail
   first
    | exact bodyPost_ret (results_none rfl _ _ _) rfl ⟨rfl,w5,HB.out,rfl⟩
    | exact bodyPost_end (results_none rfl _ _ _) rfl ⟨rfl,w5,HB.out,rfl⟩
 ·cases k4 with
  | true =>
   go_wp2_with fail
   go_region_with (go_at_call 54;refine (faceOr_at f g o HO.out.1 HO.out.2.1 HO.out.2.2 _).mono ?_;rintro e w5 ⟨rfl,hb5⟩;have hbw:Below w.heap.size w w5:=bhopO HB1.out.1.drew hb5;have hG5:=HG.out.at (hbw.block _ HG.out.lg) (hbw.block _ HG.out.ln) hbw.size;have HB:=Lib.hid hbw;clear p0 p1 p2 p4 p5 p6 q4 q5 q6 n0 n7 lg ln hb5 hbw;obtain ⟨p0,p1,p2,p4,p5,p6,q4,q5,q6,n0,n7,lg,ln⟩:=hG5)
   all_goals
    go_wp2_with fail
    first
     | exact bodyPost_ret (results_none rfl _ _ _) rfl ⟨rfl,w5,HB.out,rfl⟩
     | exact bodyPost_end (results_none rfl _ _ _) rfl ⟨rfl,w5,HB.out,rfl⟩
  | false =>
   go_wp2_with fail
   go_region_with (go_at_call 54;refine (faceOr_at f g o HO.out.1 HO.out.2.1 HO.out.2.2 _).mono ?_;rintro e w5 ⟨rfl,hb5⟩;have hbw:Below w.heap.size w w5:=bhopO HB1.out.1.drew hb5;have hG5:=HG.out.at (hbw.block _ HG.out.lg) (hbw.block _ HG.out.ln) hbw.size;have HB:=Lib.hid hbw;clear p0 p1 p2 p4 p5 p6 q4 q5 q6 n0 n7 lg ln hb5 hbw;obtain ⟨p0,p1,p2,p4,p5,p6,q4,q5,q6,n0,n7,lg,ln⟩:=hG5)
   all_goals
    go_wp2_with fail
    first
     | exact bodyPost_ret (results_none rfl _ _ _) rfl ⟨rfl,w5,HB.out,rfl⟩
     | exact bodyPost_end (results_none rfl _ _ _) rfl ⟨rfl,w5,HB.out,rfl⟩
theorem cell_ne_map {w:World} {b o:Nat} {v:Value} {es:_} {c:_} (h:w.cell? ⟨b,o,none⟩=some v) {m:Nat} (hm:w.heap[m]? = some (.map es c)):b≠m:=by
 rintro rfl
 unfold World.cell? at h
 rw [show w.heap[(⟨b,o,none⟩ : Addr).block]? = _ from hm] at h
 cases h
set_option maxHeartbeats 4000000 in
set_option maxRecDepth 100000 in
theorem add_cat (w:World) {wk mb jb at' nm nj:Nat} {S:St→Prop} {T:Jt→Prop} (hW:Wk w wk mb jb at' S T nm nj) (hT:TabE w) (hTl:tabE<w.heap.size) (hnm:nm+4096<maxLen) (hnj:nj+1<maxLen)
  (gb go nb no:Nat) (hi:Int) (ar be:Nat) (f g:Fc) (hG:Gd w gb go nb no 2 hi ar be f) (hf:Fc64 f) (hg:Fc64 g) (har:ar<1000) :
  Calls Tryd.prog 35 #[.pointer (some ⟨wk,0,none⟩),.pointer (some ⟨gb,go,none⟩),.agg #[.int .u64 g.fi,.int .u64 g.la,.bool g.em]] w fun e w'=>e=.returned (.tuple #[])∧∃ w3,Wk w3 wk mb jb at' (fun s=>S s∨fromJ ⟨f.la,g.fi,ar,false⟩ s) (fun k=>T k∨k=⟨f.la,g.fi,ar,false⟩) (nm+4096) (nj+1)∧Chg (fun b=>b=mb∨b=jb) w w3∧w'=setF w3 gb go (thenF f g):=by
 obtain ⟨o,ho⟩ : ∃ o,thenF f g=o:=⟨_,rfl⟩
 have HO:=Lib.hid (And.intro ho (And.intro hf hg))
 rw [ho]
 obtain ⟨es1,c1,hmk⟩:=hW.met.kind
 obtain ⟨es2,c2,hjk⟩:=hW.joi.kind
 have HNE:=Lib.hid (And.intro (cell_ne_map hG.p0 hmk) (And.intro (cell_ne_map hG.p0 hjk) (And.intro (cell_ne_map hG.n0 hmk) (cell_ne_map hG.n0 hjk))))
 have HG:=Lib.hid hG
 have HW:=Lib.hid (And.intro hW (And.intro hT (And.intro hTl (And.intro hnm (And.intro hnj har)))))
 obtain ⟨p0,p1,p2,p4,p5,p6,q4,q5,q6,n0,n7,lg,ln⟩:=hG
 clear ho hf hg hW hT hTl hnm hnj har hmk hjk
 go_enter Tryd.func35,Tryd.ntmps35
 go_upto_region 1 with fail
 obtain ⟨w1,hw1⟩ : ∃ w1,w.alloc (.cells #[.int .u64 g.fi,.int .u64 g.la,.bool g.em] 72)=w1:=⟨_,rfl⟩
 rw [hw1]
 have hb1:Below w.heap.size w w1:=hw1▸(Below.refl _ w).alloc (Nat.le_refl _) _
 have hbx:w1.heap[w.heap.size]? = some (.cells #[.int .u64 g.fi,.int .u64 g.la,.bool g.em] 72 (0,0)):=hw1▸heap_alloc_new w _
 obtain ⟨⟨b0,b1,b2⟩,_⟩:=cells3 hbx
 clear hw1
 have hG1:=HG.out.at (hb1.block _ lg) (hb1.block _ ln) hb1.size
 have HB1:=Lib.hid (And.intro hb1 (And.intro hG1 hbx))
 clear p0 p1 p2 p4 p5 p6 q4 q5 q6 n0 n7 lg ln hb1 hbx
 obtain ⟨p0,p1,p2,p4,p5,p6,q4,q5,q6,n0,n7,lg,ln⟩:=hG1
 go_wp2_with fail
 go_still_tail 13,(by kernel_rfl)
 change wpList _ _ _ _ _ w1.drew
 go_wp2_with fail
 go_at_call 52
 have hW1:Wk w1.drew wk mb jb at' S T nm nj:=HW.out.1.chg (Chg.of_below (R:=fun _=>False) HB1.out.1.drew) ⟨fun h=>h,fun h=>h,fun h=>h⟩
 have hT1:TabE w1.drew:=fun i hi=>(World.cell?_of_block (w:=w) (HB1.out.1.block _ HW.out.2.2.1)).trans (HW.out.2.1 i hi)
 refine (join_any w1.drew hW1 ⟨f.la,g.fi,ar,false⟩ ⟨HO.out.2.1.la,HO.out.2.2.fi,by have:=HW.out.2.2.2.2.2;show ar<_;omega⟩ hT1 (Nat.lt_of_lt_of_le HW.out.2.2.1 HB1.out.1.size) HW.out.2.2.2.1 HW.out.2.2.2.2.1).mono ?_
 rintro e w5 ⟨rfl,hW5,hc5⟩
 have hne:=HNE.out
 have hml:=HW.out.1.met.lt
 have hjl:=HW.out.1.joi.lt
 have hG5:=HB1.out.2.1.at (hc5.block gb HB1.out.2.1.lg (by rintro (h | h);exact hne.1 h;exact hne.2.1 h)) (hc5.block nb HB1.out.2.1.ln (by rintro (h | h);exact hne.2.2.1 h;exact hne.2.2.2 h)) hc5.size
 have hbx5:=(hc5.block w.heap.size (Array.getElem?_eq_some_iff.1 HB1.out.2.2).1 (by rintro (h | h) <;> omega)).trans HB1.out.2.2
 have hc05:Chg (fun b=>b=mb∨b=jb) w w5:=(Chg.of_below (R:=fun b=>b=mb∨b=jb) HB1.out.1.drew).trans hc5 (fun _ _ h=>h)
 have H5:=Lib.hid (And.intro hW5 (And.intro hc05 (And.intro hG5 hbx5)))
 clear hW1 hT1 hne hml hjl p0 p1 p2 p4 p5 p6 q4 q5 q6 n0 n7 lg ln b0 b1 b2 hW5 hc5 hc05
 obtain ⟨p0,p1,p2,p4,p5,p6,q4,q5,q6,n0,n7,lg,ln⟩:=hG5
 obtain ⟨⟨b0,b1,b2⟩,_⟩:=cells3 hbx5
 clear hbx5
 go_wp2_with fail
 go_region_with (go_at_call 53;refine (faceThen_at f g o HO.out.1 HO.out.2.1 HO.out.2.2 _).mono ?_;rintro e w6 ⟨rfl,hb6⟩;have hbw:Below w5.heap.size w5 w6:=bhopO (Below.refl _ w5).drew hb6;have hG6:=H5.out.2.2.1.at (hbw.block _ H5.out.2.2.1.lg) (hbw.block _ H5.out.2.2.1.ln) hbw.size;have HB:=Lib.hid hbw;clear p0 p1 p2 p4 p5 p6 q4 q5 q6 n0 n7 lg ln hb6 hbw;obtain ⟨p0,p1,p2,p4,p5,p6,q4,q5,q6,n0,n7,lg,ln⟩:=hG6)
 all_goals
  go_wp2_with fail
  refine bodyPost_ret (results_none rfl _ _ _) rfl ⟨rfl,w6,H5.out.1.chg (Chg.of_below (R:=fun _=>False) HB.out) ⟨fun h=>h,fun h=>h,fun h=>h⟩,H5.out.2.1.trans (Chg.of_below (R:=fun _=>False) HB.out) (fun _ _ h=>h.elim),rfl⟩
set_option maxHeartbeats 4000000 in
set_option maxRecDepth 100000 in
theorem add_rep (w:World) {wk mb jb at' nm nj:Nat} {S:St→Prop} {T:Jt→Prop} (hW:Wk w wk mb jb at' S T nm nj) (hT:TabE w) (hTl:tabE<w.heap.size) (hnm:nm+4096<maxLen) (hnj:nj+1<maxLen)
  (gb go nb no:Nat) (hi:Int) (ar be:Nat) (f g:Fc) (hG:Gd w gb go nb no 4 hi ar be f) (hh:hi≠1) (hf:Fc64 f) (hg:Fc64 g) (har:ar<1000) :
  Calls Tryd.prog 35 #[.pointer (some ⟨wk,0,none⟩),.pointer (some ⟨gb,go,none⟩),.agg #[.int .u64 g.fi,.int .u64 g.la,.bool g.em]] w fun e w'=>e=.returned (.tuple #[])∧∃ w3,Wk w3 wk mb jb at' (fun s=>S s∨fromJ ⟨g.la,g.fi,ar,decide (ar<be)⟩ s) (fun k=>T k∨k=⟨g.la,g.fi,ar,decide (ar<be)⟩) (nm+4096) (nj+1)∧Chg (fun b=>b=mb∨b=jb) w w3∧w'=setF w3 gb go (orF f g):=by
 have h1:(hi != 1)=true:=by simp [hh]
 clear hh
 obtain ⟨ag,hag⟩ : ∃ ag,decide (ar<be)=ag:=⟨_,rfl⟩
 have hag':decide ((ar:Int)<(be:Int))=ag:=by rw [← hag];simp
 rw [hag]
 obtain ⟨o,ho⟩ : ∃ o,orF f g=o:=⟨_,rfl⟩
 have HO:=Lib.hid (And.intro ho (And.intro hf hg))
 rw [ho]
 obtain ⟨es1,c1,hmk⟩:=hW.met.kind
 obtain ⟨es2,c2,hjk⟩:=hW.joi.kind
 have HNE:=Lib.hid (And.intro (cell_ne_map hG.p0 hmk) (And.intro (cell_ne_map hG.p0 hjk) (And.intro (cell_ne_map hG.n0 hmk) (cell_ne_map hG.n0 hjk))))
 have HG:=Lib.hid hG
 have HW:=Lib.hid (And.intro hW (And.intro hT (And.intro hTl (And.intro hnm (And.intro hnj har)))))
 obtain ⟨p0,p1,p2,p4,p5,p6,q4,q5,q6,n0,n7,lg,ln⟩:=hG
 clear ho hf hg hW hT hTl hnm hnj har hmk hjk
 go_enter Tryd.func35,Tryd.ntmps35
 go_upto_region 1 with fail
 obtain ⟨w1,hw1⟩ : ∃ w1,w.alloc (.cells #[.int .u64 g.fi,.int .u64 g.la,.bool g.em] 72)=w1:=⟨_,rfl⟩
 rw [hw1]
 have hb1:Below w.heap.size w w1:=hw1▸(Below.refl _ w).alloc (Nat.le_refl _) _
 have hbx:w1.heap[w.heap.size]? = some (.cells #[.int .u64 g.fi,.int .u64 g.la,.bool g.em] 72 (0,0)):=hw1▸heap_alloc_new w _
 obtain ⟨⟨b0,b1,b2⟩,_⟩:=cells3 hbx
 clear hw1
 have hG1:=HG.out.at (hb1.block _ lg) (hb1.block _ ln) hb1.size
 have HB1:=Lib.hid (And.intro hb1 (And.intro hG1 hbx))
 clear p0 p1 p2 p4 p5 p6 q4 q5 q6 n0 n7 lg ln hb1 hbx
 obtain ⟨p0,p1,p2,p4,p5,p6,q4,q5,q6,n0,n7,lg,ln⟩:=hG1
 go_wp2_with fail
 go_still_tail 19,(by kernel_rfl)
 change wpList _ _ _ _ _ w1.drew
 go_wp2_with fail
 go_at_call 52
 have hW1:Wk w1.drew wk mb jb at' S T nm nj:=HW.out.1.chg (Chg.of_below (R:=fun _=>False) HB1.out.1.drew) ⟨fun h=>h,fun h=>h,fun h=>h⟩
 have hT1:TabE w1.drew:=fun i hi=>(World.cell?_of_block (w:=w) (HB1.out.1.block _ HW.out.2.2.1)).trans (HW.out.2.1 i hi)
 refine (join_any w1.drew hW1 ⟨g.la,g.fi,ar,ag⟩ ⟨HO.out.2.2.la,HO.out.2.2.fi,by have:=HW.out.2.2.2.2.2;show ar<_;omega⟩ hT1 (Nat.lt_of_lt_of_le HW.out.2.2.1 HB1.out.1.size) HW.out.2.2.2.1 HW.out.2.2.2.2.1).mono ?_
 rintro e w5 ⟨rfl,hW5,hc5⟩
 have hne:=HNE.out
 have hml:=HW.out.1.met.lt
 have hjl:=HW.out.1.joi.lt
 have hG5:=HB1.out.2.1.at (hc5.block gb HB1.out.2.1.lg (by rintro (h | h);exact hne.1 h;exact hne.2.1 h)) (hc5.block nb HB1.out.2.1.ln (by rintro (h | h);exact hne.2.2.1 h;exact hne.2.2.2 h)) hc5.size
 have hbx5:=(hc5.block w.heap.size (Array.getElem?_eq_some_iff.1 HB1.out.2.2).1 (by rintro (h | h) <;> omega)).trans HB1.out.2.2
 have hc05:Chg (fun b=>b=mb∨b=jb) w w5:=(Chg.of_below (R:=fun b=>b=mb∨b=jb) HB1.out.1.drew).trans hc5 (fun _ _ h=>h)
 have H5:=Lib.hid (And.intro hW5 (And.intro hc05 (And.intro hG5 hbx5)))
 clear hW1 hT1 hne hml hjl p0 p1 p2 p4 p5 p6 q4 q5 q6 n0 n7 lg ln b0 b1 b2 hW5 hc5 hc05
 obtain ⟨p0,p1,p2,p4,p5,p6,q4,q5,q6,n0,n7,lg,ln⟩:=hG5
 obtain ⟨⟨b0,b1,b2⟩,_⟩:=cells3 hbx5
 clear hbx5
 go_wp2_with fail
 go_region_with (go_at_call 54;refine (faceOr_at f g o HO.out.1 HO.out.2.1 HO.out.2.2 _).mono ?_;rintro e w6 ⟨rfl,hb6⟩;have hbw:Below w5.heap.size w5 w6:=bhopO (Below.refl _ w5).drew hb6;have hG6:=H5.out.2.2.1.at (hbw.block _ H5.out.2.2.1.lg) (hbw.block _ H5.out.2.2.1.ln) hbw.size;have HB:=Lib.hid hbw;clear p0 p1 p2 p4 p5 p6 q4 q5 q6 n0 n7 lg ln hb6 hbw;obtain ⟨p0,p1,p2,p4,p5,p6,q4,q5,q6,n0,n7,lg,ln⟩:=hG6)
 all_goals
  go_wp2_with fail
  refine bodyPost_end (results_none rfl _ _ _) rfl ⟨rfl,w6,H5.out.1.chg (Chg.of_below (R:=fun _=>False) HB.out) ⟨fun h=>h,fun h=>h,fun h=>h⟩,H5.out.2.1.trans (Chg.of_below (R:=fun _=>False) HB.out) (fun _ _ h=>h.elim),rfl⟩
end Go.Proofs.YtbohmcfplgdlpaaDoor
