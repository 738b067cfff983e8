/- place.mapped of a tree: a contract.
   Conditions: the tree lies in memory, is formed, and has at most 300000 nodes. -/
import Derived.Test.YtbohmcfplgdlpaaDoorMPp
import Derived.Test.YtbohmcfplgdlpaaDoorMPn
import Derived.Deep.DeepCutAuto
import Derived.Deep.RegionHeld3

/- place.mapped of a tree: a contract.
   Conditions: the tree lies in memory, is formed, and has at most 300000 nodes. -/
namespace Go.Proofs.YtbohmcfplgdlpaaDoor
open Go.RowKit Go.Shelf
attribute [local go_sem] nodeAgg
theorem infoR121:(Tryd.prog.info? 121).map (fun i=>(i.zero,i.size,i.bytes))=some (some (.agg #[.slice none 0 0,.slice none 0 0]),2,48):=by kernel_rfl
theorem okF.kind {t:V} (h:okF t):t.kind=0∨t.kind=1∨t.kind=2∨t.kind=3∨t.kind=4:=by
 unfold okF at h
 cases t with
 | node k C lo hi v ps =>
  simp only [V.kind]
  rw [erase,okT,Bool.and_eq_true] at h
  have h1:=h.1
  unfold okA at h1
  have h2:=of_decide_eq_true h1
  omega
theorem heap_dr (W:World):W.drew.heap=W.heap:=rfl
theorem heap_al (W:World) (o:Obj) (i:Nat):(W.alloc o).heap[i]? = if i=W.heap.size then some o else W.heap[i]?:=by
 show (W.heap.push o)[i]? = _
 exact Array.getElem?_push
theorem look5 (w:World) (o1 o2 o3 o4 o5:Obj):(((((w.alloc o1).alloc o2).alloc o3).alloc o4).alloc o5).drew.heap[w.heap.size]? = some o1∧(((((w.alloc o1).alloc o2).alloc o3).alloc o4).alloc o5).drew.heap[w.heap.size+1]? = some o2∧(((((w.alloc o1).alloc o2).alloc o3).alloc o4).alloc o5).drew.heap[w.heap.size+1+1]? = some o3 ∧
  (((((w.alloc o1).alloc o2).alloc o3).alloc o4).alloc o5).drew.heap[w.heap.size+1+1+1]? = some o4∧(((((w.alloc o1).alloc o2).alloc o3).alloc o4).alloc o5).drew.heap[w.heap.size+1+1+1+1]? = some o5:=by
 refine ⟨?_,?_,?_,?_,?_⟩
 ·rw [heap_dr,heap_al,if_neg (by simp only [World.size_alloc];omega),heap_al,if_neg (by simp only [World.size_alloc];omega),heap_al,if_neg (by simp only [World.size_alloc];omega),heap_al,if_neg (by simp only [World.size_alloc];omega),heap_al,if_pos rfl]
 ·rw [heap_dr,heap_al,if_neg (by simp only [World.size_alloc];omega),heap_al,if_neg (by simp only [World.size_alloc];omega),heap_al,if_neg (by simp only [World.size_alloc];omega),heap_al,if_pos (by simp only [World.size_alloc])]
 ·rw [heap_dr,heap_al,if_neg (by simp only [World.size_alloc];omega),heap_al,if_neg (by simp only [World.size_alloc];omega),heap_al,if_pos (by simp only [World.size_alloc])]
 ·rw [heap_dr,heap_al,if_neg (by simp only [World.size_alloc];omega),heap_al,if_pos (by simp only [World.size_alloc])]
 ·rw [heap_dr,heap_al,if_pos (by simp only [World.size_alloc])]
theorem MapL.lower {w:World} {B B':Nat} {m:PM} {sv cv av:Value} (h:MapL w B m sv cv av) (hb:B'≤B):MapL w B' m sv cv av:=by
 refine ⟨own_low h.sets hb,own_low h.scs hb,?_⟩
 obtain ⟨vs,h1,h2⟩:=h.ars
 exact ⟨vs,own_low h1 hb,fun i l hl=>by obtain ⟨v,a,b⟩:=h2 i l hl;exact ⟨v,a,b.low hb⟩⟩
def LMap (w:World) (B rb mb:Nat) (tc:List Value) (root:T) (n:Nat) (ov:Value) (wr:World):Prop :=
 ∃ (rs:List Rw) (m:PM) (sv cv av:Value),StkP wr B rb rs ov∧MapS wr B mb tc m sv cv av∧todoP rs m=mapT root∧n=wRw rs∧(∀ r∈rs,r.al.length≤4∧∀ p∈r.ps,okF p)∧m.sets.length≤41∧m.ars.length=m.sets.length∧m.scs.length+wRw rs≤700000∧Below B w wr∧1≤m.sets.length
def MapE (w w':World) (r:V) (o:Option PM) (e:Ending):Prop :=
 (∃ (m:PM) (sA:Option Addr) (sN sC:Nat) (cA:Option Addr) (cN cC:Nat) (aA:Option Addr) (aN aC:Nat),o=some m∧e=.returned (.tuple #[.agg ((ndc r ++ [Value.slice sA sN sC,Value.slice cA cN cC,Value.slice aA aN aC]).toArray),.int .i64 0])∧MapL w' w.heap.size m (.slice sA sN sC) (.slice cA cN cC) (.slice aA aN aC)∧m.sets.length≤41∧m.ars.length=m.sets.length∧m.scs.length≤700000∧1≤m.sets.length) ∨
  (o=none∧e=.returned (.tuple #[.agg #[.int .i64 0,.int .u64 0,.int .u64 0,.int .u64 0,.int .u64 0,.slice none 0 0,.int .i64 0,.int .i64 0,.slice none 0 0,.slice none 0 0,.slice none 0 0],.int .i64 3]))
theorem put_sets (k:Int) (C:Nat→Nat) (ar:List Nat) (m:PM) (h:m.ars.length=m.sets.length):(putP k C ar m).ars.length=(putP k C ar m).sets.length∧(putP k C ar m).scs=m.scs∧m.sets.length≤(putP k C ar m).sets.length∧(putP k C ar m).sets.length≤m.sets.length+1:=by
 unfold putP
 split
 ·simp only [List.length_append]
  exact ⟨by rw [h];rfl,trivial,by omega,Nat.le_refl _⟩
 ·exact ⟨h,rfl,Nat.le_refl _,by omega⟩
theorem scP_sets (k lo hi:Int) (m:PM):(scP k lo hi m).sets=m.sets∧(scP k lo hi m).ars=m.ars∧(scP k lo hi m).scs.length≤m.scs.length+1:=by
 unfold scP
 split
 ·exact ⟨rfl,rfl,by simp⟩
 ·exact ⟨rfl,rfl,by omega⟩
theorem belP_len (k lo hi:Int) (ar:List Nat) (m:PM):(belP k lo hi ar m).length≤ar.length+1:=by
 unfold belP
 split <;> simp
theorem bhop2 {B:Nat} {a b c:World} (h:Below B a b) (k:Below B b c):Below B a c:=h.trans k
theorem node_keep {w w':World} {B rb b off:Nat} {u:V} {Q:Nat→Prop} (hcu:∀ j x,(ndc u)[j]? = some x→w.cell? ⟨b,off+j,none⟩=some x) (hl:Laid w (fun x=>x<B∨x=rb) u) (hb:b<w.heap.size) (hR:b<B∨b=rb) (hn:TyB w rb 27) (hc:Chg Q w w') (hQ:∀ x,Q x→B≤x∧¬ TyB w x 27) :
  (∀ j x,(ndc u)[j]? = some x→w'.cell? ⟨b,off+j,none⟩=some x)∧Laid w' (fun x=>x<B∨x=rb) u:=⟨fun j x hx=>(hc.cell (off+j) hb (fun q=>by
 have:=hQ b q
 rcases hR with h | rfl
 ·omega
 ·exact this.2 hn)).trans (hcu j x hx),laid_rb hl hn hc hQ⟩
set_option maxHeartbeats 8000000 in
set_option maxRecDepth 100000 in
theorem mapped_any (t:V) (w:World) (ht:Laid w (fun x=>x<w.heap.size) t) (hok:okF t) (hsz:szT (erase t)≤300000) :
  Calls Tryd.prog 33 #[nodeAgg t] w fun e w'=>MapE w w' t (mapT (erase t)) e∧Below w.heap.size w w':=by
 obtain ⟨sa,sn,sc,hs⟩:=ht.slice
 rw [nodeAgg_v hs]
 obtain ⟨kk,hkk⟩ : ∃ kk,kk=t.kind:=⟨_,rfl⟩
 obtain ⟨C,hC⟩ : ∃ C,C=t.set:=⟨_,rfl⟩
 obtain ⟨l,hl⟩ : ∃ l,l=t.lo:=⟨_,rfl⟩
 obtain ⟨h,hh⟩ : ∃ h,h=t.hi:=⟨_,rfl⟩
 rw [← hkk,← hC,← hl,← hh]
 have hnd:ndc t=[.int .i64 kk,.int .u64 (C 0:Nat),.int .u64 (C 1:Nat),.int .u64 (C 2:Nat),.int .u64 (C 3:Nat),.slice sa sn sc,.int .i64 l,.int .i64 h]:=by unfold ndc;rw [hs,← hkk,← hC,← hl,← hh]
 have HT:=Lib.hid (And.intro ht (And.intro hok (And.intro hsz (And.intro hnd hs))))
 clear hs hkk hC hl hh ht hok hsz hnd
 obtain ⟨r0,hr0,hy0,hy1,hy2⟩:=info_parts infoR121
 have hmk1:∀ W,(Instr.makeSlice 29 (.int .i64 1) (.int .i64 1)).run Tryd.prog W=.ok (.slice (some ⟨W.heap.size,0,none⟩) 1 1) (W.alloc (.cells #[.int .u64 0,.int .u64 0,.int .u64 0,.int .u64 0] 24)):=fun W=>by kernel_rfl
 have hmk2:∀ W,(Instr.makeSlice 31 (.int .i64 1) (.int .i64 1)).run Tryd.prog W=.ok (.slice (some ⟨W.heap.size,0,none⟩) 1 1) (W.alloc (.cells #[.slice none 0 0] 34)):=fun W=>by kernel_rfl
 go_enter Tryd.func33,Tryd.ntmps33
 go_upto_region 1 with fail
 rename_i K hK
 suffices key:∀ (s a mb:Nat) (w1:World),w1.heap[w.heap.size]? = some (.cells #[.int .i64 kk,.int .u64 (C 0:Nat),.int .u64 (C 1:Nat),.int .u64 (C 2:Nat),.int .u64 (C 3:Nat),.slice sa sn sc,.int .i64 l,.int .i64 h] 27 (0,0))→ZBM (w.heap.size+1) w1→w1.heap[s]? = some (.cells #[.int .u64 0,.int .u64 0,.int .u64 0,.int .u64 0] 24 (0,0))→w1.heap[a]? = some (.cells #[.slice none 0 0] 34 (0,0))→w1.heap[mb]? = some (.cells #[.int .i64 kk,.int .u64 (C 0:Nat),.int .u64 (C 1:Nat),.int .u64 (C 2:Nat),.int .u64 (C 3:Nat),.slice sa sn sc,.int .i64 l,.int .i64 h,.slice (some ⟨s,0,none⟩) 1 1,.slice none 0 0,.slice (some ⟨a,0,none⟩) 1 1] 33 (0,0))→w.heap.size+2≤s→w.heap.size+2≤a→w.heap.size+2≤mb→Below w.heap.size w w1→K { tmps:=#[.agg #[.int .i64 kk,.int .u64 (C 0:Nat),.int .u64 (C 1:Nat),.int .u64 (C 2:Nat),.int .u64 (C 3:Nat),.slice sa sn sc,.int .i64 l,.int .i64 h],.pointer (some ⟨w.heap.size,0,none⟩),.pointer (some ⟨w.heap.size+1,0,none⟩),.int .i64 0,.pointer (some ⟨mb,0,none⟩),undef,undef,undef,undef,.agg #[.int .i64 kk,.int .u64 (C 0:Nat),.int .u64 (C 1:Nat),.int .u64 (C 2:Nat),.int .u64 (C 3:Nat),.slice sa sn sc,.int .i64 l,.int .i64 h],.slice (some ⟨s,0,none⟩) 1 1,.slice (some ⟨a,0,none⟩) 1 1,.agg #[.int .i64 kk,.int .u64 (C 0:Nat),.int .u64 (C 1:Nat),.int .u64 (C 2:Nat),.int .u64 (C 3:Nat),.slice sa sn sc,.int .i64 l,.int .i64 h,.slice (some ⟨s,0,none⟩) 1 1,.slice none 0 0,.slice (some ⟨a,0,none⟩) 1 1],undef,undef,undef,undef,undef,undef,undef,undef,undef,undef,undef,undef,undef,undef,undef,undef,undef,undef,undef,undef,undef,undef,undef,undef,undef,undef,undef,undef,undef,undef,undef,undef,undef,undef,undef,undef,undef,undef,undef,undef,undef,undef,undef,undef,undef,undef,undef,undef,undef,undef,undef,undef,undef,undef,undef,undef,undef,undef,undef,undef,undef],defers:=[] } w1 by
  clear hK
  dsimp only at key
  go_region_law (fail)
  all_goals
   refine key _ _ _ _ ?_ ?_ ?_ ?_ ?_ ?_ ?_ ?_ ?_
   ·exact (look5 w _ _ _ _ _).1
   ·exact (look5 w _ _ _ _ _).2.1
   ·first | exact (look5 w _ _ _ _ _).2.2.1 | exact (look5 w _ _ _ _ _).2.2.2.1 | exact (look5 w _ _ _ _ _).2.2.2.2
   ·first | exact (look5 w _ _ _ _ _).2.2.1 | exact (look5 w _ _ _ _ _).2.2.2.1 | exact (look5 w _ _ _ _ _).2.2.2.2
   ·first | exact (look5 w _ _ _ _ _).2.2.1 | exact (look5 w _ _ _ _ _).2.2.2.1 | exact (look5 w _ _ _ _ _).2.2.2.2
   ·omega
   ·omega
   ·omega
   ·exact ((((((Below.refl _ w).alloc (Nat.le_refl _) _).alloc (by simp) _).alloc (by simp;omega) _).alloc (by simp;omega) _).alloc (by simp;omega) _).drew
 intro s a mb w1 e1 e2 e3 e4 e5 e6 e7 e8 e9
 refine hK _ _ ?_
 clear hK hmk1 hmk2
 obtain ⟨c0,c1,c2,c3,c4,c5,c6,c7⟩:=cells8 e1
 have hnl:=(Array.getElem?_eq_some_iff.1 e1).1
 have HE:=Lib.hid (And.intro e1 (And.intro e2 (And.intro e3 (And.intro e4 (And.intro e5 (And.intro e6 (And.intro e7 (And.intro e8 e9))))))))
 have hsB:w.heap.size+2≤w1.heap.size:=by have:=(Array.getElem?_eq_some_iff.1 e2).1;omega
 have HZ0:=Lib.hid (show ZBM (w.heap.size+1) ((w1.alloc (.cells #[.int .i64 kk,.int .u64 (C 0:Nat),.int .u64 (C 1:Nat),.int .u64 (C 2:Nat),.int .u64 (C 3:Nat),.slice sa sn sc,.int .i64 l,.int .i64 h] 27)).alloc (.cells #[.slice (some ⟨w1.heap.size,0,none⟩) 1 1,.slice none 0 0] 121))∧Below w.heap.size w ((w1.alloc (.cells #[.int .i64 kk,.int .u64 (C 0:Nat),.int .u64 (C 1:Nat),.int .u64 (C 2:Nat),.int .u64 (C 3:Nat),.slice sa sn sc,.int .i64 l,.int .i64 h] 27)).alloc (.cells #[.slice (some ⟨w1.heap.size,0,none⟩) 1 1,.slice none 0 0] 121)) by
  have hb0:Below w1.heap.size w1 ((w1.alloc (.cells #[.int .i64 kk,.int .u64 (C 0:Nat),.int .u64 (C 1:Nat),.int .u64 (C 2:Nat),.int .u64 (C 3:Nat),.slice sa sn sc,.int .i64 l,.int .i64 h] 27)).alloc (.cells #[.slice (some ⟨w1.heap.size,0,none⟩) 1 1,.slice none 0 0] 121)):=((Below.refl _ w1).alloc (Nat.le_refl _) _).alloc (by simp) _
  exact ⟨(hb0.block _ (by omega)).trans e2,e9.trans (hb0.mono (by omega))⟩)
 clear e1 e2 e3 e4 e5 e6 e7 e8 e9
 have HST:=Lib.hid (show LMap ((w1.alloc (.cells #[.int .i64 kk,.int .u64 (C 0:Nat),.int .u64 (C 1:Nat),.int .u64 (C 2:Nat),.int .u64 (C 3:Nat),.slice sa sn sc,.int .i64 l,.int .i64 h] 27)).alloc (.cells #[.slice (some ⟨w1.heap.size,0,none⟩) 1 1,.slice none 0 0] 121)) (w.heap.size+2) w1.heap.size mb [.int .i64 kk,.int .u64 (C 0:Nat),.int .u64 (C 1:Nat),.int .u64 (C 2:Nat),.int .u64 (C 3:Nat),.slice sa sn sc,.int .i64 l,.int .i64 h] (erase t) (wRw [⟨.slice (some ⟨w1.heap.size,0,none⟩) 1 1,[t],.slice none 0 0,[]⟩]) (.slice (some ⟨w1.heap.size+1,0,none⟩) 1 1) ((w1.alloc (.cells #[.int .i64 kk,.int .u64 (C 0:Nat),.int .u64 (C 1:Nat),.int .u64 (C 2:Nat),.int .u64 (C 3:Nat),.slice sa sn sc,.int .i64 l,.int .i64 h] 27)).alloc (.cells #[.slice (some ⟨w1.heap.size,0,none⟩) 1 1,.slice none 0 0] 121)) by
  obtain ⟨wa,hwa⟩ : ∃ wa,w1.alloc (.cells #[.int .i64 kk,.int .u64 (C 0:Nat),.int .u64 (C 1:Nat),.int .u64 (C 2:Nat),.int .u64 (C 3:Nat),.slice sa sn sc,.int .i64 l,.int .i64 h] 27)=wa:=⟨_,rfl⟩
  have ha1:wa.heap[w1.heap.size]? = some (.cells #[.int .i64 kk,.int .u64 (C 0:Nat),.int .u64 (C 1:Nat),.int .u64 (C 2:Nat),.int .u64 (C 3:Nat),.slice sa sn sc,.int .i64 l,.int .i64 h] 27 (0,0)):=hwa▸heap_alloc_new w1 _
  have ha2:Below w1.heap.size w1 wa:=hwa▸(Below.refl _ w1).alloc (Nat.le_refl _) _
  have ha3:wa.heap.size=w1.heap.size+1:=by rw [← hwa];simp
  rw [hwa]
  have hb:Below wa.heap.size wa (wa.alloc (.cells #[.slice (some ⟨w1.heap.size,0,none⟩) 1 1,.slice none 0 0] 121)):=(Below.refl _ wa).alloc (Nat.le_refl _) _
  have hrow:=World.ownsRow_lit (e:=121) (size:=2) (base:=w.heap.size+2) wa #[.slice (some ⟨w1.heap.size,0,none⟩) 1 1,.slice none 0 0] 1 (by omega) (by unfold maxLen;omega) rfl
  generalize wa.alloc (.cells #[.slice (some ⟨w1.heap.size,0,none⟩) 1 1,.slice none 0 0] 121)=wb at *
  have hall:Below w1.heap.size w1 wb:=bhop ha2 hb
  have hlt:∀ {x:Nat} {o:Obj},w1.heap[x]? = some o→wb.heap[x]? = some o:=fun {x o} hx=>(hall.block x (Array.getElem?_eq_some_iff.1 hx).1).trans hx
  obtain ⟨e1,e2,e3,e4,e5,e6,e7,e8,e9⟩:=HE.out
  have hrb:wb.heap[w1.heap.size]? = some (.cells #[.int .i64 kk,.int .u64 (C 0:Nat),.int .u64 (C 1:Nat),.int .u64 (C 2:Nat),.int .u64 (C 3:Nat),.slice sa sn sc,.int .i64 l,.int .i64 h] 27 (0,0)):=(hb.block _ (by omega)).trans ha1
  have hown1:∀ {x:Nat} {e:TypeId} {cs:Array Value} {sz:Nat},wb.heap[x]? = some (.cells cs e (0,0))→w.heap.size+2≤x→cs.size=1 * sz→wb.ownsRow (w.heap.size+2) e sz (.slice (some ⟨x,0,none⟩) 1 1) 1 cs.toList:=fun {x e cs sz} hx hle hs =>
   ⟨by simpa using hs,.inr ⟨x,1,cs,rfl,hle,hx,Nat.le_refl _,by unfold maxLen;omega,hs,List.take_of_length_le (by rw [Array.length_toList,hs];exact Nat.le_refl _)⟩⟩
  refine ⟨[⟨.slice (some ⟨w1.heap.size,0,none⟩) 1 1,[t],.slice none 0 0,[]⟩],pm0,.slice (some ⟨s,0,none⟩) 1 1,.slice none 0 0,.slice (some ⟨a,0,none⟩) 1 1,⟨?_,⟨_,_,hrb⟩,fun r hr=>?_⟩,⟨hlt e5,rfl,e8,hown1 (hlt e3) e6 rfl,World.ownsRow_nil _ _ _ _,_,hown1 (hlt e4) e7 rfl,fun i l hl=>?_⟩,?_,rfl,fun r hr=>?_,?_,rfl,?_,Below.refl _ _,Nat.le_refl _⟩
  ·rw [ha3] at hrow
   exact hrow
  ·obtain rfl:=List.mem_singleton.1 hr
   refine ⟨?_,IntsR.none _ _⟩
   have hLt:Laid wb (fun x=>x<w.heap.size+2∨x=w1.heap.size) t:=(laid_low' (laid_low' HT.out.1 e9 |>.mono fun b _ hb=>by omega) (show Below w1.heap.size w1 wb from hall):Laid wb (fun x=>x<w.heap.size+2∨x=w1.heap.size) t)
   refine .some 0 zeros 0 0 [t] w1.heap.size 0 1 (.inr rfl) (Array.getElem?_eq_some_iff.1 hrb).1 (Nat.le_refl _) (fun i u hu j x hx=>?_) (fun u hu=>(List.mem_singleton.1 hu).symm▸hLt)
   have hi:i=0:=by have:=(List.getElem?_eq_some_iff.1 hu).1;simp at this;exact this
   subst hi
   obtain rfl:t=u:=by simpa using hu
   rw [HT.out.2.2.2.1] at hx
   rw [(row_cells hrb).1]
   simpa using hx
  ·have hi:i=0:=by have:=(List.getElem?_eq_some_iff.1 hl).1;simp [pm0] at this;exact this
   subst hi
   obtain rfl : []=l:=by simpa [pm0] using hl
   exact ⟨_,rfl,IntsR.none _ _⟩
  ·rw [todoP,erases,erases,mapsN,mapT]
   cases mapN (erase t) [] pm0 <;> rfl
  ·obtain rfl:=List.mem_singleton.1 hr
   exact ⟨by simp,fun p hp=>(List.mem_singleton.1 hp).symm▸HT.out.2.1⟩
  ·simp [pm0]
  ·have:=HT.out.2.2.1
   simp only [pm0,wRw,erases,szsT,List.length_nil]
   omega)
 go_wp2_with fail
 clear c0 c1 c2 c3 c4 c5 c6 c7 hnl
 go_loopw [5] (fun ov wr=>∃ n,LMap ((w1.alloc (.cells #[.int .i64 kk,.int .u64 (C 0:Nat),.int .u64 (C 1:Nat),.int .u64 (C 2:Nat),.int .u64 (C 3:Nat),.slice sa sn sc,.int .i64 l,.int .i64 h] 27)).alloc (.cells #[.slice (some ⟨w1.heap.size,0,none⟩) 1 1,.slice none 0 0] 121)) (w.heap.size+2) w1.heap.size mb [.int .i64 kk,.int .u64 (C 0:Nat),.int .u64 (C 1:Nat),.int .u64 (C 2:Nat),.int .u64 (C 3:Nat),.slice sa sn sc,.int .i64 l,.int .i64 h] (erase t) n ov wr) (fun ov wr=>leastOf (fun n=>LMap ((w1.alloc (.cells #[.int .i64 kk,.int .u64 (C 0:Nat),.int .u64 (C 1:Nat),.int .u64 (C 2:Nat),.int .u64 (C 3:Nat),.slice sa sn sc,.int .i64 l,.int .i64 h] 27)).alloc (.cells #[.slice (some ⟨w1.heap.size,0,none⟩) 1 1,.slice none 0 0] 121)) (w.heap.size+2) w1.heap.size mb [.int .i64 kk,.int .u64 (C 0:Nat),.int .u64 (C 1:Nat),.int .u64 (C 2:Nat),.int .u64 (C 3:Nat),.slice sa sn sc,.int .i64 l,.int .i64 h] (erase t) n ov wr))
 case atStart=>exact ⟨_,HST.out⟩
 case round =>
  clear HST
  have hls:=(leastOf_spec hrel).1
  obtain ⟨rs,m,sv,cv,av,hS,hM,htd,hn,hok,hm1,hm2,hm3,hbl,hm4⟩:=hls
  cases rs with
  | nil =>
   obtain ⟨oA,oC,hov⟩:=own_form hS.own
   subst hov
   obtain ⟨sA,sC,hsv⟩:=own_form hM.lists.sets
   obtain ⟨cA,cC,hcv⟩:=own_form hM.lists.scs
   obtain ⟨vs,hvs,_⟩:=hM.lists.ars
   obtain ⟨aA,aC,hav⟩:=own_form hvs
   obtain ⟨sN,hsN⟩ : ∃ sN,sN=m.sets.length:=⟨_,rfl⟩
   obtain ⟨cN,hcN⟩ : ∃ cN,cN=m.scs.length:=⟨_,rfl⟩
   obtain ⟨aN,haN⟩ : ∃ aN,aN=m.ars.length:=⟨_,rfl⟩
   rw [← hsN] at hsv
   rw [← hcN] at hcv
   rw [← haN] at hav
   subst hsv hcv hav
   have hmb0:wr.heap[mb]? = some (.cells #[.int .i64 kk,.int .u64 (C 0:Nat),.int .u64 (C 1:Nat),.int .u64 (C 2:Nat),.int .u64 (C 3:Nat),.slice sa sn sc,.int .i64 l,.int .i64 h,.slice sA sN sC,.slice cA cN cC,.slice aA aN aC] 33 (0,0)):=hM.blk
   have hmb:=row_cells hmb0
   have b0:=hmb.1 0;have b1:=hmb.1 1;have b2:=hmb.1 2;have b3:=hmb.1 3;have b4:=hmb.1 4;have b5:=hmb.1 5;have b6:=hmb.1 6;have b7:=hmb.1 7;have b8:=hmb.1 8;have b9:=hmb.1 9;have b10:=hmb.1 10
   have hml:=hM.ty.lt
   have hbz:ZBM (w.heap.size+1) ((w1.alloc (.cells #[.int .i64 kk,.int .u64 (C 0:Nat),.int .u64 (C 1:Nat),.int .u64 (C 2:Nat),.int .u64 (C 3:Nat),.slice sa sn sc,.int .i64 l,.int .i64 h] 27)).alloc (.cells #[.slice (some ⟨w1.heap.size,0,none⟩) 1 1,.slice none 0 0] 121)):=by
    have hb0:Below w1.heap.size w1 ((w1.alloc (.cells #[.int .i64 kk,.int .u64 (C 0:Nat),.int .u64 (C 1:Nat),.int .u64 (C 2:Nat),.int .u64 (C 3:Nat),.slice sa sn sc,.int .i64 l,.int .i64 h] 27)).alloc (.cells #[.slice (some ⟨w1.heap.size,0,none⟩) 1 1,.slice none 0 0] 121)):=((Below.refl _ w1).alloc (Nat.le_refl _) _).alloc (by simp) _
    exact (hb0.block _ (by omega)).trans HE.out.2.1
   have hzz:ZBM (w.heap.size+1) wr:=(hbl.block _ (by omega)).trans hbz
   obtain ⟨⟨z0,z1,z2,z3,z4,z5,z6,z7,z8,z9,z10⟩,hfz,hzl⟩:=hzz.cells
   have f0:=hfz 0;have f1:=hfz 1;have f2:=hfz 2;have f3:=hfz 3;have f4:=hfz 4;have f5:=hfz 5;have f6:=hfz 6;have f7:=hfz 7;have f8:=hfz 8;have f9:=hfz 9;have f10:=hfz 10
   have n1:mb≠w.heap.size+1:=by have:=HE.out.2.2.2.2.2.2.2.1;omega
   have n2:w.heap.size+1≠mb:=fun e=>n1 e.symm
   have HB:=Lib.hid (show Below w.heap.size w wr by
    have hb0:Below w1.heap.size w1 ((w1.alloc (.cells #[.int .i64 kk,.int .u64 (C 0:Nat),.int .u64 (C 1:Nat),.int .u64 (C 2:Nat),.int .u64 (C 3:Nat),.slice sa sn sc,.int .i64 l,.int .i64 h] 27)).alloc (.cells #[.slice (some ⟨w1.heap.size,0,none⟩) 1 1,.slice none 0 0] 121)):=((Below.refl _ w1).alloc (Nat.le_refl _) _).alloc (by simp) _
    exact (HE.out.2.2.2.2.2.2.2.2.trans (hb0.mono (by omega))).trans (hbl.mono (by omega)))
   have HF:=Lib.hid (And.intro hzz (And.intro hM (And.intro htd (And.intro hm1 (And.intro hm2 (And.intro hm3 hm4))))))
   simp only [List.length_nil]
   clear hrel hS hvs hsN hcN haN hmb hmb0 hbz hzz hfz hbl hM htd hn hok hm1 hm2 hm3 hm4
   go_wp2_with fail
   clear z0 z1 z2 z3 z4 z5 z6 z7 z8 z9 z10 f0 f1 f2 f3 f4 f5 f6 f7 f8 f9 f10 b0 b1 b2 b3 b4 b5 b6 b7 b8 b9 b10
   have hf:=set11_heap HF.out.1 (.int .i64 kk) (.int .u64 (C 0:Nat)) (.int .u64 (C 1:Nat)) (.int .u64 (C 2:Nat)) (.int .u64 (C 3:Nat)) (.slice sa sn sc) (.int .i64 l) (.int .i64 h) (.slice sA sN sC) (.slice cA cN cC) (.slice aA aN aC)
   have hch:=set11_chg wr (w.heap.size+1) (.int .i64 kk) (.int .u64 (C 0:Nat)) (.int .u64 (C 1:Nat)) (.int .u64 (C 2:Nat)) (.int .u64 (C 3:Nat)) (.slice sa sn sc) (.int .i64 l) (.int .i64 h) (.slice sA sN sC) (.slice cA cN cC) (.slice aA aN aC)
   generalize (((((((((((wr.setCell ⟨w.heap.size+1,0,none⟩ (.int .i64 kk)).setCell ⟨w.heap.size+1,1,none⟩ (.int .u64 (C 0:Nat))).setCell ⟨w.heap.size+1,2,none⟩ (.int .u64 (C 1:Nat))).setCell ⟨w.heap.size+1,3,none⟩ (.int .u64 (C 2:Nat))).setCell ⟨w.heap.size+1,4,none⟩ (.int .u64 (C 3:Nat))).setCell ⟨w.heap.size+1,5,none⟩ (.slice sa sn sc)).setCell ⟨w.heap.size+1,6,none⟩ (.int .i64 l)).setCell ⟨w.heap.size+1,7,none⟩ (.int .i64 h)).setCell ⟨w.heap.size+1,8,none⟩ (.slice sA sN sC)).setCell ⟨w.heap.size+1,9,none⟩ (.slice cA cN cC)).setCell ⟨w.heap.size+1,10,none⟩ (.slice aA aN aC))=w6 at *
   obtain ⟨rr,_⟩:=row_cells hf
   have r0:=rr 0;have r1:=rr 1;have r2:=rr 2;have r3:=rr 3;have r4:=rr 4;have r5:=rr 5;have r6:=rr 6;have r7:=rr 7;have r8:=rr 8;have r9:=rr 9;have r10:=rr 10
   refine bodyPost_ret (v:=.tuple #[.agg #[.int .i64 kk,.int .u64 (C 0:Nat),.int .u64 (C 1:Nat),.int .u64 (C 2:Nat),.int .u64 (C 3:Nat),.slice sa sn sc,.int .i64 l,.int .i64 h,.slice sA sN sC,.slice cA cN cC,.slice aA aN aC],.int .i64 0]) (by simp [results,Tryd.results33,go_sem,r0,r1,r2,r3,r4,r5,r6,r7,r8,r9,r10]) rfl ⟨.inl ⟨m,sA,sN,sC,cA,cN,cC,aA,aN,aC,?_,?_,?_,HF.out.2.2.2.1,HF.out.2.2.2.2.1,?_,HF.out.2.2.2.2.2.2⟩,?_⟩
   ·exact HF.out.2.2.1.symm
   ·rw [HT.out.2.2.2.1];rfl
   ·exact (HF.out.2.1.lists.keep hch fun x ty e hx _=>by omega).lower (by omega)
   ·have:=HF.out.2.2.2.2.2.1;omega
   ·exact HB.out.trans (hch.below (by have:=HB.out.size;omega) fun k hk e=>by omega)
  | cons r rs =>
   obtain ⟨g,cap,rfl⟩:=ownsRow_succ hS.own
   have hlen:rs.length+1≤1000000:=by have:=wRw_len (r :: rs);simp only [List.length_cons] at this;omega
   have hgl:=(hS.own.lt g rfl).2
   have hgb:=(hS.own.lt g rfl).1
   have hgf:wr.frozen? ⟨g,rs.length * 2,none⟩=false:=hS.own.frozenAt _
   have hx:∀ j,j<2→wr.cell? ⟨g,rs.length * 2+j,none⟩=(rwc r)[j]?:=fun j hj=>by
    rw [hS.own.cellAt _ (by omega),rev_rwc,List.getElem?_append_right (by rw [rwc_len,List.length_reverse];omega),rwc_len,List.length_reverse]
    congr 1
    omega
   have y0:wr.cell? ⟨g,rs.length * 2,none⟩=some r.nv:=hx 0 (by omega)
   have y1:wr.cell? ⟨g,rs.length * 2+1,none⟩=some r.av:=hx 1 (by omega)
   have hcap:(rs.length:Int)+1≤(cap:Int):=by
    rcases hS.own.2 with ⟨h1,_⟩ | ⟨g',cap',cur,hv,_,_,hle,_⟩
    ·cases h1
    ·simp only [Value.slice.injEq,List.length_cons] at hv hle;omega
   have hcap2:(rs.length:Int)≤(cap:Int):=by omega
   have m1:(0:Int)≤(rs.length:Int):=by omega
   have m2:(0:Int)<(rs.length:Int)+1:=by omega
   have m3:(rs.length:Int)<(rs.length:Int)+1:=by omega
   have m4:(rs.length:Int)≤2000000:=by omega
   have m5:((rs.length:Int)+1 == 0)=false:=by simp;omega
   have m6:¬ (rs.length:Int)+1=0:=by omega
   clear hx
   have hfr:=hS.fr r (by simp)
   obtain ⟨ia,ic,hav⟩:=hfr.2.form
   obtain ⟨il,hil⟩ : ∃ il,il=r.al.length:=⟨_,rfl⟩
   rw [← hil] at hav
   rw [hav] at y1
   cases hps:r.ps with
   | nil =>
    have hnv:=hfr.1
    rw [hps] at hnv
    obtain ⟨na,nc,hnn⟩:=laid_nil hnv
    rw [hnn] at y0
    have HP:=Lib.hid (show LMap ((w1.alloc (.cells #[.int .i64 kk,.int .u64 (C 0:Nat),.int .u64 (C 1:Nat),.int .u64 (C 2:Nat),.int .u64 (C 3:Nat),.slice sa sn sc,.int .i64 l,.int .i64 h] 27)).alloc (.cells #[.slice (some ⟨w1.heap.size,0,none⟩) 1 1,.slice none 0 0] 121)) (w.heap.size+2) w1.heap.size mb [.int .i64 kk,.int .u64 (C 0:Nat),.int .u64 (C 1:Nat),.int .u64 (C 2:Nat),.int .u64 (C 3:Nat),.slice sa sn sc,.int .i64 l,.int .i64 h] (erase t) (wRw rs) (.slice (some ⟨g,0,none⟩) rs.length cap) wr from
     ⟨rs,m,sv,cv,av,hS.pop,hM,(todoP_pop r rs m hps).symm.trans htd,rfl,fun q hq=>hok q (by simp [hq]),hm1,hm2,by rw [wRw] at hm3;omega,hbl,hm4⟩)
    have HN:=Lib.hid (show wRw rs<wRw (r :: rs) by rw [wRw];omega)
    have HN2:=Lib.hid hn
    clear hrel hS hM htd hn hok hm1 hm2 hm3 hm4 hbl hfr hnv hnn hav hil hps hlen
    go_wp2_with fail
    go_roundw
    case rel=>exact ⟨_,HP.out⟩
    case measure =>
     rw [HN2.out]
     exact Nat.lt_of_le_of_lt ((leastOf_spec ⟨_,HP.out⟩).2 _ HP.out) HN.out
   | cons u us =>
    have hrow:=hfr.1
    rw [hps] at hrow
    obtain ⟨b,off,rcap,hnv⟩:=laid_row hrow
    rw [hnv] at y0 hrow
    obtain ⟨htail,hlu,hcu,hblt,hbR,hrcap⟩:=laid_tail hrow
    obtain ⟨ua,un,uc,husl⟩:=hlu.slice
    have hokr:=hok r (by simp)
    have hoku:=hokr.2 u (by rw [hps];simp)
    have hku:=hoku.kind
    have hbg:b≠g:=fun e=>by
     rcases hbR with h | h
     ·omega
     ·have ht:=own_ty hS.own (x:=g) rfl
      rw [← e,h] at ht
      have:=hS.node.eq ht;revert this;decide
    have hgb2:g≠b:=fun e=>hbg e.symm
    have u1:(0:Int)≤(us.length:Int):=by omega
    have u2:(0:Int)<(us.length:Int)+1:=by omega
    have u3:((us.length:Int)+1 == 0)=false:=by simp;omega
    have u4:¬ (us.length:Int)+1=0:=by omega
    have u5:(1:Int)≤(us.length:Int)+1:=by omega
    have u6:(us.length:Int)+1≤(rcap:Int):=by omega
    have HI:=Lib.hid (And.intro hS (And.intro hM (And.intro htd (And.intro hn (And.intro hok (And.intro hm1 (And.intro hm2 (And.intro hm3 (And.intro hbl (And.intro hm4 (And.intro hps (And.intro hfr.2 (And.intro hil (And.intro hlu (And.intro hcu (And.intro hbR (And.intro husl (And.intro hokr.1 hav))))))))))))))))))
    have HTL:=Lib.hid htail
    have HRC:=Lib.hid (And.intro hrcap (And.intro hku hblt))
    by_cases hc1:rcap=1
    ·have hus:us=[]:=by cases us with
      | nil=>rfl
      | cons x xs=>simp only [List.length_cons] at hrcap;omega
     subst hus
     subst hc1
     have HX:=Lib.hid (hS.take (laid_null wr (fun x=>x<w.heap.size+2∨x=w1.heap.size) (some ⟨b,off,none⟩) 0))
     have hch:Chg (fun x=>x=g) wr (wr.setCell ⟨g,rs.length * 2,none⟩ (.slice (some ⟨b,off,none⟩) 0 0)):=(Chg.refl (fun x=>x=g) wr).setCell (p:=⟨g,rs.length * 2,none⟩) (fun _=>rfl) _
     have hgt:TyB wr g 121:=own_ty hS.own rfl
     have HM1:=Lib.hid (hM.keep hch fun x ty e _ hty=>by subst e;have:=hty.eq hgt;subst this;decide)
     have HN1:=Lib.hid (node_keep hcu hlu hblt hbR hS.node hch fun x e=>⟨by omega,fun hty=>by subst e;have:=hty.eq hgt;revert this;decide⟩)
     have hsz1:=hch.size
     have HB1:=Lib.hid (show Below (w.heap.size+2) wr (wr.setCell ⟨g,rs.length * 2,none⟩ (.slice (some ⟨b,off,none⟩) 0 0)) from hch.below (by omega) fun k hk e=>by omega)
     have HTO:=Lib.hid (fun (tv bv:Value) (ho:overP (putP u.kind u.set r.al (scP u.kind u.lo u.hi m)) (belP u.kind u.lo u.hi r.al m)=false)=>(todoP_take r rs m u ([]:List V) hps tv bv ho).symm.trans htd)
     have HTV:=Lib.hid (fun (ho:overP (putP u.kind u.set r.al (scP u.kind u.lo u.hi m)) (belP u.kind u.lo u.hi r.al m)=true)=>(todoP_over r rs m u ([]:List V) hps ho).symm.trans htd)
     have hsz01:w.heap.size+2≤(wr.setCell ⟨g,rs.length * 2,none⟩ (.slice (some ⟨b,off,none⟩) 0 0)).heap.size:=by omega
     have hbl1:b<(wr.setCell ⟨g,rs.length * 2,none⟩ (.slice (some ⟨b,off,none⟩) 0 0)).heap.size:=by omega
     have HWR:=Lib.hid (show ∀ (va vb:Value) (ls:List Nat),wRw (⟨va,u.ps,vb,ls⟩ :: { r with nv:=.slice (some ⟨b,off,none⟩) 0 0,ps:=([]:List V) } :: rs)+1≤wRw (r :: rs) by
      intro va vb ls
      have:=sz_eq u
      simp only [wRw,hps,erases,szsT]
      omega)
     have HOK:=Lib.hid (show (∀ p∈u.ps,okF p)∧(∀ p∈([]:List V),okF p)∧∀ q∈rs,q.al.length≤4∧∀ p∈q.ps,okF p from ⟨fun p hp=>hoku.part hp,fun p hp=>hokr.2 p (by rw [hps];simp [hp]),fun q hq=>hok q (by simp [hq])⟩)
     clear hrel hS hM htd hn hok hm1 hm2 hm3 hm4 hbl hfr hps hrow htail hlu hcu hbR hrcap husl hokr hoku hku hav hil hlen hnv hch hgt hsz1
     go_wp2_with fail
     generalize (wr.setCell ⟨g,rs.length * 2,none⟩ (.slice (some ⟨b,off,none⟩) 0 0))=x1 at *
     clear y0 y1 hgf
     go_at_call 46
     have hfr1:=HX.out.fr _ (List.mem_cons_self ..)
     have hiv1:IntsR x1 (w.heap.size+2) (.slice ia il ic) r.al:=by have:=hfr1.2;rw [← HI.out.2.2.2.2.2.2.2.2.2.2.2.2.2.2.2.2.2.2];exact this
     refine (within_any x1 (w.heap.size+2) mb b off [.int .i64 kk,.int .u64 (C 0:Nat),.int .u64 (C 1:Nat),.int .u64 (C 2:Nat),.int .u64 (C 3:Nat),.slice sa sn sc,.int .i64 l,.int .i64 h] m sv cv av (.slice ia il ic) r.al u.kind u.lo u.hi HM1.out hiv1 (HN1.out.1 0 _ rfl) (HN1.out.1 6 _ rfl) (HN1.out.1 7 _ rfl) hbl1 HRC.out.2.1 (by have:=HI.out.2.2.2.2.2.2.2.1;omega) (by have:=HI.out.2.2.2.2.2.2.2.2.2.2.2.2.2.2.2.2.2.1;omega) (by omega)).mono ?_
     rintro e x2 ⟨⟨iv2,cv2,rfl,hM2,hiv2⟩,hc2'⟩
     obtain ⟨ja,jc,hj⟩:=hiv2.form
     obtain ⟨jl,hjl⟩ : ∃ jl,jl=(belP u.kind u.lo u.hi r.al m).length:=⟨_,rfl⟩
     rw [← hjl] at hj
     subst hj
     have hQ2:∀ x,(w.heap.size+2≤x∧(TyB x1 x 33∨TyB x1 x 154))→w.heap.size+2≤x∧∀ ty,TyB x1 x ty→stkTy ty=false:=fun x q=>⟨q.1,fun ty hty=>by
      rcases q.2 with q | q
      ·have:=hty.eq q;subst this;decide
      ·have:=hty.eq q;subst this;decide⟩
     have hS2:=HX.out.keep hc2' hQ2
     have hN2:=node_keep HN1.out.1 HN1.out.2 hbl1 HI.out.2.2.2.2.2.2.2.2.2.2.2.2.2.2.2.1 HX.out.node hc2' fun x q=>⟨q.1,fun hty=>by have:=(hQ2 x q).2 _ hty;revert this;decide⟩
     have hbl2:=Nat.lt_of_lt_of_le hbl1 hc2'.size
     have hb2:=bhop2 HB1.out (hc2'.below (B:=w.heap.size+2) (by omega) fun k hk q=>by have:=q.1;omega)
     have hsz2:=hc2'.size
     have y1:x2.cell? ⟨g,rs.length * 2+1,none⟩=some (.slice ia il ic):=by
      rw [hS2.own.cellAt _ (by omega),rev_rwc,List.getElem?_append_right (by rw [rwc_len,List.length_reverse];omega),rwc_len,List.length_reverse,show rs.length * 2+1 - rs.length * 2=1 by omega]
      show some r.av=_
      rw [HI.out.2.2.2.2.2.2.2.2.2.2.2.2.2.2.2.2.2.2]
     have H2:=Lib.hid (And.intro hS2 (And.intro hM2 (And.intro hiv2 (And.intro hN2 (And.intro hb2 hjl)))))
     have hsz12:w.heap.size+2≤x2.heap.size:=by omega
     clear hfr1 hiv1 hS2 hM2 hiv2 hN2 hb2 hjl hc2' hQ2 HN1 HX HM1 HB1 hbl1 hsz2
     go_wp2_with fail
     go_at_call 47
     have hs1:=scP_sets u.kind u.lo u.hi m
     have hfr2:=H2.out.1.fr _ (List.mem_cons_self ..)
     have hiv1:IntsR x2 (w.heap.size+2) (.slice ia il ic) r.al:=by have:=hfr2.2;rw [← HI.out.2.2.2.2.2.2.2.2.2.2.2.2.2.2.2.2.2.2];exact this
     refine (pput_any x2 (w.heap.size+2) mb b off [.int .i64 kk,.int .u64 (C 0:Nat),.int .u64 (C 1:Nat),.int .u64 (C 2:Nat),.int .u64 (C 3:Nat),.slice sa sn sc,.int .i64 l,.int .i64 h] (scP u.kind u.lo u.hi m) sv cv2 av (.slice ia il ic) r.al u.kind u.set H2.out.2.1 hiv1 (H2.out.2.2.2.1.1 0 _ rfl) (H2.out.2.2.2.1.1 1 _ rfl) (H2.out.2.2.2.1.1 2 _ rfl) (H2.out.2.2.2.1.1 3 _ rfl) (H2.out.2.2.2.1.1 4 _ rfl) hbl2 (by rw [hs1.1];have:=HI.out.2.2.2.2.2.1;omega) (by rw [hs1.2.1];have h1:=HI.out.2.2.2.2.2.1;have h2:=HI.out.2.2.2.2.2.2.1;omega) (by have:=HI.out.2.2.2.2.2.2.2.2.2.2.2.2.2.2.2.2.2.1;omega) (by omega)).mono ?_
     rintro e x3 ⟨rfl,⟨sv3,av3,hM3⟩,hc3'⟩
     have hQ3:∀ x,(w.heap.size+2≤x∧(TyB x2 x 33∨TyB x2 x 24∨TyB x2 x 34))→w.heap.size+2≤x∧∀ ty,TyB x2 x ty→stkTy ty=false:=fun x q=>⟨q.1,fun ty hty=>by
      rcases q.2 with q | q | q
      ·have:=hty.eq q;subst this;decide
      ·have:=hty.eq q;subst this;decide
      ·have:=hty.eq q;subst this;decide⟩
     have hS3:=H2.out.1.keep hc3' hQ3
     have hN3:=node_keep H2.out.2.2.2.1.1 H2.out.2.2.2.1.2 hbl2 HI.out.2.2.2.2.2.2.2.2.2.2.2.2.2.2.2.1 H2.out.1.node hc3' fun x q=>⟨q.1,fun hty=>by have:=(hQ3 x q).2 _ hty;revert this;decide⟩
     have hiv3:=H2.out.2.2.1.keep hc3' fun x q _ hty=>by have:=(hQ3 x q).2 _ hty;revert this;decide
     have hb3:=bhop2 H2.out.2.2.2.2.1 (hc3'.below (B:=w.heap.size+2) (by omega) fun k hk q=>by have:=q.1;omega)
     have hsz13:w.heap.size+2≤x3.heap.size:=by have:=hc3'.size;omega
     have hbl3:=Nat.lt_of_lt_of_le hbl2 hc3'.size
     obtain ⟨mm,hmm⟩ : ∃ mm,mm=putP u.kind u.set r.al (scP u.kind u.lo u.hi m):=⟨_,rfl⟩
     rw [← hmm] at hM3
     obtain ⟨tA,tC,hsv⟩:=own_form hM3.lists.sets
     obtain ⟨tn,htn⟩ : ∃ tn,tn=mm.sets.length:=⟨_,rfl⟩
     rw [← htn] at hsv
     subst hsv
     have hp1:=put_sets u.kind u.set r.al (scP u.kind u.lo u.hi m) (by rw [hs1.1,hs1.2.1];exact HI.out.2.2.2.2.2.2.1)
     rw [← hmm,hs1.1] at hp1
     obtain ⟨w8,_,_⟩:=hM3.cell
     have e5:x3.cell? ⟨b,off+5,none⟩=some (.slice ua un uc):=hN3.1 5 _ (by rw [← HI.out.2.2.2.2.2.2.2.2.2.2.2.2.2.2.2.2.1];rfl)
     have hjl4:jl≤5:=by have h1:=belP_len u.kind u.lo u.hi r.al m;have h2:=HI.out.2.2.2.2.2.2.2.2.2.2.2.2.2.2.2.2.2.1;have h3:=H2.out.2.2.2.2.2;omega
     have htn1:tn≤42:=by have h1:=hp1.2.2.2;have h2:=HI.out.2.2.2.2.2.1;omega
     have htn2:1≤tn:=by have h1:=hp1.2.2.1;have h2:=HI.out.2.2.2.2.2.2.2.2.2.1;omega
     have HTM:=Lib.hid (tooMuch_any mb tA ja tn tC jl jc x3 w8 (by omega) htn2 (by omega))
     have H3:=Lib.hid (And.intro hS3 (And.intro hM3 (And.intro hiv3 (And.intro hb3 (And.intro hmm (And.intro htn (And.intro hp1 (And.intro hs1 hN3.2))))))))
     clear hfr2 hiv1 hs1 hS3 hM3 hN3 hiv3 hb3 hmm htn hp1 hc3' hQ3 w8 y1
     go_wp2_with fail
     go_at_call 48
     refine HTM.out.mono ?_
     rintro e x4 ⟨rfl,hb4⟩
     by_cases ho:41<tn∨4<jl
     ·rw [decide_eq_true ho]
      have hov:overP (putP u.kind u.set r.al (scP u.kind u.lo u.hi m)) (belP u.kind u.lo u.hi r.al m)=true:=by
       unfold overP
       rw [← H3.out.2.2.2.2.1,← H3.out.2.2.2.2.2.1,← H2.out.2.2.2.2.2]
       exact decide_eq_true ho
      have HR:=Lib.hid (HTV.out hov)
      have hb04:Below (w.heap.size+2) ((w1.alloc (.cells #[.int .i64 kk,.int .u64 (C 0:Nat),.int .u64 (C 1:Nat),.int .u64 (C 2:Nat),.int .u64 (C 3:Nat),.slice sa sn sc,.int .i64 l,.int .i64 h] 27)).alloc (.cells #[.slice (some ⟨w1.heap.size,0,none⟩) 1 1,.slice none 0 0] 121)) x4:=bhop2 (bhop2 HI.out.2.2.2.2.2.2.2.2.1 H3.out.2.2.2.1) (hb4.mono (by omega))
      have hzz:ZBM (w.heap.size+1) x4:=(hb04.block _ (by omega)).trans HZ0.out.1
      obtain ⟨⟨z0,z1,z2,z3,z4,z5,z6,z7,z8,z9,z10⟩,hfz,hzl⟩:=hzz.cells
      have f0:=hfz 0;have f1:=hfz 1;have f2:=hfz 2;have f3:=hfz 3;have f4:=hfz 4;have f5:=hfz 5;have f6:=hfz 6;have f7:=hfz 7;have f8:=hfz 8;have f9:=hfz 9;have f10:=hfz 10
      have HB:=Lib.hid (HZ0.out.2.trans (hb04.mono (by omega)))
      have HZ:=Lib.hid hzz
      clear hov hb04 hzz hfz hb4 e5
      go_wp2_with fail
      clear z0 z1 z2 z3 z4 z5 z6 z7 z8 z9 z10 f0 f1 f2 f3 f4 f5 f6 f7 f8 f9 f10
      have hf:=set11_heap HZ.out (.int .i64 0) (.int .u64 0) (.int .u64 0) (.int .u64 0) (.int .u64 0) (.slice none 0 0) (.int .i64 0) (.int .i64 0) (.slice none 0 0) (.slice none 0 0) (.slice none 0 0)
      have hch:=set11_chg x4 (w.heap.size+1) (.int .i64 0) (.int .u64 0) (.int .u64 0) (.int .u64 0) (.int .u64 0) (.slice none 0 0) (.int .i64 0) (.int .i64 0) (.slice none 0 0) (.slice none 0 0) (.slice none 0 0)
      generalize (((((((((((x4.setCell ⟨w.heap.size+1,0,none⟩ (.int .i64 0)).setCell ⟨w.heap.size+1,1,none⟩ (.int .u64 0)).setCell ⟨w.heap.size+1,2,none⟩ (.int .u64 0)).setCell ⟨w.heap.size+1,3,none⟩ (.int .u64 0)).setCell ⟨w.heap.size+1,4,none⟩ (.int .u64 0)).setCell ⟨w.heap.size+1,5,none⟩ (.slice none 0 0)).setCell ⟨w.heap.size+1,6,none⟩ (.int .i64 0)).setCell ⟨w.heap.size+1,7,none⟩ (.int .i64 0)).setCell ⟨w.heap.size+1,8,none⟩ (.slice none 0 0)).setCell ⟨w.heap.size+1,9,none⟩ (.slice none 0 0)).setCell ⟨w.heap.size+1,10,none⟩ (.slice none 0 0))=w6 at *
      obtain ⟨rr,_⟩:=row_cells hf
      have r0:=rr 0;have r1:=rr 1;have r2:=rr 2;have r3:=rr 3;have r4:=rr 4;have r5:=rr 5;have r6:=rr 6;have r7:=rr 7;have r8:=rr 8;have r9:=rr 9;have r10:=rr 10
      refine bodyPost_ret (v:=.tuple #[.agg #[.int .i64 0,.int .u64 0,.int .u64 0,.int .u64 0,.int .u64 0,.slice none 0 0,.int .i64 0,.int .i64 0,.slice none 0 0,.slice none 0 0,.slice none 0 0],.int .i64 3]) (by simp [results,Tryd.results33,go_sem,r0,r1,r2,r3,r4,r5,r6,r7,r8,r9,r10]) rfl ⟨.inr ⟨HR.out.symm,rfl⟩,?_⟩
      exact HB.out.trans (hch.below (by have:=HB.out.size;omega) fun k hk e=>by omega)
     ·rw [decide_eq_false ho]
      have hov:overP (putP u.kind u.set r.al (scP u.kind u.lo u.hi m)) (belP u.kind u.lo u.hi r.al m)=false:=by
       unfold overP
       rw [← H3.out.2.2.2.2.1,← H3.out.2.2.2.2.2.1,← H2.out.2.2.2.2.2]
       exact decide_eq_false ho
      have hb34:=hb4
      have hS4:=H3.out.1.below hb4
      have hM4:=H3.out.2.1.below hb4
      have hiv4:=H3.out.2.2.1.below hb4
      have e54:x4.cell? ⟨b,off+5,none⟩=some (.slice ua un uc):=(hb4.cell (p:=⟨b,off+5,none⟩) hbl3).trans e5
      have hbl4:=Nat.lt_of_lt_of_le hbl3 hb4.size
      have hb04:=bhop2 H3.out.2.2.2.1 (hb4.mono (by omega))
      have hsz14:w.heap.size+2≤x4.heap.size:=by have:=hb4.size;omega
      have hlu4:=laid_low' H3.out.2.2.2.2.2.2.2.2 hb4
      have H4:=Lib.hid (And.intro hS4 (And.intro hM4 (And.intro hiv4 (And.intro hb04 (And.intro hov hlu4)))))
      clear hb4 hb34 hS4 hM4 hiv4 e5 hb04 hlu4 hov
      go_wp2_with ((at_builtin;refine wpList_append_lies _ (by rfl) _ _ 122 (by rfl) (w.heap.size+2) 121 r0 _ 2 48 Tryd.underlying122 hr0 hy0 hy1 hy2 rfl (by decide) (.slice (some ⟨g,0,none⟩) (rs.length+1) cap) (rs.length+1) _ (by rfl) (H4.out.1.own.alloc _) ⟨x4.heap.size,0,none⟩ 1 1 [.slice ua un uc,.slice ja jl jc] (by rfl) ?c0 ?c1 ?c2 (by decide) ?c3 ?c4 ?c5 _ rfl ?_))
      case c0=>rfl
      case c1=>exact World.news_of_block (heap_alloc_new x4 _)
      case c2=>simp [Value.oneCell']
      case c3=>unfold maxLen;omega
      case c4=>omega
      case c5=>simp;omega
      intro g5 cap5 w5 hown5 hgrow5 hat5 hlt5
      obtain ⟨hS5,hc5⟩:=H4.out.1.push (r:=⟨u.v,u.ps,.slice ja jl jc,belP u.kind u.lo u.hi r.al m⟩) (ov':=.slice (some ⟨g5,0,none⟩) (rs.length+1+1) cap5) (ob:=.cells #[.slice ua un uc,.slice ja jl jc] 121) hgrow5 (by rw [show rwc ⟨u.v,u.ps,.slice ja jl jc,belP u.kind u.lo u.hi r.al m⟩=[.slice ua un uc,.slice ja jl jc] by unfold rwc;rw [← HI.out.2.2.2.2.2.2.2.2.2.2.2.2.2.2.2.2.1],rev_rwc,List.length_cons,List.append_assoc];exact hown5) ⟨laid_parts H4.out.2.2.2.2.2,H4.out.2.2.1⟩
      have hM5:=H4.out.2.1.keep hc5 fun x ty q _ hty=>by have:=hty.eq q.2;subst this;decide
      have hb5:=bhop2 (bhop2 HI.out.2.2.2.2.2.2.2.2.1 H4.out.2.2.2.1) (hc5.below (B:=w.heap.size+2) (by omega) fun k hk q=>by have:=q.1;omega)
      have hwr:=HWR.out u.v (.slice ja jl jc) (belP u.kind u.lo u.hi r.al m)
      have hpp:=H3.out.2.2.2.2.2.2.1
      have hss:=H3.out.2.2.2.2.2.2.2.1
      have HP:=Lib.hid (show LMap ((w1.alloc (.cells #[.int .i64 kk,.int .u64 (C 0:Nat),.int .u64 (C 1:Nat),.int .u64 (C 2:Nat),.int .u64 (C 3:Nat),.slice sa sn sc,.int .i64 l,.int .i64 h] 27)).alloc (.cells #[.slice (some ⟨w1.heap.size,0,none⟩) 1 1,.slice none 0 0] 121)) (w.heap.size+2) w1.heap.size mb [.int .i64 kk,.int .u64 (C 0:Nat),.int .u64 (C 1:Nat),.int .u64 (C 2:Nat),.int .u64 (C 3:Nat),.slice sa sn sc,.int .i64 l,.int .i64 h] (erase t) _ (.slice (some ⟨g5,0,none⟩) (rs.length+1+1) cap5) w5 from
       ⟨_,mm,_,_,_,hS5,hM5,by rw [H3.out.2.2.2.2.1];exact HTO.out _ _ H4.out.2.2.2.2.1,rfl,fun q hq=>by
        rcases List.mem_cons.1 hq with rfl | hq
        ·exact ⟨by rw [← H2.out.2.2.2.2.2];omega,HOK.out.1⟩
        ·rcases List.mem_cons.1 hq with rfl | hq
         ·exact ⟨HI.out.2.2.2.2.2.2.2.2.2.2.2.2.2.2.2.2.2.1,HOK.out.2.1⟩
         ·exact HOK.out.2.2 q hq,by have:=H3.out.2.2.2.2.2.1;omega,hpp.1,by
        have h1:=HI.out.2.2.2.2.2.2.2.1
        rw [hpp.2.1]
        omega,hb5,by have:=H3.out.2.2.2.2.2.1;omega⟩)
      have HN:=Lib.hid (And.intro hwr HI.out.2.2.2.1)
      clear hown5 hgrow5 hat5 hlt5 hS5 hc5 hM5 hb5 hwr hpp hss
      go_wp2_with fail
      go_roundw
      case rel=>exact ⟨_,HP.out⟩
      case measure =>
       have hlt:=HN.out.1
       rw [HN.out.2]
       exact Nat.lt_of_le_of_lt ((leastOf_spec ⟨_,HP.out⟩).2 _ HP.out) hlt
    ·have hc2:((1:Int) == (rcap:Int))=false:=by simp;omega
     have hc3:¬ (1:Int)=(rcap:Int):=by omega
     have HX:=Lib.hid (hS.take HTL.out)
     have hch:Chg (fun x=>x=g) wr (wr.setCell ⟨g,rs.length * 2,none⟩ (.slice (some ⟨b,off+8,none⟩) us.length (rcap - 1))):=(Chg.refl (fun x=>x=g) wr).setCell (p:=⟨g,rs.length * 2,none⟩) (fun _=>rfl) _
     have hgt:TyB wr g 121:=own_ty hS.own rfl
     have HM1:=Lib.hid (hM.keep hch fun x ty e _ hty=>by subst e;have:=hty.eq hgt;subst this;decide)
     have HN1:=Lib.hid (node_keep hcu hlu hblt hbR hS.node hch fun x e=>⟨by omega,fun hty=>by subst e;have:=hty.eq hgt;revert this;decide⟩)
     have hsz1:=hch.size
     have HB1:=Lib.hid (show Below (w.heap.size+2) wr (wr.setCell ⟨g,rs.length * 2,none⟩ (.slice (some ⟨b,off+8,none⟩) us.length (rcap - 1))) from hch.below (by omega) fun k hk e=>by omega)
     have HTO:=Lib.hid (fun (tv bv:Value) (ho:overP (putP u.kind u.set r.al (scP u.kind u.lo u.hi m)) (belP u.kind u.lo u.hi r.al m)=false)=>(todoP_take r rs m u us hps tv bv ho).symm.trans htd)
     have HTV:=Lib.hid (fun (ho:overP (putP u.kind u.set r.al (scP u.kind u.lo u.hi m)) (belP u.kind u.lo u.hi r.al m)=true)=>(todoP_over r rs m u us hps ho).symm.trans htd)
     have hsz01:w.heap.size+2≤(wr.setCell ⟨g,rs.length * 2,none⟩ (.slice (some ⟨b,off+8,none⟩) us.length (rcap - 1))).heap.size:=by omega
     have hbl1:b<(wr.setCell ⟨g,rs.length * 2,none⟩ (.slice (some ⟨b,off+8,none⟩) us.length (rcap - 1))).heap.size:=by omega
     have HWR:=Lib.hid (show ∀ (va vb:Value) (ls:List Nat),wRw (⟨va,u.ps,vb,ls⟩ :: { r with nv:=.slice (some ⟨b,off+8,none⟩) us.length (rcap - 1),ps:=us } :: rs)+1≤wRw (r :: rs) by
      intro va vb ls
      have:=sz_eq u
      simp only [wRw,hps,erases,szsT]
      omega)
     have HOK:=Lib.hid (show (∀ p∈u.ps,okF p)∧(∀ p∈us,okF p)∧∀ q∈rs,q.al.length≤4∧∀ p∈q.ps,okF p from ⟨fun p hp=>hoku.part hp,fun p hp=>hokr.2 p (by rw [hps];simp [hp]),fun q hq=>hok q (by simp [hq])⟩)
     clear hrel hS hM htd hn hok hm1 hm2 hm3 hm4 hbl hfr hps hrow htail hlu hcu hbR hrcap husl hokr hoku hku hav hil hlen hnv hch hgt hsz1
     go_wp2_with fail
     generalize (wr.setCell ⟨g,rs.length * 2,none⟩ (.slice (some ⟨b,off+8,none⟩) us.length (rcap - 1)))=x1 at *
     clear y0 y1 hgf
     go_at_call 46
     have hfr1:=HX.out.fr _ (List.mem_cons_self ..)
     have hiv1:IntsR x1 (w.heap.size+2) (.slice ia il ic) r.al:=by have:=hfr1.2;rw [← HI.out.2.2.2.2.2.2.2.2.2.2.2.2.2.2.2.2.2.2];exact this
     refine (within_any x1 (w.heap.size+2) mb b off [.int .i64 kk,.int .u64 (C 0:Nat),.int .u64 (C 1:Nat),.int .u64 (C 2:Nat),.int .u64 (C 3:Nat),.slice sa sn sc,.int .i64 l,.int .i64 h] m sv cv av (.slice ia il ic) r.al u.kind u.lo u.hi HM1.out hiv1 (HN1.out.1 0 _ rfl) (HN1.out.1 6 _ rfl) (HN1.out.1 7 _ rfl) hbl1 HRC.out.2.1 (by have:=HI.out.2.2.2.2.2.2.2.1;omega) (by have:=HI.out.2.2.2.2.2.2.2.2.2.2.2.2.2.2.2.2.2.1;omega) (by omega)).mono ?_
     rintro e x2 ⟨⟨iv2,cv2,rfl,hM2,hiv2⟩,hc2'⟩
     obtain ⟨ja,jc,hj⟩:=hiv2.form
     obtain ⟨jl,hjl⟩ : ∃ jl,jl=(belP u.kind u.lo u.hi r.al m).length:=⟨_,rfl⟩
     rw [← hjl] at hj
     subst hj
     have hQ2:∀ x,(w.heap.size+2≤x∧(TyB x1 x 33∨TyB x1 x 154))→w.heap.size+2≤x∧∀ ty,TyB x1 x ty→stkTy ty=false:=fun x q=>⟨q.1,fun ty hty=>by
      rcases q.2 with q | q
      ·have:=hty.eq q;subst this;decide
      ·have:=hty.eq q;subst this;decide⟩
     have hS2:=HX.out.keep hc2' hQ2
     have hN2:=node_keep HN1.out.1 HN1.out.2 hbl1 HI.out.2.2.2.2.2.2.2.2.2.2.2.2.2.2.2.1 HX.out.node hc2' fun x q=>⟨q.1,fun hty=>by have:=(hQ2 x q).2 _ hty;revert this;decide⟩
     have hbl2:=Nat.lt_of_lt_of_le hbl1 hc2'.size
     have hb2:=bhop2 HB1.out (hc2'.below (B:=w.heap.size+2) (by omega) fun k hk q=>by have:=q.1;omega)
     have hsz2:=hc2'.size
     have y1:x2.cell? ⟨g,rs.length * 2+1,none⟩=some (.slice ia il ic):=by
      rw [hS2.own.cellAt _ (by omega),rev_rwc,List.getElem?_append_right (by rw [rwc_len,List.length_reverse];omega),rwc_len,List.length_reverse,show rs.length * 2+1 - rs.length * 2=1 by omega]
      show some r.av=_
      rw [HI.out.2.2.2.2.2.2.2.2.2.2.2.2.2.2.2.2.2.2]
     have H2:=Lib.hid (And.intro hS2 (And.intro hM2 (And.intro hiv2 (And.intro hN2 (And.intro hb2 hjl)))))
     have hsz12:w.heap.size+2≤x2.heap.size:=by omega
     clear hfr1 hiv1 hS2 hM2 hiv2 hN2 hb2 hjl hc2' hQ2 HN1 HX HM1 HB1 hbl1 hsz2
     go_wp2_with fail
     go_at_call 47
     have hs1:=scP_sets u.kind u.lo u.hi m
     have hfr2:=H2.out.1.fr _ (List.mem_cons_self ..)
     have hiv1:IntsR x2 (w.heap.size+2) (.slice ia il ic) r.al:=by have:=hfr2.2;rw [← HI.out.2.2.2.2.2.2.2.2.2.2.2.2.2.2.2.2.2.2];exact this
     refine (pput_any x2 (w.heap.size+2) mb b off [.int .i64 kk,.int .u64 (C 0:Nat),.int .u64 (C 1:Nat),.int .u64 (C 2:Nat),.int .u64 (C 3:Nat),.slice sa sn sc,.int .i64 l,.int .i64 h] (scP u.kind u.lo u.hi m) sv cv2 av (.slice ia il ic) r.al u.kind u.set H2.out.2.1 hiv1 (H2.out.2.2.2.1.1 0 _ rfl) (H2.out.2.2.2.1.1 1 _ rfl) (H2.out.2.2.2.1.1 2 _ rfl) (H2.out.2.2.2.1.1 3 _ rfl) (H2.out.2.2.2.1.1 4 _ rfl) hbl2 (by rw [hs1.1];have:=HI.out.2.2.2.2.2.1;omega) (by rw [hs1.2.1];have h1:=HI.out.2.2.2.2.2.1;have h2:=HI.out.2.2.2.2.2.2.1;omega) (by have:=HI.out.2.2.2.2.2.2.2.2.2.2.2.2.2.2.2.2.2.1;omega) (by omega)).mono ?_
     rintro e x3 ⟨rfl,⟨sv3,av3,hM3⟩,hc3'⟩
     have hQ3:∀ x,(w.heap.size+2≤x∧(TyB x2 x 33∨TyB x2 x 24∨TyB x2 x 34))→w.heap.size+2≤x∧∀ ty,TyB x2 x ty→stkTy ty=false:=fun x q=>⟨q.1,fun ty hty=>by
      rcases q.2 with q | q | q
      ·have:=hty.eq q;subst this;decide
      ·have:=hty.eq q;subst this;decide
      ·have:=hty.eq q;subst this;decide⟩
     have hS3:=H2.out.1.keep hc3' hQ3
     have hN3:=node_keep H2.out.2.2.2.1.1 H2.out.2.2.2.1.2 hbl2 HI.out.2.2.2.2.2.2.2.2.2.2.2.2.2.2.2.1 H2.out.1.node hc3' fun x q=>⟨q.1,fun hty=>by have:=(hQ3 x q).2 _ hty;revert this;decide⟩
     have hiv3:=H2.out.2.2.1.keep hc3' fun x q _ hty=>by have:=(hQ3 x q).2 _ hty;revert this;decide
     have hb3:=bhop2 H2.out.2.2.2.2.1 (hc3'.below (B:=w.heap.size+2) (by omega) fun k hk q=>by have:=q.1;omega)
     have hsz13:w.heap.size+2≤x3.heap.size:=by have:=hc3'.size;omega
     have hbl3:=Nat.lt_of_lt_of_le hbl2 hc3'.size
     obtain ⟨mm,hmm⟩ : ∃ mm,mm=putP u.kind u.set r.al (scP u.kind u.lo u.hi m):=⟨_,rfl⟩
     rw [← hmm] at hM3
     obtain ⟨tA,tC,hsv⟩:=own_form hM3.lists.sets
     obtain ⟨tn,htn⟩ : ∃ tn,tn=mm.sets.length:=⟨_,rfl⟩
     rw [← htn] at hsv
     subst hsv
     have hp1:=put_sets u.kind u.set r.al (scP u.kind u.lo u.hi m) (by rw [hs1.1,hs1.2.1];exact HI.out.2.2.2.2.2.2.1)
     rw [← hmm,hs1.1] at hp1
     obtain ⟨w8,_,_⟩:=hM3.cell
     have e5:x3.cell? ⟨b,off+5,none⟩=some (.slice ua un uc):=hN3.1 5 _ (by rw [← HI.out.2.2.2.2.2.2.2.2.2.2.2.2.2.2.2.2.1];rfl)
     have hjl4:jl≤5:=by have h1:=belP_len u.kind u.lo u.hi r.al m;have h2:=HI.out.2.2.2.2.2.2.2.2.2.2.2.2.2.2.2.2.2.1;have h3:=H2.out.2.2.2.2.2;omega
     have htn1:tn≤42:=by have h1:=hp1.2.2.2;have h2:=HI.out.2.2.2.2.2.1;omega
     have htn2:1≤tn:=by have h1:=hp1.2.2.1;have h2:=HI.out.2.2.2.2.2.2.2.2.2.1;omega
     have HTM:=Lib.hid (tooMuch_any mb tA ja tn tC jl jc x3 w8 (by omega) htn2 (by omega))
     have H3:=Lib.hid (And.intro hS3 (And.intro hM3 (And.intro hiv3 (And.intro hb3 (And.intro hmm (And.intro htn (And.intro hp1 (And.intro hs1 hN3.2))))))))
     clear hfr2 hiv1 hs1 hS3 hM3 hN3 hiv3 hb3 hmm htn hp1 hc3' hQ3 w8 y1
     go_wp2_with fail
     go_at_call 48
     refine HTM.out.mono ?_
     rintro e x4 ⟨rfl,hb4⟩
     by_cases ho:41<tn∨4<jl
     ·rw [decide_eq_true ho]
      have hov:overP (putP u.kind u.set r.al (scP u.kind u.lo u.hi m)) (belP u.kind u.lo u.hi r.al m)=true:=by
       unfold overP
       rw [← H3.out.2.2.2.2.1,← H3.out.2.2.2.2.2.1,← H2.out.2.2.2.2.2]
       exact decide_eq_true ho
      have HR:=Lib.hid (HTV.out hov)
      have hb04:Below (w.heap.size+2) ((w1.alloc (.cells #[.int .i64 kk,.int .u64 (C 0:Nat),.int .u64 (C 1:Nat),.int .u64 (C 2:Nat),.int .u64 (C 3:Nat),.slice sa sn sc,.int .i64 l,.int .i64 h] 27)).alloc (.cells #[.slice (some ⟨w1.heap.size,0,none⟩) 1 1,.slice none 0 0] 121)) x4:=bhop2 (bhop2 HI.out.2.2.2.2.2.2.2.2.1 H3.out.2.2.2.1) (hb4.mono (by omega))
      have hzz:ZBM (w.heap.size+1) x4:=(hb04.block _ (by omega)).trans HZ0.out.1
      obtain ⟨⟨z0,z1,z2,z3,z4,z5,z6,z7,z8,z9,z10⟩,hfz,hzl⟩:=hzz.cells
      have f0:=hfz 0;have f1:=hfz 1;have f2:=hfz 2;have f3:=hfz 3;have f4:=hfz 4;have f5:=hfz 5;have f6:=hfz 6;have f7:=hfz 7;have f8:=hfz 8;have f9:=hfz 9;have f10:=hfz 10
      have HB:=Lib.hid (HZ0.out.2.trans (hb04.mono (by omega)))
      have HZ:=Lib.hid hzz
      clear hov hb04 hzz hfz hb4 e5
      go_wp2_with fail
      clear z0 z1 z2 z3 z4 z5 z6 z7 z8 z9 z10 f0 f1 f2 f3 f4 f5 f6 f7 f8 f9 f10
      have hf:=set11_heap HZ.out (.int .i64 0) (.int .u64 0) (.int .u64 0) (.int .u64 0) (.int .u64 0) (.slice none 0 0) (.int .i64 0) (.int .i64 0) (.slice none 0 0) (.slice none 0 0) (.slice none 0 0)
      have hch:=set11_chg x4 (w.heap.size+1) (.int .i64 0) (.int .u64 0) (.int .u64 0) (.int .u64 0) (.int .u64 0) (.slice none 0 0) (.int .i64 0) (.int .i64 0) (.slice none 0 0) (.slice none 0 0) (.slice none 0 0)
      generalize (((((((((((x4.setCell ⟨w.heap.size+1,0,none⟩ (.int .i64 0)).setCell ⟨w.heap.size+1,1,none⟩ (.int .u64 0)).setCell ⟨w.heap.size+1,2,none⟩ (.int .u64 0)).setCell ⟨w.heap.size+1,3,none⟩ (.int .u64 0)).setCell ⟨w.heap.size+1,4,none⟩ (.int .u64 0)).setCell ⟨w.heap.size+1,5,none⟩ (.slice none 0 0)).setCell ⟨w.heap.size+1,6,none⟩ (.int .i64 0)).setCell ⟨w.heap.size+1,7,none⟩ (.int .i64 0)).setCell ⟨w.heap.size+1,8,none⟩ (.slice none 0 0)).setCell ⟨w.heap.size+1,9,none⟩ (.slice none 0 0)).setCell ⟨w.heap.size+1,10,none⟩ (.slice none 0 0))=w6 at *
      obtain ⟨rr,_⟩:=row_cells hf
      have r0:=rr 0;have r1:=rr 1;have r2:=rr 2;have r3:=rr 3;have r4:=rr 4;have r5:=rr 5;have r6:=rr 6;have r7:=rr 7;have r8:=rr 8;have r9:=rr 9;have r10:=rr 10
      refine bodyPost_ret (v:=.tuple #[.agg #[.int .i64 0,.int .u64 0,.int .u64 0,.int .u64 0,.int .u64 0,.slice none 0 0,.int .i64 0,.int .i64 0,.slice none 0 0,.slice none 0 0,.slice none 0 0],.int .i64 3]) (by simp [results,Tryd.results33,go_sem,r0,r1,r2,r3,r4,r5,r6,r7,r8,r9,r10]) rfl ⟨.inr ⟨HR.out.symm,rfl⟩,?_⟩
      exact HB.out.trans (hch.below (by have:=HB.out.size;omega) fun k hk e=>by omega)
     ·rw [decide_eq_false ho]
      have hov:overP (putP u.kind u.set r.al (scP u.kind u.lo u.hi m)) (belP u.kind u.lo u.hi r.al m)=false:=by
       unfold overP
       rw [← H3.out.2.2.2.2.1,← H3.out.2.2.2.2.2.1,← H2.out.2.2.2.2.2]
       exact decide_eq_false ho
      have hb34:=hb4
      have hS4:=H3.out.1.below hb4
      have hM4:=H3.out.2.1.below hb4
      have hiv4:=H3.out.2.2.1.below hb4
      have e54:x4.cell? ⟨b,off+5,none⟩=some (.slice ua un uc):=(hb4.cell (p:=⟨b,off+5,none⟩) hbl3).trans e5
      have hbl4:=Nat.lt_of_lt_of_le hbl3 hb4.size
      have hb04:=bhop2 H3.out.2.2.2.1 (hb4.mono (by omega))
      have hsz14:w.heap.size+2≤x4.heap.size:=by have:=hb4.size;omega
      have hlu4:=laid_low' H3.out.2.2.2.2.2.2.2.2 hb4
      have H4:=Lib.hid (And.intro hS4 (And.intro hM4 (And.intro hiv4 (And.intro hb04 (And.intro hov hlu4)))))
      clear hb4 hb34 hS4 hM4 hiv4 e5 hb04 hlu4 hov
      go_wp2_with ((at_builtin;refine wpList_append_lies _ (by rfl) _ _ 122 (by rfl) (w.heap.size+2) 121 r0 _ 2 48 Tryd.underlying122 hr0 hy0 hy1 hy2 rfl (by decide) (.slice (some ⟨g,0,none⟩) (rs.length+1) cap) (rs.length+1) _ (by rfl) (H4.out.1.own.alloc _) ⟨x4.heap.size,0,none⟩ 1 1 [.slice ua un uc,.slice ja jl jc] (by rfl) ?c0 ?c1 ?c2 (by decide) ?c3 ?c4 ?c5 _ rfl ?_))
      case c0=>rfl
      case c1=>exact World.news_of_block (heap_alloc_new x4 _)
      case c2=>simp [Value.oneCell']
      case c3=>unfold maxLen;omega
      case c4=>omega
      case c5=>simp;omega
      intro g5 cap5 w5 hown5 hgrow5 hat5 hlt5
      obtain ⟨hS5,hc5⟩:=H4.out.1.push (r:=⟨u.v,u.ps,.slice ja jl jc,belP u.kind u.lo u.hi r.al m⟩) (ov':=.slice (some ⟨g5,0,none⟩) (rs.length+1+1) cap5) (ob:=.cells #[.slice ua un uc,.slice ja jl jc] 121) hgrow5 (by rw [show rwc ⟨u.v,u.ps,.slice ja jl jc,belP u.kind u.lo u.hi r.al m⟩=[.slice ua un uc,.slice ja jl jc] by unfold rwc;rw [← HI.out.2.2.2.2.2.2.2.2.2.2.2.2.2.2.2.2.1],rev_rwc,List.length_cons,List.append_assoc];exact hown5) ⟨laid_parts H4.out.2.2.2.2.2,H4.out.2.2.1⟩
      have hM5:=H4.out.2.1.keep hc5 fun x ty q _ hty=>by have:=hty.eq q.2;subst this;decide
      have hb5:=bhop2 (bhop2 HI.out.2.2.2.2.2.2.2.2.1 H4.out.2.2.2.1) (hc5.below (B:=w.heap.size+2) (by omega) fun k hk q=>by have:=q.1;omega)
      have hwr:=HWR.out u.v (.slice ja jl jc) (belP u.kind u.lo u.hi r.al m)
      have hpp:=H3.out.2.2.2.2.2.2.1
      have hss:=H3.out.2.2.2.2.2.2.2.1
      have HP:=Lib.hid (show LMap ((w1.alloc (.cells #[.int .i64 kk,.int .u64 (C 0:Nat),.int .u64 (C 1:Nat),.int .u64 (C 2:Nat),.int .u64 (C 3:Nat),.slice sa sn sc,.int .i64 l,.int .i64 h] 27)).alloc (.cells #[.slice (some ⟨w1.heap.size,0,none⟩) 1 1,.slice none 0 0] 121)) (w.heap.size+2) w1.heap.size mb [.int .i64 kk,.int .u64 (C 0:Nat),.int .u64 (C 1:Nat),.int .u64 (C 2:Nat),.int .u64 (C 3:Nat),.slice sa sn sc,.int .i64 l,.int .i64 h] (erase t) _ (.slice (some ⟨g5,0,none⟩) (rs.length+1+1) cap5) w5 from
       ⟨_,mm,_,_,_,hS5,hM5,by rw [H3.out.2.2.2.2.1];exact HTO.out _ _ H4.out.2.2.2.2.1,rfl,fun q hq=>by
        rcases List.mem_cons.1 hq with rfl | hq
        ·exact ⟨by rw [← H2.out.2.2.2.2.2];omega,HOK.out.1⟩
        ·rcases List.mem_cons.1 hq with rfl | hq
         ·exact ⟨HI.out.2.2.2.2.2.2.2.2.2.2.2.2.2.2.2.2.2.1,HOK.out.2.1⟩
         ·exact HOK.out.2.2 q hq,by have:=H3.out.2.2.2.2.2.1;omega,hpp.1,by
        have h1:=HI.out.2.2.2.2.2.2.2.1
        rw [hpp.2.1]
        omega,hb5,by have:=H3.out.2.2.2.2.2.1;omega⟩)
      have HN:=Lib.hid (And.intro hwr HI.out.2.2.2.1)
      clear hown5 hgrow5 hat5 hlt5 hS5 hc5 hM5 hb5 hwr hpp hss
      go_wp2_with fail
      go_roundw
      case rel=>exact ⟨_,HP.out⟩
      case measure =>
       have hlt:=HN.out.1
       rw [HN.out.2]
       exact Nat.lt_of_le_of_lt ((leastOf_spec ⟨_,HP.out⟩).2 _ HP.out) hlt
end Go.Proofs.YtbohmcfplgdlpaaDoor
