/- Of every input the statement LettersAlike returns true, and it reads afterwards as before; the card: what its row lists is tied to the program's text.
   No condition. -/
import Derived.Test.YtnmjicfpmkoldaaGreatDoorN5L
import Derived.Test.YtnmjicfpmkoldaaGreatDoorLT
import Derived.Test.YtnmjicfpmkoldaaGreatDoorN1L
import Derived.Deep.OwnRows
import Derived.Test.YtnmjicfpmkoldaaGreatDoorOrder
import Derived.Test.YtnmjicfpmkoldaaGreatDoorRows
import Derived.WalkKit
import Derived.KernelRfl
import Derived.Test.YtnmjicfpmkoldaaGreatDoorN2L
import Derived.Test.YtnmjicfpmkoldaaGreatDoorPZ
import Derived.Test.YtnmjicfpmkoldaaGreatDoorPY
import Derived.StillTailTactics
import Derived.Deep.WholeRow
import Derived.Great.BuildSlice
import Derived.Great.FillDense
import Derived.Test.YtnmjicfpmkoldaaGreatDoorPM
import Derived.Test.YtnmjicfpmkoldaaGreatDoorMRef
import Derived.Test.YtnmjicfpmkoldaaGreatDoorCards
import Derived.Test.YtnmjicfpmkoldaaGreatDoorTie
import Derived.ProofKit
import Derived.LaidMore
import Derived.OpenShut
import Derived.ChangeOld
import Derived.Below
import Derived.SevenTiedAt
namespace Go.Proofs.YtnmjicfpmkoldaaGreatDoor
open Go.RowKit
def AlkB (m:PM) (b c:Nat):Prop:=∀ q,hasB (m.sets.getD q zeros) c=hasB (m.sets.getD q zeros) b
theorem bgL_map {m:PM} {f:Nat→Nat} {b:Nat} (h:AlkB m b (f b)) (fl:List Nat):bgL m (f b) fl=bgL m b fl:=by
 unfold bgL
 rw [show (fl.filter fun q=>hasB (m.sets.getD q zeros) (f b))=fl.filter fun q=>hasB (m.sets.getD q zeros) b from List.filter_congr fun q _=>h q]
theorem stepB_map {m:PM} {f:Nat→Nat} {b:Nat} (h:AlkB m b (f b)) (L:Nat→List Mv) (S:Kc→Prop):stepB m L S (f b)=stepB m L S b:=by
 have e:∀ q,hasB (m.sets.getD q zeros) (f b)=hasB (m.sets.getD q zeros) b:=h
 funext k'
 unfold stepB StS StM
 simp only [e]
theorem fold_map {m:PM} {f:Nat→Nat} {L:Nat→List Mv}:∀ (u:List Nat) (S:Kc→Prop),(∀ b∈u,AlkB m b (f b))→(u.map f).foldl (stepB m L) S=u.foldl (stepB m L) S
 | [],_,_=>rfl
 | b :: u,S,h=>by
  rw [List.map_cons,List.foldl_cons,List.foldl_cons,stepB_map (h b (by simp))]
  exact fold_map u _ fun c hc=>h c (by simp [hc])
theorem bhS_map {m:PM} {f:Nat→Nat} {fl:List Nat} {L:Nat→List Mv}:∀ (u:List Nat),(∀ b∈u,AlkB m b (f b))→bhS m fl L (u.map f)=bhS m fl L u
 | [],_=>rfl
 | b :: u,h=>by
  show (u.map f).foldl (stepB m L) (fun k=>k∈(bgL m (f b) fl).map kcB)=u.foldl (stepB m L) fun k=>k∈(bgL m b fl).map kcB
  rw [bgL_map (h b (by simp)),fold_map u _ fun c hc=>h c (by simp [hc])]
theorem mat_map {m:PM} {f:Nat→Nat} {fl:List Nat} {la:Nat} {L:Nat→List Mv} {em:Bool} {u:List Nat} (h:∀ b∈u,AlkB m b (f b)) {v v':Bool} (h1:MatS m fl la L em u v) (h2:MatS m fl la L em (u.map f) v'):v=v':=by
 by_cases hu:u=[]
 ·subst hu
  rw [h1.1 rfl,h2.1 rfl]
 ·have hn:u.map f≠[]:=fun e=>hu (List.map_eq_nil_iff.1 e)
  have k1:=h1.2 hu
  have k2:=h2.2 hn
  rw [bhS_map u h] at k2
  rw [Bool.eq_iff_iff,k1,k2]
end Go.Proofs.YtnmjicfpmkoldaaGreatDoor
namespace Go.Proofs.YtnmjicfpmkoldaaGreatDoor.Lc
open Go.RowKit
theorem hd_put {k:Int} {C:Nat→Nat} {ar:List Nat} {m:PM} {lo hi:Int} (h:m.sets[0]? = some zeros):(putP k C ar (scP k lo hi m)).sets[0]? = some zeros:=by
 have e:(scP k lo hi m).sets=m.sets:=by unfold scP;split <;> rfl
 unfold putP
 split
 ·show ((scP k lo hi m).sets ++ _)[0]? = some zeros
  rw [e,List.getElem?_append_left (List.getElem?_eq_some_iff.1 h).1,h]
 ·rw [e];exact h
mutual
theorem mapN_hd:∀ (t:T) (ar:List Nat) (m m':PM),mapN t ar m=some m'→m.sets[0]? = some zeros→m'.sets[0]? = some zeros
 | .node k C lo hi ps,ar,m,m',h,hm=>by
  rw [mapN] at h
  split at h
  ·cases h
  ·exact mapsN_hd ps _ _ m' h (hd_put hm)
theorem mapsN_hd:∀ (ts:List T) (ar:List Nat) (m m':PM),mapsN ts ar m=some m'→m.sets[0]? = some zeros→m'.sets[0]? = some zeros
 | [],ar,m,m',h,hm=>by
  rw [mapsN] at h
  rw [← Option.some.inj h]
  exact hm
 | t :: ts,ar,m,m',h,hm=>by
  rw [mapsN] at h
  cases h1:mapN t ar m with
  | none=>rw [h1] at h;cases h
  | some m1 =>
   rw [h1] at h
   exact mapsN_hd ts ar m1 m' h (mapN_hd t ar m m1 h1 hm)
end
theorem alk_fst {xs:List (Au×PM)} {x:Au×PM} {t:T} (hm:mapT t=some x.2) (hx:x∈xs) (b:Nat):AlkB x.2 b (fst (AlR (setsL xs)) b):=by
 have hr:=alR_iff.1 (fst_spec (alike_AlR (setsL xs)) b).2.1
 have h0:=mapN_hd t [] pm0 x.2 hm rfl
 intro q
 cases q with
 | zero=>rw [List.getD_eq_getElem?_getD,h0];simp [hasB,zeros]
 | succ q =>
  rw [List.getD_eq_getElem?_getD]
  cases e:x.2.sets[q+1]? with
  | none=>simp [hasB,zeros]
  | some C =>
   refine hr C (List.mem_flatMap.2 ⟨x,hx,List.mem_of_getElem? (i:=q) ?_⟩)
   rw [List.getElem?_drop,Nat.add_comm,e]
theorem mat_one {m:PM} {fl:List Nat} {la:Nat} {L:Nat→List Mv} {em:Bool} (u:List Nat):∃ v,MatS m fl la L em u v:=by
 by_cases hu:u=[]
 ·exact ⟨em,fun _=>rfl,fun h=>absurd hu h⟩
 ·by_cases h:∃ k,Kc63 k∧bhS m fl L u k∧accB m la k.p k.x=true
  ·exact ⟨true,fun e=>absurd e hu,fun _=>⟨fun _=>h,fun _=>rfl⟩⟩
  ·exact ⟨false,fun e=>absurd e hu,fun _=>⟨fun e=>(by cases e),fun e=>absurd e h⟩⟩
theorem match_ms {B:Nat} {w:World} {u:T} {a:Au} {m:PM} {L:Nat→List Mv} (h:AuG B w u a m L) (hC:∀ C∈m.sets,Cl C) (W:World) (hb:Below w.heap.size w W) (v:Value) (wd wo:List Nat) (hv:WrdR W v wd) (hlen:wd.length≤40) (f:Nat→Nat) (hf:∀ b∈wo,AlkB m b (f b)) (hw:wd=wo∨wd=wo.map f) (bv:Bool) (hbv:MatS m (bitsL (mvT (simT u) 0 0).1.fi) (mvT (simT u) 0 0).1.la L a.em wo bv) :
  Calls Tryz.prog 12 #[.agg #[.int .i64 a.k,.int .u64 (a.s0:Nat),.int .u64 (a.s1:Nat),.int .u64 (a.s2:Nat),.int .u64 (a.s3:Nat),.slice a.ta a.tn a.tc,.int .i64 a.lo,.int .i64 a.hi,.slice a.sA a.n a.sC,.slice a.cA a.cN a.cC,.slice (some ⟨a.ga,0,none⟩) a.n a.aC,.slice a.fA a.fN a.fC,.slice (some ⟨a.mb,0,none⟩) a.n a.n,.slice (some ⟨a.lb,0,none⟩) a.n a.n,.bool a.em],v] W fun e w'=>e=.returned (.bool bv)∧Below W.heap.size W w':=by
 obtain ⟨vs,hrw⟩:=h.rows
 have hfs:(bitsL (mvT (simT u) 0 0).1.fi).Pairwise (· < ·):=List.Pairwise.filter _ List.pairwise_lt_range
 have hfl:(bitsL (mvT (simT u) 0 0).1.fi).length≤41:=by have:=fl_few hfs fun q hq=>(h.au.fin q hq).2;have:=h.au.most;omega
 refine (nmatch_any W (h.au.below hb) (hrw.below hb) hC hfl h.mvl v wd hv hlen).mono fun e w' ⟨b,e1,e2,e3⟩=>⟨?_,e3⟩
 rw [e1]
 rcases hw with rfl | rfl
 ·rw [mat_map (f:=fun b=>b) (fun b _ q=>rfl) hbv (by rw [List.map_id'];exact e2)]
 ·rw [mat_map hf hbv e2]
end Go.Proofs.YtnmjicfpmkoldaaGreatDoor.Lc
namespace Go.Proofs.YtnmjicfpmkoldaaGreatDoor.Lc
open Go.RowKit Go.Shelf
def pB (k:IntKind) (n:Nat) (f:Nat→Nat):Array Value:=((List.range n).map fun j=>Value.int k (f j:Int)).toArray
theorem pB_size (k:IntKind) (n:Nat) (f:Nat→Nat):(pB k n f).size=n:=by simp [pB]
theorem pB_get (k:IntKind) {n:Nat} (f:Nat→Nat) {j:Nat} (h:j<n):(pB k n f)[j]? = some (.int k (f j:Int)):=by simp [pB,h]
theorem pB_zero (k:IntKind) (n:Nat) (F:Nat→Nat):madeCells #[.int k 0] n=pB k n (fun j=>if j<0 then F j else 0):=by
 apply Array.ext_getElem?
 intro j
 unfold madeCells pB
 simp only [List.getElem?_toArray,List.getElem?_map,Array.getElem?_map]
 by_cases hj:j<n
 ·simp [hj,Nat.mod_one]
 ·simp [hj]
theorem pB_set (k:IntKind) {n:Nat} (F:Nat→Nat) (i:Nat):(pB k n (fun j=>if j<i then F j else 0)).setIfInBounds i (.int k (F i:Int))=pB k n (fun j=>if j<i+1 then F j else 0):=by
 apply Array.ext_getElem?
 intro j
 rw [Array.getElem?_setIfInBounds]
 by_cases hj:j<n
 ·by_cases e:i=j
  ·subst e
   rw [if_pos rfl,if_pos (by rw [pB_size];exact hj),pB_get k _ hj,if_pos (Nat.lt_succ_self i)]
  ·rw [if_neg e,pB_get k _ hj,pB_get k _ hj]
   by_cases h:j<i
   ·rw [if_pos h,if_pos (by omega)]
   ·rw [if_neg h,if_neg (by omega)]
 ·have e1:∀ g:Nat→Nat,(pB k n g)[j]? = none:=fun g=>Array.getElem?_eq_none (by rw [pB_size];omega)
  rw [e1,e1]
  split
  ·rename_i e
   rw [if_neg (by rw [pB_size];omega)]
  ·rfl
theorem infoU8:(Tryz.prog.info? 5).map (fun i=>(i.zero,i.size,i.bytes))=some (some (.int .u8 0),1,1):=by kernel_rfl
theorem wrd_pB {w:World} {b:Nat} {u:List Nat} {f:Nat→Nat} (h:w.heap[b]? = some (.cells (pB .u8 u.length (fun j=>if j<u.length then f (u.getD j 0) else 0)) 5 (0,0))) (hf:∀ x∈u,f x<256):WrdR w (.slice (some ⟨b,0,none⟩) u.length u.length) (u.map f):=by
 refine ⟨_,_,by rw [List.length_map],fun i x hx=>?_⟩
 rw [List.getElem?_map] at hx
 obtain ⟨y,hy,rfl⟩:=Option.map_eq_some_iff.1 hx
 have hi:=(List.getElem?_eq_some_iff.1 hy).1
 refine ⟨hf y (List.mem_of_getElem? hy),b,0,rfl,(Array.getElem?_eq_some_iff.1 h).1,?_⟩
 rw [Nat.zero_add,(row_cells h).1,pB_get .u8 _ hi,if_pos hi,List.getD_eq_getElem?_getD,hy]
 rfl
theorem infoInt:(Tryz.prog.info? 3).map (fun i=>(i.zero,i.size,i.bytes))=some (some (.int .i64 0),1,8):=by kernel_rfl
set_option maxHeartbeats 8000000 in
set_option maxRecDepth 100000 in
theorem plain_any (w:World) (A:Option Addr) (c:Nat) (u:List Nat) (r:Nat→Nat→Bool) (g M:Nat) (hal:Alike r) (hM:M=news r 256) (hrow:ClassRow w (some ⟨g,0,none⟩) M (partOf r)) (hu:WrdR w (.slice A u.length c) u) (hn:u.length≤1000000) :
  Calls Tryz.prog 21 #[.agg (ltA (.slice (some ⟨g,0,none⟩) M M) (nm r)),.slice A u.length c] w fun e w'=>∃ lb,e=.returned (.slice (some ⟨lb,0,none⟩) u.length u.length)∧WrdR w' (.slice (some ⟨lb,0,none⟩) u.length u.length) (u.map (fst r))∧Below w.heap.size w w':=by
 obtain ⟨n,hnn⟩ : ∃ n,n=u.length:=⟨_,rfl⟩
 have HUN:=Lib.hid hnn
 rw [← hnn] at hn hu ⊢
 have hmk:∀ W:World,(Instr.makeSlice 28 (.int .i64 (n:Int)) (.int .i64 (n:Int))).run Tryz.prog W=.ok (.slice (some ⟨W.heap.size,0,none⟩) n n) (W.alloc (.cells (madeCells #[.int .u8 0] n) 5)):=fun W=>run_make_row' (P:=Tryz.prog) 28 5 (.int .u8 0) 1 Tryz.underlying28 infoU8 rfl .i64 .i64 n (by omega) (by omega) W
 have HF:=Lib.hid (And.intro hal hM)
 obtain ⟨cx,hcx⟩ : ∃ cx,cx=ltA (.slice (some ⟨g,0,none⟩) M M) (nm r):=⟨_,rfl⟩
 have HX0:=Lib.hid (show LtrB (w.alloc (.cells cx 59)) w.heap.size (.slice (some ⟨g,0,none⟩) M M) (nm r) from by rw [hcx];exact heap_alloc_new w _)
 have HIN:=Lib.hid (And.intro hrow hu)
 rw [← hcx]
 clear hcx hal hM hrow hu hnn
 go_enter Tryz.func21,Tryz.ntmps21
 go_wp2_with fail
 obtain ⟨w1,hw1⟩ : ∃ w1,w1=w.alloc (.cells cx 59):=⟨_,rfl⟩
 rw [← hw1] at HX0 ⊢
 have hb1:Below w.heap.size w w1:=by rw [hw1];exact (Below.refl _ _).alloc (Nat.le_refl _) _
 have hz1:w.heap.size+1=w1.heap.size:=by rw [hw1];simp
 try rw [hz1]
 obtain ⟨x,hx⟩ : ∃ x,x=w.heap.size:=⟨_,rfl⟩
 rw [← hx] at HX0 ⊢
 obtain ⟨lb,hlb⟩ : ∃ lb,lb=w1.heap.size:=⟨_,rfl⟩
 obtain ⟨w2,hw2⟩ : ∃ w2,w2=w1.alloc (.cells (madeCells #[.int .u8 0] n) 5):=⟨_,rfl⟩
 have hb2:Below w1.heap.size w1 w2:=by rw [hw2];exact (Below.refl _ _).alloc (Nat.le_refl _) _
 have e2:w2.heap[lb]? = some (.cells (pB .u8 n (fun j=>if j<0 then fst r (u.getD j 0) else 0)) 5 (0,0)):=by
  rw [hw2,hlb,← pB_zero]
  exact heap_alloc_new w1 _
 rw [← hw2,← hlb]
 have HB2:=Lib.hid (And.intro (bhop hb1 hb2) (And.intro (HX0.out.below hb2) (And.intro (show x≠lb by have:=HX0.out.lt;omega) (And.intro (show g<w.heap.size by obtain ⟨b,o,e,h,_⟩:=HIN.out.1 (by rw [HF.out.2];exact news_pos HF.out.1);simp only [Option.some.injEq,Addr.mk.injEq,and_true] at e;rw [e.1];exact h) (show w.heap.size≤lb by rw [hlb];exact hb1.size)))))
 have E2:=Lib.hid e2
 clear hw1 hb1 hz1 hx hlb hw2 hb2 e2 hmk
 go_loopw [13] (fun v wr=>∃ i:Nat,v=.int .i64 (i:Nat)∧i≤n∧wr.heap[lb]? = some (.cells (pB .u8 n (fun j=>if j<i then fst r (u.getD j 0) else 0)) 5 (0,0))∧Chg (fun k=>k=lb) w2 wr) (fun v _=>match v with | .int _ i=>n - i.toNat | _=>0)
 case atStart=>exact ⟨0,rfl,by omega,E2.out,Chg.refl _ _⟩
 case round =>
  obtain ⟨i,rfl,hi1,hce,hc⟩:=hrel
  have hbw:Below w.heap.size w wr:=HB2.out.1.trans (hc.below HB2.out.1.size fun k hk e=>by have:=HB2.out.2.2.2.2;omega)
  by_cases him:i<n
  ·have s1:(0:Int)≤(i:Int):=by omega
   have s2:(i:Int)<(n:Int):=by omega
   have s3:((i:Int)).toNat=i:=by omega
   have hw1:IntKind.i64.wrap ((i:Int)+1)=((i+1:Nat):Int):=by rw [IntKind.wrap_i64];omega
   obtain ⟨A',c',ev,hcells⟩:=HIN.out.2.below hbw
   obtain ⟨b,hub⟩ : ∃ b,u[i]? = some b:=⟨_,List.getElem?_eq_getElem (by rw [← HUN.out];exact him)⟩
   obtain ⟨hb256,ga,oa,eA,hga,hcell⟩:=hcells i b hub
   rw [eA] at ev
   simp only [Value.slice.injEq] at ev
   obtain ⟨rfl,_,_⟩:=ev
   clear hcells eA
   have hcw:Chg (fun k=>k=lb) w2 wr:=hc
   have HJ:=Lib.hid (And.intro hce (And.intro hcw (And.intro hub (show i+1≤n from him))))
   have HRR:=Lib.hid (fun (W:World) (h:Below wr.heap.size wr W)=>show LtrB W x (.slice (some ⟨g,0,none⟩) M M) (nm r)∧ClassRow W (some ⟨g,0,none⟩) M (partOf r)∧W.heap[lb]? = some (.cells (pB .u8 n (fun j=>if j<i then fst r (u.getD j 0) else 0)) 5 (0,0)) from
    ⟨((hcw.block x HB2.out.2.1.lt HB2.out.2.2.1).trans HB2.out.2.1 |> fun h0=>(h.block x (Array.getElem?_eq_some_iff.1 h0).1).trans h0),(HIN.out.1.below (bhop hbw h)),(h.block lb (Array.getElem?_eq_some_iff.1 hce).1).trans hce⟩)
   have HC:=Lib.hid (fun (W:World) (h:Below wr.heap.size wr W)=>show Calls Tryz.prog 38 #[.slice (some ⟨g,0,none⟩) M M,.int .i64 ((nm r b:Nat):Int)] W (fun e w2=>e=.returned (.tuple #[.int .u8 ((fst r b:Nat):Int),.bool true])∧Below W.heap.size W w2) from by
    have:=leastS_any W g 0 M M (partOf r) (HRR.out W h).2.1 (fun t=>Cl_partOf r t) (nm r b) (by rw [HF.out.2];exact nm_lt HF.out.1 hb256)
    rw [lst_part HF.out.1 hb256] at this
    exact this)
   have t1:(0:Int)≤(b:Int):=by omega
   have t2:(b:Int)<256:=by omega
   have t3:((b:Int)).toNat=b:=by omega
   have HHB:=Lib.hid hb256
   clear hce hc hcw hbw hub hi1 him hb256
   go_upto_region 5 with fail
   clear hcell
   refine regLp5 x lb i (nm r b) b (fst r b) n n (.slice (some ⟨g,0,none⟩) M M) true _ _ _ _ _ _ _ _ _ _ _ _ _ _ _ _ _ _ _ _ _ _ _ _ _ _ _ _ _ _ wr (fun W h=>(HRR.out W h).1.sv) (fun W h=>(HRR.out W h).1.of HHB.out) (fun W h=>HC.out W h) s1 s2 s3 t1 t2 t3 (fun W h=>⟨_,((row_cells (HRR.out W h).2.2).1 i).trans (pB_get .u8 _ (by have:=HJ.out.2.2.2;omega))⟩) (fun W h=>(row_cells (HRR.out W h).2.2).2 i) _ ?_
   intros
   rename_i w20 hb20
   have HN:=Lib.hid (show (w20.setCell ⟨lb,i,none⟩ (.int .u8 ((fst r b:Nat):Int))).heap[lb]? = some (.cells (pB .u8 n (fun j=>if j<i+1 then fst r (u.getD j 0) else 0)) 5 (0,0))∧Chg (fun k=>k=lb) w2 (w20.setCell ⟨lb,i,none⟩ (.int .u8 ((fst r b:Nat):Int))) from ⟨by
    rw [heap_setCell_same w20 _ _ _ _ _ (HRR.out w20 hb20).2.2,← pB_set .u8 (fun j=>fst r (u.getD j 0)) i]
    have hg:u.getD i 0=b:=by rw [List.getD_eq_getElem?_getD,HJ.out.2.2.1];rfl
    simp only [hg],((HJ.out.2.1.trans (Chg.of_below (R:=fun q=>q=lb) hb20) fun q _ e=>e).setCell (p:=⟨lb,i,none⟩) (fun _=>rfl) _)⟩)
   clear hb20
   go_wp2_with fail
   go_roundw
   case rel=>exact ⟨i+1,by push_cast;rfl,HJ.out.2.2.2,HN.out.1,HN.out.2⟩
   case measure=>have:=HJ.out.2.2.2;simp;omega
  ·have s2:¬ (i:Int)<(n:Int):=by omega
   obtain rfl:i=n:=by omega
   have HE:=Lib.hid (And.intro hce hbw)
   clear hce hc hbw hi1
   go_wp2_with fail
   go_ret
   exact ⟨lb,rfl,by have h:=HE.out.1;rw [HUN.out] at h ⊢;exact wrd_pB h fun x hx=>Nat.lt_of_le_of_lt (fst_spec HF.out.1 x).1 (by obtain ⟨j,hj⟩:=List.mem_iff_getElem?.1 hx;obtain ⟨A',c',ev,hcells⟩:=HIN.out.2;exact (hcells j x hj).1),HE.out.2⟩
set_option maxHeartbeats 8000000 in
set_option maxRecDepth 100000 in
theorem spell_any (w:World) (A:Option Addr) (c:Nat) (u:List Nat) (r:Nat→Nat→Bool) (g M:Nat) (hal:Alike r) (hM:M=news r 256) (hrow:ClassRow w (some ⟨g,0,none⟩) M (partOf r)) (hu:WrdR w (.slice A u.length c) u) (hn:u.length≤1000000) :
  Calls Tryz.prog 34 #[.agg (ltA (.slice (some ⟨g,0,none⟩) M M) (nm r)),.slice A u.length c] w fun e w'=>∃ lb,e=.returned (.slice (some ⟨lb,0,none⟩) u.length u.length)∧w'.heap[lb]? = some (.cells (pB .i64 u.length (fun j=>if j<u.length then nm r (u.getD j 0) else 0)) 3 (0,0))∧Below w.heap.size w w':=by
 obtain ⟨n,hnn⟩ : ∃ n,n=u.length:=⟨_,rfl⟩
 have HUN:=Lib.hid hnn
 rw [← hnn] at hn hu ⊢
 have hmk:∀ W:World,(Instr.makeSlice 35 (.int .i64 (n:Int)) (.int .i64 (n:Int))).run Tryz.prog W=.ok (.slice (some ⟨W.heap.size,0,none⟩) n n) (W.alloc (.cells (madeCells #[.int .i64 0] n) 3)):=fun W=>run_make_row' (P:=Tryz.prog) 35 3 (.int .i64 0) 8 Tryz.underlying35 infoInt rfl .i64 .i64 n (by omega) (by omega) W
 have HF:=Lib.hid (And.intro hal hM)
 obtain ⟨cx,hcx⟩ : ∃ cx,cx=ltA (.slice (some ⟨g,0,none⟩) M M) (nm r):=⟨_,rfl⟩
 have HX0:=Lib.hid (show LtrB (w.alloc (.cells cx 59)) w.heap.size (.slice (some ⟨g,0,none⟩) M M) (nm r) from by rw [hcx];exact heap_alloc_new w _)
 have HIN:=Lib.hid (And.intro hrow hu)
 rw [← hcx]
 clear hcx hal hM hrow hu hnn
 go_enter Tryz.func34,Tryz.ntmps34
 go_wp2_with fail
 obtain ⟨w1,hw1⟩ : ∃ w1,w1=w.alloc (.cells cx 59):=⟨_,rfl⟩
 rw [← hw1] at HX0 ⊢
 have hb1:Below w.heap.size w w1:=by rw [hw1];exact (Below.refl _ _).alloc (Nat.le_refl _) _
 have hz1:w.heap.size+1=w1.heap.size:=by rw [hw1];simp
 try rw [hz1]
 obtain ⟨x,hx⟩ : ∃ x,x=w.heap.size:=⟨_,rfl⟩
 rw [← hx] at HX0 ⊢
 obtain ⟨lb,hlb⟩ : ∃ lb,lb=w1.heap.size:=⟨_,rfl⟩
 obtain ⟨w2,hw2⟩ : ∃ w2,w2=w1.alloc (.cells (madeCells #[.int .i64 0] n) 3):=⟨_,rfl⟩
 have hb2:Below w1.heap.size w1 w2:=by rw [hw2];exact (Below.refl _ _).alloc (Nat.le_refl _) _
 have e2:w2.heap[lb]? = some (.cells (pB .i64 n (fun j=>if j<0 then nm r (u.getD j 0) else 0)) 3 (0,0)):=by
  rw [hw2,hlb,← pB_zero]
  exact heap_alloc_new w1 _
 rw [← hw2,← hlb]
 have HB2:=Lib.hid (And.intro (bhop hb1 hb2) (And.intro (HX0.out.below hb2) (And.intro (show x≠lb by have:=HX0.out.lt;omega) (And.intro (show g<w.heap.size by obtain ⟨b,o,e,h,_⟩:=HIN.out.1 (by rw [HF.out.2];exact news_pos HF.out.1);simp only [Option.some.injEq,Addr.mk.injEq,and_true] at e;rw [e.1];exact h) (show w.heap.size≤lb by rw [hlb];exact hb1.size)))))
 have E2:=Lib.hid e2
 clear hw1 hb1 hz1 hx hlb hw2 hb2 e2 hmk
 go_loopw [13] (fun v wr=>∃ i:Nat,v=.int .i64 (i:Nat)∧i≤n∧wr.heap[lb]? = some (.cells (pB .i64 n (fun j=>if j<i then nm r (u.getD j 0) else 0)) 3 (0,0))∧Chg (fun k=>k=lb) w2 wr) (fun v _=>match v with | .int _ i=>n - i.toNat | _=>0)
 case atStart=>exact ⟨0,rfl,by omega,E2.out,Chg.refl _ _⟩
 case round =>
  obtain ⟨i,rfl,hi1,hce,hc⟩:=hrel
  have hbw:Below w.heap.size w wr:=HB2.out.1.trans (hc.below HB2.out.1.size fun k hk e=>by have:=HB2.out.2.2.2.2;omega)
  by_cases him:i<n
  ·have s1:(0:Int)≤(i:Int):=by omega
   have s2:(i:Int)<(n:Int):=by omega
   have s3:((i:Int)).toNat=i:=by omega
   have hw1:IntKind.i64.wrap ((i:Int)+1)=((i+1:Nat):Int):=by rw [IntKind.wrap_i64];omega
   obtain ⟨A',c',ev,hcells⟩:=HIN.out.2.below hbw
   obtain ⟨b,hub⟩ : ∃ b,u[i]? = some b:=⟨_,List.getElem?_eq_getElem (by rw [← HUN.out];exact him)⟩
   obtain ⟨hb256,ga,oa,eA,hga,hcell⟩:=hcells i b hub
   rw [eA] at ev
   simp only [Value.slice.injEq] at ev
   obtain ⟨rfl,_,_⟩:=ev
   clear hcells eA
   have hcw:Chg (fun k=>k=lb) w2 wr:=hc
   have HJ:=Lib.hid (And.intro hce (And.intro hcw (And.intro hub (show i+1≤n from him))))
   have HRR:=Lib.hid (fun (W:World) (h:Below wr.heap.size wr W)=>show LtrB W x (.slice (some ⟨g,0,none⟩) M M) (nm r)∧ClassRow W (some ⟨g,0,none⟩) M (partOf r)∧W.heap[lb]? = some (.cells (pB .i64 n (fun j=>if j<i then nm r (u.getD j 0) else 0)) 3 (0,0)) from
    ⟨((hcw.block x HB2.out.2.1.lt HB2.out.2.2.1).trans HB2.out.2.1 |> fun h0=>(h.block x (Array.getElem?_eq_some_iff.1 h0).1).trans h0),(HIN.out.1.below (bhop hbw h)),(h.block lb (Array.getElem?_eq_some_iff.1 hce).1).trans hce⟩)
   have t1:(0:Int)≤(b:Int):=by omega
   have t2:(b:Int)<256:=by omega
   have t3:((b:Int)).toNat=b:=by omega
   have HHB:=Lib.hid hb256
   clear hce hc hcw hbw hub hi1 him hb256
   have f0:=(HRR.out wr (Below.refl _ _)).1.of HHB.out
   have f1:=((row_cells (HRR.out wr (Below.refl _ _)).2.2).1 i).trans (pB_get .i64 _ (show i<n by have:=HJ.out.2.2.2;omega))
   have f2:=(row_cells (HRR.out wr (Below.refl _ _)).2.2).2 i
   have HN:=Lib.hid (show (wr.setCell ⟨lb,i,none⟩ (.int .i64 ((nm r b:Nat):Int))).heap[lb]? = some (.cells (pB .i64 n (fun j=>if j<i+1 then nm r (u.getD j 0) else 0)) 3 (0,0))∧Chg (fun k=>k=lb) w2 (wr.setCell ⟨lb,i,none⟩ (.int .i64 ((nm r b:Nat):Int))) from ⟨by
    rw [heap_setCell_same wr _ _ _ _ _ (HRR.out wr (Below.refl _ _)).2.2,← pB_set .i64 (fun j=>nm r (u.getD j 0)) i]
    have hg:u.getD i 0=b:=by rw [List.getD_eq_getElem?_getD,HJ.out.2.2.1];rfl
    simp only [hg],(HJ.out.2.1.setCell (p:=⟨lb,i,none⟩) (fun _=>rfl) _)⟩)
   go_wp2_with fail
   go_roundw
   case rel=>exact ⟨i+1,by push_cast;rfl,HJ.out.2.2.2,HN.out.1,HN.out.2⟩
   case measure=>have:=HJ.out.2.2.2;simp;omega
  ·have s2:¬ (i:Int)<(n:Int):=by omega
   obtain rfl:i=n:=by omega
   have HE:=Lib.hid (And.intro hce hbw)
   clear hce hc hbw hi1
   go_wp2_with fail
   go_ret
   exact ⟨lb,rfl,HE.out.1,HE.out.2⟩
theorem wpList_load_rowG {P:Program} {ops:Array Oper} {rest:List Oper} {o:Oper} {a:Act} {w:World} {Q:Exit→Act→World→Prop} (hgd:Region.wanted o (yielded ops a.tmps)=true) (ty:TypeId) (x:Operand) (ho:o.op=.load ty x)
  (g:Nat) (hx:a.eval x=.pointer (some ⟨g,0,none⟩)) (t:TypeId) (cs:Array Value) (fr:Nat×Nat) (d:TypeDesc) (hg:w.heap[g]? = some (.cells cs t fr))
  (hu:P.underlying ty=some d) (hd:(match d with | .struct _ | .array _ _=>true | _=>false)=true) (hi:(P.info? ty).map (·.size)=some cs.size)
  (h:wpList P ops Q rest (a.put o.dst (.agg cs)) w):wpList P ops Q (o :: rest) a w :=
 wpList_step fun K hK=>by rw [if_pos hgd];exact wp_load_row ty x ho g hx t cs fr d hg hu hd hi (hK _ _ h)
set_option maxHeartbeats 8000000 in
set_option maxRecDepth 100000 in
theorem awake13_any (w:World):Calls Tryz.prog 19 #[] w fun e w'=>e=.returned (.bool true)∧Below w.heap.size w w':=by
 have HM:=Lib.hid (fun (W:World)=>make_any W none [] 0 (fun i x h=>by simp at h) (by simp))
 have hal:=alike_AlR (setsL [])
 have hne:news (AlR (setsL [])) 256=1:=by decide
 obtain ⟨r,hr⟩ : ∃ r,r=AlR (setsL []):=⟨_,rfl⟩
 rw [← hr] at HM hal hne
 have HS:=Lib.hid (fun (W:World) (b:Nat) (g:Nat) (hrow:ClassRow W (some ⟨g,0,none⟩) 1 (partOf r)) (hu:WrdR W (.slice (some ⟨b,0,none⟩) 1 1) [3])=>spell_any W (some ⟨b,0,none⟩) 1 [3] r g 1 hal hne.symm hrow hu (by simp))
 have HNE:=Lib.hid hne
 clear hal hr hne
 have hzero:=(zero_of_info infoLt).1
 obtain ⟨c0,hc0⟩ : ∃ c0,c0=ltA (.slice none 0 0) zeros:=⟨_,rfl⟩
 rw [← hc0] at hzero
 have hs0:c0.size=257:=by rw [hc0];exact ltA_size _ _
 clear hc0
 go_enter Tryz.func19,Tryz.ntmps19
 go_upto_region 1 with fail
 go_wp2_with fail
 go_at_call 20
 refine (HM.out w).mono ?_
 rintro e w1 ⟨g,rfl,hrow,hb1⟩
 rw [HNE.out] at hrow ⊢
 obtain ⟨cx,hcx⟩ : ∃ cx,cx=ltA (.slice (some ⟨g,0,none⟩) 1 1) (nm r):=⟨_,rfl⟩
 have hs2:cx.size=257:=by rw [hcx];exact ltA_size _ _
 have ho2:cx.all (·.oneCell')=true:=by rw [hcx];exact ltA_one rfl _
 have hx:LtrB (w1.alloc (.cells cx 59)) w1.heap.size (.slice (some ⟨g,0,none⟩) 1 1) (nm r):=by rw [hcx];exact heap_alloc_new w1 _
 have HCX:=Lib.hid hcx
 rw [← hcx]
 clear hcx
 obtain ⟨w2,hw2⟩ : ∃ w2,w2=w1.alloc (.cells cx 59):=⟨_,rfl⟩
 have hb2:Below w1.heap.size w1 w2:=by rw [hw2];exact (Below.refl _ _).alloc (Nat.le_refl _) _
 rw [← hw2] at hx
 have HWE:=Lib.hid hw2
 have H2:=Lib.hid (And.intro (bhop hb1 hb2) (And.intro hx (hrow.below hb2)))
 clear hw2 hb2 hx hrow hb1
 go_upto_region 2 with (refine wpList_store_row (by rfl) 59 (.tmp 1) (.tmp 2) (by rfl) w1.heap.size cx (by rfl) (by rfl) 59 c0 (heap_alloc_new w1 _) (by rw [hs2];exact sizeLt) (by rw [hs0,hs2]) ho2 ?_;rw [World.setRow_alloc_new])
 rw [← HWE.out]
 clear HWE ho2 hs0 hzero
 have sv2:=H2.out.2.1.sv
 have hx2:=H2.out.2.1
 unfold LtrB at hx2
 rw [← HCX.out] at hx2
 obtain ⟨w3,hw3,hb3,hk3⟩ : ∃ w3,w2.alloc (.cells #[.int .u8 3] 5)=w3∧Below w2.heap.size w2 w3∧w3.heap[w2.heap.size]? = some (.cells #[.int .u8 3] 5 (0,0)):=⟨_,rfl,(Below.refl _ w2).alloc (Nat.le_refl _) _,heap_alloc_new w2 _⟩
 have HS3:=Lib.hid (HS.out w3 w2.heap.size g (H2.out.2.2.below hb3) ⟨_,_,rfl,fun i x hx=>by
  cases i with
  | zero =>
   obtain rfl:3=x:=by simpa using hx
   exact ⟨by decide,_,_,rfl,(Array.getElem?_eq_some_iff.1 hk3).1,by rw [(row_cells hk3).1];rfl⟩
  | succ i=>simp at hx⟩)
 rw [← HCX.out] at HS3
 have HB3:=Lib.hid (bhop H2.out.1 hb3)
 clear hb3 hk3 HCX
 go_wp2_with (refine wpList_load_rowG (by rfl) 59 (.tmp 1) (by rfl) w1.heap.size (by rfl) 59 cx (0,0) _ hx2 Tryz.underlying59 rfl (by rw [hs2];exact sizeLt) ?_)
 go_at_call 34
 try rw [hw3]
 refine Calls.mono HS3.out ?_
 rintro e w4 ⟨lb,rfl,_,hb4⟩
 have HB4:=Lib.hid (bhop HB3.out hb4)
 clear hb4 hw3 hx2 sv2
 go_wp2_with fail
 go_ret
 exact ⟨rfl,HB4.out⟩
end Go.Proofs.YtnmjicfpmkoldaaGreatDoor.Lc
namespace Go.Proofs.YtnmjicfpmkoldaaGreatDoor.Lc
open Go.RowKit
abbrev opsregLa8:Array Oper:=#[⟨some 42,.load 39 (.tmp 7),39,"law.go:86",#[],none⟩,
 ⟨some 43,.move (.tmp 2),28,"law.go:86",#[],none⟩,
 ⟨some 44,.call ⟨.value (.func 12),#[.tmp 42,.tmp 43],#[39,28]⟩,4,"law.go:86",#[⟨0,.data⟩,⟨1,.data⟩],none⟩,
 ⟨some 45,.load 39 (.tmp 7),39,"law.go:86",#[],none⟩,
 ⟨some 46,.move (.tmp 11),28,"law.go:86",#[],none⟩,
 ⟨some 47,.call ⟨.value (.func 12),#[.tmp 45,.tmp 46],#[39,28]⟩,4,"law.go:86",#[⟨3,.data⟩,⟨4,.data⟩,⟨2,.chain⟩],none⟩,
 ⟨some 48,.binOp .eql 4 (.tmp 44) (.tmp 47) 4,4,"law.go:86",#[⟨2,.data⟩,⟨5,.data⟩],none⟩,
 ⟨some 49,.move (.tmp 48),4,"law.go:86",#[⟨6,.data⟩,⟨5,.chain⟩],none⟩,
 ⟨some 50,.load 39 (.tmp 9),39,"law.go:86",#[⟨7,.guard⟩],some (7,true)⟩,
 ⟨some 51,.move (.tmp 2),28,"law.go:86",#[⟨7,.guard⟩],some (7,true)⟩,
 ⟨some 52,.call ⟨.value (.func 12),#[.tmp 50,.tmp 51],#[39,28]⟩,4,"law.go:86",#[⟨8,.data⟩,⟨9,.data⟩,⟨7,.chain⟩,⟨7,.guard⟩],some (7,true)⟩,
 ⟨some 53,.load 39 (.tmp 9),39,"law.go:86",#[⟨7,.guard⟩],some (7,true)⟩,
 ⟨some 54,.move (.tmp 11),28,"law.go:86",#[⟨7,.guard⟩],some (7,true)⟩,
 ⟨some 55,.call ⟨.value (.func 12),#[.tmp 53,.tmp 54],#[39,28]⟩,4,"law.go:86",#[⟨11,.data⟩,⟨12,.data⟩,⟨10,.chain⟩,⟨7,.guard⟩],some (7,true)⟩,
 ⟨some 56,.binOp .eql 4 (.tmp 52) (.tmp 55) 4,4,"law.go:86",#[⟨10,.data⟩,⟨13,.data⟩,⟨7,.guard⟩],some (7,true)⟩,
 ⟨some 57,.pick (.tmp 49) (.tmp 56) (.const (Value.bool false)),4,"law.go:86",#[⟨7,.data⟩,⟨14,.data⟩],none⟩,
 ⟨some 6,.assign (.tmp 57),4,"law.go:86",#[⟨15,.data⟩,⟨13,.chain⟩,⟨0,.phase⟩,⟨1,.phase⟩,⟨2,.phase⟩,⟨3,.phase⟩,⟨4,.phase⟩,⟨5,.phase⟩,⟨6,.phase⟩,⟨7,.phase⟩,⟨8,.phase⟩,⟨9,.phase⟩,⟨10,.phase⟩,⟨11,.phase⟩,⟨12,.phase⟩,⟨13,.phase⟩,⟨14,.phase⟩,⟨15,.phase⟩],none⟩]
def WregLa8 (ca cb:Array Value) (ab bb:Nat) (wv pv:Value) (m1 m2:Bool) (D:List Deferred) (v0 v1 v3 v4 v5 v8 v10 v12 v13 v14 v15 v16 v17 v18 v19 v20 v21 v22 v23 v24 v25 v26 v27 v28 v29 v30 v31 v32 v33 v34 v35 v36 v37 v38 v39 v40 v41:Value) (w0:World) (l:Nat→Bool) (a:Act) (w:World):Prop :=
 ∃ (y0 y1 y2 y3 y4 y5 y6 y7 y8 y9 y10 y11 y12 y13 y14 y15 y16:Value),a = { tmps:=#[v0,v1,wv,v3,v4,v5,y16,.pointer (some ⟨ab,0,none⟩),v8,.pointer (some ⟨bb,0,none⟩),v10,pv,v12,v13,v14,v15,v16,v17,v18,v19,v20,v21,v22,v23,v24,v25,v26,v27,v28,v29,v30,v31,v32,v33,v34,v35,v36,v37,v38,v39,v40,v41,y0,y1,y2,y3,y4,y5,y6,y7,y8,y9,y10,y11,y12,y13,y14,y15],defers:=D }∧Below w0.heap.size w0 w ∧
  (l 0=true→y0=.agg ca)∧(l 1=true→y1=wv)∧(l 2=true→y2=.bool m1)∧(l 3=true→y3=.agg ca)∧(l 4=true→y4=pv)∧(l 5=true→y5=.bool m1)∧(l 6=true→y6=.bool true)∧(l 7=true→y7=.bool true)∧(l 8=true→y8=.agg cb)∧(l 9=true→y9=wv)∧(l 10=true→y10=.bool m2)∧(l 11=true→y11=.agg cb)∧(l 12=true→y12=pv)∧(l 13=true→y13=.bool m2)∧(l 14=true→y14=.bool true)∧(l 15=true→y15=.bool true)∧(l 16=true→y16=.bool true)
set_option maxHeartbeats 8000000 in
set_option maxRecDepth 100000 in
theorem regLa8 (ca cb:Array Value) (ab bb:Nat) (wv pv:Value) (m1 m2:Bool) (D:List Deferred) (v0 v1 v3 v4 v5 v8 v10 v12 v13 v14 v15 v16 v17 v18 v19 v20 v21 v22 v23 v24 v25 v26 v27 v28 v29 v30 v31 v32 v33 v34 v35 v36 v37 v38 v39 v40 v41 wy0 wy1 wy2 wy3 wy4 wy5 wy6 wy7 wy8 wy9 wy10 wy11 wy12 wy13 wy14 wy15 wy16:Value) (w:World) (hA:∀ w',Below w.heap.size w w'→w'.heap[ab]? = some (.cells ca 39 (0,0))) (shA:(Tryz.prog.info? 39).map (·.size)=some ca.size) (hB:∀ w',Below w.heap.size w w'→w'.heap[bb]? = some (.cells cb 39 (0,0))) (shB:(Tryz.prog.info? 39).map (·.size)=some cb.size) (hc1:(∀ w',Below w.heap.size w w'→Calls Tryz.prog 12 #[.agg ca,wv] w' fun e w2=>e=.returned (.bool m1)∧Below w'.heap.size w' w2)) (hc2:(∀ w',Below w.heap.size w w'→Calls Tryz.prog 12 #[.agg ca,pv] w' fun e w2=>e=.returned (.bool m1)∧Below w'.heap.size w' w2)) (hc3:(∀ w',Below w.heap.size w w'→Calls Tryz.prog 12 #[.agg cb,wv] w' fun e w2=>e=.returned (.bool m2)∧Below w'.heap.size w' w2)) (hc4:(∀ w',Below w.heap.size w w'→Calls Tryz.prog 12 #[.agg cb,pv] w' fun e w2=>e=.returned (.bool m2)∧Below w'.heap.size w' w2)) (Q:Exit→Act→World→Prop)
  (hQ:∀ (y0 y1 y2 y3 y4 y5 y6 y7 y8 y9 y10 y11 y12 y13 y14 y15:Value) (w':World),Below w.heap.size w w'→Q .normal { tmps:=#[v0,v1,wv,v3,v4,v5,.bool true,.pointer (some ⟨ab,0,none⟩),v8,.pointer (some ⟨bb,0,none⟩),v10,pv,v12,v13,v14,v15,v16,v17,v18,v19,v20,v21,v22,v23,v24,v25,v26,v27,v28,v29,v30,v31,v32,v33,v34,v35,v36,v37,v38,v39,v40,v41,y0,y1,y2,y3,y4,y5,y6,y7,y8,y9,y10,y11,y12,y13,y14,y15],defers:=D } w') :
  (Code.region 8 opsregLa8 true).wp Tryz.prog Q { tmps:=#[v0,v1,wv,v3,v4,v5,wy16,.pointer (some ⟨ab,0,none⟩),v8,.pointer (some ⟨bb,0,none⟩),v10,pv,v12,v13,v14,v15,v16,v17,v18,v19,v20,v21,v22,v23,v24,v25,v26,v27,v28,v29,v30,v31,v32,v33,v34,v35,v36,v37,v38,v39,v40,v41,wy0,wy1,wy2,wy3,wy4,wy5,wy6,wy7,wy8,wy9,wy10,wy11,wy12,wy13,wy14,wy15],defers:=D } w:=by
 refine wp_region_inv (by kernel_rfl) (WregLa8 ca cb ab bb wv pv m1 m2 D v0 v1 v3 v4 v5 v8 v10 v12 v13 v14 v15 v16 v17 v18 v19 v20 v21 v22 v23 v24 v25 v26 v27 v28 v29 v30 v31 v32 v33 v34 v35 v36 v37 v38 v39 v40 v41 w) ?hacy ?h0 ?hstep ?hdone
 case hacy=>kernel_rfl
 case h0=>exact ⟨wy0,wy1,wy2,wy3,wy4,wy5,wy6,wy7,wy8,wy9,wy10,wy11,wy12,wy13,wy14,wy15,wy16,rfl,below_drewN (Below.refl _ _) 1,(fun p=>by cases p),(fun p=>by cases p),(fun p=>by cases p),(fun p=>by cases p),(fun p=>by cases p),(fun p=>by cases p),(fun p=>by cases p),(fun p=>by cases p),(fun p=>by cases p),(fun p=>by cases p),(fun p=>by cases p),(fun p=>by cases p),(fun p=>by cases p),(fun p=>by cases p),(fun p=>by cases p),(fun p=>by cases p),(fun p=>by cases p)⟩
 case hdone =>
  intro l a w1 hI hall
  obtain ⟨y0,y1,y2,y3,y4,y5,y6,y7,y8,y9,y10,y11,y12,y13,y14,y15,y16,rfl,hb,h0,h1,h2,h3,h4,h5,h6,h7,h8,h9,h10,h11,h12,h13,h14,h15,h16⟩:=hI
  obtain rfl:=h16 (hall 16 (by decide))
  exact hQ _ _ _ _ _ _ _ _ _ _ _ _ _ _ _ _ _ hb
 case hstep =>
  intro l a w1 i o hI ho hl hall
  obtain ⟨y0,y1,y2,y3,y4,y5,y6,y7,y8,y9,y10,y11,y12,y13,y14,y15,y16,rfl,hb,h0,h1,h2,h3,h4,h5,h6,h7,h8,h9,h10,h11,h12,h13,h14,h15,h16⟩:=hI
  have hi:i<17:=(Array.getElem?_eq_some_iff.1 ho).1
  match i,hi with
  | 0,_ =>
   have ho':=ho
   simp [opsregLa8] at ho
   subst ho
   refine wpOp_one ho' rfl fun K hK=>?_
   refine wp_load_row 39 (.tmp 7) rfl ab rfl 39 ca (0,0) _ (hA w1 hb) Tryz.underlying39 rfl shA ?_
   exact hK _ _ ⟨_,y1,y2,y3,y4,y5,y6,y7,y8,y9,y10,y11,y12,y13,y14,y15,y16,rfl,hb,fun _=>(by first | rfl | simp),h1,h2,h3,h4,h5,h6,h7,h8,h9,h10,h11,h12,h13,h14,h15,h16⟩
  | 1,_ =>
   have ho':=ho
   simp [opsregLa8] at ho
   subst ho
   refine wpOp_one ho' rfl fun K hK=>?_
   go_simp
   exact hK _ _ ⟨y0,_,y2,y3,y4,y5,y6,y7,y8,y9,y10,y11,y12,y13,y14,y15,y16,rfl,hb,h0,fun _=>(by first | rfl | simp),h2,h3,h4,h5,h6,h7,h8,h9,h10,h11,h12,h13,h14,h15,h16⟩
  | 2,_ =>
   have ho':=ho
   simp [opsregLa8] at ho
   subst ho
   obtain rfl:=h0 (hall ⟨0,.data⟩ (by simp) rfl)
   obtain rfl:=h1 (hall ⟨1,.data⟩ (by simp) rfl)
   refine wpOp_one ho' rfl fun K hK=>?_
   go_simp
   go_at_call 12
   refine (hc1 _ hb).mono ?_
   rintro e w2 ⟨rfl,hb2⟩
   exact hK _ _ ⟨_,_,_,y3,y4,y5,y6,y7,y8,y9,y10,y11,y12,y13,y14,y15,y16,rfl,(hb.trans (hb2.mono hb.size)),fun _=>rfl,fun _=>rfl,fun _=>(by first | rfl | simp),h3,h4,h5,h6,h7,h8,h9,h10,h11,h12,h13,h14,h15,h16⟩
  | 3,_ =>
   have ho':=ho
   simp [opsregLa8] at ho
   subst ho
   refine wpOp_one ho' rfl fun K hK=>?_
   refine wp_load_row 39 (.tmp 7) rfl ab rfl 39 ca (0,0) _ (hA w1 hb) Tryz.underlying39 rfl shA ?_
   exact hK _ _ ⟨y0,y1,y2,_,y4,y5,y6,y7,y8,y9,y10,y11,y12,y13,y14,y15,y16,rfl,hb,h0,h1,h2,fun _=>(by first | rfl | simp),h4,h5,h6,h7,h8,h9,h10,h11,h12,h13,h14,h15,h16⟩
  | 4,_ =>
   have ho':=ho
   simp [opsregLa8] at ho
   subst ho
   refine wpOp_one ho' rfl fun K hK=>?_
   go_simp
   exact hK _ _ ⟨y0,y1,y2,y3,_,y5,y6,y7,y8,y9,y10,y11,y12,y13,y14,y15,y16,rfl,hb,h0,h1,h2,h3,fun _=>(by first | rfl | simp),h5,h6,h7,h8,h9,h10,h11,h12,h13,h14,h15,h16⟩
  | 5,_ =>
   have ho':=ho
   simp [opsregLa8] at ho
   subst ho
   obtain rfl:=h3 (hall ⟨3,.data⟩ (by simp) rfl)
   obtain rfl:=h4 (hall ⟨4,.data⟩ (by simp) rfl)
   refine wpOp_one ho' rfl fun K hK=>?_
   go_simp
   go_at_call 12
   refine (hc2 _ hb).mono ?_
   rintro e w2 ⟨rfl,hb2⟩
   exact hK _ _ ⟨y0,y1,y2,_,_,_,y6,y7,y8,y9,y10,y11,y12,y13,y14,y15,y16,rfl,(hb.trans (hb2.mono hb.size)),h0,h1,h2,fun _=>rfl,fun _=>rfl,fun _=>(by first | rfl | simp),h6,h7,h8,h9,h10,h11,h12,h13,h14,h15,h16⟩
  | 6,_ =>
   have ho':=ho
   simp [opsregLa8] at ho
   subst ho
   obtain rfl:=h2 (hall ⟨2,.data⟩ (by simp) rfl)
   obtain rfl:=h5 (hall ⟨5,.data⟩ (by simp) rfl)
   refine wpOp_one ho' rfl fun K hK=>?_
   go_simp
   exact hK _ _ ⟨y0,y1,_,y3,y4,_,_,y7,y8,y9,y10,y11,y12,y13,y14,y15,y16,rfl,hb,h0,h1,fun _=>rfl,h3,h4,fun _=>rfl,fun _=>(by first | rfl | (cases m1 <;> rfl)),h7,h8,h9,h10,h11,h12,h13,h14,h15,h16⟩
  | 7,_ =>
   have ho':=ho
   simp [opsregLa8] at ho
   subst ho
   obtain rfl:=h6 (hall ⟨6,.data⟩ (by simp) rfl)
   refine wpOp_one ho' rfl fun K hK=>?_
   go_simp
   exact hK _ _ ⟨y0,y1,y2,y3,y4,y5,_,_,y8,y9,y10,y11,y12,y13,y14,y15,y16,rfl,hb,h0,h1,h2,h3,h4,h5,fun _=>rfl,fun _=>(by first | rfl | simp),h8,h9,h10,h11,h12,h13,h14,h15,h16⟩
  | 8,_ =>
   have ho':=ho
   simp [opsregLa8] at ho
   subst ho
   obtain rfl:=h7 (hall ⟨7,.guard⟩ (by simp) rfl)
   refine wpOp_on ho' rfl fun K hK=>?_
   refine wp_load_row 39 (.tmp 9) rfl bb rfl 39 cb (0,0) _ (hB w1 hb) Tryz.underlying39 rfl shB ?_
   exact hK _ _ ⟨y0,y1,y2,y3,y4,y5,y6,_,_,y9,y10,y11,y12,y13,y14,y15,y16,rfl,hb,h0,h1,h2,h3,h4,h5,h6,fun _=>rfl,fun _=>(by first | rfl | simp),h9,h10,h11,h12,h13,h14,h15,h16⟩
  | 9,_ =>
   have ho':=ho
   simp [opsregLa8] at ho
   subst ho
   obtain rfl:=h7 (hall ⟨7,.guard⟩ (by simp) rfl)
   refine wpOp_on ho' rfl fun K hK=>?_
   go_simp
   exact hK _ _ ⟨y0,y1,y2,y3,y4,y5,y6,_,y8,_,y10,y11,y12,y13,y14,y15,y16,rfl,hb,h0,h1,h2,h3,h4,h5,h6,fun _=>rfl,h8,fun _=>(by first | rfl | simp),h10,h11,h12,h13,h14,h15,h16⟩
  | 10,_ =>
   have ho':=ho
   simp [opsregLa8] at ho
   subst ho
   obtain rfl:=h7 (hall ⟨7,.chain⟩ (by simp) rfl)
   obtain rfl:=h8 (hall ⟨8,.data⟩ (by simp) rfl)
   obtain rfl:=h9 (hall ⟨9,.data⟩ (by simp) rfl)
   refine wpOp_on ho' rfl fun K hK=>?_
   go_simp
   go_at_call 12
   refine (hc3 _ hb).mono ?_
   rintro e w2 ⟨rfl,hb2⟩
   exact hK _ _ ⟨y0,y1,y2,y3,y4,y5,y6,_,_,_,_,y11,y12,y13,y14,y15,y16,rfl,(hb.trans (hb2.mono hb.size)),h0,h1,h2,h3,h4,h5,h6,fun _=>rfl,fun _=>rfl,fun _=>rfl,fun _=>(by first | rfl | simp),h11,h12,h13,h14,h15,h16⟩
  | 11,_ =>
   have ho':=ho
   simp [opsregLa8] at ho
   subst ho
   obtain rfl:=h7 (hall ⟨7,.guard⟩ (by simp) rfl)
   refine wpOp_on ho' rfl fun K hK=>?_
   refine wp_load_row 39 (.tmp 9) rfl bb rfl 39 cb (0,0) _ (hB w1 hb) Tryz.underlying39 rfl shB ?_
   exact hK _ _ ⟨y0,y1,y2,y3,y4,y5,y6,_,y8,y9,y10,_,y12,y13,y14,y15,y16,rfl,hb,h0,h1,h2,h3,h4,h5,h6,fun _=>rfl,h8,h9,h10,fun _=>(by first | rfl | simp),h12,h13,h14,h15,h16⟩
  | 12,_ =>
   have ho':=ho
   simp [opsregLa8] at ho
   subst ho
   obtain rfl:=h7 (hall ⟨7,.guard⟩ (by simp) rfl)
   refine wpOp_on ho' rfl fun K hK=>?_
   go_simp
   exact hK _ _ ⟨y0,y1,y2,y3,y4,y5,y6,_,y8,y9,y10,y11,_,y13,y14,y15,y16,rfl,hb,h0,h1,h2,h3,h4,h5,h6,fun _=>rfl,h8,h9,h10,h11,fun _=>(by first | rfl | simp),h13,h14,h15,h16⟩
  | 13,_ =>
   have ho':=ho
   simp [opsregLa8] at ho
   subst ho
   obtain rfl:=h7 (hall ⟨7,.guard⟩ (by simp) rfl)
   obtain rfl:=h11 (hall ⟨11,.data⟩ (by simp) rfl)
   obtain rfl:=h12 (hall ⟨12,.data⟩ (by simp) rfl)
   refine wpOp_on ho' rfl fun K hK=>?_
   go_simp
   go_at_call 12
   refine (hc4 _ hb).mono ?_
   rintro e w2 ⟨rfl,hb2⟩
   exact hK _ _ ⟨y0,y1,y2,y3,y4,y5,y6,_,y8,y9,y10,_,_,_,y14,y15,y16,rfl,(hb.trans (hb2.mono hb.size)),h0,h1,h2,h3,h4,h5,h6,fun _=>rfl,h8,h9,h10,fun _=>rfl,fun _=>rfl,fun _=>(by first | rfl | simp),h14,h15,h16⟩
  | 14,_ =>
   have ho':=ho
   simp [opsregLa8] at ho
   subst ho
   obtain rfl:=h7 (hall ⟨7,.guard⟩ (by simp) rfl)
   obtain rfl:=h10 (hall ⟨10,.data⟩ (by simp) rfl)
   obtain rfl:=h13 (hall ⟨13,.data⟩ (by simp) rfl)
   refine wpOp_on ho' rfl fun K hK=>?_
   go_simp
   exact hK _ _ ⟨y0,y1,y2,y3,y4,y5,y6,_,y8,y9,_,y11,y12,_,_,y15,y16,rfl,hb,h0,h1,h2,h3,h4,h5,h6,fun _=>rfl,h8,h9,fun _=>rfl,h11,h12,fun _=>rfl,fun _=>(by first | rfl | (cases m2 <;> rfl)),h15,h16⟩
  | 15,_ =>
   have ho':=ho
   simp [opsregLa8] at ho
   subst ho
   obtain rfl:=h7 (hall ⟨7,.data⟩ (by simp) rfl)
   obtain rfl:=h14 (hall ⟨14,.data⟩ (by simp) rfl)
   refine wpOp_one ho' rfl fun K hK=>?_
   go_simp
   exact hK _ _ ⟨y0,y1,y2,y3,y4,y5,y6,_,y8,y9,y10,y11,y12,y13,_,_,y16,rfl,hb,h0,h1,h2,h3,h4,h5,h6,fun _=>rfl,h8,h9,h10,h11,h12,h13,fun _=>rfl,fun _=>(by first | rfl | simp),h16⟩
  | 16,_ =>
   have ho':=ho
   simp [opsregLa8] at ho
   subst ho
   obtain rfl:=h15 (hall ⟨15,.data⟩ (by simp) rfl)
   refine wpOp_one ho' rfl fun K hK=>?_
   go_simp
   exact hK _ _ ⟨y0,y1,y2,y3,y4,y5,y6,y7,y8,y9,y10,y11,y12,y13,y14,_,_,rfl,hb,h0,h1,h2,h3,h4,h5,h6,h7,h8,h9,h10,h11,h12,h13,h14,fun _=>rfl,fun _=>(by first | rfl | simp)⟩
  | k+17,hi=>omega
end Go.Proofs.YtnmjicfpmkoldaaGreatDoor.Lc
namespace Go.Proofs.YtnmjicfpmkoldaaGreatDoor.Lc
open Go.RowKit Go.Maps Go.Shelf
attribute [local go_sem] nodeAgg
theorem wpList_build2 {P:Program} {ops:Array Oper} {rest:List Oper} {o:Oper} {a:Act} {w:World} {Q:Exit→Act→World→Prop} (hg:o.guard=none) (t e:TypeId) (p q:Operand) (ho:o.op=.buildSlice t 2 #[(0,p),(1,q)]) (ca cb:Array Value) (hp:a.eval p=.agg ca) (hq:a.eval q=.agg cb) (s:Nat) (z:Value) (hca:ca.size=s) (hcb:cb.size=s)
  (hu:P.underlying t=some (.slice e)) (hi:(P.info? e).map (fun i=>(i.zero,i.size))=some (some z,s)) (hs:0<s) (hs2:2 * s≤2 ^ 24)
  (h:wpList P ops Q rest (a.put o.dst (.slice (some ⟨w.heap.size,0,none⟩) 2 2)) (w.alloc (.cells (ca ++ cb) e))):wpList P ops Q (o :: rest) a w:=by
 cases hie:P.info? e with
 | none=>simp [hie] at hi
 | some ie =>
  simp only [hie,Option.map_some,Option.some.injEq,Prod.mk.injEq] at hi
  obtain ⟨hz,hsz⟩:=hi
  refine wpList_buildSlice hg t e 2 _ ho (ca ++ cb) ie z hu hie hz (by rw [hsz];omega) (by rw [hsz];omega) ?_ h
  have:=Go.Great.fill_whole (s:=s) hs [.agg ca,.agg cb] ((Array.range (2 * s)).map (z.cells[· % z.cells.size]!)) (fun v hv=>by
   rcases List.mem_cons.1 hv with rfl | hv
   ·exact hca
   ·rw [List.mem_singleton.1 hv];exact hcb) (by simp)
  rw [hsz]
  have e1:(#[(0,p),(1,q)].map fun (i,x)=>(i,a.eval x)).toList=(([Value.agg ca,.agg cb].zipIdx 0).map fun x=>(x.2,x.1)):=by simp [hp,hq]
  rw [e1,this]
  congr 1
  simp [Value.cells]
theorem infoTA:(Tryz.prog.info? 39).map (fun i=>(i.zero,i.size))=some (some (.agg #[.int .i64 0,.int .u64 0,.int .u64 0,.int .u64 0,.int .u64 0,.slice none 0 0,.int .i64 0,.int .i64 0,.slice none 0 0,.slice none 0 0,.slice none 0 0,.slice none 0 0,.slice none 0 0,.slice none 0 0,.bool false]),15):=by kernel_rfl
def AuO (u:T) (w:World) (e:Ending) (w':World):Prop:=∃ (ca:Array Value) (ok:Bool),e=.returned (.tuple #[.agg ca,.bool ok])∧ca.size=15∧ca.all (·.oneCell')=true∧(ok=true→∃ (B:Nat) (a:Au) (m:PM) (L:Nat→List Mv),AuG B w' u a m L∧ca=#[.int .i64 a.k,.int .u64 (a.s0:Nat),.int .u64 (a.s1:Nat),.int .u64 (a.s2:Nat),.int .u64 (a.s3:Nat),.slice a.ta a.tn a.tc,.int .i64 a.lo,.int .i64 a.hi,.slice a.sA a.n a.sC,.slice a.cA a.cN a.cC,.slice (some ⟨a.ga,0,none⟩) a.n a.aC,.slice a.fA a.fN a.fC,.slice (some ⟨a.mb,0,none⟩) a.n a.n,.slice (some ⟨a.lb,0,none⟩) a.n a.n,.bool a.em])∧Below w.heap.size w w'
theorem auO_any (t:V) (w:World) (R:Nat→Prop) (ht:Laid w R t) (hT:TabE w) (hTl:tabE<w.heap.size):Calls Tryz.prog 10 #[nodeAgg t] w (AuO (erase t) w) :=
 (auto_any t w R ht hT hTl).mono fun e w' ⟨h,hb⟩=>by
  rcases h with ⟨rfl,_⟩ | ⟨B,a,m,L,hG,rfl⟩
  ·exact ⟨_,_,rfl,rfl,by simp [Value.oneCell'],fun h=>(by cases h),hb⟩
  ·exact ⟨_,_,rfl,rfl,by simp [Value.oneCell'],fun _=>⟨B,a,m,L,hG,rfl⟩,hb⟩
theorem sizeTA:(Tryz.prog.info? 39).map (·.size)=some 15:=by kernel_rfl
set_option maxHeartbeats 8000000 in
set_option maxRecDepth 100000 in
theorem alike13_walk (s t:V) (v1:Value) (u:List Nat) (w:World) (R Q:Nat→Prop) (hs:Laid w R s) (ht:Laid w Q t) (hgs:Good s) (hgt:Good t) (hT:TabE w) (hTl:tabE<w.heap.size) (hu:WrdR w v1 u) :
  Calls Tryz.prog 8 #[nodeAgg s,nodeAgg t,v1] w fun e w'=>e=.returned (.bool true)∧Below w.heap.size w w':=by
 obtain ⟨sa,sc,hva,_⟩:=laid_row' hs
 obtain ⟨ta,tc,hvb,_⟩:=laid_row' ht
 obtain ⟨sn,hsn⟩ : ∃ sn,sn=s.ps.length:=⟨_,rfl⟩
 obtain ⟨tn,htn⟩ : ∃ tn,tn=t.ps.length:=⟨_,rfl⟩
 rw [← hsn] at hva
 rw [← htn] at hvb
 obtain ⟨wA,hwA,hbA,hltA,hbx⟩:=box_new w s (.slice sa sn sc)
 obtain ⟨wB,hwB,hbB,hltB,hby⟩:=box_new wA t (.slice ta tn tc)
 have HTT:=Lib.hid (fun (W:World) (h:Below w.heap.size w W)=>show TabE W∧tabE<W.heap.size from ⟨tab_below hT hTl h,Nat.lt_of_lt_of_le hTl h.size⟩)
 have HAa:=Lib.hid (fun (W:World) (h:Below w.heap.size w W)=>show Calls Tryz.prog 10 #[.agg #[.int .i64 s.kind,.int .u64 (s.set 0:Nat),.int .u64 (s.set 1:Nat),.int .u64 (s.set 2:Nat),.int .u64 (s.set 3:Nat),.slice sa sn sc,.int .i64 s.lo,.int .i64 s.hi]] W (AuO (erase s) W) from by
  have:=auO_any s W R (laid_low hs h) (HTT.out W h).1 (HTT.out W h).2
  rw [nodeAgg_v hva] at this
  exact this)
 have HAb:=Lib.hid (fun (W:World) (h:Below w.heap.size w W)=>show Calls Tryz.prog 10 #[.agg #[.int .i64 t.kind,.int .u64 (t.set 0:Nat),.int .u64 (t.set 1:Nat),.int .u64 (t.set 2:Nat),.int .u64 (t.set 3:Nat),.slice ta tn tc,.int .i64 t.lo,.int .i64 t.hi]] W (AuO (erase t) W) from by
  have:=auO_any t W Q (laid_low ht h) (HTT.out W h).1 (HTT.out W h).2
  rw [nodeAgg_v hvb] at this
  exact this)
 have HW:=Lib.hid (fun (W:World) (h:Below w.heap.size w W)=>hu.below h)
 have HGD:=Lib.hid (And.intro hgs hgt)
 obtain ⟨A1,c1,rfl,hu0⟩:=hu
 obtain ⟨un,hun⟩ : ∃ n,n=u.length:=⟨_,rfl⟩
 have HL:=Lib.hid hun
 rw [← hun] at HW ⊢
 rw [nodeAgg_v hva,nodeAgg_v hvb]
 have HAW:=Lib.hid (fun (W:World) (h:Below w.heap.size w W)=>awake13_any W)
 have HX:=Lib.hid (fun (W:World) (h:Below wB.heap.size wB W)=>And.intro (hbx W (bhop hbB h)) (hby W h))
 have HB0:=Lib.hid (bhop hbA hbB)
 clear hs ht hgs hgt hva hvb hsn htn hT hTl hu0 hun hbx hby hbA hbB hltA hltB
 go_enter Tryz.func8,Tryz.ntmps8
 go_upto_region 1 with fail
 clear hwA hwB
 go_wp2_with fail
 go_at_call 19
 refine (HAW.out _ HB0.out).mono ?_
 rintro e w2 ⟨rfl,hb2⟩
 have HB2:=Lib.hid (bhop HB0.out hb2)
 have HC2:=Lib.hid hb2
 clear hb2
 by_cases h1:30<un
 ·have h1':(30:Int)<(un:Int):=by omega
  go_wp2_with fail
  go_at_call 19
  refine (HAW.out _ HB2.out).mono ?_
  rintro e w3 ⟨rfl,hb3⟩
  have HB3:=Lib.hid (bhop HB2.out hb3)
  clear hb3
  go_wp2_with fail
  go_ret
  exact ⟨rfl,HB3.out⟩
 have h1':¬ (30:Int)<(un:Int):=by omega
 have HU4:=Lib.hid (show u.length≤40 by have:=HL.out;omega)
 obtain ⟨⟨x0,x1,x2,x3,x4,x5,x6,x7⟩,y0,y1,y2,y3,y4,y5,y6,y7⟩:=HX.out w2 HC2.out
 go_wp2_with fail
 go_at_call 10
 refine Calls.mono (HAa.out w2 HB2.out) ?_
 rintro e w3 ⟨ca,oka,rfl,sza,one,hGa,hb3⟩
 obtain ⟨w4,hw4⟩ : ∃ w4,w4=w3.alloc (.cells ca 39):=⟨_,rfl⟩
 have hb4:Below w3.heap.size w3 w4:=by rw [hw4];exact (Below.refl _ _).alloc (Nat.le_refl _) _
 have hh4:w4.heap[w3.heap.size]? = some (.cells ca 39 (0,0)):=by rw [hw4];exact heap_alloc_new w3 _
 have HWE:=Lib.hid hw4
 have HB4:=Lib.hid (And.intro (bhop (HB2.out) (bhop hb3 hb4)) (bhop (HC2.out) (bhop hb3 hb4)))
 have HG4:=Lib.hid (And.intro (show Below w2.heap.size w2 w4 from (bhop hb3 hb4)) (And.intro (Array.getElem?_eq_some_iff.1 hh4).1 (And.intro hh4 (And.intro hb4 (And.intro sza hGa)))))
 clear hw4 hb4 hh4 hb3 hGa x0 x1 x2 x3 x4 x5 x6 x7 y0 y1 y2 y3 y4 y5 y6 y7
 go_upto_region 4 with (refine wpList_store_row (by rfl) 39 (.tmp 7) (.tmp 23) (by rfl) w3.heap.size ca (by rfl) (by rfl) 39 #[.int .i64 0,.int .u64 0,.int .u64 0,.int .u64 0,.int .u64 0,.slice none 0 0,.int .i64 0,.int .i64 0,.slice none 0 0,.slice none 0 0,.slice none 0 0,.slice none 0 0,.slice none 0 0,.slice none 0 0,.bool false] (heap_alloc_new w3 _) (by rw [sza];exact sizeTA) (by rw [sza];rfl) one ?_;rw [World.setRow_alloc_new])
 rw [← HWE.out]
 clear HWE sza one
 obtain ⟨⟨x0,x1,x2,x3,x4,x5,x6,x7⟩,y0,y1,y2,y3,y4,y5,y6,y7⟩:=HX.out w4 HB4.out.2
 go_wp2_with fail
 go_at_call 10
 refine Calls.mono (HAb.out w4 HB4.out.1) ?_
 rintro e w5 ⟨cb,okb,rfl,szb,onb,hGb,hb5⟩
 obtain ⟨w6,hw4⟩ : ∃ w4,w4=w5.alloc (.cells cb 39):=⟨_,rfl⟩
 have hb4:Below w5.heap.size w5 w6:=by rw [hw4];exact (Below.refl _ _).alloc (Nat.le_refl _) _
 have hh4:w6.heap[w5.heap.size]? = some (.cells cb 39 (0,0)):=by rw [hw4];exact heap_alloc_new w5 _
 have HWE:=Lib.hid hw4
 have HB6:=Lib.hid (And.intro (bhop (HB4.out.1) (bhop hb5 hb4)) (bhop (HB4.out.2) (bhop hb5 hb4)))
 have HG6:=Lib.hid (And.intro (show Below w4.heap.size w4 w6 from (bhop hb5 hb4)) (And.intro (Array.getElem?_eq_some_iff.1 hh4).1 (And.intro hh4 (And.intro hb4 (And.intro szb hGb)))))
 clear hw4 hb4 hh4 hb5 hGb x0 x1 x2 x3 x4 x5 x6 x7 y0 y1 y2 y3 y4 y5 y6 y7
 go_upto_region 5 with (refine wpList_store_row (by rfl) 39 (.tmp 9) (.tmp 28) (by rfl) w5.heap.size cb (by rfl) (by rfl) 39 #[.int .i64 0,.int .u64 0,.int .u64 0,.int .u64 0,.int .u64 0,.slice none 0 0,.int .i64 0,.int .i64 0,.slice none 0 0,.slice none 0 0,.slice none 0 0,.slice none 0 0,.slice none 0 0,.slice none 0 0,.bool false] (heap_alloc_new w5 _) (by rw [szb];exact sizeTA) (by rw [szb];rfl) onb ?_;rw [World.setRow_alloc_new])
 rw [← HWE.out]
 clear HWE szb onb
 have HBb4:=Lib.hid (show Below w4.heap.size w4 w6 from HG6.out.1)
 have HBL:=Lib.hid (fun (W:World) (h:Below w6.heap.size w6 W)=>And.intro ((bhop HBb4.out h).block w3.heap.size HG4.out.2.1 |>.trans HG4.out.2.2.1) (h.block w5.heap.size HG6.out.2.1 |>.trans HG6.out.2.2.1))
 cases oka with
 | false =>
  go_wp2_with fail
  go_ret
  exact ⟨rfl,HB6.out.1⟩
 | true =>
 cases okb with
 | false =>
  go_wp2_with fail
  go_ret
  exact ⟨rfl,HB6.out.1⟩
 | true =>
 obtain ⟨Ba,xa,ma,La,ga,ea⟩:=HG4.out.2.2.2.2.2 rfl
 obtain ⟨Bb,xb,mb,Lb,gb,eb⟩:=HG6.out.2.2.2.2.2 rfl
 have sza:ca.size=15:=HG4.out.2.2.2.2.1
 have szb:cb.size=15:=HG6.out.2.2.2.2.1
 have hCa:=map_cl HGD.out.1 ga.map
 have hCb:=map_cl HGD.out.2 gb.map
 obtain ⟨w7,hw7⟩ : ∃ w7,w7=w6.alloc (.cells (ca ++ cb) 39):=⟨_,rfl⟩
 have hb7:Below w6.heap.size w6 w7:=by rw [hw7];exact (Below.refl _ _).alloc (Nat.le_refl _) _
 have hh7:w7.heap[w6.heap.size]? = some (.cells (ca ++ cb) 39 (0,0)):=by rw [hw7];exact heap_alloc_new w6 _
 have ga7:=ga.au.below (bhop HG4.out.2.2.2.1 (bhop HBb4.out hb7))
 have gb7:=gb.au.below (bhop HG6.out.2.2.2.1 hb7)
 have hea:ca.toList=auC xa:=by rw [ea];rfl
 have heb:cb.toList=auC xb:=by rw [eb];rfl
 have HAUS:AusR w7 (some ⟨w6.heap.size,0,none⟩) [(xa,ma),(xb,mb)]:=fun i x hx=>by
  refine ⟨w6.heap.size,rfl,(Array.getElem?_eq_some_iff.1 hh7).1,fun j v hv=>?_,?_⟩
  ·rw [(row_cells hh7).1]
   match i,hx with
   | 0,hx =>
    obtain rfl:(xa,ma)=x:=by simpa using hx
    have hv':(auC xa)[j]? = some v:=hv
    have hj:j<15:=by have:=(List.getElem?_eq_some_iff.1 hv').1;rw [← hea,Array.length_toList,sza] at this;exact this
    rw [Nat.zero_mul,Nat.zero_add,Array.getElem?_append_left (by omega),← Array.getElem?_toList,hea]
    exact hv'
   | 1,hx =>
    obtain rfl:(xb,mb)=x:=by simpa using hx
    have hv':(auC xb)[j]? = some v:=hv
    rw [Array.getElem?_append_right (by omega),sza,show 1 * 15+j - 15=j by omega,← Array.getElem?_toList,heb]
    exact hv'
   | i+2,hx=>simp at hx
  ·match i,hx with
   | 0,hx =>
    obtain rfl:(xa,ma)=x:=by simpa using hx
    exact ⟨hCa,_,_,_,ga7⟩
   | 1,hx =>
    obtain rfl:(xb,mb)=x:=by simpa using hx
    exact ⟨hCb,_,_,_,gb7⟩
   | i+2,hx=>simp at hx
 have HM:=Lib.hid (make_any w7 (some ⟨w6.heap.size,0,none⟩) [(xa,ma),(xb,mb)] 2 HAUS (by simp))
 have HFa:=Lib.hid (fun b=>alk_fst (x:=(xa,ma)) (xs:=[(xa,ma),(xb,mb)]) ga.map (by simp) b)
 have HFb:=Lib.hid (fun b=>alk_fst (x:=(xb,mb)) (xs:=[(xa,ma),(xb,mb)]) gb.map (by simp) b)
 have hal:=alike_AlR (setsL [(xa,ma),(xb,mb)])
 obtain ⟨r,hr⟩ : ∃ r,r=AlR (setsL [(xa,ma),(xb,mb)]):=⟨_,rfl⟩
 rw [← hr] at HM HFa HFb hal
 obtain ⟨m1,hm1⟩:=mat_one (m:=ma) (fl:=bitsL (mvT (simT (erase s)) 0 0).1.fi) (la:=(mvT (simT (erase s)) 0 0).1.la) (L:=La) (em:=xa.em) u
 obtain ⟨m2,hm2⟩:=mat_one (m:=mb) (fl:=bitsL (mvT (simT (erase t)) 0 0).1.fi) (la:=(mvT (simT (erase t)) 0 0).1.la) (L:=Lb) (em:=xb.em) u
 have HMa:=Lib.hid (fun (W:World) (h:Below w6.heap.size w6 W) (v:Value) (wd:List Nat) (hv:WrdR W v wd) (hl:wd.length≤40) (hw:wd=u∨wd=u.map (fst r))=>show Calls Tryz.prog 12 #[.agg ca,v] W (fun e w'=>e=.returned (.bool m1)∧Below W.heap.size W w') from by
  rw [ea]
  exact match_ms ga hCa W (bhop HG4.out.2.2.2.1 (bhop HBb4.out h)) v wd u hv hl (fst r) (fun b _=>HFa.out b) hw m1 hm1)
 have HMb:=Lib.hid (fun (W:World) (h:Below w6.heap.size w6 W) (v:Value) (wd:List Nat) (hv:WrdR W v wd) (hl:wd.length≤40) (hw:wd=u∨wd=u.map (fst r))=>show Calls Tryz.prog 12 #[.agg cb,v] W (fun e w'=>e=.returned (.bool m2)∧Below W.heap.size W w') from by
  rw [eb]
  exact match_ms gb hCb W (bhop HG6.out.2.2.2.1 h) v wd u hv hl (fst r) (fun b _=>HFb.out b) hw m2 hm2)
 have HAL:=Lib.hid hal
 have HB7:=Lib.hid hb7
 have HSZ:=Lib.hid (And.intro (show (Tryz.prog.info? 39).map (·.size)=some ca.size by rw [sza];exact sizeTA) (And.intro (show (Tryz.prog.info? 39).map (·.size)=some cb.size by rw [szb];exact sizeTA) (And.intro sza szb)))
 have HW7:=Lib.hid hw7
 clear hCa hCb hw7 hb7 hh7 ga7 gb7 hea heb HAUS hal hr hm1 hm2 ga gb ea eb sza szb
 have hA6:=(HBL.out w6 (Below.refl _ _)).1
 have hB6:=(HBL.out w6 (Below.refl _ _)).2
 go_upto_region 7 with fail
 go_wp2_with (first
  | (refine wpList_load_row (by rfl) 39 (.tmp 7) (by rfl) w3.heap.size (by rfl) 39 ca (0,0) _ hA6 Tryz.underlying39 rfl HSZ.out.1 ?_)
  | (refine wpList_load_row (by rfl) 39 (.tmp 9) (by rfl) w5.heap.size (by rfl) 39 cb (0,0) _ hB6 Tryz.underlying39 rfl HSZ.out.2.1 ?_)
  | (refine wpList_build2 (by rfl) 85 39 (.tmp 36) (.tmp 37) (by rfl) ca cb (by rfl) (by rfl) 15 _ HSZ.out.2.2.1 HSZ.out.2.2.2 Tryz.underlying85 infoTA (by omega) (by omega) ?_;rw [← HW7.out]))
 go_at_call 20
 refine Calls.mono HM.out ?_
 rintro e w8 ⟨g,rfl,hrow8,hb8⟩
 clear hA6 hB6
 have HB8:=Lib.hid (bhop HB7.out hb8)
 have HP:=Lib.hid (plain_any w8 A1 c1 u r g (news r 256) HAL.out rfl hrow8 (by have:=HW.out w8 (bhop HB6.out.1 HB8.out);rw [HL.out] at this;exact this) (by have:=HU4.out;omega))
 obtain ⟨cl,hcl⟩ : ∃ cl,cl=ltA (.slice (some ⟨g,0,none⟩) (news r 256) (news r 256)) (nm r):=⟨_,rfl⟩
 rw [← hcl] at HP ⊢
 rw [← HL.out] at HP
 clear hcl hrow8 hb8
 go_wp2_with fail
 go_at_call 21
 refine Calls.mono HP.out ?_
 rintro e w9 ⟨lb,rfl,hpw,hb9⟩
 have HB9:=Lib.hid (bhop HB8.out hb9)
 have HPW:=Lib.hid hpw
 clear hpw hb9
 go_upto_region 8 with fail
 have HU:=Lib.hid (fun (W:World) (h:Below w9.heap.size w9 W)=>HW.out W (bhop HB6.out.1 (bhop HB9.out h)))
 refine regLa8 ca cb w3.heap.size w5.heap.size (.slice A1 un c1) (.slice (some ⟨lb,0,none⟩) un un) m1 m2 _ _ _ _ _ _ _ _ _ _ _ _ _ _ _ _ _ _ _ _ _ _ _ _ _ _ _ _ _ _ _ _ _ _ _ _ _ _ _ _ _ _ _ _ _ _ _ _ _ _ _ _ _ _ _ w9 (fun W h=>(HBL.out W (bhop HB9.out h)).1) HSZ.out.1 (fun W h=>(HBL.out W (bhop HB9.out h)).2) HSZ.out.2.1
  (fun W h=>HMa.out W (bhop HB9.out h) _ u (HU.out W h) HU4.out (.inl rfl)) (fun W h=>HMa.out W (bhop HB9.out h) _ (u.map (fst r)) (HPW.out.below h) (by rw [List.length_map];exact HU4.out) (.inr rfl))
  (fun W h=>HMb.out W (bhop HB9.out h) _ u (HU.out W h) HU4.out (.inl rfl)) (fun W h=>HMb.out W (bhop HB9.out h) _ (u.map (fst r)) (HPW.out.below h) (by rw [List.length_map];exact HU4.out) (.inr rfl)) _ ?_
 intros
 rename_i w20 hb20
 have HE:=Lib.hid (bhop HB6.out.1 (bhop HB9.out hb20))
 clear hb20
 go_wp2_with fail
 go_ret
 exact ⟨rfl,HE.out⟩
end Go.Proofs.YtnmjicfpmkoldaaGreatDoor.Lc
namespace Go.Proofs.YtnmjicfpmkoldaaGreatDoor
open Go.ChangeShapes Go.WideShapes Go.ChangeAt Go.RowKit
theorem lettersAlikeOwn:ownKnob Tryz.prog.godebug=none:=by kernel_rfl
theorem lettersAlikeLaidOut:laidOutB Tryz.prog=true:=by kernel_rfl
theorem lettersAlikeAgg (t:V):nodeAgg t=.agg (ndc t).toArray:=rfl
theorem lettersAlikeDoor (os:Os) (args:Array Value):laidMetH Tryz.prog Rows.lettersAlikeRow.laid ((World.doorLaid Tryz.prog 400 os).forCall (fun _ _=>0) ⟨#[],args,[]⟩).memory :=
 laidMetH_of_parts3 (fuel:=8) (laidMet_of_run' 8 (by kernel_rfl) (by kernel_rfl)) (by kernel_rfl) (by kernel_rfl)
set_option maxRecDepth 100000 in
theorem lettersAlike_lifted (os:Os) (started:os.Started) (H:Type) (enc:TypeId×Value→H) :
  ReturnsInHanded {} Tryz.checked os 8 .any (fun w args=>(Rows.lettersAlikeSpec.pre enc Tryz.prog Tryz.f8 Rows.lettersAlikeRow.domain false w args∧laidMetH Tryz.prog Rows.lettersAlikeRow.laid w)∧sizedMet enc Tryz.prog Tryz.f8 (OpenSpec.ofChange Rows.lettersAlikeSpec) false w args)
   (Rows.lettersAlikeSpec.post enc Tryz.prog Tryz.f8 false true false false):=by
 refine returnsInHanded_of_change_and (C:=Tryz.checked) (X:=fun w _=>laidMetH Tryz.prog Rows.lettersAlikeRow.laid w) (fun _ _ _ hh h=>h.of_heap hh) lettersAlikeOwn started (by kernel_rfl) Tryz.func8
  (ChangeSpec.witness_shaped (enc:=enc) (C:=Tryz.checked) (os:=os) (X:=fun w _=>laidMetH Tryz.prog Rows.lettersAlikeRow.laid w) false (World.doorLaid Tryz.prog 400 os) #[.agg #[.int .i64 0,.int .u64 0,.int .u64 0,.int .u64 0,.int .u64 0,.slice none 0 0,.int .i64 0,.int .i64 0],.agg #[.int .i64 0,.int .u64 0,.int .u64 0,.int .u64 0,.int .u64 0,.slice none 0 0,.int .i64 0,.int .i64 0],.slice none 0 0] 8 rfl (World.shaped_of_RefB (by kernel_rfl) (by kernel_rfl)) (by kernel_rfl) (by kernel_rfl) (by kernel_rfl) (lettersAlikeDoor os _)) ?_
 intro W base args ds gs before hval0 hW _ _ hLaid _
 have hval:∀ (j:Nat) t v,Tryz.f8.params[j]? = some t→args[j]? = some v→Value.okWide Tryz.prog W .any base t v:=hval0
 have hW':=hW
 obtain ⟨hT,hTl⟩:=tab_laid hLaid
 obtain ⟨p,q,hA0,hV,rfl,hfz,hnd⟩:=hW
 have hA:DataW.TrodAll enc Tryz.prog W 0 (fun _=>true) true Tryz.f8.params.toList args.toList ds p:=hA0
 rw [Tryz.params8] at hA hval
 obtain ⟨v0,vs0,d0,ds0,p0,q0,hargs,rfl,rfl,h0,rr0⟩:=trodAll_cons hA
 obtain ⟨v1,vs1,d1,ds1,p1,q1,rfl,rfl,rfl,h1,rr1⟩:=trodAll_cons rr0
 obtain ⟨v2,vs2,d2,ds2,p2,q2,rfl,rfl,rfl,h2,rr2⟩:=trodAll_cons rr1
 obtain ⟨rfl,rfl,rfl⟩:=trodAll_nil rr2
 obtain rfl:args=#[v0,v1,v2]:=by cases args;simp_all
 obtain ⟨rfl,rfl⟩:=trodVars_none hV
 have k0:=h0
 have lt0:∀ x∈p0,x.block<W.heap.size:=by obtain ⟨m,hm⟩:=k0;exact DataW.trod_lt m _ _ _ hm
 have k1:=h1
 have lt1:∀ x∈p1,x.block<W.heap.size:=by obtain ⟨m,hm⟩:=k1;exact DataW.trod_lt m _ _ _ hm
 have k2:=h2
 have lt2:∀ x∈p2,x.block<W.heap.size:=by obtain ⟨m,hm⟩:=k2;exact DataW.trod_lt m _ _ _ hm
 obtain ⟨t0,rfl,l0,gd0⟩:=open_tree (hval 0 27 v0 rfl rfl) h0
 obtain ⟨t1,rfl,l1,gd1⟩:=open_tree (hval 1 27 v1 rfl rfl) h1
 obtain ⟨wd2,hwd2,_⟩:=open_bytes8 (hval 2 28 v2 rfl rfl) h2
 clear hA0 hval0
 rw [← lettersAlikeAgg] at *
 refine (Lc.alike13_walk t0 t1 v2 wd2 W _ _ l0 l1 gd0 gd1 hT hTl hwd2).mono fun e W' ⟨he,bel⟩=>?_
 subst he
 exact ⟨_,rfl,_,_,_,[],_,[],hW',trodAll_mk1 (shut_bool Tryz.underlying4 _),(trodAll_cons_mk (Below.trod lettersAlikeLaidOut (by kernel_rfl) (of_decide_eq_true (by kernel_rfl)) k0 bel lt0) (trodAll_cons_mk (Below.trod lettersAlikeLaidOut (by kernel_rfl) (of_decide_eq_true (by kernel_rfl)) k1 bel lt1) (trodAll_cons_mk (Below.trod lettersAlikeLaidOut (by kernel_rfl) (of_decide_eq_true (by kernel_rfl)) k2 bel lt2) trodAll_mk0))),rfl,bel.frame _,fun h=>by cases h⟩
theorem lettersAlike_holds:Rows.LettersAlikeSaid :=
 OpenClaim.holds_of_wide 8 Tryz.f8 rfl rfl rfl rfl rfl rfl rfl ⟨rfl,rfl,rfl,rfl,rfl⟩ rfl rfl rfl rfl rfl (by kernel_rfl) Tryz.func8 (by kernel_rfl)
  (of_decide_eq_true (by kernel_rfl)) (by unfold Func.isWrapper;rw [if_neg (of_decide_eq_false (by kernel_rfl))];exact ⟨rfl,rfl⟩)
  (fun os started H enc _=>lettersAlike_lifted os started H enc)
theorem lettersAlike_card_holds:Rows.LettersAlikeCardSaid :=
 Claim7.holds_tied_plain_at .later [] [.data] true _ false
  lettersAlike_holds (fun _ h=>by cases h) (by kernel_rfl) (fun _ h=>by cases h) lettersAlike_row_tie rfl ⟨rfl,rfl⟩ (by kernel_rfl) rfl
  (fun f fn hf hfn=>by
   obtain rfl:f=8:=Option.some.inj ((show Tryz.prog.funcNamed "ostinato/ostinatolaw13.LettersAlike" = some 8 by kernel_rfl).symm.trans hf) |>.symm
   obtain rfl:fn=Tryz.f8:=(Option.some.inj (Tryz.func8.symm.trans hfn)).symm
   exact ⟨by kernel_rfl,fun j t ht=>by
    rw [Tryz.params8] at ht
    have hm:t∈[27,27,28]:=by simpa using Array.mem_of_getElem? ht
    have hall:([27,27,28].all fun u=>!Tryz.prog.wantsStandIn u)=true:=by kernel_rfl
    exact (show Tryz.prog.wantsStandIn t=false by simpa using List.all_eq_true.1 hall t hm)⟩)
  (by kernel_rfl)
#print axioms lettersAlike_card_holds
end Go.Proofs.YtnmjicfpmkoldaaGreatDoor
