/- distinct: the list without what is there already: a contract.
   Conditions: the list is its own, in memory; trees that are alike have one outline. -/
import Derived.Test.YtbohmcfplgdlpaaDoorMCo
import Derived.Deep.DeepCutAuto
import Derived.Maps.OwnOps

/- distinct: the list without what is there already: a contract.
   Conditions: the list is its own, in memory; trees that are alike have one outline. -/
namespace Go.Proofs.YtbohmcfplgdlpaaDoor
open Go.RowKit Go.Shelf Go.ChangeMaps Go.MapKept Go.ChangeShapes
open Go.Maps
attribute [local go_sem] nodeAgg
theorem keyU64:Keyed Tryd.prog 22:=int_keyed Tryd.underlying22
theorem infoInt:(Tryd.prog.info? 3).map (fun i=>(i.zero,i.size,i.bytes))=some (some (.int .i64 0),1,8):=by kernel_rfl
theorem zeroInts (w:World):(zeroValue 34).run Tryd.prog w=.ok (.slice none 0 0) w:=by kernel_rfl
structure DstI (w:World) (ts:List V) (i:Nat) (vl:Value) (D:DataW Unit) (l:List V) (wr:World):Prop where
 eq:l=dsV [] (ts.take i)
 own:wr.ownsRow (w.heap.size+2) 27 8 vl l.length (flat l)
 box:wr.heap[w.heap.size]? = some (.cells #[vl] 25 (0,0))
 grp:wr.ownsGroups Tryd.prog 22 (w.heap.size+2) 3 .i64 (w.heap.size+1) l.length D
 map:IsMap D
 dat:∀ x,(Lit.int .u64 x).wf=true→DatI (D.atKey (.int .u64 x) .nil) ((idxs l x).map fun (j:Nat)=>(j:Int))
 below:Below w.heap.size w wr
 sz:w.heap.size+2≤wr.heap.size
theorem DstI.len {w wr:World} {ts l:List V} {i:Nat} {vl:Value} {D:DataW Unit} (h:DstI w ts i vl D l wr):l.length≤ts.length:=by
 rw [h.eq]
 refine Nat.le_trans (dsV_len _ _) ?_
 rw [List.length_take,List.length_nil]
 omega
theorem DstI.mem {w wr:World} {ts l:List V} {i:Nat} {vl:Value} {D:DataW Unit} (h:DstI w ts i vl D l wr):∀ t∈l,t∈ts:=fun t ht=>by
 rw [h.eq] at ht
 rcases dsV_mem _ _ t ht with h | h
 ·cases h
 ·exact List.mem_of_mem_take h
theorem DstI.start (w:World) (ts:List V):DstI w ts 0 (.slice none 0 0) (.map []) [] ((w.alloc (.cells #[.slice none 0 0] 25)).alloc (.map #[] 0)):=by
 have h1:=World.ownsGroups_made (H:=Unit) (w.alloc (.cells #[.slice none 0 0] 25)) Tryd.prog 22 3 .i64
 rw [World.size_alloc] at h1
 refine ⟨rfl,World.ownsRow_nil _ _ _ _,(Below.heap_alloc _ _ _ (by simp)).trans (heap_alloc_new w _),h1,isMap_empty,fun x _=>.inl ⟨rfl,rfl⟩,((Below.refl _ w).alloc (Nat.le_refl _) _).alloc (by simp) _,by simp⟩
theorem DstI.keep {w wr w':World} {ts l:List V} {i:Nat} {vl:Value} {D:DataW Unit} (h:DstI w ts i vl D l wr) (hb:Below wr.heap.size wr w'):DstI w ts i vl D l w' :=
 ⟨h.eq,own_chg h.own (Chg.of_below (R:=fun _=>False) hb) fun _ _=>id,(hb.block _ (Array.getElem?_eq_some_iff.1 h.box).1).trans h.box,groups_chg h.grp (Chg.of_below (R:=fun _=>False) hb) id fun _ _ _ _=>id,h.map,h.dat,bhop h.below hb |>.mono (Nat.le_refl _),Nat.le_trans h.sz hb.size⟩
theorem DstI.old {w wr:World} {ts l:List V} {i:Nat} {vl:Value} {D:DataW Unit} {u:V} (h:DstI w ts i vl D l wr) (hu:ts[i]? = some u) (hy:l.any (fun x=>likeT (erase x) (erase u))=true):DstI w ts (i+1) vl D l wr :=
 ⟨by rw [take_one hu,dsV_append,← h.eq,dsV,dsV,if_pos hy],h.own,h.box,h.grp,h.map,h.dat,h.below,h.sz⟩
structure DstM (w:World) (vl:Value) (l:List V) (D:DataW Unit) (nb:Nat) (u:V) (w5:World):Prop where
 own:w5.ownsRow (w.heap.size+2) 27 8 vl l.length (flat l)
 box:w5.heap[w.heap.size]? = some (.cells #[vl] 25 (0,0))
 grp:w5.ownsGroups Tryd.prog 22 (w.heap.size+2) 3 .i64 (w.heap.size+1) (l.length+1) D
 below:Below w.heap.size w w5
 sz:w.heap.size+2≤w5.heap.size
 nbox:∃ v,w5.heap[nb]? = some (.cells #[.int .i64 u.kind,.int .u64 (u.set 0:Nat),.int .u64 (u.set 1:Nat),.int .u64 (u.set 2:Nat),.int .u64 (u.set 3:Nat),v,.int .i64 u.lo,.int .i64 u.hi] 27 (0,0))∧u.v=v
theorem DstI.stored {w w3 w4 w5:World} {ts l:List V} {i:Nat} {vl:Value} {D D':DataW Unit} {u:V} {v:Value} {zs:List Int} {nb:Nat} {uv:Value} (h:DstI w ts i vl D l w3) (ho:w3.ownsInts (w.heap.size+2) 3 .i64 v zs) (hg4:w3.grownBy w4 v.ownBlock) (hg5:w4.grownBy w5 (some (w.heap.size+1)))
  (hgr:w5.ownsGroups Tryd.prog 22 (w.heap.size+2) 3 .i64 (w.heap.size+1) (l.length+1) D') (hnb:w3.heap[nb]? = some (.cells #[.int .i64 u.kind,.int .u64 (u.set 0:Nat),.int .u64 (u.set 1:Nat),.int .u64 (u.set 2:Nat),.int .u64 (u.set 3:Nat),uv,.int .i64 u.lo,.int .i64 u.hi] 27 (0,0))) (huv:u.v=uv):DstM w vl l D' nb u w5:=by
 have hty:∀ (x:Nat) (cs:Array Value) (e:TypeId) (m:Nat×Nat),w3.heap[x]? = some (Obj.cells cs e m)→e≠3→v.ownBlock≠some x:=fun x cs e m hx he e1=>by
  rcases ho.1.2 with ⟨e2,_⟩ | ⟨g,cap,cur,rfl,_,hg,_⟩
  ·rw [e2] at e1;cases e1
  ·have:g=x:=Option.some.inj e1
   subst this
   have:=Option.some.inj (hg.symm.trans hx)
   simp only [Obj.cells.injEq] at this
   exact he this.2.1.symm
 obtain ⟨es,clock,hmb,_⟩:=h.grp
 have hkeep:∀ (x:Nat) (cs:Array Value) (e:TypeId) (m:Nat×Nat),w3.heap[x]? = some (Obj.cells cs e m)→e≠3→w5.heap[x]? = w3.heap[x]?:=fun x cs e m hx he=>by
  have hxl:=(Array.getElem?_eq_some_iff.1 hx).1
  rw [hg5.block x (Nat.lt_of_lt_of_le hxl hg4.size) fun e1=>?_,hg4.block x hxl fun e1=>hty x cs e m hx he e1.symm]
  have:x=w.heap.size+1:=Option.some.inj e1
  subst this
  rw [hmb] at hx
  cases hx
 have hvb:∀ k,v.ownBlock=some k→w.heap.size+2≤k:=fun k hk=>(ho.1.lt k hk).1
 refine ⟨own_heap h.own fun b hb=>?_,(hkeep _ _ _ _ h.box (by decide)).trans h.box,hgr,?_,Nat.le_trans h.sz (Nat.le_trans hg4.size hg5.size),⟨uv,(hkeep _ _ _ _ hnb (by decide)).trans hnb,huv⟩⟩
 ·obtain ⟨cs,m,hx⟩:=own_nt h.own hb
  exact hkeep b cs _ m hx (by decide)
 ·have c1:=((Chg.refl (fun x=>v.ownBlock=some x) w3).grown hg4 fun k hk _=>hk)
  have b1:=h.below.trans (c1.below h.below.size fun k hk e=>by have:=hvb k e;omega)
  exact b1.trans (((Chg.refl (fun x=>x=w.heap.size+1) w4).grown hg5 fun k hk _=>(Option.some.inj hk).symm).below b1.size fun k hk e=>by omega)
theorem DstM.added {w w5 w6:World} {ts l:List V} {i:Nat} {vl v:Value} {D:DataW Unit} {u:V} {nb:Nat} (h:DstM w vl l D nb u w5) (hl:l=dsV [] (ts.take i)) (hu:ts[i]? = some u) (hn:l.any (fun x=>likeT (erase x) (erase u))=false) (hm:IsMap D)
  (hd:∀ x,(Lit.int .u64 x).wf=true→DatI (D.atKey (.int .u64 x) .nil) ((idxs (l ++ [u]) x).map fun (j:Nat)=>(j:Int))) (huv:u.v=v) (ha:Added (w.heap.size+2) w.heap.size 0 vl (flat l) l.length [.int .i64 u.kind,.int .u64 (u.set 0:Nat),.int .u64 (u.set 1:Nat),.int .u64 (u.set 2:Nat),.int .u64 (u.set 3:Nat),v,.int .i64 u.lo,.int .i64 u.hi] w5 w6):∃ vl',DstI w ts (i+1) vl' D (l ++ [u]) w6:=by
 have he : [.int .i64 u.kind,.int .u64 (u.set 0:Nat),.int .u64 (u.set 1:Nat),.int .u64 (u.set 2:Nat),.int .u64 (u.set 3:Nat),v,.int .i64 u.lo,.int .i64 u.hi]=ndc u:=by unfold ndc;rw [huv]
 rw [he] at ha
 obtain ⟨g,cap,hown,hor,hlt,hheap,hch⟩:=ha
 have hvb:∀ k,vl.ownBlock=some k→w.heap.size+2≤k:=fun k hk=>(h.own.lt k hk).1
 refine ⟨.slice (some ⟨g,0,none⟩) (l.length+1) cap,?_,?_,?_,?_,hm,hd,h.below.trans (hch.below h.below.size fun k hk e=>?_),Nat.le_trans h.sz hch.size⟩
 ·rw [take_one hu,dsV_append,← hl,dsV,dsV,if_neg (by rw [hn];decide)]
 ·rw [List.length_append,flat_snoc];exact hown
 ·rw [hheap,heap_setCell_same w5 _ 0 _ _ _ h.box]
  rfl
 ·rw [List.length_append]
  refine groups_chg h.grp hch (fun e=>?_) fun x cs m hx e=>?_
  ·rcases e with e | e
   ·omega
   ·obtain ⟨es,clock,hmb,_⟩:=h.grp
    obtain ⟨cs,m,hx⟩:=own_nt h.own e
    rw [hmb] at hx
    cases hx
  ·rcases e with e | e
   ·rw [e,h.box] at hx
    have:=Option.some.inj hx
    simp only [Obj.cells.injEq] at this
    exact absurd this.2.1 (by decide)
   ·obtain ⟨cs',m',hx'⟩:=own_nt h.own e
    rw [hx] at hx'
    have:=Option.some.inj hx'
    simp only [Obj.cells.injEq] at this
    exact absurd this.2.1 (by decide)
 ·rcases e with e | e
  ·omega
  ·have:=hvb k e;omega
theorem DstI.toCL {w wr:World} {ts l:List V} {i k:Nat} {vl v:Value} {D:DataW Unit} {u:V} {nb a m:Nat} {va:Value} (h:DstI w ts i vl D l wr) (hk:∀ t∈ts,OwnT w (fun x=>Fp w a m x∧va.ownBlock≠some x) t) (hu:ts[k]? = some u)
  (hnb:wr.heap[nb]? = some (.cells #[.int .i64 u.kind,.int .u64 (u.set 0:Nat),.int .u64 (u.set 1:Nat),.int .u64 (u.set 2:Nat),.int .u64 (u.set 3:Nat),v,.int .i64 u.lo,.int .i64 u.hi] 27 (0,0))) (huv:u.v=v):∃ g cp,CL w.heap.size nb l u g cp (fun _=>True) wr:=by
 have hl:∀ t∈ts,Laid wr (fun _=>True) t:=fun t ht=>laid_low ((hk t ht).laid.mono fun _ _ _=>trivial) h.below
 have hn:∀ j,j<8→wr.cell? ⟨nb,j,none⟩=(ndc u)[j]?:=fun j hj=>by
  rw [(row_cells hnb).1 j]
  unfold ndc
  rw [huv]
  simp
 have hb:wr.cell? ⟨w.heap.size,0,none⟩=some vl:=(row_cells h.box).1 0
 have hbl:=(Array.getElem?_eq_some_iff.1 h.box).1
 have hnl:=(Array.getElem?_eq_some_iff.1 hnb).1
 by_cases he:l=[]
 ·exact ⟨0,0,fun e=>absurd he e,fun e=>absurd he e,hbl,hnl,fun i t ht=>by rw [he] at ht;simp at ht,hn,fun t ht=>hl t (h.mem t ht),hl u (List.mem_of_getElem? hu)⟩
 ·obtain ⟨g,cap,hgv,_,hgl⟩:=h.own.form (List.length_pos_iff.2 he)
  have hown:=h.own
  rw [hgv] at hb hown
  exact ⟨g,cap,fun _=>hb,fun _=>hgl,hbl,hnl,fun i t ht j hj=>by
   have:=(List.getElem?_eq_some_iff.1 ht).1
   rw [hown.cellAt _ (by omega),flat_at l i t ht j hj],hn,fun t ht=>hl t (h.mem t ht),hl u (List.mem_of_getElem? hu)⟩
theorem dat_put {l:List V} {u:V} {D:DataW Unit} {w1:World} {base:Nat} {e:TypeId} {v':Value} (hm:IsMap D) (hd:∀ x,(Lit.int .u64 x).wf=true→DatI (D.atKey (.int .u64 x) .nil) ((idxs l x).map fun (j:Nat)=>(j:Int)))
  (ho:w1.ownsInts base e .i64 v' ((idxs l (oV u)).map (fun (j:Nat)=>(j:Int)) ++ [(l.length:Int)])) :
  ∀ x,(Lit.int .u64 x).wf=true→DatI ((D.put (.int .u64 (oV u)) (rowDatum .i64 v' ((idxs l (oV u)).map (fun (j:Nat)=>(j:Int)) ++ [(l.length:Int)]))).atKey (.int .u64 x) .nil) ((idxs (l ++ [u]) x).map fun (j:Nat)=>(j:Int)):=fun x hx=>by
 rw [idxs_snoc,List.map_append]
 by_cases h:oV u=x
 ·subst h
  rw [atKey_put_same hm (by trivial),if_pos rfl,ho.datum_pos (by simp)]
  exact .inr rfl
 ·rw [atKey_put_other (by simpa using fun e=>h e.symm),if_neg h,List.map_nil,List.append_nil]
  exact hd x hx
set_option maxHeartbeats 8000000 in
set_option maxRecDepth 100000 in
theorem distinct_any (a m:Nat) (P:Nat→Prop) (v:Value) (ts:List V) (w:World) (h:RowA w a m P v ts) (hsz:∀ t∈ts,szT (erase t)≤1000000) (hlen:ts.length≤900000)
  (hlk:∀ t∈ts,∀ u∈ts,likeT (erase t) (erase u)=true→oV t=oV u) :
  Calls Tryd.prog 87 #[v] w fun e w'=>∃ v',e=.returned v'∧w'.ownsRow (w.heap.size+2) 27 8 v' (dsV [] ts).length (flat (dsV [] ts))∧Below w.heap.size w w':=by
 have hmm:=@run_makeMap Tryd.prog
 obtain ⟨i0,hi,hz0,hz1,hz2⟩:=info_parts info27
 obtain ⟨j0,hj,hy0,hy1,hy2⟩:=info_parts infoInt
 obtain ⟨A,cp,rfl⟩:=own_form h.own
 have hn0:(0:Int)≤(ts.length:Int):=by omega
 have hn1:(ts.length:Int)≤900000:=by omega
 have HST:=Lib.hid (DstI.start w ts)
 have HH:=Lib.hid (And.intro h (And.intro hsz (And.intro hlen hlk)))
 clear h hsz hlen hlk
 go_enter Tryd.func87,Tryd.ntmps87
 go_wp2_with fail
 go_loopw [12] (fun x wr=>∃ (i:Nat) (vl:Value) (D:DataW Unit) (l:List V),x=.int .i64 i∧i≤ts.length∧DstI w ts i vl D l wr) (fun x _=>match x with | .int _ z=>ts.length - z.toNat | _=>0)
 case atStart=>exact ⟨0,_,_,_,rfl,by omega,HST.out⟩
 case round =>
  obtain ⟨i,vl,D,l,rfl,hi',hI⟩:=hrel
  clear HST
  by_cases hlt:i<ts.length
  ·have g0:(0:Int)≤(i:Int):=by omega
   have g1:(i:Int)<(ts.length:Int):=by omega
   obtain ⟨u,hu⟩ : ∃ u,ts[i]? = some u:=⟨_,List.getElem?_eq_getElem hlt⟩
   obtain ⟨g,cap,hgv,_,hgl⟩:=HH.out.1.own.form (by omega)
   have hown:=HH.out.1.own
   simp only [Value.slice.injEq,true_and] at hgv
   obtain ⟨rfl,rfl⟩:=hgv
   have hlu:=(HH.out.1.kids u (List.mem_of_getElem? hu)).laid
   obtain ⟨ua,uc,hus,_⟩:=laid_row' hlu
   obtain ⟨un,hun⟩ : ∃ un,un=u.ps.length:=⟨_,rfl⟩
   rw [← hun] at hus
   have hc:∀ j,j<8→wr.cell? ⟨g,i * 8+j,none⟩=(ndc u)[j]?:=fun j hj=>by
    rw [hI.below.cell (p:=⟨g,i * 8+j,none⟩) hgl,hown.cellAt _ (by omega),flat_at ts i u hu j hj]
   have y0:wr.cell? ⟨g,i * 8,none⟩=some (.int .i64 u.kind):=hc 0 (by decide)
   have y1:wr.cell? ⟨g,i * 8+1,none⟩=some (.int .u64 (u.set 0:Nat)):=hc 1 (by decide)
   have y2:wr.cell? ⟨g,i * 8+2,none⟩=some (.int .u64 (u.set 1:Nat)):=hc 2 (by decide)
   have y3:wr.cell? ⟨g,i * 8+3,none⟩=some (.int .u64 (u.set 2:Nat)):=hc 3 (by decide)
   have y4:wr.cell? ⟨g,i * 8+4,none⟩=some (.int .u64 (u.set 3:Nat)):=hc 4 (by decide)
   have y5:wr.cell? ⟨g,i * 8+5,none⟩=some (.slice ua un uc):=(hc 5 (by decide)).trans (congrArg some hus)
   have y6:wr.cell? ⟨g,i * 8+6,none⟩=some (.int .i64 u.lo):=hc 6 (by decide)
   have y7:wr.cell? ⟨g,i * 8+7,none⟩=some (.int .i64 u.hi):=hc 7 (by decide)
   obtain ⟨w1,hw1,hb1,hlt1,hbx⟩:=box_new wr u (.slice ua un uc)
   have hnb:w1.heap[wr.heap.size]? = some (.cells #[.int .i64 u.kind,.int .u64 (u.set 0:Nat),.int .u64 (u.set 1:Nat),.int .u64 (u.set 2:Nat),.int .u64 (u.set 3:Nat),.slice ua un uc,.int .i64 u.lo,.int .i64 u.hi] 27 (0,0)):=by rw [← hw1];exact heap_alloc_new wr _
   have HU:=Lib.hid (And.intro hu (And.intro hus (And.intro hlu (And.intro hlt (And.intro hb1 (And.intro hnb hlt1))))))
   have HBX:=Lib.hid hbx
   obtain ⟨x0,x1,x2,x3,x4,x5,x6,x7⟩:=hbx w1 (Below.refl _ _)
   have HI:=Lib.hid hI
   have HOU:=Lib.hid (show Calls Tryd.prog 93 #[.agg #[.int .i64 u.kind,.int .u64 (u.set 0:Nat),.int .u64 (u.set 1:Nat),.int .u64 (u.set 2:Nat),.int .u64 (u.set 3:Nat),.slice ua un uc,.int .i64 u.lo,.int .i64 u.hi]] w1 fun e w'=>e=.returned (.int .u64 (oV u))∧Below w1.heap.size w1 w' by
    have:=outline_any u w1 _ (laid_low hlu (bhop hI.below hb1))
    rw [nodeAgg_v hus] at this
    exact this)
   clear hc hown hlu hus hun hu hb1 hnb hlt1 hbx hI hlt hi'
   go_upto_region 6 with fail
   clear hw1 y0 y1 y2 y3 y4 y5 y6 y7
   go_wp2_with fail
   go_at_call 93
   refine HOU.out.mono ?_
   rintro e w2 ⟨rfl,hb2⟩
   have HB2:=Lib.hid (And.intro hb2 (bhop HU.out.2.2.2.2.1 hb2))
   have HI2:=Lib.hid (HI.out.keep HB2.out.2)
   have HNB:=Lib.hid (show w2.heap[wr.heap.size]? = some (.cells #[.int .i64 u.kind,.int .u64 (u.set 0:Nat),.int .u64 (u.set 1:Nat),.int .u64 (u.set 2:Nat),.int .u64 (u.set 3:Nat),.slice ua un uc,.int .i64 u.lo,.int .i64 u.hi] 27 (0,0)) from (HB2.out.1.block _ HU.out.2.2.2.2.2.2).trans HU.out.2.2.2.2.2.1)
   clear hb2 x0 x1 x2 x3 x4 x5 x6 x7
   have hll:l.length≤900000:=Nat.le_trans HI.out.len HH.out.2.2.1
   go_wp2_with (at_lookup;refine wpList_lookup_groups _ rfl _ _ 182 rfl 22 34 3 .i64 keyU64 Tryd.underlying182 (zeroInts _) (w.heap.size+2) (w.heap.size+1) l.length D rfl HI2.out.grp (by unfold maxLen;omega) _ _ rfl (keyOf_int_mk Tryd.underlying22 (oV_wf u)) ?_;intro v zs hat hoi hzl hback)
   obtain rfl:=dat_zs (HI2.out.dat _ (oV_wf u)) hat hoi
   obtain ⟨lg,lcp,hCL⟩:=HI2.out.toCL (nb:=wr.heap.size) (u:=u) (HH.out.1.kids) HU.out.1 HNB.out HU.out.2.1
   have HCF:=Lib.hid (containsFunc_any (w.heap.size+2) w.heap.size wr.heap.size lg lcp l u (idxs l (oV u)) v _ w2 hCL idxs_lt (fun t ht=>HH.out.2.1 t (HI.out.mem t ht)) (by omega) (by have:=idxs_len l (oV u);omega) (by have:=hoi.1;rw [List.map_map,List.length_map] at this;exact this))
   rw [any_idxs fun t ht=>HH.out.2.2.2 t (HI.out.mem t ht) u (List.mem_of_getElem? HU.out.1)] at HCF
   clear hat hoi hzl hback hCL
   cases hany:l.any (fun x=>likeT (erase x) (erase u)) with
   | true =>
    rw [hany] at HCF
    have HA:=Lib.hid hany
    clear hany
    go_wp2_with fail
    go_at_call 96
    refine HCF.out.mono ?_
    rintro e w3 ⟨rfl,hb3⟩
    have HB3:=Lib.hid hb3
    clear hb3
    go_wp2_with fail
    go_roundw
    case rel=>exact ⟨i+1,_,_,_,by push_cast;rfl,HU.out.2.2.2.1,(HI2.out.keep HB3.out).old HU.out.1 HA.out⟩
    case measure=>have:=HU.out.2.2.2.1;simp;omega
   | false =>
    rw [hany] at HCF
    have HA:=Lib.hid hany
    clear hany
    go_wp2_with fail
    go_at_call 96
    refine HCF.out.mono ?_
    rintro e w3 ⟨rfl,hb3⟩
    have HB3:=Lib.hid (And.intro hb3 (bhop HB2.out.1 hb3))
    have HI3:=Lib.hid (HI2.out.keep hb3)
    clear hb3
    obtain ⟨vA,vcp,hvl⟩:=own_form HI3.out.own
    subst hvl
    have z3:w3.cell? ⟨w.heap.size,0,none⟩=some (.slice vA l.length vcp):=(row_cells HI3.out.box).1 0
    have zl:w.heap.size<w3.heap.size:=(Array.getElem?_eq_some_iff.1 HI3.out.box).1
    have n0:(0:Int)≤(l.length:Int):=by omega
    have n1:(l.length:Int)≤900000:=by omega
    go_wp2_with (first
     | (at_lookup;refine wpList_lookup_groups _ rfl _ _ 182 rfl 22 34 3 .i64 keyU64 Tryd.underlying182 (zeroInts _) (w.heap.size+2) (w.heap.size+1) l.length D rfl HI3.out.grp (by unfold maxLen;omega) _ _ rfl (keyOf_int_mk Tryd.underlying22 (oV_wf u)) ?_;intro v2 zs hat hoi hzl hback)
     | (at_builtin;refine wpList_append_own_at _ rfl _ _ 34 rfl (w.heap.size+2) 3 j0 (.int .i64 0) 1 8 Tryd.underlying34 hj hy0 hy1 hy2 rfl (by decide) _ _ _ rfl (hoi.1.alloc _) ⟨w3.heap.size,0,none⟩ 1 1 [.int .i64 l.length] rfl rfl (cell_one_new _ _ _) (ints_oneCell .i64 [(l.length:Int)]) (by unfold maxLen;omega) (by omega) (by have:=HI3.out.sz;simp;omega) ?_;intro v' w4 hown4 hgrow4 hnil4 hloc4)
     | (at_mapUpdate;refine wpList_mapUpdate_back _ rfl _ _ _ 182 rfl hback rfl rfl rfl ((World.grownBy_alloc _ _ _).trans hgrow4) (hoi.appended hown4 (WalkArith.wf_i64 (by omega))) (by simp;omega) (hloc4.imp id (fun h=>⟨_,h,by simp⟩)) ?_;intro w5 hown5 hgrow5)
     | fail)
    obtain rfl:=dat_zs (HI3.out.dat _ (oV_wf u)) hat hoi
    have hap:=hoi.appended hown4 (WalkArith.wf_i64 (by omega))
    have HM:=Lib.hid (HI3.out.stored hoi ((World.grownBy_alloc w3 _ _).trans hgrow4) hgrow5 hown5 ((HB3.out.1.block _ (Array.getElem?_eq_some_iff.1 HNB.out).1).trans HNB.out) HU.out.2.1)
    have HD:=Lib.hid (dat_put (l:=l) (u:=u) HI3.out.map HI3.out.dat hap)
    obtain ⟨uv5,hx5,huv5⟩:=HM.out.nbox
    obtain rfl:uv5=.slice ua un uc:=huv5.symm.trans HU.out.2.1
    obtain ⟨x0,x1,x2,x3,x4,x5,x6,x7⟩:=cells8 hx5
    have xl:=(Array.getElem?_eq_some_iff.1 hx5).1
    have z5:w5.cell? ⟨w.heap.size,0,none⟩=some (.slice vA l.length vcp):=(row_cells HM.out.box).1 0
    have f5:w5.frozen? ⟨w.heap.size,0,none⟩=false:=(row_cells HM.out.box).2 0
    have zl5:w.heap.size<w5.heap.size:=(Array.getElem?_eq_some_iff.1 HM.out.box).1
    have hne5:(Value.slice vA l.length vcp).ownBlock≠some w.heap.size:=fun e=>by have:=(HM.out.own.lt _ e).1;omega
    have hown5':=HM.out.own
    have HX:=Lib.hid hown5'.1
    have HW:=Lib.hid (show Chg (fun _=>False) w5 ((w5.alloc (.cells #[.int .i64 0,.int .u64 0,.int .u64 0,.int .u64 0,.int .u64 0,.slice none 0 0,.int .i64 0,.int .i64 0] 27)).drew) from ((Chg.refl _ _).alloc _).drew)
    have hsz5:=HM.out.sz
    have n2:(l.length:Int)<(l.length:Int)+1:=by omega
    clear hat hoi hback hown4 hgrow4 hnil4 hloc4 hown5 hgrow5 hap hx5 huv5 z3 zl
    go_region_law (refine step_append_lies _ rfl _ _ 25 rfl (w.heap.size+2) 27 i0 _ 8 80 Tryd.underlying25 hi hz0 hz1 hz2 rfl (by decide) (.slice vA l.length vcp) l.length (flat l) rfl ((hown5'.alloc _).drew) ⟨w5.heap.size,0,none⟩ 1 1 zndc rfl rfl (news_zero _ _ (by simp)) one_zndc (by decide) (by unfold maxLen;omega) (by omega) (by simp;omega) _ rfl ?_;intro g7 cap7 w7 hown7 hgrow7 hg7 hlt7;obtain ⟨⟨e0,e1,e2,e3⟩,⟨e4,e5,e6,e7⟩,ef⟩:=app_cells hown7 HX.out;obtain ⟨b1,b2,b3,b4,b5⟩:=app_field (x:=0) hgrow7 HW.out zl5 hne5 hg7 z5 f5;have HO:=Lib.hid (And.intro hown7 (And.intro hgrow7 (And.intro hg7 (And.intro hlt7 b5))));clear hown7 hgrow7 hg7 hlt7 b5)
    all_goals
     obtain ⟨hown7,hgrow7,hg7,hlt7,_⟩:=HO.out
     go_wp2_with fail
     go_roundw
     case rel =>
      exact (DstM.added HM.out HI3.out.eq HU.out.1 HA.out (HI3.out.map.put _ _) HD.out HU.out.2.1 (by first | (with_reducible exact added_l hgrow7 HW.out zl5 hne5 hg7 hlt7 z5 f5 HX.out hown7) | (with_reducible exact added_r hgrow7 HW.out zl5 hne5 hg7 hlt7 z5 f5 HX.out hown7))).elim fun vl' h=>⟨i+1,vl',_,_,by push_cast;rfl,HU.out.2.2.2.1,h⟩
     case measure=>have:=HU.out.2.2.2.1;simp;omega
  ·have hie:i=ts.length:=by omega
   subst hie
   obtain ⟨vA,vcp,hvl⟩:=own_form hI.own
   subst hvl
   have z0:wr.cell? ⟨w.heap.size,0,none⟩=some (.slice vA l.length vcp):=(row_cells hI.box).1 0
   have HI:=Lib.hid (show l=dsV [] ts by have:=hI.eq;rw [List.take_length] at this;exact this)
   have HW:=Lib.hid (And.intro hI.own hI.below)
   clear hI hlt hi'
   go_wp2_with fail
   go_ret
   exact ⟨_,rfl,by rw [← HI.out];exact HW.out.1,HW.out.2⟩
end Go.Proofs.YtbohmcfplgdlpaaDoor
