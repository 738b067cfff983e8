/- What the iterator over a tree's nodes comes to: a contract.
   Conditions: those that the theorem states. -/
import Derived.Test.YtbohmcfplgdlpaaDoorMWalk
import Derived.Test.YtbohmcfplgdlpaaDoorMBase
import Derived.Deep.LoopGhost

/- What the iterator over a tree's nodes comes to: a contract.
   Conditions: those that the theorem states. -/
namespace Go.Proofs.YtbohmcfplgdlpaaDoor
open Go.RowKit Go.Shelf
attribute [local go_sem] Oper.semAt_some
def encsV (x:Nat×V):Array Value:=#[.int .i64 (x.1:Nat),nodeAgg x.2]
theorem info25:(Tryd.prog.info? 25).map (fun i=>(i.zero,i.size,i.bytes))=some (some (.slice none 0 0),1,24):=by kernel_rfl
def NRel (W:World) (R:Nat→Prop) (D:Nat) (xs:List (Nat×V)) (J:List (Nat×V)→World→Prop) (n:Nat) (rest:Value) (wr:World):Prop :=
 ∃ (st:List (Value×List V)) (g cap:Nat) (pre:List (Nat×V)),rest=.slice (some ⟨g,0,none⟩) st.length cap∧wr.ownsRow (W.heap.size+1) 25 1 (.slice (some ⟨g,0,none⟩) st.length cap) st.length (st.map Prod.fst).reverse ∧
  (∀ p,p∈st→Laid wr R (.node 0 zeros 0 0 p.1 p.2))∧xs=pre ++ todo st∧J pre wr∧okd D st∧n=2 * (todo st).length+st.length∧W.heap.size+1≤wr.heap.size
theorem own_top {w:World} {base g cap:Nat} {v:Value} {row:List V} {st:List (Value×List V)} (tv:Value) (h:w.ownsRow base 25 1 (.slice (some ⟨g,0,none⟩) ((v,row) :: st).length cap) ((v,row) :: st).length (((v,row) :: st).map Prod.fst).reverse) :
  (w.setCell ⟨g,st.length,none⟩ tv).ownsRow base 25 1 (.slice (some ⟨g,0,none⟩) (st.length+1) cap) (st.length+1) ((st.map Prod.fst).reverse ++ [tv]):=by
 have h1:=(h.stored st.length tv).1
 have e:((((v,row) :: st).map Prod.fst).reverse).set st.length tv=(st.map Prod.fst).reverse ++ [tv]:=by
  have:=set_at (xs:=(st.map Prod.fst).reverse) (zs:=[v]) (o:=st.length) (by simp) 0 tv
  rw [Nat.add_zero] at this
  rw [List.map_cons,List.reverse_cons]
  exact this
 rw [e] at h1
 exact h1
theorem nrel_step {W wr W3 W5:World} {R:Nat→Prop} {D D0 g g5 cap5:Nat} {xs pre:List (Nat×V)} {J:List (Nat×V)→World→Prop} {v tv:Value} {u:V} {us:List V} {st:List (Value×List V)}
  (hR:∀ b,R b→b≠D0∧b<W.heap.size+1) (hJ:Abide W.heap.size J) (hk3:KpV D0 wr W3) (hrows:∀ p,p∈(v,u :: us) :: st→Laid wr R (.node 0 zeros 0 0 p.1 p.2)) (htail:Laid wr R (.node 0 zeros 0 0 tv us)) (hlu:Laid wr R u)
  (hok:okd D ((v,u :: us) :: st)) (hxs:xs=pre ++ todo ((v,u :: us) :: st)) (hJ3:J (pre ++ [(st.length+1,u)]) W3) (hg:W.heap.size+1≤g) (hc:Chg (fun k=>k=g) W3 W5) (hsz:W.heap.size+1≤wr.heap.size)
  (hown:W5.ownsRow (W.heap.size+1) 25 1 (.slice (some ⟨g5,0,none⟩) (st.length+1+1) cap5) (st.length+1+1) ((st.map Prod.fst).reverse ++ [tv] ++ [u.v])) :
  NRel W R D xs J (2 * (todo ((u.v,u.ps) :: (tv,us) :: st)).length+(st.length+1+1)) (.slice (some ⟨g5,0,none⟩) (st.length+1+1) cap5) W5:=by
 have hlaid:∀ x,Laid wr R x→Laid W5 R x:=fun x hx=>(hk3.laid hx (fun b hb=>(hR b hb).1)).chg hc fun b _ hb e=>by have:=(hR b hb).2;omega
 refine ⟨(u.v,u.ps) :: (tv,us) :: st,g5,cap5,pre ++ [(st.length+1,u)],rfl,?_,?_,?_,hJ _ _ _ hJ3 (hc.mono fun x _ hx=>by omega),okd_push hok,rfl,Nat.le_trans hsz (Nat.le_trans hk3.1 hc.size)⟩
 ·simp only [List.map_cons,List.reverse_cons,List.length_cons]
  exact hown
 ·intro p hp
  rcases List.mem_cons.1 hp with rfl | hp
  ·exact hlaid _ (laid_parts hlu)
  ·rcases List.mem_cons.1 hp with rfl | hp
   ·exact hlaid _ htail
   ·exact hlaid _ (hrows p (by simp [hp]))
 ·rw [hxs,todo_cons (v':=tv),List.append_assoc]
  rfl
set_option maxHeartbeats 4000000 in
set_option maxRecDepth 100000 in
theorem nodes_iter (n Bx D0 D:Nat) (t:V) (w:World) (hbox:∀ j u,(ndc t)[j]? = some u→w.cell? ⟨Bx,j,none⟩=some u) (hBx:Bx<w.heap.size) (hD0:D0<w.heap.size) (hl:Laid w (fun b=>b≠D0) t) (hdep:dptV t≤D) (hD:D≤1000000) :
  Iter n 81 #[.pointer (some ⟨Bx,0,none⟩)] encsV (KpV D0) (preV 1 t) w:=by
 intro l J Jx W hW hJ hJx hY h0
 have hl0:=hl
 obtain ⟨sa,sn,sc,hsl⟩:=hl.slice
 have hb:∀ j u,(ndc t)[j]? = some u→W.cell? ⟨Bx,j,none⟩=some u:=fun j u hu=>(hW.cell (p:=⟨Bx,j,none⟩) hBx).trans (hbox j u hu)
 have b0:W.cell? ⟨Bx,0,none⟩=some (.int .i64 t.kind):=hb 0 _ rfl
 have b1:W.cell? ⟨Bx,1,none⟩=some (.int .u64 (t.set 0:Nat)):=hb 1 _ rfl
 have b2:W.cell? ⟨Bx,2,none⟩=some (.int .u64 (t.set 1:Nat)):=hb 2 _ rfl
 have b3:W.cell? ⟨Bx,3,none⟩=some (.int .u64 (t.set 2:Nat)):=hb 3 _ rfl
 have b4:W.cell? ⟨Bx,4,none⟩=some (.int .u64 (t.set 3:Nat)):=hb 4 _ rfl
 have b5:W.cell? ⟨Bx,5,none⟩=some (.slice sa sn sc):=hb 5 _ (by rw [← hsl];rfl)
 have b6:W.cell? ⟨Bx,6,none⟩=some (.int .i64 t.lo):=hb 6 _ rfl
 have b7:W.cell? ⟨Bx,7,none⟩=some (.int .i64 t.hi):=hb 7 _ rfl
 have hwW:=hW.size
 obtain ⟨R,hR⟩ : ∃ R:Nat→Prop,R=fun b=>(b≠D0∧b<w.heap.size)∨b=W.heap.size:=⟨_,rfl⟩
 have hRD:∀ b,R b→b≠D0∧b<W.heap.size+1:=by
  intro b hb
  rw [hR] at hb
  rcases hb with ⟨h1,h2⟩ | h1
  ·exact ⟨h1,by omega⟩
  ·exact ⟨by omega,by omega⟩
 have hlW:Laid W R t:=by
  refine hl.keep (fun b hb hn=>by rw [hR];exact .inl ⟨hn,hb⟩) hwW fun b hb _=>hW.block b hb
 have hnd:#[.int .i64 t.kind,.int .u64 (t.set 0:Nat),.int .u64 (t.set 1:Nat),.int .u64 (t.set 2:Nat),.int .u64 (t.set 3:Nat),.slice sa sn sc,.int .i64 t.lo,.int .i64 t.hi]=(ndc t).toArray:=by unfold ndc;rw [hsl]
 obtain ⟨w2,hw2⟩ : ∃ w2,(W.alloc (.cells #[.int .i64 t.kind,.int .u64 (t.set 0:Nat),.int .u64 (t.set 1:Nat),.int .u64 (t.set 2:Nat),.int .u64 (t.set 3:Nat),.slice sa sn sc,.int .i64 t.lo,.int .i64 t.hi] 27)).alloc (.cells #[.slice (some ⟨W.heap.size,0,none⟩) 1 1] 25)=w2:=⟨_,rfl⟩
 have hstart:NRel W R D (preV 1 t) J (2 * (todo [(Value.slice (some ⟨W.heap.size,0,none⟩) 1 1,[t])]).length+1) (.slice (some ⟨W.heap.size+1,0,none⟩) 1 1) w2:=by
  have hc1:Chg (fun _=>False) W w2:=by rw [← hw2];exact ((Chg.refl _ W).alloc _).alloc _
  have e1:w2.heap[W.heap.size]? = some (.cells (ndc t).toArray 27 (0,0)):=by
   rw [← hw2,← hnd]
   exact (Below.heap_alloc _ _ _ (by simp)).trans (heap_alloc_new W _)
  refine ⟨[(.slice (some ⟨W.heap.size,0,none⟩) 1 1,[t])],W.heap.size+1,1,[],rfl,?_,?_,?_,hJ _ _ _ h0 (hc1.mono fun _ _ h=>h.elim),?_,rfl,?_⟩
  ·have:=World.ownsRow_lit (e:=25) (size:=1) (base:=W.heap.size+1) (W.alloc (.cells #[.int .i64 t.kind,.int .u64 (t.set 0:Nat),.int .u64 (t.set 1:Nat),.int .u64 (t.set 2:Nat),.int .u64 (t.set 3:Nat),.slice sa sn sc,.int .i64 t.lo,.int .i64 t.hi] 27)) #[.slice (some ⟨W.heap.size,0,none⟩) 1 1] 1 (by simp) (by unfold maxLen;omega) rfl
   rw [hw2,World.size_alloc] at this
   exact this
  ·intro p hp
   simp at hp
   subst hp
   refine .some 0 zeros 0 0 [t] W.heap.size 0 1 (by rw [hR];exact .inr rfl) (Array.getElem?_eq_some_iff.1 e1).1 (Nat.le_refl _) (fun i u hu j x hx=>?_) fun u hu=>?_
   ·have hi0:i=0:=by have:=(List.getElem?_eq_some_iff.1 hu).1;simpa using this
    subst hi0
    simp at hu
    subst hu
    rw [Nat.zero_mul,Nat.zero_add,(row_cells e1).1 j,List.getElem?_toArray]
    exact hx
   ·simp at hu
    subst hu
    exact hlW.chg hc1 fun _ _ _ h=>h
  ·show preV 1 t=[] ++ (presV 1 [t] ++ [])
   rw [presV,presV,List.append_nil,List.append_nil,List.nil_append]
  ·refine ⟨?_,trivial⟩
   show dptsV [t] + 0≤D
   rw [dptsV,dptsV]
   omega
  ·rw [← hw2];simp
 have HW2:=Lib.hid hw2
 have HST:=Lib.hid hstart
 have HR:=Lib.hid hRD
 have HJ:=Lib.hid hJ
 have HY:=Lib.hid hY
 clear hstart hb hl hl0 hR hRD hlW hnd hJ hY hJx hbox hW h0
 refine callsIn_of_wp Tryd.func81 rfl trivial ?_ rfl
 simp only [Tryd.ntmps81,List.size_toArray,List.length_cons,List.length_nil,Nat.reduceAdd,Nat.reduceSub,Array.replicate_succ,Array.replicate_zero,List.push_toArray,List.append_toArray,List.nil_append,List.cons_append]
 gi_wp2
 gi_loopw [3] (fun rest wr=>∃ n,NRel W R D (preV 1 t) J n rest wr) (fun rest wr=>leastOf (fun n=>NRel W R D (preV 1 t) J n rest wr))
 case atStart =>
  exact ⟨_,HST.out⟩
 case round =>
  clear b0 b1 b2 b3 b4 b5 b6 b7
  have hls:=(leastOf_spec hrel).1
  obtain ⟨st,g,cap,pre,rfl,hown,hrows,hxs,hJs,hok,hN,hsz⟩:=hls
  have HN:=Lib.hid hN
  have HXS:=Lib.hid hxs
  clear hN hxs hrel hw2
  obtain ⟨i0,hi,hz0,hz1,hz2⟩:=info_parts info25
  cases st with
  | nil =>
   have HXS2:Hid (pre=preV 1 t):=Lib.hid (by rw [HXS.out];simp [todo])
   clear hown hrows hok
   gi_wp2
   go_end0
   exact ⟨⟨_,rfl⟩,.inl (by rw [← HXS2.out];exact hJs)⟩
  | cons p st =>
   obtain ⟨v,row⟩:=p
   have hrow:=hrows (v,row) (by simp)
   have hgl:=(hown.lt g rfl).2
   have hg1:=(hown.lt g rfl).1
   have hlen:=okd_len hok
   have hcell:wr.cell? ⟨g,st.length,none⟩=some v:=by
    have:=hown.cellAt st.length (by simp)
    rw [this,List.map_cons,List.reverse_cons,List.getElem?_append_right (by simp)]
    simp
   have m1:(0:Int)≤(st.length:Int):=by omega
   have m2:(0:Int)<(st.length:Int)+1:=by omega
   have m3:(st.length:Int)<(st.length:Int)+1:=by omega
   have m4:(st.length:Int)≤2000000:=by simp only [List.length_cons] at hlen;omega
   cases row with
   | nil =>
    obtain ⟨ra,rc,rfl⟩:=laid_nil hrow
    have hcap:(st.length:Int)≤(cap:Int):=by
     rcases hown.2 with ⟨h1,_⟩ | ⟨g',cap',cur,hv,_,_,hle,_⟩
     ·cases h1
     ·simp only [Value.slice.injEq,List.length_cons] at hv hle;omega
    have hpop:NRel W R D (preV 1 t) J (2 * (todo st).length+st.length) (.slice (some ⟨g,0,none⟩) st.length cap) wr:=by
     refine ⟨st,g,cap,pre,rfl,?_,fun p hp=>hrows p (by simp [hp]),?_,hJs,hok.2,rfl,hsz⟩
     ·rw [List.map_cons,List.reverse_cons] at hown
      exact ownsRow_pop (by simp) hown
     ·rw [HXS.out,todo_nil]
    have HP:=Lib.hid hpop
    clear hpop hrows hrow hown hok hJs
    gi_wp2
    go_roundw
    case rel=>exact ⟨_,HP.out⟩
    case measure =>
     rw [HN.out]
     refine Nat.lt_of_le_of_lt ((leastOf_spec ⟨_,HP.out⟩).2 _ HP.out) ?_
     rw [todo_nil]
     simp only [List.length_cons]
     omega
   | cons u us =>
    obtain ⟨b,off,rcap,rfl⟩:=laid_row hrow
    obtain ⟨htail,hlu,hcu,hblt,hbR,hrcap⟩:=laid_tail hrow
    obtain ⟨ua,un,uc,husl⟩:=hlu.slice
    have hbD:=HR.out b hbR
    have hbg:b≠g:=by omega
    have hgb:g≠b:=by omega
    have hgD:g≠D0:=by omega
    have e0:wr.cell? ⟨b,off,none⟩=some (.int .i64 u.kind):=hcu 0 _ rfl
    have e1:wr.cell? ⟨b,off+1,none⟩=some (.int .u64 (u.set 0:Nat)):=hcu 1 _ rfl
    have e2:wr.cell? ⟨b,off+2,none⟩=some (.int .u64 (u.set 1:Nat)):=hcu 2 _ rfl
    have e3:wr.cell? ⟨b,off+3,none⟩=some (.int .u64 (u.set 2:Nat)):=hcu 3 _ rfl
    have e4:wr.cell? ⟨b,off+4,none⟩=some (.int .u64 (u.set 3:Nat)):=hcu 4 _ rfl
    have e5:wr.cell? ⟨b,off+5,none⟩=some (.slice ua un uc):=hcu 5 _ (by rw [← husl];rfl)
    have e6:wr.cell? ⟨b,off+6,none⟩=some (.int .i64 u.lo):=hcu 6 _ rfl
    have e7:wr.cell? ⟨b,off+7,none⟩=some (.int .i64 u.hi):=hcu 7 _ rfl
    have u1:(0:Int)≤(us.length:Int):=by omega
    have u2:(0:Int)<(us.length:Int)+1:=by omega
    have u3:((us.length:Int)+1 == 0)=false:=by simp;omega
    have u4:¬ (us.length:Int)+1=0:=by omega
    have u5:(1:Int)≤(us.length:Int)+1:=by omega
    have u6:(us.length:Int)+1≤(rcap:Int):=by omega
    obtain ⟨fn,tmps,assign,body,hy,hRn⟩:=HY.out pre (st.length+1,u) wr hJs ⟨_,by rw [HXS.out,todo_cons (v':=.slice (some ⟨b,off+8,none⟩) us.length (rcap - 1))]⟩
    unfold encsV nodeAgg at hy
    simp only at hy
    rw [husl,show ((st.length+1:Nat):Int)=(st.length:Int)+1 by omega] at hy
    have HTL:=Lib.hid (And.intro hown (And.intro htail (And.intro hlu (And.intro hrows hok))))
    have HUS:=Lib.hid husl
    have HRC:=Lib.hid hrcap
    clear hown htail hlu hrows hok hrow hcu husl hJs hrcap
    by_cases hc1:rcap=1
    ·have hus:us=[]:=by have:=HRC.out;cases us with
      | nil=>rfl
      | cons x xs=>simp only [List.length_cons] at this;omega
     subst hus
     subst hc1
     gi_wp2
     refine ⟨(fun h=>by cases h),hRn.mono ?_⟩
     rintro e W3 (⟨rfl,hJ3,hk3⟩ | ⟨rfl,hJx3⟩)
     ·obtain ⟨hown,htail,hlu,hrows,hok⟩:=HTL.out
      have hown3:=hk3.own hown (by simp [Value.ownBlock];exact hgD)
      have hfz3:W3.frozen? ⟨g,st.length,none⟩=false:=hown3.frozenAt _
      have hce3:=hk3.cell hcell hgD
      have hpa3:=hk3.cell e5 hbD.1
      have hgl3:=(hown3.lt g rfl).2
      have hst3:=own_top (.slice (some ⟨b,off,none⟩) 0 0) hown3
      have HS3:=Lib.hid hst3
      have hb3:W.heap.size+1≤W3.heap.size:=Nat.le_trans hsz hk3.1
      have hgc:=World.ownsRow.lt hown3 g rfl
      have hk3s:=hk3.1
      have HK3:=Lib.hid hk3
      have hlen3:st.length+1≤D+1:=by simpa using hlen
      clear hown htail hlu hrows hok hst3 hown3 hk3
      gi_wp2_with ((gi_at_builtin;refine wpListIn_append_own _ rfl _ _ 143 rfl (W.heap.size+1) 25 i0 (.slice none 0 0) 1 24 Tryd.underlying143 hi hz0 hz1 hz2 rfl (by decide) (.slice (some ⟨g,0,none⟩) (st.length+1) cap) (st.length+1) ((st.map Prod.fst).reverse ++ [.slice (some ⟨b,off,none⟩) 0 0]) rfl (HS3.out.alloc _) ⟨W3.heap.size,0,none⟩ 1 1 [.slice ua un uc] rfl rfl ?n1 (by simp [Value.oneCell']) ?n2 ?n3 ?n4 ?_))
      case n1 =>
       have:=cell_one_new (W3.setCell ⟨g,st.length,none⟩ (.slice (some ⟨b,off,none⟩) 0 0)) (.slice ua un uc) 25
       simp only [World.size_setCell] at this
       exact this
      case n2=>unfold maxLen;omega
      case n3=>omega
      case n4=>simp;omega
      intro v5 W5 hown5 hgrow5 _
      obtain ⟨g5,cap5,rfl⟩:=ownsRow_succ hown5
      have hc5:Chg (fun k=>k=g) W3 W5:=(((Chg.refl (fun k=>k=g) W3).setCell (p:=⟨g,st.length,none⟩) (fun _=>rfl) (.slice (some ⟨b,off,none⟩) 0 0)).alloc (.cells #[.slice ua un uc] 25)).grown hgrow5 (fun k hk _=>by injection hk with hk;exact hk.symm)
      obtain ⟨hown,htail,hlu,hrows,hok⟩:=HTL.out
      have hnew:=nrel_step HR.out HJ.out HK3.out hrows (laid_null wr R _ _) hlu hok HXS.out hJ3 hg1 hc5 hsz (by rw [HUS.out,List.append_assoc];exact hown5)
      have HNEW:=Lib.hid hnew
      clear hnew hown htail hlu hrows hok hc5 hown5 hgrow5 hJ3
      gi_wp2
      go_roundw
      case rel=>exact ⟨_,HNEW.out⟩
      case measure =>
       rw [HN.out]
       refine Nat.lt_of_le_of_lt ((leastOf_spec ⟨_,HNEW.out⟩).2 _ HNEW.out) ?_
       rw [todo_cons (v':=.slice (some ⟨b,off,none⟩) 0 0)]
       simp only [List.length_cons]
       omega
     ·gi_wp2
      refine bodyPost_ret (results_none rfl _ _ _) rfl ?_
      exact ⟨⟨_,rfl⟩,.inr ⟨pre,(st.length+1,u),_,by rw [HXS.out,todo_cons (v':=.slice none 0 0)],hJx3⟩⟩
    ·have hc2:((1:Int) == (rcap:Int))=false:=by simp;omega
     have hc3:¬ (1:Int)=(rcap:Int):=by omega
     gi_wp2
     refine ⟨(fun h=>by cases h),hRn.mono ?_⟩
     rintro e W3 (⟨rfl,hJ3,hk3⟩ | ⟨rfl,hJx3⟩)
     ·obtain ⟨hown,htail,hlu,hrows,hok⟩:=HTL.out
      have hown3:=hk3.own hown (by simp [Value.ownBlock];exact hgD)
      have hfz3:W3.frozen? ⟨g,st.length,none⟩=false:=hown3.frozenAt _
      have hce3:=hk3.cell hcell hgD
      have hpa3:=hk3.cell e5 hbD.1
      have hgl3:=(hown3.lt g rfl).2
      have hst3:=own_top (.slice (some ⟨b,off+8,none⟩) us.length (rcap - 1)) hown3
      have HS3:=Lib.hid hst3
      have hb3:W.heap.size+1≤W3.heap.size:=Nat.le_trans hsz hk3.1
      have hgc:=World.ownsRow.lt hown3 g rfl
      have hk3s:=hk3.1
      have HK3:=Lib.hid hk3
      have hlen3:st.length+1≤D+1:=by simpa using hlen
      clear hown htail hlu hrows hok hst3 hown3 hk3
      gi_wp2_with ((gi_at_builtin;refine wpListIn_append_own _ rfl _ _ 143 rfl (W.heap.size+1) 25 i0 (.slice none 0 0) 1 24 Tryd.underlying143 hi hz0 hz1 hz2 rfl (by decide) (.slice (some ⟨g,0,none⟩) (st.length+1) cap) (st.length+1) ((st.map Prod.fst).reverse ++ [.slice (some ⟨b,off+8,none⟩) us.length (rcap - 1)]) rfl (HS3.out.alloc _) ⟨W3.heap.size,0,none⟩ 1 1 [.slice ua un uc] rfl rfl ?n1 (by simp [Value.oneCell']) ?n2 ?n3 ?n4 ?_))
      case n1 =>
       have:=cell_one_new (W3.setCell ⟨g,st.length,none⟩ (.slice (some ⟨b,off+8,none⟩) us.length (rcap - 1))) (.slice ua un uc) 25
       simp only [World.size_setCell] at this
       exact this
      case n2=>unfold maxLen;omega
      case n3=>omega
      case n4=>simp;omega
      intro v5 W5 hown5 hgrow5 _
      obtain ⟨g5,cap5,rfl⟩:=ownsRow_succ hown5
      have hc5:Chg (fun k=>k=g) W3 W5:=(((Chg.refl (fun k=>k=g) W3).setCell (p:=⟨g,st.length,none⟩) (fun _=>rfl) (.slice (some ⟨b,off+8,none⟩) us.length (rcap - 1))).alloc (.cells #[.slice ua un uc] 25)).grown hgrow5 (fun k hk _=>by injection hk with hk;exact hk.symm)
      obtain ⟨hown,htail,hlu,hrows,hok⟩:=HTL.out
      have hnew:=nrel_step HR.out HJ.out HK3.out hrows (htail) hlu hok HXS.out hJ3 hg1 hc5 hsz (by rw [HUS.out,List.append_assoc];exact hown5)
      have HNEW:=Lib.hid hnew
      clear hnew hown htail hlu hrows hok hc5 hown5 hgrow5 hJ3
      gi_wp2
      go_roundw
      case rel=>exact ⟨_,HNEW.out⟩
      case measure =>
       rw [HN.out]
       refine Nat.lt_of_le_of_lt ((leastOf_spec ⟨_,HNEW.out⟩).2 _ HNEW.out) ?_
       rw [todo_cons (v':=.slice (some ⟨b,off+8,none⟩) us.length (rcap - 1))]
       simp only [List.length_cons]
       omega
     ·gi_wp2
      refine bodyPost_ret (results_none rfl _ _ _) rfl ?_
      exact ⟨⟨_,rfl⟩,.inr ⟨pre,(st.length+1,u),_,by rw [HXS.out,todo_cons (v':=.slice none 0 0)],hJx3⟩⟩
end Go.Proofs.YtbohmcfplgdlpaaDoor
