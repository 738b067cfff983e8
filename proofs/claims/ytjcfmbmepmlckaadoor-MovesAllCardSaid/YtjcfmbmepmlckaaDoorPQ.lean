/- What a concatenation ends with behind so many parts: what a part ends with behind which all are nullable.
   Conditions: the parts are formed. -/
import Derived.Test.YtjcfmbmepmlckaaDoorPM
import Derived.Deep.DeepCutAuto
import Derived.Deep.RegionHeld3
import Derived.Test.YtjcfmbmepmlckaaDoorPE
import Derived.Maps.AppendAt
import Derived.Test.YtjcfmbmepmlckaaDoorPC

/- The document's Has and Ahead: whether a move is among edges, whether one is ahead of another.
   Conditions: the edges lie in memory. -/
namespace Go.Proofs.YtjcfmbmepmlckaaDoor
open Go.RowKit Go.Shelf
def edc (s:St):List Value:=[.int .i64 s.fr,.int .i64 s.tt,.int .i64 s.kp,.bool s.ag]
theorem edcs_len (l:List St):(l.flatMap edc).length=l.length * 4:=by
  induction l with
  | nil=>rfl
  | cons f l ih=>rw [List.flatMap_cons,List.length_append,ih,List.length_cons];show 4+_=_;omega
abbrev EdR (w:World) (B:Nat) (v:Value) (l:List St):Prop:=w.ownsRow B 54 4 v l.length (l.flatMap edc)
theorem edc_get (l:List St):∀ (k:Nat) (s:St),l[k]? = some s→∀ j,j<4→(l.flatMap edc)[k * 4+j]? = (edc s)[j]?:=by
  induction l with
  | nil=>intro k s h;simp at h
  | cons f l ih =>
    intro k s h j hj
    rw [List.flatMap_cons]
    cases k with
    | zero =>
      obtain rfl:f=s:=by simpa using h
      rw [List.getElem?_append_left (by show _<4;omega)]
      congr 1
      omega
    | succ k =>
      have h':l[k]? = some s:=by simpa using h
      rw [List.getElem?_append_right (by show 4≤_;omega)]
      rw [← ih k s h' j hj]
      congr 1
      show (k+1) * 4+j - 4=_
      omega
theorem edR_at {w:World} {B:Nat} {A:Option Addr} {n c:Nat} {l:List St} (h:EdR w B (.slice A n c) l) {k:Nat} {s:St} (hk:l[k]? = some s) :
    ∃ g,A=some ⟨g,0,none⟩∧g<w.heap.size∧w.cell? ⟨g,k * 4,none⟩=some (.int .i64 s.fr)∧w.cell? ⟨g,k * 4+1,none⟩=some (.int .i64 s.tt)∧w.cell? ⟨g,k * 4+2,none⟩=some (.int .i64 s.kp)∧w.cell? ⟨g,k * 4+3,none⟩=some (.bool s.ag):=by
  have hn:n=l.length:=own_n h
  subst hn
  have hkl:k<l.length:=(List.getElem?_eq_some_iff.1 hk).1
  have h':w.ownsRow B 54 4 (.slice A l.length c) l.length (l.flatMap edc):=h
  obtain ⟨g,cap,e,_⟩:=h'.form (by omega)
  simp only [Value.slice.injEq] at e
  obtain ⟨rfl,_,rfl⟩:=e
  have hc:∀ j,j<4→w.cell? ⟨g,k * 4+j,none⟩=(edc s)[j]?:=fun j hj=>by
    rw [h'.cellAt (k * 4+j) (by omega),edc_get l k s hk j hj]
  exact ⟨g,rfl,(h'.lt g rfl).2,hc 0 (by omega),hc 1 (by omega),hc 2 (by omega),hc 3 (by omega)⟩
set_option maxHeartbeats 2000000 in
set_option maxRecDepth 100000 in
theorem has_any (w:World) (B:Nat) (A:Option Addr) (n c:Nat) (l:List St) (s:St) (hs:s∈l) (h:EdR w B (.slice A n c) l) :
    Calls Tryd.prog 10 #[.slice A n c,.int .i64 s.fr,.agg #[.int .i64 s.tt,.int .i64 s.kp,.bool s.ag]] w fun e w'=>e=.returned (.bool true)∧Below w.heap.size w w':=by
  have hn:n=l.length:=own_n h
  have hmax:n≤9223372036854775807:=by rw [hn];exact own_max h
  obtain ⟨w2,hw2⟩ : ∃ w2,w.alloc (.cells #[.int .i64 s.tt,.int .i64 s.kp,.bool s.ag] 51)=w2:=⟨_,rfl⟩
  have hb2:Below w.heap.size w w2:=hw2▸(Below.refl _ w).alloc (Nat.le_refl _) _
  have hmp:=(row_cells (hw2▸heap_alloc_new w _:w2.heap[w.heap.size]? = some (.cells #[.int .i64 s.tt,.int .i64 s.kp,.bool s.ag] 51 (0,0)))).1
  have p0:=hmp 0;have p1:=hmp 1;have p2:=hmp 2
  have hlt:w.heap.size<w2.heap.size:=by rw [← hw2];simp
  have HC:=Lib.hid (fun (W:World) (h:Below w2.heap.size w2 W)=>show W.cell? ⟨w.heap.size,0,none⟩=some (.int .i64 s.tt)∧W.cell? ⟨w.heap.size,1,none⟩=some (.int .i64 s.kp)∧W.cell? ⟨w.heap.size,2,none⟩=some (.bool s.ag) from
    ⟨(h.cell (p:=⟨w.heap.size,0,none⟩) hlt).trans p0,(h.cell (p:=⟨w.heap.size,1,none⟩) hlt).trans p1,(h.cell (p:=⟨w.heap.size,2,none⟩) hlt).trans p2⟩)
  have HB2:=Lib.hid hb2
  have HH:=Lib.hid (And.intro h (And.intro hs hn))
  clear hmp p0 p1 p2 hlt hb2 h hs hn
  go_enter Tryd.func10,Tryd.ntmps10
  go_upto_region 1 with fail
  clear hw2
  go_wp2_with fail
  go_loopw [7] (fun x wr=>∃ c,(∃ i:Nat,x=.int .i64 i∧c=n - i∧i≤n∧s ∉ l.take i∧Below w2.heap.size w2 wr)) (fun x wr=>leastOf (fun c=>∃ i:Nat,x=.int .i64 i∧c=n - i∧i≤n∧s ∉ l.take i∧Below w2.heap.size w2 wr))
  case atStart=>exact ⟨_,0,rfl,rfl,by omega,by simp,Below.refl _ _⟩
  case round =>
    have hls:=(leastOf_spec hrel).1
    obtain ⟨i,rfl,hN,hi,hni,hb⟩:=hls
    have HN:=Lib.hid hN
    have HI:=Lib.hid (And.intro hni hb)
    obtain ⟨p0,p1,p2⟩:=HC.out wr hb
    clear hN hrel hni
    have v1:(0:Int)≤(i:Int):=by omega
    by_cases hin:i<n
    · have v2:(i:Int)<(n:Int):=by omega
      obtain ⟨y,hy⟩ : ∃ y,l[i]? = some y:=⟨_,List.getElem?_eq_getElem (by have:=HH.out.2.2;omega)⟩
      obtain ⟨g,rfl,hg,x0,x1,x2,x3⟩:=edR_at (show EdR wr B _ l from own_chg HH.out.1 (Chg.of_below (R:=fun _=>False) (bhop HB2.out hb)) fun _ _=>id) hy
      have HY:=Lib.hid hy
      by_cases he:y=s
      · subst he
        clear hb hy
        go_wp2_with fail
        go_quiet (fail)
        go_wp2_with fail
        go_ret
        exact ⟨rfl,bhop HB2.out (below_drewN HI.out.2 _)⟩
      · have HP:=Lib.hid (fun (W:World) (h:Below w2.heap.size w2 W)=>show ∃ i':Nat,Value.int .i64 ((i:Int)+1)=.int .i64 i'∧n - (i+1)=n - i'∧i'≤n∧s ∉ l.take i'∧Below w2.heap.size w2 W from ⟨i+1,by push_cast;rfl,rfl,by omega,by
            rw [List.take_add_one,HY.out]
            intro hm
            rcases List.mem_append.1 hm with hm | hm
            · exact HI.out.1 hm
            · exact he (by simpa using hm:s=y).symm,h⟩)
        have HLT:=Lib.hid (show n - (i+1)<n - i by omega)
        clear hb hy
        by_cases hf:y.fr=s.fr
        · have hf':((y.fr:Int) == (s.fr:Int))=true:=by simp [hf]
          have hq:∃ b1 b2 b3:Bool,((y.tt:Int) == (s.tt:Int))=b1∧((y.kp:Int) == (s.kp:Int))=b2∧(y.ag == s.ag)=b3∧(b1 && b2 && b3)=false:=by
            refine ⟨_,_,_,rfl,rfl,rfl,?_⟩
            by_cases h1:y.tt=s.tt
            · by_cases h2:y.kp=s.kp
              · by_cases h3:y.ag=s.ag
                · exact absurd (by cases y;cases s;simp_all) he
                · simp [h3]
              · have:¬ (y.kp:Int)=(s.kp:Int):=by omega
                simp [this]
            · have:¬ (y.tt:Int)=(s.tt:Int):=by omega
              simp [this]
          obtain ⟨b1,b2,b3,e1,e2,e3,e4⟩:=hq
          clear hf he
          cases b1 <;> cases b2 <;> cases b3
          all_goals
            first
              | (exfalso;revert e4;decide)
              | (clear e4
                 go_wp2_with fail
                 go_quiet (fail)
                 go_wp2_with fail
                 go_roundw
                 case rel=>exact ⟨_,HP.out _ (below_drewN HI.out.2 _)⟩
                 case measure =>
                   rw [HN.out]
                   exact Nat.lt_of_le_of_lt ((leastOf_spec ⟨_,HP.out _ (below_drewN HI.out.2 _)⟩).2 _ (HP.out _ (below_drewN HI.out.2 _))) HLT.out)
        · have hf':((y.fr:Int) == (s.fr:Int))=false:=by simp;omega
          clear hf he
          go_wp2_with fail
          go_quiet (fail)
          go_wp2_with fail
          go_roundw
          case rel=>exact ⟨_,HP.out _ (below_drewN HI.out.2 _)⟩
          case measure =>
            rw [HN.out]
            exact Nat.lt_of_le_of_lt ((leastOf_spec ⟨_,HP.out _ (below_drewN HI.out.2 _)⟩).2 _ (HP.out _ (below_drewN HI.out.2 _))) HLT.out
    · exfalso
      have h1:l.take i=l:=List.take_of_length_le (by have:=HH.out.2.2;omega)
      have h2:=HI.out.1
      rw [h1] at h2
      exact h2 HH.out.2.1
end Go.Proofs.YtjcfmbmepmlckaaDoor

/- The document's Ahead: of two moves in order it is told that the first is ahead.
   No condition. -/
namespace Go.Proofs.YtjcfmbmepmlckaaDoor
open Go.RowKit Go.Shelf
set_option maxHeartbeats 2000000 in
set_option maxRecDepth 100000 in
theorem ahead_any (w:World) (x y:Mv) (h:mvLt x y) :
  Calls Tryd.prog 11 #[.agg #[.int .i64 x.tt,.int .i64 x.kp,.bool x.ag],.agg #[.int .i64 y.tt,.int .i64 y.kp,.bool y.ag]] w fun e w'=>e=.returned (.bool true)∧Below w.heap.size w w':=by
 obtain ⟨w2,hw2⟩ : ∃ w2,(w.alloc (.cells #[.int .i64 x.tt,.int .i64 x.kp,.bool x.ag] 51)).alloc (.cells #[.int .i64 y.tt,.int .i64 y.kp,.bool y.ag] 51)=w2:=⟨_,rfl⟩
 have hb2:Below w.heap.size w w2:=hw2▸((Below.refl _ w).alloc (Nat.le_refl _) _).alloc (by simp) _
 have e1:w2.heap[w.heap.size]? = some (.cells #[.int .i64 x.tt,.int .i64 x.kp,.bool x.ag] 51 (0,0)):=by rw [← hw2];exact (Below.heap_alloc _ _ _ (by simp)).trans (heap_alloc_new w _)
 have e2:w2.heap[w.heap.size+1]? = some (.cells #[.int .i64 y.tt,.int .i64 y.kp,.bool y.ag] 51 (0,0)):=by
  rw [← hw2]
  have:=heap_alloc_new (w.alloc (.cells #[.int .i64 x.tt,.int .i64 x.kp,.bool x.ag] 51)) (.cells #[.int .i64 y.tt,.int .i64 y.kp,.bool y.ag] 51)
  rw [World.size_alloc] at this
  exact this
 have p0:=(row_cells e1).1 0;have p1:=(row_cells e1).1 1;have p2:=(row_cells e1).1 2
 have r0:=(row_cells e2).1 0;have r1:=(row_cells e2).1 1;have r2:=(row_cells e2).1 2
 clear e1 e2
 have HB:=Lib.hid hb2
 clear hb2
 go_enter Tryd.func11,Tryd.ntmps11
 go_upto_region 1 with fail
 clear hw2
 rcases h with h | ⟨h,hk | ⟨h',h1,h2⟩⟩
 ·have f1:((x.tt:Int) == (y.tt:Int))=false:=by simp;omega
  have f2:(x.tt:Int)<(y.tt:Int):=by omega
  clear h
  go_wp2_with fail
  go_ret
  exact ⟨rfl,HB.out⟩
 ·rw [h] at p0
  have f1:((x.kp:Int) == (y.kp:Int))=false:=by simp;omega
  have f2:(x.kp:Int)<(y.kp:Int):=by omega
  clear h hk
  go_wp2_with fail
  go_ret
  exact ⟨rfl,HB.out⟩
 ·rw [h] at p0
  rw [h'] at p1
  rw [h1] at p2
  rw [h2] at r2
  clear h h' h1 h2
  go_wp2_with fail
  go_ret
  exact ⟨rfl,HB.out⟩
end Go.Proofs.YtjcfmbmepmlckaaDoor

/- The document's cross: edges from all of some positions to all of others, behind those that are there.
   Conditions: the edges and the positions lie in memory. -/
namespace Go.Proofs.YtjcfmbmepmlckaaDoor
open Go.RowKit Go.Shelf
theorem infoEd:(Tryd.prog.info? 54).map (fun i=>(i.zero,i.size,i.bytes))=some (some (.agg #[.int .i64 0,.int .i64 0,.int .i64 0,.bool false]),4,32):=by kernel_rfl
structure CrI (w w2:World) (B:Nat) (v0:Value) (l:List St) (X Y kp:Nat) (ag:Bool) (a b:Nat) (v:Value) (l':List St) (wr:World):Prop where
 own:EdR wr B v l'
 mem:∀ s,s∈l'↔s∈l∨(X.testBit s.fr=true∧Y.testBit s.tt=true∧s.tt<200∧(s.fr<a∨s.fr=a∧s.tt<b)∧s.kp=kp∧s.ag=ag)
 len:l'.length≤l.length+(a * 200+b)
 chg:Chg (fun x=>v0.ownBlock=some x) w2 wr
 blk:v.ownBlock=v0.ownBlock∨∃ g,v.ownBlock=some g∧w2.heap.size≤g
variable {w w2 wr:World} {B:Nat} {v0 v:Value} {l l':List St} {X Y kp:Nat} {ag:Bool} {a b:Nat}
theorem CrI.skip (h:CrI w w2 B v0 l X Y kp ag a b v l' wr) (hb:¬ (X.testBit a=true∧Y.testBit b=true)):CrI w w2 B v0 l X Y kp ag a (b+1) v l' wr :=
 ⟨h.own,fun s=>by
  rw [h.mem s]
  refine or_congr Iff.rfl ⟨fun ⟨h1,h2,h3,h4,h5⟩=>⟨h1,h2,h3,by omega,h5⟩,fun ⟨h1,h2,h3,h4,h5⟩=>⟨h1,h2,h3,?_,h5⟩⟩
  rcases h4 with h4 | ⟨h4,h6⟩
  ·exact .inl h4
  ·by_cases e:s.tt=b
   ·rw [h4] at h1;rw [e] at h2;exact absurd ⟨h1,h2⟩ hb
   ·exact .inr ⟨h4,by omega⟩,by have:=h.len;omega,h.chg,h.blk⟩
theorem CrI.next (h:CrI w w2 B v0 l X Y kp ag a 200 v l' wr):CrI w w2 B v0 l X Y kp ag (a+1) 0 v l' wr :=
 ⟨h.own,fun s=>by
  rw [h.mem s]
  refine or_congr Iff.rfl ⟨?_,?_⟩
  ·rintro ⟨h1,h2,h3,h4,h5⟩
   exact ⟨h1,h2,h3,by omega,h5⟩
  ·rintro ⟨h1,h2,h3,h4,h5⟩
   exact ⟨h1,h2,h3,by omega,h5⟩,by have:=h.len;omega,h.chg,h.blk⟩
theorem CrI.push {w5:World} {v':Value} {ob:Obj} (h:CrI w w2 B v0 l X Y kp ag a b v l' wr) (hx:X.testBit a=true) (hy:Y.testBit b=true) (hb:b<200)
  (hown:w5.ownsRow B 54 4 v' (l'.length+1) (l'.flatMap edc ++ edc ⟨a,b,kp,ag⟩)) (hg:(wr.alloc ob).grownBy w5 v.ownBlock) (hloc:v'.ownBlock=v.ownBlock∨v'.ownBlock=some (wr.alloc ob).heap.size) :
  CrI w w2 B v0 l X Y kp ag a (b+1) v' (l' ++ [⟨a,b,kp,ag⟩]) w5:=by
 refine ⟨?_,fun s=>?_,?_,?_,?_⟩
 ·show w5.ownsRow B 54 4 v' (l' ++ [(⟨a,b,kp,ag⟩ : St)]).length ((l' ++ [(⟨a,b,kp,ag⟩ : St)]).flatMap edc)
  rw [List.length_append,List.flatMap_append]
  simpa using hown
 ·rw [List.mem_append,h.mem s,List.mem_singleton]
  constructor
  ·rintro ((h1 | ⟨h1,h2,h3,h4,h5⟩) | rfl)
   ·exact .inl h1
   ·exact .inr ⟨h1,h2,h3,by omega,h5⟩
   ·exact .inr ⟨hx,hy,hb,.inr ⟨rfl,Nat.lt_succ_self _⟩,rfl,rfl⟩
  ·rintro (h1 | ⟨h1,h2,h3,h4,h5,h6⟩)
   ·exact .inl (.inl h1)
   ·rcases h4 with h4 | ⟨h4,h7⟩
    ·exact .inl (.inr ⟨h1,h2,h3,.inl h4,h5,h6⟩)
    ·by_cases e:s.tt=b
     ·exact .inr (by cases s;simp_all)
     ·exact .inl (.inr ⟨h1,h2,h3,.inr ⟨h4,by omega⟩,h5,h6⟩)
 ·rw [List.length_append]
  have:=h.len
  simp
  omega
 ·have h1:Chg (fun x=>v0.ownBlock=some x) w2 (wr.alloc ob):=h.chg.trans (Chg.of_below (R:=fun x=>v0.ownBlock=some x) ((Below.refl _ wr).alloc (Nat.le_refl _) _)) fun _ _ e=>e
  refine h1.grown hg fun k hk hlt=>?_
  rcases h.blk with e | ⟨g,e,hge⟩
  ·rw [← e];exact hk
  ·rw [hk] at e
   have:=Option.some.inj e
   omega
 ·rcases hloc with e | e
  ·rw [e];exact h.blk
  ·exact .inr ⟨_,e,by have:=h.chg.size;simp;omega⟩
set_option maxHeartbeats 4000000 in
set_option maxRecDepth 100000 in
theorem cross_any (w:World) (B:Nat) (v0:Value) (l:List St) (fb tb X Y t0 kp:Nat) (ag:Bool) (h:EdR w B v0 l) (hB:B≤w.heap.size) (hX:B200 w fb X) (hY:B200 w tb Y) (hlen:l.length≤1000000000000) :
  Calls Tryd.prog 22 #[v0,.slice (some ⟨fb,0,none⟩) 200 200,.slice (some ⟨tb,0,none⟩) 200 200,.agg #[.int .i64 t0,.int .i64 kp,.bool ag]] w fun e w'=>∃ v l',e=.returned v∧EdR w' B v l' ∧
   (∀ s,s∈l'↔s∈l∨(X.testBit s.fr=true∧Y.testBit s.tt=true∧s.tt<200∧s.fr<200∧s.kp=kp∧s.ag=ag))∧l'.length≤l.length+40000∧Chg (fun x=>v0.ownBlock=some x) w w'∧(v.ownBlock=v0.ownBlock∨∃ g,v.ownBlock=some g∧w.heap.size≤g):=by
 obtain ⟨i0,hi,hz0,hz1,hz2⟩:=info_parts infoEd
 obtain ⟨w2,hw2⟩ : ∃ w2,w.alloc (.cells #[.int .i64 t0,.int .i64 kp,.bool ag] 51)=w2:=⟨_,rfl⟩
 have hb2:Below w.heap.size w w2:=hw2▸(Below.refl _ w).alloc (Nat.le_refl _) _
 have hat:=(hw2▸heap_alloc_new w _:w2.heap[w.heap.size]? = some (.cells #[.int .i64 t0,.int .i64 kp,.bool ag] 51 (0,0)))
 have hlt:w.heap.size<w2.heap.size:=by rw [← hw2];simp
 have hcg:Chg (fun x=>v0.ownBlock=some x) w w2:=Chg.of_below (R:=fun x=>v0.ownBlock=some x) hb2
 have hown:∀ x,v0.ownBlock=some x→x≠fb∧x≠tb∧x≠w.heap.size:=fun x hx=>by
  have h1:=own_ty h hx
  refine ⟨fun e=>?_,fun e=>?_,fun e=>?_⟩
  ·subst e
   have:=h1.eq ⟨_,_,hX⟩;revert this;decide
  ·subst e
   have:=h1.eq ⟨_,_,hY⟩;revert this;decide
  ·have:=(h.lt x hx).2;omega
 have HR:=Lib.hid (fun (W:World) (hc:Chg (fun x=>v0.ownBlock=some x) w2 W)=>show B200 W fb X∧B200 W tb Y∧W.cell? ⟨w.heap.size,1,none⟩=some (.int .i64 kp)∧W.cell? ⟨w.heap.size,2,none⟩=some (.bool ag) from by
  have k1:=hX.below hb2
  have k2:=hY.below hb2
  refine ⟨(hc.block fb (Array.getElem?_eq_some_iff.1 k1).1 fun e=>(hown fb e).1 rfl).trans k1,(hc.block tb (Array.getElem?_eq_some_iff.1 k2).1 fun e=>(hown tb e).2.1 rfl).trans k2,?_,?_⟩
  ·exact (World.cell?_of_block (w:=w2) (hc.block _ hlt fun e=>(hown _ e).2.2 rfl)).trans ((row_cells hat).1 1)
  ·exact (World.cell?_of_block (w:=w2) (hc.block _ hlt fun e=>(hown _ e).2.2 rfl)).trans ((row_cells hat).1 2))
 have HI0:=Lib.hid (show CrI w w2 B v0 l X Y kp ag 0 0 v0 l w2 from ⟨own_chg h (Chg.of_below (R:=fun _=>False) hb2) fun _ _=>id,fun s=>by simp,by omega,Chg.refl _ _,.inl rfl⟩)
 have HB:=Lib.hid (And.intro hcg (And.intro hB hlt))
 have HLN:=Lib.hid hlen
 clear h hX hY hb2 hat hcg hown hlt hB hlen
 go_enter Tryd.func22,Tryd.ntmps22
 go_upto_region 1 with fail
 clear hw2
 go_wp2_with fail
 go_loopw [0,9] (fun v x wr=>∃ c,(∃ (a:Nat) (l':List St),x=.int .i64 a∧c=200 - a∧a≤200∧CrI w w2 B v0 l X Y kp ag a 0 v l' wr)) (fun v x wr=>leastOf (fun c=>∃ (a:Nat) (l':List St),x=.int .i64 a∧c=200 - a∧a≤200∧CrI w w2 B v0 l X Y kp ag a 0 v l' wr))
 case atStart=>exact ⟨_,0,l,rfl,rfl,by omega,HI0.out⟩
 case round =>
  have hls:=(leastOf_spec hrel).1
  obtain ⟨a,l',rfl,hN,ha,hI⟩:=hls
  have HN:=Lib.hid hN
  have HI:=Lib.hid hI
  clear hN hrel hI
  have s1:(0:Int)≤(a:Int):=by omega
  by_cases ha2:a<200
  ·have s2:(a:Int)<200:=by omega
   go_wp2_with fail
   go_loopw [0,10] (fun v y wr=>∃ c,(∃ (b:Nat) (l':List St),y=.int .i64 b∧c=200 - b∧b≤200∧CrI w w2 B v0 l X Y kp ag a b v l' wr)) (fun v y wr=>leastOf (fun c=>∃ (b:Nat) (l':List St),y=.int .i64 b∧c=200 - b∧b≤200∧CrI w w2 B v0 l X Y kp ag a b v l' wr))
   case atStart=>exact ⟨_,0,l',rfl,rfl,by omega,HI.out⟩
   case round =>
    have hls:=(leastOf_spec hrel).1
    obtain ⟨b,l2,rfl,hN2,hb,hI2⟩:=hls
    have HN2:=Lib.hid hN2
    have HI2:=Lib.hid hI2
    obtain ⟨r1,r2,r3,r4⟩:=HR.out wr hI2.chg
    clear hN2 hrel
    have v1:(0:Int)≤(b:Int):=by omega
    by_cases hb2:b<200
    ·have v2:(b:Int)<200:=by omega
     obtain ⟨c1,c2,c3⟩:=r1.cell ha2
     obtain ⟨d1,d2,d3⟩:=r2.cell hb2
     have HBb:=Lib.hid hb2
     have HLT:=Lib.hid (show 200 - (b+1)<200 - b by omega)
     clear r1 r2 hb hI2
     cases xa:X.testBit a with
     | false =>
      rw [xa] at c1
      clear d1 d2
      go_wp2_with fail
      go_roundw
      case rel=>exact ⟨200 - (b+1),b+1,l2,by push_cast;rfl,rfl,by have:=HBb.out;omega,HI2.out.skip (by simp [xa])⟩
      case measure =>
       rw [HN2.out]
       exact Nat.lt_of_le_of_lt (leastOf_le (n:=200 - (b+1)) ⟨b+1,l2,by push_cast;rfl,rfl,by have:=HBb.out;omega,HI2.out.skip (by simp [xa])⟩) HLT.out
     | true =>
      rw [xa] at c1
      cases yb:Y.testBit b with
      | false =>
       rw [yb] at d1
       go_wp2_with fail
       go_roundw
       case rel=>exact ⟨200 - (b+1),b+1,l2,by push_cast;rfl,rfl,by have:=HBb.out;omega,HI2.out.skip (by simp [yb])⟩
       case measure =>
        rw [HN2.out]
        exact Nat.lt_of_le_of_lt (leastOf_le (n:=200 - (b+1)) ⟨b+1,l2,by push_cast;rfl,rfl,by have:=HBb.out;omega,HI2.out.skip (by simp [yb])⟩) HLT.out
      | true =>
       rw [yb] at d1
       have hl2:l2.length≤1000000050000:=by have h1:=HI2.out.len;have h2:=HLN.out;omega
       have hown:=HI2.out.own
       have hBw:B≤wr.heap.size:=by have h1:=HB.out.1.size;have h2:=HI2.out.chg.size;have h3:=HB.out.2.1;omega
       go_wp2_with (at_builtin;refine wpList_append_own_at _ rfl _ _ 46 rfl B 54 i0 (.agg #[.int .i64 0,.int .i64 0,.int .i64 0,.bool false]) 4 32 Tryd.underlying46 hi hz0 hz1 hz2 rfl (by decide) _ l2.length (l2.flatMap edc) rfl (hown.alloc _) ⟨wr.heap.size,0,none⟩ 1 1 [.int .i64 a,.int .i64 b,.int .i64 kp,.bool ag] rfl rfl (World.news_of_block (heap_alloc_new wr _)) (by simp [Value.oneCell']) (by unfold maxLen;omega) (by omega) (by simp;omega) ?_;intro v' w5 hown5 hgrow5 hnil5 hloc5)
       have HP:=Lib.hid (HI2.out.push xa yb HBb.out hown5 hgrow5 hloc5)
       clear hown5 hgrow5 hnil5 hloc5 hown
       go_wp2_with fail
       go_roundw
       case rel=>exact ⟨200 - (b+1),b+1,_,by push_cast;rfl,rfl,by have:=HBb.out;omega,HP.out⟩
       case measure =>
        rw [HN2.out]
        exact Nat.lt_of_le_of_lt (leastOf_le (n:=200 - (b+1)) ⟨b+1,_,by push_cast;rfl,rfl,by have:=HBb.out;omega,HP.out⟩) HLT.out
    ·have v2:¬ (b:Int)<200:=by omega
     obtain rfl:b=200:=by omega
     have HLT:=Lib.hid (show 200 - (a+1)<200 - a by omega)
     clear r1 r2 hI2 hb hb2
     go_wp2_with fail
     go_roundw
     case rel=>exact ⟨200 - (a+1),a+1,l2,by push_cast;rfl,rfl,by omega,HI2.out.next⟩
     case measure =>
      rw [HN.out]
      exact Nat.lt_of_le_of_lt (leastOf_le (n:=200 - (a+1)) ⟨a+1,l2,by push_cast;rfl,rfl,by omega,HI2.out.next⟩) HLT.out
  ·have s2:¬ (a:Int)<200:=by omega
   obtain rfl:a=200:=by omega
   clear ha ha2
   go_wp2_with fail
   go_ret
   refine ⟨_,rfl,l',HI.out.own,fun s=>?_,by have:=HI.out.len;omega,HB.out.1.trans HI.out.chg fun _ _ e=>e,?_⟩
   ·rw [HI.out.mem s]
    refine or_congr Iff.rfl ⟨?_,?_⟩
    ·rintro ⟨h1,h2,h3,h4,h5⟩
     exact ⟨h1,h2,h3,by omega,h5⟩
    ·rintro ⟨h1,h2,h3,h4,h5⟩
     exact ⟨h1,h2,h3,by omega,h5⟩
   ·rcases HI.out.blk with e | ⟨g,e,hg⟩
    ·exact .inl e
    ·exact .inr ⟨g,e,by have:=HB.out.1.size;omega⟩
end Go.Proofs.YtjcfmbmepmlckaaDoor

/- What a concatenation ends with behind so many parts: what a part ends with behind which all are nullable.
   Conditions: the parts are formed. -/
namespace Go.Proofs.YtjcfmbmepmlckaaDoor
open Go.RowKit
theorem la_acc (p:Nat):∀ (ts:List T) (f:Fc) (a:Nat),oksT ts=true →
  ((fcsT 2 ts f a).la.testBit p=true↔(f.la.testBit p=true∧nuAll ts=true)∨∃ i t,ts[i]? = some t∧(fcT t (a+nposs (ts.take i))).la.testBit p=true∧nuAll (ts.drop (i+1))=true)
 | [],f,a,_=>by
  rw [fcsT,nuAll]
  simp
 | t :: ts,f,a,h=>by
  rw [oksT,Bool.and_eq_true] at h
  rw [fcsT,la_acc p ts _ _ h.2,nuAll]
  have hem:=fc_em t a h.1
  have hla:(adF 2 f (fcT t a)).la.testBit p=true↔(fcT t a).la.testBit p=true∨(f.la.testBit p=true∧nuT t=true):=by
   rw [adF,if_pos rfl]
   unfold thenF
   simp only [hem]
   cases hn:nuT t
   ·simp
   ·simp [Nat.testBit_or]
  rw [hla,Bool.and_eq_true]
  constructor
  ·rintro (⟨h1 | ⟨h1,h2⟩,h3⟩ | ⟨i,u,h1,h2,h3⟩)
   ·exact .inr ⟨0,t,rfl,by simpa [nposs] using h1,by simpa using h3⟩
   ·exact .inl ⟨h1,h2,h3⟩
   ·exact .inr ⟨i+1,u,by simpa using h1,by rw [List.take_succ_cons,nposs,← Nat.add_assoc];exact h2,by simpa using h3⟩
  ·rintro (⟨h1,h2,h3⟩ | ⟨i,u,h1,h2,h3⟩)
   ·exact .inl ⟨.inr ⟨h1,h2⟩,h3⟩
   ·cases i with
    | zero =>
     obtain rfl:t=u:=by simpa using h1
     exact .inl ⟨.inl (by simpa [nposs] using h2),by simpa using h3⟩
    | succ i=>exact .inr ⟨i,u,by simpa using h1,by rw [List.take_succ_cons,nposs,← Nat.add_assoc] at h2;exact h2,by simpa using h3⟩
theorem mvs_jts (k hi:Int) (ar:Nat) (ag:Bool) (j:Jt):∀ (ts:List T) (f:Fc) (a:Nat),
  j∈(mvsT k hi ar ag ts f a).2.2↔∃ i t,ts[i]? = some t∧(j∈(mvT t (blA ar ag) (a+nposs (ts.take i))).2.2∨j∈adJ k hi ar ag (fcsT k (ts.take i) f a) (fcT t (a+nposs (ts.take i))))
 | [],f,a=>by rw [mvsT];simp
 | t :: ts,f,a=>by
  rw [mvsT]
  simp only
  rw [List.mem_append,List.mem_append,mvs_jts k hi ar ag j ts,mv_fc,mv_at]
  constructor
  ·rintro ((h | h) | ⟨i,u,h1,h2⟩)
   ·exact ⟨0,t,rfl,.inl (by simpa [nposs] using h)⟩
   ·exact ⟨0,t,rfl,.inr (by simpa [nposs,fcsT] using h)⟩
   ·refine ⟨i+1,u,by simpa using h1,?_⟩
    rw [List.take_succ_cons,nposs,← Nat.add_assoc,fcsT]
    exact h2
  ·rintro ⟨i,u,h1,h2⟩
   cases i with
   | zero =>
    obtain rfl:t=u:=by simpa using h1
    refine .inl (h2.imp (fun h=>?_) fun h=>?_)
    ·simpa [nposs] using h
    ·simpa [nposs,fcsT] using h
   | succ i =>
    refine .inr ⟨i,u,by simpa using h1,?_⟩
    rw [List.take_succ_cons,nposs,← Nat.add_assoc,fcsT] at h2
    exact h2
theorem sj_two (hi:Int) (ar:Nat) (s:St) (ts:List T) (f:Fc) (hf:f.la=0) (a:Nat) (h:oksT ts=true) :
  SJ (mvsT 2 hi ar false ts f a).2.2 s↔(∃ i t,ts[i]? = some t∧SJ (mvT t ar (a+nposs (ts.take i))).2.2 s) ∨
   ∃ i k t u,ts[i]? = some t∧ts[k]? = some u∧i<k∧(fcT t (a+nposs (ts.take i))).la.testBit s.fr=true∧nuAll ((ts.take k).drop (i+1))=true∧(fcT u (a+nposs (ts.take k))).fi.testBit s.tt=true∧s.kp=ar∧s.ag=false:=by
 have hk:∀ k,oksT (ts.take k)=true:=fun k=>by
  have h1:ts=ts.take k ++ ts.drop k:=(List.take_append_drop k ts).symm
  rw [h1,oks_append,Bool.and_eq_true] at h
  exact h.1
 unfold SJ
 simp only [mvs_jts]
 constructor
 ·rintro ⟨j,⟨k,u,hu,hj | hj⟩,hs⟩
  ·exact .inl ⟨k,u,hu,j,hj,hs⟩
  ·rw [adJ,if_pos rfl,List.mem_singleton] at hj
   subst hj
   obtain ⟨h1,h2,h3,h4⟩:=hs
   rcases (la_acc s.fr (ts.take k) f a (hk k)).1 h1 with ⟨h5,_⟩ | ⟨i,t,h5,h6,h7⟩
   ·rw [hf] at h5;simp at h5
   ·have hik:i<k:=by
     have:=(List.getElem?_eq_some_iff.1 h5).1
     rw [List.length_take] at this
     omega
    refine .inr ⟨i,k,t,u,?_,hu,hik,?_,h7,h2,h3,h4⟩
    ·rw [List.getElem?_take_of_lt hik] at h5;exact h5
    ·rw [List.take_take,Nat.min_eq_left (by omega)] at h6;exact h6
 ·rintro (⟨i,t,ht,j,hj,hs⟩ | ⟨i,k,t,u,ht,hu,hik,h1,h2,h3,h4,h5⟩)
  ·exact ⟨j,⟨i,t,ht,.inl hj⟩,hs⟩
  ·refine ⟨⟨(fcsT 2 (ts.take k) f a).la,(fcT u (a+nposs (ts.take k))).fi,ar,false⟩,⟨k,u,hu,.inr (by rw [adJ,if_pos rfl];exact List.mem_singleton.2 rfl)⟩,?_,h3,h4,h5⟩
   refine (la_acc s.fr (ts.take k) f a (hk k)).2 (.inr ⟨i,t,?_,?_,h2⟩)
   ·rw [List.getElem?_take_of_lt hik];exact ht
   ·rw [List.take_take,Nat.min_eq_left (by omega)];exact h1
theorem sj_four (hi:Int) (ar:Nat) (ag:Bool) (s:St) (q:T) (f:Fc) (a:Nat) :
  SJ (mvsT 4 hi ar ag [q] f a).2.2 s↔SJ (mvT q (blA ar ag) a).2.2 s∨(hi≠1∧(fcT q a).la.testBit s.fr=true∧(fcT q a).fi.testBit s.tt=true∧s.kp=ar∧s.ag=ag):=by
 have hj:∀ j:Jt,j∈(mvsT 4 hi ar ag [q] f a).2.2↔j∈(mvT q (blA ar ag) a).2.2∨(hi≠1∧j=⟨(fcT q a).la,(fcT q a).fi,ar,ag⟩):=fun j=>by
  rw [mvsT,mvsT]
  simp only [List.append_nil,List.mem_append,mv_fc]
  refine or_congr Iff.rfl ?_
  unfold adJ
  rw [if_neg (by decide)]
  by_cases h:hi=1
  ·simp [h]
  ·rw [if_pos ⟨rfl,h⟩]
   simp [h]
 unfold SJ
 simp only [hj]
 constructor
 ·rintro ⟨j,h | ⟨h,rfl⟩,hs⟩
  ·exact .inl ⟨j,h,hs⟩
  ·exact .inr ⟨h,hs.1,hs.2.1,hs.2.2.1,hs.2.2.2⟩
 ·rintro (⟨j,h,hs⟩ | ⟨h,h1,h2,h3,h4⟩)
  ·exact ⟨j,.inl h,hs⟩
  ·exact ⟨_,.inr ⟨h,rfl⟩,h1,h2,h3,h4⟩
theorem sj_else {k hi:Int} (h2:k≠2) (h4:k≠4) (ar:Nat) (s:St) (ts:List T) (f:Fc) (a:Nat) :
  SJ (mvsT k hi ar false ts f a).2.2 s↔∃ i t,ts[i]? = some t∧SJ (mvT t ar (a+nposs (ts.take i))).2.2 s:=by
 unfold SJ
 simp only [mvs_jts]
 constructor
 ·rintro ⟨j,⟨i,t,ht,hj | hj⟩,hs⟩
  ·exact ⟨i,t,ht,j,hj,hs⟩
  ·rw [adJ,if_neg h2,if_neg (fun e=>h4 e.1)] at hj
   cases hj
 ·rintro ⟨i,t,ht,j,hj,hs⟩
  exact ⟨j,⟨i,t,ht,.inl hj⟩,hs⟩
end Go.Proofs.YtjcfmbmepmlckaaDoor
