/- config.made: what a move of a right config comes to: the contract.
   Conditions: the automaton lies in memory; what a move keeps are scopes around both its positions. -/
import Derived.Test.YtnmjicfpmkoldaaGreatDoorPG
import Derived.Test.YtnmjicfpmkoldaaGreatDoorMSim
import Derived.Test.YtnmjicfpmkoldaaGreatDoorMRef
import Derived.Test.YtnmjicfpmkoldaaGreatDoorMPn
import Derived.Test.YtnmjicfpmkoldaaGreatDoorMMelt
import Derived.Test.YtnmjicfpmkoldaaGreatDoorPX
import Derived.Laws.CopyRow
import Derived.Deep.RegionHeld3
import Derived.Deep.RegionLaw

/- The classes of a tree whose classes are four words below 2^64 are so in its simple tree, and in its map.
   Conditions: those that each theorem states. -/
namespace Go.Proofs.YtnmjicfpmkoldaaGreatDoor
inductive KlT:T→Prop
 | mk (k:Int) (C:Nat→Nat) (lo hi:Int) (ps:List T) (hC:Cl C) (hp:∀ p∈ps,KlT p):KlT (.node k C lo hi ps)
theorem KlT.part {t:T} (h:KlT t):∀ p∈t.ps,KlT p:=by
 cases h with
 | mk _ _ _ _ _ _ hp=>exact hp
theorem kl_z:Cl zeros:=fun i=>by unfold zeros;omega
theorem kl_wash {C:Nat→Nat} (h:Cl C):Cl (wash C):=fun i=>by
 unfold wash
 split
 ·exact h i
 ·omega
theorem kl_leaf (k:Int):KlT (.node k zeros 0 0 []):=.mk _ _ _ _ _ kl_z fun p hp=>by cases hp
theorem kl_good {t:V} (h:Good t):KlT (erase t):=by
 induction h with
 | mk k C lo hi v ps hk hC hz hlo hhi hp ih =>
  rw [erase]
  refine .mk _ _ _ _ _ hC fun q hq=>?_
  rw [erases_map] at hq
  obtain ⟨u,hu,rfl⟩:=List.mem_map.1 hq
  exact ih u hu
theorem kl_one {k:Int}:∀ {l:List T},(∀ t∈l,KlT t)→KlT (oneOf k l)
 | [],_=>kl_leaf _
 | [t],h=>h t (by simp)
 | t :: u :: ts,h=>.mk _ _ _ _ _ kl_z h
mutual
theorem kl_sim:∀ t:T,KlT t→KlT (simT t)
 | .node k C lo hi ps,h=>by
  cases h with
  | mk _ _ _ _ _ hC hp =>
  have hs:=kl_sims ps hp
  rw [simT]
  split
  ·exact kl_leaf _
  ·split
   ·exact .mk _ _ _ _ _ (kl_wash hC) hp
   ·split
    ·cases hss:simsT ps with
     | nil=>exact kl_leaf _
     | cons s r =>
      have h1:=hs s (by rw [hss];simp)
      show KlT (rep4 lo hi s)
      unfold rep4
      split
      ·exact kl_leaf _
      ·split
       ·exact h1
       ·exact .mk _ _ _ _ _ kl_z fun p hp=>by rw [List.mem_singleton.1 hp];exact h1
    ·refine kl_one fun u hu=>left_all (P:=KlT) _ _ (by simp) (fun x hx=>?_) u hu
     rcases spread_mem hx with ⟨v,hv,_,hx2⟩ | ⟨hx2,_⟩
     ·exact (hs v hv).part x hx2
     ·exact hs x hx2
theorem kl_sims:∀ ts:List T,(∀ p∈ts,KlT p)→∀ u∈simsT ts,KlT u
 | [],_,u,hu=>by rw [simsT] at hu;cases hu
 | t :: ts,h,u,hu=>by
  rw [simsT] at hu
  rcases List.mem_cons.1 hu with rfl | hu
  ·exact kl_sim t (h t (by simp))
  ·exact kl_sims ts (fun p hp=>h p (List.mem_cons_of_mem _ hp)) u hu
end
theorem kl_put {k:Int} {C:Nat→Nat} {ar:List Nat} {m:PM} {lo hi:Int} (hC:Cl C) (h:∀ D∈m.sets,Cl D):∀ D∈(putP k C ar (scP k lo hi m)).sets,Cl D:=by
 have e:(scP k lo hi m).sets=m.sets:=by unfold scP;split <;> rfl
 unfold putP
 split
 ·intro D hD
  rcases List.mem_append.1 hD with hD | hD
  ·rw [e] at hD;exact h D hD
  ·rw [List.mem_singleton.1 hD];exact hC
 ·rw [e];exact h
mutual
theorem mapN_cl:∀ (t:T) (ar:List Nat) (m m':PM),KlT t→mapN t ar m=some m'→(∀ C∈m.sets,Cl C)→∀ C∈m'.sets,Cl C
 | .node k C lo hi ps,ar,m,m',hk,h,hm=>by
  cases hk with
  | mk _ _ _ _ _ hC hp =>
  rw [mapN] at h
  split at h
  ·cases h
  ·exact mapsN_cl ps _ _ m' hp h (kl_put hC hm)
theorem mapsN_cl:∀ (ts:List T) (ar:List Nat) (m m':PM),(∀ p∈ts,KlT p)→mapsN ts ar m=some m'→(∀ C∈m.sets,Cl C)→∀ C∈m'.sets,Cl C
 | [],ar,m,m',_,h,hm=>by
  rw [mapsN] at h
  rw [← Option.some.inj h]
  exact hm
 | t :: ts,ar,m,m',hk,h,hm=>by
  rw [mapsN] at h
  cases h1:mapN t ar m with
  | none=>rw [h1] at h;cases h
  | some m1 =>
   rw [h1] at h
   exact mapsN_cl ts ar m1 m' (fun p hp=>hk p (List.mem_cons_of_mem _ hp)) h (mapN_cl t ar m m1 (hk t (by simp)) h1 hm)
end
theorem map_cl {t:V} {m:PM} (hg:Good t) (h:mapT (simT (erase t))=some m):∀ C∈m.sets,Cl C :=
 mapN_cl _ [] pm0 m (kl_sim _ (kl_good hg)) h fun C hC=>by rw [List.mem_singleton.1 hC];exact kl_z
end Go.Proofs.YtnmjicfpmkoldaaGreatDoor

/- What a move of a right config comes to, as plain values: the program's way, the document's way, and that it is right.
   Conditions: those that each theorem states. -/
namespace Go.Proofs.YtnmjicfpmkoldaaGreatDoor
def nextP (s:Int×Int) (c:Int):Option Int:=if c=s.2∨(s.2<c∧s.2≠-1) then none else if s.1≤c∧s.2 = -1 then some s.1 else some (c+1)
theorem top_pos {s:Int×Int} (h:ScOk s):1≤topS s∧topS s≤2147483647:=by
 unfold ScOk at h
 unfold topS
 split <;> omega
theorem next_eq {s:Int×Int} (h:ScOk s) {c:Int} (h1:1≤c) (h2:c≤topS s):nextP s c=if c=topS s∧0≤s.2 then none else some (min (c+1) (topS s)):=by
 unfold ScOk at h
 unfold topS at *
 unfold nextP
 split at h2
 ·rename_i g
  have e:s.2 = -1:=by omega
  rw [if_neg (by omega)]
  rw [if_pos g]
  by_cases g2:s.1≤c
  ·rw [if_pos ⟨g2,e⟩,if_neg (by omega)]
   congr 1
   omega
  ·rw [if_neg (by omega),if_neg (by omega)]
   congr 1
   omega
 ·rename_i g
  rw [if_neg g]
  by_cases g2:c=s.2
  ·rw [if_pos (.inl g2),if_pos ⟨g2,by omega⟩]
  ·rw [if_neg (by omega),if_neg (by omega),if_neg (by omega)]
   congr 1
   omega
def toX (lt:List Nat) (x:Nat→Int) (kp:Nat) (v:Option Int):Nat→Int:=fun i=>if i<kp then x i else if i=kp∧v.isSome then v.getD 0 else if i<lt.length then 1 else 0
def madeX (m:PM) (lf lt:List Nat) (x:Nat→Int) (kp:Nat) (ag:Bool):Option (Nat→Int) :=
 if ag then (nextP (scA m lf kp) (x kp)).bind fun v=>if leftB m lf x (kp+1) then some (toX lt x kp (some v)) else none
 else if leftB m lf x kp then some (toX lt x kp none) else none
theorem next_in {s:Int×Int} (h:ScOk s) {c v:Int} (h1:1≤c) (h2:c≤topS s) (hv:nextP s c=some v):1≤v∧v≤topS s:=by
 rw [next_eq h h1 h2] at hv
 have ht:=top_pos h
 split at hv
 ·cases hv
 ·have:=Option.some.inj hv
  omega
def KeptAt (lf lt c:List Nat):Prop:=c <+: lf∧c <+: lt
theorem kept_sc {m:PM} {lf lt c:List Nat} (h:KeptAt lf lt c) {i:Nat} (hi:i<c.length):scA m lf i=scA m lt i∧i<lf.length∧i<lt.length:=by
 obtain ⟨⟨a,rfl⟩,⟨b,rfl⟩⟩:=h
 unfold scA
 simp only [List.getD_eq_getElem?_getD,List.length_append]
 rw [List.getElem?_append_left hi,List.getElem?_append_left hi]
 exact ⟨rfl,by omega,by omega⟩
theorem made_right {m:PM} (hw:MapW m) {lf lt c:List Nat} (hlf:lf∈m.ars) (hlt:lt∈m.ars) {kp:Nat} {ag:Bool} (hk:KeptAt lf lt c) (hc:c.length=kp+(if ag then 1 else 0)) {x y:Nat→Int} (hx:cntsB m lf x=true) (hy:madeX m lf lt x kp ag=some y):cntsB m lt y=true:=by
 rw [cnts_iff] at hx ⊢
 have hone:∀ i<4,∀ v:Option Int,kp≤i→(i=kp→v=none)→cntB m lt i (toX lt x kp v i)=true:=fun i hi v hki hv=>by
  have e:toX lt x kp v i=if i<lt.length then 1 else 0:=by
   unfold toX
   rw [if_neg (by omega),if_neg (fun h=>by rw [hv h.1] at h;simp at h)]
  rw [e]
  by_cases g:i<lt.length
  ·obtain ⟨_,_,_,hok⟩:=sc_in hw hlt g
   have:=top_pos hok
   rw [if_pos g,cnt_in g,decide_eq_true (by omega),decide_eq_true this.1]
   rfl
  ·rw [if_neg g,cnt_out g]
   rfl
 have hold:∀ i<4,∀ v:Option Int,i<kp→cntB m lt i (toX lt x kp v i)=true:=fun i hi v hki=>by
  have e:toX lt x kp v i=x i:=by unfold toX;rw [if_pos hki]
  obtain ⟨s1,s2,s3⟩:=kept_sc (m:=m) hk (i:=i) (by omega)
  have h:=hx i hi
  rw [cnt_in s2,s1] at h
  rw [e,cnt_in s3]
  exact h
 unfold madeX at hy
 cases ag with
 | false =>
  simp only [Bool.false_eq_true,if_false] at hy
  split at hy
  ·rw [← Option.some.inj hy]
   intro i hi
   by_cases g:i<kp
   ·exact hold i hi _ g
   ·exact hone i hi _ (by omega) fun _=>rfl
  ·cases hy
 | true =>
  simp only [if_true] at hy hc
  obtain ⟨v,hv,hy⟩:=Option.bind_eq_some_iff.1 hy
  split at hy
  ·rw [← Option.some.inj hy]
   intro i hi
   by_cases g:i<kp
   ·exact hold i hi _ g
   ·by_cases g2:i=kp
    ·subst g2
     obtain ⟨s1,s2,s3⟩:=kept_sc (m:=m) hk (i:=i) (by omega)
     have h:=hx i hi
     obtain ⟨_,_,_,hok⟩:=sc_in hw hlf s2
     rw [cnt_in s2,Bool.and_eq_true,decide_eq_true_eq,decide_eq_true_eq] at h
     have hn:=next_in hok h.1 h.2 hv
     have e:toX lt x i (some v) i=v:=by unfold toX;rw [if_neg (by omega),if_pos ⟨rfl,rfl⟩];rfl
     rw [e,cnt_in s3,← s1,decide_eq_true hn.1,decide_eq_true hn.2]
     rfl
    ·exact hone i hi _ (by omega) fun h=>absurd h g2
  ·cases hy
end Go.Proofs.YtnmjicfpmkoldaaGreatDoor

/- What a move of a right config comes to, by the document: the counts, one after the other; plain facts.
   Conditions: those that each theorem states. -/
namespace Go.Proofs.YtnmjicfpmkoldaaGreatDoor
theorem made_next {m:PM} {lf lt:List Nat} {x:Nat→Int} {kp:Nat} (hv:nextP (scA m lf kp) (x kp)=none):madeX m lf lt x kp true=none:=by
 unfold madeX
 rw [if_pos rfl,hv]
 rfl
end Go.Proofs.YtnmjicfpmkoldaaGreatDoor

/- place.Next: the contract, of any scope.
   Conditions: the count is one. -/
namespace Go.Proofs.YtnmjicfpmkoldaaGreatDoor
open Go.RowKit Go.Shelf
set_option maxHeartbeats 4000000 in
set_option maxRecDepth 100000 in
theorem pnextK_any (low high count:Int) (w:World) (hc:count<9223372036854775807) (hc0:0≤count) :
  Calls Tryz.prog 127 #[.agg #[.int .i64 low,.int .i64 high],.int .i64 count] w fun e w'=>e=.returned (.tuple (if count=high∨(high<count∧high≠-1) then #[.int .i64 0,.bool false] else if low≤count∧high = -1 then #[.int .i64 low,.bool true] else #[.int .i64 (count+1),.bool true]))∧Below w.heap.size w w':=by
 have hw:IntKind.i64.wrap (count+1)=count+1:=by rw [IntKind.wrap_i64];omega
 have hb:Below w.heap.size w (w.alloc (.cells #[.int .i64 low,.int .i64 high] 117)):=(Below.refl _ w).alloc (Nat.le_refl _) _
 by_cases g1:count=high
 ·rw [if_pos (.inl g1)]
  subst g1
  clear hw
  go_enter Tryz.func127,Tryz.ntmps127
  go_wp2_with fail
  refine bodyPost_ret (v:=.tuple #[.int .i64 0,.bool false]) (by simp [results,Tryz.results127,go_sem]) rfl ⟨rfl,hb⟩
 ·by_cases g2:high = -1
  ·subst g2
   rw [if_neg (by omega)]
   by_cases g3:low≤count
   ·rw [if_pos ⟨g3,rfl⟩]
    go_enter Tryz.func127,Tryz.ntmps127
    go_wp2_with fail
    refine bodyPost_ret (v:=.tuple #[.int .i64 low,.bool true]) (by simp [results,Tryz.results127,go_sem]) rfl ⟨rfl,hb⟩
   ·rw [if_neg (by omega)]
    go_enter Tryz.func127,Tryz.ntmps127
    go_wp2_with fail
    refine bodyPost_ret (v:=.tuple #[.int .i64 (count+1),.bool true]) (by simp [results,Tryz.results127,go_sem]) rfl ⟨rfl,hb⟩
  ·by_cases g3:high<count
   ·rw [if_pos (.inr ⟨g3,g2⟩)]
    clear hw
    go_enter Tryz.func127,Tryz.ntmps127
    go_wp2_with fail
    refine bodyPost_ret (v:=.tuple #[.int .i64 0,.bool false]) (by simp [results,Tryz.results127,go_sem]) rfl ⟨rfl,hb⟩
   ·rw [if_neg (by omega),if_neg (by omega)]
    by_cases g4:low≤count
    all_goals
     go_enter Tryz.func127,Tryz.ntmps127
     go_wp2_with fail
     refine bodyPost_ret (v:=.tuple #[.int .i64 (count+1),.bool true]) (by simp [results,Tryz.results127,go_sem]) rfl ⟨rfl,hb⟩
end Go.Proofs.YtnmjicfpmkoldaaGreatDoor

/- config.made: what a move of a right config comes to: the contract.
   Conditions: the automaton lies in memory; what a move keeps are scopes around both its positions. -/
namespace Go.Proofs.YtnmjicfpmkoldaaGreatDoor
open Go.RowKit Go.Shelf
def mdP (tt:Nat) (r:Option (Nat→Int)):Int:=if r.isSome then (tt:Int) else 0
def mdX (r:Option (Nat→Int)):Nat→Int:=r.getD fun _=>0
def MvB (w:World) (b tt kp:Nat) (ag:Bool):Prop:=w.heap[b]? = some (.cells #[.int .i64 (tt:Nat),.int .i64 (kp:Nat),.bool ag] 80 (0,0))
theorem MvB.lt {w:World} {b tt kp:Nat} {ag:Bool} (h:MvB w b tt kp ag):b<w.heap.size:=(Array.getElem?_eq_some_iff.1 h).1
theorem MvB.below {w w':World} {b tt kp:Nat} {ag:Bool} (h:MvB w b tt kp ag) (hb:Below w.heap.size w w'):MvB w' b tt kp ag:=(hb.block b h.lt).trans h
theorem MvB.cells {w:World} {b tt kp:Nat} {ag:Bool} (h:MvB w b tt kp ag):w.cell? ⟨b,0,none⟩=some (.int .i64 (tt:Nat))∧w.cell? ⟨b,1,none⟩=some (.int .i64 (kp:Nat))∧w.cell? ⟨b,2,none⟩=some (.bool ag) :=
 have p:=(row_cells h).1
 ⟨p 0,p 1,p 2⟩
theorem md_box (w:World) (p:Int) (x:Nat→Int) (tt kp:Nat) (ag:Bool):∃ w2,((w.alloc (.cells #[.int .i64 p,.int .i64 (x 0),.int .i64 (x 1),.int .i64 (x 2),.int .i64 (x 3)] 55)).alloc (.cells #[.int .i64 (tt:Nat),.int .i64 (kp:Nat),.bool ag] 80)).alloc (.cells #[.int .i64 0,.int .i64 0,.int .i64 0,.int .i64 0,.int .i64 0] 55)=w2∧Below w.heap.size w w2∧CfB w2 w.heap.size p x∧MvB w2 (w.heap.size+1) tt kp ag∧CfB w2 (w.heap.size+1+1) 0 (fun _=>0)∧w2.heap.size=w.heap.size+1+1+1:=by
 obtain ⟨w1,h1,b1,c1⟩:=cf_box w p x
 have s1:w1.heap.size=w.heap.size+1:=by rw [← h1];simp
 have b2:Below w1.heap.size w1 (w1.alloc (.cells #[.int .i64 (tt:Nat),.int .i64 (kp:Nat),.bool ag] 80)):=(Below.refl _ w1).alloc (Nat.le_refl _) _
 have c2:MvB (w1.alloc (.cells #[.int .i64 (tt:Nat),.int .i64 (kp:Nat),.bool ag] 80)) w1.heap.size tt kp ag:=heap_alloc_new w1 _
 have s2:(w1.alloc (.cells #[.int .i64 (tt:Nat),.int .i64 (kp:Nat),.bool ag] 80)).heap.size=w.heap.size+1+1:=by simp [s1]
 rw [h1]
 generalize w1.alloc (.cells #[.int .i64 (tt:Nat),.int .i64 (kp:Nat),.bool ag] 80)=w2 at b2 c2 s2 ⊢
 obtain ⟨w3,h3,b3,c3⟩:=cf_box w2 0 (fun _=>0)
 have s3:w3.heap.size=w2.heap.size+1:=by rw [← h3];simp
 rw [s1] at c2
 rw [s2] at c3 s3
 exact ⟨w3,h3,bhop b1 (bhop b2 b3),c1.below (bhop b2 b3),c2.below b3,c3,s3⟩
def copX (x:Nat→Int) (kp:Nat):Nat→Int:=fun i=>if i<kp then x i else 0
theorem info_i64:(Tryz.prog.info? 2).map (·.size)=some 1:=by kernel_rfl
theorem cop_run {w:World} {cb tb tt kp:Nat} {p:Int} {x:Nat→Int} (hc:CfB w cb p x) (ht:CfB w tb tt (fun _=>0)) (hk:kp≤4) (ty:TypeId) :
  ∃ w',(Builtin.copy_ #[112,112] ty #[.slice (some ⟨tb,1,none⟩) 4 4,.slice (some ⟨cb,1,none⟩) kp 4]).run Tryz.prog w=.ok (.int .i64 (kp:Int)) w'∧CfB w' tb tt (copX x kp)∧Chg (fun k=>k=tb) w w':=by
 have hm:kp=0∨kp=1∨kp=2∨kp=3∨kp=4:=by omega
 have q:=(row_cells hc).1
 have key:∀ cs:List Value,cs=([Value.int .i64 (x 0),.int .i64 (x 1),.int .i64 (x 2),.int .i64 (x 3)]).take kp→∃ w',(Builtin.copy_ #[112,112] ty #[.slice (some ⟨tb,1,none⟩) 4 4,.slice (some ⟨cb,1,none⟩) kp 4]).run Tryz.prog w=.ok (.int .i64 (kp:Int)) w'∧CfB w' tb tt (copX x kp)∧Chg (fun k=>k=tb) w w':=by
  intro cs hcs
  have hr:=run_copy_row Tryz.prog w 112 112 ty 2 tb 1 4 4 ⟨cb,1,none⟩ kp 4 #[.int .i64 (tt:Nat),.int .i64 0,.int .i64 0,.int .i64 0,.int .i64 0] 55 cs Tryz.underlying112 info_i64 ht (by
   rw [hcs];rcases hm with rfl | rfl | rfl | rfl | rfl <;> rfl) (fun j v hj=>by
   rw [hcs] at hj
   have hj4:j<4:=by
    have:=(List.getElem?_eq_some_iff.1 hj).1
    simp at this;omega
   have hv:([Value.int .i64 (x 0),.int .i64 (x 1),.int .i64 (x 2),.int .i64 (x 3)])[j]? = some v:=by
    rw [List.getElem?_take] at hj
    split at hj
    ·exact hj
    ·cases hj
   have ha:(⟨cb,1,none⟩ : Addr).add j=⟨cb,1+j,none⟩:=by unfold Addr.add;split <;> simp_all
   rw [ha,q (1+j),← hv]
   match j,hj4 with
   | 0,_=>rfl
   | 1,_=>rfl
   | 2,_=>rfl
   | 3,_=>rfl) (by rw [hcs];simp;omega) (fun v hv=>by
   rw [hcs] at hv
   have:=List.mem_of_mem_take hv
   simp at this
   rcases this with rfl | rfl | rfl | rfl <;> rfl)
  have hl:cs.length=kp:=by rw [hcs];rcases hm with rfl | rfl | rfl | rfl | rfl <;> rfl
  refine ⟨_,by rw [hr,hl];rfl,?_,?_⟩
  ·unfold CfB at *
   rw [setRow_heap w tb _ _ _ _ ht,hcs]
   rcases hm with rfl | rfl | rfl | rfl | rfl <;> rfl
  ·exact ⟨rfl,rfl,rfl,by simp [World.setRow],fun k hk hn=>by simp [World.setRow,Array.getElem?_modify,Ne.symm hn]⟩
 exact key _ rfl
theorem ent_cop (lt:List Nat) (x:Nat→Int) (kp:Nat):entX lt (copX x kp) kp=toX lt x kp none:=by
 funext j
 unfold entX copX toX
 by_cases h:j<kp
 ·rw [if_neg (by omega),if_pos h,if_pos h]
 ·rw [if_neg h]
  by_cases h2:j<lt.length
  ·rw [if_pos ⟨by omega,h2⟩];simp [h,h2]
  ·rw [if_neg (fun h3=>h2 h3.2)];simp [h,h2]
theorem ent_nxt (lt:List Nat) (x:Nat→Int) (kp:Nat) (v:Int):entX lt (putX (copX x kp) kp v) (kp+1)=toX lt x kp (some v):=by
 funext j
 unfold entX copX toX putX
 by_cases h:j<kp
 ·rw [if_neg (by omega),if_neg (by omega),if_pos h]
  exact if_pos h
 ·rw [if_neg h]
  by_cases h1:j=kp
  ·rw [if_neg (by omega),if_pos h1,if_pos ⟨h1,rfl⟩];rfl
  ·by_cases h2:j<lt.length
   ·rw [if_pos ⟨by omega,h2⟩];simp [h1,h2]
   ·rw [if_neg (fun h3=>h2 h3.2)];simp [h,h1,h2]
set_option maxHeartbeats 8000000 in
set_option maxRecDepth 100000 in
theorem made_any {B:Nat} {m:PM} {a:Au} {fl:List Nat} {la ab p tt kp:Nat} {ag:Bool} {lf lt:List Nat} (w:World) (hA:AuB w ab a) (hL:AuL w B m a fl la) (hp:m.ars[p]? = some lf) (ht:m.ars[tt]? = some lt) (hk:kp+(if ag then 1 else 0)≤lf.length) (x:Nat→Int) (hx:cntsB m lf x=true) (r:Option (Nat→Int)) (hr:madeX m lf lt x kp ag=r) :
  Calls Tryz.prog 95 #[.pointer (some ⟨ab,0,none⟩),.agg #[.int .i64 p,.int .i64 (x 0),.int .i64 (x 1),.int .i64 (x 2),.int .i64 (x 3)],.agg #[.int .i64 (tt:Nat),.int .i64 (kp:Nat),.bool ag]] w fun e w'=>e=.returned (.tuple #[.agg #[.int .i64 (mdP tt r),.int .i64 ((mdX r) 0),.int .i64 ((mdX r) 1),.int .i64 ((mdX r) 2),.int .i64 ((mdX r) 3)],.bool r.isSome])∧Below w.heap.size w w':=by
 obtain ⟨w2,hw2,hb2,hc2,hm2,hz2,hs2⟩:=md_box w p x tt kp ag
 have hl4:lf.length≤4:=(hL.wf.ars _ (List.mem_of_getElem? hp)).1
 have hk4:kp≤4:=by split at hk <;> omega
 have HF:=Lib.hid (fun (W:World) (h:Below w2.heap.size w2 W)=>show AuB W ab a∧AuL W B m a fl la∧CfB W w.heap.size p x∧MvB W (w.heap.size+1) tt kp ag∧CfB W (w.heap.size+1+1) 0 (fun _=>0) from ⟨hA.below (bhop hb2 h),hL.below (bhop hb2 h),hc2.below h,hm2.below h,hz2.below h⟩)
 have HP:=Lib.hid (And.intro hp ht)
 have HX:=Lib.hid (And.intro hx (And.intro hr hL.wf))
 have HB:=Lib.hid hb2
 have HS:=Lib.hid hs2
 obtain ⟨k0,k1,k2⟩:=hm2.cells
 have ml:=hm2.lt
 have v1:(0:Int)≤(kp:Int):=by omega
 have v2:(kp:Int)≤4:=by omega
 have v3:((kp:Int)).toNat=kp:=by omega
 clear hb2 hc2 hm2 hz2 hA hL hp ht hx hr hs2
 go_enter Tryz.func95,Tryz.ntmps95
 go_upto_region 1 with fail
 clear hw2
 go_region_held3 (fun W=>W.cell? ⟨w.heap.size+1,0,none⟩=some (.int .i64 (tt:Nat))∧W.cell? ⟨w.heap.size+1,1,none⟩=some (.int .i64 (kp:Nat)))
  (first | go_keep | (go_split_ands;refine ⟨?_,?_⟩ <;> first | go_keep | assumption | exact (World.cell?_of_block (w:=w2) (Below.heap_alloc _ _ _ (by assumption))).trans (by assumption) | (simp;omega)))
  (fail)
 obtain ⟨w3,hw3,hb3,ht3,hs3⟩ : ∃ w3,(w2.alloc (.cells #[.int .i64 (tt:Nat),.int .i64 0,.int .i64 0,.int .i64 0,.int .i64 0] 55)).drew=w3∧Below w2.heap.size w2 w3∧CfB w3 w2.heap.size tt (fun _=>0)∧w3.heap.size=w2.heap.size+1:=⟨_,rfl,((Below.refl _ w2).alloc (Nat.le_refl _) _).drew,heap_alloc_new w2 _,by simp⟩
 rw [hw3]
 have hf3:=HF.out w3.drew hb3.drew
 have ht3':CfB w3.drew w2.heap.size tt (fun _=>0):=ht3.below (Below.refl _ _).drew
 obtain ⟨w4,hcop,hc4,hch4⟩:=cop_run hf3.2.2.1 ht3' hk4 3
 have hb34:Below w2.heap.size w2 w4:=hb3.drew.trans (hch4.below (B:=w2.heap.size) (by show w2.heap.size≤w3.heap.size;omega) fun k hk e=>by omega)
 have HT4:=Lib.hid hc4
 have HB4:=Lib.hid (show Below w.heap.size w w4 from bhop HB.out hb34)
 have HF4:=Lib.hid hb34
 have k2':=(HF.out w4 hb34).2.2.2.1.cells.2.2
 clear k0 k1 k2 ml hb3 ht3 ht3' hf3 hw3 hc4 hch4 hb34 hs3
 go_upto_region 2 with fail
 go_region_law (fail)
 clear hcop
 cases ag with
 | false =>
  have HW4:=Lib.hid (fun (W:World) (h:Below w4.heap.size w4 W)=>show AuB W ab a∧AuL W B m a fl la∧CfB W w.heap.size p x∧MvB W (w.heap.size+1) tt kp false∧CfB W (w.heap.size+1+1) 0 (fun _=>0)∧CfB W w2.heap.size tt (copX x kp) from
   ⟨(HF.out W (bhop HF4.out h)).1,(HF.out W (bhop HF4.out h)).2.1,(HF.out W (bhop HF4.out h)).2.2.1,(HF.out W (bhop HF4.out h)).2.2.2.1,(HF.out W (bhop HF4.out h)).2.2.2.2,HT4.out.below h⟩)
  obtain ⟨y,hy⟩ : ∃ y,y=entX lt (copX x kp) kp:=⟨_,rfl⟩
  have HY:=Lib.hid hy
  clear hy
  obtain ⟨_,_,f3,f4,f5,f6⟩:=HW4.out w4 (Below.refl _ _)
  obtain ⟨d0,d1,d2,d3,d4⟩:=f3.five
  clear f3 f4 f5 f6
  go_wp2_with fail
  go_at_call 54
  refine (leaves_any w4 (HW4.out w4 (Below.refl _ _)).1 (HW4.out w4 (Below.refl _ _)).2.1 HP.out.1 x (kp) (by omega)).mono ?_
  rintro e w5 ⟨rfl,hb5⟩
  have HB5:=Lib.hid hb5
  obtain ⟨_,_,f3,f4,f5,f6⟩:=HW4.out w5 hb5
  clear hb5 f3 f4 d0 d1 d2 d3 d4
  cases hlv:leftB m lf x (kp) with
  | false =>
   have HRF:=Lib.hid (show r=none from by rw [← HX.out.2.1];unfold madeX;rw [if_neg (by decide),hlv];rfl)
   clear f6 hlv
   obtain ⟨z0,z1,z2,z3,z4⟩:=f5.five
   have zf:=f5.cell.2.2
   have zl:=f5.lt
   have zg0:=zf 0;have zg1:=zf 1;have zg2:=zf 2;have zg3:=zf 3;have zg4:=zf 4
   have HZZ:=Lib.hid (And.intro f5 (bhop HB4.out HB5.out))
   clear zf
   go_wp2_with fail
   have hf:=set5_heap HZZ.out.1 0 (fun _=>0)
   have hch:=set5_chg w5 (w.heap.size+1+1) (.int .i64 0) (.int .i64 0) (.int .i64 0) (.int .i64 0) (.int .i64 0)
   try dsimp only at hf
   generalize (((((w5.setCell ⟨w.heap.size+1+1,0,none⟩ (.int .i64 0)).setCell ⟨w.heap.size+1+1,1,none⟩ (.int .i64 0)).setCell ⟨w.heap.size+1+1,2,none⟩ (.int .i64 0)).setCell ⟨w.heap.size+1+1,3,none⟩ (.int .i64 0)).setCell ⟨w.heap.size+1+1,4,none⟩ (.int .i64 0))=w9 at *
   obtain ⟨r0,r1,r2,r3,r4⟩:=CfB.five (x:=fun _=>0) hf
   refine bodyPost_ret (v:=.tuple #[.agg #[.int .i64 0,.int .i64 0,.int .i64 0,.int .i64 0,.int .i64 0],.bool false]) (by simp [results,Tryz.results95,go_sem,r0,r1,r2,r3,r4]) rfl ⟨?_,?_⟩
   ·rw [HRF.out];rfl
   ·exact HZZ.out.2.trans (hch.below (by have:=HZZ.out.2.size;omega) fun k hk e=>by omega)
  | true =>
   have HRT:=Lib.hid (show r=some y from by rw [← HX.out.2.1];unfold madeX;rw [if_neg (by decide),if_pos hlv,HY.out,ent_cop])
   clear hlv
   obtain ⟨d0,d1,d2,d3,d4⟩:=f6.five
   clear f6 f5
   go_wp2_with fail
   go_at_call 69
   refine (entered_any w5 (HW4.out w5 HB5.out).1 (HW4.out w5 HB5.out).2.1 HP.out.2 (copX x kp) (kp) (by omega)).mono ?_
   rintro e w6 ⟨rfl,hb6⟩
   have HB6:=Lib.hid (bhop HB5.out hb6)
   have f5:=(HW4.out w6 HB6.out).2.2.2.2.1
   rw [← HY.out]
   clear hb6 d0 d1 d2 d3 d4
   obtain ⟨z0,z1,z2,z3,z4⟩:=f5.five
   have zf:=f5.cell.2.2
   have zl:=f5.lt
   have zg0:=zf 0;have zg1:=zf 1;have zg2:=zf 2;have zg3:=zf 3;have zg4:=zf 4
   have HZZ:=Lib.hid (And.intro f5 (bhop HB4.out HB6.out))
   clear zf
   go_wp2_with fail
   have hf:=set5_heap HZZ.out.1 (tt:Int) y
   have hch:=set5_chg w6 (w.heap.size+1+1) (.int .i64 (tt:Int)) (.int .i64 (y 0)) (.int .i64 (y 1)) (.int .i64 (y 2)) (.int .i64 (y 3))
   generalize (((((w6.setCell ⟨w.heap.size+1+1,0,none⟩ (.int .i64 (tt:Int))).setCell ⟨w.heap.size+1+1,1,none⟩ (.int .i64 (y 0))).setCell ⟨w.heap.size+1+1,2,none⟩ (.int .i64 (y 1))).setCell ⟨w.heap.size+1+1,3,none⟩ (.int .i64 (y 2))).setCell ⟨w.heap.size+1+1,4,none⟩ (.int .i64 (y 3)))=w9 at *
   obtain ⟨r0,r1,r2,r3,r4⟩:=CfB.five hf
   refine bodyPost_ret (v:=.tuple #[.agg #[.int .i64 (tt:Int),.int .i64 (y 0),.int .i64 (y 1),.int .i64 (y 2),.int .i64 (y 3)],.bool true]) (by simp [results,Tryz.results95,go_sem,r0,r1,r2,r3,r4]) rfl ⟨?_,?_⟩
   ·rw [HRT.out];rfl
   ·exact HZZ.out.2.trans (hch.below (by have:=HZZ.out.2.size;omega) fun k hk e=>by omega)
 | true =>
  simp only [if_true] at hk
  have hkl:kp<lf.length:=by omega
  have hxk:=cnts_iff.1 HX.out.1 kp (by omega)
  rw [cnt_in hkl,Bool.and_eq_true,decide_eq_true_eq,decide_eq_true_eq] at hxk
  obtain ⟨_,_,_,hok⟩:=sc_in HX.out.2.2 (List.mem_of_getElem? HP.out.1) hkl
  have htp:=top_pos hok
  have HW0:=Lib.hid (fun (W:World) (h:Below w4.heap.size w4 W)=>show AuB W ab a∧AuL W B m a fl la∧CfB W w.heap.size p x∧MvB W (w.heap.size+1) tt kp true∧CfB W (w.heap.size+1+1) 0 (fun _=>0)∧CfB W w2.heap.size tt (copX x kp) from
   ⟨(HF.out W (bhop HF4.out h)).1,(HF.out W (bhop HF4.out h)).2.1,(HF.out W (bhop HF4.out h)).2.2.1,(HF.out W (bhop HF4.out h)).2.2.2.1,(HF.out W (bhop HF4.out h)).2.2.2.2,HT4.out.below h⟩)
  obtain ⟨sl,hsl⟩ : ∃ sl,sl=(scA m lf kp).1:=⟨_,rfl⟩
  obtain ⟨sh,hsh⟩ : ∃ sh,sh=(scA m lf kp).2:=⟨_,rfl⟩
  obtain ⟨xk,hxe⟩ : ∃ xk,xk=x kp:=⟨_,rfl⟩
  have hxb:0≤xk∧xk<9223372036854775807:=by omega
  have HNX:=Lib.hid (fun (W:World)=>by
   have h:=pnextK_any sl sh xk W hxb.2 hxb.1
   rw [show (if xk=sh∨(sh<xk∧sh≠-1) then #[Value.int .i64 0,.bool false] else if sl≤xk∧sh = -1 then #[.int .i64 sl,.bool true] else #[.int .i64 (xk+1),.bool true])=(match nextP (scA m lf kp) (x kp) with | none=>#[.int .i64 0,.bool false] | some v=>#[.int .i64 v,.bool true]) from by
    rw [hsl,hsh,hxe];unfold nextP;split
    ·rfl
    ·split <;> rfl] at h
   exact h)
  have HSC:=Lib.hid (fun (W:World) (h:Below w4.heap.size w4 W)=>by
   have:=scope_any W (HW0.out W h).1 (HW0.out W h).2.1 HP.out.1 hkl
   rw [← hsl,← hsh] at this
   exact this)
  have HCC:=Lib.hid (fun (W:World) (h:Below w4.heap.size w4 W)=>show W.cell? ⟨w.heap.size,0,none⟩=some (.int .i64 (p:Int))∧W.cell? ⟨w.heap.size,1+kp,none⟩=some (.int .i64 xk) from
   ⟨(HW0.out W h).2.2.1.cell.1,hxe▸(HW0.out W h).2.2.1.cell.2.1 kp (by omega)⟩)
  obtain ⟨d0,d1⟩:=HCC.out w4 (Below.refl _ _)
  have v4:(kp:Int)<4:=by omega
  have hk3:kp+1≤4:=by omega
  clear hsl hsh hxe hxk hok htp hxb
  cases hnq:nextP (scA m lf kp) (x kp) with
  | none =>
   rw [hnq] at HNX
   have HRN:=Lib.hid (show r=none from by rw [← HX.out.2.1];exact made_next hnq)
   clear hnq
   go_wp2_with fail
   go_region_with (first
    | (go_at_call 77;refine (HSC.out _ (by first | exact Below.refl _ _ | exact (Below.refl _ _).drew | exact below_drewN (Below.refl _ _) _)).mono ?_;rintro e w5 ⟨rfl,hb5⟩;have HB5:=Lib.hid ((by first | exact hb5 | exact bhop (Below.refl _ _).drew hb5 | exact bhop (below_drewN (Below.refl _ _) _) hb5:Below w4.heap.size w4 w5));obtain ⟨d0,d1⟩:=HCC.out w5 HB5.out;clear hb5)
    | (go_at_call 127;refine (HNX.out _).mono ?_;rintro e w6 ⟨rfl,hb6⟩;have HB6:=Lib.hid (bhop HB5.out hb6);clear hb6))
   all_goals
    have f5:=(HW0.out w6 HB6.out).2.2.2.2.1
    obtain ⟨z0,z1,z2,z3,z4⟩:=f5.five
    have zf:=f5.cell.2.2
    have zl:=f5.lt
    have zg0:=zf 0;have zg1:=zf 1;have zg2:=zf 2;have zg3:=zf 3;have zg4:=zf 4
    have HZZ:=Lib.hid (And.intro f5 (bhop HB4.out HB6.out))
    clear zf
    go_wp2_with fail
    have hf:=set5_heap HZZ.out.1 0 (fun _=>0)
    have hch:=set5_chg w6 (w.heap.size+1+1) (.int .i64 0) (.int .i64 0) (.int .i64 0) (.int .i64 0) (.int .i64 0)
    try dsimp only at hf
    generalize (((((w6.setCell ⟨w.heap.size+1+1,0,none⟩ (.int .i64 0)).setCell ⟨w.heap.size+1+1,1,none⟩ (.int .i64 0)).setCell ⟨w.heap.size+1+1,2,none⟩ (.int .i64 0)).setCell ⟨w.heap.size+1+1,3,none⟩ (.int .i64 0)).setCell ⟨w.heap.size+1+1,4,none⟩ (.int .i64 0))=w9 at *
    obtain ⟨r0,r1,r2,r3,r4⟩:=CfB.five (x:=fun _=>0) hf
    refine bodyPost_ret (v:=.tuple #[.agg #[.int .i64 0,.int .i64 0,.int .i64 0,.int .i64 0,.int .i64 0],.bool false]) (by simp [results,Tryz.results95,go_sem,r0,r1,r2,r3,r4]) rfl ⟨?_,?_⟩
    ·rw [HRN.out];rfl
    ·exact HZZ.out.2.trans (hch.below (by have:=HZZ.out.2.size;omega) fun k hk e=>by omega)
  | some v =>
   rw [hnq] at HNX
   have HNQ:=Lib.hid hnq
   obtain ⟨y,hy⟩ : ∃ y,y=entX lt (putX (copX x kp) kp v) (kp+1):=⟨_,rfl⟩
   have HY:=Lib.hid hy
   clear hnq hy
   go_wp2_with fail
   go_region_with (first
    | (go_at_call 77;refine (HSC.out _ (by first | exact Below.refl _ _ | exact (Below.refl _ _).drew | exact below_drewN (Below.refl _ _) _)).mono ?_;rintro e w5 ⟨rfl,hb5⟩;have HB5:=Lib.hid ((by first | exact hb5 | exact bhop (Below.refl _ _).drew hb5 | exact bhop (below_drewN (Below.refl _ _) _) hb5:Below w4.heap.size w4 w5));obtain ⟨d0,d1⟩:=HCC.out w5 HB5.out;clear hb5)
    | (go_at_call 127;refine (HNX.out _).mono ?_;rintro e w6 ⟨rfl,hb6⟩;have HB6:=Lib.hid (bhop HB5.out hb6);clear hb6))
   all_goals
    have f6:=(HW0.out w6 HB6.out).2.2.2.2.2
    have e1:=f6.cell.2.1 kp (by omega)
    have e2:=f6.cell.2.2 (1+kp)
    have e3:=f6.lt
    have hput:=f6.put (i:=kp) (by omega) v
    have hpb:Below w2.heap.size w2 (w6.setCell ⟨w2.heap.size,1+kp,none⟩ (.int .i64 v)):=(bhop HF4.out HB6.out).setCell (Nat.le_refl _) _
    have HPP:=Lib.hid (And.intro hput hpb)
    clear f6 hput hpb d0 d1
    go_upto_region 9 with fail
    clear e1 e2 e3
    obtain ⟨w7,hw7⟩ : ∃ w7,w6.setCell ⟨w2.heap.size,1+kp,none⟩ (.int .i64 v)=w7:=⟨_,rfl⟩
    rw [hw7] at HPP
    rw [hw7]
    have HB4:=Lib.hid (bhop HB.out HPP.out.2)
    have HW4:=Lib.hid (fun (W:World) (h:Below w7.heap.size w7 W)=>show AuB W ab a∧AuL W B m a fl la∧CfB W w.heap.size p x∧MvB W (w.heap.size+1) tt kp true∧CfB W (w.heap.size+1+1) 0 (fun _=>0)∧CfB W w2.heap.size tt (putX (copX x kp) kp v) from
     ⟨(HF.out W (bhop HPP.out.2 h)).1,(HF.out W (bhop HPP.out.2 h)).2.1,(HF.out W (bhop HPP.out.2 h)).2.2.1,(HF.out W (bhop HPP.out.2 h)).2.2.2.1,(HF.out W (bhop HPP.out.2 h)).2.2.2.2,HPP.out.1.below h⟩)
    clear hw7
    obtain ⟨_,_,f3,f4,f5,f6⟩:=HW4.out w7 (Below.refl _ _)
    obtain ⟨d0,d1,d2,d3,d4⟩:=f3.five
    clear f3 f4 f5 f6
    go_wp2_with fail
    go_at_call 54
    refine (leaves_any w7 (HW4.out w7 (Below.refl _ _)).1 (HW4.out w7 (Below.refl _ _)).2.1 HP.out.1 x (kp+1) (by omega)).mono ?_
    rintro e wv ⟨rfl,hbv⟩
    have HBv:=Lib.hid hbv
    obtain ⟨_,_,f3,f4,f5,f6⟩:=HW4.out wv hbv
    clear hbv f3 f4 d0 d1 d2 d3 d4
    cases hlv:leftB m lf x (kp+1) with
    | false =>
     have HRF:=Lib.hid (show r=none from by rw [← HX.out.2.1];unfold madeX;rw [if_pos rfl,HNQ.out,Option.bind_some,hlv];rfl)
     clear f6 hlv
     obtain ⟨z0,z1,z2,z3,z4⟩:=f5.five
     have zf:=f5.cell.2.2
     have zl:=f5.lt
     have zg0:=zf 0;have zg1:=zf 1;have zg2:=zf 2;have zg3:=zf 3;have zg4:=zf 4
     have HZZ:=Lib.hid (And.intro f5 (bhop HB4.out HBv.out))
     clear zf
     go_wp2_with fail
     have hf:=set5_heap HZZ.out.1 0 (fun _=>0)
     have hch:=set5_chg wv (w.heap.size+1+1) (.int .i64 0) (.int .i64 0) (.int .i64 0) (.int .i64 0) (.int .i64 0)
     try dsimp only at hf
     generalize (((((wv.setCell ⟨w.heap.size+1+1,0,none⟩ (.int .i64 0)).setCell ⟨w.heap.size+1+1,1,none⟩ (.int .i64 0)).setCell ⟨w.heap.size+1+1,2,none⟩ (.int .i64 0)).setCell ⟨w.heap.size+1+1,3,none⟩ (.int .i64 0)).setCell ⟨w.heap.size+1+1,4,none⟩ (.int .i64 0))=w9 at *
     obtain ⟨r0,r1,r2,r3,r4⟩:=CfB.five (x:=fun _=>0) hf
     refine bodyPost_ret (v:=.tuple #[.agg #[.int .i64 0,.int .i64 0,.int .i64 0,.int .i64 0,.int .i64 0],.bool false]) (by simp [results,Tryz.results95,go_sem,r0,r1,r2,r3,r4]) rfl ⟨?_,?_⟩
     ·rw [HRF.out];rfl
     ·exact HZZ.out.2.trans (hch.below (by have:=HZZ.out.2.size;omega) fun k hk e=>by omega)
    | true =>
     have HRT:=Lib.hid (show r=some y from by rw [← HX.out.2.1];unfold madeX;rw [if_pos rfl,HNQ.out,Option.bind_some,if_pos hlv,HY.out,ent_nxt])
     clear hlv
     obtain ⟨d0,d1,d2,d3,d4⟩:=f6.five
     clear f6 f5
     go_wp2_with fail
     go_at_call 69
     refine (entered_any wv (HW4.out wv HBv.out).1 (HW4.out wv HBv.out).2.1 HP.out.2 (putX (copX x kp) kp v) (kp+1) (by omega)).mono ?_
     rintro e w8 ⟨rfl,hb8⟩
     have HB8:=Lib.hid (bhop HBv.out hb8)
     have f5:=(HW4.out w8 HB8.out).2.2.2.2.1
     rw [← HY.out]
     clear hb8 d0 d1 d2 d3 d4
     obtain ⟨z0,z1,z2,z3,z4⟩:=f5.five
     have zf:=f5.cell.2.2
     have zl:=f5.lt
     have zg0:=zf 0;have zg1:=zf 1;have zg2:=zf 2;have zg3:=zf 3;have zg4:=zf 4
     have HZZ:=Lib.hid (And.intro f5 (bhop HB4.out HB8.out))
     clear zf
     go_wp2_with fail
     have hf:=set5_heap HZZ.out.1 (tt:Int) y
     have hch:=set5_chg w8 (w.heap.size+1+1) (.int .i64 (tt:Int)) (.int .i64 (y 0)) (.int .i64 (y 1)) (.int .i64 (y 2)) (.int .i64 (y 3))
     generalize (((((w8.setCell ⟨w.heap.size+1+1,0,none⟩ (.int .i64 (tt:Int))).setCell ⟨w.heap.size+1+1,1,none⟩ (.int .i64 (y 0))).setCell ⟨w.heap.size+1+1,2,none⟩ (.int .i64 (y 1))).setCell ⟨w.heap.size+1+1,3,none⟩ (.int .i64 (y 2))).setCell ⟨w.heap.size+1+1,4,none⟩ (.int .i64 (y 3)))=w9 at *
     obtain ⟨r0,r1,r2,r3,r4⟩:=CfB.five hf
     refine bodyPost_ret (v:=.tuple #[.agg #[.int .i64 (tt:Int),.int .i64 (y 0),.int .i64 (y 1),.int .i64 (y 2),.int .i64 (y 3)],.bool true]) (by simp [results,Tryz.results95,go_sem,r0,r1,r2,r3,r4]) rfl ⟨?_,?_⟩
     ·rw [HRT.out];rfl
     ·exact HZZ.out.2.trans (hch.below (by have:=HZZ.out.2.size;omega) fun k hk e=>by omega)
end Go.Proofs.YtnmjicfpmkoldaaGreatDoor
