/- The simple tree of a row, of its parts' results: a contract.
   Conditions: the results are their own, in memory, one behind the other. -/
import Derived.Test.YtbohmcfplgdlpaaDoorMSn
import Derived.Test.YtbohmcfplgdlpaaDoorMTimes
import Derived.Deep.DeepCutAuto

/- What row and either have gathered, in memory, at each part: plain facts.
   Conditions: those that each theorem states. -/
namespace Go.Proofs.YtbohmcfplgdlpaaDoor
open Go.RowKit Go.Shelf
theorem rcells_at:∀ (rs:List (V×Bool)) (i:Nat) (r:V×Bool),rs[i]? = some r→∀ j,j<9→(rs.flatMap rcells)[i * 9+j]? = (rcells r)[j]?
 | [],i,r,h,_,_=>by simp at h
 | q :: rs,0,r,h,j,hj=>by
  simp at h
  subst h
  rw [List.flatMap_cons,Nat.zero_mul,Nat.zero_add,List.getElem?_append_left (by rw [rcells_len];exact hj)]
 | q :: rs,i+1,r,h,j,hj=>by
  have ih:=rcells_at rs i r (by simpa using h) j hj
  rw [List.flatMap_cons,List.getElem?_append_right (by rw [rcells_len];omega),rcells_len,show (i+1) * 9+j - 9=i * 9+j by omega]
  exact ih
def fl (k:Int) (f:T→Bool) (rs:List (V×Bool)):List T:=spreadT k (((rs.map er).map Prod.fst).filter f)
theorem fl_snoc (k:Int) (f:T→Bool) (rs:List (V×Bool)) (r:V×Bool):fl k f (rs ++ [r])=fl k f rs ++ (if f (erase r.1) then spreadT k [erase r.1] else []):=by
 unfold fl
 rw [List.map_append,List.map_append,List.filter_append,spread_append]
 congr 1
 cases h:f (erase r.1) with
 | true =>
  have : [r].map er=[(erase r.1,r.2)]:=rfl
  rw [this]
  simp [h]
 | false =>
  have : [r].map er=[(erase r.1,r.2)]:=rfl
  rw [this]
  simp [h,spreadT]
def szR (rs:List (V×Bool)):Nat:=(rs.map fun r=>r.1.ps.length+1).sum
theorem take_one {α:Type} {l:List α} {i:Nat} {x:α} (h:l[i]? = some x):l.take (i+1)=l.take i ++ [x]:=by rw [List.take_add_one,h];rfl
theorem drop_one {α:Type} {l:List α} {i:Nat} {x:α} (h:l[i]? = some x):l.drop i=x :: l.drop (i+1):=by
 have hi:=(List.getElem?_eq_some_iff.1 h).1
 rw [List.drop_eq_getElem_cons hi,(List.getElem?_eq_some_iff.1 h).2]
structure GI (w:World) (a M:Nat) (k:Int) (f:T→Bool) (rs:List (V×Bool)) (i:Nat) (v:Value) (ts:List V) (mi:Nat) (wr:World):Prop where
 row:RowA wr a mi (fun x=>x<mi∨w.heap.size≤x) v ts
 nil:ts=[]→v=.slice none 0 0
 seq:SeqR wr mi (rs.drop i) M
 le:a≤mi
 er:erases ts=fl k f (rs.take i)
 chg:Chg (fun x=>a≤x∧NT w x) w wr
 len:ts.length+szR (rs.drop i)≤szR rs
 zb:ZB9 w.heap.size wr
section
variable {w wr wr':World} {a M:Nat} {k:Int} {f:T→Bool} {rs:List (V×Bool)} {i:Nat} {v:Value} {ts:List V} {mi:Nat}
theorem GI.start (k:Int) (f:T→Bool) (h:SeqR w a rs M):GI w a M k f rs 0 (.slice none 0 0) [] a (w.alloc (.cells #[.int .i64 0,.int .u64 0,.int .u64 0,.int .u64 0,.int .u64 0,.slice none 0 0,.int .i64 0,.int .i64 0,.bool false] 117)):=by
 have hb:Below w.heap.size w (w.alloc (.cells #[.int .i64 0,.int .u64 0,.int .u64 0,.int .u64 0,.int .u64 0,.slice none 0 0,.int .i64 0,.int .i64 0,.bool false] 117)):=(Below.refl _ _).alloc (Nat.le_refl _) _
 exact ⟨RowA.nil _ _ _ _,fun _=>rfl,h.chg (Chg.of_below (R:=fun _=>False) hb) fun _ _ _ _=>id,Nat.le_refl _,by rw [List.take_zero];rfl,Chg.of_below hb,by rw [List.drop_zero];simp,heap_alloc_new w _⟩
theorem GI.below (h:GI w a M k f rs i v ts mi wr) (hb:Below wr.heap.size wr wr'):GI w a M k f rs i v ts mi wr' :=
 ⟨h.row.chg (Chg.of_below (R:=fun _=>False) hb) fun _ _ _ _=>id,h.nil,h.seq.chg (Chg.of_below (R:=fun _=>False) hb) fun _ _ _ _=>id,h.le,h.er,h.chg.trans (Chg.of_below (R:=fun _=>False) hb) fun _ _ e=>e.elim,h.len,h.zb.below hb⟩
theorem GI.parts {pv:Value} {base:Nat} (h:GI w a M k f rs i v ts mi wr) (hown:w.ownsRow base 117 9 pv rs.length (rs.flatMap rcells)):wr.ownsRow base 117 9 pv rs.length (rs.flatMap rcells) :=
 own_chg hown h.chg fun _ hb e=>own_not_nt hown (by decide) hb e.2
theorem GI.here {r:V×Bool} (h:GI w a M k f rs i v ts mi wr) (hr:rs[i]? = some r):∃ m',mi≤m'∧Res wr mi m' r.1∧SeqR wr m' (rs.drop (i+1)) M∧ts.length+(r.1.ps.length+1)+szR (rs.drop (i+1))≤szR rs:=by
 have h1:=h.seq
 have h2:=h.len
 rw [drop_one hr] at h1 h2
 obtain ⟨m',a1,a2,a3⟩:=h1
 refine ⟨m',a1,a2,a3,?_⟩
 simp only [szR,List.map_cons,List.sum_cons] at h2 ⊢
 omega
theorem GI.skip {r:V×Bool} (h:GI w a M k f rs i v ts mi wr) (hr:rs[i]? = some r) (hf:f (erase r.1)=false):∃ m',GI w a M k f rs (i+1) v ts m' wr:=by
 obtain ⟨m',a1,a2,a3,a4⟩:=h.here hr
 refine ⟨m',h.row.wid (Nat.le_refl _) a1 (fun x hx=>by omega),h.nil,a3,Nat.le_trans h.le a1,?_,h.chg,by omega,h.zb⟩
 rw [take_one hr,fl_snoc,hf,h.er]
 simp
theorem GI.more {r:V×Bool} {v':Value} {m':Nat} (h:GI w a M k f rs i v ts mi wr) (hr:rs[i]? = some r) (hf:f (erase r.1)=true) (hne:r.1.kind=k→r.1.ps≠[]) (h3:SeqR wr m' (rs.drop (i+1)) M) (hmm:mi≤m') (h4:ts.length+(r.1.ps.length+1)+szR (rs.drop (i+1))≤szR rs)
  (hM:M≤w.heap.size) (hc:Chg (fun x=>v.ownBlock=some x) wr wr') (hrow:RowA wr' a m' (fun x=>x<m'∨w.heap.size≤x) v' (gath k ts r.1)):GI w a M k f rs (i+1) v' (gath k ts r.1) m' wr':=by
 have hvb:∀ x,v.ownBlock=some x→x<mi∨w.heap.size≤x:=fun x hx=>h.row.at' x hx
 refine ⟨hrow,fun e=>?_,h3.chg hc fun x e1 e2 e3 e4=>?_,Nat.le_trans h.le hmm,?_,?_,?_,h.zb.keep (hc.block _ h.zb.lt fun e=>?_)⟩
 ·exfalso
  unfold gath at e
  rw [List.append_eq_nil_iff] at e
  have e2:=e.2
  split at e2
  ·rename_i hk;exact hne hk e2
  ·cases e2
 ·have:=hvb x e4
  omega
 ·rw [take_one hr,fl_snoc,hf,gath_erase,h.er]
  rfl
 ·refine h.chg.trans hc fun x hx e=>?_
  have h5:=own_nt h.row.own e
  refine ⟨(h.row.own.lt x e).1,?_⟩
  by_cases h6:a≤x∧NT w x
  ·exact h6.2
  ·exact h5.keep (h.chg.block x hx h6).symm
 ·unfold gath
  rw [List.length_append]
  split
  ·omega
  ·simp only [List.length_cons,List.length_nil];omega
 ·have h5:=own_nt h.row.own e
  obtain ⟨cs,m0,h6⟩:=h5
  have h7:wr.heap[w.heap.size]? = _:=h.zb
  rw [h7] at h6
  have:=Option.some.inj h6
  simp only [Obj.cells.injEq] at this
  exact absurd this.2.1 (by decide)
end
end Go.Proofs.YtbohmcfplgdlpaaDoor

/- The simple tree of a row, of its parts' results: a contract.
   Conditions: the results are their own, in memory, one behind the other. -/
namespace Go.Proofs.YtbohmcfplgdlpaaDoor
open Go.RowKit Go.Shelf
attribute [local go_sem] nodeAgg
def fR (s:T):Bool:=decide (s.kind≠0)
def RI (w:World) (a M:Nat) (rs:List (V×Bool)) (i:Nat) (nb:Bool) (v:Value) (wr:World):Prop :=
 ∃ ts mi,GI w a M 2 fR rs i v ts mi wr∧nb=(rs.take i).all Prod.snd∧∀ r∈rs.take i,vB (erase r.1)=false
theorem boxr_new (w:World) (t:V) (v:Value) (n:Bool):∃ w2,w.alloc (.cells #[.int .i64 t.kind,.int .u64 (t.set 0:Nat),.int .u64 (t.set 1:Nat),.int .u64 (t.set 2:Nat),.int .u64 (t.set 3:Nat),v,.int .i64 t.lo,.int .i64 t.hi,.bool n] 117)=w2∧Below w.heap.size w w2∧w2.heap.size=w.heap.size+1∧∀ W,Below w2.heap.size w2 W→BoxC9 w.heap.size t v n W:=by
 refine ⟨_,rfl,(Below.refl _ _).alloc (Nat.le_refl _) _,by simp,fun W hW=>?_⟩
 refine .of ((hW.block _ (by simp)).trans (heap_alloc_new w _))
theorem chg_box {w w2 w3:World} {a b:Nat} (h:Chg (fun x=>a≤x∧NT w x) w w2) (hc:Chg (fun x=>x=b) w2 w3) (hb:w.heap.size≤b):Chg (fun x=>a≤x∧NT w x) w w3:=h.trans hc fun x hx e=>by omega
theorem res_box {w2 w3:World} {a m b:Nat} {t:V} (h:Res w2 a m t) (hz:ZB9 b w2) (hc:Chg (fun x=>x=b) w2 w3):Res w3 a m t:=h.chg hc fun x hx _ _ e=>by
 obtain ⟨cs,m0,h6⟩:=hx
 have h7:w2.heap[b]? = _:=hz
 rw [e,h7] at h6
 have:=Option.some.inj h6
 simp only [Obj.cells.injEq] at this
 exact absurd this.2.1 (by decide)
theorem row_void {rs:List (V×Bool)} {i:Nat} {t:V} {n:Bool} (h:∀ r∈rs.take i,vB (erase r.1)=false) (hr:rs[i]? = some (t,n)) (hv:vB (erase t)=true):rowP (rs.map er)=er (t,n):=by
 have e:(rs.map er).find? (fun r=>vB r.1)=some (er (t,n)):=by
  rw [← List.take_append_drop i rs,drop_one hr,List.map_append,List.map_cons,List.find?_append,List.find?_cons_of_pos (by exact hv)]
  rw [List.find?_eq_none.2 fun x hx=>?_]
  ·rfl
  ·obtain ⟨r,hr2,rfl⟩:=List.mem_map.1 hx
   rw [show vB (er r).1=false from h r hr2]
   decide
 unfold rowP
 rw [e]
theorem row_end {rs:List (V×Bool)} {ts:List V} {b:Bool} {v:Value} (he:erases ts=fl 2 fR (rs.take rs.length)) (hb:b=(rs.take rs.length).all Prod.snd) (h:∀ r∈rs.take rs.length,vB (erase r.1)=false):rowP (rs.map er)=(erase (joinV 2 v ts),b):=by
 rw [List.take_length] at he hb h
 have e:(rs.map er).find? (fun r=>vB r.1)=none:=List.find?_eq_none.2 fun x hx=>by
  obtain ⟨r,hr2,rfl⟩:=List.mem_map.1 hx
  rw [show vB (er r).1=false from h r hr2]
  decide
 unfold rowP
 rw [e]
 show (_,_)=_
 rw [join_erase,he,hb,List.all_map]
 rfl
theorem row_all {rs:List (V×Bool)} {i:Nat} {t:V} {n b:Bool} (hr:rs[i]? = some (t,n)) (hb:b=(rs.take i).all Prod.snd):(b && n)=(rs.take (i+1)).all Prod.snd:=by
 rw [take_one hr,List.all_append,← hb]
 simp
theorem row_no {rs:List (V×Bool)} {i:Nat} {t:V} {n:Bool} (hr:rs[i]? = some (t,n)) (h:∀ r∈rs.take i,vB (erase r.1)=false) (hv:vB (erase t)=false):∀ r∈rs.take (i+1),vB (erase r.1)=false:=fun r hm=>by
 rw [take_one hr] at hm
 rcases List.mem_append.1 hm with hm | hm
 ·exact h r hm
 ·rw [List.mem_singleton.1 hm];exact hv
section
variable {w wr w2 w3:World} {a M:Nat} {k:Int} {f:T→Bool} {rs:List (V×Bool)} {i:Nat} {v:Value} {ts:List V} {mi m':Nat} {t:V} {n:Bool} {sa:Option Addr} {sn sc:Nat}
theorem row_gives (hG:GI w a M k f rs i v ts mi wr) (hs:t.v=.slice sa sn sc) (ht:Res wr mi m' t) (h3:SeqR wr m' (rs.drop (i+1)) M) (hM:M≤w.heap.size) (hb:Below wr.heap.size wr w2) (hc:Chg (fun x=>x=w.heap.size) w2 w3) :
  GivesS a (er (t,n)) (.returned (.agg #[.int .i64 t.kind,.int .u64 (t.set 0:Nat),.int .u64 (t.set 1:Nat),.int .u64 (t.set 2:Nat),.int .u64 (t.set 3:Nat),.slice sa sn sc,.int .i64 t.lo,.int .i64 t.hi,.bool n])) w3∧Chg (fun x=>a≤x∧NT w x) w w3:=by
 have hG2:=hG.below hb
 have hc3:=chg_box hG2.chg hc (Nat.le_refl _)
 refine ⟨⟨(t,n),by rw [rcells_v hs],rfl,?_⟩,hc3⟩
 exact (res_box (ht.chg (Chg.of_below (R:=fun _=>False) hb) fun _ _ _ _=>id) hG2.zb hc).wid hG.le (by have:=h3.le;have:=hc3.size;omega)
theorem row_call (hG:GI w a M k f rs i v ts mi wr) (_:rs[i]? = some (t,n)) (hs:t.v=.slice sa sn sc) (hmm:mi≤m') (ht:Res wr mi m' t) (h3:SeqR wr m' (rs.drop (i+1)) M) (h4:ts.length+(t.ps.length+1)+szR (rs.drop (i+1))≤szR rs) (hM:M≤w.heap.size)
  (hne:t.kind=k→t.ps≠[]) (hsz:szR rs≤900000) {q:Nat} (_:q=ts.length) (hb:Below wr.heap.size wr w2) :
  Calls Tryd.prog 85 #[v,.int .i64 k,.agg #[.int .i64 t.kind,.int .u64 (t.set 0:Nat),.int .u64 (t.set 1:Nat),.int .u64 (t.set 2:Nat),.int .u64 (t.set 3:Nat),.slice sa sn sc,.int .i64 t.lo,.int .i64 t.hi]] w2 fun e w'=>∃ v',e=.returned v'∧Chg (fun x=>v.ownBlock=some x) w2 w'∧RowA w' a m' (fun x=>x<m'∨w.heap.size≤x) v' (gath k ts t):=by
 have hG2:=hG.below hb
 have:=gathered_any w2 a mi mi m' w.heap.size v ts t k hG2.row hG2.nil (ht.chg (Chg.of_below (R:=fun _=>False) hb) fun _ _ _ _=>id) (Nat.le_refl _) hG.le hmm (by have:=h3.le;omega) hG2.chg.size hne (by omega)
 rw [nodeAgg_v hs] at this
 exact this
theorem row_fin (hG:GI w a M k f rs i v ts mi wr) (hb:Below wr.heap.size wr w2):Res w2 a w2.heap.size (joinV k v ts):=by
 have hG2:=hG.below hb
 refine (Res.join (M:=w2.heap.size) (P:=fun x=>x<w2.heap.size) ⟨hG2.row.own,fun x hx=>(hG2.row.own.lt x hx).2,fun p hp=>OwnT.mono (hG2.row.kids p hp) fun b hb hr=>⟨⟨hr.1.1,hb,hr.1.2.2⟩,hr.2⟩⟩ (Nat.le_refl _) (fun x hx=>hx) k)
theorem row_done (hs:t.v=.slice sa sn sc) (ht:Res w2 a w2.heap.size t) (hG:GI w a M k f rs i v ts mi wr) (hb:Below wr.heap.size wr w2) (hc:Chg (fun x=>x=w.heap.size) w2 w3) :
  GivesS a (erase t,n) (.returned (.agg #[.int .i64 t.kind,.int .u64 (t.set 0:Nat),.int .u64 (t.set 1:Nat),.int .u64 (t.set 2:Nat),.int .u64 (t.set 3:Nat),.slice sa sn sc,.int .i64 t.lo,.int .i64 t.hi,.bool n])) w3∧Chg (fun x=>a≤x∧NT w x) w w3:=by
 have hG2:=hG.below hb
 exact ⟨⟨(t,n),by rw [rcells_v hs],rfl,(res_box ht hG2.zb hc).wid (Nat.le_refl _) hc.size⟩,chg_box hG2.chg hc (Nat.le_refl _)⟩
end
set_option maxHeartbeats 4000000 in
set_option maxRecDepth 100000 in
theorem row_any (a M base:Nat) (rs:List (V×Bool)) (pv:Value) (w:World) (hseq:SeqR w a rs M) (hM:M≤w.heap.size) (hown:w.ownsRow base 117 9 pv rs.length (rs.flatMap rcells))
  (hne:∀ r∈rs,r.1.kind=2→r.1.ps≠[]) (hsz:szR rs≤900000) :
  Calls Tryd.prog 63 #[pv] w fun e w'=>GivesS a (rowP (rs.map er)) e w'∧Chg (fun x=>a≤x∧NT w x) w w':=by
 obtain ⟨A,cp,hpv⟩:=own_form hown
 subst hpv
 have hlen:rs.length≤900000:=by
  refine Nat.le_trans ?_ hsz
  clear hsz hne hown hseq
  induction rs with
  | nil=>simp
  | cons r rs ih=>simp only [szR,List.map_cons,List.sum_cons,List.length_cons] at ih ⊢;omega
 have HST:=Lib.hid (GI.start 2 fR hseq)
 have HO:=Lib.hid (And.intro hown (And.intro hM (And.intro hne hsz)))
 have hn0:(0:Int)≤(rs.length:Int):=by omega
 have hn1:(rs.length:Int)≤900000:=by omega
 obtain ⟨w0,hw0⟩ : ∃ w0,w.alloc (.cells #[.int .i64 0,.int .u64 0,.int .u64 0,.int .u64 0,.int .u64 0,.slice none 0 0,.int .i64 0,.int .i64 0,.bool false] 117)=w0:=⟨_,rfl⟩
 rw [hw0] at HST
 clear hseq hM hown hne hsz hlen
 go_enter Tryd.func63,Tryd.ntmps63
 go_wp2_with fail
 clear hw0
 go_loopw [3,4,9] (fun nb v x wr=>∃ (i:Nat) (b:Bool),x=.int .i64 i∧nb=.bool b∧i≤rs.length∧RI w a M rs i b v wr) (fun _ _ x _=>match x with | .int _ z=>rs.length - z.toNat | _=>0)
 case atStart=>exact ⟨0,true,rfl,rfl,by omega,[],a,HST.out,by simp,by simp⟩
 case round =>
  obtain ⟨i,b,rfl,rfl,hi,ts,mi,hG,hb,hv0⟩:=hrel
  have hGo:=hG.parts HO.out.1
  obtain ⟨vA,vcp,hvv⟩:=own_form hG.row.own
  obtain ⟨q,hq⟩ : ∃ q,q=ts.length:=⟨_,rfl⟩
  rw [← hq] at hvv
  subst hvv
  have HG:=Lib.hid (And.intro hG (And.intro hb (And.intro hv0 hq)))
  clear HST hb hv0 hq
  by_cases hlt:i<rs.length
  ·have g1:(i:Int)<(rs.length:Int):=by omega
   have g0:(0:Int)≤(i:Int):=by omega
   obtain ⟨r,hr⟩ : ∃ r,rs[i]? = some r:=⟨_,List.getElem?_eq_getElem hlt⟩
   obtain ⟨t,n⟩:=r
   obtain ⟨g,cap,hgv,_,hgl⟩:=hGo.form (by omega)
   obtain ⟨m',a1,a2,a3,a4⟩:=hG.here hr
   obtain ⟨sa,sc,hs⟩:=own_form a2.row.own
   obtain ⟨sn,hsn⟩ : ∃ sn,sn=t.ps.length:=⟨_,rfl⟩
   rw [← hsn] at hs
   have hc:∀ j,j<9→wr.cell? ⟨g,i * 9+j,none⟩=(rcells (t,n))[j]?:=fun j hj=>by
    have h:=hGo
    rw [hgv] at h
    rw [h.cellAt _ (by omega),rcells_at rs i (t,n) hr j hj]
   have y0:wr.cell? ⟨g,i * 9,none⟩=some (.int .i64 t.kind):=hc 0 (by decide)
   have y1:wr.cell? ⟨g,i * 9+1,none⟩=some (.int .u64 (t.set 0:Nat)):=hc 1 (by decide)
   have y2:wr.cell? ⟨g,i * 9+2,none⟩=some (.int .u64 (t.set 1:Nat)):=hc 2 (by decide)
   have y3:wr.cell? ⟨g,i * 9+3,none⟩=some (.int .u64 (t.set 2:Nat)):=hc 3 (by decide)
   have y4:wr.cell? ⟨g,i * 9+4,none⟩=some (.int .u64 (t.set 3:Nat)):=hc 4 (by decide)
   have y5:wr.cell? ⟨g,i * 9+5,none⟩=some (.slice sa sn sc):=(hc 5 (by decide)).trans (congrArg some hs)
   have y6:wr.cell? ⟨g,i * 9+6,none⟩=some (.int .i64 t.lo):=hc 6 (by decide)
   have y7:wr.cell? ⟨g,i * 9+7,none⟩=some (.int .i64 t.hi):=hc 7 (by decide)
   have y8:wr.cell? ⟨g,i * 9+8,none⟩=some (.bool n):=hc 8 (by decide)
   obtain ⟨w1,hw1,hb1,hz1,hbx⟩:=boxr_new wr t (.slice sa sn sc) n
   have HR:=Lib.hid (And.intro hr (And.intro hs (And.intro a1 (And.intro a2 (And.intro a3 a4)))))
   have HB:=Lib.hid (And.intro hb1 (And.intro hz1 hbx))
   have HI:=Lib.hid hlt
   cases hgv
   clear hc hG hGo hr a1 a2 a3 a4 hs hsn hb1 hz1 hbx hlt hi
   go_upto_region 6 with fail
   clear hw1
   obtain ⟨b0,b1,b2,b3,b4,b5,b6,b7,b8⟩:=HB.out.2.2 w1 (Below.refl _ _)
   have HVO:=Lib.hid (sVoid_any t (.slice sa sn sc) n w1)
   cases hvb:vB (erase t) with
   | true =>
    rw [hvb] at HVO
    have HE:=Lib.hid (row_void (HG.out.2.2.1) HR.out.1 hvb)
    clear hvb
    go_wp2_with fail
    go_at_call 84
    refine HVO.out.mono ?_
    rintro e w2 ⟨rfl,hb2⟩
    have HB2:=Lib.hid (bhop HB.out.1 hb2)
    clear b0 b1 b2 b3 b4 b5 b6 b7 b8
    obtain ⟨b0,b1,b2,b3,b4,b5,b6,b7,b8⟩:=HB.out.2.2 w2 hb2
    obtain ⟨⟨s0,s1,s2,s3,s4,s5,s6,s7,s8⟩,f0,f1,f2,f3,f4,f5,f6,f7,f8,hl⟩:=(HG.out.1.below HB2.out).zb.cells
    clear hb2 y0 y1 y2 y3 y4 y5 y6 y7 y8
    go_wp2_with fail
    have hf:=set9x_heap (HG.out.1.below HB2.out).zb (.int .i64 t.kind) (.int .u64 (t.set 0:Nat)) (.int .u64 (t.set 1:Nat)) (.int .u64 (t.set 2:Nat)) (.int .u64 (t.set 3:Nat)) (.slice sa sn sc) (.int .i64 t.lo) (.int .i64 t.hi) (.bool n)
    have hch:=set9x_chg w2 w.heap.size (.int .i64 t.kind) (.int .u64 (t.set 0:Nat)) (.int .u64 (t.set 1:Nat)) (.int .u64 (t.set 2:Nat)) (.int .u64 (t.set 3:Nat)) (.slice sa sn sc) (.int .i64 t.lo) (.int .i64 t.hi) (.bool n)
    clear s0 s1 s2 s3 s4 s5 s6 s7 s8 f0 f1 f2 f3 f4 f5 f6 f7 f8 b0 b1 b2 b3 b4 b5 b6 b7 b8
    generalize (((((((((w2.setCell ⟨w.heap.size,0,none⟩ (.int .i64 t.kind)).setCell ⟨w.heap.size,1,none⟩ (.int .u64 (t.set 0:Nat))).setCell ⟨w.heap.size,2,none⟩ (.int .u64 (t.set 1:Nat))).setCell ⟨w.heap.size,3,none⟩ (.int .u64 (t.set 2:Nat))).setCell ⟨w.heap.size,4,none⟩ (.int .u64 (t.set 3:Nat))).setCell ⟨w.heap.size,5,none⟩ (.slice sa sn sc)).setCell ⟨w.heap.size,6,none⟩ (.int .i64 t.lo)).setCell ⟨w.heap.size,7,none⟩ (.int .i64 t.hi)).setCell ⟨w.heap.size,8,none⟩ (.bool n))=w3 at *
    obtain ⟨r0,r1,r2,r3,r4,r5,r6,r7,r8⟩:=cells9 hf
    refine bodyPost_ret (v:=.agg #[.int .i64 t.kind,.int .u64 (t.set 0:Nat),.int .u64 (t.set 1:Nat),.int .u64 (t.set 2:Nat),.int .u64 (t.set 3:Nat),.slice sa sn sc,.int .i64 t.lo,.int .i64 t.hi,.bool n]) (by simp [results,Tryd.results63,go_sem,r0,r1,r2,r3,r4,r5,r6,r7,r8]) rfl ?_
    rw [HE.out]
    exact row_gives HG.out.1 HR.out.2.1 HR.out.2.2.2.1 HR.out.2.2.2.2.1 HO.out.2.1 HB2.out hch
   | false =>
    rw [hvb] at HVO
    have HZ:=Lib.hid hvb
    clear hvb
    have HGA:=Lib.hid (fun (W:World) (h:Below wr.heap.size wr W) (hk:t.kind≠0)=>row_call HG.out.1 HR.out.1 HR.out.2.1 HR.out.2.2.1 HR.out.2.2.2.1 HR.out.2.2.2.2.1 HR.out.2.2.2.2.2 HO.out.2.1 (HO.out.2.2.1 _ (List.mem_of_getElem? HR.out.1)) HO.out.2.2.2 HG.out.2.2.2 h)
    by_cases hk:t.kind=0
    ·have gk:(t.kind != 0)=false:=by simp [hk]
     have HF:=Lib.hid (show fR (erase t)=false by unfold fR;rw [erase_kind,hk];rfl)
     clear hk HGA
     cases b <;> cases n
     all_goals
      go_wp2_with fail
      go_at_call 84
      refine HVO.out.mono ?_
      rintro e w2 ⟨rfl,hb2⟩
      have HB2:=Lib.hid (bhop HB.out.1 hb2)
      clear b0 b1 b2 b3 b4 b5 b6 b7 b8
      obtain ⟨b0,b1,b2,b3,b4,b5,b6,b7,b8⟩:=HB.out.2.2 w2 hb2
      clear hb2 y0 y1 y2 y3 y4 y5 y6 y7 y8
      go_wp2_with fail
      go_roundw
      case rel =>
       obtain ⟨m2,h2⟩:=(HG.out.1.below HB2.out).skip HR.out.1 HF.out
       exact ⟨i+1,_,by push_cast;rfl,rfl,HI.out,_,_,h2,row_all HR.out.1 HG.out.2.1,row_no HR.out.1 HG.out.2.2.1 HZ.out⟩
      case measure=>have:=HI.out;simp;omega
    ·have gk:(t.kind != 0)=true:=by simp [hk]
     have HF:=Lib.hid (show fR (erase t)=true by unfold fR;rw [erase_kind];simpa using hk)
     have HK:=Lib.hid hk
     clear hk
     cases b <;> cases n
     all_goals
      go_wp2_with fail
      go_at_call 84
      refine HVO.out.mono ?_
      rintro e w2 ⟨rfl,hb2⟩
      have HB2:=Lib.hid (bhop HB.out.1 hb2)
      clear b0 b1 b2 b3 b4 b5 b6 b7 b8
      obtain ⟨b0,b1,b2,b3,b4,b5,b6,b7,b8⟩:=HB.out.2.2 w2 hb2
      clear hb2 y0 y1 y2 y3 y4 y5 y6 y7 y8
      go_wp2_with fail
      go_at_call 85
      refine (HGA.out w2 HB2.out HK.out).mono ?_
      rintro e w3 ⟨v',rfl,hc3,hrow3⟩
      have HC:=Lib.hid (And.intro hc3 hrow3)
      clear hc3 hrow3 b0 b1 b2 b3 b4 b5 b6 b7 b8
      go_wp2_with fail
      go_roundw
      case rel =>
       exact ⟨i+1,_,by push_cast;rfl,rfl,HI.out,_,_,(HG.out.1.below HB2.out).more HR.out.1 HF.out (HO.out.2.2.1 _ (List.mem_of_getElem? HR.out.1)) (HR.out.2.2.2.2.1.chg (Chg.of_below (R:=fun _=>False) HB2.out) fun _ _ _ _=>id) HR.out.2.2.1 HR.out.2.2.2.2.2 HO.out.2.1 HC.out.1 HC.out.2,row_all HR.out.1 HG.out.2.1,row_no HR.out.1 HG.out.2.2.1 HZ.out⟩
      case measure=>have:=HI.out;simp;omega
  ·have hi2:i=rs.length:=by omega
   subst hi2
   have HJ:=Lib.hid (cjoined_any a mi (fun x=>x<mi∨w.heap.size≤x) 2 (.slice vA q vcp) ts wr hG.row (by have h1:=HG.out.1.len;have h2:=HO.out.2.2.2;omega))
   have HE:=Lib.hid (row_end (v:=.slice vA q vcp) HG.out.1.er HG.out.2.1 HG.out.2.2.1)
   have HRS:=Lib.hid (fun (W:World) (h:Below wr.heap.size wr W)=>row_fin hG h)
   clear hG hGo hlt hi
   generalize joinV 2 (.slice vA q vcp) ts=t at *
   go_wp2_with fail
   go_at_call 86
   refine HJ.out.mono ?_
   rintro e w2 ⟨⟨sa,sn,sc,hs,rfl⟩,hb2⟩
   have HB2:=Lib.hid hb2
   have HS:=Lib.hid hs
   obtain ⟨⟨s0,s1,s2,s3,s4,s5,s6,s7,s8⟩,f0,f1,f2,f3,f4,f5,f6,f7,f8,hl⟩:=(HG.out.1.below HB2.out).zb.cells
   clear hb2 hs
   go_wp2_with fail
   have hf:=set9x_heap (HG.out.1.below HB2.out).zb (.int .i64 t.kind) (.int .u64 (t.set 0:Nat)) (.int .u64 (t.set 1:Nat)) (.int .u64 (t.set 2:Nat)) (.int .u64 (t.set 3:Nat)) (.slice sa sn sc) (.int .i64 t.lo) (.int .i64 t.hi) (.bool b)
   have hch:=set9x_chg w2 w.heap.size (.int .i64 t.kind) (.int .u64 (t.set 0:Nat)) (.int .u64 (t.set 1:Nat)) (.int .u64 (t.set 2:Nat)) (.int .u64 (t.set 3:Nat)) (.slice sa sn sc) (.int .i64 t.lo) (.int .i64 t.hi) (.bool b)
   clear s0 s1 s2 s3 s4 s5 s6 s7 s8 f0 f1 f2 f3 f4 f5 f6 f7 f8
   generalize (((((((((w2.setCell ⟨w.heap.size,0,none⟩ (.int .i64 t.kind)).setCell ⟨w.heap.size,1,none⟩ (.int .u64 (t.set 0:Nat))).setCell ⟨w.heap.size,2,none⟩ (.int .u64 (t.set 1:Nat))).setCell ⟨w.heap.size,3,none⟩ (.int .u64 (t.set 2:Nat))).setCell ⟨w.heap.size,4,none⟩ (.int .u64 (t.set 3:Nat))).setCell ⟨w.heap.size,5,none⟩ (.slice sa sn sc)).setCell ⟨w.heap.size,6,none⟩ (.int .i64 t.lo)).setCell ⟨w.heap.size,7,none⟩ (.int .i64 t.hi)).setCell ⟨w.heap.size,8,none⟩ (.bool b))=w3 at *
   obtain ⟨r0,r1,r2,r3,r4,r5,r6,r7,r8⟩:=cells9 hf
   refine bodyPost_ret (v:=.agg #[.int .i64 t.kind,.int .u64 (t.set 0:Nat),.int .u64 (t.set 1:Nat),.int .u64 (t.set 2:Nat),.int .u64 (t.set 3:Nat),.slice sa sn sc,.int .i64 t.lo,.int .i64 t.hi,.bool b]) (by simp [results,Tryd.results63,go_sem,r0,r1,r2,r3,r4,r5,r6,r7,r8]) rfl ?_
   rw [HE.out]
   exact row_done HS.out (HRS.out w2 HB2.out) HG.out.1 HB2.out hch
end Go.Proofs.YtbohmcfplgdlpaaDoor
