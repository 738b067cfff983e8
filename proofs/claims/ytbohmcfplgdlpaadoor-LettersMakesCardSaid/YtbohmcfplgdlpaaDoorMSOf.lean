/- A node made simple, of its parts' results: the contract.
   Conditions: the node is formed; the results are its melted parts', their own, in memory, one behind the other. -/
import Derived.Test.YtbohmcfplgdlpaaDoorMEith
import Derived.Deep.RegionWith
import Derived.Deep.DeepCutAuto

/- A node made simple, of its parts' results: a contract.
   Conditions: the node is formed; the results are its melted parts', their own, in memory, one behind the other. -/
namespace Go.Proofs.YtbohmcfplgdlpaaDoor
open Go.RowKit Go.Shelf
attribute [local go_sem] nodeAgg
mutual
theorem flatw_sz (k:Int):∀ t:V,szsT (erases (flatV k t))≤szT (erase t)
 | .node k' C lo hi v ps=>by
  have:=flatsw_sz k ps
  rw [flatV,erase,szT]
  split
  ·omega
  ·rw [erases,erases,szsT,szsT,erase,szT];omega
theorem flatsw_sz (k:Int):∀ ts:List V,szsT (erases (flatsV k ts))≤szsT (erases ts)
 | []=>by rw [flatsV];exact Nat.le_refl _
 | t :: ts=>by
  have h1:=flatw_sz k t
  have h2:=flatsw_sz k ts
  rw [flatsV,erases,erases_append,szw_append,szsT]
  omega
end
def OfR (us:List V) (rs:List (V×Bool)):Prop:=rs.map er=us.map fun u=>resT (erase u)
theorem OfR.sz:∀ {us:List V} {rs:List (V×Bool)},OfR us rs→szR rs≤szsT (erases us)∧∀ r∈rs,szT (erase r.1)≤szsT (erases us)
 | [],[],_=>⟨Nat.zero_le _,fun r hr=>by cases hr⟩
 | u :: us,r :: rs,h=>by
  unfold OfR at h
  rw [List.map_cons,List.map_cons,List.cons.injEq] at h
  obtain ⟨h1,h2⟩:=h
  obtain ⟨i1,i2⟩:=OfR.sz (us:=us) (rs:=rs) h2
  have e:erase r.1=simT (erase u):=congrArg Prod.fst h1
  have hs:=sim_sz (erase u)
  rw [← e] at hs
  have hl:r.1.ps.length+1≤szT (erase r.1):=by
   have h3:=sz_eq r.1
   have h4:=len_sz r.1.ps
   omega
  rw [erases,szsT]
  refine ⟨?_,fun r' hr'=>?_⟩
  ·simp only [szR,List.map_cons,List.sum_cons] at i1 ⊢
   omega
  ·rcases List.mem_cons.1 hr' with rfl | hr'
   ·omega
   ·have:=i2 r' hr';omega
 | [],_ :: _,h=>by simp [OfR] at h
 | _ :: _,[],h=>by simp [OfR] at h
theorem OfR.good {us:List V} {rs:List (V×Bool)} (h:OfR us rs) (hok:∀ u∈us,okT (erase u)=true):∀ r∈rs,GoodT (erase r.1):=fun r hr=>by
 have h1:er r∈us.map fun u=>resT (erase u):=by rw [← h];exact List.mem_map_of_mem hr
 obtain ⟨u,hu,e⟩:=List.mem_map.1 h1
 exact ⟨erase u,hok u hu,(congrArg Prod.fst e).symm⟩
theorem OfR.len {us:List V} {rs:List (V×Bool)} (h:OfR us rs):rs.length=us.length:=by
 have:=congrArg List.length h
 simpa using this
theorem flats_okF (k:Int) {ps:List V} (h:oksT (erases ps)=true):∀ u∈flatsV k ps,okT (erase u)=true:=fun u hu=>by
 refine flats_okT k _ h _ ?_
 rw [← flats_erase,erases_map]
 exact List.mem_map_of_mem hu
theorem of_fin {w w0 w2 w3:World} {a:Nat} {t:V} {n:Bool} {x:T×Bool} {sa:Option Addr} {sn sc:Nat} (h0:Below w.heap.size w w0) (hz:ZB9 w.heap.size w0) (hc:Chg (fun x=>a≤x∧NT w0 x) w0 w2) (hx:er (t,n)=x) (hs:t.v=.slice sa sn sc) (hr:Res w2 a w2.heap.size t)
  (h3:Chg (fun x=>x=w.heap.size) w2 w3):GivesS a x (.returned (.agg #[.int .i64 t.kind,.int .u64 (t.set 0:Nat),.int .u64 (t.set 1:Nat),.int .u64 (t.set 2:Nat),.int .u64 (t.set 3:Nat),.slice sa sn sc,.int .i64 t.lo,.int .i64 t.hi,.bool n])) w3∧Chg (fun x=>a≤x∧NT w x) w w3:=by
 have hz2:ZB9 w.heap.size w2:=hz.keep (hc.block _ hz.lt fun e=>by
  obtain ⟨cs,m0,h6⟩:=e.2
  have h7:w0.heap[w.heap.size]? = _:=hz
  rw [h7] at h6
  have:=Option.some.inj h6
  simp only [Obj.cells.injEq] at this
  exact absurd this.2.1 (by decide))
 refine ⟨⟨(t,n),by rw [rcells_v hs],hx,(res_box hr hz2 h3).wid (Nat.le_refl _) h3.size⟩,?_⟩
 refine ((Chg.of_below (R:=fun x=>a≤x∧NT w x) h0).trans hc fun x hx e=>⟨e.1,e.2.keep (h0.block x hx).symm⟩).trans h3 fun x hx e=>by omega
theorem of_zb {w w0 w2:World} {a:Nat} (hz:ZB9 w.heap.size w0) (hc:Chg (fun x=>a≤x∧NT w0 x) w0 w2):ZB9 w.heap.size w2:=hz.keep (hc.block _ hz.lt fun e=>by
  obtain ⟨cs,m0,h6⟩:=e.2
  have h7:w0.heap[w.heap.size]? = _:=hz
  rw [h7] at h6
  have:=Option.some.inj h6
  simp only [Obj.cells.injEq] at this
  exact absurd this.2.1 (by decide))
theorem res_zero {t:V} (hok:okF t) (hk:t.kind=0):(noT,true)=resT (erase t):=by
 cases t with
 | node k C lo hi v ps =>
  have h:=hok
  unfold okF at h
  rw [erase] at h
  have hk':k=0:=hk
  have ha:=of_decide_eq_true (ok_kind h)
  rcases ha with ⟨_,hz,h1,h2,h3⟩ | h | h | h
  ·subst hk' h1 h2
   have h4:erases ps=[]:=List.length_eq_zero_iff.1 h3
   rw [resT,erase,h4,simT,if_neg (by simp [vdT]),if_pos (by decide),wash_zero hz]
   simp [nuT]
  ·omega
  ·omega
  ·omega
theorem res_one {t:V} (hok:okF t) (hk:t.kind=1):(T.node 1 (wash t.set) 0 0 [],false)=resT (erase t):=by
 cases t with
 | node k C lo hi v ps =>
  have h:=hok
  unfold okF at h
  rw [erase] at h
  have hk':k=1:=hk
  have ha:=of_decide_eq_true (ok_kind h)
  rcases ha with h | ⟨_,h1,h2,h3⟩ | h | h
  ·omega
  ·subst hk' h1 h2
   have h4:erases ps=[]:=List.length_eq_zero_iff.1 h3
   rw [resT,erase,h4,simT]
   show (T.node 1 (wash C) 0 0 [],false)=_
   split
   ·rename_i hv
    have hz:z4 C=true:=by rw [vdT,if_pos rfl] at hv;exact hv
    rw [wash_zero hz]
    simp [nuT]
   ·rw [if_pos (by decide)]
    simp [nuT]
  ·omega
  ·omega
end Go.Proofs.YtbohmcfplgdlpaaDoor

/- A node made simple, of its parts' results: the contract.
   Conditions: the node is formed; the results are its melted parts', their own, in memory, one behind the other. -/
namespace Go.Proofs.YtbohmcfplgdlpaaDoor
open Go.RowKit Go.Shelf
attribute [local go_sem] nodeAgg
mutual
theorem flat_some (k:Int):∀ p:V,okF p→flatV k p≠[]
 | .node k' C lo hi v ps,h=>by
  have h2:=h
  unfold okF at h2
  rw [erase] at h2
  have ha:=of_decide_eq_true (ok_kind h2)
  rw [erases_len] at ha
  rw [flatV]
  split
  ·rename_i hm
   refine flats_some k ps (fun p hp=>h.part hp) fun e=>?_
   rw [e] at ha
   unfold meltK at hm
   simp only [List.length_nil] at ha
   rcases ha with h | h | h | h
   ·rw [if_neg (by omega),if_neg (by omega)] at hm;cases hm
   ·rw [if_neg (by omega),if_neg (by omega)] at hm;cases hm
   ·omega
   ·omega
  ·simp
theorem flats_some (k:Int):∀ ps:List V,(∀ p∈ps,okF p)→ps≠[]→flatsV k ps≠[]
 | [],_,h=>absurd rfl h
 | p :: _,h,_=>by
  rw [flatsV]
  exact fun e=>flat_some k p (h p (by simp)) (List.append_eq_nil_iff.1 e).1
end
theorem flats_ne {t:V} (hok:okF t) (hk:t.kind=3):flatsV 3 t.ps≠[]:=by
 refine flats_some 3 t.ps (fun p hp=>hok.part hp) fun e=>?_
 cases t with
 | node k C lo hi v ps =>
  have h2:=hok
  unfold okF at h2
  rw [erase] at h2
  have ha:=of_decide_eq_true (ok_kind h2)
  have e':ps=[]:=e
  have hk':k=3:=hk
  rw [e'] at ha
  simp [erases] at ha
  omega
set_option maxHeartbeats 4000000 in
set_option maxRecDepth 100000 in
theorem simpleOf_0 (B base a M b o:Nat) (t:V) (rs:List (V×Bool)) (pv:Value) (w:World) (hnode:NodeB B w b o t) (hok:okF t) (hown:w.ownsRow base 117 9 pv rs.length (rs.flatMap rcells)) (hseq:SeqR w a rs M) (hM:M≤w.heap.size)
  (hrs:OfR (flatsV t.kind t.ps) rs) (hsz:szT (erase t)≤500000) (hk:t.kind=0) :
  Calls Tryd.prog 45 #[.pointer (some ⟨b,o,none⟩),pv] w fun e w'=>GivesS a (resT (erase t)) e w'∧Chg (fun x=>a≤x∧NT w x) w w':=by
 obtain ⟨A,cp,hpv⟩:=own_form hown
 subst hpv
 obtain ⟨w0,hw0⟩ : ∃ w0,w.alloc (.cells #[.int .i64 0,.int .u64 0,.int .u64 0,.int .u64 0,.int .u64 0,.slice none 0 0,.int .i64 0,.int .i64 0,.bool false] 117)=w0:=⟨_,rfl⟩
 have hb0:Below w.heap.size w w0:=hw0▸(Below.refl _ w).alloc (Nat.le_refl _) _
 have hz:ZB9 w.heap.size w0:=by rw [← hw0];exact heap_alloc_new w _
 obtain ⟨x0,x1,x2,x3,x4,x5,x6,x7⟩:=node_cells hnode.2.1 hnode.at.lt hb0
 have hlt:=Nat.lt_of_lt_of_le hnode.at.lt hb0.size
 have hsq0:SeqR w0 a rs M:=hseq.chg (Chg.of_below (R:=fun _=>False) hb0) fun _ _ _ _=>id
 have hown0:w0.ownsRow base 117 9 (.slice A rs.length cp) rs.length (rs.flatMap rcells):=own_chg hown (Chg.of_below (R:=fun _=>False) hb0) fun _ _=>id
 have hM0:M≤w0.heap.size:=Nat.le_trans hM hb0.size
 have hal:a≤w0.heap.size:=Nat.le_trans hseq.le hM0
 have hfs:=flatsw_sz t.kind t.ps
 have hts:=sz_eq t
 obtain ⟨hs1,hs2⟩:=hrs.sz
 have hoks:oksT (erases t.ps)=true:=by
  have h:=hok
  unfold okF at h
  cases t with
  | node k C lo hi v ps=>rw [erase] at h;exact ok_parts h
 have hgd:=hrs.good (flats_okF t.kind hoks)
 have H0:=Lib.hid (And.intro hb0 hz)
 have HE:=Lib.hid (res_zero hok hk)
 rw [hk] at x0
 obtain ⟨⟨s0,s1,s2,s3,s4,s5,s6,s7,s8⟩,f0,f1,f2,f3,f4,f5,f6,f7,f8,hl⟩:=hz.cells
 clear hnode hok hown hseq hM hrs hsz hb0 hz hsq0 hown0 hM0 hal hfs hts hs1 hs2 hoks hgd
 go_enter Tryd.func45,Tryd.ntmps45
 go_upto_region 1 with fail
 clear hw0
 go_wp2_with fail
 have hf:=set9x_heap H0.out.2 (.int .i64 0) (.int .u64 0) (.int .u64 0) (.int .u64 0) (.int .u64 0) (.slice none 0 0) (.int .i64 0) (.int .i64 0) (.bool true)
 have hch:=set9x_chg w0 w.heap.size (.int .i64 0) (.int .u64 0) (.int .u64 0) (.int .u64 0) (.int .u64 0) (.slice none 0 0) (.int .i64 0) (.int .i64 0) (.bool true)
 clear s0 s1 s2 s3 s4 s5 s6 s7 s8 f0 f1 f2 f3 f4 f5 f6 f7 f8
 generalize (((((((((w0.setCell ⟨w.heap.size,0,none⟩ (.int .i64 0)).setCell ⟨w.heap.size,1,none⟩ (.int .u64 0)).setCell ⟨w.heap.size,2,none⟩ (.int .u64 0)).setCell ⟨w.heap.size,3,none⟩ (.int .u64 0)).setCell ⟨w.heap.size,4,none⟩ (.int .u64 0)).setCell ⟨w.heap.size,5,none⟩ (.slice none 0 0)).setCell ⟨w.heap.size,6,none⟩ (.int .i64 0)).setCell ⟨w.heap.size,7,none⟩ (.int .i64 0)).setCell ⟨w.heap.size,8,none⟩ (.bool true))=w3 at *
 obtain ⟨r0,r1,r2,r3,r4,r5,r6,r7,r8⟩:=cells9 hf
 refine bodyPost_ret (v:=.agg #[.int .i64 0,.int .u64 0,.int .u64 0,.int .u64 0,.int .u64 0,.slice none 0 0,.int .i64 0,.int .i64 0,.bool true]) (by simp [results,Tryd.results45,go_sem,r0,r1,r2,r3,r4,r5,r6,r7,r8]) rfl ?_
 rw [← HE.out]
 exact of_fin (t:=zeroV) (w2:=w0) H0.out.1 H0.out.2 (Chg.refl _ _) rfl rfl (Res.leaf _ _ _ _ _ _ _) hch
set_option maxHeartbeats 4000000 in
set_option maxRecDepth 100000 in
theorem simpleOf_1 (B base a M b o:Nat) (t:V) (rs:List (V×Bool)) (pv:Value) (w:World) (hnode:NodeB B w b o t) (hok:okF t) (hown:w.ownsRow base 117 9 pv rs.length (rs.flatMap rcells)) (hseq:SeqR w a rs M) (hM:M≤w.heap.size)
  (hrs:OfR (flatsV t.kind t.ps) rs) (hsz:szT (erase t)≤500000) (hk:t.kind=1) :
  Calls Tryd.prog 45 #[.pointer (some ⟨b,o,none⟩),pv] w fun e w'=>GivesS a (resT (erase t)) e w'∧Chg (fun x=>a≤x∧NT w x) w w':=by
 obtain ⟨A,cp,hpv⟩:=own_form hown
 subst hpv
 obtain ⟨w0,hw0⟩ : ∃ w0,w.alloc (.cells #[.int .i64 0,.int .u64 0,.int .u64 0,.int .u64 0,.int .u64 0,.slice none 0 0,.int .i64 0,.int .i64 0,.bool false] 117)=w0:=⟨_,rfl⟩
 have hb0:Below w.heap.size w w0:=hw0▸(Below.refl _ w).alloc (Nat.le_refl _) _
 have hz:ZB9 w.heap.size w0:=by rw [← hw0];exact heap_alloc_new w _
 obtain ⟨x0,x1,x2,x3,x4,x5,x6,x7⟩:=node_cells hnode.2.1 hnode.at.lt hb0
 have hlt:=Nat.lt_of_lt_of_le hnode.at.lt hb0.size
 have hsq0:SeqR w0 a rs M:=hseq.chg (Chg.of_below (R:=fun _=>False) hb0) fun _ _ _ _=>id
 have hown0:w0.ownsRow base 117 9 (.slice A rs.length cp) rs.length (rs.flatMap rcells):=own_chg hown (Chg.of_below (R:=fun _=>False) hb0) fun _ _=>id
 have hM0:M≤w0.heap.size:=Nat.le_trans hM hb0.size
 have hal:a≤w0.heap.size:=Nat.le_trans hseq.le hM0
 have hfs:=flatsw_sz t.kind t.ps
 have hts:=sz_eq t
 obtain ⟨hs1,hs2⟩:=hrs.sz
 have hoks:oksT (erases t.ps)=true:=by
  have h:=hok
  unfold okF at h
  cases t with
  | node k C lo hi v ps=>rw [erase] at h;exact ok_parts h
 have hgd:=hrs.good (flats_okF t.kind hoks)
 have H0:=Lib.hid (And.intro hb0 hz)
 have HE:=Lib.hid (res_one hok hk)
 rw [hk] at x0
 obtain ⟨⟨s0,s1,s2,s3,s4,s5,s6,s7,s8⟩,f0,f1,f2,f3,f4,f5,f6,f7,f8,hl⟩:=hz.cells
 clear hnode hok hown hseq hM hrs hsz hb0 hz hsq0 hown0 hM0 hal hfs hts hs1 hs2 hoks hgd
 go_enter Tryd.func45,Tryd.ntmps45
 go_upto_region 1 with fail
 clear hw0
 go_wp2_with fail
 have hf:=set9x_heap H0.out.2 (.int .i64 1) (.int .u64 (t.set 0:Nat)) (.int .u64 (t.set 1:Nat)) (.int .u64 (t.set 2:Nat)) (.int .u64 (t.set 3:Nat)) (.slice none 0 0) (.int .i64 0) (.int .i64 0) (.bool false)
 have hch:=set9x_chg w0 w.heap.size (.int .i64 1) (.int .u64 (t.set 0:Nat)) (.int .u64 (t.set 1:Nat)) (.int .u64 (t.set 2:Nat)) (.int .u64 (t.set 3:Nat)) (.slice none 0 0) (.int .i64 0) (.int .i64 0) (.bool false)
 clear s0 s1 s2 s3 s4 s5 s6 s7 s8 f0 f1 f2 f3 f4 f5 f6 f7 f8
 generalize (((((((((w0.setCell ⟨w.heap.size,0,none⟩ (.int .i64 1)).setCell ⟨w.heap.size,1,none⟩ (.int .u64 (t.set 0:Nat))).setCell ⟨w.heap.size,2,none⟩ (.int .u64 (t.set 1:Nat))).setCell ⟨w.heap.size,3,none⟩ (.int .u64 (t.set 2:Nat))).setCell ⟨w.heap.size,4,none⟩ (.int .u64 (t.set 3:Nat))).setCell ⟨w.heap.size,5,none⟩ (.slice none 0 0)).setCell ⟨w.heap.size,6,none⟩ (.int .i64 0)).setCell ⟨w.heap.size,7,none⟩ (.int .i64 0)).setCell ⟨w.heap.size,8,none⟩ (.bool false))=w3 at *
 obtain ⟨r0,r1,r2,r3,r4,r5,r6,r7,r8⟩:=cells9 hf
 refine bodyPost_ret (v:=.agg #[.int .i64 1,.int .u64 (t.set 0:Nat),.int .u64 (t.set 1:Nat),.int .u64 (t.set 2:Nat),.int .u64 (t.set 3:Nat),.slice none 0 0,.int .i64 0,.int .i64 0,.bool false]) (by simp [results,Tryd.results45,go_sem,r0,r1,r2,r3,r4,r5,r6,r7,r8]) rfl ?_
 rw [← HE.out]
 exact of_fin (t:=.node 1 (wash t.set) 0 0 (.slice none 0 0) []) (w2:=w0) H0.out.1 H0.out.2 (Chg.refl _ _) rfl rfl (Res.leaf _ _ _ _ _ _ _) hch
set_option maxHeartbeats 4000000 in
set_option maxRecDepth 100000 in
theorem simpleOf_2 (B base a M b o:Nat) (t:V) (rs:List (V×Bool)) (pv:Value) (w:World) (hnode:NodeB B w b o t) (hok:okF t) (hown:w.ownsRow base 117 9 pv rs.length (rs.flatMap rcells)) (hseq:SeqR w a rs M) (hM:M≤w.heap.size)
  (hrs:OfR (flatsV t.kind t.ps) rs) (hsz:szT (erase t)≤500000) (hk:t.kind=2) :
  Calls Tryd.prog 45 #[.pointer (some ⟨b,o,none⟩),pv] w fun e w'=>GivesS a (resT (erase t)) e w'∧Chg (fun x=>a≤x∧NT w x) w w':=by
 obtain ⟨A,cp,hpv⟩:=own_form hown
 subst hpv
 obtain ⟨w0,hw0⟩ : ∃ w0,w.alloc (.cells #[.int .i64 0,.int .u64 0,.int .u64 0,.int .u64 0,.int .u64 0,.slice none 0 0,.int .i64 0,.int .i64 0,.bool false] 117)=w0:=⟨_,rfl⟩
 have hb0:Below w.heap.size w w0:=hw0▸(Below.refl _ w).alloc (Nat.le_refl _) _
 have hz:ZB9 w.heap.size w0:=by rw [← hw0];exact heap_alloc_new w _
 obtain ⟨x0,x1,x2,x3,x4,x5,x6,x7⟩:=node_cells hnode.2.1 hnode.at.lt hb0
 have hlt:=Nat.lt_of_lt_of_le hnode.at.lt hb0.size
 have hsq0:SeqR w0 a rs M:=hseq.chg (Chg.of_below (R:=fun _=>False) hb0) fun _ _ _ _=>id
 have hown0:w0.ownsRow base 117 9 (.slice A rs.length cp) rs.length (rs.flatMap rcells):=own_chg hown (Chg.of_below (R:=fun _=>False) hb0) fun _ _=>id
 have hM0:M≤w0.heap.size:=Nat.le_trans hM hb0.size
 have hal:a≤w0.heap.size:=Nat.le_trans hseq.le hM0
 have hfs:=flatsw_sz t.kind t.ps
 have hts:=sz_eq t
 obtain ⟨hs1,hs2⟩:=hrs.sz
 have hoks:oksT (erases t.ps)=true:=by
  have h:=hok
  unfold okF at h
  cases t with
  | node k C lo hi v ps=>rw [erase] at h;exact ok_parts h
 have hgd:=hrs.good (flats_okF t.kind hoks)
 have H0:=Lib.hid (And.intro hb0 hz)
 have hne:∀ r∈rs,r.1.kind=2→r.1.ps≠[]:=fun r hr hk2 e=>by
  refine (hgd r hr).ws.ne (.inl (by rw [erase_kind];exact hk2)) ?_
  rw [erase_ps,e]
  rfl
 have HCA:=Lib.hid (by
  have:=row_any a M base rs (.slice A rs.length cp) w0 hsq0 hM0 hown0 hne (by omega)
  rw [show rowP (rs.map er)=resT (erase t) by rw [hrs,hk];exact row_sim hok hk] at this
  exact this)
 rw [hk] at x0
 clear hnode hok hown hseq hM hrs hsz hb0 hz hsq0 hown0 hM0 hal hfs hts hs1 hs2 hoks hgd
 clear hne
 go_enter Tryd.func45,Tryd.ntmps45
 go_upto_region 1 with fail
 clear hw0
 go_wp2_with fail
 go_at_call 63
 refine HCA.out.mono ?_
 rintro e w2 ⟨⟨⟨t',n'⟩,rfl,hx,hres⟩,hc2⟩
 obtain ⟨sa,sn,sc,hs⟩:=hres.laid.slice
 rw [rcells_v hs]
 have HC2:=Lib.hid hc2
 have HX2:=Lib.hid (And.intro hx (And.intro hs hres))
 obtain ⟨⟨s0,s1,s2,s3,s4,s5,s6,s7,s8⟩,f0,f1,f2,f3,f4,f5,f6,f7,f8,hl⟩:=(of_zb H0.out.2 hc2).cells
 clear hx hs hres hc2
 go_wp2_with fail
 have hf:=set9x_heap (of_zb H0.out.2 HC2.out) (.int .i64 t'.kind) (.int .u64 (t'.set 0:Nat)) (.int .u64 (t'.set 1:Nat)) (.int .u64 (t'.set 2:Nat)) (.int .u64 (t'.set 3:Nat)) (.slice sa sn sc) (.int .i64 t'.lo) (.int .i64 t'.hi) (.bool n')
 have hch:=set9x_chg w2 w.heap.size (.int .i64 t'.kind) (.int .u64 (t'.set 0:Nat)) (.int .u64 (t'.set 1:Nat)) (.int .u64 (t'.set 2:Nat)) (.int .u64 (t'.set 3:Nat)) (.slice sa sn sc) (.int .i64 t'.lo) (.int .i64 t'.hi) (.bool n')
 clear s0 s1 s2 s3 s4 s5 s6 s7 s8 f0 f1 f2 f3 f4 f5 f6 f7 f8
 generalize (((((((((w2.setCell ⟨w.heap.size,0,none⟩ (.int .i64 t'.kind)).setCell ⟨w.heap.size,1,none⟩ (.int .u64 (t'.set 0:Nat))).setCell ⟨w.heap.size,2,none⟩ (.int .u64 (t'.set 1:Nat))).setCell ⟨w.heap.size,3,none⟩ (.int .u64 (t'.set 2:Nat))).setCell ⟨w.heap.size,4,none⟩ (.int .u64 (t'.set 3:Nat))).setCell ⟨w.heap.size,5,none⟩ (.slice sa sn sc)).setCell ⟨w.heap.size,6,none⟩ (.int .i64 t'.lo)).setCell ⟨w.heap.size,7,none⟩ (.int .i64 t'.hi)).setCell ⟨w.heap.size,8,none⟩ (.bool n'))=w3 at *
 obtain ⟨r0,r1,r2,r3,r4,r5,r6,r7,r8⟩:=cells9 hf
 refine bodyPost_ret (v:=.agg #[.int .i64 t'.kind,.int .u64 (t'.set 0:Nat),.int .u64 (t'.set 1:Nat),.int .u64 (t'.set 2:Nat),.int .u64 (t'.set 3:Nat),.slice sa sn sc,.int .i64 t'.lo,.int .i64 t'.hi,.bool n']) (by simp [results,Tryd.results45,go_sem,r0,r1,r2,r3,r4,r5,r6,r7,r8]) rfl ?_
 exact of_fin H0.out.1 H0.out.2 HC2.out HX2.out.1 HX2.out.2.1 HX2.out.2.2 hch
set_option maxHeartbeats 4000000 in
set_option maxRecDepth 100000 in
theorem simpleOf_3 (B base a M b o:Nat) (t:V) (rs:List (V×Bool)) (pv:Value) (w:World) (hnode:NodeB B w b o t) (hok:okF t) (hown:w.ownsRow base 117 9 pv rs.length (rs.flatMap rcells)) (hseq:SeqR w a rs M) (hM:M≤w.heap.size)
  (hrs:OfR (flatsV t.kind t.ps) rs) (hsz:szT (erase t)≤500000) (hk:t.kind=3) :
  Calls Tryd.prog 45 #[.pointer (some ⟨b,o,none⟩),pv] w fun e w'=>GivesS a (resT (erase t)) e w'∧Chg (fun x=>a≤x∧NT w x) w w':=by
 obtain ⟨A,cp,hpv⟩:=own_form hown
 subst hpv
 obtain ⟨w0,hw0⟩ : ∃ w0,w.alloc (.cells #[.int .i64 0,.int .u64 0,.int .u64 0,.int .u64 0,.int .u64 0,.slice none 0 0,.int .i64 0,.int .i64 0,.bool false] 117)=w0:=⟨_,rfl⟩
 have hb0:Below w.heap.size w w0:=hw0▸(Below.refl _ w).alloc (Nat.le_refl _) _
 have hz:ZB9 w.heap.size w0:=by rw [← hw0];exact heap_alloc_new w _
 obtain ⟨x0,x1,x2,x3,x4,x5,x6,x7⟩:=node_cells hnode.2.1 hnode.at.lt hb0
 have hlt:=Nat.lt_of_lt_of_le hnode.at.lt hb0.size
 have hsq0:SeqR w0 a rs M:=hseq.chg (Chg.of_below (R:=fun _=>False) hb0) fun _ _ _ _=>id
 have hown0:w0.ownsRow base 117 9 (.slice A rs.length cp) rs.length (rs.flatMap rcells):=own_chg hown (Chg.of_below (R:=fun _=>False) hb0) fun _ _=>id
 have hM0:M≤w0.heap.size:=Nat.le_trans hM hb0.size
 have hal:a≤w0.heap.size:=Nat.le_trans hseq.le hM0
 have hfs:=flatsw_sz t.kind t.ps
 have hts:=sz_eq t
 obtain ⟨hs1,hs2⟩:=hrs.sz
 have hoks:oksT (erases t.ps)=true:=by
  have h:=hok
  unfold okF at h
  cases t with
  | node k C lo hi v ps=>rw [erase] at h;exact ok_parts h
 have hgd:=hrs.good (flats_okF t.kind hoks)
 have H0:=Lib.hid (And.intro hb0 hz)
 have hn3:flatsV 3 t.ps≠[]:=flats_ne hok hk
 have HCA:=Lib.hid (by
  have:=either_any a M base rs (.slice A rs.length cp) w0 hsq0 hM0 hown0 hgd (by omega) (fun r hr=>by have:=hs2 r hr;omega) (by intro e;have h1:=hrs.len;rw [e,hk] at h1;exact hn3 (List.eq_nil_of_length_eq_zero h1.symm))
  rw [show eitherP (rs.map er)=resT (erase t) by rw [hrs,hk];exact either_sim hok hk hn3] at this
  exact this)
 rw [hk] at x0
 clear hnode hok hown hseq hM hrs hsz hb0 hz hsq0 hown0 hM0 hal hfs hts hs1 hs2 hoks hgd
 clear hn3
 go_enter Tryd.func45,Tryd.ntmps45
 go_upto_region 1 with fail
 clear hw0
 go_wp2_with fail
 go_at_call 64
 refine HCA.out.mono ?_
 rintro e w2 ⟨⟨⟨t',n'⟩,rfl,hx,hres⟩,hc2⟩
 obtain ⟨sa,sn,sc,hs⟩:=hres.laid.slice
 rw [rcells_v hs]
 have HC2:=Lib.hid hc2
 have HX2:=Lib.hid (And.intro hx (And.intro hs hres))
 obtain ⟨⟨s0,s1,s2,s3,s4,s5,s6,s7,s8⟩,f0,f1,f2,f3,f4,f5,f6,f7,f8,hl⟩:=(of_zb H0.out.2 hc2).cells
 clear hx hs hres hc2
 go_wp2_with fail
 have hf:=set9x_heap (of_zb H0.out.2 HC2.out) (.int .i64 t'.kind) (.int .u64 (t'.set 0:Nat)) (.int .u64 (t'.set 1:Nat)) (.int .u64 (t'.set 2:Nat)) (.int .u64 (t'.set 3:Nat)) (.slice sa sn sc) (.int .i64 t'.lo) (.int .i64 t'.hi) (.bool n')
 have hch:=set9x_chg w2 w.heap.size (.int .i64 t'.kind) (.int .u64 (t'.set 0:Nat)) (.int .u64 (t'.set 1:Nat)) (.int .u64 (t'.set 2:Nat)) (.int .u64 (t'.set 3:Nat)) (.slice sa sn sc) (.int .i64 t'.lo) (.int .i64 t'.hi) (.bool n')
 clear s0 s1 s2 s3 s4 s5 s6 s7 s8 f0 f1 f2 f3 f4 f5 f6 f7 f8
 generalize (((((((((w2.setCell ⟨w.heap.size,0,none⟩ (.int .i64 t'.kind)).setCell ⟨w.heap.size,1,none⟩ (.int .u64 (t'.set 0:Nat))).setCell ⟨w.heap.size,2,none⟩ (.int .u64 (t'.set 1:Nat))).setCell ⟨w.heap.size,3,none⟩ (.int .u64 (t'.set 2:Nat))).setCell ⟨w.heap.size,4,none⟩ (.int .u64 (t'.set 3:Nat))).setCell ⟨w.heap.size,5,none⟩ (.slice sa sn sc)).setCell ⟨w.heap.size,6,none⟩ (.int .i64 t'.lo)).setCell ⟨w.heap.size,7,none⟩ (.int .i64 t'.hi)).setCell ⟨w.heap.size,8,none⟩ (.bool n'))=w3 at *
 obtain ⟨r0,r1,r2,r3,r4,r5,r6,r7,r8⟩:=cells9 hf
 refine bodyPost_ret (v:=.agg #[.int .i64 t'.kind,.int .u64 (t'.set 0:Nat),.int .u64 (t'.set 1:Nat),.int .u64 (t'.set 2:Nat),.int .u64 (t'.set 3:Nat),.slice sa sn sc,.int .i64 t'.lo,.int .i64 t'.hi,.bool n']) (by simp [results,Tryd.results45,go_sem,r0,r1,r2,r3,r4,r5,r6,r7,r8]) rfl ?_
 exact of_fin H0.out.1 H0.out.2 HC2.out HX2.out.1 HX2.out.2.1 HX2.out.2.2 hch
set_option maxHeartbeats 4000000 in
set_option maxRecDepth 100000 in
theorem simpleOf_4 (B base a M b o:Nat) (t:V) (rs:List (V×Bool)) (pv:Value) (w:World) (hnode:NodeB B w b o t) (hok:okF t) (hown:w.ownsRow base 117 9 pv rs.length (rs.flatMap rcells)) (hseq:SeqR w a rs M) (hM:M≤w.heap.size)
  (hrs:OfR (flatsV t.kind t.ps) rs) (hsz:szT (erase t)≤500000) (hk:t.kind=4) :
  Calls Tryd.prog 45 #[.pointer (some ⟨b,o,none⟩),pv] w fun e w'=>GivesS a (resT (erase t)) e w'∧Chg (fun x=>a≤x∧NT w x) w w':=by
 obtain ⟨A,cp,hpv⟩:=own_form hown
 subst hpv
 obtain ⟨w0,hw0⟩ : ∃ w0,w.alloc (.cells #[.int .i64 0,.int .u64 0,.int .u64 0,.int .u64 0,.int .u64 0,.slice none 0 0,.int .i64 0,.int .i64 0,.bool false] 117)=w0:=⟨_,rfl⟩
 have hb0:Below w.heap.size w w0:=hw0▸(Below.refl _ w).alloc (Nat.le_refl _) _
 have hz:ZB9 w.heap.size w0:=by rw [← hw0];exact heap_alloc_new w _
 obtain ⟨x0,x1,x2,x3,x4,x5,x6,x7⟩:=node_cells hnode.2.1 hnode.at.lt hb0
 have hlt:=Nat.lt_of_lt_of_le hnode.at.lt hb0.size
 have hsq0:SeqR w0 a rs M:=hseq.chg (Chg.of_below (R:=fun _=>False) hb0) fun _ _ _ _=>id
 have hown0:w0.ownsRow base 117 9 (.slice A rs.length cp) rs.length (rs.flatMap rcells):=own_chg hown (Chg.of_below (R:=fun _=>False) hb0) fun _ _=>id
 have hM0:M≤w0.heap.size:=Nat.le_trans hM hb0.size
 have hal:a≤w0.heap.size:=Nat.le_trans hseq.le hM0
 have hfs:=flatsw_sz t.kind t.ps
 have hts:=sz_eq t
 obtain ⟨hs1,hs2⟩:=hrs.sz
 have hoks:oksT (erases t.ps)=true:=by
  have h:=hok
  unfold okF at h
  cases t with
  | node k C lo hi v ps=>rw [erase] at h;exact ok_parts h
 have hgd:=hrs.good (flats_okF t.kind hoks)
 have H0:=Lib.hid (And.intro hb0 hz)
 obtain ⟨q,hq,hqe⟩:=times_sim hok hk
 obtain ⟨r,hr⟩ : ∃ r,rs=[r]:=by
  have h1:=hrs.len
  rw [hk,hq] at h1
  exact List.length_eq_one_iff.1 h1
 subst hr
 obtain ⟨t1,n1⟩:=r
 have her:er (t1,n1)=resT (erase q):=by
  have h1 : [er (t1,n1)]=(flatsV t.kind t.ps).map fun u=>resT (erase u):=hrs
  rw [hk,hq] at h1
  simpa using h1
 obtain ⟨m1,q1,q2,q3⟩:=hsq0
 obtain ⟨ta,tn,tc,hts1⟩:=q2.laid.slice
 obtain ⟨g,cap,hgv⟩:=ownsRow_succ (k:=0) hown0
 have hgl:=(hown0.lt g (by rw [hgv];rfl)).2
 have hown1:=hown0
 simp only [List.length_cons,List.length_nil,Nat.zero_add,Value.slice.injEq,true_and] at hgv
 obtain ⟨rfl,rfl⟩:=hgv
 have hc:∀ j,j<9→w0.cell? ⟨g,j,none⟩=(rcells (t1,n1))[j]?:=fun j hj=>by
  have h1:=hown1.cellAt j (by simp;omega)
  have h2:=rcells_at [(t1,n1)] 0 (t1,n1) rfl j hj
  rw [Nat.zero_mul,Nat.zero_add] at h2
  rw [h1,h2]
 have y0:w0.cell? ⟨g,0,none⟩=some (.int .i64 t1.kind):=hc 0 (by decide)
 have y1:w0.cell? ⟨g,1,none⟩=some (.int .u64 (t1.set 0:Nat)):=hc 1 (by decide)
 have y2:w0.cell? ⟨g,2,none⟩=some (.int .u64 (t1.set 1:Nat)):=hc 2 (by decide)
 have y3:w0.cell? ⟨g,3,none⟩=some (.int .u64 (t1.set 2:Nat)):=hc 3 (by decide)
 have y4:w0.cell? ⟨g,4,none⟩=some (.int .u64 (t1.set 3:Nat)):=hc 4 (by decide)
 have y5:w0.cell? ⟨g,5,none⟩=some (.slice ta tn tc):=(hc 5 (by decide)).trans (congrArg some hts1)
 have y6:w0.cell? ⟨g,6,none⟩=some (.int .i64 t1.lo):=hc 6 (by decide)
 have y7:w0.cell? ⟨g,7,none⟩=some (.int .i64 t1.hi):=hc 7 (by decide)
 have y8:w0.cell? ⟨g,8,none⟩=some (.bool n1):=hc 8 (by decide)
 have HCA:=Lib.hid (fun (W:World) (h:Below w0.heap.size w0 W)=>by
  have:=ctimes_any a m1 t1 n1 t.lo t.hi W (q2.chg (Chg.of_below (R:=fun _=>False) h) fun _ _ _ _=>id) (by have:=h.size;omega) (by have h1:=h.size;have h2:=q3.le;omega)
  rw [show timesP (er (t1,n1)) t.lo t.hi=resT (erase t) by rw [her];exact hqe,rcells_v hts1] at this
  exact this)
 rw [hk] at x0
 show Calls _ _ #[_,.slice (some ⟨g,0,none⟩) 1 _] w _
 clear hnode hok hown hseq hM hrs hsz hb0 hz hown0 hM0 hal hfs hts hs1 hs2 hoks hgd q1 q2 q3 hts1 hown1 hc her hq hqe
 go_enter Tryd.func45,Tryd.ntmps45
 go_upto_region 1 with fail
 clear hw0
 go_wp2_with fail
 go_region_with (go_at_call 65;refine (HCA.out _ (by first | exact Below.refl _ _ | exact (Below.refl _ _).drew)).mono ?_;rintro e w2 ⟨⟨⟨t',n'⟩,rfl,hx,hres⟩,hb2⟩;obtain ⟨sa,sn,sc,hs⟩:=hres.laid.slice;rw [rcells_v hs];have HC2:=Lib.hid (show Chg (fun x=>a≤x∧NT w0 x) w0 w2 from Chg.of_below (by first | exact hb2 | exact bhop (Below.refl _ _).drew hb2));have HX2:=Lib.hid (And.intro hx (And.intro hs hres));obtain ⟨⟨s0,s1,s2,s3,s4,s5,s6,s7,s8⟩,f0,f1,f2,f3,f4,f5,f6,f7,f8,hl⟩:=(of_zb H0.out.2 HC2.out).cells;clear hx hs hres hb2 y0 y1 y2 y3 y4 y5 y6 y7 y8)
 all_goals
  go_wp2_with fail
  have hf:=set9x_heap (of_zb H0.out.2 HC2.out) (.int .i64 t'.kind) (.int .u64 (t'.set 0:Nat)) (.int .u64 (t'.set 1:Nat)) (.int .u64 (t'.set 2:Nat)) (.int .u64 (t'.set 3:Nat)) (.slice sa sn sc) (.int .i64 t'.lo) (.int .i64 t'.hi) (.bool n')
  have hch:=set9x_chg w2 w.heap.size (.int .i64 t'.kind) (.int .u64 (t'.set 0:Nat)) (.int .u64 (t'.set 1:Nat)) (.int .u64 (t'.set 2:Nat)) (.int .u64 (t'.set 3:Nat)) (.slice sa sn sc) (.int .i64 t'.lo) (.int .i64 t'.hi) (.bool n')
  clear s0 s1 s2 s3 s4 s5 s6 s7 s8 f0 f1 f2 f3 f4 f5 f6 f7 f8
  generalize (((((((((w2.setCell ⟨w.heap.size,0,none⟩ (.int .i64 t'.kind)).setCell ⟨w.heap.size,1,none⟩ (.int .u64 (t'.set 0:Nat))).setCell ⟨w.heap.size,2,none⟩ (.int .u64 (t'.set 1:Nat))).setCell ⟨w.heap.size,3,none⟩ (.int .u64 (t'.set 2:Nat))).setCell ⟨w.heap.size,4,none⟩ (.int .u64 (t'.set 3:Nat))).setCell ⟨w.heap.size,5,none⟩ (.slice sa sn sc)).setCell ⟨w.heap.size,6,none⟩ (.int .i64 t'.lo)).setCell ⟨w.heap.size,7,none⟩ (.int .i64 t'.hi)).setCell ⟨w.heap.size,8,none⟩ (.bool n'))=w3 at *
  obtain ⟨r0,r1,r2,r3,r4,r5,r6,r7,r8⟩:=cells9 hf
  refine bodyPost_ret (v:=.agg #[.int .i64 t'.kind,.int .u64 (t'.set 0:Nat),.int .u64 (t'.set 1:Nat),.int .u64 (t'.set 2:Nat),.int .u64 (t'.set 3:Nat),.slice sa sn sc,.int .i64 t'.lo,.int .i64 t'.hi,.bool n']) (by simp [results,Tryd.results45,go_sem,r0,r1,r2,r3,r4,r5,r6,r7,r8]) rfl ?_
  exact of_fin H0.out.1 H0.out.2 HC2.out HX2.out.1 HX2.out.2.1 HX2.out.2.2 hch
theorem simpleOf_any (B base a M b o:Nat) (t:V) (rs:List (V×Bool)) (pv:Value) (w:World) (hnode:NodeB B w b o t) (hok:okF t) (hown:w.ownsRow base 117 9 pv rs.length (rs.flatMap rcells)) (hseq:SeqR w a rs M) (hM:M≤w.heap.size)
  (hrs:OfR (flatsV t.kind t.ps) rs) (hsz:szT (erase t)≤500000) :
  Calls Tryd.prog 45 #[.pointer (some ⟨b,o,none⟩),pv] w fun e w'=>GivesS a (resT (erase t)) e w'∧Chg (fun x=>a≤x∧NT w x) w w':=by
 rcases hok.kinds with hk | hk | hk | hk | hk
 ·exact simpleOf_0 B base a M b o t rs pv w hnode hok hown hseq hM hrs hsz hk
 ·exact simpleOf_1 B base a M b o t rs pv w hnode hok hown hseq hM hrs hsz hk
 ·exact simpleOf_2 B base a M b o t rs pv w hnode hok hown hseq hM hrs hsz hk
 ·exact simpleOf_3 B base a M b o t rs pv w hnode hok hown hseq hM hrs hsz hk
 ·exact simpleOf_4 B base a M b o t rs pv w hnode hok hown hseq hM hrs hsz hk
end Go.Proofs.YtbohmcfplgdlpaaDoor
