/- A list, and behind it a tree, or, if it is of that kind, its parts: a contract.
   Conditions: the list and the tree's lists are their own, in memory. -/
import Derived.Test.YtbohmcfplgdlpaaDoorMMelt
import Derived.Test.YtbohmcfplgdlpaaDoorMBase
import Derived.Test.YtbohmcfplgdlpaaDoorMSim
import Derived.Test.YtbohmcfplgdlpaaDoorMSame
import Derived.Deep.DeepCutAuto

/- Whether a node is void, whether it is nullable, of what its parts are: by the program: contracts.
   Conditions: the node lies in memory, and is formed. -/
namespace Go.Proofs.YtbohmcfplgdlpaaDoor
open Go.RowKit Go.Shelf
theorem z4_beq (C:Nat→Nat):(((C 0:Nat):Int) == 0 && (((C 1:Nat):Int) == 0 && (((C 2:Nat):Int) == 0 && ((C 3:Nat):Int) == 0)))=z4 C:=by
 unfold z4
 rw [Bool.eq_iff_iff]
 simp
set_option maxRecDepth 100000 in
theorem classEmpty_any (C:Nat→Nat) (w:World) :
  Calls Tryd.prog 49 #[.agg #[.int .u64 (C 0:Nat),.int .u64 (C 1:Nat),.int .u64 (C 2:Nat),.int .u64 (C 3:Nat)]] w fun e w'=>e=.returned (.bool (z4 C))∧Below w.heap.size w w':=by
 have he:∀ w,(Op.equalIn 10000 24 (.agg #[.int .u64 (C 0:Nat),.int .u64 (C 1:Nat),.int .u64 (C 2:Nat),.int .u64 (C 3:Nat)]) (.agg #[.int .u64 0,.int .u64 0,.int .u64 0,.int .u64 0])).run Tryd.prog w=.ok (z4 C) w:=fun w=>by rw [run_equal4,z4_beq]
 go_enter Tryd.func49,Tryd.ntmps49
 go_wp2
 go_ret
 exact ⟨rfl,(Below.refl _ _).alloc (Nat.le_refl _) _⟩
end Go.Proofs.YtbohmcfplgdlpaaDoor

/- Whether a simple tree is void: a contract.
   No condition. -/
namespace Go.Proofs.YtbohmcfplgdlpaaDoor
open Go.RowKit Go.Shelf
theorem vB_v (t:V):vB (erase t)=(decide (t.kind=1) && z4 t.set):=by cases t with | node k C lo hi v ps=>rw [erase];rfl
set_option maxHeartbeats 2000000 in
set_option maxRecDepth 100000 in
theorem sVoid_any (t:V) (v:Value) (n:Bool) (w:World) :
  Calls Tryd.prog 84 #[.agg #[.int .i64 t.kind,.int .u64 (t.set 0:Nat),.int .u64 (t.set 1:Nat),.int .u64 (t.set 2:Nat),.int .u64 (t.set 3:Nat),v,.int .i64 t.lo,.int .i64 t.hi,.bool n]] w fun e w'=>e=.returned (.bool (vB (erase t)))∧Below w.heap.size w w':=by
 rw [vB_v]
 have HC:=Lib.hid (fun W=>classEmpty_any t.set W)
 by_cases hk:t.kind=1
 ·rw [hk,decide_eq_true rfl,Bool.true_and]
  have HZ:=Lib.hid (rfl:z4 t.set=z4 t.set)
  clear hk
  go_enter Tryd.func84,Tryd.ntmps84
  go_wp2_with fail
  go_at_call 49
  refine (HC.out _).mono ?_
  rintro e w1 ⟨rfl,hb⟩
  have HB:=Lib.hid (bhop ((Below.refl _ w).alloc (Nat.le_refl _) _) hb)
  go_wp2_with fail
  go_ret
  exact ⟨rfl,HB.out⟩
 ·rw [decide_eq_false hk,Bool.false_and]
  have hk2:(t.kind == 1)=false:=by simpa using hk
  clear HC
  go_enter Tryd.func84,Tryd.ntmps84
  go_wp2_with fail
  go_ret
  exact ⟨rfl,(Below.refl _ w).alloc (Nat.le_refl _) _⟩
end Go.Proofs.YtbohmcfplgdlpaaDoor

/- A node of that kind; of one part it alone, of none nothing: a contract.
   Conditions: the one part's cells lie in memory. -/
namespace Go.Proofs.YtbohmcfplgdlpaaDoor
open Go.RowKit Go.Shelf
attribute [local go_sem] nodeAgg
set_option maxHeartbeats 2000000 in
set_option maxRecDepth 100000 in
theorem joined_none (k:Int) (sa:Option Addr) (cap:Nat) (w:World) :
  Calls Tryd.prog 86 #[.int .i64 k,.slice sa 0 cap] w fun e w'=>e=.returned (.agg #[.int .i64 0,.int .u64 0,.int .u64 0,.int .u64 0,.int .u64 0,.slice none 0 0,.int .i64 0,.int .i64 0])∧Below w.heap.size w w':=by
 go_enter Tryd.func86,Tryd.ntmps86
 go_wp2_with fail
 refine bodyPost_ret (v:=.agg #[.int .i64 0,.int .u64 0,.int .u64 0,.int .u64 0,.int .u64 0,.slice none 0 0,.int .i64 0,.int .i64 0]) (by simp [results,Tryd.results86,go_sem]) rfl ⟨rfl,?_⟩
 exact (Below.refl _ w).alloc (Nat.le_refl _) _
set_option maxHeartbeats 2000000 in
set_option maxRecDepth 100000 in
theorem joined_more (k:Int) (sa:Option Addr) (n cap:Nat) (w:World) (hn:2≤n) (hm:n≤1000000) :
  Calls Tryd.prog 86 #[.int .i64 k,.slice sa n cap] w fun e w'=>e=.returned (.agg #[.int .i64 k,.int .u64 0,.int .u64 0,.int .u64 0,.int .u64 0,.slice sa n cap,.int .i64 0,.int .i64 0])∧Below w.heap.size w w':=by
 have g0:((n:Int) == 0)=false:=by simp;omega
 have g1:((n:Int) == 1)=false:=by simp;omega
 go_enter Tryd.func86,Tryd.ntmps86
 go_wp2_with fail
 refine bodyPost_ret (v:=.agg #[.int .i64 k,.int .u64 0,.int .u64 0,.int .u64 0,.int .u64 0,.slice sa n cap,.int .i64 0,.int .i64 0]) (by simp [results,Tryd.results86,go_sem]) rfl ⟨rfl,?_⟩
 exact (Below.refl _ w).alloc (Nat.le_refl _) _
end Go.Proofs.YtbohmcfplgdlpaaDoor

/- Results of a fold in memory: trees whose lists are their own, one behind the other: plain facts.
   Conditions: those that each theorem states. -/
namespace Go.Proofs.YtbohmcfplgdlpaaDoor
open Go.RowKit
def NT (w:World) (x:Nat):Prop:=∃ cs m,w.heap[x]? = some (.cells cs 27 m)
theorem NT.lt {w:World} {x:Nat} (h:NT w x):x<w.heap.size:=by
 obtain ⟨cs,m,h⟩:=h
 exact (Array.getElem?_eq_some_iff.1 h).1
theorem NT.keep {w w':World} {x:Nat} (h:NT w x) (hw:w'.heap[x]? = w.heap[x]?):NT w' x:=by
 obtain ⟨cs,m,h⟩:=h
 exact ⟨cs,m,hw.trans h⟩
theorem own_nt {w:World} {base sz n x:Nat} {v:Value} {xs:List Value} (h:w.ownsRow base 27 sz v n xs) (hx:v.ownBlock=some x):NT w x:=by
 rcases h.2 with ⟨e,_⟩ | ⟨g,cap,cur,rfl,_,hb,_⟩
 ·rw [e] at hx;cases hx
 ·have:g=x:=Option.some.inj hx
  subst this
  exact ⟨_,_,hb⟩
theorem own_not_nt {w:World} {base sz n x:Nat} {e:TypeId} {v:Value} {xs:List Value} (h:w.ownsRow base e sz v n xs) (he:e≠27) (hx:v.ownBlock=some x):¬ NT w x:=by
 rintro ⟨cs,m,hb'⟩
 rcases h.2 with ⟨e1,_⟩ | ⟨g,cap,cur,rfl,_,hb,_⟩
 ·rw [e1] at hx;cases hx
 ·have:g=x:=Option.some.inj hx
  subst this
  have:=Option.some.inj (hb.symm.trans hb')
  simp only [Obj.cells.injEq] at this
  exact he this.2.1
def Fp (w:World) (a m x:Nat):Prop:=a≤x∧x<m∧NT w x
inductive OwnT (w:World):(Nat→Prop)→V→Prop where
 | mk {R:Nat→Prop} {k:Int} {C:Nat→Nat} {lo hi:Int} {v:Value} {ps:List V} (own:w.ownsRow 0 27 8 v ps.length (flat ps)) (hR:∀ x,v.ownBlock=some x→R x)
   (kids:∀ p∈ps,OwnT w (fun x=>R x∧v.ownBlock≠some x) p):OwnT w R (.node k C lo hi v ps)
theorem own_high {w:World} {base base' e size n:Nat} {v:Value} {xs:List Value} (h:w.ownsRow base e size v n xs) (hb:∀ x,v.ownBlock=some x→base'≤x):w.ownsRow base' e size v n xs:=by
 refine ⟨h.1,?_⟩
 rcases h.2 with e1 | ⟨g,cap,cur,rfl,h1,rest⟩
 ·exact .inl e1
 ·exact .inr ⟨g,cap,cur,rfl,hb g rfl,rest⟩
theorem OwnT.keep {w w':World} {R:Nat→Prop} {t:V} (h:OwnT w R t):∀ {R':Nat→Prop},(∀ b,b<w.heap.size→R b→R' b)→(∀ b,b<w.heap.size→R b→w'.heap[b]? = w.heap[b]?)→OwnT w' R' t:=by
 induction h with
 | @mk R k C lo hi v ps own hR kids ih =>
  intro R' h1 h2
  have hl:∀ x,v.ownBlock=some x→x<w.heap.size:=fun x hx=>(own.lt x hx).2
  exact .mk (own_heap own fun b hb=>h2 b (hl b hb) (hR b hb)) (fun x hx=>h1 x (hl x hx) (hR x hx)) fun p hp=>ih p hp (fun b hb hr=>⟨h1 b hb hr.1,hr.2⟩) fun b hb hr=>h2 b hb hr.1
theorem OwnT.laid {w:World} {R:Nat→Prop} {t:V} (h:OwnT w R t):Laid w R t:=by
 induction h with
 | @mk R k C lo hi v ps own hR kids ih =>
  have hk:∀ p∈ps,Laid w R p:=fun p hp=>(ih p hp).mono fun b _ hr=>hr.1
  clear ih kids
  match ps,own,hk with
  | [],own,_ =>
   obtain ⟨A,cp,rfl⟩:=own_form own
   exact .none k C lo hi A cp
  | p :: ps,own,hk =>
   obtain ⟨g,cap,rfl,_,hlt⟩:=own.form (Nat.succ_pos _)
   have hle:(p :: ps).length≤cap:=by
    rcases own.2 with ⟨h1,_⟩ | ⟨g',cap',cur,hv,_,_,hle,_⟩
    ·cases h1
    ·simp only [Value.slice.injEq] at hv
     omega
   refine .some k C lo hi (p :: ps) g 0 cap (hR g rfl) hlt hle (fun i t ht j u hu=>?_) hk
   have hi:i<(p :: ps).length:=(List.getElem?_eq_some_iff.1 ht).1
   have hj:j<8:=by have:=(List.getElem?_eq_some_iff.1 hu).1;rwa [ndc_length] at this
   rw [Nat.zero_add,own.cellAt _ (by omega),flat_at _ i t ht j hj]
   exact hu
theorem OwnT.mono {w:World} {R R':Nat→Prop} {t:V} (h:OwnT w R t) (hR:∀ b,b<w.heap.size→R b→R' b):OwnT w R' t:=h.keep hR fun _ _ _=>rfl
structure RowA (w:World) (a m:Nat) (P:Nat→Prop) (v:Value) (ts:List V):Prop where
 own:w.ownsRow a 27 8 v ts.length (flat ts)
 at':∀ x,v.ownBlock=some x→P x
 kids:∀ t∈ts,OwnT w (fun x=>Fp w a m x∧v.ownBlock≠some x) t
theorem RowA.chg {w w':World} {a m:Nat} {P Q:Nat→Prop} {v:Value} {ts:List V} (h:RowA w a m P v ts) (hc:Chg Q w w') (hQ:∀ x,NT w x→a≤x→(x<m∨P x)→¬ Q x):RowA w' a m P v ts :=
 ⟨own_chg h.own hc fun x hx=>hQ x (own_nt h.own hx) (h.own.lt x hx).1 (.inr (h.at' x hx)),h.at',fun t ht =>
  (h.kids t ht).keep (fun b hb hr=>⟨⟨hr.1.1,hr.1.2.1,hr.1.2.2.keep (hc.block b hb (hQ b hr.1.2.2 hr.1.1 (.inl hr.1.2.1)))⟩,hr.2⟩) fun b hb hr=>hc.block b hb (hQ b hr.1.2.2 hr.1.1 (.inl hr.1.2.1))⟩
theorem RowA.wid {w:World} {a m a' m':Nat} {P P':Nat→Prop} {v:Value} {ts:List V} (h:RowA w a m P v ts) (ha:a'≤a) (hm:m≤m') (hP:∀ x,P x→P' x):RowA w a' m' P' v ts :=
 ⟨own_low h.own ha,fun x hx=>hP x (h.at' x hx),fun t ht=>(h.kids t ht).mono fun b _ hr=>⟨⟨by have:=hr.1.1;omega,by have:=hr.1.2.1;omega,hr.1.2.2⟩,hr.2⟩⟩
theorem RowA.nil (w:World) (a m:Nat) (P:Nat→Prop):RowA w a m P (.slice none 0 0) [] :=
 ⟨World.ownsRow_nil _ _ _ _,fun x hx=>by simp [Value.ownBlock] at hx,fun t ht=>by cases ht⟩
def Res (w:World) (a m:Nat) (t:V):Prop:=OwnT w (Fp w a m) t
theorem Res.row {w:World} {a m:Nat} {t:V} (h:Res w a m t):RowA w a m (fun x=>x<m) t.v t.ps:=by
 cases h with
 | mk own hR kids=>exact ⟨own_high own fun x hx=>(hR x hx).1,fun x hx=>(hR x hx).2.1,kids⟩
theorem RowA.res {w:World} {a m M:Nat} {P:Nat→Prop} {v:Value} {ts:List V} (h:RowA w a m P v ts) (hm:m≤M) (hP:∀ x,P x→x<M) (k:Int) (C:Nat→Nat) (lo hi:Int):Res w a M (.node k C lo hi v ts) :=
 .mk (own_low h.own (Nat.zero_le _)) (fun x hx=>⟨(h.own.lt x hx).1,hP x (h.at' x hx),own_nt h.own hx⟩) fun p hp=>(h.kids p hp).mono fun b _ hr=>⟨⟨hr.1.1,by have:=hr.1.2.1;omega,hr.1.2.2⟩,hr.2⟩
theorem Res.laid {w:World} {a m:Nat} {t:V} (h:Res w a m t):Laid w (Fp w a m) t:=OwnT.laid h
theorem Res.chg {w w':World} {a m:Nat} {Q:Nat→Prop} {t:V} (h:Res w a m t) (hc:Chg Q w w') (hQ:∀ x,NT w x→a≤x→x<m→¬ Q x):Res w' a m t :=
 OwnT.keep h (fun b hb hr=>⟨hr.1,hr.2.1,hr.2.2.keep (hc.block b hb (hQ b hr.2.2 hr.1 hr.2.1))⟩) fun b hb hr=>hc.block b hb (hQ b hr.2.2 hr.1 hr.2.1)
theorem Res.wid {w:World} {a m a' m':Nat} {t:V} (h:Res w a m t) (ha:a'≤a) (hm:m≤m'):Res w a' m' t:=OwnT.mono h fun b _ hr=>⟨by have:=hr.1;omega,by have:=hr.2.1;omega,hr.2.2⟩
theorem Res.leaf (w:World) (a m:Nat) (k:Int) (C:Nat→Nat) (lo hi:Int):Res w a m (.node k C lo hi (.slice none 0 0) []):=.mk (World.ownsRow_nil _ _ _ _) (fun x hx=>by simp [Value.ownBlock] at hx) fun p hp=>by cases hp
theorem Res.join {w:World} {a m M:Nat} {P:Nat→Prop} {v:Value} {ts:List V} (h:RowA w a m P v ts) (hm:m≤M) (hP:∀ x,P x→x<M) (k:Int):Res w a M (joinV k v ts):=by
 match ts,h with
 | [],_=>exact Res.leaf w a M _ _ _ _
 | [t],h=>exact OwnT.mono (h.kids t (by simp)) fun b _ hr=>⟨hr.1.1,by have:=hr.1.2.1;omega,hr.1.2.2⟩
 | t :: u :: ts,h=>exact h.res hm hP k _ _ _
theorem join_erase (k:Int) (v:Value):∀ ts:List V,erase (joinV k v ts)=oneOf k (erases ts)
 | []=>rfl
 | [t]=>by rw [erases,erases];rfl
 | t :: u :: ts=>by rw [joinV,erase,erases,erases,oneOf];all_goals intros;simp_all
def rcells (r:V×Bool):List Value:=ndc r.1 ++ [.bool r.2]
theorem rcells_len (r:V×Bool):(rcells r).length=9:=rfl
def SeqR (w:World):Nat→List (V×Bool)→Nat→Prop
 | a,[],b=>a≤b
 | a,r :: rs,b=>∃ m,a≤m∧Res w a m r.1∧SeqR w m rs b
theorem SeqR.le {w:World}:∀ {rs:List (V×Bool)} {a b:Nat},SeqR w a rs b→a≤b
 | [],_,_,h=>h
 | _ :: _,_,_,⟨_,h1,_,h3⟩=>Nat.le_trans h1 h3.le
theorem SeqR.chg {w w':World} {Q:Nat→Prop} (hc:Chg Q w w'):∀ {rs:List (V×Bool)} {a b:Nat},SeqR w a rs b→(∀ x,NT w x→a≤x→x<b→¬ Q x)→SeqR w' a rs b
 | [],_,_,h,_=>h
 | r :: rs,a,b,⟨m,h1,h2,h3⟩,hQ=>⟨m,h1,h2.chg hc fun x e1 e2 e3=>hQ x e1 e2 (by have:=h3.le;omega),h3.chg hc fun x e1 e2 e3=>hQ x e1 (by omega) e3⟩
theorem SeqR.wid {w:World}:∀ {rs:List (V×Bool)} {a b a' b':Nat},SeqR w a rs b→a'≤a→b≤b'→SeqR w a' rs b'
 | [],_,_,_,_,h,ha,hb=>Nat.le_trans ha (Nat.le_trans h hb)
 | r :: rs,a,b,a',b',⟨m,h1,h2,h3⟩,ha,hb=>⟨m,by omega,h2.wid ha (Nat.le_refl _),h3.wid (Nat.le_refl _) hb⟩
theorem SeqR.append {w:World}:∀ {xs ys:List (V×Bool)} {a b m:Nat},SeqR w a xs m→SeqR w m ys b→SeqR w a (xs ++ ys) b
 | [],_,_,_,_,h,k=>k.wid h (Nat.le_refl _)
 | _ :: _,_,_,_,_,⟨n,h1,h2,h3⟩,k=>⟨n,h1,h2,h3.append k⟩
theorem SeqR.split {w:World}:∀ {xs ys:List (V×Bool)} {a b:Nat},SeqR w a (xs ++ ys) b→∃ m,SeqR w a xs m∧SeqR w m ys b
 | [],ys,a,b,h=>⟨a,Nat.le_refl _,h⟩
 | r :: xs,ys,a,b,⟨n,h1,h2,h3⟩=>by
  obtain ⟨m,k1,k2⟩:=h3.split
  exact ⟨m,⟨n,h1,h2,k1⟩,k2⟩
def gath (k:Int) (ts:List V) (t:V):List V:=ts ++ (if t.kind=k then t.ps else [t])
theorem erase_kind (t:V):(erase t).kind=t.kind:=by cases t with | node k C lo hi v ps=>rw [erase];rfl
theorem gath_erase (k:Int) (ts:List V) (t:V):erases (gath k ts t)=erases ts ++ spreadT k [erase t]:=by
 unfold gath
 rw [erases_append,spreadT,spreadT,List.append_nil,erase_kind]
 split
 ·rw [erase_ps]
 ·rw [erases,erases]
theorem RowA.one {w w':World} {a m m' M N:Nat} {v v':Value} {ts:List V} {t:V} {W:World} (hl:RowA w a m (fun x=>x<m∨N≤x) v ts) (ht:Res w m' M t) (hm:m≤m') (ha:a≤m') (hmM:m'≤M) (hMN:M≤N) (hN:N≤w.heap.size)
  (hb:Below w.heap.size w W) (hg:W.grownBy w' v.ownBlock) (hown:w'.ownsRow a 27 8 v' (ts.length+1) (flat ts ++ ndc t)) (hat:∀ x,v'.ownBlock=some x→v.ownBlock=some x∨w.heap.size≤x) :
  Chg (fun x=>v.ownBlock=some x) w w'∧RowA w' a M (fun x=>x<M∨N≤x) v' (ts ++ [t]):=by
 have hc:Chg (fun x=>v.ownBlock=some x) w w':=(Chg.of_below (R:=fun x=>v.ownBlock=some x) hb).grown hg fun k hk _=>hk
 have hto:∀ x,m'≤x→x<M→v.ownBlock≠some x:=fun x h1 h2 e=>by
  have h3:=hl.at' x e
  omega
 refine ⟨hc,⟨by rw [List.length_append,flat_snoc];exact hown,fun x hx=>?_,fun u hu=>?_⟩⟩
 ·rcases hat x hx with e | e
  ·have h3:=hl.at' x e
   omega
  ·exact .inr (by omega)
 ·rcases List.mem_append.1 hu with hu | hu
  ·refine (hl.kids u hu).keep (fun b hb' hr=>⟨⟨hr.1.1,by have:=hr.1.2.1;omega,hr.1.2.2.keep (hc.block b hb' hr.2)⟩,fun e=>?_⟩) fun b hb' hr=>hc.block b hb' hr.2
   rcases hat b e with e2 | e2
   ·exact hr.2 e2
   ·omega
  ·rw [List.mem_singleton.1 hu]
   refine OwnT.keep ht (fun b hb' hr=>⟨⟨by have:=hr.1;omega,hr.2.1,hr.2.2.keep (hc.block b hb' (hto b hr.1 hr.2.1))⟩,fun e=>?_⟩) fun b hb' hr=>hc.block b hb' (hto b hr.1 hr.2.1)
   rcases hat b e with e2 | e2
   ·exact hto b hr.1 hr.2.1 e2
   ·omega
theorem RowA.more {w w':World} {a m m' M N:Nat} {v v':Value} {ts:List V} {t:V} {W:World} (hl:RowA w a m (fun x=>x<m∨N≤x) v ts) (ht:Res w m' M t) (hm:m≤m') (ha:a≤m') (hmM:m'≤M) (hMN:M≤N) (hN:N≤w.heap.size)
  (hb:Below w.heap.size w W) (hg:W.grownBy w' v.ownBlock) (hown:w'.ownsRow a 27 8 v' (ts.length+t.ps.length) (flat ts ++ flat t.ps)) (hat:∀ x,v'.ownBlock=some x→v.ownBlock=some x∨w.heap.size≤x) :
  Chg (fun x=>v.ownBlock=some x) w w'∧RowA w' a M (fun x=>x<M∨N≤x) v' (ts ++ t.ps):=by
 have hc:Chg (fun x=>v.ownBlock=some x) w w':=(Chg.of_below (R:=fun x=>v.ownBlock=some x) hb).grown hg fun k hk _=>hk
 have hto:∀ x,m'≤x→x<M→v.ownBlock≠some x:=fun x h1 h2 e=>by
  have h3:=hl.at' x e
  omega
 refine ⟨hc,⟨?_,fun x hx=>?_,fun u hu=>?_⟩⟩
 ·rw [List.length_append,show flat (ts ++ t.ps)=flat ts ++ flat t.ps by unfold flat;rw [List.flatMap_append]]
  exact hown
 ·rcases hat x hx with e | e
  ·have h3:=hl.at' x e
   omega
  ·exact .inr (by omega)
 ·rcases List.mem_append.1 hu with hu | hu
  ·refine (hl.kids u hu).keep (fun b hb' hr=>⟨⟨hr.1.1,by have:=hr.1.2.1;omega,hr.1.2.2.keep (hc.block b hb' hr.2)⟩,fun e=>?_⟩) fun b hb' hr=>hc.block b hb' hr.2
   rcases hat b e with e2 | e2
   ·exact hr.2 e2
   ·omega
  ·refine (ht.row.kids u hu).keep (fun b hb' hr=>⟨⟨by have:=hr.1.1;omega,hr.1.2.1,hr.1.2.2.keep (hc.block b hb' (hto b hr.1.1 hr.1.2.1))⟩,fun e=>?_⟩) fun b hb' hr=>hc.block b hb' (hto b hr.1.1 hr.1.2.1)
   rcases hat b e with e2 | e2
   ·exact hto b hr.1.1 hr.1.2.1 e2
   ·omega
end Go.Proofs.YtbohmcfplgdlpaaDoor

/- A list, and behind it a tree, or, if it is of that kind, its parts: a contract.
   Conditions: the list and the tree's lists are their own, in memory. -/
namespace Go.Proofs.YtbohmcfplgdlpaaDoor
open Go.RowKit Go.Shelf
attribute [local go_sem] nodeAgg
set_option maxHeartbeats 2000000 in
set_option maxRecDepth 100000 in
theorem gathered_any (w:World) (a m m' M N:Nat) (v:Value) (ts:List V) (t:V) (k:Int) (hl:RowA w a m (fun x=>x<m∨N≤x) v ts) (hnil:ts=[]→v=.slice none 0 0)
  (ht:Res w m' M t) (hm:m≤m') (ha:a≤m') (hmM:m'≤M) (hMN:M≤N) (hN:N≤w.heap.size) (hne:t.kind=k→t.ps≠[]) (hsz:ts.length+t.ps.length+1≤1000000) :
  Calls Tryd.prog 85 #[v,.int .i64 k,nodeAgg t] w fun e w'=>∃ v',e=.returned v'∧Chg (fun x=>v.ownBlock=some x) w w'∧RowA w' a M (fun x=>x<M∨N≤x) v' (gath k ts t):=by
 obtain ⟨i0,hi,hz0,hz1,hz2⟩:=info_parts info27
 obtain ⟨sa,sc,hv0⟩:=own_form ht.row.own
 have hlaid:=ht.laid
 obtain ⟨sn,hsn⟩ : ∃ sn,sn=t.ps.length:=⟨_,rfl⟩
 rw [← hsn] at hv0
 obtain ⟨w2,hw2,hbw,hlt2,hbx⟩:=box_new w t (.slice sa sn sc)
 obtain ⟨x0,x1,x2,x3,x4,x5,x6,x7⟩:=hbx w2 (Below.refl _ _)
 have HBX:=Lib.hid hbx
 have HBW:=Lib.hid hbw
 have HV:=Lib.hid hv0
 rw [nodeAgg_v hv0]
 by_cases hk:t.kind=k
 ·have hps:=hne hk
  have hsn0:0<sn:=by rw [hsn];exact List.length_pos_iff.2 hps
  have g1:(t.kind == k)=true:=by simp [hk]
  have g2:(t.kind != k)=false:=by simp [hk]
  by_cases h0:ts=[]
  ·have hvn:=hnil h0
   have hnl:∀ W,(binOp .eql 25 (.slice none 0 0) (.slice none 0 0)).run Tryd.prog W=.ok (.bool true) W:=fun W=>by kernel_rfl
   subst h0 hvn
   have HT:=Lib.hid (And.intro ht (And.intro hk hps))
   have HN:=Lib.hid (And.intro hm (And.intro ha (And.intro hMN hmM)))
   clear hl hnil ht hne hbx hv0 hsn hps hk hsn0 hlaid
   go_enter Tryd.func85,Tryd.ntmps85
   go_upto_region 1 with fail
   clear hw2
   go_wp2_with fail
   go_ret
   have hc:Chg (fun _=>False) w w2:=Chg.of_below HBW.out
   refine ⟨_,rfl,hc.mono fun _ _ h=>h.elim,?_⟩
   have e1:gath k [] t=t.ps:=by unfold gath;rw [if_pos HT.out.2.1,List.nil_append]
   rw [e1,← HV.out]
   exact (RowA.chg HT.out.1.row hc fun _ _ _ _=>id).wid HN.out.2.1 (Nat.le_refl _) fun x hx=>.inl hx
  ·obtain ⟨q,hq⟩ : ∃ q,ts.length=q+1:=⟨ts.length - 1,by have:=List.length_pos_iff.2 h0;omega⟩
   have hown:=hl.own
   rw [hq] at hown
   obtain ⟨g,cp,hv⟩:=ownsRow_succ hown
   subst hv
   have hgl:=(hown.lt g rfl).2
   have hgne:g≠w.heap.size:=by omega
   have hnl:∀ W,(binOp .eql 25 (.slice (some ⟨g,0,none⟩) (q+1) cp) (.slice none 0 0)).run Tryd.prog W=.ok (.bool false) W:=fun W=>by kernel_rfl
   have HL:=Lib.hid (And.intro hl (And.intro ht (And.intro hq hsn)))
   have HN:=Lib.hid (And.intro hm (And.intro ha (And.intro hMN (And.intro hN hmM))))
   have HO:=Lib.hid hown
   obtain ⟨p,ps,hpp⟩:=List.exists_cons_of_ne_nil hps
   obtain ⟨sb,so,hsa⟩ : ∃ sb so,sa=some ⟨sb,so,none⟩:=by
    have h:=ht.row.own.form (by omega)
    obtain ⟨g',cap',h1,_⟩:=h
    rw [hv0] at h1
    simp only [Value.slice.injEq] at h1
    exact ⟨g',0,h1.1⟩
   subst hsa
   have hnews:∀ j u,(flat t.ps)[j]? = some u→w2.cell? ((⟨sb,so,none⟩ : Addr).add j)=some u:=by
    intro j u hu
    have ho:=ht.row.own
    rw [hv0,← hsn] at ho
    obtain ⟨g',cap',h1,_,h3⟩:=ho.form (by omega)
    simp only [Value.slice.injEq,Option.some.injEq,Addr.mk.injEq] at h1
    obtain ⟨⟨rfl,rfl,_⟩,_,rfl⟩:=h1
    have hadd:(⟨sb,0,none⟩ : Addr).add j=⟨sb,j,none⟩:=by unfold Addr.add;split <;> simp_all
    have hjl:j<(flat t.ps).length:=(List.getElem?_eq_some_iff.1 hu).1
    rw [flat_length,← hsn] at hjl
    rw [hadd,HBW.out.cell (p:=⟨sb,j,none⟩) h3,ho.cellAt j hjl]
    exact hu
   have hone:∀ u∈flat t.ps,u.oneCell'=true:=by
    intro u hu
    obtain ⟨x,hx,hux⟩:=List.mem_flatMap.1 hu
    obtain ⟨a',n',c',hxv⟩:=(ht.row.kids x hx).laid.slice
    exact one_ndc x (by rw [hxv];rfl) u hux
   have HNW:=Lib.hid (And.intro hnews hone)
   have hb1:q+1+sn≤1000000:=by omega
   clear hl hnil ht hne hbx hv0 hps hpp hk hown hlaid hnews hone h0 hsn hq hsz
   go_enter Tryd.func85,Tryd.ntmps85
   go_upto_region 1 with fail
   clear hw2
   go_wp2_with ((at_builtin;refine wpList_append_lies _ (by rfl) _ _ 25 (by rfl) a 27 i0 _ 8 80 Tryd.underlying25 hi hz0 hz1 hz2 rfl (by decide) (.slice (some ⟨g,0,none⟩) (q+1) cp) (q+1) (flat ts) (by rfl) (own_chg HO.out (Chg.of_below (R:=fun _=>False) HBW.out) fun _ _=>id) ⟨sb,so,none⟩ sn sc (flat t.ps) (by rfl) ?c0 HNW.out.1 HNW.out.2 (by omega) ?c3 ?c4 ?c5 _ rfl ?_))
   case c0=>rw [flat_length,HL.out.2.2.2]
   case c3=>unfold maxLen;omega
   case c4=>omega
   case c5=>have h1:=HBW.out.size;have h2:=HN.out.2.1;have h3:=HN.out.2.2.1;have h4:=HN.out.2.2.2.1;have h5:=HN.out.2.2.2.2;omega
   intro g5 cap5 w5 hown5 hgrow5 hat5 hlt5
   go_wp2_with fail
   go_ret
   obtain ⟨r1,r2⟩:=RowA.more (v':=.slice (some ⟨g5,0,none⟩) (q+1+sn) cap5) HL.out.1 HL.out.2.1 HN.out.1 HN.out.2.1 HN.out.2.2.2.2 HN.out.2.2.1 HN.out.2.2.2.1 HBW.out hgrow5 (by rw [HL.out.2.2.1,← HL.out.2.2.2];exact hown5) fun x hx=>by
    have e1:g5=x:=Option.some.inj hx
    subst e1
    exact hat5.imp id fun e=>by have:=HBW.out.size;omega
   refine ⟨_,rfl,r1,?_⟩
   have e2:gath k ts t=ts ++ t.ps:=by unfold gath;rw [if_pos (by simpa using g1)]
   rw [e2]
   exact r2
 ·have g1:(t.kind != k)=true:=by simp [hk]
  obtain ⟨A,cp,hv⟩:=own_form hl.own
  obtain ⟨q,hq⟩ : ∃ q,q=ts.length:=⟨_,rfl⟩
  rw [← hq] at hv
  subst hv
  have hgl:∀ x,(Value.slice A q cp).ownBlock=some x→x<w.heap.size:=fun x hx=>(hl.own.lt x hx).2
  have HL:=Lib.hid (And.intro hl (And.intro ht (And.intro hq hsn)))
  have HN:=Lib.hid (And.intro hm (And.intro ha (And.intro hMN (And.intro hN hmM))))
  have HK:=Lib.hid hk
  have HO:=Lib.hid (show w2.ownsRow a 27 8 (.slice A q cp) q (flat ts) from own_chg (by have:=hl.own;rw [← hq] at this;exact this) (Chg.of_below (R:=fun _=>False) hbw) fun _ _=>id)
  have hb1:q+1≤1000000:=by omega
  clear hl hnil ht hne hbx hv0 hk hlaid hsn hq hsz
  go_enter Tryd.func85,Tryd.ntmps85
  go_upto_region 1 with fail
  clear hw2
  go_wp2_with ((at_builtin;refine wpList_append_lies _ (by rfl) _ _ 25 (by rfl) a 27 i0 _ 8 80 Tryd.underlying25 hi hz0 hz1 hz2 rfl (by decide) (.slice A q cp) q (flat ts) (by rfl) (HO.out.alloc _) ⟨w2.heap.size,0,none⟩ 1 1 (ndc t) (by rfl) ?c0 ?c1 ?c2 (by decide) ?c3 ?c4 ?c5 _ rfl ?_))
  case c0=>rfl
  case c1=>unfold ndc;rw [HV.out];exact World.news_of_block (heap_alloc_new w2 _)
  case c2=>exact one_ndc t (by rw [HV.out];rfl)
  case c3=>unfold maxLen;omega
  case c4=>omega
  case c5=>have h1:=HBW.out.size;have h2:=HN.out.2.1;have h3:=HN.out.2.2.1;have h4:=HN.out.2.2.2.1;have h5:=HN.out.2.2.2.2;simp;omega
  intro g5 cap5 w5 hown5 hgrow5 hat5 hlt5
  go_wp2_with fail
  go_ret
  obtain ⟨r1,r2⟩:=RowA.one (v':=.slice (some ⟨g5,0,none⟩) (q+1) cap5) HL.out.1 HL.out.2.1 HN.out.1 HN.out.2.1 HN.out.2.2.2.2 HN.out.2.2.1 HN.out.2.2.2.1 (bhop HBW.out ((Below.refl _ w2).alloc (Nat.le_refl _) _)) hgrow5 (by rw [← HL.out.2.2.1];exact hown5) fun x hx=>by
   have e1:g5=x:=Option.some.inj hx
   subst e1
   exact hat5.imp id fun e=>by have h1:=HBW.out.size;omega
  refine ⟨_,rfl,r1,?_⟩
  have e2:gath k ts t=ts ++ [t]:=by unfold gath;rw [if_neg HK.out]
  rw [e2]
  exact r2
end Go.Proofs.YtbohmcfplgdlpaaDoor
