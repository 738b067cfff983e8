/- Of every input the statement NaiveEither returns true, and it reads afterwards as before; the card: what its row lists is tied to the program's text.
   No condition. -/
import Derived.Test.YtnmjicfpmkoldaaGreatDoorN5
import Derived.Test.YtnmjicfpmkoldaaGreatDoorLG
import Derived.Test.YtnmjicfpmkoldaaGreatDoorPG
import Derived.Test.YtnmjicfpmkoldaaGreatDoorRows
import Derived.WalkKit
import Derived.KernelRfl
import Derived.Test.YtnmjicfpmkoldaaGreatDoorN1
import Derived.StillTailTactics
import Derived.Deep.WholeRow
import Derived.Test.YtnmjicfpmkoldaaGreatDoorPM
import Derived.Test.YtnmjicfpmkoldaaGreatDoorMRef
import Derived.Test.YtnmjicfpmkoldaaGreatDoorCards
import Derived.Test.YtnmjicfpmkoldaaGreatDoorTie
import Derived.ProofKit
import Derived.LaidMore
import Derived.OpenShut
import Derived.ChangeOld
import Derived.Below
import Derived.SevenTiedAt

/- What naive matches, by the words of the tree: what is behind a word is what the plain automaton has behind it.
   Conditions: the automaton is a formed tree's. -/

namespace Go.Proofs.YtnmjicfpmkoldaaGreatDoor
open Go.RowKit
theorem ent_toX (l:List Nat):entX l (fun _=>0) 0=toX l (fun _=>0) 0 none:=by
 funext i
 unfold entX toX
 rw [if_neg (Nat.not_lt_zero i),if_neg (fun h:i=0∧(none:Option Int).isSome=true=>by simp at h)]
 by_cases g:i<l.length
 ·rw [if_pos g,if_pos ⟨Nat.zero_le _,g⟩]
 ·rw [if_neg g,if_neg fun h=>g h.2]
theorem beg_iff {m:PM} {fi:Nat} {fl:List Nat} (hfl:∀ q,q∈fl↔fi.testBit q=true) {b:Nat} (hb:b<256) {k:Kc} :
  k∈(bgL m b fl).map kcB↔∃ e:Cfg,BegA m fi 0 (fun _=>0) b e∧k=kcOf (e.1:Nat) e.2:=by
 unfold bgL
 constructor
 ·intro h
  obtain ⟨c,hc,rfl⟩:=List.mem_map.1 h
  obtain ⟨q,hq,rfl⟩:=List.mem_map.1 hc
  obtain ⟨h1,h2⟩:=List.mem_filter.1 hq
  have h3:=(hfl q).1 h1
  refine ⟨⟨q,toX (arX m q) (fun _=>0) 0 none⟩,⟨hb,h3,h2,rfl⟩,?_⟩
  show kcOf _ _=_
  rw [ent_toX]
  rfl
 ·rintro ⟨⟨q,x⟩,⟨_,h3,h2,h4⟩,rfl⟩
  refine List.mem_map.2 ⟨⟨q,entX (m.ars.getD q []) (fun _=>0) 0⟩,List.mem_map.2 ⟨q,List.mem_filter.2 ⟨(hfl q).2 h3,h2⟩,rfl⟩,?_⟩
  show kcOf _ _=_
  rw [ent_toX,show x=_ from h4]
  rfl
theorem bh_iff {m:PM} (hw:MapW m) {fi:Nat} (hfi:∀ q,fi.testBit q=true→1≤q∧q<m.ars.length) {fl:List Nat} (hfl:∀ q,q∈fl↔fi.testBit q=true) {J:List Jt} (hJ:KeepJ m J) {L:Nat→List Mv} (hL:∀ i,i<m.ars.length→∀ x,x∈L i↔SJ J (stOf i x)) :
  ∀ (n:Nat) (v:List Nat),v.length=n→(∀ x∈v,x<256)→∀ k,bhS m fl L v k↔∃ e:Cfg,BehR m fi J v e∧k=kcOf (e.1:Nat) e.2
 | 0,v,hn,_,k=>by
  obtain rfl:=List.length_eq_zero_iff.1 hn
  exact ⟨fun h=>h.elim,fun ⟨_,h,_⟩=>h.elim⟩
 | n+1,v,hn,hv,k=>by
  rcases List.eq_nil_or_concat v with rfl | ⟨s,b,rfl⟩
  ·cases hn
  rw [List.concat_eq_append] at hn hv ⊢
  have hb:b<256:=hv b (by simp)
  cases s with
  | nil =>
   rw [List.nil_append,bhS_one]
   show k∈(bgL m b fl).map kcB↔_
   rw [beg_iff hfl hb]
   constructor
   ·rintro ⟨e,h,r⟩;exact ⟨e,beh_one.2 h,r⟩
   ·rintro ⟨e,h,r⟩;exact ⟨e,beh_one.1 h,r⟩
  | cons a s =>
   have ih:=bh_iff hw hfi hfl hJ hL n (a :: s) (by simpa using hn) fun x hx=>hv x (List.mem_append_left _ hx)
   rw [bhS_snoc (List.cons_ne_nil a s)]
   constructor
   ·rintro ⟨k0,h0,j,hj,h1,y,h2,rfl⟩
    obtain ⟨e,he,rfl⟩:=(ih k0).1 h0
    obtain ⟨l,r1,r2,r3,r4⟩:=beh_right hw hfi hJ he
    have ep:(kcOf (e.1:Nat) e.2).p.toNat=e.1:=rfl
    rw [ep] at hj h2
    rw [kc_of _ _ r4] at h2
    obtain ⟨jj,g1,g2,g3,g4,g5⟩:=(hL _ (List.getElem?_eq_some_iff.1 r1).1 j).1 hj
    have g4:j.kp=jj.kp:=g4
    have g5:j.ag=jj.ag:=g5
    rw [g4,g5] at h2
    exact ⟨⟨j.tt,y⟩,(beh_snoc (List.cons_ne_nil a s)).2 ⟨e,he,jj,g1,g2,g3,hb,h1,h2⟩,rfl⟩
   ·rintro ⟨e,he,rfl⟩
    obtain ⟨d,hd,jj,g1,g2,g3,_,h1,h2⟩:=(beh_snoc (List.cons_ne_nil a s)).1 he
    obtain ⟨l,r1,r2,r3,r4⟩:=beh_right hw hfi hJ hd
    refine ⟨kcOf (d.1:Nat) d.2,(ih _).2 ⟨d,hd,rfl⟩,⟨e.1,jj.kp,jj.ag⟩,(hL _ (List.getElem?_eq_some_iff.1 r1).1 _).2 ⟨jj,g1,g2,g3,rfl,rfl⟩,h1,e.2,?_,rfl⟩
    rw [kc_of _ _ r4]
    exact h2
theorem au_fi {B:Nat} {w:World} {u:T} {a:Au} {m:PM} {L:Nat→List Mv} (h:AuG B w u a m L):∀ q,(mvT (simT u) 0 0).1.fi.testBit q=true→1≤q∧q<m.ars.length:=fun q hq=>by
 obtain ⟨h1,h2⟩:=(mv_in (simT u) 0 0).1.fi q hq
 have:=map_pos h.map
 have:=h.au.sets
 have:=h.au.ars
 omega
theorem au_keep {B:Nat} {w:World} {u:T} {a:Au} {m:PM} {L:Nat→List Mv} (h:AuG B w u a m L):KeepJ m (mvT (simT u) 0 0).2.2:=fun j hj p q hp hq=>by
 obtain ⟨c,lf,lt,k1,k2,k3,k4,k5⟩:=moves_keep h.map j hj p q hp hq
 have h2:SJ (mvT (simT u) 0 0).2.2 (stOf p ⟨q,j.kp,j.ag⟩):=⟨j,hj,hp,hq,rfl,rfl⟩
 obtain ⟨e1,e2,_,e4,_,_⟩:=mv_kept h.map h2
 exact ⟨e2,e4,e1,c,lf,lt,k1,k2,k4,k3,k5⟩
theorem au_beh {B:Nat} {w:World} {u:T} {a:Au} {m:PM} {L:Nat→List Mv} (h:AuG B w u a m L) {v:List Nat} (hv:∀ x∈v,x<256) (k:Kc) :
  bhS m (bitsL (mvT (simT u) 0 0).1.fi) L v k↔∃ e:Cfg,BehR m (mvT (simT u) 0 0).1.fi (mvT (simT u) 0 0).2.2 v e∧k=kcOf (e.1:Nat) e.2 :=
 bh_iff h.au.wf (au_fi h) (fun q=>⟨fun hq=>(mem_bits.1 hq).2,fun hq=>mem_bits.2 ⟨by have:=(au_fi h q hq).2;have:=h.au.ars;have:=h.au.most;omega,hq⟩⟩) (au_keep h) (fun i hi x=>(h.moves i (by have:=h.au.ars;omega)).2 x) _ v rfl hv k
theorem mat_lg {B:Nat} {w:World} {u:T} {a:Au} {m:PM} {L:Nat→List Mv} (h:AuG B w u a m L) {v:List Nat} (hv:∀ x∈v,x<256) {bv:Bool} (hm:MatS m (bitsL (mvT (simT u) 0 0).1.fi) (mvT (simT u) 0 0).1.la L a.em v bv):bv=true↔Lg u v:=by
 rw [lang_beh (rec_auto h.ok (sim_ws _ h.ok).ok (sim_sm _ h.ok) h.map) v]
 by_cases hn:v=[]
 ·subst hn
  rw [hm.1 rfl,h.em]
  exact ⟨fun e=>.inl ⟨rfl,e⟩,fun e=>by
   rcases e with e | ⟨_,e,_⟩
   ·exact e.2
   ·exact e.elim⟩
 rw [hm.2 hn]
 constructor
 ·rintro ⟨k,_,hk,ha⟩
  obtain ⟨e,he,rfl⟩:=(au_beh h hv k).1 hk
  obtain ⟨l,r1,r2,r3,r4⟩:=beh_right h.au.wf (au_fi h) (au_keep h) he
  rw [kc_of _ _ r4] at ha
  unfold accB at ha
  rw [Bool.and_eq_true,Bool.and_eq_true] at ha
  exact .inr ⟨e,he,ha.2.1,ha.2.2⟩
 ·rintro (⟨e,_⟩ | ⟨e,he,h1,h2⟩)
  ·exact absurd e hn
  have hk:=(au_beh h hv (kcOf (e.1:Nat) e.2)).2 ⟨e,he,rfl⟩
  obtain ⟨l,r1,r2,r3,r4⟩:=beh_right h.au.wf (au_fi h) (au_keep h) he
  refine ⟨_,ok_63 h.au.wf (by rw [h.au.ars];exact h.au.most) (bhS_ok h.au.wf (fun q hq=>⟨(h.au.fin q hq).1,by rw [h.au.ars];exact (h.au.fin q hq).2⟩) h.mvl _ _ hk),hk,?_⟩
  rw [kc_of _ _ r4]
  unfold accB
  rw [Bool.and_eq_true,Bool.and_eq_true]
  refine ⟨?_,h1,h2⟩
  have:=right_at r2 r1 (x:=e.2)
  show rightB m (e.1:Int) e.2=true
  rw [this]
  exact r3
theorem match_lg {B:Nat} {w:World} {u:T} {a:Au} {m:PM} {L:Nat→List Mv} (h:AuG B w u a m L) (hC:∀ C∈m.sets,Cl C) (W:World) (hb:Below w.heap.size w W) (v:Value) (wd:List Nat) (hv:WrdR W v wd) (hlen:wd.length≤40) (bv:Bool) (hbv:bv=true↔Lg u wd) :
  Calls Tryz.prog 12 #[.agg #[.int .i64 a.k,.int .u64 (a.s0:Nat),.int .u64 (a.s1:Nat),.int .u64 (a.s2:Nat),.int .u64 (a.s3:Nat),.slice a.ta a.tn a.tc,.int .i64 a.lo,.int .i64 a.hi,.slice a.sA a.n a.sC,.slice a.cA a.cN a.cC,.slice (some ⟨a.ga,0,none⟩) a.n a.aC,.slice a.fA a.fN a.fC,.slice (some ⟨a.mb,0,none⟩) a.n a.n,.slice (some ⟨a.lb,0,none⟩) a.n a.n,.bool a.em],v] W fun e w'=>e=.returned (.bool bv)∧Below W.heap.size W w':=by
 obtain ⟨vs,hrw⟩:=h.rows
 have hfs:(bitsL (mvT (simT u) 0 0).1.fi).Pairwise (· < ·):=List.Pairwise.filter _ List.pairwise_lt_range
 have hfl:(bitsL (mvT (simT u) 0 0).1.fi).length≤41:=by have:=fl_few hfs fun q hq=>(h.au.fin q hq).2;have:=h.au.most;omega
 have h256:∀ x∈wd,x<256:=fun x hx=>by
  obtain ⟨_,_,_,h2⟩:=hv
  obtain ⟨i,hi⟩:=List.mem_iff_getElem?.1 hx
  exact (h2 i x hi).1
 refine (nmatch_any W (h.au.below hb) (hrw.below hb) hC hfl h.mvl v wd hv hlen).mono fun e w' ⟨b,e1,e2,e3⟩=>⟨?_,e3⟩
 rw [e1,show b=bv by rw [Bool.eq_iff_iff,mat_lg h h256 e2,hbv]]
end Go.Proofs.YtnmjicfpmkoldaaGreatDoor

/- A drawn region of the walk of NaiveEither, five ways.
   Conditions: what they load lies in memory; the contracts of what they call. -/

namespace Go.Proofs.YtnmjicfpmkoldaaGreatDoor
open Go.RowKit
abbrev opsregNe1:Array Oper:=#[{ dst:=some 39,op:=Op.move (Operand.tmp 8),type:=4,pos := "again.go:30",after:=#[],guard:=none },
 { dst:=some 40,op:=Op.unOp UnOp.not 4 (Operand.tmp 39),type:=4,pos := "again.go:30",after:=#[{ on:=0,ground:=Ground.data }],guard:=none },
 { dst:=some 41,op:=Op.move (Operand.tmp 40),type:=4,pos := "again.go:30",after:=#[{ on:=1,ground:=Ground.data }],guard:=none },
 { dst:=some 42,op:=Op.move (Operand.tmp 10),type:=4,pos := "again.go:30",after:=#[{ on:=2,ground:=Ground.guard }],guard:=some (2,false) },
 { dst:=some 43,op:=Op.unOp UnOp.not 4 (Operand.tmp 42),type:=4,pos := "again.go:30",after:=#[{ on:=3,ground:=Ground.data },{ on:=2,ground:=Ground.guard }],guard:=some (2,false) },
 { dst:=some 44,op:=Op.pick (Operand.tmp 41) (Operand.const (Value.bool true)) (Operand.tmp 43),type:=4,pos := "again.go:30",after:=#[{ on:=2,ground:=Ground.data },{ on:=4,ground:=Ground.data }],guard:=none },
 { dst:=some 45,op:=Op.move (Operand.tmp 44),type:=4,pos := "again.go:30",after:=#[{ on:=5,ground:=Ground.data },{ on:=2,ground:=Ground.chain }],guard:=none },
 { dst:=some 46,op:=Op.move (Operand.tmp 12),type:=4,pos := "again.go:30",after:=#[{ on:=6,ground:=Ground.guard }],guard:=some (6,false) },
 { dst:=some 47,op:=Op.unOp UnOp.not 4 (Operand.tmp 46),type:=4,pos := "again.go:30",after:=#[{ on:=7,ground:=Ground.data },{ on:=6,ground:=Ground.guard }],guard:=some (6,false) },
 { dst:=some 48,op:=Op.pick (Operand.tmp 45) (Operand.const (Value.bool true)) (Operand.tmp 47),type:=4,pos := "again.go:30",after:=#[{ on:=6,ground:=Ground.data },{ on:=8,ground:=Ground.data }],guard:=none },
 { dst:=some 49,op:=Op.move (Operand.tmp 48),type:=4,pos := "again.go:30",after:=#[{ on:=9,ground:=Ground.data },{ on:=6,ground:=Ground.chain }],guard:=none },
 { dst:=some 50,op:=Op.load 39 (Operand.tmp 11),type:=39,pos := "again.go:30",after:=#[{ on:=10,ground:=Ground.guard }],guard:=some (10,false) },
 { dst:=some 51,op:=Op.move (Operand.tmp 2),type:=28,pos := "again.go:30",after:=#[{ on:=10,ground:=Ground.guard }],guard:=some (10,false) },
 { dst:=some 52,op:=Op.call { callee:=Callee.value (Operand.func 12),args:=#[Operand.tmp 50,Operand.tmp 51],argTypes:=#[39,28] },type:=4,pos := "again.go:30",after:=#[{ on:=11,ground:=Ground.data },{ on:=12,ground:=Ground.data },{ on:=10,ground:=Ground.chain },{ on:=10,ground:=Ground.guard }],guard:=some (10,false) },
 { dst:=some 53,op:=Op.load 39 (Operand.tmp 7),type:=39,pos := "again.go:30",after:=#[{ on:=10,ground:=Ground.guard }],guard:=some (10,false) },
 { dst:=some 54,op:=Op.move (Operand.tmp 2),type:=28,pos := "again.go:30",after:=#[{ on:=10,ground:=Ground.guard }],guard:=some (10,false) },
 { dst:=some 55,op:=Op.call { callee:=Callee.value (Operand.func 12),args:=#[Operand.tmp 53,Operand.tmp 54],argTypes:=#[39,28] },type:=4,pos := "again.go:30",after:=#[{ on:=14,ground:=Ground.data },{ on:=15,ground:=Ground.data },{ on:=13,ground:=Ground.chain },{ on:=10,ground:=Ground.guard }],guard:=some (10,false) },
 { dst:=some 56,op:=Op.move (Operand.tmp 55),type:=4,pos := "again.go:30",after:=#[{ on:=16,ground:=Ground.data },{ on:=16,ground:=Ground.chain },{ on:=10,ground:=Ground.guard }],guard:=some (10,false) },
 { dst:=some 57,op:=Op.load 39 (Operand.tmp 9),type:=39,pos := "again.go:30",after:=#[{ on:=17,ground:=Ground.guard }],guard:=some (17,false) },
 { dst:=some 58,op:=Op.move (Operand.tmp 2),type:=28,pos := "again.go:30",after:=#[{ on:=17,ground:=Ground.guard }],guard:=some (17,false) },
 { dst:=some 59,op:=Op.call { callee:=Callee.value (Operand.func 12),args:=#[Operand.tmp 57,Operand.tmp 58],argTypes:=#[39,28] },type:=4,pos := "again.go:30",after:=#[{ on:=18,ground:=Ground.data },{ on:=19,ground:=Ground.data },{ on:=17,ground:=Ground.chain },{ on:=17,ground:=Ground.guard }],guard:=some (17,false) },
 { dst:=some 60,op:=Op.pick (Operand.tmp 56) (Operand.const (Value.bool true)) (Operand.tmp 59),type:=4,pos := "again.go:30",after:=#[{ on:=17,ground:=Ground.data },{ on:=20,ground:=Ground.data },{ on:=10,ground:=Ground.guard }],guard:=some (10,false) },
 { dst:=some 61,op:=Op.binOp BinOp.eql 4 (Operand.tmp 52) (Operand.tmp 60) 4,type:=4,pos := "again.go:30",after:=#[{ on:=13,ground:=Ground.data },{ on:=21,ground:=Ground.data },{ on:=10,ground:=Ground.guard }],guard:=some (10,false) },
 { dst:=some 62,op:=Op.pick (Operand.tmp 49) (Operand.const (Value.bool true)) (Operand.tmp 61),type:=4,pos := "again.go:30",after:=#[{ on:=10,ground:=Ground.data },{ on:=22,ground:=Ground.data }],guard:=none },
 { dst:=some 6,op:=Op.assign (Operand.tmp 62),type:=4,pos := "again.go:30",after:=#[{ on:=23,ground:=Ground.data },{ on:=20,ground:=Ground.chain },{ on:=0,ground:=Ground.phase },{ on:=1,ground:=Ground.phase },{ on:=2,ground:=Ground.phase },{ on:=3,ground:=Ground.phase },{ on:=4,ground:=Ground.phase },{ on:=5,ground:=Ground.phase },{ on:=6,ground:=Ground.phase },{ on:=7,ground:=Ground.phase },{ on:=8,ground:=Ground.phase },{ on:=9,ground:=Ground.phase },{ on:=10,ground:=Ground.phase },{ on:=11,ground:=Ground.phase },{ on:=12,ground:=Ground.phase },{ on:=13,ground:=Ground.phase },{ on:=14,ground:=Ground.phase },{ on:=15,ground:=Ground.phase },{ on:=16,ground:=Ground.phase },{ on:=17,ground:=Ground.phase },{ on:=18,ground:=Ground.phase },{ on:=19,ground:=Ground.phase },{ on:=20,ground:=Ground.phase },{ on:=21,ground:=Ground.phase },{ on:=22,ground:=Ground.phase },{ on:=23,ground:=Ground.phase }],guard:=none }]
def WregNe1  (D:List Deferred) (v0 v1 v2 v3 v4 v5 v7 v9 v10 v11 v12 v13 v14 v15 v16 v17 v18 v19 v20 v21 v22 v23 v24 v25 v26 v27 v28 v29 v30 v31 v32 v33 v34 v35 v36 v37 v38:Value) (w0:World) (l:Nat→Bool) (a:Act) (w:World):Prop :=
 ∃ (y0 y1 y2 y3 y4 y5 y6 y7 y8 y9 y10 y11 y12 y13 y14 y15 y16 y17 y18 y19 y20 y21 y22 y23 y24:Value),a = { tmps:=#[v0,v1,v2,v3,v4,v5,y24,v7,.bool false,v9,v10,v11,v12,v13,v14,v15,v16,v17,v18,v19,v20,v21,v22,v23,v24,v25,v26,v27,v28,v29,v30,v31,v32,v33,v34,v35,v36,v37,v38,y0,y1,y2,y3,y4,y5,y6,y7,y8,y9,y10,y11,y12,y13,y14,y15,y16,y17,y18,y19,y20,y21,y22,y23],defers:=D }∧Below w0.heap.size w0 w ∧
  (l 0=true→y0=.bool false)∧(l 1=true→y1=.bool true)∧(l 2=true→y2=.bool true)∧(l 5=true→y5=.bool true)∧(l 6=true→y6=.bool true)∧(l 9=true→y9=.bool true)∧(l 10=true→y10=.bool true)∧(l 17=true→y17=undef)∧(l 23=true→y23=.bool true)∧(l 24=true→y24=.bool true)
set_option maxHeartbeats 8000000 in
set_option maxRecDepth 100000 in
theorem regNe1  (D:List Deferred) (v0 v1 v2 v3 v4 v5 v7 v9 v10 v11 v12 v13 v14 v15 v16 v17 v18 v19 v20 v21 v22 v23 v24 v25 v26 v27 v28 v29 v30 v31 v32 v33 v34 v35 v36 v37 v38 wy0 wy1 wy2 wy3 wy4 wy5 wy6 wy7 wy8 wy9 wy10 wy11 wy12 wy13 wy14 wy15 wy16 wy17 wy18 wy19 wy20 wy21 wy22 wy23 wy24:Value) (w:World)  (Q:Exit→Act→World→Prop)
  (hQ:∀ (y0 y1 y2 y3 y4 y5 y6 y7 y8 y9 y10 y11 y12 y13 y14 y15 y16 y17 y18 y19 y20 y21 y22 y23:Value) (w':World),Below w.heap.size w w'→Q .normal { tmps:=#[v0,v1,v2,v3,v4,v5,.bool true,v7,.bool false,v9,v10,v11,v12,v13,v14,v15,v16,v17,v18,v19,v20,v21,v22,v23,v24,v25,v26,v27,v28,v29,v30,v31,v32,v33,v34,v35,v36,v37,v38,y0,y1,y2,y3,y4,y5,y6,y7,y8,y9,y10,y11,y12,y13,y14,y15,y16,y17,y18,y19,y20,y21,y22,y23],defers:=D } w') :
  (Code.region 6 opsregNe1 true).wp Tryz.prog Q { tmps:=#[v0,v1,v2,v3,v4,v5,wy24,v7,.bool false,v9,v10,v11,v12,v13,v14,v15,v16,v17,v18,v19,v20,v21,v22,v23,v24,v25,v26,v27,v28,v29,v30,v31,v32,v33,v34,v35,v36,v37,v38,wy0,wy1,wy2,wy3,wy4,wy5,wy6,wy7,wy8,wy9,wy10,wy11,wy12,wy13,wy14,wy15,wy16,wy17,wy18,wy19,wy20,wy21,wy22,wy23],defers:=D } w:=by
 refine wp_region_inv (by kernel_rfl) (WregNe1  D v0 v1 v2 v3 v4 v5 v7 v9 v10 v11 v12 v13 v14 v15 v16 v17 v18 v19 v20 v21 v22 v23 v24 v25 v26 v27 v28 v29 v30 v31 v32 v33 v34 v35 v36 v37 v38 w) ?hacy ?h0 ?hstep ?hdone
 case hacy=>kernel_rfl
 case h0=>exact ⟨wy0,wy1,wy2,wy3,wy4,wy5,wy6,wy7,wy8,wy9,wy10,wy11,wy12,wy13,wy14,wy15,wy16,wy17,wy18,wy19,wy20,wy21,wy22,wy23,wy24,rfl,below_drewN (Below.refl _ _) 1,(fun p=>by cases p),(fun p=>by cases p),(fun p=>by cases p),(fun p=>by cases p),(fun p=>by cases p),(fun p=>by cases p),(fun p=>by cases p),(fun p=>by cases p),(fun p=>by cases p),(fun p=>by cases p)⟩
 case hdone =>
  intro l a w1 hI hall
  obtain ⟨y0,y1,y2,y3,y4,y5,y6,y7,y8,y9,y10,y11,y12,y13,y14,y15,y16,y17,y18,y19,y20,y21,y22,y23,y24,rfl,hb,h0,h1,h2,h5,h6,h9,h10,h17,h23,h24⟩:=hI
  obtain rfl:=h24 (hall 24 (by decide))
  exact hQ _ _ _ _ _ _ _ _ _ _ _ _ _ _ _ _ _ _ _ _ _ _ _ _ _ hb
 case hstep =>
  intro l a w1 i o hI ho hl hall
  obtain ⟨y0,y1,y2,y3,y4,y5,y6,y7,y8,y9,y10,y11,y12,y13,y14,y15,y16,y17,y18,y19,y20,y21,y22,y23,y24,rfl,hb,h0,h1,h2,h5,h6,h9,h10,h17,h23,h24⟩:=hI
  have hi:i<25:=(Array.getElem?_eq_some_iff.1 ho).1
  match i,hi with
  | 0,_ =>
   have ho':=ho
   simp [opsregNe1] at ho
   subst ho
   refine wpOp_one ho' rfl fun K hK=>?_
   go_simp
   exact hK _ _ ⟨_,y1,y2,y3,y4,y5,y6,y7,y8,y9,y10,y11,y12,y13,y14,y15,y16,y17,y18,y19,y20,y21,y22,y23,y24,rfl,hb,fun _=>(by first | rfl | simp),h1,h2,h5,h6,h9,h10,h17,h23,h24⟩
  | 1,_ =>
   have ho':=ho
   simp [opsregNe1] at ho
   subst ho
   obtain rfl:=h0 (hall ⟨0,.data⟩ (by simp) rfl)
   refine wpOp_one ho' rfl fun K hK=>?_
   go_simp
   exact hK _ _ ⟨_,_,y2,y3,y4,y5,y6,y7,y8,y9,y10,y11,y12,y13,y14,y15,y16,y17,y18,y19,y20,y21,y22,y23,y24,rfl,hb,fun _=>rfl,fun _=>(by first | rfl | simp),h2,h5,h6,h9,h10,h17,h23,h24⟩
  | 2,_ =>
   have ho':=ho
   simp [opsregNe1] at ho
   subst ho
   obtain rfl:=h1 (hall ⟨1,.data⟩ (by simp) rfl)
   refine wpOp_one ho' rfl fun K hK=>?_
   go_simp
   exact hK _ _ ⟨y0,_,_,y3,y4,y5,y6,y7,y8,y9,y10,y11,y12,y13,y14,y15,y16,y17,y18,y19,y20,y21,y22,y23,y24,rfl,hb,h0,fun _=>rfl,fun _=>(by first | rfl | simp),h5,h6,h9,h10,h17,h23,h24⟩
  | 3,_ =>
   have ho':=ho
   simp [opsregNe1] at ho
   subst ho
   obtain rfl:=h2 (hall ⟨2,.guard⟩ (by simp) rfl)
   refine wpOq_off ho' rfl ?_
   exact ⟨y0,y1,_,_,y4,y5,y6,y7,y8,y9,y10,y11,y12,y13,y14,y15,y16,y17,y18,y19,y20,y21,y22,y23,y24,rfl,hb,h0,h1,fun _=>rfl,h5,h6,h9,h10,h17,h23,h24⟩
  | 4,_ =>
   have ho':=ho
   simp [opsregNe1] at ho
   subst ho
   obtain rfl:=h2 (hall ⟨2,.guard⟩ (by simp) rfl)
   refine wpOq_off ho' rfl ?_
   exact ⟨y0,y1,_,y3,_,y5,y6,y7,y8,y9,y10,y11,y12,y13,y14,y15,y16,y17,y18,y19,y20,y21,y22,y23,y24,rfl,hb,h0,h1,fun _=>rfl,h5,h6,h9,h10,h17,h23,h24⟩
  | 5,_ =>
   have ho':=ho
   simp [opsregNe1] at ho
   subst ho
   obtain rfl:=h2 (hall ⟨2,.data⟩ (by simp) rfl)
   refine wpOp_one ho' rfl fun K hK=>?_
   go_simp
   exact hK _ _ ⟨y0,y1,_,y3,y4,_,y6,y7,y8,y9,y10,y11,y12,y13,y14,y15,y16,y17,y18,y19,y20,y21,y22,y23,y24,rfl,hb,h0,h1,fun _=>rfl,fun _=>(by first | rfl | simp),h6,h9,h10,h17,h23,h24⟩
  | 6,_ =>
   have ho':=ho
   simp [opsregNe1] at ho
   subst ho
   obtain rfl:=h5 (hall ⟨5,.data⟩ (by simp) rfl)
   refine wpOp_one ho' rfl fun K hK=>?_
   go_simp
   exact hK _ _ ⟨y0,y1,y2,y3,y4,_,_,y7,y8,y9,y10,y11,y12,y13,y14,y15,y16,y17,y18,y19,y20,y21,y22,y23,y24,rfl,hb,h0,h1,h2,fun _=>rfl,fun _=>(by first | rfl | simp),h9,h10,h17,h23,h24⟩
  | 7,_ =>
   have ho':=ho
   simp [opsregNe1] at ho
   subst ho
   obtain rfl:=h6 (hall ⟨6,.guard⟩ (by simp) rfl)
   refine wpOq_off ho' rfl ?_
   exact ⟨y0,y1,y2,y3,y4,y5,_,_,y8,y9,y10,y11,y12,y13,y14,y15,y16,y17,y18,y19,y20,y21,y22,y23,y24,rfl,hb,h0,h1,h2,h5,fun _=>rfl,h9,h10,h17,h23,h24⟩
  | 8,_ =>
   have ho':=ho
   simp [opsregNe1] at ho
   subst ho
   obtain rfl:=h6 (hall ⟨6,.guard⟩ (by simp) rfl)
   refine wpOq_off ho' rfl ?_
   exact ⟨y0,y1,y2,y3,y4,y5,_,y7,_,y9,y10,y11,y12,y13,y14,y15,y16,y17,y18,y19,y20,y21,y22,y23,y24,rfl,hb,h0,h1,h2,h5,fun _=>rfl,h9,h10,h17,h23,h24⟩
  | 9,_ =>
   have ho':=ho
   simp [opsregNe1] at ho
   subst ho
   obtain rfl:=h6 (hall ⟨6,.data⟩ (by simp) rfl)
   refine wpOp_one ho' rfl fun K hK=>?_
   go_simp
   exact hK _ _ ⟨y0,y1,y2,y3,y4,y5,_,y7,y8,_,y10,y11,y12,y13,y14,y15,y16,y17,y18,y19,y20,y21,y22,y23,y24,rfl,hb,h0,h1,h2,h5,fun _=>rfl,fun _=>(by first | rfl | simp),h10,h17,h23,h24⟩
  | 10,_ =>
   have ho':=ho
   simp [opsregNe1] at ho
   subst ho
   obtain rfl:=h9 (hall ⟨9,.data⟩ (by simp) rfl)
   refine wpOp_one ho' rfl fun K hK=>?_
   go_simp
   exact hK _ _ ⟨y0,y1,y2,y3,y4,y5,y6,y7,y8,_,_,y11,y12,y13,y14,y15,y16,y17,y18,y19,y20,y21,y22,y23,y24,rfl,hb,h0,h1,h2,h5,h6,fun _=>rfl,fun _=>(by first | rfl | simp),h17,h23,h24⟩
  | 11,_ =>
   have ho':=ho
   simp [opsregNe1] at ho
   subst ho
   obtain rfl:=h10 (hall ⟨10,.guard⟩ (by simp) rfl)
   refine wpOq_off ho' rfl ?_
   exact ⟨y0,y1,y2,y3,y4,y5,y6,y7,y8,y9,_,_,y12,y13,y14,y15,y16,y17,y18,y19,y20,y21,y22,y23,y24,rfl,hb,h0,h1,h2,h5,h6,h9,fun _=>rfl,h17,h23,h24⟩
  | 12,_ =>
   have ho':=ho
   simp [opsregNe1] at ho
   subst ho
   obtain rfl:=h10 (hall ⟨10,.guard⟩ (by simp) rfl)
   refine wpOq_off ho' rfl ?_
   exact ⟨y0,y1,y2,y3,y4,y5,y6,y7,y8,y9,_,y11,_,y13,y14,y15,y16,y17,y18,y19,y20,y21,y22,y23,y24,rfl,hb,h0,h1,h2,h5,h6,h9,fun _=>rfl,h17,h23,h24⟩
  | 13,_ =>
   have ho':=ho
   simp [opsregNe1] at ho
   subst ho
   obtain rfl:=h10 (hall ⟨10,.chain⟩ (by simp) rfl)
   refine wpOq_off ho' rfl ?_
   exact ⟨y0,y1,y2,y3,y4,y5,y6,y7,y8,y9,_,y11,y12,_,y14,y15,y16,y17,y18,y19,y20,y21,y22,y23,y24,rfl,hb,h0,h1,h2,h5,h6,h9,fun _=>rfl,h17,h23,h24⟩
  | 14,_ =>
   have ho':=ho
   simp [opsregNe1] at ho
   subst ho
   obtain rfl:=h10 (hall ⟨10,.guard⟩ (by simp) rfl)
   refine wpOq_off ho' rfl ?_
   exact ⟨y0,y1,y2,y3,y4,y5,y6,y7,y8,y9,_,y11,y12,y13,_,y15,y16,y17,y18,y19,y20,y21,y22,y23,y24,rfl,hb,h0,h1,h2,h5,h6,h9,fun _=>rfl,h17,h23,h24⟩
  | 15,_ =>
   have ho':=ho
   simp [opsregNe1] at ho
   subst ho
   obtain rfl:=h10 (hall ⟨10,.guard⟩ (by simp) rfl)
   refine wpOq_off ho' rfl ?_
   exact ⟨y0,y1,y2,y3,y4,y5,y6,y7,y8,y9,_,y11,y12,y13,y14,_,y16,y17,y18,y19,y20,y21,y22,y23,y24,rfl,hb,h0,h1,h2,h5,h6,h9,fun _=>rfl,h17,h23,h24⟩
  | 16,_ =>
   have ho':=ho
   simp [opsregNe1] at ho
   subst ho
   obtain rfl:=h10 (hall ⟨10,.guard⟩ (by simp) rfl)
   refine wpOq_off ho' rfl ?_
   exact ⟨y0,y1,y2,y3,y4,y5,y6,y7,y8,y9,_,y11,y12,y13,y14,y15,_,y17,y18,y19,y20,y21,y22,y23,y24,rfl,hb,h0,h1,h2,h5,h6,h9,fun _=>rfl,h17,h23,h24⟩
  | 17,_ =>
   have ho':=ho
   simp [opsregNe1] at ho
   subst ho
   obtain rfl:=h10 (hall ⟨10,.guard⟩ (by simp) rfl)
   refine wpOq_off ho' rfl ?_
   exact ⟨y0,y1,y2,y3,y4,y5,y6,y7,y8,y9,_,y11,y12,y13,y14,y15,y16,_,y18,y19,y20,y21,y22,y23,y24,rfl,hb,h0,h1,h2,h5,h6,h9,fun _=>rfl,fun _=>rfl,h23,h24⟩
  | 18,_ =>
   have ho':=ho
   simp [opsregNe1] at ho
   subst ho
   obtain rfl:=h17 (hall ⟨17,.guard⟩ (by simp) rfl)
   refine wpOq_off ho' rfl ?_
   exact ⟨y0,y1,y2,y3,y4,y5,y6,y7,y8,y9,y10,y11,y12,y13,y14,y15,y16,_,_,y19,y20,y21,y22,y23,y24,rfl,hb,h0,h1,h2,h5,h6,h9,h10,fun _=>rfl,h23,h24⟩
  | 19,_ =>
   have ho':=ho
   simp [opsregNe1] at ho
   subst ho
   obtain rfl:=h17 (hall ⟨17,.guard⟩ (by simp) rfl)
   refine wpOq_off ho' rfl ?_
   exact ⟨y0,y1,y2,y3,y4,y5,y6,y7,y8,y9,y10,y11,y12,y13,y14,y15,y16,_,y18,_,y20,y21,y22,y23,y24,rfl,hb,h0,h1,h2,h5,h6,h9,h10,fun _=>rfl,h23,h24⟩
  | 20,_ =>
   have ho':=ho
   simp [opsregNe1] at ho
   subst ho
   obtain rfl:=h17 (hall ⟨17,.chain⟩ (by simp) rfl)
   refine wpOq_off ho' rfl ?_
   exact ⟨y0,y1,y2,y3,y4,y5,y6,y7,y8,y9,y10,y11,y12,y13,y14,y15,y16,_,y18,y19,_,y21,y22,y23,y24,rfl,hb,h0,h1,h2,h5,h6,h9,h10,fun _=>rfl,h23,h24⟩
  | 21,_ =>
   have ho':=ho
   simp [opsregNe1] at ho
   subst ho
   obtain rfl:=h10 (hall ⟨10,.guard⟩ (by simp) rfl)
   obtain rfl:=h17 (hall ⟨17,.data⟩ (by simp) rfl)
   refine wpOq_off ho' rfl ?_
   exact ⟨y0,y1,y2,y3,y4,y5,y6,y7,y8,y9,_,y11,y12,y13,y14,y15,y16,_,y18,y19,y20,_,y22,y23,y24,rfl,hb,h0,h1,h2,h5,h6,h9,fun _=>rfl,fun _=>rfl,h23,h24⟩
  | 22,_ =>
   have ho':=ho
   simp [opsregNe1] at ho
   subst ho
   obtain rfl:=h10 (hall ⟨10,.guard⟩ (by simp) rfl)
   refine wpOq_off ho' rfl ?_
   exact ⟨y0,y1,y2,y3,y4,y5,y6,y7,y8,y9,_,y11,y12,y13,y14,y15,y16,y17,y18,y19,y20,y21,_,y23,y24,rfl,hb,h0,h1,h2,h5,h6,h9,fun _=>rfl,h17,h23,h24⟩
  | 23,_ =>
   have ho':=ho
   simp [opsregNe1] at ho
   subst ho
   obtain rfl:=h10 (hall ⟨10,.data⟩ (by simp) rfl)
   refine wpOp_one ho' rfl fun K hK=>?_
   go_simp
   exact hK _ _ ⟨y0,y1,y2,y3,y4,y5,y6,y7,y8,y9,_,y11,y12,y13,y14,y15,y16,y17,y18,y19,y20,y21,y22,_,y24,rfl,hb,h0,h1,h2,h5,h6,h9,fun _=>rfl,h17,fun _=>(by first | rfl | simp),h24⟩
  | 24,_ =>
   have ho':=ho
   simp [opsregNe1] at ho
   subst ho
   obtain rfl:=h23 (hall ⟨23,.data⟩ (by simp) rfl)
   refine wpOp_one ho' rfl fun K hK=>?_
   go_simp
   exact hK _ _ ⟨y0,y1,y2,y3,y4,y5,y6,y7,y8,y9,y10,y11,y12,y13,y14,y15,y16,y17,y18,y19,y20,y21,y22,_,_,rfl,hb,h0,h1,h2,h5,h6,h9,h10,h17,fun _=>rfl,fun _=>(by first | rfl | simp)⟩
  | k+25,hi=>omega
def WregNe2  (D:List Deferred) (v0 v1 v2 v3 v4 v5 v7 v9 v11 v12 v13 v14 v15 v16 v17 v18 v19 v20 v21 v22 v23 v24 v25 v26 v27 v28 v29 v30 v31 v32 v33 v34 v35 v36 v37 v38:Value) (w0:World) (l:Nat→Bool) (a:Act) (w:World):Prop :=
 ∃ (y0 y1 y2 y3 y4 y5 y6 y7 y8 y9 y10 y11 y12 y13 y14 y15 y16 y17 y18 y19 y20 y21 y22 y23 y24:Value),a = { tmps:=#[v0,v1,v2,v3,v4,v5,y24,v7,.bool true,v9,.bool false,v11,v12,v13,v14,v15,v16,v17,v18,v19,v20,v21,v22,v23,v24,v25,v26,v27,v28,v29,v30,v31,v32,v33,v34,v35,v36,v37,v38,y0,y1,y2,y3,y4,y5,y6,y7,y8,y9,y10,y11,y12,y13,y14,y15,y16,y17,y18,y19,y20,y21,y22,y23],defers:=D }∧Below w0.heap.size w0 w ∧
  (l 0=true→y0=.bool true)∧(l 1=true→y1=.bool false)∧(l 2=true→y2=.bool false)∧(l 3=true→y3=.bool false)∧(l 4=true→y4=.bool true)∧(l 5=true→y5=.bool true)∧(l 6=true→y6=.bool true)∧(l 9=true→y9=.bool true)∧(l 10=true→y10=.bool true)∧(l 17=true→y17=undef)∧(l 23=true→y23=.bool true)∧(l 24=true→y24=.bool true)
set_option maxHeartbeats 8000000 in
set_option maxRecDepth 100000 in
theorem regNe2  (D:List Deferred) (v0 v1 v2 v3 v4 v5 v7 v9 v11 v12 v13 v14 v15 v16 v17 v18 v19 v20 v21 v22 v23 v24 v25 v26 v27 v28 v29 v30 v31 v32 v33 v34 v35 v36 v37 v38 wy0 wy1 wy2 wy3 wy4 wy5 wy6 wy7 wy8 wy9 wy10 wy11 wy12 wy13 wy14 wy15 wy16 wy17 wy18 wy19 wy20 wy21 wy22 wy23 wy24:Value) (w:World)  (Q:Exit→Act→World→Prop)
  (hQ:∀ (y0 y1 y2 y3 y4 y5 y6 y7 y8 y9 y10 y11 y12 y13 y14 y15 y16 y17 y18 y19 y20 y21 y22 y23:Value) (w':World),Below w.heap.size w w'→Q .normal { tmps:=#[v0,v1,v2,v3,v4,v5,.bool true,v7,.bool true,v9,.bool false,v11,v12,v13,v14,v15,v16,v17,v18,v19,v20,v21,v22,v23,v24,v25,v26,v27,v28,v29,v30,v31,v32,v33,v34,v35,v36,v37,v38,y0,y1,y2,y3,y4,y5,y6,y7,y8,y9,y10,y11,y12,y13,y14,y15,y16,y17,y18,y19,y20,y21,y22,y23],defers:=D } w') :
  (Code.region 6 opsregNe1 true).wp Tryz.prog Q { tmps:=#[v0,v1,v2,v3,v4,v5,wy24,v7,.bool true,v9,.bool false,v11,v12,v13,v14,v15,v16,v17,v18,v19,v20,v21,v22,v23,v24,v25,v26,v27,v28,v29,v30,v31,v32,v33,v34,v35,v36,v37,v38,wy0,wy1,wy2,wy3,wy4,wy5,wy6,wy7,wy8,wy9,wy10,wy11,wy12,wy13,wy14,wy15,wy16,wy17,wy18,wy19,wy20,wy21,wy22,wy23],defers:=D } w:=by
 refine wp_region_inv (by kernel_rfl) (WregNe2  D v0 v1 v2 v3 v4 v5 v7 v9 v11 v12 v13 v14 v15 v16 v17 v18 v19 v20 v21 v22 v23 v24 v25 v26 v27 v28 v29 v30 v31 v32 v33 v34 v35 v36 v37 v38 w) ?hacy ?h0 ?hstep ?hdone
 case hacy=>kernel_rfl
 case h0=>exact ⟨wy0,wy1,wy2,wy3,wy4,wy5,wy6,wy7,wy8,wy9,wy10,wy11,wy12,wy13,wy14,wy15,wy16,wy17,wy18,wy19,wy20,wy21,wy22,wy23,wy24,rfl,below_drewN (Below.refl _ _) 1,(fun p=>by cases p),(fun p=>by cases p),(fun p=>by cases p),(fun p=>by cases p),(fun p=>by cases p),(fun p=>by cases p),(fun p=>by cases p),(fun p=>by cases p),(fun p=>by cases p),(fun p=>by cases p),(fun p=>by cases p),(fun p=>by cases p)⟩
 case hdone =>
  intro l a w1 hI hall
  obtain ⟨y0,y1,y2,y3,y4,y5,y6,y7,y8,y9,y10,y11,y12,y13,y14,y15,y16,y17,y18,y19,y20,y21,y22,y23,y24,rfl,hb,h0,h1,h2,h3,h4,h5,h6,h9,h10,h17,h23,h24⟩:=hI
  obtain rfl:=h24 (hall 24 (by decide))
  exact hQ _ _ _ _ _ _ _ _ _ _ _ _ _ _ _ _ _ _ _ _ _ _ _ _ _ hb
 case hstep =>
  intro l a w1 i o hI ho hl hall
  obtain ⟨y0,y1,y2,y3,y4,y5,y6,y7,y8,y9,y10,y11,y12,y13,y14,y15,y16,y17,y18,y19,y20,y21,y22,y23,y24,rfl,hb,h0,h1,h2,h3,h4,h5,h6,h9,h10,h17,h23,h24⟩:=hI
  have hi:i<25:=(Array.getElem?_eq_some_iff.1 ho).1
  match i,hi with
  | 0,_ =>
   have ho':=ho
   simp [opsregNe1] at ho
   subst ho
   refine wpOp_one ho' rfl fun K hK=>?_
   go_simp
   exact hK _ _ ⟨_,y1,y2,y3,y4,y5,y6,y7,y8,y9,y10,y11,y12,y13,y14,y15,y16,y17,y18,y19,y20,y21,y22,y23,y24,rfl,hb,fun _=>(by first | rfl | simp),h1,h2,h3,h4,h5,h6,h9,h10,h17,h23,h24⟩
  | 1,_ =>
   have ho':=ho
   simp [opsregNe1] at ho
   subst ho
   obtain rfl:=h0 (hall ⟨0,.data⟩ (by simp) rfl)
   refine wpOp_one ho' rfl fun K hK=>?_
   go_simp
   exact hK _ _ ⟨_,_,y2,y3,y4,y5,y6,y7,y8,y9,y10,y11,y12,y13,y14,y15,y16,y17,y18,y19,y20,y21,y22,y23,y24,rfl,hb,fun _=>rfl,fun _=>(by first | rfl | simp),h2,h3,h4,h5,h6,h9,h10,h17,h23,h24⟩
  | 2,_ =>
   have ho':=ho
   simp [opsregNe1] at ho
   subst ho
   obtain rfl:=h1 (hall ⟨1,.data⟩ (by simp) rfl)
   refine wpOp_one ho' rfl fun K hK=>?_
   go_simp
   exact hK _ _ ⟨y0,_,_,y3,y4,y5,y6,y7,y8,y9,y10,y11,y12,y13,y14,y15,y16,y17,y18,y19,y20,y21,y22,y23,y24,rfl,hb,h0,fun _=>rfl,fun _=>(by first | rfl | simp),h3,h4,h5,h6,h9,h10,h17,h23,h24⟩
  | 3,_ =>
   have ho':=ho
   simp [opsregNe1] at ho
   subst ho
   obtain rfl:=h2 (hall ⟨2,.guard⟩ (by simp) rfl)
   refine wpOp_on ho' rfl fun K hK=>?_
   go_simp
   exact hK _ _ ⟨y0,y1,_,_,y4,y5,y6,y7,y8,y9,y10,y11,y12,y13,y14,y15,y16,y17,y18,y19,y20,y21,y22,y23,y24,rfl,hb,h0,h1,fun _=>rfl,fun _=>(by first | rfl | simp),h4,h5,h6,h9,h10,h17,h23,h24⟩
  | 4,_ =>
   have ho':=ho
   simp [opsregNe1] at ho
   subst ho
   obtain rfl:=h2 (hall ⟨2,.guard⟩ (by simp) rfl)
   obtain rfl:=h3 (hall ⟨3,.data⟩ (by simp) rfl)
   refine wpOp_on ho' rfl fun K hK=>?_
   go_simp
   exact hK _ _ ⟨y0,y1,_,_,_,y5,y6,y7,y8,y9,y10,y11,y12,y13,y14,y15,y16,y17,y18,y19,y20,y21,y22,y23,y24,rfl,hb,h0,h1,fun _=>rfl,fun _=>rfl,fun _=>(by first | rfl | simp),h5,h6,h9,h10,h17,h23,h24⟩
  | 5,_ =>
   have ho':=ho
   simp [opsregNe1] at ho
   subst ho
   obtain rfl:=h2 (hall ⟨2,.data⟩ (by simp) rfl)
   obtain rfl:=h4 (hall ⟨4,.data⟩ (by simp) rfl)
   refine wpOp_one ho' rfl fun K hK=>?_
   go_simp
   exact hK _ _ ⟨y0,y1,_,y3,_,_,y6,y7,y8,y9,y10,y11,y12,y13,y14,y15,y16,y17,y18,y19,y20,y21,y22,y23,y24,rfl,hb,h0,h1,fun _=>rfl,h3,fun _=>rfl,fun _=>(by first | rfl | simp),h6,h9,h10,h17,h23,h24⟩
  | 6,_ =>
   have ho':=ho
   simp [opsregNe1] at ho
   subst ho
   obtain rfl:=h5 (hall ⟨5,.data⟩ (by simp) rfl)
   refine wpOp_one ho' rfl fun K hK=>?_
   go_simp
   exact hK _ _ ⟨y0,y1,y2,y3,y4,_,_,y7,y8,y9,y10,y11,y12,y13,y14,y15,y16,y17,y18,y19,y20,y21,y22,y23,y24,rfl,hb,h0,h1,h2,h3,h4,fun _=>rfl,fun _=>(by first | rfl | simp),h9,h10,h17,h23,h24⟩
  | 7,_ =>
   have ho':=ho
   simp [opsregNe1] at ho
   subst ho
   obtain rfl:=h6 (hall ⟨6,.guard⟩ (by simp) rfl)
   refine wpOq_off ho' rfl ?_
   exact ⟨y0,y1,y2,y3,y4,y5,_,_,y8,y9,y10,y11,y12,y13,y14,y15,y16,y17,y18,y19,y20,y21,y22,y23,y24,rfl,hb,h0,h1,h2,h3,h4,h5,fun _=>rfl,h9,h10,h17,h23,h24⟩
  | 8,_ =>
   have ho':=ho
   simp [opsregNe1] at ho
   subst ho
   obtain rfl:=h6 (hall ⟨6,.guard⟩ (by simp) rfl)
   refine wpOq_off ho' rfl ?_
   exact ⟨y0,y1,y2,y3,y4,y5,_,y7,_,y9,y10,y11,y12,y13,y14,y15,y16,y17,y18,y19,y20,y21,y22,y23,y24,rfl,hb,h0,h1,h2,h3,h4,h5,fun _=>rfl,h9,h10,h17,h23,h24⟩
  | 9,_ =>
   have ho':=ho
   simp [opsregNe1] at ho
   subst ho
   obtain rfl:=h6 (hall ⟨6,.data⟩ (by simp) rfl)
   refine wpOp_one ho' rfl fun K hK=>?_
   go_simp
   exact hK _ _ ⟨y0,y1,y2,y3,y4,y5,_,y7,y8,_,y10,y11,y12,y13,y14,y15,y16,y17,y18,y19,y20,y21,y22,y23,y24,rfl,hb,h0,h1,h2,h3,h4,h5,fun _=>rfl,fun _=>(by first | rfl | simp),h10,h17,h23,h24⟩
  | 10,_ =>
   have ho':=ho
   simp [opsregNe1] at ho
   subst ho
   obtain rfl:=h9 (hall ⟨9,.data⟩ (by simp) rfl)
   refine wpOp_one ho' rfl fun K hK=>?_
   go_simp
   exact hK _ _ ⟨y0,y1,y2,y3,y4,y5,y6,y7,y8,_,_,y11,y12,y13,y14,y15,y16,y17,y18,y19,y20,y21,y22,y23,y24,rfl,hb,h0,h1,h2,h3,h4,h5,h6,fun _=>rfl,fun _=>(by first | rfl | simp),h17,h23,h24⟩
  | 11,_ =>
   have ho':=ho
   simp [opsregNe1] at ho
   subst ho
   obtain rfl:=h10 (hall ⟨10,.guard⟩ (by simp) rfl)
   refine wpOq_off ho' rfl ?_
   exact ⟨y0,y1,y2,y3,y4,y5,y6,y7,y8,y9,_,_,y12,y13,y14,y15,y16,y17,y18,y19,y20,y21,y22,y23,y24,rfl,hb,h0,h1,h2,h3,h4,h5,h6,h9,fun _=>rfl,h17,h23,h24⟩
  | 12,_ =>
   have ho':=ho
   simp [opsregNe1] at ho
   subst ho
   obtain rfl:=h10 (hall ⟨10,.guard⟩ (by simp) rfl)
   refine wpOq_off ho' rfl ?_
   exact ⟨y0,y1,y2,y3,y4,y5,y6,y7,y8,y9,_,y11,_,y13,y14,y15,y16,y17,y18,y19,y20,y21,y22,y23,y24,rfl,hb,h0,h1,h2,h3,h4,h5,h6,h9,fun _=>rfl,h17,h23,h24⟩
  | 13,_ =>
   have ho':=ho
   simp [opsregNe1] at ho
   subst ho
   obtain rfl:=h10 (hall ⟨10,.chain⟩ (by simp) rfl)
   refine wpOq_off ho' rfl ?_
   exact ⟨y0,y1,y2,y3,y4,y5,y6,y7,y8,y9,_,y11,y12,_,y14,y15,y16,y17,y18,y19,y20,y21,y22,y23,y24,rfl,hb,h0,h1,h2,h3,h4,h5,h6,h9,fun _=>rfl,h17,h23,h24⟩
  | 14,_ =>
   have ho':=ho
   simp [opsregNe1] at ho
   subst ho
   obtain rfl:=h10 (hall ⟨10,.guard⟩ (by simp) rfl)
   refine wpOq_off ho' rfl ?_
   exact ⟨y0,y1,y2,y3,y4,y5,y6,y7,y8,y9,_,y11,y12,y13,_,y15,y16,y17,y18,y19,y20,y21,y22,y23,y24,rfl,hb,h0,h1,h2,h3,h4,h5,h6,h9,fun _=>rfl,h17,h23,h24⟩
  | 15,_ =>
   have ho':=ho
   simp [opsregNe1] at ho
   subst ho
   obtain rfl:=h10 (hall ⟨10,.guard⟩ (by simp) rfl)
   refine wpOq_off ho' rfl ?_
   exact ⟨y0,y1,y2,y3,y4,y5,y6,y7,y8,y9,_,y11,y12,y13,y14,_,y16,y17,y18,y19,y20,y21,y22,y23,y24,rfl,hb,h0,h1,h2,h3,h4,h5,h6,h9,fun _=>rfl,h17,h23,h24⟩
  | 16,_ =>
   have ho':=ho
   simp [opsregNe1] at ho
   subst ho
   obtain rfl:=h10 (hall ⟨10,.guard⟩ (by simp) rfl)
   refine wpOq_off ho' rfl ?_
   exact ⟨y0,y1,y2,y3,y4,y5,y6,y7,y8,y9,_,y11,y12,y13,y14,y15,_,y17,y18,y19,y20,y21,y22,y23,y24,rfl,hb,h0,h1,h2,h3,h4,h5,h6,h9,fun _=>rfl,h17,h23,h24⟩
  | 17,_ =>
   have ho':=ho
   simp [opsregNe1] at ho
   subst ho
   obtain rfl:=h10 (hall ⟨10,.guard⟩ (by simp) rfl)
   refine wpOq_off ho' rfl ?_
   exact ⟨y0,y1,y2,y3,y4,y5,y6,y7,y8,y9,_,y11,y12,y13,y14,y15,y16,_,y18,y19,y20,y21,y22,y23,y24,rfl,hb,h0,h1,h2,h3,h4,h5,h6,h9,fun _=>rfl,fun _=>rfl,h23,h24⟩
  | 18,_ =>
   have ho':=ho
   simp [opsregNe1] at ho
   subst ho
   obtain rfl:=h17 (hall ⟨17,.guard⟩ (by simp) rfl)
   refine wpOq_off ho' rfl ?_
   exact ⟨y0,y1,y2,y3,y4,y5,y6,y7,y8,y9,y10,y11,y12,y13,y14,y15,y16,_,_,y19,y20,y21,y22,y23,y24,rfl,hb,h0,h1,h2,h3,h4,h5,h6,h9,h10,fun _=>rfl,h23,h24⟩
  | 19,_ =>
   have ho':=ho
   simp [opsregNe1] at ho
   subst ho
   obtain rfl:=h17 (hall ⟨17,.guard⟩ (by simp) rfl)
   refine wpOq_off ho' rfl ?_
   exact ⟨y0,y1,y2,y3,y4,y5,y6,y7,y8,y9,y10,y11,y12,y13,y14,y15,y16,_,y18,_,y20,y21,y22,y23,y24,rfl,hb,h0,h1,h2,h3,h4,h5,h6,h9,h10,fun _=>rfl,h23,h24⟩
  | 20,_ =>
   have ho':=ho
   simp [opsregNe1] at ho
   subst ho
   obtain rfl:=h17 (hall ⟨17,.chain⟩ (by simp) rfl)
   refine wpOq_off ho' rfl ?_
   exact ⟨y0,y1,y2,y3,y4,y5,y6,y7,y8,y9,y10,y11,y12,y13,y14,y15,y16,_,y18,y19,_,y21,y22,y23,y24,rfl,hb,h0,h1,h2,h3,h4,h5,h6,h9,h10,fun _=>rfl,h23,h24⟩
  | 21,_ =>
   have ho':=ho
   simp [opsregNe1] at ho
   subst ho
   obtain rfl:=h10 (hall ⟨10,.guard⟩ (by simp) rfl)
   obtain rfl:=h17 (hall ⟨17,.data⟩ (by simp) rfl)
   refine wpOq_off ho' rfl ?_
   exact ⟨y0,y1,y2,y3,y4,y5,y6,y7,y8,y9,_,y11,y12,y13,y14,y15,y16,_,y18,y19,y20,_,y22,y23,y24,rfl,hb,h0,h1,h2,h3,h4,h5,h6,h9,fun _=>rfl,fun _=>rfl,h23,h24⟩
  | 22,_ =>
   have ho':=ho
   simp [opsregNe1] at ho
   subst ho
   obtain rfl:=h10 (hall ⟨10,.guard⟩ (by simp) rfl)
   refine wpOq_off ho' rfl ?_
   exact ⟨y0,y1,y2,y3,y4,y5,y6,y7,y8,y9,_,y11,y12,y13,y14,y15,y16,y17,y18,y19,y20,y21,_,y23,y24,rfl,hb,h0,h1,h2,h3,h4,h5,h6,h9,fun _=>rfl,h17,h23,h24⟩
  | 23,_ =>
   have ho':=ho
   simp [opsregNe1] at ho
   subst ho
   obtain rfl:=h10 (hall ⟨10,.data⟩ (by simp) rfl)
   refine wpOp_one ho' rfl fun K hK=>?_
   go_simp
   exact hK _ _ ⟨y0,y1,y2,y3,y4,y5,y6,y7,y8,y9,_,y11,y12,y13,y14,y15,y16,y17,y18,y19,y20,y21,y22,_,y24,rfl,hb,h0,h1,h2,h3,h4,h5,h6,h9,fun _=>rfl,h17,fun _=>(by first | rfl | simp),h24⟩
  | 24,_ =>
   have ho':=ho
   simp [opsregNe1] at ho
   subst ho
   obtain rfl:=h23 (hall ⟨23,.data⟩ (by simp) rfl)
   refine wpOp_one ho' rfl fun K hK=>?_
   go_simp
   exact hK _ _ ⟨y0,y1,y2,y3,y4,y5,y6,y7,y8,y9,y10,y11,y12,y13,y14,y15,y16,y17,y18,y19,y20,y21,y22,_,_,rfl,hb,h0,h1,h2,h3,h4,h5,h6,h9,h10,h17,fun _=>rfl,fun _=>(by first | rfl | simp)⟩
  | k+25,hi=>omega
def WregNe3  (D:List Deferred) (v0 v1 v2 v3 v4 v5 v7 v9 v11 v13 v14 v15 v16 v17 v18 v19 v20 v21 v22 v23 v24 v25 v26 v27 v28 v29 v30 v31 v32 v33 v34 v35 v36 v37 v38:Value) (w0:World) (l:Nat→Bool) (a:Act) (w:World):Prop :=
 ∃ (y0 y1 y2 y3 y4 y5 y6 y7 y8 y9 y10 y11 y12 y13 y14 y15 y16 y17 y18 y19 y20 y21 y22 y23 y24:Value),a = { tmps:=#[v0,v1,v2,v3,v4,v5,y24,v7,.bool true,v9,.bool true,v11,.bool false,v13,v14,v15,v16,v17,v18,v19,v20,v21,v22,v23,v24,v25,v26,v27,v28,v29,v30,v31,v32,v33,v34,v35,v36,v37,v38,y0,y1,y2,y3,y4,y5,y6,y7,y8,y9,y10,y11,y12,y13,y14,y15,y16,y17,y18,y19,y20,y21,y22,y23],defers:=D }∧Below w0.heap.size w0 w ∧
  (l 0=true→y0=.bool true)∧(l 1=true→y1=.bool false)∧(l 2=true→y2=.bool false)∧(l 3=true→y3=.bool true)∧(l 4=true→y4=.bool false)∧(l 5=true→y5=.bool false)∧(l 6=true→y6=.bool false)∧(l 7=true→y7=.bool false)∧(l 8=true→y8=.bool true)∧(l 9=true→y9=.bool true)∧(l 10=true→y10=.bool true)∧(l 17=true→y17=undef)∧(l 23=true→y23=.bool true)∧(l 24=true→y24=.bool true)
set_option maxHeartbeats 8000000 in
set_option maxRecDepth 100000 in
theorem regNe3  (D:List Deferred) (v0 v1 v2 v3 v4 v5 v7 v9 v11 v13 v14 v15 v16 v17 v18 v19 v20 v21 v22 v23 v24 v25 v26 v27 v28 v29 v30 v31 v32 v33 v34 v35 v36 v37 v38 wy0 wy1 wy2 wy3 wy4 wy5 wy6 wy7 wy8 wy9 wy10 wy11 wy12 wy13 wy14 wy15 wy16 wy17 wy18 wy19 wy20 wy21 wy22 wy23 wy24:Value) (w:World)  (Q:Exit→Act→World→Prop)
  (hQ:∀ (y0 y1 y2 y3 y4 y5 y6 y7 y8 y9 y10 y11 y12 y13 y14 y15 y16 y17 y18 y19 y20 y21 y22 y23:Value) (w':World),Below w.heap.size w w'→Q .normal { tmps:=#[v0,v1,v2,v3,v4,v5,.bool true,v7,.bool true,v9,.bool true,v11,.bool false,v13,v14,v15,v16,v17,v18,v19,v20,v21,v22,v23,v24,v25,v26,v27,v28,v29,v30,v31,v32,v33,v34,v35,v36,v37,v38,y0,y1,y2,y3,y4,y5,y6,y7,y8,y9,y10,y11,y12,y13,y14,y15,y16,y17,y18,y19,y20,y21,y22,y23],defers:=D } w') :
  (Code.region 6 opsregNe1 true).wp Tryz.prog Q { tmps:=#[v0,v1,v2,v3,v4,v5,wy24,v7,.bool true,v9,.bool true,v11,.bool false,v13,v14,v15,v16,v17,v18,v19,v20,v21,v22,v23,v24,v25,v26,v27,v28,v29,v30,v31,v32,v33,v34,v35,v36,v37,v38,wy0,wy1,wy2,wy3,wy4,wy5,wy6,wy7,wy8,wy9,wy10,wy11,wy12,wy13,wy14,wy15,wy16,wy17,wy18,wy19,wy20,wy21,wy22,wy23],defers:=D } w:=by
 refine wp_region_inv (by kernel_rfl) (WregNe3  D v0 v1 v2 v3 v4 v5 v7 v9 v11 v13 v14 v15 v16 v17 v18 v19 v20 v21 v22 v23 v24 v25 v26 v27 v28 v29 v30 v31 v32 v33 v34 v35 v36 v37 v38 w) ?hacy ?h0 ?hstep ?hdone
 case hacy=>kernel_rfl
 case h0=>exact ⟨wy0,wy1,wy2,wy3,wy4,wy5,wy6,wy7,wy8,wy9,wy10,wy11,wy12,wy13,wy14,wy15,wy16,wy17,wy18,wy19,wy20,wy21,wy22,wy23,wy24,rfl,below_drewN (Below.refl _ _) 1,(fun p=>by cases p),(fun p=>by cases p),(fun p=>by cases p),(fun p=>by cases p),(fun p=>by cases p),(fun p=>by cases p),(fun p=>by cases p),(fun p=>by cases p),(fun p=>by cases p),(fun p=>by cases p),(fun p=>by cases p),(fun p=>by cases p),(fun p=>by cases p),(fun p=>by cases p)⟩
 case hdone =>
  intro l a w1 hI hall
  obtain ⟨y0,y1,y2,y3,y4,y5,y6,y7,y8,y9,y10,y11,y12,y13,y14,y15,y16,y17,y18,y19,y20,y21,y22,y23,y24,rfl,hb,h0,h1,h2,h3,h4,h5,h6,h7,h8,h9,h10,h17,h23,h24⟩:=hI
  obtain rfl:=h24 (hall 24 (by decide))
  exact hQ _ _ _ _ _ _ _ _ _ _ _ _ _ _ _ _ _ _ _ _ _ _ _ _ _ hb
 case hstep =>
  intro l a w1 i o hI ho hl hall
  obtain ⟨y0,y1,y2,y3,y4,y5,y6,y7,y8,y9,y10,y11,y12,y13,y14,y15,y16,y17,y18,y19,y20,y21,y22,y23,y24,rfl,hb,h0,h1,h2,h3,h4,h5,h6,h7,h8,h9,h10,h17,h23,h24⟩:=hI
  have hi:i<25:=(Array.getElem?_eq_some_iff.1 ho).1
  match i,hi with
  | 0,_ =>
   have ho':=ho
   simp [opsregNe1] at ho
   subst ho
   refine wpOp_one ho' rfl fun K hK=>?_
   go_simp
   exact hK _ _ ⟨_,y1,y2,y3,y4,y5,y6,y7,y8,y9,y10,y11,y12,y13,y14,y15,y16,y17,y18,y19,y20,y21,y22,y23,y24,rfl,hb,fun _=>(by first | rfl | simp),h1,h2,h3,h4,h5,h6,h7,h8,h9,h10,h17,h23,h24⟩
  | 1,_ =>
   have ho':=ho
   simp [opsregNe1] at ho
   subst ho
   obtain rfl:=h0 (hall ⟨0,.data⟩ (by simp) rfl)
   refine wpOp_one ho' rfl fun K hK=>?_
   go_simp
   exact hK _ _ ⟨_,_,y2,y3,y4,y5,y6,y7,y8,y9,y10,y11,y12,y13,y14,y15,y16,y17,y18,y19,y20,y21,y22,y23,y24,rfl,hb,fun _=>rfl,fun _=>(by first | rfl | simp),h2,h3,h4,h5,h6,h7,h8,h9,h10,h17,h23,h24⟩
  | 2,_ =>
   have ho':=ho
   simp [opsregNe1] at ho
   subst ho
   obtain rfl:=h1 (hall ⟨1,.data⟩ (by simp) rfl)
   refine wpOp_one ho' rfl fun K hK=>?_
   go_simp
   exact hK _ _ ⟨y0,_,_,y3,y4,y5,y6,y7,y8,y9,y10,y11,y12,y13,y14,y15,y16,y17,y18,y19,y20,y21,y22,y23,y24,rfl,hb,h0,fun _=>rfl,fun _=>(by first | rfl | simp),h3,h4,h5,h6,h7,h8,h9,h10,h17,h23,h24⟩
  | 3,_ =>
   have ho':=ho
   simp [opsregNe1] at ho
   subst ho
   obtain rfl:=h2 (hall ⟨2,.guard⟩ (by simp) rfl)
   refine wpOp_on ho' rfl fun K hK=>?_
   go_simp
   exact hK _ _ ⟨y0,y1,_,_,y4,y5,y6,y7,y8,y9,y10,y11,y12,y13,y14,y15,y16,y17,y18,y19,y20,y21,y22,y23,y24,rfl,hb,h0,h1,fun _=>rfl,fun _=>(by first | rfl | simp),h4,h5,h6,h7,h8,h9,h10,h17,h23,h24⟩
  | 4,_ =>
   have ho':=ho
   simp [opsregNe1] at ho
   subst ho
   obtain rfl:=h2 (hall ⟨2,.guard⟩ (by simp) rfl)
   obtain rfl:=h3 (hall ⟨3,.data⟩ (by simp) rfl)
   refine wpOp_on ho' rfl fun K hK=>?_
   go_simp
   exact hK _ _ ⟨y0,y1,_,_,_,y5,y6,y7,y8,y9,y10,y11,y12,y13,y14,y15,y16,y17,y18,y19,y20,y21,y22,y23,y24,rfl,hb,h0,h1,fun _=>rfl,fun _=>rfl,fun _=>(by first | rfl | simp),h5,h6,h7,h8,h9,h10,h17,h23,h24⟩
  | 5,_ =>
   have ho':=ho
   simp [opsregNe1] at ho
   subst ho
   obtain rfl:=h2 (hall ⟨2,.data⟩ (by simp) rfl)
   obtain rfl:=h4 (hall ⟨4,.data⟩ (by simp) rfl)
   refine wpOp_one ho' rfl fun K hK=>?_
   go_simp
   exact hK _ _ ⟨y0,y1,_,y3,_,_,y6,y7,y8,y9,y10,y11,y12,y13,y14,y15,y16,y17,y18,y19,y20,y21,y22,y23,y24,rfl,hb,h0,h1,fun _=>rfl,h3,fun _=>rfl,fun _=>(by first | rfl | simp),h6,h7,h8,h9,h10,h17,h23,h24⟩
  | 6,_ =>
   have ho':=ho
   simp [opsregNe1] at ho
   subst ho
   obtain rfl:=h5 (hall ⟨5,.data⟩ (by simp) rfl)
   refine wpOp_one ho' rfl fun K hK=>?_
   go_simp
   exact hK _ _ ⟨y0,y1,y2,y3,y4,_,_,y7,y8,y9,y10,y11,y12,y13,y14,y15,y16,y17,y18,y19,y20,y21,y22,y23,y24,rfl,hb,h0,h1,h2,h3,h4,fun _=>rfl,fun _=>(by first | rfl | simp),h7,h8,h9,h10,h17,h23,h24⟩
  | 7,_ =>
   have ho':=ho
   simp [opsregNe1] at ho
   subst ho
   obtain rfl:=h6 (hall ⟨6,.guard⟩ (by simp) rfl)
   refine wpOp_on ho' rfl fun K hK=>?_
   go_simp
   exact hK _ _ ⟨y0,y1,y2,y3,y4,y5,_,_,y8,y9,y10,y11,y12,y13,y14,y15,y16,y17,y18,y19,y20,y21,y22,y23,y24,rfl,hb,h0,h1,h2,h3,h4,h5,fun _=>rfl,fun _=>(by first | rfl | simp),h8,h9,h10,h17,h23,h24⟩
  | 8,_ =>
   have ho':=ho
   simp [opsregNe1] at ho
   subst ho
   obtain rfl:=h6 (hall ⟨6,.guard⟩ (by simp) rfl)
   obtain rfl:=h7 (hall ⟨7,.data⟩ (by simp) rfl)
   refine wpOp_on ho' rfl fun K hK=>?_
   go_simp
   exact hK _ _ ⟨y0,y1,y2,y3,y4,y5,_,_,_,y9,y10,y11,y12,y13,y14,y15,y16,y17,y18,y19,y20,y21,y22,y23,y24,rfl,hb,h0,h1,h2,h3,h4,h5,fun _=>rfl,fun _=>rfl,fun _=>(by first | rfl | simp),h9,h10,h17,h23,h24⟩
  | 9,_ =>
   have ho':=ho
   simp [opsregNe1] at ho
   subst ho
   obtain rfl:=h6 (hall ⟨6,.data⟩ (by simp) rfl)
   obtain rfl:=h8 (hall ⟨8,.data⟩ (by simp) rfl)
   refine wpOp_one ho' rfl fun K hK=>?_
   go_simp
   exact hK _ _ ⟨y0,y1,y2,y3,y4,y5,_,y7,_,_,y10,y11,y12,y13,y14,y15,y16,y17,y18,y19,y20,y21,y22,y23,y24,rfl,hb,h0,h1,h2,h3,h4,h5,fun _=>rfl,h7,fun _=>rfl,fun _=>(by first | rfl | simp),h10,h17,h23,h24⟩
  | 10,_ =>
   have ho':=ho
   simp [opsregNe1] at ho
   subst ho
   obtain rfl:=h9 (hall ⟨9,.data⟩ (by simp) rfl)
   refine wpOp_one ho' rfl fun K hK=>?_
   go_simp
   exact hK _ _ ⟨y0,y1,y2,y3,y4,y5,y6,y7,y8,_,_,y11,y12,y13,y14,y15,y16,y17,y18,y19,y20,y21,y22,y23,y24,rfl,hb,h0,h1,h2,h3,h4,h5,h6,h7,h8,fun _=>rfl,fun _=>(by first | rfl | simp),h17,h23,h24⟩
  | 11,_ =>
   have ho':=ho
   simp [opsregNe1] at ho
   subst ho
   obtain rfl:=h10 (hall ⟨10,.guard⟩ (by simp) rfl)
   refine wpOq_off ho' rfl ?_
   exact ⟨y0,y1,y2,y3,y4,y5,y6,y7,y8,y9,_,_,y12,y13,y14,y15,y16,y17,y18,y19,y20,y21,y22,y23,y24,rfl,hb,h0,h1,h2,h3,h4,h5,h6,h7,h8,h9,fun _=>rfl,h17,h23,h24⟩
  | 12,_ =>
   have ho':=ho
   simp [opsregNe1] at ho
   subst ho
   obtain rfl:=h10 (hall ⟨10,.guard⟩ (by simp) rfl)
   refine wpOq_off ho' rfl ?_
   exact ⟨y0,y1,y2,y3,y4,y5,y6,y7,y8,y9,_,y11,_,y13,y14,y15,y16,y17,y18,y19,y20,y21,y22,y23,y24,rfl,hb,h0,h1,h2,h3,h4,h5,h6,h7,h8,h9,fun _=>rfl,h17,h23,h24⟩
  | 13,_ =>
   have ho':=ho
   simp [opsregNe1] at ho
   subst ho
   obtain rfl:=h10 (hall ⟨10,.chain⟩ (by simp) rfl)
   refine wpOq_off ho' rfl ?_
   exact ⟨y0,y1,y2,y3,y4,y5,y6,y7,y8,y9,_,y11,y12,_,y14,y15,y16,y17,y18,y19,y20,y21,y22,y23,y24,rfl,hb,h0,h1,h2,h3,h4,h5,h6,h7,h8,h9,fun _=>rfl,h17,h23,h24⟩
  | 14,_ =>
   have ho':=ho
   simp [opsregNe1] at ho
   subst ho
   obtain rfl:=h10 (hall ⟨10,.guard⟩ (by simp) rfl)
   refine wpOq_off ho' rfl ?_
   exact ⟨y0,y1,y2,y3,y4,y5,y6,y7,y8,y9,_,y11,y12,y13,_,y15,y16,y17,y18,y19,y20,y21,y22,y23,y24,rfl,hb,h0,h1,h2,h3,h4,h5,h6,h7,h8,h9,fun _=>rfl,h17,h23,h24⟩
  | 15,_ =>
   have ho':=ho
   simp [opsregNe1] at ho
   subst ho
   obtain rfl:=h10 (hall ⟨10,.guard⟩ (by simp) rfl)
   refine wpOq_off ho' rfl ?_
   exact ⟨y0,y1,y2,y3,y4,y5,y6,y7,y8,y9,_,y11,y12,y13,y14,_,y16,y17,y18,y19,y20,y21,y22,y23,y24,rfl,hb,h0,h1,h2,h3,h4,h5,h6,h7,h8,h9,fun _=>rfl,h17,h23,h24⟩
  | 16,_ =>
   have ho':=ho
   simp [opsregNe1] at ho
   subst ho
   obtain rfl:=h10 (hall ⟨10,.guard⟩ (by simp) rfl)
   refine wpOq_off ho' rfl ?_
   exact ⟨y0,y1,y2,y3,y4,y5,y6,y7,y8,y9,_,y11,y12,y13,y14,y15,_,y17,y18,y19,y20,y21,y22,y23,y24,rfl,hb,h0,h1,h2,h3,h4,h5,h6,h7,h8,h9,fun _=>rfl,h17,h23,h24⟩
  | 17,_ =>
   have ho':=ho
   simp [opsregNe1] at ho
   subst ho
   obtain rfl:=h10 (hall ⟨10,.guard⟩ (by simp) rfl)
   refine wpOq_off ho' rfl ?_
   exact ⟨y0,y1,y2,y3,y4,y5,y6,y7,y8,y9,_,y11,y12,y13,y14,y15,y16,_,y18,y19,y20,y21,y22,y23,y24,rfl,hb,h0,h1,h2,h3,h4,h5,h6,h7,h8,h9,fun _=>rfl,fun _=>rfl,h23,h24⟩
  | 18,_ =>
   have ho':=ho
   simp [opsregNe1] at ho
   subst ho
   obtain rfl:=h17 (hall ⟨17,.guard⟩ (by simp) rfl)
   refine wpOq_off ho' rfl ?_
   exact ⟨y0,y1,y2,y3,y4,y5,y6,y7,y8,y9,y10,y11,y12,y13,y14,y15,y16,_,_,y19,y20,y21,y22,y23,y24,rfl,hb,h0,h1,h2,h3,h4,h5,h6,h7,h8,h9,h10,fun _=>rfl,h23,h24⟩
  | 19,_ =>
   have ho':=ho
   simp [opsregNe1] at ho
   subst ho
   obtain rfl:=h17 (hall ⟨17,.guard⟩ (by simp) rfl)
   refine wpOq_off ho' rfl ?_
   exact ⟨y0,y1,y2,y3,y4,y5,y6,y7,y8,y9,y10,y11,y12,y13,y14,y15,y16,_,y18,_,y20,y21,y22,y23,y24,rfl,hb,h0,h1,h2,h3,h4,h5,h6,h7,h8,h9,h10,fun _=>rfl,h23,h24⟩
  | 20,_ =>
   have ho':=ho
   simp [opsregNe1] at ho
   subst ho
   obtain rfl:=h17 (hall ⟨17,.chain⟩ (by simp) rfl)
   refine wpOq_off ho' rfl ?_
   exact ⟨y0,y1,y2,y3,y4,y5,y6,y7,y8,y9,y10,y11,y12,y13,y14,y15,y16,_,y18,y19,_,y21,y22,y23,y24,rfl,hb,h0,h1,h2,h3,h4,h5,h6,h7,h8,h9,h10,fun _=>rfl,h23,h24⟩
  | 21,_ =>
   have ho':=ho
   simp [opsregNe1] at ho
   subst ho
   obtain rfl:=h10 (hall ⟨10,.guard⟩ (by simp) rfl)
   obtain rfl:=h17 (hall ⟨17,.data⟩ (by simp) rfl)
   refine wpOq_off ho' rfl ?_
   exact ⟨y0,y1,y2,y3,y4,y5,y6,y7,y8,y9,_,y11,y12,y13,y14,y15,y16,_,y18,y19,y20,_,y22,y23,y24,rfl,hb,h0,h1,h2,h3,h4,h5,h6,h7,h8,h9,fun _=>rfl,fun _=>rfl,h23,h24⟩
  | 22,_ =>
   have ho':=ho
   simp [opsregNe1] at ho
   subst ho
   obtain rfl:=h10 (hall ⟨10,.guard⟩ (by simp) rfl)
   refine wpOq_off ho' rfl ?_
   exact ⟨y0,y1,y2,y3,y4,y5,y6,y7,y8,y9,_,y11,y12,y13,y14,y15,y16,y17,y18,y19,y20,y21,_,y23,y24,rfl,hb,h0,h1,h2,h3,h4,h5,h6,h7,h8,h9,fun _=>rfl,h17,h23,h24⟩
  | 23,_ =>
   have ho':=ho
   simp [opsregNe1] at ho
   subst ho
   obtain rfl:=h10 (hall ⟨10,.data⟩ (by simp) rfl)
   refine wpOp_one ho' rfl fun K hK=>?_
   go_simp
   exact hK _ _ ⟨y0,y1,y2,y3,y4,y5,y6,y7,y8,y9,_,y11,y12,y13,y14,y15,y16,y17,y18,y19,y20,y21,y22,_,y24,rfl,hb,h0,h1,h2,h3,h4,h5,h6,h7,h8,h9,fun _=>rfl,h17,fun _=>(by first | rfl | simp),h24⟩
  | 24,_ =>
   have ho':=ho
   simp [opsregNe1] at ho
   subst ho
   obtain rfl:=h23 (hall ⟨23,.data⟩ (by simp) rfl)
   refine wpOp_one ho' rfl fun K hK=>?_
   go_simp
   exact hK _ _ ⟨y0,y1,y2,y3,y4,y5,y6,y7,y8,y9,y10,y11,y12,y13,y14,y15,y16,y17,y18,y19,y20,y21,y22,_,_,rfl,hb,h0,h1,h2,h3,h4,h5,h6,h7,h8,h9,h10,h17,fun _=>rfl,fun _=>(by first | rfl | simp)⟩
  | k+25,hi=>omega
def WregNe4 (ca cc:Array Value) (ab bb cb:Nat) (wv:Value) (D:List Deferred) (v0 v1 v3 v4 v5 v13 v14 v15 v16 v17 v18 v19 v20 v21 v22 v23 v24 v25 v26 v27 v28 v29 v30 v31 v32 v33 v34 v35 v36 v37 v38:Value) (w0:World) (l:Nat→Bool) (a:Act) (w:World):Prop :=
 ∃ (y0 y1 y2 y3 y4 y5 y6 y7 y8 y9 y10 y11 y12 y13 y14 y15 y16 y17 y18 y19 y20 y21 y22 y23 y24:Value),a = { tmps:=#[v0,v1,wv,v3,v4,v5,y24,.pointer (some ⟨ab,0,none⟩),.bool true,.pointer (some ⟨bb,0,none⟩),.bool true,.pointer (some ⟨cb,0,none⟩),.bool true,v13,v14,v15,v16,v17,v18,v19,v20,v21,v22,v23,v24,v25,v26,v27,v28,v29,v30,v31,v32,v33,v34,v35,v36,v37,v38,y0,y1,y2,y3,y4,y5,y6,y7,y8,y9,y10,y11,y12,y13,y14,y15,y16,y17,y18,y19,y20,y21,y22,y23],defers:=D }∧Below w0.heap.size w0 w ∧
  (l 0=true→y0=.bool true)∧(l 1=true→y1=.bool false)∧(l 2=true→y2=.bool false)∧(l 3=true→y3=.bool true)∧(l 4=true→y4=.bool false)∧(l 5=true→y5=.bool false)∧(l 6=true→y6=.bool false)∧(l 7=true→y7=.bool true)∧(l 8=true→y8=.bool false)∧(l 9=true→y9=.bool false)∧(l 10=true→y10=.bool false)∧(l 11=true→y11=.agg cc)∧(l 12=true→y12=wv)∧(l 13=true→y13=.bool true)∧(l 14=true→y14=.agg ca)∧(l 15=true→y15=wv)∧(l 16=true→y16=.bool true)∧(l 17=true→y17=.bool true)∧(l 21=true→y21=.bool true)∧(l 22=true→y22=.bool true)∧(l 23=true→y23=.bool true)∧(l 24=true→y24=.bool true)
set_option maxHeartbeats 8000000 in
set_option maxRecDepth 100000 in
theorem regNe4 (ca cc:Array Value) (ab bb cb:Nat) (wv:Value) (D:List Deferred) (v0 v1 v3 v4 v5 v13 v14 v15 v16 v17 v18 v19 v20 v21 v22 v23 v24 v25 v26 v27 v28 v29 v30 v31 v32 v33 v34 v35 v36 v37 v38 wy0 wy1 wy2 wy3 wy4 wy5 wy6 wy7 wy8 wy9 wy10 wy11 wy12 wy13 wy14 wy15 wy16 wy17 wy18 wy19 wy20 wy21 wy22 wy23 wy24:Value) (w:World) (hA:∀ w',Below w.heap.size w w'→w'.heap[ab]? = some (.cells ca 39 (0,0))) (shA:(Tryz.prog.info? 39).map (·.size)=some ca.size) (hC:∀ w',Below w.heap.size w w'→w'.heap[cb]? = some (.cells cc 39 (0,0))) (shC:(Tryz.prog.info? 39).map (·.size)=some cc.size) (hc1:(∀ w',Below w.heap.size w w'→Calls Tryz.prog 12 #[.agg cc,wv] w' fun e w2=>e=.returned (.bool true)∧Below w'.heap.size w' w2)) (hc2:(∀ w',Below w.heap.size w w'→Calls Tryz.prog 12 #[.agg ca,wv] w' fun e w2=>e=.returned (.bool true)∧Below w'.heap.size w' w2)) (Q:Exit→Act→World→Prop)
  (hQ:∀ (y0 y1 y2 y3 y4 y5 y6 y7 y8 y9 y10 y11 y12 y13 y14 y15 y16 y17 y18 y19 y20 y21 y22 y23:Value) (w':World),Below w.heap.size w w'→Q .normal { tmps:=#[v0,v1,wv,v3,v4,v5,.bool true,.pointer (some ⟨ab,0,none⟩),.bool true,.pointer (some ⟨bb,0,none⟩),.bool true,.pointer (some ⟨cb,0,none⟩),.bool true,v13,v14,v15,v16,v17,v18,v19,v20,v21,v22,v23,v24,v25,v26,v27,v28,v29,v30,v31,v32,v33,v34,v35,v36,v37,v38,y0,y1,y2,y3,y4,y5,y6,y7,y8,y9,y10,y11,y12,y13,y14,y15,y16,y17,y18,y19,y20,y21,y22,y23],defers:=D } w') :
  (Code.region 6 opsregNe1 true).wp Tryz.prog Q { tmps:=#[v0,v1,wv,v3,v4,v5,wy24,.pointer (some ⟨ab,0,none⟩),.bool true,.pointer (some ⟨bb,0,none⟩),.bool true,.pointer (some ⟨cb,0,none⟩),.bool true,v13,v14,v15,v16,v17,v18,v19,v20,v21,v22,v23,v24,v25,v26,v27,v28,v29,v30,v31,v32,v33,v34,v35,v36,v37,v38,wy0,wy1,wy2,wy3,wy4,wy5,wy6,wy7,wy8,wy9,wy10,wy11,wy12,wy13,wy14,wy15,wy16,wy17,wy18,wy19,wy20,wy21,wy22,wy23],defers:=D } w:=by
 refine wp_region_inv (by kernel_rfl) (WregNe4 ca cc ab bb cb wv D v0 v1 v3 v4 v5 v13 v14 v15 v16 v17 v18 v19 v20 v21 v22 v23 v24 v25 v26 v27 v28 v29 v30 v31 v32 v33 v34 v35 v36 v37 v38 w) ?hacy ?h0 ?hstep ?hdone
 case hacy=>kernel_rfl
 case h0=>exact ⟨wy0,wy1,wy2,wy3,wy4,wy5,wy6,wy7,wy8,wy9,wy10,wy11,wy12,wy13,wy14,wy15,wy16,wy17,wy18,wy19,wy20,wy21,wy22,wy23,wy24,rfl,below_drewN (Below.refl _ _) 1,(fun p=>by cases p),(fun p=>by cases p),(fun p=>by cases p),(fun p=>by cases p),(fun p=>by cases p),(fun p=>by cases p),(fun p=>by cases p),(fun p=>by cases p),(fun p=>by cases p),(fun p=>by cases p),(fun p=>by cases p),(fun p=>by cases p),(fun p=>by cases p),(fun p=>by cases p),(fun p=>by cases p),(fun p=>by cases p),(fun p=>by cases p),(fun p=>by cases p),(fun p=>by cases p),(fun p=>by cases p),(fun p=>by cases p),(fun p=>by cases p)⟩
 case hdone =>
  intro l a w1 hI hall
  obtain ⟨y0,y1,y2,y3,y4,y5,y6,y7,y8,y9,y10,y11,y12,y13,y14,y15,y16,y17,y18,y19,y20,y21,y22,y23,y24,rfl,hb,h0,h1,h2,h3,h4,h5,h6,h7,h8,h9,h10,h11,h12,h13,h14,h15,h16,h17,h21,h22,h23,h24⟩:=hI
  obtain rfl:=h24 (hall 24 (by decide))
  exact hQ _ _ _ _ _ _ _ _ _ _ _ _ _ _ _ _ _ _ _ _ _ _ _ _ _ hb
 case hstep =>
  intro l a w1 i o hI ho hl hall
  obtain ⟨y0,y1,y2,y3,y4,y5,y6,y7,y8,y9,y10,y11,y12,y13,y14,y15,y16,y17,y18,y19,y20,y21,y22,y23,y24,rfl,hb,h0,h1,h2,h3,h4,h5,h6,h7,h8,h9,h10,h11,h12,h13,h14,h15,h16,h17,h21,h22,h23,h24⟩:=hI
  have hi:i<25:=(Array.getElem?_eq_some_iff.1 ho).1
  match i,hi with
  | 0,_ =>
   have ho':=ho
   simp [opsregNe1] at ho
   subst ho
   refine wpOp_one ho' rfl fun K hK=>?_
   go_simp
   exact hK _ _ ⟨_,y1,y2,y3,y4,y5,y6,y7,y8,y9,y10,y11,y12,y13,y14,y15,y16,y17,y18,y19,y20,y21,y22,y23,y24,rfl,hb,fun _=>(by first | rfl | simp),h1,h2,h3,h4,h5,h6,h7,h8,h9,h10,h11,h12,h13,h14,h15,h16,h17,h21,h22,h23,h24⟩
  | 1,_ =>
   have ho':=ho
   simp [opsregNe1] at ho
   subst ho
   obtain rfl:=h0 (hall ⟨0,.data⟩ (by simp) rfl)
   refine wpOp_one ho' rfl fun K hK=>?_
   go_simp
   exact hK _ _ ⟨_,_,y2,y3,y4,y5,y6,y7,y8,y9,y10,y11,y12,y13,y14,y15,y16,y17,y18,y19,y20,y21,y22,y23,y24,rfl,hb,fun _=>rfl,fun _=>(by first | rfl | simp),h2,h3,h4,h5,h6,h7,h8,h9,h10,h11,h12,h13,h14,h15,h16,h17,h21,h22,h23,h24⟩
  | 2,_ =>
   have ho':=ho
   simp [opsregNe1] at ho
   subst ho
   obtain rfl:=h1 (hall ⟨1,.data⟩ (by simp) rfl)
   refine wpOp_one ho' rfl fun K hK=>?_
   go_simp
   exact hK _ _ ⟨y0,_,_,y3,y4,y5,y6,y7,y8,y9,y10,y11,y12,y13,y14,y15,y16,y17,y18,y19,y20,y21,y22,y23,y24,rfl,hb,h0,fun _=>rfl,fun _=>(by first | rfl | simp),h3,h4,h5,h6,h7,h8,h9,h10,h11,h12,h13,h14,h15,h16,h17,h21,h22,h23,h24⟩
  | 3,_ =>
   have ho':=ho
   simp [opsregNe1] at ho
   subst ho
   obtain rfl:=h2 (hall ⟨2,.guard⟩ (by simp) rfl)
   refine wpOp_on ho' rfl fun K hK=>?_
   go_simp
   exact hK _ _ ⟨y0,y1,_,_,y4,y5,y6,y7,y8,y9,y10,y11,y12,y13,y14,y15,y16,y17,y18,y19,y20,y21,y22,y23,y24,rfl,hb,h0,h1,fun _=>rfl,fun _=>(by first | rfl | simp),h4,h5,h6,h7,h8,h9,h10,h11,h12,h13,h14,h15,h16,h17,h21,h22,h23,h24⟩
  | 4,_ =>
   have ho':=ho
   simp [opsregNe1] at ho
   subst ho
   obtain rfl:=h2 (hall ⟨2,.guard⟩ (by simp) rfl)
   obtain rfl:=h3 (hall ⟨3,.data⟩ (by simp) rfl)
   refine wpOp_on ho' rfl fun K hK=>?_
   go_simp
   exact hK _ _ ⟨y0,y1,_,_,_,y5,y6,y7,y8,y9,y10,y11,y12,y13,y14,y15,y16,y17,y18,y19,y20,y21,y22,y23,y24,rfl,hb,h0,h1,fun _=>rfl,fun _=>rfl,fun _=>(by first | rfl | simp),h5,h6,h7,h8,h9,h10,h11,h12,h13,h14,h15,h16,h17,h21,h22,h23,h24⟩
  | 5,_ =>
   have ho':=ho
   simp [opsregNe1] at ho
   subst ho
   obtain rfl:=h2 (hall ⟨2,.data⟩ (by simp) rfl)
   obtain rfl:=h4 (hall ⟨4,.data⟩ (by simp) rfl)
   refine wpOp_one ho' rfl fun K hK=>?_
   go_simp
   exact hK _ _ ⟨y0,y1,_,y3,_,_,y6,y7,y8,y9,y10,y11,y12,y13,y14,y15,y16,y17,y18,y19,y20,y21,y22,y23,y24,rfl,hb,h0,h1,fun _=>rfl,h3,fun _=>rfl,fun _=>(by first | rfl | simp),h6,h7,h8,h9,h10,h11,h12,h13,h14,h15,h16,h17,h21,h22,h23,h24⟩
  | 6,_ =>
   have ho':=ho
   simp [opsregNe1] at ho
   subst ho
   obtain rfl:=h5 (hall ⟨5,.data⟩ (by simp) rfl)
   refine wpOp_one ho' rfl fun K hK=>?_
   go_simp
   exact hK _ _ ⟨y0,y1,y2,y3,y4,_,_,y7,y8,y9,y10,y11,y12,y13,y14,y15,y16,y17,y18,y19,y20,y21,y22,y23,y24,rfl,hb,h0,h1,h2,h3,h4,fun _=>rfl,fun _=>(by first | rfl | simp),h7,h8,h9,h10,h11,h12,h13,h14,h15,h16,h17,h21,h22,h23,h24⟩
  | 7,_ =>
   have ho':=ho
   simp [opsregNe1] at ho
   subst ho
   obtain rfl:=h6 (hall ⟨6,.guard⟩ (by simp) rfl)
   refine wpOp_on ho' rfl fun K hK=>?_
   go_simp
   exact hK _ _ ⟨y0,y1,y2,y3,y4,y5,_,_,y8,y9,y10,y11,y12,y13,y14,y15,y16,y17,y18,y19,y20,y21,y22,y23,y24,rfl,hb,h0,h1,h2,h3,h4,h5,fun _=>rfl,fun _=>(by first | rfl | simp),h8,h9,h10,h11,h12,h13,h14,h15,h16,h17,h21,h22,h23,h24⟩
  | 8,_ =>
   have ho':=ho
   simp [opsregNe1] at ho
   subst ho
   obtain rfl:=h6 (hall ⟨6,.guard⟩ (by simp) rfl)
   obtain rfl:=h7 (hall ⟨7,.data⟩ (by simp) rfl)
   refine wpOp_on ho' rfl fun K hK=>?_
   go_simp
   exact hK _ _ ⟨y0,y1,y2,y3,y4,y5,_,_,_,y9,y10,y11,y12,y13,y14,y15,y16,y17,y18,y19,y20,y21,y22,y23,y24,rfl,hb,h0,h1,h2,h3,h4,h5,fun _=>rfl,fun _=>rfl,fun _=>(by first | rfl | simp),h9,h10,h11,h12,h13,h14,h15,h16,h17,h21,h22,h23,h24⟩
  | 9,_ =>
   have ho':=ho
   simp [opsregNe1] at ho
   subst ho
   obtain rfl:=h6 (hall ⟨6,.data⟩ (by simp) rfl)
   obtain rfl:=h8 (hall ⟨8,.data⟩ (by simp) rfl)
   refine wpOp_one ho' rfl fun K hK=>?_
   go_simp
   exact hK _ _ ⟨y0,y1,y2,y3,y4,y5,_,y7,_,_,y10,y11,y12,y13,y14,y15,y16,y17,y18,y19,y20,y21,y22,y23,y24,rfl,hb,h0,h1,h2,h3,h4,h5,fun _=>rfl,h7,fun _=>rfl,fun _=>(by first | rfl | simp),h10,h11,h12,h13,h14,h15,h16,h17,h21,h22,h23,h24⟩
  | 10,_ =>
   have ho':=ho
   simp [opsregNe1] at ho
   subst ho
   obtain rfl:=h9 (hall ⟨9,.data⟩ (by simp) rfl)
   refine wpOp_one ho' rfl fun K hK=>?_
   go_simp
   exact hK _ _ ⟨y0,y1,y2,y3,y4,y5,y6,y7,y8,_,_,y11,y12,y13,y14,y15,y16,y17,y18,y19,y20,y21,y22,y23,y24,rfl,hb,h0,h1,h2,h3,h4,h5,h6,h7,h8,fun _=>rfl,fun _=>(by first | rfl | simp),h11,h12,h13,h14,h15,h16,h17,h21,h22,h23,h24⟩
  | 11,_ =>
   have ho':=ho
   simp [opsregNe1] at ho
   subst ho
   obtain rfl:=h10 (hall ⟨10,.guard⟩ (by simp) rfl)
   refine wpOp_on ho' rfl fun K hK=>?_
   refine wp_load_row 39 (.tmp 11) rfl cb rfl 39 cc (0,0) _ (hC w1 hb) Tryz.underlying39 rfl shC ?_
   exact hK _ _ ⟨y0,y1,y2,y3,y4,y5,y6,y7,y8,y9,_,_,y12,y13,y14,y15,y16,y17,y18,y19,y20,y21,y22,y23,y24,rfl,hb,h0,h1,h2,h3,h4,h5,h6,h7,h8,h9,fun _=>rfl,fun _=>(by first | rfl | simp),h12,h13,h14,h15,h16,h17,h21,h22,h23,h24⟩
  | 12,_ =>
   have ho':=ho
   simp [opsregNe1] at ho
   subst ho
   obtain rfl:=h10 (hall ⟨10,.guard⟩ (by simp) rfl)
   refine wpOp_on ho' rfl fun K hK=>?_
   go_simp
   exact hK _ _ ⟨y0,y1,y2,y3,y4,y5,y6,y7,y8,y9,_,y11,_,y13,y14,y15,y16,y17,y18,y19,y20,y21,y22,y23,y24,rfl,hb,h0,h1,h2,h3,h4,h5,h6,h7,h8,h9,fun _=>rfl,h11,fun _=>(by first | rfl | simp),h13,h14,h15,h16,h17,h21,h22,h23,h24⟩
  | 13,_ =>
   have ho':=ho
   simp [opsregNe1] at ho
   subst ho
   obtain rfl:=h10 (hall ⟨10,.chain⟩ (by simp) rfl)
   obtain rfl:=h11 (hall ⟨11,.data⟩ (by simp) rfl)
   obtain rfl:=h12 (hall ⟨12,.data⟩ (by simp) rfl)
   refine wpOp_on ho' rfl fun K hK=>?_
   go_simp
   go_at_call 12
   refine (hc1 _ hb).mono ?_
   rintro e w2 ⟨rfl,hb2⟩
   exact hK _ _ ⟨y0,y1,y2,y3,y4,y5,y6,y7,y8,y9,_,_,_,_,y14,y15,y16,y17,y18,y19,y20,y21,y22,y23,y24,rfl,(hb.trans (hb2.mono hb.size)),h0,h1,h2,h3,h4,h5,h6,h7,h8,h9,fun _=>rfl,fun _=>rfl,fun _=>rfl,fun _=>(by first | rfl | simp),h14,h15,h16,h17,h21,h22,h23,h24⟩
  | 14,_ =>
   have ho':=ho
   simp [opsregNe1] at ho
   subst ho
   obtain rfl:=h10 (hall ⟨10,.guard⟩ (by simp) rfl)
   refine wpOp_on ho' rfl fun K hK=>?_
   refine wp_load_row 39 (.tmp 7) rfl ab rfl 39 ca (0,0) _ (hA w1 hb) Tryz.underlying39 rfl shA ?_
   exact hK _ _ ⟨y0,y1,y2,y3,y4,y5,y6,y7,y8,y9,_,y11,y12,y13,_,y15,y16,y17,y18,y19,y20,y21,y22,y23,y24,rfl,hb,h0,h1,h2,h3,h4,h5,h6,h7,h8,h9,fun _=>rfl,h11,h12,h13,fun _=>(by first | rfl | simp),h15,h16,h17,h21,h22,h23,h24⟩
  | 15,_ =>
   have ho':=ho
   simp [opsregNe1] at ho
   subst ho
   obtain rfl:=h10 (hall ⟨10,.guard⟩ (by simp) rfl)
   refine wpOp_on ho' rfl fun K hK=>?_
   go_simp
   exact hK _ _ ⟨y0,y1,y2,y3,y4,y5,y6,y7,y8,y9,_,y11,y12,y13,y14,_,y16,y17,y18,y19,y20,y21,y22,y23,y24,rfl,hb,h0,h1,h2,h3,h4,h5,h6,h7,h8,h9,fun _=>rfl,h11,h12,h13,h14,fun _=>(by first | rfl | simp),h16,h17,h21,h22,h23,h24⟩
  | 16,_ =>
   have ho':=ho
   simp [opsregNe1] at ho
   subst ho
   obtain rfl:=h10 (hall ⟨10,.guard⟩ (by simp) rfl)
   obtain rfl:=h14 (hall ⟨14,.data⟩ (by simp) rfl)
   obtain rfl:=h15 (hall ⟨15,.data⟩ (by simp) rfl)
   refine wpOp_on ho' rfl fun K hK=>?_
   go_simp
   go_at_call 12
   refine (hc2 _ hb).mono ?_
   rintro e w2 ⟨rfl,hb2⟩
   exact hK _ _ ⟨y0,y1,y2,y3,y4,y5,y6,y7,y8,y9,_,y11,y12,y13,_,_,_,y17,y18,y19,y20,y21,y22,y23,y24,rfl,(hb.trans (hb2.mono hb.size)),h0,h1,h2,h3,h4,h5,h6,h7,h8,h9,fun _=>rfl,h11,h12,h13,fun _=>rfl,fun _=>rfl,fun _=>(by first | rfl | simp),h17,h21,h22,h23,h24⟩
  | 17,_ =>
   have ho':=ho
   simp [opsregNe1] at ho
   subst ho
   obtain rfl:=h10 (hall ⟨10,.guard⟩ (by simp) rfl)
   obtain rfl:=h16 (hall ⟨16,.data⟩ (by simp) rfl)
   refine wpOp_on ho' rfl fun K hK=>?_
   go_simp
   exact hK _ _ ⟨y0,y1,y2,y3,y4,y5,y6,y7,y8,y9,_,y11,y12,y13,y14,y15,_,_,y18,y19,y20,y21,y22,y23,y24,rfl,hb,h0,h1,h2,h3,h4,h5,h6,h7,h8,h9,fun _=>rfl,h11,h12,h13,h14,h15,fun _=>rfl,fun _=>(by first | rfl | simp),h21,h22,h23,h24⟩
  | 18,_ =>
   have ho':=ho
   simp [opsregNe1] at ho
   subst ho
   obtain rfl:=h17 (hall ⟨17,.guard⟩ (by simp) rfl)
   refine wpOq_off ho' rfl ?_
   exact ⟨y0,y1,y2,y3,y4,y5,y6,y7,y8,y9,y10,y11,y12,y13,y14,y15,y16,_,_,y19,y20,y21,y22,y23,y24,rfl,hb,h0,h1,h2,h3,h4,h5,h6,h7,h8,h9,h10,h11,h12,h13,h14,h15,h16,fun _=>rfl,h21,h22,h23,h24⟩
  | 19,_ =>
   have ho':=ho
   simp [opsregNe1] at ho
   subst ho
   obtain rfl:=h17 (hall ⟨17,.guard⟩ (by simp) rfl)
   refine wpOq_off ho' rfl ?_
   exact ⟨y0,y1,y2,y3,y4,y5,y6,y7,y8,y9,y10,y11,y12,y13,y14,y15,y16,_,y18,_,y20,y21,y22,y23,y24,rfl,hb,h0,h1,h2,h3,h4,h5,h6,h7,h8,h9,h10,h11,h12,h13,h14,h15,h16,fun _=>rfl,h21,h22,h23,h24⟩
  | 20,_ =>
   have ho':=ho
   simp [opsregNe1] at ho
   subst ho
   obtain rfl:=h17 (hall ⟨17,.chain⟩ (by simp) rfl)
   refine wpOq_off ho' rfl ?_
   exact ⟨y0,y1,y2,y3,y4,y5,y6,y7,y8,y9,y10,y11,y12,y13,y14,y15,y16,_,y18,y19,_,y21,y22,y23,y24,rfl,hb,h0,h1,h2,h3,h4,h5,h6,h7,h8,h9,h10,h11,h12,h13,h14,h15,h16,fun _=>rfl,h21,h22,h23,h24⟩
  | 21,_ =>
   have ho':=ho
   simp [opsregNe1] at ho
   subst ho
   obtain rfl:=h10 (hall ⟨10,.guard⟩ (by simp) rfl)
   obtain rfl:=h17 (hall ⟨17,.data⟩ (by simp) rfl)
   refine wpOp_on ho' rfl fun K hK=>?_
   go_simp
   exact hK _ _ ⟨y0,y1,y2,y3,y4,y5,y6,y7,y8,y9,_,y11,y12,y13,y14,y15,y16,_,y18,y19,y20,_,y22,y23,y24,rfl,hb,h0,h1,h2,h3,h4,h5,h6,h7,h8,h9,fun _=>rfl,h11,h12,h13,h14,h15,h16,fun _=>rfl,fun _=>(by first | rfl | simp),h22,h23,h24⟩
  | 22,_ =>
   have ho':=ho
   simp [opsregNe1] at ho
   subst ho
   obtain rfl:=h10 (hall ⟨10,.guard⟩ (by simp) rfl)
   obtain rfl:=h13 (hall ⟨13,.data⟩ (by simp) rfl)
   obtain rfl:=h21 (hall ⟨21,.data⟩ (by simp) rfl)
   refine wpOp_on ho' rfl fun K hK=>?_
   go_simp
   exact hK _ _ ⟨y0,y1,y2,y3,y4,y5,y6,y7,y8,y9,_,y11,y12,_,y14,y15,y16,y17,y18,y19,y20,_,_,y23,y24,rfl,hb,h0,h1,h2,h3,h4,h5,h6,h7,h8,h9,fun _=>rfl,h11,h12,fun _=>rfl,h14,h15,h16,h17,fun _=>rfl,fun _=>(by first | rfl | simp),h23,h24⟩
  | 23,_ =>
   have ho':=ho
   simp [opsregNe1] at ho
   subst ho
   obtain rfl:=h10 (hall ⟨10,.data⟩ (by simp) rfl)
   obtain rfl:=h22 (hall ⟨22,.data⟩ (by simp) rfl)
   refine wpOp_one ho' rfl fun K hK=>?_
   go_simp
   exact hK _ _ ⟨y0,y1,y2,y3,y4,y5,y6,y7,y8,y9,_,y11,y12,y13,y14,y15,y16,y17,y18,y19,y20,y21,_,_,y24,rfl,hb,h0,h1,h2,h3,h4,h5,h6,h7,h8,h9,fun _=>rfl,h11,h12,h13,h14,h15,h16,h17,h21,fun _=>rfl,fun _=>(by first | rfl | simp),h24⟩
  | 24,_ =>
   have ho':=ho
   simp [opsregNe1] at ho
   subst ho
   obtain rfl:=h23 (hall ⟨23,.data⟩ (by simp) rfl)
   refine wpOp_one ho' rfl fun K hK=>?_
   go_simp
   exact hK _ _ ⟨y0,y1,y2,y3,y4,y5,y6,y7,y8,y9,y10,y11,y12,y13,y14,y15,y16,y17,y18,y19,y20,y21,y22,_,_,rfl,hb,h0,h1,h2,h3,h4,h5,h6,h7,h8,h9,h10,h11,h12,h13,h14,h15,h16,h17,h21,h22,fun _=>rfl,fun _=>(by first | rfl | simp)⟩
  | k+25,hi=>omega
def WregNe5 (ca ba cc:Array Value) (ab bb cb:Nat) (wv:Value) (b2:Bool) (D:List Deferred) (v0 v1 v3 v4 v5 v13 v14 v15 v16 v17 v18 v19 v20 v21 v22 v23 v24 v25 v26 v27 v28 v29 v30 v31 v32 v33 v34 v35 v36 v37 v38:Value) (w0:World) (l:Nat→Bool) (a:Act) (w:World):Prop :=
 ∃ (y0 y1 y2 y3 y4 y5 y6 y7 y8 y9 y10 y11 y12 y13 y14 y15 y16 y17 y18 y19 y20 y21 y22 y23 y24:Value),a = { tmps:=#[v0,v1,wv,v3,v4,v5,y24,.pointer (some ⟨ab,0,none⟩),.bool true,.pointer (some ⟨bb,0,none⟩),.bool true,.pointer (some ⟨cb,0,none⟩),.bool true,v13,v14,v15,v16,v17,v18,v19,v20,v21,v22,v23,v24,v25,v26,v27,v28,v29,v30,v31,v32,v33,v34,v35,v36,v37,v38,y0,y1,y2,y3,y4,y5,y6,y7,y8,y9,y10,y11,y12,y13,y14,y15,y16,y17,y18,y19,y20,y21,y22,y23],defers:=D }∧Below w0.heap.size w0 w ∧
  (l 0=true→y0=.bool true)∧(l 1=true→y1=.bool false)∧(l 2=true→y2=.bool false)∧(l 3=true→y3=.bool true)∧(l 4=true→y4=.bool false)∧(l 5=true→y5=.bool false)∧(l 6=true→y6=.bool false)∧(l 7=true→y7=.bool true)∧(l 8=true→y8=.bool false)∧(l 9=true→y9=.bool false)∧(l 10=true→y10=.bool false)∧(l 11=true→y11=.agg cc)∧(l 12=true→y12=wv)∧(l 13=true→y13=.bool b2)∧(l 14=true→y14=.agg ca)∧(l 15=true→y15=wv)∧(l 16=true→y16=.bool false)∧(l 17=true→y17=.bool false)∧(l 18=true→y18=.agg ba)∧(l 19=true→y19=wv)∧(l 20=true→y20=.bool b2)∧(l 21=true→y21=.bool b2)∧(l 22=true→y22=.bool true)∧(l 23=true→y23=.bool true)∧(l 24=true→y24=.bool true)
set_option maxHeartbeats 8000000 in
set_option maxRecDepth 100000 in
theorem regNe5 (ca ba cc:Array Value) (ab bb cb:Nat) (wv:Value) (b2:Bool) (D:List Deferred) (v0 v1 v3 v4 v5 v13 v14 v15 v16 v17 v18 v19 v20 v21 v22 v23 v24 v25 v26 v27 v28 v29 v30 v31 v32 v33 v34 v35 v36 v37 v38 wy0 wy1 wy2 wy3 wy4 wy5 wy6 wy7 wy8 wy9 wy10 wy11 wy12 wy13 wy14 wy15 wy16 wy17 wy18 wy19 wy20 wy21 wy22 wy23 wy24:Value) (w:World) (hA:∀ w',Below w.heap.size w w'→w'.heap[ab]? = some (.cells ca 39 (0,0))) (shA:(Tryz.prog.info? 39).map (·.size)=some ca.size) (hB:∀ w',Below w.heap.size w w'→w'.heap[bb]? = some (.cells ba 39 (0,0))) (shB:(Tryz.prog.info? 39).map (·.size)=some ba.size) (hC:∀ w',Below w.heap.size w w'→w'.heap[cb]? = some (.cells cc 39 (0,0))) (shC:(Tryz.prog.info? 39).map (·.size)=some cc.size) (hc1:(∀ w',Below w.heap.size w w'→Calls Tryz.prog 12 #[.agg cc,wv] w' fun e w2=>e=.returned (.bool b2)∧Below w'.heap.size w' w2)) (hc2:(∀ w',Below w.heap.size w w'→Calls Tryz.prog 12 #[.agg ca,wv] w' fun e w2=>e=.returned (.bool false)∧Below w'.heap.size w' w2)) (hc3:(∀ w',Below w.heap.size w w'→Calls Tryz.prog 12 #[.agg ba,wv] w' fun e w2=>e=.returned (.bool b2)∧Below w'.heap.size w' w2)) (Q:Exit→Act→World→Prop)
  (hQ:∀ (y0 y1 y2 y3 y4 y5 y6 y7 y8 y9 y10 y11 y12 y13 y14 y15 y16 y17 y18 y19 y20 y21 y22 y23:Value) (w':World),Below w.heap.size w w'→Q .normal { tmps:=#[v0,v1,wv,v3,v4,v5,.bool true,.pointer (some ⟨ab,0,none⟩),.bool true,.pointer (some ⟨bb,0,none⟩),.bool true,.pointer (some ⟨cb,0,none⟩),.bool true,v13,v14,v15,v16,v17,v18,v19,v20,v21,v22,v23,v24,v25,v26,v27,v28,v29,v30,v31,v32,v33,v34,v35,v36,v37,v38,y0,y1,y2,y3,y4,y5,y6,y7,y8,y9,y10,y11,y12,y13,y14,y15,y16,y17,y18,y19,y20,y21,y22,y23],defers:=D } w') :
  (Code.region 6 opsregNe1 true).wp Tryz.prog Q { tmps:=#[v0,v1,wv,v3,v4,v5,wy24,.pointer (some ⟨ab,0,none⟩),.bool true,.pointer (some ⟨bb,0,none⟩),.bool true,.pointer (some ⟨cb,0,none⟩),.bool true,v13,v14,v15,v16,v17,v18,v19,v20,v21,v22,v23,v24,v25,v26,v27,v28,v29,v30,v31,v32,v33,v34,v35,v36,v37,v38,wy0,wy1,wy2,wy3,wy4,wy5,wy6,wy7,wy8,wy9,wy10,wy11,wy12,wy13,wy14,wy15,wy16,wy17,wy18,wy19,wy20,wy21,wy22,wy23],defers:=D } w:=by
 refine wp_region_inv (by kernel_rfl) (WregNe5 ca ba cc ab bb cb wv b2 D v0 v1 v3 v4 v5 v13 v14 v15 v16 v17 v18 v19 v20 v21 v22 v23 v24 v25 v26 v27 v28 v29 v30 v31 v32 v33 v34 v35 v36 v37 v38 w) ?hacy ?h0 ?hstep ?hdone
 case hacy=>kernel_rfl
 case h0=>exact ⟨wy0,wy1,wy2,wy3,wy4,wy5,wy6,wy7,wy8,wy9,wy10,wy11,wy12,wy13,wy14,wy15,wy16,wy17,wy18,wy19,wy20,wy21,wy22,wy23,wy24,rfl,below_drewN (Below.refl _ _) 1,(fun p=>by cases p),(fun p=>by cases p),(fun p=>by cases p),(fun p=>by cases p),(fun p=>by cases p),(fun p=>by cases p),(fun p=>by cases p),(fun p=>by cases p),(fun p=>by cases p),(fun p=>by cases p),(fun p=>by cases p),(fun p=>by cases p),(fun p=>by cases p),(fun p=>by cases p),(fun p=>by cases p),(fun p=>by cases p),(fun p=>by cases p),(fun p=>by cases p),(fun p=>by cases p),(fun p=>by cases p),(fun p=>by cases p),(fun p=>by cases p),(fun p=>by cases p),(fun p=>by cases p),(fun p=>by cases p)⟩
 case hdone =>
  intro l a w1 hI hall
  obtain ⟨y0,y1,y2,y3,y4,y5,y6,y7,y8,y9,y10,y11,y12,y13,y14,y15,y16,y17,y18,y19,y20,y21,y22,y23,y24,rfl,hb,h0,h1,h2,h3,h4,h5,h6,h7,h8,h9,h10,h11,h12,h13,h14,h15,h16,h17,h18,h19,h20,h21,h22,h23,h24⟩:=hI
  obtain rfl:=h24 (hall 24 (by decide))
  exact hQ _ _ _ _ _ _ _ _ _ _ _ _ _ _ _ _ _ _ _ _ _ _ _ _ _ hb
 case hstep =>
  intro l a w1 i o hI ho hl hall
  obtain ⟨y0,y1,y2,y3,y4,y5,y6,y7,y8,y9,y10,y11,y12,y13,y14,y15,y16,y17,y18,y19,y20,y21,y22,y23,y24,rfl,hb,h0,h1,h2,h3,h4,h5,h6,h7,h8,h9,h10,h11,h12,h13,h14,h15,h16,h17,h18,h19,h20,h21,h22,h23,h24⟩:=hI
  have hi:i<25:=(Array.getElem?_eq_some_iff.1 ho).1
  match i,hi with
  | 0,_ =>
   have ho':=ho
   simp [opsregNe1] at ho
   subst ho
   refine wpOp_one ho' rfl fun K hK=>?_
   go_simp
   exact hK _ _ ⟨_,y1,y2,y3,y4,y5,y6,y7,y8,y9,y10,y11,y12,y13,y14,y15,y16,y17,y18,y19,y20,y21,y22,y23,y24,rfl,hb,fun _=>(by first | rfl | simp),h1,h2,h3,h4,h5,h6,h7,h8,h9,h10,h11,h12,h13,h14,h15,h16,h17,h18,h19,h20,h21,h22,h23,h24⟩
  | 1,_ =>
   have ho':=ho
   simp [opsregNe1] at ho
   subst ho
   obtain rfl:=h0 (hall ⟨0,.data⟩ (by simp) rfl)
   refine wpOp_one ho' rfl fun K hK=>?_
   go_simp
   exact hK _ _ ⟨_,_,y2,y3,y4,y5,y6,y7,y8,y9,y10,y11,y12,y13,y14,y15,y16,y17,y18,y19,y20,y21,y22,y23,y24,rfl,hb,fun _=>rfl,fun _=>(by first | rfl | simp),h2,h3,h4,h5,h6,h7,h8,h9,h10,h11,h12,h13,h14,h15,h16,h17,h18,h19,h20,h21,h22,h23,h24⟩
  | 2,_ =>
   have ho':=ho
   simp [opsregNe1] at ho
   subst ho
   obtain rfl:=h1 (hall ⟨1,.data⟩ (by simp) rfl)
   refine wpOp_one ho' rfl fun K hK=>?_
   go_simp
   exact hK _ _ ⟨y0,_,_,y3,y4,y5,y6,y7,y8,y9,y10,y11,y12,y13,y14,y15,y16,y17,y18,y19,y20,y21,y22,y23,y24,rfl,hb,h0,fun _=>rfl,fun _=>(by first | rfl | simp),h3,h4,h5,h6,h7,h8,h9,h10,h11,h12,h13,h14,h15,h16,h17,h18,h19,h20,h21,h22,h23,h24⟩
  | 3,_ =>
   have ho':=ho
   simp [opsregNe1] at ho
   subst ho
   obtain rfl:=h2 (hall ⟨2,.guard⟩ (by simp) rfl)
   refine wpOp_on ho' rfl fun K hK=>?_
   go_simp
   exact hK _ _ ⟨y0,y1,_,_,y4,y5,y6,y7,y8,y9,y10,y11,y12,y13,y14,y15,y16,y17,y18,y19,y20,y21,y22,y23,y24,rfl,hb,h0,h1,fun _=>rfl,fun _=>(by first | rfl | simp),h4,h5,h6,h7,h8,h9,h10,h11,h12,h13,h14,h15,h16,h17,h18,h19,h20,h21,h22,h23,h24⟩
  | 4,_ =>
   have ho':=ho
   simp [opsregNe1] at ho
   subst ho
   obtain rfl:=h2 (hall ⟨2,.guard⟩ (by simp) rfl)
   obtain rfl:=h3 (hall ⟨3,.data⟩ (by simp) rfl)
   refine wpOp_on ho' rfl fun K hK=>?_
   go_simp
   exact hK _ _ ⟨y0,y1,_,_,_,y5,y6,y7,y8,y9,y10,y11,y12,y13,y14,y15,y16,y17,y18,y19,y20,y21,y22,y23,y24,rfl,hb,h0,h1,fun _=>rfl,fun _=>rfl,fun _=>(by first | rfl | simp),h5,h6,h7,h8,h9,h10,h11,h12,h13,h14,h15,h16,h17,h18,h19,h20,h21,h22,h23,h24⟩
  | 5,_ =>
   have ho':=ho
   simp [opsregNe1] at ho
   subst ho
   obtain rfl:=h2 (hall ⟨2,.data⟩ (by simp) rfl)
   obtain rfl:=h4 (hall ⟨4,.data⟩ (by simp) rfl)
   refine wpOp_one ho' rfl fun K hK=>?_
   go_simp
   exact hK _ _ ⟨y0,y1,_,y3,_,_,y6,y7,y8,y9,y10,y11,y12,y13,y14,y15,y16,y17,y18,y19,y20,y21,y22,y23,y24,rfl,hb,h0,h1,fun _=>rfl,h3,fun _=>rfl,fun _=>(by first | rfl | simp),h6,h7,h8,h9,h10,h11,h12,h13,h14,h15,h16,h17,h18,h19,h20,h21,h22,h23,h24⟩
  | 6,_ =>
   have ho':=ho
   simp [opsregNe1] at ho
   subst ho
   obtain rfl:=h5 (hall ⟨5,.data⟩ (by simp) rfl)
   refine wpOp_one ho' rfl fun K hK=>?_
   go_simp
   exact hK _ _ ⟨y0,y1,y2,y3,y4,_,_,y7,y8,y9,y10,y11,y12,y13,y14,y15,y16,y17,y18,y19,y20,y21,y22,y23,y24,rfl,hb,h0,h1,h2,h3,h4,fun _=>rfl,fun _=>(by first | rfl | simp),h7,h8,h9,h10,h11,h12,h13,h14,h15,h16,h17,h18,h19,h20,h21,h22,h23,h24⟩
  | 7,_ =>
   have ho':=ho
   simp [opsregNe1] at ho
   subst ho
   obtain rfl:=h6 (hall ⟨6,.guard⟩ (by simp) rfl)
   refine wpOp_on ho' rfl fun K hK=>?_
   go_simp
   exact hK _ _ ⟨y0,y1,y2,y3,y4,y5,_,_,y8,y9,y10,y11,y12,y13,y14,y15,y16,y17,y18,y19,y20,y21,y22,y23,y24,rfl,hb,h0,h1,h2,h3,h4,h5,fun _=>rfl,fun _=>(by first | rfl | simp),h8,h9,h10,h11,h12,h13,h14,h15,h16,h17,h18,h19,h20,h21,h22,h23,h24⟩
  | 8,_ =>
   have ho':=ho
   simp [opsregNe1] at ho
   subst ho
   obtain rfl:=h6 (hall ⟨6,.guard⟩ (by simp) rfl)
   obtain rfl:=h7 (hall ⟨7,.data⟩ (by simp) rfl)
   refine wpOp_on ho' rfl fun K hK=>?_
   go_simp
   exact hK _ _ ⟨y0,y1,y2,y3,y4,y5,_,_,_,y9,y10,y11,y12,y13,y14,y15,y16,y17,y18,y19,y20,y21,y22,y23,y24,rfl,hb,h0,h1,h2,h3,h4,h5,fun _=>rfl,fun _=>rfl,fun _=>(by first | rfl | simp),h9,h10,h11,h12,h13,h14,h15,h16,h17,h18,h19,h20,h21,h22,h23,h24⟩
  | 9,_ =>
   have ho':=ho
   simp [opsregNe1] at ho
   subst ho
   obtain rfl:=h6 (hall ⟨6,.data⟩ (by simp) rfl)
   obtain rfl:=h8 (hall ⟨8,.data⟩ (by simp) rfl)
   refine wpOp_one ho' rfl fun K hK=>?_
   go_simp
   exact hK _ _ ⟨y0,y1,y2,y3,y4,y5,_,y7,_,_,y10,y11,y12,y13,y14,y15,y16,y17,y18,y19,y20,y21,y22,y23,y24,rfl,hb,h0,h1,h2,h3,h4,h5,fun _=>rfl,h7,fun _=>rfl,fun _=>(by first | rfl | simp),h10,h11,h12,h13,h14,h15,h16,h17,h18,h19,h20,h21,h22,h23,h24⟩
  | 10,_ =>
   have ho':=ho
   simp [opsregNe1] at ho
   subst ho
   obtain rfl:=h9 (hall ⟨9,.data⟩ (by simp) rfl)
   refine wpOp_one ho' rfl fun K hK=>?_
   go_simp
   exact hK _ _ ⟨y0,y1,y2,y3,y4,y5,y6,y7,y8,_,_,y11,y12,y13,y14,y15,y16,y17,y18,y19,y20,y21,y22,y23,y24,rfl,hb,h0,h1,h2,h3,h4,h5,h6,h7,h8,fun _=>rfl,fun _=>(by first | rfl | simp),h11,h12,h13,h14,h15,h16,h17,h18,h19,h20,h21,h22,h23,h24⟩
  | 11,_ =>
   have ho':=ho
   simp [opsregNe1] at ho
   subst ho
   obtain rfl:=h10 (hall ⟨10,.guard⟩ (by simp) rfl)
   refine wpOp_on ho' rfl fun K hK=>?_
   refine wp_load_row 39 (.tmp 11) rfl cb rfl 39 cc (0,0) _ (hC w1 hb) Tryz.underlying39 rfl shC ?_
   exact hK _ _ ⟨y0,y1,y2,y3,y4,y5,y6,y7,y8,y9,_,_,y12,y13,y14,y15,y16,y17,y18,y19,y20,y21,y22,y23,y24,rfl,hb,h0,h1,h2,h3,h4,h5,h6,h7,h8,h9,fun _=>rfl,fun _=>(by first | rfl | simp),h12,h13,h14,h15,h16,h17,h18,h19,h20,h21,h22,h23,h24⟩
  | 12,_ =>
   have ho':=ho
   simp [opsregNe1] at ho
   subst ho
   obtain rfl:=h10 (hall ⟨10,.guard⟩ (by simp) rfl)
   refine wpOp_on ho' rfl fun K hK=>?_
   go_simp
   exact hK _ _ ⟨y0,y1,y2,y3,y4,y5,y6,y7,y8,y9,_,y11,_,y13,y14,y15,y16,y17,y18,y19,y20,y21,y22,y23,y24,rfl,hb,h0,h1,h2,h3,h4,h5,h6,h7,h8,h9,fun _=>rfl,h11,fun _=>(by first | rfl | simp),h13,h14,h15,h16,h17,h18,h19,h20,h21,h22,h23,h24⟩
  | 13,_ =>
   have ho':=ho
   simp [opsregNe1] at ho
   subst ho
   obtain rfl:=h10 (hall ⟨10,.chain⟩ (by simp) rfl)
   obtain rfl:=h11 (hall ⟨11,.data⟩ (by simp) rfl)
   obtain rfl:=h12 (hall ⟨12,.data⟩ (by simp) rfl)
   refine wpOp_on ho' rfl fun K hK=>?_
   go_simp
   go_at_call 12
   refine (hc1 _ hb).mono ?_
   rintro e w2 ⟨rfl,hb2⟩
   exact hK _ _ ⟨y0,y1,y2,y3,y4,y5,y6,y7,y8,y9,_,_,_,_,y14,y15,y16,y17,y18,y19,y20,y21,y22,y23,y24,rfl,(hb.trans (hb2.mono hb.size)),h0,h1,h2,h3,h4,h5,h6,h7,h8,h9,fun _=>rfl,fun _=>rfl,fun _=>rfl,fun _=>(by first | rfl | simp),h14,h15,h16,h17,h18,h19,h20,h21,h22,h23,h24⟩
  | 14,_ =>
   have ho':=ho
   simp [opsregNe1] at ho
   subst ho
   obtain rfl:=h10 (hall ⟨10,.guard⟩ (by simp) rfl)
   refine wpOp_on ho' rfl fun K hK=>?_
   refine wp_load_row 39 (.tmp 7) rfl ab rfl 39 ca (0,0) _ (hA w1 hb) Tryz.underlying39 rfl shA ?_
   exact hK _ _ ⟨y0,y1,y2,y3,y4,y5,y6,y7,y8,y9,_,y11,y12,y13,_,y15,y16,y17,y18,y19,y20,y21,y22,y23,y24,rfl,hb,h0,h1,h2,h3,h4,h5,h6,h7,h8,h9,fun _=>rfl,h11,h12,h13,fun _=>(by first | rfl | simp),h15,h16,h17,h18,h19,h20,h21,h22,h23,h24⟩
  | 15,_ =>
   have ho':=ho
   simp [opsregNe1] at ho
   subst ho
   obtain rfl:=h10 (hall ⟨10,.guard⟩ (by simp) rfl)
   refine wpOp_on ho' rfl fun K hK=>?_
   go_simp
   exact hK _ _ ⟨y0,y1,y2,y3,y4,y5,y6,y7,y8,y9,_,y11,y12,y13,y14,_,y16,y17,y18,y19,y20,y21,y22,y23,y24,rfl,hb,h0,h1,h2,h3,h4,h5,h6,h7,h8,h9,fun _=>rfl,h11,h12,h13,h14,fun _=>(by first | rfl | simp),h16,h17,h18,h19,h20,h21,h22,h23,h24⟩
  | 16,_ =>
   have ho':=ho
   simp [opsregNe1] at ho
   subst ho
   obtain rfl:=h10 (hall ⟨10,.guard⟩ (by simp) rfl)
   obtain rfl:=h14 (hall ⟨14,.data⟩ (by simp) rfl)
   obtain rfl:=h15 (hall ⟨15,.data⟩ (by simp) rfl)
   refine wpOp_on ho' rfl fun K hK=>?_
   go_simp
   go_at_call 12
   refine (hc2 _ hb).mono ?_
   rintro e w2 ⟨rfl,hb2⟩
   exact hK _ _ ⟨y0,y1,y2,y3,y4,y5,y6,y7,y8,y9,_,y11,y12,y13,_,_,_,y17,y18,y19,y20,y21,y22,y23,y24,rfl,(hb.trans (hb2.mono hb.size)),h0,h1,h2,h3,h4,h5,h6,h7,h8,h9,fun _=>rfl,h11,h12,h13,fun _=>rfl,fun _=>rfl,fun _=>(by first | rfl | simp),h17,h18,h19,h20,h21,h22,h23,h24⟩
  | 17,_ =>
   have ho':=ho
   simp [opsregNe1] at ho
   subst ho
   obtain rfl:=h10 (hall ⟨10,.guard⟩ (by simp) rfl)
   obtain rfl:=h16 (hall ⟨16,.data⟩ (by simp) rfl)
   refine wpOp_on ho' rfl fun K hK=>?_
   go_simp
   exact hK _ _ ⟨y0,y1,y2,y3,y4,y5,y6,y7,y8,y9,_,y11,y12,y13,y14,y15,_,_,y18,y19,y20,y21,y22,y23,y24,rfl,hb,h0,h1,h2,h3,h4,h5,h6,h7,h8,h9,fun _=>rfl,h11,h12,h13,h14,h15,fun _=>rfl,fun _=>(by first | rfl | simp),h18,h19,h20,h21,h22,h23,h24⟩
  | 18,_ =>
   have ho':=ho
   simp [opsregNe1] at ho
   subst ho
   obtain rfl:=h17 (hall ⟨17,.guard⟩ (by simp) rfl)
   refine wpOp_on ho' rfl fun K hK=>?_
   refine wp_load_row 39 (.tmp 9) rfl bb rfl 39 ba (0,0) _ (hB w1 hb) Tryz.underlying39 rfl shB ?_
   exact hK _ _ ⟨y0,y1,y2,y3,y4,y5,y6,y7,y8,y9,y10,y11,y12,y13,y14,y15,y16,_,_,y19,y20,y21,y22,y23,y24,rfl,hb,h0,h1,h2,h3,h4,h5,h6,h7,h8,h9,h10,h11,h12,h13,h14,h15,h16,fun _=>rfl,fun _=>(by first | rfl | simp),h19,h20,h21,h22,h23,h24⟩
  | 19,_ =>
   have ho':=ho
   simp [opsregNe1] at ho
   subst ho
   obtain rfl:=h17 (hall ⟨17,.guard⟩ (by simp) rfl)
   refine wpOp_on ho' rfl fun K hK=>?_
   go_simp
   exact hK _ _ ⟨y0,y1,y2,y3,y4,y5,y6,y7,y8,y9,y10,y11,y12,y13,y14,y15,y16,_,y18,_,y20,y21,y22,y23,y24,rfl,hb,h0,h1,h2,h3,h4,h5,h6,h7,h8,h9,h10,h11,h12,h13,h14,h15,h16,fun _=>rfl,h18,fun _=>(by first | rfl | simp),h20,h21,h22,h23,h24⟩
  | 20,_ =>
   have ho':=ho
   simp [opsregNe1] at ho
   subst ho
   obtain rfl:=h17 (hall ⟨17,.chain⟩ (by simp) rfl)
   obtain rfl:=h18 (hall ⟨18,.data⟩ (by simp) rfl)
   obtain rfl:=h19 (hall ⟨19,.data⟩ (by simp) rfl)
   refine wpOp_on ho' rfl fun K hK=>?_
   go_simp
   go_at_call 12
   refine (hc3 _ hb).mono ?_
   rintro e w2 ⟨rfl,hb2⟩
   exact hK _ _ ⟨y0,y1,y2,y3,y4,y5,y6,y7,y8,y9,y10,y11,y12,y13,y14,y15,y16,_,_,_,_,y21,y22,y23,y24,rfl,(hb.trans (hb2.mono hb.size)),h0,h1,h2,h3,h4,h5,h6,h7,h8,h9,h10,h11,h12,h13,h14,h15,h16,fun _=>rfl,fun _=>rfl,fun _=>rfl,fun _=>(by first | rfl | simp),h21,h22,h23,h24⟩
  | 21,_ =>
   have ho':=ho
   simp [opsregNe1] at ho
   subst ho
   obtain rfl:=h10 (hall ⟨10,.guard⟩ (by simp) rfl)
   obtain rfl:=h17 (hall ⟨17,.data⟩ (by simp) rfl)
   obtain rfl:=h20 (hall ⟨20,.data⟩ (by simp) rfl)
   refine wpOp_on ho' rfl fun K hK=>?_
   go_simp
   exact hK _ _ ⟨y0,y1,y2,y3,y4,y5,y6,y7,y8,y9,_,y11,y12,y13,y14,y15,y16,_,y18,y19,_,_,y22,y23,y24,rfl,hb,h0,h1,h2,h3,h4,h5,h6,h7,h8,h9,fun _=>rfl,h11,h12,h13,h14,h15,h16,fun _=>rfl,h18,h19,fun _=>rfl,fun _=>(by first | rfl | simp),h22,h23,h24⟩
  | 22,_ =>
   have ho':=ho
   simp [opsregNe1] at ho
   subst ho
   obtain rfl:=h10 (hall ⟨10,.guard⟩ (by simp) rfl)
   obtain rfl:=h13 (hall ⟨13,.data⟩ (by simp) rfl)
   obtain rfl:=h21 (hall ⟨21,.data⟩ (by simp) rfl)
   refine wpOp_on ho' rfl fun K hK=>?_
   go_simp
   exact hK _ _ ⟨y0,y1,y2,y3,y4,y5,y6,y7,y8,y9,_,y11,y12,_,y14,y15,y16,y17,y18,y19,y20,_,_,y23,y24,rfl,hb,h0,h1,h2,h3,h4,h5,h6,h7,h8,h9,fun _=>rfl,h11,h12,fun _=>rfl,h14,h15,h16,h17,h18,h19,h20,fun _=>rfl,fun _=>(by first | rfl | (cases b2 <;> rfl)),h23,h24⟩
  | 23,_ =>
   have ho':=ho
   simp [opsregNe1] at ho
   subst ho
   obtain rfl:=h10 (hall ⟨10,.data⟩ (by simp) rfl)
   obtain rfl:=h22 (hall ⟨22,.data⟩ (by simp) rfl)
   refine wpOp_one ho' rfl fun K hK=>?_
   go_simp
   exact hK _ _ ⟨y0,y1,y2,y3,y4,y5,y6,y7,y8,y9,_,y11,y12,y13,y14,y15,y16,y17,y18,y19,y20,y21,_,_,y24,rfl,hb,h0,h1,h2,h3,h4,h5,h6,h7,h8,h9,fun _=>rfl,h11,h12,h13,h14,h15,h16,h17,h18,h19,h20,h21,fun _=>rfl,fun _=>(by first | rfl | simp),h24⟩
  | 24,_ =>
   have ho':=ho
   simp [opsregNe1] at ho
   subst ho
   obtain rfl:=h23 (hall ⟨23,.data⟩ (by simp) rfl)
   refine wpOp_one ho' rfl fun K hK=>?_
   go_simp
   exact hK _ _ ⟨y0,y1,y2,y3,y4,y5,y6,y7,y8,y9,y10,y11,y12,y13,y14,y15,y16,y17,y18,y19,y20,y21,y22,_,_,rfl,hb,h0,h1,h2,h3,h4,h5,h6,h7,h8,h9,h10,h11,h12,h13,h14,h15,h16,h17,h18,h19,h20,h21,h22,fun _=>rfl,fun _=>(by first | rfl | simp)⟩
  | k+25,hi=>omega
end Go.Proofs.YtnmjicfpmkoldaaGreatDoor

/- The walk of the statement NaiveEither: called with two trees and a word it returns true and changes nothing that was there.
   Conditions: the trees and the word lie in memory, the trees' sets are four words below 2^64, and the library's table lies there. -/
namespace Go.Proofs.YtnmjicfpmkoldaaGreatDoor
open Go.RowKit Go.Maps Go.Shelf
attribute [local go_sem] nodeAgg
abbrev twV (k:Int) (a b:V) (pb:Nat):V:=.node k zeros 0 0 (.slice (some ⟨pb,0,none⟩) 2 2) [a,b]
abbrev twT (k:Int) (a b:T):T:=.node k zeros 0 0 [a,b]
theorem tw_er (k:Int) (a b:V) (pb:Nat):erase (twV k a b pb)=twT k (erase a) (erase b):=by
 show T.node k zeros 0 0 (erases _)=_
 rw [erases,erases,erases]
theorem tw_good {a b:V} {pb:Nat} (ha:Good a) (hb:Good b):Good (twV 3 a b pb):=by
 refine .mk 3 zeros 0 0 _ _ (by unfold I64;decide) kl_z (fun _ _=>rfl) (by unfold I64;decide) (by unfold I64;decide) fun t ht=>?_
 rcases List.mem_cons.1 ht with rfl | ht
 ·exact ha
 ·rw [List.mem_singleton.1 ht];exact hb
theorem tw_laid {W:World} {R Q:Nat→Prop} {k:Int} {a b:V} {pb:Nat} {u v:Value} (hu:a.v=u) (hv:b.v=v) (ha:Laid W R a) (hb:Laid W Q b)
  (a0:W.heap[pb]? = some (.cells #[.int .i64 a.kind,.int .u64 (a.set 0:Nat),.int .u64 (a.set 1:Nat),.int .u64 (a.set 2:Nat),.int .u64 (a.set 3:Nat),u,.int .i64 a.lo,.int .i64 a.hi,.int .i64 b.kind,.int .u64 (b.set 0:Nat),.int .u64 (b.set 1:Nat),.int .u64 (b.set 2:Nat),.int .u64 (b.set 3:Nat),v,.int .i64 b.lo,.int .i64 b.hi] 27 (0,0))):Laid W (fun _=>True) (twV k a b pb):=by
 refine .some k zeros 0 0 [a,b] pb 0 2 trivial (Array.getElem?_eq_some_iff.1 a0).1 (Nat.le_refl _) (fun j x hx i y hy=>?_) (fun x hx=>?_)
 ·have hi:i<8:=by have:=(List.getElem?_eq_some_iff.1 hy).1;rwa [ndc_length] at this
  rw [(row_cells a0).1,List.getElem?_toArray]
  have h8:i=0∨i=1∨i=2∨i=3∨i=4∨i=5∨i=6∨i=7:=by omega
  match j,hx with
  | 0,hx =>
   rw [← Option.some.inj hx] at hy
   unfold ndc at hy
   rw [hu] at hy
   rcases h8 with rfl | rfl | rfl | rfl | rfl | rfl | rfl | rfl <;> exact hy
  | 1,hx =>
   rw [← Option.some.inj hx] at hy
   unfold ndc at hy
   rw [hv] at hy
   rcases h8 with rfl | rfl | rfl | rfl | rfl | rfl | rfl | rfl <;> exact hy
  | j+2,hx=>simp at hx
 ·rcases List.mem_cons.1 hx with rfl | hx
  ·exact ha.mono fun _ _ _=>trivial
  ·rw [List.mem_singleton.1 hx];exact hb.mono fun _ _ _=>trivial
theorem lg_alt (a b:T) (wd:List Nat):Lg (twT 3 a b) wd↔Lg a wd∨Lg b wd:=by
 rw [lg_three rfl,lga_cons,lga_cons,lga_nil,or_false]
def AuO (u:T) (w:World) (e:Ending) (w':World):Prop:=∃ (ca:Array Value) (ok:Bool),e=.returned (.tuple #[.agg ca,.bool ok])∧ca.size=15∧ca.all (·.oneCell')=true∧(ok=true→∃ (B:Nat) (a:Au) (m:PM) (L:Nat→List Mv),AuG B w' u a m L∧ca=#[.int .i64 a.k,.int .u64 (a.s0:Nat),.int .u64 (a.s1:Nat),.int .u64 (a.s2:Nat),.int .u64 (a.s3:Nat),.slice a.ta a.tn a.tc,.int .i64 a.lo,.int .i64 a.hi,.slice a.sA a.n a.sC,.slice a.cA a.cN a.cC,.slice (some ⟨a.ga,0,none⟩) a.n a.aC,.slice a.fA a.fN a.fC,.slice (some ⟨a.mb,0,none⟩) a.n a.n,.slice (some ⟨a.lb,0,none⟩) a.n a.n,.bool a.em])∧Below w.heap.size w w'
theorem auO_any (t:V) (w:World) (R:Nat→Prop) (ht:Laid w R t) (hT:TabE w) (hTl:tabE<w.heap.size):Calls Tryz.prog 10 #[nodeAgg t] w (AuO (erase t) w) :=
 (auto_any t w R ht hT hTl).mono fun e w' ⟨h,hb⟩=>by
  rcases h with ⟨rfl,_⟩ | ⟨B,a,m,L,hG,rfl⟩
  ·exact ⟨_,_,rfl,rfl,by simp [Value.oneCell'],fun h=>(by cases h),hb⟩
  ·exact ⟨_,_,rfl,rfl,by simp [Value.oneCell'],fun _=>⟨B,a,m,L,hG,rfl⟩,hb⟩
theorem sizeTA:(Tryz.prog.info? 39).map (·.size)=some 15:=by kernel_rfl
set_option maxHeartbeats 8000000 in
set_option maxRecDepth 100000 in
theorem either8_walk (s t:V) (v1:Value) (u:List Nat) (w:World) (R Q:Nat→Prop) (hs:Laid w R s) (ht:Laid w Q t) (hgs:Good s) (hgt:Good t) (hT:TabE w) (hTl:tabE<w.heap.size) (hu:WrdR w v1 u) :
  Calls Tryz.prog 4 #[nodeAgg s,nodeAgg t,v1] w fun e w'=>e=.returned (.bool true)∧Below w.heap.size w w':=by
 obtain ⟨sa,sc,hva,_⟩:=laid_row' hs
 obtain ⟨ta,tc,hvb,_⟩:=laid_row' ht
 obtain ⟨sn,hsn⟩ : ∃ sn,sn=s.ps.length:=⟨_,rfl⟩
 obtain ⟨tn,htn⟩ : ∃ tn,tn=t.ps.length:=⟨_,rfl⟩
 rw [← hsn] at hva
 rw [← htn] at hvb
 obtain ⟨wA,hwA,hbA,hltA,hbx⟩:=box_new w s (.slice sa sn sc)
 obtain ⟨wB,hwB,hbB,hltB,hby⟩:=box_new wA t (.slice ta tn tc)
 have HTT:=Lib.hid (fun (W:World) (h:Below w.heap.size w W)=>show TabE W∧tabE<W.heap.size from ⟨tab_below hT hTl h,Nat.lt_of_lt_of_le hTl h.size⟩)
 have HAa:=Lib.hid (fun (W:World) (h:Below w.heap.size w W)=>show Calls Tryz.prog 10 #[.agg #[.int .i64 s.kind,.int .u64 (s.set 0:Nat),.int .u64 (s.set 1:Nat),.int .u64 (s.set 2:Nat),.int .u64 (s.set 3:Nat),.slice sa sn sc,.int .i64 s.lo,.int .i64 s.hi]] W (AuO (erase s) W) from by
  have:=auO_any s W R (laid_low hs h) (HTT.out W h).1 (HTT.out W h).2
  rw [nodeAgg_v hva] at this
  exact this)
 have HAb:=Lib.hid (fun (W:World) (h:Below w.heap.size w W)=>show Calls Tryz.prog 10 #[.agg #[.int .i64 t.kind,.int .u64 (t.set 0:Nat),.int .u64 (t.set 1:Nat),.int .u64 (t.set 2:Nat),.int .u64 (t.set 3:Nat),.slice ta tn tc,.int .i64 t.lo,.int .i64 t.hi]] W (AuO (erase t) W) from by
  have:=auO_any t W Q (laid_low ht h) (HTT.out W h).1 (HTT.out W h).2
  rw [nodeAgg_v hvb] at this
  exact this)
 have HAc:=Lib.hid (fun (W:World) (h:Below w.heap.size w W) (pb:Nat) (a0:W.heap[pb]? = some (.cells #[.int .i64 s.kind,.int .u64 (s.set 0:Nat),.int .u64 (s.set 1:Nat),.int .u64 (s.set 2:Nat),.int .u64 (s.set 3:Nat),.slice sa sn sc,.int .i64 s.lo,.int .i64 s.hi,.int .i64 t.kind,.int .u64 (t.set 0:Nat),.int .u64 (t.set 1:Nat),.int .u64 (t.set 2:Nat),.int .u64 (t.set 3:Nat),.slice ta tn tc,.int .i64 t.lo,.int .i64 t.hi] 27 (0,0)))=>show Calls Tryz.prog 10 #[.agg #[.int .i64 3,.int .u64 0,.int .u64 0,.int .u64 0,.int .u64 0,.slice (some ⟨pb,0,none⟩) 2 2,.int .i64 0,.int .i64 0]] W (AuO (twT 3 (erase s) (erase t)) W) from by
  have:=auO_any (twV 3 s t pb) W _ (tw_laid hva hvb (laid_low hs h) (laid_low ht h) a0) (HTT.out W h).1 (HTT.out W h).2
  rw [tw_er] at this
  exact this)
 have HW:=Lib.hid (fun (W:World) (h:Below w.heap.size w W)=>hu.below h)
 have HGD:=Lib.hid (And.intro hgs hgt)
 obtain ⟨A1,c1,rfl,hu0⟩:=hu
 obtain ⟨un,hun⟩ : ∃ n,n=u.length:=⟨_,rfl⟩
 have HL:=Lib.hid hun
 rw [← hun] at HW ⊢
 rw [nodeAgg_v hva,nodeAgg_v hvb]
 have HAW:=Lib.hid (fun (W:World) (h:Below w.heap.size w W)=>awake8_any W (HTT.out W h).1 (HTT.out W h).2)
 have HX:=Lib.hid (fun (W:World) (h:Below wB.heap.size wB W)=>And.intro (hbx W (bhop hbB h)) (hby W h))
 have HB0:=Lib.hid (bhop hbA hbB)
 clear hs ht hgs hgt hva hvb hsn htn hT hTl hu0 hun hbx hby hbA hbB hltA hltB
 go_enter Tryz.func4,Tryz.ntmps4
 go_upto_region 1 with fail
 clear hwA hwB
 go_wp2_with fail
 go_at_call 9
 refine (HAW.out _ HB0.out).mono ?_
 rintro e w2 ⟨rfl,hb2⟩
 have HB2:=Lib.hid (bhop HB0.out hb2)
 have HC2:=Lib.hid hb2
 clear hb2
 by_cases h1:20<un
 ·have h1':(20:Int)<(un:Int):=by omega
  go_wp2_with fail
  go_at_call 9
  refine (HAW.out _ HB2.out).mono ?_
  rintro e w3 ⟨rfl,hb3⟩
  have HB3:=Lib.hid (bhop HB2.out hb3)
  clear hb3
  go_wp2_with fail
  go_ret
  exact ⟨rfl,HB3.out⟩
 have h1':¬ (20:Int)<(un:Int):=by omega
 have HU4:=Lib.hid (show u.length≤40 by have:=HL.out;omega)
 obtain ⟨⟨x0,x1,x2,x3,x4,x5,x6,x7⟩,y0,y1,y2,y3,y4,y5,y6,y7⟩:=HX.out w2 HC2.out
 go_wp2_with fail
 go_at_call 10
 refine Calls.mono (HAa.out w2 HB2.out) ?_
 rintro e w3 ⟨ca,oka,rfl,sza,one,hGa,hb3⟩
 obtain ⟨w4,hw4⟩ : ∃ w4,w4=w3.alloc (.cells ca 39):=⟨_,rfl⟩
 have hb4:Below w3.heap.size w3 w4:=by rw [hw4];exact (Below.refl _ _).alloc (Nat.le_refl _) _
 have hh4:w4.heap[w3.heap.size]? = some (.cells ca 39 (0,0)):=by rw [hw4];exact heap_alloc_new w3 _
 have HWE:=Lib.hid hw4
 have HB4:=Lib.hid (And.intro (bhop (HB2.out) (bhop hb3 hb4)) (bhop (HC2.out) (bhop hb3 hb4)))
 have HG4:=Lib.hid (And.intro (show Below w2.heap.size w2 w4 from (bhop hb3 hb4)) (And.intro (Array.getElem?_eq_some_iff.1 hh4).1 (And.intro hh4 (And.intro hb4 (And.intro sza hGa)))))
 clear hw4 hb4 hh4 hb3 hGa x0 x1 x2 x3 x4 x5 x6 x7 y0 y1 y2 y3 y4 y5 y6 y7
 go_upto_region 4 with (refine wpList_store_row (by rfl) 39 (.tmp 7) (.tmp 24) (by rfl) w3.heap.size ca (by rfl) (by rfl) 39 #[.int .i64 0,.int .u64 0,.int .u64 0,.int .u64 0,.int .u64 0,.slice none 0 0,.int .i64 0,.int .i64 0,.slice none 0 0,.slice none 0 0,.slice none 0 0,.slice none 0 0,.slice none 0 0,.slice none 0 0,.bool false] (heap_alloc_new w3 _) (by rw [sza];exact sizeTA) (by rw [sza];rfl) one ?_;rw [World.setRow_alloc_new])
 rw [← HWE.out]
 clear HWE sza one
 obtain ⟨⟨x0,x1,x2,x3,x4,x5,x6,x7⟩,y0,y1,y2,y3,y4,y5,y6,y7⟩:=HX.out w4 HB4.out.2
 go_wp2_with fail
 go_at_call 10
 refine Calls.mono (HAb.out w4 HB4.out.1) ?_
 rintro e w5 ⟨cb,okb,rfl,szb,onb,hGb,hb5⟩
 obtain ⟨w6,hw4⟩ : ∃ w4,w4=w5.alloc (.cells cb 39):=⟨_,rfl⟩
 have hb4:Below w5.heap.size w5 w6:=by rw [hw4];exact (Below.refl _ _).alloc (Nat.le_refl _) _
 have hh4:w6.heap[w5.heap.size]? = some (.cells cb 39 (0,0)):=by rw [hw4];exact heap_alloc_new w5 _
 have HWE:=Lib.hid hw4
 have HB6:=Lib.hid (And.intro (bhop (HB4.out.1) (bhop hb5 hb4)) (bhop (HB4.out.2) (bhop hb5 hb4)))
 have HG6:=Lib.hid (And.intro (show Below w4.heap.size w4 w6 from (bhop hb5 hb4)) (And.intro (Array.getElem?_eq_some_iff.1 hh4).1 (And.intro hh4 (And.intro hb4 (And.intro szb hGb)))))
 clear hw4 hb4 hh4 hb5 hGb x0 x1 x2 x3 x4 x5 x6 x7 y0 y1 y2 y3 y4 y5 y6 y7
 go_upto_region 5 with (refine wpList_store_row (by rfl) 39 (.tmp 9) (.tmp 29) (by rfl) w5.heap.size cb (by rfl) (by rfl) 39 #[.int .i64 0,.int .u64 0,.int .u64 0,.int .u64 0,.int .u64 0,.slice none 0 0,.int .i64 0,.int .i64 0,.slice none 0 0,.slice none 0 0,.slice none 0 0,.slice none 0 0,.slice none 0 0,.slice none 0 0,.bool false] (heap_alloc_new w5 _) (by rw [szb];exact sizeTA) (by rw [szb];rfl) onb ?_;rw [World.setRow_alloc_new])
 rw [← HWE.out]
 clear HWE szb onb
 obtain ⟨⟨x0,x1,x2,x3,x4,x5,x6,x7⟩,y0,y1,y2,y3,y4,y5,y6,y7⟩:=HX.out w6 HB6.out.2
 obtain ⟨w6b,hw6b,hb6b,hk6b⟩ : ∃ w6b,(w6.alloc (.cells #[.int .i64 s.kind,.int .u64 (s.set 0:Nat),.int .u64 (s.set 1:Nat),.int .u64 (s.set 2:Nat),.int .u64 (s.set 3:Nat),.slice sa sn sc,.int .i64 s.lo,.int .i64 s.hi,.int .i64 t.kind,.int .u64 (t.set 0:Nat),.int .u64 (t.set 1:Nat),.int .u64 (t.set 2:Nat),.int .u64 (t.set 3:Nat),.slice ta tn tc,.int .i64 t.lo,.int .i64 t.hi] 27))=w6b∧Below w6.heap.size w6 w6b∧w6b.heap[w6.heap.size]? = some (.cells #[.int .i64 s.kind,.int .u64 (s.set 0:Nat),.int .u64 (s.set 1:Nat),.int .u64 (s.set 2:Nat),.int .u64 (s.set 3:Nat),.slice sa sn sc,.int .i64 s.lo,.int .i64 s.hi,.int .i64 t.kind,.int .u64 (t.set 0:Nat),.int .u64 (t.set 1:Nat),.int .u64 (t.set 2:Nat),.int .u64 (t.set 3:Nat),.slice ta tn tc,.int .i64 t.lo,.int .i64 t.hi] 27 (0,0)):=⟨_,rfl,(Below.refl _ w6).alloc (Nat.le_refl _) _,heap_alloc_new w6 _⟩
 have HB6b:=Lib.hid (And.intro (bhop HB6.out.1 hb6b) (bhop HB6.out.2 hb6b))
 have HAC:=Lib.hid (HAc.out w6b HB6b.out.1 w6.heap.size hk6b)
 have HBb:=Lib.hid hb6b
 clear hb6b hk6b
 go_wp2_with fail
 go_at_call 10
 try rw [hw6b]
 refine Calls.mono HAC.out ?_
 rintro e w7 ⟨cc,okc,rfl,szc,onc,hGc,hb7⟩
 clear hw6b
 obtain ⟨w8,hw4⟩ : ∃ w4,w4=w7.alloc (.cells cc 39):=⟨_,rfl⟩
 have hb4:Below w7.heap.size w7 w8:=by rw [hw4];exact (Below.refl _ _).alloc (Nat.le_refl _) _
 have hh4:w8.heap[w7.heap.size]? = some (.cells cc 39 (0,0)):=by rw [hw4];exact heap_alloc_new w7 _
 have HWE:=Lib.hid hw4
 have HB8:=Lib.hid (And.intro (bhop (HB6b.out.1) (bhop hb7 hb4)) (bhop (HB6b.out.2) (bhop hb7 hb4)))
 have HG8:=Lib.hid (And.intro (show Below w6b.heap.size w6b w8 from (bhop hb7 hb4)) (And.intro (Array.getElem?_eq_some_iff.1 hh4).1 (And.intro hh4 (And.intro hb4 (And.intro szc hGc)))))
 clear hw4 hb4 hh4 hb7 hGc x0 x1 x2 x3 x4 x5 x6 x7 y0 y1 y2 y3 y4 y5 y6 y7
 go_upto_region 6 with (refine wpList_store_row (by rfl) 39 (.tmp 11) (.tmp 37) (by rfl) w7.heap.size cc (by rfl) (by rfl) 39 #[.int .i64 0,.int .u64 0,.int .u64 0,.int .u64 0,.int .u64 0,.slice none 0 0,.int .i64 0,.int .i64 0,.slice none 0 0,.slice none 0 0,.slice none 0 0,.slice none 0 0,.slice none 0 0,.slice none 0 0,.bool false] (heap_alloc_new w7 _) (by rw [szc];exact sizeTA) (by rw [szc];rfl) onc ?_;rw [World.setRow_alloc_new])
 rw [← HWE.out]
 clear HWE szc onc
 have HBb6:=Lib.hid (show Below w6.heap.size w6 w8 from bhop HBb.out HG8.out.1)
 have HBb4:=Lib.hid (show Below w4.heap.size w4 w8 from bhop HG6.out.1 HBb6.out)
 have HBL:=Lib.hid (fun (W:World) (h:Below w8.heap.size w8 W)=>And.intro ((bhop HBb4.out h).block w3.heap.size HG4.out.2.1 |>.trans HG4.out.2.2.1) (And.intro ((bhop HBb6.out h).block w5.heap.size HG6.out.2.1 |>.trans HG6.out.2.2.1) (h.block w7.heap.size HG8.out.2.1 |>.trans HG8.out.2.2.1)))
 cases oka with
 | false =>
  refine regNe1 _ _ _ _ _ _ _ _ _ _ _ _ _ _ _ _ _ _ _ _ _ _ _ _ _ _ _ _ _ _ _ _ _ _ _ _ _ _ _ _ _ _ _ _ _ _ _ _ _ _ _ _ _ _ _ _ _ _ _ _ _ _ _ _ _ ?_
  intros
  rename_i w20 hb20
  have HE:=Lib.hid (bhop HB8.out.1 hb20)
  clear hb20
  go_wp2_with fail
  go_ret
  exact ⟨rfl,HE.out⟩
 | true =>
 cases okb with
 | false =>
  refine regNe2 _ _ _ _ _ _ _ _ _ _ _ _ _ _ _ _ _ _ _ _ _ _ _ _ _ _ _ _ _ _ _ _ _ _ _ _ _ _ _ _ _ _ _ _ _ _ _ _ _ _ _ _ _ _ _ _ _ _ _ _ _ _ _ _ ?_
  intros
  rename_i w20 hb20
  have HE:=Lib.hid (bhop HB8.out.1 hb20)
  clear hb20
  go_wp2_with fail
  go_ret
  exact ⟨rfl,HE.out⟩
 | true =>
 cases okc with
 | false =>
  refine regNe3 _ _ _ _ _ _ _ _ _ _ _ _ _ _ _ _ _ _ _ _ _ _ _ _ _ _ _ _ _ _ _ _ _ _ _ _ _ _ _ _ _ _ _ _ _ _ _ _ _ _ _ _ _ _ _ _ _ _ _ _ _ _ _ ?_
  intros
  rename_i w20 hb20
  have HE:=Lib.hid (bhop HB8.out.1 hb20)
  clear hb20
  go_wp2_with fail
  go_ret
  exact ⟨rfl,HE.out⟩
 | true =>
 obtain ⟨Ba,xa,ma,La,ga,ea⟩:=HG4.out.2.2.2.2.2 rfl
 obtain ⟨Bb,xb,mb,Lb,gb,eb⟩:=HG6.out.2.2.2.2.2 rfl
 obtain ⟨Bc,xc,mc,Lc,gc,ec⟩:=HG8.out.2.2.2.2.2 rfl
 obtain ⟨ba,hba⟩ : ∃ b:Bool,b=true↔Lg (erase s) u:=by
  by_cases h:Lg (erase s) u
  ·exact ⟨true,fun _=>h,fun _=>rfl⟩
  ·exact ⟨false,fun e=>(by cases e),fun e=>absurd e h⟩
 obtain ⟨bb,hbb⟩ : ∃ b:Bool,b=true↔Lg (erase t) u:=by
  by_cases h:Lg (erase t) u
  ·exact ⟨true,fun _=>h,fun _=>rfl⟩
  ·exact ⟨false,fun e=>(by cases e),fun e=>absurd e h⟩
 have HMa:=Lib.hid (fun (W:World) (h:Below w8.heap.size w8 W)=>show Calls Tryz.prog 12 #[.agg ca,.slice A1 un c1] W (fun e w'=>e=.returned (.bool ba)∧Below W.heap.size W w') from by
  rw [ea]
  exact match_lg ga (map_cl HGD.out.1 ga.map) W (bhop HG4.out.2.2.2.1 (bhop HBb4.out h)) _ u (HW.out W (bhop HB8.out.1 h)) HU4.out ba hba)
 have HMb:=Lib.hid (fun (W:World) (h:Below w8.heap.size w8 W)=>show Calls Tryz.prog 12 #[.agg cb,.slice A1 un c1] W (fun e w'=>e=.returned (.bool bb)∧Below W.heap.size W w') from by
  rw [eb]
  exact match_lg gb (map_cl HGD.out.2 gb.map) W (bhop HG6.out.2.2.2.1 (bhop HBb6.out h)) _ u (HW.out W (bhop HB8.out.1 h)) HU4.out bb hbb)
 have HMc:=Lib.hid (fun (W:World) (h:Below w8.heap.size w8 W)=>show Calls Tryz.prog 12 #[.agg cc,.slice A1 un c1] W (fun e w'=>e=.returned (.bool (ba || bb))∧Below W.heap.size W w') from by
  rw [ec]
  exact match_lg gc (map_cl (t:=twV 3 s t 0) (tw_good HGD.out.1 HGD.out.2) (by rw [tw_er];exact gc.map)) W (bhop HG8.out.2.2.2.1 h) _ u (HW.out W (bhop HB8.out.1 h)) HU4.out (ba || bb) (by rw [Bool.or_eq_true,hba,hbb,lg_alt]))
 have HSZ:=Lib.hid (And.intro (show (Tryz.prog.info? 39).map (·.size)=some ca.size by rw [HG4.out.2.2.2.2.1];exact sizeTA) (And.intro (show (Tryz.prog.info? 39).map (·.size)=some cb.size by rw [HG6.out.2.2.2.2.1];exact sizeTA) (show (Tryz.prog.info? 39).map (·.size)=some cc.size by rw [HG8.out.2.2.2.2.1];exact sizeTA)))
 clear hba hbb ga gb gc ea eb ec
 cases ba with
 | true =>
  refine regNe4 ca cc w3.heap.size w5.heap.size w7.heap.size (.slice A1 un c1) _ _ _ _ _ _ _ _ _ _ _ _ _ _ _ _ _ _ _ _ _ _ _ _ _ _ _ _ _ _ _ _ _ _ _ _ _ _ _ _ _ _ _ _ _ _ _ _ _ _ _ _ _ _ _ _ _ w8 (fun W h=>(HBL.out W h).1) HSZ.out.1 (fun W h=>(HBL.out W h).2.2) HSZ.out.2.2 (fun W h=>HMc.out W h) (fun W h=>HMa.out W h) _ ?_
  intros
  rename_i w20 hb20
  have HE:=Lib.hid (bhop HB8.out.1 hb20)
  clear hb20
  go_wp2_with fail
  go_ret
  exact ⟨rfl,HE.out⟩
 | false =>
  refine regNe5 ca cb cc w3.heap.size w5.heap.size w7.heap.size (.slice A1 un c1) bb _ _ _ _ _ _ _ _ _ _ _ _ _ _ _ _ _ _ _ _ _ _ _ _ _ _ _ _ _ _ _ _ _ _ _ _ _ _ _ _ _ _ _ _ _ _ _ _ _ _ _ _ _ _ _ _ _ w8 (fun W h=>(HBL.out W h).1) HSZ.out.1 (fun W h=>(HBL.out W h).2.1) HSZ.out.2.1 (fun W h=>(HBL.out W h).2.2) HSZ.out.2.2 (fun W h=>HMc.out W h) (fun W h=>HMa.out W h) (fun W h=>HMb.out W h) _ ?_
  intros
  rename_i w20 hb20
  have HE:=Lib.hid (bhop HB8.out.1 hb20)
  clear hb20
  go_wp2_with fail
  go_ret
  exact ⟨rfl,HE.out⟩
end Go.Proofs.YtnmjicfpmkoldaaGreatDoor

/- Of every input the statement NaiveEither returns true, and it reads afterwards as before; the card: what its row lists is tied to the program's text.
   No condition. -/
namespace Go.Proofs.YtnmjicfpmkoldaaGreatDoor
open Go.ChangeShapes Go.WideShapes Go.ChangeAt Go.RowKit
theorem naiveEitherOwn:ownKnob Tryz.prog.godebug=none:=by kernel_rfl
theorem naiveEitherLaidOut:laidOutB Tryz.prog=true:=by kernel_rfl
theorem naiveEitherAgg (t:V):nodeAgg t=.agg (ndc t).toArray:=rfl
theorem naiveEitherDoor (os:Os) (args:Array Value):laidMetH Tryz.prog Rows.naiveEitherRow.laid ((World.doorLaid Tryz.prog 400 os).forCall (fun _ _=>0) ⟨#[],args,[]⟩).memory :=
 laidMetH_of_parts3 (fuel:=8) (laidMet_of_run' 8 (by kernel_rfl) (by kernel_rfl)) (by kernel_rfl) (by kernel_rfl)
set_option maxRecDepth 100000 in
theorem naiveEither_lifted (os:Os) (started:os.Started) (H:Type) (enc:TypeId×Value→H) :
  ReturnsInHanded {} Tryz.checked os 4 .any (fun w args=>(Rows.naiveEitherSpec.pre enc Tryz.prog Tryz.f4 Rows.naiveEitherRow.domain false w args∧laidMetH Tryz.prog Rows.naiveEitherRow.laid w)∧sizedMet enc Tryz.prog Tryz.f4 (OpenSpec.ofChange Rows.naiveEitherSpec) false w args)
   (Rows.naiveEitherSpec.post enc Tryz.prog Tryz.f4 false true false false):=by
 refine returnsInHanded_of_change_and (C:=Tryz.checked) (X:=fun w _=>laidMetH Tryz.prog Rows.naiveEitherRow.laid w) (fun _ _ _ hh h=>h.of_heap hh) naiveEitherOwn started (by kernel_rfl) Tryz.func4
  (ChangeSpec.witness_shaped (enc:=enc) (C:=Tryz.checked) (os:=os) (X:=fun w _=>laidMetH Tryz.prog Rows.naiveEitherRow.laid w) false (World.doorLaid Tryz.prog 400 os) #[.agg #[.int .i64 0,.int .u64 0,.int .u64 0,.int .u64 0,.int .u64 0,.slice none 0 0,.int .i64 0,.int .i64 0],.agg #[.int .i64 0,.int .u64 0,.int .u64 0,.int .u64 0,.int .u64 0,.slice none 0 0,.int .i64 0,.int .i64 0],.slice none 0 0] 8 rfl (World.shaped_of_RefB (by kernel_rfl) (by kernel_rfl)) (by kernel_rfl) (by kernel_rfl) (by kernel_rfl) (naiveEitherDoor os _)) ?_
 intro W base args ds gs before hval0 hW _ _ hLaid _
 have hval:∀ (j:Nat) t v,Tryz.f4.params[j]? = some t→args[j]? = some v→Value.okWide Tryz.prog W .any base t v:=hval0
 have hW':=hW
 obtain ⟨hT,hTl⟩:=tab_laid hLaid
 obtain ⟨p,q,hA0,hV,rfl,hfz,hnd⟩:=hW
 have hA:DataW.TrodAll enc Tryz.prog W 0 (fun _=>true) true Tryz.f4.params.toList args.toList ds p:=hA0
 rw [Tryz.params4] at hA hval
 obtain ⟨v0,vs0,d0,ds0,p0,q0,hargs,rfl,rfl,h0,rr0⟩:=trodAll_cons hA
 obtain ⟨v1,vs1,d1,ds1,p1,q1,rfl,rfl,rfl,h1,rr1⟩:=trodAll_cons rr0
 obtain ⟨v2,vs2,d2,ds2,p2,q2,rfl,rfl,rfl,h2,rr2⟩:=trodAll_cons rr1
 obtain ⟨rfl,rfl,rfl⟩:=trodAll_nil rr2
 obtain rfl:args=#[v0,v1,v2]:=by cases args;simp_all
 obtain ⟨rfl,rfl⟩:=trodVars_none hV
 have k0:=h0
 have lt0:∀ x∈p0,x.block<W.heap.size:=by obtain ⟨m,hm⟩:=k0;exact DataW.trod_lt m _ _ _ hm
 have k1:=h1
 have lt1:∀ x∈p1,x.block<W.heap.size:=by obtain ⟨m,hm⟩:=k1;exact DataW.trod_lt m _ _ _ hm
 have k2:=h2
 have lt2:∀ x∈p2,x.block<W.heap.size:=by obtain ⟨m,hm⟩:=k2;exact DataW.trod_lt m _ _ _ hm
 obtain ⟨t0,rfl,l0,gd0⟩:=open_tree (hval 0 27 v0 rfl rfl) h0
 obtain ⟨t1,rfl,l1,gd1⟩:=open_tree (hval 1 27 v1 rfl rfl) h1
 obtain ⟨wd2,hwd2,_⟩:=open_bytes8 (hval 2 28 v2 rfl rfl) h2
 clear hA0 hval0
 rw [← naiveEitherAgg] at *
 refine (either8_walk t0 t1 v2 wd2 W _ _ l0 l1 gd0 gd1 hT hTl hwd2).mono fun e W' ⟨he,bel⟩=>?_
 subst he
 exact ⟨_,rfl,_,_,_,[],_,[],hW',trodAll_mk1 (shut_bool Tryz.underlying4 _),(trodAll_cons_mk (Below.trod naiveEitherLaidOut (by kernel_rfl) (of_decide_eq_true (by kernel_rfl)) k0 bel lt0) (trodAll_cons_mk (Below.trod naiveEitherLaidOut (by kernel_rfl) (of_decide_eq_true (by kernel_rfl)) k1 bel lt1) (trodAll_cons_mk (Below.trod naiveEitherLaidOut (by kernel_rfl) (of_decide_eq_true (by kernel_rfl)) k2 bel lt2) trodAll_mk0))),rfl,bel.frame _,fun h=>by cases h⟩
theorem naiveEither_holds:Rows.NaiveEitherSaid :=
 OpenClaim.holds_of_wide 4 Tryz.f4 rfl rfl rfl rfl rfl rfl rfl ⟨rfl,rfl,rfl,rfl,rfl⟩ rfl rfl rfl rfl rfl (by kernel_rfl) Tryz.func4 (by kernel_rfl)
  (of_decide_eq_true (by kernel_rfl)) (by unfold Func.isWrapper;rw [if_neg (of_decide_eq_false (by kernel_rfl))];exact ⟨rfl,rfl⟩)
  (fun os started H enc _=>naiveEither_lifted os started H enc)
theorem naiveEither_card_holds:Rows.NaiveEitherCardSaid :=
 Claim7.holds_tied_plain_at .later [] [.data] true _ false
  naiveEither_holds (fun _ h=>by cases h) (by kernel_rfl) (fun _ h=>by cases h) naiveEither_row_tie rfl ⟨rfl,rfl⟩ (by kernel_rfl) rfl
  (fun f fn hf hfn=>by
   obtain rfl:f=4:=Option.some.inj ((show Tryz.prog.funcNamed "ostinato/ostinatolaw08.NaiveEither" = some 4 by kernel_rfl).symm.trans hf) |>.symm
   obtain rfl:fn=Tryz.f4:=(Option.some.inj (Tryz.func4.symm.trans hfn)).symm
   exact ⟨by kernel_rfl,fun j t ht=>by
    rw [Tryz.params4] at ht
    have hm:t∈[27,27,28]:=by simpa using Array.mem_of_getElem? ht
    have hall:([27,27,28].all fun u=>!Tryz.prog.wantsStandIn u)=true:=by kernel_rfl
    exact (show Tryz.prog.wantsStandIn t=false by simpa using List.all_eq_true.1 hall t hm)⟩)
  (by kernel_rfl)
#print axioms naiveEither_card_holds
end Go.Proofs.YtnmjicfpmkoldaaGreatDoor
