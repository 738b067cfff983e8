/- What the document's own comparing of two trees comes to: a contract, whether they are alike or not.
   Conditions: both trees lie in memory, the first one has at most 1000000 nodes. -/
import Derived.Test.YtjcfmbmepmlckaaDoorMRef
import Derived.StillTailTactics

/- What the document's own comparing of two trees comes to: a contract, whether they are alike or not.
   Conditions: both trees lie in memory, the first one has at most 1000000 nodes. -/
namespace Go.Proofs.YtjcfmbmepmlckaaDoor
open Go.RowKit
attribute [local go_sem] nodeAgg
theorem equal_four (A B:Nat→Nat) (w:World):(Op.equalIn 10000 24 (.agg #[.int .u64 (A 0:Nat),.int .u64 (A 1:Nat),.int .u64 (A 2:Nat),.int .u64 (A 3:Nat)]) (.agg #[.int .u64 (B 0:Nat),.int .u64 (B 1:Nat),.int .u64 (B 2:Nat),.int .u64 (B 3:Nat)])).run Tryd.prog w=.ok (eq4 A B) w:=by
 rw [run_equal4]
 unfold eq4
 congr 1
 rw [Bool.eq_iff_iff]
 simp
 omega
theorem bne_t {a b:Int} (h:¬ a=b):(a != b)=true:=by simp [h]
theorem beq_no {a b:Int} (h:¬ a=b):(a == b)=false:=by simp [h]
theorem likes_all {ps:List V} {i:Nat} (h:ps.length≤i):ps.take i=ps:=List.take_of_length_le h
theorem likes_false {ps qs:List V} (hlen:ps.length=qs.length) {i:Nat} {p q:V} (h1:ps[i]? = some p) (h2:qs[i]? = some q) (h:likeT (erase p) (erase q)=false):likesT (erases ps) (erases qs)=false:=by
 induction ps generalizing qs i with
 | nil=>simp at h1
 | cons x ps ih =>
  cases qs with
  | nil=>simp at hlen
  | cons y qs =>
   rw [erases,erases,likesT]
   cases i with
   | zero=>simp at h1 h2;subst h1 h2;rw [h];rfl
   | succ i=>rw [ih (by simpa using hlen) (by simpa using h1) (by simpa using h2)];simp
set_option maxHeartbeats 4000000 in
set_option maxRecDepth 100000 in
theorem same_ref (n:Nat):n≤1000000→∀ (a b:V) (w:World) (R Q:Nat→Prop),szT (erase a)≤n→Laid w R a→Laid w Q b →
  Calls Tryd.prog 24 #[nodeAgg a,nodeAgg b] w fun e w'=>e=.returned (.bool (likeT (erase a) (erase b)))∧Below w.heap.size w w':=by
 induction n with
 | zero=>intro _ a b w R Q h;rw [sz_eq] at h;omega
 | succ n ih =>
  intro hn a b w R Q hd ha hb
  obtain ⟨sa,sc,hv,hrow⟩:=laid_row' ha
  obtain ⟨ta,tc,hv2,hrow2⟩:=laid_row' hb
  have hlk:=likeT_eq a b
  unfold likeV at hlk
  have hd2:szsT (erases a.ps)≤n:=by rw [sz_eq] at hd;omega
  have hmn:a.ps.length≤1000000:=by have:=len_sz a.ps;omega
  obtain ⟨L,hL⟩ : ∃ L,likeT (erase a) (erase b)=L:=⟨_,rfl⟩
  rw [hL]
  rw [hL] at hlk
  simp only [nodeAgg]
  rw [hv,hv2]
  have hq:=equal_four a.set b.set
  generalize eq4 a.set b.set=Q4 at *
  generalize a.kind=k1,a.set=C1,a.lo=lo1,a.hi=hi1 at *
  generalize b.kind=k2,b.set=C2,b.lo=lo2,b.hi=hi2 at *
  by_cases hall:k1=k2∧Q4=true∧lo1=lo2∧hi1=hi2∧a.ps.length=b.ps.length
  ·rw [decide_eq_true hall,Bool.true_and] at hlk
   obtain ⟨rfl,rfl,rfl,rfl,hlen⟩:=hall
   have HR:=Lib.hid (And.intro hrow (And.intro hrow2 (And.intro hd2 (And.intro hlen hlk))))
   rw [hlen] at hmn ⊢
   generalize hm:b.ps.length=m at *
   clear hrow hrow2 hd2 hd hv hv2 ha hb hL hlk
   have HI:=Lib.hid (ih (by omega))
   clear ih hn
   go_enter Tryd.func24,Tryd.ntmps24
   go_wp2_with fail
   go_loopw [5] (fun x wr=>∃ i:Nat,x=.int .i64 i∧i≤m∧likesT (erases (a.ps.take i)) (erases (b.ps.take i))=true∧wr.cell? ⟨w.heap.size,5,none⟩=some (.slice sa m sc)∧wr.cell? ⟨w.heap.size+1,5,none⟩=some (.slice ta m tc)∧Below w.heap.size w wr∧w.heap.size+1<wr.heap.size) (fun x _=>match x with | .int _ z=>m - z.toNat | _=>0)
   case atStart=>exact ⟨0,rfl,by omega,by simp [erases,likesT],by go_simp,by go_simp,((Below.refl _ _).alloc (Nat.le_refl _) _).alloc (by simp) _,by simp⟩
   case round =>
    obtain ⟨i,rfl,hi,hli,c1,c2,hb,hsz⟩:=hrel
    obtain ⟨r1,r2,r4,r5,r6⟩:=HR.out
    by_cases hlt:i<m
    ·have g1:(i:Int)<(m:Int):=by omega
     obtain ⟨p,hp⟩ : ∃ p,a.ps[i]? = some p:=⟨_,List.getElem?_eq_getElem (by omega)⟩
     obtain ⟨q,hq2⟩ : ∃ q,b.ps[i]? = some q:=⟨_,List.getElem?_eq_getElem (by omega)⟩
     have hnext:=likes_take (r5.trans hm.symm) hp hq2
     rw [hli,Bool.true_and] at hnext
     have hno:=likes_false (r5.trans hm.symm) hp hq2
     obtain ⟨b1,o1,rfl,hlt1,cc1,L1⟩:=r1 i p hp
     obtain ⟨b2,o2,rfl,hlt2,cc2,L2⟩:=r2 i q hq2
     obtain ⟨x0,x1,x2,x3,x4,x5,x6,x7⟩:=node_cells cc1 hlt1 hb
     obtain ⟨y0,y1,y2,y3,y4,y5,y6,y7⟩:=node_cells cc2 hlt2 hb
     have HC:=Lib.hid (fun (w2:World) (hb2:Below w.heap.size w w2)=>HI.out p q w2 R Q (Nat.le_trans (sz_mem (List.mem_of_getElem? hp)) r4) (L1.keep (fun _ _ h=>h) hb2.size fun k hk _=>hb2.block k hk) (L2.keep (fun _ _ h=>h) hb2.size fun k hk _=>hb2.block k hk))
     have HN:=Lib.hid (And.intro hnext hno)
     clear r1 r2 r4 r5 r6 cc1 cc2 L1 L2 hp hq2 hlt1 hlt2 hli hnext hno
     go_wp2_with fail
     go_still_tail 10,(by kernel_rfl)
     change wpList _ _ _ _ _ wr.drew
     have hbd:Below w.heap.size w wr.drew:=hb.drew
     have d1:wr.drew.cell? ⟨w.heap.size,5,none⟩=some (.slice (some ⟨b1,o1,none⟩) m sc):=c1
     have d2:wr.drew.cell? ⟨w.heap.size+1,5,none⟩=some (.slice (some ⟨b2,o2,none⟩) m tc):=c2
     have dz:w.heap.size+1<wr.drew.heap.size:=hsz
     generalize wr.drew=w2 at *
     clear c1 c2 hb hsz x0 x1 x2 x3 x4 x5 x6 x7 y0 y1 y2 y3 y4 y5 y6 y7
     go_wp2_with fail
     go_at_call 24
     refine (HC.out _ hbd).mono ?_
     rintro e w3 ⟨rfl,hb3⟩
     have f1:w3.cell? ⟨w.heap.size,5,none⟩=some (.slice (some ⟨b1,o1,none⟩) m sc):=(hb3.cell (p:=⟨w.heap.size,5,none⟩) (by show w.heap.size<_;omega)).trans d1
     have f2:w3.cell? ⟨w.heap.size+1,5,none⟩=some (.slice (some ⟨b2,o2,none⟩) m tc):=(hb3.cell (p:=⟨w.heap.size+1,5,none⟩) (by show w.heap.size+1<_;omega)).trans d2
     have fz:w.heap.size+1<w3.heap.size:=by have:=hb3.size;omega
     have hb4:Below w.heap.size w w3:=hbd.trans (hb3.mono hbd.size)
     clear hb3 d1 d2 dz hbd HC
     cases hE:likeT (erase p) (erase q) with
     | true =>
      have HE:=Lib.hid hE
      clear hE
      go_wp2_with fail
      exact ⟨⟨i+1,by simp,by omega,by rw [HN.out.1,HE.out],f1,f2,hb4,fz⟩,by simp;omega⟩
     | false =>
      have HE:=Lib.hid hE
      clear hE
      go_wp2_with fail
      go_ret
      exact ⟨by show Ending.returned (.bool false)=_;rw [HR.out.2.2.2.2,HN.out.2 HE.out],hb4⟩
    ·have g1:¬ (i:Int)<(m:Int):=by omega
     have h1:a.ps.take i=a.ps:=likes_all (by omega)
     have h2:b.ps.take i=b.ps:=likes_all (by omega)
     rw [h1,h2] at hli
     have HL:=Lib.hid (r6.trans hli)
     clear r1 r2 r4 r5 r6 hli h1 h2
     go_wp2_with fail
     go_ret
     exact ⟨by show Ending.returned (.bool true)=_;rw [HL.out],hb⟩
  ·rw [decide_eq_false hall,Bool.false_and] at hlk
   have HL:=Lib.hid hlk
   have HALL:=Lib.hid hall
   clear hrow hrow2 hd2 hd hv hv2 ha hb hL hlk ih hall
   have fin:∀ w':World,Below w.heap.size w w'→(Ending.returned (.bool false)=Ending.returned (.bool L)∧Below w.heap.size w w'):=fun w' h=>⟨by rw [HL.out],h⟩
   generalize hm1:a.ps.length=m1 at *
   generalize hm2:b.ps.length=m2 at *
   by_cases hk:k1=k2
   ·subst hk
    cases Q4 with
    | true =>
     by_cases hlo:lo1=lo2
     ·subst hlo
      by_cases hhi:hi1=hi2
      ·subst hhi
       have hmm:¬ (m1:Int)=(m2:Int):=fun h=>HALL.out ⟨rfl,rfl,rfl,rfl,by omega⟩
       have g1:=bne_t hmm
       have g2:=beq_no hmm
       clear hmm
       go_enter Tryd.func24,Tryd.ntmps24
       go_wp2_with fail
       go_ret
       exact fin _ (((Below.refl _ _).alloc (Nat.le_refl _) _).alloc (by simp) _)
      ·have g1:=bne_t hhi
       have g2:=beq_no hhi
       clear hhi
       go_enter Tryd.func24,Tryd.ntmps24
       go_wp2_with fail
       go_ret
       exact fin _ (((Below.refl _ _).alloc (Nat.le_refl _) _).alloc (by simp) _)
     ·have g1:=bne_t hlo
      have g2:=beq_no hlo
      clear hlo
      go_enter Tryd.func24,Tryd.ntmps24
      go_wp2_with fail
      go_ret
      exact fin _ (((Below.refl _ _).alloc (Nat.le_refl _) _).alloc (by simp) _)
    | false =>
     go_enter Tryd.func24,Tryd.ntmps24
     go_wp2_with fail
     go_ret
     exact fin _ (((Below.refl _ _).alloc (Nat.le_refl _) _).alloc (by simp) _)
   ·have g1:=bne_t hk
    have g2:=beq_no hk
    clear hk
    go_enter Tryd.func24,Tryd.ntmps24
    go_wp2_with fail
    go_ret
    exact fin _ (((Below.refl _ _).alloc (Nat.le_refl _) _).alloc (by simp) _)
end Go.Proofs.YtjcfmbmepmlckaaDoor
