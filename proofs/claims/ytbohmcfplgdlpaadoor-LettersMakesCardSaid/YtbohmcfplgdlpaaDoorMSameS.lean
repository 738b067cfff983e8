/- Whether two trees are alike: the program's own call, a contract.
   Conditions: both lie in memory, and the first one has at most 1000000 nodes. -/
import Derived.Test.YtbohmcfplgdlpaaDoorMLikeA
import Derived.Test.YtbohmcfplgdlpaaDoorMForm

/- Whether two trees are alike: the program's own call, a contract.
   Conditions: both lie in memory, and the first one has at most 1000000 nodes. -/
namespace Go.Proofs.YtbohmcfplgdlpaaDoor
open Go.RowKit Go.Deep Go.Shelf
attribute [local go_sem] nodeAgg
def NodeB (B:Nat) (w:World) (b o:Nat) (t:V):Prop:=b<B∧(∀ j u,(ndc t)[j]? = some u→w.cell? ⟨b,o+j,none⟩=some u)∧Laid w (fun x=>x<B) t
theorem NodeB.at {B b o:Nat} {w:World} {t:V} (h:NodeB B w b o t):NodeAt w b o t:=⟨h.2.1,_,h.2.2⟩
theorem NodeB.chg {B b o:Nat} {w w':World} {t:V} (h:NodeB B w b o t) (hc:Chg (fun x=>B≤x) w w'):NodeB B w' b o t:=by
 obtain ⟨h1,h2,h3⟩:=h
 refine ⟨h1,fun j u hu=>?_,h3.chg hc fun x _ hx=>by omega⟩
 have:=h2 j u hu
 exact (hc.cell (o+j) (World.block_lt_of_cell? _ _ this) (by show ¬ B≤b;omega)).trans this
theorem NodeB.part {B b o:Nat} {w:World} {t:V} (h:NodeB B w b o t):∃ sa sc,t.v=.slice sa t.ps.length sc∧∀ (i:Nat) (p:V),t.ps[i]? = some p→∃ b' o',sa=some ⟨b',o',none⟩∧NodeB B w b' (o' + i * 8) p:=by
 obtain ⟨h1,h2,h3⟩:=h
 rcases laid_inv h3 with ⟨e,a,cap,hv⟩ | ⟨b',off,cap,hv,hR,hlt,hcap,hc,hk⟩
 ·exact ⟨a,cap,by rw [hv,e];rfl,fun i p hp=>by rw [e] at hp;simp at hp⟩
 ·exact ⟨_,cap,hv,fun i p hp=>⟨b',off,rfl,hR,hc i p hp,hk p (List.mem_of_getElem? hp)⟩⟩
theorem NodeB.kids {B b o:Nat} {w:World} {t:V} (h:NodeB B w b o t):∃ sa sc kb ko,t.v=.slice sa t.ps.length sc∧∀ (i:Nat) (p:V),t.ps[i]? = some p→sa=some ⟨kb,ko,none⟩∧NodeB B w kb (ko+i * 8) p:=by
 obtain ⟨h1,h2,h3⟩:=h
 rcases laid_inv h3 with ⟨e,a,cap,hv⟩ | ⟨b',off,cap,hv,hR,hlt,hcap,hc,hk⟩
 ·exact ⟨a,cap,0,0,by rw [hv,e];rfl,fun i p hp=>by rw [e] at hp;simp at hp⟩
 ·exact ⟨_,cap,b',off,hv,fun i p hp=>⟨rfl,hR,hc i p hp,hk p (List.mem_of_getElem? hp)⟩⟩
theorem NodeB.five {B b o:Nat} {w:World} {t:V} {v:Value} (h:NodeB B w b o t) (hv:t.v=v):w.cell? ⟨b,o+5,none⟩=some v:=h.2.1 5 _ (by rw [← hv];rfl)
structure Pr where
 b1:Nat
 o1:Nat
 b2:Nat
 o2:Nat
 a:V
 b:V
def Pr.okay (B:Nat) (w:World) (p:Pr):Prop:=NodeB B w p.b1 p.o1 p.a∧NodeB B w p.b2 p.o2 p.b
theorem Pr.okay.chg {B:Nat} {w w':World} {p:Pr} (h:p.okay B w) (hc:Chg (fun x=>B≤x) w w'):p.okay B w':=⟨h.1.chg hc,h.2.chg hc⟩
def pcells (l:List Pr):List Value:=l.flatMap fun p=>[.pointer (some ⟨p.b1,p.o1,none⟩),.pointer (some ⟨p.b2,p.o2,none⟩)]
theorem pcells_snoc (l:List Pr) (p:Pr):pcells (l ++ [p])=pcells l ++ [.pointer (some ⟨p.b1,p.o1,none⟩),.pointer (some ⟨p.b2,p.o2,none⟩)]:=by unfold pcells;simp
theorem pcells_length (l:List Pr):(pcells l).length=l.length * 2:=by
 induction l with
 | nil=>rfl
 | cons p l ih =>
  have:pcells (p :: l)=[.pointer (some ⟨p.b1,p.o1,none⟩),.pointer (some ⟨p.b2,p.o2,none⟩)] ++ pcells l:=by unfold pcells;simp
  rw [this,List.length_append,ih]
  simp
  omega
def alike (l:List Pr):Bool:=l.all fun p=>likeT (erase p.a) (erase p.b)
theorem alike_snoc (l:List Pr) (p:Pr):alike (l ++ [p])=(alike l && likeT (erase p.a) (erase p.b)):=by unfold alike;simp
def weight:List Pr→Nat
 | []=>0
 | p :: l=>szT (erase p.a)+weight l
theorem weight_append (a b:List Pr):weight (a ++ b)=weight a+weight b:=by
 induction a with
 | nil=>simp [weight]
 | cons p a ih=>rw [List.cons_append,weight,weight,ih];omega
theorem weight_one (p:Pr):weight [p]=szT (erase p.a):=by rw [weight,weight];omega
theorem len_weight (l:List Pr):l.length≤weight l:=by
 induction l with
 | nil=>simp [weight]
 | cons p l ih=>rw [weight,List.length_cons];have:=sz_pos (erase p.a);omega
def kids (b1 o1 b2 o2:Nat) (ps qs:List V):Nat→List Pr
 | 0=>[]
 | i+1=>kids b1 o1 b2 o2 ps qs i ++ (match ps[i]?,qs[i]? with
  | some p,some q=>[⟨b1,o1+i * 8,b2,o2+i * 8,p,q⟩]
  | _,_=>[])
theorem kids_succ {b1 o1 b2 o2 i:Nat} {ps qs:List V} {p q:V} (hp:ps[i]? = some p) (hq:qs[i]? = some q):kids b1 o1 b2 o2 ps qs (i+1)=kids b1 o1 b2 o2 ps qs i ++ [⟨b1,o1+i * 8,b2,o2+i * 8,p,q⟩]:=by
 rw [kids,hp,hq]
theorem kids_facts {b1 o1 b2 o2:Nat} {ps qs:List V} (hlen:ps.length=qs.length):∀ (i:Nat),i≤ps.length →
  (kids b1 o1 b2 o2 ps qs i).length=i∧weight (kids b1 o1 b2 o2 ps qs i)=szsT (erases (ps.take i))∧alike (kids b1 o1 b2 o2 ps qs i)=likesT (erases (ps.take i)) (erases (qs.take i))
 | 0,_=>⟨rfl,by simp [kids,weight,erases,szsT],by simp [kids,alike,erases,likesT]⟩
 | i+1,h=>by
  obtain ⟨h1,h2,h3⟩:=kids_facts (b1:=b1) (o1:=o1) (b2:=b2) (o2:=o2) hlen i (by omega)
  obtain ⟨p,hp⟩ : ∃ p,ps[i]? = some p:=⟨_,List.getElem?_eq_getElem (by omega)⟩
  obtain ⟨q,hq⟩ : ∃ q,qs[i]? = some q:=⟨_,List.getElem?_eq_getElem (by omega)⟩
  rw [kids_succ hp hq,weight_append,weight_one,alike_snoc,h2,h3,List.length_append,h1,szs_take hp,likes_take hlen hp hq]
  exact ⟨rfl,rfl,rfl⟩
theorem kids_mem {B:Nat} {w:World} {b1 o1 b2 o2:Nat} {ps qs:List V} (hlen:ps.length=qs.length) (h1:∀ i p,ps[i]? = some p→NodeB B w b1 (o1+i * 8) p) (h2:∀ i p,qs[i]? = some p→NodeB B w b2 (o2+i * 8) p):∀ (i:Nat),i≤ps.length→∀ x,x∈kids b1 o1 b2 o2 ps qs i→x.okay B w
 | 0,_,x,hx=>by simp [kids] at hx
 | i+1,h,x,hx=>by
  obtain ⟨p,hp⟩ : ∃ p,ps[i]? = some p:=⟨_,List.getElem?_eq_getElem (by omega)⟩
  obtain ⟨q,hq⟩ : ∃ q,qs[i]? = some q:=⟨_,List.getElem?_eq_getElem (by omega)⟩
  rw [kids_succ hp hq,List.mem_append] at hx
  rcases hx with hx | hx
  ·exact kids_mem hlen h1 h2 i (by omega) x hx
  ·simp at hx
   subst hx
   exact ⟨h1 i p hp,h2 i q hq⟩
theorem alike_append (a b:List Pr):alike (a ++ b)=(alike a && alike b):=by unfold alike;simp
def KRel (B:Nat) (wr:World) (l:List Pr) (p:Pr) (kb ko qb qo:Nat) (rest x:Value) (wx:World):Prop :=
 ∃ i g cap:Nat,x=.int .i64 i∧i≤p.a.ps.length∧rest=.slice (some ⟨g,0,none⟩) (l.length+i) cap∧wx.ownsRow B 191 2 (.slice (some ⟨g,0,none⟩) (l.length+i) cap) (l.length+i) (pcells (l ++ kids kb ko qb qo p.a.ps p.b.ps i)) ∧
  Chg (fun x=>B≤x) wr wx∧wx.cell? ⟨wr.heap.size,0,none⟩=some (.pointer (some ⟨p.b1,p.o1,none⟩))∧wx.cell? ⟨wr.heap.size,1,none⟩=some (.pointer (some ⟨p.b2,p.o2,none⟩))∧g≠wr.heap.size∧wr.heap.size<wx.heap.size
theorem krel_step {B:Nat} {wr wx w5:World} {l:List Pr} {p:Pr} {kb ko qb qo i g2 g3 cap2 cap3:Nat} {x y:V} {o:Obj} (hlt:i<p.a.ps.length) (hown:wx.ownsRow B 191 2 (.slice (some ⟨g2,0,none⟩) (l.length+i) cap2) (l.length+i) (pcells (l ++ kids kb ko qb qo p.a.ps p.b.ps i))) (hch:Chg (fun x=>B≤x) wr wx) (f0:wx.cell? ⟨wr.heap.size,0,none⟩=some (.pointer (some ⟨p.b1,p.o1,none⟩))) (f1:wx.cell? ⟨wr.heap.size,1,none⟩=some (.pointer (some ⟨p.b2,p.o2,none⟩))) (hgne:g2≠wr.heap.size) (hzx:wr.heap.size<wx.heap.size)
  (hks:kids kb ko qb qo p.a.ps p.b.ps (i+1)=kids kb ko qb qo p.a.ps p.b.ps i ++ [⟨kb,ko+i * 8,qb,qo+i * 8,x,y⟩])
  (hown5:w5.ownsRow B 191 2 (.slice (some ⟨g3,0,none⟩) (l.length+i+1) cap3) (l.length+i+1) (pcells (l ++ kids kb ko qb qo p.a.ps p.b.ps i) ++ [.pointer (some ⟨kb,ko+i * 8,none⟩),.pointer (some ⟨qb,qo+i * 8,none⟩)]))
  (hgrow5:(wx.alloc o).drew.grownBy w5 (some g2)) (hg5:some g2=some g3∨g3=(wx.alloc o).drew.heap.size) :
  KRel B wr l p kb ko qb qo (.slice (some ⟨g3,0,none⟩) (l.length+i+1) cap3) (.int .i64 ((i:Int)+1)) w5:=by
 have hgB:=(hown.lt g2 rfl).1
 have hc2:Chg (fun k=>k=g2) wx w5:=(((Chg.refl _ wx).alloc o).drew).grown hgrow5 (fun k hk _=>by injection hk with hk;exact hk.symm)
 have hsz:=hc2.size
 refine ⟨i+1,g3,cap3,by simp,hlt,rfl,?_,hch.trans hc2 (fun k _ hk=>by subst hk;exact hgB),(hc2.cell 0 hzx (fun h=>hgne h.symm)).trans f0,(hc2.cell 1 hzx (fun h=>hgne h.symm)).trans f1,?_,by omega⟩
 ·rw [hks,← List.append_assoc,pcells_snoc]
  exact hown5
 ·rcases hg5 with h | h
  ·injection h with h
   omega
  ·have:(wx.alloc o).drew.heap.size=wx.heap.size+1:=by show (wx.alloc o).heap.size=_;simp
   omega
theorem infoPair:(Tryd.prog.info? 191).map (fun i=>(i.zero,i.size,i.bytes))=some (some (.agg #[.pointer none,.pointer none]),2,16):=by kernel_rfl
def SRel (B:Nat) (L:Bool) (W0:World) (n:Nat) (rest:Value) (wr:World):Prop :=
 ∃ (l:List Pr) (g cap:Nat),rest=.slice (some ⟨g,0,none⟩) l.length cap∧wr.ownsRow B 191 2 rest l.length (pcells l)∧(∀ p,p∈l→p.okay B wr)∧alike l=L∧weight l=n∧n≤1000000∧Chg (fun x=>B≤x) W0 wr∧B≤W0.heap.size
set_option maxHeartbeats 4000000 in
set_option maxRecDepth 100000 in
theorem same_syn (a b:V) (w:World) (R Q:Nat→Prop) (hN:szT (erase a)≤1000000) (ha:Laid w R a) (hb:Laid w Q b) :
  Calls Tryd.prog 95 #[nodeAgg a,nodeAgg b] w fun e w'=>e=.returned (.bool (likeT (erase a) (erase b)))∧Below w.heap.size w w':=by
 obtain ⟨i0,hi,hz0,hz1,hz2⟩:=info_parts infoPair
 obtain ⟨sa,sc,hv,hrow⟩:=laid_row' ha
 obtain ⟨ta,tc,hv2,hrow2⟩:=laid_row' hb
 obtain ⟨L,hL⟩ : ∃ L,likeT (erase a) (erase b)=L:=⟨_,rfl⟩
 rw [hL]
 obtain ⟨w2,hw2⟩ : ∃ w2,((w.alloc (.cells #[.int .i64 a.kind,.int .u64 (a.set 0:Nat),.int .u64 (a.set 1:Nat),.int .u64 (a.set 2:Nat),.int .u64 (a.set 3:Nat),.slice sa a.ps.length sc,.int .i64 a.lo,.int .i64 a.hi] 27)).alloc (.cells #[.int .i64 b.kind,.int .u64 (b.set 0:Nat),.int .u64 (b.set 1:Nat),.int .u64 (b.set 2:Nat),.int .u64 (b.set 3:Nat),.slice ta b.ps.length tc,.int .i64 b.lo,.int .i64 b.hi] 27)).alloc (.cells #[.pointer (some ⟨w.heap.size,0,none⟩),.pointer (some ⟨w.heap.size+1,0,none⟩)] 191)=w2:=⟨_,rfl⟩
 have hstart:SRel (w.heap.size+2) L w2 (szT (erase a)) (.slice (some ⟨w.heap.size+2,0,none⟩) 1 1) w2:=by
  have hnda:#[.int .i64 a.kind,.int .u64 (a.set 0:Nat),.int .u64 (a.set 1:Nat),.int .u64 (a.set 2:Nat),.int .u64 (a.set 3:Nat),.slice sa a.ps.length sc,.int .i64 a.lo,.int .i64 a.hi]=(ndc a).toArray:=by unfold ndc;rw [hv]
  have hndb:#[.int .i64 b.kind,.int .u64 (b.set 0:Nat),.int .u64 (b.set 1:Nat),.int .u64 (b.set 2:Nat),.int .u64 (b.set 3:Nat),.slice ta b.ps.length tc,.int .i64 b.lo,.int .i64 b.hi]=(ndc b).toArray:=by unfold ndc;rw [hv2]
  rw [hnda,hndb] at hw2
  have hc:Chg (fun _=>False) w w2:=by rw [← hw2];exact (((Chg.refl _ w).alloc _).alloc _).alloc _
  have e1:w2.heap[w.heap.size]? = some (.cells (ndc a).toArray 27 (0,0)):=by
   rw [← hw2]
   exact (Below.heap_alloc _ _ _ (by simp;omega)).trans ((Below.heap_alloc _ _ _ (by simp)).trans (heap_alloc_new w _))
  have e2:w2.heap[w.heap.size+1]? = some (.cells (ndc b).toArray 27 (0,0)):=by
   have e:=heap_alloc_new (w.alloc (.cells (ndc a).toArray 27)) (.cells (ndc b).toArray 27)
   rw [World.size_alloc] at e
   rw [← hw2]
   exact (Below.heap_alloc _ _ _ (by simp)).trans e
  refine ⟨[⟨w.heap.size,0,w.heap.size+1,0,a,b⟩],w.heap.size+2,1,rfl,?_,?_,?_,?_,hN,Chg.refl _ _,?_⟩
  ·have:=World.ownsRow_lit (e:=191) (size:=2) (base:=w.heap.size+2) ((w.alloc (.cells (ndc a).toArray 27)).alloc (.cells (ndc b).toArray 27)) #[.pointer (some ⟨w.heap.size,0,none⟩),.pointer (some ⟨w.heap.size+1,0,none⟩)] 1 (by simp) (by unfold maxLen;omega) rfl
   rw [hw2,World.size_alloc,World.size_alloc] at this
   exact this
  ·intro p hp
   simp at hp
   subst hp
   refine ⟨⟨by show w.heap.size<_;omega,fun j u hu=>?_,?_⟩,⟨by show w.heap.size+1<_;omega,fun j u hu=>?_,?_⟩⟩
   ·rw [Nat.zero_add,(row_cells e1).1 j,List.getElem?_toArray]
    exact hu
   ·exact ha.keep (fun x hx _=>by omega) hc.size fun x hx _=>hc.block x hx (fun h=>h)
   ·rw [Nat.zero_add,(row_cells e2).1 j,List.getElem?_toArray]
    exact hu
   ·exact hb.keep (fun x hx _=>by omega) hc.size fun x hx _=>hc.block x hx (fun h=>h)
  ·rw [← hL];simp [alike]
  ·rw [weight_one]
  ·rw [← hw2];simp
 have hbw:Below w.heap.size w w2:=by rw [← hw2];exact (((Below.refl _ _).alloc (Nat.le_refl _) _).alloc (by simp) _).alloc (by simp;omega) _
 have HST:=Lib.hid hstart
 have HBW:=Lib.hid hbw
 have HW2:=Lib.hid hw2
 clear hstart hbw hw2 hrow hrow2 hL ha hb
 simp only [nodeAgg]
 rw [hv,hv2]
 go_enter Tryd.func95,Tryd.ntmps95
 go_wp2_with fail
 generalize hg2:w.heap.size+2=B at *
 have hwB:w.heap.size≤B:=by omega
 have HBB:=Lib.hid hwB
 clear hwB
 go_loopw [5] (fun rest wr=>∃ n,SRel B L w2 n rest wr) (fun rest wr=>leastOf (fun n=>SRel B L w2 n rest wr))
 case atStart =>
  rw [HW2.out]
  exact ⟨_,HST.out⟩
 case round =>
  have hls:=(leastOf_spec hrel).1
  obtain ⟨l,g,cap,rfl,hown,hok,hal,hwt,hn6,hch,hB⟩:=hls
  rcases List.eq_nil_or_concat l with rfl | ⟨l,p,rfl⟩
  ·have HL:Hid (L=true):=Lib.hid (by rw [← hal];rfl)
   have HF:=Lib.hid (HBW.out.trans (hch.below (Nat.le_trans HBB.out hB) (fun x hx=>by have:=HBB.out;omega)))
   clear hown hok hal hwt hn6 hch hB hrel
   go_wp2_with fail
   go_ret
   exact ⟨by show Ending.returned (.bool true)=_;rw [HL.out],HF.out⟩
  ·rw [List.concat_eq_append] at *
   rw [List.length_append,List.length_singleton] at hown hrel hwt hn6 ⊢
   rw [pcells_snoc] at hown
   rw [alike_snoc] at hal
   rw [weight_append,weight_one] at hwt
   have hpl:=pcells_length l
   have hlw:=len_weight l
   have hpok:=hok p (by simp)
   have hlok:∀ x,x∈l→x.okay B wr:=fun x hx=>hok x (by simp [hx])
   have hgl:=(hown.lt g rfl).2
   have hg1:=(hown.lt g rfl).1
   have c0:wr.cell? ⟨g,l.length * 2,none⟩=some (.pointer (some ⟨p.b1,p.o1,none⟩)):=by
    rw [hown.cellAt (l.length * 2) (by omega),List.getElem?_append_right (by omega),hpl]
    simp
   have c1:wr.cell? ⟨g,l.length * 2+1,none⟩=some (.pointer (some ⟨p.b2,p.o2,none⟩)):=by
    rw [hown.cellAt (l.length * 2+1) (by omega),List.getElem?_append_right (by omega),hpl]
    rw [show l.length * 2+1 - l.length * 2=1 by omega]
    rfl
   have m1:(0:Int)≤(l.length:Int):=by omega
   have m2:(0:Int)<(l.length:Int)+1:=by omega
   have m3:(l.length:Int)<(l.length:Int)+1:=by omega
   have m4:(l.length:Int)≤1000000:=by omega
   have hcap:(l.length:Int)≤(cap:Int):=by
    rcases hown.2 with ⟨h1,_⟩ | ⟨g',cap',cur,hv,_,_,hle,_⟩
    ·cases h1
    ·simp only [Value.slice.injEq] at hv;omega
   have hpop:=ownsRow_pop (by omega) hown
   have HC:=Lib.hid (And.intro hpop (And.intro hlok (And.intro hal (And.intro hwt (And.intro hn6 (And.intro hch (And.intro hB hg1)))))))
   have HP:=Lib.hid hpok
   have HPL:=Lib.hid hpl
   clear hpop hlok hal hwt hch hB hg1 hown hok hrel hpl hlw hpok
   go_wp2_with fail
   refine (sameAlone_any p.a p.b _ _ _ _ _ (HP.out.1.chg ((Chg.refl _ _).alloc _)).at (HP.out.2.chg ((Chg.refl _ _).alloc _)).at).mono ?_
   rintro e w3 ⟨rfl,nq,rfl⟩
   have q0:((wr.alloc (.cells #[.pointer (some ⟨p.b1,p.o1,none⟩),.pointer (some ⟨p.b2,p.o2,none⟩)] 191)).drewN nq).cell? ⟨wr.heap.size,0,none⟩=some (.pointer (some ⟨p.b1,p.o1,none⟩)):=cell_two_new wr _ _ 191 0 _ rfl
   have q1:((wr.alloc (.cells #[.pointer (some ⟨p.b1,p.o1,none⟩),.pointer (some ⟨p.b2,p.o2,none⟩)] 191)).drewN nq).cell? ⟨wr.heap.size,1,none⟩=some (.pointer (some ⟨p.b2,p.o2,none⟩)):=cell_two_new wr _ _ 191 1 _ rfl
   have hc1:Chg (fun x=>B≤x) wr ((wr.alloc (.cells #[.pointer (some ⟨p.b1,p.o1,none⟩),.pointer (some ⟨p.b2,p.o2,none⟩)] 191)).drewN nq):=((Chg.refl _ _).alloc _).drewN nq
   have hzW:wr.heap.size<((wr.alloc (.cells #[.pointer (some ⟨p.b1,p.o1,none⟩),.pointer (some ⟨p.b2,p.o2,none⟩)] 191)).drewN nq).heap.size:=by show wr.heap.size<(wr.alloc _).heap.size;simp
   have ho1:((wr.alloc (.cells #[.pointer (some ⟨p.b1,p.o1,none⟩),.pointer (some ⟨p.b2,p.o2,none⟩)] 191)).drewN nq).ownsRow B 191 2 (.slice (some ⟨g,0,none⟩) l.length cap) l.length (pcells l):=own_chg (HC.out.1.alloc (.cells #[.pointer (some ⟨p.b1,p.o1,none⟩),.pointer (some ⟨p.b2,p.o2,none⟩)] 191)) ((Chg.refl (fun _=>False) _).drewN nq) (fun _ _ h=>h)
   clear c0 c1
   generalize ((wr.alloc (.cells #[.pointer (some ⟨p.b1,p.o1,none⟩),.pointer (some ⟨p.b2,p.o2,none⟩)] 191)).drewN nq)=W1 at *
   obtain ⟨hpop,hlok,hal,hwt,hn7,hch,hB,hg1⟩:=HC.out
   have hlt2:=likeT_eq p.a p.b
   cases hE:likeV p.a p.b with
   | false =>
    have HL:Hid (L=false):=Lib.hid (by rw [← hal,hlt2,hE];simp)
    have HF:=Lib.hid (HBW.out.trans ((hch.trans hc1 (fun x _ h=>h)).below (Nat.le_trans HBB.out hB) (fun x hx=>by have:=HBB.out;omega)))
    clear hpop hlok hal hwt hn7 hch hB hg1 hlt2 hE ho1 hc1 HC
    go_wp2_with fail
    go_ret
    exact ⟨by show Ending.returned (.bool false)=_;rw [HL.out],HF.out⟩
   | true =>
    have hlen:p.a.ps.length=p.b.ps.length:=by unfold likeV at hE;simp at hE;exact hE.2.2.2.2
    obtain ⟨pa,pc,kb,ko,hpv,hpk⟩:=HP.out.1.kids
    obtain ⟨qa,qc,qb,qo,hqv,hqk⟩:=HP.out.2.kids
    rw [← hlen] at hqv
    have d5:=(HP.out.1.chg hc1).five hpv
    have e5:=(HP.out.2.chg hc1).five hqv
    have hsz:=sz_eq p.a
    have hls:=len_sz p.a.ps
    have hn1:(p.a.ps.length:Int)≤1000000:=by omega
    have hn0:(0:Int)≤(p.a.ps.length:Int):=by omega
    have HK:=Lib.hid (show KRel B wr l p kb ko qb qo (.slice (some ⟨g,0,none⟩) l.length cap) (.int .i64 0) W1 from ⟨0,g,cap,rfl,by omega,rfl,by simpa [kids] using ho1,hc1,q0,q1,by omega,hzW⟩)
    have HX:=Lib.hid (And.intro hlen (And.intro hpk (And.intro hqk (And.intro hlt2 (And.intro hE (And.intro hpv hqv))))))
    clear hpop hlok hal hwt hn7 hch hB hg1 hlt2 hE ho1 hc1 hpk hqk hlen hpv hqv hsz hls
    go_wp2_with fail
    go_loopw [5,36] (fun rest x wx=>KRel B wr l p kb ko qb qo rest x wx) (fun _ x _=>match x with | .int _ z=>p.a.ps.length - z.toNat | _=>0)
    case atStart=>exact HK.out
    case round =>
     obtain ⟨i,g2,cap2,rfl,hin,rfl,hown,hch,f0,f1,hgne,hzx⟩:=hrel
     obtain ⟨hlen,hpk,hqk,hlt2,hE,hpv,hqv⟩:=HX.out
     have e5':=(HP.out.2.chg hch).five hqv
     have d5':=(HP.out.1.chg hch).five hpv
     by_cases hlt:i<p.a.ps.length
     ·have g1:(i:Int)<(p.a.ps.length:Int):=by omega
      obtain ⟨x,hx⟩ : ∃ x,p.a.ps[i]? = some x:=⟨_,List.getElem?_eq_getElem hlt⟩
      obtain ⟨y,hy⟩ : ∃ y,p.b.ps[i]? = some y:=⟨_,List.getElem?_eq_getElem (by omega)⟩
      obtain ⟨rfl,hx2⟩:=hpk i x hx
      obtain ⟨rfl,hy2⟩:=hqk i y hy
      have hks:=kids_succ (b1:=kb) (o1:=ko) (b2:=qb) (o2:=qo) hx hy
      have hBw:B≤wr.heap.size:=by have:=hown.lt g2 rfl;omega
      have HO:=Lib.hid (And.intro hown (And.intro hch (And.intro hgne hks)))
      clear hpk hqk hlt2 hE hpv hqv hlen hx hy hx2 hy2 hown hch hgne hks
      go_wp2_with fail
      go_region_law (refine step_append_lies _ rfl _ _ 192 rfl B 191 i0 _ 2 16 Tryd.underlying192 hi hz0 hz1 hz2 rfl (by decide) (.slice (some ⟨g2,0,none⟩) (l.length+i) cap2) (l.length+i) (pcells (l ++ kids kb ko qb qo p.a.ps p.b.ps i)) rfl (HO.out.1.alloc _).drew ⟨wr.heap.size,0,none⟩ 1 1 [.pointer (some ⟨kb,ko+i * 8,none⟩),.pointer (some ⟨qb,qo+i * 8,none⟩)] rfl rfl (cell_two_new wr _ _ _) (by simp [Value.oneCell']) (by decide) (by unfold maxLen;omega) (by omega) (by simp;omega) _ rfl ?_;intro g3 cap3 w5 hown5 hgrow5 hg5 hlt5;have HO5:=Lib.hid (And.intro hown5 (And.intro hgrow5 (And.intro hg5 hlt5)));clear hown5 hgrow5 hg5 hlt5)
      all_goals
       have hK2:=krel_step hlt HO.out.1 HO.out.2.1 f0 f1 HO.out.2.2.1 hzx HO.out.2.2.2 HO5.out.1 HO5.out.2.1 HO5.out.2.2.1
       have HK2:=Lib.hid hK2
       clear hK2
       go_wp2_with fail
       exact ⟨HK2.out,by simp;omega⟩
     ·have g1:¬ (i:Int)<(p.a.ps.length:Int):=by omega
      have hin2:i=p.a.ps.length:=by omega
      subst hin2
      obtain ⟨hpop,hlok,hal,hwt,hn7,hch0,hB,hg1⟩:=HC.out
      obtain ⟨k1,k2,k3⟩:=kids_facts (b1:=kb) (o1:=ko) (b2:=qb) (o2:=qo) hlen p.a.ps.length (Nat.le_refl _)
      have hkm:=kids_mem hlen (fun i x hx=>(hpk i x hx).2) (fun i x hx=>(hqk i x hx).2) p.a.ps.length (Nat.le_refl _)
      have hsz:=sz_eq p.a
      have hnew:SRel B L w2 (weight (l ++ kids kb ko qb qo p.a.ps p.b.ps p.a.ps.length)) (.slice (some ⟨g2,0,none⟩) (l.length+p.a.ps.length) cap2) wr:=by
       refine ⟨l ++ kids kb ko qb qo p.a.ps p.b.ps p.a.ps.length,g2,cap2,by rw [List.length_append,k1],?_,?_,?_,rfl,?_,hch0.trans hch (fun x _ h=>h),hB⟩
       ·rw [List.length_append,k1];exact hown
       ·intro x hx
        rcases List.mem_append.1 hx with hx | hx
        ·exact (hlok x hx).chg hch
        ·exact (hkm x hx).chg hch
       ·rw [alike_append,k3,← hal,hlt2,hE,Bool.true_and,szs_all (Nat.le_refl _),hlen,szs_all (Nat.le_refl _)]
       ·rw [weight_append,k2,szs_all (Nat.le_refl _)];omega
      have hless:weight (l ++ kids kb ko qb qo p.a.ps p.b.ps p.a.ps.length)+1=weight l+szT (erase p.a):=by rw [weight_append,k2,szs_all (Nat.le_refl _),hsz];omega
      have HNEW:=Lib.hid hnew
      have HLS:=Lib.hid (And.intro hless hwt)
      clear hpop hlok hal hwt hn7 hch0 hB hg1 k1 k2 k3 hkm hsz hnew hless hlt2 hE hpv hqv hpk hqk hown hch hgne hzx f0 f1 e5' d5'
      go_wp2_with fail
      refine ⟨⟨_,HNEW.out⟩,?_⟩
      refine Nat.lt_of_le_of_lt ((leastOf_spec ⟨_,HNEW.out⟩).2 _ HNEW.out) ?_
      have:=HLS.out
      omega
end Go.Proofs.YtbohmcfplgdlpaaDoor
