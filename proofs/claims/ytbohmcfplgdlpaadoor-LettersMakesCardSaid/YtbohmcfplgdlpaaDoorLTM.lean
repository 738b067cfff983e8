/- Of every input the statement LettersMakes returns true, and it reads afterwards as before; the card: what its row lists is tied to the program's text.
   No condition. -/
import Derived.Test.YtbohmcfplgdlpaaDoorLT
import Derived.Test.YtbohmcfplgdlpaaDoorLtSR
import Derived.Test.YtbohmcfplgdlpaaDoorPZ
import Derived.Test.YtbohmcfplgdlpaaDoorN1
import Derived.Test.YtbohmcfplgdlpaaDoorMSame
import Derived.Deep.WholeRow
import Derived.Test.YtbohmcfplgdlpaaDoorLTQ
import Derived.Great.BuildSlice
import Derived.Great.FillDense
import Derived.Test.YtbohmcfplgdlpaaDoorPM
import Derived.Test.YtbohmcfplgdlpaaDoorMRef
import Derived.Test.YtbohmcfplgdlpaaDoorCards
import Derived.Test.YtbohmcfplgdlpaaDoorTie
import Derived.ProofKit
import Derived.LaidMore
import Derived.OpenShut
import Derived.ChangeOld
import Derived.Below
import Derived.SevenTiedAt

/- The walk of the statement LettersMakes: called with two trees it returns true and changes nothing that was there.
   Conditions: the trees lie in memory, their sets are four words below 2^64, and the library's table lies there. -/
namespace Go.Proofs.YtbohmcfplgdlpaaDoor.Lc
open Go.RowKit Go.Maps Go.Shelf
attribute [local go_sem] nodeAgg
theorem wpList_build2 {P:Program} {ops:Array Oper} {rest:List Oper} {o:Oper} {a:Act} {w:World} {Q:Exit→Act→World→Prop} (hg:o.guard=none) (t e:TypeId) (p q:Operand) (ho:o.op=.buildSlice t 2 #[(0,p),(1,q)]) (ca cb:Array Value) (hp:a.eval p=.agg ca) (hq:a.eval q=.agg cb) (s:Nat) (z:Value) (hca:ca.size=s) (hcb:cb.size=s)
  (hu:P.underlying t=some (.slice e)) (hi:(P.info? e).map (fun i=>(i.zero,i.size))=some (some z,s)) (hs:0<s) (hs2:2 * s≤2 ^ 24)
  (h:wpList P ops Q rest (a.put o.dst (.slice (some ⟨w.heap.size,0,none⟩) 2 2)) (w.alloc (.cells (ca ++ cb) e))):wpList P ops Q (o :: rest) a w:=by
 cases hie:P.info? e with
 | none=>simp [hie] at hi
 | some ie =>
  simp only [hie,Option.map_some,Option.some.injEq,Prod.mk.injEq] at hi
  obtain ⟨hz,hsz⟩:=hi
  refine wpList_buildSlice hg t e 2 _ ho (ca ++ cb) ie z hu hie hz (by rw [hsz];omega) (by rw [hsz];omega) ?_ h
  have:=Go.Great.fill_whole (s:=s) hs [.agg ca,.agg cb] ((Array.range (2 * s)).map (z.cells[· % z.cells.size]!)) (fun v hv=>by
   rcases List.mem_cons.1 hv with rfl | hv
   ·exact hca
   ·rw [List.mem_singleton.1 hv];exact hcb) (by simp)
  rw [hsz]
  have e1:(#[(0,p),(1,q)].map fun (i,x)=>(i,a.eval x)).toList=(([Value.agg ca,.agg cb].zipIdx 0).map fun x=>(x.2,x.1)):=by simp [hp,hq]
  rw [e1,this]
  congr 1
  simp [Value.cells]
theorem row4 {w:World} {g n i:Nat} {L:Nat→Nat→Nat} (h:ClassRow w (some ⟨g,0,none⟩) n L) (hi:i<n):w.cell? ⟨g,i * 4,none⟩=some (.int .u64 (L i 0:Nat))∧w.cell? ⟨g,i * 4+1,none⟩=some (.int .u64 (L i 1:Nat))∧w.cell? ⟨g,i * 4+2,none⟩=some (.int .u64 (L i 2:Nat))∧w.cell? ⟨g,i * 4+3,none⟩=some (.int .u64 (L i 3:Nat)):=by
 obtain ⟨b,off,e,_,hc⟩:=h (by omega)
 simp only [Option.some.injEq,Addr.mk.injEq,and_true] at e
 obtain ⟨rfl,rfl⟩:=e
 have c:=fun j hj=>hc i hi j hj
 simp only [Nat.zero_add] at c
 exact ⟨c 0 (by decide),c 1 (by decide),c 2 (by decide),c 3 (by decide)⟩
theorem infoTA:(Tryd.prog.info? 38).map (fun i=>(i.zero,i.size))=some (some (.agg #[.int .i64 0,.int .u64 0,.int .u64 0,.int .u64 0,.int .u64 0,.slice none 0 0,.int .i64 0,.int .i64 0,.slice none 0 0,.slice none 0 0,.slice none 0 0,.slice none 0 0,.slice none 0 0,.slice none 0 0,.bool false]),15):=by kernel_rfl
theorem sizeTA:(Tryd.prog.info? 38).map (·.size)=some 15:=by kernel_rfl
def AuO (u:T) (w:World) (e:Ending) (w':World):Prop:=∃ (ca:Array Value) (ok:Bool),e=.returned (.tuple #[.agg ca,.bool ok])∧ca.size=15∧ca.all (·.oneCell')=true∧(ok=true→∃ (B:Nat) (a:Au) (m:PM) (L:Nat→List Mv),AuG B w' u a m L∧ca=#[.int .i64 a.k,.int .u64 (a.s0:Nat),.int .u64 (a.s1:Nat),.int .u64 (a.s2:Nat),.int .u64 (a.s3:Nat),.slice a.ta a.tn a.tc,.int .i64 a.lo,.int .i64 a.hi,.slice a.sA a.n a.sC,.slice a.cA a.cN a.cC,.slice (some ⟨a.ga,0,none⟩) a.n a.aC,.slice a.fA a.fN a.fC,.slice (some ⟨a.mb,0,none⟩) a.n a.n,.slice (some ⟨a.lb,0,none⟩) a.n a.n,.bool a.em])∧Below w.heap.size w w'
theorem auO_any (t:V) (w:World) (R:Nat→Prop) (ht:Laid w R t) (hT:TabE w) (hTl:tabE<w.heap.size):Calls Tryd.prog 5 #[nodeAgg t] w (AuO (erase t) w) :=
 (auto_any t w R ht hT hTl).mono fun e w' ⟨h,hb⟩=>by
  rcases h with ⟨rfl,_⟩ | ⟨B,a,m,L,hG,rfl⟩
  ·exact ⟨_,_,rfl,rfl,by simp [Value.oneCell'],fun h=>(by cases h),hb⟩
  ·exact ⟨_,_,rfl,rfl,by simp [Value.oneCell'],fun _=>⟨B,a,m,L,hG,rfl⟩,hb⟩
set_option maxHeartbeats 8000000 in
set_option maxRecDepth 100000 in
theorem makes13_walk (s t:V) (w:World) (R Q:Nat→Prop) (hs:Laid w R s) (ht:Laid w Q t) (hgs:Good s) (hgt:Good t) (hT:TabE w) (hTl:tabE<w.heap.size) :
  Calls Tryd.prog 3 #[nodeAgg s,nodeAgg t] w fun e w'=>e=.returned (.bool true)∧Below w.heap.size w w':=by
 obtain ⟨sa,sc,hva,_⟩:=laid_row' hs
 obtain ⟨ta,tc,hvb,_⟩:=laid_row' ht
 obtain ⟨sn,hsn⟩ : ∃ sn,sn=s.ps.length:=⟨_,rfl⟩
 obtain ⟨tn,htn⟩ : ∃ tn,tn=t.ps.length:=⟨_,rfl⟩
 rw [← hsn] at hva
 rw [← htn] at hvb
 obtain ⟨wA,hwA,hbA,hltA,hbx⟩:=box_new w s (.slice sa sn sc)
 obtain ⟨wB,hwB,hbB,hltB,hby⟩:=box_new wA t (.slice ta tn tc)
 have HTT:=Lib.hid (fun (W:World) (h:Below w.heap.size w W)=>show TabE W∧tabE<W.heap.size from ⟨tab_below hT hTl h,Nat.lt_of_lt_of_le hTl h.size⟩)
 have HAa:=Lib.hid (fun (W:World) (h:Below w.heap.size w W)=>show Calls Tryd.prog 5 #[.agg #[.int .i64 s.kind,.int .u64 (s.set 0:Nat),.int .u64 (s.set 1:Nat),.int .u64 (s.set 2:Nat),.int .u64 (s.set 3:Nat),.slice sa sn sc,.int .i64 s.lo,.int .i64 s.hi]] W (AuO (erase s) W) from by
  have:=auO_any s W R (laid_low hs h) (HTT.out W h).1 (HTT.out W h).2
  rw [nodeAgg_v hva] at this
  exact this)
 have HAb:=Lib.hid (fun (W:World) (h:Below w.heap.size w W)=>show Calls Tryd.prog 5 #[.agg #[.int .i64 t.kind,.int .u64 (t.set 0:Nat),.int .u64 (t.set 1:Nat),.int .u64 (t.set 2:Nat),.int .u64 (t.set 3:Nat),.slice ta tn tc,.int .i64 t.lo,.int .i64 t.hi]] W (AuO (erase t) W) from by
  have:=auO_any t W Q (laid_low ht h) (HTT.out W h).1 (HTT.out W h).2
  rw [nodeAgg_v hvb] at this
  exact this)
 have HGD:=Lib.hid (And.intro hgs hgt)
 rw [nodeAgg_v hva,nodeAgg_v hvb]
 have HAW:=Lib.hid (fun (W:World) (h:Below w.heap.size w W)=>awake13_any W)
 have HX:=Lib.hid (fun (W:World) (h:Below wB.heap.size wB W)=>And.intro (hbx W (bhop hbB h)) (hby W h))
 have HB0:=Lib.hid (bhop hbA hbB)
 clear hs ht hgs hgt hva hvb hsn htn hT hTl hbx hby hbA hbB hltA hltB
 go_enter Tryd.func3,Tryd.ntmps3
 go_upto_region 1 with fail
 clear hwA hwB
 go_wp2_with fail
 go_at_call 4
 refine (HAW.out _ HB0.out).mono ?_
 rintro e w2 ⟨rfl,hb2⟩
 have HB2:=Lib.hid (bhop HB0.out hb2)
 have HC2:=Lib.hid hb2
 clear hb2
 obtain ⟨⟨x0,x1,x2,x3,x4,x5,x6,x7⟩,y0,y1,y2,y3,y4,y5,y6,y7⟩:=HX.out w2 HC2.out
 go_wp2_with fail
 go_at_call 5
 refine Calls.mono (HAa.out w2 HB2.out) ?_
 rintro e w3 ⟨ca,oka,rfl,sza,one,hGa,hb3⟩
 obtain ⟨w4,hw4⟩ : ∃ w4,w4=w3.alloc (.cells ca 38):=⟨_,rfl⟩
 have hb4:Below w3.heap.size w3 w4:=by rw [hw4];exact (Below.refl _ _).alloc (Nat.le_refl _) _
 have hh4:w4.heap[w3.heap.size]? = some (.cells ca 38 (0,0)):=by rw [hw4];exact heap_alloc_new w3 _
 have HWE:=Lib.hid hw4
 have HB4:=Lib.hid (And.intro (bhop (HB2.out) (bhop hb3 hb4)) (bhop (HC2.out) (bhop hb3 hb4)))
 have HG4:=Lib.hid (And.intro (show Below w2.heap.size w2 w4 from (bhop hb3 hb4)) (And.intro (Array.getElem?_eq_some_iff.1 hh4).1 (And.intro hh4 (And.intro hb4 (And.intro sza hGa)))))
 clear hw4 hb4 hh4 hb3 hGa x0 x1 x2 x3 x4 x5 x6 x7 y0 y1 y2 y3 y4 y5 y6 y7
 go_upto_region 4 with (refine wpList_store_row (by rfl) 38 (.tmp 5) (.tmp 25) (by rfl) w3.heap.size ca (by rfl) (by rfl) 38 #[.int .i64 0,.int .u64 0,.int .u64 0,.int .u64 0,.int .u64 0,.slice none 0 0,.int .i64 0,.int .i64 0,.slice none 0 0,.slice none 0 0,.slice none 0 0,.slice none 0 0,.slice none 0 0,.slice none 0 0,.bool false] (heap_alloc_new w3 _) (by rw [sza];exact sizeTA) (by rw [sza];rfl) one ?_;rw [World.setRow_alloc_new])
 rw [← HWE.out]
 clear HWE sza one
 obtain ⟨⟨x0,x1,x2,x3,x4,x5,x6,x7⟩,y0,y1,y2,y3,y4,y5,y6,y7⟩:=HX.out w4 HB4.out.2
 go_wp2_with fail
 go_at_call 5
 refine Calls.mono (HAb.out w4 HB4.out.1) ?_
 rintro e w5 ⟨cb,okb,rfl,szb,onb,hGb,hb5⟩
 obtain ⟨w6,hw4⟩ : ∃ w4,w4=w5.alloc (.cells cb 38):=⟨_,rfl⟩
 have hb4:Below w5.heap.size w5 w6:=by rw [hw4];exact (Below.refl _ _).alloc (Nat.le_refl _) _
 have hh4:w6.heap[w5.heap.size]? = some (.cells cb 38 (0,0)):=by rw [hw4];exact heap_alloc_new w5 _
 have HWE:=Lib.hid hw4
 have HB6:=Lib.hid (And.intro (bhop (HB4.out.1) (bhop hb5 hb4)) (bhop (HB4.out.2) (bhop hb5 hb4)))
 have HG6:=Lib.hid (And.intro (show Below w4.heap.size w4 w6 from (bhop hb5 hb4)) (And.intro (Array.getElem?_eq_some_iff.1 hh4).1 (And.intro hh4 (And.intro hb4 (And.intro szb hGb)))))
 clear hw4 hb4 hh4 hb5 hGb x0 x1 x2 x3 x4 x5 x6 x7 y0 y1 y2 y3 y4 y5 y6 y7
 go_upto_region 5 with (refine wpList_store_row (by rfl) 38 (.tmp 7) (.tmp 30) (by rfl) w5.heap.size cb (by rfl) (by rfl) 38 #[.int .i64 0,.int .u64 0,.int .u64 0,.int .u64 0,.int .u64 0,.slice none 0 0,.int .i64 0,.int .i64 0,.slice none 0 0,.slice none 0 0,.slice none 0 0,.slice none 0 0,.slice none 0 0,.slice none 0 0,.bool false] (heap_alloc_new w5 _) (by rw [szb];exact sizeTA) (by rw [szb];rfl) onb ?_;rw [World.setRow_alloc_new])
 rw [← HWE.out]
 clear HWE szb onb
 have HBb4:=Lib.hid (show Below w4.heap.size w4 w6 from HG6.out.1)
 have HBL:=Lib.hid (fun (W:World) (h:Below w6.heap.size w6 W)=>And.intro ((bhop HBb4.out h).block w3.heap.size HG4.out.2.1 |>.trans HG4.out.2.2.1) (h.block w5.heap.size HG6.out.2.1 |>.trans HG6.out.2.2.1))
 cases oka with
 | false =>
  go_wp2_with fail
  go_ret
  exact ⟨rfl,HB6.out.1⟩
 | true =>
 cases okb with
 | false =>
  go_wp2_with fail
  go_ret
  exact ⟨rfl,HB6.out.1⟩
 | true =>
 obtain ⟨Ba,xa,ma,La,ga,ea⟩:=HG4.out.2.2.2.2.2 rfl
 obtain ⟨Bb,xb,mb,Lb,gb,eb⟩:=HG6.out.2.2.2.2.2 rfl
 have sza:ca.size=15:=HG4.out.2.2.2.2.1
 have szb:cb.size=15:=HG6.out.2.2.2.2.1
 have hCa:=map_cl HGD.out.1 ga.map
 have hCb:=map_cl HGD.out.2 gb.map
 obtain ⟨w7,hw7⟩ : ∃ w7,w7=w6.alloc (.cells (ca ++ cb) 38):=⟨_,rfl⟩
 have hb7:Below w6.heap.size w6 w7:=by rw [hw7];exact (Below.refl _ _).alloc (Nat.le_refl _) _
 have hh7:w7.heap[w6.heap.size]? = some (.cells (ca ++ cb) 38 (0,0)):=by rw [hw7];exact heap_alloc_new w6 _
 have ga7:=ga.au.below (bhop HG4.out.2.2.2.1 (bhop HBb4.out hb7))
 have gb7:=gb.au.below (bhop HG6.out.2.2.2.1 hb7)
 have hea:ca.toList=auC xa:=by rw [ea];rfl
 have heb:cb.toList=auC xb:=by rw [eb];rfl
 have HAUS:AusR w7 (some ⟨w6.heap.size,0,none⟩) [(xa,ma),(xb,mb)]:=fun i x hx=>by
  refine ⟨w6.heap.size,rfl,(Array.getElem?_eq_some_iff.1 hh7).1,fun j v hv=>?_,?_⟩
  ·rw [(row_cells hh7).1]
   match i,hx with
   | 0,hx =>
    obtain rfl:(xa,ma)=x:=by simpa using hx
    have hv':(auC xa)[j]? = some v:=hv
    have hj:j<15:=by have:=(List.getElem?_eq_some_iff.1 hv').1;rw [← hea,Array.length_toList,sza] at this;exact this
    rw [Nat.zero_mul,Nat.zero_add,Array.getElem?_append_left (by omega),← Array.getElem?_toList,hea]
    exact hv'
   | 1,hx =>
    obtain rfl:(xb,mb)=x:=by simpa using hx
    have hv':(auC xb)[j]? = some v:=hv
    rw [Array.getElem?_append_right (by omega),sza,show 1 * 15+j - 15=j by omega,← Array.getElem?_toList,heb]
    exact hv'
   | i+2,hx=>simp at hx
  ·match i,hx with
   | 0,hx =>
    obtain rfl:(xa,ma)=x:=by simpa using hx
    exact ⟨hCa,_,_,_,ga7⟩
   | 1,hx =>
    obtain rfl:(xb,mb)=x:=by simpa using hx
    exact ⟨hCb,_,_,_,gb7⟩
   | i+2,hx=>simp at hx
 have HAUW:=Lib.hid (fun (W:World) (h:Below w7.heap.size w7 W)=>AusR.below HAUS h)
 have HM:=Lib.hid (make_any w7 (some ⟨w6.heap.size,0,none⟩) [(xa,ma),(xb,mb)] 2 HAUS (by simp))
 obtain ⟨xs,hxs⟩ : ∃ xs,xs=[(xa,ma),(xb,mb)]:=⟨_,rfl⟩
 have hx2:xs.length=2:=by rw [hxs];rfl
 rw [← hxs] at HM HAUW
 have hm:=HM.out
 rw [hx2] at hm
 clear HM
 have HM:=Lib.hid hm
 clear hm
 have HS9:=Lib.hid (fun (W:World) (h:Below w7.heap.size w7 W)=>show Calls Tryd.prog 8 #[.slice (some ⟨w6.heap.size,0,none⟩) 2 2] W (fun e w'=>∃ A c,e=.returned (.slice A (setsL xs).length c)∧ClassRow w' A (setsL xs).length (fun t=>(setsL xs).getD t zeros)∧Below W.heap.size W w') from by
  have:=sets13_all W w6.heap.size 2 xs (HAUW.out W h) (by omega)
  rw [hx2] at this
  exact this)
 have HP9:=Lib.hid (fun (W:World) (h:Below w7.heap.size w7 W) (b:Nat) (hb:b<256)=>show Calls Tryd.prog 11 #[.slice (some ⟨w6.heap.size,0,none⟩) 2 2,.int .i64 b] W (fun e w'=>e=.returned (.int .i64 ((fst (AlR (setsL xs)) b:Nat):Int))∧Below W.heap.size W w') from by
  have:=plain13_all W w6.heap.size 2 xs (HAUW.out W h) (by omega) b hb
  rw [hx2] at this
  exact this)
 have hfew:=setsL_few (w:=w) (A:=none) (aus_few (HAUW.out w7 (Below.refl _ _)))
 obtain ⟨n,hn⟩ : ∃ n,n=(setsL xs).length:=⟨_,rfl⟩
 have HR9:=Lib.hid (fun (W:World) (A:Option Addr) (c:Nat) (hrow:ClassRow W A n (fun t=>(setsL xs).getD t zeros))=>show Calls Tryd.prog 7 #[.slice A n c] W (fun e w'=>∃ g cp,e=.returned (.slice (some ⟨g,0,none⟩) (news (AlR (setsL xs)) 256) cp)∧PartsAt w' g (news (AlR (setsL xs)) 256) (partOf (AlR (setsL xs)))∧Below W.heap.size W w') from by
  have:=ref_any A n c _ W hrow (fun t=>cl_setsL (HAUW.out w7 (Below.refl _ _)) t) (by omega)
  rw [show rel zeros (fun t=>(setsL xs).getD t zeros) n=AlR (setsL xs) from funext fun p=>funext fun q=>rel_alR (S:=setsL xs) hn.symm (fun t _=>rfl) p q] at this
  exact this)
 have hal:=alike_AlR (setsL xs)
 obtain ⟨r,hr⟩ : ∃ r,r=AlR (setsL xs):=⟨_,rfl⟩
 rw [← hr] at HM HP9 HR9 hal
 rw [← hn] at HS9
 obtain ⟨LL,hLL⟩ : ∃ LL,LL=fun t=>(setsL xs).getD t zeros:=⟨_,rfl⟩
 rw [← hLL] at HS9 HR9
 have HAL:=Lib.hid (And.intro hal (show ∃ M,M=news r 256 from ⟨_,rfl⟩))
 have HB7:=Lib.hid hb7
 have HSZ:=Lib.hid (And.intro (show (Tryd.prog.info? 38).map (·.size)=some ca.size by rw [sza];exact sizeTA) (And.intro (show (Tryd.prog.info? 38).map (·.size)=some cb.size by rw [szb];exact sizeTA) (And.intro sza szb)))
 have HW7:=Lib.hid hw7
 clear hCa hCb hw7 hb7 hh7 ga7 gb7 hea heb HAUS hal hr ga gb ea eb sza szb hfew hn hx2 hxs hLL
 have hA6:=(HBL.out w6 (Below.refl _ _)).1
 have hB6:=(HBL.out w6 (Below.refl _ _)).2
 go_upto_region 7 with fail
 go_wp2_with (first
  | (refine wpList_load_row (by rfl) 38 (.tmp 5) (by rfl) w3.heap.size (by rfl) 38 ca (0,0) _ hA6 Tryd.underlying38 rfl HSZ.out.1 ?_)
  | (refine wpList_load_row (by rfl) 38 (.tmp 7) (by rfl) w5.heap.size (by rfl) 38 cb (0,0) _ hB6 Tryd.underlying38 rfl HSZ.out.2.1 ?_)
  | (refine wpList_build2 (by rfl) 41 38 (.tmp 38) (.tmp 39) (by rfl) ca cb (by rfl) (by rfl) 15 _ HSZ.out.2.2.1 HSZ.out.2.2.2 Tryd.underlying41 infoTA (by omega) (by omega) ?_;rw [← HW7.out]))
 go_at_call 6
 refine Calls.mono HM.out ?_
 rintro e w8 ⟨g,rfl,hrow8,hb8⟩
 obtain ⟨M,hM⟩:=HAL.out.2
 rw [← hM] at hrow8 ⊢
 have hzero:=(zero_of_info infoLt).1
 obtain ⟨c0,hc0⟩ : ∃ c0,c0=ltA (.slice none 0 0) zeros:=⟨_,rfl⟩
 rw [← hc0] at hzero
 have hs0:c0.size=257:=by rw [hc0];exact ltA_size _ _
 obtain ⟨cx,hcx⟩ : ∃ cx,cx=ltA (.slice (some ⟨g,0,none⟩) M M) (nm r):=⟨_,rfl⟩
 have hs2:cx.size=257:=by rw [hcx];exact ltA_size _ _
 have ho2:cx.all (·.oneCell')=true:=by rw [hcx];exact ltA_one rfl _
 have hx:LtrB (w8.alloc (.cells cx 44)) w8.heap.size (.slice (some ⟨g,0,none⟩) M M) (nm r):=by rw [hcx];exact heap_alloc_new w8 _
 have HCX:=Lib.hid hcx
 rw [← hcx]
 obtain ⟨w9,hw9⟩ : ∃ w9,w9=w8.alloc (.cells cx 44):=⟨_,rfl⟩
 have hb9:Below w8.heap.size w8 w9:=by rw [hw9];exact (Below.refl _ _).alloc (Nat.le_refl _) _
 rw [← hw9] at hx
 have HWE:=Lib.hid hw9
 have H9:=Lib.hid (And.intro (show Below w7.heap.size w7 w9 from bhop hb8 hb9) (And.intro hx (hrow8.below hb9)))
 have HMM:=Lib.hid hM
 clear hw9 hb9 hx hrow8 hb8 hcx hc0 hM hA6 hB6
 go_upto_region 9 with (refine wpList_store_row (by rfl) 44 (.tmp 10) (.tmp 42) (by rfl) w8.heap.size cx (by rfl) (by rfl) 44 c0 (heap_alloc_new w8 _) (by rw [hs2];exact sizeLt) (by rw [hs0,hs2]) ho2 ?_;rw [World.setRow_alloc_new])
 rw [← HWE.out]
 have HS2:=Lib.hid hs2
 clear HWE ho2 hs0 hzero hs2
 have HX9:=Lib.hid (fun (W:World) (h:Below w9.heap.size w9 W)=>And.intro (show LtrB W w8.heap.size (.slice (some ⟨g,0,none⟩) M M) (nm r) from H9.out.2.1.below h) (H9.out.2.2.below h))
 go_wp2_with fail
 go_at_call 8
 refine Calls.mono (HS9.out w9 H9.out.1) ?_
 rintro e w10 ⟨As,cs,rfl,hrow10,hb10⟩
 have HR10:=Lib.hid (HR9.out w10 As cs hrow10)
 have HB10:=Lib.hid hb10
 clear hrow10 hb10
 go_wp2_with fail
 go_at_call 7
 refine Calls.mono HR10.out ?_
 rintro e w11 ⟨wb,wc,rfl,hparts,hb11⟩
 rw [← HMM.out] at hparts ⊢
 have HX11:=Lib.hid (fun (W:World) (h:Below w11.heap.size w11 W)=>HX9.out W (bhop HB10.out (bhop hb11 h)))
 have HW11:=Lib.hid (fun (W:World) (h:Below w11.heap.size w11 W)=>(parts_row hparts).below h)
 have HB11:=Lib.hid (show Below w7.heap.size w7 w11 from bhop H9.out.1 (bhop HB10.out hb11))
 clear hparts hb11
 have e0:=(HX11.out w11 (Below.refl _ _)).1.sv
 have HS5:=Lib.hid (show (Tryd.prog.info? 44).map (·.size)=some cx.size by rw [HS2.out];exact sizeLt)
 have HH:=Lib.hid (fun (W:World) (h:Below w11.heap.size w11 W)=>show W.heap[w8.heap.size]? = some (.cells cx 44 (0,0)) by rw [HCX.out];exact (HX11.out W h).1)
 go_wp2_with fail
 clear e0
 go_loopw [12] (fun v12 wr=>∃ i:Nat,v12=.int .i64 i∧i≤M∧Below w11.heap.size w11 wr) (fun v12 _=>match v12 with | .int _ z=>M - z.toNat | _=>0)
 case atStart=>exact ⟨0,rfl,Nat.zero_le _,Below.refl _ _⟩
 case round =>
  obtain ⟨i,rfl,hi1,hbw⟩:=hrel
  by_cases him:i<M
  ·have s1:(0:Int)≤(i:Int):=by omega
   have s2:(i:Int)<(M:Int):=by omega
   have s3:((i:Int)).toNat=i:=by omega
   have hM256:M≤256:=by rw [HMM.out];exact news_le 256
   have hw1:IntKind.i64.wrap ((i:Int)+1)=((i+1:Nat):Int):=by rw [IntKind.wrap_i64];omega
   obtain ⟨b,hb256,hfb,hnb⟩:=byte_hit (r:=r) (i:=i) (by rw [← HMM.out];exact him)
   have HBY:=Lib.hid (byte_any wr r g M HAL.out.1 HMM.out (HX11.out wr hbw).2 b hb256 hfb)
   rw [hnb,← HCX.out] at HBY
   have wbb:IntKind.i64.wrap (b:Int)=(b:Int):=by rw [IntKind.wrap_i64];omega
   have hL:=HH.out wr hbw
   have HI:=Lib.hid (And.intro hbw (And.intro him (And.intro hb256 (And.intro hfb (And.intro hnb hM256)))))
   clear hbw hi1 him hb256 hfb hnb hM256
   go_wp2_with (refine wpList_load_row (by rfl) 44 (.tmp 10) (by rfl) w8.heap.size (by rfl) 44 cx (0,0) _ hL Tryd.underlying44 rfl HS5.out ?_)
   go_at_call 9
   refine HBY.out.mono ?_
   rintro e w12 ⟨rfl,hb12⟩
   have HB12:=Lib.hid (bhop HI.out.1 hb12)
   clear hb12 hL
   go_upto_region 16 with fail
   refine regLm16 (partOf r i) w8.heap.size w6.heap.size g wb M wc i b _ _ _ _ _ _ _ _ _ _ _ _ _ _ _ _ _ _ _ _ _ _ _ _ _ _ _ _ _ _ _ _ _ _ _ _ _ _ _ _ _ _ _ _ _ _ _ _ _ _ _ _ _ _ _ _ _ _ _ _ _ _ _ _ _ _ _ _ _ _ _ _ _ _ _ _ _ _ _ _ _ _ _ _ _ _ _ _ _ _ _ _ _ _ _ _ _ _ _ _ _ _ _ _ _ _ _ _ _ _ _ _ _ _ _ _ _ _ _ _ _ _ _ _ _ _ _ _ _ _ _ _ _ _ _ _ _ _ _ _ w12 (fun W h=>(HX11.out W (bhop HB12.out h)).1.sv) (fun W h=>row4 (HX11.out W (bhop HB12.out h)).2 HI.out.2.1) (fun W h=>row4 (HW11.out W (bhop HB12.out h)) HI.out.2.1) s1 s2 s3 wbb
    (fun W h=>by
     have:=rhas_any (partOf r i) b W (Cl_partOf r i) HI.out.2.2.1
     rw [has_partOf,HI.out.2.2.2.2.1,beq_self_eq_true] at this
     exact this)
    (fun W h=>by
     have:=HP9.out W (bhop HB11.out (bhop HB12.out h)) b HI.out.2.2.1
     rw [HI.out.2.2.2.1] at this
     exact this)
    (fun W=>equal_self _ W) _ ?_
   intros
   rename_i w20 hb20
   have HB20:=Lib.hid (bhop HB12.out hb20)
   clear hb20
   go_wp2_with fail
   go_roundw
   case rel=>exact ⟨i+1,by push_cast;rfl,HI.out.2.1,HB20.out⟩
   case measure=>have:=HI.out.2.1;simp;omega
  ·have s2:¬ (i:Int)<(M:Int):=by omega
   have HE:=Lib.hid hbw
   clear hbw hi1 him
   go_wp2_with fail
   go_loopw [15] (fun v15 wr=>∃ i:Nat,v15=.int .i64 i∧i≤256∧Below w11.heap.size w11 wr) (fun v15 _=>match v15 with | .int _ z=>256 - z.toNat | _=>0)
   case atStart=>exact ⟨0,rfl,Nat.zero_le _,HE.out⟩
   case round =>
    obtain ⟨j,rfl,hj1,hbj⟩:=hrel
    by_cases hjm:j<256
    ·have t1:(0:Int)≤(j:Int):=by omega
     have t2:(j:Int)<256:=by omega
     have t3:((j:Int)).toNat=j:=by omega
     have hw2:IntKind.i64.wrap ((j:Int)+1)=((j+1:Nat):Int):=by rw [IntKind.wrap_i64];omega
     obtain ⟨q,hq⟩ : ∃ q,q=nm r j:=⟨_,rfl⟩
     have hqM:q<M:=by rw [hq,HMM.out];exact nm_lt HAL.out.1 hjm
     have q1:¬ (q:Int)<0:=by omega
     have q2:¬ (M:Int)≤(q:Int):=by omega
     have q3:(0:Int)≤(q:Int):=by omega
     have q4:(q:Int)<(M:Int):=by omega
     have q5:((q:Int)).toNat=q:=by omega
     have e1:=(HX11.out wr hbj).1.of hjm
     rw [← hq] at e1
     obtain ⟨c0,c1,c2,c3⟩:=row4 (HW11.out wr hbj) hqM
     have HC:=Lib.hid (show Calls Tryd.prog 10 #[.agg #[.int .u64 (partOf r q 0:Nat),.int .u64 (partOf r q 1:Nat),.int .u64 (partOf r q 2:Nat),.int .u64 (partOf r q 3:Nat)],.int .i64 j] wr (fun e w'=>e=.returned (.bool true)∧Below wr.heap.size wr w') from by
      have:=rhas_any (partOf r q) j wr (Cl_partOf r q) hjm
      rw [has_partOf,← hq,beq_self_eq_true] at this
      exact this)
     have HI:=Lib.hid (And.intro hbj hjm)
     clear hbj hj1 hjm hq hqM
     go_wp2_with fail
     go_at_call 10
     refine HC.out.mono ?_
     rintro e w12 ⟨rfl,hb12⟩
     have HB12:=Lib.hid (bhop HI.out.1 hb12)
     clear hb12 e1 c0 c1 c2 c3
     go_wp2_with fail
     go_roundw
     case rel=>exact ⟨j+1,by push_cast;rfl,HI.out.2,HB12.out⟩
     case measure=>have:=HI.out.2;simp;omega
    ·have t2:¬ (j:Int)<256:=by omega
     have HF:=Lib.hid hbj
     have hL:=HH.out wr hbj
     have HN1:=Lib.hid (byte_no wr (nm r) g M (-1) (.inl (by decide)))
     rw [← HCX.out] at HN1
     clear hbj hj1 hjm
     go_wp2_with (refine wpList_load_row (by rfl) 44 (.tmp 10) (by rfl) w8.heap.size (by rfl) 44 cx (0,0) _ hL Tryd.underlying44 rfl HS5.out ?_)
     go_at_call 9
     refine HN1.out.mono ?_
     rintro e w13 ⟨rfl,hb13⟩
     have HB13:=Lib.hid (bhop HF.out hb13)
     have HN2:=Lib.hid (byte_no w13 (nm r) g M (M:Int) (.inr (Int.le_refl _)))
     rw [← HCX.out] at HN2
     have hL2:=HH.out w13 HB13.out
     clear hb13 hL
     go_wp2_with (refine wpList_load_row (by rfl) 44 (.tmp 10) (by rfl) w8.heap.size (by rfl) 44 cx (0,0) _ hL2 Tryd.underlying44 rfl HS5.out ?_)
     go_at_call 9
     refine HN2.out.mono ?_
     rintro e w14 ⟨rfl,hb14⟩
     have HB14:=Lib.hid (bhop HB6.out.1 (bhop HB7.out (bhop HB11.out (bhop HB13.out hb14))))
     clear hb14 hL2
     go_wp2_with fail
     go_ret
     exact ⟨rfl,HB14.out⟩
end Go.Proofs.YtbohmcfplgdlpaaDoor.Lc

/- Of every input the statement LettersMakes returns true, and it reads afterwards as before; the card: what its row lists is tied to the program's text.
   No condition. -/
namespace Go.Proofs.YtbohmcfplgdlpaaDoor
open Go.ChangeShapes Go.WideShapes Go.ChangeAt Go.RowKit
theorem lettersMakesOwn:ownKnob Tryd.prog.godebug=none:=by kernel_rfl
theorem lettersMakesLaidOut:laidOutB Tryd.prog=true:=by kernel_rfl
theorem lettersMakesAgg (t:V):nodeAgg t=.agg (ndc t).toArray:=rfl
theorem lettersMakesDoor (os:Os) (args:Array Value):laidMetH Tryd.prog Rows.lettersMakesRow.laid ((World.doorLaid Tryd.prog 400 os).forCall (fun _ _=>0) ⟨#[],args,[]⟩).memory :=
 laidMetH_of_parts3 (fuel:=8) (laidMet_of_run' 8 (by kernel_rfl) (by kernel_rfl)) (by kernel_rfl) (by kernel_rfl)
set_option maxRecDepth 100000 in
theorem lettersMakes_lifted (os:Os) (started:os.Started) (H:Type) (enc:TypeId×Value→H) :
  ReturnsInHanded {} Tryd.checked os 3 .any (fun w args=>(Rows.lettersMakesSpec.pre enc Tryd.prog Tryd.f3 Rows.lettersMakesRow.domain false w args∧laidMetH Tryd.prog Rows.lettersMakesRow.laid w)∧sizedMet enc Tryd.prog Tryd.f3 (OpenSpec.ofChange Rows.lettersMakesSpec) false w args)
   (Rows.lettersMakesSpec.post enc Tryd.prog Tryd.f3 false true false false):=by
 refine returnsInHanded_of_change_and (C:=Tryd.checked) (X:=fun w _=>laidMetH Tryd.prog Rows.lettersMakesRow.laid w) (fun _ _ _ hh h=>h.of_heap hh) lettersMakesOwn started (by kernel_rfl) Tryd.func3
  (ChangeSpec.witness_shaped (enc:=enc) (C:=Tryd.checked) (os:=os) (X:=fun w _=>laidMetH Tryd.prog Rows.lettersMakesRow.laid w) false (World.doorLaid Tryd.prog 400 os) #[.agg #[.int .i64 0,.int .u64 0,.int .u64 0,.int .u64 0,.int .u64 0,.slice none 0 0,.int .i64 0,.int .i64 0],.agg #[.int .i64 0,.int .u64 0,.int .u64 0,.int .u64 0,.int .u64 0,.slice none 0 0,.int .i64 0,.int .i64 0]] 8 rfl (World.shaped_of_RefB (by kernel_rfl) (by kernel_rfl)) (by kernel_rfl) (by kernel_rfl) (by kernel_rfl) (lettersMakesDoor os _)) ?_
 intro W base args ds gs before hval0 hW _ _ hLaid _
 have hval:∀ (j:Nat) t v,Tryd.f3.params[j]? = some t→args[j]? = some v→Value.okWide Tryd.prog W .any base t v:=hval0
 have hW':=hW
 obtain ⟨hT,hTl⟩:=tab_laid hLaid
 obtain ⟨p,q,hA0,hV,rfl,hfz,hnd⟩:=hW
 have hA:DataW.TrodAll enc Tryd.prog W 0 (fun _=>true) true Tryd.f3.params.toList args.toList ds p:=hA0
 rw [Tryd.params3] at hA hval
 obtain ⟨v0,vs0,d0,ds0,p0,q0,hargs,rfl,rfl,h0,rr0⟩:=trodAll_cons hA
 obtain ⟨v1,vs1,d1,ds1,p1,q1,rfl,rfl,rfl,h1,rr1⟩:=trodAll_cons rr0
 obtain ⟨rfl,rfl,rfl⟩:=trodAll_nil rr1
 obtain rfl:args=#[v0,v1]:=by cases args;simp_all
 obtain ⟨rfl,rfl⟩:=trodVars_none hV
 have k0:=h0
 have lt0:∀ x∈p0,x.block<W.heap.size:=by obtain ⟨m,hm⟩:=k0;exact DataW.trod_lt m _ _ _ hm
 have k1:=h1
 have lt1:∀ x∈p1,x.block<W.heap.size:=by obtain ⟨m,hm⟩:=k1;exact DataW.trod_lt m _ _ _ hm
 obtain ⟨t0,rfl,l0,gd0⟩:=open_tree (hval 0 27 v0 rfl rfl) h0
 obtain ⟨t1,rfl,l1,gd1⟩:=open_tree (hval 1 27 v1 rfl rfl) h1
 clear hA0 hval0
 rw [← lettersMakesAgg] at *
 refine (Lc.makes13_walk t0 t1  W _ _ l0 l1 gd0 gd1 hT hTl ).mono fun e W' ⟨he,bel⟩=>?_
 subst he
 exact ⟨_,rfl,_,_,_,[],_,[],hW',trodAll_mk1 (shut_bool Tryd.underlying4 _),(trodAll_cons_mk (Below.trod lettersMakesLaidOut (by kernel_rfl) (of_decide_eq_true (by kernel_rfl)) k0 bel lt0) (trodAll_cons_mk (Below.trod lettersMakesLaidOut (by kernel_rfl) (of_decide_eq_true (by kernel_rfl)) k1 bel lt1) trodAll_mk0)),rfl,bel.frame _,fun h=>by cases h⟩
theorem lettersMakes_holds:Rows.LettersMakesSaid :=
 OpenClaim.holds_of_wide 3 Tryd.f3 rfl rfl rfl rfl rfl rfl rfl ⟨rfl,rfl,rfl,rfl,rfl⟩ rfl rfl rfl rfl rfl (by kernel_rfl) Tryd.func3 (by kernel_rfl)
  (of_decide_eq_true (by kernel_rfl)) (by unfold Func.isWrapper;rw [if_neg (of_decide_eq_false (by kernel_rfl))];exact ⟨rfl,rfl⟩)
  (fun os started H enc _=>lettersMakes_lifted os started H enc)
theorem lettersMakes_card_holds:Rows.LettersMakesCardSaid :=
 Claim7.holds_tied_plain_at .later [] [.data] true _ false
  lettersMakes_holds (fun _ h=>by cases h) (by kernel_rfl) (fun _ h=>by cases h) lettersMakes_row_tie rfl ⟨rfl,rfl⟩ (by kernel_rfl) rfl
  (fun f fn hf hfn=>by
   obtain rfl:f=3:=Option.some.inj ((show Tryd.prog.funcNamed "ostinato/ostinatolaw13.LettersMakes" = some 3 by kernel_rfl).symm.trans hf) |>.symm
   obtain rfl:fn=Tryd.f3:=(Option.some.inj (Tryd.func3.symm.trans hfn)).symm
   exact ⟨by kernel_rfl,fun j t ht=>by
    rw [Tryd.params3] at ht
    have hm:t∈[27,27]:=by simpa using Array.mem_of_getElem? ht
    have hall:([27,27].all fun u=>!Tryd.prog.wantsStandIn u)=true:=by kernel_rfl
    exact (show Tryd.prog.wantsStandIn t=false by simpa using List.all_eq_true.1 hall t hm)⟩)
  (by kernel_rfl)
#print axioms lettersMakes_card_holds
end Go.Proofs.YtbohmcfplgdlpaaDoor
