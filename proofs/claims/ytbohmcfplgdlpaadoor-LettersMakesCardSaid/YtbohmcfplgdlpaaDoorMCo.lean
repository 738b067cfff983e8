/- distinct: the list without what is there already, and the map of places by outline: plain facts.
   Conditions: those that each theorem states. -/
import Derived.Test.YtbohmcfplgdlpaaDoorMHi
import Derived.Deep.RegionWith
import Derived.Deep.RegionLaw
import Derived.Maps.OwnRows
import Derived.Maps.GroupsBeside
import Derived.Maps.Views

/- Whether one of the trees at some places of a list is the same as a tree: contracts (distinct's function literal, slices.IndexFunc, slices.ContainsFunc).
   Conditions: the trees lie in memory. -/
namespace Go.Proofs.YtbohmcfplgdlpaaDoor
open Go.RowKit Go.Shelf
attribute [local go_sem] nodeAgg
structure CL (lb nb:Nat) (l:List V) (u:V) (g cp:Nat) (R:Nat→Prop) (w:World):Prop where
 cell:l≠[]→w.cell? ⟨lb,0,none⟩=some (.slice (some ⟨g,0,none⟩) l.length cp)
 gl:l≠[]→g<w.heap.size
 ll:lb<w.heap.size
 nl:nb<w.heap.size
 row:∀ i t,l[i]? = some t→∀ j,j<8→w.cell? ⟨g,i * 8+j,none⟩=(ndc t)[j]?
 box:∀ j,j<8→w.cell? ⟨nb,j,none⟩=(ndc u)[j]?
 laid:∀ t∈l,Laid w R t
 lu:Laid w R u
theorem CL.below {lb nb g cp:Nat} {l:List V} {u:V} {R:Nat→Prop} {w w':World} (h:CL lb nb l u g cp R w) (hb:Below w.heap.size w w'):CL lb nb l u g cp R w' :=
 ⟨fun hl=>(hb.cell (p:=⟨lb,0,none⟩) h.ll).trans (h.cell hl),fun hl=>Nat.lt_of_lt_of_le (h.gl hl) hb.size,Nat.lt_of_lt_of_le h.ll hb.size,Nat.lt_of_lt_of_le h.nl hb.size,fun i t ht j hj=>(hb.cell (p:=⟨g,i * 8+j,none⟩) (h.gl fun e=>by rw [e] at ht;simp at ht)).trans (h.row i t ht j hj),
  fun j hj=>(hb.cell (p:=⟨nb,j,none⟩) h.nl).trans (h.box j hj),fun t ht=>laid_low (h.laid t ht) hb,laid_low h.lu hb⟩
set_option maxHeartbeats 4000000 in
set_option maxRecDepth 100000 in
theorem alike_any (lb nb g cp i:Nat) (l:List V) (t u:V) (R:Nat→Prop) (w:World) (h:CL lb nb l u g cp R w) (ht:l[i]? = some t) (hsz:szT (erase t)≤1000000) (hcp:l.length≤1000000) :
  Calls Tryd.prog 94 #[.int .i64 i,.pointer (some ⟨lb,0,none⟩),.pointer (some ⟨nb,0,none⟩)] w fun e w'=>e=.returned (.bool (likeT (erase t) (erase u)))∧Below w.heap.size w w':=by
 obtain ⟨ta,tc,hts,_⟩:=laid_row' (h.laid t (List.mem_of_getElem? ht))
 obtain ⟨tn,htn⟩ : ∃ tn,tn=t.ps.length:=⟨_,rfl⟩
 obtain ⟨ua,uc,hus,_⟩:=laid_row' h.lu
 obtain ⟨un,hun⟩ : ∃ un,un=u.ps.length:=⟨_,rfl⟩
 rw [← htn] at hts
 rw [← hun] at hus
 have hil:=(List.getElem?_eq_some_iff.1 ht).1
 have HC:=Lib.hid (fun (W:World) (hb:Below w.heap.size w W)=>by
  have:=same_syn t u W R R hsz (laid_low (h.laid t (List.mem_of_getElem? ht)) hb) (laid_low h.lu hb)
  rw [nodeAgg_v hts,nodeAgg_v hus] at this
  exact this)
 have hr:=h.row i t ht
 have y0:w.cell? ⟨g,i * 8,none⟩=some (.int .i64 t.kind):=hr 0 (by decide)
 have y1:w.cell? ⟨g,i * 8+1,none⟩=some (.int .u64 (t.set 0:Nat)):=hr 1 (by decide)
 have y2:w.cell? ⟨g,i * 8+2,none⟩=some (.int .u64 (t.set 1:Nat)):=hr 2 (by decide)
 have y3:w.cell? ⟨g,i * 8+3,none⟩=some (.int .u64 (t.set 2:Nat)):=hr 3 (by decide)
 have y4:w.cell? ⟨g,i * 8+4,none⟩=some (.int .u64 (t.set 3:Nat)):=hr 4 (by decide)
 have y5:w.cell? ⟨g,i * 8+5,none⟩=some (.slice ta tn tc):=(hr 5 (by decide)).trans (congrArg some hts)
 have y6:w.cell? ⟨g,i * 8+6,none⟩=some (.int .i64 t.lo):=hr 6 (by decide)
 have y7:w.cell? ⟨g,i * 8+7,none⟩=some (.int .i64 t.hi):=hr 7 (by decide)
 have hx:=h.box
 have x0:w.cell? ⟨nb,0,none⟩=some (.int .i64 u.kind):=hx 0 (by decide)
 have x1:w.cell? ⟨nb,1,none⟩=some (.int .u64 (u.set 0:Nat)):=hx 1 (by decide)
 have x2:w.cell? ⟨nb,2,none⟩=some (.int .u64 (u.set 1:Nat)):=hx 2 (by decide)
 have x3:w.cell? ⟨nb,3,none⟩=some (.int .u64 (u.set 2:Nat)):=hx 3 (by decide)
 have x4:w.cell? ⟨nb,4,none⟩=some (.int .u64 (u.set 3:Nat)):=hx 4 (by decide)
 have x5:w.cell? ⟨nb,5,none⟩=some (.slice ua un uc):=(hx 5 (by decide)).trans (congrArg some hus)
 have x6:w.cell? ⟨nb,6,none⟩=some (.int .i64 u.lo):=hx 6 (by decide)
 have x7:w.cell? ⟨nb,7,none⟩=some (.int .i64 u.hi):=hx 7 (by decide)
 have z0:=h.cell fun e=>by rw [e] at ht;simp at ht
 have g0:(0:Int)≤(i:Int):=by omega
 have g1:(i:Int)<(l.length:Int):=by omega
 have g2:(l.length:Int)≤1000000:=by omega
 clear h ht hts htn hus hun hr hx hil hsz hcp
 generalize likeT (erase t) (erase u)=L at *
 go_enter Tryd.func94,Tryd.ntmps94
 go_wp2_with fail
 go_region_with (go_at_call 95;refine (HC.out _ (by first | exact Below.refl _ _ | exact (Below.refl _ _).drew)).mono ?_;rintro e w2 ⟨rfl,hb2⟩;have HB2:=Lib.hid hb2;clear hb2)
 all_goals
  go_wp2_with fail
  go_ret
  exact ⟨rfl,by first | exact HB2.out | exact bhop (Below.refl _ _).drew HB2.out⟩
def anyAt (l:List V) (u:V) (js:List Nat):Bool:=js.any fun j=>match l[j]? with | some t=>likeT (erase t) (erase u) | none=>false
set_option maxHeartbeats 4000000 in
set_option maxRecDepth 100000 in
theorem indexFunc_any (base lb nb g cp:Nat) (l:List V) (u:V) (js:List Nat) (v:Value) (R:Nat→Prop) (w:World) (h:CL lb nb l u g cp R w) (hjs:∀ j∈js,j<l.length) (hsz:∀ t∈l,szT (erase t)≤1000000) (hcp:l.length≤1000000) (hjl:js.length≤1000000)
  (hown:w.ownsRow base 3 1 v js.length (js.map fun (j:Nat)=>.int .i64 j)) :
  Calls Tryd.prog 100 #[v,.func (.func 94) #[] #[.pointer (some ⟨lb,0,none⟩),.pointer (some ⟨nb,0,none⟩)]] w fun e w'=>(∃ z:Int,e=.returned (.int .i64 z)∧decide (0≤z)=anyAt l u js)∧Below w.heap.size w w':=by
 obtain ⟨A,c,rfl⟩:=own_form hown
 have hn0:(0:Int)≤(js.length:Int):=by omega
 have hn1:(js.length:Int)≤1000000:=by omega
 have HH:=Lib.hid (And.intro h (And.intro hjs (And.intro hsz (And.intro hcp hown))))
 clear h hjs hsz hcp hown hjl
 go_enter Tryd.func100,Tryd.ntmps100
 go_wp2_with fail
 go_loopw [8] (fun x wr=>∃ i:Nat,x=.int .i64 i∧i≤js.length∧anyAt l u (js.take i)=false∧Below w.heap.size w wr) (fun x _=>match x with | .int _ z=>js.length - z.toNat | _=>0)
 case atStart=>exact ⟨0,rfl,by omega,rfl,Below.refl _ _⟩
 case round =>
  obtain ⟨i,rfl,hi,hno,hb⟩:=hrel
  by_cases hlt:i<js.length
  ·have g0:(0:Int)≤(i:Int):=by omega
   have g1:(i:Int)<(js.length:Int):=by omega
   obtain ⟨j,hj⟩ : ∃ j,js[i]? = some j:=⟨_,List.getElem?_eq_getElem hlt⟩
   have hown:=HH.out.2.2.2.2
   obtain ⟨g',cap',hgv,_,hgl⟩:=hown.form (by omega)
   simp only [Value.slice.injEq,true_and] at hgv
   obtain ⟨rfl,rfl⟩:=hgv
   have y0:wr.cell? ⟨g',i,none⟩=some (.int .i64 j):=by
    rw [hb.cell (p:=⟨g',i,none⟩) hgl,hown.cellAt i (by omega),List.getElem?_map,hj]
    rfl
   obtain ⟨t,ht⟩ : ∃ t,l[j]? = some t:=⟨_,List.getElem?_eq_getElem (HH.out.2.1 j (List.mem_of_getElem? hj))⟩
   have HC:=Lib.hid (alike_any lb nb g cp j l t u R wr (HH.out.1.below hb) ht (HH.out.2.2.1 t (List.mem_of_getElem? ht)) HH.out.2.2.2.1)
   have HS:=Lib.hid (show anyAt l u (js.take (i+1))=likeT (erase t) (erase u) by
    unfold anyAt at hno ⊢
    rw [take_one hj,List.any_append,hno]
    simp [ht])
   have HA:=Lib.hid (show likeT (erase t) (erase u)=true→anyAt l u js=true from fun e=>by
    unfold anyAt
    refine List.any_eq_true.2 ⟨j,List.mem_of_getElem? hj,?_⟩
    rw [ht]
    exact e)
   have HI:=Lib.hid (And.intro hlt hb)
   clear hown hj ht hno hb hlt hi
   generalize likeT (erase t) (erase u)=L at *
   cases L with
   | true =>
    go_wp2_with fail
    go_at_call 94
    refine HC.out.mono ?_
    rintro e w2 ⟨rfl,hb2⟩
    have HB2:=Lib.hid hb2
    clear hb2
    go_wp2_with fail
    go_ret
    exact ⟨⟨_,rfl,by rw [HA.out trivial];simp⟩,bhop HI.out.2 HB2.out⟩
   | false =>
    go_wp2_with fail
    go_at_call 94
    refine HC.out.mono ?_
    rintro e w2 ⟨rfl,hb2⟩
    have HB2:=Lib.hid hb2
    clear hb2
    go_wp2_with fail
    go_roundw
    case rel=>exact ⟨i+1,by push_cast;rfl,HI.out.1,HS.out,bhop HI.out.2 HB2.out⟩
    case measure=>have:=HI.out.1;simp;omega
  ·have hie:i=js.length:=by omega
   subst hie
   have HN:=Lib.hid (show anyAt l u js=false by rw [List.take_length] at hno;exact hno)
   have HB:=Lib.hid hb
   clear hno hb hlt hi
   go_wp2_with fail
   go_ret
   exact ⟨⟨_,rfl,by rw [HN.out];rfl⟩,HB.out⟩
set_option maxHeartbeats 4000000 in
set_option maxRecDepth 100000 in
theorem containsFunc_any (base lb nb g cp:Nat) (l:List V) (u:V) (js:List Nat) (v:Value) (R:Nat→Prop) (w:World) (h:CL lb nb l u g cp R w) (hjs:∀ j∈js,j<l.length) (hsz:∀ t∈l,szT (erase t)≤1000000) (hcp:l.length≤1000000) (hjl:js.length≤1000000)
  (hown:w.ownsRow base 3 1 v js.length (js.map fun (j:Nat)=>.int .i64 j)) :
  Calls Tryd.prog 96 #[v,.func (.func 94) #[] #[.pointer (some ⟨lb,0,none⟩),.pointer (some ⟨nb,0,none⟩)]] w fun e w'=>e=.returned (.bool (anyAt l u js))∧Below w.heap.size w w':=by
 have HC:=Lib.hid (indexFunc_any base lb nb g cp l u js v R w h hjs hsz hcp hjl hown)
 clear h hjs hsz hcp hjl hown
 go_enter Tryd.func96,Tryd.ntmps96
 go_wp2_with fail
 go_at_call 100
 refine HC.out.mono ?_
 rintro e w2 ⟨⟨z,rfl,hz⟩,hb2⟩
 have HB2:=Lib.hid (And.intro hb2 hz)
 clear hb2 hz
 go_wp2_with fail
 go_ret
 exact ⟨by rw [← HB2.out.2];rfl,HB2.out.1⟩
end Go.Proofs.YtbohmcfplgdlpaaDoor

/- distinct: the list without what is there already, and the map of places by outline: plain facts.
   Conditions: those that each theorem states. -/
namespace Go.Proofs.YtbohmcfplgdlpaaDoor
open Go.RowKit Go.Shelf Go.ChangeMaps Go.MapKept Go.ChangeShapes
open Go.WideElems (Fit rd rg pl rd_val elemAt)
open Go.Maps (Keyed IsMap)
def oV (t:V):Int:=outL (hiV 20 0 [t])
theorem outL_wf:∀ (l:List V) (s:Int),(Lit.int .u64 s).wf=true→(Lit.int .u64 (l.foldl (fun s u=>mixK s u 8) s)).wf=true
 | [],_,h=>h
 | u :: l,s,_=>by
  rw [List.foldl_cons]
  refine outL_wf l _ ?_
  rw [mixK_succ]
  exact wf_bits _ _ _ _
theorem oV_wf (t:V):(Lit.int .u64 (oV t)).wf=true:=outL_wf _ 0 (by decide)
def wordsT:T→Nat→Int
 | .node k _ _ _ _,0=>IntKind.u64.wrap k
 | .node _ C _ _ _,1=>(C 0:Nat)
 | .node _ C _ _ _,2=>(C 1:Nat)
 | .node _ C _ _ _,3=>(C 2:Nat)
 | .node _ C _ _ _,4=>(C 3:Nat)
 | .node _ _ lo _ _,5=>IntKind.u64.wrap lo
 | .node _ _ _ hi _,6=>IntKind.u64.wrap hi
 | .node _ _ _ _ ps,_=>IntKind.u64.wrap (ps.length:Nat)
theorem words_erase (u:V):wordsV u=wordsT (erase u):=by
 funext j
 cases u with
 | node k C lo hi v ps =>
  rw [erase]
  match j with
  | 0=>rfl
  | 1=>rfl
  | 2=>rfl
  | 3=>rfl
  | 4=>rfl
  | 5=>rfl
  | 6=>rfl
  | j+7=>show IntKind.u64.wrap (ps.length:Nat)=IntKind.u64.wrap ((erases ps).length:Nat);rw [erases_map,List.length_map]
def mixT (s:Int) (t:T):Int:=(List.range 8).foldl (fun s j=>mixO s (wordsT t j)) s
theorem mix_erase (s:Int) (u:V):mixK s u 8=mixT s (erase u):=by unfold mixK mixT;rw [words_erase]
theorem out_erase:∀ (l:List V) (s:Int),l.foldl (fun s u=>mixK s u 8) s=(erases l).foldl mixT s
 | [],_=>rfl
 | u :: l,s=>by rw [List.foldl_cons,erases,List.foldl_cons,out_erase l,mix_erase]
def psT (l:List T) (i:Nat):List T:=match l[i]? with | some t=>t.ps | none=>[]
def hiT:Nat→Nat→List T→List T
 | 0,_,l=>l
 | n+1,i,l=>if i<l.length∧l.length<20 then hiT n (i+1) (l ++ (psT l i).take (20 - l.length)) else l
theorem erases_len (l:List V):(erases l).length=l.length:=by rw [erases_map,List.length_map]
theorem hi_erase:∀ (n i:Nat) (l:List V),erases (hiV n i l)=hiT n i (erases l)
 | 0,_,_=>rfl
 | n+1,i,l=>by
  rw [hiV,hiT,erases_len]
  split
  ·rw [hi_erase n,erases_append]
   congr 2
   have:(erases l)[i]? = (l[i]?).map erase:=by rw [erases_map,List.getElem?_map]
   unfold psAt psT
   rw [this]
   cases l[i]? with
   | none=>simp [erases]
   | some t =>
    show erases (t.ps.take (20 - l.length))=(erase t).ps.take (20 - l.length)
    rw [erase_ps,erases_map,erases_map,List.map_take]
  ·rfl
theorem oV_erase {t u:V} (h:erase t=erase u):oV t=oV u:=by
 unfold oV outL
 rw [out_erase,out_erase,hi_erase,hi_erase,show erases [t]=erases [u] by rw [erases_map,erases_map];simp [h]]
def dsV:List V→List V→List V
 | l,[]=>l
 | l,u :: us=>dsV (if l.any (fun x=>likeT (erase x) (erase u)) then l else l ++ [u]) us
theorem dsV_append (l a b:List V):dsV l (a ++ b)=dsV (dsV l a) b:=by
 induction a generalizing l with
 | nil=>rfl
 | cons t a ih=>rw [List.cons_append,dsV,dsV,ih]
theorem dsV_mem:∀ (a l:List V),∀ t∈dsV l a,t∈l∨t∈a
 | [],l,t,ht=>.inl ht
 | u :: a,l,t,ht=>by
  rw [dsV] at ht
  rcases dsV_mem a _ t ht with h | h
  ·split at h
   ·exact .inl h
   ·rcases List.mem_append.1 h with h | h
    ·exact .inl h
    ·rw [List.mem_singleton.1 h];exact .inr List.mem_cons_self
  ·exact .inr (List.mem_cons_of_mem _ h)
theorem dsV_len:∀ (a l:List V),(dsV l a).length≤l.length+a.length
 | [],l=>by simp [dsV]
 | u :: a,l=>by
  rw [dsV]
  refine Nat.le_trans (dsV_len a _) ?_
  split <;> simp <;> omega
theorem dsV_erase:∀ (a l:List V),(∀ t∈a,vdT (erase t)=false)→erases (dsV l a)=leftT 3 (erases l) (erases a)
 | [],_,_=>rfl
 | u :: a,l,h=>by
  have hu:=h u List.mem_cons_self
  have e:dropT 3 (erases l) (erase u)=l.any (fun x=>likeT (erase x) (erase u)):=by
   show (vdT (erase u) || (erases l).any fun x=>likeT x (erase u))=_
   rw [hu,Bool.false_or,erases_map,List.any_map]
   rfl
  rw [dsV,dsV_erase a _ fun t ht=>h t (List.mem_cons_of_mem _ ht),erases,leftT,e]
  congr 1
  split
  ·rfl
  ·rw [erases_append,erases,erases]
def oAt (l:List V) (j:Nat):Option Int:=(l[j]?).map oV
def idxs (l:List V) (x:Int):List Nat:=(List.range l.length).filter fun j=>oAt l j == some x
theorem idxs_lt {l:List V} {x:Int}:∀ j∈idxs l x,j<l.length:=fun _ hj=>List.mem_range.1 (List.mem_filter.1 hj).1
theorem idxs_len (l:List V) (x:Int):(idxs l x).length≤l.length:=Nat.le_trans (List.length_filter_le ..) (by rw [List.length_range];exact Nat.le_refl _)
theorem idxs_snoc (l:List V) (u:V) (x:Int):idxs (l ++ [u]) x=idxs l x ++ (if oV u=x then [l.length] else []):=by
 unfold idxs
 rw [List.length_append,List.length_singleton,List.range_succ,List.filter_append]
 congr 1
 ·refine List.filter_congr fun j hj=>?_
  unfold oAt
  rw [List.getElem?_append_left (List.mem_range.1 hj)]
 ·have:oAt (l ++ [u]) l.length=some (oV u):=by unfold oAt;rw [List.getElem?_append_right (Nat.le_refl _),Nat.sub_self];rfl
  rw [List.filter_cons,this]
  by_cases h:oV u=x
  ·simp [h]
  ·simp [h]
theorem any_idxs {l:List V} {u:V} (h:∀ t∈l,likeT (erase t) (erase u)=true→oV t=oV u):anyAt l u (idxs l (oV u))=l.any (fun x=>likeT (erase x) (erase u)):=by
 rw [Bool.eq_iff_iff]
 unfold anyAt
 rw [List.any_eq_true,List.any_eq_true]
 constructor
 ·rintro ⟨j,hj,hl⟩
  cases ht:l[j]? with
  | none=>rw [ht] at hl;cases hl
  | some t=>rw [ht] at hl;exact ⟨t,List.mem_of_getElem? ht,hl⟩
 ·rintro ⟨t,ht,hl⟩
  obtain ⟨j,hj⟩:=List.getElem?_of_mem ht
  refine ⟨j,List.mem_filter.2 ⟨List.mem_range.2 (List.getElem?_eq_some_iff.1 hj).1,?_⟩,by rw [hj];exact hl⟩
  unfold oAt
  rw [hj]
  simp [h t ht hl]
def DatI (d:DataW Unit) (zs:List Int):Prop:=(d=.nil∧zs=[])∨d=.slice (lits .i64 zs) []
theorem lits_inj {H:Type} {zs ys:List Int} (h:lits (H:=H) .i64 zs=lits .i64 ys):zs=ys:=by
 unfold lits at h
 exact (List.map_inj_right (fun a b hab=>by cases hab;rfl)).1 h
theorem dat_zs {w:World} {base:Nat} {e:TypeId} {v:Value} {zs ys:List Int} {d:DataW Unit} (h:DatI d ys) (hd:d=rowDatum .i64 v zs) (ho:w.ownsInts base e .i64 v zs):zs=ys:=by
 rcases ho.datum (H:=Unit) with ⟨h1,rfl⟩ | h1
 ·rw [h1] at hd
  rcases h with ⟨_,rfl⟩ | h
  ·rfl
  ·rw [hd] at h;cases h
 ·rw [h1] at hd
  rcases h with ⟨h,_⟩ | h
  ·rw [hd] at h;cases h
  ·rw [hd] at h
   simp only [DataW.slice.injEq,and_true] at h
   exact lits_inj h
theorem groups_chg {P:Program} {k e:TypeId} {w w':World} {base b n:Nat} {q:IntKind} {D:DataW Unit} {Q:Nat→Prop} (h:w.ownsGroups P k base e q b n D) (hc:Chg Q w w') (hb':¬ Q b)
  (hQ:∀ x cs m,w.heap[x]? = some (.cells cs e m)→¬ Q x):w'.ownsGroups P k base e q b n D:=by
 obtain ⟨es,clock,hb,F,hs,rfl,hbb,hlen,hap⟩:=h
 have hblt:b<w.heap.size:=(Array.getElem?_eq_some_iff.1 hb).1
 have hk:∀ {v:Value} {zs:List Int},w.ownsInts base e q v zs→w'.ownsInts base e q v zs:=fun {v zs} ho=>⟨own_chg ho.1 hc fun x hx=>by
  rcases ho.1.2 with ⟨e1,_⟩ | ⟨g,cap,cur,rfl,_,hg,_⟩
  ·rw [e1] at hx;cases hx
  ·have:g=x:=Option.some.inj hx
   subst this
   exact hQ g _ _ hg,ho.2⟩
 have hst:∀ x∈es.toList,∀ z,rowElem (H:=Unit) w base e q x.val=some z→rowElem w' base e q x.val=some z:=fun x hx z hz=>by
  obtain ⟨zs,ho,rfl⟩:=rowElem_inv hz
  exact rowElem_mk (hk ho)
 obtain ⟨F1,hmap,_⟩:=F.stay hst
 refine ⟨es,clock,(hc.block b hblt hb').trans hb,F1,hs,by rw [hmap],hbb,fun x hx zs ho=>?_,hap⟩
 obtain ⟨y,hy⟩:=F.reads x hx
 obtain ⟨z,hz,_⟩:=rd_val hy
 obtain ⟨zs0,ho0,_⟩:=rowElem_inv hz
 rw [ho.unique (hk ho0)]
 exact hlen x hx zs0 ho0
end Go.Proofs.YtbohmcfplgdlpaaDoor
