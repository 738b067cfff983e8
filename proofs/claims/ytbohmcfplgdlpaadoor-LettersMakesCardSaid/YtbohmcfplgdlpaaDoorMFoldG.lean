/- The simple tree of a formed tree, with whether it is nullable: core.fold by simpleOf: the contract.
   Conditions: the tree lies in memory, is formed, and has at most 300000 nodes. -/
import Derived.Test.YtbohmcfplgdlpaaDoorMQ
import Derived.Test.YtbohmcfplgdlpaaDoorMFoldS
import Derived.Test.YtbohmcfplgdlpaaDoorMNS
import Derived.Deep.RegionWith
import Derived.Deep.RegionLaw
import Derived.Deep.AppendLies

/- The simple tree of a formed tree, with whether it is nullable: core.fold by simpleOf: the contract.
   Conditions: the tree lies in memory, is formed, and has at most 300000 nodes. -/
namespace Go.Proofs.YtbohmcfplgdlpaaDoor
open Go.RowKit Go.Shelf
abbrev l9 (t:V) (v:Value) (n:Bool):List Value:=[.int .i64 t.kind,.int .u64 (t.set 0:Nat),.int .u64 (t.set 1:Nat),.int .u64 (t.set 2:Nat),.int .u64 (t.set 3:Nat),v,.int .i64 t.lo,.int .i64 t.hi,.bool n]
def SG (t:V):Prop:=okF t∧szT (erase t)≤300000
theorem sg_part {t p:V} (h:SG t) (hp:p∈flatsV t.kind t.ps):SG p:=by
 have hoks:oksT (erases t.ps)=true:=by
  have h:=h.1
  unfold okF at h
  cases t with
  | node k C lo hi v ps=>rw [erase] at h;exact ok_parts h
 refine ⟨flats_okF t.kind hoks p hp,?_⟩
 have h1:=flatsw_sz t.kind t.ps
 have h2:=sz_eq t
 have h3:=h.2
 have h4:szT (erase p)≤szsT (erases (flatsV t.kind t.ps)):=sz_mem' (by rw [erases_map];exact List.mem_map_of_mem hp)
 omega
def LFoldG (w:World) (B:Nat) (root:V) (n:Nat) (ov:Value) (wr:World):Prop :=
 ∃ f fs,StkG w B SG (f :: fs) ov wr∧flatsV f.t.kind f.t.ps=f.ds ++ todoF f.t.kind f.st∧ChainG root f.t fs∧n=wFsG (f :: fs)∧n≤1000000
theorem of_zb' {w w2:World} {m:Nat} (hz:ZB9 w.heap.size (w.alloc (.cells #[.int .i64 0,.int .u64 0,.int .u64 0,.int .u64 0,.int .u64 0,.slice none 0 0,.int .i64 0,.int .i64 0,.bool false] 117))) (hc:Chg (fun x=>m≤x∧NT (w.alloc (.cells #[.int .i64 0,.int .u64 0,.int .u64 0,.int .u64 0,.int .u64 0,.slice none 0 0,.int .i64 0,.int .i64 0,.bool false] 117)).drew x) (w.alloc (.cells #[.int .i64 0,.int .u64 0,.int .u64 0,.int .u64 0,.int .u64 0,.slice none 0 0,.int .i64 0,.int .i64 0,.bool false] 117)).drew w2):ZB9 w.heap.size w2:=of_zb (w:=w) (w0:=(w.alloc (.cells #[.int .i64 0,.int .u64 0,.int .u64 0,.int .u64 0,.int .u64 0,.slice none 0 0,.int .i64 0,.int .i64 0,.bool false] 117)).drew) hz hc
theorem bxAG {w1 w2:World} {m:Nat} {t:V} {v:Value} {n:Bool} (h:Chg (fun x=>m≤x∧NT w1.drew x) w1.drew w2) (hr:Res w2 m w2.heap.size t) :
  Chg (fun x=>m≤x∧NT w1 x) w1 (w2.alloc (.cells #[.int .i64 t.kind,.int .u64 (t.set 0:Nat),.int .u64 (t.set 1:Nat),.int .u64 (t.set 2:Nat),.int .u64 (t.set 3:Nat),v,.int .i64 t.lo,.int .i64 t.hi,.bool n] 117))∧(w2.alloc (.cells #[.int .i64 t.kind,.int .u64 (t.set 0:Nat),.int .u64 (t.set 1:Nat),.int .u64 (t.set 2:Nat),.int .u64 (t.set 3:Nat),v,.int .i64 t.lo,.int .i64 t.hi,.bool n] 117)).heap[w2.heap.size]? = some (.cells #[.int .i64 t.kind,.int .u64 (t.set 0:Nat),.int .u64 (t.set 1:Nat),.int .u64 (t.set 2:Nat),.int .u64 (t.set 3:Nat),v,.int .i64 t.lo,.int .i64 t.hi,.bool n] 117 (0,0))∧w1.heap.size≤w2.heap.size∧Res (w2.alloc (.cells #[.int .i64 t.kind,.int .u64 (t.set 0:Nat),.int .u64 (t.set 1:Nat),.int .u64 (t.set 2:Nat),.int .u64 (t.set 3:Nat),v,.int .i64 t.lo,.int .i64 t.hi,.bool n] 117)) m (w2.alloc (.cells #[.int .i64 t.kind,.int .u64 (t.set 0:Nat),.int .u64 (t.set 1:Nat),.int .u64 (t.set 2:Nat),.int .u64 (t.set 3:Nat),v,.int .i64 t.lo,.int .i64 t.hi,.bool n] 117)).heap.size t:=by
 have h1:Chg (fun x=>m≤x∧NT w1 x) w1 w2:=((Chg.refl (fun x=>m≤x∧NT w1 x) w1).drew).trans h fun x hx e=>⟨e.1,e.2.keep rfl⟩
 exact ⟨h1.alloc _,heap_alloc_new w2 _,h1.size,(hr.chg ((Chg.refl (fun _=>False) w2).alloc _) fun _ _ _ _=>id).wid (Nat.le_refl _) (by simp)⟩
theorem bxBG {w1 w:World} {m b:Nat} {t:V} {v:Value} {n:Bool} (hb:b=w1.heap.size) (h:Chg (fun x=>m≤x∧NT (w1.alloc (.cells #[.int .i64 0,.int .u64 0,.int .u64 0,.int .u64 0,.int .u64 0,.slice none 0 0,.int .i64 0,.int .i64 0,.bool false] 117)).drew x) (w1.alloc (.cells #[.int .i64 0,.int .u64 0,.int .u64 0,.int .u64 0,.int .u64 0,.slice none 0 0,.int .i64 0,.int .i64 0,.bool false] 117)).drew w) (hr:Res w m w.heap.size t) :
  Chg (fun x=>m≤x∧NT w1 x) w1 (((((((((w.setCell ⟨b,0,none⟩ (.int .i64 t.kind)).setCell ⟨b,1,none⟩ (.int .u64 (t.set 0:Nat))).setCell ⟨b,2,none⟩ (.int .u64 (t.set 1:Nat))).setCell ⟨b,3,none⟩ (.int .u64 (t.set 2:Nat))).setCell ⟨b,4,none⟩ (.int .u64 (t.set 3:Nat))).setCell ⟨b,5,none⟩ (v)).setCell ⟨b,6,none⟩ (.int .i64 t.lo)).setCell ⟨b,7,none⟩ (.int .i64 t.hi)).setCell ⟨b,8,none⟩ (.bool n))∧(((((((((w.setCell ⟨b,0,none⟩ (.int .i64 t.kind)).setCell ⟨b,1,none⟩ (.int .u64 (t.set 0:Nat))).setCell ⟨b,2,none⟩ (.int .u64 (t.set 1:Nat))).setCell ⟨b,3,none⟩ (.int .u64 (t.set 2:Nat))).setCell ⟨b,4,none⟩ (.int .u64 (t.set 3:Nat))).setCell ⟨b,5,none⟩ (v)).setCell ⟨b,6,none⟩ (.int .i64 t.lo)).setCell ⟨b,7,none⟩ (.int .i64 t.hi)).setCell ⟨b,8,none⟩ (.bool n)).heap[b]? = some (.cells #[.int .i64 t.kind,.int .u64 (t.set 0:Nat),.int .u64 (t.set 1:Nat),.int .u64 (t.set 2:Nat),.int .u64 (t.set 3:Nat),v,.int .i64 t.lo,.int .i64 t.hi,.bool n] 117 (0,0))∧w1.heap.size≤b ∧
  Res (((((((((w.setCell ⟨b,0,none⟩ (.int .i64 t.kind)).setCell ⟨b,1,none⟩ (.int .u64 (t.set 0:Nat))).setCell ⟨b,2,none⟩ (.int .u64 (t.set 1:Nat))).setCell ⟨b,3,none⟩ (.int .u64 (t.set 2:Nat))).setCell ⟨b,4,none⟩ (.int .u64 (t.set 3:Nat))).setCell ⟨b,5,none⟩ (v)).setCell ⟨b,6,none⟩ (.int .i64 t.lo)).setCell ⟨b,7,none⟩ (.int .i64 t.hi)).setCell ⟨b,8,none⟩ (.bool n)) m (((((((((w.setCell ⟨b,0,none⟩ (.int .i64 t.kind)).setCell ⟨b,1,none⟩ (.int .u64 (t.set 0:Nat))).setCell ⟨b,2,none⟩ (.int .u64 (t.set 1:Nat))).setCell ⟨b,3,none⟩ (.int .u64 (t.set 2:Nat))).setCell ⟨b,4,none⟩ (.int .u64 (t.set 3:Nat))).setCell ⟨b,5,none⟩ (v)).setCell ⟨b,6,none⟩ (.int .i64 t.lo)).setCell ⟨b,7,none⟩ (.int .i64 t.hi)).setCell ⟨b,8,none⟩ (.bool n)).heap.size t:=by
 subst hb
 have hz:ZB9 w1.heap.size w:=of_zb' (heap_alloc_new w1 _) h
 have h1:Chg (fun x=>m≤x∧NT w1 x) w1 w:=(((Chg.refl (fun x=>m≤x∧NT w1 x) w1).alloc (.cells #[.int .i64 0,.int .u64 0,.int .u64 0,.int .u64 0,.int .u64 0,.slice none 0 0,.int .i64 0,.int .i64 0,.bool false] 117)).drew).trans h fun x hx e=>⟨e.1,e.2.keep (show w1.heap[x]? = (w1.alloc (.cells #[.int .i64 0,.int .u64 0,.int .u64 0,.int .u64 0,.int .u64 0,.slice none 0 0,.int .i64 0,.int .i64 0,.bool false] 117)).heap[x]? from (Below.heap_alloc _ _ _ hx).symm)⟩
 have hch:=set9x_chg w w1.heap.size (.int .i64 t.kind) (.int .u64 (t.set 0:Nat)) (.int .u64 (t.set 1:Nat)) (.int .u64 (t.set 2:Nat)) (.int .u64 (t.set 3:Nat)) v (.int .i64 t.lo) (.int .i64 t.hi) (.bool n)
 exact ⟨h1.trans hch fun x hx e=>by omega,set9x_heap hz _ _ _ _ _ _ _ _ _,Nat.le_refl _,(res_box hr hz hch).wid (Nat.le_refl _) hch.size⟩
set_option maxHeartbeats 8000000 in
set_option maxRecDepth 100000 in
theorem fold_G (B nb no:Nat) (root:V) (w:World) (hroot:NodeB B w nb no root) (hok:okF root) (hB:B≤w.heap.size) (hszr:szT (erase root)≤300000) :
  Calls Tryd.prog 44 #[.pointer (some ⟨nb,no,none⟩),.func (.func 45) #[] #[]] w fun e w'=>GivesS (w.heap.size+1) (resT (erase root)) e w'∧Below w.heap.size w w':=by
 have hsz:3 * szsT (erases root.ps)+10≤1000000:=by have:=sz_eq root;omega
 have hSr:SG root:=⟨hok,hszr⟩
 obtain ⟨i0,hi,hz0,hz1,hz2⟩:=info_parts infoGrpS
 obtain ⟨j0,hj,hy0,hy1,hy2⟩:=info_parts infoSimpleS
 have h1:145≠25:=by decide
 have h2:117≠25:=by decide
 have h3:117≠145:=by decide
 obtain ⟨w0,hw0⟩ : ∃ w0,w.alloc (.cells #[.int .i64 0,.int .u64 0,.int .u64 0,.int .u64 0,.int .u64 0,.slice none 0 0,.int .i64 0,.int .i64 0,.bool false] 117)=w0:=⟨_,rfl⟩
 have hb0:Below w.heap.size w w0:=hw0▸(Below.refl _ w).alloc (Nat.le_refl _) _
 have hz0s:w0.heap.size=w.heap.size+1:=by rw [← hw0];simp
 have hbx0:w0.heap[w.heap.size]? = some (.cells #[.int .i64 0,.int .u64 0,.int .u64 0,.int .u64 0,.int .u64 0,.slice none 0 0,.int .i64 0,.int .i64 0,.bool false] 117 (0,0)):=by rw [← hw0];exact heap_alloc_new w _
 have HD:=Lib.hid (And.intro (fun t p h1 h2=>sg_part (t:=t) (p:=p) h1 h2) (And.intro (show B≤w0.heap.size by omega) hsz))
 have HOP:=Lib.hid (opened_anyS B nb no root w0 (hroot.chg (Chg.of_below hb0)))
 have HRT:=Lib.hid (And.intro (hroot.chg (Chg.of_below hb0):NodeB B w0 nb no root) hSr)
 have HTY:=Lib.hid (And.intro h1 (And.intro h2 h3))
 have H00:=Lib.hid (And.intro hb0 (And.intro hz0s hbx0))
 clear hB hsz hroot hSr h1 h2 h3 hb0 hz0s hbx0 hok hszr
 go_enter Tryd.func44,Tryd.ntmps44
 go_wp2_with fail
 clear hw0
 go_at_call 61
 refine HOP.out.mono ?_
 rintro e w1 ⟨rv,st,rfl,hown,hrows,htd,hwt,hb1⟩
 have HST:=Lib.hid (show LFoldG w0 B root (wFsG [⟨nb,no,root,[],[],.slice none 0 0,rv,st⟩]) (.slice (some ⟨w1.heap.size,0,none⟩) 1 1) (w1.alloc (.cells #[.pointer (some ⟨nb,no,none⟩),.slice none 0 0,rv] 145)) by
  have hbw:Below w1.heap.size w1 (w1.alloc (.cells #[.pointer (some ⟨nb,no,none⟩),.slice none 0 0,rv] 145)):=(Below.refl _ w1).alloc (Nat.le_refl _) _
  refine ⟨⟨nb,no,root,[],[],.slice none 0 0,rv,st⟩,[],⟨?_,fun f hf=>?_,?_,?_,bhop hb1 hbw,?_⟩,by rw [htd];rfl,rfl,rfl,?_⟩
  ·exact World.ownsRow_lit (e:=145) (size:=3) (base:=w0.heap.size) w1 #[.pointer (some ⟨nb,no,none⟩),.slice none 0 0,rv] 1 hb1.size (by unfold maxLen;omega) rfl
  ·simp at hf
   subst hf
   exact ⟨(HRT.out.1.chg (Chg.of_below hb1)).chg (Chg.of_below hbw),HRT.out.2,World.ownsRow_nil _ _ _ _,rfl,hown.alloc _,fun p hp=>laid_low' (hrows p hp) hbw⟩
  ·rw [List.filterMap_cons];split <;> simp
  ·simp [Value.ownBlock]
  ·exact (bhop hb1 hbw).size
  ·have:=HD.out.2.2
   simp only [wFsG]
   omega)
 clear hown hrows htd hwt hb1
 go_wp2_with fail
 go_loopw [5] (fun ov wr=>∃ n,LFoldG w0 B root n ov wr) (fun ov wr=>leastOf (fun n=>LFoldG w0 B root n ov wr))
 case atStart=>exact ⟨_,HST.out⟩
 case round =>
  clear HST
  have hls:=(leastOf_spec hrel).1
  obtain ⟨f,fs,hI,hch,hcb,hN,hn⟩:=hls
  obtain ⟨g,cap,rfl⟩:=ownsRow_succ hI.own
  obtain ⟨cs,hcs,hcv⟩:=own_cells hI.own
  have hf:=hI.fr f (by simp)
  have hlen:fs.length+1≤1000000:=by have:=wFsG_len (f :: fs);simp only [List.length_cons] at this;omega
  have hx:∀ j,j<3→cs[fs.length * 3+j]? = (fcellsG f)[j]?:=fun j hj=>by
   rw [hcv _ (by omega),rev_cellsG,List.getElem?_append_right (by rw [fcellsG_len,List.length_reverse];omega),fcellsG_len,List.length_reverse]
   congr 1
   omega
  have hNX:=Lib.hid (next_anyS wr w0.heap.size B g (fs.length * 3) f.nb f.no cs f.rv f.t f.st hf.rest hf.rows hcs (hx 2 (by omega)) (hx 0 (by omega)) hf.node HD.out.2.1 (Nat.le_trans HD.out.2.1 (hI.own.lt g rfl).1) hI.below.size (by rw [wFsG] at hN;omega))
  have HI:=Lib.hid (And.intro hI (And.intro hch (And.intro hcb (And.intro hN hn))))
  have HC:=Lib.hid (And.intro hcs (And.intro hx hcv))
  have hgl:=(hI.own.lt g rfl).2
  have hcap:(fs.length:Int)+1≤(cap:Int):=by
   rcases hI.own.2 with ⟨h1,_⟩ | ⟨g',cap',cur,hv,_,_,hle,_⟩
   ·cases h1
   ·simp only [Value.slice.injEq,List.length_cons] at hv hle;omega
  have m1:(0:Int)≤(fs.length:Int):=by omega
  have m2:(0:Int)<(fs.length:Int)+1:=by omega
  have m3:(fs.length:Int)<(fs.length:Int)+1:=by omega
  have m4:(fs.length:Int)≤2000000:=by omega
  clear hI hch hcb hN hn hcs hcv hf hx hrel
  go_wp2_with fail
  go_at_call 62
  refine hNX.out.mono ?_
  rintro e w1 ⟨st',rv',hNH,⟨htd,rfl,rfl⟩ | ⟨p,pb,po,rfl,hnp,htd,hwt⟩⟩
  ·have HI1:=Lib.hid (HI.out.1.next HD.out.2.1 HTY.out.1 HTY.out.2.1 HTY.out.2.2 HC.out.1 hNH)
   have y0:w1.cell? ⟨g,fs.length * 3,none⟩=some (.pointer (some ⟨f.nb,f.no,none⟩)):=by rw [hNH.cell _ (by omega)];exact HC.out.2.1 0 (by omega)
   have y1:w1.cell? ⟨g,fs.length * 3+1,none⟩=some f.pv:=by rw [hNH.cell _ (by omega)];exact HC.out.2.1 1 (by omega)
   have hds:flatsV f.t.kind f.t.ps=f.ds:=by rw [HI.out.2.1,htd,List.append_nil]
   have hf1:=HI1.out.fr _ (List.mem_cons_self ..)
   have hsq:=HI1.out.seq
   rw [allG_cons] at hsq
   obtain ⟨m,hsq1,hsq2⟩:=hsq.split
   have HSQ:=Lib.hid (And.intro hsq1 hsq2)
   have HOF:=Lib.hid (fun (W:World) (hW:Below w1.heap.size w1 W)=>simpleOf_any B w0.heap.size m w1.heap.size f.nb f.no f.t f.rs f.pv W (hf1.node.chg (Chg.of_below hW)) hf1.s.1 (own_chg hf1.parts (Chg.of_below (R:=fun _=>False) hW) fun _ _=>id) (hsq2.chg (Chg.of_below (R:=fun _=>False) hW) fun _ _ _ _=>id) hW.size (by rw [hds];exact hf1.res) (Nat.le_trans hf1.s.2 (by omega)))
   have hgl1:g<w1.heap.size:=(HI1.out.own.lt g rfl).2
   cases fs with
   | nil =>
    simp only [List.length_nil] at m1 m2 m3 m4 hcap hlen
    simp only [List.length_nil,Nat.zero_mul,Nat.zero_add] at y0 y1
    have HRT2:=Lib.hid (show f.t=root from HI.out.2.2.1)
    clear hNH htd hds hf1 hNX hsq hsq1 hsq2
    go_wp2_with fail
    go_region_with (go_at_call 45;refine (HOF.out _ (by first | exact (Below.refl _ w1).drew | exact ((Below.refl _ w1).alloc (Nat.le_refl _) _).drew)).mono ?_;rintro e w2 ⟨⟨⟨t',n'⟩,rfl,hx,hres⟩,hc2⟩;obtain ⟨sa,sn,sc,hs⟩:=hres.laid.slice;rw [rcells_v hs];(try (have hbx:ZB9 w1.heap.size w2:=of_zb' (w:=w1) (heap_alloc_new w1 _) hc2;obtain ⟨⟨e0,e1,e2,e3,e4,e5,e6,e7,e8⟩,f0,f1,f2,f3,f4,f5,f6,f7,f8,fl⟩:=hbx.cells));have HB2:=Lib.hid (And.intro hc2 (And.intro hx (And.intro hs hres)));clear hc2 hx hs hres y0 y1)
    all_goals
     first
     | (have HX:=Lib.hid (bxAG (w1:=w1) (w2:=w2) HB2.out.1 HB2.out.2.2.2 (v:=.slice sa sn sc) (n:=n'));generalize w2.alloc (.cells #[.int .i64 t'.kind,.int .u64 (t'.set 0:Nat),.int .u64 (t'.set 1:Nat),.int .u64 (t'.set 2:Nat),.int .u64 (t'.set 3:Nat),.slice sa sn sc,.int .i64 t'.lo,.int .i64 t'.hi,.bool n'] 117)=w3 at *;generalize w2.heap.size=bx at *)
     | (obtain ⟨bx,hbx'⟩ : ∃ bx,bx=w1.heap.size:=⟨_,rfl⟩;have HX:=Lib.hid (bxBG (w1:=w1) (w:=w2) hbx' HB2.out.1 HB2.out.2.2.2 (v:=.slice sa sn sc) (n:=n'));clear hbx e0 e1 e2 e3 e4 e5 e6 e7 e8 f0 f1 f2 f3 f4 f5 f6 f7 f8 fl;rw [← hbx'];clear hbx';generalize (((((((((w2.setCell ⟨bx,0,none⟩ (.int .i64 t'.kind)).setCell ⟨bx,1,none⟩ (.int .u64 (t'.set 0:Nat))).setCell ⟨bx,2,none⟩ (.int .u64 (t'.set 1:Nat))).setCell ⟨bx,3,none⟩ (.int .u64 (t'.set 2:Nat))).setCell ⟨bx,4,none⟩ (.int .u64 (t'.set 3:Nat))).setCell ⟨bx,5,none⟩ (.slice sa sn sc)).setCell ⟨bx,6,none⟩ (.int .i64 t'.lo)).setCell ⟨bx,7,none⟩ (.int .i64 t'.hi)).setCell ⟨bx,8,none⟩ (.bool n'))=w3 at *)
     obtain ⟨b0,b1,b2,b3,b4,b5,b6,b7,b8⟩:=cells9 HX.out.2.1
     have bl:bx<w3.heap.size:=(Array.getElem?_eq_some_iff.1 HX.out.2.1).1
     have HB3:=Lib.hid HB2.out.2
     clear HB2
     have HY:=Lib.hid (show Below w0.heap.size w0 w3 from HI1.out.below.trans (HX.out.1.below HI1.out.below.size fun k hk e=>by have:=HSQ.out.1.le;have:=e.1;omega))
     have hres:=(HY.out.block w.heap.size (by have:=H00.out.2.1;omega)).trans H00.out.2.2
     obtain ⟨⟨r0,r1,r2,r3,r4,r5,r6,r7,r8⟩,s0,s1,s2,s3,s4,s5,s6,s7,s8,rl⟩:=ZB9.cells hres
     have HZ:=Lib.hid (show ZB9 w.heap.size w3 from hres)
     have n1:bx≠w.heap.size:=by have h4:=HI1.out.below.size;have h5:=HX.out.2.2;have h6:=H00.out.2.1;omega
     have n2:w.heap.size≠bx:=fun e=>n1 e.symm
     clear hres
     go_wp2_with fail
     have hf:=set9x_heap HZ.out (.int .i64 t'.kind) (.int .u64 (t'.set 0:Nat)) (.int .u64 (t'.set 1:Nat)) (.int .u64 (t'.set 2:Nat)) (.int .u64 (t'.set 3:Nat)) (.slice sa sn sc) (.int .i64 t'.lo) (.int .i64 t'.hi) (.bool n')
     have hch:=set9x_chg w3 w.heap.size (.int .i64 t'.kind) (.int .u64 (t'.set 0:Nat)) (.int .u64 (t'.set 1:Nat)) (.int .u64 (t'.set 2:Nat)) (.int .u64 (t'.set 3:Nat)) (.slice sa sn sc) (.int .i64 t'.lo) (.int .i64 t'.hi) (.bool n')
     clear r0 r1 r2 r3 r4 r5 r6 r7 r8 s0 s1 s2 s3 s4 s5 s6 s7 s8 b0 b1 b2 b3 b4 b5 b6 b7 b8
     generalize (((((((((w3.setCell ⟨w.heap.size,0,none⟩ (.int .i64 t'.kind)).setCell ⟨w.heap.size,1,none⟩ (.int .u64 (t'.set 0:Nat))).setCell ⟨w.heap.size,2,none⟩ (.int .u64 (t'.set 1:Nat))).setCell ⟨w.heap.size,3,none⟩ (.int .u64 (t'.set 2:Nat))).setCell ⟨w.heap.size,4,none⟩ (.int .u64 (t'.set 3:Nat))).setCell ⟨w.heap.size,5,none⟩ (.slice sa sn sc)).setCell ⟨w.heap.size,6,none⟩ (.int .i64 t'.lo)).setCell ⟨w.heap.size,7,none⟩ (.int .i64 t'.hi)).setCell ⟨w.heap.size,8,none⟩ (.bool n'))=w4 at *
     obtain ⟨r0,r1,r2,r3,r4,r5,r6,r7,r8⟩:=cells9 hf
     refine bodyPost_ret (v:=.agg #[.int .i64 t'.kind,.int .u64 (t'.set 0:Nat),.int .u64 (t'.set 1:Nat),.int .u64 (t'.set 2:Nat),.int .u64 (t'.set 3:Nat),.slice sa sn sc,.int .i64 t'.lo,.int .i64 t'.hi,.bool n']) (by simp [results,Tryd.results44,go_sem,r0,r1,r2,r3,r4,r5,r6,r7,r8]) rfl ?_
     rw [← HRT2.out]
     refine ⟨⟨(t',n'),by rw [rcells_v HB3.out.2.1],HB3.out.1,(res_box HX.out.2.2.2 HZ.out hch).wid (by have h4:=HSQ.out.1.le;have h5:=H00.out.2.1;omega) hch.size⟩,?_⟩
     exact (H00.out.1.trans (HY.out.mono H00.out.1.size)).trans (hch.below (by have:=H00.out.2.1;have:=HY.out.size;omega) fun k hk e=>by omega)
   | cons f2 fs =>
    simp only [List.length_cons] at hcap hlen y0 y1
    clear m1 m2 m3 m4
    have n1:(0:Int)≤(fs.length:Int):=by omega
    have n2:(0:Int)≤(fs.length:Int)+1:=by omega
    have n3:(fs.length:Int)<(fs.length:Int)+1:=by omega
    have n4:(fs.length:Int)+1<(fs.length:Int)+1+1:=by omega
    have n5:(fs.length:Int)+1≤2000000:=by omega
    have n6:(fs.length:Int)+1+1≤(cap:Int):=by omega
    have n7:(fs.length:Int)+1≤(fs.length:Int)+1+1:=by omega
    clear hcap
    have y2:w1.cell? ⟨g,fs.length * 3+1,none⟩=some f2.pv:=by
     rw [hNH.cell _ (by simp only [List.length_cons];omega),HC.out.2.2 _ (by simp only [List.length_cons];omega),rev_cellsG,List.getElem?_append_left (by rw [fcellsG_len,List.length_reverse,List.length_cons];omega),rev_cellsG,
      List.getElem?_append_right (by rw [fcellsG_len,List.length_reverse];omega),fcellsG_len,List.length_reverse,show fs.length * 3+1 - fs.length * 3=1 by omega]
     rfl
    have m5:((fs.length:Int)+1 == 0)=false:=by simp;omega
    have m6:¬ (fs.length:Int)+1=0:=by omega
    have hcap2:(fs.length:Int)+1≤(cap:Int):=by omega
    have hown2:=(HI1.out.fr f2 (by simp)).parts
    obtain ⟨A2,c2,hpv2⟩:=own_form hown2
    have hlen2:f2.rs.length≤1000000:=by
     have h4:=(HI1.out.fr f2 (by simp)).s.2
     have h6:=(HI1.out.fr f2 (by simp)).res.len
     have h5:=flats_len f2.t.kind f2.t.ps
     rw [HI.out.2.2.1.1,List.length_append] at h5
     rw [sz_eq] at h4
     omega
    have HOW:=Lib.hid hown2
    have HOW2:=Lib.hid (show w1.ownsRow w0.heap.size 117 9 (.slice A2 f2.rs.length c2) f2.rs.length (f2.rs.flatMap rcells) from hpv2▸hown2)
    rw [hpv2] at y2
    clear hNH htd hds hf1 hNX hown2 hsq hsq1 hsq2
    go_wp2_with fail
    go_region_with (go_at_call 45;refine (HOF.out _ (by first | exact (Below.refl _ w1).drew | exact ((Below.refl _ w1).alloc (Nat.le_refl _) _).drew)).mono ?_;rintro e w2 ⟨⟨⟨t',n'⟩,rfl,hx,hres⟩,hc2⟩;obtain ⟨sa,sn,sc,hs⟩:=hres.laid.slice;rw [rcells_v hs];(try (have hbx:ZB9 w1.heap.size w2:=of_zb' (w:=w1) (heap_alloc_new w1 _) hc2;obtain ⟨⟨e0,e1,e2,e3,e4,e5,e6,e7,e8⟩,f0,f1,f2,f3,f4,f5,f6,f7,f8,fl⟩:=hbx.cells));have HB2:=Lib.hid (And.intro hc2 (And.intro hx (And.intro hs hres)));clear hc2 hx hs hres y0 y1)
    all_goals
     first
     | (have HX:=Lib.hid (bxAG (w1:=w1) (w2:=w2) HB2.out.1 HB2.out.2.2.2 (v:=.slice sa sn sc) (n:=n'));generalize w2.alloc (.cells #[.int .i64 t'.kind,.int .u64 (t'.set 0:Nat),.int .u64 (t'.set 1:Nat),.int .u64 (t'.set 2:Nat),.int .u64 (t'.set 3:Nat),.slice sa sn sc,.int .i64 t'.lo,.int .i64 t'.hi,.bool n'] 117)=w3 at *;generalize w2.heap.size=bx at *)
     | (obtain ⟨bx,hbx'⟩ : ∃ bx,bx=w1.heap.size:=⟨_,rfl⟩;have HX:=Lib.hid (bxBG (w1:=w1) (w:=w2) hbx' HB2.out.1 HB2.out.2.2.2 (v:=.slice sa sn sc) (n:=n'));clear hbx e0 e1 e2 e3 e4 e5 e6 e7 e8 f0 f1 f2 f3 f4 f5 f6 f7 f8 fl;rw [← hbx'];clear hbx';generalize (((((((((w2.setCell ⟨bx,0,none⟩ (.int .i64 t'.kind)).setCell ⟨bx,1,none⟩ (.int .u64 (t'.set 0:Nat))).setCell ⟨bx,2,none⟩ (.int .u64 (t'.set 1:Nat))).setCell ⟨bx,3,none⟩ (.int .u64 (t'.set 2:Nat))).setCell ⟨bx,4,none⟩ (.int .u64 (t'.set 3:Nat))).setCell ⟨bx,5,none⟩ (.slice sa sn sc)).setCell ⟨bx,6,none⟩ (.int .i64 t'.lo)).setCell ⟨bx,7,none⟩ (.int .i64 t'.hi)).setCell ⟨bx,8,none⟩ (.bool n'))=w3 at *)
     obtain ⟨b0,b1,b2,b3,b4,b5,b6,b7,b8⟩:=cells9 HX.out.2.1
     have bl:bx<w3.heap.size:=(Array.getElem?_eq_some_iff.1 HX.out.2.1).1
     have HB3:=Lib.hid HB2.out.2
     clear HB2
     have hgn:¬ NT w1 g:=own_not_nt HI1.out.own (by decide) (x:=g) rfl
     have hgk:=HX.out.1.block g hgl1 fun e=>hgn e.2
     have z2:=(World.cell?_of_block (w:=w1) hgk:w3.cell? ⟨g,fs.length * 3+1,none⟩=_).trans y2
     have zl:=Nat.lt_of_lt_of_le hgl1 HX.out.1.size
     have zf:w3.frozen? ⟨g,fs.length * 3+1,none⟩=false:=(World.frozen?_of_block (w:=w1) hgk).trans (HI1.out.own.frozenAt _)
     have zw:w0.heap.size≤w3.heap.size:=Nat.le_trans HI1.out.below.size HX.out.1.size
     clear y2
     go_wp2_with fail
     have HOW3:=Lib.hid (show w3.ownsRow w0.heap.size 117 9 (.slice A2 f2.rs.length c2) f2.rs.length (f2.rs.flatMap rcells) from own_chg HOW2.out HX.out.1 fun x hx e=>own_not_nt HOW2.out (by decide) hx e.2)
     go_region_law (refine step_append_lies _ rfl _ _ 142 rfl w0.heap.size 117 j0 _ 9 88 Tryd.underlying142 hj hy0 hy1 hy2 rfl (by decide) (.slice A2 f2.rs.length c2) f2.rs.length (f2.rs.flatMap rcells) rfl ((HOW3.out.alloc _).drew) ⟨w3.heap.size,0,none⟩ 1 1 (l9 t' (.slice sa sn sc) n') rfl rfl (World.news_of_block (w:=(w3.alloc (.cells #[.int .i64 t'.kind,.int .u64 (t'.set 0:Nat),.int .u64 (t'.set 1:Nat),.int .u64 (t'.set 2:Nat),.int .u64 (t'.set 3:Nat),.slice sa sn sc,.int .i64 t'.lo,.int .i64 t'.hi,.bool n'] 117)).drew) (heap_alloc_new w3 _)) (by simp [Value.oneCell']) (by decide) (by unfold maxLen;omega) (by omega) (by simp;omega) _ rfl ?_;intro g5 cap5 w5 hown5 hgrow5 hat5 hlt5;have c5:w5.heap[g]? = w3.heap[g]?:=(hgrow5.block g (by simp;omega) (fun e=>own_type HOW.out HI1.out.own HTY.out.2.2 (x:=g) (by rw [hpv2];exact e.symm) rfl)).trans (Below.heap_alloc w3 _ _ zl);have d5:=(World.cell?_of_block (w:=w3) c5:w5.cell? ⟨g,fs.length * 3+1,none⟩=_).trans z2;have f5':=(World.frozen?_of_block (w:=w3) c5:w5.frozen? ⟨g,fs.length * 3+1,none⟩=_).trans zf;have HP:=Lib.hid (StkG.pop (ob:=.cells #[.int .i64 t'.kind,.int .u64 (t'.set 0:Nat),.int .u64 (t'.set 1:Nat),.int .u64 (t'.set 2:Nat),.int .u64 (t'.set 3:Nat),.slice sa sn sc,.int .i64 t'.lo,.int .i64 t'.hi,.bool n'] 117) (w2:=w3.drew) HI1.out HTY.out.1 HTY.out.2.1 HTY.out.2.2 (r:=(t',n')) (m:=m) HX.out.1.drew HSQ.out.2.le HSQ.out.1 (HX.out.2.2.2.chg ((Chg.refl (fun _=>False) w3).drew) fun _ _ _ _=>id) HB3.out.1 (hpv2▸hgrow5) (by rw [show rcells (t',n')=(l9 t' (.slice sa sn sc) n') from by unfold rcells ndc;rw [HB3.out.2.1];rfl];exact hown5) (fun x hx=>by have e1:g5=x:=Option.some.inj hx;rw [hpv2];exact hat5.elim (fun e=>.inl (e1▸e)) (fun e=>.inr (by have h7:=HX.out.1.size;rw [← e1,e];simp;omega))) HD.out.2.1);clear hown5 hgrow5 hat5 c5)
     all_goals
      go_wp2_with fail
      go_roundw
      case rel=>exact ⟨_,_,_,HP.out,by rw [HI.out.2.2.1.1];simp,HI.out.2.2.1.2,rfl,by have h4:=HI.out.2.2.2.1;have h5:=HI.out.2.2.2.2;simp only [wFsG] at h4 h5 ⊢;omega⟩
      case measure =>
       refine Nat.lt_of_le_of_lt ((leastOf_spec ⟨_,_,_,HP.out,by rw [HI.out.2.2.1.1];simp,HI.out.2.2.1.2,rfl,by have h4:=HI.out.2.2.2.1;have h5:=HI.out.2.2.2.2;simp only [wFsG] at h4 h5 ⊢;omega⟩).2 _ ⟨_,_,HP.out,by rw [HI.out.2.2.1.1];simp,HI.out.2.2.1.2,rfl,by have h4:=HI.out.2.2.2.1;have h5:=HI.out.2.2.2.2;simp only [wFsG] at h4 h5 ⊢;omega⟩) ?_
       rw [HI.out.2.2.2.1]
       simp only [wFsG]
       omega
  ·have HI1:=Lib.hid (HI.out.1.next HD.out.2.1 HTY.out.1 HTY.out.2.1 HTY.out.2.2 HC.out.1 hNH)
   have HOP1:=Lib.hid (opened_anyS B pb po p w1 hnp)
   have hmem:p∈flatsV f.t.kind f.t.ps:=by rw [HI.out.2.1,htd];simp
   have HPS:=Lib.hid (HD.out.1 f.t p (HI1.out.fr _ (List.mem_cons_self ..)).s hmem)
   have HNP:=Lib.hid (And.intro hnp (And.intro htd hwt))
   have hgl1:g<w1.heap.size:=(HI1.out.own.lt g rfl).2
   clear hNH hnp htd hwt hNX hmem
   go_wp2_with fail
   go_at_call 61
   refine HOP1.out.mono ?_
   rintro e w2 ⟨rv2,st2,rfl,hown2,hrows2,htd2,hwt2,hb2⟩
   have HFN:=Lib.hid (show FrOkG B w0.heap.size SG ⟨pb,po,p,[],[],.slice none 0 0,rv2,st2⟩ w2 from ⟨HNP.out.1.chg (Chg.of_below hb2),HPS.out,World.ownsRow_nil _ _ _ _,rfl,own_low hown2 HI1.out.below.size,hrows2⟩)
   have HR2:=Lib.hid (And.intro (fun x hx=>(hown2.lt x hx).1) (And.intro htd2 (And.intro hwt2 hb2)))
   have zl:=Nat.lt_of_lt_of_le hgl1 hb2.size
   have zw:w0.heap.size≤w2.heap.size:=(bhop HI1.out.below hb2).size
   clear hown2 hrows2 htd2 hwt2 hb2
   go_wp2_with ((at_builtin;refine wpList_append_lies _ (by rfl) _ _ 147 (by rfl) w0.heap.size 145 i0 _ 3 56 Tryd.underlying147 hi hz0 hz1 hz2 rfl (by decide) (.slice (some ⟨g,0,none⟩) (fs.length+1) cap) (fs.length+1) (({ f with st:=st',rv:=rv' } :: fs).reverse.flatMap fcellsG) (by rfl) ((own_chg HI1.out.own (Chg.of_below (R:=fun _=>False) HR2.out.2.2.2) fun _ _=>id).alloc _) ⟨w2.heap.size,0,none⟩ 1 1 [.pointer (some ⟨pb,po,none⟩),.slice none 0 0,rv2] (by rfl) ?c0 ?c1 ?c2 (by decide) ?c3 ?c4 ?c5 _ rfl ?_))
   case c0=>rfl
   case c1=>exact World.news_of_block (heap_alloc_new w2 _)
   case c2 =>
    obtain ⟨A3,c3,e3⟩:=own_form HFN.out.rest
    simp only at e3
    rw [e3]
    simp [Value.oneCell']
   case c3=>unfold maxLen;omega
   case c4=>omega
   case c5=>simp;omega
   intro g5 cap5 w5 hown5 hgrow5 hat5 hlt5
   have HP:=Lib.hid (StkG.push HI1.out HTY.out.1 HTY.out.2.2 HR2.out.2.2.2 HFN.out rfl rfl (fun x hx=>HR2.out.1 x hx) hgrow5 (by rw [rev_cellsG,List.append_assoc];exact hown5) HD.out.2.1)
   have hm1:wFsG (⟨pb,po,p,[],[],.slice none 0 0,rv2,st2⟩ :: { f with st:=st',rv:=rv' } :: fs)<wFsG (f :: fs):=by
    have h4:=HNP.out.2.2
    have h5:=HR2.out.2.2.1
    rw [sz_eq] at h4
    simp only [wFsG]
    omega
   have HL:=Lib.hid (show LFoldG w0 B root (wFsG (⟨pb,po,p,[],[],.slice none 0 0,rv2,st2⟩ :: { f with st:=st',rv:=rv' } :: fs)) (.slice (some ⟨g5,0,none⟩) (fs.length+1+1) cap5) w5 from
    ⟨_,_,HP.out,by rw [HR2.out.2.1];rfl,⟨by rw [HI.out.2.1,HNP.out.2.1],HI.out.2.2.1⟩,rfl,by have h4:=HI.out.2.2.2.1;have h5:=HI.out.2.2.2.2;omega⟩)
   have HM1:=Lib.hid hm1
   clear hown5 hgrow5 hat5 hm1
   go_wp2_with fail
   go_roundw
   case rel=>exact ⟨_,HL.out⟩
   case measure =>
    refine Nat.lt_of_le_of_lt ((leastOf_spec ⟨_,HL.out⟩).2 _ HL.out) ?_
    rw [HI.out.2.2.2.1]
    exact HM1.out
end Go.Proofs.YtbohmcfplgdlpaaDoor
