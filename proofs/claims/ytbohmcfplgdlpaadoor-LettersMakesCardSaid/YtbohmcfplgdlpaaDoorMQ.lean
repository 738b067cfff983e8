/- The stack of groups with which a tree is made simple, in memory, its results with it: what each step keeps.
   Conditions: those that each theorem states. -/
import Derived.Test.YtbohmcfplgdlpaaDoorMSOf

/- The stack of groups with which a tree is made simple, in memory, its results with it: what each step keeps.
   Conditions: those that each theorem states. -/
namespace Go.Proofs.YtbohmcfplgdlpaaDoor
open Go.RowKit
structure FrG where
 nb:Nat
 no:Nat
 t:V
 ds:List V
 rs:List (V×Bool)
 pv:Value
 rv:Value
 st:List (Value×List V)
def fcellsG (f:FrG):List Value:=[.pointer (some ⟨f.nb,f.no,none⟩),f.pv,f.rv]
theorem fcellsG_len (l:List FrG):(l.flatMap fcellsG).length=l.length * 3:=by
 induction l with
 | nil=>rfl
 | cons f l ih=>rw [List.flatMap_cons,List.length_append,ih,List.length_cons];show 3+_=_;omega
structure FrOkG (B base:Nat) (S:V→Prop) (f:FrG) (wr:World):Prop where
 node:NodeB B wr f.nb f.no f.t
 s:S f.t
 parts:wr.ownsRow base 117 9 f.pv f.rs.length (f.rs.flatMap rcells)
 res:OfR f.ds f.rs
 rest:wr.ownsRow base 25 1 f.rv f.st.length (f.st.map Prod.fst).reverse
 rows:∀ p∈f.st,Laid wr (fun x=>x<B) (.node 0 zeros 0 0 p.1 p.2)
theorem FrOkG.chg {B base:Nat} {S:V→Prop} {f:FrG} {wr w':World} {R:Nat→Prop} (h:FrOkG B base S f wr) (hc:Chg R wr w') (hB:∀ x,x<wr.heap.size→R x→B≤x)
  (hp:∀ x,f.pv.ownBlock=some x→¬ R x) (hr:∀ x,f.rv.ownBlock=some x→¬ R x):FrOkG B base S f w' :=
 ⟨h.node.chg (hc.mono hB),h.s,own_chg h.parts hc hp,h.res,own_chg h.rest hc hr,fun p hm=>(h.rows p hm).chg hc fun x hx hl e=>by have:=hB x hx e;omega⟩
def allG (fs:List FrG):List (V×Bool):=fs.reverse.flatMap FrG.rs
theorem allG_cons (f:FrG) (fs:List FrG):allG (f :: fs)=allG fs ++ f.rs:=by simp [allG]
structure StkG (w0:World) (B:Nat) (S:V→Prop) (fs:List FrG) (ov:Value) (wr:World):Prop where
 own:wr.ownsRow w0.heap.size 145 3 ov fs.length (fs.reverse.flatMap fcellsG)
 fr:∀ f∈fs,FrOkG B w0.heap.size S f wr
 nd1:(fs.filterMap fun f=>f.rv.ownBlock).Nodup
 nd2:(fs.filterMap fun f=>f.pv.ownBlock).Nodup
 below:Below w0.heap.size w0 wr
 seq:SeqR wr w0.heap.size (allG fs) wr.heap.size
def ChainG (root:V):V→List FrG→Prop
 | c,[]=>c=root
 | c,g :: gs=>flatsV g.t.kind g.t.ps=g.ds ++ c :: todoF g.t.kind g.st∧ChainG root g.t gs
def wFsG:List FrG→Nat
 | []=>0
 | f :: fs=>wF f.st+1+wFsG fs
theorem wFsG_len:∀ fs:List FrG,fs.length≤wFsG fs
 | []=>by simp
 | f :: fs=>by have:=wFsG_len fs;rw [wFsG,List.length_cons];omega
variable {w0 wr:World} {B:Nat} {S:V→Prop} {fs:List FrG} {ov:Value}
theorem rev_cellsG (f:FrG) (fs:List FrG):(f :: fs).reverse.flatMap fcellsG=fs.reverse.flatMap fcellsG ++ fcellsG f:=by simp
theorem top_setG (f f':FrG) (fs:List FrG) (j:Nat) (v:Value) (h:(fcellsG f).set j v=fcellsG f') (hj:j<3):((f :: fs).reverse.flatMap fcellsG).set (fs.length * 3+j) v=(f' :: fs).reverse.flatMap fcellsG:=by
 rw [rev_cellsG,rev_cellsG,List.set_append_right _ _ (by rw [fcellsG_len,List.length_reverse];omega),fcellsG_len,List.length_reverse,← h]
 congr 2
 omega
theorem mem_filtG {l:List FrG} {q:FrG→Option Nat} {f:FrG} {x:Nat} (hf:f∈l) (hx:q f=some x):x∈l.filterMap q:=List.mem_filterMap.2 ⟨f,hf,hx⟩
theorem StkG.next {f:FrG} {g cap:Nat} {cs:Array Value} {w':World} {st':List (Value×List V)} {rv':Value} (h:StkG w0 B S (f :: fs) (.slice (some ⟨g,0,none⟩) (fs.length+1) cap) wr) (hB:B≤w0.heap.size)
  (h1:145≠25) (h2:117≠25) (h3:117≠145) (hcs:wr.heap[g]? = some (.cells cs 145 (0,0))) (hN:NH wr w0.heap.size B g (fs.length * 3) cs 145 f.rv st' rv' w') :
  StkG w0 B S ({ f with st:=st',rv:=rv' } :: fs) (.slice (some ⟨g,0,none⟩) (fs.length+1) cap) w':=by
 have hgl:=(h.own.lt g rfl).2
 have hgb:=(h.own.lt g rfl).1
 have hf:=h.fr f (by simp)
 have hgr:∀ f'∈f :: fs,∀ x,f'.rv.ownBlock=some x→x≠g:=fun f' hf' x hx e=>own_type (h.fr f' hf').rest h.own (fun e=>h1 e.symm) hx (by rw [e];rfl)
 have hgp:∀ f'∈f :: fs,∀ x,f'.pv.ownBlock=some x→x≠g:=fun f' hf' x hx e=>own_type (h.fr f' hf').parts h.own h3 hx (by rw [e];rfl)
 have hBR:∀ x,x<wr.heap.size→(x=g∨f.rv.ownBlock=some x)→B≤x:=fun x _ e=>by
  rcases e with e | e
  ·omega
  ·have:=(hf.rest.lt x e).1;omega
 have hnd:=h.nd1
 have hother:∀ f'∈fs,∀ x,f'.rv.ownBlock=some x→f.rv.ownBlock≠some x:=fun f' hf' x hx e=>by
  rw [List.filterMap_cons,e] at hnd
  exact (List.nodup_cons.1 hnd).1 (mem_filtG hf' hx)
 have hpr:∀ f'∈f :: fs,∀ x,f'.pv.ownBlock=some x→f.rv.ownBlock≠some x:=fun f' hf' x hx=>own_type (h.fr f' hf').parts hf.rest h2 hx
 refine ⟨?_,fun f' hf'=>?_,?_,?_,?_,?_⟩
 ·have hst:=(h.own.stored (fs.length * 3+2) rv').1
  rw [top_setG f { f with st:=st',rv:=rv' } fs 2 rv' rfl (by omega)] at hst
  refine own_heap hst fun b hb=>?_
  have:g=b:=Option.some.inj hb
  subst this
  rw [hN.grp,heap_setCell_same wr g _ cs 145 _ hcs]
 ·rcases List.mem_cons.1 hf' with rfl | hf'
  ·refine ⟨hf.node.chg (hN.chg.mono hBR),hf.s,own_chg hf.parts hN.chg fun x hx e=>?_,hf.res,hN.own,hN.rows⟩
   rcases e with e | e
   ·exact hgp f (by simp) x hx e
   ·exact hpr f (by simp) x hx e
  ·refine (h.fr f' (by simp [hf'])).chg hN.chg hBR (fun x hx e=>?_) fun x hx e=>?_
   ·rcases e with e | e
    ·exact hgp f' (by simp [hf']) x hx e
    ·exact hpr f' (by simp [hf']) x hx e
   ·rcases e with e | e
    ·exact hgr f' (by simp [hf']) x hx e
    ·exact hother f' hf' x hx e
 ·rw [List.filterMap_cons] at hnd
  have hnd0:(fs.filterMap fun f=>f.rv.ownBlock).Nodup:=by
   split at hnd
   ·exact hnd
   ·exact (List.nodup_cons.1 hnd).2
  cases hrv:rv'.ownBlock with
  | none=>rw [List.filterMap_cons_none (by exact hrv)];exact hnd0
  | some b =>
   rw [List.filterMap_cons_some (by exact hrv)]
   refine List.nodup_cons.2 ⟨fun hm=>?_,hnd0⟩
   obtain ⟨f',hf',hx⟩:=List.mem_filterMap.1 hm
   rcases hN.blk with e | e
   ·exact hother f' hf' b hx (e▸hrv)
   ·have:=e b hrv
    have:=((h.fr f' (by simp [hf'])).rest.lt b hx).2
    omega
 ·exact h.nd2
 ·exact h.below.trans (hN.chg.below (by have:=h.below.size;exact this) fun k hk e=>by
   rcases e with e | e
   ·omega
   ·have:=(hf.rest.lt k e).1;omega)
 ·have e1:allG ({ f with st:=st',rv:=rv' } :: fs)=allG (f :: fs):=by rw [allG_cons,allG_cons]
  rw [e1]
  refine (h.seq.chg hN.chg fun x h4 _ _ e=>?_).wid (Nat.le_refl _) hN.chg.size
  rcases e with e | e
  ·rw [e] at h4;exact own_not_nt h.own (by decide) (x:=g) rfl h4
  ·exact own_not_nt hf.rest (by decide) e h4
theorem StkG.push {fn:FrG} {w5:World} {ov':Value} {w2:World} {ob:Obj} (h:StkG w0 B S fs ov wr) (h1:145≠25) (h3:117≠145) (hb:Below wr.heap.size wr w2)
  (hn:FrOkG B w0.heap.size S fn w2) (hrs:fn.rs=[]) (hp:fn.pv.ownBlock=none) (hr:∀ x,fn.rv.ownBlock=some x→wr.heap.size≤x) (hg:(w2.alloc ob).grownBy w5 ov.ownBlock)
  (hown:w5.ownsRow w0.heap.size 145 3 ov' (fs.length+1) (fs.reverse.flatMap fcellsG ++ fcellsG fn)) (hB:B≤w0.heap.size):StkG w0 B S (fn :: fs) ov' w5:=by
 have hch:Chg (fun x=>ov.ownBlock=some x) wr w5:=((Chg.of_below (R:=fun x=>ov.ownBlock=some x) hb).alloc ob).grown hg fun k hk _=>hk
 have hch2:Chg (fun x=>ov.ownBlock=some x) w2 w5:=((Chg.refl (fun x=>ov.ownBlock=some x) w2).alloc ob).grown hg fun k hk _=>hk
 have hBo:∀ x,ov.ownBlock=some x→B≤x:=fun x e=>by have:=(h.own.lt x e).1;omega
 refine ⟨by rw [rev_cellsG];exact hown,fun f hf=>?_,?_,?_,?_,?_⟩
 ·rcases List.mem_cons.1 hf with rfl | hf
  ·refine hn.chg hch2 (fun x _ e=>hBo x e) (fun x hx=>by rw [hp] at hx;cases hx) fun x hx e=>?_
   have h4:=(h.own.lt x e).2
   have h5:=hr x hx
   omega
  ·exact (h.fr f hf).chg hch (fun x _ e=>hBo x e) (fun x hx e=>own_type (h.fr f hf).parts h.own h3 hx e) fun x hx e=>own_type (h.fr f hf).rest h.own (fun e=>h1 e.symm) hx e
 ·rw [List.filterMap_cons]
  split
  ·exact h.nd1
  ·rename_i b hbk
   refine List.nodup_cons.2 ⟨fun hm=>?_,h.nd1⟩
   obtain ⟨f',hf',hx⟩:=List.mem_filterMap.1 hm
   have h4:=((h.fr f' hf').rest.lt b hx).2
   have h5:=hr b hbk
   omega
 ·rw [List.filterMap_cons,hp]
  exact h.nd2
 ·exact h.below.trans (hch.below h.below.size fun k hk e=>by have:=(h.own.lt k e).1;omega)
 ·rw [allG_cons,hrs,List.append_nil]
  exact (h.seq.chg hch fun x h4 _ _ e=>own_not_nt h.own (by decide) e h4).wid (Nat.le_refl _) hch.size
theorem StkG.pop {f g:FrG} {b cap:Nat} {w2 w5:World} {ob:Obj} {pv':Value} {r:V×Bool} {m:Nat} (h:StkG w0 B S (f :: g :: fs) (.slice (some ⟨b,0,none⟩) (fs.length+2) cap) wr) (h1:145≠25) (h2:117≠25) (h3:117≠145)
  (hb:Chg (fun x=>m≤x∧NT wr x) wr w2) (hml:m≤wr.heap.size) (hsq:SeqR wr w0.heap.size (allG (g :: fs)) m) (hres:Res w2 m w2.heap.size r.1) (her:er r=resT (erase f.t))
  (hg:(w2.alloc ob).grownBy w5 g.pv.ownBlock) (hown:w5.ownsRow w0.heap.size 117 9 pv' (g.rs.length+1) (g.rs.flatMap rcells ++ rcells r)) (hat:∀ x,pv'.ownBlock=some x→g.pv.ownBlock=some x∨wr.heap.size≤x) (hB:B≤w0.heap.size) :
  StkG w0 B S ({ g with pv:=pv',ds:=g.ds ++ [f.t],rs:=g.rs ++ [r] } :: fs) (.slice (some ⟨b,0,none⟩) (fs.length+1) cap) (w5.setCell ⟨b,fs.length * 3+1,none⟩ pv'):=by
 have hf:=h.fr f (by simp)
 have hG:=h.fr g (by simp)
 have hgl:=(h.own.lt b rfl).2
 have hgb:=(h.own.lt b rfl).1
 have hmB:=hsq.le
 have hch:Chg (fun x=>(m≤x∧NT wr x)∨g.pv.ownBlock=some x) wr w5:=((hb.mono (R':=fun x=>(m≤x∧NT wr x)∨g.pv.ownBlock=some x) fun _ _ e=>.inl e).alloc ob).grown hg fun k hk _=>.inr hk
 have hch6:Chg (fun x=>x=b∨(m≤x∧NT wr x)∨g.pv.ownBlock=some x) wr (w5.setCell ⟨b,fs.length * 3+1,none⟩ pv'):=(hch.mono fun x _ e=>.inr e).setCell (p:=⟨b,fs.length * 3+1,none⟩) (fun _=>.inl rfl) _
 have hbp:∀ f'∈f :: g :: fs,∀ x,f'.pv.ownBlock=some x→x≠b:=fun f' hf' x hx e=>own_type (h.fr f' hf').parts h.own h3 hx (by rw [e];rfl)
 have hbr:∀ f'∈f :: g :: fs,∀ x,f'.rv.ownBlock=some x→x≠b:=fun f' hf' x hx e=>own_type (h.fr f' hf').rest h.own (fun e=>h1 e.symm) hx (by rw [e];rfl)
 have hnd2:=h.nd2
 have hnd2':((g :: fs).filterMap fun f=>f.pv.ownBlock).Nodup:=by
  rw [List.filterMap_cons] at hnd2
  split at hnd2
  ·exact hnd2
  ·exact (List.nodup_cons.1 hnd2).2
 have hother:∀ f'∈fs,∀ x,f'.pv.ownBlock=some x→g.pv.ownBlock≠some x:=fun f' hf' x hx e=>by
  rw [List.filterMap_cons,e] at hnd2'
  exact (List.nodup_cons.1 hnd2').1 (mem_filtG hf' hx)
 have hBR:∀ x,x<wr.heap.size→(x=b∨(m≤x∧NT wr x)∨g.pv.ownBlock=some x)→B≤x:=fun x _ e=>by
  rcases e with e | e | e
  ·omega
  ·have:=e.1;omega
  ·have:=(hG.parts.lt x e).1;omega
 have hpb:∀ x,pv'.ownBlock=some x→x≠b:=fun x hx e=>by
  rcases hat x hx with e2 | e2
  ·exact hbp g (by simp) x e2 e
  ·omega
 have hrp:∀ f'∈f :: g :: fs,∀ x,f'.rv.ownBlock=some x→g.pv.ownBlock≠some x:=fun f' hf' x hx e=>own_type hG.parts (h.fr f' hf').rest h2 e hx
 have hbn:¬ NT wr b:=own_not_nt h.own (by decide) rfl
 have hpn:∀ f'∈f :: g :: fs,∀ x,f'.pv.ownBlock=some x→¬ NT wr x:=fun f' hf' x hx=>own_not_nt (h.fr f' hf').parts (by decide) hx
 have hrn:∀ f'∈f :: g :: fs,∀ x,f'.rv.ownBlock=some x→¬ NT wr x:=fun f' hf' x hx=>own_not_nt (h.fr f' hf').rest (by decide) hx
 refine ⟨?_,fun f' hf'=>?_,?_,?_,?_,?_⟩
 ·have ho:wr.ownsRow w0.heap.size 145 3 (.slice (some ⟨b,0,none⟩) (fs.length+1) cap) (fs.length+1) ((g :: fs).reverse.flatMap fcellsG):=by
   have:=h.own
   rw [rev_cellsG] at this
   exact ownsRow_pop (by rw [fcellsG_len,List.length_reverse];rfl) this
  have ho5:=own_chg ho hch fun x hx e=>by
   have e1:b=x:=Option.some.inj hx
   rcases e with e | e
   ·exact hbn (e1▸e.2)
   ·exact hbp g (by simp) x e e1.symm
  have hst:=(ho5.stored (fs.length * 3+1) pv').1
  rw [top_setG g { g with pv:=pv',ds:=g.ds ++ [f.t],rs:=g.rs ++ [r] } fs 1 pv' rfl (by omega)] at hst
  exact hst
 ·rcases List.mem_cons.1 hf' with rfl | hf'
  ·refine ⟨hG.node.chg (hch6.mono hBR),hG.s,?_,?_,own_chg hG.rest hch6 fun x hx e=>?_,fun p hp=>(hG.rows p hp).chg hch6 fun x hx hl e=>by have:=hBR x hx e;omega⟩
   ·have:=own_chg hown ((Chg.refl (fun x=>x=b) w5).setCell (p:=⟨b,fs.length * 3+1,none⟩) (fun _=>rfl) pv') fun x hx e=>hpb x hx e
    show World.ownsRow _ _ _ _ _ (g.rs ++ [r]).length ((g.rs ++ [r]).flatMap rcells)
    rw [List.length_append,List.flatMap_append]
    simpa using this
   ·show OfR (g.ds ++ [f.t]) (g.rs ++ [r])
    have h7:g.rs.map er=g.ds.map fun u=>resT (erase u):=hG.res
    unfold OfR
    rw [List.map_append,List.map_append,h7]
    simp [her]
   ·rcases e with e | e | e
    ·exact hbr g (by simp) x hx e
    ·exact hrn g (by simp) x hx e.2
    ·exact hrp g (by simp) x hx e
  ·refine (h.fr f' (by simp [hf'])).chg hch6 hBR (fun x hx e=>?_) fun x hx e=>?_
   ·rcases e with e | e | e
    ·exact hbp f' (by simp [hf']) x hx e
    ·exact hpn f' (by simp [hf']) x hx e.2
    ·exact hother f' hf' x hx e
   ·rcases e with e | e | e
    ·exact hbr f' (by simp [hf']) x hx e
    ·exact hrn f' (by simp [hf']) x hx e.2
    ·exact hrp f' (by simp [hf']) x hx e
 ·have hnd:=h.nd1
  rw [List.filterMap_cons] at hnd
  split at hnd
  ·exact hnd
  ·exact (List.nodup_cons.1 hnd).2
 ·have hnd0:(fs.filterMap fun f=>f.pv.ownBlock).Nodup:=by
   rw [List.filterMap_cons] at hnd2'
   split at hnd2'
   ·exact hnd2'
   ·exact (List.nodup_cons.1 hnd2').2
  cases hpv:pv'.ownBlock with
  | none=>rw [List.filterMap_cons_none (by exact hpv)];exact hnd0
  | some c =>
   rw [List.filterMap_cons_some (by exact hpv)]
   refine List.nodup_cons.2 ⟨fun hm=>?_,hnd0⟩
   obtain ⟨f',hf',hx⟩:=List.mem_filterMap.1 hm
   rcases hat c hpv with e | e
   ·exact hother f' hf' c hx e
   ·have:=((h.fr f' (by simp [hf'])).parts.lt c hx).2
    omega
 ·exact h.below.trans (hch6.below h.below.size fun k hk e=>by
   rcases e with e | e | e
   ·omega
   ·have:=e.1;omega
   ·have:=(hG.parts.lt k e).1;omega)
 ·have e1:allG ({ g with pv:=pv',ds:=g.ds ++ [f.t],rs:=g.rs ++ [r] } :: fs)=allG (g :: fs) ++ [r]:=by rw [allG_cons,allG_cons,List.append_assoc]
  rw [e1]
  have c25:Chg (fun x=>x=b∨g.pv.ownBlock=some x) w2 (w5.setCell ⟨b,fs.length * 3+1,none⟩ pv'):=((((Chg.refl (fun x=>x=b∨g.pv.ownBlock=some x) w2).alloc ob).grown hg fun k hk _=>.inr hk)).setCell (p:=⟨b,fs.length * 3+1,none⟩) (fun _=>.inl rfl) _
  have hnn:∀ x,(x=b∨g.pv.ownBlock=some x)→¬ NT wr x:=fun x e=>by
   rcases e with e | e
   ·rw [e];exact hbn
   ·exact hpn g (by simp) x e
  have hlt:∀ x,(x=b∨g.pv.ownBlock=some x)→x<wr.heap.size:=fun x e=>by
   rcases e with e | e
   ·rw [e];exact hgl
   ·exact (hG.parts.lt x e).2
  refine SeqR.append (m:=m) (hsq.chg hch6 fun x h4 _ h6 e=>?_) ⟨_,?_,hres.chg c25 (fun x h4 _ _ e=>?_) |>.wid (Nat.le_refl _) c25.size,Nat.le_refl _⟩
  ·rcases e with e | e | e
   ·exact hnn x (.inl e) h4
   ·omega
   ·exact hnn x (.inr e) h4
  ·have:=hml;have:=hch6.size;omega
  ·exact hnn x e (h4.keep (hb.block x (hlt x e) fun e2=>hnn x e e2.2).symm)
end Go.Proofs.YtbohmcfplgdlpaaDoor
