/- The stack of groups with which a tree is folded, in memory: what each step keeps.
   Conditions: those that each theorem states. -/
import Derived.Test.YtcnjogkgfdbhfaaCNextP
namespace Go.Proofs.Ytcnjogkgfdbhfaa
open Go.RowKit

theorem bhop {a b c : World} (h : Below a.heap.size a b) (k : Below b.heap.size b c) : Below a.heap.size a c := h.trans (k.mono h.size)
/-- A group: where its node lies, the parts that are done, the row of what came of them, what is still to come. -/
structure Fr where
  nb : Nat
  no : Nat
  t : V
  ds : List V
  pv : Value
  rv : Value
  st : List (Value × List V)
def fcells (f : Fr) : List Value := [.pointer (some ⟨f.nb, f.no, none⟩), f.pv, f.rv]
theorem fcells_len (l : List Fr) : (l.flatMap fcells).length = l.length * 3 := by
  induction l with
  | nil => rfl
  | cons f l ih => rw [List.flatMap_cons, List.length_append, ih, List.length_cons]; show 3 + _ = _; omega
structure FrOk (B base te sz : Nat) (F : V → List Value) (S : V → Prop) (f : Fr) (wr : World) : Prop where
  node : NodeB B wr f.nb f.no f.t
  s : S f.t
  parts : wr.ownsRow base te sz f.pv f.ds.length (f.ds.flatMap F)
  rest : wr.ownsRow base 25 1 f.rv f.st.length (f.st.map Prod.fst).reverse
  rows : ∀ p ∈ f.st, Laid wr (fun x => x < B) (.node 0 zeros 0 0 p.1 p.2)
theorem FrOk.chg {B base te sz : Nat} {F : V → List Value} {S : V → Prop} {f : Fr} {wr w' : World} {R : Nat → Prop} (h : FrOk B base te sz F S f wr) (hc : Chg R wr w') (hB : ∀ x, x < wr.heap.size → R x → B ≤ x)
    (hp : ∀ x, f.pv.ownBlock = some x → ¬ R x) (hr : ∀ x, f.rv.ownBlock = some x → ¬ R x) : FrOk B base te sz F S f w' :=
  ⟨h.node.chg (hc.mono hB), h.s, own_chg h.parts hc hp, own_chg h.rest hc hr, fun p hm => (h.rows p hm).chg hc fun x hx hl e => by have := hB x hx e; omega⟩
/-- The whole stack, the innermost group first. -/
structure StkI (w0 : World) (B tg te sz : Nat) (F : V → List Value) (S : V → Prop) (fs : List Fr) (ov : Value) (wr : World) : Prop where
  own : wr.ownsRow w0.heap.size tg 3 ov fs.length (fs.reverse.flatMap fcells)
  fr : ∀ f ∈ fs, FrOk B w0.heap.size te sz F S f wr
  nd1 : (fs.filterMap fun f => f.rv.ownBlock).Nodup
  nd2 : (fs.filterMap fun f => f.pv.ownBlock).Nodup
  below : Below w0.heap.size w0 wr
/-- What is done and what is to come makes up what each node has. -/
def ChainB (root : V) : V → List Fr → Prop
  | c, [] => c = root
  | c, g :: gs => flatsV g.t.kind g.t.ps = g.ds ++ c :: todoF g.t.kind g.st ∧ ChainB root g.t gs
def wFs : List Fr → Nat
  | [] => 0
  | f :: fs => wF f.st + 1 + wFs fs
theorem wFs_len : ∀ fs : List Fr, fs.length ≤ wFs fs
  | [] => by simp
  | f :: fs => by have := wFs_len fs; rw [wFs, List.length_cons]; omega
theorem own_low {w : World} {base base' e size n : Nat} {v : Value} {xs : List Value} (h : w.ownsRow base e size v n xs) (hb : base' ≤ base) : w.ownsRow base' e size v n xs := by
  refine ⟨h.1, ?_⟩
  rcases h.2 with e1 | ⟨g, cap, cur, e1, h1, rest⟩
  · exact .inl e1
  · exact .inr ⟨g, cap, cur, e1, Nat.le_trans hb h1, rest⟩
mutual
theorem flat_len (k : Int) : ∀ t : V, (flatV k t).length ≤ szT (erase t)
  | .node k' C lo hi v ps => by
    have := flats_len k ps
    rw [flatV, erase, szT]
    split
    · omega
    · simp
theorem flats_len (k : Int) : ∀ ts : List V, (flatsV k ts).length ≤ szsT (erases ts)
  | [] => by rw [flatsV]; simp
  | t :: ts => by
    have h1 := flat_len k t
    have h2 := flats_len k ts
    rw [flatsV, erases, szsT, List.length_append]
    omega
end
theorem own_cells {w : World} {base e size n g cap : Nat} {xs : List Value} (h : w.ownsRow base e size (.slice (some ⟨g, 0, none⟩) n cap) n xs) : ∃ cs : Array Value, w.heap[g]? = some (.cells cs e (0, 0)) ∧ ∀ j, j < n * size → cs[j]? = xs[j]? := by
  rcases h.2 with ⟨h', _⟩ | ⟨g', cap', cur, h', hb, hg, hnc, hcm, hcs, htake⟩
  · simp at h'
  · simp only [Value.slice.injEq, Option.some.injEq, Addr.mk.injEq, and_true, true_and] at h'
    obtain ⟨rfl, rfl⟩ := h'
    refine ⟨cur, hg, fun j hj => ?_⟩
    rw [← htake, List.getElem?_take, if_pos hj, Array.getElem?_toList]
theorem own_type {w : World} {base base' e e' size size' n n' : Nat} {v v' : Value} {xs xs' : List Value} (h : w.ownsRow base e size v n xs) (h' : w.ownsRow base' e' size' v' n' xs') (hne : e ≠ e') {x : Nat} (hx : v.ownBlock = some x) : v'.ownBlock ≠ some x := by
  intro hx'
  rcases h.2 with ⟨e1, _⟩ | ⟨g1, c1, cur1, rfl, _, hb1, _⟩
  · rw [e1] at hx; cases hx
  · rcases h'.2 with ⟨e2, _⟩ | ⟨g2, c2, cur2, rfl, _, hb2, _⟩
    · rw [e2] at hx'; cases hx'
    · have a1 : g1 = x := Option.some.inj hx
      have a2 : g2 = x := Option.some.inj hx'
      subst a1
      subst a2
      have := Option.some.inj (hb1.symm.trans hb2)
      simp only [Obj.cells.injEq] at this
      exact hne this.2.1
variable {w0 wr : World} {B tg te sz : Nat} {F : V → List Value} {S : V → Prop} {fs : List Fr} {ov : Value}
theorem rev_cells (f : Fr) (fs : List Fr) : (f :: fs).reverse.flatMap fcells = fs.reverse.flatMap fcells ++ fcells f := by simp
theorem top_set (f f' : Fr) (fs : List Fr) (j : Nat) (v : Value) (h : (fcells f).set j v = fcells f') (hj : j < 3) : ((f :: fs).reverse.flatMap fcells).set (fs.length * 3 + j) v = (f' :: fs).reverse.flatMap fcells := by
  rw [rev_cells, rev_cells, List.set_append_right _ _ (by rw [fcells_len, List.length_reverse]; omega), fcells_len, List.length_reverse, ← h]
  congr 2
  omega
theorem mem_filt {l : List Fr} {q : Fr → Option Nat} {f : Fr} {x : Nat} (hf : f ∈ l) (hx : q f = some x) : x ∈ l.filterMap q := List.mem_filterMap.2 ⟨f, hf, hx⟩
/-- Behind the call for the next part. -/
theorem StkI.next {f : Fr} {g cap : Nat} {cs : Array Value} {w' : World} {st' : List (Value × List V)} {rv' : Value} (h : StkI w0 B tg te sz F S (f :: fs) (.slice (some ⟨g, 0, none⟩) (fs.length + 1) cap) wr) (hB : B ≤ w0.heap.size)
    (h1 : tg ≠ 25) (h2 : te ≠ 25) (h3 : te ≠ tg) (hcs : wr.heap[g]? = some (.cells cs tg (0, 0))) (hN : NH wr w0.heap.size B g (fs.length * 3) cs tg f.rv st' rv' w') :
    StkI w0 B tg te sz F S ({ f with st := st', rv := rv' } :: fs) (.slice (some ⟨g, 0, none⟩) (fs.length + 1) cap) w' := by
  have hgl := (h.own.lt g rfl).2
  have hgb := (h.own.lt g rfl).1
  have hf := h.fr f (by simp)
  have hgr : ∀ f' ∈ f :: fs, ∀ x, f'.rv.ownBlock = some x → x ≠ g := fun f' hf' x hx e => own_type (h.fr f' hf').rest h.own (fun e => h1 e.symm) hx (by rw [e]; rfl)
  have hgp : ∀ f' ∈ f :: fs, ∀ x, f'.pv.ownBlock = some x → x ≠ g := fun f' hf' x hx e => own_type (h.fr f' hf').parts h.own h3 hx (by rw [e]; rfl)
  have hBR : ∀ x, x < wr.heap.size → (x = g ∨ f.rv.ownBlock = some x) → B ≤ x := fun x _ e => by
    rcases e with e | e
    · omega
    · have := (hf.rest.lt x e).1; omega
  have hnd := h.nd1
  have hother : ∀ f' ∈ fs, ∀ x, f'.rv.ownBlock = some x → f.rv.ownBlock ≠ some x := fun f' hf' x hx e => by
    rw [List.filterMap_cons, e] at hnd
    exact (List.nodup_cons.1 hnd).1 (mem_filt hf' hx)
  have hpr : ∀ f' ∈ f :: fs, ∀ x, f'.pv.ownBlock = some x → f.rv.ownBlock ≠ some x := fun f' hf' x hx => own_type (h.fr f' hf').parts hf.rest h2 hx
  refine ⟨?_, fun f' hf' => ?_, ?_, ?_, ?_⟩
  · have hst := (h.own.stored (fs.length * 3 + 2) rv').1
    rw [top_set f { f with st := st', rv := rv' } fs 2 rv' rfl (by omega)] at hst
    refine own_heap hst fun b hb => ?_
    have : g = b := Option.some.inj hb
    subst this
    rw [hN.grp, heap_setCell_same wr g _ cs tg _ hcs]
  · rcases List.mem_cons.1 hf' with rfl | hf'
    · refine ⟨hf.node.chg (hN.chg.mono hBR), hf.s, own_chg hf.parts hN.chg fun x hx e => ?_, hN.own, hN.rows⟩
      rcases e with e | e
      · exact hgp f (by simp) x hx e
      · exact hpr f (by simp) x hx e
    · refine (h.fr f' (by simp [hf'])).chg hN.chg hBR (fun x hx e => ?_) fun x hx e => ?_
      · rcases e with e | e
        · exact hgp f' (by simp [hf']) x hx e
        · exact hpr f' (by simp [hf']) x hx e
      · rcases e with e | e
        · exact hgr f' (by simp [hf']) x hx e
        · exact hother f' hf' x hx e
  · rw [List.filterMap_cons] at hnd
    have hnd0 : (fs.filterMap fun f => f.rv.ownBlock).Nodup := by
      split at hnd
      · exact hnd
      · exact (List.nodup_cons.1 hnd).2
    cases hrv : rv'.ownBlock with
    | none => rw [List.filterMap_cons_none (by exact hrv)]; exact hnd0
    | some b =>
      rw [List.filterMap_cons_some (by exact hrv)]
      refine List.nodup_cons.2 ⟨fun hm => ?_, hnd0⟩
      obtain ⟨f', hf', hx⟩ := List.mem_filterMap.1 hm
      rcases hN.blk with e | e
      · exact hother f' hf' b hx (e ▸ hrv)
      · have := e b hrv
        have := ((h.fr f' (by simp [hf'])).rest.lt b hx).2
        omega
  · exact h.nd2
  · exact h.below.trans (hN.chg.below (by have := h.below.size; exact this) fun k hk e => by
      rcases e with e | e
      · omega
      · have := (hf.rest.lt k e).1; omega)
/-- A group of its own behind the others. -/
theorem StkI.push {fn : Fr} {w5 : World} {ov' : Value} {w2 : World} {ob : Obj} (h : StkI w0 B tg te sz F S fs ov wr) (h1 : tg ≠ 25) (h3 : te ≠ tg) (hb : Below wr.heap.size wr w2)
    (hn : FrOk B w0.heap.size te sz F S fn w2) (hp : fn.pv.ownBlock = none) (hr : ∀ x, fn.rv.ownBlock = some x → wr.heap.size ≤ x) (hg : (w2.alloc ob).grownBy w5 ov.ownBlock)
    (hown : w5.ownsRow w0.heap.size tg 3 ov' (fs.length + 1) (fs.reverse.flatMap fcells ++ fcells fn)) (hB : B ≤ w0.heap.size) : StkI w0 B tg te sz F S (fn :: fs) ov' w5 := by
  have hch : Chg (fun x => ov.ownBlock = some x) wr w5 := ((Chg.of_below (R := fun x => ov.ownBlock = some x) hb).alloc ob).grown hg fun k hk _ => hk
  have hch2 : Chg (fun x => ov.ownBlock = some x) w2 w5 := ((Chg.refl (fun x => ov.ownBlock = some x) w2).alloc ob).grown hg fun k hk _ => hk
  have hBo : ∀ x, ov.ownBlock = some x → B ≤ x := fun x e => by have := (h.own.lt x e).1; omega
  refine ⟨by rw [rev_cells]; exact hown, fun f hf => ?_, ?_, ?_, ?_⟩
  · rcases List.mem_cons.1 hf with rfl | hf
    · refine hn.chg hch2 (fun x _ e => hBo x e) (fun x hx => by rw [hp] at hx; cases hx) fun x hx e => ?_
      have h4 := (h.own.lt x e).2
      have h5 := hr x hx
      omega
    · exact (h.fr f hf).chg hch (fun x _ e => hBo x e) (fun x hx e => own_type (h.fr f hf).parts h.own h3 hx e) fun x hx e => own_type (h.fr f hf).rest h.own (fun e => h1 e.symm) hx e
  · rw [List.filterMap_cons]
    split
    · exact h.nd1
    · rename_i b hbk
      refine List.nodup_cons.2 ⟨fun hm => ?_, h.nd1⟩
      obtain ⟨f', hf', hx⟩ := List.mem_filterMap.1 hm
      have h4 := ((h.fr f' hf').rest.lt b hx).2
      have h5 := hr b hbk
      omega
  · rw [List.filterMap_cons, hp]
    exact h.nd2
  · exact h.below.trans (hch.below h.below.size fun k hk e => by have := (h.own.lt k e).1; omega)
/-- The innermost group is done: what came of its node stands behind what the one around it has. -/
theorem StkI.pop {f g : Fr} {b cap : Nat} {w2 w5 : World} {ob : Obj} {pv' : Value} (h : StkI w0 B tg te sz F S (f :: g :: fs) (.slice (some ⟨b, 0, none⟩) (fs.length + 2) cap) wr) (h1 : tg ≠ 25) (h2 : te ≠ 25) (h3 : te ≠ tg)
    (hb : Below wr.heap.size wr w2) (hg : (w2.alloc ob).grownBy w5 g.pv.ownBlock) (hown : w5.ownsRow w0.heap.size te sz pv' (g.ds.length + 1) (g.ds.flatMap F ++ F f.t)) (hat : ∀ x, pv'.ownBlock = some x → g.pv.ownBlock = some x ∨ wr.heap.size ≤ x) (hB : B ≤ w0.heap.size) :
    StkI w0 B tg te sz F S ({ g with pv := pv', ds := g.ds ++ [f.t] } :: fs) (.slice (some ⟨b, 0, none⟩) (fs.length + 1) cap) (w5.setCell ⟨b, fs.length * 3 + 1, none⟩ pv') := by
  have hf := h.fr f (by simp)
  have hG := h.fr g (by simp)
  have hgl := (h.own.lt b rfl).2
  have hgb := (h.own.lt b rfl).1
  have hch : Chg (fun x => g.pv.ownBlock = some x) wr w5 := ((Chg.of_below (R := fun x => g.pv.ownBlock = some x) hb).alloc ob).grown hg fun k hk _ => hk
  have hch6 : Chg (fun x => x = b ∨ g.pv.ownBlock = some x) wr (w5.setCell ⟨b, fs.length * 3 + 1, none⟩ pv') := (hch.mono fun x _ e => .inr e).setCell (p := ⟨b, fs.length * 3 + 1, none⟩) (fun _ => .inl rfl) _
  have hbp : ∀ f' ∈ f :: g :: fs, ∀ x, f'.pv.ownBlock = some x → x ≠ b := fun f' hf' x hx e => own_type (h.fr f' hf').parts h.own h3 hx (by rw [e]; rfl)
  have hbr : ∀ f' ∈ f :: g :: fs, ∀ x, f'.rv.ownBlock = some x → x ≠ b := fun f' hf' x hx e => own_type (h.fr f' hf').rest h.own (fun e => h1 e.symm) hx (by rw [e]; rfl)
  have hnd2 := h.nd2
  have hnd2' : ((g :: fs).filterMap fun f => f.pv.ownBlock).Nodup := by
    rw [List.filterMap_cons] at hnd2
    split at hnd2
    · exact hnd2
    · exact (List.nodup_cons.1 hnd2).2
  have hother : ∀ f' ∈ fs, ∀ x, f'.pv.ownBlock = some x → g.pv.ownBlock ≠ some x := fun f' hf' x hx e => by
    rw [List.filterMap_cons, e] at hnd2'
    exact (List.nodup_cons.1 hnd2').1 (mem_filt hf' hx)
  have hBR : ∀ x, x < wr.heap.size → (x = b ∨ g.pv.ownBlock = some x) → B ≤ x := fun x _ e => by
    rcases e with e | e
    · omega
    · have := (hG.parts.lt x e).1; omega
  have hpb : ∀ x, pv'.ownBlock = some x → x ≠ b := fun x hx e => by
    rcases hat x hx with e2 | e2
    · exact hbp g (by simp) x e2 e
    · omega
  have hrp : ∀ f' ∈ f :: g :: fs, ∀ x, f'.rv.ownBlock = some x → g.pv.ownBlock ≠ some x := fun f' hf' x hx e => own_type hG.parts (h.fr f' hf').rest h2 e hx
  refine ⟨?_, fun f' hf' => ?_, ?_, ?_, ?_⟩
  · have ho : wr.ownsRow w0.heap.size tg 3 (.slice (some ⟨b, 0, none⟩) (fs.length + 1) cap) (fs.length + 1) ((g :: fs).reverse.flatMap fcells) := by
      have := h.own
      rw [rev_cells] at this
      exact ownsRow_pop (by rw [fcells_len, List.length_reverse]; rfl) this
    have ho5 := own_chg ho hch fun x hx e => by have e1 : b = x := Option.some.inj hx; exact hbp g (by simp) x e e1.symm
    have hst := (ho5.stored (fs.length * 3 + 1) pv').1
    rw [top_set g { g with pv := pv', ds := g.ds ++ [f.t] } fs 1 pv' rfl (by omega)] at hst
    exact hst
  · rcases List.mem_cons.1 hf' with rfl | hf'
    · refine ⟨hG.node.chg (hch6.mono hBR), hG.s, ?_, own_chg hG.rest hch6 fun x hx e => ?_, fun p hp => (hG.rows p hp).chg hch6 fun x hx hl e => by have := hBR x hx e; omega⟩
      · have := own_chg hown ((Chg.refl (fun x => x = b) w5).setCell (p := ⟨b, fs.length * 3 + 1, none⟩) (fun _ => rfl) pv') fun x hx e => hpb x hx e
        show World.ownsRow _ _ _ _ _ (g.ds ++ [f.t]).length ((g.ds ++ [f.t]).flatMap F)
        rw [List.length_append, List.flatMap_append]
        simpa using this
      · rcases e with e | e
        · exact hbr g (by simp) x hx e
        · exact hrp g (by simp) x hx e
    · refine (h.fr f' (by simp [hf'])).chg hch6 hBR (fun x hx e => ?_) fun x hx e => ?_
      · rcases e with e | e
        · exact hbp f' (by simp [hf']) x hx e
        · exact hother f' hf' x hx e
      · rcases e with e | e
        · exact hbr f' (by simp [hf']) x hx e
        · exact hrp f' (by simp [hf']) x hx e
  · have hnd := h.nd1
    rw [List.filterMap_cons] at hnd
    split at hnd
    · exact hnd
    · exact (List.nodup_cons.1 hnd).2
  · have hnd0 : (fs.filterMap fun f => f.pv.ownBlock).Nodup := by
      rw [List.filterMap_cons] at hnd2'
      split at hnd2'
      · exact hnd2'
      · exact (List.nodup_cons.1 hnd2').2
    cases hpv : pv'.ownBlock with
    | none => rw [List.filterMap_cons_none (by exact hpv)]; exact hnd0
    | some c =>
      rw [List.filterMap_cons_some (by exact hpv)]
      refine List.nodup_cons.2 ⟨fun hm => ?_, hnd0⟩
      obtain ⟨f', hf', hx⟩ := List.mem_filterMap.1 hm
      rcases hat c hpv with e | e
      · exact hother f' hf' c hx e
      · have := ((h.fr f' (by simp [hf'])).parts.lt c hx).2
        omega
  · exact h.below.trans (hch6.below h.below.size fun k hk e => by
      rcases e with e | e
      · omega
      · have := (hG.parts.lt k e).1; omega)

end Go.Proofs.Ytcnjogkgfdbhfaa
