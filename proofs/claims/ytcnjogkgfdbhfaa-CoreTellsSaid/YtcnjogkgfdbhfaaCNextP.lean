/- The lists of nodes that a group has still to go through, in memory: what each step keeps.
   Conditions: those that each theorem states. -/
import Derived.Test.YtcnjogkgfdbhfaaCMelt
namespace Go.Proofs.Ytcnjogkgfdbhfaa
open Go.RowKit

theorem laid_low' {w w' : World} {R : Nat → Prop} {t : V} (h : Laid w R t) (hb : Below w.heap.size w w') : Laid w' R t := h.keep (fun _ _ h => h) hb.size fun k hk _ => hb.block k hk
/-- A block of group's cells: W's own but for the cell of the lists; the lists' row is the call's own. -/
structure NH (W : World) (base B G o : Nat) (cs : Array Value) (ty : TypeId) (rv0 : Value) (st : List (Value × List V)) (rv : Value) (wr : World) : Prop where
  own : wr.ownsRow base 25 1 rv st.length (st.map Prod.fst).reverse
  rows : ∀ p ∈ st, Laid wr (fun x => x < B) (.node 0 zeros 0 0 p.1 p.2)
  chg : Chg (fun x => x = G ∨ rv0.ownBlock = some x) W wr
  grp : wr.heap[G]? = some (.cells (cs.setIfInBounds (o + 2) rv) ty (0, 0))
  blk : rv.ownBlock = rv0.ownBlock ∨ ∀ g, rv.ownBlock = some g → W.heap.size ≤ g
variable {W wr : World} {base B G o : Nat} {cs : Array Value} {ty : TypeId} {rv0 rv : Value} {st : List (Value × List V)}
theorem set_self {cs : Array Value} {i : Nat} {v : Value} (h : cs[i]? = some v) : cs.setIfInBounds i v = cs := by
  apply Array.ext_getElem?
  intro j
  rw [Array.getElem?_setIfInBounds]
  by_cases e : i = j
  · subst e
    have := (Array.getElem?_eq_some_iff.1 h).1
    simp only [this, if_true]
    exact h.symm
  · simp [e]
theorem NH.start (hown : W.ownsRow base 25 1 rv st.length (st.map Prod.fst).reverse) (hrows : ∀ p ∈ st, Laid W (fun x => x < B) (.node 0 zeros 0 0 p.1 p.2))
    (hG : W.heap[G]? = some (.cells cs ty (0, 0))) (hc : cs[o + 2]? = some rv) : NH W base B G o cs ty rv st rv W :=
  ⟨hown, hrows, Chg.refl _ _, by rw [set_self hc]; exact hG, .inl rfl⟩
theorem NH.lt (h : NH W base B G o cs ty rv0 st rv wr) : G < wr.heap.size := (Array.getElem?_eq_some_iff.1 h.grp).1
theorem NH.off (h : NH W base B G o cs ty rv0 st rv wr) (hty : ty ≠ 25) {g : Nat} (hg : rv.ownBlock = some g) : g ≠ G := by
  rintro rfl
  rcases h.own.2 with ⟨e, _⟩ | ⟨g', cap, cur, e, _, hb, _⟩
  · rw [e] at hg; cases hg
  · rw [e] at hg
    have : g' = g := Option.some.inj hg
    subst this
    have := Option.some.inj (hb.symm.trans h.grp)
    simp only [Obj.cells.injEq] at this
    exact hty this.2.1.symm
theorem NH.inR (h : NH W base B G o cs ty rv0 st rv wr) {g : Nat} (hg : rv.ownBlock = some g) : g < W.heap.size → g = G ∨ rv0.ownBlock = some g := fun hl => by
  rcases h.blk with e | e
  · exact .inr (e ▸ hg)
  · have := e g hg; omega
theorem NH.cell (h : NH W base B G o cs ty rv0 st rv wr) (j : Nat) (hj : j ≠ o + 2) : wr.cell? ⟨G, j, none⟩ = cs[j]? := by
  rw [(row_cells h.grp).1 j, Array.getElem?_setIfInBounds, if_neg (fun e => hj e.symm)]
theorem NH.rest (h : NH W base B G o cs ty rv0 st rv wr) (ho : o + 2 < cs.size) : wr.cell? ⟨G, o + 2, none⟩ = some rv := by
  rw [(row_cells h.grp).1 (o + 2), Array.getElem?_setIfInBounds, if_pos rfl, if_pos ho]
theorem NH.fz (h : NH W base B G o cs ty rv0 st rv wr) (j : Nat) : wr.frozen? ⟨G, j, none⟩ = false := (row_cells h.grp).2 j
theorem NH.draw (h : NH W base B G o cs ty rv0 st rv wr) (n : Nat) : NH W base B G o cs ty rv0 st rv (wr.drewN n) :=
  ⟨own_chg h.own ((Chg.refl (fun _ => False) wr).drewN n) fun _ _ => id, fun p hp => (h.rows p hp).chg ((Chg.refl (fun _ => False) wr).drewN n) fun _ _ _ => id, h.chg.drewN n, h.grp, h.blk⟩
theorem NH.drew (h : NH W base B G o cs ty rv0 st rv wr) : NH W base B G o cs ty rv0 st rv wr.drew :=
  ⟨own_chg h.own ((Chg.refl (fun _ => False) wr).drew) fun _ _ => id, fun p hp => (h.rows p hp).chg ((Chg.refl (fun _ => False) wr).drew) fun _ _ _ => id, h.chg.drew, h.grp, h.blk⟩
theorem NH.pop {v : Value} {g cap : Nat} (h : NH W base B G o cs ty rv0 ((v, []) :: st) (.slice (some ⟨g, 0, none⟩) (st.length + 1) cap) wr) (hB : B ≤ G) (hty : ty ≠ 25) :
    NH W base B G o cs ty rv0 st (.slice (some ⟨g, 0, none⟩) st.length cap) (wr.setCell ⟨G, o + 2, none⟩ (.slice (some ⟨g, 0, none⟩) st.length cap)) := by
  have hne := h.off hty (g := g) rfl
  refine ⟨?_, fun p hp => ?_, ?_, ?_, h.blk⟩
  · have h1 := h.own
    rw [List.map_cons, List.reverse_cons] at h1
    exact own_chg (ownsRow_pop (by simp) h1) ((Chg.refl (fun x => x = G) wr).setCell (p := ⟨G, o + 2, none⟩) (fun _ => rfl) _) fun b hb e => hne (by have : g = b := Option.some.inj hb; omega)
  · exact (h.rows p (by simp [hp])).chg ((Chg.refl (fun x => x = G) wr).setCell (p := ⟨G, o + 2, none⟩) (fun _ => rfl) _) fun x _ hx e => by omega
  · exact h.chg.setCell (p := ⟨G, o + 2, none⟩) (fun _ => .inl rfl) _
  · rw [heap_setCell_same wr G (o + 2) _ ty _ h.grp, Array.setIfInBounds_setIfInBounds]
theorem NH.take {v tv : Value} {u : V} {us : List V} {g cap : Nat} (h : NH W base B G o cs ty rv0 ((v, u :: us) :: st) (.slice (some ⟨g, 0, none⟩) (st.length + 1) cap) wr) (hB : B ≤ base) (hty : ty ≠ 25)
    (ht : Laid wr (fun x => x < B) (.node 0 zeros 0 0 tv us)) :
    NH W base B G o cs ty rv0 ((tv, us) :: st) (.slice (some ⟨g, 0, none⟩) (st.length + 1) cap) (wr.setCell ⟨g, st.length, none⟩ tv) := by
  have hne := h.off hty (g := g) rfl
  have hgb := (h.own.lt g rfl).1
  have hch : Chg (fun x => x = g) wr (wr.setCell ⟨g, st.length, none⟩ tv) := (Chg.refl (fun x => x = g) wr).setCell (p := ⟨g, st.length, none⟩) (fun _ => rfl) _
  have hlay : ∀ {x : V}, Laid wr (fun x => x < B) x → Laid (wr.setCell ⟨g, st.length, none⟩ tv) (fun x => x < B) x := fun hx => hx.chg hch fun x _ hx e => by omega
  refine ⟨?_, fun p hp => ?_, ?_, ?_, h.blk⟩
  · have := own_top tv h.own
    rw [List.map_cons, List.reverse_cons]
    exact this
  · rcases List.mem_cons.1 hp with rfl | hp
    · exact hlay ht
    · exact hlay (h.rows p (by simp [hp]))
  · exact h.chg.setCell (p := ⟨g, st.length, none⟩) (fun hl => h.inR (g := g) rfl hl) _
  · exact (Below.heap_setCell _ _ _ _ (fun e => hne e.symm)).trans h.grp
theorem NH.push {w5 : World} {r : Value} {ps : List V} {g5 cap5 : Nat} {ob : Obj} (h : NH W base B G o cs ty rv0 st rv wr) (hB : B ≤ base) (hBG : B ≤ G) (hty : ty ≠ 25)
    (hr : Laid wr (fun x => x < B) (.node 0 zeros 0 0 r ps)) (hg : (wr.alloc ob).grownBy w5 rv.ownBlock) (hown : w5.ownsRow base 25 1 (.slice (some ⟨g5, 0, none⟩) (st.length + 1) cap5) (st.length + 1) ((st.map Prod.fst).reverse ++ [r]))
    (hat : rv.ownBlock = some g5 ∨ wr.heap.size ≤ g5) :
    NH W base B G o cs ty rv0 ((r, ps) :: st) (.slice (some ⟨g5, 0, none⟩) (st.length + 1) cap5) (w5.setCell ⟨G, o + 2, none⟩ (.slice (some ⟨g5, 0, none⟩) (st.length + 1) cap5)) := by
  have hch : Chg (fun x => rv.ownBlock = some x) wr w5 := ((Chg.refl (fun x => rv.ownBlock = some x) wr).alloc ob).grown hg fun k hk _ => hk
  have hGl := h.lt
  have hG5 : w5.heap[G]? = some (.cells (cs.setIfInBounds (o + 2) rv) ty (0, 0)) := (hch.block G hGl (fun e => h.off hty e rfl)).trans h.grp
  have hne : g5 ≠ G := by
    rcases hat with e | e
    · exact h.off hty e
    · omega
  have hlay : ∀ {x : V}, Laid wr (fun x => x < B) x → Laid (w5.setCell ⟨G, o + 2, none⟩ (.slice (some ⟨g5, 0, none⟩) (st.length + 1) cap5)) (fun x => x < B) x := fun hx =>
    (hx.chg hch fun x _ hx e => by have := (h.own.lt x e).1; omega).chg ((Chg.refl (fun x => x = G) w5).setCell (p := ⟨G, o + 2, none⟩) (fun _ => rfl) _) fun x _ hx e => by omega
  refine ⟨?_, fun p hp => ?_, ?_, ?_, ?_⟩
  · rw [List.map_cons, List.reverse_cons]
    exact own_chg hown ((Chg.refl (fun x => x = G) w5).setCell (p := ⟨G, o + 2, none⟩) (fun _ => rfl) _) fun b hb e => hne (by have : g5 = b := Option.some.inj hb; omega)
  · rcases List.mem_cons.1 hp with rfl | hp
    · exact hlay hr
    · exact hlay (h.rows p hp)
  · exact (h.chg.trans hch fun x hx e => h.inR e hx).setCell (p := ⟨G, o + 2, none⟩) (fun _ => .inl rfl) _
  · rw [heap_setCell_same w5 G (o + 2) _ ty _ hG5, Array.setIfInBounds_setIfInBounds]
  · rcases hat with e | e
    · rcases h.blk with e2 | e2
      · exact .inl ((show (Value.slice (some ⟨g5, 0, none⟩) (st.length + 1) cap5).ownBlock = some g5 from rfl).trans (e.symm.trans e2))
      · exact .inr fun g hg => by have : g5 = g := Option.some.inj hg; subst this; exact e2 g5 e
    · exact .inr fun g hg => by have : g5 = g := Option.some.inj hg; subst this; have := h.chg.size; omega
/-- What the call for the next part comes to. -/
def NextR (W : World) (base B G o : Nat) (cs : Array Value) (ty : TypeId) (rv0 : Value) (k : Int) (st0 : List (Value × List V)) (e : Ending) (w' : World) : Prop :=
  ∃ st rv, NH W base B G o cs ty rv0 st rv w' ∧ ((todoF k st0 = [] ∧ st = [] ∧ e = .returned (.pointer none)) ∨
    ∃ p b off, e = .returned (.pointer (some ⟨b, off, none⟩)) ∧ NodeB B w' b off p ∧ todoF k st0 = p :: todoF k st ∧ wF st + 3 * szT (erase p) ≤ wF st0)

end Go.Proofs.Ytcnjogkgfdbhfaa
