/- What the call that adds a part to a group comes to: a contract.
   Conditions: those that the theorem states. -/
import Derived.Test.YtcnjogkgfdbhfaaTree
import Derived.Deep.RegionLaw
namespace Go.Proofs.Ytcnjogkgfdbhfaa
open Go.RowKit

/-- A slice in the cell ⟨B, o⟩ has got one element more, of those cells. -/
def Added (base B o : Nat) (v : Value) (xs : List Value) (n : Nat) (cells : List Value) (w w' : World) : Prop :=
  ∃ g cap, w'.ownsRow base 27 8 (.slice (some ⟨g, 0, none⟩) (n + 1) cap) (n + 1) (xs ++ cells) ∧ (v.ownBlock = some g ∨ w.heap.size ≤ g) ∧ g < w'.heap.size ∧
    w'.heap[B]? = (w.setCell ⟨B, o, none⟩ (.slice (some ⟨g, 0, none⟩) (n + 1) cap)).heap[B]? ∧ Chg (fun k => k = B ∨ v.ownBlock = some k) w w'

theorem own_form {w : World} {base : Nat} {e : TypeId} {size : Nat} {v : Value} {n : Nat} {xs : List Value} (h : w.ownsRow base e size v n xs) : ∃ A cp, v = .slice A n cp := by
  rcases h.2 with ⟨rfl, rfl⟩ | ⟨g, cap, cur, rfl, _⟩
  · exact ⟨none, 0, rfl⟩
  · exact ⟨_, _, rfl⟩
theorem news_zero (wa : World) (H : Nat) (h : wa.heap.size = H) : ∀ j u, zndc[j]? = some u → (wa.alloc (.cells #[.int .i64 0, .int .u64 0, .int .u64 0, .int .u64 0, .int .u64 0, .slice none 0 0, .int .i64 0, .int .i64 0] 27)).cell? ((⟨H, 0, none⟩ : Addr).add j) = some u := by
  subst h
  exact World.news_of_block (heap_alloc_new wa _)

theorem app_cells {w2 : World} {base g n cap : Nat} {xs : List Value} (h : w2.ownsRow base 27 8 (.slice (some ⟨g, 0, none⟩) (n + 1) cap) (n + 1) (xs ++ zndc)) (hx : xs.length = n * 8) :
    (w2.cell? ⟨g, n * 8, none⟩ = some (.int .i64 0) ∧ w2.cell? ⟨g, n * 8 + 1, none⟩ = some (.int .u64 0) ∧ w2.cell? ⟨g, n * 8 + 2, none⟩ = some (.int .u64 0) ∧ w2.cell? ⟨g, n * 8 + 3, none⟩ = some (.int .u64 0)) ∧
    (w2.cell? ⟨g, n * 8 + 4, none⟩ = some (.int .u64 0) ∧ w2.cell? ⟨g, n * 8 + 5, none⟩ = some (.slice none 0 0) ∧ w2.cell? ⟨g, n * 8 + 6, none⟩ = some (.int .i64 0) ∧ w2.cell? ⟨g, n * 8 + 7, none⟩ = some (.int .i64 0)) ∧
    (∀ j, w2.frozen? ⟨g, j, none⟩ = false) := by
  have hc : ∀ j, j < 8 → w2.cell? ⟨g, n * 8 + j, none⟩ = zndc[j]? := fun j hj => by
    rw [h.cellAt (n * 8 + j) (by omega), List.getElem?_append_right (by omega), hx, show n * 8 + j - n * 8 = j by omega]
  exact ⟨⟨hc 0 (by decide), hc 1 (by decide), hc 2 (by decide), hc 3 (by decide)⟩, ⟨hc 4 (by decide), hc 5 (by decide), hc 6 (by decide), hc 7 (by decide)⟩, fun j => h.frozenAt j⟩
theorem app_field {w wa w2 : World} {B x g n : Nat} {v : Value} {A : Option Addr} {cp : Nat} (hgrow : wa.grownBy w2 (Value.slice A n cp).ownBlock) (hwa : Chg (fun _ => False) w wa) (hB : B < w.heap.size) (hne : (Value.slice A n cp).ownBlock ≠ some B)
    (hg : (Value.slice A n cp).ownBlock = some g ∨ g = wa.heap.size) (hv : w.cell? ⟨B, x, none⟩ = some v) (hf : w.frozen? ⟨B, x, none⟩ = false) : w2.cell? ⟨B, x, none⟩ = some v ∧ w2.frozen? ⟨B, x, none⟩ = false ∧ g ≠ B ∧ B ≠ g ∧ w2.heap[B]? = w.heap[B]? := by
  have h1 := hwa.block B hB (fun h => h)
  have h2 := hgrow.block B (Nat.lt_of_lt_of_le hB hwa.size) (fun e => hne e.symm)
  have h3 : w2.heap[B]? = w.heap[B]? := h2.trans h1
  have h4 : g ≠ B := by
    rcases hg with hg | hg
    · rintro rfl; exact hne hg
    · have := hwa.size; omega
  exact ⟨(World.cell?_of_block (w := w) h3).trans hv, (World.frozen?_of_block (w := w) h3).trans hf, h4, fun e => h4 e.symm, h3⟩
/-- Behind both stores, in either order. -/
theorem added_of {w wa w2 w3 : World} {base B x g n cap : Nat} {v : Value} {A : Option Addr} {cp : Nat} {xs : List Value} {a0 a1 a2 a3 a4 a5 a6 a7 : Value} (hgrow : wa.grownBy w2 (Value.slice A n cp).ownBlock) (hwa : Chg (fun _ => False) w wa) (hB : B < w.heap.size) (hne : (Value.slice A n cp).ownBlock ≠ some B)
    (hg : (Value.slice A n cp).ownBlock = some g ∨ g = wa.heap.size) (hlt : g < w2.heap.size) (hv : w.cell? ⟨B, x, none⟩ = some v) (hf : w.frozen? ⟨B, x, none⟩ = false)
    (hx : xs.length = n * 8) (h : w2.ownsRow base 27 8 (.slice (some ⟨g, 0, none⟩) (n + 1) cap) (n + 1) (xs ++ zndc))
    (h3 : w3 = (store8 w2 g (n * 8) a0 a1 a2 a3 a4 a5 a6 a7).setCell ⟨B, x, none⟩ (.slice (some ⟨g, 0, none⟩) (n + 1) cap) ∨ w3 = store8 (w2.setCell ⟨B, x, none⟩ (.slice (some ⟨g, 0, none⟩) (n + 1) cap)) g (n * 8) a0 a1 a2 a3 a4 a5 a6 a7) :
    Added base B x (.slice A n cp) xs n [a0, a1, a2, a3, a4, a5, a6, a7] w w3 := by
  obtain ⟨_, _, h4, h5, h6⟩ := app_field (v := v) hgrow hwa hB hne hg hv hf
  have c2 : Chg (fun k => k = B ∨ (Value.slice A n cp).ownBlock = some k) w w2 := (hwa.mono (fun _ _ h => h.elim)).grown hgrow fun k hk _ => .inr hk
  have hge : (Value.slice A n cp).ownBlock = some g ∨ w.heap.size ≤ g := hg.imp id fun e => by have := hwa.size; omega
  have hgR : g < w.heap.size → (g = B ∨ (Value.slice A n cp).ownBlock = some g) := fun hl => by
    rcases hge with e | e
    · exact .inr e
    · omega
  refine ⟨g, cap, ?_, hge, ?_, ?_, ?_⟩
  · rcases h3 with rfl | rfl
    · refine own_heap (store8_own a0 a1 a2 a3 a4 a5 a6 a7 hx h) fun b hb => ?_
      have : b = g := by simpa [Value.ownBlock] using hb.symm
      subst this
      exact Below.heap_setCell _ _ _ _ h4
    · refine store8_own a0 a1 a2 a3 a4 a5 a6 a7 hx (z0 := .int .i64 0) (z1 := .int .u64 0) (z2 := .int .u64 0) (z3 := .int .u64 0) (z4 := .int .u64 0) (z5 := .slice none 0 0) (z6 := .int .i64 0) (z7 := .int .i64 0) (own_heap h fun b hb => ?_)
      have : b = g := by simpa [Value.ownBlock] using hb.symm
      subst this
      exact Below.heap_setCell _ _ _ _ h4
  · rcases h3 with rfl | rfl
    · simp [store8_size]; exact hlt
    · rw [store8_size]; simp; exact hlt
  · rcases h3 with rfl | rfl
    · exact set_heap ((store8_heap _ _ _ _ _ _ _ _ _ _ _ _ h5).trans h6)
    · rw [store8_heap _ _ _ _ _ _ _ _ _ _ _ _ h5]
      exact set_heap h6
  · rcases h3 with rfl | rfl
    · exact (store8_chg c2 hgR _ _ _ _ _ _ _ _ _).setCell (p := ⟨B, x, none⟩) (fun _ => .inl rfl) _
    · exact store8_chg (c2.setCell (p := ⟨B, x, none⟩) (fun _ => .inl rfl) _) hgR _ _ _ _ _ _ _ _ _

theorem added_l {w wa w2 : World} {base B x g n cap : Nat} {v : Value} {A : Option Addr} {cp : Nat} {xs : List Value} {a0 a1 a2 a3 a4 a5 a6 a7 : Value} (hgrow : wa.grownBy w2 (Value.slice A n cp).ownBlock) (hwa : Chg (fun _ => False) w wa) (hB : B < w.heap.size) (hne : (Value.slice A n cp).ownBlock ≠ some B)
    (hg : (Value.slice A n cp).ownBlock = some g ∨ g = wa.heap.size) (hlt : g < w2.heap.size) (hv : w.cell? ⟨B, x, none⟩ = some v) (hf : w.frozen? ⟨B, x, none⟩ = false)
    (hx : xs.length = n * 8) (h : w2.ownsRow base 27 8 (.slice (some ⟨g, 0, none⟩) (n + 1) cap) (n + 1) (xs ++ zndc)) :
    Added base B x (.slice A n cp) xs n [a0, a1, a2, a3, a4, a5, a6, a7] w (((((((((w2.setCell ⟨g, n * 8, none⟩ a0).setCell ⟨g, n * 8 + 1, none⟩ a1).setCell ⟨g, n * 8 + 2, none⟩ a2).setCell ⟨g, n * 8 + 3, none⟩ a3).setCell ⟨g, n * 8 + 4, none⟩ a4).setCell ⟨g, n * 8 + 5, none⟩ a5).setCell ⟨g, n * 8 + 6, none⟩ a6).setCell ⟨g, n * 8 + 7, none⟩ a7).setCell ⟨B, x, none⟩ (.slice (some ⟨g, 0, none⟩) (n + 1) cap)) :=
  added_of hgrow hwa hB hne hg hlt hv hf hx h (.inl rfl)
theorem added_r {w wa w2 : World} {base B x g n cap : Nat} {v : Value} {A : Option Addr} {cp : Nat} {xs : List Value} {a0 a1 a2 a3 a4 a5 a6 a7 : Value} (hgrow : wa.grownBy w2 (Value.slice A n cp).ownBlock) (hwa : Chg (fun _ => False) w wa) (hB : B < w.heap.size) (hne : (Value.slice A n cp).ownBlock ≠ some B)
    (hg : (Value.slice A n cp).ownBlock = some g ∨ g = wa.heap.size) (hlt : g < w2.heap.size) (hv : w.cell? ⟨B, x, none⟩ = some v) (hf : w.frozen? ⟨B, x, none⟩ = false)
    (hx : xs.length = n * 8) (h : w2.ownsRow base 27 8 (.slice (some ⟨g, 0, none⟩) (n + 1) cap) (n + 1) (xs ++ zndc)) :
    Added base B x (.slice A n cp) xs n [a0, a1, a2, a3, a4, a5, a6, a7] w (((((((((w2.setCell ⟨B, x, none⟩ (.slice (some ⟨g, 0, none⟩) (n + 1) cap)).setCell ⟨g, n * 8, none⟩ a0).setCell ⟨g, n * 8 + 1, none⟩ a1).setCell ⟨g, n * 8 + 2, none⟩ a2).setCell ⟨g, n * 8 + 3, none⟩ a3).setCell ⟨g, n * 8 + 4, none⟩ a4).setCell ⟨g, n * 8 + 5, none⟩ a5).setCell ⟨g, n * 8 + 6, none⟩ a6).setCell ⟨g, n * 8 + 7, none⟩ a7) :=
  added_of hgrow hwa hB hne hg hlt hv hf hx h (.inr rfl)

end Go.Proofs.Ytcnjogkgfdbhfaa
