/- Trees, and how they lie in memory: plain facts.
   Conditions: those that each theorem states. -/
import Derived.Test.YtcnjogkgfdbhfaaSetw
import Derived.Deep.AppendLies
import Derived.WalkSmall
namespace Go.Proofs.Ytcnjogkgfdbhfaa
open Go.RowKit

/-- A tree as it lies in memory: its kind, its class, its bounds, the slice of its parts, and these. -/
inductive V where
  | node (k : Int) (C : Nat → Nat) (lo hi : Int) (v : Value) (ps : List V)
def V.kind : V → Int | .node k _ _ _ _ _ => k
def V.set : V → Nat → Nat | .node _ C _ _ _ _ => C
def V.lo : V → Int | .node _ _ l _ _ _ => l
def V.hi : V → Int | .node _ _ _ h _ _ => h
def V.v : V → Value | .node _ _ _ _ v _ => v
def V.ps : V → List V | .node _ _ _ _ _ p => p
/-- The eight cells of a node. -/
def ndc (t : V) : List Value := [.int .i64 t.kind, .int .u64 (t.set 0 : Nat), .int .u64 (t.set 1 : Nat), .int .u64 (t.set 2 : Nat), .int .u64 (t.set 3 : Nat), t.v, .int .i64 t.lo, .int .i64 t.hi]
theorem ndc_length (t : V) : (ndc t).length = 8 := rfl

/-- The tree's slices hold its parts, in blocks that R allows. -/
inductive Laid (w : World) (R : Nat → Prop) : V → Prop where
  | none (k : Int) (C : Nat → Nat) (lo hi : Int) (a : Option Addr) (cap : Nat) : Laid w R (.node k C lo hi (.slice a 0 cap) [])
  | some (k : Int) (C : Nat → Nat) (lo hi : Int) (ps : List V) (b off cap : Nat) (hR : R b) (hlt : b < w.heap.size) (hcap : ps.length ≤ cap)
      (hc : ∀ i t, ps[i]? = some t → ∀ j u, (ndc t)[j]? = some u → w.cell? ⟨b, off + i * 8 + j, none⟩ = some u)
      (hk : ∀ t, t ∈ ps → Laid w R t) : Laid w R (.node k C lo hi (.slice (some ⟨b, off, none⟩) ps.length cap) ps)

theorem Laid.keep {w w' : World} {R R' : Nat → Prop} {t : V} (h : Laid w R t) (hR : ∀ b, b < w.heap.size → R b → R' b) (hs : w.heap.size ≤ w'.heap.size) (hw : ∀ b, b < w.heap.size → R b → w'.heap[b]? = w.heap[b]?) : Laid w' R' t := by
  induction h with
  | none k C lo hi a cap => exact .none k C lo hi a cap
  | some k C lo hi ps b off cap hRb hlt hcap hc hk ih =>
    refine .some k C lo hi ps b off cap (hR b hlt hRb) (Nat.lt_of_lt_of_le hlt hs) hcap (fun i t ht j u hu => ?_) ih
    rw [← hc i t ht j u hu]
    exact World.cell?_of_block (w := w) (hw b hlt hRb)
theorem Laid.mono {w : World} {R R' : Nat → Prop} {t : V} (h : Laid w R t) (hR : ∀ b, b < w.heap.size → R b → R' b) : Laid w R' t := h.keep hR (Nat.le_refl _) fun _ _ _ => rfl
theorem Laid.chg {w w' : World} {R Q : Nat → Prop} {t : V} (h : Laid w R t) (hc : Chg Q w w') (hRQ : ∀ b, b < w.heap.size → R b → ¬ Q b) : Laid w' R t :=
  h.keep (fun _ _ hr => hr) hc.size fun b hb hr => hc.block b hb (hRQ b hb hr)
theorem Laid.form {w : World} {R : Nat → Prop} {t : V} (h : Laid w R t) : ∃ a c, t.v = .slice a t.ps.length c ∧ t.ps.length ≤ c ∨ t.ps = [] ∧ t.v = .slice a 0 c := by
  cases h with
  | none k C lo hi a cap => exact ⟨a, cap, .inr ⟨rfl, rfl⟩⟩
  | some k C lo hi ps b off cap hRb hlt hcap hc hk => exact ⟨_, cap, .inl ⟨rfl, hcap⟩⟩
theorem Laid.slice {w : World} {R : Nat → Prop} {t : V} (h : Laid w R t) : ∃ a n c, t.v = .slice a n c := by
  obtain ⟨a, c, h | h⟩ := h.form
  · exact ⟨a, _, c, h.1⟩
  · exact ⟨a, _, c, h.2⟩

/-- The cells of all. -/
def flat (ps : List V) : List Value := ps.flatMap ndc
theorem flat_nil : flat [] = [] := rfl
theorem flat_snoc (ps : List V) (p : V) : flat (ps ++ [p]) = flat ps ++ ndc p := by unfold flat; simp
theorem flat_length (ps : List V) : (flat ps).length = ps.length * 8 := by
  induction ps with
  | nil => rfl
  | cons p ps ih =>
    have e : flat (p :: ps) = ndc p ++ flat ps := by unfold flat; rw [List.flatMap_cons]
    rw [e, List.length_append, ih, ndc_length, List.length_cons]
    omega
theorem flat_at : ∀ (ps : List V) (i : Nat) (p : V), ps[i]? = some p → ∀ j, j < 8 → (flat ps)[i * 8 + j]? = (ndc p)[j]?
  | [], i, p, h, _, _ => by simp at h
  | q :: ps, 0, p, h, j, hj => by
    simp at h
    subst h
    unfold flat
    rw [List.flatMap_cons, Nat.zero_mul, Nat.zero_add, List.getElem?_append_left (by rw [ndc_length]; exact hj)]
  | q :: ps, i + 1, p, h, j, hj => by
    have ih := flat_at ps i p (by simpa using h) j hj
    unfold flat at ih ⊢
    rw [List.flatMap_cons, List.getElem?_append_right (by rw [ndc_length]; omega), ndc_length, show (i + 1) * 8 + j - 8 = i * 8 + j by omega]
    exact ih
def nilV : Value := .slice none 0 0
def zeroV : V := .node 0 zeros 0 0 (.slice none 0 0) []
theorem zeroV_laid (w : World) (R : Nat → Prop) : Laid w R zeroV := .none 0 zeros 0 0 none 0

theorem info27 : (Try.prog.info? 27).map (fun i => (i.zero, i.size, i.bytes)) = some (some (.agg #[.int .i64 0, .int .u64 0, .int .u64 0, .int .u64 0, .int .u64 0, .slice none 0 0, .int .i64 0, .int .i64 0]), 8, 80) := by kernel_rfl
theorem one_ndc (t : V) (hv : t.v.oneCell' = true) : ∀ u ∈ ndc t, u.oneCell' = true := by
  intro u hu
  simp [ndc] at hu
  rcases hu with rfl | rfl | rfl | rfl | rfl | rfl | rfl | rfl <;> first | rfl | exact hv
def zndc : List Value := [.int .i64 0, .int .u64 0, .int .u64 0, .int .u64 0, .int .u64 0, .slice none 0 0, .int .i64 0, .int .i64 0]
theorem one_zndc : ∀ u ∈ zndc, u.oneCell' = true := by
  intro u hu
  simp [zndc] at hu
  rcases hu with rfl | rfl | rfl | rfl <;> rfl
/-- Eight cells stored one after another. -/
def store8 (w : World) (g o : Nat) (a0 a1 a2 a3 a4 a5 a6 a7 : Value) : World := (((((((w.setCell ⟨g, o, none⟩ a0).setCell ⟨g, o + 1, none⟩ a1).setCell ⟨g, o + 2, none⟩ a2).setCell ⟨g, o + 3, none⟩ a3).setCell ⟨g, o + 4, none⟩ a4).setCell ⟨g, o + 5, none⟩ a5).setCell ⟨g, o + 6, none⟩ a6).setCell ⟨g, o + 7, none⟩ a7
theorem set_at {xs zs : List Value} {o : Nat} (hx : xs.length = o) (j : Nat) (u : Value) : (xs ++ zs).set (o + j) u = xs ++ zs.set j u := by
  rw [List.set_append_right _ _ (by omega)]
  congr 2
  omega
theorem store8_own {w : World} {base g m cap o : Nat} {xs : List Value} {z0 z1 z2 z3 z4 z5 z6 z7 : Value} (a0 a1 a2 a3 a4 a5 a6 a7 : Value) (hx : xs.length = o) (h : w.ownsRow base 27 8 (.slice (some ⟨g, 0, none⟩) m cap) m (xs ++ [z0, z1, z2, z3, z4, z5, z6, z7])) :
    (store8 w g o a0 a1 a2 a3 a4 a5 a6 a7).ownsRow base 27 8 (.slice (some ⟨g, 0, none⟩) m cap) m (xs ++ [a0, a1, a2, a3, a4, a5, a6, a7]) := by
  unfold store8
  have h0 := (h.stored (o + 0) a0).1
  rw [set_at hx] at h0
  have h1 := (h0.stored (o + 1) a1).1
  rw [set_at hx] at h1
  have h2 := (h1.stored (o + 2) a2).1
  rw [set_at hx] at h2
  have h3 := (h2.stored (o + 3) a3).1
  rw [set_at hx] at h3
  have h4 := (h3.stored (o + 4) a4).1
  rw [set_at hx] at h4
  have h5 := (h4.stored (o + 5) a5).1
  rw [set_at hx] at h5
  have h6 := (h5.stored (o + 6) a6).1
  rw [set_at hx] at h6
  have h7 := (h6.stored (o + 7) a7).1
  rw [set_at hx] at h7
  exact h7
theorem store8_heap (w : World) (g o : Nat) (a0 a1 a2 a3 a4 a5 a6 a7 : Value) (k : Nat) (h : k ≠ g) : (store8 w g o a0 a1 a2 a3 a4 a5 a6 a7).heap[k]? = w.heap[k]? := by
  unfold store8
  repeat (rw [Below.heap_setCell _ _ _ _ h])
theorem store8_chg {R : Nat → Prop} {a w : World} (h : Chg R a w) {g : Nat} (hg : g < a.heap.size → R g) (o : Nat) (a0 a1 a2 a3 a4 a5 a6 a7 : Value) : Chg R a (store8 w g o a0 a1 a2 a3 a4 a5 a6 a7) :=
  (((((((h.setCell (p := ⟨g, o, none⟩) hg _).setCell (p := ⟨g, o + 1, none⟩) hg _).setCell (p := ⟨g, o + 2, none⟩) hg _).setCell (p := ⟨g, o + 3, none⟩) hg _).setCell (p := ⟨g, o + 4, none⟩) hg _).setCell (p := ⟨g, o + 5, none⟩) hg _).setCell (p := ⟨g, o + 6, none⟩) hg _).setCell (p := ⟨g, o + 7, none⟩) hg _
theorem store8_size (w : World) (g o : Nat) (a0 a1 a2 a3 a4 a5 a6 a7 : Value) : (store8 w g o a0 a1 a2 a3 a4 a5 a6 a7).heap.size = w.heap.size := by unfold store8; simp
theorem set_heap {w w1 : World} {B x : Nat} {u : Value} (h : w1.heap[B]? = w.heap[B]?) : (w1.setCell ⟨B, x, none⟩ u).heap[B]? = (w.setCell ⟨B, x, none⟩ u).heap[B]? := by
  simp [World.setCell, Array.getElem?_modify, h]
theorem own_heap {w w' : World} {base : Nat} {e : TypeId} {size : Nat} {v : Value} {n : Nat} {xs : List Value} (h : w.ownsRow base e size v n xs) (hw : ∀ b, v.ownBlock = some b → w'.heap[b]? = w.heap[b]?) : w'.ownsRow base e size v n xs := by
  refine ⟨h.1, ?_⟩
  rcases h.2 with hn | ⟨g, cap, cur, rfl, hb, hg, rest⟩
  · exact .inl hn
  · exact .inr ⟨g, cap, cur, rfl, hb, (hw g rfl).trans hg, rest⟩
theorem own_chg {w w' : World} {Q : Nat → Prop} {base : Nat} {e : TypeId} {size : Nat} {v : Value} {n : Nat} {xs : List Value} (h : w.ownsRow base e size v n xs) (hc : Chg Q w w') (hv : ∀ b, v.ownBlock = some b → ¬ Q b) : w'.ownsRow base e size v n xs :=
  own_heap h fun b hb => hc.block b (h.lt b hb).2 (hv b hb)

end Go.Proofs.Ytcnjogkgfdbhfaa
