/- A tree laid as a list of nodes: the contract.
   Conditions: the tree lies in memory. -/
import Derived.Test.YtdjddmkmcdfmiaaDoorNE
import Derived.Test.YtdjddmkmcdfmiaaDoorMLikeA
import Derived.Test.YtdjddmkmcdfmiaaDoorMForm
import Derived.Test.YtdjddmkmcdfmiaaDoorMMelt

/- A tree as a list of nodes, in memory: plain facts.
   Conditions: those that each theorem states. -/
namespace Go.Proofs.YtdjddmkmcdfmiaaDoor
open Go.RowKit Go.Shelf

def cellsL (M : Nat → Nat → Value) (n : Nat) : List Value := (List.range (n * 7)).map fun x => M (x / 7) (x % 7)
theorem cellsL_len (M : Nat → Nat → Value) (n : Nat) : (cellsL M n).length = n * 7 := by simp [cellsL]
theorem cellsL_at (M : Nat → Nat → Value) {n x : Nat} (h : x < n * 7) : (cellsL M n)[x]? = some (M (x / 7) (x % 7)) := by
  unfold cellsL
  rw [List.getElem?_map, List.getElem?_range h]
  rfl
theorem cellsL_get (M : Nat → Nat → Value) {n j k : Nat} (hj : j < n) (hk : k < 7) : (cellsL M n)[j * 7 + k]? = some (M j k) := by
  rw [cellsL_at M (by omega), show (j * 7 + k) / 7 = j by omega, show (j * 7 + k) % 7 = k by omega]
def updM (M : Nat → Nat → Value) (j k : Nat) (v : Value) (j' k' : Nat) : Value := if j' = j ∧ k' = k then v else M j' k'
theorem cellsL_congr {M M' : Nat → Nat → Value} {n : Nat} (h : ∀ j, j < n → ∀ k, k < 7 → M j k = M' j k) : cellsL M n = cellsL M' n := by
  unfold cellsL
  refine List.map_congr_left fun x hx => h _ ?_ _ (by omega)
  rw [List.mem_range] at hx
  omega
theorem cellsL_set (M : Nat → Nat → Value) {n j k : Nat} (hk : k < 7) (v : Value) : (cellsL M n).set (j * 7 + k) v = cellsL (updM M j k v) n := by
  apply List.ext_getElem?
  intro x
  rw [List.getElem?_set, cellsL_len]
  by_cases hx : x < n * 7
  · rw [cellsL_at _ hx, cellsL_at _ hx]
    unfold updM
    by_cases e : j * 7 + k = x
    · rw [if_pos e, if_pos (by omega), if_pos (by omega)]
    · rw [if_neg e, if_neg (by omega)]
  · rw [List.getElem?_eq_none (by rw [cellsL_len]; omega), List.getElem?_eq_none (by rw [cellsL_len]; omega)]
    split
    · rw [if_neg (by omega)]
    · rfl
def rowU (M : Nat → Nat → Value) (n : Nat) (l : List Value) (j k : Nat) : Value := if j = n then l.getD k undef else M j k
theorem cellsL_snoc (M : Nat → Nat → Value) (n : Nat) (l : List Value) (hl : l.length = 7) : cellsL M n ++ l = cellsL (rowU M n l) (n + 1) := by
  apply List.ext_getElem?
  intro x
  by_cases hx : x < n * 7
  · rw [List.getElem?_append_left (by rw [cellsL_len]; exact hx), cellsL_at _ hx, cellsL_at _ (by omega)]
    unfold rowU
    rw [if_neg (by omega)]
  · rw [List.getElem?_append_right (by rw [cellsL_len]; omega), cellsL_len]
    by_cases h2 : x < (n + 1) * 7
    · rw [cellsL_at _ h2]
      unfold rowU
      rw [if_pos (by omega), List.getD_eq_getElem?_getD, show x % 7 = x - n * 7 by omega, List.getElem?_eq_getElem (by omega)]
      rfl
    · rw [List.getElem?_eq_none (by omega), List.getElem?_eq_none (by rw [cellsL_len]; omega)]
/-- A list of nodes in memory. -/
abbrev TabO (w : World) (B g cap n : Nat) (M : Nat → Nat → Value) : Prop := w.ownsRow B 84 7 (.slice (some ⟨g, 0, none⟩) n cap) n (cellsL M n)
theorem tabO_cell {w : World} {B g cap n : Nat} {M : Nat → Nat → Value} (h : TabO w B g cap n M) {j k : Nat} (hj : j < n) (hk : k < 7) : w.cell? ⟨g, j * 7 + k, none⟩ = some (M j k) := by
  rw [h.cellAt _ (by omega), cellsL_get M hj hk]
theorem tabO_set {w : World} {B g cap n : Nat} {M : Nat → Nat → Value} (h : TabO w B g cap n M) {j k : Nat} (hk : k < 7) (v : Value) : TabO (w.setCell ⟨g, j * 7 + k, none⟩ v) B g cap n (updM M j k v) := by
  have := (h.stored (j * 7 + k) v).1
  rwa [cellsL_set M hk v] at this
theorem tabO_congr {w : World} {B g cap n : Nat} {M M' : Nat → Nat → Value} (h : TabO w B g cap n M) (e : ∀ j, j < n → ∀ k, k < 7 → M j k = M' j k) : TabO w B g cap n M' := by
  unfold TabO at h ⊢
  rw [← cellsL_congr e]
  exact h
theorem tabO_keep {w w' : World} {B g cap n : Nat} {M : Nat → Nat → Value} (h : TabO w B g cap n M) (hw : w'.heap[g]? = w.heap[g]?) : TabO w' B g cap n M := own_heap h fun b hb => by
  have : g = b := Option.some.inj hb
  subst this
  exact hw
/-- What stands in a list of nodes. -/
def entM (P : Nat → Nat × Nat) (ou fi : Nat → Nat) (sz : Nat → Int) (fr tt : Nat → Nat) (md : Nat → Value) (j k : Nat) : Value :=
  [.pointer (some ⟨(P j).1, (P j).2, none⟩), .int .i64 (ou j : Nat), .int .i64 (fi j : Nat), .int .i64 (sz j), .int .i64 (fr j : Nat), .int .i64 (tt j : Nat), md j].getD k undef
def fupd {α : Type} (f : Nat → α) (a : Nat) (v : α) (j : Nat) : α := if j = a then v else f j
theorem fupd_same {α : Type} (f : Nat → α) (a : Nat) (v : α) : fupd f a v a = v := by unfold fupd; rw [if_pos rfl]
theorem fupd_ne {α : Type} (f : Nat → α) (a : Nat) (v : α) {j : Nat} (h : j ≠ a) : fupd f a v j = f j := by unfold fupd; rw [if_neg h]
theorem upd_ent {P : Nat → Nat × Nat} {ou fi : Nat → Nat} {sz : Nat → Int} {fr tt : Nat → Nat} {md : Nat → Value} (a : Nat) : ∀ (j k : Nat), k < 7 →
    (∀ v, updM (entM P ou fi sz fr tt md) a 2 (.int .i64 (v : Nat)) j k = entM P ou (fupd fi a v) sz fr tt md j k) ∧
    (∀ v, updM (entM P ou fi sz fr tt md) a 3 (.int .i64 v) j k = entM P ou fi (fupd sz a v) fr tt md j k) ∧
    (∀ v, updM (entM P ou fi sz fr tt md) a 4 (.int .i64 (v : Nat)) j k = entM P ou fi sz (fupd fr a v) tt md j k) ∧
    (∀ v, updM (entM P ou fi sz fr tt md) a 5 (.int .i64 (v : Nat)) j k = entM P ou fi sz fr (fupd tt a v) md j k) ∧
    (∀ v, updM (entM P ou fi sz fr tt md) a 6 v j k = entM P ou fi sz fr tt (fupd md a v) j k) := by
  intro j k hk
  unfold updM entM fupd
  by_cases e : j = a
  · subst e
    have : k = 0 ∨ k = 1 ∨ k = 2 ∨ k = 3 ∨ k = 4 ∨ k = 5 ∨ k = 6 := by omega
    rcases this with rfl | rfl | rfl | rfl | rfl | rfl | rfl <;> simp
  · simp [e]
theorem row_ent {P : Nat → Nat × Nat} {ou fi : Nat → Nat} {sz : Nat → Int} {fr tt : Nat → Nat} {md : Nat → Value} (n : Nat) (p : Nat × Nat) (o f : Nat) (s : Int) (x y : Nat) (v : Value) (j k : Nat) :
    rowU (entM P ou fi sz fr tt md) n [.pointer (some ⟨p.1, p.2, none⟩), .int .i64 (o : Nat), .int .i64 (f : Nat), .int .i64 s, .int .i64 (x : Nat), .int .i64 (y : Nat), v] j k = entM (fupd P n p) (fupd ou n o) (fupd fi n f) (fupd sz n s) (fupd fr n x) (fupd tt n y) (fupd md n v) j k := by
  unfold rowU entM fupd
  by_cases e : j = n
  · subst e
    simp
  · simp [e]
/-- What is known of a list of nodes, of which some have their parts in it. -/
structure LI (w0 : World) (t : V) (a n : Nat) (L : Nat → V) (P : Nat → Nat × Nat) (ou fi : Nat → Nat) (Q : List V) : Prop where
  n0 : 0 < n
  le : a ≤ n
  root : L 0 = t
  node : ∀ j, j < n → NodeAt w0 (P j).1 (P j).2 (L j) ∧ okT (erase (L j)) = true
  ch : ∀ j, j < a → j < fi j ∧ fi j + (L j).ps.length ≤ n
  kid : ∀ j, j < a → ∀ i p, (L j).ps[i]? = some p → L (fi j + i) = p ∧ ou (fi j + i) = j
  par : ∀ c, 0 < c → c < n → ou c < c ∧ ou c < a ∧ fi (ou c) ≤ c ∧ c < fi (ou c) + (L (ou c)).ps.length
  ql : Q.length = n - a
  q : ∀ d x, Q[d]? = some x → L (a + d) = x
  pot : szsT (erases Q) + a = szT (erase t)
/-- The same, while one gets its parts. -/
structure LJ (w0 : World) (t : V) (a n i : Nat) (L : Nat → V) (P : Nat → Nat × Nat) (ou fi : Nat → Nat) (Q : List V) : Prop where
  le : a < n
  il : i ≤ (L a).ps.length
  root : L 0 = t
  node : ∀ j, j < n + i → NodeAt w0 (P j).1 (P j).2 (L j) ∧ okT (erase (L j)) = true
  fa : fi a = n
  ch : ∀ j, j < a → j < fi j ∧ fi j + (L j).ps.length ≤ n
  kid : ∀ j, j < a → ∀ i p, (L j).ps[i]? = some p → L (fi j + i) = p ∧ ou (fi j + i) = j
  kidA : ∀ i' p, i' < i → (L a).ps[i']? = some p → L (n + i') = p ∧ ou (n + i') = a
  par : ∀ c, 0 < c → c < n → ou c < c ∧ ou c < a ∧ fi (ou c) ≤ c ∧ c < fi (ou c) + (L (ou c)).ps.length
  ql : Q.length = n - (a + 1)
  q : ∀ d x, Q[d]? = some x → L (a + 1 + d) = x
  pot : szsT (erases Q) + szsT (erases (L a).ps) + a + 1 = szT (erase t)
theorem szs_app (xs ys : List T) : szsT (xs ++ ys) = szsT xs + szsT ys := by
  induction xs with
  | nil => simp [szsT]
  | cons x xs ih => rw [List.cons_append, szsT, szsT, ih]; omega
theorem LI.open {w0 : World} {t : V} {a n : Nat} {L : Nat → V} {P : Nat → Nat × Nat} {ou fi : Nat → Nat} {Q : List V} (h : LI w0 t a n L P ou fi Q) (ha : a < n) : ∃ Q', LJ w0 t a n 0 L P ou (fupd fi a n) Q' := by
  cases Q with
  | nil => have := h.ql; simp at this; omega
  | cons x Q =>
    have hx : L a = x := by have := h.q 0 x rfl; rwa [Nat.add_zero] at this
    refine ⟨Q, ha, Nat.zero_le _, h.root, h.node, fupd_same _ _ _, fun j hj => ?_, fun j hj => ?_, fun i' p hi => by omega, fun c h0 hc => ?_, ?_, fun d y hy => ?_, ?_⟩
    · rw [fupd_ne _ _ _ (by omega)]; exact h.ch j hj
    · rw [fupd_ne _ _ _ (by omega)]; exact h.kid j hj
    · obtain ⟨p1, p2, p3⟩ := h.par c h0 hc
      rw [fupd_ne _ _ _ (by omega)]
      exact ⟨p1, p2, p3⟩
    · have := h.ql; simp at this; omega
    · have := h.q (d + 1) y (by rw [List.getElem?_cons_succ]; exact hy)
      rwa [show a + (d + 1) = a + 1 + d by omega] at this
    · have := h.pot
      rw [erases, szsT] at this
      rw [hx]
      have h2 := sz_eq x
      omega
theorem LJ.add {w0 : World} {t : V} {a n i : Nat} {L : Nat → V} {P : Nat → Nat × Nat} {ou fi : Nat → Nat} {Q : List V} (h : LJ w0 t a n i L P ou fi Q) {p : V} (hp : (L a).ps[i]? = some p) {b o f : Nat} (hb : NodeAt w0 b o p) (ho : okT (erase p) = true) :
    LJ w0 t a n (i + 1) (fupd L (n + i) p) (fupd P (n + i) (b, o)) (fupd ou (n + i) a) (fupd fi (n + i) f) Q := by
  have hlt := (List.getElem?_eq_some_iff.1 hp).1
  have hla : fupd L (n + i) p a = L a := fupd_ne _ _ _ (by have := h.le; omega)
  have hle := h.le
  refine ⟨h.le, by rw [hla]; omega, by rw [fupd_ne _ _ _ (by omega)]; exact h.root, fun j hj => ?_, by rw [fupd_ne _ _ _ (by omega)]; exact h.fa, fun j hj => ?_, fun j hj i' p' hp' => ?_, fun i' p' hi' hp' => ?_, fun c h0 hc => ?_, h.ql, fun d x hx => ?_, by rw [hla]; exact h.pot⟩
  · by_cases e : j = n + i
    · subst e; rw [fupd_same, fupd_same]; exact ⟨hb, ho⟩
    · rw [fupd_ne _ _ _ e, fupd_ne _ _ _ e]; exact h.node j (by omega)
  · rw [fupd_ne _ _ _ (by omega), fupd_ne _ _ _ (by omega)]; exact h.ch j hj
  · rw [fupd_ne _ _ _ (by omega)] at hp'
    have h1 := (h.ch j hj).2
    have h2 := (List.getElem?_eq_some_iff.1 hp').1
    rw [fupd_ne fi _ _ (by omega), fupd_ne _ _ _ (by omega), fupd_ne _ _ _ (by omega)]
    exact h.kid j hj i' p' hp'
  · rw [hla] at hp'
    by_cases e : i' = i
    · subst e
      rw [fupd_same, fupd_same]
      exact ⟨Option.some.inj (hp.symm.trans hp'), rfl⟩
    · rw [fupd_ne _ _ _ (by omega), fupd_ne _ _ _ (by omega)]
      exact h.kidA i' p' (by omega) hp'
  · obtain ⟨p1, p2, p3, p4⟩ := h.par c h0 hc
    rw [fupd_ne ou _ _ (by omega), fupd_ne _ _ _ (by omega), fupd_ne _ _ _ (by omega)]
    exact ⟨p1, p2, p3, p4⟩
  · have h1 := (List.getElem?_eq_some_iff.1 hx).1
    have h2 := h.ql
    rw [fupd_ne _ _ _ (by omega)]
    exact h.q d x hx
theorem LJ.close {w0 : World} {t : V} {a n i : Nat} {L : Nat → V} {P : Nat → Nat × Nat} {ou fi : Nat → Nat} {Q : List V} (h : LJ w0 t a n i L P ou fi Q) (hi : i = (L a).ps.length) : LI w0 t (a + 1) (n + i) L P ou fi (Q ++ (L a).ps) := by
  have hle := h.le
  have hq := h.ql
  refine ⟨by omega, by omega, h.root, h.node, fun j hj => ?_, fun j hj i' p' hp' => ?_, fun c h0 hc => ?_, by rw [List.length_append, hq]; omega, fun d x hx => ?_, ?_⟩
  · by_cases e : j = a
    · subst e; rw [h.fa]; omega
    · have := h.ch j (by omega); omega
  · by_cases e : j = a
    · subst e
      rw [h.fa]
      exact h.kidA i' p' (by have := (List.getElem?_eq_some_iff.1 hp').1; omega) hp'
    · exact h.kid j (by omega) i' p' hp'
  · by_cases hc2 : c < n
    · obtain ⟨p1, p2, p3, p4⟩ := h.par c h0 hc2
      exact ⟨p1, by omega, p3, p4⟩
    · obtain ⟨d, rfl⟩ : ∃ d, c = n + d := ⟨c - n, by omega⟩
      have hd : d < (L a).ps.length := by omega
      have := (h.kidA d _ (by omega) (List.getElem?_eq_getElem hd)).2
      rw [this, h.fa]
      omega
  · by_cases hd : d < Q.length
    · rw [List.getElem?_append_left hd] at hx
      exact h.q d x hx
    · rw [List.getElem?_append_right (by omega)] at hx
      have := (h.kidA (d - Q.length) x (by have := (List.getElem?_eq_some_iff.1 hx).1; omega) hx).1
      rw [← this]
      congr 1
      omega
  · have := h.pot
    rw [erases_append, szs_app]
    omega

end Go.Proofs.YtdjddmkmcdfmiaaDoor

/- A tree laid as a list of nodes: the contract.
   Conditions: the tree lies in memory. -/
namespace Go.Proofs.YtdjddmkmcdfmiaaDoor
open Go.RowKit Go.Shelf

theorem ent0 {P : Nat → Nat × Nat} {ou fi : Nat → Nat} {sz : Nat → Int} {fr tt : Nat → Nat} {md : Nat → Value} {j : Nat} : entM P ou fi sz fr tt md j 0 = .pointer (some ⟨(P j).1, (P j).2, none⟩) ∧ entM P ou fi sz fr tt md j 1 = .int .i64 (ou j : Nat) ∧ entM P ou fi sz fr tt md j 2 = .int .i64 (fi j : Nat) ∧ entM P ou fi sz fr tt md j 3 = .int .i64 (sz j) ∧ entM P ou fi sz fr tt md j 4 = .int .i64 (fr j : Nat) ∧ entM P ou fi sz fr tt md j 5 = .int .i64 (tt j : Nat) ∧ entM P ou fi sz fr tt md j 6 = md j := ⟨rfl, rfl, rfl, rfl, rfl, rfl, rfl⟩
/-- The cells of one node. -/
theorem ent_cells {w : World} {B g cap n : Nat} {P : Nat → Nat × Nat} {ou fi : Nat → Nat} {sz : Nat → Int} {fr tt : Nat → Nat} {md : Nat → Value} (h : TabO w B g cap n (entM P ou fi sz fr tt md)) {j : Nat} (hj : j < n) :
    w.cell? ⟨g, j * 7, none⟩ = some (.pointer (some ⟨(P j).1, (P j).2, none⟩)) ∧ w.cell? ⟨g, j * 7 + 1, none⟩ = some (.int .i64 (ou j : Nat)) ∧ w.cell? ⟨g, j * 7 + 2, none⟩ = some (.int .i64 (fi j : Nat)) ∧ w.cell? ⟨g, j * 7 + 3, none⟩ = some (.int .i64 (sz j)) ∧ w.cell? ⟨g, j * 7 + 4, none⟩ = some (.int .i64 (fr j : Nat)) ∧ w.cell? ⟨g, j * 7 + 5, none⟩ = some (.int .i64 (tt j : Nat)) ∧ w.cell? ⟨g, j * 7 + 6, none⟩ = some (md j) := by
  have q := fun k hk => tabO_cell h hj (k := k) hk
  exact ⟨q 0 (by omega), q 1 (by omega), q 2 (by omega), q 3 (by omega), q 4 (by omega), q 5 (by omega), q 6 (by omega)⟩

set_option maxHeartbeats 4000000 in
set_option maxRecDepth 100000 in
theorem weigh_any (B g cap n c : Nat) (P : Nat → Nat × Nat) (ou fi : Nat → Nat) (sz : Nat → Int) (fr tt : Nat → Nat) (md : Nat → Value) (w : World) (h : TabO w B g cap n (entM P ou fi sz fr tt md)) (hc : c < n) (ho : ou c < c) (hf : fr (ou c) < n) :
    Calls Tryd.prog 38 #[.slice (some ⟨g, 0, none⟩) n cap, .int .i64 (c : Nat)] w fun e w' => e = .returned (.tuple #[]) ∧ ∃ sz' fr' tt', TabO w' B g cap n (entM P ou fi sz' fr' tt' md) ∧ (fr' = fr ∧ tt' = tt ∨ fr' = fupd fr (ou c) c ∧ tt' = fupd tt (ou c) c) ∧ Chg (fun k => k = g) w w' := by
  obtain ⟨_, x1, _, x3, _, _, _⟩ := ent_cells h hc
  obtain ⟨_, _, _, y3, y4, y5, _⟩ := ent_cells h (show ou c < n by omega)
  have f3 := h.frozenAt (ou c * 7 + 3)
  have i1 : 0 ≤ (c : Int) ∧ (c : Int) < n := by omega
  have i2 : 0 ≤ (ou c : Int) ∧ (ou c : Int) < n := by omega
  have i3 : 0 ≤ (fr (ou c) : Int) ∧ (fr (ou c) : Int) < n := by omega
  have H := Lib.hid (And.intro h (And.intro hc (And.intro ho hf)))
  clear h
  go_enter Tryd.func38, Tryd.ntmps38
  go_wp2_with fail
  go_region_law (fail)
  all_goals
    have hT1 : TabO (w.setCell ⟨g, ou c * 7 + 3, none⟩ (.int .i64 (IntKind.i64.wrap (sz (ou c) + sz c)))).drew B g cap n (entM P ou fi (fupd sz (ou c) (IntKind.i64.wrap (sz (ou c) + sz c))) fr tt md) := by
      have := tabO_congr (tabO_set H.out.1 (j := ou c) (k := 3) (by omega) (.int .i64 (IntKind.i64.wrap (sz (ou c) + sz c)))) (M' := entM P ou fi (fupd sz (ou c) (IntKind.i64.wrap (sz (ou c) + sz c))) fr tt md) (fun j _ k hk => (upd_ent (ou c) j k hk).2.1 _)
      exact tabO_keep this rfl
    have hc1 : Chg (fun k => k = g) w (w.setCell ⟨g, ou c * 7 + 3, none⟩ (.int .i64 (IntKind.i64.wrap (sz (ou c) + sz c)))).drew := (chg_set w g _ _).drew
    generalize (w.setCell ⟨g, ou c * 7 + 3, none⟩ (.int .i64 (IntKind.i64.wrap (sz (ou c) + sz c)))).drew = w1 at *
    generalize fupd sz (ou c) (IntKind.i64.wrap (sz (ou c) + sz c)) = sz1 at *
    clear x1 x3 y3 y4 y5 f3
    obtain ⟨_, _, _, x3, _, _, _⟩ := ent_cells hT1 hc
    obtain ⟨_, _, _, _, y4, _, _⟩ := ent_cells hT1 (show ou c < n by omega)
    obtain ⟨_, _, _, z3, _, _, _⟩ := ent_cells hT1 hf
    have f4 := hT1.frozenAt (ou c * 7 + 4)
    have f5 := hT1.frozenAt (ou c * 7 + 5)
    have H1 := Lib.hid (And.intro hT1 hc1)
    clear hT1 hc1
    by_cases hlt : sz1 (fr (ou c)) < sz1 c
    · go_wp2_with fail
      go_region_law (fail)
      all_goals
        go_wp2_with fail
        go_end0
        refine ⟨rfl, sz1, fupd fr (ou c) c, fupd tt (ou c) c, ?_, .inr ⟨rfl, rfl⟩, ?_⟩
        · have h1 := tabO_congr (tabO_set H1.out.1 (j := ou c) (k := 4) (by omega) (.int .i64 (c : Nat))) (M' := entM P ou fi sz1 (fupd fr (ou c) c) tt md) (fun j _ k hk => (upd_ent (ou c) j k hk).2.2.1 _)
          have h2 := tabO_congr (tabO_set h1 (j := ou c) (k := 5) (by omega) (.int .i64 (c : Nat))) (M' := entM P ou fi sz1 (fupd fr (ou c) c) (fupd tt (ou c) c) md) (fun j _ k hk => (upd_ent (ou c) j k hk).2.2.2.1 _)
          exact tabO_keep h2 rfl
        · exact ((H1.out.2.drew).trans (chg_set _ g _ _) fun _ _ e => e).trans (chg_set _ g _ _) fun _ _ e => e
    · go_wp2_with fail
      go_region_law (fail)
      all_goals
        go_wp2_with fail
        go_end0
        exact ⟨rfl, sz1, fr, tt, tabO_keep H1.out.1 rfl, .inl ⟨rfl, rfl⟩, H1.out.2.drew⟩

theorem infoNd : (Tryd.prog.info? 84).map (fun i => (i.zero, i.size, i.bytes)) = some (some (.agg #[.pointer none, .int .i64 0, .int .i64 0, .int .i64 0, .int .i64 0, .int .i64 0, .slice none 0 0]), 7, 72) := by kernel_rfl
theorem LI.len {w0 : World} {t : V} {a n : Nat} {L : Nat → V} {P : Nat → Nat × Nat} {ou fi : Nat → Nat} {Q : List V} (h : LI w0 t a n L P ou fi Q) : n ≤ szT (erase t) ∧ (a < n → a < szT (erase t)) := by
  have h1 := h.ql
  have h2 := h.pot
  have h3 := len_sz Q
  have h4 := h.le
  omega
/-- What laid gives. -/
def LaidOut (w0 : World) (t : V) (g cap n : Nat) (w' : World) : Prop :=
  ∃ (L : Nat → V) (P : Nat → Nat × Nat) (ou fi : Nat → Nat) (sz : Nat → Int) (fr : Nat → Nat), TabO w' w0.heap.size g cap n (entM P ou fi sz fr fr fun _ => .slice none 0 0) ∧ LI w0 t n n L P ou fi [] ∧ (∀ j, j < n → fi j ≤ fr j ∧ (fr j < fi j + (L j).ps.length ∨ ((L j).ps.length = 0 ∧ fr j = fi j))) ∧ Below w0.heap.size w0 w'
set_option maxHeartbeats 8000000 in
set_option maxRecDepth 100000 in
theorem laid_any (t : V) (b o : Nat) (w0 : World) (ht : NodeAt w0 b o t) (hok : okT (erase t) = true) (hz : szT (erase t) ≤ 1000000) :
    Calls Tryd.prog 29 #[.pointer (some ⟨b, o, none⟩)] w0 fun e w' => ∃ g cap n, e = .returned (.slice (some ⟨g, 0, none⟩) n cap) ∧ LaidOut w0 t g cap n w' := by
  obtain ⟨i0, hi, hz0, hz1, hz2⟩ := info_parts infoNd
  have H0 := Lib.hid (And.intro ht (And.intro hok hz))
  have own0 := World.ownsRow_lit (e := 84) (size := 7) (base := w0.heap.size) w0 #[.pointer (some ⟨b, o, none⟩), .int .i64 0, .int .i64 0, .int .i64 1, .int .i64 0, .int .i64 0, .slice none 0 0] 1 (Nat.le_refl _) (by unfold maxLen; omega) (by simp)
  have hb0 : Below w0.heap.size w0 (w0.alloc (.cells #[.pointer (some ⟨b, o, none⟩), .int .i64 0, .int .i64 0, .int .i64 1, .int .i64 0, .int .i64 0, .slice none 0 0] 84)) := (Below.refl _ _).alloc (Nat.le_refl _) _
  have HB := Lib.hid (And.intro own0 hb0)
  clear ht hok own0 hb0
  go_enter Tryd.func29, Tryd.ntmps29
  go_wp2_with fail
  go_loopw [3, 4] (fun v3 v4 wr => ∃ (a n g cap : Nat) (L : Nat → V) (P : Nat → Nat × Nat) (ou fi : Nat → Nat) (sz : Nat → Int) (fr : Nat → Nat) (Q : List V), v3 = .slice (some ⟨g, 0, none⟩) n cap ∧ v4 = .int .i64 (a : Nat) ∧ TabO wr w0.heap.size g cap n (entM P ou fi sz fr fr fun _ => .slice none 0 0) ∧ LI w0 t a n L P ou fi Q ∧ (∀ j, j < a → fr j = fi j) ∧ Below w0.heap.size w0 wr) (fun _ v4 _ => match v4 with | .int _ i => szT (erase t) - i.toNat | _ => 0)
  case atStart =>
    refine ⟨0, 1, w0.heap.size, 1, fun _ => t, fun _ => (b, o), fun _ => 0, fun _ => 0, fun _ => 1, fun _ => 0, [t], rfl, rfl, HB.out.1, ⟨by omega, by omega, rfl, fun j hj => ⟨H0.out.1, H0.out.2.1⟩, fun j hj => by omega, fun j hj => by omega, fun c h0 hc => by omega, rfl, fun d x hx => ?_, by simp [erases, szsT]⟩, fun j hj => by omega, HB.out.2⟩
    cases d with
    | zero => exact Option.some.inj hx
    | succ d => simp at hx
  case round =>
    clear HB
    obtain ⟨a, n, g, cap, L, P, ou, fi, sz, fr, Q, rfl, rfl, hT, hL, hF, hB⟩ := hrel
    have HI := Lib.hid (And.intro hT (And.intro hL (And.intro hF hB)))
    have hle := hL.len
    have hnn : (n : Int) ≤ 1000000 := by omega
    by_cases han : a < n
    · have g1 : (a : Int) < n := by omega
      have i1 : 0 ≤ (a : Int) ∧ (a : Int) < n := by omega
      obtain ⟨x0, _, x2, _, x4, x5, _⟩ := ent_cells hT han
      have hnd := ((hL.node a han).1).keep hB
      obtain ⟨R, hR⟩ := (hL.node a han).1.laid
      obtain ⟨sa, sc, hv, hrow⟩ := laid_row' hR
      obtain ⟨_, _, _, _, _, c5, _, _⟩ := node_cells hnd.cell hnd.lt (Below.refl _ _)
      rw [hv] at c5
      have f2 := hT.frozenAt (a * 7 + 2)
      have f4 := hT.frozenAt (a * 7 + 4)
      have f5 := hT.frozenAt (a * 7 + 5)
      obtain ⟨pn, hpn⟩ : ∃ pn, pn = (L a).ps.length := ⟨_, rfl⟩
      rw [← hpn] at c5
      have HR := Lib.hid (And.intro hv (And.intro hrow (And.intro han (And.intro hpn hle))))
      clear hT hL hF hB hR hv hrow han hpn hnd hle
      go_wp2_with fail
      have hT1 : TabO (((wr.setCell ⟨g, a * 7 + 2, none⟩ (.int .i64 (n : Nat))).setCell ⟨g, a * 7 + 4, none⟩ (.int .i64 (n : Nat))).setCell ⟨g, a * 7 + 5, none⟩ (.int .i64 (n : Nat))) w0.heap.size g cap n (entM P ou (fupd fi a n) sz (fupd fr a n) (fupd fr a n) fun _ => .slice none 0 0) := by
        have h1 := tabO_congr (tabO_set HI.out.1 (j := a) (k := 2) (by omega) (.int .i64 (n : Nat))) (M' := entM P ou (fupd fi a n) sz fr fr fun _ => .slice none 0 0) (fun j _ k hk => (upd_ent a j k hk).1 _)
        have h2 := tabO_congr (tabO_set h1 (j := a) (k := 4) (by omega) (.int .i64 (n : Nat))) (M' := entM P ou (fupd fi a n) sz (fupd fr a n) fr fun _ => .slice none 0 0) (fun j _ k hk => (upd_ent a j k hk).2.2.1 _)
        exact tabO_congr (tabO_set h2 (j := a) (k := 5) (by omega) (.int .i64 (n : Nat))) (M' := entM P ou (fupd fi a n) sz (fupd fr a n) (fupd fr a n) fun _ => .slice none 0 0) (fun j _ k hk => (upd_ent a j k hk).2.2.2.1 _)
      have hc1 : Chg (fun k => k = g) wr (((wr.setCell ⟨g, a * 7 + 2, none⟩ (.int .i64 (n : Nat))).setCell ⟨g, a * 7 + 4, none⟩ (.int .i64 (n : Nat))).setCell ⟨g, a * 7 + 5, none⟩ (.int .i64 (n : Nat))) := ((chg_set wr g _ _).trans (chg_set _ g _ _) fun _ _ e => e).trans (chg_set _ g _ _) fun _ _ e => e
      generalize ((wr.setCell ⟨g, a * 7 + 2, none⟩ (.int .i64 (n : Nat))).setCell ⟨g, a * 7 + 4, none⟩ (.int .i64 (n : Nat))).setCell ⟨g, a * 7 + 5, none⟩ (.int .i64 (n : Nat)) = w1 at *
      have hgl := HI.out.1.lt g rfl
      have hB1 : Below w0.heap.size w0 w1 := HI.out.2.2.2.trans (hc1.below HI.out.2.2.2.size fun k hk e => by omega)
      obtain ⟨Q', hJ⟩ := HI.out.2.1.open HR.out.2.2.1
      have hF1 : ∀ j, j < a + 1 → fupd fr a n j = fupd fi a n j := fun j hj => by
        by_cases e : j = a
        · subst e; rw [fupd_same, fupd_same]
        · rw [fupd_ne _ _ _ e, fupd_ne _ _ _ e]; exact HI.out.2.2.1 j (by omega)
      have H1 := Lib.hid (And.intro hT1 (And.intro hJ (And.intro hF1 hB1)))
      clear x0 x2 x4 x5 c5 f2 f4 f5 hT1 hc1 hgl hB1 hJ hF1
      go_loopw [3, 45] (fun v3 v45 wr => ∃ (i g cap : Nat) (L' : Nat → V) (P : Nat → Nat × Nat) (ou fi : Nat → Nat) (sz : Nat → Int) (fr : Nat → Nat), v3 = .slice (some ⟨g, 0, none⟩) (n + i) cap ∧ v45 = .int .i64 (i : Nat) ∧ TabO wr w0.heap.size g cap (n + i) (entM P ou fi sz fr fr fun _ => .slice none 0 0) ∧ LJ w0 t a n i L' P ou fi Q' ∧ (∀ j, j < a + 1 → fr j = fi j) ∧ Below w0.heap.size w0 wr ∧ L' a = L a) (fun _ v _ => match v with | .int _ i => pn - i.toNat | _ => 0)
      case atStart => exact ⟨0, g, cap, L, P, ou, fupd fi a n, sz, fupd fr a n, rfl, rfl, H1.out.1, H1.out.2.1, H1.out.2.2.1, H1.out.2.2.2, rfl⟩
      case round =>
        clear H1
        obtain ⟨i, g, cap, L', P, ou, fi, sz, fr, rfl, rfl, hT, hJ, hF, hB, hLa⟩ := hrel
        have hil := hJ.il
        rw [hLa, ← HR.out.2.2.2.1] at hil
        have hlen : n + i ≤ 1000000 := by
          have h1 := hJ.ql; have h2 := hJ.pot; have h3 := len_sz Q'; have h4 := len_sz (L' a).ps; have h5 := hJ.le; have h6 := hJ.il; have h7 := H0.out.2.2
          omega
        by_cases hi1 : i < pn
        · have g2 : (i : Int) < pn := by omega
          have i2 : 0 ≤ (i : Int) ∧ (i : Int) < pn := by omega
          obtain ⟨p, hp⟩ : ∃ p, (L a).ps[i]? = some p := ⟨_, List.getElem?_eq_getElem (by rw [← HR.out.2.2.2.1]; exact hi1)⟩
          obtain ⟨kb, ko, hsa, hkb, hkc, hkl⟩ := HR.out.2.1 i p hp
          have hpn : NodeAt w0 kb (ko + i * 8) p := ⟨hkc, _, hkl⟩
          have hpo : okT (erase p) = true := by
            have h1 : okF (L' a) := (hJ.node a (by have := hJ.le; omega)).2
            rw [hLa] at h1
            exact h1.part (List.mem_of_getElem? hp)
          have hJ2 := hJ.add (p := p) (by rw [hLa]; exact hp) (b := kb) (o := ko + i * 8) (f := 0) hpn hpo
          have HK := Lib.hid (And.intro hT (And.intro hJ2 (And.intro hF (And.intro hB (And.intro hLa (And.intro hlen hJ.le))))))
          have hgl := (hT.lt g rfl).1
          subst hsa
          clear hT hJ hF hB hLa hJ2 hpn hpo hp hkc hkl hkb hil
          go_wp2_with (at_builtin; refine wpList_append_own_at _ rfl _ _ 72 rfl w0.heap.size 84 i0 _ 7 72 Tryd.underlying72 hi hz0 hz1 hz2 rfl (by decide) (.slice (some ⟨g, 0, none⟩) (n + i) cap) (n + i) (cellsL (entM P ou fi sz fr fr fun _ => .slice none 0 0) (n + i)) rfl (HK.out.1.alloc _) ⟨wr.heap.size, 0, none⟩ 1 1 [.pointer (some ⟨kb, ko + i * 8, none⟩), .int .i64 (a : Nat), .int .i64 0, .int .i64 1, .int .i64 0, .int .i64 0, .slice none 0 0] rfl rfl (World.news_of_block (heap_alloc_new wr _)) (by simp [Value.oneCell']) (by have := HK.out.2.2.2.2.2.1; unfold maxLen; omega) (by have := HK.out.2.2.2.2.2.1; omega) (by have := HK.out.2.2.2.1.size; simp; omega) ?_; intro v' w5 hown5 hgrow5 hnil5 hloc5)
          obtain ⟨g5, cap5, rfl⟩ := ownsRow_succ hown5
          have hc5 : Chg (fun k => k = g) wr w5 := ((Chg.refl (fun k => k = g) wr).alloc _).grown hgrow5 (fun k hk _ => (Option.some.inj hk).symm)
          refine ⟨⟨i + 1, g5, cap5, _, _, _, _, fupd sz (n + i) 1, fupd fr (n + i) 0, rfl, by simp, ?_, HK.out.2.1, fun j hj => ?_, HK.out.2.2.2.1.trans (hc5.below HK.out.2.2.2.1.size fun k hk e => by omega), ?_⟩, ?_⟩
          · rw [cellsL_snoc _ _ _ rfl] at hown5
            exact tabO_congr (M := rowU (entM P ou fi sz fr fr fun _ => .slice none 0 0) (n + i) [.pointer (some ⟨kb, ko + i * 8, none⟩), .int .i64 (a : Nat), .int .i64 0, .int .i64 1, .int .i64 0, .int .i64 0, .slice none 0 0]) hown5 fun j hj k hk => by
              have := row_ent (P := P) (ou := ou) (fi := fi) (sz := sz) (fr := fr) (tt := fr) (md := fun _ => .slice none 0 0) (n + i) (kb, ko + i * 8) a 0 1 0 0 (.slice none 0 0) j k
              refine this.trans ?_
              unfold entM
              congr 2
              unfold fupd
              split <;> rfl
          · have := HK.out.2.2.2.2.2.2
            rw [fupd_ne _ _ _ (by omega), fupd_ne _ _ _ (by omega)]
            exact HK.out.2.2.1 j hj
          · have := HK.out.2.2.2.2.2.2
            rw [fupd_ne _ _ _ (by omega)]
            exact HK.out.2.2.2.2.1
          · show pn - ((i : Int) + 1).toNat < pn - ((i : Int)).toNat
            omega
        · have g2 : ¬ (i : Int) < pn := by omega
          have HE := Lib.hid (And.intro hT (And.intro hJ (And.intro hF (And.intro hB (And.intro hLa (And.intro hlen (show i = pn by omega)))))))
          clear hT hJ hF hB hLa
          go_wp2_with fail
          obtain ⟨hT, hJ, hF, hB, hLa, hlen, hip⟩ := HE.out
          have hcl := hJ.close (by rw [hLa, ← HR.out.2.2.2.1]; exact hip)
          refine ⟨⟨a + 1, n + i, g, cap, L', P, ou, fi, sz, fr, _, rfl, by simp, hT, hcl, hF, hB⟩, ?_⟩
          show szT (erase t) - ((a : Int) + 1).toNat < szT (erase t) - ((a : Int)).toNat
          have := HR.out.2.2.2.2.2 HR.out.2.2.1
          omega
    · have g1 : ¬ (a : Int) < n := by omega
      have hE : a = n := by have := hL.le; omega
      have hn0 := hL.n0
      have hw1 : IntKind.i64.wrap ((n : Int) - 1) = ((n - 1 : Nat) : Int) := by rw [IntKind.wrap_i64]; omega
      clear hT hL hF hB
      go_wp2_with fail
      go_loopw [8] (fun v wq => ∃ (c : Nat) (sz : Nat → Int) (fr : Nat → Nat), v = .int .i64 (c : Nat) ∧ c ≤ n - 1 ∧ TabO wq w0.heap.size g cap n (entM P ou fi sz fr fr fun _ => .slice none 0 0) ∧ (∀ j, j < n → fi j ≤ fr j ∧ (fr j < fi j + (L j).ps.length ∨ ((L j).ps.length = 0 ∧ fr j = fi j))) ∧ Below w0.heap.size w0 wq) (fun v _ => match v with | .int _ i => i.toNat | _ => 0)
      case atStart =>
        refine ⟨n - 1, sz, fr, rfl, Nat.le_refl _, HI.out.1, fun j hj => ?_, HI.out.2.2.2⟩
        have := HI.out.2.2.1 j (by omega)
        omega
      case round =>
        obtain ⟨c, sz', fr', rfl, hc, hT, hF, hB⟩ := hrel
        have HX := Lib.hid (And.intro hT (And.intro hF hB))
        clear hT hF hB
        by_cases hc0 : c = 0
        · subst hc0
          have g2 : ¬ (0 : Int) < ((0 : Nat) : Int) := by omega
          go_wp2_with fail
          go_ret
          subst hE
          have hQ : Q = [] := by have := HI.out.2.1.ql; exact List.eq_nil_of_length_eq_zero (by omega)
          subst hQ
          exact ⟨g, cap, a, rfl, L, P, ou, fi, sz', fr', HX.out.1, HI.out.2.1, HX.out.2.1, HX.out.2.2⟩
        · have g2 : (0 : Int) < (c : Int) := by omega
          have hpar := HI.out.2.1.par c (by omega) (by omega)
          have hch := HI.out.2.1.ch (ou c) (by omega)
          have hfr := HX.out.2.1 (ou c) (by omega)
          have HW := Lib.hid (weigh_any w0.heap.size g cap n c P ou fi sz' fr' fr' (fun _ => .slice none 0 0) wr HX.out.1 (by omega) hpar.1 (by omega))
          have HP := Lib.hid (And.intro hpar (And.intro hch hfr))
          have hw2 : IntKind.i64.wrap ((c : Int) - 1) = ((c - 1 : Nat) : Int) := by rw [IntKind.wrap_i64]; omega
          clear hpar hch hfr
          go_wp2_with fail
          go_at_call 38
          refine HW.out.mono ?_
          rintro e w2 ⟨rfl, sz2, fr2, tt2, hT2, h2, hc2⟩
          have H2 := Lib.hid (And.intro hT2 (And.intro h2 hc2))
          clear hT2 h2 hc2
          go_wp2_with fail
          go_roundw
          case rel =>
            obtain ⟨hT2, h2, hc2⟩ := H2.out
            have hgl := (HX.out.1.lt g rfl).1
            have hB2 : Below w0.heap.size w0 w2 := HX.out.2.2.trans (hc2.below HX.out.2.2.size fun k hk e => by omega)
            rcases h2 with ⟨rfl, rfl⟩ | ⟨rfl, rfl⟩
            · exact ⟨c - 1, sz2, _, rfl, by omega, hT2, HX.out.2.1, hB2⟩
            · refine ⟨c - 1, sz2, _, rfl, by omega, hT2, fun j hj => ?_, hB2⟩
              by_cases e : j = ou c
              · subst e
                rw [fupd_same]
                have := HP.out.1
                omega
              · rw [fupd_ne _ _ _ e]
                exact HX.out.2.1 j hj
          case measure =>
            show ((c - 1 : Nat) : Int).toNat < ((c : Nat) : Int).toNat
            omega

end Go.Proofs.YtdjddmkmcdfmiaaDoor
