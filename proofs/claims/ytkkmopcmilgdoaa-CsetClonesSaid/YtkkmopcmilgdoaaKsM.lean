/- A queue of marks in memory: entries that are linked, the queue's three cells, what a change of them leaves. Plain facts on worlds.
   No conditions but those that each theorem states. -/
import Derived.Test.YtkkmopcmilgdoaaKsN
namespace Go.Proofs.Ytkkmopcmilgdoaa
open Go.RowKit

/-- A pointer to an entry, or none. -/
abbrev pe (o : Option Nat) : Value := .pointer (o.map fun b => ⟨b, 0, none⟩)
/-- Where the entry at a place is. -/
def nx (es : List (Nat × Int)) (i : Nat) : Option Nat := (es[i]?).map Prod.fst
/-- An entry: its mark, and the one behind it. -/
structure Ent (w : World) (b : Nat) (m : Int) (n : Option Nat) : Prop where
  lt : b < w.heap.size
  mrk : w.cell? ⟨b, 0, none⟩ = some (.int .i64 m)
  nxt : w.cell? ⟨b, 1, none⟩ = some (pe n)
  fz : ∀ j, w.frozen? ⟨b, j, none⟩ = false
/-- Entries, each behind the other. -/
structure Que (w : World) (es : List (Nat × Int)) : Prop where
  nd : (es.map Prod.fst).Nodup
  ent : ∀ i b m, es[i]? = some (b, m) → Ent w b m (nx es (i + 1))
/-- The cells of a queue: its oldest and youngest entry, and how many there are. -/
structure Hd (w : World) (qb qo : Nat) (es : List (Nat × Int)) : Prop where
  lt : qb < w.heap.size
  c0 : w.cell? ⟨qb, qo, none⟩ = some (pe (nx es 0))
  c1 : w.cell? ⟨qb, qo + 1, none⟩ = some (pe (nx es (es.length - 1)))
  c2 : w.cell? ⟨qb, qo + 2, none⟩ = some (.int .i64 (es.length : Int))
  fz : ∀ j, w.frozen? ⟨qb, j, none⟩ = false
  own : qb ∉ es.map Prod.fst

theorem Ent.keep {R : Nat → Prop} {w w' : World} {b : Nat} {m : Int} {n : Option Nat} (h : Ent w b m n) (hc : Chg R w w') (hn : ¬ R b) : Ent w' b m n :=
  ⟨Nat.lt_of_lt_of_le h.lt hc.size, (hc.cell _ h.lt hn).trans h.mrk, (hc.cell _ h.lt hn).trans h.nxt, fun j => (hc.frozen _ h.lt hn).trans (h.fz j)⟩
theorem mem_at {es : List (Nat × Int)} {i b : Nat} {m : Int} (h : es[i]? = some (b, m)) : b ∈ es.map Prod.fst := List.mem_map.2 ⟨_, List.mem_of_getElem? h, rfl⟩
theorem Que.keep {R : Nat → Prop} {w w' : World} {es : List (Nat × Int)} (h : Que w es) (hc : Chg R w w') (hn : ∀ b ∈ es.map Prod.fst, ¬ R b) : Que w' es :=
  ⟨h.nd, fun i b m hi => (h.ent i b m hi).keep hc (hn b (mem_at hi))⟩
theorem Hd.keep {R : Nat → Prop} {w w' : World} {qb qo : Nat} {es : List (Nat × Int)} (h : Hd w qb qo es) (hc : Chg R w w') (hn : ¬ R qb) : Hd w' qb qo es :=
  ⟨Nat.lt_of_lt_of_le h.lt hc.size, (hc.cell _ h.lt hn).trans h.c0, (hc.cell _ h.lt hn).trans h.c1, (hc.cell _ h.lt hn).trans h.c2, fun j => (hc.frozen _ h.lt hn).trans (h.fz j), h.own⟩
theorem Que.lt {w : World} {es : List (Nat × Int)} (h : Que w es) {b : Nat} (hb : b ∈ es.map Prod.fst) : b < w.heap.size := by
  obtain ⟨⟨b', m⟩, hp, rfl⟩ := List.mem_map.1 hb
  obtain ⟨i, hi⟩ := List.getElem?_of_mem hp
  exact (h.ent i _ _ hi).lt
theorem Que.nil (w : World) : Que w [] := ⟨List.nodup_nil, fun i b m h => by simp at h⟩
theorem size_setCell (w : World) (a : Addr) (v : Value) : (w.setCell a v).heap.size = w.heap.size := by simp [World.setCell]
theorem fz_setCell (w : World) (a p : Addr) (v : Value) : (w.setCell a v).frozen? p = w.frozen? p := by simp

/-- What marks a queue has when one is put to its end. -/
def putM (ms : List Int) (m : Int) : List Int := if ms.getLast? = some m then ms else ms ++ [m]
/-- What a call that stores into a queue leaves. -/
def QOut (w : World) (qb qo : Nat) (es : List (Nat × Int)) (ms : List Int) (w' : World) : Prop :=
  ∃ es', es'.map Prod.snd = ms ∧ Que w' es' ∧ Hd w' qb qo es' ∧ (∀ b ∈ es'.map Prod.fst, b ∈ es.map Prod.fst ∨ w.heap.size ≤ b) ∧ Chg (fun k => k = qb ∨ k ∈ es.map Prod.fst) w w' ∧
    ∀ j, j < qo ∨ qo + 3 ≤ j → w'.cell? ⟨qb, j, none⟩ = w.cell? ⟨qb, j, none⟩

theorem set_same {w : World} {p : Addr} {x : Value} (h : w.cell? p = some x) (a : Value) : (w.setCell p a).cell? p = some a := World.cell?_setCell_same _ _ _ h
theorem set_other {w : World} {b b' j k : Nat} (h : b ≠ b' ∨ j ≠ k) (a : Value) : (w.setCell ⟨b, j, none⟩ a).cell? ⟨b', k, none⟩ = w.cell? ⟨b', k, none⟩ := World.cell?_setCell_other (h := addr_ne h) ..
theorem set_chg (w : World) (b j : Nat) (a : Value) : Chg (fun k => k = b) w (w.setCell ⟨b, j, none⟩ a) := (Chg.refl (fun k => k = b) w).setCell (p := ⟨b, j, none⟩) (fun _ => rfl) a
/-- Three cells of a block, stored into. -/
theorem set3 {w : World} {qb qo : Nat} {x0 x1 x2 : Value} (h0 : w.cell? ⟨qb, qo, none⟩ = some x0) (h1 : w.cell? ⟨qb, qo + 1, none⟩ = some x1) (h2 : w.cell? ⟨qb, qo + 2, none⟩ = some x2) (a0 a1 a2 : Value) :
    ∃ W, ((w.setCell ⟨qb, qo, none⟩ a0).setCell ⟨qb, qo + 1, none⟩ a1).setCell ⟨qb, qo + 2, none⟩ a2 = W ∧ W.cell? ⟨qb, qo, none⟩ = some a0 ∧ W.cell? ⟨qb, qo + 1, none⟩ = some a1 ∧ W.cell? ⟨qb, qo + 2, none⟩ = some a2 ∧
      (∀ j, j < qo ∨ qo + 3 ≤ j → W.cell? ⟨qb, j, none⟩ = w.cell? ⟨qb, j, none⟩) ∧ W.heap.size = w.heap.size ∧ (∀ p, W.frozen? p = w.frozen? p) ∧ Chg (fun k => k = qb) w W := by
  refine ⟨_, rfl, ?_, ?_, ?_, fun j hj => ?_, by simp, fun p => by simp, ?_⟩
  · rw [set_other (.inr (by omega)), set_other (.inr (by omega)), set_same h0]
  · rw [set_other (.inr (by omega)), set_same (by rw [set_other (.inr (by omega)), h1])]
  · rw [set_same (by rw [set_other (.inr (by omega)), set_other (.inr (by omega)), h2])]
  · rw [set_other (.inr (by omega)), set_other (.inr (by omega)), set_other (.inr (by omega))]
  · refine (((Chg.refl _ w).setCell ?_ _).setCell ?_ _).setCell ?_ _
    all_goals exact fun _ => rfl

/-- The first entry is put in. -/
theorem put_first {w : World} {qb qo : Nat} (h : Hd w qb qo []) (m : Int) : QOut w qb qo [] [m] ((((w.setCell ⟨qb, qo, none⟩ (.pointer (some ⟨w.heap.size, 0, none⟩))).setCell ⟨qb, qo + 1, none⟩ (.pointer (some ⟨w.heap.size, 0, none⟩))).setCell ⟨qb, qo + 2, none⟩ (.int .i64 1)).alloc (.cells #[.int .i64 m, .pointer none] 56)) := by
  obtain ⟨W, hW, c0, c1, c2, ho, hs, hf, hc⟩ := set3 h.c0 h.c1 h.c2 (.pointer (some ⟨w.heap.size, 0, none⟩)) (.pointer (some ⟨w.heap.size, 0, none⟩)) (.int .i64 1)
  rw [hW]
  have hn := heap_alloc_new W (.cells #[.int .i64 m, .pointer none] 56)
  have hA : Chg (fun _ => False) W (W.alloc (.cells #[.int .i64 m, .pointer none] 56)) := (Chg.refl _ W).alloc _
  have hz : (W.alloc (.cells #[.int .i64 m, .pointer none] 56)).heap.size = w.heap.size + 1 := by simp [hs]
  generalize W.alloc (.cells #[.int .i64 m, .pointer none] 56) = W' at *
  have hlt : qb < W.heap.size := by rw [hs]; exact h.lt
  obtain ⟨q1, q2⟩ := row_cells hn
  rw [hs] at q1 q2
  refine ⟨[(w.heap.size, m)], rfl, ⟨by simp, fun i b m' hi => ?_⟩, ⟨by have := h.lt; omega, ?_, ?_, ?_, fun j => ?_, ?_⟩, fun b hb => .inr ?_, ?_, fun j hj => ?_⟩
  · match i with
    | 0 =>
      simp only [List.getElem?_cons_zero, Option.some.injEq, Prod.mk.injEq] at hi
      obtain ⟨rfl, rfl⟩ := hi
      exact ⟨by omega, q1 0, q1 1, q2⟩
    | i + 1 => simp at hi
  · rw [hA.cell _ hlt id, c0]; rfl
  · rw [hA.cell _ hlt id, c1]; rfl
  · rw [hA.cell _ hlt id, c2]; rfl
  · rw [hA.frozen _ hlt id, hf, h.fz]
  · have := h.lt
    simp; omega
  · simp at hb; omega
  · exact (hc.mono fun x _ e => .inl e).trans hA fun _ _ e => e.elim
  · rw [hA.cell _ hlt id, ho j hj]

/-- One more entry is put to the end. -/
theorem put_last {w : World} {qb qo : Nat} {es : List (Nat × Int)} {lb : Nat} {lm : Int} (h : Hd w qb qo es) (hq : Que w es) (hl : es[es.length - 1]? = some (lb, lm)) (m : Int) :
    QOut w qb qo es (es.map Prod.snd ++ [m]) ((((w.setCell ⟨lb, 1, none⟩ (.pointer (some ⟨w.heap.size, 0, none⟩))).setCell ⟨qb, qo + 1, none⟩ (.pointer (some ⟨w.heap.size, 0, none⟩))).setCell ⟨qb, qo + 2, none⟩ (.int .i64 ((es.length : Int) + 1))).alloc (.cells #[.int .i64 m, .pointer none] 56)) := by
  have E := hq.ent _ _ _ hl
  have hbq : lb ≠ qb := fun e => h.own (e ▸ mem_at hl)
  have hes : 0 < es.length := by have := (List.getElem?_eq_some_iff.1 hl).1; omega
  obtain ⟨W, hW⟩ : ∃ W, ((w.setCell ⟨lb, 1, none⟩ (.pointer (some ⟨w.heap.size, 0, none⟩))).setCell ⟨qb, qo + 1, none⟩ (.pointer (some ⟨w.heap.size, 0, none⟩))).setCell ⟨qb, qo + 2, none⟩ (.int .i64 ((es.length : Int) + 1)) = W := ⟨_, rfl⟩
  have hs : W.heap.size = w.heap.size := by rw [← hW]; simp
  have hf : ∀ p, W.frozen? p = w.frozen? p := fun p => by rw [← hW]; simp
  have hc : Chg (fun k => k = qb ∨ k = lb) w W := by
    rw [← hW]
    exact (((Chg.refl _ w).setCell (fun _ => .inr rfl) _).setCell (fun _ => .inl rfl) _).setCell (fun _ => .inl rfl) _
  have ho : ∀ j, j < qo + 1 ∨ qo + 3 ≤ j → W.cell? ⟨qb, j, none⟩ = w.cell? ⟨qb, j, none⟩ := fun j hj => by
    rw [← hW, set_other (.inr (by omega)), set_other (.inr (by omega)), set_other (.inl hbq)]
  have c1 : W.cell? ⟨qb, qo + 1, none⟩ = some (.pointer (some ⟨w.heap.size, 0, none⟩)) := by
    rw [← hW, set_other (.inr (by omega)), set_same (by rw [set_other (.inl hbq), h.c1])]
  have c2 : W.cell? ⟨qb, qo + 2, none⟩ = some (.int .i64 ((es.length : Int) + 1)) := by
    rw [← hW, set_same (by rw [set_other (.inr (by omega)), set_other (.inl hbq), h.c2])]
  have d0 : W.cell? ⟨lb, 0, none⟩ = some (.int .i64 lm) := by
    rw [← hW, set_other (.inl hbq.symm), set_other (.inl hbq.symm), set_other (.inr (by omega)), E.mrk]
  have d1 : W.cell? ⟨lb, 1, none⟩ = some (.pointer (some ⟨w.heap.size, 0, none⟩)) := by
    rw [← hW, set_other (.inl hbq.symm), set_other (.inl hbq.symm), set_same E.nxt]
  rw [hW]
  clear hW
  have hn := heap_alloc_new W (.cells #[.int .i64 m, .pointer none] 56)
  have hA : Chg (fun _ => False) W (W.alloc (.cells #[.int .i64 m, .pointer none] 56)) := (Chg.refl _ W).alloc _
  have hz : (W.alloc (.cells #[.int .i64 m, .pointer none] 56)).heap.size = w.heap.size + 1 := by simp [hs]
  generalize W.alloc (.cells #[.int .i64 m, .pointer none] 56) = W' at *
  have hlt : qb < W.heap.size := by rw [hs]; exact h.lt
  obtain ⟨q1, q2⟩ := row_cells hn
  rw [hs] at q1 q2
  have hnew : w.heap.size ∉ es.map Prod.fst := fun e => by have := hq.lt e; omega
  have hnx : ∀ i, i ≤ es.length → nx (es ++ [(w.heap.size, m)]) i = if i = es.length then some w.heap.size else nx es i := fun i hi => by
    unfold nx
    by_cases e : i = es.length
    · subst e; simp
    · rw [if_neg e, List.getElem?_append_left (by omega)]
  refine ⟨es ++ [(w.heap.size, m)], by simp, ⟨?_, fun i b m' hi => ?_⟩, ⟨by have := h.lt; omega, ?_, ?_, ?_, fun j => ?_, ?_⟩, fun b hb => ?_, ?_, fun j hj => ?_⟩
  · rw [List.map_append, List.nodup_append]
    refine ⟨hq.nd, by simp, fun a ha b hb e => ?_⟩
    subst e
    simp at hb
    exact hnew (hb ▸ ha)
  · by_cases e : i < es.length
    · rw [List.getElem?_append_left e] at hi
      have E' := hq.ent i b m' hi
      by_cases e2 : i = es.length - 1
      · subst e2
        rw [hl] at hi
        simp only [Option.some.injEq, Prod.mk.injEq] at hi
        obtain ⟨rfl, rfl⟩ := hi
        have hltl : lb < W.heap.size := by rw [hs]; exact E'.lt
        refine ⟨by have := E'.lt; omega, by rw [hA.cell _ hltl id, d0], ?_, fun j => by rw [hA.frozen _ hltl id, hf, E'.fz]⟩
        rw [hA.cell _ hltl id, d1, hnx _ (by omega), if_pos (by omega)]
        rfl
      · have hne : b ≠ lb := fun e' => by
          subst e'
          have h1 : (es.map Prod.fst)[i]? = some b := by rw [List.getElem?_map, hi]; rfl
          have h2 : (es.map Prod.fst)[es.length - 1]? = some b := by rw [List.getElem?_map, hl]; rfl
          exact e2 ((List.getElem?_inj (by simpa using e) hq.nd).1 (h1.trans h2.symm))
        have hnq : b ≠ qb := fun e' => h.own (e' ▸ mem_at hi)
        have E2 := (E'.keep hc (by simp [hne, hnq])).keep hA id
        rw [hnx _ (by omega), if_neg (by omega)]
        exact E2
    · rw [List.getElem?_append_right (by omega)] at hi
      have : i = es.length := by
        have := (List.getElem?_eq_some_iff.1 hi).1
        simp at this; omega
      subst this
      simp only [Nat.sub_self, List.getElem?_cons_zero, Option.some.injEq, Prod.mk.injEq] at hi
      obtain ⟨rfl, rfl⟩ := hi
      refine ⟨by omega, q1 0, ?_, q2⟩
      rw [show nx (es ++ [(w.heap.size, m)]) (es.length + 1) = none by unfold nx; rw [List.getElem?_eq_none (by simp)]; rfl]
      exact q1 1
  · rw [hA.cell _ hlt id, ho _ (by omega), h.c0, hnx _ (by omega), if_neg (by omega)]
  · rw [hA.cell _ hlt id, c1, List.length_append, List.length_singleton, Nat.add_sub_cancel, hnx _ (Nat.le_refl _), if_pos rfl]; rfl
  · rw [hA.cell _ hlt id, c2, List.length_append, List.length_singleton]; push_cast; rfl
  · rw [hA.frozen _ hlt id, hf, h.fz]
  · have := h.lt
    have := h.own
    simp only [List.map_append, List.map_cons, List.map_nil, List.mem_append, List.mem_singleton, not_or]
    exact ⟨h.own, by omega⟩
  · simp only [List.map_append, List.map_cons, List.map_nil, List.mem_append, List.mem_singleton] at hb
    rcases hb with hb | hb
    · exact .inl hb
    · exact .inr (by omega)
  · refine (hc.mono fun x _ e => ?_).trans hA fun _ _ e => e.elim
    rcases e with e | e
    · exact .inl e
    · exact .inr (e ▸ mem_at hl)
  · rw [hA.cell _ hlt id, ho j (by omega)]

/-- The oldest entry is taken out. -/
theorem drop_first {w W : World} {qb qo b : Nat} {m : Int} {es : List (Nat × Int)} (h : Hd w qb qo ((b, m) :: es)) (hq : Que w ((b, m) :: es)) (hc : Chg (fun k => k = qb) w W) (hf : ∀ p, W.frozen? p = w.frozen? p) (hs : W.heap.size = w.heap.size)
    (c0 : W.cell? ⟨qb, qo, none⟩ = some (pe (nx es 0))) (c1 : W.cell? ⟨qb, qo + 1, none⟩ = some (pe (nx es (es.length - 1)))) (c2 : W.cell? ⟨qb, qo + 2, none⟩ = some (.int .i64 (es.length : Int))) (ho : ∀ j, j < qo ∨ qo + 3 ≤ j → W.cell? ⟨qb, j, none⟩ = w.cell? ⟨qb, j, none⟩) :
    QOut w qb qo ((b, m) :: es) (es.map Prod.snd) W := by
  have hnd := hq.nd
  rw [List.map_cons, List.nodup_cons] at hnd
  have hown := h.own
  rw [List.map_cons, List.mem_cons, not_or] at hown
  refine ⟨es, rfl, ⟨hnd.2, fun i b' m' hi => ?_⟩, ⟨by rw [hs]; exact h.lt, c0, c1, c2, fun j => (hf _).trans (h.fz j), hown.2⟩, fun x hx => .inl (List.mem_cons_of_mem _ hx), hc.mono fun _ _ e => .inl e, ho⟩
  have E := hq.ent (i + 1) b' m' (by simpa using hi)
  have hx : nx ((b, m) :: es) (i + 1 + 1) = nx es (i + 1) := by unfold nx; simp
  rw [hx] at E
  exact E.keep hc (fun e => hown.2 (e ▸ mem_at hi))

end Go.Proofs.Ytkkmopcmilgdoaa
