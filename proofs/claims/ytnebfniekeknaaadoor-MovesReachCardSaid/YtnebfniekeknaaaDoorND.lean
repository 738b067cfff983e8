/- A row of moves, sorted by slices.SortFunc: a contract.
   Conditions: the row is the call's own, and has fewer than 2 to the power 62 moves. -/
import Derived.Test.YtnebfniekeknaaaDoorNB
import Derived.Test.YtnebfniekeknaaaDoorNA
import Derived.Test.YtnebfniekeknaaaDoorMPt
import Derived.Shelf.SlSortCmp.InsertionK
import Derived.Test.YtnebfniekeknaaaDoorOSo

/- Lists of moves, plain and in memory: their order, the row of lists, what an append and a sort make of it.
   Conditions: those that each theorem states. -/
namespace Go.Proofs.YtnebfniekeknaaaDoor
open Go.RowKit Go.Maps Go.Sort

/-- A move: where it goes, what it keeps, whether a scope is begun once more. -/
structure Mv where
  tt : Nat
  kp : Nat
  ag : Bool
instance : Inhabited Mv := ⟨⟨0, 0, false⟩⟩
def mvc (m : Mv) : List Value := [.int .i64 m.tt, .int .i64 m.kp, .bool m.ag]
def stOf (p : Nat) (m : Mv) : St := ⟨p, m.tt, m.kp, m.ag⟩
def mvOf (s : St) : Mv := ⟨s.tt, s.kp, s.ag⟩
def cfM (a b : Mv) : Int := ordM a.tt a.kp b.tt b.kp a.ag b.ag
def mvLt (a b : Mv) : Prop := a.tt < b.tt ∨ a.tt = b.tt ∧ (a.kp < b.kp ∨ a.kp = b.kp ∧ a.ag = false ∧ b.ag = true)
theorem cfM_lt (a b : Mv) : cfM a b < 0 ↔ mvLt a b := by
  obtain ⟨a1, a2, a3⟩ := a
  obtain ⟨b1, b2, b3⟩ := b
  unfold cfM ordM mvLt orI
  simp only
  rcases cmpI_cases (a1 : Int) (b1 : Int) with ⟨e1, h1⟩ | ⟨e1, h1⟩ | ⟨e1, h1⟩ <;> rcases cmpI_cases (a2 : Int) (b2 : Int) with ⟨e2, h2⟩ | ⟨e2, h2⟩ | ⟨e2, h2⟩ <;> cases a3 <;> cases b3 <;> rw [e1, e2] <;> simp [agI] <;> omega
theorem ltM (a b : Mv) : ltOf cfM a b = true ↔ mvLt a b := by
  unfold ltOf
  rw [decide_eq_true_iff]
  exact cfM_lt a b
theorem ltM_false (a b : Mv) : ltOf cfM a b = false ↔ ¬ mvLt a b := by
  rw [← ltM]; simp
theorem mv_ext {a b : Mv} (h1 : a.tt = b.tt) (h2 : a.kp = b.kp) (h3 : a.ag = b.ag) : a = b := by
  cases a; cases b; simp_all
theorem mvLt_irr (a : Mv) : ¬ mvLt a a := by unfold mvLt; rintro (h | ⟨_, h | ⟨_, h1, h2⟩⟩); omega; omega; rw [h1] at h2; cases h2
theorem mvLt_tr {a b c : Mv} (h : mvLt a b) (k : mvLt b c) : mvLt a c := by
  unfold mvLt at *
  obtain ⟨a1, a2, a3⟩ := a
  obtain ⟨b1, b2, b3⟩ := b
  obtain ⟨c1, c2, c3⟩ := c
  simp only at *
  cases a3 <;> cases b3 <;> cases c3 <;> simp at * <;> omega
theorem mvLt_tot {a b : Mv} (h : ¬ mvLt a b) (k : ¬ mvLt b a) : a = b := by
  unfold mvLt at *
  obtain ⟨a1, a2, a3⟩ := a
  obtain ⟨b1, b2, b3⟩ := b
  simp only at *
  have e1 : a1 = b1 := by omega
  have e2 : a2 = b2 := by omega
  subst e1 e2
  cases a3 <;> cases b3 <;> simp at h k ⊢
theorem swoM : SWO (ltOf cfM) where
  irrefl x := by rw [ltM_false]; exact mvLt_irr x
  trans x y z h1 h2 := by rw [ltM] at *; exact mvLt_tr h1 h2
  ntrans x y z h1 h2 := by
    rw [ltM_false] at *
    intro h
    by_cases hyx : mvLt y x
    · exact h2 (mvLt_tr hyx h)
    · obtain rfl := mvLt_tot h1 hyx
      exact h2 h
theorem totM (x y : Mv) (h : ltOf cfM x y = false) (k : ltOf cfM y x = false) : x = y := by
  rw [ltM_false] at *
  exact mvLt_tot h k
def sortM (l : List Mv) : List Mv := l.mergeSort fun x y => !ltOf cfM y x
theorem sortM_perm (l : List Mv) : (sortM l).Perm l := List.mergeSort_perm _ _
theorem sortM_lt {l : List Mv} (hn : l.Nodup) : (sortM l).Pairwise mvLt := by
  have h1 : (sortM l).Pairwise fun x y => (!ltOf cfM y x) = true := by
    refine List.pairwise_mergeSort (fun a b c h1 h2 => ?_) (fun a b => ?_) l
    · have h1' : ltOf cfM b a = false := by simpa using h1
      have h2' : ltOf cfM c b = false := by simpa using h2
      simpa using swoM.ntrans c b a h2' h1'
    · cases h1 : ltOf cfM b a with
      | false => simp
      | true =>
        have : ltOf cfM a b = false := by
          rw [ltM] at h1
          rw [ltM_false]
          exact fun h => mvLt_irr _ (mvLt_tr h1 h)
        simp [this]
  have h2 : (sortM l).Nodup := (sortM_perm l).nodup_iff.2 hn
  refine (h1.and h2).imp fun {a b} h => ?_
  obtain ⟨ha, hb⟩ := h
  have ha' : ltOf cfM b a = false := by simpa using ha
  rw [ltM_false] at ha'
  by_cases hab : mvLt a b
  · exact hab
  · exact absurd (mvLt_tot hab ha') hb

theorem mvcs_len (l : List Mv) : (l.flatMap mvc).length = l.length * 3 := by
  induction l with
  | nil => rfl
  | cons f l ih => rw [List.flatMap_cons, List.length_append, ih, List.length_cons]; show 3 + _ = _; omega
def updL (L : Nat → List Mv) (i : Nat) (l : List Mv) : Nat → List Mv := fun j => if j = i then l else L j
theorem updL_same (L : Nat → List Mv) (i : Nat) (l : List Mv) : updL L i l i = l := if_pos rfl
theorem updL_other (L : Nat → List Mv) {i j : Nat} (l : List Mv) (h : j ≠ i) : updL L i l j = L j := if_neg h
/-- A list of lists of moves in memory: each list has a row of its own. -/
structure RowsM (w : World) (B n : Nat) (lv : Value) (vs : List Value) (L : Nat → List Mv) : Prop where
  own : w.ownsRow B 43 1 lv n vs
  row : ∀ i, i < n → ∃ v, vs[i]? = some v ∧ w.ownsRow B 45 3 v (L i).length ((L i).flatMap mvc)
  apart : ∀ (i j x : Nat) (v v' : Value), vs[i]? = some v → vs[j]? = some v' → v.ownBlock = some x → v'.ownBlock = some x → i = j
variable {w w' : World} {B n : Nat} {lv : Value} {vs : List Value} {L : Nat → List Mv}
theorem RowsM.len (h : RowsM w B n lv vs L) : vs.length = n := by have := h.own.1; omega
theorem RowsM.keep {Q : Nat → Prop} (h : RowsM w B n lv vs L) (hc : Chg Q w w') (hQ : ∀ x ty, Q x → B ≤ x → TyB w x ty → ty ≠ 43 ∧ ty ≠ 45) : RowsM w' B n lv vs L := by
  refine ⟨own_chg h.own hc fun b hb q => (hQ b _ q (h.own.lt b hb).1 (own_ty h.own hb)).1 rfl, fun i hi => ?_, h.apart⟩
  obtain ⟨v, h1, h2⟩ := h.row i hi
  exact ⟨v, h1, own_chg h2 hc fun b hb q => (hQ b _ q (h2.lt b hb).1 (own_ty h2 hb)).2 rfl⟩
theorem RowsM.below (h : RowsM w B n lv vs L) (hb : Below w.heap.size w w') : RowsM w' B n lv vs L := h.keep (Chg.of_below (R := fun _ => False) hb) fun _ _ q => q.elim
/-- Of one list alone the row has changed. -/
theorem RowsM.turn {i : Nat} {v : Value} {l : List Mv} (h : RowsM w B n lv vs L) (hi : i < n) (hv : vs[i]? = some v) (hc : Chg (fun x => v.ownBlock = some x) w w') (hown : w'.ownsRow B 45 3 v l.length (l.flatMap mvc)) : RowsM w' B n lv vs (updL L i l) := by
  obtain ⟨v1, hv1, hr1⟩ := h.row i hi
  obtain rfl := Option.some.inj (hv.symm.trans hv1)
  refine ⟨own_chg h.own hc fun b hb q => ?_, fun j hj => ?_, h.apart⟩
  · have := (own_ty h.own hb).eq (own_ty hr1 q); revert this; decide
  · obtain ⟨v2, hv2, hr2⟩ := h.row j hj
    by_cases e : j = i
    · subst e
      obtain rfl := Option.some.inj (hv.symm.trans hv2)
      exact ⟨v, hv, by rw [updL_same]; exact hown⟩
    · exact ⟨v2, hv2, by rw [updL_other L l e]; exact own_chg hr2 hc fun b hb q => e (h.apart j i b v2 v hv2 hv hb q)⟩
/-- A list has a new row, and is stored. -/
theorem RowsM.put {i lb cap : Nat} {v v' : Value} {l : List Mv} (h : RowsM w B n (.slice (some ⟨lb, 0, none⟩) n cap) vs L) (hi : i < n) (hv : vs[i]? = some v) (hc : Chg (fun x => v.ownBlock = some x) w w')
    (hown : w'.ownsRow B 45 3 v' l.length (l.flatMap mvc)) (hat : ∀ x, v'.ownBlock = some x → v.ownBlock = some x ∨ w.heap.size ≤ x) :
    RowsM (w'.setCell ⟨lb, i, none⟩ v') B n (.slice (some ⟨lb, 0, none⟩) n cap) (vs.set i v') (updL L i l) := by
  obtain ⟨v1, hv1, hr1⟩ := h.row i hi
  obtain rfl := Option.some.inj (hv.symm.trans hv1)
  have hlb := own_ty h.own (x := lb) rfl
  have hlt := h.len
  have ho : w'.ownsRow B 43 1 (.slice (some ⟨lb, 0, none⟩) n cap) n vs := own_chg h.own hc fun b hb q => by
    have := (own_ty h.own hb).eq (own_ty hr1 q); revert this; decide
  have hlb' := own_ty ho (x := lb) rfl
  have hch : Chg (fun x => x = lb) w' (w'.setCell ⟨lb, i, none⟩ v') := (Chg.refl (fun x => x = lb) w').setCell (p := ⟨lb, i, none⟩) (fun _ => rfl) _
  have hne : ∀ {u : Value} {k : Nat} {xs : List Value}, w'.ownsRow B 45 3 u k xs → ∀ b, u.ownBlock = some b → b ≠ lb := fun {u k xs} hu b hb e => by
    subst e
    have := (own_ty hu hb).eq hlb'; revert this; decide
  refine ⟨(ho.stored i v').1, fun j hj => ?_, fun a b x u u' hu hu' hx hx' => ?_⟩
  · by_cases e : j = i
    · subst e
      exact ⟨v', by rw [List.getElem?_set_self (by omega)], by rw [updL_same]; exact own_chg hown hch fun b hb q => hne hown b hb q⟩
    · obtain ⟨v2, hv2, hr2⟩ := h.row j hj
      have hr3 := own_chg hr2 hc fun b hb q => e (h.apart j i b v2 v hv2 hv hb q)
      exact ⟨v2, by rw [List.getElem?_set_ne (fun e' => e e'.symm)]; exact hv2, by rw [updL_other L l e]; exact own_chg hr3 hch fun b hb q => hne hr3 b hb q⟩
  · have key : ∀ (c : Nat) (u : Value), (vs.set i v')[c]? = some u → c ≠ i → vs[c]? = some u := fun c u hu hc' => by rwa [List.getElem?_set_ne (fun e' => hc' e'.symm)] at hu
    have self : ∀ u : Value, (vs.set i v')[i]? = some u → u = v' := fun u hu => by rw [List.getElem?_set_self (by omega)] at hu; exact (Option.some.inj hu).symm
    have low : ∀ (c : Nat) (u : Value) (y : Nat), vs[c]? = some u → u.ownBlock = some y → y < w.heap.size := fun c u y hu hy => by
      have hcn : c < n := by have := (List.getElem?_eq_some_iff.1 hu).1; omega
      obtain ⟨v2, hv2, hr2⟩ := h.row c hcn
      obtain rfl := Option.some.inj (hu.symm.trans hv2)
      exact (hr2.lt y hy).2
    by_cases ea : a = i
    · by_cases eb : b = i
      · exact ea.trans eb.symm
      · subst ea
        obtain rfl := self u hu
        have hb' := key b u' hu' eb
        rcases hat x hx with e | e
        · exact h.apart a b x v u' hv hb' e hx'
        · have := low b u' x hb' hx'; omega
    · by_cases eb : b = i
      · subst eb
        obtain rfl := self u' hu'
        have ha' := key a u hu ea
        rcases hat x hx' with e | e
        · exact h.apart a b x u v ha' hv hx e
        · have := low a u x ha' hx; omega
      · exact h.apart a b x u u' (key a u hu ea) (key b u' hu' eb) hx hx'

end Go.Proofs.YtnebfniekeknaaaDoor

/- A row of moves, sorted by slices.SortFunc: a contract.
   Conditions: the row is the call's own, and has fewer than 2 to the power 62 moves. -/
namespace Go.Proofs.YtnebfniekeknaaaDoor
open Go.RowKit Go.Maps Go.Sort Go.Shelf

theorem mvc_get : ∀ (l : List Mv) (t : Nat), t < l.length * 3 → (l.flatMap mvc)[t]? = some (mvc l[t / 3]!)[t % 3]!
  | [], t, h => by simp at h
  | m :: l, t, h => by
    rw [List.flatMap_cons]
    by_cases ht : t < 3
    · rw [List.getElem?_append_left (by show t < 3; exact ht)]
      have h3 : t / 3 = 0 := by omega
      have h4 : t % 3 = t := by omega
      rw [h3, h4]
      have : t = 0 ∨ t = 1 ∨ t = 2 := by omega
      rcases this with rfl | rfl | rfl <;> rfl
    · rw [List.getElem?_append_right (by show 3 ≤ t; omega)]
      have h3 : t / 3 = (t - 3) / 3 + 1 := by omega
      have h4 : t % 3 = (t - 3) % 3 := by omega
      have h5 := mvc_get l (t - 3) (by simp only [List.length_cons] at h; omega)
      rw [show t - (mvc m).length = t - 3 from rfl, h5, h3, h4]
      simp
theorem flat_mv (l : List Mv) (t : Nat) (h : t < l.length * 3) : (l.flatMap mvc)[t]? = some (flatK mvc 3 l.toArray)[t]! := by
  rw [mvc_get l t h, get_flatK mvc 3 l.toArray t (by simpa using h)]
  simp
theorem holds_mv {w : World} {B g cap : Nat} {l : List Mv} (h : w.ownsRow B 45 3 (.slice (some ⟨g, 0, none⟩) l.length cap) l.length (l.flatMap mvc)) : HoldsK mvc 3 w g 0 l.toArray := by
  intro j hj
  have hj' : j < l.length * 3 := by simpa using hj
  rw [Nat.zero_add]
  refine ⟨?_, h.frozenAt j⟩
  rw [h.cellAt j hj', flat_mv l j hj']
  rfl
theorem owns_sorted {w : World} {B g cap m : Nat} {l l' : List Mv} {os : Array Obj} (h : w.ownsRow B 45 3 (.slice (some ⟨g, 0, none⟩) l.length cap) l.length (l.flatMap mvc)) (hl : l'.length = l.length) :
    (sortWorldK mvc 3 w g 0 m l'.toArray os).ownsRow B 45 3 (.slice (some ⟨g, 0, none⟩) l.length cap) l'.length (l'.flatMap mvc) ∧ Chg (fun x => g = x) w (sortWorldK mvc 3 w g 0 m l'.toArray os) := by
  have hlt := (h.lt g rfl).2
  rcases h.2 with ⟨e0, _⟩ | ⟨g', cap', cur, e0, hb, hg, hn, hm, hs, ht⟩
  · cases e0
  · injection e0 with e1 _ e3
    injection e1 with e1
    injection e1 with e1
    subst e1; subst e3
    have hput : (putRowK mvc 3 (Sort.ahead w m) g 0 l'.toArray).heap[g]? = some (.cells (putCells id 0 (flatK mvc 3 l'.toArray) cur) 45 (0, 0)) := by
      simp [putRowK, putRow, mapBlock, Sort.ahead, Array.getElem?_modify, hg, onCells]
    have hsz : (putRowK mvc 3 (Sort.ahead w m) g 0 l'.toArray).heap.size = w.heap.size := by simp [putRowK, putRow, mapBlock, Sort.ahead]
    have hgr : (sortWorldK mvc 3 w g 0 m l'.toArray os).heap[g]? = some (.cells (putCells id 0 (flatK mvc 3 l'.toArray) cur) 45 (0, 0)) := by
      unfold sortWorldK grow
      show ((putRowK mvc 3 (Sort.ahead w m) g 0 l'.toArray).heap ++ os)[g]? = _
      rw [Array.getElem?_append_left (by omega)]
      exact hput
    refine ⟨⟨?_, .inr ⟨g, cap, putCells id 0 (flatK mvc 3 l'.toArray) cur, by rw [hl], hb, hgr, by omega, hm, by simpa [putCells] using hs, ?_⟩⟩, ?_⟩
    · rw [mvcs_len]
    · apply List.ext_getElem?
      intro j
      rw [List.getElem?_take, Array.getElem?_toList]
      by_cases hj : j < l'.length * 3
      · have hjc : j < cur.size := by
          have : l.length * 3 ≤ cap * 3 := Nat.mul_le_mul_right 3 hn
          omega
        rw [if_pos hj, flat_mv l' j hj]
        simp only [putCells, Array.getElem?_mapIdx, Array.getElem?_eq_getElem hjc, Option.map_some]
        rw [if_pos (by simp; omega)]
        rfl
      · rw [if_neg hj, List.getElem?_eq_none (by rw [mvcs_len]; omega)]
    · refine ⟨rfl, rfl, rfl, ?_, fun k hk hne => ?_⟩
      · unfold sortWorldK grow
        show w.heap.size ≤ ((putRowK mvc 3 (Sort.ahead w m) g 0 l'.toArray).heap ++ os).size
        rw [Array.size_append, hsz]
        omega
      · unfold sortWorldK grow
        show ((putRowK mvc 3 (Sort.ahead w m) g 0 l'.toArray).heap ++ os)[k]? = _
        rw [Array.getElem?_append_left (by omega)]
        simp [putRowK, putRow, mapBlock, Sort.ahead, Array.getElem?_modify, hne]

/-- slices.SortFunc of a row of moves, by moves.order. -/
theorem sort_row (w : World) (B : Nat) (v : Value) (l : List Mv) (h : w.ownsRow B 45 3 v l.length (l.flatMap mvc)) (hl : l.length < 4611686018427387904) :
    Calls Tryd.prog 51 #[v, .func (.func 52) #[] #[]] w fun e w' => e = .returned (.tuple #[]) ∧ w'.ownsRow B 45 3 v (sortM l).length ((sortM l).flatMap mvc) ∧ Chg (fun x => v.ownBlock = some x) w w' := by
  have hsl : (sortM l).length = l.length := (sortM_perm l).length_eq
  cases l with
  | nil =>
    obtain ⟨A, cp, rfl⟩ := own_form h
    refine (AnyF.slices_SortFunc_none Tryd.sortMv A cp (.func (.func 52) #[] #[]) w).mono ?_
    rintro e w' ⟨rfl, rfl⟩
    have e1 : sortM [] = [] := List.eq_nil_of_length_eq_zero hsl
    exact ⟨rfl, by rw [e1]; exact h, Chg.refl _ _⟩
  | cons m l =>
    obtain ⟨g, cap, rfl⟩ := ownsRow_succ h
    have eg : ∀ args w, (callFunc 52 args).run Tryd.prog w = .ok (.enter 52 args) w := enters_of Tryd.func52 (by kernel_rfl) rfl
    have hcmp : CmpLays Tryd.prog 52 #[] mvc 3 cfM g 0 (m :: l).toArray.size w := fun q os dk _ x y => orderM_any x.tt x.kp y.tt y.kp x.ag y.ag _
    refine (AnyQ.slices_SortFunc_total Tryd.sortMv 3 Tryd.isAgg45 Tryd.sizeOf45 mvc (fun _ => rfl) (fun x v hv => by simp [mvc] at hv; rcases hv with rfl | rfl | rfl <;> rfl) cfM swoM 52 #[] g 0 cap (m :: l).toArray w eg hcmp (holds_mv h) (h.lt g rfl).2 (by simpa using hl) totM).mono ?_
    rintro e w' ⟨rfl, q, os, rfl⟩
    have h1 := owns_sorted (m := q) (os := os) h hsl
    exact ⟨rfl, h1.1, h1.2.mono fun x _ e => by rw [← e]; rfl⟩

end Go.Proofs.YtnebfniekeknaaaDoor
