/- The simple tree of a row, of its parts' results: a contract.
   Conditions: the results are their own, in memory, one behind the other. -/
import Derived.Test.YteaejdkmgicdhaaMSn
import Derived.Test.YteaejdkmgicdhaaMTimes
import Derived.Deep.DeepCutAuto

/- What row and either have gathered, in memory, at each part: plain facts.
   Conditions: those that each theorem states. -/
namespace Go.Proofs.Yteaejdkmgicdhaa
open Go.RowKit Go.Shelf

theorem rcells_at : ∀ (rs : List (V × Bool)) (i : Nat) (r : V × Bool), rs[i]? = some r → ∀ j, j < 9 → (rs.flatMap rcells)[i * 9 + j]? = (rcells r)[j]?
  | [], i, r, h, _, _ => by simp at h
  | q :: rs, 0, r, h, j, hj => by
    simp at h
    subst h
    rw [List.flatMap_cons, Nat.zero_mul, Nat.zero_add, List.getElem?_append_left (by rw [rcells_len]; exact hj)]
  | q :: rs, i + 1, r, h, j, hj => by
    have ih := rcells_at rs i r (by simpa using h) j hj
    rw [List.flatMap_cons, List.getElem?_append_right (by rw [rcells_len]; omega), rcells_len, show (i + 1) * 9 + j - 9 = i * 9 + j by omega]
    exact ih
/-- What is left of results, by their trees, and spread. -/
def fl (k : Int) (f : T → Bool) (rs : List (V × Bool)) : List T := spreadT k (((rs.map er).map Prod.fst).filter f)
theorem fl_snoc (k : Int) (f : T → Bool) (rs : List (V × Bool)) (r : V × Bool) : fl k f (rs ++ [r]) = fl k f rs ++ (if f (erase r.1) then spreadT k [erase r.1] else []) := by
  unfold fl
  rw [List.map_append, List.map_append, List.filter_append, spread_append]
  congr 1
  cases h : f (erase r.1) with
  | true =>
    have : [r].map er = [(erase r.1, r.2)] := rfl
    rw [this]
    simp [h]
  | false =>
    have : [r].map er = [(erase r.1, r.2)] := rfl
    rw [this]
    simp [h, spreadT]
def szR (rs : List (V × Bool)) : Nat := (rs.map fun r => r.1.ps.length + 1).sum
theorem take_one {α : Type} {l : List α} {i : Nat} {x : α} (h : l[i]? = some x) : l.take (i + 1) = l.take i ++ [x] := by rw [List.take_add_one, h]; rfl
theorem drop_one {α : Type} {l : List α} {i : Nat} {x : α} (h : l[i]? = some x) : l.drop i = x :: l.drop (i + 1) := by
  have hi := (List.getElem?_eq_some_iff.1 h).1
  rw [List.drop_eq_getElem_cons hi, (List.getElem?_eq_some_iff.1 h).2]
structure GI (w : World) (a M : Nat) (k : Int) (f : T → Bool) (rs : List (V × Bool)) (i : Nat) (v : Value) (ts : List V) (mi : Nat) (wr : World) : Prop where
  row : RowA wr a mi (fun x => x < mi ∨ w.heap.size ≤ x) v ts
  nil : ts = [] → v = .slice none 0 0
  seq : SeqR wr mi (rs.drop i) M
  le : a ≤ mi
  er : erases ts = fl k f (rs.take i)
  chg : Chg (fun x => a ≤ x ∧ NT w x) w wr
  len : ts.length + szR (rs.drop i) ≤ szR rs
  zb : ZB9 w.heap.size wr
section
variable {w wr wr' : World} {a M : Nat} {k : Int} {f : T → Bool} {rs : List (V × Bool)} {i : Nat} {v : Value} {ts : List V} {mi : Nat}
theorem GI.start (k : Int) (f : T → Bool) (h : SeqR w a rs M) : GI w a M k f rs 0 (.slice none 0 0) [] a (w.alloc (.cells #[.int .i64 0, .int .u64 0, .int .u64 0, .int .u64 0, .int .u64 0, .slice none 0 0, .int .i64 0, .int .i64 0, .bool false] 59)) := by
  have hb : Below w.heap.size w (w.alloc (.cells #[.int .i64 0, .int .u64 0, .int .u64 0, .int .u64 0, .int .u64 0, .slice none 0 0, .int .i64 0, .int .i64 0, .bool false] 59)) := (Below.refl _ _).alloc (Nat.le_refl _) _
  exact ⟨RowA.nil _ _ _ _, fun _ => rfl, h.chg (Chg.of_below (R := fun _ => False) hb) fun _ _ _ _ => id, Nat.le_refl _, by rw [List.take_zero]; rfl, Chg.of_below hb, by rw [List.drop_zero]; simp, heap_alloc_new w _⟩
theorem GI.below (h : GI w a M k f rs i v ts mi wr) (hb : Below wr.heap.size wr wr') : GI w a M k f rs i v ts mi wr' :=
  ⟨h.row.chg (Chg.of_below (R := fun _ => False) hb) fun _ _ _ _ => id, h.nil, h.seq.chg (Chg.of_below (R := fun _ => False) hb) fun _ _ _ _ => id, h.le, h.er, h.chg.trans (Chg.of_below (R := fun _ => False) hb) fun _ _ e => e.elim, h.len, h.zb.below hb⟩
theorem GI.parts {pv : Value} {base : Nat} (h : GI w a M k f rs i v ts mi wr) (hown : w.ownsRow base 59 9 pv rs.length (rs.flatMap rcells)) : wr.ownsRow base 59 9 pv rs.length (rs.flatMap rcells) :=
  own_chg hown h.chg fun _ hb e => own_not_nt hown (by decide) hb e.2
theorem GI.here {r : V × Bool} (h : GI w a M k f rs i v ts mi wr) (hr : rs[i]? = some r) : ∃ m', mi ≤ m' ∧ Res wr mi m' r.1 ∧ SeqR wr m' (rs.drop (i + 1)) M ∧ ts.length + (r.1.ps.length + 1) + szR (rs.drop (i + 1)) ≤ szR rs := by
  have h1 := h.seq
  have h2 := h.len
  rw [drop_one hr] at h1 h2
  obtain ⟨m', a1, a2, a3⟩ := h1
  refine ⟨m', a1, a2, a3, ?_⟩
  simp only [szR, List.map_cons, List.sum_cons] at h2 ⊢
  omega
/-- A part that is left out. -/
theorem GI.skip {r : V × Bool} (h : GI w a M k f rs i v ts mi wr) (hr : rs[i]? = some r) (hf : f (erase r.1) = false) : ∃ m', GI w a M k f rs (i + 1) v ts m' wr := by
  obtain ⟨m', a1, a2, a3, a4⟩ := h.here hr
  refine ⟨m', h.row.wid (Nat.le_refl _) a1 (fun x hx => by omega), h.nil, a3, Nat.le_trans h.le a1, ?_, h.chg, by omega, h.zb⟩
  rw [take_one hr, fl_snoc, hf, h.er]
  simp
/-- A part that is gathered. -/
theorem GI.more {r : V × Bool} {v' : Value} {m' : Nat} (h : GI w a M k f rs i v ts mi wr) (hr : rs[i]? = some r) (hf : f (erase r.1) = true) (hne : r.1.kind = k → r.1.ps ≠ []) (h3 : SeqR wr m' (rs.drop (i + 1)) M) (hmm : mi ≤ m') (h4 : ts.length + (r.1.ps.length + 1) + szR (rs.drop (i + 1)) ≤ szR rs)
    (hM : M ≤ w.heap.size) (hc : Chg (fun x => v.ownBlock = some x) wr wr') (hrow : RowA wr' a m' (fun x => x < m' ∨ w.heap.size ≤ x) v' (gath k ts r.1)) : GI w a M k f rs (i + 1) v' (gath k ts r.1) m' wr' := by
  have hvb : ∀ x, v.ownBlock = some x → x < mi ∨ w.heap.size ≤ x := fun x hx => h.row.at' x hx
  refine ⟨hrow, fun e => ?_, h3.chg hc fun x e1 e2 e3 e4 => ?_, Nat.le_trans h.le hmm, ?_, ?_, ?_, h.zb.keep (hc.block _ h.zb.lt fun e => ?_)⟩
  · exfalso
    unfold gath at e
    rw [List.append_eq_nil_iff] at e
    have e2 := e.2
    split at e2
    · rename_i hk; exact hne hk e2
    · cases e2
  · have := hvb x e4
    omega
  · rw [take_one hr, fl_snoc, hf, gath_erase, h.er]
    rfl
  · refine h.chg.trans hc fun x hx e => ?_
    have h5 := own_nt h.row.own e
    refine ⟨(h.row.own.lt x e).1, ?_⟩
    by_cases h6 : a ≤ x ∧ NT w x
    · exact h6.2
    · exact h5.keep (h.chg.block x hx h6).symm
  · unfold gath
    rw [List.length_append]
    split
    · omega
    · simp only [List.length_cons, List.length_nil]; omega
  · have h5 := own_nt h.row.own e
    obtain ⟨cs, m0, h6⟩ := h5
    have h7 : wr.heap[w.heap.size]? = _ := h.zb
    rw [h7] at h6
    have := Option.some.inj h6
    simp only [Obj.cells.injEq] at this
    exact absurd this.2.1 (by decide)
end

end Go.Proofs.Yteaejdkmgicdhaa

/- The simple tree of a row, of its parts' results: a contract.
   Conditions: the results are their own, in memory, one behind the other. -/
namespace Go.Proofs.Yteaejdkmgicdhaa
open Go.RowKit Go.Shelf
attribute [local go_sem] nodeAgg

def fR (s : T) : Bool := decide (s.kind ≠ 0)
/-- What a row's loop knows. -/
def RI (w : World) (a M : Nat) (rs : List (V × Bool)) (i : Nat) (nb : Bool) (v : Value) (wr : World) : Prop :=
  ∃ ts mi, GI w a M 2 fR rs i v ts mi wr ∧ nb = (rs.take i).all Prod.snd ∧ ∀ r ∈ rs.take i, vB (erase r.1) = false
theorem boxr_new (w : World) (t : V) (v : Value) (n : Bool) : ∃ w2, w.alloc (.cells #[.int .i64 t.kind, .int .u64 (t.set 0 : Nat), .int .u64 (t.set 1 : Nat), .int .u64 (t.set 2 : Nat), .int .u64 (t.set 3 : Nat), v, .int .i64 t.lo, .int .i64 t.hi, .bool n] 59) = w2 ∧ Below w.heap.size w w2 ∧ w2.heap.size = w.heap.size + 1 ∧ ∀ W, Below w2.heap.size w2 W → BoxC9 w.heap.size t v n W := by
  refine ⟨_, rfl, (Below.refl _ _).alloc (Nat.le_refl _) _, by simp, fun W hW => ?_⟩
  refine .of ((hW.block _ (by simp)).trans (heap_alloc_new w _))

theorem chg_box {w w2 w3 : World} {a b : Nat} (h : Chg (fun x => a ≤ x ∧ NT w x) w w2) (hc : Chg (fun x => x = b) w2 w3) (hb : w.heap.size ≤ b) : Chg (fun x => a ≤ x ∧ NT w x) w w3 := h.trans hc fun x hx e => by omega
theorem res_box {w2 w3 : World} {a m b : Nat} {t : V} (h : Res w2 a m t) (hz : ZB9 b w2) (hc : Chg (fun x => x = b) w2 w3) : Res w3 a m t := h.chg hc fun x hx _ _ e => by
  obtain ⟨cs, m0, h6⟩ := hx
  have h7 : w2.heap[b]? = _ := hz
  rw [e, h7] at h6
  have := Option.some.inj h6
  simp only [Obj.cells.injEq] at this
  exact absurd this.2.1 (by decide)
theorem row_void {rs : List (V × Bool)} {i : Nat} {t : V} {n : Bool} (h : ∀ r ∈ rs.take i, vB (erase r.1) = false) (hr : rs[i]? = some (t, n)) (hv : vB (erase t) = true) : rowP (rs.map er) = er (t, n) := by
  have e : (rs.map er).find? (fun r => vB r.1) = some (er (t, n)) := by
    rw [← List.take_append_drop i rs, drop_one hr, List.map_append, List.map_cons, List.find?_append, List.find?_cons_of_pos (by exact hv)]
    rw [List.find?_eq_none.2 fun x hx => ?_]
    · rfl
    · obtain ⟨r, hr2, rfl⟩ := List.mem_map.1 hx
      rw [show vB (er r).1 = false from h r hr2]
      decide
  unfold rowP
  rw [e]
theorem row_end {rs : List (V × Bool)} {ts : List V} {b : Bool} {v : Value} (he : erases ts = fl 2 fR (rs.take rs.length)) (hb : b = (rs.take rs.length).all Prod.snd) (h : ∀ r ∈ rs.take rs.length, vB (erase r.1) = false) : rowP (rs.map er) = (erase (joinV 2 v ts), b) := by
  rw [List.take_length] at he hb h
  have e : (rs.map er).find? (fun r => vB r.1) = none := List.find?_eq_none.2 fun x hx => by
    obtain ⟨r, hr2, rfl⟩ := List.mem_map.1 hx
    rw [show vB (er r).1 = false from h r hr2]
    decide
  unfold rowP
  rw [e]
  show (_, _) = _
  rw [join_erase, he, hb, List.all_map]
  rfl
theorem row_all {rs : List (V × Bool)} {i : Nat} {t : V} {n b : Bool} (hr : rs[i]? = some (t, n)) (hb : b = (rs.take i).all Prod.snd) : (b && n) = (rs.take (i + 1)).all Prod.snd := by
  rw [take_one hr, List.all_append, ← hb]
  simp
theorem row_no {rs : List (V × Bool)} {i : Nat} {t : V} {n : Bool} (hr : rs[i]? = some (t, n)) (h : ∀ r ∈ rs.take i, vB (erase r.1) = false) (hv : vB (erase t) = false) : ∀ r ∈ rs.take (i + 1), vB (erase r.1) = false := fun r hm => by
  rw [take_one hr] at hm
  rcases List.mem_append.1 hm with hm | hm
  · exact h r hm
  · rw [List.mem_singleton.1 hm]; exact hv
section
variable {w wr w2 w3 : World} {a M : Nat} {k : Int} {f : T → Bool} {rs : List (V × Bool)} {i : Nat} {v : Value} {ts : List V} {mi m' : Nat} {t : V} {n : Bool} {sa : Option Addr} {sn sc : Nat}
theorem row_gives (hG : GI w a M k f rs i v ts mi wr) (hs : t.v = .slice sa sn sc) (ht : Res wr mi m' t) (h3 : SeqR wr m' (rs.drop (i + 1)) M) (hM : M ≤ w.heap.size) (hb : Below wr.heap.size wr w2) (hc : Chg (fun x => x = w.heap.size) w2 w3) :
    GivesS a (er (t, n)) (.returned (.agg #[.int .i64 t.kind, .int .u64 (t.set 0 : Nat), .int .u64 (t.set 1 : Nat), .int .u64 (t.set 2 : Nat), .int .u64 (t.set 3 : Nat), .slice sa sn sc, .int .i64 t.lo, .int .i64 t.hi, .bool n])) w3 ∧ Chg (fun x => a ≤ x ∧ NT w x) w w3 := by
  have hG2 := hG.below hb
  have hc3 := chg_box hG2.chg hc (Nat.le_refl _)
  refine ⟨⟨(t, n), by rw [rcells_v hs], rfl, ?_⟩, hc3⟩
  exact (res_box (ht.chg (Chg.of_below (R := fun _ => False) hb) fun _ _ _ _ => id) hG2.zb hc).wid hG.le (by have := h3.le; have := hc3.size; omega)
theorem row_call (hG : GI w a M k f rs i v ts mi wr) (_ : rs[i]? = some (t, n)) (hs : t.v = .slice sa sn sc) (hmm : mi ≤ m') (ht : Res wr mi m' t) (h3 : SeqR wr m' (rs.drop (i + 1)) M) (h4 : ts.length + (t.ps.length + 1) + szR (rs.drop (i + 1)) ≤ szR rs) (hM : M ≤ w.heap.size)
    (hne : t.kind = k → t.ps ≠ []) (hsz : szR rs ≤ 900000) {q : Nat} (_ : q = ts.length) (hb : Below wr.heap.size wr w2) :
    Calls Try.prog 61 #[v, .int .i64 k, .agg #[.int .i64 t.kind, .int .u64 (t.set 0 : Nat), .int .u64 (t.set 1 : Nat), .int .u64 (t.set 2 : Nat), .int .u64 (t.set 3 : Nat), .slice sa sn sc, .int .i64 t.lo, .int .i64 t.hi]] w2 fun e w' => ∃ v', e = .returned v' ∧ Chg (fun x => v.ownBlock = some x) w2 w' ∧ RowA w' a m' (fun x => x < m' ∨ w.heap.size ≤ x) v' (gath k ts t) := by
  have hG2 := hG.below hb
  have := gathered_any w2 a mi mi m' w.heap.size v ts t k hG2.row hG2.nil (ht.chg (Chg.of_below (R := fun _ => False) hb) fun _ _ _ _ => id) (Nat.le_refl _) hG.le hmm (by have := h3.le; omega) hG2.chg.size hne (by omega)
  rw [nodeAgg_v hs] at this
  exact this
theorem row_fin (hG : GI w a M k f rs i v ts mi wr) (hb : Below wr.heap.size wr w2) : Res w2 a w2.heap.size (joinV k v ts) := by
  have hG2 := hG.below hb
  refine (Res.join (M := w2.heap.size) (P := fun x => x < w2.heap.size) ⟨hG2.row.own, fun x hx => (hG2.row.own.lt x hx).2, fun p hp => OwnT.mono (hG2.row.kids p hp) fun b hb hr => ⟨⟨hr.1.1, hb, hr.1.2.2⟩, hr.2⟩⟩ (Nat.le_refl _) (fun x hx => hx) k)
theorem row_done (hs : t.v = .slice sa sn sc) (ht : Res w2 a w2.heap.size t) (hG : GI w a M k f rs i v ts mi wr) (hb : Below wr.heap.size wr w2) (hc : Chg (fun x => x = w.heap.size) w2 w3) :
    GivesS a (erase t, n) (.returned (.agg #[.int .i64 t.kind, .int .u64 (t.set 0 : Nat), .int .u64 (t.set 1 : Nat), .int .u64 (t.set 2 : Nat), .int .u64 (t.set 3 : Nat), .slice sa sn sc, .int .i64 t.lo, .int .i64 t.hi, .bool n])) w3 ∧ Chg (fun x => a ≤ x ∧ NT w x) w w3 := by
  have hG2 := hG.below hb
  exact ⟨⟨(t, n), by rw [rcells_v hs], rfl, (res_box ht hG2.zb hc).wid (Nat.le_refl _) hc.size⟩, chg_box hG2.chg hc (Nat.le_refl _)⟩
end

end Go.Proofs.Yteaejdkmgicdhaa
