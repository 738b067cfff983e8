/- The simple tree of alternatives, of their results: a contract.
   Conditions: the results are their own, in memory, one behind the other; they are formed trees' simple ones. -/
import Derived.Test.YteaejdkmgicdhaaMRow
import Derived.Test.YteaejdkmgicdhaaMDist
import Derived.Test.YteaejdkmgicdhaaMSim

/- The simple tree of alternatives, of their results: a contract.
   Conditions: the results are their own, in memory, one behind the other; they are formed trees' simple ones. -/
namespace Go.Proofs.Yteaejdkmgicdhaa
open Go.RowKit Go.Shelf
attribute [local go_sem] nodeAgg

def fE (s : T) : Bool := !vB s
/-- What the loop over alternatives knows. -/
def EI (w : World) (a M : Nat) (rs : List (V × Bool)) (i : Nat) (nb : Bool) (v : Value) (wr : World) : Prop :=
  ∃ ts mi, GI w a M 3 fE rs i v ts mi wr ∧ nb = (rs.take i).any Prod.snd ∧ (ts = [] → Chg (fun _ => False) w wr)
theorem either_any' {rs : List (V × Bool)} {i : Nat} {t : V} {n b : Bool} (hr : rs[i]? = some (t, n)) (hb : b = (rs.take i).any Prod.snd) : (b || n) = (rs.take (i + 1)).any Prod.snd := by
  rw [take_one hr, List.any_append, ← hb]
  simp
theorem alts_er (rs : List (V × Bool)) : altsP (rs.map er) = fl 3 fE rs := rfl
theorem eith_none {rs : List (V × Bool)} {r : V × Bool} (h : fl 3 fE rs = []) (hr : rs[0]? = some r) : eitherP (rs.map er) = er r := by
  cases rs with
  | nil => simp at hr
  | cons q rs =>
    simp at hr
    subst hr
    unfold eitherP
    rw [alts_er, h]
    rfl
theorem eith_some {rs : List (V × Bool)} {b : Bool} (h : fl 3 fE rs ≠ []) (hb : b = (rs.take rs.length).any Prod.snd) : eitherP (rs.map er) = (oneOf 3 (leftT 3 [] (fl 3 fE rs)), b) := by
  unfold eitherP
  rw [alts_er]
  cases hl : fl 3 fE rs with
  | nil => exact absurd hl h
  | cons x xs =>
    rw [hb, List.take_length]
    show (_, (rs.map er).any Prod.snd) = _
    rw [List.any_map]
    rfl
section
variable {w wr w2 w3 w4 : World} {a M : Nat} {rs : List (V × Bool)} {i : Nat} {v v' : Value} {ts : List V} {mi : Nat} {t : V} {n : Bool} {sa : Option Addr} {sn sc : Nat}
theorem eith_first (hG : GI w a M 3 fE rs i v ts mi wr) (hn : Chg (fun _ => False) w wr) (hseq : SeqR w a rs M) (hr : rs[0]? = some (t, n)) (hM : M ≤ w.heap.size) (hs : t.v = .slice sa sn sc) (hc : Chg (fun x => x = w.heap.size) wr w3) :
    GivesS a (er (t, n)) (.returned (.agg #[.int .i64 t.kind, .int .u64 (t.set 0 : Nat), .int .u64 (t.set 1 : Nat), .int .u64 (t.set 2 : Nat), .int .u64 (t.set 3 : Nat), .slice sa sn sc, .int .i64 t.lo, .int .i64 t.hi, .bool n])) w3 ∧ Chg (fun x => a ≤ x ∧ NT w x) w w3 := by
  have hc3 := chg_box hG.chg hc (Nat.le_refl _)
  refine ⟨⟨(t, n), by rw [rcells_v hs], rfl, ?_⟩, hc3⟩
  cases rs with
  | nil => simp at hr
  | cons q rs =>
    simp at hr
    subst hr
    obtain ⟨m', h1, h2, h3⟩ := hseq
    have h4 : Res wr a m' t := Res.chg h2 hn fun _ _ _ _ => id
    exact (res_box h4 hG.zb hc).wid (Nat.le_refl _) (by have := h3.le; have := hc3.size; omega)
/-- What is left without what is there already: a row of its own. -/
theorem eith_row (hG : GI w a M 3 fE rs i v ts mi wr) (hM : mi ≤ w.heap.size) (hb : Below wr.heap.size wr w2) (hown : w2.ownsRow (wr.heap.size + 2) 27 8 v' (dsV [] ts).length (flat (dsV [] ts))) : RowA w2 a w2.heap.size (fun x => x < w2.heap.size) v' (dsV [] ts) := by
  have hws := hG.chg.size
  have hG2 := hG.below hb
  refine ⟨own_low hown (by have := hG.le; omega), fun x hx => (hown.lt x hx).2, fun t ht => ?_⟩
  have hm : t ∈ ts := by
    rcases dsV_mem _ _ t ht with h | h
    · cases h
    · exact h
  refine OwnT.mono (hG2.row.kids t hm) fun b _ hr => ⟨⟨hr.1.1, hr.1.2.2.lt, hr.1.2.2⟩, fun e => ?_⟩
  have h1 := (hown.lt b e).1
  have h2 := hr.1.2.1
  omega
theorem eith_done (hG : GI w a M 3 fE rs i v ts mi wr) (hs : t.v = .slice sa sn sc) (ht : Res w2 a w2.heap.size t) (hb : Below wr.heap.size wr w2) (hb3 : Below w2.heap.size w2 w3) (hc : Chg (fun x => x = w.heap.size) w3 w4) :
    GivesS a (erase t, n) (.returned (.agg #[.int .i64 t.kind, .int .u64 (t.set 0 : Nat), .int .u64 (t.set 1 : Nat), .int .u64 (t.set 2 : Nat), .int .u64 (t.set 3 : Nat), .slice sa sn sc, .int .i64 t.lo, .int .i64 t.hi, .bool n])) w4 ∧ Chg (fun x => a ≤ x ∧ NT w x) w w4 := by
  have hG3 := hG.below (bhop hb hb3)
  have h3 : Res w3 a w2.heap.size t := ht.chg (Chg.of_below (R := fun _ => False) hb3) fun _ _ _ _ => id
  exact ⟨⟨(t, n), by rw [rcells_v hs], rfl, (res_box h3 hG3.zb hc).wid (Nat.le_refl _) (Nat.le_trans hb3.size hc.size)⟩, chg_box hG3.chg hc (Nat.le_refl _)⟩
end
theorem gath_ne {k : Int} {ts : List V} {t : V} (h : t.kind = k → t.ps ≠ []) : gath k ts t ≠ [] := fun e => by
  unfold gath at e
  rw [List.append_eq_nil_iff] at e
  have e2 := e.2
  split at e2
  · rename_i hk; exact h hk e2
  · cases e2
theorem eith_v {w : World} {a M : Nat} {rs : List (V × Bool)} {t : V} {n : Bool} (hseq : SeqR w a rs M) (hr : rs[0]? = some (t, n)) : ∃ sa sn sc, t.v = .slice sa sn sc := by
  cases rs with
  | nil => simp at hr
  | cons q rs =>
    simp at hr
    subst hr
    obtain ⟨m', h1, h2, h3⟩ := hseq
    exact (Res.laid h2).slice

end Go.Proofs.Yteaejdkmgicdhaa
