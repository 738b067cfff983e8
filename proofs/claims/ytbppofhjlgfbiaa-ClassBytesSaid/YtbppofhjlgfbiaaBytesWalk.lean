/- The walk of the statement ClassBytes: called with two classes it returns true and changes nothing that was there.
   Conditions: classes are four words below 2^64 ('Cl'). -/
import Derived.Test.YtbppofhjlgfbiaaLawsWalk
import Derived.Test.YtbppofhjlgfbiaaOrder
import Derived.Deep.QuietTactic
import Derived.BigQuiet
namespace Go.Proofs.Ytbppofhjlgfbiaa
open Go.RowKit

def Cells (w : World) (b : Nat) (C : Nat → Nat) : Prop := ∀ j, j < 4 → w.cell? ⟨b, j, none⟩ = some (.int .u64 (C j : Nat))
def Free (w : World) (b : Nat) : Prop := ∀ j, j < 4 → w.frozen? ⟨b, j, none⟩ = false
def IsVar (w : World) (H : Nat) (x : Value) (b : Nat) (E : Nat → Nat) : Prop := x = .pointer (some ⟨b, 0, none⟩) ∧ H ≤ b ∧ b < w.heap.size ∧ Cells w b E ∧ Free w b
theorem Cells.lt {w : World} {b : Nat} {C : Nat → Nat} (h : Cells w b C) : b < w.heap.size := World.block_lt_of_cell? _ _ (h 0 (by decide))
theorem Cells.below {w w' : World} {b : Nat} {C : Nat → Nat} (h : Cells w b C) (hb : Below w.heap.size w w') : Cells w' b C := fun j hj => (hb.cell (p := ⟨b, j, none⟩) h.lt).trans (h j hj)
theorem Free.below {w w' : World} {b : Nat} (h : Free w b) (hl : b < w.heap.size) (hb : Below w.heap.size w w') : Free w' b := fun j hj => (hb.frozen (p := ⟨b, j, none⟩) hl).trans (h j hj)
theorem IsVar.below {w w' : World} {H b : Nat} {x : Value} {E : Nat → Nat} (h : IsVar w H x b E) (hb : Below w.heap.size w w') : IsVar w' H x b E :=
  ⟨h.1, h.2.1, Nat.lt_of_lt_of_le h.2.2.1 hb.size, h.2.2.2.1.below hb, h.2.2.2.2.below h.2.2.1 hb⟩
def store4 (w : World) (b : Nat) (C : Nat → Nat) : World := (((w.setCell ⟨b, 0, none⟩ (.int .u64 (C 0 : Nat))).setCell ⟨b, 1, none⟩ (.int .u64 (C 1 : Nat))).setCell ⟨b, 2, none⟩ (.int .u64 (C 2 : Nat))).setCell ⟨b, 3, none⟩ (.int .u64 (C 3 : Nat))
theorem addr_ne {b b' j k : Nat} (h : b ≠ b' ∨ j ≠ k) : (⟨b, j, none⟩ : Addr) ≠ ⟨b', k, none⟩ := by
  intro e
  injection e with e1 e2 _
  rcases h with h | h
  · exact h e1
  · exact h e2
theorem store4_same {w : World} {b : Nat} {C E : Nat → Nat} (h : Cells w b E) : Cells (store4 w b C) b C := by
  intro j hj
  have e0 := h 0 (by decide)
  have e1 := h 1 (by decide)
  have e2 := h 2 (by decide)
  have e3 := h 3 (by decide)
  unfold store4
  match j, hj with
  | 0, _ =>
    rw [World.cell?_setCell_other (h := addr_ne (.inr (by decide))), World.cell?_setCell_other (h := addr_ne (.inr (by decide))), World.cell?_setCell_other (h := addr_ne (.inr (by decide))), World.cell?_setCell_same (h := e0)]
  | 1, _ =>
    rw [World.cell?_setCell_other (h := addr_ne (.inr (by decide))), World.cell?_setCell_other (h := addr_ne (.inr (by decide))), World.cell?_setCell_same (h := by rw [World.cell?_setCell_other (h := addr_ne (.inr (by decide)))]; exact e1)]
  | 2, _ =>
    rw [World.cell?_setCell_other (h := addr_ne (.inr (by decide))), World.cell?_setCell_same (h := by rw [World.cell?_setCell_other (h := addr_ne (.inr (by decide))), World.cell?_setCell_other (h := addr_ne (.inr (by decide)))]; exact e2)]
  | 3, _ =>
    rw [World.cell?_setCell_same (h := by rw [World.cell?_setCell_other (h := addr_ne (.inr (by decide))), World.cell?_setCell_other (h := addr_ne (.inr (by decide))), World.cell?_setCell_other (h := addr_ne (.inr (by decide)))]; exact e3)]
theorem store4_other {w : World} {b b' : Nat} {C E : Nat → Nat} (h : Cells w b' E) (hne : b ≠ b') : Cells (store4 w b C) b' E := by
  intro j hj
  unfold store4
  rw [World.cell?_setCell_other (h := addr_ne (.inl hne)), World.cell?_setCell_other (h := addr_ne (.inl hne)), World.cell?_setCell_other (h := addr_ne (.inl hne)), World.cell?_setCell_other (h := addr_ne (.inl hne))]
  exact h j hj
theorem store4_free {w : World} {b b' : Nat} {C : Nat → Nat} (h : Free w b') : Free (store4 w b C) b' := by
  intro j hj
  unfold store4
  simp [h j hj]
theorem store4_size (w : World) (b : Nat) (C : Nat → Nat) : (store4 w b C).heap.size = w.heap.size := by
  unfold store4
  simp
theorem store4_below {w0 w : World} {b : Nat} {C : Nat → Nat} (h : Below w0.heap.size w0 w) (hb : w0.heap.size ≤ b) : Below w0.heap.size w0 (store4 w b C) :=
  (((h.setCell hb _).setCell hb _).setCell hb _).setCell hb _
theorem store4_var {w : World} {b b' H : Nat} {x : Value} {C E : Nat → Nat} (h : IsVar w H x b' E) (hne : b ≠ b') : IsVar (store4 w b C) H x b' E :=
  ⟨h.1, h.2.1, by rw [store4_size]; exact h.2.2.1, store4_other h.2.2.2.1 hne, store4_free h.2.2.2.2⟩
theorem store4_this {w : World} {b H : Nat} {x : Value} {C E : Nat → Nat} (h : IsVar w H x b E) : IsVar (store4 w b C) H x b C :=
  ⟨h.1, h.2.1, by rw [store4_size]; exact h.2.2.1, store4_same h.2.2.2.1, store4_free h.2.2.2.2⟩
theorem alloc_var {w : World} {H : Nat} (hH : H ≤ w.heap.size) : IsVar (w.alloc (.cells #[.int .u64 0, .int .u64 0, .int .u64 0, .int .u64 0] 26)) H (.pointer (some ⟨w.heap.size, 0, none⟩)) w.heap.size zeros := by
  refine ⟨rfl, hH, by simp, fun j hj => ?_, fun j hj => by simp⟩
  match j, hj with
  | 0, _ => simp [zeros]
  | 1, _ => simp [zeros]
  | 2, _ => simp [zeros]
  | 3, _ => simp [zeros]
theorem below_alloc (w : World) (o : Obj) : Below w.heap.size w (w.alloc o) := (Below.refl _ _).alloc (Nat.le_refl _) _

def BI (A B : Nat → Nat) (w0 : World) (l : Nat → Bool) (a : Act) (w : World) : Prop :=
  ∃ (x5 x6 x7 x15 x16 x17 x18 x19 x20 x21 x22 : Value) (E5 E6 E7 : Nat → Nat) (b5 b6 b7 : Nat),
    a = { tmps := #[.agg #[.int .u64 (A 0 : Nat), .int .u64 (A 1 : Nat), .int .u64 (A 2 : Nat), .int .u64 (A 3 : Nat)], .agg #[.int .u64 (B 0 : Nat), .int .u64 (B 1 : Nat), .int .u64 (B 2 : Nat), .int .u64 (B 3 : Nat)], .pointer (some ⟨w0.heap.size, 0, none⟩), .pointer (some ⟨w0.heap.size + 1, 0, none⟩), .bool false, x5, x6, x7, undef, undef, undef, undef, undef, undef, undef, x15, x16, x17, x18, x19, x20, x21, x22, undef, undef, undef, undef, undef, undef, undef, undef, undef, undef, undef, undef, undef, undef, undef, undef, undef, undef, undef, undef, undef, undef, undef, undef, undef, undef, undef, undef, undef, undef, undef, undef, undef, undef, undef, undef, undef, undef, undef, undef, undef, undef, undef, undef, undef, undef, undef, undef, undef, undef, undef, undef, undef, undef, undef, undef, undef, undef, undef, undef, undef, undef, undef, undef, undef, undef, undef, undef, undef, undef, undef, undef, undef, undef, undef, undef, undef, undef, undef, undef, undef, undef, undef, undef], defers := [] } ∧
    Cells w w0.heap.size A ∧ Cells w (w0.heap.size + 1) B ∧ w0.heap.size + 2 ≤ w.heap.size ∧ Below w0.heap.size w0 w ∧
    (l 0 = true → x15 = .agg #[.int .u64 (A 0 : Nat), .int .u64 (A 1 : Nat), .int .u64 (A 2 : Nat), .int .u64 (A 3 : Nat)]) ∧ (l 1 = true → x16 = .agg #[.int .u64 (B 0 : Nat), .int .u64 (B 1 : Nat), .int .u64 (B 2 : Nat), .int .u64 (B 3 : Nat)]) ∧ (l 2 = true → x17 = .agg #[.int .u64 (cAnd A B 0 : Nat), .int .u64 (cAnd A B 1 : Nat), .int .u64 (cAnd A B 2 : Nat), .int .u64 (cAnd A B 3 : Nat)]) ∧
    (l 3 = true → x18 = .agg #[.int .u64 (A 0 : Nat), .int .u64 (A 1 : Nat), .int .u64 (A 2 : Nat), .int .u64 (A 3 : Nat)]) ∧ (l 4 = true → x19 = .agg #[.int .u64 (B 0 : Nat), .int .u64 (B 1 : Nat), .int .u64 (B 2 : Nat), .int .u64 (B 3 : Nat)]) ∧ (l 5 = true → x20 = .agg #[.int .u64 (cOr A B 0 : Nat), .int .u64 (cOr A B 1 : Nat), .int .u64 (cOr A B 2 : Nat), .int .u64 (cOr A B 3 : Nat)]) ∧
    (l 6 = true → x21 = .agg #[.int .u64 (A 0 : Nat), .int .u64 (A 1 : Nat), .int .u64 (A 2 : Nat), .int .u64 (A 3 : Nat)]) ∧ (l 7 = true → x22 = .agg #[.int .u64 (cNot A 0 : Nat), .int .u64 (cNot A 1 : Nat), .int .u64 (cNot A 2 : Nat), .int .u64 (cNot A 3 : Nat)]) ∧
    (l 8 = true → IsVar w (w0.heap.size + 2) x5 b5 E5) ∧ (l 9 = true → IsVar w (w0.heap.size + 2) x6 b6 E6) ∧ (l 10 = true → IsVar w (w0.heap.size + 2) x7 b7 E7) ∧
    (l 8 = true → l 9 = true → b5 ≠ b6) ∧ (l 8 = true → l 10 = true → b5 ≠ b7) ∧ (l 9 = true → l 10 = true → b6 ≠ b7) ∧
    (l 11 = true → l 8 = true ∧ E5 = cAnd A B) ∧ (l 12 = true → l 9 = true ∧ E6 = cOr A B) ∧ (l 13 = true → l 10 = true ∧ E7 = cNot A)

theorem wpOp_lit {P : Program} {ops : Array Oper} {Q : Exit → Act → World → Prop} {i : Nat} {o : Oper} {I : Act → World → Prop} {a : Act} {w : World} (hi : ops[i]? = some o) (hg : o.guard = none)
    (h : ∀ K : Act → World → Prop, (∀ a w, I a w → K a w) → o.wp P a w K Q) : wpOp P ops Q i I a w := by
  unfold wpOp
  simp only [hi]
  rw [if_pos (by simp [Region.wanted, hg])]
  exact .inl (h I fun _ _ => id)

def WS (A B : Nat → Nat) (w : World) (b5 b6 b7 : Nat) (wr : World) : Prop :=
  Cells wr w.heap.size A ∧ Cells wr (w.heap.size + 1) B ∧ Cells wr b5 (cAnd A B) ∧ Cells wr b6 (cOr A B) ∧ Cells wr b7 (cNot A) ∧ w.heap.size + 2 ≤ wr.heap.size ∧ Below w.heap.size w wr
theorem WS.below {A B : Nat → Nat} {w wr w' : World} {b5 b6 b7 : Nat} (h : WS A B w b5 b6 b7 wr) (hb : Below wr.heap.size wr w') : WS A B w b5 b6 b7 w' :=
  ⟨h.1.below hb, h.2.1.below hb, h.2.2.1.below hb, h.2.2.2.1.below hb, h.2.2.2.2.1.below hb, Nat.le_trans h.2.2.2.2.2.1 hb.size, h.2.2.2.2.2.2.trans (hb.mono h.2.2.2.2.2.2.size)⟩
theorem Cells.four {w : World} {b : Nat} {C : Nat → Nat} (h : Cells w b C) : w.cell? ⟨b, 0, none⟩ = some (.int .u64 (C 0 : Nat)) ∧ w.cell? ⟨b, 1, none⟩ = some (.int .u64 (C 1 : Nat)) ∧ w.cell? ⟨b, 2, none⟩ = some (.int .u64 (C 2 : Nat)) ∧ w.cell? ⟨b, 3, none⟩ = some (.int .u64 (C 3 : Nat)) :=
  ⟨h 0 (by decide), h 1 (by decide), h 2 (by decide), h 3 (by decide)⟩
def leastI (A : Nat → Nat) (k : Nat) : Int := match lst A k with
  | some m => (m : Int)
  | none => -1
theorem leastI_succ (A : Nat → Nat) (k : Nat) : leastI A (k + 1) = if hasB A k = true then (if leastI A k < 0 then (k : Int) else leastI A k) else leastI A k := by
  unfold leastI
  rw [show lst A (k + 1) = (match lst A k with | some x => some x | none => if hasB A k then some k else none) from rfl]
  cases lst A k with
  | some m => cases hasB A k <;> simp; omega
  | none => cases hasB A k <;> simp

theorem cnt_none (A : Nat → Nat) (n : Nat) : lst A n = none ↔ cnt A n = 0 := by
  induction n with
  | zero => simp [lst, cnt_zero]
  | succ n ih =>
    rw [cnt_succ]
    rw [show lst A (n + 1) = (match lst A n with | some x => some x | none => if hasB A n then some n else none) from rfl]
    cases e : lst A n with
    | some m =>
      rw [e] at ih
      simp at ih
      simp; omega
    | none =>
      rw [e] at ih
      simp at ih
      cases hasB A n <;> simp [ih]
theorem emp_cnt {A : Nat → Nat} (hA : Cl A) : emp A = ((cnt A 256 : Int) == 0) := by
  rw [Bool.eq_iff_iff, emp_iff]
  simp
  rw [← cnt_none]
  constructor
  · rintro ⟨h0, h1, h2, h3⟩
    refine lst_none fun b hb => ?_
    unfold hasB
    have : b / 64 = 0 ∨ b / 64 = 1 ∨ b / 64 = 2 ∨ b / 64 = 3 := by omega
    rcases this with e | e | e | e <;> simp [e, h0, h1, h2, h3]
  · intro h
    have hall : ∀ b, b < 256 → hasB A b = hasB zeros b := by
      intro b hb
      have hz : hasB zeros b = false := by unfold hasB zeros; simp
      rw [hz]
      rcases lst_is (C := A) (n := 256) with ⟨_, h2⟩ | ⟨m, _, h3⟩
      · exact h2 b hb
      · rw [h] at h3; cases h3
    exact ext4 hA (setOf_zeros (S := fun _ => False) fun _ _ h => h).1 hall
theorem least_all (A : Nat → Nat) : (lst A 256 = none ∧ cnt A 256 = 0 ∧ leastI A 256 = -1) ∨ (∃ m, m < 256 ∧ lst A 256 = some m ∧ (∃ c : Nat, cnt A 256 = c + 1 ∧ c < 256) ∧ leastI A 256 = (m : Int)) := by
  have h := cnt_none A 256
  unfold leastI
  rcases lst_is (C := A) (n := 256) with ⟨h1, _⟩ | ⟨m, hm, h1⟩
  · exact .inl ⟨h1, h.1 h1, by rw [h1]⟩
  · have : cnt A 256 ≠ 0 := fun e => by rw [h.2 e] at h1; cases h1
    have := cnt_le A 256
    exact .inr ⟨m, hm, h1, ⟨cnt A 256 - 1, by omega, by omega⟩, by rw [h1]⟩

set_option maxHeartbeats 4000000 in
set_option maxRecDepth 100000 in
theorem bytes_walk (A B : Nat → Nat) (w : World) (hcA : Cl A) (hcB : Cl B) :
    Calls Try.prog 4 #[.agg #[.int .u64 (A 0 : Nat), .int .u64 (A 1 : Nat), .int .u64 (A 2 : Nat), .int .u64 (A 3 : Nat)], .agg #[.int .u64 (B 0 : Nat), .int .u64 (B 1 : Nat), .int .u64 (B 2 : Nat), .int .u64 (B 3 : Nat)]] w fun e w' => e = .returned (.bool true) ∧ Below w.heap.size w w' := by
  go_enter Try.func4, Try.ntmps4
  go_wp2_with fail
  refine wp_region_inv (by kernel_rfl) (BI A B w) ?hacy ?h0 ?hstep ?hdone
  case hacy => kernel_rfl
  case h0 =>
    refine ⟨undef, undef, undef, undef, undef, undef, undef, undef, undef, undef, undef, zeros, zeros, zeros, 0, 0, 0, rfl, ?_, ?_, ?_, ?_, (fun p => by cases p), (fun p => by cases p), (fun p => by cases p), (fun p => by cases p), (fun p => by cases p), (fun p => by cases p), (fun p => by cases p), (fun p => by cases p), (fun p => by cases p), (fun p => by cases p), (fun p => by cases p), (fun p => by cases p), (fun p => by cases p), (fun p => by cases p), (fun p => by cases p), (fun p => by cases p), (fun p => by cases p)⟩
    · intro j hj
      match j, hj with
      | 0, _ => simp
      | 1, _ => simp
      | 2, _ => simp
      | 3, _ => simp
    · intro j hj
      match j, hj with
      | 0, _ => simp
      | 1, _ => simp
      | 2, _ => simp
      | 3, _ => simp
    · simp
    · exact below_drewN (((Below.refl _ _).alloc (Nat.le_refl _) _).alloc (by simp) _) 1
  case hdone =>
    intro l a w1 hI hall
    obtain ⟨x5, x6, x7, x15, x16, x17, x18, x19, x20, x21, x22, E5, E6, E7, b5, b6, b7, rfl, hA, hB, hs, hbel, h0, h1, h2, h3, h4, h5, h6, h7, h8, h9, h10, n56, n57, n67, h11, h12, h13⟩ := hI
    have v5 := h8 (hall 8 (by decide))
    have v6 := h9 (hall 9 (by decide))
    have v7 := h10 (hall 10 (by decide))
    obtain rfl := (h11 (hall 11 (by decide))).2
    obtain rfl := (h12 (hall 12 (by decide))).2
    obtain rfl := (h13 (hall 13 (by decide))).2
    obtain rfl := v5.1
    obtain rfl := v6.1
    obtain rfl := v7.1
    have ws : WS A B w b5 b6 b7 w1 := ⟨hA, hB, v5.2.2.2.1, v6.2.2.2.1, v7.2.2.2.1, hs, hbel⟩
    clear hA hB hs hbel h0 h1 h2 h3 h4 h5 h6 h7 h8 h9 h10 n56 n57 n67 h11 h12 h13 v5 v6 v7 hall
    go_wp2_with fail
    go_loopw [8, 9, 10, 11, 12] (fun n v i _ _ wr => ∃ k : Nat, k ≤ 256 ∧ i = .int .i64 k ∧ n = .int .i64 (cnt A k) ∧ v = .int .i64 (leastI A k) ∧ WS A B w b5 b6 b7 wr) (fun _ _ i _ _ _ => 256 - (intOf i).toNat)
    case atStart => exact ⟨0, Nat.zero_le _, rfl, rfl, rfl, ws⟩
    case round =>
      obtain ⟨k, hk, rfl, rfl, rfl, hws⟩ := hrel
      by_cases hlt : k < 256
      · have h1 : (k : Int) < 256 := by omega
        have hkb : IntKind.u8.wrap (k : Int) = (k : Int) := by rw [IntKind.wrap_u8]; omega
        have hcs := cnt_succ A k
        have hls := leastI_succ A k
        have hcl := cnt_le A k
        have hx := hasB_and A B k
        have hy := hasB_or A B k
        have hz := hasB_not A k
        cases hp : hasB A k <;> cases hq : hasB B k
        all_goals
          rw [hp] at hx hy hz hcs hls
          rw [hq] at hx hy
          simp at hx hy hz hcs hls
          have HCS := Lib.hid hcs
          have HLS := Lib.hid hls
          clear hcs hls
          obtain ⟨a0, a1, a2, a3⟩ := hws.1.four
          obtain ⟨d0, d1, d2, d3⟩ := hws.2.1.four
          have hst : Below wr.heap.size wr wr.drew := below_drewN (Below.refl _ _) 1
          go_wp2_with fail
          go_region_held3 (fun w' => w'.cell? ⟨w.heap.size, 0, none⟩ = some (.int .u64 (A 0 : Nat)) ∧ w'.cell? ⟨w.heap.size, 1, none⟩ = some (.int .u64 (A 1 : Nat)) ∧ w'.cell? ⟨w.heap.size, 2, none⟩ = some (.int .u64 (A 2 : Nat)) ∧ w'.cell? ⟨w.heap.size, 3, none⟩ = some (.int .u64 (A 3 : Nat)) ∧ w'.cell? ⟨w.heap.size + 1, 0, none⟩ = some (.int .u64 (B 0 : Nat)) ∧ w'.cell? ⟨w.heap.size + 1, 1, none⟩ = some (.int .u64 (B 1 : Nat)) ∧ w'.cell? ⟨w.heap.size + 1, 2, none⟩ = some (.int .u64 (B 2 : Nat)) ∧ w'.cell? ⟨w.heap.size + 1, 3, none⟩ = some (.int .u64 (B 3 : Nat)) ∧ Below wr.heap.size wr w')
            (first
              | go_keep
              | (go_split_ands; refine ⟨?_, ?_, ?_, ?_, ?_, ?_, ?_, ?_, ?_⟩ <;> first | go_keep | exact hst)
              | (go_split_ands; refine ⟨?_, ?_, ?_, ?_, ?_, ?_, ?_, ?_, ?_⟩ <;> first | exact keep_cell hb (by assumption) | exact keep_below hb (by assumption)))
            (first
              | (go_at_call 14; ((with_reducible refine (rhas_any A k _ hcA hlt).mono ?_); rintro e w' ⟨rfl, hb⟩))
              | (go_at_call 14; ((with_reducible refine (rhas_any B k _ hcB hlt).mono ?_); rintro e w' ⟨rfl, hb⟩)))
          go_split_ands
          have hw1 : Below wr.heap.size wr w' := by assumption
          have s1 := hws.below hw1
          clear hws hst
          go_wp2_with fail
          go_at_call 15
          refine (has_any A k _ hcA hlt).mono ?_
          rintro e w2 ⟨rfl, hb2⟩
          have s2 := s1.below hb2
          obtain ⟨f0, f1, f2, f3⟩ := s2.2.2.1.four
          go_wp2_with fail
          go_at_call 15
          refine (has_any (cAnd A B) k _ (Cl_and hcB) hlt).mono ?_
          rintro e w3 ⟨rfl, hb3⟩
          have s3 := s2.below hb3
          obtain ⟨g0, g1, g2, g3⟩ := s3.2.2.2.1.four
          go_wp2_with fail
          go_at_call 15
          refine (has_any (cOr A B) k _ (Cl_or hcA hcB) hlt).mono ?_
          rintro e w4 ⟨rfl, hb4⟩
          have s4 := s3.below hb4
          obtain ⟨i0, i1, i2, i3⟩ := s4.2.2.2.2.1.four
          go_wp2_with fail
          go_at_call 15
          refine (has_any (cNot A) k _ (Cl_not hcA) hlt).mono ?_
          rintro e w5 ⟨rfl, hb5⟩
          have s5 := s4.below hb5
          clear s1 s2 s3 s4
          by_cases hneg : leastI A k < 0
          all_goals
            go_wp2_with fail
            go_roundw
            case rel => exact ⟨k + 1, by omega, by go_num, by first | (rw [HCS.out]; done) | (rw [HCS.out]; go_num), by first | (rw [HLS.out]; done) | (rw [HLS.out, if_pos hneg]; done) | (rw [HLS.out, if_neg (by omega)]; done), s5⟩
            case measure => simp [intOf]; omega
      · have hk6 : k = 256 := by omega
        subst hk6
        rcases least_all A with ⟨hL, hcz, hle⟩ | ⟨m, hm, hL, ⟨c, hcz, hc⟩, hle⟩
        all_goals
          have hem := emp_cnt hcA
          rw [hcz] at hem
          obtain ⟨a0, a1, a2, a3⟩ := hws.1.four
          go_wp2_with fail
          go_at_call 16
          refine (least_any A _ hcA).mono ?_
          rintro e w2 ⟨rfl, hb2⟩
          have s2 := hws.below hb2
          go_wp2_with fail
          go_at_call 9
          refine (awake_any _).mono ?_
          rintro e w3 ⟨rfl, hb3⟩
          have s3 := s2.below hb3
          obtain ⟨f0, f1, f2, f3⟩ := s3.1.four
          go_wp2_with fail
          go_at_call 17
          refine (size_any A _ hcA).mono ?_
          rintro e w4 ⟨rfl, hb4⟩
          have s4 := s3.below hb4
          obtain ⟨g0, g1, g2, g3⟩ := s4.1.four
          go_wp2_with fail
          go_at_call 18
          refine (empty_any A _).mono ?_
          rintro e w5 ⟨rfl, hb5⟩
          have s5 := s4.below hb5
          go_wp2_with fail
          go_ret
          exact ⟨rfl, s5.2.2.2.2.2.2⟩
  case hstep =>
    intro l a w1 i o hI ho hl hall
    obtain ⟨x5, x6, x7, x15, x16, x17, x18, x19, x20, x21, x22, E5, E6, E7, b5, b6, b7, rfl, hA, hB, hs, hbel, h0, h1, h2, h3, h4, h5, h6, h7, h8, h9, h10, n56, n57, n67, h11, h12, h13⟩ := hI
    have hi : i < 14 := (Array.getElem?_eq_some_iff.1 ho).1
    match i, hi with
    | 0, _ =>
      have ho' := ho
      simp at ho
      subst ho
      refine wpOp_lit ho' rfl fun K hK => ?_
      have c0 := hA 0 (by decide)
      have c1 := hA 1 (by decide)
      have c2 := hA 2 (by decide)
      have c3 := hA 3 (by decide)
      go_simp
      exact hK _ _ ⟨x5, x6, x7, .agg #[.int .u64 (A 0 : Nat), .int .u64 (A 1 : Nat), .int .u64 (A 2 : Nat), .int .u64 (A 3 : Nat)], x16, x17, x18, x19, x20, x21, x22, E5, E6, E7, b5, b6, b7, rfl, hA, hB, hs, hbel, fun _ => rfl, h1, h2, h3, h4, h5, h6, h7, h8, h9, h10, n56, n57, n67, h11, h12, h13⟩
    | 1, _ =>
      have ho' := ho
      simp at ho
      subst ho
      refine wpOp_lit ho' rfl fun K hK => ?_
      have c0 := hB 0 (by decide)
      have c1 := hB 1 (by decide)
      have c2 := hB 2 (by decide)
      have c3 := hB 3 (by decide)
      go_simp
      exact hK _ _ ⟨x5, x6, x7, x15, .agg #[.int .u64 (B 0 : Nat), .int .u64 (B 1 : Nat), .int .u64 (B 2 : Nat), .int .u64 (B 3 : Nat)], x17, x18, x19, x20, x21, x22, E5, E6, E7, b5, b6, b7, rfl, hA, hB, hs, hbel, h0, fun _ => rfl, h2, h3, h4, h5, h6, h7, h8, h9, h10, n56, n57, n67, h11, h12, h13⟩
    | 2, _ =>
      have ho' := ho
      simp at ho
      subst ho
      obtain rfl := h0 (hall ⟨0, .data⟩ (by simp) rfl)
      obtain rfl := h1 (hall ⟨1, .data⟩ (by simp) rfl)
      refine wpOp_lit ho' rfl fun K hK => ?_
      go_simp
      go_at_call 12
      refine (and_any A B _ hcA hcB).mono ?_
      rintro e w2 ⟨rfl, hb⟩
      exact hK _ _ ⟨x5, x6, x7, _, _, .agg #[.int .u64 (cAnd A B 0 : Nat), .int .u64 (cAnd A B 1 : Nat), .int .u64 (cAnd A B 2 : Nat), .int .u64 (cAnd A B 3 : Nat)], x18, x19, x20, x21, x22, E5, E6, E7, b5, b6, b7, rfl, hA.below hb, hB.below hb, Nat.le_trans hs hb.size, hbel.trans (hb.mono (by omega)), fun _ => rfl, fun _ => rfl, fun _ => rfl, h3, h4, h5, h6, h7, fun p => (h8 p).below hb, fun p => (h9 p).below hb, fun p => (h10 p).below hb, n56, n57, n67, h11, h12, h13⟩
    | 3, _ =>
      have ho' := ho
      simp at ho
      subst ho
      refine wpOp_lit ho' rfl fun K hK => ?_
      have c0 := hA 0 (by decide)
      have c1 := hA 1 (by decide)
      have c2 := hA 2 (by decide)
      have c3 := hA 3 (by decide)
      go_simp
      exact hK _ _ ⟨x5, x6, x7, x15, x16, x17, .agg #[.int .u64 (A 0 : Nat), .int .u64 (A 1 : Nat), .int .u64 (A 2 : Nat), .int .u64 (A 3 : Nat)], x19, x20, x21, x22, E5, E6, E7, b5, b6, b7, rfl, hA, hB, hs, hbel, h0, h1, h2, fun _ => rfl, h4, h5, h6, h7, h8, h9, h10, n56, n57, n67, h11, h12, h13⟩
    | 4, _ =>
      have ho' := ho
      simp at ho
      subst ho
      refine wpOp_lit ho' rfl fun K hK => ?_
      have c0 := hB 0 (by decide)
      have c1 := hB 1 (by decide)
      have c2 := hB 2 (by decide)
      have c3 := hB 3 (by decide)
      go_simp
      exact hK _ _ ⟨x5, x6, x7, x15, x16, x17, x18, .agg #[.int .u64 (B 0 : Nat), .int .u64 (B 1 : Nat), .int .u64 (B 2 : Nat), .int .u64 (B 3 : Nat)], x20, x21, x22, E5, E6, E7, b5, b6, b7, rfl, hA, hB, hs, hbel, h0, h1, h2, h3, fun _ => rfl, h5, h6, h7, h8, h9, h10, n56, n57, n67, h11, h12, h13⟩
    | 5, _ =>
      have ho' := ho
      simp at ho
      subst ho
      obtain rfl := h3 (hall ⟨3, .data⟩ (by simp) rfl)
      obtain rfl := h4 (hall ⟨4, .data⟩ (by simp) rfl)
      refine wpOp_lit ho' rfl fun K hK => ?_
      go_simp
      go_at_call 13
      refine (or_any A B _ hcA hcB).mono ?_
      rintro e w2 ⟨rfl, hb⟩
      exact hK _ _ ⟨x5, x6, x7, x15, x16, x17, _, _, .agg #[.int .u64 (cOr A B 0 : Nat), .int .u64 (cOr A B 1 : Nat), .int .u64 (cOr A B 2 : Nat), .int .u64 (cOr A B 3 : Nat)], x21, x22, E5, E6, E7, b5, b6, b7, rfl, hA.below hb, hB.below hb, Nat.le_trans hs hb.size, hbel.trans (hb.mono (by omega)), h0, h1, h2, fun _ => rfl, fun _ => rfl, fun _ => rfl, h6, h7, fun p => (h8 p).below hb, fun p => (h9 p).below hb, fun p => (h10 p).below hb, n56, n57, n67, h11, h12, h13⟩
    | 6, _ =>
      have ho' := ho
      simp at ho
      subst ho
      refine wpOp_lit ho' rfl fun K hK => ?_
      have c0 := hA 0 (by decide)
      have c1 := hA 1 (by decide)
      have c2 := hA 2 (by decide)
      have c3 := hA 3 (by decide)
      go_simp
      exact hK _ _ ⟨x5, x6, x7, x15, x16, x17, x18, x19, x20, .agg #[.int .u64 (A 0 : Nat), .int .u64 (A 1 : Nat), .int .u64 (A 2 : Nat), .int .u64 (A 3 : Nat)], x22, E5, E6, E7, b5, b6, b7, rfl, hA, hB, hs, hbel, h0, h1, h2, h3, h4, h5, fun _ => rfl, h7, h8, h9, h10, n56, n57, n67, h11, h12, h13⟩
    | 7, _ =>
      have ho' := ho
      simp at ho
      subst ho
      obtain rfl := h6 (hall ⟨6, .data⟩ (by simp) rfl)
      refine wpOp_lit ho' rfl fun K hK => ?_
      go_simp
      go_at_call 10
      refine (not_any A _ hcA).mono ?_
      rintro e w2 ⟨rfl, hb⟩
      exact hK _ _ ⟨x5, x6, x7, x15, x16, x17, x18, x19, x20, _, .agg #[.int .u64 (cNot A 0 : Nat), .int .u64 (cNot A 1 : Nat), .int .u64 (cNot A 2 : Nat), .int .u64 (cNot A 3 : Nat)], E5, E6, E7, b5, b6, b7, rfl, hA.below hb, hB.below hb, Nat.le_trans hs hb.size, hbel.trans (hb.mono (by omega)), h0, h1, h2, h3, h4, h5, fun _ => rfl, fun _ => rfl, fun p => (h8 p).below hb, fun p => (h9 p).below hb, fun p => (h10 p).below hb, n56, n57, n67, h11, h12, h13⟩
    | 8, _ =>
      have ho' := ho
      simp at ho
      subst ho
      refine wpOp_lit ho' rfl fun K hK => ?_
      have hb := below_alloc w1 (.cells #[.int .u64 0, .int .u64 0, .int .u64 0, .int .u64 0] 26)
      go_simp
      exact hK _ _ ⟨.pointer (some ⟨w1.heap.size, 0, none⟩), x6, x7, x15, x16, x17, x18, x19, x20, x21, x22, zeros, E6, E7, w1.heap.size, b6, b7, rfl, hA.below hb, hB.below hb, Nat.le_trans hs hb.size, hbel.trans (hb.mono (by omega)), h0, h1, h2, h3, h4, h5, h6, h7, fun _ => alloc_var hs, fun p => (h9 p).below hb, fun p => (h10 p).below hb, fun _ p => Nat.ne_of_gt (h9 p).2.2.1, fun _ p => Nat.ne_of_gt (h10 p).2.2.1, n67, fun p => absurd (h11 p).1 (by rw [hl]; decide), h12, h13⟩
    | 9, _ =>
      have ho' := ho
      simp at ho
      subst ho
      refine wpOp_lit ho' rfl fun K hK => ?_
      have hb := below_alloc w1 (.cells #[.int .u64 0, .int .u64 0, .int .u64 0, .int .u64 0] 26)
      go_simp
      exact hK _ _ ⟨x5, .pointer (some ⟨w1.heap.size, 0, none⟩), x7, x15, x16, x17, x18, x19, x20, x21, x22, E5, zeros, E7, b5, w1.heap.size, b7, rfl, hA.below hb, hB.below hb, Nat.le_trans hs hb.size, hbel.trans (hb.mono (by omega)), h0, h1, h2, h3, h4, h5, h6, h7, fun p => (h8 p).below hb, fun _ => alloc_var hs, fun p => (h10 p).below hb, fun p _ => Nat.ne_of_lt (h8 p).2.2.1, n57, fun _ p => Nat.ne_of_gt (h10 p).2.2.1, h11, fun p => absurd (h12 p).1 (by rw [hl]; decide), h13⟩
    | 10, _ =>
      have ho' := ho
      simp at ho
      subst ho
      refine wpOp_lit ho' rfl fun K hK => ?_
      have hb := below_alloc w1 (.cells #[.int .u64 0, .int .u64 0, .int .u64 0, .int .u64 0] 26)
      go_simp
      exact hK _ _ ⟨x5, x6, .pointer (some ⟨w1.heap.size, 0, none⟩), x15, x16, x17, x18, x19, x20, x21, x22, E5, E6, zeros, b5, b6, w1.heap.size, rfl, hA.below hb, hB.below hb, Nat.le_trans hs hb.size, hbel.trans (hb.mono (by omega)), h0, h1, h2, h3, h4, h5, h6, h7, fun p => (h8 p).below hb, fun p => (h9 p).below hb, fun _ => alloc_var hs, n56, fun p _ => Nat.ne_of_lt (h8 p).2.2.1, fun p _ => Nat.ne_of_lt (h9 p).2.2.1, h11, h12, fun p => absurd (h13 p).1 (by rw [hl]; decide)⟩
    | 11, _ =>
      have ho' := ho
      simp at ho
      subst ho
      obtain rfl := h2 (hall ⟨2, .data⟩ (by simp) rfl)
      have pn := hall ⟨8, .data⟩ (by simp) rfl
      have hv := h8 pn
      obtain rfl := hv.1
      refine wpOp_lit ho' rfl fun K hK => ?_
      have hu := hv.2.2.2.1
      have hf := hv.2.2.2.2
      have c0 := hu 0 (by decide)
      have c1 := hu 1 (by decide)
      have c2 := hu 2 (by decide)
      have c3 := hu 3 (by decide)
      have f0 := hf 0 (by decide)
      have f1 := hf 1 (by decide)
      have f2 := hf 2 (by decide)
      have f3 := hf 3 (by decide)
      go_simp
      exact hK _ (store4 w1 b5 (cAnd A B)) ⟨_, x6, x7, x15, x16, _, x18, x19, x20, x21, x22, cAnd A B, E6, E7, b5, b6, b7, rfl, store4_other hA (by have := hv.2.1; omega), store4_other hB (by have := hv.2.1; omega), by rw [store4_size]; exact hs, store4_below hbel (by have := hv.2.1; omega), h0, h1, fun _ => rfl, h3, h4, h5, h6, h7, fun _ => store4_this hv, fun p => store4_var (h9 p) (n56 pn p), fun p => store4_var (h10 p) (n57 pn p), n56, n57, n67, fun _ => ⟨pn, rfl⟩, h12, h13⟩
    | 12, _ =>
      have ho' := ho
      simp at ho
      subst ho
      obtain rfl := h5 (hall ⟨5, .data⟩ (by simp) rfl)
      have pn := hall ⟨9, .data⟩ (by simp) rfl
      have hv := h9 pn
      obtain rfl := hv.1
      refine wpOp_lit ho' rfl fun K hK => ?_
      have hu := hv.2.2.2.1
      have hf := hv.2.2.2.2
      have c0 := hu 0 (by decide)
      have c1 := hu 1 (by decide)
      have c2 := hu 2 (by decide)
      have c3 := hu 3 (by decide)
      have f0 := hf 0 (by decide)
      have f1 := hf 1 (by decide)
      have f2 := hf 2 (by decide)
      have f3 := hf 3 (by decide)
      go_simp
      exact hK _ (store4 w1 b6 (cOr A B)) ⟨x5, _, x7, x15, x16, x17, x18, x19, _, x21, x22, E5, cOr A B, E7, b5, b6, b7, rfl, store4_other hA (by have := hv.2.1; omega), store4_other hB (by have := hv.2.1; omega), by rw [store4_size]; exact hs, store4_below hbel (by have := hv.2.1; omega), h0, h1, h2, h3, h4, fun _ => rfl, h6, h7, fun p => store4_var (h8 p) (n56 p pn).symm, fun _ => store4_this hv, fun p => store4_var (h10 p) (n67 pn p), n56, n57, n67, h11, fun _ => ⟨pn, rfl⟩, h13⟩
    | 13, _ =>
      have ho' := ho
      simp at ho
      subst ho
      obtain rfl := h7 (hall ⟨7, .data⟩ (by simp) rfl)
      have pn := hall ⟨10, .data⟩ (by simp) rfl
      have hv := h10 pn
      obtain rfl := hv.1
      refine wpOp_lit ho' rfl fun K hK => ?_
      have hu := hv.2.2.2.1
      have hf := hv.2.2.2.2
      have c0 := hu 0 (by decide)
      have c1 := hu 1 (by decide)
      have c2 := hu 2 (by decide)
      have c3 := hu 3 (by decide)
      have f0 := hf 0 (by decide)
      have f1 := hf 1 (by decide)
      have f2 := hf 2 (by decide)
      have f3 := hf 3 (by decide)
      go_simp
      exact hK _ (store4 w1 b7 (cNot A)) ⟨x5, x6, _, x15, x16, x17, x18, x19, x20, x21, _, E5, E6, cNot A, b5, b6, b7, rfl, store4_other hA (by have := hv.2.1; omega), store4_other hB (by have := hv.2.1; omega), by rw [store4_size]; exact hs, store4_below hbel (by have := hv.2.1; omega), h0, h1, h2, h3, h4, h5, h6, fun _ => rfl, fun p => store4_var (h8 p) (n57 p pn).symm, fun p => store4_var (h9 p) (n67 p pn).symm, fun _ => store4_this hv, n56, n57, n67, h11, h12, fun _ => ⟨pn, rfl⟩⟩

end Go.Proofs.Ytbppofhjlgfbiaa
