/- A drawn region of moves.Make: the map is loaded, the moves are sorted, a row of truths is made, the automaton stored.
   Conditions: the cells that it loads lie in memory; sorted's contract. -/
import Derived.Test.YtnebfniekeknaaaDoorMMkA
import Derived.Test.YtnebfniekeknaaaDoorOrder

namespace Go.Proofs.YtnebfniekeknaaaDoor
open Go.RowKit Go.Shelf

abbrev opsMk : Array Oper := #[{ dst := some 24, op := Op.load 34 (Operand.tmp 4), type := 34, pos := "moves.go:43", after := #[], guard := none },
  { dst := some 25, op := Op.move (Operand.tmp 6), type := 69, pos := "moves.go:43", after := #[], guard := none },
  { dst := some 26, op := Op.fieldAddr 34 (Operand.tmp 4) 1, type := 0, pos := "moves.go:43", after := #[], guard := none },
  { dst := some 27, op := Op.load 30 (Operand.tmp 26), type := 30, pos := "moves.go:43", after := #[{ on := 2, ground := Ground.data }], guard := none },
  { dst := some 28, op := Op.call { callee := Callee.builtin Builtin.len, args := #[Operand.tmp 27], argTypes := #[30] }, type := 3, pos := "moves.go:43", after := #[{ on := 3, ground := Ground.data }], guard := none },
  { dst := some 29, op := Op.call { callee := Callee.value (Operand.func 33), args := #[Operand.tmp 25, Operand.tmp 28], argTypes := #[69, 3] }, type := 36, pos := "moves.go:43", after := #[{ on := 1, ground := Ground.data }, { on := 4, ground := Ground.data }], guard := none },
  { dst := some 30, op := Op.fieldAddr 34 (Operand.tmp 4) 1, type := 0, pos := "moves.go:43", after := #[], guard := none },
  { dst := some 31, op := Op.load 30 (Operand.tmp 30), type := 30, pos := "moves.go:43", after := #[{ on := 6, ground := Ground.data }], guard := none },
  { dst := some 32, op := Op.call { callee := Callee.builtin Builtin.len, args := #[Operand.tmp 31], argTypes := #[30] }, type := 3, pos := "moves.go:43", after := #[{ on := 7, ground := Ground.data }], guard := none },
  { dst := some 33, op := Op.makeSlice 37 (Operand.tmp 32) (Operand.tmp 32), type := 37, pos := "moves.go:43", after := #[{ on := 8, ground := Ground.data }, { on := 8, ground := Ground.data }], guard := none },
  { dst := some 34, op := Op.fieldAddr 73 (Operand.tmp 7) 2, type := 0, pos := "moves.go:43", after := #[], guard := none },
  { dst := some 35, op := Op.load 4 (Operand.tmp 34), type := 4, pos := "moves.go:43", after := #[{ on := 10, ground := Ground.data }], guard := none },
  { dst := some 36, op := Op.build 39 #[(0, Operand.tmp 24), (2, Operand.tmp 29), (3, Operand.tmp 33), (4, Operand.tmp 35)], type := 39, pos := "moves.go:43", after := #[{ on := 0, ground := Ground.data }, { on := 5, ground := Ground.data }, { on := 9, ground := Ground.data }, { on := 11, ground := Ground.data }], guard := none },
  { dst := some 8, op := Op.alloc 39, type := 0, pos := "moves.go:43", after := #[], guard := none },
  { dst := none, op := Op.store 39 (Operand.tmp 8) (Operand.tmp 36), type := 0, pos := "moves.go:43", after := #[{ on := 13, ground := Ground.data }, { on := 12, ground := Ground.data }, { on := 5, ground := Ground.chain }, { on := 0, ground := Ground.phase }, { on := 1, ground := Ground.phase }, { on := 2, ground := Ground.phase }, { on := 3, ground := Ground.phase }, { on := 4, ground := Ground.phase }, { on := 5, ground := Ground.phase }, { on := 6, ground := Ground.phase }, { on := 7, ground := Ground.phase }, { on := 8, ground := Ground.phase }, { on := 9, ground := Ground.phase }, { on := 10, ground := Ground.phase }, { on := 11, ground := Ground.phase }, { on := 12, ground := Ground.phase }, { on := 13, ground := Ground.phase }], guard := none }]
theorem RowsM.low {w : World} {B B' n : Nat} {lv : Value} {vs : List Value} {L : Nat → List Mv} (h : RowsM w B n lv vs L) (hb : B' ≤ B) : RowsM w B' n lv vs L :=
  ⟨own_low h.own hb, fun i hi => by obtain ⟨v, h1, h2⟩ := h.row i hi; exact ⟨v, h1, own_low h2 hb⟩, h.apart⟩
theorem below_drewM {B : Nat} {w w' : World} (h : Below B w w') : Below B w w'.drew := h.drew
/-- What region 6 has in memory, whichever operations have come up. -/
structure RK (rk rl rh : Int) (rC : Nat → Nat) (ta sA cA aA : Option Addr) (tn tc sN sC cN cC aN aC mk wk fb : Nat) (em : Bool) (S : St → Prop) (w7 : World) (l : Nat → Bool) (lb bb ab : Nat) (vs : List Value) (L : Nat → List Mv) (w : World) : Prop where
  bel : Below w7.heap.size w7 w
  h5 : l 5 = true → RowsM w w7.heap.size sN (.slice (some ⟨lb, 0, none⟩) sN sN) vs L ∧ ∀ i, i < sN → (L i).Pairwise mvLt ∧ ∀ m, m ∈ L i ↔ St63 (stOf i m) ∧ S (stOf i m)
  h9 : l 9 = true → w.heap[bb]? = some (.cells (madeCells #[.bool false] sN) 4 (0, 0)) ∧ w7.heap.size ≤ bb
  h13 : l 13 = true → w7.heap.size ≤ ab ∧ (l 14 = false → w.heap[ab]? = some (.cells #[.int .i64 0, .int .u64 0, .int .u64 0, .int .u64 0, .int .u64 0, .slice none 0 0, .int .i64 0, .int .i64 0, .slice none 0 0, .slice none 0 0, .slice none 0 0, .slice none 0 0, .slice none 0 0, .slice none 0 0, .bool false] 39 (0, 0))) ∧ (l 14 = true → w.heap[ab]? = some (.cells #[.int .i64 rk, .int .u64 (rC 0 : Nat), .int .u64 (rC 1 : Nat), .int .u64 (rC 2 : Nat), .int .u64 (rC 3 : Nat), .slice ta tn tc, .int .i64 rl, .int .i64 rh, .slice sA sN sC, .slice cA cN cC, .slice aA aN aC, .slice none 0 0, .slice (some ⟨lb, 0, none⟩) sN sN, .slice (some ⟨bb, 0, none⟩) sN sN, .bool em] 39 (0, 0)))
  i12 : l 12 = true → l 5 = true ∧ l 9 = true
  i14 : l 14 = true → l 12 = true ∧ l 13 = true
theorem RK.step {rk rl rh : Int} {rC : Nat → Nat} {ta sA cA aA : Option Addr} {tn tc sN sC cN cC aN aC mk wk fb : Nat} {em : Bool} {S : St → Prop} {w7 : World} {l : Nat → Bool} {lb bb ab : Nat} {vs : List Value} {L : Nat → List Mv} {w w' : World} (h : RK rk rl rh rC ta sA cA aA tn tc sN sC cN cC aN aC mk wk fb em S w7 l lb bb ab vs L w) (hb : Below w.heap.size w w') : RK rk rl rh rC ta sA cA aA tn tc sN sC cN cC aN aC mk wk fb em S w7 l lb bb ab vs L w' :=
  have hk : ∀ {k : Nat} {o : Obj}, w.heap[k]? = some o → w'.heap[k]? = some o := fun {k _} e => (hb.block k (Array.getElem?_eq_some_iff.1 e).1).trans e
  ⟨h.bel.trans (hb.mono h.bel.size), fun p => ⟨(h.h5 p).1.below hb, (h.h5 p).2⟩, fun p => ⟨hk (h.h9 p).1, (h.h9 p).2⟩, fun p => ⟨(h.h13 p).1, fun q => hk ((h.h13 p).2.1 q), fun q => hk ((h.h13 p).2.2 q)⟩, h.i12, h.i14⟩
def IMk (rk rl rh : Int) (rC : Nat → Nat) (ta sA cA aA : Option Addr) (tn tc sN sC cN cC aN aC mk wk fb : Nat) (em : Bool) (S : St → Prop) (D : List Deferred) (v0 v1 v2 v3 v5 v9 v10 v11 v12 v13 v14 v15 v16 v17 v18 v19 v20 v21 v22 v23 v37 v38 v39 v40 v41 v42 v43 v44 v45 v46 v47 v48 v49 v50 v51 v52 v53 v54 v55 : Value) (w7 : World) (l : Nat → Bool) (a : Act) (w : World) : Prop :=
  ∃ (y0 y1 y2 y3 y4 y5 y6 y7 y8 y9 y10 y11 y12 y13 : Value) (lb bb ab : Nat) (vs : List Value) (L : Nat → List Mv), a = { tmps := #[v0, v1, v2, v3, .pointer (some ⟨mk, 0, none⟩), v5, .pointer (some ⟨wk, 0, none⟩), .pointer (some ⟨fb, 0, none⟩), y13, v9, v10, v11, v12, v13, v14, v15, v16, v17, v18, v19, v20, v21, v22, v23, y0, y1, y2, y3, y4, y5, y6, y7, y8, y9, y10, y11, y12, v37, v38, v39, v40, v41, v42, v43, v44, v45, v46, v47, v48, v49, v50, v51, v52, v53, v54, v55], defers := D } ∧ RK rk rl rh rC ta sA cA aA tn tc sN sC cN cC aN aC mk wk fb em S w7 l lb bb ab vs L w ∧
    (l 0 = true → y0 = .agg #[.int .i64 rk, .int .u64 (rC 0 : Nat), .int .u64 (rC 1 : Nat), .int .u64 (rC 2 : Nat), .int .u64 (rC 3 : Nat), .slice ta tn tc, .int .i64 rl, .int .i64 rh, .slice sA sN sC, .slice cA cN cC, .slice aA aN aC]) ∧
    (l 1 = true → y1 = .pointer (some ⟨wk, 0, none⟩)) ∧
    (l 2 = true → y2 = .pointer (some ⟨mk, 8, none⟩)) ∧
    (l 3 = true → y3 = .slice sA sN sC) ∧
    (l 4 = true → y4 = .int .i64 sN) ∧
    (l 5 = true → y5 = .slice (some ⟨lb, 0, none⟩) sN sN) ∧
    (l 6 = true → y6 = .pointer (some ⟨mk, 8, none⟩)) ∧
    (l 7 = true → y7 = .slice sA sN sC) ∧
    (l 8 = true → y8 = .int .i64 sN) ∧
    (l 9 = true → y9 = .slice (some ⟨bb, 0, none⟩) sN sN) ∧
    (l 10 = true → y10 = .pointer (some ⟨fb, 2, none⟩)) ∧
    (l 11 = true → y11 = .bool em) ∧
    (l 12 = true → y12 = .agg #[.int .i64 rk, .int .u64 (rC 0 : Nat), .int .u64 (rC 1 : Nat), .int .u64 (rC 2 : Nat), .int .u64 (rC 3 : Nat), .slice ta tn tc, .int .i64 rl, .int .i64 rh, .slice sA sN sC, .slice cA cN cC, .slice aA aN aC, .slice none 0 0, .slice (some ⟨lb, 0, none⟩) sN sN, .slice (some ⟨bb, 0, none⟩) sN sN, .bool em]) ∧
    (l 13 = true → y13 = .pointer (some ⟨ab, 0, none⟩))
set_option maxHeartbeats 8000000 in
set_option maxRecDepth 100000 in
theorem regMk (rk rl rh : Int) (rC : Nat → Nat) (ta sA cA aA : Option Addr) (tn tc sN sC cN cC aN aC mk wk fb : Nat) (em : Bool) (S : St → Prop) (D : List Deferred) (v0 v1 v2 v3 v5 v9 v10 v11 v12 v13 v14 v15 v16 v17 v18 v19 v20 v21 v22 v23 v37 v38 v39 v40 v41 v42 v43 v44 v45 v46 v47 v48 v49 v50 v51 v52 v53 v54 v55 z0 z1 z2 z3 z4 z5 z6 z7 z8 z9 z10 z11 z12 z13 : Value) (w7 : World)
    (HSO : ∀ W, Below w7.heap.size w7 W → Calls Tryd.prog 33 #[.pointer (some ⟨wk, 0, none⟩), .int .i64 sN] W fun e w' => ∃ lb vs L, e = .returned (.slice (some ⟨lb, 0, none⟩) sN sN) ∧ RowsM w' W.heap.size sN (.slice (some ⟨lb, 0, none⟩) sN sN) vs L ∧ (∀ i, i < sN → (L i).Pairwise mvLt ∧ ∀ m, m ∈ L i ↔ St63 (stOf i m) ∧ S (stOf i m)) ∧ Below W.heap.size W w')
    (HSF : ∀ W, Below w7.heap.size w7 W → (W.cell? ⟨mk, 0, none⟩ = some (.int .i64 rk) ∧ W.cell? ⟨mk, 1, none⟩ = some (.int .u64 (rC 0 : Nat)) ∧ W.cell? ⟨mk, 2, none⟩ = some (.int .u64 (rC 1 : Nat)) ∧ W.cell? ⟨mk, 3, none⟩ = some (.int .u64 (rC 2 : Nat)) ∧ W.cell? ⟨mk, 4, none⟩ = some (.int .u64 (rC 3 : Nat)) ∧ W.cell? ⟨mk, 5, none⟩ = some (.slice ta tn tc) ∧ W.cell? ⟨mk, 6, none⟩ = some (.int .i64 rl) ∧ W.cell? ⟨mk, 7, none⟩ = some (.int .i64 rh) ∧ W.cell? ⟨mk, 8, none⟩ = some (.slice sA sN sC) ∧ W.cell? ⟨mk, 9, none⟩ = some (.slice cA cN cC) ∧ W.cell? ⟨mk, 10, none⟩ = some (.slice aA aN aC)) ∧ W.cell? ⟨fb, 2, none⟩ = some (.bool em))
    (hmks : ∀ W, (Instr.makeSlice 37 (.int .i64 (sN : Int)) (.int .i64 (sN : Int))).run Tryd.prog W = .ok (.slice (some ⟨W.heap.size, 0, none⟩) sN sN) (W.alloc (.cells (madeCells #[.bool false] sN) 4)))
    (Q : Exit → Act → World → Prop) (hQ : ∀ (lb bb ab : Nat) (vs : List Value) (L : Nat → List Mv) (w8 : World), Below w7.heap.size w7 w8 → RowsM w8 w7.heap.size sN (.slice (some ⟨lb, 0, none⟩) sN sN) vs L → (∀ i, i < sN → (L i).Pairwise mvLt ∧ ∀ m, m ∈ L i ↔ St63 (stOf i m) ∧ S (stOf i m)) → w8.heap[bb]? = some (.cells (madeCells #[.bool false] sN) 4 (0, 0)) → w7.heap.size ≤ bb → w8.heap[ab]? = some (.cells #[.int .i64 rk, .int .u64 (rC 0 : Nat), .int .u64 (rC 1 : Nat), .int .u64 (rC 2 : Nat), .int .u64 (rC 3 : Nat), .slice ta tn tc, .int .i64 rl, .int .i64 rh, .slice sA sN sC, .slice cA cN cC, .slice aA aN aC, .slice none 0 0, .slice (some ⟨lb, 0, none⟩) sN sN, .slice (some ⟨bb, 0, none⟩) sN sN, .bool em] 39 (0, 0)) → w7.heap.size ≤ ab → Q .normal { tmps := #[v0, v1, v2, v3, .pointer (some ⟨mk, 0, none⟩), v5, .pointer (some ⟨wk, 0, none⟩), .pointer (some ⟨fb, 0, none⟩), .pointer (some ⟨ab, 0, none⟩), v9, v10, v11, v12, v13, v14, v15, v16, v17, v18, v19, v20, v21, v22, v23, .agg #[.int .i64 rk, .int .u64 (rC 0 : Nat), .int .u64 (rC 1 : Nat), .int .u64 (rC 2 : Nat), .int .u64 (rC 3 : Nat), .slice ta tn tc, .int .i64 rl, .int .i64 rh, .slice sA sN sC, .slice cA cN cC, .slice aA aN aC], .pointer (some ⟨wk, 0, none⟩), .pointer (some ⟨mk, 8, none⟩), .slice sA sN sC, .int .i64 sN, .slice (some ⟨lb, 0, none⟩) sN sN, .pointer (some ⟨mk, 8, none⟩), .slice sA sN sC, .int .i64 sN, .slice (some ⟨bb, 0, none⟩) sN sN, .pointer (some ⟨fb, 2, none⟩), .bool em, .agg #[.int .i64 rk, .int .u64 (rC 0 : Nat), .int .u64 (rC 1 : Nat), .int .u64 (rC 2 : Nat), .int .u64 (rC 3 : Nat), .slice ta tn tc, .int .i64 rl, .int .i64 rh, .slice sA sN sC, .slice cA cN cC, .slice aA aN aC, .slice none 0 0, .slice (some ⟨lb, 0, none⟩) sN sN, .slice (some ⟨bb, 0, none⟩) sN sN, .bool em], v37, v38, v39, v40, v41, v42, v43, v44, v45, v46, v47, v48, v49, v50, v51, v52, v53, v54, v55], defers := D } w8) :
    (Code.region 6 opsMk true).wp Tryd.prog Q { tmps := #[v0, v1, v2, v3, .pointer (some ⟨mk, 0, none⟩), v5, .pointer (some ⟨wk, 0, none⟩), .pointer (some ⟨fb, 0, none⟩), z13, v9, v10, v11, v12, v13, v14, v15, v16, v17, v18, v19, v20, v21, v22, v23, z0, z1, z2, z3, z4, z5, z6, z7, z8, z9, z10, z11, z12, v37, v38, v39, v40, v41, v42, v43, v44, v45, v46, v47, v48, v49, v50, v51, v52, v53, v54, v55], defers := D } w7 := by
  refine wp_region_inv (by kernel_rfl) (IMk rk rl rh rC ta sA cA aA tn tc sN sC cN cC aN aC mk wk fb em S D v0 v1 v2 v3 v5 v9 v10 v11 v12 v13 v14 v15 v16 v17 v18 v19 v20 v21 v22 v23 v37 v38 v39 v40 v41 v42 v43 v44 v45 v46 v47 v48 v49 v50 v51 v52 v53 v54 v55 w7) ?hacy ?h0 ?hstep ?hdone
  case hacy => kernel_rfl
  case h0 => exact ⟨z0, z1, z2, z3, z4, z5, z6, z7, z8, z9, z10, z11, z12, z13, 0, 0, 0, [], fun _ => [], rfl, ⟨(Below.refl _ w7).drew, (fun p => by cases p), (fun p => by cases p), (fun p => by cases p), (fun p => by cases p), (fun p => by cases p)⟩, (fun p => by cases p), (fun p => by cases p), (fun p => by cases p), (fun p => by cases p), (fun p => by cases p), (fun p => by cases p), (fun p => by cases p), (fun p => by cases p), (fun p => by cases p), (fun p => by cases p), (fun p => by cases p), (fun p => by cases p), (fun p => by cases p), (fun p => by cases p)⟩
  case hdone =>
    intro l a w1 hI hall
    obtain ⟨y0, y1, y2, y3, y4, y5, y6, y7, y8, y9, y10, y11, y12, y13, lb, bb, ab, vs, L, rfl, hR, h0, h1, h2, h3, h4, h5, h6, h7, h8, h9, h10, h11, h12, h13⟩ := hI
    obtain rfl := h0 (hall 0 (by decide))
    obtain rfl := h1 (hall 1 (by decide))
    obtain rfl := h2 (hall 2 (by decide))
    obtain rfl := h3 (hall 3 (by decide))
    obtain rfl := h4 (hall 4 (by decide))
    obtain rfl := h5 (hall 5 (by decide))
    obtain rfl := h6 (hall 6 (by decide))
    obtain rfl := h7 (hall 7 (by decide))
    obtain rfl := h8 (hall 8 (by decide))
    obtain rfl := h9 (hall 9 (by decide))
    obtain rfl := h10 (hall 10 (by decide))
    obtain rfl := h11 (hall 11 (by decide))
    obtain rfl := h12 (hall 12 (by decide))
    obtain rfl := h13 (hall 13 (by decide))
    exact hQ lb bb ab vs L w1 hR.bel (hR.h5 (hall 5 (by decide))).1 (hR.h5 (hall 5 (by decide))).2 (hR.h9 (hall 9 (by decide))).1 (hR.h9 (hall 9 (by decide))).2 ((hR.h13 (hall 13 (by decide))).2.2 (hall 14 (by decide))) (hR.h13 (hall 13 (by decide))).1
  case hstep =>
    intro l a w1 i o hI ho hl hall
    obtain ⟨y0, y1, y2, y3, y4, y5, y6, y7, y8, y9, y10, y11, y12, y13, lb, bb, ab, vs, L, rfl, hR, h0, h1, h2, h3, h4, h5, h6, h7, h8, h9, h10, h11, h12, h13⟩ := hI
    have hi : i < 15 := (Array.getElem?_eq_some_iff.1 ho).1
    match i, hi with
    | 0, _ =>
      have ho' := ho
      simp [opsMk] at ho
      subst ho
      refine wpOp_one ho' rfl fun K hK => ?_
      obtain ⟨⟨m0, m1, m2, m3, m4, m5, m6, m7, m8, m9, m10⟩, _⟩ := HSF w1 hR.bel
      go_simp
      exact hK _ _ ⟨_, y1, y2, y3, y4, y5, y6, y7, y8, y9, y10, y11, y12, y13, lb, bb, ab, vs, L, rfl, ⟨hR.bel, hR.h5, hR.h9, hR.h13, hR.i12, hR.i14⟩, fun _ => (by first | rfl | simp), h1, h2, h3, h4, h5, h6, h7, h8, h9, h10, h11, h12, h13⟩
    | 1, _ =>
      have ho' := ho
      simp [opsMk] at ho
      subst ho
      refine wpOp_one ho' rfl fun K hK => ?_
      go_simp
      exact hK _ _ ⟨y0, _, y2, y3, y4, y5, y6, y7, y8, y9, y10, y11, y12, y13, lb, bb, ab, vs, L, rfl, ⟨hR.bel, hR.h5, hR.h9, hR.h13, hR.i12, hR.i14⟩, h0, fun _ => (by first | rfl | simp), h2, h3, h4, h5, h6, h7, h8, h9, h10, h11, h12, h13⟩
    | 2, _ =>
      have ho' := ho
      simp [opsMk] at ho
      subst ho
      refine wpOp_one ho' rfl fun K hK => ?_
      go_simp
      exact hK _ _ ⟨y0, y1, _, y3, y4, y5, y6, y7, y8, y9, y10, y11, y12, y13, lb, bb, ab, vs, L, rfl, ⟨hR.bel, hR.h5, hR.h9, hR.h13, hR.i12, hR.i14⟩, h0, h1, fun _ => (by first | rfl | simp), h3, h4, h5, h6, h7, h8, h9, h10, h11, h12, h13⟩
    | 3, _ =>
      have ho' := ho
      simp [opsMk] at ho
      subst ho
      have q2 := hall ⟨2, .data⟩ (by simp) rfl
      obtain rfl := h2 q2
      refine wpOp_one ho' rfl fun K hK => ?_
      obtain ⟨⟨m0, m1, m2, m3, m4, m5, m6, m7, m8, m9, m10⟩, _⟩ := HSF w1 hR.bel
      go_simp
      exact hK _ _ ⟨y0, y1, _, _, y4, y5, y6, y7, y8, y9, y10, y11, y12, y13, lb, bb, ab, vs, L, rfl, ⟨hR.bel, hR.h5, hR.h9, hR.h13, hR.i12, hR.i14⟩, h0, h1, fun _ => rfl, fun _ => (by first | rfl | simp), h4, h5, h6, h7, h8, h9, h10, h11, h12, h13⟩
    | 4, _ =>
      have ho' := ho
      simp [opsMk] at ho
      subst ho
      have q3 := hall ⟨3, .data⟩ (by simp) rfl
      obtain rfl := h3 q3
      refine wpOp_one ho' rfl fun K hK => ?_
      go_simp
      exact hK _ _ ⟨y0, y1, y2, _, _, y5, y6, y7, y8, y9, y10, y11, y12, y13, lb, bb, ab, vs, L, rfl, ⟨hR.bel, hR.h5, hR.h9, hR.h13, hR.i12, hR.i14⟩, h0, h1, h2, fun _ => rfl, fun _ => (by first | rfl | simp), h5, h6, h7, h8, h9, h10, h11, h12, h13⟩
    | 5, _ =>
      have ho' := ho
      simp [opsMk] at ho
      subst ho
      have q1 := hall ⟨1, .data⟩ (by simp) rfl
      obtain rfl := h1 q1
      have q4 := hall ⟨4, .data⟩ (by simp) rfl
      obtain rfl := h4 q4
      refine wpOp_one ho' rfl fun K hK => ?_
      go_simp
      go_at_call 33
      refine (HSO w1 hR.bel).mono ?_
      rintro e w2 ⟨lb2, vs2, L2, rfl, hr2, hm2, hb2⟩
      have hR2 := hR.step hb2
      have hrow : RowsM w2 w7.heap.size sN (.slice (some ⟨lb2, 0, none⟩) sN sN) vs2 L2 := hr2.low hR.bel.size
      exact hK _ _ ⟨y0, _, y2, y3, _, _, y6, y7, y8, y9, y10, y11, y12, y13, lb2, bb, ab, vs2, L2, rfl, ⟨hR2.bel, fun _ => ⟨hrow, hm2⟩, hR2.h9, fun p => ⟨(hR2.h13 p).1, (hR2.h13 p).2.1, (fun p : l 14 = true => absurd (hR.i12 (hR.i14 p).1).1 (by rw [hl]; decide))⟩, (fun p : l 12 = true => absurd (hR.i12 p).1 (by rw [hl]; decide)), (fun p : l 14 = true => absurd (hR.i12 (hR.i14 p).1).1 (by rw [hl]; decide))⟩, h0, fun _ => rfl, h2, h3, fun _ => rfl, fun _ => (by first | rfl | simp), h6, h7, h8, h9, h10, h11, (fun p : l 12 = true => absurd (hR.i12 p).1 (by rw [hl]; decide)), h13⟩
    | 6, _ =>
      have ho' := ho
      simp [opsMk] at ho
      subst ho
      refine wpOp_one ho' rfl fun K hK => ?_
      go_simp
      exact hK _ _ ⟨y0, y1, y2, y3, y4, y5, _, y7, y8, y9, y10, y11, y12, y13, lb, bb, ab, vs, L, rfl, ⟨hR.bel, hR.h5, hR.h9, hR.h13, hR.i12, hR.i14⟩, h0, h1, h2, h3, h4, h5, fun _ => (by first | rfl | simp), h7, h8, h9, h10, h11, h12, h13⟩
    | 7, _ =>
      have ho' := ho
      simp [opsMk] at ho
      subst ho
      have q6 := hall ⟨6, .data⟩ (by simp) rfl
      obtain rfl := h6 q6
      refine wpOp_one ho' rfl fun K hK => ?_
      obtain ⟨⟨m0, m1, m2, m3, m4, m5, m6, m7, m8, m9, m10⟩, _⟩ := HSF w1 hR.bel
      go_simp
      exact hK _ _ ⟨y0, y1, y2, y3, y4, y5, _, _, y8, y9, y10, y11, y12, y13, lb, bb, ab, vs, L, rfl, ⟨hR.bel, hR.h5, hR.h9, hR.h13, hR.i12, hR.i14⟩, h0, h1, h2, h3, h4, h5, fun _ => rfl, fun _ => (by first | rfl | simp), h8, h9, h10, h11, h12, h13⟩
    | 8, _ =>
      have ho' := ho
      simp [opsMk] at ho
      subst ho
      have q7 := hall ⟨7, .data⟩ (by simp) rfl
      obtain rfl := h7 q7
      refine wpOp_one ho' rfl fun K hK => ?_
      go_simp
      exact hK _ _ ⟨y0, y1, y2, y3, y4, y5, y6, _, _, y9, y10, y11, y12, y13, lb, bb, ab, vs, L, rfl, ⟨hR.bel, hR.h5, hR.h9, hR.h13, hR.i12, hR.i14⟩, h0, h1, h2, h3, h4, h5, h6, fun _ => rfl, fun _ => (by first | rfl | simp), h9, h10, h11, h12, h13⟩
    | 9, _ =>
      have ho' := ho
      simp [opsMk] at ho
      subst ho
      have q8 := hall ⟨8, .data⟩ (by simp) rfl
      obtain rfl := h8 q8
      refine wpOp_one ho' rfl fun K hK => ?_
      have hm9 := hmks w1
      go_simp
      have hb2 : Below w1.heap.size w1 (w1.alloc (.cells (madeCells #[.bool false] sN) 4)) := (Below.refl _ w1).alloc (Nat.le_refl _) _
      have hR2 := hR.step hb2
      exact hK _ _ ⟨y0, y1, y2, y3, y4, y5, y6, y7, _, _, y10, y11, y12, y13, lb, w1.heap.size, ab, vs, L, rfl, ⟨hR2.bel, hR2.h5, fun _ => ⟨heap_alloc_new w1 _, hR.bel.size⟩, fun p => ⟨(hR2.h13 p).1, (hR2.h13 p).2.1, (fun p : l 14 = true => absurd (hR.i12 (hR.i14 p).1).2 (by rw [hl]; decide))⟩, (fun p : l 12 = true => absurd (hR.i12 p).2 (by rw [hl]; decide)), (fun p : l 14 = true => absurd (hR.i12 (hR.i14 p).1).2 (by rw [hl]; decide))⟩, h0, h1, h2, h3, h4, h5, h6, h7, fun _ => rfl, fun _ => (by first | rfl | simp), h10, h11, (fun p : l 12 = true => absurd (hR.i12 p).2 (by rw [hl]; decide)), h13⟩
    | 10, _ =>
      have ho' := ho
      simp [opsMk] at ho
      subst ho
      refine wpOp_one ho' rfl fun K hK => ?_
      go_simp
      exact hK _ _ ⟨y0, y1, y2, y3, y4, y5, y6, y7, y8, y9, _, y11, y12, y13, lb, bb, ab, vs, L, rfl, ⟨hR.bel, hR.h5, hR.h9, hR.h13, hR.i12, hR.i14⟩, h0, h1, h2, h3, h4, h5, h6, h7, h8, h9, fun _ => (by first | rfl | simp), h11, h12, h13⟩
    | 11, _ =>
      have ho' := ho
      simp [opsMk] at ho
      subst ho
      have q10 := hall ⟨10, .data⟩ (by simp) rfl
      obtain rfl := h10 q10
      refine wpOp_one ho' rfl fun K hK => ?_
      obtain ⟨_, me⟩ := HSF w1 hR.bel
      go_simp
      exact hK _ _ ⟨y0, y1, y2, y3, y4, y5, y6, y7, y8, y9, _, _, y12, y13, lb, bb, ab, vs, L, rfl, ⟨hR.bel, hR.h5, hR.h9, hR.h13, hR.i12, hR.i14⟩, h0, h1, h2, h3, h4, h5, h6, h7, h8, h9, fun _ => rfl, fun _ => (by first | rfl | simp), h12, h13⟩
    | 12, _ =>
      have ho' := ho
      simp [opsMk] at ho
      subst ho
      have q0 := hall ⟨0, .data⟩ (by simp) rfl
      obtain rfl := h0 q0
      have q5 := hall ⟨5, .data⟩ (by simp) rfl
      obtain rfl := h5 q5
      have q9 := hall ⟨9, .data⟩ (by simp) rfl
      obtain rfl := h9 q9
      have q11 := hall ⟨11, .data⟩ (by simp) rfl
      obtain rfl := h11 q11
      refine wpOp_one ho' rfl fun K hK => ?_
      go_simp
      exact hK _ _ ⟨_, y1, y2, y3, y4, _, y6, y7, y8, _, y10, _, _, y13, lb, bb, ab, vs, L, rfl, ⟨hR.bel, hR.h5, hR.h9, hR.h13, fun _ => ⟨q5, q9⟩, fun p => ⟨rfl, (hR.i14 p).2⟩⟩, fun _ => rfl, h1, h2, h3, h4, fun _ => rfl, h6, h7, h8, fun _ => rfl, h10, fun _ => rfl, fun _ => (by first | rfl | simp), h13⟩
    | 13, _ =>
      have ho' := ho
      simp [opsMk] at ho
      subst ho
      refine wpOp_one ho' rfl fun K hK => ?_
      go_simp
      have hb2 : Below w1.heap.size w1 (w1.alloc (.cells #[.int .i64 0, .int .u64 0, .int .u64 0, .int .u64 0, .int .u64 0, .slice none 0 0, .int .i64 0, .int .i64 0, .slice none 0 0, .slice none 0 0, .slice none 0 0, .slice none 0 0, .slice none 0 0, .slice none 0 0, .bool false] 39)) := (Below.refl _ w1).alloc (Nat.le_refl _) _
      have hR2 := hR.step hb2
      exact hK _ _ ⟨y0, y1, y2, y3, y4, y5, y6, y7, y8, y9, y10, y11, y12, _, lb, bb, w1.heap.size, vs, L, rfl, ⟨hR2.bel, hR2.h5, hR2.h9, fun _ => ⟨hR.bel.size, fun _ => heap_alloc_new w1 _, (fun p : l 14 = true => absurd (hR.i14 p).2 (by rw [hl]; decide))⟩, hR2.i12, (fun p : l 14 = true => absurd (hR.i14 p).2 (by rw [hl]; decide))⟩, h0, h1, h2, h3, h4, h5, h6, h7, h8, h9, h10, h11, h12, fun _ => (by first | rfl | simp)⟩
    | 14, _ =>
      have ho' := ho
      simp [opsMk] at ho
      subst ho
      have q12 := hall ⟨12, .data⟩ (by simp) rfl
      obtain rfl := h12 q12
      have q13 := hall ⟨13, .data⟩ (by simp) rfl
      obtain rfl := h13 q13
      refine wpOp_one ho' rfl fun K hK => ?_
      have hz := (hR.h13 q13).2.1 hl
      obtain ⟨⟨z0', z1', z2', z3', z4', z5', z6', z7', z8', z9', z10', z11', z12', z13', z14'⟩, hf, hzl⟩ := cells15 hz
      have f0 := hf 0
      have f1 := hf 1
      have f2 := hf 2
      have f3 := hf 3
      have f4 := hf 4
      have f5 := hf 5
      have f6 := hf 6
      have f7 := hf 7
      have f8 := hf 8
      have f9 := hf 9
      have f10 := hf 10
      have f11 := hf 11
      have f12 := hf 12
      have f13 := hf 13
      have f14 := hf 14
      clear hf
      go_simp
      have hs := set15_heap hz (.int .i64 rk) (.int .u64 (rC 0 : Nat)) (.int .u64 (rC 1 : Nat)) (.int .u64 (rC 2 : Nat)) (.int .u64 (rC 3 : Nat)) (.slice ta tn tc) (.int .i64 rl) (.int .i64 rh) (.slice sA sN sC) (.slice cA cN cC) (.slice aA aN aC) (.slice none 0 0) (.slice (some ⟨lb, 0, none⟩) sN sN) (.slice (some ⟨bb, 0, none⟩) sN sN) (.bool em)
      have hc := set15_chg w1 ab (.int .i64 rk) (.int .u64 (rC 0 : Nat)) (.int .u64 (rC 1 : Nat)) (.int .u64 (rC 2 : Nat)) (.int .u64 (rC 3 : Nat)) (.slice ta tn tc) (.int .i64 rl) (.int .i64 rh) (.slice sA sN sC) (.slice cA cN cC) (.slice aA aN aC) (.slice none 0 0) (.slice (some ⟨lb, 0, none⟩) sN sN) (.slice (some ⟨bb, 0, none⟩) sN sN) (.bool em)
      generalize (((((((((((((((w1.setCell ⟨ab, 0, none⟩ (.int .i64 rk)).setCell ⟨ab, 1, none⟩ (.int .u64 (rC 0 : Nat))).setCell ⟨ab, 2, none⟩ (.int .u64 (rC 1 : Nat))).setCell ⟨ab, 3, none⟩ (.int .u64 (rC 2 : Nat))).setCell ⟨ab, 4, none⟩ (.int .u64 (rC 3 : Nat))).setCell ⟨ab, 5, none⟩ (.slice ta tn tc)).setCell ⟨ab, 6, none⟩ (.int .i64 rl)).setCell ⟨ab, 7, none⟩ (.int .i64 rh)).setCell ⟨ab, 8, none⟩ (.slice sA sN sC)).setCell ⟨ab, 9, none⟩ (.slice cA cN cC)).setCell ⟨ab, 10, none⟩ (.slice aA aN aC)).setCell ⟨ab, 11, none⟩ (.slice none 0 0)).setCell ⟨ab, 12, none⟩ (.slice (some ⟨lb, 0, none⟩) sN sN)).setCell ⟨ab, 13, none⟩ (.slice (some ⟨bb, 0, none⟩) sN sN)).setCell ⟨ab, 14, none⟩ (.bool em)) = w2 at *
      have hab := (hR.h13 q13).1
      have hty : TyB w1 ab 39 := ⟨_, _, hz⟩
      refine hK _ _ ⟨y0, y1, y2, y3, y4, y5, y6, y7, y8, y9, y10, y11, _, _, lb, bb, ab, vs, L, rfl, ⟨hR.bel.trans (hc.below (B := w7.heap.size) hR.bel.size fun k hk e => by omega), fun p => ⟨(hR.h5 p).1.keep hc fun x t e _ ht => by subst e; have := ht.eq hty; subst this; decide, (hR.h5 p).2⟩, fun p => ⟨(hc.block bb (Array.getElem?_eq_some_iff.1 (hR.h9 p).1).1 fun e => by subst e; have := (hR.h9 p).1; rw [hz] at this; simp at this).trans (hR.h9 p).1, (hR.h9 p).2⟩, fun p => ⟨hab, fun q => (by cases q), fun _ => hs⟩, hR.i12, fun _ => ⟨q12, q13⟩⟩, h0, h1, h2, h3, h4, h5, h6, h7, h8, h9, h10, h11, fun _ => rfl, fun _ => rfl⟩
    | k + 15, hi => omega

end Go.Proofs.YtnebfniekeknaaaDoor
