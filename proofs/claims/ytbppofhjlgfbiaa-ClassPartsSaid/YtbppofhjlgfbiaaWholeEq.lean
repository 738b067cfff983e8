/- A region of the walk of ClassWhole: what is put together of a part and a class is empty, or it is the part.
   Conditions: those that the theorems state. -/
import Derived.Test.YtbppofhjlgfbiaaLawsWalk
import Derived.Test.YtbppofhjlgfbiaaPartFacts
import Derived.Test.YtbppofhjlgfbiaaOrder
namespace Go.Proofs.Ytbppofhjlgfbiaa
open Go.RowKit
attribute [local go_sem ↓] Go.wp_at_zero Go.wp_at_succ
theorem wpOp_off {P : Program} {ops : Array Oper} {Q : Exit → Act → World → Prop} {i : Nat} {o : Oper} {I : Act → World → Prop} {a : Act} {w : World} (hi : ops[i]? = some o) (hg : Region.wanted o (yielded ops a.tmps) = false)
    (h : I (a.put o.dst undef) w) : wpOp P ops Q i I a w := by
  unfold wpOp
  simp only [hi]
  rw [if_neg (by simp [hg])]
  exact h
theorem wpOp_on {P : Program} {ops : Array Oper} {Q : Exit → Act → World → Prop} {i : Nat} {o : Oper} {I : Act → World → Prop} {a : Act} {w : World} (hi : ops[i]? = some o) (hg : Region.wanted o (yielded ops a.tmps) = true)
    (h : ∀ K : Act → World → Prop, (∀ a w, I a w → K a w) → o.wp P a w K Q) : wpOp P ops Q i I a w := by
  unfold wpOp
  simp only [hi]
  rw [if_pos hg]
  exact .inl (h I fun _ _ => id)
theorem wpOp_one {P : Program} {ops : Array Oper} {Q : Exit → Act → World → Prop} {i : Nat} {o : Oper} {I : Act → World → Prop} {a : Act} {w : World} (hi : ops[i]? = some o) (hg : o.guard = none)
    (h : ∀ K : Act → World → Prop, (∀ a w, I a w → K a w) → o.wp P a w K Q) : wpOp P ops Q i I a w := wpOp_on hi (by simp [Region.wanted, hg]) h
abbrev ops17 : Array Oper := #[{ dst := some 68, op := Op.load 26 (Operand.tmp 8), type := 26, pos := "law.go:81", after := #[], guard := none },
  { dst := some 69, op := Op.call { callee := Callee.value (Operand.func 18), args := #[Operand.tmp 68], argTypes := #[26] }, type := 4, pos := "law.go:81", after := #[{ on := 0, ground := Ground.data }], guard := none },
  { dst := some 70, op := Op.unOp UnOp.not 4 (Operand.tmp 69), type := 4, pos := "law.go:81", after := #[{ on := 1, ground := Ground.data }], guard := none },
  { dst := some 71, op := Op.move (Operand.tmp 70), type := 4, pos := "law.go:81", after := #[{ on := 2, ground := Ground.data }, { on := 1, ground := Ground.chain }], guard := none },
  { dst := some 72, op := Op.load 26 (Operand.tmp 8), type := 26, pos := "law.go:81", after := #[{ on := 3, ground := Ground.guard }], guard := some (3, true) },
  { dst := some 73, op := Op.move (Operand.tmp 3), type := 22, pos := "law.go:81", after := #[{ on := 3, ground := Ground.guard }], guard := some (3, true) },
  { dst := some 74, op := Op.move (Operand.tmp 6), type := 3, pos := "law.go:81", after := #[{ on := 3, ground := Ground.guard }], guard := some (3, true) },
  { dst := some 75, op := Op.indexAddr 22 (Operand.tmp 73) (Operand.tmp 74), type := 0, pos := "law.go:81", after := #[{ on := 5, ground := Ground.data }, { on := 6, ground := Ground.data }, { on := 3, ground := Ground.guard }], guard := some (3, true) },
  { dst := some 76, op := Op.load 26 (Operand.tmp 75), type := 26, pos := "law.go:81", after := #[{ on := 7, ground := Ground.data }, { on := 3, ground := Ground.guard }], guard := some (3, true) },
  { dst := some 77, op := Op.binOp BinOp.neq 26 (Operand.tmp 72) (Operand.tmp 76) 26, type := 4, pos := "law.go:81", after := #[{ on := 4, ground := Ground.data }, { on := 8, ground := Ground.data }, { on := 3, ground := Ground.guard }], guard := some (3, true) },
  { dst := some 78, op := Op.pick (Operand.tmp 71) (Operand.tmp 77) (Operand.const (Value.bool false)), type := 4, pos := "law.go:81", after := #[{ on := 3, ground := Ground.data }, { on := 9, ground := Ground.data }], guard := none }]

def W17T (C _E : Nat → Nat) (g q M bx : Nat) (D : List Deferred) (v0 v1 v2 v4 v5 v7 v9 v10 v11 v12 v13 v14 v15 v16 v17 v18 v19 v20 v21 v22 v23 v24 v25 v26 v27 v28 v29 v30 v31 v32 v33 v34 v35 v36 v37 v38 v39 v40 v41 v42 v43 v44 v45 v46 v47 v48 v49 v50 v51 v52 v53 v54 v55 v56 v57 v58 v59 v60 v61 v62 v63 v64 v65 v66 v67 v79 v80 v81 v82 v83 v84 v85 : Value) (w0 : World) (l : Nat → Bool) (a : Act) (w : World) : Prop :=
  ∃ (y0 y1 y2 y3 y4 y5 y6 y7 y8 y9 y10 : Value), a = { tmps := #[v0, v1, v2, .slice (some ⟨g, 0, none⟩) M M, v4, v5, .int .i64 (q : Nat), v7, .pointer (some ⟨bx, 0, none⟩), v9, v10, v11, v12, v13, v14, v15, v16, v17, v18, v19, v20, v21, v22, v23, v24, v25, v26, v27, v28, v29, v30, v31, v32, v33, v34, v35, v36, v37, v38, v39, v40, v41, v42, v43, v44, v45, v46, v47, v48, v49, v50, v51, v52, v53, v54, v55, v56, v57, v58, v59, v60, v61, v62, v63, v64, v65, v66, v67, y0, y1, y2, y3, y4, y5, y6, y7, y8, y9, y10, v79, v80, v81, v82, v83, v84, v85], defers := D } ∧ Below w0.heap.size w0 w ∧
    (l 0 = true → y0 = .agg #[.int .u64 (C 0 : Nat), .int .u64 (C 1 : Nat), .int .u64 (C 2 : Nat), .int .u64 (C 3 : Nat)]) ∧ (l 1 = true → y1 = .bool true) ∧ (l 2 = true → y2 = .bool false) ∧ (l 3 = true → y3 = .bool false) ∧ (l 10 = true → y10 = .bool false)
set_option maxHeartbeats 4000000 in
set_option maxRecDepth 100000 in
theorem reg17T (C E : Nat → Nat) (g q M bx : Nat) (D : List Deferred) (v0 v1 v2 v4 v5 v7 v9 v10 v11 v12 v13 v14 v15 v16 v17 v18 v19 v20 v21 v22 v23 v24 v25 v26 v27 v28 v29 v30 v31 v32 v33 v34 v35 v36 v37 v38 v39 v40 v41 v42 v43 v44 v45 v46 v47 v48 v49 v50 v51 v52 v53 v54 v55 v56 v57 v58 v59 v60 v61 v62 v63 v64 v65 v66 v67 v79 v80 v81 v82 v83 v84 v85 wy0 wy1 wy2 wy3 wy4 wy5 wy6 wy7 wy8 wy9 wy10 : Value) (w : World) (he : emp C = true)
    (hC : Cells w bx C) (_hE : ∀ j, j < 4 → w.cell? ⟨g, q * 4 + j, none⟩ = some (.int .u64 (E j : Nat))) (hq : q < M) (Q : Exit → Act → World → Prop)
    (hQ : ∀ (y0 y1 y2 y3 y4 y5 y6 y7 y8 y9 : Value) (w' : World), Below w.heap.size w w' → Q .normal { tmps := #[v0, v1, v2, .slice (some ⟨g, 0, none⟩) M M, v4, v5, .int .i64 (q : Nat), v7, .pointer (some ⟨bx, 0, none⟩), v9, v10, v11, v12, v13, v14, v15, v16, v17, v18, v19, v20, v21, v22, v23, v24, v25, v26, v27, v28, v29, v30, v31, v32, v33, v34, v35, v36, v37, v38, v39, v40, v41, v42, v43, v44, v45, v46, v47, v48, v49, v50, v51, v52, v53, v54, v55, v56, v57, v58, v59, v60, v61, v62, v63, v64, v65, v66, v67, y0, y1, y2, y3, y4, y5, y6, y7, y8, y9, .bool false, v79, v80, v81, v82, v83, v84, v85], defers := D } w') :
    (Code.region 17 ops17 true).wp Try.prog Q { tmps := #[v0, v1, v2, .slice (some ⟨g, 0, none⟩) M M, v4, v5, .int .i64 (q : Nat), v7, .pointer (some ⟨bx, 0, none⟩), v9, v10, v11, v12, v13, v14, v15, v16, v17, v18, v19, v20, v21, v22, v23, v24, v25, v26, v27, v28, v29, v30, v31, v32, v33, v34, v35, v36, v37, v38, v39, v40, v41, v42, v43, v44, v45, v46, v47, v48, v49, v50, v51, v52, v53, v54, v55, v56, v57, v58, v59, v60, v61, v62, v63, v64, v65, v66, v67, wy0, wy1, wy2, wy3, wy4, wy5, wy6, wy7, wy8, wy9, wy10, v79, v80, v81, v82, v83, v84, v85], defers := D } w := by
  have hq1 : (q : Int) < (M : Int) := by omega
  have hq0 : (0 : Int) ≤ (q : Int) := by omega
  refine wp_region_inv (by kernel_rfl) (W17T C E g q M bx D v0 v1 v2 v4 v5 v7 v9 v10 v11 v12 v13 v14 v15 v16 v17 v18 v19 v20 v21 v22 v23 v24 v25 v26 v27 v28 v29 v30 v31 v32 v33 v34 v35 v36 v37 v38 v39 v40 v41 v42 v43 v44 v45 v46 v47 v48 v49 v50 v51 v52 v53 v54 v55 v56 v57 v58 v59 v60 v61 v62 v63 v64 v65 v66 v67 v79 v80 v81 v82 v83 v84 v85 w) ?hacy ?h0 ?hstep ?hdone
  case hacy => kernel_rfl
  case h0 => exact ⟨wy0, wy1, wy2, wy3, wy4, wy5, wy6, wy7, wy8, wy9, wy10, rfl, below_drewN (Below.refl _ _) 1, (fun p => by cases p), (fun p => by cases p), (fun p => by cases p), (fun p => by cases p), (fun p => by cases p)⟩
  case hdone =>
    intro l a w1 hI hall
    obtain ⟨y0, y1, y2, y3, y4, y5, y6, y7, y8, y9, y10, rfl, hb, h0, h1, h2, h3, h10⟩ := hI
    obtain rfl := h10 (hall 10 (by decide))
    exact hQ _ _ _ _ _ _ _ _ _ _ _ hb
  case hstep =>
    intro l a w1 i o hI ho hl hall
    obtain ⟨y0, y1, y2, y3, y4, y5, y6, y7, y8, y9, y10, rfl, hb, h0, h1, h2, h3, h10⟩ := hI
    have hC1 := hC.below hb
    have hi : i < 11 := (Array.getElem?_eq_some_iff.1 ho).1
    match i, hi with
    | 0, _ =>
      have ho' := ho
      simp [ops17] at ho
      subst ho
      refine wpOp_one ho' rfl fun K hK => ?_
      obtain ⟨c0, c1, c2, c3⟩ := hC1.four
      go_simp
      exact hK _ _ ⟨_, y1, y2, y3, y4, y5, y6, y7, y8, y9, y10, rfl, hb, fun _ => rfl, h1, h2, h3, h10⟩
    | 1, _ =>
      have ho' := ho
      simp [ops17] at ho
      subst ho
      obtain rfl := h0 (hall ⟨0, .data⟩ (by simp) rfl)
      refine wpOp_one ho' rfl fun K hK => ?_
      go_simp
      go_at_call 18
      refine (empty_any C _).mono ?_
      rintro e w2 ⟨rfl, hb2⟩
      exact hK _ _ ⟨_, _, y2, y3, y4, y5, y6, y7, y8, y9, y10, rfl, (keep_below hb2 hb), fun _ => rfl, fun _ => by rw [he], h2, h3, h10⟩
    | 2, _ =>
      have ho' := ho
      simp [ops17] at ho
      subst ho
      obtain rfl := h1 (hall ⟨1, .data⟩ (by simp) rfl)
      refine wpOp_one ho' rfl fun K hK => ?_
      go_simp
      exact hK _ _ ⟨y0, _, _, y3, y4, y5, y6, y7, y8, y9, y10, rfl, hb, h0, fun _ => rfl, fun _ => rfl, h3, h10⟩
    | 3, _ =>
      have ho' := ho
      simp [ops17] at ho
      subst ho
      obtain rfl := h2 (hall ⟨2, .data⟩ (by simp) rfl)
      refine wpOp_one ho' rfl fun K hK => ?_
      go_simp
      exact hK _ _ ⟨y0, y1, _, _, y4, y5, y6, y7, y8, y9, y10, rfl, hb, h0, h1, fun _ => rfl, fun _ => rfl, h10⟩
    | 4, _ =>
      have ho' := ho
      simp [ops17] at ho
      subst ho
      obtain rfl := h3 (hall ⟨3, .guard⟩ (by simp) rfl)
      refine wpOp_off ho' rfl ?_
      exact ⟨y0, y1, y2, _, _, y5, y6, y7, y8, y9, y10, rfl, hb, h0, h1, h2, fun _ => rfl, h10⟩
    | 5, _ =>
      have ho' := ho
      simp [ops17] at ho
      subst ho
      obtain rfl := h3 (hall ⟨3, .guard⟩ (by simp) rfl)
      refine wpOp_off ho' rfl ?_
      exact ⟨y0, y1, y2, _, y4, _, y6, y7, y8, y9, y10, rfl, hb, h0, h1, h2, fun _ => rfl, h10⟩
    | 6, _ =>
      have ho' := ho
      simp [ops17] at ho
      subst ho
      obtain rfl := h3 (hall ⟨3, .guard⟩ (by simp) rfl)
      refine wpOp_off ho' rfl ?_
      exact ⟨y0, y1, y2, _, y4, y5, _, y7, y8, y9, y10, rfl, hb, h0, h1, h2, fun _ => rfl, h10⟩
    | 7, _ =>
      have ho' := ho
      simp [ops17] at ho
      subst ho
      obtain rfl := h3 (hall ⟨3, .guard⟩ (by simp) rfl)
      refine wpOp_off ho' rfl ?_
      exact ⟨y0, y1, y2, _, y4, y5, y6, _, y8, y9, y10, rfl, hb, h0, h1, h2, fun _ => rfl, h10⟩
    | 8, _ =>
      have ho' := ho
      simp [ops17] at ho
      subst ho
      obtain rfl := h3 (hall ⟨3, .guard⟩ (by simp) rfl)
      refine wpOp_off ho' rfl ?_
      exact ⟨y0, y1, y2, _, y4, y5, y6, y7, _, y9, y10, rfl, hb, h0, h1, h2, fun _ => rfl, h10⟩
    | 9, _ =>
      have ho' := ho
      simp [ops17] at ho
      subst ho
      obtain rfl := h3 (hall ⟨3, .guard⟩ (by simp) rfl)
      refine wpOp_off ho' rfl ?_
      exact ⟨y0, y1, y2, _, y4, y5, y6, y7, y8, _, y10, rfl, hb, h0, h1, h2, fun _ => rfl, h10⟩
    | 10, _ =>
      have ho' := ho
      simp [ops17] at ho
      subst ho
      obtain rfl := h3 (hall ⟨3, .data⟩ (by simp) rfl)
      refine wpOp_one ho' rfl fun K hK => ?_
      go_simp
      exact hK _ _ ⟨y0, y1, y2, _, y4, y5, y6, y7, y8, y9, _, rfl, hb, h0, h1, h2, fun _ => rfl, fun _ => rfl⟩
    | k + 11, hi => omega


def W17F (C E : Nat → Nat) (g q M bx : Nat) (D : List Deferred) (v0 v1 v2 v4 v5 v7 v9 v10 v11 v12 v13 v14 v15 v16 v17 v18 v19 v20 v21 v22 v23 v24 v25 v26 v27 v28 v29 v30 v31 v32 v33 v34 v35 v36 v37 v38 v39 v40 v41 v42 v43 v44 v45 v46 v47 v48 v49 v50 v51 v52 v53 v54 v55 v56 v57 v58 v59 v60 v61 v62 v63 v64 v65 v66 v67 v79 v80 v81 v82 v83 v84 v85 : Value) (w0 : World) (l : Nat → Bool) (a : Act) (w : World) : Prop :=
  ∃ (y0 y1 y2 y3 y4 y5 y6 y7 y8 y9 y10 : Value), a = { tmps := #[v0, v1, v2, .slice (some ⟨g, 0, none⟩) M M, v4, v5, .int .i64 (q : Nat), v7, .pointer (some ⟨bx, 0, none⟩), v9, v10, v11, v12, v13, v14, v15, v16, v17, v18, v19, v20, v21, v22, v23, v24, v25, v26, v27, v28, v29, v30, v31, v32, v33, v34, v35, v36, v37, v38, v39, v40, v41, v42, v43, v44, v45, v46, v47, v48, v49, v50, v51, v52, v53, v54, v55, v56, v57, v58, v59, v60, v61, v62, v63, v64, v65, v66, v67, y0, y1, y2, y3, y4, y5, y6, y7, y8, y9, y10, v79, v80, v81, v82, v83, v84, v85], defers := D } ∧ Below w0.heap.size w0 w ∧
    (l 0 = true → y0 = .agg #[.int .u64 (C 0 : Nat), .int .u64 (C 1 : Nat), .int .u64 (C 2 : Nat), .int .u64 (C 3 : Nat)]) ∧ (l 1 = true → y1 = .bool false) ∧ (l 2 = true → y2 = .bool true) ∧ (l 3 = true → y3 = .bool true) ∧ (l 4 = true → y4 = .agg #[.int .u64 (C 0 : Nat), .int .u64 (C 1 : Nat), .int .u64 (C 2 : Nat), .int .u64 (C 3 : Nat)]) ∧ (l 5 = true → y5 = .slice (some ⟨g, 0, none⟩) M M) ∧ (l 6 = true → y6 = .int .i64 (q : Nat)) ∧ (l 7 = true → y7 = .pointer (some ⟨g, q * 4, none⟩)) ∧ (l 8 = true → y8 = .agg #[.int .u64 (E 0 : Nat), .int .u64 (E 1 : Nat), .int .u64 (E 2 : Nat), .int .u64 (E 3 : Nat)]) ∧ (l 9 = true → y9 = .bool false) ∧ (l 10 = true → y10 = .bool false)
set_option maxHeartbeats 4000000 in
set_option maxRecDepth 100000 in
theorem reg17F (C E : Nat → Nat) (g q M bx : Nat) (D : List Deferred) (v0 v1 v2 v4 v5 v7 v9 v10 v11 v12 v13 v14 v15 v16 v17 v18 v19 v20 v21 v22 v23 v24 v25 v26 v27 v28 v29 v30 v31 v32 v33 v34 v35 v36 v37 v38 v39 v40 v41 v42 v43 v44 v45 v46 v47 v48 v49 v50 v51 v52 v53 v54 v55 v56 v57 v58 v59 v60 v61 v62 v63 v64 v65 v66 v67 v79 v80 v81 v82 v83 v84 v85 wy0 wy1 wy2 wy3 wy4 wy5 wy6 wy7 wy8 wy9 wy10 : Value) (w : World) (he : emp C = false) (hs : same4 C E)
    (hC : Cells w bx C) (hE : ∀ j, j < 4 → w.cell? ⟨g, q * 4 + j, none⟩ = some (.int .u64 (E j : Nat))) (hq : q < M) (Q : Exit → Act → World → Prop)
    (hQ : ∀ (y0 y1 y2 y3 y4 y5 y6 y7 y8 y9 : Value) (w' : World), Below w.heap.size w w' → Q .normal { tmps := #[v0, v1, v2, .slice (some ⟨g, 0, none⟩) M M, v4, v5, .int .i64 (q : Nat), v7, .pointer (some ⟨bx, 0, none⟩), v9, v10, v11, v12, v13, v14, v15, v16, v17, v18, v19, v20, v21, v22, v23, v24, v25, v26, v27, v28, v29, v30, v31, v32, v33, v34, v35, v36, v37, v38, v39, v40, v41, v42, v43, v44, v45, v46, v47, v48, v49, v50, v51, v52, v53, v54, v55, v56, v57, v58, v59, v60, v61, v62, v63, v64, v65, v66, v67, y0, y1, y2, y3, y4, y5, y6, y7, y8, y9, .bool false, v79, v80, v81, v82, v83, v84, v85], defers := D } w') :
    (Code.region 17 ops17 true).wp Try.prog Q { tmps := #[v0, v1, v2, .slice (some ⟨g, 0, none⟩) M M, v4, v5, .int .i64 (q : Nat), v7, .pointer (some ⟨bx, 0, none⟩), v9, v10, v11, v12, v13, v14, v15, v16, v17, v18, v19, v20, v21, v22, v23, v24, v25, v26, v27, v28, v29, v30, v31, v32, v33, v34, v35, v36, v37, v38, v39, v40, v41, v42, v43, v44, v45, v46, v47, v48, v49, v50, v51, v52, v53, v54, v55, v56, v57, v58, v59, v60, v61, v62, v63, v64, v65, v66, v67, wy0, wy1, wy2, wy3, wy4, wy5, wy6, wy7, wy8, wy9, wy10, v79, v80, v81, v82, v83, v84, v85], defers := D } w := by
  have hq1 : (q : Int) < (M : Int) := by omega
  have hq0 : (0 : Int) ≤ (q : Int) := by omega
  have heq := equal_same hs
  refine wp_region_inv (by kernel_rfl) (W17F C E g q M bx D v0 v1 v2 v4 v5 v7 v9 v10 v11 v12 v13 v14 v15 v16 v17 v18 v19 v20 v21 v22 v23 v24 v25 v26 v27 v28 v29 v30 v31 v32 v33 v34 v35 v36 v37 v38 v39 v40 v41 v42 v43 v44 v45 v46 v47 v48 v49 v50 v51 v52 v53 v54 v55 v56 v57 v58 v59 v60 v61 v62 v63 v64 v65 v66 v67 v79 v80 v81 v82 v83 v84 v85 w) ?hacy ?h0 ?hstep ?hdone
  case hacy => kernel_rfl
  case h0 => exact ⟨wy0, wy1, wy2, wy3, wy4, wy5, wy6, wy7, wy8, wy9, wy10, rfl, below_drewN (Below.refl _ _) 1, (fun p => by cases p), (fun p => by cases p), (fun p => by cases p), (fun p => by cases p), (fun p => by cases p), (fun p => by cases p), (fun p => by cases p), (fun p => by cases p), (fun p => by cases p), (fun p => by cases p), (fun p => by cases p)⟩
  case hdone =>
    intro l a w1 hI hall
    obtain ⟨y0, y1, y2, y3, y4, y5, y6, y7, y8, y9, y10, rfl, hb, h0, h1, h2, h3, h4, h5, h6, h7, h8, h9, h10⟩ := hI
    obtain rfl := h10 (hall 10 (by decide))
    exact hQ _ _ _ _ _ _ _ _ _ _ _ hb
  case hstep =>
    intro l a w1 i o hI ho hl hall
    obtain ⟨y0, y1, y2, y3, y4, y5, y6, y7, y8, y9, y10, rfl, hb, h0, h1, h2, h3, h4, h5, h6, h7, h8, h9, h10⟩ := hI
    have hC1 := hC.below hb
    have hi : i < 11 := (Array.getElem?_eq_some_iff.1 ho).1
    match i, hi with
    | 0, _ =>
      have ho' := ho
      simp [ops17] at ho
      subst ho
      refine wpOp_one ho' rfl fun K hK => ?_
      obtain ⟨c0, c1, c2, c3⟩ := hC1.four
      go_simp
      exact hK _ _ ⟨_, y1, y2, y3, y4, y5, y6, y7, y8, y9, y10, rfl, hb, fun _ => rfl, h1, h2, h3, h4, h5, h6, h7, h8, h9, h10⟩
    | 1, _ =>
      have ho' := ho
      simp [ops17] at ho
      subst ho
      obtain rfl := h0 (hall ⟨0, .data⟩ (by simp) rfl)
      refine wpOp_one ho' rfl fun K hK => ?_
      go_simp
      go_at_call 18
      refine (empty_any C _).mono ?_
      rintro e w2 ⟨rfl, hb2⟩
      exact hK _ _ ⟨_, _, y2, y3, y4, y5, y6, y7, y8, y9, y10, rfl, (keep_below hb2 hb), fun _ => rfl, fun _ => by rw [he], h2, h3, h4, h5, h6, h7, h8, h9, h10⟩
    | 2, _ =>
      have ho' := ho
      simp [ops17] at ho
      subst ho
      obtain rfl := h1 (hall ⟨1, .data⟩ (by simp) rfl)
      refine wpOp_one ho' rfl fun K hK => ?_
      go_simp
      exact hK _ _ ⟨y0, _, _, y3, y4, y5, y6, y7, y8, y9, y10, rfl, hb, h0, fun _ => rfl, fun _ => rfl, h3, h4, h5, h6, h7, h8, h9, h10⟩
    | 3, _ =>
      have ho' := ho
      simp [ops17] at ho
      subst ho
      obtain rfl := h2 (hall ⟨2, .data⟩ (by simp) rfl)
      refine wpOp_one ho' rfl fun K hK => ?_
      go_simp
      exact hK _ _ ⟨y0, y1, _, _, y4, y5, y6, y7, y8, y9, y10, rfl, hb, h0, h1, fun _ => rfl, fun _ => rfl, h4, h5, h6, h7, h8, h9, h10⟩
    | 4, _ =>
      have ho' := ho
      simp [ops17] at ho
      subst ho
      obtain rfl := h3 (hall ⟨3, .guard⟩ (by simp) rfl)
      refine wpOp_on ho' rfl fun K hK => ?_
      obtain ⟨c0, c1, c2, c3⟩ := hC1.four
      go_simp
      exact hK _ _ ⟨y0, y1, y2, _, _, y5, y6, y7, y8, y9, y10, rfl, hb, h0, h1, h2, fun _ => rfl, fun _ => rfl, h5, h6, h7, h8, h9, h10⟩
    | 5, _ =>
      have ho' := ho
      simp [ops17] at ho
      subst ho
      obtain rfl := h3 (hall ⟨3, .guard⟩ (by simp) rfl)
      refine wpOp_on ho' rfl fun K hK => ?_
      go_simp
      exact hK _ _ ⟨y0, y1, y2, _, y4, _, y6, y7, y8, y9, y10, rfl, hb, h0, h1, h2, fun _ => rfl, h4, fun _ => rfl, h6, h7, h8, h9, h10⟩
    | 6, _ =>
      have ho' := ho
      simp [ops17] at ho
      subst ho
      obtain rfl := h3 (hall ⟨3, .guard⟩ (by simp) rfl)
      refine wpOp_on ho' rfl fun K hK => ?_
      go_simp
      exact hK _ _ ⟨y0, y1, y2, _, y4, y5, _, y7, y8, y9, y10, rfl, hb, h0, h1, h2, fun _ => rfl, h4, h5, fun _ => rfl, h7, h8, h9, h10⟩
    | 7, _ =>
      have ho' := ho
      simp [ops17] at ho
      subst ho
      obtain rfl := h5 (hall ⟨5, .data⟩ (by simp) rfl)
      obtain rfl := h6 (hall ⟨6, .data⟩ (by simp) rfl)
      obtain rfl := h3 (hall ⟨3, .guard⟩ (by simp) rfl)
      refine wpOp_on ho' rfl fun K hK => ?_
      go_simp
      exact hK _ _ ⟨y0, y1, y2, _, y4, _, _, _, y8, y9, y10, rfl, hb, h0, h1, h2, fun _ => rfl, h4, fun _ => rfl, fun _ => rfl, fun _ => by simp, h8, h9, h10⟩
    | 8, _ =>
      have ho' := ho
      simp [ops17] at ho
      subst ho
      obtain rfl := h7 (hall ⟨7, .data⟩ (by simp) rfl)
      obtain rfl := h3 (hall ⟨3, .guard⟩ (by simp) rfl)
      refine wpOp_on ho' rfl fun K hK => ?_
      have e0 : w1.cell? ⟨g, q * 4, none⟩ = some (.int .u64 (E 0 : Nat)) := keep_cell hb (hE 0 (by decide))
      have e1 := keep_cell hb (hE 1 (by decide))
      have e2 := keep_cell hb (hE 2 (by decide))
      have e3 := keep_cell hb (hE 3 (by decide))
      go_simp
      exact hK _ _ ⟨y0, y1, y2, _, y4, y5, y6, _, _, y9, y10, rfl, hb, h0, h1, h2, fun _ => rfl, h4, h5, h6, fun _ => rfl, fun _ => rfl, h9, h10⟩
    | 9, _ =>
      have ho' := ho
      simp [ops17] at ho
      subst ho
      obtain rfl := h4 (hall ⟨4, .data⟩ (by simp) rfl)
      obtain rfl := h8 (hall ⟨8, .data⟩ (by simp) rfl)
      obtain rfl := h3 (hall ⟨3, .guard⟩ (by simp) rfl)
      refine wpOp_on ho' rfl fun K hK => ?_
      go_simp
      try simp only [heq]
      try go_simp
      exact hK _ _ ⟨y0, y1, y2, _, _, y5, y6, y7, _, _, y10, rfl, hb, h0, h1, h2, fun _ => rfl, fun _ => rfl, h5, h6, h7, fun _ => rfl, fun _ => rfl, h10⟩
    | 10, _ =>
      have ho' := ho
      simp [ops17] at ho
      subst ho
      obtain rfl := h3 (hall ⟨3, .data⟩ (by simp) rfl)
      obtain rfl := h9 (hall ⟨9, .data⟩ (by simp) rfl)
      refine wpOp_one ho' rfl fun K hK => ?_
      go_simp
      exact hK _ _ ⟨y0, y1, y2, _, y4, y5, y6, y7, y8, _, _, rfl, hb, h0, h1, h2, fun _ => rfl, h4, h5, h6, h7, h8, fun _ => rfl, fun _ => rfl⟩
    | k + 11, hi => omega

end Go.Proofs.Ytbppofhjlgfbiaa
