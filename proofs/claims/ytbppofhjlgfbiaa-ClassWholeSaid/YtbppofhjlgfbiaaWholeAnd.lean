/- A region of the walk of ClassWhole: a class and a part put together in a cell of its own.
   Conditions: those that the theorem states. -/
import Derived.Test.YtbppofhjlgfbiaaWholeEq
namespace Go.Proofs.Ytbppofhjlgfbiaa
open Go.RowKit
attribute [local go_sem ↓] Go.wp_at_zero Go.wp_at_succ
abbrev ops16 : Array Oper := #[{ dst := some 59, op := Op.move (Operand.tmp 0), type := 22, pos := "law.go:80", after := #[], guard := none },
  { dst := some 60, op := Op.move (Operand.tmp 7), type := 3, pos := "law.go:80", after := #[], guard := none },
  { dst := some 61, op := Op.indexAddr 22 (Operand.tmp 59) (Operand.tmp 60), type := 0, pos := "law.go:80", after := #[{ on := 0, ground := Ground.data }, { on := 1, ground := Ground.data }], guard := none },
  { dst := some 62, op := Op.load 26 (Operand.tmp 61), type := 26, pos := "law.go:80", after := #[{ on := 2, ground := Ground.data }], guard := none },
  { dst := some 63, op := Op.move (Operand.tmp 3), type := 22, pos := "law.go:80", after := #[], guard := none },
  { dst := some 64, op := Op.move (Operand.tmp 6), type := 3, pos := "law.go:80", after := #[], guard := none },
  { dst := some 65, op := Op.indexAddr 22 (Operand.tmp 63) (Operand.tmp 64), type := 0, pos := "law.go:80", after := #[{ on := 4, ground := Ground.data }, { on := 5, ground := Ground.data }], guard := none },
  { dst := some 66, op := Op.load 26 (Operand.tmp 65), type := 26, pos := "law.go:80", after := #[{ on := 6, ground := Ground.data }], guard := none },
  { dst := some 67, op := Op.call { callee := Callee.value (Operand.func 12), args := #[Operand.tmp 62, Operand.tmp 66], argTypes := #[26, 26] }, type := 26, pos := "law.go:80", after := #[{ on := 3, ground := Ground.data }, { on := 7, ground := Ground.data }], guard := none },
  { dst := some 8, op := Op.alloc 26, type := 0, pos := "law.go:80", after := #[], guard := none },
  { dst := none, op := Op.store 26 (Operand.tmp 8) (Operand.tmp 67), type := 0, pos := "law.go:80", after := #[{ on := 9, ground := Ground.data }, { on := 8, ground := Ground.data }, { on := 8, ground := Ground.chain }, { on := 0, ground := Ground.phase }, { on := 1, ground := Ground.phase }, { on := 2, ground := Ground.phase }, { on := 3, ground := Ground.phase }, { on := 4, ground := Ground.phase }, { on := 5, ground := Ground.phase }, { on := 6, ground := Ground.phase }, { on := 7, ground := Ground.phase }, { on := 8, ground := Ground.phase }, { on := 9, ground := Ground.phase }], guard := none }]

def W16 (C E : Nat → Nat) (b off n cap g q M j : Nat) (D : List Deferred) (v1 v2 v4 v5 v9 v10 v11 v12 v13 v14 v15 v16 v17 v18 v19 v20 v21 v22 v23 v24 v25 v26 v27 v28 v29 v30 v31 v32 v33 v34 v35 v36 v37 v38 v39 v40 v41 v42 v43 v44 v45 v46 v47 v48 v49 v50 v51 v52 v53 v54 v55 v56 v57 v58 v68 v69 v70 v71 v72 v73 v74 v75 v76 v77 v78 v79 v80 v81 v82 v83 v84 v85 : Value) (w0 : World) (l : Nat → Bool) (a : Act) (w : World) : Prop :=
  ∃ (y0 y1 y2 y3 y4 y5 y6 y7 y8 y9 : Value) (bx : Nat), a = { tmps := #[.slice (some ⟨b, off, none⟩) n cap, v1, v2, .slice (some ⟨g, 0, none⟩) M M, v4, v5, .int .i64 (q : Nat), .int .i64 (j : Nat), y9, v9, v10, v11, v12, v13, v14, v15, v16, v17, v18, v19, v20, v21, v22, v23, v24, v25, v26, v27, v28, v29, v30, v31, v32, v33, v34, v35, v36, v37, v38, v39, v40, v41, v42, v43, v44, v45, v46, v47, v48, v49, v50, v51, v52, v53, v54, v55, v56, v57, v58, y0, y1, y2, y3, y4, y5, y6, y7, y8, v68, v69, v70, v71, v72, v73, v74, v75, v76, v77, v78, v79, v80, v81, v82, v83, v84, v85], defers := D } ∧ Below w0.heap.size w0 w ∧
    (l 0 = true → y0 = .slice (some ⟨b, off, none⟩) n cap) ∧ (l 1 = true → y1 = .int .i64 (j : Nat)) ∧ (l 2 = true → y2 = .pointer (some ⟨b, off + j * 4, none⟩)) ∧ (l 3 = true → y3 = .agg #[.int .u64 (C 0 : Nat), .int .u64 (C 1 : Nat), .int .u64 (C 2 : Nat), .int .u64 (C 3 : Nat)]) ∧ (l 4 = true → y4 = .slice (some ⟨g, 0, none⟩) M M) ∧ (l 5 = true → y5 = .int .i64 (q : Nat)) ∧ (l 6 = true → y6 = .pointer (some ⟨g, q * 4, none⟩)) ∧ (l 7 = true → y7 = .agg #[.int .u64 (E 0 : Nat), .int .u64 (E 1 : Nat), .int .u64 (E 2 : Nat), .int .u64 (E 3 : Nat)]) ∧ (l 8 = true → y8 = .agg #[.int .u64 (cAnd C E 0 : Nat), .int .u64 (cAnd C E 1 : Nat), .int .u64 (cAnd C E 2 : Nat), .int .u64 (cAnd C E 3 : Nat)]) ∧
    (l 9 = true → y9 = .pointer (some ⟨bx, 0, none⟩) ∧ w0.heap.size ≤ bx ∧ (∃ X, Cells w bx X) ∧ Free w bx) ∧ (l 10 = true → l 9 = true ∧ Cells w bx (cAnd C E))
set_option maxHeartbeats 4000000 in
set_option maxRecDepth 100000 in
theorem reg16 (C E : Nat → Nat) (b off n cap g q M j : Nat) (D : List Deferred) (v1 v2 v4 v5 v9 v10 v11 v12 v13 v14 v15 v16 v17 v18 v19 v20 v21 v22 v23 v24 v25 v26 v27 v28 v29 v30 v31 v32 v33 v34 v35 v36 v37 v38 v39 v40 v41 v42 v43 v44 v45 v46 v47 v48 v49 v50 v51 v52 v53 v54 v55 v56 v57 v58 v68 v69 v70 v71 v72 v73 v74 v75 v76 v77 v78 v79 v80 v81 v82 v83 v84 v85 wy0 wy1 wy2 wy3 wy4 wy5 wy6 wy7 wy8 wy9 : Value) (w : World) (kC : Cl C) (kE : Cl E)
    (hC : ∀ i, i < 4 → w.cell? ⟨b, off + j * 4 + i, none⟩ = some (.int .u64 (C i : Nat))) (hE : ∀ i, i < 4 → w.cell? ⟨g, q * 4 + i, none⟩ = some (.int .u64 (E i : Nat))) (hj : j < n) (hq : q < M) (Q : Exit → Act → World → Prop)
    (hQ : ∀ (y0 y1 y2 y3 y4 y5 y6 y7 y8 : Value) (bx : Nat) (w' : World), Below w.heap.size w w' → Cells w' bx (cAnd C E) → Q .normal { tmps := #[.slice (some ⟨b, off, none⟩) n cap, v1, v2, .slice (some ⟨g, 0, none⟩) M M, v4, v5, .int .i64 (q : Nat), .int .i64 (j : Nat), .pointer (some ⟨bx, 0, none⟩), v9, v10, v11, v12, v13, v14, v15, v16, v17, v18, v19, v20, v21, v22, v23, v24, v25, v26, v27, v28, v29, v30, v31, v32, v33, v34, v35, v36, v37, v38, v39, v40, v41, v42, v43, v44, v45, v46, v47, v48, v49, v50, v51, v52, v53, v54, v55, v56, v57, v58, y0, y1, y2, y3, y4, y5, y6, y7, y8, v68, v69, v70, v71, v72, v73, v74, v75, v76, v77, v78, v79, v80, v81, v82, v83, v84, v85], defers := D } w') :
    (Code.region 16 ops16 true).wp Try.prog Q { tmps := #[.slice (some ⟨b, off, none⟩) n cap, v1, v2, .slice (some ⟨g, 0, none⟩) M M, v4, v5, .int .i64 (q : Nat), .int .i64 (j : Nat), wy9, v9, v10, v11, v12, v13, v14, v15, v16, v17, v18, v19, v20, v21, v22, v23, v24, v25, v26, v27, v28, v29, v30, v31, v32, v33, v34, v35, v36, v37, v38, v39, v40, v41, v42, v43, v44, v45, v46, v47, v48, v49, v50, v51, v52, v53, v54, v55, v56, v57, v58, wy0, wy1, wy2, wy3, wy4, wy5, wy6, wy7, wy8, v68, v69, v70, v71, v72, v73, v74, v75, v76, v77, v78, v79, v80, v81, v82, v83, v84, v85], defers := D } w := by
  have hq1 : (q : Int) < (M : Int) := by omega
  have hq0 : (0 : Int) ≤ (q : Int) := by omega
  have hj1 : (j : Int) < (n : Int) := by omega
  have hj0 : (0 : Int) ≤ (j : Int) := by omega
  refine wp_region_inv (by kernel_rfl) (W16 C E b off n cap g q M j D v1 v2 v4 v5 v9 v10 v11 v12 v13 v14 v15 v16 v17 v18 v19 v20 v21 v22 v23 v24 v25 v26 v27 v28 v29 v30 v31 v32 v33 v34 v35 v36 v37 v38 v39 v40 v41 v42 v43 v44 v45 v46 v47 v48 v49 v50 v51 v52 v53 v54 v55 v56 v57 v58 v68 v69 v70 v71 v72 v73 v74 v75 v76 v77 v78 v79 v80 v81 v82 v83 v84 v85 w) ?hacy ?h0 ?hstep ?hdone
  case hacy => kernel_rfl
  case h0 => exact ⟨wy0, wy1, wy2, wy3, wy4, wy5, wy6, wy7, wy8, wy9, 0, rfl, below_drewN (Below.refl _ _) 1, (fun p => by cases p), (fun p => by cases p), (fun p => by cases p), (fun p => by cases p), (fun p => by cases p), (fun p => by cases p), (fun p => by cases p), (fun p => by cases p), (fun p => by cases p), (fun p => by cases p), (fun p => by cases p)⟩
  case hdone =>
    intro l a w1 hI hall
    obtain ⟨y0, y1, y2, y3, y4, y5, y6, y7, y8, y9, bx, rfl, hb, h0, h1, h2, h3, h4, h5, h6, h7, h8, h9, h10⟩ := hI
    obtain ⟨rfl, _⟩ := h9 (hall 9 (by decide))
    exact hQ _ _ _ _ _ _ _ _ _ _ _ hb (h10 (hall 10 (by decide))).2
  case hstep =>
    intro l a w1 i o hI ho hl hall
    obtain ⟨y0, y1, y2, y3, y4, y5, y6, y7, y8, y9, bx, rfl, hb, h0, h1, h2, h3, h4, h5, h6, h7, h8, h9, h10⟩ := hI
    have hi : i < 11 := (Array.getElem?_eq_some_iff.1 ho).1
    match i, hi with
    | 0, _ =>
      have ho' := ho
      simp [ops16] at ho
      subst ho
      refine wpOp_one ho' rfl fun K hK => ?_
      go_simp
      exact hK _ _ ⟨_, y1, y2, y3, y4, y5, y6, y7, y8, y9, bx, rfl, hb, fun _ => rfl, h1, h2, h3, h4, h5, h6, h7, h8, h9, h10⟩
    | 1, _ =>
      have ho' := ho
      simp [ops16] at ho
      subst ho
      refine wpOp_one ho' rfl fun K hK => ?_
      go_simp
      exact hK _ _ ⟨y0, _, y2, y3, y4, y5, y6, y7, y8, y9, bx, rfl, hb, h0, fun _ => rfl, h2, h3, h4, h5, h6, h7, h8, h9, h10⟩
    | 2, _ =>
      have ho' := ho
      simp [ops16] at ho
      subst ho
      obtain rfl := h0 (hall ⟨0, .data⟩ (by simp) rfl)
      obtain rfl := h1 (hall ⟨1, .data⟩ (by simp) rfl)
      refine wpOp_one ho' rfl fun K hK => ?_
      go_simp
      exact hK _ _ ⟨_, _, _, y3, y4, y5, y6, y7, y8, y9, bx, rfl, hb, fun _ => rfl, fun _ => rfl, fun _ => by simp, h3, h4, h5, h6, h7, h8, h9, h10⟩
    | 3, _ =>
      have ho' := ho
      simp [ops16] at ho
      subst ho
      obtain rfl := h2 (hall ⟨2, .data⟩ (by simp) rfl)
      refine wpOp_one ho' rfl fun K hK => ?_
      have c0 : w1.cell? ⟨b, off + j * 4, none⟩ = some (.int .u64 (C 0 : Nat)) := keep_cell hb (hC 0 (by decide))
      have c1 := keep_cell hb (hC 1 (by decide))
      have c2 := keep_cell hb (hC 2 (by decide))
      have c3 := keep_cell hb (hC 3 (by decide))
      go_simp
      exact hK _ _ ⟨y0, y1, _, _, y4, y5, y6, y7, y8, y9, bx, rfl, hb, h0, h1, fun _ => rfl, fun _ => rfl, h4, h5, h6, h7, h8, h9, h10⟩
    | 4, _ =>
      have ho' := ho
      simp [ops16] at ho
      subst ho
      refine wpOp_one ho' rfl fun K hK => ?_
      go_simp
      exact hK _ _ ⟨y0, y1, y2, y3, _, y5, y6, y7, y8, y9, bx, rfl, hb, h0, h1, h2, h3, fun _ => rfl, h5, h6, h7, h8, h9, h10⟩
    | 5, _ =>
      have ho' := ho
      simp [ops16] at ho
      subst ho
      refine wpOp_one ho' rfl fun K hK => ?_
      go_simp
      exact hK _ _ ⟨y0, y1, y2, y3, y4, _, y6, y7, y8, y9, bx, rfl, hb, h0, h1, h2, h3, h4, fun _ => rfl, h6, h7, h8, h9, h10⟩
    | 6, _ =>
      have ho' := ho
      simp [ops16] at ho
      subst ho
      obtain rfl := h4 (hall ⟨4, .data⟩ (by simp) rfl)
      obtain rfl := h5 (hall ⟨5, .data⟩ (by simp) rfl)
      refine wpOp_one ho' rfl fun K hK => ?_
      go_simp
      exact hK _ _ ⟨y0, y1, y2, y3, _, _, _, y7, y8, y9, bx, rfl, hb, h0, h1, h2, h3, fun _ => rfl, fun _ => rfl, fun _ => by simp, h7, h8, h9, h10⟩
    | 7, _ =>
      have ho' := ho
      simp [ops16] at ho
      subst ho
      obtain rfl := h6 (hall ⟨6, .data⟩ (by simp) rfl)
      refine wpOp_one ho' rfl fun K hK => ?_
      have e0 : w1.cell? ⟨g, q * 4, none⟩ = some (.int .u64 (E 0 : Nat)) := keep_cell hb (hE 0 (by decide))
      have e1 := keep_cell hb (hE 1 (by decide))
      have e2 := keep_cell hb (hE 2 (by decide))
      have e3 := keep_cell hb (hE 3 (by decide))
      go_simp
      exact hK _ _ ⟨y0, y1, y2, y3, y4, y5, _, _, y8, y9, bx, rfl, hb, h0, h1, h2, h3, h4, h5, fun _ => rfl, fun _ => rfl, h8, h9, h10⟩
    | 8, _ =>
      have ho' := ho
      simp [ops16] at ho
      subst ho
      obtain rfl := h3 (hall ⟨3, .data⟩ (by simp) rfl)
      obtain rfl := h7 (hall ⟨7, .data⟩ (by simp) rfl)
      refine wpOp_one ho' rfl fun K hK => ?_
      go_simp
      go_at_call 12
      refine (and_any C E _ kC kE).mono ?_
      rintro e w2 ⟨rfl, hb2⟩
      exact hK _ _ ⟨y0, y1, y2, _, y4, y5, y6, _, _, y9, bx, rfl, (keep_below hb2 hb), h0, h1, h2, fun _ => rfl, h4, h5, h6, fun _ => rfl, fun _ => rfl, fun p => ⟨(h9 p).1, (h9 p).2.1, ((h9 p).2.2.1).imp (fun _ z => z.below hb2), by obtain ⟨_, _, ⟨X, hX⟩, hF⟩ := h9 p; exact hF.below hX.lt hb2⟩, fun p => ⟨(h10 p).1, (h10 p).2.below hb2⟩⟩
    | 9, _ =>
      have ho' := ho
      simp [ops16] at ho
      subst ho
      refine wpOp_one ho' rfl fun K hK => ?_
      go_simp
      exact hK _ _ ⟨y0, y1, y2, y3, y4, y5, y6, y7, y8, _, _, rfl, (hb.alloc hb.size _), h0, h1, h2, h3, h4, h5, h6, h7, h8, fun _ => ⟨rfl, hb.size, ⟨_, cells_zero w1⟩, free_zero w1⟩, fun p => by have := (h10 p).1; rw [hl] at this; cases this⟩
    | 10, _ =>
      have ho' := ho
      simp [ops16] at ho
      subst ho
      obtain rfl := h8 (hall ⟨8, .data⟩ (by simp) rfl)
      have l9 := hall ⟨9, .data⟩ (by simp) rfl
      obtain ⟨rfl, hbx, ⟨X, hX⟩, hF⟩ := h9 l9
      obtain ⟨d0, d1, d2, d3⟩ := hX.four
      have f0 := hF 0 (by decide)
      have f1 := hF 1 (by decide)
      have f2 := hF 2 (by decide)
      have f3 := hF 3 (by decide)
      refine wpOp_one ho' rfl fun K hK => ?_
      go_simp
      exact hK _ _ ⟨y0, y1, y2, y3, y4, y5, y6, y7, _, _, bx, rfl, (store4_below (C := cAnd C E) hb hbx), h0, h1, h2, h3, h4, h5, h6, h7, fun _ => rfl, fun _ => ⟨rfl, hbx, ⟨_, store4_same (C := cAnd C E) hX⟩, store4_free hF⟩, fun _ => ⟨l9, store4_same (C := cAnd C E) hX⟩⟩
    | k + 11, hi => omega

end Go.Proofs.Ytbppofhjlgfbiaa
