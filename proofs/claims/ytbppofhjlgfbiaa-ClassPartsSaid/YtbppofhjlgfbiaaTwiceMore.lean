/- A region of the walk of ClassTwice: two classes more are appended to a list that the call made itself.
   Conditions: those that the theorem states. -/
import Derived.Test.YtbppofhjlgfbiaaWholeEq
import Derived.Test.YtbppofhjlgfbiaaTwiceFacts
import Derived.Deep.AppendLies
namespace Go.Proofs.Ytbppofhjlgfbiaa
open Go.RowKit
attribute [local go_sem ↓] Go.wp_at_zero Go.wp_at_succ
abbrev ops8 : Array Oper := #[{ dst := some 42, op := Op.move (Operand.tmp 5), type := 22, pos := "again.go:17", after := #[], guard := none },
  { dst := some 43, op := Op.move (Operand.tmp 0), type := 22, pos := "again.go:17", after := #[], guard := none },
  { dst := some 44, op := Op.indexAddr 22 (Operand.tmp 43) (Operand.const (Value.int IntKind.i64 0)), type := 0, pos := "again.go:17", after := #[{ on := 1, ground := Ground.data }], guard := none },
  { dst := some 45, op := Op.load 26 (Operand.tmp 44), type := 26, pos := "again.go:17", after := #[{ on := 2, ground := Ground.data }], guard := none },
  { dst := some 46, op := Op.call { callee := Callee.value (Operand.func 10), args := #[Operand.tmp 45], argTypes := #[26] }, type := 26, pos := "again.go:17", after := #[{ on := 3, ground := Ground.data }], guard := none },
  { dst := some 47, op := Op.move (Operand.tmp 0), type := 22, pos := "again.go:17", after := #[], guard := none },
  { dst := some 48, op := Op.indexAddr 22 (Operand.tmp 47) (Operand.const (Value.int IntKind.i64 0)), type := 0, pos := "again.go:17", after := #[{ on := 5, ground := Ground.data }], guard := none },
  { dst := some 49, op := Op.load 26 (Operand.tmp 48), type := 26, pos := "again.go:17", after := #[{ on := 6, ground := Ground.data }], guard := none },
  { dst := some 50, op := Op.buildSlice 22 2 #[(0, Operand.tmp 46), (1, Operand.tmp 49)], type := 22, pos := "again.go:17", after := #[{ on := 4, ground := Ground.data }, { on := 7, ground := Ground.data }], guard := none },
  { dst := some 51, op := Op.call { callee := Callee.builtin Builtin.append, args := #[Operand.tmp 42, Operand.tmp 50], argTypes := #[22, 22] }, type := 22, pos := "again.go:17", after := #[{ on := 0, ground := Ground.data }, { on := 8, ground := Ground.data }, { on := 4, ground := Ground.chain }], guard := none },
  { dst := some 5, op := Op.assign (Operand.tmp 51), type := 22, pos := "again.go:17", after := #[{ on := 9, ground := Ground.data }, { on := 9, ground := Ground.chain }, { on := 0, ground := Ground.phase }, { on := 1, ground := Ground.phase }, { on := 2, ground := Ground.phase }, { on := 3, ground := Ground.phase }, { on := 4, ground := Ground.phase }, { on := 5, ground := Ground.phase }, { on := 6, ground := Ground.phase }, { on := 7, ground := Ground.phase }, { on := 8, ground := Ground.phase }, { on := 9, ground := Ground.phase }], guard := none }]
theorem one_four (C : Nat → Nat) : ∀ u ∈ four C, u.oneCell' = true := by
  intro u hu
  simp [four] at hu
  rcases hu with rfl | rfl | rfl | rfl <;> rfl
theorem one_eight (C E : Nat → Nat) : ∀ u ∈ four C ++ four E, u.oneCell' = true := fun u hu => (List.mem_append.1 hu).elim (one_four C u) (one_four E u)
theorem keep_any {W w' : World} {a : Addr} {v : Value} (hb : Below W.heap.size W w') (h : W.cell? a = some v) : w'.cell? a = some v := (hb.cell (World.block_lt_of_cell? _ _ h)).trans h
theorem keep_from {W w w' : World} {B : Nat} (hb : Below W.heap.size W w') (h : Below B w W) (hB : B ≤ W.heap.size) : Below B w w' := h.trans (hb.mono hB)
theorem own_kept {W w' : World} {base : Nat} {e : TypeId} {size : Nat} {v : Value} {n : Nat} {xs : List Value} (h : W.ownsRow base e size v n xs) (hb : Below W.heap.size W w') : w'.ownsRow base e size v n xs :=
  h.kept (row := none) ⟨hb.os, hb.tape, hb.output, hb.size, fun k hk _ => hb.block k hk⟩ (by cases v.ownBlock <;> simp)

def W8 (C : Nat → Nat) (b off n cap : Nat) (D : List Deferred) (vv : Value) (xs : List Value) (v1 v2 v3 v4 v6 v7 v8 v9 v10 v11 v12 v13 v14 v15 v16 v17 v18 v19 v20 v21 v22 v23 v24 v25 v26 v27 v28 v29 v30 v31 v32 v33 v34 v35 v36 v37 v38 v39 v40 v41 v52 v53 v54 v55 v56 v57 v58 v59 v60 v61 v62 v63 v64 v65 v66 v67 v68 v69 v70 v71 v72 v73 v74 v75 : Value) (wb w0 : World) (l : Nat → Bool) (a : Act) (w : World) : Prop :=
  ∃ (y0 y1 y2 y3 y4 y5 y6 y7 y8 y9 y10 : Value) (c g cp : Nat), a = { tmps := #[.slice (some ⟨b, off, none⟩) n cap, v1, v2, v3, v4, y10, v6, v7, v8, v9, v10, v11, v12, v13, v14, v15, v16, v17, v18, v19, v20, v21, v22, v23, v24, v25, v26, v27, v28, v29, v30, v31, v32, v33, v34, v35, v36, v37, v38, v39, v40, v41, y0, y1, y2, y3, y4, y5, y6, y7, y8, y9, v52, v53, v54, v55, v56, v57, v58, v59, v60, v61, v62, v63, v64, v65, v66, v67, v68, v69, v70, v71, v72, v73, v74, v75], defers := D } ∧
    (l 0 = true → y0 = vv) ∧ (l 1 = true → y1 = .slice (some ⟨b, off, none⟩) n cap) ∧ (l 2 = true → y2 = .pointer (some ⟨b, off, none⟩)) ∧ (l 3 = true → y3 = .agg #[.int .u64 (C 0 : Nat), .int .u64 (C 1 : Nat), .int .u64 (C 2 : Nat), .int .u64 (C 3 : Nat)]) ∧ (l 4 = true → y4 = .agg #[.int .u64 (cNot C 0 : Nat), .int .u64 (cNot C 1 : Nat), .int .u64 (cNot C 2 : Nat), .int .u64 (cNot C 3 : Nat)]) ∧ (l 5 = true → y5 = .slice (some ⟨b, off, none⟩) n cap) ∧ (l 6 = true → y6 = .pointer (some ⟨b, off, none⟩)) ∧ (l 7 = true → y7 = .agg #[.int .u64 (C 0 : Nat), .int .u64 (C 1 : Nat), .int .u64 (C 2 : Nat), .int .u64 (C 3 : Nat)]) ∧
    (l 8 = true → y8 = .slice (some ⟨c, 0, none⟩) 2 2 ∧ (l 9 = false → ∀ j u, (four (cNot C) ++ four C)[j]? = some u → w.cell? ((⟨c, 0, none⟩ : Addr).add j) = some u)) ∧
    (l 9 = true → (l 4 = true ∧ l 8 = true) ∧ y9 = .slice (some ⟨g, 0, none⟩) (n + 2) cp ∧ w.ownsRow wb.heap.size 26 4 (.slice (some ⟨g, 0, none⟩) (n + 2) cp) (n + 2) (xs ++ (four (cNot C) ++ four C))) ∧
    (l 10 = true → l 0 = true ∧ l 9 = true ∧ y10 = y9) ∧ (l 10 = false → y10 = vv) ∧ Below wb.heap.size wb w ∧ (l 9 = false → Below w0.heap.size w0 w)
set_option maxHeartbeats 4000000 in
set_option maxRecDepth 100000 in
theorem reg8 (C : Nat → Nat) (b off n cap : Nat) (D : List Deferred) (vv : Value) (xs : List Value) (v1 v2 v3 v4 v6 v7 v8 v9 v10 v11 v12 v13 v14 v15 v16 v17 v18 v19 v20 v21 v22 v23 v24 v25 v26 v27 v28 v29 v30 v31 v32 v33 v34 v35 v36 v37 v38 v39 v40 v41 v52 v53 v54 v55 v56 v57 v58 v59 v60 v61 v62 v63 v64 v65 v66 v67 v68 v69 v70 v71 v72 v73 v74 v75 wy0 wy1 wy2 wy3 wy4 wy5 wy6 wy7 wy8 wy9 : Value) (wb w : World) (kC : Cl C)
    (hC : ∀ i, i < 4 → wb.cell? ⟨b, off + i, none⟩ = some (.int .u64 (C i : Nat))) (hblt : b < wb.heap.size) (hown : w.ownsRow wb.heap.size 26 4 vv n xs) (hbw : Below wb.heap.size wb w) (hn : 0 < n) (hn20 : n ≤ 20) (Q : Exit → Act → World → Prop)
    (hQ : ∀ (y0 y1 y2 y3 y4 y5 y6 y7 y8 y9 : Value) (g cp : Nat) (w' : World), w'.ownsRow wb.heap.size 26 4 (.slice (some ⟨g, 0, none⟩) (n + 2) cp) (n + 2) (xs ++ (four (cNot C) ++ four C)) → Below wb.heap.size wb w' → Q .normal { tmps := #[.slice (some ⟨b, off, none⟩) n cap, v1, v2, v3, v4, .slice (some ⟨g, 0, none⟩) (n + 2) cp, v6, v7, v8, v9, v10, v11, v12, v13, v14, v15, v16, v17, v18, v19, v20, v21, v22, v23, v24, v25, v26, v27, v28, v29, v30, v31, v32, v33, v34, v35, v36, v37, v38, v39, v40, v41, y0, y1, y2, y3, y4, y5, y6, y7, y8, y9, v52, v53, v54, v55, v56, v57, v58, v59, v60, v61, v62, v63, v64, v65, v66, v67, v68, v69, v70, v71, v72, v73, v74, v75], defers := D } w') :
    (Code.region 8 ops8 true).wp Try.prog Q { tmps := #[.slice (some ⟨b, off, none⟩) n cap, v1, v2, v3, v4, vv, v6, v7, v8, v9, v10, v11, v12, v13, v14, v15, v16, v17, v18, v19, v20, v21, v22, v23, v24, v25, v26, v27, v28, v29, v30, v31, v32, v33, v34, v35, v36, v37, v38, v39, v40, v41, wy0, wy1, wy2, wy3, wy4, wy5, wy6, wy7, wy8, wy9, v52, v53, v54, v55, v56, v57, v58, v59, v60, v61, v62, v63, v64, v65, v66, v67, v68, v69, v70, v71, v72, v73, v74, v75], defers := D } w := by
  have hn1 : (0 : Int) < (n : Int) := by omega
  obtain ⟨i0, hi, hz0, hz1, hz2⟩ := info_parts info26
  refine wp_region_inv (by kernel_rfl) (W8 C b off n cap D vv xs v1 v2 v3 v4 v6 v7 v8 v9 v10 v11 v12 v13 v14 v15 v16 v17 v18 v19 v20 v21 v22 v23 v24 v25 v26 v27 v28 v29 v30 v31 v32 v33 v34 v35 v36 v37 v38 v39 v40 v41 v52 v53 v54 v55 v56 v57 v58 v59 v60 v61 v62 v63 v64 v65 v66 v67 v68 v69 v70 v71 v72 v73 v74 v75 wb w) ?hacy ?h0 ?hstep ?hdone
  case hacy => kernel_rfl
  case h0 => exact ⟨wy0, wy1, wy2, wy3, wy4, wy5, wy6, wy7, wy8, wy9, vv, 0, 0, 0, rfl, (fun p => by cases p), (fun p => by cases p), (fun p => by cases p), (fun p => by cases p), (fun p => by cases p), (fun p => by cases p), (fun p => by cases p), (fun p => by cases p), (fun p => by cases p), (fun p => by cases p), (fun p => by cases p), (fun _ => rfl), below_drewN hbw 1, (fun _ => below_drewN (Below.refl _ _) 1)⟩
  case hdone =>
    intro l a w1 hI hall
    obtain ⟨y0, y1, y2, y3, y4, y5, y6, y7, y8, y9, y10, c, g, cp, rfl, h0, h1, h2, h3, h4, h5, h6, h7, h8, h9, h10, hz, hB, hW⟩ := hI
    obtain ⟨_, hy, ho⟩ := h9 (hall 9 (by decide))
    obtain ⟨_, _, hy2⟩ := h10 (hall 10 (by decide))
    subst hy2
    subst hy
    exact hQ _ _ _ _ _ _ _ _ _ _ _ _ _ ho hB
  case hstep =>
    intro l a w1 i o hI ho hl hall
    obtain ⟨y0, y1, y2, y3, y4, y5, y6, y7, y8, y9, y10, c, g, cp, rfl, h0, h1, h2, h3, h4, h5, h6, h7, h8, h9, h10, hz, hB, hW⟩ := hI
    have hi11 : i < 11 := (Array.getElem?_eq_some_iff.1 ho).1
    match i, hi11 with
    | 0, _ =>
      have ho' := ho
      simp [ops8] at ho
      subst ho
      have l10 : l 10 = false := by cases e : l 10 with
        | false => rfl
        | true => have := (h10 e).1; rw [hl] at this; cases this
      obtain rfl := hz l10
      refine wpOp_one ho' rfl fun K hK => ?_
      go_simp
      exact hK _ _ ⟨_, y1, y2, y3, y4, y5, y6, y7, y8, y9, _, c, g, cp, rfl, fun _ => (by first | rfl | simp), h1, h2, h3, h4, h5, h6, h7, h8, h9, fun p => ⟨rfl, (h10 p).2⟩, fun _ => rfl, hB, hW⟩
    | 1, _ =>
      have ho' := ho
      simp [ops8] at ho
      subst ho
      refine wpOp_one ho' rfl fun K hK => ?_
      go_simp
      exact hK _ _ ⟨y0, _, y2, y3, y4, y5, y6, y7, y8, y9, y10, c, g, cp, rfl, h0, fun _ => (by first | rfl | simp), h2, h3, h4, h5, h6, h7, h8, h9, h10, hz, hB, hW⟩
    | 2, _ =>
      have ho' := ho
      simp [ops8] at ho
      subst ho
      obtain rfl := h1 (hall ⟨1, .data⟩ (by simp) rfl)
      refine wpOp_one ho' rfl fun K hK => ?_
      go_simp
      exact hK _ _ ⟨y0, _, _, y3, y4, y5, y6, y7, y8, y9, y10, c, g, cp, rfl, h0, fun _ => rfl, fun _ => (by first | rfl | simp), h3, h4, h5, h6, h7, h8, h9, h10, hz, hB, hW⟩
    | 3, _ =>
      have ho' := ho
      simp [ops8] at ho
      subst ho
      obtain rfl := h2 (hall ⟨2, .data⟩ (by simp) rfl)
      refine wpOp_one ho' rfl fun K hK => ?_
      have c0 : w1.cell? ⟨b, off, none⟩ = some (.int .u64 (C 0 : Nat)) := (hB.cell (p := ⟨b, off, none⟩) hblt).trans (hC 0 (by decide))
      have c1 : w1.cell? ⟨b, off + 1, none⟩ = some (.int .u64 (C 1 : Nat)) := (hB.cell (p := ⟨b, off + 1, none⟩) hblt).trans (hC 1 (by decide))
      have c2 : w1.cell? ⟨b, off + 2, none⟩ = some (.int .u64 (C 2 : Nat)) := (hB.cell (p := ⟨b, off + 2, none⟩) hblt).trans (hC 2 (by decide))
      have c3 : w1.cell? ⟨b, off + 3, none⟩ = some (.int .u64 (C 3 : Nat)) := (hB.cell (p := ⟨b, off + 3, none⟩) hblt).trans (hC 3 (by decide))
      go_simp
      exact hK _ _ ⟨y0, y1, _, _, y4, y5, y6, y7, y8, y9, y10, c, g, cp, rfl, h0, h1, fun _ => rfl, fun _ => (by first | rfl | simp), h4, h5, h6, h7, h8, h9, h10, hz, hB, hW⟩
    | 4, _ =>
      have ho' := ho
      simp [ops8] at ho
      subst ho
      obtain rfl := h3 (hall ⟨3, .data⟩ (by simp) rfl)
      have l9 : l 9 = false := by cases e : l 9 with
        | false => rfl
        | true => have := (h9 e).1.1; rw [hl] at this; cases this
      refine wpOp_one ho' rfl fun K hK => ?_
      go_simp
      go_at_call 10
      refine (not_any C _ kC).mono ?_
      rintro e w2 ⟨rfl, hb2⟩
      exact hK _ _ ⟨y0, y1, y2, _, _, y5, y6, y7, y8, y9, y10, c, g, cp, rfl, h0, h1, h2, fun _ => rfl, fun _ => (by first | rfl | simp), h5, h6, h7, fun p => ⟨(h8 p).1, fun p9 j u hu => keep_any hb2 ((h8 p).2 p9 j u hu)⟩, fun p => (by rw [show upd l 4 9 = l 9 from rfl, l9] at p; cases p), h10, hz, (keep_from hb2 hB hB.size), fun p => keep_below hb2 (hW p)⟩
    | 5, _ =>
      have ho' := ho
      simp [ops8] at ho
      subst ho
      refine wpOp_one ho' rfl fun K hK => ?_
      go_simp
      exact hK _ _ ⟨y0, y1, y2, y3, y4, _, y6, y7, y8, y9, y10, c, g, cp, rfl, h0, h1, h2, h3, h4, fun _ => (by first | rfl | simp), h6, h7, h8, h9, h10, hz, hB, hW⟩
    | 6, _ =>
      have ho' := ho
      simp [ops8] at ho
      subst ho
      obtain rfl := h5 (hall ⟨5, .data⟩ (by simp) rfl)
      refine wpOp_one ho' rfl fun K hK => ?_
      go_simp
      exact hK _ _ ⟨y0, y1, y2, y3, y4, _, _, y7, y8, y9, y10, c, g, cp, rfl, h0, h1, h2, h3, h4, fun _ => rfl, fun _ => (by first | rfl | simp), h7, h8, h9, h10, hz, hB, hW⟩
    | 7, _ =>
      have ho' := ho
      simp [ops8] at ho
      subst ho
      obtain rfl := h6 (hall ⟨6, .data⟩ (by simp) rfl)
      refine wpOp_one ho' rfl fun K hK => ?_
      have c0 : w1.cell? ⟨b, off, none⟩ = some (.int .u64 (C 0 : Nat)) := (hB.cell (p := ⟨b, off, none⟩) hblt).trans (hC 0 (by decide))
      have c1 : w1.cell? ⟨b, off + 1, none⟩ = some (.int .u64 (C 1 : Nat)) := (hB.cell (p := ⟨b, off + 1, none⟩) hblt).trans (hC 1 (by decide))
      have c2 : w1.cell? ⟨b, off + 2, none⟩ = some (.int .u64 (C 2 : Nat)) := (hB.cell (p := ⟨b, off + 2, none⟩) hblt).trans (hC 2 (by decide))
      have c3 : w1.cell? ⟨b, off + 3, none⟩ = some (.int .u64 (C 3 : Nat)) := (hB.cell (p := ⟨b, off + 3, none⟩) hblt).trans (hC 3 (by decide))
      go_simp
      exact hK _ _ ⟨y0, y1, y2, y3, y4, y5, _, _, y8, y9, y10, c, g, cp, rfl, h0, h1, h2, h3, h4, h5, fun _ => rfl, fun _ => (by first | rfl | simp), h8, h9, h10, hz, hB, hW⟩
    | 8, _ =>
      have ho' := ho
      simp [ops8] at ho
      subst ho
      obtain rfl := h4 (hall ⟨4, .data⟩ (by simp) rfl)
      obtain rfl := h7 (hall ⟨7, .data⟩ (by simp) rfl)
      have l9 : l 9 = false := by cases e : l 9 with
        | false => rfl
        | true => have := (h9 e).1.2; rw [hl] at this; cases this
      refine wpOp_one ho' rfl fun K hK => ?_
      go_simp
      exact hK _ _ ⟨y0, y1, y2, y3, _, y5, y6, _, _, y9, y10, _, g, cp, rfl, h0, h1, h2, h3, fun _ => rfl, h5, h6, fun _ => rfl, fun _ => ⟨rfl, fun _ => World.news_of_block (heap_alloc_new w1 _)⟩, fun p => (by rw [show upd l 8 9 = l 9 from rfl, l9] at p; cases p), h10, hz, (hB.alloc hB.size _), fun p => (hW p).alloc (hW p).size _⟩
    | 9, _ =>
      have ho' := ho
      simp [ops8] at ho
      subst ho
      obtain rfl := h0 (hall ⟨0, .data⟩ (by simp) rfl)
      have l8 := hall ⟨8, .data⟩ (by simp) rfl
      have l4 := hall ⟨4, .chain⟩ (by simp) rfl
      obtain ⟨rfl, hnews⟩ := h8 l8
      have hbelow := hW hl
      have hown1 := own_kept hown hbelow
      refine wpOp_one ho' rfl fun K hK => ?_
      refine wp_append_lies w1 (.tmp 42) (.tmp 50) 22 (by rfl) wb.heap.size 26 i0 _ 4 32 Try.underlying22 hi hz0 hz1 hz2 rfl (by decide) y0 n xs (by rfl) hown1 ⟨c, 0, none⟩ 2 2 (four (cNot C) ++ four C) (by rfl) rfl (hnews hl) (one_eight _ _) (by decide) (by unfold maxLen; omega) (by omega) hB.size _ rfl ?_
      intro g2 cp2 w2 hown2 hgrow _ _
      have hB2 : Below wb.heap.size wb w2 := hB.grown hgrow hB.size (fun k hk => (hown1.lt k hk).1)
      exact hK _ _ ⟨_, y1, y2, y3, y4, y5, y6, y7, _, _, y10, c, g2, cp2, rfl, fun _ => rfl, h1, h2, h3, h4, h5, h6, h7, fun _ => ⟨rfl, fun p => (by cases p)⟩, fun _ => ⟨⟨l4, l8⟩, rfl, hown2⟩, fun p => (by have := (h10 p).2.1; rw [hl] at this; cases this), hz, hB2, fun p => (by cases p)⟩
    | 10, _ =>
      have ho' := ho
      simp [ops8] at ho
      subst ho
      have l9 := hall ⟨9, .data⟩ (by simp) rfl
      have l0 := hall ⟨0, .phase⟩ (by simp) rfl
      refine wpOp_one ho' rfl fun K hK => ?_
      have hfin := hK { tmps := #[.slice (some ⟨b, off, none⟩) n cap, v1, v2, v3, v4, y9, v6, v7, v8, v9, v10, v11, v12, v13, v14, v15, v16, v17, v18, v19, v20, v21, v22, v23, v24, v25, v26, v27, v28, v29, v30, v31, v32, v33, v34, v35, v36, v37, v38, v39, v40, v41, y0, y1, y2, y3, y4, y5, y6, y7, y8, y9, v52, v53, v54, v55, v56, v57, v58, v59, v60, v61, v62, v63, v64, v65, v66, v67, v68, v69, v70, v71, v72, v73, v74, v75], defers := D } w1 ⟨y0, y1, y2, y3, y4, y5, y6, y7, y8, y9, y9, c, g, cp, rfl, h0, h1, h2, h3, h4, h5, h6, h7, h8, h9, fun _ => ⟨l0, l9, rfl⟩, fun p => (by cases p), hB, hW⟩
      clear hK h0 h1 h2 h3 h4 h5 h6 h7 h8 h9 h10 hz hB hW l0 l9 hall hl
      go_simp
      exact hfin
    | k + 11, hi => omega

end Go.Proofs.Ytbppofhjlgfbiaa
