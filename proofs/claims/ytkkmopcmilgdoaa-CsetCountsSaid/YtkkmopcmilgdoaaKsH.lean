/- Two drawn regions of the walk of CsetCounts: the one count is held against what is asked.
   Conditions: the cells that they load lie in memory; Done's contract. -/
import Derived.Test.YtkkmopcmilgdoaaOrdX
import Derived.Test.YtkkmopcmilgdoaaRows
import Derived.WalkKit
import Derived.KernelRfl
namespace Go.Proofs.Ytkkmopcmilgdoaa
open Go.RowKit
abbrev opsregKs13 : Array Oper := #[{ dst := some 38, op := Op.move (Operand.tmp 9), type := 32, pos := "again.go:22", after := #[], guard := none },
  { dst := some 39, op := Op.call { callee := Callee.builtin Builtin.len, args := #[Operand.tmp 38], argTypes := #[32] }, type := 3, pos := "again.go:22", after := #[{ on := 0, ground := Ground.data }], guard := none },
  { dst := some 40, op := Op.binOp BinOp.eql 3 (Operand.tmp 39) (Operand.const (Value.int IntKind.i64 1)) 3, type := 4, pos := "again.go:22", after := #[{ on := 1, ground := Ground.data }], guard := none },
  { dst := some 41, op := Op.move (Operand.tmp 40), type := 4, pos := "again.go:22", after := #[{ on := 2, ground := Ground.data }], guard := none },
  { dst := some 42, op := Op.move (Operand.tmp 9), type := 32, pos := "again.go:22", after := #[{ on := 3, ground := Ground.guard }], guard := some (3, true) },
  { dst := some 43, op := Op.indexAddr 32 (Operand.tmp 42) (Operand.const (Value.int IntKind.i64 0)), type := 0, pos := "again.go:22", after := #[{ on := 4, ground := Ground.data }, { on := 3, ground := Ground.guard }], guard := some (3, true) },
  { dst := some 44, op := Op.load 2 (Operand.tmp 43), type := 2, pos := "again.go:22", after := #[{ on := 5, ground := Ground.data }, { on := 3, ground := Ground.guard }], guard := some (3, true) },
  { dst := some 45, op := Op.move (Operand.tmp 7), type := 2, pos := "again.go:22", after := #[{ on := 3, ground := Ground.guard }], guard := some (3, true) },
  { dst := some 46, op := Op.binOp BinOp.add 2 (Operand.tmp 45) (Operand.const (Value.int IntKind.i64 1)) 2, type := 2, pos := "again.go:22", after := #[{ on := 7, ground := Ground.data }, { on := 3, ground := Ground.guard }], guard := some (3, true) },
  { dst := some 47, op := Op.fieldAddr 28 (Operand.tmp 5) 0, type := 0, pos := "again.go:22", after := #[{ on := 3, ground := Ground.guard }], guard := some (3, true) },
  { dst := some 48, op := Op.load 2 (Operand.tmp 47), type := 2, pos := "again.go:22", after := #[{ on := 9, ground := Ground.data }, { on := 3, ground := Ground.guard }], guard := some (3, true) },
  { dst := some 49, op := Op.call { callee := Callee.builtin Builtin.min, args := #[Operand.tmp 46, Operand.tmp 48], argTypes := #[2, 2] }, type := 2, pos := "again.go:22", after := #[{ on := 8, ground := Ground.data }, { on := 10, ground := Ground.data }, { on := 3, ground := Ground.guard }], guard := some (3, true) },
  { dst := some 50, op := Op.binOp BinOp.eql 2 (Operand.tmp 44) (Operand.tmp 49) 2, type := 4, pos := "again.go:22", after := #[{ on := 6, ground := Ground.data }, { on := 11, ground := Ground.data }, { on := 3, ground := Ground.guard }], guard := some (3, true) },
  { dst := some 51, op := Op.pick (Operand.tmp 41) (Operand.tmp 50) (Operand.const (Value.bool false)), type := 4, pos := "again.go:22", after := #[{ on := 3, ground := Ground.data }, { on := 12, ground := Ground.data }], guard := none },
  { dst := some 52, op := Op.move (Operand.tmp 51), type := 4, pos := "again.go:22", after := #[{ on := 13, ground := Ground.data }, { on := 3, ground := Ground.chain }], guard := none },
  { dst := some 53, op := Op.move (Operand.tmp 6), type := 30, pos := "again.go:22", after := #[{ on := 14, ground := Ground.guard }], guard := some (14, true) },
  { dst := some 54, op := Op.call { callee := Callee.value (Operand.func 14), args := #[Operand.tmp 53], argTypes := #[30] }, type := 4, pos := "again.go:22", after := #[{ on := 15, ground := Ground.data }, { on := 14, ground := Ground.chain }, { on := 14, ground := Ground.guard }], guard := some (14, true) },
  { dst := some 55, op := Op.move (Operand.tmp 7), type := 2, pos := "again.go:22", after := #[{ on := 14, ground := Ground.guard }], guard := some (14, true) },
  { dst := some 56, op := Op.binOp BinOp.add 2 (Operand.tmp 55) (Operand.const (Value.int IntKind.i64 1)) 2, type := 2, pos := "again.go:22", after := #[{ on := 17, ground := Ground.data }, { on := 14, ground := Ground.guard }], guard := some (14, true) },
  { dst := some 57, op := Op.fieldAddr 28 (Operand.tmp 5) 0, type := 0, pos := "again.go:22", after := #[{ on := 14, ground := Ground.guard }], guard := some (14, true) },
  { dst := some 58, op := Op.load 2 (Operand.tmp 57), type := 2, pos := "again.go:22", after := #[{ on := 19, ground := Ground.data }, { on := 14, ground := Ground.guard }], guard := some (14, true) },
  { dst := some 59, op := Op.binOp BinOp.geq 2 (Operand.tmp 56) (Operand.tmp 58) 2, type := 4, pos := "again.go:22", after := #[{ on := 18, ground := Ground.data }, { on := 20, ground := Ground.data }, { on := 14, ground := Ground.guard }], guard := some (14, true) },
  { dst := some 60, op := Op.binOp BinOp.eql 4 (Operand.tmp 54) (Operand.tmp 59) 4, type := 4, pos := "again.go:22", after := #[{ on := 16, ground := Ground.data }, { on := 21, ground := Ground.data }, { on := 14, ground := Ground.guard }], guard := some (14, true) },
  { dst := some 61, op := Op.pick (Operand.tmp 52) (Operand.tmp 60) (Operand.const (Value.bool false)), type := 4, pos := "again.go:22", after := #[{ on := 14, ground := Ground.data }, { on := 22, ground := Ground.data }], guard := none },
  { dst := some 4, op := Op.assign (Operand.tmp 61), type := 4, pos := "again.go:22", after := #[{ on := 23, ground := Ground.data }, { on := 16, ground := Ground.chain }, { on := 0, ground := Ground.phase }, { on := 1, ground := Ground.phase }, { on := 2, ground := Ground.phase }, { on := 3, ground := Ground.phase }, { on := 4, ground := Ground.phase }, { on := 5, ground := Ground.phase }, { on := 6, ground := Ground.phase }, { on := 7, ground := Ground.phase }, { on := 8, ground := Ground.phase }, { on := 9, ground := Ground.phase }, { on := 10, ground := Ground.phase }, { on := 11, ground := Ground.phase }, { on := 12, ground := Ground.phase }, { on := 13, ground := Ground.phase }, { on := 14, ground := Ground.phase }, { on := 15, ground := Ground.phase }, { on := 16, ground := Ground.phase }, { on := 17, ground := Ground.phase }, { on := 18, ground := Ground.phase }, { on := 19, ground := Ground.phase }, { on := 20, ground := Ground.phase }, { on := 21, ground := Ground.phase }, { on := 22, ground := Ground.phase }, { on := 23, ground := Ground.phase }], guard := none }]
def WregKs13 (sb cb gb c : Nat) (j lo m : Int) (dn : Bool) (D : List Deferred) (v0 v1 v2 v3 v8 v10 v11 v12 v13 v14 v15 v16 v17 v18 v19 v20 v21 v22 v23 v24 v25 v26 v27 v28 v29 v30 v31 v32 v33 v34 v35 v36 v37 v62 v63 v64 v65 v66 v67 v68 v69 v70 v71 v72 v73 v74 v75 v76 v77 v78 v79 v80 v81 v82 v83 v84 v85 v86 v87 v88 v89 v90 v91 v92 v93 v94 v95 v96 v97 v98 v99 v100 : Value) (w0 : World) (l : Nat → Bool) (a : Act) (w : World) : Prop :=
  ∃ (y0 y1 y2 y3 y4 y5 y6 y7 y8 y9 y10 y11 y12 y13 y14 y15 y16 y17 y18 y19 y20 y21 y22 y23 y24 : Value), a = { tmps := #[v0, v1, v2, v3, y24, .pointer (some ⟨sb, 0, none⟩), .pointer (some ⟨cb, 0, none⟩), .int .i64 j, v8, .slice (some ⟨gb, 0, none⟩) 1 c, v10, v11, v12, v13, v14, v15, v16, v17, v18, v19, v20, v21, v22, v23, v24, v25, v26, v27, v28, v29, v30, v31, v32, v33, v34, v35, v36, v37, y0, y1, y2, y3, y4, y5, y6, y7, y8, y9, y10, y11, y12, y13, y14, y15, y16, y17, y18, y19, y20, y21, y22, y23, v62, v63, v64, v65, v66, v67, v68, v69, v70, v71, v72, v73, v74, v75, v76, v77, v78, v79, v80, v81, v82, v83, v84, v85, v86, v87, v88, v89, v90, v91, v92, v93, v94, v95, v96, v97, v98, v99, v100], defers := D } ∧ Below w0.heap.size w0 w ∧
    (l 0 = true → y0 = .slice (some ⟨gb, 0, none⟩) 1 c) ∧ (l 1 = true → y1 = .int .i64 1) ∧ (l 2 = true → y2 = .bool true) ∧ (l 3 = true → y3 = .bool true) ∧ (l 4 = true → y4 = .slice (some ⟨gb, 0, none⟩) 1 c) ∧ (l 5 = true → y5 = .pointer (some ⟨gb, 0, none⟩)) ∧ (l 6 = true → y6 = .int .i64 m) ∧ (l 7 = true → y7 = .int .i64 j) ∧ (l 8 = true → y8 = .int .i64 (j + 1)) ∧ (l 9 = true → y9 = .pointer (some ⟨sb, 0, none⟩)) ∧ (l 10 = true → y10 = .int .i64 lo) ∧ (l 11 = true → y11 = .int .i64 (if lo < j + 1 then lo else j + 1)) ∧ (l 12 = true → y12 = .bool true) ∧ (l 13 = true → y13 = .bool true) ∧ (l 14 = true → y14 = .bool true) ∧ (l 15 = true → y15 = .pointer (some ⟨cb, 0, none⟩)) ∧ (l 16 = true → y16 = .bool dn) ∧ (l 17 = true → y17 = .int .i64 j) ∧ (l 18 = true → y18 = .int .i64 (j + 1)) ∧ (l 19 = true → y19 = .pointer (some ⟨sb, 0, none⟩)) ∧ (l 20 = true → y20 = .int .i64 lo) ∧ (l 21 = true → y21 = .bool (decide (lo ≤ j + 1))) ∧ (l 22 = true → y22 = .bool true) ∧ (l 23 = true → y23 = .bool true) ∧ (l 24 = true → y24 = .bool true)
set_option maxHeartbeats 8000000 in
set_option maxRecDepth 100000 in
theorem regKs13 (sb cb gb c : Nat) (j lo m : Int) (dn : Bool) (D : List Deferred) (v0 v1 v2 v3 v8 v10 v11 v12 v13 v14 v15 v16 v17 v18 v19 v20 v21 v22 v23 v24 v25 v26 v27 v28 v29 v30 v31 v32 v33 v34 v35 v36 v37 v62 v63 v64 v65 v66 v67 v68 v69 v70 v71 v72 v73 v74 v75 v76 v77 v78 v79 v80 v81 v82 v83 v84 v85 v86 v87 v88 v89 v90 v91 v92 v93 v94 v95 v96 v97 v98 v99 v100 wy0 wy1 wy2 wy3 wy4 wy5 wy6 wy7 wy8 wy9 wy10 wy11 wy12 wy13 wy14 wy15 wy16 wy17 wy18 wy19 wy20 wy21 wy22 wy23 wy24 : Value) (w : World) (hlc : (∀ w', Below w.heap.size w w' → w'.cell? ⟨gb, 0, none⟩ = some (.int .i64 m))) (hs : (∀ w', Below w.heap.size w w' → w'.cell? ⟨sb, 0, none⟩ = some (.int .i64 lo))) (hc : ∀ w', Below w.heap.size w w' → Calls Try.prog 14 #[.pointer (some ⟨cb, 0, none⟩)] w' fun e w2 => e = .returned (.bool dn) ∧ Below w'.heap.size w' w2) (wj : IntKind.i64.wrap (j + 1) = j + 1) (hd : (dn == decide (lo ≤ j + 1)) = true) (hm : (m == if lo < j + 1 then lo else j + 1) = true) (Q : Exit → Act → World → Prop)
    (hQ : ∀ (y0 y1 y2 y3 y4 y5 y6 y7 y8 y9 y10 y11 y12 y13 y14 y15 y16 y17 y18 y19 y20 y21 y22 y23 : Value) (w' : World), Below w.heap.size w w' → Q .normal { tmps := #[v0, v1, v2, v3, .bool true, .pointer (some ⟨sb, 0, none⟩), .pointer (some ⟨cb, 0, none⟩), .int .i64 j, v8, .slice (some ⟨gb, 0, none⟩) 1 c, v10, v11, v12, v13, v14, v15, v16, v17, v18, v19, v20, v21, v22, v23, v24, v25, v26, v27, v28, v29, v30, v31, v32, v33, v34, v35, v36, v37, y0, y1, y2, y3, y4, y5, y6, y7, y8, y9, y10, y11, y12, y13, y14, y15, y16, y17, y18, y19, y20, y21, y22, y23, v62, v63, v64, v65, v66, v67, v68, v69, v70, v71, v72, v73, v74, v75, v76, v77, v78, v79, v80, v81, v82, v83, v84, v85, v86, v87, v88, v89, v90, v91, v92, v93, v94, v95, v96, v97, v98, v99, v100], defers := D } w') :
    (Code.region 13 opsregKs13 true).wp Try.prog Q { tmps := #[v0, v1, v2, v3, wy24, .pointer (some ⟨sb, 0, none⟩), .pointer (some ⟨cb, 0, none⟩), .int .i64 j, v8, .slice (some ⟨gb, 0, none⟩) 1 c, v10, v11, v12, v13, v14, v15, v16, v17, v18, v19, v20, v21, v22, v23, v24, v25, v26, v27, v28, v29, v30, v31, v32, v33, v34, v35, v36, v37, wy0, wy1, wy2, wy3, wy4, wy5, wy6, wy7, wy8, wy9, wy10, wy11, wy12, wy13, wy14, wy15, wy16, wy17, wy18, wy19, wy20, wy21, wy22, wy23, v62, v63, v64, v65, v66, v67, v68, v69, v70, v71, v72, v73, v74, v75, v76, v77, v78, v79, v80, v81, v82, v83, v84, v85, v86, v87, v88, v89, v90, v91, v92, v93, v94, v95, v96, v97, v98, v99, v100], defers := D } w := by
  refine wp_region_inv (by kernel_rfl) (WregKs13 sb cb gb c j lo m dn D v0 v1 v2 v3 v8 v10 v11 v12 v13 v14 v15 v16 v17 v18 v19 v20 v21 v22 v23 v24 v25 v26 v27 v28 v29 v30 v31 v32 v33 v34 v35 v36 v37 v62 v63 v64 v65 v66 v67 v68 v69 v70 v71 v72 v73 v74 v75 v76 v77 v78 v79 v80 v81 v82 v83 v84 v85 v86 v87 v88 v89 v90 v91 v92 v93 v94 v95 v96 v97 v98 v99 v100 w) ?hacy ?h0 ?hstep ?hdone
  case hacy => kernel_rfl
  case h0 => exact ⟨wy0, wy1, wy2, wy3, wy4, wy5, wy6, wy7, wy8, wy9, wy10, wy11, wy12, wy13, wy14, wy15, wy16, wy17, wy18, wy19, wy20, wy21, wy22, wy23, wy24, rfl, below_drewN (Below.refl _ _) 1, (fun p => by cases p), (fun p => by cases p), (fun p => by cases p), (fun p => by cases p), (fun p => by cases p), (fun p => by cases p), (fun p => by cases p), (fun p => by cases p), (fun p => by cases p), (fun p => by cases p), (fun p => by cases p), (fun p => by cases p), (fun p => by cases p), (fun p => by cases p), (fun p => by cases p), (fun p => by cases p), (fun p => by cases p), (fun p => by cases p), (fun p => by cases p), (fun p => by cases p), (fun p => by cases p), (fun p => by cases p), (fun p => by cases p), (fun p => by cases p), (fun p => by cases p)⟩
  case hdone =>
    intro l a w1 hI hall
    obtain ⟨y0, y1, y2, y3, y4, y5, y6, y7, y8, y9, y10, y11, y12, y13, y14, y15, y16, y17, y18, y19, y20, y21, y22, y23, y24, rfl, hb, h0, h1, h2, h3, h4, h5, h6, h7, h8, h9, h10, h11, h12, h13, h14, h15, h16, h17, h18, h19, h20, h21, h22, h23, h24⟩ := hI
    obtain rfl := h24 (hall 24 (by decide))
    exact hQ _ _ _ _ _ _ _ _ _ _ _ _ _ _ _ _ _ _ _ _ _ _ _ _ _ hb 
  case hstep =>
    intro l a w1 i o hI ho hl hall
    obtain ⟨y0, y1, y2, y3, y4, y5, y6, y7, y8, y9, y10, y11, y12, y13, y14, y15, y16, y17, y18, y19, y20, y21, y22, y23, y24, rfl, hb, h0, h1, h2, h3, h4, h5, h6, h7, h8, h9, h10, h11, h12, h13, h14, h15, h16, h17, h18, h19, h20, h21, h22, h23, h24⟩ := hI
    have hi : i < 25 := (Array.getElem?_eq_some_iff.1 ho).1
    match i, hi with
    | 0, _ =>
      have ho' := ho
      simp [opsregKs13] at ho
      subst ho
      refine wpOp_one ho' rfl fun K hK => ?_
      go_simp
      exact hK _ _ ⟨_, y1, y2, y3, y4, y5, y6, y7, y8, y9, y10, y11, y12, y13, y14, y15, y16, y17, y18, y19, y20, y21, y22, y23, y24, rfl, hb, fun _ => (by first | rfl | simp), h1, h2, h3, h4, h5, h6, h7, h8, h9, h10, h11, h12, h13, h14, h15, h16, h17, h18, h19, h20, h21, h22, h23, h24⟩
    | 1, _ =>
      have ho' := ho
      simp [opsregKs13] at ho
      subst ho
      obtain rfl := h0 (hall ⟨0, .data⟩ (by simp) rfl)
      refine wpOp_one ho' rfl fun K hK => ?_
      go_simp
      exact hK _ _ ⟨_, _, y2, y3, y4, y5, y6, y7, y8, y9, y10, y11, y12, y13, y14, y15, y16, y17, y18, y19, y20, y21, y22, y23, y24, rfl, hb, fun _ => rfl, fun _ => (by first | rfl | simp), h2, h3, h4, h5, h6, h7, h8, h9, h10, h11, h12, h13, h14, h15, h16, h17, h18, h19, h20, h21, h22, h23, h24⟩
    | 2, _ =>
      have ho' := ho
      simp [opsregKs13] at ho
      subst ho
      obtain rfl := h1 (hall ⟨1, .data⟩ (by simp) rfl)
      refine wpOp_one ho' rfl fun K hK => ?_
      go_simp
      exact hK _ _ ⟨y0, _, _, y3, y4, y5, y6, y7, y8, y9, y10, y11, y12, y13, y14, y15, y16, y17, y18, y19, y20, y21, y22, y23, y24, rfl, hb, h0, fun _ => rfl, fun _ => (by first | rfl | simp), h3, h4, h5, h6, h7, h8, h9, h10, h11, h12, h13, h14, h15, h16, h17, h18, h19, h20, h21, h22, h23, h24⟩
    | 3, _ =>
      have ho' := ho
      simp [opsregKs13] at ho
      subst ho
      obtain rfl := h2 (hall ⟨2, .data⟩ (by simp) rfl)
      refine wpOp_one ho' rfl fun K hK => ?_
      go_simp
      exact hK _ _ ⟨y0, y1, _, _, y4, y5, y6, y7, y8, y9, y10, y11, y12, y13, y14, y15, y16, y17, y18, y19, y20, y21, y22, y23, y24, rfl, hb, h0, h1, fun _ => rfl, fun _ => (by first | rfl | simp), h4, h5, h6, h7, h8, h9, h10, h11, h12, h13, h14, h15, h16, h17, h18, h19, h20, h21, h22, h23, h24⟩
    | 4, _ =>
      have ho' := ho
      simp [opsregKs13] at ho
      subst ho
      obtain rfl := h3 (hall ⟨3, .guard⟩ (by simp) rfl)
      refine wpOp_on ho' rfl fun K hK => ?_
      go_simp
      exact hK _ _ ⟨y0, y1, y2, _, _, y5, y6, y7, y8, y9, y10, y11, y12, y13, y14, y15, y16, y17, y18, y19, y20, y21, y22, y23, y24, rfl, hb, h0, h1, h2, fun _ => rfl, fun _ => (by first | rfl | simp), h5, h6, h7, h8, h9, h10, h11, h12, h13, h14, h15, h16, h17, h18, h19, h20, h21, h22, h23, h24⟩
    | 5, _ =>
      have ho' := ho
      simp [opsregKs13] at ho
      subst ho
      obtain rfl := h3 (hall ⟨3, .guard⟩ (by simp) rfl)
      obtain rfl := h4 (hall ⟨4, .data⟩ (by simp) rfl)
      refine wpOp_on ho' rfl fun K hK => ?_
      go_simp
      exact hK _ _ ⟨y0, y1, y2, _, _, _, y6, y7, y8, y9, y10, y11, y12, y13, y14, y15, y16, y17, y18, y19, y20, y21, y22, y23, y24, rfl, hb, h0, h1, h2, fun _ => rfl, fun _ => rfl, fun _ => (by first | rfl | simp), h6, h7, h8, h9, h10, h11, h12, h13, h14, h15, h16, h17, h18, h19, h20, h21, h22, h23, h24⟩
    | 6, _ =>
      have ho' := ho
      simp [opsregKs13] at ho
      subst ho
      obtain rfl := h3 (hall ⟨3, .guard⟩ (by simp) rfl)
      obtain rfl := h5 (hall ⟨5, .data⟩ (by simp) rfl)
      refine wpOp_on ho' rfl fun K hK => ?_
      have hc0 := hlc w1 hb
      go_simp
      exact hK _ _ ⟨y0, y1, y2, _, y4, _, _, y7, y8, y9, y10, y11, y12, y13, y14, y15, y16, y17, y18, y19, y20, y21, y22, y23, y24, rfl, hb, h0, h1, h2, fun _ => rfl, h4, fun _ => rfl, fun _ => (by first | rfl | simp), h7, h8, h9, h10, h11, h12, h13, h14, h15, h16, h17, h18, h19, h20, h21, h22, h23, h24⟩
    | 7, _ =>
      have ho' := ho
      simp [opsregKs13] at ho
      subst ho
      obtain rfl := h3 (hall ⟨3, .guard⟩ (by simp) rfl)
      refine wpOp_on ho' rfl fun K hK => ?_
      go_simp
      exact hK _ _ ⟨y0, y1, y2, _, y4, y5, y6, _, y8, y9, y10, y11, y12, y13, y14, y15, y16, y17, y18, y19, y20, y21, y22, y23, y24, rfl, hb, h0, h1, h2, fun _ => rfl, h4, h5, h6, fun _ => (by first | rfl | simp), h8, h9, h10, h11, h12, h13, h14, h15, h16, h17, h18, h19, h20, h21, h22, h23, h24⟩
    | 8, _ =>
      have ho' := ho
      simp [opsregKs13] at ho
      subst ho
      obtain rfl := h3 (hall ⟨3, .guard⟩ (by simp) rfl)
      obtain rfl := h7 (hall ⟨7, .data⟩ (by simp) rfl)
      refine wpOp_on ho' rfl fun K hK => ?_
      go_simp
      exact hK _ _ ⟨y0, y1, y2, _, y4, y5, y6, _, _, y9, y10, y11, y12, y13, y14, y15, y16, y17, y18, y19, y20, y21, y22, y23, y24, rfl, hb, h0, h1, h2, fun _ => rfl, h4, h5, h6, fun _ => rfl, fun _ => (by first | rfl | simp), h9, h10, h11, h12, h13, h14, h15, h16, h17, h18, h19, h20, h21, h22, h23, h24⟩
    | 9, _ =>
      have ho' := ho
      simp [opsregKs13] at ho
      subst ho
      obtain rfl := h3 (hall ⟨3, .guard⟩ (by simp) rfl)
      refine wpOp_on ho' rfl fun K hK => ?_
      go_simp
      exact hK _ _ ⟨y0, y1, y2, _, y4, y5, y6, y7, y8, _, y10, y11, y12, y13, y14, y15, y16, y17, y18, y19, y20, y21, y22, y23, y24, rfl, hb, h0, h1, h2, fun _ => rfl, h4, h5, h6, h7, h8, fun _ => (by first | rfl | simp), h10, h11, h12, h13, h14, h15, h16, h17, h18, h19, h20, h21, h22, h23, h24⟩
    | 10, _ =>
      have ho' := ho
      simp [opsregKs13] at ho
      subst ho
      obtain rfl := h3 (hall ⟨3, .guard⟩ (by simp) rfl)
      obtain rfl := h9 (hall ⟨9, .data⟩ (by simp) rfl)
      refine wpOp_on ho' rfl fun K hK => ?_
      have hc0 := hs w1 hb
      go_simp
      exact hK _ _ ⟨y0, y1, y2, _, y4, y5, y6, y7, y8, _, _, y11, y12, y13, y14, y15, y16, y17, y18, y19, y20, y21, y22, y23, y24, rfl, hb, h0, h1, h2, fun _ => rfl, h4, h5, h6, h7, h8, fun _ => rfl, fun _ => (by first | rfl | simp), h11, h12, h13, h14, h15, h16, h17, h18, h19, h20, h21, h22, h23, h24⟩
    | 11, _ =>
      have ho' := ho
      simp [opsregKs13] at ho
      subst ho
      obtain rfl := h3 (hall ⟨3, .guard⟩ (by simp) rfl)
      obtain rfl := h8 (hall ⟨8, .data⟩ (by simp) rfl)
      obtain rfl := h10 (hall ⟨10, .data⟩ (by simp) rfl)
      refine wpOp_on ho' rfl fun K hK => ?_
      go_simp
      exact hK _ _ ⟨y0, y1, y2, _, y4, y5, y6, y7, _, y9, _, _, y12, y13, y14, y15, y16, y17, y18, y19, y20, y21, y22, y23, y24, rfl, hb, h0, h1, h2, fun _ => rfl, h4, h5, h6, h7, fun _ => rfl, h9, fun _ => rfl, fun _ => (by first | rfl | simp), h12, h13, h14, h15, h16, h17, h18, h19, h20, h21, h22, h23, h24⟩
    | 12, _ =>
      have ho' := ho
      simp [opsregKs13] at ho
      subst ho
      obtain rfl := h3 (hall ⟨3, .guard⟩ (by simp) rfl)
      obtain rfl := h6 (hall ⟨6, .data⟩ (by simp) rfl)
      obtain rfl := h11 (hall ⟨11, .data⟩ (by simp) rfl)
      refine wpOp_on ho' rfl fun K hK => ?_
      go_simp
      exact hK _ _ ⟨y0, y1, y2, _, y4, y5, _, y7, y8, y9, y10, _, _, y13, y14, y15, y16, y17, y18, y19, y20, y21, y22, y23, y24, rfl, hb, h0, h1, h2, fun _ => rfl, h4, h5, fun _ => rfl, h7, h8, h9, h10, fun _ => rfl, fun _ => (by first | rfl | simp), h13, h14, h15, h16, h17, h18, h19, h20, h21, h22, h23, h24⟩
    | 13, _ =>
      have ho' := ho
      simp [opsregKs13] at ho
      subst ho
      obtain rfl := h3 (hall ⟨3, .data⟩ (by simp) rfl)
      obtain rfl := h12 (hall ⟨12, .data⟩ (by simp) rfl)
      refine wpOp_one ho' rfl fun K hK => ?_
      go_simp
      exact hK _ _ ⟨y0, y1, y2, _, y4, y5, y6, y7, y8, y9, y10, y11, _, _, y14, y15, y16, y17, y18, y19, y20, y21, y22, y23, y24, rfl, hb, h0, h1, h2, fun _ => rfl, h4, h5, h6, h7, h8, h9, h10, h11, fun _ => rfl, fun _ => (by first | rfl | simp), h14, h15, h16, h17, h18, h19, h20, h21, h22, h23, h24⟩
    | 14, _ =>
      have ho' := ho
      simp [opsregKs13] at ho
      subst ho
      obtain rfl := h13 (hall ⟨13, .data⟩ (by simp) rfl)
      refine wpOp_one ho' rfl fun K hK => ?_
      go_simp
      exact hK _ _ ⟨y0, y1, y2, y3, y4, y5, y6, y7, y8, y9, y10, y11, y12, _, _, y15, y16, y17, y18, y19, y20, y21, y22, y23, y24, rfl, hb, h0, h1, h2, h3, h4, h5, h6, h7, h8, h9, h10, h11, h12, fun _ => rfl, fun _ => (by first | rfl | simp), h15, h16, h17, h18, h19, h20, h21, h22, h23, h24⟩
    | 15, _ =>
      have ho' := ho
      simp [opsregKs13] at ho
      subst ho
      obtain rfl := h14 (hall ⟨14, .guard⟩ (by simp) rfl)
      refine wpOp_on ho' rfl fun K hK => ?_
      go_simp
      exact hK _ _ ⟨y0, y1, y2, y3, y4, y5, y6, y7, y8, y9, y10, y11, y12, y13, _, _, y16, y17, y18, y19, y20, y21, y22, y23, y24, rfl, hb, h0, h1, h2, h3, h4, h5, h6, h7, h8, h9, h10, h11, h12, h13, fun _ => rfl, fun _ => (by first | rfl | simp), h16, h17, h18, h19, h20, h21, h22, h23, h24⟩
    | 16, _ =>
      have ho' := ho
      simp [opsregKs13] at ho
      subst ho
      obtain rfl := h14 (hall ⟨14, .chain⟩ (by simp) rfl)
      obtain rfl := h15 (hall ⟨15, .data⟩ (by simp) rfl)
      refine wpOp_on ho' rfl fun K hK => ?_
      go_simp
      go_at_call 14
      refine (hc _ hb).mono ?_
      rintro e w2 ⟨rfl, hb2⟩
      exact hK _ _ ⟨y0, y1, y2, y3, y4, y5, y6, y7, y8, y9, y10, y11, y12, y13, _, _, _, y17, y18, y19, y20, y21, y22, y23, y24, rfl, (hb.trans (hb2.mono hb.size)), h0, h1, h2, h3, h4, h5, h6, h7, h8, h9, h10, h11, h12, h13, fun _ => rfl, fun _ => rfl, fun _ => (by first | rfl | simp), h17, h18, h19, h20, h21, h22, h23, h24⟩
    | 17, _ =>
      have ho' := ho
      simp [opsregKs13] at ho
      subst ho
      obtain rfl := h14 (hall ⟨14, .guard⟩ (by simp) rfl)
      refine wpOp_on ho' rfl fun K hK => ?_
      go_simp
      exact hK _ _ ⟨y0, y1, y2, y3, y4, y5, y6, y7, y8, y9, y10, y11, y12, y13, _, y15, y16, _, y18, y19, y20, y21, y22, y23, y24, rfl, hb, h0, h1, h2, h3, h4, h5, h6, h7, h8, h9, h10, h11, h12, h13, fun _ => rfl, h15, h16, fun _ => (by first | rfl | simp), h18, h19, h20, h21, h22, h23, h24⟩
    | 18, _ =>
      have ho' := ho
      simp [opsregKs13] at ho
      subst ho
      obtain rfl := h14 (hall ⟨14, .guard⟩ (by simp) rfl)
      obtain rfl := h17 (hall ⟨17, .data⟩ (by simp) rfl)
      refine wpOp_on ho' rfl fun K hK => ?_
      go_simp
      exact hK _ _ ⟨y0, y1, y2, y3, y4, y5, y6, y7, y8, y9, y10, y11, y12, y13, _, y15, y16, _, _, y19, y20, y21, y22, y23, y24, rfl, hb, h0, h1, h2, h3, h4, h5, h6, h7, h8, h9, h10, h11, h12, h13, fun _ => rfl, h15, h16, fun _ => rfl, fun _ => (by first | rfl | simp), h19, h20, h21, h22, h23, h24⟩
    | 19, _ =>
      have ho' := ho
      simp [opsregKs13] at ho
      subst ho
      obtain rfl := h14 (hall ⟨14, .guard⟩ (by simp) rfl)
      refine wpOp_on ho' rfl fun K hK => ?_
      go_simp
      exact hK _ _ ⟨y0, y1, y2, y3, y4, y5, y6, y7, y8, y9, y10, y11, y12, y13, _, y15, y16, y17, y18, _, y20, y21, y22, y23, y24, rfl, hb, h0, h1, h2, h3, h4, h5, h6, h7, h8, h9, h10, h11, h12, h13, fun _ => rfl, h15, h16, h17, h18, fun _ => (by first | rfl | simp), h20, h21, h22, h23, h24⟩
    | 20, _ =>
      have ho' := ho
      simp [opsregKs13] at ho
      subst ho
      obtain rfl := h14 (hall ⟨14, .guard⟩ (by simp) rfl)
      obtain rfl := h19 (hall ⟨19, .data⟩ (by simp) rfl)
      refine wpOp_on ho' rfl fun K hK => ?_
      have hc0 := hs w1 hb
      go_simp
      exact hK _ _ ⟨y0, y1, y2, y3, y4, y5, y6, y7, y8, y9, y10, y11, y12, y13, _, y15, y16, y17, y18, _, _, y21, y22, y23, y24, rfl, hb, h0, h1, h2, h3, h4, h5, h6, h7, h8, h9, h10, h11, h12, h13, fun _ => rfl, h15, h16, h17, h18, fun _ => rfl, fun _ => (by first | rfl | simp), h21, h22, h23, h24⟩
    | 21, _ =>
      have ho' := ho
      simp [opsregKs13] at ho
      subst ho
      obtain rfl := h14 (hall ⟨14, .guard⟩ (by simp) rfl)
      obtain rfl := h18 (hall ⟨18, .data⟩ (by simp) rfl)
      obtain rfl := h20 (hall ⟨20, .data⟩ (by simp) rfl)
      refine wpOp_on ho' rfl fun K hK => ?_
      go_simp
      exact hK _ _ ⟨y0, y1, y2, y3, y4, y5, y6, y7, y8, y9, y10, y11, y12, y13, _, y15, y16, y17, _, y19, _, _, y22, y23, y24, rfl, hb, h0, h1, h2, h3, h4, h5, h6, h7, h8, h9, h10, h11, h12, h13, fun _ => rfl, h15, h16, h17, fun _ => rfl, h19, fun _ => rfl, fun _ => (by first | rfl | simp), h22, h23, h24⟩
    | 22, _ =>
      have ho' := ho
      simp [opsregKs13] at ho
      subst ho
      obtain rfl := h14 (hall ⟨14, .guard⟩ (by simp) rfl)
      obtain rfl := h16 (hall ⟨16, .data⟩ (by simp) rfl)
      obtain rfl := h21 (hall ⟨21, .data⟩ (by simp) rfl)
      refine wpOp_on ho' rfl fun K hK => ?_
      go_simp
      exact hK _ _ ⟨y0, y1, y2, y3, y4, y5, y6, y7, y8, y9, y10, y11, y12, y13, _, y15, _, y17, y18, y19, y20, _, _, y23, y24, rfl, hb, h0, h1, h2, h3, h4, h5, h6, h7, h8, h9, h10, h11, h12, h13, fun _ => rfl, h15, fun _ => rfl, h17, h18, h19, h20, fun _ => rfl, fun _ => (by first | rfl | simp), h23, h24⟩
    | 23, _ =>
      have ho' := ho
      simp [opsregKs13] at ho
      subst ho
      obtain rfl := h14 (hall ⟨14, .data⟩ (by simp) rfl)
      obtain rfl := h22 (hall ⟨22, .data⟩ (by simp) rfl)
      refine wpOp_one ho' rfl fun K hK => ?_
      go_simp
      exact hK _ _ ⟨y0, y1, y2, y3, y4, y5, y6, y7, y8, y9, y10, y11, y12, y13, _, y15, y16, y17, y18, y19, y20, y21, _, _, y24, rfl, hb, h0, h1, h2, h3, h4, h5, h6, h7, h8, h9, h10, h11, h12, h13, fun _ => rfl, h15, h16, h17, h18, h19, h20, h21, fun _ => rfl, fun _ => (by first | rfl | simp), h24⟩
    | 24, _ =>
      have ho' := ho
      simp [opsregKs13] at ho
      subst ho
      obtain rfl := h23 (hall ⟨23, .data⟩ (by simp) rfl)
      refine wpOp_one ho' rfl fun K hK => ?_
      go_simp
      exact hK _ _ ⟨y0, y1, y2, y3, y4, y5, y6, y7, y8, y9, y10, y11, y12, y13, y14, y15, y16, y17, y18, y19, y20, y21, y22, _, _, rfl, hb, h0, h1, h2, h3, h4, h5, h6, h7, h8, h9, h10, h11, h12, h13, h14, h15, h16, h17, h18, h19, h20, h21, h22, fun _ => rfl, fun _ => (by first | rfl | simp)⟩
    | k + 25, hi => omega

abbrev opsregKs16 : Array Oper := #[{ dst := some 80, op := Op.move (Operand.tmp 9), type := 32, pos := "again.go:27", after := #[], guard := none },
  { dst := some 81, op := Op.call { callee := Callee.builtin Builtin.len, args := #[Operand.tmp 80], argTypes := #[32] }, type := 3, pos := "again.go:27", after := #[{ on := 0, ground := Ground.data }], guard := none },
  { dst := some 82, op := Op.binOp BinOp.eql 3 (Operand.tmp 81) (Operand.const (Value.int IntKind.i64 1)) 3, type := 4, pos := "again.go:27", after := #[{ on := 1, ground := Ground.data }], guard := none },
  { dst := some 83, op := Op.move (Operand.tmp 82), type := 4, pos := "again.go:27", after := #[{ on := 2, ground := Ground.data }], guard := none },
  { dst := some 84, op := Op.move (Operand.tmp 9), type := 32, pos := "again.go:27", after := #[{ on := 3, ground := Ground.guard }], guard := some (3, true) },
  { dst := some 85, op := Op.indexAddr 32 (Operand.tmp 84) (Operand.const (Value.int IntKind.i64 0)), type := 0, pos := "again.go:27", after := #[{ on := 4, ground := Ground.data }, { on := 3, ground := Ground.guard }], guard := some (3, true) },
  { dst := some 86, op := Op.load 2 (Operand.tmp 85), type := 2, pos := "again.go:27", after := #[{ on := 5, ground := Ground.data }, { on := 3, ground := Ground.guard }], guard := some (3, true) },
  { dst := some 87, op := Op.move (Operand.tmp 7), type := 2, pos := "again.go:27", after := #[{ on := 3, ground := Ground.guard }], guard := some (3, true) },
  { dst := some 88, op := Op.binOp BinOp.add 2 (Operand.tmp 87) (Operand.const (Value.int IntKind.i64 1)) 2, type := 2, pos := "again.go:27", after := #[{ on := 7, ground := Ground.data }, { on := 3, ground := Ground.guard }], guard := some (3, true) },
  { dst := some 89, op := Op.binOp BinOp.eql 2 (Operand.tmp 86) (Operand.tmp 88) 2, type := 4, pos := "again.go:27", after := #[{ on := 6, ground := Ground.data }, { on := 8, ground := Ground.data }, { on := 3, ground := Ground.guard }], guard := some (3, true) },
  { dst := some 90, op := Op.pick (Operand.tmp 83) (Operand.tmp 89) (Operand.const (Value.bool false)), type := 4, pos := "again.go:27", after := #[{ on := 3, ground := Ground.data }, { on := 9, ground := Ground.data }], guard := none },
  { dst := some 91, op := Op.move (Operand.tmp 90), type := 4, pos := "again.go:27", after := #[{ on := 10, ground := Ground.data }, { on := 3, ground := Ground.chain }], guard := none },
  { dst := some 92, op := Op.move (Operand.tmp 6), type := 30, pos := "again.go:27", after := #[{ on := 11, ground := Ground.guard }], guard := some (11, true) },
  { dst := some 93, op := Op.call { callee := Callee.value (Operand.func 14), args := #[Operand.tmp 92], argTypes := #[30] }, type := 4, pos := "again.go:27", after := #[{ on := 12, ground := Ground.data }, { on := 11, ground := Ground.chain }, { on := 11, ground := Ground.guard }], guard := some (11, true) },
  { dst := some 94, op := Op.move (Operand.tmp 7), type := 2, pos := "again.go:27", after := #[{ on := 11, ground := Ground.guard }], guard := some (11, true) },
  { dst := some 95, op := Op.binOp BinOp.add 2 (Operand.tmp 94) (Operand.const (Value.int IntKind.i64 1)) 2, type := 2, pos := "again.go:27", after := #[{ on := 14, ground := Ground.data }, { on := 11, ground := Ground.guard }], guard := some (11, true) },
  { dst := some 96, op := Op.fieldAddr 28 (Operand.tmp 5) 0, type := 0, pos := "again.go:27", after := #[{ on := 11, ground := Ground.guard }], guard := some (11, true) },
  { dst := some 97, op := Op.load 2 (Operand.tmp 96), type := 2, pos := "again.go:27", after := #[{ on := 16, ground := Ground.data }, { on := 11, ground := Ground.guard }], guard := some (11, true) },
  { dst := some 98, op := Op.binOp BinOp.geq 2 (Operand.tmp 95) (Operand.tmp 97) 2, type := 4, pos := "again.go:27", after := #[{ on := 15, ground := Ground.data }, { on := 17, ground := Ground.data }, { on := 11, ground := Ground.guard }], guard := some (11, true) },
  { dst := some 99, op := Op.binOp BinOp.eql 4 (Operand.tmp 93) (Operand.tmp 98) 4, type := 4, pos := "again.go:27", after := #[{ on := 13, ground := Ground.data }, { on := 18, ground := Ground.data }, { on := 11, ground := Ground.guard }], guard := some (11, true) },
  { dst := some 100, op := Op.pick (Operand.tmp 91) (Operand.tmp 99) (Operand.const (Value.bool false)), type := 4, pos := "again.go:27", after := #[{ on := 11, ground := Ground.data }, { on := 19, ground := Ground.data }], guard := none },
  { dst := some 4, op := Op.assign (Operand.tmp 100), type := 4, pos := "again.go:27", after := #[{ on := 20, ground := Ground.data }, { on := 13, ground := Ground.chain }, { on := 0, ground := Ground.phase }, { on := 1, ground := Ground.phase }, { on := 2, ground := Ground.phase }, { on := 3, ground := Ground.phase }, { on := 4, ground := Ground.phase }, { on := 5, ground := Ground.phase }, { on := 6, ground := Ground.phase }, { on := 7, ground := Ground.phase }, { on := 8, ground := Ground.phase }, { on := 9, ground := Ground.phase }, { on := 10, ground := Ground.phase }, { on := 11, ground := Ground.phase }, { on := 12, ground := Ground.phase }, { on := 13, ground := Ground.phase }, { on := 14, ground := Ground.phase }, { on := 15, ground := Ground.phase }, { on := 16, ground := Ground.phase }, { on := 17, ground := Ground.phase }, { on := 18, ground := Ground.phase }, { on := 19, ground := Ground.phase }, { on := 20, ground := Ground.phase }], guard := none }]
def WregKs16 (sb cb gb c : Nat) (j lo m : Int) (dn : Bool) (D : List Deferred) (v0 v1 v2 v3 v8 v10 v11 v12 v13 v14 v15 v16 v17 v18 v19 v20 v21 v22 v23 v24 v25 v26 v27 v28 v29 v30 v31 v32 v33 v34 v35 v36 v37 v38 v39 v40 v41 v42 v43 v44 v45 v46 v47 v48 v49 v50 v51 v52 v53 v54 v55 v56 v57 v58 v59 v60 v61 v62 v63 v64 v65 v66 v67 v68 v69 v70 v71 v72 v73 v74 v75 v76 v77 v78 v79 : Value) (w0 : World) (l : Nat → Bool) (a : Act) (w : World) : Prop :=
  ∃ (y0 y1 y2 y3 y4 y5 y6 y7 y8 y9 y10 y11 y12 y13 y14 y15 y16 y17 y18 y19 y20 y21 : Value), a = { tmps := #[v0, v1, v2, v3, y21, .pointer (some ⟨sb, 0, none⟩), .pointer (some ⟨cb, 0, none⟩), .int .i64 j, v8, .slice (some ⟨gb, 0, none⟩) 1 c, v10, v11, v12, v13, v14, v15, v16, v17, v18, v19, v20, v21, v22, v23, v24, v25, v26, v27, v28, v29, v30, v31, v32, v33, v34, v35, v36, v37, v38, v39, v40, v41, v42, v43, v44, v45, v46, v47, v48, v49, v50, v51, v52, v53, v54, v55, v56, v57, v58, v59, v60, v61, v62, v63, v64, v65, v66, v67, v68, v69, v70, v71, v72, v73, v74, v75, v76, v77, v78, v79, y0, y1, y2, y3, y4, y5, y6, y7, y8, y9, y10, y11, y12, y13, y14, y15, y16, y17, y18, y19, y20], defers := D } ∧ Below w0.heap.size w0 w ∧
    (l 0 = true → y0 = .slice (some ⟨gb, 0, none⟩) 1 c) ∧ (l 1 = true → y1 = .int .i64 1) ∧ (l 2 = true → y2 = .bool true) ∧ (l 3 = true → y3 = .bool true) ∧ (l 4 = true → y4 = .slice (some ⟨gb, 0, none⟩) 1 c) ∧ (l 5 = true → y5 = .pointer (some ⟨gb, 0, none⟩)) ∧ (l 6 = true → y6 = .int .i64 m) ∧ (l 7 = true → y7 = .int .i64 j) ∧ (l 8 = true → y8 = .int .i64 (j + 1)) ∧ (l 9 = true → y9 = .bool true) ∧ (l 10 = true → y10 = .bool true) ∧ (l 11 = true → y11 = .bool true) ∧ (l 12 = true → y12 = .pointer (some ⟨cb, 0, none⟩)) ∧ (l 13 = true → y13 = .bool dn) ∧ (l 14 = true → y14 = .int .i64 j) ∧ (l 15 = true → y15 = .int .i64 (j + 1)) ∧ (l 16 = true → y16 = .pointer (some ⟨sb, 0, none⟩)) ∧ (l 17 = true → y17 = .int .i64 lo) ∧ (l 18 = true → y18 = .bool (decide (lo ≤ j + 1))) ∧ (l 19 = true → y19 = .bool true) ∧ (l 20 = true → y20 = .bool true) ∧ (l 21 = true → y21 = .bool true)
set_option maxHeartbeats 8000000 in
set_option maxRecDepth 100000 in
theorem regKs16 (sb cb gb c : Nat) (j lo m : Int) (dn : Bool) (D : List Deferred) (v0 v1 v2 v3 v8 v10 v11 v12 v13 v14 v15 v16 v17 v18 v19 v20 v21 v22 v23 v24 v25 v26 v27 v28 v29 v30 v31 v32 v33 v34 v35 v36 v37 v38 v39 v40 v41 v42 v43 v44 v45 v46 v47 v48 v49 v50 v51 v52 v53 v54 v55 v56 v57 v58 v59 v60 v61 v62 v63 v64 v65 v66 v67 v68 v69 v70 v71 v72 v73 v74 v75 v76 v77 v78 v79 wy0 wy1 wy2 wy3 wy4 wy5 wy6 wy7 wy8 wy9 wy10 wy11 wy12 wy13 wy14 wy15 wy16 wy17 wy18 wy19 wy20 wy21 : Value) (w : World) (hlc : (∀ w', Below w.heap.size w w' → w'.cell? ⟨gb, 0, none⟩ = some (.int .i64 m))) (hs : (∀ w', Below w.heap.size w w' → w'.cell? ⟨sb, 0, none⟩ = some (.int .i64 lo))) (hc : ∀ w', Below w.heap.size w w' → Calls Try.prog 14 #[.pointer (some ⟨cb, 0, none⟩)] w' fun e w2 => e = .returned (.bool dn) ∧ Below w'.heap.size w' w2) (wj : IntKind.i64.wrap (j + 1) = j + 1) (hd : (dn == decide (lo ≤ j + 1)) = true) (hm : (m == j + 1) = true) (Q : Exit → Act → World → Prop)
    (hQ : ∀ (y0 y1 y2 y3 y4 y5 y6 y7 y8 y9 y10 y11 y12 y13 y14 y15 y16 y17 y18 y19 y20 : Value) (w' : World), Below w.heap.size w w' → Q .normal { tmps := #[v0, v1, v2, v3, .bool true, .pointer (some ⟨sb, 0, none⟩), .pointer (some ⟨cb, 0, none⟩), .int .i64 j, v8, .slice (some ⟨gb, 0, none⟩) 1 c, v10, v11, v12, v13, v14, v15, v16, v17, v18, v19, v20, v21, v22, v23, v24, v25, v26, v27, v28, v29, v30, v31, v32, v33, v34, v35, v36, v37, v38, v39, v40, v41, v42, v43, v44, v45, v46, v47, v48, v49, v50, v51, v52, v53, v54, v55, v56, v57, v58, v59, v60, v61, v62, v63, v64, v65, v66, v67, v68, v69, v70, v71, v72, v73, v74, v75, v76, v77, v78, v79, y0, y1, y2, y3, y4, y5, y6, y7, y8, y9, y10, y11, y12, y13, y14, y15, y16, y17, y18, y19, y20], defers := D } w') :
    (Code.region 16 opsregKs16 true).wp Try.prog Q { tmps := #[v0, v1, v2, v3, wy21, .pointer (some ⟨sb, 0, none⟩), .pointer (some ⟨cb, 0, none⟩), .int .i64 j, v8, .slice (some ⟨gb, 0, none⟩) 1 c, v10, v11, v12, v13, v14, v15, v16, v17, v18, v19, v20, v21, v22, v23, v24, v25, v26, v27, v28, v29, v30, v31, v32, v33, v34, v35, v36, v37, v38, v39, v40, v41, v42, v43, v44, v45, v46, v47, v48, v49, v50, v51, v52, v53, v54, v55, v56, v57, v58, v59, v60, v61, v62, v63, v64, v65, v66, v67, v68, v69, v70, v71, v72, v73, v74, v75, v76, v77, v78, v79, wy0, wy1, wy2, wy3, wy4, wy5, wy6, wy7, wy8, wy9, wy10, wy11, wy12, wy13, wy14, wy15, wy16, wy17, wy18, wy19, wy20], defers := D } w := by
  refine wp_region_inv (by kernel_rfl) (WregKs16 sb cb gb c j lo m dn D v0 v1 v2 v3 v8 v10 v11 v12 v13 v14 v15 v16 v17 v18 v19 v20 v21 v22 v23 v24 v25 v26 v27 v28 v29 v30 v31 v32 v33 v34 v35 v36 v37 v38 v39 v40 v41 v42 v43 v44 v45 v46 v47 v48 v49 v50 v51 v52 v53 v54 v55 v56 v57 v58 v59 v60 v61 v62 v63 v64 v65 v66 v67 v68 v69 v70 v71 v72 v73 v74 v75 v76 v77 v78 v79 w) ?hacy ?h0 ?hstep ?hdone
  case hacy => kernel_rfl
  case h0 => exact ⟨wy0, wy1, wy2, wy3, wy4, wy5, wy6, wy7, wy8, wy9, wy10, wy11, wy12, wy13, wy14, wy15, wy16, wy17, wy18, wy19, wy20, wy21, rfl, below_drewN (Below.refl _ _) 1, (fun p => by cases p), (fun p => by cases p), (fun p => by cases p), (fun p => by cases p), (fun p => by cases p), (fun p => by cases p), (fun p => by cases p), (fun p => by cases p), (fun p => by cases p), (fun p => by cases p), (fun p => by cases p), (fun p => by cases p), (fun p => by cases p), (fun p => by cases p), (fun p => by cases p), (fun p => by cases p), (fun p => by cases p), (fun p => by cases p), (fun p => by cases p), (fun p => by cases p), (fun p => by cases p), (fun p => by cases p)⟩
  case hdone =>
    intro l a w1 hI hall
    obtain ⟨y0, y1, y2, y3, y4, y5, y6, y7, y8, y9, y10, y11, y12, y13, y14, y15, y16, y17, y18, y19, y20, y21, rfl, hb, h0, h1, h2, h3, h4, h5, h6, h7, h8, h9, h10, h11, h12, h13, h14, h15, h16, h17, h18, h19, h20, h21⟩ := hI
    obtain rfl := h21 (hall 21 (by decide))
    exact hQ _ _ _ _ _ _ _ _ _ _ _ _ _ _ _ _ _ _ _ _ _ _ hb 
  case hstep =>
    intro l a w1 i o hI ho hl hall
    obtain ⟨y0, y1, y2, y3, y4, y5, y6, y7, y8, y9, y10, y11, y12, y13, y14, y15, y16, y17, y18, y19, y20, y21, rfl, hb, h0, h1, h2, h3, h4, h5, h6, h7, h8, h9, h10, h11, h12, h13, h14, h15, h16, h17, h18, h19, h20, h21⟩ := hI
    have hi : i < 22 := (Array.getElem?_eq_some_iff.1 ho).1
    match i, hi with
    | 0, _ =>
      have ho' := ho
      simp [opsregKs16] at ho
      subst ho
      refine wpOp_one ho' rfl fun K hK => ?_
      go_simp
      exact hK _ _ ⟨_, y1, y2, y3, y4, y5, y6, y7, y8, y9, y10, y11, y12, y13, y14, y15, y16, y17, y18, y19, y20, y21, rfl, hb, fun _ => (by first | rfl | simp), h1, h2, h3, h4, h5, h6, h7, h8, h9, h10, h11, h12, h13, h14, h15, h16, h17, h18, h19, h20, h21⟩
    | 1, _ =>
      have ho' := ho
      simp [opsregKs16] at ho
      subst ho
      obtain rfl := h0 (hall ⟨0, .data⟩ (by simp) rfl)
      refine wpOp_one ho' rfl fun K hK => ?_
      go_simp
      exact hK _ _ ⟨_, _, y2, y3, y4, y5, y6, y7, y8, y9, y10, y11, y12, y13, y14, y15, y16, y17, y18, y19, y20, y21, rfl, hb, fun _ => rfl, fun _ => (by first | rfl | simp), h2, h3, h4, h5, h6, h7, h8, h9, h10, h11, h12, h13, h14, h15, h16, h17, h18, h19, h20, h21⟩
    | 2, _ =>
      have ho' := ho
      simp [opsregKs16] at ho
      subst ho
      obtain rfl := h1 (hall ⟨1, .data⟩ (by simp) rfl)
      refine wpOp_one ho' rfl fun K hK => ?_
      go_simp
      exact hK _ _ ⟨y0, _, _, y3, y4, y5, y6, y7, y8, y9, y10, y11, y12, y13, y14, y15, y16, y17, y18, y19, y20, y21, rfl, hb, h0, fun _ => rfl, fun _ => (by first | rfl | simp), h3, h4, h5, h6, h7, h8, h9, h10, h11, h12, h13, h14, h15, h16, h17, h18, h19, h20, h21⟩
    | 3, _ =>
      have ho' := ho
      simp [opsregKs16] at ho
      subst ho
      obtain rfl := h2 (hall ⟨2, .data⟩ (by simp) rfl)
      refine wpOp_one ho' rfl fun K hK => ?_
      go_simp
      exact hK _ _ ⟨y0, y1, _, _, y4, y5, y6, y7, y8, y9, y10, y11, y12, y13, y14, y15, y16, y17, y18, y19, y20, y21, rfl, hb, h0, h1, fun _ => rfl, fun _ => (by first | rfl | simp), h4, h5, h6, h7, h8, h9, h10, h11, h12, h13, h14, h15, h16, h17, h18, h19, h20, h21⟩
    | 4, _ =>
      have ho' := ho
      simp [opsregKs16] at ho
      subst ho
      obtain rfl := h3 (hall ⟨3, .guard⟩ (by simp) rfl)
      refine wpOp_on ho' rfl fun K hK => ?_
      go_simp
      exact hK _ _ ⟨y0, y1, y2, _, _, y5, y6, y7, y8, y9, y10, y11, y12, y13, y14, y15, y16, y17, y18, y19, y20, y21, rfl, hb, h0, h1, h2, fun _ => rfl, fun _ => (by first | rfl | simp), h5, h6, h7, h8, h9, h10, h11, h12, h13, h14, h15, h16, h17, h18, h19, h20, h21⟩
    | 5, _ =>
      have ho' := ho
      simp [opsregKs16] at ho
      subst ho
      obtain rfl := h3 (hall ⟨3, .guard⟩ (by simp) rfl)
      obtain rfl := h4 (hall ⟨4, .data⟩ (by simp) rfl)
      refine wpOp_on ho' rfl fun K hK => ?_
      go_simp
      exact hK _ _ ⟨y0, y1, y2, _, _, _, y6, y7, y8, y9, y10, y11, y12, y13, y14, y15, y16, y17, y18, y19, y20, y21, rfl, hb, h0, h1, h2, fun _ => rfl, fun _ => rfl, fun _ => (by first | rfl | simp), h6, h7, h8, h9, h10, h11, h12, h13, h14, h15, h16, h17, h18, h19, h20, h21⟩
    | 6, _ =>
      have ho' := ho
      simp [opsregKs16] at ho
      subst ho
      obtain rfl := h3 (hall ⟨3, .guard⟩ (by simp) rfl)
      obtain rfl := h5 (hall ⟨5, .data⟩ (by simp) rfl)
      refine wpOp_on ho' rfl fun K hK => ?_
      have hc0 := hlc w1 hb
      go_simp
      exact hK _ _ ⟨y0, y1, y2, _, y4, _, _, y7, y8, y9, y10, y11, y12, y13, y14, y15, y16, y17, y18, y19, y20, y21, rfl, hb, h0, h1, h2, fun _ => rfl, h4, fun _ => rfl, fun _ => (by first | rfl | simp), h7, h8, h9, h10, h11, h12, h13, h14, h15, h16, h17, h18, h19, h20, h21⟩
    | 7, _ =>
      have ho' := ho
      simp [opsregKs16] at ho
      subst ho
      obtain rfl := h3 (hall ⟨3, .guard⟩ (by simp) rfl)
      refine wpOp_on ho' rfl fun K hK => ?_
      go_simp
      exact hK _ _ ⟨y0, y1, y2, _, y4, y5, y6, _, y8, y9, y10, y11, y12, y13, y14, y15, y16, y17, y18, y19, y20, y21, rfl, hb, h0, h1, h2, fun _ => rfl, h4, h5, h6, fun _ => (by first | rfl | simp), h8, h9, h10, h11, h12, h13, h14, h15, h16, h17, h18, h19, h20, h21⟩
    | 8, _ =>
      have ho' := ho
      simp [opsregKs16] at ho
      subst ho
      obtain rfl := h3 (hall ⟨3, .guard⟩ (by simp) rfl)
      obtain rfl := h7 (hall ⟨7, .data⟩ (by simp) rfl)
      refine wpOp_on ho' rfl fun K hK => ?_
      go_simp
      exact hK _ _ ⟨y0, y1, y2, _, y4, y5, y6, _, _, y9, y10, y11, y12, y13, y14, y15, y16, y17, y18, y19, y20, y21, rfl, hb, h0, h1, h2, fun _ => rfl, h4, h5, h6, fun _ => rfl, fun _ => (by first | rfl | simp), h9, h10, h11, h12, h13, h14, h15, h16, h17, h18, h19, h20, h21⟩
    | 9, _ =>
      have ho' := ho
      simp [opsregKs16] at ho
      subst ho
      obtain rfl := h3 (hall ⟨3, .guard⟩ (by simp) rfl)
      obtain rfl := h6 (hall ⟨6, .data⟩ (by simp) rfl)
      obtain rfl := h8 (hall ⟨8, .data⟩ (by simp) rfl)
      refine wpOp_on ho' rfl fun K hK => ?_
      go_simp
      exact hK _ _ ⟨y0, y1, y2, _, y4, y5, _, y7, _, _, y10, y11, y12, y13, y14, y15, y16, y17, y18, y19, y20, y21, rfl, hb, h0, h1, h2, fun _ => rfl, h4, h5, fun _ => rfl, h7, fun _ => rfl, fun _ => (by first | rfl | simp), h10, h11, h12, h13, h14, h15, h16, h17, h18, h19, h20, h21⟩
    | 10, _ =>
      have ho' := ho
      simp [opsregKs16] at ho
      subst ho
      obtain rfl := h3 (hall ⟨3, .data⟩ (by simp) rfl)
      obtain rfl := h9 (hall ⟨9, .data⟩ (by simp) rfl)
      refine wpOp_one ho' rfl fun K hK => ?_
      go_simp
      exact hK _ _ ⟨y0, y1, y2, _, y4, y5, y6, y7, y8, _, _, y11, y12, y13, y14, y15, y16, y17, y18, y19, y20, y21, rfl, hb, h0, h1, h2, fun _ => rfl, h4, h5, h6, h7, h8, fun _ => rfl, fun _ => (by first | rfl | simp), h11, h12, h13, h14, h15, h16, h17, h18, h19, h20, h21⟩
    | 11, _ =>
      have ho' := ho
      simp [opsregKs16] at ho
      subst ho
      obtain rfl := h10 (hall ⟨10, .data⟩ (by simp) rfl)
      refine wpOp_one ho' rfl fun K hK => ?_
      go_simp
      exact hK _ _ ⟨y0, y1, y2, y3, y4, y5, y6, y7, y8, y9, _, _, y12, y13, y14, y15, y16, y17, y18, y19, y20, y21, rfl, hb, h0, h1, h2, h3, h4, h5, h6, h7, h8, h9, fun _ => rfl, fun _ => (by first | rfl | simp), h12, h13, h14, h15, h16, h17, h18, h19, h20, h21⟩
    | 12, _ =>
      have ho' := ho
      simp [opsregKs16] at ho
      subst ho
      obtain rfl := h11 (hall ⟨11, .guard⟩ (by simp) rfl)
      refine wpOp_on ho' rfl fun K hK => ?_
      go_simp
      exact hK _ _ ⟨y0, y1, y2, y3, y4, y5, y6, y7, y8, y9, y10, _, _, y13, y14, y15, y16, y17, y18, y19, y20, y21, rfl, hb, h0, h1, h2, h3, h4, h5, h6, h7, h8, h9, h10, fun _ => rfl, fun _ => (by first | rfl | simp), h13, h14, h15, h16, h17, h18, h19, h20, h21⟩
    | 13, _ =>
      have ho' := ho
      simp [opsregKs16] at ho
      subst ho
      obtain rfl := h11 (hall ⟨11, .chain⟩ (by simp) rfl)
      obtain rfl := h12 (hall ⟨12, .data⟩ (by simp) rfl)
      refine wpOp_on ho' rfl fun K hK => ?_
      go_simp
      go_at_call 14
      refine (hc _ hb).mono ?_
      rintro e w2 ⟨rfl, hb2⟩
      exact hK _ _ ⟨y0, y1, y2, y3, y4, y5, y6, y7, y8, y9, y10, _, _, _, y14, y15, y16, y17, y18, y19, y20, y21, rfl, (hb.trans (hb2.mono hb.size)), h0, h1, h2, h3, h4, h5, h6, h7, h8, h9, h10, fun _ => rfl, fun _ => rfl, fun _ => (by first | rfl | simp), h14, h15, h16, h17, h18, h19, h20, h21⟩
    | 14, _ =>
      have ho' := ho
      simp [opsregKs16] at ho
      subst ho
      obtain rfl := h11 (hall ⟨11, .guard⟩ (by simp) rfl)
      refine wpOp_on ho' rfl fun K hK => ?_
      go_simp
      exact hK _ _ ⟨y0, y1, y2, y3, y4, y5, y6, y7, y8, y9, y10, _, y12, y13, _, y15, y16, y17, y18, y19, y20, y21, rfl, hb, h0, h1, h2, h3, h4, h5, h6, h7, h8, h9, h10, fun _ => rfl, h12, h13, fun _ => (by first | rfl | simp), h15, h16, h17, h18, h19, h20, h21⟩
    | 15, _ =>
      have ho' := ho
      simp [opsregKs16] at ho
      subst ho
      obtain rfl := h11 (hall ⟨11, .guard⟩ (by simp) rfl)
      obtain rfl := h14 (hall ⟨14, .data⟩ (by simp) rfl)
      refine wpOp_on ho' rfl fun K hK => ?_
      go_simp
      exact hK _ _ ⟨y0, y1, y2, y3, y4, y5, y6, y7, y8, y9, y10, _, y12, y13, _, _, y16, y17, y18, y19, y20, y21, rfl, hb, h0, h1, h2, h3, h4, h5, h6, h7, h8, h9, h10, fun _ => rfl, h12, h13, fun _ => rfl, fun _ => (by first | rfl | simp), h16, h17, h18, h19, h20, h21⟩
    | 16, _ =>
      have ho' := ho
      simp [opsregKs16] at ho
      subst ho
      obtain rfl := h11 (hall ⟨11, .guard⟩ (by simp) rfl)
      refine wpOp_on ho' rfl fun K hK => ?_
      go_simp
      exact hK _ _ ⟨y0, y1, y2, y3, y4, y5, y6, y7, y8, y9, y10, _, y12, y13, y14, y15, _, y17, y18, y19, y20, y21, rfl, hb, h0, h1, h2, h3, h4, h5, h6, h7, h8, h9, h10, fun _ => rfl, h12, h13, h14, h15, fun _ => (by first | rfl | simp), h17, h18, h19, h20, h21⟩
    | 17, _ =>
      have ho' := ho
      simp [opsregKs16] at ho
      subst ho
      obtain rfl := h11 (hall ⟨11, .guard⟩ (by simp) rfl)
      obtain rfl := h16 (hall ⟨16, .data⟩ (by simp) rfl)
      refine wpOp_on ho' rfl fun K hK => ?_
      have hc0 := hs w1 hb
      go_simp
      exact hK _ _ ⟨y0, y1, y2, y3, y4, y5, y6, y7, y8, y9, y10, _, y12, y13, y14, y15, _, _, y18, y19, y20, y21, rfl, hb, h0, h1, h2, h3, h4, h5, h6, h7, h8, h9, h10, fun _ => rfl, h12, h13, h14, h15, fun _ => rfl, fun _ => (by first | rfl | simp), h18, h19, h20, h21⟩
    | 18, _ =>
      have ho' := ho
      simp [opsregKs16] at ho
      subst ho
      obtain rfl := h11 (hall ⟨11, .guard⟩ (by simp) rfl)
      obtain rfl := h15 (hall ⟨15, .data⟩ (by simp) rfl)
      obtain rfl := h17 (hall ⟨17, .data⟩ (by simp) rfl)
      refine wpOp_on ho' rfl fun K hK => ?_
      go_simp
      exact hK _ _ ⟨y0, y1, y2, y3, y4, y5, y6, y7, y8, y9, y10, _, y12, y13, y14, _, y16, _, _, y19, y20, y21, rfl, hb, h0, h1, h2, h3, h4, h5, h6, h7, h8, h9, h10, fun _ => rfl, h12, h13, h14, fun _ => rfl, h16, fun _ => rfl, fun _ => (by first | rfl | simp), h19, h20, h21⟩
    | 19, _ =>
      have ho' := ho
      simp [opsregKs16] at ho
      subst ho
      obtain rfl := h11 (hall ⟨11, .guard⟩ (by simp) rfl)
      obtain rfl := h13 (hall ⟨13, .data⟩ (by simp) rfl)
      obtain rfl := h18 (hall ⟨18, .data⟩ (by simp) rfl)
      refine wpOp_on ho' rfl fun K hK => ?_
      go_simp
      exact hK _ _ ⟨y0, y1, y2, y3, y4, y5, y6, y7, y8, y9, y10, _, y12, _, y14, y15, y16, y17, _, _, y20, y21, rfl, hb, h0, h1, h2, h3, h4, h5, h6, h7, h8, h9, h10, fun _ => rfl, h12, fun _ => rfl, h14, h15, h16, h17, fun _ => rfl, fun _ => (by first | rfl | simp), h20, h21⟩
    | 20, _ =>
      have ho' := ho
      simp [opsregKs16] at ho
      subst ho
      obtain rfl := h11 (hall ⟨11, .data⟩ (by simp) rfl)
      obtain rfl := h19 (hall ⟨19, .data⟩ (by simp) rfl)
      refine wpOp_one ho' rfl fun K hK => ?_
      go_simp
      exact hK _ _ ⟨y0, y1, y2, y3, y4, y5, y6, y7, y8, y9, y10, _, y12, y13, y14, y15, y16, y17, y18, _, _, y21, rfl, hb, h0, h1, h2, h3, h4, h5, h6, h7, h8, h9, h10, fun _ => rfl, h12, h13, h14, h15, h16, h17, h18, fun _ => rfl, fun _ => (by first | rfl | simp), h21⟩
    | 21, _ =>
      have ho' := ho
      simp [opsregKs16] at ho
      subst ho
      obtain rfl := h20 (hall ⟨20, .data⟩ (by simp) rfl)
      refine wpOp_one ho' rfl fun K hK => ?_
      go_simp
      exact hK _ _ ⟨y0, y1, y2, y3, y4, y5, y6, y7, y8, y9, y10, y11, y12, y13, y14, y15, y16, y17, y18, y19, _, _, rfl, hb, h0, h1, h2, h3, h4, h5, h6, h7, h8, h9, h10, h11, h12, h13, h14, h15, h16, h17, h18, h19, fun _ => rfl, fun _ => (by first | rfl | simp)⟩
    | k + 22, hi => omega


end Go.Proofs.Ytkkmopcmilgdoaa
