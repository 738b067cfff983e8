/- A drawn region of the walk of PlaceNested: the first number of a list is one of a scope.
   Conditions: the cells that it loads lie in memory. -/
import Derived.Test.YtinlbckdgdojkaaOrder
import Derived.Test.YtinlbckdgdojkaaRows
import Derived.WalkKit
import Derived.KernelRfl
namespace Go.Proofs.Ytinlbckdgdojkaa
open Go.RowKit
abbrev opsregPN : Array Oper := #[{ dst := some 96, op := Op.move (Operand.tmp 7), type := 44, pos := "law.go:58", after := #[], guard := none },
  { dst := some 97, op := Op.move (Operand.tmp 10), type := 3, pos := "law.go:58", after := #[], guard := none },
  { dst := some 98, op := Op.indexAddr 44 (Operand.tmp 96) (Operand.tmp 97), type := 0, pos := "law.go:58", after := #[{ on := 0, ground := Ground.data }, { on := 1, ground := Ground.data }], guard := none },
  { dst := some 99, op := Op.load 3 (Operand.tmp 98), type := 3, pos := "law.go:58", after := #[{ on := 2, ground := Ground.data }], guard := none },
  { dst := some 100, op := Op.binOp BinOp.lss 3 (Operand.tmp 99) (Operand.const (Value.int IntKind.i64 0)) 3, type := 4, pos := "law.go:58", after := #[{ on := 3, ground := Ground.data }], guard := none },
  { dst := some 101, op := Op.move (Operand.tmp 100), type := 4, pos := "law.go:58", after := #[{ on := 4, ground := Ground.data }], guard := none },
  { dst := some 102, op := Op.move (Operand.tmp 7), type := 44, pos := "law.go:58", after := #[{ on := 5, ground := Ground.guard }], guard := some (5, false) },
  { dst := some 103, op := Op.move (Operand.tmp 10), type := 3, pos := "law.go:58", after := #[{ on := 5, ground := Ground.guard }], guard := some (5, false) },
  { dst := some 104, op := Op.indexAddr 44 (Operand.tmp 102) (Operand.tmp 103), type := 0, pos := "law.go:58", after := #[{ on := 6, ground := Ground.data }, { on := 7, ground := Ground.data }, { on := 5, ground := Ground.guard }], guard := some (5, false) },
  { dst := some 105, op := Op.load 3 (Operand.tmp 104), type := 3, pos := "law.go:58", after := #[{ on := 8, ground := Ground.data }, { on := 5, ground := Ground.guard }], guard := some (5, false) },
  { dst := some 106, op := Op.fieldAddr 40 (Operand.tmp 5) 2, type := 0, pos := "law.go:58", after := #[{ on := 5, ground := Ground.guard }], guard := some (5, false) },
  { dst := some 107, op := Op.load 37 (Operand.tmp 106), type := 37, pos := "law.go:58", after := #[{ on := 10, ground := Ground.data }, { on := 5, ground := Ground.guard }], guard := some (5, false) },
  { dst := some 108, op := Op.call { callee := Callee.builtin Builtin.len, args := #[Operand.tmp 107], argTypes := #[37] }, type := 3, pos := "law.go:58", after := #[{ on := 11, ground := Ground.data }, { on := 5, ground := Ground.guard }], guard := some (5, false) },
  { dst := some 109, op := Op.binOp BinOp.geq 3 (Operand.tmp 105) (Operand.tmp 108) 3, type := 4, pos := "law.go:58", after := #[{ on := 9, ground := Ground.data }, { on := 12, ground := Ground.data }, { on := 5, ground := Ground.guard }], guard := some (5, false) },
  { dst := some 110, op := Op.pick (Operand.tmp 101) (Operand.const (Value.bool true)) (Operand.tmp 109), type := 4, pos := "law.go:58", after := #[{ on := 5, ground := Ground.data }, { on := 13, ground := Ground.data }], guard := none },
  { dst := some 111, op := Op.move (Operand.tmp 110), type := 4, pos := "law.go:58", after := #[{ on := 14, ground := Ground.data }, { on := 5, ground := Ground.chain }], guard := none },
  { dst := some 112, op := Op.move (Operand.tmp 10), type := 3, pos := "law.go:58", after := #[{ on := 15, ground := Ground.guard }], guard := some (15, false) },
  { dst := some 113, op := Op.binOp BinOp.gtr 3 (Operand.tmp 112) (Operand.const (Value.int IntKind.i64 0)) 3, type := 4, pos := "law.go:58", after := #[{ on := 16, ground := Ground.data }, { on := 15, ground := Ground.guard }], guard := some (15, false) },
  { dst := some 114, op := Op.move (Operand.tmp 113), type := 4, pos := "law.go:58", after := #[{ on := 17, ground := Ground.data }, { on := 15, ground := Ground.chain }, { on := 15, ground := Ground.guard }], guard := some (15, false) },
  { dst := some 115, op := Op.move (Operand.tmp 7), type := 44, pos := "law.go:58", after := #[{ on := 18, ground := Ground.guard }], guard := some (18, true) },
  { dst := some 116, op := Op.move (Operand.tmp 10), type := 3, pos := "law.go:58", after := #[{ on := 18, ground := Ground.guard }], guard := some (18, true) },
  { dst := some 117, op := Op.binOp BinOp.sub 3 (Operand.tmp 116) (Operand.const (Value.int IntKind.i64 1)) 3, type := 3, pos := "law.go:58", after := #[{ on := 20, ground := Ground.data }, { on := 18, ground := Ground.guard }], guard := some (18, true) },
  { dst := some 118, op := Op.indexAddr 44 (Operand.tmp 115) (Operand.tmp 117), type := 0, pos := "law.go:58", after := #[{ on := 19, ground := Ground.data }, { on := 21, ground := Ground.data }, { on := 18, ground := Ground.guard }], guard := some (18, true) },
  { dst := some 119, op := Op.load 3 (Operand.tmp 118), type := 3, pos := "law.go:58", after := #[{ on := 22, ground := Ground.data }, { on := 18, ground := Ground.guard }], guard := some (18, true) },
  { dst := some 120, op := Op.move (Operand.tmp 7), type := 44, pos := "law.go:58", after := #[{ on := 18, ground := Ground.guard }], guard := some (18, true) },
  { dst := some 121, op := Op.move (Operand.tmp 10), type := 3, pos := "law.go:58", after := #[{ on := 18, ground := Ground.guard }], guard := some (18, true) },
  { dst := some 122, op := Op.indexAddr 44 (Operand.tmp 120) (Operand.tmp 121), type := 0, pos := "law.go:58", after := #[{ on := 24, ground := Ground.data }, { on := 25, ground := Ground.data }, { on := 18, ground := Ground.guard }], guard := some (18, true) },
  { dst := some 123, op := Op.load 3 (Operand.tmp 122), type := 3, pos := "law.go:58", after := #[{ on := 26, ground := Ground.data }, { on := 18, ground := Ground.guard }], guard := some (18, true) },
  { dst := some 124, op := Op.binOp BinOp.geq 3 (Operand.tmp 119) (Operand.tmp 123) 3, type := 4, pos := "law.go:58", after := #[{ on := 23, ground := Ground.data }, { on := 27, ground := Ground.data }, { on := 18, ground := Ground.guard }], guard := some (18, true) },
  { dst := some 125, op := Op.pick (Operand.tmp 114) (Operand.tmp 124) (Operand.const (Value.bool false)), type := 4, pos := "law.go:58", after := #[{ on := 18, ground := Ground.data }, { on := 28, ground := Ground.data }, { on := 15, ground := Ground.guard }], guard := some (15, false) },
  { dst := some 126, op := Op.pick (Operand.tmp 111) (Operand.const (Value.bool true)) (Operand.tmp 125), type := 4, pos := "law.go:58", after := #[{ on := 15, ground := Ground.data }, { on := 29, ground := Ground.data }], guard := none }]
def WregPN (g na va mb cN cC z1 : Nat) (cA : Option Addr) (D : List Deferred) (v0 v1 v2 v3 v4 v6 v8 v9 v11 v12 v13 v14 v15 v16 v17 v18 v19 v20 v21 v22 v23 v24 v25 v26 v27 v28 v29 v30 v31 v32 v33 v34 v35 v36 v37 v38 v39 v40 v41 v42 v43 v44 v45 v46 v47 v48 v49 v50 v51 v52 v53 v54 v55 v56 v57 v58 v59 v60 v61 v62 v63 v64 v65 v66 v67 v68 v69 v70 v71 v72 v73 v74 v75 v76 v77 v78 v79 v80 v81 v82 v83 v84 v85 v86 v87 v88 v89 v90 v91 v92 v93 v94 v95 v127 v128 v129 v130 v131 v132 v133 v134 v135 v136 v137 v138 v139 v140 v141 v142 v143 v144 v145 v146 v147 : Value) (w0 : World) (l : Nat → Bool) (a : Act) (w : World) : Prop :=
  ∃ (y0 y1 y2 y3 y4 y5 y6 y7 y8 y9 y10 y11 y12 y13 y14 y15 y16 y17 y18 y19 y20 y21 y22 y23 y24 y25 y26 y27 y28 y29 y30 : Value), a = { tmps := #[v0, v1, v2, v3, v4, .pointer (some ⟨mb, 0, none⟩), v6, .slice (some ⟨g, 0, none⟩) na va, v8, v9, .int .i64 0, v11, v12, v13, v14, v15, v16, v17, v18, v19, v20, v21, v22, v23, v24, v25, v26, v27, v28, v29, v30, v31, v32, v33, v34, v35, v36, v37, v38, v39, v40, v41, v42, v43, v44, v45, v46, v47, v48, v49, v50, v51, v52, v53, v54, v55, v56, v57, v58, v59, v60, v61, v62, v63, v64, v65, v66, v67, v68, v69, v70, v71, v72, v73, v74, v75, v76, v77, v78, v79, v80, v81, v82, v83, v84, v85, v86, v87, v88, v89, v90, v91, v92, v93, v94, v95, y0, y1, y2, y3, y4, y5, y6, y7, y8, y9, y10, y11, y12, y13, y14, y15, y16, y17, y18, y19, y20, y21, y22, y23, y24, y25, y26, y27, y28, y29, y30, v127, v128, v129, v130, v131, v132, v133, v134, v135, v136, v137, v138, v139, v140, v141, v142, v143, v144, v145, v146, v147], defers := D } ∧ Below w0.heap.size w0 w ∧
    (l 0 = true → y0 = .slice (some ⟨g, 0, none⟩) na va) ∧ (l 1 = true → y1 = .int .i64 0) ∧ (l 2 = true → y2 = .pointer (some ⟨g, 0, none⟩)) ∧ (l 3 = true → y3 = .int .i64 (z1 : Int)) ∧ (l 4 = true → y4 = .bool false) ∧ (l 5 = true → y5 = .bool false) ∧ (l 6 = true → y6 = .slice (some ⟨g, 0, none⟩) na va) ∧ (l 7 = true → y7 = .int .i64 0) ∧ (l 8 = true → y8 = .pointer (some ⟨g, 0, none⟩)) ∧ (l 9 = true → y9 = .int .i64 (z1 : Int)) ∧ (l 10 = true → y10 = .pointer (some ⟨mb, 9, none⟩)) ∧ (l 11 = true → y11 = .slice cA cN cC) ∧ (l 12 = true → y12 = .int .i64 (cN : Int)) ∧ (l 13 = true → y13 = .bool false) ∧ (l 14 = true → y14 = .bool false) ∧ (l 15 = true → y15 = .bool false) ∧ (l 16 = true → y16 = .int .i64 0) ∧ (l 17 = true → y17 = .bool false) ∧ (l 18 = true → y18 = .bool false) ∧ (l 29 = true → y29 = .bool false) ∧ (l 30 = true → y30 = .bool false)
set_option maxHeartbeats 8000000 in
set_option maxRecDepth 100000 in
theorem regPN (g na va mb cN cC z1 : Nat) (cA : Option Addr) (D : List Deferred) (v0 v1 v2 v3 v4 v6 v8 v9 v11 v12 v13 v14 v15 v16 v17 v18 v19 v20 v21 v22 v23 v24 v25 v26 v27 v28 v29 v30 v31 v32 v33 v34 v35 v36 v37 v38 v39 v40 v41 v42 v43 v44 v45 v46 v47 v48 v49 v50 v51 v52 v53 v54 v55 v56 v57 v58 v59 v60 v61 v62 v63 v64 v65 v66 v67 v68 v69 v70 v71 v72 v73 v74 v75 v76 v77 v78 v79 v80 v81 v82 v83 v84 v85 v86 v87 v88 v89 v90 v91 v92 v93 v94 v95 v127 v128 v129 v130 v131 v132 v133 v134 v135 v136 v137 v138 v139 v140 v141 v142 v143 v144 v145 v146 v147 wy0 wy1 wy2 wy3 wy4 wy5 wy6 wy7 wy8 wy9 wy10 wy11 wy12 wy13 wy14 wy15 wy16 wy17 wy18 wy19 wy20 wy21 wy22 wy23 wy24 wy25 wy26 wy27 wy28 wy29 wy30 : Value) (w : World) (hS : ∀ w', Below w.heap.size w w' → w'.cell? ⟨g, 0, none⟩ = some (.int .i64 (z1 : Int))) (hM : ∀ w', Below w.heap.size w w' → w'.cell? ⟨mb, 9, none⟩ = some (.slice cA cN cC)) (hn : 0 < na) (hz : ¬ ((z1 : Int) < 0)) (hz1 : ¬ ((cN : Int) ≤ (z1 : Int))) (Q : Exit → Act → World → Prop)
    (hQ : ∀ (y0 y1 y2 y3 y4 y5 y6 y7 y8 y9 y10 y11 y12 y13 y14 y15 y16 y17 y18 y19 y20 y21 y22 y23 y24 y25 y26 y27 y28 y29 : Value) (w' : World), Below w.heap.size w w' → Q .normal { tmps := #[v0, v1, v2, v3, v4, .pointer (some ⟨mb, 0, none⟩), v6, .slice (some ⟨g, 0, none⟩) na va, v8, v9, .int .i64 0, v11, v12, v13, v14, v15, v16, v17, v18, v19, v20, v21, v22, v23, v24, v25, v26, v27, v28, v29, v30, v31, v32, v33, v34, v35, v36, v37, v38, v39, v40, v41, v42, v43, v44, v45, v46, v47, v48, v49, v50, v51, v52, v53, v54, v55, v56, v57, v58, v59, v60, v61, v62, v63, v64, v65, v66, v67, v68, v69, v70, v71, v72, v73, v74, v75, v76, v77, v78, v79, v80, v81, v82, v83, v84, v85, v86, v87, v88, v89, v90, v91, v92, v93, v94, v95, y0, y1, y2, y3, y4, y5, y6, y7, y8, y9, y10, y11, y12, y13, y14, y15, y16, y17, y18, y19, y20, y21, y22, y23, y24, y25, y26, y27, y28, y29, .bool false, v127, v128, v129, v130, v131, v132, v133, v134, v135, v136, v137, v138, v139, v140, v141, v142, v143, v144, v145, v146, v147], defers := D } w') :
    (Code.region 13 opsregPN true).wp Try.prog Q { tmps := #[v0, v1, v2, v3, v4, .pointer (some ⟨mb, 0, none⟩), v6, .slice (some ⟨g, 0, none⟩) na va, v8, v9, .int .i64 0, v11, v12, v13, v14, v15, v16, v17, v18, v19, v20, v21, v22, v23, v24, v25, v26, v27, v28, v29, v30, v31, v32, v33, v34, v35, v36, v37, v38, v39, v40, v41, v42, v43, v44, v45, v46, v47, v48, v49, v50, v51, v52, v53, v54, v55, v56, v57, v58, v59, v60, v61, v62, v63, v64, v65, v66, v67, v68, v69, v70, v71, v72, v73, v74, v75, v76, v77, v78, v79, v80, v81, v82, v83, v84, v85, v86, v87, v88, v89, v90, v91, v92, v93, v94, v95, wy0, wy1, wy2, wy3, wy4, wy5, wy6, wy7, wy8, wy9, wy10, wy11, wy12, wy13, wy14, wy15, wy16, wy17, wy18, wy19, wy20, wy21, wy22, wy23, wy24, wy25, wy26, wy27, wy28, wy29, wy30, v127, v128, v129, v130, v131, v132, v133, v134, v135, v136, v137, v138, v139, v140, v141, v142, v143, v144, v145, v146, v147], defers := D } w := by
  refine wp_region_inv (by kernel_rfl) (WregPN g na va mb cN cC z1 cA D v0 v1 v2 v3 v4 v6 v8 v9 v11 v12 v13 v14 v15 v16 v17 v18 v19 v20 v21 v22 v23 v24 v25 v26 v27 v28 v29 v30 v31 v32 v33 v34 v35 v36 v37 v38 v39 v40 v41 v42 v43 v44 v45 v46 v47 v48 v49 v50 v51 v52 v53 v54 v55 v56 v57 v58 v59 v60 v61 v62 v63 v64 v65 v66 v67 v68 v69 v70 v71 v72 v73 v74 v75 v76 v77 v78 v79 v80 v81 v82 v83 v84 v85 v86 v87 v88 v89 v90 v91 v92 v93 v94 v95 v127 v128 v129 v130 v131 v132 v133 v134 v135 v136 v137 v138 v139 v140 v141 v142 v143 v144 v145 v146 v147 w) ?hacy ?h0 ?hstep ?hdone
  case hacy => kernel_rfl
  case h0 => exact ⟨wy0, wy1, wy2, wy3, wy4, wy5, wy6, wy7, wy8, wy9, wy10, wy11, wy12, wy13, wy14, wy15, wy16, wy17, wy18, wy19, wy20, wy21, wy22, wy23, wy24, wy25, wy26, wy27, wy28, wy29, wy30, rfl, below_drewN (Below.refl _ _) 1, (fun p => by cases p), (fun p => by cases p), (fun p => by cases p), (fun p => by cases p), (fun p => by cases p), (fun p => by cases p), (fun p => by cases p), (fun p => by cases p), (fun p => by cases p), (fun p => by cases p), (fun p => by cases p), (fun p => by cases p), (fun p => by cases p), (fun p => by cases p), (fun p => by cases p), (fun p => by cases p), (fun p => by cases p), (fun p => by cases p), (fun p => by cases p), (fun p => by cases p), (fun p => by cases p)⟩
  case hdone =>
    intro l a w1 hI hall
    obtain ⟨y0, y1, y2, y3, y4, y5, y6, y7, y8, y9, y10, y11, y12, y13, y14, y15, y16, y17, y18, y19, y20, y21, y22, y23, y24, y25, y26, y27, y28, y29, y30, rfl, hb, h0, h1, h2, h3, h4, h5, h6, h7, h8, h9, h10, h11, h12, h13, h14, h15, h16, h17, h18, h29, h30⟩ := hI
    obtain rfl := h30 (hall 30 (by decide))
    exact hQ _ _ _ _ _ _ _ _ _ _ _ _ _ _ _ _ _ _ _ _ _ _ _ _ _ _ _ _ _ _ _ hb
  case hstep =>
    intro l a w1 i o hI ho hl hall
    obtain ⟨y0, y1, y2, y3, y4, y5, y6, y7, y8, y9, y10, y11, y12, y13, y14, y15, y16, y17, y18, y19, y20, y21, y22, y23, y24, y25, y26, y27, y28, y29, y30, rfl, hb, h0, h1, h2, h3, h4, h5, h6, h7, h8, h9, h10, h11, h12, h13, h14, h15, h16, h17, h18, h29, h30⟩ := hI
    have hi : i < 31 := (Array.getElem?_eq_some_iff.1 ho).1
    match i, hi with
    | 0, _ =>
      have ho' := ho
      simp [opsregPN] at ho
      subst ho
      refine wpOp_one ho' rfl fun K hK => ?_
      go_simp
      exact hK _ _ ⟨_, y1, y2, y3, y4, y5, y6, y7, y8, y9, y10, y11, y12, y13, y14, y15, y16, y17, y18, y19, y20, y21, y22, y23, y24, y25, y26, y27, y28, y29, y30, rfl, hb, fun _ => (by first | rfl | simp), h1, h2, h3, h4, h5, h6, h7, h8, h9, h10, h11, h12, h13, h14, h15, h16, h17, h18, h29, h30⟩
    | 1, _ =>
      have ho' := ho
      simp [opsregPN] at ho
      subst ho
      refine wpOp_one ho' rfl fun K hK => ?_
      go_simp
      exact hK _ _ ⟨y0, _, y2, y3, y4, y5, y6, y7, y8, y9, y10, y11, y12, y13, y14, y15, y16, y17, y18, y19, y20, y21, y22, y23, y24, y25, y26, y27, y28, y29, y30, rfl, hb, h0, fun _ => (by first | rfl | simp), h2, h3, h4, h5, h6, h7, h8, h9, h10, h11, h12, h13, h14, h15, h16, h17, h18, h29, h30⟩
    | 2, _ =>
      have ho' := ho
      simp [opsregPN] at ho
      subst ho
      obtain rfl := h0 (hall ⟨0, .data⟩ (by simp) rfl)
      obtain rfl := h1 (hall ⟨1, .data⟩ (by simp) rfl)
      refine wpOp_one ho' rfl fun K hK => ?_
      go_simp
      exact hK _ _ ⟨_, _, _, y3, y4, y5, y6, y7, y8, y9, y10, y11, y12, y13, y14, y15, y16, y17, y18, y19, y20, y21, y22, y23, y24, y25, y26, y27, y28, y29, y30, rfl, hb, fun _ => rfl, fun _ => rfl, fun _ => (by first | rfl | simp), h3, h4, h5, h6, h7, h8, h9, h10, h11, h12, h13, h14, h15, h16, h17, h18, h29, h30⟩
    | 3, _ =>
      have ho' := ho
      simp [opsregPN] at ho
      subst ho
      obtain rfl := h2 (hall ⟨2, .data⟩ (by simp) rfl)
      refine wpOp_one ho' rfl fun K hK => ?_
      have hc := hS w1 hb
      go_simp
      exact hK _ _ ⟨y0, y1, _, _, y4, y5, y6, y7, y8, y9, y10, y11, y12, y13, y14, y15, y16, y17, y18, y19, y20, y21, y22, y23, y24, y25, y26, y27, y28, y29, y30, rfl, hb, h0, h1, fun _ => rfl, fun _ => (by first | rfl | simp), h4, h5, h6, h7, h8, h9, h10, h11, h12, h13, h14, h15, h16, h17, h18, h29, h30⟩
    | 4, _ =>
      have ho' := ho
      simp [opsregPN] at ho
      subst ho
      obtain rfl := h3 (hall ⟨3, .data⟩ (by simp) rfl)
      refine wpOp_one ho' rfl fun K hK => ?_
      go_simp
      exact hK _ _ ⟨y0, y1, y2, _, _, y5, y6, y7, y8, y9, y10, y11, y12, y13, y14, y15, y16, y17, y18, y19, y20, y21, y22, y23, y24, y25, y26, y27, y28, y29, y30, rfl, hb, h0, h1, h2, fun _ => rfl, fun _ => (by first | rfl | simp), h5, h6, h7, h8, h9, h10, h11, h12, h13, h14, h15, h16, h17, h18, h29, h30⟩
    | 5, _ =>
      have ho' := ho
      simp [opsregPN] at ho
      subst ho
      obtain rfl := h4 (hall ⟨4, .data⟩ (by simp) rfl)
      refine wpOp_one ho' rfl fun K hK => ?_
      go_simp
      exact hK _ _ ⟨y0, y1, y2, y3, _, _, y6, y7, y8, y9, y10, y11, y12, y13, y14, y15, y16, y17, y18, y19, y20, y21, y22, y23, y24, y25, y26, y27, y28, y29, y30, rfl, hb, h0, h1, h2, h3, fun _ => rfl, fun _ => (by first | rfl | simp), h6, h7, h8, h9, h10, h11, h12, h13, h14, h15, h16, h17, h18, h29, h30⟩
    | 6, _ =>
      have ho' := ho
      simp [opsregPN] at ho
      subst ho
      obtain rfl := h5 (hall ⟨5, .guard⟩ (by simp) rfl)
      refine wpOp_on ho' rfl fun K hK => ?_
      go_simp
      exact hK _ _ ⟨y0, y1, y2, y3, y4, _, _, y7, y8, y9, y10, y11, y12, y13, y14, y15, y16, y17, y18, y19, y20, y21, y22, y23, y24, y25, y26, y27, y28, y29, y30, rfl, hb, h0, h1, h2, h3, h4, fun _ => rfl, fun _ => (by first | rfl | simp), h7, h8, h9, h10, h11, h12, h13, h14, h15, h16, h17, h18, h29, h30⟩
    | 7, _ =>
      have ho' := ho
      simp [opsregPN] at ho
      subst ho
      obtain rfl := h5 (hall ⟨5, .guard⟩ (by simp) rfl)
      refine wpOp_on ho' rfl fun K hK => ?_
      go_simp
      exact hK _ _ ⟨y0, y1, y2, y3, y4, _, y6, _, y8, y9, y10, y11, y12, y13, y14, y15, y16, y17, y18, y19, y20, y21, y22, y23, y24, y25, y26, y27, y28, y29, y30, rfl, hb, h0, h1, h2, h3, h4, fun _ => rfl, h6, fun _ => (by first | rfl | simp), h8, h9, h10, h11, h12, h13, h14, h15, h16, h17, h18, h29, h30⟩
    | 8, _ =>
      have ho' := ho
      simp [opsregPN] at ho
      subst ho
      obtain rfl := h5 (hall ⟨5, .guard⟩ (by simp) rfl)
      obtain rfl := h6 (hall ⟨6, .data⟩ (by simp) rfl)
      obtain rfl := h7 (hall ⟨7, .data⟩ (by simp) rfl)
      refine wpOp_on ho' rfl fun K hK => ?_
      go_simp
      exact hK _ _ ⟨y0, y1, y2, y3, y4, _, _, _, _, y9, y10, y11, y12, y13, y14, y15, y16, y17, y18, y19, y20, y21, y22, y23, y24, y25, y26, y27, y28, y29, y30, rfl, hb, h0, h1, h2, h3, h4, fun _ => rfl, fun _ => rfl, fun _ => rfl, fun _ => (by first | rfl | simp), h9, h10, h11, h12, h13, h14, h15, h16, h17, h18, h29, h30⟩
    | 9, _ =>
      have ho' := ho
      simp [opsregPN] at ho
      subst ho
      obtain rfl := h5 (hall ⟨5, .guard⟩ (by simp) rfl)
      obtain rfl := h8 (hall ⟨8, .data⟩ (by simp) rfl)
      refine wpOp_on ho' rfl fun K hK => ?_
      have hc := hS w1 hb
      go_simp
      exact hK _ _ ⟨y0, y1, y2, y3, y4, _, y6, y7, _, _, y10, y11, y12, y13, y14, y15, y16, y17, y18, y19, y20, y21, y22, y23, y24, y25, y26, y27, y28, y29, y30, rfl, hb, h0, h1, h2, h3, h4, fun _ => rfl, h6, h7, fun _ => rfl, fun _ => (by first | rfl | simp), h10, h11, h12, h13, h14, h15, h16, h17, h18, h29, h30⟩
    | 10, _ =>
      have ho' := ho
      simp [opsregPN] at ho
      subst ho
      obtain rfl := h5 (hall ⟨5, .guard⟩ (by simp) rfl)
      refine wpOp_on ho' rfl fun K hK => ?_
      go_simp
      exact hK _ _ ⟨y0, y1, y2, y3, y4, _, y6, y7, y8, y9, _, y11, y12, y13, y14, y15, y16, y17, y18, y19, y20, y21, y22, y23, y24, y25, y26, y27, y28, y29, y30, rfl, hb, h0, h1, h2, h3, h4, fun _ => rfl, h6, h7, h8, h9, fun _ => (by first | rfl | simp), h11, h12, h13, h14, h15, h16, h17, h18, h29, h30⟩
    | 11, _ =>
      have ho' := ho
      simp [opsregPN] at ho
      subst ho
      obtain rfl := h5 (hall ⟨5, .guard⟩ (by simp) rfl)
      obtain rfl := h10 (hall ⟨10, .data⟩ (by simp) rfl)
      refine wpOp_on ho' rfl fun K hK => ?_
      have hc := hM w1 hb
      go_simp
      exact hK _ _ ⟨y0, y1, y2, y3, y4, _, y6, y7, y8, y9, _, _, y12, y13, y14, y15, y16, y17, y18, y19, y20, y21, y22, y23, y24, y25, y26, y27, y28, y29, y30, rfl, hb, h0, h1, h2, h3, h4, fun _ => rfl, h6, h7, h8, h9, fun _ => rfl, fun _ => (by first | rfl | simp), h12, h13, h14, h15, h16, h17, h18, h29, h30⟩
    | 12, _ =>
      have ho' := ho
      simp [opsregPN] at ho
      subst ho
      obtain rfl := h5 (hall ⟨5, .guard⟩ (by simp) rfl)
      obtain rfl := h11 (hall ⟨11, .data⟩ (by simp) rfl)
      refine wpOp_on ho' rfl fun K hK => ?_
      go_simp
      exact hK _ _ ⟨y0, y1, y2, y3, y4, _, y6, y7, y8, y9, y10, _, _, y13, y14, y15, y16, y17, y18, y19, y20, y21, y22, y23, y24, y25, y26, y27, y28, y29, y30, rfl, hb, h0, h1, h2, h3, h4, fun _ => rfl, h6, h7, h8, h9, h10, fun _ => rfl, fun _ => (by first | rfl | simp), h13, h14, h15, h16, h17, h18, h29, h30⟩
    | 13, _ =>
      have ho' := ho
      simp [opsregPN] at ho
      subst ho
      obtain rfl := h5 (hall ⟨5, .guard⟩ (by simp) rfl)
      obtain rfl := h9 (hall ⟨9, .data⟩ (by simp) rfl)
      obtain rfl := h12 (hall ⟨12, .data⟩ (by simp) rfl)
      refine wpOp_on ho' rfl fun K hK => ?_
      go_simp
      exact hK _ _ ⟨y0, y1, y2, y3, y4, _, y6, y7, y8, _, y10, y11, _, _, y14, y15, y16, y17, y18, y19, y20, y21, y22, y23, y24, y25, y26, y27, y28, y29, y30, rfl, hb, h0, h1, h2, h3, h4, fun _ => rfl, h6, h7, h8, fun _ => rfl, h10, h11, fun _ => rfl, fun _ => (by first | rfl | simp), h14, h15, h16, h17, h18, h29, h30⟩
    | 14, _ =>
      have ho' := ho
      simp [opsregPN] at ho
      subst ho
      obtain rfl := h5 (hall ⟨5, .data⟩ (by simp) rfl)
      obtain rfl := h13 (hall ⟨13, .data⟩ (by simp) rfl)
      refine wpOp_one ho' rfl fun K hK => ?_
      go_simp
      exact hK _ _ ⟨y0, y1, y2, y3, y4, _, y6, y7, y8, y9, y10, y11, y12, _, _, y15, y16, y17, y18, y19, y20, y21, y22, y23, y24, y25, y26, y27, y28, y29, y30, rfl, hb, h0, h1, h2, h3, h4, fun _ => rfl, h6, h7, h8, h9, h10, h11, h12, fun _ => rfl, fun _ => (by first | rfl | simp), h15, h16, h17, h18, h29, h30⟩
    | 15, _ =>
      have ho' := ho
      simp [opsregPN] at ho
      subst ho
      obtain rfl := h14 (hall ⟨14, .data⟩ (by simp) rfl)
      refine wpOp_one ho' rfl fun K hK => ?_
      go_simp
      exact hK _ _ ⟨y0, y1, y2, y3, y4, y5, y6, y7, y8, y9, y10, y11, y12, y13, _, _, y16, y17, y18, y19, y20, y21, y22, y23, y24, y25, y26, y27, y28, y29, y30, rfl, hb, h0, h1, h2, h3, h4, h5, h6, h7, h8, h9, h10, h11, h12, h13, fun _ => rfl, fun _ => (by first | rfl | simp), h16, h17, h18, h29, h30⟩
    | 16, _ =>
      have ho' := ho
      simp [opsregPN] at ho
      subst ho
      obtain rfl := h15 (hall ⟨15, .guard⟩ (by simp) rfl)
      refine wpOp_on ho' rfl fun K hK => ?_
      go_simp
      exact hK _ _ ⟨y0, y1, y2, y3, y4, y5, y6, y7, y8, y9, y10, y11, y12, y13, y14, _, _, y17, y18, y19, y20, y21, y22, y23, y24, y25, y26, y27, y28, y29, y30, rfl, hb, h0, h1, h2, h3, h4, h5, h6, h7, h8, h9, h10, h11, h12, h13, h14, fun _ => rfl, fun _ => (by first | rfl | simp), h17, h18, h29, h30⟩
    | 17, _ =>
      have ho' := ho
      simp [opsregPN] at ho
      subst ho
      obtain rfl := h15 (hall ⟨15, .guard⟩ (by simp) rfl)
      obtain rfl := h16 (hall ⟨16, .data⟩ (by simp) rfl)
      refine wpOp_on ho' rfl fun K hK => ?_
      go_simp
      exact hK _ _ ⟨y0, y1, y2, y3, y4, y5, y6, y7, y8, y9, y10, y11, y12, y13, y14, _, _, _, y18, y19, y20, y21, y22, y23, y24, y25, y26, y27, y28, y29, y30, rfl, hb, h0, h1, h2, h3, h4, h5, h6, h7, h8, h9, h10, h11, h12, h13, h14, fun _ => rfl, fun _ => rfl, fun _ => (by first | rfl | simp), h18, h29, h30⟩
    | 18, _ =>
      have ho' := ho
      simp [opsregPN] at ho
      subst ho
      obtain rfl := h15 (hall ⟨15, .chain⟩ (by simp) rfl)
      obtain rfl := h17 (hall ⟨17, .data⟩ (by simp) rfl)
      refine wpOp_on ho' rfl fun K hK => ?_
      go_simp
      exact hK _ _ ⟨y0, y1, y2, y3, y4, y5, y6, y7, y8, y9, y10, y11, y12, y13, y14, _, y16, _, _, y19, y20, y21, y22, y23, y24, y25, y26, y27, y28, y29, y30, rfl, hb, h0, h1, h2, h3, h4, h5, h6, h7, h8, h9, h10, h11, h12, h13, h14, fun _ => rfl, h16, fun _ => rfl, fun _ => (by first | rfl | simp), h29, h30⟩
    | 19, _ =>
      have ho' := ho
      simp [opsregPN] at ho
      subst ho
      obtain rfl := h18 (hall ⟨18, .guard⟩ (by simp) rfl)
      refine wpOp_off ho' rfl ?_
      exact ⟨y0, y1, y2, y3, y4, y5, y6, y7, y8, y9, y10, y11, y12, y13, y14, y15, y16, y17, _, _, y20, y21, y22, y23, y24, y25, y26, y27, y28, y29, y30, rfl, hb, h0, h1, h2, h3, h4, h5, h6, h7, h8, h9, h10, h11, h12, h13, h14, h15, h16, h17, fun _ => rfl, h29, h30⟩
    | 20, _ =>
      have ho' := ho
      simp [opsregPN] at ho
      subst ho
      obtain rfl := h18 (hall ⟨18, .guard⟩ (by simp) rfl)
      refine wpOp_off ho' rfl ?_
      exact ⟨y0, y1, y2, y3, y4, y5, y6, y7, y8, y9, y10, y11, y12, y13, y14, y15, y16, y17, _, y19, _, y21, y22, y23, y24, y25, y26, y27, y28, y29, y30, rfl, hb, h0, h1, h2, h3, h4, h5, h6, h7, h8, h9, h10, h11, h12, h13, h14, h15, h16, h17, fun _ => rfl, h29, h30⟩
    | 21, _ =>
      have ho' := ho
      simp [opsregPN] at ho
      subst ho
      obtain rfl := h18 (hall ⟨18, .guard⟩ (by simp) rfl)
      refine wpOp_off ho' rfl ?_
      exact ⟨y0, y1, y2, y3, y4, y5, y6, y7, y8, y9, y10, y11, y12, y13, y14, y15, y16, y17, _, y19, y20, _, y22, y23, y24, y25, y26, y27, y28, y29, y30, rfl, hb, h0, h1, h2, h3, h4, h5, h6, h7, h8, h9, h10, h11, h12, h13, h14, h15, h16, h17, fun _ => rfl, h29, h30⟩
    | 22, _ =>
      have ho' := ho
      simp [opsregPN] at ho
      subst ho
      obtain rfl := h18 (hall ⟨18, .guard⟩ (by simp) rfl)
      refine wpOp_off ho' rfl ?_
      exact ⟨y0, y1, y2, y3, y4, y5, y6, y7, y8, y9, y10, y11, y12, y13, y14, y15, y16, y17, _, y19, y20, y21, _, y23, y24, y25, y26, y27, y28, y29, y30, rfl, hb, h0, h1, h2, h3, h4, h5, h6, h7, h8, h9, h10, h11, h12, h13, h14, h15, h16, h17, fun _ => rfl, h29, h30⟩
    | 23, _ =>
      have ho' := ho
      simp [opsregPN] at ho
      subst ho
      obtain rfl := h18 (hall ⟨18, .guard⟩ (by simp) rfl)
      refine wpOp_off ho' rfl ?_
      exact ⟨y0, y1, y2, y3, y4, y5, y6, y7, y8, y9, y10, y11, y12, y13, y14, y15, y16, y17, _, y19, y20, y21, y22, _, y24, y25, y26, y27, y28, y29, y30, rfl, hb, h0, h1, h2, h3, h4, h5, h6, h7, h8, h9, h10, h11, h12, h13, h14, h15, h16, h17, fun _ => rfl, h29, h30⟩
    | 24, _ =>
      have ho' := ho
      simp [opsregPN] at ho
      subst ho
      obtain rfl := h18 (hall ⟨18, .guard⟩ (by simp) rfl)
      refine wpOp_off ho' rfl ?_
      exact ⟨y0, y1, y2, y3, y4, y5, y6, y7, y8, y9, y10, y11, y12, y13, y14, y15, y16, y17, _, y19, y20, y21, y22, y23, _, y25, y26, y27, y28, y29, y30, rfl, hb, h0, h1, h2, h3, h4, h5, h6, h7, h8, h9, h10, h11, h12, h13, h14, h15, h16, h17, fun _ => rfl, h29, h30⟩
    | 25, _ =>
      have ho' := ho
      simp [opsregPN] at ho
      subst ho
      obtain rfl := h18 (hall ⟨18, .guard⟩ (by simp) rfl)
      refine wpOp_off ho' rfl ?_
      exact ⟨y0, y1, y2, y3, y4, y5, y6, y7, y8, y9, y10, y11, y12, y13, y14, y15, y16, y17, _, y19, y20, y21, y22, y23, y24, _, y26, y27, y28, y29, y30, rfl, hb, h0, h1, h2, h3, h4, h5, h6, h7, h8, h9, h10, h11, h12, h13, h14, h15, h16, h17, fun _ => rfl, h29, h30⟩
    | 26, _ =>
      have ho' := ho
      simp [opsregPN] at ho
      subst ho
      obtain rfl := h18 (hall ⟨18, .guard⟩ (by simp) rfl)
      refine wpOp_off ho' rfl ?_
      exact ⟨y0, y1, y2, y3, y4, y5, y6, y7, y8, y9, y10, y11, y12, y13, y14, y15, y16, y17, _, y19, y20, y21, y22, y23, y24, y25, _, y27, y28, y29, y30, rfl, hb, h0, h1, h2, h3, h4, h5, h6, h7, h8, h9, h10, h11, h12, h13, h14, h15, h16, h17, fun _ => rfl, h29, h30⟩
    | 27, _ =>
      have ho' := ho
      simp [opsregPN] at ho
      subst ho
      obtain rfl := h18 (hall ⟨18, .guard⟩ (by simp) rfl)
      refine wpOp_off ho' rfl ?_
      exact ⟨y0, y1, y2, y3, y4, y5, y6, y7, y8, y9, y10, y11, y12, y13, y14, y15, y16, y17, _, y19, y20, y21, y22, y23, y24, y25, y26, _, y28, y29, y30, rfl, hb, h0, h1, h2, h3, h4, h5, h6, h7, h8, h9, h10, h11, h12, h13, h14, h15, h16, h17, fun _ => rfl, h29, h30⟩
    | 28, _ =>
      have ho' := ho
      simp [opsregPN] at ho
      subst ho
      obtain rfl := h18 (hall ⟨18, .guard⟩ (by simp) rfl)
      refine wpOp_off ho' rfl ?_
      exact ⟨y0, y1, y2, y3, y4, y5, y6, y7, y8, y9, y10, y11, y12, y13, y14, y15, y16, y17, _, y19, y20, y21, y22, y23, y24, y25, y26, y27, _, y29, y30, rfl, hb, h0, h1, h2, h3, h4, h5, h6, h7, h8, h9, h10, h11, h12, h13, h14, h15, h16, h17, fun _ => rfl, h29, h30⟩
    | 29, _ =>
      have ho' := ho
      simp [opsregPN] at ho
      subst ho
      obtain rfl := h15 (hall ⟨15, .guard⟩ (by simp) rfl)
      obtain rfl := h18 (hall ⟨18, .data⟩ (by simp) rfl)
      refine wpOp_on ho' rfl fun K hK => ?_
      go_simp
      exact hK _ _ ⟨y0, y1, y2, y3, y4, y5, y6, y7, y8, y9, y10, y11, y12, y13, y14, _, y16, y17, _, y19, y20, y21, y22, y23, y24, y25, y26, y27, y28, _, y30, rfl, hb, h0, h1, h2, h3, h4, h5, h6, h7, h8, h9, h10, h11, h12, h13, h14, fun _ => rfl, h16, h17, fun _ => rfl, fun _ => (by first | rfl | simp), h30⟩
    | 30, _ =>
      have ho' := ho
      simp [opsregPN] at ho
      subst ho
      obtain rfl := h15 (hall ⟨15, .data⟩ (by simp) rfl)
      obtain rfl := h29 (hall ⟨29, .data⟩ (by simp) rfl)
      refine wpOp_one ho' rfl fun K hK => ?_
      go_simp
      exact hK _ _ ⟨y0, y1, y2, y3, y4, y5, y6, y7, y8, y9, y10, y11, y12, y13, y14, _, y16, y17, y18, y19, y20, y21, y22, y23, y24, y25, y26, y27, y28, _, _, rfl, hb, h0, h1, h2, h3, h4, h5, h6, h7, h8, h9, h10, h11, h12, h13, h14, fun _ => rfl, h16, h17, h18, fun _ => rfl, fun _ => (by first | rfl | simp)⟩
    | k + 31, hi => omega


end Go.Proofs.Ytinlbckdgdojkaa
