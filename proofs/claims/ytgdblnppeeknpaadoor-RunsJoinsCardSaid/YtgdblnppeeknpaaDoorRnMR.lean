/- A drawn region of the program's measured.
   Conditions: what it loads lies in memory. -/
import Derived.Test.YtgdblnppeeknpaaDoorRnM
import Derived.Test.YtgdblnppeeknpaaDoorOrdX
import Derived.WalkKit
import Derived.KernelRfl
namespace Go.Proofs.YtgdblnppeeknpaaDoor
open Go.RowKit
abbrev opsregMa : Array Oper := #[{ dst := some 17, op := Op.fieldAddr 42 (Operand.tmp 6) 1, type := 0, pos := "list.go:17", after := #[], guard := none },
  { dst := some 18, op := Op.load 2 (Operand.tmp 17), type := 2, pos := "list.go:17", after := #[{ on := 0, ground := Ground.data }], guard := none },
  { dst := some 19, op := Op.binOp BinOp.lss 2 (Operand.tmp 18) (Operand.const (Value.int IntKind.i64 1)) 2, type := 4, pos := "list.go:17", after := #[{ on := 1, ground := Ground.data }], guard := none },
  { dst := some 20, op := Op.move (Operand.tmp 19), type := 4, pos := "list.go:17", after := #[{ on := 2, ground := Ground.data }], guard := none },
  { dst := some 21, op := Op.fieldAddr 42 (Operand.tmp 6) 1, type := 0, pos := "list.go:17", after := #[{ on := 3, ground := Ground.guard }], guard := some (3, false) },
  { dst := some 22, op := Op.load 2 (Operand.tmp 21), type := 2, pos := "list.go:17", after := #[{ on := 4, ground := Ground.data }, { on := 3, ground := Ground.guard }], guard := some (3, false) },
  { dst := some 23, op := Op.move (Operand.tmp 4), type := 2, pos := "list.go:17", after := #[{ on := 3, ground := Ground.guard }], guard := some (3, false) },
  { dst := some 24, op := Op.binOp BinOp.sub 2 (Operand.const (Value.int IntKind.i64 4611686018427387904)) (Operand.tmp 23) 2, type := 2, pos := "list.go:17", after := #[{ on := 6, ground := Ground.data }, { on := 3, ground := Ground.guard }], guard := some (3, false) },
  { dst := some 25, op := Op.binOp BinOp.gtr 2 (Operand.tmp 22) (Operand.tmp 24) 2, type := 4, pos := "list.go:17", after := #[{ on := 5, ground := Ground.data }, { on := 7, ground := Ground.data }, { on := 3, ground := Ground.guard }], guard := some (3, false) },
  { dst := some 26, op := Op.pick (Operand.tmp 20) (Operand.const (Value.bool true)) (Operand.tmp 25), type := 4, pos := "list.go:17", after := #[{ on := 3, ground := Ground.data }, { on := 8, ground := Ground.data }], guard := none },
  { dst := some 27, op := Op.move (Operand.tmp 26), type := 4, pos := "list.go:17", after := #[{ on := 9, ground := Ground.data }, { on := 3, ground := Ground.chain }], guard := none },
  { dst := some 28, op := Op.move (Operand.tmp 5), type := 3, pos := "list.go:17", after := #[{ on := 10, ground := Ground.guard }], guard := some (10, false) },
  { dst := some 29, op := Op.binOp BinOp.gtr 3 (Operand.tmp 28) (Operand.const (Value.int IntKind.i64 0)) 3, type := 4, pos := "list.go:17", after := #[{ on := 11, ground := Ground.data }, { on := 10, ground := Ground.guard }], guard := some (10, false) },
  { dst := some 30, op := Op.move (Operand.tmp 29), type := 4, pos := "list.go:17", after := #[{ on := 12, ground := Ground.data }, { on := 10, ground := Ground.chain }, { on := 10, ground := Ground.guard }], guard := some (10, false) },
  { dst := some 31, op := Op.move (Operand.tmp 0), type := 24, pos := "list.go:17", after := #[{ on := 13, ground := Ground.guard }], guard := some (13, true) },
  { dst := some 32, op := Op.move (Operand.tmp 5), type := 3, pos := "list.go:17", after := #[{ on := 13, ground := Ground.guard }], guard := some (13, true) },
  { dst := some 33, op := Op.binOp BinOp.sub 3 (Operand.tmp 32) (Operand.const (Value.int IntKind.i64 1)) 3, type := 3, pos := "list.go:17", after := #[{ on := 15, ground := Ground.data }, { on := 13, ground := Ground.guard }], guard := some (13, true) },
  { dst := some 34, op := Op.indexAddr 24 (Operand.tmp 31) (Operand.tmp 33), type := 0, pos := "list.go:17", after := #[{ on := 14, ground := Ground.data }, { on := 16, ground := Ground.data }, { on := 13, ground := Ground.guard }], guard := some (13, true) },
  { dst := some 35, op := Op.fieldAddr 42 (Operand.tmp 34) 0, type := 0, pos := "list.go:17", after := #[{ on := 17, ground := Ground.data }, { on := 13, ground := Ground.guard }], guard := some (13, true) },
  { dst := some 36, op := Op.load 5 (Operand.tmp 35), type := 5, pos := "list.go:17", after := #[{ on := 18, ground := Ground.data }, { on := 13, ground := Ground.guard }], guard := some (13, true) },
  { dst := some 37, op := Op.fieldAddr 42 (Operand.tmp 6) 0, type := 0, pos := "list.go:17", after := #[{ on := 13, ground := Ground.guard }], guard := some (13, true) },
  { dst := some 38, op := Op.load 5 (Operand.tmp 37), type := 5, pos := "list.go:17", after := #[{ on := 20, ground := Ground.data }, { on := 13, ground := Ground.guard }], guard := some (13, true) },
  { dst := some 39, op := Op.binOp BinOp.eql 5 (Operand.tmp 36) (Operand.tmp 38) 5, type := 4, pos := "list.go:17", after := #[{ on := 19, ground := Ground.data }, { on := 21, ground := Ground.data }, { on := 13, ground := Ground.guard }], guard := some (13, true) },
  { dst := some 40, op := Op.pick (Operand.tmp 30) (Operand.tmp 39) (Operand.const (Value.bool false)), type := 4, pos := "list.go:17", after := #[{ on := 13, ground := Ground.data }, { on := 22, ground := Ground.data }, { on := 10, ground := Ground.guard }], guard := some (10, false) },
  { dst := some 41, op := Op.pick (Operand.tmp 27) (Operand.const (Value.bool true)) (Operand.tmp 40), type := 4, pos := "list.go:17", after := #[{ on := 10, ground := Ground.data }, { on := 23, ground := Ground.data }], guard := none }]
def WregMa (i ln cw g o bx : Nat) (t n : Int) (D : List Deferred) (v1 v2 v3 v7 v8 v9 v10 v11 v12 v13 v14 v15 v16 v42 v43 v44 v45 v46 v47 : Value) (w0 : World) (l : Nat → Bool) (a : Act) (w : World) : Prop :=
  ∃ (y0 y1 y2 y3 y4 y5 y6 y7 y8 y9 y10 y11 y12 y13 y14 y15 y16 y17 y18 y19 y20 y21 y22 y23 y24 : Value), a = { tmps := #[.slice (some ⟨g, o, none⟩) ln cw, v1, v2, v3, .int .i64 n, .int .i64 (i : Int), .pointer (some ⟨bx, 0, none⟩), v7, v8, v9, v10, v11, v12, v13, v14, v15, v16, y0, y1, y2, y3, y4, y5, y6, y7, y8, y9, y10, y11, y12, y13, y14, y15, y16, y17, y18, y19, y20, y21, y22, y23, y24, v42, v43, v44, v45, v46, v47], defers := D } ∧ Below w0.heap.size w0 w ∧
    (l 0 = true → y0 = .pointer (some ⟨bx, 1, none⟩)) ∧ (l 1 = true → y1 = .int .i64 t) ∧ (l 2 = true → y2 = .bool true) ∧ (l 3 = true → y3 = .bool true) ∧ (l 9 = true → y9 = .bool true) ∧ (l 10 = true → y10 = .bool true) ∧ (l 13 = true → y13 = undef) ∧ (l 24 = true → y24 = .bool true)
set_option maxHeartbeats 8000000 in
set_option maxRecDepth 100000 in
theorem regMa (i ln cw g o bx : Nat) (t n : Int) (D : List Deferred) (v1 v2 v3 v7 v8 v9 v10 v11 v12 v13 v14 v15 v16 v42 v43 v44 v45 v46 v47 wy0 wy1 wy2 wy3 wy4 wy5 wy6 wy7 wy8 wy9 wy10 wy11 wy12 wy13 wy14 wy15 wy16 wy17 wy18 wy19 wy20 wy21 wy22 wy23 wy24 : Value) (w : World) (c1 : ∀ w', Below w.heap.size w w' → w'.cell? ⟨bx, 1, none⟩ = some (.int .i64 t)) (g1 : t < 1) (Q : Exit → Act → World → Prop)
    (hQ : ∀ (y0 y1 y2 y3 y4 y5 y6 y7 y8 y9 y10 y11 y12 y13 y14 y15 y16 y17 y18 y19 y20 y21 y22 y23 : Value) (w' : World), Below w.heap.size w w' → Q .normal { tmps := #[.slice (some ⟨g, o, none⟩) ln cw, v1, v2, v3, .int .i64 n, .int .i64 (i : Int), .pointer (some ⟨bx, 0, none⟩), v7, v8, v9, v10, v11, v12, v13, v14, v15, v16, y0, y1, y2, y3, y4, y5, y6, y7, y8, y9, y10, y11, y12, y13, y14, y15, y16, y17, y18, y19, y20, y21, y22, y23, .bool true, v42, v43, v44, v45, v46, v47], defers := D } w') :
    (Code.region 7 opsregMa true).wp Tryd.prog Q { tmps := #[.slice (some ⟨g, o, none⟩) ln cw, v1, v2, v3, .int .i64 n, .int .i64 (i : Int), .pointer (some ⟨bx, 0, none⟩), v7, v8, v9, v10, v11, v12, v13, v14, v15, v16, wy0, wy1, wy2, wy3, wy4, wy5, wy6, wy7, wy8, wy9, wy10, wy11, wy12, wy13, wy14, wy15, wy16, wy17, wy18, wy19, wy20, wy21, wy22, wy23, wy24, v42, v43, v44, v45, v46, v47], defers := D } w := by
  refine wp_region_inv (by kernel_rfl) (WregMa i ln cw g o bx t n D v1 v2 v3 v7 v8 v9 v10 v11 v12 v13 v14 v15 v16 v42 v43 v44 v45 v46 v47 w) ?hacy ?h0 ?hstep ?hdone
  case hacy => kernel_rfl
  case h0 => exact ⟨wy0, wy1, wy2, wy3, wy4, wy5, wy6, wy7, wy8, wy9, wy10, wy11, wy12, wy13, wy14, wy15, wy16, wy17, wy18, wy19, wy20, wy21, wy22, wy23, wy24, rfl, below_drewN (Below.refl _ _) 1, (fun p => by cases p), (fun p => by cases p), (fun p => by cases p), (fun p => by cases p), (fun p => by cases p), (fun p => by cases p), (fun p => by cases p), (fun p => by cases p)⟩
  case hdone =>
    intro l a w1 hI hall
    obtain ⟨y0, y1, y2, y3, y4, y5, y6, y7, y8, y9, y10, y11, y12, y13, y14, y15, y16, y17, y18, y19, y20, y21, y22, y23, y24, rfl, hb, h0, h1, h2, h3, h9, h10, h13, h24⟩ := hI
    obtain rfl := h24 (hall 24 (by decide))
    exact hQ _ _ _ _ _ _ _ _ _ _ _ _ _ _ _ _ _ _ _ _ _ _ _ _ _ hb 
  case hstep =>
    intro l a w1 i o hI ho hl hall
    obtain ⟨y0, y1, y2, y3, y4, y5, y6, y7, y8, y9, y10, y11, y12, y13, y14, y15, y16, y17, y18, y19, y20, y21, y22, y23, y24, rfl, hb, h0, h1, h2, h3, h9, h10, h13, h24⟩ := hI
    have hi : i < 25 := (Array.getElem?_eq_some_iff.1 ho).1
    match i, hi with
    | 0, _ =>
      have ho' := ho
      simp [opsregMa] at ho
      subst ho
      refine wpOp_one ho' rfl fun K hK => ?_
      go_simp
      exact hK _ _ ⟨_, y1, y2, y3, y4, y5, y6, y7, y8, y9, y10, y11, y12, y13, y14, y15, y16, y17, y18, y19, y20, y21, y22, y23, y24, rfl, hb, fun _ => (by first | rfl | simp), h1, h2, h3, h9, h10, h13, h24⟩
    | 1, _ =>
      have ho' := ho
      simp [opsregMa] at ho
      subst ho
      obtain rfl := h0 (hall ⟨0, .data⟩ (by simp) rfl)
      refine wpOp_one ho' rfl fun K hK => ?_
      have x1 := c1 w1 hb
      go_simp
      exact hK _ _ ⟨_, _, y2, y3, y4, y5, y6, y7, y8, y9, y10, y11, y12, y13, y14, y15, y16, y17, y18, y19, y20, y21, y22, y23, y24, rfl, hb, fun _ => rfl, fun _ => (by first | rfl | simp), h2, h3, h9, h10, h13, h24⟩
    | 2, _ =>
      have ho' := ho
      simp [opsregMa] at ho
      subst ho
      obtain rfl := h1 (hall ⟨1, .data⟩ (by simp) rfl)
      refine wpOp_one ho' rfl fun K hK => ?_
      go_simp
      exact hK _ _ ⟨y0, _, _, y3, y4, y5, y6, y7, y8, y9, y10, y11, y12, y13, y14, y15, y16, y17, y18, y19, y20, y21, y22, y23, y24, rfl, hb, h0, fun _ => rfl, fun _ => (by first | rfl | simp), h3, h9, h10, h13, h24⟩
    | 3, _ =>
      have ho' := ho
      simp [opsregMa] at ho
      subst ho
      obtain rfl := h2 (hall ⟨2, .data⟩ (by simp) rfl)
      refine wpOp_one ho' rfl fun K hK => ?_
      go_simp
      exact hK _ _ ⟨y0, y1, _, _, y4, y5, y6, y7, y8, y9, y10, y11, y12, y13, y14, y15, y16, y17, y18, y19, y20, y21, y22, y23, y24, rfl, hb, h0, h1, fun _ => rfl, fun _ => (by first | rfl | simp), h9, h10, h13, h24⟩
    | 4, _ =>
      have ho' := ho
      simp [opsregMa] at ho
      subst ho
      obtain rfl := h3 (hall ⟨3, .guard⟩ (by simp) rfl)
      refine wpOq_off ho' rfl ?_
      exact ⟨y0, y1, y2, _, _, y5, y6, y7, y8, y9, y10, y11, y12, y13, y14, y15, y16, y17, y18, y19, y20, y21, y22, y23, y24, rfl, hb, h0, h1, h2, fun _ => rfl, h9, h10, h13, h24⟩
    | 5, _ =>
      have ho' := ho
      simp [opsregMa] at ho
      subst ho
      obtain rfl := h3 (hall ⟨3, .guard⟩ (by simp) rfl)
      refine wpOq_off ho' rfl ?_
      exact ⟨y0, y1, y2, _, y4, _, y6, y7, y8, y9, y10, y11, y12, y13, y14, y15, y16, y17, y18, y19, y20, y21, y22, y23, y24, rfl, hb, h0, h1, h2, fun _ => rfl, h9, h10, h13, h24⟩
    | 6, _ =>
      have ho' := ho
      simp [opsregMa] at ho
      subst ho
      obtain rfl := h3 (hall ⟨3, .guard⟩ (by simp) rfl)
      refine wpOq_off ho' rfl ?_
      exact ⟨y0, y1, y2, _, y4, y5, _, y7, y8, y9, y10, y11, y12, y13, y14, y15, y16, y17, y18, y19, y20, y21, y22, y23, y24, rfl, hb, h0, h1, h2, fun _ => rfl, h9, h10, h13, h24⟩
    | 7, _ =>
      have ho' := ho
      simp [opsregMa] at ho
      subst ho
      obtain rfl := h3 (hall ⟨3, .guard⟩ (by simp) rfl)
      refine wpOq_off ho' rfl ?_
      exact ⟨y0, y1, y2, _, y4, y5, y6, _, y8, y9, y10, y11, y12, y13, y14, y15, y16, y17, y18, y19, y20, y21, y22, y23, y24, rfl, hb, h0, h1, h2, fun _ => rfl, h9, h10, h13, h24⟩
    | 8, _ =>
      have ho' := ho
      simp [opsregMa] at ho
      subst ho
      obtain rfl := h3 (hall ⟨3, .guard⟩ (by simp) rfl)
      refine wpOq_off ho' rfl ?_
      exact ⟨y0, y1, y2, _, y4, y5, y6, y7, _, y9, y10, y11, y12, y13, y14, y15, y16, y17, y18, y19, y20, y21, y22, y23, y24, rfl, hb, h0, h1, h2, fun _ => rfl, h9, h10, h13, h24⟩
    | 9, _ =>
      have ho' := ho
      simp [opsregMa] at ho
      subst ho
      obtain rfl := h3 (hall ⟨3, .data⟩ (by simp) rfl)
      refine wpOp_one ho' rfl fun K hK => ?_
      go_simp
      exact hK _ _ ⟨y0, y1, y2, _, y4, y5, y6, y7, y8, _, y10, y11, y12, y13, y14, y15, y16, y17, y18, y19, y20, y21, y22, y23, y24, rfl, hb, h0, h1, h2, fun _ => rfl, fun _ => (by first | rfl | simp), h10, h13, h24⟩
    | 10, _ =>
      have ho' := ho
      simp [opsregMa] at ho
      subst ho
      obtain rfl := h9 (hall ⟨9, .data⟩ (by simp) rfl)
      refine wpOp_one ho' rfl fun K hK => ?_
      go_simp
      exact hK _ _ ⟨y0, y1, y2, y3, y4, y5, y6, y7, y8, _, _, y11, y12, y13, y14, y15, y16, y17, y18, y19, y20, y21, y22, y23, y24, rfl, hb, h0, h1, h2, h3, fun _ => rfl, fun _ => (by first | rfl | simp), h13, h24⟩
    | 11, _ =>
      have ho' := ho
      simp [opsregMa] at ho
      subst ho
      obtain rfl := h10 (hall ⟨10, .guard⟩ (by simp) rfl)
      refine wpOq_off ho' rfl ?_
      exact ⟨y0, y1, y2, y3, y4, y5, y6, y7, y8, y9, _, _, y12, y13, y14, y15, y16, y17, y18, y19, y20, y21, y22, y23, y24, rfl, hb, h0, h1, h2, h3, h9, fun _ => rfl, h13, h24⟩
    | 12, _ =>
      have ho' := ho
      simp [opsregMa] at ho
      subst ho
      obtain rfl := h10 (hall ⟨10, .guard⟩ (by simp) rfl)
      refine wpOq_off ho' rfl ?_
      exact ⟨y0, y1, y2, y3, y4, y5, y6, y7, y8, y9, _, y11, _, y13, y14, y15, y16, y17, y18, y19, y20, y21, y22, y23, y24, rfl, hb, h0, h1, h2, h3, h9, fun _ => rfl, h13, h24⟩
    | 13, _ =>
      have ho' := ho
      simp [opsregMa] at ho
      subst ho
      obtain rfl := h10 (hall ⟨10, .chain⟩ (by simp) rfl)
      refine wpOq_off ho' rfl ?_
      exact ⟨y0, y1, y2, y3, y4, y5, y6, y7, y8, y9, _, y11, y12, _, y14, y15, y16, y17, y18, y19, y20, y21, y22, y23, y24, rfl, hb, h0, h1, h2, h3, h9, fun _ => rfl, fun _ => rfl, h24⟩
    | 14, _ =>
      have ho' := ho
      simp [opsregMa] at ho
      subst ho
      obtain rfl := h13 (hall ⟨13, .guard⟩ (by simp) rfl)
      refine wpOq_off ho' rfl ?_
      exact ⟨y0, y1, y2, y3, y4, y5, y6, y7, y8, y9, y10, y11, y12, _, _, y15, y16, y17, y18, y19, y20, y21, y22, y23, y24, rfl, hb, h0, h1, h2, h3, h9, h10, fun _ => rfl, h24⟩
    | 15, _ =>
      have ho' := ho
      simp [opsregMa] at ho
      subst ho
      obtain rfl := h13 (hall ⟨13, .guard⟩ (by simp) rfl)
      refine wpOq_off ho' rfl ?_
      exact ⟨y0, y1, y2, y3, y4, y5, y6, y7, y8, y9, y10, y11, y12, _, y14, _, y16, y17, y18, y19, y20, y21, y22, y23, y24, rfl, hb, h0, h1, h2, h3, h9, h10, fun _ => rfl, h24⟩
    | 16, _ =>
      have ho' := ho
      simp [opsregMa] at ho
      subst ho
      obtain rfl := h13 (hall ⟨13, .guard⟩ (by simp) rfl)
      refine wpOq_off ho' rfl ?_
      exact ⟨y0, y1, y2, y3, y4, y5, y6, y7, y8, y9, y10, y11, y12, _, y14, y15, _, y17, y18, y19, y20, y21, y22, y23, y24, rfl, hb, h0, h1, h2, h3, h9, h10, fun _ => rfl, h24⟩
    | 17, _ =>
      have ho' := ho
      simp [opsregMa] at ho
      subst ho
      obtain rfl := h13 (hall ⟨13, .guard⟩ (by simp) rfl)
      refine wpOq_off ho' rfl ?_
      exact ⟨y0, y1, y2, y3, y4, y5, y6, y7, y8, y9, y10, y11, y12, _, y14, y15, y16, _, y18, y19, y20, y21, y22, y23, y24, rfl, hb, h0, h1, h2, h3, h9, h10, fun _ => rfl, h24⟩
    | 18, _ =>
      have ho' := ho
      simp [opsregMa] at ho
      subst ho
      obtain rfl := h13 (hall ⟨13, .guard⟩ (by simp) rfl)
      refine wpOq_off ho' rfl ?_
      exact ⟨y0, y1, y2, y3, y4, y5, y6, y7, y8, y9, y10, y11, y12, _, y14, y15, y16, y17, _, y19, y20, y21, y22, y23, y24, rfl, hb, h0, h1, h2, h3, h9, h10, fun _ => rfl, h24⟩
    | 19, _ =>
      have ho' := ho
      simp [opsregMa] at ho
      subst ho
      obtain rfl := h13 (hall ⟨13, .guard⟩ (by simp) rfl)
      refine wpOq_off ho' rfl ?_
      exact ⟨y0, y1, y2, y3, y4, y5, y6, y7, y8, y9, y10, y11, y12, _, y14, y15, y16, y17, y18, _, y20, y21, y22, y23, y24, rfl, hb, h0, h1, h2, h3, h9, h10, fun _ => rfl, h24⟩
    | 20, _ =>
      have ho' := ho
      simp [opsregMa] at ho
      subst ho
      obtain rfl := h13 (hall ⟨13, .guard⟩ (by simp) rfl)
      refine wpOq_off ho' rfl ?_
      exact ⟨y0, y1, y2, y3, y4, y5, y6, y7, y8, y9, y10, y11, y12, _, y14, y15, y16, y17, y18, y19, _, y21, y22, y23, y24, rfl, hb, h0, h1, h2, h3, h9, h10, fun _ => rfl, h24⟩
    | 21, _ =>
      have ho' := ho
      simp [opsregMa] at ho
      subst ho
      obtain rfl := h13 (hall ⟨13, .guard⟩ (by simp) rfl)
      refine wpOq_off ho' rfl ?_
      exact ⟨y0, y1, y2, y3, y4, y5, y6, y7, y8, y9, y10, y11, y12, _, y14, y15, y16, y17, y18, y19, y20, _, y22, y23, y24, rfl, hb, h0, h1, h2, h3, h9, h10, fun _ => rfl, h24⟩
    | 22, _ =>
      have ho' := ho
      simp [opsregMa] at ho
      subst ho
      obtain rfl := h13 (hall ⟨13, .guard⟩ (by simp) rfl)
      refine wpOq_off ho' rfl ?_
      exact ⟨y0, y1, y2, y3, y4, y5, y6, y7, y8, y9, y10, y11, y12, _, y14, y15, y16, y17, y18, y19, y20, y21, _, y23, y24, rfl, hb, h0, h1, h2, h3, h9, h10, fun _ => rfl, h24⟩
    | 23, _ =>
      have ho' := ho
      simp [opsregMa] at ho
      subst ho
      obtain rfl := h10 (hall ⟨10, .guard⟩ (by simp) rfl)
      obtain rfl := h13 (hall ⟨13, .data⟩ (by simp) rfl)
      refine wpOq_off ho' rfl ?_
      exact ⟨y0, y1, y2, y3, y4, y5, y6, y7, y8, y9, _, y11, y12, _, y14, y15, y16, y17, y18, y19, y20, y21, y22, _, y24, rfl, hb, h0, h1, h2, h3, h9, fun _ => rfl, fun _ => rfl, h24⟩
    | 24, _ =>
      have ho' := ho
      simp [opsregMa] at ho
      subst ho
      obtain rfl := h10 (hall ⟨10, .data⟩ (by simp) rfl)
      refine wpOp_one ho' rfl fun K hK => ?_
      go_simp
      exact hK _ _ ⟨y0, y1, y2, y3, y4, y5, y6, y7, y8, y9, _, y11, y12, y13, y14, y15, y16, y17, y18, y19, y20, y21, y22, y23, _, rfl, hb, h0, h1, h2, h3, h9, fun _ => rfl, h13, fun _ => (by first | rfl | simp)⟩
    | k + 25, hi => omega

def WregMb (i ln cw g o bx : Nat) (t n : Int) (D : List Deferred) (v1 v2 v3 v7 v8 v9 v10 v11 v12 v13 v14 v15 v16 v42 v43 v44 v45 v46 v47 : Value) (w0 : World) (l : Nat → Bool) (a : Act) (w : World) : Prop :=
  ∃ (y0 y1 y2 y3 y4 y5 y6 y7 y8 y9 y10 y11 y12 y13 y14 y15 y16 y17 y18 y19 y20 y21 y22 y23 y24 : Value), a = { tmps := #[.slice (some ⟨g, o, none⟩) ln cw, v1, v2, v3, .int .i64 n, .int .i64 (i : Int), .pointer (some ⟨bx, 0, none⟩), v7, v8, v9, v10, v11, v12, v13, v14, v15, v16, y0, y1, y2, y3, y4, y5, y6, y7, y8, y9, y10, y11, y12, y13, y14, y15, y16, y17, y18, y19, y20, y21, y22, y23, y24, v42, v43, v44, v45, v46, v47], defers := D } ∧ Below w0.heap.size w0 w ∧
    (l 0 = true → y0 = .pointer (some ⟨bx, 1, none⟩)) ∧ (l 1 = true → y1 = .int .i64 t) ∧ (l 2 = true → y2 = .bool false) ∧ (l 3 = true → y3 = .bool false) ∧ (l 4 = true → y4 = .pointer (some ⟨bx, 1, none⟩)) ∧ (l 5 = true → y5 = .int .i64 t) ∧ (l 6 = true → y6 = .int .i64 n) ∧ (l 7 = true → y7 = .int .i64 (4611686018427387904 - n)) ∧ (l 8 = true → y8 = .bool true) ∧ (l 9 = true → y9 = .bool true) ∧ (l 10 = true → y10 = .bool true) ∧ (l 13 = true → y13 = undef) ∧ (l 24 = true → y24 = .bool true)
set_option maxHeartbeats 8000000 in
set_option maxRecDepth 100000 in
theorem regMb (i ln cw g o bx : Nat) (t n : Int) (D : List Deferred) (v1 v2 v3 v7 v8 v9 v10 v11 v12 v13 v14 v15 v16 v42 v43 v44 v45 v46 v47 wy0 wy1 wy2 wy3 wy4 wy5 wy6 wy7 wy8 wy9 wy10 wy11 wy12 wy13 wy14 wy15 wy16 wy17 wy18 wy19 wy20 wy21 wy22 wy23 wy24 : Value) (w : World) (c1 : ∀ w', Below w.heap.size w w' → w'.cell? ⟨bx, 1, none⟩ = some (.int .i64 t)) (g1 : ¬ t < 1) (ws : IntKind.i64.wrap (4611686018427387904 - n) = 4611686018427387904 - n) (g2 : 4611686018427387904 - n < t) (Q : Exit → Act → World → Prop)
    (hQ : ∀ (y0 y1 y2 y3 y4 y5 y6 y7 y8 y9 y10 y11 y12 y13 y14 y15 y16 y17 y18 y19 y20 y21 y22 y23 : Value) (w' : World), Below w.heap.size w w' → Q .normal { tmps := #[.slice (some ⟨g, o, none⟩) ln cw, v1, v2, v3, .int .i64 n, .int .i64 (i : Int), .pointer (some ⟨bx, 0, none⟩), v7, v8, v9, v10, v11, v12, v13, v14, v15, v16, y0, y1, y2, y3, y4, y5, y6, y7, y8, y9, y10, y11, y12, y13, y14, y15, y16, y17, y18, y19, y20, y21, y22, y23, .bool true, v42, v43, v44, v45, v46, v47], defers := D } w') :
    (Code.region 7 opsregMa true).wp Tryd.prog Q { tmps := #[.slice (some ⟨g, o, none⟩) ln cw, v1, v2, v3, .int .i64 n, .int .i64 (i : Int), .pointer (some ⟨bx, 0, none⟩), v7, v8, v9, v10, v11, v12, v13, v14, v15, v16, wy0, wy1, wy2, wy3, wy4, wy5, wy6, wy7, wy8, wy9, wy10, wy11, wy12, wy13, wy14, wy15, wy16, wy17, wy18, wy19, wy20, wy21, wy22, wy23, wy24, v42, v43, v44, v45, v46, v47], defers := D } w := by
  refine wp_region_inv (by kernel_rfl) (WregMb i ln cw g o bx t n D v1 v2 v3 v7 v8 v9 v10 v11 v12 v13 v14 v15 v16 v42 v43 v44 v45 v46 v47 w) ?hacy ?h0 ?hstep ?hdone
  case hacy => kernel_rfl
  case h0 => exact ⟨wy0, wy1, wy2, wy3, wy4, wy5, wy6, wy7, wy8, wy9, wy10, wy11, wy12, wy13, wy14, wy15, wy16, wy17, wy18, wy19, wy20, wy21, wy22, wy23, wy24, rfl, below_drewN (Below.refl _ _) 1, (fun p => by cases p), (fun p => by cases p), (fun p => by cases p), (fun p => by cases p), (fun p => by cases p), (fun p => by cases p), (fun p => by cases p), (fun p => by cases p), (fun p => by cases p), (fun p => by cases p), (fun p => by cases p), (fun p => by cases p), (fun p => by cases p)⟩
  case hdone =>
    intro l a w1 hI hall
    obtain ⟨y0, y1, y2, y3, y4, y5, y6, y7, y8, y9, y10, y11, y12, y13, y14, y15, y16, y17, y18, y19, y20, y21, y22, y23, y24, rfl, hb, h0, h1, h2, h3, h4, h5, h6, h7, h8, h9, h10, h13, h24⟩ := hI
    obtain rfl := h24 (hall 24 (by decide))
    exact hQ _ _ _ _ _ _ _ _ _ _ _ _ _ _ _ _ _ _ _ _ _ _ _ _ _ hb 
  case hstep =>
    intro l a w1 i o hI ho hl hall
    obtain ⟨y0, y1, y2, y3, y4, y5, y6, y7, y8, y9, y10, y11, y12, y13, y14, y15, y16, y17, y18, y19, y20, y21, y22, y23, y24, rfl, hb, h0, h1, h2, h3, h4, h5, h6, h7, h8, h9, h10, h13, h24⟩ := hI
    have hi : i < 25 := (Array.getElem?_eq_some_iff.1 ho).1
    match i, hi with
    | 0, _ =>
      have ho' := ho
      simp [opsregMa] at ho
      subst ho
      refine wpOp_one ho' rfl fun K hK => ?_
      go_simp
      exact hK _ _ ⟨_, y1, y2, y3, y4, y5, y6, y7, y8, y9, y10, y11, y12, y13, y14, y15, y16, y17, y18, y19, y20, y21, y22, y23, y24, rfl, hb, fun _ => (by first | rfl | simp), h1, h2, h3, h4, h5, h6, h7, h8, h9, h10, h13, h24⟩
    | 1, _ =>
      have ho' := ho
      simp [opsregMa] at ho
      subst ho
      obtain rfl := h0 (hall ⟨0, .data⟩ (by simp) rfl)
      refine wpOp_one ho' rfl fun K hK => ?_
      have x1 := c1 w1 hb
      go_simp
      exact hK _ _ ⟨_, _, y2, y3, y4, y5, y6, y7, y8, y9, y10, y11, y12, y13, y14, y15, y16, y17, y18, y19, y20, y21, y22, y23, y24, rfl, hb, fun _ => rfl, fun _ => (by first | rfl | simp), h2, h3, h4, h5, h6, h7, h8, h9, h10, h13, h24⟩
    | 2, _ =>
      have ho' := ho
      simp [opsregMa] at ho
      subst ho
      obtain rfl := h1 (hall ⟨1, .data⟩ (by simp) rfl)
      refine wpOp_one ho' rfl fun K hK => ?_
      go_simp
      exact hK _ _ ⟨y0, _, _, y3, y4, y5, y6, y7, y8, y9, y10, y11, y12, y13, y14, y15, y16, y17, y18, y19, y20, y21, y22, y23, y24, rfl, hb, h0, fun _ => rfl, fun _ => (by first | rfl | simp), h3, h4, h5, h6, h7, h8, h9, h10, h13, h24⟩
    | 3, _ =>
      have ho' := ho
      simp [opsregMa] at ho
      subst ho
      obtain rfl := h2 (hall ⟨2, .data⟩ (by simp) rfl)
      refine wpOp_one ho' rfl fun K hK => ?_
      go_simp
      exact hK _ _ ⟨y0, y1, _, _, y4, y5, y6, y7, y8, y9, y10, y11, y12, y13, y14, y15, y16, y17, y18, y19, y20, y21, y22, y23, y24, rfl, hb, h0, h1, fun _ => rfl, fun _ => (by first | rfl | simp), h4, h5, h6, h7, h8, h9, h10, h13, h24⟩
    | 4, _ =>
      have ho' := ho
      simp [opsregMa] at ho
      subst ho
      obtain rfl := h3 (hall ⟨3, .guard⟩ (by simp) rfl)
      refine wpOp_on ho' rfl fun K hK => ?_
      go_simp
      exact hK _ _ ⟨y0, y1, y2, _, _, y5, y6, y7, y8, y9, y10, y11, y12, y13, y14, y15, y16, y17, y18, y19, y20, y21, y22, y23, y24, rfl, hb, h0, h1, h2, fun _ => rfl, fun _ => (by first | rfl | simp), h5, h6, h7, h8, h9, h10, h13, h24⟩
    | 5, _ =>
      have ho' := ho
      simp [opsregMa] at ho
      subst ho
      obtain rfl := h3 (hall ⟨3, .guard⟩ (by simp) rfl)
      obtain rfl := h4 (hall ⟨4, .data⟩ (by simp) rfl)
      refine wpOp_on ho' rfl fun K hK => ?_
      have x1 := c1 w1 hb
      go_simp
      exact hK _ _ ⟨y0, y1, y2, _, _, _, y6, y7, y8, y9, y10, y11, y12, y13, y14, y15, y16, y17, y18, y19, y20, y21, y22, y23, y24, rfl, hb, h0, h1, h2, fun _ => rfl, fun _ => rfl, fun _ => (by first | rfl | simp), h6, h7, h8, h9, h10, h13, h24⟩
    | 6, _ =>
      have ho' := ho
      simp [opsregMa] at ho
      subst ho
      obtain rfl := h3 (hall ⟨3, .guard⟩ (by simp) rfl)
      refine wpOp_on ho' rfl fun K hK => ?_
      go_simp
      exact hK _ _ ⟨y0, y1, y2, _, y4, y5, _, y7, y8, y9, y10, y11, y12, y13, y14, y15, y16, y17, y18, y19, y20, y21, y22, y23, y24, rfl, hb, h0, h1, h2, fun _ => rfl, h4, h5, fun _ => (by first | rfl | simp), h7, h8, h9, h10, h13, h24⟩
    | 7, _ =>
      have ho' := ho
      simp [opsregMa] at ho
      subst ho
      obtain rfl := h3 (hall ⟨3, .guard⟩ (by simp) rfl)
      obtain rfl := h6 (hall ⟨6, .data⟩ (by simp) rfl)
      refine wpOp_on ho' rfl fun K hK => ?_
      go_simp
      exact hK _ _ ⟨y0, y1, y2, _, y4, y5, _, _, y8, y9, y10, y11, y12, y13, y14, y15, y16, y17, y18, y19, y20, y21, y22, y23, y24, rfl, hb, h0, h1, h2, fun _ => rfl, h4, h5, fun _ => rfl, fun _ => (by first | rfl | simp), h8, h9, h10, h13, h24⟩
    | 8, _ =>
      have ho' := ho
      simp [opsregMa] at ho
      subst ho
      obtain rfl := h3 (hall ⟨3, .guard⟩ (by simp) rfl)
      obtain rfl := h5 (hall ⟨5, .data⟩ (by simp) rfl)
      obtain rfl := h7 (hall ⟨7, .data⟩ (by simp) rfl)
      refine wpOp_on ho' rfl fun K hK => ?_
      go_simp
      exact hK _ _ ⟨y0, y1, y2, _, y4, _, y6, _, _, y9, y10, y11, y12, y13, y14, y15, y16, y17, y18, y19, y20, y21, y22, y23, y24, rfl, hb, h0, h1, h2, fun _ => rfl, h4, fun _ => rfl, h6, fun _ => rfl, fun _ => (by first | rfl | simp), h9, h10, h13, h24⟩
    | 9, _ =>
      have ho' := ho
      simp [opsregMa] at ho
      subst ho
      obtain rfl := h3 (hall ⟨3, .data⟩ (by simp) rfl)
      obtain rfl := h8 (hall ⟨8, .data⟩ (by simp) rfl)
      refine wpOp_one ho' rfl fun K hK => ?_
      go_simp
      exact hK _ _ ⟨y0, y1, y2, _, y4, y5, y6, y7, _, _, y10, y11, y12, y13, y14, y15, y16, y17, y18, y19, y20, y21, y22, y23, y24, rfl, hb, h0, h1, h2, fun _ => rfl, h4, h5, h6, h7, fun _ => rfl, fun _ => (by first | rfl | simp), h10, h13, h24⟩
    | 10, _ =>
      have ho' := ho
      simp [opsregMa] at ho
      subst ho
      obtain rfl := h9 (hall ⟨9, .data⟩ (by simp) rfl)
      refine wpOp_one ho' rfl fun K hK => ?_
      go_simp
      exact hK _ _ ⟨y0, y1, y2, y3, y4, y5, y6, y7, y8, _, _, y11, y12, y13, y14, y15, y16, y17, y18, y19, y20, y21, y22, y23, y24, rfl, hb, h0, h1, h2, h3, h4, h5, h6, h7, h8, fun _ => rfl, fun _ => (by first | rfl | simp), h13, h24⟩
    | 11, _ =>
      have ho' := ho
      simp [opsregMa] at ho
      subst ho
      obtain rfl := h10 (hall ⟨10, .guard⟩ (by simp) rfl)
      refine wpOq_off ho' rfl ?_
      exact ⟨y0, y1, y2, y3, y4, y5, y6, y7, y8, y9, _, _, y12, y13, y14, y15, y16, y17, y18, y19, y20, y21, y22, y23, y24, rfl, hb, h0, h1, h2, h3, h4, h5, h6, h7, h8, h9, fun _ => rfl, h13, h24⟩
    | 12, _ =>
      have ho' := ho
      simp [opsregMa] at ho
      subst ho
      obtain rfl := h10 (hall ⟨10, .guard⟩ (by simp) rfl)
      refine wpOq_off ho' rfl ?_
      exact ⟨y0, y1, y2, y3, y4, y5, y6, y7, y8, y9, _, y11, _, y13, y14, y15, y16, y17, y18, y19, y20, y21, y22, y23, y24, rfl, hb, h0, h1, h2, h3, h4, h5, h6, h7, h8, h9, fun _ => rfl, h13, h24⟩
    | 13, _ =>
      have ho' := ho
      simp [opsregMa] at ho
      subst ho
      obtain rfl := h10 (hall ⟨10, .chain⟩ (by simp) rfl)
      refine wpOq_off ho' rfl ?_
      exact ⟨y0, y1, y2, y3, y4, y5, y6, y7, y8, y9, _, y11, y12, _, y14, y15, y16, y17, y18, y19, y20, y21, y22, y23, y24, rfl, hb, h0, h1, h2, h3, h4, h5, h6, h7, h8, h9, fun _ => rfl, fun _ => rfl, h24⟩
    | 14, _ =>
      have ho' := ho
      simp [opsregMa] at ho
      subst ho
      obtain rfl := h13 (hall ⟨13, .guard⟩ (by simp) rfl)
      refine wpOq_off ho' rfl ?_
      exact ⟨y0, y1, y2, y3, y4, y5, y6, y7, y8, y9, y10, y11, y12, _, _, y15, y16, y17, y18, y19, y20, y21, y22, y23, y24, rfl, hb, h0, h1, h2, h3, h4, h5, h6, h7, h8, h9, h10, fun _ => rfl, h24⟩
    | 15, _ =>
      have ho' := ho
      simp [opsregMa] at ho
      subst ho
      obtain rfl := h13 (hall ⟨13, .guard⟩ (by simp) rfl)
      refine wpOq_off ho' rfl ?_
      exact ⟨y0, y1, y2, y3, y4, y5, y6, y7, y8, y9, y10, y11, y12, _, y14, _, y16, y17, y18, y19, y20, y21, y22, y23, y24, rfl, hb, h0, h1, h2, h3, h4, h5, h6, h7, h8, h9, h10, fun _ => rfl, h24⟩
    | 16, _ =>
      have ho' := ho
      simp [opsregMa] at ho
      subst ho
      obtain rfl := h13 (hall ⟨13, .guard⟩ (by simp) rfl)
      refine wpOq_off ho' rfl ?_
      exact ⟨y0, y1, y2, y3, y4, y5, y6, y7, y8, y9, y10, y11, y12, _, y14, y15, _, y17, y18, y19, y20, y21, y22, y23, y24, rfl, hb, h0, h1, h2, h3, h4, h5, h6, h7, h8, h9, h10, fun _ => rfl, h24⟩
    | 17, _ =>
      have ho' := ho
      simp [opsregMa] at ho
      subst ho
      obtain rfl := h13 (hall ⟨13, .guard⟩ (by simp) rfl)
      refine wpOq_off ho' rfl ?_
      exact ⟨y0, y1, y2, y3, y4, y5, y6, y7, y8, y9, y10, y11, y12, _, y14, y15, y16, _, y18, y19, y20, y21, y22, y23, y24, rfl, hb, h0, h1, h2, h3, h4, h5, h6, h7, h8, h9, h10, fun _ => rfl, h24⟩
    | 18, _ =>
      have ho' := ho
      simp [opsregMa] at ho
      subst ho
      obtain rfl := h13 (hall ⟨13, .guard⟩ (by simp) rfl)
      refine wpOq_off ho' rfl ?_
      exact ⟨y0, y1, y2, y3, y4, y5, y6, y7, y8, y9, y10, y11, y12, _, y14, y15, y16, y17, _, y19, y20, y21, y22, y23, y24, rfl, hb, h0, h1, h2, h3, h4, h5, h6, h7, h8, h9, h10, fun _ => rfl, h24⟩
    | 19, _ =>
      have ho' := ho
      simp [opsregMa] at ho
      subst ho
      obtain rfl := h13 (hall ⟨13, .guard⟩ (by simp) rfl)
      refine wpOq_off ho' rfl ?_
      exact ⟨y0, y1, y2, y3, y4, y5, y6, y7, y8, y9, y10, y11, y12, _, y14, y15, y16, y17, y18, _, y20, y21, y22, y23, y24, rfl, hb, h0, h1, h2, h3, h4, h5, h6, h7, h8, h9, h10, fun _ => rfl, h24⟩
    | 20, _ =>
      have ho' := ho
      simp [opsregMa] at ho
      subst ho
      obtain rfl := h13 (hall ⟨13, .guard⟩ (by simp) rfl)
      refine wpOq_off ho' rfl ?_
      exact ⟨y0, y1, y2, y3, y4, y5, y6, y7, y8, y9, y10, y11, y12, _, y14, y15, y16, y17, y18, y19, _, y21, y22, y23, y24, rfl, hb, h0, h1, h2, h3, h4, h5, h6, h7, h8, h9, h10, fun _ => rfl, h24⟩
    | 21, _ =>
      have ho' := ho
      simp [opsregMa] at ho
      subst ho
      obtain rfl := h13 (hall ⟨13, .guard⟩ (by simp) rfl)
      refine wpOq_off ho' rfl ?_
      exact ⟨y0, y1, y2, y3, y4, y5, y6, y7, y8, y9, y10, y11, y12, _, y14, y15, y16, y17, y18, y19, y20, _, y22, y23, y24, rfl, hb, h0, h1, h2, h3, h4, h5, h6, h7, h8, h9, h10, fun _ => rfl, h24⟩
    | 22, _ =>
      have ho' := ho
      simp [opsregMa] at ho
      subst ho
      obtain rfl := h13 (hall ⟨13, .guard⟩ (by simp) rfl)
      refine wpOq_off ho' rfl ?_
      exact ⟨y0, y1, y2, y3, y4, y5, y6, y7, y8, y9, y10, y11, y12, _, y14, y15, y16, y17, y18, y19, y20, y21, _, y23, y24, rfl, hb, h0, h1, h2, h3, h4, h5, h6, h7, h8, h9, h10, fun _ => rfl, h24⟩
    | 23, _ =>
      have ho' := ho
      simp [opsregMa] at ho
      subst ho
      obtain rfl := h10 (hall ⟨10, .guard⟩ (by simp) rfl)
      obtain rfl := h13 (hall ⟨13, .data⟩ (by simp) rfl)
      refine wpOq_off ho' rfl ?_
      exact ⟨y0, y1, y2, y3, y4, y5, y6, y7, y8, y9, _, y11, y12, _, y14, y15, y16, y17, y18, y19, y20, y21, y22, _, y24, rfl, hb, h0, h1, h2, h3, h4, h5, h6, h7, h8, h9, fun _ => rfl, fun _ => rfl, h24⟩
    | 24, _ =>
      have ho' := ho
      simp [opsregMa] at ho
      subst ho
      obtain rfl := h10 (hall ⟨10, .data⟩ (by simp) rfl)
      refine wpOp_one ho' rfl fun K hK => ?_
      go_simp
      exact hK _ _ ⟨y0, y1, y2, y3, y4, y5, y6, y7, y8, y9, _, y11, y12, y13, y14, y15, y16, y17, y18, y19, y20, y21, y22, y23, _, rfl, hb, h0, h1, h2, h3, h4, h5, h6, h7, h8, h9, fun _ => rfl, h13, fun _ => (by first | rfl | simp)⟩
    | k + 25, hi => omega

def WregMc (i ln cw g o bx : Nat) (t n : Int) (D : List Deferred) (v1 v2 v3 v7 v8 v9 v10 v11 v12 v13 v14 v15 v16 v42 v43 v44 v45 v46 v47 : Value) (w0 : World) (l : Nat → Bool) (a : Act) (w : World) : Prop :=
  ∃ (y0 y1 y2 y3 y4 y5 y6 y7 y8 y9 y10 y11 y12 y13 y14 y15 y16 y17 y18 y19 y20 y21 y22 y23 y24 : Value), a = { tmps := #[.slice (some ⟨g, o, none⟩) ln cw, v1, v2, v3, .int .i64 n, .int .i64 (i : Int), .pointer (some ⟨bx, 0, none⟩), v7, v8, v9, v10, v11, v12, v13, v14, v15, v16, y0, y1, y2, y3, y4, y5, y6, y7, y8, y9, y10, y11, y12, y13, y14, y15, y16, y17, y18, y19, y20, y21, y22, y23, y24, v42, v43, v44, v45, v46, v47], defers := D } ∧ Below w0.heap.size w0 w ∧
    (l 0 = true → y0 = .pointer (some ⟨bx, 1, none⟩)) ∧ (l 1 = true → y1 = .int .i64 t) ∧ (l 2 = true → y2 = .bool false) ∧ (l 3 = true → y3 = .bool false) ∧ (l 4 = true → y4 = .pointer (some ⟨bx, 1, none⟩)) ∧ (l 5 = true → y5 = .int .i64 t) ∧ (l 6 = true → y6 = .int .i64 n) ∧ (l 7 = true → y7 = .int .i64 (4611686018427387904 - n)) ∧ (l 8 = true → y8 = .bool false) ∧ (l 9 = true → y9 = .bool false) ∧ (l 10 = true → y10 = .bool false) ∧ (l 11 = true → y11 = .int .i64 (i : Int)) ∧ (l 12 = true → y12 = .bool false) ∧ (l 13 = true → y13 = .bool false) ∧ (l 23 = true → y23 = .bool false) ∧ (l 24 = true → y24 = .bool false)
set_option maxHeartbeats 8000000 in
set_option maxRecDepth 100000 in
theorem regMc (i ln cw g o bx : Nat) (t n : Int) (D : List Deferred) (v1 v2 v3 v7 v8 v9 v10 v11 v12 v13 v14 v15 v16 v42 v43 v44 v45 v46 v47 wy0 wy1 wy2 wy3 wy4 wy5 wy6 wy7 wy8 wy9 wy10 wy11 wy12 wy13 wy14 wy15 wy16 wy17 wy18 wy19 wy20 wy21 wy22 wy23 wy24 : Value) (w : World) (c1 : ∀ w', Below w.heap.size w w' → w'.cell? ⟨bx, 1, none⟩ = some (.int .i64 t)) (g1 : ¬ t < 1) (ws : IntKind.i64.wrap (4611686018427387904 - n) = 4611686018427387904 - n) (g2 : ¬ 4611686018427387904 - n < t) (g3 : ¬ (0 : Int) < (i : Int)) (Q : Exit → Act → World → Prop)
    (hQ : ∀ (y0 y1 y2 y3 y4 y5 y6 y7 y8 y9 y10 y11 y12 y13 y14 y15 y16 y17 y18 y19 y20 y21 y22 y23 : Value) (w' : World), Below w.heap.size w w' → Q .normal { tmps := #[.slice (some ⟨g, o, none⟩) ln cw, v1, v2, v3, .int .i64 n, .int .i64 (i : Int), .pointer (some ⟨bx, 0, none⟩), v7, v8, v9, v10, v11, v12, v13, v14, v15, v16, y0, y1, y2, y3, y4, y5, y6, y7, y8, y9, y10, y11, y12, y13, y14, y15, y16, y17, y18, y19, y20, y21, y22, y23, .bool false, v42, v43, v44, v45, v46, v47], defers := D } w') :
    (Code.region 7 opsregMa true).wp Tryd.prog Q { tmps := #[.slice (some ⟨g, o, none⟩) ln cw, v1, v2, v3, .int .i64 n, .int .i64 (i : Int), .pointer (some ⟨bx, 0, none⟩), v7, v8, v9, v10, v11, v12, v13, v14, v15, v16, wy0, wy1, wy2, wy3, wy4, wy5, wy6, wy7, wy8, wy9, wy10, wy11, wy12, wy13, wy14, wy15, wy16, wy17, wy18, wy19, wy20, wy21, wy22, wy23, wy24, v42, v43, v44, v45, v46, v47], defers := D } w := by
  refine wp_region_inv (by kernel_rfl) (WregMc i ln cw g o bx t n D v1 v2 v3 v7 v8 v9 v10 v11 v12 v13 v14 v15 v16 v42 v43 v44 v45 v46 v47 w) ?hacy ?h0 ?hstep ?hdone
  case hacy => kernel_rfl
  case h0 => exact ⟨wy0, wy1, wy2, wy3, wy4, wy5, wy6, wy7, wy8, wy9, wy10, wy11, wy12, wy13, wy14, wy15, wy16, wy17, wy18, wy19, wy20, wy21, wy22, wy23, wy24, rfl, below_drewN (Below.refl _ _) 1, (fun p => by cases p), (fun p => by cases p), (fun p => by cases p), (fun p => by cases p), (fun p => by cases p), (fun p => by cases p), (fun p => by cases p), (fun p => by cases p), (fun p => by cases p), (fun p => by cases p), (fun p => by cases p), (fun p => by cases p), (fun p => by cases p), (fun p => by cases p), (fun p => by cases p), (fun p => by cases p)⟩
  case hdone =>
    intro l a w1 hI hall
    obtain ⟨y0, y1, y2, y3, y4, y5, y6, y7, y8, y9, y10, y11, y12, y13, y14, y15, y16, y17, y18, y19, y20, y21, y22, y23, y24, rfl, hb, h0, h1, h2, h3, h4, h5, h6, h7, h8, h9, h10, h11, h12, h13, h23, h24⟩ := hI
    obtain rfl := h24 (hall 24 (by decide))
    exact hQ _ _ _ _ _ _ _ _ _ _ _ _ _ _ _ _ _ _ _ _ _ _ _ _ _ hb 
  case hstep =>
    intro l a w1 i o hI ho hl hall
    obtain ⟨y0, y1, y2, y3, y4, y5, y6, y7, y8, y9, y10, y11, y12, y13, y14, y15, y16, y17, y18, y19, y20, y21, y22, y23, y24, rfl, hb, h0, h1, h2, h3, h4, h5, h6, h7, h8, h9, h10, h11, h12, h13, h23, h24⟩ := hI
    have hi : i < 25 := (Array.getElem?_eq_some_iff.1 ho).1
    match i, hi with
    | 0, _ =>
      have ho' := ho
      simp [opsregMa] at ho
      subst ho
      refine wpOp_one ho' rfl fun K hK => ?_
      go_simp
      exact hK _ _ ⟨_, y1, y2, y3, y4, y5, y6, y7, y8, y9, y10, y11, y12, y13, y14, y15, y16, y17, y18, y19, y20, y21, y22, y23, y24, rfl, hb, fun _ => (by first | rfl | simp), h1, h2, h3, h4, h5, h6, h7, h8, h9, h10, h11, h12, h13, h23, h24⟩
    | 1, _ =>
      have ho' := ho
      simp [opsregMa] at ho
      subst ho
      obtain rfl := h0 (hall ⟨0, .data⟩ (by simp) rfl)
      refine wpOp_one ho' rfl fun K hK => ?_
      have x1 := c1 w1 hb
      go_simp
      exact hK _ _ ⟨_, _, y2, y3, y4, y5, y6, y7, y8, y9, y10, y11, y12, y13, y14, y15, y16, y17, y18, y19, y20, y21, y22, y23, y24, rfl, hb, fun _ => rfl, fun _ => (by first | rfl | simp), h2, h3, h4, h5, h6, h7, h8, h9, h10, h11, h12, h13, h23, h24⟩
    | 2, _ =>
      have ho' := ho
      simp [opsregMa] at ho
      subst ho
      obtain rfl := h1 (hall ⟨1, .data⟩ (by simp) rfl)
      refine wpOp_one ho' rfl fun K hK => ?_
      go_simp
      exact hK _ _ ⟨y0, _, _, y3, y4, y5, y6, y7, y8, y9, y10, y11, y12, y13, y14, y15, y16, y17, y18, y19, y20, y21, y22, y23, y24, rfl, hb, h0, fun _ => rfl, fun _ => (by first | rfl | simp), h3, h4, h5, h6, h7, h8, h9, h10, h11, h12, h13, h23, h24⟩
    | 3, _ =>
      have ho' := ho
      simp [opsregMa] at ho
      subst ho
      obtain rfl := h2 (hall ⟨2, .data⟩ (by simp) rfl)
      refine wpOp_one ho' rfl fun K hK => ?_
      go_simp
      exact hK _ _ ⟨y0, y1, _, _, y4, y5, y6, y7, y8, y9, y10, y11, y12, y13, y14, y15, y16, y17, y18, y19, y20, y21, y22, y23, y24, rfl, hb, h0, h1, fun _ => rfl, fun _ => (by first | rfl | simp), h4, h5, h6, h7, h8, h9, h10, h11, h12, h13, h23, h24⟩
    | 4, _ =>
      have ho' := ho
      simp [opsregMa] at ho
      subst ho
      obtain rfl := h3 (hall ⟨3, .guard⟩ (by simp) rfl)
      refine wpOp_on ho' rfl fun K hK => ?_
      go_simp
      exact hK _ _ ⟨y0, y1, y2, _, _, y5, y6, y7, y8, y9, y10, y11, y12, y13, y14, y15, y16, y17, y18, y19, y20, y21, y22, y23, y24, rfl, hb, h0, h1, h2, fun _ => rfl, fun _ => (by first | rfl | simp), h5, h6, h7, h8, h9, h10, h11, h12, h13, h23, h24⟩
    | 5, _ =>
      have ho' := ho
      simp [opsregMa] at ho
      subst ho
      obtain rfl := h3 (hall ⟨3, .guard⟩ (by simp) rfl)
      obtain rfl := h4 (hall ⟨4, .data⟩ (by simp) rfl)
      refine wpOp_on ho' rfl fun K hK => ?_
      have x1 := c1 w1 hb
      go_simp
      exact hK _ _ ⟨y0, y1, y2, _, _, _, y6, y7, y8, y9, y10, y11, y12, y13, y14, y15, y16, y17, y18, y19, y20, y21, y22, y23, y24, rfl, hb, h0, h1, h2, fun _ => rfl, fun _ => rfl, fun _ => (by first | rfl | simp), h6, h7, h8, h9, h10, h11, h12, h13, h23, h24⟩
    | 6, _ =>
      have ho' := ho
      simp [opsregMa] at ho
      subst ho
      obtain rfl := h3 (hall ⟨3, .guard⟩ (by simp) rfl)
      refine wpOp_on ho' rfl fun K hK => ?_
      go_simp
      exact hK _ _ ⟨y0, y1, y2, _, y4, y5, _, y7, y8, y9, y10, y11, y12, y13, y14, y15, y16, y17, y18, y19, y20, y21, y22, y23, y24, rfl, hb, h0, h1, h2, fun _ => rfl, h4, h5, fun _ => (by first | rfl | simp), h7, h8, h9, h10, h11, h12, h13, h23, h24⟩
    | 7, _ =>
      have ho' := ho
      simp [opsregMa] at ho
      subst ho
      obtain rfl := h3 (hall ⟨3, .guard⟩ (by simp) rfl)
      obtain rfl := h6 (hall ⟨6, .data⟩ (by simp) rfl)
      refine wpOp_on ho' rfl fun K hK => ?_
      go_simp
      exact hK _ _ ⟨y0, y1, y2, _, y4, y5, _, _, y8, y9, y10, y11, y12, y13, y14, y15, y16, y17, y18, y19, y20, y21, y22, y23, y24, rfl, hb, h0, h1, h2, fun _ => rfl, h4, h5, fun _ => rfl, fun _ => (by first | rfl | simp), h8, h9, h10, h11, h12, h13, h23, h24⟩
    | 8, _ =>
      have ho' := ho
      simp [opsregMa] at ho
      subst ho
      obtain rfl := h3 (hall ⟨3, .guard⟩ (by simp) rfl)
      obtain rfl := h5 (hall ⟨5, .data⟩ (by simp) rfl)
      obtain rfl := h7 (hall ⟨7, .data⟩ (by simp) rfl)
      refine wpOp_on ho' rfl fun K hK => ?_
      go_simp
      exact hK _ _ ⟨y0, y1, y2, _, y4, _, y6, _, _, y9, y10, y11, y12, y13, y14, y15, y16, y17, y18, y19, y20, y21, y22, y23, y24, rfl, hb, h0, h1, h2, fun _ => rfl, h4, fun _ => rfl, h6, fun _ => rfl, fun _ => (by first | rfl | simp), h9, h10, h11, h12, h13, h23, h24⟩
    | 9, _ =>
      have ho' := ho
      simp [opsregMa] at ho
      subst ho
      obtain rfl := h3 (hall ⟨3, .data⟩ (by simp) rfl)
      obtain rfl := h8 (hall ⟨8, .data⟩ (by simp) rfl)
      refine wpOp_one ho' rfl fun K hK => ?_
      go_simp
      exact hK _ _ ⟨y0, y1, y2, _, y4, y5, y6, y7, _, _, y10, y11, y12, y13, y14, y15, y16, y17, y18, y19, y20, y21, y22, y23, y24, rfl, hb, h0, h1, h2, fun _ => rfl, h4, h5, h6, h7, fun _ => rfl, fun _ => (by first | rfl | simp), h10, h11, h12, h13, h23, h24⟩
    | 10, _ =>
      have ho' := ho
      simp [opsregMa] at ho
      subst ho
      obtain rfl := h9 (hall ⟨9, .data⟩ (by simp) rfl)
      refine wpOp_one ho' rfl fun K hK => ?_
      go_simp
      exact hK _ _ ⟨y0, y1, y2, y3, y4, y5, y6, y7, y8, _, _, y11, y12, y13, y14, y15, y16, y17, y18, y19, y20, y21, y22, y23, y24, rfl, hb, h0, h1, h2, h3, h4, h5, h6, h7, h8, fun _ => rfl, fun _ => (by first | rfl | simp), h11, h12, h13, h23, h24⟩
    | 11, _ =>
      have ho' := ho
      simp [opsregMa] at ho
      subst ho
      obtain rfl := h10 (hall ⟨10, .guard⟩ (by simp) rfl)
      refine wpOp_on ho' rfl fun K hK => ?_
      go_simp
      exact hK _ _ ⟨y0, y1, y2, y3, y4, y5, y6, y7, y8, y9, _, _, y12, y13, y14, y15, y16, y17, y18, y19, y20, y21, y22, y23, y24, rfl, hb, h0, h1, h2, h3, h4, h5, h6, h7, h8, h9, fun _ => rfl, fun _ => (by first | rfl | simp), h12, h13, h23, h24⟩
    | 12, _ =>
      have ho' := ho
      simp [opsregMa] at ho
      subst ho
      obtain rfl := h10 (hall ⟨10, .guard⟩ (by simp) rfl)
      obtain rfl := h11 (hall ⟨11, .data⟩ (by simp) rfl)
      refine wpOp_on ho' rfl fun K hK => ?_
      go_simp
      exact hK _ _ ⟨y0, y1, y2, y3, y4, y5, y6, y7, y8, y9, _, _, _, y13, y14, y15, y16, y17, y18, y19, y20, y21, y22, y23, y24, rfl, hb, h0, h1, h2, h3, h4, h5, h6, h7, h8, h9, fun _ => rfl, fun _ => rfl, fun _ => (by first | rfl | (simp; omega)), h13, h23, h24⟩
    | 13, _ =>
      have ho' := ho
      simp [opsregMa] at ho
      subst ho
      obtain rfl := h10 (hall ⟨10, .chain⟩ (by simp) rfl)
      obtain rfl := h12 (hall ⟨12, .data⟩ (by simp) rfl)
      refine wpOp_on ho' rfl fun K hK => ?_
      go_simp
      exact hK _ _ ⟨y0, y1, y2, y3, y4, y5, y6, y7, y8, y9, _, y11, _, _, y14, y15, y16, y17, y18, y19, y20, y21, y22, y23, y24, rfl, hb, h0, h1, h2, h3, h4, h5, h6, h7, h8, h9, fun _ => rfl, h11, fun _ => rfl, fun _ => (by first | rfl | simp), h23, h24⟩
    | 14, _ =>
      have ho' := ho
      simp [opsregMa] at ho
      subst ho
      obtain rfl := h13 (hall ⟨13, .guard⟩ (by simp) rfl)
      refine wpOq_off ho' rfl ?_
      exact ⟨y0, y1, y2, y3, y4, y5, y6, y7, y8, y9, y10, y11, y12, _, _, y15, y16, y17, y18, y19, y20, y21, y22, y23, y24, rfl, hb, h0, h1, h2, h3, h4, h5, h6, h7, h8, h9, h10, h11, h12, fun _ => rfl, h23, h24⟩
    | 15, _ =>
      have ho' := ho
      simp [opsregMa] at ho
      subst ho
      obtain rfl := h13 (hall ⟨13, .guard⟩ (by simp) rfl)
      refine wpOq_off ho' rfl ?_
      exact ⟨y0, y1, y2, y3, y4, y5, y6, y7, y8, y9, y10, y11, y12, _, y14, _, y16, y17, y18, y19, y20, y21, y22, y23, y24, rfl, hb, h0, h1, h2, h3, h4, h5, h6, h7, h8, h9, h10, h11, h12, fun _ => rfl, h23, h24⟩
    | 16, _ =>
      have ho' := ho
      simp [opsregMa] at ho
      subst ho
      obtain rfl := h13 (hall ⟨13, .guard⟩ (by simp) rfl)
      refine wpOq_off ho' rfl ?_
      exact ⟨y0, y1, y2, y3, y4, y5, y6, y7, y8, y9, y10, y11, y12, _, y14, y15, _, y17, y18, y19, y20, y21, y22, y23, y24, rfl, hb, h0, h1, h2, h3, h4, h5, h6, h7, h8, h9, h10, h11, h12, fun _ => rfl, h23, h24⟩
    | 17, _ =>
      have ho' := ho
      simp [opsregMa] at ho
      subst ho
      obtain rfl := h13 (hall ⟨13, .guard⟩ (by simp) rfl)
      refine wpOq_off ho' rfl ?_
      exact ⟨y0, y1, y2, y3, y4, y5, y6, y7, y8, y9, y10, y11, y12, _, y14, y15, y16, _, y18, y19, y20, y21, y22, y23, y24, rfl, hb, h0, h1, h2, h3, h4, h5, h6, h7, h8, h9, h10, h11, h12, fun _ => rfl, h23, h24⟩
    | 18, _ =>
      have ho' := ho
      simp [opsregMa] at ho
      subst ho
      obtain rfl := h13 (hall ⟨13, .guard⟩ (by simp) rfl)
      refine wpOq_off ho' rfl ?_
      exact ⟨y0, y1, y2, y3, y4, y5, y6, y7, y8, y9, y10, y11, y12, _, y14, y15, y16, y17, _, y19, y20, y21, y22, y23, y24, rfl, hb, h0, h1, h2, h3, h4, h5, h6, h7, h8, h9, h10, h11, h12, fun _ => rfl, h23, h24⟩
    | 19, _ =>
      have ho' := ho
      simp [opsregMa] at ho
      subst ho
      obtain rfl := h13 (hall ⟨13, .guard⟩ (by simp) rfl)
      refine wpOq_off ho' rfl ?_
      exact ⟨y0, y1, y2, y3, y4, y5, y6, y7, y8, y9, y10, y11, y12, _, y14, y15, y16, y17, y18, _, y20, y21, y22, y23, y24, rfl, hb, h0, h1, h2, h3, h4, h5, h6, h7, h8, h9, h10, h11, h12, fun _ => rfl, h23, h24⟩
    | 20, _ =>
      have ho' := ho
      simp [opsregMa] at ho
      subst ho
      obtain rfl := h13 (hall ⟨13, .guard⟩ (by simp) rfl)
      refine wpOq_off ho' rfl ?_
      exact ⟨y0, y1, y2, y3, y4, y5, y6, y7, y8, y9, y10, y11, y12, _, y14, y15, y16, y17, y18, y19, _, y21, y22, y23, y24, rfl, hb, h0, h1, h2, h3, h4, h5, h6, h7, h8, h9, h10, h11, h12, fun _ => rfl, h23, h24⟩
    | 21, _ =>
      have ho' := ho
      simp [opsregMa] at ho
      subst ho
      obtain rfl := h13 (hall ⟨13, .guard⟩ (by simp) rfl)
      refine wpOq_off ho' rfl ?_
      exact ⟨y0, y1, y2, y3, y4, y5, y6, y7, y8, y9, y10, y11, y12, _, y14, y15, y16, y17, y18, y19, y20, _, y22, y23, y24, rfl, hb, h0, h1, h2, h3, h4, h5, h6, h7, h8, h9, h10, h11, h12, fun _ => rfl, h23, h24⟩
    | 22, _ =>
      have ho' := ho
      simp [opsregMa] at ho
      subst ho
      obtain rfl := h13 (hall ⟨13, .guard⟩ (by simp) rfl)
      refine wpOq_off ho' rfl ?_
      exact ⟨y0, y1, y2, y3, y4, y5, y6, y7, y8, y9, y10, y11, y12, _, y14, y15, y16, y17, y18, y19, y20, y21, _, y23, y24, rfl, hb, h0, h1, h2, h3, h4, h5, h6, h7, h8, h9, h10, h11, h12, fun _ => rfl, h23, h24⟩
    | 23, _ =>
      have ho' := ho
      simp [opsregMa] at ho
      subst ho
      obtain rfl := h10 (hall ⟨10, .guard⟩ (by simp) rfl)
      obtain rfl := h13 (hall ⟨13, .data⟩ (by simp) rfl)
      refine wpOp_on ho' rfl fun K hK => ?_
      go_simp
      exact hK _ _ ⟨y0, y1, y2, y3, y4, y5, y6, y7, y8, y9, _, y11, y12, _, y14, y15, y16, y17, y18, y19, y20, y21, y22, _, y24, rfl, hb, h0, h1, h2, h3, h4, h5, h6, h7, h8, h9, fun _ => rfl, h11, h12, fun _ => rfl, fun _ => (by first | rfl | simp), h24⟩
    | 24, _ =>
      have ho' := ho
      simp [opsregMa] at ho
      subst ho
      obtain rfl := h10 (hall ⟨10, .data⟩ (by simp) rfl)
      obtain rfl := h23 (hall ⟨23, .data⟩ (by simp) rfl)
      refine wpOp_one ho' rfl fun K hK => ?_
      go_simp
      exact hK _ _ ⟨y0, y1, y2, y3, y4, y5, y6, y7, y8, y9, _, y11, y12, y13, y14, y15, y16, y17, y18, y19, y20, y21, y22, _, _, rfl, hb, h0, h1, h2, h3, h4, h5, h6, h7, h8, h9, fun _ => rfl, h11, h12, h13, fun _ => rfl, fun _ => (by first | rfl | simp)⟩
    | k + 25, hi => omega

def WregMd (i k ln cw g o bx b b' : Nat) (t n : Int) (e : Bool) (D : List Deferred) (v1 v2 v3 v7 v8 v9 v10 v11 v12 v13 v14 v15 v16 v42 v43 v44 v45 v46 v47 : Value) (w0 : World) (l : Nat → Bool) (a : Act) (w : World) : Prop :=
  ∃ (y0 y1 y2 y3 y4 y5 y6 y7 y8 y9 y10 y11 y12 y13 y14 y15 y16 y17 y18 y19 y20 y21 y22 y23 y24 : Value), a = { tmps := #[.slice (some ⟨g, o, none⟩) ln cw, v1, v2, v3, .int .i64 n, .int .i64 (i : Int), .pointer (some ⟨bx, 0, none⟩), v7, v8, v9, v10, v11, v12, v13, v14, v15, v16, y0, y1, y2, y3, y4, y5, y6, y7, y8, y9, y10, y11, y12, y13, y14, y15, y16, y17, y18, y19, y20, y21, y22, y23, y24, v42, v43, v44, v45, v46, v47], defers := D } ∧ Below w0.heap.size w0 w ∧
    (l 0 = true → y0 = .pointer (some ⟨bx, 1, none⟩)) ∧ (l 1 = true → y1 = .int .i64 t) ∧ (l 2 = true → y2 = .bool false) ∧ (l 3 = true → y3 = .bool false) ∧ (l 4 = true → y4 = .pointer (some ⟨bx, 1, none⟩)) ∧ (l 5 = true → y5 = .int .i64 t) ∧ (l 6 = true → y6 = .int .i64 n) ∧ (l 7 = true → y7 = .int .i64 (4611686018427387904 - n)) ∧ (l 8 = true → y8 = .bool false) ∧ (l 9 = true → y9 = .bool false) ∧ (l 10 = true → y10 = .bool false) ∧ (l 11 = true → y11 = .int .i64 (i : Int)) ∧ (l 12 = true → y12 = .bool true) ∧ (l 13 = true → y13 = .bool true) ∧ (l 14 = true → y14 = .slice (some ⟨g, o, none⟩) ln cw) ∧ (l 15 = true → y15 = .int .i64 (i : Int)) ∧ (l 16 = true → y16 = .int .i64 (k : Int)) ∧ (l 17 = true → y17 = .pointer (some ⟨g, o + k * 2, none⟩)) ∧ (l 18 = true → y18 = .pointer (some ⟨g, o + k * 2, none⟩)) ∧ (l 19 = true → y19 = .int .u8 (b' : Int)) ∧ (l 20 = true → y20 = .pointer (some ⟨bx, 0, none⟩)) ∧ (l 21 = true → y21 = .int .u8 (b : Int)) ∧ (l 22 = true → y22 = .bool e) ∧ (l 23 = true → y23 = .bool e) ∧ (l 24 = true → y24 = .bool e)
set_option maxHeartbeats 8000000 in
set_option maxRecDepth 100000 in
theorem regMd (i k ln cw g o bx b b' : Nat) (t n : Int) (e : Bool) (D : List Deferred) (v1 v2 v3 v7 v8 v9 v10 v11 v12 v13 v14 v15 v16 v42 v43 v44 v45 v46 v47 wy0 wy1 wy2 wy3 wy4 wy5 wy6 wy7 wy8 wy9 wy10 wy11 wy12 wy13 wy14 wy15 wy16 wy17 wy18 wy19 wy20 wy21 wy22 wy23 wy24 : Value) (w : World) (c1 : ∀ w', Below w.heap.size w w' → w'.cell? ⟨bx, 1, none⟩ = some (.int .i64 t)) (g1 : ¬ t < 1) (ws : IntKind.i64.wrap (4611686018427387904 - n) = 4611686018427387904 - n) (g2 : ¬ 4611686018427387904 - n < t) (g3 : (0 : Int) < (i : Int)) (c0 : ∀ w', Below w.heap.size w w' → w'.cell? ⟨bx, 0, none⟩ = some (.int .u8 (b : Int))) (c2 : ∀ w', Below w.heap.size w w' → w'.cell? ⟨g, o + k * 2, none⟩ = some (.int .u8 (b' : Int))) (wm : IntKind.i64.wrap ((i : Int) - 1) = (k : Int)) (k1 : (0 : Int) ≤ (k : Int)) (k2 : (k : Int) < (ln : Int)) (k3 : ((k : Int)).toNat = k) (g4 : ((b' : Int) == (b : Int)) = e) (Q : Exit → Act → World → Prop)
    (hQ : ∀ (y0 y1 y2 y3 y4 y5 y6 y7 y8 y9 y10 y11 y12 y13 y14 y15 y16 y17 y18 y19 y20 y21 y22 y23 : Value) (w' : World), Below w.heap.size w w' → Q .normal { tmps := #[.slice (some ⟨g, o, none⟩) ln cw, v1, v2, v3, .int .i64 n, .int .i64 (i : Int), .pointer (some ⟨bx, 0, none⟩), v7, v8, v9, v10, v11, v12, v13, v14, v15, v16, y0, y1, y2, y3, y4, y5, y6, y7, y8, y9, y10, y11, y12, y13, y14, y15, y16, y17, y18, y19, y20, y21, y22, y23, .bool e, v42, v43, v44, v45, v46, v47], defers := D } w') :
    (Code.region 7 opsregMa true).wp Tryd.prog Q { tmps := #[.slice (some ⟨g, o, none⟩) ln cw, v1, v2, v3, .int .i64 n, .int .i64 (i : Int), .pointer (some ⟨bx, 0, none⟩), v7, v8, v9, v10, v11, v12, v13, v14, v15, v16, wy0, wy1, wy2, wy3, wy4, wy5, wy6, wy7, wy8, wy9, wy10, wy11, wy12, wy13, wy14, wy15, wy16, wy17, wy18, wy19, wy20, wy21, wy22, wy23, wy24, v42, v43, v44, v45, v46, v47], defers := D } w := by
  refine wp_region_inv (by kernel_rfl) (WregMd i k ln cw g o bx b b' t n e D v1 v2 v3 v7 v8 v9 v10 v11 v12 v13 v14 v15 v16 v42 v43 v44 v45 v46 v47 w) ?hacy ?h0 ?hstep ?hdone
  case hacy => kernel_rfl
  case h0 => exact ⟨wy0, wy1, wy2, wy3, wy4, wy5, wy6, wy7, wy8, wy9, wy10, wy11, wy12, wy13, wy14, wy15, wy16, wy17, wy18, wy19, wy20, wy21, wy22, wy23, wy24, rfl, below_drewN (Below.refl _ _) 1, (fun p => by cases p), (fun p => by cases p), (fun p => by cases p), (fun p => by cases p), (fun p => by cases p), (fun p => by cases p), (fun p => by cases p), (fun p => by cases p), (fun p => by cases p), (fun p => by cases p), (fun p => by cases p), (fun p => by cases p), (fun p => by cases p), (fun p => by cases p), (fun p => by cases p), (fun p => by cases p), (fun p => by cases p), (fun p => by cases p), (fun p => by cases p), (fun p => by cases p), (fun p => by cases p), (fun p => by cases p), (fun p => by cases p), (fun p => by cases p), (fun p => by cases p)⟩
  case hdone =>
    intro l a w1 hI hall
    obtain ⟨y0, y1, y2, y3, y4, y5, y6, y7, y8, y9, y10, y11, y12, y13, y14, y15, y16, y17, y18, y19, y20, y21, y22, y23, y24, rfl, hb, h0, h1, h2, h3, h4, h5, h6, h7, h8, h9, h10, h11, h12, h13, h14, h15, h16, h17, h18, h19, h20, h21, h22, h23, h24⟩ := hI
    obtain rfl := h24 (hall 24 (by decide))
    exact hQ _ _ _ _ _ _ _ _ _ _ _ _ _ _ _ _ _ _ _ _ _ _ _ _ _ hb 
  case hstep =>
    intro l a w1 i o hI ho hl hall
    obtain ⟨y0, y1, y2, y3, y4, y5, y6, y7, y8, y9, y10, y11, y12, y13, y14, y15, y16, y17, y18, y19, y20, y21, y22, y23, y24, rfl, hb, h0, h1, h2, h3, h4, h5, h6, h7, h8, h9, h10, h11, h12, h13, h14, h15, h16, h17, h18, h19, h20, h21, h22, h23, h24⟩ := hI
    have hi : i < 25 := (Array.getElem?_eq_some_iff.1 ho).1
    match i, hi with
    | 0, _ =>
      have ho' := ho
      simp [opsregMa] at ho
      subst ho
      refine wpOp_one ho' rfl fun K hK => ?_
      go_simp
      exact hK _ _ ⟨_, y1, y2, y3, y4, y5, y6, y7, y8, y9, y10, y11, y12, y13, y14, y15, y16, y17, y18, y19, y20, y21, y22, y23, y24, rfl, hb, fun _ => (by first | rfl | simp), h1, h2, h3, h4, h5, h6, h7, h8, h9, h10, h11, h12, h13, h14, h15, h16, h17, h18, h19, h20, h21, h22, h23, h24⟩
    | 1, _ =>
      have ho' := ho
      simp [opsregMa] at ho
      subst ho
      obtain rfl := h0 (hall ⟨0, .data⟩ (by simp) rfl)
      refine wpOp_one ho' rfl fun K hK => ?_
      have x1 := c1 w1 hb
      go_simp
      exact hK _ _ ⟨_, _, y2, y3, y4, y5, y6, y7, y8, y9, y10, y11, y12, y13, y14, y15, y16, y17, y18, y19, y20, y21, y22, y23, y24, rfl, hb, fun _ => rfl, fun _ => (by first | rfl | simp), h2, h3, h4, h5, h6, h7, h8, h9, h10, h11, h12, h13, h14, h15, h16, h17, h18, h19, h20, h21, h22, h23, h24⟩
    | 2, _ =>
      have ho' := ho
      simp [opsregMa] at ho
      subst ho
      obtain rfl := h1 (hall ⟨1, .data⟩ (by simp) rfl)
      refine wpOp_one ho' rfl fun K hK => ?_
      go_simp
      exact hK _ _ ⟨y0, _, _, y3, y4, y5, y6, y7, y8, y9, y10, y11, y12, y13, y14, y15, y16, y17, y18, y19, y20, y21, y22, y23, y24, rfl, hb, h0, fun _ => rfl, fun _ => (by first | rfl | simp), h3, h4, h5, h6, h7, h8, h9, h10, h11, h12, h13, h14, h15, h16, h17, h18, h19, h20, h21, h22, h23, h24⟩
    | 3, _ =>
      have ho' := ho
      simp [opsregMa] at ho
      subst ho
      obtain rfl := h2 (hall ⟨2, .data⟩ (by simp) rfl)
      refine wpOp_one ho' rfl fun K hK => ?_
      go_simp
      exact hK _ _ ⟨y0, y1, _, _, y4, y5, y6, y7, y8, y9, y10, y11, y12, y13, y14, y15, y16, y17, y18, y19, y20, y21, y22, y23, y24, rfl, hb, h0, h1, fun _ => rfl, fun _ => (by first | rfl | simp), h4, h5, h6, h7, h8, h9, h10, h11, h12, h13, h14, h15, h16, h17, h18, h19, h20, h21, h22, h23, h24⟩
    | 4, _ =>
      have ho' := ho
      simp [opsregMa] at ho
      subst ho
      obtain rfl := h3 (hall ⟨3, .guard⟩ (by simp) rfl)
      refine wpOp_on ho' rfl fun K hK => ?_
      go_simp
      exact hK _ _ ⟨y0, y1, y2, _, _, y5, y6, y7, y8, y9, y10, y11, y12, y13, y14, y15, y16, y17, y18, y19, y20, y21, y22, y23, y24, rfl, hb, h0, h1, h2, fun _ => rfl, fun _ => (by first | rfl | simp), h5, h6, h7, h8, h9, h10, h11, h12, h13, h14, h15, h16, h17, h18, h19, h20, h21, h22, h23, h24⟩
    | 5, _ =>
      have ho' := ho
      simp [opsregMa] at ho
      subst ho
      obtain rfl := h3 (hall ⟨3, .guard⟩ (by simp) rfl)
      obtain rfl := h4 (hall ⟨4, .data⟩ (by simp) rfl)
      refine wpOp_on ho' rfl fun K hK => ?_
      have x1 := c1 w1 hb
      go_simp
      exact hK _ _ ⟨y0, y1, y2, _, _, _, y6, y7, y8, y9, y10, y11, y12, y13, y14, y15, y16, y17, y18, y19, y20, y21, y22, y23, y24, rfl, hb, h0, h1, h2, fun _ => rfl, fun _ => rfl, fun _ => (by first | rfl | simp), h6, h7, h8, h9, h10, h11, h12, h13, h14, h15, h16, h17, h18, h19, h20, h21, h22, h23, h24⟩
    | 6, _ =>
      have ho' := ho
      simp [opsregMa] at ho
      subst ho
      obtain rfl := h3 (hall ⟨3, .guard⟩ (by simp) rfl)
      refine wpOp_on ho' rfl fun K hK => ?_
      go_simp
      exact hK _ _ ⟨y0, y1, y2, _, y4, y5, _, y7, y8, y9, y10, y11, y12, y13, y14, y15, y16, y17, y18, y19, y20, y21, y22, y23, y24, rfl, hb, h0, h1, h2, fun _ => rfl, h4, h5, fun _ => (by first | rfl | simp), h7, h8, h9, h10, h11, h12, h13, h14, h15, h16, h17, h18, h19, h20, h21, h22, h23, h24⟩
    | 7, _ =>
      have ho' := ho
      simp [opsregMa] at ho
      subst ho
      obtain rfl := h3 (hall ⟨3, .guard⟩ (by simp) rfl)
      obtain rfl := h6 (hall ⟨6, .data⟩ (by simp) rfl)
      refine wpOp_on ho' rfl fun K hK => ?_
      go_simp
      exact hK _ _ ⟨y0, y1, y2, _, y4, y5, _, _, y8, y9, y10, y11, y12, y13, y14, y15, y16, y17, y18, y19, y20, y21, y22, y23, y24, rfl, hb, h0, h1, h2, fun _ => rfl, h4, h5, fun _ => rfl, fun _ => (by first | rfl | simp), h8, h9, h10, h11, h12, h13, h14, h15, h16, h17, h18, h19, h20, h21, h22, h23, h24⟩
    | 8, _ =>
      have ho' := ho
      simp [opsregMa] at ho
      subst ho
      obtain rfl := h3 (hall ⟨3, .guard⟩ (by simp) rfl)
      obtain rfl := h5 (hall ⟨5, .data⟩ (by simp) rfl)
      obtain rfl := h7 (hall ⟨7, .data⟩ (by simp) rfl)
      refine wpOp_on ho' rfl fun K hK => ?_
      go_simp
      exact hK _ _ ⟨y0, y1, y2, _, y4, _, y6, _, _, y9, y10, y11, y12, y13, y14, y15, y16, y17, y18, y19, y20, y21, y22, y23, y24, rfl, hb, h0, h1, h2, fun _ => rfl, h4, fun _ => rfl, h6, fun _ => rfl, fun _ => (by first | rfl | simp), h9, h10, h11, h12, h13, h14, h15, h16, h17, h18, h19, h20, h21, h22, h23, h24⟩
    | 9, _ =>
      have ho' := ho
      simp [opsregMa] at ho
      subst ho
      obtain rfl := h3 (hall ⟨3, .data⟩ (by simp) rfl)
      obtain rfl := h8 (hall ⟨8, .data⟩ (by simp) rfl)
      refine wpOp_one ho' rfl fun K hK => ?_
      go_simp
      exact hK _ _ ⟨y0, y1, y2, _, y4, y5, y6, y7, _, _, y10, y11, y12, y13, y14, y15, y16, y17, y18, y19, y20, y21, y22, y23, y24, rfl, hb, h0, h1, h2, fun _ => rfl, h4, h5, h6, h7, fun _ => rfl, fun _ => (by first | rfl | simp), h10, h11, h12, h13, h14, h15, h16, h17, h18, h19, h20, h21, h22, h23, h24⟩
    | 10, _ =>
      have ho' := ho
      simp [opsregMa] at ho
      subst ho
      obtain rfl := h9 (hall ⟨9, .data⟩ (by simp) rfl)
      refine wpOp_one ho' rfl fun K hK => ?_
      go_simp
      exact hK _ _ ⟨y0, y1, y2, y3, y4, y5, y6, y7, y8, _, _, y11, y12, y13, y14, y15, y16, y17, y18, y19, y20, y21, y22, y23, y24, rfl, hb, h0, h1, h2, h3, h4, h5, h6, h7, h8, fun _ => rfl, fun _ => (by first | rfl | simp), h11, h12, h13, h14, h15, h16, h17, h18, h19, h20, h21, h22, h23, h24⟩
    | 11, _ =>
      have ho' := ho
      simp [opsregMa] at ho
      subst ho
      obtain rfl := h10 (hall ⟨10, .guard⟩ (by simp) rfl)
      refine wpOp_on ho' rfl fun K hK => ?_
      go_simp
      exact hK _ _ ⟨y0, y1, y2, y3, y4, y5, y6, y7, y8, y9, _, _, y12, y13, y14, y15, y16, y17, y18, y19, y20, y21, y22, y23, y24, rfl, hb, h0, h1, h2, h3, h4, h5, h6, h7, h8, h9, fun _ => rfl, fun _ => (by first | rfl | simp), h12, h13, h14, h15, h16, h17, h18, h19, h20, h21, h22, h23, h24⟩
    | 12, _ =>
      have ho' := ho
      simp [opsregMa] at ho
      subst ho
      obtain rfl := h10 (hall ⟨10, .guard⟩ (by simp) rfl)
      obtain rfl := h11 (hall ⟨11, .data⟩ (by simp) rfl)
      refine wpOp_on ho' rfl fun K hK => ?_
      go_simp
      exact hK _ _ ⟨y0, y1, y2, y3, y4, y5, y6, y7, y8, y9, _, _, _, y13, y14, y15, y16, y17, y18, y19, y20, y21, y22, y23, y24, rfl, hb, h0, h1, h2, h3, h4, h5, h6, h7, h8, h9, fun _ => rfl, fun _ => rfl, fun _ => (by first | rfl | (simp; omega)), h13, h14, h15, h16, h17, h18, h19, h20, h21, h22, h23, h24⟩
    | 13, _ =>
      have ho' := ho
      simp [opsregMa] at ho
      subst ho
      obtain rfl := h10 (hall ⟨10, .chain⟩ (by simp) rfl)
      obtain rfl := h12 (hall ⟨12, .data⟩ (by simp) rfl)
      refine wpOp_on ho' rfl fun K hK => ?_
      go_simp
      exact hK _ _ ⟨y0, y1, y2, y3, y4, y5, y6, y7, y8, y9, _, y11, _, _, y14, y15, y16, y17, y18, y19, y20, y21, y22, y23, y24, rfl, hb, h0, h1, h2, h3, h4, h5, h6, h7, h8, h9, fun _ => rfl, h11, fun _ => rfl, fun _ => (by first | rfl | simp), h14, h15, h16, h17, h18, h19, h20, h21, h22, h23, h24⟩
    | 14, _ =>
      have ho' := ho
      simp [opsregMa] at ho
      subst ho
      obtain rfl := h13 (hall ⟨13, .guard⟩ (by simp) rfl)
      refine wpOp_on ho' rfl fun K hK => ?_
      go_simp
      exact hK _ _ ⟨y0, y1, y2, y3, y4, y5, y6, y7, y8, y9, y10, y11, y12, _, _, y15, y16, y17, y18, y19, y20, y21, y22, y23, y24, rfl, hb, h0, h1, h2, h3, h4, h5, h6, h7, h8, h9, h10, h11, h12, fun _ => rfl, fun _ => (by first | rfl | simp), h15, h16, h17, h18, h19, h20, h21, h22, h23, h24⟩
    | 15, _ =>
      have ho' := ho
      simp [opsregMa] at ho
      subst ho
      obtain rfl := h13 (hall ⟨13, .guard⟩ (by simp) rfl)
      refine wpOp_on ho' rfl fun K hK => ?_
      go_simp
      exact hK _ _ ⟨y0, y1, y2, y3, y4, y5, y6, y7, y8, y9, y10, y11, y12, _, y14, _, y16, y17, y18, y19, y20, y21, y22, y23, y24, rfl, hb, h0, h1, h2, h3, h4, h5, h6, h7, h8, h9, h10, h11, h12, fun _ => rfl, h14, fun _ => (by first | rfl | simp), h16, h17, h18, h19, h20, h21, h22, h23, h24⟩
    | 16, _ =>
      have ho' := ho
      simp [opsregMa] at ho
      subst ho
      obtain rfl := h13 (hall ⟨13, .guard⟩ (by simp) rfl)
      obtain rfl := h15 (hall ⟨15, .data⟩ (by simp) rfl)
      refine wpOp_on ho' rfl fun K hK => ?_
      go_simp
      exact hK _ _ ⟨y0, y1, y2, y3, y4, y5, y6, y7, y8, y9, y10, y11, y12, _, y14, _, _, y17, y18, y19, y20, y21, y22, y23, y24, rfl, hb, h0, h1, h2, h3, h4, h5, h6, h7, h8, h9, h10, h11, h12, fun _ => rfl, h14, fun _ => rfl, fun _ => (by first | rfl | simp), h17, h18, h19, h20, h21, h22, h23, h24⟩
    | 17, _ =>
      have ho' := ho
      simp [opsregMa] at ho
      subst ho
      obtain rfl := h13 (hall ⟨13, .guard⟩ (by simp) rfl)
      obtain rfl := h14 (hall ⟨14, .data⟩ (by simp) rfl)
      obtain rfl := h16 (hall ⟨16, .data⟩ (by simp) rfl)
      refine wpOp_on ho' rfl fun K hK => ?_
      go_simp
      exact hK _ _ ⟨y0, y1, y2, y3, y4, y5, y6, y7, y8, y9, y10, y11, y12, _, _, y15, _, _, y18, y19, y20, y21, y22, y23, y24, rfl, hb, h0, h1, h2, h3, h4, h5, h6, h7, h8, h9, h10, h11, h12, fun _ => rfl, fun _ => rfl, h15, fun _ => rfl, fun _ => (by first | rfl | simp), h18, h19, h20, h21, h22, h23, h24⟩
    | 18, _ =>
      have ho' := ho
      simp [opsregMa] at ho
      subst ho
      obtain rfl := h13 (hall ⟨13, .guard⟩ (by simp) rfl)
      obtain rfl := h17 (hall ⟨17, .data⟩ (by simp) rfl)
      refine wpOp_on ho' rfl fun K hK => ?_
      go_simp
      exact hK _ _ ⟨y0, y1, y2, y3, y4, y5, y6, y7, y8, y9, y10, y11, y12, _, y14, y15, y16, _, _, y19, y20, y21, y22, y23, y24, rfl, hb, h0, h1, h2, h3, h4, h5, h6, h7, h8, h9, h10, h11, h12, fun _ => rfl, h14, h15, h16, fun _ => rfl, fun _ => (by first | rfl | simp), h19, h20, h21, h22, h23, h24⟩
    | 19, _ =>
      have ho' := ho
      simp [opsregMa] at ho
      subst ho
      obtain rfl := h13 (hall ⟨13, .guard⟩ (by simp) rfl)
      obtain rfl := h18 (hall ⟨18, .data⟩ (by simp) rfl)
      refine wpOp_on ho' rfl fun K hK => ?_
      have x2 := c2 w1 hb
      go_simp
      exact hK _ _ ⟨y0, y1, y2, y3, y4, y5, y6, y7, y8, y9, y10, y11, y12, _, y14, y15, y16, y17, _, _, y20, y21, y22, y23, y24, rfl, hb, h0, h1, h2, h3, h4, h5, h6, h7, h8, h9, h10, h11, h12, fun _ => rfl, h14, h15, h16, h17, fun _ => rfl, fun _ => (by first | rfl | simp), h20, h21, h22, h23, h24⟩
    | 20, _ =>
      have ho' := ho
      simp [opsregMa] at ho
      subst ho
      obtain rfl := h13 (hall ⟨13, .guard⟩ (by simp) rfl)
      refine wpOp_on ho' rfl fun K hK => ?_
      go_simp
      exact hK _ _ ⟨y0, y1, y2, y3, y4, y5, y6, y7, y8, y9, y10, y11, y12, _, y14, y15, y16, y17, y18, y19, _, y21, y22, y23, y24, rfl, hb, h0, h1, h2, h3, h4, h5, h6, h7, h8, h9, h10, h11, h12, fun _ => rfl, h14, h15, h16, h17, h18, h19, fun _ => (by first | rfl | simp), h21, h22, h23, h24⟩
    | 21, _ =>
      have ho' := ho
      simp [opsregMa] at ho
      subst ho
      obtain rfl := h13 (hall ⟨13, .guard⟩ (by simp) rfl)
      obtain rfl := h20 (hall ⟨20, .data⟩ (by simp) rfl)
      refine wpOp_on ho' rfl fun K hK => ?_
      have x0 := c0 w1 hb
      go_simp
      exact hK _ _ ⟨y0, y1, y2, y3, y4, y5, y6, y7, y8, y9, y10, y11, y12, _, y14, y15, y16, y17, y18, y19, _, _, y22, y23, y24, rfl, hb, h0, h1, h2, h3, h4, h5, h6, h7, h8, h9, h10, h11, h12, fun _ => rfl, h14, h15, h16, h17, h18, h19, fun _ => rfl, fun _ => (by first | rfl | simp), h22, h23, h24⟩
    | 22, _ =>
      have ho' := ho
      simp [opsregMa] at ho
      subst ho
      obtain rfl := h13 (hall ⟨13, .guard⟩ (by simp) rfl)
      obtain rfl := h19 (hall ⟨19, .data⟩ (by simp) rfl)
      obtain rfl := h21 (hall ⟨21, .data⟩ (by simp) rfl)
      refine wpOp_on ho' rfl fun K hK => ?_
      go_simp
      exact hK _ _ ⟨y0, y1, y2, y3, y4, y5, y6, y7, y8, y9, y10, y11, y12, _, y14, y15, y16, y17, y18, _, y20, _, _, y23, y24, rfl, hb, h0, h1, h2, h3, h4, h5, h6, h7, h8, h9, h10, h11, h12, fun _ => rfl, h14, h15, h16, h17, h18, fun _ => rfl, h20, fun _ => rfl, fun _ => (by first | rfl | simp), h23, h24⟩
    | 23, _ =>
      have ho' := ho
      simp [opsregMa] at ho
      subst ho
      obtain rfl := h10 (hall ⟨10, .guard⟩ (by simp) rfl)
      obtain rfl := h13 (hall ⟨13, .data⟩ (by simp) rfl)
      obtain rfl := h22 (hall ⟨22, .data⟩ (by simp) rfl)
      refine wpOp_on ho' rfl fun K hK => ?_
      go_simp
      exact hK _ _ ⟨y0, y1, y2, y3, y4, y5, y6, y7, y8, y9, _, y11, y12, _, y14, y15, y16, y17, y18, y19, y20, y21, _, _, y24, rfl, hb, h0, h1, h2, h3, h4, h5, h6, h7, h8, h9, fun _ => rfl, h11, h12, fun _ => rfl, h14, h15, h16, h17, h18, h19, h20, h21, fun _ => rfl, fun _ => (by first | rfl | simp), h24⟩
    | 24, _ =>
      have ho' := ho
      simp [opsregMa] at ho
      subst ho
      obtain rfl := h10 (hall ⟨10, .data⟩ (by simp) rfl)
      obtain rfl := h23 (hall ⟨23, .data⟩ (by simp) rfl)
      refine wpOp_one ho' rfl fun K hK => ?_
      go_simp
      exact hK _ _ ⟨y0, y1, y2, y3, y4, y5, y6, y7, y8, y9, _, y11, y12, y13, y14, y15, y16, y17, y18, y19, y20, y21, y22, _, _, rfl, hb, h0, h1, h2, h3, h4, h5, h6, h7, h8, h9, fun _ => rfl, h11, h12, h13, h14, h15, h16, h17, h18, h19, h20, h21, h22, fun _ => rfl, fun _ => (by first | rfl | simp)⟩
    | k + 25, hi => omega


end Go.Proofs.YtgdblnppeeknpaaDoor
