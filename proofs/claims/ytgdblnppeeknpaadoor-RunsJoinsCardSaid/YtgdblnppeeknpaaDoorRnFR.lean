/- A drawn region of the document's Formed.
   Conditions: what it loads lies in memory. -/
import Derived.Test.YtgdblnppeeknpaaDoorRnM
import Derived.Test.YtgdblnppeeknpaaDoorOrdX
import Derived.WalkKit
import Derived.KernelRfl
namespace Go.Proofs.YtgdblnppeeknpaaDoor
open Go.RowKit
abbrev opsregFa : Array Oper := #[{ dst := some 12, op := Op.move (Operand.tmp 0), type := 24, pos := "ref.go:27", after := #[], guard := none },
  { dst := some 13, op := Op.move (Operand.tmp 5), type := 3, pos := "ref.go:27", after := #[], guard := none },
  { dst := some 14, op := Op.indexAddr 24 (Operand.tmp 12) (Operand.tmp 13), type := 0, pos := "ref.go:27", after := #[{ on := 0, ground := Ground.data }, { on := 1, ground := Ground.data }], guard := none },
  { dst := some 15, op := Op.fieldAddr 42 (Operand.tmp 14) 1, type := 0, pos := "ref.go:27", after := #[{ on := 2, ground := Ground.data }], guard := none },
  { dst := some 16, op := Op.load 2 (Operand.tmp 15), type := 2, pos := "ref.go:27", after := #[{ on := 3, ground := Ground.data }], guard := none },
  { dst := some 17, op := Op.binOp BinOp.lss 2 (Operand.tmp 16) (Operand.const (Value.int IntKind.i64 1)) 2, type := 4, pos := "ref.go:27", after := #[{ on := 4, ground := Ground.data }], guard := none },
  { dst := some 18, op := Op.move (Operand.tmp 17), type := 4, pos := "ref.go:27", after := #[{ on := 5, ground := Ground.data }], guard := none },
  { dst := some 19, op := Op.move (Operand.tmp 0), type := 24, pos := "ref.go:27", after := #[{ on := 6, ground := Ground.guard }], guard := some (6, false) },
  { dst := some 20, op := Op.move (Operand.tmp 5), type := 3, pos := "ref.go:27", after := #[{ on := 6, ground := Ground.guard }], guard := some (6, false) },
  { dst := some 21, op := Op.indexAddr 24 (Operand.tmp 19) (Operand.tmp 20), type := 0, pos := "ref.go:27", after := #[{ on := 7, ground := Ground.data }, { on := 8, ground := Ground.data }, { on := 6, ground := Ground.guard }], guard := some (6, false) },
  { dst := some 22, op := Op.fieldAddr 42 (Operand.tmp 21) 1, type := 0, pos := "ref.go:27", after := #[{ on := 9, ground := Ground.data }, { on := 6, ground := Ground.guard }], guard := some (6, false) },
  { dst := some 23, op := Op.load 2 (Operand.tmp 22), type := 2, pos := "ref.go:27", after := #[{ on := 10, ground := Ground.data }, { on := 6, ground := Ground.guard }], guard := some (6, false) },
  { dst := some 24, op := Op.move (Operand.tmp 4), type := 2, pos := "ref.go:27", after := #[{ on := 6, ground := Ground.guard }], guard := some (6, false) },
  { dst := some 25, op := Op.binOp BinOp.sub 2 (Operand.const (Value.int IntKind.i64 4611686018427387904)) (Operand.tmp 24) 2, type := 2, pos := "ref.go:27", after := #[{ on := 12, ground := Ground.data }, { on := 6, ground := Ground.guard }], guard := some (6, false) },
  { dst := some 26, op := Op.binOp BinOp.gtr 2 (Operand.tmp 23) (Operand.tmp 25) 2, type := 4, pos := "ref.go:27", after := #[{ on := 11, ground := Ground.data }, { on := 13, ground := Ground.data }, { on := 6, ground := Ground.guard }], guard := some (6, false) },
  { dst := some 27, op := Op.pick (Operand.tmp 18) (Operand.const (Value.bool true)) (Operand.tmp 26), type := 4, pos := "ref.go:27", after := #[{ on := 6, ground := Ground.data }, { on := 14, ground := Ground.data }], guard := none },
  { dst := some 28, op := Op.move (Operand.tmp 27), type := 4, pos := "ref.go:27", after := #[{ on := 15, ground := Ground.data }, { on := 6, ground := Ground.chain }], guard := none },
  { dst := some 29, op := Op.move (Operand.tmp 5), type := 3, pos := "ref.go:27", after := #[{ on := 16, ground := Ground.guard }], guard := some (16, false) },
  { dst := some 30, op := Op.binOp BinOp.gtr 3 (Operand.tmp 29) (Operand.const (Value.int IntKind.i64 0)) 3, type := 4, pos := "ref.go:27", after := #[{ on := 17, ground := Ground.data }, { on := 16, ground := Ground.guard }], guard := some (16, false) },
  { dst := some 31, op := Op.move (Operand.tmp 30), type := 4, pos := "ref.go:27", after := #[{ on := 18, ground := Ground.data }, { on := 16, ground := Ground.chain }, { on := 16, ground := Ground.guard }], guard := some (16, false) },
  { dst := some 32, op := Op.move (Operand.tmp 0), type := 24, pos := "ref.go:27", after := #[{ on := 19, ground := Ground.guard }], guard := some (19, true) },
  { dst := some 33, op := Op.move (Operand.tmp 5), type := 3, pos := "ref.go:27", after := #[{ on := 19, ground := Ground.guard }], guard := some (19, true) },
  { dst := some 34, op := Op.indexAddr 24 (Operand.tmp 32) (Operand.tmp 33), type := 0, pos := "ref.go:27", after := #[{ on := 20, ground := Ground.data }, { on := 21, ground := Ground.data }, { on := 19, ground := Ground.guard }], guard := some (19, true) },
  { dst := some 35, op := Op.fieldAddr 42 (Operand.tmp 34) 0, type := 0, pos := "ref.go:27", after := #[{ on := 22, ground := Ground.data }, { on := 19, ground := Ground.guard }], guard := some (19, true) },
  { dst := some 36, op := Op.load 5 (Operand.tmp 35), type := 5, pos := "ref.go:27", after := #[{ on := 23, ground := Ground.data }, { on := 19, ground := Ground.guard }], guard := some (19, true) },
  { dst := some 37, op := Op.move (Operand.tmp 0), type := 24, pos := "ref.go:27", after := #[{ on := 19, ground := Ground.guard }], guard := some (19, true) },
  { dst := some 38, op := Op.move (Operand.tmp 5), type := 3, pos := "ref.go:27", after := #[{ on := 19, ground := Ground.guard }], guard := some (19, true) },
  { dst := some 39, op := Op.binOp BinOp.sub 3 (Operand.tmp 38) (Operand.const (Value.int IntKind.i64 1)) 3, type := 3, pos := "ref.go:27", after := #[{ on := 26, ground := Ground.data }, { on := 19, ground := Ground.guard }], guard := some (19, true) },
  { dst := some 40, op := Op.indexAddr 24 (Operand.tmp 37) (Operand.tmp 39), type := 0, pos := "ref.go:27", after := #[{ on := 25, ground := Ground.data }, { on := 27, ground := Ground.data }, { on := 19, ground := Ground.guard }], guard := some (19, true) },
  { dst := some 41, op := Op.fieldAddr 42 (Operand.tmp 40) 0, type := 0, pos := "ref.go:27", after := #[{ on := 28, ground := Ground.data }, { on := 19, ground := Ground.guard }], guard := some (19, true) },
  { dst := some 42, op := Op.load 5 (Operand.tmp 41), type := 5, pos := "ref.go:27", after := #[{ on := 29, ground := Ground.data }, { on := 19, ground := Ground.guard }], guard := some (19, true) },
  { dst := some 43, op := Op.binOp BinOp.eql 5 (Operand.tmp 36) (Operand.tmp 42) 5, type := 4, pos := "ref.go:27", after := #[{ on := 24, ground := Ground.data }, { on := 30, ground := Ground.data }, { on := 19, ground := Ground.guard }], guard := some (19, true) },
  { dst := some 44, op := Op.pick (Operand.tmp 31) (Operand.tmp 43) (Operand.const (Value.bool false)), type := 4, pos := "ref.go:27", after := #[{ on := 19, ground := Ground.data }, { on := 31, ground := Ground.data }, { on := 16, ground := Ground.guard }], guard := some (16, false) },
  { dst := some 45, op := Op.pick (Operand.tmp 28) (Operand.const (Value.bool true)) (Operand.tmp 44), type := 4, pos := "ref.go:27", after := #[{ on := 16, ground := Ground.data }, { on := 32, ground := Ground.data }], guard := none }]
def WregFa (i ln cw g o : Nat) (t n : Int) (D : List Deferred) (v1 v2 v3 v6 v7 v8 v9 v10 v11 v46 v47 v48 v49 v50 v51 v52 v53 v54 v55 v56 : Value) (w0 : World) (l : Nat → Bool) (a : Act) (w : World) : Prop :=
  ∃ (y0 y1 y2 y3 y4 y5 y6 y7 y8 y9 y10 y11 y12 y13 y14 y15 y16 y17 y18 y19 y20 y21 y22 y23 y24 y25 y26 y27 y28 y29 y30 y31 y32 y33 : Value), a = { tmps := #[.slice (some ⟨g, o, none⟩) ln cw, v1, v2, v3, .int .i64 n, .int .i64 (i : Int), v6, v7, v8, v9, v10, v11, y0, y1, y2, y3, y4, y5, y6, y7, y8, y9, y10, y11, y12, y13, y14, y15, y16, y17, y18, y19, y20, y21, y22, y23, y24, y25, y26, y27, y28, y29, y30, y31, y32, y33, v46, v47, v48, v49, v50, v51, v52, v53, v54, v55, v56], defers := D } ∧ Below w0.heap.size w0 w ∧
    (l 0 = true → y0 = .slice (some ⟨g, o, none⟩) ln cw) ∧ (l 1 = true → y1 = .int .i64 (i : Int)) ∧ (l 2 = true → y2 = .pointer (some ⟨g, o + i * 2, none⟩)) ∧ (l 3 = true → y3 = .pointer (some ⟨g, o + i * 2 + 1, none⟩)) ∧ (l 4 = true → y4 = .int .i64 t) ∧ (l 5 = true → y5 = .bool true) ∧ (l 6 = true → y6 = .bool true) ∧ (l 15 = true → y15 = .bool true) ∧ (l 16 = true → y16 = .bool true) ∧ (l 19 = true → y19 = undef) ∧ (l 33 = true → y33 = .bool true)
set_option maxHeartbeats 8000000 in
set_option maxRecDepth 100000 in
theorem regFa (i ln cw g o : Nat) (t n : Int) (D : List Deferred) (v1 v2 v3 v6 v7 v8 v9 v10 v11 v46 v47 v48 v49 v50 v51 v52 v53 v54 v55 v56 wy0 wy1 wy2 wy3 wy4 wy5 wy6 wy7 wy8 wy9 wy10 wy11 wy12 wy13 wy14 wy15 wy16 wy17 wy18 wy19 wy20 wy21 wy22 wy23 wy24 wy25 wy26 wy27 wy28 wy29 wy30 wy31 wy32 wy33 : Value) (w : World) (s1 : (0 : Int) ≤ (i : Int)) (s2 : (i : Int) < (ln : Int)) (s3 : ((i : Int)).toNat = i) (c1 : ∀ w', Below w.heap.size w w' → w'.cell? ⟨g, o + i * 2 + 1, none⟩ = some (.int .i64 t)) (g1 : t < 1) (Q : Exit → Act → World → Prop)
    (hQ : ∀ (y0 y1 y2 y3 y4 y5 y6 y7 y8 y9 y10 y11 y12 y13 y14 y15 y16 y17 y18 y19 y20 y21 y22 y23 y24 y25 y26 y27 y28 y29 y30 y31 y32 : Value) (w' : World), Below w.heap.size w w' → Q .normal { tmps := #[.slice (some ⟨g, o, none⟩) ln cw, v1, v2, v3, .int .i64 n, .int .i64 (i : Int), v6, v7, v8, v9, v10, v11, y0, y1, y2, y3, y4, y5, y6, y7, y8, y9, y10, y11, y12, y13, y14, y15, y16, y17, y18, y19, y20, y21, y22, y23, y24, y25, y26, y27, y28, y29, y30, y31, y32, .bool true, v46, v47, v48, v49, v50, v51, v52, v53, v54, v55, v56], defers := D } w') :
    (Code.region 5 opsregFa true).wp Tryd.prog Q { tmps := #[.slice (some ⟨g, o, none⟩) ln cw, v1, v2, v3, .int .i64 n, .int .i64 (i : Int), v6, v7, v8, v9, v10, v11, wy0, wy1, wy2, wy3, wy4, wy5, wy6, wy7, wy8, wy9, wy10, wy11, wy12, wy13, wy14, wy15, wy16, wy17, wy18, wy19, wy20, wy21, wy22, wy23, wy24, wy25, wy26, wy27, wy28, wy29, wy30, wy31, wy32, wy33, v46, v47, v48, v49, v50, v51, v52, v53, v54, v55, v56], defers := D } w := by
  refine wp_region_inv (by kernel_rfl) (WregFa i ln cw g o t n D v1 v2 v3 v6 v7 v8 v9 v10 v11 v46 v47 v48 v49 v50 v51 v52 v53 v54 v55 v56 w) ?hacy ?h0 ?hstep ?hdone
  case hacy => kernel_rfl
  case h0 => exact ⟨wy0, wy1, wy2, wy3, wy4, wy5, wy6, wy7, wy8, wy9, wy10, wy11, wy12, wy13, wy14, wy15, wy16, wy17, wy18, wy19, wy20, wy21, wy22, wy23, wy24, wy25, wy26, wy27, wy28, wy29, wy30, wy31, wy32, wy33, rfl, below_drewN (Below.refl _ _) 1, (fun p => by cases p), (fun p => by cases p), (fun p => by cases p), (fun p => by cases p), (fun p => by cases p), (fun p => by cases p), (fun p => by cases p), (fun p => by cases p), (fun p => by cases p), (fun p => by cases p), (fun p => by cases p)⟩
  case hdone =>
    intro l a w1 hI hall
    obtain ⟨y0, y1, y2, y3, y4, y5, y6, y7, y8, y9, y10, y11, y12, y13, y14, y15, y16, y17, y18, y19, y20, y21, y22, y23, y24, y25, y26, y27, y28, y29, y30, y31, y32, y33, rfl, hb, h0, h1, h2, h3, h4, h5, h6, h15, h16, h19, h33⟩ := hI
    obtain rfl := h33 (hall 33 (by decide))
    exact hQ _ _ _ _ _ _ _ _ _ _ _ _ _ _ _ _ _ _ _ _ _ _ _ _ _ _ _ _ _ _ _ _ _ _ hb 
  case hstep =>
    intro l a w1 i o hI ho hl hall
    obtain ⟨y0, y1, y2, y3, y4, y5, y6, y7, y8, y9, y10, y11, y12, y13, y14, y15, y16, y17, y18, y19, y20, y21, y22, y23, y24, y25, y26, y27, y28, y29, y30, y31, y32, y33, rfl, hb, h0, h1, h2, h3, h4, h5, h6, h15, h16, h19, h33⟩ := hI
    have hi : i < 34 := (Array.getElem?_eq_some_iff.1 ho).1
    match i, hi with
    | 0, _ =>
      have ho' := ho
      simp [opsregFa] at ho
      subst ho
      refine wpOp_one ho' rfl fun K hK => ?_
      go_simp
      exact hK _ _ ⟨_, y1, y2, y3, y4, y5, y6, y7, y8, y9, y10, y11, y12, y13, y14, y15, y16, y17, y18, y19, y20, y21, y22, y23, y24, y25, y26, y27, y28, y29, y30, y31, y32, y33, rfl, hb, fun _ => (by first | rfl | simp), h1, h2, h3, h4, h5, h6, h15, h16, h19, h33⟩
    | 1, _ =>
      have ho' := ho
      simp [opsregFa] at ho
      subst ho
      refine wpOp_one ho' rfl fun K hK => ?_
      go_simp
      exact hK _ _ ⟨y0, _, y2, y3, y4, y5, y6, y7, y8, y9, y10, y11, y12, y13, y14, y15, y16, y17, y18, y19, y20, y21, y22, y23, y24, y25, y26, y27, y28, y29, y30, y31, y32, y33, rfl, hb, h0, fun _ => (by first | rfl | simp), h2, h3, h4, h5, h6, h15, h16, h19, h33⟩
    | 2, _ =>
      have ho' := ho
      simp [opsregFa] at ho
      subst ho
      obtain rfl := h0 (hall ⟨0, .data⟩ (by simp) rfl)
      obtain rfl := h1 (hall ⟨1, .data⟩ (by simp) rfl)
      refine wpOp_one ho' rfl fun K hK => ?_
      go_simp
      exact hK _ _ ⟨_, _, _, y3, y4, y5, y6, y7, y8, y9, y10, y11, y12, y13, y14, y15, y16, y17, y18, y19, y20, y21, y22, y23, y24, y25, y26, y27, y28, y29, y30, y31, y32, y33, rfl, hb, fun _ => rfl, fun _ => rfl, fun _ => (by first | rfl | simp), h3, h4, h5, h6, h15, h16, h19, h33⟩
    | 3, _ =>
      have ho' := ho
      simp [opsregFa] at ho
      subst ho
      obtain rfl := h2 (hall ⟨2, .data⟩ (by simp) rfl)
      refine wpOp_one ho' rfl fun K hK => ?_
      go_simp
      exact hK _ _ ⟨y0, y1, _, _, y4, y5, y6, y7, y8, y9, y10, y11, y12, y13, y14, y15, y16, y17, y18, y19, y20, y21, y22, y23, y24, y25, y26, y27, y28, y29, y30, y31, y32, y33, rfl, hb, h0, h1, fun _ => rfl, fun _ => (by first | rfl | simp), h4, h5, h6, h15, h16, h19, h33⟩
    | 4, _ =>
      have ho' := ho
      simp [opsregFa] at ho
      subst ho
      obtain rfl := h3 (hall ⟨3, .data⟩ (by simp) rfl)
      refine wpOp_one ho' rfl fun K hK => ?_
      have x1 := c1 w1 hb
      go_simp
      exact hK _ _ ⟨y0, y1, y2, _, _, y5, y6, y7, y8, y9, y10, y11, y12, y13, y14, y15, y16, y17, y18, y19, y20, y21, y22, y23, y24, y25, y26, y27, y28, y29, y30, y31, y32, y33, rfl, hb, h0, h1, h2, fun _ => rfl, fun _ => (by first | rfl | simp), h5, h6, h15, h16, h19, h33⟩
    | 5, _ =>
      have ho' := ho
      simp [opsregFa] at ho
      subst ho
      obtain rfl := h4 (hall ⟨4, .data⟩ (by simp) rfl)
      refine wpOp_one ho' rfl fun K hK => ?_
      go_simp
      exact hK _ _ ⟨y0, y1, y2, y3, _, _, y6, y7, y8, y9, y10, y11, y12, y13, y14, y15, y16, y17, y18, y19, y20, y21, y22, y23, y24, y25, y26, y27, y28, y29, y30, y31, y32, y33, rfl, hb, h0, h1, h2, h3, fun _ => rfl, fun _ => (by first | rfl | simp), h6, h15, h16, h19, h33⟩
    | 6, _ =>
      have ho' := ho
      simp [opsregFa] at ho
      subst ho
      obtain rfl := h5 (hall ⟨5, .data⟩ (by simp) rfl)
      refine wpOp_one ho' rfl fun K hK => ?_
      go_simp
      exact hK _ _ ⟨y0, y1, y2, y3, y4, _, _, y7, y8, y9, y10, y11, y12, y13, y14, y15, y16, y17, y18, y19, y20, y21, y22, y23, y24, y25, y26, y27, y28, y29, y30, y31, y32, y33, rfl, hb, h0, h1, h2, h3, h4, fun _ => rfl, fun _ => (by first | rfl | simp), h15, h16, h19, h33⟩
    | 7, _ =>
      have ho' := ho
      simp [opsregFa] at ho
      subst ho
      obtain rfl := h6 (hall ⟨6, .guard⟩ (by simp) rfl)
      refine wpOq_off ho' rfl ?_
      exact ⟨y0, y1, y2, y3, y4, y5, _, _, y8, y9, y10, y11, y12, y13, y14, y15, y16, y17, y18, y19, y20, y21, y22, y23, y24, y25, y26, y27, y28, y29, y30, y31, y32, y33, rfl, hb, h0, h1, h2, h3, h4, h5, fun _ => rfl, h15, h16, h19, h33⟩
    | 8, _ =>
      have ho' := ho
      simp [opsregFa] at ho
      subst ho
      obtain rfl := h6 (hall ⟨6, .guard⟩ (by simp) rfl)
      refine wpOq_off ho' rfl ?_
      exact ⟨y0, y1, y2, y3, y4, y5, _, y7, _, y9, y10, y11, y12, y13, y14, y15, y16, y17, y18, y19, y20, y21, y22, y23, y24, y25, y26, y27, y28, y29, y30, y31, y32, y33, rfl, hb, h0, h1, h2, h3, h4, h5, fun _ => rfl, h15, h16, h19, h33⟩
    | 9, _ =>
      have ho' := ho
      simp [opsregFa] at ho
      subst ho
      obtain rfl := h6 (hall ⟨6, .guard⟩ (by simp) rfl)
      refine wpOq_off ho' rfl ?_
      exact ⟨y0, y1, y2, y3, y4, y5, _, y7, y8, _, y10, y11, y12, y13, y14, y15, y16, y17, y18, y19, y20, y21, y22, y23, y24, y25, y26, y27, y28, y29, y30, y31, y32, y33, rfl, hb, h0, h1, h2, h3, h4, h5, fun _ => rfl, h15, h16, h19, h33⟩
    | 10, _ =>
      have ho' := ho
      simp [opsregFa] at ho
      subst ho
      obtain rfl := h6 (hall ⟨6, .guard⟩ (by simp) rfl)
      refine wpOq_off ho' rfl ?_
      exact ⟨y0, y1, y2, y3, y4, y5, _, y7, y8, y9, _, y11, y12, y13, y14, y15, y16, y17, y18, y19, y20, y21, y22, y23, y24, y25, y26, y27, y28, y29, y30, y31, y32, y33, rfl, hb, h0, h1, h2, h3, h4, h5, fun _ => rfl, h15, h16, h19, h33⟩
    | 11, _ =>
      have ho' := ho
      simp [opsregFa] at ho
      subst ho
      obtain rfl := h6 (hall ⟨6, .guard⟩ (by simp) rfl)
      refine wpOq_off ho' rfl ?_
      exact ⟨y0, y1, y2, y3, y4, y5, _, y7, y8, y9, y10, _, y12, y13, y14, y15, y16, y17, y18, y19, y20, y21, y22, y23, y24, y25, y26, y27, y28, y29, y30, y31, y32, y33, rfl, hb, h0, h1, h2, h3, h4, h5, fun _ => rfl, h15, h16, h19, h33⟩
    | 12, _ =>
      have ho' := ho
      simp [opsregFa] at ho
      subst ho
      obtain rfl := h6 (hall ⟨6, .guard⟩ (by simp) rfl)
      refine wpOq_off ho' rfl ?_
      exact ⟨y0, y1, y2, y3, y4, y5, _, y7, y8, y9, y10, y11, _, y13, y14, y15, y16, y17, y18, y19, y20, y21, y22, y23, y24, y25, y26, y27, y28, y29, y30, y31, y32, y33, rfl, hb, h0, h1, h2, h3, h4, h5, fun _ => rfl, h15, h16, h19, h33⟩
    | 13, _ =>
      have ho' := ho
      simp [opsregFa] at ho
      subst ho
      obtain rfl := h6 (hall ⟨6, .guard⟩ (by simp) rfl)
      refine wpOq_off ho' rfl ?_
      exact ⟨y0, y1, y2, y3, y4, y5, _, y7, y8, y9, y10, y11, y12, _, y14, y15, y16, y17, y18, y19, y20, y21, y22, y23, y24, y25, y26, y27, y28, y29, y30, y31, y32, y33, rfl, hb, h0, h1, h2, h3, h4, h5, fun _ => rfl, h15, h16, h19, h33⟩
    | 14, _ =>
      have ho' := ho
      simp [opsregFa] at ho
      subst ho
      obtain rfl := h6 (hall ⟨6, .guard⟩ (by simp) rfl)
      refine wpOq_off ho' rfl ?_
      exact ⟨y0, y1, y2, y3, y4, y5, _, y7, y8, y9, y10, y11, y12, y13, _, y15, y16, y17, y18, y19, y20, y21, y22, y23, y24, y25, y26, y27, y28, y29, y30, y31, y32, y33, rfl, hb, h0, h1, h2, h3, h4, h5, fun _ => rfl, h15, h16, h19, h33⟩
    | 15, _ =>
      have ho' := ho
      simp [opsregFa] at ho
      subst ho
      obtain rfl := h6 (hall ⟨6, .data⟩ (by simp) rfl)
      refine wpOp_one ho' rfl fun K hK => ?_
      go_simp
      exact hK _ _ ⟨y0, y1, y2, y3, y4, y5, _, y7, y8, y9, y10, y11, y12, y13, y14, _, y16, y17, y18, y19, y20, y21, y22, y23, y24, y25, y26, y27, y28, y29, y30, y31, y32, y33, rfl, hb, h0, h1, h2, h3, h4, h5, fun _ => rfl, fun _ => (by first | rfl | simp), h16, h19, h33⟩
    | 16, _ =>
      have ho' := ho
      simp [opsregFa] at ho
      subst ho
      obtain rfl := h15 (hall ⟨15, .data⟩ (by simp) rfl)
      refine wpOp_one ho' rfl fun K hK => ?_
      go_simp
      exact hK _ _ ⟨y0, y1, y2, y3, y4, y5, y6, y7, y8, y9, y10, y11, y12, y13, y14, _, _, y17, y18, y19, y20, y21, y22, y23, y24, y25, y26, y27, y28, y29, y30, y31, y32, y33, rfl, hb, h0, h1, h2, h3, h4, h5, h6, fun _ => rfl, fun _ => (by first | rfl | simp), h19, h33⟩
    | 17, _ =>
      have ho' := ho
      simp [opsregFa] at ho
      subst ho
      obtain rfl := h16 (hall ⟨16, .guard⟩ (by simp) rfl)
      refine wpOq_off ho' rfl ?_
      exact ⟨y0, y1, y2, y3, y4, y5, y6, y7, y8, y9, y10, y11, y12, y13, y14, y15, _, _, y18, y19, y20, y21, y22, y23, y24, y25, y26, y27, y28, y29, y30, y31, y32, y33, rfl, hb, h0, h1, h2, h3, h4, h5, h6, h15, fun _ => rfl, h19, h33⟩
    | 18, _ =>
      have ho' := ho
      simp [opsregFa] at ho
      subst ho
      obtain rfl := h16 (hall ⟨16, .guard⟩ (by simp) rfl)
      refine wpOq_off ho' rfl ?_
      exact ⟨y0, y1, y2, y3, y4, y5, y6, y7, y8, y9, y10, y11, y12, y13, y14, y15, _, y17, _, y19, y20, y21, y22, y23, y24, y25, y26, y27, y28, y29, y30, y31, y32, y33, rfl, hb, h0, h1, h2, h3, h4, h5, h6, h15, fun _ => rfl, h19, h33⟩
    | 19, _ =>
      have ho' := ho
      simp [opsregFa] at ho
      subst ho
      obtain rfl := h16 (hall ⟨16, .chain⟩ (by simp) rfl)
      refine wpOq_off ho' rfl ?_
      exact ⟨y0, y1, y2, y3, y4, y5, y6, y7, y8, y9, y10, y11, y12, y13, y14, y15, _, y17, y18, _, y20, y21, y22, y23, y24, y25, y26, y27, y28, y29, y30, y31, y32, y33, rfl, hb, h0, h1, h2, h3, h4, h5, h6, h15, fun _ => rfl, fun _ => rfl, h33⟩
    | 20, _ =>
      have ho' := ho
      simp [opsregFa] at ho
      subst ho
      obtain rfl := h19 (hall ⟨19, .guard⟩ (by simp) rfl)
      refine wpOq_off ho' rfl ?_
      exact ⟨y0, y1, y2, y3, y4, y5, y6, y7, y8, y9, y10, y11, y12, y13, y14, y15, y16, y17, y18, _, _, y21, y22, y23, y24, y25, y26, y27, y28, y29, y30, y31, y32, y33, rfl, hb, h0, h1, h2, h3, h4, h5, h6, h15, h16, fun _ => rfl, h33⟩
    | 21, _ =>
      have ho' := ho
      simp [opsregFa] at ho
      subst ho
      obtain rfl := h19 (hall ⟨19, .guard⟩ (by simp) rfl)
      refine wpOq_off ho' rfl ?_
      exact ⟨y0, y1, y2, y3, y4, y5, y6, y7, y8, y9, y10, y11, y12, y13, y14, y15, y16, y17, y18, _, y20, _, y22, y23, y24, y25, y26, y27, y28, y29, y30, y31, y32, y33, rfl, hb, h0, h1, h2, h3, h4, h5, h6, h15, h16, fun _ => rfl, h33⟩
    | 22, _ =>
      have ho' := ho
      simp [opsregFa] at ho
      subst ho
      obtain rfl := h19 (hall ⟨19, .guard⟩ (by simp) rfl)
      refine wpOq_off ho' rfl ?_
      exact ⟨y0, y1, y2, y3, y4, y5, y6, y7, y8, y9, y10, y11, y12, y13, y14, y15, y16, y17, y18, _, y20, y21, _, y23, y24, y25, y26, y27, y28, y29, y30, y31, y32, y33, rfl, hb, h0, h1, h2, h3, h4, h5, h6, h15, h16, fun _ => rfl, h33⟩
    | 23, _ =>
      have ho' := ho
      simp [opsregFa] at ho
      subst ho
      obtain rfl := h19 (hall ⟨19, .guard⟩ (by simp) rfl)
      refine wpOq_off ho' rfl ?_
      exact ⟨y0, y1, y2, y3, y4, y5, y6, y7, y8, y9, y10, y11, y12, y13, y14, y15, y16, y17, y18, _, y20, y21, y22, _, y24, y25, y26, y27, y28, y29, y30, y31, y32, y33, rfl, hb, h0, h1, h2, h3, h4, h5, h6, h15, h16, fun _ => rfl, h33⟩
    | 24, _ =>
      have ho' := ho
      simp [opsregFa] at ho
      subst ho
      obtain rfl := h19 (hall ⟨19, .guard⟩ (by simp) rfl)
      refine wpOq_off ho' rfl ?_
      exact ⟨y0, y1, y2, y3, y4, y5, y6, y7, y8, y9, y10, y11, y12, y13, y14, y15, y16, y17, y18, _, y20, y21, y22, y23, _, y25, y26, y27, y28, y29, y30, y31, y32, y33, rfl, hb, h0, h1, h2, h3, h4, h5, h6, h15, h16, fun _ => rfl, h33⟩
    | 25, _ =>
      have ho' := ho
      simp [opsregFa] at ho
      subst ho
      obtain rfl := h19 (hall ⟨19, .guard⟩ (by simp) rfl)
      refine wpOq_off ho' rfl ?_
      exact ⟨y0, y1, y2, y3, y4, y5, y6, y7, y8, y9, y10, y11, y12, y13, y14, y15, y16, y17, y18, _, y20, y21, y22, y23, y24, _, y26, y27, y28, y29, y30, y31, y32, y33, rfl, hb, h0, h1, h2, h3, h4, h5, h6, h15, h16, fun _ => rfl, h33⟩
    | 26, _ =>
      have ho' := ho
      simp [opsregFa] at ho
      subst ho
      obtain rfl := h19 (hall ⟨19, .guard⟩ (by simp) rfl)
      refine wpOq_off ho' rfl ?_
      exact ⟨y0, y1, y2, y3, y4, y5, y6, y7, y8, y9, y10, y11, y12, y13, y14, y15, y16, y17, y18, _, y20, y21, y22, y23, y24, y25, _, y27, y28, y29, y30, y31, y32, y33, rfl, hb, h0, h1, h2, h3, h4, h5, h6, h15, h16, fun _ => rfl, h33⟩
    | 27, _ =>
      have ho' := ho
      simp [opsregFa] at ho
      subst ho
      obtain rfl := h19 (hall ⟨19, .guard⟩ (by simp) rfl)
      refine wpOq_off ho' rfl ?_
      exact ⟨y0, y1, y2, y3, y4, y5, y6, y7, y8, y9, y10, y11, y12, y13, y14, y15, y16, y17, y18, _, y20, y21, y22, y23, y24, y25, y26, _, y28, y29, y30, y31, y32, y33, rfl, hb, h0, h1, h2, h3, h4, h5, h6, h15, h16, fun _ => rfl, h33⟩
    | 28, _ =>
      have ho' := ho
      simp [opsregFa] at ho
      subst ho
      obtain rfl := h19 (hall ⟨19, .guard⟩ (by simp) rfl)
      refine wpOq_off ho' rfl ?_
      exact ⟨y0, y1, y2, y3, y4, y5, y6, y7, y8, y9, y10, y11, y12, y13, y14, y15, y16, y17, y18, _, y20, y21, y22, y23, y24, y25, y26, y27, _, y29, y30, y31, y32, y33, rfl, hb, h0, h1, h2, h3, h4, h5, h6, h15, h16, fun _ => rfl, h33⟩
    | 29, _ =>
      have ho' := ho
      simp [opsregFa] at ho
      subst ho
      obtain rfl := h19 (hall ⟨19, .guard⟩ (by simp) rfl)
      refine wpOq_off ho' rfl ?_
      exact ⟨y0, y1, y2, y3, y4, y5, y6, y7, y8, y9, y10, y11, y12, y13, y14, y15, y16, y17, y18, _, y20, y21, y22, y23, y24, y25, y26, y27, y28, _, y30, y31, y32, y33, rfl, hb, h0, h1, h2, h3, h4, h5, h6, h15, h16, fun _ => rfl, h33⟩
    | 30, _ =>
      have ho' := ho
      simp [opsregFa] at ho
      subst ho
      obtain rfl := h19 (hall ⟨19, .guard⟩ (by simp) rfl)
      refine wpOq_off ho' rfl ?_
      exact ⟨y0, y1, y2, y3, y4, y5, y6, y7, y8, y9, y10, y11, y12, y13, y14, y15, y16, y17, y18, _, y20, y21, y22, y23, y24, y25, y26, y27, y28, y29, _, y31, y32, y33, rfl, hb, h0, h1, h2, h3, h4, h5, h6, h15, h16, fun _ => rfl, h33⟩
    | 31, _ =>
      have ho' := ho
      simp [opsregFa] at ho
      subst ho
      obtain rfl := h19 (hall ⟨19, .guard⟩ (by simp) rfl)
      refine wpOq_off ho' rfl ?_
      exact ⟨y0, y1, y2, y3, y4, y5, y6, y7, y8, y9, y10, y11, y12, y13, y14, y15, y16, y17, y18, _, y20, y21, y22, y23, y24, y25, y26, y27, y28, y29, y30, _, y32, y33, rfl, hb, h0, h1, h2, h3, h4, h5, h6, h15, h16, fun _ => rfl, h33⟩
    | 32, _ =>
      have ho' := ho
      simp [opsregFa] at ho
      subst ho
      obtain rfl := h16 (hall ⟨16, .guard⟩ (by simp) rfl)
      obtain rfl := h19 (hall ⟨19, .data⟩ (by simp) rfl)
      refine wpOq_off ho' rfl ?_
      exact ⟨y0, y1, y2, y3, y4, y5, y6, y7, y8, y9, y10, y11, y12, y13, y14, y15, _, y17, y18, _, y20, y21, y22, y23, y24, y25, y26, y27, y28, y29, y30, y31, _, y33, rfl, hb, h0, h1, h2, h3, h4, h5, h6, h15, fun _ => rfl, fun _ => rfl, h33⟩
    | 33, _ =>
      have ho' := ho
      simp [opsregFa] at ho
      subst ho
      obtain rfl := h16 (hall ⟨16, .data⟩ (by simp) rfl)
      refine wpOp_one ho' rfl fun K hK => ?_
      go_simp
      exact hK _ _ ⟨y0, y1, y2, y3, y4, y5, y6, y7, y8, y9, y10, y11, y12, y13, y14, y15, _, y17, y18, y19, y20, y21, y22, y23, y24, y25, y26, y27, y28, y29, y30, y31, y32, _, rfl, hb, h0, h1, h2, h3, h4, h5, h6, h15, fun _ => rfl, h19, fun _ => (by first | rfl | simp)⟩
    | k + 34, hi => omega

def WregFb (i ln cw g o : Nat) (t n : Int) (D : List Deferred) (v1 v2 v3 v6 v7 v8 v9 v10 v11 v46 v47 v48 v49 v50 v51 v52 v53 v54 v55 v56 : Value) (w0 : World) (l : Nat → Bool) (a : Act) (w : World) : Prop :=
  ∃ (y0 y1 y2 y3 y4 y5 y6 y7 y8 y9 y10 y11 y12 y13 y14 y15 y16 y17 y18 y19 y20 y21 y22 y23 y24 y25 y26 y27 y28 y29 y30 y31 y32 y33 : Value), a = { tmps := #[.slice (some ⟨g, o, none⟩) ln cw, v1, v2, v3, .int .i64 n, .int .i64 (i : Int), v6, v7, v8, v9, v10, v11, y0, y1, y2, y3, y4, y5, y6, y7, y8, y9, y10, y11, y12, y13, y14, y15, y16, y17, y18, y19, y20, y21, y22, y23, y24, y25, y26, y27, y28, y29, y30, y31, y32, y33, v46, v47, v48, v49, v50, v51, v52, v53, v54, v55, v56], defers := D } ∧ Below w0.heap.size w0 w ∧
    (l 0 = true → y0 = .slice (some ⟨g, o, none⟩) ln cw) ∧ (l 1 = true → y1 = .int .i64 (i : Int)) ∧ (l 2 = true → y2 = .pointer (some ⟨g, o + i * 2, none⟩)) ∧ (l 3 = true → y3 = .pointer (some ⟨g, o + i * 2 + 1, none⟩)) ∧ (l 4 = true → y4 = .int .i64 t) ∧ (l 5 = true → y5 = .bool false) ∧ (l 6 = true → y6 = .bool false) ∧ (l 7 = true → y7 = .slice (some ⟨g, o, none⟩) ln cw) ∧ (l 8 = true → y8 = .int .i64 (i : Int)) ∧ (l 9 = true → y9 = .pointer (some ⟨g, o + i * 2, none⟩)) ∧ (l 10 = true → y10 = .pointer (some ⟨g, o + i * 2 + 1, none⟩)) ∧ (l 11 = true → y11 = .int .i64 t) ∧ (l 12 = true → y12 = .int .i64 n) ∧ (l 13 = true → y13 = .int .i64 (4611686018427387904 - n)) ∧ (l 14 = true → y14 = .bool true) ∧ (l 15 = true → y15 = .bool true) ∧ (l 16 = true → y16 = .bool true) ∧ (l 19 = true → y19 = undef) ∧ (l 33 = true → y33 = .bool true)
set_option maxHeartbeats 8000000 in
set_option maxRecDepth 100000 in
theorem regFb (i ln cw g o : Nat) (t n : Int) (D : List Deferred) (v1 v2 v3 v6 v7 v8 v9 v10 v11 v46 v47 v48 v49 v50 v51 v52 v53 v54 v55 v56 wy0 wy1 wy2 wy3 wy4 wy5 wy6 wy7 wy8 wy9 wy10 wy11 wy12 wy13 wy14 wy15 wy16 wy17 wy18 wy19 wy20 wy21 wy22 wy23 wy24 wy25 wy26 wy27 wy28 wy29 wy30 wy31 wy32 wy33 : Value) (w : World) (s1 : (0 : Int) ≤ (i : Int)) (s2 : (i : Int) < (ln : Int)) (s3 : ((i : Int)).toNat = i) (c1 : ∀ w', Below w.heap.size w w' → w'.cell? ⟨g, o + i * 2 + 1, none⟩ = some (.int .i64 t)) (g1 : ¬ t < 1) (ws : IntKind.i64.wrap (4611686018427387904 - n) = 4611686018427387904 - n) (g2 : 4611686018427387904 - n < t) (Q : Exit → Act → World → Prop)
    (hQ : ∀ (y0 y1 y2 y3 y4 y5 y6 y7 y8 y9 y10 y11 y12 y13 y14 y15 y16 y17 y18 y19 y20 y21 y22 y23 y24 y25 y26 y27 y28 y29 y30 y31 y32 : Value) (w' : World), Below w.heap.size w w' → Q .normal { tmps := #[.slice (some ⟨g, o, none⟩) ln cw, v1, v2, v3, .int .i64 n, .int .i64 (i : Int), v6, v7, v8, v9, v10, v11, y0, y1, y2, y3, y4, y5, y6, y7, y8, y9, y10, y11, y12, y13, y14, y15, y16, y17, y18, y19, y20, y21, y22, y23, y24, y25, y26, y27, y28, y29, y30, y31, y32, .bool true, v46, v47, v48, v49, v50, v51, v52, v53, v54, v55, v56], defers := D } w') :
    (Code.region 5 opsregFa true).wp Tryd.prog Q { tmps := #[.slice (some ⟨g, o, none⟩) ln cw, v1, v2, v3, .int .i64 n, .int .i64 (i : Int), v6, v7, v8, v9, v10, v11, wy0, wy1, wy2, wy3, wy4, wy5, wy6, wy7, wy8, wy9, wy10, wy11, wy12, wy13, wy14, wy15, wy16, wy17, wy18, wy19, wy20, wy21, wy22, wy23, wy24, wy25, wy26, wy27, wy28, wy29, wy30, wy31, wy32, wy33, v46, v47, v48, v49, v50, v51, v52, v53, v54, v55, v56], defers := D } w := by
  refine wp_region_inv (by kernel_rfl) (WregFb i ln cw g o t n D v1 v2 v3 v6 v7 v8 v9 v10 v11 v46 v47 v48 v49 v50 v51 v52 v53 v54 v55 v56 w) ?hacy ?h0 ?hstep ?hdone
  case hacy => kernel_rfl
  case h0 => exact ⟨wy0, wy1, wy2, wy3, wy4, wy5, wy6, wy7, wy8, wy9, wy10, wy11, wy12, wy13, wy14, wy15, wy16, wy17, wy18, wy19, wy20, wy21, wy22, wy23, wy24, wy25, wy26, wy27, wy28, wy29, wy30, wy31, wy32, wy33, rfl, below_drewN (Below.refl _ _) 1, (fun p => by cases p), (fun p => by cases p), (fun p => by cases p), (fun p => by cases p), (fun p => by cases p), (fun p => by cases p), (fun p => by cases p), (fun p => by cases p), (fun p => by cases p), (fun p => by cases p), (fun p => by cases p), (fun p => by cases p), (fun p => by cases p), (fun p => by cases p), (fun p => by cases p), (fun p => by cases p), (fun p => by cases p), (fun p => by cases p), (fun p => by cases p)⟩
  case hdone =>
    intro l a w1 hI hall
    obtain ⟨y0, y1, y2, y3, y4, y5, y6, y7, y8, y9, y10, y11, y12, y13, y14, y15, y16, y17, y18, y19, y20, y21, y22, y23, y24, y25, y26, y27, y28, y29, y30, y31, y32, y33, rfl, hb, h0, h1, h2, h3, h4, h5, h6, h7, h8, h9, h10, h11, h12, h13, h14, h15, h16, h19, h33⟩ := hI
    obtain rfl := h33 (hall 33 (by decide))
    exact hQ _ _ _ _ _ _ _ _ _ _ _ _ _ _ _ _ _ _ _ _ _ _ _ _ _ _ _ _ _ _ _ _ _ _ hb 
  case hstep =>
    intro l a w1 i o hI ho hl hall
    obtain ⟨y0, y1, y2, y3, y4, y5, y6, y7, y8, y9, y10, y11, y12, y13, y14, y15, y16, y17, y18, y19, y20, y21, y22, y23, y24, y25, y26, y27, y28, y29, y30, y31, y32, y33, rfl, hb, h0, h1, h2, h3, h4, h5, h6, h7, h8, h9, h10, h11, h12, h13, h14, h15, h16, h19, h33⟩ := hI
    have hi : i < 34 := (Array.getElem?_eq_some_iff.1 ho).1
    match i, hi with
    | 0, _ =>
      have ho' := ho
      simp [opsregFa] at ho
      subst ho
      refine wpOp_one ho' rfl fun K hK => ?_
      go_simp
      exact hK _ _ ⟨_, y1, y2, y3, y4, y5, y6, y7, y8, y9, y10, y11, y12, y13, y14, y15, y16, y17, y18, y19, y20, y21, y22, y23, y24, y25, y26, y27, y28, y29, y30, y31, y32, y33, rfl, hb, fun _ => (by first | rfl | simp), h1, h2, h3, h4, h5, h6, h7, h8, h9, h10, h11, h12, h13, h14, h15, h16, h19, h33⟩
    | 1, _ =>
      have ho' := ho
      simp [opsregFa] at ho
      subst ho
      refine wpOp_one ho' rfl fun K hK => ?_
      go_simp
      exact hK _ _ ⟨y0, _, y2, y3, y4, y5, y6, y7, y8, y9, y10, y11, y12, y13, y14, y15, y16, y17, y18, y19, y20, y21, y22, y23, y24, y25, y26, y27, y28, y29, y30, y31, y32, y33, rfl, hb, h0, fun _ => (by first | rfl | simp), h2, h3, h4, h5, h6, h7, h8, h9, h10, h11, h12, h13, h14, h15, h16, h19, h33⟩
    | 2, _ =>
      have ho' := ho
      simp [opsregFa] at ho
      subst ho
      obtain rfl := h0 (hall ⟨0, .data⟩ (by simp) rfl)
      obtain rfl := h1 (hall ⟨1, .data⟩ (by simp) rfl)
      refine wpOp_one ho' rfl fun K hK => ?_
      go_simp
      exact hK _ _ ⟨_, _, _, y3, y4, y5, y6, y7, y8, y9, y10, y11, y12, y13, y14, y15, y16, y17, y18, y19, y20, y21, y22, y23, y24, y25, y26, y27, y28, y29, y30, y31, y32, y33, rfl, hb, fun _ => rfl, fun _ => rfl, fun _ => (by first | rfl | simp), h3, h4, h5, h6, h7, h8, h9, h10, h11, h12, h13, h14, h15, h16, h19, h33⟩
    | 3, _ =>
      have ho' := ho
      simp [opsregFa] at ho
      subst ho
      obtain rfl := h2 (hall ⟨2, .data⟩ (by simp) rfl)
      refine wpOp_one ho' rfl fun K hK => ?_
      go_simp
      exact hK _ _ ⟨y0, y1, _, _, y4, y5, y6, y7, y8, y9, y10, y11, y12, y13, y14, y15, y16, y17, y18, y19, y20, y21, y22, y23, y24, y25, y26, y27, y28, y29, y30, y31, y32, y33, rfl, hb, h0, h1, fun _ => rfl, fun _ => (by first | rfl | simp), h4, h5, h6, h7, h8, h9, h10, h11, h12, h13, h14, h15, h16, h19, h33⟩
    | 4, _ =>
      have ho' := ho
      simp [opsregFa] at ho
      subst ho
      obtain rfl := h3 (hall ⟨3, .data⟩ (by simp) rfl)
      refine wpOp_one ho' rfl fun K hK => ?_
      have x1 := c1 w1 hb
      go_simp
      exact hK _ _ ⟨y0, y1, y2, _, _, y5, y6, y7, y8, y9, y10, y11, y12, y13, y14, y15, y16, y17, y18, y19, y20, y21, y22, y23, y24, y25, y26, y27, y28, y29, y30, y31, y32, y33, rfl, hb, h0, h1, h2, fun _ => rfl, fun _ => (by first | rfl | simp), h5, h6, h7, h8, h9, h10, h11, h12, h13, h14, h15, h16, h19, h33⟩
    | 5, _ =>
      have ho' := ho
      simp [opsregFa] at ho
      subst ho
      obtain rfl := h4 (hall ⟨4, .data⟩ (by simp) rfl)
      refine wpOp_one ho' rfl fun K hK => ?_
      go_simp
      exact hK _ _ ⟨y0, y1, y2, y3, _, _, y6, y7, y8, y9, y10, y11, y12, y13, y14, y15, y16, y17, y18, y19, y20, y21, y22, y23, y24, y25, y26, y27, y28, y29, y30, y31, y32, y33, rfl, hb, h0, h1, h2, h3, fun _ => rfl, fun _ => (by first | rfl | simp), h6, h7, h8, h9, h10, h11, h12, h13, h14, h15, h16, h19, h33⟩
    | 6, _ =>
      have ho' := ho
      simp [opsregFa] at ho
      subst ho
      obtain rfl := h5 (hall ⟨5, .data⟩ (by simp) rfl)
      refine wpOp_one ho' rfl fun K hK => ?_
      go_simp
      exact hK _ _ ⟨y0, y1, y2, y3, y4, _, _, y7, y8, y9, y10, y11, y12, y13, y14, y15, y16, y17, y18, y19, y20, y21, y22, y23, y24, y25, y26, y27, y28, y29, y30, y31, y32, y33, rfl, hb, h0, h1, h2, h3, h4, fun _ => rfl, fun _ => (by first | rfl | simp), h7, h8, h9, h10, h11, h12, h13, h14, h15, h16, h19, h33⟩
    | 7, _ =>
      have ho' := ho
      simp [opsregFa] at ho
      subst ho
      obtain rfl := h6 (hall ⟨6, .guard⟩ (by simp) rfl)
      refine wpOp_on ho' rfl fun K hK => ?_
      go_simp
      exact hK _ _ ⟨y0, y1, y2, y3, y4, y5, _, _, y8, y9, y10, y11, y12, y13, y14, y15, y16, y17, y18, y19, y20, y21, y22, y23, y24, y25, y26, y27, y28, y29, y30, y31, y32, y33, rfl, hb, h0, h1, h2, h3, h4, h5, fun _ => rfl, fun _ => (by first | rfl | simp), h8, h9, h10, h11, h12, h13, h14, h15, h16, h19, h33⟩
    | 8, _ =>
      have ho' := ho
      simp [opsregFa] at ho
      subst ho
      obtain rfl := h6 (hall ⟨6, .guard⟩ (by simp) rfl)
      refine wpOp_on ho' rfl fun K hK => ?_
      go_simp
      exact hK _ _ ⟨y0, y1, y2, y3, y4, y5, _, y7, _, y9, y10, y11, y12, y13, y14, y15, y16, y17, y18, y19, y20, y21, y22, y23, y24, y25, y26, y27, y28, y29, y30, y31, y32, y33, rfl, hb, h0, h1, h2, h3, h4, h5, fun _ => rfl, h7, fun _ => (by first | rfl | simp), h9, h10, h11, h12, h13, h14, h15, h16, h19, h33⟩
    | 9, _ =>
      have ho' := ho
      simp [opsregFa] at ho
      subst ho
      obtain rfl := h6 (hall ⟨6, .guard⟩ (by simp) rfl)
      obtain rfl := h7 (hall ⟨7, .data⟩ (by simp) rfl)
      obtain rfl := h8 (hall ⟨8, .data⟩ (by simp) rfl)
      refine wpOp_on ho' rfl fun K hK => ?_
      go_simp
      exact hK _ _ ⟨y0, y1, y2, y3, y4, y5, _, _, _, _, y10, y11, y12, y13, y14, y15, y16, y17, y18, y19, y20, y21, y22, y23, y24, y25, y26, y27, y28, y29, y30, y31, y32, y33, rfl, hb, h0, h1, h2, h3, h4, h5, fun _ => rfl, fun _ => rfl, fun _ => rfl, fun _ => (by first | rfl | simp), h10, h11, h12, h13, h14, h15, h16, h19, h33⟩
    | 10, _ =>
      have ho' := ho
      simp [opsregFa] at ho
      subst ho
      obtain rfl := h6 (hall ⟨6, .guard⟩ (by simp) rfl)
      obtain rfl := h9 (hall ⟨9, .data⟩ (by simp) rfl)
      refine wpOp_on ho' rfl fun K hK => ?_
      go_simp
      exact hK _ _ ⟨y0, y1, y2, y3, y4, y5, _, y7, y8, _, _, y11, y12, y13, y14, y15, y16, y17, y18, y19, y20, y21, y22, y23, y24, y25, y26, y27, y28, y29, y30, y31, y32, y33, rfl, hb, h0, h1, h2, h3, h4, h5, fun _ => rfl, h7, h8, fun _ => rfl, fun _ => (by first | rfl | simp), h11, h12, h13, h14, h15, h16, h19, h33⟩
    | 11, _ =>
      have ho' := ho
      simp [opsregFa] at ho
      subst ho
      obtain rfl := h6 (hall ⟨6, .guard⟩ (by simp) rfl)
      obtain rfl := h10 (hall ⟨10, .data⟩ (by simp) rfl)
      refine wpOp_on ho' rfl fun K hK => ?_
      have x1 := c1 w1 hb
      go_simp
      exact hK _ _ ⟨y0, y1, y2, y3, y4, y5, _, y7, y8, y9, _, _, y12, y13, y14, y15, y16, y17, y18, y19, y20, y21, y22, y23, y24, y25, y26, y27, y28, y29, y30, y31, y32, y33, rfl, hb, h0, h1, h2, h3, h4, h5, fun _ => rfl, h7, h8, h9, fun _ => rfl, fun _ => (by first | rfl | simp), h12, h13, h14, h15, h16, h19, h33⟩
    | 12, _ =>
      have ho' := ho
      simp [opsregFa] at ho
      subst ho
      obtain rfl := h6 (hall ⟨6, .guard⟩ (by simp) rfl)
      refine wpOp_on ho' rfl fun K hK => ?_
      go_simp
      exact hK _ _ ⟨y0, y1, y2, y3, y4, y5, _, y7, y8, y9, y10, y11, _, y13, y14, y15, y16, y17, y18, y19, y20, y21, y22, y23, y24, y25, y26, y27, y28, y29, y30, y31, y32, y33, rfl, hb, h0, h1, h2, h3, h4, h5, fun _ => rfl, h7, h8, h9, h10, h11, fun _ => (by first | rfl | simp), h13, h14, h15, h16, h19, h33⟩
    | 13, _ =>
      have ho' := ho
      simp [opsregFa] at ho
      subst ho
      obtain rfl := h6 (hall ⟨6, .guard⟩ (by simp) rfl)
      obtain rfl := h12 (hall ⟨12, .data⟩ (by simp) rfl)
      refine wpOp_on ho' rfl fun K hK => ?_
      go_simp
      exact hK _ _ ⟨y0, y1, y2, y3, y4, y5, _, y7, y8, y9, y10, y11, _, _, y14, y15, y16, y17, y18, y19, y20, y21, y22, y23, y24, y25, y26, y27, y28, y29, y30, y31, y32, y33, rfl, hb, h0, h1, h2, h3, h4, h5, fun _ => rfl, h7, h8, h9, h10, h11, fun _ => rfl, fun _ => (by first | rfl | simp), h14, h15, h16, h19, h33⟩
    | 14, _ =>
      have ho' := ho
      simp [opsregFa] at ho
      subst ho
      obtain rfl := h6 (hall ⟨6, .guard⟩ (by simp) rfl)
      obtain rfl := h11 (hall ⟨11, .data⟩ (by simp) rfl)
      obtain rfl := h13 (hall ⟨13, .data⟩ (by simp) rfl)
      refine wpOp_on ho' rfl fun K hK => ?_
      go_simp
      exact hK _ _ ⟨y0, y1, y2, y3, y4, y5, _, y7, y8, y9, y10, _, y12, _, _, y15, y16, y17, y18, y19, y20, y21, y22, y23, y24, y25, y26, y27, y28, y29, y30, y31, y32, y33, rfl, hb, h0, h1, h2, h3, h4, h5, fun _ => rfl, h7, h8, h9, h10, fun _ => rfl, h12, fun _ => rfl, fun _ => (by first | rfl | simp), h15, h16, h19, h33⟩
    | 15, _ =>
      have ho' := ho
      simp [opsregFa] at ho
      subst ho
      obtain rfl := h6 (hall ⟨6, .data⟩ (by simp) rfl)
      obtain rfl := h14 (hall ⟨14, .data⟩ (by simp) rfl)
      refine wpOp_one ho' rfl fun K hK => ?_
      go_simp
      exact hK _ _ ⟨y0, y1, y2, y3, y4, y5, _, y7, y8, y9, y10, y11, y12, y13, _, _, y16, y17, y18, y19, y20, y21, y22, y23, y24, y25, y26, y27, y28, y29, y30, y31, y32, y33, rfl, hb, h0, h1, h2, h3, h4, h5, fun _ => rfl, h7, h8, h9, h10, h11, h12, h13, fun _ => rfl, fun _ => (by first | rfl | simp), h16, h19, h33⟩
    | 16, _ =>
      have ho' := ho
      simp [opsregFa] at ho
      subst ho
      obtain rfl := h15 (hall ⟨15, .data⟩ (by simp) rfl)
      refine wpOp_one ho' rfl fun K hK => ?_
      go_simp
      exact hK _ _ ⟨y0, y1, y2, y3, y4, y5, y6, y7, y8, y9, y10, y11, y12, y13, y14, _, _, y17, y18, y19, y20, y21, y22, y23, y24, y25, y26, y27, y28, y29, y30, y31, y32, y33, rfl, hb, h0, h1, h2, h3, h4, h5, h6, h7, h8, h9, h10, h11, h12, h13, h14, fun _ => rfl, fun _ => (by first | rfl | simp), h19, h33⟩
    | 17, _ =>
      have ho' := ho
      simp [opsregFa] at ho
      subst ho
      obtain rfl := h16 (hall ⟨16, .guard⟩ (by simp) rfl)
      refine wpOq_off ho' rfl ?_
      exact ⟨y0, y1, y2, y3, y4, y5, y6, y7, y8, y9, y10, y11, y12, y13, y14, y15, _, _, y18, y19, y20, y21, y22, y23, y24, y25, y26, y27, y28, y29, y30, y31, y32, y33, rfl, hb, h0, h1, h2, h3, h4, h5, h6, h7, h8, h9, h10, h11, h12, h13, h14, h15, fun _ => rfl, h19, h33⟩
    | 18, _ =>
      have ho' := ho
      simp [opsregFa] at ho
      subst ho
      obtain rfl := h16 (hall ⟨16, .guard⟩ (by simp) rfl)
      refine wpOq_off ho' rfl ?_
      exact ⟨y0, y1, y2, y3, y4, y5, y6, y7, y8, y9, y10, y11, y12, y13, y14, y15, _, y17, _, y19, y20, y21, y22, y23, y24, y25, y26, y27, y28, y29, y30, y31, y32, y33, rfl, hb, h0, h1, h2, h3, h4, h5, h6, h7, h8, h9, h10, h11, h12, h13, h14, h15, fun _ => rfl, h19, h33⟩
    | 19, _ =>
      have ho' := ho
      simp [opsregFa] at ho
      subst ho
      obtain rfl := h16 (hall ⟨16, .chain⟩ (by simp) rfl)
      refine wpOq_off ho' rfl ?_
      exact ⟨y0, y1, y2, y3, y4, y5, y6, y7, y8, y9, y10, y11, y12, y13, y14, y15, _, y17, y18, _, y20, y21, y22, y23, y24, y25, y26, y27, y28, y29, y30, y31, y32, y33, rfl, hb, h0, h1, h2, h3, h4, h5, h6, h7, h8, h9, h10, h11, h12, h13, h14, h15, fun _ => rfl, fun _ => rfl, h33⟩
    | 20, _ =>
      have ho' := ho
      simp [opsregFa] at ho
      subst ho
      obtain rfl := h19 (hall ⟨19, .guard⟩ (by simp) rfl)
      refine wpOq_off ho' rfl ?_
      exact ⟨y0, y1, y2, y3, y4, y5, y6, y7, y8, y9, y10, y11, y12, y13, y14, y15, y16, y17, y18, _, _, y21, y22, y23, y24, y25, y26, y27, y28, y29, y30, y31, y32, y33, rfl, hb, h0, h1, h2, h3, h4, h5, h6, h7, h8, h9, h10, h11, h12, h13, h14, h15, h16, fun _ => rfl, h33⟩
    | 21, _ =>
      have ho' := ho
      simp [opsregFa] at ho
      subst ho
      obtain rfl := h19 (hall ⟨19, .guard⟩ (by simp) rfl)
      refine wpOq_off ho' rfl ?_
      exact ⟨y0, y1, y2, y3, y4, y5, y6, y7, y8, y9, y10, y11, y12, y13, y14, y15, y16, y17, y18, _, y20, _, y22, y23, y24, y25, y26, y27, y28, y29, y30, y31, y32, y33, rfl, hb, h0, h1, h2, h3, h4, h5, h6, h7, h8, h9, h10, h11, h12, h13, h14, h15, h16, fun _ => rfl, h33⟩
    | 22, _ =>
      have ho' := ho
      simp [opsregFa] at ho
      subst ho
      obtain rfl := h19 (hall ⟨19, .guard⟩ (by simp) rfl)
      refine wpOq_off ho' rfl ?_
      exact ⟨y0, y1, y2, y3, y4, y5, y6, y7, y8, y9, y10, y11, y12, y13, y14, y15, y16, y17, y18, _, y20, y21, _, y23, y24, y25, y26, y27, y28, y29, y30, y31, y32, y33, rfl, hb, h0, h1, h2, h3, h4, h5, h6, h7, h8, h9, h10, h11, h12, h13, h14, h15, h16, fun _ => rfl, h33⟩
    | 23, _ =>
      have ho' := ho
      simp [opsregFa] at ho
      subst ho
      obtain rfl := h19 (hall ⟨19, .guard⟩ (by simp) rfl)
      refine wpOq_off ho' rfl ?_
      exact ⟨y0, y1, y2, y3, y4, y5, y6, y7, y8, y9, y10, y11, y12, y13, y14, y15, y16, y17, y18, _, y20, y21, y22, _, y24, y25, y26, y27, y28, y29, y30, y31, y32, y33, rfl, hb, h0, h1, h2, h3, h4, h5, h6, h7, h8, h9, h10, h11, h12, h13, h14, h15, h16, fun _ => rfl, h33⟩
    | 24, _ =>
      have ho' := ho
      simp [opsregFa] at ho
      subst ho
      obtain rfl := h19 (hall ⟨19, .guard⟩ (by simp) rfl)
      refine wpOq_off ho' rfl ?_
      exact ⟨y0, y1, y2, y3, y4, y5, y6, y7, y8, y9, y10, y11, y12, y13, y14, y15, y16, y17, y18, _, y20, y21, y22, y23, _, y25, y26, y27, y28, y29, y30, y31, y32, y33, rfl, hb, h0, h1, h2, h3, h4, h5, h6, h7, h8, h9, h10, h11, h12, h13, h14, h15, h16, fun _ => rfl, h33⟩
    | 25, _ =>
      have ho' := ho
      simp [opsregFa] at ho
      subst ho
      obtain rfl := h19 (hall ⟨19, .guard⟩ (by simp) rfl)
      refine wpOq_off ho' rfl ?_
      exact ⟨y0, y1, y2, y3, y4, y5, y6, y7, y8, y9, y10, y11, y12, y13, y14, y15, y16, y17, y18, _, y20, y21, y22, y23, y24, _, y26, y27, y28, y29, y30, y31, y32, y33, rfl, hb, h0, h1, h2, h3, h4, h5, h6, h7, h8, h9, h10, h11, h12, h13, h14, h15, h16, fun _ => rfl, h33⟩
    | 26, _ =>
      have ho' := ho
      simp [opsregFa] at ho
      subst ho
      obtain rfl := h19 (hall ⟨19, .guard⟩ (by simp) rfl)
      refine wpOq_off ho' rfl ?_
      exact ⟨y0, y1, y2, y3, y4, y5, y6, y7, y8, y9, y10, y11, y12, y13, y14, y15, y16, y17, y18, _, y20, y21, y22, y23, y24, y25, _, y27, y28, y29, y30, y31, y32, y33, rfl, hb, h0, h1, h2, h3, h4, h5, h6, h7, h8, h9, h10, h11, h12, h13, h14, h15, h16, fun _ => rfl, h33⟩
    | 27, _ =>
      have ho' := ho
      simp [opsregFa] at ho
      subst ho
      obtain rfl := h19 (hall ⟨19, .guard⟩ (by simp) rfl)
      refine wpOq_off ho' rfl ?_
      exact ⟨y0, y1, y2, y3, y4, y5, y6, y7, y8, y9, y10, y11, y12, y13, y14, y15, y16, y17, y18, _, y20, y21, y22, y23, y24, y25, y26, _, y28, y29, y30, y31, y32, y33, rfl, hb, h0, h1, h2, h3, h4, h5, h6, h7, h8, h9, h10, h11, h12, h13, h14, h15, h16, fun _ => rfl, h33⟩
    | 28, _ =>
      have ho' := ho
      simp [opsregFa] at ho
      subst ho
      obtain rfl := h19 (hall ⟨19, .guard⟩ (by simp) rfl)
      refine wpOq_off ho' rfl ?_
      exact ⟨y0, y1, y2, y3, y4, y5, y6, y7, y8, y9, y10, y11, y12, y13, y14, y15, y16, y17, y18, _, y20, y21, y22, y23, y24, y25, y26, y27, _, y29, y30, y31, y32, y33, rfl, hb, h0, h1, h2, h3, h4, h5, h6, h7, h8, h9, h10, h11, h12, h13, h14, h15, h16, fun _ => rfl, h33⟩
    | 29, _ =>
      have ho' := ho
      simp [opsregFa] at ho
      subst ho
      obtain rfl := h19 (hall ⟨19, .guard⟩ (by simp) rfl)
      refine wpOq_off ho' rfl ?_
      exact ⟨y0, y1, y2, y3, y4, y5, y6, y7, y8, y9, y10, y11, y12, y13, y14, y15, y16, y17, y18, _, y20, y21, y22, y23, y24, y25, y26, y27, y28, _, y30, y31, y32, y33, rfl, hb, h0, h1, h2, h3, h4, h5, h6, h7, h8, h9, h10, h11, h12, h13, h14, h15, h16, fun _ => rfl, h33⟩
    | 30, _ =>
      have ho' := ho
      simp [opsregFa] at ho
      subst ho
      obtain rfl := h19 (hall ⟨19, .guard⟩ (by simp) rfl)
      refine wpOq_off ho' rfl ?_
      exact ⟨y0, y1, y2, y3, y4, y5, y6, y7, y8, y9, y10, y11, y12, y13, y14, y15, y16, y17, y18, _, y20, y21, y22, y23, y24, y25, y26, y27, y28, y29, _, y31, y32, y33, rfl, hb, h0, h1, h2, h3, h4, h5, h6, h7, h8, h9, h10, h11, h12, h13, h14, h15, h16, fun _ => rfl, h33⟩
    | 31, _ =>
      have ho' := ho
      simp [opsregFa] at ho
      subst ho
      obtain rfl := h19 (hall ⟨19, .guard⟩ (by simp) rfl)
      refine wpOq_off ho' rfl ?_
      exact ⟨y0, y1, y2, y3, y4, y5, y6, y7, y8, y9, y10, y11, y12, y13, y14, y15, y16, y17, y18, _, y20, y21, y22, y23, y24, y25, y26, y27, y28, y29, y30, _, y32, y33, rfl, hb, h0, h1, h2, h3, h4, h5, h6, h7, h8, h9, h10, h11, h12, h13, h14, h15, h16, fun _ => rfl, h33⟩
    | 32, _ =>
      have ho' := ho
      simp [opsregFa] at ho
      subst ho
      obtain rfl := h16 (hall ⟨16, .guard⟩ (by simp) rfl)
      obtain rfl := h19 (hall ⟨19, .data⟩ (by simp) rfl)
      refine wpOq_off ho' rfl ?_
      exact ⟨y0, y1, y2, y3, y4, y5, y6, y7, y8, y9, y10, y11, y12, y13, y14, y15, _, y17, y18, _, y20, y21, y22, y23, y24, y25, y26, y27, y28, y29, y30, y31, _, y33, rfl, hb, h0, h1, h2, h3, h4, h5, h6, h7, h8, h9, h10, h11, h12, h13, h14, h15, fun _ => rfl, fun _ => rfl, h33⟩
    | 33, _ =>
      have ho' := ho
      simp [opsregFa] at ho
      subst ho
      obtain rfl := h16 (hall ⟨16, .data⟩ (by simp) rfl)
      refine wpOp_one ho' rfl fun K hK => ?_
      go_simp
      exact hK _ _ ⟨y0, y1, y2, y3, y4, y5, y6, y7, y8, y9, y10, y11, y12, y13, y14, y15, _, y17, y18, y19, y20, y21, y22, y23, y24, y25, y26, y27, y28, y29, y30, y31, y32, _, rfl, hb, h0, h1, h2, h3, h4, h5, h6, h7, h8, h9, h10, h11, h12, h13, h14, h15, fun _ => rfl, h19, fun _ => (by first | rfl | simp)⟩
    | k + 34, hi => omega

def WregFc (i ln cw g o : Nat) (t n : Int) (D : List Deferred) (v1 v2 v3 v6 v7 v8 v9 v10 v11 v46 v47 v48 v49 v50 v51 v52 v53 v54 v55 v56 : Value) (w0 : World) (l : Nat → Bool) (a : Act) (w : World) : Prop :=
  ∃ (y0 y1 y2 y3 y4 y5 y6 y7 y8 y9 y10 y11 y12 y13 y14 y15 y16 y17 y18 y19 y20 y21 y22 y23 y24 y25 y26 y27 y28 y29 y30 y31 y32 y33 : Value), a = { tmps := #[.slice (some ⟨g, o, none⟩) ln cw, v1, v2, v3, .int .i64 n, .int .i64 (i : Int), v6, v7, v8, v9, v10, v11, y0, y1, y2, y3, y4, y5, y6, y7, y8, y9, y10, y11, y12, y13, y14, y15, y16, y17, y18, y19, y20, y21, y22, y23, y24, y25, y26, y27, y28, y29, y30, y31, y32, y33, v46, v47, v48, v49, v50, v51, v52, v53, v54, v55, v56], defers := D } ∧ Below w0.heap.size w0 w ∧
    (l 0 = true → y0 = .slice (some ⟨g, o, none⟩) ln cw) ∧ (l 1 = true → y1 = .int .i64 (i : Int)) ∧ (l 2 = true → y2 = .pointer (some ⟨g, o + i * 2, none⟩)) ∧ (l 3 = true → y3 = .pointer (some ⟨g, o + i * 2 + 1, none⟩)) ∧ (l 4 = true → y4 = .int .i64 t) ∧ (l 5 = true → y5 = .bool false) ∧ (l 6 = true → y6 = .bool false) ∧ (l 7 = true → y7 = .slice (some ⟨g, o, none⟩) ln cw) ∧ (l 8 = true → y8 = .int .i64 (i : Int)) ∧ (l 9 = true → y9 = .pointer (some ⟨g, o + i * 2, none⟩)) ∧ (l 10 = true → y10 = .pointer (some ⟨g, o + i * 2 + 1, none⟩)) ∧ (l 11 = true → y11 = .int .i64 t) ∧ (l 12 = true → y12 = .int .i64 n) ∧ (l 13 = true → y13 = .int .i64 (4611686018427387904 - n)) ∧ (l 14 = true → y14 = .bool false) ∧ (l 15 = true → y15 = .bool false) ∧ (l 16 = true → y16 = .bool false) ∧ (l 17 = true → y17 = .int .i64 (i : Int)) ∧ (l 18 = true → y18 = .bool false) ∧ (l 19 = true → y19 = .bool false) ∧ (l 32 = true → y32 = .bool false) ∧ (l 33 = true → y33 = .bool false)
set_option maxHeartbeats 8000000 in
set_option maxRecDepth 100000 in
theorem regFc (i ln cw g o : Nat) (t n : Int) (D : List Deferred) (v1 v2 v3 v6 v7 v8 v9 v10 v11 v46 v47 v48 v49 v50 v51 v52 v53 v54 v55 v56 wy0 wy1 wy2 wy3 wy4 wy5 wy6 wy7 wy8 wy9 wy10 wy11 wy12 wy13 wy14 wy15 wy16 wy17 wy18 wy19 wy20 wy21 wy22 wy23 wy24 wy25 wy26 wy27 wy28 wy29 wy30 wy31 wy32 wy33 : Value) (w : World) (s1 : (0 : Int) ≤ (i : Int)) (s2 : (i : Int) < (ln : Int)) (s3 : ((i : Int)).toNat = i) (c1 : ∀ w', Below w.heap.size w w' → w'.cell? ⟨g, o + i * 2 + 1, none⟩ = some (.int .i64 t)) (g1 : ¬ t < 1) (ws : IntKind.i64.wrap (4611686018427387904 - n) = 4611686018427387904 - n) (g2 : ¬ 4611686018427387904 - n < t) (g3 : ¬ (0 : Int) < (i : Int)) (Q : Exit → Act → World → Prop)
    (hQ : ∀ (y0 y1 y2 y3 y4 y5 y6 y7 y8 y9 y10 y11 y12 y13 y14 y15 y16 y17 y18 y19 y20 y21 y22 y23 y24 y25 y26 y27 y28 y29 y30 y31 y32 : Value) (w' : World), Below w.heap.size w w' → Q .normal { tmps := #[.slice (some ⟨g, o, none⟩) ln cw, v1, v2, v3, .int .i64 n, .int .i64 (i : Int), v6, v7, v8, v9, v10, v11, y0, y1, y2, y3, y4, y5, y6, y7, y8, y9, y10, y11, y12, y13, y14, y15, y16, y17, y18, y19, y20, y21, y22, y23, y24, y25, y26, y27, y28, y29, y30, y31, y32, .bool false, v46, v47, v48, v49, v50, v51, v52, v53, v54, v55, v56], defers := D } w') :
    (Code.region 5 opsregFa true).wp Tryd.prog Q { tmps := #[.slice (some ⟨g, o, none⟩) ln cw, v1, v2, v3, .int .i64 n, .int .i64 (i : Int), v6, v7, v8, v9, v10, v11, wy0, wy1, wy2, wy3, wy4, wy5, wy6, wy7, wy8, wy9, wy10, wy11, wy12, wy13, wy14, wy15, wy16, wy17, wy18, wy19, wy20, wy21, wy22, wy23, wy24, wy25, wy26, wy27, wy28, wy29, wy30, wy31, wy32, wy33, v46, v47, v48, v49, v50, v51, v52, v53, v54, v55, v56], defers := D } w := by
  refine wp_region_inv (by kernel_rfl) (WregFc i ln cw g o t n D v1 v2 v3 v6 v7 v8 v9 v10 v11 v46 v47 v48 v49 v50 v51 v52 v53 v54 v55 v56 w) ?hacy ?h0 ?hstep ?hdone
  case hacy => kernel_rfl
  case h0 => exact ⟨wy0, wy1, wy2, wy3, wy4, wy5, wy6, wy7, wy8, wy9, wy10, wy11, wy12, wy13, wy14, wy15, wy16, wy17, wy18, wy19, wy20, wy21, wy22, wy23, wy24, wy25, wy26, wy27, wy28, wy29, wy30, wy31, wy32, wy33, rfl, below_drewN (Below.refl _ _) 1, (fun p => by cases p), (fun p => by cases p), (fun p => by cases p), (fun p => by cases p), (fun p => by cases p), (fun p => by cases p), (fun p => by cases p), (fun p => by cases p), (fun p => by cases p), (fun p => by cases p), (fun p => by cases p), (fun p => by cases p), (fun p => by cases p), (fun p => by cases p), (fun p => by cases p), (fun p => by cases p), (fun p => by cases p), (fun p => by cases p), (fun p => by cases p), (fun p => by cases p), (fun p => by cases p), (fun p => by cases p)⟩
  case hdone =>
    intro l a w1 hI hall
    obtain ⟨y0, y1, y2, y3, y4, y5, y6, y7, y8, y9, y10, y11, y12, y13, y14, y15, y16, y17, y18, y19, y20, y21, y22, y23, y24, y25, y26, y27, y28, y29, y30, y31, y32, y33, rfl, hb, h0, h1, h2, h3, h4, h5, h6, h7, h8, h9, h10, h11, h12, h13, h14, h15, h16, h17, h18, h19, h32, h33⟩ := hI
    obtain rfl := h33 (hall 33 (by decide))
    exact hQ _ _ _ _ _ _ _ _ _ _ _ _ _ _ _ _ _ _ _ _ _ _ _ _ _ _ _ _ _ _ _ _ _ _ hb 
  case hstep =>
    intro l a w1 i o hI ho hl hall
    obtain ⟨y0, y1, y2, y3, y4, y5, y6, y7, y8, y9, y10, y11, y12, y13, y14, y15, y16, y17, y18, y19, y20, y21, y22, y23, y24, y25, y26, y27, y28, y29, y30, y31, y32, y33, rfl, hb, h0, h1, h2, h3, h4, h5, h6, h7, h8, h9, h10, h11, h12, h13, h14, h15, h16, h17, h18, h19, h32, h33⟩ := hI
    have hi : i < 34 := (Array.getElem?_eq_some_iff.1 ho).1
    match i, hi with
    | 0, _ =>
      have ho' := ho
      simp [opsregFa] at ho
      subst ho
      refine wpOp_one ho' rfl fun K hK => ?_
      go_simp
      exact hK _ _ ⟨_, y1, y2, y3, y4, y5, y6, y7, y8, y9, y10, y11, y12, y13, y14, y15, y16, y17, y18, y19, y20, y21, y22, y23, y24, y25, y26, y27, y28, y29, y30, y31, y32, y33, rfl, hb, fun _ => (by first | rfl | simp), h1, h2, h3, h4, h5, h6, h7, h8, h9, h10, h11, h12, h13, h14, h15, h16, h17, h18, h19, h32, h33⟩
    | 1, _ =>
      have ho' := ho
      simp [opsregFa] at ho
      subst ho
      refine wpOp_one ho' rfl fun K hK => ?_
      go_simp
      exact hK _ _ ⟨y0, _, y2, y3, y4, y5, y6, y7, y8, y9, y10, y11, y12, y13, y14, y15, y16, y17, y18, y19, y20, y21, y22, y23, y24, y25, y26, y27, y28, y29, y30, y31, y32, y33, rfl, hb, h0, fun _ => (by first | rfl | simp), h2, h3, h4, h5, h6, h7, h8, h9, h10, h11, h12, h13, h14, h15, h16, h17, h18, h19, h32, h33⟩
    | 2, _ =>
      have ho' := ho
      simp [opsregFa] at ho
      subst ho
      obtain rfl := h0 (hall ⟨0, .data⟩ (by simp) rfl)
      obtain rfl := h1 (hall ⟨1, .data⟩ (by simp) rfl)
      refine wpOp_one ho' rfl fun K hK => ?_
      go_simp
      exact hK _ _ ⟨_, _, _, y3, y4, y5, y6, y7, y8, y9, y10, y11, y12, y13, y14, y15, y16, y17, y18, y19, y20, y21, y22, y23, y24, y25, y26, y27, y28, y29, y30, y31, y32, y33, rfl, hb, fun _ => rfl, fun _ => rfl, fun _ => (by first | rfl | simp), h3, h4, h5, h6, h7, h8, h9, h10, h11, h12, h13, h14, h15, h16, h17, h18, h19, h32, h33⟩
    | 3, _ =>
      have ho' := ho
      simp [opsregFa] at ho
      subst ho
      obtain rfl := h2 (hall ⟨2, .data⟩ (by simp) rfl)
      refine wpOp_one ho' rfl fun K hK => ?_
      go_simp
      exact hK _ _ ⟨y0, y1, _, _, y4, y5, y6, y7, y8, y9, y10, y11, y12, y13, y14, y15, y16, y17, y18, y19, y20, y21, y22, y23, y24, y25, y26, y27, y28, y29, y30, y31, y32, y33, rfl, hb, h0, h1, fun _ => rfl, fun _ => (by first | rfl | simp), h4, h5, h6, h7, h8, h9, h10, h11, h12, h13, h14, h15, h16, h17, h18, h19, h32, h33⟩
    | 4, _ =>
      have ho' := ho
      simp [opsregFa] at ho
      subst ho
      obtain rfl := h3 (hall ⟨3, .data⟩ (by simp) rfl)
      refine wpOp_one ho' rfl fun K hK => ?_
      have x1 := c1 w1 hb
      go_simp
      exact hK _ _ ⟨y0, y1, y2, _, _, y5, y6, y7, y8, y9, y10, y11, y12, y13, y14, y15, y16, y17, y18, y19, y20, y21, y22, y23, y24, y25, y26, y27, y28, y29, y30, y31, y32, y33, rfl, hb, h0, h1, h2, fun _ => rfl, fun _ => (by first | rfl | simp), h5, h6, h7, h8, h9, h10, h11, h12, h13, h14, h15, h16, h17, h18, h19, h32, h33⟩
    | 5, _ =>
      have ho' := ho
      simp [opsregFa] at ho
      subst ho
      obtain rfl := h4 (hall ⟨4, .data⟩ (by simp) rfl)
      refine wpOp_one ho' rfl fun K hK => ?_
      go_simp
      exact hK _ _ ⟨y0, y1, y2, y3, _, _, y6, y7, y8, y9, y10, y11, y12, y13, y14, y15, y16, y17, y18, y19, y20, y21, y22, y23, y24, y25, y26, y27, y28, y29, y30, y31, y32, y33, rfl, hb, h0, h1, h2, h3, fun _ => rfl, fun _ => (by first | rfl | simp), h6, h7, h8, h9, h10, h11, h12, h13, h14, h15, h16, h17, h18, h19, h32, h33⟩
    | 6, _ =>
      have ho' := ho
      simp [opsregFa] at ho
      subst ho
      obtain rfl := h5 (hall ⟨5, .data⟩ (by simp) rfl)
      refine wpOp_one ho' rfl fun K hK => ?_
      go_simp
      exact hK _ _ ⟨y0, y1, y2, y3, y4, _, _, y7, y8, y9, y10, y11, y12, y13, y14, y15, y16, y17, y18, y19, y20, y21, y22, y23, y24, y25, y26, y27, y28, y29, y30, y31, y32, y33, rfl, hb, h0, h1, h2, h3, h4, fun _ => rfl, fun _ => (by first | rfl | simp), h7, h8, h9, h10, h11, h12, h13, h14, h15, h16, h17, h18, h19, h32, h33⟩
    | 7, _ =>
      have ho' := ho
      simp [opsregFa] at ho
      subst ho
      obtain rfl := h6 (hall ⟨6, .guard⟩ (by simp) rfl)
      refine wpOp_on ho' rfl fun K hK => ?_
      go_simp
      exact hK _ _ ⟨y0, y1, y2, y3, y4, y5, _, _, y8, y9, y10, y11, y12, y13, y14, y15, y16, y17, y18, y19, y20, y21, y22, y23, y24, y25, y26, y27, y28, y29, y30, y31, y32, y33, rfl, hb, h0, h1, h2, h3, h4, h5, fun _ => rfl, fun _ => (by first | rfl | simp), h8, h9, h10, h11, h12, h13, h14, h15, h16, h17, h18, h19, h32, h33⟩
    | 8, _ =>
      have ho' := ho
      simp [opsregFa] at ho
      subst ho
      obtain rfl := h6 (hall ⟨6, .guard⟩ (by simp) rfl)
      refine wpOp_on ho' rfl fun K hK => ?_
      go_simp
      exact hK _ _ ⟨y0, y1, y2, y3, y4, y5, _, y7, _, y9, y10, y11, y12, y13, y14, y15, y16, y17, y18, y19, y20, y21, y22, y23, y24, y25, y26, y27, y28, y29, y30, y31, y32, y33, rfl, hb, h0, h1, h2, h3, h4, h5, fun _ => rfl, h7, fun _ => (by first | rfl | simp), h9, h10, h11, h12, h13, h14, h15, h16, h17, h18, h19, h32, h33⟩
    | 9, _ =>
      have ho' := ho
      simp [opsregFa] at ho
      subst ho
      obtain rfl := h6 (hall ⟨6, .guard⟩ (by simp) rfl)
      obtain rfl := h7 (hall ⟨7, .data⟩ (by simp) rfl)
      obtain rfl := h8 (hall ⟨8, .data⟩ (by simp) rfl)
      refine wpOp_on ho' rfl fun K hK => ?_
      go_simp
      exact hK _ _ ⟨y0, y1, y2, y3, y4, y5, _, _, _, _, y10, y11, y12, y13, y14, y15, y16, y17, y18, y19, y20, y21, y22, y23, y24, y25, y26, y27, y28, y29, y30, y31, y32, y33, rfl, hb, h0, h1, h2, h3, h4, h5, fun _ => rfl, fun _ => rfl, fun _ => rfl, fun _ => (by first | rfl | simp), h10, h11, h12, h13, h14, h15, h16, h17, h18, h19, h32, h33⟩
    | 10, _ =>
      have ho' := ho
      simp [opsregFa] at ho
      subst ho
      obtain rfl := h6 (hall ⟨6, .guard⟩ (by simp) rfl)
      obtain rfl := h9 (hall ⟨9, .data⟩ (by simp) rfl)
      refine wpOp_on ho' rfl fun K hK => ?_
      go_simp
      exact hK _ _ ⟨y0, y1, y2, y3, y4, y5, _, y7, y8, _, _, y11, y12, y13, y14, y15, y16, y17, y18, y19, y20, y21, y22, y23, y24, y25, y26, y27, y28, y29, y30, y31, y32, y33, rfl, hb, h0, h1, h2, h3, h4, h5, fun _ => rfl, h7, h8, fun _ => rfl, fun _ => (by first | rfl | simp), h11, h12, h13, h14, h15, h16, h17, h18, h19, h32, h33⟩
    | 11, _ =>
      have ho' := ho
      simp [opsregFa] at ho
      subst ho
      obtain rfl := h6 (hall ⟨6, .guard⟩ (by simp) rfl)
      obtain rfl := h10 (hall ⟨10, .data⟩ (by simp) rfl)
      refine wpOp_on ho' rfl fun K hK => ?_
      have x1 := c1 w1 hb
      go_simp
      exact hK _ _ ⟨y0, y1, y2, y3, y4, y5, _, y7, y8, y9, _, _, y12, y13, y14, y15, y16, y17, y18, y19, y20, y21, y22, y23, y24, y25, y26, y27, y28, y29, y30, y31, y32, y33, rfl, hb, h0, h1, h2, h3, h4, h5, fun _ => rfl, h7, h8, h9, fun _ => rfl, fun _ => (by first | rfl | simp), h12, h13, h14, h15, h16, h17, h18, h19, h32, h33⟩
    | 12, _ =>
      have ho' := ho
      simp [opsregFa] at ho
      subst ho
      obtain rfl := h6 (hall ⟨6, .guard⟩ (by simp) rfl)
      refine wpOp_on ho' rfl fun K hK => ?_
      go_simp
      exact hK _ _ ⟨y0, y1, y2, y3, y4, y5, _, y7, y8, y9, y10, y11, _, y13, y14, y15, y16, y17, y18, y19, y20, y21, y22, y23, y24, y25, y26, y27, y28, y29, y30, y31, y32, y33, rfl, hb, h0, h1, h2, h3, h4, h5, fun _ => rfl, h7, h8, h9, h10, h11, fun _ => (by first | rfl | simp), h13, h14, h15, h16, h17, h18, h19, h32, h33⟩
    | 13, _ =>
      have ho' := ho
      simp [opsregFa] at ho
      subst ho
      obtain rfl := h6 (hall ⟨6, .guard⟩ (by simp) rfl)
      obtain rfl := h12 (hall ⟨12, .data⟩ (by simp) rfl)
      refine wpOp_on ho' rfl fun K hK => ?_
      go_simp
      exact hK _ _ ⟨y0, y1, y2, y3, y4, y5, _, y7, y8, y9, y10, y11, _, _, y14, y15, y16, y17, y18, y19, y20, y21, y22, y23, y24, y25, y26, y27, y28, y29, y30, y31, y32, y33, rfl, hb, h0, h1, h2, h3, h4, h5, fun _ => rfl, h7, h8, h9, h10, h11, fun _ => rfl, fun _ => (by first | rfl | simp), h14, h15, h16, h17, h18, h19, h32, h33⟩
    | 14, _ =>
      have ho' := ho
      simp [opsregFa] at ho
      subst ho
      obtain rfl := h6 (hall ⟨6, .guard⟩ (by simp) rfl)
      obtain rfl := h11 (hall ⟨11, .data⟩ (by simp) rfl)
      obtain rfl := h13 (hall ⟨13, .data⟩ (by simp) rfl)
      refine wpOp_on ho' rfl fun K hK => ?_
      go_simp
      exact hK _ _ ⟨y0, y1, y2, y3, y4, y5, _, y7, y8, y9, y10, _, y12, _, _, y15, y16, y17, y18, y19, y20, y21, y22, y23, y24, y25, y26, y27, y28, y29, y30, y31, y32, y33, rfl, hb, h0, h1, h2, h3, h4, h5, fun _ => rfl, h7, h8, h9, h10, fun _ => rfl, h12, fun _ => rfl, fun _ => (by first | rfl | simp), h15, h16, h17, h18, h19, h32, h33⟩
    | 15, _ =>
      have ho' := ho
      simp [opsregFa] at ho
      subst ho
      obtain rfl := h6 (hall ⟨6, .data⟩ (by simp) rfl)
      obtain rfl := h14 (hall ⟨14, .data⟩ (by simp) rfl)
      refine wpOp_one ho' rfl fun K hK => ?_
      go_simp
      exact hK _ _ ⟨y0, y1, y2, y3, y4, y5, _, y7, y8, y9, y10, y11, y12, y13, _, _, y16, y17, y18, y19, y20, y21, y22, y23, y24, y25, y26, y27, y28, y29, y30, y31, y32, y33, rfl, hb, h0, h1, h2, h3, h4, h5, fun _ => rfl, h7, h8, h9, h10, h11, h12, h13, fun _ => rfl, fun _ => (by first | rfl | simp), h16, h17, h18, h19, h32, h33⟩
    | 16, _ =>
      have ho' := ho
      simp [opsregFa] at ho
      subst ho
      obtain rfl := h15 (hall ⟨15, .data⟩ (by simp) rfl)
      refine wpOp_one ho' rfl fun K hK => ?_
      go_simp
      exact hK _ _ ⟨y0, y1, y2, y3, y4, y5, y6, y7, y8, y9, y10, y11, y12, y13, y14, _, _, y17, y18, y19, y20, y21, y22, y23, y24, y25, y26, y27, y28, y29, y30, y31, y32, y33, rfl, hb, h0, h1, h2, h3, h4, h5, h6, h7, h8, h9, h10, h11, h12, h13, h14, fun _ => rfl, fun _ => (by first | rfl | simp), h17, h18, h19, h32, h33⟩
    | 17, _ =>
      have ho' := ho
      simp [opsregFa] at ho
      subst ho
      obtain rfl := h16 (hall ⟨16, .guard⟩ (by simp) rfl)
      refine wpOp_on ho' rfl fun K hK => ?_
      go_simp
      exact hK _ _ ⟨y0, y1, y2, y3, y4, y5, y6, y7, y8, y9, y10, y11, y12, y13, y14, y15, _, _, y18, y19, y20, y21, y22, y23, y24, y25, y26, y27, y28, y29, y30, y31, y32, y33, rfl, hb, h0, h1, h2, h3, h4, h5, h6, h7, h8, h9, h10, h11, h12, h13, h14, h15, fun _ => rfl, fun _ => (by first | rfl | simp), h18, h19, h32, h33⟩
    | 18, _ =>
      have ho' := ho
      simp [opsregFa] at ho
      subst ho
      obtain rfl := h16 (hall ⟨16, .guard⟩ (by simp) rfl)
      obtain rfl := h17 (hall ⟨17, .data⟩ (by simp) rfl)
      refine wpOp_on ho' rfl fun K hK => ?_
      go_simp
      exact hK _ _ ⟨y0, y1, y2, y3, y4, y5, y6, y7, y8, y9, y10, y11, y12, y13, y14, y15, _, _, _, y19, y20, y21, y22, y23, y24, y25, y26, y27, y28, y29, y30, y31, y32, y33, rfl, hb, h0, h1, h2, h3, h4, h5, h6, h7, h8, h9, h10, h11, h12, h13, h14, h15, fun _ => rfl, fun _ => rfl, fun _ => (by first | rfl | (simp; omega)), h19, h32, h33⟩
    | 19, _ =>
      have ho' := ho
      simp [opsregFa] at ho
      subst ho
      obtain rfl := h16 (hall ⟨16, .chain⟩ (by simp) rfl)
      obtain rfl := h18 (hall ⟨18, .data⟩ (by simp) rfl)
      refine wpOp_on ho' rfl fun K hK => ?_
      go_simp
      exact hK _ _ ⟨y0, y1, y2, y3, y4, y5, y6, y7, y8, y9, y10, y11, y12, y13, y14, y15, _, y17, _, _, y20, y21, y22, y23, y24, y25, y26, y27, y28, y29, y30, y31, y32, y33, rfl, hb, h0, h1, h2, h3, h4, h5, h6, h7, h8, h9, h10, h11, h12, h13, h14, h15, fun _ => rfl, h17, fun _ => rfl, fun _ => (by first | rfl | simp), h32, h33⟩
    | 20, _ =>
      have ho' := ho
      simp [opsregFa] at ho
      subst ho
      obtain rfl := h19 (hall ⟨19, .guard⟩ (by simp) rfl)
      refine wpOq_off ho' rfl ?_
      exact ⟨y0, y1, y2, y3, y4, y5, y6, y7, y8, y9, y10, y11, y12, y13, y14, y15, y16, y17, y18, _, _, y21, y22, y23, y24, y25, y26, y27, y28, y29, y30, y31, y32, y33, rfl, hb, h0, h1, h2, h3, h4, h5, h6, h7, h8, h9, h10, h11, h12, h13, h14, h15, h16, h17, h18, fun _ => rfl, h32, h33⟩
    | 21, _ =>
      have ho' := ho
      simp [opsregFa] at ho
      subst ho
      obtain rfl := h19 (hall ⟨19, .guard⟩ (by simp) rfl)
      refine wpOq_off ho' rfl ?_
      exact ⟨y0, y1, y2, y3, y4, y5, y6, y7, y8, y9, y10, y11, y12, y13, y14, y15, y16, y17, y18, _, y20, _, y22, y23, y24, y25, y26, y27, y28, y29, y30, y31, y32, y33, rfl, hb, h0, h1, h2, h3, h4, h5, h6, h7, h8, h9, h10, h11, h12, h13, h14, h15, h16, h17, h18, fun _ => rfl, h32, h33⟩
    | 22, _ =>
      have ho' := ho
      simp [opsregFa] at ho
      subst ho
      obtain rfl := h19 (hall ⟨19, .guard⟩ (by simp) rfl)
      refine wpOq_off ho' rfl ?_
      exact ⟨y0, y1, y2, y3, y4, y5, y6, y7, y8, y9, y10, y11, y12, y13, y14, y15, y16, y17, y18, _, y20, y21, _, y23, y24, y25, y26, y27, y28, y29, y30, y31, y32, y33, rfl, hb, h0, h1, h2, h3, h4, h5, h6, h7, h8, h9, h10, h11, h12, h13, h14, h15, h16, h17, h18, fun _ => rfl, h32, h33⟩
    | 23, _ =>
      have ho' := ho
      simp [opsregFa] at ho
      subst ho
      obtain rfl := h19 (hall ⟨19, .guard⟩ (by simp) rfl)
      refine wpOq_off ho' rfl ?_
      exact ⟨y0, y1, y2, y3, y4, y5, y6, y7, y8, y9, y10, y11, y12, y13, y14, y15, y16, y17, y18, _, y20, y21, y22, _, y24, y25, y26, y27, y28, y29, y30, y31, y32, y33, rfl, hb, h0, h1, h2, h3, h4, h5, h6, h7, h8, h9, h10, h11, h12, h13, h14, h15, h16, h17, h18, fun _ => rfl, h32, h33⟩
    | 24, _ =>
      have ho' := ho
      simp [opsregFa] at ho
      subst ho
      obtain rfl := h19 (hall ⟨19, .guard⟩ (by simp) rfl)
      refine wpOq_off ho' rfl ?_
      exact ⟨y0, y1, y2, y3, y4, y5, y6, y7, y8, y9, y10, y11, y12, y13, y14, y15, y16, y17, y18, _, y20, y21, y22, y23, _, y25, y26, y27, y28, y29, y30, y31, y32, y33, rfl, hb, h0, h1, h2, h3, h4, h5, h6, h7, h8, h9, h10, h11, h12, h13, h14, h15, h16, h17, h18, fun _ => rfl, h32, h33⟩
    | 25, _ =>
      have ho' := ho
      simp [opsregFa] at ho
      subst ho
      obtain rfl := h19 (hall ⟨19, .guard⟩ (by simp) rfl)
      refine wpOq_off ho' rfl ?_
      exact ⟨y0, y1, y2, y3, y4, y5, y6, y7, y8, y9, y10, y11, y12, y13, y14, y15, y16, y17, y18, _, y20, y21, y22, y23, y24, _, y26, y27, y28, y29, y30, y31, y32, y33, rfl, hb, h0, h1, h2, h3, h4, h5, h6, h7, h8, h9, h10, h11, h12, h13, h14, h15, h16, h17, h18, fun _ => rfl, h32, h33⟩
    | 26, _ =>
      have ho' := ho
      simp [opsregFa] at ho
      subst ho
      obtain rfl := h19 (hall ⟨19, .guard⟩ (by simp) rfl)
      refine wpOq_off ho' rfl ?_
      exact ⟨y0, y1, y2, y3, y4, y5, y6, y7, y8, y9, y10, y11, y12, y13, y14, y15, y16, y17, y18, _, y20, y21, y22, y23, y24, y25, _, y27, y28, y29, y30, y31, y32, y33, rfl, hb, h0, h1, h2, h3, h4, h5, h6, h7, h8, h9, h10, h11, h12, h13, h14, h15, h16, h17, h18, fun _ => rfl, h32, h33⟩
    | 27, _ =>
      have ho' := ho
      simp [opsregFa] at ho
      subst ho
      obtain rfl := h19 (hall ⟨19, .guard⟩ (by simp) rfl)
      refine wpOq_off ho' rfl ?_
      exact ⟨y0, y1, y2, y3, y4, y5, y6, y7, y8, y9, y10, y11, y12, y13, y14, y15, y16, y17, y18, _, y20, y21, y22, y23, y24, y25, y26, _, y28, y29, y30, y31, y32, y33, rfl, hb, h0, h1, h2, h3, h4, h5, h6, h7, h8, h9, h10, h11, h12, h13, h14, h15, h16, h17, h18, fun _ => rfl, h32, h33⟩
    | 28, _ =>
      have ho' := ho
      simp [opsregFa] at ho
      subst ho
      obtain rfl := h19 (hall ⟨19, .guard⟩ (by simp) rfl)
      refine wpOq_off ho' rfl ?_
      exact ⟨y0, y1, y2, y3, y4, y5, y6, y7, y8, y9, y10, y11, y12, y13, y14, y15, y16, y17, y18, _, y20, y21, y22, y23, y24, y25, y26, y27, _, y29, y30, y31, y32, y33, rfl, hb, h0, h1, h2, h3, h4, h5, h6, h7, h8, h9, h10, h11, h12, h13, h14, h15, h16, h17, h18, fun _ => rfl, h32, h33⟩
    | 29, _ =>
      have ho' := ho
      simp [opsregFa] at ho
      subst ho
      obtain rfl := h19 (hall ⟨19, .guard⟩ (by simp) rfl)
      refine wpOq_off ho' rfl ?_
      exact ⟨y0, y1, y2, y3, y4, y5, y6, y7, y8, y9, y10, y11, y12, y13, y14, y15, y16, y17, y18, _, y20, y21, y22, y23, y24, y25, y26, y27, y28, _, y30, y31, y32, y33, rfl, hb, h0, h1, h2, h3, h4, h5, h6, h7, h8, h9, h10, h11, h12, h13, h14, h15, h16, h17, h18, fun _ => rfl, h32, h33⟩
    | 30, _ =>
      have ho' := ho
      simp [opsregFa] at ho
      subst ho
      obtain rfl := h19 (hall ⟨19, .guard⟩ (by simp) rfl)
      refine wpOq_off ho' rfl ?_
      exact ⟨y0, y1, y2, y3, y4, y5, y6, y7, y8, y9, y10, y11, y12, y13, y14, y15, y16, y17, y18, _, y20, y21, y22, y23, y24, y25, y26, y27, y28, y29, _, y31, y32, y33, rfl, hb, h0, h1, h2, h3, h4, h5, h6, h7, h8, h9, h10, h11, h12, h13, h14, h15, h16, h17, h18, fun _ => rfl, h32, h33⟩
    | 31, _ =>
      have ho' := ho
      simp [opsregFa] at ho
      subst ho
      obtain rfl := h19 (hall ⟨19, .guard⟩ (by simp) rfl)
      refine wpOq_off ho' rfl ?_
      exact ⟨y0, y1, y2, y3, y4, y5, y6, y7, y8, y9, y10, y11, y12, y13, y14, y15, y16, y17, y18, _, y20, y21, y22, y23, y24, y25, y26, y27, y28, y29, y30, _, y32, y33, rfl, hb, h0, h1, h2, h3, h4, h5, h6, h7, h8, h9, h10, h11, h12, h13, h14, h15, h16, h17, h18, fun _ => rfl, h32, h33⟩
    | 32, _ =>
      have ho' := ho
      simp [opsregFa] at ho
      subst ho
      obtain rfl := h16 (hall ⟨16, .guard⟩ (by simp) rfl)
      obtain rfl := h19 (hall ⟨19, .data⟩ (by simp) rfl)
      refine wpOp_on ho' rfl fun K hK => ?_
      go_simp
      exact hK _ _ ⟨y0, y1, y2, y3, y4, y5, y6, y7, y8, y9, y10, y11, y12, y13, y14, y15, _, y17, y18, _, y20, y21, y22, y23, y24, y25, y26, y27, y28, y29, y30, y31, _, y33, rfl, hb, h0, h1, h2, h3, h4, h5, h6, h7, h8, h9, h10, h11, h12, h13, h14, h15, fun _ => rfl, h17, h18, fun _ => rfl, fun _ => (by first | rfl | simp), h33⟩
    | 33, _ =>
      have ho' := ho
      simp [opsregFa] at ho
      subst ho
      obtain rfl := h16 (hall ⟨16, .data⟩ (by simp) rfl)
      obtain rfl := h32 (hall ⟨32, .data⟩ (by simp) rfl)
      refine wpOp_one ho' rfl fun K hK => ?_
      go_simp
      exact hK _ _ ⟨y0, y1, y2, y3, y4, y5, y6, y7, y8, y9, y10, y11, y12, y13, y14, y15, _, y17, y18, y19, y20, y21, y22, y23, y24, y25, y26, y27, y28, y29, y30, y31, _, _, rfl, hb, h0, h1, h2, h3, h4, h5, h6, h7, h8, h9, h10, h11, h12, h13, h14, h15, fun _ => rfl, h17, h18, h19, fun _ => rfl, fun _ => (by first | rfl | simp)⟩
    | k + 34, hi => omega

def WregFd (i k ln cw g o b b' : Nat) (t n : Int) (e : Bool) (D : List Deferred) (v1 v2 v3 v6 v7 v8 v9 v10 v11 v46 v47 v48 v49 v50 v51 v52 v53 v54 v55 v56 : Value) (w0 : World) (l : Nat → Bool) (a : Act) (w : World) : Prop :=
  ∃ (y0 y1 y2 y3 y4 y5 y6 y7 y8 y9 y10 y11 y12 y13 y14 y15 y16 y17 y18 y19 y20 y21 y22 y23 y24 y25 y26 y27 y28 y29 y30 y31 y32 y33 : Value), a = { tmps := #[.slice (some ⟨g, o, none⟩) ln cw, v1, v2, v3, .int .i64 n, .int .i64 (i : Int), v6, v7, v8, v9, v10, v11, y0, y1, y2, y3, y4, y5, y6, y7, y8, y9, y10, y11, y12, y13, y14, y15, y16, y17, y18, y19, y20, y21, y22, y23, y24, y25, y26, y27, y28, y29, y30, y31, y32, y33, v46, v47, v48, v49, v50, v51, v52, v53, v54, v55, v56], defers := D } ∧ Below w0.heap.size w0 w ∧
    (l 0 = true → y0 = .slice (some ⟨g, o, none⟩) ln cw) ∧ (l 1 = true → y1 = .int .i64 (i : Int)) ∧ (l 2 = true → y2 = .pointer (some ⟨g, o + i * 2, none⟩)) ∧ (l 3 = true → y3 = .pointer (some ⟨g, o + i * 2 + 1, none⟩)) ∧ (l 4 = true → y4 = .int .i64 t) ∧ (l 5 = true → y5 = .bool false) ∧ (l 6 = true → y6 = .bool false) ∧ (l 7 = true → y7 = .slice (some ⟨g, o, none⟩) ln cw) ∧ (l 8 = true → y8 = .int .i64 (i : Int)) ∧ (l 9 = true → y9 = .pointer (some ⟨g, o + i * 2, none⟩)) ∧ (l 10 = true → y10 = .pointer (some ⟨g, o + i * 2 + 1, none⟩)) ∧ (l 11 = true → y11 = .int .i64 t) ∧ (l 12 = true → y12 = .int .i64 n) ∧ (l 13 = true → y13 = .int .i64 (4611686018427387904 - n)) ∧ (l 14 = true → y14 = .bool false) ∧ (l 15 = true → y15 = .bool false) ∧ (l 16 = true → y16 = .bool false) ∧ (l 17 = true → y17 = .int .i64 (i : Int)) ∧ (l 18 = true → y18 = .bool true) ∧ (l 19 = true → y19 = .bool true) ∧ (l 20 = true → y20 = .slice (some ⟨g, o, none⟩) ln cw) ∧ (l 21 = true → y21 = .int .i64 (i : Int)) ∧ (l 22 = true → y22 = .pointer (some ⟨g, o + i * 2, none⟩)) ∧ (l 23 = true → y23 = .pointer (some ⟨g, o + i * 2, none⟩)) ∧ (l 24 = true → y24 = .int .u8 (b : Int)) ∧ (l 25 = true → y25 = .slice (some ⟨g, o, none⟩) ln cw) ∧ (l 26 = true → y26 = .int .i64 (i : Int)) ∧ (l 27 = true → y27 = .int .i64 (k : Int)) ∧ (l 28 = true → y28 = .pointer (some ⟨g, o + k * 2, none⟩)) ∧ (l 29 = true → y29 = .pointer (some ⟨g, o + k * 2, none⟩)) ∧ (l 30 = true → y30 = .int .u8 (b' : Int)) ∧ (l 31 = true → y31 = .bool e) ∧ (l 32 = true → y32 = .bool e) ∧ (l 33 = true → y33 = .bool e)
set_option maxHeartbeats 8000000 in
set_option maxRecDepth 100000 in
theorem regFd (i k ln cw g o b b' : Nat) (t n : Int) (e : Bool) (D : List Deferred) (v1 v2 v3 v6 v7 v8 v9 v10 v11 v46 v47 v48 v49 v50 v51 v52 v53 v54 v55 v56 wy0 wy1 wy2 wy3 wy4 wy5 wy6 wy7 wy8 wy9 wy10 wy11 wy12 wy13 wy14 wy15 wy16 wy17 wy18 wy19 wy20 wy21 wy22 wy23 wy24 wy25 wy26 wy27 wy28 wy29 wy30 wy31 wy32 wy33 : Value) (w : World) (s1 : (0 : Int) ≤ (i : Int)) (s2 : (i : Int) < (ln : Int)) (s3 : ((i : Int)).toNat = i) (c1 : ∀ w', Below w.heap.size w w' → w'.cell? ⟨g, o + i * 2 + 1, none⟩ = some (.int .i64 t)) (g1 : ¬ t < 1) (ws : IntKind.i64.wrap (4611686018427387904 - n) = 4611686018427387904 - n) (g2 : ¬ 4611686018427387904 - n < t) (g3 : (0 : Int) < (i : Int)) (c0 : ∀ w', Below w.heap.size w w' → w'.cell? ⟨g, o + i * 2, none⟩ = some (.int .u8 (b : Int))) (c2 : ∀ w', Below w.heap.size w w' → w'.cell? ⟨g, o + k * 2, none⟩ = some (.int .u8 (b' : Int))) (wm : IntKind.i64.wrap ((i : Int) - 1) = (k : Int)) (k1 : (0 : Int) ≤ (k : Int)) (k2 : (k : Int) < (ln : Int)) (k3 : ((k : Int)).toNat = k) (g4 : ((b : Int) == (b' : Int)) = e) (Q : Exit → Act → World → Prop)
    (hQ : ∀ (y0 y1 y2 y3 y4 y5 y6 y7 y8 y9 y10 y11 y12 y13 y14 y15 y16 y17 y18 y19 y20 y21 y22 y23 y24 y25 y26 y27 y28 y29 y30 y31 y32 : Value) (w' : World), Below w.heap.size w w' → Q .normal { tmps := #[.slice (some ⟨g, o, none⟩) ln cw, v1, v2, v3, .int .i64 n, .int .i64 (i : Int), v6, v7, v8, v9, v10, v11, y0, y1, y2, y3, y4, y5, y6, y7, y8, y9, y10, y11, y12, y13, y14, y15, y16, y17, y18, y19, y20, y21, y22, y23, y24, y25, y26, y27, y28, y29, y30, y31, y32, .bool e, v46, v47, v48, v49, v50, v51, v52, v53, v54, v55, v56], defers := D } w') :
    (Code.region 5 opsregFa true).wp Tryd.prog Q { tmps := #[.slice (some ⟨g, o, none⟩) ln cw, v1, v2, v3, .int .i64 n, .int .i64 (i : Int), v6, v7, v8, v9, v10, v11, wy0, wy1, wy2, wy3, wy4, wy5, wy6, wy7, wy8, wy9, wy10, wy11, wy12, wy13, wy14, wy15, wy16, wy17, wy18, wy19, wy20, wy21, wy22, wy23, wy24, wy25, wy26, wy27, wy28, wy29, wy30, wy31, wy32, wy33, v46, v47, v48, v49, v50, v51, v52, v53, v54, v55, v56], defers := D } w := by
  refine wp_region_inv (by kernel_rfl) (WregFd i k ln cw g o b b' t n e D v1 v2 v3 v6 v7 v8 v9 v10 v11 v46 v47 v48 v49 v50 v51 v52 v53 v54 v55 v56 w) ?hacy ?h0 ?hstep ?hdone
  case hacy => kernel_rfl
  case h0 => exact ⟨wy0, wy1, wy2, wy3, wy4, wy5, wy6, wy7, wy8, wy9, wy10, wy11, wy12, wy13, wy14, wy15, wy16, wy17, wy18, wy19, wy20, wy21, wy22, wy23, wy24, wy25, wy26, wy27, wy28, wy29, wy30, wy31, wy32, wy33, rfl, below_drewN (Below.refl _ _) 1, (fun p => by cases p), (fun p => by cases p), (fun p => by cases p), (fun p => by cases p), (fun p => by cases p), (fun p => by cases p), (fun p => by cases p), (fun p => by cases p), (fun p => by cases p), (fun p => by cases p), (fun p => by cases p), (fun p => by cases p), (fun p => by cases p), (fun p => by cases p), (fun p => by cases p), (fun p => by cases p), (fun p => by cases p), (fun p => by cases p), (fun p => by cases p), (fun p => by cases p), (fun p => by cases p), (fun p => by cases p), (fun p => by cases p), (fun p => by cases p), (fun p => by cases p), (fun p => by cases p), (fun p => by cases p), (fun p => by cases p), (fun p => by cases p), (fun p => by cases p), (fun p => by cases p), (fun p => by cases p), (fun p => by cases p), (fun p => by cases p)⟩
  case hdone =>
    intro l a w1 hI hall
    obtain ⟨y0, y1, y2, y3, y4, y5, y6, y7, y8, y9, y10, y11, y12, y13, y14, y15, y16, y17, y18, y19, y20, y21, y22, y23, y24, y25, y26, y27, y28, y29, y30, y31, y32, y33, rfl, hb, h0, h1, h2, h3, h4, h5, h6, h7, h8, h9, h10, h11, h12, h13, h14, h15, h16, h17, h18, h19, h20, h21, h22, h23, h24, h25, h26, h27, h28, h29, h30, h31, h32, h33⟩ := hI
    obtain rfl := h33 (hall 33 (by decide))
    exact hQ _ _ _ _ _ _ _ _ _ _ _ _ _ _ _ _ _ _ _ _ _ _ _ _ _ _ _ _ _ _ _ _ _ _ hb 
  case hstep =>
    intro l a w1 i o hI ho hl hall
    obtain ⟨y0, y1, y2, y3, y4, y5, y6, y7, y8, y9, y10, y11, y12, y13, y14, y15, y16, y17, y18, y19, y20, y21, y22, y23, y24, y25, y26, y27, y28, y29, y30, y31, y32, y33, rfl, hb, h0, h1, h2, h3, h4, h5, h6, h7, h8, h9, h10, h11, h12, h13, h14, h15, h16, h17, h18, h19, h20, h21, h22, h23, h24, h25, h26, h27, h28, h29, h30, h31, h32, h33⟩ := hI
    have hi : i < 34 := (Array.getElem?_eq_some_iff.1 ho).1
    match i, hi with
    | 0, _ =>
      have ho' := ho
      simp [opsregFa] at ho
      subst ho
      refine wpOp_one ho' rfl fun K hK => ?_
      go_simp
      exact hK _ _ ⟨_, y1, y2, y3, y4, y5, y6, y7, y8, y9, y10, y11, y12, y13, y14, y15, y16, y17, y18, y19, y20, y21, y22, y23, y24, y25, y26, y27, y28, y29, y30, y31, y32, y33, rfl, hb, fun _ => (by first | rfl | simp), h1, h2, h3, h4, h5, h6, h7, h8, h9, h10, h11, h12, h13, h14, h15, h16, h17, h18, h19, h20, h21, h22, h23, h24, h25, h26, h27, h28, h29, h30, h31, h32, h33⟩
    | 1, _ =>
      have ho' := ho
      simp [opsregFa] at ho
      subst ho
      refine wpOp_one ho' rfl fun K hK => ?_
      go_simp
      exact hK _ _ ⟨y0, _, y2, y3, y4, y5, y6, y7, y8, y9, y10, y11, y12, y13, y14, y15, y16, y17, y18, y19, y20, y21, y22, y23, y24, y25, y26, y27, y28, y29, y30, y31, y32, y33, rfl, hb, h0, fun _ => (by first | rfl | simp), h2, h3, h4, h5, h6, h7, h8, h9, h10, h11, h12, h13, h14, h15, h16, h17, h18, h19, h20, h21, h22, h23, h24, h25, h26, h27, h28, h29, h30, h31, h32, h33⟩
    | 2, _ =>
      have ho' := ho
      simp [opsregFa] at ho
      subst ho
      obtain rfl := h0 (hall ⟨0, .data⟩ (by simp) rfl)
      obtain rfl := h1 (hall ⟨1, .data⟩ (by simp) rfl)
      refine wpOp_one ho' rfl fun K hK => ?_
      go_simp
      exact hK _ _ ⟨_, _, _, y3, y4, y5, y6, y7, y8, y9, y10, y11, y12, y13, y14, y15, y16, y17, y18, y19, y20, y21, y22, y23, y24, y25, y26, y27, y28, y29, y30, y31, y32, y33, rfl, hb, fun _ => rfl, fun _ => rfl, fun _ => (by first | rfl | simp), h3, h4, h5, h6, h7, h8, h9, h10, h11, h12, h13, h14, h15, h16, h17, h18, h19, h20, h21, h22, h23, h24, h25, h26, h27, h28, h29, h30, h31, h32, h33⟩
    | 3, _ =>
      have ho' := ho
      simp [opsregFa] at ho
      subst ho
      obtain rfl := h2 (hall ⟨2, .data⟩ (by simp) rfl)
      refine wpOp_one ho' rfl fun K hK => ?_
      go_simp
      exact hK _ _ ⟨y0, y1, _, _, y4, y5, y6, y7, y8, y9, y10, y11, y12, y13, y14, y15, y16, y17, y18, y19, y20, y21, y22, y23, y24, y25, y26, y27, y28, y29, y30, y31, y32, y33, rfl, hb, h0, h1, fun _ => rfl, fun _ => (by first | rfl | simp), h4, h5, h6, h7, h8, h9, h10, h11, h12, h13, h14, h15, h16, h17, h18, h19, h20, h21, h22, h23, h24, h25, h26, h27, h28, h29, h30, h31, h32, h33⟩
    | 4, _ =>
      have ho' := ho
      simp [opsregFa] at ho
      subst ho
      obtain rfl := h3 (hall ⟨3, .data⟩ (by simp) rfl)
      refine wpOp_one ho' rfl fun K hK => ?_
      have x1 := c1 w1 hb
      go_simp
      exact hK _ _ ⟨y0, y1, y2, _, _, y5, y6, y7, y8, y9, y10, y11, y12, y13, y14, y15, y16, y17, y18, y19, y20, y21, y22, y23, y24, y25, y26, y27, y28, y29, y30, y31, y32, y33, rfl, hb, h0, h1, h2, fun _ => rfl, fun _ => (by first | rfl | simp), h5, h6, h7, h8, h9, h10, h11, h12, h13, h14, h15, h16, h17, h18, h19, h20, h21, h22, h23, h24, h25, h26, h27, h28, h29, h30, h31, h32, h33⟩
    | 5, _ =>
      have ho' := ho
      simp [opsregFa] at ho
      subst ho
      obtain rfl := h4 (hall ⟨4, .data⟩ (by simp) rfl)
      refine wpOp_one ho' rfl fun K hK => ?_
      go_simp
      exact hK _ _ ⟨y0, y1, y2, y3, _, _, y6, y7, y8, y9, y10, y11, y12, y13, y14, y15, y16, y17, y18, y19, y20, y21, y22, y23, y24, y25, y26, y27, y28, y29, y30, y31, y32, y33, rfl, hb, h0, h1, h2, h3, fun _ => rfl, fun _ => (by first | rfl | simp), h6, h7, h8, h9, h10, h11, h12, h13, h14, h15, h16, h17, h18, h19, h20, h21, h22, h23, h24, h25, h26, h27, h28, h29, h30, h31, h32, h33⟩
    | 6, _ =>
      have ho' := ho
      simp [opsregFa] at ho
      subst ho
      obtain rfl := h5 (hall ⟨5, .data⟩ (by simp) rfl)
      refine wpOp_one ho' rfl fun K hK => ?_
      go_simp
      exact hK _ _ ⟨y0, y1, y2, y3, y4, _, _, y7, y8, y9, y10, y11, y12, y13, y14, y15, y16, y17, y18, y19, y20, y21, y22, y23, y24, y25, y26, y27, y28, y29, y30, y31, y32, y33, rfl, hb, h0, h1, h2, h3, h4, fun _ => rfl, fun _ => (by first | rfl | simp), h7, h8, h9, h10, h11, h12, h13, h14, h15, h16, h17, h18, h19, h20, h21, h22, h23, h24, h25, h26, h27, h28, h29, h30, h31, h32, h33⟩
    | 7, _ =>
      have ho' := ho
      simp [opsregFa] at ho
      subst ho
      obtain rfl := h6 (hall ⟨6, .guard⟩ (by simp) rfl)
      refine wpOp_on ho' rfl fun K hK => ?_
      go_simp
      exact hK _ _ ⟨y0, y1, y2, y3, y4, y5, _, _, y8, y9, y10, y11, y12, y13, y14, y15, y16, y17, y18, y19, y20, y21, y22, y23, y24, y25, y26, y27, y28, y29, y30, y31, y32, y33, rfl, hb, h0, h1, h2, h3, h4, h5, fun _ => rfl, fun _ => (by first | rfl | simp), h8, h9, h10, h11, h12, h13, h14, h15, h16, h17, h18, h19, h20, h21, h22, h23, h24, h25, h26, h27, h28, h29, h30, h31, h32, h33⟩
    | 8, _ =>
      have ho' := ho
      simp [opsregFa] at ho
      subst ho
      obtain rfl := h6 (hall ⟨6, .guard⟩ (by simp) rfl)
      refine wpOp_on ho' rfl fun K hK => ?_
      go_simp
      exact hK _ _ ⟨y0, y1, y2, y3, y4, y5, _, y7, _, y9, y10, y11, y12, y13, y14, y15, y16, y17, y18, y19, y20, y21, y22, y23, y24, y25, y26, y27, y28, y29, y30, y31, y32, y33, rfl, hb, h0, h1, h2, h3, h4, h5, fun _ => rfl, h7, fun _ => (by first | rfl | simp), h9, h10, h11, h12, h13, h14, h15, h16, h17, h18, h19, h20, h21, h22, h23, h24, h25, h26, h27, h28, h29, h30, h31, h32, h33⟩
    | 9, _ =>
      have ho' := ho
      simp [opsregFa] at ho
      subst ho
      obtain rfl := h6 (hall ⟨6, .guard⟩ (by simp) rfl)
      obtain rfl := h7 (hall ⟨7, .data⟩ (by simp) rfl)
      obtain rfl := h8 (hall ⟨8, .data⟩ (by simp) rfl)
      refine wpOp_on ho' rfl fun K hK => ?_
      go_simp
      exact hK _ _ ⟨y0, y1, y2, y3, y4, y5, _, _, _, _, y10, y11, y12, y13, y14, y15, y16, y17, y18, y19, y20, y21, y22, y23, y24, y25, y26, y27, y28, y29, y30, y31, y32, y33, rfl, hb, h0, h1, h2, h3, h4, h5, fun _ => rfl, fun _ => rfl, fun _ => rfl, fun _ => (by first | rfl | simp), h10, h11, h12, h13, h14, h15, h16, h17, h18, h19, h20, h21, h22, h23, h24, h25, h26, h27, h28, h29, h30, h31, h32, h33⟩
    | 10, _ =>
      have ho' := ho
      simp [opsregFa] at ho
      subst ho
      obtain rfl := h6 (hall ⟨6, .guard⟩ (by simp) rfl)
      obtain rfl := h9 (hall ⟨9, .data⟩ (by simp) rfl)
      refine wpOp_on ho' rfl fun K hK => ?_
      go_simp
      exact hK _ _ ⟨y0, y1, y2, y3, y4, y5, _, y7, y8, _, _, y11, y12, y13, y14, y15, y16, y17, y18, y19, y20, y21, y22, y23, y24, y25, y26, y27, y28, y29, y30, y31, y32, y33, rfl, hb, h0, h1, h2, h3, h4, h5, fun _ => rfl, h7, h8, fun _ => rfl, fun _ => (by first | rfl | simp), h11, h12, h13, h14, h15, h16, h17, h18, h19, h20, h21, h22, h23, h24, h25, h26, h27, h28, h29, h30, h31, h32, h33⟩
    | 11, _ =>
      have ho' := ho
      simp [opsregFa] at ho
      subst ho
      obtain rfl := h6 (hall ⟨6, .guard⟩ (by simp) rfl)
      obtain rfl := h10 (hall ⟨10, .data⟩ (by simp) rfl)
      refine wpOp_on ho' rfl fun K hK => ?_
      have x1 := c1 w1 hb
      go_simp
      exact hK _ _ ⟨y0, y1, y2, y3, y4, y5, _, y7, y8, y9, _, _, y12, y13, y14, y15, y16, y17, y18, y19, y20, y21, y22, y23, y24, y25, y26, y27, y28, y29, y30, y31, y32, y33, rfl, hb, h0, h1, h2, h3, h4, h5, fun _ => rfl, h7, h8, h9, fun _ => rfl, fun _ => (by first | rfl | simp), h12, h13, h14, h15, h16, h17, h18, h19, h20, h21, h22, h23, h24, h25, h26, h27, h28, h29, h30, h31, h32, h33⟩
    | 12, _ =>
      have ho' := ho
      simp [opsregFa] at ho
      subst ho
      obtain rfl := h6 (hall ⟨6, .guard⟩ (by simp) rfl)
      refine wpOp_on ho' rfl fun K hK => ?_
      go_simp
      exact hK _ _ ⟨y0, y1, y2, y3, y4, y5, _, y7, y8, y9, y10, y11, _, y13, y14, y15, y16, y17, y18, y19, y20, y21, y22, y23, y24, y25, y26, y27, y28, y29, y30, y31, y32, y33, rfl, hb, h0, h1, h2, h3, h4, h5, fun _ => rfl, h7, h8, h9, h10, h11, fun _ => (by first | rfl | simp), h13, h14, h15, h16, h17, h18, h19, h20, h21, h22, h23, h24, h25, h26, h27, h28, h29, h30, h31, h32, h33⟩
    | 13, _ =>
      have ho' := ho
      simp [opsregFa] at ho
      subst ho
      obtain rfl := h6 (hall ⟨6, .guard⟩ (by simp) rfl)
      obtain rfl := h12 (hall ⟨12, .data⟩ (by simp) rfl)
      refine wpOp_on ho' rfl fun K hK => ?_
      go_simp
      exact hK _ _ ⟨y0, y1, y2, y3, y4, y5, _, y7, y8, y9, y10, y11, _, _, y14, y15, y16, y17, y18, y19, y20, y21, y22, y23, y24, y25, y26, y27, y28, y29, y30, y31, y32, y33, rfl, hb, h0, h1, h2, h3, h4, h5, fun _ => rfl, h7, h8, h9, h10, h11, fun _ => rfl, fun _ => (by first | rfl | simp), h14, h15, h16, h17, h18, h19, h20, h21, h22, h23, h24, h25, h26, h27, h28, h29, h30, h31, h32, h33⟩
    | 14, _ =>
      have ho' := ho
      simp [opsregFa] at ho
      subst ho
      obtain rfl := h6 (hall ⟨6, .guard⟩ (by simp) rfl)
      obtain rfl := h11 (hall ⟨11, .data⟩ (by simp) rfl)
      obtain rfl := h13 (hall ⟨13, .data⟩ (by simp) rfl)
      refine wpOp_on ho' rfl fun K hK => ?_
      go_simp
      exact hK _ _ ⟨y0, y1, y2, y3, y4, y5, _, y7, y8, y9, y10, _, y12, _, _, y15, y16, y17, y18, y19, y20, y21, y22, y23, y24, y25, y26, y27, y28, y29, y30, y31, y32, y33, rfl, hb, h0, h1, h2, h3, h4, h5, fun _ => rfl, h7, h8, h9, h10, fun _ => rfl, h12, fun _ => rfl, fun _ => (by first | rfl | simp), h15, h16, h17, h18, h19, h20, h21, h22, h23, h24, h25, h26, h27, h28, h29, h30, h31, h32, h33⟩
    | 15, _ =>
      have ho' := ho
      simp [opsregFa] at ho
      subst ho
      obtain rfl := h6 (hall ⟨6, .data⟩ (by simp) rfl)
      obtain rfl := h14 (hall ⟨14, .data⟩ (by simp) rfl)
      refine wpOp_one ho' rfl fun K hK => ?_
      go_simp
      exact hK _ _ ⟨y0, y1, y2, y3, y4, y5, _, y7, y8, y9, y10, y11, y12, y13, _, _, y16, y17, y18, y19, y20, y21, y22, y23, y24, y25, y26, y27, y28, y29, y30, y31, y32, y33, rfl, hb, h0, h1, h2, h3, h4, h5, fun _ => rfl, h7, h8, h9, h10, h11, h12, h13, fun _ => rfl, fun _ => (by first | rfl | simp), h16, h17, h18, h19, h20, h21, h22, h23, h24, h25, h26, h27, h28, h29, h30, h31, h32, h33⟩
    | 16, _ =>
      have ho' := ho
      simp [opsregFa] at ho
      subst ho
      obtain rfl := h15 (hall ⟨15, .data⟩ (by simp) rfl)
      refine wpOp_one ho' rfl fun K hK => ?_
      go_simp
      exact hK _ _ ⟨y0, y1, y2, y3, y4, y5, y6, y7, y8, y9, y10, y11, y12, y13, y14, _, _, y17, y18, y19, y20, y21, y22, y23, y24, y25, y26, y27, y28, y29, y30, y31, y32, y33, rfl, hb, h0, h1, h2, h3, h4, h5, h6, h7, h8, h9, h10, h11, h12, h13, h14, fun _ => rfl, fun _ => (by first | rfl | simp), h17, h18, h19, h20, h21, h22, h23, h24, h25, h26, h27, h28, h29, h30, h31, h32, h33⟩
    | 17, _ =>
      have ho' := ho
      simp [opsregFa] at ho
      subst ho
      obtain rfl := h16 (hall ⟨16, .guard⟩ (by simp) rfl)
      refine wpOp_on ho' rfl fun K hK => ?_
      go_simp
      exact hK _ _ ⟨y0, y1, y2, y3, y4, y5, y6, y7, y8, y9, y10, y11, y12, y13, y14, y15, _, _, y18, y19, y20, y21, y22, y23, y24, y25, y26, y27, y28, y29, y30, y31, y32, y33, rfl, hb, h0, h1, h2, h3, h4, h5, h6, h7, h8, h9, h10, h11, h12, h13, h14, h15, fun _ => rfl, fun _ => (by first | rfl | simp), h18, h19, h20, h21, h22, h23, h24, h25, h26, h27, h28, h29, h30, h31, h32, h33⟩
    | 18, _ =>
      have ho' := ho
      simp [opsregFa] at ho
      subst ho
      obtain rfl := h16 (hall ⟨16, .guard⟩ (by simp) rfl)
      obtain rfl := h17 (hall ⟨17, .data⟩ (by simp) rfl)
      refine wpOp_on ho' rfl fun K hK => ?_
      go_simp
      exact hK _ _ ⟨y0, y1, y2, y3, y4, y5, y6, y7, y8, y9, y10, y11, y12, y13, y14, y15, _, _, _, y19, y20, y21, y22, y23, y24, y25, y26, y27, y28, y29, y30, y31, y32, y33, rfl, hb, h0, h1, h2, h3, h4, h5, h6, h7, h8, h9, h10, h11, h12, h13, h14, h15, fun _ => rfl, fun _ => rfl, fun _ => (by first | rfl | (simp; omega)), h19, h20, h21, h22, h23, h24, h25, h26, h27, h28, h29, h30, h31, h32, h33⟩
    | 19, _ =>
      have ho' := ho
      simp [opsregFa] at ho
      subst ho
      obtain rfl := h16 (hall ⟨16, .chain⟩ (by simp) rfl)
      obtain rfl := h18 (hall ⟨18, .data⟩ (by simp) rfl)
      refine wpOp_on ho' rfl fun K hK => ?_
      go_simp
      exact hK _ _ ⟨y0, y1, y2, y3, y4, y5, y6, y7, y8, y9, y10, y11, y12, y13, y14, y15, _, y17, _, _, y20, y21, y22, y23, y24, y25, y26, y27, y28, y29, y30, y31, y32, y33, rfl, hb, h0, h1, h2, h3, h4, h5, h6, h7, h8, h9, h10, h11, h12, h13, h14, h15, fun _ => rfl, h17, fun _ => rfl, fun _ => (by first | rfl | simp), h20, h21, h22, h23, h24, h25, h26, h27, h28, h29, h30, h31, h32, h33⟩
    | 20, _ =>
      have ho' := ho
      simp [opsregFa] at ho
      subst ho
      obtain rfl := h19 (hall ⟨19, .guard⟩ (by simp) rfl)
      refine wpOp_on ho' rfl fun K hK => ?_
      go_simp
      exact hK _ _ ⟨y0, y1, y2, y3, y4, y5, y6, y7, y8, y9, y10, y11, y12, y13, y14, y15, y16, y17, y18, _, _, y21, y22, y23, y24, y25, y26, y27, y28, y29, y30, y31, y32, y33, rfl, hb, h0, h1, h2, h3, h4, h5, h6, h7, h8, h9, h10, h11, h12, h13, h14, h15, h16, h17, h18, fun _ => rfl, fun _ => (by first | rfl | simp), h21, h22, h23, h24, h25, h26, h27, h28, h29, h30, h31, h32, h33⟩
    | 21, _ =>
      have ho' := ho
      simp [opsregFa] at ho
      subst ho
      obtain rfl := h19 (hall ⟨19, .guard⟩ (by simp) rfl)
      refine wpOp_on ho' rfl fun K hK => ?_
      go_simp
      exact hK _ _ ⟨y0, y1, y2, y3, y4, y5, y6, y7, y8, y9, y10, y11, y12, y13, y14, y15, y16, y17, y18, _, y20, _, y22, y23, y24, y25, y26, y27, y28, y29, y30, y31, y32, y33, rfl, hb, h0, h1, h2, h3, h4, h5, h6, h7, h8, h9, h10, h11, h12, h13, h14, h15, h16, h17, h18, fun _ => rfl, h20, fun _ => (by first | rfl | simp), h22, h23, h24, h25, h26, h27, h28, h29, h30, h31, h32, h33⟩
    | 22, _ =>
      have ho' := ho
      simp [opsregFa] at ho
      subst ho
      obtain rfl := h19 (hall ⟨19, .guard⟩ (by simp) rfl)
      obtain rfl := h20 (hall ⟨20, .data⟩ (by simp) rfl)
      obtain rfl := h21 (hall ⟨21, .data⟩ (by simp) rfl)
      refine wpOp_on ho' rfl fun K hK => ?_
      go_simp
      exact hK _ _ ⟨y0, y1, y2, y3, y4, y5, y6, y7, y8, y9, y10, y11, y12, y13, y14, y15, y16, y17, y18, _, _, _, _, y23, y24, y25, y26, y27, y28, y29, y30, y31, y32, y33, rfl, hb, h0, h1, h2, h3, h4, h5, h6, h7, h8, h9, h10, h11, h12, h13, h14, h15, h16, h17, h18, fun _ => rfl, fun _ => rfl, fun _ => rfl, fun _ => (by first | rfl | simp), h23, h24, h25, h26, h27, h28, h29, h30, h31, h32, h33⟩
    | 23, _ =>
      have ho' := ho
      simp [opsregFa] at ho
      subst ho
      obtain rfl := h19 (hall ⟨19, .guard⟩ (by simp) rfl)
      obtain rfl := h22 (hall ⟨22, .data⟩ (by simp) rfl)
      refine wpOp_on ho' rfl fun K hK => ?_
      go_simp
      exact hK _ _ ⟨y0, y1, y2, y3, y4, y5, y6, y7, y8, y9, y10, y11, y12, y13, y14, y15, y16, y17, y18, _, y20, y21, _, _, y24, y25, y26, y27, y28, y29, y30, y31, y32, y33, rfl, hb, h0, h1, h2, h3, h4, h5, h6, h7, h8, h9, h10, h11, h12, h13, h14, h15, h16, h17, h18, fun _ => rfl, h20, h21, fun _ => rfl, fun _ => (by first | rfl | simp), h24, h25, h26, h27, h28, h29, h30, h31, h32, h33⟩
    | 24, _ =>
      have ho' := ho
      simp [opsregFa] at ho
      subst ho
      obtain rfl := h19 (hall ⟨19, .guard⟩ (by simp) rfl)
      obtain rfl := h23 (hall ⟨23, .data⟩ (by simp) rfl)
      refine wpOp_on ho' rfl fun K hK => ?_
      have x0 := c0 w1 hb
      go_simp
      exact hK _ _ ⟨y0, y1, y2, y3, y4, y5, y6, y7, y8, y9, y10, y11, y12, y13, y14, y15, y16, y17, y18, _, y20, y21, y22, _, _, y25, y26, y27, y28, y29, y30, y31, y32, y33, rfl, hb, h0, h1, h2, h3, h4, h5, h6, h7, h8, h9, h10, h11, h12, h13, h14, h15, h16, h17, h18, fun _ => rfl, h20, h21, h22, fun _ => rfl, fun _ => (by first | rfl | simp), h25, h26, h27, h28, h29, h30, h31, h32, h33⟩
    | 25, _ =>
      have ho' := ho
      simp [opsregFa] at ho
      subst ho
      obtain rfl := h19 (hall ⟨19, .guard⟩ (by simp) rfl)
      refine wpOp_on ho' rfl fun K hK => ?_
      go_simp
      exact hK _ _ ⟨y0, y1, y2, y3, y4, y5, y6, y7, y8, y9, y10, y11, y12, y13, y14, y15, y16, y17, y18, _, y20, y21, y22, y23, y24, _, y26, y27, y28, y29, y30, y31, y32, y33, rfl, hb, h0, h1, h2, h3, h4, h5, h6, h7, h8, h9, h10, h11, h12, h13, h14, h15, h16, h17, h18, fun _ => rfl, h20, h21, h22, h23, h24, fun _ => (by first | rfl | simp), h26, h27, h28, h29, h30, h31, h32, h33⟩
    | 26, _ =>
      have ho' := ho
      simp [opsregFa] at ho
      subst ho
      obtain rfl := h19 (hall ⟨19, .guard⟩ (by simp) rfl)
      refine wpOp_on ho' rfl fun K hK => ?_
      go_simp
      exact hK _ _ ⟨y0, y1, y2, y3, y4, y5, y6, y7, y8, y9, y10, y11, y12, y13, y14, y15, y16, y17, y18, _, y20, y21, y22, y23, y24, y25, _, y27, y28, y29, y30, y31, y32, y33, rfl, hb, h0, h1, h2, h3, h4, h5, h6, h7, h8, h9, h10, h11, h12, h13, h14, h15, h16, h17, h18, fun _ => rfl, h20, h21, h22, h23, h24, h25, fun _ => (by first | rfl | simp), h27, h28, h29, h30, h31, h32, h33⟩
    | 27, _ =>
      have ho' := ho
      simp [opsregFa] at ho
      subst ho
      obtain rfl := h19 (hall ⟨19, .guard⟩ (by simp) rfl)
      obtain rfl := h26 (hall ⟨26, .data⟩ (by simp) rfl)
      refine wpOp_on ho' rfl fun K hK => ?_
      go_simp
      exact hK _ _ ⟨y0, y1, y2, y3, y4, y5, y6, y7, y8, y9, y10, y11, y12, y13, y14, y15, y16, y17, y18, _, y20, y21, y22, y23, y24, y25, _, _, y28, y29, y30, y31, y32, y33, rfl, hb, h0, h1, h2, h3, h4, h5, h6, h7, h8, h9, h10, h11, h12, h13, h14, h15, h16, h17, h18, fun _ => rfl, h20, h21, h22, h23, h24, h25, fun _ => rfl, fun _ => (by first | rfl | simp), h28, h29, h30, h31, h32, h33⟩
    | 28, _ =>
      have ho' := ho
      simp [opsregFa] at ho
      subst ho
      obtain rfl := h19 (hall ⟨19, .guard⟩ (by simp) rfl)
      obtain rfl := h25 (hall ⟨25, .data⟩ (by simp) rfl)
      obtain rfl := h27 (hall ⟨27, .data⟩ (by simp) rfl)
      refine wpOp_on ho' rfl fun K hK => ?_
      go_simp
      exact hK _ _ ⟨y0, y1, y2, y3, y4, y5, y6, y7, y8, y9, y10, y11, y12, y13, y14, y15, y16, y17, y18, _, y20, y21, y22, y23, y24, _, y26, _, _, y29, y30, y31, y32, y33, rfl, hb, h0, h1, h2, h3, h4, h5, h6, h7, h8, h9, h10, h11, h12, h13, h14, h15, h16, h17, h18, fun _ => rfl, h20, h21, h22, h23, h24, fun _ => rfl, h26, fun _ => rfl, fun _ => (by first | rfl | simp), h29, h30, h31, h32, h33⟩
    | 29, _ =>
      have ho' := ho
      simp [opsregFa] at ho
      subst ho
      obtain rfl := h19 (hall ⟨19, .guard⟩ (by simp) rfl)
      obtain rfl := h28 (hall ⟨28, .data⟩ (by simp) rfl)
      refine wpOp_on ho' rfl fun K hK => ?_
      go_simp
      exact hK _ _ ⟨y0, y1, y2, y3, y4, y5, y6, y7, y8, y9, y10, y11, y12, y13, y14, y15, y16, y17, y18, _, y20, y21, y22, y23, y24, y25, y26, y27, _, _, y30, y31, y32, y33, rfl, hb, h0, h1, h2, h3, h4, h5, h6, h7, h8, h9, h10, h11, h12, h13, h14, h15, h16, h17, h18, fun _ => rfl, h20, h21, h22, h23, h24, h25, h26, h27, fun _ => rfl, fun _ => (by first | rfl | simp), h30, h31, h32, h33⟩
    | 30, _ =>
      have ho' := ho
      simp [opsregFa] at ho
      subst ho
      obtain rfl := h19 (hall ⟨19, .guard⟩ (by simp) rfl)
      obtain rfl := h29 (hall ⟨29, .data⟩ (by simp) rfl)
      refine wpOp_on ho' rfl fun K hK => ?_
      have x2 := c2 w1 hb
      go_simp
      exact hK _ _ ⟨y0, y1, y2, y3, y4, y5, y6, y7, y8, y9, y10, y11, y12, y13, y14, y15, y16, y17, y18, _, y20, y21, y22, y23, y24, y25, y26, y27, y28, _, _, y31, y32, y33, rfl, hb, h0, h1, h2, h3, h4, h5, h6, h7, h8, h9, h10, h11, h12, h13, h14, h15, h16, h17, h18, fun _ => rfl, h20, h21, h22, h23, h24, h25, h26, h27, h28, fun _ => rfl, fun _ => (by first | rfl | simp), h31, h32, h33⟩
    | 31, _ =>
      have ho' := ho
      simp [opsregFa] at ho
      subst ho
      obtain rfl := h19 (hall ⟨19, .guard⟩ (by simp) rfl)
      obtain rfl := h24 (hall ⟨24, .data⟩ (by simp) rfl)
      obtain rfl := h30 (hall ⟨30, .data⟩ (by simp) rfl)
      refine wpOp_on ho' rfl fun K hK => ?_
      go_simp
      exact hK _ _ ⟨y0, y1, y2, y3, y4, y5, y6, y7, y8, y9, y10, y11, y12, y13, y14, y15, y16, y17, y18, _, y20, y21, y22, y23, _, y25, y26, y27, y28, y29, _, _, y32, y33, rfl, hb, h0, h1, h2, h3, h4, h5, h6, h7, h8, h9, h10, h11, h12, h13, h14, h15, h16, h17, h18, fun _ => rfl, h20, h21, h22, h23, fun _ => rfl, h25, h26, h27, h28, h29, fun _ => rfl, fun _ => (by first | rfl | simp), h32, h33⟩
    | 32, _ =>
      have ho' := ho
      simp [opsregFa] at ho
      subst ho
      obtain rfl := h16 (hall ⟨16, .guard⟩ (by simp) rfl)
      obtain rfl := h19 (hall ⟨19, .data⟩ (by simp) rfl)
      obtain rfl := h31 (hall ⟨31, .data⟩ (by simp) rfl)
      refine wpOp_on ho' rfl fun K hK => ?_
      go_simp
      exact hK _ _ ⟨y0, y1, y2, y3, y4, y5, y6, y7, y8, y9, y10, y11, y12, y13, y14, y15, _, y17, y18, _, y20, y21, y22, y23, y24, y25, y26, y27, y28, y29, y30, _, _, y33, rfl, hb, h0, h1, h2, h3, h4, h5, h6, h7, h8, h9, h10, h11, h12, h13, h14, h15, fun _ => rfl, h17, h18, fun _ => rfl, h20, h21, h22, h23, h24, h25, h26, h27, h28, h29, h30, fun _ => rfl, fun _ => (by first | rfl | simp), h33⟩
    | 33, _ =>
      have ho' := ho
      simp [opsregFa] at ho
      subst ho
      obtain rfl := h16 (hall ⟨16, .data⟩ (by simp) rfl)
      obtain rfl := h32 (hall ⟨32, .data⟩ (by simp) rfl)
      refine wpOp_one ho' rfl fun K hK => ?_
      go_simp
      exact hK _ _ ⟨y0, y1, y2, y3, y4, y5, y6, y7, y8, y9, y10, y11, y12, y13, y14, y15, _, y17, y18, y19, y20, y21, y22, y23, y24, y25, y26, y27, y28, y29, y30, y31, _, _, rfl, hb, h0, h1, h2, h3, h4, h5, h6, h7, h8, h9, h10, h11, h12, h13, h14, h15, fun _ => rfl, h17, h18, h19, h20, h21, h22, h23, h24, h25, h26, h27, h28, h29, h30, h31, fun _ => rfl, fun _ => (by first | rfl | simp)⟩
    | k + 34, hi => omega


end Go.Proofs.YtgdblnppeeknpaaDoor
