/- A drawn region of the walk of SpanCuts.
   Conditions: what they load lies in memory; the contract of what they call. -/
import Derived.Test.YtdjddmkmcdfmiaaDoorNN
import Derived.Test.YtdjddmkmcdfmiaaDoorOrdX
import Derived.WalkKit
import Derived.KernelRfl

namespace Go.Proofs.YtdjddmkmcdfmiaaDoor
open Go.RowKit Go.Shelf
abbrev opsregCa : Array Oper := #[{ dst := some 25, op := Op.move (Operand.tmp 7), type := 4, pos := "again.go:27", after := #[], guard := none },
  { dst := some 26, op := Op.move (Operand.tmp 25), type := 4, pos := "again.go:27", after := #[{ on := 0, ground := Ground.data }], guard := none },
  { dst := some 27, op := Op.load 27 (Operand.tmp 3), type := 27, pos := "again.go:27", after := #[{ on := 1, ground := Ground.guard }], guard := some (1, false) },
  { dst := some 28, op := Op.move (Operand.tmp 2), type := 28, pos := "again.go:27", after := #[{ on := 1, ground := Ground.guard }], guard := some (1, false) },
  { dst := some 29, op := Op.move (Operand.tmp 8), type := 3, pos := "again.go:27", after := #[{ on := 1, ground := Ground.guard }], guard := some (1, false) },
  { dst := some 30, op := Op.slice 28 (Operand.tmp 28) none (some (Operand.tmp 29)) none, type := 28, pos := "again.go:27", after := #[{ on := 3, ground := Ground.data }, { on := 4, ground := Ground.data }, { on := 1, ground := Ground.guard }], guard := some (1, false) },
  { dst := some 31, op := Op.call { callee := Callee.value (Operand.func 11), args := #[Operand.tmp 27, Operand.tmp 30], argTypes := #[27, 28] }, type := 4, pos := "again.go:27", after := #[{ on := 2, ground := Ground.data }, { on := 5, ground := Ground.data }, { on := 1, ground := Ground.chain }, { on := 1, ground := Ground.guard }], guard := some (1, false) },
  { dst := some 32, op := Op.move (Operand.tmp 31), type := 4, pos := "again.go:27", after := #[{ on := 6, ground := Ground.data }, { on := 6, ground := Ground.chain }, { on := 1, ground := Ground.guard }], guard := some (1, false) },
  { dst := some 33, op := Op.load 27 (Operand.tmp 4), type := 27, pos := "again.go:27", after := #[{ on := 7, ground := Ground.guard }], guard := some (7, true) },
  { dst := some 34, op := Op.move (Operand.tmp 2), type := 28, pos := "again.go:27", after := #[{ on := 7, ground := Ground.guard }], guard := some (7, true) },
  { dst := some 35, op := Op.move (Operand.tmp 8), type := 3, pos := "again.go:27", after := #[{ on := 7, ground := Ground.guard }], guard := some (7, true) },
  { dst := some 36, op := Op.slice 28 (Operand.tmp 34) (some (Operand.tmp 35)) none none, type := 28, pos := "again.go:27", after := #[{ on := 9, ground := Ground.data }, { on := 10, ground := Ground.data }, { on := 7, ground := Ground.guard }], guard := some (7, true) },
  { dst := some 37, op := Op.call { callee := Callee.value (Operand.func 11), args := #[Operand.tmp 33, Operand.tmp 36], argTypes := #[27, 28] }, type := 4, pos := "again.go:27", after := #[{ on := 8, ground := Ground.data }, { on := 11, ground := Ground.data }, { on := 7, ground := Ground.chain }, { on := 7, ground := Ground.guard }], guard := some (7, true) },
  { dst := some 38, op := Op.pick (Operand.tmp 32) (Operand.tmp 37) (Operand.const (Value.bool false)), type := 4, pos := "again.go:27", after := #[{ on := 7, ground := Ground.data }, { on := 12, ground := Ground.data }, { on := 1, ground := Ground.guard }], guard := some (1, false) },
  { dst := some 39, op := Op.pick (Operand.tmp 26) (Operand.const (Value.bool true)) (Operand.tmp 38), type := 4, pos := "again.go:27", after := #[{ on := 1, ground := Ground.data }, { on := 13, ground := Ground.data }], guard := none },
  { dst := some 7, op := Op.assign (Operand.tmp 39), type := 4, pos := "again.go:27", after := #[{ on := 14, ground := Ground.data }, { on := 12, ground := Ground.chain }, { on := 0, ground := Ground.phase }, { on := 1, ground := Ground.phase }, { on := 2, ground := Ground.phase }, { on := 3, ground := Ground.phase }, { on := 4, ground := Ground.phase }, { on := 5, ground := Ground.phase }, { on := 6, ground := Ground.phase }, { on := 7, ground := Ground.phase }, { on := 8, ground := Ground.phase }, { on := 9, ground := Ground.phase }, { on := 10, ground := Ground.phase }, { on := 11, ground := Ground.phase }, { on := 12, ground := Ground.phase }, { on := 13, ground := Ground.phase }, { on := 14, ground := Ground.phase }], guard := none }]
def WregCa  (ba bb ln cw : Nat) (A : Option Addr) (zi : Int) (D : List Deferred) (v0 v1 v5 v6 v9 v10 v11 v12 v13 v14 v15 v16 v17 v18 v19 v20 v21 v22 v23 v24 v40 v41 v42 v43 v44 v45 v46 v47 : Value) (w0 : World) (l : Nat → Bool) (a : Act) (w : World) : Prop :=
  ∃ (y0 y1 y2 y3 y4 y5 y6 y7 y8 y9 y10 y11 y12 y13 y14 y15 : Value), a = { tmps := #[v0, v1, .slice A ln cw, .pointer (some ⟨ba, 0, none⟩), .pointer (some ⟨bb, 0, none⟩), v5, v6, y15, .int .i64 zi, v9, v10, v11, v12, v13, v14, v15, v16, v17, v18, v19, v20, v21, v22, v23, v24, y0, y1, y2, y3, y4, y5, y6, y7, y8, y9, y10, y11, y12, y13, y14, v40, v41, v42, v43, v44, v45, v46, v47], defers := D } ∧ Below w0.heap.size w0 w ∧
    (l 0 = true → y0 = .bool true) ∧ (l 1 = true → y1 = .bool true) ∧ (l 7 = true → y7 = undef) ∧ (l 14 = true → y14 = .bool true) ∧ (l 15 = true → y15 = .bool true) ∧ (l 0 = false → y15 = .bool true)
set_option maxHeartbeats 8000000 in
set_option maxRecDepth 100000 in
theorem regCa  (ba bb ln cw : Nat) (A : Option Addr) (zi : Int) (D : List Deferred) (v0 v1 v5 v6 v9 v10 v11 v12 v13 v14 v15 v16 v17 v18 v19 v20 v21 v22 v23 v24 v40 v41 v42 v43 v44 v45 v46 v47 wy0 wy1 wy2 wy3 wy4 wy5 wy6 wy7 wy8 wy9 wy10 wy11 wy12 wy13 wy14 : Value) (w : World)  (Q : Exit → Act → World → Prop)
    (hQ : ∀ (y0 y1 y2 y3 y4 y5 y6 y7 y8 y9 y10 y11 y12 y13 y14 : Value) (w' : World), Below w.heap.size w w' → Q .normal { tmps := #[v0, v1, .slice A ln cw, .pointer (some ⟨ba, 0, none⟩), .pointer (some ⟨bb, 0, none⟩), v5, v6, .bool true, .int .i64 zi, v9, v10, v11, v12, v13, v14, v15, v16, v17, v18, v19, v20, v21, v22, v23, v24, y0, y1, y2, y3, y4, y5, y6, y7, y8, y9, y10, y11, y12, y13, y14, v40, v41, v42, v43, v44, v45, v46, v47], defers := D } w') :
    (Code.region 7 opsregCa true).wp Tryd.prog Q { tmps := #[v0, v1, .slice A ln cw, .pointer (some ⟨ba, 0, none⟩), .pointer (some ⟨bb, 0, none⟩), v5, v6, .bool true, .int .i64 zi, v9, v10, v11, v12, v13, v14, v15, v16, v17, v18, v19, v20, v21, v22, v23, v24, wy0, wy1, wy2, wy3, wy4, wy5, wy6, wy7, wy8, wy9, wy10, wy11, wy12, wy13, wy14, v40, v41, v42, v43, v44, v45, v46, v47], defers := D } w := by
  refine wp_region_inv (by kernel_rfl) (WregCa  ba bb ln cw A zi D v0 v1 v5 v6 v9 v10 v11 v12 v13 v14 v15 v16 v17 v18 v19 v20 v21 v22 v23 v24 v40 v41 v42 v43 v44 v45 v46 v47 w) ?hacy ?h0 ?hstep ?hdone
  case hacy => kernel_rfl
  case h0 => exact ⟨wy0, wy1, wy2, wy3, wy4, wy5, wy6, wy7, wy8, wy9, wy10, wy11, wy12, wy13, wy14, .bool true, rfl, below_drewN (Below.refl _ _) 1, (fun p => by cases p), (fun p => by cases p), (fun p => by cases p), (fun p => by cases p), (fun p => by cases p), (fun _ => rfl)⟩
  case hdone =>
    intro l a w1 hI hall
    obtain ⟨y0, y1, y2, y3, y4, y5, y6, y7, y8, y9, y10, y11, y12, y13, y14, y15, rfl, hb, h0, h1, h7, h14, h15, hO⟩ := hI
    obtain rfl := h15 (hall 15 (by decide))
    exact hQ _ _ _ _ _ _ _ _ _ _ _ _ _ _ _ _ hb 
  case hstep =>
    intro l a w1 i o hI ho hl hall
    obtain ⟨y0, y1, y2, y3, y4, y5, y6, y7, y8, y9, y10, y11, y12, y13, y14, y15, rfl, hb, h0, h1, h7, h14, h15, hO⟩ := hI
    have hi : i < 16 := (Array.getElem?_eq_some_iff.1 ho).1
    match i, hi with
    | 0, _ =>
      have ho' := ho
      simp [opsregCa] at ho
      subst ho
      obtain rfl := hO hl
      refine wpOp_one ho' rfl fun K hK => ?_
      go_simp
      exact hK _ _ ⟨_, y1, y2, y3, y4, y5, y6, y7, y8, y9, y10, y11, y12, y13, y14, _, rfl, hb, fun _ => (by first | rfl | simp), h1, h7, h14, h15, (fun q => absurd q (by simp [upd]))⟩
    | 1, _ =>
      have ho' := ho
      simp [opsregCa] at ho
      subst ho
      obtain rfl := h0 (hall ⟨0, .data⟩ (by simp) rfl)
      refine wpOp_one ho' rfl fun K hK => ?_
      go_simp
      exact hK _ _ ⟨_, _, y2, y3, y4, y5, y6, y7, y8, y9, y10, y11, y12, y13, y14, y15, rfl, hb, fun _ => rfl, fun _ => (by first | rfl | simp), h7, h14, h15, hO⟩
    | 2, _ =>
      have ho' := ho
      simp [opsregCa] at ho
      subst ho
      obtain rfl := h1 (hall ⟨1, .guard⟩ (by simp) rfl)
      refine wpOq_off ho' rfl ?_
      exact ⟨y0, _, _, y3, y4, y5, y6, y7, y8, y9, y10, y11, y12, y13, y14, y15, rfl, hb, h0, fun _ => rfl, h7, h14, h15, hO⟩
    | 3, _ =>
      have ho' := ho
      simp [opsregCa] at ho
      subst ho
      obtain rfl := h1 (hall ⟨1, .guard⟩ (by simp) rfl)
      refine wpOq_off ho' rfl ?_
      exact ⟨y0, _, y2, _, y4, y5, y6, y7, y8, y9, y10, y11, y12, y13, y14, y15, rfl, hb, h0, fun _ => rfl, h7, h14, h15, hO⟩
    | 4, _ =>
      have ho' := ho
      simp [opsregCa] at ho
      subst ho
      obtain rfl := h1 (hall ⟨1, .guard⟩ (by simp) rfl)
      refine wpOq_off ho' rfl ?_
      exact ⟨y0, _, y2, y3, _, y5, y6, y7, y8, y9, y10, y11, y12, y13, y14, y15, rfl, hb, h0, fun _ => rfl, h7, h14, h15, hO⟩
    | 5, _ =>
      have ho' := ho
      simp [opsregCa] at ho
      subst ho
      obtain rfl := h1 (hall ⟨1, .guard⟩ (by simp) rfl)
      refine wpOq_off ho' rfl ?_
      exact ⟨y0, _, y2, y3, y4, _, y6, y7, y8, y9, y10, y11, y12, y13, y14, y15, rfl, hb, h0, fun _ => rfl, h7, h14, h15, hO⟩
    | 6, _ =>
      have ho' := ho
      simp [opsregCa] at ho
      subst ho
      obtain rfl := h1 (hall ⟨1, .chain⟩ (by simp) rfl)
      refine wpOq_off ho' rfl ?_
      exact ⟨y0, _, y2, y3, y4, y5, _, y7, y8, y9, y10, y11, y12, y13, y14, y15, rfl, hb, h0, fun _ => rfl, h7, h14, h15, hO⟩
    | 7, _ =>
      have ho' := ho
      simp [opsregCa] at ho
      subst ho
      obtain rfl := h1 (hall ⟨1, .guard⟩ (by simp) rfl)
      refine wpOq_off ho' rfl ?_
      exact ⟨y0, _, y2, y3, y4, y5, y6, _, y8, y9, y10, y11, y12, y13, y14, y15, rfl, hb, h0, fun _ => rfl, fun _ => rfl, h14, h15, hO⟩
    | 8, _ =>
      have ho' := ho
      simp [opsregCa] at ho
      subst ho
      obtain rfl := h7 (hall ⟨7, .guard⟩ (by simp) rfl)
      refine wpOq_off ho' rfl ?_
      exact ⟨y0, y1, y2, y3, y4, y5, y6, _, _, y9, y10, y11, y12, y13, y14, y15, rfl, hb, h0, h1, fun _ => rfl, h14, h15, hO⟩
    | 9, _ =>
      have ho' := ho
      simp [opsregCa] at ho
      subst ho
      obtain rfl := h7 (hall ⟨7, .guard⟩ (by simp) rfl)
      refine wpOq_off ho' rfl ?_
      exact ⟨y0, y1, y2, y3, y4, y5, y6, _, y8, _, y10, y11, y12, y13, y14, y15, rfl, hb, h0, h1, fun _ => rfl, h14, h15, hO⟩
    | 10, _ =>
      have ho' := ho
      simp [opsregCa] at ho
      subst ho
      obtain rfl := h7 (hall ⟨7, .guard⟩ (by simp) rfl)
      refine wpOq_off ho' rfl ?_
      exact ⟨y0, y1, y2, y3, y4, y5, y6, _, y8, y9, _, y11, y12, y13, y14, y15, rfl, hb, h0, h1, fun _ => rfl, h14, h15, hO⟩
    | 11, _ =>
      have ho' := ho
      simp [opsregCa] at ho
      subst ho
      obtain rfl := h7 (hall ⟨7, .guard⟩ (by simp) rfl)
      refine wpOq_off ho' rfl ?_
      exact ⟨y0, y1, y2, y3, y4, y5, y6, _, y8, y9, y10, _, y12, y13, y14, y15, rfl, hb, h0, h1, fun _ => rfl, h14, h15, hO⟩
    | 12, _ =>
      have ho' := ho
      simp [opsregCa] at ho
      subst ho
      obtain rfl := h7 (hall ⟨7, .chain⟩ (by simp) rfl)
      refine wpOq_off ho' rfl ?_
      exact ⟨y0, y1, y2, y3, y4, y5, y6, _, y8, y9, y10, y11, _, y13, y14, y15, rfl, hb, h0, h1, fun _ => rfl, h14, h15, hO⟩
    | 13, _ =>
      have ho' := ho
      simp [opsregCa] at ho
      subst ho
      obtain rfl := h1 (hall ⟨1, .guard⟩ (by simp) rfl)
      obtain rfl := h7 (hall ⟨7, .data⟩ (by simp) rfl)
      refine wpOq_off ho' rfl ?_
      exact ⟨y0, _, y2, y3, y4, y5, y6, _, y8, y9, y10, y11, y12, _, y14, y15, rfl, hb, h0, fun _ => rfl, fun _ => rfl, h14, h15, hO⟩
    | 14, _ =>
      have ho' := ho
      simp [opsregCa] at ho
      subst ho
      obtain rfl := h1 (hall ⟨1, .data⟩ (by simp) rfl)
      refine wpOp_one ho' rfl fun K hK => ?_
      go_simp
      exact hK _ _ ⟨y0, _, y2, y3, y4, y5, y6, y7, y8, y9, y10, y11, y12, y13, _, y15, rfl, hb, h0, fun _ => rfl, h7, fun _ => (by first | rfl | simp), h15, hO⟩
    | 15, _ =>
      have ho' := ho
      simp [opsregCa] at ho
      subst ho
      obtain rfl := h14 (hall ⟨14, .data⟩ (by simp) rfl)
      refine wpOp_one ho' rfl fun K hK => ?_
      go_simp
      exact hK _ _ ⟨y0, y1, y2, y3, y4, y5, y6, y7, y8, y9, y10, y11, y12, y13, _, _, rfl, hb, h0, h1, h7, fun _ => rfl, fun _ => (by first | rfl | simp), (fun (q : l 0 = false) => absurd (show l 0 = true from hall ⟨0, .phase⟩ (by simp) rfl) (by rw [q]; decide))⟩
    | k + 16, hi => omega

def WregCb (pk ps0 ps1 ps2 ps3 pl ph : Int) (pa : Option Addr) (pn pc : Nat) (ba bb ln cw l1 c1 : Nat) (A A1 : Option Addr) (zi : Int) (D : List Deferred) (v0 v1 v5 v6 v9 v10 v11 v12 v13 v14 v15 v16 v17 v18 v19 v20 v21 v22 v23 v24 v40 v41 v42 v43 v44 v45 v46 v47 : Value) (w0 : World) (l : Nat → Bool) (a : Act) (w : World) : Prop :=
  ∃ (y0 y1 y2 y3 y4 y5 y6 y7 y8 y9 y10 y11 y12 y13 y14 y15 : Value), a = { tmps := #[v0, v1, .slice A ln cw, .pointer (some ⟨ba, 0, none⟩), .pointer (some ⟨bb, 0, none⟩), v5, v6, y15, .int .i64 zi, v9, v10, v11, v12, v13, v14, v15, v16, v17, v18, v19, v20, v21, v22, v23, v24, y0, y1, y2, y3, y4, y5, y6, y7, y8, y9, y10, y11, y12, y13, y14, v40, v41, v42, v43, v44, v45, v46, v47], defers := D } ∧ Below w0.heap.size w0 w ∧
    (l 0 = true → y0 = .bool false) ∧ (l 1 = true → y1 = .bool false) ∧ (l 2 = true → y2 = .agg #[(.int .i64 pk), (.int .u64 ps0), (.int .u64 ps1), (.int .u64 ps2), (.int .u64 ps3), (.slice pa pn pc), (.int .i64 pl), (.int .i64 ph)]) ∧ (l 3 = true → y3 = .slice A ln cw) ∧ (l 4 = true → y4 = .int .i64 zi) ∧ (l 5 = true → y5 = .slice A1 l1 c1) ∧ (l 6 = true → y6 = .bool false) ∧ (l 7 = true → y7 = .bool false) ∧ (l 13 = true → y13 = .bool false) ∧ (l 14 = true → y14 = .bool false) ∧ (l 15 = true → y15 = .bool false) ∧ (l 0 = false → y15 = .bool false)
set_option maxHeartbeats 8000000 in
set_option maxRecDepth 100000 in
theorem regCb (pk ps0 ps1 ps2 ps3 pl ph : Int) (pa : Option Addr) (pn pc : Nat) (ba bb ln cw l1 c1 : Nat) (A A1 : Option Addr) (zi : Int) (D : List Deferred) (v0 v1 v5 v6 v9 v10 v11 v12 v13 v14 v15 v16 v17 v18 v19 v20 v21 v22 v23 v24 v40 v41 v42 v43 v44 v45 v46 v47 wy0 wy1 wy2 wy3 wy4 wy5 wy6 wy7 wy8 wy9 wy10 wy11 wy12 wy13 wy14 : Value) (w : World) (hx : (∀ w', Below w.heap.size w w' → w'.cell? ⟨ba, 0, none⟩ = some (.int .i64 pk) ∧ w'.cell? ⟨ba, 1, none⟩ = some (.int .u64 ps0) ∧ w'.cell? ⟨ba, 2, none⟩ = some (.int .u64 ps1) ∧ w'.cell? ⟨ba, 3, none⟩ = some (.int .u64 ps2) ∧ w'.cell? ⟨ba, 4, none⟩ = some (.int .u64 ps3) ∧ w'.cell? ⟨ba, 5, none⟩ = some (.slice pa pn pc) ∧ w'.cell? ⟨ba, 6, none⟩ = some (.int .i64 pl) ∧ w'.cell? ⟨ba, 7, none⟩ = some (.int .i64 ph))) (hs1 : ∀ W, (Instr.slice 28 (.slice A ln cw) none (some (.int .i64 zi)) none).run Tryd.prog W = .ok (.slice A1 l1 c1) W) (hc1 : ∀ w', Below w.heap.size w w' → Calls Tryd.prog 11 #[.agg #[(.int .i64 pk), (.int .u64 ps0), (.int .u64 ps1), (.int .u64 ps2), (.int .u64 ps3), (.slice pa pn pc), (.int .i64 pl), (.int .i64 ph)], .slice A1 l1 c1] w' fun e w2 => e = .returned (.bool false) ∧ Below w'.heap.size w' w2) (Q : Exit → Act → World → Prop)
    (hQ : ∀ (y0 y1 y2 y3 y4 y5 y6 y7 y8 y9 y10 y11 y12 y13 y14 : Value) (w' : World), Below w.heap.size w w' → Q .normal { tmps := #[v0, v1, .slice A ln cw, .pointer (some ⟨ba, 0, none⟩), .pointer (some ⟨bb, 0, none⟩), v5, v6, .bool false, .int .i64 zi, v9, v10, v11, v12, v13, v14, v15, v16, v17, v18, v19, v20, v21, v22, v23, v24, y0, y1, y2, y3, y4, y5, y6, y7, y8, y9, y10, y11, y12, y13, y14, v40, v41, v42, v43, v44, v45, v46, v47], defers := D } w') :
    (Code.region 7 opsregCa true).wp Tryd.prog Q { tmps := #[v0, v1, .slice A ln cw, .pointer (some ⟨ba, 0, none⟩), .pointer (some ⟨bb, 0, none⟩), v5, v6, .bool false, .int .i64 zi, v9, v10, v11, v12, v13, v14, v15, v16, v17, v18, v19, v20, v21, v22, v23, v24, wy0, wy1, wy2, wy3, wy4, wy5, wy6, wy7, wy8, wy9, wy10, wy11, wy12, wy13, wy14, v40, v41, v42, v43, v44, v45, v46, v47], defers := D } w := by
  refine wp_region_inv (by kernel_rfl) (WregCb pk ps0 ps1 ps2 ps3 pl ph pa pn pc ba bb ln cw l1 c1 A A1 zi D v0 v1 v5 v6 v9 v10 v11 v12 v13 v14 v15 v16 v17 v18 v19 v20 v21 v22 v23 v24 v40 v41 v42 v43 v44 v45 v46 v47 w) ?hacy ?h0 ?hstep ?hdone
  case hacy => kernel_rfl
  case h0 => exact ⟨wy0, wy1, wy2, wy3, wy4, wy5, wy6, wy7, wy8, wy9, wy10, wy11, wy12, wy13, wy14, .bool false, rfl, below_drewN (Below.refl _ _) 1, (fun p => by cases p), (fun p => by cases p), (fun p => by cases p), (fun p => by cases p), (fun p => by cases p), (fun p => by cases p), (fun p => by cases p), (fun p => by cases p), (fun p => by cases p), (fun p => by cases p), (fun p => by cases p), (fun _ => rfl)⟩
  case hdone =>
    intro l a w1 hI hall
    obtain ⟨y0, y1, y2, y3, y4, y5, y6, y7, y8, y9, y10, y11, y12, y13, y14, y15, rfl, hb, h0, h1, h2, h3, h4, h5, h6, h7, h13, h14, h15, hO⟩ := hI
    obtain rfl := h15 (hall 15 (by decide))
    exact hQ _ _ _ _ _ _ _ _ _ _ _ _ _ _ _ _ hb 
  case hstep =>
    intro l a w1 i o hI ho hl hall
    obtain ⟨y0, y1, y2, y3, y4, y5, y6, y7, y8, y9, y10, y11, y12, y13, y14, y15, rfl, hb, h0, h1, h2, h3, h4, h5, h6, h7, h13, h14, h15, hO⟩ := hI
    have hi : i < 16 := (Array.getElem?_eq_some_iff.1 ho).1
    match i, hi with
    | 0, _ =>
      have ho' := ho
      simp [opsregCa] at ho
      subst ho
      obtain rfl := hO hl
      refine wpOp_one ho' rfl fun K hK => ?_
      go_simp
      exact hK _ _ ⟨_, y1, y2, y3, y4, y5, y6, y7, y8, y9, y10, y11, y12, y13, y14, _, rfl, hb, fun _ => (by first | rfl | simp), h1, h2, h3, h4, h5, h6, h7, h13, h14, h15, (fun q => absurd q (by simp [upd]))⟩
    | 1, _ =>
      have ho' := ho
      simp [opsregCa] at ho
      subst ho
      obtain rfl := h0 (hall ⟨0, .data⟩ (by simp) rfl)
      refine wpOp_one ho' rfl fun K hK => ?_
      go_simp
      exact hK _ _ ⟨_, _, y2, y3, y4, y5, y6, y7, y8, y9, y10, y11, y12, y13, y14, y15, rfl, hb, fun _ => rfl, fun _ => (by first | rfl | simp), h2, h3, h4, h5, h6, h7, h13, h14, h15, hO⟩
    | 2, _ =>
      have ho' := ho
      simp [opsregCa] at ho
      subst ho
      obtain rfl := h1 (hall ⟨1, .guard⟩ (by simp) rfl)
      refine wpOp_on ho' rfl fun K hK => ?_
      obtain ⟨x0, x1, x2, x3, x4, x5, x6, x7⟩ := hx w1 hb
      go_simp
      exact hK _ _ ⟨y0, _, _, y3, y4, y5, y6, y7, y8, y9, y10, y11, y12, y13, y14, y15, rfl, hb, h0, fun _ => rfl, fun _ => (by first | rfl | simp), h3, h4, h5, h6, h7, h13, h14, h15, hO⟩
    | 3, _ =>
      have ho' := ho
      simp [opsregCa] at ho
      subst ho
      obtain rfl := h1 (hall ⟨1, .guard⟩ (by simp) rfl)
      refine wpOp_on ho' rfl fun K hK => ?_
      go_simp
      exact hK _ _ ⟨y0, _, y2, _, y4, y5, y6, y7, y8, y9, y10, y11, y12, y13, y14, y15, rfl, hb, h0, fun _ => rfl, h2, fun _ => (by first | rfl | simp), h4, h5, h6, h7, h13, h14, h15, hO⟩
    | 4, _ =>
      have ho' := ho
      simp [opsregCa] at ho
      subst ho
      obtain rfl := h1 (hall ⟨1, .guard⟩ (by simp) rfl)
      refine wpOp_on ho' rfl fun K hK => ?_
      go_simp
      exact hK _ _ ⟨y0, _, y2, y3, _, y5, y6, y7, y8, y9, y10, y11, y12, y13, y14, y15, rfl, hb, h0, fun _ => rfl, h2, h3, fun _ => (by first | rfl | simp), h5, h6, h7, h13, h14, h15, hO⟩
    | 5, _ =>
      have ho' := ho
      simp [opsregCa] at ho
      subst ho
      obtain rfl := h1 (hall ⟨1, .guard⟩ (by simp) rfl)
      obtain rfl := h3 (hall ⟨3, .data⟩ (by simp) rfl)
      obtain rfl := h4 (hall ⟨4, .data⟩ (by simp) rfl)
      refine wpOp_on ho' rfl fun K hK => ?_
      go_simp
      exact hK _ _ ⟨y0, _, y2, _, _, _, y6, y7, y8, y9, y10, y11, y12, y13, y14, y15, rfl, hb, h0, fun _ => rfl, h2, fun _ => rfl, fun _ => rfl, fun _ => (by first | rfl | simp), h6, h7, h13, h14, h15, hO⟩
    | 6, _ =>
      have ho' := ho
      simp [opsregCa] at ho
      subst ho
      obtain rfl := h1 (hall ⟨1, .chain⟩ (by simp) rfl)
      obtain rfl := h2 (hall ⟨2, .data⟩ (by simp) rfl)
      obtain rfl := h5 (hall ⟨5, .data⟩ (by simp) rfl)
      refine wpOp_on ho' rfl fun K hK => ?_
      go_simp
      go_at_call 11
      refine (hc1 _ hb).mono ?_
      rintro e w2 ⟨rfl, hb2⟩
      exact hK _ _ ⟨y0, _, _, y3, y4, _, _, y7, y8, y9, y10, y11, y12, y13, y14, y15, rfl, (hb.trans (hb2.mono hb.size)), h0, fun _ => rfl, fun _ => rfl, h3, h4, fun _ => rfl, fun _ => (by first | rfl | simp), h7, h13, h14, h15, hO⟩
    | 7, _ =>
      have ho' := ho
      simp [opsregCa] at ho
      subst ho
      obtain rfl := h1 (hall ⟨1, .guard⟩ (by simp) rfl)
      obtain rfl := h6 (hall ⟨6, .data⟩ (by simp) rfl)
      refine wpOp_on ho' rfl fun K hK => ?_
      go_simp
      exact hK _ _ ⟨y0, _, y2, y3, y4, y5, _, _, y8, y9, y10, y11, y12, y13, y14, y15, rfl, hb, h0, fun _ => rfl, h2, h3, h4, h5, fun _ => rfl, fun _ => (by first | rfl | simp), h13, h14, h15, hO⟩
    | 8, _ =>
      have ho' := ho
      simp [opsregCa] at ho
      subst ho
      obtain rfl := h7 (hall ⟨7, .guard⟩ (by simp) rfl)
      refine wpOq_off ho' rfl ?_
      exact ⟨y0, y1, y2, y3, y4, y5, y6, _, _, y9, y10, y11, y12, y13, y14, y15, rfl, hb, h0, h1, h2, h3, h4, h5, h6, fun _ => rfl, h13, h14, h15, hO⟩
    | 9, _ =>
      have ho' := ho
      simp [opsregCa] at ho
      subst ho
      obtain rfl := h7 (hall ⟨7, .guard⟩ (by simp) rfl)
      refine wpOq_off ho' rfl ?_
      exact ⟨y0, y1, y2, y3, y4, y5, y6, _, y8, _, y10, y11, y12, y13, y14, y15, rfl, hb, h0, h1, h2, h3, h4, h5, h6, fun _ => rfl, h13, h14, h15, hO⟩
    | 10, _ =>
      have ho' := ho
      simp [opsregCa] at ho
      subst ho
      obtain rfl := h7 (hall ⟨7, .guard⟩ (by simp) rfl)
      refine wpOq_off ho' rfl ?_
      exact ⟨y0, y1, y2, y3, y4, y5, y6, _, y8, y9, _, y11, y12, y13, y14, y15, rfl, hb, h0, h1, h2, h3, h4, h5, h6, fun _ => rfl, h13, h14, h15, hO⟩
    | 11, _ =>
      have ho' := ho
      simp [opsregCa] at ho
      subst ho
      obtain rfl := h7 (hall ⟨7, .guard⟩ (by simp) rfl)
      refine wpOq_off ho' rfl ?_
      exact ⟨y0, y1, y2, y3, y4, y5, y6, _, y8, y9, y10, _, y12, y13, y14, y15, rfl, hb, h0, h1, h2, h3, h4, h5, h6, fun _ => rfl, h13, h14, h15, hO⟩
    | 12, _ =>
      have ho' := ho
      simp [opsregCa] at ho
      subst ho
      obtain rfl := h7 (hall ⟨7, .chain⟩ (by simp) rfl)
      refine wpOq_off ho' rfl ?_
      exact ⟨y0, y1, y2, y3, y4, y5, y6, _, y8, y9, y10, y11, _, y13, y14, y15, rfl, hb, h0, h1, h2, h3, h4, h5, h6, fun _ => rfl, h13, h14, h15, hO⟩
    | 13, _ =>
      have ho' := ho
      simp [opsregCa] at ho
      subst ho
      obtain rfl := h1 (hall ⟨1, .guard⟩ (by simp) rfl)
      obtain rfl := h7 (hall ⟨7, .data⟩ (by simp) rfl)
      refine wpOp_on ho' rfl fun K hK => ?_
      go_simp
      exact hK _ _ ⟨y0, _, y2, y3, y4, y5, y6, _, y8, y9, y10, y11, y12, _, y14, y15, rfl, hb, h0, fun _ => rfl, h2, h3, h4, h5, h6, fun _ => rfl, fun _ => (by first | rfl | simp), h14, h15, hO⟩
    | 14, _ =>
      have ho' := ho
      simp [opsregCa] at ho
      subst ho
      obtain rfl := h1 (hall ⟨1, .data⟩ (by simp) rfl)
      obtain rfl := h13 (hall ⟨13, .data⟩ (by simp) rfl)
      refine wpOp_one ho' rfl fun K hK => ?_
      go_simp
      exact hK _ _ ⟨y0, _, y2, y3, y4, y5, y6, y7, y8, y9, y10, y11, y12, _, _, y15, rfl, hb, h0, fun _ => rfl, h2, h3, h4, h5, h6, h7, fun _ => rfl, fun _ => (by first | rfl | simp), h15, hO⟩
    | 15, _ =>
      have ho' := ho
      simp [opsregCa] at ho
      subst ho
      obtain rfl := h14 (hall ⟨14, .data⟩ (by simp) rfl)
      refine wpOp_one ho' rfl fun K hK => ?_
      go_simp
      exact hK _ _ ⟨y0, y1, y2, y3, y4, y5, y6, y7, y8, y9, y10, y11, y12, y13, _, _, rfl, hb, h0, h1, h2, h3, h4, h5, h6, h7, h13, fun _ => rfl, fun _ => (by first | rfl | simp), (fun (q : l 0 = false) => absurd (show l 0 = true from hall ⟨0, .phase⟩ (by simp) rfl) (by rw [q]; decide))⟩
    | k + 16, hi => omega

def WregCc (pk ps0 ps1 ps2 ps3 pl ph : Int) (pa : Option Addr) (pn pc : Nat) (qk qs0 qs1 qs2 qs3 ql qh : Int) (qa : Option Addr) (qn qc : Nat) (ba bb ln cw l1 c1 l2 c2 : Nat) (A A1 A2 : Option Addr) (zi : Int) (b2 : Bool) (D : List Deferred) (v0 v1 v5 v6 v9 v10 v11 v12 v13 v14 v15 v16 v17 v18 v19 v20 v21 v22 v23 v24 v40 v41 v42 v43 v44 v45 v46 v47 : Value) (w0 : World) (l : Nat → Bool) (a : Act) (w : World) : Prop :=
  ∃ (y0 y1 y2 y3 y4 y5 y6 y7 y8 y9 y10 y11 y12 y13 y14 y15 : Value), a = { tmps := #[v0, v1, .slice A ln cw, .pointer (some ⟨ba, 0, none⟩), .pointer (some ⟨bb, 0, none⟩), v5, v6, y15, .int .i64 zi, v9, v10, v11, v12, v13, v14, v15, v16, v17, v18, v19, v20, v21, v22, v23, v24, y0, y1, y2, y3, y4, y5, y6, y7, y8, y9, y10, y11, y12, y13, y14, v40, v41, v42, v43, v44, v45, v46, v47], defers := D } ∧ Below w0.heap.size w0 w ∧
    (l 0 = true → y0 = .bool false) ∧ (l 1 = true → y1 = .bool false) ∧ (l 2 = true → y2 = .agg #[(.int .i64 pk), (.int .u64 ps0), (.int .u64 ps1), (.int .u64 ps2), (.int .u64 ps3), (.slice pa pn pc), (.int .i64 pl), (.int .i64 ph)]) ∧ (l 3 = true → y3 = .slice A ln cw) ∧ (l 4 = true → y4 = .int .i64 zi) ∧ (l 5 = true → y5 = .slice A1 l1 c1) ∧ (l 6 = true → y6 = .bool true) ∧ (l 7 = true → y7 = .bool true) ∧ (l 8 = true → y8 = .agg #[(.int .i64 qk), (.int .u64 qs0), (.int .u64 qs1), (.int .u64 qs2), (.int .u64 qs3), (.slice qa qn qc), (.int .i64 ql), (.int .i64 qh)]) ∧ (l 9 = true → y9 = .slice A ln cw) ∧ (l 10 = true → y10 = .int .i64 zi) ∧ (l 11 = true → y11 = .slice A2 l2 c2) ∧ (l 12 = true → y12 = .bool b2) ∧ (l 13 = true → y13 = .bool b2) ∧ (l 14 = true → y14 = .bool b2) ∧ (l 15 = true → y15 = .bool b2) ∧ (l 0 = false → y15 = .bool false)
set_option maxHeartbeats 8000000 in
set_option maxRecDepth 100000 in
theorem regCc (pk ps0 ps1 ps2 ps3 pl ph : Int) (pa : Option Addr) (pn pc : Nat) (qk qs0 qs1 qs2 qs3 ql qh : Int) (qa : Option Addr) (qn qc : Nat) (ba bb ln cw l1 c1 l2 c2 : Nat) (A A1 A2 : Option Addr) (zi : Int) (b2 : Bool) (D : List Deferred) (v0 v1 v5 v6 v9 v10 v11 v12 v13 v14 v15 v16 v17 v18 v19 v20 v21 v22 v23 v24 v40 v41 v42 v43 v44 v45 v46 v47 wy0 wy1 wy2 wy3 wy4 wy5 wy6 wy7 wy8 wy9 wy10 wy11 wy12 wy13 wy14 : Value) (w : World) (hx : (∀ w', Below w.heap.size w w' → w'.cell? ⟨ba, 0, none⟩ = some (.int .i64 pk) ∧ w'.cell? ⟨ba, 1, none⟩ = some (.int .u64 ps0) ∧ w'.cell? ⟨ba, 2, none⟩ = some (.int .u64 ps1) ∧ w'.cell? ⟨ba, 3, none⟩ = some (.int .u64 ps2) ∧ w'.cell? ⟨ba, 4, none⟩ = some (.int .u64 ps3) ∧ w'.cell? ⟨ba, 5, none⟩ = some (.slice pa pn pc) ∧ w'.cell? ⟨ba, 6, none⟩ = some (.int .i64 pl) ∧ w'.cell? ⟨ba, 7, none⟩ = some (.int .i64 ph))) (hs1 : ∀ W, (Instr.slice 28 (.slice A ln cw) none (some (.int .i64 zi)) none).run Tryd.prog W = .ok (.slice A1 l1 c1) W) (hc1 : ∀ w', Below w.heap.size w w' → Calls Tryd.prog 11 #[.agg #[(.int .i64 pk), (.int .u64 ps0), (.int .u64 ps1), (.int .u64 ps2), (.int .u64 ps3), (.slice pa pn pc), (.int .i64 pl), (.int .i64 ph)], .slice A1 l1 c1] w' fun e w2 => e = .returned (.bool true) ∧ Below w'.heap.size w' w2) (hy : (∀ w', Below w.heap.size w w' → w'.cell? ⟨bb, 0, none⟩ = some (.int .i64 qk) ∧ w'.cell? ⟨bb, 1, none⟩ = some (.int .u64 qs0) ∧ w'.cell? ⟨bb, 2, none⟩ = some (.int .u64 qs1) ∧ w'.cell? ⟨bb, 3, none⟩ = some (.int .u64 qs2) ∧ w'.cell? ⟨bb, 4, none⟩ = some (.int .u64 qs3) ∧ w'.cell? ⟨bb, 5, none⟩ = some (.slice qa qn qc) ∧ w'.cell? ⟨bb, 6, none⟩ = some (.int .i64 ql) ∧ w'.cell? ⟨bb, 7, none⟩ = some (.int .i64 qh))) (hs2 : ∀ W, (Instr.slice 28 (.slice A ln cw) (some (.int .i64 zi)) none none).run Tryd.prog W = .ok (.slice A2 l2 c2) W) (hc2 : ∀ w', Below w.heap.size w w' → Calls Tryd.prog 11 #[.agg #[(.int .i64 qk), (.int .u64 qs0), (.int .u64 qs1), (.int .u64 qs2), (.int .u64 qs3), (.slice qa qn qc), (.int .i64 ql), (.int .i64 qh)], .slice A2 l2 c2] w' fun e w2 => e = .returned (.bool b2) ∧ Below w'.heap.size w' w2) (Q : Exit → Act → World → Prop)
    (hQ : ∀ (y0 y1 y2 y3 y4 y5 y6 y7 y8 y9 y10 y11 y12 y13 y14 : Value) (w' : World), Below w.heap.size w w' → Q .normal { tmps := #[v0, v1, .slice A ln cw, .pointer (some ⟨ba, 0, none⟩), .pointer (some ⟨bb, 0, none⟩), v5, v6, .bool b2, .int .i64 zi, v9, v10, v11, v12, v13, v14, v15, v16, v17, v18, v19, v20, v21, v22, v23, v24, y0, y1, y2, y3, y4, y5, y6, y7, y8, y9, y10, y11, y12, y13, y14, v40, v41, v42, v43, v44, v45, v46, v47], defers := D } w') :
    (Code.region 7 opsregCa true).wp Tryd.prog Q { tmps := #[v0, v1, .slice A ln cw, .pointer (some ⟨ba, 0, none⟩), .pointer (some ⟨bb, 0, none⟩), v5, v6, .bool false, .int .i64 zi, v9, v10, v11, v12, v13, v14, v15, v16, v17, v18, v19, v20, v21, v22, v23, v24, wy0, wy1, wy2, wy3, wy4, wy5, wy6, wy7, wy8, wy9, wy10, wy11, wy12, wy13, wy14, v40, v41, v42, v43, v44, v45, v46, v47], defers := D } w := by
  refine wp_region_inv (by kernel_rfl) (WregCc pk ps0 ps1 ps2 ps3 pl ph pa pn pc qk qs0 qs1 qs2 qs3 ql qh qa qn qc ba bb ln cw l1 c1 l2 c2 A A1 A2 zi b2 D v0 v1 v5 v6 v9 v10 v11 v12 v13 v14 v15 v16 v17 v18 v19 v20 v21 v22 v23 v24 v40 v41 v42 v43 v44 v45 v46 v47 w) ?hacy ?h0 ?hstep ?hdone
  case hacy => kernel_rfl
  case h0 => exact ⟨wy0, wy1, wy2, wy3, wy4, wy5, wy6, wy7, wy8, wy9, wy10, wy11, wy12, wy13, wy14, .bool false, rfl, below_drewN (Below.refl _ _) 1, (fun p => by cases p), (fun p => by cases p), (fun p => by cases p), (fun p => by cases p), (fun p => by cases p), (fun p => by cases p), (fun p => by cases p), (fun p => by cases p), (fun p => by cases p), (fun p => by cases p), (fun p => by cases p), (fun p => by cases p), (fun p => by cases p), (fun p => by cases p), (fun p => by cases p), (fun p => by cases p), (fun _ => rfl)⟩
  case hdone =>
    intro l a w1 hI hall
    obtain ⟨y0, y1, y2, y3, y4, y5, y6, y7, y8, y9, y10, y11, y12, y13, y14, y15, rfl, hb, h0, h1, h2, h3, h4, h5, h6, h7, h8, h9, h10, h11, h12, h13, h14, h15, hO⟩ := hI
    obtain rfl := h15 (hall 15 (by decide))
    exact hQ _ _ _ _ _ _ _ _ _ _ _ _ _ _ _ _ hb 
  case hstep =>
    intro l a w1 i o hI ho hl hall
    obtain ⟨y0, y1, y2, y3, y4, y5, y6, y7, y8, y9, y10, y11, y12, y13, y14, y15, rfl, hb, h0, h1, h2, h3, h4, h5, h6, h7, h8, h9, h10, h11, h12, h13, h14, h15, hO⟩ := hI
    have hi : i < 16 := (Array.getElem?_eq_some_iff.1 ho).1
    match i, hi with
    | 0, _ =>
      have ho' := ho
      simp [opsregCa] at ho
      subst ho
      obtain rfl := hO hl
      refine wpOp_one ho' rfl fun K hK => ?_
      go_simp
      exact hK _ _ ⟨_, y1, y2, y3, y4, y5, y6, y7, y8, y9, y10, y11, y12, y13, y14, _, rfl, hb, fun _ => (by first | rfl | simp), h1, h2, h3, h4, h5, h6, h7, h8, h9, h10, h11, h12, h13, h14, h15, (fun q => absurd q (by simp [upd]))⟩
    | 1, _ =>
      have ho' := ho
      simp [opsregCa] at ho
      subst ho
      obtain rfl := h0 (hall ⟨0, .data⟩ (by simp) rfl)
      refine wpOp_one ho' rfl fun K hK => ?_
      go_simp
      exact hK _ _ ⟨_, _, y2, y3, y4, y5, y6, y7, y8, y9, y10, y11, y12, y13, y14, y15, rfl, hb, fun _ => rfl, fun _ => (by first | rfl | simp), h2, h3, h4, h5, h6, h7, h8, h9, h10, h11, h12, h13, h14, h15, hO⟩
    | 2, _ =>
      have ho' := ho
      simp [opsregCa] at ho
      subst ho
      obtain rfl := h1 (hall ⟨1, .guard⟩ (by simp) rfl)
      refine wpOp_on ho' rfl fun K hK => ?_
      obtain ⟨x0, x1, x2, x3, x4, x5, x6, x7⟩ := hx w1 hb
      go_simp
      exact hK _ _ ⟨y0, _, _, y3, y4, y5, y6, y7, y8, y9, y10, y11, y12, y13, y14, y15, rfl, hb, h0, fun _ => rfl, fun _ => (by first | rfl | simp), h3, h4, h5, h6, h7, h8, h9, h10, h11, h12, h13, h14, h15, hO⟩
    | 3, _ =>
      have ho' := ho
      simp [opsregCa] at ho
      subst ho
      obtain rfl := h1 (hall ⟨1, .guard⟩ (by simp) rfl)
      refine wpOp_on ho' rfl fun K hK => ?_
      go_simp
      exact hK _ _ ⟨y0, _, y2, _, y4, y5, y6, y7, y8, y9, y10, y11, y12, y13, y14, y15, rfl, hb, h0, fun _ => rfl, h2, fun _ => (by first | rfl | simp), h4, h5, h6, h7, h8, h9, h10, h11, h12, h13, h14, h15, hO⟩
    | 4, _ =>
      have ho' := ho
      simp [opsregCa] at ho
      subst ho
      obtain rfl := h1 (hall ⟨1, .guard⟩ (by simp) rfl)
      refine wpOp_on ho' rfl fun K hK => ?_
      go_simp
      exact hK _ _ ⟨y0, _, y2, y3, _, y5, y6, y7, y8, y9, y10, y11, y12, y13, y14, y15, rfl, hb, h0, fun _ => rfl, h2, h3, fun _ => (by first | rfl | simp), h5, h6, h7, h8, h9, h10, h11, h12, h13, h14, h15, hO⟩
    | 5, _ =>
      have ho' := ho
      simp [opsregCa] at ho
      subst ho
      obtain rfl := h1 (hall ⟨1, .guard⟩ (by simp) rfl)
      obtain rfl := h3 (hall ⟨3, .data⟩ (by simp) rfl)
      obtain rfl := h4 (hall ⟨4, .data⟩ (by simp) rfl)
      refine wpOp_on ho' rfl fun K hK => ?_
      go_simp
      exact hK _ _ ⟨y0, _, y2, _, _, _, y6, y7, y8, y9, y10, y11, y12, y13, y14, y15, rfl, hb, h0, fun _ => rfl, h2, fun _ => rfl, fun _ => rfl, fun _ => (by first | rfl | simp), h6, h7, h8, h9, h10, h11, h12, h13, h14, h15, hO⟩
    | 6, _ =>
      have ho' := ho
      simp [opsregCa] at ho
      subst ho
      obtain rfl := h1 (hall ⟨1, .chain⟩ (by simp) rfl)
      obtain rfl := h2 (hall ⟨2, .data⟩ (by simp) rfl)
      obtain rfl := h5 (hall ⟨5, .data⟩ (by simp) rfl)
      refine wpOp_on ho' rfl fun K hK => ?_
      go_simp
      go_at_call 11
      refine (hc1 _ hb).mono ?_
      rintro e w2 ⟨rfl, hb2⟩
      exact hK _ _ ⟨y0, _, _, y3, y4, _, _, y7, y8, y9, y10, y11, y12, y13, y14, y15, rfl, (hb.trans (hb2.mono hb.size)), h0, fun _ => rfl, fun _ => rfl, h3, h4, fun _ => rfl, fun _ => (by first | rfl | simp), h7, h8, h9, h10, h11, h12, h13, h14, h15, hO⟩
    | 7, _ =>
      have ho' := ho
      simp [opsregCa] at ho
      subst ho
      obtain rfl := h1 (hall ⟨1, .guard⟩ (by simp) rfl)
      obtain rfl := h6 (hall ⟨6, .data⟩ (by simp) rfl)
      refine wpOp_on ho' rfl fun K hK => ?_
      go_simp
      exact hK _ _ ⟨y0, _, y2, y3, y4, y5, _, _, y8, y9, y10, y11, y12, y13, y14, y15, rfl, hb, h0, fun _ => rfl, h2, h3, h4, h5, fun _ => rfl, fun _ => (by first | rfl | simp), h8, h9, h10, h11, h12, h13, h14, h15, hO⟩
    | 8, _ =>
      have ho' := ho
      simp [opsregCa] at ho
      subst ho
      obtain rfl := h7 (hall ⟨7, .guard⟩ (by simp) rfl)
      refine wpOp_on ho' rfl fun K hK => ?_
      obtain ⟨x0, x1, x2, x3, x4, x5, x6, x7⟩ := hy w1 hb
      go_simp
      exact hK _ _ ⟨y0, y1, y2, y3, y4, y5, y6, _, _, y9, y10, y11, y12, y13, y14, y15, rfl, hb, h0, h1, h2, h3, h4, h5, h6, fun _ => rfl, fun _ => (by first | rfl | simp), h9, h10, h11, h12, h13, h14, h15, hO⟩
    | 9, _ =>
      have ho' := ho
      simp [opsregCa] at ho
      subst ho
      obtain rfl := h7 (hall ⟨7, .guard⟩ (by simp) rfl)
      refine wpOp_on ho' rfl fun K hK => ?_
      go_simp
      exact hK _ _ ⟨y0, y1, y2, y3, y4, y5, y6, _, y8, _, y10, y11, y12, y13, y14, y15, rfl, hb, h0, h1, h2, h3, h4, h5, h6, fun _ => rfl, h8, fun _ => (by first | rfl | simp), h10, h11, h12, h13, h14, h15, hO⟩
    | 10, _ =>
      have ho' := ho
      simp [opsregCa] at ho
      subst ho
      obtain rfl := h7 (hall ⟨7, .guard⟩ (by simp) rfl)
      refine wpOp_on ho' rfl fun K hK => ?_
      go_simp
      exact hK _ _ ⟨y0, y1, y2, y3, y4, y5, y6, _, y8, y9, _, y11, y12, y13, y14, y15, rfl, hb, h0, h1, h2, h3, h4, h5, h6, fun _ => rfl, h8, h9, fun _ => (by first | rfl | simp), h11, h12, h13, h14, h15, hO⟩
    | 11, _ =>
      have ho' := ho
      simp [opsregCa] at ho
      subst ho
      obtain rfl := h7 (hall ⟨7, .guard⟩ (by simp) rfl)
      obtain rfl := h9 (hall ⟨9, .data⟩ (by simp) rfl)
      obtain rfl := h10 (hall ⟨10, .data⟩ (by simp) rfl)
      refine wpOp_on ho' rfl fun K hK => ?_
      go_simp
      exact hK _ _ ⟨y0, y1, y2, y3, y4, y5, y6, _, y8, _, _, _, y12, y13, y14, y15, rfl, hb, h0, h1, h2, h3, h4, h5, h6, fun _ => rfl, h8, fun _ => rfl, fun _ => rfl, fun _ => (by first | rfl | simp), h12, h13, h14, h15, hO⟩
    | 12, _ =>
      have ho' := ho
      simp [opsregCa] at ho
      subst ho
      obtain rfl := h7 (hall ⟨7, .chain⟩ (by simp) rfl)
      obtain rfl := h8 (hall ⟨8, .data⟩ (by simp) rfl)
      obtain rfl := h11 (hall ⟨11, .data⟩ (by simp) rfl)
      refine wpOp_on ho' rfl fun K hK => ?_
      go_simp
      go_at_call 11
      refine (hc2 _ hb).mono ?_
      rintro e w2 ⟨rfl, hb2⟩
      exact hK _ _ ⟨y0, y1, y2, y3, y4, y5, y6, _, _, y9, y10, _, _, y13, y14, y15, rfl, (hb.trans (hb2.mono hb.size)), h0, h1, h2, h3, h4, h5, h6, fun _ => rfl, fun _ => rfl, h9, h10, fun _ => rfl, fun _ => (by first | rfl | simp), h13, h14, h15, hO⟩
    | 13, _ =>
      have ho' := ho
      simp [opsregCa] at ho
      subst ho
      obtain rfl := h1 (hall ⟨1, .guard⟩ (by simp) rfl)
      obtain rfl := h7 (hall ⟨7, .data⟩ (by simp) rfl)
      obtain rfl := h12 (hall ⟨12, .data⟩ (by simp) rfl)
      refine wpOp_on ho' rfl fun K hK => ?_
      go_simp
      exact hK _ _ ⟨y0, _, y2, y3, y4, y5, y6, _, y8, y9, y10, y11, _, _, y14, y15, rfl, hb, h0, fun _ => rfl, h2, h3, h4, h5, h6, fun _ => rfl, h8, h9, h10, h11, fun _ => rfl, fun _ => (by first | rfl | simp), h14, h15, hO⟩
    | 14, _ =>
      have ho' := ho
      simp [opsregCa] at ho
      subst ho
      obtain rfl := h1 (hall ⟨1, .data⟩ (by simp) rfl)
      obtain rfl := h13 (hall ⟨13, .data⟩ (by simp) rfl)
      refine wpOp_one ho' rfl fun K hK => ?_
      go_simp
      exact hK _ _ ⟨y0, _, y2, y3, y4, y5, y6, y7, y8, y9, y10, y11, y12, _, _, y15, rfl, hb, h0, fun _ => rfl, h2, h3, h4, h5, h6, h7, h8, h9, h10, h11, h12, fun _ => rfl, fun _ => (by first | rfl | simp), h15, hO⟩
    | 15, _ =>
      have ho' := ho
      simp [opsregCa] at ho
      subst ho
      obtain rfl := h14 (hall ⟨14, .data⟩ (by simp) rfl)
      refine wpOp_one ho' rfl fun K hK => ?_
      go_simp
      exact hK _ _ ⟨y0, y1, y2, y3, y4, y5, y6, y7, y8, y9, y10, y11, y12, y13, _, _, rfl, hb, h0, h1, h2, h3, h4, h5, h6, h7, h8, h9, h10, h11, h12, h13, fun _ => rfl, fun _ => (by first | rfl | simp), (fun (q : l 0 = false) => absurd (show l 0 = true from hall ⟨0, .phase⟩ (by simp) rfl) (by rw [q]; decide))⟩
    | k + 16, hi => omega


end Go.Proofs.YtdjddmkmcdfmiaaDoor
