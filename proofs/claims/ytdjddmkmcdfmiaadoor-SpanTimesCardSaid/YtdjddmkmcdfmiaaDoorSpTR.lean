/- A drawn region of the walk of SpanTimes.
   Conditions: what they load lies in memory; the contract of what they call. -/
import Derived.Test.YtdjddmkmcdfmiaaDoorSpTO
import Derived.Test.YtdjddmkmcdfmiaaDoorOrdX
import Derived.WalkKit
import Derived.KernelRfl

namespace Go.Proofs.YtdjddmkmcdfmiaaDoor
open Go.RowKit Go.Shelf
abbrev opsregTi : Array Oper := #[{ dst := some 40, op := Op.load 27 (Operand.tmp 3), type := 27, pos := "again.go:53", after := #[], guard := none },
  { dst := some 41, op := Op.move (Operand.tmp 7), type := 2, pos := "again.go:53", after := #[], guard := none },
  { dst := some 42, op := Op.move (Operand.tmp 8), type := 2, pos := "again.go:53", after := #[], guard := none },
  { dst := some 43, op := Op.binOp BinOp.add 2 (Operand.tmp 41) (Operand.tmp 42) 2, type := 2, pos := "again.go:53", after := #[{ on := 1, ground := Ground.data }, { on := 2, ground := Ground.data }], guard := none },
  { dst := some 44, op := Op.call { callee := Callee.value (Operand.func 12), args := #[Operand.tmp 40, Operand.tmp 43], argTypes := #[27, 2] }, type := 27, pos := "again.go:53", after := #[{ on := 0, ground := Ground.data }, { on := 3, ground := Ground.data }], guard := none },
  { dst := some 45, op := Op.move (Operand.tmp 1), type := 28, pos := "again.go:53", after := #[], guard := none },
  { dst := some 46, op := Op.call { callee := Callee.value (Operand.func 11), args := #[Operand.tmp 44, Operand.tmp 45], argTypes := #[27, 28] }, type := 4, pos := "again.go:53", after := #[{ on := 4, ground := Ground.data }, { on := 5, ground := Ground.data }, { on := 4, ground := Ground.chain }], guard := none },
  { dst := some 47, op := Op.load 27 (Operand.tmp 9), type := 27, pos := "again.go:53", after := #[], guard := none },
  { dst := some 48, op := Op.load 27 (Operand.tmp 10), type := 27, pos := "again.go:53", after := #[], guard := none },
  { dst := some 49, op := Op.buildSlice 25 2 #[(0, Operand.tmp 47), (1, Operand.tmp 48)], type := 25, pos := "again.go:53", after := #[{ on := 7, ground := Ground.data }, { on := 8, ground := Ground.data }], guard := none },
  { dst := some 50, op := Op.build 27 #[(0, Operand.const (Value.int IntKind.i64 2)), (2, Operand.tmp 49)], type := 27, pos := "again.go:53", after := #[{ on := 9, ground := Ground.data }], guard := none },
  { dst := some 51, op := Op.move (Operand.tmp 1), type := 28, pos := "again.go:53", after := #[], guard := none },
  { dst := some 52, op := Op.call { callee := Callee.value (Operand.func 11), args := #[Operand.tmp 50, Operand.tmp 51], argTypes := #[27, 28] }, type := 4, pos := "again.go:53", after := #[{ on := 10, ground := Ground.data }, { on := 11, ground := Ground.data }, { on := 6, ground := Ground.chain }], guard := none },
  { dst := some 53, op := Op.binOp BinOp.eql 4 (Operand.tmp 46) (Operand.tmp 52) 4, type := 4, pos := "again.go:53", after := #[{ on := 6, ground := Ground.data }, { on := 12, ground := Ground.data }], guard := none },
  { dst := some 6, op := Op.assign (Operand.tmp 53), type := 4, pos := "again.go:53", after := #[{ on := 13, ground := Ground.data }, { on := 12, ground := Ground.chain }, { on := 0, ground := Ground.phase }, { on := 1, ground := Ground.phase }, { on := 2, ground := Ground.phase }, { on := 3, ground := Ground.phase }, { on := 4, ground := Ground.phase }, { on := 5, ground := Ground.phase }, { on := 6, ground := Ground.phase }, { on := 7, ground := Ground.phase }, { on := 8, ground := Ground.phase }, { on := 9, ground := Ground.phase }, { on := 10, ground := Ground.phase }, { on := 11, ground := Ground.phase }, { on := 12, ground := Ground.phase }, { on := 13, ground := Ground.phase }], guard := none }]
def WregTi (pk ps0 ps1 ps2 ps3 pl ph : Int) (pa : Option Addr) (pn pc : Nat) (qk qs0 qs1 qs2 qs3 ql qh : Int) (qa : Option Addr) (qn qc : Nat) (rk rs0 rs1 rs2 rs3 rl rh : Int) (ra : Option Addr) (rn rc : Nat) (ba bb bt ln cw : Nat) (A : Option Addr) (za zb zc : Int) (b0 : Bool) (D : List Deferred) (v0 v2 v4 v5 v11 v12 v13 v14 v15 v16 v17 v18 v19 v20 v21 v22 v23 v24 v25 v26 v27 v28 v29 v30 v31 v32 v33 v34 v35 v36 v37 v38 v39 : Value) (w0 : World) (l : Nat → Bool) (a : Act) (w : World) : Prop :=
  ∃ (y0 y1 y2 y3 y4 y5 y6 y7 y8 y9 y10 y11 y12 y13 y14 : Value), a = { tmps := #[v0, .slice A ln cw, v2, .pointer (some ⟨bt, 0, none⟩), v4, v5, y14, .int .i64 za, .int .i64 zb, .pointer (some ⟨ba, 0, none⟩), .pointer (some ⟨bb, 0, none⟩), v11, v12, v13, v14, v15, v16, v17, v18, v19, v20, v21, v22, v23, v24, v25, v26, v27, v28, v29, v30, v31, v32, v33, v34, v35, v36, v37, v38, v39, y0, y1, y2, y3, y4, y5, y6, y7, y8, y9, y10, y11, y12, y13], defers := D } ∧ Below w0.heap.size w0 w ∧
    (l 0 = true → y0 = .agg #[(.int .i64 rk), (.int .u64 rs0), (.int .u64 rs1), (.int .u64 rs2), (.int .u64 rs3), (.slice ra rn rc), (.int .i64 rl), (.int .i64 rh)]) ∧ (l 1 = true → y1 = .int .i64 za) ∧ (l 2 = true → y2 = .int .i64 zb) ∧ (l 3 = true → y3 = .int .i64 zc) ∧ (l 4 = true → RpP #[(.int .i64 rk), (.int .u64 rs0), (.int .u64 rs1), (.int .u64 rs2), (.int .u64 rs3), (.slice ra rn rc), (.int .i64 rl), (.int .i64 rh)] zc w y4) ∧ (l 5 = true → y5 = .slice A ln cw) ∧ (l 6 = true → y6 = .bool b0) ∧ (l 7 = true → y7 = .agg #[(.int .i64 pk), (.int .u64 ps0), (.int .u64 ps1), (.int .u64 ps2), (.int .u64 ps3), (.slice pa pn pc), (.int .i64 pl), (.int .i64 ph)]) ∧ (l 8 = true → y8 = .agg #[(.int .i64 qk), (.int .u64 qs0), (.int .u64 qs1), (.int .u64 qs2), (.int .u64 qs3), (.slice qa qn qc), (.int .i64 ql), (.int .i64 qh)]) ∧ (l 9 = true → SlcTwo #[(.int .i64 pk), (.int .u64 ps0), (.int .u64 ps1), (.int .u64 ps2), (.int .u64 ps3), (.slice pa pn pc), (.int .i64 pl), (.int .i64 ph), (.int .i64 qk), (.int .u64 qs0), (.int .u64 qs1), (.int .u64 qs2), (.int .u64 qs3), (.slice qa qn qc), (.int .i64 ql), (.int .i64 qh)] w y9) ∧ (l 10 = true → NdTwo 2 #[(.int .i64 pk), (.int .u64 ps0), (.int .u64 ps1), (.int .u64 ps2), (.int .u64 ps3), (.slice pa pn pc), (.int .i64 pl), (.int .i64 ph), (.int .i64 qk), (.int .u64 qs0), (.int .u64 qs1), (.int .u64 qs2), (.int .u64 qs3), (.slice qa qn qc), (.int .i64 ql), (.int .i64 qh)] w y10) ∧ (l 11 = true → y11 = .slice A ln cw) ∧ (l 12 = true → y12 = .bool b0) ∧ (l 13 = true → y13 = .bool true) ∧ (l 14 = true → y14 = .bool true)
set_option maxHeartbeats 8000000 in
set_option maxRecDepth 100000 in
theorem regTi (pk ps0 ps1 ps2 ps3 pl ph : Int) (pa : Option Addr) (pn pc : Nat) (qk qs0 qs1 qs2 qs3 ql qh : Int) (qa : Option Addr) (qn qc : Nat) (rk rs0 rs1 rs2 rs3 rl rh : Int) (ra : Option Addr) (rn rc : Nat) (ba bb bt ln cw : Nat) (A : Option Addr) (za zb zc : Int) (b0 : Bool) (D : List Deferred) (v0 v2 v4 v5 v11 v12 v13 v14 v15 v16 v17 v18 v19 v20 v21 v22 v23 v24 v25 v26 v27 v28 v29 v30 v31 v32 v33 v34 v35 v36 v37 v38 v39 wy0 wy1 wy2 wy3 wy4 wy5 wy6 wy7 wy8 wy9 wy10 wy11 wy12 wy13 wy14 : Value) (w : World) (hx : (∀ w', Below w.heap.size w w' → w'.cell? ⟨ba, 0, none⟩ = some (.int .i64 pk) ∧ w'.cell? ⟨ba, 1, none⟩ = some (.int .u64 ps0) ∧ w'.cell? ⟨ba, 2, none⟩ = some (.int .u64 ps1) ∧ w'.cell? ⟨ba, 3, none⟩ = some (.int .u64 ps2) ∧ w'.cell? ⟨ba, 4, none⟩ = some (.int .u64 ps3) ∧ w'.cell? ⟨ba, 5, none⟩ = some (.slice pa pn pc) ∧ w'.cell? ⟨ba, 6, none⟩ = some (.int .i64 pl) ∧ w'.cell? ⟨ba, 7, none⟩ = some (.int .i64 ph))) (hy : (∀ w', Below w.heap.size w w' → w'.cell? ⟨bb, 0, none⟩ = some (.int .i64 qk) ∧ w'.cell? ⟨bb, 1, none⟩ = some (.int .u64 qs0) ∧ w'.cell? ⟨bb, 2, none⟩ = some (.int .u64 qs1) ∧ w'.cell? ⟨bb, 3, none⟩ = some (.int .u64 qs2) ∧ w'.cell? ⟨bb, 4, none⟩ = some (.int .u64 qs3) ∧ w'.cell? ⟨bb, 5, none⟩ = some (.slice qa qn qc) ∧ w'.cell? ⟨bb, 6, none⟩ = some (.int .i64 ql) ∧ w'.cell? ⟨bb, 7, none⟩ = some (.int .i64 qh))) (hr : (∀ w', Below w.heap.size w w' → w'.cell? ⟨bt, 0, none⟩ = some (.int .i64 rk) ∧ w'.cell? ⟨bt, 1, none⟩ = some (.int .u64 rs0) ∧ w'.cell? ⟨bt, 2, none⟩ = some (.int .u64 rs1) ∧ w'.cell? ⟨bt, 3, none⟩ = some (.int .u64 rs2) ∧ w'.cell? ⟨bt, 4, none⟩ = some (.int .u64 rs3) ∧ w'.cell? ⟨bt, 5, none⟩ = some (.slice ra rn rc) ∧ w'.cell? ⟨bt, 6, none⟩ = some (.int .i64 rl) ∧ w'.cell? ⟨bt, 7, none⟩ = some (.int .i64 rh))) (hz : IntKind.i64.wrap (za + zb) = zc) (hc0 : ∀ w', Below w.heap.size w w' → Calls Tryd.prog 12 #[.agg #[(.int .i64 rk), (.int .u64 rs0), (.int .u64 rs1), (.int .u64 rs2), (.int .u64 rs3), (.slice ra rn rc), (.int .i64 rl), (.int .i64 rh)], .int .i64 zc] w' fun e w2 => ∃ v, e = .returned v ∧ RpP #[(.int .i64 rk), (.int .u64 rs0), (.int .u64 rs1), (.int .u64 rs2), (.int .u64 rs3), (.slice ra rn rc), (.int .i64 rl), (.int .i64 rh)] zc w2 v ∧ Below w'.heap.size w' w2) (hc1 : ∀ w' u, Below w.heap.size w w' → RpP #[(.int .i64 rk), (.int .u64 rs0), (.int .u64 rs1), (.int .u64 rs2), (.int .u64 rs3), (.slice ra rn rc), (.int .i64 rl), (.int .i64 rh)] zc w' u → Calls Tryd.prog 11 #[u, .slice A ln cw] w' fun e w2 => e = .returned (.bool b0) ∧ Below w'.heap.size w' w2) (hc2 : ∀ w' u, Below w.heap.size w w' → NdTwo 2 #[(.int .i64 pk), (.int .u64 ps0), (.int .u64 ps1), (.int .u64 ps2), (.int .u64 ps3), (.slice pa pn pc), (.int .i64 pl), (.int .i64 ph), (.int .i64 qk), (.int .u64 qs0), (.int .u64 qs1), (.int .u64 qs2), (.int .u64 qs3), (.slice qa qn qc), (.int .i64 ql), (.int .i64 qh)] w' u → Calls Tryd.prog 11 #[u, .slice A ln cw] w' fun e w2 => e = .returned (.bool b0) ∧ Below w'.heap.size w' w2) (Q : Exit → Act → World → Prop)
    (hQ : ∀ (y0 y1 y2 y3 y4 y5 y6 y7 y8 y9 y10 y11 y12 y13 : Value) (w' : World), Below w.heap.size w w' → Q .normal { tmps := #[v0, .slice A ln cw, v2, .pointer (some ⟨bt, 0, none⟩), v4, v5, .bool true, .int .i64 za, .int .i64 zb, .pointer (some ⟨ba, 0, none⟩), .pointer (some ⟨bb, 0, none⟩), v11, v12, v13, v14, v15, v16, v17, v18, v19, v20, v21, v22, v23, v24, v25, v26, v27, v28, v29, v30, v31, v32, v33, v34, v35, v36, v37, v38, v39, y0, y1, y2, y3, y4, y5, y6, y7, y8, y9, y10, y11, y12, y13], defers := D } w') :
    (Code.region 6 opsregTi true).wp Tryd.prog Q { tmps := #[v0, .slice A ln cw, v2, .pointer (some ⟨bt, 0, none⟩), v4, v5, wy14, .int .i64 za, .int .i64 zb, .pointer (some ⟨ba, 0, none⟩), .pointer (some ⟨bb, 0, none⟩), v11, v12, v13, v14, v15, v16, v17, v18, v19, v20, v21, v22, v23, v24, v25, v26, v27, v28, v29, v30, v31, v32, v33, v34, v35, v36, v37, v38, v39, wy0, wy1, wy2, wy3, wy4, wy5, wy6, wy7, wy8, wy9, wy10, wy11, wy12, wy13], defers := D } w := by
  refine wp_region_inv (by kernel_rfl) (WregTi pk ps0 ps1 ps2 ps3 pl ph pa pn pc qk qs0 qs1 qs2 qs3 ql qh qa qn qc rk rs0 rs1 rs2 rs3 rl rh ra rn rc ba bb bt ln cw A za zb zc b0 D v0 v2 v4 v5 v11 v12 v13 v14 v15 v16 v17 v18 v19 v20 v21 v22 v23 v24 v25 v26 v27 v28 v29 v30 v31 v32 v33 v34 v35 v36 v37 v38 v39 w) ?hacy ?h0 ?hstep ?hdone
  case hacy => kernel_rfl
  case h0 => exact ⟨wy0, wy1, wy2, wy3, wy4, wy5, wy6, wy7, wy8, wy9, wy10, wy11, wy12, wy13, wy14, rfl, below_drewN (Below.refl _ _) 1, (fun p => by cases p), (fun p => by cases p), (fun p => by cases p), (fun p => by cases p), (fun p => by cases p), (fun p => by cases p), (fun p => by cases p), (fun p => by cases p), (fun p => by cases p), (fun p => by cases p), (fun p => by cases p), (fun p => by cases p), (fun p => by cases p), (fun p => by cases p), (fun p => by cases p)⟩
  case hdone =>
    intro l a w1 hI hall
    obtain ⟨y0, y1, y2, y3, y4, y5, y6, y7, y8, y9, y10, y11, y12, y13, y14, rfl, hb, h0, h1, h2, h3, h4, h5, h6, h7, h8, h9, h10, h11, h12, h13, h14⟩ := hI
    obtain rfl := h14 (hall 14 (by decide))
    exact hQ _ _ _ _ _ _ _ _ _ _ _ _ _ _ _ hb 
  case hstep =>
    intro l a w1 i o hI ho hl hall
    obtain ⟨y0, y1, y2, y3, y4, y5, y6, y7, y8, y9, y10, y11, y12, y13, y14, rfl, hb, h0, h1, h2, h3, h4, h5, h6, h7, h8, h9, h10, h11, h12, h13, h14⟩ := hI
    have hi : i < 15 := (Array.getElem?_eq_some_iff.1 ho).1
    match i, hi with
    | 0, _ =>
      have ho' := ho
      simp [opsregTi] at ho
      subst ho
      refine wpOp_one ho' rfl fun K hK => ?_
      obtain ⟨x0, x1, x2, x3, x4, x5, x6, x7⟩ := hr w1 hb
      go_simp
      exact hK _ _ ⟨_, y1, y2, y3, y4, y5, y6, y7, y8, y9, y10, y11, y12, y13, y14, rfl, hb, fun _ => (by first | rfl | simp), h1, h2, h3, h4, h5, h6, h7, h8, h9, h10, h11, h12, h13, h14⟩
    | 1, _ =>
      have ho' := ho
      simp [opsregTi] at ho
      subst ho
      refine wpOp_one ho' rfl fun K hK => ?_
      go_simp
      exact hK _ _ ⟨y0, _, y2, y3, y4, y5, y6, y7, y8, y9, y10, y11, y12, y13, y14, rfl, hb, h0, fun _ => (by first | rfl | simp), h2, h3, h4, h5, h6, h7, h8, h9, h10, h11, h12, h13, h14⟩
    | 2, _ =>
      have ho' := ho
      simp [opsregTi] at ho
      subst ho
      refine wpOp_one ho' rfl fun K hK => ?_
      go_simp
      exact hK _ _ ⟨y0, y1, _, y3, y4, y5, y6, y7, y8, y9, y10, y11, y12, y13, y14, rfl, hb, h0, h1, fun _ => (by first | rfl | simp), h3, h4, h5, h6, h7, h8, h9, h10, h11, h12, h13, h14⟩
    | 3, _ =>
      have ho' := ho
      simp [opsregTi] at ho
      subst ho
      obtain rfl := h1 (hall ⟨1, .data⟩ (by simp) rfl)
      obtain rfl := h2 (hall ⟨2, .data⟩ (by simp) rfl)
      refine wpOp_one ho' rfl fun K hK => ?_
      go_simp
      exact hK _ _ ⟨y0, _, _, _, y4, y5, y6, y7, y8, y9, y10, y11, y12, y13, y14, rfl, hb, h0, fun _ => rfl, fun _ => rfl, fun _ => (by first | rfl | simp), h4, h5, h6, h7, h8, h9, h10, h11, h12, h13, h14⟩
    | 4, _ =>
      have ho' := ho
      simp [opsregTi] at ho
      subst ho
      obtain rfl := h0 (hall ⟨0, .data⟩ (by simp) rfl)
      obtain rfl := h3 (hall ⟨3, .data⟩ (by simp) rfl)
      refine wpOp_one ho' rfl fun K hK => ?_
      go_simp
      go_at_call 12
      refine (hc0 _ hb).mono ?_
      rintro e w2 ⟨v2, rfl, hp2, hb2⟩
      exact hK _ _ ⟨_, y1, y2, _, _, y5, y6, y7, y8, y9, y10, y11, y12, y13, y14, rfl, (hb.trans (hb2.mono hb.size)), fun _ => rfl, h1, h2, fun _ => rfl, fun _ => hp2, h5, h6, h7, h8, fun q => SlcTwo.keep (h9 q) hb2, fun q => NdTwo.keep (h10 q) hb2, h11, h12, h13, h14⟩
    | 5, _ =>
      have ho' := ho
      simp [opsregTi] at ho
      subst ho
      refine wpOp_one ho' rfl fun K hK => ?_
      go_simp
      exact hK _ _ ⟨y0, y1, y2, y3, y4, _, y6, y7, y8, y9, y10, y11, y12, y13, y14, rfl, hb, h0, h1, h2, h3, h4, fun _ => (by first | rfl | simp), h6, h7, h8, h9, h10, h11, h12, h13, h14⟩
    | 6, _ =>
      have ho' := ho
      simp [opsregTi] at ho
      subst ho
      have p4 := h4 (hall ⟨4, .data⟩ (by simp) rfl)
      obtain rfl := h5 (hall ⟨5, .data⟩ (by simp) rfl)
      refine wpOp_one ho' rfl fun K hK => ?_
      go_simp
      go_at_call 11
      refine (hc1 _ _ hb p4).mono ?_
      rintro e w2 ⟨rfl, hb2⟩
      exact hK _ _ ⟨y0, y1, y2, y3, y4, _, _, y7, y8, y9, y10, y11, y12, y13, y14, rfl, (hb.trans (hb2.mono hb.size)), h0, h1, h2, h3, fun q => RpP.keep (h4 q) hb2, fun _ => rfl, fun _ => (by first | rfl | simp), h7, h8, fun q => SlcTwo.keep (h9 q) hb2, fun q => NdTwo.keep (h10 q) hb2, h11, h12, h13, h14⟩
    | 7, _ =>
      have ho' := ho
      simp [opsregTi] at ho
      subst ho
      refine wpOp_one ho' rfl fun K hK => ?_
      obtain ⟨x0, x1, x2, x3, x4, x5, x6, x7⟩ := hx w1 hb
      go_simp
      exact hK _ _ ⟨y0, y1, y2, y3, y4, y5, y6, _, y8, y9, y10, y11, y12, y13, y14, rfl, hb, h0, h1, h2, h3, h4, h5, h6, fun _ => (by first | rfl | simp), h8, h9, h10, h11, h12, h13, h14⟩
    | 8, _ =>
      have ho' := ho
      simp [opsregTi] at ho
      subst ho
      refine wpOp_one ho' rfl fun K hK => ?_
      obtain ⟨x0, x1, x2, x3, x4, x5, x6, x7⟩ := hy w1 hb
      go_simp
      exact hK _ _ ⟨y0, y1, y2, y3, y4, y5, y6, y7, _, y9, y10, y11, y12, y13, y14, rfl, hb, h0, h1, h2, h3, h4, h5, h6, h7, fun _ => (by first | rfl | simp), h9, h10, h11, h12, h13, h14⟩
    | 9, _ =>
      have ho' := ho
      simp [opsregTi] at ho
      subst ho
      obtain rfl := h7 (hall ⟨7, .data⟩ (by simp) rfl)
      obtain rfl := h8 (hall ⟨8, .data⟩ (by simp) rfl)
      refine wpOp_one ho' rfl fun K hK => ?_
      go_simp
      have hb2 : Below w1.heap.size w1 (w1.alloc (.cells #[(.int .i64 pk), (.int .u64 ps0), (.int .u64 ps1), (.int .u64 ps2), (.int .u64 ps3), (.slice pa pn pc), (.int .i64 pl), (.int .i64 ph), (.int .i64 qk), (.int .u64 qs0), (.int .u64 qs1), (.int .u64 qs2), (.int .u64 qs3), (.slice qa qn qc), (.int .i64 ql), (.int .i64 qh)] 27)) := (Below.refl _ _).alloc (Nat.le_refl _) _
      have hp2 : SlcTwo #[(.int .i64 pk), (.int .u64 ps0), (.int .u64 ps1), (.int .u64 ps2), (.int .u64 ps3), (.slice pa pn pc), (.int .i64 pl), (.int .i64 ph), (.int .i64 qk), (.int .u64 qs0), (.int .u64 qs1), (.int .u64 qs2), (.int .u64 qs3), (.slice qa qn qc), (.int .i64 ql), (.int .i64 qh)] (w1.alloc (.cells #[(.int .i64 pk), (.int .u64 ps0), (.int .u64 ps1), (.int .u64 ps2), (.int .u64 ps3), (.slice pa pn pc), (.int .i64 pl), (.int .i64 ph), (.int .i64 qk), (.int .u64 qs0), (.int .u64 qs1), (.int .u64 qs2), (.int .u64 qs3), (.slice qa qn qc), (.int .i64 ql), (.int .i64 qh)] 27)) (.slice (some ⟨w1.heap.size, 0, none⟩) 2 2) := ⟨_, rfl, heap_alloc_new w1 _⟩
      exact hK _ _ ⟨y0, y1, y2, y3, y4, y5, y6, _, _, _, y10, y11, y12, y13, y14, rfl, (hb.trans (hb2.mono hb.size)), h0, h1, h2, h3, fun q => RpP.keep (h4 q) hb2, h5, h6, fun _ => rfl, fun _ => rfl, fun _ => hp2, fun q => NdTwo.keep (h10 q) hb2, h11, h12, h13, h14⟩
    | 10, _ =>
      have ho' := ho
      simp [opsregTi] at ho
      subst ho
      have p9 := h9 (hall ⟨9, .data⟩ (by simp) rfl)
      refine wpOp_one ho' rfl fun K hK => ?_
      obtain ⟨b, hbe, hcb⟩ := p9
      subst hbe
      go_simp
      exact hK _ _ ⟨y0, y1, y2, y3, y4, y5, y6, y7, y8, _, _, y11, y12, y13, y14, rfl, hb, h0, h1, h2, h3, h4, h5, h6, h7, h8, h9, fun _ => ⟨b, rfl, hcb⟩, h11, h12, h13, h14⟩
    | 11, _ =>
      have ho' := ho
      simp [opsregTi] at ho
      subst ho
      refine wpOp_one ho' rfl fun K hK => ?_
      go_simp
      exact hK _ _ ⟨y0, y1, y2, y3, y4, y5, y6, y7, y8, y9, y10, _, y12, y13, y14, rfl, hb, h0, h1, h2, h3, h4, h5, h6, h7, h8, h9, h10, fun _ => (by first | rfl | simp), h12, h13, h14⟩
    | 12, _ =>
      have ho' := ho
      simp [opsregTi] at ho
      subst ho
      have p10 := h10 (hall ⟨10, .data⟩ (by simp) rfl)
      obtain rfl := h11 (hall ⟨11, .data⟩ (by simp) rfl)
      refine wpOp_one ho' rfl fun K hK => ?_
      go_simp
      go_at_call 11
      refine (hc2 _ _ hb p10).mono ?_
      rintro e w2 ⟨rfl, hb2⟩
      exact hK _ _ ⟨y0, y1, y2, y3, y4, y5, y6, y7, y8, y9, y10, _, _, y13, y14, rfl, (hb.trans (hb2.mono hb.size)), h0, h1, h2, h3, fun q => RpP.keep (h4 q) hb2, h5, h6, h7, h8, fun q => SlcTwo.keep (h9 q) hb2, fun q => NdTwo.keep (h10 q) hb2, fun _ => rfl, fun _ => (by first | rfl | simp), h13, h14⟩
    | 13, _ =>
      have ho' := ho
      simp [opsregTi] at ho
      subst ho
      obtain rfl := h6 (hall ⟨6, .data⟩ (by simp) rfl)
      obtain rfl := h12 (hall ⟨12, .data⟩ (by simp) rfl)
      refine wpOp_one ho' rfl fun K hK => ?_
      go_simp
      exact hK _ _ ⟨y0, y1, y2, y3, y4, y5, _, y7, y8, y9, y10, y11, _, _, y14, rfl, hb, h0, h1, h2, h3, h4, h5, fun _ => rfl, h7, h8, h9, h10, h11, fun _ => rfl, fun _ => (by first | rfl | (cases b0 <;> rfl)), h14⟩
    | 14, _ =>
      have ho' := ho
      simp [opsregTi] at ho
      subst ho
      obtain rfl := h13 (hall ⟨13, .data⟩ (by simp) rfl)
      refine wpOp_one ho' rfl fun K hK => ?_
      go_simp
      exact hK _ _ ⟨y0, y1, y2, y3, y4, y5, y6, y7, y8, y9, y10, y11, y12, _, _, rfl, hb, h0, h1, h2, h3, h4, h5, h6, h7, h8, h9, h10, h11, h12, fun _ => rfl, fun _ => (by first | rfl | simp)⟩
    | k + 15, hi => omega

end Go.Proofs.YtdjddmkmcdfmiaaDoor
