/- A drawn region of the walk of SpanEither.
   Conditions: what they load lies in memory; the contract of what they call. -/
import Derived.Test.YtdjddmkmcdfmiaaDoorNN
import Derived.Test.YtdjddmkmcdfmiaaDoorOrdX
import Derived.WalkKit
import Derived.KernelRfl

namespace Go.Proofs.YtdjddmkmcdfmiaaDoor
open Go.RowKit Go.Shelf
/-- A list of two nodes, just made. -/
def SlcTwo (c : Array Value) (w : World) (y : Value) : Prop := ∃ b, y = .slice (some ⟨b, 0, none⟩) 2 2 ∧ w.heap[b]? = some (.cells c 27 (0, 0))
theorem SlcTwo.keep {c : Array Value} {w w' : World} {y : Value} (h : SlcTwo c w y) (hb : Below w.heap.size w w') : SlcTwo c w' y := by
  obtain ⟨b, e, h⟩ := h
  exact ⟨b, e, (hb.block b (Array.getElem?_eq_some_iff.1 h).1).trans h⟩
/-- A node of two parts, just made. -/
def NdTwo (k : Int) (c : Array Value) (w : World) (y : Value) : Prop := ∃ b, y = .agg #[.int .i64 k, .int .u64 0, .int .u64 0, .int .u64 0, .int .u64 0, .slice (some ⟨b, 0, none⟩) 2 2, .int .i64 0, .int .i64 0] ∧ w.heap[b]? = some (.cells c 27 (0, 0))
theorem NdTwo.keep {k : Int} {c : Array Value} {w w' : World} {y : Value} (h : NdTwo k c w y) (hb : Below w.heap.size w w') : NdTwo k c w' y := by
  obtain ⟨b, e, h⟩ := h
  exact ⟨b, e, (hb.block b (Array.getElem?_eq_some_iff.1 h).1).trans h⟩
abbrev opsregEt : Array Oper := #[{ dst := some 17, op := Op.load 27 (Operand.tmp 3), type := 27, pos := "again.go:37", after := #[], guard := none },
  { dst := some 18, op := Op.load 27 (Operand.tmp 4), type := 27, pos := "again.go:37", after := #[], guard := none },
  { dst := some 19, op := Op.buildSlice 25 2 #[(0, Operand.tmp 17), (1, Operand.tmp 18)], type := 25, pos := "again.go:37", after := #[{ on := 0, ground := Ground.data }, { on := 1, ground := Ground.data }], guard := none },
  { dst := some 20, op := Op.build 27 #[(0, Operand.const (Value.int IntKind.i64 3)), (2, Operand.tmp 19)], type := 27, pos := "again.go:37", after := #[{ on := 2, ground := Ground.data }], guard := none },
  { dst := some 21, op := Op.move (Operand.tmp 2), type := 28, pos := "again.go:37", after := #[], guard := none },
  { dst := some 22, op := Op.call { callee := Callee.value (Operand.func 11), args := #[Operand.tmp 20, Operand.tmp 21], argTypes := #[27, 28] }, type := 4, pos := "again.go:37", after := #[{ on := 3, ground := Ground.data }, { on := 4, ground := Ground.data }], guard := none },
  { dst := some 23, op := Op.load 27 (Operand.tmp 3), type := 27, pos := "again.go:37", after := #[], guard := none },
  { dst := some 24, op := Op.move (Operand.tmp 2), type := 28, pos := "again.go:37", after := #[], guard := none },
  { dst := some 25, op := Op.call { callee := Callee.value (Operand.func 11), args := #[Operand.tmp 23, Operand.tmp 24], argTypes := #[27, 28] }, type := 4, pos := "again.go:37", after := #[{ on := 6, ground := Ground.data }, { on := 7, ground := Ground.data }, { on := 5, ground := Ground.chain }], guard := none },
  { dst := some 26, op := Op.move (Operand.tmp 25), type := 4, pos := "again.go:37", after := #[{ on := 8, ground := Ground.data }, { on := 8, ground := Ground.chain }], guard := none },
  { dst := some 27, op := Op.load 27 (Operand.tmp 4), type := 27, pos := "again.go:37", after := #[{ on := 9, ground := Ground.guard }], guard := some (9, false) },
  { dst := some 28, op := Op.move (Operand.tmp 2), type := 28, pos := "again.go:37", after := #[{ on := 9, ground := Ground.guard }], guard := some (9, false) },
  { dst := some 29, op := Op.call { callee := Callee.value (Operand.func 11), args := #[Operand.tmp 27, Operand.tmp 28], argTypes := #[27, 28] }, type := 4, pos := "again.go:37", after := #[{ on := 10, ground := Ground.data }, { on := 11, ground := Ground.data }, { on := 9, ground := Ground.chain }, { on := 9, ground := Ground.guard }], guard := some (9, false) },
  { dst := some 30, op := Op.pick (Operand.tmp 26) (Operand.const (Value.bool true)) (Operand.tmp 29), type := 4, pos := "again.go:37", after := #[{ on := 9, ground := Ground.data }, { on := 12, ground := Ground.data }], guard := none },
  { dst := some 31, op := Op.binOp BinOp.eql 4 (Operand.tmp 22) (Operand.tmp 30) 4, type := 4, pos := "again.go:37", after := #[{ on := 5, ground := Ground.data }, { on := 13, ground := Ground.data }], guard := none },
  { dst := some 6, op := Op.assign (Operand.tmp 31), type := 4, pos := "again.go:37", after := #[{ on := 14, ground := Ground.data }, { on := 12, ground := Ground.chain }, { on := 0, ground := Ground.phase }, { on := 1, ground := Ground.phase }, { on := 2, ground := Ground.phase }, { on := 3, ground := Ground.phase }, { on := 4, ground := Ground.phase }, { on := 5, ground := Ground.phase }, { on := 6, ground := Ground.phase }, { on := 7, ground := Ground.phase }, { on := 8, ground := Ground.phase }, { on := 9, ground := Ground.phase }, { on := 10, ground := Ground.phase }, { on := 11, ground := Ground.phase }, { on := 12, ground := Ground.phase }, { on := 13, ground := Ground.phase }, { on := 14, ground := Ground.phase }], guard := none }]
def WregEt (pk ps0 ps1 ps2 ps3 pl ph : Int) (pa : Option Addr) (pn pc : Nat) (qk qs0 qs1 qs2 qs3 ql qh : Int) (qa : Option Addr) (qn qc : Nat) (ba bb ln cw : Nat) (A : Option Addr) (D : List Deferred) (v0 v1 v5 v7 v8 v9 v10 v11 v12 v13 v14 v15 v16 : Value) (w0 : World) (l : Nat → Bool) (a : Act) (w : World) : Prop :=
  ∃ (y0 y1 y2 y3 y4 y5 y6 y7 y8 y9 y10 y11 y12 y13 y14 y15 : Value), a = { tmps := #[v0, v1, .slice A ln cw, .pointer (some ⟨ba, 0, none⟩), .pointer (some ⟨bb, 0, none⟩), v5, y15, v7, v8, v9, v10, v11, v12, v13, v14, v15, v16, y0, y1, y2, y3, y4, y5, y6, y7, y8, y9, y10, y11, y12, y13, y14], defers := D } ∧ Below w0.heap.size w0 w ∧
    (l 0 = true → y0 = .agg #[(.int .i64 pk), (.int .u64 ps0), (.int .u64 ps1), (.int .u64 ps2), (.int .u64 ps3), (.slice pa pn pc), (.int .i64 pl), (.int .i64 ph)]) ∧ (l 1 = true → y1 = .agg #[(.int .i64 qk), (.int .u64 qs0), (.int .u64 qs1), (.int .u64 qs2), (.int .u64 qs3), (.slice qa qn qc), (.int .i64 ql), (.int .i64 qh)]) ∧ (l 2 = true → SlcTwo #[(.int .i64 pk), (.int .u64 ps0), (.int .u64 ps1), (.int .u64 ps2), (.int .u64 ps3), (.slice pa pn pc), (.int .i64 pl), (.int .i64 ph), (.int .i64 qk), (.int .u64 qs0), (.int .u64 qs1), (.int .u64 qs2), (.int .u64 qs3), (.slice qa qn qc), (.int .i64 ql), (.int .i64 qh)] w y2) ∧ (l 3 = true → NdTwo 3 #[(.int .i64 pk), (.int .u64 ps0), (.int .u64 ps1), (.int .u64 ps2), (.int .u64 ps3), (.slice pa pn pc), (.int .i64 pl), (.int .i64 ph), (.int .i64 qk), (.int .u64 qs0), (.int .u64 qs1), (.int .u64 qs2), (.int .u64 qs3), (.slice qa qn qc), (.int .i64 ql), (.int .i64 qh)] w y3) ∧ (l 4 = true → y4 = .slice A ln cw) ∧ (l 5 = true → y5 = .bool true) ∧ (l 6 = true → y6 = .agg #[(.int .i64 pk), (.int .u64 ps0), (.int .u64 ps1), (.int .u64 ps2), (.int .u64 ps3), (.slice pa pn pc), (.int .i64 pl), (.int .i64 ph)]) ∧ (l 7 = true → y7 = .slice A ln cw) ∧ (l 8 = true → y8 = .bool true) ∧ (l 9 = true → y9 = .bool true) ∧ (l 13 = true → y13 = .bool true) ∧ (l 14 = true → y14 = .bool true) ∧ (l 15 = true → y15 = .bool true)
set_option maxHeartbeats 8000000 in
set_option maxRecDepth 100000 in
theorem regEt (pk ps0 ps1 ps2 ps3 pl ph : Int) (pa : Option Addr) (pn pc : Nat) (qk qs0 qs1 qs2 qs3 ql qh : Int) (qa : Option Addr) (qn qc : Nat) (ba bb ln cw : Nat) (A : Option Addr) (D : List Deferred) (v0 v1 v5 v7 v8 v9 v10 v11 v12 v13 v14 v15 v16 wy0 wy1 wy2 wy3 wy4 wy5 wy6 wy7 wy8 wy9 wy10 wy11 wy12 wy13 wy14 wy15 : Value) (w : World) (hx : (∀ w', Below w.heap.size w w' → w'.cell? ⟨ba, 0, none⟩ = some (.int .i64 pk) ∧ w'.cell? ⟨ba, 1, none⟩ = some (.int .u64 ps0) ∧ w'.cell? ⟨ba, 2, none⟩ = some (.int .u64 ps1) ∧ w'.cell? ⟨ba, 3, none⟩ = some (.int .u64 ps2) ∧ w'.cell? ⟨ba, 4, none⟩ = some (.int .u64 ps3) ∧ w'.cell? ⟨ba, 5, none⟩ = some (.slice pa pn pc) ∧ w'.cell? ⟨ba, 6, none⟩ = some (.int .i64 pl) ∧ w'.cell? ⟨ba, 7, none⟩ = some (.int .i64 ph))) (hy : (∀ w', Below w.heap.size w w' → w'.cell? ⟨bb, 0, none⟩ = some (.int .i64 qk) ∧ w'.cell? ⟨bb, 1, none⟩ = some (.int .u64 qs0) ∧ w'.cell? ⟨bb, 2, none⟩ = some (.int .u64 qs1) ∧ w'.cell? ⟨bb, 3, none⟩ = some (.int .u64 qs2) ∧ w'.cell? ⟨bb, 4, none⟩ = some (.int .u64 qs3) ∧ w'.cell? ⟨bb, 5, none⟩ = some (.slice qa qn qc) ∧ w'.cell? ⟨bb, 6, none⟩ = some (.int .i64 ql) ∧ w'.cell? ⟨bb, 7, none⟩ = some (.int .i64 qh))) (hc1 : ∀ w' u, Below w.heap.size w w' → NdTwo 3 #[(.int .i64 pk), (.int .u64 ps0), (.int .u64 ps1), (.int .u64 ps2), (.int .u64 ps3), (.slice pa pn pc), (.int .i64 pl), (.int .i64 ph), (.int .i64 qk), (.int .u64 qs0), (.int .u64 qs1), (.int .u64 qs2), (.int .u64 qs3), (.slice qa qn qc), (.int .i64 ql), (.int .i64 qh)] w' u → Calls Tryd.prog 11 #[u, .slice A ln cw] w' fun e w2 => e = .returned (.bool true) ∧ Below w'.heap.size w' w2) (hc2 : ∀ w', Below w.heap.size w w' → Calls Tryd.prog 11 #[.agg #[(.int .i64 pk), (.int .u64 ps0), (.int .u64 ps1), (.int .u64 ps2), (.int .u64 ps3), (.slice pa pn pc), (.int .i64 pl), (.int .i64 ph)], .slice A ln cw] w' fun e w2 => e = .returned (.bool true) ∧ Below w'.heap.size w' w2) (Q : Exit → Act → World → Prop)
    (hQ : ∀ (y0 y1 y2 y3 y4 y5 y6 y7 y8 y9 y10 y11 y12 y13 y14 : Value) (w' : World), Below w.heap.size w w' → Q .normal { tmps := #[v0, v1, .slice A ln cw, .pointer (some ⟨ba, 0, none⟩), .pointer (some ⟨bb, 0, none⟩), v5, .bool true, v7, v8, v9, v10, v11, v12, v13, v14, v15, v16, y0, y1, y2, y3, y4, y5, y6, y7, y8, y9, y10, y11, y12, y13, y14], defers := D } w') :
    (Code.region 3 opsregEt true).wp Tryd.prog Q { tmps := #[v0, v1, .slice A ln cw, .pointer (some ⟨ba, 0, none⟩), .pointer (some ⟨bb, 0, none⟩), v5, wy15, v7, v8, v9, v10, v11, v12, v13, v14, v15, v16, wy0, wy1, wy2, wy3, wy4, wy5, wy6, wy7, wy8, wy9, wy10, wy11, wy12, wy13, wy14], defers := D } w := by
  refine wp_region_inv (by kernel_rfl) (WregEt pk ps0 ps1 ps2 ps3 pl ph pa pn pc qk qs0 qs1 qs2 qs3 ql qh qa qn qc ba bb ln cw A D v0 v1 v5 v7 v8 v9 v10 v11 v12 v13 v14 v15 v16 w) ?hacy ?h0 ?hstep ?hdone
  case hacy => kernel_rfl
  case h0 => exact ⟨wy0, wy1, wy2, wy3, wy4, wy5, wy6, wy7, wy8, wy9, wy10, wy11, wy12, wy13, wy14, wy15, rfl, below_drewN (Below.refl _ _) 1, (fun p => by cases p), (fun p => by cases p), (fun p => by cases p), (fun p => by cases p), (fun p => by cases p), (fun p => by cases p), (fun p => by cases p), (fun p => by cases p), (fun p => by cases p), (fun p => by cases p), (fun p => by cases p), (fun p => by cases p), (fun p => by cases p)⟩
  case hdone =>
    intro l a w1 hI hall
    obtain ⟨y0, y1, y2, y3, y4, y5, y6, y7, y8, y9, y10, y11, y12, y13, y14, y15, rfl, hb, h0, h1, h2, h3, h4, h5, h6, h7, h8, h9, h13, h14, h15⟩ := hI
    obtain rfl := h15 (hall 15 (by decide))
    exact hQ _ _ _ _ _ _ _ _ _ _ _ _ _ _ _ _ hb 
  case hstep =>
    intro l a w1 i o hI ho hl hall
    obtain ⟨y0, y1, y2, y3, y4, y5, y6, y7, y8, y9, y10, y11, y12, y13, y14, y15, rfl, hb, h0, h1, h2, h3, h4, h5, h6, h7, h8, h9, h13, h14, h15⟩ := hI
    have hi : i < 16 := (Array.getElem?_eq_some_iff.1 ho).1
    match i, hi with
    | 0, _ =>
      have ho' := ho
      simp [opsregEt] at ho
      subst ho
      refine wpOp_one ho' rfl fun K hK => ?_
      obtain ⟨x0, x1, x2, x3, x4, x5, x6, x7⟩ := hx w1 hb
      go_simp
      exact hK _ _ ⟨_, y1, y2, y3, y4, y5, y6, y7, y8, y9, y10, y11, y12, y13, y14, y15, rfl, hb, fun _ => (by first | rfl | simp), h1, h2, h3, h4, h5, h6, h7, h8, h9, h13, h14, h15⟩
    | 1, _ =>
      have ho' := ho
      simp [opsregEt] at ho
      subst ho
      refine wpOp_one ho' rfl fun K hK => ?_
      obtain ⟨x0, x1, x2, x3, x4, x5, x6, x7⟩ := hy w1 hb
      go_simp
      exact hK _ _ ⟨y0, _, y2, y3, y4, y5, y6, y7, y8, y9, y10, y11, y12, y13, y14, y15, rfl, hb, h0, fun _ => (by first | rfl | simp), h2, h3, h4, h5, h6, h7, h8, h9, h13, h14, h15⟩
    | 2, _ =>
      have ho' := ho
      simp [opsregEt] at ho
      subst ho
      obtain rfl := h0 (hall ⟨0, .data⟩ (by simp) rfl)
      obtain rfl := h1 (hall ⟨1, .data⟩ (by simp) rfl)
      refine wpOp_one ho' rfl fun K hK => ?_
      go_simp
      have hb2 : Below w1.heap.size w1 (w1.alloc (.cells #[(.int .i64 pk), (.int .u64 ps0), (.int .u64 ps1), (.int .u64 ps2), (.int .u64 ps3), (.slice pa pn pc), (.int .i64 pl), (.int .i64 ph), (.int .i64 qk), (.int .u64 qs0), (.int .u64 qs1), (.int .u64 qs2), (.int .u64 qs3), (.slice qa qn qc), (.int .i64 ql), (.int .i64 qh)] 27)) := (Below.refl _ _).alloc (Nat.le_refl _) _
      have hp2 : SlcTwo #[(.int .i64 pk), (.int .u64 ps0), (.int .u64 ps1), (.int .u64 ps2), (.int .u64 ps3), (.slice pa pn pc), (.int .i64 pl), (.int .i64 ph), (.int .i64 qk), (.int .u64 qs0), (.int .u64 qs1), (.int .u64 qs2), (.int .u64 qs3), (.slice qa qn qc), (.int .i64 ql), (.int .i64 qh)] (w1.alloc (.cells #[(.int .i64 pk), (.int .u64 ps0), (.int .u64 ps1), (.int .u64 ps2), (.int .u64 ps3), (.slice pa pn pc), (.int .i64 pl), (.int .i64 ph), (.int .i64 qk), (.int .u64 qs0), (.int .u64 qs1), (.int .u64 qs2), (.int .u64 qs3), (.slice qa qn qc), (.int .i64 ql), (.int .i64 qh)] 27)) (.slice (some ⟨w1.heap.size, 0, none⟩) 2 2) := ⟨_, rfl, heap_alloc_new w1 _⟩
      exact hK _ _ ⟨_, _, _, y3, y4, y5, y6, y7, y8, y9, y10, y11, y12, y13, y14, y15, rfl, (hb.trans (hb2.mono hb.size)), fun _ => rfl, fun _ => rfl, fun _ => hp2, fun q => NdTwo.keep (h3 q) hb2, h4, h5, h6, h7, h8, h9, h13, h14, h15⟩
    | 3, _ =>
      have ho' := ho
      simp [opsregEt] at ho
      subst ho
      have p2 := h2 (hall ⟨2, .data⟩ (by simp) rfl)
      refine wpOp_one ho' rfl fun K hK => ?_
      obtain ⟨b, hbe, hcb⟩ := p2
      subst hbe
      go_simp
      exact hK _ _ ⟨y0, y1, _, _, y4, y5, y6, y7, y8, y9, y10, y11, y12, y13, y14, y15, rfl, hb, h0, h1, h2, fun _ => ⟨b, rfl, hcb⟩, h4, h5, h6, h7, h8, h9, h13, h14, h15⟩
    | 4, _ =>
      have ho' := ho
      simp [opsregEt] at ho
      subst ho
      refine wpOp_one ho' rfl fun K hK => ?_
      go_simp
      exact hK _ _ ⟨y0, y1, y2, y3, _, y5, y6, y7, y8, y9, y10, y11, y12, y13, y14, y15, rfl, hb, h0, h1, h2, h3, fun _ => (by first | rfl | simp), h5, h6, h7, h8, h9, h13, h14, h15⟩
    | 5, _ =>
      have ho' := ho
      simp [opsregEt] at ho
      subst ho
      have p3 := h3 (hall ⟨3, .data⟩ (by simp) rfl)
      obtain rfl := h4 (hall ⟨4, .data⟩ (by simp) rfl)
      refine wpOp_one ho' rfl fun K hK => ?_
      go_simp
      go_at_call 11
      refine (hc1 _ _ hb p3).mono ?_
      rintro e w2 ⟨rfl, hb2⟩
      exact hK _ _ ⟨y0, y1, y2, y3, _, _, y6, y7, y8, y9, y10, y11, y12, y13, y14, y15, rfl, (hb.trans (hb2.mono hb.size)), h0, h1, fun q => SlcTwo.keep (h2 q) hb2, fun q => NdTwo.keep (h3 q) hb2, fun _ => rfl, fun _ => (by first | rfl | simp), h6, h7, h8, h9, h13, h14, h15⟩
    | 6, _ =>
      have ho' := ho
      simp [opsregEt] at ho
      subst ho
      refine wpOp_one ho' rfl fun K hK => ?_
      obtain ⟨x0, x1, x2, x3, x4, x5, x6, x7⟩ := hx w1 hb
      go_simp
      exact hK _ _ ⟨y0, y1, y2, y3, y4, y5, _, y7, y8, y9, y10, y11, y12, y13, y14, y15, rfl, hb, h0, h1, h2, h3, h4, h5, fun _ => (by first | rfl | simp), h7, h8, h9, h13, h14, h15⟩
    | 7, _ =>
      have ho' := ho
      simp [opsregEt] at ho
      subst ho
      refine wpOp_one ho' rfl fun K hK => ?_
      go_simp
      exact hK _ _ ⟨y0, y1, y2, y3, y4, y5, y6, _, y8, y9, y10, y11, y12, y13, y14, y15, rfl, hb, h0, h1, h2, h3, h4, h5, h6, fun _ => (by first | rfl | simp), h8, h9, h13, h14, h15⟩
    | 8, _ =>
      have ho' := ho
      simp [opsregEt] at ho
      subst ho
      obtain rfl := h6 (hall ⟨6, .data⟩ (by simp) rfl)
      obtain rfl := h7 (hall ⟨7, .data⟩ (by simp) rfl)
      refine wpOp_one ho' rfl fun K hK => ?_
      go_simp
      go_at_call 11
      refine (hc2 _ hb).mono ?_
      rintro e w2 ⟨rfl, hb2⟩
      exact hK _ _ ⟨y0, y1, y2, y3, y4, y5, _, _, _, y9, y10, y11, y12, y13, y14, y15, rfl, (hb.trans (hb2.mono hb.size)), h0, h1, fun q => SlcTwo.keep (h2 q) hb2, fun q => NdTwo.keep (h3 q) hb2, h4, h5, fun _ => rfl, fun _ => rfl, fun _ => (by first | rfl | simp), h9, h13, h14, h15⟩
    | 9, _ =>
      have ho' := ho
      simp [opsregEt] at ho
      subst ho
      obtain rfl := h8 (hall ⟨8, .data⟩ (by simp) rfl)
      refine wpOp_one ho' rfl fun K hK => ?_
      go_simp
      exact hK _ _ ⟨y0, y1, y2, y3, y4, y5, y6, y7, _, _, y10, y11, y12, y13, y14, y15, rfl, hb, h0, h1, h2, h3, h4, h5, h6, h7, fun _ => rfl, fun _ => (by first | rfl | simp), h13, h14, h15⟩
    | 10, _ =>
      have ho' := ho
      simp [opsregEt] at ho
      subst ho
      obtain rfl := h9 (hall ⟨9, .guard⟩ (by simp) rfl)
      refine wpOq_off ho' rfl ?_
      exact ⟨y0, y1, y2, y3, y4, y5, y6, y7, y8, _, _, y11, y12, y13, y14, y15, rfl, hb, h0, h1, h2, h3, h4, h5, h6, h7, h8, fun _ => rfl, h13, h14, h15⟩
    | 11, _ =>
      have ho' := ho
      simp [opsregEt] at ho
      subst ho
      obtain rfl := h9 (hall ⟨9, .guard⟩ (by simp) rfl)
      refine wpOq_off ho' rfl ?_
      exact ⟨y0, y1, y2, y3, y4, y5, y6, y7, y8, _, y10, _, y12, y13, y14, y15, rfl, hb, h0, h1, h2, h3, h4, h5, h6, h7, h8, fun _ => rfl, h13, h14, h15⟩
    | 12, _ =>
      have ho' := ho
      simp [opsregEt] at ho
      subst ho
      obtain rfl := h9 (hall ⟨9, .chain⟩ (by simp) rfl)
      refine wpOq_off ho' rfl ?_
      exact ⟨y0, y1, y2, y3, y4, y5, y6, y7, y8, _, y10, y11, _, y13, y14, y15, rfl, hb, h0, h1, h2, h3, h4, h5, h6, h7, h8, fun _ => rfl, h13, h14, h15⟩
    | 13, _ =>
      have ho' := ho
      simp [opsregEt] at ho
      subst ho
      obtain rfl := h9 (hall ⟨9, .data⟩ (by simp) rfl)
      refine wpOp_one ho' rfl fun K hK => ?_
      go_simp
      exact hK _ _ ⟨y0, y1, y2, y3, y4, y5, y6, y7, y8, _, y10, y11, y12, _, y14, y15, rfl, hb, h0, h1, h2, h3, h4, h5, h6, h7, h8, fun _ => rfl, fun _ => (by first | rfl | simp), h14, h15⟩
    | 14, _ =>
      have ho' := ho
      simp [opsregEt] at ho
      subst ho
      obtain rfl := h5 (hall ⟨5, .data⟩ (by simp) rfl)
      obtain rfl := h13 (hall ⟨13, .data⟩ (by simp) rfl)
      refine wpOp_one ho' rfl fun K hK => ?_
      go_simp
      exact hK _ _ ⟨y0, y1, y2, y3, y4, _, y6, y7, y8, y9, y10, y11, y12, _, _, y15, rfl, hb, h0, h1, h2, h3, h4, fun _ => rfl, h6, h7, h8, h9, fun _ => rfl, fun _ => (by first | rfl | (cases b2 <;> rfl)), h15⟩
    | 15, _ =>
      have ho' := ho
      simp [opsregEt] at ho
      subst ho
      obtain rfl := h14 (hall ⟨14, .data⟩ (by simp) rfl)
      refine wpOp_one ho' rfl fun K hK => ?_
      go_simp
      exact hK _ _ ⟨y0, y1, y2, y3, y4, y5, y6, y7, y8, y9, y10, y11, y12, y13, _, _, rfl, hb, h0, h1, h2, h3, h4, h5, h6, h7, h8, h9, h13, fun _ => rfl, fun _ => (by first | rfl | simp)⟩
    | k + 16, hi => omega

def WregEf (pk ps0 ps1 ps2 ps3 pl ph : Int) (pa : Option Addr) (pn pc : Nat) (qk qs0 qs1 qs2 qs3 ql qh : Int) (qa : Option Addr) (qn qc : Nat) (ba bb ln cw : Nat) (A : Option Addr) (b2 : Bool) (D : List Deferred) (v0 v1 v5 v7 v8 v9 v10 v11 v12 v13 v14 v15 v16 : Value) (w0 : World) (l : Nat → Bool) (a : Act) (w : World) : Prop :=
  ∃ (y0 y1 y2 y3 y4 y5 y6 y7 y8 y9 y10 y11 y12 y13 y14 y15 : Value), a = { tmps := #[v0, v1, .slice A ln cw, .pointer (some ⟨ba, 0, none⟩), .pointer (some ⟨bb, 0, none⟩), v5, y15, v7, v8, v9, v10, v11, v12, v13, v14, v15, v16, y0, y1, y2, y3, y4, y5, y6, y7, y8, y9, y10, y11, y12, y13, y14], defers := D } ∧ Below w0.heap.size w0 w ∧
    (l 0 = true → y0 = .agg #[(.int .i64 pk), (.int .u64 ps0), (.int .u64 ps1), (.int .u64 ps2), (.int .u64 ps3), (.slice pa pn pc), (.int .i64 pl), (.int .i64 ph)]) ∧ (l 1 = true → y1 = .agg #[(.int .i64 qk), (.int .u64 qs0), (.int .u64 qs1), (.int .u64 qs2), (.int .u64 qs3), (.slice qa qn qc), (.int .i64 ql), (.int .i64 qh)]) ∧ (l 2 = true → SlcTwo #[(.int .i64 pk), (.int .u64 ps0), (.int .u64 ps1), (.int .u64 ps2), (.int .u64 ps3), (.slice pa pn pc), (.int .i64 pl), (.int .i64 ph), (.int .i64 qk), (.int .u64 qs0), (.int .u64 qs1), (.int .u64 qs2), (.int .u64 qs3), (.slice qa qn qc), (.int .i64 ql), (.int .i64 qh)] w y2) ∧ (l 3 = true → NdTwo 3 #[(.int .i64 pk), (.int .u64 ps0), (.int .u64 ps1), (.int .u64 ps2), (.int .u64 ps3), (.slice pa pn pc), (.int .i64 pl), (.int .i64 ph), (.int .i64 qk), (.int .u64 qs0), (.int .u64 qs1), (.int .u64 qs2), (.int .u64 qs3), (.slice qa qn qc), (.int .i64 ql), (.int .i64 qh)] w y3) ∧ (l 4 = true → y4 = .slice A ln cw) ∧ (l 5 = true → y5 = .bool b2) ∧ (l 6 = true → y6 = .agg #[(.int .i64 pk), (.int .u64 ps0), (.int .u64 ps1), (.int .u64 ps2), (.int .u64 ps3), (.slice pa pn pc), (.int .i64 pl), (.int .i64 ph)]) ∧ (l 7 = true → y7 = .slice A ln cw) ∧ (l 8 = true → y8 = .bool false) ∧ (l 9 = true → y9 = .bool false) ∧ (l 10 = true → y10 = .agg #[(.int .i64 qk), (.int .u64 qs0), (.int .u64 qs1), (.int .u64 qs2), (.int .u64 qs3), (.slice qa qn qc), (.int .i64 ql), (.int .i64 qh)]) ∧ (l 11 = true → y11 = .slice A ln cw) ∧ (l 12 = true → y12 = .bool b2) ∧ (l 13 = true → y13 = .bool b2) ∧ (l 14 = true → y14 = .bool true) ∧ (l 15 = true → y15 = .bool true)
set_option maxHeartbeats 8000000 in
set_option maxRecDepth 100000 in
theorem regEf (pk ps0 ps1 ps2 ps3 pl ph : Int) (pa : Option Addr) (pn pc : Nat) (qk qs0 qs1 qs2 qs3 ql qh : Int) (qa : Option Addr) (qn qc : Nat) (ba bb ln cw : Nat) (A : Option Addr) (b2 : Bool) (D : List Deferred) (v0 v1 v5 v7 v8 v9 v10 v11 v12 v13 v14 v15 v16 wy0 wy1 wy2 wy3 wy4 wy5 wy6 wy7 wy8 wy9 wy10 wy11 wy12 wy13 wy14 wy15 : Value) (w : World) (hx : (∀ w', Below w.heap.size w w' → w'.cell? ⟨ba, 0, none⟩ = some (.int .i64 pk) ∧ w'.cell? ⟨ba, 1, none⟩ = some (.int .u64 ps0) ∧ w'.cell? ⟨ba, 2, none⟩ = some (.int .u64 ps1) ∧ w'.cell? ⟨ba, 3, none⟩ = some (.int .u64 ps2) ∧ w'.cell? ⟨ba, 4, none⟩ = some (.int .u64 ps3) ∧ w'.cell? ⟨ba, 5, none⟩ = some (.slice pa pn pc) ∧ w'.cell? ⟨ba, 6, none⟩ = some (.int .i64 pl) ∧ w'.cell? ⟨ba, 7, none⟩ = some (.int .i64 ph))) (hy : (∀ w', Below w.heap.size w w' → w'.cell? ⟨bb, 0, none⟩ = some (.int .i64 qk) ∧ w'.cell? ⟨bb, 1, none⟩ = some (.int .u64 qs0) ∧ w'.cell? ⟨bb, 2, none⟩ = some (.int .u64 qs1) ∧ w'.cell? ⟨bb, 3, none⟩ = some (.int .u64 qs2) ∧ w'.cell? ⟨bb, 4, none⟩ = some (.int .u64 qs3) ∧ w'.cell? ⟨bb, 5, none⟩ = some (.slice qa qn qc) ∧ w'.cell? ⟨bb, 6, none⟩ = some (.int .i64 ql) ∧ w'.cell? ⟨bb, 7, none⟩ = some (.int .i64 qh))) (hc1 : ∀ w' u, Below w.heap.size w w' → NdTwo 3 #[(.int .i64 pk), (.int .u64 ps0), (.int .u64 ps1), (.int .u64 ps2), (.int .u64 ps3), (.slice pa pn pc), (.int .i64 pl), (.int .i64 ph), (.int .i64 qk), (.int .u64 qs0), (.int .u64 qs1), (.int .u64 qs2), (.int .u64 qs3), (.slice qa qn qc), (.int .i64 ql), (.int .i64 qh)] w' u → Calls Tryd.prog 11 #[u, .slice A ln cw] w' fun e w2 => e = .returned (.bool b2) ∧ Below w'.heap.size w' w2) (hc2 : ∀ w', Below w.heap.size w w' → Calls Tryd.prog 11 #[.agg #[(.int .i64 pk), (.int .u64 ps0), (.int .u64 ps1), (.int .u64 ps2), (.int .u64 ps3), (.slice pa pn pc), (.int .i64 pl), (.int .i64 ph)], .slice A ln cw] w' fun e w2 => e = .returned (.bool false) ∧ Below w'.heap.size w' w2) (hc3 : ∀ w', Below w.heap.size w w' → Calls Tryd.prog 11 #[.agg #[(.int .i64 qk), (.int .u64 qs0), (.int .u64 qs1), (.int .u64 qs2), (.int .u64 qs3), (.slice qa qn qc), (.int .i64 ql), (.int .i64 qh)], .slice A ln cw] w' fun e w2 => e = .returned (.bool b2) ∧ Below w'.heap.size w' w2) (Q : Exit → Act → World → Prop)
    (hQ : ∀ (y0 y1 y2 y3 y4 y5 y6 y7 y8 y9 y10 y11 y12 y13 y14 : Value) (w' : World), Below w.heap.size w w' → Q .normal { tmps := #[v0, v1, .slice A ln cw, .pointer (some ⟨ba, 0, none⟩), .pointer (some ⟨bb, 0, none⟩), v5, .bool true, v7, v8, v9, v10, v11, v12, v13, v14, v15, v16, y0, y1, y2, y3, y4, y5, y6, y7, y8, y9, y10, y11, y12, y13, y14], defers := D } w') :
    (Code.region 3 opsregEt true).wp Tryd.prog Q { tmps := #[v0, v1, .slice A ln cw, .pointer (some ⟨ba, 0, none⟩), .pointer (some ⟨bb, 0, none⟩), v5, wy15, v7, v8, v9, v10, v11, v12, v13, v14, v15, v16, wy0, wy1, wy2, wy3, wy4, wy5, wy6, wy7, wy8, wy9, wy10, wy11, wy12, wy13, wy14], defers := D } w := by
  refine wp_region_inv (by kernel_rfl) (WregEf pk ps0 ps1 ps2 ps3 pl ph pa pn pc qk qs0 qs1 qs2 qs3 ql qh qa qn qc ba bb ln cw A b2 D v0 v1 v5 v7 v8 v9 v10 v11 v12 v13 v14 v15 v16 w) ?hacy ?h0 ?hstep ?hdone
  case hacy => kernel_rfl
  case h0 => exact ⟨wy0, wy1, wy2, wy3, wy4, wy5, wy6, wy7, wy8, wy9, wy10, wy11, wy12, wy13, wy14, wy15, rfl, below_drewN (Below.refl _ _) 1, (fun p => by cases p), (fun p => by cases p), (fun p => by cases p), (fun p => by cases p), (fun p => by cases p), (fun p => by cases p), (fun p => by cases p), (fun p => by cases p), (fun p => by cases p), (fun p => by cases p), (fun p => by cases p), (fun p => by cases p), (fun p => by cases p), (fun p => by cases p), (fun p => by cases p), (fun p => by cases p)⟩
  case hdone =>
    intro l a w1 hI hall
    obtain ⟨y0, y1, y2, y3, y4, y5, y6, y7, y8, y9, y10, y11, y12, y13, y14, y15, rfl, hb, h0, h1, h2, h3, h4, h5, h6, h7, h8, h9, h10, h11, h12, h13, h14, h15⟩ := hI
    obtain rfl := h15 (hall 15 (by decide))
    exact hQ _ _ _ _ _ _ _ _ _ _ _ _ _ _ _ _ hb 
  case hstep =>
    intro l a w1 i o hI ho hl hall
    obtain ⟨y0, y1, y2, y3, y4, y5, y6, y7, y8, y9, y10, y11, y12, y13, y14, y15, rfl, hb, h0, h1, h2, h3, h4, h5, h6, h7, h8, h9, h10, h11, h12, h13, h14, h15⟩ := hI
    have hi : i < 16 := (Array.getElem?_eq_some_iff.1 ho).1
    match i, hi with
    | 0, _ =>
      have ho' := ho
      simp [opsregEt] at ho
      subst ho
      refine wpOp_one ho' rfl fun K hK => ?_
      obtain ⟨x0, x1, x2, x3, x4, x5, x6, x7⟩ := hx w1 hb
      go_simp
      exact hK _ _ ⟨_, y1, y2, y3, y4, y5, y6, y7, y8, y9, y10, y11, y12, y13, y14, y15, rfl, hb, fun _ => (by first | rfl | simp), h1, h2, h3, h4, h5, h6, h7, h8, h9, h10, h11, h12, h13, h14, h15⟩
    | 1, _ =>
      have ho' := ho
      simp [opsregEt] at ho
      subst ho
      refine wpOp_one ho' rfl fun K hK => ?_
      obtain ⟨x0, x1, x2, x3, x4, x5, x6, x7⟩ := hy w1 hb
      go_simp
      exact hK _ _ ⟨y0, _, y2, y3, y4, y5, y6, y7, y8, y9, y10, y11, y12, y13, y14, y15, rfl, hb, h0, fun _ => (by first | rfl | simp), h2, h3, h4, h5, h6, h7, h8, h9, h10, h11, h12, h13, h14, h15⟩
    | 2, _ =>
      have ho' := ho
      simp [opsregEt] at ho
      subst ho
      obtain rfl := h0 (hall ⟨0, .data⟩ (by simp) rfl)
      obtain rfl := h1 (hall ⟨1, .data⟩ (by simp) rfl)
      refine wpOp_one ho' rfl fun K hK => ?_
      go_simp
      have hb2 : Below w1.heap.size w1 (w1.alloc (.cells #[(.int .i64 pk), (.int .u64 ps0), (.int .u64 ps1), (.int .u64 ps2), (.int .u64 ps3), (.slice pa pn pc), (.int .i64 pl), (.int .i64 ph), (.int .i64 qk), (.int .u64 qs0), (.int .u64 qs1), (.int .u64 qs2), (.int .u64 qs3), (.slice qa qn qc), (.int .i64 ql), (.int .i64 qh)] 27)) := (Below.refl _ _).alloc (Nat.le_refl _) _
      have hp2 : SlcTwo #[(.int .i64 pk), (.int .u64 ps0), (.int .u64 ps1), (.int .u64 ps2), (.int .u64 ps3), (.slice pa pn pc), (.int .i64 pl), (.int .i64 ph), (.int .i64 qk), (.int .u64 qs0), (.int .u64 qs1), (.int .u64 qs2), (.int .u64 qs3), (.slice qa qn qc), (.int .i64 ql), (.int .i64 qh)] (w1.alloc (.cells #[(.int .i64 pk), (.int .u64 ps0), (.int .u64 ps1), (.int .u64 ps2), (.int .u64 ps3), (.slice pa pn pc), (.int .i64 pl), (.int .i64 ph), (.int .i64 qk), (.int .u64 qs0), (.int .u64 qs1), (.int .u64 qs2), (.int .u64 qs3), (.slice qa qn qc), (.int .i64 ql), (.int .i64 qh)] 27)) (.slice (some ⟨w1.heap.size, 0, none⟩) 2 2) := ⟨_, rfl, heap_alloc_new w1 _⟩
      exact hK _ _ ⟨_, _, _, y3, y4, y5, y6, y7, y8, y9, y10, y11, y12, y13, y14, y15, rfl, (hb.trans (hb2.mono hb.size)), fun _ => rfl, fun _ => rfl, fun _ => hp2, fun q => NdTwo.keep (h3 q) hb2, h4, h5, h6, h7, h8, h9, h10, h11, h12, h13, h14, h15⟩
    | 3, _ =>
      have ho' := ho
      simp [opsregEt] at ho
      subst ho
      have p2 := h2 (hall ⟨2, .data⟩ (by simp) rfl)
      refine wpOp_one ho' rfl fun K hK => ?_
      obtain ⟨b, hbe, hcb⟩ := p2
      subst hbe
      go_simp
      exact hK _ _ ⟨y0, y1, _, _, y4, y5, y6, y7, y8, y9, y10, y11, y12, y13, y14, y15, rfl, hb, h0, h1, h2, fun _ => ⟨b, rfl, hcb⟩, h4, h5, h6, h7, h8, h9, h10, h11, h12, h13, h14, h15⟩
    | 4, _ =>
      have ho' := ho
      simp [opsregEt] at ho
      subst ho
      refine wpOp_one ho' rfl fun K hK => ?_
      go_simp
      exact hK _ _ ⟨y0, y1, y2, y3, _, y5, y6, y7, y8, y9, y10, y11, y12, y13, y14, y15, rfl, hb, h0, h1, h2, h3, fun _ => (by first | rfl | simp), h5, h6, h7, h8, h9, h10, h11, h12, h13, h14, h15⟩
    | 5, _ =>
      have ho' := ho
      simp [opsregEt] at ho
      subst ho
      have p3 := h3 (hall ⟨3, .data⟩ (by simp) rfl)
      obtain rfl := h4 (hall ⟨4, .data⟩ (by simp) rfl)
      refine wpOp_one ho' rfl fun K hK => ?_
      go_simp
      go_at_call 11
      refine (hc1 _ _ hb p3).mono ?_
      rintro e w2 ⟨rfl, hb2⟩
      exact hK _ _ ⟨y0, y1, y2, y3, _, _, y6, y7, y8, y9, y10, y11, y12, y13, y14, y15, rfl, (hb.trans (hb2.mono hb.size)), h0, h1, fun q => SlcTwo.keep (h2 q) hb2, fun q => NdTwo.keep (h3 q) hb2, fun _ => rfl, fun _ => (by first | rfl | simp), h6, h7, h8, h9, h10, h11, h12, h13, h14, h15⟩
    | 6, _ =>
      have ho' := ho
      simp [opsregEt] at ho
      subst ho
      refine wpOp_one ho' rfl fun K hK => ?_
      obtain ⟨x0, x1, x2, x3, x4, x5, x6, x7⟩ := hx w1 hb
      go_simp
      exact hK _ _ ⟨y0, y1, y2, y3, y4, y5, _, y7, y8, y9, y10, y11, y12, y13, y14, y15, rfl, hb, h0, h1, h2, h3, h4, h5, fun _ => (by first | rfl | simp), h7, h8, h9, h10, h11, h12, h13, h14, h15⟩
    | 7, _ =>
      have ho' := ho
      simp [opsregEt] at ho
      subst ho
      refine wpOp_one ho' rfl fun K hK => ?_
      go_simp
      exact hK _ _ ⟨y0, y1, y2, y3, y4, y5, y6, _, y8, y9, y10, y11, y12, y13, y14, y15, rfl, hb, h0, h1, h2, h3, h4, h5, h6, fun _ => (by first | rfl | simp), h8, h9, h10, h11, h12, h13, h14, h15⟩
    | 8, _ =>
      have ho' := ho
      simp [opsregEt] at ho
      subst ho
      obtain rfl := h6 (hall ⟨6, .data⟩ (by simp) rfl)
      obtain rfl := h7 (hall ⟨7, .data⟩ (by simp) rfl)
      refine wpOp_one ho' rfl fun K hK => ?_
      go_simp
      go_at_call 11
      refine (hc2 _ hb).mono ?_
      rintro e w2 ⟨rfl, hb2⟩
      exact hK _ _ ⟨y0, y1, y2, y3, y4, y5, _, _, _, y9, y10, y11, y12, y13, y14, y15, rfl, (hb.trans (hb2.mono hb.size)), h0, h1, fun q => SlcTwo.keep (h2 q) hb2, fun q => NdTwo.keep (h3 q) hb2, h4, h5, fun _ => rfl, fun _ => rfl, fun _ => (by first | rfl | simp), h9, h10, h11, h12, h13, h14, h15⟩
    | 9, _ =>
      have ho' := ho
      simp [opsregEt] at ho
      subst ho
      obtain rfl := h8 (hall ⟨8, .data⟩ (by simp) rfl)
      refine wpOp_one ho' rfl fun K hK => ?_
      go_simp
      exact hK _ _ ⟨y0, y1, y2, y3, y4, y5, y6, y7, _, _, y10, y11, y12, y13, y14, y15, rfl, hb, h0, h1, h2, h3, h4, h5, h6, h7, fun _ => rfl, fun _ => (by first | rfl | simp), h10, h11, h12, h13, h14, h15⟩
    | 10, _ =>
      have ho' := ho
      simp [opsregEt] at ho
      subst ho
      obtain rfl := h9 (hall ⟨9, .guard⟩ (by simp) rfl)
      refine wpOp_on ho' rfl fun K hK => ?_
      obtain ⟨x0, x1, x2, x3, x4, x5, x6, x7⟩ := hy w1 hb
      go_simp
      exact hK _ _ ⟨y0, y1, y2, y3, y4, y5, y6, y7, y8, _, _, y11, y12, y13, y14, y15, rfl, hb, h0, h1, h2, h3, h4, h5, h6, h7, h8, fun _ => rfl, fun _ => (by first | rfl | simp), h11, h12, h13, h14, h15⟩
    | 11, _ =>
      have ho' := ho
      simp [opsregEt] at ho
      subst ho
      obtain rfl := h9 (hall ⟨9, .guard⟩ (by simp) rfl)
      refine wpOp_on ho' rfl fun K hK => ?_
      go_simp
      exact hK _ _ ⟨y0, y1, y2, y3, y4, y5, y6, y7, y8, _, y10, _, y12, y13, y14, y15, rfl, hb, h0, h1, h2, h3, h4, h5, h6, h7, h8, fun _ => rfl, h10, fun _ => (by first | rfl | simp), h12, h13, h14, h15⟩
    | 12, _ =>
      have ho' := ho
      simp [opsregEt] at ho
      subst ho
      obtain rfl := h9 (hall ⟨9, .chain⟩ (by simp) rfl)
      obtain rfl := h10 (hall ⟨10, .data⟩ (by simp) rfl)
      obtain rfl := h11 (hall ⟨11, .data⟩ (by simp) rfl)
      refine wpOp_on ho' rfl fun K hK => ?_
      go_simp
      go_at_call 11
      refine (hc3 _ hb).mono ?_
      rintro e w2 ⟨rfl, hb2⟩
      exact hK _ _ ⟨y0, y1, y2, y3, y4, y5, y6, y7, y8, _, _, _, _, y13, y14, y15, rfl, (hb.trans (hb2.mono hb.size)), h0, h1, fun q => SlcTwo.keep (h2 q) hb2, fun q => NdTwo.keep (h3 q) hb2, h4, h5, h6, h7, h8, fun _ => rfl, fun _ => rfl, fun _ => rfl, fun _ => (by first | rfl | simp), h13, h14, h15⟩
    | 13, _ =>
      have ho' := ho
      simp [opsregEt] at ho
      subst ho
      obtain rfl := h9 (hall ⟨9, .data⟩ (by simp) rfl)
      obtain rfl := h12 (hall ⟨12, .data⟩ (by simp) rfl)
      refine wpOp_one ho' rfl fun K hK => ?_
      go_simp
      exact hK _ _ ⟨y0, y1, y2, y3, y4, y5, y6, y7, y8, _, y10, y11, _, _, y14, y15, rfl, hb, h0, h1, h2, h3, h4, h5, h6, h7, h8, fun _ => rfl, h10, h11, fun _ => rfl, fun _ => (by first | rfl | simp), h14, h15⟩
    | 14, _ =>
      have ho' := ho
      simp [opsregEt] at ho
      subst ho
      obtain rfl := h5 (hall ⟨5, .data⟩ (by simp) rfl)
      obtain rfl := h13 (hall ⟨13, .data⟩ (by simp) rfl)
      refine wpOp_one ho' rfl fun K hK => ?_
      go_simp
      exact hK _ _ ⟨y0, y1, y2, y3, y4, _, y6, y7, y8, y9, y10, y11, y12, _, _, y15, rfl, hb, h0, h1, h2, h3, h4, fun _ => rfl, h6, h7, h8, h9, h10, h11, h12, fun _ => rfl, fun _ => (by first | rfl | (cases b2 <;> rfl)), h15⟩
    | 15, _ =>
      have ho' := ho
      simp [opsregEt] at ho
      subst ho
      obtain rfl := h14 (hall ⟨14, .data⟩ (by simp) rfl)
      refine wpOp_one ho' rfl fun K hK => ?_
      go_simp
      exact hK _ _ ⟨y0, y1, y2, y3, y4, y5, y6, y7, y8, y9, y10, y11, y12, y13, _, _, rfl, hb, h0, h1, h2, h3, h4, h5, h6, h7, h8, h9, h10, h11, h12, h13, fun _ => rfl, fun _ => (by first | rfl | simp)⟩
    | k + 16, hi => omega


end Go.Proofs.YtdjddmkmcdfmiaaDoor
