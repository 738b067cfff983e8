/- The drawn region of the walk of CoreAgain: what is told of a tree and of its simple one, held against each other.
   Conditions: those that the theorems state. -/
import Derived.Test.YteaejdkmgicdhaaOrder
import Derived.Test.YteaejdkmgicdhaaRows
import Derived.WalkKit
import Derived.KernelRfl
namespace Go.Proofs.Yteaejdkmgicdhaa
open Go.RowKit
abbrev opsregAgT : Array Oper := #[{ dst := some 30, op := Op.move (Operand.tmp 4), type := 31, pos := "law.go:48", after := #[], guard := none },
  { dst := some 31, op := Op.binOp BinOp.eql 31 (Operand.tmp 30) (Operand.const (Value.int IntKind.i64 0)) 31, type := 4, pos := "law.go:48", after := #[{ on := 0, ground := Ground.data }], guard := none },
  { dst := some 32, op := Op.move (Operand.tmp 31), type := 4, pos := "law.go:48", after := #[{ on := 1, ground := Ground.data }], guard := none },
  { dst := some 33, op := Op.move (Operand.tmp 6), type := 31, pos := "law.go:48", after := #[{ on := 2, ground := Ground.guard }], guard := some (2, true) },
  { dst := some 34, op := Op.binOp BinOp.eql 31 (Operand.tmp 33) (Operand.const (Value.int IntKind.i64 0)) 31, type := 4, pos := "law.go:48", after := #[{ on := 3, ground := Ground.data }, { on := 2, ground := Ground.guard }], guard := some (2, true) },
  { dst := some 35, op := Op.pick (Operand.tmp 32) (Operand.tmp 34) (Operand.const (Value.bool false)), type := 4, pos := "law.go:48", after := #[{ on := 2, ground := Ground.data }, { on := 4, ground := Ground.data }], guard := none },
  { dst := some 36, op := Op.move (Operand.tmp 35), type := 4, pos := "law.go:48", after := #[{ on := 5, ground := Ground.data }, { on := 2, ground := Ground.chain }], guard := none },
  { dst := some 37, op := Op.load 27 (Operand.tmp 3), type := 27, pos := "law.go:48", after := #[{ on := 6, ground := Ground.guard }], guard := some (6, true) },
  { dst := some 38, op := Op.call { callee := Callee.value (Operand.func 14), args := #[Operand.tmp 37], argTypes := #[27] }, type := 4, pos := "law.go:48", after := #[{ on := 7, ground := Ground.data }, { on := 6, ground := Ground.chain }, { on := 6, ground := Ground.guard }], guard := some (6, true) },
  { dst := some 39, op := Op.pick (Operand.tmp 36) (Operand.tmp 38) (Operand.const (Value.bool false)), type := 4, pos := "law.go:48", after := #[{ on := 6, ground := Ground.data }, { on := 8, ground := Ground.data }], guard := none },
  { dst := some 40, op := Op.move (Operand.tmp 39), type := 4, pos := "law.go:48", after := #[{ on := 9, ground := Ground.data }, { on := 8, ground := Ground.chain }], guard := none },
  { dst := some 41, op := Op.load 27 (Operand.tmp 3), type := 27, pos := "law.go:48", after := #[{ on := 10, ground := Ground.guard }], guard := some (10, true) },
  { dst := some 42, op := Op.load 27 (Operand.tmp 5), type := 27, pos := "law.go:48", after := #[{ on := 10, ground := Ground.guard }], guard := some (10, true) },
  { dst := some 43, op := Op.call { callee := Callee.value (Operand.func 16), args := #[Operand.tmp 41, Operand.tmp 42], argTypes := #[27, 27] }, type := 4, pos := "law.go:48", after := #[{ on := 11, ground := Ground.data }, { on := 12, ground := Ground.data }, { on := 10, ground := Ground.chain }, { on := 10, ground := Ground.guard }], guard := some (10, true) },
  { dst := some 44, op := Op.pick (Operand.tmp 40) (Operand.tmp 43) (Operand.const (Value.bool false)), type := 4, pos := "law.go:48", after := #[{ on := 10, ground := Ground.data }, { on := 13, ground := Ground.data }], guard := none },
  { dst := some 45, op := Op.move (Operand.tmp 44), type := 4, pos := "law.go:48", after := #[{ on := 14, ground := Ground.data }, { on := 13, ground := Ground.chain }], guard := none },
  { dst := some 46, op := Op.load 27 (Operand.tmp 3), type := 27, pos := "law.go:48", after := #[{ on := 15, ground := Ground.guard }], guard := some (15, true) },
  { dst := some 47, op := Op.call { callee := Callee.value (Operand.func 17), args := #[Operand.tmp 46], argTypes := #[27] }, type := 4, pos := "law.go:48", after := #[{ on := 16, ground := Ground.data }, { on := 15, ground := Ground.chain }, { on := 15, ground := Ground.guard }], guard := some (15, true) },
  { dst := some 48, op := Op.load 27 (Operand.tmp 1), type := 27, pos := "law.go:48", after := #[{ on := 15, ground := Ground.guard }], guard := some (15, true) },
  { dst := some 49, op := Op.call { callee := Callee.value (Operand.func 17), args := #[Operand.tmp 48], argTypes := #[27] }, type := 4, pos := "law.go:48", after := #[{ on := 18, ground := Ground.data }, { on := 17, ground := Ground.chain }, { on := 15, ground := Ground.guard }], guard := some (15, true) },
  { dst := some 50, op := Op.binOp BinOp.eql 4 (Operand.tmp 47) (Operand.tmp 49) 4, type := 4, pos := "law.go:48", after := #[{ on := 17, ground := Ground.data }, { on := 19, ground := Ground.data }, { on := 15, ground := Ground.guard }], guard := some (15, true) },
  { dst := some 51, op := Op.pick (Operand.tmp 45) (Operand.tmp 50) (Operand.const (Value.bool false)), type := 4, pos := "law.go:48", after := #[{ on := 15, ground := Ground.data }, { on := 20, ground := Ground.data }], guard := none },
  { dst := some 52, op := Op.move (Operand.tmp 51), type := 4, pos := "law.go:48", after := #[{ on := 21, ground := Ground.data }, { on := 19, ground := Ground.chain }], guard := none },
  { dst := some 53, op := Op.load 27 (Operand.tmp 3), type := 27, pos := "law.go:48", after := #[{ on := 22, ground := Ground.guard }], guard := some (22, true) },
  { dst := some 54, op := Op.call { callee := Callee.value (Operand.func 18), args := #[Operand.tmp 53], argTypes := #[27] }, type := 4, pos := "law.go:48", after := #[{ on := 23, ground := Ground.data }, { on := 22, ground := Ground.chain }, { on := 22, ground := Ground.guard }], guard := some (22, true) },
  { dst := some 55, op := Op.load 27 (Operand.tmp 1), type := 27, pos := "law.go:48", after := #[{ on := 22, ground := Ground.guard }], guard := some (22, true) },
  { dst := some 56, op := Op.call { callee := Callee.value (Operand.func 18), args := #[Operand.tmp 55], argTypes := #[27] }, type := 4, pos := "law.go:48", after := #[{ on := 25, ground := Ground.data }, { on := 24, ground := Ground.chain }, { on := 22, ground := Ground.guard }], guard := some (22, true) },
  { dst := some 57, op := Op.binOp BinOp.eql 4 (Operand.tmp 54) (Operand.tmp 56) 4, type := 4, pos := "law.go:48", after := #[{ on := 24, ground := Ground.data }, { on := 26, ground := Ground.data }, { on := 22, ground := Ground.guard }], guard := some (22, true) },
  { dst := some 58, op := Op.pick (Operand.tmp 52) (Operand.tmp 57) (Operand.const (Value.bool false)), type := 4, pos := "law.go:48", after := #[{ on := 22, ground := Ground.data }, { on := 27, ground := Ground.data }], guard := none },
  { dst := some 59, op := Op.move (Operand.tmp 58), type := 4, pos := "law.go:48", after := #[{ on := 28, ground := Ground.data }, { on := 26, ground := Ground.chain }], guard := none },
  { dst := some 60, op := Op.load 27 (Operand.tmp 1), type := 27, pos := "law.go:48", after := #[{ on := 29, ground := Ground.guard }], guard := some (29, true) },
  { dst := some 61, op := Op.call { callee := Callee.value (Operand.func 17), args := #[Operand.tmp 60], argTypes := #[27] }, type := 4, pos := "law.go:48", after := #[{ on := 30, ground := Ground.data }, { on := 29, ground := Ground.chain }, { on := 29, ground := Ground.guard }], guard := some (29, true) },
  { dst := some 62, op := Op.move (Operand.tmp 61), type := 4, pos := "law.go:48", after := #[{ on := 31, ground := Ground.data }, { on := 31, ground := Ground.chain }, { on := 29, ground := Ground.guard }], guard := some (29, true) },
  { dst := some 63, op := Op.load 27 (Operand.tmp 3), type := 27, pos := "law.go:48", after := #[{ on := 32, ground := Ground.guard }], guard := some (32, false) },
  { dst := some 64, op := Op.call { callee := Callee.value (Operand.func 21), args := #[Operand.tmp 63], argTypes := #[27] }, type := 3, pos := "law.go:48", after := #[{ on := 33, ground := Ground.data }, { on := 32, ground := Ground.chain }, { on := 32, ground := Ground.guard }], guard := some (32, false) },
  { dst := some 65, op := Op.load 27 (Operand.tmp 1), type := 27, pos := "law.go:48", after := #[{ on := 32, ground := Ground.guard }], guard := some (32, false) },
  { dst := some 66, op := Op.call { callee := Callee.value (Operand.func 21), args := #[Operand.tmp 65], argTypes := #[27] }, type := 3, pos := "law.go:48", after := #[{ on := 35, ground := Ground.data }, { on := 34, ground := Ground.chain }, { on := 32, ground := Ground.guard }], guard := some (32, false) },
  { dst := some 67, op := Op.binOp BinOp.leq 3 (Operand.tmp 64) (Operand.tmp 66) 3, type := 4, pos := "law.go:48", after := #[{ on := 34, ground := Ground.data }, { on := 36, ground := Ground.data }, { on := 32, ground := Ground.guard }], guard := some (32, false) },
  { dst := some 68, op := Op.pick (Operand.tmp 62) (Operand.const (Value.bool true)) (Operand.tmp 67), type := 4, pos := "law.go:48", after := #[{ on := 32, ground := Ground.data }, { on := 37, ground := Ground.data }, { on := 29, ground := Ground.guard }], guard := some (29, true) },
  { dst := some 69, op := Op.pick (Operand.tmp 59) (Operand.tmp 68) (Operand.const (Value.bool false)), type := 4, pos := "law.go:48", after := #[{ on := 29, ground := Ground.data }, { on := 38, ground := Ground.data }], guard := none },
  { dst := some 70, op := Op.move (Operand.tmp 69), type := 4, pos := "law.go:48", after := #[{ on := 39, ground := Ground.data }, { on := 36, ground := Ground.chain }], guard := none },
  { dst := some 71, op := Op.load 27 (Operand.tmp 3), type := 27, pos := "law.go:48", after := #[{ on := 40, ground := Ground.guard }], guard := some (40, true) },
  { dst := some 72, op := Op.call { callee := Callee.value (Operand.func 22), args := #[Operand.tmp 71], argTypes := #[27] }, type := 3, pos := "law.go:48", after := #[{ on := 41, ground := Ground.data }, { on := 40, ground := Ground.chain }, { on := 40, ground := Ground.guard }], guard := some (40, true) },
  { dst := some 73, op := Op.load 27 (Operand.tmp 1), type := 27, pos := "law.go:48", after := #[{ on := 40, ground := Ground.guard }], guard := some (40, true) },
  { dst := some 74, op := Op.call { callee := Callee.value (Operand.func 22), args := #[Operand.tmp 73], argTypes := #[27] }, type := 3, pos := "law.go:48", after := #[{ on := 43, ground := Ground.data }, { on := 42, ground := Ground.chain }, { on := 40, ground := Ground.guard }], guard := some (40, true) },
  { dst := some 75, op := Op.binOp BinOp.leq 3 (Operand.tmp 72) (Operand.tmp 74) 3, type := 4, pos := "law.go:48", after := #[{ on := 42, ground := Ground.data }, { on := 44, ground := Ground.data }, { on := 40, ground := Ground.guard }], guard := some (40, true) },
  { dst := some 76, op := Op.pick (Operand.tmp 70) (Operand.tmp 75) (Operand.const (Value.bool false)), type := 4, pos := "law.go:48", after := #[{ on := 40, ground := Ground.data }, { on := 45, ground := Ground.data }], guard := none },
  { dst := some 2, op := Op.assign (Operand.tmp 76), type := 4, pos := "law.go:48", after := #[{ on := 46, ground := Ground.data }, { on := 44, ground := Ground.chain }, { on := 0, ground := Ground.phase }, { on := 1, ground := Ground.phase }, { on := 2, ground := Ground.phase }, { on := 3, ground := Ground.phase }, { on := 4, ground := Ground.phase }, { on := 5, ground := Ground.phase }, { on := 6, ground := Ground.phase }, { on := 7, ground := Ground.phase }, { on := 8, ground := Ground.phase }, { on := 9, ground := Ground.phase }, { on := 10, ground := Ground.phase }, { on := 11, ground := Ground.phase }, { on := 12, ground := Ground.phase }, { on := 13, ground := Ground.phase }, { on := 14, ground := Ground.phase }, { on := 15, ground := Ground.phase }, { on := 16, ground := Ground.phase }, { on := 17, ground := Ground.phase }, { on := 18, ground := Ground.phase }, { on := 19, ground := Ground.phase }, { on := 20, ground := Ground.phase }, { on := 21, ground := Ground.phase }, { on := 22, ground := Ground.phase }, { on := 23, ground := Ground.phase }, { on := 24, ground := Ground.phase }, { on := 25, ground := Ground.phase }, { on := 26, ground := Ground.phase }, { on := 27, ground := Ground.phase }, { on := 28, ground := Ground.phase }, { on := 29, ground := Ground.phase }, { on := 30, ground := Ground.phase }, { on := 31, ground := Ground.phase }, { on := 32, ground := Ground.phase }, { on := 33, ground := Ground.phase }, { on := 34, ground := Ground.phase }, { on := 35, ground := Ground.phase }, { on := 36, ground := Ground.phase }, { on := 37, ground := Ground.phase }, { on := 38, ground := Ground.phase }, { on := 39, ground := Ground.phase }, { on := 40, ground := Ground.phase }, { on := 41, ground := Ground.phase }, { on := 42, ground := Ground.phase }, { on := 43, ground := Ground.phase }, { on := 44, ground := Ground.phase }, { on := 45, ground := Ground.phase }, { on := 46, ground := Ground.phase }], guard := none }]
def WregAgT (ka la ua kx lx ux ky ly uy : Int) (Ca Cx Cy : Nat → Nat) (sa sx sy : Option Addr) (na ca nx cx ny cy ba bx b' d1 d2 : Nat) (U : Bool) (D : List Deferred) (v0 v7 v8 v9 v10 v11 v12 v13 v14 v15 v16 v17 v18 v19 v20 v21 v22 v23 v24 v25 v26 v27 v28 v29 : Value) (w0 : World) (l : Nat → Bool) (a : Act) (w : World) : Prop :=
  ∃ (y0 y1 y2 y3 y4 y5 y6 y7 y8 y9 y10 y11 y12 y13 y14 y15 y16 y17 y18 y19 y20 y21 y22 y23 y24 y25 y26 y27 y28 y29 y30 y31 y32 y33 y34 y35 y36 y37 y38 y39 y40 y41 y42 y43 y44 y45 y46 y47 : Value), a = { tmps := #[v0, .pointer (some ⟨ba, 0, none⟩), y47, .pointer (some ⟨bx, 0, none⟩), .int .i64 0, .pointer (some ⟨b', 0, none⟩), .int .i64 0, v7, v8, v9, v10, v11, v12, v13, v14, v15, v16, v17, v18, v19, v20, v21, v22, v23, v24, v25, v26, v27, v28, v29, y0, y1, y2, y3, y4, y5, y6, y7, y8, y9, y10, y11, y12, y13, y14, y15, y16, y17, y18, y19, y20, y21, y22, y23, y24, y25, y26, y27, y28, y29, y30, y31, y32, y33, y34, y35, y36, y37, y38, y39, y40, y41, y42, y43, y44, y45, y46], defers := D } ∧ Below w0.heap.size w0 w ∧
    (l 0 = true → y0 = .int .i64 0) ∧ (l 1 = true → y1 = .bool true) ∧ (l 2 = true → y2 = .bool true) ∧ (l 3 = true → y3 = .int .i64 0) ∧ (l 4 = true → y4 = .bool true) ∧ (l 5 = true → y5 = .bool true) ∧ (l 6 = true → y6 = .bool true) ∧ (l 7 = true → y7 = .agg #[.int .i64 kx, .int .u64 (Cx 0 : Nat), .int .u64 (Cx 1 : Nat), .int .u64 (Cx 2 : Nat), .int .u64 (Cx 3 : Nat), .slice sx nx cx, .int .i64 lx, .int .i64 ux]) ∧ (l 8 = true → y8 = .bool true) ∧ (l 9 = true → y9 = .bool true) ∧ (l 10 = true → y10 = .bool true) ∧ (l 11 = true → y11 = .agg #[.int .i64 kx, .int .u64 (Cx 0 : Nat), .int .u64 (Cx 1 : Nat), .int .u64 (Cx 2 : Nat), .int .u64 (Cx 3 : Nat), .slice sx nx cx, .int .i64 lx, .int .i64 ux]) ∧ (l 12 = true → y12 = .agg #[.int .i64 ky, .int .u64 (Cy 0 : Nat), .int .u64 (Cy 1 : Nat), .int .u64 (Cy 2 : Nat), .int .u64 (Cy 3 : Nat), .slice sy ny cy, .int .i64 ly, .int .i64 uy]) ∧ (l 13 = true → y13 = .bool true) ∧ (l 14 = true → y14 = .bool true) ∧ (l 15 = true → y15 = .bool true) ∧ (l 16 = true → y16 = .agg #[.int .i64 kx, .int .u64 (Cx 0 : Nat), .int .u64 (Cx 1 : Nat), .int .u64 (Cx 2 : Nat), .int .u64 (Cx 3 : Nat), .slice sx nx cx, .int .i64 lx, .int .i64 ux]) ∧ (l 17 = true → y17 = .bool true) ∧ (l 18 = true → y18 = .agg #[.int .i64 ka, .int .u64 (Ca 0 : Nat), .int .u64 (Ca 1 : Nat), .int .u64 (Ca 2 : Nat), .int .u64 (Ca 3 : Nat), .slice sa na ca, .int .i64 la, .int .i64 ua]) ∧ (l 19 = true → y19 = .bool true) ∧ (l 20 = true → y20 = .bool true) ∧ (l 21 = true → y21 = .bool true) ∧ (l 22 = true → y22 = .bool true) ∧ (l 23 = true → y23 = .agg #[.int .i64 kx, .int .u64 (Cx 0 : Nat), .int .u64 (Cx 1 : Nat), .int .u64 (Cx 2 : Nat), .int .u64 (Cx 3 : Nat), .slice sx nx cx, .int .i64 lx, .int .i64 ux]) ∧ (l 24 = true → y24 = .bool U) ∧ (l 25 = true → y25 = .agg #[.int .i64 ka, .int .u64 (Ca 0 : Nat), .int .u64 (Ca 1 : Nat), .int .u64 (Ca 2 : Nat), .int .u64 (Ca 3 : Nat), .slice sa na ca, .int .i64 la, .int .i64 ua]) ∧ (l 26 = true → y26 = .bool U) ∧ (l 27 = true → y27 = .bool true) ∧ (l 28 = true → y28 = .bool true) ∧ (l 29 = true → y29 = .bool true) ∧ (l 30 = true → y30 = .agg #[.int .i64 ka, .int .u64 (Ca 0 : Nat), .int .u64 (Ca 1 : Nat), .int .u64 (Ca 2 : Nat), .int .u64 (Ca 3 : Nat), .slice sa na ca, .int .i64 la, .int .i64 ua]) ∧ (l 31 = true → y31 = .bool true) ∧ (l 32 = true → y32 = .bool true) ∧ (l 38 = true → y38 = .bool true) ∧ (l 39 = true → y39 = .bool true) ∧ (l 40 = true → y40 = .bool true) ∧ (l 41 = true → y41 = .agg #[.int .i64 kx, .int .u64 (Cx 0 : Nat), .int .u64 (Cx 1 : Nat), .int .u64 (Cx 2 : Nat), .int .u64 (Cx 3 : Nat), .slice sx nx cx, .int .i64 lx, .int .i64 ux]) ∧ (l 42 = true → y42 = .int .i64 (d1 : Nat)) ∧ (l 43 = true → y43 = .agg #[.int .i64 ka, .int .u64 (Ca 0 : Nat), .int .u64 (Ca 1 : Nat), .int .u64 (Ca 2 : Nat), .int .u64 (Ca 3 : Nat), .slice sa na ca, .int .i64 la, .int .i64 ua]) ∧ (l 44 = true → y44 = .int .i64 (d2 : Nat)) ∧ (l 45 = true → y45 = .bool true) ∧ (l 46 = true → y46 = .bool true) ∧ (l 47 = true → y47 = .bool true)
set_option maxHeartbeats 8000000 in
set_option maxRecDepth 100000 in
theorem regAgT (ka la ua kx lx ux ky ly uy : Int) (Ca Cx Cy : Nat → Nat) (sa sx sy : Option Addr) (na ca nx cx ny cy ba bx b' d1 d2 : Nat) (U : Bool) (D : List Deferred) (v0 v7 v8 v9 v10 v11 v12 v13 v14 v15 v16 v17 v18 v19 v20 v21 v22 v23 v24 v25 v26 v27 v28 v29 wy0 wy1 wy2 wy3 wy4 wy5 wy6 wy7 wy8 wy9 wy10 wy11 wy12 wy13 wy14 wy15 wy16 wy17 wy18 wy19 wy20 wy21 wy22 wy23 wy24 wy25 wy26 wy27 wy28 wy29 wy30 wy31 wy32 wy33 wy34 wy35 wy36 wy37 wy38 wy39 wy40 wy41 wy42 wy43 wy44 wy45 wy46 wy47 : Value) (w : World) (hA : ∀ w', Below w.heap.size w w' → w'.cell? ⟨ba, 0, none⟩ = some (.int .i64 ka) ∧ w'.cell? ⟨ba, 1, none⟩ = some (.int .u64 (Ca 0 : Nat)) ∧ w'.cell? ⟨ba, 2, none⟩ = some (.int .u64 (Ca 1 : Nat)) ∧ w'.cell? ⟨ba, 3, none⟩ = some (.int .u64 (Ca 2 : Nat)) ∧ w'.cell? ⟨ba, 4, none⟩ = some (.int .u64 (Ca 3 : Nat)) ∧ w'.cell? ⟨ba, 5, none⟩ = some (.slice sa na ca) ∧ w'.cell? ⟨ba, 6, none⟩ = some (.int .i64 la) ∧ w'.cell? ⟨ba, 7, none⟩ = some (.int .i64 ua)) (hX : ∀ w', Below w.heap.size w w' → w'.cell? ⟨bx, 0, none⟩ = some (.int .i64 kx) ∧ w'.cell? ⟨bx, 1, none⟩ = some (.int .u64 (Cx 0 : Nat)) ∧ w'.cell? ⟨bx, 2, none⟩ = some (.int .u64 (Cx 1 : Nat)) ∧ w'.cell? ⟨bx, 3, none⟩ = some (.int .u64 (Cx 2 : Nat)) ∧ w'.cell? ⟨bx, 4, none⟩ = some (.int .u64 (Cx 3 : Nat)) ∧ w'.cell? ⟨bx, 5, none⟩ = some (.slice sx nx cx) ∧ w'.cell? ⟨bx, 6, none⟩ = some (.int .i64 lx) ∧ w'.cell? ⟨bx, 7, none⟩ = some (.int .i64 ux)) (hY : ∀ w', Below w.heap.size w w' → w'.cell? ⟨b', 0, none⟩ = some (.int .i64 ky) ∧ w'.cell? ⟨b', 1, none⟩ = some (.int .u64 (Cy 0 : Nat)) ∧ w'.cell? ⟨b', 2, none⟩ = some (.int .u64 (Cy 1 : Nat)) ∧ w'.cell? ⟨b', 3, none⟩ = some (.int .u64 (Cy 2 : Nat)) ∧ w'.cell? ⟨b', 4, none⟩ = some (.int .u64 (Cy 3 : Nat)) ∧ w'.cell? ⟨b', 5, none⟩ = some (.slice sy ny cy) ∧ w'.cell? ⟨b', 6, none⟩ = some (.int .i64 ly) ∧ w'.cell? ⟨b', 7, none⟩ = some (.int .i64 uy)) (hd : (d1 : Int) ≤ (d2 : Int)) (c1 : ∀ w', Below w.heap.size w w' → Calls Try.prog 14 #[.agg #[.int .i64 kx, .int .u64 (Cx 0 : Nat), .int .u64 (Cx 1 : Nat), .int .u64 (Cx 2 : Nat), .int .u64 (Cx 3 : Nat), .slice sx nx cx, .int .i64 lx, .int .i64 ux]] w' fun e w2 => e = .returned (.bool true) ∧ Below w'.heap.size w' w2) (c2 : ∀ w', Below w.heap.size w w' → Calls Try.prog 16 #[.agg #[.int .i64 kx, .int .u64 (Cx 0 : Nat), .int .u64 (Cx 1 : Nat), .int .u64 (Cx 2 : Nat), .int .u64 (Cx 3 : Nat), .slice sx nx cx, .int .i64 lx, .int .i64 ux], .agg #[.int .i64 ky, .int .u64 (Cy 0 : Nat), .int .u64 (Cy 1 : Nat), .int .u64 (Cy 2 : Nat), .int .u64 (Cy 3 : Nat), .slice sy ny cy, .int .i64 ly, .int .i64 uy]] w' fun e w2 => e = .returned (.bool true) ∧ Below w'.heap.size w' w2) (c3 : ∀ w', Below w.heap.size w w' → Calls Try.prog 17 #[.agg #[.int .i64 kx, .int .u64 (Cx 0 : Nat), .int .u64 (Cx 1 : Nat), .int .u64 (Cx 2 : Nat), .int .u64 (Cx 3 : Nat), .slice sx nx cx, .int .i64 lx, .int .i64 ux]] w' fun e w2 => e = .returned (.bool true) ∧ Below w'.heap.size w' w2) (c4 : ∀ w', Below w.heap.size w w' → Calls Try.prog 17 #[.agg #[.int .i64 ka, .int .u64 (Ca 0 : Nat), .int .u64 (Ca 1 : Nat), .int .u64 (Ca 2 : Nat), .int .u64 (Ca 3 : Nat), .slice sa na ca, .int .i64 la, .int .i64 ua]] w' fun e w2 => e = .returned (.bool true) ∧ Below w'.heap.size w' w2) (c5 : ∀ w', Below w.heap.size w w' → Calls Try.prog 18 #[.agg #[.int .i64 kx, .int .u64 (Cx 0 : Nat), .int .u64 (Cx 1 : Nat), .int .u64 (Cx 2 : Nat), .int .u64 (Cx 3 : Nat), .slice sx nx cx, .int .i64 lx, .int .i64 ux]] w' fun e w2 => e = .returned (.bool U) ∧ Below w'.heap.size w' w2) (c6 : ∀ w', Below w.heap.size w w' → Calls Try.prog 18 #[.agg #[.int .i64 ka, .int .u64 (Ca 0 : Nat), .int .u64 (Ca 1 : Nat), .int .u64 (Ca 2 : Nat), .int .u64 (Ca 3 : Nat), .slice sa na ca, .int .i64 la, .int .i64 ua]] w' fun e w2 => e = .returned (.bool U) ∧ Below w'.heap.size w' w2) (c9 : ∀ w', Below w.heap.size w w' → Calls Try.prog 22 #[.agg #[.int .i64 kx, .int .u64 (Cx 0 : Nat), .int .u64 (Cx 1 : Nat), .int .u64 (Cx 2 : Nat), .int .u64 (Cx 3 : Nat), .slice sx nx cx, .int .i64 lx, .int .i64 ux]] w' fun e w2 => e = .returned (.int .i64 (d1 : Nat)) ∧ Below w'.heap.size w' w2) (c10 : ∀ w', Below w.heap.size w w' → Calls Try.prog 22 #[.agg #[.int .i64 ka, .int .u64 (Ca 0 : Nat), .int .u64 (Ca 1 : Nat), .int .u64 (Ca 2 : Nat), .int .u64 (Ca 3 : Nat), .slice sa na ca, .int .i64 la, .int .i64 ua]] w' fun e w2 => e = .returned (.int .i64 (d2 : Nat)) ∧ Below w'.heap.size w' w2) (Q : Exit → Act → World → Prop)
    (hQ : ∀ (y0 y1 y2 y3 y4 y5 y6 y7 y8 y9 y10 y11 y12 y13 y14 y15 y16 y17 y18 y19 y20 y21 y22 y23 y24 y25 y26 y27 y28 y29 y30 y31 y32 y33 y34 y35 y36 y37 y38 y39 y40 y41 y42 y43 y44 y45 y46 : Value) (w' : World), Below w.heap.size w w' → Q .normal { tmps := #[v0, .pointer (some ⟨ba, 0, none⟩), .bool true, .pointer (some ⟨bx, 0, none⟩), .int .i64 0, .pointer (some ⟨b', 0, none⟩), .int .i64 0, v7, v8, v9, v10, v11, v12, v13, v14, v15, v16, v17, v18, v19, v20, v21, v22, v23, v24, v25, v26, v27, v28, v29, y0, y1, y2, y3, y4, y5, y6, y7, y8, y9, y10, y11, y12, y13, y14, y15, y16, y17, y18, y19, y20, y21, y22, y23, y24, y25, y26, y27, y28, y29, y30, y31, y32, y33, y34, y35, y36, y37, y38, y39, y40, y41, y42, y43, y44, y45, y46], defers := D } w') :
    (Code.region 5 opsregAgT true).wp Try.prog Q { tmps := #[v0, .pointer (some ⟨ba, 0, none⟩), wy47, .pointer (some ⟨bx, 0, none⟩), .int .i64 0, .pointer (some ⟨b', 0, none⟩), .int .i64 0, v7, v8, v9, v10, v11, v12, v13, v14, v15, v16, v17, v18, v19, v20, v21, v22, v23, v24, v25, v26, v27, v28, v29, wy0, wy1, wy2, wy3, wy4, wy5, wy6, wy7, wy8, wy9, wy10, wy11, wy12, wy13, wy14, wy15, wy16, wy17, wy18, wy19, wy20, wy21, wy22, wy23, wy24, wy25, wy26, wy27, wy28, wy29, wy30, wy31, wy32, wy33, wy34, wy35, wy36, wy37, wy38, wy39, wy40, wy41, wy42, wy43, wy44, wy45, wy46], defers := D } w := by
  refine wp_region_inv (by kernel_rfl) (WregAgT ka la ua kx lx ux ky ly uy Ca Cx Cy sa sx sy na ca nx cx ny cy ba bx b' d1 d2 U D v0 v7 v8 v9 v10 v11 v12 v13 v14 v15 v16 v17 v18 v19 v20 v21 v22 v23 v24 v25 v26 v27 v28 v29 w) ?hacy ?h0 ?hstep ?hdone
  case hacy => kernel_rfl
  case h0 => exact ⟨wy0, wy1, wy2, wy3, wy4, wy5, wy6, wy7, wy8, wy9, wy10, wy11, wy12, wy13, wy14, wy15, wy16, wy17, wy18, wy19, wy20, wy21, wy22, wy23, wy24, wy25, wy26, wy27, wy28, wy29, wy30, wy31, wy32, wy33, wy34, wy35, wy36, wy37, wy38, wy39, wy40, wy41, wy42, wy43, wy44, wy45, wy46, wy47, rfl, below_drewN (Below.refl _ _) 1, (fun p => by cases p), (fun p => by cases p), (fun p => by cases p), (fun p => by cases p), (fun p => by cases p), (fun p => by cases p), (fun p => by cases p), (fun p => by cases p), (fun p => by cases p), (fun p => by cases p), (fun p => by cases p), (fun p => by cases p), (fun p => by cases p), (fun p => by cases p), (fun p => by cases p), (fun p => by cases p), (fun p => by cases p), (fun p => by cases p), (fun p => by cases p), (fun p => by cases p), (fun p => by cases p), (fun p => by cases p), (fun p => by cases p), (fun p => by cases p), (fun p => by cases p), (fun p => by cases p), (fun p => by cases p), (fun p => by cases p), (fun p => by cases p), (fun p => by cases p), (fun p => by cases p), (fun p => by cases p), (fun p => by cases p), (fun p => by cases p), (fun p => by cases p), (fun p => by cases p), (fun p => by cases p), (fun p => by cases p), (fun p => by cases p), (fun p => by cases p), (fun p => by cases p), (fun p => by cases p), (fun p => by cases p)⟩
  case hdone =>
    intro l a w1 hI hall
    obtain ⟨y0, y1, y2, y3, y4, y5, y6, y7, y8, y9, y10, y11, y12, y13, y14, y15, y16, y17, y18, y19, y20, y21, y22, y23, y24, y25, y26, y27, y28, y29, y30, y31, y32, y33, y34, y35, y36, y37, y38, y39, y40, y41, y42, y43, y44, y45, y46, y47, rfl, hb, h0, h1, h2, h3, h4, h5, h6, h7, h8, h9, h10, h11, h12, h13, h14, h15, h16, h17, h18, h19, h20, h21, h22, h23, h24, h25, h26, h27, h28, h29, h30, h31, h32, h38, h39, h40, h41, h42, h43, h44, h45, h46, h47⟩ := hI
    obtain rfl := h47 (hall 47 (by decide))
    exact hQ _ _ _ _ _ _ _ _ _ _ _ _ _ _ _ _ _ _ _ _ _ _ _ _ _ _ _ _ _ _ _ _ _ _ _ _ _ _ _ _ _ _ _ _ _ _ _ _ hb
  case hstep =>
    intro l a w1 i o hI ho hl hall
    obtain ⟨y0, y1, y2, y3, y4, y5, y6, y7, y8, y9, y10, y11, y12, y13, y14, y15, y16, y17, y18, y19, y20, y21, y22, y23, y24, y25, y26, y27, y28, y29, y30, y31, y32, y33, y34, y35, y36, y37, y38, y39, y40, y41, y42, y43, y44, y45, y46, y47, rfl, hb, h0, h1, h2, h3, h4, h5, h6, h7, h8, h9, h10, h11, h12, h13, h14, h15, h16, h17, h18, h19, h20, h21, h22, h23, h24, h25, h26, h27, h28, h29, h30, h31, h32, h38, h39, h40, h41, h42, h43, h44, h45, h46, h47⟩ := hI
    have hi : i < 48 := (Array.getElem?_eq_some_iff.1 ho).1
    match i, hi with
    | 0, _ =>
      have ho' := ho
      simp [opsregAgT] at ho
      subst ho
      refine wpOp_one ho' rfl fun K hK => ?_
      go_simp
      exact hK _ _ ⟨_, y1, y2, y3, y4, y5, y6, y7, y8, y9, y10, y11, y12, y13, y14, y15, y16, y17, y18, y19, y20, y21, y22, y23, y24, y25, y26, y27, y28, y29, y30, y31, y32, y33, y34, y35, y36, y37, y38, y39, y40, y41, y42, y43, y44, y45, y46, y47, rfl, hb, fun _ => (by first | rfl | simp), h1, h2, h3, h4, h5, h6, h7, h8, h9, h10, h11, h12, h13, h14, h15, h16, h17, h18, h19, h20, h21, h22, h23, h24, h25, h26, h27, h28, h29, h30, h31, h32, h38, h39, h40, h41, h42, h43, h44, h45, h46, h47⟩
    | 1, _ =>
      have ho' := ho
      simp [opsregAgT] at ho
      subst ho
      obtain rfl := h0 (hall ⟨0, .data⟩ (by simp) rfl)
      refine wpOp_one ho' rfl fun K hK => ?_
      go_simp
      exact hK _ _ ⟨_, _, y2, y3, y4, y5, y6, y7, y8, y9, y10, y11, y12, y13, y14, y15, y16, y17, y18, y19, y20, y21, y22, y23, y24, y25, y26, y27, y28, y29, y30, y31, y32, y33, y34, y35, y36, y37, y38, y39, y40, y41, y42, y43, y44, y45, y46, y47, rfl, hb, fun _ => rfl, fun _ => (by first | rfl | simp), h2, h3, h4, h5, h6, h7, h8, h9, h10, h11, h12, h13, h14, h15, h16, h17, h18, h19, h20, h21, h22, h23, h24, h25, h26, h27, h28, h29, h30, h31, h32, h38, h39, h40, h41, h42, h43, h44, h45, h46, h47⟩
    | 2, _ =>
      have ho' := ho
      simp [opsregAgT] at ho
      subst ho
      obtain rfl := h1 (hall ⟨1, .data⟩ (by simp) rfl)
      refine wpOp_one ho' rfl fun K hK => ?_
      go_simp
      exact hK _ _ ⟨y0, _, _, y3, y4, y5, y6, y7, y8, y9, y10, y11, y12, y13, y14, y15, y16, y17, y18, y19, y20, y21, y22, y23, y24, y25, y26, y27, y28, y29, y30, y31, y32, y33, y34, y35, y36, y37, y38, y39, y40, y41, y42, y43, y44, y45, y46, y47, rfl, hb, h0, fun _ => rfl, fun _ => (by first | rfl | simp), h3, h4, h5, h6, h7, h8, h9, h10, h11, h12, h13, h14, h15, h16, h17, h18, h19, h20, h21, h22, h23, h24, h25, h26, h27, h28, h29, h30, h31, h32, h38, h39, h40, h41, h42, h43, h44, h45, h46, h47⟩
    | 3, _ =>
      have ho' := ho
      simp [opsregAgT] at ho
      subst ho
      obtain rfl := h2 (hall ⟨2, .guard⟩ (by simp) rfl)
      refine wpOp_on ho' rfl fun K hK => ?_
      go_simp
      exact hK _ _ ⟨y0, y1, _, _, y4, y5, y6, y7, y8, y9, y10, y11, y12, y13, y14, y15, y16, y17, y18, y19, y20, y21, y22, y23, y24, y25, y26, y27, y28, y29, y30, y31, y32, y33, y34, y35, y36, y37, y38, y39, y40, y41, y42, y43, y44, y45, y46, y47, rfl, hb, h0, h1, fun _ => rfl, fun _ => (by first | rfl | simp), h4, h5, h6, h7, h8, h9, h10, h11, h12, h13, h14, h15, h16, h17, h18, h19, h20, h21, h22, h23, h24, h25, h26, h27, h28, h29, h30, h31, h32, h38, h39, h40, h41, h42, h43, h44, h45, h46, h47⟩
    | 4, _ =>
      have ho' := ho
      simp [opsregAgT] at ho
      subst ho
      obtain rfl := h2 (hall ⟨2, .guard⟩ (by simp) rfl)
      obtain rfl := h3 (hall ⟨3, .data⟩ (by simp) rfl)
      refine wpOp_on ho' rfl fun K hK => ?_
      go_simp
      exact hK _ _ ⟨y0, y1, _, _, _, y5, y6, y7, y8, y9, y10, y11, y12, y13, y14, y15, y16, y17, y18, y19, y20, y21, y22, y23, y24, y25, y26, y27, y28, y29, y30, y31, y32, y33, y34, y35, y36, y37, y38, y39, y40, y41, y42, y43, y44, y45, y46, y47, rfl, hb, h0, h1, fun _ => rfl, fun _ => rfl, fun _ => (by first | rfl | simp), h5, h6, h7, h8, h9, h10, h11, h12, h13, h14, h15, h16, h17, h18, h19, h20, h21, h22, h23, h24, h25, h26, h27, h28, h29, h30, h31, h32, h38, h39, h40, h41, h42, h43, h44, h45, h46, h47⟩
    | 5, _ =>
      have ho' := ho
      simp [opsregAgT] at ho
      subst ho
      obtain rfl := h2 (hall ⟨2, .data⟩ (by simp) rfl)
      obtain rfl := h4 (hall ⟨4, .data⟩ (by simp) rfl)
      refine wpOp_one ho' rfl fun K hK => ?_
      go_simp
      exact hK _ _ ⟨y0, y1, _, y3, _, _, y6, y7, y8, y9, y10, y11, y12, y13, y14, y15, y16, y17, y18, y19, y20, y21, y22, y23, y24, y25, y26, y27, y28, y29, y30, y31, y32, y33, y34, y35, y36, y37, y38, y39, y40, y41, y42, y43, y44, y45, y46, y47, rfl, hb, h0, h1, fun _ => rfl, h3, fun _ => rfl, fun _ => (by first | rfl | simp), h6, h7, h8, h9, h10, h11, h12, h13, h14, h15, h16, h17, h18, h19, h20, h21, h22, h23, h24, h25, h26, h27, h28, h29, h30, h31, h32, h38, h39, h40, h41, h42, h43, h44, h45, h46, h47⟩
    | 6, _ =>
      have ho' := ho
      simp [opsregAgT] at ho
      subst ho
      obtain rfl := h5 (hall ⟨5, .data⟩ (by simp) rfl)
      refine wpOp_one ho' rfl fun K hK => ?_
      go_simp
      exact hK _ _ ⟨y0, y1, y2, y3, y4, _, _, y7, y8, y9, y10, y11, y12, y13, y14, y15, y16, y17, y18, y19, y20, y21, y22, y23, y24, y25, y26, y27, y28, y29, y30, y31, y32, y33, y34, y35, y36, y37, y38, y39, y40, y41, y42, y43, y44, y45, y46, y47, rfl, hb, h0, h1, h2, h3, h4, fun _ => rfl, fun _ => (by first | rfl | simp), h7, h8, h9, h10, h11, h12, h13, h14, h15, h16, h17, h18, h19, h20, h21, h22, h23, h24, h25, h26, h27, h28, h29, h30, h31, h32, h38, h39, h40, h41, h42, h43, h44, h45, h46, h47⟩
    | 7, _ =>
      have ho' := ho
      simp [opsregAgT] at ho
      subst ho
      obtain rfl := h6 (hall ⟨6, .guard⟩ (by simp) rfl)
      refine wpOp_on ho' rfl fun K hK => ?_
      obtain ⟨a0, a1, a2, a3, a4, a5, a6, a7⟩ := hX w1 hb
      go_simp
      exact hK _ _ ⟨y0, y1, y2, y3, y4, y5, _, _, y8, y9, y10, y11, y12, y13, y14, y15, y16, y17, y18, y19, y20, y21, y22, y23, y24, y25, y26, y27, y28, y29, y30, y31, y32, y33, y34, y35, y36, y37, y38, y39, y40, y41, y42, y43, y44, y45, y46, y47, rfl, hb, h0, h1, h2, h3, h4, h5, fun _ => rfl, fun _ => (by first | rfl | simp), h8, h9, h10, h11, h12, h13, h14, h15, h16, h17, h18, h19, h20, h21, h22, h23, h24, h25, h26, h27, h28, h29, h30, h31, h32, h38, h39, h40, h41, h42, h43, h44, h45, h46, h47⟩
    | 8, _ =>
      have ho' := ho
      simp [opsregAgT] at ho
      subst ho
      obtain rfl := h6 (hall ⟨6, .chain⟩ (by simp) rfl)
      obtain rfl := h7 (hall ⟨7, .data⟩ (by simp) rfl)
      refine wpOp_on ho' rfl fun K hK => ?_
      go_simp
      go_at_call 14
      refine (c1 _ hb).mono ?_
      rintro e w2 ⟨rfl, hb2⟩
      exact hK _ _ ⟨y0, y1, y2, y3, y4, y5, _, _, _, y9, y10, y11, y12, y13, y14, y15, y16, y17, y18, y19, y20, y21, y22, y23, y24, y25, y26, y27, y28, y29, y30, y31, y32, y33, y34, y35, y36, y37, y38, y39, y40, y41, y42, y43, y44, y45, y46, y47, rfl, (hb.trans (hb2.mono hb.size)), h0, h1, h2, h3, h4, h5, fun _ => rfl, fun _ => rfl, fun _ => (by first | rfl | simp), h9, h10, h11, h12, h13, h14, h15, h16, h17, h18, h19, h20, h21, h22, h23, h24, h25, h26, h27, h28, h29, h30, h31, h32, h38, h39, h40, h41, h42, h43, h44, h45, h46, h47⟩
    | 9, _ =>
      have ho' := ho
      simp [opsregAgT] at ho
      subst ho
      obtain rfl := h6 (hall ⟨6, .data⟩ (by simp) rfl)
      obtain rfl := h8 (hall ⟨8, .data⟩ (by simp) rfl)
      refine wpOp_one ho' rfl fun K hK => ?_
      go_simp
      exact hK _ _ ⟨y0, y1, y2, y3, y4, y5, _, y7, _, _, y10, y11, y12, y13, y14, y15, y16, y17, y18, y19, y20, y21, y22, y23, y24, y25, y26, y27, y28, y29, y30, y31, y32, y33, y34, y35, y36, y37, y38, y39, y40, y41, y42, y43, y44, y45, y46, y47, rfl, hb, h0, h1, h2, h3, h4, h5, fun _ => rfl, h7, fun _ => rfl, fun _ => (by first | rfl | simp), h10, h11, h12, h13, h14, h15, h16, h17, h18, h19, h20, h21, h22, h23, h24, h25, h26, h27, h28, h29, h30, h31, h32, h38, h39, h40, h41, h42, h43, h44, h45, h46, h47⟩
    | 10, _ =>
      have ho' := ho
      simp [opsregAgT] at ho
      subst ho
      obtain rfl := h9 (hall ⟨9, .data⟩ (by simp) rfl)
      refine wpOp_one ho' rfl fun K hK => ?_
      go_simp
      exact hK _ _ ⟨y0, y1, y2, y3, y4, y5, y6, y7, y8, _, _, y11, y12, y13, y14, y15, y16, y17, y18, y19, y20, y21, y22, y23, y24, y25, y26, y27, y28, y29, y30, y31, y32, y33, y34, y35, y36, y37, y38, y39, y40, y41, y42, y43, y44, y45, y46, y47, rfl, hb, h0, h1, h2, h3, h4, h5, h6, h7, h8, fun _ => rfl, fun _ => (by first | rfl | simp), h11, h12, h13, h14, h15, h16, h17, h18, h19, h20, h21, h22, h23, h24, h25, h26, h27, h28, h29, h30, h31, h32, h38, h39, h40, h41, h42, h43, h44, h45, h46, h47⟩
    | 11, _ =>
      have ho' := ho
      simp [opsregAgT] at ho
      subst ho
      obtain rfl := h10 (hall ⟨10, .guard⟩ (by simp) rfl)
      refine wpOp_on ho' rfl fun K hK => ?_
      obtain ⟨a0, a1, a2, a3, a4, a5, a6, a7⟩ := hX w1 hb
      go_simp
      exact hK _ _ ⟨y0, y1, y2, y3, y4, y5, y6, y7, y8, y9, _, _, y12, y13, y14, y15, y16, y17, y18, y19, y20, y21, y22, y23, y24, y25, y26, y27, y28, y29, y30, y31, y32, y33, y34, y35, y36, y37, y38, y39, y40, y41, y42, y43, y44, y45, y46, y47, rfl, hb, h0, h1, h2, h3, h4, h5, h6, h7, h8, h9, fun _ => rfl, fun _ => (by first | rfl | simp), h12, h13, h14, h15, h16, h17, h18, h19, h20, h21, h22, h23, h24, h25, h26, h27, h28, h29, h30, h31, h32, h38, h39, h40, h41, h42, h43, h44, h45, h46, h47⟩
    | 12, _ =>
      have ho' := ho
      simp [opsregAgT] at ho
      subst ho
      obtain rfl := h10 (hall ⟨10, .guard⟩ (by simp) rfl)
      refine wpOp_on ho' rfl fun K hK => ?_
      obtain ⟨a0, a1, a2, a3, a4, a5, a6, a7⟩ := hY w1 hb
      go_simp
      exact hK _ _ ⟨y0, y1, y2, y3, y4, y5, y6, y7, y8, y9, _, y11, _, y13, y14, y15, y16, y17, y18, y19, y20, y21, y22, y23, y24, y25, y26, y27, y28, y29, y30, y31, y32, y33, y34, y35, y36, y37, y38, y39, y40, y41, y42, y43, y44, y45, y46, y47, rfl, hb, h0, h1, h2, h3, h4, h5, h6, h7, h8, h9, fun _ => rfl, h11, fun _ => (by first | rfl | simp), h13, h14, h15, h16, h17, h18, h19, h20, h21, h22, h23, h24, h25, h26, h27, h28, h29, h30, h31, h32, h38, h39, h40, h41, h42, h43, h44, h45, h46, h47⟩
    | 13, _ =>
      have ho' := ho
      simp [opsregAgT] at ho
      subst ho
      obtain rfl := h10 (hall ⟨10, .chain⟩ (by simp) rfl)
      obtain rfl := h11 (hall ⟨11, .data⟩ (by simp) rfl)
      obtain rfl := h12 (hall ⟨12, .data⟩ (by simp) rfl)
      refine wpOp_on ho' rfl fun K hK => ?_
      go_simp
      go_at_call 16
      refine (c2 _ hb).mono ?_
      rintro e w2 ⟨rfl, hb2⟩
      exact hK _ _ ⟨y0, y1, y2, y3, y4, y5, y6, y7, y8, y9, _, _, _, _, y14, y15, y16, y17, y18, y19, y20, y21, y22, y23, y24, y25, y26, y27, y28, y29, y30, y31, y32, y33, y34, y35, y36, y37, y38, y39, y40, y41, y42, y43, y44, y45, y46, y47, rfl, (hb.trans (hb2.mono hb.size)), h0, h1, h2, h3, h4, h5, h6, h7, h8, h9, fun _ => rfl, fun _ => rfl, fun _ => rfl, fun _ => (by first | rfl | simp), h14, h15, h16, h17, h18, h19, h20, h21, h22, h23, h24, h25, h26, h27, h28, h29, h30, h31, h32, h38, h39, h40, h41, h42, h43, h44, h45, h46, h47⟩
    | 14, _ =>
      have ho' := ho
      simp [opsregAgT] at ho
      subst ho
      obtain rfl := h10 (hall ⟨10, .data⟩ (by simp) rfl)
      obtain rfl := h13 (hall ⟨13, .data⟩ (by simp) rfl)
      refine wpOp_one ho' rfl fun K hK => ?_
      go_simp
      exact hK _ _ ⟨y0, y1, y2, y3, y4, y5, y6, y7, y8, y9, _, y11, y12, _, _, y15, y16, y17, y18, y19, y20, y21, y22, y23, y24, y25, y26, y27, y28, y29, y30, y31, y32, y33, y34, y35, y36, y37, y38, y39, y40, y41, y42, y43, y44, y45, y46, y47, rfl, hb, h0, h1, h2, h3, h4, h5, h6, h7, h8, h9, fun _ => rfl, h11, h12, fun _ => rfl, fun _ => (by first | rfl | simp), h15, h16, h17, h18, h19, h20, h21, h22, h23, h24, h25, h26, h27, h28, h29, h30, h31, h32, h38, h39, h40, h41, h42, h43, h44, h45, h46, h47⟩
    | 15, _ =>
      have ho' := ho
      simp [opsregAgT] at ho
      subst ho
      obtain rfl := h14 (hall ⟨14, .data⟩ (by simp) rfl)
      refine wpOp_one ho' rfl fun K hK => ?_
      go_simp
      exact hK _ _ ⟨y0, y1, y2, y3, y4, y5, y6, y7, y8, y9, y10, y11, y12, y13, _, _, y16, y17, y18, y19, y20, y21, y22, y23, y24, y25, y26, y27, y28, y29, y30, y31, y32, y33, y34, y35, y36, y37, y38, y39, y40, y41, y42, y43, y44, y45, y46, y47, rfl, hb, h0, h1, h2, h3, h4, h5, h6, h7, h8, h9, h10, h11, h12, h13, fun _ => rfl, fun _ => (by first | rfl | simp), h16, h17, h18, h19, h20, h21, h22, h23, h24, h25, h26, h27, h28, h29, h30, h31, h32, h38, h39, h40, h41, h42, h43, h44, h45, h46, h47⟩
    | 16, _ =>
      have ho' := ho
      simp [opsregAgT] at ho
      subst ho
      obtain rfl := h15 (hall ⟨15, .guard⟩ (by simp) rfl)
      refine wpOp_on ho' rfl fun K hK => ?_
      obtain ⟨a0, a1, a2, a3, a4, a5, a6, a7⟩ := hX w1 hb
      go_simp
      exact hK _ _ ⟨y0, y1, y2, y3, y4, y5, y6, y7, y8, y9, y10, y11, y12, y13, y14, _, _, y17, y18, y19, y20, y21, y22, y23, y24, y25, y26, y27, y28, y29, y30, y31, y32, y33, y34, y35, y36, y37, y38, y39, y40, y41, y42, y43, y44, y45, y46, y47, rfl, hb, h0, h1, h2, h3, h4, h5, h6, h7, h8, h9, h10, h11, h12, h13, h14, fun _ => rfl, fun _ => (by first | rfl | simp), h17, h18, h19, h20, h21, h22, h23, h24, h25, h26, h27, h28, h29, h30, h31, h32, h38, h39, h40, h41, h42, h43, h44, h45, h46, h47⟩
    | 17, _ =>
      have ho' := ho
      simp [opsregAgT] at ho
      subst ho
      obtain rfl := h15 (hall ⟨15, .chain⟩ (by simp) rfl)
      obtain rfl := h16 (hall ⟨16, .data⟩ (by simp) rfl)
      refine wpOp_on ho' rfl fun K hK => ?_
      go_simp
      go_at_call 17
      refine (c3 _ hb).mono ?_
      rintro e w2 ⟨rfl, hb2⟩
      exact hK _ _ ⟨y0, y1, y2, y3, y4, y5, y6, y7, y8, y9, y10, y11, y12, y13, y14, _, _, _, y18, y19, y20, y21, y22, y23, y24, y25, y26, y27, y28, y29, y30, y31, y32, y33, y34, y35, y36, y37, y38, y39, y40, y41, y42, y43, y44, y45, y46, y47, rfl, (hb.trans (hb2.mono hb.size)), h0, h1, h2, h3, h4, h5, h6, h7, h8, h9, h10, h11, h12, h13, h14, fun _ => rfl, fun _ => rfl, fun _ => (by first | rfl | simp), h18, h19, h20, h21, h22, h23, h24, h25, h26, h27, h28, h29, h30, h31, h32, h38, h39, h40, h41, h42, h43, h44, h45, h46, h47⟩
    | 18, _ =>
      have ho' := ho
      simp [opsregAgT] at ho
      subst ho
      obtain rfl := h15 (hall ⟨15, .guard⟩ (by simp) rfl)
      refine wpOp_on ho' rfl fun K hK => ?_
      obtain ⟨a0, a1, a2, a3, a4, a5, a6, a7⟩ := hA w1 hb
      go_simp
      exact hK _ _ ⟨y0, y1, y2, y3, y4, y5, y6, y7, y8, y9, y10, y11, y12, y13, y14, _, y16, y17, _, y19, y20, y21, y22, y23, y24, y25, y26, y27, y28, y29, y30, y31, y32, y33, y34, y35, y36, y37, y38, y39, y40, y41, y42, y43, y44, y45, y46, y47, rfl, hb, h0, h1, h2, h3, h4, h5, h6, h7, h8, h9, h10, h11, h12, h13, h14, fun _ => rfl, h16, h17, fun _ => (by first | rfl | simp), h19, h20, h21, h22, h23, h24, h25, h26, h27, h28, h29, h30, h31, h32, h38, h39, h40, h41, h42, h43, h44, h45, h46, h47⟩
    | 19, _ =>
      have ho' := ho
      simp [opsregAgT] at ho
      subst ho
      obtain rfl := h15 (hall ⟨15, .guard⟩ (by simp) rfl)
      obtain rfl := h18 (hall ⟨18, .data⟩ (by simp) rfl)
      refine wpOp_on ho' rfl fun K hK => ?_
      go_simp
      go_at_call 17
      refine (c4 _ hb).mono ?_
      rintro e w2 ⟨rfl, hb2⟩
      exact hK _ _ ⟨y0, y1, y2, y3, y4, y5, y6, y7, y8, y9, y10, y11, y12, y13, y14, _, y16, y17, _, _, y20, y21, y22, y23, y24, y25, y26, y27, y28, y29, y30, y31, y32, y33, y34, y35, y36, y37, y38, y39, y40, y41, y42, y43, y44, y45, y46, y47, rfl, (hb.trans (hb2.mono hb.size)), h0, h1, h2, h3, h4, h5, h6, h7, h8, h9, h10, h11, h12, h13, h14, fun _ => rfl, h16, h17, fun _ => rfl, fun _ => (by first | rfl | simp), h20, h21, h22, h23, h24, h25, h26, h27, h28, h29, h30, h31, h32, h38, h39, h40, h41, h42, h43, h44, h45, h46, h47⟩
    | 20, _ =>
      have ho' := ho
      simp [opsregAgT] at ho
      subst ho
      obtain rfl := h15 (hall ⟨15, .guard⟩ (by simp) rfl)
      obtain rfl := h17 (hall ⟨17, .data⟩ (by simp) rfl)
      obtain rfl := h19 (hall ⟨19, .data⟩ (by simp) rfl)
      refine wpOp_on ho' rfl fun K hK => ?_
      go_simp
      exact hK _ _ ⟨y0, y1, y2, y3, y4, y5, y6, y7, y8, y9, y10, y11, y12, y13, y14, _, y16, _, y18, _, _, y21, y22, y23, y24, y25, y26, y27, y28, y29, y30, y31, y32, y33, y34, y35, y36, y37, y38, y39, y40, y41, y42, y43, y44, y45, y46, y47, rfl, hb, h0, h1, h2, h3, h4, h5, h6, h7, h8, h9, h10, h11, h12, h13, h14, fun _ => rfl, h16, fun _ => rfl, h18, fun _ => rfl, fun _ => (by first | rfl | simp), h21, h22, h23, h24, h25, h26, h27, h28, h29, h30, h31, h32, h38, h39, h40, h41, h42, h43, h44, h45, h46, h47⟩
    | 21, _ =>
      have ho' := ho
      simp [opsregAgT] at ho
      subst ho
      obtain rfl := h15 (hall ⟨15, .data⟩ (by simp) rfl)
      obtain rfl := h20 (hall ⟨20, .data⟩ (by simp) rfl)
      refine wpOp_one ho' rfl fun K hK => ?_
      go_simp
      exact hK _ _ ⟨y0, y1, y2, y3, y4, y5, y6, y7, y8, y9, y10, y11, y12, y13, y14, _, y16, y17, y18, y19, _, _, y22, y23, y24, y25, y26, y27, y28, y29, y30, y31, y32, y33, y34, y35, y36, y37, y38, y39, y40, y41, y42, y43, y44, y45, y46, y47, rfl, hb, h0, h1, h2, h3, h4, h5, h6, h7, h8, h9, h10, h11, h12, h13, h14, fun _ => rfl, h16, h17, h18, h19, fun _ => rfl, fun _ => (by first | rfl | simp), h22, h23, h24, h25, h26, h27, h28, h29, h30, h31, h32, h38, h39, h40, h41, h42, h43, h44, h45, h46, h47⟩
    | 22, _ =>
      have ho' := ho
      simp [opsregAgT] at ho
      subst ho
      obtain rfl := h21 (hall ⟨21, .data⟩ (by simp) rfl)
      refine wpOp_one ho' rfl fun K hK => ?_
      go_simp
      exact hK _ _ ⟨y0, y1, y2, y3, y4, y5, y6, y7, y8, y9, y10, y11, y12, y13, y14, y15, y16, y17, y18, y19, y20, _, _, y23, y24, y25, y26, y27, y28, y29, y30, y31, y32, y33, y34, y35, y36, y37, y38, y39, y40, y41, y42, y43, y44, y45, y46, y47, rfl, hb, h0, h1, h2, h3, h4, h5, h6, h7, h8, h9, h10, h11, h12, h13, h14, h15, h16, h17, h18, h19, h20, fun _ => rfl, fun _ => (by first | rfl | simp), h23, h24, h25, h26, h27, h28, h29, h30, h31, h32, h38, h39, h40, h41, h42, h43, h44, h45, h46, h47⟩
    | 23, _ =>
      have ho' := ho
      simp [opsregAgT] at ho
      subst ho
      obtain rfl := h22 (hall ⟨22, .guard⟩ (by simp) rfl)
      refine wpOp_on ho' rfl fun K hK => ?_
      obtain ⟨a0, a1, a2, a3, a4, a5, a6, a7⟩ := hX w1 hb
      go_simp
      exact hK _ _ ⟨y0, y1, y2, y3, y4, y5, y6, y7, y8, y9, y10, y11, y12, y13, y14, y15, y16, y17, y18, y19, y20, y21, _, _, y24, y25, y26, y27, y28, y29, y30, y31, y32, y33, y34, y35, y36, y37, y38, y39, y40, y41, y42, y43, y44, y45, y46, y47, rfl, hb, h0, h1, h2, h3, h4, h5, h6, h7, h8, h9, h10, h11, h12, h13, h14, h15, h16, h17, h18, h19, h20, h21, fun _ => rfl, fun _ => (by first | rfl | simp), h24, h25, h26, h27, h28, h29, h30, h31, h32, h38, h39, h40, h41, h42, h43, h44, h45, h46, h47⟩
    | 24, _ =>
      have ho' := ho
      simp [opsregAgT] at ho
      subst ho
      obtain rfl := h22 (hall ⟨22, .chain⟩ (by simp) rfl)
      obtain rfl := h23 (hall ⟨23, .data⟩ (by simp) rfl)
      refine wpOp_on ho' rfl fun K hK => ?_
      go_simp
      go_at_call 18
      refine (c5 _ hb).mono ?_
      rintro e w2 ⟨rfl, hb2⟩
      exact hK _ _ ⟨y0, y1, y2, y3, y4, y5, y6, y7, y8, y9, y10, y11, y12, y13, y14, y15, y16, y17, y18, y19, y20, y21, _, _, _, y25, y26, y27, y28, y29, y30, y31, y32, y33, y34, y35, y36, y37, y38, y39, y40, y41, y42, y43, y44, y45, y46, y47, rfl, (hb.trans (hb2.mono hb.size)), h0, h1, h2, h3, h4, h5, h6, h7, h8, h9, h10, h11, h12, h13, h14, h15, h16, h17, h18, h19, h20, h21, fun _ => rfl, fun _ => rfl, fun _ => (by first | rfl | simp), h25, h26, h27, h28, h29, h30, h31, h32, h38, h39, h40, h41, h42, h43, h44, h45, h46, h47⟩
    | 25, _ =>
      have ho' := ho
      simp [opsregAgT] at ho
      subst ho
      obtain rfl := h22 (hall ⟨22, .guard⟩ (by simp) rfl)
      refine wpOp_on ho' rfl fun K hK => ?_
      obtain ⟨a0, a1, a2, a3, a4, a5, a6, a7⟩ := hA w1 hb
      go_simp
      exact hK _ _ ⟨y0, y1, y2, y3, y4, y5, y6, y7, y8, y9, y10, y11, y12, y13, y14, y15, y16, y17, y18, y19, y20, y21, _, y23, y24, _, y26, y27, y28, y29, y30, y31, y32, y33, y34, y35, y36, y37, y38, y39, y40, y41, y42, y43, y44, y45, y46, y47, rfl, hb, h0, h1, h2, h3, h4, h5, h6, h7, h8, h9, h10, h11, h12, h13, h14, h15, h16, h17, h18, h19, h20, h21, fun _ => rfl, h23, h24, fun _ => (by first | rfl | simp), h26, h27, h28, h29, h30, h31, h32, h38, h39, h40, h41, h42, h43, h44, h45, h46, h47⟩
    | 26, _ =>
      have ho' := ho
      simp [opsregAgT] at ho
      subst ho
      obtain rfl := h22 (hall ⟨22, .guard⟩ (by simp) rfl)
      obtain rfl := h25 (hall ⟨25, .data⟩ (by simp) rfl)
      refine wpOp_on ho' rfl fun K hK => ?_
      go_simp
      go_at_call 18
      refine (c6 _ hb).mono ?_
      rintro e w2 ⟨rfl, hb2⟩
      exact hK _ _ ⟨y0, y1, y2, y3, y4, y5, y6, y7, y8, y9, y10, y11, y12, y13, y14, y15, y16, y17, y18, y19, y20, y21, _, y23, y24, _, _, y27, y28, y29, y30, y31, y32, y33, y34, y35, y36, y37, y38, y39, y40, y41, y42, y43, y44, y45, y46, y47, rfl, (hb.trans (hb2.mono hb.size)), h0, h1, h2, h3, h4, h5, h6, h7, h8, h9, h10, h11, h12, h13, h14, h15, h16, h17, h18, h19, h20, h21, fun _ => rfl, h23, h24, fun _ => rfl, fun _ => (by first | rfl | simp), h27, h28, h29, h30, h31, h32, h38, h39, h40, h41, h42, h43, h44, h45, h46, h47⟩
    | 27, _ =>
      have ho' := ho
      simp [opsregAgT] at ho
      subst ho
      obtain rfl := h22 (hall ⟨22, .guard⟩ (by simp) rfl)
      obtain rfl := h24 (hall ⟨24, .data⟩ (by simp) rfl)
      obtain rfl := h26 (hall ⟨26, .data⟩ (by simp) rfl)
      refine wpOp_on ho' rfl fun K hK => ?_
      go_simp
      exact hK _ _ ⟨y0, y1, y2, y3, y4, y5, y6, y7, y8, y9, y10, y11, y12, y13, y14, y15, y16, y17, y18, y19, y20, y21, _, y23, _, y25, _, _, y28, y29, y30, y31, y32, y33, y34, y35, y36, y37, y38, y39, y40, y41, y42, y43, y44, y45, y46, y47, rfl, hb, h0, h1, h2, h3, h4, h5, h6, h7, h8, h9, h10, h11, h12, h13, h14, h15, h16, h17, h18, h19, h20, h21, fun _ => rfl, h23, fun _ => rfl, h25, fun _ => rfl, fun _ => (by first | rfl | simp), h28, h29, h30, h31, h32, h38, h39, h40, h41, h42, h43, h44, h45, h46, h47⟩
    | 28, _ =>
      have ho' := ho
      simp [opsregAgT] at ho
      subst ho
      obtain rfl := h22 (hall ⟨22, .data⟩ (by simp) rfl)
      obtain rfl := h27 (hall ⟨27, .data⟩ (by simp) rfl)
      refine wpOp_one ho' rfl fun K hK => ?_
      go_simp
      exact hK _ _ ⟨y0, y1, y2, y3, y4, y5, y6, y7, y8, y9, y10, y11, y12, y13, y14, y15, y16, y17, y18, y19, y20, y21, _, y23, y24, y25, y26, _, _, y29, y30, y31, y32, y33, y34, y35, y36, y37, y38, y39, y40, y41, y42, y43, y44, y45, y46, y47, rfl, hb, h0, h1, h2, h3, h4, h5, h6, h7, h8, h9, h10, h11, h12, h13, h14, h15, h16, h17, h18, h19, h20, h21, fun _ => rfl, h23, h24, h25, h26, fun _ => rfl, fun _ => (by first | rfl | simp), h29, h30, h31, h32, h38, h39, h40, h41, h42, h43, h44, h45, h46, h47⟩
    | 29, _ =>
      have ho' := ho
      simp [opsregAgT] at ho
      subst ho
      obtain rfl := h28 (hall ⟨28, .data⟩ (by simp) rfl)
      refine wpOp_one ho' rfl fun K hK => ?_
      go_simp
      exact hK _ _ ⟨y0, y1, y2, y3, y4, y5, y6, y7, y8, y9, y10, y11, y12, y13, y14, y15, y16, y17, y18, y19, y20, y21, y22, y23, y24, y25, y26, y27, _, _, y30, y31, y32, y33, y34, y35, y36, y37, y38, y39, y40, y41, y42, y43, y44, y45, y46, y47, rfl, hb, h0, h1, h2, h3, h4, h5, h6, h7, h8, h9, h10, h11, h12, h13, h14, h15, h16, h17, h18, h19, h20, h21, h22, h23, h24, h25, h26, h27, fun _ => rfl, fun _ => (by first | rfl | simp), h30, h31, h32, h38, h39, h40, h41, h42, h43, h44, h45, h46, h47⟩
    | 30, _ =>
      have ho' := ho
      simp [opsregAgT] at ho
      subst ho
      obtain rfl := h29 (hall ⟨29, .guard⟩ (by simp) rfl)
      refine wpOp_on ho' rfl fun K hK => ?_
      obtain ⟨a0, a1, a2, a3, a4, a5, a6, a7⟩ := hA w1 hb
      go_simp
      exact hK _ _ ⟨y0, y1, y2, y3, y4, y5, y6, y7, y8, y9, y10, y11, y12, y13, y14, y15, y16, y17, y18, y19, y20, y21, y22, y23, y24, y25, y26, y27, y28, _, _, y31, y32, y33, y34, y35, y36, y37, y38, y39, y40, y41, y42, y43, y44, y45, y46, y47, rfl, hb, h0, h1, h2, h3, h4, h5, h6, h7, h8, h9, h10, h11, h12, h13, h14, h15, h16, h17, h18, h19, h20, h21, h22, h23, h24, h25, h26, h27, h28, fun _ => rfl, fun _ => (by first | rfl | simp), h31, h32, h38, h39, h40, h41, h42, h43, h44, h45, h46, h47⟩
    | 31, _ =>
      have ho' := ho
      simp [opsregAgT] at ho
      subst ho
      obtain rfl := h29 (hall ⟨29, .chain⟩ (by simp) rfl)
      obtain rfl := h30 (hall ⟨30, .data⟩ (by simp) rfl)
      refine wpOp_on ho' rfl fun K hK => ?_
      go_simp
      go_at_call 17
      refine (c4 _ hb).mono ?_
      rintro e w2 ⟨rfl, hb2⟩
      exact hK _ _ ⟨y0, y1, y2, y3, y4, y5, y6, y7, y8, y9, y10, y11, y12, y13, y14, y15, y16, y17, y18, y19, y20, y21, y22, y23, y24, y25, y26, y27, y28, _, _, _, y32, y33, y34, y35, y36, y37, y38, y39, y40, y41, y42, y43, y44, y45, y46, y47, rfl, (hb.trans (hb2.mono hb.size)), h0, h1, h2, h3, h4, h5, h6, h7, h8, h9, h10, h11, h12, h13, h14, h15, h16, h17, h18, h19, h20, h21, h22, h23, h24, h25, h26, h27, h28, fun _ => rfl, fun _ => rfl, fun _ => (by first | rfl | simp), h32, h38, h39, h40, h41, h42, h43, h44, h45, h46, h47⟩
    | 32, _ =>
      have ho' := ho
      simp [opsregAgT] at ho
      subst ho
      obtain rfl := h29 (hall ⟨29, .guard⟩ (by simp) rfl)
      obtain rfl := h31 (hall ⟨31, .data⟩ (by simp) rfl)
      refine wpOp_on ho' rfl fun K hK => ?_
      go_simp
      exact hK _ _ ⟨y0, y1, y2, y3, y4, y5, y6, y7, y8, y9, y10, y11, y12, y13, y14, y15, y16, y17, y18, y19, y20, y21, y22, y23, y24, y25, y26, y27, y28, _, y30, _, _, y33, y34, y35, y36, y37, y38, y39, y40, y41, y42, y43, y44, y45, y46, y47, rfl, hb, h0, h1, h2, h3, h4, h5, h6, h7, h8, h9, h10, h11, h12, h13, h14, h15, h16, h17, h18, h19, h20, h21, h22, h23, h24, h25, h26, h27, h28, fun _ => rfl, h30, fun _ => rfl, fun _ => (by first | rfl | simp), h38, h39, h40, h41, h42, h43, h44, h45, h46, h47⟩
    | 33, _ =>
      have ho' := ho
      simp [opsregAgT] at ho
      subst ho
      obtain rfl := h32 (hall ⟨32, .guard⟩ (by simp) rfl)
      refine wpOp_off ho' rfl ?_
      exact ⟨y0, y1, y2, y3, y4, y5, y6, y7, y8, y9, y10, y11, y12, y13, y14, y15, y16, y17, y18, y19, y20, y21, y22, y23, y24, y25, y26, y27, y28, y29, y30, y31, _, _, y34, y35, y36, y37, y38, y39, y40, y41, y42, y43, y44, y45, y46, y47, rfl, hb, h0, h1, h2, h3, h4, h5, h6, h7, h8, h9, h10, h11, h12, h13, h14, h15, h16, h17, h18, h19, h20, h21, h22, h23, h24, h25, h26, h27, h28, h29, h30, h31, fun _ => rfl, h38, h39, h40, h41, h42, h43, h44, h45, h46, h47⟩
    | 34, _ =>
      have ho' := ho
      simp [opsregAgT] at ho
      subst ho
      obtain rfl := h32 (hall ⟨32, .chain⟩ (by simp) rfl)
      refine wpOp_off ho' rfl ?_
      exact ⟨y0, y1, y2, y3, y4, y5, y6, y7, y8, y9, y10, y11, y12, y13, y14, y15, y16, y17, y18, y19, y20, y21, y22, y23, y24, y25, y26, y27, y28, y29, y30, y31, _, y33, _, y35, y36, y37, y38, y39, y40, y41, y42, y43, y44, y45, y46, y47, rfl, hb, h0, h1, h2, h3, h4, h5, h6, h7, h8, h9, h10, h11, h12, h13, h14, h15, h16, h17, h18, h19, h20, h21, h22, h23, h24, h25, h26, h27, h28, h29, h30, h31, fun _ => rfl, h38, h39, h40, h41, h42, h43, h44, h45, h46, h47⟩
    | 35, _ =>
      have ho' := ho
      simp [opsregAgT] at ho
      subst ho
      obtain rfl := h32 (hall ⟨32, .guard⟩ (by simp) rfl)
      refine wpOp_off ho' rfl ?_
      exact ⟨y0, y1, y2, y3, y4, y5, y6, y7, y8, y9, y10, y11, y12, y13, y14, y15, y16, y17, y18, y19, y20, y21, y22, y23, y24, y25, y26, y27, y28, y29, y30, y31, _, y33, y34, _, y36, y37, y38, y39, y40, y41, y42, y43, y44, y45, y46, y47, rfl, hb, h0, h1, h2, h3, h4, h5, h6, h7, h8, h9, h10, h11, h12, h13, h14, h15, h16, h17, h18, h19, h20, h21, h22, h23, h24, h25, h26, h27, h28, h29, h30, h31, fun _ => rfl, h38, h39, h40, h41, h42, h43, h44, h45, h46, h47⟩
    | 36, _ =>
      have ho' := ho
      simp [opsregAgT] at ho
      subst ho
      obtain rfl := h32 (hall ⟨32, .guard⟩ (by simp) rfl)
      refine wpOp_off ho' rfl ?_
      exact ⟨y0, y1, y2, y3, y4, y5, y6, y7, y8, y9, y10, y11, y12, y13, y14, y15, y16, y17, y18, y19, y20, y21, y22, y23, y24, y25, y26, y27, y28, y29, y30, y31, _, y33, y34, y35, _, y37, y38, y39, y40, y41, y42, y43, y44, y45, y46, y47, rfl, hb, h0, h1, h2, h3, h4, h5, h6, h7, h8, h9, h10, h11, h12, h13, h14, h15, h16, h17, h18, h19, h20, h21, h22, h23, h24, h25, h26, h27, h28, h29, h30, h31, fun _ => rfl, h38, h39, h40, h41, h42, h43, h44, h45, h46, h47⟩
    | 37, _ =>
      have ho' := ho
      simp [opsregAgT] at ho
      subst ho
      obtain rfl := h32 (hall ⟨32, .guard⟩ (by simp) rfl)
      refine wpOp_off ho' rfl ?_
      exact ⟨y0, y1, y2, y3, y4, y5, y6, y7, y8, y9, y10, y11, y12, y13, y14, y15, y16, y17, y18, y19, y20, y21, y22, y23, y24, y25, y26, y27, y28, y29, y30, y31, _, y33, y34, y35, y36, _, y38, y39, y40, y41, y42, y43, y44, y45, y46, y47, rfl, hb, h0, h1, h2, h3, h4, h5, h6, h7, h8, h9, h10, h11, h12, h13, h14, h15, h16, h17, h18, h19, h20, h21, h22, h23, h24, h25, h26, h27, h28, h29, h30, h31, fun _ => rfl, h38, h39, h40, h41, h42, h43, h44, h45, h46, h47⟩
    | 38, _ =>
      have ho' := ho
      simp [opsregAgT] at ho
      subst ho
      obtain rfl := h29 (hall ⟨29, .guard⟩ (by simp) rfl)
      obtain rfl := h32 (hall ⟨32, .data⟩ (by simp) rfl)
      refine wpOp_on ho' rfl fun K hK => ?_
      go_simp
      exact hK _ _ ⟨y0, y1, y2, y3, y4, y5, y6, y7, y8, y9, y10, y11, y12, y13, y14, y15, y16, y17, y18, y19, y20, y21, y22, y23, y24, y25, y26, y27, y28, _, y30, y31, _, y33, y34, y35, y36, y37, _, y39, y40, y41, y42, y43, y44, y45, y46, y47, rfl, hb, h0, h1, h2, h3, h4, h5, h6, h7, h8, h9, h10, h11, h12, h13, h14, h15, h16, h17, h18, h19, h20, h21, h22, h23, h24, h25, h26, h27, h28, fun _ => rfl, h30, h31, fun _ => rfl, fun _ => (by first | rfl | simp), h39, h40, h41, h42, h43, h44, h45, h46, h47⟩
    | 39, _ =>
      have ho' := ho
      simp [opsregAgT] at ho
      subst ho
      obtain rfl := h29 (hall ⟨29, .data⟩ (by simp) rfl)
      obtain rfl := h38 (hall ⟨38, .data⟩ (by simp) rfl)
      refine wpOp_one ho' rfl fun K hK => ?_
      go_simp
      exact hK _ _ ⟨y0, y1, y2, y3, y4, y5, y6, y7, y8, y9, y10, y11, y12, y13, y14, y15, y16, y17, y18, y19, y20, y21, y22, y23, y24, y25, y26, y27, y28, _, y30, y31, y32, y33, y34, y35, y36, y37, _, _, y40, y41, y42, y43, y44, y45, y46, y47, rfl, hb, h0, h1, h2, h3, h4, h5, h6, h7, h8, h9, h10, h11, h12, h13, h14, h15, h16, h17, h18, h19, h20, h21, h22, h23, h24, h25, h26, h27, h28, fun _ => rfl, h30, h31, h32, fun _ => rfl, fun _ => (by first | rfl | simp), h40, h41, h42, h43, h44, h45, h46, h47⟩
    | 40, _ =>
      have ho' := ho
      simp [opsregAgT] at ho
      subst ho
      obtain rfl := h39 (hall ⟨39, .data⟩ (by simp) rfl)
      refine wpOp_one ho' rfl fun K hK => ?_
      go_simp
      exact hK _ _ ⟨y0, y1, y2, y3, y4, y5, y6, y7, y8, y9, y10, y11, y12, y13, y14, y15, y16, y17, y18, y19, y20, y21, y22, y23, y24, y25, y26, y27, y28, y29, y30, y31, y32, y33, y34, y35, y36, y37, y38, _, _, y41, y42, y43, y44, y45, y46, y47, rfl, hb, h0, h1, h2, h3, h4, h5, h6, h7, h8, h9, h10, h11, h12, h13, h14, h15, h16, h17, h18, h19, h20, h21, h22, h23, h24, h25, h26, h27, h28, h29, h30, h31, h32, h38, fun _ => rfl, fun _ => (by first | rfl | simp), h41, h42, h43, h44, h45, h46, h47⟩
    | 41, _ =>
      have ho' := ho
      simp [opsregAgT] at ho
      subst ho
      obtain rfl := h40 (hall ⟨40, .guard⟩ (by simp) rfl)
      refine wpOp_on ho' rfl fun K hK => ?_
      obtain ⟨a0, a1, a2, a3, a4, a5, a6, a7⟩ := hX w1 hb
      go_simp
      exact hK _ _ ⟨y0, y1, y2, y3, y4, y5, y6, y7, y8, y9, y10, y11, y12, y13, y14, y15, y16, y17, y18, y19, y20, y21, y22, y23, y24, y25, y26, y27, y28, y29, y30, y31, y32, y33, y34, y35, y36, y37, y38, y39, _, _, y42, y43, y44, y45, y46, y47, rfl, hb, h0, h1, h2, h3, h4, h5, h6, h7, h8, h9, h10, h11, h12, h13, h14, h15, h16, h17, h18, h19, h20, h21, h22, h23, h24, h25, h26, h27, h28, h29, h30, h31, h32, h38, h39, fun _ => rfl, fun _ => (by first | rfl | simp), h42, h43, h44, h45, h46, h47⟩
    | 42, _ =>
      have ho' := ho
      simp [opsregAgT] at ho
      subst ho
      obtain rfl := h40 (hall ⟨40, .chain⟩ (by simp) rfl)
      obtain rfl := h41 (hall ⟨41, .data⟩ (by simp) rfl)
      refine wpOp_on ho' rfl fun K hK => ?_
      go_simp
      go_at_call 22
      refine (c9 _ hb).mono ?_
      rintro e w2 ⟨rfl, hb2⟩
      exact hK _ _ ⟨y0, y1, y2, y3, y4, y5, y6, y7, y8, y9, y10, y11, y12, y13, y14, y15, y16, y17, y18, y19, y20, y21, y22, y23, y24, y25, y26, y27, y28, y29, y30, y31, y32, y33, y34, y35, y36, y37, y38, y39, _, _, _, y43, y44, y45, y46, y47, rfl, (hb.trans (hb2.mono hb.size)), h0, h1, h2, h3, h4, h5, h6, h7, h8, h9, h10, h11, h12, h13, h14, h15, h16, h17, h18, h19, h20, h21, h22, h23, h24, h25, h26, h27, h28, h29, h30, h31, h32, h38, h39, fun _ => rfl, fun _ => rfl, fun _ => (by first | rfl | simp), h43, h44, h45, h46, h47⟩
    | 43, _ =>
      have ho' := ho
      simp [opsregAgT] at ho
      subst ho
      obtain rfl := h40 (hall ⟨40, .guard⟩ (by simp) rfl)
      refine wpOp_on ho' rfl fun K hK => ?_
      obtain ⟨a0, a1, a2, a3, a4, a5, a6, a7⟩ := hA w1 hb
      go_simp
      exact hK _ _ ⟨y0, y1, y2, y3, y4, y5, y6, y7, y8, y9, y10, y11, y12, y13, y14, y15, y16, y17, y18, y19, y20, y21, y22, y23, y24, y25, y26, y27, y28, y29, y30, y31, y32, y33, y34, y35, y36, y37, y38, y39, _, y41, y42, _, y44, y45, y46, y47, rfl, hb, h0, h1, h2, h3, h4, h5, h6, h7, h8, h9, h10, h11, h12, h13, h14, h15, h16, h17, h18, h19, h20, h21, h22, h23, h24, h25, h26, h27, h28, h29, h30, h31, h32, h38, h39, fun _ => rfl, h41, h42, fun _ => (by first | rfl | simp), h44, h45, h46, h47⟩
    | 44, _ =>
      have ho' := ho
      simp [opsregAgT] at ho
      subst ho
      obtain rfl := h40 (hall ⟨40, .guard⟩ (by simp) rfl)
      obtain rfl := h43 (hall ⟨43, .data⟩ (by simp) rfl)
      refine wpOp_on ho' rfl fun K hK => ?_
      go_simp
      go_at_call 22
      refine (c10 _ hb).mono ?_
      rintro e w2 ⟨rfl, hb2⟩
      exact hK _ _ ⟨y0, y1, y2, y3, y4, y5, y6, y7, y8, y9, y10, y11, y12, y13, y14, y15, y16, y17, y18, y19, y20, y21, y22, y23, y24, y25, y26, y27, y28, y29, y30, y31, y32, y33, y34, y35, y36, y37, y38, y39, _, y41, y42, _, _, y45, y46, y47, rfl, (hb.trans (hb2.mono hb.size)), h0, h1, h2, h3, h4, h5, h6, h7, h8, h9, h10, h11, h12, h13, h14, h15, h16, h17, h18, h19, h20, h21, h22, h23, h24, h25, h26, h27, h28, h29, h30, h31, h32, h38, h39, fun _ => rfl, h41, h42, fun _ => rfl, fun _ => (by first | rfl | simp), h45, h46, h47⟩
    | 45, _ =>
      have ho' := ho
      simp [opsregAgT] at ho
      subst ho
      obtain rfl := h40 (hall ⟨40, .guard⟩ (by simp) rfl)
      obtain rfl := h42 (hall ⟨42, .data⟩ (by simp) rfl)
      obtain rfl := h44 (hall ⟨44, .data⟩ (by simp) rfl)
      refine wpOp_on ho' rfl fun K hK => ?_
      go_simp
      exact hK _ _ ⟨y0, y1, y2, y3, y4, y5, y6, y7, y8, y9, y10, y11, y12, y13, y14, y15, y16, y17, y18, y19, y20, y21, y22, y23, y24, y25, y26, y27, y28, y29, y30, y31, y32, y33, y34, y35, y36, y37, y38, y39, _, y41, _, y43, _, _, y46, y47, rfl, hb, h0, h1, h2, h3, h4, h5, h6, h7, h8, h9, h10, h11, h12, h13, h14, h15, h16, h17, h18, h19, h20, h21, h22, h23, h24, h25, h26, h27, h28, h29, h30, h31, h32, h38, h39, fun _ => rfl, h41, fun _ => rfl, h43, fun _ => rfl, fun _ => (by first | rfl | simp), h46, h47⟩
    | 46, _ =>
      have ho' := ho
      simp [opsregAgT] at ho
      subst ho
      obtain rfl := h40 (hall ⟨40, .data⟩ (by simp) rfl)
      obtain rfl := h45 (hall ⟨45, .data⟩ (by simp) rfl)
      refine wpOp_one ho' rfl fun K hK => ?_
      go_simp
      exact hK _ _ ⟨y0, y1, y2, y3, y4, y5, y6, y7, y8, y9, y10, y11, y12, y13, y14, y15, y16, y17, y18, y19, y20, y21, y22, y23, y24, y25, y26, y27, y28, y29, y30, y31, y32, y33, y34, y35, y36, y37, y38, y39, _, y41, y42, y43, y44, _, _, y47, rfl, hb, h0, h1, h2, h3, h4, h5, h6, h7, h8, h9, h10, h11, h12, h13, h14, h15, h16, h17, h18, h19, h20, h21, h22, h23, h24, h25, h26, h27, h28, h29, h30, h31, h32, h38, h39, fun _ => rfl, h41, h42, h43, h44, fun _ => rfl, fun _ => (by first | rfl | simp), h47⟩
    | 47, _ =>
      have ho' := ho
      simp [opsregAgT] at ho
      subst ho
      obtain rfl := h46 (hall ⟨46, .data⟩ (by simp) rfl)
      refine wpOp_one ho' rfl fun K hK => ?_
      go_simp
      exact hK _ _ ⟨y0, y1, y2, y3, y4, y5, y6, y7, y8, y9, y10, y11, y12, y13, y14, y15, y16, y17, y18, y19, y20, y21, y22, y23, y24, y25, y26, y27, y28, y29, y30, y31, y32, y33, y34, y35, y36, y37, y38, y39, y40, y41, y42, y43, y44, y45, _, _, rfl, hb, h0, h1, h2, h3, h4, h5, h6, h7, h8, h9, h10, h11, h12, h13, h14, h15, h16, h17, h18, h19, h20, h21, h22, h23, h24, h25, h26, h27, h28, h29, h30, h31, h32, h38, h39, h40, h41, h42, h43, h44, h45, fun _ => rfl, fun _ => (by first | rfl | simp)⟩
    | k + 48, hi => omega


end Go.Proofs.Yteaejdkmgicdhaa
