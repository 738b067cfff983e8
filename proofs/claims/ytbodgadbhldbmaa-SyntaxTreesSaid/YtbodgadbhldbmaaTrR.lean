/- A region of the walk of SyntaxTrees: all that is told of two trees, by the program and by the document, held against each other.
   Conditions: those that the theorem states. -/
import Derived.Test.YtbodgadbhldbmaaOrder
import Derived.Test.YtbodgadbhldbmaaRows
import Derived.WalkKit
import Derived.KernelRfl
namespace Go.Proofs.Ytbodgadbhldbmaa
open Go.RowKit
abbrev opsregTrees : Array Oper := #[{ dst := some 18, op := Op.load 28 (Operand.tmp 2), type := 28, pos := "law.go:31", after := #[], guard := none },
  { dst := some 19, op := Op.call { callee := Callee.value (Operand.func 15), args := #[Operand.tmp 18], argTypes := #[28] }, type := 4, pos := "law.go:31", after := #[{ on := 0, ground := Ground.data }], guard := none },
  { dst := some 20, op := Op.load 28 (Operand.tmp 2), type := 28, pos := "law.go:31", after := #[], guard := none },
  { dst := some 21, op := Op.call { callee := Callee.value (Operand.func 19), args := #[Operand.tmp 20], argTypes := #[28] }, type := 4, pos := "law.go:31", after := #[{ on := 2, ground := Ground.data }, { on := 1, ground := Ground.chain }], guard := none },
  { dst := some 22, op := Op.binOp BinOp.eql 4 (Operand.tmp 19) (Operand.tmp 21) 4, type := 4, pos := "law.go:31", after := #[{ on := 1, ground := Ground.data }, { on := 3, ground := Ground.data }], guard := none },
  { dst := some 23, op := Op.move (Operand.tmp 22), type := 4, pos := "law.go:31", after := #[{ on := 4, ground := Ground.data }, { on := 3, ground := Ground.chain }], guard := none },
  { dst := some 24, op := Op.load 28 (Operand.tmp 2), type := 28, pos := "law.go:31", after := #[{ on := 5, ground := Ground.guard }], guard := some (5, true) },
  { dst := some 25, op := Op.call { callee := Callee.value (Operand.func 16), args := #[Operand.tmp 24], argTypes := #[28] }, type := 3, pos := "law.go:31", after := #[{ on := 6, ground := Ground.data }, { on := 5, ground := Ground.chain }, { on := 5, ground := Ground.guard }], guard := some (5, true) },
  { dst := some 26, op := Op.load 28 (Operand.tmp 2), type := 28, pos := "law.go:31", after := #[{ on := 5, ground := Ground.guard }], guard := some (5, true) },
  { dst := some 27, op := Op.call { callee := Callee.value (Operand.func 20), args := #[Operand.tmp 26], argTypes := #[28] }, type := 3, pos := "law.go:31", after := #[{ on := 8, ground := Ground.data }, { on := 7, ground := Ground.chain }, { on := 5, ground := Ground.guard }], guard := some (5, true) },
  { dst := some 28, op := Op.binOp BinOp.eql 3 (Operand.tmp 25) (Operand.tmp 27) 3, type := 4, pos := "law.go:31", after := #[{ on := 7, ground := Ground.data }, { on := 9, ground := Ground.data }, { on := 5, ground := Ground.guard }], guard := some (5, true) },
  { dst := some 29, op := Op.pick (Operand.tmp 23) (Operand.tmp 28) (Operand.const (Value.bool false)), type := 4, pos := "law.go:31", after := #[{ on := 5, ground := Ground.data }, { on := 10, ground := Ground.data }], guard := none },
  { dst := some 30, op := Op.move (Operand.tmp 29), type := 4, pos := "law.go:31", after := #[{ on := 11, ground := Ground.data }, { on := 9, ground := Ground.chain }], guard := none },
  { dst := some 31, op := Op.load 28 (Operand.tmp 2), type := 28, pos := "law.go:31", after := #[{ on := 12, ground := Ground.guard }], guard := some (12, true) },
  { dst := some 32, op := Op.call { callee := Callee.value (Operand.func 17), args := #[Operand.tmp 31], argTypes := #[28] }, type := 3, pos := "law.go:31", after := #[{ on := 13, ground := Ground.data }, { on := 12, ground := Ground.chain }, { on := 12, ground := Ground.guard }], guard := some (12, true) },
  { dst := some 33, op := Op.load 28 (Operand.tmp 2), type := 28, pos := "law.go:31", after := #[{ on := 12, ground := Ground.guard }], guard := some (12, true) },
  { dst := some 34, op := Op.call { callee := Callee.value (Operand.func 21), args := #[Operand.tmp 33], argTypes := #[28] }, type := 3, pos := "law.go:31", after := #[{ on := 15, ground := Ground.data }, { on := 14, ground := Ground.chain }, { on := 12, ground := Ground.guard }], guard := some (12, true) },
  { dst := some 35, op := Op.binOp BinOp.eql 3 (Operand.tmp 32) (Operand.tmp 34) 3, type := 4, pos := "law.go:31", after := #[{ on := 14, ground := Ground.data }, { on := 16, ground := Ground.data }, { on := 12, ground := Ground.guard }], guard := some (12, true) },
  { dst := some 36, op := Op.pick (Operand.tmp 30) (Operand.tmp 35) (Operand.const (Value.bool false)), type := 4, pos := "law.go:31", after := #[{ on := 12, ground := Ground.data }, { on := 17, ground := Ground.data }], guard := none },
  { dst := some 37, op := Op.move (Operand.tmp 36), type := 4, pos := "law.go:31", after := #[{ on := 18, ground := Ground.data }, { on := 16, ground := Ground.chain }], guard := none },
  { dst := some 38, op := Op.load 28 (Operand.tmp 2), type := 28, pos := "law.go:31", after := #[{ on := 19, ground := Ground.guard }], guard := some (19, true) },
  { dst := some 39, op := Op.load 28 (Operand.tmp 3), type := 28, pos := "law.go:31", after := #[{ on := 19, ground := Ground.guard }], guard := some (19, true) },
  { dst := some 40, op := Op.call { callee := Callee.value (Operand.func 22), args := #[Operand.tmp 38, Operand.tmp 39], argTypes := #[28, 28] }, type := 4, pos := "law.go:31", after := #[{ on := 20, ground := Ground.data }, { on := 21, ground := Ground.data }, { on := 19, ground := Ground.chain }, { on := 19, ground := Ground.guard }], guard := some (19, true) },
  { dst := some 41, op := Op.load 28 (Operand.tmp 2), type := 28, pos := "law.go:31", after := #[{ on := 19, ground := Ground.guard }], guard := some (19, true) },
  { dst := some 42, op := Op.load 28 (Operand.tmp 3), type := 28, pos := "law.go:31", after := #[{ on := 19, ground := Ground.guard }], guard := some (19, true) },
  { dst := some 43, op := Op.call { callee := Callee.value (Operand.func 13), args := #[Operand.tmp 41, Operand.tmp 42], argTypes := #[28, 28] }, type := 4, pos := "law.go:31", after := #[{ on := 23, ground := Ground.data }, { on := 24, ground := Ground.data }, { on := 22, ground := Ground.chain }, { on := 19, ground := Ground.guard }], guard := some (19, true) },
  { dst := some 44, op := Op.binOp BinOp.eql 4 (Operand.tmp 40) (Operand.tmp 43) 4, type := 4, pos := "law.go:31", after := #[{ on := 22, ground := Ground.data }, { on := 25, ground := Ground.data }, { on := 19, ground := Ground.guard }], guard := some (19, true) },
  { dst := some 45, op := Op.pick (Operand.tmp 37) (Operand.tmp 44) (Operand.const (Value.bool false)), type := 4, pos := "law.go:31", after := #[{ on := 19, ground := Ground.data }, { on := 26, ground := Ground.data }], guard := none },
  { dst := some 46, op := Op.move (Operand.tmp 45), type := 4, pos := "law.go:31", after := #[{ on := 27, ground := Ground.data }, { on := 25, ground := Ground.chain }], guard := none },
  { dst := some 47, op := Op.load 28 (Operand.tmp 2), type := 28, pos := "law.go:31", after := #[{ on := 28, ground := Ground.guard }], guard := some (28, true) },
  { dst := some 48, op := Op.load 28 (Operand.tmp 2), type := 28, pos := "law.go:31", after := #[{ on := 28, ground := Ground.guard }], guard := some (28, true) },
  { dst := some 49, op := Op.call { callee := Callee.value (Operand.func 22), args := #[Operand.tmp 47, Operand.tmp 48], argTypes := #[28, 28] }, type := 4, pos := "law.go:31", after := #[{ on := 29, ground := Ground.data }, { on := 30, ground := Ground.data }, { on := 28, ground := Ground.chain }, { on := 28, ground := Ground.guard }], guard := some (28, true) },
  { dst := some 50, op := Op.pick (Operand.tmp 46) (Operand.tmp 49) (Operand.const (Value.bool false)), type := 4, pos := "law.go:31", after := #[{ on := 28, ground := Ground.data }, { on := 31, ground := Ground.data }], guard := none },
  { dst := some 4, op := Op.assign (Operand.tmp 50), type := 4, pos := "law.go:31", after := #[{ on := 32, ground := Ground.data }, { on := 31, ground := Ground.chain }, { on := 0, ground := Ground.phase }, { on := 1, ground := Ground.phase }, { on := 2, ground := Ground.phase }, { on := 3, ground := Ground.phase }, { on := 4, ground := Ground.phase }, { on := 5, ground := Ground.phase }, { on := 6, ground := Ground.phase }, { on := 7, ground := Ground.phase }, { on := 8, ground := Ground.phase }, { on := 9, ground := Ground.phase }, { on := 10, ground := Ground.phase }, { on := 11, ground := Ground.phase }, { on := 12, ground := Ground.phase }, { on := 13, ground := Ground.phase }, { on := 14, ground := Ground.phase }, { on := 15, ground := Ground.phase }, { on := 16, ground := Ground.phase }, { on := 17, ground := Ground.phase }, { on := 18, ground := Ground.phase }, { on := 19, ground := Ground.phase }, { on := 20, ground := Ground.phase }, { on := 21, ground := Ground.phase }, { on := 22, ground := Ground.phase }, { on := 23, ground := Ground.phase }, { on := 24, ground := Ground.phase }, { on := 25, ground := Ground.phase }, { on := 26, ground := Ground.phase }, { on := 27, ground := Ground.phase }, { on := 28, ground := Ground.phase }, { on := 29, ground := Ground.phase }, { on := 30, ground := Ground.phase }, { on := 31, ground := Ground.phase }, { on := 32, ground := Ground.phase }], guard := none }]
def WregTrees (ka la ua kb lb ub : Int) (CA CB : Nat → Nat) (sa sb : Option Addr) (na ca nb cb ba bb d1 p1 : Nat) (F1 E1 : Bool) (D : List Deferred) (v0 v1 v5 v6 v7 v8 v9 v10 v11 v12 v13 v14 v15 v16 v17 : Value) (w0 : World) (l : Nat → Bool) (a : Act) (w : World) : Prop :=
  ∃ (y0 y1 y2 y3 y4 y5 y6 y7 y8 y9 y10 y11 y12 y13 y14 y15 y16 y17 y18 y19 y20 y21 y22 y23 y24 y25 y26 y27 y28 y29 y30 y31 y32 y33 : Value), a = { tmps := #[v0, v1, .pointer (some ⟨ba, 0, none⟩), .pointer (some ⟨bb, 0, none⟩), y33, v5, v6, v7, v8, v9, v10, v11, v12, v13, v14, v15, v16, v17, y0, y1, y2, y3, y4, y5, y6, y7, y8, y9, y10, y11, y12, y13, y14, y15, y16, y17, y18, y19, y20, y21, y22, y23, y24, y25, y26, y27, y28, y29, y30, y31, y32], defers := D } ∧ Below w0.heap.size w0 w ∧
    (l 0 = true → y0 = .agg #[.int .i64 ka, .int .u64 (CA 0 : Nat), .int .u64 (CA 1 : Nat), .int .u64 (CA 2 : Nat), .int .u64 (CA 3 : Nat), .slice sa na ca, .int .i64 la, .int .i64 ua]) ∧ (l 1 = true → y1 = .bool F1) ∧ (l 2 = true → y2 = .agg #[.int .i64 ka, .int .u64 (CA 0 : Nat), .int .u64 (CA 1 : Nat), .int .u64 (CA 2 : Nat), .int .u64 (CA 3 : Nat), .slice sa na ca, .int .i64 la, .int .i64 ua]) ∧ (l 3 = true → y3 = .bool F1) ∧ (l 4 = true → y4 = .bool true) ∧ (l 5 = true → y5 = .bool true) ∧ (l 6 = true → y6 = .agg #[.int .i64 ka, .int .u64 (CA 0 : Nat), .int .u64 (CA 1 : Nat), .int .u64 (CA 2 : Nat), .int .u64 (CA 3 : Nat), .slice sa na ca, .int .i64 la, .int .i64 ua]) ∧ (l 7 = true → y7 = .int .i64 (d1 : Nat)) ∧ (l 8 = true → y8 = .agg #[.int .i64 ka, .int .u64 (CA 0 : Nat), .int .u64 (CA 1 : Nat), .int .u64 (CA 2 : Nat), .int .u64 (CA 3 : Nat), .slice sa na ca, .int .i64 la, .int .i64 ua]) ∧ (l 9 = true → y9 = .int .i64 (d1 : Nat)) ∧ (l 10 = true → y10 = .bool true) ∧ (l 11 = true → y11 = .bool true) ∧ (l 12 = true → y12 = .bool true) ∧ (l 13 = true → y13 = .agg #[.int .i64 ka, .int .u64 (CA 0 : Nat), .int .u64 (CA 1 : Nat), .int .u64 (CA 2 : Nat), .int .u64 (CA 3 : Nat), .slice sa na ca, .int .i64 la, .int .i64 ua]) ∧ (l 14 = true → y14 = .int .i64 (p1 : Nat)) ∧ (l 15 = true → y15 = .agg #[.int .i64 ka, .int .u64 (CA 0 : Nat), .int .u64 (CA 1 : Nat), .int .u64 (CA 2 : Nat), .int .u64 (CA 3 : Nat), .slice sa na ca, .int .i64 la, .int .i64 ua]) ∧ (l 16 = true → y16 = .int .i64 (p1 : Nat)) ∧ (l 17 = true → y17 = .bool true) ∧ (l 18 = true → y18 = .bool true) ∧ (l 19 = true → y19 = .bool true) ∧ (l 20 = true → y20 = .agg #[.int .i64 ka, .int .u64 (CA 0 : Nat), .int .u64 (CA 1 : Nat), .int .u64 (CA 2 : Nat), .int .u64 (CA 3 : Nat), .slice sa na ca, .int .i64 la, .int .i64 ua]) ∧ (l 21 = true → y21 = .agg #[.int .i64 kb, .int .u64 (CB 0 : Nat), .int .u64 (CB 1 : Nat), .int .u64 (CB 2 : Nat), .int .u64 (CB 3 : Nat), .slice sb nb cb, .int .i64 lb, .int .i64 ub]) ∧ (l 22 = true → y22 = .bool E1) ∧ (l 23 = true → y23 = .agg #[.int .i64 ka, .int .u64 (CA 0 : Nat), .int .u64 (CA 1 : Nat), .int .u64 (CA 2 : Nat), .int .u64 (CA 3 : Nat), .slice sa na ca, .int .i64 la, .int .i64 ua]) ∧ (l 24 = true → y24 = .agg #[.int .i64 kb, .int .u64 (CB 0 : Nat), .int .u64 (CB 1 : Nat), .int .u64 (CB 2 : Nat), .int .u64 (CB 3 : Nat), .slice sb nb cb, .int .i64 lb, .int .i64 ub]) ∧ (l 25 = true → y25 = .bool E1) ∧ (l 26 = true → y26 = .bool true) ∧ (l 27 = true → y27 = .bool true) ∧ (l 28 = true → y28 = .bool true) ∧ (l 29 = true → y29 = .agg #[.int .i64 ka, .int .u64 (CA 0 : Nat), .int .u64 (CA 1 : Nat), .int .u64 (CA 2 : Nat), .int .u64 (CA 3 : Nat), .slice sa na ca, .int .i64 la, .int .i64 ua]) ∧ (l 30 = true → y30 = .agg #[.int .i64 ka, .int .u64 (CA 0 : Nat), .int .u64 (CA 1 : Nat), .int .u64 (CA 2 : Nat), .int .u64 (CA 3 : Nat), .slice sa na ca, .int .i64 la, .int .i64 ua]) ∧ (l 31 = true → y31 = .bool true) ∧ (l 32 = true → y32 = .bool true) ∧ (l 33 = true → y33 = .bool true)
set_option maxHeartbeats 8000000 in
set_option maxRecDepth 100000 in
theorem regTrees (ka la ua kb lb ub : Int) (CA CB : Nat → Nat) (sa sb : Option Addr) (na ca nb cb ba bb d1 p1 : Nat) (F1 E1 : Bool) (D : List Deferred) (v0 v1 v5 v6 v7 v8 v9 v10 v11 v12 v13 v14 v15 v16 v17 wy0 wy1 wy2 wy3 wy4 wy5 wy6 wy7 wy8 wy9 wy10 wy11 wy12 wy13 wy14 wy15 wy16 wy17 wy18 wy19 wy20 wy21 wy22 wy23 wy24 wy25 wy26 wy27 wy28 wy29 wy30 wy31 wy32 wy33 : Value) (w : World) (hA : ∀ w', Below w.heap.size w w' → w'.cell? ⟨ba, 0, none⟩ = some (.int .i64 ka) ∧ w'.cell? ⟨ba, 1, none⟩ = some (.int .u64 (CA 0 : Nat)) ∧ w'.cell? ⟨ba, 2, none⟩ = some (.int .u64 (CA 1 : Nat)) ∧ w'.cell? ⟨ba, 3, none⟩ = some (.int .u64 (CA 2 : Nat)) ∧ w'.cell? ⟨ba, 4, none⟩ = some (.int .u64 (CA 3 : Nat)) ∧ w'.cell? ⟨ba, 5, none⟩ = some (.slice sa na ca) ∧ w'.cell? ⟨ba, 6, none⟩ = some (.int .i64 la) ∧ w'.cell? ⟨ba, 7, none⟩ = some (.int .i64 ua)) (hB : ∀ w', Below w.heap.size w w' → w'.cell? ⟨bb, 0, none⟩ = some (.int .i64 kb) ∧ w'.cell? ⟨bb, 1, none⟩ = some (.int .u64 (CB 0 : Nat)) ∧ w'.cell? ⟨bb, 2, none⟩ = some (.int .u64 (CB 1 : Nat)) ∧ w'.cell? ⟨bb, 3, none⟩ = some (.int .u64 (CB 2 : Nat)) ∧ w'.cell? ⟨bb, 4, none⟩ = some (.int .u64 (CB 3 : Nat)) ∧ w'.cell? ⟨bb, 5, none⟩ = some (.slice sb nb cb) ∧ w'.cell? ⟨bb, 6, none⟩ = some (.int .i64 lb) ∧ w'.cell? ⟨bb, 7, none⟩ = some (.int .i64 ub)) (q0 : ∀ w', Below w.heap.size w w' → Calls Try.prog 15 #[.agg #[.int .i64 ka, .int .u64 (CA 0 : Nat), .int .u64 (CA 1 : Nat), .int .u64 (CA 2 : Nat), .int .u64 (CA 3 : Nat), .slice sa na ca, .int .i64 la, .int .i64 ua]] w' fun e w2 => e = .returned (.bool F1) ∧ Below w'.heap.size w' w2) (q1 : ∀ w', Below w.heap.size w w' → Calls Try.prog 19 #[.agg #[.int .i64 ka, .int .u64 (CA 0 : Nat), .int .u64 (CA 1 : Nat), .int .u64 (CA 2 : Nat), .int .u64 (CA 3 : Nat), .slice sa na ca, .int .i64 la, .int .i64 ua]] w' fun e w2 => e = .returned (.bool F1) ∧ Below w'.heap.size w' w2) (q2 : ∀ w', Below w.heap.size w w' → Calls Try.prog 16 #[.agg #[.int .i64 ka, .int .u64 (CA 0 : Nat), .int .u64 (CA 1 : Nat), .int .u64 (CA 2 : Nat), .int .u64 (CA 3 : Nat), .slice sa na ca, .int .i64 la, .int .i64 ua]] w' fun e w2 => e = .returned (.int .i64 (d1 : Nat)) ∧ Below w'.heap.size w' w2) (q3 : ∀ w', Below w.heap.size w w' → Calls Try.prog 20 #[.agg #[.int .i64 ka, .int .u64 (CA 0 : Nat), .int .u64 (CA 1 : Nat), .int .u64 (CA 2 : Nat), .int .u64 (CA 3 : Nat), .slice sa na ca, .int .i64 la, .int .i64 ua]] w' fun e w2 => e = .returned (.int .i64 (d1 : Nat)) ∧ Below w'.heap.size w' w2) (q4 : ∀ w', Below w.heap.size w w' → Calls Try.prog 17 #[.agg #[.int .i64 ka, .int .u64 (CA 0 : Nat), .int .u64 (CA 1 : Nat), .int .u64 (CA 2 : Nat), .int .u64 (CA 3 : Nat), .slice sa na ca, .int .i64 la, .int .i64 ua]] w' fun e w2 => e = .returned (.int .i64 (p1 : Nat)) ∧ Below w'.heap.size w' w2) (q5 : ∀ w', Below w.heap.size w w' → Calls Try.prog 21 #[.agg #[.int .i64 ka, .int .u64 (CA 0 : Nat), .int .u64 (CA 1 : Nat), .int .u64 (CA 2 : Nat), .int .u64 (CA 3 : Nat), .slice sa na ca, .int .i64 la, .int .i64 ua]] w' fun e w2 => e = .returned (.int .i64 (p1 : Nat)) ∧ Below w'.heap.size w' w2) (q6 : ∀ w', Below w.heap.size w w' → Calls Try.prog 22 #[.agg #[.int .i64 ka, .int .u64 (CA 0 : Nat), .int .u64 (CA 1 : Nat), .int .u64 (CA 2 : Nat), .int .u64 (CA 3 : Nat), .slice sa na ca, .int .i64 la, .int .i64 ua], .agg #[.int .i64 kb, .int .u64 (CB 0 : Nat), .int .u64 (CB 1 : Nat), .int .u64 (CB 2 : Nat), .int .u64 (CB 3 : Nat), .slice sb nb cb, .int .i64 lb, .int .i64 ub]] w' fun e w2 => e = .returned (.bool E1) ∧ Below w'.heap.size w' w2) (q7 : ∀ w', Below w.heap.size w w' → Calls Try.prog 13 #[.agg #[.int .i64 ka, .int .u64 (CA 0 : Nat), .int .u64 (CA 1 : Nat), .int .u64 (CA 2 : Nat), .int .u64 (CA 3 : Nat), .slice sa na ca, .int .i64 la, .int .i64 ua], .agg #[.int .i64 kb, .int .u64 (CB 0 : Nat), .int .u64 (CB 1 : Nat), .int .u64 (CB 2 : Nat), .int .u64 (CB 3 : Nat), .slice sb nb cb, .int .i64 lb, .int .i64 ub]] w' fun e w2 => e = .returned (.bool E1) ∧ Below w'.heap.size w' w2) (q8 : ∀ w', Below w.heap.size w w' → Calls Try.prog 22 #[.agg #[.int .i64 ka, .int .u64 (CA 0 : Nat), .int .u64 (CA 1 : Nat), .int .u64 (CA 2 : Nat), .int .u64 (CA 3 : Nat), .slice sa na ca, .int .i64 la, .int .i64 ua], .agg #[.int .i64 ka, .int .u64 (CA 0 : Nat), .int .u64 (CA 1 : Nat), .int .u64 (CA 2 : Nat), .int .u64 (CA 3 : Nat), .slice sa na ca, .int .i64 la, .int .i64 ua]] w' fun e w2 => e = .returned (.bool true) ∧ Below w'.heap.size w' w2) (Q : Exit → Act → World → Prop)
    (hQ : ∀ (y0 y1 y2 y3 y4 y5 y6 y7 y8 y9 y10 y11 y12 y13 y14 y15 y16 y17 y18 y19 y20 y21 y22 y23 y24 y25 y26 y27 y28 y29 y30 y31 y32 : Value) (w' : World), Below w.heap.size w w' → Q .normal { tmps := #[v0, v1, .pointer (some ⟨ba, 0, none⟩), .pointer (some ⟨bb, 0, none⟩), .bool true, v5, v6, v7, v8, v9, v10, v11, v12, v13, v14, v15, v16, v17, y0, y1, y2, y3, y4, y5, y6, y7, y8, y9, y10, y11, y12, y13, y14, y15, y16, y17, y18, y19, y20, y21, y22, y23, y24, y25, y26, y27, y28, y29, y30, y31, y32], defers := D } w') :
    (Code.region 3 opsregTrees true).wp Try.prog Q { tmps := #[v0, v1, .pointer (some ⟨ba, 0, none⟩), .pointer (some ⟨bb, 0, none⟩), wy33, v5, v6, v7, v8, v9, v10, v11, v12, v13, v14, v15, v16, v17, wy0, wy1, wy2, wy3, wy4, wy5, wy6, wy7, wy8, wy9, wy10, wy11, wy12, wy13, wy14, wy15, wy16, wy17, wy18, wy19, wy20, wy21, wy22, wy23, wy24, wy25, wy26, wy27, wy28, wy29, wy30, wy31, wy32], defers := D } w := by
  refine wp_region_inv (by kernel_rfl) (WregTrees ka la ua kb lb ub CA CB sa sb na ca nb cb ba bb d1 p1 F1 E1 D v0 v1 v5 v6 v7 v8 v9 v10 v11 v12 v13 v14 v15 v16 v17 w) ?hacy ?h0 ?hstep ?hdone
  case hacy => kernel_rfl
  case h0 => exact ⟨wy0, wy1, wy2, wy3, wy4, wy5, wy6, wy7, wy8, wy9, wy10, wy11, wy12, wy13, wy14, wy15, wy16, wy17, wy18, wy19, wy20, wy21, wy22, wy23, wy24, wy25, wy26, wy27, wy28, wy29, wy30, wy31, wy32, wy33, rfl, below_drewN (Below.refl _ _) 1, (fun p => by cases p), (fun p => by cases p), (fun p => by cases p), (fun p => by cases p), (fun p => by cases p), (fun p => by cases p), (fun p => by cases p), (fun p => by cases p), (fun p => by cases p), (fun p => by cases p), (fun p => by cases p), (fun p => by cases p), (fun p => by cases p), (fun p => by cases p), (fun p => by cases p), (fun p => by cases p), (fun p => by cases p), (fun p => by cases p), (fun p => by cases p), (fun p => by cases p), (fun p => by cases p), (fun p => by cases p), (fun p => by cases p), (fun p => by cases p), (fun p => by cases p), (fun p => by cases p), (fun p => by cases p), (fun p => by cases p), (fun p => by cases p), (fun p => by cases p), (fun p => by cases p), (fun p => by cases p), (fun p => by cases p), (fun p => by cases p)⟩
  case hdone =>
    intro l a w1 hI hall
    obtain ⟨y0, y1, y2, y3, y4, y5, y6, y7, y8, y9, y10, y11, y12, y13, y14, y15, y16, y17, y18, y19, y20, y21, y22, y23, y24, y25, y26, y27, y28, y29, y30, y31, y32, y33, rfl, hb, h0, h1, h2, h3, h4, h5, h6, h7, h8, h9, h10, h11, h12, h13, h14, h15, h16, h17, h18, h19, h20, h21, h22, h23, h24, h25, h26, h27, h28, h29, h30, h31, h32, h33⟩ := hI
    obtain rfl := h33 (hall 33 (by decide))
    exact hQ _ _ _ _ _ _ _ _ _ _ _ _ _ _ _ _ _ _ _ _ _ _ _ _ _ _ _ _ _ _ _ _ _ _ hb
  case hstep =>
    intro l a w1 i o hI ho hl hall
    obtain ⟨y0, y1, y2, y3, y4, y5, y6, y7, y8, y9, y10, y11, y12, y13, y14, y15, y16, y17, y18, y19, y20, y21, y22, y23, y24, y25, y26, y27, y28, y29, y30, y31, y32, y33, rfl, hb, h0, h1, h2, h3, h4, h5, h6, h7, h8, h9, h10, h11, h12, h13, h14, h15, h16, h17, h18, h19, h20, h21, h22, h23, h24, h25, h26, h27, h28, h29, h30, h31, h32, h33⟩ := hI
    have hi : i < 34 := (Array.getElem?_eq_some_iff.1 ho).1
    match i, hi with
    | 0, _ =>
      have ho' := ho
      simp [opsregTrees] at ho
      subst ho
      refine wpOp_one ho' rfl fun K hK => ?_
      obtain ⟨a0, a1, a2, a3, a4, a5, a6, a7⟩ := hA w1 hb
      go_simp
      exact hK _ _ ⟨_, y1, y2, y3, y4, y5, y6, y7, y8, y9, y10, y11, y12, y13, y14, y15, y16, y17, y18, y19, y20, y21, y22, y23, y24, y25, y26, y27, y28, y29, y30, y31, y32, y33, rfl, hb, fun _ => (by first | rfl | simp), h1, h2, h3, h4, h5, h6, h7, h8, h9, h10, h11, h12, h13, h14, h15, h16, h17, h18, h19, h20, h21, h22, h23, h24, h25, h26, h27, h28, h29, h30, h31, h32, h33⟩
    | 1, _ =>
      have ho' := ho
      simp [opsregTrees] at ho
      subst ho
      obtain rfl := h0 (hall ⟨0, .data⟩ (by simp) rfl)
      refine wpOp_one ho' rfl fun K hK => ?_
      go_simp
      go_at_call 15
      refine (q0 _ hb).mono ?_
      rintro e w2 ⟨rfl, hb2⟩
      exact hK _ _ ⟨_, _, y2, y3, y4, y5, y6, y7, y8, y9, y10, y11, y12, y13, y14, y15, y16, y17, y18, y19, y20, y21, y22, y23, y24, y25, y26, y27, y28, y29, y30, y31, y32, y33, rfl, (hb.trans (hb2.mono hb.size)), fun _ => rfl, fun _ => (by first | rfl | simp), h2, h3, h4, h5, h6, h7, h8, h9, h10, h11, h12, h13, h14, h15, h16, h17, h18, h19, h20, h21, h22, h23, h24, h25, h26, h27, h28, h29, h30, h31, h32, h33⟩
    | 2, _ =>
      have ho' := ho
      simp [opsregTrees] at ho
      subst ho
      refine wpOp_one ho' rfl fun K hK => ?_
      obtain ⟨a0, a1, a2, a3, a4, a5, a6, a7⟩ := hA w1 hb
      go_simp
      exact hK _ _ ⟨y0, y1, _, y3, y4, y5, y6, y7, y8, y9, y10, y11, y12, y13, y14, y15, y16, y17, y18, y19, y20, y21, y22, y23, y24, y25, y26, y27, y28, y29, y30, y31, y32, y33, rfl, hb, h0, h1, fun _ => (by first | rfl | simp), h3, h4, h5, h6, h7, h8, h9, h10, h11, h12, h13, h14, h15, h16, h17, h18, h19, h20, h21, h22, h23, h24, h25, h26, h27, h28, h29, h30, h31, h32, h33⟩
    | 3, _ =>
      have ho' := ho
      simp [opsregTrees] at ho
      subst ho
      obtain rfl := h2 (hall ⟨2, .data⟩ (by simp) rfl)
      refine wpOp_one ho' rfl fun K hK => ?_
      go_simp
      go_at_call 19
      refine (q1 _ hb).mono ?_
      rintro e w2 ⟨rfl, hb2⟩
      exact hK _ _ ⟨y0, y1, _, _, y4, y5, y6, y7, y8, y9, y10, y11, y12, y13, y14, y15, y16, y17, y18, y19, y20, y21, y22, y23, y24, y25, y26, y27, y28, y29, y30, y31, y32, y33, rfl, (hb.trans (hb2.mono hb.size)), h0, h1, fun _ => rfl, fun _ => (by first | rfl | simp), h4, h5, h6, h7, h8, h9, h10, h11, h12, h13, h14, h15, h16, h17, h18, h19, h20, h21, h22, h23, h24, h25, h26, h27, h28, h29, h30, h31, h32, h33⟩
    | 4, _ =>
      have ho' := ho
      simp [opsregTrees] at ho
      subst ho
      obtain rfl := h1 (hall ⟨1, .data⟩ (by simp) rfl)
      obtain rfl := h3 (hall ⟨3, .data⟩ (by simp) rfl)
      refine wpOp_one ho' rfl fun K hK => ?_
      go_simp
      exact hK _ _ ⟨y0, _, y2, _, _, y5, y6, y7, y8, y9, y10, y11, y12, y13, y14, y15, y16, y17, y18, y19, y20, y21, y22, y23, y24, y25, y26, y27, y28, y29, y30, y31, y32, y33, rfl, hb, h0, fun _ => rfl, h2, fun _ => rfl, fun _ => (by first | rfl | simp), h5, h6, h7, h8, h9, h10, h11, h12, h13, h14, h15, h16, h17, h18, h19, h20, h21, h22, h23, h24, h25, h26, h27, h28, h29, h30, h31, h32, h33⟩
    | 5, _ =>
      have ho' := ho
      simp [opsregTrees] at ho
      subst ho
      obtain rfl := h4 (hall ⟨4, .data⟩ (by simp) rfl)
      refine wpOp_one ho' rfl fun K hK => ?_
      go_simp
      exact hK _ _ ⟨y0, y1, y2, y3, _, _, y6, y7, y8, y9, y10, y11, y12, y13, y14, y15, y16, y17, y18, y19, y20, y21, y22, y23, y24, y25, y26, y27, y28, y29, y30, y31, y32, y33, rfl, hb, h0, h1, h2, h3, fun _ => rfl, fun _ => (by first | rfl | simp), h6, h7, h8, h9, h10, h11, h12, h13, h14, h15, h16, h17, h18, h19, h20, h21, h22, h23, h24, h25, h26, h27, h28, h29, h30, h31, h32, h33⟩
    | 6, _ =>
      have ho' := ho
      simp [opsregTrees] at ho
      subst ho
      obtain rfl := h5 (hall ⟨5, .guard⟩ (by simp) rfl)
      refine wpOp_on ho' rfl fun K hK => ?_
      obtain ⟨a0, a1, a2, a3, a4, a5, a6, a7⟩ := hA w1 hb
      go_simp
      exact hK _ _ ⟨y0, y1, y2, y3, y4, _, _, y7, y8, y9, y10, y11, y12, y13, y14, y15, y16, y17, y18, y19, y20, y21, y22, y23, y24, y25, y26, y27, y28, y29, y30, y31, y32, y33, rfl, hb, h0, h1, h2, h3, h4, fun _ => rfl, fun _ => (by first | rfl | simp), h7, h8, h9, h10, h11, h12, h13, h14, h15, h16, h17, h18, h19, h20, h21, h22, h23, h24, h25, h26, h27, h28, h29, h30, h31, h32, h33⟩
    | 7, _ =>
      have ho' := ho
      simp [opsregTrees] at ho
      subst ho
      obtain rfl := h5 (hall ⟨5, .chain⟩ (by simp) rfl)
      obtain rfl := h6 (hall ⟨6, .data⟩ (by simp) rfl)
      refine wpOp_on ho' rfl fun K hK => ?_
      go_simp
      go_at_call 16
      refine (q2 _ hb).mono ?_
      rintro e w2 ⟨rfl, hb2⟩
      exact hK _ _ ⟨y0, y1, y2, y3, y4, _, _, _, y8, y9, y10, y11, y12, y13, y14, y15, y16, y17, y18, y19, y20, y21, y22, y23, y24, y25, y26, y27, y28, y29, y30, y31, y32, y33, rfl, (hb.trans (hb2.mono hb.size)), h0, h1, h2, h3, h4, fun _ => rfl, fun _ => rfl, fun _ => (by first | rfl | simp), h8, h9, h10, h11, h12, h13, h14, h15, h16, h17, h18, h19, h20, h21, h22, h23, h24, h25, h26, h27, h28, h29, h30, h31, h32, h33⟩
    | 8, _ =>
      have ho' := ho
      simp [opsregTrees] at ho
      subst ho
      obtain rfl := h5 (hall ⟨5, .guard⟩ (by simp) rfl)
      refine wpOp_on ho' rfl fun K hK => ?_
      obtain ⟨a0, a1, a2, a3, a4, a5, a6, a7⟩ := hA w1 hb
      go_simp
      exact hK _ _ ⟨y0, y1, y2, y3, y4, _, y6, y7, _, y9, y10, y11, y12, y13, y14, y15, y16, y17, y18, y19, y20, y21, y22, y23, y24, y25, y26, y27, y28, y29, y30, y31, y32, y33, rfl, hb, h0, h1, h2, h3, h4, fun _ => rfl, h6, h7, fun _ => (by first | rfl | simp), h9, h10, h11, h12, h13, h14, h15, h16, h17, h18, h19, h20, h21, h22, h23, h24, h25, h26, h27, h28, h29, h30, h31, h32, h33⟩
    | 9, _ =>
      have ho' := ho
      simp [opsregTrees] at ho
      subst ho
      obtain rfl := h5 (hall ⟨5, .guard⟩ (by simp) rfl)
      obtain rfl := h8 (hall ⟨8, .data⟩ (by simp) rfl)
      refine wpOp_on ho' rfl fun K hK => ?_
      go_simp
      go_at_call 20
      refine (q3 _ hb).mono ?_
      rintro e w2 ⟨rfl, hb2⟩
      exact hK _ _ ⟨y0, y1, y2, y3, y4, _, y6, y7, _, _, y10, y11, y12, y13, y14, y15, y16, y17, y18, y19, y20, y21, y22, y23, y24, y25, y26, y27, y28, y29, y30, y31, y32, y33, rfl, (hb.trans (hb2.mono hb.size)), h0, h1, h2, h3, h4, fun _ => rfl, h6, h7, fun _ => rfl, fun _ => (by first | rfl | simp), h10, h11, h12, h13, h14, h15, h16, h17, h18, h19, h20, h21, h22, h23, h24, h25, h26, h27, h28, h29, h30, h31, h32, h33⟩
    | 10, _ =>
      have ho' := ho
      simp [opsregTrees] at ho
      subst ho
      obtain rfl := h5 (hall ⟨5, .guard⟩ (by simp) rfl)
      obtain rfl := h7 (hall ⟨7, .data⟩ (by simp) rfl)
      obtain rfl := h9 (hall ⟨9, .data⟩ (by simp) rfl)
      refine wpOp_on ho' rfl fun K hK => ?_
      go_simp
      exact hK _ _ ⟨y0, y1, y2, y3, y4, _, y6, _, y8, _, _, y11, y12, y13, y14, y15, y16, y17, y18, y19, y20, y21, y22, y23, y24, y25, y26, y27, y28, y29, y30, y31, y32, y33, rfl, hb, h0, h1, h2, h3, h4, fun _ => rfl, h6, fun _ => rfl, h8, fun _ => rfl, fun _ => (by first | rfl | simp), h11, h12, h13, h14, h15, h16, h17, h18, h19, h20, h21, h22, h23, h24, h25, h26, h27, h28, h29, h30, h31, h32, h33⟩
    | 11, _ =>
      have ho' := ho
      simp [opsregTrees] at ho
      subst ho
      obtain rfl := h5 (hall ⟨5, .data⟩ (by simp) rfl)
      obtain rfl := h10 (hall ⟨10, .data⟩ (by simp) rfl)
      refine wpOp_one ho' rfl fun K hK => ?_
      go_simp
      exact hK _ _ ⟨y0, y1, y2, y3, y4, _, y6, y7, y8, y9, _, _, y12, y13, y14, y15, y16, y17, y18, y19, y20, y21, y22, y23, y24, y25, y26, y27, y28, y29, y30, y31, y32, y33, rfl, hb, h0, h1, h2, h3, h4, fun _ => rfl, h6, h7, h8, h9, fun _ => rfl, fun _ => (by first | rfl | simp), h12, h13, h14, h15, h16, h17, h18, h19, h20, h21, h22, h23, h24, h25, h26, h27, h28, h29, h30, h31, h32, h33⟩
    | 12, _ =>
      have ho' := ho
      simp [opsregTrees] at ho
      subst ho
      obtain rfl := h11 (hall ⟨11, .data⟩ (by simp) rfl)
      refine wpOp_one ho' rfl fun K hK => ?_
      go_simp
      exact hK _ _ ⟨y0, y1, y2, y3, y4, y5, y6, y7, y8, y9, y10, _, _, y13, y14, y15, y16, y17, y18, y19, y20, y21, y22, y23, y24, y25, y26, y27, y28, y29, y30, y31, y32, y33, rfl, hb, h0, h1, h2, h3, h4, h5, h6, h7, h8, h9, h10, fun _ => rfl, fun _ => (by first | rfl | simp), h13, h14, h15, h16, h17, h18, h19, h20, h21, h22, h23, h24, h25, h26, h27, h28, h29, h30, h31, h32, h33⟩
    | 13, _ =>
      have ho' := ho
      simp [opsregTrees] at ho
      subst ho
      obtain rfl := h12 (hall ⟨12, .guard⟩ (by simp) rfl)
      refine wpOp_on ho' rfl fun K hK => ?_
      obtain ⟨a0, a1, a2, a3, a4, a5, a6, a7⟩ := hA w1 hb
      go_simp
      exact hK _ _ ⟨y0, y1, y2, y3, y4, y5, y6, y7, y8, y9, y10, y11, _, _, y14, y15, y16, y17, y18, y19, y20, y21, y22, y23, y24, y25, y26, y27, y28, y29, y30, y31, y32, y33, rfl, hb, h0, h1, h2, h3, h4, h5, h6, h7, h8, h9, h10, h11, fun _ => rfl, fun _ => (by first | rfl | simp), h14, h15, h16, h17, h18, h19, h20, h21, h22, h23, h24, h25, h26, h27, h28, h29, h30, h31, h32, h33⟩
    | 14, _ =>
      have ho' := ho
      simp [opsregTrees] at ho
      subst ho
      obtain rfl := h12 (hall ⟨12, .chain⟩ (by simp) rfl)
      obtain rfl := h13 (hall ⟨13, .data⟩ (by simp) rfl)
      refine wpOp_on ho' rfl fun K hK => ?_
      go_simp
      go_at_call 17
      refine (q4 _ hb).mono ?_
      rintro e w2 ⟨rfl, hb2⟩
      exact hK _ _ ⟨y0, y1, y2, y3, y4, y5, y6, y7, y8, y9, y10, y11, _, _, _, y15, y16, y17, y18, y19, y20, y21, y22, y23, y24, y25, y26, y27, y28, y29, y30, y31, y32, y33, rfl, (hb.trans (hb2.mono hb.size)), h0, h1, h2, h3, h4, h5, h6, h7, h8, h9, h10, h11, fun _ => rfl, fun _ => rfl, fun _ => (by first | rfl | simp), h15, h16, h17, h18, h19, h20, h21, h22, h23, h24, h25, h26, h27, h28, h29, h30, h31, h32, h33⟩
    | 15, _ =>
      have ho' := ho
      simp [opsregTrees] at ho
      subst ho
      obtain rfl := h12 (hall ⟨12, .guard⟩ (by simp) rfl)
      refine wpOp_on ho' rfl fun K hK => ?_
      obtain ⟨a0, a1, a2, a3, a4, a5, a6, a7⟩ := hA w1 hb
      go_simp
      exact hK _ _ ⟨y0, y1, y2, y3, y4, y5, y6, y7, y8, y9, y10, y11, _, y13, y14, _, y16, y17, y18, y19, y20, y21, y22, y23, y24, y25, y26, y27, y28, y29, y30, y31, y32, y33, rfl, hb, h0, h1, h2, h3, h4, h5, h6, h7, h8, h9, h10, h11, fun _ => rfl, h13, h14, fun _ => (by first | rfl | simp), h16, h17, h18, h19, h20, h21, h22, h23, h24, h25, h26, h27, h28, h29, h30, h31, h32, h33⟩
    | 16, _ =>
      have ho' := ho
      simp [opsregTrees] at ho
      subst ho
      obtain rfl := h12 (hall ⟨12, .guard⟩ (by simp) rfl)
      obtain rfl := h15 (hall ⟨15, .data⟩ (by simp) rfl)
      refine wpOp_on ho' rfl fun K hK => ?_
      go_simp
      go_at_call 21
      refine (q5 _ hb).mono ?_
      rintro e w2 ⟨rfl, hb2⟩
      exact hK _ _ ⟨y0, y1, y2, y3, y4, y5, y6, y7, y8, y9, y10, y11, _, y13, y14, _, _, y17, y18, y19, y20, y21, y22, y23, y24, y25, y26, y27, y28, y29, y30, y31, y32, y33, rfl, (hb.trans (hb2.mono hb.size)), h0, h1, h2, h3, h4, h5, h6, h7, h8, h9, h10, h11, fun _ => rfl, h13, h14, fun _ => rfl, fun _ => (by first | rfl | simp), h17, h18, h19, h20, h21, h22, h23, h24, h25, h26, h27, h28, h29, h30, h31, h32, h33⟩
    | 17, _ =>
      have ho' := ho
      simp [opsregTrees] at ho
      subst ho
      obtain rfl := h12 (hall ⟨12, .guard⟩ (by simp) rfl)
      obtain rfl := h14 (hall ⟨14, .data⟩ (by simp) rfl)
      obtain rfl := h16 (hall ⟨16, .data⟩ (by simp) rfl)
      refine wpOp_on ho' rfl fun K hK => ?_
      go_simp
      exact hK _ _ ⟨y0, y1, y2, y3, y4, y5, y6, y7, y8, y9, y10, y11, _, y13, _, y15, _, _, y18, y19, y20, y21, y22, y23, y24, y25, y26, y27, y28, y29, y30, y31, y32, y33, rfl, hb, h0, h1, h2, h3, h4, h5, h6, h7, h8, h9, h10, h11, fun _ => rfl, h13, fun _ => rfl, h15, fun _ => rfl, fun _ => (by first | rfl | simp), h18, h19, h20, h21, h22, h23, h24, h25, h26, h27, h28, h29, h30, h31, h32, h33⟩
    | 18, _ =>
      have ho' := ho
      simp [opsregTrees] at ho
      subst ho
      obtain rfl := h12 (hall ⟨12, .data⟩ (by simp) rfl)
      obtain rfl := h17 (hall ⟨17, .data⟩ (by simp) rfl)
      refine wpOp_one ho' rfl fun K hK => ?_
      go_simp
      exact hK _ _ ⟨y0, y1, y2, y3, y4, y5, y6, y7, y8, y9, y10, y11, _, y13, y14, y15, y16, _, _, y19, y20, y21, y22, y23, y24, y25, y26, y27, y28, y29, y30, y31, y32, y33, rfl, hb, h0, h1, h2, h3, h4, h5, h6, h7, h8, h9, h10, h11, fun _ => rfl, h13, h14, h15, h16, fun _ => rfl, fun _ => (by first | rfl | simp), h19, h20, h21, h22, h23, h24, h25, h26, h27, h28, h29, h30, h31, h32, h33⟩
    | 19, _ =>
      have ho' := ho
      simp [opsregTrees] at ho
      subst ho
      obtain rfl := h18 (hall ⟨18, .data⟩ (by simp) rfl)
      refine wpOp_one ho' rfl fun K hK => ?_
      go_simp
      exact hK _ _ ⟨y0, y1, y2, y3, y4, y5, y6, y7, y8, y9, y10, y11, y12, y13, y14, y15, y16, y17, _, _, y20, y21, y22, y23, y24, y25, y26, y27, y28, y29, y30, y31, y32, y33, rfl, hb, h0, h1, h2, h3, h4, h5, h6, h7, h8, h9, h10, h11, h12, h13, h14, h15, h16, h17, fun _ => rfl, fun _ => (by first | rfl | simp), h20, h21, h22, h23, h24, h25, h26, h27, h28, h29, h30, h31, h32, h33⟩
    | 20, _ =>
      have ho' := ho
      simp [opsregTrees] at ho
      subst ho
      obtain rfl := h19 (hall ⟨19, .guard⟩ (by simp) rfl)
      refine wpOp_on ho' rfl fun K hK => ?_
      obtain ⟨a0, a1, a2, a3, a4, a5, a6, a7⟩ := hA w1 hb
      go_simp
      exact hK _ _ ⟨y0, y1, y2, y3, y4, y5, y6, y7, y8, y9, y10, y11, y12, y13, y14, y15, y16, y17, y18, _, _, y21, y22, y23, y24, y25, y26, y27, y28, y29, y30, y31, y32, y33, rfl, hb, h0, h1, h2, h3, h4, h5, h6, h7, h8, h9, h10, h11, h12, h13, h14, h15, h16, h17, h18, fun _ => rfl, fun _ => (by first | rfl | simp), h21, h22, h23, h24, h25, h26, h27, h28, h29, h30, h31, h32, h33⟩
    | 21, _ =>
      have ho' := ho
      simp [opsregTrees] at ho
      subst ho
      obtain rfl := h19 (hall ⟨19, .guard⟩ (by simp) rfl)
      refine wpOp_on ho' rfl fun K hK => ?_
      obtain ⟨b0, b1, b2, b3, b4, b5, b6, b7⟩ := hB w1 hb
      go_simp
      exact hK _ _ ⟨y0, y1, y2, y3, y4, y5, y6, y7, y8, y9, y10, y11, y12, y13, y14, y15, y16, y17, y18, _, y20, _, y22, y23, y24, y25, y26, y27, y28, y29, y30, y31, y32, y33, rfl, hb, h0, h1, h2, h3, h4, h5, h6, h7, h8, h9, h10, h11, h12, h13, h14, h15, h16, h17, h18, fun _ => rfl, h20, fun _ => (by first | rfl | simp), h22, h23, h24, h25, h26, h27, h28, h29, h30, h31, h32, h33⟩
    | 22, _ =>
      have ho' := ho
      simp [opsregTrees] at ho
      subst ho
      obtain rfl := h19 (hall ⟨19, .chain⟩ (by simp) rfl)
      obtain rfl := h20 (hall ⟨20, .data⟩ (by simp) rfl)
      obtain rfl := h21 (hall ⟨21, .data⟩ (by simp) rfl)
      refine wpOp_on ho' rfl fun K hK => ?_
      go_simp
      go_at_call 22
      refine (q6 _ hb).mono ?_
      rintro e w2 ⟨rfl, hb2⟩
      exact hK _ _ ⟨y0, y1, y2, y3, y4, y5, y6, y7, y8, y9, y10, y11, y12, y13, y14, y15, y16, y17, y18, _, _, _, _, y23, y24, y25, y26, y27, y28, y29, y30, y31, y32, y33, rfl, (hb.trans (hb2.mono hb.size)), h0, h1, h2, h3, h4, h5, h6, h7, h8, h9, h10, h11, h12, h13, h14, h15, h16, h17, h18, fun _ => rfl, fun _ => rfl, fun _ => rfl, fun _ => (by first | rfl | simp), h23, h24, h25, h26, h27, h28, h29, h30, h31, h32, h33⟩
    | 23, _ =>
      have ho' := ho
      simp [opsregTrees] at ho
      subst ho
      obtain rfl := h19 (hall ⟨19, .guard⟩ (by simp) rfl)
      refine wpOp_on ho' rfl fun K hK => ?_
      obtain ⟨a0, a1, a2, a3, a4, a5, a6, a7⟩ := hA w1 hb
      go_simp
      exact hK _ _ ⟨y0, y1, y2, y3, y4, y5, y6, y7, y8, y9, y10, y11, y12, y13, y14, y15, y16, y17, y18, _, y20, y21, y22, _, y24, y25, y26, y27, y28, y29, y30, y31, y32, y33, rfl, hb, h0, h1, h2, h3, h4, h5, h6, h7, h8, h9, h10, h11, h12, h13, h14, h15, h16, h17, h18, fun _ => rfl, h20, h21, h22, fun _ => (by first | rfl | simp), h24, h25, h26, h27, h28, h29, h30, h31, h32, h33⟩
    | 24, _ =>
      have ho' := ho
      simp [opsregTrees] at ho
      subst ho
      obtain rfl := h19 (hall ⟨19, .guard⟩ (by simp) rfl)
      refine wpOp_on ho' rfl fun K hK => ?_
      obtain ⟨b0, b1, b2, b3, b4, b5, b6, b7⟩ := hB w1 hb
      go_simp
      exact hK _ _ ⟨y0, y1, y2, y3, y4, y5, y6, y7, y8, y9, y10, y11, y12, y13, y14, y15, y16, y17, y18, _, y20, y21, y22, y23, _, y25, y26, y27, y28, y29, y30, y31, y32, y33, rfl, hb, h0, h1, h2, h3, h4, h5, h6, h7, h8, h9, h10, h11, h12, h13, h14, h15, h16, h17, h18, fun _ => rfl, h20, h21, h22, h23, fun _ => (by first | rfl | simp), h25, h26, h27, h28, h29, h30, h31, h32, h33⟩
    | 25, _ =>
      have ho' := ho
      simp [opsregTrees] at ho
      subst ho
      obtain rfl := h19 (hall ⟨19, .guard⟩ (by simp) rfl)
      obtain rfl := h23 (hall ⟨23, .data⟩ (by simp) rfl)
      obtain rfl := h24 (hall ⟨24, .data⟩ (by simp) rfl)
      refine wpOp_on ho' rfl fun K hK => ?_
      go_simp
      go_at_call 13
      refine (q7 _ hb).mono ?_
      rintro e w2 ⟨rfl, hb2⟩
      exact hK _ _ ⟨y0, y1, y2, y3, y4, y5, y6, y7, y8, y9, y10, y11, y12, y13, y14, y15, y16, y17, y18, _, y20, y21, y22, _, _, _, y26, y27, y28, y29, y30, y31, y32, y33, rfl, (hb.trans (hb2.mono hb.size)), h0, h1, h2, h3, h4, h5, h6, h7, h8, h9, h10, h11, h12, h13, h14, h15, h16, h17, h18, fun _ => rfl, h20, h21, h22, fun _ => rfl, fun _ => rfl, fun _ => (by first | rfl | simp), h26, h27, h28, h29, h30, h31, h32, h33⟩
    | 26, _ =>
      have ho' := ho
      simp [opsregTrees] at ho
      subst ho
      obtain rfl := h19 (hall ⟨19, .guard⟩ (by simp) rfl)
      obtain rfl := h22 (hall ⟨22, .data⟩ (by simp) rfl)
      obtain rfl := h25 (hall ⟨25, .data⟩ (by simp) rfl)
      refine wpOp_on ho' rfl fun K hK => ?_
      go_simp
      exact hK _ _ ⟨y0, y1, y2, y3, y4, y5, y6, y7, y8, y9, y10, y11, y12, y13, y14, y15, y16, y17, y18, _, y20, y21, _, y23, y24, _, _, y27, y28, y29, y30, y31, y32, y33, rfl, hb, h0, h1, h2, h3, h4, h5, h6, h7, h8, h9, h10, h11, h12, h13, h14, h15, h16, h17, h18, fun _ => rfl, h20, h21, fun _ => rfl, h23, h24, fun _ => rfl, fun _ => (by first | rfl | simp), h27, h28, h29, h30, h31, h32, h33⟩
    | 27, _ =>
      have ho' := ho
      simp [opsregTrees] at ho
      subst ho
      obtain rfl := h19 (hall ⟨19, .data⟩ (by simp) rfl)
      obtain rfl := h26 (hall ⟨26, .data⟩ (by simp) rfl)
      refine wpOp_one ho' rfl fun K hK => ?_
      go_simp
      exact hK _ _ ⟨y0, y1, y2, y3, y4, y5, y6, y7, y8, y9, y10, y11, y12, y13, y14, y15, y16, y17, y18, _, y20, y21, y22, y23, y24, y25, _, _, y28, y29, y30, y31, y32, y33, rfl, hb, h0, h1, h2, h3, h4, h5, h6, h7, h8, h9, h10, h11, h12, h13, h14, h15, h16, h17, h18, fun _ => rfl, h20, h21, h22, h23, h24, h25, fun _ => rfl, fun _ => (by first | rfl | simp), h28, h29, h30, h31, h32, h33⟩
    | 28, _ =>
      have ho' := ho
      simp [opsregTrees] at ho
      subst ho
      obtain rfl := h27 (hall ⟨27, .data⟩ (by simp) rfl)
      refine wpOp_one ho' rfl fun K hK => ?_
      go_simp
      exact hK _ _ ⟨y0, y1, y2, y3, y4, y5, y6, y7, y8, y9, y10, y11, y12, y13, y14, y15, y16, y17, y18, y19, y20, y21, y22, y23, y24, y25, y26, _, _, y29, y30, y31, y32, y33, rfl, hb, h0, h1, h2, h3, h4, h5, h6, h7, h8, h9, h10, h11, h12, h13, h14, h15, h16, h17, h18, h19, h20, h21, h22, h23, h24, h25, h26, fun _ => rfl, fun _ => (by first | rfl | simp), h29, h30, h31, h32, h33⟩
    | 29, _ =>
      have ho' := ho
      simp [opsregTrees] at ho
      subst ho
      obtain rfl := h28 (hall ⟨28, .guard⟩ (by simp) rfl)
      refine wpOp_on ho' rfl fun K hK => ?_
      obtain ⟨a0, a1, a2, a3, a4, a5, a6, a7⟩ := hA w1 hb
      go_simp
      exact hK _ _ ⟨y0, y1, y2, y3, y4, y5, y6, y7, y8, y9, y10, y11, y12, y13, y14, y15, y16, y17, y18, y19, y20, y21, y22, y23, y24, y25, y26, y27, _, _, y30, y31, y32, y33, rfl, hb, h0, h1, h2, h3, h4, h5, h6, h7, h8, h9, h10, h11, h12, h13, h14, h15, h16, h17, h18, h19, h20, h21, h22, h23, h24, h25, h26, h27, fun _ => rfl, fun _ => (by first | rfl | simp), h30, h31, h32, h33⟩
    | 30, _ =>
      have ho' := ho
      simp [opsregTrees] at ho
      subst ho
      obtain rfl := h28 (hall ⟨28, .guard⟩ (by simp) rfl)
      refine wpOp_on ho' rfl fun K hK => ?_
      obtain ⟨a0, a1, a2, a3, a4, a5, a6, a7⟩ := hA w1 hb
      go_simp
      exact hK _ _ ⟨y0, y1, y2, y3, y4, y5, y6, y7, y8, y9, y10, y11, y12, y13, y14, y15, y16, y17, y18, y19, y20, y21, y22, y23, y24, y25, y26, y27, _, y29, _, y31, y32, y33, rfl, hb, h0, h1, h2, h3, h4, h5, h6, h7, h8, h9, h10, h11, h12, h13, h14, h15, h16, h17, h18, h19, h20, h21, h22, h23, h24, h25, h26, h27, fun _ => rfl, h29, fun _ => (by first | rfl | simp), h31, h32, h33⟩
    | 31, _ =>
      have ho' := ho
      simp [opsregTrees] at ho
      subst ho
      obtain rfl := h28 (hall ⟨28, .chain⟩ (by simp) rfl)
      obtain rfl := h29 (hall ⟨29, .data⟩ (by simp) rfl)
      obtain rfl := h30 (hall ⟨30, .data⟩ (by simp) rfl)
      refine wpOp_on ho' rfl fun K hK => ?_
      go_simp
      go_at_call 22
      refine (q8 _ hb).mono ?_
      rintro e w2 ⟨rfl, hb2⟩
      exact hK _ _ ⟨y0, y1, y2, y3, y4, y5, y6, y7, y8, y9, y10, y11, y12, y13, y14, y15, y16, y17, y18, y19, y20, y21, y22, y23, y24, y25, y26, y27, _, _, _, _, y32, y33, rfl, (hb.trans (hb2.mono hb.size)), h0, h1, h2, h3, h4, h5, h6, h7, h8, h9, h10, h11, h12, h13, h14, h15, h16, h17, h18, h19, h20, h21, h22, h23, h24, h25, h26, h27, fun _ => rfl, fun _ => rfl, fun _ => rfl, fun _ => (by first | rfl | simp), h32, h33⟩
    | 32, _ =>
      have ho' := ho
      simp [opsregTrees] at ho
      subst ho
      obtain rfl := h28 (hall ⟨28, .data⟩ (by simp) rfl)
      obtain rfl := h31 (hall ⟨31, .data⟩ (by simp) rfl)
      refine wpOp_one ho' rfl fun K hK => ?_
      go_simp
      exact hK _ _ ⟨y0, y1, y2, y3, y4, y5, y6, y7, y8, y9, y10, y11, y12, y13, y14, y15, y16, y17, y18, y19, y20, y21, y22, y23, y24, y25, y26, y27, _, y29, y30, _, _, y33, rfl, hb, h0, h1, h2, h3, h4, h5, h6, h7, h8, h9, h10, h11, h12, h13, h14, h15, h16, h17, h18, h19, h20, h21, h22, h23, h24, h25, h26, h27, fun _ => rfl, h29, h30, fun _ => rfl, fun _ => (by first | rfl | simp), h33⟩
    | 33, _ =>
      have ho' := ho
      simp [opsregTrees] at ho
      subst ho
      obtain rfl := h32 (hall ⟨32, .data⟩ (by simp) rfl)
      refine wpOp_one ho' rfl fun K hK => ?_
      go_simp
      exact hK _ _ ⟨y0, y1, y2, y3, y4, y5, y6, y7, y8, y9, y10, y11, y12, y13, y14, y15, y16, y17, y18, y19, y20, y21, y22, y23, y24, y25, y26, y27, y28, y29, y30, y31, _, _, rfl, hb, h0, h1, h2, h3, h4, h5, h6, h7, h8, h9, h10, h11, h12, h13, h14, h15, h16, h17, h18, h19, h20, h21, h22, h23, h24, h25, h26, h27, h28, h29, h30, h31, fun _ => rfl, fun _ => (by first | rfl | simp)⟩
    | k + 34, hi => omega

end Go.Proofs.Ytbodgadbhldbmaa
