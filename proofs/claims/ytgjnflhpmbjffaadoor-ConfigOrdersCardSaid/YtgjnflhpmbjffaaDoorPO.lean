/- Of every three configs the statement ConfigOrders returns true, and they read afterwards as before; the card: what its row lists is tied to the program's text.
   No condition. -/
import Derived.Test.YtgjnflhpmbjffaaDoorPG
import Derived.Test.YtgjnflhpmbjffaaDoorRows
import Derived.WalkKit
import Derived.KernelRfl
import Derived.Test.YtgjnflhpmbjffaaDoorPZ
import Derived.Test.YtgjnflhpmbjffaaDoorPA
import Derived.Test.YtgjnflhpmbjffaaDoorPM
import Derived.Test.YtgjnflhpmbjffaaDoorCards
import Derived.Test.YtgjnflhpmbjffaaDoorTie
import Derived.ProofKit
import Derived.LaidMore
import Derived.OpenShut
import Derived.ChangeOld
import Derived.Below
import Derived.SevenTiedAt

/- A drawn region of the walk of ConfigOrders: the orders of each two of three configs.
   Conditions: the configs lie in memory; Order's contract. -/
namespace Go.Proofs.YtgjnflhpmbjffaaDoor
open Go.RowKit
abbrev opsregGo : Array Oper := #[{ dst := some 10, op := Op.load 61 (Operand.tmp 3), type := 61, pos := "law.go:116", after := #[], guard := none },
 { dst := some 11, op := Op.load 61 (Operand.tmp 4), type := 61, pos := "law.go:116", after := #[], guard := none },
 { dst := some 12, op := Op.call { callee := Callee.value (Operand.func 24), args := #[Operand.tmp 10, Operand.tmp 11], argTypes := #[61, 61] }, type := 3, pos := "law.go:116", after := #[{ on := 0, ground := Ground.data }, { on := 1, ground := Ground.data }], guard := none },
 { dst := some 13, op := Op.load 61 (Operand.tmp 4), type := 61, pos := "law.go:116", after := #[], guard := none },
 { dst := some 14, op := Op.load 61 (Operand.tmp 5), type := 61, pos := "law.go:116", after := #[], guard := none },
 { dst := some 15, op := Op.call { callee := Callee.value (Operand.func 24), args := #[Operand.tmp 13, Operand.tmp 14], argTypes := #[61, 61] }, type := 3, pos := "law.go:116", after := #[{ on := 3, ground := Ground.data }, { on := 4, ground := Ground.data }, { on := 2, ground := Ground.chain }], guard := none },
 { dst := some 16, op := Op.load 61 (Operand.tmp 3), type := 61, pos := "law.go:116", after := #[], guard := none },
 { dst := some 17, op := Op.load 61 (Operand.tmp 5), type := 61, pos := "law.go:116", after := #[], guard := none },
 { dst := some 18, op := Op.call { callee := Callee.value (Operand.func 24), args := #[Operand.tmp 16, Operand.tmp 17], argTypes := #[61, 61] }, type := 3, pos := "law.go:116", after := #[{ on := 6, ground := Ground.data }, { on := 7, ground := Ground.data }, { on := 5, ground := Ground.chain }], guard := none },
 { dst := some 7, op := Op.assign (Operand.tmp 12), type := 3, pos := "law.go:116", after := #[{ on := 2, ground := Ground.data }, { on := 8, ground := Ground.chain }, { on := 0, ground := Ground.phase }, { on := 1, ground := Ground.phase }, { on := 2, ground := Ground.phase }, { on := 3, ground := Ground.textOnly Departure.lateStores }, { on := 4, ground := Ground.textOnly Departure.lateStores }, { on := 5, ground := Ground.textOnly Departure.lateStoresUnsure }, { on := 6, ground := Ground.textOnly Departure.lateStores }, { on := 7, ground := Ground.textOnly Departure.lateStores }, { on := 8, ground := Ground.textOnly Departure.lateStoresUnsure }], guard := none },
 { dst := some 8, op := Op.assign (Operand.tmp 15), type := 3, pos := "law.go:116", after := #[{ on := 5, ground := Ground.data }, { on := 9, ground := Ground.chain }, { on := 0, ground := Ground.phase }, { on := 1, ground := Ground.phase }, { on := 2, ground := Ground.phase }, { on := 3, ground := Ground.phase }, { on := 4, ground := Ground.phase }, { on := 5, ground := Ground.phase }, { on := 6, ground := Ground.textOnly Departure.lateStores }, { on := 7, ground := Ground.textOnly Departure.lateStores }, { on := 8, ground := Ground.textOnly Departure.lateStoresUnsure }, { on := 9, ground := Ground.phase }], guard := none },
 { dst := some 9, op := Op.assign (Operand.tmp 18), type := 3, pos := "law.go:116", after := #[{ on := 8, ground := Ground.data }, { on := 10, ground := Ground.chain }, { on := 0, ground := Ground.phase }, { on := 1, ground := Ground.phase }, { on := 2, ground := Ground.phase }, { on := 3, ground := Ground.phase }, { on := 4, ground := Ground.phase }, { on := 5, ground := Ground.phase }, { on := 6, ground := Ground.phase }, { on := 7, ground := Ground.phase }, { on := 8, ground := Ground.phase }, { on := 9, ground := Ground.phase }, { on := 10, ground := Ground.phase }], guard := none }]
def WregGo (ca cb cc : Array Value) (ba bb bc : Nat) (ox oy oz : Int) (D : List Deferred) (v0 v1 v2 v6 v19 v20 v21 v22 v23 v24 v25 v26 v27 v28 v29 v30 v31 v32 v33 v34 v35 v36 v37 v38 v39 v40 v41 v42 v43 v44 v45 v46 v47 v48 v49 v50 v51 v52 v53 v54 : Value) (w0 : World) (l : Nat → Bool) (a : Act) (w : World) : Prop :=
 ∃ (y0 y1 y2 y3 y4 y5 y6 y7 y8 y9 y10 y11 : Value), a = { tmps := #[v0, v1, v2, .pointer (some ⟨ba, 0, none⟩), .pointer (some ⟨bb, 0, none⟩), .pointer (some ⟨bc, 0, none⟩), v6, y9, y10, y11, y0, y1, y2, y3, y4, y5, y6, y7, y8, v19, v20, v21, v22, v23, v24, v25, v26, v27, v28, v29, v30, v31, v32, v33, v34, v35, v36, v37, v38, v39, v40, v41, v42, v43, v44, v45, v46, v47, v48, v49, v50, v51, v52, v53, v54], defers := D } ∧ Below w0.heap.size w0 w ∧
  (l 0 = true → y0 = .agg ca) ∧ (l 1 = true → y1 = .agg cb) ∧ (l 2 = true → y2 = .int .i64 ox) ∧ (l 3 = true → y3 = .agg cb) ∧ (l 4 = true → y4 = .agg cc) ∧ (l 5 = true → y5 = .int .i64 oy) ∧ (l 6 = true → y6 = .agg ca) ∧ (l 7 = true → y7 = .agg cc) ∧ (l 8 = true → y8 = .int .i64 oz) ∧ (l 9 = true → y9 = .int .i64 ox) ∧ (l 10 = true → y10 = .int .i64 oy) ∧ (l 11 = true → y11 = .int .i64 oz)
set_option maxHeartbeats 8000000 in
set_option maxRecDepth 100000 in
theorem regGo (ca cb cc : Array Value) (ba bb bc : Nat) (ox oy oz : Int) (D : List Deferred) (v0 v1 v2 v6 v19 v20 v21 v22 v23 v24 v25 v26 v27 v28 v29 v30 v31 v32 v33 v34 v35 v36 v37 v38 v39 v40 v41 v42 v43 v44 v45 v46 v47 v48 v49 v50 v51 v52 v53 v54 wy0 wy1 wy2 wy3 wy4 wy5 wy6 wy7 wy8 wy9 wy10 wy11 : Value) (w : World) (kA : ∀ w', Below w.heap.size w w' → w'.heap[ba]? = some (.cells ca 61 (0, 0))) (kB : ∀ w', Below w.heap.size w w' → w'.heap[bb]? = some (.cells cb 61 (0, 0))) (kC : ∀ w', Below w.heap.size w w' → w'.heap[bc]? = some (.cells cc 61 (0, 0))) (sA : (Tryd.prog.info? 61).map (·.size) = some ca.size) (sB : (Tryd.prog.info? 61).map (·.size) = some cb.size) (sC : (Tryd.prog.info? 61).map (·.size) = some cc.size) (kx : ∀ w', Below w.heap.size w w' → Calls Tryd.prog 24 #[.agg ca, .agg cb] w' fun e w2 => e = .returned (.int .i64 ox) ∧ Below w'.heap.size w' w2) (ky : ∀ w', Below w.heap.size w w' → Calls Tryd.prog 24 #[.agg cb, .agg cc] w' fun e w2 => e = .returned (.int .i64 oy) ∧ Below w'.heap.size w' w2) (kz : ∀ w', Below w.heap.size w w' → Calls Tryd.prog 24 #[.agg ca, .agg cc] w' fun e w2 => e = .returned (.int .i64 oz) ∧ Below w'.heap.size w' w2) (Q : Exit → Act → World → Prop)
  (hQ : ∀ (w' : World), Below w.heap.size w w' → Q .normal { tmps := #[v0, v1, v2, .pointer (some ⟨ba, 0, none⟩), .pointer (some ⟨bb, 0, none⟩), .pointer (some ⟨bc, 0, none⟩), v6, .int .i64 ox, .int .i64 oy, .int .i64 oz, .agg ca, .agg cb, .int .i64 ox, .agg cb, .agg cc, .int .i64 oy, .agg ca, .agg cc, .int .i64 oz, v19, v20, v21, v22, v23, v24, v25, v26, v27, v28, v29, v30, v31, v32, v33, v34, v35, v36, v37, v38, v39, v40, v41, v42, v43, v44, v45, v46, v47, v48, v49, v50, v51, v52, v53, v54], defers := D } w') :
  (Code.region 1 opsregGo true).wp Tryd.prog Q { tmps := #[v0, v1, v2, .pointer (some ⟨ba, 0, none⟩), .pointer (some ⟨bb, 0, none⟩), .pointer (some ⟨bc, 0, none⟩), v6, wy9, wy10, wy11, wy0, wy1, wy2, wy3, wy4, wy5, wy6, wy7, wy8, v19, v20, v21, v22, v23, v24, v25, v26, v27, v28, v29, v30, v31, v32, v33, v34, v35, v36, v37, v38, v39, v40, v41, v42, v43, v44, v45, v46, v47, v48, v49, v50, v51, v52, v53, v54], defers := D } w := by
 refine wp_region_inv (by kernel_rfl) (WregGo ca cb cc ba bb bc ox oy oz D v0 v1 v2 v6 v19 v20 v21 v22 v23 v24 v25 v26 v27 v28 v29 v30 v31 v32 v33 v34 v35 v36 v37 v38 v39 v40 v41 v42 v43 v44 v45 v46 v47 v48 v49 v50 v51 v52 v53 v54 w) ?hacy ?h0 ?hstep ?hdone
 case hacy => kernel_rfl
 case h0 => exact ⟨wy0, wy1, wy2, wy3, wy4, wy5, wy6, wy7, wy8, wy9, wy10, wy11, rfl, below_drewN (Below.refl _ _) 1, (fun p => by cases p), (fun p => by cases p), (fun p => by cases p), (fun p => by cases p), (fun p => by cases p), (fun p => by cases p), (fun p => by cases p), (fun p => by cases p), (fun p => by cases p), (fun p => by cases p), (fun p => by cases p), (fun p => by cases p)⟩
 case hdone =>
  intro l a w1 hI hall
  obtain ⟨y0, y1, y2, y3, y4, y5, y6, y7, y8, y9, y10, y11, rfl, hb, h0, h1, h2, h3, h4, h5, h6, h7, h8, h9, h10, h11⟩ := hI
  obtain rfl := h0 (hall 0 (by decide))
  obtain rfl := h1 (hall 1 (by decide))
  obtain rfl := h2 (hall 2 (by decide))
  obtain rfl := h3 (hall 3 (by decide))
  obtain rfl := h4 (hall 4 (by decide))
  obtain rfl := h5 (hall 5 (by decide))
  obtain rfl := h6 (hall 6 (by decide))
  obtain rfl := h7 (hall 7 (by decide))
  obtain rfl := h8 (hall 8 (by decide))
  obtain rfl := h9 (hall 9 (by decide))
  obtain rfl := h10 (hall 10 (by decide))
  obtain rfl := h11 (hall 11 (by decide))
  exact hQ  _ hb
 case hstep =>
  intro l a w1 i o hI ho hl hall
  obtain ⟨y0, y1, y2, y3, y4, y5, y6, y7, y8, y9, y10, y11, rfl, hb, h0, h1, h2, h3, h4, h5, h6, h7, h8, h9, h10, h11⟩ := hI
  have hi : i < 12 := (Array.getElem?_eq_some_iff.1 ho).1
  match i, hi with
  | 0, _ =>
   have ho' := ho
   simp [opsregGo] at ho
   subst ho
   refine wpOp_one ho' rfl fun K hK => ?_
   refine wp_load_row 61 (.tmp 3) rfl ba rfl 61 ca (0, 0) _ (kA w1 hb) Tryd.underlying61 rfl sA ?_
   exact hK _ _ ⟨_, y1, y2, y3, y4, y5, y6, y7, y8, y9, y10, y11, rfl, hb, fun _ => (by first | rfl | simp), h1, h2, h3, h4, h5, h6, h7, h8, h9, h10, h11⟩
  | 1, _ =>
   have ho' := ho
   simp [opsregGo] at ho
   subst ho
   refine wpOp_one ho' rfl fun K hK => ?_
   refine wp_load_row 61 (.tmp 4) rfl bb rfl 61 cb (0, 0) _ (kB w1 hb) Tryd.underlying61 rfl sB ?_
   exact hK _ _ ⟨y0, _, y2, y3, y4, y5, y6, y7, y8, y9, y10, y11, rfl, hb, h0, fun _ => (by first | rfl | simp), h2, h3, h4, h5, h6, h7, h8, h9, h10, h11⟩
  | 2, _ =>
   have ho' := ho
   simp [opsregGo] at ho
   subst ho
   obtain rfl := h0 (hall ⟨0, .data⟩ (by simp) rfl)
   obtain rfl := h1 (hall ⟨1, .data⟩ (by simp) rfl)
   refine wpOp_one ho' rfl fun K hK => ?_
   go_simp
   go_at_call 24
   refine (kx _ hb).mono ?_
   rintro e w2 ⟨rfl, hb2⟩
   exact hK _ _ ⟨_, _, _, y3, y4, y5, y6, y7, y8, y9, y10, y11, rfl, (hb.trans (hb2.mono hb.size)), fun _ => rfl, fun _ => rfl, fun _ => (by first | rfl | simp), h3, h4, h5, h6, h7, h8, h9, h10, h11⟩
  | 3, _ =>
   have ho' := ho
   simp [opsregGo] at ho
   subst ho
   refine wpOp_one ho' rfl fun K hK => ?_
   refine wp_load_row 61 (.tmp 4) rfl bb rfl 61 cb (0, 0) _ (kB w1 hb) Tryd.underlying61 rfl sB ?_
   exact hK _ _ ⟨y0, y1, y2, _, y4, y5, y6, y7, y8, y9, y10, y11, rfl, hb, h0, h1, h2, fun _ => (by first | rfl | simp), h4, h5, h6, h7, h8, h9, h10, h11⟩
  | 4, _ =>
   have ho' := ho
   simp [opsregGo] at ho
   subst ho
   refine wpOp_one ho' rfl fun K hK => ?_
   refine wp_load_row 61 (.tmp 5) rfl bc rfl 61 cc (0, 0) _ (kC w1 hb) Tryd.underlying61 rfl sC ?_
   exact hK _ _ ⟨y0, y1, y2, y3, _, y5, y6, y7, y8, y9, y10, y11, rfl, hb, h0, h1, h2, h3, fun _ => (by first | rfl | simp), h5, h6, h7, h8, h9, h10, h11⟩
  | 5, _ =>
   have ho' := ho
   simp [opsregGo] at ho
   subst ho
   obtain rfl := h3 (hall ⟨3, .data⟩ (by simp) rfl)
   obtain rfl := h4 (hall ⟨4, .data⟩ (by simp) rfl)
   refine wpOp_one ho' rfl fun K hK => ?_
   go_simp
   go_at_call 24
   refine (ky _ hb).mono ?_
   rintro e w2 ⟨rfl, hb2⟩
   exact hK _ _ ⟨y0, y1, y2, _, _, _, y6, y7, y8, y9, y10, y11, rfl, (hb.trans (hb2.mono hb.size)), h0, h1, h2, fun _ => rfl, fun _ => rfl, fun _ => (by first | rfl | simp), h6, h7, h8, h9, h10, h11⟩
  | 6, _ =>
   have ho' := ho
   simp [opsregGo] at ho
   subst ho
   refine wpOp_one ho' rfl fun K hK => ?_
   refine wp_load_row 61 (.tmp 3) rfl ba rfl 61 ca (0, 0) _ (kA w1 hb) Tryd.underlying61 rfl sA ?_
   exact hK _ _ ⟨y0, y1, y2, y3, y4, y5, _, y7, y8, y9, y10, y11, rfl, hb, h0, h1, h2, h3, h4, h5, fun _ => (by first | rfl | simp), h7, h8, h9, h10, h11⟩
  | 7, _ =>
   have ho' := ho
   simp [opsregGo] at ho
   subst ho
   refine wpOp_one ho' rfl fun K hK => ?_
   refine wp_load_row 61 (.tmp 5) rfl bc rfl 61 cc (0, 0) _ (kC w1 hb) Tryd.underlying61 rfl sC ?_
   exact hK _ _ ⟨y0, y1, y2, y3, y4, y5, y6, _, y8, y9, y10, y11, rfl, hb, h0, h1, h2, h3, h4, h5, h6, fun _ => (by first | rfl | simp), h8, h9, h10, h11⟩
  | 8, _ =>
   have ho' := ho
   simp [opsregGo] at ho
   subst ho
   obtain rfl := h6 (hall ⟨6, .data⟩ (by simp) rfl)
   obtain rfl := h7 (hall ⟨7, .data⟩ (by simp) rfl)
   refine wpOp_one ho' rfl fun K hK => ?_
   go_simp
   go_at_call 24
   refine (kz _ hb).mono ?_
   rintro e w2 ⟨rfl, hb2⟩
   exact hK _ _ ⟨y0, y1, y2, y3, y4, y5, _, _, _, y9, y10, y11, rfl, (hb.trans (hb2.mono hb.size)), h0, h1, h2, h3, h4, h5, fun _ => rfl, fun _ => rfl, fun _ => (by first | rfl | simp), h9, h10, h11⟩
  | 9, _ =>
   have ho' := ho
   simp [opsregGo] at ho
   subst ho
   obtain rfl := h2 (hall ⟨2, .data⟩ (by simp) rfl)
   refine wpOp_one ho' rfl fun K hK => ?_
   go_simp
   exact hK _ _ ⟨y0, y1, _, y3, y4, y5, y6, y7, y8, _, y10, y11, rfl, hb, h0, h1, fun _ => rfl, h3, h4, h5, h6, h7, h8, fun _ => (by first | rfl | simp), h10, h11⟩
  | 10, _ =>
   have ho' := ho
   simp [opsregGo] at ho
   subst ho
   obtain rfl := h5 (hall ⟨5, .data⟩ (by simp) rfl)
   refine wpOp_one ho' rfl fun K hK => ?_
   go_simp
   exact hK _ _ ⟨y0, y1, y2, y3, y4, _, y6, y7, y8, y9, _, y11, rfl, hb, h0, h1, h2, h3, h4, fun _ => rfl, h6, h7, h8, h9, fun _ => (by first | rfl | simp), h11⟩
  | 11, _ =>
   have ho' := ho
   simp [opsregGo] at ho
   subst ho
   obtain rfl := h8 (hall ⟨8, .data⟩ (by simp) rfl)
   refine wpOp_one ho' rfl fun K hK => ?_
   go_simp
   exact hK _ _ ⟨y0, y1, y2, y3, y4, y5, y6, y7, _, y9, y10, _, rfl, hb, h0, h1, h2, h3, h4, h5, h6, h7, fun _ => rfl, h9, h10, fun _ => (by first | rfl | simp)⟩
  | k + 12, hi => omega
end Go.Proofs.YtgjnflhpmbjffaaDoor

/- The walk of the statement ConfigOrders: called with three configs it returns true and changes nothing that was there.
   Conditions: the library's table lies in memory. -/
namespace Go.Proofs.YtgjnflhpmbjffaaDoor
open Go.RowKit Go.Shelf
theorem infoJ64 : (Tryd.prog.info? 2).map (fun i => (i.zero, i.size, i.bytes)) = some (some (.int .i64 0), 1, 8) := by kernel_rfl
theorem cellsJ64 : Tryd.prog.cellsOf 2 = 1 := by kernel_rfl
theorem run_eqc4 (w : World) (a0 a1 a2 a3 b0 b1 b2 b3 : Int) :
  (Op.equalIn 9999 59 (.agg #[.int .i64 a0, .int .i64 a1, .int .i64 a2, .int .i64 a3]) (.agg #[.int .i64 b0, .int .i64 b1, .int .i64 b2, .int .i64 b3])).run Tryd.prog w = .ok (a0 == b0 && (a1 == b1 && (a2 == b2 && a3 == b3))) w := by
 obtain ⟨i0, hi, _, _, _⟩ := info_parts infoJ64
 have q : ∀ (w' : World) (a b : Int), (Op.equalIn 9998 2 (.int .i64 a) (.int .i64 b)).run Tryd.prog w' = .ok (a == b) w' := fun w' a b => run_equalIn_int w' 9997 2 .i64 .i64 a b Tryd.underlying2
 rw [run_equalIn_array w 9998 _ _ Tryd.underlying59 hi, cellsJ64, show List.range 4 = [0, 1, 2, 3] from rfl]
 simp only [Op.eqItems, Sem.run_bind]
 simp only [part, isAgg, run_underlying Tryd.underlying2, Sem.run_bind, Result.andThen_ok]
 simp
 simp only [q, Result.andThen_ok]
 cases (a0 == b0) <;> cases (a1 == b1) <;> cases (a2 == b2) <;> cases (a3 == b3) <;> rfl
set_option maxHeartbeats 8000000 in
set_option maxRecDepth 100000 in
theorem orders7_walk (a0 a1 a2 a3 a4 b0 b1 b2 b3 b4 c0 c1 c2 c3 c4 : Int) (w : World) (hT : TabE w) (hTl : tabE < w.heap.size) :
  Calls Tryd.prog 6 #[.agg #[.int .i64 a0, .int .i64 a1, .int .i64 a2, .int .i64 a3, .int .i64 a4], .agg #[.int .i64 b0, .int .i64 b1, .int .i64 b2, .int .i64 b3, .int .i64 b4], .agg #[.int .i64 c0, .int .i64 c1, .int .i64 c2, .int .i64 c3, .int .i64 c4]] w fun e w' => e = .returned (.bool true) ∧ Below w.heap.size w w' := by
 obtain ⟨w1, hw1, hb1, h1⟩ : ∃ w1, w.alloc (.cells #[.int .i64 a0, .int .i64 a1, .int .i64 a2, .int .i64 a3, .int .i64 a4] 61) = w1 ∧ Below w.heap.size w w1 ∧ w1.heap[w.heap.size]? = some (.cells #[.int .i64 a0, .int .i64 a1, .int .i64 a2, .int .i64 a3, .int .i64 a4] 61 (0, 0)) := ⟨_, rfl, (Below.refl _ w).alloc (Nat.le_refl _) _, heap_alloc_new w _⟩
 obtain ⟨w2, hw2, hb2, h2⟩ : ∃ w2, w1.alloc (.cells #[.int .i64 b0, .int .i64 b1, .int .i64 b2, .int .i64 b3, .int .i64 b4] 61) = w2 ∧ Below w1.heap.size w1 w2 ∧ w2.heap[w1.heap.size]? = some (.cells #[.int .i64 b0, .int .i64 b1, .int .i64 b2, .int .i64 b3, .int .i64 b4] 61 (0, 0)) := ⟨_, rfl, (Below.refl _ w1).alloc (Nat.le_refl _) _, heap_alloc_new w1 _⟩
 obtain ⟨w3, hw3, hb3, h3⟩ : ∃ w3, w2.alloc (.cells #[.int .i64 c0, .int .i64 c1, .int .i64 c2, .int .i64 c3, .int .i64 c4] 61) = w3 ∧ Below w2.heap.size w2 w3 ∧ w3.heap[w2.heap.size]? = some (.cells #[.int .i64 c0, .int .i64 c1, .int .i64 c2, .int .i64 c3, .int .i64 c4] 61 (0, 0)) := ⟨_, rfl, (Below.refl _ w2).alloc (Nat.le_refl _) _, heap_alloc_new w2 _⟩
 have s1 : w1.heap.size = w.heap.size + 1 := by rw [← hw1]; simp
 have s2 : w2.heap.size = w.heap.size + 1 + 1 := by rw [← hw2]; simp [s1]
 have hw : ((w.alloc (.cells #[.int .i64 a0, .int .i64 a1, .int .i64 a2, .int .i64 a3, .int .i64 a4] 61)).alloc (.cells #[.int .i64 b0, .int .i64 b1, .int .i64 b2, .int .i64 b3, .int .i64 b4] 61)).alloc (.cells #[.int .i64 c0, .int .i64 c1, .int .i64 c2, .int .i64 c3, .int .i64 c4] 61) = w3 := by rw [hw1, hw2, hw3]
 have k1 := (hb3.block _ (Array.getElem?_eq_some_iff.1 ((hb2.block _ (Array.getElem?_eq_some_iff.1 h1).1).trans h1)).1).trans ((hb2.block _ (Array.getElem?_eq_some_iff.1 h1).1).trans h1)
 have k2 := (hb3.block _ (Array.getElem?_eq_some_iff.1 h2).1).trans h2
 have k3 := h3
 rw [s1] at k2
 rw [s2] at k3
 have HB := Lib.hid (bhop hb1 (bhop hb2 hb3))
 have HA1 := Lib.hid (fun (W : World) (h : Below w3.heap.size w3 W) => (h.block _ (Array.getElem?_eq_some_iff.1 k1).1).trans k1)
 have HA2 := Lib.hid (fun (W : World) (h : Below w3.heap.size w3 W) => (h.block _ (Array.getElem?_eq_some_iff.1 k2).1).trans k2)
 have HA3 := Lib.hid (fun (W : World) (h : Below w3.heap.size w3 W) => (h.block _ (Array.getElem?_eq_some_iff.1 k3).1).trans k3)
 have HTT := Lib.hid (fun (W : World) (h : Below w3.heap.size w3 W) => show TabE W ∧ tabE < W.heap.size from ⟨tab_below hT hTl (bhop HB.out h), Nat.lt_of_lt_of_le hTl (bhop HB.out h).size⟩)
 have hzero := lex_zero [a0, a1, a2, a3, a4] [b0, b1, b2, b3, b4] rfl
 have htr := lex_trans [a0, a1, a2, a3, a4] [b0, b1, b2, b3, b4] [c0, c1, c2, c3, c4] rfl rfl
 have han := lex_anti [a0, a1, a2, a3, a4] [b0, b1, b2, b3, b4] rfl
 have hrg := lex_range [a0, a1, a2, a3, a4] [b0, b1, b2, b3, b4]
 have HX := Lib.hid (fun W => order_any a0 a1 a2 a3 a4 b0 b1 b2 b3 b4 W)
 have HRX := Lib.hid (fun W => refOrder_any a0 a1 a2 a3 a4 b0 b1 b2 b3 b4 W)
 have HY := Lib.hid (fun W => order_any b0 b1 b2 b3 b4 c0 c1 c2 c3 c4 W)
 have HZ := Lib.hid (fun W => order_any a0 a1 a2 a3 a4 c0 c1 c2 c3 c4 W)
 have HBA := Lib.hid (fun W => by have := order_any b0 b1 b2 b3 b4 a0 a1 a2 a3 a4 W; rw [han] at this; exact this)
 generalize lexI [a0, a1, a2, a3, a4] [b0, b1, b2, b3, b4] = x at *
 generalize lexI [b0, b1, b2, b3, b4] [c0, c1, c2, c3, c4] = y at *
 generalize lexI [a0, a1, a2, a3, a4] [c0, c1, c2, c3, c4] = z at *
 clear hw1 hw2 hw3 hb1 hb2 hb3 h1 h2 h3 s1 s2 k1 k2 k3 hT hTl han
 go_enter Tryd.func6, Tryd.ntmps6
 go_upto_region 1 with fail
 clear hw
 go_wp2_with fail
 refine regGo (ca := #[.int .i64 a0, .int .i64 a1, .int .i64 a2, .int .i64 a3, .int .i64 a4]) (cb := #[.int .i64 b0, .int .i64 b1, .int .i64 b2, .int .i64 b3, .int .i64 b4]) (cc := #[.int .i64 c0, .int .i64 c1, .int .i64 c2, .int .i64 c3, .int .i64 c4]) (ox := x) (oy := y) (oz := z) (kA := fun W h => HA1.out W h) (kB := fun W h => HA2.out W h) (kC := fun W h => HA3.out W h) (sA := by kernel_rfl) (sB := by kernel_rfl) (sC := by kernel_rfl) (kx := fun W _ => HX.out W) (ky := fun W _ => HY.out W) (kz := fun W _ => HZ.out W) (D := _) (v0 := _) (v1 := _) (v2 := _) (v6 := _) (v19 := _) (v20 := _) (v21 := _) (v22 := _) (v23 := _) (v24 := _) (v25 := _) (v26 := _) (v27 := _) (v28 := _) (v29 := _) (v30 := _) (v31 := _) (v32 := _) (v33 := _) (v34 := _) (v35 := _) (v36 := _) (v37 := _) (v38 := _) (v39 := _) (v40 := _) (v41 := _) (v42 := _) (v43 := _) (v44 := _) (v45 := _) (v46 := _) (v47 := _) (v48 := _) (v49 := _) (v50 := _) (v51 := _) (v52 := _) (v53 := _) (v54 := _) (wy0 := _) (wy1 := _) (wy2 := _) (wy3 := _) (wy4 := _) (wy5 := _) (wy6 := _) (wy7 := _) (wy8 := _) (wy9 := _) (wy10 := _) (wy11 := _) (w := _) (Q := _) (hQ := ?_)
 intro w4 hb4
 have HB4 := Lib.hid hb4
 clear hb4
 dsimp only
 go_wp2_with fail
 go_at_call 17
 refine (awake7_any _ (HTT.out _ HB4.out).1 (HTT.out _ HB4.out).2).mono ?_
 rintro e w5 ⟨rfl, hb5⟩
 have HB5 := Lib.hid (bhop HB4.out hb5)
 obtain ⟨p0, p1, p2, p3, p4⟩ := cells5 (HA1.out w5 HB5.out)
 obtain ⟨q0, q1, q2, q3, q4⟩ := cells5 (HA2.out w5 HB5.out)
 clear hb5
 go_wp2_with fail
 go_at_call 25
 refine (HRX.out _).mono ?_
 rintro e w6 ⟨rfl, hb6⟩
 have HB6 := Lib.hid (bhop HB5.out hb6)
 clear hb6 p0 p1 p2 p3 p4 q0 q1 q2 q3 q4
 obtain ⟨p0, p1, p2, p3, p4⟩ := cells5 (HA1.out w6 HB6.out)
 obtain ⟨q0, q1, q2, q3, q4⟩ := cells5 (HA2.out w6 HB6.out)
 go_wp2_with fail
 go_at_call 24
 refine (HBA.out _).mono ?_
 rintro e w7 ⟨rfl, hb7⟩
 have HB7 := Lib.hid (bhop HB6.out hb7)
 clear hb7 p0 p1 p2 p3 p4 q0 q1 q2 q3 q4
 obtain ⟨p0, p1, p2, p3, p4⟩ := cells5 (HA1.out w7 HB7.out)
 obtain ⟨q0, q1, q2, q3, q4⟩ := cells5 (HA2.out w7 HB7.out)
 have heq := fun W => run_eqc4 W a1 a2 a3 a4 b1 b2 b3 b4
 rcases hrg with rfl | rfl | rfl
 ·rw [show (- -1 : Int) = 1 from rfl]
  have hne : ¬ [a0, a1, a2, a3, a4] = [b0, b1, b2, b3, b4] := fun h => by have := hzero.2 h; omega
  clear hzero
  by_cases e0 : a0 = b0
  ·subst e0
   have hf : (a1 == b1 && (a2 == b2 && (a3 == b3 && a4 == b4))) = false := by
    cases hh : (a1 == b1 && (a2 == b2 && (a3 == b3 && a4 == b4))) with
    | false => rfl
    | true =>
     simp only [Bool.and_eq_true, beq_iff_eq] at hh
     exact absurd (by rw [hh.1, hh.2.1, hh.2.2.1, hh.2.2.2]) hne
   rw [hf] at heq
   clear hf hne
   by_cases hy : 0 < y
   ·clear htr
    go_wp2_with fail
    go_ret
    exact ⟨rfl, bhop HB.out HB7.out⟩
   ·have hz : z ≤ 0 := htr (by omega) (by omega)
    clear htr
    go_wp2_with fail
    go_ret
    exact ⟨rfl, bhop HB.out HB7.out⟩
  ·have e1 : (a0 == b0) = false := by simp [e0]
   clear hne heq
   by_cases hy : 0 < y
   ·clear htr
    go_wp2_with fail
    go_ret
    exact ⟨rfl, bhop HB.out HB7.out⟩
   ·have hz : z ≤ 0 := htr (by omega) (by omega)
    clear htr
    go_wp2_with fail
    go_ret
    exact ⟨rfl, bhop HB.out HB7.out⟩
 ·obtain ⟨rfl, rfl, rfl, rfl, rfl⟩ : a0 = b0 ∧ a1 = b1 ∧ a2 = b2 ∧ a3 = b3 ∧ a4 = b4 := by
   have h := hzero.1 rfl
   simp only [List.cons.injEq] at h
   exact ⟨h.1, h.2.1, h.2.2.1, h.2.2.2.1, h.2.2.2.2.1⟩
  have hq : (a1 == a1 && (a2 == a2 && (a3 == a3 && a4 == a4))) = true := by simp
  rw [hq] at heq
  rw [show (-0 : Int) = 0 from rfl]
  clear hzero hq
  by_cases hy : 0 < y
  ·clear htr
   go_wp2_with fail
   go_ret
   exact ⟨rfl, bhop HB.out HB7.out⟩
  ·have hz : z ≤ 0 := htr (by omega) (by omega)
   clear htr
   go_wp2_with fail
   go_ret
   exact ⟨rfl, bhop HB.out HB7.out⟩
 ·clear htr
  have hne : ¬ [a0, a1, a2, a3, a4] = [b0, b1, b2, b3, b4] := fun h => by have := hzero.2 h; omega
  clear hzero
  by_cases e0 : a0 = b0
  ·subst e0
   have hf : (a1 == b1 && (a2 == b2 && (a3 == b3 && a4 == b4))) = false := by
    cases hh : (a1 == b1 && (a2 == b2 && (a3 == b3 && a4 == b4))) with
    | false => rfl
    | true =>
     simp only [Bool.and_eq_true, beq_iff_eq] at hh
     exact absurd (by rw [hh.1, hh.2.1, hh.2.2.1, hh.2.2.2]) hne
   rw [hf] at heq
   clear hf hne
   go_wp2_with fail
   go_ret
   exact ⟨rfl, bhop HB.out HB7.out⟩
  ·have e1 : (a0 == b0) = false := by simp [e0]
   clear hne heq
   go_wp2_with fail
   go_ret
   exact ⟨rfl, bhop HB.out HB7.out⟩
end Go.Proofs.YtgjnflhpmbjffaaDoor

/- Of every three configs the statement ConfigOrders returns true, and they read afterwards as before; the card: what its row lists is tied to the program's text.
   No condition. -/
namespace Go.Proofs.YtgjnflhpmbjffaaDoor
open Go.ChangeShapes Go.WideShapes Go.ChangeAt Go.RowKit
theorem configOrdersOwn : ownKnob Tryd.prog.godebug = none := by kernel_rfl
theorem configOrdersLaidOut : laidOutB Tryd.prog = true := by kernel_rfl
theorem configOrdersDoor (os : Os) (args : Array Value) : laidMetH Tryd.prog Rows.configOrdersRow.laid ((World.doorLaid Tryd.prog 400 os).forCall (fun _ _ => 0) ⟨#[], args, []⟩).memory :=
 laidMetH_of_parts3 (fuel := 8) (laidMet_of_run' 8 (by kernel_rfl) (by kernel_rfl)) (by kernel_rfl) (by kernel_rfl)
set_option maxRecDepth 100000 in
theorem configOrders_lifted (os : Os) (started : os.Started) (H : Type) (enc : TypeId × Value → H) :
  ReturnsInHanded {} Tryd.checked os 6 .any (fun w args => (Rows.configOrdersSpec.pre enc Tryd.prog Tryd.f6 Rows.configOrdersRow.domain false w args ∧ laidMetH Tryd.prog Rows.configOrdersRow.laid w) ∧ sizedMet enc Tryd.prog Tryd.f6 (OpenSpec.ofChange Rows.configOrdersSpec) false w args)
   (Rows.configOrdersSpec.post enc Tryd.prog Tryd.f6 false true false false) := by
 refine returnsInHanded_of_change_and (C := Tryd.checked) (X := fun w _ => laidMetH Tryd.prog Rows.configOrdersRow.laid w) (fun _ _ _ hh h => h.of_heap hh) configOrdersOwn started (by kernel_rfl) Tryd.func6
  (ChangeSpec.witness_shaped (enc := enc) (C := Tryd.checked) (os := os) (X := fun w _ => laidMetH Tryd.prog Rows.configOrdersRow.laid w) false (World.doorLaid Tryd.prog 400 os) #[.agg #[.int .i64 0, .int .i64 0, .int .i64 0, .int .i64 0, .int .i64 0], .agg #[.int .i64 0, .int .i64 0, .int .i64 0, .int .i64 0, .int .i64 0], .agg #[.int .i64 0, .int .i64 0, .int .i64 0, .int .i64 0, .int .i64 0]] 8 rfl (World.shaped_of_RefB (by kernel_rfl) (by kernel_rfl)) (by kernel_rfl) (by kernel_rfl) (by kernel_rfl) (configOrdersDoor os _)) ?_
 intro W base args ds gs before hval0 hW _ _ hLaid _
 have hval : ∀ (j : Nat) t v, Tryd.f6.params[j]? = some t → args[j]? = some v → Value.okWide Tryd.prog W .any base t v := hval0
 have hW' := hW
 obtain ⟨hT, hTl⟩ := tab_laid hLaid
 obtain ⟨p, q, hA0, hV, rfl, hfz, hnd⟩ := hW
 have hA : DataW.TrodAll enc Tryd.prog W 0 (fun _ => true) true Tryd.f6.params.toList args.toList ds p := hA0
 rw [Tryd.params6] at hA hval
 obtain ⟨v0, vs0, d0, ds0, p0, q0, hargs, rfl, rfl, h0, r0⟩ := trodAll_cons hA
 obtain ⟨v1, vs1, d1, ds1, p1, q1, rfl, rfl, rfl, h1, r1⟩ := trodAll_cons r0
 obtain ⟨v2, vs2, d2, ds2, p2, q2, rfl, rfl, rfl, h2, r2⟩ := trodAll_cons r1
 obtain ⟨rfl, rfl, rfl⟩ := trodAll_nil r2
 obtain rfl : args = #[v0, v1, v2] := by cases args; simp_all
 obtain ⟨rfl, rfl⟩ := trodVars_none hV
 have k0 := h0
 have k1 := h1
 have k2 := h2
 have lt0 : ∀ x ∈ p0, x.block < W.heap.size := by obtain ⟨m, hm⟩ := k0; exact DataW.trod_lt m _ _ _ hm
 have lt1 : ∀ x ∈ p1, x.block < W.heap.size := by obtain ⟨m, hm⟩ := k1; exact DataW.trod_lt m _ _ _ hm
 have lt2 : ∀ x ∈ p2, x.block < W.heap.size := by obtain ⟨m, hm⟩ := k2; exact DataW.trod_lt m _ _ _ hm
 obtain ⟨a0, a1, a2, a3, a4, rfl⟩ := open_cfg (hval 0 61 v0 rfl rfl) h0
 obtain ⟨b0, b1, b2, b3, b4, rfl⟩ := open_cfg (hval 1 61 v1 rfl rfl) h1
 obtain ⟨c0, c1, c2, c3, c4, rfl⟩ := open_cfg (hval 2 61 v2 rfl rfl) h2
 clear hA0 hval0
 refine (orders7_walk a0 a1 a2 a3 a4 b0 b1 b2 b3 b4 c0 c1 c2 c3 c4 W hT hTl).mono fun e W' ⟨he, bel⟩ => ?_
 subst he
 exact ⟨_, rfl, _, _, _, [], _, [], hW', trodAll_mk1 (shut_bool Tryd.underlying4 _), (trodAll_cons_mk (Below.trod configOrdersLaidOut (by kernel_rfl) (of_decide_eq_true (by kernel_rfl)) k0 bel lt0) (trodAll_cons_mk (Below.trod configOrdersLaidOut (by kernel_rfl) (of_decide_eq_true (by kernel_rfl)) k1 bel lt1) (trodAll_cons_mk (Below.trod configOrdersLaidOut (by kernel_rfl) (of_decide_eq_true (by kernel_rfl)) k2 bel lt2) trodAll_mk0))), rfl, bel.frame _, fun h => by cases h⟩
theorem configOrders_holds : Rows.ConfigOrdersSaid :=
 OpenClaim.holds_of_wide 6 Tryd.f6 rfl rfl rfl rfl rfl rfl rfl ⟨rfl, rfl, rfl, rfl, rfl⟩ rfl rfl rfl rfl rfl (by kernel_rfl) Tryd.func6 (by kernel_rfl)
  (of_decide_eq_true (by kernel_rfl)) (by unfold Func.isWrapper; rw [if_neg (of_decide_eq_false (by kernel_rfl))]; exact ⟨rfl, rfl⟩)
  (fun os started H enc _ => configOrders_lifted os started H enc)
theorem configOrders_card_holds : Rows.ConfigOrdersCardSaid :=
 Claim7.holds_tied_plain_at .later [] [.data] true _ false
  configOrders_holds (fun _ h => by cases h) (by kernel_rfl) (fun _ h => by cases h) configOrders_row_tie rfl ⟨rfl, rfl⟩ (by kernel_rfl) rfl
  (fun f fn hf hfn => by
   obtain rfl : f = 6 := Option.some.inj ((show Tryd.prog.funcNamed "ostinato/ostinatolaw07.ConfigOrders" = some 6 by kernel_rfl).symm.trans hf) |>.symm
   obtain rfl : fn = Tryd.f6 := (Option.some.inj (Tryd.func6.symm.trans hfn)).symm
   exact ⟨by kernel_rfl, fun j t ht => by
    rw [Tryd.params6] at ht
    have hm : t ∈ [61, 61, 61] := by simpa using Array.mem_of_getElem? ht
    have hall : ([61, 61, 61].all fun u => !Tryd.prog.wantsStandIn u) = true := by kernel_rfl
    exact (show Tryd.prog.wantsStandIn t = false by simpa using List.all_eq_true.1 hall t hm)⟩)
  (by kernel_rfl)
#print axioms configOrders_card_holds
end Go.Proofs.YtgjnflhpmbjffaaDoor
