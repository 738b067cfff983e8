/- Two drawn regions of the walk of CsetPlays: what is merged stays; the counts are held against the document's.
   Conditions: the cells that they load lie in memory; the contracts of what they call. -/
import Derived.Test.YtkkmopcmilgdoaaOrdX
import Derived.Test.YtkkmopcmilgdoaaRows
import Derived.WalkKit
import Derived.KernelRfl
namespace Go.Proofs.Ytkkmopcmilgdoaa
open Go.RowKit
abbrev opsregKp12 : Array Oper := #[{ dst := some 51, op := Op.move (Operand.tmp 9), type := 30, pos := "law.go:66", after := #[], guard := none },
  { dst := some 52, op := Op.call { callee := Callee.value (Operand.func 13), args := #[Operand.tmp 51], argTypes := #[30] }, type := 32, pos := "law.go:66", after := #[{ on := 0, ground := Ground.data }], guard := none },
  { dst := some 53, op := Op.load 28 (Operand.tmp 5), type := 28, pos := "law.go:66", after := #[], guard := none },
  { dst := some 54, op := Op.move (Operand.tmp 1), type := 36, pos := "law.go:66", after := #[], guard := none },
  { dst := some 55, op := Op.move (Operand.tmp 8), type := 3, pos := "law.go:66", after := #[], guard := none },
  { dst := some 56, op := Op.indexAddr 36 (Operand.tmp 54) (Operand.tmp 55), type := 0, pos := "law.go:66", after := #[{ on := 3, ground := Ground.data }, { on := 4, ground := Ground.data }], guard := none },
  { dst := some 57, op := Op.fieldAddr 40 (Operand.tmp 56) 1, type := 0, pos := "law.go:66", after := #[{ on := 5, ground := Ground.data }], guard := none },
  { dst := some 58, op := Op.load 38 (Operand.tmp 57), type := 38, pos := "law.go:66", after := #[{ on := 6, ground := Ground.data }], guard := none },
  { dst := some 59, op := Op.call { callee := Callee.value (Operand.func 20), args := #[Operand.tmp 53, Operand.tmp 58], argTypes := #[28, 38] }, type := 32, pos := "law.go:66", after := #[{ on := 2, ground := Ground.data }, { on := 7, ground := Ground.data }, { on := 1, ground := Ground.chain }], guard := none },
  { dst := some 60, op := Op.call { callee := Callee.value (Operand.func 19), args := #[Operand.tmp 52, Operand.tmp 59], argTypes := #[32, 32] }, type := 4, pos := "law.go:66", after := #[{ on := 1, ground := Ground.data }, { on := 8, ground := Ground.data }, { on := 8, ground := Ground.chain }], guard := none },
  { dst := some 61, op := Op.unOp UnOp.not 4 (Operand.tmp 60), type := 4, pos := "law.go:66", after := #[{ on := 9, ground := Ground.data }], guard := none }]
def WregKp12 (sb db g o k n c : Nat) (lo hi : Int) (bv : Value) (P R : World → Value → Prop) (D : List Deferred) (v0 v2 v3 v4 v6 v7 v10 v11 v12 v13 v14 v15 v16 v17 v18 v19 v20 v21 v22 v23 v24 v25 v26 v27 v28 v29 v30 v31 v32 v33 v34 v35 v36 v37 v38 v39 v40 v41 v42 v43 v44 v45 v46 v47 v48 v49 v50 v62 v63 v64 v65 v66 v67 v68 v69 v70 v71 v72 v73 v74 v75 v76 v77 v78 v79 v80 v81 v82 v83 v84 v85 v86 v87 v88 v89 v90 v91 v92 v93 v94 v95 v96 v97 v98 v99 v100 v101 v102 v103 v104 v105 v106 v107 v108 v109 v110 v111 v112 v113 v114 v115 v116 v117 v118 v119 v120 : Value) (w0 : World) (l : Nat → Bool) (a : Act) (w : World) : Prop :=
  ∃ (y0 y1 y2 y3 y4 y5 y6 y7 y8 y9 y10 : Value), a = { tmps := #[v0, .slice (some ⟨g, o, none⟩) n c, v2, v3, v4, .pointer (some ⟨sb, 0, none⟩), v6, v7, .int .i64 (k : Int), .pointer (some ⟨db, 0, none⟩), v10, v11, v12, v13, v14, v15, v16, v17, v18, v19, v20, v21, v22, v23, v24, v25, v26, v27, v28, v29, v30, v31, v32, v33, v34, v35, v36, v37, v38, v39, v40, v41, v42, v43, v44, v45, v46, v47, v48, v49, v50, y0, y1, y2, y3, y4, y5, y6, y7, y8, y9, y10, v62, v63, v64, v65, v66, v67, v68, v69, v70, v71, v72, v73, v74, v75, v76, v77, v78, v79, v80, v81, v82, v83, v84, v85, v86, v87, v88, v89, v90, v91, v92, v93, v94, v95, v96, v97, v98, v99, v100, v101, v102, v103, v104, v105, v106, v107, v108, v109, v110, v111, v112, v113, v114, v115, v116, v117, v118, v119, v120], defers := D } ∧ Below w0.heap.size w0 w ∧
    (l 0 = true → y0 = .pointer (some ⟨db, 0, none⟩)) ∧ (l 1 = true → P w y1) ∧ (l 2 = true → y2 = .agg #[.int .i64 lo, .int .i64 hi]) ∧ (l 3 = true → y3 = .slice (some ⟨g, o, none⟩) n c) ∧ (l 4 = true → y4 = .int .i64 (k : Int)) ∧ (l 5 = true → y5 = .pointer (some ⟨g, o + k * 2, none⟩)) ∧ (l 6 = true → y6 = .pointer (some ⟨g, o + k * 2 + 1, none⟩)) ∧ (l 7 = true → y7 = bv) ∧ (l 8 = true → R w y8) ∧ (l 9 = true → y9 = .bool true) ∧ (l 10 = true → y10 = .bool false)
set_option maxHeartbeats 8000000 in
set_option maxRecDepth 100000 in
theorem regKp12 (sb db g o k n c : Nat) (lo hi : Int) (bv : Value) (P R : World → Value → Prop) (D : List Deferred) (v0 v2 v3 v4 v6 v7 v10 v11 v12 v13 v14 v15 v16 v17 v18 v19 v20 v21 v22 v23 v24 v25 v26 v27 v28 v29 v30 v31 v32 v33 v34 v35 v36 v37 v38 v39 v40 v41 v42 v43 v44 v45 v46 v47 v48 v49 v50 v62 v63 v64 v65 v66 v67 v68 v69 v70 v71 v72 v73 v74 v75 v76 v77 v78 v79 v80 v81 v82 v83 v84 v85 v86 v87 v88 v89 v90 v91 v92 v93 v94 v95 v96 v97 v98 v99 v100 v101 v102 v103 v104 v105 v106 v107 v108 v109 v110 v111 v112 v113 v114 v115 v116 v117 v118 v119 v120 wy0 wy1 wy2 wy3 wy4 wy5 wy6 wy7 wy8 wy9 wy10 : Value) (w : World) (hs0 : (∀ w', Below w.heap.size w w' → w'.cell? ⟨sb, 0, none⟩ = some (.int .i64 lo))) (hs1 : (∀ w', Below w.heap.size w w' → w'.cell? ⟨sb, 1, none⟩ = some (.int .i64 hi))) (hbv : (∀ w', Below w.heap.size w w' → w'.cell? ⟨g, o + k * 2 + 1, none⟩ = some (bv))) (hP : (∀ w v w', P w v → Below w.heap.size w w' → P w' v)) (hR : (∀ w v w', R w v → Below w.heap.size w w' → R w' v)) (hc1 : (∀ w', Below w.heap.size w w' → Calls Try.prog 13 #[.pointer (some ⟨db, 0, none⟩)] w' fun e w2 => ∃ v, e = .returned v ∧ P w2 v ∧ Below w'.heap.size w' w2)) (hc2 : (∀ w', Below w.heap.size w w' → Calls Try.prog 20 #[.agg #[.int .i64 lo, .int .i64 hi], bv] w' fun e w2 => ∃ v, e = .returned v ∧ R w2 v ∧ Below w'.heap.size w' w2)) (hc3 : ∀ w' u v, Below w.heap.size w w' → P w' u → R w' v → Calls Try.prog 19 #[u, v] w' fun e w2 => e = .returned (.bool true) ∧ Below w'.heap.size w' w2) (e1 : (k : Int) < (n : Int)) (e2 : (0 : Int) ≤ (k : Int)) (t1 : ((k : Int)).toNat = k) (Q : Exit → Act → World → Prop)
    (hQ : ∀ (y0 y1 y2 y3 y4 y5 y6 y7 y8 y9 : Value) (w' : World), Below w.heap.size w w' → Q .normal { tmps := #[v0, .slice (some ⟨g, o, none⟩) n c, v2, v3, v4, .pointer (some ⟨sb, 0, none⟩), v6, v7, .int .i64 (k : Int), .pointer (some ⟨db, 0, none⟩), v10, v11, v12, v13, v14, v15, v16, v17, v18, v19, v20, v21, v22, v23, v24, v25, v26, v27, v28, v29, v30, v31, v32, v33, v34, v35, v36, v37, v38, v39, v40, v41, v42, v43, v44, v45, v46, v47, v48, v49, v50, y0, y1, y2, y3, y4, y5, y6, y7, y8, y9, .bool false, v62, v63, v64, v65, v66, v67, v68, v69, v70, v71, v72, v73, v74, v75, v76, v77, v78, v79, v80, v81, v82, v83, v84, v85, v86, v87, v88, v89, v90, v91, v92, v93, v94, v95, v96, v97, v98, v99, v100, v101, v102, v103, v104, v105, v106, v107, v108, v109, v110, v111, v112, v113, v114, v115, v116, v117, v118, v119, v120], defers := D } w') :
    (Code.region 12 opsregKp12 true).wp Try.prog Q { tmps := #[v0, .slice (some ⟨g, o, none⟩) n c, v2, v3, v4, .pointer (some ⟨sb, 0, none⟩), v6, v7, .int .i64 (k : Int), .pointer (some ⟨db, 0, none⟩), v10, v11, v12, v13, v14, v15, v16, v17, v18, v19, v20, v21, v22, v23, v24, v25, v26, v27, v28, v29, v30, v31, v32, v33, v34, v35, v36, v37, v38, v39, v40, v41, v42, v43, v44, v45, v46, v47, v48, v49, v50, wy0, wy1, wy2, wy3, wy4, wy5, wy6, wy7, wy8, wy9, wy10, v62, v63, v64, v65, v66, v67, v68, v69, v70, v71, v72, v73, v74, v75, v76, v77, v78, v79, v80, v81, v82, v83, v84, v85, v86, v87, v88, v89, v90, v91, v92, v93, v94, v95, v96, v97, v98, v99, v100, v101, v102, v103, v104, v105, v106, v107, v108, v109, v110, v111, v112, v113, v114, v115, v116, v117, v118, v119, v120], defers := D } w := by
  refine wp_region_inv (by kernel_rfl) (WregKp12 sb db g o k n c lo hi bv P R D v0 v2 v3 v4 v6 v7 v10 v11 v12 v13 v14 v15 v16 v17 v18 v19 v20 v21 v22 v23 v24 v25 v26 v27 v28 v29 v30 v31 v32 v33 v34 v35 v36 v37 v38 v39 v40 v41 v42 v43 v44 v45 v46 v47 v48 v49 v50 v62 v63 v64 v65 v66 v67 v68 v69 v70 v71 v72 v73 v74 v75 v76 v77 v78 v79 v80 v81 v82 v83 v84 v85 v86 v87 v88 v89 v90 v91 v92 v93 v94 v95 v96 v97 v98 v99 v100 v101 v102 v103 v104 v105 v106 v107 v108 v109 v110 v111 v112 v113 v114 v115 v116 v117 v118 v119 v120 w) ?hacy ?h0 ?hstep ?hdone
  case hacy => kernel_rfl
  case h0 => exact ⟨wy0, wy1, wy2, wy3, wy4, wy5, wy6, wy7, wy8, wy9, wy10, rfl, below_drewN (Below.refl _ _) 1, (fun p => by cases p), (fun p => by cases p), (fun p => by cases p), (fun p => by cases p), (fun p => by cases p), (fun p => by cases p), (fun p => by cases p), (fun p => by cases p), (fun p => by cases p), (fun p => by cases p), (fun p => by cases p)⟩
  case hdone =>
    intro l a w1 hI hall
    obtain ⟨y0, y1, y2, y3, y4, y5, y6, y7, y8, y9, y10, rfl, hb, h0, h1, h2, h3, h4, h5, h6, h7, h8, h9, h10⟩ := hI
    obtain rfl := h10 (hall 10 (by decide))
    exact hQ _ _ _ _ _ _ _ _ _ _ _ hb 
  case hstep =>
    intro l a w1 i o hI ho hl hall
    obtain ⟨y0, y1, y2, y3, y4, y5, y6, y7, y8, y9, y10, rfl, hb, h0, h1, h2, h3, h4, h5, h6, h7, h8, h9, h10⟩ := hI
    have hi : i < 11 := (Array.getElem?_eq_some_iff.1 ho).1
    match i, hi with
    | 0, _ =>
      have ho' := ho
      simp [opsregKp12] at ho
      subst ho
      refine wpOp_one ho' rfl fun K hK => ?_
      go_simp
      exact hK _ _ ⟨_, y1, y2, y3, y4, y5, y6, y7, y8, y9, y10, rfl, hb, fun _ => (by first | rfl | simp), h1, h2, h3, h4, h5, h6, h7, h8, h9, h10⟩
    | 1, _ =>
      have ho' := ho
      simp [opsregKp12] at ho
      subst ho
      obtain rfl := h0 (hall ⟨0, .data⟩ (by simp) rfl)
      refine wpOp_one ho' rfl fun K hK => ?_
      go_simp
      go_at_call 13
      refine (hc1 _ hb).mono ?_
      rintro e w2 ⟨v2, rfl, hp2, hb2⟩
      exact hK _ _ ⟨_, _, y2, y3, y4, y5, y6, y7, y8, y9, y10, rfl, (hb.trans (hb2.mono hb.size)), fun _ => rfl, fun _ => hp2, h2, h3, h4, h5, h6, h7, fun q => hR _ _ _ (h8 q) hb2, h9, h10⟩
    | 2, _ =>
      have ho' := ho
      simp [opsregKp12] at ho
      subst ho
      refine wpOp_one ho' rfl fun K hK => ?_
      have hc0 := hs0 w1 hb
      have hc1 := hs1 w1 hb
      go_simp
      exact hK _ _ ⟨y0, y1, _, y3, y4, y5, y6, y7, y8, y9, y10, rfl, hb, h0, h1, fun _ => (by first | rfl | simp), h3, h4, h5, h6, h7, h8, h9, h10⟩
    | 3, _ =>
      have ho' := ho
      simp [opsregKp12] at ho
      subst ho
      refine wpOp_one ho' rfl fun K hK => ?_
      go_simp
      exact hK _ _ ⟨y0, y1, y2, _, y4, y5, y6, y7, y8, y9, y10, rfl, hb, h0, h1, h2, fun _ => (by first | rfl | simp), h4, h5, h6, h7, h8, h9, h10⟩
    | 4, _ =>
      have ho' := ho
      simp [opsregKp12] at ho
      subst ho
      refine wpOp_one ho' rfl fun K hK => ?_
      go_simp
      exact hK _ _ ⟨y0, y1, y2, y3, _, y5, y6, y7, y8, y9, y10, rfl, hb, h0, h1, h2, h3, fun _ => (by first | rfl | simp), h5, h6, h7, h8, h9, h10⟩
    | 5, _ =>
      have ho' := ho
      simp [opsregKp12] at ho
      subst ho
      obtain rfl := h3 (hall ⟨3, .data⟩ (by simp) rfl)
      obtain rfl := h4 (hall ⟨4, .data⟩ (by simp) rfl)
      refine wpOp_one ho' rfl fun K hK => ?_
      go_simp
      exact hK _ _ ⟨y0, y1, y2, _, _, _, y6, y7, y8, y9, y10, rfl, hb, h0, h1, h2, fun _ => rfl, fun _ => rfl, fun _ => (by first | rfl | simp), h6, h7, h8, h9, h10⟩
    | 6, _ =>
      have ho' := ho
      simp [opsregKp12] at ho
      subst ho
      obtain rfl := h5 (hall ⟨5, .data⟩ (by simp) rfl)
      refine wpOp_one ho' rfl fun K hK => ?_
      go_simp
      exact hK _ _ ⟨y0, y1, y2, y3, y4, _, _, y7, y8, y9, y10, rfl, hb, h0, h1, h2, h3, h4, fun _ => rfl, fun _ => (by first | rfl | simp), h7, h8, h9, h10⟩
    | 7, _ =>
      have ho' := ho
      simp [opsregKp12] at ho
      subst ho
      obtain rfl := h6 (hall ⟨6, .data⟩ (by simp) rfl)
      refine wpOp_one ho' rfl fun K hK => ?_
      have hc0 := hbv w1 hb
      go_simp
      exact hK _ _ ⟨y0, y1, y2, y3, y4, y5, _, _, y8, y9, y10, rfl, hb, h0, h1, h2, h3, h4, h5, fun _ => rfl, fun _ => (by first | rfl | simp), h8, h9, h10⟩
    | 8, _ =>
      have ho' := ho
      simp [opsregKp12] at ho
      subst ho
      obtain rfl := h2 (hall ⟨2, .data⟩ (by simp) rfl)
      obtain rfl := h7 (hall ⟨7, .data⟩ (by simp) rfl)
      refine wpOp_one ho' rfl fun K hK => ?_
      go_simp
      go_at_call 20
      refine (hc2 _ hb).mono ?_
      rintro e w2 ⟨v2, rfl, hp2, hb2⟩
      exact hK _ _ ⟨y0, y1, _, y3, y4, y5, y6, _, _, y9, y10, rfl, (hb.trans (hb2.mono hb.size)), h0, fun q => hP _ _ _ (h1 q) hb2, fun _ => rfl, h3, h4, h5, h6, fun _ => rfl, fun _ => hp2, h9, h10⟩
    | 9, _ =>
      have ho' := ho
      simp [opsregKp12] at ho
      subst ho
      have p1 := h1 (hall ⟨1, .data⟩ (by simp) rfl)
      have p8 := h8 (hall ⟨8, .data⟩ (by simp) rfl)
      refine wpOp_one ho' rfl fun K hK => ?_
      go_simp
      go_at_call 19
      refine (hc3 _ _ _ hb p1 p8).mono ?_
      rintro e w2 ⟨rfl, hb2⟩
      exact hK _ _ ⟨y0, y1, y2, y3, y4, y5, y6, y7, y8, _, y10, rfl, (hb.trans (hb2.mono hb.size)), h0, fun q => hP _ _ _ (h1 q) hb2, h2, h3, h4, h5, h6, h7, fun q => hR _ _ _ (h8 q) hb2, fun _ => (by first | rfl | simp), h10⟩
    | 10, _ =>
      have ho' := ho
      simp [opsregKp12] at ho
      subst ho
      obtain rfl := h9 (hall ⟨9, .data⟩ (by simp) rfl)
      refine wpOp_one ho' rfl fun K hK => ?_
      go_simp
      exact hK _ _ ⟨y0, y1, y2, y3, y4, y5, y6, y7, y8, _, _, rfl, hb, h0, h1, h2, h3, h4, h5, h6, h7, h8, fun _ => rfl, fun _ => (by first | rfl | simp)⟩
    | k + 11, hi => omega

abbrev opsregKp24 : Array Oper := #[{ dst := some 93, op := Op.move (Operand.tmp 6), type := 30, pos := "law.go:75", after := #[], guard := none },
  { dst := some 94, op := Op.call { callee := Callee.value (Operand.func 15), args := #[Operand.tmp 93], argTypes := #[30] }, type := 3, pos := "law.go:75", after := #[{ on := 0, ground := Ground.data }], guard := none },
  { dst := some 95, op := Op.move (Operand.tmp 7), type := 32, pos := "law.go:75", after := #[], guard := none },
  { dst := some 96, op := Op.call { callee := Callee.builtin Builtin.len, args := #[Operand.tmp 95], argTypes := #[32] }, type := 3, pos := "law.go:75", after := #[{ on := 2, ground := Ground.data }], guard := none },
  { dst := some 97, op := Op.binOp BinOp.neq 3 (Operand.tmp 94) (Operand.tmp 96) 3, type := 4, pos := "law.go:75", after := #[{ on := 1, ground := Ground.data }, { on := 3, ground := Ground.data }], guard := none },
  { dst := some 98, op := Op.move (Operand.tmp 97), type := 4, pos := "law.go:75", after := #[{ on := 4, ground := Ground.data }, { on := 1, ground := Ground.chain }], guard := none },
  { dst := some 99, op := Op.move (Operand.tmp 6), type := 30, pos := "law.go:75", after := #[{ on := 5, ground := Ground.guard }], guard := some (5, false) },
  { dst := some 100, op := Op.call { callee := Callee.value (Operand.func 14), args := #[Operand.tmp 99], argTypes := #[30] }, type := 4, pos := "law.go:75", after := #[{ on := 6, ground := Ground.data }, { on := 5, ground := Ground.chain }, { on := 5, ground := Ground.guard }], guard := some (5, false) },
  { dst := some 101, op := Op.move (Operand.tmp 10), type := 4, pos := "law.go:75", after := #[{ on := 5, ground := Ground.guard }], guard := some (5, false) },
  { dst := some 102, op := Op.binOp BinOp.neq 4 (Operand.tmp 100) (Operand.tmp 101) 4, type := 4, pos := "law.go:75", after := #[{ on := 7, ground := Ground.data }, { on := 8, ground := Ground.data }, { on := 5, ground := Ground.guard }], guard := some (5, false) },
  { dst := some 103, op := Op.pick (Operand.tmp 98) (Operand.const (Value.bool true)) (Operand.tmp 102), type := 4, pos := "law.go:75", after := #[{ on := 5, ground := Ground.data }, { on := 9, ground := Ground.data }], guard := none },
  { dst := some 104, op := Op.move (Operand.tmp 103), type := 4, pos := "law.go:75", after := #[{ on := 10, ground := Ground.data }, { on := 7, ground := Ground.chain }], guard := none },
  { dst := some 105, op := Op.move (Operand.tmp 6), type := 30, pos := "law.go:75", after := #[{ on := 11, ground := Ground.guard }], guard := some (11, false) },
  { dst := some 106, op := Op.call { callee := Callee.value (Operand.func 13), args := #[Operand.tmp 105], argTypes := #[30] }, type := 32, pos := "law.go:75", after := #[{ on := 12, ground := Ground.data }, { on := 11, ground := Ground.chain }, { on := 11, ground := Ground.guard }], guard := some (11, false) },
  { dst := some 107, op := Op.move (Operand.tmp 7), type := 32, pos := "law.go:75", after := #[{ on := 11, ground := Ground.guard }], guard := some (11, false) },
  { dst := some 108, op := Op.call { callee := Callee.value (Operand.func 19), args := #[Operand.tmp 106, Operand.tmp 107], argTypes := #[32, 32] }, type := 4, pos := "law.go:75", after := #[{ on := 13, ground := Ground.data }, { on := 14, ground := Ground.data }, { on := 13, ground := Ground.chain }, { on := 11, ground := Ground.guard }], guard := some (11, false) },
  { dst := some 109, op := Op.unOp UnOp.not 4 (Operand.tmp 108), type := 4, pos := "law.go:75", after := #[{ on := 15, ground := Ground.data }, { on := 11, ground := Ground.guard }], guard := some (11, false) },
  { dst := some 110, op := Op.pick (Operand.tmp 104) (Operand.const (Value.bool true)) (Operand.tmp 109), type := 4, pos := "law.go:75", after := #[{ on := 11, ground := Ground.data }, { on := 16, ground := Ground.data }], guard := none },
  { dst := some 111, op := Op.move (Operand.tmp 110), type := 4, pos := "law.go:75", after := #[{ on := 17, ground := Ground.data }, { on := 15, ground := Ground.chain }], guard := none },
  { dst := some 112, op := Op.move (Operand.tmp 6), type := 30, pos := "law.go:75", after := #[{ on := 18, ground := Ground.guard }], guard := some (18, false) },
  { dst := some 113, op := Op.call { callee := Callee.value (Operand.func 15), args := #[Operand.tmp 112], argTypes := #[30] }, type := 3, pos := "law.go:75", after := #[{ on := 19, ground := Ground.data }, { on := 18, ground := Ground.chain }, { on := 18, ground := Ground.guard }], guard := some (18, false) },
  { dst := some 114, op := Op.fieldAddr 28 (Operand.tmp 5) 0, type := 0, pos := "law.go:75", after := #[{ on := 18, ground := Ground.guard }], guard := some (18, false) },
  { dst := some 115, op := Op.load 2 (Operand.tmp 114), type := 2, pos := "law.go:75", after := #[{ on := 21, ground := Ground.data }, { on := 18, ground := Ground.guard }], guard := some (18, false) },
  { dst := some 116, op := Op.fieldAddr 28 (Operand.tmp 5) 1, type := 0, pos := "law.go:75", after := #[{ on := 18, ground := Ground.guard }], guard := some (18, false) },
  { dst := some 117, op := Op.load 2 (Operand.tmp 116), type := 2, pos := "law.go:75", after := #[{ on := 23, ground := Ground.data }, { on := 18, ground := Ground.guard }], guard := some (18, false) },
  { dst := some 118, op := Op.call { callee := Callee.builtin Builtin.max, args := #[Operand.tmp 115, Operand.tmp 117], argTypes := #[2, 2] }, type := 2, pos := "law.go:75", after := #[{ on := 22, ground := Ground.data }, { on := 24, ground := Ground.data }, { on := 18, ground := Ground.guard }], guard := some (18, false) },
  { dst := some 119, op := Op.binOp BinOp.gtr 2 (Operand.tmp 113) (Operand.tmp 118) 2, type := 4, pos := "law.go:75", after := #[{ on := 20, ground := Ground.data }, { on := 25, ground := Ground.data }, { on := 18, ground := Ground.guard }], guard := some (18, false) },
  { dst := some 120, op := Op.pick (Operand.tmp 111) (Operand.const (Value.bool true)) (Operand.tmp 119), type := 4, pos := "law.go:75", after := #[{ on := 18, ground := Ground.data }, { on := 26, ground := Ground.data }], guard := none }]
def WregKp24 (sb cb n wc : Nat) (lo hi : Int) (wA : Option Addr) (dn : Bool) (P : World → Value → Prop) (D : List Deferred) (v0 v1 v2 v3 v4 v8 v9 v11 v12 v13 v14 v15 v16 v17 v18 v19 v20 v21 v22 v23 v24 v25 v26 v27 v28 v29 v30 v31 v32 v33 v34 v35 v36 v37 v38 v39 v40 v41 v42 v43 v44 v45 v46 v47 v48 v49 v50 v51 v52 v53 v54 v55 v56 v57 v58 v59 v60 v61 v62 v63 v64 v65 v66 v67 v68 v69 v70 v71 v72 v73 v74 v75 v76 v77 v78 v79 v80 v81 v82 v83 v84 v85 v86 v87 v88 v89 v90 v91 v92 : Value) (w0 : World) (l : Nat → Bool) (a : Act) (w : World) : Prop :=
  ∃ (y0 y1 y2 y3 y4 y5 y6 y7 y8 y9 y10 y11 y12 y13 y14 y15 y16 y17 y18 y19 y20 y21 y22 y23 y24 y25 y26 y27 : Value), a = { tmps := #[v0, v1, v2, v3, v4, .pointer (some ⟨sb, 0, none⟩), .pointer (some ⟨cb, 0, none⟩), .slice wA n wc, v8, v9, .bool dn, v11, v12, v13, v14, v15, v16, v17, v18, v19, v20, v21, v22, v23, v24, v25, v26, v27, v28, v29, v30, v31, v32, v33, v34, v35, v36, v37, v38, v39, v40, v41, v42, v43, v44, v45, v46, v47, v48, v49, v50, v51, v52, v53, v54, v55, v56, v57, v58, v59, v60, v61, v62, v63, v64, v65, v66, v67, v68, v69, v70, v71, v72, v73, v74, v75, v76, v77, v78, v79, v80, v81, v82, v83, v84, v85, v86, v87, v88, v89, v90, v91, v92, y0, y1, y2, y3, y4, y5, y6, y7, y8, y9, y10, y11, y12, y13, y14, y15, y16, y17, y18, y19, y20, y21, y22, y23, y24, y25, y26, y27], defers := D } ∧ Below w0.heap.size w0 w ∧
    (l 0 = true → y0 = .pointer (some ⟨cb, 0, none⟩)) ∧ (l 1 = true → y1 = .int .i64 (n : Int)) ∧ (l 2 = true → y2 = .slice wA n wc) ∧ (l 3 = true → y3 = .int .i64 (n : Int)) ∧ (l 4 = true → y4 = .bool false) ∧ (l 5 = true → y5 = .bool false) ∧ (l 6 = true → y6 = .pointer (some ⟨cb, 0, none⟩)) ∧ (l 7 = true → y7 = .bool dn) ∧ (l 8 = true → y8 = .bool dn) ∧ (l 9 = true → y9 = .bool false) ∧ (l 10 = true → y10 = .bool false) ∧ (l 11 = true → y11 = .bool false) ∧ (l 12 = true → y12 = .pointer (some ⟨cb, 0, none⟩)) ∧ (l 13 = true → P w y13) ∧ (l 14 = true → y14 = .slice wA n wc) ∧ (l 15 = true → y15 = .bool true) ∧ (l 16 = true → y16 = .bool false) ∧ (l 17 = true → y17 = .bool false) ∧ (l 18 = true → y18 = .bool false) ∧ (l 19 = true → y19 = .pointer (some ⟨cb, 0, none⟩)) ∧ (l 20 = true → y20 = .int .i64 (n : Int)) ∧ (l 21 = true → y21 = .pointer (some ⟨sb, 0, none⟩)) ∧ (l 22 = true → y22 = .int .i64 lo) ∧ (l 23 = true → y23 = .pointer (some ⟨sb, 1, none⟩)) ∧ (l 24 = true → y24 = .int .i64 hi) ∧ (l 25 = true → y25 = .int .i64 (if lo < hi then hi else lo)) ∧ (l 26 = true → y26 = .bool false) ∧ (l 27 = true → y27 = .bool false)
set_option maxHeartbeats 8000000 in
set_option maxRecDepth 100000 in
theorem regKp24 (sb cb n wc : Nat) (lo hi : Int) (wA : Option Addr) (dn : Bool) (P : World → Value → Prop) (D : List Deferred) (v0 v1 v2 v3 v4 v8 v9 v11 v12 v13 v14 v15 v16 v17 v18 v19 v20 v21 v22 v23 v24 v25 v26 v27 v28 v29 v30 v31 v32 v33 v34 v35 v36 v37 v38 v39 v40 v41 v42 v43 v44 v45 v46 v47 v48 v49 v50 v51 v52 v53 v54 v55 v56 v57 v58 v59 v60 v61 v62 v63 v64 v65 v66 v67 v68 v69 v70 v71 v72 v73 v74 v75 v76 v77 v78 v79 v80 v81 v82 v83 v84 v85 v86 v87 v88 v89 v90 v91 v92 wy0 wy1 wy2 wy3 wy4 wy5 wy6 wy7 wy8 wy9 wy10 wy11 wy12 wy13 wy14 wy15 wy16 wy17 wy18 wy19 wy20 wy21 wy22 wy23 wy24 wy25 wy26 wy27 : Value) (w : World) (hs0 : (∀ w', Below w.heap.size w w' → w'.cell? ⟨sb, 0, none⟩ = some (.int .i64 lo))) (hs1 : (∀ w', Below w.heap.size w w' → w'.cell? ⟨sb, 1, none⟩ = some (.int .i64 hi))) (hP : (∀ w v w', P w v → Below w.heap.size w w' → P w' v)) (hc1 : (∀ w', Below w.heap.size w w' → Calls Try.prog 15 #[.pointer (some ⟨cb, 0, none⟩)] w' fun e w2 => e = .returned (.int .i64 (n : Int)) ∧ Below w'.heap.size w' w2)) (hc2 : (∀ w', Below w.heap.size w w' → Calls Try.prog 14 #[.pointer (some ⟨cb, 0, none⟩)] w' fun e w2 => e = .returned (.bool dn) ∧ Below w'.heap.size w' w2)) (hc3 : (∀ w', Below w.heap.size w w' → Calls Try.prog 13 #[.pointer (some ⟨cb, 0, none⟩)] w' fun e w2 => ∃ v, e = .returned v ∧ P w2 v ∧ Below w'.heap.size w' w2)) (hc4 : ∀ w' u, Below w.heap.size w w' → P w' u → Calls Try.prog 19 #[u, .slice wA n wc] w' fun e w2 => e = .returned (.bool true) ∧ Below w'.heap.size w' w2) (hmx : ¬ ((if lo < hi then hi else lo) < (n : Int))) (Q : Exit → Act → World → Prop)
    (hQ : ∀ (y0 y1 y2 y3 y4 y5 y6 y7 y8 y9 y10 y11 y12 y13 y14 y15 y16 y17 y18 y19 y20 y21 y22 y23 y24 y25 y26 : Value) (w' : World), Below w.heap.size w w' → Q .normal { tmps := #[v0, v1, v2, v3, v4, .pointer (some ⟨sb, 0, none⟩), .pointer (some ⟨cb, 0, none⟩), .slice wA n wc, v8, v9, .bool dn, v11, v12, v13, v14, v15, v16, v17, v18, v19, v20, v21, v22, v23, v24, v25, v26, v27, v28, v29, v30, v31, v32, v33, v34, v35, v36, v37, v38, v39, v40, v41, v42, v43, v44, v45, v46, v47, v48, v49, v50, v51, v52, v53, v54, v55, v56, v57, v58, v59, v60, v61, v62, v63, v64, v65, v66, v67, v68, v69, v70, v71, v72, v73, v74, v75, v76, v77, v78, v79, v80, v81, v82, v83, v84, v85, v86, v87, v88, v89, v90, v91, v92, y0, y1, y2, y3, y4, y5, y6, y7, y8, y9, y10, y11, y12, y13, y14, y15, y16, y17, y18, y19, y20, y21, y22, y23, y24, y25, y26, .bool false], defers := D } w') :
    (Code.region 24 opsregKp24 true).wp Try.prog Q { tmps := #[v0, v1, v2, v3, v4, .pointer (some ⟨sb, 0, none⟩), .pointer (some ⟨cb, 0, none⟩), .slice wA n wc, v8, v9, .bool dn, v11, v12, v13, v14, v15, v16, v17, v18, v19, v20, v21, v22, v23, v24, v25, v26, v27, v28, v29, v30, v31, v32, v33, v34, v35, v36, v37, v38, v39, v40, v41, v42, v43, v44, v45, v46, v47, v48, v49, v50, v51, v52, v53, v54, v55, v56, v57, v58, v59, v60, v61, v62, v63, v64, v65, v66, v67, v68, v69, v70, v71, v72, v73, v74, v75, v76, v77, v78, v79, v80, v81, v82, v83, v84, v85, v86, v87, v88, v89, v90, v91, v92, wy0, wy1, wy2, wy3, wy4, wy5, wy6, wy7, wy8, wy9, wy10, wy11, wy12, wy13, wy14, wy15, wy16, wy17, wy18, wy19, wy20, wy21, wy22, wy23, wy24, wy25, wy26, wy27], defers := D } w := by
  refine wp_region_inv (by kernel_rfl) (WregKp24 sb cb n wc lo hi wA dn P D v0 v1 v2 v3 v4 v8 v9 v11 v12 v13 v14 v15 v16 v17 v18 v19 v20 v21 v22 v23 v24 v25 v26 v27 v28 v29 v30 v31 v32 v33 v34 v35 v36 v37 v38 v39 v40 v41 v42 v43 v44 v45 v46 v47 v48 v49 v50 v51 v52 v53 v54 v55 v56 v57 v58 v59 v60 v61 v62 v63 v64 v65 v66 v67 v68 v69 v70 v71 v72 v73 v74 v75 v76 v77 v78 v79 v80 v81 v82 v83 v84 v85 v86 v87 v88 v89 v90 v91 v92 w) ?hacy ?h0 ?hstep ?hdone
  case hacy => kernel_rfl
  case h0 => exact ⟨wy0, wy1, wy2, wy3, wy4, wy5, wy6, wy7, wy8, wy9, wy10, wy11, wy12, wy13, wy14, wy15, wy16, wy17, wy18, wy19, wy20, wy21, wy22, wy23, wy24, wy25, wy26, wy27, rfl, below_drewN (Below.refl _ _) 1, (fun p => by cases p), (fun p => by cases p), (fun p => by cases p), (fun p => by cases p), (fun p => by cases p), (fun p => by cases p), (fun p => by cases p), (fun p => by cases p), (fun p => by cases p), (fun p => by cases p), (fun p => by cases p), (fun p => by cases p), (fun p => by cases p), (fun p => by cases p), (fun p => by cases p), (fun p => by cases p), (fun p => by cases p), (fun p => by cases p), (fun p => by cases p), (fun p => by cases p), (fun p => by cases p), (fun p => by cases p), (fun p => by cases p), (fun p => by cases p), (fun p => by cases p), (fun p => by cases p), (fun p => by cases p), (fun p => by cases p)⟩
  case hdone =>
    intro l a w1 hI hall
    obtain ⟨y0, y1, y2, y3, y4, y5, y6, y7, y8, y9, y10, y11, y12, y13, y14, y15, y16, y17, y18, y19, y20, y21, y22, y23, y24, y25, y26, y27, rfl, hb, h0, h1, h2, h3, h4, h5, h6, h7, h8, h9, h10, h11, h12, h13, h14, h15, h16, h17, h18, h19, h20, h21, h22, h23, h24, h25, h26, h27⟩ := hI
    obtain rfl := h27 (hall 27 (by decide))
    exact hQ _ _ _ _ _ _ _ _ _ _ _ _ _ _ _ _ _ _ _ _ _ _ _ _ _ _ _ _ hb 
  case hstep =>
    intro l a w1 i o hI ho hl hall
    obtain ⟨y0, y1, y2, y3, y4, y5, y6, y7, y8, y9, y10, y11, y12, y13, y14, y15, y16, y17, y18, y19, y20, y21, y22, y23, y24, y25, y26, y27, rfl, hb, h0, h1, h2, h3, h4, h5, h6, h7, h8, h9, h10, h11, h12, h13, h14, h15, h16, h17, h18, h19, h20, h21, h22, h23, h24, h25, h26, h27⟩ := hI
    have hi : i < 28 := (Array.getElem?_eq_some_iff.1 ho).1
    match i, hi with
    | 0, _ =>
      have ho' := ho
      simp [opsregKp24] at ho
      subst ho
      refine wpOp_one ho' rfl fun K hK => ?_
      go_simp
      exact hK _ _ ⟨_, y1, y2, y3, y4, y5, y6, y7, y8, y9, y10, y11, y12, y13, y14, y15, y16, y17, y18, y19, y20, y21, y22, y23, y24, y25, y26, y27, rfl, hb, fun _ => (by first | rfl | simp), h1, h2, h3, h4, h5, h6, h7, h8, h9, h10, h11, h12, h13, h14, h15, h16, h17, h18, h19, h20, h21, h22, h23, h24, h25, h26, h27⟩
    | 1, _ =>
      have ho' := ho
      simp [opsregKp24] at ho
      subst ho
      obtain rfl := h0 (hall ⟨0, .data⟩ (by simp) rfl)
      refine wpOp_one ho' rfl fun K hK => ?_
      go_simp
      go_at_call 15
      refine (hc1 _ hb).mono ?_
      rintro e w2 ⟨rfl, hb2⟩
      exact hK _ _ ⟨_, _, y2, y3, y4, y5, y6, y7, y8, y9, y10, y11, y12, y13, y14, y15, y16, y17, y18, y19, y20, y21, y22, y23, y24, y25, y26, y27, rfl, (hb.trans (hb2.mono hb.size)), fun _ => rfl, fun _ => (by first | rfl | simp), h2, h3, h4, h5, h6, h7, h8, h9, h10, h11, h12, fun q => hP _ _ _ (h13 q) hb2, h14, h15, h16, h17, h18, h19, h20, h21, h22, h23, h24, h25, h26, h27⟩
    | 2, _ =>
      have ho' := ho
      simp [opsregKp24] at ho
      subst ho
      refine wpOp_one ho' rfl fun K hK => ?_
      go_simp
      exact hK _ _ ⟨y0, y1, _, y3, y4, y5, y6, y7, y8, y9, y10, y11, y12, y13, y14, y15, y16, y17, y18, y19, y20, y21, y22, y23, y24, y25, y26, y27, rfl, hb, h0, h1, fun _ => (by first | rfl | simp), h3, h4, h5, h6, h7, h8, h9, h10, h11, h12, h13, h14, h15, h16, h17, h18, h19, h20, h21, h22, h23, h24, h25, h26, h27⟩
    | 3, _ =>
      have ho' := ho
      simp [opsregKp24] at ho
      subst ho
      obtain rfl := h2 (hall ⟨2, .data⟩ (by simp) rfl)
      refine wpOp_one ho' rfl fun K hK => ?_
      go_simp
      exact hK _ _ ⟨y0, y1, _, _, y4, y5, y6, y7, y8, y9, y10, y11, y12, y13, y14, y15, y16, y17, y18, y19, y20, y21, y22, y23, y24, y25, y26, y27, rfl, hb, h0, h1, fun _ => rfl, fun _ => (by first | rfl | simp), h4, h5, h6, h7, h8, h9, h10, h11, h12, h13, h14, h15, h16, h17, h18, h19, h20, h21, h22, h23, h24, h25, h26, h27⟩
    | 4, _ =>
      have ho' := ho
      simp [opsregKp24] at ho
      subst ho
      obtain rfl := h1 (hall ⟨1, .data⟩ (by simp) rfl)
      obtain rfl := h3 (hall ⟨3, .data⟩ (by simp) rfl)
      refine wpOp_one ho' rfl fun K hK => ?_
      go_simp
      exact hK _ _ ⟨y0, _, y2, _, _, y5, y6, y7, y8, y9, y10, y11, y12, y13, y14, y15, y16, y17, y18, y19, y20, y21, y22, y23, y24, y25, y26, y27, rfl, hb, h0, fun _ => rfl, h2, fun _ => rfl, fun _ => (by first | rfl | simp), h5, h6, h7, h8, h9, h10, h11, h12, h13, h14, h15, h16, h17, h18, h19, h20, h21, h22, h23, h24, h25, h26, h27⟩
    | 5, _ =>
      have ho' := ho
      simp [opsregKp24] at ho
      subst ho
      obtain rfl := h4 (hall ⟨4, .data⟩ (by simp) rfl)
      refine wpOp_one ho' rfl fun K hK => ?_
      go_simp
      exact hK _ _ ⟨y0, y1, y2, y3, _, _, y6, y7, y8, y9, y10, y11, y12, y13, y14, y15, y16, y17, y18, y19, y20, y21, y22, y23, y24, y25, y26, y27, rfl, hb, h0, h1, h2, h3, fun _ => rfl, fun _ => (by first | rfl | simp), h6, h7, h8, h9, h10, h11, h12, h13, h14, h15, h16, h17, h18, h19, h20, h21, h22, h23, h24, h25, h26, h27⟩
    | 6, _ =>
      have ho' := ho
      simp [opsregKp24] at ho
      subst ho
      obtain rfl := h5 (hall ⟨5, .guard⟩ (by simp) rfl)
      refine wpOp_on ho' rfl fun K hK => ?_
      go_simp
      exact hK _ _ ⟨y0, y1, y2, y3, y4, _, _, y7, y8, y9, y10, y11, y12, y13, y14, y15, y16, y17, y18, y19, y20, y21, y22, y23, y24, y25, y26, y27, rfl, hb, h0, h1, h2, h3, h4, fun _ => rfl, fun _ => (by first | rfl | simp), h7, h8, h9, h10, h11, h12, h13, h14, h15, h16, h17, h18, h19, h20, h21, h22, h23, h24, h25, h26, h27⟩
    | 7, _ =>
      have ho' := ho
      simp [opsregKp24] at ho
      subst ho
      obtain rfl := h5 (hall ⟨5, .chain⟩ (by simp) rfl)
      obtain rfl := h6 (hall ⟨6, .data⟩ (by simp) rfl)
      refine wpOp_on ho' rfl fun K hK => ?_
      go_simp
      go_at_call 14
      refine (hc2 _ hb).mono ?_
      rintro e w2 ⟨rfl, hb2⟩
      exact hK _ _ ⟨y0, y1, y2, y3, y4, _, _, _, y8, y9, y10, y11, y12, y13, y14, y15, y16, y17, y18, y19, y20, y21, y22, y23, y24, y25, y26, y27, rfl, (hb.trans (hb2.mono hb.size)), h0, h1, h2, h3, h4, fun _ => rfl, fun _ => rfl, fun _ => (by first | rfl | simp), h8, h9, h10, h11, h12, fun q => hP _ _ _ (h13 q) hb2, h14, h15, h16, h17, h18, h19, h20, h21, h22, h23, h24, h25, h26, h27⟩
    | 8, _ =>
      have ho' := ho
      simp [opsregKp24] at ho
      subst ho
      obtain rfl := h5 (hall ⟨5, .guard⟩ (by simp) rfl)
      refine wpOp_on ho' rfl fun K hK => ?_
      go_simp
      exact hK _ _ ⟨y0, y1, y2, y3, y4, _, y6, y7, _, y9, y10, y11, y12, y13, y14, y15, y16, y17, y18, y19, y20, y21, y22, y23, y24, y25, y26, y27, rfl, hb, h0, h1, h2, h3, h4, fun _ => rfl, h6, h7, fun _ => (by first | rfl | simp), h9, h10, h11, h12, h13, h14, h15, h16, h17, h18, h19, h20, h21, h22, h23, h24, h25, h26, h27⟩
    | 9, _ =>
      have ho' := ho
      simp [opsregKp24] at ho
      subst ho
      obtain rfl := h5 (hall ⟨5, .guard⟩ (by simp) rfl)
      obtain rfl := h7 (hall ⟨7, .data⟩ (by simp) rfl)
      obtain rfl := h8 (hall ⟨8, .data⟩ (by simp) rfl)
      refine wpOp_on ho' rfl fun K hK => ?_
      go_simp
      exact hK _ _ ⟨y0, y1, y2, y3, y4, _, y6, _, _, _, y10, y11, y12, y13, y14, y15, y16, y17, y18, y19, y20, y21, y22, y23, y24, y25, y26, y27, rfl, hb, h0, h1, h2, h3, h4, fun _ => rfl, h6, fun _ => rfl, fun _ => rfl, fun _ => (by first | rfl | simp), h10, h11, h12, h13, h14, h15, h16, h17, h18, h19, h20, h21, h22, h23, h24, h25, h26, h27⟩
    | 10, _ =>
      have ho' := ho
      simp [opsregKp24] at ho
      subst ho
      obtain rfl := h5 (hall ⟨5, .data⟩ (by simp) rfl)
      obtain rfl := h9 (hall ⟨9, .data⟩ (by simp) rfl)
      refine wpOp_one ho' rfl fun K hK => ?_
      go_simp
      exact hK _ _ ⟨y0, y1, y2, y3, y4, _, y6, y7, y8, _, _, y11, y12, y13, y14, y15, y16, y17, y18, y19, y20, y21, y22, y23, y24, y25, y26, y27, rfl, hb, h0, h1, h2, h3, h4, fun _ => rfl, h6, h7, h8, fun _ => rfl, fun _ => (by first | rfl | simp), h11, h12, h13, h14, h15, h16, h17, h18, h19, h20, h21, h22, h23, h24, h25, h26, h27⟩
    | 11, _ =>
      have ho' := ho
      simp [opsregKp24] at ho
      subst ho
      obtain rfl := h10 (hall ⟨10, .data⟩ (by simp) rfl)
      refine wpOp_one ho' rfl fun K hK => ?_
      go_simp
      exact hK _ _ ⟨y0, y1, y2, y3, y4, y5, y6, y7, y8, y9, _, _, y12, y13, y14, y15, y16, y17, y18, y19, y20, y21, y22, y23, y24, y25, y26, y27, rfl, hb, h0, h1, h2, h3, h4, h5, h6, h7, h8, h9, fun _ => rfl, fun _ => (by first | rfl | simp), h12, h13, h14, h15, h16, h17, h18, h19, h20, h21, h22, h23, h24, h25, h26, h27⟩
    | 12, _ =>
      have ho' := ho
      simp [opsregKp24] at ho
      subst ho
      obtain rfl := h11 (hall ⟨11, .guard⟩ (by simp) rfl)
      refine wpOp_on ho' rfl fun K hK => ?_
      go_simp
      exact hK _ _ ⟨y0, y1, y2, y3, y4, y5, y6, y7, y8, y9, y10, _, _, y13, y14, y15, y16, y17, y18, y19, y20, y21, y22, y23, y24, y25, y26, y27, rfl, hb, h0, h1, h2, h3, h4, h5, h6, h7, h8, h9, h10, fun _ => rfl, fun _ => (by first | rfl | simp), h13, h14, h15, h16, h17, h18, h19, h20, h21, h22, h23, h24, h25, h26, h27⟩
    | 13, _ =>
      have ho' := ho
      simp [opsregKp24] at ho
      subst ho
      obtain rfl := h11 (hall ⟨11, .chain⟩ (by simp) rfl)
      obtain rfl := h12 (hall ⟨12, .data⟩ (by simp) rfl)
      refine wpOp_on ho' rfl fun K hK => ?_
      go_simp
      go_at_call 13
      refine (hc3 _ hb).mono ?_
      rintro e w2 ⟨v2, rfl, hp2, hb2⟩
      exact hK _ _ ⟨y0, y1, y2, y3, y4, y5, y6, y7, y8, y9, y10, _, _, _, y14, y15, y16, y17, y18, y19, y20, y21, y22, y23, y24, y25, y26, y27, rfl, (hb.trans (hb2.mono hb.size)), h0, h1, h2, h3, h4, h5, h6, h7, h8, h9, h10, fun _ => rfl, fun _ => rfl, fun _ => hp2, h14, h15, h16, h17, h18, h19, h20, h21, h22, h23, h24, h25, h26, h27⟩
    | 14, _ =>
      have ho' := ho
      simp [opsregKp24] at ho
      subst ho
      obtain rfl := h11 (hall ⟨11, .guard⟩ (by simp) rfl)
      refine wpOp_on ho' rfl fun K hK => ?_
      go_simp
      exact hK _ _ ⟨y0, y1, y2, y3, y4, y5, y6, y7, y8, y9, y10, _, y12, y13, _, y15, y16, y17, y18, y19, y20, y21, y22, y23, y24, y25, y26, y27, rfl, hb, h0, h1, h2, h3, h4, h5, h6, h7, h8, h9, h10, fun _ => rfl, h12, h13, fun _ => (by first | rfl | simp), h15, h16, h17, h18, h19, h20, h21, h22, h23, h24, h25, h26, h27⟩
    | 15, _ =>
      have ho' := ho
      simp [opsregKp24] at ho
      subst ho
      obtain rfl := h11 (hall ⟨11, .guard⟩ (by simp) rfl)
      have p13 := h13 (hall ⟨13, .data⟩ (by simp) rfl)
      obtain rfl := h14 (hall ⟨14, .data⟩ (by simp) rfl)
      refine wpOp_on ho' rfl fun K hK => ?_
      go_simp
      go_at_call 19
      refine (hc4 _ _ hb p13).mono ?_
      rintro e w2 ⟨rfl, hb2⟩
      exact hK _ _ ⟨y0, y1, y2, y3, y4, y5, y6, y7, y8, y9, y10, _, y12, y13, _, _, y16, y17, y18, y19, y20, y21, y22, y23, y24, y25, y26, y27, rfl, (hb.trans (hb2.mono hb.size)), h0, h1, h2, h3, h4, h5, h6, h7, h8, h9, h10, fun _ => rfl, h12, fun q => hP _ _ _ (h13 q) hb2, fun _ => rfl, fun _ => (by first | rfl | simp), h16, h17, h18, h19, h20, h21, h22, h23, h24, h25, h26, h27⟩
    | 16, _ =>
      have ho' := ho
      simp [opsregKp24] at ho
      subst ho
      obtain rfl := h11 (hall ⟨11, .guard⟩ (by simp) rfl)
      obtain rfl := h15 (hall ⟨15, .data⟩ (by simp) rfl)
      refine wpOp_on ho' rfl fun K hK => ?_
      go_simp
      exact hK _ _ ⟨y0, y1, y2, y3, y4, y5, y6, y7, y8, y9, y10, _, y12, y13, y14, _, _, y17, y18, y19, y20, y21, y22, y23, y24, y25, y26, y27, rfl, hb, h0, h1, h2, h3, h4, h5, h6, h7, h8, h9, h10, fun _ => rfl, h12, h13, h14, fun _ => rfl, fun _ => (by first | rfl | simp), h17, h18, h19, h20, h21, h22, h23, h24, h25, h26, h27⟩
    | 17, _ =>
      have ho' := ho
      simp [opsregKp24] at ho
      subst ho
      obtain rfl := h11 (hall ⟨11, .data⟩ (by simp) rfl)
      obtain rfl := h16 (hall ⟨16, .data⟩ (by simp) rfl)
      refine wpOp_one ho' rfl fun K hK => ?_
      go_simp
      exact hK _ _ ⟨y0, y1, y2, y3, y4, y5, y6, y7, y8, y9, y10, _, y12, y13, y14, y15, _, _, y18, y19, y20, y21, y22, y23, y24, y25, y26, y27, rfl, hb, h0, h1, h2, h3, h4, h5, h6, h7, h8, h9, h10, fun _ => rfl, h12, h13, h14, h15, fun _ => rfl, fun _ => (by first | rfl | simp), h18, h19, h20, h21, h22, h23, h24, h25, h26, h27⟩
    | 18, _ =>
      have ho' := ho
      simp [opsregKp24] at ho
      subst ho
      obtain rfl := h17 (hall ⟨17, .data⟩ (by simp) rfl)
      refine wpOp_one ho' rfl fun K hK => ?_
      go_simp
      exact hK _ _ ⟨y0, y1, y2, y3, y4, y5, y6, y7, y8, y9, y10, y11, y12, y13, y14, y15, y16, _, _, y19, y20, y21, y22, y23, y24, y25, y26, y27, rfl, hb, h0, h1, h2, h3, h4, h5, h6, h7, h8, h9, h10, h11, h12, h13, h14, h15, h16, fun _ => rfl, fun _ => (by first | rfl | simp), h19, h20, h21, h22, h23, h24, h25, h26, h27⟩
    | 19, _ =>
      have ho' := ho
      simp [opsregKp24] at ho
      subst ho
      obtain rfl := h18 (hall ⟨18, .guard⟩ (by simp) rfl)
      refine wpOp_on ho' rfl fun K hK => ?_
      go_simp
      exact hK _ _ ⟨y0, y1, y2, y3, y4, y5, y6, y7, y8, y9, y10, y11, y12, y13, y14, y15, y16, y17, _, _, y20, y21, y22, y23, y24, y25, y26, y27, rfl, hb, h0, h1, h2, h3, h4, h5, h6, h7, h8, h9, h10, h11, h12, h13, h14, h15, h16, h17, fun _ => rfl, fun _ => (by first | rfl | simp), h20, h21, h22, h23, h24, h25, h26, h27⟩
    | 20, _ =>
      have ho' := ho
      simp [opsregKp24] at ho
      subst ho
      obtain rfl := h18 (hall ⟨18, .chain⟩ (by simp) rfl)
      obtain rfl := h19 (hall ⟨19, .data⟩ (by simp) rfl)
      refine wpOp_on ho' rfl fun K hK => ?_
      go_simp
      go_at_call 15
      refine (hc1 _ hb).mono ?_
      rintro e w2 ⟨rfl, hb2⟩
      exact hK _ _ ⟨y0, y1, y2, y3, y4, y5, y6, y7, y8, y9, y10, y11, y12, y13, y14, y15, y16, y17, _, _, _, y21, y22, y23, y24, y25, y26, y27, rfl, (hb.trans (hb2.mono hb.size)), h0, h1, h2, h3, h4, h5, h6, h7, h8, h9, h10, h11, h12, fun q => hP _ _ _ (h13 q) hb2, h14, h15, h16, h17, fun _ => rfl, fun _ => rfl, fun _ => (by first | rfl | simp), h21, h22, h23, h24, h25, h26, h27⟩
    | 21, _ =>
      have ho' := ho
      simp [opsregKp24] at ho
      subst ho
      obtain rfl := h18 (hall ⟨18, .guard⟩ (by simp) rfl)
      refine wpOp_on ho' rfl fun K hK => ?_
      go_simp
      exact hK _ _ ⟨y0, y1, y2, y3, y4, y5, y6, y7, y8, y9, y10, y11, y12, y13, y14, y15, y16, y17, _, y19, y20, _, y22, y23, y24, y25, y26, y27, rfl, hb, h0, h1, h2, h3, h4, h5, h6, h7, h8, h9, h10, h11, h12, h13, h14, h15, h16, h17, fun _ => rfl, h19, h20, fun _ => (by first | rfl | simp), h22, h23, h24, h25, h26, h27⟩
    | 22, _ =>
      have ho' := ho
      simp [opsregKp24] at ho
      subst ho
      obtain rfl := h18 (hall ⟨18, .guard⟩ (by simp) rfl)
      obtain rfl := h21 (hall ⟨21, .data⟩ (by simp) rfl)
      refine wpOp_on ho' rfl fun K hK => ?_
      have hc0 := hs0 w1 hb
      go_simp
      exact hK _ _ ⟨y0, y1, y2, y3, y4, y5, y6, y7, y8, y9, y10, y11, y12, y13, y14, y15, y16, y17, _, y19, y20, _, _, y23, y24, y25, y26, y27, rfl, hb, h0, h1, h2, h3, h4, h5, h6, h7, h8, h9, h10, h11, h12, h13, h14, h15, h16, h17, fun _ => rfl, h19, h20, fun _ => rfl, fun _ => (by first | rfl | simp), h23, h24, h25, h26, h27⟩
    | 23, _ =>
      have ho' := ho
      simp [opsregKp24] at ho
      subst ho
      obtain rfl := h18 (hall ⟨18, .guard⟩ (by simp) rfl)
      refine wpOp_on ho' rfl fun K hK => ?_
      go_simp
      exact hK _ _ ⟨y0, y1, y2, y3, y4, y5, y6, y7, y8, y9, y10, y11, y12, y13, y14, y15, y16, y17, _, y19, y20, y21, y22, _, y24, y25, y26, y27, rfl, hb, h0, h1, h2, h3, h4, h5, h6, h7, h8, h9, h10, h11, h12, h13, h14, h15, h16, h17, fun _ => rfl, h19, h20, h21, h22, fun _ => (by first | rfl | simp), h24, h25, h26, h27⟩
    | 24, _ =>
      have ho' := ho
      simp [opsregKp24] at ho
      subst ho
      obtain rfl := h18 (hall ⟨18, .guard⟩ (by simp) rfl)
      obtain rfl := h23 (hall ⟨23, .data⟩ (by simp) rfl)
      refine wpOp_on ho' rfl fun K hK => ?_
      have hc0 := hs1 w1 hb
      go_simp
      exact hK _ _ ⟨y0, y1, y2, y3, y4, y5, y6, y7, y8, y9, y10, y11, y12, y13, y14, y15, y16, y17, _, y19, y20, y21, y22, _, _, y25, y26, y27, rfl, hb, h0, h1, h2, h3, h4, h5, h6, h7, h8, h9, h10, h11, h12, h13, h14, h15, h16, h17, fun _ => rfl, h19, h20, h21, h22, fun _ => rfl, fun _ => (by first | rfl | simp), h25, h26, h27⟩
    | 25, _ =>
      have ho' := ho
      simp [opsregKp24] at ho
      subst ho
      obtain rfl := h18 (hall ⟨18, .guard⟩ (by simp) rfl)
      obtain rfl := h22 (hall ⟨22, .data⟩ (by simp) rfl)
      obtain rfl := h24 (hall ⟨24, .data⟩ (by simp) rfl)
      refine wpOp_on ho' rfl fun K hK => ?_
      go_simp
      exact hK _ _ ⟨y0, y1, y2, y3, y4, y5, y6, y7, y8, y9, y10, y11, y12, y13, y14, y15, y16, y17, _, y19, y20, y21, _, y23, _, _, y26, y27, rfl, hb, h0, h1, h2, h3, h4, h5, h6, h7, h8, h9, h10, h11, h12, h13, h14, h15, h16, h17, fun _ => rfl, h19, h20, h21, fun _ => rfl, h23, fun _ => rfl, fun _ => (by first | rfl | simp), h26, h27⟩
    | 26, _ =>
      have ho' := ho
      simp [opsregKp24] at ho
      subst ho
      obtain rfl := h18 (hall ⟨18, .guard⟩ (by simp) rfl)
      obtain rfl := h20 (hall ⟨20, .data⟩ (by simp) rfl)
      obtain rfl := h25 (hall ⟨25, .data⟩ (by simp) rfl)
      refine wpOp_on ho' rfl fun K hK => ?_
      go_simp
      exact hK _ _ ⟨y0, y1, y2, y3, y4, y5, y6, y7, y8, y9, y10, y11, y12, y13, y14, y15, y16, y17, _, y19, _, y21, y22, y23, y24, _, _, y27, rfl, hb, h0, h1, h2, h3, h4, h5, h6, h7, h8, h9, h10, h11, h12, h13, h14, h15, h16, h17, fun _ => rfl, h19, fun _ => rfl, h21, h22, h23, h24, fun _ => rfl, fun _ => (by first | rfl | simp), h27⟩
    | 27, _ =>
      have ho' := ho
      simp [opsregKp24] at ho
      subst ho
      obtain rfl := h18 (hall ⟨18, .data⟩ (by simp) rfl)
      obtain rfl := h26 (hall ⟨26, .data⟩ (by simp) rfl)
      refine wpOp_one ho' rfl fun K hK => ?_
      go_simp
      exact hK _ _ ⟨y0, y1, y2, y3, y4, y5, y6, y7, y8, y9, y10, y11, y12, y13, y14, y15, y16, y17, _, y19, y20, y21, y22, y23, y24, y25, _, _, rfl, hb, h0, h1, h2, h3, h4, h5, h6, h7, h8, h9, h10, h11, h12, h13, h14, h15, h16, h17, fun _ => rfl, h19, h20, h21, h22, h23, h24, h25, fun _ => rfl, fun _ => (by first | rfl | simp)⟩
    | k + 28, hi => omega


end Go.Proofs.Ytkkmopcmilgdoaa
