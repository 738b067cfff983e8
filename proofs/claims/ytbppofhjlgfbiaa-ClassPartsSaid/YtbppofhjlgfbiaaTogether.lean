/- The contract of Together: of two bytes and a list of classes, whether none of them tells the two apart.
   Conditions: classes are four words below 2^64 ('Cl'), in a row of memory as they are read; bytes below 256. -/
import Derived.Test.YtbppofhjlgfbiaaLawsWalk
import Derived.Test.YtbppofhjlgfbiaaTwiceMore
import Derived.Deep.DeepCutAuto
namespace Go.Proofs.Ytbppofhjlgfbiaa
open Go.RowKit
attribute [local go_sem ↓] Go.wp_at_zero Go.wp_at_succ
abbrev ops4 : Array Oper := #[{ dst := some 14, op := Op.move (Operand.tmp 0), type := 22, pos := "ref.go:42", after := #[], guard := none },
  { dst := some 15, op := Op.move (Operand.tmp 7), type := 3, pos := "ref.go:42", after := #[], guard := none },
  { dst := some 16, op := Op.indexAddr 22 (Operand.tmp 14) (Operand.tmp 15), type := 0, pos := "ref.go:42", after := #[{ on := 0, ground := Ground.data }, { on := 1, ground := Ground.data }], guard := none },
  { dst := some 17, op := Op.load 26 (Operand.tmp 16), type := 26, pos := "ref.go:42", after := #[{ on := 2, ground := Ground.data }], guard := none },
  { dst := some 18, op := Op.move (Operand.tmp 1), type := 3, pos := "ref.go:42", after := #[], guard := none },
  { dst := some 19, op := Op.call { callee := Callee.value (Operand.func 14), args := #[Operand.tmp 17, Operand.tmp 18], argTypes := #[26, 3] }, type := 4, pos := "ref.go:42", after := #[{ on := 3, ground := Ground.data }, { on := 4, ground := Ground.data }], guard := none },
  { dst := some 20, op := Op.move (Operand.tmp 0), type := 22, pos := "ref.go:42", after := #[], guard := none },
  { dst := some 21, op := Op.move (Operand.tmp 7), type := 3, pos := "ref.go:42", after := #[], guard := none },
  { dst := some 22, op := Op.indexAddr 22 (Operand.tmp 20) (Operand.tmp 21), type := 0, pos := "ref.go:42", after := #[{ on := 6, ground := Ground.data }, { on := 7, ground := Ground.data }], guard := none },
  { dst := some 23, op := Op.load 26 (Operand.tmp 22), type := 26, pos := "ref.go:42", after := #[{ on := 8, ground := Ground.data }], guard := none },
  { dst := some 24, op := Op.move (Operand.tmp 2), type := 3, pos := "ref.go:42", after := #[], guard := none },
  { dst := some 25, op := Op.call { callee := Callee.value (Operand.func 14), args := #[Operand.tmp 23, Operand.tmp 24], argTypes := #[26, 3] }, type := 4, pos := "ref.go:42", after := #[{ on := 9, ground := Ground.data }, { on := 10, ground := Ground.data }, { on := 5, ground := Ground.chain }], guard := none },
  { dst := some 26, op := Op.binOp BinOp.neq 4 (Operand.tmp 19) (Operand.tmp 25) 4, type := 4, pos := "ref.go:42", after := #[{ on := 5, ground := Ground.data }, { on := 11, ground := Ground.data }], guard := none }]

def W4 (C : Nat → Nat) (b off n cap p q k : Nat) (D : List Deferred) (v3 v4 v5 v6 v8 v9 v10 v11 v12 v13 : Value) (w0 : World) (l : Nat → Bool) (a : Act) (w : World) : Prop :=
  ∃ (y0 y1 y2 y3 y4 y5 y6 y7 y8 y9 y10 y11 y12 : Value), a = { tmps := #[.slice (some ⟨b, off, none⟩) n cap, .int .i64 (p : Nat), .int .i64 (q : Nat), v3, v4, v5, v6, .int .i64 (k : Nat), v8, v9, v10, v11, v12, v13, y0, y1, y2, y3, y4, y5, y6, y7, y8, y9, y10, y11, y12], defers := D } ∧ Below w0.heap.size w0 w ∧
    (l 0 = true → y0 = .slice (some ⟨b, off, none⟩) n cap) ∧ (l 1 = true → y1 = .int .i64 (k : Nat)) ∧ (l 2 = true → y2 = .pointer (some ⟨b, off + k * 4, none⟩)) ∧ (l 3 = true → y3 = .agg #[.int .u64 (C 0 : Nat), .int .u64 (C 1 : Nat), .int .u64 (C 2 : Nat), .int .u64 (C 3 : Nat)]) ∧ (l 4 = true → y4 = .int .i64 (p : Nat)) ∧ (l 5 = true → y5 = .bool (hasB C p)) ∧ (l 6 = true → y6 = .slice (some ⟨b, off, none⟩) n cap) ∧ (l 7 = true → y7 = .int .i64 (k : Nat)) ∧ (l 8 = true → y8 = .pointer (some ⟨b, off + k * 4, none⟩)) ∧ (l 9 = true → y9 = .agg #[.int .u64 (C 0 : Nat), .int .u64 (C 1 : Nat), .int .u64 (C 2 : Nat), .int .u64 (C 3 : Nat)]) ∧ (l 10 = true → y10 = .int .i64 (q : Nat)) ∧ (l 11 = true → y11 = .bool (hasB C q)) ∧ (l 12 = true → y12 = .bool (hasB C p != hasB C q))
set_option maxHeartbeats 4000000 in
set_option maxRecDepth 100000 in
theorem reg4 (C : Nat → Nat) (b off n cap p q k : Nat) (D : List Deferred) (v3 v4 v5 v6 v8 v9 v10 v11 v12 v13 wy0 wy1 wy2 wy3 wy4 wy5 wy6 wy7 wy8 wy9 wy10 wy11 wy12 : Value) (w : World) (kC : Cl C) (hp : p < 256) (hq : q < 256)
    (hC : ∀ i, i < 4 → w.cell? ⟨b, off + k * 4 + i, none⟩ = some (.int .u64 (C i : Nat))) (hk : k < n) (Q : Exit → Act → World → Prop)
    (hQ : ∀ (y0 y1 y2 y3 y4 y5 y6 y7 y8 y9 y10 y11 : Value) (w' : World), Below w.heap.size w w' → Q .normal { tmps := #[.slice (some ⟨b, off, none⟩) n cap, .int .i64 (p : Nat), .int .i64 (q : Nat), v3, v4, v5, v6, .int .i64 (k : Nat), v8, v9, v10, v11, v12, v13, y0, y1, y2, y3, y4, y5, y6, y7, y8, y9, y10, y11, .bool (hasB C p != hasB C q)], defers := D } w') :
    (Code.region 4 ops4 true).wp Try.prog Q { tmps := #[.slice (some ⟨b, off, none⟩) n cap, .int .i64 (p : Nat), .int .i64 (q : Nat), v3, v4, v5, v6, .int .i64 (k : Nat), v8, v9, v10, v11, v12, v13, wy0, wy1, wy2, wy3, wy4, wy5, wy6, wy7, wy8, wy9, wy10, wy11, wy12], defers := D } w := by
  have hk1 : (k : Int) < (n : Int) := by omega
  have hk0 : (0 : Int) ≤ (k : Int) := by omega
  refine wp_region_inv (by kernel_rfl) (W4 C b off n cap p q k D v3 v4 v5 v6 v8 v9 v10 v11 v12 v13 w) ?hacy ?h0 ?hstep ?hdone
  case hacy => kernel_rfl
  case h0 => exact ⟨wy0, wy1, wy2, wy3, wy4, wy5, wy6, wy7, wy8, wy9, wy10, wy11, wy12, rfl, below_drewN (Below.refl _ _) 1, (fun p => by cases p), (fun p => by cases p), (fun p => by cases p), (fun p => by cases p), (fun p => by cases p), (fun p => by cases p), (fun p => by cases p), (fun p => by cases p), (fun p => by cases p), (fun p => by cases p), (fun p => by cases p), (fun p => by cases p), (fun p => by cases p)⟩
  case hdone =>
    intro l a w1 hI hall
    obtain ⟨y0, y1, y2, y3, y4, y5, y6, y7, y8, y9, y10, y11, y12, rfl, hb, h0, h1, h2, h3, h4, h5, h6, h7, h8, h9, h10, h11, h12⟩ := hI
    obtain rfl := h12 (hall 12 (by decide))
    exact hQ _ _ _ _ _ _ _ _ _ _ _ _ _ hb
  case hstep =>
    intro l a w1 i o hI ho hl hall
    obtain ⟨y0, y1, y2, y3, y4, y5, y6, y7, y8, y9, y10, y11, y12, rfl, hb, h0, h1, h2, h3, h4, h5, h6, h7, h8, h9, h10, h11, h12⟩ := hI
    have hi : i < 13 := (Array.getElem?_eq_some_iff.1 ho).1
    match i, hi with
    | 0, _ =>
      have ho' := ho
      simp [ops4] at ho
      subst ho
      refine wpOp_one ho' rfl fun K hK => ?_
      go_simp
      exact hK _ _ ⟨_, y1, y2, y3, y4, y5, y6, y7, y8, y9, y10, y11, y12, rfl, hb, fun _ => rfl, h1, h2, h3, h4, h5, h6, h7, h8, h9, h10, h11, h12⟩
    | 1, _ =>
      have ho' := ho
      simp [ops4] at ho
      subst ho
      refine wpOp_one ho' rfl fun K hK => ?_
      go_simp
      exact hK _ _ ⟨y0, _, y2, y3, y4, y5, y6, y7, y8, y9, y10, y11, y12, rfl, hb, h0, fun _ => rfl, h2, h3, h4, h5, h6, h7, h8, h9, h10, h11, h12⟩
    | 2, _ =>
      have ho' := ho
      simp [ops4] at ho
      subst ho
      obtain rfl := h0 (hall ⟨0, .data⟩ (by simp) rfl)
      obtain rfl := h1 (hall ⟨1, .data⟩ (by simp) rfl)
      refine wpOp_one ho' rfl fun K hK => ?_
      go_simp
      exact hK _ _ ⟨_, _, _, y3, y4, y5, y6, y7, y8, y9, y10, y11, y12, rfl, hb, fun _ => rfl, fun _ => rfl, fun _ => by simp, h3, h4, h5, h6, h7, h8, h9, h10, h11, h12⟩
    | 3, _ =>
      have ho' := ho
      simp [ops4] at ho
      subst ho
      obtain rfl := h2 (hall ⟨2, .data⟩ (by simp) rfl)
      refine wpOp_one ho' rfl fun K hK => ?_
      have c0 : w1.cell? ⟨b, off + k * 4, none⟩ = some (.int .u64 (C 0 : Nat)) := keep_cell hb (hC 0 (by decide))
      have c1 := keep_cell hb (hC 1 (by decide))
      have c2 := keep_cell hb (hC 2 (by decide))
      have c3 := keep_cell hb (hC 3 (by decide))
      go_simp
      exact hK _ _ ⟨y0, y1, _, _, y4, y5, y6, y7, y8, y9, y10, y11, y12, rfl, hb, h0, h1, fun _ => rfl, fun _ => rfl, h4, h5, h6, h7, h8, h9, h10, h11, h12⟩
    | 4, _ =>
      have ho' := ho
      simp [ops4] at ho
      subst ho
      refine wpOp_one ho' rfl fun K hK => ?_
      go_simp
      exact hK _ _ ⟨y0, y1, y2, y3, _, y5, y6, y7, y8, y9, y10, y11, y12, rfl, hb, h0, h1, h2, h3, fun _ => rfl, h5, h6, h7, h8, h9, h10, h11, h12⟩
    | 5, _ =>
      have ho' := ho
      simp [ops4] at ho
      subst ho
      obtain rfl := h3 (hall ⟨3, .data⟩ (by simp) rfl)
      obtain rfl := h4 (hall ⟨4, .data⟩ (by simp) rfl)
      refine wpOp_one ho' rfl fun K hK => ?_
      go_simp
      go_at_call 14
      refine (rhas_any C p _ kC hp).mono ?_
      rintro e w2 ⟨rfl, hb2⟩
      exact hK _ _ ⟨y0, y1, y2, _, _, _, y6, y7, y8, y9, y10, y11, y12, rfl, (keep_below hb2 hb), h0, h1, h2, fun _ => rfl, fun _ => rfl, fun _ => rfl, h6, h7, h8, h9, h10, h11, h12⟩
    | 6, _ =>
      have ho' := ho
      simp [ops4] at ho
      subst ho
      refine wpOp_one ho' rfl fun K hK => ?_
      go_simp
      exact hK _ _ ⟨y0, y1, y2, y3, y4, y5, _, y7, y8, y9, y10, y11, y12, rfl, hb, h0, h1, h2, h3, h4, h5, fun _ => rfl, h7, h8, h9, h10, h11, h12⟩
    | 7, _ =>
      have ho' := ho
      simp [ops4] at ho
      subst ho
      refine wpOp_one ho' rfl fun K hK => ?_
      go_simp
      exact hK _ _ ⟨y0, y1, y2, y3, y4, y5, y6, _, y8, y9, y10, y11, y12, rfl, hb, h0, h1, h2, h3, h4, h5, h6, fun _ => rfl, h8, h9, h10, h11, h12⟩
    | 8, _ =>
      have ho' := ho
      simp [ops4] at ho
      subst ho
      obtain rfl := h6 (hall ⟨6, .data⟩ (by simp) rfl)
      obtain rfl := h7 (hall ⟨7, .data⟩ (by simp) rfl)
      refine wpOp_one ho' rfl fun K hK => ?_
      go_simp
      exact hK _ _ ⟨y0, y1, y2, y3, y4, y5, _, _, _, y9, y10, y11, y12, rfl, hb, h0, h1, h2, h3, h4, h5, fun _ => rfl, fun _ => rfl, fun _ => by simp, h9, h10, h11, h12⟩
    | 9, _ =>
      have ho' := ho
      simp [ops4] at ho
      subst ho
      obtain rfl := h8 (hall ⟨8, .data⟩ (by simp) rfl)
      refine wpOp_one ho' rfl fun K hK => ?_
      have c0 : w1.cell? ⟨b, off + k * 4, none⟩ = some (.int .u64 (C 0 : Nat)) := keep_cell hb (hC 0 (by decide))
      have c1 := keep_cell hb (hC 1 (by decide))
      have c2 := keep_cell hb (hC 2 (by decide))
      have c3 := keep_cell hb (hC 3 (by decide))
      go_simp
      exact hK _ _ ⟨y0, y1, y2, y3, y4, y5, y6, y7, _, _, y10, y11, y12, rfl, hb, h0, h1, h2, h3, h4, h5, h6, h7, fun _ => rfl, fun _ => rfl, h10, h11, h12⟩
    | 10, _ =>
      have ho' := ho
      simp [ops4] at ho
      subst ho
      refine wpOp_one ho' rfl fun K hK => ?_
      go_simp
      exact hK _ _ ⟨y0, y1, y2, y3, y4, y5, y6, y7, y8, y9, _, y11, y12, rfl, hb, h0, h1, h2, h3, h4, h5, h6, h7, h8, h9, fun _ => rfl, h11, h12⟩
    | 11, _ =>
      have ho' := ho
      simp [ops4] at ho
      subst ho
      obtain rfl := h9 (hall ⟨9, .data⟩ (by simp) rfl)
      obtain rfl := h10 (hall ⟨10, .data⟩ (by simp) rfl)
      refine wpOp_one ho' rfl fun K hK => ?_
      go_simp
      go_at_call 14
      refine (rhas_any C q _ kC hq).mono ?_
      rintro e w2 ⟨rfl, hb2⟩
      exact hK _ _ ⟨y0, y1, y2, y3, y4, y5, y6, y7, y8, _, _, _, y12, rfl, (keep_below hb2 hb), h0, h1, h2, h3, h4, h5, h6, h7, h8, fun _ => rfl, fun _ => rfl, fun _ => rfl, h12⟩
    | 12, _ =>
      have ho' := ho
      simp [ops4] at ho
      subst ho
      obtain rfl := h5 (hall ⟨5, .data⟩ (by simp) rfl)
      obtain rfl := h11 (hall ⟨11, .data⟩ (by simp) rfl)
      refine wpOp_one ho' rfl fun K hK => ?_
      go_simp
      exact hK _ _ ⟨y0, y1, y2, y3, y4, _, y6, y7, y8, y9, y10, _, _, rfl, hb, h0, h1, h2, h3, h4, fun _ => rfl, h6, h7, h8, h9, h10, fun _ => rfl, fun _ => (by first | rfl | simp)⟩
    | k + 13, hi => omega

set_option maxHeartbeats 4000000 in
set_option maxRecDepth 100000 in
theorem together_any (A : Option Addr) (n cap p q : Nat) (L : Nat → Nat → Nat) (w : World) (hrow : ClassRow w A n L) (hL : ∀ t, Cl (L t)) (hn : n < 64) (hp : p < 256) (hq : q < 256) :
    Calls Try.prog 28 #[.slice A n cap, .int .i64 p, .int .i64 q] w fun e w' => e = .returned (.bool (rel zeros L n p q)) ∧ Below w.heap.size w w' := by
  go_enter Try.func28, Try.ntmps28
  go_wp2_with fail
  go_loopw [7] (fun i wr => ∃ k : Nat, k ≤ n ∧ i = .int .i64 k ∧ (∀ t, t < k → hasB (L t) p = hasB (L t) q) ∧ Below w.heap.size w wr) (fun i _ => n - (intOf i).toNat)
  case atStart => exact ⟨0, Nat.zero_le _, rfl, fun t ht => by omega, Below.refl _ _⟩
  case round =>
    obtain ⟨k, hk, rfl, hall, hbw⟩ := hrel
    by_cases hlt : k < n
    · obtain ⟨b, off, rfl, hblt, hcell⟩ := hrow (by omega)
      have h1 : (k : Int) < (n : Int) := by omega
      have h0 : (0 : Int) ≤ (k : Int) := by omega
      go_upto_region 4 with fail
      refine reg4 (L k) b off n cap p q k _ _ _ _ _ _ _ _ _ _ _ _ _ _ _ _ _ _ _ _ _ _ _ _ _ (hL k) hp hq (fun i h4 => (hbw.cell (p := ⟨b, off + k * 4 + i, none⟩) hblt).trans (hcell k hlt i h4)) hlt _ ?_
      intro _ _ _ _ _ _ _ _ _ _ _ _ w2 hb2
      have hb3 := keep_from hb2 hbw hbw.size
      cases he : (hasB (L k) p != hasB (L k) q) with
      | true =>
        have hr : rel zeros L n p q = false := by
          unfold rel zeros
          simp
          intro h
          rw [(mem_eq_iff L p q n).1 h k hlt] at he
          simp at he
        go_wp2_with fail
        go_ret
        exact ⟨by rw [hr]; rfl, hb3⟩
      | false =>
        have hk2 : ∀ t, t < k + 1 → hasB (L t) p = hasB (L t) q := fun t ht => by
          by_cases htk : t < k
          · exact hall t htk
          · obtain rfl : t = k := by omega
            simpa using he
        clear hall
        go_wp2_with fail
        go_roundw
        case rel => exact ⟨k + 1, by omega, by go_num, hk2, hb3⟩
        case measure => simp [intOf]; omega
    · obtain rfl : k = n := by omega
      have hr : rel zeros L k p q = true := by
        unfold rel zeros
        simp [(mem_eq_iff L p q k).2 hall]
      go_wp2_with fail
      go_ret
      exact ⟨by rw [hr]; rfl, hbw⟩

end Go.Proofs.Ytbppofhjlgfbiaa
