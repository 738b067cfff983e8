/- The walk of the statement ClassMakes: called with a list of bytes and two bytes it returns true and changes nothing that was there.
   Conditions: the list's cells and length are as they are read; bytes are below 256. -/
import Derived.Test.YtbppofhjlgfbiaaCanon
import Derived.Test.YtbppofhjlgfbiaaLawsWalk
import Derived.Test.YtbppofhjlgfbiaaOrder
import Derived.Deep.RegionHeld3
import Derived.Deep.DrawnRows
import Derived.Deep.WholeRow
namespace Go.Proofs.Ytbppofhjlgfbiaa
open Go.RowKit
attribute [local go_sem ↓] Go.wp_at_zero Go.wp_at_succ

theorem info39 : (Try.prog.info? 39).map (fun i => (i.zero, i.size)) = some (some (.agg (Array.replicate 256 (.bool false))), 256) := by kernel_rfl

set_option maxHeartbeats 4000000 in
set_option maxRecDepth 100000 in
theorem makes_long (A : Option Addr) (n cap lo hi : Nat) (w : World) (hn : 100 < n) :
    Calls Try.prog 5 #[.slice A n cap, .int .u8 lo, .int .u8 hi] w fun e w' => e = .returned (.bool true) ∧ Below w.heap.size w w' := by
  have hn' : (100 : Int) < (n : Int) := by omega
  go_enter Try.func5, Try.ntmps5
  go_wp2_with fail
  go_at_call 9
  refine (awake_any _).mono ?_
  rintro e w1 ⟨rfl, hb1⟩
  go_wp2_with fail
  go_at_call 9
  refine (awake_any _).mono ?_
  rintro e w2 ⟨rfl, hb2⟩
  go_wp2_with fail
  go_ret
  exact ⟨rfl, hb1.trans (hb2.mono hb1.size)⟩

def BFree (w : World) (b : Nat) : Prop := ∀ i, i < 256 → w.frozen? ⟨b, i, none⟩ = false
theorem BFree.below {w w' : World} {b : Nat} (h : BFree w b) (hl : b < w.heap.size) (hb : Below w.heap.size w w') : BFree w' b := fun i hi => (hb.frozen (p := ⟨b, i, none⟩) hl).trans (h i hi)
theorem Bools.lt {w : World} {b : Nat} {s : Nat → Bool} (h : Bools w b s) : b < w.heap.size := World.block_lt_of_cell? _ _ (h 0 (by decide))
theorem Bools.congr {w : World} {b : Nat} {s s' : Nat → Bool} (h : Bools w b s) (he : ∀ i, i < 256 → s i = s' i) : Bools w b s' := fun i hi => by rw [← he i hi]; exact h i hi
theorem Bools.put {w : World} {b q : Nat} {s : Nat → Bool} (h : Bools w b s) : Bools (w.setCell ⟨b, q, none⟩ (.bool true)) b (fun x => s x || x == q) := by
  intro i hi
  by_cases e : i = q
  · subst e
    rw [World.cell?_setCell_same (h := h i hi)]
    simp
  · rw [World.cell?_setCell_other (h := addr_ne (.inr fun h => e h.symm)), h i hi]
    have : (i == q) = false := by simp [e]
    simp [this]
theorem Bools.put_other {w : World} {b b' q : Nat} {s : Nat → Bool} (h : Bools w b s) (hne : b' ≠ b) : Bools (w.setCell ⟨b', q, none⟩ (.bool true)) b s := by
  intro i hi
  rw [World.cell?_setCell_other (h := addr_ne (.inl hne))]
  exact h i hi
theorem BFree.put {w : World} {b b' q : Nat} (h : BFree w b) : BFree (w.setCell ⟨b', q, none⟩ (.bool true)) b := fun i hi => by simp [h i hi]
def MW (w : World) (b7 b8 : Nat) (s1 s2 : Nat → Bool) (wr : World) : Prop :=
  Bools wr b7 s1 ∧ BFree wr b7 ∧ Bools wr b8 s2 ∧ BFree wr b8 ∧ w.heap.size ≤ b7 ∧ b7 < b8 ∧ Below w.heap.size w wr
theorem MW.put1 {w wr : World} {b7 b8 q : Nat} {s1 s2 : Nat → Bool} (h : MW w b7 b8 s1 s2 wr) : MW w b7 b8 (fun x => s1 x || x == q) s2 (wr.setCell ⟨b7, q, none⟩ (.bool true)) :=
  ⟨h.1.put, h.2.1.put, h.2.2.1.put_other (by have := h.2.2.2.2.2.1; omega), h.2.2.2.1.put, h.2.2.2.2.1, h.2.2.2.2.2.1, h.2.2.2.2.2.2.setCell h.2.2.2.2.1 _⟩
theorem MW.put2 {w wr : World} {b7 b8 q : Nat} {s1 s2 : Nat → Bool} (h : MW w b7 b8 s1 s2 wr) : MW w b7 b8 s1 (fun x => s2 x || x == q) (wr.setCell ⟨b8, q, none⟩ (.bool true)) :=
  ⟨h.1.put_other (by have := h.2.2.2.2.2.1; omega), h.2.1.put, h.2.2.1.put, h.2.2.2.1.put, h.2.2.2.2.1, h.2.2.2.2.2.1, h.2.2.2.2.2.2.setCell (by have := h.2.2.2.2.1; have := h.2.2.2.2.2.1; show w.heap.size ≤ b8; omega) _⟩
theorem MW.congr {w wr : World} {b7 b8 : Nat} {s1 s2 t1 t2 : Nat → Bool} (h : MW w b7 b8 s1 s2 wr) (h1 : ∀ i, i < 256 → s1 i = t1 i) (h2 : ∀ i, i < 256 → s2 i = t2 i) : MW w b7 b8 t1 t2 wr :=
  ⟨h.1.congr h1, h.2.1, h.2.2.1.congr h2, h.2.2.2.1, h.2.2.2.2.1, h.2.2.2.2.2.1, h.2.2.2.2.2.2⟩
theorem bools_new (w : World) : Bools (w.alloc (.cells (Array.replicate 256 (.bool false)) 39)) w.heap.size (fun _ => false) := fun i hi => by simp [hi]
theorem bfree_new (w : World) : BFree (w.alloc (.cells (Array.replicate 256 (.bool false)) 39)) w.heap.size := fun i hi => by simp
theorem MW.start {w w1 : World} (hb : Below w.heap.size w w1) : MW w w1.heap.size (w1.heap.size + 1) (fun _ => false) (fun _ => false) ((w1.alloc (.cells (Array.replicate 256 (.bool false)) 39)).alloc (.cells (Array.replicate 256 (.bool false)) 39)) := by
  have e1 : (w1.alloc (.cells (Array.replicate 256 (.bool false)) 39)).heap.size = w1.heap.size + 1 := by simp
  have c := bools_new (w1.alloc (.cells (Array.replicate 256 (.bool false)) 39))
  have f := bfree_new (w1.alloc (.cells (Array.replicate 256 (.bool false)) 39))
  rw [e1] at c f
  exact ⟨(bools_new w1).below (below_alloc _ _), (bfree_new w1).below (by simp) (below_alloc _ _), c, f, hb.size, by omega, (hb.alloc hb.size _).alloc (by rw [e1]; have := hb.size; omega) _⟩
def Row (w : World) (A : Option Addr) (n : Nat) (z : Nat → Nat) : Prop := 0 < n → ∃ b off, A = some ⟨b, off, none⟩ ∧ b < w.heap.size ∧ ∀ t, t < n → w.cell? ⟨b, off + t, none⟩ = some (.int .u8 (z t : Nat))
theorem of_in {A : Option Addr} {n cap : Nat} {z : Nat → Nat} {w w' : World} (hrow : Row w A n z) (hz : ∀ t, z t < 256) (hn : n ≤ 100) (hb : Below w.heap.size w w') :
    Calls Try.prog 19 #[.slice A n cap] w' (GivesClass (inFirst n z) w') := by
  by_cases h : n = 0
  · subst h; exact of_nil A cap z w'
  · obtain ⟨b, off, rfl, hblt, hcell⟩ := hrow (by omega)
    exact of_class b off n cap z w' (fun _ => Nat.lt_of_lt_of_le hblt hb.size) (fun t ht => (hb.cell (p := ⟨b, off + t, none⟩) hblt).trans (hcell t ht)) hz (by omega)
theorem keep_range {W w' : World} {b o : Nat} {cs : List Value} (hb : Below W.heap.size W w') (h : W.rangeAt b o cs) : w'.rangeAt b o cs := fun j v hv => keep_cell hb (h j v hv)
theorem inFirst_succ (k : Nat) (z : Nat → Nat) (x : Nat) : (inFirst k z x || x == z k) = inFirst (k + 1) z x := by
  rw [Bool.eq_iff_iff, inFirst_iff]
  simp only [Bool.or_eq_true, inFirst_iff, beq_iff_eq]
  constructor
  · rintro (⟨t, ht, h⟩ | h)
    · exact ⟨t, by omega, h⟩
    · exact ⟨k, by omega, h.symm⟩
  · rintro ⟨t, ht, h⟩
    by_cases e : t = k
    · subst e; exact .inr h.symm
    · exact .inl ⟨t, by omega, h⟩
def upTo (lo hi k x : Nat) : Bool := between lo hi x && decide (x < k)
theorem upTo_start (lo hi x : Nat) : false = upTo lo hi lo x := by
  unfold upTo between
  by_cases h : lo ≤ x
  · have : ¬ x < lo := by omega
    simp [this]
  · simp [h]
theorem upTo_succ {lo hi k : Nat} (h1 : lo ≤ k) (h2 : k ≤ hi) (x : Nat) : (upTo lo hi k x || x == k) = upTo lo hi (k + 1) x := by
  unfold upTo between
  rw [Bool.eq_iff_iff]
  simp
  omega
theorem upTo_end {lo hi k : Nat} (h : ¬ k ≤ hi) (x : Nat) : upTo lo hi k x = between lo hi x := by
  unfold upTo between
  rw [Bool.eq_iff_iff]
  simp
  omega

def MI (A : Option Addr) (k cap lo hi : Nat) (w : World) (H : Nat) (C1 C2 : Nat → Nat) (L1 L2 : List Value) (l : Nat → Bool) (a : Act) (w' : World) : Prop :=
  ∃ (v3 v4 v5 v6 v9 v10 v11 v12 v13 v14 v15 v16 v17 v18 v19 v20 v21 v22 v23 v24 v25 v26 v27 v28 v29 v30 v31 v32 v33 v34 v35 v36 v37 v38 v39 v40 v41 v42 v43 v44 v45 v46 v47 v48 v49 v50 v51 v52 : Value), a = { tmps := #[.slice A k cap, .int .u8 lo, .int .u8 hi, v3, v4, v5, v6, .pointer (some ⟨H, 0, none⟩), .pointer (some ⟨H + 1, 0, none⟩), v9, v10, v11, v12, v13, v14, v15, v16, v17, v18, v19, v20, v21, v22, v23, v24, v25, v26, v27, v28, v29, v30, v31, v32, v33, v34, v35, v36, v37, v38, v39, v40, v41, v42, v43, v44, v45, v46, v47, v48, v49, v50, v51, v52], defers := [] } ∧ w'.rangeAt H 0 L1 ∧ w'.rangeAt (H + 1) 0 L2 ∧ Below w.heap.size w w' ∧ (l 0 = true → v40 = .slice A k cap) ∧ (l 1 = true → v41 = .agg #[.int .u64 (C1 0 : Nat), .int .u64 (C1 1 : Nat), .int .u64 (C1 2 : Nat), .int .u64 (C1 3 : Nat)]) ∧ (l 2 = true → v42 = .agg L1.toArray) ∧ (l 3 = true → v43 = .agg #[.int .u64 (C1 0 : Nat), .int .u64 (C1 1 : Nat), .int .u64 (C1 2 : Nat), .int .u64 (C1 3 : Nat)]) ∧ (l 4 = true → v44 = .bool true) ∧ (l 5 = true → v45 = .bool true) ∧ (l 6 = true → v46 = .int .u8 lo) ∧ (l 7 = true → v47 = .int .u8 hi) ∧ (l 8 = true → v48 = .agg #[.int .u64 (C2 0 : Nat), .int .u64 (C2 1 : Nat), .int .u64 (C2 2 : Nat), .int .u64 (C2 3 : Nat)]) ∧ (l 9 = true → v49 = .agg L2.toArray) ∧ (l 10 = true → v50 = .agg #[.int .u64 (C2 0 : Nat), .int .u64 (C2 1 : Nat), .int .u64 (C2 2 : Nat), .int .u64 (C2 3 : Nat)]) ∧ (l 11 = true → v51 = .bool true) ∧ (l 12 = true → v52 = .bool true) ∧ (l 13 = true → v6 = .bool true)
theorem wpOp_run {P : Program} {ops : Array Oper} {Q : Exit → Act → World → Prop} {i : Nat} {o : Oper} {I : Act → World → Prop} {a : Act} {w : World} (hi : ops[i]? = some o) (hg : Region.wanted o (yielded ops a.tmps) = true)
    (h : ∀ K : Act → World → Prop, (∀ a w, I a w → K a w) → o.wp P a w K Q) : wpOp P ops Q i I a w := by
  unfold wpOp
  simp only [hi]
  rw [if_pos hg]
  exact .inl (h I fun _ _ => id)

set_option maxHeartbeats 4000000 in
set_option maxRecDepth 100000 in
theorem makes_some (A : Option Addr) (n cap lo hi : Nat) (z : Nat → Nat) (w : World) (hrow : Row w A n z) (hz : ∀ t, z t < 256) (hn : n ≤ 100) (hlo : lo < 256) (hhi : hi < 256) :
    Calls Try.prog 5 #[.slice A n cap, .int .u8 lo, .int .u8 hi] w fun e w' => e = .returned (.bool true) ∧ Below w.heap.size w w' := by
  have hn' : ¬ (100 : Int) < (n : Int) := by omega
  have hzero := (zero_of_info info39).1
  go_enter Try.func5, Try.ntmps5
  go_wp2_with fail
  go_at_call 9
  refine (awake_any _).mono ?_
  rintro e w1 ⟨rfl, hb1⟩
  go_wp2_with fail
  have hst := MW.start hb1
  go_loopw [9] (fun i wr => ∃ k : Nat, k ≤ n ∧ i = .int .i64 k ∧ MW w w1.heap.size (w1.heap.size + 1) (inFirst k z) (fun _ => false) wr) (fun i _ => n - (intOf i).toNat)
  case atStart => exact ⟨0, Nat.zero_le _, rfl, hst.congr (fun _ _ => rfl) (fun _ _ => rfl)⟩
  case round =>
    clear hst hzero
    obtain ⟨k, hk, rfl, hms⟩ := hrel
    by_cases hlt : k < n
    · have h1 : (k : Int) < n := by omega
      obtain ⟨b, off, hAe, hblt, hcell⟩ := hrow (by omega)
      subst hAe
      have hc := (hms.2.2.2.2.2.2.cell (p := ⟨b, off + k, none⟩) hblt).trans (hcell k hlt)
      have hb := hz k
      have hd := hms.1 (z k) hb
      have hf := hms.2.1 (z k) hb
      have hnx := (hms.put1 (q := z k)).congr (fun x _ => inFirst_succ k z x) (fun _ _ => rfl)
      clear hcell hblt hz hrow
      go_wp2_with fail
      go_roundw
      case rel => exact ⟨k + 1, by omega, by go_num, hnx⟩
      case measure => simp [intOf]; omega
    · have hke : k = n := by omega
      subst hke
      go_wp2_with fail
      have hms0 := hms.congr (fun _ _ => rfl) (fun x _ => upTo_start lo hi x)
      clear hms
      go_loopw [10] (fun i wr => ∃ j : Nat, lo ≤ j ∧ j ≤ 256 ∧ i = .int .i64 j ∧ MW w w1.heap.size (w1.heap.size + 1) (inFirst k z) (upTo lo hi j) wr) (fun i _ => 256 - (intOf i).toNat)
      case atStart => exact ⟨lo, Nat.le_refl _, by omega, rfl, hms0⟩
      case round =>
        clear hms0
        obtain ⟨j, hj1, hj2, rfl, hms⟩ := hrel
        by_cases hle : j ≤ hi
        · have h1 : (j : Int) ≤ (hi : Int) := by omega
          have h2 : (0 : Int) ≤ (j : Int) := by omega
          have h3 : (j : Int) < 256 := by omega
          have hd := hms.2.2.1 j (by omega)
          have hf := hms.2.2.2.1 j (by omega)
          have hnx := (hms.put2 (q := j)).congr (fun _ _ => rfl) (fun x _ => upTo_succ hj1 hle x)
          clear hrow hz hlt
          go_wp2_with fail
          go_roundw
          case rel => exact ⟨j + 1, by omega, by omega, by go_num, hnx⟩
          case measure => simp [intOf]; omega
        · have hm2 := hms.congr (fun _ _ => rfl) (fun x _ => upTo_end hle x)
          have hB := hm2.2.2.2.2.2.2
          have r1 := hm2.1.range
          have r2 := hm2.2.2.1.range
          have hu := Try.underlying39
          have i1 : (Try.prog.info? 39).map (·.size) = some (boolList (inFirst k z)).length := by rw [boolList_length]; exact (zero_of_info info39).2
          have i2 : (Try.prog.info? 39).map (·.size) = some (boolList (between lo hi)).length := by rw [boolList_length]; exact (zero_of_info info39).2
          have e1 := equal_same (A := canon (inFirst k z)) (B := canon (inFirst k z)) ⟨rfl, rfl, rfl, rfl⟩
          have e2 := equal_same (A := canon (between lo hi)) (B := canon (between lo hi)) ⟨rfl, rfl, rfl, rfl⟩
          have hst : Below w.heap.size w wr.drew := below_drewN hB 1
          have m1 := made_class (inFirst k z)
          have m2 := made_class (between lo hi)
          generalize boolList (inFirst k z) = L1 at r1 i1 m1
          generalize boolList (between lo hi) = L2 at r2 i2 m2
          clear hms hm2
          go_wp2_with fail
          refine wp_region_inv (by kernel_rfl) (MI A k cap lo hi w w1.heap.size (canon (inFirst k z)) (canon (between lo hi)) L1 L2) (by kernel_rfl) ?h0 ?hstep ?hdone
          case h0 => exact ⟨_, _, _, _, _, _, _, _, _, _, _, _, _, _, _, _, _, _, _, _, _, _, _, _, _, _, _, _, _, _, _, _, _, _, _, _, _, _, _, _, _, _, _, _, _, _, _, _, rfl, r1, r2, hst, (fun p => by cases p), (fun p => by cases p), (fun p => by cases p), (fun p => by cases p), (fun p => by cases p), (fun p => by cases p), (fun p => by cases p), (fun p => by cases p), (fun p => by cases p), (fun p => by cases p), (fun p => by cases p), (fun p => by cases p), (fun p => by cases p), (fun p => by cases p)⟩
          case hdone =>
            intro l a w2 hI hall
            obtain ⟨v3, v4, v5, v6, v9, v10, v11, v12, v13, v14, v15, v16, v17, v18, v19, v20, v21, v22, v23, v24, v25, v26, v27, v28, v29, v30, v31, v32, v33, v34, v35, v36, v37, v38, v39, v40, v41, v42, v43, v44, v45, v46, v47, v48, v49, v50, v51, v52, rfl, k1, k2, kB, h0, h1, h2, h3, h4, h5, h6, h7, h8, h9, h10, h11, h12, h13⟩ := hI
            obtain rfl := h13 (hall 13 (by decide))
            go_wp2
            go_ret
            exact ⟨rfl, kB⟩
          case hstep =>
            intro l a w2 i o hI ho hl hall
            obtain ⟨v3, v4, v5, v6, v9, v10, v11, v12, v13, v14, v15, v16, v17, v18, v19, v20, v21, v22, v23, v24, v25, v26, v27, v28, v29, v30, v31, v32, v33, v34, v35, v36, v37, v38, v39, v40, v41, v42, v43, v44, v45, v46, v47, v48, v49, v50, v51, v52, rfl, k1, k2, kB, h0, h1, h2, h3, h4, h5, h6, h7, h8, h9, h10, h11, h12, h13⟩ := hI
            have hidx : i < 14 := (Array.getElem?_eq_some_iff.1 ho).1
            match i, hidx with
            | 0, _ =>
              have ho' := ho
              simp at ho
              subst ho
              refine wpOp_run ho' (by rfl) fun K hK => ?_
              go_simp
              exact hK _ _ ⟨_, _, _, _, _, _, _, _, _, _, _, _, _, _, _, _, _, _, _, _, _, _, _, _, _, _, _, _, _, _, _, _, _, _, _, _, _, _, _, _, _, _, _, _, _, _, _, _, rfl, k1, k2, kB, (fun _ => rfl), h1, h2, h3, h4, h5, h6, h7, h8, h9, h10, h11, h12, h13⟩
            | 1, _ =>
              have ho' := ho
              simp at ho
              subst ho
              obtain rfl := h0 (hall ⟨0, .data⟩ (by simp) rfl)
              refine wpOp_run ho' (by rfl) fun K hK => ?_
              go_simp
              go_at_call 19
              refine (of_in hrow hz hn kB).mono ?_
              rintro e w3 ⟨rfl, hb⟩
              exact hK _ _ ⟨_, _, _, _, _, _, _, _, _, _, _, _, _, _, _, _, _, _, _, _, _, _, _, _, _, _, _, _, _, _, _, _, _, _, _, _, _, _, _, _, _, _, _, _, _, _, _, _, rfl, keep_range hb k1, keep_range hb k2, keep_below hb kB, (fun _ => rfl), (fun _ => rfl), h2, h3, h4, h5, h6, h7, h8, h9, h10, h11, h12, h13⟩
            | 2, _ =>
              have ho' := ho
              simp at ho
              subst ho
              refine wpOp_run ho' (by rfl) fun K hK => ?_
              refine wp_load_mid _ _ rfl _ _ rfl _ _ k1 hu rfl i1 ?_
              exact hK _ _ ⟨_, _, _, _, _, _, _, _, _, _, _, _, _, _, _, _, _, _, _, _, _, _, _, _, _, _, _, _, _, _, _, _, _, _, _, _, _, _, _, _, _, _, _, _, _, _, _, _, rfl, k1, k2, kB, h0, h1, (fun _ => rfl), h3, h4, h5, h6, h7, h8, h9, h10, h11, h12, h13⟩
            | 3, _ =>
              have ho' := ho
              simp at ho
              subst ho
              obtain rfl := h2 (hall ⟨2, .data⟩ (by simp) rfl)
              refine wpOp_run ho' (by rfl) fun K hK => ?_
              go_simp
              go_at_call 20
              refine (m1 _).mono ?_
              rintro e w3 ⟨rfl, hb⟩
              exact hK _ _ ⟨_, _, _, _, _, _, _, _, _, _, _, _, _, _, _, _, _, _, _, _, _, _, _, _, _, _, _, _, _, _, _, _, _, _, _, _, _, _, _, _, _, _, _, _, _, _, _, _, rfl, keep_range hb k1, keep_range hb k2, keep_below hb kB, h0, h1, (fun _ => rfl), (fun _ => rfl), h4, h5, h6, h7, h8, h9, h10, h11, h12, h13⟩
            | 4, _ =>
              have ho' := ho
              simp at ho
              subst ho
              obtain rfl := h1 (hall ⟨1, .data⟩ (by simp) rfl)
              obtain rfl := h3 (hall ⟨3, .data⟩ (by simp) rfl)
              refine wpOp_run ho' (by rfl) fun K hK => ?_
              go_simp
              exact hK _ _ ⟨_, _, _, _, _, _, _, _, _, _, _, _, _, _, _, _, _, _, _, _, _, _, _, _, _, _, _, _, _, _, _, _, _, _, _, _, _, _, _, _, _, _, _, _, _, _, _, _, rfl, k1, k2, kB, h0, (fun _ => rfl), h2, (fun _ => rfl), (fun _ => rfl), h5, h6, h7, h8, h9, h10, h11, h12, h13⟩
            | 5, _ =>
              have ho' := ho
              simp at ho
              subst ho
              obtain rfl := h4 (hall ⟨4, .data⟩ (by simp) rfl)
              refine wpOp_run ho' (by rfl) fun K hK => ?_
              go_simp
              exact hK _ _ ⟨_, _, _, _, _, _, _, _, _, _, _, _, _, _, _, _, _, _, _, _, _, _, _, _, _, _, _, _, _, _, _, _, _, _, _, _, _, _, _, _, _, _, _, _, _, _, _, _, rfl, k1, k2, kB, h0, h1, h2, h3, (fun _ => rfl), (fun _ => rfl), h6, h7, h8, h9, h10, h11, h12, h13⟩
            | 6, _ =>
              have ho' := ho
              simp at ho
              subst ho
              obtain rfl := h5 (hall ⟨5, .guard⟩ (by simp) rfl)
              refine wpOp_run ho' (by rfl) fun K hK => ?_
              go_simp
              exact hK _ _ ⟨_, _, _, _, _, _, _, _, _, _, _, _, _, _, _, _, _, _, _, _, _, _, _, _, _, _, _, _, _, _, _, _, _, _, _, _, _, _, _, _, _, _, _, _, _, _, _, _, rfl, k1, k2, kB, h0, h1, h2, h3, h4, (fun _ => rfl), (fun _ => rfl), h7, h8, h9, h10, h11, h12, h13⟩
            | 7, _ =>
              have ho' := ho
              simp at ho
              subst ho
              obtain rfl := h5 (hall ⟨5, .guard⟩ (by simp) rfl)
              refine wpOp_run ho' (by rfl) fun K hK => ?_
              go_simp
              exact hK _ _ ⟨_, _, _, _, _, _, _, _, _, _, _, _, _, _, _, _, _, _, _, _, _, _, _, _, _, _, _, _, _, _, _, _, _, _, _, _, _, _, _, _, _, _, _, _, _, _, _, _, rfl, k1, k2, kB, h0, h1, h2, h3, h4, (fun _ => rfl), h6, (fun _ => rfl), h8, h9, h10, h11, h12, h13⟩
            | 8, _ =>
              have ho' := ho
              simp at ho
              subst ho
              obtain rfl := h5 (hall ⟨5, .guard⟩ (by simp) rfl)
              obtain rfl := h6 (hall ⟨6, .data⟩ (by simp) rfl)
              obtain rfl := h7 (hall ⟨7, .data⟩ (by simp) rfl)
              refine wpOp_run ho' (by rfl) fun K hK => ?_
              go_simp
              go_at_call 21
              refine (range_class lo hi _ hlo hhi).mono ?_
              rintro e w3 ⟨rfl, hb⟩
              exact hK _ _ ⟨_, _, _, _, _, _, _, _, _, _, _, _, _, _, _, _, _, _, _, _, _, _, _, _, _, _, _, _, _, _, _, _, _, _, _, _, _, _, _, _, _, _, _, _, _, _, _, _, rfl, keep_range hb k1, keep_range hb k2, keep_below hb kB, h0, h1, h2, h3, h4, (fun _ => rfl), (fun _ => rfl), (fun _ => rfl), (fun _ => rfl), h9, h10, h11, h12, h13⟩
            | 9, _ =>
              have ho' := ho
              simp at ho
              subst ho
              obtain rfl := h5 (hall ⟨5, .guard⟩ (by simp) rfl)
              refine wpOp_run ho' (by rfl) fun K hK => ?_
              refine wp_load_mid _ _ rfl _ _ rfl _ _ k2 hu rfl i2 ?_
              exact hK _ _ ⟨_, _, _, _, _, _, _, _, _, _, _, _, _, _, _, _, _, _, _, _, _, _, _, _, _, _, _, _, _, _, _, _, _, _, _, _, _, _, _, _, _, _, _, _, _, _, _, _, rfl, k1, k2, kB, h0, h1, h2, h3, h4, (fun _ => rfl), h6, h7, h8, (fun _ => rfl), h10, h11, h12, h13⟩
            | 10, _ =>
              have ho' := ho
              simp at ho
              subst ho
              obtain rfl := h5 (hall ⟨5, .guard⟩ (by simp) rfl)
              obtain rfl := h9 (hall ⟨9, .data⟩ (by simp) rfl)
              refine wpOp_run ho' (by rfl) fun K hK => ?_
              go_simp
              go_at_call 20
              refine (m2 _).mono ?_
              rintro e w3 ⟨rfl, hb⟩
              exact hK _ _ ⟨_, _, _, _, _, _, _, _, _, _, _, _, _, _, _, _, _, _, _, _, _, _, _, _, _, _, _, _, _, _, _, _, _, _, _, _, _, _, _, _, _, _, _, _, _, _, _, _, rfl, keep_range hb k1, keep_range hb k2, keep_below hb kB, h0, h1, h2, h3, h4, (fun _ => rfl), h6, h7, h8, (fun _ => rfl), (fun _ => rfl), h11, h12, h13⟩
            | 11, _ =>
              have ho' := ho
              simp at ho
              subst ho
              obtain rfl := h5 (hall ⟨5, .guard⟩ (by simp) rfl)
              obtain rfl := h8 (hall ⟨8, .data⟩ (by simp) rfl)
              obtain rfl := h10 (hall ⟨10, .data⟩ (by simp) rfl)
              refine wpOp_run ho' (by rfl) fun K hK => ?_
              go_simp
              exact hK _ _ ⟨_, _, _, _, _, _, _, _, _, _, _, _, _, _, _, _, _, _, _, _, _, _, _, _, _, _, _, _, _, _, _, _, _, _, _, _, _, _, _, _, _, _, _, _, _, _, _, _, rfl, k1, k2, kB, h0, h1, h2, h3, h4, (fun _ => rfl), h6, h7, (fun _ => rfl), h9, (fun _ => rfl), (fun _ => rfl), h12, h13⟩
            | 12, _ =>
              have ho' := ho
              simp at ho
              subst ho
              obtain rfl := h5 (hall ⟨5, .data⟩ (by simp) rfl)
              obtain rfl := h11 (hall ⟨11, .data⟩ (by simp) rfl)
              refine wpOp_run ho' (by rfl) fun K hK => ?_
              go_simp
              exact hK _ _ ⟨_, _, _, _, _, _, _, _, _, _, _, _, _, _, _, _, _, _, _, _, _, _, _, _, _, _, _, _, _, _, _, _, _, _, _, _, _, _, _, _, _, _, _, _, _, _, _, _, rfl, k1, k2, kB, h0, h1, h2, h3, h4, (fun _ => rfl), h6, h7, h8, h9, h10, (fun _ => rfl), (fun _ => rfl), h13⟩
            | 13, _ =>
              have ho' := ho
              simp at ho
              subst ho
              obtain rfl := h12 (hall ⟨12, .data⟩ (by simp) rfl)
              refine wpOp_run ho' (by rfl) fun K hK => ?_
              go_simp
              exact hK _ _ ⟨_, _, _, _, _, _, _, _, _, _, _, _, _, _, _, _, _, _, _, _, _, _, _, _, _, _, _, _, _, _, _, _, _, _, _, _, _, _, _, _, _, _, _, _, _, _, _, _, rfl, k1, k2, kB, h0, h1, h2, h3, h4, h5, h6, h7, h8, h9, h10, h11, (fun _ => rfl), (fun _ => rfl)⟩
end Go.Proofs.Ytbppofhjlgfbiaa
