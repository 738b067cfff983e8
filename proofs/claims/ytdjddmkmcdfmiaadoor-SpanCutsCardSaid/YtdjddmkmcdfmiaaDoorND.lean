/- A relation joined with another one; a row's places, one after another: contracts.
   Conditions: the two relations lie apart; the library's table lies in memory. -/
import Derived.Test.YtdjddmkmcdfmiaaDoorNB
import Derived.Test.YtdjddmkmcdfmiaaDoorMSame
import Derived.Test.YtdjddmkmcdfmiaaDoorNA
import Derived.Deep.DeepCutAuto
import Derived.Deep.RegionHeld3
import Derived.Deep.RegionLaw
import Derived.Deep.RegionWith
import Derived.Deep.OwnRows
import Derived.Laws.Bits64b
import Derived.Test.YtdjddmkmcdfmiaaDoorNC

/- Rows of a relation in memory; a row's places: put, has, add: contracts.
   Conditions: places below 256. -/
namespace Go.Proofs.YtdjddmkmcdfmiaaDoor
open Go.RowKit Go.Shelf

/-- So many rows of four words in a block. -/
structure RelM (w : World) (b n : Nat) (m : Nat → Nat → Nat) : Prop where
  blk : ∃ cs, w.heap[b]? = some (.cells cs 56 (0, 0)) ∧ cs.size = 4 * n ∧ ∀ p, p < n → ∀ i, i < 4 → cs[p * 4 + i]? = some (.int .u64 (m p i : Nat))
  lt : ∀ p i, m p i < 18446744073709551616
theorem RelM.size {w : World} {b n : Nat} {m : Nat → Nat → Nat} (h : RelM w b n m) : b < w.heap.size := by
  obtain ⟨cs, h, _⟩ := h.blk
  exact (Array.getElem?_eq_some_iff.1 h).1
theorem RelM.cell {w : World} {b n : Nat} {m : Nat → Nat → Nat} (h : RelM w b n m) {p i : Nat} (hp : p < n) (hi : i < 4) : w.cell? ⟨b, p * 4 + i, none⟩ = some (.int .u64 (m p i : Nat)) := by
  obtain ⟨cs, h1, _, h2⟩ := h.blk
  rw [(row_cells h1).1]
  exact h2 p hp i hi
theorem RelM.fz {w : World} {b n : Nat} {m : Nat → Nat → Nat} (h : RelM w b n m) (j : Nat) : w.frozen? ⟨b, j, none⟩ = false := by
  obtain ⟨cs, h1, _⟩ := h.blk
  exact (row_cells h1).2 j
theorem RelM.keep {w w' : World} {b n : Nat} {m : Nat → Nat → Nat} (h : RelM w b n m) (hw : w'.heap[b]? = w.heap[b]?) : RelM w' b n m := by
  obtain ⟨cs, h1, h2⟩ := h.blk
  exact ⟨⟨cs, hw.trans h1, h2⟩, h.lt⟩
theorem RelM.ty {w : World} {b n : Nat} {m : Nat → Nat → Nat} (h : RelM w b n m) : ∃ cs mm, w.heap[b]? = some (.cells cs 56 mm) := by
  obtain ⟨cs, h1, _⟩ := h.blk
  exact ⟨cs, _, h1⟩
/-- One word of it is another one. -/
def setM (m : Nat → Nat → Nat) (p i x : Nat) (p' i' : Nat) : Nat := if p' = p ∧ i' = i then x else m p' i'
theorem RelM.set {w : World} {b n : Nat} {m : Nat → Nat → Nat} (h : RelM w b n m) {p i x : Nat} (hp : p < n) (hi : i < 4) (hx : x < 18446744073709551616) : RelM (w.setCell ⟨b, p * 4 + i, none⟩ (.int .u64 (x : Nat))) b n (setM m p i x) := by
  obtain ⟨cs, h1, h2, h3⟩ := h.blk
  refine ⟨⟨cs.setIfInBounds (p * 4 + i) (.int .u64 (x : Nat)), ?_, by rw [Array.size_setIfInBounds]; exact h2, fun p' hp' i' hi' => ?_⟩, fun p' i' => ?_⟩
  · rw [heap_setCell_same w b _ _ _ _ h1]
  · rw [Array.getElem?_setIfInBounds]
    unfold setM
    by_cases e : p * 4 + i = p' * 4 + i'
    · rw [if_pos e, if_pos (by omega), if_pos (show p' = p ∧ i' = i by omega)]
    · rw [if_neg e, if_neg (by omega)]
      exact h3 p' hp' i' hi'
  · unfold setM
    split
    · exact hx
    · exact h.lt _ _
theorem chg_set (w : World) (b j : Nat) (v : Value) : Chg (fun k => k = b) w (w.setCell ⟨b, j, none⟩ v) := (Chg.refl (fun k => k = b) w).setCell (p := ⟨b, j, none⟩) (fun _ => rfl) v
/-- One row of it is another one. -/
def rowM (m : Nat → Nat → Nat) (p : Nat) (C : Nat → Nat) (p' i' : Nat) : Nat := if p' = p then C i' else m p' i'
theorem RelM.congr {w : World} {b n : Nat} {m k : Nat → Nat → Nat} (h : RelM w b n m) (e : ∀ p i, m p i = k p i) : RelM w b n k := by
  rw [show k = m from funext fun p => funext fun i => (e p i).symm]; exact h
theorem RelM.on {w : World} {b n : Nat} {m k : Nat → Nat → Nat} (h : RelM w b n m) (e : ∀ p, p < n → ∀ i, i < 4 → m p i = k p i) (l : ∀ p i, k p i < 18446744073709551616) : RelM w b n k := by
  obtain ⟨cs, h1, h2, h3⟩ := h.blk
  exact ⟨⟨cs, h1, h2, fun p hp i hi => by rw [h3 p hp i hi, e p hp i hi]⟩, l⟩
theorem and_i64_63 (q : Nat) (hq : q < 18446744073709551616 / 2) : bits .and .i64 (q : Int) 63 = ((q % 64 : Nat) : Int) := by
  have h1 : (BitVec.ofInt 64 (q : Int)).toNat = q := by
    rw [BitVec.ofInt_natCast, BitVec.toNat_ofNat]; exact Nat.mod_eq_of_lt (by omega)
  have h2 : (BitVec.ofInt 64 (63 : Int)).toNat = 63 := by rfl
  show IntKind.i64.wrap ((BitVec.ofInt 64 (q : Int) &&& BitVec.ofInt 64 (63 : Int)).toNat : Int) = _
  rw [BitVec.toNat_and, h1, h2, show q &&& 63 = q % 64 from Nat.and_two_pow_sub_one_eq_mod q 6]
  simp [IntKind.wrap, IntKind.bits, IntKind.signed]
  omega
theorem pow_lt64 (q : Nat) : 2 ^ (q % 64) < 18446744073709551616 := Nat.lt_of_lt_of_le (Nat.pow_lt_pow_right (by decide) (show q % 64 < 64 by omega)) (by decide)
theorem put_pow (q : Nat) : IntKind.u64.wrap (2 ^ ((q : Int) % 64).toNat) = ((2 ^ (q % 64) : Nat) : Int) := by
  have h := pow_lt64 q
  have e : ((q : Int) % 64).toNat = q % 64 := by omega
  rw [IntKind.wrap_u64, e]
  generalize hx : 2 ^ (q % 64) = x at h
  have : ((2 : Int) ^ (q % 64)) = ((x : Nat) : Int) := by rw [← hx]; simp
  rw [this]
  omega

set_option maxHeartbeats 1000000 in
set_option maxRecDepth 100000 in
theorem rowPut_any (b n p q : Nat) (m : Nat → Nat → Nat) (w : World) (h : RelM w b n m) (hp : p < n) (hq : q < 256) :
    Calls Tryd.prog 55 #[.pointer (some ⟨b, p * 4, none⟩), .int .i64 (q : Nat)] w fun e w' => e = .returned (.tuple #[]) ∧ RelM w' b n (rowM m p (putR (m p) q)) ∧ Chg (fun k => k = b) w w' := by
  have hx := h.cell hp (show q / 64 < 4 by omega)
  have hf := h.fz (p * 4 + q / 64)
  have ha := and_i64_63 q (by omega)
  have hl : 2 ^ (q % 64) < 18446744073709551616 := Nat.lt_of_lt_of_le (Nat.pow_lt_pow_right (by decide) (show q % 64 < 64 by omega)) (by decide)
  have ho := bits_or_u64_nat (m p (q / 64)) (2 ^ (q % 64)) (h.lt _ _) hl
  have hs := put_pow q
  have i1 : 0 ≤ (q : Int) / 64 ∧ (q : Int) / 64 < 4 := by omega
  have i2 : ((q : Int) / 64).toNat = q / 64 := by omega
  have hx' : w.drew.cell? ⟨b, p * 4 + q / 64, none⟩ = some (.int .u64 (m p (q / 64) : Nat)) := hx
  have hf' : w.drew.frozen? ⟨b, p * 4 + q / 64, none⟩ = false := hf
  go_enter Tryd.func55, Tryd.ntmps55
  go_region_law (fail)
  go_end0
  have ho' : bits BinOp.or IntKind.u64 (m p (q / 64) : Int) (2 ^ (q % 64)) = ((m p (q / 64) ||| 2 ^ (q % 64) : Nat) : Int) := by rw [← ho]; simp
  rw [ho']
  have hR := h.set hp (show q / 64 < 4 by omega) (x := m p (q / 64) ||| 2 ^ (q % 64)) (Nat.or_lt_two_pow (n := 64) (by have := h.lt p (q / 64); omega) (by omega))
  have hR2 : RelM (w.setCell ⟨b, p * 4 + q / 64, none⟩ (.int .u64 (m p (q / 64) ||| 2 ^ (q % 64) : Nat))).drew b n (rowM m p (putR (m p) q)) := by
    refine (hR.keep (w' := (w.setCell ⟨b, p * 4 + q / 64, none⟩ (.int .u64 (m p (q / 64) ||| 2 ^ (q % 64) : Nat))).drew) rfl).congr fun p' i' => ?_
    unfold setM rowM putR
    by_cases h1 : p' = p
    · subst h1
      by_cases h2 : i' = q / 64
      · subst h2; simp
      · simp [h2]
    · simp [h1]
  exact ⟨rfl, hR2, (chg_set w b _ _).drew⟩

set_option maxHeartbeats 1000000 in
set_option maxRecDepth 100000 in
theorem rowHas_any (b n p q : Nat) (m : Nat → Nat → Nat) (w : World) (h : RelM w b n m) (hp : p < n) (hq : q < 256) :
    Calls Tryd.prog 21 #[.pointer (some ⟨b, p * 4, none⟩), .int .i64 (q : Nat)] w fun e w' => e = .returned (.bool (hasB (m p) q)) ∧ w' = w := by
  have hx := h.cell hp (show q / 64 < 4 by omega)
  have ha := and_i64_63 q (by omega)
  have hv := v_cbit (C := m p) (fun i => h.lt p i) q
  have hw := cbitN_one (m p) q
  go_enter Tryd.func21, Tryd.ntmps21
  go_wp2
  go_ret
  exact ⟨rfl, rfl⟩

end Go.Proofs.YtdjddmkmcdfmiaaDoor

/- A relation's row joined with another one's, and all rows: contracts.
   Conditions: the two relations lie apart. -/
namespace Go.Proofs.YtdjddmkmcdfmiaaDoor
open Go.RowKit Go.Shelf

/-- The first words of a row are joined with another row's. -/
def orR (m : Nat → Nat → Nat) (p : Nat) (C : Nat → Nat) (i p' i' : Nat) : Nat := if p' = p ∧ i' < i then m p' i' ||| C i' else m p' i'
theorem orR_step (m : Nat → Nat → Nat) (p : Nat) (C : Nat → Nat) (i p' i' : Nat) : setM (orR m p C i) p i (m p i ||| C i) p' i' = orR m p C (i + 1) p' i' := by
  unfold setM orR
  by_cases h1 : p' = p
  · subst h1
    by_cases h2 : i' = i
    · subst h2; simp
    · have : (i' < i + 1) ↔ (i' < i) := by omega
      simp [h2, this]
  · simp [h1]
theorem or_lt {a b : Nat} (ha : a < 18446744073709551616) (hb : b < 18446744073709551616) : a ||| b < 18446744073709551616 := Nat.or_lt_two_pow (n := 64) ha hb
set_option maxHeartbeats 2000000 in
set_option maxRecDepth 100000 in
theorem rowAdd_any (b n p c n' q : Nat) (m k : Nat → Nat → Nat) (w : World) (h : RelM w b n m) (hk : RelM w c n' k) (hp : p < n) (hq : q < n') (hbc : b ≠ c) :
    Calls Tryd.prog 58 #[.pointer (some ⟨b, p * 4, none⟩), .pointer (some ⟨c, q * 4, none⟩)] w fun e w' => e = .returned (.tuple #[]) ∧ RelM w' b n (orR m p (k q) 4) ∧ Chg (fun k => k = b) w w' := by
  have H0 := Lib.hid (And.intro h hk)
  go_enter Tryd.func58, Tryd.ntmps58
  go_upto_region 1 with fail
  go_loopw [7] (fun v wr => ∃ i : Nat, v = .int .i64 i ∧ i ≤ 4 ∧ RelM wr b n (orR m p (k q) i) ∧ Chg (fun k => k = b) w wr) (fun v _ => match v with | .int _ i => 4 - i.toNat | _ => 0)
  case atStart => exact ⟨0, rfl, by omega, (H0.out.1).congr fun p' i' => by unfold orR; simp, Chg.refl _ _⟩
  case round =>
    obtain ⟨i, rfl, hi, hR, hc⟩ := hrel
    have HI := Lib.hid (And.intro hR hc)
    by_cases h4 : i < 4
    · have g1 : (i : Int) < 4 := by omega
      have i1 : 0 ≤ (i : Int) ∧ (i : Int) < 4 := by omega
      have hkw : RelM wr c n' k := H0.out.2.keep (hc.block c H0.out.2.size (fun e => hbc e.symm))
      have x1 := hR.cell hp h4
      have x2 := hkw.cell hq h4
      have f1 := hR.fz (p * 4 + i)
      have e0 : orR m p (k q) i p i = m p i := by unfold orR; rw [if_neg (by omega)]
      rw [e0] at x1
      have ho := bits_or_u64_nat (m p i) (k q i) (H0.out.1.lt _ _) (H0.out.2.lt _ _)
      have HO := Lib.hid ho
      clear hR hc hkw e0
      go_wp2_with fail
      go_region_law (fail)
      go_wp2_with fail
      go_region_law (fail)
      go_wp2_with fail
      go_roundw
      case rel =>
        refine ⟨i + 1, by simp, by omega, ?_, (HI.out.2.trans (chg_set wr b _ _) fun _ _ e => e).drew.drew⟩
        exact ((HI.out.1.set hp h4 (or_lt (H0.out.1.lt p i) (H0.out.2.lt q i))).keep (w' := (wr.setCell ⟨b, p * 4 + i, none⟩ (.int .u64 (m p i ||| k q i : Nat))).drew.drew) rfl).congr fun p' i' => by
          rw [← orR_step]
      case measure =>
        show 4 - ((i : Int) + 1).toNat < 4 - ((i : Int)).toNat
        omega
    · have : i = 4 := by omega
      subst this
      go_wp2_with fail
      go_end0
      exact ⟨rfl, HI.out.1, HI.out.2⟩

theorem info_row : (Tryd.prog.info? 56).map (fun i => (i.zero, i.size, i.bytes)) = some (some (.agg #[.int .u64 0, .int .u64 0, .int .u64 0, .int .u64 0]), 4, 32) := by kernel_rfl
theorem run_makeM (n : Nat) (hn : n ≤ 1000000) (W : World) : (Instr.makeSlice 53 (.int .i64 (n : Int)) (.int .i64 (n : Int))).run Tryd.prog W = .ok (.slice (some ⟨W.heap.size, 0, none⟩) n n) (W.alloc (.cells (madeCells #[.int .u64 0, .int .u64 0, .int .u64 0, .int .u64 0] (n * 4)) 56)) := by
  obtain ⟨i, hi, hzz⟩ := Option.map_eq_some_iff.1 info_row
  simp only [Prod.mk.injEq] at hzz
  obtain ⟨hz, hs, hb⟩ := hzz
  have := run_make (P := Tryd.prog) W 53 56 i _ Tryd.underlying53 hi hz .i64 .i64 n n (by omega) (by omega) (by rw [hb]; omega) (by omega)
  rw [hs, show (Value.agg #[.int .u64 0, .int .u64 0, .int .u64 0, .int .u64 0]).cells = #[.int .u64 0, .int .u64 0, .int .u64 0, .int .u64 0] by simp [Value.cells]] at this
  simpa using this
theorem zero_row (n : Nat) (W : World) : RelM (W.alloc (.cells (madeCells #[.int .u64 0, .int .u64 0, .int .u64 0, .int .u64 0] (n * 4)) 56)) W.heap.size n (fun _ _ => 0) := by
  refine ⟨⟨_, heap_alloc_new W _, by rw [size_madeCells]; omega, fun p hp i hi => ?_⟩, fun _ _ => by decide⟩
  unfold madeCells
  rw [Array.getElem?_map, Array.getElem?_range, if_pos (by omega)]
  have : i = 0 ∨ i = 1 ∨ i = 2 ∨ i = 3 := by omega
  rcases this with rfl | rfl | rfl | rfl <;> simp [Nat.add_mod]
theorem put_lt (p i : Nat) : putR zeros p i < 18446744073709551616 := by
  unfold putR zeros
  split
  · rw [Nat.zero_or]; exact pow_lt64 p
  · decide
/-- The first rows hold each its own place. -/
def stR (i p' : Nat) : Nat → Nat := if p' < i then putR zeros p' else zeros
set_option maxHeartbeats 2000000 in
set_option maxRecDepth 100000 in
theorem staying_any (n : Nat) (w : World) (hn : n ≤ 256) :
    Calls Tryd.prog 47 #[.int .i64 (n : Nat)] w fun e w' => e = .returned (.slice (some ⟨w.heap.size, 0, none⟩) n n) ∧ RelM w' w.heap.size n (fun p => putR zeros p) ∧ Below w.heap.size w w' := by
  have hmk := run_makeM n (by omega)
  go_enter Tryd.func47, Tryd.ntmps47
  have h0 := zero_row n w
  have hb0 : Below w.heap.size w (w.alloc (.cells (madeCells #[.int .u64 0, .int .u64 0, .int .u64 0, .int .u64 0] (n * 4)) 56)) := (Below.refl _ _).alloc (Nat.le_refl _) _
  go_wp2_with fail
  generalize w.alloc (.cells (madeCells #[.int .u64 0, .int .u64 0, .int .u64 0, .int .u64 0] (n * 4)) 56) = w1 at *
  obtain ⟨b, hbb⟩ : ∃ b, b = w.heap.size := ⟨_, rfl⟩
  rw [← hbb] at h0
  simp only [← hbb]
  have HB := Lib.hid (And.intro h0 (And.intro hb0 (And.intro hn hbb)))
  clear h0 hb0 hbb hmk
  go_loopw [9] (fun v wr => ∃ i : Nat, v = .int .i64 i ∧ i ≤ n ∧ RelM wr b n (fun p => stR i p) ∧ Chg (fun k => k = b) w1 wr) (fun v _ => match v with | .int _ i => n - i.toNat | _ => 0)
  case atStart => exact ⟨0, rfl, by omega, HB.out.1.congr fun p i => by unfold stR zeros; simp, Chg.refl _ _⟩
  case round =>
    obtain ⟨i, rfl, hi, hR, hc⟩ := hrel
    have HI := Lib.hid (And.intro hR hc)
    clear hR hc
    by_cases h4 : i < n
    · have g1 : (i : Int) < n := by omega
      have i1 : 0 ≤ (i : Int) ∧ (i : Int) < n := by omega
      have i2 : ((i : Int)).toNat = i := by omega
      go_wp2_with fail
      go_at_call 55
      refine (rowPut_any b n i i _ wr HI.out.1 h4 (by have := HB.out.2.2.1; omega)).mono ?_
      rintro e w2 ⟨rfl, hR2, hc2⟩
      have H2 := Lib.hid (And.intro hR2 hc2)
      clear hR2 hc2
      go_wp2_with fail
      go_roundw
      case rel =>
        refine ⟨i + 1, by simp, by omega, H2.out.1.congr fun p' i' => ?_, HI.out.2.trans H2.out.2 fun _ _ e => e⟩
        unfold rowM stR
        by_cases h1 : p' = i
        · subst h1; simp
        · have : (p' < i + 1) ↔ (p' < i) := by omega
          simp [h1, this]
      case measure =>
        show n - ((i : Int) + 1).toNat < n - ((i : Int)).toNat
        omega
    · have g1 : ¬ (i : Int) < n := by omega
      have HE := Lib.hid (show i = n by omega)
      go_wp2_with fail
      go_ret
      obtain ⟨a1, a2, a3, a4⟩ := HB.out
      have hin := HE.out
      subst hin
      refine ⟨by rw [a4]; rfl, ?_, ?_⟩
      · rw [← a4]
        refine HI.out.1.on (fun p hp i' _ => by unfold stR; rw [if_pos hp]) fun p i' => put_lt p i'
      · exact a2.trans (HI.out.2.below (by have := a2.size; omega) fun k _ e => by omega)

theorem cells4' {w : World} {b : Nat} {a0 a1 a2 a3 : Value} {e : TypeId} (h : w.heap[b]? = some (.cells #[a0, a1, a2, a3] e (0, 0))) : w.cell? ⟨b, 0, none⟩ = some a0 ∧ w.cell? ⟨b, 1, none⟩ = some a1 ∧ w.cell? ⟨b, 2, none⟩ = some a2 ∧ w.cell? ⟨b, 3, none⟩ = some a3 :=
  ⟨((row_cells h).1 0).trans rfl, ((row_cells h).1 1).trans rfl, ((row_cells h).1 2).trans rfl, ((row_cells h).1 3).trans rfl⟩
/-- A word in memory. -/
structure WrdM (w : World) (g o : Nat) (l : List Nat) : Prop where
  cell : ∀ i b, l[i]? = some b → w.cell? ⟨g, o + i, none⟩ = some (.int .u8 (b : Nat))
  lt : ∀ b ∈ l, b < 256
  blk : l ≠ [] → g < w.heap.size
theorem WrdM.keep {w w' : World} {g o : Nat} {l : List Nat} (h : WrdM w g o l) (hw : g < w.heap.size → w'.heap[g]? = w.heap[g]?) (hs : w.heap.size ≤ w'.heap.size) : WrdM w' g o l := by
  refine ⟨fun i b hb => ?_, h.lt, fun hn => by have := h.blk hn; omega⟩
  have : l ≠ [] := by rintro rfl; simp at hb
  rw [← h.cell i b hb]
  exact World.cell?_of_block (w := w) (hw (h.blk this))
/-- The first rows hold each the place behind its own, if the byte there is one of the set's. -/
def tpR (C : Nat → Nat) (l : List Nat) (i p' : Nat) : Nat → Nat := if p' < i ∧ (∃ b, l[p']? = some b ∧ hasB C b = true) then putR zeros (p' + 1) else zeros
set_option maxHeartbeats 2000000 in
set_option maxRecDepth 100000 in
theorem stepping_any (C : Nat → Nat) (g o cap : Nat) (l : List Nat) (A : Option Addr) (w : World) (hC : Cl C) (hw : WrdM w g o l) (hl : l.length ≤ 250) (hA : l ≠ [] → A = some ⟨g, o, none⟩) :
    Calls Tryd.prog 48 #[.agg #[.int .u64 (C 0 : Nat), .int .u64 (C 1 : Nat), .int .u64 (C 2 : Nat), .int .u64 (C 3 : Nat)], .slice A l.length cap] w fun e w' => ∃ b, e = .returned (.slice (some ⟨b, 0, none⟩) (l.length + 1) (l.length + 1)) ∧ RelM w' b (l.length + 1) (fun p => tpR C l l.length p) ∧ Below w.heap.size w w' ∧ w.heap.size ≤ b := by
  have hmk := run_makeM (l.length + 1) (by omega)
  obtain ⟨n, hn⟩ : ∃ n, n = l.length := ⟨_, rfl⟩
  rw [← hn] at hmk hl ⊢
  have HW := Lib.hid (And.intro hw (And.intro hA hn))
  clear hw hA hn
  have e1 : ((n + 1 : Nat) : Int) = (n : Int) + 1 := by omega
  rw [e1] at hmk
  clear e1
  have hw1 : IntKind.i64.wrap ((n : Int) + 1) = (n : Int) + 1 := by rw [IntKind.wrap_i64]; omega
  go_enter Tryd.func48, Tryd.ntmps48
  go_wp2_with fail
  have h0 := zero_row (n + 1) (w.alloc (.cells #[.int .u64 (C 0 : Nat), .int .u64 (C 1 : Nat), .int .u64 (C 2 : Nat), .int .u64 (C 3 : Nat)] 24))
  rw [World.size_alloc] at h0
  have hb0 : Below w.heap.size w ((w.alloc (.cells #[.int .u64 (C 0 : Nat), .int .u64 (C 1 : Nat), .int .u64 (C 2 : Nat), .int .u64 (C 3 : Nat)] 24)).alloc (.cells (madeCells #[.int .u64 0, .int .u64 0, .int .u64 0, .int .u64 0] ((n + 1) * 4)) 56)) := ((Below.refl _ _).alloc (Nat.le_refl _) _).alloc (by simp) _
  have hx0 : ((w.alloc (.cells #[.int .u64 (C 0 : Nat), .int .u64 (C 1 : Nat), .int .u64 (C 2 : Nat), .int .u64 (C 3 : Nat)] 24)).alloc (.cells (madeCells #[.int .u64 0, .int .u64 0, .int .u64 0, .int .u64 0] ((n + 1) * 4)) 56)).heap[w.heap.size]? = some (.cells #[.int .u64 (C 0 : Nat), .int .u64 (C 1 : Nat), .int .u64 (C 2 : Nat), .int .u64 (C 3 : Nat)] 24 (0, 0)) := (Below.heap_alloc _ _ _ (by simp)).trans (heap_alloc_new w _)
  generalize (w.alloc (.cells #[.int .u64 (C 0 : Nat), .int .u64 (C 1 : Nat), .int .u64 (C 2 : Nat), .int .u64 (C 3 : Nat)] 24)).alloc (.cells (madeCells #[.int .u64 0, .int .u64 0, .int .u64 0, .int .u64 0] ((n + 1) * 4)) 56) = w1 at *
  have HB := Lib.hid (And.intro h0 (And.intro hb0 (And.intro hx0 (And.intro hl hC))))
  have HN := Lib.hid hw1
  clear h0 hb0 hx0 hmk hC hw1
  go_loopw [14] (fun v wr => ∃ i : Nat, v = .int .i64 i ∧ i ≤ n ∧ RelM wr (w.heap.size + 1) (n + 1) (fun p => tpR C l i p) ∧ Chg (fun k => k = w.heap.size + 1) w1 wr) (fun v _ => match v with | .int _ i => n - i.toNat | _ => 0)
  case atStart => exact ⟨0, rfl, by omega, HB.out.1.congr fun p i => by unfold tpR zeros; simp, Chg.refl _ _⟩
  case round =>
    obtain ⟨i, rfl, hi, hR, hc⟩ := hrel
    have HI := Lib.hid (And.intro hR hc)
    have hxw : wr.heap[w.heap.size]? = some (.cells #[.int .u64 (C 0 : Nat), .int .u64 (C 1 : Nat), .int .u64 (C 2 : Nat), .int .u64 (C 3 : Nat)] 24 (0, 0)) := (hc.block _ (Array.getElem?_eq_some_iff.1 HB.out.2.2.1).1 (by omega)).trans HB.out.2.2.1
    clear hR hc
    by_cases h4 : i < n
    · have hli : i < l.length := by have := HW.out.2.2; omega
      have hne : l ≠ [] := by rintro rfl; simp at hli
      have hA := HW.out.2.1 hne
      subst hA
      obtain ⟨b, hb⟩ : ∃ b, l[i]? = some b := ⟨_, List.getElem?_eq_getElem hli⟩
      have hww : WrdM wr g o l := HW.out.1.keep (fun hg => ((HI.out.2.block g (by have := HB.out.2.1.size; omega) (by omega)).trans (HB.out.2.1.block g hg))) (Nat.le_trans HB.out.2.1.size HI.out.2.size)
      have xb := hww.cell i b hb
      have hb256 := hww.lt b (List.mem_of_getElem? hb)
      obtain ⟨y0, y1, y2, y3⟩ := cells4' hxw
      have g1 : (i : Int) < n := by omega
      have i1 : 0 ≤ (i : Int) ∧ (i : Int) < n := by omega
      have i2 : ((i : Int)).toNat = i := by omega
      have HBB := Lib.hid (And.intro hb hb256)
      clear hww hxw hli hne hb hb256
      go_wp2_with fail
      go_at_call 56
      refine (chas_any C b wr HB.out.2.2.2.2 HBB.out.2).mono ?_
      rintro e w2 ⟨rfl, hb2⟩
      have hR2 : RelM w2 (w.heap.size + 1) (n + 1) (fun p => tpR C l i p) := HI.out.1.keep (hb2.block _ HI.out.1.size)
      have H2 := Lib.hid (And.intro hb2 hR2)
      clear hb2 hR2
      cases hh : hasB C b with
      | false =>
        have HH := Lib.hid hh
        clear hh
        go_wp2_with fail
        go_roundw
        case rel =>
          refine ⟨i + 1, by simp, by omega, H2.out.2.congr fun p' i' => ?_, HI.out.2.trans (Chg.of_below H2.out.1) fun _ _ e => e⟩
          have : (p' < i + 1 ∧ (∃ b, l[p']? = some b ∧ hasB C b = true)) ↔ (p' < i ∧ (∃ b, l[p']? = some b ∧ hasB C b = true)) := by
            constructor
            · rintro ⟨h1, b', h2, h3⟩
              refine ⟨?_, b', h2, h3⟩
              by_cases e : p' = i
              · subst e
                rw [HBB.out.1] at h2
                rw [← Option.some.inj h2, HH.out] at h3
                cases h3
              · omega
            · rintro ⟨h1, h2⟩; exact ⟨by omega, h2⟩
          unfold tpR
          simp only [this]
        case measure =>
          show n - ((i : Int) + 1).toNat < n - ((i : Int)).toNat
          omega
      | true =>
        have HH := Lib.hid hh
        clear hh
        have hw2 : IntKind.i64.wrap ((i : Int) + 1) = ((i + 1 : Nat) : Int) := by rw [IntKind.wrap_i64]; omega
        go_wp2_with fail
        go_at_call 55
        refine (rowPut_any (w.heap.size + 1) (n + 1) i (i + 1) _ w2 H2.out.2 (by omega) (by have := HB.out.2.2.2.1; omega)).mono ?_
        rintro e w3 ⟨rfl, hR3, hc3⟩
        have H3 := Lib.hid (And.intro hR3 hc3)
        clear hR3 hc3
        go_wp2_with fail
        go_roundw
        case rel =>
          refine ⟨i + 1, by simp, by omega, H3.out.1.congr fun p' i' => ?_, (HI.out.2.trans (Chg.of_below (R := fun k => k = w.heap.size + 1) H2.out.1) fun _ _ e => e).trans H3.out.2 fun _ _ e => e⟩
          unfold rowM tpR
          by_cases h1 : p' = i
          · subst h1
            rw [if_pos rfl, if_neg (by omega), if_pos ⟨by omega, b, HBB.out.1, HH.out⟩]
          · have : (p' < i + 1) ↔ (p' < i) := by omega
            simp only [h1, this, if_false]
        case measure =>
          show n - ((i : Int) + 1).toNat < n - ((i : Int)).toNat
          omega
    · have g1 : ¬ (i : Int) < n := by omega
      have HE := Lib.hid (show i = n by omega)
      clear hxw
      go_wp2_with fail
      go_ret
      obtain ⟨a1, a2, _⟩ := HB.out
      have hin := HE.out
      subst hin
      exact ⟨_, rfl, HI.out.1, a2.trans (HI.out.2.below (by have := a2.size; omega) fun k _ e => by omega), by omega⟩

end Go.Proofs.YtdjddmkmcdfmiaaDoor

/- A relation joined with another one; a row's places, one after another: contracts.
   Conditions: the two relations lie apart; the library's table lies in memory. -/
namespace Go.Proofs.YtdjddmkmcdfmiaaDoor
open Go.RowKit Go.Shelf
attribute [local go_sem] Oper.semAt_some

/-- The first rows are joined with another relation's. -/
def orM (m k : Nat → Nat → Nat) (i p' i' : Nat) : Nat := if p' < i ∧ i' < 4 then m p' i' ||| k p' i' else m p' i'
set_option maxHeartbeats 2000000 in
set_option maxRecDepth 100000 in
theorem relAdd_any (b c n cb cc : Nat) (m k : Nat → Nat → Nat) (w : World) (h : RelM w b n m) (hk : RelM w c n k) (hn : n ≤ 256) (hbc : b ≠ c) :
    Calls Tryd.prog 50 #[.slice (some ⟨b, 0, none⟩) n cb, .slice (some ⟨c, 0, none⟩) n cc] w fun e w' => e = .returned (.tuple #[]) ∧ RelM w' b n (orM m k n) ∧ Chg (fun k => k = b) w w' := by
  have H0 := Lib.hid (And.intro h (And.intro hk hbc))
  clear h hk
  go_enter Tryd.func50, Tryd.ntmps50
  go_upto_region 1 with fail
  go_loopw [7] (fun v wr => ∃ i : Nat, v = .int .i64 i ∧ i ≤ n ∧ RelM wr b n (orM m k i) ∧ Chg (fun k => k = b) w wr) (fun v _ => match v with | .int _ i => n - i.toNat | _ => 0)
  case atStart => exact ⟨0, rfl, by omega, (H0.out.1).congr fun p' i' => by unfold orM; simp, Chg.refl _ _⟩
  case round =>
    obtain ⟨i, rfl, hi, hR, hc⟩ := hrel
    have HI := Lib.hid (And.intro hR hc)
    clear hR hc
    by_cases h4 : i < n
    · have g1 : (i : Int) < n := by omega
      have i1 : 0 ≤ (i : Int) ∧ (i : Int) < n := by omega
      have i2 : ((i : Int)).toNat = i := by omega
      go_wp2_with fail
      have q1 : RelM wr.drew b n (orM m k i) := HI.out.1.keep rfl
      have q2 : RelM wr.drew c n k := (H0.out.2.1.keep (HI.out.2.block c H0.out.2.1.size (fun e => H0.out.2.2 e.symm)) : RelM wr c n k).keep rfl
      have HC := Lib.hid (rowAdd_any b n i c n i _ k wr.drew q1 q2 h4 h4 H0.out.2.2)
      clear q1 q2
      go_region_with (go_at_call 58; refine HC.out.mono ?_; rintro e w2 ⟨rfl, hR2, hc2⟩)
      have H2 := Lib.hid (And.intro hR2 hc2)
      clear hR2 hc2
      go_wp2_with fail
      go_roundw
      case rel =>
        refine ⟨i + 1, by simp, by omega, H2.out.1.congr fun p' i' => ?_, ((HI.out.2.drew).trans H2.out.2 fun _ _ e => e)⟩
        unfold orR orM
        by_cases h1 : p' = i
        · subst h1
          simp
        · have : (p' < i + 1) ↔ (p' < i) := by omega
          simp [h1, this]
      case measure =>
        show n - ((i : Int) + 1).toNat < n - ((i : Int)).toNat
        omega
    · have g1 : ¬ (i : Int) < n := by omega
      have HE := Lib.hid (show i = n by omega)
      go_wp2_with fail
      go_end0
      have hin := HE.out
      subst hin
      exact ⟨rfl, HI.out.1, HI.out.2⟩

def tabN : Nat := 0
abbrev TabN (w : World) : Prop := TabAt 0 Lib.deBruijn64tab w
def encN (i : Nat) : Array Value := #[.int .i64 i]
/-- The row's block, the one of its pointer, and the table lie as they lay. -/
def KpS (bx b : Nat) (W W' : World) : Prop := W'.heap[bx]? = W.heap[bx]? ∧ W'.heap[b]? = W.heap[b]? ∧ W'.heap[tabN]? = W.heap[tabN]?
theorem kpS_t {bx b : Nat} {A B C : World} (h : KpS bx b A B) (k : KpS bx b B C) : KpS bx b A C := ⟨k.1.trans h.1, k.2.1.trans h.2.1, k.2.2.trans h.2.2⟩
theorem kpS_tab {bx b : Nat} {W W' : World} (h : KpS bx b W W') (ht : TabN W) : TabN W' := fun j hj => (World.cell?_of_block (w := W) h.2.2).trans (ht j hj)

set_option maxHeartbeats 2000000 in
theorem places_any (b o : Nat) (w : World) : Calls Tryd.prog 59 #[.pointer (some ⟨b, o, none⟩)] w fun e w' => e = .returned (.func (.func 62) #[] #[.pointer (some ⟨w.heap.size, 0, none⟩)]) ∧ w' = w.alloc (.cells #[.pointer (some ⟨b, o, none⟩)] 75) := by
  go_enter Tryd.func59, Tryd.ntmps59
  go_wp2_with fail
  go_ret
  exact ⟨rfl, rfl⟩
theorem wrap_shl6 (i k : Nat) (hi : i < 4) (hk : k < 64) : IntKind.i64.wrap (IntKind.i64.wrap ((i : Int) * 64) + (k : Int)) = ((64 * i + k : Nat) : Int) := by
  rw [IntKind.wrap_i64, IntKind.wrap_i64]
  omega

theorem bits4_cut {C : Nat → Nat} {i : Nat} (h : i < 4) : bits4 C 4 = bits4 C i ++ ((bitsL (C i)).map fun k => 64 * i + k) ++ (((List.range (3 - i)).map fun d => i + 1 + d).flatMap fun j => (bitsL (C j)).map fun k => 64 * j + k) := by
  unfold bits4
  rw [show (4 : Nat) = i + 1 + (3 - i) by omega, List.range_add, List.flatMap_append, List.range_succ, List.flatMap_append]
  simp
set_option maxRecDepth 100000 in
set_option maxHeartbeats 4000000 in
theorem places_iter (n bx b p k : Nat) (m : Nat → Nat → Nat) (w : World) (hlt : bx < w.heap.size) (hbx : w.cell? ⟨bx, 0, none⟩ = some (.pointer (some ⟨b, p * 4, none⟩))) (hm : RelM w b k m) (hp : p < k) (hT : TabN w) (hTl : tabN < w.heap.size) :
    IterD n 62 #[.pointer (some ⟨bx, 0, none⟩)] encN (KpS bx b) (bits4 (m p) 4) w := by
  intro l J Jx W hb hJd hY h0
  have hk0 : KpS bx b w W := ⟨hb.block _ hlt, hb.block _ hm.size, hb.block _ hTl⟩
  have HY := Lib.hid hY
  have HD := Lib.hid hJd
  clear hJd
  have HT := Lib.hid (And.intro hT hm)
  clear hY hb hT hm
  refine callsIn_of_wp Tryd.func62 rfl trivial ?_ rfl
  simp only [Tryd.ntmps62, List.size_toArray, List.length_cons, List.length_nil, Nat.reduceAdd, Nat.reduceSub, Array.replicate_succ, Array.replicate_zero, List.push_toArray, List.append_toArray, List.nil_append, List.cons_append]
  have hb0 : W.cell? ⟨bx, 0, none⟩ = some (.pointer (some ⟨b, p * 4, none⟩)) := (World.cell?_of_block (w := w) hk0.1).trans hbx
  clear hbx
  gi_wp2
  gi_loopw [6] (fun v wr => ∃ i : Nat, v = .int .i64 i ∧ i ≤ 4 ∧ J (bits4 (m p) i) wr ∧ KpS bx b w wr) (fun v _ => match v with | .int _ m => 4 - m.toNat | _ => 0)
  case atStart => exact ⟨0, rfl, by omega, h0, hk0⟩
  case round =>
    clear hb0 h0 hk0
    obtain ⟨i, rfl, hi, hJ, hkp⟩ := hrel
    have HJ := Lib.hid (And.intro hJ hkp)
    clear hJ hkp
    by_cases h4 : i < 4
    · have g1 : (i : Int) < 4 := by omega
      have i1 : 0 ≤ (i : Int) ∧ (i : Int) < 4 := by omega
      have i2 : ((i : Int)).toNat = i := by omega
      have x1 := (HT.out.2.keep HJ.out.2.2.1).cell hp h4
      gi_wp2
      refine wpIn_wide.2 ?_
      go_region_law (fail)
      go_simp
      have x0 : ((m p i : Nat) : Int).toNat = m p i := rfl
      gi_wp2
      gi_loopw [4] (fun v wq => ∃ (r : Nat) (pre : List Nat), v = .int .u64 r ∧ r < 18446744073709551616 ∧ bitsL (m p i) = pre ++ bitsL r ∧ J (bits4 (m p) i ++ pre.map fun k => 64 * i + k) wq ∧ KpS bx b w wq) (fun v _ => match v with | .int _ m => m.toNat | _ => 0)
      case atStart => exact ⟨m p i, [], rfl, HT.out.2.lt p i, rfl, by rw [List.map_nil, List.append_nil]; exact HD.out _ _ HJ.out.1, HJ.out.2⟩
      case round =>
        clear x1 x0
        obtain ⟨r, pre, rfl, hr, hxs, hJs, hkp⟩ := hrel
        by_cases hr0 : r = 0
        · subst hr0
          have HX := Lib.hid (And.intro hxs (And.intro hJs hkp))
          clear hxs hJs hkp
          have hw1 : IntKind.i64.wrap ((i : Int) + 1) = ((i + 1 : Nat) : Int) := by rw [IntKind.wrap_i64]; omega
          gi_wp2
          go_roundw
          case rel =>
            refine ⟨i + 1, by simp, by omega, ?_, HX.out.2.2⟩
            rw [bits4_succ, HX.out.1, bitsL_zero, List.append_nil]
            exact HX.out.2.1
          case measure =>
            show 4 - ((i : Int) + 1).toNat < 4 - ((i : Int)).toNat
            omega
        · have g1 : ((r : Int) != 0) = true := by simp; omega
          have hst := bits_step hr0 hr
          have hz := Tryd.bits_TrailingZeros64 r hr wr (fun _ => kpS_tab hkp HT.out.1)
          obtain ⟨k', hk⟩ : ∃ k, k = Lib.ctz 64 r := ⟨_, rfl⟩
          have hk64 : k' < 64 := by
            have := (mem_bits (x := r) (i := k')).1 (by rw [hst, hk]; exact List.mem_cons_self ..)
            exact this.1
          rw [← hk] at hst hz
          obtain ⟨fn, tmps, assign, body, hy, hRn⟩ := HY.out _ (64 * i + k') wr hJs ⟨(bitsL (r &&& (r - 1))).map (fun k => 64 * i + k) ++ (((List.range (3 - i)).map fun d => i + 1 + d).flatMap fun j => (bitsL (m p j)).map fun k => 64 * j + k), by
            rw [bits4_cut h4, hxs, hst]; simp⟩
          unfold encN at hy
          rw [show ((64 * i + k' : Nat) : Int) = (i : Int) * 64 + (k' : Int) by omega] at hy
          have HZ := Lib.hid hz
          have HX := Lib.hid (And.intro hxs (And.intro hst (And.intro hkp hr)))
          have HLT := Lib.hid (show (r &&& (r - 1)) < r from Nat.lt_of_le_of_lt Nat.and_le_right (by omega))
          have hw1 : IntKind.u64.wrap ((r : Int) - 1) = ((r - 1 : Nat) : Int) := by rw [IntKind.wrap_u64]; omega
          have hw2 : bits BinOp.and IntKind.u64 (r : Int) ((r - 1 : Nat) : Int) = ((r &&& (r - 1) : Nat) : Int) := bits_and_u64_nat r (r - 1) hr (by omega)
          clear hxs hst hkp hz hk hJs hr hr0
          gi_wp2
          refine ⟨trivial, (fun h => by cases h), (callsIn_wide.2 HZ.out).mono ?_⟩
          rintro e w2 ⟨rfl, rfl⟩
          gi_wp2
          refine ⟨(fun h => by cases h), hRn.mono ?_⟩
          rintro e W3 (⟨rfl, hJ3, hk3⟩ | ⟨rfl, hJx3⟩)
          · gi_wp2
            go_roundw
            case rel =>
              obtain ⟨h1, h2, h3, h4⟩ := HX.out
              refine ⟨r &&& (r - 1), pre ++ [k'], rfl, and_pred_lt h4, by rw [h1, h2, List.append_assoc]; rfl, ?_, kpS_t h3 hk3⟩
              rw [List.map_append, ← List.append_assoc]
              exact hJ3
            case measure =>
              have := HLT.out
              simpa using this
          · gi_wp2
            refine bodyPost_ret (results_none rfl _ _ _) rfl ?_
            exact ⟨⟨_, rfl⟩, .inr ⟨_, _, (bitsL (r &&& (r - 1))).map (fun k => 64 * i + k) ++ (((List.range (3 - i)).map fun d => i + 1 + d).flatMap fun j => (bitsL (m p j)).map fun k => 64 * j + k), by rw [bits4_cut h4, HX.out.1, HX.out.2.1]; simp, hJx3⟩⟩
    · have g1 : ¬ (i : Int) < 4 := by omega
      have HE := Lib.hid (show i = 4 by omega)
      gi_wp2
      go_end0
      have hin := HE.out
      subst hin
      exact ⟨⟨_, rfl⟩, .inl HJ.out.1⟩

end Go.Proofs.YtdjddmkmcdfmiaaDoor
