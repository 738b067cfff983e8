/- What the calls that find the greatest number and that gather the numbered bytes into classes come to: contracts for the proofs of the statements.
   Conditions: the numbers are those of a numbering by first occurrence, as the theorems state. -/
import Derived.Test.YtbppofhjlgfbiaaSplit
import Derived.RegionTactic
import Derived.BigRegion
namespace Go.Proofs.Ytbppofhjlgfbiaa
open Go.RowKit

def mxf (f : Nat → Nat) : Nat → Nat
  | 0 => f 0
  | k + 1 => max (mxf f k) (f (k + 1))
theorem mxf_le {f : Nat → Nat} {m : Nat} (h : ∀ i, i < 256 → f i ≤ m) : ∀ k, k < 256 → mxf f k ≤ m
  | 0, _ => h 0 (by decide)
  | k + 1, hk => by unfold mxf; have := mxf_le h k (by omega); have := h (k + 1) hk; omega
theorem le_mxf {f : Nat → Nat} {i : Nat} : ∀ k, i ≤ k → f i ≤ mxf f k
  | 0, h => by have : i = 0 := by omega
               subst this; exact Nat.le_refl _
  | k + 1, h => by
    unfold mxf
    by_cases e : i = k + 1
    · subst e; omega
    · have := le_mxf (f := f) (i := i) k (by omega); omega
theorem mxf_hit {f : Nat → Nat} : ∀ k, ∃ i, i ≤ k ∧ mxf f k = f i
  | 0 => ⟨0, Nat.le_refl _, rfl⟩
  | k + 1 => by
    obtain ⟨i, hi, e⟩ := mxf_hit (f := f) k
    unfold mxf
    by_cases h : mxf f k ≤ f (k + 1)
    · exact ⟨k + 1, Nat.le_refl _, by omega⟩
    · exact ⟨i, by omega, by omega⟩
theorem mxf_succ (f : Nat → Nat) (k : Nat) : ((mxf f (k + 1) : Nat) : Int) = if mxf f k < f (k + 1) then (f (k + 1) : Int) else (mxf f k : Int) := by
  show ((max (mxf f k) (f (k + 1)) : Nat) : Int) = _
  split <;> omega
theorem mxf_news {r : Nat → Nat → Bool} (h : Alike r) : mxf (nm r) 255 + 1 = news r 256 := by
  obtain ⟨i, hi, e⟩ := mxf_hit (f := nm r) 255
  have h1 := nm_lt h (b := i) (n := 256) (by omega)
  have h0 := news_pos h
  obtain ⟨b, hb, hf, hn⟩ := news_hit (r := r) 256 (news r 256 - 1) (by omega)
  have h2 := le_mxf (f := nm r) (i := b) 255 (by omega)
  rw [nm_new b hf, hn] at h2
  omega

set_option maxHeartbeats 1000000 in
set_option maxRecDepth 100000 in
theorem max_any (b : Nat) (f : Nat → Nat) (w : World) (hf : IntsAt w b f) (hlt : ∀ i, i < 256 → f i < 4294967296) :
    Calls Try.prog 31 #[.slice (some ⟨b, 0, none⟩) 256 256] w fun e w' => e = .returned (.int .i64 (mxf f 255)) ∧ w = w' := by
  have h0 := hf 0 (by decide)
  go_enter Try.func31, Try.ntmps31
  go_wp2_with fail
  go_loop [3, 4] (fun m i => ∃ k : Nat, k < 256 ∧ i = .int .i64 (k + 1 : Nat) ∧ m = .int .i64 (mxf f k)) (fun _ i => 256 - (intOf i).toNat)
  case atStart => exact ⟨0, by decide, rfl, rfl⟩
  case round =>
    obtain ⟨k, hk, rfl, rfl⟩ := hrel
    have hb := mxf_le (f := f) (m := 4294967295) (fun i hi => by have := hlt i hi; omega) k hk
    by_cases hl : k < 255
    · have hc := hf (k + 1) (by omega)
      have hb2 := hlt (k + 1) (by omega)
      have h1 : ((k + 1 : Nat) : Int) < 256 := by omega
      clear hf
      go_wp2_with fail
      go_round
      case rel =>
        exact ⟨k + 1, by omega, by go_num, by rw [mxf_succ]⟩
      case measure => simp [intOf]; omega
    · have hke : k = 255 := by omega
      subst hke
      go_wp2_with fail
      go_ret
      exact ⟨rfl, rfl⟩

def PartsAt (w : World) (g M : Nat) (Cs : Nat → Nat → Nat) : Prop := ∀ q, q < M → ∀ j, j < 4 → w.cell? ⟨g, q * 4 + j, none⟩ = some (.int .u64 (Cs q j : Int))
def PFree (w : World) (g M : Nat) : Prop := ∀ q, q < M → ∀ j, j < 4 → w.frozen? ⟨g, q * 4 + j, none⟩ = false
theorem info26 : (Try.prog.info? 26).map (fun i => (i.zero, i.size, i.bytes)) = some (some (.agg #[.int .u64 0, .int .u64 0, .int .u64 0, .int .u64 0]), 4, 32) := by kernel_rfl
theorem make22 (m : Nat) (hm : m < 256) (w : World) : (Instr.makeSlice 22 (.int .i64 ((m : Int) + 1)) (.int .i64 ((m : Int) + 1))).run Try.prog w =
    .ok (.slice (some ⟨w.heap.size, 0, none⟩) (m + 1) (m + 1)) (w.alloc (.cells (madeCells #[.int .u64 0, .int .u64 0, .int .u64 0, .int .u64 0] ((m + 1) * 4)) 26)) := by
  obtain ⟨i0, hi, hz, hs, hb⟩ := info_parts info26
  have h := run_make (P := Try.prog) w 22 26 i0 _ Try.underlying22 hi hz .i64 .i64 ((m : Int) + 1) ((m : Int) + 1) (by omega) (Int.le_refl _) (by rw [hb]; omega) (by omega)
  have e : ((m : Int) + 1).toNat = m + 1 := by omega
  rw [e, hs] at h
  exact h
theorem made_zero {n j : Nat} (h : j < n) : (madeCells #[.int .u64 0, .int .u64 0, .int .u64 0, .int .u64 0] n)[j]? = some (Value.int .u64 0) := by
  unfold madeCells
  simp only [Array.getElem?_map, Array.getElem?_range, h, if_true, Option.map_some]
  have : j % 4 = 0 ∨ j % 4 = 1 ∨ j % 4 = 2 ∨ j % 4 = 3 := by omega
  rcases this with e | e | e | e <;> simp [e]
theorem parts_start (w : World) (M : Nat) : PartsAt (w.alloc (.cells (madeCells #[.int .u64 0, .int .u64 0, .int .u64 0, .int .u64 0] (M * 4)) 26)) w.heap.size M (fun _ => zeros) := by
  intro q hq j hj
  have := made_zero (n := M * 4) (j := q * 4 + j) (by omega)
  simp [this, zeros]
theorem pfree_start (w : World) (c : Array Value) (M : Nat) : PFree (w.alloc (.cells c 26)) w.heap.size M := fun q hq j hj => by simp
theorem parts_put {w : World} {g M P0 k : Nat} {Cs : Nat → Nat → Nat} {v : Int} (h : PartsAt w g M Cs) (hk : k < 256) (hv : v = (put (Cs P0) k (k / 64) : Nat)) :
    PartsAt (w.setCell ⟨g, P0 * 4 + k / 64, none⟩ (.int .u64 v)) g M (fun q => if q = P0 then put (Cs q) k else Cs q) := by
  intro q hq j hj
  by_cases e : q * 4 + j = P0 * 4 + k / 64
  · have e1 : q = P0 := by omega
    have e2 : j = k / 64 := by omega
    subst e1 e2
    rw [World.cell?_setCell_same (h := h q hq _ hj), hv]
    simp
  · rw [World.cell?_setCell_other (h := addr_ne (.inr fun h => e h.symm)), h q hq j hj]
    by_cases e1 : q = P0
    · subst e1
      have e2 : ¬ j = k / 64 := by omega
      simp [put, e2]
    · simp [e1]
theorem PFree.put {w : World} {g M o : Nat} {v : Value} (h : PFree w g M) : PFree (w.setCell ⟨g, o, none⟩ v) g M := fun q hq j hj => by simp [h q hq j hj]
theorem v_put {C : Nat → Nat} (hC : Cl C) (b : Nat) : bits .or .u64 ((C (b / 64) : Nat) : Int) (IntKind.u64.wrap (2 ^ (b % 64))) = ((Ytbppofhjlgfbiaa.put C b (b / 64) : Nat) : Int) := by
  rw [v_pow, bits_or_u64_nat _ _ (hC _) (pow_lt b)]
  unfold Ytbppofhjlgfbiaa.put
  rw [if_pos rfl]
def partOf (r : Nat → Nat → Bool) (q : Nat) : Nat → Nat := canon (fun x => nm r x == q)
/-- The classes of a numbering lie in a row of their own. -/
def GivesParts (r : Nat → Nat → Bool) (w : World) (e : Ending) (w' : World) : Prop :=
  ∃ g, e = .returned (.slice (some ⟨g, 0, none⟩) (news r 256) (news r 256)) ∧ w.heap.size ≤ g ∧ PartsAt w' g (news r 256) (partOf r) ∧ Below w.heap.size w w'
def GS (r : Nat → Nat → Bool) (w : World) (g M k : Nat) (wr : World) : Prop :=
  ∃ Cs, (∀ q, q < M → setOf (fun x => x < k ∧ nm r x = q) (Cs q)) ∧ PartsAt wr g M Cs ∧ PFree wr g M ∧ w.heap.size ≤ g ∧ Below w.heap.size w wr
theorem GS.step {r : Nat → Nat → Bool} {w wr : World} {g M k d : Nat} {Cs : Nat → Nat → Nat} (hS : ∀ q, q < M → setOf (fun x => x < k ∧ nm r x = q) (Cs q)) (hP : PartsAt wr g M Cs) (hF : PFree wr g M) (hg : w.heap.size ≤ g) (hB : Below w.heap.size w wr) (hk : k < 256) (hq : nm r k < M) :
    GS r w g M (k + 1) ((wr.drewN d).setCell ⟨g, nm r k * 4 + k / 64, none⟩ (.int .u64 (bits .or .u64 ((Cs (nm r k) (k / 64) : Nat) : Int) (IntKind.u64.wrap (2 ^ (k % 64)))))) := by
  have hP' : PartsAt (wr.drewN d) g M Cs := hP
  have hF' : PFree (wr.drewN d) g M := hF
  refine ⟨_, fun q hqM => ?_, parts_put hP' hk (v_put (hS _ hq).1 k), hF'.put, hg, (below_drewN hB d).setCell hg _⟩
  by_cases e : q = nm r k
  · subst e
    simp only [if_true]
    exact setOf_put (hS _ hqM) fun x _ => by
      constructor
      · rintro ⟨h1, h2⟩
        by_cases ex : x = k
        · exact .inr ex
        · exact .inl ⟨by omega, h2⟩
      · rintro (⟨h1, h2⟩ | h)
        · exact ⟨by omega, h2⟩
        · subst h; exact ⟨by omega, rfl⟩
  · rw [if_neg e]
    refine ⟨(hS q hqM).1, fun x hx => ?_⟩
    rw [(hS q hqM).2 x hx]
    constructor
    · rintro ⟨h1, h2⟩; exact ⟨by omega, h2⟩
    · rintro ⟨h1, h2⟩
      refine ⟨?_, h2⟩
      by_cases ex : x = k
      · subst ex; exact absurd h2.symm e
      · omega
theorem GS.done {r : Nat → Nat → Bool} {w wr : World} {g M : Nat} (h : GS r w g M 256 wr) : PartsAt wr g M (partOf r) ∧ w.heap.size ≤ g ∧ Below w.heap.size w wr := by
  obtain ⟨Cs, hS, hP, _, hg, hB⟩ := h
  refine ⟨fun q hq j hj => ?_, hg, hB⟩
  rw [hP q hq j hj]
  have hs := same_canon (S := fun x => nm r x == q) (hS q hq).1 (fun b hb => by
    rw [Bool.eq_iff_iff, (hS q hq).2 b hb]
    simp [hb])
  have : Cs q j = partOf r q j := by
    have hj4 : j = 0 ∨ j = 1 ∨ j = 2 ∨ j = 3 := by omega
    rcases hj4 with rfl | rfl | rfl | rfl
    · exact hs.1
    · exact hs.2.1
    · exact hs.2.2.1
    · exact hs.2.2.2
  rw [this]

set_option maxHeartbeats 2000000 in
set_option maxRecDepth 100000 in
theorem gather_any (r : Nat → Nat → Bool) (hr : Alike r) (w : World) :
    Calls Try.prog 25 #[.agg (intList (nm r)).toArray] w (GivesParts r w) := by
  have hbox := ints_box w (nm r)
  have hix := index46 (nm r)
  have hsz : (Try.prog.info? 46).map (·.size) = some (intList (nm r)).length := by rw [intList_length]; exact (zero_of_info info46).2
  have hrg := hbox.range
  have hM := mxf_news hr
  have hlt : ∀ i, nm r i ≤ i := fun i => by unfold nm; have := news_le (r := r) (fst r i); have := (fst_spec hr i).1; omega
  have hnm : ∀ i, i < 256 → nm r i ≤ mxf (nm r) 255 := fun i hi => le_mxf 255 (by omega)
  have hm : mxf (nm r) 255 < 256 := by obtain ⟨i, hi, e⟩ := mxf_hit (f := nm r) 255; have := hlt i; omega
  have hmax := max_any w.heap.size (nm r) (w.alloc (.cells (intList (nm r)).toArray 46)) hbox (fun i hi => by have := hlt i; omega)
  generalize intList (nm r) = cs at hbox hix hsz hrg hmax
  unfold GivesParts
  rw [← hM]
  generalize mxf (nm r) 255 = m at hnm hm hmax
  have hmk := make22 m hm
  clear hM
  go_enter Try.func25, Try.ntmps25
  go_wp2_with fail
  go_at_call 31
  refine hmax.mono ?_
  rintro e w1 ⟨rfl, rfl⟩
  have hs0 : GS r w (w.heap.size + 1) (m + 1) 0 ((w.alloc (.cells cs.toArray 46)).alloc (.cells (madeCells #[.int .u64 0, .int .u64 0, .int .u64 0, .int .u64 0] ((m + 1) * 4)) 26)) := by
    have h1 := parts_start (w.alloc (.cells cs.toArray 46)) (m + 1)
    have h2 := pfree_start (w.alloc (.cells cs.toArray 46)) (madeCells #[.int .u64 0, .int .u64 0, .int .u64 0, .int .u64 0] ((m + 1) * 4)) (m + 1)
    simp only [World.size_alloc] at h1 h2
    exact ⟨fun _ => zeros, fun q _ => setOf_zeros fun b _ h => by omega, h1, h2, by omega, ((Below.refl _ _).alloc (Nat.le_refl _) _).alloc (by simp) _⟩
  have hrg2 : ((w.alloc (.cells cs.toArray 46)).alloc (.cells (madeCells #[.int .u64 0, .int .u64 0, .int .u64 0, .int .u64 0] ((m + 1) * 4)) 26)).rangeAt w.heap.size 0 cs := World.rangeAt_alloc hrg _
  clear hrg hbox hmax
  go_wp2_with (refine wpList_load_mid rfl 46 _ rfl w.heap.size 0 rfl cs _ hrg2 Try.underlying46 rfl hsz ?_)
  clear hrg2 hsz hmk
  go_loopw [4, 5, 11] (fun _ _ i wr => ∃ k : Nat, k ≤ 256 ∧ i = .int .i64 k ∧ GS r w (w.heap.size + 1) (m + 1) k wr) (fun _ _ i _ => 256 - (intOf i).toNat)
  case atStart => exact ⟨0, Nat.zero_le _, rfl, hs0⟩
  case round =>
    clear hs0
    obtain ⟨k, hk, rfl, hgs⟩ := hrel
    by_cases hl : k < 256
    · have h1 : (k : Int) < 256 := by omega
      have h2 : (0 : Int) ≤ (k : Int) := by omega
      have hxk := hix k hl
      obtain ⟨Cs, hS, hP, hF, hg, hB⟩ := hgs
      have hq := hnm k hl
      have hc := hP (nm r k) (by omega) (k / 64) (by omega)
      have hf := hF (nm r k) (by omega) (k / 64) (by omega)
      have hq0 : (0 : Int) ≤ (k : Int) / 64 := by omega
      have hq1 : (k : Int) / 64 < 4 := by omega
      have hp0 : (0 : Int) ≤ (nm r k : Int) := by omega
      have hp1 : (nm r k : Int) < (m : Int) + 1 := by omega
      have ha : bits .and .i64 (k : Int) 63 = (k : Int) % 64 := i64_and63 _
      have hst := GS.step hS hP hF hg hB hl (show nm r k < m + 1 by omega) (d := 1)
      have HST := Lib.hid hst
      clear hst hS hP hF hix hlt hnm hg
      go_wp2_with fail
      go_region
      go_wp2_with fail
      go_roundw
      case rel => exact ⟨k + 1, by omega, by go_num, HST.out⟩
      case measure => simp [intOf]; omega
    · have hke : k = 256 := by omega
      subst hke
      obtain ⟨d1, d2, d3⟩ := hgs.done
      go_wp2_with fail
      go_ret
      exact ⟨w.heap.size + 1, rfl, d2, d1, d3⟩

end Go.Proofs.Ytbppofhjlgfbiaa
