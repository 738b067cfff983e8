/- What the calls that make classes come to: contracts for the proofs of the statements.
   Conditions: classes are four words below 2^64 ('Cl'), bytes below 256, as each theorem states. -/
import Derived.Test.YtpibkalbnjgpaaaDoorLoops
import Derived.RegionTactic
import Derived.BigRegion
import Derived.ChangeAlike
namespace Go.Proofs.YtpibkalbnjgpaaaDoor
open Go.RowKit

def setOf (S : Nat → Prop) (C : Nat → Nat) : Prop := Cl C ∧ ∀ b, b < 256 → (hasB C b = true ↔ S b)
def GivesSet (S : Nat → Prop) (w : World) (e : Ending) (w' : World) : Prop := ∃ C : Nat → Nat, setOf S C ∧ e = .returned (.agg #[.int .u64 (C 0 : Nat), .int .u64 (C 1 : Nat), .int .u64 (C 2 : Nat), .int .u64 (C 3 : Nat)]) ∧ Below w.heap.size w w'
def zeros (_ : Nat) : Nat := 0
theorem setOf_zeros {S : Nat → Prop} (h : ∀ b, b < 256 → ¬ S b) : setOf S zeros :=
  ⟨fun _ => by unfold zeros; omega, fun b hb => by unfold hasB zeros; simp [h b hb]⟩
def put (C : Nat → Nat) (b : Nat) (i : Nat) : Nat := if i = b / 64 then C i ||| 2 ^ (b % 64) else C i
theorem pow_lt (b : Nat) : 2 ^ (b % 64) < 18446744073709551616 := by
  have : 2 ^ (b % 64) < 2 ^ 64 := Nat.pow_lt_pow_right (by decide) (Nat.mod_lt _ (by decide))
  rwa [pow64] at this
theorem Cl_put {C : Nat → Nat} (h : Cl C) (b : Nat) : Cl (put C b) := Cl.mk fun i => by
  unfold put
  split
  · exact Nat.or_lt_two_pow (h.lt i) (by rw [pow64]; exact pow_lt b)
  · exact h.lt i
theorem hasB_put (C : Nat → Nat) (b x : Nat) : hasB (put C b) x = true ↔ hasB C x = true ∨ x = b := by
  unfold hasB put
  by_cases e : x / 64 = b / 64
  · rw [if_pos e, Nat.testBit_or, Nat.testBit_two_pow]
    simp
    constructor
    · rintro (h | h)
      · exact .inl h
      · exact .inr (by omega)
    · rintro (h | h)
      · exact .inl h
      · exact .inr (by omega)
  · rw [if_neg e]
    constructor
    · exact .inl
    · rintro (h | h)
      · exact h
      · subst h; exact absurd rfl e
theorem setOf_put {S T : Nat → Prop} {C : Nat → Nat} {b : Nat} (h : setOf S C) (hT : ∀ x, x < 256 → (T x ↔ S x ∨ x = b)) : setOf T (put C b) :=
  ⟨Cl_put h.1 b, fun x hx => by rw [hasB_put, h.2 x hx, hT x hx]⟩
theorem v_pow (b : Nat) : IntKind.u64.wrap ((2 : Int) ^ (b % 64)) = ((2 ^ (b % 64) : Nat) : Int) := by
  have e : ((2 : Int) ^ (b % 64)) = ((2 ^ (b % 64) : Nat) : Int) := by simp
  have l := pow_lt b
  rw [e, IntKind.wrap_u64]
  generalize 2 ^ (b % 64) = x at l
  omega
theorem set_put {C : Nat → Nat} (hC : Cl C) {b : Nat} (hb : b < 256) :
    ([Value.int .u64 (C 0 : Nat), Value.int .u64 (C 1 : Nat), Value.int .u64 (C 2 : Nat), Value.int .u64 (C 3 : Nat)].set (b / 64) (Value.int .u64 (bits .or .u64 ((C (b / 64) : Nat) : Int) (IntKind.u64.wrap (2 ^ (b % 64)))))).toArray = #[.int .u64 (put C b 0 : Nat), .int .u64 (put C b 1 : Nat), .int .u64 (put C b 2 : Nat), .int .u64 (put C b 3 : Nat)] := by
  rw [v_pow, bits_or_u64_nat _ _ (hC _) (pow_lt b)]
  have : b / 64 = 0 ∨ b / 64 = 1 ∨ b / 64 = 2 ∨ b / 64 = 3 := by omega
  rcases this with e | e | e | e <;> simp [put, e]
theorem set_put' {C : Nat → Nat} (hC : Cl C) {b : Nat} (hb : b < 256) :
    (#[.int .u64 (C 0 : Nat), .int .u64 (C 1 : Nat), .int .u64 (C 2 : Nat), .int .u64 (C 3 : Nat)] : Array Value).setIfInBounds (b / 64) (Value.int .u64 (bits .or .u64 ((C (b / 64) : Nat) : Int) (IntKind.u64.wrap (2 ^ (b % 64))))) = #[.int .u64 (put C b 0 : Nat), .int .u64 (put C b 1 : Nat), .int .u64 (put C b 2 : Nat), .int .u64 (put C b 3 : Nat)] := by
  rw [← set_put hC hb]; simp

set_option maxHeartbeats 1000000 in
set_option maxRecDepth 100000 in
theorem of_some (b off n cap : Nat) (z : Nat → Nat) (w : World) (hblt : b < w.heap.size) (hcell : ∀ t, t < n → w.cell? ⟨b, off + t, none⟩ = some (.int .u8 (z t : Nat))) (hz : ∀ t, z t < 256) (hn : n ≤ 1000) :
    Calls Tryd.prog 72 #[.slice (some ⟨b, off, none⟩) n cap] w (GivesSet (fun x => ∃ t, t < n ∧ z t = x) w) := by
  go_enter Tryd.func72, Tryd.ntmps72
  go_wp2
  go_loopw [5, 8] (fun _ i wr => ∃ (k : Nat) (C : Nat → Nat), k ≤ n ∧ i = .int .i64 k ∧ setOf (fun x => ∃ t, t < k ∧ z t = x) C ∧ wr = (w.alloc (.cells #[.int .u64 0, .int .u64 0, .int .u64 0, .int .u64 0] 24)).alloc (.cells #[.int .u64 (C 0 : Nat), .int .u64 (C 1 : Nat), .int .u64 (C 2 : Nat), .int .u64 (C 3 : Nat)] 24)) (fun _ i _ => n - (intOf i).toNat)
  case atStart => exact ⟨0, zeros, Nat.zero_le _, rfl, setOf_zeros fun b _ h => by obtain ⟨t, ht, _⟩ := h; omega, rfl⟩
  case round =>
    obtain ⟨k, C, hk, rfl, hC, rfl⟩ := hrel
    by_cases hlt : k < n
    · have hc := hcell k hlt
      have hb := hz k
      have hp := pick4 C (z k / 64) (by omega)
      have hs := set_put hC.1 hb
      have HC := Lib.hid hC
      have h1 : (k : Int) < n := by omega
      clear hcell hC hz
      go_wp2
      go_roundw
      case rel => 
        refine ⟨k + 1, put C (z k), by omega, by go_num, setOf_put HC.out fun x _ => ?_, by rw [← hs]⟩
        constructor
        · rintro ⟨t, ht, e⟩
          by_cases et : t = k
          · subst et; exact .inr e.symm
          · exact .inl ⟨t, by omega, e⟩
        · rintro (⟨t, ht, e⟩ | e)
          · exact ⟨t, by omega, e⟩
          · exact ⟨k, by omega, e.symm⟩
      case measure => simp [intOf]; omega
    · have hke : k = n := by omega
      subst hke
      clear hcell hz
      go_wp2
      refine bodyPost_ret (v := .agg #[.int .u64 (C 0 : Nat), .int .u64 (C 1 : Nat), .int .u64 (C 2 : Nat), .int .u64 (C 3 : Nat)]) (by simp [results, Tryd.results72, go_sem]) rfl ⟨C, hC, rfl, ?_⟩
      exact ((Below.refl _ _).alloc (Nat.le_refl _) _).alloc (by simp) _

set_option maxHeartbeats 1000000 in
set_option maxRecDepth 100000 in
theorem of_none (A : Option Addr) (cap : Nat) (w : World) :
    Calls Tryd.prog 72 #[.slice A 0 cap] w (GivesSet (fun _ => False) w) := by
  go_enter Tryd.func72, Tryd.ntmps72
  go_wp2
  refine wp_loop_rounds 1 ?_
  rw [rounds_succ]
  go_wp2
  refine bodyPost_ret (v := .agg #[.int .u64 (zeros 0 : Nat), .int .u64 (zeros 1 : Nat), .int .u64 (zeros 2 : Nat), .int .u64 (zeros 3 : Nat)]) (by simp [results, Tryd.results72, go_sem, zeros]) rfl ⟨zeros, setOf_zeros fun _ _ h => h, rfl, ?_⟩
  exact ((Below.refl _ _).alloc (Nat.le_refl _) _).alloc (by simp) _

theorem i64_and63 (n : Int) : bits .and .i64 n 63 = n % 64 := by
  have h63 : (BitVec.ofInt 64 63).toNat = 2 ^ 6 - 1 := by decide
  have key : (BitVec.ofInt 64 n &&& BitVec.ofInt 64 63).toNat = (n % ((2 ^ 64 : Nat) : Int)).toNat % 2 ^ 6 := by
    rw [BitVec.toNat_and, BitVec.toNat_ofInt, h63, Nat.and_two_pow_sub_one_eq_mod]
  show IntKind.i64.wrap ((BitVec.ofInt 64 n &&& BitVec.ofInt 64 63).toNat : Nat) = n % 64
  rw [key, IntKind.wrap_i64]
  omega
theorem set_last (w : World) (A c c' : Array Value) (d q : Nat) (v : Value) (h : c.setIfInBounds q v = c') :
    ((((w.alloc (.cells A 24)).alloc (.cells c 24)).drewN d).setCell ⟨w.heap.size + 1, q, none⟩ v) = (((w.alloc (.cells A 24)).alloc (.cells c' 24)).drewN d) := by
  show ((((w.alloc (.cells A 24)).alloc (.cells c 24))).setCell ⟨w.heap.size + 1, q, none⟩ v).drewN d = _
  rw [World.setCell_alloc_at _ _ _ _ _ (by simp), h]

set_option maxHeartbeats 1000000 in
set_option maxRecDepth 100000 in
theorem range_any (lo hi : Nat) (w : World) (hlo : lo < 256) (hhi : hi < 256) :
    Calls Tryd.prog 60 #[.int .u8 lo, .int .u8 hi] w (GivesSet (fun x => lo ≤ x ∧ x ≤ hi) w) := by
  go_enter Tryd.func60, Tryd.ntmps60
  go_wp2
  go_loopw [6] (fun i wr => ∃ (k : Nat) (C : Nat → Nat), lo ≤ k ∧ k ≤ 256 ∧ i = .int .i64 k ∧ setOf (fun x => lo ≤ x ∧ x < k ∧ x ≤ hi) C ∧ ∃ d, wr = World.drewN ((w.alloc (.cells #[.int .u64 0, .int .u64 0, .int .u64 0, .int .u64 0] 24)).alloc (.cells #[.int .u64 (C 0 : Nat), .int .u64 (C 1 : Nat), .int .u64 (C 2 : Nat), .int .u64 (C 3 : Nat)] 24)) d) (fun i _ => 256 - (intOf i).toNat)
  case atStart => exact ⟨lo, zeros, Nat.le_refl _, by omega, rfl, setOf_zeros fun b _ h => by omega, 0, rfl⟩
  case round =>
    obtain ⟨k, C, hlk, hk, rfl, hC, d, rfl⟩ := hrel
    by_cases hlt : k ≤ hi
    · have hp := pick4 C (k / 64) (by omega)
      have hq0 : (0 : Int) ≤ (k : Int) / 64 := by omega
      have hq1 : (k : Int) / 64 < 4 := by omega
      have hm : bits .and .i64 (k : Int) 63 = (k : Int) % 64 := i64_and63 _
      have HC := Lib.hid hC
      clear hC
      go_wp2
      go_region
      go_wp2
      rw [set_last _ _ _ _ _ _ _ (set_put' HC.out.1 (show k < 256 by omega))]
      go_roundw
      case rel =>
        refine ⟨k + 1, put C k, by omega, by omega, by go_num, setOf_put HC.out fun x _ => ?_, d + 1, rfl⟩
        constructor
        · intro h
          by_cases e : x = k
          · exact .inr e
          · exact .inl ⟨by omega, by omega, by omega⟩
        · rintro (h | h) <;> omega
      case measure => simp [intOf]; omega
    · go_wp2
      refine bodyPost_ret (v := .agg #[.int .u64 (C 0 : Nat), .int .u64 (C 1 : Nat), .int .u64 (C 2 : Nat), .int .u64 (C 3 : Nat)]) (by simp [results, Tryd.results60, go_sem]) rfl ⟨C, ⟨hC.1, fun x hx => ?_⟩, rfl, ?_⟩
      · rw [hC.2 x hx]; omega
      · exact ((((below_drewN (((Below.refl _ _).alloc (Nat.le_refl _) _).alloc (by simp) _) d).setCell (by simp) _).setCell (by simp) _).setCell (by simp) _).setCell (by simp) _

end Go.Proofs.YtpibkalbnjgpaaaDoor
