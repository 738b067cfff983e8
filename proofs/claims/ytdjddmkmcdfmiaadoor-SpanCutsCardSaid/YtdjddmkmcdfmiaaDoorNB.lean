/- What a language reaches in a word, from place to place: rows of bits, pure.
   Conditions: those that each theorem states. -/
import Derived.Test.YtdjddmkmcdfmiaaDoorMBase
import Derived.Deep.RegionWith
import Derived.Test.YtdjddmkmcdfmiaaDoorMSim
import Derived.Test.YtdjddmkmcdfmiaaDoorNA

/- class.Has: the contract.
   Conditions: classes are four words below 2^64, bytes below 256. -/
namespace Go.Proofs.YtdjddmkmcdfmiaaDoor
open Go.RowKit

theorem gpick4 (C : Nat → Nat) (i : Nat) (h : i < 4) : [Value.int .u64 (C 0), Value.int .u64 (C 1), Value.int .u64 (C 2), Value.int .u64 (C 3)][i]? = some (Value.int .u64 (C i)) := by
  match i, h with
  | 0, _ => rfl
  | 1, _ => rfl
  | 2, _ => rfl
  | 3, _ => rfl
theorem ghasB_div (C : Nat → Nat) (b : Nat) : hasB C b = decide (C (b / 64) / 2 ^ (b % 64) % 2 = 1) := by
  unfold hasB
  rw [Nat.testBit_eq_decide_div_mod_eq]
def cbitN (C : Nat → Nat) (b : Nat) : Nat := C (b / 64) / 2 ^ (b % 64) % 2
theorem v_cbit {C : Nat → Nat} (h : Cl C) (b : Nat) : bits .and .u64 ((C (b / 64) : Int) / 2 ^ (b % 64)) 1 = ((cbitN C b : Nat) : Int) := by
  have e : ((C (b / 64) : Int) / 2 ^ (b % 64)) = ((C (b / 64) / 2 ^ (b % 64) : Nat) : Int) := by simp
  have l := Nat.lt_of_le_of_lt (Nat.div_le_self (C (b / 64)) (2 ^ (b % 64))) (h (b / 64))
  rw [e]
  generalize hx : C (b / 64) / 2 ^ (b % 64) = x at l
  rw [and_one_u64 _ (Int.natCast_nonneg _) (by omega)]
  unfold cbitN
  rw [hx]
  omega
theorem cbitN_one (C : Nat → Nat) (b : Nat) : ((cbitN C b : Int) == 1) = hasB C b := by
  rw [ghasB_div]
  unfold cbitN
  generalize C (b / 64) / 2 ^ (b % 64) = x
  rcases Nat.mod_two_eq_zero_or_one x with h | h <;> simp [h]

set_option maxHeartbeats 400000 in
set_option maxRecDepth 100000 in
theorem cbit_any (C : Nat → Nat) (b : Nat) (w : World) (hC : Cl C) (hb : b < 256) :
    Calls Tryd.prog 60 #[.agg #[.int .u64 (C 0 : Nat), .int .u64 (C 1 : Nat), .int .u64 (C 2 : Nat), .int .u64 (C 3 : Nat)], .int .u8 b] w fun e w' => e = .returned (.int .u64 (cbitN C b)) ∧ Below w.heap.size w w' := by
  have hc := gpick4 C (b / 64) (by omega)
  have hv := v_cbit hC b
  go_enter Tryd.func60, Tryd.ntmps60
  go_wp2
  go_ret
  exact ⟨rfl, (Below.refl _ _).alloc (Nat.le_refl _) _⟩

set_option maxHeartbeats 400000 in
set_option maxRecDepth 100000 in
theorem chas_any (C : Nat → Nat) (b : Nat) (w : World) (hC : Cl C) (hb : b < 256) :
    Calls Tryd.prog 56 #[.agg #[.int .u64 (C 0 : Nat), .int .u64 (C 1 : Nat), .int .u64 (C 2 : Nat), .int .u64 (C 3 : Nat)], .int .u8 b] w fun e w' => e = .returned (.bool (hasB C b)) ∧ Below w.heap.size w w' := by
  have hv := cbitN_one C b
  go_enter Tryd.func56, Tryd.ntmps56
  go_wp2_with (go_at_call 60; refine (cbit_any C b _ hC hb).mono ?_; rintro e w1 ⟨rfl, hb1⟩)
  go_ret
  exact ⟨rfl, ((Below.refl _ _).alloc (Nat.le_refl _) _).trans (hb1.mono (by simp))⟩

end Go.Proofs.YtdjddmkmcdfmiaaDoor

/- The words of a tree, as a plain relation; the simple tree has the same words.
   Conditions: those that each theorem states. -/
namespace Go.Proofs.YtdjddmkmcdfmiaaDoor

/-- So many words of a language, one behind the other. -/
def PowL (L : List Nat → Prop) : Nat → List Nat → Prop
  | 0, w => w = []
  | n + 1, w => ∃ a b, w = a ++ b ∧ L a ∧ PowL L n b
mutual
/-- The words of a tree. -/
def Lg : T → List Nat → Prop
  | .node k C lo hi ps => fun w =>
    if k = 0 then w = []
    else if k = 1 then ∃ b, b < 256 ∧ hasB C b = true ∧ w = [b]
    else if k = 2 then LgC ps w
    else if k = 3 then LgA ps w
    else ∃ n : Nat, lo ≤ (n : Int) ∧ (hi < 0 ∨ (n : Int) ≤ hi) ∧ PowL (LgC ps) n w
/-- Of trees in a row. -/
def LgC : List T → List Nat → Prop
  | [] => fun w => w = []
  | t :: ts => fun w => ∃ a b, w = a ++ b ∧ Lg t a ∧ LgC ts b
/-- Of one of some trees. -/
def LgA : List T → List Nat → Prop
  | [] => fun _ => False
  | t :: ts => fun w => Lg t w ∨ LgA ts w
end
theorem lg_zero {k lo hi : Int} {C : Nat → Nat} {ps : List T} (h : k = 0) (w : List Nat) : Lg (.node k C lo hi ps) w ↔ w = [] := by rw [Lg]; simp only [if_pos h]
theorem lg_one {k lo hi : Int} {C : Nat → Nat} {ps : List T} (h : k = 1) (w : List Nat) : Lg (.node k C lo hi ps) w ↔ ∃ b, b < 256 ∧ hasB C b = true ∧ w = [b] := by
  rw [Lg]; simp only [if_neg (show ¬ k = 0 by omega), if_pos h]
theorem lg_two {k lo hi : Int} {C : Nat → Nat} {ps : List T} (h : k = 2) (w : List Nat) : Lg (.node k C lo hi ps) w ↔ LgC ps w := by
  rw [Lg]; simp only [if_neg (show ¬ k = 0 by omega), if_neg (show ¬ k = 1 by omega), if_pos h]
theorem lg_three {k lo hi : Int} {C : Nat → Nat} {ps : List T} (h : k = 3) (w : List Nat) : Lg (.node k C lo hi ps) w ↔ LgA ps w := by
  rw [Lg]; simp only [if_neg (show ¬ k = 0 by omega), if_neg (show ¬ k = 1 by omega), if_neg (show ¬ k = 2 by omega), if_pos h]
theorem lg_four {k lo hi : Int} {C : Nat → Nat} {ps : List T} (h0 : k ≠ 0) (h1 : k ≠ 1) (h2 : k ≠ 2) (h3 : k ≠ 3) (w : List Nat) : Lg (.node k C lo hi ps) w ↔ ∃ n : Nat, lo ≤ (n : Int) ∧ (hi < 0 ∨ (n : Int) ≤ hi) ∧ PowL (LgC ps) n w := by
  rw [Lg]; simp only [if_neg h0, if_neg h1, if_neg h2, if_neg h3]
theorem lgc_nil (w : List Nat) : LgC [] w ↔ w = [] := by rw [LgC]
theorem lgc_cons (t : T) (ts : List T) (w : List Nat) : LgC (t :: ts) w ↔ ∃ a b, w = a ++ b ∧ Lg t a ∧ LgC ts b := by rw [LgC]
theorem lga_nil (w : List Nat) : LgA [] w ↔ False := by rw [LgA]
theorem lga_cons (t : T) (ts : List T) (w : List Nat) : LgA (t :: ts) w ↔ Lg t w ∨ LgA ts w := by rw [LgA]
theorem lgc_one (t : T) (w : List Nat) : LgC [t] w ↔ Lg t w := by
  rw [lgc_cons]
  constructor
  · rintro ⟨a, b, rfl, h, hb⟩
    rw [lgc_nil] at hb
    rw [hb, List.append_nil]; exact h
  · exact fun h => ⟨w, [], by simp, h, (lgc_nil _).2 rfl⟩
theorem lgc_append (xs ys : List T) : ∀ w, LgC (xs ++ ys) w ↔ ∃ a b, w = a ++ b ∧ LgC xs a ∧ LgC ys b := by
  induction xs with
  | nil =>
    intro w
    constructor
    · exact fun h => ⟨[], w, rfl, (lgc_nil _).2 rfl, h⟩
    · rintro ⟨a, b, rfl, ha, hb⟩
      rw [lgc_nil] at ha
      rw [ha]; exact hb
  | cons t xs ih =>
    intro w
    rw [List.cons_append, lgc_cons]
    constructor
    · rintro ⟨a, b, rfl, ha, hb⟩
      obtain ⟨c, d, rfl, hc, hd⟩ := (ih b).1 hb
      exact ⟨a ++ c, d, by rw [List.append_assoc], (lgc_cons _ _ _).2 ⟨a, c, rfl, ha, hc⟩, hd⟩
    · rintro ⟨a, b, rfl, ha, hb⟩
      obtain ⟨c, d, rfl, hc, hd⟩ := (lgc_cons _ _ _).1 ha
      exact ⟨c, d ++ b, by rw [List.append_assoc], hc, (ih _).2 ⟨d, b, rfl, hd, hb⟩⟩
theorem lga_mem (ts : List T) (w : List Nat) : LgA ts w ↔ ∃ t ∈ ts, Lg t w := by
  induction ts with
  | nil => rw [lga_nil]; simp
  | cons t ts ih => rw [lga_cons, ih]; simp
theorem pow_iff {L M : List Nat → Prop} (h : ∀ w, L w ↔ M w) : ∀ n w, PowL L n w ↔ PowL M n w
  | 0, _ => Iff.rfl
  | n + 1, w => by
    rw [PowL, PowL]
    exact ⟨fun ⟨a, b, e, x, y⟩ => ⟨a, b, e, (h a).1 x, (pow_iff h n b).1 y⟩, fun ⟨a, b, e, x, y⟩ => ⟨a, b, e, (h a).2 x, (pow_iff h n b).2 y⟩⟩
theorem pow_pad {L : List Nat → Prop} (h : L []) {n m : Nat} {w : List Nat} (hnm : n ≤ m) (hw : PowL L n w) : PowL L m w := by
  induction hnm with
  | refl => exact hw
  | step _ ih => exact ⟨[], w, rfl, h, ih⟩
theorem pow_none {L : List Nat → Prop} (h : ∀ w, ¬ L w) {n : Nat} {w : List Nat} (hw : PowL L n w) : n = 0 ∧ w = [] := by
  cases n with
  | zero => exact ⟨rfl, hw⟩
  | succ n => obtain ⟨a, _, _, ha, _⟩ := hw; exact absurd ha (h a)
theorem pow_eps {L : List Nat → Prop} (h : ∀ w, L w ↔ w = []) : ∀ (n : Nat) (w : List Nat), PowL L n w ↔ w = []
  | 0, _ => Iff.rfl
  | n + 1, w => by
    constructor
    · rintro ⟨a, b, rfl, ha, hb⟩
      rw [(h a).1 ha, (pow_eps h n b).1 hb]; rfl
    · rintro rfl
      exact ⟨[], [], rfl, (h []).2 rfl, (pow_eps h n []).2 rfl⟩
theorem pow_once {L : List Nat → Prop} (w : List Nat) : PowL L 1 w ↔ L w := by
  constructor
  · rintro ⟨a, b, rfl, ha, hb⟩
    rw [show b = [] from hb, List.append_nil]; exact ha
  · exact fun h => ⟨w, [], by simp, h, rfl⟩
theorem pow_add {L : List Nat → Prop} : ∀ (n m : Nat) (w : List Nat), PowL L (n + m) w ↔ ∃ a b, w = a ++ b ∧ PowL L n a ∧ PowL L m b
  | 0, m, w => by
    rw [Nat.zero_add]
    exact ⟨fun h => ⟨[], w, rfl, rfl, h⟩, fun ⟨a, b, e, ha, hb⟩ => by rw [show a = [] from ha] at e; rw [e]; exact hb⟩
  | n + 1, m, w => by
    rw [show n + 1 + m = (n + m) + 1 by omega, PowL]
    constructor
    · rintro ⟨a, b, rfl, ha, hb⟩
      obtain ⟨c, d, rfl, hc, hd⟩ := (pow_add n m b).1 hb
      exact ⟨a ++ c, d, by rw [List.append_assoc], ⟨a, c, rfl, ha, hc⟩, hd⟩
    · rintro ⟨a, b, rfl, ⟨c, d, rfl, hc, hd⟩, hb⟩
      exact ⟨c, d ++ b, by rw [List.append_assoc], hc, (pow_add n m _).2 ⟨d, b, rfl, hd, hb⟩⟩
theorem z4_no {C : Nat → Nat} (h : z4 C = true) {b : Nat} (hb : b < 256) : hasB C b = false := by
  obtain ⟨h0, h1, h2, h3⟩ := of_decide_eq_true h
  have h4 : C (b / 64) = 0 := by
    have : b / 64 = 0 ∨ b / 64 = 1 ∨ b / 64 = 2 ∨ b / 64 = 3 := by omega
    rcases this with e | e | e | e <;> rw [e] <;> assumption
  unfold hasB
  rw [h4, Nat.zero_testBit]
theorem eq4_has {A B : Nat → Nat} (h : eq4 A B = true) {b : Nat} (hb : b < 256) : hasB A b = hasB B b := by
  obtain ⟨h0, h1, h2, h3⟩ := of_decide_eq_true h
  have h4 : A (b / 64) = B (b / 64) := by
    have : b / 64 = 0 ∨ b / 64 = 1 ∨ b / 64 = 2 ∨ b / 64 = 3 := by omega
    rcases this with e | e | e | e <;> rw [e] <;> assumption
  unfold hasB
  rw [h4]
theorem wash_has (C : Nat → Nat) {b : Nat} (hb : b < 256) : hasB (wash C) b = hasB C b := by
  unfold hasB wash
  rw [if_pos (by omega)]
mutual
/-- What is void has no word. -/
theorem lg_void : ∀ (t : T), vdT t = true → ∀ w, ¬ Lg t w
  | .node k C lo hi ps, h, w, hw => by
    rw [vdT] at h
    split at h
    · rename_i e
      obtain ⟨b, hb, hc, _⟩ := (lg_one e w).1 hw
      rw [z4_no h hb] at hc; cases hc
    · split at h
      · rename_i e
        exact lgc_void ps h w ((lg_two e w).1 hw)
      · split at h
        · rename_i e
          exact lga_void ps h w ((lg_three e w).1 hw)
        · split at h
          · rename_i e
            rw [Bool.and_eq_true, decide_eq_true_eq] at h
            obtain ⟨n, h1, _, h2⟩ := (lg_four (by omega) (by omega) (by omega) (by omega) w).1 hw
            have := pow_none (lgc_void ps h.2) h2
            omega
          · cases h
theorem lgc_void : ∀ (ts : List T), vdAny ts = true → ∀ w, ¬ LgC ts w
  | [], h, _, _ => by rw [vdAny] at h; cases h
  | t :: ts, h, w, hw => by
    rw [vdAny, Bool.or_eq_true] at h
    obtain ⟨a, b, _, ha, hb⟩ := (lgc_cons _ _ _).1 hw
    rcases h with h | h
    · exact lg_void t h a ha
    · exact lgc_void ts h b hb
theorem lga_void : ∀ (ts : List T), vdAll ts = true → ∀ w, ¬ LgA ts w
  | [], _, w, hw => (lga_nil w).1 hw
  | t :: ts, h, w, hw => by
    rw [vdAll, Bool.and_eq_true] at h
    rcases (lga_cons _ _ _).1 hw with hw | hw
    · exact lg_void t h.1 w hw
    · exact lga_void ts h.2 w hw
end
theorem bnd_le {lo hi : Int} (h : bnd lo hi = true) : 0 ≤ lo ∧ (hi = -1 ∨ lo ≤ hi) := by
  have := of_decide_eq_true h
  omega
mutual
/-- A formed tree that is nullable has the empty word. -/
theorem lg_null : ∀ (t : T), okT t = true → nuT t = true → Lg t []
  | .node k C lo hi ps, hok, h => by
    have hs := lgs_null ps (ok_parts hok)
    rw [nuT] at h
    split at h
    · rename_i e; exact (lg_zero e _).2 rfl
    · split at h
      · rename_i e; exact (lg_two e _).2 (hs.1 h)
      · split at h
        · rename_i e; exact (lg_three e _).2 (hs.2 h)
        · split at h
          · rename_i e
            have hk := of_decide_eq_true (ok_kind hok)
            have hb : bnd lo hi = true ∧ ps.length = 1 := by
              rcases hk with h | h | h | h
              · omega
              · omega
              · omega
              · exact ⟨h.2.2.2, h.2.2.1⟩
            have hb2 := bnd_le hb.1
            refine (lg_four (by omega) (by omega) (by omega) (by omega) _).2 ⟨lo.toNat, by omega, by omega, ?_⟩
            rw [Bool.or_eq_true, decide_eq_true_eq] at h
            rcases h with h | h
            · rw [h]; rfl
            · have h1 : LgC ps [] := by
                match ps, hb.2, hs, h with
                | [p], _, hs, h => exact hs.1 (by rw [nuAll, nuAll, Bool.and_true]; rw [nuAny, nuAny, Bool.or_false] at h; exact h)
              exact pow_pad h1 (Nat.zero_le _) rfl
          · cases h
theorem lgs_null : ∀ (ts : List T), oksT ts = true → (nuAll ts = true → LgC ts []) ∧ (nuAny ts = true → LgA ts [])
  | [], _ => ⟨fun _ => (lgc_nil _).2 rfl, fun h => by rw [nuAny] at h; cases h⟩
  | t :: ts, hok => by
    rw [oksT, Bool.and_eq_true] at hok
    have h1 := lg_null t hok.1
    have h2 := lgs_null ts hok.2
    refine ⟨fun h => ?_, fun h => ?_⟩
    · rw [nuAll, Bool.and_eq_true] at h
      exact (lgc_cons _ _ _).2 ⟨[], [], rfl, h1 h.1, h2.1 h.2⟩
    · rw [nuAny, Bool.or_eq_true] at h
      rcases h with h | h
      · exact (lga_cons _ _ _).2 (.inl (h1 h))
      · exact (lga_cons _ _ _).2 (.inr (h2.2 h))
end
mutual
/-- Trees that are alike have the same words. -/
theorem lg_like : ∀ a b : T, likeT a b = true → ∀ w, Lg a w ↔ Lg b w
  | .node k C lo hi ps, .node k' C' lo' hi' qs, h, w => by
    rw [likeT, Bool.and_eq_true] at h
    obtain ⟨rfl, hC, rfl, rfl, hl⟩ := of_decide_eq_true h.1
    have hs := lgs_like ps qs hl h.2
    rw [Lg, Lg]
    simp only
    split
    · exact Iff.rfl
    · split
      · constructor
        · rintro ⟨b, hb, hc, e⟩; exact ⟨b, hb, by rw [← eq4_has hC hb]; exact hc, e⟩
        · rintro ⟨b, hb, hc, e⟩; exact ⟨b, hb, by rw [eq4_has hC hb]; exact hc, e⟩
      · split
        · exact (hs w).1
        · split
          · exact (hs w).2
          · exact ⟨fun ⟨n, h1, h2, h3⟩ => ⟨n, h1, h2, (pow_iff (fun v => (hs v).1) n w).1 h3⟩, fun ⟨n, h1, h2, h3⟩ => ⟨n, h1, h2, (pow_iff (fun v => (hs v).1) n w).2 h3⟩⟩
theorem lgs_like : ∀ xs ys : List T, xs.length = ys.length → likesT xs ys = true → ∀ w, (LgC xs w ↔ LgC ys w) ∧ (LgA xs w ↔ LgA ys w)
  | [], [], _, _, w => ⟨Iff.rfl, Iff.rfl⟩
  | [], _ :: _, h, _, _ => by simp at h
  | _ :: _, [], h, _, _ => by simp at h
  | x :: xs, y :: ys, hl, h, w => by
    rw [likesT, Bool.and_eq_true] at h
    have h1 := lg_like x y h.1
    have h2 := lgs_like xs ys (by simpa using hl) h.2
    refine ⟨?_, ?_⟩
    · rw [lgc_cons, lgc_cons]
      exact ⟨fun ⟨a, b, e, p, q⟩ => ⟨a, b, e, (h1 a).1 p, (h2 b).1.1 q⟩, fun ⟨a, b, e, p, q⟩ => ⟨a, b, e, (h1 a).2 p, (h2 b).1.2 q⟩⟩
    · rw [lga_cons, lga_cons, h1 w, (h2 w).2]
end
theorem lg_kind2 {t : T} (h : t.kind = 2) (w : List Nat) : Lg t w ↔ LgC t.ps w := by
  cases t with
  | node k C lo hi ps => exact lg_two h w
theorem lg_kind3 {t : T} (h : t.kind = 3) (w : List Nat) : Lg t w ↔ LgA t.ps w := by
  cases t with
  | node k C lo hi ps => exact lg_three h w
theorem lg_kind0 {t : T} (h : t.kind = 0) (w : List Nat) : Lg t w ↔ w = [] := by
  cases t with
  | node k C lo hi ps => exact lg_zero h w
theorem lgc_spread (l : List T) : ∀ w, LgC (spreadT 2 l) w ↔ LgC l w := by
  induction l with
  | nil => intro w; rfl
  | cons t l ih =>
    intro w
    rw [spreadT, lgc_append, lgc_cons]
    have h : ∀ a, LgC (if t.kind = 2 then t.ps else [t]) a ↔ Lg t a := fun a => by
      split
      · rename_i e; exact (lg_kind2 e a).symm
      · exact lgc_one t a
    exact ⟨fun ⟨a, b, e, p, q⟩ => ⟨a, b, e, (h a).1 p, (ih b).1 q⟩, fun ⟨a, b, e, p, q⟩ => ⟨a, b, e, (h a).2 p, (ih b).2 q⟩⟩
theorem lga_append (xs ys : List T) (w : List Nat) : LgA (xs ++ ys) w ↔ LgA xs w ∨ LgA ys w := by
  rw [lga_mem, lga_mem, lga_mem]
  constructor
  · rintro ⟨t, ht, h⟩
    rcases List.mem_append.1 ht with ht | ht
    · exact .inl ⟨t, ht, h⟩
    · exact .inr ⟨t, ht, h⟩
  · rintro (⟨t, ht, h⟩ | ⟨t, ht, h⟩)
    · exact ⟨t, List.mem_append.2 (.inl ht), h⟩
    · exact ⟨t, List.mem_append.2 (.inr ht), h⟩
theorem lga_spread (l : List T) : ∀ w, LgA (spreadT 3 l) w ↔ LgA l w := by
  induction l with
  | nil => intro w; rfl
  | cons t l ih =>
    intro w
    rw [spreadT, lga_append, lga_cons, ih]
    have h : LgA (if t.kind = 3 then t.ps else [t]) w ↔ Lg t w := by
      split
      · rename_i e; exact (lg_kind3 e w).symm
      · rw [lga_cons, lga_nil, or_false]
    rw [h]
theorem lgc_left (a : List T) : ∀ l w, LgC (leftT 2 l a) w ↔ LgC (l ++ a) w := by
  induction a with
  | nil => intro l w; rw [leftT, List.append_nil]
  | cons t a ih =>
    intro l w
    rw [leftT, ih]
    split
    · rename_i hd
      have e : t.kind = 0 := by
        unfold dropT at hd
        rw [if_pos rfl] at hd
        exact of_decide_eq_true hd
      rw [lgc_append, lgc_append]
      have h : ∀ b, LgC (t :: a) b ↔ LgC a b := fun b => by
        rw [lgc_cons]
        constructor
        · rintro ⟨c, d, rfl, hc, hd⟩
          rw [(lg_kind0 e c).1 hc]; exact hd
        · exact fun h => ⟨[], b, rfl, (lg_kind0 e _).2 rfl, h⟩
      exact ⟨fun ⟨x, y, e, p, q⟩ => ⟨x, y, e, p, (h y).2 q⟩, fun ⟨x, y, e, p, q⟩ => ⟨x, y, e, p, (h y).1 q⟩⟩
    · rw [List.append_assoc]; rfl
theorem lga_left (a : List T) : ∀ l w, LgA (leftT 3 l a) w ↔ LgA l w ∨ LgA a w := by
  induction a with
  | nil => intro l w; rw [leftT, lga_nil, or_false]
  | cons t a ih =>
    intro l w
    rw [leftT, ih, lga_cons]
    split
    · rename_i hd
      unfold dropT at hd
      rw [if_neg (by decide), Bool.or_eq_true] at hd
      constructor
      · rintro (h | h)
        · exact .inl h
        · exact .inr (.inr h)
      · rintro (h | h | h)
        · exact .inl h
        · rcases hd with hd | hd
          · exact absurd h (lg_void t hd w)
          · rw [List.any_eq_true] at hd
            obtain ⟨u, hu, hl⟩ := hd
            exact .inl ((lga_mem _ _).2 ⟨u, hu, (lg_like u t hl w).2 h⟩)
        · exact .inr h
    · rw [lga_append, lga_cons, lga_nil, or_false, or_assoc]
theorem lg_oneof2 : ∀ (l : List T) (w : List Nat), Lg (oneOf 2 l) w ↔ LgC l w
  | [], w => by rw [oneOf, lg_zero rfl, lgc_nil]
  | [t], w => by rw [oneOf, lgc_one]
  | t :: u :: ts, w => by rw [oneOf, lg_two rfl]
theorem lg_oneof3 : ∀ (l : List T) (w : List Nat), l ≠ [] → (Lg (oneOf 3 l) w ↔ LgA l w)
  | [], _, h => absurd rfl h
  | [t], w, _ => by rw [oneOf, lga_cons, lga_nil, or_false]
  | t :: u :: ts, w, _ => by rw [oneOf, lg_three rfl]
mutual
/-- The simple tree has the same words. -/
theorem lg_sim : ∀ t : T, okT t = true → ∀ w, Lg (simT t) w ↔ Lg t w
  | .node k C lo hi ps, hok, w => by
    have hs := lgs_sim ps (ok_parts hok)
    have hk := of_decide_eq_true (ok_kind hok)
    rw [simT]
    split
    · rename_i hv
      exact ⟨fun h => absurd h (lg_void emptyT vd_empty w), fun h => absurd h (lg_void _ hv w)⟩
    · rename_i hv
      have hv2 : vdT (.node k C lo hi ps) = false := by simpa using hv
      split
      · rename_i hk2
        by_cases e : k = 0
        · rw [lg_zero e, lg_zero e]
        · have e : k = 1 := by rcases hk with h | h | h | h <;> omega
          rw [lg_one e, lg_one e]
          exact ⟨fun ⟨b, hb, hc, h⟩ => ⟨b, hb, by rw [← wash_has C hb]; exact hc, h⟩, fun ⟨b, hb, hc, h⟩ => ⟨b, hb, by rw [wash_has C hb]; exact hc, h⟩⟩
      · split
        · rename_i e
          have hb : bnd lo hi = true ∧ ps.length = 1 := by
            rcases hk with h | h | h | h
            · omega
            · omega
            · omega
            · exact ⟨h.2.2.2, h.2.2.1⟩
          have hb2 := bnd_le hb.1
          match ps, hb.2, hs, hv2, hok with
          | [p], _, hs, hv2, hok =>
            have hp : ∀ v, Lg (simT p) v ↔ Lg p v := fun v => by
              have := (hs v).1
              rw [simsT, simsT, lgc_one, lgc_one] at this
              exact this
            have hokp : okT p = true := by have := ok_parts hok; rw [oksT, oksT, Bool.and_true] at this; exact this
            rw [simsT]
            show Lg (rep4 lo hi (simT p)) w ↔ _
            rw [lg_four (by omega) (by omega) (by omega) (by omega)]
            have hpw : ∀ n v, PowL (LgC [p]) n v ↔ PowL (Lg (simT p)) n v := pow_iff fun v => by rw [lgc_one, hp v]
            unfold rep4
            split
            · rename_i h
              rw [lg_zero rfl]
              by_cases h0 : hi = 0
              · constructor
                · rintro rfl; exact ⟨0, by omega, by omega, rfl⟩
                · rintro ⟨n, h1, h2, h3⟩
                  have : n = 0 := by omega
                  subst this
                  exact h3
              · by_cases h1 : (simT p).kind = 0
                · have he : ∀ v, Lg (simT p) v ↔ v = [] := lg_kind0 h1
                  constructor
                  · rintro rfl; exact ⟨lo.toNat, by omega, by omega, (hpw _ _).2 ((pow_eps he _ _).2 rfl)⟩
                  · rintro ⟨n, _, _, h3⟩
                    exact (pow_eps he n w).1 ((hpw n w).1 h3)
                · have h2 : vdT (simT p) = true := by rcases h with h | h | h; exact absurd h h0; exact absurd h h1; exact h
                  have h3 : vdT p = true := by
                    cases hvp : vdT p with
                    | true => rfl
                    | false => have := ln_vd (sim_ln p hokp hvp); rw [h2] at this; cases this
                  have h4 : ¬ 0 < lo := by
                    rw [vdT, if_neg (by omega), if_neg (by omega), if_neg (by omega), if_pos e, vdAny, vdAny, h3] at hv2
                    simpa using hv2
                  constructor
                  · rintro rfl; exact ⟨0, by omega, by omega, rfl⟩
                  · rintro ⟨n, _, _, h5⟩
                    exact (pow_none (lgc_void [p] (by rw [vdAny, h3]; rfl)) h5).2
            · rename_i h
              split
              · rename_i h1
                rw [h1.1, h1.2]
                constructor
                · exact fun h => ⟨1, by omega, by omega, (hpw _ _).2 ((pow_once w).2 h)⟩
                · rintro ⟨n, h3, h4, h5⟩
                  have : n = 1 := by omega
                  subst this
                  exact (pow_once w).1 ((hpw _ _).1 h5)
              · rw [lg_four (by omega) (by omega) (by omega) (by omega)]
                have hpw2 : ∀ n v, PowL (LgC [simT p]) n v ↔ PowL (Lg (simT p)) n v := pow_iff fun v => lgc_one _ v
                split
                · rename_i hn
                  have hne : LgC [p] [] := by
                    have hvs : vdT p = false := by
                      cases hvp : vdT p with
                      | false => rfl
                      | true => exact absurd (.inr (.inr (by rw [sim_void hvp]; exact vd_empty))) h
                    rw [lgc_one]
                    exact lg_null p hokp (by rw [← sim_nu p hokp hvs]; exact hn)
                  constructor
                  · rintro ⟨n, h3, h4, h5⟩
                    have h6 := (hpw n w).2 ((hpw2 n w).1 h5)
                    exact ⟨max n lo.toNat, by omega, by omega, pow_pad hne (Nat.le_max_left _ _) h6⟩
                  · rintro ⟨n, h3, h4, h5⟩
                    exact ⟨n, by omega, h4, (hpw2 n w).2 ((hpw n w).1 h5)⟩
                · exact ⟨fun ⟨n, h3, h4, h5⟩ => ⟨n, h3, h4, (hpw n w).2 ((hpw2 n w).1 h5)⟩, fun ⟨n, h3, h4, h5⟩ => ⟨n, h3, h4, (hpw2 n w).2 ((hpw n w).1 h5)⟩⟩
        · rename_i e
          have hk23 : k = 2 ∨ k = 3 := by rcases hk with h | h | h | h <;> omega
          rcases hk23 with rfl | rfl
          · rw [lg_oneof2, lgc_left, List.nil_append, lgc_spread, lg_two rfl]
            exact (hs w).1
          · have hne : leftT 3 [] (spreadT 3 (simsT ps)) ≠ [] := by
              have hv3 : vdAll ps = false := by
                rw [vdT, if_neg (by omega), if_neg (by omega), if_pos rfl] at hv2
                exact hv2
              obtain ⟨p, hp, hpv⟩ := vdAll_no.1 hv3
              refine left_some _ _ (.inr ?_)
              exact spread_some (u := simT p) (by rw [sims_map]; exact List.mem_map_of_mem hp) (ln_vd (sim_ln p (oks_mem (ok_parts hok) p hp) hpv))
            rw [lg_oneof3 _ _ hne, lga_left, lga_nil, false_or, lga_spread, lg_three rfl]
            exact (hs w).2
theorem lgs_sim : ∀ ts : List T, oksT ts = true → ∀ w, (LgC (simsT ts) w ↔ LgC ts w) ∧ (LgA (simsT ts) w ↔ LgA ts w)
  | [], _, w => by rw [simsT]; exact ⟨Iff.rfl, Iff.rfl⟩
  | t :: ts, h, w => by
    rw [oksT, Bool.and_eq_true] at h
    have h1 := lg_sim t h.1
    have h2 := lgs_sim ts h.2
    rw [simsT]
    refine ⟨?_, ?_⟩
    · rw [lgc_cons, lgc_cons]
      exact ⟨fun ⟨a, b, e, p, q⟩ => ⟨a, b, e, (h1 a).1 p, (h2 b).1.1 q⟩, fun ⟨a, b, e, p, q⟩ => ⟨a, b, e, (h1 a).2 p, (h2 b).1.2 q⟩⟩
    · rw [lga_cons, lga_cons, h1 w, (h2 w).2]
end

end Go.Proofs.YtdjddmkmcdfmiaaDoor

/- What a language reaches in a word, from place to place: rows of bits, pure.
   Conditions: those that each theorem states. -/
namespace Go.Proofs.YtdjddmkmcdfmiaaDoor

/-- A piece of a word. -/
def facW (w : List Nat) (p q : Nat) : List Nat := (w.drop p).take (q - p)
/-- A language reaches from a place to another one. -/
def RchW (w : List Nat) (L : List Nat → Prop) (p q : Nat) : Prop := p ≤ q ∧ q ≤ w.length ∧ L (facW w p q)
theorem fac_len {w : List Nat} {p q : Nat} (hq : q ≤ w.length) : (facW w p q).length = q - p := by
  unfold facW
  rw [List.length_take, List.length_drop]
  omega
theorem fac_split {w : List Nat} {p q : Nat} (hpq : p ≤ q) (hq : q ≤ w.length) {a b : List Nat} (h : facW w p q = a ++ b) : a = facW w p (p + a.length) ∧ b = facW w (p + a.length) q ∧ p + a.length ≤ q := by
  have hl := fac_len (p := p) hq
  rw [h, List.length_append] at hl
  unfold facW at h ⊢
  refine ⟨?_, ?_, by omega⟩
  · have := congrArg (List.take a.length) h
    rw [List.take_left' rfl, List.take_take] at this
    refine this.symm.trans ?_
    congr 1
    omega
  · have := congrArg (List.drop a.length) h
    rw [List.drop_left' rfl, List.drop_take, List.drop_drop] at this
    refine this.symm.trans ?_
    congr 1
    omega
theorem fac_join {w : List Nat} {p r q : Nat} (h1 : p ≤ r) (h2 : r ≤ q) : facW w p q = facW w p r ++ facW w r q := by
  unfold facW
  rw [show q - p = (r - p) + (q - r) by omega, List.take_add, List.drop_drop]
  congr 3
  omega
/-- One behind the other. -/
def CatL (L M : List Nat → Prop) (w : List Nat) : Prop := ∃ a b, w = a ++ b ∧ L a ∧ M b
theorem rch_cat {w : List Nat} {L M : List Nat → Prop} {p q : Nat} : RchW w (CatL L M) p q ↔ ∃ r, RchW w L p r ∧ RchW w M r q := by
  constructor
  · rintro ⟨h1, h2, a, b, e, ha, hb⟩
    obtain ⟨ea, eb, hl⟩ := fac_split h1 h2 e
    exact ⟨p + a.length, ⟨by omega, by omega, ea ▸ ha⟩, ⟨hl, h2, eb ▸ hb⟩⟩
  · rintro ⟨r, ⟨h1, _, ha⟩, h3, h4, hb⟩
    exact ⟨by omega, h4, _, _, fac_join h1 h3, ha, hb⟩
/-- Rows that tell of each place which ones a language reaches. -/
def RpW (w : List Nat) (m : Nat → Nat → Nat) (L : List Nat → Prop) : Prop := ∀ p, p ≤ w.length → ∀ q, q < 256 → (hasB (m p) q = true ↔ RchW w L p q)
theorem rpW_iff {w : List Nat} {m : Nat → Nat → Nat} {L M : List Nat → Prop} (h : RpW w m L) (e : ∀ p q, p ≤ w.length → (RchW w L p q ↔ RchW w M p q)) : RpW w m M := fun p hp q hq => (h p hp q hq).trans (e p q hp)
theorem rpW_lang {w : List Nat} {m : Nat → Nat → Nat} {L M : List Nat → Prop} (h : RpW w m L) (e : ∀ v, L v ↔ M v) : RpW w m M := rpW_iff h fun p q _ => by unfold RchW; rw [e]
/-- Each place itself. -/
theorem rpW_eps {w : List Nat} {m : Nat → Nat → Nat} (h : ∀ p, p ≤ w.length → ∀ q, q < 256 → (hasB (m p) q = true ↔ q = p)) : RpW w m (fun v => v = []) := fun p hp q hq => by
  rw [h p hp q hq]
  constructor
  · rintro rfl
    refine ⟨Nat.le_refl _, hp, ?_⟩
    unfold facW
    rw [Nat.sub_self, List.take_zero]
  · rintro ⟨h1, h2, h3⟩
    have := fac_len (p := p) h2
    rw [h3] at this
    simp only [List.length_nil] at this
    omega
/-- A byte of a set. -/
theorem rpW_byte {w : List Nat} {C : Nat → Nat} {m : Nat → Nat → Nat} (hw : ∀ b ∈ w, b < 256) (h : ∀ p, p ≤ w.length → ∀ q, q < 256 → (hasB (m p) q = true ↔ q = p + 1 ∧ ∃ b, w[p]? = some b ∧ hasB C b = true)) : RpW w m (fun v => ∃ b, b < 256 ∧ hasB C b = true ∧ v = [b]) := fun p hp q hq => by
  rw [h p hp q hq]
  constructor
  · rintro ⟨rfl, b, hb, hc⟩
    have hlt := (List.getElem?_eq_some_iff.1 hb).1
    refine ⟨by omega, by omega, b, hw b (List.mem_of_getElem? hb), hc, ?_⟩
    unfold facW
    rw [Nat.add_sub_cancel_left]
    have : w.drop p = b :: w.drop (p + 1) := by
      rw [List.drop_eq_getElem_cons hlt, (List.getElem?_eq_some_iff.1 hb).2]
    rw [this]; rfl
  · rintro ⟨h1, h2, b, hb, hc, e⟩
    have hl := fac_len (p := p) h2
    rw [e] at hl
    simp only [List.length_cons, List.length_nil] at hl
    refine ⟨by omega, b, ?_, hc⟩
    have hlt : p < w.length := by omega
    unfold facW at e
    rw [List.drop_eq_getElem_cons hlt, show q - p = 1 by omega] at e
    rw [List.getElem?_eq_getElem hlt]
    injection e with e
    rw [← e]
theorem rpW_or {w : List Nat} {m k o : Nat → Nat → Nat} {L M : List Nat → Prop} (h : RpW w m L) (g : RpW w k M) (e : ∀ p, p ≤ w.length → ∀ i, i < 4 → o p i = m p i ||| k p i) : RpW w o (fun v => L v ∨ M v) := fun p hp q hq => by
  have : hasB (o p) q = (hasB (m p) q || hasB (k p) q) := by
    unfold hasB
    rw [e p hp _ (by omega), Nat.testBit_or]
  rw [this, Bool.or_eq_true, h p hp q hq, g p hp q hq]
  unfold RchW
  constructor
  · rintro (⟨a, b, c⟩ | ⟨a, b, c⟩)
    · exact ⟨a, b, .inl c⟩
    · exact ⟨a, b, .inr c⟩
  · rintro ⟨a, b, c | c⟩
    · exact .inl ⟨a, b, c⟩
    · exact .inr ⟨a, b, c⟩
theorem rpW_cat {w : List Nat} {m k o : Nat → Nat → Nat} {L M : List Nat → Prop} (hw : w.length < 256) (h : RpW w m L) (g : RpW w k M) (e : ∀ p, p ≤ w.length → ∀ q, q < 256 → (hasB (o p) q = true ↔ ∃ r, r < 256 ∧ hasB (m p) r = true ∧ hasB (k r) q = true)) : RpW w o (CatL L M) := fun p hp q hq => by
  rw [e p hp q hq, rch_cat]
  constructor
  · rintro ⟨r, hr, h1, h2⟩
    have h3 := (h p hp r hr).1 h1
    exact ⟨r, h3, (g r h3.2.1 q hq).1 h2⟩
  · rintro ⟨r, h1, h2⟩
    have h3 : r ≤ w.length := h1.2.1
    exact ⟨r, by omega, (h p hp r (by omega)).2 h1, (g r h3 q hq).2 h2⟩
theorem powL_snoc {L : List Nat → Prop} (n : Nat) (v : List Nat) : PowL L (n + 1) v ↔ CatL (PowL L n) L v := by
  rw [pow_add]
  unfold CatL
  constructor
  · rintro ⟨a, b, e, x, y⟩; exact ⟨a, b, e, x, (pow_once b).1 y⟩
  · rintro ⟨a, b, e, x, y⟩; exact ⟨a, b, e, x, (pow_once b).2 y⟩
theorem powL_cat {L : List Nat → Prop} (n m : Nat) (v : List Nat) : CatL (PowL L n) (PowL L m) v ↔ PowL L (n + m) v := (pow_add n m v).symm
theorem rch_pow_congr {w : List Nat} {L M : List Nat → Prop} (h : ∀ p q, RchW w L p q ↔ RchW w M p q) {K : List Nat → Prop} (p q : Nat) : RchW w (CatL K L) p q ↔ RchW w (CatL K M) p q := by
  rw [rch_cat, rch_cat]
  exact ⟨fun ⟨r, a, b⟩ => ⟨r, a, (h r q).1 b⟩, fun ⟨r, a, b⟩ => ⟨r, a, (h r q).2 b⟩⟩
/-- Where twice is the same as once, more times are, too. -/
theorem rch_idem {w : List Nat} {L : List Nat → Prop} (h : ∀ p q, RchW w (CatL L L) p q ↔ RchW w L p q) : ∀ (n p q : Nat), RchW w (PowL L (n + 1)) p q ↔ RchW w L p q
  | 0, p, q => by unfold RchW; rw [pow_once]
  | n + 1, p, q => by
    rw [show RchW w (PowL L (n + 1 + 1)) p q ↔ RchW w (CatL (PowL L (n + 1)) L) p q by unfold RchW; rw [powL_snoc], ← h p q, rch_cat, rch_cat]
    exact ⟨fun ⟨r, a, b⟩ => ⟨r, (rch_idem h n p r).1 a, b⟩, fun ⟨r, a, b⟩ => ⟨r, (rch_idem h n p r).2 a, b⟩⟩
theorem powL_mul {L : List Nat → Prop} (k : Nat) : ∀ (n : Nat) (v : List Nat), PowL (PowL L k) n v ↔ PowL L (k * n) v
  | 0, v => by rw [Nat.mul_zero]; exact Iff.rfl
  | n + 1, v => by
    rw [Nat.mul_succ, Nat.add_comm (k * n) k, pow_add (L := L)]
    show (∃ a b, v = a ++ b ∧ PowL L k a ∧ PowL (PowL L k) n b) ↔ _
    exact ⟨fun ⟨a, b, e, x, y⟩ => ⟨a, b, e, x, (powL_mul k n b).1 y⟩, fun ⟨a, b, e, x, y⟩ => ⟨a, b, e, x, (powL_mul k n b).2 y⟩⟩
/-- The doubling's early end: what is made, once more r, is what is made, n times more r. -/
theorem rpW_early {w : List Nat} {r d : Nat → Nat → Nat} {L : List Nat → Prop} {a k n : Nat} (h : RpW w r (PowL L k)) (hd : RpW w d (CatL (PowL L k) (PowL L k))) (e : ∀ p, p ≤ w.length → ∀ q, q < 256 → hasB (d p) q = hasB (r p) q) (hw : w.length < 256) {x : Nat → Nat → Nat} (hx : RpW w x (CatL (PowL L a) (PowL L k))) : RpW w x (PowL L (a + k * (n + 1))) := by
  have hid : ∀ p q, RchW w (CatL (PowL L k) (PowL L k)) p q ↔ RchW w (PowL L k) p q := fun p q => by
    by_cases hpq : p ≤ w.length ∧ q < 256
    · rw [← hd p hpq.1 q hpq.2, ← h p hpq.1 q hpq.2, e p hpq.1 q hpq.2]
    · constructor
      · rintro ⟨h1, h2, _⟩; exact absurd ⟨by omega, by omega⟩ hpq
      · rintro ⟨h1, h2, _⟩; exact absurd ⟨by omega, by omega⟩ hpq
  refine rpW_iff hx fun p q _ => ?_
  rw [show RchW w (PowL L (a + k * (n + 1))) p q ↔ RchW w (CatL (PowL L a) (PowL L (k * (n + 1)))) p q by unfold RchW; rw [powL_cat]]
  refine (rch_pow_congr (fun p q => ?_) p q).symm
  rw [← rch_idem hid n p q]
  unfold RchW
  rw [powL_mul]
/-- Once or not at all. -/
def OrE (L : List Nat → Prop) (v : List Nat) : Prop := v = [] ∨ L v
theorem pow_orE {L : List Nat → Prop} : ∀ (n : Nat) (v : List Nat), PowL (OrE L) n v ↔ ∃ k, k ≤ n ∧ PowL L k v
  | 0, v => ⟨fun h => ⟨0, Nat.le_refl _, h⟩, fun ⟨k, hk, h⟩ => by rw [show k = 0 by omega] at h; exact h⟩
  | n + 1, v => by
    rw [PowL]
    constructor
    · rintro ⟨a, b, e, x, y⟩
      obtain ⟨k, hk, hb⟩ := (pow_orE n b).1 y
      rcases x with rfl | x
      · exact ⟨k, by omega, by rw [e]; exact hb⟩
      · exact ⟨k + 1, by omega, a, b, e, x, hb⟩
    · rintro ⟨k, hk, h⟩
      cases k with
      | zero => exact ⟨[], v, rfl, .inl rfl, (pow_orE n v).2 ⟨0, Nat.zero_le _, h⟩⟩
      | succ k =>
        obtain ⟨a, b, e, x, y⟩ := h
        exact ⟨a, b, e, .inr x, (pow_orE n b).2 ⟨k, by omega, y⟩⟩
/-- Times that take no byte may go. -/
theorem pow_short {L : List Nat → Prop} : ∀ (n : Nat) (v : List Nat), PowL L n v → ∃ k, k ≤ v.length ∧ k ≤ n ∧ PowL L k v
  | 0, v, h => ⟨0, Nat.zero_le _, Nat.le_refl _, h⟩
  | n + 1, v, ⟨a, b, e, x, y⟩ => by
    obtain ⟨k, h1, h2, h3⟩ := pow_short n b y
    cases a with
    | nil => exact ⟨k, by rw [e]; exact h1, by omega, by rw [e]; exact h3⟩
    | cons c a =>
      refine ⟨k + 1, ?_, by omega, c :: a, b, e, x, h3⟩
      rw [e, List.length_append, List.length_cons]
      omega
/-- Lo to hi times: lo times, and some more. -/
theorem rch_rep {w : List Nat} {L : List Nat → Prop} {lo : Nat} {hi : Int} {more : Nat} (h0 : hi = -1 → more = w.length) (h1 : hi ≠ -1 → (more : Int) = hi - lo) (_ : hi = -1 ∨ (lo : Int) ≤ hi) (p q : Nat) :
    RchW w (CatL (PowL L lo) (PowL (OrE L) more)) p q ↔ RchW w (fun v => ∃ n : Nat, (lo : Int) ≤ n ∧ (hi < 0 ∨ (n : Int) ≤ hi) ∧ PowL L n v) p q := by
  constructor
  · rintro ⟨h2, h3, a, b, e, x, y⟩
    obtain ⟨k, hk, hb⟩ := (pow_orE more b).1 y
    refine ⟨h2, h3, lo + k, by omega, ?_, (pow_add _ _ _).2 ⟨a, b, e, x, hb⟩⟩
    by_cases hh : hi = -1
    · exact .inl (by omega)
    · exact .inr (by have := h1 hh; omega)
  · rintro ⟨h2, h3, n, h4, h5, h6⟩
    refine ⟨h2, h3, ?_⟩
    obtain ⟨d, rfl⟩ : ∃ d, n = lo + d := ⟨n - lo, by omega⟩
    obtain ⟨a, b, e, x, y⟩ := (pow_add _ _ _).1 h6
    refine ⟨a, b, e, x, (pow_orE more b).2 ?_⟩
    by_cases hh : hi = -1
    · obtain ⟨k, k1, _, k3⟩ := pow_short d b y
      refine ⟨k, ?_, k3⟩
      rw [h0 hh]
      have := fac_len (p := p) h3
      rw [e, List.length_append] at this
      omega
    · exact ⟨d, by have := h1 hh; omega, y⟩
/-- A word from its beginning to its end. -/
theorem rch_whole {w : List Nat} {L : List Nat → Prop} : RchW w L 0 w.length ↔ L w := by
  unfold RchW facW
  simp
/-- A place put into a row. -/
def putR (C : Nat → Nat) (q i : Nat) : Nat := if i = q / 64 then C i ||| 2 ^ (q % 64) else C i
theorem hasB_putR (C : Nat → Nat) (q x : Nat) : hasB (putR C q) x = (hasB C x || decide (x = q)) := by
  unfold hasB putR
  by_cases h : x / 64 = q / 64
  · rw [if_pos h, Nat.testBit_or, Nat.testBit_two_pow]
    congr 1
    have : (q % 64 = x % 64) ↔ (x = q) := by omega
    by_cases h2 : x = q
    · rw [decide_eq_true h2, decide_eq_true (this.2 h2)]
    · rw [decide_eq_false h2, decide_eq_false (fun e => h2 (this.1 e))]
  · rw [if_neg h]
    have : x ≠ q := fun e => h (by rw [e])
    rw [decide_eq_false this, Bool.or_false]
/-- The places of a row, rising. -/
def bits4 (C : Nat → Nat) (n : Nat) : List Nat := (List.range n).flatMap fun i => (bitsL (C i)).map fun k => 64 * i + k
theorem mem_bits4 {C : Nat → Nat} {n x : Nat} : x ∈ bits4 C n ↔ x < 64 * n ∧ hasB C x = true := by
  unfold bits4 hasB
  rw [List.mem_flatMap]
  constructor
  · rintro ⟨i, hi, hx⟩
    obtain ⟨k, hk, rfl⟩ := List.mem_map.1 hx
    rw [List.mem_range] at hi
    obtain ⟨h1, h2⟩ := mem_bits.1 hk
    rw [show (64 * i + k) / 64 = i by omega, show (64 * i + k) % 64 = k by omega]
    exact ⟨by omega, h2⟩
  · rintro ⟨h1, h2⟩
    refine ⟨x / 64, List.mem_range.2 (by omega), List.mem_map.2 ⟨x % 64, mem_bits.2 ⟨by omega, h2⟩, by omega⟩⟩
theorem bits4_succ (C : Nat → Nat) (n : Nat) : bits4 C (n + 1) = bits4 C n ++ (bitsL (C n)).map fun k => 64 * n + k := by
  unfold bits4
  rw [List.range_succ, List.flatMap_append, List.flatMap_cons, List.flatMap_nil, List.append_nil]

end Go.Proofs.YtdjddmkmcdfmiaaDoor
