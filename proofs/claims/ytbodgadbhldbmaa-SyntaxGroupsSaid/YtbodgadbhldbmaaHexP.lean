/- What reading two digits of a byte comes to, alone and in a class: no program is spoken of here.
   No conditions but those that each theorem states. -/
import Derived.Test.YtbodgadbhldbmaaBnd
namespace Go.Proofs.Ytbodgadbhldbmaa

def hx (k : Nat) : Nat := hexDigits.getD k 0
def esc2 (n : Nat) : List Nat := [92, 120, hx (n / 16), hx (n % 16)]
theorem hx_ok : ∀ k, k < 16 → hx k ∈ hexDigits ∧ hexOf (hx k) = k := by decide
theorem pplain_hex {but : List Nat} (hb : ¬ 92 ∈ but) {n : Nat} (hn : n < 256) (r : List Nat) : pplain but (esc2 n ++ r) = .ok n r := by
  obtain ⟨a1, a2⟩ := hx_ok (n / 16) (by omega)
  obtain ⟨b1, b2⟩ := hx_ok (n % 16) (by omega)
  show pplain but (92 :: 120 :: hx (n / 16) :: hx (n % 16) :: r) = _
  simp only [pplain, if_neg hb, pesc, if_pos, phex, if_pos a1, if_pos b1, a2, b2]
  congr 1
  omega
theorem pset_hex {n : Nat} (hn : n < 256) (r : List Nat) : pset (esc2 n ++ r) = .ok (between n n) r := by
  have h := pplain_hex (but := marks) (by decide) hn r
  show pset (92 :: (120 :: hx (n / 16) :: hx (n % 16) :: r)) = _
  rw [pset_plain (by decide) (by decide)]
  have h' : pplain marks (92 :: (120 :: hx (n / 16) :: hx (n % 16) :: r)) = .ok n r := h
  rw [h']
theorem or_false_left (S : Nat → Bool) : (fun x => false || S x) = S := by funext x; simp
theorem pset_cls {n : Nat} (hn : n < 256) : pset (91 :: (esc2 n ++ [93])) = .ok (between n n) [] := by
  have h := pplain_hex (but := itemMarks) (by decide) hn [93]
  have hp := pitem_one h (by simp)
  show pitems true (fun _ => false) (esc2 n ++ [93]) = _
  rw [pitems_more (by simp), hp]
  simp only
  rw [pitems_end, or_false_left]
theorem pset_two {n m : Nat} (hn : n < 256) (hm : m < 256) : pset (91 :: (esc2 n ++ 45 :: (esc2 m ++ [93]))) = if m < n then .er (45 :: (esc2 m ++ [93])) 2 else .ok (between n m) [] := by
  have h := pplain_hex (but := itemMarks) (by decide) hn (45 :: (esc2 m ++ [93]))
  have h2 := pplain_hex (but := itemMarks) (by decide) hm [93]
  have hp := pitem_two h
  rw [h2] at hp
  simp only at hp
  show pitems true (fun _ => false) (esc2 n ++ 45 :: (esc2 m ++ [93])) = _
  rw [pitems_more (by simp), hp]
  by_cases hl : m < n
  · rw [if_pos hl, if_pos hl]
  · rw [if_neg hl, if_neg hl]
    simp only
    rw [pitems_end, or_false_left]
theorem pstep_set {g : G} {frs : List G} {b : Nat} {r : List Nat} (h1 : b = 91 ∨ b = 92) : pstep g frs (b :: r) = match pset (b :: r) with
    | .er r' c => .er r' c
    | .ok S r' => .ok (⟨g.rows, g.row ++ [atomT S]⟩, frs) r' := by
  rcases h1 with rfl | rfl <;> simp [pstep] <;> rfl
theorem parse_atom {b : Nat} {r : List Nat} {S : Nat → Bool} (h1 : b = 91 ∨ b = 92) (hL : ¬ 400 < (b :: r).length) (h : pset (b :: r) = .ok S []) : pparse (b :: r) = (atomT S, 0, 0) := by
  rw [pparse_ok hL (r := []) (t := atomT S) (by
    rw [prun_cons, pstep_set h1, h]
    simp only
    rw [prun_nil]
    rfl), if_neg (by simp [dptT, dptsT, plcT, plcsT, atomT])]
theorem parse_hex {n : Nat} (hn : n < 256) : pparse (esc2 n) = (atomT (between n n), 0, 0) := by
  have h := pset_hex hn []
  rw [List.append_nil] at h
  exact parse_atom (.inr rfl) (by simp) h
theorem parse_cls {n : Nat} (hn : n < 256) : pparse (91 :: (esc2 n ++ [93])) = (atomT (between n n), 0, 0) :=
  parse_atom (.inl rfl) (by simp [esc2]) (pset_cls hn)
theorem parse_rng {n m : Nat} (hn : n < 256) (hm : m < 256) : pparse (91 :: (esc2 n ++ 45 :: (esc2 m ++ [93]))) = if m < n then (zeroT, 5, 2) else (atomT (between n m), 0, 0) := by
  have h := pset_two hn hm
  by_cases hl : m < n
  · rw [if_pos hl] at h ⊢
    rw [pparse_er (by simp [esc2]) (r := 45 :: (esc2 m ++ [93])) (c := 2) (by rw [prun_cons, pstep_set (.inl rfl), h])]
    simp [esc2]
  · rw [if_neg hl] at h ⊢
    exact parse_atom (.inl rfl) (by simp [esc2]) h

theorem canon_own (n : Nat) : canon (between n n) (n / 64) = 2 ^ (n % 64) := by
  refine word_eq ((Cl_canon _).lt _) (Nat.pow_lt_pow_right (by omega) (by omega)) fun j hj => ?_
  have h := wordOf_bit (between n n) (n / 64) j 64
  rw [show canon (between n n) (n / 64) = wordOf (between n n) (n / 64) 64 from rfl, h, Nat.testBit_two_pow]
  simp only [between]
  by_cases e : n % 64 = j
  · simp [e]; omega
  · simp [e]; omega
theorem canon_bit (S : Nat → Bool) (b : Nat) : S b = decide (canon S (b / 64) / 2 ^ (b % 64) % 2 = 1) := by
  rw [← hasB_div, hasB_canon]
end Go.Proofs.Ytbodgadbhldbmaa
