/- What reading a byte with bounds behind it comes to: no program is spoken of here.
   No conditions but those that each theorem states. -/
import Derived.Test.YtbodgadbhldbmaaWake
import Derived.Test.YtbodgadbhldbmaaDec
import Derived.Test.YtbodgadbhldbmaaLocal
namespace Go.Proofs.Ytbodgadbhldbmaa

theorem digs_decs (n : Nat) : ∀ t, digs (decs n ++ t) 0 = digs t (min n 2147483648) := by
  induction n using Nat.strongRecOn with
  | ind n ih =>
    intro t
    by_cases h : 9 < n
    · rw [decs_big h, List.append_assoc, ih (n / 10) (by omega), List.singleton_append, digs_dig _ _ (by omega)]
      congr 1
      omega
    · rw [decs_small h, List.singleton_append, digs_dig _ _ (by omega)]
      congr 1
      omega
theorem digs_dec (n : Nat) {b : Nat} {t : List Nat} (hb : ¬ (48 ≤ b ∧ b ≤ 57)) : digs (decs n ++ b :: t) 0 = (min n 2147483648, b :: t) := by
  rw [digs_decs]
  unfold digs
  rw [if_neg hb]
theorem decs_cons (n : Nat) : ∃ b t, decs n = b :: t ∧ 48 ≤ b ∧ b ≤ 57 := by
  induction n using Nat.strongRecOn with
  | ind n ih =>
    by_cases h : 9 < n
    · obtain ⟨b, t, e, h1⟩ := ih (n / 10) (by omega)
      exact ⟨b, t ++ [48 + n % 10], by rw [decs_big h, e]; rfl, h1⟩
    · exact ⟨48 + n, [], decs_small h, by omega⟩
theorem pnumber_dec {n : Nat} {b : Nat} {t : List Nat} (hb : ¬ (48 ≤ b ∧ b ≤ 57)) (h : n ≤ 2147483647) : pnumber (decs n ++ b :: t) = .ok n (b :: t) := by
  obtain ⟨c, u, e, _⟩ := decs_cons n
  refine pnumber_mk (by rw [digs_dec n hb]; congr 1; omega) ?_ h
  rw [e]
  simp
  omega
theorem pnumber_big {n : Nat} {b : Nat} {t : List Nat} (hb : ¬ (48 ≤ b ∧ b ≤ 57)) (h : 2147483647 < n) : pnumber (decs n ++ b :: t) = .er (decs n ++ b :: t) 3 := by
  obtain ⟨c, u, e, _⟩ := decs_cons n
  unfold pnumber
  rw [digs_dec n hb]
  simp only
  rw [if_neg (by rw [e]; simp; omega), if_pos (by omega)]

def bT (lo : Nat) (hi : Int) : T := repT ((lo : Int), hi) (atomT (between 97 97))
theorem run_rep {r : List Nat} : prun ⟨[], []⟩ [] (97 :: 123 :: r) = match pbounds (123 :: r) r with
    | .er r' c => .er r' c
    | .ok t r' => prun ⟨[], [repT t (atomT (between 97 97))]⟩ [] r' := by
  rw [prun_cons, pstep_byte (by decide) (by decide)]
  simp only
  rw [prun_cons]
  simp only [pstep]
  simp [ptimes]
  generalize pbounds (123 :: r) r = o
  cases o with
  | er r' c => rfl
  | ok t r' => rfl
theorem parse_bT {L : List Nat} {lo : Nat} {hi : Int} (hL : ¬ 400 < L.length) (h : prun ⟨[], []⟩ [] L = prun ⟨[], [bT lo hi]⟩ [] []) : pparse L = (bT lo hi, 0, 0) := by
  rw [prun_nil] at h
  rw [pparse_ok hL h, if_neg (by
    simp [shutT, joinT, bT, dptT, dptsT, plcT, plcsT, atomT, repT])]
  rfl

/-- What the text comes to whose bounds are lo and hi, or lo alone. -/
theorem parse_open {lo : Nat} (hn : lo < 4294967296) : pparse (97 :: 123 :: (decs lo ++ [44, 125])) = if 2147483647 < lo then (zeroT, 2, 3) else (bT lo (-1), 0, 0) := by
  have hl := decs_twenty (n := lo) (by omega)
  have hL : ¬ 400 < (97 :: 123 :: (decs lo ++ [44, 125])).length := by simp; omega
  by_cases h : 2147483647 < lo
  · rw [if_pos h, pparse_er hL (r := decs lo ++ [44, 125]) (c := 3) (by
      rw [run_rep]
      simp only [pbounds]
      rw [pnumber_big (by omega) h])]
    simp
  · rw [if_neg h]
    refine parse_bT hL ?_
    rw [run_rep]
    simp only [pbounds]
    rw [pnumber_dec (by omega) (by omega)]
    simp only
    rw [pupper_open]
    simp [bT]
theorem parse_two {lo hi : Nat} (hn : lo < 4294967296) (hn2 : hi < 4294967296) : pparse (97 :: 123 :: (decs lo ++ 44 :: (decs hi ++ [125]))) =
    if 2147483647 < lo then (zeroT, 2, 3) else if 2147483647 < hi then (zeroT, 3 + (decs lo).length, 3) else if hi < lo then (zeroT, 1, 2) else (bT lo hi, 0, 0) := by
  have hl := decs_twenty (n := lo) (by omega)
  have hl2 := decs_twenty (n := hi) (by omega)
  have hL : ¬ 400 < (97 :: 123 :: (decs lo ++ 44 :: (decs hi ++ [125]))).length := by simp; omega
  obtain ⟨c, u, e, hc⟩ := decs_cons hi
  have hhd : (decs hi ++ [125]).head? ≠ some 125 := by rw [e]; simp; omega
  by_cases h : 2147483647 < lo
  · rw [if_pos h, pparse_er hL (r := decs lo ++ 44 :: (decs hi ++ [125])) (c := 3) (by
      rw [run_rep]
      simp only [pbounds]
      rw [pnumber_big (by omega) h])]
    simp
    omega
  · rw [if_neg h]
    by_cases h2 : 2147483647 < hi
    · rw [if_pos h2, pparse_er hL (r := decs hi ++ [125]) (c := 3) (by
        rw [run_rep]
        simp only [pbounds]
        rw [pnumber_dec (by omega) (by omega)]
        simp only
        rw [pupper_num lo hhd, pnumber_big (by omega) h2])]
      simp
      omega
    · rw [if_neg h2]
      have hp : pupper lo (44 :: (decs hi ++ [125])) = .ok (hi : Int) [125] := by
        rw [pupper_num lo hhd, pnumber_dec (by omega) (by omega)]
      by_cases h3 : hi < lo
      · rw [if_pos h3, pparse_er hL (r := 123 :: (decs lo ++ 44 :: (decs hi ++ [125]))) (c := 2) (by
          rw [run_rep]
          simp only [pbounds]
          rw [pnumber_dec (by omega) (by omega)]
          simp only
          rw [hp]
          simp only
          rw [if_pos (by omega)])]
        simp
      · rw [if_neg h3]
        refine parse_bT hL ?_
        rw [run_rep]
        simp only [pbounds]
        rw [pnumber_dec (by omega) (by omega)]
        simp only
        rw [hp]
        simp only
        rw [if_neg (by omega)]
        rfl
end Go.Proofs.Ytbodgadbhldbmaa
