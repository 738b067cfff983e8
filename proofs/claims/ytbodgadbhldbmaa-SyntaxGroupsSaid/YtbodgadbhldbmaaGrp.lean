/- What a text in brackets comes to: alone, twice with a bar between, and repeated. No program is spoken of here.
   No conditions but those that each theorem states. -/
import Derived.Test.YtbodgadbhldbmaaExt
import Derived.Test.YtbodgadbhldbmaaBnd
namespace Go.Proofs.Ytbodgadbhldbmaa

theorem pparse_good {L : List Nat} (h : (pparse L).2.2 = 0) : ∃ t r, prun ⟨[], []⟩ [] L = .ok t r ∧ pparse L = (t, 0, 0) ∧ dptT t ≤ 20 ∧ plcT t ≤ 40 ∧ L.length ≤ 400 := by
  by_cases hL : 400 < L.length
  · rw [pparse_long hL] at h; cases h
  · cases hp : prun ⟨[], []⟩ [] L with
    | er r c =>
      rw [pparse_er hL hp] at h
      have := prun_er_code _ (Nat.le_refl _) hp
      simp only at h
      omega
    | ok t r =>
      rw [pparse_ok hL hp] at h
      by_cases hb : 20 < dptT t ∨ 40 < plcT t
      · rw [if_pos hb] at h; cases h
      · exact ⟨t, r, rfl, by rw [pparse_ok hL hp, if_neg hb], by omega, by omega, by omega⟩
theorem run_paren {L r s : List Nat} {t : T} {B : List G} {p : G} (h : prun ⟨[], []⟩ [] L = .ok t r) : prun p B (40 :: (L ++ 41 :: s)) = prun ⟨p.rows, p.row ++ [t]⟩ B s := by
  rw [prun_cons]
  simp only [pstep, if_pos]
  exact prun_ext (frs := []) _ (Nat.le_refl _) h
theorem parse_paren {L r : List Nat} {t : T} (h : prun ⟨[], []⟩ [] L = .ok t r) (h2 : dptT t ≤ 20) (h3 : plcT t ≤ 40) (hL : L.length ≤ 190) : pparse (40 :: (L ++ [41])) = (t, 0, 0) := by
  rw [pparse_ok (by simp; omega) (t := t) (r := []) (by rw [run_paren h, prun_nil]; rfl), if_neg (by omega)]
def altT (t : T) : T := .node 3 zeros 0 0 [t, t]
theorem parse_alt {L r : List Nat} {t : T} (h : prun ⟨[], []⟩ [] L = .ok t r) (hL : L.length ≤ 190) : pparse (40 :: (L ++ 41 :: 124 :: 40 :: (L ++ [41]))) = if 20 < dptT (altT t) ∨ 40 < plcT (altT t) then (zeroT, 0, 3) else (altT t, 0, 0) :=
  pparse_ok (by simp; omega) (t := altT t) (r := []) (by
    rw [run_paren h, prun_cons, pstep_bar]
    simp only
    rw [run_paren h, prun_nil]
    rfl)
theorem parse_rep {L r : List Nat} {t : T} {lo hi : Nat} (h : prun ⟨[], []⟩ [] L = .ok t r) (hL : L.length ≤ 190) (hl : lo ≤ hi) (hh : hi ≤ 1000) : pparse (40 :: (L ++ 41 :: 123 :: (decs lo ++ 44 :: (decs hi ++ [125])))) = if 20 < dptT (repT ((lo : Int), (hi : Int)) t) ∨ 40 < plcT (repT ((lo : Int), (hi : Int)) t) then (zeroT, 0, 3) else (repT ((lo : Int), (hi : Int)) t, 0, 0) := by
  have d1 := decs_twenty (n := lo) (by omega)
  have d2 := decs_twenty (n := hi) (by omega)
  obtain ⟨c, u, e, hc⟩ := decs_cons hi
  have hhd : (decs hi ++ [125]).head? ≠ some 125 := by rw [e]; simp; omega
  have hp : pupper lo (44 :: (decs hi ++ [125])) = .ok (hi : Int) [125] := by
    rw [pupper_num lo hhd, pnumber_dec (by omega) (by omega)]
  have hb : pbounds (123 :: (decs lo ++ 44 :: (decs hi ++ [125]))) (decs lo ++ 44 :: (decs hi ++ [125])) = .ok ((lo : Int), (hi : Int)) [] := by
    simp only [pbounds]
    rw [pnumber_dec (by omega) (by omega)]
    simp only
    rw [hp]
    simp only
    rw [if_neg (by omega)]
  exact pparse_ok (by simp; omega) (t := repT ((lo : Int), (hi : Int)) t) (r := []) (by
    rw [run_paren h, prun_cons]
    simp [pstep, ptimes]
    rw [hb]
    simp only
    rw [prun_nil]
    rfl)
end Go.Proofs.Ytbodgadbhldbmaa
