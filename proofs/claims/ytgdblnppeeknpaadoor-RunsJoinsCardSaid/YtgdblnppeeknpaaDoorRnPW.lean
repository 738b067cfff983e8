/- The walk of the statement RunsPacks: called with a word it returns true and changes nothing that was there.
   Conditions: the word lies in memory; what awake and the functions of runs answer, as the document has it. -/
import Derived.Test.YtgdblnppeeknpaaDoorRnTW
import Derived.Laws.BytesArg
namespace Go.Proofs.YtgdblnppeeknpaaDoor
open Go.RowKit

/-- The text of a word. -/
def strW (wd : List Nat) : ByteArray := if wd = [] then ByteArray.empty else strOfNums (wd.map fun (x : Nat) => (x : Int))
theorem conv_byt {W : World} {v : Value} {wd : List Nat} (h : BytW W v wd) : (convert 22 9 v).run Tryd.prog W = .ok (.string (strW wd)) W := by
  obtain ⟨A, c, rfl, hr⟩ := h
  unfold strW
  cases wd with
  | nil =>
    rw [if_pos rfl]
    show (convert 22 9 (.slice A 0 c)).run Tryd.prog W = _
    rw [run_convert_bytes_string W 22 9 5 _ 0 c Tryd.underlying22 Tryd.underlying5 Tryd.underlying9]
    cases A <;> simp [Conv.bytesToString, loadCells]
    all_goals rfl
  | cons y l =>
    obtain ⟨_, g, o, rfl, hg, _⟩ := hr 0 y rfl
    rw [if_neg (by simp)]
    refine run_convert_bytes_arg W 22 5 Tryd.underlying22 Tryd.underlying5 g o (y :: l).length c _ (by simp) (fun i hi => ?_) 9 Tryd.underlying9
    obtain ⟨_, g', o', hA', _, hc⟩ := hr i ((y :: l)[i]) (List.getElem?_eq_getElem hi)
    simp only [Option.some.injEq, Addr.mk.injEq, and_true] at hA'
    obtain ⟨rfl, rfl⟩ := hA'
    rw [hc, List.getD_eq_getElem?_getD, List.getElem?_map, List.getElem?_eq_getElem hi]
    rfl
theorem BytW.below {w w' : World} {v : Value} {l : List Nat} (h : BytW w v l) (hb : Below w.heap.size w w') : BytW w' v l := by
  obtain ⟨A, c, hv, hr⟩ := h
  refine ⟨A, c, hv, fun i x hi => ?_⟩
  obtain ⟨hx, g, o, h1, h2, h3⟩ := hr i x hi
  exact ⟨hx, g, o, h1, Nat.lt_of_lt_of_le h2 hb.size, (hb.cell (p := ⟨g, o + i, none⟩) h2).trans h3⟩
/-- What Pack answers: ErrLimit, or the runs. -/
def PkO (wd : List Nat) (w : World) (e : Ending) (w' : World) : Prop :=
  ∃ u c, e = .returned (.tuple #[u, .int .i64 c]) ∧ Below w.heap.size w w' ∧ (200 < (packL wd).length → c = 3 ∧ ∃ A p, u = .slice A 0 p) ∧ ((packL wd).length ≤ 200 → c = 0 ∧ RunsR w' (fun _ => True) u (packL wd))
/-- What is packed is formed, and has as many bytes. -/
theorem fm_pack {wd : List Nat} (h : (packL wd).length ≤ 200) (hl : wd.length ≤ 1000) : fmO (packL wd) = true ∧ fmN (packL wd) = (wd.length : Int) ∧ unpL (packL wd) = wd := by
  obtain ⟨h1, h2⟩ := unp_pack wd
  have hs := unp_len h2
  rw [h1] at hs
  have := fm_apart (l := packL wd) (n := 0) (p := none) (by omega) (by omega) (pack_apart wd) h2 (by
    cases hp : packL wd with
    | nil => exact .inr rfl
    | cons q l => exact .inl (by simp))
  have hb : fmB (packL wd) = some (wd.length : Int) := by
    unfold fmB
    rw [if_neg (by omega), this, ← hs, Int.zero_add]
  refine ⟨?_, ?_, h1⟩
  · rw [fmO, hb]; rfl
  · rw [fmN, hb]; rfl
set_option maxHeartbeats 8000000 in
set_option maxRecDepth 100000 in
theorem packs12_walk (w : World) (v : Value) (wd : List Nat) (h : BytW w v wd)
    (hA : ∀ W, Below w.heap.size w W → Calls Tryd.prog 6 #[] W fun e W' => e = .returned (.bool true) ∧ Below W.heap.size W W')
    (hP : ∀ W, Below w.heap.size w W → wd.length ≤ 1000 → Calls Tryd.prog 7 #[v] W (PkO wd W))
    (hF : ∀ W u, Below w.heap.size w W → RunsR W (fun _ => True) u (packL wd) → Calls Tryd.prog 11 #[u] W fun e W' => e = .returned (.bool (fmO (packL wd))) ∧ Below W.heap.size W W')
    (hS : ∀ W u, Below w.heap.size w W → RunsR W (fun _ => True) u (packL wd) → Calls Tryd.prog 12 #[u] W fun e W' => e = .returned (.int .i64 (fmN (packL wd))) ∧ Below W.heap.size W W')
    (hU : ∀ W u (k : Int), Below w.heap.size w W → RunsR W (fun _ => True) u (packL wd) → k ≤ 1000 → Calls Tryd.prog 9 #[u, .int .i64 k] W (UnO (packL wd) k W)) :
    Calls Tryd.prog 3 #[v] w fun e w' => e = .returned (.bool true) ∧ Below w.heap.size w w' := by
  have HR := Lib.hid (fun (W : World) (hb : Below w.heap.size w W) => h.below hb)
  obtain ⟨A, c, rfl, _⟩ := h
  obtain ⟨ln, hln⟩ : ∃ n, n = wd.length := ⟨_, rfl⟩
  have HLN := Lib.hid hln
  rw [← hln] at HR hP ⊢
  have HA := Lib.hid hA
  have HP := Lib.hid hP
  have HF := Lib.hid hF
  have HS := Lib.hid hS
  have HU := Lib.hid hU
  clear hA hP hF hS hU hln
  go_enter Tryd.func3, Tryd.ntmps3
  go_wp2_with fail
  go_at_call 6
  refine (HA.out _ (Below.refl _ _)).mono ?_
  rintro e w1 ⟨rfl, hb1⟩
  have HB1 := Lib.hid hb1
  clear hb1
  by_cases hbig : 1000 < ln
  · have g1 : (1000 : Int) < (ln : Int) := by omega
    go_wp2_with fail
    go_at_call 6
    refine (HA.out _ HB1.out).mono ?_
    rintro e w2 ⟨rfl, hb2⟩
    have HB2 := Lib.hid (bhop HB1.out hb2)
    go_wp2_with fail
    go_ret
    exact ⟨rfl, HB2.out⟩
  · have g1 : ¬ (1000 : Int) < (ln : Int) := by omega
    go_wp2_with fail
    go_at_call 7
    refine (HP.out _ HB1.out (by omega)).mono ?_
    rintro e w2 ⟨u, cd, rfl, hb2, hu1, hu2⟩
    have HB2 := Lib.hid (bhop HB1.out hb2)
    have HU12 := Lib.hid (And.intro hu1 hu2)
    clear hb2 hu1 hu2
    go_wp2_with fail
    go_at_call 8
    refine (packR12_any w2 _ wd (HR.out _ HB2.out) (by have := HLN.out; omega)).mono ?_
    rintro e w3 ⟨u3, rfl, hown, hb3⟩
    have HB3 := Lib.hid (bhop HB2.out hb3)
    have HO3 := Lib.hid (And.intro hown.row hb3)
    obtain ⟨A3, c3, rfl⟩ := own_formR hown
    obtain ⟨pn, hpn⟩ : ∃ n, n = (packL wd).length := ⟨_, rfl⟩
    rw [← hpn] at HO3 HU12 ⊢
    have HPN := Lib.hid hpn
    clear hown hb3 hpn
    by_cases h200 : 200 < pn
    · have g2 : (200 : Int) < (pn : Int) := by omega
      obtain ⟨rfl, uA, uc, rfl⟩ := HU12.out.1 h200
      go_wp2_with fail
      go_ret
      exact ⟨rfl, HB3.out⟩
    · have g2 : ¬ (200 : Int) < (pn : Int) := by omega
      obtain ⟨rfl, hrun⟩ := HU12.out.2 (by omega)
      obtain ⟨f1, f2, f3⟩ := fm_pack (wd := wd) (by have := HPN.out; omega) (by have := HLN.out; omega)
      have HRun := Lib.hid (fun (W : World) (hb : Below w2.heap.size w2 W) => hrun.below hb)
      have HFm := Lib.hid (And.intro f1 (And.intro f2 f3))
      obtain ⟨uA, uc, rfl, _⟩ := hrun
      rw [← HPN.out] at HRun ⊢
      have wl : IntKind.i64.wrap ((ln : Int) - 1) = (ln : Int) - 1 := by rw [IntKind.wrap_i64]; omega
      clear f1 f2 f3 HU12
      go_wp2_with fail
      go_at_call 9
      refine (HU.out _ _ (ln : Int) HB3.out (HRun.out _ HO3.out.2) (by omega)).mono ?_
      rintro e w4 ⟨u4, c4, rfl, hb4, _, _, hu4⟩
      obtain ⟨rfl, hby4⟩ := hu4 HFm.out.1 (by rw [HFm.out.2.1, HLN.out]; exact Int.le_refl _)
      rw [HFm.out.2.2] at hby4
      have HB4 := Lib.hid (bhop HO3.out.2 hb4)
      have HC4 := Lib.hid hb4
      have HBy := Lib.hid hby4
      clear hb4 hu4 hby4
      go_wp2_with fail
      go_at_call 9
      refine (HU.out _ _ ((ln : Int) - 1) (bhop HB2.out HB4.out) (HRun.out _ HB4.out) (by omega)).mono ?_
      rintro e w5 ⟨u5, c5, rfl, hb5, _, hu5, _⟩
      obtain ⟨rfl, u5A, u5c, rfl⟩ := hu5 HFm.out.1 (by rw [HFm.out.2.1]; have := HLN.out; omega)
      have HB5 := Lib.hid (bhop HB4.out hb5)
      have HC5 := Lib.hid (bhop HC4.out hb5)
      have HBy5 := Lib.hid (HBy.out.below hb5)
      clear hb5 hu5
      go_wp2_with fail
      go_at_call 10
      refine (sameR12_any w5 _ _ _ _ (packL wd) (packL wd) (HRun.out _ HB5.out) (HO3.out.1.below HC5.out) (by have := HPN.out; omega)).mono ?_
      rintro e w6 ⟨rfl, hb6⟩
      rw [decide_eq_true (rfl : packL wd = packL wd)]
      have HB6 := Lib.hid (bhop HB5.out hb6)
      have HBy6 := Lib.hid (HBy5.out.below hb6)
      clear hb6
      go_wp2_with fail
      go_at_call 11
      refine (HF.out _ _ (bhop HB2.out HB6.out) (HRun.out _ HB6.out)).mono ?_
      rintro e w7 ⟨rfl, hb7⟩
      rw [HFm.out.1]
      have HB7 := Lib.hid (bhop HB6.out hb7)
      have HBy7 := Lib.hid (HBy6.out.below hb7)
      clear hb7
      go_wp2_with fail
      go_at_call 12
      refine (HS.out _ _ (bhop HB2.out HB7.out) (HRun.out _ HB7.out)).mono ?_
      rintro e w8 ⟨rfl, hb8⟩
      rw [HFm.out.2.1, ← HLN.out]
      have HB8 := Lib.hid (bhop HB7.out hb8)
      have hcv1 := conv_byt (HBy7.out.below hb8)
      have hcv2 := conv_byt (HR.out _ (bhop HB2.out HB8.out))
      clear hb8
      go_wp2_with fail
      go_ret
      exact ⟨rfl, bhop HB2.out HB8.out⟩

end Go.Proofs.YtgdblnppeeknpaaDoor
