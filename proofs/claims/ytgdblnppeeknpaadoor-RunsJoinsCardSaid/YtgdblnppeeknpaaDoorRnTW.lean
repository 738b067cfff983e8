/- The walk of the statement RunsTells: called with a word in runs and a number it returns true and changes nothing that was there.
   Conditions: the word lies in memory; what awake and the functions of runs answer, as the document has it. -/
import Derived.Test.YtgdblnppeeknpaaDoorRnF
import Derived.Test.YtgdblnppeeknpaaDoorRnS
import Derived.Test.YtgdblnppeeknpaaDoorRnX
import Derived.Test.YtgdblnppeeknpaaDoorRnK
import Derived.Test.YtgdblnppeeknpaaDoorRnO
namespace Go.Proofs.YtgdblnppeeknpaaDoor
open Go.RowKit

/-- What Unpack answers: ErrArg, ErrLimit, or the word. -/
def UnO (l : List Rn) (k : Int) (w : World) (e : Ending) (w' : World) : Prop :=
  ∃ u c, e = .returned (.tuple #[u, .int .i64 c]) ∧ Below w.heap.size w w' ∧ (fmO l = false → c = 1 ∧ ∃ A p, u = .slice A 0 p) ∧ (fmO l = true → k < fmN l → c = 3 ∧ ∃ A p, u = .slice A 0 p) ∧ (fmO l = true → fmN l ≤ k → c = 0 ∧ BytW w' u (unpL l))
theorem fm_yes {l : List Rn} (h : fmO l = true) : 0 ≤ fmN l ∧ fmN l = smL l ∧ Apart l ∧ ∀ q ∈ l, 1 ≤ q.2 ∧ q.2 ≤ 4611686018427387904 := by
  obtain ⟨n, hn⟩ := Option.isSome_iff_exists.1 h
  have e : fmN l = n := by show (fmB l).getD 0 = n; rw [hn]; rfl
  rw [e]
  unfold fmB at hn
  split at hn
  · cases hn
  · obtain ⟨h1, _, h2, h3⟩ := fmL_range (Int.le_refl 0) (by decide) hn
    exact ⟨h1, by omega, (fm_conv hn).1, h3⟩
theorem fm_zero {l : List Rn} (h : fmO l = false) : fmN l = 0 := by
  have : fmB l = none := by
    cases hb : fmB l with
    | none => rfl
    | some n => rw [fmO, hb] at h; cases h
  show (fmB l).getD 0 = 0
  rw [this]
  rfl
theorem txt_void {s : ByteArray} (h : txt s = []) : s = ({ data := #[] } : ByteArray) := txt_inj (h.trans rfl)
set_option maxHeartbeats 8000000 in
set_option maxRecDepth 100000 in
theorem tells12_walk (w : World) (v : Value) (l : List Rn) (k : Nat) (hk : k < 256) (h : RunsR w (fun _ => True) v l) (hok : RnOk l)
    (hA : ∀ W, Below w.heap.size w W → Calls Tryd.prog 6 #[] W fun e W' => e = .returned (.bool true) ∧ Below W.heap.size W W')
    (hF : ∀ W, Below w.heap.size w W → Calls Tryd.prog 11 #[v] W fun e W' => e = .returned (.bool (fmO l)) ∧ Below W.heap.size W W')
    (hS : ∀ W, Below w.heap.size w W → Calls Tryd.prog 12 #[v] W fun e W' => e = .returned (.int .i64 (fmN l)) ∧ Below W.heap.size W W')
    (hT : ∀ W, Below w.heap.size w W → Calls Tryd.prog 14 #[v] W (Wrote (if fmO l = true then txF l else []) W))
    (hU : ∀ W, Below w.heap.size w W → Calls Tryd.prog 9 #[v, .int .i64 (k : Nat)] W (UnO l k W)) :
    Calls Tryd.prog 4 #[v, .int .u8 (k : Nat)] w fun e w' => e = .returned (.bool true) ∧ Below w.heap.size w w' := by
  have HR := Lib.hid (fun (W : World) (hb : Below w.heap.size w W) => h.below hb)
  obtain ⟨A, c, rfl, _⟩ := h
  obtain ⟨ln, hln⟩ : ∃ n, n = l.length := ⟨_, rfl⟩
  have HLN := Lib.hid (And.intro hln hok)
  rw [← hln] at HR hF hS hT hU ⊢
  have HA := Lib.hid hA
  have HF := Lib.hid hF
  have HS := Lib.hid hS
  have HT := Lib.hid hT
  have HU := Lib.hid hU
  clear hA hF hS hT hU hln hok
  have wk : IntKind.i64.wrap ((k : Nat) : Int) = (k : Int) := by rw [IntKind.wrap_i64]; omega
  go_enter Tryd.func4, Tryd.ntmps4
  go_wp2_with fail
  go_at_call 6
  refine (HA.out _ (Below.refl _ _)).mono ?_
  rintro e w1 ⟨rfl, hb1⟩
  have HB1 := Lib.hid hb1
  clear hb1
  by_cases hbig : 300 < ln
  · have g1 : (300 : Int) < (ln : Int) := by omega
    go_wp2_with fail
    go_at_call 6
    refine (HA.out _ HB1.out).mono ?_
    rintro e w2 ⟨rfl, hb2⟩
    have HB2 := Lib.hid (bhop HB1.out hb2)
    go_wp2_with fail
    go_ret
    exact ⟨rfl, HB2.out⟩
  · have g1 : ¬ (300 : Int) < (ln : Int) := by omega
    go_wp2_with fail
    go_at_call 13
    refine (formedR12_any w1 _ _ l (HR.out _ HB1.out) (by have := HLN.out.1; omega)).mono ?_
    rintro e w2 ⟨rfl, hb2⟩
    have HB2 := Lib.hid (bhop HB1.out hb2)
    clear hb2
    go_wp2_with fail
    go_at_call 9
    refine (HU.out _ HB2.out).mono ?_
    rintro e w3 ⟨u, cd, rfl, hb3, hu1, hu2, hu3⟩
    have HB3 := Lib.hid (bhop HB2.out hb3)
    clear hb3
    cases hfo : fmO l with
    | false =>
      obtain ⟨rfl, uA, uc, rfl⟩ := hu1 hfo
      have hz := fm_zero hfo
      have HFO := Lib.hid hfo
      rw [hz]
      clear hu1 hu2 hu3
      rw [hfo] at HF
      rw [hz] at HS
      simp only [hfo, Bool.false_eq_true, if_false] at HT
      clear hz hfo
      go_wp2_with fail
      go_at_call 11
      refine (HF.out _ HB3.out).mono ?_
      rintro e w4 ⟨rfl, hb4⟩
      have HB4 := Lib.hid (bhop HB3.out hb4)
      clear hb4
      go_wp2_with fail
      go_at_call 12
      refine (HS.out _ HB4.out).mono ?_
      rintro e w5 ⟨rfl, hb5⟩
      have HB5 := Lib.hid (bhop HB4.out hb5)
      clear hb5
      go_wp2_with fail
      go_at_call 14
      refine (HT.out _ HB5.out).mono ?_
      rintro e w6 ⟨s, hs, rfl, hb6⟩
      obtain rfl := txt_void hs
      have HB6 := Lib.hid (bhop HB5.out hb6)
      clear hb6 hs
      go_wp2_with fail
      go_ret
      exact ⟨rfl, HB6.out⟩
    | true =>
      obtain ⟨n0, n1, hap, hps⟩ := fm_yes hfo
      have HP := Lib.hid (And.intro n1 (And.intro hap hps))
      obtain ⟨n, hn⟩ : ∃ n, n = fmN l := ⟨_, rfl⟩
      have HN := Lib.hid hn
      rw [hfo] at HF
      simp only [hfo, if_true] at HT
      rw [← hn] at HS hu2 hu3 n0 n1 ⊢
      have HU2 := Lib.hid (And.intro (hu2 hfo) (hu3 hfo))
      clear hu1 hu2 hu3 hap hps hfo hn
      by_cases hkn : (k : Int) < n
      · obtain ⟨rfl, uA, uc, rfl⟩ := HU2.out.1 hkn
        go_wp2_with fail
        go_at_call 11
        refine (HF.out _ HB3.out).mono ?_
        rintro e w4 ⟨rfl, hb4⟩
        have HB4 := Lib.hid (bhop HB3.out hb4)
        clear hb4
        go_wp2_with fail
        go_at_call 12
        refine (HS.out _ HB4.out).mono ?_
        rintro e w5 ⟨rfl, hb5⟩
        have HB5 := Lib.hid (bhop HB4.out hb5)
        clear hb5
        go_wp2_with fail
        go_at_call 14
        refine (HT.out _ HB5.out).mono ?_
        rintro e w6 ⟨s, hs, rfl, hb6⟩
        have HB6 := Lib.hid (And.intro (bhop HB5.out hb6) hs)
        clear hb6 hs
        go_wp2_with fail
        go_at_call 15
        refine (textR12_any w6 _ _ l (HR.out _ HB6.out.1) (fun q hq => ⟨(HLN.out.2 q hq).1, (HP.out.2.2 q hq).1, (HLN.out.2 q hq).2.2⟩) (by have := HLN.out.1; omega)).mono ?_
        rintro e w7 ⟨s', hs', rfl, hb7⟩
        obtain rfl : s = s' := txt_inj (HB6.out.2.trans hs'.symm)
        have HB7 := Lib.hid (bhop HB6.out.1 hb7)
        clear hb7 hs'
        go_wp2_with fail
        go_ret
        exact ⟨rfl, HB7.out⟩
      · obtain ⟨rfl, hby⟩ := HU2.out.2 (by omega)
        have hul : (unpL l).length ≤ 1000000 := by have := unp_len (l := l) fun q hq => (HP.out.2.2 q hq).1; have := HP.out.1; have := HN.out; omega
        go_wp2_with fail
        go_at_call 8
        refine (packR12_any w3 u (unpL l) hby hul).mono ?_
        rintro e w4 ⟨u4, rfl, hown, hb4⟩
        rw [pack_unp HP.out.2.1 fun q hq => (HP.out.2.2 q hq).1] at hown
        have HB4 := Lib.hid (bhop HB3.out hb4)
        have HO := Lib.hid hown.row
        clear hb4 hown hby hul
        go_wp2_with fail
        go_at_call 10
        refine (sameR12_any w4 _ _ u4 _ l l HO.out (HR.out _ HB4.out) (by have := HLN.out.1; omega)).mono ?_
        rintro e w5 ⟨rfl, hb5⟩
        have HB5 := Lib.hid (bhop HB4.out hb5)
        rw [decide_eq_true (rfl : l = l)]
        clear hb5
        go_wp2_with fail
        go_at_call 11
        refine (HF.out _ HB5.out).mono ?_
        rintro e w6 ⟨rfl, hb6⟩
        have HB6 := Lib.hid (bhop HB5.out hb6)
        clear hb6
        go_wp2_with fail
        go_at_call 12
        refine (HS.out _ HB6.out).mono ?_
        rintro e w7 ⟨rfl, hb7⟩
        have HB7 := Lib.hid (bhop HB6.out hb7)
        clear hb7
        go_wp2_with fail
        go_at_call 14
        refine (HT.out _ HB7.out).mono ?_
        rintro e w8 ⟨s, hs, rfl, hb8⟩
        have HB8 := Lib.hid (And.intro (bhop HB7.out hb8) hs)
        clear hb8 hs
        go_wp2_with fail
        go_at_call 15
        refine (textR12_any w8 _ _ l (HR.out _ HB8.out.1) (fun q hq => ⟨(HLN.out.2 q hq).1, (HP.out.2.2 q hq).1, (HLN.out.2 q hq).2.2⟩) (by have := HLN.out.1; omega)).mono ?_
        rintro e w9 ⟨s', hs', rfl, hb9⟩
        obtain rfl : s = s' := txt_inj (HB8.out.2.trans hs'.symm)
        have HB9 := Lib.hid (bhop HB8.out.1 hb9)
        clear hb9 hs'
        go_wp2_with fail
        go_ret
        exact ⟨rfl, HB9.out⟩

end Go.Proofs.YtgdblnppeeknpaaDoor
