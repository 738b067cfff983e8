/- The walk of the statement SpanSimple: called with a tree and a word it returns true and changes nothing that was there.
   Conditions: the tree and the word lie in memory. -/
import Derived.Test.YtdjddmkmcdfmiaaDoorNN
import Derived.Test.YtdjddmkmcdfmiaaDoorMWk

namespace Go.Proofs.YtdjddmkmcdfmiaaDoor
open Go.RowKit Go.Shelf
attribute [local go_sem] nodeAgg

theorem lgB_congr {a b : T} {wd : List Nat} (h : Lg a wd ↔ Lg b wd) : lgB a wd = lgB b wd := by
  rw [Bool.eq_iff_iff, lgB_iff, lgB_iff]
  exact h
set_option maxHeartbeats 8000000 in
set_option maxRecDepth 100000 in
theorem simple11_walk (t : V) (wd : List Nat) (capw : Nat) (A : Option Addr) (w : World) (R : Nat → Prop) (ht : Laid w R t) (hC : ClN (erase t)) (hW : WrdA w A wd) (hT : TabW w) :
    Calls Tryd.prog 7 #[nodeAgg t, .slice A wd.length capw] w fun e w' => e = .returned (.bool true) ∧ Below w.heap.size w w' := by
  obtain ⟨sa, sc, hv0, _⟩ := laid_row' ht
  obtain ⟨sn, hsn⟩ : ∃ sn, sn = t.ps.length := ⟨_, rfl⟩
  rw [← hsn] at hv0
  obtain ⟨w2, hw2, hbw, hlt2, hbx⟩ := box_new w t (.slice sa sn sc)
  have HSa := Lib.hid (fun (W : World) (h : Below w.heap.size w W) => by
    have := size_any 80 (by omega) t W R (laid_low ht h)
    rw [nodeAgg_v hv0] at this
    exact this)
  have HFo := Lib.hid (fun (W : World) (h : Below w.heap.size w W) (hz : szT (erase t) ≤ 1000000) => by
    have := formed_ref 1000000 (Nat.le_refl _) t W R hz (laid_low ht h)
    rw [nodeAgg_v hv0] at this
    exact this)
  have HSi := Lib.hid (fun (W : World) (h : Below w.heap.size w W) (hz : szT (erase t) ≤ 300000) (hok : okT (erase t) = true) => by
    have := simple_good t W R (laid_low ht h) hz hok
    rw [nodeAgg_v hv0] at this
    exact this)
  have HIs := Lib.hid (fun (W : World) (h : Below w.heap.size w W) (hz : szT (erase t) ≤ 1000000) (hok : okT (erase t) = true) (hn : wd.length ≤ 200) => by
    have := isB_any t W R wd wd.length capw A (laid_low ht h) hok hz hC (hW.below h) rfl hn (hT.below h)
    rw [nodeAgg_v hv0] at this
    exact this)
  have HAw := Lib.hid (fun (W : World) (h : Below w.heap.size w W) => awake11_any W (hT.below h))
  have HBX := Lib.hid hbx
  have HBW := Lib.hid (And.intro hbw hlt2)
  have HCW := Lib.hid (And.intro hC (And.intro hW hT))
  obtain ⟨x0, x1, x2, x3, x4, x5, x6, x7⟩ := hbx w2 (Below.refl _ _)
  rw [nodeAgg_v hv0]
  clear hbx ht hv0 hsn hlt2 hC hW hT
  go_enter Tryd.func7, Tryd.ntmps7
  go_wp2_with fail
  clear hw2 hbw
  go_at_call 9
  refine (HAw.out _ HBW.out.1).mono ?_
  rintro e w3 ⟨rfl, hb3⟩
  have HB3 := Lib.hid hb3
  clear hb3 x0 x1 x2 x3 x4 x5 x6 x7
  obtain ⟨x0, x1, x2, x3, x4, x5, x6, x7⟩ := HBX.out w3 HB3.out
  go_wp2_with fail
  go_at_call 13
  refine (HSa.out _ (bhop HBW.out.1 HB3.out)).mono ?_
  rintro e w4 ⟨rfl, hb4⟩
  have HB4 := Lib.hid (bhop HB3.out hb4)
  clear hb4 x0 x1 x2 x3 x4 x5 x6 x7
  obtain ⟨x0, x1, x2, x3, x4, x5, x6, x7⟩ := HBX.out w4 HB4.out
  by_cases hA : szT (erase t) ≤ 80
  · have hA2 : min (szT (erase t)) (80 + 1) = szT (erase t) := by omega
    rw [hA2]
    have g1 : ¬ (80 : Int) < ((szT (erase t) : Nat) : Int) := by omega
    have HA := Lib.hid hA
    clear hA hA2
    by_cases hl : wd.length ≤ 20
    · have g2 : ¬ (20 : Int) < ((wd.length : Nat) : Int) := by omega
      have HL := Lib.hid hl
      clear hl
      go_wp2_with fail
      go_at_call 14
      refine (HFo.out _ (bhop HBW.out.1 HB4.out) (by have := HA.out; omega)).mono ?_
      rintro e w5 ⟨rfl, hb5⟩
      have HB5 := Lib.hid (bhop HB4.out hb5)
      clear hb5 x0 x1 x2 x3 x4 x5 x6 x7
      obtain ⟨x0, x1, x2, x3, x4, x5, x6, x7⟩ := HBX.out w5 HB5.out
      cases hok : okT (erase t) with
      | false =>
        clear hok x0 x1 x2 x3 x4 x5 x6 x7
        go_wp2_with fail
        go_at_call 9
        refine (HAw.out _ (bhop HBW.out.1 HB5.out)).mono ?_
        rintro e w6 ⟨rfl, hb6⟩
        have HB6 := Lib.hid (bhop HB5.out hb6)
        go_wp2_with fail
        go_ret
        exact ⟨rfl, bhop HBW.out.1 HB6.out⟩
      | true =>
        have HK := Lib.hid hok
        clear hok
        go_wp2_with fail
        go_at_call 15
        refine (HSi.out _ (bhop HBW.out.1 HB5.out) (by have := HA.out; omega) HK.out).mono ?_
        rintro e w6 ⟨⟨r, rfl, herr, hresr⟩, hb⟩
        have hlr := hresr.laid
        obtain ⟨sar, scr, hvr, _⟩ := laid_row' hlr
        obtain ⟨snr, hsnr⟩ : ∃ s, s = r.ps.length := ⟨_, rfl⟩
        rw [← hsnr] at hvr
        rw [nodeAgg_v hvr]
        have HB6 := Lib.hid (bhop HB5.out hb)
        have HRr := Lib.hid (And.intro herr (And.intro hlr hvr))
        clear hb herr hresr hlr hvr hsnr x0 x1 x2 x3 x4 x5 x6 x7
        obtain ⟨w7, hw7, hb, hlt, hby⟩ := box_new w6 r (.slice sar snr scr)
        have HY := Lib.hid hby
        have HB7 := Lib.hid (bhop HB6.out hb)
        have HLr := Lib.hid (laid_low HRr.out.2.1 hb)
        clear hb hlt hby
        obtain ⟨x0, x1, x2, x3, x4, x5, x6, x7⟩ := HBX.out w7 HB7.out
        have HIr := Lib.hid (fun (W : World) (h : Below w7.heap.size w7 W) => by
          have := isB_any r W _ wd wd.length capw A (laid_low HLr.out h) (by rw [HRr.out.1]; exact (sim_ws _ HK.out).ok) (by rw [HRr.out.1]; have := sim_sz (erase t); have := HA.out; omega) (by rw [HRr.out.1]; exact clN_sim _ HCW.out.1) (HCW.out.2.1.below (bhop HBW.out.1 (bhop HB7.out h))) rfl (by have := HL.out; omega) (HCW.out.2.2.below (bhop HBW.out.1 (bhop HB7.out h)))
          rw [nodeAgg_v HRr.out.2.2] at this
          exact this)
        go_upto_region 4 with fail
        clear hw7
        go_wp2_with fail
        go_at_call 16
        refine (HIs.out _ (bhop HBW.out.1 HB7.out) (by have := HA.out; omega) HK.out (by have := HL.out; omega)).mono ?_
        rintro e w8 ⟨rfl, hb8⟩
        have HC8 := Lib.hid hb8
        clear hb8 x0 x1 x2 x3 x4 x5 x6 x7
        obtain ⟨y0, y1, y2, y3, y4, y5, y6, y7⟩ := HY.out w8 HC8.out
        go_wp2_with fail
        go_at_call 16
        refine (HIr.out _ HC8.out).mono ?_
        rintro e w9 ⟨rfl, hb9⟩
        have HB9 := Lib.hid (bhop HBW.out.1 (bhop HB7.out (bhop HC8.out hb9)))
        clear hb9
        rw [show lgB (erase r) wd = lgB (erase t) wd by rw [HRr.out.1]; exact lgB_congr (lg_sim (erase t) HK.out wd)]
        obtain ⟨bb, hbb⟩ : ∃ bb, bb = lgB (erase t) wd := ⟨_, rfl⟩
        rw [← hbb]
        clear hbb
        cases bb with
        | true =>
          go_wp2_with fail
          go_ret
          exact ⟨rfl, HB9.out⟩
        | false =>
          go_wp2_with fail
          go_ret
          exact ⟨rfl, HB9.out⟩
    · have g2 : (20 : Int) < ((wd.length : Nat) : Int) := by omega
      clear hl
      go_wp2_with fail
      go_at_call 9
      refine (HAw.out _ (bhop HBW.out.1 HB4.out)).mono ?_
      rintro e w6 ⟨rfl, hb6⟩
      have HB6 := Lib.hid (bhop HB4.out hb6)
      go_wp2_with fail
      go_ret
      exact ⟨rfl, bhop HBW.out.1 HB6.out⟩
  · have hA2 : min (szT (erase t)) (80 + 1) = 81 := by omega
    rw [hA2]
    clear hA hA2
    go_wp2_with fail
    go_at_call 9
    refine (HAw.out _ (bhop HBW.out.1 HB4.out)).mono ?_
    rintro e w6 ⟨rfl, hb6⟩
    have HB6 := Lib.hid (bhop HB4.out hb6)
    go_wp2_with fail
    go_ret
    exact ⟨rfl, bhop HBW.out.1 HB6.out⟩

end Go.Proofs.YtdjddmkmcdfmiaaDoor
