/- Of every tree the statement ShowBack returns true, and it reads afterwards as before; the card: what its row lists is tied to the program's text.
   No condition. -/
import Derived.Test.YtpibkalbnjgpaaaDoorMBox
import Derived.Deep.DeepCutAuto
import Derived.Test.YtpibkalbnjgpaaaDoorOpenT
import Derived.Test.YtpibkalbnjgpaaaDoorCards
import Derived.Test.YtpibkalbnjgpaaaDoorTie
import Derived.ProofKit
import Derived.LaidMore
import Derived.OpenShut
import Derived.ChangeOld
import Derived.Below
import Derived.SevenTiedAt

/- The walk of the statement ShowBack: called with a tree it returns true and changes nothing that was there.
   Conditions: the tree lies in memory, its classes are four words below 2^64; numbers are written in base ten ('Fmt'). -/
namespace Go.Proofs.YtpibkalbnjgpaaaDoor
open Go.RowKit Go.Shelf
attribute [local go_sem] nodeAgg

set_option maxHeartbeats 4000000 in
set_option maxRecDepth 100000 in
theorem back_walk (a : V) (w : World) (R : Nat → Prop) (ha : Laid w R a) (hc : ClT (erase a)) (hF : Fmt w) :
    Calls Tryd.prog 4 #[nodeAgg a] w fun e w' => e = .returned (.bool true) ∧ Below w.heap.size w w' := by
  obtain ⟨sa, sc, hv0, _⟩ := laid_row' ha
  obtain ⟨sn, hsn⟩ : ∃ sn, sn = a.ps.length := ⟨_, rfl⟩
  rw [← hsn] at hv0
  obtain ⟨w2, hw2, hbw, hlt2, hbx⟩ := box_new w a (.slice sa sn sc)
  have HSa := Lib.hid (fun (W : World) (h : Below w.heap.size w W) => by
    have := size_any 100 (by omega) a W R (laid_low ha h)
    rw [nodeAgg_v hv0] at this
    exact this)
  have HFo := Lib.hid (fun (W : World) (h : Below w.heap.size w W) (hz : szT (erase a) ≤ 1000000) => by
    have := formed_ref 1000000 (Nat.le_refl _) a W R hz (laid_low ha h)
    rw [nodeAgg_v hv0] at this
    exact this)
  have HTx := Lib.hid (fun (W : World) (h : Below w.heap.size w W) (hz : szT (erase a) ≤ 10000) (hok : okT (erase a) = true) => by
    have := text_any a W R (laid_low ha h) hok hc hz (fun n W' hn hb' => hF n W' hn (below_hop h hb'))
    rw [nodeAgg_v hv0] at this
    exact this)
  have HDp := Lib.hid (fun (W : World) (h : Below w.heap.size w W) (hz : szT (erase a) ≤ 1000000) => by
    have := depth_ref 1000000 (Nat.le_refl _) a W R hz (laid_low ha h)
    rw [nodeAgg_v hv0] at this
    exact this)
  have HPl := Lib.hid (fun (W : World) (h : Below w.heap.size w W) (hz : szT (erase a) ≤ 1000000) => by
    have := places_ref 1000000 (Nat.le_refl _) a W R hz (laid_low ha h)
    rw [nodeAgg_v hv0] at this
    exact this)
  have HSm := Lib.hid (fun (W : World) (h : Below w.heap.size w W) (hz : szT (erase a) ≤ 1000000) (m : V) (mv : Value) (hm : m.v = mv) (Q : Nat → Prop) (hl : Laid W Q m) => by
    have := same_ref 1000000 (Nat.le_refl _) a m W R Q hz (laid_low ha h) hl
    rw [nodeAgg_v hv0, nodeAgg_v hm] at this
    exact this)
  have HBX := Lib.hid hbx
  have HBW := Lib.hid (And.intro hbw hlt2)
  have HC := Lib.hid hc
  rw [nodeAgg_v hv0]
  clear hbx ha hc hF hv0 hsn hlt2
  go_enter Tryd.func4, Tryd.ntmps4
  go_wp2_with fail
  clear hw2 hbw
  go_at_call 7
  refine (awake3_any _).mono ?_
  rintro e w3 ⟨rfl, hb3⟩
  obtain ⟨x0, x1, x2, x3, x4, x5, x6, x7⟩ := HBX.out w3 hb3
  have HB3 := Lib.hid hb3
  clear hb3
  go_wp2_with fail
  go_at_call 8
  refine (HSa.out _ (below_hop HBW.out.1 HB3.out)).mono ?_
  rintro e w4 ⟨rfl, hb4⟩
  have HB4 := Lib.hid (below_hop HB3.out hb4)
  clear hb4 x0 x1 x2 x3 x4 x5 x6 x7
  obtain ⟨x0, x1, x2, x3, x4, x5, x6, x7⟩ := HBX.out w4 HB4.out
  by_cases hA : szT (erase a) ≤ 100
  · have hA2 : min (szT (erase a)) (100 + 1) = szT (erase a) := by omega
    rw [hA2]
    have g1 : ¬ (100 : Int) < ((szT (erase a) : Nat) : Int) := by omega
    have HA := Lib.hid hA
    clear hA hA2
    go_wp2_with fail
    go_at_call 9
    refine (HFo.out _ (below_hop HBW.out.1 HB4.out) (by have := HA.out; omega)).mono ?_
    rintro e w5 ⟨rfl, hb5⟩
    have HB5 := Lib.hid (below_hop HB4.out hb5)
    clear hb5 x0 x1 x2 x3 x4 x5 x6 x7
    cases hok : okT (erase a) with
    | true =>
      obtain ⟨x0, x1, x2, x3, x4, x5, x6, x7⟩ := HBX.out w5 HB5.out
      have HK := Lib.hid hok
      clear hok
      go_wp2_with fail
      go_at_call 10
      refine (HTx.out _ (below_hop HBW.out.1 HB5.out) (by have := HA.out; omega) HK.out).mono ?_
      rintro e w6 ⟨s, hs, rfl, hb6⟩
      have HB6 := Lib.hid (below_hop HB5.out hb6)
      have hsl := txt_length s
      rw [hs] at hsl
      clear hb6 x0 x1 x2 x3 x4 x5 x6 x7
      go_wp2_with fail
      go_at_call 12
      refine (parse_any s _).mono ?_
      rintro e w7 ⟨v, ta, tn, tc, hvs, rfl, her, hlv, hb7⟩
      have HB7 := Lib.hid (below_hop HB6.out hb7)
      have hp : pparse (txt s) = if 400 < (textT (erase a)).length ∨ 20 < dptT (erase a) ∨ 40 < plcT (erase a) then (zeroT, 0, 3) else (backT (erase a), 0, 0) := by rw [hs]; exact pparse_text HK.out
      clear hb7
      obtain ⟨w8, hw8, hbw8, hlt8, hbx8⟩ := box_new w7 v (.slice ta tn tc)
      have HB8 := Lib.hid (below_hop HB7.out hbw8)
      have HLV := Lib.hid (laid_low hlv hbw8)
      have HVS := Lib.hid hvs
      have HBV := Lib.hid hbx8
      clear hlv hvs hbx8 hbw8 hlt8
      by_cases hbig : 400 < (textT (erase a)).length ∨ 20 < dptT (erase a) ∨ 40 < plcT (erase a)
      · rw [if_pos hbig] at hp
        rw [hp]
        by_cases hl : 400 < (textT (erase a)).length
        · have g2 : (400 : Int) < (s.size : Int) := by omega
          clear hp her hs hsl hbig hl
          go_wp2_with fail
          go_ret
          exact ⟨rfl, below_hop HBW.out.1 HB8.out⟩
        · have g2 : ¬ (400 : Int) < (s.size : Int) := by omega
          obtain ⟨x0, x1, x2, x3, x4, x5, x6, x7⟩ := HBX.out w8 HB8.out
          have HBG := Lib.hid (show 20 < dptT (erase a) ∨ 40 < plcT (erase a) from hbig.resolve_left hl)
          clear hp her hs hsl hbig hl
          go_wp2_with fail
          clear hw8
          go_at_call 13
          refine (HDp.out _ (below_hop HBW.out.1 HB8.out) (by have := HA.out; omega)).mono ?_
          rintro e w9 ⟨rfl, hb9⟩
          have HB9 := Lib.hid (below_hop HB8.out hb9)
          clear hb9 x0 x1 x2 x3 x4 x5 x6 x7
          by_cases hd : 20 < dptT (erase a)
          · have g3 : (20 : Int) < ((dptT (erase a) : Nat) : Int) := by omega
            clear hd
            go_wp2_with fail
            go_ret
            exact ⟨rfl, below_hop HBW.out.1 HB9.out⟩
          · have g3 : ¬ (20 : Int) < ((dptT (erase a) : Nat) : Int) := by omega
            have g4 : (40 : Int) < ((plcT (erase a) : Nat) : Int) := by have := HBG.out.resolve_left hd; omega
            obtain ⟨x0, x1, x2, x3, x4, x5, x6, x7⟩ := HBX.out w9 HB9.out
            clear hd
            go_wp2_with fail
            go_at_call 14
            refine (HPl.out _ (below_hop HBW.out.1 HB9.out) (by have := HA.out; omega)).mono ?_
            rintro e w10 ⟨rfl, hb10⟩
            have HB10 := Lib.hid (below_hop HB9.out hb10)
            clear hb10 x0 x1 x2 x3 x4 x5 x6 x7
            go_wp2_with fail
            go_ret
            exact ⟨rfl, below_hop HBW.out.1 HB10.out⟩
      · rw [if_neg hbig] at hp
        rw [hp] at her ⊢
        have g2 : ¬ (400 : Int) < (s.size : Int) := by omega
        have g3 : ¬ (20 : Int) < ((dptT (erase a) : Nat) : Int) := by omega
        have g4 : ¬ (40 : Int) < ((plcT (erase a) : Nat) : Int) := by omega
        have HE := Lib.hid her
        obtain ⟨x0, x1, x2, x3, x4, x5, x6, x7⟩ := HBX.out w8 HB8.out
        clear hp her hs hsl hbig
        go_wp2_with fail
        clear hw8
        go_at_call 13
        refine (HDp.out _ (below_hop HBW.out.1 HB8.out) (by have := HA.out; omega)).mono ?_
        rintro e w9 ⟨rfl, hb9⟩
        have HB9 := Lib.hid (below_hop HB8.out hb9)
        have HV9 := Lib.hid hb9
        clear hb9 x0 x1 x2 x3 x4 x5 x6 x7
        obtain ⟨x0, x1, x2, x3, x4, x5, x6, x7⟩ := HBX.out w9 HB9.out
        go_wp2_with fail
        go_at_call 14
        refine (HPl.out _ (below_hop HBW.out.1 HB9.out) (by have := HA.out; omega)).mono ?_
        rintro e w10 ⟨rfl, hb10⟩
        have HB10 := Lib.hid (below_hop HB9.out hb10)
        have HV10 := Lib.hid (below_hop HV9.out hb10)
        clear hb10 x0 x1 x2 x3 x4 x5 x6 x7
        obtain ⟨x0, x1, x2, x3, x4, x5, x6, x7⟩ := HBX.out w10 HB10.out
        obtain ⟨y0, y1, y2, y3, y4, y5, y6, y7⟩ := HBV.out w10 HV10.out
        go_wp2_with fail
        go_at_call 15
        refine (HSm.out _ (below_hop HBW.out.1 HB10.out) (by have := HA.out; omega) v _ HVS.out _ (laid_low HLV.out HV10.out)).mono ?_
        rintro e w11 ⟨rfl, hb11⟩
        rw [HE.out, like_back _ HK.out HC.out]
        have HB11 := Lib.hid (below_hop HB10.out hb11)
        clear hb11 x0 x1 x2 x3 x4 x5 x6 x7 y0 y1 y2 y3 y4 y5 y6 y7
        go_wp2_with fail
        go_ret
        exact ⟨rfl, below_hop HBW.out.1 HB11.out⟩
    | false =>
      go_wp2_with fail
      go_at_call 7
      refine (awake3_any _).mono ?_
      rintro e w6 ⟨rfl, hb6⟩
      go_wp2_with fail
      go_ret
      exact ⟨rfl, below_hop (below_hop HBW.out.1 HB5.out) hb6⟩
  · have hA2 : min (szT (erase a)) (100 + 1) = 101 := by omega
    rw [hA2]
    clear hA hA2
    go_wp2_with fail
    go_at_call 7
    refine (awake3_any _).mono ?_
    rintro e w5 ⟨rfl, hb5⟩
    go_wp2_with fail
    go_ret
    exact ⟨rfl, below_hop (below_hop HBW.out.1 HB4.out) hb5⟩

end Go.Proofs.YtpibkalbnjgpaaaDoor

/- Of every tree the statement ShowBack returns true, and it reads afterwards as before; the card: what its row lists is tied to the program's text.
   No condition. -/
namespace Go.Proofs.YtpibkalbnjgpaaaDoor
open Go.ChangeShapes Go.WideShapes Go.ChangeAt Go.RowKit

theorem showBackOwn : ownKnob Tryd.prog.godebug = none := by kernel_rfl
theorem showBackLaidOut : laidOutB Tryd.prog = true := by kernel_rfl
theorem showBackAgg (t : V) : nodeAgg t = .agg (ndc t).toArray := rfl

/-- The door's own heap meets the condition. -/
theorem showBackDoor (os : Os) (args : Array Value) : laidMetH Tryd.prog Rows.showBackRow.laid ((World.doorLaid Tryd.prog 400 os).forCall (fun _ _ => 0) ⟨#[], args, []⟩).memory :=
  laidMetH_of_parts3 (fuel := 8) (laidMet_of_run' 8 (by kernel_rfl) (by kernel_rfl)) (by kernel_rfl) (by kernel_rfl)

set_option maxRecDepth 100000 in
theorem showBack_lifted (os : Os) (started : os.Started) (H : Type) (enc : TypeId × Value → H) :
    ReturnsInHanded {} Tryd.checked os 4 .any (fun w args => (Rows.showBackSpec.pre enc Tryd.prog Tryd.f4 Rows.showBackRow.domain false w args ∧ laidMetH Tryd.prog Rows.showBackRow.laid w) ∧ sizedMet enc Tryd.prog Tryd.f4 (OpenSpec.ofChange Rows.showBackSpec) false w args)
      (Rows.showBackSpec.post enc Tryd.prog Tryd.f4 false true false false) := by
  refine returnsInHanded_of_change_and (C := Tryd.checked) (X := fun w _ => laidMetH Tryd.prog Rows.showBackRow.laid w) (fun _ _ _ hh h => h.of_heap hh) showBackOwn started (by kernel_rfl) Tryd.func4
    (ChangeSpec.witness_shaped (enc := enc) (C := Tryd.checked) (os := os) (X := fun w _ => laidMetH Tryd.prog Rows.showBackRow.laid w) false (World.doorLaid Tryd.prog 400 os) #[.agg #[.int .i64 0, .int .u64 0, .int .u64 0, .int .u64 0, .int .u64 0, .slice none 0 0, .int .i64 0, .int .i64 0]] 8 rfl (World.shaped_of_RefB (by kernel_rfl) (by kernel_rfl)) (by kernel_rfl) (by kernel_rfl) (by kernel_rfl) (showBackDoor os _)) ?_
  intro W base args ds gs before hval0 hW _ _ hLaid _
  have hval : ∀ (j : Nat) t v, Tryd.f4.params[j]? = some t → args[j]? = some v → Value.okWide Tryd.prog W .any base t v := hval0
  have hW' := hW
  have hF : Fmt W := fmt_laid hLaid
  obtain ⟨p, q, hA0, hV, rfl, hfz, hnd⟩ := hW
  have hA : DataW.TrodAll enc Tryd.prog W 0 (fun _ => true) true Tryd.f4.params.toList args.toList ds p := hA0
  rw [Tryd.params4] at hA hval
  obtain ⟨v0, vs0, d0, ds0, p0, q0, hargs, rfl, rfl, h0, r0⟩ := trodAll_cons hA
  obtain ⟨rfl, rfl, rfl⟩ := trodAll_nil r0
  obtain rfl : args = #[v0] := by cases args; simp_all
  obtain ⟨rfl, rfl⟩ := trodVars_none hV
  have k0 := h0
  have lt0 : ∀ x ∈ p0, x.block < W.heap.size := by obtain ⟨m, hm⟩ := k0; exact DataW.trod_lt m _ _ _ hm
  obtain ⟨t0, rfl, l0, g0⟩ := open_tree (hval 0 27 v0 rfl rfl) h0
  clear hA0 hval0
  rw [← showBackAgg] at *
  refine (back_walk t0 W _ l0 (cl_good g0) hF).mono fun e W' ⟨he, bel⟩ => ?_
  subst he
  exact ⟨_, rfl, _, _, _, [], _, [], hW', trodAll_mk1 (shut_bool Tryd.underlying4 _), (trodAll_cons_mk (Below.trod showBackLaidOut (by kernel_rfl) (of_decide_eq_true (by kernel_rfl)) k0 bel lt0) trodAll_mk0), rfl, bel.frame _, fun h => by cases h⟩

theorem showBack_holds : Rows.ShowBackSaid :=
  OpenClaim.holds_of_wide 4 Tryd.f4 rfl rfl rfl rfl rfl rfl rfl ⟨rfl, rfl, rfl, rfl, rfl⟩ rfl rfl rfl rfl rfl (by kernel_rfl) Tryd.func4 (by kernel_rfl)
    (of_decide_eq_true (by kernel_rfl)) (by unfold Func.isWrapper; rw [if_neg (of_decide_eq_false (by kernel_rfl))]; exact ⟨rfl, rfl⟩)
    (fun os started H enc _ => showBack_lifted os started H enc)

theorem showBack_card_holds : Rows.ShowBackCardSaid :=
  Claim7.holds_tied_plain_at .later [] [.data, .data, .data] true _ false
    showBack_holds (fun _ h => by cases h) (by kernel_rfl) (fun _ h => by cases h) showBack_row_tie rfl ⟨rfl, rfl⟩ (by kernel_rfl) rfl
    (fun f fn hf hfn => by
      obtain rfl : f = 4 := Option.some.inj ((show Tryd.prog.funcNamed "ostinato/ostinatolaw03.ShowBack" = some 4 by kernel_rfl).symm.trans hf) |>.symm
      obtain rfl : fn = Tryd.f4 := (Option.some.inj (Tryd.func4.symm.trans hfn)).symm
      exact ⟨by kernel_rfl, fun j t ht => by
        rw [Tryd.params4] at ht
        have hm : t ∈ [27] := by simpa using Array.mem_of_getElem? ht
        have hall : ([27].all fun u => !Tryd.prog.wantsStandIn u) = true := by kernel_rfl
        exact (show Tryd.prog.wantsStandIn t = false by simpa using List.all_eq_true.1 hall t hm)⟩)
    (by kernel_rfl)
#print axioms showBack_card_holds

end Go.Proofs.YtpibkalbnjgpaaaDoor
