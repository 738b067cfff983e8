/- Of every text the statement ShowReads returns true; the card: what its row lists is tied to the program's text.
   No condition. -/
import Derived.Test.YtpibkalbnjgpaaaDoorMBox
import Derived.Deep.DeepCutAuto
import Derived.Test.YtpibkalbnjgpaaaDoorOpenT
import Derived.Test.YtpibkalbnjgpaaaDoorCards
import Derived.Test.YtpibkalbnjgpaaaDoorTie
import Derived.ProofKit
import Derived.LaidMore
import Derived.OpenShut
import Derived.ChangeOld
import Derived.Below
import Derived.SevenTiedAt

/- The walk of the statement ShowReads: called with a text it returns true and changes nothing that was there.
   Condition: numbers are written in base ten ('Fmt'). -/
namespace Go.Proofs.YtpibkalbnjgpaaaDoor
open Go.RowKit Go.Shelf
attribute [local go_sem] nodeAgg

set_option maxHeartbeats 4000000 in
set_option maxRecDepth 100000 in
theorem reads_walk (s : ByteArray) (w : World) (hF : Fmt w) :
    Calls Tryd.prog 5 #[.string s] w fun e w' => e = .returned (.bool true) ∧ Below w.heap.size w w' := by
  have HF := Lib.hid hF
  clear hF
  go_enter Tryd.func5, Tryd.ntmps5
  go_wp2_with fail
  go_at_call 7
  refine (awake3_any _).mono ?_
  rintro e w1 ⟨rfl, hb1⟩
  have HB1 := Lib.hid hb1
  clear hb1
  by_cases hsz : (400 : Int) < (s.size : Int)
  · go_wp2_with fail
    go_at_call 7
    refine (awake3_any _).mono ?_
    rintro e w2 ⟨rfl, hb2⟩
    go_wp2_with fail
    go_ret
    exact ⟨rfl, below_hop HB1.out hb2⟩
  · go_wp2_with fail
    go_at_call 12
    refine (parse_any s _).mono ?_
    rintro e w2 ⟨v, ta, tn, tc, hvs, rfl, her, hlv, hb2⟩
    have HB2 := Lib.hid (below_hop HB1.out hb2)
    clear hb2
    have hcode := pparse_code (txt s)
    have hcl := pparse_cl (txt s)
    have hfm := pparse_formed (L := txt s)
    obtain ⟨c, hc⟩ : ∃ c, c = (pparse (txt s)).2.2 := ⟨_, rfl⟩
    rw [← hc] at hcode hfm ⊢
    by_cases hc0 : c = 0
    · subst hc0
      obtain ⟨hok, hd, hp, hz⟩ := hfm rfl
      rw [← her] at hok hd hp hz hcl
      have HX := Lib.hid (And.intro hok (And.intro hd (And.intro hp (And.intro hz hcl))))
      have HTx := Lib.hid (fun (W : World) (h : Below w2.heap.size w2 W) => by
        have := text_any v W _ (laid_low hlv h) hok hcl (by omega) (fun n W' hn hb' => HF.out n W' hn (below_hop (below_hop HB2.out h) hb'))
        rw [nodeAgg_v hvs] at this
        exact this)
      have HSm := Lib.hid (fun (W : World) (h : Below w2.heap.size w2 W) (m : V) (mv : Value) (hm : m.v = mv) (Q : Nat → Prop) (hl : Laid W Q m) => by
        have := same_ref 1000000 (Nat.le_refl _) v m W _ Q (by omega) (laid_low hlv h) hl
        rw [nodeAgg_v hvs, nodeAgg_v hm] at this
        exact this)
      obtain ⟨pl, hpl⟩ : ∃ pl, pl = (pparse (txt s)).2.1 := ⟨_, rfl⟩
      rw [← hpl]
      obtain ⟨w3, hw3, hbw3, hlt3, hbx3⟩ := box_new w2 v (.slice ta tn tc)
      have HBX := Lib.hid hbx3
      have HB3 := Lib.hid hbw3
      have X3 := hbx3 w3 (Below.refl _ _)
      unfold BoxC at X3
      obtain ⟨x0, x1, x2, x3, x4, x5, x6, x7⟩ := X3
      clear hcode hcl hfm hc her hlv hvs hok hd hp hz hpl hbx3 hbw3
      go_upto_region 6 with fail
      clear hw3
      go_wp2_with fail
      go_at_call 10
      refine (HTx.out _ HB3.out).mono ?_
      rintro e w4 ⟨x, hx, rfl, hb4⟩
      have HB4 := Lib.hid (below_hop HB3.out hb4)
      have HV4 := Lib.hid hb4
      have hxl := txt_length x
      rw [hx] at hxl
      have HXT := Lib.hid hx
      clear hb4 x0 x1 x2 x3 x4 x5 x6 x7
      go_wp2_with fail
      go_at_call 12
      refine (parse_any x _).mono ?_
      rintro e w5 ⟨m, ua, un, uc, hms, rfl, her, hlm, hb5⟩
      have hp : pparse (txt x) = if 400 < (textT (erase v)).length ∨ 20 < dptT (erase v) ∨ 40 < plcT (erase v) then (zeroT, 0, 3) else (backT (erase v), 0, 0) := by rw [hx]; exact pparse_text HX.out.1
      have HB5 := Lib.hid (below_hop HB4.out hb5)
      have HV5 := Lib.hid (below_hop HV4.out hb5)
      obtain ⟨w6, hw6, hbw6, hlt6, hbx6⟩ := box_new w5 m (.slice ua un uc)
      have HB6 := Lib.hid (below_hop HB5.out hbw6)
      have HV6 := Lib.hid (below_hop HV5.out hbw6)
      have hlm6 := laid_low hlm hbw6
      have Y6 := hbx6 w6 (Below.refl _ _)
      unfold BoxC at Y6
      obtain ⟨y0, y1, y2, y3, y4, y5, y6, y7⟩ := Y6
      obtain ⟨x0, x1, x2, x3, x4, x5, x6, x7⟩ := HBX.out w6 (below_hop HV4.out (below_hop hb5 hbw6))
      clear hb5 hlm hbw6 hx
      by_cases hbig : 400 < (textT (erase v)).length
      · rw [if_pos (.inl hbig)] at hp
        rw [hp]
        have g2 : (400 : Int) < (x.size : Int) := by omega
        clear hp her hms hlm6 hbx6 hxl hbig
        go_upto_region 8 with fail
        clear hw6
        go_wp2_with fail
        go_ret
        exact ⟨rfl, below_hop HB2.out HB6.out⟩
      · rw [if_neg (by have := HX.out; omega)] at hp
        rw [hp] at her ⊢
        have g2 : ¬ (400 : Int) < (x.size : Int) := by omega
        have hcm : ClT (erase m) := by rw [her]; exact cl_back _
        have hom : okT (erase m) = true := by rw [her]; exact ok_back _ HX.out.1
        have hzm : szT (erase m) ≤ 802 := by rw [her, sz_back _ HX.out.1]; exact HX.out.2.2.2.1
        have HTm := Lib.hid (fun (W : World) (h : Below w6.heap.size w6 W) => by
          have := text_any m W _ (laid_low hlm6 h) hom hcm (by omega) (fun n W' hn hb' => HF.out n W' hn (below_hop (below_hop (below_hop HB2.out HB6.out) h) hb'))
          rw [nodeAgg_v hms, her, text_back _ HX.out.1] at this
          exact this)
        have HSM := Lib.hid (HSm.out _ HB6.out m _ hms _ hlm6)
        have HLK := Lib.hid (show likeT (erase v) (erase m) = true by rw [her]; exact like_back _ HX.out.1 HX.out.2.2.2.2)
        have HBM := Lib.hid hbx6
        clear hp her hms hlm6 hbx6 hxl hbig hcm hom hzm
        go_upto_region 8 with fail
        clear hw6
        go_wp2_with fail
        go_at_call 15
        refine HSM.out.mono ?_
        rintro e w7 ⟨rfl, hb7⟩
        rw [HLK.out]
        have HB7 := Lib.hid (below_hop HB6.out hb7)
        have HV7 := Lib.hid hb7
        clear hb7 x0 x1 x2 x3 x4 x5 x6 x7 y0 y1 y2 y3 y4 y5 y6 y7
        obtain ⟨y0, y1, y2, y3, y4, y5, y6, y7⟩ := HBM.out w7 HV7.out
        go_wp2_with fail
        go_at_call 10
        refine (HTm.out _ HV7.out).mono ?_
        rintro e w8 ⟨x2, hx2, rfl, hb8⟩
        obtain rfl : x2 = x := txt_inj (hx2.trans HXT.out.symm)
        have HB8 := Lib.hid (below_hop HB7.out hb8)
        clear hb8 hx2 y0 y1 y2 y3 y4 y5 y6 y7
        go_wp2_with fail
        go_ret
        exact ⟨rfl, below_hop HB2.out HB8.out⟩
    · have g0 : ((c : Int) != 0) = true := by simp; omega
      obtain ⟨w3, hw3, hbw3, hlt3, hbx3⟩ := box_new w2 v (.slice ta tn tc)
      have HB3 := Lib.hid hbw3
      clear hcode hcl hfm hc her hlv hvs hbx3 hbw3
      go_wp2_with fail
      go_ret
      exact ⟨rfl, below_hop HB2.out HB3.out⟩

end Go.Proofs.YtpibkalbnjgpaaaDoor

/- Of every text the statement ShowReads returns true; the card: what its row lists is tied to the program's text.
   No condition. -/
namespace Go.Proofs.YtpibkalbnjgpaaaDoor
open Go.ChangeShapes Go.WideShapes Go.ChangeAt Go.RowKit

theorem showReadsOwn : ownKnob Tryd.prog.godebug = none := by kernel_rfl
theorem showReadsLaidOut : laidOutB Tryd.prog = true := by kernel_rfl

/-- The door's own heap meets the condition. -/
theorem showReadsDoor (os : Os) (args : Array Value) : laidMetH Tryd.prog Rows.showReadsRow.laid ((World.doorLaid Tryd.prog 400 os).forCall (fun _ _ => 0) ⟨#[], args, []⟩).memory :=
  laidMetH_of_parts3 (fuel := 8) (laidMet_of_run' 8 (by kernel_rfl) (by kernel_rfl)) (by kernel_rfl) (by kernel_rfl)

set_option maxRecDepth 100000 in
theorem showReads_lifted (os : Os) (started : os.Started) (H : Type) (enc : TypeId × Value → H) :
    ReturnsInHanded {} Tryd.checked os 5 .any (fun w args => (Rows.showReadsSpec.pre enc Tryd.prog Tryd.f5 Rows.showReadsRow.domain false w args ∧ laidMetH Tryd.prog Rows.showReadsRow.laid w) ∧ sizedMet enc Tryd.prog Tryd.f5 (OpenSpec.ofChange Rows.showReadsSpec) false w args)
      (Rows.showReadsSpec.post enc Tryd.prog Tryd.f5 false true false false) := by
  refine returnsInHanded_of_change_and (C := Tryd.checked) (X := fun w _ => laidMetH Tryd.prog Rows.showReadsRow.laid w) (fun _ _ _ hh h => h.of_heap hh) showReadsOwn started (by kernel_rfl) Tryd.func5
    (ChangeSpec.witness_shaped (enc := enc) (C := Tryd.checked) (os := os) (X := fun w _ => laidMetH Tryd.prog Rows.showReadsRow.laid w) false (World.doorLaid Tryd.prog 400 os) #[.string { data := #[] }] 8 rfl (World.shaped_of_RefB (by kernel_rfl) (by kernel_rfl)) (by kernel_rfl) (by kernel_rfl) (by kernel_rfl) (showReadsDoor os _)) ?_
  intro W base args ds gs before hval0 hW _ _ hLaid _
  have hval : ∀ (j : Nat) t v, Tryd.f5.params[j]? = some t → args[j]? = some v → Value.okWide Tryd.prog W .any base t v := hval0
  have hW' := hW
  have hF : Fmt W := fmt_laid hLaid
  obtain ⟨p, q, hA0, hV, rfl, hfz, hnd⟩ := hW
  have hA : DataW.TrodAll enc Tryd.prog W 0 (fun _ => true) true Tryd.f5.params.toList args.toList ds p := hA0
  rw [Tryd.params5] at hA hval
  obtain ⟨v0, vs0, d0, ds0, p0, q0, hargs, rfl, rfl, h0, r0⟩ := trodAll_cons hA
  obtain ⟨rfl, rfl, rfl⟩ := trodAll_nil r0
  obtain rfl : args = #[v0] := by cases args; simp_all
  obtain ⟨rfl, rfl⟩ := trodVars_none hV
  have k0 := h0
  have lt0 : ∀ x ∈ p0, x.block < W.heap.size := by obtain ⟨m, hm⟩ := k0; exact DataW.trod_lt m _ _ _ hm
  obtain ⟨s0, rfl, rfl, rfl, hs0⟩ := Go.ChangeMaps.open_string Tryd.underlying9 (hval 0 9 v0 rfl rfl) h0
  clear hA0 hval0
  refine (reads_walk s0 W hF).mono fun e W' ⟨he, bel⟩ => ?_
  subst he
  exact ⟨_, rfl, _, _, _, [], _, [], hW', trodAll_mk1 (shut_bool Tryd.underlying4 _), (trodAll_cons_mk (Below.trod showReadsLaidOut (by kernel_rfl) (of_decide_eq_true (by kernel_rfl)) k0 bel lt0) trodAll_mk0), rfl, bel.frame _, fun h => by cases h⟩

theorem showReads_holds : Rows.ShowReadsSaid :=
  OpenClaim.holds_of_wide 5 Tryd.f5 rfl rfl rfl rfl rfl rfl rfl ⟨rfl, rfl, rfl, rfl, rfl⟩ rfl rfl rfl rfl rfl (by kernel_rfl) Tryd.func5 (by kernel_rfl)
    (of_decide_eq_true (by kernel_rfl)) (by unfold Func.isWrapper; rw [if_neg (of_decide_eq_false (by kernel_rfl))]; exact ⟨rfl, rfl⟩)
    (fun os started H enc _ => showReads_lifted os started H enc)

theorem showReads_card_holds : Rows.ShowReadsCardSaid :=
  Claim7.holds_tied_plain_at .later [] [.data, .data, .data] true _ false
    showReads_holds (fun _ h => by cases h) (by kernel_rfl) (fun _ h => by cases h) showReads_row_tie rfl ⟨rfl, rfl⟩ (by kernel_rfl) rfl
    (fun f fn hf hfn => by
      obtain rfl : f = 5 := Option.some.inj ((show Tryd.prog.funcNamed "ostinato/ostinatolaw03.ShowReads" = some 5 by kernel_rfl).symm.trans hf) |>.symm
      obtain rfl : fn = Tryd.f5 := (Option.some.inj (Tryd.func5.symm.trans hfn)).symm
      exact ⟨by kernel_rfl, fun j t ht => by
        rw [Tryd.params5] at ht
        have hm : t ∈ [9] := by simpa using Array.mem_of_getElem? ht
        have hall : ([9].all fun u => !Tryd.prog.wantsStandIn u) = true := by kernel_rfl
        exact (show Tryd.prog.wantsStandIn t = false by simpa using List.all_eq_true.1 hall t hm)⟩)
    (by kernel_rfl)
#print axioms showReads_card_holds

end Go.Proofs.YtpibkalbnjgpaaaDoor
