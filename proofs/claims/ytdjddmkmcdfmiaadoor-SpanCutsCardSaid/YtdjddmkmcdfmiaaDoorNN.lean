/- How the statements' arguments of stage 11 are opened: words, arrays of numbers; the library's table off the condition of their rows.
   Conditions: none but the reading itself; what the row lists as laid lies in memory. -/
import Derived.Test.YtdjddmkmcdfmiaaDoorNK
import Derived.Test.YtdjddmkmcdfmiaaDoorMRefF
import Derived.Test.YtdjddmkmcdfmiaaDoorMRef
import Derived.Test.YtdjddmkmcdfmiaaDoorRows
import Derived.MakeChecks
import Derived.Stop.LaidErr
import Derived.Lib.LaidTab
import Derived.ProofKit
import Derived.OpenShut
import Derived.ChangeOld
import Derived.Below
import Derived.Laws.IdiomArrays
import Derived.Deep.Slices

/- What the statements of stage 11 ask: awake, is, both, often: contracts.
   Conditions: trees and words lie in memory; the library's table, too. -/
namespace Go.Proofs.YtdjddmkmcdfmiaaDoor
open Go.RowKit Go.Shelf
attribute [local go_sem] nodeAgg

noncomputable def lgB (t : T) (wd : List Nat) : Bool := @decide (Lg t wd) (Classical.propDecidable _)
theorem lgB_iff {t : T} {wd : List Nat} : lgB t wd = true ↔ Lg t wd := by
  unfold lgB
  simp
/-- A word in memory, whatever its slice begins with. -/
def WrdA (w : World) (A : Option Addr) (wd : List Nat) : Prop := ∃ g o, WrdM w g o wd ∧ (wd ≠ [] → A = some ⟨g, o, none⟩)
theorem WrdA.below {w w' : World} {A : Option Addr} {wd : List Nat} (h : WrdA w A wd) (hb : Below w.heap.size w w') : WrdA w' A wd := by
  obtain ⟨g, o, h1, h2⟩ := h
  exact ⟨g, o, h1.keep (fun hg => hb.block g hg) hb.size, h2⟩
/-- The library's table lies in memory. -/
abbrev TabW (w : World) : Prop := TabN w ∧ tabN < w.heap.size
theorem TabW.below {w w' : World} (h : TabW w) (hb : Below w.heap.size w w') : TabW w' := ⟨fun j hj => (World.cell?_of_block (w := w) (hb.block tabN h.2)).trans (h.1 j hj), by have := h.2; have := hb.size; omega⟩
theorem isB_any (t : V) (w : World) (R : Nat → Prop) (wd : List Nat) (ln capw : Nat) (A : Option Addr) (ht : Laid w R t) (hok : okT (erase t) = true) (hz : szT (erase t) ≤ 1000000) (hC : ClN (erase t)) (hW : WrdA w A wd) (hln : ln = wd.length) (hn : wd.length ≤ 200) (hT : TabW w) :
    Calls Tryd.prog 16 #[nodeAgg t, .slice A ln capw] w fun e w' => e = .returned (.tuple #[.bool (lgB (erase t) wd), .int .i64 0]) ∧ Below w.heap.size w w' := by
  obtain ⟨g, o, hW, hA⟩ := hW
  subst hln
  refine (isS_any t w R wd g o capw A ht hok hz hC hW hA hn hT.1 hT.2).mono ?_
  rintro e w' ⟨b, rfl, h1, h2⟩
  refine ⟨?_, h2⟩
  have : b 0 = lgB (erase t) wd := by
    rw [Bool.eq_iff_iff]
    exact h1.trans lgB_iff.symm
  rw [this]
set_option maxHeartbeats 4000000 in
set_option maxRecDepth 100000 in
theorem is11_any (t : V) (w : World) (R : Nat → Prop) (wd : List Nat) (ln capw : Nat) (A : Option Addr) (ht : Laid w R t) (hok : okT (erase t) = true) (hz : szT (erase t) ≤ 1000000) (hC : ClN (erase t)) (hW : WrdA w A wd) (hln : ln = wd.length) (hn : wd.length ≤ 200) (hT : TabW w) :
    Calls Tryd.prog 11 #[nodeAgg t, .slice A ln capw] w fun e w' => e = .returned (.bool (lgB (erase t) wd)) ∧ Below w.heap.size w w' := by
  obtain ⟨sa, sc, hv0, _⟩ := laid_row' ht
  obtain ⟨sn, hsn⟩ : ∃ sn, sn = t.ps.length := ⟨_, rfl⟩
  rw [← hsn] at hv0
  obtain ⟨w2, hw2, hbw, hlt2, hbx⟩ := box_new w t (.slice sa sn sc)
  have hrd := isB_any t w2 R wd ln capw A (laid_low ht hbw) hok hz hC (hW.below hbw) hln hn (hT.below hbw)
  rw [nodeAgg_v hv0] at hrd
  have HR := Lib.hid hrd
  have H0 := Lib.hid hbw
  obtain ⟨x0, x1, x2, x3, x4, x5, x6, x7⟩ := hbx w2 (Below.refl _ _)
  rw [nodeAgg_v hv0]
  clear ht hok hz hC hW hln hT hv0 hsn hbw hbx hrd
  go_enter Tryd.func11, Tryd.ntmps11
  go_wp2_with fail
  clear hw2
  go_at_call 16
  refine HR.out.mono ?_
  rintro e w3 ⟨rfl, hb3⟩
  have H3 := Lib.hid (bhop H0.out hb3)
  clear hb3 HR
  obtain ⟨bb, hbb⟩ : ∃ bb, bb = lgB (erase t) wd := ⟨_, rfl⟩
  rw [← hbb]
  have HE := Lib.hid hbb
  clear hbb
  cases bb with
  | true =>
    go_wp2_with fail
    go_ret
    exact ⟨by rw [← HE.out]; rfl, H3.out⟩
  | false =>
    go_wp2_with fail
    go_ret
    exact ⟨by rw [← HE.out]; rfl, H3.out⟩
set_option maxHeartbeats 4000000 in
set_option maxRecDepth 100000 in
theorem awake11_any (w : World) (hT : TabW w) :
    Calls Tryd.prog 9 #[] w fun e w' => e = .returned (.bool true) ∧ Below w.heap.size w w' := by
  have hC : Cl (fun i => if i = 0 then 2 else 0) := fun i => by show (if i = 0 then 2 else 0) < _; split <;> decide
  have hb1 : Below w.heap.size w (w.alloc (.cells #[.int .u8 1] 5)) := (Below.refl _ _).alloc (Nat.le_refl _) _
  have hW : WrdA (w.alloc (.cells #[.int .u8 1] 5)) (some ⟨w.heap.size, 0, none⟩) [1] := by
    refine ⟨w.heap.size, 0, ⟨fun i b hb => ?_, fun b hb => by simp at hb; omega, fun _ => by simp⟩, fun _ => rfl⟩
    cases i with
    | zero => rw [← Option.some.inj hb]; exact (row_cells (heap_alloc_new w (.cells #[.int .u8 1] 5))).1 0
    | succ i => simp at hb
  have hl : Laid (w.alloc (.cells #[.int .u8 1] 5)) (fun _ => True) (.node 1 (fun i => if i = 0 then 2 else 0) 0 0 (.slice none 0 0) []) := .none _ _ _ _ _ _
  have hIs := isB_any _ _ _ [1] 1 1 _ hl (by decide) (by decide) (by rw [erase, ClN, erases, ClNs]; exact ⟨hC, trivial⟩) hW rfl (by decide) (hT.below hb1)
  have hyes : lgB (erase (.node 1 (fun i => if i = 0 then 2 else 0) 0 0 (.slice none 0 0) [])) [1] = true := by
    rw [lgB_iff, erase]
    exact (lg_one rfl _).2 ⟨1, by decide, by decide, rfl⟩
  rw [hyes] at hIs
  have HI := Lib.hid hIs
  have HB := Lib.hid hb1
  clear hIs hb1 hW hl hyes hC
  go_enter Tryd.func9, Tryd.ntmps9
  go_wp2_with fail
  go_at_call 16
  refine HI.out.mono ?_
  rintro e w3 ⟨rfl, hb3⟩
  have H3 := Lib.hid (bhop HB.out hb3)
  clear hb3 HI
  go_wp2_with fail
  go_ret
  exact ⟨rfl, H3.out⟩
/-- What both asks. -/
def bothB (a b : T) (ln : Nat) : Bool := decide (szT a ≤ 40 ∧ szT b ≤ 40 ∧ ln ≤ 16 ∧ okT a = true ∧ okT b = true)
set_option maxHeartbeats 8000000 in
set_option maxRecDepth 100000 in
theorem both_any (a b : V) (w : World) (R Q : Nat → Prop) (ln capw : Nat) (A : Option Addr) (ha : Laid w R a) (hb : Laid w Q b) :
    Calls Tryd.prog 10 #[nodeAgg a, nodeAgg b, .slice A ln capw] w fun e w' => e = .returned (.bool (bothB (erase a) (erase b) ln)) ∧ Below w.heap.size w w' := by
  obtain ⟨sa, sc, hva, _⟩ := laid_row' ha
  obtain ⟨ta, tc, hvb, _⟩ := laid_row' hb
  obtain ⟨sn, hsn⟩ : ∃ sn, sn = a.ps.length := ⟨_, rfl⟩
  obtain ⟨tn, htn⟩ : ∃ tn, tn = b.ps.length := ⟨_, rfl⟩
  rw [← hsn] at hva
  rw [← htn] at hvb
  obtain ⟨w2, hw2, hb2, hlt2, hbx⟩ := box_new w a (.slice sa sn sc)
  obtain ⟨w3, hw3, hb3, hlt3, hby⟩ := box_new w2 b (.slice ta tn tc)
  have hb23 := bhop hb2 hb3
  have SA := Lib.hid (fun (W : World) (h : Below w.heap.size w W) => by
    have := size_any 40 (by omega) a W R (laid_low ha h)
    rw [nodeAgg_v hva] at this
    exact this)
  have SB := Lib.hid (fun (W : World) (h : Below w.heap.size w W) => by
    have := size_any 40 (by omega) b W Q (laid_low hb h)
    rw [nodeAgg_v hvb] at this
    exact this)
  have FA := Lib.hid (fun (W : World) (h : Below w.heap.size w W) (hz : szT (erase a) ≤ 1000000) => by
    have := formed_ref 1000000 (Nat.le_refl _) a W R hz (laid_low ha h)
    rw [nodeAgg_v hva] at this
    exact this)
  have FB := Lib.hid (fun (W : World) (h : Below w.heap.size w W) (hz : szT (erase b) ≤ 1000000) => by
    have := formed_ref 1000000 (Nat.le_refl _) b W Q hz (laid_low hb h)
    rw [nodeAgg_v hvb] at this
    exact this)
  have HX := Lib.hid (fun (W : World) (h : Below w3.heap.size w3 W) => And.intro (hbx W (bhop hb3 h)) (hby W h))
  have HB := Lib.hid (And.intro hb23 (And.intro hb2 hlt2))
  obtain ⟨⟨x0, x1, x2, x3, x4, x5, x6, x7⟩, y0, y1, y2, y3, y4, y5, y6, y7⟩ := HX.out w3 (Below.refl _ _)
  rw [nodeAgg_v hva, nodeAgg_v hvb]
  clear ha hb hva hvb hsn htn hb2 hb3 hb23 hbx hby
  go_enter Tryd.func10, Tryd.ntmps10
  go_wp2_with fail
  clear hw2 hw3
  go_at_call 13
  refine (SA.out _ HB.out.1).mono ?_
  rintro e w4 ⟨rfl, hb4⟩
  have HB4 := Lib.hid (bhop HB.out.1 hb4)
  have HC4 := Lib.hid hb4
  clear hb4 x0 x1 x2 x3 x4 x5 x6 x7 y0 y1 y2 y3 y4 y5 y6 y7
  obtain ⟨⟨x0, x1, x2, x3, x4, x5, x6, x7⟩, y0, y1, y2, y3, y4, y5, y6, y7⟩ := HX.out w4 HC4.out
  by_cases hA : szT (erase a) ≤ 40
  · have hm : min (szT (erase a)) (40 + 1) = szT (erase a) := by omega
    rw [hm]
    have g1 : ((szT (erase a) : Nat) : Int) ≤ 40 := by omega
    have HA := Lib.hid hA
    clear hA hm
    go_wp2_with fail
    go_at_call 13
    refine (SB.out _ HB4.out).mono ?_
    rintro e w5 ⟨rfl, hb5⟩
    have HB5 := Lib.hid (bhop HB4.out hb5)
    have HC5 := Lib.hid (bhop HC4.out hb5)
    clear hb5 x0 x1 x2 x3 x4 x5 x6 x7 y0 y1 y2 y3 y4 y5 y6 y7
    obtain ⟨⟨x0, x1, x2, x3, x4, x5, x6, x7⟩, y0, y1, y2, y3, y4, y5, y6, y7⟩ := HX.out w5 HC5.out
    by_cases hB : szT (erase b) ≤ 40
    · have hm : min (szT (erase b)) (40 + 1) = szT (erase b) := by omega
      rw [hm]
      have g2 : ((szT (erase b) : Nat) : Int) ≤ 40 := by omega
      have HBb := Lib.hid hB
      clear hB hm
      by_cases hl : ln ≤ 16
      · have g3 : ((ln : Nat) : Int) ≤ 16 := by omega
        have HL := Lib.hid hl
        clear hl
        go_wp2_with fail
        go_at_call 14
        refine (FA.out _ HB5.out (by have := HA.out; omega)).mono ?_
        rintro e w6 ⟨rfl, hb6⟩
        have HB6 := Lib.hid (bhop HB5.out hb6)
        have HC6 := Lib.hid (bhop HC5.out hb6)
        clear hb6 x0 x1 x2 x3 x4 x5 x6 x7 y0 y1 y2 y3 y4 y5 y6 y7
        obtain ⟨⟨x0, x1, x2, x3, x4, x5, x6, x7⟩, y0, y1, y2, y3, y4, y5, y6, y7⟩ := HX.out w6 HC6.out
        obtain ⟨oa, hoa⟩ : ∃ oa, oa = okT (erase a) := ⟨_, rfl⟩
        rw [← hoa]
        have HOA := Lib.hid hoa
        clear hoa
        cases oa with
        | true =>
          go_wp2_with fail
          go_at_call 14
          refine (FB.out _ HB6.out (by have := HBb.out; omega)).mono ?_
          rintro e w7 ⟨rfl, hb7⟩
          have HB7 := Lib.hid (bhop HB6.out hb7)
          clear hb7
          obtain ⟨ob, hob⟩ : ∃ ob, ob = okT (erase b) := ⟨_, rfl⟩
          rw [← hob]
          have HOB := Lib.hid hob
          clear hob
          cases ob with
          | true =>
            go_wp2_with fail
            go_ret
            exact ⟨by rw [show bothB (erase a) (erase b) ln = true from decide_eq_true ⟨HA.out, HBb.out, HL.out, HOA.out.symm, HOB.out.symm⟩]; rfl, HB7.out⟩
          | false =>
            go_wp2_with fail
            go_ret
            exact ⟨by rw [show bothB (erase a) (erase b) ln = false from decide_eq_false fun h => by have := h.2.2.2.2; rw [← HOB.out] at this; cases this]; rfl, HB7.out⟩
        | false =>
          go_wp2_with fail
          go_ret
          exact ⟨by rw [show bothB (erase a) (erase b) ln = false from decide_eq_false fun h => by have := h.2.2.2.1; rw [← HOA.out] at this; cases this]; rfl, HB6.out⟩
      · have g3 : ¬ ((ln : Nat) : Int) ≤ 16 := by omega
        have HL := Lib.hid hl
        clear hl
        go_wp2_with fail
        go_ret
        exact ⟨by rw [show bothB (erase a) (erase b) ln = false from decide_eq_false fun h => HL.out h.2.2.1]; rfl, HB5.out⟩
    · have hm : min (szT (erase b)) (40 + 1) = 41 := by omega
      rw [hm]
      have HBb := Lib.hid hB
      clear hB hm
      go_wp2_with fail
      go_ret
      exact ⟨by rw [show bothB (erase a) (erase b) ln = false from decide_eq_false fun h => HBb.out h.2.1]; rfl, HB5.out⟩
  · have hm : min (szT (erase a)) (40 + 1) = 41 := by omega
    rw [hm]
    have HA := Lib.hid hA
    clear hA hm
    go_wp2_with fail
    go_ret
    exact ⟨by rw [show bothB (erase a) (erase b) ln = false from decide_eq_false fun h => HA.out h.1]; rfl, HB4.out⟩

end Go.Proofs.YtdjddmkmcdfmiaaDoor

/- How the statements' arguments of stage 11 are opened: words, arrays of numbers; the library's table off the condition of their rows.
   Conditions: none but the reading itself; what the row lists as laid lies in memory. -/
namespace Go.Proofs.YtdjddmkmcdfmiaaDoor
open Go.ChangeShapes Go.WideShapes Go.ChangeAt Go.RowKit Go.Deep Go.Shelf

theorem tabN_is {W : World} (h : Lib.TabIs Tryd.prog W "math/bits.deBruijn64tab" .u8 (Lib.deBruijn64tab.map Int.ofNat)) : TabN W ∧ tabN < W.heap.size := by
  unfold Lib.TabIs World.var? at h
  rw [show Tryd.prog.globalNamed "math/bits.deBruijn64tab" = some tabN by kernel_rfl, Option.bind_some] at h
  cases hc : W.heap[tabN]? with
  | none => rw [hc] at h; cases h
  | some ob =>
    rw [hc] at h
    have hlt : tabN < W.heap.size := (Array.getElem?_eq_some_iff.1 hc).1
    refine ⟨fun j hj => ?_, hlt⟩
    cases ob with
    | cells cs e fz =>
      have hcs : cs = ((Lib.deBruijn64tab.map Int.ofNat).map fun z => Value.int .u8 z).toArray := Option.some.inj h
      have h1 : W.cell? ⟨tabN, j, none⟩ = cs[j]? := by simp [World.cell?, hc]
      refine h1.trans ?_
      rw [hcs, List.getElem?_toArray, List.getElem?_map, List.getElem?_map, List.getElem?_eq_getElem hj, List.getD_eq_getElem?_getD, List.getElem?_eq_getElem hj]
      rfl
    | _ => cases h
theorem tabN_laid {W : World} (h : laidMetH Tryd.prog Rows.spanCutsRow.laid W) : TabW W := by
  rw [Go.MakeChecks.laidMetH_plain _ _ _ (by kernel_rfl)] at h
  exact tabN_is (Lib.tabIs_of_head (g := 0) (t := 116) (e := 5) (n := 64) (by kernel_rfl) (by kernel_rfl) Tryd.underlying116 Tryd.underlying5 (by kernel_rfl) (by kernel_rfl) (show laidMet Tryd.prog [("math/bits.deBruijn64tab", Lib.tabData .u8 (Lib.deBruijn64tab.map Int.ofNat))] W from h))

theorem cellsU8N : Tryd.prog.cellsOf 5 = 1 := by kernel_rfl
/-- A list of bytes. -/
def BytN (w : World) (v : Value) (l : List Nat) : Prop :=
  ∃ A c, v = .slice A l.length c ∧ l.length ≤ c ∧ ∀ (i x : Nat), l[i]? = some x → x < 256 ∧ ∃ g o, A = some ⟨g, o, none⟩ ∧ g < w.heap.size ∧ w.cell? ⟨g, o + i, none⟩ = some (.int .u8 (x : Int))
theorem BytN.wrd {w : World} {v : Value} {l : List Nat} (h : BytN w v l) : ∃ A c, v = .slice A l.length c ∧ WrdA w A l ∧ l.length ≤ c := by
  obtain ⟨A, c, hv, hlc, hr⟩ := h
  refine ⟨A, c, hv, ?_, hlc⟩
  cases l with
  | nil => exact ⟨0, 0, ⟨fun i b hb => by simp at hb, fun b hb => by simp at hb, fun h => absurd rfl h⟩, fun h => absurd rfl h⟩
  | cons y l =>
    obtain ⟨_, g, o, hA, hg, _⟩ := hr 0 y rfl
    refine ⟨g, o, ⟨fun i b hb => ?_, fun b hb => ?_, fun _ => hg⟩, fun _ => hA⟩
    · obtain ⟨_, g', o', hA', _, hc⟩ := hr i b hb
      rw [hA] at hA'
      simp only [Option.some.injEq, Addr.mk.injEq, and_true] at hA'
      rw [hA'.1, hA'.2]
      exact hc
    · obtain ⟨i, hi⟩ := List.getElem?_of_mem hb
      exact (hr i b hi).1
theorem add_midN (b o i : Nat) : (⟨b, o, none⟩ : Addr).add i = ⟨b, o + i, none⟩ := by
  unfold Addr.add
  split
  · rename_i h; subst h; rfl
  · rfl
/-- A list of bytes. -/
theorem trod_bytesN {H : Type} {enc : TypeId × Value → H} {w : World} {base : Nat} {spare : Nat → Bool} {held : Bool} {fuel : Nat} {cs : List Value} {x : DataW H × List MemPlace} (h : DataW.trod enc Tryd.prog w base spare held fuel 28 cs = some x) :
    ∃ v l, cs = [v] ∧ BytN w v l ∧ l.length ≤ maxLen := by
  rcases open_slice1 Tryd.underlying28 cellsU8N h with ⟨e, _⟩ | ⟨a, len, cap, m, n, V, D, Pl, rfl, _, hlc, hcm, hm, _, hV⟩
  · exact ⟨_, [], e, ⟨none, 0, rfl, Nat.le_refl _, fun i x hi => by simp at hi⟩, by simp⟩
  · have hlm : len ≤ m := by rw [hm]; split <;> omega
    have hex : ∀ i, i < len → ∃ k : Nat, V i = .int .u8 (k : Int) ∧ k < 256 := fun i hi => by
      obtain ⟨h1, h2⟩ := hV i (by omega)
      obtain ⟨k, e, _, hb⟩ := DataW.trod_int Tryd.underlying5 h2
      simp at e
      have hk := bounds_u8 hb
      exact ⟨k.toNat, by rw [e, Int.toNat_of_nonneg hk.1], by omega⟩
    obtain ⟨f, hf⟩ := choose_lt hex
    refine ⟨_, (List.range len).map f, rfl, ⟨some a, cap, by simp, by simp; omega, fun i x hi => ?_⟩, by simp; omega⟩
    have hil := (List.getElem?_eq_some_iff.1 hi).1
    simp at hil
    rw [List.getElem?_map, List.getElem?_range hil] at hi
    obtain rfl := Option.some.inj hi
    obtain ⟨h1, h2⟩ := hf i hil
    have hc := (hV i (by omega)).1
    obtain ⟨b, off, spot⟩ := a
    have hspot : spot = none := by
      have := World.cell?_spot (hV 0 (by omega)).1
      unfold Addr.add at this
      rw [if_pos rfl] at this
      exact this
    subst hspot
    rw [add_midN, h1] at hc
    exact ⟨h2, b, off, rfl, World.block_lt_of_cell? _ _ hc, hc⟩

set_option maxRecDepth 100000 in
theorem open_bytesN {H : Type} {enc : TypeId × Value → H} {w : World} {base : Nat} {spare : Nat → Bool} {held : Bool} {v : Value} {d : DataW H} {p : List MemPlace} {r : Reach} {b0 : Nat} (hv : Value.okWide Tryd.prog w r b0 28 v) (h : DataW.Trod enc Tryd.prog w base spare held 28 v d p) : ∃ l, BytN w v l ∧ l.length ≤ maxLen := by
  obtain ⟨fuel, hf⟩ := h
  obtain ⟨v', l, e, h1, h2⟩ := trod_bytesN hf
  obtain ⟨a0, l0, c0, rfl⟩ := okWide_slice Tryd.underlying28 hv
  obtain rfl : Value.slice a0 l0 c0 = v' := by simpa [Value.cells] using e
  exact ⟨l, h1, h2⟩

theorem cells_u322N : Tryd.prog.cellsOf 33 = 2 := by kernel_rfl
theorem cellsU32N : Tryd.prog.cellsOf 32 = 1 := by kernel_rfl
theorem listN2 {α : Type} (l : List α) (h : l.length = 2) : ∃ c0 c1, l = [c0, c1] := by
  match l, h with
  | [c0, c1], _ => exact ⟨c0, c1, rfl⟩
set_option maxRecDepth 100000 in
theorem open_u322 {H : Type} {enc : TypeId × Value → H} {w : World} {base b0 : Nat} {spare : Nat → Bool} {held : Bool} {r : Reach} {v : Value} {d : DataW H} {p : List MemPlace} (hv : Value.okWide Tryd.prog w r b0 33 v) (h : DataW.Trod enc Tryd.prog w base spare held 33 v d p) :
    ∃ x0 x1 : Nat, v = .agg #[.int .u32 (x0 : Int), .int .u32 (x1 : Int)] ∧ x0 < 4294967296 ∧ x1 < 4294967296 := by
  obtain ⟨cs, rfl, hsz, _⟩ : ∃ cs, v = .agg cs ∧ cs.size = Tryd.prog.cellsOf 33 ∧ Row.okWide Tryd.prog w r b0 33 cs := by
    simpa [Value.okWide, Tryd.underlying33] using hv
  rw [cells_u322N] at hsz
  obtain ⟨l⟩ := cs
  obtain ⟨c0, c1, rfl⟩ := listN2 l hsz
  obtain ⟨fuel, hf⟩ := h
  obtain ⟨xs, m, _, _, _, hlen, hall⟩ := DataW.trod_array Tryd.underlying33 hf
  obtain ⟨y0, y1, rfl⟩ := listN2 xs hlen
  have h0 := hall 0 (by omega)
  have h1 := hall 1 (by omega)
  rw [cellsU32N] at h0 h1
  obtain ⟨x0, e0, _, w0⟩ := DataW.trod_int Tryd.underlying32 h0
  obtain ⟨x1, e1, _, w1⟩ := DataW.trod_int Tryd.underlying32 h1
  simp [Value.cells] at e0 e1
  subst e0 e1
  have k0 := bounds_u32 w0
  have k1 := bounds_u32 w1
  refine ⟨x0.toNat, x1.toNat, ?_, by omega, by omega⟩
  rw [Int.toNat_of_nonneg k0.1, Int.toNat_of_nonneg k1.1]
theorem cells_u84N : Tryd.prog.cellsOf 36 = 4 := by kernel_rfl
theorem listN4 {α : Type} (l : List α) (h : l.length = 4) : ∃ c0 c1 c2 c3, l = [c0, c1, c2, c3] := by
  match l, h with
  | [c0, c1, c2, c3], _ => exact ⟨c0, c1, c2, c3, rfl⟩
set_option maxRecDepth 100000 in
theorem open_u84 {H : Type} {enc : TypeId × Value → H} {w : World} {base b0 : Nat} {spare : Nat → Bool} {held : Bool} {r : Reach} {v : Value} {d : DataW H} {p : List MemPlace} (hv : Value.okWide Tryd.prog w r b0 36 v) (h : DataW.Trod enc Tryd.prog w base spare held 36 v d p) :
    ∃ x0 x1 x2 x3 : Nat, v = .agg #[.int .u8 (x0 : Int), .int .u8 (x1 : Int), .int .u8 (x2 : Int), .int .u8 (x3 : Int)] ∧ x0 < 256 ∧ x1 < 256 ∧ x2 < 256 ∧ x3 < 256 := by
  obtain ⟨cs, rfl, hsz, _⟩ : ∃ cs, v = .agg cs ∧ cs.size = Tryd.prog.cellsOf 36 ∧ Row.okWide Tryd.prog w r b0 36 cs := by
    simpa [Value.okWide, Tryd.underlying36] using hv
  rw [cells_u84N] at hsz
  obtain ⟨l⟩ := cs
  obtain ⟨c0, c1, c2, c3, rfl⟩ := listN4 l hsz
  obtain ⟨fuel, hf⟩ := h
  obtain ⟨xs, m, _, _, _, hlen, hall⟩ := DataW.trod_array Tryd.underlying36 hf
  obtain ⟨y0, y1, y2, y3, rfl⟩ := listN4 xs hlen
  have h0 := hall 0 (by omega)
  have h1 := hall 1 (by omega)
  have h2 := hall 2 (by omega)
  have h3 := hall 3 (by omega)
  rw [cellsU8N] at h0 h1 h2 h3
  obtain ⟨x0, e0, _, w0⟩ := DataW.trod_int Tryd.underlying5 h0
  obtain ⟨x1, e1, _, w1⟩ := DataW.trod_int Tryd.underlying5 h1
  obtain ⟨x2, e2, _, w2⟩ := DataW.trod_int Tryd.underlying5 h2
  obtain ⟨x3, e3, _, w3⟩ := DataW.trod_int Tryd.underlying5 h3
  simp [Value.cells] at e0 e1 e2 e3
  subst e0 e1 e2 e3
  have k0 := bounds_u8 w0
  have k1 := bounds_u8 w1
  have k2 := bounds_u8 w2
  have k3 := bounds_u8 w3
  refine ⟨x0.toNat, x1.toNat, x2.toNat, x3.toNat, ?_, by omega, by omega, by omega, by omega⟩
  rw [Int.toNat_of_nonneg k0.1, Int.toNat_of_nonneg k1.1, Int.toNat_of_nonneg k2.1, Int.toNat_of_nonneg k3.1]

end Go.Proofs.YtdjddmkmcdfmiaaDoor
