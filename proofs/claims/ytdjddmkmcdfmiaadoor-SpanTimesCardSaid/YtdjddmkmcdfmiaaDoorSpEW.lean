/- The walk of the statement SpanEither: called with two trees and a word it returns true and changes nothing that was there.
   Conditions: the trees, the word and the library's table lie in memory. -/
import Derived.Test.YtdjddmkmcdfmiaaDoorSpER

namespace Go.Proofs.YtdjddmkmcdfmiaaDoor
open Go.RowKit Go.Shelf
attribute [local go_sem] nodeAgg

/-- Two trees in a row, in a block of their own. -/
abbrev twV (k : Int) (a b : V) (pb : Nat) : V := .node k zeros 0 0 (.slice (some ⟨pb, 0, none⟩) 2 2) [a, b]
abbrev twT (k : Int) (a b : T) : T := .node k zeros 0 0 [a, b]
theorem tw_er (k : Int) (a b : V) (pb : Nat) : erase (twV k a b pb) = twT k (erase a) (erase b) := by
  show T.node k zeros 0 0 (erases _) = _
  rw [erases, erases, erases]
theorem tw_ok {k : Int} (hk : k = 2 ∨ k = 3) {a b : T} (ha : okT a = true) (hb : okT b = true) : okT (twT k a b) = true := by
  have h2 : okA k (z4 zeros) 0 0 2 = true := by
    unfold okA
    exact decide_eq_true (.inr (.inr (.inl ⟨hk, by decide, rfl, rfl, Nat.le_refl _⟩)))
  rw [okT, oksT, oksT, oksT, ha, hb]
  rw [show okA k (z4 zeros) 0 0 [a, b].length = true from h2]
  rfl
theorem tw_cl {a b : T} (k : Int) (ha : ClN a) (hb : ClN b) : ClN (twT k a b) := by
  rw [ClN, clN_mem]
  refine ⟨clN_zero, fun x hx => ?_⟩
  rcases List.mem_cons.1 hx with rfl | hx
  · exact ha
  · rw [List.mem_singleton.1 hx]; exact hb
theorem tw_sz (k : Int) (a b : T) : szT (twT k a b) = szT a + szT b + 1 := by
  show szT (.node k zeros 0 0 [a, b]) = _
  simp [szT, szsT]
theorem tw_laid {W : World} {R Q : Nat → Prop} {k : Int} {a b : V} {pb : Nat} {u v : Value} (hu : a.v = u) (hv : b.v = v) (ha : Laid W R a) (hb : Laid W Q b)
    (a0 : W.heap[pb]? = some (.cells #[.int .i64 a.kind, .int .u64 (a.set 0 : Nat), .int .u64 (a.set 1 : Nat), .int .u64 (a.set 2 : Nat), .int .u64 (a.set 3 : Nat), u, .int .i64 a.lo, .int .i64 a.hi, .int .i64 b.kind, .int .u64 (b.set 0 : Nat), .int .u64 (b.set 1 : Nat), .int .u64 (b.set 2 : Nat), .int .u64 (b.set 3 : Nat), v, .int .i64 b.lo, .int .i64 b.hi] 27 (0, 0))) : Laid W (fun _ => True) (twV k a b pb) := by
  refine .some k zeros 0 0 [a, b] pb 0 2 trivial (Array.getElem?_eq_some_iff.1 a0).1 (Nat.le_refl _) (fun j x hx i y hy => ?_) (fun x hx => ?_)
  · have hi : i < 8 := by have := (List.getElem?_eq_some_iff.1 hy).1; rwa [ndc_length] at this
    rw [(row_cells a0).1, List.getElem?_toArray]
    have h8 : i = 0 ∨ i = 1 ∨ i = 2 ∨ i = 3 ∨ i = 4 ∨ i = 5 ∨ i = 6 ∨ i = 7 := by omega
    match j, hx with
    | 0, hx =>
      rw [← Option.some.inj hx] at hy
      unfold ndc at hy
      rw [hu] at hy
      rcases h8 with rfl | rfl | rfl | rfl | rfl | rfl | rfl | rfl <;> exact hy
    | 1, hx =>
      rw [← Option.some.inj hx] at hy
      unfold ndc at hy
      rw [hv] at hy
      rcases h8 with rfl | rfl | rfl | rfl | rfl | rfl | rfl | rfl <;> exact hy
    | j + 2, hx => simp at hx
  · rcases List.mem_cons.1 hx with rfl | hx
    · exact ha.mono fun _ _ _ => trivial
    · rw [List.mem_singleton.1 hx]; exact hb.mono fun _ _ _ => trivial
theorem lgB_alt (a b : T) (wd : List Nat) : lgB (twT 3 a b) wd = (lgB a wd || lgB b wd) := by
  rw [Bool.eq_iff_iff, Bool.or_eq_true, lgB_iff, lgB_iff, lgB_iff, lg_three rfl, lga_cons, lga_cons, lga_nil, or_false]
set_option maxHeartbeats 8000000 in
set_option maxRecDepth 100000 in
theorem either11_walk (a b : V) (wd : List Nat) (capw : Nat) (A : Option Addr) (w : World) (R Q : Nat → Prop) (ha : Laid w R a) (hb : Laid w Q b) (hCa : ClN (erase a)) (hCb : ClN (erase b)) (hW : WrdA w A wd) (hT : TabW w) :
    Calls Tryd.prog 4 #[nodeAgg a, nodeAgg b, .slice A wd.length capw] w fun e w' => e = .returned (.bool true) ∧ Below w.heap.size w w' := by
  obtain ⟨sa, sc, hva, _⟩ := laid_row' ha
  obtain ⟨ta, tc, hvb, _⟩ := laid_row' hb
  obtain ⟨sn, hsn⟩ : ∃ sn, sn = a.ps.length := ⟨_, rfl⟩
  obtain ⟨tn, htn⟩ : ∃ tn, tn = b.ps.length := ⟨_, rfl⟩
  rw [← hsn] at hva
  rw [← htn] at hvb
  obtain ⟨w2, hw2, hb2, hlt2, hbx⟩ := box_new w a (.slice sa sn sc)
  obtain ⟨w3, hw3, hb3, hlt3, hby⟩ := box_new w2 b (.slice ta tn tc)
  have hb23 := bhop hb2 hb3
  have HBo := Lib.hid (fun (W : World) (h : Below w.heap.size w W) => by
    have := both_any a b W R Q wd.length capw A (laid_low ha h) (laid_low hb h)
    rw [nodeAgg_v hva, nodeAgg_v hvb] at this
    exact this)
  have HIa := Lib.hid (fun (W : World) (h : Below w.heap.size w W) (hz : szT (erase a) ≤ 40) (hok : okT (erase a) = true) (hn : wd.length ≤ 200) => by
    have := is11_any a W _ wd wd.length capw A (laid_low ha h) hok (by omega) hCa (hW.below h) rfl hn (hT.below h)
    rw [nodeAgg_v hva] at this
    exact this)
  have HIb := Lib.hid (fun (W : World) (h : Below w.heap.size w W) (hz : szT (erase b) ≤ 40) (hok : okT (erase b) = true) (hn : wd.length ≤ 200) => by
    have := is11_any b W _ wd wd.length capw A (laid_low hb h) hok (by omega) hCb (hW.below h) rfl hn (hT.below h)
    rw [nodeAgg_v hvb] at this
    exact this)
  have HIt := Lib.hid (fun (W : World) (h : Below w.heap.size w W) (pb : Nat) (a0 : W.heap[pb]? = some (.cells #[.int .i64 a.kind, .int .u64 (a.set 0 : Nat), .int .u64 (a.set 1 : Nat), .int .u64 (a.set 2 : Nat), .int .u64 (a.set 3 : Nat), .slice sa sn sc, .int .i64 a.lo, .int .i64 a.hi, .int .i64 b.kind, .int .u64 (b.set 0 : Nat), .int .u64 (b.set 1 : Nat), .int .u64 (b.set 2 : Nat), .int .u64 (b.set 3 : Nat), .slice ta tn tc, .int .i64 b.lo, .int .i64 b.hi] 27 (0, 0))) (hz : szT (erase a) ≤ 40) (hz2 : szT (erase b) ≤ 40) (hok : okT (erase a) = true) (hok2 : okT (erase b) = true) (hn : wd.length ≤ 200) => by
    have := is11_any (twV 3 a b pb) W _ wd wd.length capw A (tw_laid hva hvb (laid_low ha h) (laid_low hb h) a0) (by rw [tw_er]; exact tw_ok (.inr rfl) hok hok2) (by rw [tw_er, tw_sz]; omega) (by rw [tw_er]; exact tw_cl 3 hCa hCb) (hW.below h) rfl hn (hT.below h)
    rw [tw_er, lgB_alt] at this
    exact this)
  have HAw := Lib.hid (fun (W : World) (h : Below w.heap.size w W) => awake11_any W (hT.below h))
  have HX := Lib.hid (fun (W : World) (h : Below w3.heap.size w3 W) => And.intro (hbx W (bhop hb3 h)) (hby W h))
  have HB := Lib.hid (And.intro hb23 (And.intro hb2 hlt2))
  obtain ⟨⟨x0, x1, x2, x3, x4, x5, x6, x7⟩, y0, y1, y2, y3, y4, y5, y6, y7⟩ := HX.out w3 (Below.refl _ _)
  rw [nodeAgg_v hva, nodeAgg_v hvb]
  clear ha hb hva hvb hsn htn hb2 hb3 hb23 hbx hby hW hT hCa hCb
  go_enter Tryd.func4, Tryd.ntmps4
  go_wp2_with fail
  clear hw2 hw3
  go_at_call 9
  refine (HAw.out _ HB.out.1).mono ?_
  rintro e w4 ⟨rfl, hb4⟩
  have HB4 := Lib.hid (bhop HB.out.1 hb4)
  have HC4 := Lib.hid hb4
  clear hb4 x0 x1 x2 x3 x4 x5 x6 x7 y0 y1 y2 y3 y4 y5 y6 y7
  obtain ⟨⟨x0, x1, x2, x3, x4, x5, x6, x7⟩, y0, y1, y2, y3, y4, y5, y6, y7⟩ := HX.out w4 HC4.out
  go_wp2_with fail
  go_at_call 10
  refine (HBo.out _ HB4.out).mono ?_
  rintro e w5 ⟨rfl, hb5⟩
  have HB5 := Lib.hid (bhop HB4.out hb5)
  have HC5 := Lib.hid (bhop HC4.out hb5)
  clear hb5 x0 x1 x2 x3 x4 x5 x6 x7 y0 y1 y2 y3 y4 y5 y6 y7
  obtain ⟨bb, hbb⟩ : ∃ bb, bb = bothB (erase a) (erase b) wd.length := ⟨_, rfl⟩
  rw [← hbb]
  have HBb := Lib.hid hbb
  clear hbb
  cases bb with
  | false =>
    go_wp2_with fail
    go_at_call 9
    refine (HAw.out _ HB5.out).mono ?_
    rintro e w6 ⟨rfl, hb6⟩
    have HB6 := Lib.hid (bhop HB5.out hb6)
    go_wp2_with fail
    go_ret
    exact ⟨rfl, HB6.out⟩
  | true =>
    have hal := of_decide_eq_true HBb.out.symm
    go_upto_region 3 with fail
    obtain ⟨ba, hba⟩ : ∃ ba, ba = lgB (erase a) wd := ⟨_, rfl⟩
    obtain ⟨bc, hbc⟩ : ∃ bc, bc = lgB (erase b) wd := ⟨_, rfl⟩
    rw [← hba] at HIa HIt
    rw [← hbc] at HIb HIt
    clear hba hbc
    cases ba with
    | true =>
      simp only [Bool.true_or] at HIt
      refine regEt a.kind (a.set 0 : Nat) (a.set 1 : Nat) (a.set 2 : Nat) (a.set 3 : Nat) a.lo a.hi sa sn sc b.kind (b.set 0 : Nat) (b.set 1 : Nat) (b.set 2 : Nat) (b.set 3 : Nat) b.lo b.hi ta tn tc w.heap.size w2.heap.size wd.length capw A _ _ _ _ _ _ _ _ _ _ _ _ _ _ _ _ _ _ _ _ _ _ _ _ _ _ _ _ _ _ w5 (fun W h => (HX.out W (bhop HC5.out h)).1) (fun W h => (HX.out W (bhop HC5.out h)).2) ?_ (fun W h => HIa.out W (bhop HB5.out h) hal.1 hal.2.2.2.1 (by omega)) _ ?_
      · rintro W u h ⟨pb, rfl, hpb⟩
        exact HIt.out W (bhop HB5.out h) pb hpb hal.1 hal.2.1 hal.2.2.2.1 hal.2.2.2.2 (by omega)
      · intros
        rename_i W' hW'
        have HW := Lib.hid hW'
        clear hW'
        go_wp2_with fail
        go_ret
        exact ⟨rfl, bhop HB5.out HW.out⟩
    | false =>
      simp only [Bool.false_or] at HIt
      refine regEf a.kind (a.set 0 : Nat) (a.set 1 : Nat) (a.set 2 : Nat) (a.set 3 : Nat) a.lo a.hi sa sn sc b.kind (b.set 0 : Nat) (b.set 1 : Nat) (b.set 2 : Nat) (b.set 3 : Nat) b.lo b.hi ta tn tc w.heap.size w2.heap.size wd.length capw A bc _ _ _ _ _ _ _ _ _ _ _ _ _ _ _ _ _ _ _ _ _ _ _ _ _ _ _ _ _ _ w5 (fun W h => (HX.out W (bhop HC5.out h)).1) (fun W h => (HX.out W (bhop HC5.out h)).2) ?_ (fun W h => HIa.out W (bhop HB5.out h) hal.1 hal.2.2.2.1 (by omega)) (fun W h => HIb.out W (bhop HB5.out h) hal.2.1 hal.2.2.2.2 (by omega)) _ ?_
      · rintro W u h ⟨pb, rfl, hpb⟩
        exact HIt.out W (bhop HB5.out h) pb hpb hal.1 hal.2.1 hal.2.2.2.1 hal.2.2.2.2 (by omega)
      · intros
        rename_i W' hW'
        have HW := Lib.hid hW'
        clear hW'
        go_wp2_with fail
        go_ret
        exact ⟨rfl, bhop HB5.out HW.out⟩

end Go.Proofs.YtdjddmkmcdfmiaaDoor
