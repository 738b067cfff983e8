/- The walk of the statement SpanCuts: called with two trees and a word it returns true and changes nothing that was there.
   Conditions: the trees, the word and the library's table lie in memory. -/
import Derived.Test.YtdjddmkmcdfmiaaDoorSpCR

namespace Go.Proofs.YtdjddmkmcdfmiaaDoor
open Go.RowKit Go.Shelf
attribute [local go_sem] nodeAgg

/-- Two trees in a row, in a block of their own. -/
abbrev twV (k : Int) (a b : V) (pb : Nat) : V := .node k zeros 0 0 (.slice (some ⟨pb, 0, none⟩) 2 2) [a, b]
abbrev twT (k : Int) (a b : T) : T := .node k zeros 0 0 [a, b]
theorem tw_er (k : Int) (a b : V) (pb : Nat) : erase (twV k a b pb) = twT k (erase a) (erase b) := by
  show T.node k zeros 0 0 (erases _) = _
  rw [erases, erases, erases]
theorem tw_ok {k : Int} (hk : k = 2 ∨ k = 3) {a b : T} (ha : okT a = true) (hb : okT b = true) : okT (twT k a b) = true := by
  have h2 : okA k (z4 zeros) 0 0 2 = true := by
    unfold okA
    exact decide_eq_true (.inr (.inr (.inl ⟨hk, by decide, rfl, rfl, Nat.le_refl _⟩)))
  rw [okT, oksT, oksT, oksT, ha, hb]
  rw [show okA k (z4 zeros) 0 0 [a, b].length = true from h2]
  rfl
theorem tw_cl {a b : T} (k : Int) (ha : ClN a) (hb : ClN b) : ClN (twT k a b) := by
  rw [ClN, clN_mem]
  refine ⟨clN_zero, fun x hx => ?_⟩
  rcases List.mem_cons.1 hx with rfl | hx
  · exact ha
  · rw [List.mem_singleton.1 hx]; exact hb
theorem tw_sz (k : Int) (a b : T) : szT (twT k a b) = szT a + szT b + 1 := by
  show szT (.node k zeros 0 0 [a, b]) = _
  simp [szT, szsT]
theorem tw_laid {W : World} {R Q : Nat → Prop} {k : Int} {a b : V} {pb : Nat} {u v : Value} (hu : a.v = u) (hv : b.v = v) (ha : Laid W R a) (hb : Laid W Q b)
    (a0 : W.heap[pb]? = some (.cells #[.int .i64 a.kind, .int .u64 (a.set 0 : Nat), .int .u64 (a.set 1 : Nat), .int .u64 (a.set 2 : Nat), .int .u64 (a.set 3 : Nat), u, .int .i64 a.lo, .int .i64 a.hi, .int .i64 b.kind, .int .u64 (b.set 0 : Nat), .int .u64 (b.set 1 : Nat), .int .u64 (b.set 2 : Nat), .int .u64 (b.set 3 : Nat), v, .int .i64 b.lo, .int .i64 b.hi] 27 (0, 0))) : Laid W (fun _ => True) (twV k a b pb) := by
  refine .some k zeros 0 0 [a, b] pb 0 2 trivial (Array.getElem?_eq_some_iff.1 a0).1 (Nat.le_refl _) (fun j x hx i y hy => ?_) (fun x hx => ?_)
  · have hi : i < 8 := by have := (List.getElem?_eq_some_iff.1 hy).1; rwa [ndc_length] at this
    rw [(row_cells a0).1, List.getElem?_toArray]
    have h8 : i = 0 ∨ i = 1 ∨ i = 2 ∨ i = 3 ∨ i = 4 ∨ i = 5 ∨ i = 6 ∨ i = 7 := by omega
    match j, hx with
    | 0, hx =>
      rw [← Option.some.inj hx] at hy
      unfold ndc at hy
      rw [hu] at hy
      rcases h8 with rfl | rfl | rfl | rfl | rfl | rfl | rfl | rfl <;> exact hy
    | 1, hx =>
      rw [← Option.some.inj hx] at hy
      unfold ndc at hy
      rw [hv] at hy
      rcases h8 with rfl | rfl | rfl | rfl | rfl | rfl | rfl | rfl <;> exact hy
    | j + 2, hx => simp at hx
  · rcases List.mem_cons.1 hx with rfl | hx
    · exact ha.mono fun _ _ _ => trivial
    · rw [List.mem_singleton.1 hx]; exact hb.mono fun _ _ _ => trivial
/-- Cut into one of each, somewhere before place i. -/
noncomputable def cutB (a b : T) (wd : List Nat) (i : Nat) : Bool := @decide (∃ j, j < i ∧ Lg a (wd.take j) ∧ Lg b (wd.drop j)) (Classical.propDecidable _)
theorem cutB_iff {a b : T} {wd : List Nat} {i : Nat} : cutB a b wd i = true ↔ ∃ j, j < i ∧ Lg a (wd.take j) ∧ Lg b (wd.drop j) := by
  unfold cutB
  simp
theorem cutB_zero (a b : T) (wd : List Nat) : cutB a b wd 0 = false := by
  rw [← Bool.not_eq_true, cutB_iff]
  rintro ⟨j, h, _⟩
  omega
theorem cutB_succ (a b : T) (wd : List Nat) (i : Nat) : cutB a b wd (i + 1) = (cutB a b wd i || (lgB a (wd.take i) && lgB b (wd.drop i))) := by
  rw [Bool.eq_iff_iff, Bool.or_eq_true, Bool.and_eq_true, cutB_iff, cutB_iff, lgB_iff, lgB_iff]
  constructor
  · rintro ⟨j, hj, h⟩
    by_cases e : j = i
    · subst e; exact .inr h
    · exact .inl ⟨j, by omega, h⟩
  · rintro (⟨j, hj, h⟩ | h)
    · exact ⟨j, by omega, h⟩
    · exact ⟨i, by omega, h⟩
theorem cutB_all (a b : T) (wd : List Nat) : cutB a b wd (wd.length + 1) = lgB (twT 2 a b) wd := by
  rw [Bool.eq_iff_iff, cutB_iff, lgB_iff, lg_two rfl, lgc_cons]
  constructor
  · rintro ⟨j, _, h1, h2⟩
    exact ⟨_, _, (List.take_append_drop j wd).symm, h1, (lgc_one _ _).2 h2⟩
  · rintro ⟨x, y, rfl, h1, h2⟩
    refine ⟨x.length, by simp; omega, by simpa using h1, ?_⟩
    simpa using (lgc_one _ _).1 h2
/-- Where a part of a word begins. -/
abbrev cutA (A : Option Addr) (cw l : Nat) : Option Addr := if cw = l then A else A.map (·.add l)
theorem run_cutL (A : Option Addr) (ln cw i : Nat) (h : i ≤ cw) (W : World) : (Instr.slice 28 (.slice A ln cw) none (some (.int .i64 i)) none).run Tryd.prog W = .ok (.slice (cutA A cw 0) i cw) W := by
  have h1 : (i : Int) ≤ (cw : Int) := by omega
  have h2 : (0 : Int) ≤ (i : Int) := by omega
  go_simp
theorem run_cutR (A : Option Addr) (ln cw i : Nat) (h : i ≤ ln) (W : World) : (Instr.slice 28 (.slice A ln cw) (some (.int .i64 i)) none none).run Tryd.prog W = .ok (.slice (cutA A cw i) (ln - i) (cw - i)) W := by
  have h1 : (i : Int) ≤ (ln : Int) := by omega
  have h2 : (0 : Int) ≤ (i : Int) := by omega
  go_simp
theorem addN (b o i : Nat) : (⟨b, o, none⟩ : Addr).add i = ⟨b, o + i, none⟩ := by
  unfold Addr.add
  split
  · rename_i h; subst h; rfl
  · rfl
theorem WrdA.void (w : World) (A : Option Addr) : WrdA w A [] := ⟨0, 0, ⟨fun i b hb => by simp at hb, fun b hb => by simp at hb, fun h => absurd rfl h⟩, fun h => absurd rfl h⟩
theorem WrdA.cutL {w : World} {A : Option Addr} {wd : List Nat} (h : WrdA w A wd) (cw i : Nat) : WrdA w (cutA A cw 0) (wd.take i) := by
  by_cases hn : wd = []
  · subst hn; rw [List.take_nil]; exact .void _ _
  · obtain ⟨g, o, h1, h2⟩ := h
    refine ⟨g, o, ⟨fun j b hb => ?_, fun b hb => h1.lt b (List.mem_of_mem_take hb), fun _ => h1.blk hn⟩, fun _ => ?_⟩
    · have hj := (List.getElem?_eq_some_iff.1 hb).1
      simp at hj
      rw [List.getElem?_take_of_lt (by omega)] at hb
      exact h1.cell j b hb
    · rw [h2 hn]
      unfold cutA
      split
      · rfl
      · rw [Option.map_some, addN]; rfl
theorem WrdA.cutR {w : World} {A : Option Addr} {wd : List Nat} (h : WrdA w A wd) (cw i : Nat) (hc : wd.length ≤ cw) : WrdA w (cutA A cw i) (wd.drop i) := by
  by_cases hn : wd.drop i = []
  · rw [hn]; exact .void _ _
  · have hlt : i < wd.length := by
      by_cases hl : i < wd.length
      · exact hl
      · exact absurd (List.drop_eq_nil_of_le (by omega)) hn
    have hne : wd ≠ [] := by rintro rfl; simp at hlt
    obtain ⟨g, o, h1, h2⟩ := h
    refine ⟨g, o + i, ⟨fun j b hb => ?_, fun b hb => h1.lt b (List.mem_of_mem_drop hb), fun _ => h1.blk hne⟩, fun _ => ?_⟩
    · rw [List.getElem?_drop] at hb
      rw [Nat.add_assoc]
      exact h1.cell _ b hb
    · rw [h2 hne]
      unfold cutA
      rw [if_neg (by omega), Option.map_some, addN]
set_option maxHeartbeats 8000000 in
set_option maxRecDepth 100000 in
theorem cuts11_walk (a b : V) (wd : List Nat) (capw : Nat) (A : Option Addr) (w : World) (R Q : Nat → Prop) (ha : Laid w R a) (hb : Laid w Q b) (hCa : ClN (erase a)) (hCb : ClN (erase b)) (hW : WrdA w A wd) (hcw : wd.length ≤ capw) (hT : TabW w) :
    Calls Tryd.prog 3 #[nodeAgg a, nodeAgg b, .slice A wd.length capw] w fun e w' => e = .returned (.bool true) ∧ Below w.heap.size w w' := by
  obtain ⟨sa, sc, hva, _⟩ := laid_row' ha
  obtain ⟨ta, tc, hvb, _⟩ := laid_row' hb
  obtain ⟨sn, hsn⟩ : ∃ sn, sn = a.ps.length := ⟨_, rfl⟩
  obtain ⟨tn, htn⟩ : ∃ tn, tn = b.ps.length := ⟨_, rfl⟩
  rw [← hsn] at hva
  rw [← htn] at hvb
  obtain ⟨w2, hw2, hb2, hlt2, hbx⟩ := box_new w a (.slice sa sn sc)
  obtain ⟨w3, hw3, hb3, hlt3, hby⟩ := box_new w2 b (.slice ta tn tc)
  have hb23 := bhop hb2 hb3
  have HBo := Lib.hid (fun (W : World) (h : Below w.heap.size w W) => by
    have := both_any a b W R Q wd.length capw A (laid_low ha h) (laid_low hb h)
    rw [nodeAgg_v hva, nodeAgg_v hvb] at this
    exact this)
  have HIa := Lib.hid (fun (W : World) (h : Below w.heap.size w W) (i : Nat) (hi : i ≤ wd.length) (hz : szT (erase a) ≤ 40) (hok : okT (erase a) = true) (hn : wd.length ≤ 200) => by
    have := is11_any a W _ (wd.take i) i capw (cutA A capw 0) (laid_low ha h) hok (by omega) hCa ((hW.below h).cutL capw i) (by simp; omega) (by simp; omega) (hT.below h)
    rw [nodeAgg_v hva] at this
    exact this)
  have HIb := Lib.hid (fun (W : World) (h : Below w.heap.size w W) (i : Nat) (hz : szT (erase b) ≤ 40) (hok : okT (erase b) = true) (hn : wd.length ≤ 200) => by
    have := is11_any b W _ (wd.drop i) (wd.length - i) (capw - i) (cutA A capw i) (laid_low hb h) hok (by omega) hCb ((hW.below h).cutR capw i hcw) (by simp) (by simp; omega) (hT.below h)
    rw [nodeAgg_v hvb] at this
    exact this)
  have HIt := Lib.hid (fun (W : World) (h : Below w.heap.size w W) (pb : Nat) (a0 : W.heap[pb]? = some (.cells #[.int .i64 a.kind, .int .u64 (a.set 0 : Nat), .int .u64 (a.set 1 : Nat), .int .u64 (a.set 2 : Nat), .int .u64 (a.set 3 : Nat), .slice sa sn sc, .int .i64 a.lo, .int .i64 a.hi, .int .i64 b.kind, .int .u64 (b.set 0 : Nat), .int .u64 (b.set 1 : Nat), .int .u64 (b.set 2 : Nat), .int .u64 (b.set 3 : Nat), .slice ta tn tc, .int .i64 b.lo, .int .i64 b.hi] 27 (0, 0))) (hz : szT (erase a) ≤ 40) (hz2 : szT (erase b) ≤ 40) (hok : okT (erase a) = true) (hok2 : okT (erase b) = true) (hn : wd.length ≤ 200) => by
    have := is11_any (twV 2 a b pb) W _ wd wd.length capw A (tw_laid hva hvb (laid_low ha h) (laid_low hb h) a0) (by rw [tw_er]; exact tw_ok (.inl rfl) hok hok2) (by rw [tw_er, tw_sz]; omega) (by rw [tw_er]; exact tw_cl 2 hCa hCb) (hW.below h) rfl hn (hT.below h)
    rw [tw_er] at this
    exact this)
  have HAw := Lib.hid (fun (W : World) (h : Below w.heap.size w W) => awake11_any W (hT.below h))
  have HX := Lib.hid (fun (W : World) (h : Below w3.heap.size w3 W) => And.intro (hbx W (bhop hb3 h)) (hby W h))
  have HB := Lib.hid (And.intro hb23 (And.intro hb2 hlt2))
  obtain ⟨⟨x0, x1, x2, x3, x4, x5, x6, x7⟩, y0, y1, y2, y3, y4, y5, y6, y7⟩ := HX.out w3 (Below.refl _ _)
  rw [nodeAgg_v hva, nodeAgg_v hvb]
  clear ha hb hva hvb hsn htn hb2 hb3 hb23 hbx hby hW hT hCa hCb
  go_enter Tryd.func3, Tryd.ntmps3
  go_wp2_with fail
  clear hw2 hw3
  go_at_call 9
  refine (HAw.out _ HB.out.1).mono ?_
  rintro e w4 ⟨rfl, hb4⟩
  have HB4 := Lib.hid (bhop HB.out.1 hb4)
  have HC4 := Lib.hid hb4
  clear hb4 x0 x1 x2 x3 x4 x5 x6 x7 y0 y1 y2 y3 y4 y5 y6 y7
  obtain ⟨⟨x0, x1, x2, x3, x4, x5, x6, x7⟩, y0, y1, y2, y3, y4, y5, y6, y7⟩ := HX.out w4 HC4.out
  go_wp2_with fail
  go_at_call 10
  refine (HBo.out _ HB4.out).mono ?_
  rintro e w5 ⟨rfl, hb5⟩
  have HB5 := Lib.hid (bhop HB4.out hb5)
  have HC5 := Lib.hid (bhop HC4.out hb5)
  clear hb5 x0 x1 x2 x3 x4 x5 x6 x7 y0 y1 y2 y3 y4 y5 y6 y7
  obtain ⟨bb, hbb⟩ : ∃ bb, bb = bothB (erase a) (erase b) wd.length := ⟨_, rfl⟩
  rw [← hbb]
  have HBb := Lib.hid hbb
  clear hbb
  cases bb with
  | false =>
    go_wp2_with fail
    go_at_call 9
    refine (HAw.out _ HB5.out).mono ?_
    rintro e w6 ⟨rfl, hb6⟩
    have HB6 := Lib.hid (bhop HB5.out hb6)
    go_wp2_with fail
    go_ret
    exact ⟨rfl, HB6.out⟩
  | true =>
    have hal := of_decide_eq_true HBb.out.symm
    go_wp2_with fail
    go_loopw [7, 8] (fun c x wr => ∃ i : Nat, x = .int .i64 i ∧ i ≤ wd.length + 1 ∧ c = .bool (cutB (erase a) (erase b) wd i) ∧ Below w5.heap.size w5 wr) (fun _ x _ => match x with | .int _ z => wd.length + 1 - z.toNat | _ => 0)
    case atStart => exact ⟨0, rfl, by omega, by rw [cutB_zero], Below.refl _ _⟩
    case round =>
      obtain ⟨i, rfl, hi, rfl, hb6⟩ := hrel
      have HB6 := Lib.hid (bhop HB5.out hb6)
      have HC6 := Lib.hid hb6
      by_cases hle : i ≤ wd.length
      · have g1 : (i : Int) ≤ ((wd.length : Nat) : Int) := by omega
        have hw1 : IntKind.i64.wrap ((i : Int) + 1) = (i : Int) + 1 := by rw [IntKind.wrap_i64]; omega
        have HS := Lib.hid (cutB_succ (erase a) (erase b) wd i)
        have HI := Lib.hid (And.intro hle hi)
        have hs1 := run_cutL A wd.length capw i (by omega)
        have hs2 := run_cutR A wd.length capw i hle
        have HR := Lib.hid (And.intro hs1 hs2)
        clear hs1 hs2 hb6 hle hi
        obtain ⟨c, hc⟩ : ∃ c, c = cutB (erase a) (erase b) wd i := ⟨_, rfl⟩
        obtain ⟨b1, hb1⟩ : ∃ c, c = lgB (erase a) (wd.take i) := ⟨_, rfl⟩
        rw [← hc] at HS ⊢
        rw [← hb1] at HS
        go_upto_region 7 with fail
        cases c with
        | true =>
          refine regCa w.heap.size w2.heap.size wd.length capw A (i : Int) _ _ _ _ _ _ _ _ _ _ _ _ _ _ _ _ _ _ _ _ _ _ _ _ _ _ _ _ _ _ _ _ _ _ _ _ _ _ _ _ _ _ _ _ wr _ ?_
          intros
          rename_i W' hW'
          have HW := Lib.hid hW'
          clear hW'
          go_wp2_with fail
          go_roundw
          case rel => exact ⟨i + 1, by push_cast; rfl, by have := HI.out.1; omega, by rw [HS.out]; rfl, bhop HC6.out HW.out⟩
          case measure => have := HI.out.1; simp; omega
        | false =>
          cases b1 with
          | false =>
            refine regCb a.kind (a.set 0 : Nat) (a.set 1 : Nat) (a.set 2 : Nat) (a.set 3 : Nat) a.lo a.hi sa sn sc w.heap.size w2.heap.size wd.length capw i capw A (cutA A capw 0) (i : Int) _ _ _ _ _ _ _ _ _ _ _ _ _ _ _ _ _ _ _ _ _ _ _ _ _ _ _ _ _ _ _ _ _ _ _ _ _ _ _ _ _ _ _ _ wr (fun W h => (HX.out W (bhop HC5.out (bhop HC6.out h))).1) HR.out.1 (fun W h => by
              have := HIa.out W (bhop HB6.out h) i HI.out.1 hal.1 hal.2.2.2.1 (by omega)
              rw [← hb1] at this
              exact this) _ ?_
            intros
            rename_i W' hW'
            have HW := Lib.hid hW'
            clear hW'
            go_wp2_with fail
            go_roundw
            case rel => exact ⟨i + 1, by push_cast; rfl, by have := HI.out.1; omega, by rw [HS.out]; rfl, bhop HC6.out HW.out⟩
            case measure => have := HI.out.1; simp; omega
          | true =>
            refine regCc a.kind (a.set 0 : Nat) (a.set 1 : Nat) (a.set 2 : Nat) (a.set 3 : Nat) a.lo a.hi sa sn sc b.kind (b.set 0 : Nat) (b.set 1 : Nat) (b.set 2 : Nat) (b.set 3 : Nat) b.lo b.hi ta tn tc w.heap.size w2.heap.size wd.length capw i capw (wd.length - i) (capw - i) A (cutA A capw 0) (cutA A capw i) (i : Int) (lgB (erase b) (wd.drop i)) _ _ _ _ _ _ _ _ _ _ _ _ _ _ _ _ _ _ _ _ _ _ _ _ _ _ _ _ _ _ _ _ _ _ _ _ _ _ _ _ _ _ _ _ wr (fun W h => (HX.out W (bhop HC5.out (bhop HC6.out h))).1) HR.out.1 (fun W h => by
              have := HIa.out W (bhop HB6.out h) i HI.out.1 hal.1 hal.2.2.2.1 (by omega)
              rw [← hb1] at this
              exact this) (fun W h => (HX.out W (bhop HC5.out (bhop HC6.out h))).2) HR.out.2 (fun W h => HIb.out W (bhop HB6.out h) i hal.2.1 hal.2.2.2.2 (by omega)) _ ?_
            intros
            rename_i W' hW'
            have HW := Lib.hid hW'
            clear hW'
            go_wp2_with fail
            go_roundw
            case rel => exact ⟨i + 1, by push_cast; rfl, by have := HI.out.1; omega, by rw [HS.out]; rfl, bhop HC6.out HW.out⟩
            case measure => have := HI.out.1; simp; omega
      · have hie : i = wd.length + 1 := by omega
        have g1 : ¬ (i : Int) ≤ ((wd.length : Nat) : Int) := by omega
        have HS := Lib.hid (show cutB (erase a) (erase b) wd i = lgB (twT 2 (erase a) (erase b)) wd by rw [hie]; exact cutB_all (erase a) (erase b) wd)
        obtain ⟨c, hc⟩ : ∃ c, c = cutB (erase a) (erase b) wd i := ⟨_, rfl⟩
        rw [← hc] at HS ⊢
        rw [← HS.out] at HIt
        clear hc hie hle hi hb6
        obtain ⟨⟨x0, x1, x2, x3, x4, x5, x6, x7⟩, y0, y1, y2, y3, y4, y5, y6, y7⟩ := HX.out wr (bhop HC5.out HC6.out)
        obtain ⟨w8, hw8⟩ : ∃ w8, wr.alloc (.cells #[.int .i64 a.kind, .int .u64 (a.set 0 : Nat), .int .u64 (a.set 1 : Nat), .int .u64 (a.set 2 : Nat), .int .u64 (a.set 3 : Nat), .slice sa sn sc, .int .i64 a.lo, .int .i64 a.hi, .int .i64 b.kind, .int .u64 (b.set 0 : Nat), .int .u64 (b.set 1 : Nat), .int .u64 (b.set 2 : Nat), .int .u64 (b.set 3 : Nat), .slice ta tn tc, .int .i64 b.lo, .int .i64 b.hi] 27) = w8 := ⟨_, rfl⟩
        have hb8 : Below wr.heap.size wr w8 := hw8 ▸ (Below.refl _ wr).alloc (Nat.le_refl _) _
        have hq8 : w8.heap[wr.heap.size]? = some (.cells #[.int .i64 a.kind, .int .u64 (a.set 0 : Nat), .int .u64 (a.set 1 : Nat), .int .u64 (a.set 2 : Nat), .int .u64 (a.set 3 : Nat), .slice sa sn sc, .int .i64 a.lo, .int .i64 a.hi, .int .i64 b.kind, .int .u64 (b.set 0 : Nat), .int .u64 (b.set 1 : Nat), .int .u64 (b.set 2 : Nat), .int .u64 (b.set 3 : Nat), .slice ta tn tc, .int .i64 b.lo, .int .i64 b.hi] 27 (0, 0)) := by rw [← hw8]; exact heap_alloc_new wr _
        have HB8 := Lib.hid (bhop HB6.out hb8)
        have HIc := Lib.hid (HIt.out w8 HB8.out _ hq8 hal.1 hal.2.1 hal.2.2.2.1 hal.2.2.2.2 (by omega))
        clear hb8 hq8 HIt
        go_wp2_with fail
        clear hw8 x0 x1 x2 x3 x4 x5 x6 x7 y0 y1 y2 y3 y4 y5 y6 y7
        go_at_call 11
        refine HIc.out.mono ?_
        rintro e w9 ⟨rfl, hb9⟩
        have HB9 := Lib.hid (bhop HB8.out hb9)
        clear hb9
        cases c with
        | false =>
          go_wp2_with fail
          go_ret
          exact ⟨rfl, HB9.out⟩
        | true =>
          go_wp2_with fail
          go_ret
          exact ⟨rfl, HB9.out⟩

end Go.Proofs.YtdjddmkmcdfmiaaDoor
