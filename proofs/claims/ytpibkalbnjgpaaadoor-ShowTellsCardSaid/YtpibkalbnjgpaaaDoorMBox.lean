/- Numbers are written in base ten, wherever the library's table lies: off the condition of the statements' own row.
   Condition: what the row lists as laid lies in memory. -/
import Derived.Test.YtpibkalbnjgpaaaDoorMSet
import Derived.Test.YtpibkalbnjgpaaaDoorMForm
import Derived.Test.YtpibkalbnjgpaaaDoorMTa
import Derived.Test.YtpibkalbnjgpaaaDoorMRef
import Derived.Test.YtpibkalbnjgpaaaDoorFmtL
import Derived.Test.YtpibkalbnjgpaaaDoorRows
import Derived.MakeChecks
import Derived.Stop.LaidErr
import Derived.Lib.LaidTab

/- The walk of the statement ShowBytes: called with a byte it returns true and changes nothing that was there.
   Condition: a byte is below 256. -/
namespace Go.Proofs.YtpibkalbnjgpaaaDoor
open Go.RowKit Go.Shelf
attribute [local go_sem] nodeAgg

def chk (c : Nat) : Bool := match pplain marks (byT c) with
  | .ok a [] => a == c
  | _ => false
theorem chk_all : ∀ c, c < 256 → chk c = true := by decide +kernel
theorem pplain_byt {c : Nat} (hc : c < 256) : pplain marks (byT c) = .ok c [] := by
  have h := chk_all c hc
  unfold chk at h
  split at h
  · rename_i a e
    rw [e]
    simp at h
    rw [h]
  · cases h
def hd0 (c : Nat) : Bool := match byT c with
  | [] => false
  | b :: _ => decide (b ≠ 46 ∧ b ≠ 91 ∧ b ≠ 40 ∧ b ≠ 124 ∧ b ≠ 41 ∧ ¬ (b = 42 ∨ b = 43 ∨ b = 63 ∨ b = 123))
theorem hd0_all : ∀ c, c < 256 → hd0 c = true := by decide +kernel
theorem byT_len (c : Nat) : (byT c).length ≤ 4 := by
  unfold byT
  split
  · simp
  · split
    · simp
    · split
      · simp
      · split <;> simp [esc2]
/-- A byte's text is read as that byte. -/
theorem parse_byt {c : Nat} (hc : c < 256) : pparse (byT c) = (atomT (between c c), 0, 0) := by
  have h1 := pplain_byt hc
  have h2 := hd0_all c hc
  have h3 := byT_len c
  unfold hd0 at h2
  cases hb : byT c with
  | nil => rw [hb] at h2; cases h2
  | cons b r =>
    rw [hb] at h1 h2 h3
    simp only [decide_eq_true_iff] at h2
    obtain ⟨a1, a2, a3, a4, a5, a6⟩ := h2
    have hp : pset (b :: r) = .ok (between c c) [] := by rw [pset_plain a1 a2, h1]
    have hs : pstep ⟨[], []⟩ [] (b :: r) = .ok (⟨[], [] ++ [atomT (between c c)]⟩, []) [] := by
      simp only [pstep]
      rw [if_neg a3, if_neg a4, if_neg a5, if_neg a6, hp]
    rw [pparse_ok (by omega) (r := []) (t := atomT (between c c)) (by
      rw [prun_cons, hs]
      simp only
      rw [prun_nil]
      rfl), if_neg (by simp [dptT, dptsT, plcT, plcsT, atomT])]
theorem u8_inj : ∀ (a b : List UInt8), a.map UInt8.toNat = b.map UInt8.toNat → a = b
  | [], [], _ => rfl
  | [], _ :: _, h => by simp at h
  | _ :: _, [], h => by simp at h
  | x :: a, y :: b, h => by
    simp only [List.map_cons, List.cons.injEq] at h
    rw [UInt8.toNat_inj.1 h.1, u8_inj a b h.2]
theorem txt_inj {a b : ByteArray} (h : txt a = txt b) : a = b := by
  have := u8_inj _ _ h
  cases a
  cases b
  congr
  exact Array.toList_inj.1 this

set_option maxHeartbeats 1000000 in
set_option maxRecDepth 100000 in
theorem awake3_any (w : World) : Calls Tryd.prog 7 #[] w fun e w' => e = .returned (.bool true) ∧ Below w.heap.size w w' := by
  go_enter Tryd.func7, Tryd.ntmps7
  go_wp2_with fail
  go_at_call 16
  refine (byte_any 0 (by decide) _).mono ?_
  rintro e w1 ⟨s, hs, rfl, hb1⟩
  obtain rfl : s = { data := #[92, 120, 48, 48] } := txt_inj (hs.trans (by decide))
  have HB := Lib.hid hb1
  clear hb1 hs
  go_wp2_with fail
  go_at_call 16
  refine (byte_any 42 (by decide) _).mono ?_
  rintro e w2 ⟨s, hs, rfl, hb2⟩
  obtain rfl : s = { data := #[92, 42] } := txt_inj (hs.trans (by decide))
  have HB2 := Lib.hid (below_hop HB.out hb2)
  clear hb2 hs
  go_wp2_with fail
  go_ret
  exact ⟨rfl, HB2.out⟩

theorem same_one {v : V} {c : Nat} {sa : Option Addr} {sn sc : Nat} (her : erase v = atomT (between c c)) (hsl : v.v = .slice sa sn sc) (w : World) (R : Nat → Prop) (hl : Laid w R v) :
    Calls Tryd.prog 15 #[.agg #[.int .i64 v.kind, .int .u64 (v.set 0 : Nat), .int .u64 (v.set 1 : Nat), .int .u64 (v.set 2 : Nat), .int .u64 (v.set 3 : Nat), .slice sa sn sc, .int .i64 v.lo, .int .i64 v.hi], .agg #[.int .i64 1, .int .u64 (v.set 0 : Nat), .int .u64 (v.set 1 : Nat), .int .u64 (v.set 2 : Nat), .int .u64 (v.set 3 : Nat), .slice none 0 0, .int .i64 0, .int .i64 0]] w fun e w' => e = .returned (.bool true) ∧ Below w.heap.size w w' := by
  obtain ⟨_, hst, _⟩ := erase_node (show erase v = .node 1 (canon (between c c)) 0 0 [] from her)
  have h := same_ref 1000000 (Nat.le_refl _) v (.node 1 v.set 0 0 (.slice none 0 0) []) w R (fun _ => True) (by rw [her]; unfold atomT; rw [szT, szsT]; omega) hl (.none 1 v.set 0 0 none 0)
  have e : erase (V.node 1 v.set 0 0 (.slice none 0 0) []) = erase v := by rw [her, erase, erases, hst]; rfl
  rw [e, like_self] at h
  unfold nodeAgg at h
  rw [hsl] at h
  exact h
theorem text_one2 {v : V} {c : Nat} {sa : Option Addr} {sn sc : Nat} (hc : c < 256) (her : erase v = atomT (between c c)) (hsl : v.v = .slice sa sn sc) (w : World) (R : Nat → Prop) (hl : Laid w R v) :
    Calls Tryd.prog 10 #[.agg #[.int .i64 v.kind, .int .u64 (v.set 0 : Nat), .int .u64 (v.set 1 : Nat), .int .u64 (v.set 2 : Nat), .int .u64 (v.set 3 : Nat), .slice sa sn sc, .int .i64 v.lo, .int .i64 v.hi]] w (Wrote (byT c) w) := by
  have h := text_one v c hc her w R hl
  unfold nodeAgg at h
  rw [hsl] at h
  exact h

set_option maxHeartbeats 4000000 in
set_option maxRecDepth 100000 in
theorem bytes3_walk (c : Nat) (hc : c < 256) (w : World) : Calls Tryd.prog 6 #[.int .u8 c] w fun e w' => e = .returned (.bool true) ∧ Below w.heap.size w w' := by
  have hp := parse_byt hc
  have n1 : (0 : Int) ≤ (c : Int) := by omega
  have n2 : (c : Int) ≤ 255 := by omega
  go_enter Tryd.func6, Tryd.ntmps6
  go_wp2_with fail
  go_at_call 16
  refine (byte_any c hc _).mono ?_
  rintro e w1 ⟨s, hs, rfl, hb1⟩
  rw [← hs] at hp
  have HS := Lib.hid hs
  clear hs
  go_wp2_with fail
  go_at_call 12
  refine (parse_any s _).mono ?_
  rintro e w2 ⟨v, sa, sn, sc, hsl, rfl, her, hl, hb2⟩
  rw [hp] at her ⊢
  obtain ⟨hk, hst, hlo, hhi, hps⟩ := erase_node (show erase v = .node 1 (canon (between c c)) 0 0 [] from her)
  have hnew := heap_alloc_new w2 (.cells #[.int .i64 v.kind, .int .u64 (v.set 0 : Nat), .int .u64 (v.set 1 : Nat), .int .u64 (v.set 2 : Nat), .int .u64 (v.set 3 : Nat), .slice sa sn sc, .int .i64 v.lo, .int .i64 v.hi] 27)
  have hB := below_hop hb1 hb2
  have hB3 := hB.alloc hB.size (.cells #[.int .i64 v.kind, .int .u64 (v.set 0 : Nat), .int .u64 (v.set 1 : Nat), .int .u64 (v.set 2 : Nat), .int .u64 (v.set 3 : Nat), .slice sa sn sc, .int .i64 v.lo, .int .i64 v.hi] 27)
  have hl3 : Laid (w2.alloc (.cells #[.int .i64 v.kind, .int .u64 (v.set 0 : Nat), .int .u64 (v.set 1 : Nat), .int .u64 (v.set 2 : Nat), .int .u64 (v.set 3 : Nat), .slice sa sn sc, .int .i64 v.lo, .int .i64 v.hi] 27)) _ v := hl.chg ((Chg.refl (fun _ => False) w2).alloc _) (fun _ _ _ h => h)
  have hlt : w2.heap.size < (w2.alloc (.cells #[.int .i64 v.kind, .int .u64 (v.set 0 : Nat), .int .u64 (v.set 1 : Nat), .int .u64 (v.set 2 : Nat), .int .u64 (v.set 3 : Nat), .slice sa sn sc, .int .i64 v.lo, .int .i64 v.hi] 27)).heap.size := by simp
  have hlw : ∀ W, Below (w2.alloc (.cells #[.int .i64 v.kind, .int .u64 (v.set 0 : Nat), .int .u64 (v.set 1 : Nat), .int .u64 (v.set 2 : Nat), .int .u64 (v.set 3 : Nat), .slice sa sn sc, .int .i64 v.lo, .int .i64 v.hi] 27)).heap.size (w2.alloc (.cells #[.int .i64 v.kind, .int .u64 (v.set 0 : Nat), .int .u64 (v.set 1 : Nat), .int .u64 (v.set 2 : Nat), .int .u64 (v.set 3 : Nat), .slice sa sn sc, .int .i64 v.lo, .int .i64 v.hi] 27)) W →
      Laid W (fun b => w1.heap.size ≤ b) v ∧ W.heap[w2.heap.size]? = some (.cells #[.int .i64 v.kind, .int .u64 (v.set 0 : Nat), .int .u64 (v.set 1 : Nat), .int .u64 (v.set 2 : Nat), .int .u64 (v.set 3 : Nat), .slice sa sn sc, .int .i64 v.lo, .int .i64 v.hi] 27 (0, 0)) :=
    fun W hW => ⟨hl3.keep (fun _ _ h => h) hW.size fun k hk _ => hW.block k hk, (hW.block _ hlt).trans hnew⟩
  have HW := Lib.hid (And.intro hlw (And.intro hB3 hsl))
  have HSM := Lib.hid (fun (W : World) (h : Laid W (fun b => w1.heap.size ≤ b) v) => same_one her hsl W _ h)
  have HTX := Lib.hid (fun (W : World) (h : Laid W (fun b => w1.heap.size ≤ b) v) => text_one2 hc her hsl W _ h)
  clear hnew hB hB3 hl3 hlt hlw hb1 hb2 hl her hps hp hsl hst
  rw [hk, hlo, hhi] at *
  go_wp2_with fail
  go_at_call 7
  refine (awake3_any _).mono ?_
  rintro e w4 ⟨rfl, hb4⟩
  have HB4 := Lib.hid hb4
  clear hb4
  obtain ⟨q1, _⟩ := row_cells (HW.out.1 w4 HB4.out).2
  have y0 := q1 0
  have y1 := q1 1
  have y2 := q1 2
  have y3 := q1 3
  have y4 := q1 4
  have y5 := q1 5
  have y6 := q1 6
  have y7 := q1 7
  have ylt : w2.heap.size < w4.heap.size := (Array.getElem?_eq_some_iff.1 (HW.out.1 w4 HB4.out).2).1
  clear q1
  go_wp2_with fail
  go_at_call 17
  refine (byteR_any c hc _).mono ?_
  rintro e w5 ⟨s2, hs2, rfl, hb5⟩
  obtain rfl : s2 = s := txt_inj (hs2.trans HS.out.symm)
  have HB5 := Lib.hid (below_hop HB4.out hb5)
  clear hb5 hs2
  clear y0 y1 y2 y3 y4 y5 y6 y7 ylt
  obtain ⟨q1, _⟩ := row_cells (HW.out.1 w5 HB5.out).2
  have y0 := q1 0
  have y1 := q1 1
  have y2 := q1 2
  have y3 := q1 3
  have y4 := q1 4
  have y5 := q1 5
  have y6 := q1 6
  have y7 := q1 7
  have ylt : w2.heap.size < w5.heap.size := (Array.getElem?_eq_some_iff.1 (HW.out.1 w5 HB5.out).2).1
  clear q1
  go_wp2_with fail
  go_at_call 15
  refine (HSM.out _ (HW.out.1 _ HB5.out).1).mono ?_
  rintro e w6 ⟨rfl, hb6⟩
  have HB6 := Lib.hid (below_hop HB5.out hb6)
  clear hb6
  clear y0 y1 y2 y3 y4 y5 y6 y7 ylt
  obtain ⟨q1, _⟩ := row_cells (HW.out.1 w6 HB6.out).2
  have y0 := q1 0
  have y1 := q1 1
  have y2 := q1 2
  have y3 := q1 3
  have y4 := q1 4
  have y5 := q1 5
  have y6 := q1 6
  have y7 := q1 7
  have ylt : w2.heap.size < w6.heap.size := (Array.getElem?_eq_some_iff.1 (HW.out.1 w6 HB6.out).2).1
  clear q1
  go_wp2_with fail
  go_at_call 10
  refine (HTX.out _ (HW.out.1 _ HB6.out).1).mono ?_
  rintro e w7 ⟨s3, hs3, rfl, hb7⟩
  obtain rfl : s3 = s2 := txt_inj (hs3.trans HS.out.symm)
  have HB7 := Lib.hid (below_hop HB6.out hb7)
  clear hb7 hs3
  clear y0 y1 y2 y3 y4 y5 y6 y7 ylt
  go_wp2_with fail
  go_ret
  exact ⟨rfl, below_hop HW.out.2.1 HB7.out⟩

end Go.Proofs.YtpibkalbnjgpaaaDoor

/- Trees in boxes of their own; the calls that the statements of this stage make on trees.
   Conditions: those that each theorem states. -/
namespace Go.Proofs.YtpibkalbnjgpaaaDoor
open Go.RowKit Go.Shelf

/-- A tree's eight cells, in a block of their own. -/
def BoxC (b : Nat) (t : V) (v : Value) (W : World) : Prop :=
  W.cell? ⟨b, 0, none⟩ = some (.int .i64 t.kind) ∧ W.cell? ⟨b, 1, none⟩ = some (.int .u64 (t.set 0 : Nat)) ∧ W.cell? ⟨b, 2, none⟩ = some (.int .u64 (t.set 1 : Nat)) ∧ W.cell? ⟨b, 3, none⟩ = some (.int .u64 (t.set 2 : Nat)) ∧ W.cell? ⟨b, 4, none⟩ = some (.int .u64 (t.set 3 : Nat)) ∧ W.cell? ⟨b, 5, none⟩ = some v ∧ W.cell? ⟨b, 6, none⟩ = some (.int .i64 t.lo) ∧ W.cell? ⟨b, 7, none⟩ = some (.int .i64 t.hi)
theorem box_new (w : World) (t : V) (v : Value) : ∃ w2, w.alloc (.cells #[.int .i64 t.kind, .int .u64 (t.set 0 : Nat), .int .u64 (t.set 1 : Nat), .int .u64 (t.set 2 : Nat), .int .u64 (t.set 3 : Nat), v, .int .i64 t.lo, .int .i64 t.hi] 27) = w2 ∧ Below w.heap.size w w2 ∧ w.heap.size < w2.heap.size ∧ ∀ W, Below w2.heap.size w2 W → BoxC w.heap.size t v W := by
  refine ⟨_, rfl, (Below.refl _ _).alloc (Nat.le_refl _) _, by simp, fun W hW => ?_⟩
  have e1 := heap_alloc_new w (.cells #[.int .i64 t.kind, .int .u64 (t.set 0 : Nat), .int .u64 (t.set 1 : Nat), .int .u64 (t.set 2 : Nat), .int .u64 (t.set 3 : Nat), v, .int .i64 t.lo, .int .i64 t.hi] 27)
  have q := (row_cells ((hW.block _ (Array.getElem?_eq_some_iff.1 e1).1).trans e1)).1
  exact ⟨q 0, q 1, q 2, q 3, q 4, q 5, q 6, q 7⟩
theorem laid_low {w w' : World} {R : Nat → Prop} {t : V} (h : Laid w R t) (hb : Below w.heap.size w w') : Laid w' R t := h.keep (fun _ _ h => h) hb.size fun k hk _ => hb.block k hk
theorem nodeAgg_v {t : V} {v : Value} (hv : t.v = v) : nodeAgg t = .agg #[.int .i64 t.kind, .int .u64 (t.set 0 : Nat), .int .u64 (t.set 1 : Nat), .int .u64 (t.set 2 : Nat), .int .u64 (t.set 3 : Nat), v, .int .i64 t.lo, .int .i64 t.hi] := by unfold nodeAgg; rw [hv]

end Go.Proofs.YtpibkalbnjgpaaaDoor

/- Numbers are written in base ten, wherever the library's table lies: off the condition of the statements' own row.
   Condition: what the row lists as laid lies in memory. -/
namespace Go.Proofs.YtpibkalbnjgpaaaDoor
open Go.RowKit

theorem fmt_tab (w : World) (h : Lib.TabIs Tryd.prog w "internal/strconv.uint64pow10" .u64 Lib.pow10Tab) : Fmt w :=
  fmt_of w fun n W hW h0 h1 => Tryd.strconv_FormatInt_10 n h0 h1 W (Lib.tabBelow_of_tabIs h W hW)
theorem fmt_laid {W : World} (h : laidMetH Tryd.prog Rows.showTellsRow.laid W) : Fmt W := by
  rw [Go.MakeChecks.laidMetH_plain _ _ _ (by kernel_rfl)] at h
  exact fmt_tab W (Lib.tabIs_of_head (g := 1) (t := 119) (e := 22) (n := 20) (by kernel_rfl) (by kernel_rfl) Tryd.underlying119 Tryd.underlying22 (by kernel_rfl) (by kernel_rfl) (show laidMet Tryd.prog [("internal/strconv.uint64pow10", Lib.tabData .u64 Lib.pow10Tab)] W from h.tail.tail))

end Go.Proofs.YtpibkalbnjgpaaaDoor
