/- The walk of the statement SyntaxTrees: called with two trees it returns true and changes nothing that was there.
   Conditions: both trees lie in memory. -/
import Derived.Test.YtbodgadbhldbmaaSameS
import Derived.Test.YtbodgadbhldbmaaTrR
namespace Go.Proofs.Ytbodgadbhldbmaa
open Go.RowKit Go.Deep Go.Shelf
attribute [local go_sem] nodeAgg

theorem below_then {a b c : World} (h : Below a.heap.size a b) (k : Below b.heap.size b c) : Below a.heap.size a c := h.trans (k.mono h.size)
/-- Both boxes' cells. -/
def Boxes (w : World) (a b : V) (sa ta : Option Addr) (sc tc : Nat) (W : World) : Prop :=
  (W.cell? ⟨w.heap.size, 0, none⟩ = some (.int .i64 a.kind) ∧ W.cell? ⟨w.heap.size, 1, none⟩ = some (.int .u64 (a.set 0 : Nat)) ∧ W.cell? ⟨w.heap.size, 2, none⟩ = some (.int .u64 (a.set 1 : Nat)) ∧ W.cell? ⟨w.heap.size, 3, none⟩ = some (.int .u64 (a.set 2 : Nat)) ∧ W.cell? ⟨w.heap.size, 4, none⟩ = some (.int .u64 (a.set 3 : Nat)) ∧ W.cell? ⟨w.heap.size, 5, none⟩ = some (.slice sa a.ps.length sc) ∧ W.cell? ⟨w.heap.size, 6, none⟩ = some (.int .i64 a.lo) ∧ W.cell? ⟨w.heap.size, 7, none⟩ = some (.int .i64 a.hi)) ∧
  (W.cell? ⟨w.heap.size + 1, 0, none⟩ = some (.int .i64 b.kind) ∧ W.cell? ⟨w.heap.size + 1, 1, none⟩ = some (.int .u64 (b.set 0 : Nat)) ∧ W.cell? ⟨w.heap.size + 1, 2, none⟩ = some (.int .u64 (b.set 1 : Nat)) ∧ W.cell? ⟨w.heap.size + 1, 3, none⟩ = some (.int .u64 (b.set 2 : Nat)) ∧ W.cell? ⟨w.heap.size + 1, 4, none⟩ = some (.int .u64 (b.set 3 : Nat)) ∧ W.cell? ⟨w.heap.size + 1, 5, none⟩ = some (.slice ta b.ps.length tc) ∧ W.cell? ⟨w.heap.size + 1, 6, none⟩ = some (.int .i64 b.lo) ∧ W.cell? ⟨w.heap.size + 1, 7, none⟩ = some (.int .i64 b.hi))
theorem boxes (w : World) (a b : V) (sa ta : Option Addr) (sc tc : Nat) (hv : a.v = .slice sa a.ps.length sc) (hv2 : b.v = .slice ta b.ps.length tc) :
    ∃ w2, ((w.alloc (.cells #[.int .i64 a.kind, .int .u64 (a.set 0 : Nat), .int .u64 (a.set 1 : Nat), .int .u64 (a.set 2 : Nat), .int .u64 (a.set 3 : Nat), .slice sa a.ps.length sc, .int .i64 a.lo, .int .i64 a.hi] 28)).alloc (.cells #[.int .i64 b.kind, .int .u64 (b.set 0 : Nat), .int .u64 (b.set 1 : Nat), .int .u64 (b.set 2 : Nat), .int .u64 (b.set 3 : Nat), .slice ta b.ps.length tc, .int .i64 b.lo, .int .i64 b.hi] 28)) = w2 ∧
      Below w.heap.size w w2 ∧ ∀ W, Below w2.heap.size w2 W → Boxes w a b sa ta sc tc W := by
  refine ⟨_, rfl, ((Below.refl _ _).alloc (Nat.le_refl _) _).alloc (by simp) _, ?_⟩
  have hnda : #[.int .i64 a.kind, .int .u64 (a.set 0 : Nat), .int .u64 (a.set 1 : Nat), .int .u64 (a.set 2 : Nat), .int .u64 (a.set 3 : Nat), .slice sa a.ps.length sc, .int .i64 a.lo, .int .i64 a.hi] = (ndc a).toArray := by unfold ndc; rw [hv]
  have hndb : #[.int .i64 b.kind, .int .u64 (b.set 0 : Nat), .int .u64 (b.set 1 : Nat), .int .u64 (b.set 2 : Nat), .int .u64 (b.set 3 : Nat), .slice ta b.ps.length tc, .int .i64 b.lo, .int .i64 b.hi] = (ndc b).toArray := by unfold ndc; rw [hv2]
  rw [hnda, hndb]
  have e1 : ((w.alloc (.cells (ndc a).toArray 28)).alloc (.cells (ndc b).toArray 28)).heap[w.heap.size]? = some (.cells (ndc a).toArray 28 (0, 0)) := (Below.heap_alloc _ _ _ (by simp)).trans (heap_alloc_new w _)
  have e2 : ((w.alloc (.cells (ndc a).toArray 28)).alloc (.cells (ndc b).toArray 28)).heap[w.heap.size + 1]? = some (.cells (ndc b).toArray 28 (0, 0)) := by
    have e := heap_alloc_new (w.alloc (.cells (ndc a).toArray 28)) (.cells (ndc b).toArray 28)
    rw [World.size_alloc] at e
    exact e
  intro W hW
  have f1 : ∀ j u, (ndc a)[j]? = some u → W.cell? ⟨w.heap.size, j, none⟩ = some u := fun j u hu => by
    rw [(row_cells ((hW.block _ (Array.getElem?_eq_some_iff.1 e1).1).trans e1)).1 j, List.getElem?_toArray]
    exact hu
  have f2 : ∀ j u, (ndc b)[j]? = some u → W.cell? ⟨w.heap.size + 1, j, none⟩ = some u := fun j u hu => by
    rw [(row_cells ((hW.block _ (Array.getElem?_eq_some_iff.1 e2).1).trans e2)).1 j, List.getElem?_toArray]
    exact hu
  exact ⟨⟨f1 0 _ rfl, f1 1 _ rfl, f1 2 _ rfl, f1 3 _ rfl, f1 4 _ rfl, f1 5 _ (by rw [← hv]; rfl), f1 6 _ rfl, f1 7 _ rfl⟩, ⟨f2 0 _ rfl, f2 1 _ rfl, f2 2 _ rfl, f2 3 _ rfl, f2 4 _ rfl, f2 5 _ (by rw [← hv2]; rfl), f2 6 _ rfl, f2 7 _ rfl⟩⟩
theorem laid_below {w w' : World} {R : Nat → Prop} {t : V} (h : Laid w R t) (hb : Below w.heap.size w w') : Laid w' R t := h.keep (fun _ _ h => h) hb.size fun k hk _ => hb.block k hk

set_option maxHeartbeats 4000000 in
set_option maxRecDepth 100000 in
theorem trees_walk (a b : V) (w : World) (R Q : Nat → Prop) (ha : Laid w R a) (hb : Laid w Q b) :
    Calls Try.prog 6 #[nodeAgg a, nodeAgg b] w fun e w' => e = .returned (.bool true) ∧ Below w.heap.size w w' := by
  obtain ⟨sa, sc, hv, _⟩ := laid_row' ha
  obtain ⟨ta, tc, hv2, _⟩ := laid_row' hb
  obtain ⟨w2, hw2, hbw, hbx⟩ := boxes w a b sa ta sc tc hv hv2
  have HSa := Lib.hid (fun (W : World) (h : Below w.heap.size w W) => by
    have := size_any 200 (by omega) a W R (laid_below ha h)
    simp only [nodeAgg, hv] at this
    exact this)
  have HSb := Lib.hid (fun (W : World) (h : Below w.heap.size w W) => by
    have := size_any 200 (by omega) b W Q (laid_below hb h)
    simp only [nodeAgg, hv2] at this
    exact this)
  have HBX := Lib.hid hbx
  have HBW := Lib.hid hbw
  have HV := Lib.hid (And.intro hv (And.intro hv2 (And.intro ha hb)))
  simp only [nodeAgg]
  rw [hv, hv2]
  clear hbx ha hb hv hv2
  go_enter Try.func6, Try.ntmps6
  go_wp2_with fail
  clear hw2 hbw
  go_at_call 10
  refine (awake_any _).mono ?_
  rintro e w3 ⟨rfl, hb3⟩
  obtain ⟨⟨x0, x1, x2, x3, x4, x5, x6, x7⟩, ⟨y0, y1, y2, y3, y4, y5, y6, y7⟩⟩ := HBX.out w3 hb3
  have HB3 := Lib.hid hb3
  clear hb3
  go_wp2_with fail
  go_at_call 18
  refine (HSa.out _ (below_then HBW.out HB3.out)).mono ?_
  rintro e w4 ⟨rfl, hb4⟩
  have HB4 := Lib.hid (below_then HB3.out hb4)
  clear hb4 x0 x1 x2 x3 x4 x5 x6 x7 y0 y1 y2 y3 y4 y5 y6 y7
  obtain ⟨⟨x0, x1, x2, x3, x4, x5, x6, x7⟩, ⟨y0, y1, y2, y3, y4, y5, y6, y7⟩⟩ := HBX.out w4 HB4.out
  by_cases hA : szT (erase a) ≤ 200
  · have hA2 : min (szT (erase a)) (200 + 1) = szT (erase a) := by omega
    rw [hA2]
    have g1 : ¬ (200 : Int) < ((szT (erase a) : Nat) : Int) := by omega
    have HA0 := Lib.hid hA
    clear hA hA2
    go_wp2_with fail
    go_at_call 18
    refine (HSb.out _ (below_then HBW.out HB4.out)).mono ?_
    rintro e w5 ⟨rfl, hb5⟩
    have HB5 := Lib.hid (below_then HB4.out hb5)
    clear hb5 x0 x1 x2 x3 x4 x5 x6 x7 y0 y1 y2 y3 y4 y5 y6 y7
    by_cases hC : szT (erase b) ≤ 200
    · have hC2 : min (szT (erase b)) (200 + 1) = szT (erase b) := by omega
      rw [hC2]
      have g2 : ¬ (200 : Int) < ((szT (erase b) : Nat) : Int) := by omega
      have HC := Lib.hid hC
      clear hC hC2
      go_wp2_with fail
      have hba : Below w.heap.size w w5 := below_then HBW.out HB5.out
      have HX := Lib.hid (fun (W : World) (h : Below w5.heap.size w5 W) => HBX.out W (below_then HB5.out h))
      have HLA := Lib.hid (fun (W : World) (h : Below w5.heap.size w5 W) => laid_below HV.out.2.2.1 (below_then hba h))
      have HLB := Lib.hid (fun (W : World) (h : Below w5.heap.size w5 W) => laid_below HV.out.2.2.2 (below_then hba h))
      have HN1 : Hid (szT (erase a) ≤ 1000000) := Lib.hid (by have := HA0.out; omega)
      have HD1 : Hid (dptV a ≤ 1000000) := Lib.hid (by rw [dpt_erase]; have := dpt_sz (erase a); have := HN1.out; omega)
      have HP1 : Hid (plcV a ≤ 1000000) := Lib.hid (by rw [plc_erase]; have := plc_sz (erase a); have := HN1.out; omega)
      refine regTrees a.kind a.lo a.hi b.kind b.lo b.hi a.set b.set sa ta a.ps.length sc b.ps.length tc w.heap.size (w.heap.size + 1) (dptT (erase a)) (plcT (erase a)) (okT (erase a)) (likeT (erase a) (erase b)) [] _ _ _ _ _ _ _ _ _ _ _ _ _ _ _ _ _ _ _ _ _ _ _ _ _ _ _ _ _ _ _ _ _ _ _ _ _ _ _ _ _ _ _ _ _ _ _ _ _ w5
        (fun W h => (HX.out W h).1) (fun W h => (HX.out W h).2) ?q0 ?q1 ?q2 ?q3 ?q4 ?q5 ?q6 ?q7 ?q8 _ ?_
      case q0 =>
        intro W h
        exact callsIn_wide.1 (formed_in a W sa _ sc HV.out.1 _ (HLA.out W h) HD1.out)
      case q1 =>
        intro W h
        have := formed_ref 1000000 (Nat.le_refl _) a W _ HN1.out (HLA.out W h)
        simp only [nodeAgg, HV.out.1] at this
        exact this
      case q2 =>
        intro W h
        have := callsIn_wide.1 (depth_in a W sa _ sc HV.out.1 _ (HLA.out W h) HD1.out)
        rw [dpt_erase] at this
        exact this
      case q3 =>
        intro W h
        have := depth_ref 1000000 (Nat.le_refl _) a W _ HN1.out (HLA.out W h)
        simp only [nodeAgg, HV.out.1] at this
        exact this
      case q4 =>
        intro W h
        have := callsIn_wide.1 (places_in a W sa _ sc HV.out.1 _ (HLA.out W h) HD1.out HP1.out)
        rw [plc_erase] at this
        exact this
      case q5 =>
        intro W h
        have := places_ref 1000000 (Nat.le_refl _) a W _ HN1.out (HLA.out W h)
        simp only [nodeAgg, HV.out.1] at this
        exact this
      case q6 =>
        intro W h
        have := same_syn a b W _ _ HN1.out (HLA.out W h) (HLB.out W h)
        simp only [nodeAgg, HV.out.1, HV.out.2.1] at this
        exact this
      case q7 =>
        intro W h
        have := same_ref 1000000 (Nat.le_refl _) a b W _ _ HN1.out (HLA.out W h) (HLB.out W h)
        simp only [nodeAgg, HV.out.1, HV.out.2.1] at this
        exact this
      case q8 =>
        intro W h
        have := same_syn a a W _ _ HN1.out (HLA.out W h) (HLA.out W h)
        rw [like_self] at this
        simp only [nodeAgg, HV.out.1] at this
        exact this
      intros
      rename_i hb9
      have HB9 := Lib.hid hb9
      clear hb9
      go_wp2_with fail
      go_ret
      exact ⟨rfl, below_then hba HB9.out⟩
    · have hC2 : min (szT (erase b)) (200 + 1) = 201 := by omega
      rw [hC2]
      clear hC hC2
      go_wp2_with fail
      go_at_call 10
      refine (awake_any _).mono ?_
      rintro e w6 ⟨rfl, hb6⟩
      go_wp2_with fail
      go_ret
      exact ⟨rfl, below_then (below_then HBW.out HB5.out) hb6⟩
  · have hA2 : min (szT (erase a)) (200 + 1) = 201 := by omega
    rw [hA2]
    clear hA hA2
    go_wp2_with fail
    go_at_call 10
    refine (awake_any _).mono ?_
    rintro e w5 ⟨rfl, hb5⟩
    go_wp2_with fail
    go_ret
    exact ⟨rfl, below_then (below_then HBW.out HB4.out) hb5⟩

end Go.Proofs.Ytbodgadbhldbmaa
