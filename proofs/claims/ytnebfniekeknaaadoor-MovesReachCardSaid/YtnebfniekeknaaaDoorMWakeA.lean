/- The statements' awake of this stage: the simple tree of nothing, repeated up to five times, is nothing: contracts.
   No conditions but those that each theorem states. -/
import Derived.Test.YtnebfniekeknaaaDoorMFoldS
import Derived.Test.YtnebfniekeknaaaDoorMVN

/- The statements' awake of this stage: the simple tree of nothing, repeated up to five times, is nothing: contracts.
   No conditions but those that each theorem states. -/
namespace Go.Proofs.YtnebfniekeknaaaDoor
open Go.RowKit Go.Shelf
attribute [local go_sem] nodeAgg

set_option maxHeartbeats 1000000 in
set_option maxRecDepth 100000 in
theorem sVoid_none (w : World) : Calls Tryd.prog 102 #[.agg #[.int .i64 0, .int .u64 0, .int .u64 0, .int .u64 0, .int .u64 0, .slice none 0 0, .int .i64 0, .int .i64 0, .bool true]] w fun e w' => e = .returned (.bool false) ∧ Below w.heap.size w w' := by
  go_enter Tryd.func102, Tryd.ntmps102
  go_wp2_with fail
  go_ret
  exact ⟨rfl, (Below.refl _ w).alloc (Nat.le_refl _) _⟩

set_option maxHeartbeats 4000000 in
set_option maxRecDepth 100000 in
theorem times_none (w : World) : Calls Tryd.prog 84 #[.agg #[.int .i64 0, .int .u64 0, .int .u64 0, .int .u64 0, .int .u64 0, .slice none 0 0, .int .i64 0, .int .i64 0, .bool true], .int .i64 0, .int .i64 5] w fun e w' => e = .returned (.agg #[.int .i64 0, .int .u64 0, .int .u64 0, .int .u64 0, .int .u64 0, .slice none 0 0, .int .i64 0, .int .i64 0, .bool true]) ∧ Below w.heap.size w w' := by
  go_enter Tryd.func84, Tryd.ntmps84
  obtain ⟨w2, hw2⟩ : ∃ w2, (w.alloc (.cells #[.int .i64 0, .int .u64 0, .int .u64 0, .int .u64 0, .int .u64 0, .slice none 0 0, .int .i64 0, .int .i64 0, .bool true] 126)).alloc (.cells #[.int .i64 0, .int .u64 0, .int .u64 0, .int .u64 0, .int .u64 0, .slice none 0 0, .int .i64 0, .int .i64 0, .bool false] 126) = w2 := ⟨_, rfl⟩
  have hb2 : Below w.heap.size w w2 := hw2 ▸ ((Below.refl _ w).alloc (Nat.le_refl _) _).alloc (by simp) _
  have e1 : w2.heap[w.heap.size]? = some (.cells #[.int .i64 0, .int .u64 0, .int .u64 0, .int .u64 0, .int .u64 0, .slice none 0 0, .int .i64 0, .int .i64 0, .bool true] 126 (0, 0)) := by rw [← hw2]; exact (Below.heap_alloc _ _ _ (by simp)).trans (heap_alloc_new w _)
  have e2 : w2.heap[w.heap.size + 1]? = some (.cells #[.int .i64 0, .int .u64 0, .int .u64 0, .int .u64 0, .int .u64 0, .slice none 0 0, .int .i64 0, .int .i64 0, .bool false] 126 (0, 0)) := by
    rw [← hw2]
    have := heap_alloc_new (w.alloc (.cells #[.int .i64 0, .int .u64 0, .int .u64 0, .int .u64 0, .int .u64 0, .slice none 0 0, .int .i64 0, .int .i64 0, .bool true] 126)) (.cells #[.int .i64 0, .int .u64 0, .int .u64 0, .int .u64 0, .int .u64 0, .slice none 0 0, .int .i64 0, .int .i64 0, .bool false] 126)
    rw [World.size_alloc] at this
    exact this
  have HB := Lib.hid (And.intro hb2 (And.intro e1 e2))
  have HK := Lib.hid (fun (W : World) (h : Below w2.heap.size w2 W) => And.intro (BoxS.cells (bx := w.heap.size) (W := W) ((h.block _ (Array.getElem?_eq_some_iff.1 e1).1).trans e1)) (row_cells ((h.block _ (Array.getElem?_eq_some_iff.1 e2).1).trans e2)))
  obtain ⟨b0, b1, b2, b3, b4, b5, b6, b7, b8⟩ := (HK.out w2 (Below.refl _ _)).1
  clear hb2 e1 e2
  go_upto_region 1 with fail
  clear hw2
  go_wp2_with fail
  go_at_call 102
  refine (sVoid_none _).mono ?_
  rintro e w3 ⟨rfl, hb3⟩
  have HB3 := Lib.hid hb3
  clear hb3 b0 b1 b2 b3 b4 b5 b6 b7 b8
  obtain ⟨b0, b1, b2, b3, b4, b5, b6, b7, b8⟩ := (HK.out w3 HB3.out).1
  go_wp2_with fail
  go_at_call 102
  refine (sVoid_none _).mono ?_
  rintro e w4 ⟨rfl, hb4⟩
  have HB4 := Lib.hid (bhop HB3.out hb4)
  clear hb4 b0 b1 b2 b3 b4 b5 b6 b7 b8
  obtain ⟨⟨b0, b1, b2, b3, b4, b5, b6, b7, b8⟩, q1, q2⟩ := HK.out w4 HB4.out
  have s0 := q1 0
  have s1 := q1 1
  have s2 := q1 2
  have s3 := q1 3
  have s4 := q1 4
  have s5 := q1 5
  have s6 := q1 6
  have s7 := q1 7
  have s8 := q1 8
  have f0 := q2 0
  have f1 := q2 1
  have f2 := q2 2
  have f3 := q2 3
  have f4 := q2 4
  have f5 := q2 5
  have f6 := q2 6
  have f7 := q2 7
  have f8 := q2 8
  have hl : w.heap.size + 1 < w4.heap.size := Nat.lt_of_lt_of_le (Array.getElem?_eq_some_iff.1 HB.out.2.2).1 HB4.out.size
  clear q1 q2
  go_wp2_with fail
  refine bodyPost_ret (v := .agg #[.int .i64 0, .int .u64 0, .int .u64 0, .int .u64 0, .int .u64 0, .slice none 0 0, .int .i64 0, .int .i64 0, .bool true]) (by simp [results, Tryd.results84, go_sem, s0, s1, s2, s3, s4, s5, s6, s7, s8]) rfl ⟨rfl, ?_⟩
  exact (bhop HB.out.1 HB4.out).trans ((set9_chg w4 (w.heap.size + 1)).below (by have := (bhop HB.out.1 HB4.out).size; omega) fun k hk e => by omega)

/-- Nothing; and nothing, repeated up to five times. -/
def zV : V := .node 0 zeros 0 0 (.slice none 0 0) []
def rV (b : Nat) : V := .node 4 zeros 0 5 (.slice (some ⟨b, 0, none⟩) 1 1) [zV]
def SW (b : Nat) (t : V) : Prop := t = zV ∨ t = rV b
theorem sw_flats (b : Nat) (t p : V) (h : SW b t) (hp : p ∈ flatsV t.kind t.ps) : SW b p := by
  rcases h with rfl | rfl
  · simp [zV, V.ps, flatsV] at hp
  · have e : flatsV (rV b).kind (rV b).ps = [zV] := by
      show flatsV 4 [zV] = [zV]
      rw [flatsV, flatsV, flat_no (by decide)]
      rfl
    rw [e] at hp
    simp at hp
    exact .inl hp
theorem sw_sz (b : Nat) (t : V) (h : SW b t) : szT (erase t) ≤ 1000000 := by
  rcases h with rfl | rfl
  · decide
  · simp [rV, zV, erase, erases, szT, szsT]

set_option maxHeartbeats 4000000 in
set_option maxRecDepth 100000 in
theorem simpleOf_wake (c B b o base : Nat) (t : V) (pv : Value) (w : World) (hnode : NodeB B w b o t) (hs : SW c t) (hown : w.ownsRow base 126 9 pv (flatsV t.kind t.ps).length ((flatsV t.kind t.ps).flatMap fun _ => zS9)) :
    Calls Tryd.prog 64 #[.pointer (some ⟨b, o, none⟩), pv] w fun e w' => e = .returned (.agg #[.int .i64 0, .int .u64 0, .int .u64 0, .int .u64 0, .int .u64 0, .slice none 0 0, .int .i64 0, .int .i64 0, .bool true]) ∧ Below w.heap.size w w' := by
  obtain ⟨x0, x1, x2, x3, x4, x5, x6, x7⟩ := node_cells hnode.2.1 hnode.at.lt (Below.refl _ w)
  have hlt := hnode.at.lt
  rcases hs with rfl | rfl
  · have x0' : w.cell? ⟨b, o, none⟩ = some (.int .i64 0) := x0
    clear x0 x1 x2 x3 x4 x5 x6 x7 hnode hown
    go_enter Tryd.func64, Tryd.ntmps64
    go_wp2_with fail
    refine bodyPost_ret (v := .agg #[.int .i64 0, .int .u64 0, .int .u64 0, .int .u64 0, .int .u64 0, .slice none 0 0, .int .i64 0, .int .i64 0, .bool true]) (by simp [results, Tryd.results64, go_sem]) rfl ⟨rfl, ?_⟩
    exact (Below.refl _ w).alloc (Nat.le_refl _) _
  · have e : flatsV (rV c).kind (rV c).ps = [zV] := by
      show flatsV 4 [zV] = [zV]
      rw [flatsV, flatsV, flat_no (by decide)]
      rfl
    rw [e] at hown
    have ho2 : w.ownsRow base 126 9 pv 1 zS9 := hown
    obtain ⟨g, cap, rfl⟩ := ownsRow_succ ho2
    have hgl := (ho2.lt g rfl).2
    have HG := Lib.hid (fun (W : World) (h : Below w.heap.size w W) => show W.cell? ⟨g, 0, none⟩ = some (.int .i64 0) ∧ W.cell? ⟨g, 1, none⟩ = some (.int .u64 0) ∧ W.cell? ⟨g, 2, none⟩ = some (.int .u64 0) ∧ W.cell? ⟨g, 3, none⟩ = some (.int .u64 0) ∧ W.cell? ⟨g, 4, none⟩ = some (.int .u64 0) ∧ W.cell? ⟨g, 5, none⟩ = some (.slice none 0 0) ∧ W.cell? ⟨g, 6, none⟩ = some (.int .i64 0) ∧ W.cell? ⟨g, 7, none⟩ = some (.int .i64 0) ∧ W.cell? ⟨g, 8, none⟩ = some (.bool true) by
      have q : ∀ j, j < 9 → W.cell? ⟨g, j, none⟩ = zS9[j]? := fun j hj => (h.cell (p := ⟨g, j, none⟩) hgl).trans (ho2.cellAt j hj)
      exact ⟨q 0 (by decide), q 1 (by decide), q 2 (by decide), q 3 (by decide), q 4 (by decide), q 5 (by decide), q 6 (by decide), q 7 (by decide), q 8 (by decide)⟩)
    obtain ⟨g0, g1, g2, g3, g4, g5, g6, g7, g8⟩ := HG.out w (Below.refl _ w)
    have y0 : w.cell? ⟨b, o, none⟩ = some (.int .i64 4) := x0
    have y6 : w.cell? ⟨b, o + 6, none⟩ = some (.int .i64 0) := x6
    have y7 : w.cell? ⟨b, o + 7, none⟩ = some (.int .i64 5) := x7
    have hne1 : g ≠ w.heap.size := by omega
    have hne2 : b ≠ w.heap.size := by omega
    clear x0 x1 x2 x3 x4 x5 x6 x7 hnode hown ho2 e
    go_enter Tryd.func64, Tryd.ntmps64
    go_wp2_with fail
    go_region_with (go_at_call 84; refine (times_none _).mono ?_; rintro e w2 ⟨rfl, hb2⟩; have hbx : w2.heap[w.heap.size]? = some (.cells #[.int .i64 0, .int .u64 0, .int .u64 0, .int .u64 0, .int .u64 0, .slice none 0 0, .int .i64 0, .int .i64 0, .bool false] 126 (0, 0)) := (hb2.block w.heap.size (by simp)).trans (heap_alloc_new w _); obtain ⟨q1, q2⟩ := row_cells hbx; have e0 := q1 0; have e1 := q1 1; have e2 := q1 2; have e3 := q1 3; have e4 := q1 4; have e5 := q1 5; have e6 := q1 6; have e7 := q1 7; have e8 := q1 8; have f0 := q2 0; have f1 := q2 1; have f2 := q2 2; have f3 := q2 3; have f4 := q2 4; have f5 := q2 5; have f6 := q2 6; have f7 := q2 7; have f8 := q2 8; have fl := (Array.getElem?_eq_some_iff.1 hbx).1; have HB2 := Lib.hid (bhop ((Below.refl _ w).alloc (Nat.le_refl _) (.cells #[.int .i64 0, .int .u64 0, .int .u64 0, .int .u64 0, .int .u64 0, .slice none 0 0, .int .i64 0, .int .i64 0, .bool false] 126)) (bhop (Below.refl _ _).drew hb2)); clear hb2 hbx q1 q2)
    all_goals
      go_wp2_with fail
      refine bodyPost_ret (v := .agg #[.int .i64 0, .int .u64 0, .int .u64 0, .int .u64 0, .int .u64 0, .slice none 0 0, .int .i64 0, .int .i64 0, .bool true]) (by simp [results, Tryd.results64, go_sem, e0, e1, e2, e3, e4, e5, e6, e7, e8]) rfl ⟨rfl, ?_⟩
      exact HB2.out.trans ((set9_chg w2 w.heap.size).below (by have := HB2.out.size; omega) fun k hk e => by omega)

end Go.Proofs.YtnebfniekeknaaaDoor
