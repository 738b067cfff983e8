/- Whether a repeated node is a scope, asked by its bounds alone: a contract.
   Conditions: the node's bounds lie in memory; a repeated node of nothing with them is formed. -/
import Derived.Test.YtnebfniekeknaaaDoorNA
import Derived.Test.YtnebfniekeknaaaDoorORd
import Derived.Laws.Bits64b
import Derived.Deep.DeepCutAuto
import Derived.Deep.RegionHeld3
import Derived.Sort.Grow
import Derived.Deep.Draws
import Derived.Deep.RegionWith
import Derived.Carry
import Derived.Test.YtnebfniekeknaaaDoorMPt
import Derived.Test.YtnebfniekeknaaaDoorMSame
import Derived.Test.YtnebfniekeknaaaDoorMMelt
import Derived.Test.YtnebfniekeknaaaDoorMPn

/- The set of one position, faces put together, the order of moves: contracts.
   Conditions: sets are words. -/
namespace Go.Proofs.YtnebfniekeknaaaDoor
open Go.RowKit

theorem wrap_two_pow (k : Nat) (h : k < 64) : IntKind.u64.wrap ((2 : Int) ^ k) = ((2 ^ k : Nat) : Int) := by
  rw [IntKind.wrap_u64]
  have h1 : 2 ^ k < 2 ^ 64 := Nat.pow_lt_pow_right (by omega) h
  have h2 : ((2 : Int) ^ k) = ((2 ^ k : Nat) : Int) := by push_cast; rfl
  rw [h2]
  have h3 : (2 : Nat) ^ 64 = 18446744073709551616 := by decide
  rw [h3] at h1
  generalize (2 : Nat) ^ k = n at h1 ⊢
  omega
set_option maxHeartbeats 1000000 in
theorem only_any (k : Nat) (h : k < 64) (w : World) : Calls Tryd.prog 69 #[.int .i64 (k : Int)] w fun e w' => e = .returned (.int .u64 ((2 ^ k : Nat) : Int)) ∧ w' = w := by
  have q : (0 : Int) ≤ (k : Int) := by omega
  have hw := Lib.hid (wrap_two_pow k h)
  go_enter Tryd.func69, Tryd.ntmps69
  go_wp2_with fail
  go_ret
  exact ⟨by rw [← hw.out]; rfl, rfl⟩

def fcv (f : Fc) : Value := .agg #[.int .u64 (f.fi : Nat), .int .u64 (f.la : Nat), .bool f.em]
structure Fc64 (f : Fc) : Prop where
  fi : f.fi < 18446744073709551616
  la : f.la < 18446744073709551616
theorem fc64_or {f g : Fc} (h : Fc64 f) (k : Fc64 g) : Fc64 (orF f g) := ⟨Nat.or_lt_two_pow (n := 64) h.fi k.fi, Nat.or_lt_two_pow (n := 64) h.la k.la⟩
theorem set3_heap {w : World} {b : Nat} {x0 x1 x2 : Value} {e : TypeId} (h : w.heap[b]? = some (.cells #[x0, x1, x2] e (0, 0))) (a0 a1 a2 : Value) : (((w.setCell ⟨b, 0, none⟩ a0).setCell ⟨b, 1, none⟩ a1).setCell ⟨b, 2, none⟩ a2).heap[b]? = some (.cells #[a0, a1, a2] e (0, 0)) := by
  simp [World.setCell, Array.getElem?_modify, h]
theorem set3_chg (w : World) (b : Nat) (a0 a1 a2 : Value) : Chg (fun x => x = b) w (((w.setCell ⟨b, 0, none⟩ a0).setCell ⟨b, 1, none⟩ a1).setCell ⟨b, 2, none⟩ a2) := by
  refine (((Chg.refl _ w).setCell ?_ _).setCell ?_ _).setCell ?_ _
  all_goals exact fun _ => rfl
theorem cells3 {w : World} {b : Nat} {a0 a1 a2 : Value} {e : TypeId} (h : w.heap[b]? = some (.cells #[a0, a1, a2] e (0, 0))) : (w.cell? ⟨b, 0, none⟩ = some a0 ∧ w.cell? ⟨b, 1, none⟩ = some a1 ∧ w.cell? ⟨b, 2, none⟩ = some a2) ∧ w.frozen? ⟨b, 0, none⟩ = false ∧ w.frozen? ⟨b, 1, none⟩ = false ∧ w.frozen? ⟨b, 2, none⟩ = false :=
  have p := (row_cells h).1
  have q := (row_cells h).2
  ⟨⟨p 0, p 1, p 2⟩, q 0, q 1, q 2⟩
theorem three_new (w : World) (f g : Fc) : ∃ w2, ((w.alloc (.cells #[.int .u64 (f.fi : Nat), .int .u64 (f.la : Nat), .bool f.em] 73)).alloc (.cells #[.int .u64 (g.fi : Nat), .int .u64 (g.la : Nat), .bool g.em] 73)).alloc (.cells #[.int .u64 0, .int .u64 0, .bool false] 73) = w2 ∧ Below w.heap.size w w2 ∧ w2.heap[w.heap.size]? = some (.cells #[.int .u64 (f.fi : Nat), .int .u64 (f.la : Nat), .bool f.em] 73 (0, 0)) ∧ w2.heap[w.heap.size + 1]? = some (.cells #[.int .u64 (g.fi : Nat), .int .u64 (g.la : Nat), .bool g.em] 73 (0, 0)) ∧ w2.heap[w.heap.size + 1 + 1]? = some (.cells #[.int .u64 0, .int .u64 0, .bool false] 73 (0, 0)) := by
  refine ⟨_, rfl, (((Below.refl _ w).alloc (Nat.le_refl _) _).alloc (by simp) _).alloc (by simp; omega) _, ?_, ?_, ?_⟩
  · exact (Below.heap_alloc _ _ _ (by simp; omega)).trans ((Below.heap_alloc _ _ _ (by simp)).trans (heap_alloc_new w _))
  · have := heap_alloc_new (w.alloc (.cells #[.int .u64 (f.fi : Nat), .int .u64 (f.la : Nat), .bool f.em] 73)) (.cells #[.int .u64 (g.fi : Nat), .int .u64 (g.la : Nat), .bool g.em] 73)
    rw [World.size_alloc] at this
    exact (Below.heap_alloc _ _ _ (by simp)).trans this
  · have := heap_alloc_new ((w.alloc (.cells #[.int .u64 (f.fi : Nat), .int .u64 (f.la : Nat), .bool f.em] 73)).alloc (.cells #[.int .u64 (g.fi : Nat), .int .u64 (g.la : Nat), .bool g.em] 73)) (.cells #[.int .u64 0, .int .u64 0, .bool false] 73)
    rw [World.size_alloc, World.size_alloc] at this
    exact this

set_option maxHeartbeats 2000000 in
theorem faceOr_any (f g : Fc) (hf : Fc64 f) (hg : Fc64 g) (w : World) : Calls Tryd.prog 73 #[.agg #[.int .u64 (f.fi : Nat), .int .u64 (f.la : Nat), .bool f.em], .agg #[.int .u64 (g.fi : Nat), .int .u64 (g.la : Nat), .bool g.em]] w fun e w' => e = .returned (fcv (orF f g)) ∧ Below w.heap.size w w' := by
  obtain ⟨w2, hw2, hb, e1, e2, e3⟩ := three_new w f g
  obtain ⟨⟨c0, c1, c2⟩, _⟩ := cells3 e1
  obtain ⟨⟨d0, d1, d2⟩, _⟩ := cells3 e2
  obtain ⟨⟨z0, z1, z2⟩, f0, f1, f2⟩ := cells3 e3
  have o1 := bits_or_u64_nat f.fi g.fi hf.fi hg.fi
  have o2 := bits_or_u64_nat f.la g.la hf.la hg.la
  have HB := Lib.hid (And.intro hb e3)
  clear hb e1 e2 e3
  go_enter Tryd.func73, Tryd.ntmps73
  go_upto_region 1 with fail
  clear hw2
  cases he : f.em with
  | true =>
    rw [he] at c2
    go_wp2_with fail
    clear c0 c1 c2 d0 d1 d2 z0 z1 z2 f0 f1 f2 o1 o2
    have hf3 := set3_heap HB.out.2 (.int .u64 ((f.fi ||| g.fi : Nat) : Int)) (.int .u64 ((f.la ||| g.la : Nat) : Int)) (.bool true)
    have hch := set3_chg w2 (w.heap.size + 1 + 1) (.int .u64 ((f.fi ||| g.fi : Nat) : Int)) (.int .u64 ((f.la ||| g.la : Nat) : Int)) (.bool true)
    generalize (((w2.setCell ⟨w.heap.size + 1 + 1, 0, none⟩ (.int .u64 ((f.fi ||| g.fi : Nat) : Int))).setCell ⟨w.heap.size + 1 + 1, 1, none⟩ (.int .u64 ((f.la ||| g.la : Nat) : Int))).setCell ⟨w.heap.size + 1 + 1, 2, none⟩ (.bool true)) = w3 at *
    obtain ⟨⟨r0, r1, r2⟩, _⟩ := cells3 hf3
    refine bodyPost_ret (v := .agg #[.int .u64 ((f.fi ||| g.fi : Nat) : Int), .int .u64 ((f.la ||| g.la : Nat) : Int), .bool true]) (by simp [results, Tryd.results73, go_sem, r0, r1, r2]) rfl ⟨by unfold fcv orF; rw [he]; rfl, ?_⟩
    exact HB.out.1.trans (hch.below (by have := HB.out.1.size; omega) fun k hk e => by omega)
  | false =>
    rw [he] at c2
    go_wp2_with fail
    clear c0 c1 c2 d0 d1 d2 z0 z1 z2 f0 f1 f2 o1 o2
    have hf3 := set3_heap HB.out.2 (.int .u64 ((f.fi ||| g.fi : Nat) : Int)) (.int .u64 ((f.la ||| g.la : Nat) : Int)) (.bool g.em)
    have hch := set3_chg w2 (w.heap.size + 1 + 1) (.int .u64 ((f.fi ||| g.fi : Nat) : Int)) (.int .u64 ((f.la ||| g.la : Nat) : Int)) (.bool g.em)
    generalize (((w2.setCell ⟨w.heap.size + 1 + 1, 0, none⟩ (.int .u64 ((f.fi ||| g.fi : Nat) : Int))).setCell ⟨w.heap.size + 1 + 1, 1, none⟩ (.int .u64 ((f.la ||| g.la : Nat) : Int))).setCell ⟨w.heap.size + 1 + 1, 2, none⟩ (.bool g.em)) = w3 at *
    obtain ⟨⟨r0, r1, r2⟩, _⟩ := cells3 hf3
    refine bodyPost_ret (v := .agg #[.int .u64 ((f.fi ||| g.fi : Nat) : Int), .int .u64 ((f.la ||| g.la : Nat) : Int), .bool g.em]) (by simp [results, Tryd.results73, go_sem, r0, r1, r2]) rfl ⟨by unfold fcv orF; rw [he]; rfl, ?_⟩
    exact HB.out.1.trans (hch.below (by have := HB.out.1.size; omega) fun k hk e => by omega)

theorem fc64_then {f g : Fc} (h : Fc64 f) (k : Fc64 g) : Fc64 (thenF f g) := by
  unfold thenF
  refine ⟨?_, ?_⟩
  · show (if f.em then f.fi ||| g.fi else f.fi) < _
    split
    · exact Nat.or_lt_two_pow (n := 64) h.fi k.fi
    · exact h.fi
  · show (if g.em then g.la ||| f.la else g.la) < _
    split
    · exact Nat.or_lt_two_pow (n := 64) k.la h.la
    · exact k.la
set_option maxHeartbeats 4000000 in
set_option maxRecDepth 100000 in
theorem faceThen_any (f g : Fc) (hf : Fc64 f) (hg : Fc64 g) (w : World) : Calls Tryd.prog 72 #[.agg #[.int .u64 (f.fi : Nat), .int .u64 (f.la : Nat), .bool f.em], .agg #[.int .u64 (g.fi : Nat), .int .u64 (g.la : Nat), .bool g.em]] w fun e w' => e = .returned (fcv (thenF f g)) ∧ Below w.heap.size w w' := by
  obtain ⟨w2, hw2, hb, e1, e2, e3⟩ := three_new w f g
  obtain ⟨⟨c0, c1, c2⟩, _⟩ := cells3 e1
  obtain ⟨⟨d0, d1, d2⟩, _⟩ := cells3 e2
  have o1 := bits_or_u64_nat f.fi g.fi hf.fi hg.fi
  have o2 := bits_or_u64_nat g.la f.la hg.la hf.la
  obtain ⟨w3, hw3⟩ : ∃ w3, w2.alloc (.cells #[.int .u64 (f.fi : Nat), .int .u64 (g.la : Nat), .bool (f.em && g.em)] 73) = w3 := ⟨_, rfl⟩
  have hb3 : Below w2.heap.size w2 w3 := hw3 ▸ (Below.refl _ w2).alloc (Nat.le_refl _) _
  have e4 : w3.heap[w2.heap.size]? = some (.cells #[.int .u64 (f.fi : Nat), .int .u64 (g.la : Nat), .bool (f.em && g.em)] 73 (0, 0)) := hw3 ▸ heap_alloc_new w2 _
  have e1' := (hb3.block _ (Array.getElem?_eq_some_iff.1 e1).1).trans e1
  have e2' := (hb3.block _ (Array.getElem?_eq_some_iff.1 e2).1).trans e2
  have e3' := (hb3.block _ (Array.getElem?_eq_some_iff.1 e3).1).trans e3
  have hlt : w.heap.size + 1 + 1 < w2.heap.size := (Array.getElem?_eq_some_iff.1 e3).1
  have HW3 := Lib.hid hw3
  have HB := Lib.hid (And.intro (bhopO hb hb3) (And.intro e3' (And.intro e4 (And.intro e1' e2'))))
  clear hb hb3 hw3 e1 e2 e3 e1' e2' e3' e4
  go_enter Tryd.func72, Tryd.ntmps72
  go_upto_region 1 with fail
  clear hw2
  cases hfe : f.em with
  | true =>
    cases hge : g.em with
    | true => 
      rw [hfe] at c2
      rw [hge] at d2
      have HW := Lib.hid (show w2.alloc (.cells #[.int .u64 (f.fi : Nat), .int .u64 (g.la : Nat), .bool true] 73) = w3 by have := HW3.out; rw [hfe, hge] at this; exact this)
      have e4 : w3.heap[w2.heap.size]? = some (.cells #[.int .u64 (f.fi : Nat), .int .u64 (g.la : Nat), .bool true] 73 (0, 0)) := by have := HB.out.2.2.1; rw [hfe, hge] at this; exact this
      have E4 := Lib.hid e4
      go_upto_region 2 with fail
      try rw [HW.out]
      clear c0 c1 c2 d0 d1 d2
      obtain ⟨⟨c0, c1, c2⟩, _⟩ := cells3 HB.out.2.2.2.1
      obtain ⟨⟨d0, d1, d2⟩, _⟩ := cells3 HB.out.2.2.2.2
      rw [hfe] at c2
      rw [hge] at d2
      obtain ⟨⟨z0, z1, z2⟩, f0, f1, f2⟩ := cells3 HB.out.2.1
      obtain ⟨⟨y0, y1, y2⟩, h0, h1, h2⟩ := cells3 e4
      have hne : w2.heap.size ≠ w.heap.size + 1 + 1 := by omega
      have hl3 := (Array.getElem?_eq_some_iff.1 e4).1
      have HF := Lib.hid (And.intro hfe hge)
      clear e4 hfe hge
      go_wp2_with fail
      clear c0 c1 c2 d0 d1 d2 z0 z1 z2 f0 f1 f2 y0 y1 y2 h0 h1 h2 o1 o2
      have hf3 := set3_heap (w := ((w3.setCell ⟨w2.heap.size, 0, none⟩ (.int .u64 ((f.fi ||| g.fi : Nat) : Int))).setCell ⟨w2.heap.size, 1, none⟩ (.int .u64 ((g.la ||| f.la : Nat) : Int)))) ((Below.heap_setCell _ _ _ _ (fun e => hne e.symm)).trans ((Below.heap_setCell _ _ _ _ (fun e => hne e.symm)).trans (HB.out.2.1))) (.int .u64 ((f.fi ||| g.fi : Nat) : Int)) (.int .u64 ((g.la ||| f.la : Nat) : Int)) (.bool true)
      have hch : Chg (fun x => x = w2.heap.size ∨ x = w.heap.size + 1 + 1) w3 (((((w3.setCell ⟨w2.heap.size, 0, none⟩ (.int .u64 ((f.fi ||| g.fi : Nat) : Int))).setCell ⟨w2.heap.size, 1, none⟩ (.int .u64 ((g.la ||| f.la : Nat) : Int))).setCell ⟨w.heap.size + 1 + 1, 0, none⟩ (.int .u64 ((f.fi ||| g.fi : Nat) : Int))).setCell ⟨w.heap.size + 1 + 1, 1, none⟩ (.int .u64 ((g.la ||| f.la : Nat) : Int))).setCell ⟨w.heap.size + 1 + 1, 2, none⟩ (.bool true)) := ((((((Chg.refl (fun x => x = w2.heap.size ∨ x = w.heap.size + 1 + 1) w3).setCell (p := ⟨w2.heap.size, 0, none⟩) (fun _ => .inl rfl) _).setCell (p := ⟨w2.heap.size, 1, none⟩) (fun _ => .inl rfl) _).setCell (p := ⟨w.heap.size + 1 + 1, 0, none⟩) (fun _ => .inr rfl) _).setCell (p := ⟨w.heap.size + 1 + 1, 1, none⟩) (fun _ => .inr rfl) _).setCell (p := ⟨w.heap.size + 1 + 1, 2, none⟩) (fun _ => .inr rfl) _)
      generalize (((((w3.setCell ⟨w2.heap.size, 0, none⟩ (.int .u64 ((f.fi ||| g.fi : Nat) : Int))).setCell ⟨w2.heap.size, 1, none⟩ (.int .u64 ((g.la ||| f.la : Nat) : Int))).setCell ⟨w.heap.size + 1 + 1, 0, none⟩ (.int .u64 ((f.fi ||| g.fi : Nat) : Int))).setCell ⟨w.heap.size + 1 + 1, 1, none⟩ (.int .u64 ((g.la ||| f.la : Nat) : Int))).setCell ⟨w.heap.size + 1 + 1, 2, none⟩ (.bool true)) = w7 at *
      obtain ⟨⟨r0, r1, r2⟩, _⟩ := cells3 hf3
      refine bodyPost_ret (v := .agg #[.int .u64 ((f.fi ||| g.fi : Nat) : Int), .int .u64 ((g.la ||| f.la : Nat) : Int), .bool true]) (by simp [results, Tryd.results72, go_sem, r0, r1, r2]) rfl ⟨by unfold fcv thenF; rw [HF.out.1, HF.out.2]; rfl, ?_⟩
      exact HB.out.1.trans (hch.below (by have := HB.out.1.size; omega) fun k hk e => by omega)
    | false => 
      rw [hfe] at c2
      rw [hge] at d2
      have HW := Lib.hid (show w2.alloc (.cells #[.int .u64 (f.fi : Nat), .int .u64 (g.la : Nat), .bool false] 73) = w3 by have := HW3.out; rw [hfe, hge] at this; exact this)
      have e4 : w3.heap[w2.heap.size]? = some (.cells #[.int .u64 (f.fi : Nat), .int .u64 (g.la : Nat), .bool false] 73 (0, 0)) := by have := HB.out.2.2.1; rw [hfe, hge] at this; exact this
      have E4 := Lib.hid e4
      go_upto_region 2 with fail
      try rw [HW.out]
      clear c0 c1 c2 d0 d1 d2
      obtain ⟨⟨c0, c1, c2⟩, _⟩ := cells3 HB.out.2.2.2.1
      obtain ⟨⟨d0, d1, d2⟩, _⟩ := cells3 HB.out.2.2.2.2
      rw [hfe] at c2
      rw [hge] at d2
      obtain ⟨⟨z0, z1, z2⟩, f0, f1, f2⟩ := cells3 HB.out.2.1
      obtain ⟨⟨y0, y1, y2⟩, h0, h1, h2⟩ := cells3 e4
      have hne : w2.heap.size ≠ w.heap.size + 1 + 1 := by omega
      have hl3 := (Array.getElem?_eq_some_iff.1 e4).1
      have HF := Lib.hid (And.intro hfe hge)
      clear e4 hfe hge
      go_wp2_with fail
      clear c0 c1 c2 d0 d1 d2 z0 z1 z2 f0 f1 f2 y0 y1 y2 h0 h1 h2 o1 o2
      have hf3 := set3_heap (w := (w3.setCell ⟨w2.heap.size, 0, none⟩ (.int .u64 ((f.fi ||| g.fi : Nat) : Int)))) ((Below.heap_setCell _ _ _ _ (fun e => hne e.symm)).trans (HB.out.2.1)) (.int .u64 ((f.fi ||| g.fi : Nat) : Int)) (.int .u64 (g.la : Nat)) (.bool false)
      have hch : Chg (fun x => x = w2.heap.size ∨ x = w.heap.size + 1 + 1) w3 ((((w3.setCell ⟨w2.heap.size, 0, none⟩ (.int .u64 ((f.fi ||| g.fi : Nat) : Int))).setCell ⟨w.heap.size + 1 + 1, 0, none⟩ (.int .u64 ((f.fi ||| g.fi : Nat) : Int))).setCell ⟨w.heap.size + 1 + 1, 1, none⟩ (.int .u64 (g.la : Nat))).setCell ⟨w.heap.size + 1 + 1, 2, none⟩ (.bool false)) := (((((Chg.refl (fun x => x = w2.heap.size ∨ x = w.heap.size + 1 + 1) w3).setCell (p := ⟨w2.heap.size, 0, none⟩) (fun _ => .inl rfl) _).setCell (p := ⟨w.heap.size + 1 + 1, 0, none⟩) (fun _ => .inr rfl) _).setCell (p := ⟨w.heap.size + 1 + 1, 1, none⟩) (fun _ => .inr rfl) _).setCell (p := ⟨w.heap.size + 1 + 1, 2, none⟩) (fun _ => .inr rfl) _)
      generalize ((((w3.setCell ⟨w2.heap.size, 0, none⟩ (.int .u64 ((f.fi ||| g.fi : Nat) : Int))).setCell ⟨w.heap.size + 1 + 1, 0, none⟩ (.int .u64 ((f.fi ||| g.fi : Nat) : Int))).setCell ⟨w.heap.size + 1 + 1, 1, none⟩ (.int .u64 (g.la : Nat))).setCell ⟨w.heap.size + 1 + 1, 2, none⟩ (.bool false)) = w7 at *
      obtain ⟨⟨r0, r1, r2⟩, _⟩ := cells3 hf3
      refine bodyPost_ret (v := .agg #[.int .u64 ((f.fi ||| g.fi : Nat) : Int), .int .u64 (g.la : Nat), .bool false]) (by simp [results, Tryd.results72, go_sem, r0, r1, r2]) rfl ⟨by unfold fcv thenF; rw [HF.out.1, HF.out.2]; rfl, ?_⟩
      exact HB.out.1.trans (hch.below (by have := HB.out.1.size; omega) fun k hk e => by omega)
  | false =>
    cases hge : g.em with
    | true => 
      rw [hfe] at c2
      rw [hge] at d2
      have HW := Lib.hid (show w2.alloc (.cells #[.int .u64 (f.fi : Nat), .int .u64 (g.la : Nat), .bool false] 73) = w3 by have := HW3.out; rw [hfe, hge] at this; exact this)
      have e4 : w3.heap[w2.heap.size]? = some (.cells #[.int .u64 (f.fi : Nat), .int .u64 (g.la : Nat), .bool false] 73 (0, 0)) := by have := HB.out.2.2.1; rw [hfe, hge] at this; exact this
      have E4 := Lib.hid e4
      go_upto_region 2 with fail
      try rw [HW.out]
      clear c0 c1 c2 d0 d1 d2
      obtain ⟨⟨c0, c1, c2⟩, _⟩ := cells3 HB.out.2.2.2.1
      obtain ⟨⟨d0, d1, d2⟩, _⟩ := cells3 HB.out.2.2.2.2
      rw [hfe] at c2
      rw [hge] at d2
      obtain ⟨⟨z0, z1, z2⟩, f0, f1, f2⟩ := cells3 HB.out.2.1
      obtain ⟨⟨y0, y1, y2⟩, h0, h1, h2⟩ := cells3 e4
      have hne : w2.heap.size ≠ w.heap.size + 1 + 1 := by omega
      have hl3 := (Array.getElem?_eq_some_iff.1 e4).1
      have HF := Lib.hid (And.intro hfe hge)
      clear e4 hfe hge
      go_wp2_with fail
      clear c0 c1 c2 d0 d1 d2 z0 z1 z2 f0 f1 f2 y0 y1 y2 h0 h1 h2 o1 o2
      have hf3 := set3_heap (w := (w3.setCell ⟨w2.heap.size, 1, none⟩ (.int .u64 ((g.la ||| f.la : Nat) : Int)))) ((Below.heap_setCell _ _ _ _ (fun e => hne e.symm)).trans (HB.out.2.1)) (.int .u64 (f.fi : Nat)) (.int .u64 ((g.la ||| f.la : Nat) : Int)) (.bool false)
      have hch : Chg (fun x => x = w2.heap.size ∨ x = w.heap.size + 1 + 1) w3 ((((w3.setCell ⟨w2.heap.size, 1, none⟩ (.int .u64 ((g.la ||| f.la : Nat) : Int))).setCell ⟨w.heap.size + 1 + 1, 0, none⟩ (.int .u64 (f.fi : Nat))).setCell ⟨w.heap.size + 1 + 1, 1, none⟩ (.int .u64 ((g.la ||| f.la : Nat) : Int))).setCell ⟨w.heap.size + 1 + 1, 2, none⟩ (.bool false)) := (((((Chg.refl (fun x => x = w2.heap.size ∨ x = w.heap.size + 1 + 1) w3).setCell (p := ⟨w2.heap.size, 1, none⟩) (fun _ => .inl rfl) _).setCell (p := ⟨w.heap.size + 1 + 1, 0, none⟩) (fun _ => .inr rfl) _).setCell (p := ⟨w.heap.size + 1 + 1, 1, none⟩) (fun _ => .inr rfl) _).setCell (p := ⟨w.heap.size + 1 + 1, 2, none⟩) (fun _ => .inr rfl) _)
      generalize ((((w3.setCell ⟨w2.heap.size, 1, none⟩ (.int .u64 ((g.la ||| f.la : Nat) : Int))).setCell ⟨w.heap.size + 1 + 1, 0, none⟩ (.int .u64 (f.fi : Nat))).setCell ⟨w.heap.size + 1 + 1, 1, none⟩ (.int .u64 ((g.la ||| f.la : Nat) : Int))).setCell ⟨w.heap.size + 1 + 1, 2, none⟩ (.bool false)) = w7 at *
      obtain ⟨⟨r0, r1, r2⟩, _⟩ := cells3 hf3
      refine bodyPost_ret (v := .agg #[.int .u64 (f.fi : Nat), .int .u64 ((g.la ||| f.la : Nat) : Int), .bool false]) (by simp [results, Tryd.results72, go_sem, r0, r1, r2]) rfl ⟨by unfold fcv thenF; rw [HF.out.1, HF.out.2]; rfl, ?_⟩
      exact HB.out.1.trans (hch.below (by have := HB.out.1.size; omega) fun k hk e => by omega)
    | false => 
      rw [hfe] at c2
      rw [hge] at d2
      have HW := Lib.hid (show w2.alloc (.cells #[.int .u64 (f.fi : Nat), .int .u64 (g.la : Nat), .bool false] 73) = w3 by have := HW3.out; rw [hfe, hge] at this; exact this)
      have e4 : w3.heap[w2.heap.size]? = some (.cells #[.int .u64 (f.fi : Nat), .int .u64 (g.la : Nat), .bool false] 73 (0, 0)) := by have := HB.out.2.2.1; rw [hfe, hge] at this; exact this
      have E4 := Lib.hid e4
      go_upto_region 2 with fail
      try rw [HW.out]
      clear c0 c1 c2 d0 d1 d2
      obtain ⟨⟨c0, c1, c2⟩, _⟩ := cells3 HB.out.2.2.2.1
      obtain ⟨⟨d0, d1, d2⟩, _⟩ := cells3 HB.out.2.2.2.2
      rw [hfe] at c2
      rw [hge] at d2
      obtain ⟨⟨z0, z1, z2⟩, f0, f1, f2⟩ := cells3 HB.out.2.1
      obtain ⟨⟨y0, y1, y2⟩, h0, h1, h2⟩ := cells3 e4
      have hne : w2.heap.size ≠ w.heap.size + 1 + 1 := by omega
      have hl3 := (Array.getElem?_eq_some_iff.1 e4).1
      have HF := Lib.hid (And.intro hfe hge)
      clear e4 hfe hge
      go_wp2_with fail
      clear c0 c1 c2 d0 d1 d2 z0 z1 z2 f0 f1 f2 y0 y1 y2 h0 h1 h2 o1 o2
      have hf3 := set3_heap (w := w3) (HB.out.2.1) (.int .u64 (f.fi : Nat)) (.int .u64 (g.la : Nat)) (.bool false)
      have hch : Chg (fun x => x = w2.heap.size ∨ x = w.heap.size + 1 + 1) w3 (((w3.setCell ⟨w.heap.size + 1 + 1, 0, none⟩ (.int .u64 (f.fi : Nat))).setCell ⟨w.heap.size + 1 + 1, 1, none⟩ (.int .u64 (g.la : Nat))).setCell ⟨w.heap.size + 1 + 1, 2, none⟩ (.bool false)) := ((((Chg.refl (fun x => x = w2.heap.size ∨ x = w.heap.size + 1 + 1) w3).setCell (p := ⟨w.heap.size + 1 + 1, 0, none⟩) (fun _ => .inr rfl) _).setCell (p := ⟨w.heap.size + 1 + 1, 1, none⟩) (fun _ => .inr rfl) _).setCell (p := ⟨w.heap.size + 1 + 1, 2, none⟩) (fun _ => .inr rfl) _)
      generalize (((w3.setCell ⟨w.heap.size + 1 + 1, 0, none⟩ (.int .u64 (f.fi : Nat))).setCell ⟨w.heap.size + 1 + 1, 1, none⟩ (.int .u64 (g.la : Nat))).setCell ⟨w.heap.size + 1 + 1, 2, none⟩ (.bool false)) = w7 at *
      obtain ⟨⟨r0, r1, r2⟩, _⟩ := cells3 hf3
      refine bodyPost_ret (v := .agg #[.int .u64 (f.fi : Nat), .int .u64 (g.la : Nat), .bool false]) (by simp [results, Tryd.results72, go_sem, r0, r1, r2]) rfl ⟨by unfold fcv thenF; rw [HF.out.1, HF.out.2]; rfl, ?_⟩
      exact HB.out.1.trans (hch.below (by have := HB.out.1.size; omega) fun k hk e => by omega)

end Go.Proofs.YtnebfniekeknaaaDoor

/- The order of moves: a contract.
   No conditions. -/
namespace Go.Proofs.YtnebfniekeknaaaDoor
open Go.RowKit Go.Sort

def agI (a b : Bool) : Int := if a = b then 0 else if b then -1 else 1
/-- How two moves stand: by where they go, by what they keep, those that begin again last. -/
def ordM (at' ak bt bk : Int) (aa ba : Bool) : Int := if orI (cmpI at' bt) (cmpI ak bk) = 0 then agI aa ba else orI (cmpI at' bt) (cmpI ak bk)

/-- Draws, and new blocks, alone. -/
def Grows (w w' : World) : Prop := ∃ (q : Nat) (os' : Array Obj), w' = grow (w.drewN q) os'
theorem Grows.refl (w : World) : Grows w w := ⟨0, #[], by unfold grow World.drewN; simp⟩
theorem Grows.alloc {w w' : World} (h : Grows w w') (o : Obj) : Grows w (w'.alloc o) := by
  obtain ⟨q, os, rfl⟩ := h
  exact ⟨q, os ++ #[o], by rw [alloc_eq_grow, grow_grow]⟩
theorem Grows.drew {w w' : World} (h : Grows w w') : Grows w w'.drew := by
  obtain ⟨q, os, rfl⟩ := h
  exact ⟨q + 1, os, rfl⟩

set_option maxHeartbeats 4000000 in
set_option maxRecDepth 100000 in
theorem orderM_any (a0 a1 b0 b1 : Int) (a2 b2 : Bool) (w : World) :
    Calls Tryd.prog 52 #[.agg #[.int .i64 a0, .int .i64 a1, .bool a2], .agg #[.int .i64 b0, .int .i64 b1, .bool b2]] w fun e w' => e = .returned (.int .i64 (ordM a0 a1 b0 b1 a2 b2)) ∧ Grows w w' := by
  obtain ⟨w2, hw2⟩ : ∃ w2, (w.alloc (.cells #[.int .i64 a0, .int .i64 a1, .bool a2] 45)).alloc (.cells #[.int .i64 b0, .int .i64 b1, .bool b2] 45) = w2 := ⟨_, rfl⟩
  have hb2 : Grows w w2 := hw2 ▸ ((Grows.refl w).alloc _).alloc _
  have e1 : w2.heap[w.heap.size]? = some (.cells #[.int .i64 a0, .int .i64 a1, .bool a2] 45 (0, 0)) := by rw [← hw2]; exact (Below.heap_alloc _ _ _ (by simp)).trans (heap_alloc_new w _)
  have e2 : w2.heap[w.heap.size + 1]? = some (.cells #[.int .i64 b0, .int .i64 b1, .bool b2] 45 (0, 0)) := by
    rw [← hw2]
    have := heap_alloc_new (w.alloc (.cells #[.int .i64 a0, .int .i64 a1, .bool a2] 45)) (.cells #[.int .i64 b0, .int .i64 b1, .bool b2] 45)
    rw [World.size_alloc] at this
    exact this
  obtain ⟨⟨c0, c1, c2⟩, _⟩ := cells3 e1
  obtain ⟨⟨d0, d1, d2⟩, _⟩ := cells3 e2
  have l1 : w.heap.size < w2.heap.size := (Array.getElem?_eq_some_iff.1 e1).1
  have l2 : w.heap.size + 1 < w2.heap.size := (Array.getElem?_eq_some_iff.1 e2).1
  have HB := Lib.hid hb2
  clear hb2 e1 e2
  go_enter Tryd.func52, Tryd.ntmps52
  go_upto_region 1 with fail
  clear hw2
  go_region_held3 (fun W => W.cell? ⟨w.heap.size, 0, none⟩ = some (.int .i64 a0) ∧ W.cell? ⟨w.heap.size, 1, none⟩ = some (.int .i64 a1) ∧ W.cell? ⟨w.heap.size + 1, 0, none⟩ = some (.int .i64 b0) ∧ W.cell? ⟨w.heap.size + 1, 1, none⟩ = some (.int .i64 b1))
   (first | go_keep | (go_split_ands; refine ⟨?_, ?_, ?_, ?_⟩ <;> first | go_keep | assumption | exact (World.cell?_of_block (w := w2) (Below.heap_alloc _ _ _ (by assumption))).trans (by assumption) | (simp; omega)))
   (first
    | (go_at_call 45; ((with_reducible refine (compare_int _ _ _).mono ?_); rintro e w1 ⟨rfl, rfl⟩))
    | (go_at_call 44; (refine (or_two w2.heap.size (cmpI a0 b0) (cmpI a1 b1) _ (by first | exact (row_cells (heap_alloc_new _ _)).1 0) (by first | exact (row_cells (heap_alloc_new _ _)).1 1)).mono ?_; rintro e w1 ⟨rfl, rfl⟩)))
  all_goals
    generalize horr : orI (cmpI a0 b0) (cmpI a1 b1) = o
    have HO := Lib.hid horr
    clear horr
    by_cases h0 : o = 0
    · have HE : Hid (ordM a0 a1 b0 b1 a2 b2 = agI a2 b2) := Lib.hid (by unfold ordM; rw [HO.out, if_pos h0])
      subst h0
      clear HO
      cases a2 with
      | true =>
        cases b2 with
        | true =>
          go_wp2_with fail
          go_ret
          exact ⟨by rw [HE.out]; rfl, (HB.out.alloc _).drew⟩
        | false =>
          go_wp2_with fail
          go_ret
          exact ⟨by rw [HE.out]; rfl, (HB.out.alloc _).drew⟩
      | false =>
        cases b2 with
        | true =>
          go_wp2_with fail
          go_ret
          exact ⟨by rw [HE.out]; rfl, (HB.out.alloc _).drew⟩
        | false =>
          go_wp2_with fail
          go_ret
          exact ⟨by rw [HE.out]; rfl, (HB.out.alloc _).drew⟩
    · have HE : Hid (ordM a0 a1 b0 b1 a2 b2 = o) := Lib.hid (by unfold ordM; rw [HO.out, if_neg h0])
      have g : (o != 0) = true := by simp [h0]
      clear HO h0
      go_wp2_with fail
      go_ret
      exact ⟨by rw [HE.out]; rfl, (HB.out.alloc _).drew⟩

end Go.Proofs.YtnebfniekeknaaaDoor

/- A new walker: a contract.
   No conditions. -/
namespace Go.Proofs.YtnebfniekeknaaaDoor
open Go.RowKit Go.Maps

set_option maxHeartbeats 2000000 in
set_option maxRecDepth 100000 in
theorem newWalker_any (w : World) : Calls Tryd.prog 31 #[] w fun e w' => ∃ wk mb jb, e = .returned (.pointer (some ⟨wk, 0, none⟩)) ∧ Wk w' wk mb jb 0 (fun _ => False) (fun _ => False) 0 0 ∧ w.heap.size ≤ wk ∧ w.heap.size ≤ mb ∧ w.heap.size ≤ jb ∧ Below w.heap.size w w' := by
  have hmm := @run_makeMap Tryd.prog
  go_enter Tryd.func31, Tryd.ntmps31
  go_wp2_with fail
  clear hmm
  go_ret
  have hb : Below w.heap.size w (((w.alloc (.map #[] 0)).alloc (.map #[] 0)).alloc (.cells #[.int .i64 0, .map (some w.heap.size), .map (some (w.heap.size + 1))] 106)) := (((Below.refl _ w).alloc (Nat.le_refl _) _).alloc (by simp) _).alloc (by simp; omega) _
  have h0 := World.ownsMap_made (H := Unit) w Tryd.prog 114 unitElem
  have h1 := World.ownsMap_made (H := Unit) (w.alloc (.map #[] 0)) Tryd.prog 141 unitElem
  rw [World.size_alloc] at h1
  refine ⟨w.heap.size + 1 + 1, w.heap.size, w.heap.size + 1, rfl, ⟨?_, ?_, ?_, by omega, fun k h => h.elim⟩, by omega, by omega, by omega, hb⟩
  · have := heap_alloc_new ((w.alloc (.map #[] 0)).alloc (.map #[] 0)) (.cells #[.int .i64 0, .map (some w.heap.size), .map (some (w.heap.size + 1))] 106)
    rw [World.size_alloc, World.size_alloc] at this
    exact this
  · exact ⟨_, (h0.alloc _).alloc _, stsAre_nil⟩
  · exact ⟨_, h1.alloc _, jtsAre_nil⟩

end Go.Proofs.YtnebfniekeknaaaDoor

/- The moves of a simple tree, as plain values: faces, joints, positions.
   Conditions: those that each theorem states. -/
namespace Go.Proofs.YtnebfniekeknaaaDoor
open Go.RowKit

/-- The face of a node none of whose parts has come, behind so many positions. -/
def opF (k : Int) (C : Nat → Nat) (lo : Int) (at' : Nat) : Fc :=
  if isPos k C then ⟨2 ^ (at' + 1), 2 ^ (at' + 1), false⟩ else if k = 4 then ⟨0, 0, decide (lo = 0)⟩ else ⟨0, 0, decide (k = 0 ∨ k = 2)⟩
def opA (k : Int) (C : Nat → Nat) (at' : Nat) : Nat := if isPos k C then at' + 1 else at'
def adF (k : Int) (f g : Fc) : Fc := if k = 2 then thenF f g else orF f g
def adJ (k hi : Int) (ar : Nat) (ag : Bool) (f g : Fc) : List Jt :=
  if k = 2 then [⟨f.la, g.fi, ar, false⟩] else if k = 4 ∧ hi ≠ 1 then [⟨g.la, g.fi, ar, ag⟩] else []
def blA (ar : Nat) (ag : Bool) : Nat := if ag then ar + 1 else ar
mutual
def mvT : T → Nat → Nat → Fc × Nat × List Jt
  | .node k C lo hi ps, ar, at' => mvsT k hi ar (cnt4 k lo hi) ps (opF k C lo at') (opA k C at')
def mvsT (k hi : Int) (ar : Nat) (ag : Bool) : List T → Fc → Nat → Fc × Nat × List Jt
  | [], f, at' => (f, at', [])
  | p :: ps, f, at' =>
    let r := mvT p (blA ar ag) at'
    let s := mvsT k hi ar ag ps (adF k f r.1) r.2.1
    (s.1, s.2.1, r.2.2 ++ adJ k hi ar ag f r.1 ++ s.2.2)
end
mutual
/-- How many positions there are. -/
def npos : T → Nat
  | .node k C _ _ ps => (if isPos k C then 1 else 0) + nposs ps
def nposs : List T → Nat
  | [] => 0
  | t :: ts => npos t + nposs ts
end
mutual
theorem mv_at : ∀ (t : T) (ar at' : Nat), (mvT t ar at').2.1 = at' + npos t
  | .node k C lo hi ps, ar, at' => by
    rw [mvT, mvs_at, npos]
    unfold opA
    split <;> omega
theorem mvs_at (k hi : Int) (ar : Nat) (ag : Bool) : ∀ (ts : List T) (f : Fc) (at' : Nat), (mvsT k hi ar ag ts f at').2.1 = at' + nposs ts
  | [], f, at' => by rw [mvsT, nposs]; rfl
  | t :: ts, f, at' => by
    rw [mvsT]
    simp only
    rw [mvs_at k hi ar ag ts, mv_at t, nposs]
    omega
end
/-- Bits in an interval. -/
def Bt (a b n : Nat) : Prop := ∀ p, n.testBit p = true → a < p ∧ p ≤ b
theorem bt_zero (a b : Nat) : Bt a b 0 := fun p h => by simp at h
theorem bt_one (a : Nat) : Bt a (a + 1) (2 ^ (a + 1)) := fun p h => by
  rw [Nat.testBit_two_pow] at h
  have : a + 1 = p := by simpa using h
  omega
theorem bt_or {a b m n : Nat} (h : Bt a b m) (k : Bt a b n) : Bt a b (m ||| n) := fun p hp => by
  rw [Nat.testBit_or] at hp
  rcases Bool.or_eq_true _ _ ▸ hp with hp | hp
  · exact h p hp
  · exact k p hp
theorem Bt.wid {a b a' b' n : Nat} (h : Bt a b n) (ha : a' ≤ a) (hb : b ≤ b') : Bt a' b' n := fun p hp => by have := h p hp; omega
theorem Bt.lt {a b n : Nat} (h : Bt a b n) : n < 2 ^ (b + 1) := by
  refine Nat.lt_pow_two_of_testBit n fun p hp => ?_
  cases hb : n.testBit p with
  | false => rfl
  | true => have := h p hb; omega
structure FcIn (a b : Nat) (f : Fc) : Prop where
  fi : Bt a b f.fi
  la : Bt a b f.la
theorem FcIn.wid {a b a' b' : Nat} {f : Fc} (h : FcIn a b f) (ha : a' ≤ a) (hb : b ≤ b') : FcIn a' b' f := ⟨h.fi.wid ha hb, h.la.wid ha hb⟩
theorem ad_in {a b : Nat} {k : Int} {f g : Fc} (h : FcIn a b f) (h' : FcIn a b g) : FcIn a b (adF k f g) := by
  unfold adF thenF orF
  split
  · refine ⟨?_, ?_⟩
    · show Bt a b (if f.em then f.fi ||| g.fi else f.fi)
      split
      · exact bt_or h.fi h'.fi
      · exact h.fi
    · show Bt a b (if g.em then g.la ||| f.la else g.la)
      split
      · exact bt_or h'.la h.la
      · exact h'.la
  · exact ⟨bt_or h.fi h'.fi, bt_or h.la h'.la⟩
theorem op_in (k : Int) (C : Nat → Nat) (lo : Int) (a : Nat) : FcIn a (opA k C a) (opF k C lo a) := by
  unfold opA opF
  split
  · exact ⟨bt_one a, bt_one a⟩
  · split
    · exact ⟨bt_zero _ _, bt_zero _ _⟩
    · exact ⟨bt_zero _ _, bt_zero _ _⟩
theorem op_le (k : Int) (C : Nat → Nat) (a : Nat) : a ≤ opA k C a := by unfold opA; split <;> omega
structure JtIn (a b : Nat) (j : Jt) : Prop where
  fr : Bt a b j.fr
  tt : Bt a b j.tt
theorem JtIn.wid {a b a' b' : Nat} {j : Jt} (h : JtIn a b j) (ha : a' ≤ a) (hb : b ≤ b') : JtIn a' b' j := ⟨h.fr.wid ha hb, h.tt.wid ha hb⟩
mutual
/-- All that comes of a node is of its own positions. -/
theorem mv_in : ∀ (t : T) (ar a : Nat), FcIn a (a + npos t) (mvT t ar a).1 ∧ ∀ j ∈ (mvT t ar a).2.2, JtIn a (a + npos t) j
  | .node k C lo hi ps, ar, a => by
    have h := mvs_in k hi ar (cnt4 k lo hi) ps (opF k C lo a) a (opA k C a) (op_le k C a) (op_in k C lo a)
    rw [mvT]
    have e : a + npos (.node k C lo hi ps) = opA k C a + nposs ps := by
      rw [npos]; unfold opA; split <;> omega
    rw [e]
    exact h
theorem mvs_in (k hi : Int) (ar : Nat) (ag : Bool) : ∀ (ts : List T) (f : Fc) (a0 a : Nat), a0 ≤ a → FcIn a0 a f → FcIn a0 (a + nposs ts) (mvsT k hi ar ag ts f a).1 ∧ ∀ j ∈ (mvsT k hi ar ag ts f a).2.2, JtIn a0 (a + nposs ts) j
  | [], f, a0, a, _, h => by
    rw [mvsT, nposs]
    exact ⟨h, fun j hj => by cases hj⟩
  | t :: ts, f, a0, a, ha, h => by
    obtain ⟨h1, h2⟩ := mv_in t (blA ar ag) a
    have e := mv_at t (blA ar ag) a
    have hf : FcIn a0 (a + npos t) (adF k f (mvT t (blA ar ag) a).1) := ad_in (h.wid (Nat.le_refl _) (by omega)) (h1.wid ha (Nat.le_refl _))
    have h3 := mvs_in k hi ar ag ts (adF k f (mvT t (blA ar ag) a).1) a0 (a + npos t) (by omega) hf
    rw [mvsT, nposs]
    simp only
    rw [e]
    refine ⟨h3.1.wid (Nat.le_refl _) (by omega), fun j hj => ?_⟩
    rcases List.mem_append.1 hj with hj | hj
    · rcases List.mem_append.1 hj with hj | hj
      · exact (h2 j hj).wid ha (by omega)
      · unfold adJ at hj
        split at hj
        · rw [List.mem_singleton.1 hj]
          exact ⟨h.la.wid (Nat.le_refl _) (by omega), h1.fi.wid ha (by omega)⟩
        · split at hj
          · rw [List.mem_singleton.1 hj]
            exact ⟨h1.la.wid ha (by omega), h1.fi.wid ha (by omega)⟩
          · cases hj
    · exact (h3.2 j hj).wid (Nat.le_refl _) (by omega)
end
mutual
/-- The map counts the same positions. -/
theorem mapN_pos : ∀ (t : T) (al : List Nat) (m m' : PM), mapN t al m = some m' → m'.sets.length = m.sets.length + npos t
  | .node k C lo hi ps, al, m, m', h => by
    rw [mapN] at h
    split at h
    · cases h
    · have h1 := mapsN_pos ps _ _ m' h
      rw [h1, npos]
      unfold putP scP
      split <;> split <;> simp <;> omega
theorem mapsN_pos : ∀ (ts : List T) (al : List Nat) (m m' : PM), mapsN ts al m = some m' → m'.sets.length = m.sets.length + nposs ts
  | [], al, m, m', h => by
    rw [mapsN] at h
    obtain rfl := Option.some.inj h
    rw [nposs]; rfl
  | t :: ts, al, m, m', h => by
    rw [mapsN] at h
    cases h1 : mapN t al m with
    | none => rw [h1] at h; cases h
    | some m1 =>
      rw [h1] at h
      rw [mapsN_pos ts al m1 m' h, mapN_pos t al m m1 h1, nposs]
      omega
end
theorem map_pos {t : T} {m : PM} (h : mapT t = some m) : m.sets.length = npos t + 1 := by
  have := mapN_pos t [] pm0 m h
  rw [this]
  show 1 + npos t = _
  omega

end Go.Proofs.YtnebfniekeknaaaDoor

/- The groups that are open while a tree is gone through for its moves: what is still to come of them, as plain values.
   Conditions: those that each theorem states. -/
namespace Go.Proofs.YtnebfniekeknaaaDoor
open Go.RowKit

/-- A group: where its node lies, the scopes around it, the parts still to come, the face of those that have come. -/
structure Gp where
  nb : Nat
  no : Nat
  t : V
  ar : Nat
  nv : Value
  ps : List V
  f : Fc
def Gp.ag (g : Gp) : Bool := cnt4 g.t.kind g.t.lo g.t.hi
def Gp.be (g : Gp) : Nat := blA g.ar g.ag
def Gp.ad (g : Gp) (f : Fc) : Gp := { g with f := adF g.t.kind g.f f }
def Gp.js (g : Gp) (f : Fc) : List Jt := adJ g.t.kind g.t.hi g.ar g.ag g.f f
def Gp.tk (g : Gp) (nv : Value) (ps : List V) : Gp := { g with nv := nv, ps := ps }
def Gp.op (nb no : Nat) (u : V) (ar a : Nat) : Gp := ⟨nb, no, u, ar, u.v, u.ps, opF u.kind u.set u.lo a⟩
def gpR (g : Gp) (a : Nat) : Fc × Nat × List Jt := mvsT g.t.kind g.t.hi g.ar g.ag (erases g.ps) g.f a
/-- What comes when a face is handed to those around. -/
def upW : List Gp → Fc → Nat → Fc × Nat × List Jt
  | [], f, a => (f, a, [])
  | p :: gs, f, a => ((upW gs (gpR (p.ad f) a).1 (gpR (p.ad f) a).2.1).1, (upW gs (gpR (p.ad f) a).1 (gpR (p.ad f) a).2.1).2.1, p.js f ++ ((gpR (p.ad f) a).2.2 ++ (upW gs (gpR (p.ad f) a).1 (gpR (p.ad f) a).2.1).2.2))
def resW (g : Gp) (gs : List Gp) (a : Nat) : Fc × Nat × List Jt := ((upW gs (gpR g a).1 (gpR g a).2.1).1, (upW gs (gpR g a).1 (gpR g a).2.1).2.1, (gpR g a).2.2 ++ (upW gs (gpR g a).1 (gpR g a).2.1).2.2)

theorem gpR_nil (g : Gp) (a : Nat) (h : g.ps = []) : gpR g a = (g.f, a, []) := by unfold gpR; rw [h, erases, mvsT]
theorem resW_end (g : Gp) (a : Nat) (h : g.ps = []) : resW g [] a = (g.f, a, []) := by unfold resW; rw [gpR_nil g a h, upW]; rfl
theorem resW_pop (g p : Gp) (gs : List Gp) (a : Nat) (h : g.ps = []) : resW g (p :: gs) a = ((resW (p.ad g.f) gs a).1, (resW (p.ad g.f) gs a).2.1, p.js g.f ++ (resW (p.ad g.f) gs a).2.2) := by
  unfold resW; rw [gpR_nil g a h, upW]; rfl
theorem gpR_op (nb no : Nat) (u : V) (ar a : Nat) : gpR (Gp.op nb no u ar a) (opA u.kind u.set a) = mvT (erase u) ar a := by
  cases u with
  | node k C lo hi v ps =>
    unfold gpR Gp.op Gp.ag
    simp only [V.kind, V.set, V.lo, V.hi, V.ps]
    rw [erase, mvT]
theorem resW_start (nb no : Nat) (u : V) (a : Nat) : resW (Gp.op nb no u 0 a) [] (opA u.kind u.set a) = mvT (erase u) 0 a := by
  unfold resW
  rw [gpR_op, upW, List.append_nil]
theorem resW_take (g : Gp) (gs : List Gp) (a nb no : Nat) (nv : Value) (u : V) (us : List V) (h : g.ps = u :: us) :
    resW (Gp.op nb no u g.be a) (g.tk nv us :: gs) (opA u.kind u.set a) = resW g gs a := by
  unfold resW
  rw [gpR_op, upW]
  have e : ∀ r : Fc × Nat × List Jt, mvT (erase u) g.be a = r → gpR g a = ((gpR ((g.tk nv us).ad r.1) r.2.1).1, (gpR ((g.tk nv us).ad r.1) r.2.1).2.1, r.2.2 ++ (g.tk nv us).js r.1 ++ (gpR ((g.tk nv us).ad r.1) r.2.1).2.2) := fun r hr => by
    subst hr
    conv => lhs; unfold gpR
    rw [h, erases, mvsT]
    rfl
  rw [e _ rfl]
  generalize mvT (erase u) g.be a = r
  generalize gpR ((g.tk nv us).ad r.1) r.2.1 = s
  simp only [List.append_assoc]
theorem gpR_at (g : Gp) (a : Nat) : (gpR g a).2.1 = a + nposs (erases g.ps) := by unfold gpR; rw [mvs_at]
theorem upW_le : ∀ (gs : List Gp) (f : Fc) (a : Nat), a ≤ (upW gs f a).2.1
  | [], f, a => by rw [upW]; exact Nat.le_refl _
  | p :: gs, f, a => by
    rw [upW]
    have h1 := upW_le gs (gpR (p.ad f) a).1 (gpR (p.ad f) a).2.1
    have h2 := gpR_at (p.ad f) a
    show a ≤ (upW gs (gpR (p.ad f) a).1 (gpR (p.ad f) a).2.1).2.1
    omega
theorem resW_le (g : Gp) (gs : List Gp) (a : Nat) : a ≤ (resW g gs a).2.1 := by
  unfold resW
  have h1 := upW_le gs (gpR g a).1 (gpR g a).2.1
  have h2 := gpR_at g a
  show a ≤ (upW gs (gpR g a).1 (gpR g a).2.1).2.1
  omega
mutual
/-- There are fewer joints than nodes. -/
theorem mv_js : ∀ (t : T) (ar a : Nat), (mvT t ar a).2.2.length + 1 ≤ szT t
  | .node k C lo hi ps, ar, a => by
    rw [mvT, szT]
    have := mvs_js k hi ar (cnt4 k lo hi) ps (opF k C lo a) (opA k C a)
    omega
theorem mvs_js (k hi : Int) (ar : Nat) (ag : Bool) : ∀ (ts : List T) (f : Fc) (a : Nat), (mvsT k hi ar ag ts f a).2.2.length ≤ szsT ts
  | [], f, a => by rw [mvsT]; simp
  | t :: ts, f, a => by
    rw [mvsT, szsT]
    have h1 := mv_js t (blA ar ag) a
    have h2 := mvs_js k hi ar ag ts (adF k f (mvT t (blA ar ag) a).1) (mvT t (blA ar ag) a).2.1
    have h3 : (adJ k hi ar ag f (mvT t (blA ar ag) a).1).length ≤ 1 := by
      unfold adJ
      split
      · simp
      · split <;> simp
    simp only [List.length_append]
    omega
end
mutual
/-- No more than four scopes around what is below. -/
def in4 : T → Nat → Prop
  | .node k _ lo hi ps, ar => blA ar (cnt4 k lo hi) ≤ 4 ∧ in4s ps (blA ar (cnt4 k lo hi))
def in4s : List T → Nat → Prop
  | [], _ => True
  | t :: ts, ar => in4 t ar ∧ in4s ts ar
end
theorem belP_bl (k lo hi : Int) (al : List Nat) (m : PM) : (belP k lo hi al m).length = blA al.length (cnt4 k lo hi) := by
  unfold belP blA
  split <;> simp
mutual
theorem mapN_in4 : ∀ (t : T) (al : List Nat) (m m' : PM), mapN t al m = some m' → in4 t al.length
  | .node k C lo hi ps, al, m, m', h => by
    rw [mapN] at h
    split at h
    · cases h
    · rename_i ho
      have h1 := mapsN_in4 ps _ _ m' h
      rw [belP_bl] at h1
      rw [in4]
      refine ⟨?_, h1⟩
      have h2 : ¬ (41 < (putP k C al (scP k lo hi m)).sets.length ∨ 4 < (belP k lo hi al m).length) := fun h => ho (by unfold overP; exact decide_eq_true h)
      rw [belP_bl] at h2
      omega
theorem mapsN_in4 : ∀ (ts : List T) (al : List Nat) (m m' : PM), mapsN ts al m = some m' → in4s ts al.length
  | [], al, m, m', h => by rw [in4s]; trivial
  | t :: ts, al, m, m', h => by
    rw [mapsN] at h
    cases h1 : mapN t al m with
    | none => rw [h1] at h; cases h
    | some m1 =>
      rw [h1] at h
      rw [in4s]
      exact ⟨mapN_in4 t al m m1 h1, mapsN_in4 ts al m1 m' h⟩
end
theorem map_in4 {t : T} {m : PM} (h : mapT t = some m) : in4 t 0 := mapN_in4 t [] pm0 m h
theorem in4_op {u : V} {ar : Nat} (h : in4 (erase u) ar) : blA ar (cnt4 u.kind u.lo u.hi) ≤ 4 ∧ in4s (erases u.ps) (blA ar (cnt4 u.kind u.lo u.hi)) := by
  cases u with
  | node k C lo hi v ps => rw [erase, in4] at h; exact h
theorem fc64_in {a : Nat} {f : Fc} (h : FcIn 0 a f) (ha : a ≤ 40) : Fc64 f := by
  have e : (2 : Nat) ^ 41 < 18446744073709551616 := by decide
  exact ⟨Nat.lt_trans (h.fi.wid (Nat.le_refl 0) ha).lt e, Nat.lt_trans (h.la.wid (Nat.le_refl 0) ha).lt e⟩
def wGp : List Gp → Nat
  | [] => 0
  | g :: gs => 2 * szsT (erases g.ps) + 1 + wGp gs
theorem wGp_len : ∀ gs : List Gp, gs.length ≤ wGp gs
  | [] => by simp [wGp]
  | g :: gs => by have := wGp_len gs; rw [wGp, List.length_cons]; omega
theorem wGp_take (g : Gp) (gs : List Gp) (nb no ar a : Nat) (nv : Value) (u : V) (us : List V) (h : g.ps = u :: us) : wGp (Gp.op nb no u ar a :: g.tk nv us :: gs) + 1 = wGp (g :: gs) := by
  have := sz_eq u
  simp only [wGp, Gp.op, Gp.tk, h, erases, szsT]
  omega
/-- A repeated node of nothing with a formed one's bounds is formed. -/
theorem okF.bnd4 {u : V} (h : okF u) (hk : u.kind = 4) : okT (.node 4 zeros u.lo u.hi [.node 0 zeros 0 0 []]) = true := by
  unfold okF at h
  cases u with
  | node k C lo hi v ps =>
    simp only [V.kind, V.lo, V.hi] at hk ⊢
    subst hk
    rw [erase, okT, Bool.and_eq_true] at h
    have h1 := of_decide_eq_true (show okA 4 (z4 C) lo hi (erases ps).length = true from h.1 : decide _ = true)
    have hb : bnd lo hi = true := by
      rcases h1 with ⟨e, _⟩ | ⟨e, _⟩ | ⟨e, _⟩ | ⟨_, _, _, e⟩
      · omega
      · omega
      · omega
      · exact e
    have hz : z4 zeros = true := by decide
    simp [okT, oksT, okA, hb, hz]
/-- What holds of the groups that are open. -/
structure GOk (a : Nat) (g : Gp) : Prop where
  ok : okF g.t
  oks : ∀ p ∈ g.ps, okF p
  be : g.be ≤ 4
  in4 : in4s (erases g.ps) g.be
  fc : FcIn 0 a g.f
theorem GOk.wid {a b : Nat} {g : Gp} (h : GOk a g) (hab : a ≤ b) : GOk b g := ⟨h.ok, h.oks, h.be, h.in4, h.fc.wid (Nat.le_refl _) hab⟩
theorem GOk.opn {a ar nb no : Nat} {u : V} (hok : okF u) (hin : Go.Proofs.YtnebfniekeknaaaDoor.in4 (erase u) ar) : GOk (opA u.kind u.set a) (Gp.op nb no u ar a) :=
  ⟨hok, fun _ hp => hok.part hp, (in4_op hin).1, (in4_op hin).2, (op_in u.kind u.set u.lo a).wid (Nat.zero_le _) (Nat.le_refl _)⟩
theorem GOk.take {a : Nat} {g : Gp} {u : V} {us : List V} {nv : Value} (h : GOk a g) (hps : g.ps = u :: us) : GOk a (g.tk nv us) ∧ okF u ∧ Go.Proofs.YtnebfniekeknaaaDoor.in4 (erase u) g.be := by
  have h1 := h.in4
  rw [hps, erases, in4s] at h1
  exact ⟨⟨h.ok, fun p hp => h.oks p (by rw [hps]; simp [show p ∈ us from hp]), h.be, h1.2, h.fc⟩, h.oks u (by rw [hps]; simp), h1.1⟩
theorem GOk.add {a : Nat} {g : Gp} {f : Fc} (h : GOk a g) (hf : FcIn 0 a f) : GOk a (g.ad f) := ⟨h.ok, h.oks, h.be, h.in4, ad_in h.fc hf⟩

end Go.Proofs.YtnebfniekeknaaaDoor

/- Whether a repeated node is a scope, asked by its bounds alone: a contract.
   Conditions: the node's bounds lie in memory; a repeated node of nothing with them is formed. -/
namespace Go.Proofs.YtnebfniekeknaaaDoor
open Go.RowKit Go.Shelf

theorem alloc2_new (w : World) (A B : Obj) : ((w.alloc A).alloc B).heap[w.heap.size + 1]? = some B := by
  have := World.alloc_heap_new (w.alloc A) B
  rwa [World.size_alloc] at this
abbrev zero8 : Array Value := #[.int .i64 0, .int .u64 0, .int .u64 0, .int .u64 0, .int .u64 0, .slice none 0 0, .int .i64 0, .int .i64 0]
/-- place.Counts of a repeated node of nothing, whose part lies in a block of its own. -/
theorem cnt_call (lo hi m : Int) (c : Bool) (hm : m = max 1 lo) (hcc : c = cntS (max 1 lo) hi) (hok : okT (.node 4 zeros lo hi [.node 0 zeros 0 0 []]) = true) (W : World) (bs : Nat) (hb : W.heap[bs]? = some (.cells zero8 27 (0, 0))) :
    Calls Tryd.prog 88 #[.agg #[.int .i64 4, .int .u64 0, .int .u64 0, .int .u64 0, .int .u64 0, .slice (some ⟨bs, 0, none⟩) 1 1, .int .i64 lo, .int .i64 hi]] W fun e w' => e = .returned (.tuple #[.agg #[.int .i64 m, .int .i64 hi], .bool c]) ∧ Below W.heap.size W w' := by
  subst hm hcc
  refine placeCounts_any lo hi (some ⟨bs, 0, none⟩) 1 1 [.node 0 zeros 0 0 (.slice none 0 0) []] W (fun _ => True) ?_ ?_ ?_
  · refine Laid.some 4 zeros lo hi [.node 0 zeros 0 0 (.slice none 0 0) []] bs 0 1 trivial (Array.getElem?_eq_some_iff.1 hb).1 (by simp) ?_ ?_
    · intro i t ht k u hu
      cases i with
      | succ i => simp at ht
      | zero =>
        simp at ht
        subst ht
        rw [show (0 + 0 * 8 + k : Nat) = k by omega, (row_cells hb).1 k, ← hu]
        rw [← Array.getElem?_toList]
        rfl
    · intro t ht
      rw [List.mem_singleton.1 ht]
      exact Laid.none _ _ _ _ _ _
  · simp [erase, erases, szT, szsT]
  · exact hok

set_option maxHeartbeats 4000000 in
set_option maxRecDepth 100000 in
theorem cnt_any (nb no : Nat) (lo hi : Int) (hok : okT (.node 4 zeros lo hi [.node 0 zeros 0 0 []]) = true) (w : World) (c6 : w.cell? ⟨nb, no + 6, none⟩ = some (.int .i64 lo)) (c7 : w.cell? ⟨nb, no + 7, none⟩ = some (.int .i64 hi)) (hlt : nb < w.heap.size) :
    Calls Tryd.prog 70 #[.pointer (some ⟨nb, no, none⟩)] w fun e w' => e = .returned (.bool (cntS (max 1 lo) hi)) ∧ Below w.heap.size w w' := by
  go_enter Tryd.func70, Tryd.ntmps70
  go_upto_region 1 with fail
  have HOK := Lib.hid hok
  clear hok
  obtain ⟨m, hm⟩ : ∃ m, m = max 1 lo := ⟨_, rfl⟩
  obtain ⟨c, hcc⟩ : ∃ c, c = cntS (max 1 lo) hi := ⟨_, rfl⟩
  have HM := Lib.hid hm
  have HC := Lib.hid hcc
  clear hm hcc
  go_region_held3 (fun W => W.cell? ⟨nb, no + 6, none⟩ = some (.int .i64 lo) ∧ W.cell? ⟨nb, no + 7, none⟩ = some (.int .i64 hi)) (first | exact ⟨q6, q7⟩ | go_keep | exact ⟨(World.cell?_of_block ((Below.heap_setCell _ _ _ _ (by dsimp only; omega)).trans (Below.heap_setCell _ _ _ _ (by dsimp only; omega)))).trans q6, (World.cell?_of_block ((Below.heap_setCell _ _ _ _ (by dsimp only; omega)).trans (Below.heap_setCell _ _ _ _ (by dsimp only; omega)))).trans q7⟩) ((go_at_call 88; refine (cnt_call lo hi m c HM.out HC.out HOK.out _ _ (by first | exact heap_alloc_new _ _ | exact alloc2_new _ _ _ | exact (Below.heap_alloc _ _ _ (by simp)).trans (heap_alloc_new _ _))).mono ?_; rintro e w7 ⟨rfl, hb7⟩; have HB7 : Hid (Below w.heap.size w w7) := Lib.hid (by first | exact bhop ((Below.refl _ w).alloc (Nat.le_refl _) _).drew hb7 | exact bhop (((Below.refl _ w).alloc (Nat.le_refl _) _).alloc (by simp) _).drew hb7); (try (have hbx : w7.heap[w.heap.size]? = some (.cells #[.int .i64 0, .int .i64 0] 84 (0, 0)) := (hb7.block _ (by simp; try omega)).trans (by first | exact heap_alloc_new _ _ | exact (Below.heap_alloc _ _ _ (by simp)).trans (heap_alloc_new _ _)); have s0 := (row_cells hbx).1 0; have s1 := (row_cells hbx).1 1; have f0 := (row_cells hbx).2 0; have f1 := (row_cells hbx).2 1; have hl := (Array.getElem?_eq_some_iff.1 hbx).1; simp at s0 s1; clear hbx)); (try (have hbx : w7.heap[w.heap.size + 1]? = some (.cells #[.int .i64 0, .int .i64 0] 84 (0, 0)) := (hb7.block _ (by simp)).trans (alloc2_new _ _ _); have s0 := (row_cells hbx).1 0; have s1 := (row_cells hbx).1 1; have f0 := (row_cells hbx).2 0; have f1 := (row_cells hbx).2 1; have hl := (Array.getElem?_eq_some_iff.1 hbx).1; simp at s0 s1; clear hbx)); have q6 : w7.cell? ⟨nb, no + 6, none⟩ = some (.int .i64 lo) := (HB7.out.cell (p := ⟨nb, no + 6, none⟩) hlt).trans c6; have q7 : w7.cell? ⟨nb, no + 7, none⟩ = some (.int .i64 hi) := (HB7.out.cell (p := ⟨nb, no + 7, none⟩) hlt).trans c7; have ql : nb < w7.heap.size := Nat.lt_of_lt_of_le hlt HB7.out.size; clear hb7))
  all_goals
    go_wp2_with fail
    have hs7 := HB7.out.size
    refine bodyPost_ret (results_tmp rfl _ _ _) rfl ⟨by show Ending.returned (.bool c) = _; rw [HC.out], ?_⟩
    first
      | exact (HB7.out.setCell (show w.heap.size ≤ w.heap.size by omega) _).setCell (show w.heap.size ≤ w.heap.size by omega) _
      | exact (HB7.out.setCell (show w.heap.size ≤ w.heap.size + 1 by omega) _).setCell (show w.heap.size ≤ w.heap.size + 1 by omega) _
      | exact HB7.out.alloc hs7 _
      | exact ((HB7.out.alloc hs7 _).setCell (p := ⟨w7.heap.size, 0, none⟩) hs7 _).setCell (p := ⟨w7.heap.size, 1, none⟩) hs7 _

end Go.Proofs.YtnebfniekeknaaaDoor
