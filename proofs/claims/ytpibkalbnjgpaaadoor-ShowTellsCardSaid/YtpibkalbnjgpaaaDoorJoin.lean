/- What the reader's call that joins the parts of a row comes to, and which group is the innermost: contracts.
   Conditions: those that the theorems state. -/
import Derived.Test.YtpibkalbnjgpaaaDoorPut
namespace Go.Proofs.YtpibkalbnjgpaaaDoor
open Go.RowKit

/-- The node of that kind that several parts make, v being their slice. -/
def joinV (kind : Int) (v : Value) : List V → V
  | [] => zeroV
  | [p] => p
  | ps => .node kind zeros 0 0 v ps

def nodeAgg (t : V) : Value := .agg #[.int .i64 t.kind, .int .u64 (t.set 0 : Nat), .int .u64 (t.set 1 : Nat), .int .u64 (t.set 2 : Nat), .int .u64 (t.set 3 : Nat), t.v, .int .i64 t.lo, .int .i64 t.hi]

set_option maxHeartbeats 1000000 in
set_option maxRecDepth 100000 in
theorem joined_any (w : World) (base : Nat) (kind : Int) (v : Value) (ps : List V) (hown : w.ownsRow base 27 8 v ps.length (flat ps)) (hsl : ∀ p ∈ ps, ∃ a n c, p.v = .slice a n c) :
    Calls Tryd.prog 54 #[.int .i64 kind, v] w fun e w' => e = .returned (nodeAgg (joinV kind v ps)) ∧ Below w.heap.size w w' := by
  obtain ⟨A, cp, rfl⟩ := own_form hown
  match ps, hown, hsl with
  | [], hown, hsl =>
    go_enter Tryd.func54, Tryd.ntmps54
    go_wp2_with fail
    refine bodyPost_ret (v := nodeAgg zeroV) (by simp [nodeAgg, zeroV, V.kind, V.set, V.v, V.lo, V.hi, zeros, results, Tryd.results54, go_sem]) rfl ⟨rfl, ?_⟩
    exact (Below.refl _ _).alloc (Nat.le_refl _) _
  | [p], hown, hsl =>
    obtain ⟨g, cap, hg, _, hlt⟩ := hown.form (Nat.succ_pos _)
    simp at hg
    obtain ⟨rfl, rfl⟩ := hg
    obtain ⟨a, m, c, hpv⟩ := hsl p (by simp)
    have hc : ∀ j, j < 8 → w.cell? ⟨g, j, none⟩ = (ndc p)[j]? := fun j hj => by
      rw [hown.cellAt j (by simpa using hj)]
      have := flat_at [p] 0 p rfl j hj
      rwa [Nat.zero_mul, Nat.zero_add] at this
    have x0 : w.cell? ⟨g, 0, none⟩ = some (.int .i64 p.kind) := hc 0 (by decide)
    have x1 : w.cell? ⟨g, 1, none⟩ = some (.int .u64 (p.set 0 : Nat)) := hc 1 (by decide)
    have x2 : w.cell? ⟨g, 2, none⟩ = some (.int .u64 (p.set 1 : Nat)) := hc 2 (by decide)
    have x3 : w.cell? ⟨g, 3, none⟩ = some (.int .u64 (p.set 2 : Nat)) := hc 3 (by decide)
    have x4 : w.cell? ⟨g, 4, none⟩ = some (.int .u64 (p.set 3 : Nat)) := hc 4 (by decide)
    have x5 : w.cell? ⟨g, 5, none⟩ = some (.slice a m c) := (hc 5 (by decide)).trans (congrArg some hpv)
    have x6 : w.cell? ⟨g, 6, none⟩ = some (.int .i64 p.lo) := hc 6 (by decide)
    have x7 : w.cell? ⟨g, 7, none⟩ = some (.int .i64 p.hi) := hc 7 (by decide)
    have HP := Lib.hid hpv
    clear hc hpv
    go_enter Tryd.func54, Tryd.ntmps54
    go_wp2_with fail
    refine bodyPost_ret (v := .agg #[.int .i64 p.kind, .int .u64 (p.set 0 : Nat), .int .u64 (p.set 1 : Nat), .int .u64 (p.set 2 : Nat), .int .u64 (p.set 3 : Nat), .slice a m c, .int .i64 p.lo, .int .i64 p.hi]) (by simp [results, Tryd.results54, go_sem]) rfl ⟨?_, ?_⟩
    · unfold joinV nodeAgg
      rw [HP.out]
    · exact (Below.refl _ _).alloc (Nat.le_refl _) _
  | p :: q :: ps, hown, _ =>
    have e0 : (((p :: q :: ps).length : Nat) : Int) = (ps.length : Int) + 2 := by simp; omega
    generalize (p :: q :: ps).length = m at *
    have e1 : ((m : Int) == 0) = false := by simp; omega
    have e2 : ((m : Int) == 1) = false := by simp; omega
    clear hown e0
    go_enter Tryd.func54, Tryd.ntmps54
    go_wp2_with fail
    refine bodyPost_ret (v := .agg #[.int .i64 kind, .int .u64 0, .int .u64 0, .int .u64 0, .int .u64 0, .slice A m cp, .int .i64 0, .int .i64 0]) (by simp [results, Tryd.results54, go_sem]) rfl ⟨rfl, ?_⟩
    exact (Below.refl _ _).alloc (Nat.le_refl _) _

set_option maxHeartbeats 1000000 in
set_option maxRecDepth 100000 in
theorem inner_any (w : World) (rb k ob m cap : Nat) (s : ByteArray) (h : Rd w rb s k (.slice (some ⟨ob, 0, none⟩) (m + 1) cap)) (hm : m ≤ 1000) :
    Calls Tryd.prog 49 #[.pointer (some ⟨rb, 0, none⟩)] w fun e w' => e = .returned (.pointer (some ⟨ob, m * 2, none⟩)) ∧ Af w rb s (.slice (some ⟨ob, 0, none⟩) (m + 1) cap) k w' := by
  have h1 := h.opn
  have h2 := h.lt
  have H := Lib.hid (Af.refl h)
  have m1 : (0 : Int) ≤ (m : Int) := by omega
  have m2 : (m : Int) < (m : Int) + 1 := by omega
  have m3 : (m : Int) ≤ 1000 := by omega
  have m4 : IntKind.i64.wrap (m : Int) = (m : Int) := by rw [IntKind.wrap_i64]; omega
  clear h
  go_enter Tryd.func49, Tryd.ntmps49
  go_wp2
  go_region
  all_goals
    go_wp2
    go_ret
    exact ⟨rfl, H.out.drewN 1⟩

end Go.Proofs.YtpibkalbnjgpaaaDoor
