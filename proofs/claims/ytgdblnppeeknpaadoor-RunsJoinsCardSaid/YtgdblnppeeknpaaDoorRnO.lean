/- How the statements' arguments of stage 12 are opened: bytes, words in runs, lists of words.
   Conditions: none but the reading itself. -/
import Derived.Test.YtgdblnppeeknpaaDoorRnW
import Derived.ProofKit
import Derived.OpenShut
import Derived.ChangeOld
import Derived.Below
import Derived.Laws.IdiomArrays
import Derived.Deep.Slices
namespace Go.Proofs.YtgdblnppeeknpaaDoor
open Go.ChangeShapes Go.WideShapes Go.ChangeAt Go.RowKit Go.Deep

theorem cellsU8r : Tryd.prog.cellsOf 5 = 1 := by kernel_rfl
theorem cellsI64r : Tryd.prog.cellsOf 2 = 1 := by kernel_rfl
theorem cellsRn : Tryd.prog.cellsOf 42 = 2 := by kernel_rfl
theorem cellsRs : Tryd.prog.cellsOf 24 = 1 := by kernel_rfl
theorem dlistR2 {α : Type} (l : List α) (h : l.length = 2) : ∃ a b, l = [a, b] := by
  match l, h with
  | [a, b], _ => exact ⟨a, b, rfl⟩
theorem add_midR (b o i : Nat) : (⟨b, o, none⟩ : Addr).add i = ⟨b, o + i, none⟩ := by
  unfold Addr.add
  split
  · rename_i h; subst h; rfl
  · rfl
/-- A list of bytes. -/
theorem trod_bytes {H : Type} {enc : TypeId × Value → H} {w : World} {base : Nat} {spare : Nat → Bool} {held : Bool} {fuel : Nat} {cs : List Value} {x : DataW H × List MemPlace} (h : DataW.trod enc Tryd.prog w base spare held fuel 22 cs = some x) :
    ∃ v l, cs = [v] ∧ BytW w v l ∧ l.length ≤ maxLen := by
  rcases open_slice1 Tryd.underlying22 cellsU8r h with ⟨e, _⟩ | ⟨a, len, cap, m, n, V, D, Pl, rfl, _, hlc, hcm, hm, _, hV⟩
  · exact ⟨_, [], e, ⟨none, 0, rfl, fun i x hi => by simp at hi⟩, by simp⟩
  · have hlm : len ≤ m := by rw [hm]; split <;> omega
    have hex : ∀ i, i < len → ∃ k : Nat, V i = .int .u8 (k : Int) ∧ k < 256 := fun i hi => by
      obtain ⟨h1, h2⟩ := hV i (by omega)
      obtain ⟨k, e, _, hb⟩ := DataW.trod_int Tryd.underlying5 h2
      simp at e
      have hk := bounds_u8 hb
      exact ⟨k.toNat, by rw [e, Int.toNat_of_nonneg hk.1], by omega⟩
    obtain ⟨f, hf⟩ := choose_lt hex
    refine ⟨_, (List.range len).map f, rfl, ⟨some a, cap, by simp, fun i x hi => ?_⟩, by simp; omega⟩
    have hil := (List.getElem?_eq_some_iff.1 hi).1
    simp at hil
    rw [List.getElem?_map, List.getElem?_range hil] at hi
    obtain rfl := Option.some.inj hi
    obtain ⟨h1, h2⟩ := hf i hil
    have hc := (hV i (by omega)).1
    obtain ⟨b, off, spot⟩ := a
    have hspot : spot = none := by
      have := World.cell?_spot (hV 0 (by omega)).1
      unfold Addr.add at this
      rw [if_pos rfl] at this
      exact this
    subst hspot
    rw [add_midR, h1] at hc
    exact ⟨h2, b, off, rfl, World.block_lt_of_cell? _ _ hc, hc⟩

theorem open_bytes {H : Type} {enc : TypeId × Value → H} {w : World} {base : Nat} {spare : Nat → Bool} {held : Bool} {v : Value} {d : DataW H} {p : List MemPlace} {r : Reach} {b0 : Nat} (hv : Value.okWide Tryd.prog w r b0 22 v) (h : DataW.Trod enc Tryd.prog w base spare held 22 v d p) : ∃ l, BytW w v l ∧ l.length ≤ maxLen := by
  obtain ⟨fuel, hf⟩ := h
  obtain ⟨v', l, e, h1, h2⟩ := trod_bytes hf
  obtain ⟨a0, l0, c0, rfl⟩ := okWide_slice Tryd.underlying22 hv
  obtain rfl : Value.slice a0 l0 c0 = v' := by simpa [Value.cells] using e
  exact ⟨l, h1, h2⟩

/-- What a run's numbers may be. -/
def RnOk (l : List Rn) : Prop := ∀ q ∈ l, q.1 < 256 ∧ -9223372036854775808 ≤ q.2 ∧ q.2 < 9223372036854775808
theorem trod_run {H : Type} {enc : TypeId × Value → H} {w : World} {base : Nat} {spare : Nat → Bool} {held : Bool} {fuel : Nat} {cs : List Value} {x : DataW H × List MemPlace} (h : DataW.trod enc Tryd.prog w base spare held fuel 42 cs = some x) :
    ∃ (b : Nat) (t : Int), cs = [.int .u8 (b : Int), .int .i64 t] ∧ b < 256 ∧ -9223372036854775808 ≤ t ∧ t < 9223372036854775808 := by
  obtain ⟨xs, n, _, hx, hlen, hxl, hf⟩ := DataW.trod_struct Tryd.underlying42 h
  rw [cellsRn] at hlen
  obtain ⟨c0, c1, rfl⟩ := dlistR2 cs hlen
  obtain ⟨y0, y1, rfl⟩ := dlistR2 xs (by simpa using hxl)
  have h0 := hf 0 { name := "Byte", type := 5, offset := 0, embedded := false, tag := "", pkgPath := "", byteOffset := 0 } rfl
  have h1 := hf 1 { name := "Times", type := 2, offset := 1, embedded := false, tag := "", pkgPath := "", byteOffset := 8 } rfl
  dsimp only at h0 h1
  simp only [cellsU8r, cellsI64r, List.drop_zero, List.getElem?_cons_zero, List.getElem?_cons_succ] at h0 h1
  obtain ⟨a, e0, _, b0⟩ := DataW.trod_int Tryd.underlying5 h0
  obtain ⟨t, e1, _, b1⟩ := DataW.trod_int Tryd.underlying2 h1
  simp at e0 e1
  subst e0 e1
  have k0 := bounds_u8 b0
  have k1 := bounds_i64 b1
  exact ⟨a.toNat, t, by rw [Int.toNat_of_nonneg k0.1], by omega, k1.1, by omega⟩
theorem trod_runs {H : Type} {enc : TypeId × Value → H} {w : World} {base : Nat} {spare : Nat → Bool} {held : Bool} {fuel : Nat} {cs : List Value} {x : DataW H × List MemPlace} (h : DataW.trod enc Tryd.prog w base spare held fuel 24 cs = some x) :
    ∃ v l, cs = [v] ∧ RunsR w (fun _ => True) v l ∧ RnOk l ∧ l.length ≤ maxLen := by
  rcases open_slice Tryd.underlying24 h with ⟨e, _⟩ | ⟨a, len, cap, m, n, D, Pl, rfl, _, hlc, hcm, hm, _, hV⟩
  · exact ⟨_, [], e, ⟨none, 0, rfl, fun i k b hi => by simp at hi⟩, fun q hq => (by cases hq), by simp⟩
  · have hlm : len ≤ m := by rw [hm]; split <;> omega
    rw [cellsRn] at hV
    have hex : ∀ i, i < len → ∃ q : Rn, w.cell? (a.add (i * 2)) = some (.int .u8 (q.1 : Int)) ∧ w.cell? ((a.add (i * 2)).add 1) = some (.int .i64 q.2) ∧ q.1 < 256 ∧ -9223372036854775808 ≤ q.2 ∧ q.2 < 9223372036854775808 := fun i hi => by
      obtain ⟨cs', h1, h2⟩ := hV i (by omega)
      obtain ⟨b, t, rfl, hb, h5, h6⟩ := trod_run h2
      obtain ⟨_, _, hat⟩ := World.cells?_some h1
      have h3 := hat 0 (by omega)
      have h4 := hat 1 (by omega)
      refine ⟨(b, t), ?_, h4, hb, h5, h6⟩
      have : (a.add (i * 2)).add 0 = a.add (i * 2) := rfl
      rw [this] at h3
      exact h3
    obtain ⟨f, hf⟩ := choose_lt hex
    refine ⟨_, (List.range len).map f, rfl, ⟨some a, cap, by simp, fun i b t hi => ?_⟩, fun q hq => ?_, by simp; omega⟩
    · have hil := (List.getElem?_eq_some_iff.1 hi).1
      simp at hil
      rw [List.getElem?_map, List.getElem?_range hil] at hi
      obtain ⟨h1, h2, _⟩ := hf i hil
      have e := Option.some.inj hi
      rw [e] at h1 h2
      obtain ⟨g, off, spot⟩ := a
      have hspot : spot = none := by
        obtain ⟨h6, _⟩ := hf 0 (by omega)
        have := World.cell?_spot h6
        unfold Addr.add at this
        rw [if_pos (by omega)] at this
        exact this
      subst hspot
      rw [add_midR] at h1 h2
      rw [add_midR] at h2
      exact ⟨g, off, rfl, trivial, World.block_lt_of_cell? _ _ h1, h1, h2⟩
    · obtain ⟨i, hi, rfl⟩ := List.mem_map.1 hq
      exact (hf i (List.mem_range.1 hi)).2.2
theorem open_runs {H : Type} {enc : TypeId × Value → H} {w : World} {base : Nat} {spare : Nat → Bool} {held : Bool} {v : Value} {d : DataW H} {p : List MemPlace} {r : Reach} {b0 : Nat} (hv : Value.okWide Tryd.prog w r b0 24 v) (h : DataW.Trod enc Tryd.prog w base spare held 24 v d p) : ∃ l, RunsR w (fun _ => True) v l ∧ RnOk l ∧ l.length ≤ maxLen := by
  obtain ⟨fuel, hf⟩ := h
  obtain ⟨v', l, e, h1, h2⟩ := trod_runs hf
  obtain ⟨a0, l0, c0, rfl⟩ := okWide_slice Tryd.underlying24 hv
  obtain rfl : Value.slice a0 l0 c0 = v' := by simpa [Value.cells] using e
  exact ⟨l, h1, h2⟩
theorem trod_words {H : Type} {enc : TypeId × Value → H} {w : World} {base : Nat} {spare : Nat → Bool} {held : Bool} {fuel : Nat} {cs : List Value} {x : DataW H × List MemPlace} (h : DataW.trod enc Tryd.prog w base spare held fuel 39 cs = some x) :
    ∃ v ws, cs = [v] ∧ WdsR w (fun _ => True) v ws ∧ (∀ l ∈ ws, RnOk l ∧ l.length ≤ maxLen) ∧ ws.length ≤ maxLen := by
  rcases open_slice1 Tryd.underlying39 cellsRs h with ⟨e, _⟩ | ⟨a, len, cap, m, n, V, D, Pl, rfl, _, hlc, hcm, hm, _, hV⟩
  · exact ⟨_, [], e, ⟨none, 0, rfl, fun i l hi => by simp at hi⟩, fun q hq => (by cases hq), by simp⟩
  · have hlm : len ≤ m := by rw [hm]; split <;> omega
    have hex : ∀ i, i < len → ∃ l : List Rn, RunsR w (fun _ => True) (V i) l ∧ RnOk l ∧ l.length ≤ maxLen := fun i hi => by
      obtain ⟨h1, h2⟩ := hV i (by omega)
      obtain ⟨v', l, e, h3, h4, h5⟩ := trod_runs h2
      obtain rfl := (List.cons.inj e).1
      exact ⟨l, h3, h4, h5⟩
    obtain ⟨f, hf⟩ := choose_lt hex
    refine ⟨_, (List.range len).map f, rfl, ⟨some a, cap, by simp, fun i l hi => ?_⟩, fun q hq => ?_, by simp; omega⟩
    · have hil := (List.getElem?_eq_some_iff.1 hi).1
      simp at hil
      rw [List.getElem?_map, List.getElem?_range hil] at hi
      obtain rfl := Option.some.inj hi
      have hc := (hV i (by omega)).1
      obtain ⟨b, off, spot⟩ := a
      have hspot : spot = none := by
        have := World.cell?_spot (hV 0 (by omega)).1
        unfold Addr.add at this
        rw [if_pos rfl] at this
        exact this
      subst hspot
      rw [add_midR] at hc
      exact ⟨b, off, _, rfl, World.block_lt_of_cell? _ _ hc, hc, (hf i hil).1⟩
    · obtain ⟨i, hi, rfl⟩ := List.mem_map.1 hq
      exact (hf i (List.mem_range.1 hi)).2
theorem open_words {H : Type} {enc : TypeId × Value → H} {w : World} {base : Nat} {spare : Nat → Bool} {held : Bool} {v : Value} {d : DataW H} {p : List MemPlace} {r : Reach} {b0 : Nat} (hv : Value.okWide Tryd.prog w r b0 39 v) (h : DataW.Trod enc Tryd.prog w base spare held 39 v d p) : ∃ ws, WdsR w (fun _ => True) v ws ∧ (∀ l ∈ ws, RnOk l ∧ l.length ≤ maxLen) ∧ ws.length ≤ maxLen := by
  obtain ⟨fuel, hf⟩ := h
  obtain ⟨v', l, e, h1, h2⟩ := trod_words hf
  obtain ⟨a0, l0, c0, rfl⟩ := okWide_slice Tryd.underlying39 hv
  obtain rfl : Value.slice a0 l0 c0 = v' := by simpa [Value.cells] using e
  exact ⟨l, h1, h2⟩

end Go.Proofs.YtgdblnppeeknpaaDoor
