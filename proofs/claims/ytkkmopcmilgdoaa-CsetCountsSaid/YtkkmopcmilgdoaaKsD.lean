/- How the statements' arguments are opened: a scope's numbers, lists of bytes, lists of calls.
   Conditions: none but the reading itself. -/
import Derived.Test.YtkkmopcmilgdoaaKsG
import Derived.ProofKit
import Derived.OpenShut
import Derived.ChangeOld
import Derived.Below
import Derived.Laws.IdiomArrays
import Derived.Deep.Slices
namespace Go.Proofs.Ytkkmopcmilgdoaa
open Go.ChangeShapes Go.WideShapes Go.ChangeAt Go.RowKit Go.Deep

theorem cellsBd : Try.prog.cellsOf 24 = 3 := by kernel_rfl
theorem cellsU32 : Try.prog.cellsOf 22 = 1 := by kernel_rfl
theorem cellsBo9 : Try.prog.cellsOf 4 = 1 := by kernel_rfl
theorem cellsU8 : Try.prog.cellsOf 5 = 1 := by kernel_rfl
theorem cellsOp9 : Try.prog.cellsOf 40 = 2 := by kernel_rfl
theorem cellsU8s : Try.prog.cellsOf 38 = 1 := by kernel_rfl
theorem dlist3 {α : Type} (l : List α) (h : l.length = 3) : ∃ a b c, l = [a, b, c] := by
  match l, h with
  | [a, b, c], _ => exact ⟨a, b, c, rfl⟩
theorem dlist2 {α : Type} (l : List α) (h : l.length = 2) : ∃ a b, l = [a, b] := by
  match l, h with
  | [a, b], _ => exact ⟨a, b, rfl⟩
set_option maxRecDepth 100000 in
theorem open_bounds {H : Type} {enc : TypeId × Value → H} {w : World} {base b0 : Nat} {spare : Nat → Bool} {held : Bool} {r : Reach} {v : Value} {d : DataW H} {p : List MemPlace} (hv : Value.okWide Try.prog w r b0 24 v) (h : DataW.Trod enc Try.prog w base spare held 24 v d p) :
    ∃ (low span : Int) (op : Bool), v = .agg #[.int .u32 low, .int .u32 span, .bool op] ∧ (0 ≤ low ∧ low < 4294967296) ∧ (0 ≤ span ∧ span < 4294967296) := by
  obtain ⟨cs, rfl, hsz, _⟩ : ∃ cs, v = .agg cs ∧ cs.size = Try.prog.cellsOf 24 ∧ Row.okWide Try.prog w r b0 24 cs := by
    simpa [Value.okWide, Try.underlying24] using hv
  rw [cellsBd] at hsz
  obtain ⟨l⟩ := cs
  obtain ⟨c0, c1, c2, rfl⟩ := dlist3 l hsz
  obtain ⟨fuel, hf0⟩ := h
  obtain ⟨xs, n, _, hx, hlen, hxl, hf⟩ := DataW.trod_struct Try.underlying24 hf0
  obtain ⟨y0, y1, y2, rfl⟩ := dlist3 xs (by simpa using hxl)
  have h0 := hf 0 { name := "Low", type := 22, offset := 0, embedded := false, tag := "", pkgPath := "", byteOffset := 0 } rfl
  have h1 := hf 1 { name := "Span", type := 22, offset := 1, embedded := false, tag := "", pkgPath := "", byteOffset := 4 } rfl
  have h2 := hf 2 { name := "Open", type := 4, offset := 2, embedded := false, tag := "", pkgPath := "", byteOffset := 8 } rfl
  dsimp only at h0 h1 h2
  simp only [cellsU32, cellsBo9, List.drop_zero, List.getElem?_cons_zero, List.getElem?_cons_succ] at h0 h1 h2
  obtain ⟨a, e0, _, b0⟩ := DataW.trod_int Try.underlying22 h0
  obtain ⟨b, e1, _, b1⟩ := DataW.trod_int Try.underlying22 h1
  obtain ⟨o, e2, _⟩ := DataW.trod_bool Try.underlying4 h2
  simp [Value.cells] at e0 e1 e2
  subst e0 e1 e2
  have k0 := bounds_u32 b0
  have k1 := bounds_u32 b1
  exact ⟨a, b, o, rfl, by omega, by omega⟩

theorem add_mid9 (b o i : Nat) : (⟨b, o, none⟩ : Addr).add i = ⟨b, o + i, none⟩ := by
  unfold Addr.add
  split
  · rename_i h; subst h; rfl
  · rfl
/-- A list of bytes. -/
theorem trod_bytes {H : Type} {enc : TypeId × Value → H} {w : World} {base : Nat} {spare : Nat → Bool} {held : Bool} {fuel : Nat} {cs : List Value} {x : DataW H × List MemPlace} (h : DataW.trod enc Try.prog w base spare held fuel 38 cs = some x) :
    ∃ v l, cs = [v] ∧ BytR w v l ∧ l.length ≤ maxLen := by
  rcases open_slice1 Try.underlying38 cellsU8 h with ⟨e, _⟩ | ⟨a, len, cap, m, n, V, D, Pl, rfl, _, hlc, hcm, hm, _, hV⟩
  · exact ⟨_, [], e, ⟨none, 0, rfl, fun i x hi => by simp at hi⟩, by simp⟩
  · have hlm : len ≤ m := by rw [hm]; split <;> omega
    have hex : ∀ i, i < len → ∃ k : Nat, V i = .int .u8 (k : Int) ∧ k < 256 := fun i hi => by
      obtain ⟨h1, h2⟩ := hV i (by omega)
      obtain ⟨k, e, _, hb⟩ := DataW.trod_int Try.underlying5 h2
      simp at e
      have hk := bounds_u8 hb
      exact ⟨k.toNat, by rw [e, Int.toNat_of_nonneg hk.1], by omega⟩
    obtain ⟨f, hf⟩ := choose_lt hex
    refine ⟨_, (List.range len).map f, rfl, ⟨some a, cap, by simp, fun i x hi => ?_⟩, by simp; omega⟩
    have hil := (List.getElem?_eq_some_iff.1 hi).1
    simp at hil
    rw [List.getElem?_map, List.getElem?_range hil] at hi
    obtain rfl := Option.some.inj hi
    obtain ⟨h1, h2⟩ := hf i hil
    have hc := (hV i (by omega)).1
    obtain ⟨b, off, spot⟩ := a
    have hspot : spot = none := by
      have := World.cell?_spot (hV 0 (by omega)).1
      unfold Addr.add at this
      rw [if_pos rfl] at this
      exact this
    subst hspot
    rw [add_mid9, h1] at hc
    exact ⟨h2, b, off, rfl, World.block_lt_of_cell? _ _ hc, hc⟩

theorem open_bytes {H : Type} {enc : TypeId × Value → H} {w : World} {base : Nat} {spare : Nat → Bool} {held : Bool} {v : Value} {d : DataW H} {p : List MemPlace} {r : Reach} {b0 : Nat} (hv : Value.okWide Try.prog w r b0 38 v) (h : DataW.Trod enc Try.prog w base spare held 38 v d p) : ∃ l, BytR w v l ∧ l.length ≤ maxLen := by
  obtain ⟨fuel, hf⟩ := h
  obtain ⟨v', l, e, h1, h2⟩ := trod_bytes hf
  obtain ⟨a0, l0, c0, rfl⟩ := okWide_slice Try.underlying38 hv
  obtain rfl : Value.slice a0 l0 c0 = v' := by simpa [Value.cells] using e
  exact ⟨l, h1, h2⟩

/-- A list of calls. -/
def OpsR (w : World) (v : Value) (l : List (Nat × List Nat)) : Prop :=
  ∃ A c, v = .slice A l.length c ∧ ∀ (i : Nat) (k : Nat) (b : List Nat), l[i]? = some (k, b) → k < 256 ∧ b.length ≤ maxLen ∧ ∃ g o bv, A = some ⟨g, o, none⟩ ∧ g < w.heap.size ∧ w.cell? ⟨g, o + i * 2, none⟩ = some (.int .u8 (k : Int)) ∧ w.cell? ⟨g, o + i * 2 + 1, none⟩ = some bv ∧ BytR w bv b
theorem OpsR.below {w w' : World} {v : Value} {l : List (Nat × List Nat)} (h : OpsR w v l) (hb : Below w.heap.size w w') : OpsR w' v l := by
  obtain ⟨A, c, hv, hr⟩ := h
  refine ⟨A, c, hv, fun i k b hi => ?_⟩
  obtain ⟨hx, hl, g, o, bv, h1, h3, h4, h5, h6⟩ := hr i k b hi
  exact ⟨hx, hl, g, o, bv, h1, Nat.lt_of_lt_of_le h3 hb.size, (hb.cell (p := ⟨g, o + i * 2, none⟩) h3).trans h4, (hb.cell (p := ⟨g, o + i * 2 + 1, none⟩) h3).trans h5, h6.below hb⟩
theorem trod_op {H : Type} {enc : TypeId × Value → H} {w : World} {base : Nat} {spare : Nat → Bool} {held : Bool} {fuel : Nat} {cs : List Value} {x : DataW H × List MemPlace} (h : DataW.trod enc Try.prog w base spare held fuel 40 cs = some x) :
    ∃ (k : Nat) (bv : Value) (b : List Nat), cs = [.int .u8 (k : Int), bv] ∧ k < 256 ∧ BytR w bv b ∧ b.length ≤ maxLen := by
  obtain ⟨xs, n, _, hx, hlen, hxl, hf⟩ := DataW.trod_struct Try.underlying40 h
  rw [cellsOp9] at hlen
  obtain ⟨c0, c1, rfl⟩ := dlist2 cs hlen
  obtain ⟨y0, y1, rfl⟩ := dlist2 xs (by simpa using hxl)
  have h0 := hf 0 { name := "Kind", type := 5, offset := 0, embedded := false, tag := "", pkgPath := "", byteOffset := 0 } rfl
  have h1 := hf 1 { name := "Ops", type := 38, offset := 1, embedded := false, tag := "", pkgPath := "", byteOffset := 8 } rfl
  dsimp only at h0 h1
  simp only [cellsU8, cellsU8s, List.drop_zero, List.getElem?_cons_zero, List.getElem?_cons_succ] at h0 h1
  obtain ⟨a, e0, _, b0⟩ := DataW.trod_int Try.underlying5 h0
  obtain ⟨bv, b, e1, hb, hbl⟩ := trod_bytes h1
  simp at e0 e1
  subst e0 e1
  have k0 := bounds_u8 b0
  exact ⟨a.toNat, c1, b, by rw [Int.toNat_of_nonneg k0.1], by omega, hb, hbl⟩
theorem trod_ops {H : Type} {enc : TypeId × Value → H} {w : World} {base : Nat} {spare : Nat → Bool} {held : Bool} {fuel : Nat} {cs : List Value} {x : DataW H × List MemPlace} (h : DataW.trod enc Try.prog w base spare held fuel 36 cs = some x) :
    ∃ v l, cs = [v] ∧ OpsR w v l ∧ l.length ≤ maxLen := by
  rcases open_slice Try.underlying36 h with ⟨e, _⟩ | ⟨a, len, cap, m, n, D, Pl, rfl, _, hlc, hcm, hm, _, hV⟩
  · exact ⟨_, [], e, ⟨none, 0, rfl, fun i k b hi => by simp at hi⟩, by simp⟩
  · have hlm : len ≤ m := by rw [hm]; split <;> omega
    rw [cellsOp9] at hV
    have hex : ∀ i, i < len → ∃ q : Nat × List Nat, ∃ bv, w.cell? (a.add (i * 2)) = some (.int .u8 (q.1 : Int)) ∧ w.cell? ((a.add (i * 2)).add 1) = some bv ∧ q.1 < 256 ∧ BytR w bv q.2 ∧ q.2.length ≤ maxLen := fun i hi => by
      obtain ⟨cs', h1, h2⟩ := hV i (by omega)
      obtain ⟨k, bv, b, rfl, hk, hb, hbl⟩ := trod_op h2
      obtain ⟨_, _, hat⟩ := World.cells?_some h1
      have h3 := hat 0 (by omega)
      have h4 := hat 1 (by omega)
      refine ⟨(k, b), bv, ?_, h4, hk, hb, hbl⟩
      have : (a.add (i * 2)).add 0 = a.add (i * 2) := rfl
      rw [this] at h3
      exact h3
    obtain ⟨f, hf⟩ := choose_lt hex
    refine ⟨_, (List.range len).map f, rfl, ⟨some a, cap, by simp, fun i k b' hi => ?_⟩, by simp; omega⟩
    have hil := (List.getElem?_eq_some_iff.1 hi).1
    simp at hil
    rw [List.getElem?_map, List.getElem?_range hil] at hi
    obtain ⟨bv, h1, h2, h3, h4, h5⟩ := hf i hil
    have e := Option.some.inj hi
    rw [e] at h1 h3 h4 h5
    obtain ⟨b, off, spot⟩ := a
    have hspot : spot = none := by
      obtain ⟨_, h6, _⟩ := hf 0 (by omega)
      have := World.cell?_spot h6
      unfold Addr.add at this
      rw [if_pos (by omega)] at this
      exact this
    subst hspot
    rw [add_mid9] at h1 h2
    rw [add_mid9] at h2
    exact ⟨h3, h5, b, off, bv, rfl, World.block_lt_of_cell? _ _ h1, h1, h2, h4⟩

theorem open_ops {H : Type} {enc : TypeId × Value → H} {w : World} {base : Nat} {spare : Nat → Bool} {held : Bool} {v : Value} {d : DataW H} {p : List MemPlace} {r : Reach} {b0 : Nat} (hv : Value.okWide Try.prog w r b0 36 v) (h : DataW.Trod enc Try.prog w base spare held 36 v d p) : ∃ l, OpsR w v l ∧ l.length ≤ maxLen := by
  obtain ⟨fuel, hf⟩ := h
  obtain ⟨v', l, e, h1, h2⟩ := trod_ops hf
  obtain ⟨a0, l0, c0, rfl⟩ := okWide_slice Try.underlying36 hv
  obtain rfl : Value.slice a0 l0 c0 = v' := by simpa [Value.cells] using e
  exact ⟨l, h1, h2⟩

end Go.Proofs.Ytkkmopcmilgdoaa
