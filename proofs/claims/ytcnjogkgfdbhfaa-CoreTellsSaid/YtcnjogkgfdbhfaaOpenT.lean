/- How a tree among the arguments is opened: as it lies in memory, its numbers within their kinds.
   Conditions: none but the reading itself. -/
import Derived.Test.YtcnjogkgfdbhfaaWalkV
import Derived.Test.YtcnjogkgfdbhfaaRows
import Derived.WalkKit
import Derived.ProofKit
import Derived.OpenShut
import Derived.ChangeOld
import Derived.Below
import Derived.Laws.IdiomArrays
import Derived.Deep.Slices
namespace Go.Proofs.Ytcnjogkgfdbhfaa
open Go.ChangeShapes Go.WideShapes Go.ChangeAt Go.RowKit Go.Deep

/-- A number of the kind int64, and int. -/
def I64 (x : Int) : Prop := -9223372036854775808 ≤ x ∧ x ≤ 9223372036854775807
/-- A tree whose numbers are of their kinds, a class having four words alone. -/
inductive Good : V → Prop where
  | mk (k : Int) (C : Nat → Nat) (lo hi : Int) (v : Value) (ps : List V) (hk : I64 k) (hC : Cl C) (hz : ∀ i, 4 ≤ i → C i = 0) (hlo : I64 lo) (hhi : I64 hi) (hp : ∀ t, t ∈ ps → Good t) : Good (.node k C lo hi v ps)
theorem list8 {α : Type} (l : List α) (h : l.length = 8) : ∃ a b c d e f g i, l = [a, b, c, d, e, f, g, i] := by
  match l, h with
  | [a, b, c, d, e, f, g, i], _ => exact ⟨a, b, c, d, e, f, g, i, rfl⟩
theorem list5 {α : Type} (l : List α) (h : l.length = 5) : ∃ a b c d e, l = [a, b, c, d, e] := by
  match l, h with
  | [a, b, c, d, e], _ => exact ⟨a, b, c, d, e, rfl⟩
def words4 (x0 x1 x2 x3 : Int) : Nat → Nat
  | 0 => x0.toNat
  | 1 => x1.toNat
  | 2 => x2.toNat
  | 3 => x3.toNat
  | _ => 0
theorem cast_toNat4 {x : Int} (h : 0 ≤ x) : ((x.toNat : Nat) : Int) = x := Int.toNat_of_nonneg h
theorem Cl_words4 {x0 x1 x2 x3 : Int} (h0 : x0 ≤ 18446744073709551615) (h1 : x1 ≤ 18446744073709551615) (h2 : x2 ≤ 18446744073709551615) (h3 : x3 ≤ 18446744073709551615) : Cl (words4 x0 x1 x2 x3) := by
  intro i
  match i with
  | 0 => show x0.toNat < _; omega
  | 1 => show x1.toNat < _; omega
  | 2 => show x2.toNat < _; omega
  | 3 => show x3.toNat < _; omega
  | _ + 4 => show 0 < 18446744073709551616; decide
theorem words4_zero (x0 x1 x2 x3 : Int) : ∀ i, 4 ≤ i → words4 x0 x1 x2 x3 i = 0
  | _ + 4, _ => rfl
theorem cellsNode : Try.prog.cellsOf 27 = 8 := by kernel_rfl
theorem cellsClass : Try.prog.cellsOf 24 = 4 := by kernel_rfl
theorem cellsU64 : Try.prog.cellsOf 22 = 1 := by kernel_rfl
theorem cellsInt : Try.prog.cellsOf 3 = 1 := by kernel_rfl
theorem cellsI64 : Try.prog.cellsOf 2 = 1 := by kernel_rfl
theorem cellsNodes : Try.prog.cellsOf 25 = 1 := by kernel_rfl

section
variable {H : Type} {enc : TypeId × Value → H} {W : World} {base : Nat} {spare : Nat → Bool} {held : Bool}
theorem trod_class4 {fuel : Nat} {cs : List Value} {x : DataW H × List MemPlace} (hl : cs.length = 4) (h : DataW.trod enc Try.prog W base spare held fuel 24 cs = some x) :
    ∃ C : Nat → Nat, Cl C ∧ (∀ i, 4 ≤ i → C i = 0) ∧ cs = [.int .u64 (C 0 : Nat), .int .u64 (C 1 : Nat), .int .u64 (C 2 : Nat), .int .u64 (C 3 : Nat)] := by
  match cs, hl with
  | [c0, c1, c2, c3], _ =>
  obtain ⟨y0, y1, y2, y3, m, _, hy0, hy1, hy2, hy3⟩ := trod_array4 Try.underlying24 cellsU64 h
  obtain ⟨x0, e0, _, w0⟩ := DataW.trod_int Try.underlying22 hy0
  obtain ⟨x1, e1, _, w1⟩ := DataW.trod_int Try.underlying22 hy1
  obtain ⟨x2, e2, _, w2⟩ := DataW.trod_int Try.underlying22 hy2
  obtain ⟨x3, e3, _, w3⟩ := DataW.trod_int Try.underlying22 hy3
  simp at e0 e1 e2 e3
  subst e0 e1 e2 e3
  have k0 := bounds_u64 w0
  have k1 := bounds_u64 w1
  have k2 := bounds_u64 w2
  have k3 := bounds_u64 w3
  refine ⟨words4 x0 x1 x2 x3, Cl_words4 k0.2 k1.2 k2.2 k3.2, words4_zero _ _ _ _, ?_⟩
  simp [words4, cast_toNat4 k0.1, cast_toNat4 k1.1, cast_toNat4 k2.1, cast_toNat4 k3.1]

/-- A node's cells, read as data: a tree that lies there. -/
theorem trod_node : ∀ (fuel : Nat) (cs : List Value) (x : DataW H × List MemPlace), DataW.trod enc Try.prog W base spare held fuel 27 cs = some x → ∃ t : V, cs = ndc t ∧ Laid W (fun _ => True) t ∧ Good t := by
  intro fuel
  induction fuel using Nat.strongRecOn with
  | ind fuel ih =>
  intro cs x h
  obtain ⟨xs, n, rfl, hx, hlen, hxl, hf⟩ := DataW.trod_struct Try.underlying27 h
  rw [cellsNode] at hlen
  obtain ⟨c0, c1, c2, c3, c4, c5, c6, c7, rfl⟩ := list8 cs hlen
  obtain ⟨y0, y1, y2, y3, y4, rfl⟩ := list5 xs (by simpa using hxl)
  have h0 := hf 0 { name := "Kind", type := 3, offset := 0, embedded := false, tag := "", pkgPath := "", byteOffset := 0 } rfl
  have h1 := hf 1 { name := "Set", type := 24, offset := 1, embedded := false, tag := "", pkgPath := "", byteOffset := 8 } rfl
  have h2 := hf 2 { name := "Parts", type := 25, offset := 5, embedded := false, tag := "", pkgPath := "", byteOffset := 40 } rfl
  have h3 := hf 3 { name := "Lo", type := 2, offset := 6, embedded := false, tag := "", pkgPath := "", byteOffset := 64 } rfl
  have h4 := hf 4 { name := "Hi", type := 2, offset := 7, embedded := false, tag := "", pkgPath := "", byteOffset := 72 } rfl
  dsimp only at h0 h1 h2 h3 h4
  simp only [cellsInt, cellsClass, cellsNodes, cellsI64, List.drop_zero, List.drop_succ_cons, List.take_succ_cons, List.take_zero, List.getElem?_cons_zero, List.getElem?_cons_succ] at h0 h1 h2 h3 h4
  clear hf
  obtain ⟨k, e0, _, wk⟩ := DataW.trod_int Try.underlying3 h0
  obtain ⟨C, hC, hz, e1⟩ := trod_class4 rfl h1
  obtain ⟨lo, e3, _, wlo⟩ := DataW.trod_int Try.underlying2 h3
  obtain ⟨hi, e4, _, whi⟩ := DataW.trod_int Try.underlying2 h4
  simp only [List.cons.injEq, and_true] at e0 e1 e3 e4
  obtain ⟨rfl, rfl, rfl, rfl⟩ := e1
  subst e0 e3 e4
  have bk := bounds_i64 wk
  have blo := bounds_i64 wlo
  have bhi := bounds_i64 whi
  rcases DataW.trod_slice Try.underlying25 h2 with ⟨e2, _⟩ | ⟨a, len, cap, elems, rest, m, rfl, e2, _, _, hlc, _, hel, hall, _⟩
  · simp only [List.cons.injEq, and_true] at e2
    subst e2
    exact ⟨.node k C lo hi (.slice none 0 0) [], rfl, .none k C lo hi none 0, .mk k C lo hi _ [] bk hC hz blo bhi (fun _ h => by cases h)⟩
  · simp only [List.cons.injEq, and_true] at e2
    subst e2
    rw [cellsNode] at hall
    have hex : ∀ i, i < len → ∃ t : V, (∀ j u, (ndc t)[j]? = some u → W.cell? (a.add (i * 8 + j)) = some u) ∧ Laid W (fun _ => True) t ∧ Good t := fun i hi => by
      have hi2 := hall i hi
      rw [List.getElem?_eq_getElem (by omega)] at hi2
      obtain ⟨cs', hc, ht⟩ := Option.bind_eq_some_iff.1 hi2
      obtain ⟨_, hcl, hat⟩ := World.cells?_some hc
      obtain ⟨t, rfl, hl, hg⟩ := ih m (by omega) cs' _ ht
      refine ⟨t, fun j u hu => ?_, hl, hg⟩
      have hj := (List.getElem?_eq_some_iff.1 hu).1
      rw [ndc_length] at hj
      rw [← Go.Deep.add_add, hat j hj, hu]
    have hfun : ∀ n, n ≤ len → ∃ ts : List V, ts.length = n ∧ ∀ i t, ts[i]? = some t → (∀ j u, (ndc t)[j]? = some u → W.cell? (a.add (i * 8 + j)) = some u) ∧ Laid W (fun _ => True) t ∧ Good t := by
      intro n
      induction n with
      | zero => exact fun _ => ⟨[], rfl, fun i t h => by simp at h⟩
      | succ n ihn =>
        intro hn
        obtain ⟨ts, h1, h2⟩ := ihn (by omega)
        obtain ⟨t, h3⟩ := hex n (by omega)
        refine ⟨ts ++ [t], by simp [h1], fun i u hu => ?_⟩
        by_cases hin : i < n
        · rw [List.getElem?_append_left (by omega)] at hu
          exact h2 i u hu
        · have hlt := (List.getElem?_eq_some_iff.1 hu).1
          simp [h1] at hlt
          have e : i = n := by omega
          subst e
          rw [List.getElem?_append_right (by omega), h1] at hu
          simp at hu
          subst hu
          exact h3
    obtain ⟨ts, hlen2, hts⟩ := hfun len (Nat.le_refl _)
    have hgood : ∀ t, t ∈ ts → Good t := fun t ht => by
      obtain ⟨i, hi, he⟩ := List.getElem_of_mem ht
      exact (hts i t (by rw [List.getElem?_eq_getElem hi, he])).2.2
    cases ts with
    | nil =>
      simp at hlen2
      subst hlen2
      exact ⟨.node k C lo hi (.slice (some a) 0 cap) [], rfl, .none k C lo hi (some a) cap, .mk k C lo hi _ [] bk hC hz blo bhi (fun _ h => by cases h)⟩
    | cons t0 ts =>
      have hc0 := (hts 0 t0 rfl).1 0 _ rfl
      obtain ⟨b, off, spot⟩ := a
      have hspot : spot = none := by simpa [Addr.add] using World.cell?_spot hc0
      subst hspot
      have hblt : b < W.heap.size := World.block_lt_of_cell? _ _ hc0
      subst hlen2
      refine ⟨.node k C lo hi (.slice (some ⟨b, off, none⟩) (t0 :: ts).length cap) (t0 :: ts), rfl, .some k C lo hi _ b off cap trivial hblt hlc (fun i t ht j u hu => ?_) (fun t ht => ?_), .mk k C lo hi _ _ bk hC hz blo bhi hgood⟩
      · have := (hts i t ht).1 j u hu
        rw [Addr.add_mid, ← Nat.add_assoc] at this
        exact this
      · obtain ⟨i, hi, he⟩ := List.getElem_of_mem ht
        exact (hts i t (by rw [List.getElem?_eq_getElem hi, he])).2.1

set_option maxRecDepth 100000 in
/-- A tree among the arguments. -/
theorem open_tree {r : Reach} {b0 : Nat} {v : Value} {d : DataW H} {p : List MemPlace} (hv : Value.okWide Try.prog W r b0 27 v) (h : DataW.Trod enc Try.prog W base spare held 27 v d p) :
    ∃ t : V, v = .agg (ndc t).toArray ∧ Laid W (fun _ => True) t ∧ Good t := by
  obtain ⟨cs, rfl, hsz⟩ := okWide_struct Try.underlying27 hv
  obtain ⟨fuel, hf⟩ := h
  obtain ⟨t, ht, hl, hg⟩ := trod_node fuel _ _ hf
  refine ⟨t, ?_, hl, hg⟩
  have hcs : cs.toList = ndc t := by
    rw [← ht]
    exact (by simp [Value.cells])
  rw [← hcs]
end

end Go.Proofs.Ytcnjogkgfdbhfaa
