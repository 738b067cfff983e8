/- How a class among the arguments is opened: four words below 2^64; and read again behind the call.
   Conditions: none but the reading itself. -/
import Derived.Test.YtbppofhjlgfbiaaMath
import Derived.Test.YtbppofhjlgfbiaaRows
import Derived.WalkKit
import Derived.ProofKit
import Derived.OpenShut
import Derived.ChangeOld
import Derived.Below
import Derived.Laws.IdiomArrays
namespace Go.Proofs.Ytbppofhjlgfbiaa
open Go.ChangeShapes Go.WideShapes Go.ChangeAt Go.RowKit

theorem own : ownKnob Try.prog.godebug = none := by kernel_rfl
theorem laidOut : laidOutB Try.prog = true := by kernel_rfl
theorem cells26 : Try.prog.cellsOf 26 = 4 := by kernel_rfl
theorem cells24' : Try.prog.cellsOf 24 = 1 := by kernel_rfl
theorem list4 {α : Type} (l : List α) (h : (⟨l⟩ : Array α).size = 4) : ∃ a b c d, l = [a, b, c, d] := by
  match l, h with
  | [a, b, c, d], _ => exact ⟨a, b, c, d, rfl⟩
def words (x0 x1 x2 x3 : Int) : Nat → Nat
  | 0 => x0.toNat
  | 1 => x1.toNat
  | 2 => x2.toNat
  | 3 => x3.toNat
  | _ => 0
theorem cast_toNat {x : Int} (h : 0 ≤ x) : ((x.toNat : Nat) : Int) = x := Int.toNat_of_nonneg h
theorem Cl_words {x0 x1 x2 x3 : Int} (h0 : x0 ≤ 18446744073709551615) (h1 : x1 ≤ 18446744073709551615) (h2 : x2 ≤ 18446744073709551615) (h3 : x3 ≤ 18446744073709551615) : Cl (words x0 x1 x2 x3) := by
  intro i
  match i with
  | 0 => show x0.toNat < _; omega
  | 1 => show x1.toNat < _; omega
  | 2 => show x2.toNat < _; omega
  | 3 => show x3.toNat < _; omega
  | _ + 4 => show 0 < 18446744073709551616; decide

variable {H : Type} {enc : TypeId × Value → H} {W : World}
theorem open_class {base b0 : Nat} {spare : Nat → Bool} {held : Bool} {r : Reach} {v : Value} {d : DataW H} {p : List MemPlace} (hv : Value.okWide Try.prog W r b0 26 v) (h : DataW.Trod enc Try.prog W base spare held 26 v d p) :
    ∃ C : Nat → Nat, v = .agg #[.int .u64 (C 0 : Nat), .int .u64 (C 1 : Nat), .int .u64 (C 2 : Nat), .int .u64 (C 3 : Nat)] ∧ Cl C ∧ p = [] := by
  obtain ⟨cs, rfl, hsz, _⟩ : ∃ cs, v = .agg cs ∧ cs.size = Try.prog.cellsOf 26 ∧ Row.okWide Try.prog W r b0 26 cs := by
    simpa [Value.okWide, Try.underlying26] using hv
  rw [cells26] at hsz
  obtain ⟨l⟩ := cs
  obtain ⟨c0, c1, c2, c3, rfl⟩ := list4 l hsz
  obtain ⟨fuel, hf⟩ := h
  obtain ⟨y0, y1, y2, y3, m, hx, hy0, hy1, hy2, hy3⟩ := trod_array4 Try.underlying26 cells24' hf
  obtain ⟨x0, e0, rfl, w0⟩ := DataW.trod_int Try.underlying24 hy0
  obtain ⟨x1, e1, rfl, w1⟩ := DataW.trod_int Try.underlying24 hy1
  obtain ⟨x2, e2, rfl, w2⟩ := DataW.trod_int Try.underlying24 hy2
  obtain ⟨x3, e3, rfl, w3⟩ := DataW.trod_int Try.underlying24 hy3
  simp at e0 e1 e2 e3
  subst e0 e1 e2 e3
  simp only [Prod.mk.injEq] at hx
  obtain ⟨rfl, rfl⟩ := hx
  have k0 := bounds_u64 w0
  have k1 := bounds_u64 w1
  have k2 := bounds_u64 w2
  have k3 := bounds_u64 w3
  refine ⟨words x0 x1 x2 x3, ?_, Cl_words k0.2 k1.2 k2.2 k3.2, rfl⟩
  simp only [words, cast_toNat k0.1, cast_toNat k1.1, cast_toNat k2.1, cast_toNat k3.1]

end Go.Proofs.Ytbppofhjlgfbiaa
