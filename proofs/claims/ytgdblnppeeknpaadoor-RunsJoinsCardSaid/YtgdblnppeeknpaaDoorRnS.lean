/- What the document's Same of words in runs comes to: a contract.
   Conditions: both words lie in memory. -/
import Derived.Test.YtgdblnppeeknpaaDoorRnM
import Derived.Laws.StructEq
namespace Go.Proofs.YtgdblnppeeknpaaDoor
open Go.RowKit

theorem run_eqRn (w : World) (a b s t : Int) : (Op.equalIn 10000 42 (.agg #[.int .u8 a, .int .i64 s]) (.agg #[.int .u8 b, .int .i64 t])).run Tryd.prog w = .ok (a == b && s == t) w := by
  have u3 := Tryd.underlying5
  have a3 := Tryd.isAgg5
  have z3 := Tryd.sizeOf5
  have u4 := Tryd.underlying2
  have a4 := Tryd.isAgg2
  have z4 := Tryd.sizeOf2
  have hS : Tryd.prog.underlying 42 = some (.struct (Tryd.prog.fieldsOf 42)) := by kernel_rfl
  have hp : Tryd.prog.stoodInHeld 42 = false := by kernel_rfl
  rw [show (10000 : Nat) = 9999 + 1 from rfl, run_equalIn_agg w 9999 42 _ _ hS hp]
  simp only [Program.fieldsOf, Tryd.underlying42]
  go_simp
  by_cases h1 : a = b <;> by_cases h2 : s = t <;> simp [h1, h2]
theorem take_step {α : Type} {a b : List α} {i : Nat} {x y : α} (h : a.take i = b.take i) (hx : a[i]? = some x) (hy : b[i]? = some y) (e : x = y) : a.take (i + 1) = b.take (i + 1) := by
  rw [List.take_add_one, List.take_add_one, h, hx, hy, e]
set_option maxHeartbeats 8000000 in
set_option maxRecDepth 100000 in
theorem sameR12_any (w : World) (G H : Nat → Prop) (u v : Value) (a b : List Rn) (ha : RunsR w G u a) (hb : RunsR w H v b) (hL : a.length < 4611686018427387904) :
    Calls Tryd.prog 10 #[u, v] w fun e w' => e = .returned (.bool (decide (a = b))) ∧ Below w.heap.size w w' := by
  obtain ⟨A, c, rfl, hra⟩ := ha
  obtain ⟨B, d, rfl, hrb⟩ := hb
  have HR := Lib.hid (And.intro hra (And.intro hrb hL))
  obtain ⟨n, hn⟩ : ∃ n, n = a.length := ⟨_, rfl⟩
  obtain ⟨m, hm⟩ : ∃ n, n = b.length := ⟨_, rfl⟩
  have HLN := Lib.hid (And.intro hn hm)
  rw [← hn] at hL ⊢
  rw [← hm]
  clear hra hrb hn hm
  by_cases hnm : n = m
  · subst hnm
    have g0 : ((n : Int) != (n : Int)) = false := by simp
    go_enter Tryd.func10, Tryd.ntmps10
    go_wp2_with fail
    go_loopw [5] (fun x wr => ∃ i : Nat, x = .int .i64 i ∧ i ≤ n ∧ a.take i = b.take i ∧ Below w.heap.size w wr) (fun x _ => match x with | .int _ z => n - z.toNat | _ => 0)
    case atStart => exact ⟨0, rfl, by omega, rfl, Below.refl _ _⟩
    case round =>
      obtain ⟨i, rfl, hi, ht, hbw⟩ := hrel
      have HB := Lib.hid hbw
      by_cases hlt : i < n
      · obtain ⟨⟨xa, ta⟩, hx⟩ : ∃ x, a[i]? = some x := ⟨_, List.getElem?_eq_getElem (by have := HLN.out.1; omega)⟩
        obtain ⟨⟨xb, tb⟩, hy⟩ : ∃ x, b[i]? = some x := ⟨_, List.getElem?_eq_getElem (by have := HLN.out.2; omega)⟩
        obtain ⟨g, o, rfl, _, hg, c0, c1⟩ := HR.out.1 i xa ta hx
        obtain ⟨g', o', rfl, _, hg', d0, d1⟩ := HR.out.2.1 i xb tb hy
        rw [← hbw.cell (p := ⟨g, o + i * 2, none⟩) hg] at c0
        rw [← hbw.cell (p := ⟨g, o + i * 2 + 1, none⟩) hg] at c1
        rw [← hbw.cell (p := ⟨g', o' + i * 2, none⟩) hg'] at d0
        rw [← hbw.cell (p := ⟨g', o' + i * 2 + 1, none⟩) hg'] at d1
        have s1 : (0 : Int) ≤ (i : Int) := by omega
        have s2 : (i : Int) < (n : Int) := by omega
        have s3 : ((i : Int)).toNat = i := by omega
        have wk : IntKind.i64.wrap ((i : Int) + 1) = (i : Int) + 1 := by rw [IntKind.wrap_i64]; omega
        have he := fun W => run_eqRn W (xa : Int) (xb : Int) ta tb
        by_cases hq : (xa, ta) = (xb, tb)
        · have hq' : (((xa : Int) == (xb : Int)) && (ta == tb)) = true := by
            have h1 : xa = xb := congrArg Prod.fst hq
            have h2 : ta = tb := congrArg Prod.snd hq
            simp [h1, h2]
          simp only [hq'] at he
          have HN := Lib.hid (And.intro (show i + 1 ≤ n from hlt) (take_step ht hx hy hq))
          clear hq hq' ht hx hy hi hbw
          go_wp2_with fail
          go_quiet (fail)
          go_wp2_with fail
          go_roundw
          case rel => exact ⟨i + 1, by push_cast; rfl, HN.out.1, HN.out.2, below_drewN HB.out _⟩
          case measure => have := HN.out.1; simp; omega
        · have hq' : (((xa : Int) == (xb : Int)) && (ta == tb)) = false := by
            rw [Bool.eq_false_iff]
            intro e
            simp at e
            exact hq (by rw [e.2, show xa = xb by omega])
          simp only [hq'] at he
          have HN := Lib.hid (show decide (a = b) = false from decide_eq_false fun e => hq (by rw [e, hy] at hx; exact (Option.some.inj hx).symm))
          clear hq hq' ht hx hy hi hbw
          go_wp2_with fail
          go_quiet (fail)
          go_wp2_with fail
          go_ret
          exact ⟨congrArg (fun z => Ending.returned (.bool z)) HN.out.symm, below_drewN HB.out _⟩
      · have s2 : ¬ (i : Int) < (n : Int) := by omega
        have HN := Lib.hid (show decide (a = b) = true from decide_eq_true (by rw [show i = n by omega] at ht; rwa [List.take_of_length_le (by have := HLN.out.1; omega), List.take_of_length_le (by have := HLN.out.2; omega)] at ht))
        clear ht hi hbw
        go_wp2_with fail
        go_ret
        exact ⟨congrArg (fun z => Ending.returned (.bool z)) HN.out.symm, HB.out⟩
  · have g0 : ((n : Int) != (m : Int)) = true := by simp; omega
    have HN := Lib.hid (show decide (a = b) = false from decide_eq_false fun e => hnm (by rw [HLN.out.1, HLN.out.2, e]))
    go_enter Tryd.func10, Tryd.ntmps10
    go_wp2_with fail
    go_ret
    exact ⟨congrArg (fun z => Ending.returned (.bool z)) HN.out.symm, Below.refl _ _⟩

end Go.Proofs.YtgdblnppeeknpaaDoor
