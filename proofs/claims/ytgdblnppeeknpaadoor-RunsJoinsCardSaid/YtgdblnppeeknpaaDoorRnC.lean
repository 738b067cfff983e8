/- What the program's Pack comes to: a contract.
   Conditions: the word lies in memory; it has at most a million bytes. -/
import Derived.Test.YtgdblnppeeknpaaDoorRnB
import Derived.Test.YtgdblnppeeknpaaDoorRnPW
namespace Go.Proofs.YtgdblnppeeknpaaDoor
open Go.RowKit

theorem pack_sum (wd : List Nat) : smL (packL wd) = (wd.length : Int) := by
  obtain ⟨h1, h2⟩ := unp_pack wd
  have := unp_len h2
  rw [h1] at this
  omega
/-- A list of runs as it begins. -/
theorem lst_new (w : World) : LstI (w.alloc (.cells #[.slice none 0 0, .int .i64 0] 46)) w.heap.size w.heap.size [] :=
  ⟨_, heap_alloc_new w _, Nat.le_refl _, World.ownsRow_nil _ _ _ _⟩
theorem LstI.below {w w' : World} {H bl : Nat} {acc : List Rn} (h : LstI w H bl acc) (hb : Below w.heap.size w w') : LstI w' H bl acc := by
  obtain ⟨v, h1, h2, h3⟩ := h
  exact ⟨v, (hb.block bl (Array.getElem?_eq_some_iff.1 h1).1).trans h1, h2, own_keep h3 hb⟩
/-- What comes out. -/
theorem LstI.out {w : World} {H bl : Nat} {acc : List Rn} (h : LstI w H bl acc) : ∃ A c, w.cell? ⟨bl, 0, none⟩ = some (.slice A acc.length c) ∧ OwnR w H (.slice A acc.length c) acc := by
  obtain ⟨v, h1, h2, h3⟩ := h
  obtain ⟨A, c, rfl⟩ := own_formR h3
  exact ⟨A, c, (two_cells h1).1, h3⟩
set_option maxHeartbeats 8000000 in
set_option maxRecDepth 100000 in
theorem pack12_any (w : World) (v : Value) (wd : List Nat) (h : BytW w v wd) (hL : wd.length ≤ 1000000) :
    Calls Tryd.prog 7 #[v] w (PkO wd w) := by
  obtain ⟨A, c, rfl, hrow⟩ := h
  have HR := Lib.hid (And.intro hrow hL)
  obtain ⟨ln, hln⟩ : ∃ n, n = wd.length := ⟨_, rfl⟩
  have HLN := Lib.hid hln
  rw [← hln] at hL ⊢
  clear hrow hln
  go_enter Tryd.func7, Tryd.ntmps7
  go_wp2_with fail
  go_loopw [9] (fun x wr => ∃ i : Nat, x = .int .i64 i ∧ i ≤ wd.length ∧ LstI wr w.heap.size w.heap.size (packL (wd.take i)) ∧ (packL (wd.take i)).length ≤ 200 ∧ Below w.heap.size w wr) (fun x _ => match x with | .int _ z => wd.length - z.toNat | _ => 0)
  case atStart => exact ⟨0, rfl, by omega, lst_new w, by simp [packL], (Below.refl _ w).alloc (Nat.le_refl _) _⟩
  case round =>
    obtain ⟨i, rfl, hi, hlst, h200, hb⟩ := hrel
    have HB := Lib.hid (And.intro hb hlst)
    by_cases hlt : i < ln
    · obtain ⟨b, hx⟩ : ∃ x, wd[i]? = some x := ⟨_, List.getElem?_eq_getElem (by have := HLN.out; omega)⟩
      obtain ⟨_, g, o, rfl, hg, c0⟩ := HR.out.1 i b hx
      rw [← hb.cell (p := ⟨g, o + i, none⟩) hg] at c0
      have s1 : (0 : Int) ≤ (i : Int) := by omega
      have s2 : (i : Int) < (ln : Int) := by omega
      have s3 : ((i : Int)).toNat = i := by omega
      have wk : IntKind.i64.wrap ((i : Int) + 1) = (i : Int) + 1 := by rw [IntKind.wrap_i64]; omega
      have hst := pack_step hx
      have hsm := pack_sum (wd.take i)
      rw [List.length_take] at hsm
      have hlt' : i < wd.length := by have := HLN.out; omega
      have HX := Lib.hid (And.intro hst (And.intro hsm (And.intro hlt' h200)))
      clear hx hst hsm hlst hi
      go_wp2_with fail
      go_at_call 18
      refine (put12_any wr w.heap.size w.heap.size (packL (wd.take i)) b 1 HB.out.2 hb.size (unp_pack _).2 (by have := HX.out.2.1; omega) HX.out.2.2.2 (by omega) (by omega)).mono ?_
      rintro e w1 ⟨hb1, h | h⟩
      · obtain ⟨rfl, h⟩ := h
        have HD := Lib.hid (show 200 < (packL wd).length by
          rcases h with h | h
          · have := HX.out.2.1; omega
          · rw [← HX.out.1] at h
            exact Nat.lt_of_lt_of_le h (pack_ge wd (wd.length - (i + 1)) (i + 1) (by have := HX.out.2.2.1; omega)))
        have HB1 := Lib.hid (HB.out.1.trans hb1)
        clear h hb hb1 c0
        go_wp2_with fail
        go_ret2
        exact ⟨_, _, rfl, HB1.out, fun _ => ⟨rfl, _, _, rfl⟩, fun h => by have := HD.out; omega⟩
      · obtain ⟨rfl, _, hl2, hlst2⟩ := h
        rw [← HX.out.1] at hl2 hlst2
        have HB1 := Lib.hid (And.intro (HB.out.1.trans hb1) (And.intro hl2 hlst2))
        clear hb hb1 c0 hl2 hlst2
        go_wp2_with fail
        go_roundw
        case rel => exact ⟨i + 1, by push_cast; rfl, HX.out.2.2.1, HB1.out.2.2, HB1.out.2.1, HB1.out.1⟩
        case measure => have := HX.out.2.2.1; simp; omega
    · have s2 : ¬ (i : Int) < (ln : Int) := by omega
      have hil : wd.take i = wd := List.take_of_length_le (by have := HLN.out; omega)
      rw [hil] at hlst h200
      obtain ⟨vA, vc, d0, hown⟩ := hlst.out
      have HO := Lib.hid (And.intro hown.row h200)
      clear hil hlst hi hown h200 hb
      go_wp2_with fail
      go_ret2
      exact ⟨_, _, rfl, HB.out.1, fun h => by have := HO.out.2; omega, fun _ => ⟨rfl, HO.out.1.mono fun _ _ _ => trivial⟩⟩

end Go.Proofs.YtgdblnppeeknpaaDoor
