/- The statements' awake of stage 12 is true; the contracts of runs in the form that the walks ask.
   Conditions: what strconv.FormatInt gives is taken as known ('Fmt'). -/
import Derived.Test.YtgdblnppeeknpaaDoorRnH
import Derived.Test.YtgdblnppeeknpaaDoorRnE
namespace Go.Proofs.YtgdblnppeeknpaaDoor
open Go.RowKit

theorem Fmt.below {w w' : World} (h : Fmt w) (hb : Below w.heap.size w w') : Fmt w' := fun n W hn hW => h n W hn (bhop hb hW)
theorem txF_awake : txF [(97, 3)] = [54, 49, 42, 51] := by
  show rnT (97, 3) ++ [] = _
  unfold rnT
  rw [if_neg (by decide), show ((3 : Int)).toNat = 3 from rfl, decs_small (by decide)]
  rfl
set_option maxHeartbeats 4000000 in
set_option maxRecDepth 100000 in
theorem awake12_any (w : World) (HF : Fmt w) : Calls Tryd.prog 6 #[] w fun e w' => e = .returned (.bool true) ∧ Below w.heap.size w w' := by
  obtain ⟨w7, hw7, hb7, hq7⟩ : ∃ w7, w.alloc (.cells #[.int .u8 97, .int .i64 3] 42) = w7 ∧ Below w.heap.size w w7 ∧ w7.heap[w.heap.size]? = some (.cells #[.int .u8 97, .int .i64 3] 42 (0, 0)) := ⟨_, rfl, (Below.refl _ w).alloc (Nat.le_refl _) _, heap_alloc_new w _⟩
  have hrun : RunsR w7 (fun _ => True) (.slice (some ⟨w.heap.size, 0, none⟩) 1 1) [(97, 3)] := by
    refine ⟨_, _, rfl, fun i b t hi => ?_⟩
    obtain rfl : i = 0 := by have := (List.getElem?_eq_some_iff.1 hi).1; simp at this; omega
    obtain ⟨rfl, rfl⟩ : 97 = b ∧ 3 = t := by simpa using hi
    obtain ⟨a1, a2, _, _, a3⟩ := two_cells hq7
    exact ⟨_, _, rfl, trivial, a3, a1, a2⟩
  have HT := Lib.hid (text12_any w7 _ _ [(97, 3)] hrun (by decide) (HF.below hb7))
  have HB := Lib.hid hb7
  clear hrun hq7 hb7 HF
  go_enter Tryd.func6, Tryd.ntmps6
  go_wp2_with fail
  go_at_call 14
  refine HT.out.mono ?_
  rintro e w8 ⟨s, hs, rfl, hb8⟩
  rw [show (if fmO [(97, 3)] = true then txF [(97, 3)] else []) = [54, 49, 42, 51] from txF_awake] at hs
  obtain rfl : s = { data := #[54, 49, 42, 51] } := txt_inj hs
  have HB8 := Lib.hid (bhop HB.out hb8)
  clear hb8 hs hw7
  go_wp2_with fail
  go_ret
  exact ⟨rfl, HB8.out⟩

end Go.Proofs.YtgdblnppeeknpaaDoor
