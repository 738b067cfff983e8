/- Numbers are written in base ten, off the condition of the statements' own rows; what the walks of stage 12 ask of the contracts.
   Condition: what the rows list as laid lies in memory. -/
import Derived.Test.YtgdblnppeeknpaaDoorRnI
import Derived.Test.YtgdblnppeeknpaaDoorFmtL
import Derived.Test.YtgdblnppeeknpaaDoorRows
import Derived.MakeChecks
import Derived.Stop.LaidErr
import Derived.Lib.LaidTab
namespace Go.Proofs.YtgdblnppeeknpaaDoor
open Go.RowKit

theorem fmt_tab (w : World) (h : Lib.TabIs Tryd.prog w "internal/strconv.uint64pow10" .u64 Lib.pow10Tab) : Fmt w :=
  fmt_of w fun n W hW h0 h1 => Tryd.strconv_FormatInt_10 n h0 h1 W (Lib.tabBelow_of_tabIs h W hW)
theorem fmt_laid {W : World} (h : laidMetH Tryd.prog Rows.runsPacksRow.laid W) : Fmt W := by
  rw [Go.MakeChecks.laidMetH_plain _ _ _ (by kernel_rfl)] at h
  exact fmt_tab W (Lib.tabIs_of_head (g := 0) (t := 77) (e := 67) (n := 20) (by kernel_rfl) (by kernel_rfl) Tryd.underlying77 Tryd.underlying67 (by kernel_rfl) (by kernel_rfl) (show laidMet Tryd.prog [("internal/strconv.uint64pow10", Lib.tabData .u64 Lib.pow10Tab)] W from h.tail.tail))
theorem pack_mem {wd : List Nat} {q : Rn} (h : q ∈ packL wd) : q.1 ∈ wd := by
  obtain ⟨h1, h2⟩ := unp_pack wd
  rw [← h1]
  exact List.mem_flatMap.2 ⟨q, h, List.mem_replicate.2 ⟨by have := h2 q h; omega, rfl⟩⟩
theorem BytW.lt {w : World} {v : Value} {wd : List Nat} (h : BytW w v wd) : ∀ x ∈ wd, x < 256 := fun x hx => by
  obtain ⟨i, hi⟩ := List.mem_iff_getElem?.1 hx
  obtain ⟨_, _, _, hr⟩ := h
  exact (hr i x hi).1
/-- RunsPacks, of every word. -/
theorem packs12_all (w : World) (v : Value) (wd : List Nat) (h : BytW w v wd) (HF : Fmt w) :
    Calls Tryd.prog 3 #[v] w fun e w' => e = .returned (.bool true) ∧ Below w.heap.size w w' :=
  packs12_walk w v wd h (fun W hb => awake12_any W (HF.below hb)) (fun W hb hl => pack12_any W v wd (h.below hb) (by omega))
    (fun W u _ hr => formed12_any W _ u _ hr) (fun W u _ hr => size12_any W _ u _ hr)
    (fun W u k _ hr hk => unpack12_any W _ u _ k hr (fun q hq => h.lt _ (pack_mem hq)) (by omega))
/-- RunsTells, of every word in runs. -/
theorem tells12_all (w : World) (v : Value) (l : List Rn) (k : Nat) (hk : k < 256) (h : RunsR w (fun _ => True) v l) (hok : RnOk l) (HF : Fmt w) :
    Calls Tryd.prog 4 #[v, .int .u8 (k : Nat)] w fun e w' => e = .returned (.bool true) ∧ Below w.heap.size w w' :=
  tells12_walk w v l k hk h hok (fun W hb => awake12_any W (HF.below hb)) (fun W hb => formed12_any W _ v _ (h.below hb)) (fun W hb => size12_any W _ v _ (h.below hb))
    (fun W hb => text12_any W _ v l (h.below hb) (fun q hq => (hok q hq).1) (HF.below hb)) (fun W hb => unpack12_any W _ v l k (h.below hb) (fun q hq => (hok q hq).1) (by omega))

end Go.Proofs.YtgdblnppeeknpaaDoor
