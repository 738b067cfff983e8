/- What the calls that add to the innermost group, and end its row, leave of the reader's memory: contracts.
   Conditions: the memory is as 'Mem' says, and rows have at most 1000 parts. -/
import Derived.Test.YtpibkalbnjgpaaaDoorMem
import Derived.Test.YtpibkalbnjgpaaaDoorRowEnd
namespace Go.Proofs.YtpibkalbnjgpaaaDoor
open Go.RowKit

theorem gcells_set2 (fr : List Grp) (g : Grp) (rows row : List V) (v : Value) : (gcells (fr ++ [g])).set (fr.length * 2 + 1) v = gcells (fr ++ [⟨rows, row, g.v1, v⟩]) := by
  rw [gcells_snoc, gcells_snoc, set_at (gcells_length fr)]
  rfl
theorem gcells_set1 (fr : List Grp) (g : Grp) (rows row : List V) (v : Value) : (gcells (fr ++ [g])).set (fr.length * 2) v = gcells (fr ++ [⟨rows, row, v, g.v2⟩]) := by
  have := set_at (xs := gcells fr) (zs := [g.v1, g.v2]) (gcells_length fr) 0 v
  rw [Nat.add_zero] at this
  rw [gcells_snoc, gcells_snoc, this]
  rfl
theorem ndc_nodeAgg (t : V) : nodeAgg t = .agg (ndc t).toArray := rfl
theorem Mem.base_le {w : World} {base rb k ob cap : Nat} {s : ByteArray} {gs : List Grp} (h : Mem w base rb s k gs ob cap) : base ≤ w.heap.size := Nat.le_trans h.obs.1 (Nat.le_of_lt h.obs.2)
theorem Mem.below {w w' : World} {base rb k ob cap : Nat} {s : ByteArray} {fr : List Grp} {g : Grp} (h : Mem w base rb s k (fr ++ [g]) ob cap) (hc : Chg (fun b => b = ob ∨ g.v1.ownBlock = some b ∨ g.v2.ownBlock = some b) w w') : Bel base rb w w' :=
  hc.mono fun b _ hb => by
    rcases hb with rfl | e | e
    · exact .inr h.obs.1
    · exact .inr ((h.own1 g (by simp)).lt b e).1
    · exact .inr ((h.own2 g (by simp)).lt b e).1

theorem put_mem {w : World} {base rb k ob cap : Nat} {s : ByteArray} {fr : List Grp} {g : Grp} (h : Mem w base rb s k (fr ++ [g]) ob cap) (t : V) (ht : Laid w (Rl base rb ob (fr ++ [g])) t) (hn : g.row.length ≤ 1000) :
    Calls Tryd.prog 51 #[.pointer (some ⟨ob, fr.length * 2, none⟩), nodeAgg t] w fun e w' => e = .returned (.tuple #[]) ∧ Bel base rb w w' ∧ ∃ v2, Mem w' base rb s k (fr ++ [⟨g.rows, g.row ++ [t], g.v1, v2⟩]) ob cap := by
  obtain ⟨c1, c2, cf⟩ := h.cells
  obtain ⟨a1, a2, a3, a4⟩ := h.apart
  obtain ⟨sa, sn, sc, hsl⟩ := ht.slice
  have hne : g.v2.ownBlock ≠ some ob := fun e => a1 ob (mem_blocks.2 (.inr e)) (by unfold live; simp)
  have hp := gput_any w base ob (fr.length * 2) g.row.length g.v2 sa sn sc (flat g.row) t.kind (t.set 0 : Nat) (t.set 1 : Nat) (t.set 2 : Nat) (t.set 3 : Nat) t.lo t.hi c2 (cf _) h.obs.2 (h.own2 g (by simp)) hne hn h.base_le
  unfold nodeAgg
  rw [hsl]
  refine hp.mono ?_
  rintro e w' ⟨rfl, g2, cap2, hown, hor, hlt, hheap, hchg⟩
  have hcells : [Value.int .i64 t.kind, .int .u64 (t.set 0 : Nat), .int .u64 (t.set 1 : Nat), .int .u64 (t.set 2 : Nat), .int .u64 (t.set 3 : Nat), .slice sa sn sc, .int .i64 t.lo, .int .i64 t.hi] = ndc t := by unfold ndc; rw [hsl]
  rw [hcells, ← flat_snoc] at hown
  have hc : Chg (fun b => b = ob ∨ g.v1.ownBlock = some b ∨ g.v2.ownBlock = some b) w w' := hchg.mono fun b _ hb => hb.elim .inl fun e => .inr (.inr e)
  have f2 : ∀ b, (Value.slice (some ⟨g2, 0, none⟩) (g.row.length + 1) cap2).ownBlock = some b → g.v2.ownBlock = some b ∨ w.heap.size ≤ b := fun b hb => by
    have : b = g2 := by simpa [Value.ownBlock] using hb.symm
    subst this
    exact hor
  have f1 : ∀ b, g.v1.ownBlock = some b → g.v1.ownBlock = some b ∨ w.heap.size ≤ b := fun b hb => .inl hb
  have hk : ∀ {x : V}, Laid w (Rl base rb ob (fr ++ [g])) x → Laid w' (Rl base rb ob (fr ++ [(⟨g.rows, g.row ++ [t], g.v1, .slice (some ⟨g2, 0, none⟩) (g.row.length + 1) cap2⟩ : Grp)])) x := fun hx => live_kept (g := g) (g' := ⟨g.rows, g.row ++ [t], g.v1, .slice (some ⟨g2, 0, none⟩) (g.row.length + 1) cap2⟩) hc f1 f2 hx
  refine ⟨rfl, h.below hc, _, h.upd ⟨g.rows, g.row ++ [t], g.v1, .slice (some ⟨g2, 0, none⟩) (g.row.length + 1) cap2⟩ hc ?_ ?_ ?_ f1 f2 ?_ ?_⟩
  · have hst := (h.stk.stored (fr.length * 2 + 1) (.slice (some ⟨g2, 0, none⟩) (g.row.length + 1) cap2)).1
    rw [gcells_set2 fr g g.rows (g.row ++ [t])] at hst
    have hl1 : (fr ++ [g]).length = (fr ++ [(⟨g.rows, g.row ++ [t], g.v1, .slice (some ⟨g2, 0, none⟩) (g.row.length + 1) cap2⟩ : Grp)]).length := by simp
    rw [hl1] at hst
    exact own_heap hst fun b hb => by
      have : b = ob := by simpa [Value.ownBlock] using hb.symm
      subst this
      exact hheap
  · refine own_chg (h.own1 g (by simp)) hchg fun b hb => ?_
    rintro (rfl | e)
    · exact a1 b (mem_blocks.2 (.inl hb)) (by unfold live; simp)
    · exact a2 b hb e
  · show w'.ownsRow base 27 8 _ (g.row ++ [t]).length _
    rw [List.length_append]
    exact hown
  · intro b hb e
    rcases f2 b e with e' | e'
    · exact a2 b hb e'
    · have := ((h.own1 g (by simp)).lt b hb).2; omega
  · rintro x (hx | hx)
    · exact hk (h.laid g (by simp) x (.inl hx))
    · rcases List.mem_append.1 hx with hx | hx
      · exact hk (h.laid g (by simp) x (.inr hx))
      · simp at hx; subst hx; exact hk ht

theorem joinV_slice (kind : Int) {v : Value} {ps : List V} (hv : ∃ a n c, v = .slice a n c) (hsl : ∀ p ∈ ps, ∃ a n c, p.v = .slice a n c) : ∃ a n c, (joinV kind v ps).v = .slice a n c := by
  match ps, hsl with
  | [], _ => exact ⟨none, 0, 0, rfl⟩
  | [p], hsl => exact hsl p (by simp)
  | p :: q :: ps, _ => exact hv
theorem joinV_laid {w : World} {base : Nat} {R : Nat → Prop} (kind : Int) {v : Value} {ps : List V} (hown : w.ownsRow base 27 8 v ps.length (flat ps)) (hps : ∀ t, t ∈ ps → Laid w R t) (hR : ∀ b, v.ownBlock = some b → R b) : Laid w R (joinV kind v ps) := by
  match ps, hown, hps with
  | [], _, _ => exact zeroV_laid w R
  | [p], _, hps => exact hps p (by simp)
  | p :: q :: ps, hown, hps =>
    obtain ⟨g, cap, rfl, _, hlt⟩ := hown.form (Nat.succ_pos _)
    have hle : (p :: q :: ps).length ≤ cap := by
      rcases hown.2 with ⟨h1, _⟩ | ⟨g', cap', cur, hv, _, _, hle, _⟩
      · cases h1
      · simp only [Value.slice.injEq] at hv
        omega
    refine .some kind zeros 0 0 (p :: q :: ps) g 0 cap (hR g rfl) hlt hle (fun i t ht j u hu => ?_) hps
    have hi : i < (p :: q :: ps).length := (List.getElem?_eq_some_iff.1 ht).1
    have hj : j < 8 := by have := (List.getElem?_eq_some_iff.1 hu).1; rwa [ndc_length] at this
    rw [Nat.zero_add, hown.cellAt _ (by omega), flat_at _ i t ht j hj]
    exact hu

theorem rowEnd_mem {w : World} {base rb k ob cap : Nat} {s : ByteArray} {fr : List Grp} {g : Grp} (h : Mem w base rb s k (fr ++ [g]) ob cap) (hn : g.rows.length ≤ 1000) :
    Calls Tryd.prog 50 #[.pointer (some ⟨ob, fr.length * 2, none⟩)] w fun e w' => e = .returned (.tuple #[]) ∧ Bel base rb w w' ∧ ∃ v1, Mem w' base rb s k (fr ++ [⟨g.rows ++ [joinV 2 g.v2 g.row], [], v1, nilV⟩]) ob cap := by
  obtain ⟨c1, c2, cf⟩ := h.cells
  obtain ⟨a1, a2, a3, a4⟩ := h.apart
  have hg : g ∈ fr ++ [g] := by simp
  have ow1 := h.own1 g hg
  have ow2 := h.own2 g hg
  have hsr : ∀ p, p ∈ g.row → ∃ a n c, p.v = .slice a n c := fun p hp => (h.laid g hg p (.inr hp)).slice
  obtain ⟨A2, cp2, hv2⟩ := own_form ow2
  obtain ⟨sa, sn, sc, hsl⟩ := joinV_slice 2 (v := g.v2) (ps := g.row) ⟨A2, _, cp2, hv2⟩ hsr
  have hne : g.v1.ownBlock ≠ some ob := fun e => a1 ob (mem_blocks.2 (.inl e)) (by unfold live; simp)
  rw [hv2] at c2
  have hp := rowEnd_any w base ob (fr.length * 2) g.rows.length g.row.length g.v1 A2 cp2 sa sn sc (flat g.rows) (joinV 2 g.v2 g.row).kind ((joinV 2 g.v2 g.row).set 0 : Nat) ((joinV 2 g.v2 g.row).set 1 : Nat) ((joinV 2 g.v2 g.row).set 2 : Nat) ((joinV 2 g.v2 g.row).set 3 : Nat) (joinV 2 g.v2 g.row).lo (joinV 2 g.v2 g.row).hi c1 c2 cf h.obs.2 ow1 hne hn h.base_le (fun w1 hw1 => by
    have := joined_any w1 base 2 g.v2 g.row (own_chg ow2 hw1 fun _ _ h => h) hsr
    unfold nodeAgg at this
    rw [hsl] at this
    rw [hv2] at this
    rw [hv2]
    exact this)
  refine hp.mono ?_
  rintro e w' ⟨rfl, wm, ⟨g2, cap2, hown, hor, hlt, hheap, hchg⟩, rfl⟩
  have hcells : [Value.int .i64 (joinV 2 g.v2 g.row).kind, .int .u64 ((joinV 2 g.v2 g.row).set 0 : Nat), .int .u64 ((joinV 2 g.v2 g.row).set 1 : Nat), .int .u64 ((joinV 2 g.v2 g.row).set 2 : Nat), .int .u64 ((joinV 2 g.v2 g.row).set 3 : Nat), .slice sa sn sc, .int .i64 (joinV 2 g.v2 g.row).lo, .int .i64 (joinV 2 g.v2 g.row).hi] = ndc (joinV 2 g.v2 g.row) := by unfold ndc; rw [hsl]
  rw [hcells, ← flat_snoc] at hown
  have hc0 : Chg (fun b => b = ob ∨ g.v1.ownBlock = some b ∨ g.v2.ownBlock = some b) w wm := hchg.mono fun b _ hb => hb.elim .inl fun e => .inr (.inl e)
  have hc := hc0.setCell (p := ⟨ob, fr.length * 2 + 1, none⟩) (fun _ => .inl rfl) (.slice none 0 0)
  have hgob : g2 ≠ ob := by
    rintro rfl
    rcases hor with e | e
    · exact hne e
    · have := h.obs.2; omega
  have f1 : ∀ b, (Value.slice (some ⟨g2, 0, none⟩) (g.rows.length + 1) cap2).ownBlock = some b → g.v1.ownBlock = some b ∨ w.heap.size ≤ b := fun b hb => by
    have : b = g2 := by simpa [Value.ownBlock] using hb.symm
    subst this
    exact hor
  have f2 : ∀ b, nilV.ownBlock = some b → g.v2.ownBlock = some b ∨ w.heap.size ≤ b := fun b hb => by simp [nilV, Value.ownBlock] at hb
  have hk : ∀ {x : V}, Laid w (Rl base rb ob (fr ++ [g])) x → Laid (wm.setCell ⟨ob, fr.length * 2 + 1, none⟩ (.slice none 0 0)) (Rl base rb ob (fr ++ [(⟨g.rows ++ [joinV 2 g.v2 g.row], [], .slice (some ⟨g2, 0, none⟩) (g.rows.length + 1) cap2, nilV⟩ : Grp)])) x := fun hx => live_kept (g := g) (g' := ⟨g.rows ++ [joinV 2 g.v2 g.row], [], .slice (some ⟨g2, 0, none⟩) (g.rows.length + 1) cap2, nilV⟩) hc f1 f2 hx
  refine ⟨rfl, h.below hc, _, h.upd ⟨g.rows ++ [joinV 2 g.v2 g.row], [], .slice (some ⟨g2, 0, none⟩) (g.rows.length + 1) cap2, nilV⟩ hc ?_ ?_ ?_ f1 f2 ?_ ?_⟩
  · have hst := (h.stk.stored (fr.length * 2) (.slice (some ⟨g2, 0, none⟩) (g.rows.length + 1) cap2)).1
    rw [gcells_set1 fr g (g.rows ++ [joinV 2 g.v2 g.row]) []] at hst
    have hl1 : (fr ++ [g]).length = (fr ++ [(⟨g.rows ++ [joinV 2 g.v2 g.row], [], .slice (some ⟨g2, 0, none⟩) (g.rows.length + 1) cap2, nilV⟩ : Grp)]).length := by simp
    rw [hl1] at hst
    have hst2 : wm.ownsRow base 78 2 _ _ _ := own_heap hst fun b hb => by
      have : b = ob := by simpa [Value.ownBlock] using hb.symm
      subst this
      exact hheap
    have hst3 := (hst2.stored (fr.length * 2 + 1) nilV).1
    rw [gcells_set2 fr _ (g.rows ++ [joinV 2 g.v2 g.row]) []] at hst3
    exact hst3
  · show World.ownsRow _ base 27 8 _ (g.rows ++ [joinV 2 g.v2 g.row]).length _
    rw [List.length_append]
    refine own_heap hown fun b hb => ?_
    have : b = g2 := by simpa [Value.ownBlock] using hb.symm
    subst this
    exact Below.heap_setCell _ _ _ _ hgob
  · exact World.ownsRow_nil _ _ _ _
  · intro b _ e; simp [nilV, Value.ownBlock] at e
  · rintro x (hx | hx)
    · rcases List.mem_append.1 hx with hx | hx
      · exact hk (h.laid g hg x (.inl hx))
      · simp at hx
        subst hx
        have ow2' : World.ownsRow (wm.setCell ⟨ob, fr.length * 2 + 1, none⟩ (.slice none 0 0)) base 27 8 g.v2 g.row.length (flat g.row) := by
          have e1 := own_chg ow2 hchg fun b hb => (by
            rintro (rfl | e)
            · exact a1 b (mem_blocks.2 (.inr hb)) (by unfold live; simp)
            · exact a2 b e hb)
          refine own_heap e1 fun b hb => Below.heap_setCell _ _ _ _ ?_
          rintro rfl
          exact a1 b (mem_blocks.2 (.inr hb)) (by unfold live; simp)
        refine joinV_laid 2 ow2' (fun t ht => hk (h.laid g hg t (.inr ht))) fun b hb => ⟨(ow2.lt b hb).1, fun hm => ?_⟩
        rw [live_snoc, List.mem_append] at hm
        rcases hm with hm | hm
        · exact a1 b (mem_blocks.2 (.inr hb)) hm
        · rcases mem_blocks.1 hm with e | e
          · rcases f1 b e with e' | e'
            · exact a2 b e' hb
            · have := (ow2.lt b hb).2; omega
          · simp [nilV, Value.ownBlock] at e
    · simp at hx

end Go.Proofs.YtpibkalbnjgpaaaDoor
