/- What the call that ends the innermost group comes to: a contract.
   Conditions: the memory is as 'Mem' says, and rows have at most 1000 parts. -/
import Derived.Test.YtpibkalbnjgpaaaDoorGrow
namespace Go.Proofs.YtpibkalbnjgpaaaDoor
open Go.RowKit

abbrev zcells : Array Value := #[.int .i64 0, .int .u64 0, .int .u64 0, .int .u64 0, .int .u64 0, .slice none 0 0, .int .i64 0, .int .i64 0]

theorem row_cells {w : World} {b : Nat} {cur : Array Value} {e : TypeId} (h : w.heap[b]? = some (.cells cur e (0, 0))) : (∀ j, w.cell? ⟨b, j, none⟩ = cur[j]?) ∧ (∀ j, w.frozen? ⟨b, j, none⟩ = false) :=
  ⟨fun j => cell_of_row w b j cur e (0, 0) h, fun j => frozen_of_row w b j cur e h⟩

theorem shut_end {w W : World} {base rb k ob cap : Nat} {s : ByteArray} {fr : List Grp} {g : Grp} (h : Mem w base rb s k (fr ++ [g]) ob cap) (hc : Chg (fun b => b = rb ∨ g.v1.ownBlock = some b) w W) (hrd : Rd W rb s k (.slice (some ⟨ob, 0, none⟩) fr.length cap))
    {v1 : Value} (ho : W.ownsRow base 27 8 v1 (g.rows.length + 1) (flat (g.rows ++ [joinV 2 g.v2 g.row]))) (hv : ∀ b, v1.ownBlock = some b → g.v1.ownBlock = some b ∨ w.heap.size ≤ b) :
    Bel base rb w W ∧ Mem W base rb s k fr ob cap ∧ Laid W (Rl base rb ob fr) (joinV 3 v1 (g.rows ++ [joinV 2 g.v2 g.row])) := by
  obtain ⟨a1, a2, a3, a4⟩ := h.apart
  have hg : g ∈ fr ++ [g] := by simp
  have hlt := h.lt
  have hfr : ∀ x, x ∈ fr → ∀ b, b ∈ blocksOf x → ¬ (b = rb ∨ g.v1.ownBlock = some b) := by
    intro x hx b hb
    have hbl : b ∈ live rb ob fr := by
      unfold live
      simp only [List.mem_cons, List.mem_flatMap]
      exact .inr (.inr ⟨x, hx, hb⟩)
    rintro (e | e)
    · subst e
      unfold live at a4
      simp only [List.nodup_cons, List.mem_cons, List.mem_flatMap, not_or] at a4
      exact a4.1.2 ⟨x, hx, hb⟩
    · exact a1 b (mem_blocks.2 (.inl e)) hbl
  have hk : ∀ {x : V}, Laid w (Rl base rb ob (fr ++ [g])) x → Laid W (Rl base rb ob fr) x := fun hx => by
    refine hx.keep (fun b _ hn => ⟨hn.1, fun hm => hn.2 (by rw [live_snoc, List.mem_append]; exact .inl hm)⟩) hc.size fun b hb hn => hc.block b hb ?_
    rintro (e | e)
    · subst e; exact hn.2 (by unfold live; simp)
    · exact hn.2 (by rw [live_snoc, List.mem_append]; exact .inr (mem_blocks.2 (.inl e)))
  refine ⟨hc.mono fun b _ hb => ?_, ⟨hrd, ?_, ?_, ?_, ?_, a4⟩, ?_⟩
  · rcases hb with e | e
    · exact .inl e
    · exact .inr ((h.own1 g hg).lt b e).1
  · have hst := h.stk
    rw [gcells_snoc] at hst
    have hl : (fr ++ [g]).length = fr.length + 1 := by simp
    rw [hl] at hst
    refine own_chg (ownsRow_pop (gcells_length fr) hst) hc fun b hb => ?_
    have : b = ob := by simpa [Value.ownBlock] using hb.symm
    subst this
    rintro (e | e)
    · exact a3 e.symm
    · exact a1 b (mem_blocks.2 (.inl e)) (by unfold live; simp)
  · intro x hx
    exact own_chg (h.own1 x (by simp [hx])) hc fun b hb => hfr x hx b (mem_blocks.2 (.inl hb))
  · intro x hx
    exact own_chg (h.own2 x (by simp [hx])) hc fun b hb => hfr x hx b (mem_blocks.2 (.inr hb))
  · intro x hx t ht
    exact hk (h.laid x (by simp [hx]) t ht)
  · have hl2 : (g.rows ++ [joinV 2 g.v2 g.row]).length = g.rows.length + 1 := by simp
    refine joinV_laid 3 (by rw [hl2]; exact ho) (fun t ht => ?_) fun b hb => ⟨(ho.lt b hb).1, fun hm => ?_⟩
    · rcases List.mem_append.1 ht with ht | ht
      · exact hk (h.laid g hg t (.inl ht))
      · simp at ht
        subst ht
        refine joinV_laid 2 (own_chg (h.own2 g hg) hc fun b hb => ?_) (fun t ht => hk (h.laid g hg t (.inr ht))) fun b hb => ⟨((h.own2 g hg).lt b hb).1, a1 b (mem_blocks.2 (.inr hb))⟩
        rintro (e | e)
        · subst e; exact a1 b (mem_blocks.2 (.inr hb)) (by unfold live; simp)
        · exact a2 b e hb
    · rcases hv b hb with e | e
      · exact a1 b (mem_blocks.2 (.inl e)) hm
      · have := (hlt b (by rw [live_snoc, List.mem_append]; exact .inl hm)).2; omega

set_option maxHeartbeats 2000000 in
set_option maxRecDepth 100000 in
theorem shut_mem {w : World} {base rb k ob cap : Nat} {s : ByteArray} {fr : List Grp} {g : Grp} (h : Mem w base rb s k (fr ++ [g]) ob cap) (hn : g.rows.length ≤ 1000) (hm : fr.length ≤ 1000) :
    Calls Tryd.prog 39 #[.pointer (some ⟨rb, 0, none⟩)] w fun e w' => ∃ v1, e = .returned (nodeAgg (joinV 3 v1 (g.rows ++ [joinV 2 g.v2 g.row]))) ∧ Bel base rb w w' ∧ Mem w' base rb s k fr ob cap ∧ Laid w' (Rl base rb ob fr) (joinV 3 v1 (g.rows ++ [joinV 2 g.v2 g.row])) := by
  obtain ⟨c1, c2, cf⟩ := h.cells
  obtain ⟨a1, a2, a3, a4⟩ := h.apart
  have hg : g ∈ fr ++ [g] := by simp
  have ow1 := h.own1 g hg
  have ow2 := h.own2 g hg
  have hrd := h.rd
  have hlen : (fr ++ [g]).length = fr.length + 1 := by simp
  rw [hlen] at hrd
  obtain ⟨A1, cp1, hv1⟩ := own_form ow1
  obtain ⟨A2, cp2, hv2⟩ := own_form ow2
  have hA0 := (Af.refl hrd).alloc (.cells zcells 27)
  have hob := h.obs.2
  rw [hv1] at c1
  rw [hv2] at c2
  have hcapm : fr.length + 1 ≤ cap := by
    have := h.stk.2
    rcases this with ⟨h1, _⟩ | ⟨g', cap', cur, hv, _, _, hle, _⟩
    · cases h1
    · simp only [Value.slice.injEq] at hv; omega
  generalize hmm : fr.length = m at *
  have HM := Lib.hid hmm
  have HV := Lib.hid (And.intro hv1 hv2)
  have HA := Lib.hid hA0
  have HH := Lib.hid h
  have m1 : (0 : Int) ≤ (m : Int) := by omega
  have m2 : (m : Int) < (m : Int) + 1 := by omega
  have m3 : (m : Int) ≤ 1000 := by omega
  have m4 : IntKind.i64.wrap (m : Int) = (m : Int) := by rw [IntKind.wrap_i64]; omega
  have m5 : (m : Int) ≤ (cap : Int) := by omega
  clear hmm hv1 hv2 hA0 h hlen
  go_enter Tryd.func39, Tryd.ntmps39
  go_wp2_with fail
  go_at_call 49
  refine (inner_any _ rb k ob m cap s HA.out.1 hm).mono ?_
  rintro e w1 ⟨rfl, hA1⟩
  have hA2 := HA.out.trans hA1
  have d1 := (hA2.2.cell (m * 2) hob (fun e => a3 e.symm)).trans c1
  have d2 := (hA2.2.cell (m * 2 + 1) hob (fun e => a3 e.symm)).trans c2
  have d3 := hA1.1.opn
  have d4 := hA1.1.frz 2
  have d5 := hA1.1.lt
  clear c1 c2
  go_wp2_with fail
  go_region
  have hz := hA2.2.size
  have hcx : Chg (· = rb) w ((w1.setCell ⟨rb, 2, none⟩ (.slice (some ⟨ob, 0, none⟩) m cap)).alloc (.cells #[.slice A1 g.rows.length cp1, .slice A2 g.row.length cp2] 78)).drew := ((hA2.2.setCell (p := ⟨rb, 2, none⟩) (fun _ => rfl) _).alloc _).drew
  have hrx : Rd ((w1.setCell ⟨rb, 2, none⟩ (.slice (some ⟨ob, 0, none⟩) m cap)).alloc (.cells #[.slice A1 g.rows.length cp1, .slice A2 g.row.length cp2] 78)).drew rb s k (.slice (some ⟨ob, 0, none⟩) m cap) := (hA2.1.reopen _).keep (((Chg.refl (fun _ => False) _).alloc _).drew) (fun h => h)
  have hgx : ((w1.setCell ⟨rb, 2, none⟩ (.slice (some ⟨ob, 0, none⟩) m cap)).alloc (.cells #[.slice A1 g.rows.length cp1, .slice A2 g.row.length cp2] 78)).drew.heap[w1.heap.size]? = some (.cells #[.slice A1 g.rows.length cp1, .slice A2 g.row.length cp2] 78 (0, 0)) := by
    have := heap_alloc_new (w1.setCell ⟨rb, 2, none⟩ (.slice (some ⟨ob, 0, none⟩) m cap)) (.cells #[.slice A1 g.rows.length cp1, .slice A2 g.row.length cp2] 78)
    simp only [World.size_setCell] at this
    exact this
  have hRx : ((w1.setCell ⟨rb, 2, none⟩ (.slice (some ⟨ob, 0, none⟩) m cap)).alloc (.cells #[.slice A1 g.rows.length cp1, .slice A2 g.row.length cp2] 78)).drew.heap[w.heap.size]? = some (.cells zcells 27 (0, 0)) := by
    have e0 := heap_alloc_new w (.cells zcells 27)
    have hsz : w.heap.size < (w.alloc (.cells zcells 27)).heap.size := by simp
    have e1 := hA1.2.block w.heap.size hsz (by have := HA.out.1.lt; have := HH.out.rd.lt; omega)
    have e2 := (((Chg.refl (fun b => b = rb) w1).setCell (p := ⟨rb, 2, none⟩) (fun _ => rfl) (.slice (some ⟨ob, 0, none⟩) m cap)).alloc (.cells #[.slice A1 g.rows.length cp1, .slice A2 g.row.length cp2] 78)).drew.block w.heap.size (by have := hA1.2.size; simp at this; omega) (by have := HH.out.rd.lt; omega)
    exact e2.trans (e1.trans e0)
  have hgt : w.heap.size < w1.heap.size := by have := hA1.2.size; simp at this; omega
  have hzx : ((w1.setCell ⟨rb, 2, none⟩ (.slice (some ⟨ob, 0, none⟩) m cap)).alloc (.cells #[.slice A1 g.rows.length cp1, .slice A2 g.row.length cp2] 78)).drew.heap.size = w1.heap.size + 1 := by simp
  clear d1 d2 d3 d4 d5
  generalize ((w1.setCell ⟨rb, 2, none⟩ (.slice (some ⟨ob, 0, none⟩) m cap)).alloc (.cells #[.slice A1 g.rows.length cp1, .slice A2 g.row.length cp2] 78)).drew = wx at *
  obtain ⟨x1, x2⟩ := row_cells hgx
  have HZX := Lib.hid hzx
  generalize hgb : w1.heap.size = gb at *
  have hzl : gb < wx.heap.size := by have := HZX.out; omega
  clear hgb hzx hA1 hA2 hrd
  have hsr : ∀ p, p ∈ g.row → ∃ a n c, p.v = .slice a n c := fun p hp => (HH.out.laid g hg p (.inr hp)).slice
  have hsr1 : ∀ p, p ∈ g.rows → ∃ a n c, p.v = .slice a n c := fun p hp => (HH.out.laid g hg p (.inl hp)).slice
  obtain ⟨sa, sn, sc, hsl⟩ := joinV_slice 2 (v := g.v2) (ps := g.row) ⟨A2, _, cp2, HV.out.2⟩ hsr
  have hrb1 : ∀ b, g.v1.ownBlock = some b → ¬ b = rb := fun b hb e => a1 b (mem_blocks.2 (.inl hb)) (by subst e; unfold live; simp)
  have hrb2 : ∀ b, g.v2.ownBlock = some b → ¬ b = rb := fun b hb e => a1 b (mem_blocks.2 (.inr hb)) (by subst e; unfold live; simp)
  have oz1 := own_chg ow1 hcx hrb1
  have oz2 := own_chg ow2 hcx hrb2
  have hne : g.v1.ownBlock ≠ some gb := fun e => by have := (ow1.lt gb e).2; omega
  have hbx : base ≤ wx.heap.size := Nat.le_trans HH.out.base_le hcx.size
  have hp := rowEnd_any wx base gb 0 g.rows.length g.row.length g.v1 A2 cp2 sa sn sc (flat g.rows) (joinV 2 g.v2 g.row).kind ((joinV 2 g.v2 g.row).set 0 : Nat) ((joinV 2 g.v2 g.row).set 1 : Nat) ((joinV 2 g.v2 g.row).set 2 : Nat) ((joinV 2 g.v2 g.row).set 3 : Nat) (joinV 2 g.v2 g.row).lo (joinV 2 g.v2 g.row).hi
    (by rw [x1 0, HV.out.1]; rfl) (by rw [x1 1]; rfl) x2 (by omega) oz1 hne hn hbx (fun w1 hw1 => by
      have := joined_any w1 base 2 g.v2 g.row (own_chg oz2 hw1 fun _ _ h => h) hsr
      unfold nodeAgg at this
      rw [hsl] at this
      rw [HV.out.2] at this
      rw [HV.out.2]
      exact this)
  have HP := Lib.hid hp
  have HX := Lib.hid (And.intro x1 x2)
  clear hp x1 x2
  go_wp2_with fail
  go_at_call 50
  refine HP.out.mono ?_
  clear HP
  rintro e w5 ⟨rfl, wm, ⟨g2, cap2, hown, hor, hlt, hheap, hchg⟩, rfl⟩
  have hcells : [Value.int .i64 (joinV 2 g.v2 g.row).kind, .int .u64 ((joinV 2 g.v2 g.row).set 0 : Nat), .int .u64 ((joinV 2 g.v2 g.row).set 1 : Nat), .int .u64 ((joinV 2 g.v2 g.row).set 2 : Nat), .int .u64 ((joinV 2 g.v2 g.row).set 3 : Nat), .slice sa sn sc, .int .i64 (joinV 2 g.v2 g.row).lo, .int .i64 (joinV 2 g.v2 g.row).hi] = ndc (joinV 2 g.v2 g.row) := by unfold ndc; rw [hsl]
  rw [hcells, ← flat_snoc] at hown
  clear hcells
  have hg2 : g2 ≠ gb := by
    rintro rfl
    rcases hor with e | e
    · exact hne e
    · omega
  have hR1 : ¬ (w.heap.size = gb ∨ g.v1.ownBlock = some w.heap.size) := by
    rintro (e | e)
    · omega
    · have := (ow1.lt _ e).2; omega
  have hRm : wm.heap[w.heap.size]? = some (.cells zcells 27 (0, 0)) := (hchg.block _ (by omega) hR1).trans hRx
  have hgm : wm.heap[gb]? = some (.cells #[.slice (some ⟨g2, 0, none⟩) (g.rows.length + 1) cap2, .slice A2 g.row.length cp2] 78 (0, 0)) := by
    rw [hheap]
    simp [World.setCell, Array.getElem?_modify, hgx]
  have hc5 : Chg (fun b => b = gb ∨ g.v1.ownBlock = some b) wx (wm.setCell ⟨gb, 0 + 1, none⟩ (.slice none 0 0)) := hchg.setCell (p := ⟨gb, 0 + 1, none⟩) (fun _ => .inl rfl) _
  have hR5 : (wm.setCell ⟨gb, 0 + 1, none⟩ (.slice none 0 0)).heap[w.heap.size]? = some (.cells zcells 27 (0, 0)) := (Below.heap_setCell _ _ _ _ (by show w.heap.size ≠ gb; omega)).trans hRm
  have hg5 : (wm.setCell ⟨gb, 0 + 1, none⟩ (.slice none 0 0)).heap[gb]? = some (.cells #[.slice (some ⟨g2, 0, none⟩) (g.rows.length + 1) cap2, .slice none 0 0] 78 (0, 0)) := by
    simp [World.setCell, Array.getElem?_modify, hgm]
  have ho5 : (wm.setCell ⟨gb, 0 + 1, none⟩ (.slice none 0 0)).ownsRow base 27 8 (.slice (some ⟨g2, 0, none⟩) (g.rows.length + 1) cap2) (g.rows.length + 1) (flat (g.rows ++ [joinV 2 g.v2 g.row])) := own_heap hown fun b hb => by
    have : b = g2 := by simpa [Value.ownBlock] using hb.symm
    subst this
    exact Below.heap_setCell _ _ _ _ hg2
  generalize (wm.setCell ⟨gb, 0 + 1, none⟩ (.slice none 0 0)) = w5 at *
  obtain ⟨y1, y2⟩ := row_cells hg5
  have y3 : w5.cell? ⟨gb, 0, none⟩ = some (.slice (some ⟨g2, 0, none⟩) (g.rows.length + 1) cap2) := y1 0
  have hsr2 : ∀ p, p ∈ g.rows ++ [joinV 2 g.v2 g.row] → ∃ a n c, p.v = .slice a n c := fun p hp => by
    rcases List.mem_append.1 hp with hp | hp
    · exact hsr1 p hp
    · simp at hp; subst hp; exact ⟨sa, sn, sc, hsl⟩
  have hlen2 : (g.rows ++ [joinV 2 g.v2 g.row]).length = g.rows.length + 1 := by simp
  have hj := joined_any w5 base 3 (.slice (some ⟨g2, 0, none⟩) (g.rows.length + 1) cap2) (g.rows ++ [joinV 2 g.v2 g.row]) (by rw [hlen2]; exact ho5) hsr2
  obtain ⟨ra, rn, rc, hrl⟩ := joinV_slice 3 (v := .slice (some ⟨g2, 0, none⟩) (g.rows.length + 1) cap2) (ps := g.rows ++ [joinV 2 g.v2 g.row]) ⟨_, _, _, rfl⟩ hsr2
  unfold nodeAgg at hj
  rw [hrl] at hj
  have HJ := Lib.hid hj
  have HRL := Lib.hid (And.intro hrl hsl)
  clear hj hrl hsl y1 y2 hheap hgm hRm
  go_wp2_with fail
  go_at_call 54
  refine HJ.out.mono ?_
  clear HJ
  rintro e w6 ⟨rfl, hb6⟩
  have hsz5 : w.heap.size < w5.heap.size := (Array.getElem?_eq_some_iff.1 hR5).1
  have hR6 := (hb6.block _ hsz5).trans hR5
  obtain ⟨z1, z2⟩ := row_cells hR6
  have r0 : w6.cell? ⟨w.heap.size, 0, none⟩ = some (.int .i64 0) := z1 0
  have r1 : w6.cell? ⟨w.heap.size, 1, none⟩ = some (.int .u64 0) := z1 1
  have r2 : w6.cell? ⟨w.heap.size, 2, none⟩ = some (.int .u64 0) := z1 2
  have r3 : w6.cell? ⟨w.heap.size, 3, none⟩ = some (.int .u64 0) := z1 3
  have r4 : w6.cell? ⟨w.heap.size, 4, none⟩ = some (.int .u64 0) := z1 4
  have r5 : w6.cell? ⟨w.heap.size, 5, none⟩ = some (.slice none 0 0) := z1 5
  have r6 : w6.cell? ⟨w.heap.size, 6, none⟩ = some (.int .i64 0) := z1 6
  have r7 : w6.cell? ⟨w.heap.size, 7, none⟩ = some (.int .i64 0) := z1 7
  clear z1
  have h6a : Chg (fun b => b = gb ∨ g.v1.ownBlock = some b) wx w6 := hc5.trans (Chg.of_below (R := fun _ => False) hb6) (fun _ _ h => h.elim)
  have h6b : Chg (fun b => b = rb ∨ g.v1.ownBlock = some b) w w6 := (hcx.mono (fun _ _ h => .inl h)).trans h6a fun x hx hq => by
    rcases hq with e | e
    · omega
    · exact .inr e
  have ho6 := own_chg ho5 (Chg.of_below (R := fun _ => False) hb6) (fun _ _ h => h)
  have hrd6 : Rd w6 rb s k (.slice (some ⟨ob, 0, none⟩) m cap) := hrx.keep h6a (by
    rintro (e | e)
    · have := HH.out.rd.lt; omega
    · exact hrb1 rb e rfl)
  have hk0 := Lib.hid (And.intro h6b (And.intro ho6 hrd6))
  clear h6a h6b ho6 hrd6 hb6 ho5 hc5 hchg hown hrx hcx oz1 oz2 hR5 hg5 hR6
  go_wp2_with fail
  obtain ⟨h6b, ho6, hrd6⟩ := hk0.out
  obtain ⟨hrl, hsl⟩ := HRL.out
  have hst8 : ∀ (R : Nat → Prop) (a0 a1 a2 a3 a4 a5 a6 a7 : Value), Chg R w w6 → Chg R w (store8 w6 w.heap.size 0 a0 a1 a2 a3 a4 a5 a6 a7) := fun R a0 a1 a2 a3 a4 a5 a6 a7 hR => store8_chg hR (fun hl => absurd hl (Nat.lt_irrefl _)) _ _ _ _ _ _ _ _ _
  refine bodyPost_ret (v := .agg #[.int .i64 (joinV 3 (.slice (some ⟨g2, 0, none⟩) (g.rows.length + 1) cap2) (g.rows ++ [joinV 2 g.v2 g.row])).kind, .int .u64 ((joinV 3 (.slice (some ⟨g2, 0, none⟩) (g.rows.length + 1) cap2) (g.rows ++ [joinV 2 g.v2 g.row])).set 0 : Nat), .int .u64 ((joinV 3 (.slice (some ⟨g2, 0, none⟩) (g.rows.length + 1) cap2) (g.rows ++ [joinV 2 g.v2 g.row])).set 1 : Nat), .int .u64 ((joinV 3 (.slice (some ⟨g2, 0, none⟩) (g.rows.length + 1) cap2) (g.rows ++ [joinV 2 g.v2 g.row])).set 2 : Nat), .int .u64 ((joinV 3 (.slice (some ⟨g2, 0, none⟩) (g.rows.length + 1) cap2) (g.rows ++ [joinV 2 g.v2 g.row])).set 3 : Nat), .slice ra rn rc, .int .i64 (joinV 3 (.slice (some ⟨g2, 0, none⟩) (g.rows.length + 1) cap2) (g.rows ++ [joinV 2 g.v2 g.row])).lo, .int .i64 (joinV 3 (.slice (some ⟨g2, 0, none⟩) (g.rows.length + 1) cap2) (g.rows ++ [joinV 2 g.v2 g.row])).hi]) (by simp [results, Tryd.results39, go_sem, r0, r1, r2, r3, r4, r5, r6, r7]) rfl ⟨.slice (some ⟨g2, 0, none⟩) (g.rows.length + 1) cap2, ?_, ?_⟩
  · unfold nodeAgg
    rw [hrl]
  · have hgR : g2 ≠ w.heap.size := by
      rintro rfl
      rcases hor with e | e
      · have := (ow1.lt _ e).2; omega
      · omega
    refine shut_end HH.out (hst8 _ _ _ _ _ _ _ _ _ h6b) ?_ (own_heap ho6 fun b hb => ?_) fun b hb => ?_
    · rw [HM.out]
      exact hrd6.keep (store8_chg (R := fun b => b = w.heap.size) (Chg.refl _ w6) (fun _ => rfl) 0 _ _ _ _ _ _ _ _) (by have := HH.out.rd.lt; omega)
    · have : b = g2 := by simpa [Value.ownBlock] using hb.symm
      subst this
      exact store8_heap w6 w.heap.size 0 _ _ _ _ _ _ _ _ b hgR
    · have : b = g2 := by simpa [Value.ownBlock] using hb.symm
      subst this
      exact hor.imp id fun e => by omega

end Go.Proofs.YtpibkalbnjgpaaaDoor
