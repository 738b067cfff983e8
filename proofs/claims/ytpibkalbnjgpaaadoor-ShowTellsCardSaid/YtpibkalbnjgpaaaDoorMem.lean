/- How the reader's groups lie in memory, each apart from the others and from the trees: plain facts.
   Conditions: those that each theorem states. -/
import Derived.Test.YtpibkalbnjgpaaaDoorJoin
namespace Go.Proofs.YtpibkalbnjgpaaaDoor
open Go.RowKit

/-- Nothing has changed but the reader and what came since block number 'base'. -/
def Bel (base rb : Nat) (w w' : World) : Prop := Chg (fun b => b = rb ∨ base ≤ b) w w'
theorem Bel.refl (base rb : Nat) (w : World) : Bel base rb w w := Chg.refl _ w
theorem Bel.trans {base rb : Nat} {a b c : World} (h : Bel base rb a b) (k : Bel base rb b c) : Bel base rb a c := Chg.trans h k fun _ _ h => h
theorem Bel.alloc {base rb : Nat} {a b : World} (h : Bel base rb a b) (o : Obj) : Bel base rb a (b.alloc o) := Chg.alloc h o
theorem Bel.drew {base rb : Nat} {a b : World} (h : Bel base rb a b) : Bel base rb a b.drew := Chg.drew h
theorem Bel.below {base rb : Nat} {w w' : World} (h : Bel base rb w w') {B : Nat} (hB : B ≤ base) (hr : B ≤ rb) (hw : B ≤ w.heap.size) : Below B w w' := Chg.below h hw fun k hk => by
  rintro (e | e) <;> omega

structure Grp where
  rows : List V
  row : List V
  v1 : Value
  v2 : Value
def gcells (gs : List Grp) : List Value := gs.flatMap fun g => [g.v1, g.v2]
def blocksOf (g : Grp) : List Nat := g.v1.ownBlock.toList ++ g.v2.ownBlock.toList
def live (rb ob : Nat) (gs : List Grp) : List Nat := rb :: ob :: gs.flatMap blocksOf
/-- The blocks that trees may lie in. -/
def Rl (base rb ob : Nat) (gs : List Grp) (b : Nat) : Prop := base ≤ b ∧ ¬ b ∈ live rb ob gs
theorem gcells_snoc (fr : List Grp) (g : Grp) : gcells (fr ++ [g]) = gcells fr ++ [g.v1, g.v2] := by unfold gcells; simp
theorem gcells_length (gs : List Grp) : (gcells gs).length = gs.length * 2 := by
  induction gs with
  | nil => rfl
  | cons g gs ih =>
    have e : gcells (g :: gs) = [g.v1, g.v2] ++ gcells gs := by unfold gcells; rw [List.flatMap_cons]
    rw [e, List.length_append, ih, List.length_cons]
    simp
    omega
theorem live_snoc (rb ob : Nat) (fr : List Grp) (g : Grp) : live rb ob (fr ++ [g]) = live rb ob fr ++ blocksOf g := by unfold live; simp
theorem mem_blocks {g : Grp} {b : Nat} : b ∈ blocksOf g ↔ g.v1.ownBlock = some b ∨ g.v2.ownBlock = some b := by
  unfold blocksOf
  simp [Option.mem_toList]
structure Mem (w : World) (base rb : Nat) (s : ByteArray) (k : Nat) (gs : List Grp) (ob cap : Nat) : Prop where
  rd : Rd w rb s k (.slice (some ⟨ob, 0, none⟩) gs.length cap)
  stk : w.ownsRow base 78 2 (.slice (some ⟨ob, 0, none⟩) gs.length cap) gs.length (gcells gs)
  own1 : ∀ g, g ∈ gs → w.ownsRow base 27 8 g.v1 g.rows.length (flat g.rows)
  own2 : ∀ g, g ∈ gs → w.ownsRow base 27 8 g.v2 g.row.length (flat g.row)
  laid : ∀ g, g ∈ gs → ∀ t, t ∈ g.rows ∨ t ∈ g.row → Laid w (Rl base rb ob gs) t
  nd : (live rb ob gs).Nodup
theorem Mem.obs {w : World} {base rb k ob cap : Nat} {s : ByteArray} {gs : List Grp} (h : Mem w base rb s k gs ob cap) : base ≤ ob ∧ ob < w.heap.size := h.stk.lt ob rfl
theorem Mem.lt {w : World} {base rb k ob cap : Nat} {s : ByteArray} {gs : List Grp} (h : Mem w base rb s k gs ob cap) : ∀ b, b ∈ live rb ob gs → (b = rb ∨ base ≤ b) ∧ b < w.heap.size := by
  intro b hb
  unfold live at hb
  simp only [List.mem_cons, List.mem_flatMap] at hb
  rcases hb with rfl | rfl | ⟨g, hg, hb⟩
  · exact ⟨.inl rfl, h.rd.lt⟩
  · exact ⟨.inr h.obs.1, h.obs.2⟩
  · rcases mem_blocks.1 hb with e | e
    · exact ⟨.inr ((h.own1 g hg).lt b e).1, ((h.own1 g hg).lt b e).2⟩
    · exact ⟨.inr ((h.own2 g hg).lt b e).1, ((h.own2 g hg).lt b e).2⟩
/-- The cells of the innermost group. -/
theorem Mem.cells {w : World} {base rb k ob cap : Nat} {s : ByteArray} {fr : List Grp} {g : Grp} (h : Mem w base rb s k (fr ++ [g]) ob cap) :
    w.cell? ⟨ob, fr.length * 2, none⟩ = some g.v1 ∧ w.cell? ⟨ob, fr.length * 2 + 1, none⟩ = some g.v2 ∧ ∀ x, w.frozen? ⟨ob, x, none⟩ = false := by
  have hl : (fr ++ [g]).length = fr.length + 1 := by simp
  have hg := gcells_snoc fr g
  have hn := gcells_length fr
  refine ⟨?_, ?_, fun x => h.stk.frozenAt x⟩
  · rw [h.stk.cellAt _ (by rw [hl]; omega), hg, List.getElem?_append_right (by omega), hn, Nat.sub_self]; rfl
  · rw [h.stk.cellAt _ (by rw [hl]; omega), hg, List.getElem?_append_right (by omega), hn, show fr.length * 2 + 1 - fr.length * 2 = 1 by omega]; rfl
/-- The two blocks of the innermost group are none of the others. -/
theorem Mem.apart {w : World} {base rb k ob cap : Nat} {s : ByteArray} {fr : List Grp} {g : Grp} (h : Mem w base rb s k (fr ++ [g]) ob cap) :
    (∀ b, b ∈ blocksOf g → ¬ b ∈ live rb ob fr) ∧ (∀ b, g.v1.ownBlock = some b → g.v2.ownBlock ≠ some b) ∧ rb ≠ ob ∧ (live rb ob fr).Nodup := by
  have hn := h.nd
  rw [live_snoc, List.nodup_append] at hn
  obtain ⟨h1, h2, h3⟩ := hn
  refine ⟨fun b hb hl => h3 b hl b hb rfl, fun b e1 e2 => ?_, ?_, h1⟩
  · unfold blocksOf at h2
    rw [List.nodup_append] at h2
    exact h2.2.2 b (by simp [e1]) b (by simp [e2]) rfl
  · unfold live at h1
    simp only [List.nodup_cons, List.mem_cons, not_or] at h1
    exact h1.1.1
/-- What is left of what lived: the innermost group's blocks may have gone, or be new. -/
theorem live_new {w : World} {rb ob : Nat} {fr : List Grp} {g g' : Grp}
    (f1 : ∀ b, g'.v1.ownBlock = some b → g.v1.ownBlock = some b ∨ w.heap.size ≤ b) (f2 : ∀ b, g'.v2.ownBlock = some b → g.v2.ownBlock = some b ∨ w.heap.size ≤ b) :
    ∀ b, b < w.heap.size → ¬ b ∈ live rb ob (fr ++ [g]) → ¬ b ∈ live rb ob (fr ++ [g']) := by
  intro b hb hn hm
  rw [live_snoc, List.mem_append] at hm hn
  rcases hm with hm | hm
  · exact hn (.inl hm)
  · rcases mem_blocks.1 hm with e | e
    · rcases f1 b e with e' | e'
      · exact hn (.inr (mem_blocks.2 (.inl e')))
      · omega
    · rcases f2 b e with e' | e'
      · exact hn (.inr (mem_blocks.2 (.inr e')))
      · omega
theorem live_kept {w w' : World} {base rb ob : Nat} {fr : List Grp} {g g' : Grp}
    (hc : Chg (fun b => b = ob ∨ g.v1.ownBlock = some b ∨ g.v2.ownBlock = some b) w w')
    (f1 : ∀ b, g'.v1.ownBlock = some b → g.v1.ownBlock = some b ∨ w.heap.size ≤ b) (f2 : ∀ b, g'.v2.ownBlock = some b → g.v2.ownBlock = some b ∨ w.heap.size ≤ b)
    {t : V} (ht : Laid w (Rl base rb ob (fr ++ [g])) t) : Laid w' (Rl base rb ob (fr ++ [g'])) t := by
  refine ht.keep (fun b hb hn => ⟨hn.1, live_new f1 f2 b hb hn.2⟩) hc.size fun b hb hn => hc.block b hb ?_
  rintro (rfl | e | e)
  · exact hn.2 (by unfold live; simp)
  · exact hn.2 (by rw [live_snoc, List.mem_append]; exact .inr (mem_blocks.2 (.inl e)))
  · exact hn.2 (by rw [live_snoc, List.mem_append]; exact .inr (mem_blocks.2 (.inr e)))
/-- The innermost group has changed: all is as it should be. -/
theorem Mem.upd {w w' : World} {base rb k ob cap : Nat} {s : ByteArray} {fr : List Grp} {g : Grp} (h : Mem w base rb s k (fr ++ [g]) ob cap) (g' : Grp)
    (hc : Chg (fun b => b = ob ∨ g.v1.ownBlock = some b ∨ g.v2.ownBlock = some b) w w')
    (hs : w'.ownsRow base 78 2 (.slice (some ⟨ob, 0, none⟩) (fr ++ [g']).length cap) (fr ++ [g']).length (gcells (fr ++ [g'])))
    (o1 : w'.ownsRow base 27 8 g'.v1 g'.rows.length (flat g'.rows)) (o2 : w'.ownsRow base 27 8 g'.v2 g'.row.length (flat g'.row))
    (f1 : ∀ b, g'.v1.ownBlock = some b → g.v1.ownBlock = some b ∨ w.heap.size ≤ b) (f2 : ∀ b, g'.v2.ownBlock = some b → g.v2.ownBlock = some b ∨ w.heap.size ≤ b)
    (f12 : ∀ b, g'.v1.ownBlock = some b → g'.v2.ownBlock ≠ some b)
    (hl : ∀ t, t ∈ g'.rows ∨ t ∈ g'.row → Laid w' (Rl base rb ob (fr ++ [g'])) t) : Mem w' base rb s k (fr ++ [g']) ob cap := by
  obtain ⟨a1, a2, a3, a4⟩ := h.apart
  have hlt := h.lt
  have hlen : (fr ++ [g']).length = (fr ++ [g]).length := by simp
  have hrb : ¬ (rb = ob ∨ g.v1.ownBlock = some rb ∨ g.v2.ownBlock = some rb) := by
    rintro (e | e | e)
    · exact a3 e
    · exact a1 rb (mem_blocks.2 (.inl e)) (by unfold live; simp)
    · exact a1 rb (mem_blocks.2 (.inr e)) (by unfold live; simp)
  have hfr : ∀ x, x ∈ fr → ∀ b, b ∈ blocksOf x → ¬ (b = ob ∨ g.v1.ownBlock = some b ∨ g.v2.ownBlock = some b) := by
    intro x hx b hb
    have hbl : b ∈ live rb ob fr := by
      unfold live
      simp only [List.mem_cons, List.mem_flatMap]
      exact .inr (.inr ⟨x, hx, hb⟩)
    rintro (e | e | e)
    · subst e
      unfold live at a4
      simp only [List.nodup_cons, List.mem_flatMap] at a4
      exact a4.2.1 ⟨x, hx, hb⟩
    · exact a1 b (mem_blocks.2 (.inl e)) hbl
    · exact a1 b (mem_blocks.2 (.inr e)) hbl
  refine ⟨by rw [hlen]; exact h.rd.keep hc hrb, hs, ?_, ?_, ?_, ?_⟩
  · intro x hx
    rcases List.mem_append.1 hx with hx | hx
    · exact own_chg (h.own1 x (by simp [hx])) hc fun b hb => hfr x hx b (mem_blocks.2 (.inl hb))
    · simp at hx; subst hx; exact o1
  · intro x hx
    rcases List.mem_append.1 hx with hx | hx
    · exact own_chg (h.own2 x (by simp [hx])) hc fun b hb => hfr x hx b (mem_blocks.2 (.inr hb))
    · simp at hx; subst hx; exact o2
  · intro x hx t ht
    rcases List.mem_append.1 hx with hx | hx
    · exact live_kept hc f1 f2 (h.laid x (by simp [hx]) t ht)
    · simp at hx; subst hx; exact hl t ht
  · rw [live_snoc, List.nodup_append]
    refine ⟨a4, ?_, ?_⟩
    · unfold blocksOf
      rw [List.nodup_append]
      refine ⟨by cases g'.v1.ownBlock <;> simp, by cases g'.v2.ownBlock <;> simp, fun a ha b hb e => ?_⟩
      subst e
      simp [Option.mem_toList] at ha hb
      exact f12 a ha hb
    · intro a ha b hb e
      subst e
      have hal := (hlt a (by rw [live_snoc, List.mem_append]; exact .inl ha)).2
      rcases mem_blocks.1 hb with e | e
      · rcases f1 a e with e' | e'
        · exact a1 a (mem_blocks.2 (.inl e')) ha
        · omega
      · rcases f2 a e with e' | e'
        · exact a1 a (mem_blocks.2 (.inr e')) ha
        · omega

end Go.Proofs.YtpibkalbnjgpaaaDoor
