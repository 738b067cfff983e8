/- A new group is put on the reader's stack: what the memory is then. Plain facts.
   Conditions: those that the theorem states. -/
import Derived.Test.YtpibkalbnjgpaaaDoorAtom
namespace Go.Proofs.YtpibkalbnjgpaaaDoor
open Go.RowKit

theorem push_mem {w wa w2 : World} {base rb k ob cap g2 cap2 : Nat} {s : ByteArray} {gs : List Grp} (h : Mem w base rb s k gs ob cap) (hwa : Chg (fun _ => False) w wa)
    (hown : w2.ownsRow base 78 2 (.slice (some ⟨g2, 0, none⟩) (gs.length + 1) cap2) (gs.length + 1) (gcells gs ++ [.slice none 0 0, .slice none 0 0])) (hgrow : wa.grownBy w2 (some ob)) (hor : some ob = some g2 ∨ g2 = wa.heap.size) :
    Mem (w2.setCell ⟨rb, 2, none⟩ (.slice (some ⟨g2, 0, none⟩) (gs.length + 1) cap2)) base rb s k (gs ++ [⟨[], [], nilV, nilV⟩]) g2 cap2 ∧ Bel base rb w (w2.setCell ⟨rb, 2, none⟩ (.slice (some ⟨g2, 0, none⟩) (gs.length + 1) cap2)) := by
  have hn := h.nd
  have hlt := h.lt
  unfold live at hn
  simp only [List.nodup_cons, List.mem_cons, List.mem_flatMap, not_or] at hn
  have hor2 : g2 = ob ∨ w.heap.size ≤ g2 := by
    rcases hor with e | e
    · injection e with e; exact .inl e.symm
    · have := hwa.size; exact .inr (by omega)
  have hrl := h.rd.lt
  have hrg : rb ≠ g2 := by
    rcases hor2 with e | e
    · subst e; exact hn.1.1
    · omega
  have c1 : Chg (fun b => b = ob) w w2 := (hwa.mono (fun _ _ h => h.elim)).grown hgrow fun x hx _ => by injection hx with hx; exact hx.symm
  have hc : Chg (fun b => b = ob ∨ b = rb) w (w2.setCell ⟨rb, 2, none⟩ (.slice (some ⟨g2, 0, none⟩) (gs.length + 1) cap2)) := (c1.mono (fun _ _ h => .inl h)).setCell (p := ⟨rb, 2, none⟩) (fun _ => .inr rfl) _
  have hfl : (gs ++ [(⟨[], [], nilV, nilV⟩ : Grp)]).flatMap blocksOf = gs.flatMap blocksOf := by simp [blocksOf, nilV, Value.ownBlock]
  have hfr : ∀ x, x ∈ gs → ∀ b, b ∈ blocksOf x → ¬ (b = ob ∨ b = rb) := by
    rintro x hx b hb (rfl | rfl)
    · exact hn.2.1 ⟨x, hx, hb⟩
    · exact hn.1.2 ⟨x, hx, hb⟩
  have hlen : (gs ++ [(⟨[], [], nilV, nilV⟩ : Grp)]).length = gs.length + 1 := by simp
  refine ⟨⟨?_, ?_, ?_, ?_, ?_, ?_⟩, hc.mono fun b _ hb => ?_⟩
  · rw [hlen]
    exact (h.rd.keep c1 hn.1.1).reopen _
  · rw [hlen]
    have hg : gcells (gs ++ [(⟨[], [], nilV, nilV⟩ : Grp)]) = gcells gs ++ [.slice none 0 0, .slice none 0 0] := gcells_snoc gs _
    rw [hg]
    refine own_heap hown fun b hb => Below.heap_setCell _ _ _ _ ?_
    have : b = g2 := by simpa [Value.ownBlock] using hb.symm
    subst this
    exact fun e => hrg e.symm
  · intro x hx
    rcases List.mem_append.1 hx with hx | hx
    · exact own_chg (h.own1 x hx) hc fun b hb => hfr x hx b (mem_blocks.2 (.inl hb))
    · simp at hx; subst hx; exact World.ownsRow_nil _ _ _ _
  · intro x hx
    rcases List.mem_append.1 hx with hx | hx
    · exact own_chg (h.own2 x hx) hc fun b hb => hfr x hx b (mem_blocks.2 (.inr hb))
    · simp at hx; subst hx; exact World.ownsRow_nil _ _ _ _
  · intro x hx t ht
    rcases List.mem_append.1 hx with hx | hx
    · refine (h.laid x hx t ht).keep (fun b hb hnb => ⟨hnb.1, fun hm => ?_⟩) hc.size fun b hb hnb => hc.block b hb ?_
      · have hnb := hnb.2
        unfold live at hm hnb
        rw [hfl] at hm
        simp only [List.mem_cons, not_or] at hm hnb
        rcases hm with e | e | e
        · exact hnb.1 e
        · rcases hor2 with e2 | e2
          · exact hnb.2.1 (e.trans e2)
          · omega
        · exact hnb.2.2 e
      · rintro (rfl | rfl) <;> exact hnb.2 (by unfold live; simp)
    · simp at hx; subst hx; simp at ht
  · unfold live
    rw [hfl]
    simp only [List.nodup_cons, List.mem_cons, List.mem_flatMap, not_or]
    refine ⟨⟨hrg, hn.1.2⟩, ?_, hn.2.2⟩
    rcases hor2 with e | e
    · subst e; exact hn.2.1
    · rintro ⟨x, hx, hb⟩
      have := (hlt g2 (by unfold live; simp only [List.mem_cons, List.mem_flatMap]; exact .inr (.inr ⟨x, hx, hb⟩))).2
      omega
  · rcases hb with rfl | rfl
    · exact .inr h.obs.1
    · exact .inl rfl

end Go.Proofs.YtpibkalbnjgpaaaDoor
