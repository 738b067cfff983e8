/- The document's own reader: what it tells of a text: a contract.
   No condition: of a text of more than 400 bytes a limit is told. -/
import Derived.Test.YtbodgadbhldbmaaRdrH
import Derived.Test.YtbodgadbhldbmaaMRef
import Derived.Test.YtbodgadbhldbmaaParse
import Derived.Deep.RegionLaw

/- The document's own reader: what reads rows: pure facts.
   Conditions: none. -/
namespace Go.Proofs.Ytbodgadbhldbmaa
open Go.RowKit

theorem pgrp_len : ∀ (n : Nat) {g g' : G} {frs : List G} {r r' : List Nat}, r.length ≤ n → pgrp g frs r = .ok g' r' → r'.length ≤ r.length
  | n, g, g', frs, [], r', _, h => by
    cases frs with
    | nil => rw [pgrp_nil] at h; injection h with _ h; subst h; simp
    | cons p ps => rw [pgrp_open] at h; cases h
  | n, g, g', frs, b :: r, r', hn, h => by
    by_cases hb : b = 41 ∧ frs = []
    · obtain ⟨rfl, rfl⟩ := hb
      rw [pgrp_shut] at h
      injection h with _ h
      subst h
      simp
    · rw [pgrp_step hb] at h
      cases hx : pstep g frs (b :: r) with
      | er r1 c => rw [hx] at h; cases h
      | ok x r1 =>
        rw [hx] at h
        have hl := pstep_len hx
        match n, hn with
        | 0, hn => simp at hn
        | n + 1, hn =>
          have := pgrp_len n (by simp at hn hl; omega) h
          simp at hl ⊢
          omega
theorem ppost_len : ∀ (n : Nat) {t t' : T} {r r' : List Nat}, r.length ≤ n → ppost t r = .ok t' r' → r'.length ≤ r.length
  | n, t, t', [], r', _, h => by rw [ppost_nil] at h; injection h with _ h; subst h; simp
  | n, t, t', b :: r, r', hn, h => by
    by_cases hp : isPost b
    · rw [ppost_step hp] at h
      split at h
      · cases h
      · rename_i x r1 hx
        have hl := ptimes_len hx
        match n, hn with
        | 0, hn => simp at hn
        | n + 1, hn =>
          have := ppost_len n (by simp at hn; omega) h
          simp
          omega
    · rw [ppost_not hp] at h
      injection h with _ h
      subst h
      simp
theorem repO_cut {b : Nat} {r : List Nat} (h : b = 41 ∨ b = 124) : repO (b :: r) = none := by
  have : atmO (b :: r) = none := if_pos h
  unfold repO
  rw [this]
theorem rep_some {b : Nat} {r : List Nat} (hb : ¬ (b = 41 ∨ b = 124)) : repO (b :: r) = some (match patm (b :: r) with
    | .er r' c => .er r' c
    | .ok t r' => ppost t r') := by
  have : atmO (b :: r) = some (patm (b :: r)) := if_neg hb
  unfold repO
  rw [this]
  cases patm (b :: r) <;> rfl
/-- A byte that no atom begins with. -/
theorem rep_none {r : List Nat} (h : repO r = none) : r = [] ∨ ∃ q, r = 41 :: q ∨ r = 124 :: q := by
  cases r with
  | nil => exact .inl rfl
  | cons b r =>
    by_cases hb : b = 41 ∨ b = 124
    · rcases hb with rfl | rfl
      · exact .inr ⟨r, .inl rfl⟩
      · exact .inr ⟨r, .inr rfl⟩
    · rw [rep_some hb] at h
      cases h
theorem patm_len {r r' : List Nat} {t : T} {b : Nat} (h2 : ¬ (b = 41 ∨ b = 124)) (h3 : ¬ isPost b) (h : patm (b :: r) = .ok t r') : r'.length ≤ r.length := by
  by_cases h40 : b = 40
  · subst h40
    rw [patm_open] at h
    cases hx : pgrp ⟨[], []⟩ [] r with
    | er r1 c => rw [hx] at h; cases h
    | ok g r1 =>
      rw [hx] at h
      have := pgrp_len r.length (Nat.le_refl _) hx
      cases r1 with
      | nil => cases h
      | cons c r1 => injection h with _ h; subst h; simp at this; omega
  · rw [patm_other h40] at h
    cases hx : pset (b :: r) with
    | er r1 c => rw [hx] at h; cases h
    | ok S r1 =>
      rw [hx] at h
      injection h with _ h
      subst h
      have hs : pstep ⟨[], []⟩ [] (b :: r) = .ok (⟨[], [] ++ [atomT S]⟩, []) r1 := by
        simp only [pstep]
        rw [if_neg h40, if_neg (fun e => h2 (.inr e)), if_neg (fun e => h2 (.inl e)), if_neg (show ¬ (b = 42 ∨ b = 43 ∨ b = 63 ∨ b = 123) from h3), hx]
      have := pstep_len hs
      simp at this
      omega
/-- What is read next spoils the row. -/
theorem rep_er {rows row : List T} {r r1 : List Nat} {c : Nat} (h : repO r = some (.er r1 c)) (hrow : row = [] ∨ ∀ b r2, r = b :: r2 → ¬ isPost b) : pgrp ⟨rows, row⟩ [] r = .er r1 c := by
  cases r with
  | nil => cases h
  | cons b r =>
    by_cases hb : b = 41 ∨ b = 124
    · rw [repO_cut hb] at h; cases h
    · rw [rep_some hb] at h
      injection h with h
      by_cases hp : isPost b
      · have hr : row = [] := hrow.elim id fun h => absurd hp (h b r rfl)
        rw [patm_bad r (by unfold isPost at hp; omega)] at h
        rw [pgrp_bad hp hr]
        injection h with h1 h2
        subst h1 h2
        rfl
      · rw [pgrp_atm (fun e => hb (.inl e)) (fun e => hb (.inr e)) (show ¬ (b = 42 ∨ b = 43 ∨ b = 63 ∨ b = 123) from hp)]
        cases hx : patm (b :: r) with
        | er r2 c2 => rw [hx] at h; exact (by injection h with h1 h2; subst h1 h2; rfl)
        | ok t r2 =>
          rw [hx] at h
          simp only at h ⊢
          rw [pgrp_post r2.length _ _ _ _ (Nat.le_refl _), h]
/-- What is read next stands at the row's end. -/
theorem rep_ok {rows row : List T} {r r1 : List Nat} {t : T} (h : repO r = some (.ok t r1)) (hrow : row = [] ∨ ∀ b r2, r = b :: r2 → ¬ isPost b) :
    pgrp ⟨rows, row⟩ [] r = pgrp ⟨rows, row ++ [t]⟩ [] r1 ∧ (∀ b r2, r1 = b :: r2 → ¬ isPost b) ∧ r1.length < r.length := by
  cases r with
  | nil => cases h
  | cons b r =>
    by_cases hb : b = 41 ∨ b = 124
    · rw [repO_cut hb] at h; cases h
    · rw [rep_some hb] at h
      injection h with h
      by_cases hp : isPost b
      · rw [patm_bad r (by unfold isPost at hp; omega)] at h
        cases h
      · rw [pgrp_atm (fun e => hb (.inl e)) (fun e => hb (.inr e)) (show ¬ (b = 42 ∨ b = 43 ∨ b = 63 ∨ b = 123) from hp)]
        cases hx : patm (b :: r) with
        | er r2 c2 => rw [hx] at h; cases h
        | ok t2 r2 =>
          rw [hx] at h
          simp only at h ⊢
          have l1 := patm_len hb hp hx
          have l2 := ppost_len r2.length (Nat.le_refl _) h
          refine ⟨?_, ppost_end r2.length (Nat.le_refl _) h, by simp; omega⟩
          rw [pgrp_post r2.length _ _ _ _ (Nat.le_refl _), h]
/-- Where no more is read to the row: the group ends. -/
theorem grp_end {g : G} {r : List Nat} (h : r = [] ∨ ∃ q, r = 41 :: q) : pgrp g [] r = .ok g r := by
  rcases h with rfl | ⟨q, rfl⟩
  · exact pgrp_nil g
  · exact pgrp_shut g q

end Go.Proofs.Ytbodgadbhldbmaa

/- The document's own reader: the rows that it gathers, in memory.
   Conditions: those that each theorem states; the rows lie in memory of the call's own. -/
namespace Go.Proofs.Ytbodgadbhldbmaa
open Go.RowKit

/-- What the call that reads rows has in memory: the rows, and the row that is read. -/
structure AltI (w : World) (rb : Nat) (s : ByteArray) (k : Nat) (pl e : Int) (vr vw : Value) (rows row : List V) (wr : World) : Prop where
  rr : Rr wr rb s k pl e
  low : rb < w.heap.size
  chg : Chg (fun x => x = rb) w wr
  res : wr.heap[w.heap.size]? = some (.cells zcells 28 (0, 0))
  oR : wr.ownsRow (w.heap.size + 1) 28 8 vr rows.length (flat rows)
  oW : wr.ownsRow (w.heap.size + 1) 28 8 vw row.length (flat row)
  dis : ∀ b, vr.ownBlock = some b → vw.ownBlock ≠ some b
  slR : ∀ p ∈ rows, ∃ a n c, p.v = .slice a n c
  slW : ∀ p ∈ row, ∃ a n c, p.v = .slice a n c
/-- Where trees lie that are gathered: not where the rows themselves do. -/
def AR (w : World) (vr vw : Value) (b : Nat) : Prop := w.heap.size < b ∧ vr.ownBlock ≠ some b ∧ vw.ownBlock ≠ some b
theorem AltI.swap {w : World} {rb k : Nat} {s : ByteArray} {pl e : Int} {vr vw : Value} {rows row : List V} {a : World} (h : AltI w rb s k pl e vr vw rows row a) : AltI w rb s k pl e vw vr row rows a :=
  ⟨h.rr, h.low, h.chg, h.res, h.oW, h.oR, fun b h1 h2 => h.dis b h2 h1, h.slW, h.slR⟩
theorem AR.swap {w : World} {vr vw : Value} {b : Nat} (h : AR w vr vw b) : AR w vw vr b := ⟨h.1, h.2.2, h.2.1⟩
/-- The row that was read is let go. -/
theorem AltI.drop {w : World} {rb k : Nat} {s : ByteArray} {pl e : Int} {vr vw : Value} {rows row : List V} {a : World} (h : AltI w rb s k pl e vr vw rows row a) : AltI w rb s k pl e vr (.slice none 0 0) rows [] a :=
  ⟨h.rr, h.low, h.chg, h.res, h.oR, ⟨rfl, .inl ⟨rfl, rfl⟩⟩, (fun _ _ e => by cases e), h.slR, fun _ h => absurd h (by simp)⟩
theorem AR.drop {w : World} {vr vw : Value} {b : Nat} (h : AR w vr vw b) : AR w vr (.slice none 0 0) b := ⟨h.1, h.2.1, fun e => by cases e⟩
/-- A call on the reader. -/
theorem AltI.sf {w : World} {rb k k' : Nat} {s : ByteArray} {pl e pl' e' : Int} {vr vw : Value} {rows row : List V} {a b : World} (h : AltI w rb s k pl e vr vw rows row a) (hs : Sf a rb s k' pl' e' b) : AltI w rb s k' pl' e' vr vw rows row b := by
  have hl := h.low
  refine ⟨hs.1, h.low, h.chg.trans hs.2 fun _ _ h => h, (hs.2.block _ (Array.getElem?_eq_some_iff.1 h.res).1 (by omega)).trans h.res, own_chg h.oR hs.2 fun x hx e => ?_, own_chg h.oW hs.2 fun x hx e => ?_, h.dis, h.slR, h.slW⟩
  · have := (h.oR.lt x hx).1; omega
  · have := (h.oW.lt x hx).1; omega
theorem laid_sf {w : World} {rb k' : Nat} {s : ByteArray} {pl' e' : Int} {vr vw : Value} {a b : World} {t : V} (hl : rb < w.heap.size) (hs : Sf a rb s k' pl' e' b) (h : Laid a (AR w vr vw) t) : Laid b (AR w vr vw) t :=
  h.chg hs.2 fun x _ hx e => by have h1 : x = rb := e; have := hx.1; omega
/-- What a call lays in new memory lies where it may. -/
theorem laid_new {w : World} {rb k : Nat} {s : ByteArray} {pl e : Int} {vr vw : Value} {rows row : List V} {a b : World} {t : V} (h : AltI w rb s k pl e vr vw rows row a) (ht : Laid b (fun x => a.heap.size ≤ x) t) : Laid b (AR w vr vw) t := by
  have h1 := (Array.getElem?_eq_some_iff.1 h.res).1
  refine ht.mono fun x _ hx => ⟨by omega, fun e => ?_, fun e => ?_⟩
  · have := (h.oR.lt x e).2; omega
  · have := (h.oW.lt x e).2; omega
/-- Other memory is laid: nothing of it is touched. -/
theorem AltI.keep {w : World} {rb k : Nat} {s : ByteArray} {pl e : Int} {vr vw : Value} {rows row : List V} {a b : World} (h : AltI w rb s k pl e vr vw rows row a) (hc : Chg (fun _ => False) a b) : AltI w rb s k pl e vr vw rows row b :=
  ⟨h.rr.keep hc id, h.low, h.chg.trans hc fun _ _ h => h.elim, (hc.block _ (Array.getElem?_eq_some_iff.1 h.res).1 id).trans h.res, own_chg h.oR hc fun _ _ => id, own_chg h.oW hc fun _ _ => id, h.dis, h.slR, h.slW⟩
/-- A tree is put at the row's end. -/
theorem AltI.push {w : World} {rb k : Nat} {s : ByteArray} {pl e : Int} {vr vw : Value} {rows row : List V} {a aw b : World} {t : V} {g cap : Nat} (h : AltI w rb s k pl e vr vw rows row a) (hc : Chg (fun _ => False) a aw) (hgrow : aw.grownBy b vw.ownBlock) (hg : vw.ownBlock = some g ∨ g = aw.heap.size)
    (hown : b.ownsRow (w.heap.size + 1) 28 8 (.slice (some ⟨g, 0, none⟩) (row.length + 1) cap) (row.length + 1) (flat row ++ ndc t)) (ht : ∃ a n c, t.v = .slice a n c) :
    AltI w rb s k pl e vr (.slice (some ⟨g, 0, none⟩) (row.length + 1) cap) rows (row ++ [t]) b ∧ ∀ x, Laid a (AR w vr vw) x → Laid b (AR w vr (.slice (some ⟨g, 0, none⟩) (row.length + 1) cap)) x := by
  have hl := h.low
  have hab : Chg (fun x => vw.ownBlock = some x) a b := (hc.mono fun _ _ h => h.elim).grown hgrow fun k hk _ => hk
  have h1 := (Array.getElem?_eq_some_iff.1 h.res).1
  have hs := hc.size
  refine ⟨⟨h.rr.keep hab fun e => ?_, h.low, h.chg.trans hab fun x hx e => ?_, (hab.block _ h1 fun e => ?_).trans h.res, own_chg h.oR hab fun x hx => h.dis x hx, ?_, fun x hx e => ?_, h.slR, fun p hp => ?_⟩, fun x hx => ?_⟩
  · have := (h.oW.lt _ e).1; omega
  · have := (h.oW.lt _ e).1; omega
  · have := (h.oW.lt _ e).1; omega
  · rw [flat_snoc, List.length_append]; exact hown
  · injection e with e
    have e : g = x := e
    subst e
    rcases hg with hg | hg
    · exact h.dis _ hx hg
    · have := (h.oR.lt _ hx).2; omega
  · rcases List.mem_append.1 hp with hp | hp
    · exact h.slW p hp
    · simp at hp; subst hp; exact ht
  · refine hx.keep (fun y hy hR => ⟨hR.1, hR.2.1, fun e => ?_⟩) hab.size fun y hy hR => hab.block y hy hR.2.2
    injection e with e
    have e : g = y := e
    subst e
    rcases hg with hg | hg
    · exact hR.2.2 hg
    · omega

end Go.Proofs.Ytbodgadbhldbmaa

/- The document's own reader: rows with | between: a contract.
   Conditions: the reader's cells are as 'Rr' says, the text has at most 1000 bytes; at shorter texts the call is as is said. -/
namespace Go.Proofs.Ytbodgadbhldbmaa
open Go.RowKit

/-- What holds at the head of the loop over rows. -/
def OutR (w : World) (rb : Nat) (s : ByteArray) (pl : Int) (P0 : Out G) (kst : Nat) (x3 x4 : Value) (wr : World) : Prop :=
  ∃ (rows : List V) (k i : Nat) (r' : List Nat), x4 = .int .i64 i ∧ rows.length ≤ i ∧ i ≤ k ∧ kst ≤ k ∧ AltI w rb s k pl 0 x3 (.slice none 0 0) rows [] wr ∧ (∀ t ∈ rows, Laid wr (AR w x3 (.slice none 0 0)) t) ∧ Tl s k r' ∧ P0 = pgrp ⟨erases rows, []⟩ [] r'
/-- What holds at the head of the loop over a row. -/
def InR (w : World) (rb : Nat) (s : ByteArray) (pl : Int) (P0 : Out G) (vr : Value) (rows : List V) (k0 : Nat) (x5 : Value) (wr : World) : Prop :=
  ∃ (row : List V) (k : Nat) (pl' e : Int), AltI w rb s k pl' e vr x5 rows row wr ∧
    ((e = 0 ∧ pl' = pl ∧ k0 ≤ k ∧ row.length ≤ k ∧ (∀ t ∈ rows ++ row, Laid wr (AR w vr x5) t) ∧ ∃ r', Tl s k r' ∧ P0 = pgrp ⟨erases rows, erases row⟩ [] r' ∧ (row = [] ∨ ∀ b r2, r' = b :: r2 → ¬ isPost b)) ∨
      (∃ (c p : Nat) (r' : List Nat), (c = 2 ∨ c = 3) ∧ e = c ∧ pl' = p ∧ Tl s p r' ∧ P0 = .er r' c))
theorem AltI.pushR {w : World} {rb k : Nat} {s : ByteArray} {pl e : Int} {vr vw : Value} {rows row : List V} {a aw b : World} {t : V} {g cap : Nat} (h : AltI w rb s k pl e vr vw rows row a) (hc : Chg (fun _ => False) a aw) (hgrow : aw.grownBy b vr.ownBlock) (hg : vr.ownBlock = some g ∨ g = aw.heap.size)
    (hown : b.ownsRow (w.heap.size + 1) 28 8 (.slice (some ⟨g, 0, none⟩) (rows.length + 1) cap) (rows.length + 1) (flat rows ++ ndc t)) (ht : ∃ a n c, t.v = .slice a n c) :
    AltI w rb s k pl e (.slice (some ⟨g, 0, none⟩) (rows.length + 1) cap) vw (rows ++ [t]) row b ∧ ∀ x, Laid a (AR w vr vw) x → Laid b (AR w (.slice (some ⟨g, 0, none⟩) (rows.length + 1) cap) vw) x :=
  have p := h.swap.push hc hgrow hg hown ht
  ⟨p.1.swap, fun x hx => (p.2 x (hx.mono fun _ _ h => h.swap)).mono fun _ _ h => h.swap⟩
/-- The row that was read is made one tree. -/
theorem row_joined {w : World} {rb k : Nat} {s : ByteArray} {pl e : Int} {vr vw : Value} {rows row : List V} {a b : World} (h : AltI w rb s k pl e vr vw rows row a) (hl : ∀ t ∈ rows ++ row, Laid a (AR w vr vw) t) (hb : Below a.heap.size a b) :
    (∀ t ∈ rows, Laid b (AR w vr (.slice none 0 0)) t) ∧ Laid b (AR w vr (.slice none 0 0)) (joinV 2 vw row) := by
  have hc : Chg (fun _ => False) a b := Chg.of_below hb
  have hk : ∀ t ∈ rows ++ row, Laid b (AR w vr (.slice none 0 0)) t := fun t ht => ((hl t ht).mono fun _ _ h => h.drop).chg hc fun _ _ _ => id
  refine ⟨fun t ht => hk t (List.mem_append_left _ ht), joinV_laid 2 (own_chg h.oW hc fun _ _ => id) (fun t ht => hk t (List.mem_append_right _ ht)) fun x hx => ⟨by have := (h.oW.lt x hx).1; omega, fun e => h.dis x e hx, fun e => by cases e⟩⟩
theorem laid_new' {w : World} {rb k k' : Nat} {s : ByteArray} {pl e pl' e' : Int} {vr vw : Value} {rows row : List V} {a b : World} {t : V} (h : AltI w rb s k pl e vr vw rows row a) (_hs : Sf a rb s k' pl' e' b) (ht : Laid b (fun x => a.heap.size ≤ x) t) : Laid b (AR w vr vw) t := laid_new h ht
theorem ndc_len (v : V) : (ndc v).length = 1 * 8 := rfl

set_option maxHeartbeats 16000000 in
set_option maxRecDepth 100000 in
theorem altR_step (w : World) (rb k : Nat) (r : List Nat) (s : ByteArray) (pl : Int) (h : Rr w rb s k pl 0) (ht : Tl s k r) (hs : s.size ≤ 1000)
    (ih : ∀ (w' : World) (k' : Nat) (r' : List Nat), r'.length < r.length → Rr w' rb s k' pl 0 → Tl s k' r' → Calls Try.prog 24 #[.pointer (some ⟨rb, 0, none⟩)] w' (Alr (pgrp ⟨[], []⟩ [] r') s w' rb pl)) :
    Calls Try.prog 24 #[.pointer (some ⟨rb, 0, none⟩)] w (Alr (pgrp ⟨[], []⟩ [] r) s w rb pl) := by
  obtain ⟨i0, hi, hz0, hz1, hz2⟩ := info_parts info28
  have hne : w.heap.size ≠ rb := by have := h.lt; omega
  have HNE := Lib.hid hne
  have HRB := Lib.hid h.lt
  have HT := Lib.hid (And.intro ht hs)
  have HI := Lib.hid ih
  have HA0 := Lib.hid (show AltI w rb s k pl 0 (.slice none 0 0) (.slice none 0 0) [] [] (w.alloc (.cells #[.int .i64 0, .int .u64 0, .int .u64 0, .int .u64 0, .int .u64 0, .slice none 0 0, .int .i64 0, .int .i64 0] 28)) from ⟨h.keep ((Chg.refl (fun _ => False) w).alloc _) id, h.lt, (Chg.refl _ w).alloc _, heap_alloc_new w _, ⟨rfl, .inl ⟨rfl, rfl⟩⟩, ⟨rfl, .inl ⟨rfl, rfl⟩⟩, (fun _ e => by cases e), by simp, by simp⟩)
  clear h ht hs ih
  go_enter Try.func24, Try.ntmps24
  go_wp2_with fail
  go_loopw [3, 4] (fun x3 x4 wr => OutR w rb s pl (pgrp ⟨[], []⟩ [] r) k x3 x4 wr) (fun _ _ wr => imeas rb s wr)
  case atStart => exact ⟨[], k, 0, r, rfl, Nat.le_refl _, Nat.zero_le _, Nat.le_refl _, HA0.out, by simp, HT.out.1, rfl⟩
  case round =>
    clear HA0
    obtain ⟨rows, k1, i, r1, hx4, hri, hik, hkk, hA, hL, ht1, hP⟩ := hrel
    subst hx4
    obtain ⟨wo, rfl⟩ : ∃ wo : World, wo = wr := ⟨_, rfl⟩
    obtain ⟨S, cp, rfl⟩ := own_form hA.oR
    have z0 := hA.rr.text
    have z1 := hA.rr.lt
    have hle : (i : Int) ≤ (s.size : Int) := by have := ht1.1; omega
    have HA := Lib.hid hA
    have HL := Lib.hid hL
    have HM0 := Lib.hid (rmeas_ok hA.rr)
    have HO := Lib.hid (And.intro hri (And.intro hik (And.intro hkk (And.intro ht1 hP))))
    clear hri hik hkk hA hL ht1 hP
    go_wp2_with fail
    clear z0 z1 hle
    go_loopw [5] (fun x5 wr => InR w rb s pl (pgrp ⟨[], []⟩ [] r) (.slice S rows.length cp) rows k1 x5 wr) (fun _ wr => imeas rb s wr)
    case atStart => exact ⟨[], k1, pl, 0, HA.out, .inl ⟨rfl, rfl, Nat.le_refl _, Nat.zero_le _, by simpa using HL.out, r1, HO.out.2.2.2.1, HO.out.2.2.2.2, .inl rfl⟩⟩
    case round =>
      obtain ⟨row, k2, pl2, e2, hB, hor⟩ := hrel
      obtain ⟨S2, cp2, rfl⟩ := own_form hB.oW
      have HB := Lib.hid hB
      rcases hor with ⟨rfl, hpl, hk2, hrl, hLB, r2, ht2, hP2, hpost⟩ | ⟨c, p, r2, hc, rfl, rfl, ht2, hP2⟩
      · subst pl2
        have z1 := hB.rr.lt
        have z2 := hB.rr.err
        have HM1 := Lib.hid (rmeas_ok hB.rr)
        have HLB := Lib.hid hLB
        have HP2 := Lib.hid (And.intro hP2 (And.intro hpost ht2))
        have HRL := Lib.hid (show row.length ≤ 1000 by have := ht2.1; have := HT.out.2; omega)
        have HK2 := Lib.hid (And.intro hk2 hrl)
        have HRR := Lib.hid (repR_any wr rb k2 r2 s pl hB.rr ht2 HT.out.2 (fun w' k' r' hr => HI.out w' k' r' (by have := HT.out.1.1; have := ht2.1; have := HO.out.2.2.1; omega)))
        clear hB hk2 hrl hLB ht2 hP2 hpost
        go_wp2_with fail
        go_at_call 32
        refine HRR.out.mono ?_
        clear HRR z1 z2
        intro x w4 hR
        cases ho : repO r2 with
        | none =>
          rw [ho] at hR
          obtain ⟨rfl, h4⟩ := hR
          have HCZ := Lib.hid ((HB.out.sf h4).keep (show Chg (fun _ => False) w4 (w4.alloc (.cells #[.int .i64 0, .int .u64 0, .int .u64 0, .int .u64 0, .int .u64 0, .slice none 0 0, .int .i64 0, .int .i64 0] 28)) from (Chg.refl _ w4).alloc _))
          have HLZ := Lib.hid (fun t (ht : t ∈ rows ++ row) => (laid_sf HRB.out h4 (HLB.out t ht)).chg (show Chg (fun _ => False) w4 (w4.alloc (.cells #[.int .i64 0, .int .u64 0, .int .u64 0, .int .u64 0, .int .u64 0, .slice none 0 0, .int .i64 0, .int .i64 0] 28)) from (Chg.refl _ w4).alloc _) fun _ _ _ => id)
          have HNO := Lib.hid (rep_none ho)
          clear ho h4
          have HRW := Lib.hid (show rows.length ≤ 1000 by have a1 := HO.out.1; have a2 := HO.out.2.1; have a3 := HO.out.2.2.2.1.1; have := HT.out.2; omega)

          go_wp2_with fail
          go_at_call 33
          refine (several_any _ (w.heap.size + 1) 2 (.slice S2 row.length cp2) row HCZ.out.oW HCZ.out.slW).mono ?_
          rintro x w6 ⟨rfl, hb6⟩
          have HC6 := Lib.hid (HCZ.out.keep (Chg.of_below hb6)).drop
          have hlj := row_joined HCZ.out HLZ.out hb6
          have HLJ := Lib.hid hlj
          clear hlj
          obtain ⟨J, hJ⟩ : ∃ J, joinV 2 (.slice S2 row.length cp2) row = J := ⟨_, rfl⟩
          obtain ⟨ja, jn, jc, hJs⟩ : ∃ a n c, J.v = .slice a n c := hJ ▸ joinV_slice 2 ⟨_, _, _, rfl⟩ HCZ.out.slW
          have hag : nodeAgg J = .agg #[.int .i64 J.kind, .int .u64 (J.set 0 : Nat), .int .u64 (J.set 1 : Nat), .int .u64 (J.set 2 : Nat), .int .u64 (J.set 3 : Nat), .slice ja jn jc, .int .i64 J.lo, .int .i64 J.hi] := by unfold nodeAgg; rw [hJs]
          have HJ := Lib.hid (And.intro (show ndc J = [.int .i64 J.kind, .int .u64 (J.set 0 : Nat), .int .u64 (J.set 1 : Nat), .int .u64 (J.set 2 : Nat), .int .u64 (J.set 3 : Nat), .slice ja jn jc, .int .i64 J.lo, .int .i64 J.hi] by unfold ndc; rw [hJs]) (And.intro (show ∃ a n c, J.v = .slice a n c from ⟨_, _, _, hJs⟩) (show erase J = joinT 2 (erases row) from hJ ▸ erase_join 2 _ row)))
          rw [hJ] at HLJ ⊢
          rw [hag]
          clear hJ hag hJs hb6 HCZ
          go_wp2_with ((at_builtin; refine wpList_append_lies _ (by rfl) _ _ 26 (by rfl) (w.heap.size + 1) 28 i0 _ 8 80 Try.underlying26 hi hz0 hz1 hz2 rfl (by decide) _ rows.length (flat rows) (by rfl) (HC6.out.oR.alloc _) ⟨w6.heap.size, 0, none⟩ 1 1 (ndc J) (by rfl) ?c0 ?c1 ?c2 (by decide) ?c3 ?c4 ?c5 _ rfl ?_))
          case c0 => exact ndc_len J
          case c1 => rw [HJ.out.1]; exact World.news_of_block (heap_alloc_new w6 _)
          case c2 => rw [HJ.out.1]; simp [Value.oneCell']
          case c3 => have := HRW.out; unfold maxLen; omega
          case c4 => have := HRW.out; omega
          case c5 => have := (Array.getElem?_eq_some_iff.1 HC6.out.res).1; simp; omega
          intro g cap w7 hown7 hgrow hat _
          have hpush := HC6.out.pushR (t := J) ((Chg.refl _ w6).alloc _) hgrow (hat.imp id fun e => by rw [e]; simp) hown7 HJ.out.2.1
          have HPU := Lib.hid hpush
          clear hown7 hgrow hat hpush

          by_cases hbar : ∃ q, r2 = 124 :: q
          · obtain ⟨q, rfl⟩ := hbar
            go_wp2_with fail
            go_at_call 34
            refine (takeR_yes _ rb k2 124 q s pl HPU.out.1.rr HP2.out.2.2 HT.out.2 (by decide)).mono ?_
            rintro x w8 ⟨rfl, h8⟩
            have HC8 := Lib.hid (HPU.out.1.sf h8)
            have HL8 := Lib.hid (fun t (ht : t ∈ rows ++ [J]) => laid_sf HRB.out h8 (HPU.out.2 t (by
              rcases List.mem_append.1 ht with ht | ht
              · exact HLJ.out.1 t ht
              · simp at ht; subst ht; exact HLJ.out.2)))
            have hiw : (i : Int) ≤ 1000 := by have a2 := HO.out.2.1; have a3 := HO.out.2.2.2.1.1; have := HT.out.2; omega
            clear h8
            go_wp2_with fail
            refine ⟨⟨rows ++ [J], k2 + 1, i + 1, q, by first | rfl | go_num, by have := HO.out.1; simp; omega, by have := HO.out.2.1; have := HK2.out.1; omega, by have := HO.out.2.2.1; have := HK2.out.1; omega, HC8.out, HL8.out, HP2.out.2.2.tail, ?_⟩, ?_⟩
            · rw [HP2.out.1, pgrp_bar, erases_append, erases_one, HJ.out.2.2]
            · rw [rmeas_ok HC8.out.rr, HM0.out]
              have a1 := HK2.out.1
              have a2 := HP2.out.2.2.1
              simp at a2
              omega
          · have hend : r2 = [] ∨ ∃ q, r2 = 41 :: q := by
              rcases HNO.out with h | ⟨q, h | h⟩
              · exact .inl h
              · exact .inr ⟨q, h⟩
              · exact absurd ⟨q, h⟩ hbar
            have HEN := Lib.hid hend
            have HHD := Lib.hid (show r2.head? ≠ some 124 by rcases hend with rfl | ⟨q, rfl⟩ <;> simp)
            clear hbar hend
            go_wp2_with fail
            go_at_call 34
            refine (takeR_not _ rb k2 124 _ s pl HPU.out.1.rr HP2.out.2.2 HHD.out (by decide)).mono ?_
            rintro x w8 ⟨rfl, h8⟩
            have HC8 := Lib.hid (HPU.out.1.sf h8)
            have HL8 := Lib.hid (fun t (ht : t ∈ rows ++ [J]) => laid_sf HRB.out h8 (HPU.out.2 t (by
              rcases List.mem_append.1 ht with ht | ht
              · exact HLJ.out.1 t ht
              · simp at ht; subst ht; exact HLJ.out.2)))
            clear h8
            go_wp2_with fail
            go_at_call 33
            refine (several_any _ (w.heap.size + 1) 3 (.slice (some ⟨g, 0, none⟩) (rows.length + 1) cap) (rows ++ [J]) HC8.out.oR HC8.out.slR).mono ?_
            rintro x w9 ⟨rfl, hb9⟩
            have HC9 := Lib.hid (HC8.out.keep (Chg.of_below hb9))
            have hl9 : Laid w9 (fun b => w.heap.size < b) (joinV 3 (.slice (some ⟨g, 0, none⟩) (rows.length + 1) cap) (rows ++ [J])) :=
              joinV_laid 3 HC9.out.oR (fun t ht => ((HL8.out t ht).mono fun _ _ h => h.1).chg (show Chg (fun _ => False) _ _ from Chg.of_below hb9) fun _ _ _ => id) fun x hx => by have := (HC9.out.oR.lt x hx).1; omega
            have HL9 := Lib.hid hl9
            clear hl9
            obtain ⟨K, hK⟩ : ∃ K, joinV 3 (.slice (some ⟨g, 0, none⟩) (rows.length + 1) cap) (rows ++ [J]) = K := ⟨_, rfl⟩
            obtain ⟨ka, kn, kc, hKs⟩ : ∃ a n c, K.v = .slice a n c := hK ▸ joinV_slice 3 ⟨_, _, _, rfl⟩ HC8.out.slR
            have hag : nodeAgg K = .agg #[.int .i64 K.kind, .int .u64 (K.set 0 : Nat), .int .u64 (K.set 1 : Nat), .int .u64 (K.set 2 : Nat), .int .u64 (K.set 3 : Nat), .slice ka kn kc, .int .i64 K.lo, .int .i64 K.hi] := by unfold nodeAgg; rw [hKs]
            have HK := Lib.hid (And.intro hKs (show erase K = joinT 3 (erases (rows ++ [J])) from hK ▸ erase_join 3 _ _))
            rw [hK] at HL9 ⊢
            rw [hag]
            clear hK hag hKs hb9
            have hres := HC9.out.res
            obtain ⟨⟨q0, q1, q2, q3⟩, ⟨q4, q5, q6, q7⟩, qf⟩ := res_cells hres
            have f0 := qf 0
            have f1 := qf 1
            have f2 := qf 2
            have f3 := qf 3
            have f4 := qf 4
            have f5 := qf 5
            have f6 := qf 6
            have f7 := qf 7
            clear hres qf
            go_wp2_with fail
            refine bodyPost_ret (v := .agg #[.int .i64 K.kind, .int .u64 (K.set 0 : Nat), .int .u64 (K.set 1 : Nat), .int .u64 (K.set 2 : Nat), .int .u64 (K.set 3 : Nat), .slice ka kn kc, .int .i64 K.lo, .int .i64 K.hi]) (by simp [results, Try.results24, go_sem, q0, q1, q2, q3, q4, q5, q6, q7]) rfl ?_
            rw [HP2.out.1, grp_end HEN.out]
            refine ⟨K, ka, kn, kc, k2, HK.out.1, ?_, HP2.out.2.2, rfl, sf_store8 ⟨HC9.out.rr, HC9.out.chg⟩ HNE.out _ _ _ _ _ _ _ _, (HL9.out.chg (store8_chg (R := fun x => x = w.heap.size) (Chg.refl _ _) (fun _ => rfl) 0 _ _ _ _ _ _ _ _) (fun b _ hb e => by have h1 : b = w.heap.size := e; have := hb; omega)).mono fun b _ hb => Nat.le_of_lt hb⟩
            rw [HK.out.2, erases_append, erases_one, HJ.out.2.2]
            rfl
        | some o =>
          cases o with
          | er r3 c =>
            rw [ho] at hR
            obtain ⟨hc, v, sa, sn, sc, k3, p, bb, hsl, ht3, rfl, h4⟩ := hR
            have HE := Lib.hid (And.intro hc (And.intro ht3 (show pgrp ⟨[], []⟩ [] r = .er r3 c by rw [HP2.out.1]; exact rep_er ho (HP2.out.2.1.imp (fun h => (erases_nil_iff row).2 h) id))))
            have z3 := beq_c hc

            obtain ⟨w5, hw5⟩ : ∃ w5, w4.alloc (.cells #[.int .i64 v.kind, .int .u64 (v.set 0 : Nat), .int .u64 (v.set 1 : Nat), .int .u64 (v.set 2 : Nat), .int .u64 (v.set 3 : Nat), .slice sa sn sc, .int .i64 v.lo, .int .i64 v.hi] 28) = w5 := ⟨_, rfl⟩
            have c5 := node_new (v := v) (sa := sa) (sn := sn) (sc := sc) hw5
            have HN5 := Lib.hid c5
            have HC5 := Lib.hid ((HB.out.sf h4).keep (hw5 ▸ (Chg.refl _ w4).alloc _))
            have HLK := Lib.hid (fun t (ht : Laid w4 (AR w (.slice S rows.length cp) (.slice S2 row.length cp2)) t) => ht.chg (show Chg (fun _ => False) w4 w5 from hw5 ▸ (Chg.refl _ w4).alloc _) fun _ _ _ => id)
            have HZ := Lib.hid (show w4.heap.size + 1 = w5.heap.size by rw [← hw5]; simp)
            clear c5

            have HV := Lib.hid (And.intro (show ndc v = [.int .i64 v.kind, .int .u64 (v.set 0 : Nat), .int .u64 (v.set 1 : Nat), .int .u64 (v.set 2 : Nat), .int .u64 (v.set 3 : Nat), .slice sa sn sc, .int .i64 v.lo, .int .i64 v.hi] by unfold ndc; rw [hsl]) (show ∃ a n c, v.v = .slice a n c from ⟨_, _, _, hsl⟩))
            clear hc ht3 hsl h4 HLK ho
            cases bb with
            | false =>
              have HCZ := HC5
              clear HC5 z3
              have HRW := Lib.hid (show rows.length ≤ 1000 by have a1 := HO.out.1; have a2 := HO.out.2.1; have a3 := HO.out.2.2.2.1.1; have := HT.out.2; omega)

              go_wp2_with fail
              go_at_call 33
              refine (several_any _ (w.heap.size + 1) 2 (.slice S2 row.length cp2) row HCZ.out.oW HCZ.out.slW).mono ?_
              rintro x w6 ⟨rfl, hb6⟩
              have HC6 := Lib.hid (HCZ.out.keep (Chg.of_below hb6)).drop
              obtain ⟨J, hJ⟩ : ∃ J, joinV 2 (.slice S2 row.length cp2) row = J := ⟨_, rfl⟩
              obtain ⟨ja, jn, jc, hJs⟩ : ∃ a n c, J.v = .slice a n c := hJ ▸ joinV_slice 2 ⟨_, _, _, rfl⟩ HCZ.out.slW
              have hag : nodeAgg J = .agg #[.int .i64 J.kind, .int .u64 (J.set 0 : Nat), .int .u64 (J.set 1 : Nat), .int .u64 (J.set 2 : Nat), .int .u64 (J.set 3 : Nat), .slice ja jn jc, .int .i64 J.lo, .int .i64 J.hi] := by unfold nodeAgg; rw [hJs]
              have HJ := Lib.hid (And.intro (show ndc J = [.int .i64 J.kind, .int .u64 (J.set 0 : Nat), .int .u64 (J.set 1 : Nat), .int .u64 (J.set 2 : Nat), .int .u64 (J.set 3 : Nat), .slice ja jn jc, .int .i64 J.lo, .int .i64 J.hi] by unfold ndc; rw [hJs]) (And.intro (show ∃ a n c, J.v = .slice a n c from ⟨_, _, _, hJs⟩) (show erase J = joinT 2 (erases row) from hJ ▸ erase_join 2 _ row)))
              rw [hJ]
              rw [hag]
              clear hJ hag hJs hb6 HCZ
              go_wp2_with ((at_builtin; refine wpList_append_lies _ (by rfl) _ _ 26 (by rfl) (w.heap.size + 1) 28 i0 _ 8 80 Try.underlying26 hi hz0 hz1 hz2 rfl (by decide) _ rows.length (flat rows) (by rfl) (HC6.out.oR.alloc _) ⟨w6.heap.size, 0, none⟩ 1 1 (ndc J) (by rfl) ?c0 ?c1 ?c2 (by decide) ?c3 ?c4 ?c5 _ rfl ?_))
              case c0 => exact ndc_len J
              case c1 => rw [HJ.out.1]; exact World.news_of_block (heap_alloc_new w6 _)
              case c2 => rw [HJ.out.1]; simp [Value.oneCell']
              case c3 => have := HRW.out; unfold maxLen; omega
              case c4 => have := HRW.out; omega
              case c5 => have := (Array.getElem?_eq_some_iff.1 HC6.out.res).1; simp; omega
              intro g cap w7 hown7 hgrow hat _
              have hpush := HC6.out.pushR (t := J) ((Chg.refl _ w6).alloc _) hgrow (hat.imp id fun e => by rw [e]; simp) hown7 HJ.out.2.1
              have HPU := Lib.hid hpush
              clear hown7 hgrow hat hpush

              have HE0 := Lib.hid (show ¬ (c : Int) = 0 by have := HE.out.1; omega)
              go_wp2_with fail
              go_at_call 34
              refine (takeR_bad _ rb _ 124 s _ _ HPU.out.1.rr HE0.out (by decide)).mono ?_

              rintro x w8 ⟨rfl, h8⟩
              have HC8 := Lib.hid (HPU.out.1.sf h8)
              clear h8
              go_wp2_with fail
              go_at_call 33
              refine (several_any _ (w.heap.size + 1) 3 (.slice (some ⟨g, 0, none⟩) (rows.length + 1) cap) (rows ++ [J]) HC8.out.oR HC8.out.slR).mono ?_
              rintro x w9 ⟨rfl, hb9⟩
              have HC9 := Lib.hid (HC8.out.keep (Chg.of_below hb9))
              obtain ⟨K, hK⟩ : ∃ K, joinV 3 (.slice (some ⟨g, 0, none⟩) (rows.length + 1) cap) (rows ++ [J]) = K := ⟨_, rfl⟩
              obtain ⟨ka, kn, kc, hKs⟩ : ∃ a n c, K.v = .slice a n c := hK ▸ joinV_slice 3 ⟨_, _, _, rfl⟩ HC8.out.slR
              have hag : nodeAgg K = .agg #[.int .i64 K.kind, .int .u64 (K.set 0 : Nat), .int .u64 (K.set 1 : Nat), .int .u64 (K.set 2 : Nat), .int .u64 (K.set 3 : Nat), .slice ka kn kc, .int .i64 K.lo, .int .i64 K.hi] := by unfold nodeAgg; rw [hKs]
              have HK := Lib.hid (And.intro hKs (show erase K = joinT 3 (erases (rows ++ [J])) from hK ▸ erase_join 3 _ _))
              rw [hK]
              rw [hag]
              clear hK hag hKs hb9
              have hres := HC9.out.res
              obtain ⟨⟨q0, q1, q2, q3⟩, ⟨q4, q5, q6, q7⟩, qf⟩ := res_cells hres
              have f0 := qf 0
              have f1 := qf 1
              have f2 := qf 2
              have f3 := qf 3
              have f4 := qf 4
              have f5 := qf 5
              have f6 := qf 6
              have f7 := qf 7
              clear hres qf
              go_wp2_with fail
              refine bodyPost_ret (v := .agg #[.int .i64 K.kind, .int .u64 (K.set 0 : Nat), .int .u64 (K.set 1 : Nat), .int .u64 (K.set 2 : Nat), .int .u64 (K.set 3 : Nat), .slice ka kn kc, .int .i64 K.lo, .int .i64 K.hi]) (by simp [results, Try.results24, go_sem, q0, q1, q2, q3, q4, q5, q6, q7]) rfl ?_
              rw [HE.out.2.2]
              exact ⟨HE.out.1, K, ka, kn, kc, k3, p, HK.out.1, HE.out.2.1, rfl, sf_store8 ⟨HC9.out.rr, HC9.out.chg⟩ HNE.out _ _ _ _ _ _ _ _⟩
            | true =>
              obtain ⟨n0, n1, n2, n3, n4, n5, n6, n7⟩ := HN5.out.1
              have nlt := HN5.out.2
              go_wp2_with ((at_builtin; refine wpList_append_lies _ (by rfl) _ _ 26 (by rfl) (w.heap.size + 1) 28 i0 _ 8 80 Try.underlying26 hi hz0 hz1 hz2 rfl (by decide) _ row.length (flat row) (by rfl) (HC5.out.oW.alloc _) ⟨w5.heap.size, 0, none⟩ 1 1 (ndc v) (by rfl) ?c0 ?c1 ?c2 (by decide) ?c3 ?c4 ?c5 _ rfl ?_))
              case c0 => exact ndc_len v
              case c1 => rw [show ndc v = [.int .i64 v.kind, .int .u64 (v.set 0 : Nat), .int .u64 (v.set 1 : Nat), .int .u64 (v.set 2 : Nat), .int .u64 (v.set 3 : Nat), .slice sa sn sc, .int .i64 v.lo, .int .i64 v.hi] from HV.out.1]; exact World.news_of_block (heap_alloc_new w5 _)
              case c2 => rw [show ndc v = [.int .i64 v.kind, .int .u64 (v.set 0 : Nat), .int .u64 (v.set 1 : Nat), .int .u64 (v.set 2 : Nat), .int .u64 (v.set 3 : Nat), .slice sa sn sc, .int .i64 v.lo, .int .i64 v.hi] from HV.out.1]; simp [Value.oneCell']
              case c3 => have := HRL.out; unfold maxLen; omega
              case c4 => have := HRL.out; omega
              case c5 => have := (Array.getElem?_eq_some_iff.1 HC5.out.res).1; simp; omega
              intro g cap w7 hown7 hgrow hat _
              have hpush := HC5.out.push (t := v) ((Chg.refl _ w5).alloc _) hgrow (hat.imp id fun e => by rw [e]; simp) hown7 HV.out.2
              have HPU := Lib.hid hpush
              clear z3 hown7 hgrow hat hpush n0 n1 n2 n3 n4 n5 n6 n7 nlt
              go_wp2_with fail

              refine ⟨⟨row ++ [v], k3, p, c, HPU.out.1, .inr ⟨c, p, r3, HE.out.1, rfl, rfl, HE.out.2.1, HE.out.2.2⟩⟩, ?_⟩
              rw [rmeas_er HPU.out.1.rr HE.out.1, HM1.out]
              omega
          | ok t r3 =>
            rw [ho] at hR
            obtain ⟨v, sa, sn, sc, k3, hsl, her, ht3, rfl, h4, hl4⟩ := hR
            obtain ⟨w5, hw5⟩ : ∃ w5, w4.alloc (.cells #[.int .i64 v.kind, .int .u64 (v.set 0 : Nat), .int .u64 (v.set 1 : Nat), .int .u64 (v.set 2 : Nat), .int .u64 (v.set 3 : Nat), .slice sa sn sc, .int .i64 v.lo, .int .i64 v.hi] 28) = w5 := ⟨_, rfl⟩
            have c5 := node_new (v := v) (sa := sa) (sn := sn) (sc := sc) hw5
            have HN5 := Lib.hid c5
            have HC5 := Lib.hid ((HB.out.sf h4).keep (hw5 ▸ (Chg.refl _ w4).alloc _))
            have HLK := Lib.hid (fun t (ht : Laid w4 (AR w (.slice S rows.length cp) (.slice S2 row.length cp2)) t) => ht.chg (show Chg (fun _ => False) w4 w5 from hw5 ▸ (Chg.refl _ w4).alloc _) fun _ _ _ => id)
            have HZ := Lib.hid (show w4.heap.size + 1 = w5.heap.size by rw [← hw5]; simp)
            clear c5

            have HV := Lib.hid (And.intro (show ndc v = [.int .i64 v.kind, .int .u64 (v.set 0 : Nat), .int .u64 (v.set 1 : Nat), .int .u64 (v.set 2 : Nat), .int .u64 (v.set 3 : Nat), .slice sa sn sc, .int .i64 v.lo, .int .i64 v.hi] by unfold ndc; rw [hsl]) (And.intro (show ∃ a n c, v.v = .slice a n c from ⟨_, _, _, hsl⟩) (And.intro her (And.intro ht3 (And.intro (HLK.out v (laid_new' HB.out h4 hl4)) fun t ht => HLK.out t (laid_sf HRB.out h4 ht))))))
            have HRP := Lib.hid (rep_ok (rows := erases rows) ho (HP2.out.2.1.imp (fun h => (erases_nil_iff row).2 h) id))
            have HK3 := Lib.hid (show row.length + 1 ≤ k3 ∧ k2 < k3 by have a1 := HRP.out.2.2; have a2 := ht3.1; have a3 := HP2.out.2.2.1; have := HK2.out.2; omega)
            clear hsl her ht3 hl4 h4 ho

            obtain ⟨n0, n1, n2, n3, n4, n5, n6, n7⟩ := HN5.out.1
            have nlt := HN5.out.2
            go_wp2_with ((at_builtin; refine wpList_append_lies _ (by rfl) _ _ 26 (by rfl) (w.heap.size + 1) 28 i0 _ 8 80 Try.underlying26 hi hz0 hz1 hz2 rfl (by decide) _ row.length (flat row) (by rfl) (HC5.out.oW.alloc _) ⟨w5.heap.size, 0, none⟩ 1 1 (ndc v) (by rfl) ?c0 ?c1 ?c2 (by decide) ?c3 ?c4 ?c5 _ rfl ?_))
            case c0 => exact ndc_len v
            case c1 => rw [show ndc v = [.int .i64 v.kind, .int .u64 (v.set 0 : Nat), .int .u64 (v.set 1 : Nat), .int .u64 (v.set 2 : Nat), .int .u64 (v.set 3 : Nat), .slice sa sn sc, .int .i64 v.lo, .int .i64 v.hi] from HV.out.1]; exact World.news_of_block (heap_alloc_new w5 _)
            case c2 => rw [show ndc v = [.int .i64 v.kind, .int .u64 (v.set 0 : Nat), .int .u64 (v.set 1 : Nat), .int .u64 (v.set 2 : Nat), .int .u64 (v.set 3 : Nat), .slice sa sn sc, .int .i64 v.lo, .int .i64 v.hi] from HV.out.1]; simp [Value.oneCell']
            case c3 => have := HRL.out; unfold maxLen; omega
            case c4 => have := HRL.out; omega
            case c5 => have := (Array.getElem?_eq_some_iff.1 HC5.out.res).1; simp; omega
            intro g cap w7 hown7 hgrow hat _
            have hpush := HC5.out.push (t := v) ((Chg.refl _ w5).alloc _) hgrow (hat.imp id fun e => by rw [e]; simp) hown7 HV.out.2.1
            have HPU := Lib.hid hpush
            clear hown7 hgrow hat hpush n0 n1 n2 n3 n4 n5 n6 n7 nlt
            go_wp2_with fail

            refine ⟨⟨row ++ [v], k3, pl, 0, HPU.out.1, .inl ⟨rfl, rfl, by have := HK2.out.1; have := HK3.out.2; omega, by have := HK3.out.1; simp; omega, fun t ht => HPU.out.2 t ?_, r3, HV.out.2.2.2.1, ?_, .inr HRP.out.2.1⟩⟩, ?_⟩
            · rw [← List.append_assoc] at ht
              rcases List.mem_append.1 ht with ht | ht
              · exact HV.out.2.2.2.2.2 t (HLB.out t ht)
              · simp at ht; subst ht; exact HV.out.2.2.2.2.1
            · rw [HP2.out.1, HRP.out.1, erases_append, erases_one, HV.out.2.2.1]
            · rw [rmeas_ok HPU.out.1.rr, HM1.out]
              have a1 := HK3.out.2
              have a2 := HV.out.2.2.2.1.1
              omega
      · have z1 := hB.rr.lt
        have z2 := hB.rr.err
        have z3 := beq_c hc
        have HE := Lib.hid (And.intro hc (And.intro ht2 hP2))
        have HCZ := HB
        clear hc ht2 hP2 HB
        have HRW := Lib.hid (show rows.length ≤ 1000 by have a1 := HO.out.1; have a2 := HO.out.2.1; have a3 := HO.out.2.2.2.1.1; have := HT.out.2; omega)
        go_wp2_with fail
        clear hB z1 z2 z3
        go_at_call 33
        refine (several_any _ (w.heap.size + 1) 2 (.slice S2 row.length cp2) row HCZ.out.oW HCZ.out.slW).mono ?_
        rintro x w6 ⟨rfl, hb6⟩
        have HC6 := Lib.hid (HCZ.out.keep (Chg.of_below hb6)).drop
        obtain ⟨J, hJ⟩ : ∃ J, joinV 2 (.slice S2 row.length cp2) row = J := ⟨_, rfl⟩
        obtain ⟨ja, jn, jc, hJs⟩ : ∃ a n c, J.v = .slice a n c := hJ ▸ joinV_slice 2 ⟨_, _, _, rfl⟩ HCZ.out.slW
        have hag : nodeAgg J = .agg #[.int .i64 J.kind, .int .u64 (J.set 0 : Nat), .int .u64 (J.set 1 : Nat), .int .u64 (J.set 2 : Nat), .int .u64 (J.set 3 : Nat), .slice ja jn jc, .int .i64 J.lo, .int .i64 J.hi] := by unfold nodeAgg; rw [hJs]
        have HJ := Lib.hid (And.intro (show ndc J = [.int .i64 J.kind, .int .u64 (J.set 0 : Nat), .int .u64 (J.set 1 : Nat), .int .u64 (J.set 2 : Nat), .int .u64 (J.set 3 : Nat), .slice ja jn jc, .int .i64 J.lo, .int .i64 J.hi] by unfold ndc; rw [hJs]) (And.intro (show ∃ a n c, J.v = .slice a n c from ⟨_, _, _, hJs⟩) (show erase J = joinT 2 (erases row) from hJ ▸ erase_join 2 _ row)))
        rw [hJ]
        rw [hag]
        clear hJ hag hJs hb6 HCZ
        go_wp2_with ((at_builtin; refine wpList_append_lies _ (by rfl) _ _ 26 (by rfl) (w.heap.size + 1) 28 i0 _ 8 80 Try.underlying26 hi hz0 hz1 hz2 rfl (by decide) _ rows.length (flat rows) (by rfl) (HC6.out.oR.alloc _) ⟨w6.heap.size, 0, none⟩ 1 1 (ndc J) (by rfl) ?c0 ?c1 ?c2 (by decide) ?c3 ?c4 ?c5 _ rfl ?_))
        case c0 => exact ndc_len J
        case c1 => rw [HJ.out.1]; exact World.news_of_block (heap_alloc_new w6 _)
        case c2 => rw [HJ.out.1]; simp [Value.oneCell']
        case c3 => have := HRW.out; unfold maxLen; omega
        case c4 => have := HRW.out; omega
        case c5 => have := (Array.getElem?_eq_some_iff.1 HC6.out.res).1; simp; omega
        intro g cap w7 hown7 hgrow hat _
        have hpush := HC6.out.pushR (t := J) ((Chg.refl _ w6).alloc _) hgrow (hat.imp id fun e => by rw [e]; simp) hown7 HJ.out.2.1
        have HPU := Lib.hid hpush
        clear hown7 hgrow hat hpush

        have HE0 := Lib.hid (show ¬ (c : Int) = 0 by have := HE.out.1; omega)
        go_wp2_with fail
        go_at_call 34
        refine (takeR_bad _ rb _ 124 s _ _ HPU.out.1.rr HE0.out (by decide)).mono ?_

        rintro x w8 ⟨rfl, h8⟩
        have HC8 := Lib.hid (HPU.out.1.sf h8)
        clear h8
        go_wp2_with fail
        go_at_call 33
        refine (several_any _ (w.heap.size + 1) 3 (.slice (some ⟨g, 0, none⟩) (rows.length + 1) cap) (rows ++ [J]) HC8.out.oR HC8.out.slR).mono ?_
        rintro x w9 ⟨rfl, hb9⟩
        have HC9 := Lib.hid (HC8.out.keep (Chg.of_below hb9))
        obtain ⟨K, hK⟩ : ∃ K, joinV 3 (.slice (some ⟨g, 0, none⟩) (rows.length + 1) cap) (rows ++ [J]) = K := ⟨_, rfl⟩
        obtain ⟨ka, kn, kc, hKs⟩ : ∃ a n c, K.v = .slice a n c := hK ▸ joinV_slice 3 ⟨_, _, _, rfl⟩ HC8.out.slR
        have hag : nodeAgg K = .agg #[.int .i64 K.kind, .int .u64 (K.set 0 : Nat), .int .u64 (K.set 1 : Nat), .int .u64 (K.set 2 : Nat), .int .u64 (K.set 3 : Nat), .slice ka kn kc, .int .i64 K.lo, .int .i64 K.hi] := by unfold nodeAgg; rw [hKs]
        have HK := Lib.hid (And.intro hKs (show erase K = joinT 3 (erases (rows ++ [J])) from hK ▸ erase_join 3 _ _))
        rw [hK]
        rw [hag]
        clear hK hag hKs hb9
        have hres := HC9.out.res
        obtain ⟨⟨q0, q1, q2, q3⟩, ⟨q4, q5, q6, q7⟩, qf⟩ := res_cells hres
        have f0 := qf 0
        have f1 := qf 1
        have f2 := qf 2
        have f3 := qf 3
        have f4 := qf 4
        have f5 := qf 5
        have f6 := qf 6
        have f7 := qf 7
        clear hres qf
        go_wp2_with fail
        refine bodyPost_ret (v := .agg #[.int .i64 K.kind, .int .u64 (K.set 0 : Nat), .int .u64 (K.set 1 : Nat), .int .u64 (K.set 2 : Nat), .int .u64 (K.set 3 : Nat), .slice ka kn kc, .int .i64 K.lo, .int .i64 K.hi]) (by simp [results, Try.results24, go_sem, q0, q1, q2, q3, q4, q5, q6, q7]) rfl ?_
        rw [HE.out.2.2]
        exact ⟨HE.out.1, K, ka, kn, kc, k2, p, HK.out.1, HE.out.2.1, rfl, sf_store8 ⟨HC9.out.rr, HC9.out.chg⟩ HNE.out _ _ _ _ _ _ _ _⟩

theorem altR_len (rb : Nat) (s : ByteArray) (pl : Int) (hs : s.size ≤ 1000) : ∀ (n : Nat) (w : World) (k : Nat) (r : List Nat), r.length ≤ n → Rr w rb s k pl 0 → Tl s k r → Calls Try.prog 24 #[.pointer (some ⟨rb, 0, none⟩)] w (Alr (pgrp ⟨[], []⟩ [] r) s w rb pl)
  | 0, w, k, r, hn, h, ht => altR_step w rb k r s pl h ht hs fun _ _ _ hr _ _ => absurd hr (by omega)
  | n + 1, w, k, r, hn, h, ht => altR_step w rb k r s pl h ht hs fun w' k' r' hr h' ht' => altR_len rb s pl hs n w' k' r' (by omega) h' ht'
/-- Rows with | between, whatever comes. -/
theorem altR_any (w : World) (rb k : Nat) (r : List Nat) (s : ByteArray) (pl : Int) (h : Rr w rb s k pl 0) (ht : Tl s k r) (hs : s.size ≤ 1000) :
    Calls Try.prog 24 #[.pointer (some ⟨rb, 0, none⟩)] w (Alr (pgrp ⟨[], []⟩ [] r) s w rb pl) := altR_len rb s pl hs r.length w k r (Nat.le_refl _) h ht

end Go.Proofs.Ytbodgadbhldbmaa

/- The document's own reader: what it tells of a text: a contract.
   No condition: of a text of more than 400 bytes a limit is told. -/
namespace Go.Proofs.Ytbodgadbhldbmaa
open Go.RowKit

set_option maxHeartbeats 1000000 in
set_option maxRecDepth 100000 in
theorem parseR_long (s : ByteArray) (w : World) (h : 400 < s.size) : Calls Try.prog 14 #[.string s] w (Parsed s w) := by
  have h1 : (400 : Int) < (s.size : Int) := by omega
  have HP := Lib.hid (pparse_long (L := txt s) (by rw [txt_length]; exact h))
  go_enter Try.func14, Try.ntmps14
  go_wp2_with fail
  refine bodyPost_ret (v := .tuple #[.agg #[.int .i64 0, .int .u64 0, .int .u64 0, .int .u64 0, .int .u64 0, .slice none 0 0, .int .i64 0, .int .i64 0], .int .i64 (0 : Nat), .int .i64 (3 : Nat)]) (by simp [results, Try.results14, go_sem]) rfl (parsed_zero HP.out ?_)
  exact (Below.refl _ _).alloc (Nat.le_refl _) _

set_option maxHeartbeats 8000000 in
set_option maxRecDepth 100000 in
theorem parseR_short (s : ByteArray) (w : World) (h : s.size ≤ 400) : Calls Try.prog 14 #[.string s] w (Parsed s w) := by
  have h1 : ¬ (400 : Int) < (s.size : Int) := by omega
  have hL : ¬ 400 < (txt s).length := by rw [txt_length]; omega
  have e0 := heap_alloc_new w (.cells zcells 28)
  have e1 := heap_alloc_new (w.alloc (.cells zcells 28)) (.cells #[.string s, .int .i64 0, .int .i64 0, .int .i64 0] 51)
  have hc0 : Chg (fun _ => False) w ((w.alloc (.cells zcells 28)).alloc (.cells #[.string s, .int .i64 0, .int .i64 0, .int .i64 0] 51)) := ((Chg.refl _ w).alloc _).alloc _
  have e2 : ((w.alloc (.cells zcells 28)).alloc (.cells #[.string s, .int .i64 0, .int .i64 0, .int .i64 0] 51)).heap[w.heap.size]? = some (.cells zcells 28 (0, 0)) := (Below.heap_alloc _ _ _ (by simp)).trans e0
  rw [World.size_alloc] at e1
  have hz : ((w.alloc (.cells zcells 28)).alloc (.cells #[.string s, .int .i64 0, .int .i64 0, .int .i64 0] 51)).heap.size = w.heap.size + 2 := by simp
  go_enter Try.func14, Try.ntmps14
  go_wp2_with fail
  generalize ((w.alloc (.cells zcells 28)).alloc (.cells #[.string s, .int .i64 0, .int .i64 0, .int .i64 0] 51)) = w0 at *
  obtain ⟨q1, q2⟩ := row_cells e1
  have hrd : Rr w0 (w.heap.size + 1) s 0 0 0 := ⟨by omega, q1 0, q1 1, q1 2, q1 3, q2⟩
  have HRD := Lib.hid hrd
  have HE := Lib.hid e2
  have HC := Lib.hid hc0
  have HZ := Lib.hid hz
  clear e0 e1 e2 hc0 hz q1 q2 hrd
  go_at_call 24
  refine (altR_any w0 (w.heap.size + 1) 0 (txt s) s 0 HRD.out (Tl.start s) (by omega)).mono ?_
  intro e w1 hR
  have hrun := pgrp_run _ ⟨[], []⟩ [] (txt s) (Nat.le_refl _)
  cases hx : pgrp ⟨[], []⟩ [] (txt s) with
  | er r c =>
    rw [hx] at hR hrun
    have HP := Lib.hid (pparse_er hL hrun)
    clear hx hrun
    obtain ⟨hc, v, sa, sn, sc, k, p, hsl, ht, rfl, hS⟩ := hR
    have hres := (hS.2.block w.heap.size (by have := HZ.out; omega) (by show ¬ w.heap.size = w.heap.size + 1; omega)).trans HE.out
    obtain ⟨⟨r0, r1, r2, r3⟩, ⟨r4, r5, r6, r7⟩, rf⟩ := res_cells hres
    have p0 := hS.1.text
    have p1 := hS.1.pos
    have p2 := hS.1.plc
    have p3 := hS.1.err
    have hsz1 : w.heap.size < w1.heap.size := (Array.getElem?_eq_some_iff.1 hres).1
    have hsz2 : w.heap.size + 1 < w1.heap.size := hS.1.lt

    have HF := Lib.hid (And.intro hS.2 ht.1)
    clear hS ht hres hsl
    rcases hc with rfl | rfl
    · go_wp2_with fail
      go_region_law (fail)
      all_goals
        go_wp2_with fail
        refine bodyPost_ret (v := .tuple #[.agg #[.int .i64 0, .int .u64 0, .int .u64 0, .int .u64 0, .int .u64 0, .slice none 0 0, .int .i64 0, .int .i64 0], .int .i64 (p : Nat), .int .i64 (2 : Nat)]) (by simp [results, Try.results14, go_sem, r0, r1, r2, r3, r4, r5, r6, r7, hsz1]) rfl (parsed_zero (at' := p) (by rw [HP.out, txt_length]; rw [show s.size - r.length = p by have := HF.out.2; omega]) ?_)
        exact chg_below ((store8_chg (R := fun b => w.heap.size ≤ b) ((HC.out.mono (R' := fun b => w.heap.size ≤ b) (fun _ _ h => h.elim)).trans HF.out.1 (fun x _ e => by have e : x = w.heap.size + 1 := e; omega)) (g := w.heap.size) (fun _ => Nat.le_refl _) 0 _ _ _ _ _ _ _ _).alloc _).drew (fun k hk h => by omega)
    · go_wp2_with fail
      go_region_law (fail)
      all_goals
        go_wp2_with fail
        refine bodyPost_ret (v := .tuple #[.agg #[.int .i64 0, .int .u64 0, .int .u64 0, .int .u64 0, .int .u64 0, .slice none 0 0, .int .i64 0, .int .i64 0], .int .i64 (p : Nat), .int .i64 (3 : Nat)]) (by simp [results, Try.results14, go_sem, r0, r1, r2, r3, r4, r5, r6, r7, hsz1]) rfl (parsed_zero (at' := p) (by rw [HP.out, txt_length]; rw [show s.size - r.length = p by have := HF.out.2; omega]) ?_)
        exact chg_below ((store8_chg (R := fun b => w.heap.size ≤ b) ((HC.out.mono (R' := fun b => w.heap.size ≤ b) (fun _ _ h => h.elim)).trans HF.out.1 (fun x _ e => by have e : x = w.heap.size + 1 := e; omega)) (g := w.heap.size) (fun _ => Nat.le_refl _) 0 _ _ _ _ _ _ _ _).alloc _).drew (fun k hk h => by omega)
  | ok g r =>
    cases r with
    | cons b r =>
      rw [hx] at hR hrun
      have HP := Lib.hid (pparse_er hL hrun)
      clear hx hrun
      obtain ⟨v, sa, sn, sc, k, hsl, her, ht, rfl, hS, hlv⟩ := hR
      have hres := (hS.2.block w.heap.size (by have := HZ.out; omega) (by show ¬ w.heap.size = w.heap.size + 1; omega)).trans HE.out
      obtain ⟨⟨r0, r1, r2, r3⟩, ⟨r4, r5, r6, r7⟩, rf⟩ := res_cells hres
      have p0 := hS.1.text
      have p1 := hS.1.pos
      have p2 := hS.1.plc
      have p3 := hS.1.err
      have hsz1 : w.heap.size < w1.heap.size := (Array.getElem?_eq_some_iff.1 hres).1
      have hsz2 : w.heap.size + 1 < w1.heap.size := hS.1.lt

      have g1 : (k : Int) < (s.size : Int) := by have := ht.lt; omega
      have HS := Lib.hid hS
      have HK := Lib.hid ht.1
      clear hS ht hres hsl her hlv
      go_wp2_with fail
      go_at_call 25
      refine (failR_ok _ (w.heap.size + 1) k s 0 k 2 (HS.out.1.keep ((Chg.refl (fun _ => False) w1).alloc _) id)).mono ?_
      rintro x w2 ⟨rfl, h2⟩
      have hS := (HS.out.alloc _).trans h2
      clear r0 r1 r2 r3 r4 r5 r6 r7 rf p0 p1 p2 p3 hsz1 hsz2 HS h2
      have hres := (hS.2.block w.heap.size (by have := HZ.out; omega) (by show ¬ w.heap.size = w.heap.size + 1; omega)).trans HE.out
      obtain ⟨⟨r0, r1, r2, r3⟩, ⟨r4, r5, r6, r7⟩, rf⟩ := res_cells hres
      have p2 := hS.1.plc
      have p3 := hS.1.err
      have hsz1 : w.heap.size < w2.heap.size := (Array.getElem?_eq_some_iff.1 hres).1
      have hsz2 : w.heap.size + 1 < w2.heap.size := hS.1.lt
      have HF := Lib.hid (And.intro hS.2 HK.out)
      clear hS hres
      go_wp2_with fail

      go_region_law (fail)
      all_goals
        go_wp2_with fail
        refine bodyPost_ret (v := .tuple #[.agg #[.int .i64 0, .int .u64 0, .int .u64 0, .int .u64 0, .int .u64 0, .slice none 0 0, .int .i64 0, .int .i64 0], .int .i64 (k : Nat), .int .i64 (2 : Nat)]) (by simp [results, Try.results14, go_sem, r0, r1, r2, r3, r4, r5, r6, r7]) rfl (parsed_zero (at' := k) (by rw [HP.out, txt_length]; rw [show s.size - (b :: r).length = k by have := HF.out.2; omega]) ?_)
        exact chg_below ((store8_chg (R := fun b => w.heap.size ≤ b) ((HC.out.mono (R' := fun b => w.heap.size ≤ b) (fun _ _ h => h.elim)).trans HF.out.1 (fun x _ e => by have e : x = w.heap.size + 1 := e; omega)) (g := w.heap.size) (fun _ => Nat.le_refl _) 0 _ _ _ _ _ _ _ _)).drew (fun k hk h => by omega)
    | nil =>
      rw [hx] at hR hrun
      have hsz := sz_all hrun
      rw [txt_length] at hsz
      have HP := Lib.hid (pparse_ok hL hrun)
      clear hx hrun
      obtain ⟨v, sa, sn, sc, k, hsl, htr, ht, rfl, hS, hl⟩ := hR
      have hk := ht.nil
      subst hk
      have hdp : dptV v = dptT (shutT g) := by rw [dpt_erase, htr]
      have hpl : plcV v = plcT (shutT g) := by rw [plc_erase, htr]

      have hres := (hS.2.block w.heap.size (by have := HZ.out; omega) (by show ¬ w.heap.size = w.heap.size + 1; omega)).trans HE.out
      obtain ⟨⟨r0, r1, r2, r3⟩, ⟨r4, r5, r6, r7⟩, rf⟩ := res_cells hres
      have p0 := hS.1.text
      have p1 := hS.1.pos
      have p2 := hS.1.plc
      have p3 := hS.1.err
      have hsz1 : w.heap.size < w1.heap.size := (Array.getElem?_eq_some_iff.1 hres).1
      have hsz2 : w.heap.size + 1 < w1.heap.size := hS.1.lt

      have hnew := heap_alloc_new w1 (.cells #[.int .i64 v.kind, .int .u64 (v.set 0 : Nat), .int .u64 (v.set 1 : Nat), .int .u64 (v.set 2 : Nat), .int .u64 (v.set 3 : Nat), .slice sa sn sc, .int .i64 v.lo, .int .i64 v.hi] 28)
      have hcw1 : Chg (fun b => w.heap.size ≤ b) w w1 := (HC.out.mono (R' := fun b => w.heap.size ≤ b) (fun _ _ h => h.elim)).trans hS.2 (fun x _ e => by have e : x = w.heap.size + 1 := e; omega)
      have hl2 : Laid (w1.alloc (.cells #[.int .i64 v.kind, .int .u64 (v.set 0 : Nat), .int .u64 (v.set 1 : Nat), .int .u64 (v.set 2 : Nat), .int .u64 (v.set 3 : Nat), .slice sa sn sc, .int .i64 v.lo, .int .i64 v.hi] 28)) (fun b => w0.heap.size ≤ b) v := hl.chg ((Chg.refl (fun _ => False) w1).alloc _) (fun _ _ _ h => h)
      have hres2 := (Below.heap_alloc w1 (.cells #[.int .i64 v.kind, .int .u64 (v.set 0 : Nat), .int .u64 (v.set 1 : Nat), .int .u64 (v.set 2 : Nat), .int .u64 (v.set 3 : Nat), .slice sa sn sc, .int .i64 v.lo, .int .i64 v.hi] 28) w.heap.size hsz1).trans hres
      have hcw := hcw1.alloc (.cells #[.int .i64 v.kind, .int .u64 (v.set 0 : Nat), .int .u64 (v.set 1 : Nat), .int .u64 (v.set 2 : Nat), .int .u64 (v.set 3 : Nat), .slice sa sn sc, .int .i64 v.lo, .int .i64 v.hi] 28)
      have hlt1 : w1.heap.size < (w1.alloc (.cells #[.int .i64 v.kind, .int .u64 (v.set 0 : Nat), .int .u64 (v.set 1 : Nat), .int .u64 (v.set 2 : Nat), .int .u64 (v.set 3 : Nat), .slice sa sn sc, .int .i64 v.lo, .int .i64 v.hi] 28)).heap.size := by simp
      have HDEP := Lib.hid (fun (w3 : World) (hl3 : Laid w3 (fun b => w0.heap.size ≤ b) v) => (by
        have := depth_ref 1000000 (Nat.le_refl _) v w3 _ (by rw [htr]; omega) hl3
        simp only [nodeAgg, hsl, htr] at this
        exact this : Calls Try.prog 20 #[.agg #[.int .i64 v.kind, .int .u64 (v.set 0 : Nat), .int .u64 (v.set 1 : Nat), .int .u64 (v.set 2 : Nat), .int .u64 (v.set 3 : Nat), .slice sa sn sc, .int .i64 v.lo, .int .i64 v.hi]] w3 fun e w' => e = .returned (.int .i64 (dptT (shutT g) : Nat)) ∧ Below w3.heap.size w3 w'))
      have HPLC := Lib.hid (fun (w3 : World) (hl3 : Laid w3 (fun b => w0.heap.size ≤ b) v) => (by
        have := places_ref 1000000 (Nat.le_refl _) v w3 _ (by rw [htr]; omega) hl3
        simp only [nodeAgg, hsl, htr] at this
        exact this : Calls Try.prog 21 #[.agg #[.int .i64 v.kind, .int .u64 (v.set 0 : Nat), .int .u64 (v.set 1 : Nat), .int .u64 (v.set 2 : Nat), .int .u64 (v.set 3 : Nat), .slice sa sn sc, .int .i64 v.lo, .int .i64 v.hi]] w3 fun e w' => e = .returned (.int .i64 (plcT (shutT g) : Nat)) ∧ Below w3.heap.size w3 w'))
      have HX := Lib.hid (And.intro hsl (And.intro htr (And.intro hl2 (And.intro hres2 (And.intro hcw (And.intro hnew hlt1))))))
      have HS := Lib.hid hS
      clear hl hS hres hnew hl2 hres2 hcw hcw1 hsz htr hsl hlt1 ht hdp hpl
      go_wp2_with fail
      go_at_call 20
      refine (HDEP.out _ HX.out.2.2.1).mono ?_
      clear HDEP
      rintro e w2 ⟨rfl, hb2⟩
      have hn2 := (hb2.block _ HX.out.2.2.2.2.2.2).trans HX.out.2.2.2.2.2.1
      have hr2 := (hb2.block w.heap.size (by simp; omega)).trans HX.out.2.2.2.1
      have hl3 : Laid w2 (fun b => w0.heap.size ≤ b) v := HX.out.2.2.1.chg (Chg.of_below (R := fun _ => False) hb2) (fun _ _ _ h => h)
      have hc2 : Chg (fun b => w.heap.size ≤ b) w w2 := HX.out.2.2.2.2.1.trans (Chg.of_below (R := fun _ => False) hb2) (fun _ _ h => h.elim)
      clear r0 r1 r2 r3 r4 r5 r6 r7 rf p0 p1 p2 p3
      obtain ⟨⟨r0, r1, r2, r3⟩, ⟨r4, r5, r6, r7⟩, rf⟩ := res_cells hr2
      obtain ⟨n1, n2⟩ := row_cells hn2
      have n10 : w2.cell? ⟨w1.heap.size, 0, none⟩ = some (.int .i64 v.kind) := n1 0
      have n11 : w2.cell? ⟨w1.heap.size, 1, none⟩ = some (.int .u64 (v.set 0 : Nat)) := n1 1
      have n12 : w2.cell? ⟨w1.heap.size, 2, none⟩ = some (.int .u64 (v.set 1 : Nat)) := n1 2
      have n13 : w2.cell? ⟨w1.heap.size, 3, none⟩ = some (.int .u64 (v.set 2 : Nat)) := n1 3
      have n14 : w2.cell? ⟨w1.heap.size, 4, none⟩ = some (.int .u64 (v.set 3 : Nat)) := n1 4
      have n15 : w2.cell? ⟨w1.heap.size, 5, none⟩ = some (.slice sa sn sc) := n1 5
      have n16 : w2.cell? ⟨w1.heap.size, 6, none⟩ = some (.int .i64 v.lo) := n1 6
      have n17 : w2.cell? ⟨w1.heap.size, 7, none⟩ = some (.int .i64 v.hi) := n1 7
      have H2 := Lib.hid (And.intro hl3 (And.intro hc2 (And.intro hr2 hn2)))
      clear hl3 hc2 hr2 hn2 hb2 n1
      by_cases hA : 20 < dptT (shutT g)
      · have g1 : (20 : Int) < (dptT (shutT g) : Int) := by omega
        have HA := Lib.hid hA
        clear hA
        go_wp2_with fail
        refine bodyPost_ret (v := .tuple #[.agg #[.int .i64 0, .int .u64 0, .int .u64 0, .int .u64 0, .int .u64 0, .slice none 0 0, .int .i64 0, .int .i64 0], .int .i64 (0 : Nat), .int .i64 (3 : Nat)]) (by simp [results, Try.results14, go_sem, r0, r1, r2, r3, r4, r5, r6, r7]) rfl (parsed_zero (by rw [HP.out, if_pos (.inl HA.out)]) ?_)
        exact chg_below (store8_chg (R := fun b => w.heap.size ≤ b) H2.out.2.1 (g := w.heap.size) (fun _ => Nat.le_refl _) 0 _ _ _ _ _ _ _ _) (fun k hk h => by omega)
      · have g1 : ¬ (20 : Int) < (dptT (shutT g) : Int) := by omega
        have HA := Lib.hid hA
        clear hA
        go_wp2_with fail
        go_at_call 21
        refine (HPLC.out _ H2.out.1).mono ?_
        rintro e w3 ⟨rfl, hb3⟩
        have hsz5 : w.heap.size < w2.heap.size := (Array.getElem?_eq_some_iff.1 H2.out.2.2.1).1
        have hsz6 : w1.heap.size < w2.heap.size := (Array.getElem?_eq_some_iff.1 H2.out.2.2.2).1
        have hr3 := (hb3.block _ hsz5).trans H2.out.2.2.1
        have hn3 := (hb3.block _ hsz6).trans H2.out.2.2.2
        have hl4 : Laid w3 (fun b => w0.heap.size ≤ b) v := H2.out.1.chg (Chg.of_below (R := fun _ => False) hb3) (fun _ _ _ h => h)
        have hc3 : Chg (fun b => w.heap.size ≤ b) w w3 := H2.out.2.1.trans (Chg.of_below (R := fun _ => False) hb3) (fun _ _ h => h.elim)
        clear r0 r1 r2 r3 r4 r5 r6 r7 rf n10 n11 n12 n13 n14 n15 n16 n17 n2
        obtain ⟨⟨r0, r1, r2, r3⟩, ⟨r4, r5, r6, r7⟩, rf⟩ := res_cells hr3
        obtain ⟨n1, n2⟩ := row_cells hn3
        have n10 : w3.cell? ⟨w1.heap.size, 0, none⟩ = some (.int .i64 v.kind) := n1 0
        have n11 : w3.cell? ⟨w1.heap.size, 1, none⟩ = some (.int .u64 (v.set 0 : Nat)) := n1 1
        have n12 : w3.cell? ⟨w1.heap.size, 2, none⟩ = some (.int .u64 (v.set 1 : Nat)) := n1 2
        have n13 : w3.cell? ⟨w1.heap.size, 3, none⟩ = some (.int .u64 (v.set 2 : Nat)) := n1 3
        have n14 : w3.cell? ⟨w1.heap.size, 4, none⟩ = some (.int .u64 (v.set 3 : Nat)) := n1 4
        have n15 : w3.cell? ⟨w1.heap.size, 5, none⟩ = some (.slice sa sn sc) := n1 5
        have n16 : w3.cell? ⟨w1.heap.size, 6, none⟩ = some (.int .i64 v.lo) := n1 6
        have n17 : w3.cell? ⟨w1.heap.size, 7, none⟩ = some (.int .i64 v.hi) := n1 7
        have H3 := Lib.hid (And.intro hl4 hc3)
        clear hl4 hc3 hr3 hn3 hb3 n1
        by_cases hB : 40 < plcT (shutT g)
        · have g2 : (40 : Int) < (plcT (shutT g) : Int) := by omega
          have HB := Lib.hid hB
          clear hB
          go_wp2_with fail
          refine bodyPost_ret (v := .tuple #[.agg #[.int .i64 0, .int .u64 0, .int .u64 0, .int .u64 0, .int .u64 0, .slice none 0 0, .int .i64 0, .int .i64 0], .int .i64 (0 : Nat), .int .i64 (3 : Nat)]) (by simp [results, Try.results14, go_sem, r0, r1, r2, r3, r4, r5, r6, r7]) rfl (parsed_zero (by rw [HP.out, if_pos (.inr HB.out)]) ?_)
          exact chg_below (store8_chg (R := fun b => w.heap.size ≤ b) H3.out.2 (g := w.heap.size) (fun _ => Nat.le_refl _) 0 _ _ _ _ _ _ _ _) (fun k hk h => by omega)
        · have g2 : ¬ (40 : Int) < (plcT (shutT g) : Int) := by omega
          have HB := Lib.hid hB
          clear hB
          go_wp2_with fail
          refine bodyPost_ret (v := .tuple #[.agg #[.int .i64 v.kind, .int .u64 (v.set 0 : Nat), .int .u64 (v.set 1 : Nat), .int .u64 (v.set 2 : Nat), .int .u64 (v.set 3 : Nat), .slice sa sn sc, .int .i64 v.lo, .int .i64 v.hi], .int .i64 (0 : Nat), .int .i64 (0 : Nat)]) (by simp [results, Try.results14, go_sem, r0, r1, r2, r3, r4, r5, r6, r7]) rfl ?_
          have hP := HP.out
          rw [if_neg (fun h => h.elim HA.out HB.out)] at hP
          have hst := fun (R : Nat → Prop) (a : World) (h : Chg R a w3) (hg : w.heap.size < a.heap.size → R w.heap.size) => store8_chg h (g := w.heap.size) hg 0 (.int .i64 v.kind) (.int .u64 (v.set 0 : Nat)) (.int .u64 (v.set 1 : Nat)) (.int .u64 (v.set 2 : Nat)) (.int .u64 (v.set 3 : Nat)) (.slice sa sn sc) (.int .i64 v.lo) (.int .i64 v.hi)
          refine ⟨v, sa, sn, sc, HX.out.1, by rw [hP], by rw [hP]; exact HX.out.2.1, ?_, chg_below (hst _ _ H3.out.2 (fun _ => Nat.le_refl _)) (fun k hk h => by omega)⟩
          exact H3.out.1.keep (fun b _ hb => by have := HZ.out; omega) (hst (fun b => b = w.heap.size) w3 (Chg.refl _ _) (fun _ => rfl)).size fun b hb hb2 => (hst (fun b => b = w.heap.size) w3 (Chg.refl _ _) (fun _ => rfl)).block b hb (by have := HZ.out; omega)

theorem parseR_any (s : ByteArray) (w : World) : Calls Try.prog 14 #[.string s] w (Parsed s w) := by
  by_cases h : s.size ≤ 400
  · exact parseR_short s w h
  · exact parseR_long s w (by omega)

end Go.Proofs.Ytbodgadbhldbmaa
