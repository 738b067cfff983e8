/- What one step of the reader comes to: a contract.
   Conditions: the memory is as 'Mem' says, and rows have at most 1000 parts. -/
import Derived.Test.YtpibkalbnjgpaaaDoorRep
import Derived.Test.YtpibkalbnjgpaaaDoorPush
namespace Go.Proofs.YtpibkalbnjgpaaaDoor
open Go.RowKit

theorem Mem.af_alloc {w : World} {base rb k ob cap : Nat} {s : ByteArray} {gs : List Grp} (h : Mem w base rb s k gs ob cap) (o : Obj) : Mem (w.alloc o) base rb s k gs ob cap := h.chg ((Chg.refl _ _).alloc o) (h.rd.keep ((Chg.refl (fun _ => False) _).alloc o) fun h => h)
theorem Mem.drew {w : World} {base rb k ob cap : Nat} {s : ByteArray} {gs : List Grp} (h : Mem w base rb s k gs ob cap) : Mem w.drew base rb s k gs ob cap := h.chg (Chg.refl _ _).drew (h.rd.keep (Chg.refl (fun _ => False) _).drew fun h => h)
theorem Mem.next {w : World} {base rb k ob cap : Nat} {s : ByteArray} {gs : List Grp} (h : Mem w base rb s k gs ob cap) : Mem (w.setCell ⟨rb, 1, none⟩ (.int .i64 ((k : Int) + 1))) base rb s (k + 1) gs ob cap ∧ Bel base rb w (w.setCell ⟨rb, 1, none⟩ (.int .i64 ((k : Int) + 1))) := by
  have ha := (Af.refl h.rd).step (k + 1) (v := .int .i64 ((k : Int) + 1)) (by go_num)
  exact ⟨h.af ha, h.af_below ha⟩
theorem one_nils : ∀ u ∈ [Value.slice none 0 0, Value.slice none 0 0], u.oneCell' = true := by
  intro u hu
  simp at hu
  subst hu
  rfl

set_option maxHeartbeats 2000000 in
set_option maxRecDepth 100000 in
theorem step_open {w : World} {base rb k ob cap : Nat} {s : ByteArray} {fr : List Grp} {g : Grp} {r : List Nat} (h : Mem w base rb s k (fr ++ [g]) ob cap) (ht : Tl s k (40 :: r)) (hs : s.size ≤ maxLen) (hm : fr.length ≤ 1000) :
    Calls Tryd.prog 38 #[.pointer (some ⟨rb, 0, none⟩), .int .u8 40] w (Stepped (pstep g.er (fr.map Grp.er).reverse (40 :: r)) w base rb s) := by
  unfold maxLen at hs
  have hlen : (fr ++ [g]).length = fr.length + 1 := by simp
  have hlt := ht.lt
  have hp1 := h.rd.opn
  have hp2 := h.rd.pos
  have hp3 := h.rd.frz 1
  have hp4 := h.rd.frz 2
  have hrb := h.rd.lt
  have hbl := h.base_le
  have hown := h.stk
  have hgl := gcells_length (fr ++ [g])
  obtain ⟨i0, hi, hz0, hz1, hz2⟩ := info_parts info78
  rw [hlen] at hp1
  have HH := Lib.hid h
  have HT := Lib.hid ht.tail
  have HL := Lib.hid hlen
  have HO := Lib.hid hown
  clear h hown hlen
  generalize hcc : gcells (fr ++ [g]) = cc at *
  have HCC := Lib.hid hcc
  clear hcc
  go_enter Tryd.func38, Tryd.ntmps38
  go_wp2_with ((at_builtin; refine wpList_append_lies _ (by rfl) _ _ 61 (by rfl) base 78 i0 _ 2 48 Tryd.underlying61 hi hz0 hz1 hz2 rfl (by decide) _ (fr.length + 1) cc (by rfl) (by rw [← HL.out]; exact HO.out.alloc _) ⟨w.heap.size, 0, none⟩ 1 1 [.slice none 0 0, .slice none 0 0] (by rfl) rfl ?c1 one_nils (by decide) ?c3 ?c4 ?c5 _ rfl ?_))
  case c1 => exact World.news_of_block (heap_alloc_new w _)
  case c3 => unfold maxLen; omega
  case c4 => omega
  case c5 => simp; omega
  intro g2 cap2 w2 hown2 hgrow hor hlt2
  have hpm := push_mem HH.out ((Chg.refl _ _).alloc _) (g2 := g2) (by rw [HL.out, HCC.out]; exact hown2) hgrow (hor.imp id fun e => by rw [e]; simp)
  rw [HL.out] at hpm
  have hb2 : w2.cell? ⟨rb, 2, none⟩ = some (.slice (some ⟨ob, 0, none⟩) (fr.length + 1) cap) := by
    have e1 := hgrow.block rb (by simp; omega) (by
      have := HH.out.nd
      unfold live at this
      simp only [List.nodup_cons, List.mem_cons, not_or] at this
      intro e
      injection e with e
      exact this.1.1 e)
    exact (World.cell?_of_block (w := w.alloc _) e1).trans (((Chg.refl (fun _ => False) w).alloc _).cell 2 hrb (fun h => h) |>.trans hp1)
  have hf2 : ∀ j, w2.frozen? ⟨rb, j, none⟩ = false := by
    intro j
    have e1 := hgrow.block rb (by simp; omega) (by
      have := HH.out.nd
      unfold live at this
      simp only [List.nodup_cons, List.mem_cons, not_or] at this
      intro e
      injection e with e
      exact this.1.1 e)
    exact (World.frozen?_of_block (w := w.alloc _) e1).trans (((Chg.refl (fun _ => False) w).alloc _).frozen j hrb (fun h => h) |>.trans (HH.out.rd.frz j))
  have hb1 : w2.cell? ⟨rb, 1, none⟩ = some (.int .i64 k) := by
    have e1 := hpm.1.rd.pos
    rwa [World.cell?_setCell_other (h := addr_ne (.inr (by decide)))] at e1
  have HPM := Lib.hid hpm
  clear hpm hown2 hgrow hor hp1 hp2
  go_wp2_with fail
  go_ret
  obtain ⟨hM, hB⟩ := HPM.out
  obtain ⟨hM2, hB2⟩ := hM.next
  refine ⟨rfl, hB.trans hB2, k + 1, fr ++ [g], _, g2, cap2, hM2, HT.out, rfl, ?_⟩
  rw [List.map_append, List.reverse_append]
  rfl

set_option maxHeartbeats 2000000 in
set_option maxRecDepth 100000 in
theorem step_bar {w : World} {base rb k ob cap : Nat} {s : ByteArray} {fr : List Grp} {g : Grp} {r : List Nat} (h : Mem w base rb s k (fr ++ [g]) ob cap) (ht : Tl s k (124 :: r)) (hs : s.size ≤ maxLen) (hm : fr.length ≤ 1000) (hn : g.rows.length ≤ 1000) :
    Calls Tryd.prog 38 #[.pointer (some ⟨rb, 0, none⟩), .int .u8 124] w (Stepped (pstep g.er (fr.map Grp.er).reverse (124 :: r)) w base rb s) := by
  unfold maxLen at hs
  have hlen : (fr ++ [g]).length = fr.length + 1 := by simp
  have hlt := ht.lt
  have hrd := h.rd
  rw [hlen] at hrd
  have HH := Lib.hid h
  have HT := Lib.hid ht.tail
  have HL := Lib.hid hlen
  have HR := Lib.hid hrd
  clear h hlen hrd
  go_enter Tryd.func38, Tryd.ntmps38
  go_wp2_with fail
  go_at_call 49
  refine (inner_any _ rb k ob fr.length cap s HR.out hm).mono ?_
  rintro e w1 ⟨rfl, hA1⟩
  rw [← HL.out] at hA1
  have hM1 := Lib.hid (HH.out.af hA1)
  have hB1 := Lib.hid (HH.out.af_below hA1)
  clear hA1
  go_wp2_with fail
  go_at_call 50
  refine (rowEnd_mem hM1.out hn).mono ?_
  rintro e w2 ⟨rfl, hb2, v1, hM2⟩
  have p1 := hM2.rd.pos
  have p2 := hM2.rd.frz 1
  have p3 := hM2.rd.lt
  have HM2 := Lib.hid hM2
  clear hM2
  go_wp2_with fail
  go_ret
  obtain ⟨hM3, hB3⟩ := HM2.out.next
  refine ⟨rfl, (hB1.out.trans hb2).trans hB3, k + 1, fr, _, ob, cap, hM3, HT.out, ?_, rfl⟩
  show (⟨erases (g.rows ++ [joinV 2 g.v2 g.row]), erases []⟩ : G) = ⟨erases g.rows ++ [joinT 2 (erases g.row)], []⟩
  rw [erases_append, erases_one, erase_join]
  rfl

set_option maxHeartbeats 2000000 in
set_option maxRecDepth 100000 in
theorem step_lone {w : World} {base rb k ob cap : Nat} {s : ByteArray} {g : Grp} {r : List Nat} (h : Mem w base rb s k [g] ob cap) (ht : Tl s k (41 :: r)) :
    Calls Tryd.prog 38 #[.pointer (some ⟨rb, 0, none⟩), .int .u8 41] w (Stepped (pstep g.er [] (41 :: r)) w base rb s) := by
  have hp := h.rd.opn
  have hp4 := h.rd.lt
  have HR := Lib.hid h.rd
  clear h
  go_enter Tryd.func38, Tryd.ntmps38
  go_wp2_with fail
  go_ret
  exact ⟨.inl rfl, rfl, Bel.refl _ _ _, k, _, HR.out, ht⟩

theorem put_tree {w : World} {base rb k ob cap m : Nat} {s : ByteArray} {fr : List Grp} {g : Grp} (h : Mem w base rb s k (fr ++ [g]) ob cap) {t : V} (ht : Laid w (Rl base rb ob (fr ++ [g])) t) {sa : Option Addr} {sn sc : Nat} (hsl : t.v = .slice sa sn sc) (hn : g.row.length ≤ 1000) (hm : fr.length = m) :
    Calls Tryd.prog 51 #[.pointer (some ⟨ob, m * 2, none⟩), .agg #[.int .i64 t.kind, .int .u64 (t.set 0 : Nat), .int .u64 (t.set 1 : Nat), .int .u64 (t.set 2 : Nat), .int .u64 (t.set 3 : Nat), .slice sa sn sc, .int .i64 t.lo, .int .i64 t.hi]] w fun e w' => e = .returned (.tuple #[]) ∧ Bel base rb w w' ∧ ∃ v2, Mem w' base rb s k (fr ++ [⟨g.rows, g.row ++ [t], g.v1, v2⟩]) ob cap := by
  subst hm
  have := put_mem h t ht hn
  unfold nodeAgg at this
  rw [hsl] at this
  exact this

set_option maxHeartbeats 2000000 in
set_option maxRecDepth 100000 in
theorem step_close {w : World} {base rb k ob cap : Nat} {s : ByteArray} {fr : List Grp} {p g : Grp} {r : List Nat} (h : Mem w base rb s k ((fr ++ [p]) ++ [g]) ob cap) (ht : Tl s k (41 :: r)) (hs : s.size ≤ maxLen) (hm : (fr ++ [p]).length ≤ 1000) (hn : g.rows.length ≤ 1000) (hn2 : p.row.length ≤ 1000) :
    Calls Tryd.prog 38 #[.pointer (some ⟨rb, 0, none⟩), .int .u8 41] w (Stepped (pstep g.er ((fr ++ [p]).map Grp.er).reverse (41 :: r)) w base rb s) := by
  unfold maxLen at hs
  have hlt := ht.lt
  have hlen : (fr ++ [p]).length = fr.length + 1 := by simp
  have hlen2 : ((fr ++ [p]) ++ [g]).length = fr.length + 1 + 1 := by simp
  have hp := h.rd.opn
  have hp4 := h.rd.lt
  rw [hlen2] at hp
  have HH := Lib.hid h
  have HT := Lib.hid ht.tail
  have HL := Lib.hid hlen
  have HL2 := Lib.hid hlen2
  have HM := Lib.hid hm
  have hm2 : fr.length ≤ 1000 := by omega
  clear h hlen hlen2 hm
  generalize hmm : fr.length = m at *
  have HMM := Lib.hid hmm
  clear hmm
  have e1 : ((m : Int) + 1 + 1 == 1) = false := by simp; omega
  have e2 : ¬ (m : Int) + 1 + 1 = 1 := by omega
  go_enter Tryd.func38, Tryd.ntmps38
  go_wp2_with fail
  go_at_call 39
  refine (shut_mem HH.out hn HM.out).mono ?_
  rintro e w1 ⟨v1, rfl, hb1, hM1, hl1⟩
  have htr : erase (joinV 3 v1 (g.rows ++ [joinV 2 g.v2 g.row])) = shutT g.er := by
    rw [erase_join, erases_append, erases_one, erase_join]
    rfl
  generalize joinV 3 v1 (g.rows ++ [joinV 2 g.v2 g.row]) = t at *
  obtain ⟨sa, sn, sc, hsl⟩ := hl1.slice
  unfold nodeAgg
  rw [hsl]
  have HSL := Lib.hid hsl
  have HTR := Lib.hid htr
  have hM2 := hM1.af_alloc (.cells #[.int .i64 t.kind, .int .u64 (t.set 0 : Nat), .int .u64 (t.set 1 : Nat), .int .u64 (t.set 2 : Nat), .int .u64 (t.set 3 : Nat), .slice sa sn sc, .int .i64 t.lo, .int .i64 t.hi] 27)
  have hM3 := hM2.drew
  have hrd := hM3.rd
  rw [HL.out] at hrd
  have hl3 : Laid ((w1.alloc (.cells #[.int .i64 t.kind, .int .u64 (t.set 0 : Nat), .int .u64 (t.set 1 : Nat), .int .u64 (t.set 2 : Nat), .int .u64 (t.set 3 : Nat), .slice sa sn sc, .int .i64 t.lo, .int .i64 t.hi] 27)).drew) (Rl base rb ob (fr ++ [p])) t := hl1.chg (((Chg.refl (fun _ => False) w1).alloc _).drew) (fun _ _ _ h => h)
  have hb3 : Bel base rb w1 ((w1.alloc (.cells #[.int .i64 t.kind, .int .u64 (t.set 0 : Nat), .int .u64 (t.set 1 : Nat), .int .u64 (t.set 2 : Nat), .int .u64 (t.set 3 : Nat), .slice sa sn sc, .int .i64 t.lo, .int .i64 t.hi] 27)).drew) := ((Bel.refl _ _ _).alloc _).drew
  have hrw := hM1.rd.lt
  have HA := Lib.hid (And.intro hM3 (And.intro hrd (And.intro hl3 (hb1.trans hb3))))
  clear hM1 hM2 hM3 hrd hl1 hl3 hb1 hb3 hsl htr hp
  go_wp2_with fail
  go_region_with (first
    | (go_at_call 49; refine (inner_any _ rb k ob m cap s HA.out.2.1 hm2).mono ?_; rintro e w3 ⟨rfl, hA3⟩; obtain ⟨q1, q2⟩ := hA3.cells (B := w1.heap.size) (by simp) (by omega); have HA4 := Lib.hid hA3; clear hA3)
    | (go_at_call 51; refine (put_tree (HA.out.1.af (by rw [HL.out]; exact HA4.out)) (HA.out.2.2.1.chg HA4.out.2 (fun b _ hn e => hn.2 (by subst e; unfold live; simp))) HSL.out hn2 HMM.out).mono ?_; rintro e w5 ⟨rfl, hb5, v2, hM5⟩; have p1 := hM5.rd.pos; have p2 := hM5.rd.frz 1; have p3 := hM5.rd.lt; have HM5 := Lib.hid (And.intro hb5 hM5); clear hb5 hM5))
  all_goals
    go_wp2_with fail
    go_ret
    obtain ⟨hb5, hM5⟩ := HM5.out
    obtain ⟨hM6, hB6⟩ := hM5.next
    have hA4' := HA4.out
    rw [← HL.out] at hA4'
    have hstep : pstep g.er ((fr ++ [p]).map Grp.er).reverse (41 :: r) = .ok (⟨p.er.rows, p.er.row ++ [shutT g.er]⟩, (fr.map Grp.er).reverse) r := by
      rw [List.map_append, List.reverse_append]
      rfl
    rw [hstep]
    refine ⟨rfl, ((HA.out.2.2.2.trans (HA.out.1.af_below hA4')).trans hb5).trans hB6, k + 1, fr, _, ob, cap, hM6, HT.out, ?_, rfl⟩
    show (⟨erases p.rows, erases (p.row ++ [t])⟩ : G) = ⟨erases p.rows, erases p.row ++ [shutT g.er]⟩
    rw [erases_append, erases_one, HTR.out]

end Go.Proofs.YtpibkalbnjgpaaaDoor
