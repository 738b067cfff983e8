/- What put makes of a list of runs and one more: a contract.
   Conditions: the list lies in memory and is formed; the run is at least once. -/
import Derived.Test.YtgdblnppeeknpaaDoorRnN
import Derived.Deep.AppendLies
import Derived.OneCell
namespace Go.Proofs.YtgdblnppeeknpaaDoor
open Go.RowKit

/-- A list of runs in memory: a block of two cells, and the runs. -/
def LstI (w : World) (H bl : Nat) (acc : List Rn) : Prop :=
  ∃ v, w.heap[bl]? = some (.cells #[v, .int .i64 (smL acc)] 46 (0, 0)) ∧ H ≤ bl ∧ OwnR w H v acc
theorem own_ne {w : World} {H bl : Nat} {v x y : Value} {n : Nat} {xs : List Value} (h : w.ownsRow H 42 2 v n xs) (hb : w.heap[bl]? = some (.cells #[x, y] 46 (0, 0))) : v.ownBlock ≠ some bl := by
  rcases h.2 with ⟨rfl, _⟩ | ⟨g, cap, cur, rfl, hg, hh, _⟩
  · simp [Value.ownBlock]
  · intro e
    obtain rfl : g = bl := by simpa [Value.ownBlock] using e
    rw [hb] at hh
    simp at hh
/-- Two cells in a block of their own. -/
theorem two_set0 {w : World} {bl : Nat} {x y u : Value} {T : TypeId} (h : w.heap[bl]? = some (.cells #[x, y] T (0, 0))) : (w.setCell ⟨bl, 0, none⟩ u).heap[bl]? = some (.cells #[u, y] T (0, 0)) := by
  simp [World.setCell, Array.getElem?_modify, h]
theorem two_set1 {w : World} {bl : Nat} {x y u : Value} {T : TypeId} (h : w.heap[bl]? = some (.cells #[x, y] T (0, 0))) : (w.setCell ⟨bl, 1, none⟩ u).heap[bl]? = some (.cells #[x, u] T (0, 0)) := by
  simp [World.setCell, Array.getElem?_modify, h]
theorem two_cells {w : World} {b : Nat} {x y : Value} {T : TypeId} (h : w.heap[b]? = some (.cells #[x, y] T (0, 0))) : w.cell? ⟨b, 0, none⟩ = some x ∧ w.cell? ⟨b, 1, none⟩ = some y ∧ w.frozen? ⟨b, 0, none⟩ = false ∧ w.frozen? ⟨b, 1, none⟩ = false ∧ b < w.heap.size :=
  ⟨((row_cells h).1 0).trans rfl, ((row_cells h).1 1).trans rfl, (row_cells h).2 0, (row_cells h).2 1, (Array.getElem?_eq_some_iff.1 h).1⟩
theorem lst_push {w W w2 : World} {H bl g cap al : Nat} {q : Rn} {acc : List Rn} {v : Value} {z : Int} {o : Obj} (hb : Below H w W) (hH : H ≤ W.heap.size) (hown : W.ownsRow H 42 2 v al (acc.flatMap rnc)) (hbl : W.heap[bl]? = some (.cells #[v, .int .i64 z] 46 (0, 0))) (hHb : H ≤ bl) (hz : z = smL (acc ++ [q])) (hal : al = acc.length)
    (h : w2.ownsRow H 42 2 (.slice (some ⟨g, 0, none⟩) (al + 1) cap) (al + 1) (acc.flatMap rnc ++ rnc q)) (hgrow : ((W.alloc o).drew).grownBy w2 v.ownBlock) :
    w2.cell? ⟨bl, 0, none⟩ = some v ∧ w2.frozen? ⟨bl, 0, none⟩ = false ∧ bl < w2.heap.size ∧ LstI (w2.setCell ⟨bl, 0, none⟩ (.slice (some ⟨g, 0, none⟩) (al + 1) cap)) H bl (acc ++ [q]) ∧ Below H w (w2.setCell ⟨bl, 0, none⟩ (.slice (some ⟨g, 0, none⟩) (al + 1) cap)) := by
  have hlt := (Array.getElem?_eq_some_iff.1 hbl).1
  have h2 : w2.heap[bl]? = some (.cells #[v, .int .i64 z] 46 (0, 0)) := (hgrow.block bl (by simp; omega) fun e => own_ne hown hbl e.symm).trans ((Below.heap_alloc W _ _ hlt).trans hbl)
  obtain ⟨e1, _, e3, _, e5⟩ := two_cells h2
  have hc : Chg (fun k => H ≤ k) W w2 := (((Chg.refl (fun k => H ≤ k) W).alloc o).drew).grown hgrow (fun k hk _ => (World.ownsRow.lt hown k hk).1)
  refine ⟨e1, e3, e5, ⟨_, by rw [two_set0 h2, hz], hHb, ?_⟩, ?_⟩
  · have := ownsRow_setCell_other (a := ⟨bl, 0, none⟩) h (own_ne h h2) (.slice (some ⟨g, 0, none⟩) (al + 1) cap)
    show World.ownsRow _ _ _ _ _ _ _
    rw [List.length_append, List.flatMap_append, List.length_singleton, ← hal]
    simpa using this
  · exact (hb.trans (hc.below hH fun k hk e => by omega)).trans (((Below.refl H w2)).setCell (p := ⟨bl, 0, none⟩) hHb _)

set_option maxHeartbeats 8000000 in
set_option maxRecDepth 100000 in
theorem put12_any (w : World) (H bl : Nat) (acc : List Rn) (b : Nat) (t : Int) (hi : LstI w H bl acc) (hH : H ≤ w.heap.size) (hp : ∀ q ∈ acc, 1 ≤ q.2) (hs : smL acc ≤ 4611686018427387904) (hn : acc.length ≤ 200) (ht : 1 ≤ t) (ht2 : t < 9223372036854775808) :
    Calls Tryd.prog 18 #[.pointer (some ⟨bl, 0, none⟩), .agg #[.int .u8 (b : Int), .int .i64 t]] w fun e w' => Below H w w' ∧ ((e = .returned (.bool false) ∧ (4611686018427387904 < smL acc + t ∨ 200 < (jnS acc (b, t)).length)) ∨ (e = .returned (.bool true) ∧ smL acc + t ≤ 4611686018427387904 ∧ (jnS acc (b, t)).length ≤ 200 ∧ LstI w' H bl (jnS acc (b, t)))) := by
  obtain ⟨v, hbk, hHb, hown⟩ := hi
  obtain ⟨z, hz⟩ : ∃ z, z = smL acc := ⟨_, rfl⟩
  have hz0 : 0 ≤ z := by rw [hz]; exact smL_nn hp
  rw [← hz] at hbk hs ⊢
  obtain ⟨al, hal⟩ : ∃ n, n = acc.length := ⟨_, rfl⟩
  have HAL := Lib.hid (And.intro hal (show al ≤ 200 by omega))
  have HZ := Lib.hid hz
  have HHb := Lib.hid hHb
  have HPo := Lib.hid hp
  obtain ⟨pA, pc, hv⟩ := own_formR hown
  rw [← hal] at hv
  subst hv
  obtain ⟨j0, hj0, hy0, hy1, hy2⟩ := info_parts infoRn
  have hlt := (Array.getElem?_eq_some_iff.1 hbk).1
  obtain ⟨w7, hw7, hb7, hq7⟩ : ∃ w7, w.alloc (.cells #[.int .u8 (b : Int), .int .i64 t] 42) = w7 ∧ Below w.heap.size w w7 ∧ w7.heap[w.heap.size]? = some (.cells #[.int .u8 (b : Int), .int .i64 t] 42 (0, 0)) := ⟨_, rfl, (Below.refl _ w).alloc (Nat.le_refl _) _, heap_alloc_new w _⟩
  have hown7 : w7.ownsRow H 42 2 (.slice pA al pc) al (acc.flatMap rnc) := by have := own_keep hown hb7; rw [← hal] at this; exact this
  have F7 := Lib.hid (fun (W : World) (h : Below w7.heap.size w7 W) => show W.ownsRow H 42 2 (.slice pA al pc) al (acc.flatMap rnc) ∧ W.cell? ⟨w.heap.size, 0, none⟩ = some (.int .u8 (b : Int)) ∧ W.cell? ⟨w.heap.size, 1, none⟩ = some (.int .i64 t) ∧ W.heap[bl]? = some (.cells #[.slice pA al pc, .int .i64 z] 46 (0, 0)) from by
    have h1 := (h.block _ (Array.getElem?_eq_some_iff.1 hq7).1).trans hq7
    obtain ⟨a1, a2, _⟩ := two_cells h1
    exact ⟨own_keep hown7 h, a1, a2, (h.block bl (by have := hb7.size; omega)).trans ((hb7.block bl hlt).trans hbk)⟩)
  have B7 := Lib.hid (And.intro (show Below H w w7 from hb7.mono hH) (And.intro (show H ≤ w7.heap.size by have := hb7.size; omega) (show bl ≠ w.heap.size ∧ w.heap.size < w7.heap.size by refine ⟨by omega, (Array.getElem?_eq_some_iff.1 hq7).1⟩)))
  have wz : IntKind.i64.wrap (4611686018427387904 - z) = 4611686018427387904 - z := by rw [IntKind.wrap_i64]; omega
  clear hbk hHb hown hz hal hp hb7 hq7 hown7 hlt
  go_enter Tryd.func18, Tryd.ntmps18
  go_upto_region 1 with fail
  clear hw7
  obtain ⟨_, x0, x1, d⟩ := F7.out w7 (Below.refl _ _)
  obtain ⟨d0, d1, q0, q1, hbl7⟩ := two_cells d
  clear d
  by_cases g1 : 4611686018427387904 - z < t
  · go_wp2_with fail
    go_quiet (fail)
    obtain ⟨w8, hw8⟩ : ∃ w8, w7.drewN nq = w8 := ⟨_, rfl⟩
    rw [hw8]
    have hb8 : Below w7.heap.size w7 w8 := hw8 ▸ below_drewN (Below.refl _ w7) nq
    have HB8 := Lib.hid (show Below H w w8 from B7.out.1.trans (hb8.mono B7.out.2.1))
    clear hw8 hb8
    go_wp2_with fail
    go_ret
    exact ⟨HB8.out, .inl ⟨rfl, .inl (by omega)⟩⟩
  · go_wp2_with fail
    go_quiet (fail)
    obtain ⟨w8, hw8⟩ : ∃ w8, w7.drewN nq = w8 := ⟨_, rfl⟩
    rw [hw8]
    have hb8 : Below w7.heap.size w7 w8 := hw8 ▸ below_drewN (Below.refl _ w7) nq
    obtain ⟨own8, x0, x1, d⟩ := F7.out w8 hb8
    obtain ⟨d0, d1, q0, q1, hbl8⟩ := two_cells d
    have wzt : IntKind.i64.wrap (z + t) = z + t := by rw [IntKind.wrap_i64]; omega
    obtain ⟨w9, hw9⟩ : ∃ w9, (w8.setCell ⟨bl, 1, none⟩ (.int .i64 (z + t))).drew = w9 := ⟨_, rfl⟩
    have F9 := Lib.hid (fun (W : World) (h : Below w9.heap.size w9 W) => show W.ownsRow H 42 2 (.slice pA al pc) al (acc.flatMap rnc) ∧ W.cell? ⟨w.heap.size, 0, none⟩ = some (.int .u8 (b : Int)) ∧ W.cell? ⟨w.heap.size, 1, none⟩ = some (.int .i64 t) ∧ W.heap[bl]? = some (.cells #[.slice pA al pc, .int .i64 (z + t)] 46 (0, 0)) from by
      subst hw9
      have hc : Chg (fun x => x = bl) w8 W := ((((Chg.refl (fun x => x = bl) w8).setCell (p := ⟨bl, 1, none⟩) (fun _ => rfl) (.int .i64 (z + t))).drew).trans (.of_below (R := fun _ => False) h) fun _ _ e => e.elim)
      have k8 := hb8.size
      have k7 := B7.out.2.2
      exact ⟨own_keep (World.ownsRow.drew (ownsRow_setCell_other (a := ⟨bl, 1, none⟩) own8 (own_ne own8 d) _)) h, (hc.cell 0 (by omega) (by omega)).trans x0, (hc.cell 1 (by omega) (by omega)).trans x1, (h.block bl (by show bl < _; simp [World.setCell]; omega)).trans (two_set1 d)⟩)
    have B9 := Lib.hid (And.intro (show Below H w w9 from by rw [← hw9]; exact ((B7.out.1.trans (hb8.mono B7.out.2.1)).setCell (p := ⟨bl, 1, none⟩) HHb.out _).drew) (show H ≤ w9.heap.size from by rw [← hw9]; have := hb8.size; have := B7.out.2.1; simp [World.setCell]; omega))
    obtain ⟨_, y0, y1, d9⟩ := F9.out w9 (Below.refl _ _)
    obtain ⟨e0, e1, r0, r1, hbl9⟩ := two_cells d9
    clear hw8 hb8 own8 d d9
    by_cases ha0 : acc = []
    · have hal0 : al = 0 := by rw [HAL.out.1, ha0]; rfl
      have wl : IntKind.i64.wrap ((al : Int) - 1) = -1 := by rw [IntKind.wrap_i64]; omega
      have HJ := Lib.hid (show jnS acc (b, t) = acc ++ [(b, t)] by rw [ha0]; rfl)
      have HZS := Lib.hid (show z + t = smL (acc ++ [(b, t)]) by rw [smL_app, smL_one, HZ.out])
      clear ha0 hal0
      go_wp2_with fail
      go_still_tail 7, (by kernel_rfl)
      change wpList _ _ _ _ _ w8.drew
      go_upto_region 5 with fail
      clear hw9 d0 d1 q0 q1 hbl8 x0 x1
      go_wp2_with fail
      go_quiet (fail)
      obtain ⟨w10, hw10⟩ : ∃ w10, w9.drewN nq = w10 := ⟨_, rfl⟩
      rw [hw10]
      have hb10 : Below w9.heap.size w9 w10 := hw10 ▸ below_drewN (Below.refl _ w9) nq
      have F10 := Lib.hid (fun (W : World) (h : Below w10.heap.size w10 W) => F9.out W (bhop hb10 h))
      have B10 := Lib.hid (And.intro (B9.out.1.trans (hb10.mono B9.out.2)) (Nat.le_trans B9.out.2 hb10.size))
      clear hw10 hb10 e0 e1 r0 r1 hbl9 y0 y1
      go_upto_region 8 with fail
      obtain ⟨own9, x0, x1, d9⟩ := F10.out w10 (Below.refl _ _)
      obtain ⟨d0, d1, q0, q1, hbl10⟩ := two_cells d9
      go_region_law (refine step_append_lies _ rfl _ _ 24 rfl H 42 j0 _ 2 16 Tryd.underlying24 hj0 hy0 hy1 hy2 rfl (by decide) (.slice pA al pc) al (acc.flatMap rnc) rfl (World.ownsRow.alloc own9 _).drew ⟨w10.heap.size, 0, none⟩ 1 1 [.int .u8 (b : Int), .int .i64 t] rfl rfl (World.news_of_block (w := (w10.alloc (.cells #[.int .u8 (b : Int), .int .i64 t] 42)).drew) (heap_alloc_new w10 _)) (by simp [Value.oneCell']) (by decide) (by have := HAL.out.2; unfold maxLen; omega) (by have := HAL.out.2; omega) (by have := B10.out.2; simp; omega) _ rfl ?_; intro gB cpB wB hownB hgrowB _ _; have HA := Lib.hid (lst_push (q := (b, t)) (w := w) (acc := acc) (v := (.slice pA al pc)) (z := z + t) B10.out.1 B10.out.2 own9 d9 HHb.out HZS.out HAL.out.1 hownB hgrowB); have e5 := HA.out.1; have f5 := HA.out.2.1; have l5 := HA.out.2.2.1; clear hownB hgrowB)
      all_goals
        clear x0 x1 d0 d1 q0 q1 own9 d9 hbl10
        go_wp2_with fail
        go_ret
        refine ⟨HA.out.2.2.2.2, ?_⟩
        by_cases h200 : (al : Int) + 1 ≤ 200
        · exact .inr ⟨ret_bool (decide_eq_true h200), by omega, by rw [HJ.out, List.length_append]; have := HAL.out.1; simp; omega, by rw [HJ.out]; exact HA.out.2.2.2.1⟩
        · exact .inl ⟨ret_bool (decide_eq_false h200), .inr (by rw [HJ.out, List.length_append]; have := HAL.out.1; simp; omega)⟩
    · obtain ⟨pre, cc, s, hpre⟩ := snoc_of ha0
      obtain ⟨pl, hpl⟩ : ∃ n, n = pre.length := ⟨_, rfl⟩
      have hal2 : al = pl + 1 := by rw [HAL.out.1, hpre, hpl]; simp
      have wl : IntKind.i64.wrap ((al : Int) - 1) = (pl : Int) := by have := HAL.out.2; rw [IntKind.wrap_i64]; omega
      have g3 : (0 : Int) ≤ (pl : Int) := by omega
      have k5 : (pl : Int) < (al : Int) := by omega
      have k6 : ((pl : Int)).toNat = pl := by omega
      have hat : acc[pl]? = some (cc, s) := by rw [hpre, hpl]; simp
      obtain ⟨hs1, hs2⟩ := last_le (by rw [← hpre]; exact HPo.out)
      rw [← hpre, ← HZ.out] at hs2
      obtain ⟨gA, cap, hv, hgA, _⟩ := World.ownsRow.form (F9.out w9 (Below.refl _ _)).1 (show 0 < al by omega)
      simp only [Value.slice.injEq, true_and] at hv
      obtain ⟨rfl, rfl⟩ := hv
      have z0 := (World.ownsRow.cellAt (F9.out w9 (Below.refl _ _)).1 (pl * 2) (by omega)).trans (rn_flat hat).1
      have HP := Lib.hid (And.intro hpre (And.intro hpl (And.intro hat (And.intro hs1 (And.intro hs2 hal2)))))
      clear hpre hpl hat ha0 hal2
      by_cases he : cc = b
      · have he' : ((cc : Int) == (b : Int)) = true := by simp [he]
        have HJ := Lib.hid (show jnS acc (b, t) = pre ++ [(cc, s + t)] by rw [HP.out.1, jnS_last, if_pos he])
        clear he
        go_wp2_with fail
        go_still_tail 7, (by kernel_rfl)
        change wpList _ _ _ _ _ w8.drew
        go_upto_region 5 with fail
        clear hw9 d0 d1 q0 q1 hbl8 x0 x1
        go_wp2_with fail
        go_quiet (fail)
        obtain ⟨w10, hw10⟩ : ∃ w10, w9.drewN nq = w10 := ⟨_, rfl⟩
        rw [hw10]
        have hb10 : Below w9.heap.size w9 w10 := hw10 ▸ below_drewN (Below.refl _ w9) nq
        have F10 := Lib.hid (fun (W : World) (h : Below w10.heap.size w10 W) => F9.out W (bhop hb10 h))
        have B10 := Lib.hid (And.intro (B9.out.1.trans (hb10.mono B9.out.2)) (Nat.le_trans B9.out.2 hb10.size))
        clear hw10 hb10 e0 e1 r0 r1 hbl9 y0 y1
        obtain ⟨own10, _, x1, d10⟩ := F10.out w10 (Below.refl _ _)
        obtain ⟨d0, d1, q0, q1, hbl10⟩ := two_cells d10
        have z1 := (World.ownsRow.cellAt own10 (pl * 2 + 1) (by have := HP.out.2.2.2.2.2; omega)).trans (rn_flat HP.out.2.2.1).2
        have f1 := World.ownsRow.frozenAt own10 (pl * 2 + 1)
        have wst : IntKind.i64.wrap (s + t) = s + t := by
          have h1 := HP.out.2.2.2.1
          have h2 := HP.out.2.2.2.2.1
          rw [IntKind.wrap_i64]; omega
        have hset := (World.ownsRow.stored own10 (pl * 2 + 1) (.int .i64 (s + t))).1
        rw [HP.out.1, HP.out.2.1, rn_set, ← HP.out.2.1] at hset
        have hne : gA ≠ bl := fun e => own_ne own10 d10 (by rw [e]; rfl)
        have HF := Lib.hid (show Below H w (w10.setCell ⟨gA, pl * 2 + 1, none⟩ (.int .i64 (s + t))).drew ∧ LstI (w10.setCell ⟨gA, pl * 2 + 1, none⟩ (.int .i64 (s + t))).drew H bl (jnS acc (b, t)) from by
          refine ⟨(B10.out.1.setCell (p := ⟨gA, pl * 2 + 1, none⟩) hgA _).drew, .slice (some ⟨gA, 0, none⟩) al pc, ?_, HHb.out, ?_⟩
          · rw [HJ.out, smL_app, smL_one]
            have hz : z + t = smL pre + (s + t) := by rw [HZ.out, HP.out.1, smL_app, smL_one]; show smL pre + s + t = _; omega
            show (w10.setCell ⟨gA, pl * 2 + 1, none⟩ (.int .i64 (s + t))).heap[bl]? = _
            rw [Below.heap_setCell _ _ _ _ (fun e => hne e.symm), d10, hz]
          · rw [HJ.out]
            show World.ownsRow _ _ _ _ _ (pre ++ [(cc, s + t)]).length _
            rw [show (pre ++ [(cc, s + t)]).length = al by rw [HP.out.2.2.2.2.2, HP.out.2.1]; simp]
            exact World.ownsRow.drew hset)
        have HL := Lib.hid (show (jnS acc (b, t)).length ≤ 200 by rw [HJ.out]; have h1 := HAL.out.2; have h2 := HP.out.2.2.2.2.2; have h3 := HP.out.2.1; simp; omega)
        clear own10 hset hne d1 q0 q1 hbl10 d10
        go_wp2_with fail
        go_still_tail 11, (by kernel_rfl)
        change wpList _ _ _ _ _ w10.drew
        go_wp2_with fail
        go_ret
        exact ⟨HF.out.1, .inr ⟨rfl, by omega, HL.out, HF.out.2⟩⟩
      · have he' : ((cc : Int) == (b : Int)) = false := by simp; omega
        have HJ := Lib.hid (show jnS acc (b, t) = acc ++ [(b, t)] by rw [HP.out.1, jnS_last, if_neg he])
        have HZS := Lib.hid (show z + t = smL (acc ++ [(b, t)]) by rw [smL_app, smL_one, HZ.out])
        clear he
        go_wp2_with fail
        go_still_tail 7, (by kernel_rfl)
        change wpList _ _ _ _ _ w8.drew
        go_upto_region 5 with fail
        clear hw9 d0 d1 q0 q1 hbl8 x0 x1
        go_wp2_with fail
        go_quiet (fail)
        obtain ⟨w10, hw10⟩ : ∃ w10, w9.drewN nq = w10 := ⟨_, rfl⟩
        rw [hw10]
        have hb10 : Below w9.heap.size w9 w10 := hw10 ▸ below_drewN (Below.refl _ w9) nq
        have F10 := Lib.hid (fun (W : World) (h : Below w10.heap.size w10 W) => F9.out W (bhop hb10 h))
        have B10 := Lib.hid (And.intro (B9.out.1.trans (hb10.mono B9.out.2)) (Nat.le_trans B9.out.2 hb10.size))
        clear hw10 hb10 e0 e1 r0 r1 hbl9 y0 y1 z0
        go_upto_region 8 with fail
        obtain ⟨own9, x0, x1, d9⟩ := F10.out w10 (Below.refl _ _)
        obtain ⟨d0, d1, q0, q1, hbl10⟩ := two_cells d9
        go_region_law (refine step_append_lies _ rfl _ _ 24 rfl H 42 j0 _ 2 16 Tryd.underlying24 hj0 hy0 hy1 hy2 rfl (by decide) (.slice (some ⟨gA, 0, none⟩) al pc) al (acc.flatMap rnc) rfl (World.ownsRow.alloc own9 _).drew ⟨w10.heap.size, 0, none⟩ 1 1 [.int .u8 (b : Int), .int .i64 t] rfl rfl (World.news_of_block (w := (w10.alloc (.cells #[.int .u8 (b : Int), .int .i64 t] 42)).drew) (heap_alloc_new w10 _)) (by simp [Value.oneCell']) (by decide) (by have := HAL.out.2; unfold maxLen; omega) (by have := HAL.out.2; omega) (by have := B10.out.2; simp; omega) _ rfl ?_; intro gB cpB wB hownB hgrowB _ _; have HA := Lib.hid (lst_push (q := (b, t)) (w := w) (acc := acc) (v := (.slice (some ⟨gA, 0, none⟩) al pc)) (z := z + t) B10.out.1 B10.out.2 own9 d9 HHb.out HZS.out HAL.out.1 hownB hgrowB); have e5 := HA.out.1; have f5 := HA.out.2.1; have l5 := HA.out.2.2.1; clear hownB hgrowB)
        all_goals
          clear x0 x1 d0 d1 q0 q1 own9 d9 hbl10
          go_wp2_with fail
          go_ret
          refine ⟨HA.out.2.2.2.2, ?_⟩
          by_cases h200 : (al : Int) + 1 ≤ 200
          · exact .inr ⟨ret_bool (decide_eq_true h200), by omega, by rw [HJ.out, List.length_append]; have := HAL.out.1; simp; omega, by rw [HJ.out]; exact HA.out.2.2.2.1⟩
          · exact .inl ⟨ret_bool (decide_eq_false h200), .inr (by rw [HJ.out, List.length_append]; have := HAL.out.1; simp; omega)⟩

end Go.Proofs.YtgdblnppeeknpaaDoor
