/- Of every tree the statement CoreTells returns true, and it reads afterwards as before.
   No condition. -/
import Derived.Test.YtcnjogkgfdbhfaaSame
import Derived.Test.YtcnjogkgfdbhfaaCNextP
import Derived.Deep.LoopGhost
import Derived.Deep.RegionLaw
import Derived.Test.YtcnjogkgfdbhfaaCFoldP
import Derived.Deep.RegionWith
import Derived.Deep.AppendLies
import Derived.Test.YtcnjogkgfdbhfaaLoops
import Derived.Test.YtcnjogkgfdbhfaaCalls
import Derived.Test.YtcnjogkgfdbhfaaFormS
import Derived.Deep.DeepCutAuto
import Derived.Test.YtcnjogkgfdbhfaaRefT
import Derived.Deep.QuietTactic
import Derived.BigQuiet
import Derived.Test.YtcnjogkgfdbhfaaCFoldS
import Derived.ProofKit
import Derived.OpenShut
import Derived.ChangeOld
import Derived.Below

/- Trees in boxes of their own.
   Conditions: those that each theorem states. -/
namespace Go.Proofs.Ytcnjogkgfdbhfaa
open Go.RowKit Go.Shelf

/-- A tree's eight cells, in a block of their own. -/
def BoxC (b : Nat) (t : V) (v : Value) (W : World) : Prop :=
  W.cell? ⟨b, 0, none⟩ = some (.int .i64 t.kind) ∧ W.cell? ⟨b, 1, none⟩ = some (.int .u64 (t.set 0 : Nat)) ∧ W.cell? ⟨b, 2, none⟩ = some (.int .u64 (t.set 1 : Nat)) ∧ W.cell? ⟨b, 3, none⟩ = some (.int .u64 (t.set 2 : Nat)) ∧ W.cell? ⟨b, 4, none⟩ = some (.int .u64 (t.set 3 : Nat)) ∧ W.cell? ⟨b, 5, none⟩ = some v ∧ W.cell? ⟨b, 6, none⟩ = some (.int .i64 t.lo) ∧ W.cell? ⟨b, 7, none⟩ = some (.int .i64 t.hi)
theorem box_new (w : World) (t : V) (v : Value) : ∃ w2, w.alloc (.cells #[.int .i64 t.kind, .int .u64 (t.set 0 : Nat), .int .u64 (t.set 1 : Nat), .int .u64 (t.set 2 : Nat), .int .u64 (t.set 3 : Nat), v, .int .i64 t.lo, .int .i64 t.hi] 27) = w2 ∧ Below w.heap.size w w2 ∧ w.heap.size < w2.heap.size ∧ ∀ W, Below w2.heap.size w2 W → BoxC w.heap.size t v W := by
  refine ⟨_, rfl, (Below.refl _ _).alloc (Nat.le_refl _) _, by simp, fun W hW => ?_⟩
  have e1 := heap_alloc_new w (.cells #[.int .i64 t.kind, .int .u64 (t.set 0 : Nat), .int .u64 (t.set 1 : Nat), .int .u64 (t.set 2 : Nat), .int .u64 (t.set 3 : Nat), v, .int .i64 t.lo, .int .i64 t.hi] 27)
  have q := (row_cells ((hW.block _ (Array.getElem?_eq_some_iff.1 e1).1).trans e1)).1
  exact ⟨q 0, q 1, q 2, q 3, q 4, q 5, q 6, q 7⟩
theorem laid_low {w w' : World} {R : Nat → Prop} {t : V} (h : Laid w R t) (hb : Below w.heap.size w w') : Laid w' R t := h.keep (fun _ _ h => h) hb.size fun k hk _ => hb.block k hk
theorem nodeAgg_v {t : V} {v : Value} (hv : t.v = v) : nodeAgg t = .agg #[.int .i64 t.kind, .int .u64 (t.set 0 : Nat), .int .u64 (t.set 1 : Nat), .int .u64 (t.set 2 : Nat), .int .u64 (t.set 3 : Nat), v, .int .i64 t.lo, .int .i64 t.hi] := by unfold nodeAgg; rw [hv]

end Go.Proofs.Ytcnjogkgfdbhfaa

/- What the call for a group's next part comes to: a contract.
   Conditions: those that the theorem states. -/
namespace Go.Proofs.Ytcnjogkgfdbhfaa
open Go.RowKit Go.Shelf

/-- What holds between the rounds: so much is left to do. -/
def LNextB (W : World) (base B G o : Nat) (cs : Array Value) (rv0 : Value) (k : Int) (st0 : List (Value × List V)) (n : Nat) (wr : World) : Prop :=
  ∃ st rv, NH W base B G o cs 62 rv0 st rv wr ∧ todoF k st0 = todoF k st ∧ wF st ≤ wF st0 ∧ n = wF st

set_option maxHeartbeats 4000000 in
set_option maxRecDepth 100000 in
theorem next_anyB (W : World) (base B G o nb no : Nat) (cs : Array Value) (rv0 : Value) (t : V) (st0 : List (Value × List V)) (hown : W.ownsRow base 25 1 rv0 st0.length (st0.map Prod.fst).reverse)
    (hrows : ∀ p ∈ st0, Laid W (fun x => x < B) (.node 0 zeros 0 0 p.1 p.2)) (hG : W.heap[G]? = some (.cells cs 62 (0, 0))) (hc : cs[o + 2]? = some rv0) (hn : cs[o]? = some (.pointer (some ⟨nb, no, none⟩)))
    (hnode : NodeB B W nb no t) (hB : B ≤ base) (hBG : B ≤ G) (hsz : base ≤ W.heap.size) (hw : wF st0 ≤ 1000000) :
    Calls Try.prog 35 #[.pointer (some ⟨G, o, none⟩)] W (NextR W base B G o cs 62 rv0 t.kind st0) := by
  have hty : 62 ≠ 25 := by decide
  have ho : o + 2 < cs.size := (Array.getElem?_eq_some_iff.1 hc).1
  have HST := Lib.hid (show LNextB W base B G o cs rv0 t.kind st0 (wF st0) W from ⟨st0, rv0, NH.start hown hrows hG hc, rfl, Nat.le_refl _, rfl⟩)
  have HND := Lib.hid (And.intro hnode (And.intro hB (And.intro hBG (And.intro hsz (And.intro hty hw)))))
  have HO := Lib.hid (And.intro ho hn)
  have HR0 := Lib.hid (fun x (e : rv0.ownBlock = some x) => (hown.lt x e).1)
  obtain ⟨i0, hi, hz0, hz1, hz2⟩ := info_parts info25
  clear hown hrows hG hc hn hnode hB hBG hsz hty ho hw
  go_enter Try.func35, Try.ntmps35
  go_wp2_with fail
  go_loopw [3] (fun _ wr => ∃ n, LNextB W base B G o cs rv0 t.kind st0 n wr) (fun _ wr => leastOf (fun n => LNextB W base B G o cs rv0 t.kind st0 n wr))
  case atStart => exact ⟨_, HST.out⟩
  case round =>
    have hls := (leastOf_spec hrel).1
    obtain ⟨st, rv, hH, htd, hwt, hN⟩ := hls
    have HN := Lib.hid hN
    have HTD := Lib.hid (And.intro htd hwt)
    clear hN hrel htd hwt
    have hcell0 : wr.cell? ⟨G, o, none⟩ = some (.pointer (some ⟨nb, no, none⟩)) := by rw [hH.cell o (by omega)]; exact HO.out.2
    have hrest := hH.rest HO.out.1
    have hGl := hH.lt
    have hGf := hH.fz (o + 2)
    cases st with
    | nil =>
      obtain ⟨A, cp, rfl⟩ := own_form hH.own
      have HH := Lib.hid hH
      simp only [List.length_nil] at hrest
      clear hH
      go_wp2_with fail
      go_ret
      exact ⟨[], _, HH.out, .inl ⟨by rw [HTD.out.1, todoF], rfl, rfl⟩⟩
    | cons p st =>
      obtain ⟨v, row⟩ := p
      have hlen : st.length + 1 ≤ 1000000 := by have h1 := wF_len ((v, row) :: st); have h2 := HTD.out.2; have h3 := HND.out.2.2.2.2.2; simp only [List.length_cons] at h1; omega
      obtain ⟨g, cap, rfl⟩ := ownsRow_succ hH.own
      have hrow := hH.rows (v, row) (by simp)
      have hgl := (hH.own.lt g rfl).2
      have hgb := (hH.own.lt g rfl).1
      have hgG : g ≠ G := hH.off HND.out.2.2.2.2.1 (g := g) rfl
      have hGg : G ≠ g := fun e => hgG e.symm
      have hgf : wr.frozen? ⟨g, st.length, none⟩ = false := hH.own.frozenAt _
      have hcell : wr.cell? ⟨g, st.length, none⟩ = some v := by
        have := hH.own.cellAt st.length (by simp)
        rw [this, List.map_cons, List.reverse_cons, List.getElem?_append_right (by simp)]
        simp
      have hcap : (st.length : Int) + 1 ≤ (cap : Int) := by
        rcases hH.own.2 with ⟨h1, _⟩ | ⟨g', cap', cur, hv, _, _, hle, _⟩
        · cases h1
        · simp only [Value.slice.injEq, List.length_cons] at hv hle; omega
      have hcap2 : (st.length : Int) ≤ (cap : Int) := by omega
      have m1 : (0 : Int) ≤ (st.length : Int) := by omega
      have m2 : (0 : Int) < (st.length : Int) + 1 := by omega
      have m3 : (st.length : Int) < (st.length : Int) + 1 := by omega
      have m4 : (st.length : Int) ≤ 2000000 := by omega
      cases row with
      | nil =>
        obtain ⟨ra, rc, rfl⟩ := laid_nil hrow
        have hpop : LNextB W base B G o cs rv0 t.kind st0 (wF st) (wr.setCell ⟨G, o + 2, none⟩ (.slice (some ⟨g, 0, none⟩) st.length cap)) :=
          ⟨st, _, hH.pop HND.out.2.2.1 HND.out.2.2.2.2.1, by rw [HTD.out.1, todoF_nil], by have := HTD.out.2; rw [wF_nil] at this; omega, rfl⟩
        have HP := Lib.hid hpop
        clear hpop hrow hH
        go_wp2_with fail
        go_roundw
        case rel => exact ⟨_, HP.out⟩
        case measure =>
          rw [HN.out]
          refine Nat.lt_of_le_of_lt ((leastOf_spec ⟨_, HP.out⟩).2 _ HP.out) ?_
          rw [wF_nil]
          omega
      | cons u us =>
        obtain ⟨b, off, rcap, rfl⟩ := laid_row hrow
        obtain ⟨htail, hlu, hcu, hblt, hbR, hrcap⟩ := laid_tail hrow
        obtain ⟨ua, un, uc, husl⟩ := hlu.slice
        have hbB : b < B := hbR
        have hbg : b ≠ g := by have := HND.out.2.1; omega
        have hgb2 : g ≠ b := fun e => hbg e.symm
        have hbG : b ≠ G := by have := HND.out.2.2.1; omega
        have hGb : G ≠ b := fun e => hbG e.symm
        have e5 : wr.cell? ⟨b, off + 5, none⟩ = some (.slice ua un uc) := hcu 5 _ (by rw [← husl]; rfl)
        have u1 : (0 : Int) ≤ (us.length : Int) := by omega
        have u2 : (0 : Int) < (us.length : Int) + 1 := by omega
        have u3 : ((us.length : Int) + 1 == 0) = false := by simp; omega
        have u4 : ¬ (us.length : Int) + 1 = 0 := by omega
        have u5 : (1 : Int) ≤ (us.length : Int) + 1 := by omega
        have u6 : (us.length : Int) + 1 ≤ (rcap : Int) := by omega
        have hnd : NodeB B wr nb no t := HND.out.1.chg (hH.chg.mono fun x _ e => by
          have h2 := HND.out.2.2.1
          have h3 := HND.out.2.1
          rcases e with e | e
          · omega
          · have := HR0.out x e; omega)
        have HML := Lib.hid (fun (W3 : World) (hch : Chg (fun x => B ≤ x) wr W3) => melts_any b off nb no u t W3
          (fun j x hx => (hch.cell (off + j) hblt (by omega)).trans (hcu j x hx)) (hnd.chg hch).2.1)
        have HU := Lib.hid (fun (W3 : World) (hch : Chg (fun x => B ≤ x) wr W3) => (show NodeB B W3 b off u from ⟨hbB, fun j x hx => (hch.cell (off + j) hblt (by omega)).trans (hcu j x hx), hlu.chg hch fun x _ hx e => by omega⟩))
        have HG0 := Lib.hid (show Chg (fun x => B ≤ x) wr (wr.setCell ⟨g, st.length, none⟩ (.bool false)) from (Chg.refl _ wr).setCell (p := ⟨g, st.length, none⟩) (fun _ => by show B ≤ g; have := HND.out.2.1; omega) _)
        have HWT := Lib.hid (fun (tv : Value) => And.intro (wF_push (.slice (some ⟨b, off, none⟩) (us.length + 1) rcap) tv u us st) (wF_cons (.slice (some ⟨b, off, none⟩) (us.length + 1) rcap) tv u us st))
        have HTY := Lib.hid (fun (tv : Value) (h : meltK u.kind u.lo u.hi t.kind = true) => HTD.out.1.trans (todoF_yes (v' := tv) h))
        have HTN := Lib.hid (fun (tv : Value) (h : meltK u.kind u.lo u.hi t.kind = false) => HTD.out.1.trans (todoF_no (v' := tv) h))
        have HUS := Lib.hid husl
        have HRC := Lib.hid hrcap
        by_cases hc1 : rcap = 1
        · have hus : us = [] := by cases us with
            | nil => rfl
            | cons x xs => simp only [List.length_cons] at hrcap; omega
          subst hus
          subst hc1
          have HT := Lib.hid (hH.take HND.out.2.1 HND.out.2.2.2.2.1 (laid_null wr (fun x => x < B) (some ⟨b, off, none⟩) 0))
          have hbl := hblt
          clear htail hlu hrow hcu husl hrcap hH hnd hblt hbR
          go_wp2_with fail
          go_region
          have hT3 := HT.out.drew
          have hch3 : Chg (fun x => x = g) wr (wr.setCell ⟨g, st.length, none⟩ (.slice (some ⟨b, off, none⟩) 0 0)).drew := ((Chg.refl (fun x => x = g) wr).setCell (p := ⟨g, st.length, none⟩) (fun _ => rfl) _).drew
          have hchB : Chg (fun x => B ≤ x) wr (wr.setCell ⟨g, st.length, none⟩ (.slice (some ⟨b, off, none⟩) 0 0)).drew := hch3.mono fun x _ e => by have := HND.out.2.1; omega
          have r0 := hT3.cell o (by omega)
          rw [HO.out.2] at r0
          have e5' := (hch3.cell (off + 5) hbl (by omega)).trans e5
          have HM3 := Lib.hid (HML.out _ hchB)
          have HU3 := Lib.hid (HU.out _ hchB)
          have HT3 := Lib.hid hT3
          clear hch3 hchB hT3 HT HML HU e5 hcell hcell0 hrest hgf
          generalize (wr.setCell ⟨g, st.length, none⟩ (.slice (some ⟨b, off, none⟩) 0 0)).drew = W3 at *
          go_wp2_with fail
          go_at_call 40
          refine HM3.out.mono ?_
          rintro e W4 ⟨rfl, n, rfl⟩
          have HT4 := Lib.hid (HT3.out.draw n)
          have HU4 := Lib.hid (HU3.out.chg ((Chg.refl (fun x => B ≤ x) W3).drewN n))
          have r4 : (W3.drewN n).cell? ⟨G, o, none⟩ = some (.pointer (some ⟨nb, no, none⟩)) := r0
          have e54 : (W3.drewN n).cell? ⟨b, off + 5, none⟩ = some (.slice ua un uc) := e5'
          clear HT3 HU3 HM3 r0 e5'
          generalize W3.drewN n = W4 at *
          cases hm : meltK u.kind u.lo u.hi t.kind with
          | false =>
            have HMM := Lib.hid hm
            clear hm
            go_wp2_with fail
            go_ret
            refine ⟨_, _, HT4.out, .inr ⟨u, b, off, rfl, HU4.out, ?_, ?_⟩⟩
            · exact HTN.out (.slice (some ⟨b, off, none⟩) 0 0) HMM.out
            · have := HTD.out.2
              have := (HWT.out (.slice (some ⟨b, off, none⟩) 0 0)).2
              omega
          | true =>
            have HMM := Lib.hid hm
            have r2 := HT4.out.rest HO.out.1
            have rf := HT4.out.fz (o + 2)
            have rl := HT4.out.lt
            have hgl4 := (HT4.out.own.lt g rfl).2
            have hgc4 := HT4.out.own.frozenAt st.length
            clear hm
            go_wp2_with fail
            go_region_law (refine step_append_lies _ rfl _ _ 51 rfl base 25 i0 (.slice none 0 0) 1 24 Try.underlying51 hi hz0 hz1 hz2 rfl (by decide) (.slice (some ⟨g, 0, none⟩) (st.length + 1) cap) (st.length + 1) ((((.slice (some ⟨b, off, none⟩) 0 0), ([] : List V)) :: st).map Prod.fst).reverse rfl (HT4.out.own.alloc _).drew ⟨W4.heap.size, 0, none⟩ 1 1 [.slice ua un uc] rfl rfl (World.news_of_block (w := (W4.alloc (.cells #[.slice ua un uc] 25)).drew) (heap_alloc_new W4 _)) (by simp [Value.oneCell']) (by decide) (by unfold maxLen; omega) (by omega) (by have := (HT4.out.own.lt g rfl).1; have := (HT4.out.own.lt g rfl).2; simp; omega) _ rfl ?_; intro g5 cap5 w5 hown5 hgrow5 hat5 hlt5; have hP := HT4.out.drew.push (r := .slice ua un uc) (ps := u.ps) (ob := .cells #[.slice ua un uc] 25) HND.out.2.1 HND.out.2.2.1 HND.out.2.2.2.2.1 (by have := laid_parts HU4.out.2.2; rw [HUS.out] at this; exact this.chg ((Chg.refl (fun _ => False) W4).drew) fun _ _ _ => id) hgrow5 hown5 (hat5.imp id fun e => by rw [e]; simp); have c5 : w5.heap[G]? = W4.heap[G]? := (hgrow5.block G (by simp; omega) (fun e => hGg (Option.some.inj e))).trans (Below.heap_alloc W4 _ _ rl); have HC5 := Lib.hid (show LNextB W base B G o cs rv0 t.kind st0 (wF ((u.v, u.ps) :: ((.slice (some ⟨b, off, none⟩) 0 0), ([] : List V)) :: st)) (w5.setCell ⟨G, o + 2, none⟩ (.slice (some ⟨g5, 0, none⟩) (st.length + 1 + 1) cap5)) from ⟨_, _, hP, by rw [HTY.out (.slice (some ⟨b, off, none⟩) 0 0) HMM.out, HUS.out], by have h1 := HTD.out.2; have h2 := (HWT.out (.slice (some ⟨b, off, none⟩) 0 0)).1; rw [HUS.out] at h2; omega, by rw [HUS.out]⟩); have f5 := (World.frozen?_of_block (w := W4) c5 : w5.frozen? ⟨G, o + 2, none⟩ = _).trans rf; have d5 := (World.cell?_of_block (w := W4) c5 : w5.cell? ⟨G, o + 2, none⟩ = _).trans r2; have l5 := hlt5; clear hown5 hgrow5 hat5 hP c5)
            all_goals
              go_wp2_with fail
              go_roundw
              case rel => exact ⟨_, HC5.out⟩
              case measure =>
                rw [HN.out]
                refine Nat.lt_of_le_of_lt ((leastOf_spec ⟨_, HC5.out⟩).2 _ HC5.out) ?_
                have := (HWT.out (.slice (some ⟨b, off, none⟩) 0 0)).1
                omega
        · have hc2 : ((1 : Int) == (rcap : Int)) = false := by simp; omega
          have hc3 : ¬ (1 : Int) = (rcap : Int) := by omega
          have HT := Lib.hid (hH.take HND.out.2.1 HND.out.2.2.2.2.1 htail)
          have hbl := hblt
          clear htail hlu hrow hcu husl hrcap hH hnd hblt hbR
          go_wp2_with fail
          go_region
          have hT3 := HT.out.drew
          have hch3 : Chg (fun x => x = g) wr (wr.setCell ⟨g, st.length, none⟩ (.slice (some ⟨b, off + 8, none⟩) us.length (rcap - 1))).drew := ((Chg.refl (fun x => x = g) wr).setCell (p := ⟨g, st.length, none⟩) (fun _ => rfl) _).drew
          have hchB : Chg (fun x => B ≤ x) wr (wr.setCell ⟨g, st.length, none⟩ (.slice (some ⟨b, off + 8, none⟩) us.length (rcap - 1))).drew := hch3.mono fun x _ e => by have := HND.out.2.1; omega
          have r0 := hT3.cell o (by omega)
          rw [HO.out.2] at r0
          have e5' := (hch3.cell (off + 5) hbl (by omega)).trans e5
          have HM3 := Lib.hid (HML.out _ hchB)
          have HU3 := Lib.hid (HU.out _ hchB)
          have HT3 := Lib.hid hT3
          clear hch3 hchB hT3 HT HML HU e5 hcell hcell0 hrest hgf
          generalize (wr.setCell ⟨g, st.length, none⟩ (.slice (some ⟨b, off + 8, none⟩) us.length (rcap - 1))).drew = W3 at *
          go_wp2_with fail
          go_at_call 40
          refine HM3.out.mono ?_
          rintro e W4 ⟨rfl, n, rfl⟩
          have HT4 := Lib.hid (HT3.out.draw n)
          have HU4 := Lib.hid (HU3.out.chg ((Chg.refl (fun x => B ≤ x) W3).drewN n))
          have r4 : (W3.drewN n).cell? ⟨G, o, none⟩ = some (.pointer (some ⟨nb, no, none⟩)) := r0
          have e54 : (W3.drewN n).cell? ⟨b, off + 5, none⟩ = some (.slice ua un uc) := e5'
          clear HT3 HU3 HM3 r0 e5'
          generalize W3.drewN n = W4 at *
          cases hm : meltK u.kind u.lo u.hi t.kind with
          | false =>
            have HMM := Lib.hid hm
            clear hm
            go_wp2_with fail
            go_ret
            refine ⟨_, _, HT4.out, .inr ⟨u, b, off, rfl, HU4.out, ?_, ?_⟩⟩
            · exact HTN.out (.slice (some ⟨b, off + 8, none⟩) us.length (rcap - 1)) HMM.out
            · have := HTD.out.2
              have := (HWT.out (.slice (some ⟨b, off + 8, none⟩) us.length (rcap - 1))).2
              omega
          | true =>
            have HMM := Lib.hid hm
            have r2 := HT4.out.rest HO.out.1
            have rf := HT4.out.fz (o + 2)
            have rl := HT4.out.lt
            have hgl4 := (HT4.out.own.lt g rfl).2
            have hgc4 := HT4.out.own.frozenAt st.length
            clear hm
            go_wp2_with fail
            go_region_law (refine step_append_lies _ rfl _ _ 51 rfl base 25 i0 (.slice none 0 0) 1 24 Try.underlying51 hi hz0 hz1 hz2 rfl (by decide) (.slice (some ⟨g, 0, none⟩) (st.length + 1) cap) (st.length + 1) ((((.slice (some ⟨b, off + 8, none⟩) us.length (rcap - 1)), us) :: st).map Prod.fst).reverse rfl (HT4.out.own.alloc _).drew ⟨W4.heap.size, 0, none⟩ 1 1 [.slice ua un uc] rfl rfl (World.news_of_block (w := (W4.alloc (.cells #[.slice ua un uc] 25)).drew) (heap_alloc_new W4 _)) (by simp [Value.oneCell']) (by decide) (by unfold maxLen; omega) (by omega) (by have := (HT4.out.own.lt g rfl).1; have := (HT4.out.own.lt g rfl).2; simp; omega) _ rfl ?_; intro g5 cap5 w5 hown5 hgrow5 hat5 hlt5; have hP := HT4.out.drew.push (r := .slice ua un uc) (ps := u.ps) (ob := .cells #[.slice ua un uc] 25) HND.out.2.1 HND.out.2.2.1 HND.out.2.2.2.2.1 (by have := laid_parts HU4.out.2.2; rw [HUS.out] at this; exact this.chg ((Chg.refl (fun _ => False) W4).drew) fun _ _ _ => id) hgrow5 hown5 (hat5.imp id fun e => by rw [e]; simp); have c5 : w5.heap[G]? = W4.heap[G]? := (hgrow5.block G (by simp; omega) (fun e => hGg (Option.some.inj e))).trans (Below.heap_alloc W4 _ _ rl); have HC5 := Lib.hid (show LNextB W base B G o cs rv0 t.kind st0 (wF ((u.v, u.ps) :: ((.slice (some ⟨b, off + 8, none⟩) us.length (rcap - 1)), us) :: st)) (w5.setCell ⟨G, o + 2, none⟩ (.slice (some ⟨g5, 0, none⟩) (st.length + 1 + 1) cap5)) from ⟨_, _, hP, by rw [HTY.out (.slice (some ⟨b, off + 8, none⟩) us.length (rcap - 1)) HMM.out, HUS.out], by have h1 := HTD.out.2; have h2 := (HWT.out (.slice (some ⟨b, off + 8, none⟩) us.length (rcap - 1))).1; rw [HUS.out] at h2; omega, by rw [HUS.out]⟩); have f5 := (World.frozen?_of_block (w := W4) c5 : w5.frozen? ⟨G, o + 2, none⟩ = _).trans rf; have d5 := (World.cell?_of_block (w := W4) c5 : w5.cell? ⟨G, o + 2, none⟩ = _).trans r2; have l5 := hlt5; clear hown5 hgrow5 hat5 hP c5)
            all_goals
              go_wp2_with fail
              go_roundw
              case rel => exact ⟨_, HC5.out⟩
              case measure =>
                rw [HN.out]
                refine Nat.lt_of_le_of_lt ((leastOf_spec ⟨_, HC5.out⟩).2 _ HC5.out) ?_
                have := (HWT.out (.slice (some ⟨b, off + 8, none⟩) us.length (rcap - 1))).1
                omega

end Go.Proofs.Ytcnjogkgfdbhfaa

/- What the call that opens a group comes to: a contract.
   Conditions: the node lies in memory. -/
namespace Go.Proofs.Ytcnjogkgfdbhfaa
open Go.RowKit Go.Shelf

def OpenedRB (B : Nat) (W : World) (nb no : Nat) (t : V) (e : Ending) (w' : World) : Prop :=
  ∃ rv st, e = .returned (.agg #[.pointer (some ⟨nb, no, none⟩), .slice none 0 0, rv]) ∧ w'.ownsRow W.heap.size 25 1 rv st.length (st.map Prod.fst).reverse ∧
    (∀ p ∈ st, Laid w' (fun x => x < B) (.node 0 zeros 0 0 p.1 p.2)) ∧ todoF t.kind st = flatsV t.kind t.ps ∧ wF st ≤ 3 * szsT (erases t.ps) + 1 ∧ Below W.heap.size W w'

set_option maxHeartbeats 2000000 in
set_option maxRecDepth 100000 in
theorem opened_anyB (B nb no : Nat) (t : V) (W : World) (h : NodeB B W nb no t) : Calls Try.prog 34 #[.pointer (some ⟨nb, no, none⟩)] W (OpenedRB B W nb no t) := by
  obtain ⟨sa, sc, hv, _⟩ := laid_row' h.2.2
  have e5 : W.cell? ⟨nb, no + 5, none⟩ = some (.slice sa t.ps.length sc) := h.five hv
  have hlt := h.at.lt
  have hne : nb ≠ W.heap.size := by omega
  have HL := Lib.hid (And.intro h.2.2 hv)
  by_cases h0 : t.ps = []
  · have HT := Lib.hid h0
    rw [h0] at e5
    simp only [List.length_nil] at e5
    clear h h0 hv
    go_enter Try.func34, Try.ntmps34
    go_wp2_with fail
    refine bodyPost_ret (v := .agg #[.pointer (some ⟨nb, no, none⟩), .slice none 0 0, .slice none 0 0]) (by simp [results, Try.results34, go_sem]) rfl ?_
    refine ⟨_, [], rfl, World.ownsRow_nil _ _ _ _, by simp, by rw [HT.out, todoF, flatsV], by rw [wF]; omega, ?_⟩
    exact (Below.refl _ W).alloc (Nat.le_refl _) _
  · have hn : ((t.ps.length : Int) == 0) = false := by
      have : t.ps.length ≠ 0 := fun e => h0 (List.eq_nil_of_length_eq_zero e)
      simp; omega
    have hn2 : (0 : Int) ≤ (t.ps.length : Int) := by omega
    clear h h0 hv
    go_enter Try.func34, Try.ntmps34
    go_wp2_with fail
    refine bodyPost_ret (v := .agg #[.pointer (some ⟨nb, no, none⟩), .slice none 0 0, .slice (some ⟨W.heap.size + 1, 0, none⟩) 1 1]) (by simp [results, Try.results34, go_sem]) rfl ?_
    have hch : Below W.heap.size W ((W.alloc (.cells #[.pointer (some ⟨nb, no, none⟩), .slice none 0 0, .slice (some ⟨W.heap.size + 1, 0, none⟩) 1 1] 62)).alloc (.cells #[.slice sa t.ps.length sc] 25)) := ((Below.refl _ W).alloc (Nat.le_refl _) _).alloc (by simp) _
    refine ⟨_, [(.slice sa t.ps.length sc, t.ps)], rfl, ?_, fun p hp => ?_, by rw [todoF, todoF, List.append_nil], by simp only [wF]; omega, hch⟩
    · have := World.ownsRow_lit (e := 25) (size := 1) (base := W.heap.size) (W.alloc (.cells #[.pointer (some ⟨nb, no, none⟩), .slice none 0 0, .slice (some ⟨W.heap.size + 1, 0, none⟩) 1 1] 62)) #[.slice sa t.ps.length sc] 1 (by simp) (by unfold maxLen; omega) rfl
      rw [World.size_alloc] at this
      exact this
    · simp at hp
      subst hp
      have := laid_parts HL.out.1
      rw [HL.out.2] at this
      exact laid_low' this hch

end Go.Proofs.Ytcnjogkgfdbhfaa

/- What folding a tree by voidOf comes to: a contract.
   Conditions: the tree lies in memory; what the function gives, of a node and of what it gave of the node's parts, is taken as known. -/
namespace Go.Proofs.Ytcnjogkgfdbhfaa
open Go.RowKit Go.Shelf

def LFoldV (w : World) (B : Nat) (F : V → List Value) (S : V → Prop) (root : V) (n : Nat) (ov : Value) (wr : World) : Prop :=
  ∃ f fs, StkI w B 62 4 1 F S (f :: fs) ov wr ∧ flatsV f.t.kind f.t.ps = f.ds ++ todoF f.t.kind f.st ∧ ChainB root f.t fs ∧ n = wFs (f :: fs) ∧ n ≤ 1000000
theorem infoGrpV : (Try.prog.info? 62).map (fun i => (i.zero, i.size, i.bytes)) = some (some (.agg #[.pointer none, .slice none 0 0, .slice none 0 0]), 3, 56) := by kernel_rfl
theorem infoBoolV : (Try.prog.info? 4).map (fun i => (i.zero, i.size, i.bytes)) = some (some (.bool false), 1, 1) := by kernel_rfl

set_option maxHeartbeats 8000000 in
set_option maxRecDepth 100000 in
theorem fold_V (B nb no : Nat) (root : V) (w : World) (S : V → Prop) (Fb : V → Bool) (hS : ∀ t p, S t → p ∈ flatsV t.kind t.ps → S p) (hroot : NodeB B w nb no root) (hSr : S root) (hB : B ≤ w.heap.size) (hsz : 3 * szsT (erases root.ps) + 10 ≤ 1000000) (hSz : ∀ t, S t → szT (erase t) ≤ 1000000)
    (hOf : ∀ (W : World) (b o : Nat) (t : V) (pv : Value), NodeB B W b o t → S t → Below w.heap.size w W → W.ownsRow w.heap.size 4 1 pv (flatsV t.kind t.ps).length ((flatsV t.kind t.ps).flatMap fun p => [.bool (Fb p)]) →
      Calls Try.prog 24 #[.pointer (some ⟨b, o, none⟩), pv] W fun e w' => e = .returned (.bool (Fb t)) ∧ Below W.heap.size W w') :
    Calls Try.prog 23 #[.pointer (some ⟨nb, no, none⟩), .func (.func 24) #[] #[]] w fun e w' => e = .returned (.bool (Fb root)) ∧ Below w.heap.size w w' := by
  obtain ⟨i0, hi, hz0, hz1, hz2⟩ := info_parts infoGrpV
  obtain ⟨j0, hj, hy0, hy1, hy2⟩ := info_parts infoBoolV
  have h1 : 62 ≠ 25 := by decide
  have h2 : 4 ≠ 25 := by decide
  have h3 : 4 ≠ 62 := by decide
  have HO := Lib.hid hOf
  have HD := Lib.hid (And.intro hS (And.intro hB hsz))
  have HSZ := Lib.hid hSz
  have HOP := Lib.hid (opened_anyB B nb no root w hroot)
  have HRT := Lib.hid (And.intro hroot hSr)
  have HTY := Lib.hid (And.intro h1 (And.intro h2 h3))
  clear hSz hOf hS hB hsz hroot hSr h1 h2 h3
  go_enter Try.func23, Try.ntmps23
  go_wp2_with fail
  go_at_call 34
  refine HOP.out.mono ?_
  rintro e w1 ⟨rv, st, rfl, hown, hrows, htd, hwt, hb1⟩
  have HST := Lib.hid (show LFoldV w B (fun p => [.bool (Fb p)]) S root (wFs [⟨nb, no, root, [], .slice none 0 0, rv, st⟩]) (.slice (some ⟨w1.heap.size, 0, none⟩) 1 1) (w1.alloc (.cells #[.pointer (some ⟨nb, no, none⟩), .slice none 0 0, rv] 62)) by
    have hbw : Below w1.heap.size w1 (w1.alloc (.cells #[.pointer (some ⟨nb, no, none⟩), .slice none 0 0, rv] 62)) := (Below.refl _ w1).alloc (Nat.le_refl _) _
    refine ⟨⟨nb, no, root, [], .slice none 0 0, rv, st⟩, [], ⟨?_, fun f hf => ?_, ?_, ?_, bhop hb1 hbw⟩, by rw [htd]; rfl, rfl, rfl, ?_⟩
    · exact World.ownsRow_lit (e := 62) (size := 3) (base := w.heap.size) w1 #[.pointer (some ⟨nb, no, none⟩), .slice none 0 0, rv] 1 hb1.size (by unfold maxLen; omega) rfl
    · simp at hf
      subst hf
      exact ⟨(HRT.out.1.chg (Chg.of_below hb1)).chg (Chg.of_below hbw), HRT.out.2, World.ownsRow_nil _ _ _ _, hown.alloc _, fun p hp => laid_low' (hrows p hp) hbw⟩
    · rw [List.filterMap_cons]; split <;> simp
    · simp [Value.ownBlock]
    · have := HD.out.2.2
      simp only [wFs]
      omega)
  clear hown hrows htd hwt hb1
  go_wp2_with fail
  go_loopw [5] (fun ov wr => ∃ n, LFoldV w B (fun p => [.bool (Fb p)]) S root n ov wr) (fun ov wr => leastOf (fun n => LFoldV w B (fun p => [.bool (Fb p)]) S root n ov wr))
  case atStart => exact ⟨_, HST.out⟩
  case round =>
    clear HST
    have hls := (leastOf_spec hrel).1
    obtain ⟨f, fs, hI, hch, hcb, hN, hn⟩ := hls
    obtain ⟨g, cap, rfl⟩ := ownsRow_succ hI.own
    obtain ⟨cs, hcs, hcv⟩ := own_cells hI.own
    have hf := hI.fr f (by simp)
    have hlen : fs.length + 1 ≤ 1000000 := by have := wFs_len (f :: fs); simp only [List.length_cons] at this; omega
    have hrv : (((f :: fs).reverse.flatMap fcells)).length = (fs.length + 1) * 3 := by rw [fcells_len]; simp
    have hx : ∀ j, j < 3 → cs[fs.length * 3 + j]? = (fcells f)[j]? := fun j hj => by
      rw [hcv _ (by omega), rev_cells, List.getElem?_append_right (by rw [fcells_len, List.length_reverse]; omega), fcells_len, List.length_reverse]
      congr 1
      omega
    have hNX := Lib.hid (next_anyB wr w.heap.size B g (fs.length * 3) f.nb f.no cs f.rv f.t f.st hf.rest hf.rows hcs (hx 2 (by omega)) (hx 0 (by omega)) hf.node HD.out.2.1 (Nat.le_trans HD.out.2.1 (hI.own.lt g rfl).1) hI.below.size (by rw [wFs] at hN; omega))
    have HI := Lib.hid (And.intro hI (And.intro hch (And.intro hcb (And.intro hN hn))))
    have HC := Lib.hid (And.intro hcs (And.intro hx hcv))
    have hgl := (hI.own.lt g rfl).2
    have hcap : (fs.length : Int) + 1 ≤ (cap : Int) := by
      rcases hI.own.2 with ⟨h1, _⟩ | ⟨g', cap', cur, hv, _, _, hle, _⟩
      · cases h1
      · simp only [Value.slice.injEq, List.length_cons] at hv hle; omega
    have m1 : (0 : Int) ≤ (fs.length : Int) := by omega
    have m2 : (0 : Int) < (fs.length : Int) + 1 := by omega
    have m3 : (fs.length : Int) < (fs.length : Int) + 1 := by omega
    have m4 : (fs.length : Int) ≤ 2000000 := by omega
    clear hI hch hcb hN hn hcs hcv hf hx hrv hrel
    go_wp2_with fail
    go_at_call 35
    refine hNX.out.mono ?_
    rintro e w1 ⟨st', rv', hNH, ⟨htd, rfl, rfl⟩ | ⟨p, pb, po, rfl, hnp, htd, hwt⟩⟩
    · have HI1 := Lib.hid (HI.out.1.next HD.out.2.1 HTY.out.1 HTY.out.2.1 HTY.out.2.2 HC.out.1 hNH.drew)
      have y0 : w1.cell? ⟨g, fs.length * 3, none⟩ = some (.pointer (some ⟨f.nb, f.no, none⟩)) := by rw [hNH.cell _ (by omega)]; exact HC.out.2.1 0 (by omega)
      have y1 : w1.cell? ⟨g, fs.length * 3 + 1, none⟩ = some f.pv := by rw [hNH.cell _ (by omega)]; exact HC.out.2.1 1 (by omega)
      have hds : flatsV f.t.kind f.t.ps = f.ds := by rw [HI.out.2.1, htd, List.append_nil]
      have hf1 := HI1.out.fr _ (List.mem_cons_self ..)
      have HOF := Lib.hid (HO.out w1.drew f.nb f.no f.t f.pv hf1.node hf1.s HI1.out.below (by rw [hds]; exact hf1.parts))
      have hgl1 : g < w1.heap.size := (HI1.out.own.lt g rfl).2
      cases fs with
      | nil =>
        simp only [List.length_nil] at m1 m2 m3 m4 hcap hlen
        simp only [List.length_nil, Nat.zero_mul, Nat.zero_add] at y0 y1
        have HRT2 := Lib.hid (show f.t = root from HI.out.2.2.1)
        clear hNH htd hds hf1 hNX
        go_wp2_with fail
        go_region_with (go_at_call 24; refine HOF.out.mono ?_; rintro e w2 ⟨rfl, hb2⟩; have HB2 := Lib.hid hb2; clear hb2)
        all_goals
          go_wp2_with fail
          go_ret
          exact ⟨by rw [HRT2.out]; rfl, bhop HI1.out.below HB2.out⟩
      | cons f2 fs =>
        simp only [List.length_cons] at hcap hlen y0 y1
        clear m1 m2 m3 m4
        have n1 : (0 : Int) ≤ (fs.length : Int) := by omega
        have n2 : (0 : Int) ≤ (fs.length : Int) + 1 := by omega
        have n3 : (fs.length : Int) < (fs.length : Int) + 1 := by omega
        have n4 : (fs.length : Int) + 1 < (fs.length : Int) + 1 + 1 := by omega
        have n5 : (fs.length : Int) + 1 ≤ 2000000 := by omega
        have n6 : (fs.length : Int) + 1 + 1 ≤ (cap : Int) := by omega
        have n7 : (fs.length : Int) + 1 ≤ (fs.length : Int) + 1 + 1 := by omega
        clear hcap
        have y2 : w1.cell? ⟨g, fs.length * 3 + 1, none⟩ = some f2.pv := by
          rw [hNH.cell _ (by simp only [List.length_cons]; omega), HC.out.2.2 _ (by simp only [List.length_cons]; omega), rev_cells, List.getElem?_append_left (by rw [fcells_len, List.length_reverse, List.length_cons]; omega), rev_cells,
            List.getElem?_append_right (by rw [fcells_len, List.length_reverse]; omega), fcells_len, List.length_reverse, show fs.length * 3 + 1 - fs.length * 3 = 1 by omega]
          rfl
        have m5 : ((fs.length : Int) + 1 == 0) = false := by simp; omega
        have m6 : ¬ (fs.length : Int) + 1 = 0 := by omega
        have hcap2 : (fs.length : Int) + 1 ≤ (cap : Int) := by omega
        have hown2 := (HI1.out.fr f2 (by simp)).parts
        obtain ⟨A2, c2, hpv2⟩ := own_form hown2
        have hlen2 : f2.ds.length ≤ 1000000 := by
          have h4 := HSZ.out _ (HI1.out.fr f2 (by simp)).s
          have h5 := flats_len f2.t.kind f2.t.ps
          rw [HI.out.2.2.1.1, List.length_append] at h5
          rw [sz_eq] at h4
          omega
        have HOW := Lib.hid hown2
        rw [hpv2] at y2
        clear hNH htd hds hf1 hNX hown2
        go_wp2_with fail
        go_region_with (go_at_call 24; refine HOF.out.mono ?_; rintro e w2 ⟨rfl, hb2⟩; have HB2 := Lib.hid hb2; have z2 := (hb2.cell (p := ⟨g, fs.length * 3 + 1, none⟩) hgl1).trans y2; have zl := Nat.lt_of_lt_of_le hgl1 hb2.size; have zf : w2.frozen? ⟨g, fs.length * 3 + 1, none⟩ = false := (World.frozen?_of_block (w := w1.drew) (hb2.block g hgl1)).trans (HI1.out.own.frozenAt _); clear hb2 y0 y1 y2)
        all_goals
          go_wp2_with ((at_builtin; refine wpList_append_lies _ (by rfl) _ _ 60 (by rfl) w.heap.size 4 j0 _ 1 1 Try.underlying60 hj hy0 hy1 hy2 rfl (by decide) (.slice A2 f2.ds.length c2) f2.ds.length (f2.ds.flatMap fun p => [.bool (Fb p)]) (by rfl) ((own_chg (hpv2 ▸ HOW.out) (Chg.of_below (R := fun _ => False) HB2.out) fun _ _ => id).alloc _) ⟨w2.heap.size, 0, none⟩ 1 1 [.bool (Fb f.t)] (by rfl) ?c0 ?c1 ?c2 (by decide) ?c3 ?c4 ?c5 _ rfl ?_))
          case c0 => rfl
          case c1 => exact World.news_of_block (heap_alloc_new w2 _)
          case c2 => simp [Value.oneCell']
          case c3 => unfold maxLen; omega
          case c4 => omega
          case c5 => have := (bhop HI1.out.below HB2.out).size; simp; omega
          intro g5 cap5 w5 hown5 hgrow5 hat5 hlt5
          have c5 : w5.heap[g]? = w2.heap[g]? := (hgrow5.block g (by simp; omega) (fun e => own_type HOW.out HI1.out.own HTY.out.2.2 (x := g) (by rw [hpv2]; exact e.symm) rfl)).trans (Below.heap_alloc w2 _ _ zl)
          have d5 := (World.cell?_of_block (w := w2) c5 : w5.cell? ⟨g, fs.length * 3 + 1, none⟩ = _).trans z2
          have f5 := (World.frozen?_of_block (w := w2) c5 : w5.frozen? ⟨g, fs.length * 3 + 1, none⟩ = _).trans zf
          have HP := Lib.hid (StkI.pop HI1.out HTY.out.1 HTY.out.2.1 HTY.out.2.2 HB2.out (hpv2 ▸ hgrow5) hown5 (fun x hx => by
            have e1 : g5 = x := Option.some.inj hx
            rw [hpv2]
            rcases hat5 with e | e
            · exact .inl (e1 ▸ e)
            · exact .inr (by rw [← e1, e]; exact Nat.le_trans HB2.out.size (Nat.le_succ _))) HD.out.2.1)
          clear hown5 hgrow5 hat5 c5 z2 zf
          go_wp2_with fail
          go_roundw
          case rel => exact ⟨_, _, _, HP.out, by rw [HI.out.2.2.1.1]; simp, HI.out.2.2.1.2, rfl, by have h4 := HI.out.2.2.2.1; have h5 := HI.out.2.2.2.2; simp only [wFs] at h4 h5 ⊢; omega⟩
          case measure =>
            refine Nat.lt_of_le_of_lt ((leastOf_spec ⟨_, _, _, HP.out, by rw [HI.out.2.2.1.1]; simp, HI.out.2.2.1.2, rfl, by have h4 := HI.out.2.2.2.1; have h5 := HI.out.2.2.2.2; simp only [wFs] at h4 h5 ⊢; omega⟩).2 _ ⟨_, _, HP.out, by rw [HI.out.2.2.1.1]; simp, HI.out.2.2.1.2, rfl, by have h4 := HI.out.2.2.2.1; have h5 := HI.out.2.2.2.2; simp only [wFs] at h4 h5 ⊢; omega⟩) ?_
            rw [HI.out.2.2.2.1]
            simp only [wFs]
            omega
    · have HI1 := Lib.hid (HI.out.1.next HD.out.2.1 HTY.out.1 HTY.out.2.1 HTY.out.2.2 HC.out.1 hNH)
      have HOP1 := Lib.hid (opened_anyB B pb po p w1 hnp)
      have hmem : p ∈ flatsV f.t.kind f.t.ps := by rw [HI.out.2.1, htd]; simp
      have HPS := Lib.hid (HD.out.1 f.t p (HI1.out.fr _ (List.mem_cons_self ..)).s hmem)
      have HNP := Lib.hid (And.intro hnp (And.intro htd hwt))
      have hgl1 : g < w1.heap.size := (HI1.out.own.lt g rfl).2
      clear hNH hnp htd hwt hNX hmem
      go_wp2_with fail
      go_at_call 34
      refine HOP1.out.mono ?_
      rintro e w2 ⟨rv2, st2, rfl, hown2, hrows2, htd2, hwt2, hb2⟩
      have H24 := Lib.hid (show FrOk B w.heap.size 4 1 (fun p => [.bool (Fb p)]) S ⟨pb, po, p, [], .slice none 0 0, rv2, st2⟩ w2 from ⟨HNP.out.1.chg (Chg.of_below hb2), HPS.out, World.ownsRow_nil _ _ _ _, own_low hown2 HI1.out.below.size, hrows2⟩)
      have HR2 := Lib.hid (And.intro (fun x hx => (hown2.lt x hx).1) (And.intro htd2 (And.intro hwt2 hb2)))
      have zl := Nat.lt_of_lt_of_le hgl1 hb2.size
      have zw : w.heap.size ≤ w2.heap.size := (bhop HI1.out.below hb2).size
      clear hown2 hrows2 htd2 hwt2 hb2
      go_wp2_with ((at_builtin; refine wpList_append_lies _ (by rfl) _ _ 64 (by rfl) w.heap.size 62 i0 _ 3 56 Try.underlying64 hi hz0 hz1 hz2 rfl (by decide) (.slice (some ⟨g, 0, none⟩) (fs.length + 1) cap) (fs.length + 1) (({ f with st := st', rv := rv' } :: fs).reverse.flatMap fcells) (by rfl) ((own_chg HI1.out.own (Chg.of_below (R := fun _ => False) HR2.out.2.2.2) fun _ _ => id).alloc _) ⟨w2.heap.size, 0, none⟩ 1 1 [.pointer (some ⟨pb, po, none⟩), .slice none 0 0, rv2] (by rfl) ?c0 ?c1 ?c2 (by decide) ?c3 ?c4 ?c5 _ rfl ?_))
      case c0 => rfl
      case c1 => exact World.news_of_block (heap_alloc_new w2 _)
      case c2 =>
        obtain ⟨A3, c3, e3⟩ := own_form H24.out.rest
        simp only at e3
        rw [e3]
        simp [Value.oneCell']
      case c3 => unfold maxLen; omega
      case c4 => omega
      case c5 => simp; omega
      intro g5 cap5 w5 hown5 hgrow5 hat5 hlt5
      have HP := Lib.hid (StkI.push HI1.out HTY.out.1 HTY.out.2.2 HR2.out.2.2.2 H24.out rfl (fun x hx => HR2.out.1 x hx) hgrow5 (by rw [rev_cells, List.append_assoc]; exact hown5) HD.out.2.1)
      have hm1 : wFs (⟨pb, po, p, [], .slice none 0 0, rv2, st2⟩ :: { f with st := st', rv := rv' } :: fs) < wFs (f :: fs) := by
        have h4 := HNP.out.2.2
        have h5 := HR2.out.2.2.1
        rw [sz_eq] at h4
        simp only [wFs]
        omega
      have HL := Lib.hid (show LFoldV w B (fun p => [.bool (Fb p)]) S root (wFs (⟨pb, po, p, [], .slice none 0 0, rv2, st2⟩ :: { f with st := st', rv := rv' } :: fs)) (.slice (some ⟨g5, 0, none⟩) (fs.length + 1 + 1) cap5) w5 from
        ⟨_, _, HP.out, by rw [HR2.out.2.1]; rfl, ⟨by rw [HI.out.2.1, HNP.out.2.1], HI.out.2.2.1⟩, rfl, by have h4 := HI.out.2.2.2.1; have h5 := HI.out.2.2.2.2; omega⟩)
      have HM1 := Lib.hid hm1
      clear hown5 hgrow5 hat5 hm1
      go_wp2_with fail
      go_roundw
      case rel => exact ⟨_, HL.out⟩
      case measure =>
        refine Nat.lt_of_le_of_lt ((leastOf_spec ⟨_, HL.out⟩).2 _ HL.out) ?_
        rw [HI.out.2.2.2.1]
        exact HM1.out

end Go.Proofs.Ytcnjogkgfdbhfaa

/- What folding a tree by nullableOf comes to: a contract.
   Conditions: the tree lies in memory; what the function gives, of a node and of what it gave of the node's parts, is taken as known. -/
namespace Go.Proofs.Ytcnjogkgfdbhfaa
open Go.RowKit Go.Shelf

def LFoldN (w : World) (B : Nat) (F : V → List Value) (S : V → Prop) (root : V) (n : Nat) (ov : Value) (wr : World) : Prop :=
  ∃ f fs, StkI w B 62 4 1 F S (f :: fs) ov wr ∧ flatsV f.t.kind f.t.ps = f.ds ++ todoF f.t.kind f.st ∧ ChainB root f.t fs ∧ n = wFs (f :: fs) ∧ n ≤ 1000000
theorem infoGrpN : (Try.prog.info? 62).map (fun i => (i.zero, i.size, i.bytes)) = some (some (.agg #[.pointer none, .slice none 0 0, .slice none 0 0]), 3, 56) := by kernel_rfl
theorem infoBoolN : (Try.prog.info? 4).map (fun i => (i.zero, i.size, i.bytes)) = some (some (.bool false), 1, 1) := by kernel_rfl

set_option maxHeartbeats 8000000 in
set_option maxRecDepth 100000 in
theorem fold_N (B nb no : Nat) (root : V) (w : World) (S : V → Prop) (Fb : V → Bool) (hS : ∀ t p, S t → p ∈ flatsV t.kind t.ps → S p) (hroot : NodeB B w nb no root) (hSr : S root) (hB : B ≤ w.heap.size) (hsz : 3 * szsT (erases root.ps) + 10 ≤ 1000000) (hSz : ∀ t, S t → szT (erase t) ≤ 1000000)
    (hOf : ∀ (W : World) (b o : Nat) (t : V) (pv : Value), NodeB B W b o t → S t → Below w.heap.size w W → W.ownsRow w.heap.size 4 1 pv (flatsV t.kind t.ps).length ((flatsV t.kind t.ps).flatMap fun p => [.bool (Fb p)]) →
      Calls Try.prog 25 #[.pointer (some ⟨b, o, none⟩), pv] W fun e w' => e = .returned (.bool (Fb t)) ∧ Below W.heap.size W w') :
    Calls Try.prog 23 #[.pointer (some ⟨nb, no, none⟩), .func (.func 25) #[] #[]] w fun e w' => e = .returned (.bool (Fb root)) ∧ Below w.heap.size w w' := by
  obtain ⟨i0, hi, hz0, hz1, hz2⟩ := info_parts infoGrpN
  obtain ⟨j0, hj, hy0, hy1, hy2⟩ := info_parts infoBoolN
  have h1 : 62 ≠ 25 := by decide
  have h2 : 4 ≠ 25 := by decide
  have h3 : 4 ≠ 62 := by decide
  have HO := Lib.hid hOf
  have HD := Lib.hid (And.intro hS (And.intro hB hsz))
  have HSZ := Lib.hid hSz
  have HOP := Lib.hid (opened_anyB B nb no root w hroot)
  have HRT := Lib.hid (And.intro hroot hSr)
  have HTY := Lib.hid (And.intro h1 (And.intro h2 h3))
  clear hSz hOf hS hB hsz hroot hSr h1 h2 h3
  go_enter Try.func23, Try.ntmps23
  go_wp2_with fail
  go_at_call 34
  refine HOP.out.mono ?_
  rintro e w1 ⟨rv, st, rfl, hown, hrows, htd, hwt, hb1⟩
  have HST := Lib.hid (show LFoldN w B (fun p => [.bool (Fb p)]) S root (wFs [⟨nb, no, root, [], .slice none 0 0, rv, st⟩]) (.slice (some ⟨w1.heap.size, 0, none⟩) 1 1) (w1.alloc (.cells #[.pointer (some ⟨nb, no, none⟩), .slice none 0 0, rv] 62)) by
    have hbw : Below w1.heap.size w1 (w1.alloc (.cells #[.pointer (some ⟨nb, no, none⟩), .slice none 0 0, rv] 62)) := (Below.refl _ w1).alloc (Nat.le_refl _) _
    refine ⟨⟨nb, no, root, [], .slice none 0 0, rv, st⟩, [], ⟨?_, fun f hf => ?_, ?_, ?_, bhop hb1 hbw⟩, by rw [htd]; rfl, rfl, rfl, ?_⟩
    · exact World.ownsRow_lit (e := 62) (size := 3) (base := w.heap.size) w1 #[.pointer (some ⟨nb, no, none⟩), .slice none 0 0, rv] 1 hb1.size (by unfold maxLen; omega) rfl
    · simp at hf
      subst hf
      exact ⟨(HRT.out.1.chg (Chg.of_below hb1)).chg (Chg.of_below hbw), HRT.out.2, World.ownsRow_nil _ _ _ _, hown.alloc _, fun p hp => laid_low' (hrows p hp) hbw⟩
    · rw [List.filterMap_cons]; split <;> simp
    · simp [Value.ownBlock]
    · have := HD.out.2.2
      simp only [wFs]
      omega)
  clear hown hrows htd hwt hb1
  go_wp2_with fail
  go_loopw [5] (fun ov wr => ∃ n, LFoldN w B (fun p => [.bool (Fb p)]) S root n ov wr) (fun ov wr => leastOf (fun n => LFoldN w B (fun p => [.bool (Fb p)]) S root n ov wr))
  case atStart => exact ⟨_, HST.out⟩
  case round =>
    clear HST
    have hls := (leastOf_spec hrel).1
    obtain ⟨f, fs, hI, hch, hcb, hN, hn⟩ := hls
    obtain ⟨g, cap, rfl⟩ := ownsRow_succ hI.own
    obtain ⟨cs, hcs, hcv⟩ := own_cells hI.own
    have hf := hI.fr f (by simp)
    have hlen : fs.length + 1 ≤ 1000000 := by have := wFs_len (f :: fs); simp only [List.length_cons] at this; omega
    have hrv : (((f :: fs).reverse.flatMap fcells)).length = (fs.length + 1) * 3 := by rw [fcells_len]; simp
    have hx : ∀ j, j < 3 → cs[fs.length * 3 + j]? = (fcells f)[j]? := fun j hj => by
      rw [hcv _ (by omega), rev_cells, List.getElem?_append_right (by rw [fcells_len, List.length_reverse]; omega), fcells_len, List.length_reverse]
      congr 1
      omega
    have hNX := Lib.hid (next_anyB wr w.heap.size B g (fs.length * 3) f.nb f.no cs f.rv f.t f.st hf.rest hf.rows hcs (hx 2 (by omega)) (hx 0 (by omega)) hf.node HD.out.2.1 (Nat.le_trans HD.out.2.1 (hI.own.lt g rfl).1) hI.below.size (by rw [wFs] at hN; omega))
    have HI := Lib.hid (And.intro hI (And.intro hch (And.intro hcb (And.intro hN hn))))
    have HC := Lib.hid (And.intro hcs (And.intro hx hcv))
    have hgl := (hI.own.lt g rfl).2
    have hcap : (fs.length : Int) + 1 ≤ (cap : Int) := by
      rcases hI.own.2 with ⟨h1, _⟩ | ⟨g', cap', cur, hv, _, _, hle, _⟩
      · cases h1
      · simp only [Value.slice.injEq, List.length_cons] at hv hle; omega
    have m1 : (0 : Int) ≤ (fs.length : Int) := by omega
    have m2 : (0 : Int) < (fs.length : Int) + 1 := by omega
    have m3 : (fs.length : Int) < (fs.length : Int) + 1 := by omega
    have m4 : (fs.length : Int) ≤ 2000000 := by omega
    clear hI hch hcb hN hn hcs hcv hf hx hrv hrel
    go_wp2_with fail
    go_at_call 35
    refine hNX.out.mono ?_
    rintro e w1 ⟨st', rv', hNH, ⟨htd, rfl, rfl⟩ | ⟨p, pb, po, rfl, hnp, htd, hwt⟩⟩
    · have HI1 := Lib.hid (HI.out.1.next HD.out.2.1 HTY.out.1 HTY.out.2.1 HTY.out.2.2 HC.out.1 hNH.drew)
      have y0 : w1.cell? ⟨g, fs.length * 3, none⟩ = some (.pointer (some ⟨f.nb, f.no, none⟩)) := by rw [hNH.cell _ (by omega)]; exact HC.out.2.1 0 (by omega)
      have y1 : w1.cell? ⟨g, fs.length * 3 + 1, none⟩ = some f.pv := by rw [hNH.cell _ (by omega)]; exact HC.out.2.1 1 (by omega)
      have hds : flatsV f.t.kind f.t.ps = f.ds := by rw [HI.out.2.1, htd, List.append_nil]
      have hf1 := HI1.out.fr _ (List.mem_cons_self ..)
      have HOF := Lib.hid (HO.out w1.drew f.nb f.no f.t f.pv hf1.node hf1.s HI1.out.below (by rw [hds]; exact hf1.parts))
      have hgl1 : g < w1.heap.size := (HI1.out.own.lt g rfl).2
      cases fs with
      | nil =>
        simp only [List.length_nil] at m1 m2 m3 m4 hcap hlen
        simp only [List.length_nil, Nat.zero_mul, Nat.zero_add] at y0 y1
        have HRT2 := Lib.hid (show f.t = root from HI.out.2.2.1)
        clear hNH htd hds hf1 hNX
        go_wp2_with fail
        go_region_with (go_at_call 25; refine HOF.out.mono ?_; rintro e w2 ⟨rfl, hb2⟩; have HB2 := Lib.hid hb2; clear hb2)
        all_goals
          go_wp2_with fail
          go_ret
          exact ⟨by rw [HRT2.out]; rfl, bhop HI1.out.below HB2.out⟩
      | cons f2 fs =>
        simp only [List.length_cons] at hcap hlen y0 y1
        clear m1 m2 m3 m4
        have n1 : (0 : Int) ≤ (fs.length : Int) := by omega
        have n2 : (0 : Int) ≤ (fs.length : Int) + 1 := by omega
        have n3 : (fs.length : Int) < (fs.length : Int) + 1 := by omega
        have n4 : (fs.length : Int) + 1 < (fs.length : Int) + 1 + 1 := by omega
        have n5 : (fs.length : Int) + 1 ≤ 2000000 := by omega
        have n6 : (fs.length : Int) + 1 + 1 ≤ (cap : Int) := by omega
        have n7 : (fs.length : Int) + 1 ≤ (fs.length : Int) + 1 + 1 := by omega
        clear hcap
        have y2 : w1.cell? ⟨g, fs.length * 3 + 1, none⟩ = some f2.pv := by
          rw [hNH.cell _ (by simp only [List.length_cons]; omega), HC.out.2.2 _ (by simp only [List.length_cons]; omega), rev_cells, List.getElem?_append_left (by rw [fcells_len, List.length_reverse, List.length_cons]; omega), rev_cells,
            List.getElem?_append_right (by rw [fcells_len, List.length_reverse]; omega), fcells_len, List.length_reverse, show fs.length * 3 + 1 - fs.length * 3 = 1 by omega]
          rfl
        have m5 : ((fs.length : Int) + 1 == 0) = false := by simp; omega
        have m6 : ¬ (fs.length : Int) + 1 = 0 := by omega
        have hcap2 : (fs.length : Int) + 1 ≤ (cap : Int) := by omega
        have hown2 := (HI1.out.fr f2 (by simp)).parts
        obtain ⟨A2, c2, hpv2⟩ := own_form hown2
        have hlen2 : f2.ds.length ≤ 1000000 := by
          have h4 := HSZ.out _ (HI1.out.fr f2 (by simp)).s
          have h5 := flats_len f2.t.kind f2.t.ps
          rw [HI.out.2.2.1.1, List.length_append] at h5
          rw [sz_eq] at h4
          omega
        have HOW := Lib.hid hown2
        rw [hpv2] at y2
        clear hNH htd hds hf1 hNX hown2
        go_wp2_with fail
        go_region_with (go_at_call 25; refine HOF.out.mono ?_; rintro e w2 ⟨rfl, hb2⟩; have HB2 := Lib.hid hb2; have z2 := (hb2.cell (p := ⟨g, fs.length * 3 + 1, none⟩) hgl1).trans y2; have zl := Nat.lt_of_lt_of_le hgl1 hb2.size; have zf : w2.frozen? ⟨g, fs.length * 3 + 1, none⟩ = false := (World.frozen?_of_block (w := w1.drew) (hb2.block g hgl1)).trans (HI1.out.own.frozenAt _); clear hb2 y0 y1 y2)
        all_goals
          go_wp2_with ((at_builtin; refine wpList_append_lies _ (by rfl) _ _ 60 (by rfl) w.heap.size 4 j0 _ 1 1 Try.underlying60 hj hy0 hy1 hy2 rfl (by decide) (.slice A2 f2.ds.length c2) f2.ds.length (f2.ds.flatMap fun p => [.bool (Fb p)]) (by rfl) ((own_chg (hpv2 ▸ HOW.out) (Chg.of_below (R := fun _ => False) HB2.out) fun _ _ => id).alloc _) ⟨w2.heap.size, 0, none⟩ 1 1 [.bool (Fb f.t)] (by rfl) ?c0 ?c1 ?c2 (by decide) ?c3 ?c4 ?c5 _ rfl ?_))
          case c0 => rfl
          case c1 => exact World.news_of_block (heap_alloc_new w2 _)
          case c2 => simp [Value.oneCell']
          case c3 => unfold maxLen; omega
          case c4 => omega
          case c5 => have := (bhop HI1.out.below HB2.out).size; simp; omega
          intro g5 cap5 w5 hown5 hgrow5 hat5 hlt5
          have c5 : w5.heap[g]? = w2.heap[g]? := (hgrow5.block g (by simp; omega) (fun e => own_type HOW.out HI1.out.own HTY.out.2.2 (x := g) (by rw [hpv2]; exact e.symm) rfl)).trans (Below.heap_alloc w2 _ _ zl)
          have d5 := (World.cell?_of_block (w := w2) c5 : w5.cell? ⟨g, fs.length * 3 + 1, none⟩ = _).trans z2
          have f5 := (World.frozen?_of_block (w := w2) c5 : w5.frozen? ⟨g, fs.length * 3 + 1, none⟩ = _).trans zf
          have HP := Lib.hid (StkI.pop HI1.out HTY.out.1 HTY.out.2.1 HTY.out.2.2 HB2.out (hpv2 ▸ hgrow5) hown5 (fun x hx => by
            have e1 : g5 = x := Option.some.inj hx
            rw [hpv2]
            rcases hat5 with e | e
            · exact .inl (e1 ▸ e)
            · exact .inr (by rw [← e1, e]; exact Nat.le_trans HB2.out.size (Nat.le_succ _))) HD.out.2.1)
          clear hown5 hgrow5 hat5 c5 z2 zf
          go_wp2_with fail
          go_roundw
          case rel => exact ⟨_, _, _, HP.out, by rw [HI.out.2.2.1.1]; simp, HI.out.2.2.1.2, rfl, by have h4 := HI.out.2.2.2.1; have h5 := HI.out.2.2.2.2; simp only [wFs] at h4 h5 ⊢; omega⟩
          case measure =>
            refine Nat.lt_of_le_of_lt ((leastOf_spec ⟨_, _, _, HP.out, by rw [HI.out.2.2.1.1]; simp, HI.out.2.2.1.2, rfl, by have h4 := HI.out.2.2.2.1; have h5 := HI.out.2.2.2.2; simp only [wFs] at h4 h5 ⊢; omega⟩).2 _ ⟨_, _, HP.out, by rw [HI.out.2.2.1.1]; simp, HI.out.2.2.1.2, rfl, by have h4 := HI.out.2.2.2.1; have h5 := HI.out.2.2.2.2; simp only [wFs] at h4 h5 ⊢; omega⟩) ?_
            rw [HI.out.2.2.2.1]
            simp only [wFs]
            omega
    · have HI1 := Lib.hid (HI.out.1.next HD.out.2.1 HTY.out.1 HTY.out.2.1 HTY.out.2.2 HC.out.1 hNH)
      have HOP1 := Lib.hid (opened_anyB B pb po p w1 hnp)
      have hmem : p ∈ flatsV f.t.kind f.t.ps := by rw [HI.out.2.1, htd]; simp
      have HPS := Lib.hid (HD.out.1 f.t p (HI1.out.fr _ (List.mem_cons_self ..)).s hmem)
      have HNP := Lib.hid (And.intro hnp (And.intro htd hwt))
      have hgl1 : g < w1.heap.size := (HI1.out.own.lt g rfl).2
      clear hNH hnp htd hwt hNX hmem
      go_wp2_with fail
      go_at_call 34
      refine HOP1.out.mono ?_
      rintro e w2 ⟨rv2, st2, rfl, hown2, hrows2, htd2, hwt2, hb2⟩
      have H25 := Lib.hid (show FrOk B w.heap.size 4 1 (fun p => [.bool (Fb p)]) S ⟨pb, po, p, [], .slice none 0 0, rv2, st2⟩ w2 from ⟨HNP.out.1.chg (Chg.of_below hb2), HPS.out, World.ownsRow_nil _ _ _ _, own_low hown2 HI1.out.below.size, hrows2⟩)
      have HR2 := Lib.hid (And.intro (fun x hx => (hown2.lt x hx).1) (And.intro htd2 (And.intro hwt2 hb2)))
      have zl := Nat.lt_of_lt_of_le hgl1 hb2.size
      have zw : w.heap.size ≤ w2.heap.size := (bhop HI1.out.below hb2).size
      clear hown2 hrows2 htd2 hwt2 hb2
      go_wp2_with ((at_builtin; refine wpList_append_lies _ (by rfl) _ _ 64 (by rfl) w.heap.size 62 i0 _ 3 56 Try.underlying64 hi hz0 hz1 hz2 rfl (by decide) (.slice (some ⟨g, 0, none⟩) (fs.length + 1) cap) (fs.length + 1) (({ f with st := st', rv := rv' } :: fs).reverse.flatMap fcells) (by rfl) ((own_chg HI1.out.own (Chg.of_below (R := fun _ => False) HR2.out.2.2.2) fun _ _ => id).alloc _) ⟨w2.heap.size, 0, none⟩ 1 1 [.pointer (some ⟨pb, po, none⟩), .slice none 0 0, rv2] (by rfl) ?c0 ?c1 ?c2 (by decide) ?c3 ?c4 ?c5 _ rfl ?_))
      case c0 => rfl
      case c1 => exact World.news_of_block (heap_alloc_new w2 _)
      case c2 =>
        obtain ⟨A3, c3, e3⟩ := own_form H25.out.rest
        simp only at e3
        rw [e3]
        simp [Value.oneCell']
      case c3 => unfold maxLen; omega
      case c4 => omega
      case c5 => simp; omega
      intro g5 cap5 w5 hown5 hgrow5 hat5 hlt5
      have HP := Lib.hid (StkI.push HI1.out HTY.out.1 HTY.out.2.2 HR2.out.2.2.2 H25.out rfl (fun x hx => HR2.out.1 x hx) hgrow5 (by rw [rev_cells, List.append_assoc]; exact hown5) HD.out.2.1)
      have hm1 : wFs (⟨pb, po, p, [], .slice none 0 0, rv2, st2⟩ :: { f with st := st', rv := rv' } :: fs) < wFs (f :: fs) := by
        have h4 := HNP.out.2.2
        have h5 := HR2.out.2.2.1
        rw [sz_eq] at h4
        simp only [wFs]
        omega
      have HL := Lib.hid (show LFoldN w B (fun p => [.bool (Fb p)]) S root (wFs (⟨pb, po, p, [], .slice none 0 0, rv2, st2⟩ :: { f with st := st', rv := rv' } :: fs)) (.slice (some ⟨g5, 0, none⟩) (fs.length + 1 + 1) cap5) w5 from
        ⟨_, _, HP.out, by rw [HR2.out.2.1]; rfl, ⟨by rw [HI.out.2.1, HNP.out.2.1], HI.out.2.2.1⟩, rfl, by have h4 := HI.out.2.2.2.1; have h5 := HI.out.2.2.2.2; omega⟩)
      have HM1 := Lib.hid hm1
      clear hown5 hgrow5 hat5 hm1
      go_wp2_with fail
      go_roundw
      case rel => exact ⟨_, HL.out⟩
      case measure =>
        refine Nat.lt_of_le_of_lt ((leastOf_spec ⟨_, HL.out⟩).2 _ HL.out) ?_
        rw [HI.out.2.2.2.1]
        exact HM1.out

end Go.Proofs.Ytcnjogkgfdbhfaa

/- When a tree is void, when it is nullable: plain facts; the calls that tell it of a node, of what they told of its parts: contracts.
   Conditions: the node lies in memory, and is formed. -/
namespace Go.Proofs.Ytcnjogkgfdbhfaa
open Go.RowKit Go.Shelf

mutual
def vdT : T → Bool
  | .node k C lo _ ps => if k = 1 then z4 C else if k = 2 then vdAny ps else if k = 3 then vdAll ps else if k = 4 then decide (0 < lo) && vdAny ps else false
def vdAny : List T → Bool
  | [] => false
  | t :: ts => vdT t || vdAny ts
def vdAll : List T → Bool
  | [] => true
  | t :: ts => vdT t && vdAll ts
end
mutual
def nuT : T → Bool
  | .node k _ lo _ ps => if k = 0 then true else if k = 2 then nuAll ps else if k = 3 then nuAny ps else if k = 4 then decide (lo = 0) || nuAny ps else false
def nuAny : List T → Bool
  | [] => false
  | t :: ts => nuT t || nuAny ts
def nuAll : List T → Bool
  | [] => true
  | t :: ts => nuT t && nuAll ts
end
def vdV (t : V) : Bool := vdT (erase t)
def nuV (t : V) : Bool := nuT (erase t)
theorem vdAny_v (ps : List V) : vdAny (erases ps) = ps.any vdV := by
  induction ps with
  | nil => rw [erases, vdAny]; rfl
  | cons p ps ih => rw [erases, vdAny, ih, List.any_cons]; rfl
theorem vdAll_v (ps : List V) : vdAll (erases ps) = ps.all vdV := by
  induction ps with
  | nil => rw [erases, vdAll]; rfl
  | cons p ps ih => rw [erases, vdAll, ih, List.all_cons]; rfl
theorem nuAny_v (ps : List V) : nuAny (erases ps) = ps.any nuV := by
  induction ps with
  | nil => rw [erases, nuAny]; rfl
  | cons p ps ih => rw [erases, nuAny, ih, List.any_cons]; rfl
theorem nuAll_v (ps : List V) : nuAll (erases ps) = ps.all nuV := by
  induction ps with
  | nil => rw [erases, nuAll]; rfl
  | cons p ps ih => rw [erases, nuAll, ih, List.all_cons]; rfl
theorem vd_eq (t : V) : vdV t = if t.kind = 1 then z4 t.set else if t.kind = 2 then t.ps.any vdV else if t.kind = 3 then t.ps.all vdV else if t.kind = 4 then decide (0 < t.lo) && t.ps.any vdV else false := by
  cases t with
  | node k C lo hi v ps => rw [vdV, erase, vdT, vdAny_v, vdAll_v]; rfl
theorem nu_eq (t : V) : nuV t = if t.kind = 0 then true else if t.kind = 2 then t.ps.all nuV else if t.kind = 3 then t.ps.any nuV else if t.kind = 4 then decide (t.lo = 0) || t.ps.any nuV else false := by
  cases t with
  | node k C lo hi v ps => rw [nuV, erase, nuT, nuAny_v, nuAll_v]; rfl
/-- A formed tree's parts are formed; what its kind has. -/
def okF (t : V) : Prop := okT (erase t) = true
theorem okF.part {t p : V} (h : okF t) (hp : p ∈ t.ps) : okF p := by
  obtain ⟨i, hi⟩ := List.getElem?_of_mem hp
  have h1 := h
  unfold okF at h1 ⊢
  rw [okT_eq, Bool.and_eq_true] at h1
  have : ∀ (ps : List V) (i : Nat) (p : V), oksT (erases ps) = true → ps[i]? = some p → okT (erase p) = true := by
    intro ps
    induction ps with
    | nil => intro i p _ h; simp at h
    | cons q ps ih =>
      intro i p hk h
      rw [erases, oksT, Bool.and_eq_true] at hk
      cases i with
      | zero => simp at h; subst h; exact hk.1
      | succ i => exact ih i p hk.2 (by simpa using h)
  exact this t.ps i p h1.2 hi
theorem okF.four {t : V} (h : okF t) (hk : t.kind = 4) : ∃ p, t.ps = [p] := by
  unfold okF at h
  rw [okT_eq, Bool.and_eq_true] at h
  have h1 := h.1
  unfold okV okA at h1
  rcases of_decide_eq_true h1 with ⟨h2, _⟩ | ⟨h2, _⟩ | ⟨h2, _⟩ | ⟨_, _, h2, _⟩
  · omega
  · omega
  · omega
  · exact List.length_eq_one_iff.1 h2
theorem okF.kinds {t : V} (h : okF t) : t.kind = 0 ∨ t.kind = 1 ∨ t.kind = 2 ∨ t.kind = 3 ∨ t.kind = 4 := by
  unfold okF at h
  rw [okT_eq, Bool.and_eq_true] at h
  have h1 := h.1
  unfold okV okA at h1
  rcases of_decide_eq_true h1 with ⟨h2, _⟩ | ⟨h2, _⟩ | ⟨h2, _⟩ | ⟨h2, _⟩ <;> omega
theorem melt_cases {k' lo hi k : Int} (h : meltK k' lo hi k = true) : (k' = k ∧ (k' = 2 ∨ k' = 3)) ∨ (k' = 4 ∧ lo = 1 ∧ hi = 1) := by
  unfold meltK at h
  split at h
  · rename_i h2; exact .inl ⟨of_decide_eq_true h, h2⟩
  · split at h
    · rename_i h4; have := of_decide_eq_true h; exact .inr ⟨h4, this.1, this.2⟩
    · cases h
mutual
theorem flat_any (k : Int) (q : V → Bool) (hq : ∀ t, okF t → meltK t.kind t.lo t.hi k = true → q t = t.ps.any q) : ∀ t : V, okF t → (flatV k t).any q = q t
  | .node k' C lo hi v ps, h => by
    rw [flatV]
    by_cases hm : meltK k' lo hi k = true
    · rw [if_pos hm, flats_any k q hq ps (fun p hp => h.part hp)]
      exact (hq (.node k' C lo hi v ps) h hm).symm
    · rw [if_neg hm]; simp
theorem flats_any (k : Int) (q : V → Bool) (hq : ∀ t, okF t → meltK t.kind t.lo t.hi k = true → q t = t.ps.any q) : ∀ ts : List V, (∀ t ∈ ts, okF t) → (flatsV k ts).any q = ts.any q
  | [], _ => by rw [flatsV]
  | t :: ts, h => by
    rw [flatsV, List.any_append, flat_any k q hq t (h t (by simp)), flats_any k q hq ts (fun u hu => h u (by simp [hu])), List.any_cons]
end
mutual
theorem flat_all (k : Int) (q : V → Bool) (hq : ∀ t, okF t → meltK t.kind t.lo t.hi k = true → q t = t.ps.all q) : ∀ t : V, okF t → (flatV k t).all q = q t
  | .node k' C lo hi v ps, h => by
    rw [flatV]
    by_cases hm : meltK k' lo hi k = true
    · rw [if_pos hm, flats_all k q hq ps (fun p hp => h.part hp)]
      exact (hq (.node k' C lo hi v ps) h hm).symm
    · rw [if_neg hm]; simp
theorem flats_all (k : Int) (q : V → Bool) (hq : ∀ t, okF t → meltK t.kind t.lo t.hi k = true → q t = t.ps.all q) : ∀ ts : List V, (∀ t ∈ ts, okF t) → (flatsV k ts).all q = ts.all q
  | [], _ => by rw [flatsV]
  | t :: ts, h => by
    rw [flatsV, List.all_append, flat_all k q hq t (h t (by simp)), flats_all k q hq ts (fun u hu => h u (by simp [hu])), List.all_cons]
end
mutual
theorem flat_four : ∀ t : V, okF t → (flatV 4 t).length = 1
  | .node k' C lo hi v ps, h => by
    rw [flatV]
    by_cases hm : meltK k' lo hi 4 = true
    · rw [if_pos hm, flats_four ps (fun p hp => h.part hp)]
      have hk : k' = 4 := by rcases melt_cases hm with ⟨e, h2⟩ | ⟨e, _⟩ <;> omega
      obtain ⟨p, hp⟩ := h.four hk
      have hp' : ps = [p] := hp
      rw [hp']
      rfl
    · rw [if_neg hm]; rfl
theorem flats_four : ∀ ts : List V, (∀ t ∈ ts, okF t) → (flatsV 4 ts).length = ts.length
  | [], _ => by rw [flatsV]
  | t :: ts, h => by
    rw [flatsV, List.length_append, flat_four t (h t (by simp)), flats_four ts (fun u hu => h u (by simp [hu])), List.length_cons]
    omega
end
theorem vd_melt_any {k : Int} (hk : k = 2 ∨ k = 4) : ∀ t, okF t → meltK t.kind t.lo t.hi k = true → vdV t = t.ps.any vdV := fun t h hm => by
  rw [vd_eq]
  rcases melt_cases hm with ⟨e, h2⟩ | ⟨e, h1, _⟩
  · rw [if_neg (by omega), if_pos (by omega)]
  · rw [if_neg (by omega), if_neg (by omega), if_neg (by omega), if_pos e, h1]
    rfl
theorem vd_melt_all : ∀ t, okF t → meltK t.kind t.lo t.hi 3 = true → vdV t = t.ps.all vdV := fun t h hm => by
  rw [vd_eq]
  rcases melt_cases hm with ⟨e, h2⟩ | ⟨e, h1, _⟩
  · rw [if_neg (by omega), if_neg (by omega), if_pos (by omega)]
  · rw [if_neg (by omega), if_neg (by omega), if_neg (by omega), if_pos e, h1]
    obtain ⟨p, hp⟩ := h.four e
    rw [hp]
    simp
theorem nu_melt_any {k : Int} (hk : k = 3 ∨ k = 4) : ∀ t, okF t → meltK t.kind t.lo t.hi k = true → nuV t = t.ps.any nuV := fun t h hm => by
  rw [nu_eq]
  rcases melt_cases hm with ⟨e, h2⟩ | ⟨e, h1, _⟩
  · rw [if_neg (by omega), if_neg (by omega), if_pos (by omega)]
  · rw [if_neg (by omega), if_neg (by omega), if_neg (by omega), if_pos e, h1]
    rfl
theorem nu_melt_all : ∀ t, okF t → meltK t.kind t.lo t.hi 2 = true → nuV t = t.ps.all nuV := fun t h hm => by
  rw [nu_eq]
  rcases melt_cases hm with ⟨e, h2⟩ | ⟨e, h1, _⟩
  · rw [if_neg (by omega), if_pos (by omega)]
  · rw [if_neg (by omega), if_neg (by omega), if_neg (by omega), if_pos e, h1]
    obtain ⟨p, hp⟩ := h.four e
    rw [hp]
    simp
theorem flatMap_bools (q : V → Bool) (l : List V) : (l.flatMap fun p => [Value.bool (q p)]) = (l.map q).map Value.bool := by
  induction l with
  | nil => rfl
  | cons p l ih => rw [List.flatMap_cons, ih]; rfl

set_option maxHeartbeats 2000000 in
set_option maxRecDepth 100000 in
theorem index_any (base : Nat) (pv : Value) (bs : List Bool) (b : Bool) (w : World) (hown : w.ownsRow base 4 1 pv bs.length (bs.map Value.bool)) (hn : bs.length ≤ 1000000) :
    Calls Try.prog 45 #[pv, .bool b] w fun e w' => w' = w ∧ ∃ i : Int, e = .returned (.int .i64 i) ∧ (0 ≤ i ↔ b ∈ bs) := by
  obtain ⟨A, cp, rfl⟩ := own_form hown
  have HC := Lib.hid (fun (i : Nat) (hi : i < bs.length) => show ∃ g x, A = some ⟨g, 0, none⟩ ∧ bs[i]? = some x ∧ w.cell? ⟨g, i, none⟩ = some (.bool x) by
    rcases hown.2 with ⟨_, h0⟩ | ⟨g, cap, cur, e, _⟩
    · omega
    · simp only [Value.slice.injEq] at e
      obtain ⟨rfl, _, rfl⟩ := e
      refine ⟨g, bs[i], rfl, List.getElem?_eq_getElem hi, ?_⟩
      rw [hown.cellAt i (by omega), List.getElem?_map, List.getElem?_eq_getElem hi]
      rfl)
  clear hown
  have hn2 : (bs.length : Int) ≤ 1000000 := by omega
  go_enter Try.func45, Try.ntmps45
  go_wp2_with fail
  go_loopw [8] (fun x wr => ∃ i : Nat, x = .int .i64 i ∧ i ≤ bs.length ∧ (∀ j, j < i → bs[j]? ≠ some b) ∧ wr = w) (fun x _ => match x with | .int _ z => bs.length - z.toNat | _ => 0)
  case atStart => exact ⟨0, rfl, by omega, fun j hj => by omega, rfl⟩
  case round =>
    obtain ⟨i, rfl, hi, hno, rfl⟩ := hrel
    by_cases hlt : i < bs.length
    · have g1 : (i : Int) < (bs.length : Int) := by omega
      have g0 : (0 : Int) ≤ (i : Int) := by omega
      obtain ⟨g, x, rfl, hx, hcell⟩ := HC.out i hlt
      have hgl := World.block_lt_of_cell? _ _ hcell
      by_cases hb : b = x
      · have q1 : (b == x) = true := by simp [hb]
        have HM := Lib.hid (show b ∈ bs from List.mem_of_getElem? (hb ▸ hx))
        clear hno hb hx
        go_wp2_with fail
        go_ret
        exact ⟨rfl, i, rfl, fun _ => HM.out, fun _ => by omega⟩
      · have q1 : (b == x) = false := by simp [hb]
        have HNO := Lib.hid (show ∀ j, j < i + 1 → bs[j]? ≠ some b from fun j hj => by
          by_cases e : j = i
          · rw [e, hx]; intro h; exact hb (Option.some.inj h).symm
          · exact hno j (by omega))
        have HLT := Lib.hid hlt
        clear hno hb hx hi hlt
        go_wp2_with fail
        exact ⟨⟨i + 1, by simp, HLT.out, HNO.out, by trivial⟩, by have := HLT.out; simp; omega⟩
    · have g1 : ¬ (i : Int) < (bs.length : Int) := by omega
      have HNM := Lib.hid (show ¬ b ∈ bs from fun hm => by
        obtain ⟨j, hj, e⟩ := List.getElem_of_mem hm
        exact hno j (by omega) (by rw [List.getElem?_eq_getElem hj, e]))
      clear hno hlt hi
      go_wp2_with fail
      go_ret
      exact ⟨rfl, -1, rfl, fun h => by omega, fun h => absurd h HNM.out⟩

set_option maxHeartbeats 2000000 in
set_option maxRecDepth 100000 in
theorem contains_any (base : Nat) (pv : Value) (bs : List Bool) (b : Bool) (w : World) (hown : w.ownsRow base 4 1 pv bs.length (bs.map Value.bool)) (hn : bs.length ≤ 1000000) :
    Calls Try.prog 37 #[pv, .bool b] w fun e w' => w' = w ∧ e = .returned (.bool (decide (b ∈ bs))) := by
  have HI := Lib.hid (index_any base pv bs b w hown hn)
  clear hown
  go_enter Try.func37, Try.ntmps37
  go_wp2_with fail
  go_at_call 45
  refine HI.out.mono ?_
  rintro e w1 ⟨rfl, i, rfl, hi⟩
  by_cases hm : b ∈ bs
  · have h0 := hi.2 hm
    have HE := Lib.hid (show decide (b ∈ bs) = true by simp [hm])
    clear hi hm
    go_wp2_with fail
    go_ret
    exact ⟨rfl, by rw [HE.out]; rfl⟩
  · have h0 : ¬ 0 ≤ i := fun h => hm (hi.1 h)
    have HE := Lib.hid (show decide (b ∈ bs) = false by simp [hm])
    clear hi hm
    go_wp2_with fail
    go_ret
    refine ⟨rfl, ?_⟩
    rw [HE.out]
    show Ending.returned (Value.bool (decide (0 ≤ i))) = _
    rw [decide_eq_false (by omega)]
theorem mem_true (q : V → Bool) (l : List V) : decide (true ∈ l.map q) = l.any q := by
  rw [Bool.eq_iff_iff]
  simp
theorem mem_false (q : V → Bool) (l : List V) : (!decide (false ∈ l.map q)) = l.all q := by
  rw [Bool.eq_iff_iff]
  simp

end Go.Proofs.Ytcnjogkgfdbhfaa

/- Whether a node is void, whether it is nullable, of what its parts are: by the program: contracts.
   Conditions: the node lies in memory, and is formed. -/
namespace Go.Proofs.Ytcnjogkgfdbhfaa
open Go.RowKit Go.Shelf

theorem z4_beq (C : Nat → Nat) : (((C 0 : Nat) : Int) == 0 && (((C 1 : Nat) : Int) == 0 && (((C 2 : Nat) : Int) == 0 && ((C 3 : Nat) : Int) == 0))) = z4 C := by
  unfold z4
  rw [Bool.eq_iff_iff]
  simp
set_option maxRecDepth 100000 in
theorem classEmpty_any (C : Nat → Nat) (w : World) :
    Calls Try.prog 36 #[.agg #[.int .u64 (C 0 : Nat), .int .u64 (C 1 : Nat), .int .u64 (C 2 : Nat), .int .u64 (C 3 : Nat)]] w fun e w' => e = .returned (.bool (z4 C)) ∧ Below w.heap.size w w' := by
  have he : ∀ w, (Op.equalIn 10000 24 (.agg #[.int .u64 (C 0 : Nat), .int .u64 (C 1 : Nat), .int .u64 (C 2 : Nat), .int .u64 (C 3 : Nat)]) (.agg #[.int .u64 0, .int .u64 0, .int .u64 0, .int .u64 0])).run Try.prog w = .ok (z4 C) w := fun w => by rw [run_equal4, z4_beq]
  go_enter Try.func36, Try.ntmps36
  go_wp2
  go_ret
  exact ⟨rfl, (Below.refl _ _).alloc (Nat.le_refl _) _⟩

set_option maxHeartbeats 2000000 in
set_option maxRecDepth 100000 in
theorem voidOf_any (B base b o : Nat) (t : V) (pv : Value) (w : World) (hnode : NodeB B w b o t) (hok : okF t) (hz : szT (erase t) ≤ 1000000)
    (hown : w.ownsRow base 4 1 pv (flatsV t.kind t.ps).length ((flatsV t.kind t.ps).flatMap fun p => [.bool (vdV p)])) :
    Calls Try.prog 24 #[.pointer (some ⟨b, o, none⟩), pv] w fun e w' => e = .returned (.bool (vdV t)) ∧ Below w.heap.size w w' := by
  obtain ⟨x0, x1, x2, x3, x4, x5, x6, x7⟩ := node_cells hnode.2.1 hnode.at.lt (Below.refl _ w)
  have hfl := flats_len t.kind t.ps
  have hsz := sz_eq t
  rw [flatMap_bools] at hown
  have hl : (flatsV t.kind t.ps).length = ((flatsV t.kind t.ps).map vdV).length := by simp
  rw [hl] at hown
  have hCT := fun c => contains_any base pv ((flatsV t.kind t.ps).map vdV) c w hown (by rw [← hl]; omega)
  have hps : ∀ p ∈ t.ps, okF p := fun p hp => hok.part hp
  have hvd := vd_eq t
  rcases hok.kinds with hk | hk | hk | hk | hk
  · have HE := Lib.hid (hvd.trans (by rw [if_neg (by omega), if_neg (by omega), if_neg (by omega), if_neg (by omega)]))
    rw [hk] at x0
    clear hCT hvd hk hps hl hfl hsz hown hok
    go_enter Try.func24, Try.ntmps24
    go_wp2_with fail
    go_ret
    exact ⟨by rw [HE.out]; rfl, Below.refl _ w⟩
  · have HE := Lib.hid (hvd.trans (by rw [if_pos hk]))
    have HC := Lib.hid (fun W => classEmpty_any t.set W)
    rw [hk] at x0
    clear hCT hvd hk hps hl hfl hsz hown hok
    go_enter Try.func24, Try.ntmps24
    go_wp2_with fail
    go_at_call 36
    refine (HC.out _).mono ?_
    rintro e w1 ⟨rfl, hb⟩
    go_wp2_with fail
    go_ret
    exact ⟨by rw [HE.out]; rfl, hb⟩
  · have HE := Lib.hid (hvd.trans (by rw [if_neg (by omega), if_pos hk, ← flats_any 2 vdV (vd_melt_any (.inl rfl)) t.ps hps]))
    have HC := Lib.hid (hCT true)
    rw [hk] at x0 HC
    rw [mem_true] at HC
    clear hCT hvd hk hps hl hfl hsz hown hok
    go_enter Try.func24, Try.ntmps24
    go_wp2_with fail
    go_at_call 37
    refine HC.out.mono ?_
    rintro e w1 ⟨rfl, rfl⟩
    go_wp2_with fail
    go_ret
    exact ⟨by rw [HE.out]; rfl, Below.refl _ _⟩
  · have HE := Lib.hid (hvd.trans (by rw [if_neg (by omega), if_neg (by omega), if_pos hk, ← flats_all 3 vdV vd_melt_all t.ps hps]))
    have HC := Lib.hid (hCT false)
    have HM := Lib.hid (mem_false vdV (flatsV 3 t.ps))
    rw [hk] at x0 HC
    clear hCT hvd hk hps hl hfl hsz hown hok
    generalize decide (false ∈ (flatsV 3 t.ps).map vdV) = D at *
    go_enter Try.func24, Try.ntmps24
    go_wp2_with fail
    go_at_call 37
    refine HC.out.mono ?_
    rintro e w1 ⟨rfl, rfl⟩
    go_wp2_with fail
    go_ret
    exact ⟨by rw [HE.out, ← HM.out]; rfl, Below.refl _ _⟩
  · have hF := flats_four t.ps hps
    obtain ⟨p, hp⟩ := hok.four hk
    have hlen1 : (flatsV 4 t.ps).length = 1 := by rw [hF, hp]; rfl
    obtain ⟨q, hq⟩ := List.length_eq_one_iff.1 hlen1
    have hany := flats_any 4 vdV (vd_melt_any (.inr rfl)) t.ps hps
    have HE := Lib.hid (show vdV t = (decide (0 < t.lo) && vdV q) from hvd.trans (by rw [if_neg (by omega), if_neg (by omega), if_neg (by omega), if_pos hk, ← hany, hq]; simp))
    rw [hk, hq] at hown
    have ho2 : w.ownsRow base 4 1 pv 1 [.bool (vdV q)] := hown
    obtain ⟨g, cap, rfl⟩ := ownsRow_succ ho2
    have hc := ho2.cellAt 0 (by decide)
    have hgl := (ho2.lt g rfl).2
    simp only [List.getElem?_cons_zero] at hc
    rw [hk] at x0
    clear hCT hvd hk hps hl hfl hsz hown hok hF hp hlen1 hq hany ho2
    generalize t.lo = lo at *
    by_cases h0 : 0 < lo
    · have HD := Lib.hid (show decide (0 < lo) = true by simp [h0])
      go_enter Try.func24, Try.ntmps24
      go_wp2_with fail
      go_ret
      exact ⟨by rw [HE.out, HD.out]; rfl, Below.refl _ w⟩
    · have HD := Lib.hid (show decide (0 < lo) = false by simp; omega)
      go_enter Try.func24, Try.ntmps24
      go_wp2_with fail
      go_ret
      exact ⟨by rw [HE.out, HD.out]; rfl, Below.refl _ w⟩

set_option maxHeartbeats 2000000 in
set_option maxRecDepth 100000 in
theorem nullableOf_any (B base b o : Nat) (t : V) (pv : Value) (w : World) (hnode : NodeB B w b o t) (hok : okF t) (hz : szT (erase t) ≤ 1000000)
    (hown : w.ownsRow base 4 1 pv (flatsV t.kind t.ps).length ((flatsV t.kind t.ps).flatMap fun p => [.bool (nuV p)])) :
    Calls Try.prog 25 #[.pointer (some ⟨b, o, none⟩), pv] w fun e w' => e = .returned (.bool (nuV t)) ∧ Below w.heap.size w w' := by
  obtain ⟨x0, x1, x2, x3, x4, x5, x6, x7⟩ := node_cells hnode.2.1 hnode.at.lt (Below.refl _ w)
  have hfl := flats_len t.kind t.ps
  have hsz := sz_eq t
  rw [flatMap_bools] at hown
  have hl : (flatsV t.kind t.ps).length = ((flatsV t.kind t.ps).map nuV).length := by simp
  rw [hl] at hown
  have hCT := fun c => contains_any base pv ((flatsV t.kind t.ps).map nuV) c w hown (by rw [← hl]; omega)
  have hps : ∀ p ∈ t.ps, okF p := fun p hp => hok.part hp
  have hnu := nu_eq t
  rcases hok.kinds with hk | hk | hk | hk | hk
  · have HE := Lib.hid (hnu.trans (by rw [if_pos hk]))
    rw [hk] at x0
    clear hCT hnu hk hps hl hfl hsz hown hok
    go_enter Try.func25, Try.ntmps25
    go_wp2_with fail
    go_ret
    exact ⟨by rw [HE.out]; rfl, Below.refl _ w⟩
  · have HE := Lib.hid (hnu.trans (by rw [if_neg (by omega), if_neg (by omega), if_neg (by omega), if_neg (by omega)]))
    rw [hk] at x0
    clear hCT hnu hk hps hl hfl hsz hown hok
    go_enter Try.func25, Try.ntmps25
    go_wp2_with fail
    go_ret
    exact ⟨by rw [HE.out]; rfl, Below.refl _ w⟩
  · have HE := Lib.hid (hnu.trans (by rw [if_neg (by omega), if_pos hk, ← flats_all 2 nuV nu_melt_all t.ps hps]))
    have HC := Lib.hid (hCT false)
    have HM := Lib.hid (mem_false nuV (flatsV 2 t.ps))
    rw [hk] at x0 HC
    clear hCT hnu hk hps hl hfl hsz hown hok
    generalize decide (false ∈ (flatsV 2 t.ps).map nuV) = D at *
    go_enter Try.func25, Try.ntmps25
    go_wp2_with fail
    go_at_call 37
    refine HC.out.mono ?_
    rintro e w1 ⟨rfl, rfl⟩
    go_wp2_with fail
    go_ret
    exact ⟨by rw [HE.out, ← HM.out]; rfl, Below.refl _ _⟩
  · have HE := Lib.hid (hnu.trans (by rw [if_neg (by omega), if_neg (by omega), if_pos hk, ← flats_any 3 nuV (nu_melt_any (.inl rfl)) t.ps hps]))
    have HC := Lib.hid (hCT true)
    rw [hk] at x0 HC
    rw [mem_true] at HC
    clear hCT hnu hk hps hl hfl hsz hown hok
    go_enter Try.func25, Try.ntmps25
    go_wp2_with fail
    go_at_call 37
    refine HC.out.mono ?_
    rintro e w1 ⟨rfl, rfl⟩
    go_wp2_with fail
    go_ret
    exact ⟨by rw [HE.out]; rfl, Below.refl _ _⟩
  · have hF := flats_four t.ps hps
    obtain ⟨p, hp⟩ := hok.four hk
    have hlen1 : (flatsV 4 t.ps).length = 1 := by rw [hF, hp]; rfl
    obtain ⟨q, hq⟩ := List.length_eq_one_iff.1 hlen1
    have hany := flats_any 4 nuV (nu_melt_any (.inr rfl)) t.ps hps
    have HE := Lib.hid (show nuV t = (decide (t.lo = 0) || nuV q) from hnu.trans (by rw [if_neg (by omega), if_neg (by omega), if_neg (by omega), if_pos hk, ← hany, hq]; simp))
    rw [hk, hq] at hown
    have ho2 : w.ownsRow base 4 1 pv 1 [.bool (nuV q)] := hown
    obtain ⟨g, cap, rfl⟩ := ownsRow_succ ho2
    have hc := ho2.cellAt 0 (by decide)
    have hgl := (ho2.lt g rfl).2
    simp only [List.getElem?_cons_zero] at hc
    rw [hk] at x0
    clear hCT hnu hk hps hl hfl hsz hown hok hF hp hlen1 hq hany ho2
    generalize t.lo = lo at *
    by_cases h0 : lo = 0
    · have HD := Lib.hid (show decide (lo = 0) = true by simp [h0])
      have g0 : (lo == 0) = true := by simp [h0]
      clear h0
      go_enter Try.func25, Try.ntmps25
      go_wp2_with fail
      go_ret
      exact ⟨by rw [HE.out, HD.out]; rfl, Below.refl _ w⟩
    · have HD := Lib.hid (show decide (lo = 0) = false by simp [h0])
      have g0 : (lo == 0) = false := by simp [h0]
      clear h0
      go_enter Try.func25, Try.ntmps25
      go_wp2_with fail
      go_ret
      exact ⟨by rw [HE.out, HD.out]; rfl, Below.refl _ w⟩

end Go.Proofs.Ytcnjogkgfdbhfaa

/- What Void and Nullable come to: contracts; a tree is not both.
   Conditions: the tree lies in memory, and has at most 100000 nodes. -/
namespace Go.Proofs.Ytcnjogkgfdbhfaa
open Go.RowKit Go.Shelf
attribute [local go_sem] nodeAgg

mutual
theorem flat_sz (k : Int) (p : V) : ∀ t : V, p ∈ flatV k t → okF t → okF p ∧ szT (erase p) ≤ szT (erase t)
  | .node k' C lo hi v ps, h, ho => by
    rw [flatV] at h
    by_cases hm : meltK k' lo hi k = true
    · rw [if_pos hm] at h
      obtain ⟨h1, h2⟩ := flats_sz k p ps h (fun q hq => ho.part hq)
      rw [erase, szT]
      exact ⟨h1, by omega⟩
    · rw [if_neg hm] at h
      simp at h
      subst h
      exact ⟨ho, Nat.le_refl _⟩
theorem flats_sz (k : Int) (p : V) : ∀ ts : List V, p ∈ flatsV k ts → (∀ t ∈ ts, okF t) → okF p ∧ szT (erase p) ≤ szsT (erases ts)
  | [], h, _ => by rw [flatsV] at h; simp at h
  | t :: ts, h, ho => by
    rw [flatsV] at h
    rw [erases, szsT]
    rcases List.mem_append.1 h with h | h
    · obtain ⟨h1, h2⟩ := flat_sz k p t h (ho t (by simp))
      exact ⟨h1, by omega⟩
    · obtain ⟨h1, h2⟩ := flats_sz k p ts h (fun q hq => ho q (by simp [hq]))
      exact ⟨h1, by omega⟩
end
def SzOk (t : V) : Prop := okF t ∧ szT (erase t) ≤ 1000000
theorem szOk_flats (t p : V) (h : SzOk t) (hp : p ∈ flatsV t.kind t.ps) : SzOk p := by
  obtain ⟨h1, h2⟩ := flats_sz t.kind p t.ps hp (fun q hq => h.1.part hq)
  have h3 := h.2
  rw [sz_eq] at h3
  exact ⟨h1, by omega⟩
mutual
theorem not_both : ∀ t : V, okF t → ¬ (vdV t = true ∧ nuV t = true)
  | .node k C lo hi v ps, h => by
    rintro ⟨h1, h2⟩
    rw [vd_eq] at h1
    rw [nu_eq] at h2
    have hps := nots_both ps (fun p hp => h.part hp)
    rcases h.kinds with hk | hk | hk | hk | hk
    · rw [if_neg (by omega), if_neg (by omega), if_neg (by omega), if_neg (by omega)] at h1
      cases h1
    · rw [if_neg (by omega), if_neg (by omega), if_neg (by omega), if_neg (by omega)] at h2
      cases h2
    · rw [if_neg (by omega), if_pos hk] at h1 h2
      obtain ⟨p, hp, hv⟩ := List.any_eq_true.1 h1
      exact hps p hp ⟨hv, List.all_eq_true.1 h2 p hp⟩
    · rw [if_neg (by omega), if_neg (by omega), if_pos hk] at h1 h2
      obtain ⟨p, hp, hv⟩ := List.any_eq_true.1 h2
      exact hps p hp ⟨List.all_eq_true.1 h1 p hp, hv⟩
    · rw [if_neg (by omega), if_neg (by omega), if_neg (by omega), if_pos hk] at h1 h2
      rw [Bool.and_eq_true] at h1
      rw [Bool.or_eq_true] at h2
      have h3 := of_decide_eq_true h1.1
      rcases h2 with h2 | h2
      · have := of_decide_eq_true h2; omega
      · obtain ⟨p, hp⟩ := h.four hk
        have hp' : ps = [p] := hp
        have e1 : vdV p = true := by
          have := h1.2
          rw [hp] at this
          simpa using this
        have e2 : nuV p = true := by
          rw [hp] at h2
          simpa using h2
        exact hps p (by rw [hp']; simp) ⟨e1, e2⟩
theorem nots_both : ∀ ts : List V, (∀ t ∈ ts, okF t) → ∀ p ∈ ts, ¬ (vdV p = true ∧ nuV p = true)
  | [], _, p, hp => by simp at hp
  | t :: ts, h, p, hp => by
    rcases List.mem_cons.1 hp with e | hp
    · rw [e]; exact not_both t (h t (by simp))
    · exact nots_both ts (fun q hq => h q (by simp [hq])) p hp
end

set_option maxHeartbeats 2000000 in
set_option maxRecDepth 100000 in
theorem void_any (t : V) (w : World) (R : Nat → Prop) (hl : Laid w R t) (hz : szT (erase t) ≤ 100000) :
    Calls Try.prog 13 #[nodeAgg t] w fun e w' => e = .returned (.bool (okT (erase t) && vdV t)) ∧ Below w.heap.size w w' := by
  obtain ⟨sa, sc, hv, _⟩ := laid_row' hl
  have hdep : dptV t ≤ 1000000 := by rw [dpt_erase]; have := dpt_sz (erase t); omega
  obtain ⟨w2, hw2, hbw, hlt2, hbx⟩ := box_new w t (.slice sa t.ps.length sc)
  have HF := Lib.hid (callsIn_wide.1 (formed_in t w2 sa t.ps.length sc hv R (laid_low hl hbw) hdep))
  have hbox : w2.heap[w.heap.size]? = some (.cells (ndc t).toArray 27 (0, 0)) := by
    have hnd : #[.int .i64 t.kind, .int .u64 (t.set 0 : Nat), .int .u64 (t.set 1 : Nat), .int .u64 (t.set 2 : Nat), .int .u64 (t.set 3 : Nat), .slice sa t.ps.length sc, .int .i64 t.lo, .int .i64 t.hi] = (ndc t).toArray := by unfold ndc; rw [hv]
    rw [← hw2, ← hnd]
    exact heap_alloc_new w _
  have hl2 : Laid w2 (fun x => x < w.heap.size + 1) t := hl.keep (fun x hx _ => by omega) hbw.size fun k hk _ => hbw.block k hk
  have hnode : NodeB (w.heap.size + 1) w2 w.heap.size 0 t := ⟨by omega, fun j u hu => by rw [Nat.zero_add, (row_cells hbox).1 j, List.getElem?_toArray]; exact hu, hl2⟩
  have HN := Lib.hid (fun (W : World) (h : Below w2.heap.size w2 W) (hok : okF t) => fold_V (w.heap.size + 1) w.heap.size 0 t W SzOk vdV szOk_flats (hnode.chg (Chg.of_below h)) ⟨hok, by omega⟩ (by have := h.size; omega) (by have := sz_eq t; omega) (fun _ h => h.2)
    (fun W' b o p pv hn hs _ ho => voidOf_any (w.heap.size + 1) W.heap.size b o p pv W' hn hs.1 hs.2 ho))
  have HBX := Lib.hid hbx
  have HBW := Lib.hid hbw
  rw [nodeAgg_v hv]
  clear hl hz hdep hbx hbox hl2 hnode hv hlt2 hbw
  go_enter Try.func13, Try.ntmps13
  have x0 := HBX.out w2 (Below.refl _ _)
  unfold BoxC at x0
  obtain ⟨x0, x1, x2, x3, x4, x5, x6, x7⟩ := x0
  go_upto_region 1 with fail
  clear hw2
  go_wp2_with fail
  go_at_call 20
  refine HF.out.mono ?_
  rintro e w3 ⟨rfl, hb3⟩
  cases hok : okT (erase t) with
  | false =>
    have HK := Lib.hid hok
    have HB3 := Lib.hid (HBW.out.trans (hb3.mono HBW.out.size))
    clear hb3 hok x0 x1 x2 x3 x4 x5 x6 x7
    go_wp2_with fail
    go_ret
    exact ⟨by rw [HK.out]; rfl, HB3.out⟩
  | true =>
    have HK := Lib.hid hok
    have HC := Lib.hid (HN.out w3 hb3 hok)
    have HB3 := Lib.hid (HBW.out.trans (hb3.mono HBW.out.size))
    clear hb3 hok x0 x1 x2 x3 x4 x5 x6 x7
    go_wp2_with fail
    go_at_call 23
    refine HC.out.mono ?_
    rintro e w4 ⟨rfl, hb4⟩
    go_wp2_with fail
    go_ret
    exact ⟨by rw [HK.out]; rfl, HB3.out.trans (hb4.mono HB3.out.size)⟩

set_option maxHeartbeats 2000000 in
set_option maxRecDepth 100000 in
theorem nullable_any (t : V) (w : World) (R : Nat → Prop) (hl : Laid w R t) (hz : szT (erase t) ≤ 100000) :
    Calls Try.prog 14 #[nodeAgg t] w fun e w' => e = .returned (.bool (okT (erase t) && nuV t)) ∧ Below w.heap.size w w' := by
  obtain ⟨sa, sc, hv, _⟩ := laid_row' hl
  have hdep : dptV t ≤ 1000000 := by rw [dpt_erase]; have := dpt_sz (erase t); omega
  obtain ⟨w2, hw2, hbw, hlt2, hbx⟩ := box_new w t (.slice sa t.ps.length sc)
  have HF := Lib.hid (callsIn_wide.1 (formed_in t w2 sa t.ps.length sc hv R (laid_low hl hbw) hdep))
  have hbox : w2.heap[w.heap.size]? = some (.cells (ndc t).toArray 27 (0, 0)) := by
    have hnd : #[.int .i64 t.kind, .int .u64 (t.set 0 : Nat), .int .u64 (t.set 1 : Nat), .int .u64 (t.set 2 : Nat), .int .u64 (t.set 3 : Nat), .slice sa t.ps.length sc, .int .i64 t.lo, .int .i64 t.hi] = (ndc t).toArray := by unfold ndc; rw [hv]
    rw [← hw2, ← hnd]
    exact heap_alloc_new w _
  have hl2 : Laid w2 (fun x => x < w.heap.size + 1) t := hl.keep (fun x hx _ => by omega) hbw.size fun k hk _ => hbw.block k hk
  have hnode : NodeB (w.heap.size + 1) w2 w.heap.size 0 t := ⟨by omega, fun j u hu => by rw [Nat.zero_add, (row_cells hbox).1 j, List.getElem?_toArray]; exact hu, hl2⟩
  have HN := Lib.hid (fun (W : World) (h : Below w2.heap.size w2 W) (hok : okF t) => fold_N (w.heap.size + 1) w.heap.size 0 t W SzOk nuV szOk_flats (hnode.chg (Chg.of_below h)) ⟨hok, by omega⟩ (by have := h.size; omega) (by have := sz_eq t; omega) (fun _ h => h.2)
    (fun W' b o p pv hn hs _ ho => nullableOf_any (w.heap.size + 1) W.heap.size b o p pv W' hn hs.1 hs.2 ho))
  have HBX := Lib.hid hbx
  have HBW := Lib.hid hbw
  rw [nodeAgg_v hv]
  clear hl hz hdep hbx hbox hl2 hnode hv hlt2 hbw
  go_enter Try.func14, Try.ntmps14
  have x0 := HBX.out w2 (Below.refl _ _)
  unfold BoxC at x0
  obtain ⟨x0, x1, x2, x3, x4, x5, x6, x7⟩ := x0
  go_upto_region 1 with fail
  clear hw2
  go_wp2_with fail
  go_at_call 20
  refine HF.out.mono ?_
  rintro e w3 ⟨rfl, hb3⟩
  cases hok : okT (erase t) with
  | false =>
    have HK := Lib.hid hok
    have HB3 := Lib.hid (HBW.out.trans (hb3.mono HBW.out.size))
    clear hb3 hok x0 x1 x2 x3 x4 x5 x6 x7
    go_wp2_with fail
    go_ret
    exact ⟨by rw [HK.out]; rfl, HB3.out⟩
  | true =>
    have HK := Lib.hid hok
    have HC := Lib.hid (HN.out w3 hb3 hok)
    have HB3 := Lib.hid (HBW.out.trans (hb3.mono HBW.out.size))
    clear hb3 hok x0 x1 x2 x3 x4 x5 x6 x7
    go_wp2_with fail
    go_at_call 23
    refine HC.out.mono ?_
    rintro e w4 ⟨rfl, hb4⟩
    go_wp2_with fail
    go_ret
    exact ⟨by rw [HK.out]; rfl, HB3.out.trans (hb4.mono HB3.out.size)⟩

end Go.Proofs.Ytcnjogkgfdbhfaa

/- What the document's own Told comes to: a contract.
   Conditions: the tree lies in memory, is formed, and has at most 1000000 nodes. -/
namespace Go.Proofs.Ytcnjogkgfdbhfaa
open Go.RowKit Go.Shelf
attribute [local go_sem] nodeAgg

theorem count_take {ps : List V} {i : Nat} {p : V} (q : V → Bool) (h : ps[i]? = some p) : (ps.take (i + 1)).countP q = (ps.take i).countP q + if q p then 1 else 0 := by
  rw [List.take_add_one, h, List.countP_append]
  simp
theorem count_any (q : V → Bool) (ps : List V) : decide (0 < ps.countP q) = ps.any q := by
  rw [Bool.eq_iff_iff]
  simp [List.countP_pos_iff]
theorem count_all (q : V → Bool) (ps : List V) : decide (ps.countP q = ps.length) = ps.all q := by
  rw [Bool.eq_iff_iff]
  simp [List.countP_eq_length]
theorem beq_nat (a b : Nat) : (((a : Nat) : Int) == ((b : Nat) : Int)) = decide (a = b) := by
  rw [Bool.eq_iff_iff]
  simp
  omega
theorem z4_beq' (C : Nat → Nat) : (((C 0 : Nat) : Int) == 0 && (((C 1 : Nat) : Int) == 0 && (((C 2 : Nat) : Int) == 0 && ((C 3 : Nat) : Int) == 0))) = z4 C := by
  unfold z4
  rw [Bool.eq_iff_iff]
  simp

set_option maxHeartbeats 4000000 in
set_option maxRecDepth 100000 in
theorem told_any (N : Nat) : N ≤ 1000000 → ∀ (t : V) (w : World) (R : Nat → Prop), szT (erase t) ≤ N → Laid w R t → okF t →
    Calls Try.prog 15 #[nodeAgg t] w fun e w' => e = .returned (.tuple #[.bool (vdV t), .bool (nuV t)]) ∧ Below w.heap.size w w' := by
  induction N with
  | zero => intro _ t w R h; rw [sz_eq] at h; omega
  | succ N ih =>
    intro hN t w R hd ha hok
    obtain ⟨sa, sc, hv, hrow⟩ := laid_row' ha
    have hsz := sz_eq t
    have hlen := len_sz t.ps
    have hn1 : (t.ps.length : Int) ≤ 1000000 := by omega
    have HP := Lib.hid (fun (i : Nat) (p : V) (hp : t.ps[i]? = some p) (W : World) (hW : Below w.heap.size w W) => by
      obtain ⟨_, _, _, _, _, L1⟩ := hrow i p hp
      have hpz := sz_mem (List.mem_of_getElem? hp)
      exact ih (by omega) p W R (by omega) (laid_low L1 hW) (hok.part (List.mem_of_getElem? hp)))
    have HR := Lib.hid hrow
    have HV := Lib.hid (And.intro (vd_eq t) (nu_eq t))
    have HK := Lib.hid hok.kinds
    obtain ⟨w2, hw2, hbw, hlt2, hbx⟩ := box_new w t (.slice sa t.ps.length sc)
    have HBX := Lib.hid hbx
    have HBW := Lib.hid hbw
    have he : ∀ w, (Op.equalIn 10000 24 (.agg #[.int .u64 (t.set 0 : Nat), .int .u64 (t.set 1 : Nat), .int .u64 (t.set 2 : Nat), .int .u64 (t.set 3 : Nat)]) (.agg #[.int .u64 0, .int .u64 0, .int .u64 0, .int .u64 0])).run Try.prog w = .ok (z4 t.set) w := fun w => by rw [run_equal4, z4_beq']
    rw [nodeAgg_v hv]
    clear hrow hsz hlen hbx hbw hlt2 hd ha hok ih hv
    go_enter Try.func15, Try.ntmps15
    go_wp2_with fail
    clear hw2
    go_loopw [4, 5, 6] (fun a b x wr => ∃ i : Nat, x = .int .i64 i ∧ i ≤ t.ps.length ∧ a = .int .i64 ((t.ps.take i).countP vdV : Nat) ∧ b = .int .i64 ((t.ps.take i).countP nuV : Nat) ∧ Below w2.heap.size w2 wr) (fun _ _ x _ => match x with | .int _ z => t.ps.length - z.toNat | _ => 0)
    case atStart => exact ⟨0, rfl, by omega, rfl, rfl, Below.refl _ _⟩
    case round =>
      obtain ⟨i, rfl, hi, rfl, rfl, hb⟩ := hrel
      have hc1 : (t.ps.take i).countP vdV ≤ t.ps.length := Nat.le_trans (List.countP_le_length ..) (by rw [List.length_take]; omega)
      have hc2 : (t.ps.take i).countP nuV ≤ t.ps.length := Nat.le_trans (List.countP_le_length ..) (by rw [List.length_take]; omega)
      obtain ⟨x0, x1, x2, x3, x4, x5, x6, x7⟩ := HBX.out wr hb
      by_cases hlt : i < t.ps.length
      · have g1 : (i : Int) < (t.ps.length : Int) := by omega
        have g0 : (0 : Int) ≤ (i : Int) := by omega
        have g3 : (((t.ps.take i).countP vdV : Nat) : Int) ≤ 1000000 := by omega
        have g4 : (((t.ps.take i).countP nuV : Nat) : Int) ≤ 1000000 := by omega
        have g5 : (0 : Int) ≤ (((t.ps.take i).countP vdV : Nat) : Int) := by omega
        have g6 : (0 : Int) ≤ (((t.ps.take i).countP nuV : Nat) : Int) := by omega
        obtain ⟨p, hp⟩ : ∃ p, t.ps[i]? = some p := ⟨_, List.getElem?_eq_getElem hlt⟩
        obtain ⟨b1, o1, rfl, hlt1, cc1, L1⟩ := HR.out i p hp
        obtain ⟨pa, pc, hpv, _⟩ := laid_row' L1
        have hbww : Below w.heap.size w wr := HBW.out.trans (hb.mono HBW.out.size)
        obtain ⟨y0, y1, y2, y3, y4, y5, y6, y7⟩ := node_cells cc1 hlt1 hbww
        rw [hpv] at y5
        have HC := Lib.hid (by
          have := HP.out i p hp wr hbww
          rw [nodeAgg_v hpv] at this
          exact this)
        have HN1 := Lib.hid (count_take vdV hp)
        have HN2 := Lib.hid (count_take nuV hp)
        have HI := Lib.hid hlt
        have HB := Lib.hid hb
        clear hb cc1 hp hlt hbww hlt1 hi L1 hpv hc1 hc2
        generalize (t.ps.take i).countP vdV = c1 at *
        generalize (t.ps.take i).countP nuV = c2 at *
        go_wp2_with fail
        go_at_call 15
        refine HC.out.mono ?_
        rintro e w4 ⟨rfl, hb4⟩
        have HB4 := Lib.hid (HB.out.trans (hb4.mono HB.out.size))
        clear hb4 y0 y1 y2 y3 y4 y5 y6 y7 x0 x1 x2 x3 x4 x5 x6 x7
        cases hq1 : vdV p <;> cases hq2 : nuV p
        all_goals
          rw [hq1] at HN1
          rw [hq2] at HN2
          go_wp2_with fail
          exact ⟨⟨i + 1, by simp, HI.out, by rw [HN1.out]; simp, by rw [HN2.out]; simp, HB4.out⟩, by have := HI.out; simp; omega⟩
      · have g1 : ¬ (i : Int) < (t.ps.length : Int) := by omega
        have hall : t.ps.take i = t.ps := List.take_of_length_le (by omega)
        rw [hall] at hc1 hc2
        rw [hall]
        have HBB := Lib.hid (HBW.out.trans (hb.mono HBW.out.size))
        have HVA := Lib.hid (count_any vdV t.ps)
        have HVL := Lib.hid (count_all vdV t.ps)
        have HNA := Lib.hid (count_any nuV t.ps)
        have HNL := Lib.hid (count_all nuV t.ps)
        have g3 : ((t.ps.countP vdV : Nat) : Int) ≤ 1000000 := by omega
        have g4 : ((t.ps.countP nuV : Nat) : Int) ≤ 1000000 := by omega
        clear hall hb hi hlt hc1 hc2
        rcases HK.out with hk | hk | hk | hk | hk
        · have HE := Lib.hid (And.intro (HV.out.1.trans (by rw [if_neg (by omega), if_neg (by omega), if_neg (by omega), if_neg (by omega)])) (HV.out.2.trans (by rw [if_pos hk])))
          rw [hk] at x0
          clear hk
          go_wp2_with fail
          go_ret2
          exact ⟨by rw [HE.out.1, HE.out.2]; rfl, HBB.out⟩
        · have HE := Lib.hid (And.intro (HV.out.1.trans (by rw [if_pos hk])) (HV.out.2.trans (by rw [if_neg (by omega), if_neg (by omega), if_neg (by omega), if_neg (by omega)])))
          rw [hk] at x0
          clear hk
          go_wp2_with fail
          go_ret2
          exact ⟨by rw [HE.out.1, HE.out.2]; rfl, HBB.out⟩
        · have HE := Lib.hid (And.intro (HV.out.1.trans (by rw [if_neg (by omega), if_pos hk, ← HVA.out])) (HV.out.2.trans (by rw [if_neg (by omega), if_pos hk, ← HNL.out])))
          rw [hk] at x0
          clear hk
          generalize t.ps.countP vdV = c1 at *
          generalize t.ps.countP nuV = c2 at *
          go_wp2_with fail
          go_quiet (fail)
          go_wp2_with fail
          go_ret2
          refine ⟨?_, ⟨HBB.out.os, HBB.out.tape, HBB.out.output, HBB.out.size, HBB.out.block⟩⟩
          rw [HE.out.1, HE.out.2]
          show Ending.returned (Value.tuple #[.bool (decide (0 < c1)), .bool (((c2 : Nat) : Int) == ((t.ps.length : Nat) : Int))]) = _
          rw [beq_nat]
        · have HE := Lib.hid (And.intro (HV.out.1.trans (by rw [if_neg (by omega), if_neg (by omega), if_pos hk, ← HVL.out])) (HV.out.2.trans (by rw [if_neg (by omega), if_neg (by omega), if_pos hk, ← HNA.out])))
          rw [hk] at x0
          clear hk
          generalize t.ps.countP vdV = c1 at *
          generalize t.ps.countP nuV = c2 at *
          go_wp2_with fail
          go_ret2
          refine ⟨?_, HBB.out⟩
          rw [HE.out.1, HE.out.2]
          show Ending.returned (Value.tuple #[.bool (((c1 : Nat) : Int) == ((t.ps.length : Nat) : Int)), .bool (decide (0 < c2))]) = _
          rw [beq_nat]
        · have HE := Lib.hid (And.intro (HV.out.1.trans (by rw [if_neg (by omega), if_neg (by omega), if_neg (by omega), if_pos hk, ← HVA.out])) (HV.out.2.trans (by rw [if_neg (by omega), if_neg (by omega), if_neg (by omega), if_pos hk, ← HNA.out])))
          rw [hk] at x0
          clear hk
          generalize t.ps.countP vdV = c1 at *
          generalize t.ps.countP nuV = c2 at *
          generalize t.lo = lo at *
          by_cases e1 : 0 < c1
          · by_cases e3 : 0 < lo
            · have f4 : (lo == 0) = false := by simp; omega
              have HX := Lib.hid (show (decide (0 < lo) && decide (0 < c1)) = true ∧ (decide (lo = 0) || decide (0 < c2)) = decide (0 < c2) from by constructor <;> simp <;> omega)
              go_wp2_with fail
              go_ret2
              refine ⟨?_, HBB.out⟩
              rw [HE.out.1, HE.out.2, HX.out.1, HX.out.2]
              rfl
            · by_cases e4 : lo = 0
              · have f4 : (lo == 0) = true := by simp [e4]
                have HX := Lib.hid (show (decide (0 < lo) && decide (0 < c1)) = false ∧ (decide (lo = 0) || decide (0 < c2)) = true from by constructor <;> simp <;> omega)
                go_wp2_with fail
                go_ret2
                refine ⟨?_, HBB.out⟩
                rw [HE.out.1, HE.out.2, HX.out.1, HX.out.2]
                rfl
              · have f4 : (lo == 0) = false := by simp; omega
                have HX := Lib.hid (show (decide (0 < lo) && decide (0 < c1)) = false ∧ (decide (lo = 0) || decide (0 < c2)) = decide (0 < c2) from by constructor <;> simp <;> omega)
                go_wp2_with fail
                go_ret2
                refine ⟨?_, HBB.out⟩
                rw [HE.out.1, HE.out.2, HX.out.1, HX.out.2]
                rfl
          · by_cases e4 : lo = 0
            · have f4 : (lo == 0) = true := by simp [e4]
              have HX := Lib.hid (show (decide (0 < lo) && decide (0 < c1)) = false ∧ (decide (lo = 0) || decide (0 < c2)) = true from by constructor <;> simp <;> omega)
              go_wp2_with fail
              go_ret2
              refine ⟨?_, HBB.out⟩
              rw [HE.out.1, HE.out.2, HX.out.1, HX.out.2]
              rfl
            · have f4 : (lo == 0) = false := by simp; omega
              have HX := Lib.hid (show (decide (0 < lo) && decide (0 < c1)) = false ∧ (decide (lo = 0) || decide (0 < c2)) = decide (0 < c2) from by constructor <;> simp <;> omega)
              go_wp2_with fail
              go_ret2
              refine ⟨?_, HBB.out⟩
              rw [HE.out.1, HE.out.2, HX.out.1, HX.out.2]
              rfl

end Go.Proofs.Ytcnjogkgfdbhfaa

/- The statements' awake of this stage: the simple tree of nothing, repeated up to five times, is nothing: contracts.
   No conditions but those that each theorem states. -/
namespace Go.Proofs.Ytcnjogkgfdbhfaa
open Go.RowKit Go.Shelf
attribute [local go_sem] nodeAgg

set_option maxHeartbeats 1000000 in
set_option maxRecDepth 100000 in
theorem sVoid_none (w : World) : Calls Try.prog 41 #[.agg #[.int .i64 0, .int .u64 0, .int .u64 0, .int .u64 0, .int .u64 0, .slice none 0 0, .int .i64 0, .int .i64 0, .bool true]] w fun e w' => e = .returned (.bool false) ∧ Below w.heap.size w w' := by
  go_enter Try.func41, Try.ntmps41
  go_wp2_with fail
  go_ret
  exact ⟨rfl, (Below.refl _ w).alloc (Nat.le_refl _) _⟩

set_option maxHeartbeats 4000000 in
set_option maxRecDepth 100000 in
theorem times_none (w : World) : Calls Try.prog 33 #[.agg #[.int .i64 0, .int .u64 0, .int .u64 0, .int .u64 0, .int .u64 0, .slice none 0 0, .int .i64 0, .int .i64 0, .bool true], .int .i64 0, .int .i64 5] w fun e w' => e = .returned (.agg #[.int .i64 0, .int .u64 0, .int .u64 0, .int .u64 0, .int .u64 0, .slice none 0 0, .int .i64 0, .int .i64 0, .bool true]) ∧ Below w.heap.size w w' := by
  go_enter Try.func33, Try.ntmps33
  obtain ⟨w2, hw2⟩ : ∃ w2, (w.alloc (.cells #[.int .i64 0, .int .u64 0, .int .u64 0, .int .u64 0, .int .u64 0, .slice none 0 0, .int .i64 0, .int .i64 0, .bool true] 40)).alloc (.cells #[.int .i64 0, .int .u64 0, .int .u64 0, .int .u64 0, .int .u64 0, .slice none 0 0, .int .i64 0, .int .i64 0, .bool false] 40) = w2 := ⟨_, rfl⟩
  have hb2 : Below w.heap.size w w2 := hw2 ▸ ((Below.refl _ w).alloc (Nat.le_refl _) _).alloc (by simp) _
  have e1 : w2.heap[w.heap.size]? = some (.cells #[.int .i64 0, .int .u64 0, .int .u64 0, .int .u64 0, .int .u64 0, .slice none 0 0, .int .i64 0, .int .i64 0, .bool true] 40 (0, 0)) := by rw [← hw2]; exact (Below.heap_alloc _ _ _ (by simp)).trans (heap_alloc_new w _)
  have e2 : w2.heap[w.heap.size + 1]? = some (.cells #[.int .i64 0, .int .u64 0, .int .u64 0, .int .u64 0, .int .u64 0, .slice none 0 0, .int .i64 0, .int .i64 0, .bool false] 40 (0, 0)) := by
    rw [← hw2]
    have := heap_alloc_new (w.alloc (.cells #[.int .i64 0, .int .u64 0, .int .u64 0, .int .u64 0, .int .u64 0, .slice none 0 0, .int .i64 0, .int .i64 0, .bool true] 40)) (.cells #[.int .i64 0, .int .u64 0, .int .u64 0, .int .u64 0, .int .u64 0, .slice none 0 0, .int .i64 0, .int .i64 0, .bool false] 40)
    rw [World.size_alloc] at this
    exact this
  have HB := Lib.hid (And.intro hb2 (And.intro e1 e2))
  have HK := Lib.hid (fun (W : World) (h : Below w2.heap.size w2 W) => And.intro (BoxS.cells (bx := w.heap.size) (W := W) ((h.block _ (Array.getElem?_eq_some_iff.1 e1).1).trans e1)) (row_cells ((h.block _ (Array.getElem?_eq_some_iff.1 e2).1).trans e2)))
  obtain ⟨b0, b1, b2, b3, b4, b5, b6, b7, b8⟩ := (HK.out w2 (Below.refl _ _)).1
  clear hb2 e1 e2
  go_upto_region 1 with fail
  clear hw2
  go_wp2_with fail
  go_at_call 41
  refine (sVoid_none _).mono ?_
  rintro e w3 ⟨rfl, hb3⟩
  have HB3 := Lib.hid hb3
  clear hb3 b0 b1 b2 b3 b4 b5 b6 b7 b8
  obtain ⟨b0, b1, b2, b3, b4, b5, b6, b7, b8⟩ := (HK.out w3 HB3.out).1
  go_wp2_with fail
  go_at_call 41
  refine (sVoid_none _).mono ?_
  rintro e w4 ⟨rfl, hb4⟩
  have HB4 := Lib.hid (bhop HB3.out hb4)
  clear hb4 b0 b1 b2 b3 b4 b5 b6 b7 b8
  obtain ⟨⟨b0, b1, b2, b3, b4, b5, b6, b7, b8⟩, q1, q2⟩ := HK.out w4 HB4.out
  have s0 := q1 0
  have s1 := q1 1
  have s2 := q1 2
  have s3 := q1 3
  have s4 := q1 4
  have s5 := q1 5
  have s6 := q1 6
  have s7 := q1 7
  have s8 := q1 8
  have f0 := q2 0
  have f1 := q2 1
  have f2 := q2 2
  have f3 := q2 3
  have f4 := q2 4
  have f5 := q2 5
  have f6 := q2 6
  have f7 := q2 7
  have f8 := q2 8
  have hl : w.heap.size + 1 < w4.heap.size := Nat.lt_of_lt_of_le (Array.getElem?_eq_some_iff.1 HB.out.2.2).1 HB4.out.size
  clear q1 q2
  go_wp2_with fail
  refine bodyPost_ret (v := .agg #[.int .i64 0, .int .u64 0, .int .u64 0, .int .u64 0, .int .u64 0, .slice none 0 0, .int .i64 0, .int .i64 0, .bool true]) (by simp [results, Try.results33, go_sem, s0, s1, s2, s3, s4, s5, s6, s7, s8]) rfl ⟨rfl, ?_⟩
  exact (bhop HB.out.1 HB4.out).trans ((set9_chg w4 (w.heap.size + 1)).below (by have := (bhop HB.out.1 HB4.out).size; omega) fun k hk e => by omega)

/-- Nothing; and nothing, repeated up to five times. -/
def zV : V := .node 0 zeros 0 0 (.slice none 0 0) []
def rV (b : Nat) : V := .node 4 zeros 0 5 (.slice (some ⟨b, 0, none⟩) 1 1) [zV]
def SW (b : Nat) (t : V) : Prop := t = zV ∨ t = rV b
theorem sw_flats (b : Nat) (t p : V) (h : SW b t) (hp : p ∈ flatsV t.kind t.ps) : SW b p := by
  rcases h with rfl | rfl
  · simp [zV, V.ps, flatsV] at hp
  · have e : flatsV (rV b).kind (rV b).ps = [zV] := by
      show flatsV 4 [zV] = [zV]
      rw [flatsV, flatsV, flat_no (by decide)]
      rfl
    rw [e] at hp
    simp at hp
    exact .inl hp
theorem sw_sz (b : Nat) (t : V) (h : SW b t) : szT (erase t) ≤ 1000000 := by
  rcases h with rfl | rfl
  · decide
  · simp [rV, zV, erase, erases, szT, szsT]

set_option maxHeartbeats 4000000 in
set_option maxRecDepth 100000 in
theorem simpleOf_wake (c B b o base : Nat) (t : V) (pv : Value) (w : World) (hnode : NodeB B w b o t) (hs : SW c t) (hown : w.ownsRow base 40 9 pv (flatsV t.kind t.ps).length ((flatsV t.kind t.ps).flatMap fun _ => zS9)) :
    Calls Try.prog 22 #[.pointer (some ⟨b, o, none⟩), pv] w fun e w' => e = .returned (.agg #[.int .i64 0, .int .u64 0, .int .u64 0, .int .u64 0, .int .u64 0, .slice none 0 0, .int .i64 0, .int .i64 0, .bool true]) ∧ Below w.heap.size w w' := by
  obtain ⟨x0, x1, x2, x3, x4, x5, x6, x7⟩ := node_cells hnode.2.1 hnode.at.lt (Below.refl _ w)
  have hlt := hnode.at.lt
  rcases hs with rfl | rfl
  · have x0' : w.cell? ⟨b, o, none⟩ = some (.int .i64 0) := x0
    clear x0 x1 x2 x3 x4 x5 x6 x7 hnode hown
    go_enter Try.func22, Try.ntmps22
    go_wp2_with fail
    refine bodyPost_ret (v := .agg #[.int .i64 0, .int .u64 0, .int .u64 0, .int .u64 0, .int .u64 0, .slice none 0 0, .int .i64 0, .int .i64 0, .bool true]) (by simp [results, Try.results22, go_sem]) rfl ⟨rfl, ?_⟩
    exact (Below.refl _ w).alloc (Nat.le_refl _) _
  · have e : flatsV (rV c).kind (rV c).ps = [zV] := by
      show flatsV 4 [zV] = [zV]
      rw [flatsV, flatsV, flat_no (by decide)]
      rfl
    rw [e] at hown
    have ho2 : w.ownsRow base 40 9 pv 1 zS9 := hown
    obtain ⟨g, cap, rfl⟩ := ownsRow_succ ho2
    have hgl := (ho2.lt g rfl).2
    have HG := Lib.hid (fun (W : World) (h : Below w.heap.size w W) => show W.cell? ⟨g, 0, none⟩ = some (.int .i64 0) ∧ W.cell? ⟨g, 1, none⟩ = some (.int .u64 0) ∧ W.cell? ⟨g, 2, none⟩ = some (.int .u64 0) ∧ W.cell? ⟨g, 3, none⟩ = some (.int .u64 0) ∧ W.cell? ⟨g, 4, none⟩ = some (.int .u64 0) ∧ W.cell? ⟨g, 5, none⟩ = some (.slice none 0 0) ∧ W.cell? ⟨g, 6, none⟩ = some (.int .i64 0) ∧ W.cell? ⟨g, 7, none⟩ = some (.int .i64 0) ∧ W.cell? ⟨g, 8, none⟩ = some (.bool true) by
      have q : ∀ j, j < 9 → W.cell? ⟨g, j, none⟩ = zS9[j]? := fun j hj => (h.cell (p := ⟨g, j, none⟩) hgl).trans (ho2.cellAt j hj)
      exact ⟨q 0 (by decide), q 1 (by decide), q 2 (by decide), q 3 (by decide), q 4 (by decide), q 5 (by decide), q 6 (by decide), q 7 (by decide), q 8 (by decide)⟩)
    obtain ⟨g0, g1, g2, g3, g4, g5, g6, g7, g8⟩ := HG.out w (Below.refl _ w)
    have y0 : w.cell? ⟨b, o, none⟩ = some (.int .i64 4) := x0
    have y6 : w.cell? ⟨b, o + 6, none⟩ = some (.int .i64 0) := x6
    have y7 : w.cell? ⟨b, o + 7, none⟩ = some (.int .i64 5) := x7
    have hne1 : g ≠ w.heap.size := by omega
    have hne2 : b ≠ w.heap.size := by omega
    clear x0 x1 x2 x3 x4 x5 x6 x7 hnode hown ho2 e
    go_enter Try.func22, Try.ntmps22
    go_wp2_with fail
    go_region_with (go_at_call 33; refine (times_none _).mono ?_; rintro e w2 ⟨rfl, hb2⟩; have hbx : w2.heap[w.heap.size]? = some (.cells #[.int .i64 0, .int .u64 0, .int .u64 0, .int .u64 0, .int .u64 0, .slice none 0 0, .int .i64 0, .int .i64 0, .bool false] 40 (0, 0)) := (hb2.block w.heap.size (by simp)).trans (heap_alloc_new w _); obtain ⟨q1, q2⟩ := row_cells hbx; have e0 := q1 0; have e1 := q1 1; have e2 := q1 2; have e3 := q1 3; have e4 := q1 4; have e5 := q1 5; have e6 := q1 6; have e7 := q1 7; have e8 := q1 8; have f0 := q2 0; have f1 := q2 1; have f2 := q2 2; have f3 := q2 3; have f4 := q2 4; have f5 := q2 5; have f6 := q2 6; have f7 := q2 7; have f8 := q2 8; have fl := (Array.getElem?_eq_some_iff.1 hbx).1; have HB2 := Lib.hid (bhop ((Below.refl _ w).alloc (Nat.le_refl _) (.cells #[.int .i64 0, .int .u64 0, .int .u64 0, .int .u64 0, .int .u64 0, .slice none 0 0, .int .i64 0, .int .i64 0, .bool false] 40)) (bhop (Below.refl _ _).drew hb2)); clear hb2 hbx q1 q2)
    all_goals
      go_wp2_with fail
      refine bodyPost_ret (v := .agg #[.int .i64 0, .int .u64 0, .int .u64 0, .int .u64 0, .int .u64 0, .slice none 0 0, .int .i64 0, .int .i64 0, .bool true]) (by simp [results, Try.results22, go_sem, e0, e1, e2, e3, e4, e5, e6, e7, e8]) rfl ⟨rfl, ?_⟩
      exact HB2.out.trans ((set9_chg w2 w.heap.size).below (by have := HB2.out.size; omega) fun k hk e => by omega)

end Go.Proofs.Ytcnjogkgfdbhfaa

/- The statements' awake of this stage: the simple tree of nothing, repeated up to five times, is nothing: contracts.
   No conditions but those that each theorem states. -/
namespace Go.Proofs.Ytcnjogkgfdbhfaa
open Go.RowKit Go.Shelf
attribute [local go_sem] nodeAgg

theorem rV_ok (b : Nat) : okT (erase (rV b)) = true := by
  show okT (.node 4 zeros 0 5 [.node 0 zeros 0 0 []]) = true
  decide
theorem rV_laid {w : World} {b : Nat} {R : Nat → Prop} (hR : R b) (hbx : w.heap[b]? = some (.cells #[.int .i64 0, .int .u64 0, .int .u64 0, .int .u64 0, .int .u64 0, .slice none 0 0, .int .i64 0, .int .i64 0] 27 (0, 0))) : Laid w R (rV b) := by
  refine .some 4 zeros 0 5 [zV] b 0 1 hR (Array.getElem?_eq_some_iff.1 hbx).1 (Nat.le_refl _) (fun i t ht j u hu => ?_) fun t ht => ?_
  · have hi0 : i = 0 := by have := (List.getElem?_eq_some_iff.1 ht).1; simpa using this
    subst hi0
    simp at ht
    subst ht
    rw [Nat.zero_mul, Nat.zero_add, (row_cells hbx).1 j, ← hu, List.getElem?_toArray]
    congr 1
  · simp at ht
    subst ht
    exact .none 0 zeros 0 0 none 0

theorem fldS (w : World) : (Instr.field 40 (.agg #[.int .i64 0, .int .u64 0, .int .u64 0, .int .u64 0, .int .u64 0, .slice none 0 0, .int .i64 0, .int .i64 0, .bool true]) 0).run Try.prog w = .ok (.agg #[.int .i64 0, .int .u64 0, .int .u64 0, .int .u64 0, .int .u64 0, .slice none 0 0, .int .i64 0, .int .i64 0]) w := by kernel_rfl
theorem nul0 (w : World) : Calls Try.prog 14 #[.agg #[.int .i64 0, .int .u64 0, .int .u64 0, .int .u64 0, .int .u64 0, .slice none 0 0, .int .i64 0, .int .i64 0]] w fun e w' => e = .returned (.bool true) ∧ Below w.heap.size w w' := by
  have := nullable_any zV w (fun _ => True) (.none 0 zeros 0 0 none 0) (by decide)
  rw [show (okT (erase zV) && nuV zV) = true from by show (okT (.node 0 zeros 0 0 []) && nuT (.node 0 zeros 0 0 [])) = true; simp [okT, oksT, nuT]; decide] at this
  exact this

set_option maxHeartbeats 4000000 in
set_option maxRecDepth 100000 in
theorem simple_wake (b : Nat) (w : World) (hbx : w.heap[b]? = some (.cells #[.int .i64 0, .int .u64 0, .int .u64 0, .int .u64 0, .int .u64 0, .slice none 0 0, .int .i64 0, .int .i64 0] 27 (0, 0))) :
    Calls Try.prog 11 #[.agg #[.int .i64 4, .int .u64 0, .int .u64 0, .int .u64 0, .int .u64 0, .slice (some ⟨b, 0, none⟩) 1 1, .int .i64 0, .int .i64 5]] w fun e w' => e = .returned (.tuple #[.agg #[.int .i64 0, .int .u64 0, .int .u64 0, .int .u64 0, .int .u64 0, .slice none 0 0, .int .i64 0, .int .i64 0], .int .i64 0]) ∧ Below w.heap.size w w' := by
  have hbl := (Array.getElem?_eq_some_iff.1 hbx).1
  obtain ⟨w2, hw2⟩ : ∃ w2, (w.alloc (.cells #[.int .i64 4, .int .u64 0, .int .u64 0, .int .u64 0, .int .u64 0, .slice (some ⟨b, 0, none⟩) 1 1, .int .i64 0, .int .i64 5] 27)).alloc (.cells #[.int .i64 0, .int .u64 0, .int .u64 0, .int .u64 0, .int .u64 0, .slice none 0 0, .int .i64 0, .int .i64 0] 27) = w2 := ⟨_, rfl⟩
  have hb2 : Below w.heap.size w w2 := hw2 ▸ ((Below.refl _ w).alloc (Nat.le_refl _) _).alloc (by simp) _
  have e1 : w2.heap[w.heap.size]? = some (.cells #[.int .i64 4, .int .u64 0, .int .u64 0, .int .u64 0, .int .u64 0, .slice (some ⟨b, 0, none⟩) 1 1, .int .i64 0, .int .i64 5] 27 (0, 0)) := by rw [← hw2]; exact (Below.heap_alloc _ _ _ (by simp)).trans (heap_alloc_new w _)
  have e2 : w2.heap[w.heap.size + 1]? = some (.cells #[.int .i64 0, .int .u64 0, .int .u64 0, .int .u64 0, .int .u64 0, .slice none 0 0, .int .i64 0, .int .i64 0] 27 (0, 0)) := by
    rw [← hw2]
    have := heap_alloc_new (w.alloc (.cells #[.int .i64 4, .int .u64 0, .int .u64 0, .int .u64 0, .int .u64 0, .slice (some ⟨b, 0, none⟩) 1 1, .int .i64 0, .int .i64 5] 27)) (.cells #[.int .i64 0, .int .u64 0, .int .u64 0, .int .u64 0, .int .u64 0, .slice none 0 0, .int .i64 0, .int .i64 0] 27)
    rw [World.size_alloc] at this
    exact this
  have hl1 : Laid w (fun x => x < w.heap.size + 1) (rV b) := rV_laid (by omega) hbx
  have hl2 := laid_low hl1 hb2
  have hnode : NodeB (w.heap.size + 1) w2 w.heap.size 0 (rV b) := ⟨by omega, fun j u hu => by rw [Nat.zero_add, (row_cells e1).1 j, ← hu, List.getElem?_toArray]; rfl, hl2⟩
  have HFm := Lib.hid (callsIn_wide.1 (formed_in (rV b) w2 (some ⟨b, 0, none⟩) 1 1 rfl _ hl2 (by show dptT (.node 4 zeros 0 5 [.node 0 zeros 0 0 []]) ≤ 1000000; decide)))
  have HFo := Lib.hid (fun (W : World) (h : Below w2.heap.size w2 W) => fold_S (w.heap.size + 1) w.heap.size 0 (rV b) W (SW b) (sw_flats b) (hnode.chg (Chg.of_below h)) (.inr rfl) (by have := h.size; have := (Array.getElem?_eq_some_iff.1 e2).1; omega) (by show 3 * szsT (erases [zV]) + 10 ≤ 1000000; decide) (sw_sz b)
    fun W' b' o base t pv hn hs ho => simpleOf_wake b (w.heap.size + 1) b' o base t pv W' hn hs ho)
  have HB := Lib.hid (And.intro hb2 (And.intro e1 e2))
  have x1 := (row_cells e1).1
  have c0 := x1 0
  have c1 := x1 1
  have c2 := x1 2
  have c3 := x1 3
  have c4 := x1 4
  have c5 := x1 5
  have c6 := x1 6
  have c7 := x1 7
  clear hb2 e1 e2 hl1 hl2 hnode x1 hbx
  have hfd := fldS
  go_enter Try.func11, Try.ntmps11
  go_upto_region 1 with fail
  clear hw2
  go_wp2_with fail
  go_at_call 20
  refine HFm.out.mono ?_
  rintro e w3 ⟨rfl, hb3⟩
  rw [rV_ok]
  have HB3 := Lib.hid hb3
  clear hb3 c0 c1 c2 c3 c4 c5 c6 c7
  go_wp2_with fail
  go_at_call 21
  refine (HFo.out w3 HB3.out).mono ?_
  rintro e w4 ⟨rfl, hb4⟩
  have HB4 := Lib.hid (bhop HB3.out hb4)
  have hres := (HB4.out.block _ (Array.getElem?_eq_some_iff.1 HB.out.2.2).1).trans HB.out.2.2
  obtain ⟨q1, q2⟩ := row_cells hres
  have s0 := q1 0
  have s1 := q1 1
  have s2 := q1 2
  have s3 := q1 3
  have s4 := q1 4
  have s5 := q1 5
  have s6 := q1 6
  have s7 := q1 7
  have f0 := q2 0
  have f1 := q2 1
  have f2 := q2 2
  have f3 := q2 3
  have f4 := q2 4
  have f5 := q2 5
  have f6 := q2 6
  have f7 := q2 7
  have hl : w.heap.size + 1 < w4.heap.size := (Array.getElem?_eq_some_iff.1 hres).1
  clear hb4 hres q1 q2
  all_goals
    go_wp2_with fail
    refine bodyPost_ret (v := .tuple #[.agg #[.int .i64 0, .int .u64 0, .int .u64 0, .int .u64 0, .int .u64 0, .slice none 0 0, .int .i64 0, .int .i64 0], .int .i64 0]) (by simp [results, Try.results11, go_sem, s0, s1, s2, s3, s4, s5, s6, s7]) rfl ⟨rfl, ?_⟩
    refine (bhop HB.out.1 HB4.out).trans (Chg.below (R := fun x => x = w.heap.size + 1) ?_ (by have := (bhop HB.out.1 HB4.out).size; omega) fun k hk e => by omega)
    refine (((((((((Chg.refl _ w4).setCell ?_ _).setCell ?_ _).setCell ?_ _).setCell ?_ _).setCell ?_ _).setCell ?_ _).setCell ?_ _).setCell ?_ _)
    all_goals exact fun _ => rfl

theorem set8_chg (w : World) (b : Nat) : Chg (fun x => x = b) w ((((((((w.setCell ⟨b, 0, none⟩ (.int .i64 0)).setCell ⟨b, 1, none⟩ (.int .u64 0)).setCell ⟨b, 2, none⟩ (.int .u64 0)).setCell ⟨b, 3, none⟩ (.int .u64 0)).setCell ⟨b, 4, none⟩ (.int .u64 0)).setCell ⟨b, 5, none⟩ (.slice none 0 0)).setCell ⟨b, 6, none⟩ (.int .i64 0)).setCell ⟨b, 7, none⟩ (.int .i64 0)) := by
  refine (((((((((Chg.refl _ w).setCell ?_ _).setCell ?_ _).setCell ?_ _).setCell ?_ _).setCell ?_ _).setCell ?_ _).setCell ?_ _).setCell ?_ _)
  all_goals exact fun _ => rfl

set_option maxHeartbeats 4000000 in
set_option maxRecDepth 100000 in
theorem awake4_any (w : World) : Calls Try.prog 8 #[] w fun e w' => e = .returned (.bool true) ∧ Below w.heap.size w w' := by
  have HS := Lib.hid (simple_wake w.heap.size (w.alloc (.cells #[.int .i64 0, .int .u64 0, .int .u64 0, .int .u64 0, .int .u64 0, .slice none 0 0, .int .i64 0, .int .i64 0] 27)) (heap_alloc_new w _))
  go_enter Try.func8, Try.ntmps8
  go_wp2_with fail
  go_at_call 11
  refine HS.out.mono ?_
  rintro e w2 ⟨rfl, hb2⟩
  have HB2 := Lib.hid (bhop ((Below.refl _ w).alloc (Nat.le_refl _) (.cells #[.int .i64 0, .int .u64 0, .int .u64 0, .int .u64 0, .int .u64 0, .slice none 0 0, .int .i64 0, .int .i64 0] 27)) hb2)
  obtain ⟨w3, hw3⟩ : ∃ w3, w2.alloc (.cells #[.int .i64 0, .int .u64 0, .int .u64 0, .int .u64 0, .int .u64 0, .slice none 0 0, .int .i64 0, .int .i64 0] 27) = w3 := ⟨_, rfl⟩
  have hb3 : Below w2.heap.size w2 w3 := hw3 ▸ (Below.refl _ w2).alloc (Nat.le_refl _) _
  have e1 : w3.heap[w2.heap.size]? = some (.cells #[.int .i64 0, .int .u64 0, .int .u64 0, .int .u64 0, .int .u64 0, .slice none 0 0, .int .i64 0, .int .i64 0] 27 (0, 0)) := by rw [← hw3]; exact heap_alloc_new w2 _
  have x1 := (row_cells e1).1
  have c0 := x1 0
  have c1 := x1 1
  have c2 := x1 2
  have c3 := x1 3
  have c4 := x1 4
  have c5 := x1 5
  have c6 := x1 6
  have c7 := x1 7
  have x2 := (row_cells e1).2
  have d0 := x2 0
  have d1 := x2 1
  have d2 := x2 2
  have d3 := x2 3
  have d4 := x2 4
  have d5 := x2 5
  have d6 := x2 6
  have d7 := x2 7
  have HB3 := Lib.hid (bhop HB2.out hb3)
  have HS8 := Lib.hid (HB3.out.trans ((set8_chg w3 w2.heap.size).below HB3.out.size fun k hk e => by have := HB2.out.size; omega))
  clear hb2 hb3 e1 x1 x2
  go_upto_region 2 with fail
  clear hw3
  go_wp2_with fail
  go_at_call 14
  refine (nul0 _).mono ?_
  rintro e w4 ⟨rfl, hb4⟩
  go_wp2_with fail
  go_ret
  exact ⟨rfl, bhop HS8.out hb4⟩

end Go.Proofs.Ytcnjogkgfdbhfaa

/- The walk of the statement CoreTells: called with a tree it returns true and changes nothing that was there.
   Conditions: the tree lies in memory. -/
namespace Go.Proofs.Ytcnjogkgfdbhfaa
open Go.RowKit Go.Shelf
attribute [local go_sem] nodeAgg

theorem beq_self' (b : Bool) : (b == b) = true := by cases b <;> rfl

set_option maxHeartbeats 4000000 in
set_option maxRecDepth 100000 in
theorem tells4_walk (a : V) (w : World) (R : Nat → Prop) (ha : Laid w R a) :
    Calls Try.prog 4 #[nodeAgg a] w fun e w' => e = .returned (.bool true) ∧ Below w.heap.size w w' := by
  obtain ⟨sa, sc, hv0, _⟩ := laid_row' ha
  obtain ⟨sn, hsn⟩ : ∃ sn, sn = a.ps.length := ⟨_, rfl⟩
  rw [← hsn] at hv0
  obtain ⟨w2, hw2, hbw, hlt2, hbx⟩ := box_new w a (.slice sa sn sc)
  have HSa := Lib.hid (fun (W : World) (h : Below w.heap.size w W) => by
    have := size_any 100 (by omega) a W R (laid_low ha h)
    rw [nodeAgg_v hv0] at this
    exact this)
  have HFo := Lib.hid (fun (W : World) (h : Below w.heap.size w W) (hz : szT (erase a) ≤ 1000000) => by
    have := formed_ref 1000000 (Nat.le_refl _) a W R hz (laid_low ha h)
    rw [nodeAgg_v hv0] at this
    exact this)
  have HVo := Lib.hid (fun (W : World) (h : Below w.heap.size w W) (hz : szT (erase a) ≤ 100000) => by
    have := void_any a W R (laid_low ha h) hz
    rw [nodeAgg_v hv0] at this
    exact this)
  have HNu := Lib.hid (fun (W : World) (h : Below w.heap.size w W) (hz : szT (erase a) ≤ 100000) => by
    have := nullable_any a W R (laid_low ha h) hz
    rw [nodeAgg_v hv0] at this
    exact this)
  have HTo := Lib.hid (fun (W : World) (h : Below w.heap.size w W) (hz : szT (erase a) ≤ 1000000) (hok : okT (erase a) = true) => by
    have := told_any 1000000 (Nat.le_refl _) a W R hz (laid_low ha h) hok
    rw [nodeAgg_v hv0] at this
    exact this)
  have HNB := Lib.hid (not_both a)
  have HBX := Lib.hid hbx
  have HBW := Lib.hid (And.intro hbw hlt2)
  rw [nodeAgg_v hv0]
  clear hbx ha hv0 hsn hlt2
  go_enter Try.func4, Try.ntmps4
  go_wp2_with fail
  clear hw2 hbw
  go_at_call 8
  refine (awake4_any _).mono ?_
  rintro e w3 ⟨rfl, hb3⟩
  obtain ⟨x0, x1, x2, x3, x4, x5, x6, x7⟩ := HBX.out w3 hb3
  have HB3 := Lib.hid hb3
  clear hb3
  go_wp2_with fail
  go_at_call 9
  refine (HSa.out _ (bhop HBW.out.1 HB3.out)).mono ?_
  rintro e w4 ⟨rfl, hb4⟩
  have HB4 := Lib.hid (bhop HB3.out hb4)
  clear hb4 x0 x1 x2 x3 x4 x5 x6 x7
  obtain ⟨x0, x1, x2, x3, x4, x5, x6, x7⟩ := HBX.out w4 HB4.out
  by_cases hA : szT (erase a) ≤ 100
  · have hA2 : min (szT (erase a)) (100 + 1) = szT (erase a) := by omega
    rw [hA2]
    have g1 : ¬ (100 : Int) < ((szT (erase a) : Nat) : Int) := by omega
    have HA := Lib.hid hA
    clear hA hA2
    go_wp2_with fail
    go_at_call 10
    refine (HFo.out _ (bhop HBW.out.1 HB4.out) (by have := HA.out; omega)).mono ?_
    rintro e w5 ⟨rfl, hb5⟩
    have HB5 := Lib.hid (bhop HB4.out hb5)
    clear hb5 x0 x1 x2 x3 x4 x5 x6 x7
    obtain ⟨x0, x1, x2, x3, x4, x5, x6, x7⟩ := HBX.out w5 HB5.out
    cases hok : okT (erase a) with
    | false =>
      have HK := Lib.hid hok
      clear hok
      go_wp2_with fail
      go_at_call 13
      refine (HVo.out _ (bhop HBW.out.1 HB5.out) (by have := HA.out; omega)).mono ?_
      rintro e w6 ⟨rfl, hb6⟩
      rw [HK.out, Bool.false_and]
      have HB6 := Lib.hid (bhop HB5.out hb6)
      clear hb6 x0 x1 x2 x3 x4 x5 x6 x7
      obtain ⟨x0, x1, x2, x3, x4, x5, x6, x7⟩ := HBX.out w6 HB6.out
      go_wp2_with fail
      go_at_call 14
      refine (HNu.out _ (bhop HBW.out.1 HB6.out) (by have := HA.out; omega)).mono ?_
      rintro e w7 ⟨rfl, hb7⟩
      rw [HK.out, Bool.false_and]
      have HB7 := Lib.hid (bhop HB6.out hb7)
      clear hb7 x0 x1 x2 x3 x4 x5 x6 x7
      go_wp2_with fail
      go_ret
      exact ⟨rfl, bhop HBW.out.1 HB7.out⟩
    | true =>
      have HK := Lib.hid hok
      clear hok
      go_wp2_with fail
      go_at_call 15
      refine (HTo.out _ (bhop HBW.out.1 HB5.out) (by have := HA.out; omega) HK.out).mono ?_
      rintro e w6 ⟨rfl, hb6⟩
      have HB6 := Lib.hid (bhop HB5.out hb6)
      clear hb6 x0 x1 x2 x3 x4 x5 x6 x7
      obtain ⟨x0, x1, x2, x3, x4, x5, x6, x7⟩ := HBX.out w6 HB6.out
      have hnb := HNB.out HK.out
      have hvv := fun W h => HVo.out W h (by have := HA.out; omega)
      have hnn := fun W h => HNu.out W h (by have := HA.out; omega)
      rw [HK.out] at hvv hnn
      simp only [Bool.true_and] at hvv hnn
      generalize vdV a = v at *
      generalize nuV a = u at *
      have HV := Lib.hid hvv
      have HN := Lib.hid hnn
      clear hvv hnn HVo HNu HTo HNB
      go_wp2_with fail
      go_at_call 13
      refine (HV.out _ (bhop HBW.out.1 HB6.out)).mono ?_
      rintro e w7 ⟨rfl, hb7⟩
      have HB7 := Lib.hid (bhop HB6.out hb7)
      clear hb7 x0 x1 x2 x3 x4 x5 x6 x7
      obtain ⟨x0, x1, x2, x3, x4, x5, x6, x7⟩ := HBX.out w7 HB7.out
      go_wp2_with fail
      go_at_call 14
      refine (HN.out _ (bhop HBW.out.1 HB7.out)).mono ?_
      rintro e w8 ⟨rfl, hb8⟩
      have HB8 := Lib.hid (bhop HB7.out hb8)
      clear hb8 x0 x1 x2 x3 x4 x5 x6 x7
      cases v <;> cases u
      all_goals first | exact absurd ⟨rfl, rfl⟩ hnb | skip
      all_goals
        go_wp2_with fail
        go_ret
        exact ⟨rfl, bhop HBW.out.1 HB8.out⟩
  · have hA2 : min (szT (erase a)) (100 + 1) = 101 := by omega
    rw [hA2]
    clear hA hA2 x0 x1 x2 x3 x4 x5 x6 x7
    go_wp2_with fail
    go_at_call 8
    refine (awake4_any _).mono ?_
    rintro e w5 ⟨rfl, hb5⟩
    have HB5 := Lib.hid (bhop HB4.out hb5)
    go_wp2_with fail
    go_ret
    exact ⟨rfl, bhop HBW.out.1 HB5.out⟩

end Go.Proofs.Ytcnjogkgfdbhfaa

/- Of every tree the statement CoreTells returns true, and it reads afterwards as before.
   No condition. -/
namespace Go.Proofs.Ytcnjogkgfdbhfaa
open Go.ChangeShapes Go.WideShapes Go.ChangeAt Go.RowKit

theorem trOwn : ownKnob Try.prog.godebug = none := by kernel_rfl
theorem trLaidOut : laidOutB Try.prog = true := by kernel_rfl
theorem nodeAgg_ndc (t : V) : nodeAgg t = .agg (ndc t).toArray := rfl

set_option maxRecDepth 100000 in
theorem coreTells_lifted (os : Os) (started : os.Started) (H : Type) (enc : TypeId × Value → H) :
    ReturnsInHanded {} Try.checked os 4 .any (Rows.coreTellsSpec.pre6 enc Try.prog Try.f4 Rows.coreTellsRow.domain false) (Rows.coreTellsSpec.post enc Try.prog Try.f4 false true false false) := by
  refine returnsInHanded_of_change (C := Try.checked) trOwn started (by kernel_rfl) Try.func4
    (ChangeSpec.witness6 (enc := enc) (C := Try.checked) false ⟨#[], #[.agg #[.int .i64 0, .int .u64 0, .int .u64 0, .int .u64 0, .int .u64 0, .slice none 0 0, .int .i64 0, .int .i64 0]], []⟩ 8 (by kernel_rfl) (by kernel_rfl) (by kernel_rfl) (by kernel_rfl)) ?_
  intro W base args ds gs before hval0 hW hcnd _
  have hval : ∀ (j : Nat) t v, Try.f4.params[j]? = some t → args[j]? = some v → Value.okWide Try.prog W .any base t v := hval0
  have hW' := hW
  obtain ⟨p, q, hA0, hV, rfl, hfz, hnd⟩ := hW
  have hA : DataW.TrodAll enc Try.prog W 0 (fun _ => true) true Try.f4.params.toList args.toList ds p := hA0
  rw [Try.params4] at hA hval
  obtain ⟨v0, vs0, d0, ds0, p0, q0, hargs, rfl, rfl, h0, r0⟩ := trodAll_cons hA
  obtain ⟨rfl, rfl, rfl⟩ := trodAll_nil r0
  obtain rfl : args = #[v0] := by cases args; simp_all
  obtain ⟨rfl, rfl⟩ := trodVars_none hV
  have k0 := h0
  have lt0 : ∀ x ∈ p0, x.block < W.heap.size := by obtain ⟨m, hm⟩ := k0; exact DataW.trod_lt m _ _ _ hm
  obtain ⟨t0, rfl, l0, _⟩ := open_tree (hval 0 27 v0 rfl rfl) h0
  clear hA0 hval0
  rw [← nodeAgg_ndc] at *
  refine (tells4_walk t0 W _ l0).mono fun e W' ⟨he, bel⟩ => ?_
  subst he
  exact ⟨_, rfl, _, _, _, [], _, [], hW', trodAll_mk1 (shut_bool Try.underlying4 _), (trodAll_cons_mk (Below.trod trLaidOut (by kernel_rfl) (of_decide_eq_true (by kernel_rfl)) k0 bel lt0) trodAll_mk0), rfl, bel.frame _, fun h => by cases h⟩

theorem coreTells_holds : Rows.CoreTellsSaid :=
  OpenClaim.holds_of_wide 4 Try.f4 rfl rfl rfl rfl rfl rfl rfl ⟨rfl, rfl, rfl, rfl, rfl⟩ rfl rfl rfl rfl rfl (by kernel_rfl) Try.func4 (by kernel_rfl)
    (of_decide_eq_true (by kernel_rfl)) (by unfold Func.isWrapper; rw [if_neg (of_decide_eq_false (by kernel_rfl))]; exact ⟨rfl, rfl⟩)
    (fun os started H enc _ => coreTells_lifted os started H enc)
#print axioms coreTells_holds

end Go.Proofs.Ytcnjogkgfdbhfaa
