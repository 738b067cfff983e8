/- What the reader's call that repeats the last part of a row comes to: a contract.
   Conditions: the memory is as 'Mem' says, and rows have at most 1000 parts. -/
import Derived.Test.YtpibkalbnjgpaaaDoorAtom
namespace Go.Proofs.YtpibkalbnjgpaaaDoor
open Go.RowKit
attribute [local go_sem] clsOk clsEr pairOk pairEr

theorem pnumber_er {r r' : List Nat} {c : Nat} (h : pnumber r = .er r' c) : c = 2 ∨ c = 3 := by
  unfold pnumber at h
  split at h
  · injection h with _ h; omega
  · split at h
    · injection h with _ h; omega
    · cases h
theorem pupper_er {lo : Nat} {r r' : List Nat} {c : Nat} (h : pupper lo r = .er r' c) : c = 2 ∨ c = 3 := by
  by_cases q1 : r.head? = some 44
  · cases r with
    | nil => simp at q1
    | cons b r =>
      simp at q1
      subst q1
      by_cases q2 : r.head? = some 125
      · cases r with
        | nil => simp at q2
        | cons b r =>
          simp at q2
          subst q2
          rw [pupper_open] at h
          cases h
      · rw [pupper_num lo q2] at h
        split at h
        · cases h
        · rename_i hz
          injection h with _ h
          have := pnumber_er hz
          omega
  · rw [pupper_no lo q1] at h
    cases h
theorem ptimes_er {b : Nat} {r r' : List Nat} {c : Nat} (h : ptimes b r = .er r' c) : c = 2 ∨ c = 3 := by
  unfold ptimes at h
  split at h
  · cases h
  · split at h
    · cases h
    · split at h
      · cases h
      · cases hx : pnumber r with
        | er r1 c1 => rw [pbounds_er1 hx] at h; injection h with _ h; have := pnumber_er hx; omega
        | ok lo r1 =>
          cases hy : pupper lo r1 with
          | er r2 c2 => rw [pbounds_er2 hx hy] at h; injection h with _ h; have := pupper_er hy; omega
          | ok hi r2 =>
            by_cases h3 : r2.head? = some 125
            · cases r2 with
              | nil => simp at h3
              | cons b r3 =>
                simp at h3
                subst h3
                rw [pbounds_in hx hy] at h
                split at h
                · injection h with _ h; omega
                · cases h
            · rw [pbounds_no hx hy h3] at h; injection h with _ h; omega
def prep (g : G) (frs : List G) (b : Nat) (r : List Nat) : Out (G × List G) := if g.row = [] then .er (b :: r) 2 else match ptimes b r with
  | .er r' c => .er r' c
  | .ok t r' => .ok (⟨g.rows, repLast t g.row⟩, frs) r'
theorem prep_none {g : G} {frs : List G} {b : Nat} {r : List Nat} (h : g.row = []) : prep g frs b r = .er (b :: r) 2 := by unfold prep; rw [if_pos h]
theorem prep_er {g : G} {frs : List G} {b : Nat} {r r' : List Nat} {c : Nat} (h : g.row ≠ []) (h2 : ptimes b r = .er r' c) : prep g frs b r = .er r' c := by unfold prep; rw [if_neg h, h2]
theorem prep_ok {g : G} {frs : List G} {b : Nat} {r r' : List Nat} {t : Int × Int} (h : g.row ≠ []) (h2 : ptimes b r = .ok t r') : prep g frs b r = .ok (⟨g.rows, repLast t g.row⟩, frs) r' := by unfold prep; rw [if_neg h, h2]

/-- The last part of the innermost row has been repeated. -/
theorem rep_mem {w : World} {base rb k ob cap : Nat} {s : ByteArray} {fr : List Grp} {g : Grp} (h : Mem w base rb s k (fr ++ [g]) ob cap) {ini : List V} {la : V} (hrow : g.row = ini ++ [la]) {gr cp2 : Nat} (hv2 : g.v2 = .slice (some ⟨gr, 0, none⟩) (ini.length + 1) cp2) (lo hi : Int) :
    Mem ((store8 w gr (ini.length * 8) (.int .i64 4) (.int .u64 0) (.int .u64 0) (.int .u64 0) (.int .u64 0) (.slice (some ⟨w.heap.size, 0, none⟩) 1 1) (.int .i64 lo) (.int .i64 hi)).alloc (.cells (ndc la).toArray 27)) base rb s k (fr ++ [⟨g.rows, ini ++ [.node 4 zeros lo hi (.slice (some ⟨w.heap.size, 0, none⟩) 1 1) [la]], g.v1, g.v2⟩]) ob cap ∧
    Bel base rb w ((store8 w gr (ini.length * 8) (.int .i64 4) (.int .u64 0) (.int .u64 0) (.int .u64 0) (.int .u64 0) (.slice (some ⟨w.heap.size, 0, none⟩) 1 1) (.int .i64 lo) (.int .i64 hi)).alloc (.cells (ndc la).toArray 27)) := by
  obtain ⟨a1, a2, a3, a4⟩ := h.apart
  have hg : g ∈ fr ++ [g] := by simp
  have hb2 : g.v2.ownBlock = some gr := by rw [hv2]; rfl
  have hgl := (h.own2 g hg).lt gr hb2
  have hgob : gr ≠ ob := fun e => a1 gr (mem_blocks.2 (.inr hb2)) (by subst e; unfold live; simp)
  have hc : Chg (fun b => b = ob ∨ g.v1.ownBlock = some b ∨ g.v2.ownBlock = some b) w ((store8 w gr (ini.length * 8) (.int .i64 4) (.int .u64 0) (.int .u64 0) (.int .u64 0) (.int .u64 0) (.slice (some ⟨w.heap.size, 0, none⟩) 1 1) (.int .i64 lo) (.int .i64 hi)).alloc (.cells (ndc la).toArray 27)) :=
    (store8_chg (Chg.refl _ w) (fun _ => .inr (.inr hb2)) _ _ _ _ _ _ _ _ _).alloc _
  have hc2 : Chg (fun b => b = gr) w ((store8 w gr (ini.length * 8) (.int .i64 4) (.int .u64 0) (.int .u64 0) (.int .u64 0) (.int .u64 0) (.slice (some ⟨w.heap.size, 0, none⟩) 1 1) (.int .i64 lo) (.int .i64 hi)).alloc (.cells (ndc la).toArray 27)) :=
    (store8_chg (R := fun b => b = gr) (g := gr) (Chg.refl _ w) (fun _ => rfl) _ _ _ _ _ _ _ _ _).alloc _
  have hnew : ((store8 w gr (ini.length * 8) (.int .i64 4) (.int .u64 0) (.int .u64 0) (.int .u64 0) (.int .u64 0) (.slice (some ⟨w.heap.size, 0, none⟩) 1 1) (.int .i64 lo) (.int .i64 hi)).alloc (.cells (ndc la).toArray 27)).heap[w.heap.size]? = some (.cells (ndc la).toArray 27 (0, 0)) := by
    have := heap_alloc_new (store8 w gr (ini.length * 8) (.int .i64 4) (.int .u64 0) (.int .u64 0) (.int .u64 0) (.int .u64 0) (.slice (some ⟨w.heap.size, 0, none⟩) 1 1) (.int .i64 lo) (.int .i64 hi)) (.cells (ndc la).toArray 27)
    rw [store8_size] at this
    exact this
  have f1 : ∀ b, g.v1.ownBlock = some b → g.v1.ownBlock = some b ∨ w.heap.size ≤ b := fun b hb => .inl hb
  have f2 : ∀ b, g.v2.ownBlock = some b → g.v2.ownBlock = some b ∨ w.heap.size ≤ b := fun b hb => .inl hb
  have o2 : (store8 w gr (ini.length * 8) (.int .i64 4) (.int .u64 0) (.int .u64 0) (.int .u64 0) (.int .u64 0) (.slice (some ⟨w.heap.size, 0, none⟩) 1 1) (.int .i64 lo) (.int .i64 hi)).ownsRow base 27 8 g.v2 (ini.length + 1) (flat ini ++ [.int .i64 4, .int .u64 0, .int .u64 0, .int .u64 0, .int .u64 0, .slice (some ⟨w.heap.size, 0, none⟩) 1 1, .int .i64 lo, .int .i64 hi]) := by
    have h2 := h.own2 g hg
    rw [hrow, flat_snoc] at h2
    have hl : (ini ++ [la]).length = ini.length + 1 := by simp
    rw [hl] at h2
    rw [hv2] at h2 ⊢
    exact store8_own _ _ _ _ _ _ _ _ (flat_length ini) h2
  generalize store8 w gr (ini.length * 8) (.int .i64 4) (.int .u64 0) (.int .u64 0) (.int .u64 0) (.int .u64 0) (.slice (some ⟨w.heap.size, 0, none⟩) 1 1) (.int .i64 lo) (.int .i64 hi) = W0 at *
  have hk : ∀ {x : V}, Laid w (Rl base rb ob (fr ++ [g])) x → Laid (W0.alloc (.cells (ndc la).toArray 27)) (Rl base rb ob (fr ++ [(⟨g.rows, ini ++ [.node 4 zeros lo hi (.slice (some ⟨w.heap.size, 0, none⟩) 1 1) [la]], g.v1, g.v2⟩ : Grp)])) x := fun hx =>
    live_kept (g := g) (g' := ⟨g.rows, ini ++ [.node 4 zeros lo hi (.slice (some ⟨w.heap.size, 0, none⟩) 1 1) [la]], g.v1, g.v2⟩) hc f1 f2 hx
  refine ⟨h.upd ⟨g.rows, ini ++ [.node 4 zeros lo hi (.slice (some ⟨w.heap.size, 0, none⟩) 1 1) [la]], g.v1, g.v2⟩ hc ?_ ?_ ?_ f1 f2 a2 ?_, h.below hc⟩
  · have hst := own_chg h.stk hc2 fun b hb => (by
      have : b = ob := by simpa [Value.ownBlock] using hb.symm
      subst this
      exact fun e => hgob e.symm)
    rw [gcells_snoc] at hst ⊢
    have hl1 : (fr ++ [(⟨g.rows, ini ++ [.node 4 zeros lo hi (.slice (some ⟨w.heap.size, 0, none⟩) 1 1) [la]], g.v1, g.v2⟩ : Grp)]).length = (fr ++ [g]).length := by simp
    rw [hl1]
    exact hst
  · exact own_chg (h.own1 g hg) hc2 fun b hb e => a2 b hb (by rw [e]; exact hb2)
  · show World.ownsRow _ base 27 8 g.v2 (ini ++ [_]).length (flat (ini ++ [_]))
    rw [List.length_append, flat_snoc]
    exact o2.alloc _
  · rintro x (hx | hx)
    · exact hk (h.laid g hg x (.inl hx))
    · rcases List.mem_append.1 hx with hx | hx
      · exact hk (h.laid g hg x (.inr (by rw [hrow]; simp [hx])))
      · simp at hx
        subst hx
        refine .some 4 zeros lo hi [la] w.heap.size 0 1 ⟨h.base_le, fun hm => ?_⟩ (Array.getElem?_eq_some_iff.1 hnew).1 (Nat.le_refl _) (fun i t ht j u hu => ?_) fun t ht => ?_
        · rw [live_snoc, List.mem_append] at hm
          rcases hm with hm | hm
          · have := (h.lt _ (by rw [live_snoc, List.mem_append]; exact .inl hm)).2; omega
          · have := (h.lt w.heap.size (by rw [live_snoc, List.mem_append]; exact .inr hm)).2; omega
        · have hi0 : i = 0 := by have := (List.getElem?_eq_some_iff.1 ht).1; simpa using this
          subst hi0
          simp at ht
          subst ht
          rw [Nat.zero_mul, Nat.zero_add, (row_cells hnew).1 j, List.getElem?_toArray]
          exact hu
        · simp at ht
          subst ht
          exact hk (h.laid g hg t (.inr (by rw [hrow]; simp)))

set_option maxHeartbeats 2000000 in
set_option maxRecDepth 100000 in
theorem repeat_any {w : World} {base rb k ob cap b : Nat} {s : ByteArray} {fr : List Grp} {g : Grp} {r : List Nat} (h : Mem w base rb s k (fr ++ [g]) ob cap) (ht : Tl s k (b :: r)) (hs : s.size ≤ maxLen) (hb : b = 42 ∨ b = 43 ∨ b = 63 ∨ b = 123) (hn : g.row.length ≤ 1000) (hm : fr.length ≤ 1000) :
    Calls Tryd.prog 52 #[.pointer (some ⟨rb, 0, none⟩), .int .u8 b] w (Stepped (prep g.er (fr.map Grp.er).reverse b r) w base rb s) := by
  have hlen : (fr ++ [g]).length = fr.length + 1 := by simp
  have hrd := h.rd
  rw [hlen] at hrd
  have hg : g ∈ fr ++ [g] := by simp
  obtain ⟨c1, c2, cf⟩ := h.cells
  have ow2 := h.own2 g hg
  have hrb := h.rd.lt
  have hob := h.obs.2
  have hne := h.apart.2.2.1
  have HH := Lib.hid h
  have HL := Lib.hid hlen
  have HR := Lib.hid hrd
  clear h hlen hrd c1 cf
  rcases List.eq_nil_or_concat g.row with hrow | ⟨ini, la, hrow⟩
  · have hz : g.row.length = 0 := by rw [hrow]; rfl
    obtain ⟨A2, cp2, hv2⟩ := own_form ow2
    rw [hz] at hv2
    rw [hv2] at c2
    have HP := Lib.hid (prep_none (g := g.er) (frs := (fr.map Grp.er).reverse) (b := b) (r := r) (by show erases g.row = []; rw [hrow]; rfl))
    clear hv2 hrow hz ow2
    generalize hmm : fr.length = m at *
    have HM := Lib.hid hmm
    clear hmm
    go_enter Tryd.func52, Tryd.ntmps52
    go_wp2_with fail
    go_at_call 49
    refine (inner_any _ rb k ob m cap s HR.out hm).mono ?_
    rintro e w1 ⟨rfl, hA1⟩
    have d2 := (hA1.2.cell (m * 2 + 1) hob (fun e => hne e.symm)).trans c2
    go_wp2_with fail
    go_ret
    have hA1' := hA1
    rw [← HL.out] at hA1'
    rw [HP.out]
    exact ⟨.inl rfl, rfl, HH.out.af_below hA1', k, _, hA1.1, ht⟩
  · rw [List.concat_eq_append] at hrow
    have hz : g.row.length = ini.length + 1 := by rw [hrow]; simp
    have ow2' := ow2
    rw [hz] at ow2'
    obtain ⟨gr, cp2, hv2, _, hgl⟩ := ow2'.form (Nat.succ_pos _)
    have hla : Laid w (Rl base rb ob (fr ++ [g])) la := HH.out.laid g hg la (.inr (by rw [hrow]; simp))
    obtain ⟨sa, sn, sc, hsl⟩ := hla.slice
    have hne2 : (g.er).row ≠ [] := by
      show erases g.row ≠ []
      rw [hrow, erases_append]
      simp [erases]
    have hgrb : ¬ gr = rb := fun e => HH.out.apart.1 gr (mem_blocks.2 (.inr (by rw [hv2]; rfl))) (by subst e; unfold live; simp)
    have hcell : ∀ j, j < 8 → w.cell? ⟨gr, ini.length * 8 + j, none⟩ = (ndc la)[j]? := fun j hj => by
      have h1 := ow2
      rw [hz, hv2] at h1
      rw [h1.cellAt _ (by omega), flat_at g.row ini.length la (by rw [hrow]; simp) j hj]
    have hfz : ∀ j, w.frozen? ⟨gr, j, none⟩ = false := fun j => by
      have h1 := ow2
      rw [hz, hv2] at h1
      exact h1.frozenAt j
    have hq : ini.length ≤ 1000 := by omega
    have c3 := c2
    rw [hv2] at c3
    have HV := Lib.hid hv2
    have HROW := Lib.hid hrow
    have HSL := Lib.hid hsl
    have HE := Lib.hid hne2
    have HC := Lib.hid (And.intro hcell hfz)
    clear hv2 hrow hsl hne2 ow2 ow2' c2 hz hla hcell hfz
    generalize hmm : fr.length = m at *
    generalize hqq : ini.length = q at *
    have HM := Lib.hid hmm
    have HQ := Lib.hid hqq
    clear hmm hqq
    have q0 : (0 : Int) ≤ (q : Int) := by omega
    have q1 : (q : Int) < (q : Int) + 1 := by omega
    have q2 : (q : Int) ≤ 1000 := by omega
    have q3 : IntKind.i64.wrap (q : Int) = (q : Int) := by rw [IntKind.wrap_i64]; omega
    have q4 : ((q : Int) + 1 == 0) = false := by simp; omega
    have q5 : ¬ (q : Int) + 1 = 0 := by omega
    go_enter Tryd.func52, Tryd.ntmps52
    go_wp2_with fail
    go_at_call 49
    refine (inner_any _ rb k ob m cap s HR.out hm).mono ?_
    rintro e w1 ⟨rfl, hA1⟩
    have d2 := (hA1.2.cell (m * 2 + 1) hob (fun e => hne e.symm)).trans c3
    have HA1 := Lib.hid hA1
    clear hA1
    go_wp2_with fail
    go_at_call 62
    refine (times_any _ rb k b r s _ HA1.out.1 ht hs hb).mono ?_
    intro e w2 hG
    have hG2 := Gives.mono' HA1.out hG
    clear hG d2 c3
    revert hG2
    cases hx : ptimes b r with
    | er r' c =>
      have HP := Lib.hid (prep_er (frs := (fr.map Grp.er).reverse) HE.out hx)
      have hc := ptimes_er hx
      clear hx
      rintro ⟨rfl, k2, hA2, ht2⟩
      have hA2' := hA2
      rw [← HL.out] at hA2'
      rcases hc with rfl | rfl
      · go_wp2_with fail
        go_ret
        rw [HP.out]
        exact ⟨.inl rfl, rfl, HH.out.af_below hA2', k2, _, hA2.1, ht2⟩
      · go_wp2_with fail
        go_ret
        rw [HP.out]
        exact ⟨.inr rfl, rfl, HH.out.af_below hA2', k2, _, hA2.1, ht2⟩
    | ok bb r' =>
      obtain ⟨lo, hi⟩ := bb
      have HP := Lib.hid (prep_ok (frs := (fr.map Grp.er).reverse) HE.out hx)
      clear hx
      rintro ⟨rfl, k2, hA2, ht2⟩
      have hA2' := hA2
      rw [← HL.out] at hA2'
      have hM2 := HH.out.af hA2'
      have hB2 := HH.out.af_below hA2'
      have e0 : w2.cell? ⟨gr, q * 8, none⟩ = some (.int .i64 la.kind) := (hA2.2.cell _ hgl hgrb).trans (HC.out.1 0 (by decide))
      have e1 : w2.cell? ⟨gr, q * 8 + 1, none⟩ = some (.int .u64 (la.set 0 : Nat)) := (hA2.2.cell _ hgl hgrb).trans (HC.out.1 1 (by decide))
      have e2 : w2.cell? ⟨gr, q * 8 + 2, none⟩ = some (.int .u64 (la.set 1 : Nat)) := (hA2.2.cell _ hgl hgrb).trans (HC.out.1 2 (by decide))
      have e3 : w2.cell? ⟨gr, q * 8 + 3, none⟩ = some (.int .u64 (la.set 2 : Nat)) := (hA2.2.cell _ hgl hgrb).trans (HC.out.1 3 (by decide))
      have e4 : w2.cell? ⟨gr, q * 8 + 4, none⟩ = some (.int .u64 (la.set 3 : Nat)) := (hA2.2.cell _ hgl hgrb).trans (HC.out.1 4 (by decide))
      have e5 : w2.cell? ⟨gr, q * 8 + 5, none⟩ = some (.slice sa sn sc) := ((hA2.2.cell _ hgl hgrb).trans (HC.out.1 5 (by decide))).trans (congrArg some HSL.out)
      have e6 : w2.cell? ⟨gr, q * 8 + 6, none⟩ = some (.int .i64 la.lo) := (hA2.2.cell _ hgl hgrb).trans (HC.out.1 6 (by decide))
      have e7 : w2.cell? ⟨gr, q * 8 + 7, none⟩ = some (.int .i64 la.hi) := (hA2.2.cell _ hgl hgrb).trans (HC.out.1 7 (by decide))
      have ef : ∀ j, w2.frozen? ⟨gr, j, none⟩ = false := fun j => (hA2.2.frozen j hgl hgrb).trans (HC.out.2 j)
      have el : gr < w2.heap.size := Nat.lt_of_lt_of_le hgl hA2.2.size
      have hfin := rep_mem hM2 HROW.out (by rw [HQ.out]; exact HV.out) lo hi
      rw [HQ.out] at hfin
      have hnd : ndc la = [.int .i64 la.kind, .int .u64 (la.set 0 : Nat), .int .u64 (la.set 1 : Nat), .int .u64 (la.set 2 : Nat), .int .u64 (la.set 3 : Nat), .slice sa sn sc, .int .i64 la.lo, .int .i64 la.hi] := by unfold ndc; rw [HSL.out]
      rw [hnd] at hfin
      have HF := Lib.hid (And.intro hfin hB2)
      clear hfin hB2 hM2 hnd hA2 hA2'
      go_wp2_with fail
      go_ret
      obtain ⟨⟨hM3, hB3⟩, hB2⟩ := HF.out
      rw [HP.out]
      refine ⟨rfl, hB2.trans hB3, k2, fr, _, ob, cap, hM3, ht2, ?_, rfl⟩
      show (⟨erases g.rows, erases (ini ++ [_])⟩ : G) = ⟨erases g.rows, repLast (lo, hi) (erases g.row)⟩
      rw [HROW.out, erases_append, erases_append]
      show (⟨_, erases ini ++ [_]⟩ : G) = ⟨_, repLast (lo, hi) (erases ini ++ [erase la])⟩
      rw [repLast_snoc]
      rfl

end Go.Proofs.YtpibkalbnjgpaaaDoor
