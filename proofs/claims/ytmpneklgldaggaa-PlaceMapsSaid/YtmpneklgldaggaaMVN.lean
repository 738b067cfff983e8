/- What Void and Nullable come to: contracts; a tree is not both.
   Conditions: the tree lies in memory, and has at most 100000 nodes. -/
import Derived.Test.YtmpneklgldaggaaMFoldV
import Derived.Test.YtmpneklgldaggaaMFoldN
import Derived.Test.YtmpneklgldaggaaMVoid
import Derived.Test.YtmpneklgldaggaaMSame
import Derived.Test.YtmpneklgldaggaaMForm
import Derived.Deep.DeepCutAuto

/- What Void and Nullable come to: contracts; a tree is not both.
   Conditions: the tree lies in memory, and has at most 100000 nodes. -/
namespace Go.Proofs.Ytmpneklgldaggaa
open Go.RowKit Go.Shelf
attribute [local go_sem] nodeAgg

mutual
theorem flat_sz (k : Int) (p : V) : ∀ t : V, p ∈ flatV k t → okF t → okF p ∧ szT (erase p) ≤ szT (erase t)
  | .node k' C lo hi v ps, h, ho => by
    rw [flatV] at h
    by_cases hm : meltK k' lo hi k = true
    · rw [if_pos hm] at h
      obtain ⟨h1, h2⟩ := flats_sz k p ps h (fun q hq => ho.part hq)
      rw [erase, szT]
      exact ⟨h1, by omega⟩
    · rw [if_neg hm] at h
      simp at h
      subst h
      exact ⟨ho, Nat.le_refl _⟩
theorem flats_sz (k : Int) (p : V) : ∀ ts : List V, p ∈ flatsV k ts → (∀ t ∈ ts, okF t) → okF p ∧ szT (erase p) ≤ szsT (erases ts)
  | [], h, _ => by rw [flatsV] at h; simp at h
  | t :: ts, h, ho => by
    rw [flatsV] at h
    rw [erases, szsT]
    rcases List.mem_append.1 h with h | h
    · obtain ⟨h1, h2⟩ := flat_sz k p t h (ho t (by simp))
      exact ⟨h1, by omega⟩
    · obtain ⟨h1, h2⟩ := flats_sz k p ts h (fun q hq => ho q (by simp [hq]))
      exact ⟨h1, by omega⟩
end
def SzOk (t : V) : Prop := okF t ∧ szT (erase t) ≤ 1000000
theorem szOk_flats (t p : V) (h : SzOk t) (hp : p ∈ flatsV t.kind t.ps) : SzOk p := by
  obtain ⟨h1, h2⟩ := flats_sz t.kind p t.ps hp (fun q hq => h.1.part hq)
  have h3 := h.2
  rw [sz_eq] at h3
  exact ⟨h1, by omega⟩
mutual
theorem not_both : ∀ t : V, okF t → ¬ (vdV t = true ∧ nuV t = true)
  | .node k C lo hi v ps, h => by
    rintro ⟨h1, h2⟩
    rw [vd_eq] at h1
    rw [nu_eq] at h2
    have hps := nots_both ps (fun p hp => h.part hp)
    rcases h.kinds with hk | hk | hk | hk | hk
    · rw [if_neg (by omega), if_neg (by omega), if_neg (by omega), if_neg (by omega)] at h1
      cases h1
    · rw [if_neg (by omega), if_neg (by omega), if_neg (by omega), if_neg (by omega)] at h2
      cases h2
    · rw [if_neg (by omega), if_pos hk] at h1 h2
      obtain ⟨p, hp, hv⟩ := List.any_eq_true.1 h1
      exact hps p hp ⟨hv, List.all_eq_true.1 h2 p hp⟩
    · rw [if_neg (by omega), if_neg (by omega), if_pos hk] at h1 h2
      obtain ⟨p, hp, hv⟩ := List.any_eq_true.1 h2
      exact hps p hp ⟨List.all_eq_true.1 h1 p hp, hv⟩
    · rw [if_neg (by omega), if_neg (by omega), if_neg (by omega), if_pos hk] at h1 h2
      rw [Bool.and_eq_true] at h1
      rw [Bool.or_eq_true] at h2
      have h3 := of_decide_eq_true h1.1
      rcases h2 with h2 | h2
      · have := of_decide_eq_true h2; omega
      · obtain ⟨p, hp⟩ := h.four hk
        have hp' : ps = [p] := hp
        have e1 : vdV p = true := by
          have := h1.2
          rw [hp] at this
          simpa using this
        have e2 : nuV p = true := by
          rw [hp] at h2
          simpa using h2
        exact hps p (by rw [hp']; simp) ⟨e1, e2⟩
theorem nots_both : ∀ ts : List V, (∀ t ∈ ts, okF t) → ∀ p ∈ ts, ¬ (vdV p = true ∧ nuV p = true)
  | [], _, p, hp => by simp at hp
  | t :: ts, h, p, hp => by
    rcases List.mem_cons.1 hp with e | hp
    · rw [e]; exact not_both t (h t (by simp))
    · exact nots_both ts (fun q hq => h q (by simp [hq])) p hp
end

set_option maxHeartbeats 2000000 in
set_option maxRecDepth 100000 in
theorem nullable_any (t : V) (w : World) (R : Nat → Prop) (hl : Laid w R t) (hz : szT (erase t) ≤ 100000) :
    Calls Try.prog 15 #[nodeAgg t] w fun e w' => e = .returned (.bool (okT (erase t) && nuV t)) ∧ Below w.heap.size w w' := by
  obtain ⟨sa, sc, hv, _⟩ := laid_row' hl
  have hdep : dptV t ≤ 1000000 := by rw [dpt_erase]; have := dpt_sz (erase t); omega
  obtain ⟨w2, hw2, hbw, hlt2, hbx⟩ := box_new w t (.slice sa t.ps.length sc)
  have HF := Lib.hid (callsIn_wide.1 (formed_in t w2 sa t.ps.length sc hv R (laid_low hl hbw) hdep))
  have hbox : w2.heap[w.heap.size]? = some (.cells (ndc t).toArray 27 (0, 0)) := by
    have hnd : #[.int .i64 t.kind, .int .u64 (t.set 0 : Nat), .int .u64 (t.set 1 : Nat), .int .u64 (t.set 2 : Nat), .int .u64 (t.set 3 : Nat), .slice sa t.ps.length sc, .int .i64 t.lo, .int .i64 t.hi] = (ndc t).toArray := by unfold ndc; rw [hv]
    rw [← hw2, ← hnd]
    exact heap_alloc_new w _
  have hl2 : Laid w2 (fun x => x < w.heap.size + 1) t := hl.keep (fun x hx _ => by omega) hbw.size fun k hk _ => hbw.block k hk
  have hnode : NodeB (w.heap.size + 1) w2 w.heap.size 0 t := ⟨by omega, fun j u hu => by rw [Nat.zero_add, (row_cells hbox).1 j, List.getElem?_toArray]; exact hu, hl2⟩
  have HN := Lib.hid (fun (W : World) (h : Below w2.heap.size w2 W) (hok : okF t) => fold_N (w.heap.size + 1) w.heap.size 0 t W SzOk nuV szOk_flats (hnode.chg (Chg.of_below h)) ⟨hok, by omega⟩ (by have := h.size; omega) (by have := sz_eq t; omega) (fun _ h => h.2)
    (fun W' b o p pv hn hs _ ho => nullableOf_any (w.heap.size + 1) W.heap.size b o p pv W' hn hs.1 hs.2 ho))
  have HBX := Lib.hid hbx
  have HBW := Lib.hid hbw
  rw [nodeAgg_v hv]
  clear hl hz hdep hbx hbox hl2 hnode hv hlt2 hbw
  go_enter Try.func15, Try.ntmps15
  have x0 := HBX.out w2 (Below.refl _ _)
  unfold BoxC at x0
  obtain ⟨x0, x1, x2, x3, x4, x5, x6, x7⟩ := x0
  go_upto_region 1 with fail
  clear hw2
  go_wp2_with fail
  go_at_call 16
  refine HF.out.mono ?_
  rintro e w3 ⟨rfl, hb3⟩
  cases hok : okT (erase t) with
  | false =>
    have HK := Lib.hid hok
    have HB3 := Lib.hid (HBW.out.trans (hb3.mono HBW.out.size))
    clear hb3 hok x0 x1 x2 x3 x4 x5 x6 x7
    go_wp2_with fail
    go_ret
    exact ⟨by rw [HK.out]; rfl, HB3.out⟩
  | true =>
    have HK := Lib.hid hok
    have HC := Lib.hid (HN.out w3 hb3 hok)
    have HB3 := Lib.hid (HBW.out.trans (hb3.mono HBW.out.size))
    clear hb3 hok x0 x1 x2 x3 x4 x5 x6 x7
    go_wp2_with fail
    go_at_call 25
    refine HC.out.mono ?_
    rintro e w4 ⟨rfl, hb4⟩
    go_wp2_with fail
    go_ret
    exact ⟨by rw [HK.out]; rfl, HB3.out.trans (hb4.mono HB3.out.size)⟩

end Go.Proofs.Ytmpneklgldaggaa
