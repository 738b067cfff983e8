/- The walk of the statement SyntaxGroups: called with a text it returns true and changes nothing that was there.
   Conditions: the text is no longer than memory may be. -/
import Derived.Test.YtbodgadbhldbmaaRepWalk
import Derived.Deep.RegionWith
import Derived.Test.YtbodgadbhldbmaaByWalk
import Derived.Deep.DeepCutAuto
namespace Go.Proofs.Ytbodgadbhldbmaa
open Go.RowKit

theorem txt_paren {s : ByteArray} : txt (({ data := #[40] } : ByteArray) ++ s ++ { data := #[41] }) = 40 :: (txt s ++ [41]) := by
  rw [txt_append, txt_append]
  have e1 : txt { data := #[40] } = [40] := rfl
  have e2 : txt { data := #[41] } = [41] := rfl
  rw [e1, e2]
  simp
theorem txt_alt {s : ByteArray} : txt (({ data := #[40] } : ByteArray) ++ s ++ { data := #[41, 124, 40] } ++ s ++ { data := #[41] }) = 40 :: (txt s ++ 41 :: 124 :: 40 :: (txt s ++ [41])) := by
  rw [txt_append, txt_append, txt_append, txt_append]
  have e1 : txt { data := #[40] } = [40] := rfl
  have e2 : txt { data := #[41, 124, 40] } = [41, 124, 40] := rfl
  have e3 : txt { data := #[41] } = [41] := rfl
  rw [e1, e2, e3]
  simp

set_option maxHeartbeats 1000000 in
set_option maxRecDepth 100000 in
theorem groups_long (s : ByteArray) (w : World) (h : 190 < s.size) : Calls Try.prog 8 #[.string s] w fun e w' => e = .returned (.bool true) ∧ Below w.heap.size w w' := by
  have h1 : (190 : Int) < (s.size : Int) := by omega
  go_enter Try.func8, Try.ntmps8
  go_wp2_with fail
  go_at_call 10
  refine (awake_any _).mono ?_
  rintro e w1 ⟨rfl, hb1⟩
  go_wp2_with fail
  go_at_call 10
  refine (awake_any _).mono ?_
  rintro e w2 ⟨rfl, hb2⟩
  go_wp2_with fail
  go_ret
  exact ⟨rfl, below_go hb1 hb2⟩

set_option maxHeartbeats 8000000 in
set_option maxRecDepth 100000 in
theorem groups_short (s : ByteArray) (w : World) (h : s.size ≤ 190) : Calls Try.prog 8 #[.string s] w fun e w' => e = .returned (.bool true) ∧ Below w.heap.size w w' := by
  have h1 : ¬ (190 : Int) < (s.size : Int) := by omega
  have HL := Lib.hid (show (txt s).length ≤ 190 by rw [txt_length]; omega)
  go_enter Try.func8, Try.ntmps8
  go_wp2_with fail
  go_at_call 10
  refine (awake_any _).mono ?_
  rintro e w1 ⟨rfl, hb1⟩
  go_wp2_with fail
  go_at_call 11
  refine (parse_any _ _).mono ?_
  rintro e w2 ⟨v, sa, sn, sc, hsl, rfl, htr, hl, hb2⟩
  have HB2 := Lib.hid (below_go hb1 hb2)
  clear hb1 hb2
  by_cases h0 : (pparse (txt s)).2.2 = 0
  · obtain ⟨t, r, hrun, hgood, ht1, ht2, _⟩ := pparse_good h0
    rw [hgood] at htr ⊢
    have HT := Lib.hid (And.intro hrun (And.intro ht1 (And.intro ht2 (And.intro htr (And.intro hl hsl)))))
    clear hrun ht1 ht2 htr hl hsl hgood h0
    go_wp2_with fail
    go_at_call 11
    refine (parse_any _ _).mono ?_
    rintro e w3 ⟨v2, ua, un, uc, hsl2, rfl, htr2, hl2, hb3⟩
    rw [txt_paren, parse_paren HT.out.1 HT.out.2.1 HT.out.2.2.1 HL.out] at htr2 ⊢
    have H2 := Lib.hid (And.intro htr2 (And.intro hl2 hsl2))
    have HB3 := Lib.hid (below_al HB2.out _ hb3)
    have HB3' := Lib.hid hb3
    clear htr2 hl2 hsl2 hb3
    go_wp2_with fail
    go_at_call 11
    refine (parse_any _ _).mono ?_
    rintro e w4 ⟨v3, ta, tn, tc, hsl3, rfl, htr3, hl3, hb4⟩
    rw [txt_alt, parse_alt HT.out.1 HL.out] at htr3 ⊢
    have N2 := hb4
    have N1 := below_al HB3'.out _ hb4
    have HB4 := Lib.hid (below_al HB3.out _ hb4)
    have x0 : w4.cell? ⟨w2.heap.size, 0, none⟩ = some (.int .i64 v.kind) := (N1.cell (p := ⟨w2.heap.size, 0, none⟩) (by simp)).trans (by go_simp)
    have x1 : w4.cell? ⟨w2.heap.size, 1, none⟩ = some (.int .u64 (v.set 0 : Nat)) := (N1.cell (p := ⟨w2.heap.size, 1, none⟩) (by simp)).trans (by go_simp)
    have x2 : w4.cell? ⟨w2.heap.size, 2, none⟩ = some (.int .u64 (v.set 1 : Nat)) := (N1.cell (p := ⟨w2.heap.size, 2, none⟩) (by simp)).trans (by go_simp)
    have x3 : w4.cell? ⟨w2.heap.size, 3, none⟩ = some (.int .u64 (v.set 2 : Nat)) := (N1.cell (p := ⟨w2.heap.size, 3, none⟩) (by simp)).trans (by go_simp)
    have x4 : w4.cell? ⟨w2.heap.size, 4, none⟩ = some (.int .u64 (v.set 3 : Nat)) := (N1.cell (p := ⟨w2.heap.size, 4, none⟩) (by simp)).trans (by go_simp)
    have x5 : w4.cell? ⟨w2.heap.size, 5, none⟩ = some (.slice sa sn sc) := (N1.cell (p := ⟨w2.heap.size, 5, none⟩) (by simp)).trans (by go_simp)
    have x6 : w4.cell? ⟨w2.heap.size, 6, none⟩ = some (.int .i64 v.lo) := (N1.cell (p := ⟨w2.heap.size, 6, none⟩) (by simp)).trans (by go_simp)
    have x7 : w4.cell? ⟨w2.heap.size, 7, none⟩ = some (.int .i64 v.hi) := (N1.cell (p := ⟨w2.heap.size, 7, none⟩) (by simp)).trans (by go_simp)
    have z0 : w4.cell? ⟨w3.heap.size, 0, none⟩ = some (.int .i64 v2.kind) := (N2.cell (p := ⟨w3.heap.size, 0, none⟩) (by simp)).trans (by go_simp)
    have z1 : w4.cell? ⟨w3.heap.size, 1, none⟩ = some (.int .u64 (v2.set 0 : Nat)) := (N2.cell (p := ⟨w3.heap.size, 1, none⟩) (by simp)).trans (by go_simp)
    have z2 : w4.cell? ⟨w3.heap.size, 2, none⟩ = some (.int .u64 (v2.set 1 : Nat)) := (N2.cell (p := ⟨w3.heap.size, 2, none⟩) (by simp)).trans (by go_simp)
    have z3 : w4.cell? ⟨w3.heap.size, 3, none⟩ = some (.int .u64 (v2.set 2 : Nat)) := (N2.cell (p := ⟨w3.heap.size, 3, none⟩) (by simp)).trans (by go_simp)
    have z4 : w4.cell? ⟨w3.heap.size, 4, none⟩ = some (.int .u64 (v2.set 3 : Nat)) := (N2.cell (p := ⟨w3.heap.size, 4, none⟩) (by simp)).trans (by go_simp)
    have z5 : w4.cell? ⟨w3.heap.size, 5, none⟩ = some (.slice ua un uc) := (N2.cell (p := ⟨w3.heap.size, 5, none⟩) (by simp)).trans (by go_simp)
    have z6 : w4.cell? ⟨w3.heap.size, 6, none⟩ = some (.int .i64 v2.lo) := (N2.cell (p := ⟨w3.heap.size, 6, none⟩) (by simp)).trans (by go_simp)
    have z7 : w4.cell? ⟨w3.heap.size, 7, none⟩ = some (.int .i64 v2.hi) := (N2.cell (p := ⟨w3.heap.size, 7, none⟩) (by simp)).trans (by go_simp)
    obtain ⟨hrun, _, _, htr, hl, hsl⟩ := HT.out
    obtain ⟨htr2, hl2, hsl2⟩ := H2.out
    have hsz := sz_all hrun
    have hL := HL.out
    have N0 := below_al (Below.refl w2.heap.size w2) _ N1
    have N3 := below_al (Below.refl w3.heap.size w3) _ N2
    have hl5 := hl.keep (R' := fun b => w1.heap.size ≤ b) (fun _ _ h => h) N0.size fun k hk _ => N0.block k hk
    have hl6 := hl2.keep (fun _ _ h => h) N3.size fun k hk _ => N3.block k hk
    have HC := Lib.hid (fun (w' : World) (hb : Below w4.heap.size w4 w') => by
      have := same_yes 1000000 (Nat.le_refl _) v v2 w' _ _ (by rw [htr]; omega) (htr.trans htr2.symm) (hl5.keep (fun _ _ h => h) hb.size fun k hk _ => hb.block k hk) (hl6.keep (fun _ _ h => h) hb.size fun k hk _ => hb.block k hk)
      simp only [nodeAgg, hsl, hsl2] at this
      exact this)
    have HLT := Lib.hid (And.intro (show w2.heap.size < w4.heap.size by have := N1.size; simp at this; omega) (show w3.heap.size < w4.heap.size by have := N2.size; simp at this; omega))
    have hn1 : w2.heap.size ≠ w4.heap.size := by have := HLT.out.1; omega
    have hn2 : w3.heap.size ≠ w4.heap.size := by have := HLT.out.2; omega
    by_cases hbig : 20 < dptT (altT t) ∨ 40 < plcT (altT t)
    · rw [if_pos hbig] at htr3 ⊢
      clear htr3 hl3 hsl3 N0 N1 N2 N3 hb4 hrun htr hl hsl htr2 hl2 hsl2 hsz hL hl5 hl6 hbig
      go_upto_region 8 with fail
      generalize hW : World.alloc w4 _ = w5
      have hb5 : Below w4.heap.size w4 w5 := hW ▸ (Below.refl _ _).alloc (Nat.le_refl _) _
      have X0 : w5.cell? ⟨w2.heap.size, 0, none⟩ = some (.int .i64 v.kind) := (hb5.cell (p := ⟨w2.heap.size, 0, none⟩) HLT.out.1).trans x0
      have X1 : w5.cell? ⟨w2.heap.size, 1, none⟩ = some (.int .u64 (v.set 0 : Nat)) := (hb5.cell (p := ⟨w2.heap.size, 1, none⟩) HLT.out.1).trans x1
      have X2 : w5.cell? ⟨w2.heap.size, 2, none⟩ = some (.int .u64 (v.set 1 : Nat)) := (hb5.cell (p := ⟨w2.heap.size, 2, none⟩) HLT.out.1).trans x2
      have X3 : w5.cell? ⟨w2.heap.size, 3, none⟩ = some (.int .u64 (v.set 2 : Nat)) := (hb5.cell (p := ⟨w2.heap.size, 3, none⟩) HLT.out.1).trans x3
      have X4 : w5.cell? ⟨w2.heap.size, 4, none⟩ = some (.int .u64 (v.set 3 : Nat)) := (hb5.cell (p := ⟨w2.heap.size, 4, none⟩) HLT.out.1).trans x4
      have X5 : w5.cell? ⟨w2.heap.size, 5, none⟩ = some (.slice sa sn sc) := (hb5.cell (p := ⟨w2.heap.size, 5, none⟩) HLT.out.1).trans x5
      have X6 : w5.cell? ⟨w2.heap.size, 6, none⟩ = some (.int .i64 v.lo) := (hb5.cell (p := ⟨w2.heap.size, 6, none⟩) HLT.out.1).trans x6
      have X7 : w5.cell? ⟨w2.heap.size, 7, none⟩ = some (.int .i64 v.hi) := (hb5.cell (p := ⟨w2.heap.size, 7, none⟩) HLT.out.1).trans x7
      have Z0 : w5.cell? ⟨w3.heap.size, 0, none⟩ = some (.int .i64 v2.kind) := (hb5.cell (p := ⟨w3.heap.size, 0, none⟩) HLT.out.2).trans z0
      have Z1 : w5.cell? ⟨w3.heap.size, 1, none⟩ = some (.int .u64 (v2.set 0 : Nat)) := (hb5.cell (p := ⟨w3.heap.size, 1, none⟩) HLT.out.2).trans z1
      have Z2 : w5.cell? ⟨w3.heap.size, 2, none⟩ = some (.int .u64 (v2.set 1 : Nat)) := (hb5.cell (p := ⟨w3.heap.size, 2, none⟩) HLT.out.2).trans z2
      have Z3 : w5.cell? ⟨w3.heap.size, 3, none⟩ = some (.int .u64 (v2.set 2 : Nat)) := (hb5.cell (p := ⟨w3.heap.size, 3, none⟩) HLT.out.2).trans z3
      have Z4 : w5.cell? ⟨w3.heap.size, 4, none⟩ = some (.int .u64 (v2.set 3 : Nat)) := (hb5.cell (p := ⟨w3.heap.size, 4, none⟩) HLT.out.2).trans z4
      have Z5 : w5.cell? ⟨w3.heap.size, 5, none⟩ = some (.slice ua un uc) := (hb5.cell (p := ⟨w3.heap.size, 5, none⟩) HLT.out.2).trans z5
      have Z6 : w5.cell? ⟨w3.heap.size, 6, none⟩ = some (.int .i64 v2.lo) := (hb5.cell (p := ⟨w3.heap.size, 6, none⟩) HLT.out.2).trans z6
      have Z7 : w5.cell? ⟨w3.heap.size, 7, none⟩ = some (.int .i64 v2.hi) := (hb5.cell (p := ⟨w3.heap.size, 7, none⟩) HLT.out.2).trans z7
      have HB5 := Lib.hid hb5
      clear hW hb5 x0 x1 x2 x3 x4 x5 x6 x7 z0 z1 z2 z3 z4 z5 z6 z7
      go_wp2_with fail
      go_at_call 13
      refine (HC.out _ HB5.out).mono ?_
      rintro e w6 ⟨rfl, hb6⟩
      have HB6 := Lib.hid (below_go (below_go HB4.out HB5.out) hb6)
      clear hb6
      go_wp2_with fail
      go_ret
      exact ⟨rfl, HB6.out⟩
    · rw [if_neg hbig] at htr3 ⊢
      obtain ⟨hk, _, _, _, hps⟩ := erase_node htr3
      obtain ⟨p, q, hpq, hp, hq⟩ := erases_two hps
      rw [hk]
      rcases laid_inv hl3 with ⟨h1, _⟩ | ⟨b, off, cap, hv, _, hlt, hcap, hc, hkl⟩
      · rw [hpq] at h1; cases h1
      have hpl := hkl p (by simp [hpq])
      have hql := hkl q (by simp [hpq])
      rw [hpq] at hv hc
      rw [hsl3] at hv
      simp only [Value.slice.injEq, List.length_cons, List.length_nil] at hv
      obtain ⟨rfl, rfl, rfl⟩ := hv
      obtain ⟨y0, y1, y2, y3, y4, y5, y6, y7⟩ := node_cells (w := w4) (w' := w4) (b := b) (o := off) (t := p) (fun j u hu => by
        have := hc 0 p rfl j u hu
        rwa [Nat.zero_mul, Nat.add_zero] at this) hlt (Below.refl _ _)
      obtain ⟨g0, g1, g2, g3, g4, g5, g6, g7⟩ := node_cells (w := w4) (w' := w4) (b := b) (o := off + 8) (t := q) (fun j u hu => by
        have := hc 1 q rfl j u hu
        rwa [Nat.one_mul] at this) hlt (Below.refl _ _)
      have HC1 := Lib.hid (fun (w' : World) (hb : Below w4.heap.size w4 w') => by
        have := same_yes 1000000 (Nat.le_refl _) p v w' _ _ (by rw [hp]; omega) (hp.trans htr.symm) (hpl.keep (fun _ _ h => h) hb.size fun k hk _ => hb.block k hk) (hl5.keep (fun _ _ h => h) hb.size fun k hk _ => hb.block k hk)
        simp only [nodeAgg, hsl] at this
        exact this)
      have HC2 := Lib.hid (fun (w' : World) (hb : Below w4.heap.size w4 w') => by
        have := same_yes 1000000 (Nat.le_refl _) q v w' _ _ (by rw [hq]; omega) (hq.trans htr.symm) (hql.keep (fun _ _ h => h) hb.size fun k hk _ => hb.block k hk) (hl5.keep (fun _ _ h => h) hb.size fun k hk _ => hb.block k hk)
        simp only [nodeAgg, hsl] at this
        exact this)
      have HX := Lib.hid hbig
      clear htr3 hl3 hsl3 N0 N1 N2 N3 hb4 hrun htr hl hsl htr2 hl2 hsl2 hsz hL hl5 hl6 hbig hps hpq hp hq hc hkl hpl hql hcap hk
      go_upto_region 8 with fail
      generalize hW : World.alloc w4 _ = w5
      have hb5 : Below w4.heap.size w4 w5 := hW ▸ (Below.refl _ _).alloc (Nat.le_refl _) _
      have X0 : w5.cell? ⟨w2.heap.size, 0, none⟩ = some (.int .i64 v.kind) := (hb5.cell (p := ⟨w2.heap.size, 0, none⟩) HLT.out.1).trans x0
      have X1 : w5.cell? ⟨w2.heap.size, 1, none⟩ = some (.int .u64 (v.set 0 : Nat)) := (hb5.cell (p := ⟨w2.heap.size, 1, none⟩) HLT.out.1).trans x1
      have X2 : w5.cell? ⟨w2.heap.size, 2, none⟩ = some (.int .u64 (v.set 1 : Nat)) := (hb5.cell (p := ⟨w2.heap.size, 2, none⟩) HLT.out.1).trans x2
      have X3 : w5.cell? ⟨w2.heap.size, 3, none⟩ = some (.int .u64 (v.set 2 : Nat)) := (hb5.cell (p := ⟨w2.heap.size, 3, none⟩) HLT.out.1).trans x3
      have X4 : w5.cell? ⟨w2.heap.size, 4, none⟩ = some (.int .u64 (v.set 3 : Nat)) := (hb5.cell (p := ⟨w2.heap.size, 4, none⟩) HLT.out.1).trans x4
      have X5 : w5.cell? ⟨w2.heap.size, 5, none⟩ = some (.slice sa sn sc) := (hb5.cell (p := ⟨w2.heap.size, 5, none⟩) HLT.out.1).trans x5
      have X6 : w5.cell? ⟨w2.heap.size, 6, none⟩ = some (.int .i64 v.lo) := (hb5.cell (p := ⟨w2.heap.size, 6, none⟩) HLT.out.1).trans x6
      have X7 : w5.cell? ⟨w2.heap.size, 7, none⟩ = some (.int .i64 v.hi) := (hb5.cell (p := ⟨w2.heap.size, 7, none⟩) HLT.out.1).trans x7
      have Z0 : w5.cell? ⟨w3.heap.size, 0, none⟩ = some (.int .i64 v2.kind) := (hb5.cell (p := ⟨w3.heap.size, 0, none⟩) HLT.out.2).trans z0
      have Z1 : w5.cell? ⟨w3.heap.size, 1, none⟩ = some (.int .u64 (v2.set 0 : Nat)) := (hb5.cell (p := ⟨w3.heap.size, 1, none⟩) HLT.out.2).trans z1
      have Z2 : w5.cell? ⟨w3.heap.size, 2, none⟩ = some (.int .u64 (v2.set 1 : Nat)) := (hb5.cell (p := ⟨w3.heap.size, 2, none⟩) HLT.out.2).trans z2
      have Z3 : w5.cell? ⟨w3.heap.size, 3, none⟩ = some (.int .u64 (v2.set 2 : Nat)) := (hb5.cell (p := ⟨w3.heap.size, 3, none⟩) HLT.out.2).trans z3
      have Z4 : w5.cell? ⟨w3.heap.size, 4, none⟩ = some (.int .u64 (v2.set 3 : Nat)) := (hb5.cell (p := ⟨w3.heap.size, 4, none⟩) HLT.out.2).trans z4
      have Z5 : w5.cell? ⟨w3.heap.size, 5, none⟩ = some (.slice ua un uc) := (hb5.cell (p := ⟨w3.heap.size, 5, none⟩) HLT.out.2).trans z5
      have Z6 : w5.cell? ⟨w3.heap.size, 6, none⟩ = some (.int .i64 v2.lo) := (hb5.cell (p := ⟨w3.heap.size, 6, none⟩) HLT.out.2).trans z6
      have Z7 : w5.cell? ⟨w3.heap.size, 7, none⟩ = some (.int .i64 v2.hi) := (hb5.cell (p := ⟨w3.heap.size, 7, none⟩) HLT.out.2).trans z7
      have P0 : w5.cell? ⟨b, off, none⟩ = some (.int .i64 p.kind) := (hb5.cell (p := ⟨b, off, none⟩) hlt).trans y0
      have P1 : w5.cell? ⟨b, off + 1, none⟩ = some (.int .u64 (p.set 0 : Nat)) := (hb5.cell (p := ⟨b, off + 1, none⟩) hlt).trans y1
      have P2 : w5.cell? ⟨b, off + 2, none⟩ = some (.int .u64 (p.set 1 : Nat)) := (hb5.cell (p := ⟨b, off + 2, none⟩) hlt).trans y2
      have P3 : w5.cell? ⟨b, off + 3, none⟩ = some (.int .u64 (p.set 2 : Nat)) := (hb5.cell (p := ⟨b, off + 3, none⟩) hlt).trans y3
      have P4 : w5.cell? ⟨b, off + 4, none⟩ = some (.int .u64 (p.set 3 : Nat)) := (hb5.cell (p := ⟨b, off + 4, none⟩) hlt).trans y4
      have P5 : w5.cell? ⟨b, off + 5, none⟩ = some (p.v) := (hb5.cell (p := ⟨b, off + 5, none⟩) hlt).trans y5
      have P6 : w5.cell? ⟨b, off + 6, none⟩ = some (.int .i64 p.lo) := (hb5.cell (p := ⟨b, off + 6, none⟩) hlt).trans y6
      have P7 : w5.cell? ⟨b, off + 7, none⟩ = some (.int .i64 p.hi) := (hb5.cell (p := ⟨b, off + 7, none⟩) hlt).trans y7
      have Q0 : w5.cell? ⟨b, off + 8, none⟩ = some (.int .i64 q.kind) := (hb5.cell (p := ⟨b, off + 8, none⟩) hlt).trans g0
      have Q1 : w5.cell? ⟨b, off + 9, none⟩ = some (.int .u64 (q.set 0 : Nat)) := (hb5.cell (p := ⟨b, off + 9, none⟩) hlt).trans g1
      have Q2 : w5.cell? ⟨b, off + 10, none⟩ = some (.int .u64 (q.set 1 : Nat)) := (hb5.cell (p := ⟨b, off + 10, none⟩) hlt).trans g2
      have Q3 : w5.cell? ⟨b, off + 11, none⟩ = some (.int .u64 (q.set 2 : Nat)) := (hb5.cell (p := ⟨b, off + 11, none⟩) hlt).trans g3
      have Q4 : w5.cell? ⟨b, off + 12, none⟩ = some (.int .u64 (q.set 3 : Nat)) := (hb5.cell (p := ⟨b, off + 12, none⟩) hlt).trans g4
      have Q5 : w5.cell? ⟨b, off + 13, none⟩ = some (q.v) := (hb5.cell (p := ⟨b, off + 13, none⟩) hlt).trans g5
      have Q6 : w5.cell? ⟨b, off + 14, none⟩ = some (.int .i64 q.lo) := (hb5.cell (p := ⟨b, off + 14, none⟩) hlt).trans g6
      have Q7 : w5.cell? ⟨b, off + 15, none⟩ = some (.int .i64 q.hi) := (hb5.cell (p := ⟨b, off + 15, none⟩) hlt).trans g7
      have m0 : w5.cell? ⟨w4.heap.size, 0, none⟩ = some (.int .i64 3) := by rw [← hW, World.cell?_alloc_mark]; rfl
      have m5 : w5.cell? ⟨w4.heap.size, 5, none⟩ = some (.slice (some ⟨b, off, none⟩) 2 tc) := by rw [← hW, World.cell?_alloc_mark]; rfl
      have hz5 : w4.heap.size < w5.heap.size := by rw [← hW, World.size_alloc]; omega
      have hz2 : w2.heap.size < w5.heap.size := by have := HLT.out.1; omega
      have hzb : b < w5.heap.size := by omega
      have HF := Lib.hid (fun (W : World) (hb : Below w5.heap.size w5 W) => (show W.cell? ⟨w4.heap.size, 0, none⟩ = some (.int .i64 3) ∧ W.cell? ⟨w4.heap.size, 5, none⟩ = some (.slice (some ⟨b, off, none⟩) 2 tc) ∧ W.cell? ⟨w2.heap.size, 0, none⟩ = some (.int .i64 v.kind) ∧ W.cell? ⟨w2.heap.size, 1, none⟩ = some (.int .u64 (v.set 0 : Nat)) ∧ W.cell? ⟨w2.heap.size, 2, none⟩ = some (.int .u64 (v.set 1 : Nat)) ∧ W.cell? ⟨w2.heap.size, 3, none⟩ = some (.int .u64 (v.set 2 : Nat)) ∧ W.cell? ⟨w2.heap.size, 4, none⟩ = some (.int .u64 (v.set 3 : Nat)) ∧ W.cell? ⟨w2.heap.size, 5, none⟩ = some (.slice sa sn sc) ∧ W.cell? ⟨w2.heap.size, 6, none⟩ = some (.int .i64 v.lo) ∧ W.cell? ⟨w2.heap.size, 7, none⟩ = some (.int .i64 v.hi) ∧ W.cell? ⟨b, off, none⟩ = some (.int .i64 p.kind) ∧ W.cell? ⟨b, off + 1, none⟩ = some (.int .u64 (p.set 0 : Nat)) ∧ W.cell? ⟨b, off + 2, none⟩ = some (.int .u64 (p.set 1 : Nat)) ∧ W.cell? ⟨b, off + 3, none⟩ = some (.int .u64 (p.set 2 : Nat)) ∧ W.cell? ⟨b, off + 4, none⟩ = some (.int .u64 (p.set 3 : Nat)) ∧ W.cell? ⟨b, off + 5, none⟩ = some (p.v) ∧ W.cell? ⟨b, off + 6, none⟩ = some (.int .i64 p.lo) ∧ W.cell? ⟨b, off + 7, none⟩ = some (.int .i64 p.hi) ∧ W.cell? ⟨b, off + 8, none⟩ = some (.int .i64 q.kind) ∧ W.cell? ⟨b, off + 9, none⟩ = some (.int .u64 (q.set 0 : Nat)) ∧ W.cell? ⟨b, off + 10, none⟩ = some (.int .u64 (q.set 1 : Nat)) ∧ W.cell? ⟨b, off + 11, none⟩ = some (.int .u64 (q.set 2 : Nat)) ∧ W.cell? ⟨b, off + 12, none⟩ = some (.int .u64 (q.set 3 : Nat)) ∧ W.cell? ⟨b, off + 13, none⟩ = some (q.v) ∧ W.cell? ⟨b, off + 14, none⟩ = some (.int .i64 q.lo) ∧ W.cell? ⟨b, off + 15, none⟩ = some (.int .i64 q.hi) from ⟨(hb.cell (p := ⟨w4.heap.size, 0, none⟩) hz5).trans m0, (hb.cell (p := ⟨w4.heap.size, 5, none⟩) hz5).trans m5, (hb.cell (p := ⟨w2.heap.size, 0, none⟩) hz2).trans X0, (hb.cell (p := ⟨w2.heap.size, 1, none⟩) hz2).trans X1, (hb.cell (p := ⟨w2.heap.size, 2, none⟩) hz2).trans X2, (hb.cell (p := ⟨w2.heap.size, 3, none⟩) hz2).trans X3, (hb.cell (p := ⟨w2.heap.size, 4, none⟩) hz2).trans X4, (hb.cell (p := ⟨w2.heap.size, 5, none⟩) hz2).trans X5, (hb.cell (p := ⟨w2.heap.size, 6, none⟩) hz2).trans X6, (hb.cell (p := ⟨w2.heap.size, 7, none⟩) hz2).trans X7, (hb.cell (p := ⟨b, off, none⟩) hzb).trans P0, (hb.cell (p := ⟨b, off + 1, none⟩) hzb).trans P1, (hb.cell (p := ⟨b, off + 2, none⟩) hzb).trans P2, (hb.cell (p := ⟨b, off + 3, none⟩) hzb).trans P3, (hb.cell (p := ⟨b, off + 4, none⟩) hzb).trans P4, (hb.cell (p := ⟨b, off + 5, none⟩) hzb).trans P5, (hb.cell (p := ⟨b, off + 6, none⟩) hzb).trans P6, (hb.cell (p := ⟨b, off + 7, none⟩) hzb).trans P7, (hb.cell (p := ⟨b, off + 8, none⟩) hzb).trans Q0, (hb.cell (p := ⟨b, off + 9, none⟩) hzb).trans Q1, (hb.cell (p := ⟨b, off + 10, none⟩) hzb).trans Q2, (hb.cell (p := ⟨b, off + 11, none⟩) hzb).trans Q3, (hb.cell (p := ⟨b, off + 12, none⟩) hzb).trans Q4, (hb.cell (p := ⟨b, off + 13, none⟩) hzb).trans Q5, (hb.cell (p := ⟨b, off + 14, none⟩) hzb).trans Q6, (hb.cell (p := ⟨b, off + 15, none⟩) hzb).trans Q7⟩))
      have HB5 := Lib.hid hb5
      clear hW hb5 x0 x1 x2 x3 x4 x5 x6 x7 z0 z1 z2 z3 z4 z5 z6 z7 y0 y1 y2 y3 y4 y5 y6 y7 g0 g1 g2 g3 g4 g5 g6 g7 m0 m5 P0 P1 P2 P3 P4 P5 P6 P7 Q0 Q1 Q2 Q3 Q4 Q5 Q6 Q7 hz5 hz2 hzb hlt
      go_wp2_with fail
      go_at_call 13
      refine (HC.out _ HB5.out).mono ?_
      rintro e w6 ⟨rfl, hb6⟩
      have HB6 := Lib.hid hb6
      clear hb6 X0 X1 X2 X3 X4 X5 X6 X7 Z0 Z1 Z2 Z3 Z4 Z5 Z6 Z7
      obtain ⟨m0, m5, X0, X1, X2, X3, X4, X5, X6, X7, P0, P1, P2, P3, P4, P5, P6, P7, Q0, Q1, Q2, Q3, Q4, Q5, Q6, Q7⟩ := HF.out w6 HB6.out
      go_wp2_with fail
      go_region_with (first
        | (go_at_call 13
           with_reducible refine (HC1.out _ (by first | exact HB5.out.trans ((HB6.out).mono HB5.out.size) | exact HB5.out.trans ((HB6.out.drew).mono HB5.out.size) | exact HB5.out.trans ((below_drewN HB6.out _).mono HB5.out.size))).mono ?_
           rintro e w8 ⟨rfl, hb8⟩
           have HB8 := Lib.hid (show Below w5.heap.size w5 w8 by first | exact below_go HB6.out hb8 | exact below_go HB6.out.drew hb8 | exact below_go (below_drewN HB6.out _) hb8)
           clear hb8
           clear m0 m5 X0 X1 X2 X3 X4 X5 X6 X7 P0 P1 P2 P3 P4 P5 P6 P7 Q0 Q1 Q2 Q3 Q4 Q5 Q6 Q7
           obtain ⟨m0, m5, X0, X1, X2, X3, X4, X5, X6, X7, P0, P1, P2, P3, P4, P5, P6, P7, Q0, Q1, Q2, Q3, Q4, Q5, Q6, Q7⟩ := HF.out w8 HB8.out)
        | (go_at_call 13
           with_reducible refine (HC2.out _ (by first | exact HB5.out.trans ((HB8.out).mono HB5.out.size) | exact HB5.out.trans ((HB8.out.drew).mono HB5.out.size) | exact HB5.out.trans ((below_drewN HB8.out _).mono HB5.out.size))).mono ?_
           rintro e w10 ⟨rfl, hb10⟩
           have HB10 := Lib.hid (show Below w5.heap.size w5 w10 by first | exact below_go HB8.out hb10 | exact below_go HB8.out.drew hb10 | exact below_go (below_drewN HB8.out _) hb10)
           clear hb10))
      all_goals (go_wp2_with fail; go_ret; exact ⟨rfl, below_go (below_go HB4.out HB5.out) HB10.out⟩)
  · have hcode := pparse_code (txt s)
    generalize (pparse (txt s)).2.2 = c at *
    generalize (pparse (txt s)).2.1 = at' at *
    have hc : ((c : Int) == 0) = false := by simp; omega
    clear htr hl hsl hcode
    go_wp2_with fail
    go_at_call 11
    refine (parse_any _ _).mono ?_
    rintro e w3 ⟨v2, ua, un, uc, hsl2, rfl, htr2, hl2, hb3⟩
    have HB3 := Lib.hid (below_al HB2.out _ hb3)
    generalize (pparse (txt _)).2.2 = c2 at *
    generalize (pparse (txt _)).2.1 = at2 at *
    clear htr2 hl2 hsl2 hb3
    go_wp2_with fail
    go_at_call 11
    refine (parse_any _ _).mono ?_
    rintro e w4 ⟨v3, ta, tn, tc, hsl3, rfl, htr3, hl3, hb4⟩
    have HB4 := Lib.hid (below_al HB3.out _ hb4)
    generalize (pparse (txt _)).2.2 = c3 at *
    generalize (pparse (txt _)).2.1 = at3 at *
    clear htr3 hl3 hsl3 hb4
    go_wp2_with fail
    go_ret
    exact ⟨rfl, HB4.out.alloc HB4.out.size _⟩

end Go.Proofs.Ytbodgadbhldbmaa
