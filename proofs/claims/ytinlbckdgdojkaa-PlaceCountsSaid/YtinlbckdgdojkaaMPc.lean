/- Of every three numbers the statement PlaceCounts returns true, and they read afterwards as before.
   No condition. -/
import Derived.Test.YtinlbckdgdojkaaMPof
import Derived.Test.YtinlbckdgdojkaaMPn
import Derived.Test.YtinlbckdgdojkaaMRefF
import Derived.Deep.DeepCutAuto
import Derived.Deep.RegionHeld3
import Derived.ProofKit
import Derived.OpenShut
import Derived.ChangeOld
import Derived.Below

/- The walk of the statement PlaceCounts: called with three numbers it returns true and changes nothing that was there.
   Conditions: the numbers are of their type. -/
namespace Go.Proofs.Ytinlbckdgdojkaa
open Go.RowKit Go.Shelf
attribute [local go_sem] nodeAgg

theorem laid_lit5 {w : World} {R : Nat → Prop} {g : Nat} {ps : List V} {cs : Array Value} (k lo hi : Int) (h : w.heap[g]? = some (.cells cs 27 (0, 0))) (hcs : cs.toList = flat ps) (hR : R g) (hk : ∀ p ∈ ps, Laid w R p) : Laid w R (.node k zeros lo hi (.slice (some ⟨g, 0, none⟩) ps.length ps.length) ps) := by
  refine .some k zeros lo hi ps g 0 ps.length hR (Array.getElem?_eq_some_iff.1 h).1 (Nat.le_refl _) (fun i t ht j u hu => ?_) hk
  have hj : j < 8 := by have := (List.getElem?_eq_some_iff.1 hu).1; rwa [ndc_length] at this
  rw [Nat.zero_add, (row_cells h).1, ← Array.getElem?_toList, hcs, flat_at ps i t ht j hj]
  exact hu
theorem ok5 (lo hi : Int) : okT (.node 4 zeros lo hi [noT]) = bnd lo hi := by
  simp [okT, oksT, okA, z4, zeros]

set_option maxHeartbeats 8000000 in
set_option maxRecDepth 100000 in
theorem counts5_walk (lo hi count : Int) (w : World) :
    Calls Try.prog 7 #[.int .i64 lo, .int .i64 hi, .int .i64 count] w fun e w' => e = .returned (.bool true) ∧ Below w.heap.size w w' := by
  obtain ⟨w2, hw2⟩ : ∃ w2, (w.alloc (.cells #[.int .i64 0, .int .u64 0, .int .u64 0, .int .u64 0, .int .u64 0, .slice none 0 0, .int .i64 0, .int .i64 0] 27)).alloc (.cells #[.int .i64 4, .int .u64 0, .int .u64 0, .int .u64 0, .int .u64 0, .slice (some ⟨w.heap.size, 0, none⟩) 1 1, .int .i64 lo, .int .i64 hi] 27) = w2 := ⟨_, rfl⟩
  have hb2 : Below w.heap.size w w2 := hw2 ▸ ((Below.refl _ w).alloc (Nat.le_refl _) _).alloc (by simp) _
  have e1 : w2.heap[w.heap.size]? = some (.cells #[.int .i64 0, .int .u64 0, .int .u64 0, .int .u64 0, .int .u64 0, .slice none 0 0, .int .i64 0, .int .i64 0] 27 (0, 0)) := by rw [← hw2]; exact (Below.heap_alloc _ _ _ (by simp)).trans (heap_alloc_new w _)
  have e2 : w2.heap[w.heap.size + 1]? = some (.cells #[.int .i64 4, .int .u64 0, .int .u64 0, .int .u64 0, .int .u64 0, .slice (some ⟨w.heap.size, 0, none⟩) 1 1, .int .i64 lo, .int .i64 hi] 27 (0, 0)) := by
    rw [← hw2]
    have := heap_alloc_new (w.alloc (.cells #[.int .i64 0, .int .u64 0, .int .u64 0, .int .u64 0, .int .u64 0, .slice none 0 0, .int .i64 0, .int .i64 0] 27)) (.cells #[.int .i64 4, .int .u64 0, .int .u64 0, .int .u64 0, .int .u64 0, .slice (some ⟨w.heap.size, 0, none⟩) 1 1, .int .i64 lo, .int .i64 hi] 27)
    rw [World.size_alloc] at this
    exact this
  have hL : Laid w2 (fun _ => True) (.node 4 zeros lo hi (.slice (some ⟨w.heap.size, 0, none⟩) 1 1) [zeroV]) := laid_lit5 (ps := [zeroV]) 4 lo hi e1 rfl trivial fun p hp => by rw [List.mem_singleton.1 hp]; exact zeroV_laid _ _
  have he : erase (.node 4 zeros lo hi (.slice (some ⟨w.heap.size, 0, none⟩) 1 1) [zeroV]) = .node 4 zeros lo hi [noT] := by rw [erase]; simp only [erases] <;> rfl
  have HL := Lib.hid (fun (W : World) (h : Below w2.heap.size w2 W) => laid_low hL h)
  have HCL := Lib.hid (fun (W : World) (h : Below w2.heap.size w2 W) => cells8 ((h.block _ (Array.getElem?_eq_some_iff.1 e2).1).trans e2))
  have HFo := Lib.hid (fun (W : World) (h : Below w2.heap.size w2 W) => by
    have := formed_ref 1000000 (Nat.le_refl _) _ W _ (by rw [he]; simp [szT, szsT]) (HL.out W h)
    rw [he, ok5] at this
    exact this)
  have HPC := Lib.hid (fun (W : World) (h : Below w2.heap.size w2 W) (hk : bnd lo hi = true) => placeCounts_any lo hi _ _ _ _ W _ (HL.out W h) (by rw [he]; simp [szT, szsT]) (by rw [he, ok5]; exact hk))
  have HB := Lib.hid hb2
  clear hb2 e1 e2 hL
  go_enter Try.func7, Try.ntmps7
  go_upto_region 2 with fail
  clear hw2
  go_wp2_with fail
  go_at_call 14
  refine (awake5_any _).mono ?_
  rintro e w3 ⟨rfl, hb3⟩
  have HB3 := Lib.hid hb3
  clear hb3
  obtain ⟨c0, c1, c2, c3, c4, c5, c6, c7⟩ := HCL.out w3 HB3.out
  go_wp2_with fail
  go_at_call 11
  refine (HFo.out _ HB3.out).mono ?_
  rintro e w4 ⟨rfl, hb4⟩
  have HB4 := Lib.hid (bhop HB3.out hb4)
  clear hb4 c0 c1 c2 c3 c4 c5 c6 c7
  obtain ⟨c0, c1, c2, c3, c4, c5, c6, c7⟩ := HCL.out w4 HB4.out
  cases hk : bnd lo hi with
  | false =>
    clear c0 c1 c2 c3 c4 c5 c6 c7 hk
    go_wp2_with fail
    go_at_call 14
    refine (awake5_any _).mono ?_
    rintro e w5 ⟨rfl, hb5⟩
    have HB5 := Lib.hid (bhop HB4.out hb5)
    go_wp2_with fail
    go_ret
    exact ⟨rfl, bhop HB.out HB5.out⟩
  | true =>
    have hbn : 0 ≤ lo ∧ lo ≤ 2147483647 ∧ (hi = -1 ∨ (lo ≤ hi ∧ hi ≤ 2147483647)) := of_decide_eq_true hk
    have HK := Lib.hid (And.intro hk hbn)
    obtain ⟨m, hm⟩ : ∃ m, m = max 1 lo := ⟨_, rfl⟩
    have HM := Lib.hid hm
    obtain ⟨c, hc⟩ : ∃ c, c = cntS m hi := ⟨_, rfl⟩
    have HC := Lib.hid hc
    clear hk hbn hm hc
    go_wp2_with fail
    go_at_call 18
    refine (HPC.out _ HB4.out HK.out.1).mono ?_
    rintro e w5 ⟨rfl, hb5⟩
    rw [← HM.out, ← HC.out]
    have HB5 := Lib.hid (bhop HB4.out hb5)
    clear hb5 c0 c1 c2 c3 c4 c5 c6 c7
    obtain ⟨w6, hw6⟩ : ∃ w6, w5.alloc (.cells #[.int .i64 m, .int .i64 hi] 46) = w6 := ⟨_, rfl⟩
    have hb6 : Below w5.heap.size w5 w6 := hw6 ▸ (Below.refl _ w5).alloc (Nat.le_refl _) _
    have hs6 : w6.heap[w5.heap.size]? = some (.cells #[.int .i64 m, .int .i64 hi] 46 (0, 0)) := hw6 ▸ heap_alloc_new w5 _
    have HB6 := Lib.hid (bhop HB5.out hb6)
    have HS6 := Lib.hid (fun (W : World) (h : Below w6.heap.size w6 W) => cells2 ((h.block _ (Array.getElem?_eq_some_iff.1 hs6).1).trans hs6))
    obtain ⟨c0, c1, c2, c3, c4, c5, c6, c7⟩ := HCL.out w6 HB6.out
    clear hb6 hs6
    go_upto_region 5 with fail
    clear hw6
    go_wp2_with fail
    go_at_call 19
    refine (refCounts_any lo hi _ w6 (by have := HK.out.2; omega) (by have := HK.out.2; omega)).mono ?_
    rintro e w7 ⟨rfl, hb7⟩
    rw [← HM.out, ← HC.out]
    have HB7 := Lib.hid hb7
    clear hb7 c0 c1 c2 c3 c4 c5 c6 c7
    obtain ⟨w8, hw8⟩ : ∃ w8, w7.alloc (.cells #[.int .i64 m, .int .i64 hi] 46) = w8 := ⟨_, rfl⟩
    have hb8 : Below w7.heap.size w7 w8 := hw8 ▸ (Below.refl _ w7).alloc (Nat.le_refl _) _
    have hs8 : w8.heap[w7.heap.size]? = some (.cells #[.int .i64 m, .int .i64 hi] 46 (0, 0)) := hw8 ▸ heap_alloc_new w7 _
    have HB8 := Lib.hid (And.intro (bhop HB7.out hb8) (bhop HB6.out (bhop HB7.out hb8)))
    have HS := Lib.hid (fun (W : World) (h : Below w8.heap.size w8 W) => And.intro (HS6.out W (bhop HB8.out.1 h)) (cells2 ((h.block _ (Array.getElem?_eq_some_iff.1 hs8).1).trans hs8)))
    obtain ⟨⟨s0, s1⟩, t0, t1⟩ := HS.out w8 (Below.refl _ _)
    clear hb8 hs8 HS6 HCL HFo HPC
    go_upto_region 6 with fail
    clear hw8
    by_cases hmc : m ≤ count
    · go_region_held3 (fun W => W.cell? ⟨w5.heap.size, 0, none⟩ = some (.int .i64 m) ∧ W.cell? ⟨w5.heap.size, 1, none⟩ = some (.int .i64 hi) ∧ W.cell? ⟨w7.heap.size, 0, none⟩ = some (.int .i64 m) ∧ W.cell? ⟨w7.heap.size, 1, none⟩ = some (.int .i64 hi) ∧ Below w8.heap.size w8 W)
          (first
            | exact ⟨s0, s1, t0, t1, (Below.refl _ w8).drew⟩
            | exact ⟨HK5.out.1.1, HK5.out.1.2, HK5.out.2.1, HK5.out.2.2, HB9.out⟩)
          (first
            | (go_at_call 20; ((with_reducible refine (done_any m hi count _).mono ?_); rintro e w9 ⟨rfl, hb9⟩; have HB9 := Lib.hid (show Below w8.heap.size w8 w9 from bhop (Below.refl _ _).drew hb9); have HK5 := Lib.hid (HS.out w9 HB9.out))))
      obtain ⟨⟨r0, r1⟩, r2, r3⟩ := HK5.out
      clear s0 s1 t0 t1
      by_cases k1 : count < 1
      · go_wp2_with fail
        go_ret
        exact ⟨rfl, bhop HB.out (bhop HB8.out.2 HB9.out)⟩
      · by_cases k2 : 2147483648 < count
        · go_wp2_with fail
          go_ret
          exact ⟨rfl, bhop HB.out (bhop HB8.out.2 HB9.out)⟩
        · have hw : IntKind.i64.wrap (count + 1) = count + 1 := by rw [IntKind.wrap_i64]; omega
          by_cases k3 : 0 ≤ hi
          · by_cases k4 : count < hi
            · go_wp2_with fail
              go_at_call 21
              refine (pnext_any m hi count _ (by omega) (by omega)).mono ?_
              rintro e w10 ⟨rfl, hb10⟩
              rw [if_neg (by omega), if_neg (by omega)]
              obtain ⟨⟨q0, q1⟩, q2, q3⟩ := HS.out w10 (bhop HB9.out hb10)
              have HB10 := Lib.hid (bhop HB9.out hb10)
              clear hb10 r0 r1 r2 r3
              go_wp2_with fail
              go_ret
              exact ⟨rfl, bhop HB.out (bhop HB8.out.2 HB10.out)⟩
            · go_wp2_with fail
              go_at_call 21
              refine (pnext_any m hi count _ (by omega) (by omega)).mono ?_
              rintro e w10 ⟨rfl, hb10⟩
              rw [if_pos (by omega)]
              obtain ⟨⟨q0, q1⟩, q2, q3⟩ := HS.out w10 (bhop HB9.out hb10)
              have HB10 := Lib.hid (bhop HB9.out hb10)
              clear hb10 r0 r1 r2 r3
              go_wp2_with fail
              go_ret
              exact ⟨by rw [show (!decide (count < hi)) = true by rw [decide_eq_false (show ¬ count < hi by omega)]; rfl]; rfl, bhop HB.out (bhop HB8.out.2 HB10.out)⟩
          · obtain rfl : hi = -1 := by have := HK.out.2; omega
            have k5 : m ≤ count + 1 := by omega
            have k6 : ¬ count + 1 < m := by omega
            go_wp2_with fail
            go_at_call 21
            refine (pnext_any m (-1) count _ (by omega) (by omega)).mono ?_
            rintro e w10 ⟨rfl, hb10⟩
            rw [if_neg (by omega), if_pos ⟨hmc, rfl⟩]
            obtain ⟨⟨q0, q1⟩, q2, q3⟩ := HS.out w10 (bhop HB9.out hb10)
            have HB10 := Lib.hid (bhop HB9.out hb10)
            clear hb10 r0 r1 r2 r3
            go_wp2_with fail
            go_ret
            exact ⟨rfl, bhop HB.out (bhop HB8.out.2 HB10.out)⟩
    · go_region_held3 (fun W => W.cell? ⟨w5.heap.size, 0, none⟩ = some (.int .i64 m) ∧ W.cell? ⟨w5.heap.size, 1, none⟩ = some (.int .i64 hi) ∧ W.cell? ⟨w7.heap.size, 0, none⟩ = some (.int .i64 m) ∧ W.cell? ⟨w7.heap.size, 1, none⟩ = some (.int .i64 hi) ∧ Below w8.heap.size w8 W)
          (first
            | exact ⟨s0, s1, t0, t1, (Below.refl _ w8).drew⟩
            | exact ⟨HK5.out.1.1, HK5.out.1.2, HK5.out.2.1, HK5.out.2.2, HB9.out⟩)
          (first
            | (go_at_call 20; ((with_reducible refine (done_any m hi count _).mono ?_); rintro e w9 ⟨rfl, hb9⟩; have HB9 := Lib.hid (show Below w8.heap.size w8 w9 from bhop (Below.refl _ _).drew hb9); have HK5 := Lib.hid (HS.out w9 HB9.out))))
      obtain ⟨⟨r0, r1⟩, r2, r3⟩ := HK5.out
      clear s0 s1 t0 t1
      by_cases k1 : count < 1
      · go_wp2_with fail
        go_ret
        exact ⟨rfl, bhop HB.out (bhop HB8.out.2 HB9.out)⟩
      · by_cases k2 : 2147483648 < count
        · go_wp2_with fail
          go_ret
          exact ⟨rfl, bhop HB.out (bhop HB8.out.2 HB9.out)⟩
        · have hw : IntKind.i64.wrap (count + 1) = count + 1 := by rw [IntKind.wrap_i64]; omega
          by_cases k3 : 0 ≤ hi
          · by_cases k4 : count < hi
            · go_wp2_with fail
              go_at_call 21
              refine (pnext_any m hi count _ (by omega) (by omega)).mono ?_
              rintro e w10 ⟨rfl, hb10⟩
              rw [if_neg (by omega), if_neg (by omega)]
              obtain ⟨⟨q0, q1⟩, q2, q3⟩ := HS.out w10 (bhop HB9.out hb10)
              have HB10 := Lib.hid (bhop HB9.out hb10)
              clear hb10 r0 r1 r2 r3
              go_wp2_with fail
              go_ret
              exact ⟨rfl, bhop HB.out (bhop HB8.out.2 HB10.out)⟩
            · go_wp2_with fail
              go_at_call 21
              refine (pnext_any m hi count _ (by omega) (by omega)).mono ?_
              rintro e w10 ⟨rfl, hb10⟩
              rw [if_pos (by omega)]
              obtain ⟨⟨q0, q1⟩, q2, q3⟩ := HS.out w10 (bhop HB9.out hb10)
              have HB10 := Lib.hid (bhop HB9.out hb10)
              clear hb10 r0 r1 r2 r3
              go_wp2_with fail
              go_ret
              exact ⟨by rw [show (!decide (count < hi)) = true by rw [decide_eq_false (show ¬ count < hi by omega)]; rfl]; rfl, bhop HB.out (bhop HB8.out.2 HB10.out)⟩
          · obtain rfl : hi = -1 := by have := HK.out.2; omega
            have k5 : count + 1 ≤ m := by omega
            have k6 : ¬ m < count + 1 := by omega
            go_wp2_with fail
            go_at_call 21
            refine (pnext_any m (-1) count _ (by omega) (by omega)).mono ?_
            rintro e w10 ⟨rfl, hb10⟩
            rw [if_neg (by omega), if_neg (by omega)]
            obtain ⟨⟨q0, q1⟩, q2, q3⟩ := HS.out w10 (bhop HB9.out hb10)
            have HB10 := Lib.hid (bhop HB9.out hb10)
            clear hb10 r0 r1 r2 r3
            go_wp2_with fail
            go_ret
            exact ⟨rfl, bhop HB.out (bhop HB8.out.2 HB10.out)⟩

end Go.Proofs.Ytinlbckdgdojkaa

/- Of every three numbers the statement PlaceCounts returns true, and they read afterwards as before.
   No condition. -/
namespace Go.Proofs.Ytinlbckdgdojkaa
open Go.ChangeShapes Go.WideShapes Go.ChangeAt Go.RowKit

theorem pcOwn : ownKnob Try.prog.godebug = none := by kernel_rfl

set_option maxRecDepth 100000 in
theorem placeCounts_lifted (os : Os) (started : os.Started) (H : Type) (enc : TypeId × Value → H) :
    ReturnsInHanded {} Try.checked os 7 .any (Rows.placeCountsSpec.pre6 enc Try.prog Try.f7 Rows.placeCountsRow.domain false) (Rows.placeCountsSpec.post enc Try.prog Try.f7 false true false false) := by
  refine returnsInHanded_of_change (C := Try.checked) pcOwn started (by kernel_rfl) Try.func7
    (ChangeSpec.witness6 (enc := enc) (C := Try.checked) false ⟨#[], #[.int .i64 0, .int .i64 0, .int .i64 0], []⟩ 8 (by kernel_rfl) (by kernel_rfl) (by kernel_rfl) (by kernel_rfl)) ?_
  intro W base args ds gs before hval0 hW hcnd _
  have hval : ∀ (j : Nat) t v, Try.f7.params[j]? = some t → args[j]? = some v → Value.okWide Try.prog W .any base t v := hval0
  have hW' := hW
  obtain ⟨p, q, hA0, hV, rfl, hfz, hnd⟩ := hW
  have hA : DataW.TrodAll enc Try.prog W 0 (fun _ => true) true Try.f7.params.toList args.toList ds p := hA0
  rw [Try.params7] at hA hval
  obtain ⟨v0, vs0, d0, ds0, p0, q0, hargs, rfl, rfl, h0, r0⟩ := trodAll_cons hA
  obtain ⟨v1, vs1, d1, ds1, p1, q1, rfl, rfl, rfl, h1, r1⟩ := trodAll_cons r0
  obtain ⟨v2, vs2, d2, ds2, p2, q2, rfl, rfl, rfl, h2, r2⟩ := trodAll_cons r1
  obtain ⟨rfl, rfl, rfl⟩ := trodAll_nil r2
  obtain rfl : args = #[v0, v1, v2] := by cases args; simp_all
  obtain ⟨rfl, rfl⟩ := trodVars_none hV
  obtain ⟨a0, rfl, rfl, rfl, w0⟩ := open_int Try.underlying2 (hval 0 2 v0 rfl rfl) h0
  obtain ⟨a1, rfl, rfl, rfl, w1⟩ := open_int Try.underlying2 (hval 1 2 v1 rfl rfl) h1
  obtain ⟨a2, rfl, rfl, rfl, w2⟩ := open_int Try.underlying2 (hval 2 2 v2 rfl rfl) h2
  clear hA0 hval0
  refine (counts5_walk a0 a1 a2 W).mono fun e W' ⟨he, bel⟩ => ?_
  subst he
  exact ⟨_, rfl, _, _, _, [], _, [], hW', trodAll_mk1 (shut_bool Try.underlying4 _), (trodAll_cons_mk (shut_int Try.underlying2 w0) (trodAll_cons_mk (shut_int Try.underlying2 w1) (trodAll_cons_mk (shut_int Try.underlying2 w2) trodAll_mk0))), rfl, bel.frame _, fun h => by cases h⟩

theorem placeCounts_holds : Rows.PlaceCountsSaid :=
  OpenClaim.holds_of_wide 7 Try.f7 rfl rfl rfl rfl rfl rfl rfl ⟨rfl, rfl, rfl, rfl, rfl⟩ rfl rfl rfl rfl rfl (by kernel_rfl) Try.func7 (by kernel_rfl)
    (of_decide_eq_true (by kernel_rfl)) (by unfold Func.isWrapper; rw [if_neg (of_decide_eq_false (by kernel_rfl))]; exact ⟨rfl, rfl⟩)
    (fun os started H enc _ => placeCounts_lifted os started H enc)
#print axioms placeCounts_holds

end Go.Proofs.Ytinlbckdgdojkaa
