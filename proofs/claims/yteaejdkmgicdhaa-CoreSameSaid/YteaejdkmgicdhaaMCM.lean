/- Of every tree the statement CoreSame returns true, and it reads afterwards as before.
   No condition. -/
import Derived.Test.YteaejdkmgicdhaaMSimA
import Derived.Test.YteaejdkmgicdhaaMWk
import Derived.Test.YteaejdkmgicdhaaMVN
import Derived.Test.YteaejdkmgicdhaaMForm
import Derived.Test.YteaejdkmgicdhaaMRefF
import Derived.Test.YteaejdkmgicdhaaMRefS
import Derived.Test.YteaejdkmgicdhaaMRef
import Derived.Deep.DeepCutAuto
import Derived.ProofKit
import Derived.OpenShut
import Derived.ChangeOld
import Derived.Below

/- The walk of the statement CoreSame: called with a tree it returns true and changes nothing that was there.
   Conditions: the tree lies in memory. -/
namespace Go.Proofs.Yteaejdkmgicdhaa
open Go.RowKit Go.Shelf
attribute [local go_sem] nodeAgg

theorem laid_lit {w : World} {R : Nat → Prop} {g : Nat} {ps : List V} {cs : Array Value} (k lo hi : Int) (h : w.heap[g]? = some (.cells cs 27 (0, 0))) (hcs : cs.toList = flat ps) (hR : R g) (hk : ∀ p ∈ ps, Laid w R p) : Laid w R (.node k zeros lo hi (.slice (some ⟨g, 0, none⟩) ps.length ps.length) ps) := by
  refine .some k zeros lo hi ps g 0 ps.length hR (Array.getElem?_eq_some_iff.1 h).1 (Nat.le_refl _) (fun i t ht j u hu => ?_) hk
  have hj : j < 8 := by have := (List.getElem?_eq_some_iff.1 hu).1; rwa [ndc_length] at this
  rw [Nat.zero_add, (row_cells h).1, ← Array.getElem?_toList, hcs, flat_at ps i t ht j hj]
  exact hu

set_option maxHeartbeats 8000000 in
set_option maxRecDepth 100000 in
theorem same4_walk (a : V) (w : World) (R : Nat → Prop) (ha : Laid w R a) :
    Calls Try.prog 3 #[nodeAgg a] w fun e w' => e = .returned (.bool true) ∧ Below w.heap.size w w' := by
  obtain ⟨sa, sc, hv0, _⟩ := laid_row' ha
  obtain ⟨sn, hsn⟩ : ∃ sn, sn = a.ps.length := ⟨_, rfl⟩
  rw [← hsn] at hv0
  obtain ⟨w2, hw2, hbw, hlt2, hbx⟩ := box_new w a (.slice sa sn sc)
  have HSa := Lib.hid (fun (W : World) (h : Below w.heap.size w W) => by
    have := size_any 80 (by omega) a W R (laid_low ha h)
    rw [nodeAgg_v hv0] at this
    exact this)
  have HFo := Lib.hid (fun (W : World) (h : Below w.heap.size w W) (hz : szT (erase a) ≤ 1000000) => by
    have := formed_ref 1000000 (Nat.le_refl _) a W R hz (laid_low ha h)
    rw [nodeAgg_v hv0] at this
    exact this)
  have HSi := Lib.hid (fun (W : World) (h : Below w.heap.size w W) (hz : szT (erase a) ≤ 300000) (hok : okT (erase a) = true) => by
    have := simple_good a W R (laid_low ha h) hz hok
    rw [nodeAgg_v hv0] at this
    exact this)
  have HAV := Lib.hid hv0
  have HAL := Lib.hid ha
  have HBX := Lib.hid hbx
  have HBW := Lib.hid (And.intro hbw hlt2)
  rw [nodeAgg_v hv0]
  clear hbx ha hv0 hsn hlt2
  go_enter Try.func3, Try.ntmps3
  go_wp2_with fail
  clear hw2 hbw
  go_at_call 12
  refine (awake4_any _).mono ?_
  rintro e w3 ⟨rfl, hb3⟩
  obtain ⟨x0, x1, x2, x3, x4, x5, x6, x7⟩ := HBX.out w3 hb3
  have HB3 := Lib.hid hb3
  clear hb3
  go_wp2_with fail
  go_at_call 13
  refine (HSa.out _ (bhop HBW.out.1 HB3.out)).mono ?_
  rintro e w4 ⟨rfl, hb4⟩
  have HB4 := Lib.hid (bhop HB3.out hb4)
  clear hb4 x0 x1 x2 x3 x4 x5 x6 x7
  obtain ⟨x0, x1, x2, x3, x4, x5, x6, x7⟩ := HBX.out w4 HB4.out
  by_cases hA : szT (erase a) ≤ 80
  · have hA2 : min (szT (erase a)) (80 + 1) = szT (erase a) := by omega
    rw [hA2]
    have g1 : ¬ (80 : Int) < ((szT (erase a) : Nat) : Int) := by omega
    have HA := Lib.hid hA
    clear hA hA2
    go_wp2_with fail
    go_at_call 14
    refine (HFo.out _ (bhop HBW.out.1 HB4.out) (by have := HA.out; omega)).mono ?_
    rintro e w5 ⟨rfl, hb5⟩
    have HB5 := Lib.hid (bhop HB4.out hb5)
    clear hb5 x0 x1 x2 x3 x4 x5 x6 x7
    obtain ⟨x0, x1, x2, x3, x4, x5, x6, x7⟩ := HBX.out w5 HB5.out
    cases hok : okT (erase a) with
    | false =>
      clear hok x0 x1 x2 x3 x4 x5 x6 x7
      go_wp2_with fail
      go_at_call 12
      refine (awake4_any _).mono ?_
      rintro e w6 ⟨rfl, hb6⟩
      have HB6 := Lib.hid (bhop HB5.out hb6)
      go_wp2_with fail
      go_ret
      exact ⟨rfl, bhop HBW.out.1 HB6.out⟩
    | true =>
      have HK := Lib.hid hok
      clear hok
      go_wp2_with fail
      go_at_call 15
      refine (HSi.out _ (bhop HBW.out.1 HB5.out) (by have := HA.out; omega) HK.out).mono ?_
      rintro e w6 ⟨⟨r, rfl, herr, hresr⟩, hb⟩
      have hlr := hresr.laid
      obtain ⟨sar, scr, hvr, _⟩ := laid_row' hlr
      obtain ⟨snr, hsnr⟩ : ∃ s, s = r.ps.length := ⟨_, rfl⟩
      rw [← hsnr] at hvr
      rw [nodeAgg_v hvr]
      have HB6 := Lib.hid (bhop HB5.out hb)
      have HRr := Lib.hid (And.intro herr (And.intro hlr hvr))
      clear hb herr hresr hlr hvr hsnr x0 x1 x2 x3 x4 x5 x6 x7
      obtain ⟨w7, hw7, hb, hlt, hbx⟩ := box_new w6 r (.slice sar snr scr)
      have HXr := Lib.hid hbx
      have HB7 := Lib.hid (bhop HB6.out hb)
      have HLr := Lib.hid (laid_low HRr.out.2.1 hb)
      clear hb hlt hbx
      obtain ⟨x0, x1, x2, x3, x4, x5, x6, x7⟩ := HBX.out w7 HB7.out
      have HLa := Lib.hid (fun (W : World) (h : Below w2.heap.size w2 W) => laid_low HAL.out (bhop HBW.out.1 h) |>.mono (R' := fun _ => True) fun _ _ _ => trivial)
      have HCra := Lib.hid (show Calls Try.prog 15 #[.agg #[.int .i64 2, .int .u64 0, .int .u64 0, .int .u64 0, .int .u64 0, .slice (some ⟨w7.heap.size, 0, none⟩) 2 2, .int .i64 0, .int .i64 0]] (w7.alloc (.cells #[.int .i64 a.kind, .int .u64 (a.set 0 : Nat), .int .u64 (a.set 1 : Nat), .int .u64 (a.set 2 : Nat), .int .u64 (a.set 3 : Nat), .slice sa sn sc, .int .i64 a.lo, .int .i64 a.hi, .int .i64 0, .int .u64 0, .int .u64 0, .int .u64 0, .int .u64 0, .slice none 0 0, .int .i64 0, .int .i64 0] 27)) fun e w' => (∃ r : V, e = .returned (.tuple #[nodeAgg r, .int .i64 0]) ∧ erase r = simT (erase a) ∧ Res w' (w7.alloc (.cells #[.int .i64 a.kind, .int .u64 (a.set 0 : Nat), .int .u64 (a.set 1 : Nat), .int .u64 (a.set 2 : Nat), .int .u64 (a.set 3 : Nat), .slice sa sn sc, .int .i64 a.lo, .int .i64 a.hi, .int .i64 0, .int .u64 0, .int .u64 0, .int .u64 0, .int .u64 0, .slice none 0 0, .int .i64 0, .int .i64 0] 27)).heap.size w'.heap.size r) ∧ Below (w7.alloc (.cells #[.int .i64 a.kind, .int .u64 (a.set 0 : Nat), .int .u64 (a.set 1 : Nat), .int .u64 (a.set 2 : Nat), .int .u64 (a.set 3 : Nat), .slice sa sn sc, .int .i64 a.lo, .int .i64 a.hi, .int .i64 0, .int .u64 0, .int .u64 0, .int .u64 0, .int .u64 0, .slice none 0 0, .int .i64 0, .int .i64 0] 27)).heap.size (w7.alloc (.cells #[.int .i64 a.kind, .int .u64 (a.set 0 : Nat), .int .u64 (a.set 1 : Nat), .int .u64 (a.set 2 : Nat), .int .u64 (a.set 3 : Nat), .slice sa sn sc, .int .i64 a.lo, .int .i64 a.hi, .int .i64 0, .int .u64 0, .int .u64 0, .int .u64 0, .int .u64 0, .slice none 0 0, .int .i64 0, .int .i64 0] 27)) w' by
        have hbl : Below w7.heap.size w7 (w7.alloc (.cells #[.int .i64 a.kind, .int .u64 (a.set 0 : Nat), .int .u64 (a.set 1 : Nat), .int .u64 (a.set 2 : Nat), .int .u64 (a.set 3 : Nat), .slice sa sn sc, .int .i64 a.lo, .int .i64 a.hi, .int .i64 0, .int .u64 0, .int .u64 0, .int .u64 0, .int .u64 0, .slice none 0 0, .int .i64 0, .int .i64 0] 27)) := (Below.refl _ _).alloc (Nat.le_refl _) _
        have hla : Laid (w7.alloc (.cells #[.int .i64 a.kind, .int .u64 (a.set 0 : Nat), .int .u64 (a.set 1 : Nat), .int .u64 (a.set 2 : Nat), .int .u64 (a.set 3 : Nat), .slice sa sn sc, .int .i64 a.lo, .int .i64 a.hi, .int .i64 0, .int .u64 0, .int .u64 0, .int .u64 0, .int .u64 0, .slice none 0 0, .int .i64 0, .int .i64 0] 27)) (fun _ => True) a := laid_low (HLa.out w7 HB7.out) hbl
        have hl := laid_lit (ps := [a, zeroV]) 2 0 0 (heap_alloc_new w7 (.cells #[.int .i64 a.kind, .int .u64 (a.set 0 : Nat), .int .u64 (a.set 1 : Nat), .int .u64 (a.set 2 : Nat), .int .u64 (a.set 3 : Nat), .slice sa sn sc, .int .i64 a.lo, .int .i64 a.hi, .int .i64 0, .int .u64 0, .int .u64 0, .int .u64 0, .int .u64 0, .slice none 0 0, .int .i64 0, .int .i64 0] 27)) (by unfold flat; simp only [List.flatMap_cons, List.flatMap_nil, List.append_nil]; unfold ndc; rw [HAV.out] <;> rfl) trivial (fun p hp => by first | (rcases List.mem_cons.1 hp with rfl | hp; exact hla; first | (rw [List.mem_singleton.1 hp]; exact hla) | (rw [List.mem_singleton.1 hp]; exact zeroV_laid _ _)) | (rw [List.mem_singleton.1 hp]; exact hla))
        have he : erase (.node 2 zeros 0 0 (.slice (some ⟨w7.heap.size, 0, none⟩) 2 2) [a, zeroV]) = T.node 2 zeros 0 0 [erase a, noT] := by rw [erase]; simp only [erases] <;> rfl
        have := simple_good _ _ _ hl (by rw [show erase (V.node 2 zeros 0 0 (.slice (some ⟨w7.heap.size, 0, none⟩) ([a, zeroV]).length ([a, zeroV]).length) [a, zeroV]) = T.node 2 zeros 0 0 [erase a, noT] from he]; have := HA.out; simp only [szT, szsT]; omega) (by rw [show erase (V.node 2 zeros 0 0 (.slice (some ⟨w7.heap.size, 0, none⟩) ([a, zeroV]).length ([a, zeroV]).length) [a, zeroV]) = T.node 2 zeros 0 0 [erase a, noT] from he]; exact ok_two (.inl rfl) HK.out (by decide))
        rw [show erase (V.node 2 zeros 0 0 (.slice (some ⟨w7.heap.size, 0, none⟩) ([a, zeroV]).length ([a, zeroV]).length) [a, zeroV]) = T.node 2 zeros 0 0 [erase a, noT] from he, sim_behind HK.out] at this
        exact this)
      go_upto_region 4 with fail
      clear hw7
      go_wp2_with fail
      go_at_call 15
      refine HCra.out.mono ?_
      rintro e w8 ⟨⟨ra, rfl, herra, hresra⟩, hb⟩
      have hlra := hresra.laid
      obtain ⟨sara, scra, hvra, _⟩ := laid_row' hlra
      obtain ⟨snra, hsnra⟩ : ∃ s, s = ra.ps.length := ⟨_, rfl⟩
      rw [← hsnra] at hvra
      rw [nodeAgg_v hvra]
      have HB8 := Lib.hid (bhop ((Below.refl _ w7).alloc (Nat.le_refl _) (.cells #[.int .i64 a.kind, .int .u64 (a.set 0 : Nat), .int .u64 (a.set 1 : Nat), .int .u64 (a.set 2 : Nat), .int .u64 (a.set 3 : Nat), .slice sa sn sc, .int .i64 a.lo, .int .i64 a.hi, .int .i64 0, .int .u64 0, .int .u64 0, .int .u64 0, .int .u64 0, .slice none 0 0, .int .i64 0, .int .i64 0] 27)) hb)
      have HRra := Lib.hid (And.intro herra (And.intro hlra hvra))
      clear hb herra hresra hlra hvra hsnra x0 x1 x2 x3 x4 x5 x6 x7
      obtain ⟨w9, hw9, hb, hlt, hbx⟩ := box_new w8 ra (.slice sara snra scra)
      have HXa := Lib.hid hbx
      have HB9' := Lib.hid (bhop HB8.out hb)
      have HLra := Lib.hid (laid_low HRra.out.2.1 hb)
      clear hb hlt hbx
      obtain ⟨x0, x1, x2, x3, x4, x5, x6, x7⟩ := HBX.out w9 (bhop HB7.out HB9'.out)
      have HB9 := Lib.hid (bhop HB7.out HB9'.out)
      have HCrb := Lib.hid (show Calls Try.prog 15 #[.agg #[.int .i64 3, .int .u64 0, .int .u64 0, .int .u64 0, .int .u64 0, .slice (some ⟨w9.heap.size, 0, none⟩) 2 2, .int .i64 0, .int .i64 0]] (w9.alloc (.cells #[.int .i64 a.kind, .int .u64 (a.set 0 : Nat), .int .u64 (a.set 1 : Nat), .int .u64 (a.set 2 : Nat), .int .u64 (a.set 3 : Nat), .slice sa sn sc, .int .i64 a.lo, .int .i64 a.hi, .int .i64 a.kind, .int .u64 (a.set 0 : Nat), .int .u64 (a.set 1 : Nat), .int .u64 (a.set 2 : Nat), .int .u64 (a.set 3 : Nat), .slice sa sn sc, .int .i64 a.lo, .int .i64 a.hi] 27)) fun e w' => (∃ r : V, e = .returned (.tuple #[nodeAgg r, .int .i64 0]) ∧ erase r = simT (erase a) ∧ Res w' (w9.alloc (.cells #[.int .i64 a.kind, .int .u64 (a.set 0 : Nat), .int .u64 (a.set 1 : Nat), .int .u64 (a.set 2 : Nat), .int .u64 (a.set 3 : Nat), .slice sa sn sc, .int .i64 a.lo, .int .i64 a.hi, .int .i64 a.kind, .int .u64 (a.set 0 : Nat), .int .u64 (a.set 1 : Nat), .int .u64 (a.set 2 : Nat), .int .u64 (a.set 3 : Nat), .slice sa sn sc, .int .i64 a.lo, .int .i64 a.hi] 27)).heap.size w'.heap.size r) ∧ Below (w9.alloc (.cells #[.int .i64 a.kind, .int .u64 (a.set 0 : Nat), .int .u64 (a.set 1 : Nat), .int .u64 (a.set 2 : Nat), .int .u64 (a.set 3 : Nat), .slice sa sn sc, .int .i64 a.lo, .int .i64 a.hi, .int .i64 a.kind, .int .u64 (a.set 0 : Nat), .int .u64 (a.set 1 : Nat), .int .u64 (a.set 2 : Nat), .int .u64 (a.set 3 : Nat), .slice sa sn sc, .int .i64 a.lo, .int .i64 a.hi] 27)).heap.size (w9.alloc (.cells #[.int .i64 a.kind, .int .u64 (a.set 0 : Nat), .int .u64 (a.set 1 : Nat), .int .u64 (a.set 2 : Nat), .int .u64 (a.set 3 : Nat), .slice sa sn sc, .int .i64 a.lo, .int .i64 a.hi, .int .i64 a.kind, .int .u64 (a.set 0 : Nat), .int .u64 (a.set 1 : Nat), .int .u64 (a.set 2 : Nat), .int .u64 (a.set 3 : Nat), .slice sa sn sc, .int .i64 a.lo, .int .i64 a.hi] 27)) w' by
        have hbl : Below w9.heap.size w9 (w9.alloc (.cells #[.int .i64 a.kind, .int .u64 (a.set 0 : Nat), .int .u64 (a.set 1 : Nat), .int .u64 (a.set 2 : Nat), .int .u64 (a.set 3 : Nat), .slice sa sn sc, .int .i64 a.lo, .int .i64 a.hi, .int .i64 a.kind, .int .u64 (a.set 0 : Nat), .int .u64 (a.set 1 : Nat), .int .u64 (a.set 2 : Nat), .int .u64 (a.set 3 : Nat), .slice sa sn sc, .int .i64 a.lo, .int .i64 a.hi] 27)) := (Below.refl _ _).alloc (Nat.le_refl _) _
        have hla : Laid (w9.alloc (.cells #[.int .i64 a.kind, .int .u64 (a.set 0 : Nat), .int .u64 (a.set 1 : Nat), .int .u64 (a.set 2 : Nat), .int .u64 (a.set 3 : Nat), .slice sa sn sc, .int .i64 a.lo, .int .i64 a.hi, .int .i64 a.kind, .int .u64 (a.set 0 : Nat), .int .u64 (a.set 1 : Nat), .int .u64 (a.set 2 : Nat), .int .u64 (a.set 3 : Nat), .slice sa sn sc, .int .i64 a.lo, .int .i64 a.hi] 27)) (fun _ => True) a := laid_low (HLa.out w9 HB9.out) hbl
        have hl := laid_lit (ps := [a, a]) 3 0 0 (heap_alloc_new w9 (.cells #[.int .i64 a.kind, .int .u64 (a.set 0 : Nat), .int .u64 (a.set 1 : Nat), .int .u64 (a.set 2 : Nat), .int .u64 (a.set 3 : Nat), .slice sa sn sc, .int .i64 a.lo, .int .i64 a.hi, .int .i64 a.kind, .int .u64 (a.set 0 : Nat), .int .u64 (a.set 1 : Nat), .int .u64 (a.set 2 : Nat), .int .u64 (a.set 3 : Nat), .slice sa sn sc, .int .i64 a.lo, .int .i64 a.hi] 27)) (by unfold flat; simp only [List.flatMap_cons, List.flatMap_nil, List.append_nil]; unfold ndc; rw [HAV.out] <;> rfl) trivial (fun p hp => by first | (rcases List.mem_cons.1 hp with rfl | hp; exact hla; first | (rw [List.mem_singleton.1 hp]; exact hla) | (rw [List.mem_singleton.1 hp]; exact zeroV_laid _ _)) | (rw [List.mem_singleton.1 hp]; exact hla))
        have he : erase (.node 3 zeros 0 0 (.slice (some ⟨w9.heap.size, 0, none⟩) 2 2) [a, a]) = T.node 3 zeros 0 0 [erase a, erase a] := by rw [erase]; simp only [erases] <;> rfl
        have := simple_good _ _ _ hl (by rw [show erase (V.node 3 zeros 0 0 (.slice (some ⟨w9.heap.size, 0, none⟩) ([a, a]).length ([a, a]).length) [a, a]) = T.node 3 zeros 0 0 [erase a, erase a] from he]; have := HA.out; simp only [szT, szsT]; omega) (by rw [show erase (V.node 3 zeros 0 0 (.slice (some ⟨w9.heap.size, 0, none⟩) ([a, a]).length ([a, a]).length) [a, a]) = T.node 3 zeros 0 0 [erase a, erase a] from he]; exact ok_two (.inr rfl) HK.out HK.out)
        rw [show erase (V.node 3 zeros 0 0 (.slice (some ⟨w9.heap.size, 0, none⟩) ([a, a]).length ([a, a]).length) [a, a]) = T.node 3 zeros 0 0 [erase a, erase a] from he, sim_twice HK.out] at this
        exact this)
      go_upto_region 5 with fail
      clear hw9
      go_wp2_with fail
      go_at_call 15
      refine HCrb.out.mono ?_
      rintro e w10 ⟨⟨rb, rfl, herrb, hresrb⟩, hb⟩
      have hlrb := hresrb.laid
      obtain ⟨sarb, scrb, hvrb, _⟩ := laid_row' hlrb
      obtain ⟨snrb, hsnrb⟩ : ∃ s, s = rb.ps.length := ⟨_, rfl⟩
      rw [← hsnrb] at hvrb
      rw [nodeAgg_v hvrb]
      have HB10 := Lib.hid (bhop ((Below.refl _ w9).alloc (Nat.le_refl _) (.cells #[.int .i64 a.kind, .int .u64 (a.set 0 : Nat), .int .u64 (a.set 1 : Nat), .int .u64 (a.set 2 : Nat), .int .u64 (a.set 3 : Nat), .slice sa sn sc, .int .i64 a.lo, .int .i64 a.hi, .int .i64 a.kind, .int .u64 (a.set 0 : Nat), .int .u64 (a.set 1 : Nat), .int .u64 (a.set 2 : Nat), .int .u64 (a.set 3 : Nat), .slice sa sn sc, .int .i64 a.lo, .int .i64 a.hi] 27)) hb)
      have HRrb := Lib.hid (And.intro herrb (And.intro hlrb hvrb))
      clear hb herrb hresrb hlrb hvrb hsnrb x0 x1 x2 x3 x4 x5 x6 x7
      obtain ⟨w11, hw11, hb, hlt, hbx⟩ := box_new w10 rb (.slice sarb snrb scrb)
      have HXb := Lib.hid hbx
      have HB11' := Lib.hid (bhop HB10.out hb)
      have HLrb := Lib.hid (laid_low HRrb.out.2.1 hb)
      clear hb hlt hbx
      obtain ⟨x0, x1, x2, x3, x4, x5, x6, x7⟩ := HBX.out w11 (bhop HB9.out HB11'.out)
      have HB11 := Lib.hid (bhop HB9.out HB11'.out)
      have HCrc := Lib.hid (show Calls Try.prog 15 #[.agg #[.int .i64 4, .int .u64 0, .int .u64 0, .int .u64 0, .int .u64 0, .slice (some ⟨w11.heap.size, 0, none⟩) 1 1, .int .i64 1, .int .i64 1]] (w11.alloc (.cells #[.int .i64 a.kind, .int .u64 (a.set 0 : Nat), .int .u64 (a.set 1 : Nat), .int .u64 (a.set 2 : Nat), .int .u64 (a.set 3 : Nat), .slice sa sn sc, .int .i64 a.lo, .int .i64 a.hi] 27)) fun e w' => (∃ r : V, e = .returned (.tuple #[nodeAgg r, .int .i64 0]) ∧ erase r = simT (erase a) ∧ Res w' (w11.alloc (.cells #[.int .i64 a.kind, .int .u64 (a.set 0 : Nat), .int .u64 (a.set 1 : Nat), .int .u64 (a.set 2 : Nat), .int .u64 (a.set 3 : Nat), .slice sa sn sc, .int .i64 a.lo, .int .i64 a.hi] 27)).heap.size w'.heap.size r) ∧ Below (w11.alloc (.cells #[.int .i64 a.kind, .int .u64 (a.set 0 : Nat), .int .u64 (a.set 1 : Nat), .int .u64 (a.set 2 : Nat), .int .u64 (a.set 3 : Nat), .slice sa sn sc, .int .i64 a.lo, .int .i64 a.hi] 27)).heap.size (w11.alloc (.cells #[.int .i64 a.kind, .int .u64 (a.set 0 : Nat), .int .u64 (a.set 1 : Nat), .int .u64 (a.set 2 : Nat), .int .u64 (a.set 3 : Nat), .slice sa sn sc, .int .i64 a.lo, .int .i64 a.hi] 27)) w' by
        have hbl : Below w11.heap.size w11 (w11.alloc (.cells #[.int .i64 a.kind, .int .u64 (a.set 0 : Nat), .int .u64 (a.set 1 : Nat), .int .u64 (a.set 2 : Nat), .int .u64 (a.set 3 : Nat), .slice sa sn sc, .int .i64 a.lo, .int .i64 a.hi] 27)) := (Below.refl _ _).alloc (Nat.le_refl _) _
        have hla : Laid (w11.alloc (.cells #[.int .i64 a.kind, .int .u64 (a.set 0 : Nat), .int .u64 (a.set 1 : Nat), .int .u64 (a.set 2 : Nat), .int .u64 (a.set 3 : Nat), .slice sa sn sc, .int .i64 a.lo, .int .i64 a.hi] 27)) (fun _ => True) a := laid_low (HLa.out w11 HB11.out) hbl
        have hl := laid_lit (ps := [a]) 4 1 1 (heap_alloc_new w11 (.cells #[.int .i64 a.kind, .int .u64 (a.set 0 : Nat), .int .u64 (a.set 1 : Nat), .int .u64 (a.set 2 : Nat), .int .u64 (a.set 3 : Nat), .slice sa sn sc, .int .i64 a.lo, .int .i64 a.hi] 27)) (by unfold flat; simp only [List.flatMap_cons, List.flatMap_nil, List.append_nil]; unfold ndc; rw [HAV.out] <;> rfl) trivial (fun p hp => by first | (rcases List.mem_cons.1 hp with rfl | hp; exact hla; first | (rw [List.mem_singleton.1 hp]; exact hla) | (rw [List.mem_singleton.1 hp]; exact zeroV_laid _ _)) | (rw [List.mem_singleton.1 hp]; exact hla))
        have he : erase (.node 4 zeros 1 1 (.slice (some ⟨w11.heap.size, 0, none⟩) 1 1) [a]) = T.node 4 zeros 1 1 [erase a] := by rw [erase]; simp only [erases] <;> rfl
        have := simple_good _ _ _ hl (by rw [show erase (V.node 4 zeros 1 1 (.slice (some ⟨w11.heap.size, 0, none⟩) ([a]).length ([a]).length) [a]) = T.node 4 zeros 1 1 [erase a] from he]; have := HA.out; simp only [szT, szsT]; omega) (by rw [show erase (V.node 4 zeros 1 1 (.slice (some ⟨w11.heap.size, 0, none⟩) ([a]).length ([a]).length) [a]) = T.node 4 zeros 1 1 [erase a] from he]; exact ok_once' HK.out)
        rw [show erase (V.node 4 zeros 1 1 (.slice (some ⟨w11.heap.size, 0, none⟩) ([a]).length ([a]).length) [a]) = T.node 4 zeros 1 1 [erase a] from he, sim_once (ok_once' HK.out)] at this
        exact this)
      go_upto_region 6 with fail
      clear hw11
      go_wp2_with fail
      go_at_call 15
      refine HCrc.out.mono ?_
      rintro e w12 ⟨⟨rc, rfl, herrc, hresrc⟩, hb⟩
      have hlrc := hresrc.laid
      obtain ⟨sarc, scrc, hvrc, _⟩ := laid_row' hlrc
      obtain ⟨snrc, hsnrc⟩ : ∃ s, s = rc.ps.length := ⟨_, rfl⟩
      rw [← hsnrc] at hvrc
      rw [nodeAgg_v hvrc]
      have HB12 := Lib.hid (bhop ((Below.refl _ w11).alloc (Nat.le_refl _) (.cells #[.int .i64 a.kind, .int .u64 (a.set 0 : Nat), .int .u64 (a.set 1 : Nat), .int .u64 (a.set 2 : Nat), .int .u64 (a.set 3 : Nat), .slice sa sn sc, .int .i64 a.lo, .int .i64 a.hi] 27)) hb)
      have HRrc := Lib.hid (And.intro herrc (And.intro hlrc hvrc))
      clear hb herrc hresrc hlrc hvrc hsnrc x0 x1 x2 x3 x4 x5 x6 x7
      obtain ⟨w13, hw13, hb, hlt, hbx⟩ := box_new w12 rc (.slice sarc snrc scrc)
      have HXc := Lib.hid hbx
      have HB13' := Lib.hid (bhop HB12.out hb)
      have HLrc := Lib.hid (laid_low HRrc.out.2.1 hb)
      clear hb hlt hbx
      obtain ⟨x0, x1, x2, x3, x4, x5, x6, x7⟩ := HBX.out w13 (bhop HB11.out HB13'.out)
      have HB13 := Lib.hid (bhop HB11.out HB13'.out)
      clear x0 x1 x2 x3 x4 x5 x6 x7
      have HS1 := Lib.hid (fun (W : World) (h : Below w13.heap.size w13 W) => by
        have := same_ref 1000000 (Nat.le_refl _) ra r W _ _ (by rw [HRra.out.1]; have := sim_sz (erase a); have := HA.out; omega) (laid_low HLra.out (bhop (bhop HB11'.out HB13'.out) h)) (laid_low HLr.out (bhop (bhop HB9'.out (bhop HB11'.out HB13'.out)) h))
        rw [nodeAgg_v HRra.out.2.2, nodeAgg_v HRr.out.2.2, HRra.out.1, HRr.out.1, like_self] at this
        exact this)
      have HS2 := Lib.hid (fun (W : World) (h : Below w13.heap.size w13 W) => by
        have := same_ref 1000000 (Nat.le_refl _) rb r W _ _ (by rw [HRrb.out.1]; have := sim_sz (erase a); have := HA.out; omega) (laid_low HLrb.out (bhop HB13'.out h)) (laid_low HLr.out (bhop (bhop HB9'.out (bhop HB11'.out HB13'.out)) h))
        rw [nodeAgg_v HRrb.out.2.2, nodeAgg_v HRr.out.2.2, HRrb.out.1, HRr.out.1, like_self] at this
        exact this)
      have HS3 := Lib.hid (fun (W : World) (h : Below w13.heap.size w13 W) => by
        have := same_ref 1000000 (Nat.le_refl _) rc r W _ _ (by rw [HRrc.out.1]; have := sim_sz (erase a); have := HA.out; omega) (laid_low HLrc.out h) (laid_low HLr.out (bhop (bhop HB9'.out (bhop HB11'.out HB13'.out)) h))
        rw [nodeAgg_v HRrc.out.2.2, nodeAgg_v HRr.out.2.2, HRrc.out.1, HRr.out.1, like_self] at this
        exact this)
      have HZr := Lib.hid (fun (W : World) (h : Below w13.heap.size w13 W) => HXr.out W (bhop (bhop HB9'.out (bhop HB11'.out HB13'.out)) h))
      have HZa := Lib.hid (fun (W : World) (h : Below w13.heap.size w13 W) => HXa.out W (bhop (bhop HB11'.out HB13'.out) h))
      have HZb := Lib.hid (fun (W : World) (h : Below w13.heap.size w13 W) => HXb.out W (bhop HB13'.out h))
      obtain ⟨x0, x1, x2, x3, x4, x5, x6, x7⟩ := HZr.out w13 (Below.refl _ _)
      obtain ⟨y0, y1, y2, y3, y4, y5, y6, y7⟩ := HZa.out w13 (Below.refl _ _)
      go_upto_region 7 with fail
      clear hw13
      go_wp2_with fail
      go_at_call 16
      refine (HS1.out _ (Below.refl _ _)).mono ?_
      rintro e w14 ⟨rfl, hb⟩
      have HB14 := Lib.hid hb
      clear hb x0 x1 x2 x3 x4 x5 x6 x7 y0 y1 y2 y3 y4 y5 y6 y7
      obtain ⟨x0, x1, x2, x3, x4, x5, x6, x7⟩ := HZr.out w14 HB14.out
      obtain ⟨y0, y1, y2, y3, y4, y5, y6, y7⟩ := HZb.out w14 HB14.out
      go_wp2_with fail
      go_at_call 16
      refine (HS2.out _ HB14.out).mono ?_
      rintro e w15 ⟨rfl, hb⟩
      have HB15 := Lib.hid (bhop HB14.out hb)
      clear hb x0 x1 x2 x3 x4 x5 x6 x7 y0 y1 y2 y3 y4 y5 y6 y7
      obtain ⟨x0, x1, x2, x3, x4, x5, x6, x7⟩ := HZr.out w15 HB15.out
      obtain ⟨y0, y1, y2, y3, y4, y5, y6, y7⟩ := HXc.out w15 HB15.out
      go_wp2_with fail
      go_at_call 16
      refine (HS3.out _ HB15.out).mono ?_
      rintro e w16 ⟨rfl, hb⟩
      have HB16 := Lib.hid (bhop HB15.out hb)
      clear hb
      go_wp2_with fail
      go_ret
      exact ⟨rfl, bhop HBW.out.1 (bhop HB13.out HB16.out)⟩
  · have hA2 : min (szT (erase a)) (80 + 1) = 81 := by omega
    rw [hA2]
    clear hA hA2 x0 x1 x2 x3 x4 x5 x6 x7
    go_wp2_with fail
    go_at_call 12
    refine (awake4_any _).mono ?_
    rintro e w5 ⟨rfl, hb5⟩
    have HB5 := Lib.hid (bhop HB4.out hb5)
    go_wp2_with fail
    go_ret
    exact ⟨rfl, bhop HBW.out.1 HB5.out⟩

end Go.Proofs.Yteaejdkmgicdhaa

/- Of every tree the statement CoreSame returns true, and it reads afterwards as before.
   No condition. -/
namespace Go.Proofs.Yteaejdkmgicdhaa
open Go.ChangeShapes Go.WideShapes Go.ChangeAt Go.RowKit

theorem trOwn : ownKnob Try.prog.godebug = none := by kernel_rfl
theorem trLaidOut : laidOutB Try.prog = true := by kernel_rfl
theorem nodeAgg_ndc (t : V) : nodeAgg t = .agg (ndc t).toArray := rfl

set_option maxRecDepth 100000 in
theorem coreSame_lifted (os : Os) (started : os.Started) (H : Type) (enc : TypeId × Value → H) :
    ReturnsInHanded {} Try.checked os 3 .any (Rows.coreSameSpec.pre6 enc Try.prog Try.f3 Rows.coreSameRow.domain false) (Rows.coreSameSpec.post enc Try.prog Try.f3 false true false false) := by
  refine returnsInHanded_of_change (C := Try.checked) trOwn started (by kernel_rfl) Try.func3
    (ChangeSpec.witness6 (enc := enc) (C := Try.checked) false ⟨#[], #[.agg #[.int .i64 0, .int .u64 0, .int .u64 0, .int .u64 0, .int .u64 0, .slice none 0 0, .int .i64 0, .int .i64 0]], []⟩ 8 (by kernel_rfl) (by kernel_rfl) (by kernel_rfl) (by kernel_rfl)) ?_
  intro W base args ds gs before hval0 hW hcnd _
  have hval : ∀ (j : Nat) t v, Try.f3.params[j]? = some t → args[j]? = some v → Value.okWide Try.prog W .any base t v := hval0
  have hW' := hW
  obtain ⟨p, q, hA0, hV, rfl, hfz, hnd⟩ := hW
  have hA : DataW.TrodAll enc Try.prog W 0 (fun _ => true) true Try.f3.params.toList args.toList ds p := hA0
  rw [Try.params3] at hA hval
  obtain ⟨v0, vs0, d0, ds0, p0, q0, hargs, rfl, rfl, h0, r0⟩ := trodAll_cons hA
  obtain ⟨rfl, rfl, rfl⟩ := trodAll_nil r0
  obtain rfl : args = #[v0] := by cases args; simp_all
  obtain ⟨rfl, rfl⟩ := trodVars_none hV
  have k0 := h0
  have lt0 : ∀ x ∈ p0, x.block < W.heap.size := by obtain ⟨m, hm⟩ := k0; exact DataW.trod_lt m _ _ _ hm
  obtain ⟨t0, rfl, l0, _⟩ := open_tree (hval 0 27 v0 rfl rfl) h0
  clear hA0 hval0
  rw [← nodeAgg_ndc] at *
  refine (same4_walk t0 W _ l0).mono fun e W' ⟨he, bel⟩ => ?_
  subst he
  exact ⟨_, rfl, _, _, _, [], _, [], hW', trodAll_mk1 (shut_bool Try.underlying4 _), (trodAll_cons_mk (Below.trod trLaidOut (by kernel_rfl) (of_decide_eq_true (by kernel_rfl)) k0 bel lt0) trodAll_mk0), rfl, bel.frame _, fun h => by cases h⟩

theorem coreSame_holds : Rows.CoreSameSaid :=
  OpenClaim.holds_of_wide 3 Try.f3 rfl rfl rfl rfl rfl rfl rfl ⟨rfl, rfl, rfl, rfl, rfl⟩ rfl rfl rfl rfl rfl (by kernel_rfl) Try.func3 (by kernel_rfl)
    (of_decide_eq_true (by kernel_rfl)) (by unfold Func.isWrapper; rw [if_neg (of_decide_eq_false (by kernel_rfl))]; exact ⟨rfl, rfl⟩)
    (fun os started H enc _ => coreSame_lifted os started H enc)
#print axioms coreSame_holds

end Go.Proofs.Yteaejdkmgicdhaa
