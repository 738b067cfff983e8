/- The statement's own walk over a simple tree that isn't void: it finds nothing amiss: a contract.
   Conditions: the tree lies in memory, is a simple one, not void. -/
import Derived.Test.YteaejdkmgicdhaaMSim
import Derived.Test.YteaejdkmgicdhaaMWk
import Derived.Test.YteaejdkmgicdhaaMVN
import Derived.Deep.DeepCutAuto

/- The statement's own walk over a simple tree that isn't void: it finds nothing amiss: a contract.
   Conditions: the tree lies in memory, is a simple one, not void. -/
namespace Go.Proofs.Yteaejdkmgicdhaa
open Go.RowKit Go.Shelf
attribute [local go_sem] nodeAgg

theorem void_no {t : V} {w : World} {R : Nat → Prop} (h : Thin (erase t)) (hl : Laid w R t) (hz : szT (erase t) ≤ 100000) : Calls Try.prog 17 #[nodeAgg t] w fun e w' => e = .returned (.bool false) ∧ Below w.heap.size w w' := by
  have := void_any t w R hl hz
  rw [show (okT (erase t) && vdV t) = false from by rw [show vdV t = vdT (erase t) from rfl, ln_vd h.ln, Bool.and_false]] at this
  exact this
theorem null_is {t : V} {w : World} {R : Nat → Prop} (h : Thin (erase t)) (hl : Laid w R t) (hz : szT (erase t) ≤ 100000) : Calls Try.prog 18 #[nodeAgg t] w fun e w' => e = .returned (.bool (nuT (erase t))) ∧ Below w.heap.size w w' := by
  have := nullable_any t w R hl hz
  rw [h.ws.ok, Bool.true_and] at this
  exact this
/-- What the walk comes to at smaller trees. -/
def ThinIH (N : Nat) : Prop := ∀ (t : V) (w : World) (R : Nat → Prop), szT (erase t) ≤ N → Laid w R t → Thin (erase t) →
    Calls Try.prog 23 #[nodeAgg t] w fun e w' => e = .returned (.bool true) ∧ Below w.heap.size w w'
theorem erase_lo (t : V) : (erase t).lo = t.lo := by cases t with | node k C lo hi v ps => rw [erase]; rfl
theorem erase_hi (t : V) : (erase t).hi = t.hi := by cases t with | node k C lo hi v ps => rw [erase]; rfl
theorem leaf_len {t : V} (h : Thin (erase t)) (hk : t.kind = 0 ∨ t.kind = 1) : t.ps.length = 0 := by
  have h1 := h.ws.ok
  cases t with
  | node k C lo hi v ps =>
    rw [erase] at h1
    have hk' : k = 0 ∨ k = 1 := hk
    have ha := of_decide_eq_true (ok_kind h1)
    rw [erases_len] at ha
    show ps.length = 0
    rcases ha with h | h | h | h <;> omega
set_option maxHeartbeats 4000000 in
set_option maxRecDepth 100000 in
theorem thin_2 (N : Nat) (ih : ThinIH N) (hN : N ≤ 90000) (t : V) (w : World) (R : Nat → Prop) (hz : szT (erase t) ≤ N + 1) (ha : Laid w R t) (ht : Thin (erase t)) (hk : t.kind = 2) :
    Calls Try.prog 23 #[nodeAgg t] w fun e w' => e = .returned (.bool true) ∧ Below w.heap.size w w' := by
  obtain ⟨sa, sc, hv, hrow⟩ := laid_row' ha
  have hsz := sz_eq t
  have hlen := len_sz t.ps
  have hn1 : (t.ps.length : Int) ≤ 1000000 := by omega
  have hn0 : (0 : Int) ≤ (t.ps.length : Int) := by omega
  have HP := Lib.hid (fun (i : Nat) (p : V) (hp : t.ps[i]? = some p) (W : World) (hW : Below w.heap.size w W) => by
    obtain ⟨_, _, _, _, _, L1⟩ := hrow i p hp
    have hpz := sz_mem (List.mem_of_getElem? hp)
    exact ih p W R (by omega) (laid_low L1 hW) (ht.part (by rw [erase_ps, erases_map]; exact List.mem_map_of_mem (List.mem_of_getElem? hp))))
  have HQ := Lib.hid (fun (i : Nat) (p : V) (hp : t.ps[i]? = some p) (W : World) (hW : Below w.heap.size w W) => by
    obtain ⟨_, _, _, _, _, L1⟩ := hrow i p hp
    have hpz := sz_mem (List.mem_of_getElem? hp)
    exact null_is (ht.part (by rw [erase_ps, erases_map]; exact List.mem_map_of_mem (List.mem_of_getElem? hp))) (laid_low L1 hW) (by omega))
  have HR := Lib.hid hrow
  have HT := Lib.hid (And.intro ht (And.intro hk trivial))
  have HV := Lib.hid (fun (W : World) (hW : Below w.heap.size w W) => void_no ht (laid_low ha hW) (by omega))
  obtain ⟨sn, hsn⟩ : ∃ sn, sn = t.ps.length := ⟨_, rfl⟩
  rw [← hsn] at hv hn1 hn0
  obtain ⟨w2, hw2, hbw, hlt2, hbx⟩ := box_new w t (.slice sa sn sc)
  have HBX := Lib.hid hbx
  have HBW := Lib.hid hbw
  have HS := Lib.hid hsn
  obtain ⟨x0, x1, x2, x3, x4, x5, x6, x7⟩ := hbx w2 (Below.refl _ _)
  rw [nodeAgg_v hv] at HV ⊢
  rw [hk] at x0 HV hw2 ⊢
  clear hrow hsz hlen hbx hbw hlt2 ha ht ih hv hsn hz hk
  go_enter Try.func23, Try.ntmps23
  go_upto_region 1 with fail
  clear hw2
  go_wp2_with fail
  go_at_call 17
  refine (HV.out _ HBW.out).mono ?_
  rintro e w3 ⟨rfl, hb3⟩
  have HB3 := Lib.hid hb3
  clear hb3 x0 x1 x2 x3 x4 x5 x6 x7
  go_wp2_with fail
  go_loopw [3] (fun x wr => ∃ i : Nat, x = .int .i64 i ∧ i ≤ sn ∧ Below w2.heap.size w2 wr) (fun x _ => match x with | .int _ z => sn - z.toNat | _ => 0)
  case atStart => exact ⟨0, rfl, by omega, HB3.out⟩
  case round =>
    obtain ⟨i, rfl, hi, hb⟩ := hrel
    obtain ⟨x0, x1, x2, x3, x4, x5, x6, x7⟩ := HBX.out wr hb
    rw [HT.out.2.1] at x0
    by_cases hlt : i < sn
    · have g1 : (i : Int) < (sn : Int) := by omega
      have g0 : (0 : Int) ≤ (i : Int) := by omega
      obtain ⟨p, hp⟩ : ∃ p, t.ps[i]? = some p := ⟨_, List.getElem?_eq_getElem (by have := HS.out; omega)⟩
      have hmem : erase p ∈ (erase t).ps := by rw [erase_ps, erases_map]; exact List.mem_map_of_mem (List.mem_of_getElem? hp)
      obtain ⟨b1, o1, rfl, hlt1, cc1, L1⟩ := HR.out i p hp
      obtain ⟨pa, pc, hpv, _⟩ := laid_row' L1
      obtain ⟨pn, hpn⟩ : ∃ pn, pn = p.ps.length := ⟨_, rfl⟩
      rw [← hpn] at hpv
      have hbww : Below w.heap.size w wr := HBW.out.trans (hb.mono HBW.out.size)
      obtain ⟨y0, y1, y2, y3, y4, y5, y6, y7⟩ := node_cells cc1 hlt1 hbww
      rw [hpv] at y5
      obtain ⟨w5, hw5, hb5, hlt5, hbx5⟩ := box_new wr p (.slice pa pn pc)
      have HX5 := Lib.hid hbx5
      have HB5 := Lib.hid (And.intro (bhop hb hb5) (bhop hbww hb5))
      have HC := Lib.hid (fun (W : World) (hW : Below w5.heap.size w5 W) => by
        have := HP.out i p hp W (bhop (bhop hbww hb5) hW)
        rw [nodeAgg_v hpv] at this
        exact this)
      have HCN := Lib.hid (fun (W : World) (hW : Below w5.heap.size w5 W) => by
        have := HQ.out i p hp W (bhop (bhop hbww hb5) hW)
        rw [nodeAgg_v hpv] at this
        exact this)
      obtain ⟨k1, k2⟩ := HT.out.1.sm.two (by rw [erase_kind]; exact HT.out.2.1) _ hmem
      rw [erase_kind] at k1 k2
      have q1 : (p.kind == 0) = false := by simp [k1]
      have q2 : ((2 : Int) == p.kind) = false := by simp; omega
      clear k1 k2
      have HI := Lib.hid hlt
      obtain ⟨z0, z1, z2, z3, z4, z5, z6, z7⟩ := hbx5 w5 (Below.refl _ _)
      obtain ⟨v0, v1, v2, v3, v4, v5, v6, v7⟩ := HBX.out w5 (bhop hb hb5)
      rw [HT.out.2.1] at v0
      clear hmem cc1 hp hlt hbww hlt1 hi L1 hpv hb hb5 hbx5 hpn
      go_upto_region 7 with fail
      clear hw5 x0 x1 x2 x3 x4 x5 x6 x7 y0 y1 y2 y3 y4 y5 y6 y7
      go_wp2_with fail
      go_at_call 23
      refine (HC.out _ (Below.refl _ _)).mono ?_
      rintro e w6 ⟨rfl, hb6⟩
      have HB6 := Lib.hid (bhop ((Below.refl _ _)) hb6)
      clear hb6
      go_wp2_with fail
      go_roundw
      case rel => exact ⟨i + 1, by push_cast; rfl, HI.out, bhop HB5.out.1 HB6.out⟩
      case measure => have := HI.out; simp; omega
    · have HB := Lib.hid hb
      clear hb hi
      go_wp2_with fail
      go_ret
      exact ⟨rfl, bhop HBW.out HB.out⟩

set_option maxHeartbeats 4000000 in
set_option maxRecDepth 100000 in
theorem thin_3 (N : Nat) (ih : ThinIH N) (hN : N ≤ 90000) (t : V) (w : World) (R : Nat → Prop) (hz : szT (erase t) ≤ N + 1) (ha : Laid w R t) (ht : Thin (erase t)) (hk : t.kind = 3) :
    Calls Try.prog 23 #[nodeAgg t] w fun e w' => e = .returned (.bool true) ∧ Below w.heap.size w w' := by
  obtain ⟨sa, sc, hv, hrow⟩ := laid_row' ha
  have hsz := sz_eq t
  have hlen := len_sz t.ps
  have hn1 : (t.ps.length : Int) ≤ 1000000 := by omega
  have hn0 : (0 : Int) ≤ (t.ps.length : Int) := by omega
  have HP := Lib.hid (fun (i : Nat) (p : V) (hp : t.ps[i]? = some p) (W : World) (hW : Below w.heap.size w W) => by
    obtain ⟨_, _, _, _, _, L1⟩ := hrow i p hp
    have hpz := sz_mem (List.mem_of_getElem? hp)
    exact ih p W R (by omega) (laid_low L1 hW) (ht.part (by rw [erase_ps, erases_map]; exact List.mem_map_of_mem (List.mem_of_getElem? hp))))
  have HQ := Lib.hid (fun (i : Nat) (p : V) (hp : t.ps[i]? = some p) (W : World) (hW : Below w.heap.size w W) => by
    obtain ⟨_, _, _, _, _, L1⟩ := hrow i p hp
    have hpz := sz_mem (List.mem_of_getElem? hp)
    exact null_is (ht.part (by rw [erase_ps, erases_map]; exact List.mem_map_of_mem (List.mem_of_getElem? hp))) (laid_low L1 hW) (by omega))
  have HR := Lib.hid hrow
  have HT := Lib.hid (And.intro ht (And.intro hk trivial))
  have HV := Lib.hid (fun (W : World) (hW : Below w.heap.size w W) => void_no ht (laid_low ha hW) (by omega))
  obtain ⟨sn, hsn⟩ : ∃ sn, sn = t.ps.length := ⟨_, rfl⟩
  rw [← hsn] at hv hn1 hn0
  obtain ⟨w2, hw2, hbw, hlt2, hbx⟩ := box_new w t (.slice sa sn sc)
  have HBX := Lib.hid hbx
  have HBW := Lib.hid hbw
  have HS := Lib.hid hsn
  obtain ⟨x0, x1, x2, x3, x4, x5, x6, x7⟩ := hbx w2 (Below.refl _ _)
  rw [nodeAgg_v hv] at HV ⊢
  rw [hk] at x0 HV hw2 ⊢
  clear hrow hsz hlen hbx hbw hlt2 ha ht ih hv hsn hz hk
  go_enter Try.func23, Try.ntmps23
  go_upto_region 1 with fail
  clear hw2
  go_wp2_with fail
  go_at_call 17
  refine (HV.out _ HBW.out).mono ?_
  rintro e w3 ⟨rfl, hb3⟩
  have HB3 := Lib.hid hb3
  clear hb3 x0 x1 x2 x3 x4 x5 x6 x7
  go_wp2_with fail
  go_loopw [3] (fun x wr => ∃ i : Nat, x = .int .i64 i ∧ i ≤ sn ∧ Below w2.heap.size w2 wr) (fun x _ => match x with | .int _ z => sn - z.toNat | _ => 0)
  case atStart => exact ⟨0, rfl, by omega, HB3.out⟩
  case round =>
    obtain ⟨i, rfl, hi, hb⟩ := hrel
    obtain ⟨x0, x1, x2, x3, x4, x5, x6, x7⟩ := HBX.out wr hb
    rw [HT.out.2.1] at x0
    by_cases hlt : i < sn
    · have g1 : (i : Int) < (sn : Int) := by omega
      have g0 : (0 : Int) ≤ (i : Int) := by omega
      obtain ⟨p, hp⟩ : ∃ p, t.ps[i]? = some p := ⟨_, List.getElem?_eq_getElem (by have := HS.out; omega)⟩
      have hmem : erase p ∈ (erase t).ps := by rw [erase_ps, erases_map]; exact List.mem_map_of_mem (List.mem_of_getElem? hp)
      obtain ⟨b1, o1, rfl, hlt1, cc1, L1⟩ := HR.out i p hp
      obtain ⟨pa, pc, hpv, _⟩ := laid_row' L1
      obtain ⟨pn, hpn⟩ : ∃ pn, pn = p.ps.length := ⟨_, rfl⟩
      rw [← hpn] at hpv
      have hbww : Below w.heap.size w wr := HBW.out.trans (hb.mono HBW.out.size)
      obtain ⟨y0, y1, y2, y3, y4, y5, y6, y7⟩ := node_cells cc1 hlt1 hbww
      rw [hpv] at y5
      obtain ⟨w5, hw5, hb5, hlt5, hbx5⟩ := box_new wr p (.slice pa pn pc)
      have HX5 := Lib.hid hbx5
      have HB5 := Lib.hid (And.intro (bhop hb hb5) (bhop hbww hb5))
      have HC := Lib.hid (fun (W : World) (hW : Below w5.heap.size w5 W) => by
        have := HP.out i p hp W (bhop (bhop hbww hb5) hW)
        rw [nodeAgg_v hpv] at this
        exact this)
      have HCN := Lib.hid (fun (W : World) (hW : Below w5.heap.size w5 W) => by
        have := HQ.out i p hp W (bhop (bhop hbww hb5) hW)
        rw [nodeAgg_v hpv] at this
        exact this)
      have k1 := HT.out.1.sm.three (by rw [erase_kind]; exact HT.out.2.1) _ hmem
      rw [erase_kind] at k1
      have q2 : ((3 : Int) == p.kind) = false := by simp; omega
      clear k1
      have HI := Lib.hid hlt
      obtain ⟨z0, z1, z2, z3, z4, z5, z6, z7⟩ := hbx5 w5 (Below.refl _ _)
      obtain ⟨v0, v1, v2, v3, v4, v5, v6, v7⟩ := HBX.out w5 (bhop hb hb5)
      rw [HT.out.2.1] at v0
      clear hmem cc1 hp hlt hbww hlt1 hi L1 hpv hb hb5 hbx5 hpn
      go_upto_region 7 with fail
      clear hw5 x0 x1 x2 x3 x4 x5 x6 x7 y0 y1 y2 y3 y4 y5 y6 y7
      go_wp2_with fail
      go_at_call 23
      refine (HC.out _ (Below.refl _ _)).mono ?_
      rintro e w6 ⟨rfl, hb6⟩
      have HB6 := Lib.hid (bhop ((Below.refl _ _)) hb6)
      clear hb6
      go_wp2_with fail
      go_roundw
      case rel => exact ⟨i + 1, by push_cast; rfl, HI.out, bhop HB5.out.1 HB6.out⟩
      case measure => have := HI.out; simp; omega
    · have HB := Lib.hid hb
      clear hb hi
      go_wp2_with fail
      go_ret
      exact ⟨rfl, bhop HBW.out HB.out⟩

set_option maxHeartbeats 4000000 in
set_option maxRecDepth 100000 in
theorem thin_0 (N : Nat) (ih : ThinIH N) (hN : N ≤ 90000) (t : V) (w : World) (R : Nat → Prop) (hz : szT (erase t) ≤ N + 1) (ha : Laid w R t) (ht : Thin (erase t)) (hk : t.kind = 0) (h0 : t.ps.length = 0) :
    Calls Try.prog 23 #[nodeAgg t] w fun e w' => e = .returned (.bool true) ∧ Below w.heap.size w w' := by
  obtain ⟨sa, sc, hv, hrow⟩ := laid_row' ha
  have hsz := sz_eq t
  have hlen := len_sz t.ps
  have hn1 : (t.ps.length : Int) ≤ 1000000 := by omega
  have hn0 : (0 : Int) ≤ (t.ps.length : Int) := by omega
  have HP := Lib.hid (fun (i : Nat) (p : V) (hp : t.ps[i]? = some p) (W : World) (hW : Below w.heap.size w W) => by
    obtain ⟨_, _, _, _, _, L1⟩ := hrow i p hp
    have hpz := sz_mem (List.mem_of_getElem? hp)
    exact ih p W R (by omega) (laid_low L1 hW) (ht.part (by rw [erase_ps, erases_map]; exact List.mem_map_of_mem (List.mem_of_getElem? hp))))
  have HQ := Lib.hid (fun (i : Nat) (p : V) (hp : t.ps[i]? = some p) (W : World) (hW : Below w.heap.size w W) => by
    obtain ⟨_, _, _, _, _, L1⟩ := hrow i p hp
    have hpz := sz_mem (List.mem_of_getElem? hp)
    exact null_is (ht.part (by rw [erase_ps, erases_map]; exact List.mem_map_of_mem (List.mem_of_getElem? hp))) (laid_low L1 hW) (by omega))
  have HR := Lib.hid hrow
  have HT := Lib.hid (And.intro ht (And.intro hk h0))
  have HV := Lib.hid (fun (W : World) (hW : Below w.heap.size w W) => void_no ht (laid_low ha hW) (by omega))
  obtain ⟨sn, hsn⟩ : ∃ sn, sn = t.ps.length := ⟨_, rfl⟩
  rw [← hsn] at hv hn1 hn0
  obtain ⟨w2, hw2, hbw, hlt2, hbx⟩ := box_new w t (.slice sa sn sc)
  have HBX := Lib.hid hbx
  have HBW := Lib.hid hbw
  have HS := Lib.hid hsn
  obtain ⟨x0, x1, x2, x3, x4, x5, x6, x7⟩ := hbx w2 (Below.refl _ _)
  rw [nodeAgg_v hv] at HV ⊢
  rw [hk] at x0 HV hw2 ⊢
  clear hrow hsz hlen hbx hbw hlt2 ha ht ih hv hsn hz hk
  go_enter Try.func23, Try.ntmps23
  go_upto_region 1 with fail
  clear hw2
  go_wp2_with fail
  go_at_call 17
  refine (HV.out _ HBW.out).mono ?_
  rintro e w3 ⟨rfl, hb3⟩
  have HB3 := Lib.hid hb3
  clear hb3 x0 x1 x2 x3 x4 x5 x6 x7
  go_wp2_with fail
  go_loopw [3] (fun x wr => ∃ i : Nat, x = .int .i64 i ∧ i ≤ sn ∧ Below w2.heap.size w2 wr) (fun x _ => match x with | .int _ z => sn - z.toNat | _ => 0)
  case atStart => exact ⟨0, rfl, by omega, HB3.out⟩
  case round =>
    obtain ⟨i, rfl, hi, hb⟩ := hrel
    obtain ⟨x0, x1, x2, x3, x4, x5, x6, x7⟩ := HBX.out wr hb
    rw [HT.out.2.1] at x0
    by_cases hlt : i < sn
    · have g1 : (i : Int) < (sn : Int) := by omega
      have g0 : (0 : Int) ≤ (i : Int) := by omega
      obtain ⟨p, hp⟩ : ∃ p, t.ps[i]? = some p := ⟨_, List.getElem?_eq_getElem (by have := HS.out; omega)⟩
      have hmem : erase p ∈ (erase t).ps := by rw [erase_ps, erases_map]; exact List.mem_map_of_mem (List.mem_of_getElem? hp)
      obtain ⟨b1, o1, rfl, hlt1, cc1, L1⟩ := HR.out i p hp
      obtain ⟨pa, pc, hpv, _⟩ := laid_row' L1
      obtain ⟨pn, hpn⟩ : ∃ pn, pn = p.ps.length := ⟨_, rfl⟩
      rw [← hpn] at hpv
      have hbww : Below w.heap.size w wr := HBW.out.trans (hb.mono HBW.out.size)
      obtain ⟨y0, y1, y2, y3, y4, y5, y6, y7⟩ := node_cells cc1 hlt1 hbww
      rw [hpv] at y5
      obtain ⟨w5, hw5, hb5, hlt5, hbx5⟩ := box_new wr p (.slice pa pn pc)
      have HX5 := Lib.hid hbx5
      have HB5 := Lib.hid (And.intro (bhop hb hb5) (bhop hbww hb5))
      have HC := Lib.hid (fun (W : World) (hW : Below w5.heap.size w5 W) => by
        have := HP.out i p hp W (bhop (bhop hbww hb5) hW)
        rw [nodeAgg_v hpv] at this
        exact this)
      have HCN := Lib.hid (fun (W : World) (hW : Below w5.heap.size w5 W) => by
        have := HQ.out i p hp W (bhop (bhop hbww hb5) hW)
        rw [nodeAgg_v hpv] at this
        exact this)
      have := HT.out.2.2
      rw [List.getElem?_eq_none (by omega)] at hp
      cases hp
    · have HB := Lib.hid hb
      clear hb hi
      go_wp2_with fail
      go_ret
      exact ⟨rfl, bhop HBW.out HB.out⟩

set_option maxHeartbeats 4000000 in
set_option maxRecDepth 100000 in
theorem thin_1 (N : Nat) (ih : ThinIH N) (hN : N ≤ 90000) (t : V) (w : World) (R : Nat → Prop) (hz : szT (erase t) ≤ N + 1) (ha : Laid w R t) (ht : Thin (erase t)) (hk : t.kind = 1) (h0 : t.ps.length = 0) :
    Calls Try.prog 23 #[nodeAgg t] w fun e w' => e = .returned (.bool true) ∧ Below w.heap.size w w' := by
  obtain ⟨sa, sc, hv, hrow⟩ := laid_row' ha
  have hsz := sz_eq t
  have hlen := len_sz t.ps
  have hn1 : (t.ps.length : Int) ≤ 1000000 := by omega
  have hn0 : (0 : Int) ≤ (t.ps.length : Int) := by omega
  have HP := Lib.hid (fun (i : Nat) (p : V) (hp : t.ps[i]? = some p) (W : World) (hW : Below w.heap.size w W) => by
    obtain ⟨_, _, _, _, _, L1⟩ := hrow i p hp
    have hpz := sz_mem (List.mem_of_getElem? hp)
    exact ih p W R (by omega) (laid_low L1 hW) (ht.part (by rw [erase_ps, erases_map]; exact List.mem_map_of_mem (List.mem_of_getElem? hp))))
  have HQ := Lib.hid (fun (i : Nat) (p : V) (hp : t.ps[i]? = some p) (W : World) (hW : Below w.heap.size w W) => by
    obtain ⟨_, _, _, _, _, L1⟩ := hrow i p hp
    have hpz := sz_mem (List.mem_of_getElem? hp)
    exact null_is (ht.part (by rw [erase_ps, erases_map]; exact List.mem_map_of_mem (List.mem_of_getElem? hp))) (laid_low L1 hW) (by omega))
  have HR := Lib.hid hrow
  have HT := Lib.hid (And.intro ht (And.intro hk h0))
  have HV := Lib.hid (fun (W : World) (hW : Below w.heap.size w W) => void_no ht (laid_low ha hW) (by omega))
  obtain ⟨sn, hsn⟩ : ∃ sn, sn = t.ps.length := ⟨_, rfl⟩
  rw [← hsn] at hv hn1 hn0
  obtain ⟨w2, hw2, hbw, hlt2, hbx⟩ := box_new w t (.slice sa sn sc)
  have HBX := Lib.hid hbx
  have HBW := Lib.hid hbw
  have HS := Lib.hid hsn
  obtain ⟨x0, x1, x2, x3, x4, x5, x6, x7⟩ := hbx w2 (Below.refl _ _)
  rw [nodeAgg_v hv] at HV ⊢
  rw [hk] at x0 HV hw2 ⊢
  clear hrow hsz hlen hbx hbw hlt2 ha ht ih hv hsn hz hk
  go_enter Try.func23, Try.ntmps23
  go_upto_region 1 with fail
  clear hw2
  go_wp2_with fail
  go_at_call 17
  refine (HV.out _ HBW.out).mono ?_
  rintro e w3 ⟨rfl, hb3⟩
  have HB3 := Lib.hid hb3
  clear hb3 x0 x1 x2 x3 x4 x5 x6 x7
  go_wp2_with fail
  go_loopw [3] (fun x wr => ∃ i : Nat, x = .int .i64 i ∧ i ≤ sn ∧ Below w2.heap.size w2 wr) (fun x _ => match x with | .int _ z => sn - z.toNat | _ => 0)
  case atStart => exact ⟨0, rfl, by omega, HB3.out⟩
  case round =>
    obtain ⟨i, rfl, hi, hb⟩ := hrel
    obtain ⟨x0, x1, x2, x3, x4, x5, x6, x7⟩ := HBX.out wr hb
    rw [HT.out.2.1] at x0
    by_cases hlt : i < sn
    · have g1 : (i : Int) < (sn : Int) := by omega
      have g0 : (0 : Int) ≤ (i : Int) := by omega
      obtain ⟨p, hp⟩ : ∃ p, t.ps[i]? = some p := ⟨_, List.getElem?_eq_getElem (by have := HS.out; omega)⟩
      have hmem : erase p ∈ (erase t).ps := by rw [erase_ps, erases_map]; exact List.mem_map_of_mem (List.mem_of_getElem? hp)
      obtain ⟨b1, o1, rfl, hlt1, cc1, L1⟩ := HR.out i p hp
      obtain ⟨pa, pc, hpv, _⟩ := laid_row' L1
      obtain ⟨pn, hpn⟩ : ∃ pn, pn = p.ps.length := ⟨_, rfl⟩
      rw [← hpn] at hpv
      have hbww : Below w.heap.size w wr := HBW.out.trans (hb.mono HBW.out.size)
      obtain ⟨y0, y1, y2, y3, y4, y5, y6, y7⟩ := node_cells cc1 hlt1 hbww
      rw [hpv] at y5
      obtain ⟨w5, hw5, hb5, hlt5, hbx5⟩ := box_new wr p (.slice pa pn pc)
      have HX5 := Lib.hid hbx5
      have HB5 := Lib.hid (And.intro (bhop hb hb5) (bhop hbww hb5))
      have HC := Lib.hid (fun (W : World) (hW : Below w5.heap.size w5 W) => by
        have := HP.out i p hp W (bhop (bhop hbww hb5) hW)
        rw [nodeAgg_v hpv] at this
        exact this)
      have HCN := Lib.hid (fun (W : World) (hW : Below w5.heap.size w5 W) => by
        have := HQ.out i p hp W (bhop (bhop hbww hb5) hW)
        rw [nodeAgg_v hpv] at this
        exact this)
      have := HT.out.2.2
      rw [List.getElem?_eq_none (by omega)] at hp
      cases hp
    · have HB := Lib.hid hb
      clear hb hi
      go_wp2_with fail
      go_ret
      exact ⟨rfl, bhop HBW.out HB.out⟩

set_option maxHeartbeats 4000000 in
set_option maxRecDepth 100000 in
theorem thin_4a (N : Nat) (ih : ThinIH N) (hN : N ≤ 90000) (t : V) (w : World) (R : Nat → Prop) (hz : szT (erase t) ≤ N + 1) (ha : Laid w R t) (ht : Thin (erase t)) (hk : t.kind = 4) (h1 : t.lo = 1) :
    Calls Try.prog 23 #[nodeAgg t] w fun e w' => e = .returned (.bool true) ∧ Below w.heap.size w w' := by
  obtain ⟨sa, sc, hv, hrow⟩ := laid_row' ha
  have hsz := sz_eq t
  have hlen := len_sz t.ps
  have hn1 : (t.ps.length : Int) ≤ 1000000 := by omega
  have hn0 : (0 : Int) ≤ (t.ps.length : Int) := by omega
  have HP := Lib.hid (fun (i : Nat) (p : V) (hp : t.ps[i]? = some p) (W : World) (hW : Below w.heap.size w W) => by
    obtain ⟨_, _, _, _, _, L1⟩ := hrow i p hp
    have hpz := sz_mem (List.mem_of_getElem? hp)
    exact ih p W R (by omega) (laid_low L1 hW) (ht.part (by rw [erase_ps, erases_map]; exact List.mem_map_of_mem (List.mem_of_getElem? hp))))
  have HQ := Lib.hid (fun (i : Nat) (p : V) (hp : t.ps[i]? = some p) (W : World) (hW : Below w.heap.size w W) => by
    obtain ⟨_, _, _, _, _, L1⟩ := hrow i p hp
    have hpz := sz_mem (List.mem_of_getElem? hp)
    exact null_is (ht.part (by rw [erase_ps, erases_map]; exact List.mem_map_of_mem (List.mem_of_getElem? hp))) (laid_low L1 hW) (by omega))
  have HR := Lib.hid hrow
  have HT := Lib.hid (And.intro ht (And.intro hk h1))
  have HV := Lib.hid (fun (W : World) (hW : Below w.heap.size w W) => void_no ht (laid_low ha hW) (by omega))
  obtain ⟨sn, hsn⟩ : ∃ sn, sn = t.ps.length := ⟨_, rfl⟩
  rw [← hsn] at hv hn1 hn0
  obtain ⟨w2, hw2, hbw, hlt2, hbx⟩ := box_new w t (.slice sa sn sc)
  have HBX := Lib.hid hbx
  have HBW := Lib.hid hbw
  have HS := Lib.hid hsn
  obtain ⟨x0, x1, x2, x3, x4, x5, x6, x7⟩ := hbx w2 (Below.refl _ _)
  rw [nodeAgg_v hv] at HV ⊢
  rw [hk] at x0 HV hw2 ⊢
  rw [h1] at x6 HV hw2 ⊢
  clear h1
  clear hrow hsz hlen hbx hbw hlt2 ha ht ih hv hsn hz hk
  go_enter Try.func23, Try.ntmps23
  go_upto_region 1 with fail
  clear hw2
  go_wp2_with fail
  go_at_call 17
  refine (HV.out _ HBW.out).mono ?_
  rintro e w3 ⟨rfl, hb3⟩
  have HB3 := Lib.hid hb3
  clear hb3 x0 x1 x2 x3 x4 x5 x6 x7
  go_wp2_with fail
  go_loopw [3] (fun x wr => ∃ i : Nat, x = .int .i64 i ∧ i ≤ sn ∧ Below w2.heap.size w2 wr) (fun x _ => match x with | .int _ z => sn - z.toNat | _ => 0)
  case atStart => exact ⟨0, rfl, by omega, HB3.out⟩
  case round =>
    obtain ⟨i, rfl, hi, hb⟩ := hrel
    obtain ⟨x0, x1, x2, x3, x4, x5, x6, x7⟩ := HBX.out wr hb
    rw [HT.out.2.1] at x0
    rw [HT.out.2.2] at x6
    by_cases hlt : i < sn
    · have g1 : (i : Int) < (sn : Int) := by omega
      have g0 : (0 : Int) ≤ (i : Int) := by omega
      obtain ⟨p, hp⟩ : ∃ p, t.ps[i]? = some p := ⟨_, List.getElem?_eq_getElem (by have := HS.out; omega)⟩
      have hmem : erase p ∈ (erase t).ps := by rw [erase_ps, erases_map]; exact List.mem_map_of_mem (List.mem_of_getElem? hp)
      obtain ⟨b1, o1, rfl, hlt1, cc1, L1⟩ := HR.out i p hp
      obtain ⟨pa, pc, hpv, _⟩ := laid_row' L1
      obtain ⟨pn, hpn⟩ : ∃ pn, pn = p.ps.length := ⟨_, rfl⟩
      rw [← hpn] at hpv
      have hbww : Below w.heap.size w wr := HBW.out.trans (hb.mono HBW.out.size)
      obtain ⟨y0, y1, y2, y3, y4, y5, y6, y7⟩ := node_cells cc1 hlt1 hbww
      rw [hpv] at y5
      obtain ⟨w5, hw5, hb5, hlt5, hbx5⟩ := box_new wr p (.slice pa pn pc)
      have HX5 := Lib.hid hbx5
      have HB5 := Lib.hid (And.intro (bhop hb hb5) (bhop hbww hb5))
      have HC := Lib.hid (fun (W : World) (hW : Below w5.heap.size w5 W) => by
        have := HP.out i p hp W (bhop (bhop hbww hb5) hW)
        rw [nodeAgg_v hpv] at this
        exact this)
      have HCN := Lib.hid (fun (W : World) (hW : Below w5.heap.size w5 W) => by
        have := HQ.out i p hp W (bhop (bhop hbww hb5) hW)
        rw [nodeAgg_v hpv] at this
        exact this)
      obtain ⟨k1, k2, k3, k4⟩ := HT.out.1.four (by rw [erase_kind]; exact HT.out.2.1) hmem
      rw [erase_kind] at k1
      rw [erase_lo] at k2 k4
      rw [erase_hi] at k3 k4
      have q1 : (p.kind == 0) = false := by simp [k1]
      have q3 : (t.hi == 0) = false := by simp [k3]
      have q4 : (t.hi == 1) = false := by have := HT.out.2.2; simp; intro e; exact k4 ⟨this, e⟩
      have HNU := Lib.hid (show nuT (erase p) = false from Bool.eq_false_iff.2 fun e => by have := k2 e; have := HT.out.2.2; omega)
      clear k1 k2 k3 k4
      have HI := Lib.hid hlt
      obtain ⟨z0, z1, z2, z3, z4, z5, z6, z7⟩ := hbx5 w5 (Below.refl _ _)
      obtain ⟨v0, v1, v2, v3, v4, v5, v6, v7⟩ := HBX.out w5 (bhop hb hb5)
      rw [HT.out.2.1] at v0
      rw [HT.out.2.2] at v6
      clear hmem cc1 hp hlt hbww hlt1 hi L1 hpv hb hb5 hbx5 hpn
      go_upto_region 7 with fail
      clear hw5 x0 x1 x2 x3 x4 x5 x6 x7 y0 y1 y2 y3 y4 y5 y6 y7
      go_wp2_with fail
      go_at_call 18
      refine (HCN.out _ (Below.refl _ _)).mono ?_
      rintro e w55 ⟨rfl, hb55⟩
      rw [HNU.out]
      have HB55 := Lib.hid hb55
      clear hb55 z0 z1 z2 z3 z4 z5 z6 z7
      obtain ⟨z0, z1, z2, z3, z4, z5, z6, z7⟩ := HX5.out w55 HB55.out
      go_wp2_with fail
      go_at_call 23
      refine (HC.out _ HB55.out).mono ?_
      rintro e w6 ⟨rfl, hb6⟩
      have HB6 := Lib.hid (bhop (HB55.out) hb6)
      clear hb6
      go_wp2_with fail
      go_roundw
      case rel => exact ⟨i + 1, by push_cast; rfl, HI.out, bhop HB5.out.1 HB6.out⟩
      case measure => have := HI.out; simp; omega
    · have HB := Lib.hid hb
      clear hb hi
      go_wp2_with fail
      go_ret
      exact ⟨rfl, bhop HBW.out HB.out⟩

set_option maxHeartbeats 4000000 in
set_option maxRecDepth 100000 in
theorem thin_4b (N : Nat) (ih : ThinIH N) (hN : N ≤ 90000) (t : V) (w : World) (R : Nat → Prop) (hz : szT (erase t) ≤ N + 1) (ha : Laid w R t) (ht : Thin (erase t)) (hk : t.kind = 4) (h1 : t.lo ≠ 1) (h2 : 0 < t.lo) :
    Calls Try.prog 23 #[nodeAgg t] w fun e w' => e = .returned (.bool true) ∧ Below w.heap.size w w' := by
  obtain ⟨sa, sc, hv, hrow⟩ := laid_row' ha
  have hsz := sz_eq t
  have hlen := len_sz t.ps
  have hn1 : (t.ps.length : Int) ≤ 1000000 := by omega
  have hn0 : (0 : Int) ≤ (t.ps.length : Int) := by omega
  have HP := Lib.hid (fun (i : Nat) (p : V) (hp : t.ps[i]? = some p) (W : World) (hW : Below w.heap.size w W) => by
    obtain ⟨_, _, _, _, _, L1⟩ := hrow i p hp
    have hpz := sz_mem (List.mem_of_getElem? hp)
    exact ih p W R (by omega) (laid_low L1 hW) (ht.part (by rw [erase_ps, erases_map]; exact List.mem_map_of_mem (List.mem_of_getElem? hp))))
  have HQ := Lib.hid (fun (i : Nat) (p : V) (hp : t.ps[i]? = some p) (W : World) (hW : Below w.heap.size w W) => by
    obtain ⟨_, _, _, _, _, L1⟩ := hrow i p hp
    have hpz := sz_mem (List.mem_of_getElem? hp)
    exact null_is (ht.part (by rw [erase_ps, erases_map]; exact List.mem_map_of_mem (List.mem_of_getElem? hp))) (laid_low L1 hW) (by omega))
  have HR := Lib.hid hrow
  have HT := Lib.hid (And.intro ht (And.intro hk (And.intro h1 h2)))
  have HV := Lib.hid (fun (W : World) (hW : Below w.heap.size w W) => void_no ht (laid_low ha hW) (by omega))
  obtain ⟨sn, hsn⟩ : ∃ sn, sn = t.ps.length := ⟨_, rfl⟩
  rw [← hsn] at hv hn1 hn0
  obtain ⟨w2, hw2, hbw, hlt2, hbx⟩ := box_new w t (.slice sa sn sc)
  have HBX := Lib.hid hbx
  have HBW := Lib.hid hbw
  have HS := Lib.hid hsn
  obtain ⟨x0, x1, x2, x3, x4, x5, x6, x7⟩ := hbx w2 (Below.refl _ _)
  rw [nodeAgg_v hv] at HV ⊢
  rw [hk] at x0 HV hw2 ⊢
  have q5 : (t.lo == 1) = false := by simp [h1]
  clear h1
  clear hrow hsz hlen hbx hbw hlt2 ha ht ih hv hsn hz hk
  go_enter Try.func23, Try.ntmps23
  go_upto_region 1 with fail
  clear hw2
  go_wp2_with fail
  go_at_call 17
  refine (HV.out _ HBW.out).mono ?_
  rintro e w3 ⟨rfl, hb3⟩
  have HB3 := Lib.hid hb3
  clear hb3 x0 x1 x2 x3 x4 x5 x6 x7
  go_wp2_with fail
  go_loopw [3] (fun x wr => ∃ i : Nat, x = .int .i64 i ∧ i ≤ sn ∧ Below w2.heap.size w2 wr) (fun x _ => match x with | .int _ z => sn - z.toNat | _ => 0)
  case atStart => exact ⟨0, rfl, by omega, HB3.out⟩
  case round =>
    obtain ⟨i, rfl, hi, hb⟩ := hrel
    obtain ⟨x0, x1, x2, x3, x4, x5, x6, x7⟩ := HBX.out wr hb
    rw [HT.out.2.1] at x0
    by_cases hlt : i < sn
    · have g1 : (i : Int) < (sn : Int) := by omega
      have g0 : (0 : Int) ≤ (i : Int) := by omega
      obtain ⟨p, hp⟩ : ∃ p, t.ps[i]? = some p := ⟨_, List.getElem?_eq_getElem (by have := HS.out; omega)⟩
      have hmem : erase p ∈ (erase t).ps := by rw [erase_ps, erases_map]; exact List.mem_map_of_mem (List.mem_of_getElem? hp)
      obtain ⟨b1, o1, rfl, hlt1, cc1, L1⟩ := HR.out i p hp
      obtain ⟨pa, pc, hpv, _⟩ := laid_row' L1
      obtain ⟨pn, hpn⟩ : ∃ pn, pn = p.ps.length := ⟨_, rfl⟩
      rw [← hpn] at hpv
      have hbww : Below w.heap.size w wr := HBW.out.trans (hb.mono HBW.out.size)
      obtain ⟨y0, y1, y2, y3, y4, y5, y6, y7⟩ := node_cells cc1 hlt1 hbww
      rw [hpv] at y5
      obtain ⟨w5, hw5, hb5, hlt5, hbx5⟩ := box_new wr p (.slice pa pn pc)
      have HX5 := Lib.hid hbx5
      have HB5 := Lib.hid (And.intro (bhop hb hb5) (bhop hbww hb5))
      have HC := Lib.hid (fun (W : World) (hW : Below w5.heap.size w5 W) => by
        have := HP.out i p hp W (bhop (bhop hbww hb5) hW)
        rw [nodeAgg_v hpv] at this
        exact this)
      have HCN := Lib.hid (fun (W : World) (hW : Below w5.heap.size w5 W) => by
        have := HQ.out i p hp W (bhop (bhop hbww hb5) hW)
        rw [nodeAgg_v hpv] at this
        exact this)
      obtain ⟨k1, k2, k3, k4⟩ := HT.out.1.four (by rw [erase_kind]; exact HT.out.2.1) hmem
      rw [erase_kind] at k1
      rw [erase_lo] at k2 k4
      rw [erase_hi] at k3 k4
      have q1 : (p.kind == 0) = false := by simp [k1]
      have q3 : (t.hi == 0) = false := by simp [k3]
      have HNU := Lib.hid (show nuT (erase p) = false from Bool.eq_false_iff.2 fun e => by have := k2 e; have := HT.out.2.2; omega)
      clear k1 k2 k3 k4
      have HI := Lib.hid hlt
      obtain ⟨z0, z1, z2, z3, z4, z5, z6, z7⟩ := hbx5 w5 (Below.refl _ _)
      obtain ⟨v0, v1, v2, v3, v4, v5, v6, v7⟩ := HBX.out w5 (bhop hb hb5)
      rw [HT.out.2.1] at v0
      clear hmem cc1 hp hlt hbww hlt1 hi L1 hpv hb hb5 hbx5 hpn
      go_upto_region 7 with fail
      clear hw5 x0 x1 x2 x3 x4 x5 x6 x7 y0 y1 y2 y3 y4 y5 y6 y7
      go_wp2_with fail
      go_at_call 18
      refine (HCN.out _ (Below.refl _ _)).mono ?_
      rintro e w55 ⟨rfl, hb55⟩
      rw [HNU.out]
      have HB55 := Lib.hid hb55
      clear hb55 z0 z1 z2 z3 z4 z5 z6 z7
      obtain ⟨z0, z1, z2, z3, z4, z5, z6, z7⟩ := HX5.out w55 HB55.out
      go_wp2_with fail
      go_at_call 23
      refine (HC.out _ HB55.out).mono ?_
      rintro e w6 ⟨rfl, hb6⟩
      have HB6 := Lib.hid (bhop (HB55.out) hb6)
      clear hb6
      go_wp2_with fail
      go_roundw
      case rel => exact ⟨i + 1, by push_cast; rfl, HI.out, bhop HB5.out.1 HB6.out⟩
      case measure => have := HI.out; simp; omega
    · have HB := Lib.hid hb
      clear hb hi
      go_wp2_with fail
      go_ret
      exact ⟨rfl, bhop HBW.out HB.out⟩

set_option maxHeartbeats 4000000 in
set_option maxRecDepth 100000 in
theorem thin_4c (N : Nat) (ih : ThinIH N) (hN : N ≤ 90000) (t : V) (w : World) (R : Nat → Prop) (hz : szT (erase t) ≤ N + 1) (ha : Laid w R t) (ht : Thin (erase t)) (hk : t.kind = 4) (h1 : t.lo ≠ 1) (h2 : ¬ 0 < t.lo) :
    Calls Try.prog 23 #[nodeAgg t] w fun e w' => e = .returned (.bool true) ∧ Below w.heap.size w w' := by
  obtain ⟨sa, sc, hv, hrow⟩ := laid_row' ha
  have hsz := sz_eq t
  have hlen := len_sz t.ps
  have hn1 : (t.ps.length : Int) ≤ 1000000 := by omega
  have hn0 : (0 : Int) ≤ (t.ps.length : Int) := by omega
  have HP := Lib.hid (fun (i : Nat) (p : V) (hp : t.ps[i]? = some p) (W : World) (hW : Below w.heap.size w W) => by
    obtain ⟨_, _, _, _, _, L1⟩ := hrow i p hp
    have hpz := sz_mem (List.mem_of_getElem? hp)
    exact ih p W R (by omega) (laid_low L1 hW) (ht.part (by rw [erase_ps, erases_map]; exact List.mem_map_of_mem (List.mem_of_getElem? hp))))
  have HQ := Lib.hid (fun (i : Nat) (p : V) (hp : t.ps[i]? = some p) (W : World) (hW : Below w.heap.size w W) => by
    obtain ⟨_, _, _, _, _, L1⟩ := hrow i p hp
    have hpz := sz_mem (List.mem_of_getElem? hp)
    exact null_is (ht.part (by rw [erase_ps, erases_map]; exact List.mem_map_of_mem (List.mem_of_getElem? hp))) (laid_low L1 hW) (by omega))
  have HR := Lib.hid hrow
  have HT := Lib.hid (And.intro ht (And.intro hk (And.intro h1 h2)))
  have HV := Lib.hid (fun (W : World) (hW : Below w.heap.size w W) => void_no ht (laid_low ha hW) (by omega))
  obtain ⟨sn, hsn⟩ : ∃ sn, sn = t.ps.length := ⟨_, rfl⟩
  rw [← hsn] at hv hn1 hn0
  obtain ⟨w2, hw2, hbw, hlt2, hbx⟩ := box_new w t (.slice sa sn sc)
  have HBX := Lib.hid hbx
  have HBW := Lib.hid hbw
  have HS := Lib.hid hsn
  obtain ⟨x0, x1, x2, x3, x4, x5, x6, x7⟩ := hbx w2 (Below.refl _ _)
  rw [nodeAgg_v hv] at HV ⊢
  rw [hk] at x0 HV hw2 ⊢
  have q5 : (t.lo == 1) = false := by simp [h1]
  clear h1
  clear hrow hsz hlen hbx hbw hlt2 ha ht ih hv hsn hz hk
  go_enter Try.func23, Try.ntmps23
  go_upto_region 1 with fail
  clear hw2
  go_wp2_with fail
  go_at_call 17
  refine (HV.out _ HBW.out).mono ?_
  rintro e w3 ⟨rfl, hb3⟩
  have HB3 := Lib.hid hb3
  clear hb3 x0 x1 x2 x3 x4 x5 x6 x7
  go_wp2_with fail
  go_loopw [3] (fun x wr => ∃ i : Nat, x = .int .i64 i ∧ i ≤ sn ∧ Below w2.heap.size w2 wr) (fun x _ => match x with | .int _ z => sn - z.toNat | _ => 0)
  case atStart => exact ⟨0, rfl, by omega, HB3.out⟩
  case round =>
    obtain ⟨i, rfl, hi, hb⟩ := hrel
    obtain ⟨x0, x1, x2, x3, x4, x5, x6, x7⟩ := HBX.out wr hb
    rw [HT.out.2.1] at x0
    by_cases hlt : i < sn
    · have g1 : (i : Int) < (sn : Int) := by omega
      have g0 : (0 : Int) ≤ (i : Int) := by omega
      obtain ⟨p, hp⟩ : ∃ p, t.ps[i]? = some p := ⟨_, List.getElem?_eq_getElem (by have := HS.out; omega)⟩
      have hmem : erase p ∈ (erase t).ps := by rw [erase_ps, erases_map]; exact List.mem_map_of_mem (List.mem_of_getElem? hp)
      obtain ⟨b1, o1, rfl, hlt1, cc1, L1⟩ := HR.out i p hp
      obtain ⟨pa, pc, hpv, _⟩ := laid_row' L1
      obtain ⟨pn, hpn⟩ : ∃ pn, pn = p.ps.length := ⟨_, rfl⟩
      rw [← hpn] at hpv
      have hbww : Below w.heap.size w wr := HBW.out.trans (hb.mono HBW.out.size)
      obtain ⟨y0, y1, y2, y3, y4, y5, y6, y7⟩ := node_cells cc1 hlt1 hbww
      rw [hpv] at y5
      obtain ⟨w5, hw5, hb5, hlt5, hbx5⟩ := box_new wr p (.slice pa pn pc)
      have HX5 := Lib.hid hbx5
      have HB5 := Lib.hid (And.intro (bhop hb hb5) (bhop hbww hb5))
      have HC := Lib.hid (fun (W : World) (hW : Below w5.heap.size w5 W) => by
        have := HP.out i p hp W (bhop (bhop hbww hb5) hW)
        rw [nodeAgg_v hpv] at this
        exact this)
      have HCN := Lib.hid (fun (W : World) (hW : Below w5.heap.size w5 W) => by
        have := HQ.out i p hp W (bhop (bhop hbww hb5) hW)
        rw [nodeAgg_v hpv] at this
        exact this)
      obtain ⟨k1, k2, k3, k4⟩ := HT.out.1.four (by rw [erase_kind]; exact HT.out.2.1) hmem
      rw [erase_kind] at k1
      rw [erase_lo] at k2 k4
      rw [erase_hi] at k3 k4
      have q1 : (p.kind == 0) = false := by simp [k1]
      have q3 : (t.hi == 0) = false := by simp [k3]
      clear k1 k2 k3 k4
      have HI := Lib.hid hlt
      obtain ⟨z0, z1, z2, z3, z4, z5, z6, z7⟩ := hbx5 w5 (Below.refl _ _)
      obtain ⟨v0, v1, v2, v3, v4, v5, v6, v7⟩ := HBX.out w5 (bhop hb hb5)
      rw [HT.out.2.1] at v0
      clear hmem cc1 hp hlt hbww hlt1 hi L1 hpv hb hb5 hbx5 hpn
      go_upto_region 7 with fail
      clear hw5 x0 x1 x2 x3 x4 x5 x6 x7 y0 y1 y2 y3 y4 y5 y6 y7
      go_wp2_with fail
      go_at_call 23
      refine (HC.out _ (Below.refl _ _)).mono ?_
      rintro e w6 ⟨rfl, hb6⟩
      have HB6 := Lib.hid (bhop ((Below.refl _ _)) hb6)
      clear hb6
      go_wp2_with fail
      go_roundw
      case rel => exact ⟨i + 1, by push_cast; rfl, HI.out, bhop HB5.out.1 HB6.out⟩
      case measure => have := HI.out; simp; omega
    · have HB := Lib.hid hb
      clear hb hi
      go_wp2_with fail
      go_ret
      exact ⟨rfl, bhop HBW.out HB.out⟩

theorem thin_any (N : Nat) : N ≤ 90000 → ThinIH N := by
  induction N with
  | zero => intro _ t w R h; rw [sz_eq] at h; omega
  | succ N ih =>
    intro hN t w R hz ha ht
    have hn := ih (by omega)
    rcases (show okF t from ht.ws.ok).kinds with hk | hk | hk | hk | hk
    · exact thin_0 N hn (by omega) t w R hz ha ht hk (leaf_len ht (.inl hk))
    · exact thin_1 N hn (by omega) t w R hz ha ht hk (leaf_len ht (.inr hk))
    · exact thin_2 N hn (by omega) t w R hz ha ht hk
    · exact thin_3 N hn (by omega) t w R hz ha ht hk
    · by_cases h1 : t.lo = 1
      · exact thin_4a N hn (by omega) t w R hz ha ht hk h1
      · by_cases h2 : 0 < t.lo
        · exact thin_4b N hn (by omega) t w R hz ha ht hk h1 h2
        · exact thin_4c N hn (by omega) t w R hz ha ht hk h1 h2

end Go.Proofs.Yteaejdkmgicdhaa
