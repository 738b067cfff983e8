/- The walk of the statement SpanTimes: called with a tree, a word and two numbers it returns true and changes nothing that was there.
   Conditions: the tree, the word and the library's table lie in memory. -/
import Derived.Test.YtdjddmkmcdfmiaaDoorSpTR

namespace Go.Proofs.YtdjddmkmcdfmiaaDoor
open Go.RowKit Go.Shelf
attribute [local go_sem] nodeAgg

theorem cells2N {w : World} {b : Nat} {a0 a1 : Value} {e : TypeId} (h : w.heap[b]? = some (.cells #[a0, a1] e (0, 0))) : w.cell? ⟨b, 0, none⟩ = some a0 ∧ w.cell? ⟨b, 1, none⟩ = some a1 := ⟨((row_cells h).1 0).trans rfl, ((row_cells h).1 1).trans rfl⟩
theorem lgB_rep {t : T} (a b : Nat) (wd : List Nat) : lgB (rpT t ((a : Int) + (b : Int)) ((a : Int) + (b : Int))) wd = lgB (twT 2 (rpT t a a) (rpT t b b)) wd := by
  have e : ∀ (n : Nat) (v : List Nat), Lg (rpT t n n) v ↔ PowL (Lg t) n v := fun n v => by
    rw [rp_lg]
    constructor
    · rintro ⟨m, h1, h2, h3⟩
      rw [show n = m by omega]; exact h3
    · exact fun h => ⟨n, by omega, by omega, h⟩
  rw [Bool.eq_iff_iff, lgB_iff, lgB_iff, lg_two rfl, lgc_cons, show ((a : Int) + (b : Int)) = ((a + b : Nat) : Int) by omega, e, pow_add]
  constructor
  · rintro ⟨x, y, rfl, h1, h2⟩
    exact ⟨x, y, rfl, (e a x).2 h1, (lgc_one _ _).2 ((e b y).2 h2)⟩
  · rintro ⟨x, y, rfl, h1, h2⟩
    exact ⟨x, y, rfl, (e a x).1 h1, (e b y).1 ((lgc_one _ _).1 h2)⟩
set_option maxHeartbeats 8000000 in
set_option maxRecDepth 100000 in
theorem times11_walk (t : V) (wd : List Nat) (capw : Nat) (A : Option Addr) (z0 z1 : Nat) (h0 : z0 < 4294967296) (h1 : z1 < 4294967296) (w : World) (R : Nat → Prop) (ht : Laid w R t) (hC : ClN (erase t)) (hW : WrdA w A wd) (hT : TabW w) :
    Calls Tryd.prog 5 #[nodeAgg t, .slice A wd.length capw, .agg #[.int .u32 (z0 : Nat), .int .u32 (z1 : Nat)]] w fun e w' => e = .returned (.bool true) ∧ Below w.heap.size w w' := by
  obtain ⟨sa, sc, hv0, _⟩ := laid_row' ht
  obtain ⟨sn, hsn⟩ : ∃ sn, sn = t.ps.length := ⟨_, rfl⟩
  rw [← hsn] at hv0
  obtain ⟨w2, hw2, hbw, hlt2, hbx⟩ := box_new w t (.slice sa sn sc)
  have HBo := Lib.hid (fun (W : World) (h : Below w.heap.size w W) => by
    have := both_any t t W R R wd.length capw A (laid_low ht h) (laid_low ht h)
    rw [nodeAgg_v hv0] at this
    exact this)
  have HIs := Lib.hid (fun (W : World) (h : Below w.heap.size w W) (z : Int) (pb : Nat) (a0 : W.heap[pb]? = some (.cells #[.int .i64 t.kind, .int .u64 (t.set 0 : Nat), .int .u64 (t.set 1 : Nat), .int .u64 (t.set 2 : Nat), .int .u64 (t.set 3 : Nat), .slice sa sn sc, .int .i64 t.lo, .int .i64 t.hi] 27 (0, 0))) (hb : bnd z z = true) (hz : szT (erase t) ≤ 40) (hok : okT (erase t) = true) (hn : wd.length ≤ 200) => by
    have := is11_any (rpV t z z pb) W _ wd wd.length capw A (rp_laid hv0 (laid_low ht h) a0) (by rw [rp_er]; exact rp_ok hok hb) (by rw [rp_er, rp_sz]; omega) (by rw [rp_er]; exact rp_cl z z hC) (hW.below h) rfl hn (hT.below h)
    rw [rp_er] at this
    exact this)
  have HIt := Lib.hid (fun (W : World) (h : Below w.heap.size w W) (x y : Int) (p q pb : Nat) (a0 : W.heap[p]? = some (.cells #[.int .i64 t.kind, .int .u64 (t.set 0 : Nat), .int .u64 (t.set 1 : Nat), .int .u64 (t.set 2 : Nat), .int .u64 (t.set 3 : Nat), .slice sa sn sc, .int .i64 t.lo, .int .i64 t.hi] 27 (0, 0))) (a1 : W.heap[q]? = some (.cells #[.int .i64 t.kind, .int .u64 (t.set 0 : Nat), .int .u64 (t.set 1 : Nat), .int .u64 (t.set 2 : Nat), .int .u64 (t.set 3 : Nat), .slice sa sn sc, .int .i64 t.lo, .int .i64 t.hi] 27 (0, 0)))
      (a2 : W.heap[pb]? = some (.cells #[.int .i64 4, .int .u64 0, .int .u64 0, .int .u64 0, .int .u64 0, .slice (some ⟨p, 0, none⟩) 1 1, .int .i64 x, .int .i64 x, .int .i64 4, .int .u64 0, .int .u64 0, .int .u64 0, .int .u64 0, .slice (some ⟨q, 0, none⟩) 1 1, .int .i64 y, .int .i64 y] 27 (0, 0)))
      (hb : bnd x x = true) (hb2 : bnd y y = true) (hz : szT (erase t) ≤ 40) (hok : okT (erase t) = true) (hn : wd.length ≤ 200) => by
    have := is11_any (twV 2 (rpV t x x p) (rpV t y y q) pb) W _ wd wd.length capw A (tw_laid rfl rfl (rp_laid hv0 (laid_low ht h) a0) (rp_laid hv0 (laid_low ht h) a1) a2) (by rw [tw_er, rp_er, rp_er]; exact tw_ok (.inl rfl) (rp_ok hok hb) (rp_ok hok hb2)) (by rw [tw_er, rp_er, rp_er, tw_sz, rp_sz, rp_sz]; omega) (by rw [tw_er, rp_er, rp_er]; exact tw_cl 2 (rp_cl x x hC) (rp_cl y y hC)) (hW.below h) rfl hn (hT.below h)
    rw [tw_er, rp_er, rp_er] at this
    exact this)
  have HAw := Lib.hid (fun (W : World) (h : Below w.heap.size w W) => awake11_any W (hT.below h))
  have HBX := Lib.hid hbx
  obtain ⟨w2', hw2', hb2'⟩ : ∃ w2', w2.alloc (.cells #[.int .u32 (z0 : Nat), .int .u32 (z1 : Nat)] 33) = w2' ∧ Below w2.heap.size w2 w2' := ⟨_, rfl, (Below.refl _ _).alloc (Nat.le_refl _) _⟩
  have hz2 : w2'.heap[w2.heap.size]? = some (.cells #[.int .u32 (z0 : Nat), .int .u32 (z1 : Nat)] 33 (0, 0)) := by rw [← hw2']; exact heap_alloc_new w2 _
  have HBW := Lib.hid (And.intro (bhop hbw hb2') (And.intro hb2' hz2))
  obtain ⟨x0, x1, x2, x3, x4, x5, x6, x7⟩ := hbx w2' hb2'
  rw [nodeAgg_v hv0]
  clear hbx ht hv0 hsn hC hW hT hb2' hz2
  go_enter Tryd.func5, Tryd.ntmps5
  go_wp2_with fail
  clear hw2 hw2' hbw
  go_at_call 9
  refine (HAw.out _ HBW.out.1).mono ?_
  rintro e w3 ⟨rfl, hb3⟩
  have HB3 := Lib.hid hb3
  clear hb3 x0 x1 x2 x3 x4 x5 x6 x7
  obtain ⟨x0, x1, x2, x3, x4, x5, x6, x7⟩ := HBX.out w3 (bhop HBW.out.2.1 HB3.out)
  by_cases hln : wd.length ≤ 12
  · have g12 : ¬ (12 : Int) < ((wd.length : Nat) : Int) := by omega
    go_wp2_with fail
    go_at_call 10
    refine (HBo.out _ (bhop HBW.out.1 HB3.out)).mono ?_
    rintro e w5 ⟨rfl, hb5⟩
    have HB5 := Lib.hid (bhop HB3.out hb5)
    clear hb5 x0 x1 x2 x3 x4 x5 x6 x7
    obtain ⟨bb, hbb⟩ : ∃ bb, bb = bothB (erase t) (erase t) wd.length := ⟨_, rfl⟩
    rw [← hbb]
    have HBb := Lib.hid hbb
    clear hbb
    cases bb with
    | false =>
      go_wp2_with fail
      go_at_call 9
      refine (HAw.out _ (bhop HBW.out.1 HB5.out)).mono ?_
      rintro e w6 ⟨rfl, hb6⟩
      have HB6 := Lib.hid (bhop HB5.out hb6)
      go_wp2_with fail
      go_ret
      exact ⟨rfl, bhop HBW.out.1 HB6.out⟩
    | true =>
      have hal := of_decide_eq_true HBb.out.symm
      obtain ⟨u0, u1⟩ := cells2N ((HB5.out.block _ (Array.getElem?_eq_some_iff.1 HBW.out.2.2).1).trans HBW.out.2.2)
      obtain ⟨za, hza, hza2⟩ : ∃ za : Nat, IntKind.i64.wrap ((z0 : Int).tmod 1000000000) = (za : Int) ∧ za < 1000000000 := ⟨z0 % 1000000000, by rw [Int.tmod_eq_emod_of_nonneg (by omega), IntKind.wrap_i64]; omega, by omega⟩
      obtain ⟨zb, hzb, hzb2⟩ : ∃ zb : Nat, IntKind.i64.wrap ((z1 : Int).tmod 1000000000) = (zb : Int) ∧ zb < 1000000000 := ⟨z1 % 1000000000, by rw [Int.tmod_eq_emod_of_nonneg (by omega), IntKind.wrap_i64]; omega, by omega⟩
      go_upto_region 3 with fail
      go_region_law (fail)
      all_goals
        go_upto_region 4 with fail
        have hbd : Below w5.heap.size w5 w5.drew := (Below.refl _ w5).drew
        generalize w5.drew = w6 at *
        have HB6 := Lib.hid (bhop HB5.out hbd)
        clear hbd u0 u1
        obtain ⟨x0, x1, x2, x3, x4, x5, x6, x7⟩ := HBX.out w6 (bhop HBW.out.2.1 HB6.out)
        go_wp2_with fail
        go_at_call 12
        refine (often_any t _ sa sn sc rfl (za : Int) w6).mono ?_
        rintro e w7 ⟨y, rfl, ⟨p1, rfl, hp1⟩, hb7⟩
        obtain ⟨w8, hw8⟩ : ∃ w8, w7.alloc (.cells #[.int .i64 4, .int .u64 0, .int .u64 0, .int .u64 0, .int .u64 0, .slice (some ⟨p1, 0, none⟩) 1 1, .int .i64 (za : Nat), .int .i64 (za : Nat)] 27) = w8 := ⟨_, rfl⟩
        have hb8 : Below w7.heap.size w7 w8 := hw8 ▸ (Below.refl _ w7).alloc (Nat.le_refl _) _
        have hq8 : w8.heap[w7.heap.size]? = some (.cells #[.int .i64 4, .int .u64 0, .int .u64 0, .int .u64 0, .int .u64 0, .slice (some ⟨p1, 0, none⟩) 1 1, .int .i64 (za : Nat), .int .i64 (za : Nat)] 27 (0, 0)) := by rw [← hw8]; exact heap_alloc_new w7 _
        have hp8 : w8.heap[p1]? = _ := (hb8.block p1 (Array.getElem?_eq_some_iff.1 hp1).1).trans hp1
        have HB8 := Lib.hid (bhop HB6.out (bhop hb7 hb8))
        have H8 := Lib.hid (And.intro hq8 hp8)
        clear hb7 hb8 hq8 hp8 hp1 x0 x1 x2 x3 x4 x5 x6 x7
        go_upto_region 5 with fail
        clear hw8
        obtain ⟨x0, x1, x2, x3, x4, x5, x6, x7⟩ := HBX.out w8 (bhop HBW.out.2.1 HB8.out)
        go_wp2_with fail
        go_at_call 12
        refine (often_any t _ sa sn sc rfl (zb : Int) w8).mono ?_
        rintro e w9 ⟨y, rfl, ⟨p2, rfl, hp2⟩, hb9⟩
        obtain ⟨w10, hw10⟩ : ∃ w10, w9.alloc (.cells #[.int .i64 4, .int .u64 0, .int .u64 0, .int .u64 0, .int .u64 0, .slice (some ⟨p2, 0, none⟩) 1 1, .int .i64 (zb : Nat), .int .i64 (zb : Nat)] 27) = w10 := ⟨_, rfl⟩
        have hb10 : Below w9.heap.size w9 w10 := hw10 ▸ (Below.refl _ w9).alloc (Nat.le_refl _) _
        have hq10 : w10.heap[w9.heap.size]? = some (.cells #[.int .i64 4, .int .u64 0, .int .u64 0, .int .u64 0, .int .u64 0, .slice (some ⟨p2, 0, none⟩) 1 1, .int .i64 (zb : Nat), .int .i64 (zb : Nat)] 27 (0, 0)) := by rw [← hw10]; exact heap_alloc_new w9 _
        have hp10 : w10.heap[p2]? = _ := (hb10.block p2 (Array.getElem?_eq_some_iff.1 hp2).1).trans hp2
        have h810 := bhop hb9 hb10
        have HB10 := Lib.hid (bhop HB8.out h810)
        have H10 := Lib.hid (And.intro hq10 (And.intro hp10 (And.intro ((h810.block _ (Array.getElem?_eq_some_iff.1 H8.out.1).1).trans H8.out.1) ((h810.block _ (Array.getElem?_eq_some_iff.1 H8.out.2).1).trans H8.out.2))))
        clear hb9 hb10 hq10 hp10 hp2 h810 x0 x1 x2 x3 x4 x5 x6 x7
        go_upto_region 6 with fail
        clear hw10
        obtain ⟨b0, hb0⟩ : ∃ b0, b0 = lgB (rpT (erase t) ((za : Int) + (zb : Int)) ((za : Int) + (zb : Int))) wd := ⟨_, rfl⟩
        have hwz : IntKind.i64.wrap ((za : Int) + (zb : Int)) = (za : Int) + (zb : Int) := by rw [IntKind.wrap_i64]; omega
        refine regTi 4 0 0 0 0 za za (some ⟨p1, 0, none⟩) 1 1 4 0 0 0 0 zb zb (some ⟨p2, 0, none⟩) 1 1 t.kind (t.set 0 : Nat) (t.set 1 : Nat) (t.set 2 : Nat) (t.set 3 : Nat) t.lo t.hi sa sn sc w7.heap.size w9.heap.size w.heap.size wd.length capw A za zb ((za : Int) + (zb : Int)) b0 _ _ _ _ _ _ _ _ _ _ _ _ _ _ _ _ _ _ _ _ _ _ _ _ _ _ _ _ _ _ _ _ _ _ _ _ _ _ _ _ _ _ _ _ _ _ _ _ _ w10
          (fun W h => cells8M ((h.block _ (Array.getElem?_eq_some_iff.1 H10.out.2.2.1).1).trans H10.out.2.2.1)) (fun W h => cells8M ((h.block _ (Array.getElem?_eq_some_iff.1 H10.out.1).1).trans H10.out.1)) (fun W h => HBX.out W (bhop HBW.out.2.1 (bhop HB10.out h))) hwz ?_ ?_ ?_ _ ?_
        · intro W h
          refine (often_any t _ sa sn sc rfl ((za : Int) + (zb : Int)) W).mono ?_
          rintro e W2 ⟨y, rfl, h1, h2⟩
          exact ⟨y, rfl, h1, h2⟩
        · rintro W u h ⟨pb, rfl, hpb⟩
          rw [hb0]
          exact HIs.out W (bhop HBW.out.1 (bhop HB10.out h)) _ pb hpb (decide_eq_true (by omega)) hal.1 hal.2.2.2.1 (by omega)
        · rintro W u h ⟨pb, rfl, hpb⟩
          rw [hb0, lgB_rep]
          exact HIt.out W (bhop HBW.out.1 (bhop HB10.out h)) za zb p1 p2 pb ((h.block _ (Array.getElem?_eq_some_iff.1 H10.out.2.2.2).1).trans H10.out.2.2.2) ((h.block _ (Array.getElem?_eq_some_iff.1 H10.out.2.1).1).trans H10.out.2.1) hpb (decide_eq_true (by omega)) (decide_eq_true (by omega)) hal.1 hal.2.2.2.1 (by omega)
        · intros
          rename_i W' hW'
          have HW := Lib.hid hW'
          clear hW'
          go_wp2_with fail
          go_ret
          exact ⟨rfl, bhop HBW.out.1 (bhop HB10.out HW.out)⟩
  · have g12 : (12 : Int) < ((wd.length : Nat) : Int) := by omega
    go_wp2_with fail
    go_at_call 10
    refine (HBo.out _ (bhop HBW.out.1 HB3.out)).mono ?_
    rintro e w5 ⟨rfl, hb5⟩
    have HB5 := Lib.hid (bhop HB3.out hb5)
    clear hb5 x0 x1 x2 x3 x4 x5 x6 x7
    obtain ⟨bb, hbb⟩ : ∃ bb, bb = bothB (erase t) (erase t) wd.length := ⟨_, rfl⟩
    rw [← hbb]
    clear hbb
    cases bb with
    | false =>
      go_wp2_with fail
      go_at_call 9
      refine (HAw.out _ (bhop HBW.out.1 HB5.out)).mono ?_
      rintro e w6 ⟨rfl, hb6⟩
      have HB6 := Lib.hid (bhop HB5.out hb6)
      go_wp2_with fail
      go_ret
      exact ⟨rfl, bhop HBW.out.1 HB6.out⟩
    | true =>
      go_wp2_with fail
      go_at_call 9
      refine (HAw.out _ (bhop HBW.out.1 HB5.out)).mono ?_
      rintro e w6 ⟨rfl, hb6⟩
      have HB6 := Lib.hid (bhop HB5.out hb6)
      go_wp2_with fail
      go_ret
      exact ⟨rfl, bhop HBW.out.1 HB6.out⟩

end Go.Proofs.YtdjddmkmcdfmiaaDoor
