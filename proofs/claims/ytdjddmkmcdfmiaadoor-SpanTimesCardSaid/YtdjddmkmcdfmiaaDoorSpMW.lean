/- The walk of the statement SpanMore: called with a tree, a word and four numbers it returns true and changes nothing that was there.
   Conditions: the tree, the word and the library's table lie in memory. -/
import Derived.Test.YtdjddmkmcdfmiaaDoorNN

namespace Go.Proofs.YtdjddmkmcdfmiaaDoor
open Go.RowKit Go.Shelf
attribute [local go_sem] nodeAgg

theorem cells8M {w : World} {b : Nat} {a0 a1 a2 a3 a4 a5 a6 a7 : Value} {e : TypeId} (h : w.heap[b]? = some (.cells #[a0, a1, a2, a3, a4, a5, a6, a7] e (0, 0))) : w.cell? ⟨b, 0, none⟩ = some a0 ∧ w.cell? ⟨b, 1, none⟩ = some a1 ∧ w.cell? ⟨b, 2, none⟩ = some a2 ∧ w.cell? ⟨b, 3, none⟩ = some a3 ∧ w.cell? ⟨b, 4, none⟩ = some a4 ∧ w.cell? ⟨b, 5, none⟩ = some a5 ∧ w.cell? ⟨b, 6, none⟩ = some a6 ∧ w.cell? ⟨b, 7, none⟩ = some a7 := by
  have q := (row_cells h).1
  exact ⟨q 0, q 1, q 2, q 3, q 4, q 5, q 6, q 7⟩
/-- A tree in a block of its own, repeated. -/
abbrev rpV (t : V) (lo hi : Int) (pb : Nat) : V := .node 4 zeros lo hi (.slice (some ⟨pb, 0, none⟩) 1 1) [t]
abbrev rpT (t : T) (lo hi : Int) : T := .node 4 zeros lo hi [t]
theorem rp_er (t : V) (lo hi : Int) (pb : Nat) : erase (rpV t lo hi pb) = rpT (erase t) lo hi := by
  show T.node 4 zeros lo hi (erases _) = _
  rw [erases, erases]
theorem rp_ok {t : T} {lo hi : Int} (ht : okT t = true) (h : bnd lo hi = true) : okT (rpT t lo hi) = true := by
  have h2 : okA 4 (z4 zeros) lo hi 1 = true := by
    unfold okA
    exact decide_eq_true (.inr (.inr (.inr ⟨rfl, by decide, rfl, h⟩)))
  rw [okT, oksT, oksT, ht]
  rw [show okA 4 (z4 zeros) lo hi [t].length = true from h2]
  rfl
theorem rp_cl {t : T} (lo hi : Int) (h : ClN t) : ClN (rpT t lo hi) := by
  unfold ClN ClNs
  unfold ClNs
  exact ⟨clN_zero, h, trivial⟩
theorem rp_sz (t : T) (lo hi : Int) : szT (rpT t lo hi) = szT t + 1 := by
  show szT (.node 4 zeros lo hi [t]) = _
  simp [szT, szsT]
theorem rp_laid {W : World} {R : Nat → Prop} {t : V} {lo hi : Int} {pb : Nat} {v : Value} (hv : t.v = v) (ht : Laid W R t) (a0 : W.heap[pb]? = some (.cells #[.int .i64 t.kind, .int .u64 (t.set 0 : Nat), .int .u64 (t.set 1 : Nat), .int .u64 (t.set 2 : Nat), .int .u64 (t.set 3 : Nat), v, .int .i64 t.lo, .int .i64 t.hi] 27 (0, 0))) : Laid W (fun _ => True) (rpV t lo hi pb) := by
  refine .some 4 zeros lo hi [t] pb 0 1 trivial (Array.getElem?_eq_some_iff.1 a0).1 (Nat.le_refl _) (fun j x hx k u hu => ?_) (fun x hx => by rw [List.mem_singleton.1 hx]; exact ht.mono fun _ _ _ => trivial)
  cases j with
  | zero =>
    rw [← Option.some.inj hx] at hu
    rw [show 0 + 0 * 8 + k = k by omega, (row_cells a0).1, List.getElem?_toArray]
    unfold ndc at hu
    rw [hv] at hu
    exact hu
  | succ j => simp at hx
theorem rp_lg (t : T) (lo hi : Int) (wd : List Nat) : Lg (rpT t lo hi) wd ↔ ∃ n : Nat, lo ≤ (n : Int) ∧ (hi < 0 ∨ (n : Int) ≤ hi) ∧ PowL (Lg t) n wd := by
  rw [lg_four (by decide) (by decide) (by decide) (by decide)]
  have e : ∀ n, PowL (LgC [t]) n wd ↔ PowL (Lg t) n wd := fun n => pow_iff (fun v => lgc_one t v) n wd
  exact ⟨fun ⟨n, a, b, c⟩ => ⟨n, a, b, (e n).1 c⟩, fun ⟨n, a, b, c⟩ => ⟨n, a, b, (e n).2 c⟩⟩
theorem rp_more {t : T} {lo hi lo' hi' : Int} {wd : List Nat} (h1 : lo' ≤ lo) (h2 : hi' < 0 ∨ (0 ≤ hi ∧ hi ≤ hi')) (h : lgB (rpT t lo hi) wd = true) : lgB (rpT t lo' hi') wd = true := by
  rw [lgB_iff, rp_lg] at h ⊢
  obtain ⟨n, a, b, c⟩ := h
  exact ⟨n, by omega, by omega, c⟩
theorem two_new (w : World) (c0 c1 : Array Value) (e0 e1 : TypeId) : ∃ W, (w.alloc (.cells c0 e0)).alloc (.cells c1 e1) = W ∧ Below w.heap.size w W ∧ W.heap[w.heap.size]? = some (.cells c0 e0 (0, 0)) ∧ W.heap[w.heap.size + 1]? = some (.cells c1 e1 (0, 0)) ∧ W.heap.size = w.heap.size + 2 := by
  refine ⟨_, rfl, ((Below.refl _ _).alloc (Nat.le_refl _) _).alloc (by simp) _, (Below.heap_alloc _ _ _ (by simp)).trans (heap_alloc_new w _), ?_, by simp⟩
  have := heap_alloc_new (w.alloc (.cells c0 e0)) (.cells c1 e1)
  rw [World.size_alloc] at this
  exact this
set_option maxHeartbeats 8000000 in
set_option maxRecDepth 100000 in
theorem more11_walk (t : V) (wd : List Nat) (capw : Nat) (A : Option Addr) (z0 z1 z2 z3 : Nat) (h0 : z0 < 256) (h1 : z1 < 256) (h2 : z2 < 256) (h3 : z3 < 256) (w : World) (R : Nat → Prop) (ht : Laid w R t) (hC : ClN (erase t)) (hW : WrdA w A wd) (hT : TabW w) :
    Calls Tryd.prog 6 #[nodeAgg t, .slice A wd.length capw, .agg #[.int .u8 (z0 : Nat), .int .u8 (z1 : Nat), .int .u8 (z2 : Nat), .int .u8 (z3 : Nat)]] w fun e w' => e = .returned (.bool true) ∧ Below w.heap.size w w' := by
  obtain ⟨sa, sc, hv0, _⟩ := laid_row' ht
  obtain ⟨sn, hsn⟩ : ∃ sn, sn = t.ps.length := ⟨_, rfl⟩
  rw [← hsn] at hv0
  obtain ⟨w2, hw2, hbw, hlt2, hbx⟩ := box_new w t (.slice sa sn sc)
  have HBo := Lib.hid (fun (W : World) (h : Below w.heap.size w W) => by
    have := both_any t t W R R wd.length capw A (laid_low ht h) (laid_low ht h)
    rw [nodeAgg_v hv0] at this
    exact this)
  have HIs := Lib.hid (fun (W : World) (h : Below w.heap.size w W) (lo hi : Int) (pb : Nat) (a0 : W.heap[pb]? = some (.cells #[.int .i64 t.kind, .int .u64 (t.set 0 : Nat), .int .u64 (t.set 1 : Nat), .int .u64 (t.set 2 : Nat), .int .u64 (t.set 3 : Nat), .slice sa sn sc, .int .i64 t.lo, .int .i64 t.hi] 27 (0, 0))) (hb : bnd lo hi = true) (hz : szT (erase t) ≤ 40) (hok : okT (erase t) = true) (hn : wd.length ≤ 200) => by
    have := is11_any (rpV t lo hi pb) W _ wd wd.length capw A (rp_laid hv0 (laid_low ht h) a0) (by rw [rp_er]; exact rp_ok hok hb) (by rw [rp_er, rp_sz]; omega) (by rw [rp_er]; exact rp_cl lo hi hC) (hW.below h) rfl hn (hT.below h)
    rw [rp_er] at this
    exact this)
  have HAw := Lib.hid (fun (W : World) (h : Below w.heap.size w W) => awake11_any W (hT.below h))
  have HBX := Lib.hid hbx
  obtain ⟨w2', hw2', hb2'⟩ : ∃ w2', w2.alloc (.cells #[.int .u8 (z0 : Nat), .int .u8 (z1 : Nat), .int .u8 (z2 : Nat), .int .u8 (z3 : Nat)] 36) = w2' ∧ Below w2.heap.size w2 w2' := ⟨_, rfl, (Below.refl _ _).alloc (Nat.le_refl _) _⟩
  have hz2 : w2'.heap[w2.heap.size]? = some (.cells #[.int .u8 (z0 : Nat), .int .u8 (z1 : Nat), .int .u8 (z2 : Nat), .int .u8 (z3 : Nat)] 36 (0, 0)) := by rw [← hw2']; exact heap_alloc_new w2 _
  have HBW := Lib.hid (And.intro (bhop hbw hb2') (And.intro hb2' hz2))
  obtain ⟨x0, x1, x2, x3, x4, x5, x6, x7⟩ := hbx w2' hb2'
  rw [nodeAgg_v hv0]
  clear hbx ht hv0 hsn hC hW hT hb2' hz2
  go_enter Tryd.func6, Tryd.ntmps6
  go_wp2_with fail
  clear hw2 hw2' hbw
  go_at_call 9
  refine (HAw.out _ HBW.out.1).mono ?_
  rintro e w3 ⟨rfl, hb3⟩
  have HB3 := Lib.hid hb3
  clear hb3 x0 x1 x2 x3 x4 x5 x6 x7
  obtain ⟨x0, x1, x2, x3, x4, x5, x6, x7⟩ := HBX.out w3 (bhop HBW.out.2.1 HB3.out)
  go_wp2_with fail
  go_at_call 10
  refine (HBo.out _ (bhop HBW.out.1 HB3.out)).mono ?_
  rintro e w5 ⟨rfl, hb5⟩
  have HB5 := Lib.hid (bhop HB3.out hb5)
  clear hb5 x0 x1 x2 x3 x4 x5 x6 x7
  obtain ⟨x0, x1, x2, x3, x4, x5, x6, x7⟩ := HBX.out w5 (bhop HBW.out.2.1 HB5.out)
  obtain ⟨u0, u1, u2, u3⟩ := cells4' ((HB5.out.block _ (Array.getElem?_eq_some_iff.1 HBW.out.2.2).1).trans HBW.out.2.2)
  obtain ⟨bb, hbb⟩ : ∃ bb, bb = bothB (erase t) (erase t) wd.length := ⟨_, rfl⟩
  rw [← hbb]
  have HBb := Lib.hid hbb
  clear hbb
  cases bb with
  | false =>
    clear x0 x1 x2 x3 x4 x5 x6 x7
    go_wp2_with fail
    go_at_call 9
    refine (HAw.out _ (bhop HBW.out.1 HB5.out)).mono ?_
    rintro e w6 ⟨rfl, hb6⟩
    have HB6 := Lib.hid (bhop HB5.out hb6)
    go_wp2_with fail
    go_ret
    exact ⟨rfl, bhop HBW.out.1 HB6.out⟩
  | true =>
    have hal := of_decide_eq_true HBb.out.symm
    have hrow := (Array.getElem?_eq_some_iff.1 ((HB5.out.block _ (Array.getElem?_eq_some_iff.1 HBW.out.2.2).1).trans HBW.out.2.2)).1
    have hbox : w.heap.size < w5.heap.size := by have := HBW.out.2.1.size; have := HB5.out.size; omega
    clear x0 x1 x2 x3 x4 x5 x6 x7 u0 u1 u2 u3 hrow hbox
    have HB_w5 := Lib.hid (HB5.out)
    obtain ⟨x0, x1, x2, x3, x4, x5, x6, x7⟩ := HBX.out w5 (bhop HBW.out.2.1 HB_w5.out)
    have hur := (HB_w5.out.block _ (Array.getElem?_eq_some_iff.1 HBW.out.2.2).1).trans HBW.out.2.2
    obtain ⟨u0, u1, u2, u3⟩ := cells4' hur
    have hrow := (Array.getElem?_eq_some_iff.1 hur).1
    have hbox : w.heap.size < w5.heap.size := by have := HBW.out.2.1.size; have := HB_w5.out.size; omega
    clear hur
    by_cases c1 : z0 < z2
    · have c1' : ((z0 : Nat) : Int) < (z2 : Int) := by omega
      obtain ⟨w6, hw6, bw6, pw6, qw6, sw6⟩ := two_new w5 #[.int .i64 t.kind, .int .u64 (t.set 0 : Nat), .int .u64 (t.set 1 : Nat), .int .u64 (t.set 2 : Nat), .int .u64 (t.set 3 : Nat), .slice sa sn sc, .int .i64 t.lo, .int .i64 t.hi] #[.int .i64 4, .int .u64 0, .int .u64 0, .int .u64 0, .int .u64 0, .slice (some ⟨w5.heap.size, 0, none⟩) 1 1, .int .i64 (z0 : Nat), .int .i64 ((z0 : Int) + (z1 : Int))] 27 27
      have Qw6 := Lib.hid (And.intro bw6 (And.intro pw6 (And.intro qw6 sw6)))
      clear bw6 pw6 qw6 sw6
      go_upto_region 6 with fail
      clear hw6 x0 x1 x2 x3 x4 x5 x6 x7 u0 u1 u2 u3 hrow hbox
      have HB_w6 := Lib.hid (bhop HB5.out Qw6.out.1)
      obtain ⟨x0, x1, x2, x3, x4, x5, x6, x7⟩ := HBX.out w6 (bhop HBW.out.2.1 HB_w6.out)
      have hur := (HB_w6.out.block _ (Array.getElem?_eq_some_iff.1 HBW.out.2.2).1).trans HBW.out.2.2
      obtain ⟨u0, u1, u2, u3⟩ := cells4' hur
      have hrow := (Array.getElem?_eq_some_iff.1 hur).1
      have hbox : w.heap.size < w6.heap.size := by have := HBW.out.2.1.size; have := HB_w6.out.size; omega
      clear hur
      obtain ⟨w7, hw7, bw7, pw7, qw7, sw7⟩ := two_new w6 #[.int .i64 t.kind, .int .u64 (t.set 0 : Nat), .int .u64 (t.set 1 : Nat), .int .u64 (t.set 2 : Nat), .int .u64 (t.set 3 : Nat), .slice sa sn sc, .int .i64 t.lo, .int .i64 t.hi] #[.int .i64 4, .int .u64 0, .int .u64 0, .int .u64 0, .int .u64 0, .slice (some ⟨w6.heap.size, 0, none⟩) 1 1, .int .i64 (0), .int .i64 ((z0 : Int) + (z1 : Int) + (z3 : Int))] 27 27
      have Qw7 := Lib.hid (And.intro bw7 (And.intro pw7 (And.intro qw7 sw7)))
      clear bw7 pw7 qw7 sw7
      go_upto_region 7 with fail
      clear hw7 x0 x1 x2 x3 x4 x5 x6 x7 u0 u1 u2 u3 hrow hbox
      have HB_w7 := Lib.hid (bhop HB_w6.out Qw7.out.1)
      obtain ⟨x0, x1, x2, x3, x4, x5, x6, x7⟩ := HBX.out w7 (bhop HBW.out.2.1 HB_w7.out)
      have hur := (HB_w7.out.block _ (Array.getElem?_eq_some_iff.1 HBW.out.2.2).1).trans HBW.out.2.2
      obtain ⟨u0, u1, u2, u3⟩ := cells4' hur
      have hrow := (Array.getElem?_eq_some_iff.1 hur).1
      have hbox : w.heap.size < w7.heap.size := by have := HBW.out.2.1.size; have := HB_w7.out.size; omega
      clear hur
      obtain ⟨w8, hw8, bw8, pw8, qw8, sw8⟩ := two_new w7 #[.int .i64 t.kind, .int .u64 (t.set 0 : Nat), .int .u64 (t.set 1 : Nat), .int .u64 (t.set 2 : Nat), .int .u64 (t.set 3 : Nat), .slice sa sn sc, .int .i64 t.lo, .int .i64 t.hi] #[.int .i64 4, .int .u64 0, .int .u64 0, .int .u64 0, .int .u64 0, .slice (some ⟨w7.heap.size, 0, none⟩) 1 1, .int .i64 (z0 : Nat), .int .i64 (-1)] 27 27
      have Qw8 := Lib.hid (And.intro bw8 (And.intro pw8 (And.intro qw8 sw8)))
      clear bw8 pw8 qw8 sw8
      go_upto_region 8 with fail
      clear hw8 x0 x1 x2 x3 x4 x5 x6 x7 u0 u1 u2 u3 hrow hbox
      have s5 := HB5.out.size
      have a5 : w8.heap[w5.heap.size]? = _ := (Qw8.out.1.block _ (by have := Qw6.out.2.2.2; have := Qw7.out.2.2.2; omega)).trans ((Qw7.out.1.block _ (by have := Qw6.out.2.2.2; omega)).trans Qw6.out.2.1)
      have b5 : w8.heap[w5.heap.size + 1]? = _ := (Qw8.out.1.block _ (by have := Qw6.out.2.2.2; have := Qw7.out.2.2.2; omega)).trans ((Qw7.out.1.block _ (by have := Qw6.out.2.2.2; omega)).trans Qw6.out.2.2.1)
      have a6 : w8.heap[w6.heap.size]? = _ := (Qw8.out.1.block _ (by have := Qw7.out.2.2.2; omega)).trans Qw7.out.2.1
      have b6 : w8.heap[w6.heap.size + 1]? = _ := (Qw8.out.1.block _ (by have := Qw7.out.2.2.2; omega)).trans Qw7.out.2.2.1
      have HB8 := Lib.hid (bhop HBW.out.1 (bhop HB_w7.out Qw8.out.1))
      have HF := Lib.hid (And.intro a5 (And.intro b5 (And.intro a6 (And.intro b6 (And.intro Qw8.out.2.1 Qw8.out.2.2.1)))))
      clear s5 a5 b5 a6 b6
      obtain ⟨x0, x1, x2, x3, x4, x5, x6, x7⟩ := cells8M HF.out.2.1
      go_wp2_with fail
      go_at_call 11
      refine (HIs.out w8 HB8.out (z0 : Int) ((z0 : Int) + (z1 : Int)) w5.heap.size HF.out.1 (decide_eq_true (by omega)) hal.1 hal.2.2.2.1 (by omega)).mono ?_
      rintro e w9 ⟨rfl, hb9⟩
      have HB9 := Lib.hid hb9
      clear x0 x1 x2 x3 x4 x5 x6 x7
      obtain ⟨x0, x1, x2, x3, x4, x5, x6, x7⟩ := cells8M ((hb9.block _ (Array.getElem?_eq_some_iff.1 HF.out.2.2.2.1).1).trans HF.out.2.2.2.1)
      clear hb9
      obtain ⟨bx, hbx⟩ : ∃ bx, bx = lgB (rpT (erase t) (z0 : Nat) ((z0 : Int) + (z1 : Int))) wd := ⟨_, rfl⟩
      rw [← hbx]
      cases bx with
      | false =>
        clear hbx x0 x1 x2 x3 x4 x5 x6 x7
        go_wp2_with fail
        go_ret
        exact ⟨rfl, bhop HB8.out HB9.out⟩
      | true =>
        have HY := Lib.hid (rp_more (lo' := 0) (hi' := (z0 : Int) + (z1 : Int) + (z3 : Int)) (by omega) (by omega) hbx.symm)
        have HZ := Lib.hid (rp_more (lo' := (z0 : Nat)) (hi' := -1) (by omega) (by omega) hbx.symm)
        clear hbx
        go_wp2_with fail
        go_at_call 11
        refine (HIs.out w9 (bhop HB8.out HB9.out) 0 ((z0 : Int) + (z1 : Int) + (z3 : Int)) w6.heap.size ((HB9.out.block _ (Array.getElem?_eq_some_iff.1 HF.out.2.2.1).1).trans HF.out.2.2.1) (decide_eq_true (by omega)) hal.1 hal.2.2.2.1 (by omega)).mono ?_
        rintro e w10 ⟨rfl, hb10⟩
        have HB10 := Lib.hid (bhop HB9.out hb10)
        clear hb10 x0 x1 x2 x3 x4 x5 x6 x7
        obtain ⟨x0, x1, x2, x3, x4, x5, x6, x7⟩ := cells8M ((HB10.out.block _ (Array.getElem?_eq_some_iff.1 HF.out.2.2.2.2.2).1).trans HF.out.2.2.2.2.2)
        rw [HY.out]
        go_wp2_with fail
        go_at_call 11
        refine (HIs.out w10 (bhop HB8.out HB10.out) (z0 : Int) (-1) w7.heap.size ((HB10.out.block _ (Array.getElem?_eq_some_iff.1 HF.out.2.2.2.2.1).1).trans HF.out.2.2.2.2.1) (decide_eq_true (by omega)) hal.1 hal.2.2.2.1 (by omega)).mono ?_
        rintro e w11 ⟨rfl, hb11⟩
        have HB11 := Lib.hid (bhop HB10.out hb11)
        clear hb11
        rw [HZ.out]
        go_wp2_with fail
        go_ret
        exact ⟨rfl, bhop HB8.out HB11.out⟩
    · by_cases c2 : z2 < z0
      · have c2' : ((z2 : Nat) : Int) < (z0 : Int) := by omega
        have c3' : ¬ ((z0 : Nat) : Int) < (z2 : Int) := by omega
        obtain ⟨w6, hw6, bw6, pw6, qw6, sw6⟩ := two_new w5 #[.int .i64 t.kind, .int .u64 (t.set 0 : Nat), .int .u64 (t.set 1 : Nat), .int .u64 (t.set 2 : Nat), .int .u64 (t.set 3 : Nat), .slice sa sn sc, .int .i64 t.lo, .int .i64 t.hi] #[.int .i64 4, .int .u64 0, .int .u64 0, .int .u64 0, .int .u64 0, .slice (some ⟨w5.heap.size, 0, none⟩) 1 1, .int .i64 (z0 : Nat), .int .i64 ((z0 : Int) + (z1 : Int))] 27 27
        have Qw6 := Lib.hid (And.intro bw6 (And.intro pw6 (And.intro qw6 sw6)))
        clear bw6 pw6 qw6 sw6
        go_upto_region 6 with fail
        clear hw6 x0 x1 x2 x3 x4 x5 x6 x7 u0 u1 u2 u3 hrow hbox
        have HB_w6 := Lib.hid (bhop HB5.out Qw6.out.1)
        obtain ⟨x0, x1, x2, x3, x4, x5, x6, x7⟩ := HBX.out w6 (bhop HBW.out.2.1 HB_w6.out)
        have hur := (HB_w6.out.block _ (Array.getElem?_eq_some_iff.1 HBW.out.2.2).1).trans HBW.out.2.2
        obtain ⟨u0, u1, u2, u3⟩ := cells4' hur
        have hrow := (Array.getElem?_eq_some_iff.1 hur).1
        have hbox : w.heap.size < w6.heap.size := by have := HBW.out.2.1.size; have := HB_w6.out.size; omega
        clear hur
        obtain ⟨w7, hw7, bw7, pw7, qw7, sw7⟩ := two_new w6 #[.int .i64 t.kind, .int .u64 (t.set 0 : Nat), .int .u64 (t.set 1 : Nat), .int .u64 (t.set 2 : Nat), .int .u64 (t.set 3 : Nat), .slice sa sn sc, .int .i64 t.lo, .int .i64 t.hi] #[.int .i64 4, .int .u64 0, .int .u64 0, .int .u64 0, .int .u64 0, .slice (some ⟨w6.heap.size, 0, none⟩) 1 1, .int .i64 ((z0 : Int) - (z2 : Int)), .int .i64 ((z0 : Int) + (z1 : Int) + (z3 : Int))] 27 27
        have Qw7 := Lib.hid (And.intro bw7 (And.intro pw7 (And.intro qw7 sw7)))
        clear bw7 pw7 qw7 sw7
        go_upto_region 7 with fail
        clear hw7 x0 x1 x2 x3 x4 x5 x6 x7 u0 u1 u2 u3 hrow hbox
        have HB_w7 := Lib.hid (bhop HB_w6.out Qw7.out.1)
        obtain ⟨x0, x1, x2, x3, x4, x5, x6, x7⟩ := HBX.out w7 (bhop HBW.out.2.1 HB_w7.out)
        have hur := (HB_w7.out.block _ (Array.getElem?_eq_some_iff.1 HBW.out.2.2).1).trans HBW.out.2.2
        obtain ⟨u0, u1, u2, u3⟩ := cells4' hur
        have hrow := (Array.getElem?_eq_some_iff.1 hur).1
        have hbox : w.heap.size < w7.heap.size := by have := HBW.out.2.1.size; have := HB_w7.out.size; omega
        clear hur
        obtain ⟨w8, hw8, bw8, pw8, qw8, sw8⟩ := two_new w7 #[.int .i64 t.kind, .int .u64 (t.set 0 : Nat), .int .u64 (t.set 1 : Nat), .int .u64 (t.set 2 : Nat), .int .u64 (t.set 3 : Nat), .slice sa sn sc, .int .i64 t.lo, .int .i64 t.hi] #[.int .i64 4, .int .u64 0, .int .u64 0, .int .u64 0, .int .u64 0, .slice (some ⟨w7.heap.size, 0, none⟩) 1 1, .int .i64 (z0 : Nat), .int .i64 (-1)] 27 27
        have Qw8 := Lib.hid (And.intro bw8 (And.intro pw8 (And.intro qw8 sw8)))
        clear bw8 pw8 qw8 sw8
        go_upto_region 8 with fail
        clear hw8 x0 x1 x2 x3 x4 x5 x6 x7 u0 u1 u2 u3 hrow hbox
        have s5 := HB5.out.size
        have a5 : w8.heap[w5.heap.size]? = _ := (Qw8.out.1.block _ (by have := Qw6.out.2.2.2; have := Qw7.out.2.2.2; omega)).trans ((Qw7.out.1.block _ (by have := Qw6.out.2.2.2; omega)).trans Qw6.out.2.1)
        have b5 : w8.heap[w5.heap.size + 1]? = _ := (Qw8.out.1.block _ (by have := Qw6.out.2.2.2; have := Qw7.out.2.2.2; omega)).trans ((Qw7.out.1.block _ (by have := Qw6.out.2.2.2; omega)).trans Qw6.out.2.2.1)
        have a6 : w8.heap[w6.heap.size]? = _ := (Qw8.out.1.block _ (by have := Qw7.out.2.2.2; omega)).trans Qw7.out.2.1
        have b6 : w8.heap[w6.heap.size + 1]? = _ := (Qw8.out.1.block _ (by have := Qw7.out.2.2.2; omega)).trans Qw7.out.2.2.1
        have HB8 := Lib.hid (bhop HBW.out.1 (bhop HB_w7.out Qw8.out.1))
        have HF := Lib.hid (And.intro a5 (And.intro b5 (And.intro a6 (And.intro b6 (And.intro Qw8.out.2.1 Qw8.out.2.2.1)))))
        clear s5 a5 b5 a6 b6
        obtain ⟨x0, x1, x2, x3, x4, x5, x6, x7⟩ := cells8M HF.out.2.1
        go_wp2_with fail
        go_at_call 11
        refine (HIs.out w8 HB8.out (z0 : Int) ((z0 : Int) + (z1 : Int)) w5.heap.size HF.out.1 (decide_eq_true (by omega)) hal.1 hal.2.2.2.1 (by omega)).mono ?_
        rintro e w9 ⟨rfl, hb9⟩
        have HB9 := Lib.hid hb9
        clear x0 x1 x2 x3 x4 x5 x6 x7
        obtain ⟨x0, x1, x2, x3, x4, x5, x6, x7⟩ := cells8M ((hb9.block _ (Array.getElem?_eq_some_iff.1 HF.out.2.2.2.1).1).trans HF.out.2.2.2.1)
        clear hb9
        obtain ⟨bx, hbx⟩ : ∃ bx, bx = lgB (rpT (erase t) (z0 : Nat) ((z0 : Int) + (z1 : Int))) wd := ⟨_, rfl⟩
        rw [← hbx]
        cases bx with
        | false =>
          clear hbx x0 x1 x2 x3 x4 x5 x6 x7
          go_wp2_with fail
          go_ret
          exact ⟨rfl, bhop HB8.out HB9.out⟩
        | true =>
          have HY := Lib.hid (rp_more (lo' := ((z0 : Int) - (z2 : Int))) (hi' := (z0 : Int) + (z1 : Int) + (z3 : Int)) (by omega) (by omega) hbx.symm)
          have HZ := Lib.hid (rp_more (lo' := (z0 : Nat)) (hi' := -1) (by omega) (by omega) hbx.symm)
          clear hbx
          go_wp2_with fail
          go_at_call 11
          refine (HIs.out w9 (bhop HB8.out HB9.out) ((z0 : Int) - (z2 : Int)) ((z0 : Int) + (z1 : Int) + (z3 : Int)) w6.heap.size ((HB9.out.block _ (Array.getElem?_eq_some_iff.1 HF.out.2.2.1).1).trans HF.out.2.2.1) (decide_eq_true (by omega)) hal.1 hal.2.2.2.1 (by omega)).mono ?_
          rintro e w10 ⟨rfl, hb10⟩
          have HB10 := Lib.hid (bhop HB9.out hb10)
          clear hb10 x0 x1 x2 x3 x4 x5 x6 x7
          obtain ⟨x0, x1, x2, x3, x4, x5, x6, x7⟩ := cells8M ((HB10.out.block _ (Array.getElem?_eq_some_iff.1 HF.out.2.2.2.2.2).1).trans HF.out.2.2.2.2.2)
          rw [HY.out]
          go_wp2_with fail
          go_at_call 11
          refine (HIs.out w10 (bhop HB8.out HB10.out) (z0 : Int) (-1) w7.heap.size ((HB10.out.block _ (Array.getElem?_eq_some_iff.1 HF.out.2.2.2.2.1).1).trans HF.out.2.2.2.2.1) (decide_eq_true (by omega)) hal.1 hal.2.2.2.1 (by omega)).mono ?_
          rintro e w11 ⟨rfl, hb11⟩
          have HB11 := Lib.hid (bhop HB10.out hb11)
          clear hb11
          rw [HZ.out]
          go_wp2_with fail
          go_ret
          exact ⟨rfl, bhop HB8.out HB11.out⟩
      · have c3 : z2 = z0 := by omega
        subst c3
        obtain ⟨w6, hw6, bw6, pw6, qw6, sw6⟩ := two_new w5 #[.int .i64 t.kind, .int .u64 (t.set 0 : Nat), .int .u64 (t.set 1 : Nat), .int .u64 (t.set 2 : Nat), .int .u64 (t.set 3 : Nat), .slice sa sn sc, .int .i64 t.lo, .int .i64 t.hi] #[.int .i64 4, .int .u64 0, .int .u64 0, .int .u64 0, .int .u64 0, .slice (some ⟨w5.heap.size, 0, none⟩) 1 1, .int .i64 (z2 : Nat), .int .i64 ((z2 : Int) + (z1 : Int))] 27 27
        have Qw6 := Lib.hid (And.intro bw6 (And.intro pw6 (And.intro qw6 sw6)))
        clear bw6 pw6 qw6 sw6
        go_upto_region 6 with fail
        clear hw6 x0 x1 x2 x3 x4 x5 x6 x7 u0 u1 u2 u3 hrow hbox
        have HB_w6 := Lib.hid (bhop HB5.out Qw6.out.1)
        obtain ⟨x0, x1, x2, x3, x4, x5, x6, x7⟩ := HBX.out w6 (bhop HBW.out.2.1 HB_w6.out)
        have hur := (HB_w6.out.block _ (Array.getElem?_eq_some_iff.1 HBW.out.2.2).1).trans HBW.out.2.2
        obtain ⟨u0, u1, u2, u3⟩ := cells4' hur
        have hrow := (Array.getElem?_eq_some_iff.1 hur).1
        have hbox : w.heap.size < w6.heap.size := by have := HBW.out.2.1.size; have := HB_w6.out.size; omega
        clear hur
        obtain ⟨w7, hw7, bw7, pw7, qw7, sw7⟩ := two_new w6 #[.int .i64 t.kind, .int .u64 (t.set 0 : Nat), .int .u64 (t.set 1 : Nat), .int .u64 (t.set 2 : Nat), .int .u64 (t.set 3 : Nat), .slice sa sn sc, .int .i64 t.lo, .int .i64 t.hi] #[.int .i64 4, .int .u64 0, .int .u64 0, .int .u64 0, .int .u64 0, .slice (some ⟨w6.heap.size, 0, none⟩) 1 1, .int .i64 (0), .int .i64 ((z2 : Int) + (z1 : Int) + (z3 : Int))] 27 27
        have Qw7 := Lib.hid (And.intro bw7 (And.intro pw7 (And.intro qw7 sw7)))
        clear bw7 pw7 qw7 sw7
        go_upto_region 7 with fail
        clear hw7 x0 x1 x2 x3 x4 x5 x6 x7 u0 u1 u2 u3 hrow hbox
        have HB_w7 := Lib.hid (bhop HB_w6.out Qw7.out.1)
        obtain ⟨x0, x1, x2, x3, x4, x5, x6, x7⟩ := HBX.out w7 (bhop HBW.out.2.1 HB_w7.out)
        have hur := (HB_w7.out.block _ (Array.getElem?_eq_some_iff.1 HBW.out.2.2).1).trans HBW.out.2.2
        obtain ⟨u0, u1, u2, u3⟩ := cells4' hur
        have hrow := (Array.getElem?_eq_some_iff.1 hur).1
        have hbox : w.heap.size < w7.heap.size := by have := HBW.out.2.1.size; have := HB_w7.out.size; omega
        clear hur
        obtain ⟨w8, hw8, bw8, pw8, qw8, sw8⟩ := two_new w7 #[.int .i64 t.kind, .int .u64 (t.set 0 : Nat), .int .u64 (t.set 1 : Nat), .int .u64 (t.set 2 : Nat), .int .u64 (t.set 3 : Nat), .slice sa sn sc, .int .i64 t.lo, .int .i64 t.hi] #[.int .i64 4, .int .u64 0, .int .u64 0, .int .u64 0, .int .u64 0, .slice (some ⟨w7.heap.size, 0, none⟩) 1 1, .int .i64 (z2 : Nat), .int .i64 (-1)] 27 27
        have Qw8 := Lib.hid (And.intro bw8 (And.intro pw8 (And.intro qw8 sw8)))
        clear bw8 pw8 qw8 sw8
        go_upto_region 8 with fail
        clear hw8 x0 x1 x2 x3 x4 x5 x6 x7 u0 u1 u2 u3 hrow hbox
        have s5 := HB5.out.size
        have a5 : w8.heap[w5.heap.size]? = _ := (Qw8.out.1.block _ (by have := Qw6.out.2.2.2; have := Qw7.out.2.2.2; omega)).trans ((Qw7.out.1.block _ (by have := Qw6.out.2.2.2; omega)).trans Qw6.out.2.1)
        have b5 : w8.heap[w5.heap.size + 1]? = _ := (Qw8.out.1.block _ (by have := Qw6.out.2.2.2; have := Qw7.out.2.2.2; omega)).trans ((Qw7.out.1.block _ (by have := Qw6.out.2.2.2; omega)).trans Qw6.out.2.2.1)
        have a6 : w8.heap[w6.heap.size]? = _ := (Qw8.out.1.block _ (by have := Qw7.out.2.2.2; omega)).trans Qw7.out.2.1
        have b6 : w8.heap[w6.heap.size + 1]? = _ := (Qw8.out.1.block _ (by have := Qw7.out.2.2.2; omega)).trans Qw7.out.2.2.1
        have HB8 := Lib.hid (bhop HBW.out.1 (bhop HB_w7.out Qw8.out.1))
        have HF := Lib.hid (And.intro a5 (And.intro b5 (And.intro a6 (And.intro b6 (And.intro Qw8.out.2.1 Qw8.out.2.2.1)))))
        clear s5 a5 b5 a6 b6
        obtain ⟨x0, x1, x2, x3, x4, x5, x6, x7⟩ := cells8M HF.out.2.1
        go_wp2_with fail
        go_at_call 11
        refine (HIs.out w8 HB8.out (z2 : Int) ((z2 : Int) + (z1 : Int)) w5.heap.size HF.out.1 (decide_eq_true (by omega)) hal.1 hal.2.2.2.1 (by omega)).mono ?_
        rintro e w9 ⟨rfl, hb9⟩
        have HB9 := Lib.hid hb9
        clear x0 x1 x2 x3 x4 x5 x6 x7
        obtain ⟨x0, x1, x2, x3, x4, x5, x6, x7⟩ := cells8M ((hb9.block _ (Array.getElem?_eq_some_iff.1 HF.out.2.2.2.1).1).trans HF.out.2.2.2.1)
        clear hb9
        obtain ⟨bx, hbx⟩ : ∃ bx, bx = lgB (rpT (erase t) (z2 : Nat) ((z2 : Int) + (z1 : Int))) wd := ⟨_, rfl⟩
        rw [← hbx]
        cases bx with
        | false =>
          clear hbx x0 x1 x2 x3 x4 x5 x6 x7
          go_wp2_with fail
          go_ret
          exact ⟨rfl, bhop HB8.out HB9.out⟩
        | true =>
          have HY := Lib.hid (rp_more (lo' := 0) (hi' := (z2 : Int) + (z1 : Int) + (z3 : Int)) (by omega) (by omega) hbx.symm)
          have HZ := Lib.hid (rp_more (lo' := (z2 : Nat)) (hi' := -1) (by omega) (by omega) hbx.symm)
          clear hbx
          go_wp2_with fail
          go_at_call 11
          refine (HIs.out w9 (bhop HB8.out HB9.out) 0 ((z2 : Int) + (z1 : Int) + (z3 : Int)) w6.heap.size ((HB9.out.block _ (Array.getElem?_eq_some_iff.1 HF.out.2.2.1).1).trans HF.out.2.2.1) (decide_eq_true (by omega)) hal.1 hal.2.2.2.1 (by omega)).mono ?_
          rintro e w10 ⟨rfl, hb10⟩
          have HB10 := Lib.hid (bhop HB9.out hb10)
          clear hb10 x0 x1 x2 x3 x4 x5 x6 x7
          obtain ⟨x0, x1, x2, x3, x4, x5, x6, x7⟩ := cells8M ((HB10.out.block _ (Array.getElem?_eq_some_iff.1 HF.out.2.2.2.2.2).1).trans HF.out.2.2.2.2.2)
          rw [HY.out]
          go_wp2_with fail
          go_at_call 11
          refine (HIs.out w10 (bhop HB8.out HB10.out) (z2 : Int) (-1) w7.heap.size ((HB10.out.block _ (Array.getElem?_eq_some_iff.1 HF.out.2.2.2.2.1).1).trans HF.out.2.2.2.2.1) (decide_eq_true (by omega)) hal.1 hal.2.2.2.1 (by omega)).mono ?_
          rintro e w11 ⟨rfl, hb11⟩
          have HB11 := Lib.hid (bhop HB10.out hb11)
          clear hb11
          rw [HZ.out]
          go_wp2_with fail
          go_ret
          exact ⟨rfl, bhop HB8.out HB11.out⟩

end Go.Proofs.YtdjddmkmcdfmiaaDoor
