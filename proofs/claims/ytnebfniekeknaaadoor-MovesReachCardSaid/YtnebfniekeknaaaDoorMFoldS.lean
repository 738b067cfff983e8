/- What folding a tree by simpleOf comes to, where each of its nodes comes to the same, a node of Kind 0: a contract.
   Conditions: the tree lies in memory; what the function gives, of a node and of what it gave of the node's parts, is taken as known. -/
import Derived.Test.YtnebfniekeknaaaDoorMMelt
import Derived.Test.YtnebfniekeknaaaDoorMNS
import Derived.Deep.RegionWith
import Derived.Deep.RegionLaw
import Derived.Deep.AppendLies

/- What folding a tree by simpleOf comes to, where each of its nodes comes to the same, a node of Kind 0: a contract.
   Conditions: the tree lies in memory; what the function gives, of a node and of what it gave of the node's parts, is taken as known. -/
namespace Go.Proofs.YtnebfniekeknaaaDoor
open Go.RowKit Go.Shelf

abbrev zS9 : List Value := [.int .i64 0, .int .u64 0, .int .u64 0, .int .u64 0, .int .u64 0, .slice none 0 0, .int .i64 0, .int .i64 0, .bool true]
def LFoldS (w : World) (B : Nat) (S : V → Prop) (root : V) (n : Nat) (ov : Value) (wr : World) : Prop :=
  ∃ f fs, StkI w B 154 126 9 (fun _ => zS9) S (f :: fs) ov wr ∧ flatsV f.t.kind f.t.ps = f.ds ++ todoF f.t.kind f.st ∧ ChainB root f.t fs ∧ n = wFs (f :: fs) ∧ n ≤ 1000000
theorem infoGrpS : (Tryd.prog.info? 154).map (fun i => (i.zero, i.size, i.bytes)) = some (some (.agg #[.pointer none, .slice none 0 0, .slice none 0 0]), 3, 56) := by kernel_rfl
theorem infoSimpleS : (Tryd.prog.info? 126).map (fun i => (i.zero, i.size, i.bytes)) = some (some (.agg #[.int .i64 0, .int .u64 0, .int .u64 0, .int .u64 0, .int .u64 0, .slice none 0 0, .int .i64 0, .int .i64 0, .bool false]), 9, 88) := by kernel_rfl
/-- A box with what comes of a node. -/
def BoxS (bx : Nat) (W : World) : Prop := W.heap[bx]? = some (.cells #[.int .i64 0, .int .u64 0, .int .u64 0, .int .u64 0, .int .u64 0, .slice none 0 0, .int .i64 0, .int .i64 0, .bool true] 126 (0, 0))
theorem BoxS.cells {bx : Nat} {W : World} (h : BoxS bx W) : W.cell? ⟨bx, 0, none⟩ = some (.int .i64 0) ∧ W.cell? ⟨bx, 1, none⟩ = some (.int .u64 0) ∧ W.cell? ⟨bx, 2, none⟩ = some (.int .u64 0) ∧ W.cell? ⟨bx, 3, none⟩ = some (.int .u64 0) ∧ W.cell? ⟨bx, 4, none⟩ = some (.int .u64 0) ∧ W.cell? ⟨bx, 5, none⟩ = some (.slice none 0 0) ∧ W.cell? ⟨bx, 6, none⟩ = some (.int .i64 0) ∧ W.cell? ⟨bx, 7, none⟩ = some (.int .i64 0) ∧ W.cell? ⟨bx, 8, none⟩ = some (.bool true) := by
  have q := (row_cells h).1
  exact ⟨q 0, q 1, q 2, q 3, q 4, q 5, q 6, q 7, q 8⟩

theorem set9_box {w : World} {b : Nat} (h : w.heap[b]? = some (.cells #[.int .i64 0, .int .u64 0, .int .u64 0, .int .u64 0, .int .u64 0, .slice none 0 0, .int .i64 0, .int .i64 0, .bool false] 126 (0, 0))) : BoxS b (((((((((w.setCell ⟨b, 0, none⟩ (.int .i64 0)).setCell ⟨b, 1, none⟩ (.int .u64 0)).setCell ⟨b, 2, none⟩ (.int .u64 0)).setCell ⟨b, 3, none⟩ (.int .u64 0)).setCell ⟨b, 4, none⟩ (.int .u64 0)).setCell ⟨b, 5, none⟩ (.slice none 0 0)).setCell ⟨b, 6, none⟩ (.int .i64 0)).setCell ⟨b, 7, none⟩ (.int .i64 0)).setCell ⟨b, 8, none⟩ (.bool true)) := by
  unfold BoxS
  simp [World.setCell, Array.getElem?_modify, h]
theorem set9_chg (w : World) (b : Nat) : Chg (fun x => x = b) w (((((((((w.setCell ⟨b, 0, none⟩ (.int .i64 0)).setCell ⟨b, 1, none⟩ (.int .u64 0)).setCell ⟨b, 2, none⟩ (.int .u64 0)).setCell ⟨b, 3, none⟩ (.int .u64 0)).setCell ⟨b, 4, none⟩ (.int .u64 0)).setCell ⟨b, 5, none⟩ (.slice none 0 0)).setCell ⟨b, 6, none⟩ (.int .i64 0)).setCell ⟨b, 7, none⟩ (.int .i64 0)).setCell ⟨b, 8, none⟩ (.bool true)) := by
  refine ((((((((((Chg.refl _ w).setCell ?_ _).setCell ?_ _).setCell ?_ _).setCell ?_ _).setCell ?_ _).setCell ?_ _).setCell ?_ _).setCell ?_ _).setCell ?_ _)
  all_goals exact fun _ => rfl
theorem bxA {w1 w2 : World} (h : Below w1.heap.size w1.drew w2) : Below w1.heap.size w1 (w2.alloc (.cells #[.int .i64 0, .int .u64 0, .int .u64 0, .int .u64 0, .int .u64 0, .slice none 0 0, .int .i64 0, .int .i64 0, .bool true] 126)) ∧ BoxS w2.heap.size (w2.alloc (.cells #[.int .i64 0, .int .u64 0, .int .u64 0, .int .u64 0, .int .u64 0, .slice none 0 0, .int .i64 0, .int .i64 0, .bool true] 126)) ∧ w1.heap.size ≤ w2.heap.size := by
  have h1 : Below w1.heap.size w1 w2 := bhop (Below.refl _ w1).drew h
  exact ⟨h1.alloc h1.size _, heap_alloc_new w2 _, h1.size⟩
theorem bxB {w1 w : World} {b : Nat} (hb : b = w1.heap.size) (h : Below (w1.alloc (.cells #[.int .i64 0, .int .u64 0, .int .u64 0, .int .u64 0, .int .u64 0, .slice none 0 0, .int .i64 0, .int .i64 0, .bool false] 126)).heap.size (w1.alloc (.cells #[.int .i64 0, .int .u64 0, .int .u64 0, .int .u64 0, .int .u64 0, .slice none 0 0, .int .i64 0, .int .i64 0, .bool false] 126)).drew w) :
    Below w1.heap.size w1 (((((((((w.setCell ⟨b, 0, none⟩ (.int .i64 0)).setCell ⟨b, 1, none⟩ (.int .u64 0)).setCell ⟨b, 2, none⟩ (.int .u64 0)).setCell ⟨b, 3, none⟩ (.int .u64 0)).setCell ⟨b, 4, none⟩ (.int .u64 0)).setCell ⟨b, 5, none⟩ (.slice none 0 0)).setCell ⟨b, 6, none⟩ (.int .i64 0)).setCell ⟨b, 7, none⟩ (.int .i64 0)).setCell ⟨b, 8, none⟩ (.bool true)) ∧ BoxS b (((((((((w.setCell ⟨b, 0, none⟩ (.int .i64 0)).setCell ⟨b, 1, none⟩ (.int .u64 0)).setCell ⟨b, 2, none⟩ (.int .u64 0)).setCell ⟨b, 3, none⟩ (.int .u64 0)).setCell ⟨b, 4, none⟩ (.int .u64 0)).setCell ⟨b, 5, none⟩ (.slice none 0 0)).setCell ⟨b, 6, none⟩ (.int .i64 0)).setCell ⟨b, 7, none⟩ (.int .i64 0)).setCell ⟨b, 8, none⟩ (.bool true)) ∧ w1.heap.size ≤ b := by
  subst hb
  have h1 : Below w1.heap.size w1 w := bhop ((Below.refl _ w1).alloc (Nat.le_refl _) (.cells #[.int .i64 0, .int .u64 0, .int .u64 0, .int .u64 0, .int .u64 0, .slice none 0 0, .int .i64 0, .int .i64 0, .bool false] 126)) (bhop (Below.refl _ _).drew h)
  have hbx : w.heap[w1.heap.size]? = some (.cells #[.int .i64 0, .int .u64 0, .int .u64 0, .int .u64 0, .int .u64 0, .slice none 0 0, .int .i64 0, .int .i64 0, .bool false] 126 (0, 0)) := (h.block w1.heap.size (by simp)).trans (heap_alloc_new w1 _)
  exact ⟨h1.trans ((set9_chg w _).below h1.size fun k hk e => by omega), set9_box hbx, Nat.le_refl _⟩

set_option maxHeartbeats 8000000 in
set_option maxRecDepth 100000 in
theorem fold_S (B nb no : Nat) (root : V) (w : World) (S : V → Prop) (hS : ∀ t p, S t → p ∈ flatsV t.kind t.ps → S p) (hroot : NodeB B w nb no root) (hSr : S root) (hB : B ≤ w.heap.size) (hsz : 3 * szsT (erases root.ps) + 10 ≤ 1000000) (hSz : ∀ t, S t → szT (erase t) ≤ 1000000)
    (hOf : ∀ (W : World) (b o base : Nat) (t : V) (pv : Value), NodeB B W b o t → S t → W.ownsRow base 126 9 pv (flatsV t.kind t.ps).length ((flatsV t.kind t.ps).flatMap fun _ => zS9) →
      Calls Tryd.prog 64 #[.pointer (some ⟨b, o, none⟩), pv] W fun e w' => e = .returned (.agg #[.int .i64 0, .int .u64 0, .int .u64 0, .int .u64 0, .int .u64 0, .slice none 0 0, .int .i64 0, .int .i64 0, .bool true]) ∧ Below W.heap.size W w') :
    Calls Tryd.prog 63 #[.pointer (some ⟨nb, no, none⟩), .func (.func 64) #[] #[]] w fun e w' => e = .returned (.agg #[.int .i64 0, .int .u64 0, .int .u64 0, .int .u64 0, .int .u64 0, .slice none 0 0, .int .i64 0, .int .i64 0, .bool true]) ∧ Below w.heap.size w w' := by
  obtain ⟨i0, hi, hz0, hz1, hz2⟩ := info_parts infoGrpS
  obtain ⟨j0, hj, hy0, hy1, hy2⟩ := info_parts infoSimpleS
  have h1 : 154 ≠ 25 := by decide
  have h2 : 126 ≠ 25 := by decide
  have h3 : 126 ≠ 154 := by decide
  obtain ⟨w0, hw0⟩ : ∃ w0, w.alloc (.cells #[.int .i64 0, .int .u64 0, .int .u64 0, .int .u64 0, .int .u64 0, .slice none 0 0, .int .i64 0, .int .i64 0, .bool false] 126) = w0 := ⟨_, rfl⟩
  have hb0 : Below w.heap.size w w0 := hw0 ▸ (Below.refl _ w).alloc (Nat.le_refl _) _
  have hz0s : w0.heap.size = w.heap.size + 1 := by rw [← hw0]; simp
  have hbx0 : w0.heap[w.heap.size]? = some (.cells #[.int .i64 0, .int .u64 0, .int .u64 0, .int .u64 0, .int .u64 0, .slice none 0 0, .int .i64 0, .int .i64 0, .bool false] 126 (0, 0)) := by rw [← hw0]; exact heap_alloc_new w _
  have HO := Lib.hid hOf
  have HD := Lib.hid (And.intro hS (And.intro (show B ≤ w0.heap.size by omega) hsz))
  have HSZ := Lib.hid hSz
  have HOP := Lib.hid (opened_anyS B nb no root w0 (hroot.chg (Chg.of_below hb0)))
  have HRT := Lib.hid (And.intro (hroot.chg (Chg.of_below hb0) : NodeB B w0 nb no root) hSr)
  have HTY := Lib.hid (And.intro h1 (And.intro h2 h3))
  have H00 := Lib.hid (And.intro hb0 (And.intro hz0s hbx0))
  clear hSz hOf hS hB hsz hroot hSr h1 h2 h3 hb0 hz0s hbx0
  go_enter Tryd.func63, Tryd.ntmps63
  go_wp2_with fail
  clear hw0
  go_at_call 80
  refine HOP.out.mono ?_
  rintro e w1 ⟨rv, st, rfl, hown, hrows, htd, hwt, hb1⟩
  have HST := Lib.hid (show LFoldS w0 B S root (wFs [⟨nb, no, root, [], .slice none 0 0, rv, st⟩]) (.slice (some ⟨w1.heap.size, 0, none⟩) 1 1) (w1.alloc (.cells #[.pointer (some ⟨nb, no, none⟩), .slice none 0 0, rv] 154)) by
    have hbw : Below w1.heap.size w1 (w1.alloc (.cells #[.pointer (some ⟨nb, no, none⟩), .slice none 0 0, rv] 154)) := (Below.refl _ w1).alloc (Nat.le_refl _) _
    refine ⟨⟨nb, no, root, [], .slice none 0 0, rv, st⟩, [], ⟨?_, fun f hf => ?_, ?_, ?_, bhop hb1 hbw⟩, by rw [htd]; rfl, rfl, rfl, ?_⟩
    · exact World.ownsRow_lit (e := 154) (size := 3) (base := w0.heap.size) w1 #[.pointer (some ⟨nb, no, none⟩), .slice none 0 0, rv] 1 hb1.size (by unfold maxLen; omega) rfl
    · simp at hf
      subst hf
      exact ⟨(HRT.out.1.chg (Chg.of_below hb1)).chg (Chg.of_below hbw), HRT.out.2, World.ownsRow_nil _ _ _ _, hown.alloc _, fun p hp => laid_low' (hrows p hp) hbw⟩
    · rw [List.filterMap_cons]; split <;> simp
    · simp [Value.ownBlock]
    · have := HD.out.2.2
      simp only [wFs]
      omega)
  clear hown hrows htd hwt hb1
  go_wp2_with fail
  go_loopw [5] (fun ov wr => ∃ n, LFoldS w0 B S root n ov wr) (fun ov wr => leastOf (fun n => LFoldS w0 B S root n ov wr))
  case atStart => exact ⟨_, HST.out⟩
  case round =>
    clear HST
    have hls := (leastOf_spec hrel).1
    obtain ⟨f, fs, hI, hch, hcb, hN, hn⟩ := hls
    obtain ⟨g, cap, rfl⟩ := ownsRow_succ hI.own
    obtain ⟨cs, hcs, hcv⟩ := own_cells hI.own
    have hf := hI.fr f (by simp)
    have hlen : fs.length + 1 ≤ 1000000 := by have := wFs_len (f :: fs); simp only [List.length_cons] at this; omega
    have hx : ∀ j, j < 3 → cs[fs.length * 3 + j]? = (fcells f)[j]? := fun j hj => by
      rw [hcv _ (by omega), rev_cells, List.getElem?_append_right (by rw [fcells_len, List.length_reverse]; omega), fcells_len, List.length_reverse]
      congr 1
      omega
    have hNX := Lib.hid (next_anyS wr w0.heap.size B g (fs.length * 3) f.nb f.no cs f.rv f.t f.st hf.rest hf.rows hcs (hx 2 (by omega)) (hx 0 (by omega)) hf.node HD.out.2.1 (Nat.le_trans HD.out.2.1 (hI.own.lt g rfl).1) hI.below.size (by rw [wFs] at hN; omega))
    have HI := Lib.hid (And.intro hI (And.intro hch (And.intro hcb (And.intro hN hn))))
    have HC := Lib.hid (And.intro hcs (And.intro hx hcv))
    have hgl := (hI.own.lt g rfl).2
    have hcap : (fs.length : Int) + 1 ≤ (cap : Int) := by
      rcases hI.own.2 with ⟨h1, _⟩ | ⟨g', cap', cur, hv, _, _, hle, _⟩
      · cases h1
      · simp only [Value.slice.injEq, List.length_cons] at hv hle; omega
    have m1 : (0 : Int) ≤ (fs.length : Int) := by omega
    have m2 : (0 : Int) < (fs.length : Int) + 1 := by omega
    have m3 : (fs.length : Int) < (fs.length : Int) + 1 := by omega
    have m4 : (fs.length : Int) ≤ 2000000 := by omega
    clear hI hch hcb hN hn hcs hcv hf hx hrel
    go_wp2_with fail
    go_at_call 81
    refine hNX.out.mono ?_
    rintro e w1 ⟨st', rv', hNH, ⟨htd, rfl, rfl⟩ | ⟨p, pb, po, rfl, hnp, htd, hwt⟩⟩
    · have HI1 := Lib.hid (HI.out.1.next HD.out.2.1 HTY.out.1 HTY.out.2.1 HTY.out.2.2 HC.out.1 hNH)
      have y0 : w1.cell? ⟨g, fs.length * 3, none⟩ = some (.pointer (some ⟨f.nb, f.no, none⟩)) := by rw [hNH.cell _ (by omega)]; exact HC.out.2.1 0 (by omega)
      have y1 : w1.cell? ⟨g, fs.length * 3 + 1, none⟩ = some f.pv := by rw [hNH.cell _ (by omega)]; exact HC.out.2.1 1 (by omega)
      have hds : flatsV f.t.kind f.t.ps = f.ds := by rw [HI.out.2.1, htd, List.append_nil]
      have hf1 := HI1.out.fr _ (List.mem_cons_self ..)
      have HOF := Lib.hid (fun (W : World) (hW : Below w1.heap.size w1 W) => HO.out W f.nb f.no w0.heap.size f.t f.pv (hf1.node.chg (Chg.of_below hW)) hf1.s (by rw [hds]; exact own_chg hf1.parts (Chg.of_below (R := fun _ => False) hW) fun _ _ => id))
      have hgl1 : g < w1.heap.size := (HI1.out.own.lt g rfl).2
      cases fs with
      | nil =>
        simp only [List.length_nil] at m1 m2 m3 m4 hcap hlen
        simp only [List.length_nil, Nat.zero_mul, Nat.zero_add] at y0 y1
        have HRT2 := Lib.hid (show f.t = root from HI.out.2.2.1)
        clear hNH htd hds hf1 hNX
        go_wp2_with fail
        go_region_with (go_at_call 64; refine (HOF.out _ (by first | exact (Below.refl _ w1).drew | exact ((Below.refl _ w1).alloc (Nat.le_refl _) _).drew)).mono ?_; rintro e w2 ⟨rfl, hb2⟩; (try (have hbx : w2.heap[w1.heap.size]? = some (.cells #[.int .i64 0, .int .u64 0, .int .u64 0, .int .u64 0, .int .u64 0, .slice none 0 0, .int .i64 0, .int .i64 0, .bool false] 126 (0, 0)) := (hb2.block w1.heap.size (by simp)).trans (heap_alloc_new w1 _); obtain ⟨q1, q2⟩ := row_cells hbx; have e0 := q1 0; have e1 := q1 1; have e2 := q1 2; have e3 := q1 3; have e4 := q1 4; have e5 := q1 5; have e6 := q1 6; have e7 := q1 7; have e8 := q1 8; have f0 := q2 0; have f1 := q2 1; have f2 := q2 2; have f3 := q2 3; have f4 := q2 4; have f5 := q2 5; have f6 := q2 6; have f7 := q2 7; have f8 := q2 8; have fl := (Array.getElem?_eq_some_iff.1 hbx).1; clear q1 q2)); have HB2 := Lib.hid hb2; clear hb2 y0 y1)
        all_goals
          first
          | (have HX := Lib.hid (bxA (w1 := w1) (w2 := w2) HB2.out); generalize w2.alloc (.cells #[.int .i64 0, .int .u64 0, .int .u64 0, .int .u64 0, .int .u64 0, .slice none 0 0, .int .i64 0, .int .i64 0, .bool true] 126) = w3 at *; generalize w2.heap.size = bx at *)
          | (obtain ⟨bx, hbx⟩ : ∃ bx, bx = w1.heap.size := ⟨_, rfl⟩; have HX := Lib.hid (bxB (w1 := w1) (w := w2) hbx HB2.out); clear e0 e1 e2 e3 e4 e5 e6 e7 e8 f0 f1 f2 f3 f4 f5 f6 f7 f8 fl; rw [← hbx]; clear hbx; generalize (((((((((w2.setCell ⟨bx, 0, none⟩ (.int .i64 0)).setCell ⟨bx, 1, none⟩ (.int .u64 0)).setCell ⟨bx, 2, none⟩ (.int .u64 0)).setCell ⟨bx, 3, none⟩ (.int .u64 0)).setCell ⟨bx, 4, none⟩ (.int .u64 0)).setCell ⟨bx, 5, none⟩ (.slice none 0 0)).setCell ⟨bx, 6, none⟩ (.int .i64 0)).setCell ⟨bx, 7, none⟩ (.int .i64 0)).setCell ⟨bx, 8, none⟩ (.bool true)) = w3 at *)
          obtain ⟨b0, b1, b2, b3, b4, b5, b6, b7, b8⟩ := BoxS.cells HX.out.2.1
          have bl : bx < w3.heap.size := (Array.getElem?_eq_some_iff.1 HX.out.2.1).1
          clear HB2
          have HY := Lib.hid (bhop HI1.out.below HX.out.1)
          have hres := (HY.out.block w.heap.size (by have := H00.out.2.1; omega)).trans H00.out.2.2
          obtain ⟨q1, q2⟩ := row_cells hres
          have r0 := q1 0
          have r1 := q1 1
          have r2 := q1 2
          have r3 := q1 3
          have r4 := q1 4
          have r5 := q1 5
          have r6 := q1 6
          have r7 := q1 7
          have r8 := q1 8
          have s0 := q2 0
          have s1 := q2 1
          have s2 := q2 2
          have s3 := q2 3
          have s4 := q2 4
          have s5 := q2 5
          have s6 := q2 6
          have s7 := q2 7
          have s8 := q2 8
          have rl : w.heap.size < w3.heap.size := (Array.getElem?_eq_some_iff.1 hres).1
          have n1 : bx ≠ w.heap.size := by have h4 := HI1.out.below.size; have h5 := HX.out.2.2; have h6 := H00.out.2.1; omega
          have n2 : w.heap.size ≠ bx := fun e => n1 e.symm
          clear q1 q2 hres
          go_wp2_with fail
          refine bodyPost_ret (v := .agg #[.int .i64 0, .int .u64 0, .int .u64 0, .int .u64 0, .int .u64 0, .slice none 0 0, .int .i64 0, .int .i64 0, .bool true]) (by simp [results, Tryd.results63, go_sem, r0, r1, r2, r3, r4, r5, r6, r7, r8]) rfl ⟨rfl, ?_⟩
          exact (H00.out.1.trans (HY.out.mono H00.out.1.size)).trans ((set9_chg w3 w.heap.size).below (by omega) fun k hk e => by omega)
      | cons f2 fs =>
        simp only [List.length_cons] at hcap hlen y0 y1
        clear m1 m2 m3 m4
        have n1 : (0 : Int) ≤ (fs.length : Int) := by omega
        have n2 : (0 : Int) ≤ (fs.length : Int) + 1 := by omega
        have n3 : (fs.length : Int) < (fs.length : Int) + 1 := by omega
        have n4 : (fs.length : Int) + 1 < (fs.length : Int) + 1 + 1 := by omega
        have n5 : (fs.length : Int) + 1 ≤ 2000000 := by omega
        have n6 : (fs.length : Int) + 1 + 1 ≤ (cap : Int) := by omega
        have n7 : (fs.length : Int) + 1 ≤ (fs.length : Int) + 1 + 1 := by omega
        clear hcap
        have y2 : w1.cell? ⟨g, fs.length * 3 + 1, none⟩ = some f2.pv := by
          rw [hNH.cell _ (by simp only [List.length_cons]; omega), HC.out.2.2 _ (by simp only [List.length_cons]; omega), rev_cells, List.getElem?_append_left (by rw [fcells_len, List.length_reverse, List.length_cons]; omega), rev_cells,
            List.getElem?_append_right (by rw [fcells_len, List.length_reverse]; omega), fcells_len, List.length_reverse, show fs.length * 3 + 1 - fs.length * 3 = 1 by omega]
          rfl
        have m5 : ((fs.length : Int) + 1 == 0) = false := by simp; omega
        have m6 : ¬ (fs.length : Int) + 1 = 0 := by omega
        have hcap2 : (fs.length : Int) + 1 ≤ (cap : Int) := by omega
        have hown2 := (HI1.out.fr f2 (by simp)).parts
        obtain ⟨A2, c2, hpv2⟩ := own_form hown2
        have hlen2 : f2.ds.length ≤ 1000000 := by
          have h4 := HSZ.out _ (HI1.out.fr f2 (by simp)).s
          have h5 := flats_len f2.t.kind f2.t.ps
          rw [HI.out.2.2.1.1, List.length_append] at h5
          rw [sz_eq] at h4
          omega
        have HOW := Lib.hid hown2
        rw [hpv2] at y2
        clear hNH htd hds hf1 hNX hown2
        go_wp2_with fail
        go_region_with (go_at_call 64; refine (HOF.out _ (by first | exact (Below.refl _ w1).drew | exact ((Below.refl _ w1).alloc (Nat.le_refl _) _).drew)).mono ?_; rintro e w2 ⟨rfl, hb2⟩; (try (have hbx : w2.heap[w1.heap.size]? = some (.cells #[.int .i64 0, .int .u64 0, .int .u64 0, .int .u64 0, .int .u64 0, .slice none 0 0, .int .i64 0, .int .i64 0, .bool false] 126 (0, 0)) := (hb2.block w1.heap.size (by simp)).trans (heap_alloc_new w1 _); obtain ⟨q1, q2⟩ := row_cells hbx; have e0 := q1 0; have e1 := q1 1; have e2 := q1 2; have e3 := q1 3; have e4 := q1 4; have e5 := q1 5; have e6 := q1 6; have e7 := q1 7; have e8 := q1 8; have f0 := q2 0; have f1 := q2 1; have f2 := q2 2; have f3 := q2 3; have f4 := q2 4; have f5 := q2 5; have f6 := q2 6; have f7 := q2 7; have f8 := q2 8; have fl := (Array.getElem?_eq_some_iff.1 hbx).1; clear q1 q2)); have HB2 := Lib.hid hb2; clear hb2 y0 y1)
        all_goals
          first
          | (have HX := Lib.hid (bxA (w1 := w1) (w2 := w2) HB2.out); generalize w2.alloc (.cells #[.int .i64 0, .int .u64 0, .int .u64 0, .int .u64 0, .int .u64 0, .slice none 0 0, .int .i64 0, .int .i64 0, .bool true] 126) = w3 at *; generalize w2.heap.size = bx at *)
          | (obtain ⟨bx, hbx⟩ : ∃ bx, bx = w1.heap.size := ⟨_, rfl⟩; have HX := Lib.hid (bxB (w1 := w1) (w := w2) hbx HB2.out); clear e0 e1 e2 e3 e4 e5 e6 e7 e8 f0 f1 f2 f3 f4 f5 f6 f7 f8 fl; rw [← hbx]; clear hbx; generalize (((((((((w2.setCell ⟨bx, 0, none⟩ (.int .i64 0)).setCell ⟨bx, 1, none⟩ (.int .u64 0)).setCell ⟨bx, 2, none⟩ (.int .u64 0)).setCell ⟨bx, 3, none⟩ (.int .u64 0)).setCell ⟨bx, 4, none⟩ (.int .u64 0)).setCell ⟨bx, 5, none⟩ (.slice none 0 0)).setCell ⟨bx, 6, none⟩ (.int .i64 0)).setCell ⟨bx, 7, none⟩ (.int .i64 0)).setCell ⟨bx, 8, none⟩ (.bool true)) = w3 at *)
          obtain ⟨b0, b1, b2, b3, b4, b5, b6, b7, b8⟩ := BoxS.cells HX.out.2.1
          have bl : bx < w3.heap.size := (Array.getElem?_eq_some_iff.1 HX.out.2.1).1
          clear HB2
          have z2 := (HX.out.1.cell (p := ⟨g, fs.length * 3 + 1, none⟩) hgl1).trans y2
          have zl := Nat.lt_of_lt_of_le hgl1 HX.out.1.size
          have zf : w3.frozen? ⟨g, fs.length * 3 + 1, none⟩ = false := (World.frozen?_of_block (w := w1) (HX.out.1.block g hgl1)).trans (HI1.out.own.frozenAt _)
          have zw := (bhop HI1.out.below HX.out.1).size
          clear y2
          go_wp2_with fail
          go_region_law (refine step_append_lies _ rfl _ _ 151 rfl w0.heap.size 126 j0 _ 9 88 Tryd.underlying151 hj hy0 hy1 hy2 rfl (by decide) (.slice A2 f2.ds.length c2) f2.ds.length (f2.ds.flatMap fun _ => zS9) rfl ((own_chg (hpv2 ▸ HOW.out) (Chg.of_below (R := fun _ => False) HX.out.1) fun _ _ => id).alloc _).drew ⟨w3.heap.size, 0, none⟩ 1 1 zS9 rfl rfl (World.news_of_block (w := (w3.alloc (.cells #[.int .i64 0, .int .u64 0, .int .u64 0, .int .u64 0, .int .u64 0, .slice none 0 0, .int .i64 0, .int .i64 0, .bool true] 126)).drew) (heap_alloc_new w3 _)) (by simp [Value.oneCell']) (by decide) (by unfold maxLen; omega) (by omega) (by simp; omega) _ rfl ?_; intro g5 cap5 w5 hown5 hgrow5 hat5 hlt5; have c5 : w5.heap[g]? = w3.heap[g]? := (hgrow5.block g (by simp; omega) (fun e => own_type HOW.out HI1.out.own HTY.out.2.2 (x := g) (by rw [hpv2]; exact e.symm) rfl)).trans (Below.heap_alloc w3 _ _ zl); have d5 := (World.cell?_of_block (w := w3) c5 : w5.cell? ⟨g, fs.length * 3 + 1, none⟩ = _).trans z2; have f5' := (World.frozen?_of_block (w := w3) c5 : w5.frozen? ⟨g, fs.length * 3 + 1, none⟩ = _).trans zf; have HP := Lib.hid (StkI.pop (ob := .cells #[.int .i64 0, .int .u64 0, .int .u64 0, .int .u64 0, .int .u64 0, .slice none 0 0, .int .i64 0, .int .i64 0, .bool true] 126) (w2 := w3.drew) HI1.out HTY.out.1 HTY.out.2.1 HTY.out.2.2 HX.out.1.drew (hpv2 ▸ hgrow5) hown5 (fun x hx => by have e1 : g5 = x := Option.some.inj hx; rw [hpv2]; exact hat5.elim (fun e => .inl (e1 ▸ e)) (fun e => .inr (by have h7 := HX.out.1.size; rw [← e1, e]; simp; omega))) HD.out.2.1); clear hown5 hgrow5 hat5 c5)
          all_goals
            go_wp2_with fail
            go_roundw
            case rel => exact ⟨_, _, _, HP.out, by rw [HI.out.2.2.1.1]; simp, HI.out.2.2.1.2, rfl, by have h4 := HI.out.2.2.2.1; have h5 := HI.out.2.2.2.2; simp only [wFs] at h4 h5 ⊢; omega⟩
            case measure =>
              refine Nat.lt_of_le_of_lt ((leastOf_spec ⟨_, _, _, HP.out, by rw [HI.out.2.2.1.1]; simp, HI.out.2.2.1.2, rfl, by have h4 := HI.out.2.2.2.1; have h5 := HI.out.2.2.2.2; simp only [wFs] at h4 h5 ⊢; omega⟩).2 _ ⟨_, _, HP.out, by rw [HI.out.2.2.1.1]; simp, HI.out.2.2.1.2, rfl, by have h4 := HI.out.2.2.2.1; have h5 := HI.out.2.2.2.2; simp only [wFs] at h4 h5 ⊢; omega⟩) ?_
              rw [HI.out.2.2.2.1]
              simp only [wFs]
              omega
    · have HI1 := Lib.hid (HI.out.1.next HD.out.2.1 HTY.out.1 HTY.out.2.1 HTY.out.2.2 HC.out.1 hNH)
      have HOP1 := Lib.hid (opened_anyS B pb po p w1 hnp)
      have hmem : p ∈ flatsV f.t.kind f.t.ps := by rw [HI.out.2.1, htd]; simp
      have HPS := Lib.hid (HD.out.1 f.t p (HI1.out.fr _ (List.mem_cons_self ..)).s hmem)
      have HNP := Lib.hid (And.intro hnp (And.intro htd hwt))
      have hgl1 : g < w1.heap.size := (HI1.out.own.lt g rfl).2
      clear hNH hnp htd hwt hNX hmem
      go_wp2_with fail
      go_at_call 80
      refine HOP1.out.mono ?_
      rintro e w2 ⟨rv2, st2, rfl, hown2, hrows2, htd2, hwt2, hb2⟩
      have HFN := Lib.hid (show FrOk B w0.heap.size 126 9 (fun _ => zS9) S ⟨pb, po, p, [], .slice none 0 0, rv2, st2⟩ w2 from ⟨HNP.out.1.chg (Chg.of_below hb2), HPS.out, World.ownsRow_nil _ _ _ _, own_low hown2 HI1.out.below.size, hrows2⟩)
      have HR2 := Lib.hid (And.intro (fun x hx => (hown2.lt x hx).1) (And.intro htd2 (And.intro hwt2 hb2)))
      have zl := Nat.lt_of_lt_of_le hgl1 hb2.size
      have zw : w0.heap.size ≤ w2.heap.size := (bhop HI1.out.below hb2).size
      clear hown2 hrows2 htd2 hwt2 hb2
      go_wp2_with ((at_builtin; refine wpList_append_lies _ (by rfl) _ _ 156 (by rfl) w0.heap.size 154 i0 _ 3 56 Tryd.underlying156 hi hz0 hz1 hz2 rfl (by decide) (.slice (some ⟨g, 0, none⟩) (fs.length + 1) cap) (fs.length + 1) (({ f with st := st', rv := rv' } :: fs).reverse.flatMap fcells) (by rfl) ((own_chg HI1.out.own (Chg.of_below (R := fun _ => False) HR2.out.2.2.2) fun _ _ => id).alloc _) ⟨w2.heap.size, 0, none⟩ 1 1 [.pointer (some ⟨pb, po, none⟩), .slice none 0 0, rv2] (by rfl) ?c0 ?c1 ?c2 (by decide) ?c3 ?c4 ?c5 _ rfl ?_))
      case c0 => rfl
      case c1 => exact World.news_of_block (heap_alloc_new w2 _)
      case c2 =>
        obtain ⟨A3, c3, e3⟩ := own_form HFN.out.rest
        simp only at e3
        rw [e3]
        simp [Value.oneCell']
      case c3 => unfold maxLen; omega
      case c4 => omega
      case c5 => simp; omega
      intro g5 cap5 w5 hown5 hgrow5 hat5 hlt5
      have HP := Lib.hid (StkI.push HI1.out HTY.out.1 HTY.out.2.2 HR2.out.2.2.2 HFN.out rfl (fun x hx => HR2.out.1 x hx) hgrow5 (by rw [rev_cells, List.append_assoc]; exact hown5) HD.out.2.1)
      have hm1 : wFs (⟨pb, po, p, [], .slice none 0 0, rv2, st2⟩ :: { f with st := st', rv := rv' } :: fs) < wFs (f :: fs) := by
        have h4 := HNP.out.2.2
        have h5 := HR2.out.2.2.1
        rw [sz_eq] at h4
        simp only [wFs]
        omega
      have HL := Lib.hid (show LFoldS w0 B S root (wFs (⟨pb, po, p, [], .slice none 0 0, rv2, st2⟩ :: { f with st := st', rv := rv' } :: fs)) (.slice (some ⟨g5, 0, none⟩) (fs.length + 1 + 1) cap5) w5 from
        ⟨_, _, HP.out, by rw [HR2.out.2.1]; rfl, ⟨by rw [HI.out.2.1, HNP.out.2.1], HI.out.2.2.1⟩, rfl, by have h4 := HI.out.2.2.2.1; have h5 := HI.out.2.2.2.2; omega⟩)
      have HM1 := Lib.hid hm1
      clear hown5 hgrow5 hat5 hm1
      go_wp2_with fail
      go_roundw
      case rel => exact ⟨_, HL.out⟩
      case measure =>
        refine Nat.lt_of_le_of_lt ((leastOf_spec ⟨_, HL.out⟩).2 _ HL.out) ?_
        rw [HI.out.2.2.2.1]
        exact HM1.out

end Go.Proofs.YtnebfniekeknaaaDoor
