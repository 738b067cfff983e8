/- The document's own reader: an atom: contracts.
   Conditions: the reader's cells are as 'Rr' says, the text has at most 1000 bytes; what is read between brackets is as is said. -/
import Derived.Test.YtbodgadbhldbmaaRdrF
namespace Go.Proofs.Ytbodgadbhldbmaa
open Go.RowKit

theorem laid_on {w3 w4 wz : World} {v : V} {o : Obj} {rb B : Nat} (h : Laid w3 (fun b => B ≤ b) v) (hw : w3.alloc o = w4) (hc : Chg (fun x => x = rb) w4 wz) (hB : rb < B) : Laid wz (fun b => B ≤ b) v := by
  subst hw
  exact (h.chg ((Chg.refl (fun _ => False) w3).alloc o) (fun _ _ _ h => h)).chg hc fun b _ hb e => by omega
theorem laid_store8 {wz w w1 : World} {v : V} (h : Laid wz (fun b => w1.heap.size ≤ b) v) (hB : w.heap.size < w1.heap.size) (a0 a1 a2 a3 a4 a5 a6 a7 : Value) : Laid (store8 wz w.heap.size 0 a0 a1 a2 a3 a4 a5 a6 a7) (fun b => w.heap.size ≤ b) v := by
  have hc : Chg (fun x => x = w.heap.size) wz (store8 wz w.heap.size 0 a0 a1 a2 a3 a4 a5 a6 a7) := store8_chg (R := fun x => x = w.heap.size) (Chg.refl _ _) (fun _ => rfl) 0 a0 a1 a2 a3 a4 a5 a6 a7
  exact (h.chg hc fun b _ hb e => by omega).mono fun b _ hb => by omega

theorem dot_start (w1 : World) (rb k : Nat) : Bools ((w1.setCell ⟨rb, 1, none⟩ (.int .i64 ((k : Int) + 1))).alloc (.cells (Array.replicate 256 (.bool false)) 86)) w1.heap.size (fun y => decide (y < 0)) ∧ BFree ((w1.setCell ⟨rb, 1, none⟩ (.int .i64 ((k : Int) + 1))).alloc (.cells (Array.replicate 256 (.bool false)) 86)) w1.heap.size ∧ w1.heap.size < ((w1.setCell ⟨rb, 1, none⟩ (.int .i64 ((k : Int) + 1))).alloc (.cells (Array.replicate 256 (.bool false)) 86)).heap.size ∧ Chg (fun x => x = w1.heap.size) (w1.setCell ⟨rb, 1, none⟩ (.int .i64 ((k : Int) + 1))) ((w1.setCell ⟨rb, 1, none⟩ (.int .i64 ((k : Int) + 1))).alloc (.cells (Array.replicate 256 (.bool false)) 86)) := by
  have e : (w1.setCell ⟨rb, 1, none⟩ (.int .i64 ((k : Int) + 1))).heap.size = w1.heap.size := by simp
  have c := bools_new (w1.setCell ⟨rb, 1, none⟩ (.int .i64 ((k : Int) + 1)))
  have f := bfree_new (w1.setCell ⟨rb, 1, none⟩ (.int .i64 ((k : Int) + 1)))
  rw [e] at c f
  exact ⟨c.congr fun i _ => by simp, f, by simp, (Chg.refl _ _).alloc _⟩
theorem dot_step {w0 wq : World} {bb j : Nat} (hB : Bools wq bb (fun y => decide (y < j))) (hF : BFree wq bb) (hsz : bb < wq.heap.size) (hC : Chg (fun x => x = bb) w0 wq) :
    Bools (wq.setCell ⟨bb, j, none⟩ (.bool true)) bb (fun y => decide (y < j + 1)) ∧ BFree (wq.setCell ⟨bb, j, none⟩ (.bool true)) bb ∧ bb < (wq.setCell ⟨bb, j, none⟩ (.bool true)).heap.size ∧ Chg (fun x => x = bb) w0 (wq.setCell ⟨bb, j, none⟩ (.bool true)) :=
  ⟨hB.set.congr fun i _ => by
    by_cases e : i = j
    · subst e; simp
    · rw [if_neg e]; rw [decide_eq_decide]; omega, hF.set, by simpa using hsz, hC.setCell (p := ⟨bb, j, none⟩) (fun _ => rfl) _⟩
theorem dot_sf {w w1 wq : World} {rb k : Nat} {s : ByteArray} {pl e V : Int} (h : Sf w rb s k pl e (w1.setCell ⟨rb, 1, none⟩ (.int .i64 V))) (hC : Chg (fun x => x = w1.heap.size) (w1.setCell ⟨rb, 1, none⟩ (.int .i64 V)) wq) (hrb : rb < w1.heap.size) : Sf w rb s k pl e wq := by
  have hsz := h.2.size
  simp at hsz
  exact ⟨h.1.keep hC (by omega), h.2.trans hC fun x hx e => by omega⟩

set_option maxHeartbeats 4000000 in
set_option maxRecDepth 100000 in
theorem atomR_nil (w : World) (rb k : Nat)  (s : ByteArray) (pl : Int) (h : Rr w rb s k pl 0) (ht : Tl s k ([])) (hs : s.size ≤ 1000) :
    Calls Try.prog 43 #[.pointer (some ⟨rb, 0, none⟩)] w (Atr (atmO ([])) k s w rb pl) := by
  have hne : w.heap.size ≠ rb := by have := h.lt; omega
  have hrb := h.lt
  have HNE := Lib.hid hne
  have HT := Lib.hid (And.intro ht hs)
  have HR0 := Lib.hid (h.keep ((Chg.refl (fun _ => False) w).alloc (.cells #[.int .i64 0, .int .u64 0, .int .u64 0, .int .u64 0, .int .u64 0, .slice none 0 0, .int .i64 0, .int .i64 0] 28)) id)
  clear ht hs h
  go_enter Try.func43, Try.ntmps43
  go_wp2_with fail
  go_at_call 45

  refine (nextR_end _ rb k s pl HR0.out HT.out.1).mono ?_
  rintro x wz ⟨rfl, h1⟩
  have HS := Lib.hid h1
  clear h1

  have hres := hres_of HS.out
  obtain ⟨⟨q0, q1, q2, q3⟩, ⟨q4, q5, q6, q7⟩, qf⟩ := res_cells hres
  have f0 := qf 0
  have f1 := qf 1
  have f2 := qf 2
  have f3 := qf 3
  have f4 := qf 4
  have f5 := qf 5
  have f6 := qf 6
  have f7 := qf 7
  clear hres qf
  go_wp2_with fail
  refine bodyPost_ret (v := .tuple #[.agg #[.int .i64 0, .int .u64 0, .int .u64 0, .int .u64 0, .int .u64 0, .slice none 0 0, .int .i64 0, .int .i64 0], .bool false]) (by simp [results, Try.results43, go_sem, q0, q1, q2, q3, q4, q5, q6, q7]) rfl ?_
  exact ⟨rfl, sf_store8 (sf_in HS.out) HNE.out _ _ _ _ _ _ _ _⟩

set_option maxHeartbeats 4000000 in
set_option maxRecDepth 100000 in
theorem atomR_two (w : World) (rb k : Nat) (b : Nat) (r : List Nat) (s : ByteArray) (pl : Int) (h : Rr w rb s k pl 0) (ht : Tl s k (b :: r)) (hs : s.size ≤ 1000) (h2 : b = 41 ∨ b = 124) :
    Calls Try.prog 43 #[.pointer (some ⟨rb, 0, none⟩)] w (Atr (atmO (b :: r)) k s w rb pl) := by
  have hne : w.heap.size ≠ rb := by have := h.lt; omega
  have hrb := h.lt
  have HNE := Lib.hid hne
  have HT := Lib.hid (And.intro ht hs)
  have HR0 := Lib.hid (h.keep ((Chg.refl (fun _ => False) w).alloc (.cells #[.int .i64 0, .int .u64 0, .int .u64 0, .int .u64 0, .int .u64 0, .slice none 0 0, .int .i64 0, .int .i64 0] 28)) id)
  clear ht hs h
  have hb := HT.out.1.byte
  have b1 : (0 : Int) ≤ (b : Int) := by omega
  have b2 : (b : Int) ≤ 255 := by omega
  have b3 : ¬ (b : Int) < 0 := by omega
  have b4 : (k : Int) < 1000 := by have := HT.out.1.lt; have := HT.out.2; omega
  have HBT := Lib.hid hb
  clear hb

  have hO : atmO (b :: r) = none := by show (if b = 41 ∨ b = 124 then none else some (patm (b :: r))) = _; rw [if_pos h2]
  have hm : [41, 124].contains b = true := List.contains_iff_mem.2 (by simp; exact h2)
  rw [hO]
  have HM := Lib.hid hm
  clear hO h2 hm

  go_enter Try.func43, Try.ntmps43
  go_wp2_with fail
  go_at_call 45

  refine (nextR_in _ rb k b r s pl HR0.out HT.out.1).mono ?_
  rintro x w1 ⟨rfl, h1⟩
  have H1 := Lib.hid h1
  clear h1
  go_wp2_with fail
  go_at_call 48
  refine (in_any _ b w1 (by decide)).mono ?_
  rintro x w2 ⟨rfl, rfl⟩
  rw [txt_two]
  rw [HM.out]
  have HS := Lib.hid H1.out

  have hres := hres_of HS.out
  obtain ⟨⟨q0, q1, q2, q3⟩, ⟨q4, q5, q6, q7⟩, qf⟩ := res_cells hres
  have f0 := qf 0
  have f1 := qf 1
  have f2 := qf 2
  have f3 := qf 3
  have f4 := qf 4
  have f5 := qf 5
  have f6 := qf 6
  have f7 := qf 7
  clear hres qf
  go_wp2_with fail
  refine bodyPost_ret (v := .tuple #[.agg #[.int .i64 0, .int .u64 0, .int .u64 0, .int .u64 0, .int .u64 0, .slice none 0 0, .int .i64 0, .int .i64 0], .bool false]) (by simp [results, Try.results43, go_sem, q0, q1, q2, q3, q4, q5, q6, q7]) rfl ?_
  exact ⟨rfl, sf_store8 (sf_in HS.out) HNE.out _ _ _ _ _ _ _ _⟩

set_option maxHeartbeats 4000000 in
set_option maxRecDepth 100000 in
theorem atomR_six (w : World) (rb k : Nat) (b : Nat) (r : List Nat) (s : ByteArray) (pl : Int) (h : Rr w rb s k pl 0) (ht : Tl s k (b :: r)) (hs : s.size ≤ 1000) (h6 : b = 93 ∨ b = 125 ∨ b = 42 ∨ b = 43 ∨ b = 63 ∨ b = 123) :
    Calls Try.prog 43 #[.pointer (some ⟨rb, 0, none⟩)] w (Atr (atmO (b :: r)) k s w rb pl) := by
  have hne : w.heap.size ≠ rb := by have := h.lt; omega
  have hrb := h.lt
  have HNE := Lib.hid hne
  have HT := Lib.hid (And.intro ht hs)
  have HR0 := Lib.hid (h.keep ((Chg.refl (fun _ => False) w).alloc (.cells #[.int .i64 0, .int .u64 0, .int .u64 0, .int .u64 0, .int .u64 0, .slice none 0 0, .int .i64 0, .int .i64 0] 28)) id)
  clear ht hs h
  have hb := HT.out.1.byte
  have b1 : (0 : Int) ≤ (b : Int) := by omega
  have b2 : (b : Int) ≤ 255 := by omega
  have b3 : ¬ (b : Int) < 0 := by omega
  have b4 : (k : Int) < 1000 := by have := HT.out.1.lt; have := HT.out.2; omega
  have HBT := Lib.hid hb
  clear hb

  have h2 : ¬ (b = 41 ∨ b = 124) := by omega

  have hO : atmO (b :: r) = some (patm (b :: r)) := by show (if b = 41 ∨ b = 124 then none else some (patm (b :: r))) = _; rw [if_neg h2]
  have hm : [41, 124].contains b = false := by rw [Bool.eq_false_iff, Ne, List.contains_iff_mem]; simp; omega
  rw [hO]
  clear hO
  have HM := Lib.hid hm
  clear hm

  have hm2 : [93, 125, 42, 43, 63, 123].contains b = true := List.contains_iff_mem.2 (by simp; exact h6)
  have HP := Lib.hid (patm_bad r h6)
  have HM2 := Lib.hid hm2
  clear hm2 h2 h6

  go_enter Try.func43, Try.ntmps43
  go_wp2_with fail
  go_at_call 45

  refine (nextR_in _ rb k b r s pl HR0.out HT.out.1).mono ?_
  rintro x w1 ⟨rfl, h1⟩
  have H1 := Lib.hid h1
  clear h1
  go_wp2_with fail
  go_at_call 48
  refine (in_any _ b w1 (by decide)).mono ?_
  rintro x w2 ⟨rfl, rfl⟩
  rw [txt_two]
  rw [HM.out]
  go_wp2_with fail
  go_at_call 48
  refine (in_any _ b w1 (by decide)).mono ?_
  rintro x w2 ⟨rfl, rfl⟩
  rw [txt_six]

  rw [HM2.out]
  have z1 := H1.out.1.pos
  have z2 := H1.out.1.lt
  go_wp2_with fail
  go_at_call 25
  refine (failR_ok _ rb k s pl k 2 H1.out.1).mono ?_
  rintro x wz ⟨rfl, h6⟩
  have HS := Lib.hid (H1.out.trans h6)
  clear h6 z1 z2

  have hres := hres_of HS.out
  obtain ⟨⟨q0, q1, q2, q3⟩, ⟨q4, q5, q6, q7⟩, qf⟩ := res_cells hres
  have f0 := qf 0
  have f1 := qf 1
  have f2 := qf 2
  have f3 := qf 3
  have f4 := qf 4
  have f5 := qf 5
  have f6 := qf 6
  have f7 := qf 7
  clear hres qf
  go_wp2_with fail
  refine bodyPost_ret (v := .tuple #[.agg #[.int .i64 0, .int .u64 0, .int .u64 0, .int .u64 0, .int .u64 0, .slice none 0 0, .int .i64 0, .int .i64 0], .bool false]) (by simp [results, Try.results43, go_sem, q0, q1, q2, q3, q4, q5, q6, q7]) rfl ?_
  rw [HP.out]
  exact ⟨.inl rfl, zeroV, none, 0, 0, k, k, false, rfl, HT.out.1, rfl, sf_store8 (sf_in HS.out) HNE.out _ _ _ _ _ _ _ _⟩

set_option maxHeartbeats 4000000 in
set_option maxRecDepth 100000 in
theorem atomR_openE (w : World) (rb k : Nat) (c : Nat) (r r2 : List Nat) (s : ByteArray) (pl : Int) (h : Rr w rb s k pl 0) (ht : Tl s k (40 :: r)) (hs : s.size ≤ 1000) (ih : ∀ (w' : World) (k' : Nat) (r' : List Nat), r'.length ≤ r.length → Rr w' rb s k' pl 0 → Tl s k' r' → Calls Try.prog 24 #[.pointer (some ⟨rb, 0, none⟩)] w' (Alr (pgrp ⟨[], []⟩ [] r') s w' rb pl)) (hx : pgrp ⟨[], []⟩ [] r = .er r2 c) :
    Calls Try.prog 43 #[.pointer (some ⟨rb, 0, none⟩)] w (Atr (atmO (40 :: r)) k s w rb pl) := by
  have hne : w.heap.size ≠ rb := by have := h.lt; omega
  have hrb := h.lt
  have HNE := Lib.hid hne
  have HT := Lib.hid (And.intro ht hs)
  have HR0 := Lib.hid (h.keep ((Chg.refl (fun _ => False) w).alloc (.cells #[.int .i64 0, .int .u64 0, .int .u64 0, .int .u64 0, .int .u64 0, .slice none 0 0, .int .i64 0, .int .i64 0] 28)) id)
  clear ht hs h
  have HI := Lib.hid ih
  clear ih
  obtain ⟨b, hb40⟩ : ∃ b, b = 40 := ⟨_, rfl⟩
  rw [← hb40] at HT ⊢

  have hb := HT.out.1.byte
  have b1 : (0 : Int) ≤ (b : Int) := by omega
  have b2 : (b : Int) ≤ 255 := by omega
  have b3 : ¬ (b : Int) < 0 := by omega
  have b4 : (k : Int) < 1000 := by have := HT.out.1.lt; have := HT.out.2; omega
  have HBT := Lib.hid hb
  clear hb

  have h2 : ¬ (b = 41 ∨ b = 124) := by omega
  have h6 : ¬ (b = 93 ∨ b = 125 ∨ b = 42 ∨ b = 43 ∨ b = 63 ∨ b = 123) := by omega

  have hO : atmO (b :: r) = some (patm (b :: r)) := by show (if b = 41 ∨ b = 124 then none else some (patm (b :: r))) = _; rw [if_neg h2]
  have hm : [41, 124].contains b = false := by rw [Bool.eq_false_iff, Ne, List.contains_iff_mem]; simp; omega
  rw [hO]
  clear hO
  have HM := Lib.hid hm
  clear hm

  have hm2 : [93, 125, 42, 43, 63, 123].contains b = false := by rw [Bool.eq_false_iff, Ne, List.contains_iff_mem]; simp; omega
  have HM2 := Lib.hid hm2
  clear hm2

  subst hb40
  clear h2 h6

  go_enter Try.func43, Try.ntmps43
  go_wp2_with fail
  go_at_call 45

  refine (nextR_in _ rb k 40 r s pl HR0.out HT.out.1).mono ?_
  rintro x w1 ⟨rfl, h1⟩
  have H1 := Lib.hid h1
  clear h1
  go_wp2_with fail
  go_at_call 48
  refine (in_any _ 40 w1 (by decide)).mono ?_
  rintro x w2 ⟨rfl, rfl⟩
  rw [txt_two]
  rw [HM.out]
  go_wp2_with fail
  go_at_call 48
  refine (in_any _ 40 w1 (by decide)).mono ?_
  rintro x w2 ⟨rfl, rfl⟩
  rw [txt_six]
  rw [HM2.out]
  have z1 := H1.out.1.pos
  have z2 := H1.out.1.lt
  have z3 := H1.out.1.frz 1
  have HS0 := Lib.hid (H1.out.set1 (k' := k + 1) (v := .int .i64 ((k : Int) + 1)) (by simp))

  go_wp2_with fail
  go_at_call 24
  refine (HI.out _ (k + 1) r (Nat.le_refl _) HS0.out.1 HT.out.1.tail).mono ?_
  intro x w3 hA
  clear z1 z2 z3
  rw [hx] at hA
  obtain ⟨hc, v, sa, sn, sc, k2, p, hsl, ht2, rfl, h3⟩ := hA
  have HS3 := Lib.hid ((HS0.out.trans h3).alloc (.cells #[.int .i64 v.kind, .int .u64 (v.set 0 : Nat), .int .u64 (v.set 1 : Nat), .int .u64 (v.set 2 : Nat), .int .u64 (v.set 3 : Nat), .slice sa sn sc, .int .i64 v.lo, .int .i64 v.hi] 28))
  have HP := Lib.hid (show patm (40 :: r) = .er r2 c by rw [patm_open, hx])
  have HV := Lib.hid (And.intro hc (And.intro hsl ht2))
  have hc0 : ¬ (c : Int) = 0 := by omega
  have HC0 := Lib.hid hc0
  have HNE3 := Lib.hid (show ¬ w3.heap.size = rb by have := h3.1.lt; omega)
  clear h3 hx hc hsl ht2 hc0

  obtain ⟨w4, hw4⟩ : ∃ w4, w3.alloc (.cells #[.int .i64 v.kind, .int .u64 (v.set 0 : Nat), .int .u64 (v.set 1 : Nat), .int .u64 (v.set 2 : Nat), .int .u64 (v.set 3 : Nat), .slice sa sn sc, .int .i64 v.lo, .int .i64 v.hi] 28) = w4 := ⟨_, rfl⟩
  have c4 := node_new hw4
  have HC4 := Lib.hid c4
  rw [hw4] at HS3
  have c4c := c4.1
  obtain ⟨m0, m1, m2, m3, m4, m5, m6, m7⟩ := c4c
  have mlt := c4.2
  clear c4

  go_wp2_with fail
  go_at_call 34
  refine (takeR_bad _ rb k2 41 s _ _ HS3.out.1 HC0.out (by decide)).mono ?_
  rintro x w5 ⟨rfl, h5⟩
  have HS5 := Lib.hid (HS3.out.trans h5)
  have HC5 := Lib.hid (nodeRow_chg HC4.out.1 h5.2 HC4.out.2 HNE3.out)
  have HSZ5 := Lib.hid h5.2.size
  have z1 := h5.1.pos
  have z2 := h5.1.lt
  clear h5 m0 m1 m2 m3 m4 m5 m6 m7
  go_wp2_with fail
  go_at_call 25
  refine (failR_bad _ rb k2 s _ _ _ _ HS5.out.1 HC0.out).mono ?_
  rintro x wz ⟨rfl, h6⟩
  have HS := Lib.hid (HS5.out.trans h6)
  obtain ⟨n0, n1, n2, n3, n4, n5, n6, n7⟩ := nodeRow_chg HC5.out h6.2 (Nat.lt_of_lt_of_le HC4.out.2 HSZ5.out) HNE3.out
  clear h6 z1 z2

  have hres := hres_of HS.out
  obtain ⟨⟨q0, q1, q2, q3⟩, ⟨q4, q5, q6, q7⟩, qf⟩ := res_cells hres
  have f0 := qf 0
  have f1 := qf 1
  have f2 := qf 2
  have f3 := qf 3
  have f4 := qf 4
  have f5 := qf 5
  have f6 := qf 6
  have f7 := qf 7
  clear hres qf
  go_wp2_with fail
  refine bodyPost_ret (v := .tuple #[.agg #[.int .i64 v.kind, .int .u64 (v.set 0 : Nat), .int .u64 (v.set 1 : Nat), .int .u64 (v.set 2 : Nat), .int .u64 (v.set 3 : Nat), .slice sa sn sc, .int .i64 v.lo, .int .i64 v.hi], .bool true]) (by simp [results, Try.results43, go_sem, q0, q1, q2, q3, q4, q5, q6, q7]) rfl ?_
  rw [HP.out]
  exact ⟨HV.out.1, v, sa, sn, sc, k2, p, true, HV.out.2.1, HV.out.2.2, rfl, sf_store8 (sf_in HS.out) HNE.out _ _ _ _ _ _ _ _⟩

set_option maxHeartbeats 4000000 in
set_option maxRecDepth 100000 in
theorem atomR_openN (w : World) (rb k : Nat) (r : List Nat) (g : G) (s : ByteArray) (pl : Int) (h : Rr w rb s k pl 0) (ht : Tl s k (40 :: r)) (hs : s.size ≤ 1000) (ih : ∀ (w' : World) (k' : Nat) (r' : List Nat), r'.length ≤ r.length → Rr w' rb s k' pl 0 → Tl s k' r' → Calls Try.prog 24 #[.pointer (some ⟨rb, 0, none⟩)] w' (Alr (pgrp ⟨[], []⟩ [] r') s w' rb pl)) (hx : pgrp ⟨[], []⟩ [] r = .ok g []) :
    Calls Try.prog 43 #[.pointer (some ⟨rb, 0, none⟩)] w (Atr (atmO (40 :: r)) k s w rb pl) := by
  have hne : w.heap.size ≠ rb := by have := h.lt; omega
  have hrb := h.lt
  have HNE := Lib.hid hne
  have HT := Lib.hid (And.intro ht hs)
  have HR0 := Lib.hid (h.keep ((Chg.refl (fun _ => False) w).alloc (.cells #[.int .i64 0, .int .u64 0, .int .u64 0, .int .u64 0, .int .u64 0, .slice none 0 0, .int .i64 0, .int .i64 0] 28)) id)
  clear ht hs h
  have HI := Lib.hid ih
  clear ih
  obtain ⟨b, hb40⟩ : ∃ b, b = 40 := ⟨_, rfl⟩
  rw [← hb40] at HT ⊢

  have hb := HT.out.1.byte
  have b1 : (0 : Int) ≤ (b : Int) := by omega
  have b2 : (b : Int) ≤ 255 := by omega
  have b3 : ¬ (b : Int) < 0 := by omega
  have b4 : (k : Int) < 1000 := by have := HT.out.1.lt; have := HT.out.2; omega
  have HBT := Lib.hid hb
  clear hb

  have h2 : ¬ (b = 41 ∨ b = 124) := by omega
  have h6 : ¬ (b = 93 ∨ b = 125 ∨ b = 42 ∨ b = 43 ∨ b = 63 ∨ b = 123) := by omega

  have hO : atmO (b :: r) = some (patm (b :: r)) := by show (if b = 41 ∨ b = 124 then none else some (patm (b :: r))) = _; rw [if_neg h2]
  have hm : [41, 124].contains b = false := by rw [Bool.eq_false_iff, Ne, List.contains_iff_mem]; simp; omega
  rw [hO]
  clear hO
  have HM := Lib.hid hm
  clear hm

  have hm2 : [93, 125, 42, 43, 63, 123].contains b = false := by rw [Bool.eq_false_iff, Ne, List.contains_iff_mem]; simp; omega
  have HM2 := Lib.hid hm2
  clear hm2

  subst hb40
  clear h2 h6

  go_enter Try.func43, Try.ntmps43
  go_wp2_with fail
  go_at_call 45

  refine (nextR_in _ rb k 40 r s pl HR0.out HT.out.1).mono ?_
  rintro x w1 ⟨rfl, h1⟩
  have H1 := Lib.hid h1
  clear h1
  go_wp2_with fail
  go_at_call 48
  refine (in_any _ 40 w1 (by decide)).mono ?_
  rintro x w2 ⟨rfl, rfl⟩
  rw [txt_two]
  rw [HM.out]
  go_wp2_with fail
  go_at_call 48
  refine (in_any _ 40 w1 (by decide)).mono ?_
  rintro x w2 ⟨rfl, rfl⟩
  rw [txt_six]
  rw [HM2.out]
  have z1 := H1.out.1.pos
  have z2 := H1.out.1.lt
  have z3 := H1.out.1.frz 1
  have HS0 := Lib.hid (H1.out.set1 (k' := k + 1) (v := .int .i64 ((k : Int) + 1)) (by simp))

  go_wp2_with fail
  go_at_call 24
  refine (HI.out _ (k + 1) r (Nat.le_refl _) HS0.out.1 HT.out.1.tail).mono ?_
  intro x w3 hA
  clear z1 z2 z3
  rw [hx] at hA
  obtain ⟨v, sa, sn, sc, k2, hsl, her, ht2, rfl, h3, hl3⟩ := hA
  have HS3 := Lib.hid ((HS0.out.trans h3).alloc (.cells #[.int .i64 v.kind, .int .u64 (v.set 0 : Nat), .int .u64 (v.set 1 : Nat), .int .u64 (v.set 2 : Nat), .int .u64 (v.set 3 : Nat), .slice sa sn sc, .int .i64 v.lo, .int .i64 v.hi] 28))
  have HP := Lib.hid (show patm (40 :: r) = .er [] 2 by rw [patm_open, hx])
  have HV := Lib.hid (And.intro hsl (And.intro her (And.intro ht2 hl3)))
  have HSW := Lib.hid (show w.heap.size < w1.heap.size from by have := H1.out.2.size; simp at this; omega)
  have HNE3 := Lib.hid (show ¬ w3.heap.size = rb by have := h3.1.lt; omega)
  clear h3 hx hsl ht2 her hl3

  obtain ⟨w4, hw4⟩ : ∃ w4, w3.alloc (.cells #[.int .i64 v.kind, .int .u64 (v.set 0 : Nat), .int .u64 (v.set 1 : Nat), .int .u64 (v.set 2 : Nat), .int .u64 (v.set 3 : Nat), .slice sa sn sc, .int .i64 v.lo, .int .i64 v.hi] 28) = w4 := ⟨_, rfl⟩
  have c4 := node_new hw4
  have HC4 := Lib.hid c4
  rw [hw4] at HS3
  have c4c := c4.1
  obtain ⟨m0, m1, m2, m3, m4, m5, m6, m7⟩ := c4c
  have mlt := c4.2
  clear c4

  go_wp2_with fail
  go_at_call 34
  refine (takeR_end _ rb k2 41 s pl HS3.out.1 HV.out.2.2.1 (by decide)).mono ?_
  rintro x w5 ⟨rfl, h5⟩
  have HS5 := Lib.hid (HS3.out.trans h5)
  have HC5 := Lib.hid (nodeRow_chg HC4.out.1 h5.2 HC4.out.2 HNE3.out)
  have HSZ5 := Lib.hid h5.2.size
  have z1 := h5.1.pos
  have z2 := h5.1.lt
  clear h5 m0 m1 m2 m3 m4 m5 m6 m7
  go_wp2_with fail
  go_at_call 25
  refine (failR_ok _ rb k2 s pl k2 2 HS5.out.1).mono ?_
  rintro x wz ⟨rfl, h6⟩
  have HS := Lib.hid (HS5.out.trans h6)
  obtain ⟨n0, n1, n2, n3, n4, n5, n6, n7⟩ := nodeRow_chg HC5.out h6.2 (Nat.lt_of_lt_of_le HC4.out.2 HSZ5.out) HNE3.out
  clear h6 z1 z2

  have hres := hres_of HS.out
  obtain ⟨⟨q0, q1, q2, q3⟩, ⟨q4, q5, q6, q7⟩, qf⟩ := res_cells hres
  have f0 := qf 0
  have f1 := qf 1
  have f2 := qf 2
  have f3 := qf 3
  have f4 := qf 4
  have f5 := qf 5
  have f6 := qf 6
  have f7 := qf 7
  clear hres qf
  go_wp2_with fail
  refine bodyPost_ret (v := .tuple #[.agg #[.int .i64 v.kind, .int .u64 (v.set 0 : Nat), .int .u64 (v.set 1 : Nat), .int .u64 (v.set 2 : Nat), .int .u64 (v.set 3 : Nat), .slice sa sn sc, .int .i64 v.lo, .int .i64 v.hi], .bool true]) (by simp [results, Try.results43, go_sem, q0, q1, q2, q3, q4, q5, q6, q7]) rfl ?_
  rw [HP.out]
  exact ⟨.inl rfl, v, sa, sn, sc, k2, k2, true, HV.out.1, HV.out.2.2.1, rfl, sf_store8 (sf_in HS.out) HNE.out _ _ _ _ _ _ _ _⟩

set_option maxHeartbeats 4000000 in
set_option maxRecDepth 100000 in
theorem atomR_openY (w : World) (rb k : Nat) (r r2 : List Nat) (g : G) (s : ByteArray) (pl : Int) (h : Rr w rb s k pl 0) (ht : Tl s k (40 :: r)) (hs : s.size ≤ 1000) (ih : ∀ (w' : World) (k' : Nat) (r' : List Nat), r'.length ≤ r.length → Rr w' rb s k' pl 0 → Tl s k' r' → Calls Try.prog 24 #[.pointer (some ⟨rb, 0, none⟩)] w' (Alr (pgrp ⟨[], []⟩ [] r') s w' rb pl)) (hx : pgrp ⟨[], []⟩ [] r = .ok g (41 :: r2)) :
    Calls Try.prog 43 #[.pointer (some ⟨rb, 0, none⟩)] w (Atr (atmO (40 :: r)) k s w rb pl) := by
  have hne : w.heap.size ≠ rb := by have := h.lt; omega
  have hrb := h.lt
  have HNE := Lib.hid hne
  have HT := Lib.hid (And.intro ht hs)
  have HR0 := Lib.hid (h.keep ((Chg.refl (fun _ => False) w).alloc (.cells #[.int .i64 0, .int .u64 0, .int .u64 0, .int .u64 0, .int .u64 0, .slice none 0 0, .int .i64 0, .int .i64 0] 28)) id)
  clear ht hs h
  have HI := Lib.hid ih
  clear ih
  obtain ⟨b, hb40⟩ : ∃ b, b = 40 := ⟨_, rfl⟩
  rw [← hb40] at HT ⊢

  have hb := HT.out.1.byte
  have b1 : (0 : Int) ≤ (b : Int) := by omega
  have b2 : (b : Int) ≤ 255 := by omega
  have b3 : ¬ (b : Int) < 0 := by omega
  have b4 : (k : Int) < 1000 := by have := HT.out.1.lt; have := HT.out.2; omega
  have HBT := Lib.hid hb
  clear hb

  have h2 : ¬ (b = 41 ∨ b = 124) := by omega
  have h6 : ¬ (b = 93 ∨ b = 125 ∨ b = 42 ∨ b = 43 ∨ b = 63 ∨ b = 123) := by omega

  have hO : atmO (b :: r) = some (patm (b :: r)) := by show (if b = 41 ∨ b = 124 then none else some (patm (b :: r))) = _; rw [if_neg h2]
  have hm : [41, 124].contains b = false := by rw [Bool.eq_false_iff, Ne, List.contains_iff_mem]; simp; omega
  rw [hO]
  clear hO
  have HM := Lib.hid hm
  clear hm

  have hm2 : [93, 125, 42, 43, 63, 123].contains b = false := by rw [Bool.eq_false_iff, Ne, List.contains_iff_mem]; simp; omega
  have HM2 := Lib.hid hm2
  clear hm2

  subst hb40
  clear h2 h6

  go_enter Try.func43, Try.ntmps43
  go_wp2_with fail
  go_at_call 45

  refine (nextR_in _ rb k 40 r s pl HR0.out HT.out.1).mono ?_
  rintro x w1 ⟨rfl, h1⟩
  have H1 := Lib.hid h1
  clear h1
  go_wp2_with fail
  go_at_call 48
  refine (in_any _ 40 w1 (by decide)).mono ?_
  rintro x w2 ⟨rfl, rfl⟩
  rw [txt_two]
  rw [HM.out]
  go_wp2_with fail
  go_at_call 48
  refine (in_any _ 40 w1 (by decide)).mono ?_
  rintro x w2 ⟨rfl, rfl⟩
  rw [txt_six]
  rw [HM2.out]
  have z1 := H1.out.1.pos
  have z2 := H1.out.1.lt
  have z3 := H1.out.1.frz 1
  have HS0 := Lib.hid (H1.out.set1 (k' := k + 1) (v := .int .i64 ((k : Int) + 1)) (by simp))

  go_wp2_with fail
  go_at_call 24
  refine (HI.out _ (k + 1) r (Nat.le_refl _) HS0.out.1 HT.out.1.tail).mono ?_
  intro x w3 hA
  clear z1 z2 z3
  rw [hx] at hA
  obtain ⟨v, sa, sn, sc, k2, hsl, her, ht2, rfl, h3, hl3⟩ := hA
  have HS3 := Lib.hid ((HS0.out.trans h3).alloc (.cells #[.int .i64 v.kind, .int .u64 (v.set 0 : Nat), .int .u64 (v.set 1 : Nat), .int .u64 (v.set 2 : Nat), .int .u64 (v.set 3 : Nat), .slice sa sn sc, .int .i64 v.lo, .int .i64 v.hi] 28))
  have HP := Lib.hid (show patm (40 :: r) = .ok (shutT g) r2 by rw [patm_open, hx])
  have HV := Lib.hid (And.intro hsl (And.intro her (And.intro ht2 hl3)))
  have HSZW := Lib.hid (show rb < w1.heap.size from H1.out.1.lt)
  have HSW := Lib.hid (show w.heap.size < w1.heap.size from by have := H1.out.2.size; simp at this; omega)
  have HNE3 := Lib.hid (show ¬ w3.heap.size = rb by have := h3.1.lt; omega)
  clear h3 hx hsl ht2 her hl3

  obtain ⟨w4, hw4⟩ : ∃ w4, w3.alloc (.cells #[.int .i64 v.kind, .int .u64 (v.set 0 : Nat), .int .u64 (v.set 1 : Nat), .int .u64 (v.set 2 : Nat), .int .u64 (v.set 3 : Nat), .slice sa sn sc, .int .i64 v.lo, .int .i64 v.hi] 28) = w4 := ⟨_, rfl⟩
  have c4 := node_new hw4
  have HC4 := Lib.hid c4
  rw [hw4] at HS3
  have c4c := c4.1
  obtain ⟨m0, m1, m2, m3, m4, m5, m6, m7⟩ := c4c
  have mlt := c4.2
  clear c4

  go_wp2_with fail
  go_at_call 34
  refine (takeR_yes _ rb k2 41 r2 s pl HS3.out.1 HV.out.2.2.1 HT.out.2 (by decide)).mono ?_
  rintro x wz ⟨rfl, h6⟩
  have HS := Lib.hid (HS3.out.trans h6)
  obtain ⟨n0, n1, n2, n3, n4, n5, n6, n7⟩ := nodeRow_chg HC4.out.1 h6.2 HC4.out.2 HNE3.out
  have HLZ := Lib.hid (laid_on HV.out.2.2.2 hw4 h6.2 (by simpa using HSZW.out))
  clear h6 m0 m1 m2 m3 m4 m5 m6 m7

  have hres := hres_of HS.out
  obtain ⟨⟨q0, q1, q2, q3⟩, ⟨q4, q5, q6, q7⟩, qf⟩ := res_cells hres
  have f0 := qf 0
  have f1 := qf 1
  have f2 := qf 2
  have f3 := qf 3
  have f4 := qf 4
  have f5 := qf 5
  have f6 := qf 6
  have f7 := qf 7
  clear hres qf
  go_wp2_with fail
  refine bodyPost_ret (v := .tuple #[.agg #[.int .i64 v.kind, .int .u64 (v.set 0 : Nat), .int .u64 (v.set 1 : Nat), .int .u64 (v.set 2 : Nat), .int .u64 (v.set 3 : Nat), .slice sa sn sc, .int .i64 v.lo, .int .i64 v.hi], .bool true]) (by simp [results, Try.results43, go_sem, q0, q1, q2, q3, q4, q5, q6, q7]) rfl ?_
  rw [HP.out]
  refine ⟨v, sa, sn, sc, k2 + 1, HV.out.1, HV.out.2.1, HV.out.2.2.1.tail, rfl, sf_store8 (sf_in HS.out) HNE.out _ _ _ _ _ _ _ _, ?_⟩
  exact laid_store8 HLZ.out (by simpa using HSW.out) _ _ _ _ _ _ _ _

set_option maxHeartbeats 4000000 in
set_option maxRecDepth 100000 in
theorem atomR_brE (w : World) (rb k : Nat) (c : Nat) (r r2 : List Nat) (s : ByteArray) (pl : Int) (h : Rr w rb s k pl 0) (ht : Tl s k (91 :: r)) (hs : s.size ≤ 1000) (hx : pbrack r = .er r2 c) :
    Calls Try.prog 43 #[.pointer (some ⟨rb, 0, none⟩)] w (Atr (atmO (91 :: r)) k s w rb pl) := by
  have hne : w.heap.size ≠ rb := by have := h.lt; omega
  have hrb := h.lt
  have HNE := Lib.hid hne
  have HT := Lib.hid (And.intro ht hs)
  have HR0 := Lib.hid (h.keep ((Chg.refl (fun _ => False) w).alloc (.cells #[.int .i64 0, .int .u64 0, .int .u64 0, .int .u64 0, .int .u64 0, .slice none 0 0, .int .i64 0, .int .i64 0] 28)) id)
  clear ht hs h
  obtain ⟨b, hb40⟩ : ∃ b, b = 91 := ⟨_, rfl⟩
  rw [← hb40] at HT ⊢

  have hb := HT.out.1.byte
  have b1 : (0 : Int) ≤ (b : Int) := by omega
  have b2 : (b : Int) ≤ 255 := by omega
  have b3 : ¬ (b : Int) < 0 := by omega
  have b4 : (k : Int) < 1000 := by have := HT.out.1.lt; have := HT.out.2; omega
  have HBT := Lib.hid hb
  clear hb

  have h2 : ¬ (b = 41 ∨ b = 124) := by omega
  have h6 : ¬ (b = 93 ∨ b = 125 ∨ b = 42 ∨ b = 43 ∨ b = 63 ∨ b = 123) := by omega

  have hO : atmO (b :: r) = some (patm (b :: r)) := by show (if b = 41 ∨ b = 124 then none else some (patm (b :: r))) = _; rw [if_neg h2]
  have hm : [41, 124].contains b = false := by rw [Bool.eq_false_iff, Ne, List.contains_iff_mem]; simp; omega
  rw [hO]
  clear hO
  have HM := Lib.hid hm
  clear hm

  have hm2 : [93, 125, 42, 43, 63, 123].contains b = false := by rw [Bool.eq_false_iff, Ne, List.contains_iff_mem]; simp; omega
  have HM2 := Lib.hid hm2
  clear hm2

  subst hb40
  clear h2 h6

  go_enter Try.func43, Try.ntmps43
  go_wp2_with fail
  go_at_call 45

  refine (nextR_in _ rb k 91 r s pl HR0.out HT.out.1).mono ?_
  rintro x w1 ⟨rfl, h1⟩
  have H1 := Lib.hid h1
  clear h1
  go_wp2_with fail
  go_at_call 48
  refine (in_any _ 91 w1 (by decide)).mono ?_
  rintro x w2 ⟨rfl, rfl⟩
  rw [txt_two]
  rw [HM.out]
  go_wp2_with fail
  go_at_call 48
  refine (in_any _ 91 w1 (by decide)).mono ?_
  rintro x w2 ⟨rfl, rfl⟩
  rw [txt_six]
  rw [HM2.out]
  have z1 := H1.out.1.pos
  have z2 := H1.out.1.lt
  have z3 := H1.out.1.frz 1
  have HS0 := Lib.hid (H1.out.set1 (k' := k + 1) (v := .int .i64 ((k : Int) + 1)) (by simp))

  go_wp2_with fail
  go_at_call 49
  refine (setR_any _ rb (k + 1) r s pl HS0.out.1 HT.out.1.tail HT.out.2).mono ?_
  intro x wz hA
  clear z1 z2 z3
  rw [hx] at hA

  obtain ⟨rfl, C, k2, p, ht2, rfl, h3⟩ := hA
  have HS := Lib.hid (HS0.out.trans h3)
  have HP := Lib.hid (show patm (91 :: r) = .er r2 2 by rw [patm_brack, hx])
  have HV := Lib.hid ht2
  clear h3 hx ht2

  have hres := hres_of HS.out
  obtain ⟨⟨q0, q1, q2, q3⟩, ⟨q4, q5, q6, q7⟩, qf⟩ := res_cells hres
  have f0 := qf 0
  have f1 := qf 1
  have f2 := qf 2
  have f3 := qf 3
  have f4 := qf 4
  have f5 := qf 5
  have f6 := qf 6
  have f7 := qf 7
  clear hres qf
  go_wp2_with fail
  refine bodyPost_ret (v := .tuple #[.agg #[.int .i64 1, .int .u64 (C 0 : Nat), .int .u64 (C 1 : Nat), .int .u64 (C 2 : Nat), .int .u64 (C 3 : Nat), .slice none 0 0, .int .i64 0, .int .i64 0], .bool true]) (by simp [results, Try.results43, go_sem, q0, q1, q2, q3, q4, q5, q6, q7]) rfl ?_
  rw [HP.out]
  exact ⟨.inl rfl, .node 1 (C) 0 0 (.slice none 0 0) [], none, 0, 0, k2, p, true, rfl, HV.out, rfl, sf_store8 (sf_in HS.out) HNE.out _ _ _ _ _ _ _ _⟩

set_option maxHeartbeats 4000000 in
set_option maxRecDepth 100000 in
theorem atomR_brO (w : World) (rb k : Nat) (S : Nat → Bool) (r r2 : List Nat) (s : ByteArray) (pl : Int) (h : Rr w rb s k pl 0) (ht : Tl s k (91 :: r)) (hs : s.size ≤ 1000) (hx : pbrack r = .ok S r2) :
    Calls Try.prog 43 #[.pointer (some ⟨rb, 0, none⟩)] w (Atr (atmO (91 :: r)) k s w rb pl) := by
  have hne : w.heap.size ≠ rb := by have := h.lt; omega
  have hrb := h.lt
  have HNE := Lib.hid hne
  have HT := Lib.hid (And.intro ht hs)
  have HR0 := Lib.hid (h.keep ((Chg.refl (fun _ => False) w).alloc (.cells #[.int .i64 0, .int .u64 0, .int .u64 0, .int .u64 0, .int .u64 0, .slice none 0 0, .int .i64 0, .int .i64 0] 28)) id)
  clear ht hs h
  obtain ⟨b, hb40⟩ : ∃ b, b = 91 := ⟨_, rfl⟩
  rw [← hb40] at HT ⊢

  have hb := HT.out.1.byte
  have b1 : (0 : Int) ≤ (b : Int) := by omega
  have b2 : (b : Int) ≤ 255 := by omega
  have b3 : ¬ (b : Int) < 0 := by omega
  have b4 : (k : Int) < 1000 := by have := HT.out.1.lt; have := HT.out.2; omega
  have HBT := Lib.hid hb
  clear hb

  have h2 : ¬ (b = 41 ∨ b = 124) := by omega
  have h6 : ¬ (b = 93 ∨ b = 125 ∨ b = 42 ∨ b = 43 ∨ b = 63 ∨ b = 123) := by omega

  have hO : atmO (b :: r) = some (patm (b :: r)) := by show (if b = 41 ∨ b = 124 then none else some (patm (b :: r))) = _; rw [if_neg h2]
  have hm : [41, 124].contains b = false := by rw [Bool.eq_false_iff, Ne, List.contains_iff_mem]; simp; omega
  rw [hO]
  clear hO
  have HM := Lib.hid hm
  clear hm

  have hm2 : [93, 125, 42, 43, 63, 123].contains b = false := by rw [Bool.eq_false_iff, Ne, List.contains_iff_mem]; simp; omega
  have HM2 := Lib.hid hm2
  clear hm2

  subst hb40
  clear h2 h6

  go_enter Try.func43, Try.ntmps43
  go_wp2_with fail
  go_at_call 45

  refine (nextR_in _ rb k 91 r s pl HR0.out HT.out.1).mono ?_
  rintro x w1 ⟨rfl, h1⟩
  have H1 := Lib.hid h1
  clear h1
  go_wp2_with fail
  go_at_call 48
  refine (in_any _ 91 w1 (by decide)).mono ?_
  rintro x w2 ⟨rfl, rfl⟩
  rw [txt_two]
  rw [HM.out]
  go_wp2_with fail
  go_at_call 48
  refine (in_any _ 91 w1 (by decide)).mono ?_
  rintro x w2 ⟨rfl, rfl⟩
  rw [txt_six]
  rw [HM2.out]
  have z1 := H1.out.1.pos
  have z2 := H1.out.1.lt
  have z3 := H1.out.1.frz 1
  have HS0 := Lib.hid (H1.out.set1 (k' := k + 1) (v := .int .i64 ((k : Int) + 1)) (by simp))

  go_wp2_with fail
  go_at_call 49
  refine (setR_any _ rb (k + 1) r s pl HS0.out.1 HT.out.1.tail HT.out.2).mono ?_
  intro x wz hA
  clear z1 z2 z3
  rw [hx] at hA

  obtain ⟨k2, ht2, rfl, h3⟩ := hA
  have HS := Lib.hid (HS0.out.trans h3)
  have HP := Lib.hid (show patm (91 :: r) = .ok (atomT S) r2 by rw [patm_brack, hx])
  have HV := Lib.hid ht2
  clear h3 hx ht2

  have hres := hres_of HS.out
  obtain ⟨⟨q0, q1, q2, q3⟩, ⟨q4, q5, q6, q7⟩, qf⟩ := res_cells hres
  have f0 := qf 0
  have f1 := qf 1
  have f2 := qf 2
  have f3 := qf 3
  have f4 := qf 4
  have f5 := qf 5
  have f6 := qf 6
  have f7 := qf 7
  clear hres qf
  go_wp2_with fail
  refine bodyPost_ret (v := .tuple #[.agg #[.int .i64 1, .int .u64 (canon S 0 : Nat), .int .u64 (canon S 1 : Nat), .int .u64 (canon S 2 : Nat), .int .u64 (canon S 3 : Nat), .slice none 0 0, .int .i64 0, .int .i64 0], .bool true]) (by simp [results, Try.results43, go_sem, q0, q1, q2, q3, q4, q5, q6, q7]) rfl ?_
  rw [HP.out]
  exact ⟨.node 1 (canon (S)) 0 0 (.slice none 0 0) [], none, 0, 0, k2, rfl, rfl, HV.out, rfl, sf_store8 (sf_in HS.out) HNE.out _ _ _ _ _ _ _ _, .none 1 _ 0 0 none 0⟩

set_option maxHeartbeats 4000000 in
set_option maxRecDepth 100000 in
theorem atomR_plain (w : World) (rb k : Nat) (b : Nat) (r : List Nat) (s : ByteArray) (pl : Int) (h : Rr w rb s k pl 0) (ht : Tl s k (b :: r)) (hs : s.size ≤ 1000) (h1 : b ≠ 40) (h3 : b ≠ 46) (h4 : b ≠ 91) (h5 : ¬ b ∈ marks) (h7 : b ≠ 92) :
    Calls Try.prog 43 #[.pointer (some ⟨rb, 0, none⟩)] w (Atr (atmO (b :: r)) k s w rb pl) := by
  have hne : w.heap.size ≠ rb := by have := h.lt; omega
  have hrb := h.lt
  have HNE := Lib.hid hne
  have HT := Lib.hid (And.intro ht hs)
  have HR0 := Lib.hid (h.keep ((Chg.refl (fun _ => False) w).alloc (.cells #[.int .i64 0, .int .u64 0, .int .u64 0, .int .u64 0, .int .u64 0, .slice none 0 0, .int .i64 0, .int .i64 0] 28)) id)
  clear ht hs h
  have hb := HT.out.1.byte
  have b1 : (0 : Int) ≤ (b : Int) := by omega
  have b2 : (b : Int) ≤ 255 := by omega
  have b3 : ¬ (b : Int) < 0 := by omega
  have b4 : (k : Int) < 1000 := by have := HT.out.1.lt; have := HT.out.2; omega
  have HBT := Lib.hid hb
  clear hb

  have h2 : ¬ (b = 41 ∨ b = 124) := fun h => h5 (by unfold marks; simp; omega)
  have h6 : ¬ (b = 93 ∨ b = 125 ∨ b = 42 ∨ b = 43 ∨ b = 63 ∨ b = 123) := fun h => h5 (by unfold marks; simp; omega)

  have hO : atmO (b :: r) = some (patm (b :: r)) := by show (if b = 41 ∨ b = 124 then none else some (patm (b :: r))) = _; rw [if_neg h2]
  have hm : [41, 124].contains b = false := by rw [Bool.eq_false_iff, Ne, List.contains_iff_mem]; simp; omega
  rw [hO]
  clear hO
  have HM := Lib.hid hm
  clear hm

  have hm2 : [93, 125, 42, 43, 63, 123].contains b = false := by rw [Bool.eq_false_iff, Ne, List.contains_iff_mem]; simp; omega
  have HM2 := Lib.hid hm2
  clear hm2

  have HP := Lib.hid (patm_plain (r := r) h1 h3 h4 h5 h7)
  have g1 : ((b : Int) == 40) = false := by rw [beq_eq_false_iff_ne]; omega
  have g2 : ((b : Int) == 91) = false := by rw [beq_eq_false_iff_ne]; omega
  have g3 : ((b : Int) == 46) = false := by rw [beq_eq_false_iff_ne]; omega
  have g4 : ((b : Int) == 92) = false := by rw [beq_eq_false_iff_ne]; omega
  clear h2 h6 h1 h3 h4 h5 h7

  go_enter Try.func43, Try.ntmps43
  go_wp2_with fail
  go_at_call 45

  refine (nextR_in _ rb k b r s pl HR0.out HT.out.1).mono ?_
  rintro x w1 ⟨rfl, h1⟩
  have H1 := Lib.hid h1
  clear h1
  go_wp2_with fail
  go_at_call 48
  refine (in_any _ b w1 (by decide)).mono ?_
  rintro x w2 ⟨rfl, rfl⟩
  rw [txt_two]
  rw [HM.out]
  go_wp2_with fail
  go_at_call 48
  refine (in_any _ b w1 (by decide)).mono ?_
  rintro x w2 ⟨rfl, rfl⟩
  rw [txt_six]
  rw [HM2.out]
  have z1 := H1.out.1.pos
  have z2 := H1.out.1.lt
  have z3 := H1.out.1.frz 1
  have HS0 := Lib.hid (H1.out.set1 (k' := k + 1) (v := .int .i64 ((k : Int) + 1)) (by simp))
  have HS1 := Lib.hid HS0.out

  go_wp2_with fail
  go_at_call 52
  refine (put_class HBT.out _).mono ?_
  clear z1 z2 z3
  rintro x wz ⟨rfl, hbz⟩
  have HS := Lib.hid (HS1.out.keep' hbz)
  clear hbz

  have hres := hres_of HS.out
  obtain ⟨⟨q0, q1, q2, q3⟩, ⟨q4, q5, q6, q7⟩, qf⟩ := res_cells hres
  have f0 := qf 0
  have f1 := qf 1
  have f2 := qf 2
  have f3 := qf 3
  have f4 := qf 4
  have f5 := qf 5
  have f6 := qf 6
  have f7 := qf 7
  clear hres qf
  go_wp2_with fail
  refine bodyPost_ret (v := .tuple #[.agg #[.int .i64 1, .int .u64 (canon (between b b) 0 : Nat), .int .u64 (canon (between b b) 1 : Nat), .int .u64 (canon (between b b) 2 : Nat), .int .u64 (canon (between b b) 3 : Nat), .slice none 0 0, .int .i64 0, .int .i64 0], .bool true]) (by simp [results, Try.results43, go_sem, q0, q1, q2, q3, q4, q5, q6, q7]) rfl ?_
  rw [HP.out]
  exact ⟨.node 1 (canon (between b b)) 0 0 (.slice none 0 0) [], none, 0, 0, k + 1, rfl, rfl, HT.out.1.tail, rfl, sf_store8 (sf_in HS.out) HNE.out _ _ _ _ _ _ _ _, .none 1 _ 0 0 none 0⟩

set_option maxHeartbeats 4000000 in
set_option maxRecDepth 100000 in
theorem atomR_esO (w : World) (rb k : Nat) (a : Nat) (r r2 : List Nat) (s : ByteArray) (pl : Int) (h : Rr w rb s k pl 0) (ht : Tl s k (92 :: r)) (hs : s.size ≤ 1000) (hx : pesc r = .ok a r2) :
    Calls Try.prog 43 #[.pointer (some ⟨rb, 0, none⟩)] w (Atr (atmO (92 :: r)) k s w rb pl) := by
  have hne : w.heap.size ≠ rb := by have := h.lt; omega
  have hrb := h.lt
  have HNE := Lib.hid hne
  have HT := Lib.hid (And.intro ht hs)
  have HR0 := Lib.hid (h.keep ((Chg.refl (fun _ => False) w).alloc (.cells #[.int .i64 0, .int .u64 0, .int .u64 0, .int .u64 0, .int .u64 0, .slice none 0 0, .int .i64 0, .int .i64 0] 28)) id)
  clear ht hs h
  obtain ⟨b, hb40⟩ : ∃ b, b = 92 := ⟨_, rfl⟩
  rw [← hb40] at HT ⊢

  have hb := HT.out.1.byte
  have b1 : (0 : Int) ≤ (b : Int) := by omega
  have b2 : (b : Int) ≤ 255 := by omega
  have b3 : ¬ (b : Int) < 0 := by omega
  have b4 : (k : Int) < 1000 := by have := HT.out.1.lt; have := HT.out.2; omega
  have HBT := Lib.hid hb
  clear hb

  have h2 : ¬ (b = 41 ∨ b = 124) := by omega
  have h6 : ¬ (b = 93 ∨ b = 125 ∨ b = 42 ∨ b = 43 ∨ b = 63 ∨ b = 123) := by omega

  have hO : atmO (b :: r) = some (patm (b :: r)) := by show (if b = 41 ∨ b = 124 then none else some (patm (b :: r))) = _; rw [if_neg h2]
  have hm : [41, 124].contains b = false := by rw [Bool.eq_false_iff, Ne, List.contains_iff_mem]; simp; omega
  rw [hO]
  clear hO
  have HM := Lib.hid hm
  clear hm

  have hm2 : [93, 125, 42, 43, 63, 123].contains b = false := by rw [Bool.eq_false_iff, Ne, List.contains_iff_mem]; simp; omega
  have HM2 := Lib.hid hm2
  clear hm2

  subst hb40
  clear h2 h6

  go_enter Try.func43, Try.ntmps43
  go_wp2_with fail
  go_at_call 45

  refine (nextR_in _ rb k 92 r s pl HR0.out HT.out.1).mono ?_
  rintro x w1 ⟨rfl, h1⟩
  have H1 := Lib.hid h1
  clear h1
  go_wp2_with fail
  go_at_call 48
  refine (in_any _ 92 w1 (by decide)).mono ?_
  rintro x w2 ⟨rfl, rfl⟩
  rw [txt_two]
  rw [HM.out]
  go_wp2_with fail
  go_at_call 48
  refine (in_any _ 92 w1 (by decide)).mono ?_
  rintro x w2 ⟨rfl, rfl⟩
  rw [txt_six]
  rw [HM2.out]
  have z1 := H1.out.1.pos
  have z2 := H1.out.1.lt
  have z3 := H1.out.1.frz 1
  have HS0 := Lib.hid (H1.out.set1 (k' := k + 1) (v := .int .i64 ((k : Int) + 1)) (by simp))

  go_wp2_with fail
  go_at_call 51
  refine (escR_any _ rb (k + 1) r s pl HS0.out.1 HT.out.1.tail HT.out.2).mono ?_
  intro x w5 hA
  clear z1 z2 z3
  rw [hx] at hA

  obtain ⟨ha, k2, ht2, rfl, h3⟩ := hA
  have HS1 := Lib.hid (HS0.out.trans h3)
  have HP := Lib.hid (show patm (92 :: r) = .ok (atomT (between a a)) r2 by rw [patm_esc, hx])
  have HV := Lib.hid (And.intro ha ht2)
  clear h3 hx ht2 ha

  go_wp2_with fail
  go_at_call 52
  refine (put_class HV.out.1 _).mono ?_
  rintro x wz ⟨rfl, hbz⟩
  have HS := Lib.hid (HS1.out.keep' hbz)
  clear hbz

  have hres := hres_of HS.out
  obtain ⟨⟨q0, q1, q2, q3⟩, ⟨q4, q5, q6, q7⟩, qf⟩ := res_cells hres
  have f0 := qf 0
  have f1 := qf 1
  have f2 := qf 2
  have f3 := qf 3
  have f4 := qf 4
  have f5 := qf 5
  have f6 := qf 6
  have f7 := qf 7
  clear hres qf
  go_wp2_with fail
  refine bodyPost_ret (v := .tuple #[.agg #[.int .i64 1, .int .u64 (canon (between a a) 0 : Nat), .int .u64 (canon (between a a) 1 : Nat), .int .u64 (canon (between a a) 2 : Nat), .int .u64 (canon (between a a) 3 : Nat), .slice none 0 0, .int .i64 0, .int .i64 0], .bool true]) (by simp [results, Try.results43, go_sem, q0, q1, q2, q3, q4, q5, q6, q7]) rfl ?_
  rw [HP.out]
  exact ⟨.node 1 (canon (between a a)) 0 0 (.slice none 0 0) [], none, 0, 0, k2, rfl, rfl, HV.out.2, rfl, sf_store8 (sf_in HS.out) HNE.out _ _ _ _ _ _ _ _, .none 1 _ 0 0 none 0⟩

set_option maxHeartbeats 4000000 in
set_option maxRecDepth 100000 in
theorem atomR_esE (w : World) (rb k : Nat) (c : Nat) (r r2 : List Nat) (s : ByteArray) (pl : Int) (h : Rr w rb s k pl 0) (ht : Tl s k (92 :: r)) (hs : s.size ≤ 1000) (hx : pesc r = .er r2 c) (hc : c = 2 ∨ c = 3) :
    Calls Try.prog 43 #[.pointer (some ⟨rb, 0, none⟩)] w (Atr (atmO (92 :: r)) k s w rb pl) := by
  have hne : w.heap.size ≠ rb := by have := h.lt; omega
  have hrb := h.lt
  have HNE := Lib.hid hne
  have HT := Lib.hid (And.intro ht hs)
  have HR0 := Lib.hid (h.keep ((Chg.refl (fun _ => False) w).alloc (.cells #[.int .i64 0, .int .u64 0, .int .u64 0, .int .u64 0, .int .u64 0, .slice none 0 0, .int .i64 0, .int .i64 0] 28)) id)
  clear ht hs h
  obtain ⟨b, hb40⟩ : ∃ b, b = 92 := ⟨_, rfl⟩
  rw [← hb40] at HT ⊢

  have hb := HT.out.1.byte
  have b1 : (0 : Int) ≤ (b : Int) := by omega
  have b2 : (b : Int) ≤ 255 := by omega
  have b3 : ¬ (b : Int) < 0 := by omega
  have b4 : (k : Int) < 1000 := by have := HT.out.1.lt; have := HT.out.2; omega
  have HBT := Lib.hid hb
  clear hb

  have h2 : ¬ (b = 41 ∨ b = 124) := by omega
  have h6 : ¬ (b = 93 ∨ b = 125 ∨ b = 42 ∨ b = 43 ∨ b = 63 ∨ b = 123) := by omega

  have hO : atmO (b :: r) = some (patm (b :: r)) := by show (if b = 41 ∨ b = 124 then none else some (patm (b :: r))) = _; rw [if_neg h2]
  have hm : [41, 124].contains b = false := by rw [Bool.eq_false_iff, Ne, List.contains_iff_mem]; simp; omega
  rw [hO]
  clear hO
  have HM := Lib.hid hm
  clear hm

  have hm2 : [93, 125, 42, 43, 63, 123].contains b = false := by rw [Bool.eq_false_iff, Ne, List.contains_iff_mem]; simp; omega
  have HM2 := Lib.hid hm2
  clear hm2

  subst hb40
  clear h2 h6

  go_enter Try.func43, Try.ntmps43
  go_wp2_with fail
  go_at_call 45

  refine (nextR_in _ rb k 92 r s pl HR0.out HT.out.1).mono ?_
  rintro x w1 ⟨rfl, h1⟩
  have H1 := Lib.hid h1
  clear h1
  go_wp2_with fail
  go_at_call 48
  refine (in_any _ 92 w1 (by decide)).mono ?_
  rintro x w2 ⟨rfl, rfl⟩
  rw [txt_two]
  rw [HM.out]
  go_wp2_with fail
  go_at_call 48
  refine (in_any _ 92 w1 (by decide)).mono ?_
  rintro x w2 ⟨rfl, rfl⟩
  rw [txt_six]
  rw [HM2.out]
  have z1 := H1.out.1.pos
  have z2 := H1.out.1.lt
  have z3 := H1.out.1.frz 1
  have HS0 := Lib.hid (H1.out.set1 (k' := k + 1) (v := .int .i64 ((k : Int) + 1)) (by simp))

  go_wp2_with fail
  go_at_call 51
  refine (escR_any _ rb (k + 1) r s pl HS0.out.1 HT.out.1.tail HT.out.2).mono ?_
  intro x w5 hA
  clear z1 z2 z3
  rw [hx] at hA

  obtain ⟨a, k2, p, ha, ht2, rfl, h3⟩ := hA
  have HS1 := Lib.hid (HS0.out.trans h3)
  have HP := Lib.hid (show patm (92 :: r) = .er r2 c by rw [patm_esc, hx])
  have HV := Lib.hid (And.intro ha (And.intro ht2 hc))
  clear h3 hx ht2 ha hc

  go_wp2_with fail
  go_at_call 52
  refine (put_class HV.out.1 _).mono ?_
  rintro x wz ⟨rfl, hbz⟩
  have HS := Lib.hid (HS1.out.keep' hbz)
  clear hbz

  have hres := hres_of HS.out
  obtain ⟨⟨q0, q1, q2, q3⟩, ⟨q4, q5, q6, q7⟩, qf⟩ := res_cells hres
  have f0 := qf 0
  have f1 := qf 1
  have f2 := qf 2
  have f3 := qf 3
  have f4 := qf 4
  have f5 := qf 5
  have f6 := qf 6
  have f7 := qf 7
  clear hres qf
  go_wp2_with fail
  refine bodyPost_ret (v := .tuple #[.agg #[.int .i64 1, .int .u64 (canon (between a a) 0 : Nat), .int .u64 (canon (between a a) 1 : Nat), .int .u64 (canon (between a a) 2 : Nat), .int .u64 (canon (between a a) 3 : Nat), .slice none 0 0, .int .i64 0, .int .i64 0], .bool true]) (by simp [results, Try.results43, go_sem, q0, q1, q2, q3, q4, q5, q6, q7]) rfl ?_
  rw [HP.out]
  exact ⟨HV.out.2.2, .node 1 (canon (between a a)) 0 0 (.slice none 0 0) [], none, 0, 0, k2, p, true, rfl, HV.out.2.1, rfl, sf_store8 (sf_in HS.out) HNE.out _ _ _ _ _ _ _ _⟩

set_option maxHeartbeats 4000000 in
set_option maxRecDepth 100000 in
theorem atomR_dot (w : World) (rb k : Nat) (r : List Nat) (s : ByteArray) (pl : Int) (h : Rr w rb s k pl 0) (ht : Tl s k (46 :: r)) (hs : s.size ≤ 1000) :
    Calls Try.prog 43 #[.pointer (some ⟨rb, 0, none⟩)] w (Atr (atmO (46 :: r)) k s w rb pl) := by
  have hne : w.heap.size ≠ rb := by have := h.lt; omega
  have hrb := h.lt
  have HNE := Lib.hid hne
  have HT := Lib.hid (And.intro ht hs)
  have HR0 := Lib.hid (h.keep ((Chg.refl (fun _ => False) w).alloc (.cells #[.int .i64 0, .int .u64 0, .int .u64 0, .int .u64 0, .int .u64 0, .slice none 0 0, .int .i64 0, .int .i64 0] 28)) id)
  clear ht hs h
  obtain ⟨b, hb40⟩ : ∃ b, b = 46 := ⟨_, rfl⟩
  rw [← hb40] at HT ⊢

  have hb := HT.out.1.byte
  have b1 : (0 : Int) ≤ (b : Int) := by omega
  have b2 : (b : Int) ≤ 255 := by omega
  have b3 : ¬ (b : Int) < 0 := by omega
  have b4 : (k : Int) < 1000 := by have := HT.out.1.lt; have := HT.out.2; omega
  have HBT := Lib.hid hb
  clear hb

  have h2 : ¬ (b = 41 ∨ b = 124) := by omega
  have h6 : ¬ (b = 93 ∨ b = 125 ∨ b = 42 ∨ b = 43 ∨ b = 63 ∨ b = 123) := by omega

  have hO : atmO (b :: r) = some (patm (b :: r)) := by show (if b = 41 ∨ b = 124 then none else some (patm (b :: r))) = _; rw [if_neg h2]
  have hm : [41, 124].contains b = false := by rw [Bool.eq_false_iff, Ne, List.contains_iff_mem]; simp; omega
  rw [hO]
  clear hO
  have HM := Lib.hid hm
  clear hm

  have hm2 : [93, 125, 42, 43, 63, 123].contains b = false := by rw [Bool.eq_false_iff, Ne, List.contains_iff_mem]; simp; omega
  have HM2 := Lib.hid hm2
  clear hm2

  subst hb40
  clear h2 h6

  go_enter Try.func43, Try.ntmps43
  go_wp2_with fail
  go_at_call 45

  refine (nextR_in _ rb k 46 r s pl HR0.out HT.out.1).mono ?_
  rintro x w1 ⟨rfl, h1⟩
  have H1 := Lib.hid h1
  clear h1
  go_wp2_with fail
  go_at_call 48
  refine (in_any _ 46 w1 (by decide)).mono ?_
  rintro x w2 ⟨rfl, rfl⟩
  rw [txt_two]
  rw [HM.out]
  go_wp2_with fail
  go_at_call 48
  refine (in_any _ 46 w1 (by decide)).mono ?_
  rintro x w2 ⟨rfl, rfl⟩
  rw [txt_six]
  rw [HM2.out]
  have z1 := H1.out.1.pos
  have z2 := H1.out.1.lt
  have z3 := H1.out.1.frz 1
  have HS0 := Lib.hid (H1.out.set1 (k' := k + 1) (v := .int .i64 ((k : Int) + 1)) (by simp))

  have hz0 := (zero_of_info infoBools).1
  have HZB := Lib.hid (show rb < (w1.setCell ⟨rb, 1, none⟩ (.int .i64 ((k : Int) + 1))).heap.size from HS0.out.1.lt)
  obtain ⟨bb, hbb⟩ : ∃ bb, w1.heap.size = bb := ⟨_, rfl⟩
  have HBBn := Lib.hid hbb
  clear hbb
  go_wp2_with fail
  clear z1 z2 z3
  go_loopw [7] (fun x wq => ∃ j : Nat, x = .int .i64 j ∧ j ≤ 256 ∧ Bools wq w1.heap.size (fun y => decide (y < j)) ∧ BFree wq w1.heap.size ∧ w1.heap.size < wq.heap.size ∧ Chg (fun x => x = w1.heap.size) (w1.setCell ⟨rb, 1, none⟩ (.int .i64 ((k : Int) + 1))) wq) (fun x _ => match x with | .int _ z => 256 - z.toNat | _ => 0)
  case atStart => exact ⟨0, rfl, by omega, dot_start w1 rb k⟩
  case round =>
    obtain ⟨j, rfl, hj, hB, hF, hsz, hC⟩ := hrel
    by_cases hjl : j < 256
    · have g1 : (j : Int) < 256 := by omega
      have g2 : (0 : Int) ≤ (j : Int) := by omega
      have m1 := hB j hjl
      have m2 := hF j hjl
      have hnx := dot_step hB hF hsz hC (j := j)
      have HNX := Lib.hid hnx
      clear hB hF hC hnx hj
      go_wp2_with fail
      exact ⟨⟨j + 1, by simp, by omega, HNX.out⟩, by simp; omega⟩
    · have g1 : ¬ (j : Int) < 256 := by omega
      have hB2 : Bools wr w1.heap.size (fun _ => true) := hB.congr fun i hi => by simp; omega
      have HS1 := Lib.hid (dot_sf HS0.out hC H1.out.1.lt)
      have r1 := hB2.range
      have i1 : (Try.prog.info? 86).map (·.size) = some (boolList (fun _ => true)).length := by rw [boolList_length]; exact (zero_of_info infoBools).2
      have m1 := made_class (fun _ => true)
      generalize boolList (fun _ => true) = L1 at r1 i1 m1
      have MM := Lib.hid m1
      clear m1 hB hF hC hB2 hj hjl
      go_wp2_with (refine wpList_load_mid (by rfl) 86 (.tmp 6) (by rfl) _ 0 (by rfl) L1 _ r1 Try.underlying86 (by rfl) i1 ?_)
      go_at_call 50
      refine (MM.out _).mono ?_
      rintro x wz ⟨rfl, hbz⟩
      have HS := Lib.hid (HS1.out.keep' hbz)
      have HP := Lib.hid (patm_dot r)
      clear hbz r1 i1
      have hres := hres_of HS.out
      obtain ⟨⟨q0, q1, q2, q3⟩, ⟨q4, q5, q6, q7⟩, qf⟩ := res_cells hres
      have f0 := qf 0
      have f1 := qf 1
      have f2 := qf 2
      have f3 := qf 3
      have f4 := qf 4
      have f5 := qf 5
      have f6 := qf 6
      have f7 := qf 7
      clear hres qf
      go_wp2_with fail
      refine bodyPost_ret (v := .tuple #[.agg #[.int .i64 1, .int .u64 (canon (fun _ => true) 0 : Nat), .int .u64 (canon (fun _ => true) 1 : Nat), .int .u64 (canon (fun _ => true) 2 : Nat), .int .u64 (canon (fun _ => true) 3 : Nat), .slice none 0 0, .int .i64 0, .int .i64 0], .bool true]) (by simp [results, Try.results43, go_sem, q0, q1, q2, q3, q4, q5, q6, q7]) rfl ?_
      rw [HP.out]
      exact ⟨.node 1 (canon (fun _ => true)) 0 0 (.slice none 0 0) [], none, 0, 0, k + 1, rfl, rfl, HT.out.1.tail, rfl, sf_store8 (sf_in HS.out) HNE.out _ _ _ _ _ _ _ _, .none 1 _ 0 0 none 0⟩

theorem atomR_any (w : World) (rb k : Nat) (r : List Nat) (s : ByteArray) (pl : Int) (h : Rr w rb s k pl 0) (ht : Tl s k r) (hs : s.size ≤ 1000)
    (ih : ∀ (w' : World) (k' : Nat) (r' : List Nat), r'.length < r.length → Rr w' rb s k' pl 0 → Tl s k' r' → Calls Try.prog 24 #[.pointer (some ⟨rb, 0, none⟩)] w' (Alr (pgrp ⟨[], []⟩ [] r') s w' rb pl)) :
    Calls Try.prog 43 #[.pointer (some ⟨rb, 0, none⟩)] w (Atr (atmO r) k s w rb pl) := by
  cases r with
  | nil => exact atomR_nil w rb k s pl h ht hs
  | cons b r =>
    by_cases h2 : b = 41 ∨ b = 124
    · exact atomR_two w rb k b r s pl h ht hs h2
    · by_cases h6 : b = 93 ∨ b = 125 ∨ b = 42 ∨ b = 43 ∨ b = 63 ∨ b = 123
      · exact atomR_six w rb k b r s pl h ht hs h6
      · by_cases h40 : b = 40
        · subst h40
          have ih2 : ∀ (w' : World) (k' : Nat) (r' : List Nat), r'.length ≤ r.length → Rr w' rb s k' pl 0 → Tl s k' r' → Calls Try.prog 24 #[.pointer (some ⟨rb, 0, none⟩)] w' (Alr (pgrp ⟨[], []⟩ [] r') s w' rb pl) := fun w' k' r' hl => ih w' k' r' (by simp; omega)
          cases hx : pgrp ⟨[], []⟩ [] r with
          | er r2 c => exact atomR_openE w rb k c r r2 s pl h ht hs ih2 hx
          | ok g r2 =>
            cases r2 with
            | nil => exact atomR_openN w rb k r g s pl h ht hs ih2 hx
            | cons a r2 =>
              obtain rfl := pgrp_stop _ (Nat.le_refl _) hx
              exact atomR_openY w rb k r r2 g s pl h ht hs ih2 hx
        · by_cases h91 : b = 91
          · subst h91
            cases hx : pbrack r with
            | er r2 c => exact atomR_brE w rb k c r r2 s pl h ht hs hx
            | ok S r2 => exact atomR_brO w rb k S r r2 s pl h ht hs hx
          · by_cases h46 : b = 46
            · subst h46
              exact atomR_dot w rb k r s pl h ht hs
            · by_cases h92 : b = 92
              · subst h92
                cases hx : pesc r with
                | er r2 c => exact atomR_esE w rb k c r r2 s pl h ht hs hx (.inl (pplain_two (but := marks) (show pplain marks (92 :: r) = .er r2 c from hx)))
                | ok a r2 => exact atomR_esO w rb k a r r2 s pl h ht hs hx
              · exact atomR_plain w rb k b r s pl h ht hs h40 h46 h91 (fun hm => by unfold marks at hm; simp at hm; omega) h92

end Go.Proofs.Ytbodgadbhldbmaa
