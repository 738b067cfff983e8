/- The document's own reader: something that is repeated: a contract.
   Conditions: the reader's cells are as 'Rr' says, the text has at most 1000 bytes; what is read between brackets is as is said. -/
import Derived.Test.YtbodgadbhldbmaaRdrG
namespace Go.Proofs.Ytbodgadbhldbmaa
open Go.RowKit

def repO (r : List Nat) : Option (Out T) := match atmO r with
  | none => none
  | some (.er r' c) => some (.er r' c)
  | some (.ok t r') => some (ppost t r')
/-- What the call that reads something repeated has in memory. -/
structure RI (w : World) (rb : Nat) (s : ByteArray) (nb k : Nat) (pl e : Int) (v : V) (sa : Option Addr) (sn sc : Nat) (wr : World) : Prop where
  rr : Rr wr rb s k pl e
  nr : NodeRow wr nb v sa sn sc
  nf : ∀ j, wr.frozen? ⟨nb, j, none⟩ = false
  res : wr.heap[w.heap.size]? = some (.cells zcells 28 (0, 0))
  nlt : nb < wr.heap.size
  chg : Chg (fun x => x = rb) w wr
theorem RI.sf {w : World} {rb nb k k' : Nat} {s : ByteArray} {pl e pl' e' : Int} {v : V} {sa : Option Addr} {sn sc : Nat} {a b : World} (h : RI w rb s nb k pl e v sa sn sc a) (hs : Sf a rb s k' pl' e' b) (h1 : nb ≠ rb) (h2 : w.heap.size ≠ rb) : RI w rb s nb k' pl' e' v sa sn sc b :=
  ⟨hs.1, nodeRow_chg h.nr hs.2 h.nlt h1, fun j => (hs.2.frozen j h.nlt h1).trans (h.nf j), (hs.2.block _ (Array.getElem?_eq_some_iff.1 h.res).1 h2).trans h.res, Nat.lt_of_lt_of_le h.nlt hs.2.size, h.chg.trans hs.2 fun _ _ h => h⟩
theorem RI.drewN {w : World} {rb nb k : Nat} {s : ByteArray} {pl e : Int} {v : V} {sa : Option Addr} {sn sc : Nat} {a : World} (h : RI w rb s nb k pl e v sa sn sc a) (n : Nat) : RI w rb s nb k pl e v sa sn sc (a.drewN n) :=
  ⟨h.rr.keep ((Chg.refl (fun _ => False) _).drewN n) id, h.nr, h.nf, h.res, h.nlt, h.chg.drewN n⟩
/-- How often: what has come of it. -/
def TI (s : ByteArray) (b : Nat) (r1 : List Nat) (lo hi : Int) (k2 : Nat) (pl pl2 e2 : Int) : Prop :=
  (e2 = 0 ∧ pl2 = pl ∧ ∃ r2, ptimes b r1 = .ok (lo, hi) r2 ∧ Tl s k2 r2) ∨ (∃ (c p : Nat) (r2 : List Nat), (c = 2 ∨ c = 3) ∧ e2 = c ∧ pl2 = p ∧ ptimes b r1 = .er r2 c ∧ Tl s p r2)
/-- What holds at the head of the loop. -/
def RRel (w : World) (rb : Nat) (s : ByteArray) (nb : Nat) (pl : Int) (P0 : Out T) (wr : World) : Prop :=
  ∃ (v : V) (sa : Option Addr) (sn sc k' : Nat) (pl' e' : Int), v.v = .slice sa sn sc ∧ RI w rb s nb k' pl' e' v sa sn sc wr ∧
    ((e' = 0 ∧ pl' = pl ∧ ∃ r', Tl s k' r' ∧ P0 = ppost (erase v) r' ∧ Laid wr (fun b => w.heap.size < b ∧ b ≠ nb) v) ∨ (∃ (c p : Nat) (r' : List Nat), (c = 2 ∨ c = 3) ∧ e' = c ∧ pl' = p ∧ Tl s p r' ∧ P0 = .er r' c))
theorem rmeas_ok {rb : Nat} {s : ByteArray} {k : Nat} {pl : Int} {wr : World} (h : Rr wr rb s k pl 0) : imeas rb s wr = s.size - k + 1 := by
  unfold imeas
  rw [h.err, h.pos]
  simp
theorem rmeas_er {rb : Nat} {s : ByteArray} {k c : Nat} {pl : Int} {wr : World} (h : Rr wr rb s k pl c) (hc : c = 2 ∨ c = 3) : imeas rb s wr = 0 := by
  unfold imeas
  rw [h.err, h.pos]
  rcases hc with rfl | rfl <;> rfl
theorem store8_row {w : World} {b : Nat} {u0 u1 u2 u3 u4 u5 u6 u7 : Value} (h0 : w.cell? ⟨b, 0, none⟩ = some u0) (h1 : w.cell? ⟨b, 1, none⟩ = some u1) (h2 : w.cell? ⟨b, 2, none⟩ = some u2) (h3 : w.cell? ⟨b, 3, none⟩ = some u3) (h4 : w.cell? ⟨b, 4, none⟩ = some u4) (h5 : w.cell? ⟨b, 5, none⟩ = some u5) (h6 : w.cell? ⟨b, 6, none⟩ = some u6) (h7 : w.cell? ⟨b, 7, none⟩ = some u7) (a0 a1 a2 a3 a4 a5 a6 a7 : Value) :
    (store8 w b 0 a0 a1 a2 a3 a4 a5 a6 a7).cell? ⟨b, 0, none⟩ = some a0 ∧ (store8 w b 0 a0 a1 a2 a3 a4 a5 a6 a7).cell? ⟨b, 1, none⟩ = some a1 ∧ (store8 w b 0 a0 a1 a2 a3 a4 a5 a6 a7).cell? ⟨b, 2, none⟩ = some a2 ∧ (store8 w b 0 a0 a1 a2 a3 a4 a5 a6 a7).cell? ⟨b, 3, none⟩ = some a3 ∧ (store8 w b 0 a0 a1 a2 a3 a4 a5 a6 a7).cell? ⟨b, 4, none⟩ = some a4 ∧ (store8 w b 0 a0 a1 a2 a3 a4 a5 a6 a7).cell? ⟨b, 5, none⟩ = some a5 ∧ (store8 w b 0 a0 a1 a2 a3 a4 a5 a6 a7).cell? ⟨b, 6, none⟩ = some a6 ∧ (store8 w b 0 a0 a1 a2 a3 a4 a5 a6 a7).cell? ⟨b, 7, none⟩ = some a7 := by
  unfold store8
  refine ⟨?_, ?_, ?_, ?_, ?_, ?_, ?_, ?_⟩ <;> go_simp
/-- A node that is repeated lies in the place of what is. -/
theorem RI.rep {w : World} {rb nb k : Nat} {s : ByteArray} {pl e lo hi : Int} {v : V} {sa : Option Addr} {sn sc : Nat} {a : World} (h : RI w rb s nb k pl e v sa sn sc a) (hsl : v.v = .slice sa sn sc) (h1 : nb ≠ rb) (h2 : w.heap.size < nb) :
    RI w rb s nb k pl e (.node 4 zeros lo hi (.slice (some ⟨a.heap.size, 0, none⟩) 1 1) [v]) (some ⟨a.heap.size, 0, none⟩) 1 1 ((store8 a nb 0 (.int .i64 4) (.int .u64 0) (.int .u64 0) (.int .u64 0) (.int .u64 0) (.slice (some ⟨a.heap.size, 0, none⟩) 1 1) (.int .i64 lo) (.int .i64 hi)).alloc (.cells #[.int .i64 v.kind, .int .u64 (v.set 0 : Nat), .int .u64 (v.set 1 : Nat), .int .u64 (v.set 2 : Nat), .int .u64 (v.set 3 : Nat), .slice sa sn sc, .int .i64 v.lo, .int .i64 v.hi] 28)) ∧
      (Laid a (fun b => w.heap.size < b ∧ b ≠ nb) v → Laid ((store8 a nb 0 (.int .i64 4) (.int .u64 0) (.int .u64 0) (.int .u64 0) (.int .u64 0) (.slice (some ⟨a.heap.size, 0, none⟩) 1 1) (.int .i64 lo) (.int .i64 hi)).alloc (.cells #[.int .i64 v.kind, .int .u64 (v.set 0 : Nat), .int .u64 (v.set 1 : Nat), .int .u64 (v.set 2 : Nat), .int .u64 (v.set 3 : Nat), .slice sa sn sc, .int .i64 v.lo, .int .i64 v.hi] 28)) (fun b => w.heap.size < b ∧ b ≠ nb) (.node 4 zeros lo hi (.slice (some ⟨a.heap.size, 0, none⟩) 1 1) [v])) := by
  have hnlt := h.nlt
  have hsz := h.chg.size
  have hcs : Chg (fun x => x = nb) a (store8 a nb 0 (.int .i64 4) (.int .u64 0) (.int .u64 0) (.int .u64 0) (.int .u64 0) (.slice (some ⟨a.heap.size, 0, none⟩) 1 1) (.int .i64 lo) (.int .i64 hi)) := store8_chg (R := fun x => x = nb) (Chg.refl _ _) (fun _ => rfl) 0 _ _ _ _ _ _ _ _
  have hss : (store8 a nb 0 (.int .i64 4) (.int .u64 0) (.int .u64 0) (.int .u64 0) (.int .u64 0) (.slice (some ⟨a.heap.size, 0, none⟩) 1 1) (.int .i64 lo) (.int .i64 hi)).heap.size = a.heap.size := by unfold store8; simp
  have e1 := heap_alloc_new (store8 a nb 0 (.int .i64 4) (.int .u64 0) (.int .u64 0) (.int .u64 0) (.int .u64 0) (.slice (some ⟨a.heap.size, 0, none⟩) 1 1) (.int .i64 lo) (.int .i64 hi)) (.cells #[.int .i64 v.kind, .int .u64 (v.set 0 : Nat), .int .u64 (v.set 1 : Nat), .int .u64 (v.set 2 : Nat), .int .u64 (v.set 3 : Nat), .slice sa sn sc, .int .i64 v.lo, .int .i64 v.hi] 28)
  rw [hss] at e1
  have hca : Chg (fun _ => False) (store8 a nb 0 (.int .i64 4) (.int .u64 0) (.int .u64 0) (.int .u64 0) (.int .u64 0) (.slice (some ⟨a.heap.size, 0, none⟩) 1 1) (.int .i64 lo) (.int .i64 hi)) ((store8 a nb 0 (.int .i64 4) (.int .u64 0) (.int .u64 0) (.int .u64 0) (.int .u64 0) (.slice (some ⟨a.heap.size, 0, none⟩) 1 1) (.int .i64 lo) (.int .i64 hi)).alloc (.cells #[.int .i64 v.kind, .int .u64 (v.set 0 : Nat), .int .u64 (v.set 1 : Nat), .int .u64 (v.set 2 : Nat), .int .u64 (v.set 3 : Nat), .slice sa sn sc, .int .i64 v.lo, .int .i64 v.hi] 28)) := (Chg.refl _ _).alloc _
  have hc : Chg (fun x => x = nb) a ((store8 a nb 0 (.int .i64 4) (.int .u64 0) (.int .u64 0) (.int .u64 0) (.int .u64 0) (.slice (some ⟨a.heap.size, 0, none⟩) 1 1) (.int .i64 lo) (.int .i64 hi)).alloc (.cells #[.int .i64 v.kind, .int .u64 (v.set 0 : Nat), .int .u64 (v.set 1 : Nat), .int .u64 (v.set 2 : Nat), .int .u64 (v.set 3 : Nat), .slice sa sn sc, .int .i64 v.lo, .int .i64 v.hi] 28)) := hcs.alloc _
  have hsw : ((store8 a nb 0 (.int .i64 4) (.int .u64 0) (.int .u64 0) (.int .u64 0) (.int .u64 0) (.slice (some ⟨a.heap.size, 0, none⟩) 1 1) (.int .i64 lo) (.int .i64 hi)).alloc (.cells #[.int .i64 v.kind, .int .u64 (v.set 0 : Nat), .int .u64 (v.set 1 : Nat), .int .u64 (v.set 2 : Nat), .int .u64 (v.set 3 : Nat), .slice sa sn sc, .int .i64 v.lo, .int .i64 v.hi] 28)).heap.size = a.heap.size + 1 := by simp [hss]
  obtain ⟨n0, n1, n2, n3, n4, n5, n6, n7⟩ := h.nr
  refine ⟨⟨h.rr.keep hc (fun e => h1 e.symm), nodeRow_chg (v := .node 4 zeros lo hi (.slice (some ⟨a.heap.size, 0, none⟩) 1 1) [v]) (store8_row n0 n1 n2 n3 n4 n5 n6 n7 _ _ _ _ _ _ _ _) hca (Nat.lt_of_lt_of_le hnlt hcs.size) id, fun j => ?_, (hc.block _ (by omega) (by omega)).trans h.res, Nat.lt_of_lt_of_le hnlt hc.size, ?_⟩, fun hl => ?_⟩
  · have := h.nf j
    have h3 : (store8 a nb 0 (.int .i64 4) (.int .u64 0) (.int .u64 0) (.int .u64 0) (.int .u64 0) (.slice (some ⟨a.heap.size, 0, none⟩) 1 1) (.int .i64 lo) (.int .i64 hi)).frozen? ⟨nb, j, none⟩ = false := by unfold store8; simp [this]
    exact (hca.frozen j (by rw [hss]; exact hnlt) id).trans h3
  · exact h.chg.trans hc fun x hx e => by omega
  · have hv : Laid ((store8 a nb 0 (.int .i64 4) (.int .u64 0) (.int .u64 0) (.int .u64 0) (.int .u64 0) (.slice (some ⟨a.heap.size, 0, none⟩) 1 1) (.int .i64 lo) (.int .i64 hi)).alloc (.cells #[.int .i64 v.kind, .int .u64 (v.set 0 : Nat), .int .u64 (v.set 1 : Nat), .int .u64 (v.set 2 : Nat), .int .u64 (v.set 3 : Nat), .slice sa sn sc, .int .i64 v.lo, .int .i64 v.hi] 28)) (fun b => w.heap.size < b ∧ b ≠ nb) v := hl.chg hc fun b _ hb e => hb.2 e
    refine .some 4 zeros lo hi [v] a.heap.size 0 1 ⟨by omega, by omega⟩ (by rw [hsw]; omega) (Nat.le_refl _) (fun i t ht j u hu => ?_) (fun t ht => by simp at ht; subst ht; exact hv)
    have hi0 : i = 0 := by have := (List.getElem?_eq_some_iff.1 ht).1; simpa using this
    subst hi0
    simp at ht
    subst ht
    rw [Nat.zero_mul, Nat.zero_add, (row_cells e1).1 j]
    have hnd : #[.int .i64 v.kind, .int .u64 (v.set 0 : Nat), .int .u64 (v.set 1 : Nat), .int .u64 (v.set 2 : Nat), .int .u64 (v.set 3 : Nat), .slice sa sn sc, .int .i64 v.lo, .int .i64 v.hi] = (ndc v).toArray := by unfold ndc; rw [hsl]
    rw [hnd, List.getElem?_toArray]
    exact hu
theorem rep_end {w : World} {rb nb k' k2 b : Nat} {s : ByteArray} {pl pl2 e2 lo hi : Int} {v : V} {P0 : Out T} {r1 : List Nat} {blk : Nat} {wf wr : World}
    (h : RI w rb s nb k2 pl2 e2 (.node 4 zeros lo hi (.slice (some ⟨blk, 0, none⟩) 1 1) [v]) (some ⟨blk, 0, none⟩) 1 1 wf)
    (hl : Laid wf (fun b => w.heap.size < b ∧ b ≠ nb) (.node 4 zeros lo hi (.slice (some ⟨blk, 0, none⟩) 1 1) [v]))
    (ht : TI s b r1 lo hi k2 pl pl2 e2) (htl : Tl s k' (b :: r1)) (hp : isPost b) (hP : P0 = ppost (erase v) (b :: r1)) (hm : imeas rb s wr = s.size - k' + 1) :
    RRel w rb s nb pl P0 wf ∧ imeas rb s wf < imeas rb s wr := by
  rw [ppost_step hp] at hP
  rcases ht with ⟨rfl, rfl, r2, ho, ht2⟩ | ⟨c, p, r2, hc, rfl, rfl, ho, ht2⟩
  · rw [ho] at hP
    refine ⟨⟨_, _, 1, 1, k2, _, 0, rfl, h, .inl ⟨rfl, rfl, r2, ht2, hP, hl⟩⟩, ?_⟩
    rw [rmeas_ok h.rr, hm]
    have a1 := htl.1
    have a2 := ht2.1
    have a3 := ptimes_len ho
    simp at a1
    omega
  · rw [ho] at hP
    refine ⟨⟨_, _, 1, 1, k2, _, _, rfl, h, .inr ⟨c, p, r2, hc, rfl, rfl, ht2, hP⟩⟩, ?_⟩
    rw [rmeas_er h.rr hc, hm]
    omega
theorem beq_c {c : Nat} (h : c = 2 ∨ c = 3) : ((c : Int) == 0) = false := by rw [beq_eq_false_iff_ne]; omega

def pclose (br : List Nat) (lo : Nat) (hi : Int) (r : List Nat) : Out (Int × Int) := match r with
  | 125 :: r3 => if hi ≠ -1 ∧ (lo : Int) > hi then .er br 2 else .ok (lo, hi) r3
  | r3 => .er r3 2
theorem pclose_not {br : List Nat} {lo : Nat} {hi : Int} {r : List Nat} (h : r.head? ≠ some 125) : pclose br lo hi r = .er r 2 := by
  unfold pclose
  split
  · simp at h
  · rfl
theorem pt_er {r1 r2 : List Nat} {c : Nat} (h : pnumber r1 = .er r2 c) : ptimes 123 r1 = .er r2 c := by
  have : ptimes 123 r1 = pbounds (123 :: r1) r1 := rfl
  rw [this]; unfold pbounds; rw [h]
theorem pt_up {r1 r2 r3 : List Nat} {lo c : Nat} (h : pnumber r1 = .ok lo r2) (h2 : pupper lo r2 = .er r3 c) : ptimes 123 r1 = .er r3 c := by
  have : ptimes 123 r1 = pbounds (123 :: r1) r1 := rfl
  rw [this]; unfold pbounds; rw [h]; simp only; rw [h2]
theorem pt_cl {r1 r2 r3 : List Nat} {lo : Nat} {hi : Int} (h : pnumber r1 = .ok lo r2) (h2 : pupper lo r2 = .ok hi r3) : ptimes 123 r1 = pclose (123 :: r1) lo hi r3 := by
  have : ptimes 123 r1 = pbounds (123 :: r1) r1 := rfl
  rw [this]; unfold pbounds pclose; rw [h]; simp only; rw [h2]; rfl
theorem pup_no {lo : Nat} {r : List Nat} (h : r.head? ≠ some 44) : pupper lo r = .ok lo r := by
  unfold pupper
  split
  · simp at h
  · simp at h
  · rfl
theorem pup_num {lo : Nat} {r : List Nat} (h : r.head? ≠ some 125) : pupper lo (44 :: r) = match pnumber r with
    | .ok n r' => .ok n r'
    | .er r' c => .er r' c := by
  unfold pupper
  split
  · rename_i e; injection e with _ e; subst e; simp at h
  · rename_i e; injection e with _ e; subst e; rfl
  · rename_i h2; exact absurd rfl (h2 r)
theorem nextR_not (w : World) (rb k : Nat) (r : List Nat) (s : ByteArray) (pl : Int) (h : Rr w rb s k pl 0) (ht : Tl s k r) (hc : r.head? ≠ some 125) :
    Calls Try.prog 45 #[.pointer (some ⟨rb, 0, none⟩)] w fun x w' => ∃ z : Int, z ≠ 125 ∧ x = .returned (.int .i64 z) ∧ Sf w rb s k pl 0 w' := by
  cases r with
  | nil => exact (nextR_end w rb k s pl h ht).mono fun x w' h => ⟨-1, by decide, h.1, h.2⟩
  | cons b r => exact (nextR_in w rb k b r s pl h ht).mono fun x w' h => ⟨b, by simp at hc; omega, h.1, h.2⟩

set_option maxHeartbeats 16000000 in
set_option maxRecDepth 100000 in
theorem repR_any (w : World) (rb k : Nat) (r : List Nat) (s : ByteArray) (pl : Int) (h : Rr w rb s k pl 0) (ht : Tl s k r) (hs : s.size ≤ 1000)
    (ih : ∀ (w' : World) (k' : Nat) (r' : List Nat), r'.length < r.length → Rr w' rb s k' pl 0 → Tl s k' r' → Calls Try.prog 24 #[.pointer (some ⟨rb, 0, none⟩)] w' (Alr (pgrp ⟨[], []⟩ [] r') s w' rb pl)) :
    Calls Try.prog 32 #[.pointer (some ⟨rb, 0, none⟩)] w (Atr (repO r) k s w rb pl) := by
  have hne : w.heap.size ≠ rb := by have := h.lt; omega
  have hrb := h.lt
  have HNE := Lib.hid hne
  have HRB := Lib.hid hrb
  have HT := Lib.hid (And.intro ht hs)
  have HR0 := Lib.hid (h.keep ((Chg.refl (fun _ => False) w).alloc (.cells #[.int .i64 0, .int .u64 0, .int .u64 0, .int .u64 0, .int .u64 0, .slice none 0 0, .int .i64 0, .int .i64 0] 28)) id)
  have hat := atomR_any (w.alloc (.cells #[.int .i64 0, .int .u64 0, .int .u64 0, .int .u64 0, .int .u64 0, .slice none 0 0, .int .i64 0, .int .i64 0] 28)) rb k r s pl HR0.out ht hs ih
  have HAT := Lib.hid hat
  clear ht hs h ih hat
  go_enter Try.func32, Try.ntmps32
  go_wp2_with fail
  go_at_call 43
  refine HAT.out.mono ?_
  clear HAT
  intro x w1 hA
  cases ha : atmO r with
  | none =>
    rw [ha] at hA
    have HO := Lib.hid (show repO r = none by unfold repO; rw [ha])
    obtain ⟨rfl, h1⟩ := hA
    have HS := Lib.hid (h1.alloc (.cells #[.int .i64 0, .int .u64 0, .int .u64 0, .int .u64 0, .int .u64 0, .slice none 0 0, .int .i64 0, .int .i64 0] 28))
    clear h1 ha
    obtain ⟨w2, hw2⟩ : ∃ w2, w1.alloc (.cells #[.int .i64 0, .int .u64 0, .int .u64 0, .int .u64 0, .int .u64 0, .slice none 0 0, .int .i64 0, .int .i64 0] 28) = w2 := ⟨_, rfl⟩
    rw [hw2] at HS
    have c2 := node_new (v := zeroV) (sa := none) (sn := 0) (sc := 0) hw2
    have HC2 := Lib.hid c2
    clear c2
    have HW2 := Lib.hid hw2
    clear hw2

    go_wp2_with fail
    go_loopw [8] (fun _ wr => wr = w2) (fun _ _ => 0)
    case atStart => exact HW2.out
    case round =>
      obtain rfl := hrel
      have n0 : wr.cell? ⟨w1.heap.size, 0, none⟩ = some (.int .i64 0) := HC2.out.1.1
      have n1 : wr.cell? ⟨w1.heap.size, 1, none⟩ = some (.int .u64 0) := HC2.out.1.2.1
      have n2 : wr.cell? ⟨w1.heap.size, 2, none⟩ = some (.int .u64 0) := HC2.out.1.2.2.1
      have n3 : wr.cell? ⟨w1.heap.size, 3, none⟩ = some (.int .u64 0) := HC2.out.1.2.2.2.1
      have n4 : wr.cell? ⟨w1.heap.size, 4, none⟩ = some (.int .u64 0) := HC2.out.1.2.2.2.2.1
      have n5 : wr.cell? ⟨w1.heap.size, 5, none⟩ = some (.slice none 0 0) := HC2.out.1.2.2.2.2.2.1
      have n6 : wr.cell? ⟨w1.heap.size, 6, none⟩ = some (.int .i64 0) := HC2.out.1.2.2.2.2.2.2.1
      have n7 : wr.cell? ⟨w1.heap.size, 7, none⟩ = some (.int .i64 0) := HC2.out.1.2.2.2.2.2.2.2
      have nlt := HC2.out.2

      have hres := hres_of HS.out
      obtain ⟨⟨q0, q1, q2, q3⟩, ⟨q4, q5, q6, q7⟩, qf⟩ := res_cells hres
      have f0 := qf 0
      have f1 := qf 1
      have f2 := qf 2
      have f3 := qf 3
      have f4 := qf 4
      have f5 := qf 5
      have f6 := qf 6
      have f7 := qf 7
      clear hres qf
      go_wp2_with fail
      refine bodyPost_ret (v := .tuple #[.agg #[.int .i64 0, .int .u64 0, .int .u64 0, .int .u64 0, .int .u64 0, .slice none 0 0, .int .i64 0, .int .i64 0], .bool false]) (by simp [results, Try.results32, go_sem, q0, q1, q2, q3, q4, q5, q6, q7]) rfl ?_
      rw [HO.out]
      exact ⟨rfl, sf_store8 (sf_in HS.out) HNE.out _ _ _ _ _ _ _ _⟩

  | some o =>
    cases o with
    | er r' c =>
      rw [ha] at hA
      have HO := Lib.hid (show repO r = some (.er r' c) by unfold repO; rw [ha])
      obtain ⟨hc, v, sa, sn, sc, k2, p, bb, hsl, ht2, rfl, h1⟩ := hA
      have HS := Lib.hid (h1.alloc (.cells #[.int .i64 v.kind, .int .u64 (v.set 0 : Nat), .int .u64 (v.set 1 : Nat), .int .u64 (v.set 2 : Nat), .int .u64 (v.set 3 : Nat), .slice sa sn sc, .int .i64 v.lo, .int .i64 v.hi] 28))
      have HV := Lib.hid (And.intro hc (And.intro hsl ht2))
      clear h1 ha hc hsl ht2
      obtain ⟨w2, hw2⟩ : ∃ w2, w1.alloc (.cells #[.int .i64 v.kind, .int .u64 (v.set 0 : Nat), .int .u64 (v.set 1 : Nat), .int .u64 (v.set 2 : Nat), .int .u64 (v.set 3 : Nat), .slice sa sn sc, .int .i64 v.lo, .int .i64 v.hi] 28) = w2 := ⟨_, rfl⟩
      rw [hw2] at HS
      have c2 := node_new (v := v) (sa := sa) (sn := sn) (sc := sc) hw2
      have HC2 := Lib.hid c2
      clear c2
      cases bb with
      | false =>
        go_wp2_with fail
        go_loopw [8] (fun _ wr => wr = w2) (fun _ _ => 0)
        case atStart => first | rfl | exact hw2
        case round =>
          obtain rfl := hrel
          clear hw2
          obtain ⟨n0, n1, n2, n3, n4, n5, n6, n7⟩ := HC2.out.1
          have nlt := HC2.out.2

          have hres := hres_of HS.out
          obtain ⟨⟨q0, q1, q2, q3⟩, ⟨q4, q5, q6, q7⟩, qf⟩ := res_cells hres
          have f0 := qf 0
          have f1 := qf 1
          have f2 := qf 2
          have f3 := qf 3
          have f4 := qf 4
          have f5 := qf 5
          have f6 := qf 6
          have f7 := qf 7
          clear hres qf
          go_wp2_with fail
          refine bodyPost_ret (v := .tuple #[.agg #[.int .i64 v.kind, .int .u64 (v.set 0 : Nat), .int .u64 (v.set 1 : Nat), .int .u64 (v.set 2 : Nat), .int .u64 (v.set 3 : Nat), .slice sa sn sc, .int .i64 v.lo, .int .i64 v.hi], .bool false]) (by simp [results, Try.results32, go_sem, q0, q1, q2, q3, q4, q5, q6, q7]) rfl ?_
          rw [HO.out]
          exact ⟨HV.out.1, v, sa, sn, sc, k2, p, false, HV.out.2.1, HV.out.2.2, rfl, sf_store8 (sf_in HS.out) HNE.out _ _ _ _ _ _ _ _⟩
      | true =>
        go_wp2_with fail
        go_loopw [8] (fun _ wr => wr = w2) (fun _ _ => 0)
        case atStart => first | rfl | exact hw2
        case round =>
          obtain rfl := hrel
          clear hw2
          obtain ⟨n0, n1, n2, n3, n4, n5, n6, n7⟩ := HC2.out.1
          have nlt := HC2.out.2
          have z1 := HS.out.1.err
          have z2 := HS.out.1.lt
          have z3 := beq_c HV.out.1

          have hres := hres_of HS.out
          obtain ⟨⟨q0, q1, q2, q3⟩, ⟨q4, q5, q6, q7⟩, qf⟩ := res_cells hres
          have f0 := qf 0
          have f1 := qf 1
          have f2 := qf 2
          have f3 := qf 3
          have f4 := qf 4
          have f5 := qf 5
          have f6 := qf 6
          have f7 := qf 7
          clear hres qf
          go_wp2_with fail
          refine bodyPost_ret (v := .tuple #[.agg #[.int .i64 v.kind, .int .u64 (v.set 0 : Nat), .int .u64 (v.set 1 : Nat), .int .u64 (v.set 2 : Nat), .int .u64 (v.set 3 : Nat), .slice sa sn sc, .int .i64 v.lo, .int .i64 v.hi], .bool true]) (by simp [results, Try.results32, go_sem, q0, q1, q2, q3, q4, q5, q6, q7]) rfl ?_
          rw [HO.out]
          exact ⟨HV.out.1, v, sa, sn, sc, k2, p, true, HV.out.2.1, HV.out.2.2, rfl, sf_store8 (sf_in HS.out) HNE.out _ _ _ _ _ _ _ _⟩

    | ok t r0 =>
      rw [ha] at hA
      have HO := Lib.hid (show repO r = some (ppost t r0) by unfold repO; rw [ha])
      obtain ⟨v0, sa0, sn0, sc0, k2, hsl, her, ht2, rfl, h1, hl1⟩ := hA
      obtain ⟨w2, hw2⟩ : ∃ w2, w1.alloc (.cells #[.int .i64 v0.kind, .int .u64 (v0.set 0 : Nat), .int .u64 (v0.set 1 : Nat), .int .u64 (v0.set 2 : Nat), .int .u64 (v0.set 3 : Nat), .slice sa0 sn0 sc0, .int .i64 v0.lo, .int .i64 v0.hi] 28) = w2 := ⟨_, rfl⟩
      have c2 := node_new (v := v0) (sa := sa0) (sn := sn0) (sc := sc0) hw2
      have hrow := heap_alloc_new w1 (.cells #[.int .i64 v0.kind, .int .u64 (v0.set 0 : Nat), .int .u64 (v0.set 1 : Nat), .int .u64 (v0.set 2 : Nat), .int .u64 (v0.set 3 : Nat), .slice sa0 sn0 sc0, .int .i64 v0.lo, .int .i64 v0.hi] 28)
      rw [hw2] at hrow
      have hsz1 := h1.2.size
      simp only [World.alloc, Array.size_push] at hsz1
      have HNB := Lib.hid (show w1.heap.size ≠ rb ∧ w.heap.size < w1.heap.size by have := HRB.out; omega)
      have h2 : Sf (w.alloc (.cells #[.int .i64 0, .int .u64 0, .int .u64 0, .int .u64 0, .int .u64 0, .slice none 0 0, .int .i64 0, .int .i64 0] 28)) rb s k2 pl 0 w2 := hw2 ▸ h1.alloc _
      have hl2 : Laid w2 (fun b => w.heap.size < b ∧ b ≠ w1.heap.size) v0 := by
        have hcA : Chg (fun _ => False) w1 w2 := hw2 ▸ (Chg.refl _ w1).alloc _
        refine hl1.keep (fun b hb hR => ?_) hcA.size fun b hb _ => hcA.block b hb id
        simp only [World.alloc, Array.size_push] at hR
        exact ⟨by omega, by omega⟩
      have HI := Lib.hid (show RI w rb s w1.heap.size k2 pl 0 v0 sa0 sn0 sc0 w2 from ⟨h2.1, c2.1, fun j => (row_cells hrow).2 j, hres_of h2, c2.2, (sf_in h2).2⟩)
      rw [← her] at HO
      have HST := Lib.hid (And.intro hsl (And.intro her (And.intro ht2 hl2)))
      clear h1 hl1 ha h2 hl2 hrow c2 hsz1 hsl her ht2
      have HW2 := Lib.hid hw2
      clear hw2
      go_wp2_with fail
      go_loopw [8] (fun _ wr => RRel w rb s w1.heap.size pl (ppost (erase v0) r0) wr) (fun _ wr => imeas rb s wr)
      case atStart =>
        rw [HW2.out]
        exact ⟨v0, sa0, sn0, sc0, k2, pl, 0, HST.out.1, HI.out, .inl ⟨rfl, rfl, r0, HST.out.2.2.1, rfl, HST.out.2.2.2⟩⟩
      case round =>
        clear HI HST HW2
        obtain ⟨v, sa, sn, sc, k', pl', e', hsl, hRI, hor⟩ := hrel
        have HSL := Lib.hid hsl
        clear hsl
        rcases hor with ⟨rfl, hpl, r', htl, hpo, hld⟩ | ⟨c, p, r', hc, rfl, rfl, htl, hpo⟩
        · subst pl'
          have HTL := Lib.hid htl
          have HPO := Lib.hid hpo
          have HLD := Lib.hid hld
          have HM0 := Lib.hid (rmeas_ok hRI.rr)
          have z1 := hRI.rr.err
          have z2 := hRI.rr.lt
          have z3 := hRI.rr.pos
          have HR0 := Lib.hid hRI
          clear htl hpo hld hRI
          go_wp2_with fail
          go_quiet (fail)
          have HRI := Lib.hid (HR0.out.drewN nq)
          have HLQ := Lib.hid (((Chg.refl (fun x => x = rb) wr).drewN nq))
          clear z1 z2 z3 HR0
          by_cases hpp : ∃ b r1, r' = b :: r1 ∧ isPost b
          · obtain ⟨b, r1, rfl, hp⟩ := hpp
            have HPP := Lib.hid hp
            rcases hp with rfl | rfl | rfl | rfl
            · skip
              go_wp2_with fail
              go_at_call 34
              refine (takeR_not _ rb _ 43 _ s pl HRI.out.rr HTL.out (by simp) (by decide)).mono ?_
              rintro x w9 ⟨rfl, h9⟩
              have HRI2 := Lib.hid (HRI.out.sf h9 HNB.out.1 HNE.out)
              have HLQ2 := Lib.hid (HLQ.out.trans h9.2 fun _ _ h => h)
              clear HRI HLQ h9
              have HRI := Lib.hid HRI2.out
              have HLQ := Lib.hid HLQ2.out
              clear HRI2 HLQ2
              go_wp2_with fail
              go_at_call 34
              refine (takeR_not _ rb _ 63 _ s pl HRI.out.rr HTL.out (by simp) (by decide)).mono ?_
              rintro x w9 ⟨rfl, h9⟩
              have HRI2 := Lib.hid (HRI.out.sf h9 HNB.out.1 HNE.out)
              have HLQ2 := Lib.hid (HLQ.out.trans h9.2 fun _ _ h => h)
              clear HRI HLQ h9
              have HRI := Lib.hid HRI2.out
              have HLQ := Lib.hid HLQ2.out
              clear HRI2 HLQ2
              go_wp2_with fail
              go_at_call 34
              refine (takeR_not _ rb _ 123 _ s pl HRI.out.rr HTL.out (by simp) (by decide)).mono ?_
              rintro x w9 ⟨rfl, h9⟩
              have HRI2 := Lib.hid (HRI.out.sf h9 HNB.out.1 HNE.out)
              have HLQ2 := Lib.hid (HLQ.out.trans h9.2 fun _ _ h => h)
              clear HRI HLQ h9
              have HRI := Lib.hid HRI2.out
              have HLQ := Lib.hid HLQ2.out
              clear HRI2 HLQ2
              go_wp2_with fail
              go_at_call 34
              refine (takeR_yes _ rb _ 42 _ s pl HRI.out.rr HTL.out HT.out.2 (by decide)).mono ?_
              rintro x w9 ⟨rfl, h9⟩
              have HRI2 := Lib.hid (HRI.out.sf h9 HNB.out.1 HNE.out)
              have HLQ2 := Lib.hid (HLQ.out.trans h9.2 fun _ _ h => h)
              clear HRI HLQ h9
              have HRI := Lib.hid HRI2.out
              have HLQ := Lib.hid HLQ2.out
              clear HRI2 HLQ2
              have HTI := Lib.hid (show TI s 42 r1 (0) (-1) (k' + 1) pl _ _ from .inl ⟨rfl, rfl, r1, rfl, HTL.out.tail⟩)

              have HQN := Lib.hid HRI.out.nr
              obtain ⟨n0, n1, n2, n3, n4, n5, n6, n7⟩ := HQN.out
              have f0 := HRI.out.nf 0
              have f1 := HRI.out.nf 1
              have f2 := HRI.out.nf 2
              have f3 := HRI.out.nf 3
              have f4 := HRI.out.nf 4
              have f5 := HRI.out.nf 5
              have f6 := HRI.out.nf 6
              have f7 := HRI.out.nf 7
              have qlt := HRI.out.nlt
              have HREP := Lib.hid (HRI.out.rep (lo := 0) (hi := -1) HSL.out HNB.out.1 HNB.out.2)
              have HLE := Lib.hid (HLD.out.chg HLQ.out (fun b _ hb e => by have h1 : b = rb := e; have := HRB.out; have := hb.1; omega))
              clear HQN
              go_wp2_with fail
              exact rep_end HREP.out.1 (HREP.out.2 HLE.out) HTI.out HTL.out HPP.out HPO.out HM0.out
            · skip
              go_wp2_with fail
              go_at_call 34
              refine (takeR_yes _ rb _ 43 _ s pl HRI.out.rr HTL.out HT.out.2 (by decide)).mono ?_
              rintro x w9 ⟨rfl, h9⟩
              have HRI2 := Lib.hid (HRI.out.sf h9 HNB.out.1 HNE.out)
              have HLQ2 := Lib.hid (HLQ.out.trans h9.2 fun _ _ h => h)
              clear HRI HLQ h9
              have HRI := Lib.hid HRI2.out
              have HLQ := Lib.hid HLQ2.out
              clear HRI2 HLQ2
              have HTI := Lib.hid (show TI s 43 r1 (1) (-1) (k' + 1) pl _ _ from .inl ⟨rfl, rfl, r1, rfl, HTL.out.tail⟩)

              have HQN := Lib.hid HRI.out.nr
              obtain ⟨n0, n1, n2, n3, n4, n5, n6, n7⟩ := HQN.out
              have f0 := HRI.out.nf 0
              have f1 := HRI.out.nf 1
              have f2 := HRI.out.nf 2
              have f3 := HRI.out.nf 3
              have f4 := HRI.out.nf 4
              have f5 := HRI.out.nf 5
              have f6 := HRI.out.nf 6
              have f7 := HRI.out.nf 7
              have qlt := HRI.out.nlt
              have HREP := Lib.hid (HRI.out.rep (lo := 1) (hi := -1) HSL.out HNB.out.1 HNB.out.2)
              have HLE := Lib.hid (HLD.out.chg HLQ.out (fun b _ hb e => by have h1 : b = rb := e; have := HRB.out; have := hb.1; omega))
              clear HQN
              go_wp2_with fail
              exact rep_end HREP.out.1 (HREP.out.2 HLE.out) HTI.out HTL.out HPP.out HPO.out HM0.out
            · skip
              go_wp2_with fail
              go_at_call 34
              refine (takeR_not _ rb _ 43 _ s pl HRI.out.rr HTL.out (by simp) (by decide)).mono ?_
              rintro x w9 ⟨rfl, h9⟩
              have HRI2 := Lib.hid (HRI.out.sf h9 HNB.out.1 HNE.out)
              have HLQ2 := Lib.hid (HLQ.out.trans h9.2 fun _ _ h => h)
              clear HRI HLQ h9
              have HRI := Lib.hid HRI2.out
              have HLQ := Lib.hid HLQ2.out
              clear HRI2 HLQ2
              go_wp2_with fail
              go_at_call 34
              refine (takeR_yes _ rb _ 63 _ s pl HRI.out.rr HTL.out HT.out.2 (by decide)).mono ?_
              rintro x w9 ⟨rfl, h9⟩
              have HRI2 := Lib.hid (HRI.out.sf h9 HNB.out.1 HNE.out)
              have HLQ2 := Lib.hid (HLQ.out.trans h9.2 fun _ _ h => h)
              clear HRI HLQ h9
              have HRI := Lib.hid HRI2.out
              have HLQ := Lib.hid HLQ2.out
              clear HRI2 HLQ2
              have HTI := Lib.hid (show TI s 63 r1 (0) (1) (k' + 1) pl _ _ from .inl ⟨rfl, rfl, r1, rfl, HTL.out.tail⟩)

              have HQN := Lib.hid HRI.out.nr
              obtain ⟨n0, n1, n2, n3, n4, n5, n6, n7⟩ := HQN.out
              have f0 := HRI.out.nf 0
              have f1 := HRI.out.nf 1
              have f2 := HRI.out.nf 2
              have f3 := HRI.out.nf 3
              have f4 := HRI.out.nf 4
              have f5 := HRI.out.nf 5
              have f6 := HRI.out.nf 6
              have f7 := HRI.out.nf 7
              have qlt := HRI.out.nlt
              have HREP := Lib.hid (HRI.out.rep (lo := 0) (hi := 1) HSL.out HNB.out.1 HNB.out.2)
              have HLE := Lib.hid (HLD.out.chg HLQ.out (fun b _ hb e => by have h1 : b = rb := e; have := HRB.out; have := hb.1; omega))
              clear HQN
              go_wp2_with fail
              exact rep_end HREP.out.1 (HREP.out.2 HLE.out) HTI.out HTL.out HPP.out HPO.out HM0.out
            · skip
              go_wp2_with fail
              go_at_call 34
              refine (takeR_not _ rb _ 43 _ s pl HRI.out.rr HTL.out (by simp) (by decide)).mono ?_
              rintro x w9 ⟨rfl, h9⟩
              have HRI2 := Lib.hid (HRI.out.sf h9 HNB.out.1 HNE.out)
              have HLQ2 := Lib.hid (HLQ.out.trans h9.2 fun _ _ h => h)
              clear HRI HLQ h9
              have HRI := Lib.hid HRI2.out
              have HLQ := Lib.hid HLQ2.out
              clear HRI2 HLQ2
              go_wp2_with fail
              go_at_call 34
              refine (takeR_not _ rb _ 63 _ s pl HRI.out.rr HTL.out (by simp) (by decide)).mono ?_
              rintro x w9 ⟨rfl, h9⟩
              have HRI2 := Lib.hid (HRI.out.sf h9 HNB.out.1 HNE.out)
              have HLQ2 := Lib.hid (HLQ.out.trans h9.2 fun _ _ h => h)
              clear HRI HLQ h9
              have HRI := Lib.hid HRI2.out
              have HLQ := Lib.hid HLQ2.out
              clear HRI2 HLQ2
              go_wp2_with fail
              go_at_call 34
              refine (takeR_yes _ rb _ 123 _ s pl HRI.out.rr HTL.out HT.out.2 (by decide)).mono ?_
              rintro x w9 ⟨rfl, h9⟩
              have HRI2 := Lib.hid (HRI.out.sf h9 HNB.out.1 HNE.out)
              have HLQ2 := Lib.hid (HLQ.out.trans h9.2 fun _ _ h => h)
              clear HRI HLQ h9
              have HRI := Lib.hid HRI2.out
              have HLQ := Lib.hid HLQ2.out
              clear HRI2 HLQ2
              go_wp2_with fail
              go_at_call 44
              refine (numberR_any _ rb _ r1 s pl HRI.out.rr HTL.out.tail HT.out.2).mono ?_
              intro x w9 hN
              cases hn : pnumber r1 with
              | er r2 c =>
                rw [hn] at hN
                obtain ⟨hc, lo, k2, p, hlo, ht2, rfl, h9⟩ := hN
                have HE0 := Lib.hid (show ¬ (c : Int) = 0 by omega)
                have HP := Lib.hid (And.intro hc (And.intro (pt_er hn) ht2))
                have g1 : (0 : Int) ≤ (lo : Int) := by omega
                clear hn hc ht2 hlo
                have HRI2 := Lib.hid (HRI.out.sf h9 HNB.out.1 HNE.out)
                have HLQ2 := Lib.hid (HLQ.out.trans h9.2 fun _ _ h => h)
                clear HRI HLQ h9
                have HRI := Lib.hid HRI2.out
                have HLQ := Lib.hid HLQ2.out
                clear HRI2 HLQ2
                go_wp2_with fail
                go_at_call 34
                refine (takeR_bad _ rb _ 44 s _ _ HRI.out.rr HE0.out (by decide)).mono ?_
                rintro x w9 ⟨rfl, h9⟩
                have HRI2 := Lib.hid (HRI.out.sf h9 HNB.out.1 HNE.out)
                have HLQ2 := Lib.hid (HLQ.out.trans h9.2 fun _ _ h => h)
                clear HRI HLQ h9
                have HRI := Lib.hid HRI2.out
                have HLQ := Lib.hid HLQ2.out
                clear HRI2 HLQ2
                go_wp2_with fail
                go_at_call 34
                refine (takeR_bad _ rb _ 125 s _ _ HRI.out.rr HE0.out (by decide)).mono ?_
                rintro x w9 ⟨rfl, h9⟩
                have HRI2 := Lib.hid (HRI.out.sf h9 HNB.out.1 HNE.out)
                have HLQ2 := Lib.hid (HLQ.out.trans h9.2 fun _ _ h => h)
                clear HRI HLQ h9
                have HRI := Lib.hid HRI2.out
                have HLQ := Lib.hid HLQ2.out
                clear HRI2 HLQ2
                have z1 := HRI.out.rr.lt
                have z2 := HRI.out.rr.pos
                go_wp2_with fail
                go_at_call 25
                refine (failR_bad _ rb _ s _ _ _ _ HRI.out.rr HE0.out).mono ?_
                rintro x w9 ⟨rfl, h9⟩
                have HRI2 := Lib.hid (HRI.out.sf h9 HNB.out.1 HNE.out)
                have HLQ2 := Lib.hid (HLQ.out.trans h9.2 fun _ _ h => h)
                clear HRI HLQ h9
                have HRI := Lib.hid HRI2.out
                have HLQ := Lib.hid HLQ2.out
                clear HRI2 HLQ2
                clear z1 z2
                have HTI := Lib.hid (show TI s 123 r1 (lo) (lo) (k2) pl _ _ from .inr ⟨c, p, r2, HP.out.1, rfl, rfl, HP.out.2.1, HP.out.2.2⟩)

                have HQN := Lib.hid HRI.out.nr
                obtain ⟨n0, n1, n2, n3, n4, n5, n6, n7⟩ := HQN.out
                have f0 := HRI.out.nf 0
                have f1 := HRI.out.nf 1
                have f2 := HRI.out.nf 2
                have f3 := HRI.out.nf 3
                have f4 := HRI.out.nf 4
                have f5 := HRI.out.nf 5
                have f6 := HRI.out.nf 6
                have f7 := HRI.out.nf 7
                have qlt := HRI.out.nlt
                have HREP := Lib.hid (HRI.out.rep (lo := lo) (hi := lo) HSL.out HNB.out.1 HNB.out.2)
                have HLE := Lib.hid (HLD.out.chg HLQ.out (fun b _ hb e => by have h1 : b = rb := e; have := HRB.out; have := hb.1; omega))
                clear HQN
                go_wp2_with fail
                exact rep_end HREP.out.1 (HREP.out.2 HLE.out) HTI.out HTL.out HPP.out HPO.out HM0.out
              | ok lo r2 =>
                rw [hn] at hN
                obtain ⟨hlo, k2, ht2, rfl, h9⟩ := hN
                have HP := Lib.hid (And.intro hn ht2)
                have g1 : (0 : Int) ≤ (lo : Int) := by omega
                clear hn ht2 hlo
                have HRI2 := Lib.hid (HRI.out.sf h9 HNB.out.1 HNE.out)
                have HLQ2 := Lib.hid (HLQ.out.trans h9.2 fun _ _ h => h)
                clear HRI HLQ h9
                have HRI := Lib.hid HRI2.out
                have HLQ := Lib.hid HLQ2.out
                clear HRI2 HLQ2
                by_cases h44 : r2.head? = some 44
                · obtain ⟨r3, rfl⟩ : ∃ q, r2 = 44 :: q := by cases r2 with
                    | nil => simp at h44
                    | cons b q => simp at h44; subst h44; exact ⟨q, rfl⟩
                  clear h44
                  go_wp2_with fail
                  go_at_call 34
                  refine (takeR_yes _ rb _ 44 _ s pl HRI.out.rr HP.out.2 HT.out.2 (by decide)).mono ?_
                  rintro x w9 ⟨rfl, h9⟩
                  have HRI2 := Lib.hid (HRI.out.sf h9 HNB.out.1 HNE.out)
                  have HLQ2 := Lib.hid (HLQ.out.trans h9.2 fun _ _ h => h)
                  clear HRI HLQ h9
                  have HRI := Lib.hid HRI2.out
                  have HLQ := Lib.hid HLQ2.out
                  clear HRI2 HLQ2
                  by_cases h125 : r3.head? = some 125
                  · obtain ⟨r4, rfl⟩ : ∃ q, r3 = 125 :: q := by cases r3 with
                      | nil => simp at h125
                      | cons b q => simp at h125; subst h125; exact ⟨q, rfl⟩
                    clear h125
                    go_wp2_with fail
                    go_at_call 45
                    refine (nextR_in _ rb _ 125 _ s pl HRI.out.rr HP.out.2.tail).mono ?_
                    rintro x w9 ⟨rfl, h9⟩
                    have HRI2 := Lib.hid (HRI.out.sf h9 HNB.out.1 HNE.out)
                    have HLQ2 := Lib.hid (HLQ.out.trans h9.2 fun _ _ h => h)
                    clear HRI HLQ h9
                    have HRI := Lib.hid HRI2.out
                    have HLQ := Lib.hid HLQ2.out
                    clear HRI2 HLQ2
                    go_wp2_with fail
                    go_at_call 34
                    refine (takeR_yes _ rb _ 125 _ s pl HRI.out.rr HP.out.2.tail HT.out.2 (by decide)).mono ?_
                    rintro x w9 ⟨rfl, h9⟩
                    have HRI2 := Lib.hid (HRI.out.sf h9 HNB.out.1 HNE.out)
                    have HLQ2 := Lib.hid (HLQ.out.trans h9.2 fun _ _ h => h)
                    clear HRI HLQ h9
                    have HRI := Lib.hid HRI2.out
                    have HLQ := Lib.hid HLQ2.out
                    clear HRI2 HLQ2
                    have HTI := Lib.hid (show TI s 123 r1 (lo) (-1) (k2 + 1 + 1) pl _ _ from .inl ⟨rfl, rfl, r4, by rw [pt_cl HP.out.1 rfl]; rfl, HP.out.2.tail.tail⟩)

                    have HQN := Lib.hid HRI.out.nr
                    obtain ⟨n0, n1, n2, n3, n4, n5, n6, n7⟩ := HQN.out
                    have f0 := HRI.out.nf 0
                    have f1 := HRI.out.nf 1
                    have f2 := HRI.out.nf 2
                    have f3 := HRI.out.nf 3
                    have f4 := HRI.out.nf 4
                    have f5 := HRI.out.nf 5
                    have f6 := HRI.out.nf 6
                    have f7 := HRI.out.nf 7
                    have qlt := HRI.out.nlt
                    have HREP := Lib.hid (HRI.out.rep (lo := lo) (hi := -1) HSL.out HNB.out.1 HNB.out.2)
                    have HLE := Lib.hid (HLD.out.chg HLQ.out (fun b _ hb e => by have h1 : b = rb := e; have := HRB.out; have := hb.1; omega))
                    clear HQN
                    go_wp2_with fail
                    exact rep_end HREP.out.1 (HREP.out.2 HLE.out) HTI.out HTL.out HPP.out HPO.out HM0.out
                  · have HN125 := Lib.hid h125
                    clear h125
                    go_wp2_with fail
                    go_at_call 45
                    refine (nextR_not _ rb _ _ s pl HRI.out.rr HP.out.2.tail HN125.out).mono ?_
                    rintro x w9 ⟨z, hz, rfl, h9⟩
                    have HRI2 := Lib.hid (HRI.out.sf h9 HNB.out.1 HNE.out)
                    have HLQ2 := Lib.hid (HLQ.out.trans h9.2 fun _ _ h => h)
                    clear HRI HLQ h9
                    have HRI := Lib.hid HRI2.out
                    have HLQ := Lib.hid HLQ2.out
                    clear HRI2 HLQ2
                    have hz2 : (z == 125) = false := by rw [beq_eq_false_iff_ne]; exact hz
                    go_wp2_with fail
                    go_at_call 44
                    refine (numberR_any _ rb _ r3 s pl HRI.out.rr HP.out.2.tail HT.out.2).mono ?_
                    intro x w9 hN
                    clear hz hz2
                    cases hn : pnumber r3 with
                    | er r4 c =>
                      rw [hn] at hN
                      obtain ⟨hc, hi, k3, p, hhi, ht3, rfl, h9⟩ := hN
                      have HE0 := Lib.hid (show ¬ (c : Int) = 0 by omega)
                      have HP2 := Lib.hid (And.intro hc (And.intro (show ptimes 123 r1 = .er r4 c from pt_up HP.out.1 (by rw [pup_num HN125.out, hn])) ht3))
                      have g2 : (0 : Int) ≤ (hi : Int) := by omega
                      clear hn hc ht3 hhi
                      have HRI2 := Lib.hid (HRI.out.sf h9 HNB.out.1 HNE.out)
                      have HLQ2 := Lib.hid (HLQ.out.trans h9.2 fun _ _ h => h)
                      clear HRI HLQ h9
                      have HRI := Lib.hid HRI2.out
                      have HLQ := Lib.hid HLQ2.out
                      clear HRI2 HLQ2
                      go_wp2_with fail
                      go_at_call 34
                      refine (takeR_bad _ rb _ 125 s _ _ HRI.out.rr HE0.out (by decide)).mono ?_
                      rintro x w9 ⟨rfl, h9⟩
                      have HRI2 := Lib.hid (HRI.out.sf h9 HNB.out.1 HNE.out)
                      have HLQ2 := Lib.hid (HLQ.out.trans h9.2 fun _ _ h => h)
                      clear HRI HLQ h9
                      have HRI := Lib.hid HRI2.out
                      have HLQ := Lib.hid HLQ2.out
                      clear HRI2 HLQ2
                      have z1 := HRI.out.rr.lt
                      have z2 := HRI.out.rr.pos
                      go_wp2_with fail
                      go_at_call 25
                      refine (failR_bad _ rb _ s _ _ _ _ HRI.out.rr HE0.out).mono ?_
                      rintro x w9 ⟨rfl, h9⟩
                      have HRI2 := Lib.hid (HRI.out.sf h9 HNB.out.1 HNE.out)
                      have HLQ2 := Lib.hid (HLQ.out.trans h9.2 fun _ _ h => h)
                      clear HRI HLQ h9
                      have HRI := Lib.hid HRI2.out
                      have HLQ := Lib.hid HLQ2.out
                      clear HRI2 HLQ2
                      clear z1 z2
                      by_cases hgt : hi < lo
                      · have g3 : (hi : Int) < (lo : Int) := by omega
                        clear hgt
                        go_wp2_with fail
                        go_at_call 25
                        refine (failR_bad _ rb _ s _ _ _ _ HRI.out.rr HE0.out).mono ?_
                        rintro x w9 ⟨rfl, h9⟩
                        have HRI2 := Lib.hid (HRI.out.sf h9 HNB.out.1 HNE.out)
                        have HLQ2 := Lib.hid (HLQ.out.trans h9.2 fun _ _ h => h)
                        clear HRI HLQ h9
                        have HRI := Lib.hid HRI2.out
                        have HLQ := Lib.hid HLQ2.out
                        clear HRI2 HLQ2
                        have HTI := Lib.hid (show TI s 123 r1 (lo) (hi) (k3) pl _ _ from .inr ⟨c, p, r4, HP2.out.1, rfl, rfl, HP2.out.2.1, HP2.out.2.2⟩)

                        have HQN := Lib.hid HRI.out.nr
                        obtain ⟨n0, n1, n2, n3, n4, n5, n6, n7⟩ := HQN.out
                        have f0 := HRI.out.nf 0
                        have f1 := HRI.out.nf 1
                        have f2 := HRI.out.nf 2
                        have f3 := HRI.out.nf 3
                        have f4 := HRI.out.nf 4
                        have f5 := HRI.out.nf 5
                        have f6 := HRI.out.nf 6
                        have f7 := HRI.out.nf 7
                        have qlt := HRI.out.nlt
                        have HREP := Lib.hid (HRI.out.rep (lo := lo) (hi := hi) HSL.out HNB.out.1 HNB.out.2)
                        have HLE := Lib.hid (HLD.out.chg HLQ.out (fun b _ hb e => by have h1 : b = rb := e; have := HRB.out; have := hb.1; omega))
                        clear HQN
                        go_wp2_with fail
                        exact rep_end HREP.out.1 (HREP.out.2 HLE.out) HTI.out HTL.out HPP.out HPO.out HM0.out
                      · have g3 : ¬ (hi : Int) < (lo : Int) := by omega
                        clear hgt
                        have HTI := Lib.hid (show TI s 123 r1 (lo) (hi) (k3) pl _ _ from .inr ⟨c, p, r4, HP2.out.1, rfl, rfl, HP2.out.2.1, HP2.out.2.2⟩)

                        have HQN := Lib.hid HRI.out.nr
                        obtain ⟨n0, n1, n2, n3, n4, n5, n6, n7⟩ := HQN.out
                        have f0 := HRI.out.nf 0
                        have f1 := HRI.out.nf 1
                        have f2 := HRI.out.nf 2
                        have f3 := HRI.out.nf 3
                        have f4 := HRI.out.nf 4
                        have f5 := HRI.out.nf 5
                        have f6 := HRI.out.nf 6
                        have f7 := HRI.out.nf 7
                        have qlt := HRI.out.nlt
                        have HREP := Lib.hid (HRI.out.rep (lo := lo) (hi := hi) HSL.out HNB.out.1 HNB.out.2)
                        have HLE := Lib.hid (HLD.out.chg HLQ.out (fun b _ hb e => by have h1 : b = rb := e; have := HRB.out; have := hb.1; omega))
                        clear HQN
                        go_wp2_with fail
                        exact rep_end HREP.out.1 (HREP.out.2 HLE.out) HTI.out HTL.out HPP.out HPO.out HM0.out
                    | ok hi r4 =>
                      rw [hn] at hN
                      obtain ⟨hhi, k3, ht3, rfl, h9⟩ := hN
                      have HP2 := Lib.hid (And.intro (show ptimes 123 r1 = pclose (123 :: r1) lo hi r4 from pt_cl HP.out.1 (by rw [pup_num HN125.out, hn])) ht3)
                      have g2 : (0 : Int) ≤ (hi : Int) := by omega
                      clear hn ht3 hhi
                      have HRI2 := Lib.hid (HRI.out.sf h9 HNB.out.1 HNE.out)
                      have HLQ2 := Lib.hid (HLQ.out.trans h9.2 fun _ _ h => h)
                      clear HRI HLQ h9
                      have HRI := Lib.hid HRI2.out
                      have HLQ := Lib.hid HLQ2.out
                      clear HRI2 HLQ2
                      clear HN125
                      by_cases h125 : r4.head? = some 125
                      · obtain ⟨r5, rfl⟩ : ∃ q, r4 = 125 :: q := by cases r4 with
                          | nil => simp at h125
                          | cons b q => simp at h125; subst h125; exact ⟨q, rfl⟩
                        clear h125
                        go_wp2_with fail
                        go_at_call 34
                        refine (takeR_yes _ rb _ 125 _ s pl HRI.out.rr HP2.out.2 HT.out.2 (by decide)).mono ?_
                        rintro x w9 ⟨rfl, h9⟩
                        have HRI2 := Lib.hid (HRI.out.sf h9 HNB.out.1 HNE.out)
                        have HLQ2 := Lib.hid (HLQ.out.trans h9.2 fun _ _ h => h)
                        clear HRI HLQ h9
                        have HRI := Lib.hid HRI2.out
                        have HLQ := Lib.hid HLQ2.out
                        clear HRI2 HLQ2
                        by_cases hgt : hi < lo
                        · have g3 : (hi : Int) < (lo : Int) := by omega
                          have HCL := Lib.hid (show pclose (123 :: r1) lo hi (125 :: r5) = .er (123 :: r1) 2 from if_pos ⟨by omega, g3⟩)
                          clear hgt
                          go_wp2_with fail
                          go_at_call 25
                          refine (failR_ok _ rb _ s pl k' 2 HRI.out.rr).mono ?_
                          rintro x w9 ⟨rfl, h9⟩
                          have HRI2 := Lib.hid (HRI.out.sf h9 HNB.out.1 HNE.out)
                          have HLQ2 := Lib.hid (HLQ.out.trans h9.2 fun _ _ h => h)
                          clear HRI HLQ h9
                          have HRI := Lib.hid HRI2.out
                          have HLQ := Lib.hid HLQ2.out
                          clear HRI2 HLQ2
                          have HTI := Lib.hid (show TI s 123 r1 (lo) (hi) (k3 + 1) pl _ _ from .inr ⟨2, k', 123 :: r1, .inl rfl, rfl, rfl, by rw [HP2.out.1, HCL.out], HTL.out⟩)

                          have HQN := Lib.hid HRI.out.nr
                          obtain ⟨n0, n1, n2, n3, n4, n5, n6, n7⟩ := HQN.out
                          have f0 := HRI.out.nf 0
                          have f1 := HRI.out.nf 1
                          have f2 := HRI.out.nf 2
                          have f3 := HRI.out.nf 3
                          have f4 := HRI.out.nf 4
                          have f5 := HRI.out.nf 5
                          have f6 := HRI.out.nf 6
                          have f7 := HRI.out.nf 7
                          have qlt := HRI.out.nlt
                          have HREP := Lib.hid (HRI.out.rep (lo := lo) (hi := hi) HSL.out HNB.out.1 HNB.out.2)
                          have HLE := Lib.hid (HLD.out.chg HLQ.out (fun b _ hb e => by have h1 : b = rb := e; have := HRB.out; have := hb.1; omega))
                          clear HQN
                          go_wp2_with fail
                          exact rep_end HREP.out.1 (HREP.out.2 HLE.out) HTI.out HTL.out HPP.out HPO.out HM0.out
                        · have g3 : ¬ (hi : Int) < (lo : Int) := by omega
                          have HCL := Lib.hid (show pclose (123 :: r1) lo hi (125 :: r5) = .ok (lo, hi) r5 from if_neg (fun h => g3 h.2))
                          clear hgt
                          have HTI := Lib.hid (show TI s 123 r1 (lo) (hi) (k3 + 1) pl _ _ from .inl ⟨rfl, rfl, r5, by rw [HP2.out.1, HCL.out], HP2.out.2.tail⟩)

                          have HQN := Lib.hid HRI.out.nr
                          obtain ⟨n0, n1, n2, n3, n4, n5, n6, n7⟩ := HQN.out
                          have f0 := HRI.out.nf 0
                          have f1 := HRI.out.nf 1
                          have f2 := HRI.out.nf 2
                          have f3 := HRI.out.nf 3
                          have f4 := HRI.out.nf 4
                          have f5 := HRI.out.nf 5
                          have f6 := HRI.out.nf 6
                          have f7 := HRI.out.nf 7
                          have qlt := HRI.out.nlt
                          have HREP := Lib.hid (HRI.out.rep (lo := lo) (hi := hi) HSL.out HNB.out.1 HNB.out.2)
                          have HLE := Lib.hid (HLD.out.chg HLQ.out (fun b _ hb e => by have h1 : b = rb := e; have := HRB.out; have := hb.1; omega))
                          clear HQN
                          go_wp2_with fail
                          exact rep_end HREP.out.1 (HREP.out.2 HLE.out) HTI.out HTL.out HPP.out HPO.out HM0.out
                      · have HN125 := Lib.hid h125
                        clear h125
                        have HE0 := Lib.hid (show ¬ ((2 : Nat) : Int) = 0 by decide)
                        go_wp2_with fail
                        go_at_call 34
                        refine (takeR_not _ rb _ 125 _ s pl HRI.out.rr HP2.out.2 HN125.out (by decide)).mono ?_
                        rintro x w9 ⟨rfl, h9⟩
                        have HRI2 := Lib.hid (HRI.out.sf h9 HNB.out.1 HNE.out)
                        have HLQ2 := Lib.hid (HLQ.out.trans h9.2 fun _ _ h => h)
                        clear HRI HLQ h9
                        have HRI := Lib.hid HRI2.out
                        have HLQ := Lib.hid HLQ2.out
                        clear HRI2 HLQ2
                        have z1 := HRI.out.rr.lt
                        have z2 := HRI.out.rr.pos
                        go_wp2_with fail
                        go_at_call 25
                        refine (failR_ok _ rb _ s pl k3 2 HRI.out.rr).mono ?_
                        rintro x w9 ⟨rfl, h9⟩
                        have HRI2 := Lib.hid (HRI.out.sf h9 HNB.out.1 HNE.out)
                        have HLQ2 := Lib.hid (HLQ.out.trans h9.2 fun _ _ h => h)
                        clear HRI HLQ h9
                        have HRI := Lib.hid HRI2.out
                        have HLQ := Lib.hid HLQ2.out
                        clear HRI2 HLQ2
                        clear z1 z2
                        by_cases hgt : hi < lo
                        · have g3 : (hi : Int) < (lo : Int) := by omega
                          clear hgt
                          go_wp2_with fail
                          go_at_call 25
                          refine (failR_bad _ rb _ s _ _ _ _ HRI.out.rr HE0.out).mono ?_
                          rintro x w9 ⟨rfl, h9⟩
                          have HRI2 := Lib.hid (HRI.out.sf h9 HNB.out.1 HNE.out)
                          have HLQ2 := Lib.hid (HLQ.out.trans h9.2 fun _ _ h => h)
                          clear HRI HLQ h9
                          have HRI := Lib.hid HRI2.out
                          have HLQ := Lib.hid HLQ2.out
                          clear HRI2 HLQ2
                          have HTI := Lib.hid (show TI s 123 r1 (lo) (hi) (k3) pl _ _ from .inr ⟨2, k3, r4, .inl rfl, rfl, rfl, by rw [HP2.out.1, pclose_not HN125.out], HP2.out.2⟩)

                          have HQN := Lib.hid HRI.out.nr
                          obtain ⟨n0, n1, n2, n3, n4, n5, n6, n7⟩ := HQN.out
                          have f0 := HRI.out.nf 0
                          have f1 := HRI.out.nf 1
                          have f2 := HRI.out.nf 2
                          have f3 := HRI.out.nf 3
                          have f4 := HRI.out.nf 4
                          have f5 := HRI.out.nf 5
                          have f6 := HRI.out.nf 6
                          have f7 := HRI.out.nf 7
                          have qlt := HRI.out.nlt
                          have HREP := Lib.hid (HRI.out.rep (lo := lo) (hi := hi) HSL.out HNB.out.1 HNB.out.2)
                          have HLE := Lib.hid (HLD.out.chg HLQ.out (fun b _ hb e => by have h1 : b = rb := e; have := HRB.out; have := hb.1; omega))
                          clear HQN
                          go_wp2_with fail
                          exact rep_end HREP.out.1 (HREP.out.2 HLE.out) HTI.out HTL.out HPP.out HPO.out HM0.out
                        · have g3 : ¬ (hi : Int) < (lo : Int) := by omega
                          clear hgt
                          have HTI := Lib.hid (show TI s 123 r1 (lo) (hi) (k3) pl _ _ from .inr ⟨2, k3, r4, .inl rfl, rfl, rfl, by rw [HP2.out.1, pclose_not HN125.out], HP2.out.2⟩)

                          have HQN := Lib.hid HRI.out.nr
                          obtain ⟨n0, n1, n2, n3, n4, n5, n6, n7⟩ := HQN.out
                          have f0 := HRI.out.nf 0
                          have f1 := HRI.out.nf 1
                          have f2 := HRI.out.nf 2
                          have f3 := HRI.out.nf 3
                          have f4 := HRI.out.nf 4
                          have f5 := HRI.out.nf 5
                          have f6 := HRI.out.nf 6
                          have f7 := HRI.out.nf 7
                          have qlt := HRI.out.nlt
                          have HREP := Lib.hid (HRI.out.rep (lo := lo) (hi := hi) HSL.out HNB.out.1 HNB.out.2)
                          have HLE := Lib.hid (HLD.out.chg HLQ.out (fun b _ hb e => by have h1 : b = rb := e; have := HRB.out; have := hb.1; omega))
                          clear HQN
                          go_wp2_with fail
                          exact rep_end HREP.out.1 (HREP.out.2 HLE.out) HTI.out HTL.out HPP.out HPO.out HM0.out
                · have HN44 := Lib.hid h44
                  clear h44
                  go_wp2_with fail
                  go_at_call 34
                  refine (takeR_not _ rb _ 44 _ s pl HRI.out.rr HP.out.2 HN44.out (by decide)).mono ?_
                  rintro x w9 ⟨rfl, h9⟩
                  have HRI2 := Lib.hid (HRI.out.sf h9 HNB.out.1 HNE.out)
                  have HLQ2 := Lib.hid (HLQ.out.trans h9.2 fun _ _ h => h)
                  clear HRI HLQ h9
                  have HRI := Lib.hid HRI2.out
                  have HLQ := Lib.hid HLQ2.out
                  clear HRI2 HLQ2
                  have HP2 := Lib.hid (pt_cl HP.out.1 (pup_no HN44.out))
                  clear HN44
                  by_cases h125 : r2.head? = some 125
                  · obtain ⟨r3, rfl⟩ : ∃ q, r2 = 125 :: q := by cases r2 with
                      | nil => simp at h125
                      | cons b q => simp at h125; subst h125; exact ⟨q, rfl⟩
                    clear h125
                    have HCL := Lib.hid (show pclose (123 :: r1) lo lo (125 :: r3) = .ok (lo, lo) r3 from if_neg (fun h => by have := h.2; omega))
                    go_wp2_with fail
                    go_at_call 34
                    refine (takeR_yes _ rb _ 125 _ s pl HRI.out.rr HP.out.2 HT.out.2 (by decide)).mono ?_
                    rintro x w9 ⟨rfl, h9⟩
                    have HRI2 := Lib.hid (HRI.out.sf h9 HNB.out.1 HNE.out)
                    have HLQ2 := Lib.hid (HLQ.out.trans h9.2 fun _ _ h => h)
                    clear HRI HLQ h9
                    have HRI := Lib.hid HRI2.out
                    have HLQ := Lib.hid HLQ2.out
                    clear HRI2 HLQ2
                    have HTI := Lib.hid (show TI s 123 r1 (lo) (lo) (k2 + 1) pl _ _ from .inl ⟨rfl, rfl, r3, by rw [HP2.out, HCL.out], HP.out.2.tail⟩)

                    have HQN := Lib.hid HRI.out.nr
                    obtain ⟨n0, n1, n2, n3, n4, n5, n6, n7⟩ := HQN.out
                    have f0 := HRI.out.nf 0
                    have f1 := HRI.out.nf 1
                    have f2 := HRI.out.nf 2
                    have f3 := HRI.out.nf 3
                    have f4 := HRI.out.nf 4
                    have f5 := HRI.out.nf 5
                    have f6 := HRI.out.nf 6
                    have f7 := HRI.out.nf 7
                    have qlt := HRI.out.nlt
                    have HREP := Lib.hid (HRI.out.rep (lo := lo) (hi := lo) HSL.out HNB.out.1 HNB.out.2)
                    have HLE := Lib.hid (HLD.out.chg HLQ.out (fun b _ hb e => by have h1 : b = rb := e; have := HRB.out; have := hb.1; omega))
                    clear HQN
                    go_wp2_with fail
                    exact rep_end HREP.out.1 (HREP.out.2 HLE.out) HTI.out HTL.out HPP.out HPO.out HM0.out
                  · have HN125 := Lib.hid h125
                    clear h125
                    go_wp2_with fail
                    go_at_call 34
                    refine (takeR_not _ rb _ 125 _ s pl HRI.out.rr HP.out.2 HN125.out (by decide)).mono ?_
                    rintro x w9 ⟨rfl, h9⟩
                    have HRI2 := Lib.hid (HRI.out.sf h9 HNB.out.1 HNE.out)
                    have HLQ2 := Lib.hid (HLQ.out.trans h9.2 fun _ _ h => h)
                    clear HRI HLQ h9
                    have HRI := Lib.hid HRI2.out
                    have HLQ := Lib.hid HLQ2.out
                    clear HRI2 HLQ2
                    have z1 := HRI.out.rr.lt
                    have z2 := HRI.out.rr.pos
                    go_wp2_with fail
                    go_at_call 25
                    refine (failR_ok _ rb _ s pl k2 2 HRI.out.rr).mono ?_
                    rintro x w9 ⟨rfl, h9⟩
                    have HRI2 := Lib.hid (HRI.out.sf h9 HNB.out.1 HNE.out)
                    have HLQ2 := Lib.hid (HLQ.out.trans h9.2 fun _ _ h => h)
                    clear HRI HLQ h9
                    have HRI := Lib.hid HRI2.out
                    have HLQ := Lib.hid HLQ2.out
                    clear HRI2 HLQ2
                    clear z1 z2
                    have HTI := Lib.hid (show TI s 123 r1 (lo) (lo) (k2) pl _ _ from .inr ⟨2, k2, r2, .inl rfl, rfl, rfl, by rw [HP2.out, pclose_not HN125.out], HP.out.2⟩)

                    have HQN := Lib.hid HRI.out.nr
                    obtain ⟨n0, n1, n2, n3, n4, n5, n6, n7⟩ := HQN.out
                    have f0 := HRI.out.nf 0
                    have f1 := HRI.out.nf 1
                    have f2 := HRI.out.nf 2
                    have f3 := HRI.out.nf 3
                    have f4 := HRI.out.nf 4
                    have f5 := HRI.out.nf 5
                    have f6 := HRI.out.nf 6
                    have f7 := HRI.out.nf 7
                    have qlt := HRI.out.nlt
                    have HREP := Lib.hid (HRI.out.rep (lo := lo) (hi := lo) HSL.out HNB.out.1 HNB.out.2)
                    have HLE := Lib.hid (HLD.out.chg HLQ.out (fun b _ hb e => by have h1 : b = rb := e; have := HRB.out; have := hb.1; omega))
                    clear HQN
                    go_wp2_with fail
                    exact rep_end HREP.out.1 (HREP.out.2 HLE.out) HTI.out HTL.out HPP.out HPO.out HM0.out
          · have HHD : ∀ c, isPost c → r'.head? ≠ some c := by
              intro c hc he
              cases r' with
              | nil => simp at he
              | cons b r1 => simp at he; exact hpp ⟨b, r1, rfl, he ▸ hc⟩
            have hend : ppost (erase v) r' = .ok (erase v) r' := by
              cases r' with
              | nil => exact ppost_nil _
              | cons b r1 => exact ppost_not fun hc => hpp ⟨b, r1, rfl, hc⟩
            have HH := Lib.hid HHD
            have HEND := Lib.hid hend
            clear hpp HHD hend
            go_wp2_with fail
            go_at_call 34
            refine (takeR_not _ rb _ 43 _ s pl HRI.out.rr HTL.out (HH.out 43 (by decide)) (by decide)).mono ?_
            rintro x w9 ⟨rfl, h9⟩
            have HRI2 := Lib.hid (HRI.out.sf h9 HNB.out.1 HNE.out)
            have HLQ2 := Lib.hid (HLQ.out.trans h9.2 fun _ _ h => h)
            clear HRI HLQ h9
            have HRI := Lib.hid HRI2.out
            have HLQ := Lib.hid HLQ2.out
            clear HRI2 HLQ2
            go_wp2_with fail
            go_at_call 34
            refine (takeR_not _ rb _ 63 _ s pl HRI.out.rr HTL.out (HH.out 63 (by decide)) (by decide)).mono ?_
            rintro x w9 ⟨rfl, h9⟩
            have HRI2 := Lib.hid (HRI.out.sf h9 HNB.out.1 HNE.out)
            have HLQ2 := Lib.hid (HLQ.out.trans h9.2 fun _ _ h => h)
            clear HRI HLQ h9
            have HRI := Lib.hid HRI2.out
            have HLQ := Lib.hid HLQ2.out
            clear HRI2 HLQ2
            go_wp2_with fail
            go_at_call 34
            refine (takeR_not _ rb _ 123 _ s pl HRI.out.rr HTL.out (HH.out 123 (by decide)) (by decide)).mono ?_
            rintro x w9 ⟨rfl, h9⟩
            have HRI2 := Lib.hid (HRI.out.sf h9 HNB.out.1 HNE.out)
            have HLQ2 := Lib.hid (HLQ.out.trans h9.2 fun _ _ h => h)
            clear HRI HLQ h9
            have HRI := Lib.hid HRI2.out
            have HLQ := Lib.hid HLQ2.out
            clear HRI2 HLQ2
            go_wp2_with fail
            go_at_call 34
            refine (takeR_not _ rb _ 42 _ s pl HRI.out.rr HTL.out (HH.out 42 (by decide)) (by decide)).mono ?_
            rintro x w9 ⟨rfl, h9⟩
            have HRI2 := Lib.hid (HRI.out.sf h9 HNB.out.1 HNE.out)
            have HLQ2 := Lib.hid (HLQ.out.trans h9.2 fun _ _ h => h)
            clear HRI HLQ h9
            have HRI := Lib.hid HRI2.out
            have HLQ := Lib.hid HLQ2.out
            clear HRI2 HLQ2

            have hres := HRI.out.res
            obtain ⟨⟨q0, q1, q2, q3⟩, ⟨q4, q5, q6, q7⟩, qf⟩ := res_cells hres
            have f0 := qf 0
            have f1 := qf 1
            have f2 := qf 2
            have f3 := qf 3
            have f4 := qf 4
            have f5 := qf 5
            have f6 := qf 6
            have f7 := qf 7
            clear hres qf
            obtain ⟨n0, n1, n2, n3, n4, n5, n6, n7⟩ := HRI.out.nr
            have nlt := HRI.out.nlt
            go_wp2_with fail
            refine bodyPost_ret (v := .tuple #[.agg #[.int .i64 v.kind, .int .u64 (v.set 0 : Nat), .int .u64 (v.set 1 : Nat), .int .u64 (v.set 2 : Nat), .int .u64 (v.set 3 : Nat), .slice sa sn sc, .int .i64 v.lo, .int .i64 v.hi], .bool true]) (by simp [results, Try.results32, go_sem, q0, q1, q2, q3, q4, q5, q6, q7]) rfl ?_
            rw [HO.out, HPO.out, HEND.out]
            exact ⟨v, sa, sn, sc, k', HSL.out, rfl, HTL.out, rfl, sf_store8 ⟨HRI.out.rr, HRI.out.chg⟩ HNE.out _ _ _ _ _ _ _ _, (HLD.out.chg HLQ.out (fun b _ hb e => by have h1 : b = rb := e; have := HRB.out; have := hb.1; omega)).chg (store8_chg (R := fun x => x = w.heap.size) (Chg.refl _ _) (fun _ => rfl) 0 _ _ _ _ _ _ _ _) (fun b _ hb e => by have h1 : b = w.heap.size := e; have := hb.1; omega) |>.mono fun b _ hb => Nat.le_of_lt hb.1⟩

        · have HV := Lib.hid (And.intro hc (And.intro htl hpo))
          have HRI := Lib.hid hRI
          have z1 := hRI.rr.err
          have z2 := hRI.rr.lt
          have z3 := beq_c hc
          clear hc htl hpo hRI
          have hres := HRI.out.res
          obtain ⟨⟨q0, q1, q2, q3⟩, ⟨q4, q5, q6, q7⟩, qf⟩ := res_cells hres
          have f0 := qf 0
          have f1 := qf 1
          have f2 := qf 2
          have f3 := qf 3
          have f4 := qf 4
          have f5 := qf 5
          have f6 := qf 6
          have f7 := qf 7
          clear hres qf
          obtain ⟨n0, n1, n2, n3, n4, n5, n6, n7⟩ := HRI.out.nr
          have nlt := HRI.out.nlt
          go_wp2_with fail
          refine bodyPost_ret (v := .tuple #[.agg #[.int .i64 v.kind, .int .u64 (v.set 0 : Nat), .int .u64 (v.set 1 : Nat), .int .u64 (v.set 2 : Nat), .int .u64 (v.set 3 : Nat), .slice sa sn sc, .int .i64 v.lo, .int .i64 v.hi], .bool true]) (by simp [results, Try.results32, go_sem, q0, q1, q2, q3, q4, q5, q6, q7]) rfl ?_
          rw [HO.out, HV.out.2.2]
          exact ⟨HV.out.1, v, sa, sn, sc, k', p, true, HSL.out, HV.out.2.1, rfl, sf_store8 ⟨HRI.out.rr, HRI.out.chg⟩ HNE.out _ _ _ _ _ _ _ _⟩

end Go.Proofs.Ytbodgadbhldbmaa
