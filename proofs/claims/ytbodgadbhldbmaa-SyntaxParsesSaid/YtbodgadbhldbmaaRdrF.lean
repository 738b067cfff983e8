/- The document's own reader: several as one, an atom: contracts.
   Conditions: the reader's cells are as 'Rr' says, the text has at most 1000 bytes; of an atom: what is read between brackets is as is said. -/
import Derived.Test.YtbodgadbhldbmaaRdrE
import Derived.Test.YtbodgadbhldbmaaRdrP
namespace Go.Proofs.Ytbodgadbhldbmaa
open Go.RowKit

/-- What the call that reads a group comes to. -/
def Alr (o : Out G) (s : ByteArray) (w : World) (rb : Nat) (pl : Int) (x : Ending) (w' : World) : Prop := match o with
  | .ok g r => ∃ (v : V) (sa : Option Addr) (sn sc k : Nat), v.v = .slice sa sn sc ∧ erase v = shutT g ∧ Tl s k r ∧ x = .returned (.agg #[.int .i64 v.kind, .int .u64 (v.set 0 : Nat), .int .u64 (v.set 1 : Nat), .int .u64 (v.set 2 : Nat), .int .u64 (v.set 3 : Nat), .slice sa sn sc, .int .i64 v.lo, .int .i64 v.hi]) ∧ Sf w rb s k pl 0 w' ∧ Laid w' (fun b => w.heap.size ≤ b) v
  | .er r c => (c = 2 ∨ c = 3) ∧ ∃ (v : V) (sa : Option Addr) (sn sc k p : Nat), v.v = .slice sa sn sc ∧ Tl s p r ∧ x = .returned (.agg #[.int .i64 v.kind, .int .u64 (v.set 0 : Nat), .int .u64 (v.set 1 : Nat), .int .u64 (v.set 2 : Nat), .int .u64 (v.set 3 : Nat), .slice sa sn sc, .int .i64 v.lo, .int .i64 v.hi]) ∧ Sf w rb s k p c w'
/-- What the call that reads an atom, or something that is repeated, comes to, if there is one. -/
def Atr (o : Option (Out T)) (k0 : Nat) (s : ByteArray) (w : World) (rb : Nat) (pl : Int) (x : Ending) (w' : World) : Prop := match o with
  | none => x = .returned (.tuple #[.agg #[.int .i64 0, .int .u64 0, .int .u64 0, .int .u64 0, .int .u64 0, .slice none 0 0, .int .i64 0, .int .i64 0], .bool false]) ∧ Sf w rb s k0 pl 0 w'
  | some (.ok t r) => ∃ (v : V) (sa : Option Addr) (sn sc k : Nat), v.v = .slice sa sn sc ∧ erase v = t ∧ Tl s k r ∧ x = .returned (.tuple #[.agg #[.int .i64 v.kind, .int .u64 (v.set 0 : Nat), .int .u64 (v.set 1 : Nat), .int .u64 (v.set 2 : Nat), .int .u64 (v.set 3 : Nat), .slice sa sn sc, .int .i64 v.lo, .int .i64 v.hi], .bool true]) ∧ Sf w rb s k pl 0 w' ∧ Laid w' (fun b => w.heap.size ≤ b) v
  | some (.er r c) => (c = 2 ∨ c = 3) ∧ ∃ (v : V) (sa : Option Addr) (sn sc k p : Nat) (b : Bool), v.v = .slice sa sn sc ∧ Tl s p r ∧ x = .returned (.tuple #[.agg #[.int .i64 v.kind, .int .u64 (v.set 0 : Nat), .int .u64 (v.set 1 : Nat), .int .u64 (v.set 2 : Nat), .int .u64 (v.set 3 : Nat), .slice sa sn sc, .int .i64 v.lo, .int .i64 v.hi], .bool b]) ∧ Sf w rb s k p c w'
def atmO : List Nat → Option (Out T)
  | [] => none
  | b :: r => if b = 41 ∨ b = 124 then none else some (patm (b :: r))
theorem pgrp_stop : ∀ (n : Nat) {g g' : G} {frs : List G} {r r' : List Nat} {b : Nat}, r.length ≤ n → pgrp g frs r = .ok g' (b :: r') → b = 41
  | n, g, g', frs, [], r', b, _, h => by
    cases frs with
    | nil => rw [pgrp_nil] at h; injection h with _ h; cases h
    | cons p ps => rw [pgrp_open] at h; cases h
  | n, g, g', frs, a :: r, r', b, hn, h => by
    by_cases hc : a = 41 ∧ frs = []
    · obtain ⟨rfl, rfl⟩ := hc
      rw [pgrp_shut] at h
      injection h with _ h
      injection h with h _
      exact h.symm
    · rw [pgrp_step hc] at h
      split at h
      · cases h
      · rename_i x r1 hx
        have hl := pstep_len hx
        match n, hn with
        | 0, hn => simp at hn
        | n + 1, hn => exact pgrp_stop n (by simp at hn hl; omega) h
theorem sf_store8 {w w' : World} {rb k : Nat} {s : ByteArray} {pl e : Int} (h : Sf w rb s k pl e w') (hne : w.heap.size ≠ rb) (a0 a1 a2 a3 a4 a5 a6 a7 : Value) : Sf w rb s k pl e (store8 w' w.heap.size 0 a0 a1 a2 a3 a4 a5 a6 a7) := by
  have hc : Chg (fun x => x = w.heap.size) w' (store8 w' w.heap.size 0 a0 a1 a2 a3 a4 a5 a6 a7) := store8_chg (R := fun x => x = w.heap.size) (Chg.refl _ _) (fun _ => rfl) 0 a0 a1 a2 a3 a4 a5 a6 a7
  exact ⟨h.1.keep hc (fun e => hne e.symm), h.2.trans hc fun x hx e => by omega⟩
theorem put_class {b : Nat} (hb : b < 256) (w : World) : Calls Try.prog 52 #[.agg #[.int .u64 0, .int .u64 0, .int .u64 0, .int .u64 0], .int .i64 b] w (GivesClass (between b b) w) := by
  refine (put_any zeros b w (fun _ => by unfold zeros; omega) hb).mono (gives_class fun x hx => ?_)
  rw [between_iff]
  have : hasB zeros x = false := by unfold hasB zeros; simp
  rw [this]
  simp
  omega
theorem hres_of {w w' : World} {rb k : Nat} {s : ByteArray} {pl e : Int} (h : Sf (w.alloc (.cells zcells 28)) rb s k pl e w') (hne : w.heap.size ≠ rb := by assumption) : w'.heap[w.heap.size]? = some (.cells zcells 28 (0, 0)) :=
  (h.2.block _ (by simp) hne).trans (heap_alloc_new w _)
theorem sf_in {w w' : World} {rb k : Nat} {s : ByteArray} {pl e : Int} (h : Sf (w.alloc (.cells zcells 28)) rb s k pl e w') : Sf w rb s k pl e w' := ⟨h.1, ((Chg.refl (fun x => x = rb) w).alloc _).trans h.2 fun _ _ h => h⟩
theorem Sf.keep' {w w' w2 : World} {rb k : Nat} {s : ByteArray} {pl e : Int} (h : Sf w rb s k pl e w') (hb : Below w'.heap.size w' w2) : Sf w rb s k pl e w2 :=
  ⟨h.1.keep (Chg.of_below (R := fun _ => False) hb) id, h.2.trans (Chg.of_below (R := fun x => x = rb) hb) fun _ _ h => h⟩
theorem txt_two : txt { data := #[41, 124] } = [41, 124] := rfl
theorem txt_six : txt { data := #[93, 125, 42, 43, 63, 123] } = [93, 125, 42, 43, 63, 123] := rfl
theorem patm_bad {b : Nat} (r : List Nat) (h : b = 93 ∨ b = 125 ∨ b = 42 ∨ b = 43 ∨ b = 63 ∨ b = 123) : patm (b :: r) = .er (b :: r) 2 := by
  rw [patm_other (by omega), pset_plain (by omega) (by omega)]
  have : pplain marks (b :: r) = .er (b :: r) 2 := by
    simp only [pplain]
    rw [if_pos (by unfold marks; simp; omega)]
  rw [this]
theorem patm_plain {b : Nat} {r : List Nat} (h1 : b ≠ 40) (h2 : b ≠ 46) (h3 : b ≠ 91) (h4 : ¬ b ∈ marks) (h5 : b ≠ 92) : patm (b :: r) = .ok (atomT (between b b)) r := by
  rw [patm_other h1, pset_plain h2 h3]
  have : pplain marks (b :: r) = .ok b r := by
    simp only [pplain]
    rw [if_neg h4, if_neg h5]
  rw [this]
theorem patm_esc (r : List Nat) : patm (92 :: r) = match pesc r with
    | .ok a r' => .ok (atomT (between a a)) r'
    | .er r' c => .er r' c := by
  rw [patm_other (by decide), pset_plain (by decide) (by decide)]
  have : pplain marks (92 :: r) = pesc r := rfl
  rw [this]
  cases pesc r <;> rfl
theorem patm_brack (r : List Nat) : patm (91 :: r) = match pbrack r with
    | .ok S r' => .ok (atomT S) r'
    | .er r' c => .er r' c := by
  rw [patm_other (by decide), pset_brack]
  cases pbrack r <;> rfl
theorem patm_dot (r : List Nat) : patm (46 :: r) = .ok (atomT (fun _ => true)) r := by
  rw [patm_other (by decide), pset_dot]
/-- A node's eight cells lie in a block of their own. -/
def NodeRow (w : World) (b : Nat) (v : V) (sa : Option Addr) (sn sc : Nat) : Prop := w.cell? ⟨b, 0, none⟩ = some (.int .i64 v.kind) ∧ w.cell? ⟨b, 1, none⟩ = some (.int .u64 (v.set 0 : Nat)) ∧ w.cell? ⟨b, 2, none⟩ = some (.int .u64 (v.set 1 : Nat)) ∧ w.cell? ⟨b, 3, none⟩ = some (.int .u64 (v.set 2 : Nat)) ∧ w.cell? ⟨b, 4, none⟩ = some (.int .u64 (v.set 3 : Nat)) ∧ w.cell? ⟨b, 5, none⟩ = some (.slice sa sn sc) ∧ w.cell? ⟨b, 6, none⟩ = some (.int .i64 v.lo) ∧ w.cell? ⟨b, 7, none⟩ = some (.int .i64 v.hi)
theorem node_new {w3 w4 : World} {v : V} {sa : Option Addr} {sn sc : Nat} (h : w3.alloc (.cells #[.int .i64 v.kind, .int .u64 (v.set 0 : Nat), .int .u64 (v.set 1 : Nat), .int .u64 (v.set 2 : Nat), .int .u64 (v.set 3 : Nat), .slice sa sn sc, .int .i64 v.lo, .int .i64 v.hi] 28) = w4) : NodeRow w4 w3.heap.size v sa sn sc ∧ w3.heap.size < w4.heap.size := by
  have e := heap_alloc_new w3 (.cells #[.int .i64 v.kind, .int .u64 (v.set 0 : Nat), .int .u64 (v.set 1 : Nat), .int .u64 (v.set 2 : Nat), .int .u64 (v.set 3 : Nat), .slice sa sn sc, .int .i64 v.lo, .int .i64 v.hi] 28)
  rw [h] at e
  obtain ⟨n1, _⟩ := row_cells e
  exact ⟨⟨n1 0, n1 1, n1 2, n1 3, n1 4, n1 5, n1 6, n1 7⟩, (Array.getElem?_eq_some_iff.1 e).1⟩
theorem nodeRow_chg {w w' : World} {R : Nat → Prop} {b : Nat} {v : V} {sa : Option Addr} {sn sc : Nat} (h : NodeRow w b v sa sn sc) (hc : Chg R w w') (hb : b < w.heap.size) (hn : ¬ R b) : NodeRow w' b v sa sn sc := by
  obtain ⟨h0, h1, h2, h3, h4, h5, h6, h7⟩ := h
  exact ⟨(hc.cell 0 hb hn).trans h0, (hc.cell 1 hb hn).trans h1, (hc.cell 2 hb hn).trans h2, (hc.cell 3 hb hn).trans h3, (hc.cell 4 hb hn).trans h4, (hc.cell 5 hb hn).trans h5, (hc.cell 6 hb hn).trans h6, (hc.cell 7 hb hn).trans h7⟩

set_option maxHeartbeats 1000000 in
set_option maxRecDepth 100000 in
theorem several_any (w : World) (base : Nat) (kind : Int) (v : Value) (ps : List V) (hown : w.ownsRow base 28 8 v ps.length (flat ps)) (hsl : ∀ p ∈ ps, ∃ a n c, p.v = .slice a n c) :
    Calls Try.prog 33 #[.int .i64 kind, v] w fun e w' => e = .returned (nodeAgg (joinV kind v ps)) ∧ Below w.heap.size w w' := by
  obtain ⟨A, cp, rfl⟩ := own_form hown
  match ps, hown, hsl with
  | [], hown, hsl =>
    go_enter Try.func33, Try.ntmps33
    go_wp2_with fail
    refine bodyPost_ret (v := nodeAgg zeroV) (by simp [nodeAgg, zeroV, V.kind, V.set, V.v, V.lo, V.hi, zeros, results, Try.results33, go_sem]) rfl ⟨rfl, ?_⟩
    exact (Below.refl _ _).alloc (Nat.le_refl _) _
  | [p], hown, hsl =>
    obtain ⟨g, cap, hg, _, hlt⟩ := hown.form (Nat.succ_pos _)
    simp at hg
    obtain ⟨rfl, rfl⟩ := hg
    obtain ⟨a, m, c, hpv⟩ := hsl p (by simp)
    have hc : ∀ j, j < 8 → w.cell? ⟨g, j, none⟩ = (ndc p)[j]? := fun j hj => by
      rw [hown.cellAt j (by simpa using hj)]
      have := flat_at [p] 0 p rfl j hj
      rwa [Nat.zero_mul, Nat.zero_add] at this
    have x0 : w.cell? ⟨g, 0, none⟩ = some (.int .i64 p.kind) := hc 0 (by decide)
    have x1 : w.cell? ⟨g, 1, none⟩ = some (.int .u64 (p.set 0 : Nat)) := hc 1 (by decide)
    have x2 : w.cell? ⟨g, 2, none⟩ = some (.int .u64 (p.set 1 : Nat)) := hc 2 (by decide)
    have x3 : w.cell? ⟨g, 3, none⟩ = some (.int .u64 (p.set 2 : Nat)) := hc 3 (by decide)
    have x4 : w.cell? ⟨g, 4, none⟩ = some (.int .u64 (p.set 3 : Nat)) := hc 4 (by decide)
    have x5 : w.cell? ⟨g, 5, none⟩ = some (.slice a m c) := (hc 5 (by decide)).trans (congrArg some hpv)
    have x6 : w.cell? ⟨g, 6, none⟩ = some (.int .i64 p.lo) := hc 6 (by decide)
    have x7 : w.cell? ⟨g, 7, none⟩ = some (.int .i64 p.hi) := hc 7 (by decide)
    have HP := Lib.hid hpv
    clear hc hpv
    go_enter Try.func33, Try.ntmps33
    go_wp2_with fail
    refine bodyPost_ret (v := .agg #[.int .i64 p.kind, .int .u64 (p.set 0 : Nat), .int .u64 (p.set 1 : Nat), .int .u64 (p.set 2 : Nat), .int .u64 (p.set 3 : Nat), .slice a m c, .int .i64 p.lo, .int .i64 p.hi]) (by simp [results, Try.results33, go_sem]) rfl ⟨?_, ?_⟩
    · unfold joinV nodeAgg
      rw [HP.out]
    · exact (Below.refl _ _).alloc (Nat.le_refl _) _
  | p :: q :: ps, hown, _ =>
    have e0 : (((p :: q :: ps).length : Nat) : Int) = (ps.length : Int) + 2 := by simp; omega
    generalize (p :: q :: ps).length = m at *
    have e1 : ((m : Int) == 0) = false := by simp; omega
    have e2 : ((m : Int) == 1) = false := by simp; omega
    clear hown e0
    go_enter Try.func33, Try.ntmps33
    go_wp2_with fail
    refine bodyPost_ret (v := .agg #[.int .i64 kind, .int .u64 0, .int .u64 0, .int .u64 0, .int .u64 0, .slice A m cp, .int .i64 0, .int .i64 0]) (by simp [results, Try.results33, go_sem]) rfl ⟨rfl, ?_⟩
    exact (Below.refl _ _).alloc (Nat.le_refl _) _

end Go.Proofs.Ytbodgadbhldbmaa
