/- The document's own reader: its next byte, whether one is taken, what fails: contracts.
   Conditions: the reader's cells are as 'Rr' says. -/
import Derived.Test.YtbodgadbhldbmaaWake
import Derived.Deep.QuietTactic
import Derived.BigQuiet
namespace Go.Proofs.Ytbodgadbhldbmaa
open Go.RowKit

/-- The cells of the document's reader: its text, how far it is, the place and the number of its error. -/
structure Rr (w : World) (rb : Nat) (s : ByteArray) (k : Nat) (pl e : Int) : Prop where
  lt : rb < w.heap.size
  text : w.cell? ⟨rb, 0, none⟩ = some (.string s)
  pos : w.cell? ⟨rb, 1, none⟩ = some (.int .i64 k)
  plc : w.cell? ⟨rb, 2, none⟩ = some (.int .i64 pl)
  err : w.cell? ⟨rb, 3, none⟩ = some (.int .i64 e)
  frz : ∀ o, w.frozen? ⟨rb, o, none⟩ = false
theorem Rr.keep {R : Nat → Prop} {w w' : World} {rb k : Nat} {s : ByteArray} {pl e : Int} (h : Rr w rb s k pl e) (hc : Chg R w w') (hn : ¬ R rb) : Rr w' rb s k pl e :=
  ⟨Nat.lt_of_lt_of_le h.lt hc.size, (hc.cell _ h.lt hn).trans h.text, (hc.cell _ h.lt hn).trans h.pos, (hc.cell _ h.lt hn).trans h.plc, (hc.cell _ h.lt hn).trans h.err, fun o => (hc.frozen _ h.lt hn).trans (h.frz o)⟩
theorem Rr.set1 {w : World} {rb k k' : Nat} {s : ByteArray} {pl e : Int} (h : Rr w rb s k pl e) {v : Value} (hv : v = .int .i64 k') : Rr (w.setCell ⟨rb, 1, none⟩ v) rb s k' pl e := by
  subst hv
  exact ⟨by simp [World.setCell]; exact h.lt, by rw [World.cell?_setCell_other (h := addr_ne (.inr (by decide)))]; exact h.text, World.cell?_setCell_same _ _ _ h.pos, by rw [World.cell?_setCell_other (h := addr_ne (.inr (by decide)))]; exact h.plc, by rw [World.cell?_setCell_other (h := addr_ne (.inr (by decide)))]; exact h.err, fun o => by simp [h.frz o]⟩
theorem Rr.set2 {w : World} {rb k : Nat} {s : ByteArray} {pl e : Int} (h : Rr w rb s k pl e) (pl' : Int) : Rr (w.setCell ⟨rb, 2, none⟩ (.int .i64 pl')) rb s k pl' e :=
  ⟨by simp [World.setCell]; exact h.lt, by rw [World.cell?_setCell_other (h := addr_ne (.inr (by decide)))]; exact h.text, by rw [World.cell?_setCell_other (h := addr_ne (.inr (by decide)))]; exact h.pos, World.cell?_setCell_same _ _ _ h.plc, by rw [World.cell?_setCell_other (h := addr_ne (.inr (by decide)))]; exact h.err, fun o => by simp [h.frz o]⟩
theorem Rr.set3 {w : World} {rb k : Nat} {s : ByteArray} {pl e : Int} (h : Rr w rb s k pl e) (e' : Int) : Rr (w.setCell ⟨rb, 3, none⟩ (.int .i64 e')) rb s k pl e' :=
  ⟨by simp [World.setCell]; exact h.lt, by rw [World.cell?_setCell_other (h := addr_ne (.inr (by decide)))]; exact h.text, by rw [World.cell?_setCell_other (h := addr_ne (.inr (by decide)))]; exact h.pos, by rw [World.cell?_setCell_other (h := addr_ne (.inr (by decide)))]; exact h.plc, World.cell?_setCell_same _ _ _ h.err, fun o => by simp [h.frz o]⟩
/-- What a call of the reader leaves: its cells, and that nothing else has changed. -/
def Sf (w : World) (rb : Nat) (s : ByteArray) (k : Nat) (pl e : Int) (w' : World) : Prop := Rr w' rb s k pl e ∧ Chg (· = rb) w w'
theorem Sf.refl {w : World} {rb k : Nat} {s : ByteArray} {pl e : Int} (h : Rr w rb s k pl e) : Sf w rb s k pl e w := ⟨h, Chg.refl _ _⟩
theorem Sf.trans {a b c : World} {rb k k' : Nat} {s : ByteArray} {pl e pl' e' : Int} (h : Sf a rb s k pl e b) (h' : Sf b rb s k' pl' e' c) : Sf a rb s k' pl' e' c := ⟨h'.1, h.2.trans h'.2 fun _ _ e => e⟩
theorem Sf.drewN {a b : World} {rb k : Nat} {s : ByteArray} {pl e : Int} (h : Sf a rb s k pl e b) (n : Nat) : Sf a rb s k pl e (b.drewN n) := ⟨h.1.keep ((Chg.refl (fun _ => False) _).drewN n) id, h.2.drewN n⟩
theorem Sf.drew {a b : World} {rb k : Nat} {s : ByteArray} {pl e : Int} (h : Sf a rb s k pl e b) : Sf a rb s k pl e b.drew := ⟨h.1.keep ((Chg.refl (fun _ => False) _).drew) id, h.2.drew⟩
theorem Sf.alloc {a b : World} {rb k : Nat} {s : ByteArray} {pl e : Int} (h : Sf a rb s k pl e b) (o : Obj) : Sf a rb s k pl e (b.alloc o) := ⟨h.1.keep ((Chg.refl (fun _ => False) _).alloc o) id, h.2.alloc o⟩
theorem Sf.set1 {a b : World} {rb k k' : Nat} {s : ByteArray} {pl e : Int} (h : Sf a rb s k pl e b) {v : Value} (hv : v = .int .i64 k') : Sf a rb s k' pl e (b.setCell ⟨rb, 1, none⟩ v) := ⟨h.1.set1 hv, h.2.setCell (fun _ => rfl) _⟩
theorem Sf.keep {R : Nat → Prop} {a b c : World} {rb k : Nat} {s : ByteArray} {pl e : Int} (h : Sf a rb s k pl e b) (hc : Chg R b c) (hR : ∀ x, x < a.heap.size → ¬ R x) (hr : rb < a.heap.size) : Sf a rb s k pl e c :=
  ⟨h.1.keep hc (hR rb hr), h.2.trans hc fun x hx e => absurd e (hR x hx)⟩

set_option maxHeartbeats 400000 in
set_option maxRecDepth 100000 in
theorem nextR_bad (w : World) (rb k : Nat) (s : ByteArray) (pl e : Int) (h : Rr w rb s k pl e) (he : ¬ e = 0) :
    Calls Try.prog 45 #[.pointer (some ⟨rb, 0, none⟩)] w fun x w' => x = .returned (.int .i64 (-1)) ∧ Sf w rb s k pl e w' := by
  have h1 := h.text
  have h2 := h.pos
  have h3 := h.err
  have h4 := h.lt
  have g1 : (e != 0) = true := by rw [bne_iff_ne]; exact he
  have H := Lib.hid (Sf.refl h)
  clear h he
  go_enter Try.func45, Try.ntmps45
  go_wp2
  go_quiet (fail)
  go_wp2
  go_ret
  exact ⟨rfl, H.out.drewN _⟩
set_option maxHeartbeats 400000 in
set_option maxRecDepth 100000 in
theorem nextR_end (w : World) (rb k : Nat) (s : ByteArray) (pl : Int) (h : Rr w rb s k pl 0) (ht : Tl s k []) :
    Calls Try.prog 45 #[.pointer (some ⟨rb, 0, none⟩)] w fun x w' => x = .returned (.int .i64 (-1)) ∧ Sf w rb s k pl 0 w' := by
  have hk := ht.nil
  have h1 := h.text
  have h2 := h.pos
  have h3 := h.err
  have h4 := h.lt
  have g1 : (s.size : Int) ≤ (k : Int) := by omega
  have g2 : s.size ≤ k := by omega
  have H := Lib.hid (Sf.refl h)
  clear h hk
  go_enter Try.func45, Try.ntmps45
  go_wp2
  go_quiet (fail)
  go_wp2
  go_ret
  exact ⟨rfl, H.out.drewN _⟩
set_option maxHeartbeats 400000 in
set_option maxRecDepth 100000 in
theorem nextR_in (w : World) (rb k b : Nat) (r : List Nat) (s : ByteArray) (pl : Int) (h : Rr w rb s k pl 0) (ht : Tl s k (b :: r)) :
    Calls Try.prog 45 #[.pointer (some ⟨rb, 0, none⟩)] w fun x w' => x = .returned (.int .i64 b) ∧ Sf w rb s k pl 0 w' := by
  have h1 := h.text
  have h2 := h.pos
  have h3 := h.err
  have h4 := h.lt
  have hlt := ht.lt
  have g1 : ¬ (s.size : Int) ≤ (k : Int) := by omega
  have g2 : ¬ s.size ≤ k := by omega
  have hd : decide ((s.size : Int) ≤ (k : Int)) = false := by simp; omega
  have hd2 : decide (s.size ≤ k) = false := by simp; omega
  have hb := ht.at
  have hb2 : (b : Int) ≤ 255 := by have := ht.byte; omega
  have hb3 : (0 : Int) ≤ (b : Int) := by omega
  have H := Lib.hid (Sf.refl h)
  clear h
  go_enter Try.func45, Try.ntmps45
  go_wp2
  go_quiet (fail)
  go_wp2
  go_quiet (fail)
  go_wp2
  go_ret
  exact ⟨rfl, (H.out.drewN _).drewN _⟩

set_option maxHeartbeats 400000 in
set_option maxRecDepth 100000 in
theorem takeR_bad (w : World) (rb k c : Nat) (s : ByteArray) (pl e : Int) (h : Rr w rb s k pl e) (he : ¬ e = 0) (h8 : c < 256) :
    Calls Try.prog 34 #[.pointer (some ⟨rb, 0, none⟩), .int .u8 c] w fun x w' => x = .returned (.bool false) ∧ Sf w rb s k pl e w' := by
  have g1 : ((-1 : Int) == (c : Int)) = false := by rw [beq_eq_false_iff_ne]; omega
  have h9 : (c : Int) ≤ 255 := by omega
  have h10 : (0 : Int) ≤ (c : Int) := by omega
  go_enter Try.func34, Try.ntmps34
  go_wp2_with fail
  go_at_call 45
  refine (nextR_bad w rb k s pl e h he).mono ?_
  rintro x w1 ⟨rfl, hA⟩
  have HA := Lib.hid hA
  clear hA h he
  go_wp2_with fail
  go_ret
  exact ⟨rfl, HA.out⟩
set_option maxHeartbeats 400000 in
set_option maxRecDepth 100000 in
theorem takeR_end (w : World) (rb k c : Nat) (s : ByteArray) (pl : Int) (h : Rr w rb s k pl 0) (ht : Tl s k []) (h8 : c < 256) :
    Calls Try.prog 34 #[.pointer (some ⟨rb, 0, none⟩), .int .u8 c] w fun x w' => x = .returned (.bool false) ∧ Sf w rb s k pl 0 w' := by
  have g1 : ((-1 : Int) == (c : Int)) = false := by rw [beq_eq_false_iff_ne]; omega
  have h9 : (c : Int) ≤ 255 := by omega
  have h10 : (0 : Int) ≤ (c : Int) := by omega
  go_enter Try.func34, Try.ntmps34
  go_wp2_with fail
  go_at_call 45
  refine (nextR_end w rb k s pl h ht).mono ?_
  rintro x w1 ⟨rfl, hA⟩
  have HA := Lib.hid hA
  clear hA h ht
  go_wp2_with fail
  go_ret
  exact ⟨rfl, HA.out⟩
set_option maxHeartbeats 400000 in
set_option maxRecDepth 100000 in
theorem takeR_no (w : World) (rb k b c : Nat) (r : List Nat) (s : ByteArray) (pl : Int) (h : Rr w rb s k pl 0) (ht : Tl s k (b :: r)) (hc : b ≠ c) (h8 : c < 256) :
    Calls Try.prog 34 #[.pointer (some ⟨rb, 0, none⟩), .int .u8 c] w fun x w' => x = .returned (.bool false) ∧ Sf w rb s k pl 0 w' := by
  have g1 : ((b : Int) == (c : Int)) = false := by simp; omega
  have h9 : (c : Int) ≤ 255 := by omega
  have h10 : (0 : Int) ≤ (c : Int) := by omega
  go_enter Try.func34, Try.ntmps34
  go_wp2_with fail
  go_at_call 45
  refine (nextR_in w rb k b r s pl h ht).mono ?_
  rintro x w1 ⟨rfl, hA⟩
  have HA := Lib.hid hA
  clear hA h ht hc
  go_wp2_with fail
  go_ret
  exact ⟨rfl, HA.out⟩
set_option maxHeartbeats 400000 in
set_option maxRecDepth 100000 in
theorem takeR_yes (w : World) (rb k c : Nat) (r : List Nat) (s : ByteArray) (pl : Int) (h : Rr w rb s k pl 0) (ht : Tl s k (c :: r)) (hs : s.size ≤ 1000) (h8 : c < 256) :
    Calls Try.prog 34 #[.pointer (some ⟨rb, 0, none⟩), .int .u8 c] w fun x w' => x = .returned (.bool true) ∧ Sf w rb s (k + 1) pl 0 w' := by
  have hlt := ht.lt
  have hk : (k : Int) < 1000 := by omega
  have h9 : (c : Int) ≤ 255 := by omega
  have h10 : (0 : Int) ≤ (c : Int) := by omega
  go_enter Try.func34, Try.ntmps34
  go_wp2_with fail
  go_at_call 45
  refine (nextR_in w rb k c r s pl h ht).mono ?_
  rintro x w1 ⟨rfl, hA⟩
  have c1 := hA.1.pos
  have c2 := hA.1.frz 1
  have c3 := hA.1.lt
  have HA := Lib.hid hA
  clear hA h
  go_wp2_with fail
  go_ret
  exact ⟨rfl, HA.out.set1 (by go_num)⟩
set_option maxHeartbeats 400000 in
set_option maxRecDepth 100000 in
theorem failR_ok (w : World) (rb k : Nat) (s : ByteArray) (pl p c : Int) (h : Rr w rb s k pl 0) :
    Calls Try.prog 25 #[.pointer (some ⟨rb, 0, none⟩), .int .i64 p, .int .i64 c] w fun x w' => x = .returned (.tuple #[]) ∧ Sf w rb s k p c w' := by
  have c1 := h.plc
  have c2 := h.err
  have c3 := h.lt
  have f2 := h.frz 2
  have f3 := h.frz 3
  have HS := Lib.hid (show Sf w rb s k p c ((w.setCell ⟨rb, 2, none⟩ (.int .i64 p)).setCell ⟨rb, 3, none⟩ (.int .i64 c)) from ⟨(h.set2 p).set3 c, ((Chg.refl (· = rb) w).setCell (p := ⟨rb, 2, none⟩) (fun _ => rfl) _).setCell (p := ⟨rb, 3, none⟩) (fun _ => rfl) _⟩)
  clear h
  go_enter Try.func25, Try.ntmps25
  go_wp2_with fail
  go_end0
  exact ⟨rfl, HS.out⟩
set_option maxHeartbeats 400000 in
set_option maxRecDepth 100000 in
theorem failR_bad (w : World) (rb k : Nat) (s : ByteArray) (pl e p c : Int) (h : Rr w rb s k pl e) (he : ¬ e = 0) :
    Calls Try.prog 25 #[.pointer (some ⟨rb, 0, none⟩), .int .i64 p, .int .i64 c] w fun x w' => x = .returned (.tuple #[]) ∧ Sf w rb s k pl e w' := by
  have c2 := h.err
  have c3 := h.lt
  have g1 : (e == 0) = false := by simp [he]
  have HS := Lib.hid (Sf.refl h)
  clear h he
  go_enter Try.func25, Try.ntmps25
  go_wp2_with fail
  go_end0
  exact ⟨rfl, HS.out⟩

end Go.Proofs.Ytbodgadbhldbmaa
