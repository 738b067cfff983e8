/- What the reader's calls that read one byte come to: contracts.
   Conditions: the reader's cells are as 'Rd' says, and the text is no longer than memory may be. -/
import Derived.Test.YtpibkalbnjgpaaaDoorRd
import Derived.Test.YtpibkalbnjgpaaaDoorPure
import Derived.Lib.Bytealg
namespace Go.Proofs.YtpibkalbnjgpaaaDoor
open Go.RowKit

theorem ix_byte (s : ByteArray) (b : Nat) (hb : b < 256) : Lib.indexByte s.data.toList (b : Int).toNat.toUInt8 = ix (txt s) b := by
  unfold txt
  induction s.data.toList with
  | nil => rfl
  | cons c l ih =>
    rw [List.map_cons]
    unfold Lib.indexByte ix
    rw [ih]
    have e : (c == (b : Int).toNat.toUInt8) = decide (c.toNat = b) := by
      rw [Int.toNat_natCast, Bool.eq_iff_iff]
      simp only [beq_iff_eq, decide_eq_true_eq]
      constructor
      · rintro rfl; rw [Nat.toUInt8_eq, UInt8.toNat_ofNat']; exact Nat.mod_eq_of_lt hb
      · intro h; apply UInt8.toNat_inj.1; rw [h, Nat.toUInt8_eq, UInt8.toNat_ofNat']; exact (Nat.mod_eq_of_lt hb).symm
    rw [e]
    by_cases h : c.toNat = b
    · simp [h]
    · by_cases h2 : ix (List.map UInt8.toNat l) b = -1
      · simp [h, h2]
      · simp [h, h2]

set_option maxHeartbeats 400000 in
set_option maxRecDepth 100000 in
theorem idx69 (s : ByteArray) (b : Nat) (w : World) (hb : b < 256) :
    Calls Tryd.prog 40 #[.string s, .int .u8 b] w fun e w' => e = .returned (.int .i64 (ix (txt s) b)) ∧ w = w' := by
  have hx := ix_byte s b hb
  go_enter Tryd.func40, Tryd.ntmps40
  go_wp2
  rw [run_callFunc_extern Tryd.func55 (by kernel_rfl) (by kernel_rfl) (by kernel_rfl) (e := Extern.BytealgIndexByte.indexByte) (by kernel_rfl), Lib.run_indexByteString]
  simp only [Result.andThen]
  rw [Oper.upon_value, hx]
  go_wp2
  go_ret
  exact ⟨rfl, rfl⟩

set_option maxHeartbeats 400000 in
set_option maxRecDepth 100000 in
theorem idx_any (s : ByteArray) (b : Nat) (w : World) (hb : b < 256) :
    Calls Tryd.prog 28 #[.string s, .int .u8 b] w fun e w' => e = .returned (.int .i64 (ix (txt s) b)) ∧ w = w' := by
  go_enter Tryd.func28, Tryd.ntmps28
  go_wp2_with fail
  go_at_call 40
  refine (idx69 s b w hb).mono ?_
  rintro e w1 ⟨rfl, rfl⟩
  go_wp2_with fail
  go_ret
  exact ⟨rfl, rfl⟩

/-- What a reading call comes to, told by its outcome: what it answers of what is read, or of the error's number. -/
def Gives {α : Type} (o : Out α) (fo : α → Value) (fe : Nat → Value) (w : World) (rb : Nat) (s : ByteArray) (op : Value) (e : Ending) (w' : World) : Prop :=
  match o with
  | .ok a r => e = .returned (fo a) ∧ ∃ k, Af w rb s op k w' ∧ Tl s k r
  | .er r c => e = .returned (fe c) ∧ ∃ k, Af w rb s op k w' ∧ Tl s k r
theorem Gives.mono' {α : Type} {o : Out α} {fo : α → Value} {fe : Nat → Value} {w w1 : World} {rb k : Nat} {s : ByteArray} {op : Value} {e : Ending} {w' : World} (hA : Af w rb s op k w1) (h : Gives o fo fe w1 rb s op e w') : Gives o fo fe w rb s op e w' := by
  cases o with
  | ok a r => obtain ⟨he, k', h1, h2⟩ := h; exact ⟨he, k', hA.trans h1, h2⟩
  | er r c => obtain ⟨he, k', h1, h2⟩ := h; exact ⟨he, k', hA.trans h1, h2⟩
def byteOk (a : Nat) : Value := .tuple #[.int .u8 a, .int .i64 0]
def byteEr (c : Nat) : Value := .tuple #[.int .u8 0, .int .i64 c]
attribute [local go_sem] byteOk byteEr

theorem hexAdd : ∀ x : Fin 16, ∀ y : Fin 16, bits .or .u8 (((x.val : Nat) : Int) * 16) ((y.val : Nat) : Int) = ((16 * x.val + y.val : Nat) : Int) := by decide
theorem hexOr : ∀ x : Fin 16, bits .or .u8 0 ((x.val : Nat) : Int) = ((x.val : Nat) : Int) := by decide
theorem hexOf_lt (b : Nat) : hexOf b < 16 := by
  have h1 := ix_lt hexDigits b
  have h2 : hexDigits.length = 16 := rfl
  unfold hexOf
  omega
theorem hex_ix {b : Nat} (h : b ∈ hexDigits) : ix hexDigits b = (hexOf b : Nat) := by
  have := (ix_nonneg hexDigits b).2 h
  unfold hexOf
  omega
theorem not_hex_ix {b : Nat} (h : ¬ b ∈ hexDigits) : ix hexDigits b = -1 := by
  have h1 := ix_ge hexDigits b
  have h2 : ¬ 0 ≤ ix hexDigits b := fun h' => h ((ix_nonneg hexDigits b).1 h')
  omega
def hexStr : ByteArray := { data := #[48, 49, 50, 51, 52, 53, 54, 55, 56, 57, 97, 98, 99, 100, 101, 102] }
theorem txt_hexStr : txt { data := #[48, 49, 50, 51, 52, 53, 54, 55, 56, 57, 97, 98, 99, 100, 101, 102] } = hexDigits := by rfl

theorem phex_none (a : Nat) (r : List Nat) (h : ¬ a ∈ hexDigits) : phex (a :: r) = .er (a :: r) 2 := by
  cases r with
  | nil => simp only [phex, h, if_false]
  | cons b r => simp only [phex, h, if_false]
theorem phex_one (a : Nat) (r : List Nat) (h : a ∈ hexDigits) : phex (a :: r) = match r with
    | [] => .er [] 2
    | b :: r => if b ∈ hexDigits then .ok (16 * hexOf a + hexOf b) r else .er (b :: r) 2 := by
  cases r with
  | nil => simp only [phex, h, if_true]
  | cons b r => simp only [phex, h, if_true]

set_option maxHeartbeats 1000000 in
set_option maxRecDepth 100000 in
theorem hex_any (w : World) (rb k : Nat) (r : List Nat) (s : ByteArray) (op : Value) (h : Rd w rb s k op) (ht : Tl s k r) (hs : s.size ≤ maxLen) :
    Calls Tryd.prog 87 #[.pointer (some ⟨rb, 0, none⟩)] w (Gives (phex r) byteOk byteEr w rb s op) := by
  unfold maxLen at hs
  cases r with
  | nil =>
    go_enter Tryd.func87, Tryd.ntmps87
    go_wp2_with fail
    refine wp_loop_rounds 3 ?_
    rw [rounds_succ]
    go_wp2_with fail
    go_at_call 37
    refine (next_end w rb k s op h ht).mono ?_
    rintro e w1 ⟨rfl, hA⟩
    go_wp2_with fail
    go_at_call 28
    refine (idx_any _ 0 _ (by decide)).mono ?_
    rintro e w2 ⟨rfl, rfl⟩
    go_wp2_with fail
    go_ret2
    exact ⟨rfl, k, hA, ht⟩
  | cons a r =>
    have ha := ht.byte
    have hk := ht.lt
    by_cases hh : a ∈ hexDigits
    · have x1 := hex_ix hh
      have l1 := hexOf_lt a
      rw [← txt_hexStr] at x1
      go_enter Tryd.func87, Tryd.ntmps87
      go_wp2_with fail
      refine wp_loop_rounds 3 ?_
      rw [rounds_succ]
      go_wp2_with fail
      go_at_call 37
      refine (next_in w rb k a r s op h ht).mono ?_
      rintro e w1 ⟨rfl, hA⟩
      go_wp2_with fail
      go_at_call 28
      refine (idx_any _ a _ ha).mono ?_
      rintro e w2 ⟨rfl, rfl⟩
      rw [x1]
      have p1 := hA.1.pos
      have p2 := hA.1.frz 1
      have p3 := hA.1.lt
      have q1 : (0 : Int) ≤ (hexOf a : Int) := by omega
      have q2 : (hexOf a : Int) < 16 := by omega
      have z1 : bits .or .u8 0 ((hexOf a : Nat) : Int) = ((hexOf a : Nat) : Int) := by
        exact hexOr ⟨hexOf a, l1⟩
      have hp := phex_one a r hh
      have HP := Lib.hid hp
      have HA := Lib.hid (hA.step (k + 1) (v := .int .i64 ((k : Int) + 1)) (by go_num))
      clear hA x1 hp
      go_wp2_with fail
      rw [rounds_succ]
      cases r with
      | nil =>
        go_wp2_with fail
        go_at_call 37
        refine (next_end _ rb (k + 1) s op HA.out.1 ht.tail).mono ?_
        rintro e w2 ⟨rfl, hB⟩
        go_wp2_with fail
        go_at_call 28
        refine (idx_any _ 0 _ (by decide)).mono ?_
        rintro e w3 ⟨rfl, rfl⟩
        go_wp2_with fail
        go_ret2
        rw [HP.out]
        exact ⟨rfl, k + 1, HA.out.trans hB, ht.tail⟩
      | cons b r =>
        have hb := ht.tail.byte
        have hk2 := ht.tail.lt
        by_cases hh2 : b ∈ hexDigits
        · have x2 := hex_ix hh2
          have l2 := hexOf_lt b
          rw [← txt_hexStr] at x2
          go_wp2_with fail
          go_at_call 37
          refine (next_in _ rb (k + 1) b r s op HA.out.1 ht.tail).mono ?_
          rintro e w2 ⟨rfl, hB⟩
          go_wp2_with fail
          go_at_call 28
          refine (idx_any _ b _ hb).mono ?_
          rintro e w3 ⟨rfl, rfl⟩
          rw [x2]
          have u1 : w2.cell? ⟨rb, 1, none⟩ = some (.int .i64 ((k : Int) + 1)) := by have := hB.1.pos; rwa [show ((k + 1 : Nat) : Int) = (k : Int) + 1 by omega] at this
          have u2 := hB.1.frz 1
          have u3 := hB.1.lt
          have v1 : (0 : Int) ≤ (hexOf b : Int) := by omega
          have v2 : (hexOf b : Int) < 16 := by omega
          have z2 : bits .or .u8 (((hexOf a : Nat) : Int) * 16) ((hexOf b : Nat) : Int) = ((16 * hexOf a + hexOf b : Nat) : Int) := hexAdd ⟨hexOf a, l1⟩ ⟨hexOf b, l2⟩
          have HB := Lib.hid ((HA.out.trans hB).step (k + 1 + 1) (v := .int .i64 ((k : Int) + 1 + 1)) (by go_num))
          have HH := Lib.hid hh2
          clear hB x2 hh2
          go_wp2_with fail
          rw [rounds_succ]
          go_wp2_with fail
          go_ret2
          rw [HP.out]
          simp only [HH.out, if_true]
          exact ⟨rfl, k + 1 + 1, HB.out, ht.tail.tail⟩
        · have x2 := not_hex_ix hh2
          rw [← txt_hexStr] at x2
          go_wp2_with fail
          go_at_call 37
          refine (next_in _ rb (k + 1) b r s op HA.out.1 ht.tail).mono ?_
          rintro e w2 ⟨rfl, hB⟩
          go_wp2_with fail
          go_at_call 28
          refine (idx_any _ b _ hb).mono ?_
          rintro e w3 ⟨rfl, rfl⟩
          rw [x2]
          have HH := Lib.hid hh2
          clear hh2 x2
          go_wp2_with fail
          go_ret2
          rw [HP.out]
          simp only [HH.out, if_false]
          exact ⟨rfl, k + 1, HA.out.trans hB, ht.tail⟩
    · have x1 := not_hex_ix hh
      rw [← txt_hexStr] at x1
      have HP := Lib.hid (phex_none a r hh)
      go_enter Tryd.func87, Tryd.ntmps87
      go_wp2_with fail
      refine wp_loop_rounds 3 ?_
      rw [rounds_succ]
      go_wp2_with fail
      go_at_call 37
      refine (next_in w rb k a r s op h ht).mono ?_
      rintro e w1 ⟨rfl, hA⟩
      go_wp2_with fail
      go_at_call 28
      refine (idx_any _ a _ ha).mono ?_
      rintro e w2 ⟨rfl, rfl⟩
      rw [x1]
      clear x1 hh
      go_wp2_with fail
      go_ret2
      rw [HP.out]
      exact ⟨rfl, k, hA, ht⟩

theorem txt_esc : txt { data := #[40, 41, 91, 93, 123, 125, 124, 42, 43, 63, 46, 92, 45, 94] } = escapables := by rfl
theorem txt_marks : txt { data := #[40, 41, 91, 93, 123, 125, 124, 42, 43, 63, 46] } = marks := by rfl
theorem txt_itemMarks : txt { data := #[93, 45, 94] } = itemMarks := by rfl
set_option maxHeartbeats 1000000 in
set_option maxRecDepth 100000 in
theorem esc_any (w : World) (rb k : Nat) (r : List Nat) (s : ByteArray) (op : Value) (h : Rd w rb s k op) (ht : Tl s k r) (hs : s.size ≤ maxLen) :
    Calls Tryd.prog 84 #[.pointer (some ⟨rb, 0, none⟩)] w (Gives (pesc r) byteOk byteEr w rb s op) := by
  have hs' := Lib.hid hs
  unfold maxLen at hs
  cases r with
  | nil =>
    go_enter Tryd.func84, Tryd.ntmps84
    go_wp2_with fail
    go_at_call 37
    refine (next_end w rb k s op h ht).mono ?_
    rintro e w1 ⟨rfl, hA⟩
    go_wp2_with fail
    go_ret2
    exact ⟨rfl, k, hA, ht⟩
  | cons b r =>
    have hb := ht.byte
    have hk := ht.lt
    have b1 : (0 : Int) ≤ (b : Int) := by omega
    have b2 : (b : Int) < 256 := by omega
    have hgo : ∀ w1, Af w rb s op k w1 → Hid (Af w rb s op (k + 1) (w1.setCell ⟨rb, 1, none⟩ (.int .i64 ((k : Int) + 1)))) := fun w1 hA => Lib.hid (hA.step (k + 1) (by go_num))
    have HG := Lib.hid hgo
    clear hgo
    by_cases c1 : b = 120
    · subst c1
      go_enter Tryd.func84, Tryd.ntmps84
      go_wp2_with fail
      go_at_call 37
      refine (next_in w rb k 120 r s op h ht).mono ?_
      rintro e w1 ⟨rfl, hA⟩
      have p1 := hA.1.pos
      have p2 := hA.1.frz 1
      have p3 := hA.1.lt
      have HA := HG.out w1 hA
      clear hA
      go_wp2_with fail
      go_at_call 87
      refine (hex_any _ rb (k + 1) r s op HA.out.1 ht.tail hs'.out).mono ?_
      intro e w2 hG
      have hp : pesc (120 :: r) = phex r := by simp only [pesc, if_true]
      have HP := Lib.hid hp
      have hG2 := Gives.mono' HA.out hG
      clear hG hp
      revert hG2
      cases hx : phex r with
      | ok a r' =>
        have HX := Lib.hid hx
        clear hx
        rintro ⟨rfl, hG⟩
        go_wp2_with fail
        go_ret2
        rw [HP.out, HX.out]
        exact ⟨rfl, hG⟩
      | er r' c =>
        have HX := Lib.hid hx
        clear hx
        rintro ⟨rfl, hG⟩
        go_wp2_with fail
        go_ret2
        rw [HP.out, HX.out]
        exact ⟨rfl, hG⟩
    · have d1 : ((b : Int) == 120) = false := by simp; omega
      by_cases c2 : b = 110
      · subst c2
        go_enter Tryd.func84, Tryd.ntmps84
        go_wp2_with fail
        go_at_call 37
        refine (next_in w rb k 110 r s op h ht).mono ?_
        rintro e w1 ⟨rfl, hA⟩
        have p1 := hA.1.pos
        have p2 := hA.1.frz 1
        have p3 := hA.1.lt
        have HA := HG.out w1 hA
        clear hA
        go_wp2_with fail
        go_ret2
        exact ⟨rfl, k + 1, HA.out, ht.tail⟩
      · have d2 : ((b : Int) == 110) = false := by simp; omega
        by_cases c3 : b = 116
        · subst c3
          go_enter Tryd.func84, Tryd.ntmps84
          go_wp2_with fail
          go_at_call 37
          refine (next_in w rb k 116 r s op h ht).mono ?_
          rintro e w1 ⟨rfl, hA⟩
          have p1 := hA.1.pos
          have p2 := hA.1.frz 1
          have p3 := hA.1.lt
          have HA := HG.out w1 hA
          clear hA
          go_wp2_with fail
          go_ret2
          exact ⟨rfl, k + 1, HA.out, ht.tail⟩
        · have d3 : ((b : Int) == 116) = false := by simp; omega
          by_cases c4 : b ∈ escapables
          · have HP := Lib.hid (show pesc (b :: r) = .ok b r by simp only [pesc, c1, c2, c3, c4, if_true, if_false])
            have e1 : decide (ix escapables b < 0) = false := by have := (ix_nonneg escapables b).2 c4; simp; omega
            rw [← txt_esc] at e1
            clear c1 c2 c3 c4
            go_enter Tryd.func84, Tryd.ntmps84
            go_wp2_with fail
            go_at_call 37
            refine (next_in w rb k b r s op h ht).mono ?_
            rintro e w1 ⟨rfl, hA⟩
            have p1 := hA.1.pos
            have p2 := hA.1.frz 1
            have p3 := hA.1.lt
            have HA := HG.out w1 hA
            clear hA
            go_wp2_with fail
            go_at_call 28
            refine (idx_any _ b _ hb).mono ?_
            rintro e w2 ⟨rfl, rfl⟩
            go_wp2_with fail
            go_ret2
            rw [HP.out]
            exact ⟨rfl, k + 1, HA.out, ht.tail⟩
          · have HP := Lib.hid (show pesc (b :: r) = .er (b :: r) 2 by simp only [pesc, c1, c2, c3, c4, if_false])
            have e1 : decide (ix escapables b < 0) = true := by have := mt (ix_nonneg escapables b).1 c4; simp; omega
            rw [← txt_esc] at e1
            clear c1 c2 c3 c4
            go_enter Tryd.func84, Tryd.ntmps84
            go_wp2_with fail
            go_at_call 37
            refine (next_in w rb k b r s op h ht).mono ?_
            rintro e w1 ⟨rfl, hA⟩
            go_wp2_with fail
            go_at_call 28
            refine (idx_any _ b _ hb).mono ?_
            rintro e w2 ⟨rfl, rfl⟩
            go_wp2_with fail
            go_ret2
            rw [HP.out]
            exact ⟨rfl, k, hA, ht⟩

set_option maxHeartbeats 1000000 in
set_option maxRecDepth 100000 in
theorem plain_any (w : World) (rb k : Nat) (r : List Nat) (s but : ByteArray) (op : Value) (h : Rd w rb s k op) (ht : Tl s k r) (hs : s.size ≤ maxLen) :
    Calls Tryd.prog 71 #[.pointer (some ⟨rb, 0, none⟩), .string but] w (Gives (pplain (txt but) r) byteOk byteEr w rb s op) := by
  have hs' := Lib.hid hs
  unfold maxLen at hs
  cases r with
  | nil =>
    go_enter Tryd.func71, Tryd.ntmps71
    go_wp2_with fail
    go_at_call 37
    refine (next_end w rb k s op h ht).mono ?_
    rintro e w1 ⟨rfl, hA⟩
    go_wp2_with fail
    go_ret2
    exact ⟨rfl, k, hA, ht⟩
  | cons b r =>
    have hb := ht.byte
    have hk := ht.lt
    have b1 : (0 : Int) ≤ (b : Int) := by omega
    have b2 : (b : Int) < 256 := by omega
    by_cases c1 : b ∈ txt but
    · have e1 : decide (0 ≤ ix (txt but) b) = true := by have := (ix_nonneg (txt but) b).2 c1; simpa using this
      have HP := Lib.hid (show pplain (txt but) (b :: r) = .er (b :: r) 2 by simp only [pplain, c1, if_true])
      clear c1
      go_enter Tryd.func71, Tryd.ntmps71
      go_wp2_with fail
      go_at_call 37
      refine (next_in w rb k b r s op h ht).mono ?_
      rintro e w1 ⟨rfl, hA⟩
      go_wp2_with fail
      go_at_call 28
      refine (idx_any _ b _ hb).mono ?_
      rintro e w2 ⟨rfl, rfl⟩
      go_wp2_with fail
      go_ret2
      rw [HP.out]
      exact ⟨rfl, k, hA, ht⟩
    · have e1 : decide (0 ≤ ix (txt but) b) = false := by have := mt (ix_nonneg (txt but) b).1 c1; simp; omega
      by_cases c2 : b = 92
      · subst c2
        have HP := Lib.hid (show pplain (txt but) (92 :: r) = pesc r by simp only [pplain, c1, if_true, if_false])
        clear c1
        go_enter Tryd.func71, Tryd.ntmps71
        go_wp2_with fail
        go_at_call 37
        refine (next_in w rb k 92 r s op h ht).mono ?_
        rintro e w1 ⟨rfl, hA⟩
        go_wp2_with fail
        go_at_call 28
        refine (idx_any _ 92 _ hb).mono ?_
        rintro e w2 ⟨rfl, rfl⟩
        have p1 := hA.1.pos
        have p2 := hA.1.frz 1
        have p3 := hA.1.lt
        have HA := Lib.hid (hA.step (k + 1) (v := .int .i64 ((k : Int) + 1)) (by go_num))
        clear hA
        go_wp2_with fail
        go_at_call 84
        refine (esc_any _ rb (k + 1) r s op HA.out.1 ht.tail hs'.out).mono ?_
        intro e w2 hG
        have hG2 := Gives.mono' HA.out hG
        clear hG
        revert hG2
        cases hx : pesc r with
        | ok a r' =>
          have HX := Lib.hid hx
          clear hx
          rintro ⟨rfl, hG⟩
          go_wp2_with fail
          go_ret2
          rw [HP.out, HX.out]
          exact ⟨rfl, hG⟩
        | er r' c =>
          have HX := Lib.hid hx
          clear hx
          rintro ⟨rfl, hG⟩
          go_wp2_with fail
          go_ret2
          rw [HP.out, HX.out]
          exact ⟨rfl, hG⟩
      · have d1 : ((b : Int) == 92) = false := by simp; omega
        have HP := Lib.hid (show pplain (txt but) (b :: r) = .ok b r by simp only [pplain, c1, c2, if_false])
        clear c1 c2
        go_enter Tryd.func71, Tryd.ntmps71
        go_wp2_with fail
        go_at_call 37
        refine (next_in w rb k b r s op h ht).mono ?_
        rintro e w1 ⟨rfl, hA⟩
        go_wp2_with fail
        go_at_call 28
        refine (idx_any _ b _ hb).mono ?_
        rintro e w2 ⟨rfl, rfl⟩
        have p1 := hA.1.pos
        have p2 := hA.1.frz 1
        have p3 := hA.1.lt
        have HA := Lib.hid (hA.step (k + 1) (v := .int .i64 ((k : Int) + 1)) (by go_num))
        clear hA
        go_wp2_with fail
        go_ret2
        rw [HP.out]
        exact ⟨rfl, k + 1, HA.out, ht.tail⟩

end Go.Proofs.YtpibkalbnjgpaaaDoor
