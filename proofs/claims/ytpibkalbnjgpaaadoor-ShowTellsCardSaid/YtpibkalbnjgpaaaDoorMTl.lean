/- Of every tree the statement ShowTells returns true, and it reads afterwards as before; the card: what its row lists is tied to the program's text.
   No condition. -/
import Derived.Test.YtpibkalbnjgpaaaDoorMSet
import Derived.Test.YtpibkalbnjgpaaaDoorMBox
import Derived.Deep.DeepCutAuto
import Derived.Deep.RegionWith
import Derived.Test.YtpibkalbnjgpaaaDoorOpenT
import Derived.Test.YtpibkalbnjgpaaaDoorCards
import Derived.Test.YtpibkalbnjgpaaaDoorTie
import Derived.ProofKit
import Derived.LaidMore
import Derived.OpenShut
import Derived.ChangeOld
import Derived.Below
import Derived.SevenTiedAt

/- What the document's own Digits and Set come to: contracts.
   Conditions: a number of 63 bits; classes are four words below 2^64 ('Cl'). -/
namespace Go.Proofs.YtpibkalbnjgpaaaDoor
open Go.RowKit

theorem conv_dig (w : World) (n : Nat) (x : Int) (hx : x = n) (hn : n < 256) : (convert 42 9 (.slice (some ⟨w.heap.size, 0, none⟩) 1 1)).run Tryd.prog (w.alloc (.cells #[.int .u8 x] 5)) = .ok (.string ⟨#[UInt8.ofNat n]⟩) (w.alloc (.cells #[.int .u8 x] 5)) := by
  subst hx
  exact conv_new w [n] 1 (by simpa using hn)
theorem txt_dig (u : Nat) (hu : u ≤ 9) (s : ByteArray) : txt (⟨#[48 + UInt8.ofNat u]⟩ ++ s) = (48 + u) :: txt s := by
  unfold txt
  simp
  omega

set_option maxHeartbeats 1000000 in
set_option maxRecDepth 100000 in
theorem digitsR_any (n : Nat) (hn : n < 9223372036854775808) (w : World) : Calls Tryd.prog 24 #[.int .i64 n] w (Wrote (decs n) w) := by
  have h20 := decs_len19 hn
  go_enter Tryd.func24, Tryd.ntmps24
  go_wp2_with fail
  go_loopw [0, 3] (fun a b wr => ∃ (m : Nat) (s : ByteArray), a = .int .i64 m ∧ b = .string s ∧ m ≤ n ∧ decs m ++ txt s = decs n ∧ Below w.heap.size w wr) (fun a _ _ => match a with | .int _ m => m.toNat | _ => 0)
  case atStart => exact ⟨n, .empty, rfl, rfl, Nat.le_refl _, by simp [txt], Below.refl _ _⟩
  case round =>
    obtain ⟨m, s, rfl, rfl, hm, hd, hb⟩ := hrel
    have hlen : (txt s).length ≤ 20 := by rw [← hd] at h20; simp at h20; omega
    rw [txt_length] at hlen
    by_cases h9 : 9 < m
    · have g1 : (9 : Int) < (m : Int) := by omega
      have hcv := conv_dig wr (48 + m % 10) (48 + (m : Int) % 10) (by omega) (by omega)
      go_wp2_with fail
      refine ⟨⟨m / 10, _, by simp, rfl, by omega, ?_, hb.alloc hb.size _⟩, by simp; omega⟩
      rw [txt_dig _ (by omega), ← hd, decs_big h9]
      simp
    · have g1 : ¬ (9 : Int) < (m : Int) := by omega
      have hcv := conv_dig wr (48 + m) (48 + (m : Int)) (by omega) (by omega)
      go_wp2_with fail
      go_ret
      refine ⟨_, ?_, rfl, hb.alloc hb.size _⟩
      rw [txt_dig _ (by omega), ← hd, decs_small h9]
      simp

theorem runEnd_fuel {C : Nat → Nat} : ∀ (n m b : Nat), 256 - b ≤ n → 256 - b ≤ m → runEnd C n b = runEnd C m b
  | 0, 0, _, _, _ => rfl
  | 0, m + 1, b, h, _ => by rw [runEnd, runEnd, if_neg (by omega)]
  | n + 1, 0, b, _, h => by rw [runEnd, runEnd, if_neg (by omega)]
  | n + 1, m + 1, b, h1, h2 => by
    rw [runEnd, runEnd]
    by_cases hb : b < 255 ∧ hasB C (b + 1) = true
    · rw [if_pos hb, if_pos hb, runEnd_fuel n m (b + 1) (by omega) (by omega)]
    · rw [if_neg hb, if_neg hb]
theorem runEnd_more {C : Nat → Nat} {k : Nat} (h : k < 255) (hb : hasB C (k + 1) = true) : runEnd C 256 k = runEnd C 256 (k + 1) := by
  conv => lhs; rw [runEnd, if_pos ⟨h, hb⟩]
  exact runEnd_fuel _ _ _ (by omega) (by omega)
theorem runEnd_here {C : Nat → Nat} {k : Nat} (h : ¬ (k < 255 ∧ hasB C (k + 1) = true)) : runEnd C 256 k = k := by rw [runEnd, if_neg h]
/-- What is still to be written at the byte b: a run that has begun ahead of it has been. -/
def restT (C : Nat → Nat) (b : Nat) : List Nat := if 0 < b ∧ hasB C (b - 1) = true ∧ hasB C b = true ∧ b < 256 then runsT C 256 (runEnd C 256 b + 1) else runsT C 256 b
theorem rest_next {C : Nat → Nat} {b : Nat} (hb : b < 256) (h : hasB C b = true) : restT C (b + 1) = runsT C 256 (runEnd C 256 b + 1) := by
  unfold restT
  by_cases h1 : hasB C (b + 1) = true ∧ b + 1 < 256
  · rw [if_pos ⟨by omega, by simpa using h, h1.1, h1.2⟩, ← runEnd_more (by omega) h1.1]
  · rw [if_neg (fun e => h1 ⟨e.2.2.1, e.2.2.2⟩), runEnd_here (fun e => h1 ⟨e.2, by omega⟩)]
theorem rest_skip {C : Nat → Nat} {b : Nat} (hb : b < 256) (h : hasB C b = false ∨ (0 < b ∧ hasB C (b - 1) = true)) : restT C b = restT C (b + 1) := by
  by_cases h0 : hasB C b = true
  · rw [rest_next hb h0]
    have h1 := h.resolve_left (by simp [h0])
    unfold restT
    rw [if_pos ⟨h1.1, h1.2, h0, hb⟩]
  · unfold restT
    rw [if_neg (fun e => h0 e.2.2.1), if_neg (fun e => h0 (by simpa using e.2.1)), runsT, if_pos hb, if_neg h0]
    exact runs_fuel C _ _ _ (by omega) (by omega)
theorem rest_take {C : Nat → Nat} {b : Nat} (hb : b < 256) (h : hasB C b = true) (h0 : ¬ (0 < b ∧ hasB C (b - 1) = true)) : restT C b = runT b (runEnd C 256 b) ++ restT C (b + 1) := by
  rw [rest_next hb h]
  unfold restT
  rw [if_neg (fun e => h0 ⟨e.1, e.2.1⟩)]
  exact runs_take (Nat.le_refl _) hb (fun x h1 h2 => by omega) h
theorem rest_zero (C : Nat → Nat) : restT C 0 = runsT C 256 0 := by unfold restT; rw [if_neg (by omega)]
theorem rest_end (C : Nat → Nat) : restT C 256 = [] := by unfold restT; rw [if_neg (by omega), runsT, if_neg (by omega)]
/-- The last byte below n of a class; 0, if there is none. -/
def lastB (C : Nat → Nat) : Nat → Nat
  | 0 => 0
  | n + 1 => if hasB C n = true then n else lastB C n
theorem last_is {C : Nat → Nat} : ∀ (n b : Nat), (List.range n).filter (fun b => hasB C b) = [b] → lastB C n = b
  | 0, b, h => by simp at h
  | n + 1, b, h => by
    rw [List.range_succ, List.filter_append] at h
    rw [lastB]
    by_cases hn : hasB C n = true
    · rw [if_pos hn]
      have e : [n].filter (fun b => hasB C b) = [n] := by simp [hn]
      rw [e] at h
      exact (List.append_eq_singleton_iff.1 h).elim (fun h => by simpa using h.2) (fun h => by simp at h)
    · rw [if_neg hn]
      have e : [n].filter (fun b => hasB C b) = [] := by simp [hn]
      rw [e, List.append_nil] at h
      exact last_is n b h
theorem set_runs {C : Nat → Nat} (h0 : cnt C 256 ≠ 0) (h1 : cnt C 256 ≠ 1) (h2 : cnt C 256 ≠ 256) : setT C = 91 :: (runsT C 256 0 ++ [93]) := by
  have hn : cnt C 256 = (memT C).length := cnt_mem C 256
  rw [hn] at h0 h1 h2
  unfold setT
  split
  · rename_i e; rw [e] at h0; exact absurd rfl h0
  · rename_i e; rw [e] at h1; exact absurd rfl h1
  · rw [if_neg h2]

end Go.Proofs.YtpibkalbnjgpaaaDoor

/- What the document's own Set comes to: a contract.
   Condition: classes are four words below 2^64 ('Cl'). -/
namespace Go.Proofs.YtpibkalbnjgpaaaDoor
open Go.RowKit

theorem box_kept {W W' : World} {b : Nat} {C : Nat → Nat} (h : W.heap[b]? = some (boxC C)) (hb : Below W.heap.size W W') : W'.heap[b]? = some (boxC C) :=
  (hb.block b (Array.getElem?_eq_some_iff.1 h).1).trans h
theorem byT_four (c : Nat) : (byT c).length ≤ 4 := by
  unfold byT
  split
  · simp
  · split
    · simp
    · split
      · simp
      · split <;> simp [esc2]

set_option maxHeartbeats 4000000 in
set_option maxRecDepth 100000 in
theorem setR_any (C : Nat → Nat) (w : World) (hC : Cl C) : Calls Tryd.prog 23 #[.agg #[.int .u64 (C 0 : Nat), .int .u64 (C 1 : Nat), .int .u64 (C 2 : Nat), .int .u64 (C 3 : Nat)]] w (Wrote (setT C) w) := by
  have HH := Lib.hid (fun (b : Nat) (hb : b < 256) W => rhas_any C b W hC hb)
  have HBY := Lib.hid (fun (b : Nat) (hb : b < 256) W => byteR_any b hb W)
  have HLEN := Lib.hid (runsT_len C 256 0)
  clear hC
  go_enter Tryd.func23, Tryd.ntmps23
  go_wp2_with fail
  go_loopw [3, 4, 5] (fun n l b wr => ∃ k : Nat, k ≤ 256 ∧ b = .int .i64 k ∧ n = .int .i64 (cnt C k : Nat) ∧ l = .int .i64 (lastB C k : Nat) ∧ wr.heap[w.heap.size]? = some (boxC C) ∧ Below w.heap.size w wr) (fun _ _ b _ => match b with | .int _ z => 256 - z.toNat | _ => 0)
  case atStart => exact ⟨0, by omega, rfl, rfl, rfl, heap_alloc_new w (boxC C), (Below.refl _ _).alloc (Nat.le_refl _) _⟩
  case round =>
    obtain ⟨k, hk, rfl, rfl, rfl, hbx, hb⟩ := hrel
    obtain ⟨⟨c0, c1, c2, c3⟩, _⟩ := box_cells hbx
    by_cases hk2 : k < 256
    · have g1 : (k : Int) < 256 := by omega
      have g2 : (0 : Int) ≤ (k : Int) := by omega
      have hcl := cnt_le C k
      have g3 : ((cnt C k : Nat) : Int) ≤ 256 := by omega
      have g4 : (0 : Int) ≤ ((cnt C k : Nat) : Int) := by omega
      have HC := Lib.hid (HH.out k hk2 wr)
      have HB := Lib.hid (And.intro hbx hb)
      have HS := Lib.hid (cnt_succ C k)
      have HK := Lib.hid hk2
      have HL := Lib.hid (show lastB C (k + 1) = if hasB C k = true then k else lastB C k from rfl)
      clear hbx hb hk hk2 hcl
      generalize cnt C k = cn at *
      generalize lastB C k = la at *
      go_wp2_with fail
      go_at_call 36
      refine HC.out.mono ?_
      rintro e w2 ⟨rfl, hb2⟩
      have HB2 := Lib.hid (And.intro (box_kept HB.out.1 hb2) (HB.out.2.trans (hb2.mono HB.out.2.size)))
      clear hb2 c0 c1 c2 c3
      cases hh : hasB C k with
      | true =>
        rw [hh] at HS HL
        go_wp2_with fail
        refine ⟨⟨k + 1, by have := HK.out; omega, by simp, by rw [HS.out]; simp, by rw [HL.out]; simp, HB2.out.1, HB2.out.2⟩, by have := HK.out; simp; omega⟩
      | false =>
        rw [hh] at HS HL
        go_wp2_with fail
        refine ⟨⟨k + 1, by have := HK.out; omega, by simp, by rw [HS.out]; simp, by rw [HL.out]; simp, HB2.out.1, HB2.out.2⟩, by have := HK.out; simp; omega⟩
    · have g1 : ¬ (k : Int) < 256 := by omega
      obtain rfl : k = 256 := by omega
      have hcm : cnt C 256 = (memT C).length := cnt_mem C 256
      have HB := Lib.hid (And.intro hbx hb)
      have hle := cnt_le C 256
      clear hbx hb hk hk2
      by_cases e0 : cnt C 256 = 0
      · have HT := Lib.hid (show setT C = [91, 94, 92, 120, 48, 48, 45, 92, 120, 102, 102, 93] by
          unfold setT
          rw [List.eq_nil_of_length_eq_zero (show (memT C).length = 0 by omega)])
        rw [e0]
        clear hcm hle e0 c0 c1 c2 c3
        generalize lastB C 256 = la
        go_wp2_with fail
        go_ret
        exact ⟨_, by rw [HT.out]; rfl, rfl, HB.out.2⟩
      by_cases e1 : cnt C 256 = 1
      · obtain ⟨b, hbm⟩ : ∃ b, memT C = [b] := List.length_eq_one_iff.1 (by omega)
        have hla : lastB C 256 = b := last_is 256 b hbm
        have hbl : b < 256 := (mem_iff.1 (show b ∈ memT C by rw [hbm]; simp)).1
        have HT := Lib.hid (show setT C = byT b by unfold setT; rw [hbm])
        rw [e1, hla]
        have HC := Lib.hid (fun W => HBY.out b hbl W)
        clear hcm hle e0 e1 c0 c1 c2 c3 hbm hla
        go_wp2_with fail
        go_at_call 17
        refine (HC.out _).mono ?_
        rintro e w2 ⟨s, hs, rfl, hb2⟩
        have HS := Lib.hid (And.intro hs (HB.out.2.trans (hb2.mono HB.out.2.size)))
        clear hb2 hs
        go_wp2_with fail
        go_ret
        exact ⟨_, HS.out.1.trans HT.out.symm, rfl, HS.out.2⟩
      by_cases e2 : cnt C 256 = 256
      · have hne : memT C ≠ [] := by intro e; rw [e] at hcm; simp at hcm; omega
        have HT := Lib.hid (show setT C = [46] by
          unfold setT
          split
          · rename_i e; exact absurd e hne
          · rename_i e; rw [e] at hcm; simp at hcm; omega
          · rw [if_pos (by omega)])
        rw [e2]
        clear hcm hle e0 e1 e2 c0 c1 c2 c3 hne
        generalize lastB C 256 = la
        go_wp2_with fail
        go_ret
        exact ⟨_, by rw [HT.out]; rfl, rfl, HB.out.2⟩
      have HT := Lib.hid (set_runs e0 e1 e2)
      have g5 : ((cnt C 256 : Nat) : Int) ≤ 256 := by omega
      have g6 : (((cnt C 256 : Nat) : Int) == 0) = false := by simp; omega
      have g7 : (((cnt C 256 : Nat) : Int) == 1) = false := by simp; omega
      have g8 : (((cnt C 256 : Nat) : Int) == 256) = false := by simp; omega
      clear hcm hle e0 e1 e2 c0 c1 c2 c3
      generalize cnt C 256 = cn at *
      generalize lastB C 256 = la
      go_wp2_with fail
      clear g1 g5 g6 g7 g8
      go_loopw [6, 7] (fun x y W => ∃ (k : Nat) (s : ByteArray), k ≤ 256 ∧ y = .int .i64 k ∧ x = .string s ∧ txt s ++ restT C k = 91 :: runsT C 256 0 ∧ W.heap[w.heap.size]? = some (boxC C) ∧ Below w.heap.size w W) (fun _ y _ => match y with | .int _ z => 256 - z.toNat | _ => 0)
      case atStart => exact ⟨0, _, by omega, rfl, rfl, by rw [rest_zero]; rfl, HB.out.1, HB.out.2⟩
      case round =>
        obtain ⟨k, s, hk, rfl, rfl, hs, hbx, hb⟩ := hrel
        obtain ⟨⟨c0, c1, c2, c3⟩, _⟩ := box_cells hbx
        have hsz : s.size ≤ 2400 := by
          have h1 := congrArg List.length hs
          have h2 := HLEN.out
          rw [List.length_append, List.length_cons, txt_length] at h1
          omega
        by_cases hk2 : k < 256
        · have g1 : (k : Int) < 256 := by omega
          have g2 : (0 : Int) ≤ (k : Int) := by omega
          have HC := Lib.hid (HH.out k hk2 wr)
          have HX := Lib.hid (And.intro hbx hb)
          have HS := Lib.hid hs
          have HK := Lib.hid hk2
          clear hbx hb hk hk2 hs
          go_wp2_with fail
          go_at_call 36
          refine HC.out.mono ?_
          rintro e w2 ⟨rfl, hb2⟩
          have HX2 := Lib.hid (And.intro (box_kept HX.out.1 hb2) (HX.out.2.trans (hb2.mono HX.out.2.size)))
          clear hb2 c0 c1 c2 c3
          obtain ⟨⟨c0, c1, c2, c3⟩, _⟩ := box_cells HX2.out.1
          cases hh : hasB C k with
          | false =>
            have HR := Lib.hid (rest_skip HK.out (.inl hh))
            clear hh c0 c1 c2 c3
            go_wp2_with fail
            refine ⟨⟨k + 1, s, by have := HK.out; omega, by simp, rfl, by rw [← HR.out]; exact HS.out, HX2.out.1, HX2.out.2⟩, by have := HK.out; simp; omega⟩
          | true =>
            have HIN := Lib.hid hh
            have start : ¬ (0 < k ∧ hasB C (k - 1) = true) → ∀ (W3 : World) (x9 : Value), W3.heap[w.heap.size]? = some (boxC C) → Below w.heap.size w W3 → True := fun _ _ _ _ _ => trivial
            clear start hh
            by_cases h0 : 0 < k
            · have g3 : (0 : Int) < (k : Int) := by omega
              have HC2 := Lib.hid (HH.out (k - 1) (by have := HK.out; omega) w2)
              rw [show (((k - 1 : Nat) : Nat) : Int) = (k : Int) - 1 by omega] at HC2
              have H0 := Lib.hid h0
              clear h0
              go_wp2_with fail
              go_at_call 36
              refine HC2.out.mono ?_
              rintro e w3 ⟨rfl, hb3⟩
              have HX3 := Lib.hid (And.intro (box_kept HX2.out.1 hb3) (HX2.out.2.trans (hb3.mono HX2.out.2.size)))
              clear hb3 c0 c1 c2 c3
              cases hp : hasB C (k - 1) with
              | true =>
                have HR := Lib.hid (rest_skip HK.out (.inr ⟨H0.out, hp⟩))
                clear hp
                go_wp2_with fail
                refine ⟨⟨k + 1, s, by have := HK.out; omega, by simp, rfl, by rw [← HR.out]; exact HS.out, HX3.out.1, HX3.out.2⟩, by have := HK.out; simp; omega⟩
              | false =>
                have HR := Lib.hid (rest_take HK.out HIN.out (fun e => by rw [hp] at e; exact absurd e.2 (by decide)))
                clear hp
                go_wp2_with fail
                clear g3
                go_loopw [8] (fun z W4 => ∃ m : Nat, z = .int .i64 m ∧ k ≤ m ∧ m ≤ 255 ∧ runEnd C 256 m = runEnd C 256 k ∧ W4.heap[w.heap.size]? = some (boxC C) ∧ Below w.heap.size w W4) (fun z _ => match z with | .int _ z => 256 - z.toNat | _ => 0)
                case atStart => exact ⟨k, rfl, Nat.le_refl _, by have := HK.out; omega, rfl, HX3.out.1, HX3.out.2⟩
                case round =>
                  obtain ⟨m, rfl, hkm, hm, hre, hbx, hb⟩ := hrel
                  obtain ⟨⟨c0, c1, c2, c3⟩, _⟩ := box_cells hbx
                  have HY := Lib.hid (And.intro hbx (And.intro hb (And.intro hkm (And.intro hm hre))))
                  have g5 : (0 : Int) ≤ (m : Int) := by omega
                  have g6 : (m : Int) ≤ 255 := by omega
                  by_cases hlt : m < 255
                  · have g4 : (m : Int) < 255 := by omega
                    have HC3 := Lib.hid (HH.out (m + 1) (by omega) wr)
                    rw [show (((m + 1 : Nat) : Nat) : Int) = (m : Int) + 1 by omega] at HC3
                    have HLT := Lib.hid hlt
                    clear hbx hb hkm hm hre hlt
                    go_wp2_with fail
                    go_at_call 36
                    refine HC3.out.mono ?_
                    rintro e w5 ⟨rfl, hb5⟩
                    have HX5 := Lib.hid (And.intro (box_kept HY.out.1 hb5) (HY.out.2.1.trans (hb5.mono HY.out.2.1.size)))
                    clear hb5 c0 c1 c2 c3
                    cases hn : hasB C (m + 1) with
                    | true =>
                      have HE := Lib.hid ((runEnd_more HLT.out hn).symm.trans HY.out.2.2.2.2)
                      clear hn
                      go_wp2_with fail
                      refine ⟨⟨m + 1, by simp, by have := HY.out.2.2.1; omega, by have := HLT.out; omega, HE.out, HX5.out.1, HX5.out.2⟩, by have := HLT.out; simp; omega⟩
                    | false =>
                      have HE := Lib.hid (HY.out.2.2.2.2.symm.trans (runEnd_here (fun e => by rw [hn] at e; exact absurd e.2 (by decide))))
                      clear hn
                      rw [HE.out] at HR
                      skip
                      by_cases q1 : m = k
                      · first
                        | exfalso; omega
                        | subst q1
                          have q2 : ¬ (m : Int) + 1 < (m : Int) := by omega
                          have HBK := Lib.hid (fun W => HBY.out m HK.out W)
                          go_wp2_with fail
                          go_at_call 17
                          refine (HBK.out _).mono ?_
                          rintro e w6 ⟨s6, hs6, rfl, hb6⟩
                          have HX6 := Lib.hid (And.intro (box_kept HX5.out.1 hb6) (And.intro (HX5.out.2.trans (hb6.mono HX5.out.2.size)) hs6))
                          have hz6 : s6.size ≤ 4 := by rw [← txt_length, hs6]; exact byT_four m
                          clear hb6 hs6
                          go_wp2_with fail
                          refine ⟨⟨m + 1, _, by have := HK.out; omega, by simp, rfl, ?_, HX6.out.1, HX6.out.2.1⟩, by have := HK.out; simp; omega⟩
                          have h1 := HS.out
                          rw [HR.out] at h1
                          unfold runT at h1
                          rw [if_pos rfl] at h1
                          rw [txt_append, HX6.out.2.2, List.append_assoc]
                          exact h1
                      · have q3 : (k : Int) < (m : Int) := by have := HY.out.2.2.1; omega
                        have HBK := Lib.hid (fun W => HBY.out k HK.out W)
                        have HBM := Lib.hid (fun W => HBY.out m (by have := HY.out.2.2.2.1; omega) W)
                        have HQ1 := Lib.hid q1
                        clear q1
                        by_cases q2 : m = k + 1
                        · first
                          | exfalso; have := HQ1.out; omega
                          | have q4 : ¬ (k : Int) + 1 < (m : Int) := by omega
                            have HQ2 := Lib.hid q2
                            clear q2
                            go_wp2_with fail
                            go_at_call 17
                            refine (HBK.out _).mono ?_
                            rintro e w6 ⟨s6, hs6, rfl, hb6⟩
                            have HX6 := Lib.hid (And.intro (box_kept HX5.out.1 hb6) (And.intro (HX5.out.2.trans (hb6.mono HX5.out.2.size)) hs6))
                            have hz6 : s6.size ≤ 4 := by rw [← txt_length, hs6]; exact byT_four k
                            clear hb6 hs6
                            go_wp2_with fail
                            go_at_call 17
                            refine (HBM.out _).mono ?_
                            rintro e w7 ⟨s7, hs7, rfl, hb7⟩
                            have HX7 := Lib.hid (And.intro (box_kept HX6.out.1 hb7) (And.intro (HX6.out.2.1.trans (hb7.mono HX6.out.2.1.size)) hs7))
                            have hz7 : s7.size ≤ 4 := by rw [← txt_length, hs7]; exact byT_four m
                            clear hb7 hs7
                            go_wp2_with fail
                            refine ⟨⟨k + 1, _, by have := HK.out; omega, by simp, rfl, ?_, HX7.out.1, HX7.out.2.1⟩, by have := HK.out; simp; omega⟩
                            have h1 := HS.out
                            rw [HR.out] at h1
                            unfold runT at h1
                            rw [if_neg HQ1.out, if_pos HQ2.out] at h1
                            rw [txt_append, txt_append, HX6.out.2.2, HX7.out.2.2, List.append_assoc, List.append_assoc]
                            rw [List.append_assoc] at h1
                            exact h1
                        · have q4 : (k : Int) + 1 < (m : Int) := by omega
                          have HQ2 := Lib.hid q2
                          clear q2
                          go_wp2_with fail
                          go_at_call 17
                          refine (HBK.out _).mono ?_
                          rintro e w6 ⟨s6, hs6, rfl, hb6⟩
                          have HX6 := Lib.hid (And.intro (box_kept HX5.out.1 hb6) (And.intro (HX5.out.2.trans (hb6.mono HX5.out.2.size)) hs6))
                          have hz6 : s6.size ≤ 4 := by rw [← txt_length, hs6]; exact byT_four k
                          clear hb6 hs6
                          go_wp2_with fail
                          go_at_call 17
                          refine (HBM.out _).mono ?_
                          rintro e w7 ⟨s7, hs7, rfl, hb7⟩
                          have HX7 := Lib.hid (And.intro (box_kept HX6.out.1 hb7) (And.intro (HX6.out.2.1.trans (hb7.mono HX6.out.2.1.size)) hs7))
                          have hz7 : s7.size ≤ 4 := by rw [← txt_length, hs7]; exact byT_four m
                          clear hb7 hs7
                          go_wp2_with fail
                          refine ⟨⟨k + 1, _, by have := HK.out; omega, by simp, rfl, ?_, HX7.out.1, HX7.out.2.1⟩, by have := HK.out; simp; omega⟩
                          have h1 := HS.out
                          rw [HR.out] at h1
                          unfold runT at h1
                          rw [if_neg HQ1.out, if_neg HQ2.out] at h1
                          rw [txt_append, txt_append, txt_append, HX6.out.2.2, HX7.out.2.2]
                          simp only [List.append_assoc, List.cons_append] at h1 ⊢
                          exact h1
                  · have g4 : ¬ (m : Int) < 255 := by omega
                    have HX5 := Lib.hid (And.intro hbx hb)
                    have HE := Lib.hid (hre.symm.trans (runEnd_here (fun e => hlt e.1)))
                    clear hbx hb hkm hm hre hlt c0 c1 c2 c3
                    rw [HE.out] at HR
                    skip
                    by_cases q1 : m = k
                    · first
                      | exfalso; omega
                      | subst q1
                        have q2 : ¬ (m : Int) + 1 < (m : Int) := by omega
                        have HBK := Lib.hid (fun W => HBY.out m HK.out W)
                        go_wp2_with fail
                        go_at_call 17
                        refine (HBK.out _).mono ?_
                        rintro e w6 ⟨s6, hs6, rfl, hb6⟩
                        have HX6 := Lib.hid (And.intro (box_kept HX5.out.1 hb6) (And.intro (HX5.out.2.trans (hb6.mono HX5.out.2.size)) hs6))
                        have hz6 : s6.size ≤ 4 := by rw [← txt_length, hs6]; exact byT_four m
                        clear hb6 hs6
                        go_wp2_with fail
                        refine ⟨⟨m + 1, _, by have := HK.out; omega, by simp, rfl, ?_, HX6.out.1, HX6.out.2.1⟩, by have := HK.out; simp; omega⟩
                        have h1 := HS.out
                        rw [HR.out] at h1
                        unfold runT at h1
                        rw [if_pos rfl] at h1
                        rw [txt_append, HX6.out.2.2, List.append_assoc]
                        exact h1
                    · have q3 : (k : Int) < (m : Int) := by have := HY.out.2.2.1; omega
                      have HBK := Lib.hid (fun W => HBY.out k HK.out W)
                      have HBM := Lib.hid (fun W => HBY.out m (by have := HY.out.2.2.2.1; omega) W)
                      have HQ1 := Lib.hid q1
                      clear q1
                      by_cases q2 : m = k + 1
                      · first
                        | exfalso; have := HQ1.out; omega
                        | have q4 : ¬ (k : Int) + 1 < (m : Int) := by omega
                          have HQ2 := Lib.hid q2
                          clear q2
                          go_wp2_with fail
                          go_at_call 17
                          refine (HBK.out _).mono ?_
                          rintro e w6 ⟨s6, hs6, rfl, hb6⟩
                          have HX6 := Lib.hid (And.intro (box_kept HX5.out.1 hb6) (And.intro (HX5.out.2.trans (hb6.mono HX5.out.2.size)) hs6))
                          have hz6 : s6.size ≤ 4 := by rw [← txt_length, hs6]; exact byT_four k
                          clear hb6 hs6
                          go_wp2_with fail
                          go_at_call 17
                          refine (HBM.out _).mono ?_
                          rintro e w7 ⟨s7, hs7, rfl, hb7⟩
                          have HX7 := Lib.hid (And.intro (box_kept HX6.out.1 hb7) (And.intro (HX6.out.2.1.trans (hb7.mono HX6.out.2.1.size)) hs7))
                          have hz7 : s7.size ≤ 4 := by rw [← txt_length, hs7]; exact byT_four m
                          clear hb7 hs7
                          go_wp2_with fail
                          refine ⟨⟨k + 1, _, by have := HK.out; omega, by simp, rfl, ?_, HX7.out.1, HX7.out.2.1⟩, by have := HK.out; simp; omega⟩
                          have h1 := HS.out
                          rw [HR.out] at h1
                          unfold runT at h1
                          rw [if_neg HQ1.out, if_pos HQ2.out] at h1
                          rw [txt_append, txt_append, HX6.out.2.2, HX7.out.2.2, List.append_assoc, List.append_assoc]
                          rw [List.append_assoc] at h1
                          exact h1
                      · have q4 : (k : Int) + 1 < (m : Int) := by omega
                        have HQ2 := Lib.hid q2
                        clear q2
                        go_wp2_with fail
                        go_at_call 17
                        refine (HBK.out _).mono ?_
                        rintro e w6 ⟨s6, hs6, rfl, hb6⟩
                        have HX6 := Lib.hid (And.intro (box_kept HX5.out.1 hb6) (And.intro (HX5.out.2.trans (hb6.mono HX5.out.2.size)) hs6))
                        have hz6 : s6.size ≤ 4 := by rw [← txt_length, hs6]; exact byT_four k
                        clear hb6 hs6
                        go_wp2_with fail
                        go_at_call 17
                        refine (HBM.out _).mono ?_
                        rintro e w7 ⟨s7, hs7, rfl, hb7⟩
                        have HX7 := Lib.hid (And.intro (box_kept HX6.out.1 hb7) (And.intro (HX6.out.2.1.trans (hb7.mono HX6.out.2.1.size)) hs7))
                        have hz7 : s7.size ≤ 4 := by rw [← txt_length, hs7]; exact byT_four m
                        clear hb7 hs7
                        go_wp2_with fail
                        refine ⟨⟨k + 1, _, by have := HK.out; omega, by simp, rfl, ?_, HX7.out.1, HX7.out.2.1⟩, by have := HK.out; simp; omega⟩
                        have h1 := HS.out
                        rw [HR.out] at h1
                        unfold runT at h1
                        rw [if_neg HQ1.out, if_neg HQ2.out] at h1
                        rw [txt_append, txt_append, txt_append, HX6.out.2.2, HX7.out.2.2]
                        simp only [List.append_assoc, List.cons_append] at h1 ⊢
                        exact h1
            · have HR := Lib.hid (rest_take HK.out HIN.out (fun e => h0 e.1))
              have g3 : ¬ (0 : Int) < (k : Int) := by omega
              have HX3 := Lib.hid HX2.out
              clear h0 c0 c1 c2 c3
              go_wp2_with fail
              clear g3
              go_loopw [8] (fun z W4 => ∃ m : Nat, z = .int .i64 m ∧ k ≤ m ∧ m ≤ 255 ∧ runEnd C 256 m = runEnd C 256 k ∧ W4.heap[w.heap.size]? = some (boxC C) ∧ Below w.heap.size w W4) (fun z _ => match z with | .int _ z => 256 - z.toNat | _ => 0)
              case atStart => exact ⟨k, rfl, Nat.le_refl _, by have := HK.out; omega, rfl, HX3.out.1, HX3.out.2⟩
              case round =>
                obtain ⟨m, rfl, hkm, hm, hre, hbx, hb⟩ := hrel
                obtain ⟨⟨c0, c1, c2, c3⟩, _⟩ := box_cells hbx
                have HY := Lib.hid (And.intro hbx (And.intro hb (And.intro hkm (And.intro hm hre))))
                have g5 : (0 : Int) ≤ (m : Int) := by omega
                have g6 : (m : Int) ≤ 255 := by omega
                by_cases hlt : m < 255
                · have g4 : (m : Int) < 255 := by omega
                  have HC3 := Lib.hid (HH.out (m + 1) (by omega) wr)
                  rw [show (((m + 1 : Nat) : Nat) : Int) = (m : Int) + 1 by omega] at HC3
                  have HLT := Lib.hid hlt
                  clear hbx hb hkm hm hre hlt
                  go_wp2_with fail
                  go_at_call 36
                  refine HC3.out.mono ?_
                  rintro e w5 ⟨rfl, hb5⟩
                  have HX5 := Lib.hid (And.intro (box_kept HY.out.1 hb5) (HY.out.2.1.trans (hb5.mono HY.out.2.1.size)))
                  clear hb5 c0 c1 c2 c3
                  cases hn : hasB C (m + 1) with
                  | true =>
                    have HE := Lib.hid ((runEnd_more HLT.out hn).symm.trans HY.out.2.2.2.2)
                    clear hn
                    go_wp2_with fail
                    refine ⟨⟨m + 1, by simp, by have := HY.out.2.2.1; omega, by have := HLT.out; omega, HE.out, HX5.out.1, HX5.out.2⟩, by have := HLT.out; simp; omega⟩
                  | false =>
                    have HE := Lib.hid (HY.out.2.2.2.2.symm.trans (runEnd_here (fun e => by rw [hn] at e; exact absurd e.2 (by decide))))
                    clear hn
                    rw [HE.out] at HR
                    skip
                    by_cases q1 : m = k
                    · first
                      | exfalso; omega
                      | subst q1
                        have q2 : ¬ (m : Int) + 1 < (m : Int) := by omega
                        have HBK := Lib.hid (fun W => HBY.out m HK.out W)
                        go_wp2_with fail
                        go_at_call 17
                        refine (HBK.out _).mono ?_
                        rintro e w6 ⟨s6, hs6, rfl, hb6⟩
                        have HX6 := Lib.hid (And.intro (box_kept HX5.out.1 hb6) (And.intro (HX5.out.2.trans (hb6.mono HX5.out.2.size)) hs6))
                        have hz6 : s6.size ≤ 4 := by rw [← txt_length, hs6]; exact byT_four m
                        clear hb6 hs6
                        go_wp2_with fail
                        refine ⟨⟨m + 1, _, by have := HK.out; omega, by simp, rfl, ?_, HX6.out.1, HX6.out.2.1⟩, by have := HK.out; simp; omega⟩
                        have h1 := HS.out
                        rw [HR.out] at h1
                        unfold runT at h1
                        rw [if_pos rfl] at h1
                        rw [txt_append, HX6.out.2.2, List.append_assoc]
                        exact h1
                    · have q3 : (k : Int) < (m : Int) := by have := HY.out.2.2.1; omega
                      have HBK := Lib.hid (fun W => HBY.out k HK.out W)
                      have HBM := Lib.hid (fun W => HBY.out m (by have := HY.out.2.2.2.1; omega) W)
                      have HQ1 := Lib.hid q1
                      clear q1
                      by_cases q2 : m = k + 1
                      · first
                        | exfalso; have := HQ1.out; omega
                        | have q4 : ¬ (k : Int) + 1 < (m : Int) := by omega
                          have HQ2 := Lib.hid q2
                          clear q2
                          go_wp2_with fail
                          go_at_call 17
                          refine (HBK.out _).mono ?_
                          rintro e w6 ⟨s6, hs6, rfl, hb6⟩
                          have HX6 := Lib.hid (And.intro (box_kept HX5.out.1 hb6) (And.intro (HX5.out.2.trans (hb6.mono HX5.out.2.size)) hs6))
                          have hz6 : s6.size ≤ 4 := by rw [← txt_length, hs6]; exact byT_four k
                          clear hb6 hs6
                          go_wp2_with fail
                          go_at_call 17
                          refine (HBM.out _).mono ?_
                          rintro e w7 ⟨s7, hs7, rfl, hb7⟩
                          have HX7 := Lib.hid (And.intro (box_kept HX6.out.1 hb7) (And.intro (HX6.out.2.1.trans (hb7.mono HX6.out.2.1.size)) hs7))
                          have hz7 : s7.size ≤ 4 := by rw [← txt_length, hs7]; exact byT_four m
                          clear hb7 hs7
                          go_wp2_with fail
                          refine ⟨⟨k + 1, _, by have := HK.out; omega, by simp, rfl, ?_, HX7.out.1, HX7.out.2.1⟩, by have := HK.out; simp; omega⟩
                          have h1 := HS.out
                          rw [HR.out] at h1
                          unfold runT at h1
                          rw [if_neg HQ1.out, if_pos HQ2.out] at h1
                          rw [txt_append, txt_append, HX6.out.2.2, HX7.out.2.2, List.append_assoc, List.append_assoc]
                          rw [List.append_assoc] at h1
                          exact h1
                      · have q4 : (k : Int) + 1 < (m : Int) := by omega
                        have HQ2 := Lib.hid q2
                        clear q2
                        go_wp2_with fail
                        go_at_call 17
                        refine (HBK.out _).mono ?_
                        rintro e w6 ⟨s6, hs6, rfl, hb6⟩
                        have HX6 := Lib.hid (And.intro (box_kept HX5.out.1 hb6) (And.intro (HX5.out.2.trans (hb6.mono HX5.out.2.size)) hs6))
                        have hz6 : s6.size ≤ 4 := by rw [← txt_length, hs6]; exact byT_four k
                        clear hb6 hs6
                        go_wp2_with fail
                        go_at_call 17
                        refine (HBM.out _).mono ?_
                        rintro e w7 ⟨s7, hs7, rfl, hb7⟩
                        have HX7 := Lib.hid (And.intro (box_kept HX6.out.1 hb7) (And.intro (HX6.out.2.1.trans (hb7.mono HX6.out.2.1.size)) hs7))
                        have hz7 : s7.size ≤ 4 := by rw [← txt_length, hs7]; exact byT_four m
                        clear hb7 hs7
                        go_wp2_with fail
                        refine ⟨⟨k + 1, _, by have := HK.out; omega, by simp, rfl, ?_, HX7.out.1, HX7.out.2.1⟩, by have := HK.out; simp; omega⟩
                        have h1 := HS.out
                        rw [HR.out] at h1
                        unfold runT at h1
                        rw [if_neg HQ1.out, if_neg HQ2.out] at h1
                        rw [txt_append, txt_append, txt_append, HX6.out.2.2, HX7.out.2.2]
                        simp only [List.append_assoc, List.cons_append] at h1 ⊢
                        exact h1
                · have g4 : ¬ (m : Int) < 255 := by omega
                  have HX5 := Lib.hid (And.intro hbx hb)
                  have HE := Lib.hid (hre.symm.trans (runEnd_here (fun e => hlt e.1)))
                  clear hbx hb hkm hm hre hlt c0 c1 c2 c3
                  rw [HE.out] at HR
                  skip
                  by_cases q1 : m = k
                  · first
                    | exfalso; omega
                    | subst q1
                      have q2 : ¬ (m : Int) + 1 < (m : Int) := by omega
                      have HBK := Lib.hid (fun W => HBY.out m HK.out W)
                      go_wp2_with fail
                      go_at_call 17
                      refine (HBK.out _).mono ?_
                      rintro e w6 ⟨s6, hs6, rfl, hb6⟩
                      have HX6 := Lib.hid (And.intro (box_kept HX5.out.1 hb6) (And.intro (HX5.out.2.trans (hb6.mono HX5.out.2.size)) hs6))
                      have hz6 : s6.size ≤ 4 := by rw [← txt_length, hs6]; exact byT_four m
                      clear hb6 hs6
                      go_wp2_with fail
                      refine ⟨⟨m + 1, _, by have := HK.out; omega, by simp, rfl, ?_, HX6.out.1, HX6.out.2.1⟩, by have := HK.out; simp; omega⟩
                      have h1 := HS.out
                      rw [HR.out] at h1
                      unfold runT at h1
                      rw [if_pos rfl] at h1
                      rw [txt_append, HX6.out.2.2, List.append_assoc]
                      exact h1
                  · have q3 : (k : Int) < (m : Int) := by have := HY.out.2.2.1; omega
                    have HBK := Lib.hid (fun W => HBY.out k HK.out W)
                    have HBM := Lib.hid (fun W => HBY.out m (by have := HY.out.2.2.2.1; omega) W)
                    have HQ1 := Lib.hid q1
                    clear q1
                    by_cases q2 : m = k + 1
                    · first
                      | exfalso; have := HQ1.out; omega
                      | have q4 : ¬ (k : Int) + 1 < (m : Int) := by omega
                        have HQ2 := Lib.hid q2
                        clear q2
                        go_wp2_with fail
                        go_at_call 17
                        refine (HBK.out _).mono ?_
                        rintro e w6 ⟨s6, hs6, rfl, hb6⟩
                        have HX6 := Lib.hid (And.intro (box_kept HX5.out.1 hb6) (And.intro (HX5.out.2.trans (hb6.mono HX5.out.2.size)) hs6))
                        have hz6 : s6.size ≤ 4 := by rw [← txt_length, hs6]; exact byT_four k
                        clear hb6 hs6
                        go_wp2_with fail
                        go_at_call 17
                        refine (HBM.out _).mono ?_
                        rintro e w7 ⟨s7, hs7, rfl, hb7⟩
                        have HX7 := Lib.hid (And.intro (box_kept HX6.out.1 hb7) (And.intro (HX6.out.2.1.trans (hb7.mono HX6.out.2.1.size)) hs7))
                        have hz7 : s7.size ≤ 4 := by rw [← txt_length, hs7]; exact byT_four m
                        clear hb7 hs7
                        go_wp2_with fail
                        refine ⟨⟨k + 1, _, by have := HK.out; omega, by simp, rfl, ?_, HX7.out.1, HX7.out.2.1⟩, by have := HK.out; simp; omega⟩
                        have h1 := HS.out
                        rw [HR.out] at h1
                        unfold runT at h1
                        rw [if_neg HQ1.out, if_pos HQ2.out] at h1
                        rw [txt_append, txt_append, HX6.out.2.2, HX7.out.2.2, List.append_assoc, List.append_assoc]
                        rw [List.append_assoc] at h1
                        exact h1
                    · have q4 : (k : Int) + 1 < (m : Int) := by omega
                      have HQ2 := Lib.hid q2
                      clear q2
                      go_wp2_with fail
                      go_at_call 17
                      refine (HBK.out _).mono ?_
                      rintro e w6 ⟨s6, hs6, rfl, hb6⟩
                      have HX6 := Lib.hid (And.intro (box_kept HX5.out.1 hb6) (And.intro (HX5.out.2.trans (hb6.mono HX5.out.2.size)) hs6))
                      have hz6 : s6.size ≤ 4 := by rw [← txt_length, hs6]; exact byT_four k
                      clear hb6 hs6
                      go_wp2_with fail
                      go_at_call 17
                      refine (HBM.out _).mono ?_
                      rintro e w7 ⟨s7, hs7, rfl, hb7⟩
                      have HX7 := Lib.hid (And.intro (box_kept HX6.out.1 hb7) (And.intro (HX6.out.2.1.trans (hb7.mono HX6.out.2.1.size)) hs7))
                      have hz7 : s7.size ≤ 4 := by rw [← txt_length, hs7]; exact byT_four m
                      clear hb7 hs7
                      go_wp2_with fail
                      refine ⟨⟨k + 1, _, by have := HK.out; omega, by simp, rfl, ?_, HX7.out.1, HX7.out.2.1⟩, by have := HK.out; simp; omega⟩
                      have h1 := HS.out
                      rw [HR.out] at h1
                      unfold runT at h1
                      rw [if_neg HQ1.out, if_neg HQ2.out] at h1
                      rw [txt_append, txt_append, txt_append, HX6.out.2.2, HX7.out.2.2]
                      simp only [List.append_assoc, List.cons_append] at h1 ⊢
                      exact h1
        · have g1 : ¬ (k : Int) < 256 := by omega
          obtain rfl : k = 256 := by omega
          have HS := Lib.hid (And.intro hs hb)
          clear hs hb hbx hk hk2 c0 c1 c2 c3
          go_wp2_with fail
          go_ret
          refine ⟨_, ?_, rfl, HS.out.2⟩
          have h1 := HS.out.1
          rw [rest_end, List.append_nil] at h1
          rw [txt_append, h1, HT.out]
          rfl

end Go.Proofs.YtpibkalbnjgpaaaDoor

/- What the document's own Text comes to: a contract.
   Conditions: the tree lies in memory, is formed, its classes are four words below 2^64, it has at most 1000 nodes. -/
namespace Go.Proofs.YtpibkalbnjgpaaaDoor
open Go.RowKit
attribute [local go_sem] nodeAgg

theorem star_at (w : World) : (Instr.index 59 (.agg #[.string { data := #[42] }, .string { data := #[43] }]) (.int .i64 0)).run Tryd.prog w = .ok (.string { data := #[42] }) w := by
  simp [Instr.index, run_underlying Tryd.underlying59, asIntOf, go_sem]
theorem plus_at (w : World) : (Instr.index 59 (.agg #[.string { data := #[42] }, .string { data := #[43] }]) (.int .i64 1)).run Tryd.prog w = .ok (.string { data := #[43] }) w := by
  simp [Instr.index, run_underlying Tryd.underlying59, asIntOf, go_sem]
theorem below_append (k : Int) : ∀ (a b : List T) (first : Bool), belowT k first (a ++ b) = belowT k first a ++ belowT k (first && a.isEmpty) b
  | [], b, first => by rw [belowT]; simp
  | t :: a, b, first => by
    rw [List.cons_append, belowT, belowT, below_append k a b false]
    simp
theorem below_take {ps : List V} {i : Nat} {p : V} (k : Int) (h : ps[i]? = some p) : belowT k true (erases (ps.take (i + 1))) = belowT k true (erases (ps.take i)) ++ ((if i = 0 ∨ k ≠ 3 then [] else [124]) ++ brk p.kind k (textT (erase p))) := by
  have hi := (List.getElem?_eq_some_iff.1 h).1
  rw [List.take_add_one, h, erases_append, below_append]
  congr 1
  show belowT k _ (erases [p]) = _
  have e : (true && (erases (ps.take i)).isEmpty) = decide (i = 0) := by
    cases i with
    | zero => rfl
    | succ i =>
      cases ps with
      | nil => simp at hi
      | cons q ps => rfl
  rw [e, erases, erases, belowT, belowT, List.append_nil, kind_erase]
  congr 1
  by_cases h0 : i = 0
  · simp [h0]
  · by_cases hk : k = 3 <;> simp [h0, hk]
theorem below_pre {ps : List V} (k : Int) (i : Nat) : (belowT k true (erases (ps.take i))).length ≤ (belowT k true (erases ps)).length := by
  conv => rhs; rw [← List.take_append_drop i ps, erases_append, below_append]
  rw [List.length_append]
  omega

set_option maxHeartbeats 8000000 in
set_option maxRecDepth 100000 in
theorem textR_any (N : Nat) : N ≤ 1000 → ∀ (t : V) (w : World) (R : Nat → Prop), szT (erase t) ≤ N → Laid w R t → okT (erase t) = true → ClT (erase t) →
    Calls Tryd.prog 11 #[nodeAgg t] w (Wrote (textT (erase t)) w) := by
  induction N with
  | zero => intro _ t w R h; rw [sz_eq] at h; omega
  | succ N ih =>
    intro hN t w R hd ha hok hcl
    obtain ⟨sa, sc, hv, hrow⟩ := laid_row' ha
    have hsz := sz_eq t
    have hlen := len_sz t.ps
    have htx : textT (erase t) = if t.kind = 1 then setT t.set else belowT t.kind true (erases t.ps) ++ (if t.kind = 4 then timesT t.lo t.hi else []) := by
      obtain ⟨k, C, lo, hi, v, ps⟩ := t
      rw [erase, textT]
      rfl
    have hoks : oksT (erases t.ps) = true := by rw [okT_eq, Bool.and_eq_true] at hok; exact hok.2
    have hkind : t.kind = 0 ∨ t.kind = 1 ∨ t.kind = 2 ∨ t.kind = 3 ∨ (t.kind = 4 ∧ bnd t.lo t.hi = true) := by
      rw [okT_eq, Bool.and_eq_true] at hok
      have h1 := hok.1
      unfold okV okA at h1
      rcases of_decide_eq_true h1 with ⟨h, _⟩ | ⟨h, _⟩ | ⟨h, _⟩ | ⟨h, _, _, h2⟩
      · exact .inl h
      · exact .inr (.inl h)
      · rcases h with h | h
        · exact .inr (.inr (.inl h))
        · exact .inr (.inr (.inr (.inl h)))
      · exact .inr (.inr (.inr (.inr ⟨h, h2⟩)))
    have hcls : ClsT (erases t.ps) ∧ Cl t.set := by
      obtain ⟨k, C, lo, hi, v, ps⟩ := t
      rw [erase, ClT] at hcl
      exact ⟨hcl.2, hcl.1⟩
    have hbl := belows_len (erases t.ps) hoks t.kind true
    have hbound : (belowT t.kind true (erases t.ps)).length ≤ 2400000 := by omega
    have HP := Lib.hid (fun (i : Nat) (p : V) (hp : t.ps[i]? = some p) (W : World) (hW : Below w.heap.size w W) => by
      obtain ⟨_, _, _, _, _, L1⟩ := hrow i p hp
      have hpz := sz_mem (List.mem_of_getElem? hp)
      exact ih (by omega) p W R (by omega) (laid_low L1 hW) (oksT_mem t.ps i p hoks hp) (cls_get t.ps i p hcls.1 hp))
    have HPL := Lib.hid (fun (i : Nat) (p : V) (hp : t.ps[i]? = some p) => by
      have hpz := sz_mem (List.mem_of_getElem? hp)
      have := text_len (erase p) (oksT_mem t.ps i p hoks hp)
      exact (show (textT (erase p)).length ≤ 2400000 by omega))
    have HR := Lib.hid hrow
    have HK := Lib.hid hkind
    have HB := Lib.hid hbound
    have HT := Lib.hid htx
    have HCL := Lib.hid hcls.2
    have hn1 : (t.ps.length : Int) ≤ 1000000 := by omega
    obtain ⟨w2, hw2, hbw, hlt2, hbx⟩ := box_new w t (.slice sa t.ps.length sc)
    have HBX := Lib.hid hbx
    have HBW := Lib.hid hbw
    rw [nodeAgg_v hv]
    clear hrow hsz hlen htx hoks hkind hcls hbl hbound hbx hbw hlt2 hd ha hok hcl ih hv
    go_enter Tryd.func11, Tryd.ntmps11
    go_wp2_with fail
    clear hw2
    go_loopw [3, 4] (fun a x wr => ∃ (i : Nat) (s : ByteArray), x = .int .i64 i ∧ i ≤ t.ps.length ∧ a = .string s ∧ txt s = belowT t.kind true (erases (t.ps.take i)) ∧ Below w2.heap.size w2 wr) (fun _ x _ => match x with | .int _ z => t.ps.length - z.toNat | _ => 0)
    case atStart => exact ⟨0, _, rfl, by omega, rfl, by simp [erases, belowT]; rfl, Below.refl _ _⟩
    case round =>
      obtain ⟨i, s, rfl, hi, rfl, hs, hb⟩ := hrel
      have hsl := txt_length s
      have hpre := below_pre (ps := t.ps) t.kind i
      have hb2 := HB.out
      rw [hs] at hsl
      have hs0 : s.size ≤ 2400000 := by omega
      obtain ⟨x0, x1, x2, x3, x4, x5, x6, x7⟩ := HBX.out wr hb
      have HS := Lib.hid (And.intro hs hb)
      clear hsl hpre hb2
      by_cases hlt : i < t.ps.length
      · have g1 : (i : Int) < (t.ps.length : Int) := by omega
        have g0 : (0 : Int) ≤ (i : Int) := by omega
        obtain ⟨p, hp⟩ : ∃ p, t.ps[i]? = some p := ⟨_, List.getElem?_eq_getElem hlt⟩
        obtain ⟨b1, o1, rfl, hlt1, cc1, L1⟩ := HR.out i p hp
        obtain ⟨pa, pc, hpv, _⟩ := laid_row' L1
        have hbww := below_hop HBW.out hb
        obtain ⟨y0, y1, y2, y3, y4, y5, y6, y7⟩ := node_cells cc1 hlt1 hbww
        rw [hpv] at y5
        have hb1 : b1 < wr.heap.size := Nat.lt_of_lt_of_le hlt1 hbww.size
        have HC := Lib.hid (fun (W : World) (hW : Below w.heap.size w W) => by
          have := HP.out i p hp W hW
          rw [nodeAgg_v hpv] at this
          exact this)
        have HN := Lib.hid (below_take t.kind hp)
        have HPZ := Lib.hid (HPL.out i p hp)
        obtain ⟨w3, hw3, hbw3, hlt3, hbx3⟩ := box_new wr p (.slice pa p.ps.length pc)
        have HB3 := Lib.hid (below_hop hb hbw3)
        have HBP := Lib.hid hbx3
        have HI := Lib.hid hlt
        have z8 := hbx3 w3 (Below.refl _ _)
        unfold BoxC at z8
        obtain ⟨z0, z1, z2, z3, z4, z5, z6, z7⟩ := z8
        clear hs hb cc1 hp hlt hbx3 hbw3 hbww hlt1 hi L1 hpv
        go_upto_region 6 with fail
        clear hw3 x0 x1 x2 x3 x4 x5 x6 x7 y0 y1 y2 y3 y4 y5 y6 y7
        go_wp2_with fail
        go_at_call 11
        refine (HC.out _ (below_hop HBW.out HB3.out)).mono ?_
        rintro e w4 ⟨x, hx, rfl, hb4⟩
        have hxz : x.size ≤ 2400000 := by rw [← txt_length, hx]; exact HPZ.out
        have HX := Lib.hid (And.intro hx (below_hop HB3.out hb4))
        clear z0 z1 z2 z3 z4 z5 z6 z7
        obtain ⟨z0, _⟩ := HBP.out w4 hb4
        obtain ⟨x0, x1, x2, x3, x4, x5, x6, x7⟩ := HBX.out w4 HX.out.2
        clear hx hb4
        by_cases a3 : p.kind = 3
        · have b3 : (p.kind == 3) = true := by simp [a3]
          have HBRK := Lib.hid (show brk p.kind t.kind (textT (erase p)) = 40 :: (textT (erase p) ++ [41]) by unfold brk; rw [if_pos (.inl a3)])
          clear a3
          by_cases k3 : t.kind = 3
          · have c3 : (t.kind == 3) = true := by simp [k3]
            have c4 : (t.kind != 3) = false := by simp [k3]
            have HK3 := Lib.hid k3
            clear k3
            by_cases hi0 : i = 0
            · have g2 : ¬ (0 : Int) < (i : Int) := by omega
              have HSEP := Lib.hid (show (if i = 0 ∨ t.kind ≠ 3 then [] else [124] : List Nat) = [] from if_pos (.inl hi0))
              clear hi0
              go_wp2_with fail
              refine ⟨⟨i + 1, _, by simp, by have := HI.out; omega, rfl, ?_, HX.out.2⟩, by have := HI.out; simp; omega⟩
              rw [HN.out, HSEP.out, HBRK.out, txt_append, txt_append, txt_append, HX.out.1, HS.out.1]
              rfl
            · have g2 : (0 : Int) < (i : Int) := by omega
              have HSEP := Lib.hid (show (if i = 0 ∨ t.kind ≠ 3 then [] else [124] : List Nat) = [124] from if_neg (by have := HK3.out; omega))
              clear hi0
              go_wp2_with fail
              refine ⟨⟨i + 1, _, by simp, by have := HI.out; omega, rfl, ?_, HX.out.2⟩, by have := HI.out; simp; omega⟩
              rw [HN.out, HSEP.out, HBRK.out, txt_append, txt_append, txt_append, txt_append, HX.out.1, HS.out.1, List.append_assoc]
              rfl
          · have c3 : (t.kind == 3) = false := by simp [k3]
            have c4 : (t.kind != 3) = true := by simp [k3]
            have HK3 := Lib.hid k3
            clear k3
            have HSEP := Lib.hid (show (if i = 0 ∨ t.kind ≠ 3 then [] else [124] : List Nat) = [] from if_pos (.inr HK3.out))
            by_cases hi0 : i = 0
            · have g2 : ¬ (0 : Int) < (i : Int) := by omega
              clear hi0
              go_wp2_with fail
              refine ⟨⟨i + 1, _, by simp, by have := HI.out; omega, rfl, ?_, HX.out.2⟩, by have := HI.out; simp; omega⟩
              rw [HN.out, HSEP.out, HBRK.out, txt_append, txt_append, txt_append, HX.out.1, HS.out.1]
              rfl
            · have g2 : (0 : Int) < (i : Int) := by omega
              clear hi0
              go_wp2_with fail
              refine ⟨⟨i + 1, _, by simp, by have := HI.out; omega, rfl, ?_, HX.out.2⟩, by have := HI.out; simp; omega⟩
              rw [HN.out, HSEP.out, HBRK.out, txt_append, txt_append, txt_append, HX.out.1, HS.out.1]
              rfl
        · have b3 : (p.kind == 3) = false := by simp [a3]
          by_cases k3 : t.kind = 3
          · have c3 : (t.kind == 3) = true := by simp [k3]
            have c4 : (t.kind != 3) = false := by simp [k3]
            have HBRK := Lib.hid (show brk p.kind t.kind (textT (erase p)) = textT (erase p) by unfold brk; rw [if_neg (by omega)])
            have HK3 := Lib.hid k3
            clear a3 k3
            by_cases hi0 : i = 0
            · have g2 : ¬ (0 : Int) < (i : Int) := by omega
              have HSEP := Lib.hid (show (if i = 0 ∨ t.kind ≠ 3 then [] else [124] : List Nat) = [] from if_pos (.inl hi0))
              clear hi0
              go_wp2_with fail
              refine ⟨⟨i + 1, _, by simp, by have := HI.out; omega, rfl, ?_, HX.out.2⟩, by have := HI.out; simp; omega⟩
              rw [HN.out, HSEP.out, HBRK.out, txt_append, HX.out.1, HS.out.1]
              rfl
            · have g2 : (0 : Int) < (i : Int) := by omega
              have HSEP := Lib.hid (show (if i = 0 ∨ t.kind ≠ 3 then [] else [124] : List Nat) = [124] from if_neg (by have := HK3.out; omega))
              clear hi0
              go_wp2_with fail
              refine ⟨⟨i + 1, _, by simp, by have := HI.out; omega, rfl, ?_, HX.out.2⟩, by have := HI.out; simp; omega⟩
              rw [HN.out, HSEP.out, HBRK.out, txt_append, txt_append, HX.out.1, HS.out.1, List.append_assoc]
              rfl
          · have c3 : (t.kind == 3) = false := by simp [k3]
            have c4 : (t.kind != 3) = true := by simp [k3]
            have HK3 := Lib.hid k3
            by_cases a0 : p.kind = 0
            · have b0 : (p.kind == 0) = true := by simp [a0]
              have HBRK := Lib.hid (show brk p.kind t.kind (textT (erase p)) = 40 :: (textT (erase p) ++ [41]) by unfold brk; rw [if_pos (.inr ⟨k3, .inl a0⟩)])
              clear a3 a0 k3
              have HSEP := Lib.hid (show (if i = 0 ∨ t.kind ≠ 3 then [] else [124] : List Nat) = [] from if_pos (.inr HK3.out))
              by_cases hi0 : i = 0
              · have g2 : ¬ (0 : Int) < (i : Int) := by omega
                clear hi0
                go_wp2_with fail
                refine ⟨⟨i + 1, _, by simp, by have := HI.out; omega, rfl, ?_, HX.out.2⟩, by have := HI.out; simp; omega⟩
                rw [HN.out, HSEP.out, HBRK.out, txt_append, txt_append, txt_append, HX.out.1, HS.out.1]
                rfl
              · have g2 : (0 : Int) < (i : Int) := by omega
                clear hi0
                go_wp2_with fail
                refine ⟨⟨i + 1, _, by simp, by have := HI.out; omega, rfl, ?_, HX.out.2⟩, by have := HI.out; simp; omega⟩
                rw [HN.out, HSEP.out, HBRK.out, txt_append, txt_append, txt_append, HX.out.1, HS.out.1]
                rfl
            · have b0 : (p.kind == 0) = false := by simp [a0]
              by_cases a2 : p.kind = 2
              · have b2 : (p.kind == 2) = true := by simp [a2]
                have HBRK := Lib.hid (show brk p.kind t.kind (textT (erase p)) = 40 :: (textT (erase p) ++ [41]) by unfold brk; rw [if_pos (.inr ⟨k3, .inr a2⟩)])
                clear a3 a0 a2 k3
                have HSEP := Lib.hid (show (if i = 0 ∨ t.kind ≠ 3 then [] else [124] : List Nat) = [] from if_pos (.inr HK3.out))
                by_cases hi0 : i = 0
                · have g2 : ¬ (0 : Int) < (i : Int) := by omega
                  clear hi0
                  go_wp2_with fail
                  refine ⟨⟨i + 1, _, by simp, by have := HI.out; omega, rfl, ?_, HX.out.2⟩, by have := HI.out; simp; omega⟩
                  rw [HN.out, HSEP.out, HBRK.out, txt_append, txt_append, txt_append, HX.out.1, HS.out.1]
                  rfl
                · have g2 : (0 : Int) < (i : Int) := by omega
                  clear hi0
                  go_wp2_with fail
                  refine ⟨⟨i + 1, _, by simp, by have := HI.out; omega, rfl, ?_, HX.out.2⟩, by have := HI.out; simp; omega⟩
                  rw [HN.out, HSEP.out, HBRK.out, txt_append, txt_append, txt_append, HX.out.1, HS.out.1]
                  rfl
              · have b2 : (p.kind == 2) = false := by simp [a2]
                have HBRK := Lib.hid (show brk p.kind t.kind (textT (erase p)) = textT (erase p) by unfold brk; rw [if_neg (by omega)])
                clear a3 a0 a2 k3
                have HSEP := Lib.hid (show (if i = 0 ∨ t.kind ≠ 3 then [] else [124] : List Nat) = [] from if_pos (.inr HK3.out))
                by_cases hi0 : i = 0
                · have g2 : ¬ (0 : Int) < (i : Int) := by omega
                  clear hi0
                  go_wp2_with fail
                  refine ⟨⟨i + 1, _, by simp, by have := HI.out; omega, rfl, ?_, HX.out.2⟩, by have := HI.out; simp; omega⟩
                  rw [HN.out, HSEP.out, HBRK.out, txt_append, HX.out.1, HS.out.1]
                  rfl
                · have g2 : (0 : Int) < (i : Int) := by omega
                  clear hi0
                  go_wp2_with fail
                  refine ⟨⟨i + 1, _, by simp, by have := HI.out; omega, rfl, ?_, HX.out.2⟩, by have := HI.out; simp; omega⟩
                  rw [HN.out, HSEP.out, HBRK.out, txt_append, HX.out.1, HS.out.1]
                  rfl
      · have g1 : ¬ (i : Int) < (t.ps.length : Int) := by omega
        have hall : t.ps.take i = t.ps := szs_all (by omega)
        have HS2 := Lib.hid (show txt s = belowT t.kind true (erases t.ps) by rw [hs, hall])
        have HBB := Lib.hid (below_hop HBW.out hb)
        have HBV := Lib.hid hb
        clear hall hs hb hlt hi
        rcases HK.out with hk | hk | hk | hk | ⟨hk, hbd⟩
        · have HE := Lib.hid (show textT (erase t) = belowT t.kind true (erases t.ps) from HT.out.trans (by rw [if_neg (by omega), if_neg (by omega), List.append_nil]))
          rw [hk] at x0
          clear hk
          go_wp2_with fail
          go_ret
          exact ⟨_, HS2.out.trans HE.out.symm, rfl, HBB.out⟩
        · rw [hk] at x0
          have HSR := Lib.hid (fun W => setR_any t.set W HCL.out)
          have HE := Lib.hid (HT.out.trans (if_pos hk))
          clear hk
          go_wp2_with fail
          go_at_call 23
          refine (HSR.out _).mono ?_
          rintro e w5 ⟨s5, hs5, rfl, hb5⟩
          have H5 := Lib.hid (And.intro hs5 (below_hop HBB.out hb5))
          clear hs5 hb5 x0 x1 x2 x3 x4 x5 x6 x7
          go_wp2_with fail
          go_ret
          exact ⟨_, H5.out.1.trans HE.out.symm, rfl, H5.out.2⟩
        · have HE := Lib.hid (show textT (erase t) = belowT t.kind true (erases t.ps) from HT.out.trans (by rw [if_neg (by omega), if_neg (by omega), List.append_nil]))
          rw [hk] at x0
          clear hk
          go_wp2_with fail
          go_ret
          exact ⟨_, HS2.out.trans HE.out.symm, rfl, HBB.out⟩
        · have HE := Lib.hid (show textT (erase t) = belowT t.kind true (erases t.ps) from HT.out.trans (by rw [if_neg (by omega), if_neg (by omega), List.append_nil]))
          rw [hk] at x0
          clear hk
          go_wp2_with fail
          go_ret
          exact ⟨_, HS2.out.trans HE.out.symm, rfl, HBB.out⟩
        · have HE := Lib.hid (show textT (erase t) = belowT t.kind true (erases t.ps) ++ timesT t.lo t.hi from HT.out.trans (by rw [if_neg (by omega), if_pos hk]))
          have HKK := Lib.hid hk
          rw [hk] at x0
          unfold bnd at hbd
          have hbd2 := of_decide_eq_true hbd
          have HD := Lib.hid (fun (n : Int) (h0 : 0 ≤ n) (h1 : n ≤ 2147483647) (W : World) => by
            have := digitsR_any n.toNat (by omega) W
            rw [show ((n.toNat : Nat) : Int) = n by omega] at this
            exact this)
          have HL := Lib.hid (fun (n : Int) (h1 : n ≤ 2147483647) => decs_len19 (n := n.toNat) (by omega))
          clear hbd hk
          have HDlo := Lib.hid (HD.out t.lo hbd2.1 hbd2.2.1)
          have HLlo := Lib.hid (HL.out t.lo hbd2.2.1)
          have HHI := Lib.hid (fun (q1 : ¬ t.hi = t.lo) (q2 : ¬ t.hi = -1) => And.intro (HD.out t.hi (by omega) (by omega)) (HL.out t.hi (by omega)))
          clear HD HL
          generalize hlo : t.lo = lo at *
          generalize hhi : t.hi = hi at *
          have HLE := Lib.hid (And.intro hlo hhi)
          clear hlo hhi
          by_cases e1 : lo = 0 ∧ hi = -1
          · obtain ⟨rfl, rfl⟩ := e1
            have HTM := Lib.hid (show timesT 0 (-1) = [42] from rfl)
            have ix := star_at wr
            clear hbd2
            go_wp2_with fail
            go_ret
            refine ⟨_, ?_, rfl, HBB.out⟩
            rw [HE.out, HTM.out, txt_append, HS2.out]
            rfl
          by_cases e2 : lo = 1 ∧ hi = -1
          · obtain ⟨rfl, rfl⟩ := e2
            have HTM := Lib.hid (show timesT 1 (-1) = [43] from rfl)
            have ix := plus_at wr
            clear hbd2 e1
            go_wp2_with fail
            go_ret
            refine ⟨_, ?_, rfl, HBB.out⟩
            rw [HE.out, HTM.out, txt_append, HS2.out]
            rfl
          by_cases e3 : lo = 0 ∧ hi = 1
          · obtain ⟨rfl, rfl⟩ := e3
            have HTM := Lib.hid (show timesT 0 1 = [63] from rfl)
            clear hbd2 e1 e2
            go_wp2_with fail
            go_ret
            refine ⟨_, ?_, rfl, HBB.out⟩
            rw [HE.out, HTM.out, txt_append, HS2.out]
            rfl
          have htm : timesT lo hi = 123 :: (decs lo.toNat ++ ((if hi = lo then [] else if hi = -1 then [44] else 44 :: decs hi.toNat) ++ [125])) := by
            unfold timesT
            rw [if_neg e1, if_neg e2, if_neg e3]
          have HK4 := Lib.hid HKK.out
          by_cases q1 : hi = lo
          · have f1 : (hi == -1) = false := by simp; omega
            have f4 : (hi != lo) = false := by simp [q1]
            have f5 : (hi == lo) = true := by simp [q1]
            have HTM := Lib.hid (htm.trans (by rw [if_pos q1] : _ = 123 :: (decs lo.toNat ++ ([] ++ [125]))))
            by_cases q0 : lo = 0
            · have f2 : (lo == 0) = true := by simp [q0]
              have f3 : (hi == 1) = false := by simp; omega
              clear htm e1 e2 e3 q0 q1 hbd2
              go_wp2_with fail
              go_at_call 24
              refine (HDlo.out _).mono ?_
              rintro e w5 ⟨s5, hs5, rfl, hb5⟩
              have hz5 : s5.size ≤ 19 := by rw [← txt_length, hs5]; exact HLlo.out
              have HH5 := Lib.hid (And.intro hs5 (below_hop HBB.out hb5))
              have HV5 := Lib.hid (below_hop HBV.out hb5)
              clear hs5 hb5 x0 x1 x2 x3 x4 x5 x6 x7
              obtain ⟨x0, x1, x2, x3, x4, x5, x6, x7⟩ := HBX.out w5 HV5.out
              rw [HK4.out] at x0
              rw [HLE.out.1] at x6
              rw [HLE.out.2] at x7
              go_wp2_with fail
              go_ret
              refine ⟨_, ?_, rfl, HH5.out.2⟩
              rw [HE.out, HTM.out, txt_append, txt_append, txt_append, HH5.out.1, HS2.out, List.append_assoc]
              rfl
            · have f2 : (lo == 0) = false := by simp [q0]
              clear htm e1 e2 e3 q0 q1 hbd2
              go_wp2_with fail
              go_at_call 24
              refine (HDlo.out _).mono ?_
              rintro e w5 ⟨s5, hs5, rfl, hb5⟩
              have hz5 : s5.size ≤ 19 := by rw [← txt_length, hs5]; exact HLlo.out
              have HH5 := Lib.hid (And.intro hs5 (below_hop HBB.out hb5))
              have HV5 := Lib.hid (below_hop HBV.out hb5)
              clear hs5 hb5 x0 x1 x2 x3 x4 x5 x6 x7
              obtain ⟨x0, x1, x2, x3, x4, x5, x6, x7⟩ := HBX.out w5 HV5.out
              rw [HK4.out] at x0
              rw [HLE.out.1] at x6
              rw [HLE.out.2] at x7
              go_wp2_with fail
              go_ret
              refine ⟨_, ?_, rfl, HH5.out.2⟩
              rw [HE.out, HTM.out, txt_append, txt_append, txt_append, HH5.out.1, HS2.out, List.append_assoc]
              rfl
          · have f4 : (hi != lo) = true := by simp [q1]
            have f5 : (hi == lo) = false := by simp [q1]
            by_cases q2 : hi = -1
            · have f1 : (hi == -1) = true := by simp [q2]
              have f6 : ¬ lo < 2 := by omega
              have f2 : (lo == 0) = false := by simp; omega
              have f7 : ¬ (0 : Int) ≤ hi := by omega
              have HTM := Lib.hid (htm.trans (by rw [if_neg q1, if_pos q2] : _ = 123 :: (decs lo.toNat ++ ([44] ++ [125]))))
              clear htm e1 e2 e3 q1 q2 hbd2
              go_wp2_with fail
              go_at_call 24
              refine (HDlo.out _).mono ?_
              rintro e w5 ⟨s5, hs5, rfl, hb5⟩
              have hz5 : s5.size ≤ 19 := by rw [← txt_length, hs5]; exact HLlo.out
              have HH5 := Lib.hid (And.intro hs5 (below_hop HBB.out hb5))
              have HV5 := Lib.hid (below_hop HBV.out hb5)
              clear hs5 hb5 x0 x1 x2 x3 x4 x5 x6 x7
              obtain ⟨x0, x1, x2, x3, x4, x5, x6, x7⟩ := HBX.out w5 HV5.out
              rw [HK4.out] at x0
              rw [HLE.out.1] at x6
              rw [HLE.out.2] at x7
              go_wp2_with fail
              go_ret
              refine ⟨_, ?_, rfl, HH5.out.2⟩
              rw [HE.out, HTM.out, txt_append, txt_append, txt_append, txt_append, HH5.out.1, HS2.out]
              simp only [List.append_assoc]
              rfl
            · have f1 : (hi == -1) = false := by simp [q2]
              have f7 : (0 : Int) ≤ hi := by omega
              have HTM := Lib.hid (htm.trans (by rw [if_neg q1, if_neg q2] : _ = 123 :: (decs lo.toNat ++ ((44 :: decs hi.toNat) ++ [125]))))
              by_cases q0 : lo = 0
              · have f2 : (lo == 0) = true := by simp [q0]
                have f3 : (hi == 1) = false := by simp; omega
                have HDhi := Lib.hid (HHI.out q1 q2).1
                have HLhi := Lib.hid (HHI.out q1 q2).2
                clear htm e1 e2 e3 q0 q1 q2 hbd2
                go_wp2_with fail
                go_at_call 24
                refine (HDlo.out _).mono ?_
                rintro e w5 ⟨s5, hs5, rfl, hb5⟩
                have hz5 : s5.size ≤ 19 := by rw [← txt_length, hs5]; exact HLlo.out
                have HH5 := Lib.hid (And.intro hs5 (below_hop HBB.out hb5))
                have HV5 := Lib.hid (below_hop HBV.out hb5)
                clear hs5 hb5 x0 x1 x2 x3 x4 x5 x6 x7
                obtain ⟨x0, x1, x2, x3, x4, x5, x6, x7⟩ := HBX.out w5 HV5.out
                rw [HK4.out] at x0
                rw [HLE.out.1] at x6
                rw [HLE.out.2] at x7
                go_wp2_with fail
                go_at_call 24
                refine (HDhi.out _).mono ?_
                rintro e w6 ⟨s6, hs6, rfl, hb6⟩
                have hz6 : s6.size ≤ 19 := by rw [← txt_length, hs6]; exact HLhi.out
                have HH6 := Lib.hid (And.intro hs6 (below_hop HH5.out.2 hb6))
                have HV6 := Lib.hid (below_hop HV5.out hb6)
                clear hs6 hb6 x0 x1 x2 x3 x4 x5 x6 x7
                obtain ⟨x0, x1, x2, x3, x4, x5, x6, x7⟩ := HBX.out w6 HV6.out
                rw [HK4.out] at x0
                rw [HLE.out.1] at x6
                rw [HLE.out.2] at x7
                go_wp2_with fail
                go_ret
                refine ⟨_, ?_, rfl, HH6.out.2⟩
                rw [HE.out, HTM.out, txt_append, txt_append, txt_append, txt_append, txt_append, HH5.out.1, HH6.out.1, HS2.out]
                simp only [List.append_assoc]
                rfl
              · have f2 : (lo == 0) = false := by simp [q0]
                have HDhi := Lib.hid (HHI.out q1 q2).1
                have HLhi := Lib.hid (HHI.out q1 q2).2
                clear htm e1 e2 e3 q0 q1 q2 hbd2
                go_wp2_with fail
                go_at_call 24
                refine (HDlo.out _).mono ?_
                rintro e w5 ⟨s5, hs5, rfl, hb5⟩
                have hz5 : s5.size ≤ 19 := by rw [← txt_length, hs5]; exact HLlo.out
                have HH5 := Lib.hid (And.intro hs5 (below_hop HBB.out hb5))
                have HV5 := Lib.hid (below_hop HBV.out hb5)
                clear hs5 hb5 x0 x1 x2 x3 x4 x5 x6 x7
                obtain ⟨x0, x1, x2, x3, x4, x5, x6, x7⟩ := HBX.out w5 HV5.out
                rw [HK4.out] at x0
                rw [HLE.out.1] at x6
                rw [HLE.out.2] at x7
                go_wp2_with fail
                go_at_call 24
                refine (HDhi.out _).mono ?_
                rintro e w6 ⟨s6, hs6, rfl, hb6⟩
                have hz6 : s6.size ≤ 19 := by rw [← txt_length, hs6]; exact HLhi.out
                have HH6 := Lib.hid (And.intro hs6 (below_hop HH5.out.2 hb6))
                have HV6 := Lib.hid (below_hop HV5.out hb6)
                clear hs6 hb6 x0 x1 x2 x3 x4 x5 x6 x7
                obtain ⟨x0, x1, x2, x3, x4, x5, x6, x7⟩ := HBX.out w6 HV6.out
                rw [HK4.out] at x0
                rw [HLE.out.1] at x6
                rw [HLE.out.2] at x7
                go_wp2_with fail
                go_ret
                refine ⟨_, ?_, rfl, HH6.out.2⟩
                rw [HE.out, HTM.out, txt_append, txt_append, txt_append, txt_append, txt_append, HH5.out.1, HH6.out.1, HS2.out]
                simp only [List.append_assoc]
                rfl

end Go.Proofs.YtpibkalbnjgpaaaDoor

/- The walk of the statement ShowTells: called with a tree it returns true and changes nothing that was there.
   Conditions: the tree lies in memory, its classes are four words below 2^64; numbers are written in base ten ('Fmt'). -/
namespace Go.Proofs.YtpibkalbnjgpaaaDoor
open Go.RowKit Go.Shelf
attribute [local go_sem] nodeAgg

theorem boxC_drew {b : Nat} {t : V} {v : Value} {W : World} (h : BoxC b t v W) : BoxC b t v W.drew := h

set_option maxHeartbeats 4000000 in
set_option maxRecDepth 100000 in
theorem tells_walk (a : V) (w : World) (R : Nat → Prop) (ha : Laid w R a) (hc : ClT (erase a)) (hF : Fmt w) :
    Calls Tryd.prog 3 #[nodeAgg a] w fun e w' => e = .returned (.bool true) ∧ Below w.heap.size w w' := by
  obtain ⟨sa, sc, hv0, _⟩ := laid_row' ha
  obtain ⟨sn, hsn⟩ : ∃ sn, sn = a.ps.length := ⟨_, rfl⟩
  rw [← hsn] at hv0
  obtain ⟨w2, hw2, hbw, hlt2, hbx⟩ := box_new w a (.slice sa sn sc)
  have HSa := Lib.hid (fun (W : World) (h : Below w.heap.size w W) => by
    have := size_any 100 (by omega) a W R (laid_low ha h)
    rw [nodeAgg_v hv0] at this
    exact this)
  have HFo := Lib.hid (fun (W : World) (h : Below w.heap.size w W) (hz : szT (erase a) ≤ 1000000) => by
    have := formed_ref 1000000 (Nat.le_refl _) a W R hz (laid_low ha h)
    rw [nodeAgg_v hv0] at this
    exact this)
  have HTx := Lib.hid (fun (W : World) (h : Below w.heap.size w W) (hz : szT (erase a) ≤ 10000) (hok : okT (erase a) = true) => by
    have := text_any a W R (laid_low ha h) hok hc hz (fun n W' hn hb' => hF n W' hn (below_hop h hb'))
    rw [nodeAgg_v hv0] at this
    exact this)
  have HTn := Lib.hid (fun (W : World) (h : Below w.heap.size w W) (hz : szT (erase a) ≤ 10000) (hok : okT (erase a) = false) => by
    have := text_not a W R (laid_low ha h) hok hz
    rw [nodeAgg_v hv0] at this
    exact this)
  have HTr := Lib.hid (fun (W : World) (h : Below w.heap.size w W) (hz : szT (erase a) ≤ 1000) (hok : okT (erase a) = true) => by
    have := textR_any 1000 (Nat.le_refl _) a W R hz (laid_low ha h) hok hc
    rw [nodeAgg_v hv0] at this
    exact this)
  have HBX := Lib.hid hbx
  have HBW := Lib.hid (And.intro hbw hlt2)
  rw [nodeAgg_v hv0]
  clear hbx ha hc hF hv0 hsn hlt2
  go_enter Tryd.func3, Tryd.ntmps3
  go_wp2_with fail
  clear hw2 hbw
  go_at_call 7
  refine (awake3_any _).mono ?_
  rintro e w3 ⟨rfl, hb3⟩
  obtain ⟨x0, x1, x2, x3, x4, x5, x6, x7⟩ := HBX.out w3 hb3
  have HB3 := Lib.hid hb3
  clear hb3
  go_wp2_with fail
  go_at_call 8
  refine (HSa.out _ (below_hop HBW.out.1 HB3.out)).mono ?_
  rintro e w4 ⟨rfl, hb4⟩
  have HB4 := Lib.hid (below_hop HB3.out hb4)
  clear hb4 x0 x1 x2 x3 x4 x5 x6 x7
  by_cases hA : szT (erase a) ≤ 100
  · have hA2 : min (szT (erase a)) (100 + 1) = szT (erase a) := by omega
    rw [hA2]
    have g1 : ¬ (100 : Int) < ((szT (erase a) : Nat) : Int) := by omega
    obtain ⟨x0, x1, x2, x3, x4, x5, x6, x7⟩ := HBX.out w4 HB4.out
    have HA := Lib.hid hA
    clear hA hA2
    go_wp2_with fail
    go_at_call 9
    refine (HFo.out _ (below_hop HBW.out.1 HB4.out) (by have := HA.out; omega)).mono ?_
    rintro e w5 ⟨rfl, hb5⟩
    have HB5 := Lib.hid (below_hop HB4.out hb5)
    clear hb5 x0 x1 x2 x3 x4 x5 x6 x7
    obtain ⟨x0, x1, x2, x3, x4, x5, x6, x7⟩ := HBX.out w5 HB5.out
    cases hok : okT (erase a) with
    | true =>
      have HK := Lib.hid hok
      clear hok
      go_wp2_with fail
      go_region_with (first
        | (go_at_call 10; refine (HTx.out _ (by first | exact below_hop HBW.out.1 (below_hop HB5.out (Below.refl _ w5).drew) | exact below_hop HBW.out.1 HB6.out) (by have := HA.out; omega) HK.out).mono ?_; rintro e w6 ⟨s, hs, rfl, hb6⟩; have HS := Lib.hid hs; have HB6 := Lib.hid (below_hop HB5.out (below_hop (Below.refl _ w5).drew hb6)); clear hs hb6 x0 x1 x2 x3 x4 x5 x6 x7; obtain ⟨x0, x1, x2, x3, x4, x5, x6, x7⟩ := HBX.out w6 HB6.out)
        | (go_at_call 11; refine (HTr.out _ (by first | exact below_hop HBW.out.1 (below_hop HB5.out (Below.refl _ w5).drew) | exact below_hop HBW.out.1 HB6.out) (by have := HA.out; omega) HK.out).mono ?_; rintro e w7 ⟨s2, hs2, rfl, hb7⟩; obtain rfl : s2 = s := txt_inj (hs2.trans HS.out.symm); have HB7 := Lib.hid (below_hop HB6.out hb7); clear hs2 hb7 x0 x1 x2 x3 x4 x5 x6 x7))
      all_goals
        go_wp2_with fail
        go_ret
        exact ⟨rfl, below_hop HBW.out.1 HB7.out⟩
    | false =>
      have HK := Lib.hid hok
      clear hok
      go_wp2_with fail
      go_at_call 10
      refine (HTn.out _ (below_hop HBW.out.1 HB5.out) (by have := HA.out; omega) HK.out).mono ?_
      rintro e w6 ⟨s, hs, rfl, hb6⟩
      obtain rfl : s = { data := #[] } := txt_inj (hs.trans rfl)
      go_wp2_with fail
      go_ret
      exact ⟨rfl, below_hop (below_hop HBW.out.1 HB5.out) hb6⟩
  · have hA2 : min (szT (erase a)) (100 + 1) = 101 := by omega
    rw [hA2]
    clear hA hA2
    go_wp2_with fail
    go_at_call 7
    refine (awake3_any _).mono ?_
    rintro e w5 ⟨rfl, hb5⟩
    go_wp2_with fail
    go_ret
    exact ⟨rfl, below_hop (below_hop HBW.out.1 HB4.out) hb5⟩

end Go.Proofs.YtpibkalbnjgpaaaDoor

/- Of every tree the statement ShowTells returns true, and it reads afterwards as before; the card: what its row lists is tied to the program's text.
   No condition. -/
namespace Go.Proofs.YtpibkalbnjgpaaaDoor
open Go.ChangeShapes Go.WideShapes Go.ChangeAt Go.RowKit

theorem showTellsOwn : ownKnob Tryd.prog.godebug = none := by kernel_rfl
theorem showTellsLaidOut : laidOutB Tryd.prog = true := by kernel_rfl
theorem showTellsAgg (t : V) : nodeAgg t = .agg (ndc t).toArray := rfl

/-- The door's own heap meets the condition. -/
theorem showTellsDoor (os : Os) (args : Array Value) : laidMetH Tryd.prog Rows.showTellsRow.laid ((World.doorLaid Tryd.prog 400 os).forCall (fun _ _ => 0) ⟨#[], args, []⟩).memory :=
  laidMetH_of_parts3 (fuel := 8) (laidMet_of_run' 8 (by kernel_rfl) (by kernel_rfl)) (by kernel_rfl) (by kernel_rfl)

set_option maxRecDepth 100000 in
theorem showTells_lifted (os : Os) (started : os.Started) (H : Type) (enc : TypeId × Value → H) :
    ReturnsInHanded {} Tryd.checked os 3 .any (fun w args => (Rows.showTellsSpec.pre enc Tryd.prog Tryd.f3 Rows.showTellsRow.domain false w args ∧ laidMetH Tryd.prog Rows.showTellsRow.laid w) ∧ sizedMet enc Tryd.prog Tryd.f3 (OpenSpec.ofChange Rows.showTellsSpec) false w args)
      (Rows.showTellsSpec.post enc Tryd.prog Tryd.f3 false true false false) := by
  refine returnsInHanded_of_change_and (C := Tryd.checked) (X := fun w _ => laidMetH Tryd.prog Rows.showTellsRow.laid w) (fun _ _ _ hh h => h.of_heap hh) showTellsOwn started (by kernel_rfl) Tryd.func3
    (ChangeSpec.witness_shaped (enc := enc) (C := Tryd.checked) (os := os) (X := fun w _ => laidMetH Tryd.prog Rows.showTellsRow.laid w) false (World.doorLaid Tryd.prog 400 os) #[.agg #[.int .i64 0, .int .u64 0, .int .u64 0, .int .u64 0, .int .u64 0, .slice none 0 0, .int .i64 0, .int .i64 0]] 8 rfl (World.shaped_of_RefB (by kernel_rfl) (by kernel_rfl)) (by kernel_rfl) (by kernel_rfl) (by kernel_rfl) (showTellsDoor os _)) ?_
  intro W base args ds gs before hval0 hW _ _ hLaid _
  have hval : ∀ (j : Nat) t v, Tryd.f3.params[j]? = some t → args[j]? = some v → Value.okWide Tryd.prog W .any base t v := hval0
  have hW' := hW
  have hF : Fmt W := fmt_laid hLaid
  obtain ⟨p, q, hA0, hV, rfl, hfz, hnd⟩ := hW
  have hA : DataW.TrodAll enc Tryd.prog W 0 (fun _ => true) true Tryd.f3.params.toList args.toList ds p := hA0
  rw [Tryd.params3] at hA hval
  obtain ⟨v0, vs0, d0, ds0, p0, q0, hargs, rfl, rfl, h0, r0⟩ := trodAll_cons hA
  obtain ⟨rfl, rfl, rfl⟩ := trodAll_nil r0
  obtain rfl : args = #[v0] := by cases args; simp_all
  obtain ⟨rfl, rfl⟩ := trodVars_none hV
  have k0 := h0
  have lt0 : ∀ x ∈ p0, x.block < W.heap.size := by obtain ⟨m, hm⟩ := k0; exact DataW.trod_lt m _ _ _ hm
  obtain ⟨t0, rfl, l0, g0⟩ := open_tree (hval 0 27 v0 rfl rfl) h0
  clear hA0 hval0
  rw [← showTellsAgg] at *
  refine (tells_walk t0 W _ l0 (cl_good g0) hF).mono fun e W' ⟨he, bel⟩ => ?_
  subst he
  exact ⟨_, rfl, _, _, _, [], _, [], hW', trodAll_mk1 (shut_bool Tryd.underlying4 _), (trodAll_cons_mk (Below.trod showTellsLaidOut (by kernel_rfl) (of_decide_eq_true (by kernel_rfl)) k0 bel lt0) trodAll_mk0), rfl, bel.frame _, fun h => by cases h⟩

theorem showTells_holds : Rows.ShowTellsSaid :=
  OpenClaim.holds_of_wide 3 Tryd.f3 rfl rfl rfl rfl rfl rfl rfl ⟨rfl, rfl, rfl, rfl, rfl⟩ rfl rfl rfl rfl rfl (by kernel_rfl) Tryd.func3 (by kernel_rfl)
    (of_decide_eq_true (by kernel_rfl)) (by unfold Func.isWrapper; rw [if_neg (of_decide_eq_false (by kernel_rfl))]; exact ⟨rfl, rfl⟩)
    (fun os started H enc _ => showTells_lifted os started H enc)

theorem showTells_card_holds : Rows.ShowTellsCardSaid :=
  Claim7.holds_tied_plain_at .later [] [.data, .data, .data] true _ false
    showTells_holds (fun _ h => by cases h) (by kernel_rfl) (fun _ h => by cases h) showTells_row_tie rfl ⟨rfl, rfl⟩ (by kernel_rfl) rfl
    (fun f fn hf hfn => by
      obtain rfl : f = 3 := Option.some.inj ((show Tryd.prog.funcNamed "ostinato/ostinatolaw03.ShowTells" = some 3 by kernel_rfl).symm.trans hf) |>.symm
      obtain rfl : fn = Tryd.f3 := (Option.some.inj (Tryd.func3.symm.trans hfn)).symm
      exact ⟨by kernel_rfl, fun j t ht => by
        rw [Tryd.params3] at ht
        have hm : t ∈ [27] := by simpa using Array.mem_of_getElem? ht
        have hall : ([27].all fun u => !Tryd.prog.wantsStandIn u) = true := by kernel_rfl
        exact (show Tryd.prog.wantsStandIn t = false by simpa using List.all_eq_true.1 hall t hm)⟩)
    (by kernel_rfl)
#print axioms showTells_card_holds

end Go.Proofs.YtpibkalbnjgpaaaDoor
