/- What the document's Text of words in runs comes to: a contract.
   Conditions: the word lies in memory; each run is at least once; it has at most a thousand runs. -/
import Derived.Test.YtgdblnppeeknpaaDoorRnT
namespace Go.Proofs.YtgdblnppeeknpaaDoor
open Go.RowKit

theorem txF_take {l : List Rn} {i : Nat} {q : Rn} (h : l[i]? = some q) : txF (l.take (i + 1)) = txF (l.take i) ++ (if 0 < i then [32] else []) ++ rnT q := by
  have hi := (List.getElem?_eq_some_iff.1 h).1
  rw [List.take_add_one, h]
  show txF (l.take i ++ [q]) = _
  rw [txF_snoc]
  by_cases h0 : 0 < i
  · rw [if_pos h0, if_neg]
    intro e
    have h1 : (l.take i).length = i := by rw [List.length_take]; omega
    rw [e] at h1
    have h2 : i = 0 := h1.symm
    omega
  · rw [if_neg h0, if_pos]
    rw [show i = 0 by omega]; rfl
theorem txF_len {l : List Rn} (h : ∀ q ∈ l, q.2 < 9223372036854775808) : ∀ i, i ≤ l.length → (txF (l.take i)).length ≤ 23 * i
  | 0, _ => by simp [txF]
  | i + 1, hi => by
    have hq : l[i]? = some l[i] := List.getElem?_eq_getElem (by omega)
    rw [txF_take hq, List.length_append, List.length_append]
    have h1 := txF_len h i (by omega)
    have h2 := rnT_len (h _ (List.getElem_mem (by omega : i < l.length)))
    split <;> simp <;> omega
theorem rnT_one (b m : Nat) (h : m = 1) : rnT (b, (m : Int)) = [hx (b / 16), hx (b % 16)] := by
  subst h
  rfl
theorem rnT_many (b m : Nat) (h : ¬ m = 1) : rnT (b, (m : Int)) = [hx (b / 16), hx (b % 16)] ++ 42 :: decs m := by
  unfold rnT
  rw [if_neg (show ¬ ((m : Int)) = 1 by omega)]
  rfl
set_option maxHeartbeats 8000000 in
set_option maxRecDepth 100000 in
theorem textR12_any (w : World) (G : Nat → Prop) (v : Value) (l : List Rn) (h : RunsR w G v l) (hq : ∀ q ∈ l, q.1 < 256 ∧ 1 ≤ q.2 ∧ q.2 < 9223372036854775808) (hL : l.length ≤ 1000) :
    Calls Tryd.prog 15 #[v] w (Wrote (txF l) w) := by
  obtain ⟨A, c, rfl, hrow⟩ := h
  have HR := Lib.hid (And.intro hrow hq)
  obtain ⟨ln, hln⟩ : ∃ n, n = l.length := ⟨_, rfl⟩
  have HLN := Lib.hid hln
  rw [← hln] at hL ⊢
  clear hrow hln hq
  go_enter Tryd.func15, Tryd.ntmps15
  go_wp2_with fail
  go_loopw [3, 5] (fun sv x wr => ∃ (i : Nat) (s : ByteArray), x = .int .i64 i ∧ sv = .string s ∧ i ≤ l.length ∧ txt s = txF (l.take i) ∧ Below w.heap.size w wr) (fun _ x _ => match x with | .int _ z => l.length - z.toNat | _ => 0)
  case atStart => exact ⟨0, .empty, rfl, rfl, by omega, rfl, Below.refl _ _⟩
  case round =>
    obtain ⟨i, s, rfl, rfl, hi, hs, hb⟩ := hrel
    have HB := Lib.hid (And.intro hb hs)
    by_cases hlt : i < ln
    · have hlt' : i < l.length := by have := HLN.out; omega
      obtain ⟨⟨b, t⟩, hx⟩ : ∃ x, l[i]? = some x := ⟨_, List.getElem?_eq_getElem hlt'⟩
      obtain ⟨hb8, ht1, ht63⟩ := HR.out.2 (b, t) (List.mem_of_getElem? hx)
      have hb8' : b < 256 := hb8
      have hlen : s.size ≤ 23 * i := by
        have h1 := txF_len (l := l) (fun q h => (HR.out.2 q h).2.2) i (by omega)
        rw [← hs, txt_length] at h1
        exact h1
      obtain ⟨m, rfl⟩ : ∃ m : Nat, t = (m : Int) := ⟨t.toNat, by have : 1 ≤ t := ht1; omega⟩
      have hm : 1 ≤ m ∧ m < 9223372036854775808 := by
        have h1 : 1 ≤ (m : Int) := ht1
        have h2 : (m : Int) < 9223372036854775808 := ht63
        omega
      obtain ⟨g, o, rfl, _, hg, c0, c1⟩ := HR.out.1 i b m hx
      rw [← hb.cell (p := ⟨g, o + i * 2, none⟩) hg] at c0
      rw [← hb.cell (p := ⟨g, o + i * 2 + 1, none⟩) hg] at c1
      have hgr : g < wr.heap.size := by have := hb.size; omega
      have s1 : (0 : Int) ≤ (i : Int) := by omega
      have s2 : (i : Int) < (ln : Int) := by omega
      have s3 : ((i : Int)).toNat = i := by omega
      have wk : IntKind.i64.wrap ((i : Int) + 1) = (i : Int) + 1 := by rw [IntKind.wrap_i64]; omega
      have wb : IntKind.i64.wrap (b : Int) = (b : Int) := by rw [IntKind.wrap_i64]; omega
      have b0 : (0 : Int) ≤ (b : Int) := by omega
      have n1 : (0 : Int) ≤ (b : Int) / 16 := by omega
      have n2 : (b : Int) / 16 < 16 := by omega
      have n3 : (0 : Int) ≤ (b : Int) % 16 := by omega
      have n4 : (b : Int) % 16 < 16 := by omega
      have HX := Lib.hid (And.intro hx (And.intro hlt' (And.intro hb8' (And.intro hm (And.intro c1 (txF_take hx))))))
      clear hx hb hs hi hb8 ht1 ht63 hm
      by_cases g0 : 0 < i
      · have g1 : (0 : Int) < (i : Int) := by omega
        go_upto_region 8 with fail
        obtain ⟨s4, hs4⟩ : ∃ x, x = s ++ { data := #[32] } := ⟨_, rfl⟩
        rw [← hs4]
        have hz4 : s4.size ≤ 23 * i + 1 := by rw [hs4]; rw [ByteArray.size_append]; show s.size + 1 ≤ _; omega
        have HT := Lib.hid (show txt s4 = txF (l.take i) ++ (if 0 < i then [32] else []) by rw [hs4, txt_append, HB.out.2, if_pos g0]; rfl)
        clear hs4 hlen
        go_upto_region 9 with fail
        go_wp2_with fail
        go_quiet (fail)
        obtain ⟨w6, hw6⟩ : ∃ w6, wr.drewN nq = w6 := ⟨_, rfl⟩
        rw [hw6]
        have hb6 : Below wr.heap.size wr w6 := hw6 ▸ below_drewN (Below.refl _ wr) nq
        have c6 := (hb6.cell (p := ⟨g, o + i * 2 + 1, none⟩) hgr).trans HX.out.2.2.2.2.1
        have HW6 := Lib.hid (bhop HB.out.1 hb6)
        obtain ⟨s5, hs5⟩ : ∃ x, x = s4 ++ (({ data := #[48, 49, 50, 51, 52, 53, 54, 55, 56, 57, 97, 98, 99, 100, 101, 102] } : ByteArray).extract (b / 16) (b / 16 + 1) ++ ({ data := #[48, 49, 50, 51, 52, 53, 54, 55, 56, 57, 97, 98, 99, 100, 101, 102] } : ByteArray).extract (b % 16) (b % 16 + 1)) := ⟨_, rfl⟩
        rw [← hs5]
        have ht5 : txt s5 = txt s4 ++ [hx (b / 16), hx (b % 16)] := by
          have h1 : txt (({ data := #[48, 49, 50, 51, 52, 53, 54, 55, 56, 57, 97, 98, 99, 100, 101, 102] } : ByteArray).extract (b / 16) (b / 16 + 1)) = _ := txt_digit (k := b / 16) (by have := HX.out.2.2.1; omega)
          have h2 : txt (({ data := #[48, 49, 50, 51, 52, 53, 54, 55, 56, 57, 97, 98, 99, 100, 101, 102] } : ByteArray).extract (b % 16) (b % 16 + 1)) = _ := txt_digit (k := b % 16) (by omega)
          rw [hs5, txt_append, txt_append, h1, h2]
          rfl
        have hz5 : s5.size ≤ 23 * i + 3 := by
          have h1 := congrArg List.length ht5
          rw [List.length_append, txt_length, txt_length] at h1
          simp at h1
          omega
        have H5 := Lib.hid ht5
        clear hw6 hb6 hs5 ht5 c0 c1
        by_cases g5 : m = 1
        · have g6 : ((m : Int) != 1) = false := by simp [g5]
          have HF := Lib.hid (show txt s5 = txF (l.take (i + 1)) by
            rw [H5.out, HT.out, HX.out.2.2.2.2.2, rnT_one b m g5])
          clear g5
          go_wp2_with fail
          go_roundw
          case rel => exact ⟨i + 1, s5, by push_cast; rfl, rfl, HX.out.2.1, HF.out, HW6.out⟩
          case measure => have := HX.out.2.1; simp; omega
        · have g6 : ((m : Int) != 1) = true := by simp; omega
          have HG := Lib.hid g5
          clear g5
          go_wp2_with fail
          go_at_call 22
          refine (digitsR_any m HX.out.2.2.2.1.2 w6).mono ?_
          rintro e w7 ⟨sd, hsd, rfl, hb7⟩
          have hzd : sd.size ≤ 19 := by
            have h1 := decs_len19 HX.out.2.2.2.1.2
            rw [← hsd, txt_length] at h1
            exact h1
          have HF := Lib.hid (show txt (s5 ++ (({ data := #[42] } : ByteArray) ++ sd)) = txF (l.take (i + 1)) ∧ Below w.heap.size w w7 by
            refine ⟨?_, bhop HW6.out hb7⟩
            rw [txt_append, txt_append, hsd, H5.out, HT.out, HX.out.2.2.2.2.2, rnT_many b m HG.out, List.append_assoc, List.append_assoc, List.append_assoc]
            rfl)
          clear hb7 hsd
          go_wp2_with fail
          go_roundw
          case rel => exact ⟨i + 1, _, by push_cast; rfl, rfl, HX.out.2.1, HF.out.1, HF.out.2⟩
          case measure => have := HX.out.2.1; simp; omega
      · have g1 : ¬ (0 : Int) < (i : Int) := by omega
        go_upto_region 8 with fail
        obtain ⟨s4, hs4⟩ : ∃ x, x = s := ⟨_, rfl⟩
        rw [← hs4]
        have hz4 : s4.size ≤ 23 * i + 1 := by rw [hs4]; omega
        have HT := Lib.hid (show txt s4 = txF (l.take i) ++ (if 0 < i then [32] else []) by rw [hs4, HB.out.2, if_neg g0, List.append_nil])
        clear hs4 hlen
        go_upto_region 9 with fail
        go_wp2_with fail
        go_quiet (fail)
        obtain ⟨w6, hw6⟩ : ∃ w6, wr.drewN nq = w6 := ⟨_, rfl⟩
        rw [hw6]
        have hb6 : Below wr.heap.size wr w6 := hw6 ▸ below_drewN (Below.refl _ wr) nq
        have c6 := (hb6.cell (p := ⟨g, o + i * 2 + 1, none⟩) hgr).trans HX.out.2.2.2.2.1
        have HW6 := Lib.hid (bhop HB.out.1 hb6)
        obtain ⟨s5, hs5⟩ : ∃ x, x = s4 ++ (({ data := #[48, 49, 50, 51, 52, 53, 54, 55, 56, 57, 97, 98, 99, 100, 101, 102] } : ByteArray).extract (b / 16) (b / 16 + 1) ++ ({ data := #[48, 49, 50, 51, 52, 53, 54, 55, 56, 57, 97, 98, 99, 100, 101, 102] } : ByteArray).extract (b % 16) (b % 16 + 1)) := ⟨_, rfl⟩
        rw [← hs5]
        have ht5 : txt s5 = txt s4 ++ [hx (b / 16), hx (b % 16)] := by
          have h1 : txt (({ data := #[48, 49, 50, 51, 52, 53, 54, 55, 56, 57, 97, 98, 99, 100, 101, 102] } : ByteArray).extract (b / 16) (b / 16 + 1)) = _ := txt_digit (k := b / 16) (by have := HX.out.2.2.1; omega)
          have h2 : txt (({ data := #[48, 49, 50, 51, 52, 53, 54, 55, 56, 57, 97, 98, 99, 100, 101, 102] } : ByteArray).extract (b % 16) (b % 16 + 1)) = _ := txt_digit (k := b % 16) (by omega)
          rw [hs5, txt_append, txt_append, h1, h2]
          rfl
        have hz5 : s5.size ≤ 23 * i + 3 := by
          have h1 := congrArg List.length ht5
          rw [List.length_append, txt_length, txt_length] at h1
          simp at h1
          omega
        have H5 := Lib.hid ht5
        clear hw6 hb6 hs5 ht5 c0 c1
        by_cases g5 : m = 1
        · have g6 : ((m : Int) != 1) = false := by simp [g5]
          have HF := Lib.hid (show txt s5 = txF (l.take (i + 1)) by
            rw [H5.out, HT.out, HX.out.2.2.2.2.2, rnT_one b m g5])
          clear g5
          go_wp2_with fail
          go_roundw
          case rel => exact ⟨i + 1, s5, by push_cast; rfl, rfl, HX.out.2.1, HF.out, HW6.out⟩
          case measure => have := HX.out.2.1; simp; omega
        · have g6 : ((m : Int) != 1) = true := by simp; omega
          have HG := Lib.hid g5
          clear g5
          go_wp2_with fail
          go_at_call 22
          refine (digitsR_any m HX.out.2.2.2.1.2 w6).mono ?_
          rintro e w7 ⟨sd, hsd, rfl, hb7⟩
          have hzd : sd.size ≤ 19 := by
            have h1 := decs_len19 HX.out.2.2.2.1.2
            rw [← hsd, txt_length] at h1
            exact h1
          have HF := Lib.hid (show txt (s5 ++ (({ data := #[42] } : ByteArray) ++ sd)) = txF (l.take (i + 1)) ∧ Below w.heap.size w w7 by
            refine ⟨?_, bhop HW6.out hb7⟩
            rw [txt_append, txt_append, hsd, H5.out, HT.out, HX.out.2.2.2.2.2, rnT_many b m HG.out, List.append_assoc, List.append_assoc, List.append_assoc]
            rfl)
          clear hb7 hsd
          go_wp2_with fail
          go_roundw
          case rel => exact ⟨i + 1, _, by push_cast; rfl, rfl, HX.out.2.1, HF.out.1, HF.out.2⟩
          case measure => have := HX.out.2.1; simp; omega
    · have s2 : ¬ (i : Int) < (ln : Int) := by omega
      have hil : i = l.length := by have := HLN.out; omega
      rw [hil, List.take_length] at hs
      have HS := Lib.hid hs
      clear hs hi hb hil
      go_wp2_with fail
      go_ret
      exact ⟨_, HS.out, rfl, HB.out.1⟩

end Go.Proofs.YtgdblnppeeknpaaDoor
