/- The document's own reader: a byte of an item, a number: contracts.
   Conditions: the reader's cells are as 'Rr' says, and the text has at most 1000 bytes. -/
import Derived.Test.YtbodgadbhldbmaaRdrC
import Derived.Test.YtbodgadbhldbmaaLocal
namespace Go.Proofs.Ytbodgadbhldbmaa
open Go.RowKit

set_option maxHeartbeats 2000000 in
set_option maxRecDepth 100000 in
theorem itemR_any (w : World) (rb k : Nat) (r : List Nat) (s : ByteArray) (pl : Int) (h : Rr w rb s k pl 0) (ht : Tl s k r) (hs : s.size ≤ 1000) :
    Calls Try.prog 58 #[.pointer (some ⟨rb, 0, none⟩)] w (Byt (pplain itemMarks r) s w rb pl) := by
  have HT := Lib.hid (And.intro h (And.intro ht hs))
  by_cases h92 : r.head? = some 92
  · obtain ⟨r1, rfl⟩ : ∃ r1, r = 92 :: r1 := by cases r with
      | nil => simp at h92
      | cons b r => simp at h92; subst h92; exact ⟨r, rfl⟩
    have hp : pplain itemMarks (92 :: r1) = pesc r1 := rfl
    rw [hp]
    clear h ht hs h92 hp
    go_enter Try.func58, Try.ntmps58
    go_wp2_with fail
    go_at_call 34
    refine (takeR_yes w rb k 92 r1 s pl HT.out.1 HT.out.2.1 HT.out.2.2 (by decide)).mono ?_
    rintro x w1 ⟨rfl, h1⟩
    have H1 := Lib.hid h1
    clear h1
    go_wp2_with fail
    go_at_call 51
    refine (escR_any w1 rb (k + 1) r1 s pl H1.out.1 HT.out.2.1.tail HT.out.2.2).mono ?_
    intro x w2 hB
    cases ho : pesc r1 with
    | ok a r2 =>
      rw [ho] at hB
      obtain ⟨ha, k2, ht2, rfl, h2⟩ := hB
      have H2 := Lib.hid (And.intro (H1.out.trans h2) (And.intro ha ht2))
      have HO := Lib.hid ho
      clear h2 ha ht2 ho
      go_wp2_with fail
      go_ret
      rw [HO.out]
      exact ⟨H2.out.2.1, k2, H2.out.2.2, rfl, H2.out.1⟩
    | er r2 c =>
      rw [ho] at hB
      obtain ⟨v, k2, p, hv, ht2, rfl, h2⟩ := hB
      have H2 := Lib.hid (And.intro (H1.out.trans h2) (And.intro hv ht2))
      have HO := Lib.hid ho
      clear h2 hv ht2 ho
      go_wp2_with fail
      go_ret
      rw [HO.out]
      exact ⟨v, k2, p, H2.out.2.1, H2.out.2.2, rfl, H2.out.1⟩
  · have HN := Lib.hid h92
    clear h ht hs h92
    go_enter Try.func58, Try.ntmps58
    go_wp2_with fail
    go_at_call 34
    refine (takeR_not w rb k 92 _ s pl HT.out.1 HT.out.2.1 HN.out (by decide)).mono ?_
    rintro x w1 ⟨rfl, h1⟩
    have H1 := Lib.hid h1
    clear h1
    go_wp2_with fail
    go_at_call 45
    cases r with
    | nil =>
      refine (nextR_end w1 rb k s pl H1.out.1 HT.out.2.1).mono ?_
      rintro x w4 ⟨rfl, h4⟩
      have c1 := h4.1.pos
      have c2 := h4.1.lt
      have H4 := Lib.hid (H1.out.trans h4)
      clear h4
      go_wp2_with fail
      go_at_call 25
      refine (failR_ok w4 rb k s pl _ 2 H4.out.1).mono ?_
      rintro x w5 ⟨rfl, h5⟩
      have H5 := Lib.hid (H4.out.trans h5)
      clear h5
      go_wp2_with fail
      go_ret
      exact ⟨0, k, k, by decide, HT.out.2.1, rfl, H5.out⟩
    | cons b r =>
      refine (nextR_in w1 rb k b r s pl H1.out.1 HT.out.2.1).mono ?_
      rintro x w4 ⟨rfl, h4⟩
      have c1 := h4.1.pos
      have c2 := h4.1.lt
      have c3 := h4.1.frz 1
      have H4 := Lib.hid (H1.out.trans h4)
      have hb := HT.out.2.1.byte
      have b1 : (0 : Int) ≤ (b : Int) := by omega
      have b2 : (b : Int) ≤ 255 := by omega
      have b3 : ¬ (b : Int) < 0 := by omega
      have hsz := HT.out.2.2
      have hlt := HT.out.2.1.lt
      have b4 : (k : Int) < 1000 := by omega
      have HBT := Lib.hid hb
      clear h4 hb hsz hlt
      go_wp2_with fail
      go_at_call 48
      refine (in_any _ b w4 (by decide)).mono ?_
      rintro x w5 ⟨rfl, rfl⟩
      rw [txt_item]
      cases hm : [93, 92, 45, 94].contains b with
      | false =>
        have HB : Hid (pplain itemMarks (b :: r) = .ok b r) := Lib.hid (by
          have h1 := HN.out
          simp at h1
          have h2 : ¬ b ∈ itemMarks := fun h => by
            have : [93, 92, 45, 94].contains b = true := List.contains_iff_mem.2 (by unfold itemMarks at h; simp at h ⊢; omega)
            rw [this] at hm; cases hm
          simp only [pplain]
          rw [if_neg h2, if_neg h1])
        clear hm
        go_wp2_with fail
        go_ret
        rw [HB.out]
        exact ⟨HBT.out, k + 1, HT.out.2.1.tail, rfl, H4.out.set1 (by simp)⟩
      | true =>
        have HB : Hid (pplain itemMarks (b :: r) = .er (b :: r) 2) := Lib.hid (by
          have h1 := HN.out
          simp at h1
          have h2 : b ∈ itemMarks := by
            have := List.contains_iff_mem.1 hm
            unfold itemMarks
            simp at this ⊢
            omega
          simp only [pplain]
          rw [if_pos h2])
        clear hm
        go_wp2_with fail
        go_at_call 25
        refine (failR_ok w4 rb k s pl _ 2 H4.out.1).mono ?_
        rintro x w6 ⟨rfl, h6⟩
        have H6 := Lib.hid (H4.out.trans h6)
        clear h6
        go_wp2_with fail
        go_ret
        rw [HB.out]
        exact ⟨0, k, k, by decide, HT.out.2.1, rfl, H6.out⟩

/-- What a call that reads a number comes to. -/
def Nmb (o : Out Nat) (s : ByteArray) (w : World) (rb : Nat) (pl : Int) (x : Ending) (w' : World) : Prop := match o with
  | .ok a r => a ≤ 2147483647 ∧ ∃ k, Tl s k r ∧ x = .returned (.int .i64 a) ∧ Sf w rb s k pl 0 w'
  | .er r c => (c = 2 ∨ c = 3) ∧ ∃ v k p : Nat, v ≤ 30000000000 ∧ Tl s p r ∧ x = .returned (.int .i64 v) ∧ Sf w rb s k p c w'
/-- How far a number is read: n stands for what the document's reader has, d for what the plain function has. -/
def NumRel (n d : Nat) : Prop := (n ≤ 2147483647 ∧ d = n) ∨ (2147483647 < n ∧ n ≤ 30000000000 ∧ d = 2147483648)
theorem numRel_step {n d b : Nat} (h : NumRel n d) (hb : 48 ≤ b ∧ b ≤ 57) : NumRel (if n ≤ 2147483647 then 10 * n + (b - 48) else n) (min (10 * d + (b - 48)) 2147483648) := by
  unfold NumRel at h ⊢
  split
  · rename_i hn
    rcases h with ⟨_, rfl⟩ | ⟨h1, _⟩
    · by_cases h2 : 10 * d + (b - 48) ≤ 2147483647
      · exact .inl ⟨h2, by omega⟩
      · exact .inr ⟨by omega, by omega, by omega⟩
    · omega
  · rename_i hn
    rcases h with ⟨h1, _⟩ | ⟨h1, h2, rfl⟩
    · omega
    · exact .inr ⟨h1, h2, by omega⟩

theorem num_end {r r' : List Nat} {n d : Nat} (hr : NumRel n d) (hd : digs r 0 = digs r' d) (hno : ∀ b r2, r' = b :: r2 → ¬ (48 ≤ b ∧ b ≤ 57)) :
    (r'.length = r.length → r' = r → pnumber r = .er r 2 ∧ n = 0) ∧ (r'.length ≠ r.length → 2147483647 < n → pnumber r = .er r 3) ∧ (r'.length ≠ r.length → n ≤ 2147483647 → pnumber r = .ok n r') := by
  have he : ∀ m, digs r' m = (m, r') := fun m => by
    cases r' with
    | nil => exact digs_nil m
    | cons b r2 => exact digs_not r2 m (hno b r2 rfl)
  rw [he d] at hd
  unfold NumRel at hr
  refine ⟨fun hl e => ?_, fun hl hn => ?_, fun hl hn => ?_⟩
  · subst e
    rw [he 0] at hd
    have : d = 0 := by injection hd with h; exact h.symm
    refine ⟨?_, by omega⟩
    unfold pnumber
    rw [he 0, if_pos rfl]
  · unfold pnumber
    rw [hd, if_neg hl, if_pos (by simp only; omega)]
  · have : d = n := by omega
    subst this
    exact pnumber_mk hd hl hn

set_option maxHeartbeats 4000000 in
set_option maxRecDepth 100000 in
theorem numberR_any (w : World) (rb k : Nat) (r : List Nat) (s : ByteArray) (pl : Int) (h : Rr w rb s k pl 0) (ht : Tl s k r) (hs : s.size ≤ 1000) :
    Calls Try.prog 44 #[.pointer (some ⟨rb, 0, none⟩)] w (Nmb (pnumber r) s w rb pl) := by
  have HT := Lib.hid (And.intro ht hs)
  have HS := Lib.hid (Sf.refl h)
  have c1 := h.pos
  have c2 := h.lt
  have hk1 : (k : Int) ≤ 1000 := by have := ht.1; omega
  clear h ht hs
  go_enter Try.func44, Try.ntmps44
  go_wp2_with fail
  clear c1 c2
  go_loopw [4] (fun nn wr => ∃ (n d k' : Nat) (r' : List Nat), nn = .int .i64 n ∧ NumRel n d ∧ Sf w rb s k' pl 0 wr ∧ Tl s k' r' ∧ digs r 0 = digs r' d) (fun _ wr => match wr.cell? ⟨rb, 1, none⟩ with | some (.int _ z) => s.size - z.toNat | _ => 0)
  case atStart => exact ⟨0, 0, k, r, rfl, .inl ⟨by omega, rfl⟩, HS.out, HT.out.1, rfl⟩
  case round =>
    obtain ⟨n, d, k', r', rfl, hrel2, hS, htl, hd⟩ := hrel
    have hlen : k + r.length = k' + r'.length := by have := HT.out.1.1; have := htl.1; omega
    have hn0 : (0 : Int) ≤ (n : Int) := by omega
    have hn1 : (n : Int) ≤ 30000000000 := by unfold NumRel at hrel2; omega
    by_cases hdig : ∃ b r2, r' = b :: r2 ∧ 48 ≤ b ∧ b ≤ 57
    · obtain ⟨b, r2, rfl, hb⟩ := hdig
      have q1 := hS.1.pos
      have hkb : (k' : Int) < 1000 := by have := htl.lt; have := HT.out.2; omega
      have hlt := htl.lt
      have b1 : (48 : Int) ≤ (b : Int) := by omega
      have b2 : (b : Int) ≤ 57 := by omega
      have HS1 := Lib.hid hS
      have HTL := Lib.hid htl
      have HR2 := Lib.hid (And.intro (numRel_step hrel2 hb) (show digs r 0 = digs r2 (min (10 * d + (b - 48)) 2147483648) by rw [hd, digs_dig r2 d hb]))
      have HLT := Lib.hid hlt
      clear hS htl hrel2 hd hlen hlt q1
      go_wp2_with fail
      go_at_call 45
      refine (nextR_in wr rb k' b r2 s pl HS1.out.1 HTL.out).mono ?_
      rintro x w3 ⟨rfl, h3⟩
      have HS3 := Lib.hid (HS1.out.trans h3)
      clear h3
      go_wp2_with fail
      go_at_call 45
      refine (nextR_in w3 rb k' b r2 s pl HS3.out.1 HTL.out).mono ?_
      rintro x w4 ⟨rfl, h4⟩
      have HS4 := Lib.hid (HS3.out.trans h4)
      have z1 := HS4.out.1.pos
      have z2 := HS4.out.1.lt
      have z3 := HS4.out.1.frz 1
      clear h4
      by_cases hle : n ≤ 2147483647
      · have g3 : (n : Int) ≤ 2147483647 := by omega
        have hval : ((if n ≤ 2147483647 then 10 * n + (b - 48) else n : Nat) : Int) = 10 * (n : Int) + ((b : Int) - 48) := by rw [if_pos hle]; omega
        have HV := Lib.hid hval
        clear hle hval z1 z2 z3 hb
        go_wp2_with fail
        go_at_call 45
        refine (nextR_in w4 rb k' b r2 s pl HS4.out.1 HTL.out).mono ?_
        rintro x w5 ⟨rfl, h5⟩
        have HS5 := Lib.hid (HS4.out.trans h5)
        have z1 := HS5.out.1.pos
        have z2 := HS5.out.1.lt
        have z3 := HS5.out.1.frz 1
        clear h5
        have HS6 := Lib.hid (HS5.out.set1 (k' := k' + 1) (v := .int .i64 ((k' : Int) + 1)) (by simp))
        have hcell := HS6.out.1.pos
        have HC6 := Lib.hid hcell
        clear hcell
        go_wp2_with fail
        go_roundw
        case rel => exact ⟨_, _, k' + 1, r2, by rw [HV.out], HR2.out.1, HS6.out, HTL.out.tail, HR2.out.2⟩
        case measure =>
          have e1 := HS1.out.1.pos
          have e2 := HC6.out
          have e3 := HLT.out
          rw [e1, e2]
          simp
          omega
      · have g3 : ¬ (n : Int) ≤ 2147483647 := by omega
        have hval : (if n ≤ 2147483647 then 10 * n + (b - 48) else n : Nat) = n := by rw [if_neg hle]
        have HV := Lib.hid hval
        have HS6 := Lib.hid (HS4.out.set1 (k' := k' + 1) (v := .int .i64 ((k' : Int) + 1)) (by simp))
        have hcell := HS6.out.1.pos
        have HC6 := Lib.hid hcell
        clear hle hval hcell hb
        go_wp2_with fail
        go_roundw
        case rel => exact ⟨_, _, k' + 1, r2, by rw [HV.out], HR2.out.1, HS6.out, HTL.out.tail, HR2.out.2⟩
        case measure =>
          have e1 := HS1.out.1.pos
          have e2 := HC6.out
          have e3 := HLT.out
          rw [e1, e2]
          simp
          omega
    · have hend := num_end hrel2 hd (fun b r2 e hb => hdig ⟨b, r2, e, hb⟩)
      have heqr : ∀ h : k' = k, r' = r := fun h => by have a := htl.2; have b := HT.out.1.2; rw [h] at a; exact a.symm.trans b
      have HTL := Lib.hid htl
      have HS1 := Lib.hid hS
      cases r' with
      | nil =>
        have HEND := Lib.hid (And.intro hend (And.intro heqr (And.intro hlen hrel2)))
        clear hS htl hd hdig hend heqr hlen hrel2
        go_wp2_with fail
        go_at_call 45
        refine (nextR_end wr rb k' s pl HS1.out.1 HTL.out).mono ?_
        rintro x w5 ⟨rfl, h5⟩
        have H5 := Lib.hid (HS1.out.trans h5)
        clear h5
        obtain ⟨hend, heqr, hlen, hrel2⟩ := HEND.out
        simp only [List.length_nil] at hlen hend
        obtain ⟨e1, e2, e3⟩ := hend
        have p1 := H5.out.1.pos
        have p2 := H5.out.1.lt
        by_cases hkk : k' = k
        · subst hkk
          obtain ⟨hp, rfl⟩ := e1 (by omega) (heqr rfl)
          have HP := Lib.hid hp
          clear e1 e2 e3 hp heqr hlen hrel2
          go_wp2_with fail
          go_at_call 25
          refine (failR_ok _ rb k' s pl k' 2 H5.out.1).mono ?_
          rintro x w6 ⟨rfl, h6⟩
          have H6 := Lib.hid (H5.out.trans h6)
          clear h6
          go_wp2_with fail
          go_ret
          rw [HP.out]
          exact ⟨.inl rfl, 0, k', k', by decide, HT.out.1, rfl, H6.out⟩
        · have g5 : ((k' : Int) == (k : Int)) = false := by rw [beq_eq_false_iff_ne]; omega
          by_cases hbig : 2147483647 < n
          · have HP := Lib.hid (e2 (by omega) hbig)
            have g6 : (2147483647 : Int) < (n : Int) := by omega
            have HV : Hid (n ≤ 30000000000) := Lib.hid (by unfold NumRel at hrel2; omega)
            clear e1 e2 e3 heqr hlen hrel2 hkk hbig
            go_wp2_with fail
            go_at_call 25
            refine (failR_ok _ rb k' s pl k 3 H5.out.1).mono ?_
            rintro x w6 ⟨rfl, h6⟩
            have H6 := Lib.hid (H5.out.trans h6)
            clear h6
            go_wp2_with fail
            go_ret
            rw [HP.out]
            exact ⟨.inr rfl, n, k', k, HV.out, HT.out.1, rfl, H6.out⟩
          · have HP := Lib.hid (e3 (by omega) (by omega))
            have g6 : ¬ (2147483647 : Int) < (n : Int) := by omega
            have HV : Hid (n ≤ 2147483647) := Lib.hid (by omega)
            clear e1 e2 e3 heqr hlen hrel2 hkk hbig
            go_wp2_with fail
            go_ret
            rw [HP.out]
            exact ⟨HV.out, k', HTL.out, rfl, H5.out⟩
      | cons b r2 =>
        have hbb := htl.byte
        by_cases hlo : 48 ≤ b
        · have hhi : 57 < b := by
            rcases Nat.lt_or_ge 57 b with h | h
            · exact h
            · exact absurd ⟨b, r2, rfl, hlo, h⟩ hdig
          have b1 : (48 : Int) ≤ (b : Int) := by omega
          have b2 : ¬ (b : Int) ≤ 57 := by omega
          have HEND := Lib.hid (And.intro hend (And.intro heqr (And.intro hlen hrel2)))
          clear hS htl hd hdig hend heqr hlen hrel2 hbb hlo hhi
          go_wp2_with fail
          go_at_call 45
          refine (nextR_in wr rb k' b r2 s pl HS1.out.1 HTL.out).mono ?_
          rintro x w4 ⟨rfl, h4⟩
          have H4 := Lib.hid (HS1.out.trans h4)
          clear h4
          go_wp2_with fail
          go_at_call 45
          refine (nextR_in w4 rb k' b r2 s pl H4.out.1 HTL.out).mono ?_
          rintro x w5 ⟨rfl, h5⟩
          have H5 := Lib.hid (H4.out.trans h5)
          clear h5
          obtain ⟨hend, heqr, hlen, hrel2⟩ := HEND.out
          simp only [List.length_cons] at hlen hend
          obtain ⟨e1, e2, e3⟩ := hend
          have p1 := H5.out.1.pos
          have p2 := H5.out.1.lt
          by_cases hkk : k' = k
          · subst hkk
            obtain ⟨hp, rfl⟩ := e1 (by omega) (heqr rfl)
            have HP := Lib.hid hp
            clear e1 e2 e3 hp heqr hlen hrel2
            go_wp2_with fail
            go_at_call 25
            refine (failR_ok _ rb k' s pl k' 2 H5.out.1).mono ?_
            rintro x w6 ⟨rfl, h6⟩
            have H6 := Lib.hid (H5.out.trans h6)
            clear h6
            go_wp2_with fail
            go_ret
            rw [HP.out]
            exact ⟨.inl rfl, 0, k', k', by decide, HT.out.1, rfl, H6.out⟩
          · have g5 : ((k' : Int) == (k : Int)) = false := by rw [beq_eq_false_iff_ne]; omega
            by_cases hbig : 2147483647 < n
            · have HP := Lib.hid (e2 (by omega) hbig)
              have g6 : (2147483647 : Int) < (n : Int) := by omega
              have HV : Hid (n ≤ 30000000000) := Lib.hid (by unfold NumRel at hrel2; omega)
              clear e1 e2 e3 heqr hlen hrel2 hkk hbig
              go_wp2_with fail
              go_at_call 25
              refine (failR_ok _ rb k' s pl k 3 H5.out.1).mono ?_
              rintro x w6 ⟨rfl, h6⟩
              have H6 := Lib.hid (H5.out.trans h6)
              clear h6
              go_wp2_with fail
              go_ret
              rw [HP.out]
              exact ⟨.inr rfl, n, k', k, HV.out, HT.out.1, rfl, H6.out⟩
            · have HP := Lib.hid (e3 (by omega) (by omega))
              have g6 : ¬ (2147483647 : Int) < (n : Int) := by omega
              have HV : Hid (n ≤ 2147483647) := Lib.hid (by omega)
              clear e1 e2 e3 heqr hlen hrel2 hkk hbig
              go_wp2_with fail
              go_ret
              rw [HP.out]
              exact ⟨HV.out, k', HTL.out, rfl, H5.out⟩
        · have b1 : ¬ (48 : Int) ≤ (b : Int) := by omega
          have HEND := Lib.hid (And.intro hend (And.intro heqr (And.intro hlen hrel2)))
          clear hS htl hd hdig hend heqr hlen hrel2 hbb hlo
          go_wp2_with fail
          go_at_call 45
          refine (nextR_in wr rb k' b r2 s pl HS1.out.1 HTL.out).mono ?_
          rintro x w5 ⟨rfl, h5⟩
          have H5 := Lib.hid (HS1.out.trans h5)
          clear h5
          obtain ⟨hend, heqr, hlen, hrel2⟩ := HEND.out
          simp only [List.length_cons] at hlen hend
          obtain ⟨e1, e2, e3⟩ := hend
          have p1 := H5.out.1.pos
          have p2 := H5.out.1.lt
          by_cases hkk : k' = k
          · subst hkk
            obtain ⟨hp, rfl⟩ := e1 (by omega) (heqr rfl)
            have HP := Lib.hid hp
            clear e1 e2 e3 hp heqr hlen hrel2
            go_wp2_with fail
            go_at_call 25
            refine (failR_ok _ rb k' s pl k' 2 H5.out.1).mono ?_
            rintro x w6 ⟨rfl, h6⟩
            have H6 := Lib.hid (H5.out.trans h6)
            clear h6
            go_wp2_with fail
            go_ret
            rw [HP.out]
            exact ⟨.inl rfl, 0, k', k', by decide, HT.out.1, rfl, H6.out⟩
          · have g5 : ((k' : Int) == (k : Int)) = false := by rw [beq_eq_false_iff_ne]; omega
            by_cases hbig : 2147483647 < n
            · have HP := Lib.hid (e2 (by omega) hbig)
              have g6 : (2147483647 : Int) < (n : Int) := by omega
              have HV : Hid (n ≤ 30000000000) := Lib.hid (by unfold NumRel at hrel2; omega)
              clear e1 e2 e3 heqr hlen hrel2 hkk hbig
              go_wp2_with fail
              go_at_call 25
              refine (failR_ok _ rb k' s pl k 3 H5.out.1).mono ?_
              rintro x w6 ⟨rfl, h6⟩
              have H6 := Lib.hid (H5.out.trans h6)
              clear h6
              go_wp2_with fail
              go_ret
              rw [HP.out]
              exact ⟨.inr rfl, n, k', k, HV.out, HT.out.1, rfl, H6.out⟩
            · have HP := Lib.hid (e3 (by omega) (by omega))
              have g6 : ¬ (2147483647 : Int) < (n : Int) := by omega
              have HV : Hid (n ≤ 2147483647) := Lib.hid (by omega)
              clear e1 e2 e3 heqr hlen hrel2 hkk hbig
              go_wp2_with fail
              go_ret
              rw [HP.out]
              exact ⟨HV.out, k', HTL.out, rfl, H5.out⟩

end Go.Proofs.Ytbodgadbhldbmaa
