/- Whether two trees are alike: the program's own call, a contract.
   Conditions: both lie in memory, and the first one has at most 1000000 nodes. -/
import Derived.Test.YtpibkalbnjgpaaaDoorMRef
import Derived.Deep.DeepCutAuto
import Derived.Deep.CutBlock
import Derived.StillTailTactics
import Derived.Test.YtpibkalbnjgpaaaDoorNodes
import Derived.Test.YtpibkalbnjgpaaaDoorPlaces
import Derived.Deep.QuietTactic
import Derived.BigQuiet

/- What the document's own telling whether a tree is formed comes to: a contract.
   Conditions: the tree lies in memory, and has at most 1000000 nodes. -/
namespace Go.Proofs.YtpibkalbnjgpaaaDoor
open Go.RowKit
attribute [local go_sem] nodeAgg

theorem equal_zero (C : Nat → Nat) (w : World) : (Op.equalIn 10000 24 (.agg #[.int .u64 (C 0 : Nat), .int .u64 (C 1 : Nat), .int .u64 (C 2 : Nat), .int .u64 (C 3 : Nat)]) (.agg #[.int .u64 0, .int .u64 0, .int .u64 0, .int .u64 0])).run Tryd.prog w = .ok (z4 C) w := by
  rw [run_equal4]
  unfold z4
  congr 1
  rw [Bool.eq_iff_iff]
  simp
theorem beq_f {a b : Int} (h : ¬ a = b) : (a == b) = false := by simp [h]
theorem beq_t {a b : Int} (h : a = b) : (a == b) = true := by simp [h]
theorem oks_all {ps : List V} {i : Nat} (h : ps.length ≤ i) : ps.take i = ps := List.take_of_length_le h
theorem oks_false {ps : List V} {i : Nat} (h : oksT (erases (ps.take i)) = false) : oksT (erases ps) = false := by
  have h2 := oks_append (erases (ps.take i)) (erases (ps.drop i))
  rw [← erases_append, List.take_append_drop, h] at h2
  rw [h2]; rfl

theorem okA_0 (Z : Bool) (lo hi : Int) (n : Nat) : okA 0 Z lo hi n = (Z && decide (lo = 0 ∧ hi = 0) && decide (n = 0)) := by
  unfold okA; rw [Bool.eq_iff_iff]; simp [and_assoc]
theorem okA_1 (Z : Bool) (lo hi : Int) (n : Nat) : okA 1 Z lo hi n = (decide (lo = 0 ∧ hi = 0) && decide (n = 0)) := by
  unfold okA; rw [Bool.eq_iff_iff]; simp [and_assoc]
theorem okA_2 (Z : Bool) (lo hi : Int) (n : Nat) : okA 2 Z lo hi n = (Z && decide (lo = 0 ∧ hi = 0) && decide (2 ≤ n)) := by
  unfold okA; rw [Bool.eq_iff_iff]; simp [and_assoc]
theorem okA_3 (Z : Bool) (lo hi : Int) (n : Nat) : okA 3 Z lo hi n = (Z && decide (lo = 0 ∧ hi = 0) && decide (2 ≤ n)) := by
  unfold okA; rw [Bool.eq_iff_iff]; simp [and_assoc]
theorem okA_4 (Z : Bool) (lo hi : Int) (n : Nat) : okA 4 Z lo hi n = (Z && decide (n = 1) && bnd lo hi) := by
  unfold okA; rw [Bool.eq_iff_iff]; simp [and_assoc]
theorem okA_n {k : Int} (Z : Bool) (lo hi : Int) (n : Nat) (h0 : ¬ k = 0) (h1 : ¬ k = 1) (h2 : ¬ k = 2) (h3 : ¬ k = 3) (h4 : ¬ k = 4) : okA k Z lo hi n = false := by
  unfold okA; simp [h0, h1, h2, h3, h4]

set_option maxHeartbeats 4000000 in
set_option maxRecDepth 100000 in
theorem formed_ref (N : Nat) : N ≤ 1000000 → ∀ (t : V) (w : World) (R : Nat → Prop), szT (erase t) ≤ N → Laid w R t →
    Calls Tryd.prog 9 #[nodeAgg t] w fun e w' => e = .returned (.bool (okT (erase t))) ∧ Below w.heap.size w w' := by
  induction N with
  | zero => intro _ t w R h; rw [sz_eq] at h; omega
  | succ N ih =>
    intro hN t w R hd ha
    obtain ⟨sa, sc, hv, hrow⟩ := laid_row' ha
    have hsz := sz_eq t
    have hok := okT_eq t
    have hlen := len_sz t.ps
    unfold okV at hok
    simp only [nodeAgg]
    rw [hv, hok]
    have heq := equal_zero t.set
    generalize z4 t.set = Z at *
    generalize t.kind = k, t.set = C, t.lo = lo, t.hi = hi at *
    generalize hps : t.ps = ps at *
    have hd2 : szsT (erases ps) ≤ N := by omega
    have hn1 : (ps.length : Int) ≤ 1000000 := by omega
    have HR := Lib.hid (And.intro hrow (And.intro (ih (by omega)) hd2))
    clear hrow ih hsz hok hlen hd2 hd hv ha hps
    go_enter Tryd.func9, Tryd.ntmps9
    obtain ⟨B, hB⟩ : ∃ B, okA k Z lo hi ps.length = B := ⟨_, rfl⟩
    rw [hB]
    have HBB := Lib.hid hB
    clear hB
    obtain ⟨F, hF⟩ : ∃ F, F = decide (lo = 0 ∧ hi = 0) := ⟨_, rfl⟩
    have HF := Lib.hid hF
    clear hF
    go_upto_region 2 with fail
    go_cut [4] (fun s wx => s = .bool F ∧ wx = w.alloc (.cells #[.int .i64 k, .int .u64 (C 0 : Nat), .int .u64 (C 1 : Nat), .int .u64 (C 2 : Nat), .int .u64 (C 3 : Nat), .slice sa ps.length sc, .int .i64 lo, .int .i64 hi] 27))
    case first =>
      by_cases h1 : lo = 0
      · by_cases h2 : hi = 0
        · subst h1 h2
          go_wp2_with fail
          go_meet
          exact ⟨by rw [HF.out]; rfl, rfl⟩
        · have g2 := beq_f h2
          have HE : Hid (F = false) := Lib.hid (by rw [HF.out]; simp [h2])
          subst h1
          clear h2
          go_wp2_with fail
          go_meet
          exact ⟨by rw [HE.out], rfl⟩
      · have g2 := beq_f h1
        have HE : Hid (F = false) := Lib.hid (by rw [HF.out]; simp [h1])
        clear h1
        go_wp2_with fail
        go_meet
        exact ⟨by rw [HE.out], rfl⟩
    case rest =>
      obtain ⟨rfl, rfl⟩ := hcut
      go_upto_block 0 with fail
      go_cut [5] (fun s wx => s = .bool B ∧ wx = w.alloc (.cells #[.int .i64 k, .int .u64 (C 0 : Nat), .int .u64 (C 1 : Nat), .int .u64 (C 2 : Nat), .int .u64 (C 3 : Nat), .slice sa ps.length sc, .int .i64 lo, .int .i64 hi] 27))
      case first =>
        by_cases h0 : k = 0
        · subst h0
          have HO := Lib.hid (okA_0 Z lo hi ps.length)
          rw [← HF.out] at HO
          cases Z <;> cases F <;> by_cases hn : ps.length = 0
          all_goals
            have hn2 : ((ps.length : Int) == 0) = decide (ps.length = 0) := by rw [Bool.eq_iff_iff]; simp
            first
              | rw [decide_eq_true hn] at hn2 HO
              | rw [decide_eq_false hn] at hn2 HO
            clear hn
            go_wp2_with fail
            go_meet
            exact ⟨by rw [← HBB.out, HO.out]; rfl, rfl⟩
        · by_cases h1 : k = 1
          · subst h1
            have HO := Lib.hid (okA_1 Z lo hi ps.length)
            rw [← HF.out] at HO
            clear h0
            cases F <;> by_cases hn : ps.length = 0
            all_goals
              have hn2 : ((ps.length : Int) == 0) = decide (ps.length = 0) := by rw [Bool.eq_iff_iff]; simp
              first
                | rw [decide_eq_true hn] at hn2 HO
                | rw [decide_eq_false hn] at hn2 HO
              clear hn
              go_wp2_with fail
              go_meet
              exact ⟨by rw [← HBB.out, HO.out]; rfl, rfl⟩
          · by_cases h23 : k = 2 ∨ k = 3
            · have HO : Hid (okA k Z lo hi ps.length = (Z && F && decide (2 ≤ ps.length))) := Lib.hid (by rcases h23 with h | h <;> subst h <;> rw [HF.out] <;> first | exact okA_2 _ _ _ _ | exact okA_3 _ _ _ _)
              clear h0 h1
              cases Z <;> cases F <;> by_cases hn : 2 ≤ ps.length
              all_goals
                first
                  | (have hn2 : (1 : Int) < (ps.length : Int) := by omega
                     rw [decide_eq_true hn] at HO)
                  | (have hn2 : ¬ (1 : Int) < (ps.length : Int) := by omega
                     rw [decide_eq_false hn] at HO)
                clear hn
                rcases h23 with rfl | rfl
                all_goals
                  go_wp2_with fail
                  go_meet
                  exact ⟨by rw [← HBB.out, HO.out]; rfl, rfl⟩
            · by_cases h4 : k = 4
              · subst h4
                have HO := Lib.hid (okA_4 Z lo hi ps.length)
                clear h0 h1 h23
                cases Z
                · go_wp2_with fail
                  go_meet
                  exact ⟨by rw [← HBB.out, HO.out]; rfl, rfl⟩
                · by_cases hn : ps.length = 1
                  · have hn2 : ((ps.length : Int) == 1) = true := by simp [hn]
                    have HB : Hid (okA 4 true lo hi ps.length = bnd lo hi) := Lib.hid (by rw [HO.out, decide_eq_true hn]; rfl)
                    clear hn HO
                    by_cases hm : hi = -1
                    · subst hm
                      go_wp2_with fail
                      all_goals
                        go_meet
                        refine ⟨?_, rfl⟩
                        rw [← HBB.out, HB.out]
                        congr 1
                        unfold bnd
                        rw [Bool.eq_iff_iff]
                        simp <;> omega
                    · have gm := beq_f hm
                      have HM := Lib.hid hm
                      clear hm
                      go_wp2_with fail
                      all_goals
                        go_meet
                        refine ⟨?_, rfl⟩
                        rw [← HBB.out, HB.out]
                        have hm := HM.out
                        congr 1
                        unfold bnd
                        rw [Bool.eq_iff_iff]
                        simp <;> omega
                  · have hn2 : ((ps.length : Int) == 1) = false := by simp; omega
                    rw [decide_eq_false hn] at HO
                    clear hn
                    go_wp2_with fail
                    go_meet
                    exact ⟨by rw [← HBB.out, HO.out]; rfl, rfl⟩
              · have HO := Lib.hid (okA_n Z lo hi ps.length h0 h1 (fun h => h23 (.inl h)) (fun h => h23 (.inr h)) h4)
                have g0 := beq_f h0
                have g1 := beq_f h1
                have g2 : (k == 2) = false := beq_f fun h => h23 (.inl h)
                have g3 : (k == 3) = false := beq_f fun h => h23 (.inr h)
                have g4 := beq_f h4
                clear h0 h1 h23 h4
                go_wp2_with fail
                go_meet
                exact ⟨by rw [← HBB.out, HO.out], rfl⟩
      case rest =>
        obtain ⟨rfl, rfl⟩ := hcut
        clear HF heq HBB
        go_wp2_with fail
        go_loopw [5, 6] (fun kk x wr => ∃ i : Nat, x = .int .i64 i ∧ i ≤ ps.length ∧ kk = .bool (B && oksT (erases (ps.take i))) ∧ wr.cell? ⟨w.heap.size, 5, none⟩ = some (.slice sa ps.length sc) ∧ Below w.heap.size w wr ∧ w.heap.size < wr.heap.size) (fun _ x _ => match x with | .int _ z => ps.length - z.toNat | _ => 0)
        case atStart => exact ⟨0, rfl, by omega, by simp [erases, oksT], by go_simp, (Below.refl _ _).alloc (Nat.le_refl _) _, by simp⟩
        case round =>
          obtain ⟨i, rfl, hi, rfl, c1, hb, hsz⟩ := hrel
          by_cases hlt : i < ps.length
          · have g1 : (i : Int) < (ps.length : Int) := by omega
            cases hG : (B && oksT (erases (ps.take i))) with
            | false =>
              have hall : (B && oksT (erases ps)) = false := by
                cases B with
                | false => rfl
                | true => simp at hG ⊢; exact oks_false hG
              have HA := Lib.hid hall
              clear hG hall
              go_wp2_with fail
              go_ret
              exact ⟨by show Ending.returned (.bool false) = _; rw [HA.out], hb⟩
            | true =>
              obtain ⟨p, hp⟩ : ∃ p, ps[i]? = some p := ⟨_, List.getElem?_eq_getElem hlt⟩
              have hnext : (B && oksT (erases (ps.take (i + 1)))) = okT (erase p) := by
                rw [oks_take hp]
                simp at hG
                rw [hG.1, hG.2]
                simp
              obtain ⟨r1, r2, r3⟩ := HR.out
              obtain ⟨b1, o1, rfl, hlt1, cc1, L1⟩ := r1 i p hp
              obtain ⟨x0, x1, x2, x3, x4, x5, x6, x7⟩ := node_cells cc1 hlt1 hb
              have HC := Lib.hid (r2 p wr R (Nat.le_trans (sz_mem (List.mem_of_getElem? hp)) r3) (L1.keep (fun _ _ h => h) hb.size fun k hk _ => hb.block k hk))
              have HN := Lib.hid hnext
              clear r1 r2 r3 cc1 L1 hp hlt1 hnext hG
              go_wp2_with fail
              go_at_call 9
              refine HC.out.mono ?_
              rintro e w3 ⟨rfl, hb3⟩
              have f1 : w3.cell? ⟨w.heap.size, 5, none⟩ = some (.slice (some ⟨b1, o1, none⟩) ps.length sc) := (hb3.cell (p := ⟨w.heap.size, 5, none⟩) hsz).trans c1
              have fz : w.heap.size < w3.heap.size := by have := hb3.size; omega
              have hb4 : Below w.heap.size w w3 := hb.trans (hb3.mono hb.size)
              clear hb3 hb HC x0 x1 x2 x3 x4 x5 x6 x7
              generalize okT (erase p) = E at *
              go_wp2_with fail
              exact ⟨⟨i + 1, by simp, by omega, by rw [HN.out], f1, hb4, fz⟩, by simp; omega⟩
          · have g1 : ¬ (i : Int) < (ps.length : Int) := by omega
            have hall : ps.take i = ps := szs_all (by omega)
            rw [hall]
            clear hall
            go_wp2_with fail
            go_ret
            exact ⟨rfl, hb⟩

end Go.Proofs.YtpibkalbnjgpaaaDoor

/- What the document's own comparing of two trees comes to: a contract, whether they are alike or not.
   Conditions: both trees lie in memory, the first one has at most 1000000 nodes. -/
namespace Go.Proofs.YtpibkalbnjgpaaaDoor
open Go.RowKit
attribute [local go_sem] nodeAgg

theorem equal_four (A B : Nat → Nat) (w : World) : (Op.equalIn 10000 24 (.agg #[.int .u64 (A 0 : Nat), .int .u64 (A 1 : Nat), .int .u64 (A 2 : Nat), .int .u64 (A 3 : Nat)]) (.agg #[.int .u64 (B 0 : Nat), .int .u64 (B 1 : Nat), .int .u64 (B 2 : Nat), .int .u64 (B 3 : Nat)])).run Tryd.prog w = .ok (eq4 A B) w := by
  rw [run_equal4]
  unfold eq4
  congr 1
  rw [Bool.eq_iff_iff]
  simp
  omega
theorem bne_f {a b : Int} (h : a = b) : (a != b) = false := by simp [h]
theorem bne_t {a b : Int} (h : ¬ a = b) : (a != b) = true := by simp [h]
theorem beq_no {a b : Int} (h : ¬ a = b) : (a == b) = false := by simp [h]
theorem likes_all {ps : List V} {i : Nat} (h : ps.length ≤ i) : ps.take i = ps := List.take_of_length_le h
theorem likes_false {ps qs : List V} (hlen : ps.length = qs.length) {i : Nat} {p q : V} (h1 : ps[i]? = some p) (h2 : qs[i]? = some q) (h : likeT (erase p) (erase q) = false) : likesT (erases ps) (erases qs) = false := by
  induction ps generalizing qs i with
  | nil => simp at h1
  | cons x ps ih =>
    cases qs with
    | nil => simp at hlen
    | cons y qs =>
      rw [erases, erases, likesT]
      cases i with
      | zero => simp at h1 h2; subst h1 h2; rw [h]; rfl
      | succ i => rw [ih (by simpa using hlen) (by simpa using h1) (by simpa using h2)]; simp

set_option maxHeartbeats 4000000 in
set_option maxRecDepth 100000 in
theorem same_ref (n : Nat) : n ≤ 1000000 → ∀ (a b : V) (w : World) (R Q : Nat → Prop), szT (erase a) ≤ n → Laid w R a → Laid w Q b →
    Calls Tryd.prog 15 #[nodeAgg a, nodeAgg b] w fun e w' => e = .returned (.bool (likeT (erase a) (erase b))) ∧ Below w.heap.size w w' := by
  induction n with
  | zero => intro _ a b w R Q h; rw [sz_eq] at h; omega
  | succ n ih =>
    intro hn a b w R Q hd ha hb
    obtain ⟨sa, sc, hv, hrow⟩ := laid_row' ha
    obtain ⟨ta, tc, hv2, hrow2⟩ := laid_row' hb
    have hlk := likeT_eq a b
    unfold likeV at hlk
    have hd2 : szsT (erases a.ps) ≤ n := by rw [sz_eq] at hd; omega
    have hmn : a.ps.length ≤ 1000000 := by have := len_sz a.ps; omega
    obtain ⟨L, hL⟩ : ∃ L, likeT (erase a) (erase b) = L := ⟨_, rfl⟩
    rw [hL]
    rw [hL] at hlk
    simp only [nodeAgg]
    rw [hv, hv2]
    have hq := equal_four a.set b.set
    generalize eq4 a.set b.set = Q4 at *
    generalize a.kind = k1, a.set = C1, a.lo = lo1, a.hi = hi1 at *
    generalize b.kind = k2, b.set = C2, b.lo = lo2, b.hi = hi2 at *
    by_cases hall : k1 = k2 ∧ Q4 = true ∧ lo1 = lo2 ∧ hi1 = hi2 ∧ a.ps.length = b.ps.length
    · rw [decide_eq_true hall, Bool.true_and] at hlk
      obtain ⟨rfl, rfl, rfl, rfl, hlen⟩ := hall
      have HR := Lib.hid (And.intro hrow (And.intro hrow2 (And.intro hd2 (And.intro hlen hlk))))
      rw [hlen] at hmn ⊢
      generalize hm : b.ps.length = m at *
      clear hrow hrow2 hd2 hd hv hv2 ha hb hL hlk
      have HI := Lib.hid (ih (by omega))
      clear ih hn
      go_enter Tryd.func15, Tryd.ntmps15
      go_wp2_with fail
      go_loopw [5] (fun x wr => ∃ i : Nat, x = .int .i64 i ∧ i ≤ m ∧ likesT (erases (a.ps.take i)) (erases (b.ps.take i)) = true ∧ wr.cell? ⟨w.heap.size, 5, none⟩ = some (.slice sa m sc) ∧ wr.cell? ⟨w.heap.size + 1, 5, none⟩ = some (.slice ta m tc) ∧ Below w.heap.size w wr ∧ w.heap.size + 1 < wr.heap.size) (fun x _ => match x with | .int _ z => m - z.toNat | _ => 0)
      case atStart => exact ⟨0, rfl, by omega, by simp [erases, likesT], by go_simp, by go_simp, ((Below.refl _ _).alloc (Nat.le_refl _) _).alloc (by simp) _, by simp⟩
      case round =>
        obtain ⟨i, rfl, hi, hli, c1, c2, hb, hsz⟩ := hrel
        obtain ⟨r1, r2, r4, r5, r6⟩ := HR.out
        by_cases hlt : i < m
        · have g1 : (i : Int) < (m : Int) := by omega
          obtain ⟨p, hp⟩ : ∃ p, a.ps[i]? = some p := ⟨_, List.getElem?_eq_getElem (by omega)⟩
          obtain ⟨q, hq2⟩ : ∃ q, b.ps[i]? = some q := ⟨_, List.getElem?_eq_getElem (by omega)⟩
          have hnext := likes_take (r5.trans hm.symm) hp hq2
          rw [hli, Bool.true_and] at hnext
          have hno := likes_false (r5.trans hm.symm) hp hq2
          obtain ⟨b1, o1, rfl, hlt1, cc1, L1⟩ := r1 i p hp
          obtain ⟨b2, o2, rfl, hlt2, cc2, L2⟩ := r2 i q hq2
          obtain ⟨x0, x1, x2, x3, x4, x5, x6, x7⟩ := node_cells cc1 hlt1 hb
          obtain ⟨y0, y1, y2, y3, y4, y5, y6, y7⟩ := node_cells cc2 hlt2 hb
          have HC := Lib.hid (fun (w2 : World) (hb2 : Below w.heap.size w w2) => HI.out p q w2 R Q (Nat.le_trans (sz_mem (List.mem_of_getElem? hp)) r4) (L1.keep (fun _ _ h => h) hb2.size fun k hk _ => hb2.block k hk) (L2.keep (fun _ _ h => h) hb2.size fun k hk _ => hb2.block k hk))
          have HN := Lib.hid (And.intro hnext hno)
          clear r1 r2 r4 r5 r6 cc1 cc2 L1 L2 hp hq2 hlt1 hlt2 hli hnext hno
          go_wp2_with fail
          go_still_tail 10, (by kernel_rfl)
          change wpList _ _ _ _ _ wr.drew
          have hbd : Below w.heap.size w wr.drew := hb.drew
          have d1 : wr.drew.cell? ⟨w.heap.size, 5, none⟩ = some (.slice (some ⟨b1, o1, none⟩) m sc) := c1
          have d2 : wr.drew.cell? ⟨w.heap.size + 1, 5, none⟩ = some (.slice (some ⟨b2, o2, none⟩) m tc) := c2
          have dz : w.heap.size + 1 < wr.drew.heap.size := hsz
          generalize wr.drew = w2 at *
          clear c1 c2 hb hsz x0 x1 x2 x3 x4 x5 x6 x7 y0 y1 y2 y3 y4 y5 y6 y7
          go_wp2_with fail
          go_at_call 15
          refine (HC.out _ hbd).mono ?_
          rintro e w3 ⟨rfl, hb3⟩
          have f1 : w3.cell? ⟨w.heap.size, 5, none⟩ = some (.slice (some ⟨b1, o1, none⟩) m sc) := (hb3.cell (p := ⟨w.heap.size, 5, none⟩) (by show w.heap.size < _; omega)).trans d1
          have f2 : w3.cell? ⟨w.heap.size + 1, 5, none⟩ = some (.slice (some ⟨b2, o2, none⟩) m tc) := (hb3.cell (p := ⟨w.heap.size + 1, 5, none⟩) (by show w.heap.size + 1 < _; omega)).trans d2
          have fz : w.heap.size + 1 < w3.heap.size := by have := hb3.size; omega
          have hb4 : Below w.heap.size w w3 := hbd.trans (hb3.mono hbd.size)
          clear hb3 d1 d2 dz hbd HC
          cases hE : likeT (erase p) (erase q) with
          | true =>
            have HE := Lib.hid hE
            clear hE
            go_wp2_with fail
            exact ⟨⟨i + 1, by simp, by omega, by rw [HN.out.1, HE.out], f1, f2, hb4, fz⟩, by simp; omega⟩
          | false =>
            have HE := Lib.hid hE
            clear hE
            go_wp2_with fail
            go_ret
            exact ⟨by show Ending.returned (.bool false) = _; rw [HR.out.2.2.2.2, HN.out.2 HE.out], hb4⟩
        · have g1 : ¬ (i : Int) < (m : Int) := by omega
          have h1 : a.ps.take i = a.ps := likes_all (by omega)
          have h2 : b.ps.take i = b.ps := likes_all (by omega)
          rw [h1, h2] at hli
          have HL := Lib.hid (r6.trans hli)
          clear r1 r2 r4 r5 r6 hli h1 h2
          go_wp2_with fail
          go_ret
          exact ⟨by show Ending.returned (.bool true) = _; rw [HL.out], hb⟩
    · rw [decide_eq_false hall, Bool.false_and] at hlk
      have HL := Lib.hid hlk
      have HALL := Lib.hid hall
      clear hrow hrow2 hd2 hd hv hv2 ha hb hL hlk ih hall
      have fin : ∀ w' : World, Below w.heap.size w w' → (Ending.returned (.bool false) = Ending.returned (.bool L) ∧ Below w.heap.size w w') := fun w' h => ⟨by rw [HL.out], h⟩
      generalize hm1 : a.ps.length = m1 at *
      generalize hm2 : b.ps.length = m2 at *
      by_cases hk : k1 = k2
      · subst hk
        cases Q4 with
        | true =>
          by_cases hlo : lo1 = lo2
          · subst hlo
            by_cases hhi : hi1 = hi2
            · subst hhi
              have hmm : ¬ (m1 : Int) = (m2 : Int) := fun h => HALL.out ⟨rfl, rfl, rfl, rfl, by omega⟩
              have g1 := bne_t hmm
              have g2 := beq_no hmm
              clear hmm
              go_enter Tryd.func15, Tryd.ntmps15
              go_wp2_with fail
              go_ret
              exact fin _ (((Below.refl _ _).alloc (Nat.le_refl _) _).alloc (by simp) _)
            · have g1 := bne_t hhi
              have g2 := beq_no hhi
              clear hhi
              go_enter Tryd.func15, Tryd.ntmps15
              go_wp2_with fail
              go_ret
              exact fin _ (((Below.refl _ _).alloc (Nat.le_refl _) _).alloc (by simp) _)
          · have g1 := bne_t hlo
            have g2 := beq_no hlo
            clear hlo
            go_enter Tryd.func15, Tryd.ntmps15
            go_wp2_with fail
            go_ret
            exact fin _ (((Below.refl _ _).alloc (Nat.le_refl _) _).alloc (by simp) _)
        | false =>
          go_enter Tryd.func15, Tryd.ntmps15
          go_wp2_with fail
          go_ret
          exact fin _ (((Below.refl _ _).alloc (Nat.le_refl _) _).alloc (by simp) _)
      · have g1 := bne_t hk
        have g2 := beq_no hk
        clear hk
        go_enter Tryd.func15, Tryd.ntmps15
        go_wp2_with fail
        go_ret
        exact fin _ (((Below.refl _ _).alloc (Nat.le_refl _) _).alloc (by simp) _)

end Go.Proofs.YtpibkalbnjgpaaaDoor

/- When a node has what its kind has: the program's own call, a contract.
   No condition. -/
namespace Go.Proofs.YtpibkalbnjgpaaaDoor
open Go.RowKit Go.Shelf
attribute [local go_sem] Oper.semAt_some

set_option maxHeartbeats 1000000 in
set_option maxRecDepth 100000 in
theorem bounded_in (n : Nat) (lo hi : Int) (w : World) : CallsIn Fence.wide n Tryd.prog 42 #[.int .i64 lo, .int .i64 hi] w fun e w' => e = .returned (.bool (bnd lo hi)) ∧ w = w' := by
  obtain ⟨B, hB⟩ : ∃ B, bnd lo hi = B := ⟨_, rfl⟩
  rw [hB]
  have HB := Lib.hid hB
  clear hB
  refine callsIn_of_wp Tryd.func42 rfl trivial ?_ rfl
  simp only [Tryd.ntmps42, List.size_toArray, List.length_cons, List.length_nil, Nat.reduceAdd, Nat.reduceSub, Array.replicate_succ, Array.replicate_zero, List.push_toArray, List.append_toArray, List.nil_append, List.cons_append]
  by_cases hm : hi = -1
  · subst hm
    gi_wp2
    all_goals
      go_ret
      refine ⟨ret_bool ?_, rfl⟩
      rw [← HB.out]
      unfold bnd
      rw [Bool.eq_iff_iff]
      simp <;> omega
  · have gm := beq_no hm
    have HM := Lib.hid hm
    clear hm
    gi_wp2
    all_goals
      go_ret
      refine ⟨ret_bool ?_, rfl⟩
      rw [← HB.out]
      have hm := HM.out
      unfold bnd
      rw [Bool.eq_iff_iff]
      simp <;> omega

theorem okA_F (k lo hi : Int) (Z : Bool) (n : Nat) (h : k = 0 ∨ k = 1 ∨ k = 2 ∨ k = 3) (h2 : ¬ (lo = 0 ∧ hi = 0)) : okA k Z lo hi n = false := by
  unfold okA
  rw [decide_eq_false]
  rintro (h | h | h | h)
  · exact h2 ⟨h.2.2.1, h.2.2.2.1⟩
  · exact h2 ⟨h.2.1, h.2.2.1⟩
  · exact h2 ⟨h.2.2.1, h.2.2.2.1⟩
  · omega
theorem okA_t {k : Int} {Z : Bool} {lo hi : Int} {n : Nat} {b : Bool} (h : ((k = 0 ∧ Z = true ∧ lo = 0 ∧ hi = 0 ∧ n = 0) ∨ (k = 1 ∧ lo = 0 ∧ hi = 0 ∧ n = 0) ∨ ((k = 2 ∨ k = 3) ∧ Z = true ∧ lo = 0 ∧ hi = 0 ∧ 2 ≤ n) ∨ (k = 4 ∧ Z = true ∧ n = 1 ∧ bnd lo hi = true)) ↔ b = true) : okA k Z lo hi n = b := by
  unfold okA
  rw [Bool.eq_iff_iff, decide_eq_true_eq]
  exact h

set_option maxHeartbeats 4000000 in
set_option maxRecDepth 100000 in
theorem formedAlone_in (n : Nat) (k lo hi : Int) (C : Nat → Nat) (sa : Option Addr) (m sc : Nat) (w : World) :
    CallsIn Fence.wide (n + 1) Tryd.prog 30 #[.agg #[.int .i64 k, .int .u64 (C 0 : Nat), .int .u64 (C 1 : Nat), .int .u64 (C 2 : Nat), .int .u64 (C 3 : Nat), .slice sa m sc, .int .i64 lo, .int .i64 hi]] w fun e w' => e = .returned (.bool (okA k (z4 C) lo hi m)) ∧ Below w.heap.size w w' := by
  obtain ⟨B, hB⟩ : ∃ B, okA k (z4 C) lo hi m = B := ⟨_, rfl⟩
  rw [hB]
  have heq := equal_zero C
  generalize z4 C = Z at *
  have fin : ∀ b : Bool, okA k Z lo hi m = b → ∀ w' : World, Below w.heap.size w w' → (Ending.returned (.bool b) = Ending.returned (.bool B) ∧ Below w.heap.size w w') := fun b h w' h2 => ⟨by rw [← h, hB], h2⟩
  have HFIN := Lib.hid fin
  clear hB fin
  refine callsIn_of_wp Tryd.func30 rfl trivial ?_ rfl
  simp only [Tryd.ntmps30, List.size_toArray, List.length_cons, List.length_nil, Nat.reduceAdd, Nat.reduceSub, Array.replicate_succ, Array.replicate_zero, List.push_toArray, List.append_toArray, List.nil_append, List.cons_append]
  by_cases h4 : k = 4
  · subst h4
    have hlo : lo = 0 ∨ ¬ lo = 0 := by omega
    have hhi : hi = 0 ∨ ¬ hi = 0 := by omega
    cases Z with
    | false =>
      have HV := Lib.hid (HFIN.out false (okA_t (by simp)))
      rcases hlo with rfl | hlo
      · rcases hhi with rfl | hhi
        · gi_wp2
          refine ⟨trivial, ?_⟩
          gi_wp2
          go_ret
          exact HV.out _ ((Below.refl _ _).alloc (Nat.le_refl _) _)
        · have g1 := beq_no hhi
          clear hhi
          gi_wp2
          refine ⟨trivial, ?_⟩
          gi_wp2
          go_ret
          exact HV.out _ ((Below.refl _ _).alloc (Nat.le_refl _) _)
      · have g1 := beq_no hlo
        clear hlo
        gi_wp2
        refine ⟨trivial, ?_⟩
        gi_wp2
        go_ret
        exact HV.out _ ((Below.refl _ _).alloc (Nat.le_refl _) _)
    | true =>
      by_cases hm : m = 1
      · subst hm
        have HV := Lib.hid (HFIN.out (bnd lo hi) (okA_t (by simp)))
        rcases hlo with rfl | hlo
        · rcases hhi with rfl | hhi
          · gi_wp2_with (refine ⟨trivial, ?_⟩; gi_at_call 42; refine (bounded_in _ _ _ _).mono ?_; rintro e w' ⟨rfl, rfl⟩)
            go_ret
            exact HV.out _ ((Below.refl _ _).alloc (Nat.le_refl _) _)
          · have g1 := beq_no hhi
            clear hhi
            gi_wp2_with (refine ⟨trivial, ?_⟩; gi_at_call 42; refine (bounded_in _ _ _ _).mono ?_; rintro e w' ⟨rfl, rfl⟩)
            go_ret
            exact HV.out _ ((Below.refl _ _).alloc (Nat.le_refl _) _)
        · have g1 := beq_no hlo
          clear hlo
          gi_wp2_with (refine ⟨trivial, ?_⟩; gi_at_call 42; refine (bounded_in _ _ _ _).mono ?_; rintro e w' ⟨rfl, rfl⟩)
          go_ret
          exact HV.out _ ((Below.refl _ _).alloc (Nat.le_refl _) _)
      · have HV := Lib.hid (HFIN.out false (okA_t (by simp [hm])))
        have gm : ((m : Int) == 1) = false := by simp; omega
        clear hm
        rcases hlo with rfl | hlo
        · rcases hhi with rfl | hhi
          · gi_wp2
            refine ⟨trivial, ?_⟩
            gi_wp2
            go_ret
            exact HV.out _ ((Below.refl _ _).alloc (Nat.le_refl _) _)
          · have g1 := beq_no hhi
            clear hhi
            gi_wp2
            refine ⟨trivial, ?_⟩
            gi_wp2
            go_ret
            exact HV.out _ ((Below.refl _ _).alloc (Nat.le_refl _) _)
        · have g1 := beq_no hlo
          clear hlo
          gi_wp2
          refine ⟨trivial, ?_⟩
          gi_wp2
          go_ret
          exact HV.out _ ((Below.refl _ _).alloc (Nat.le_refl _) _)
  · by_cases hk : k = 0 ∨ k = 1 ∨ k = 2 ∨ k = 3
    · by_cases hF : lo = 0 ∧ hi = 0
      · obtain ⟨rfl, rfl⟩ := hF
        rcases hk with rfl | rfl | hk
        · by_cases hm : m = 0
          · have HV := Lib.hid (HFIN.out Z (okA_t (by simp [hm])))
            have gm : ((m : Int) == 0) = true := by simp [hm]
            clear hm h4
            cases Z
            all_goals
              gi_wp2
              go_ret
              exact HV.out _ ((Below.refl _ _).alloc (Nat.le_refl _) _)
          · have HV := Lib.hid (HFIN.out false (okA_t (by simp [hm])))
            have gm : ((m : Int) == 0) = false := by simp; omega
            clear hm h4
            cases Z
            all_goals
              gi_wp2
              go_ret
              exact HV.out _ ((Below.refl _ _).alloc (Nat.le_refl _) _)
        · by_cases hm : m = 0
          · have HV := Lib.hid (HFIN.out true (okA_t (by simp [hm])))
            have gm : ((m : Int) == 0) = true := by simp [hm]
            clear hm h4
            gi_wp2
            go_ret
            exact HV.out _ ((Below.refl _ _).alloc (Nat.le_refl _) _)
          · have HV := Lib.hid (HFIN.out false (okA_t (by simp [hm])))
            have gm : ((m : Int) == 0) = false := by simp; omega
            clear hm h4
            gi_wp2
            go_ret
            exact HV.out _ ((Below.refl _ _).alloc (Nat.le_refl _) _)
        · by_cases hm : 2 ≤ m
          · have HV := Lib.hid (HFIN.out Z (okA_t (by rcases hk with rfl | rfl <;> simp [hm])))
            have gm : (2 : Int) ≤ (m : Int) := by omega
            clear hm h4
            rcases hk with rfl | rfl <;> cases Z
            all_goals
              gi_wp2
              go_ret
              exact HV.out _ ((Below.refl _ _).alloc (Nat.le_refl _) _)
          · have HV := Lib.hid (HFIN.out false (okA_t (by rcases hk with rfl | rfl <;> simp [hm])))
            have gm : ¬ (2 : Int) ≤ (m : Int) := by omega
            clear hm h4
            rcases hk with rfl | rfl <;> cases Z
            all_goals
              gi_wp2
              go_ret
              exact HV.out _ ((Below.refl _ _).alloc (Nat.le_refl _) _)
      · have HV := Lib.hid (HFIN.out false (okA_F k lo hi Z m hk hF))
        by_cases hlo : lo = 0
        · have hhi : ¬ hi = 0 := fun h => hF ⟨hlo, h⟩
          have g1 := beq_no hhi
          subst hlo
          clear hF hhi h4
          rcases hk with rfl | rfl | rfl | rfl <;> cases Z
          all_goals
            gi_wp2
            go_ret
            exact HV.out _ ((Below.refl _ _).alloc (Nat.le_refl _) _)
        · have g1 := beq_no hlo
          clear hF hlo h4
          rcases hk with rfl | rfl | rfl | rfl <;> cases Z
          all_goals
            gi_wp2
            go_ret
            exact HV.out _ ((Below.refl _ _).alloc (Nat.le_refl _) _)
    · have HV := Lib.hid (HFIN.out false (okA_t (by simp; omega)))
      have g0 : (k == 0) = false := beq_no (by omega)
      have g1 : (k == 1) = false := beq_no (by omega)
      have g2 : (k == 2) = false := beq_no (by omega)
      have g3 : (k == 3) = false := beq_no (by omega)
      have g4 := beq_no h4
      clear h4 hk
      by_cases hlo : lo = 0
      · subst hlo
        by_cases hhi : hi = 0
        · subst hhi
          gi_wp2
          go_ret
          exact HV.out _ ((Below.refl _ _).alloc (Nat.le_refl _) _)
        · have g5 := beq_no hhi
          clear hhi
          gi_wp2
          go_ret
          exact HV.out _ ((Below.refl _ _).alloc (Nat.le_refl _) _)
      · have g5 := beq_no hlo
        clear hlo
        gi_wp2
        go_ret
        exact HV.out _ ((Below.refl _ _).alloc (Nat.le_refl _) _)

end Go.Proofs.YtpibkalbnjgpaaaDoor

/- Whether a tree is formed: the program's own call, a contract.
   Conditions: the tree lies in memory, and is at most 1000000 deep. -/
namespace Go.Proofs.YtpibkalbnjgpaaaDoor
open Go.RowKit Go.Shelf
attribute [local go_sem] Oper.semAt_some encsV nodeAgg

theorem keeps_below {w w' : World} (h : Below w.heap.size w w') : KeepsOthers w w' := ⟨h.size, fun _ _ hk _ => (h.block _ (Array.getElem?_eq_some_iff.1 hk).1).trans hk⟩
theorem kpV_below {D0 : Nat} {w w' : World} (h : Below w.heap.size w w') : KpV D0 w w' := ⟨h.size, fun _ _ _ _ hk _ => (h.block _ (Array.getElem?_eq_some_iff.1 hk).1).trans hk⟩
/-- The world in which the loop over a tree's nodes begins, a result that is told lying ahead of it. -/
structure BegunB (w w0 : World) (t : V) : Prop where
  size : w0.heap.size = w.heap.size + 3
  chg : Chg (fun _ => False) w w0
  cell : w0.heap[w.heap.size + 1]? = some (.cells #[.bool false] 4 (0, 0))
  box : ∀ j u, (ndc t)[j]? = some u → w0.cell? ⟨w.heap.size + 1 + 1, j, none⟩ = some u
theorem begunB (w : World) (t : V) (sa : Option Addr) (sn sc : Nat) (hsl : t.v = .slice sa sn sc) :
    BegunB w (((w.alloc (.cells #[.int .i64 t.kind, .int .u64 (t.set 0 : Nat), .int .u64 (t.set 1 : Nat), .int .u64 (t.set 2 : Nat), .int .u64 (t.set 3 : Nat), .slice sa sn sc, .int .i64 t.lo, .int .i64 t.hi] 27)).alloc (.cells #[.bool false] 4)).alloc (.cells #[.int .i64 t.kind, .int .u64 (t.set 0 : Nat), .int .u64 (t.set 1 : Nat), .int .u64 (t.set 2 : Nat), .int .u64 (t.set 3 : Nat), .slice sa sn sc, .int .i64 t.lo, .int .i64 t.hi] 27)) t := by
  have hnd : #[.int .i64 t.kind, .int .u64 (t.set 0 : Nat), .int .u64 (t.set 1 : Nat), .int .u64 (t.set 2 : Nat), .int .u64 (t.set 3 : Nat), .slice sa sn sc, .int .i64 t.lo, .int .i64 t.hi] = (ndc t).toArray := by unfold ndc; rw [hsl]
  rw [hnd]
  refine ⟨by simp, (((Chg.refl _ w).alloc _).alloc _).alloc _, ?_, fun j u hu => ?_⟩
  · have e := heap_alloc_new (w.alloc (.cells (ndc t).toArray 27)) (.cells #[.bool false] 4)
    rw [World.size_alloc] at e
    exact (Below.heap_alloc _ _ _ (by simp)).trans e
  · have e := heap_alloc_new ((w.alloc (.cells (ndc t).toArray 27)).alloc (.cells #[.bool false] 4)) (.cells (ndc t).toArray 27)
    rw [World.size_alloc, World.size_alloc] at e
    rw [(row_cells e).1 j, List.getElem?_toArray]
    exact hu
def FI (w : World) (pre : List (Nat × V)) (W : World) : Prop := W.heap[w.heap.size + 1]? = some (.cells #[.bool false] 4 (0, 0)) ∧ Below w.heap.size w W ∧ w.heap.size + 1 < W.heap.size ∧ pre.all (fun x => okV x.2) = true
def FX (w : World) (pre : List (Nat × V)) (W : World) : Prop := W.heap[w.heap.size + 1]? = some (.cells #[.bool false] 4 (0, 0)) ∧ Below w.heap.size w W ∧ w.heap.size + 1 < W.heap.size ∧ pre.all (fun x => okV x.2) = false

set_option maxRecDepth 100000 in
set_option maxHeartbeats 4000000 in
theorem formed_in (t : V) (w : World) (sa : Option Addr) (sn sc : Nat) (hsl : t.v = .slice sa sn sc) (R : Nat → Prop) (hl : Laid w R t) (hD : dptV t ≤ 1000000) :
    CallsIn Fence.wide 6 Tryd.prog 18 #[.agg #[.int .i64 t.kind, .int .u64 (t.set 0 : Nat), .int .u64 (t.set 1 : Nat), .int .u64 (t.set 2 : Nat), .int .u64 (t.set 3 : Nat), .slice sa sn sc, .int .i64 t.lo, .int .i64 t.hi]] w fun e w' => e = .returned (.bool (okT (erase t))) ∧ Below w.heap.size w w' := by
  refine callsIn_of_wp_marks Tryd.func18 rfl trivial ?_ rfl
  simp only [Tryd.ntmps18, List.size_toArray, List.length_cons, List.length_nil, Nat.reduceAdd, Nat.reduceSub, Array.replicate_succ, Array.replicate_zero, List.push_toArray, List.append_toArray, List.nil_append, List.cons_append]
  gi_wp2_with (refine ⟨trivial, ?_⟩; gi_at_call 29; refine (nodes_in _ _ _ _ _ _ _ _ _ _ _ _).mono ?_; rintro e w' ⟨rfl, rfl⟩)
  have hbg := begunB w t sa sn sc hsl
  generalize (((w.alloc (.cells #[.int .i64 t.kind, .int .u64 (t.set 0 : Nat), .int .u64 (t.set 1 : Nat), .int .u64 (t.set 2 : Nat), .int .u64 (t.set 3 : Nat), .slice sa sn sc, .int .i64 t.lo, .int .i64 t.hi] 27)).alloc (.cells #[.bool false] 4)).alloc (.cells #[.int .i64 t.kind, .int .u64 (t.set 0 : Nat), .int .u64 (t.set 1 : Nat), .int .u64 (t.set 2 : Nat), .int .u64 (t.set 3 : Nat), .slice sa sn sc, .int .i64 t.lo, .int .i64 t.hi] 27)) = w0 at *
  obtain ⟨hz, hch, hce, hbx⟩ := hbg
  have HZ := Lib.hid hz
  have hl0 : Laid w0 (fun b => b ≠ w.heap.size + 1) t := hl.keep (fun b hb _ => by omega) hch.size fun b hb _ => hch.block b hb (fun h => h)
  have HL := Lib.hid hl0
  have HB := Lib.hid (hch.below (Nat.le_refl _) (fun _ _ h => h))
  clear hz hl hch hl0
  have HOK := Lib.hid (all_pre t 1)
  refine range_law (n := 6) (gf := 41) (lb := #[.pointer (some ⟨w.heap.size + 1 + 1, 0, none⟩)]) rfl (enters_of Tryd.func41 (by kernel_rfl) rfl)
    (nodes_iter 5 (w.heap.size + 1 + 1) (w.heap.size + 1) 1000000 t w0 hbx (by have := HZ.out; omega) (by have := HZ.out; omega) HL.out hD (Nat.le_refl _)) kpV_t (fun W l o o' _ h ho => kpV_put W l o o' h ho) (fun _ => rfl)
    (FI w) (FX w) ?hI ?hX ⟨hce, HB.out, by have := HZ.out; omega, rfl⟩ ?round ?done ?stop
  case hI =>
    rintro s A B ⟨h1, h2, h3, h4⟩ hc
    have hz := HZ.out
    exact ⟨(hc.block _ (Array.getElem?_eq_some_iff.1 h1).1 (by omega)).trans h1, h2.trans (hc.below h2.size (fun k hk => by omega)), Nat.lt_of_lt_of_le h3 hc.size, h4⟩
  case hX =>
    rintro s A B ⟨h1, h2, h3, h4⟩ hc
    have hz := HZ.out
    exact ⟨(hc.block _ (Array.getElem?_eq_some_iff.1 h1).1 (by omega)).trans h1, h2.trans (hc.below h2.size (fun k hk => by omega)), Nat.lt_of_lt_of_le h3 hc.size, h4⟩
  case round =>
    rintro l pre x W hI ⟨post, hnext⟩ hl1 hl2
    obtain ⟨ua, un, uc, hus⟩ := (pre_laid HL.out 1 x (by rw [hnext]; simp)).slice
    have hun : un = x.2.ps.length := by
      rcases (pre_laid HL.out 1 x (by rw [hnext]; simp)).form with ⟨a, c, h | h⟩
      · have := hus.symm.trans h.1; simp at this; exact this.2.1
      · have := hus.symm.trans h.2; simp at this; rw [h.1]; simp; exact this.2.1
    have hall : (pre ++ [x]).all (fun x => okV x.2) = (pre.all (fun x => okV x.2) && okV x.2) := by simp
    have HIW := Lib.hid hI
    have hz := HZ.out
    have hzw := hI.2.2.1
    have HN := Lib.hid hnext
    have HA := Lib.hid (And.intro hall hun)
    clear hI hnext hz hall hun
    simp only [encsV, nodeAgg, hus]
    gi_wp2
    refine ⟨KeepsOthers.alloc W _, kpV_alloc W _, ?_, ?_⟩
    · obtain ⟨h1, h2, h3, h4⟩ := HIW.out
      exact ⟨(Below.heap_alloc _ _ _ h3).trans h1, h2.alloc h2.size _, by simp; omega, h4⟩
    intro w2 hc2 hI2
    have hk : ∀ j, w2.cell? ⟨W.heap.size, j, none⟩ = (W.alloc (.cells #[.int .i64 x.2.kind, .int .u64 (x.2.set 0 : Nat), .int .u64 (x.2.set 1 : Nat), .int .u64 (x.2.set 2 : Nat), .int .u64 (x.2.set 3 : Nat), .slice ua un uc, .int .i64 x.2.lo, .int .i64 x.2.hi] 27)).cell? ⟨W.heap.size, j, none⟩ := fun j => hc2.cell j (b := W.heap.size) (by simp) (by omega)
    obtain ⟨x0, x1, x2, x3, x4, x5, x6, x7⟩ : w2.cell? ⟨W.heap.size, 0, none⟩ = some (.int .i64 x.2.kind) ∧ w2.cell? ⟨W.heap.size, 1, none⟩ = some (.int .u64 (x.2.set 0 : Nat)) ∧ w2.cell? ⟨W.heap.size, 2, none⟩ = some (.int .u64 (x.2.set 1 : Nat)) ∧ w2.cell? ⟨W.heap.size, 3, none⟩ = some (.int .u64 (x.2.set 2 : Nat)) ∧ w2.cell? ⟨W.heap.size, 4, none⟩ = some (.int .u64 (x.2.set 3 : Nat)) ∧ w2.cell? ⟨W.heap.size, 5, none⟩ = some (.slice ua un uc) ∧ w2.cell? ⟨W.heap.size, 6, none⟩ = some (.int .i64 x.2.lo) ∧ w2.cell? ⟨W.heap.size, 7, none⟩ = some (.int .i64 x.2.hi) := by
      refine ⟨?_, ?_, ?_, ?_, ?_, ?_, ?_, ?_⟩ <;> rw [hk] <;> simp
    have HI2 := Lib.hid hI2
    clear hk hc2 hI2 hl1 hl2 hzw
    gi_wp2
    refine ⟨trivial, ?_⟩
    gi_at_call 30
    refine ((formedAlone_in 2 _ _ _ _ _ _ _ _).inRound l).mono ?_
    rintro e w3 ⟨rfl, hb3⟩
    obtain ⟨h1, h2, h3, h4⟩ := HI2.out
    have hc3 : w3.heap[w.heap.size + 1]? = some (.cells #[.bool false] 4 (0, 0)) := (hb3.block _ h3).trans h1
    have hb4 : Below w.heap.size w w3 := h2.trans (hb3.mono h2.size)
    have hz3 : w.heap.size + 1 < w3.heap.size := Nat.lt_of_lt_of_le h3 hb3.size
    have hcell : w3.cell? ⟨w.heap.size + 1, 0, none⟩ = some (.bool false) := (row_cells hc3).1 0
    have hfz : w3.frozen? ⟨w.heap.size + 1, 0, none⟩ = false := (row_cells hc3).2 0
    have HK := Lib.hid (And.intro hc3 (And.intro hb4 (And.intro (keeps_below hb3) (kpV_below (D0 := w.heap.size + 1) hb3))))
    have HP := Lib.hid h4
    clear h1 h2 h3 h4 hc3 hb4 hb3 x0 x1 x2 x3 x4 x5 x6 x7
    cases hE : okA x.2.kind (z4 x.2.set) x.2.lo x.2.hi un with
    | true =>
      have hG : (pre ++ [x]).all (fun x => okV x.2) = true := by rw [HA.out.1, HP.out]; unfold okV; rw [← HA.out.2, hE]; rfl
      have HG := Lib.hid hG
      clear hE hG
      gi_wp2
      exact ⟨HK.out.2.2.1, HK.out.2.2.2, HK.out.1, HK.out.2.1, hz3, HG.out⟩
    | false =>
      have hG : (pre ++ [x]).all (fun x => okV x.2) = false := by rw [HA.out.1]; unfold okV; rw [← HA.out.2, hE]; simp
      have HG := Lib.hid hG
      clear hE hG
      gi_wp2
      refine ⟨HK.out.2.2.1.trans (KeepsOthers.setCell _ _ _), heap_one HK.out.1, HK.out.2.1.setCell (p := ⟨w.heap.size + 1, 0, none⟩) (by simp) _, by simpa using hz3, HG.out⟩
  case done =>
    rintro D W ⟨h1, h2, h3, h4⟩ hD2 hK
    have q3 : W.cell? ⟨w.heap.size + 1, 0, none⟩ = some (.bool false) := (row_cells h1).1 0
    have q4 : W.frozen? ⟨w.heap.size + 1, 0, none⟩ = false := (row_cells h1).2 0
    have hz := HZ.out
    have hne : w.heap.size + 1 ≠ D := by omega
    have h5 : (W.setCell ⟨w.heap.size + 1, 0, none⟩ (.bool true)).heap[D]? = some (.deferred (some [])) := (Below.heap_setCell _ _ _ _ (fun h => hne h.symm)).trans hK
    have h6 : ((W.setCell ⟨w.heap.size + 1, 0, none⟩ (.bool true)).putObj D (.deferred none)).heap[w.heap.size + 1]? = some (.cells #[.bool true] 4 (0, 0)) := (World.putObj_heap_other hne).trans (heap_one h1)
    have h7 : ((W.setCell ⟨w.heap.size + 1, 0, none⟩ (.bool true)).putObj D (.deferred none)).cell? ⟨w.heap.size + 1, 0, none⟩ = some (.bool true) := (row_cells h6).1 0
    have h8 : Below w.heap.size w ((W.setCell ⟨w.heap.size + 1, 0, none⟩ (.bool true)).putObj D (.deferred none)) :=
      (h2.setCell (p := ⟨w.heap.size + 1, 0, none⟩) (by simp) _).trans (belowK_b (w := w) (Nat.le_refl _) _ D _ _ (by omega) h5 rfl rfl)
    have HK := Lib.hid (And.intro h5 (And.intro h7 h8))
    have hfin : okT (erase t) = true := by rw [← HOK.out, h4]
    have HFN := Lib.hid hfin
    clear hK h1 h2 h4 hz h5 h6 h7 h8 hfin
    gi_wp2
    refine ⟨by simp, .inl ⟨_, _, rfl, run_takeDeferred HK.out.1, ?_⟩⟩
    obtain ⟨_, h7, h8⟩ := HK.out
    generalize ((W.setCell ⟨w.heap.size + 1, 0, none⟩ (.bool true)).putObj D (.deferred none)) = W9 at *
    exact ⟨.bool true, by simp [results, Tryd.results18, go_sem, h7], by rw [HFN.out], h8⟩
  case stop =>
    rintro D pre x post W hx ⟨h1, h2, h3, h4⟩ hD2 hK
    have hz := HZ.out
    have hne : w.heap.size + 1 ≠ D := by omega
    have h6 : (W.putObj D (.deferred none)).heap[w.heap.size + 1]? = some (.cells #[.bool false] 4 (0, 0)) := (World.putObj_heap_other hne).trans h1
    have h7 : (W.putObj D (.deferred none)).cell? ⟨w.heap.size + 1, 0, none⟩ = some (.bool false) := (row_cells h6).1 0
    have h8 : Below w.heap.size w (W.putObj D (.deferred none)) := h2.trans (belowK_b (w := w) (Nat.le_refl _) _ D _ _ (by omega) hK rfl rfl)
    have HK := Lib.hid (And.intro hK (And.intro h7 h8))
    have hfin : okT (erase t) = false := by
      rw [← HOK.out, hx, show pre ++ x :: post = (pre ++ [x]) ++ post by simp, List.all_append, h4]
      rfl
    have HFN := Lib.hid hfin
    clear hK h1 h2 h4 hz h6 h7 h8 hfin
    gi_wp2
    refine ⟨by simp, .inl ⟨_, _, rfl, run_takeDeferred HK.out.1, ?_⟩⟩
    obtain ⟨_, h7, h8⟩ := HK.out
    generalize (W.putObj D (.deferred none)) = W9 at *
    exact ⟨.bool false, by simp [results, Tryd.results18, go_sem, h7], by rw [HFN.out], h8⟩

end Go.Proofs.YtpibkalbnjgpaaaDoor

/- Whether two nodes are alike, whatever their parts: the program's own call, a contract.
   Conditions: both lie in memory. -/
namespace Go.Proofs.YtpibkalbnjgpaaaDoor
open Go.RowKit Go.Deep
attribute [local go_sem] nodeAgg

/-- A node's cells lie there. -/
structure NodeAt (w : World) (b o : Nat) (t : V) : Prop where
  cell : ∀ j u, (ndc t)[j]? = some u → w.cell? ⟨b, o + j, none⟩ = some u
  laid : ∃ R, Laid w R t
theorem NodeAt.keep {w w' : World} {b o : Nat} {t : V} (h : NodeAt w b o t) (hb : Below w.heap.size w w') : NodeAt w' b o t := by
  refine ⟨fun j u hu => ?_, ?_⟩
  · have := h.cell j u hu
    exact (hb.cell (p := ⟨b, o + j, none⟩) (World.block_lt_of_cell? _ _ this)).trans this
  · obtain ⟨R, hR⟩ := h.laid
    exact ⟨R, hR.keep (fun _ _ h => h) hb.size fun k hk _ => hb.block k hk⟩
theorem NodeAt.lt {w : World} {b o : Nat} {t : V} (h : NodeAt w b o t) : b < w.heap.size := World.block_lt_of_cell? _ _ (h.cell 0 _ rfl)

end Go.Proofs.YtpibkalbnjgpaaaDoor

/- Whether two trees are alike: the program's own call, a contract.
   Conditions: both lie in memory, and the first one has at most 1000000 nodes. -/
namespace Go.Proofs.YtpibkalbnjgpaaaDoor
open Go.RowKit Go.Deep Go.Shelf
attribute [local go_sem] nodeAgg

/-- A node lies there, it and all below it in blocks ahead of B. -/
def NodeB (B : Nat) (w : World) (b o : Nat) (t : V) : Prop := b < B ∧ (∀ j u, (ndc t)[j]? = some u → w.cell? ⟨b, o + j, none⟩ = some u) ∧ Laid w (fun x => x < B) t
theorem NodeB.at {B b o : Nat} {w : World} {t : V} (h : NodeB B w b o t) : NodeAt w b o t := ⟨h.2.1, _, h.2.2⟩
theorem NodeB.chg {B b o : Nat} {w w' : World} {t : V} (h : NodeB B w b o t) (hc : Chg (fun x => B ≤ x) w w') : NodeB B w' b o t := by
  obtain ⟨h1, h2, h3⟩ := h
  refine ⟨h1, fun j u hu => ?_, h3.chg hc fun x _ hx => by omega⟩
  have := h2 j u hu
  exact (hc.cell (o + j) (World.block_lt_of_cell? _ _ this) (by show ¬ B ≤ b; omega)).trans this
theorem NodeB.part {B b o : Nat} {w : World} {t : V} (h : NodeB B w b o t) : ∃ sa sc, t.v = .slice sa t.ps.length sc ∧ ∀ (i : Nat) (p : V), t.ps[i]? = some p → ∃ b' o', sa = some ⟨b', o', none⟩ ∧ NodeB B w b' (o' + i * 8) p := by
  obtain ⟨h1, h2, h3⟩ := h
  rcases laid_inv h3 with ⟨e, a, cap, hv⟩ | ⟨b', off, cap, hv, hR, hlt, hcap, hc, hk⟩
  · exact ⟨a, cap, by rw [hv, e]; rfl, fun i p hp => by rw [e] at hp; simp at hp⟩
  · exact ⟨_, cap, hv, fun i p hp => ⟨b', off, rfl, hR, hc i p hp, hk p (List.mem_of_getElem? hp)⟩⟩
theorem NodeB.kids {B b o : Nat} {w : World} {t : V} (h : NodeB B w b o t) : ∃ sa sc kb ko, t.v = .slice sa t.ps.length sc ∧ ∀ (i : Nat) (p : V), t.ps[i]? = some p → sa = some ⟨kb, ko, none⟩ ∧ NodeB B w kb (ko + i * 8) p := by
  obtain ⟨h1, h2, h3⟩ := h
  rcases laid_inv h3 with ⟨e, a, cap, hv⟩ | ⟨b', off, cap, hv, hR, hlt, hcap, hc, hk⟩
  · exact ⟨a, cap, 0, 0, by rw [hv, e]; rfl, fun i p hp => by rw [e] at hp; simp at hp⟩
  · exact ⟨_, cap, b', off, hv, fun i p hp => ⟨rfl, hR, hc i p hp, hk p (List.mem_of_getElem? hp)⟩⟩
theorem NodeB.five {B b o : Nat} {w : World} {t : V} {v : Value} (h : NodeB B w b o t) (hv : t.v = v) : w.cell? ⟨b, o + 5, none⟩ = some v := h.2.1 5 _ (by rw [← hv]; rfl)
/-- Two nodes that are still to be compared, and where they lie. -/
structure Pr where
  b1 : Nat
  o1 : Nat
  b2 : Nat
  o2 : Nat
  a : V
  b : V
def Pr.okay (B : Nat) (w : World) (p : Pr) : Prop := NodeB B w p.b1 p.o1 p.a ∧ NodeB B w p.b2 p.o2 p.b
theorem Pr.okay.chg {B : Nat} {w w' : World} {p : Pr} (h : p.okay B w) (hc : Chg (fun x => B ≤ x) w w') : p.okay B w' := ⟨h.1.chg hc, h.2.chg hc⟩
def pcells (l : List Pr) : List Value := l.flatMap fun p => [.pointer (some ⟨p.b1, p.o1, none⟩), .pointer (some ⟨p.b2, p.o2, none⟩)]
theorem pcells_snoc (l : List Pr) (p : Pr) : pcells (l ++ [p]) = pcells l ++ [.pointer (some ⟨p.b1, p.o1, none⟩), .pointer (some ⟨p.b2, p.o2, none⟩)] := by unfold pcells; simp
theorem pcells_length (l : List Pr) : (pcells l).length = l.length * 2 := by
  induction l with
  | nil => rfl
  | cons p l ih =>
    have : pcells (p :: l) = [.pointer (some ⟨p.b1, p.o1, none⟩), .pointer (some ⟨p.b2, p.o2, none⟩)] ++ pcells l := by unfold pcells; simp
    rw [this, List.length_append, ih]
    simp
    omega
def alike (l : List Pr) : Bool := l.all fun p => likeT (erase p.a) (erase p.b)
theorem alike_snoc (l : List Pr) (p : Pr) : alike (l ++ [p]) = (alike l && likeT (erase p.a) (erase p.b)) := by unfold alike; simp
def weight : List Pr → Nat
  | [] => 0
  | p :: l => szT (erase p.a) + weight l
theorem weight_append (a b : List Pr) : weight (a ++ b) = weight a + weight b := by
  induction a with
  | nil => simp [weight]
  | cons p a ih => rw [List.cons_append, weight, weight, ih]; omega
theorem weight_one (p : Pr) : weight [p] = szT (erase p.a) := by rw [weight, weight]; omega
theorem len_weight (l : List Pr) : l.length ≤ weight l := by
  induction l with
  | nil => simp [weight]
  | cons p l ih => rw [weight, List.length_cons]; have := sz_pos (erase p.a); omega
/-- The pairs of the parts of two nodes, as far as the number i. -/
def kids (b1 o1 b2 o2 : Nat) (ps qs : List V) : Nat → List Pr
  | 0 => []
  | i + 1 => kids b1 o1 b2 o2 ps qs i ++ (match ps[i]?, qs[i]? with
    | some p, some q => [⟨b1, o1 + i * 8, b2, o2 + i * 8, p, q⟩]
    | _, _ => [])
theorem kids_succ {b1 o1 b2 o2 i : Nat} {ps qs : List V} {p q : V} (hp : ps[i]? = some p) (hq : qs[i]? = some q) : kids b1 o1 b2 o2 ps qs (i + 1) = kids b1 o1 b2 o2 ps qs i ++ [⟨b1, o1 + i * 8, b2, o2 + i * 8, p, q⟩] := by
  rw [kids, hp, hq]
theorem kids_facts {b1 o1 b2 o2 : Nat} {ps qs : List V} (hlen : ps.length = qs.length) : ∀ (i : Nat), i ≤ ps.length →
    (kids b1 o1 b2 o2 ps qs i).length = i ∧ weight (kids b1 o1 b2 o2 ps qs i) = szsT (erases (ps.take i)) ∧ alike (kids b1 o1 b2 o2 ps qs i) = likesT (erases (ps.take i)) (erases (qs.take i))
  | 0, _ => ⟨rfl, by simp [kids, weight, erases, szsT], by simp [kids, alike, erases, likesT]⟩
  | i + 1, h => by
    obtain ⟨h1, h2, h3⟩ := kids_facts (b1 := b1) (o1 := o1) (b2 := b2) (o2 := o2) hlen i (by omega)
    obtain ⟨p, hp⟩ : ∃ p, ps[i]? = some p := ⟨_, List.getElem?_eq_getElem (by omega)⟩
    obtain ⟨q, hq⟩ : ∃ q, qs[i]? = some q := ⟨_, List.getElem?_eq_getElem (by omega)⟩
    rw [kids_succ hp hq, weight_append, weight_one, alike_snoc, h2, h3, List.length_append, h1, szs_take hp, likes_take hlen hp hq]
    exact ⟨rfl, rfl, rfl⟩
theorem kids_mem {B : Nat} {w : World} {b1 o1 b2 o2 : Nat} {ps qs : List V} (hlen : ps.length = qs.length) (h1 : ∀ i p, ps[i]? = some p → NodeB B w b1 (o1 + i * 8) p) (h2 : ∀ i p, qs[i]? = some p → NodeB B w b2 (o2 + i * 8) p) : ∀ (i : Nat), i ≤ ps.length → ∀ x, x ∈ kids b1 o1 b2 o2 ps qs i → x.okay B w
  | 0, _, x, hx => by simp [kids] at hx
  | i + 1, h, x, hx => by
    obtain ⟨p, hp⟩ : ∃ p, ps[i]? = some p := ⟨_, List.getElem?_eq_getElem (by omega)⟩
    obtain ⟨q, hq⟩ : ∃ q, qs[i]? = some q := ⟨_, List.getElem?_eq_getElem (by omega)⟩
    rw [kids_succ hp hq, List.mem_append] at hx
    rcases hx with hx | hx
    · exact kids_mem hlen h1 h2 i (by omega) x hx
    · simp at hx
      subst hx
      exact ⟨h1 i p hp, h2 i q hq⟩
theorem alike_append (a b : List Pr) : alike (a ++ b) = (alike a && alike b) := by unfold alike; simp
end Go.Proofs.YtpibkalbnjgpaaaDoor
