/- What the document's own telling whether a tree is formed comes to: a contract.
   Conditions: the tree lies in memory, and has at most 1000000 nodes. -/
import Derived.Test.YtdjddmkmcdfmiaaDoorMRef
import Derived.Deep.DeepCutAuto
import Derived.Deep.CutBlock

/- What the document's own telling whether a tree is formed comes to: a contract.
   Conditions: the tree lies in memory, and has at most 1000000 nodes. -/
namespace Go.Proofs.YtdjddmkmcdfmiaaDoor
open Go.RowKit
attribute [local go_sem] nodeAgg

theorem equal_zero (C : Nat → Nat) (w : World) : (Op.equalIn 10000 24 (.agg #[.int .u64 (C 0 : Nat), .int .u64 (C 1 : Nat), .int .u64 (C 2 : Nat), .int .u64 (C 3 : Nat)]) (.agg #[.int .u64 0, .int .u64 0, .int .u64 0, .int .u64 0])).run Tryd.prog w = .ok (z4 C) w := by
  rw [run_equal4]
  unfold z4
  congr 1
  rw [Bool.eq_iff_iff]
  simp
theorem beq_f {a b : Int} (h : ¬ a = b) : (a == b) = false := by simp [h]
theorem oks_false {ps : List V} {i : Nat} (h : oksT (erases (ps.take i)) = false) : oksT (erases ps) = false := by
  have h2 := oks_append (erases (ps.take i)) (erases (ps.drop i))
  rw [← erases_append, List.take_append_drop, h] at h2
  rw [h2]; rfl

theorem okA_0 (Z : Bool) (lo hi : Int) (n : Nat) : okA 0 Z lo hi n = (Z && decide (lo = 0 ∧ hi = 0) && decide (n = 0)) := by
  unfold okA; rw [Bool.eq_iff_iff]; simp [and_assoc]
theorem okA_1 (Z : Bool) (lo hi : Int) (n : Nat) : okA 1 Z lo hi n = (decide (lo = 0 ∧ hi = 0) && decide (n = 0)) := by
  unfold okA; rw [Bool.eq_iff_iff]; simp [and_assoc]
theorem okA_2 (Z : Bool) (lo hi : Int) (n : Nat) : okA 2 Z lo hi n = (Z && decide (lo = 0 ∧ hi = 0) && decide (2 ≤ n)) := by
  unfold okA; rw [Bool.eq_iff_iff]; simp [and_assoc]
theorem okA_3 (Z : Bool) (lo hi : Int) (n : Nat) : okA 3 Z lo hi n = (Z && decide (lo = 0 ∧ hi = 0) && decide (2 ≤ n)) := by
  unfold okA; rw [Bool.eq_iff_iff]; simp [and_assoc]
theorem okA_4 (Z : Bool) (lo hi : Int) (n : Nat) : okA 4 Z lo hi n = (Z && decide (n = 1) && bnd lo hi) := by
  unfold okA; rw [Bool.eq_iff_iff]; simp [and_assoc]
theorem okA_n {k : Int} (Z : Bool) (lo hi : Int) (n : Nat) (h0 : ¬ k = 0) (h1 : ¬ k = 1) (h2 : ¬ k = 2) (h3 : ¬ k = 3) (h4 : ¬ k = 4) : okA k Z lo hi n = false := by
  unfold okA; simp [h0, h1, h2, h3, h4]

set_option maxHeartbeats 4000000 in
set_option maxRecDepth 100000 in
theorem formed_ref (N : Nat) : N ≤ 1000000 → ∀ (t : V) (w : World) (R : Nat → Prop), szT (erase t) ≤ N → Laid w R t →
    Calls Tryd.prog 14 #[nodeAgg t] w fun e w' => e = .returned (.bool (okT (erase t))) ∧ Below w.heap.size w w' := by
  induction N with
  | zero => intro _ t w R h; rw [sz_eq] at h; omega
  | succ N ih =>
    intro hN t w R hd ha
    obtain ⟨sa, sc, hv, hrow⟩ := laid_row' ha
    have hsz := sz_eq t
    have hok := okT_eq t
    have hlen := len_sz t.ps
    unfold okV at hok
    simp only [nodeAgg]
    rw [hv, hok]
    have heq := equal_zero t.set
    generalize z4 t.set = Z at *
    generalize t.kind = k, t.set = C, t.lo = lo, t.hi = hi at *
    generalize hps : t.ps = ps at *
    have hd2 : szsT (erases ps) ≤ N := by omega
    have hn1 : (ps.length : Int) ≤ 1000000 := by omega
    have HR := Lib.hid (And.intro hrow (And.intro (ih (by omega)) hd2))
    clear hrow ih hsz hok hlen hd2 hd hv ha hps
    go_enter Tryd.func14, Tryd.ntmps14
    obtain ⟨B, hB⟩ : ∃ B, okA k Z lo hi ps.length = B := ⟨_, rfl⟩
    rw [hB]
    have HBB := Lib.hid hB
    clear hB
    obtain ⟨F, hF⟩ : ∃ F, F = decide (lo = 0 ∧ hi = 0) := ⟨_, rfl⟩
    have HF := Lib.hid hF
    clear hF
    go_upto_region 2 with fail
    go_cut [4] (fun s wx => s = .bool F ∧ wx = w.alloc (.cells #[.int .i64 k, .int .u64 (C 0 : Nat), .int .u64 (C 1 : Nat), .int .u64 (C 2 : Nat), .int .u64 (C 3 : Nat), .slice sa ps.length sc, .int .i64 lo, .int .i64 hi] 27))
    case first =>
      by_cases h1 : lo = 0
      · by_cases h2 : hi = 0
        · subst h1 h2
          go_wp2_with fail
          go_meet
          exact ⟨by rw [HF.out]; rfl, rfl⟩
        · have g2 := beq_f h2
          have HE : Hid (F = false) := Lib.hid (by rw [HF.out]; simp [h2])
          subst h1
          clear h2
          go_wp2_with fail
          go_meet
          exact ⟨by rw [HE.out], rfl⟩
      · have g2 := beq_f h1
        have HE : Hid (F = false) := Lib.hid (by rw [HF.out]; simp [h1])
        clear h1
        go_wp2_with fail
        go_meet
        exact ⟨by rw [HE.out], rfl⟩
    case rest =>
      obtain ⟨rfl, rfl⟩ := hcut
      go_upto_block 0 with fail
      go_cut [5] (fun s wx => s = .bool B ∧ wx = w.alloc (.cells #[.int .i64 k, .int .u64 (C 0 : Nat), .int .u64 (C 1 : Nat), .int .u64 (C 2 : Nat), .int .u64 (C 3 : Nat), .slice sa ps.length sc, .int .i64 lo, .int .i64 hi] 27))
      case first =>
        by_cases h0 : k = 0
        · subst h0
          have HO := Lib.hid (okA_0 Z lo hi ps.length)
          rw [← HF.out] at HO
          cases Z <;> cases F <;> by_cases hn : ps.length = 0
          all_goals
            have hn2 : ((ps.length : Int) == 0) = decide (ps.length = 0) := by rw [Bool.eq_iff_iff]; simp
            first
              | rw [decide_eq_true hn] at hn2 HO
              | rw [decide_eq_false hn] at hn2 HO
            clear hn
            go_wp2_with fail
            go_meet
            exact ⟨by rw [← HBB.out, HO.out]; rfl, rfl⟩
        · by_cases h1 : k = 1
          · subst h1
            have HO := Lib.hid (okA_1 Z lo hi ps.length)
            rw [← HF.out] at HO
            clear h0
            cases F <;> by_cases hn : ps.length = 0
            all_goals
              have hn2 : ((ps.length : Int) == 0) = decide (ps.length = 0) := by rw [Bool.eq_iff_iff]; simp
              first
                | rw [decide_eq_true hn] at hn2 HO
                | rw [decide_eq_false hn] at hn2 HO
              clear hn
              go_wp2_with fail
              go_meet
              exact ⟨by rw [← HBB.out, HO.out]; rfl, rfl⟩
          · by_cases h23 : k = 2 ∨ k = 3
            · have HO : Hid (okA k Z lo hi ps.length = (Z && F && decide (2 ≤ ps.length))) := Lib.hid (by rcases h23 with h | h <;> subst h <;> rw [HF.out] <;> first | exact okA_2 _ _ _ _ | exact okA_3 _ _ _ _)
              clear h0 h1
              cases Z <;> cases F <;> by_cases hn : 2 ≤ ps.length
              all_goals
                first
                  | (have hn2 : (1 : Int) < (ps.length : Int) := by omega
                     rw [decide_eq_true hn] at HO)
                  | (have hn2 : ¬ (1 : Int) < (ps.length : Int) := by omega
                     rw [decide_eq_false hn] at HO)
                clear hn
                rcases h23 with rfl | rfl
                all_goals
                  go_wp2_with fail
                  go_meet
                  exact ⟨by rw [← HBB.out, HO.out]; rfl, rfl⟩
            · by_cases h4 : k = 4
              · subst h4
                have HO := Lib.hid (okA_4 Z lo hi ps.length)
                clear h0 h1 h23
                cases Z
                · go_wp2_with fail
                  go_meet
                  exact ⟨by rw [← HBB.out, HO.out]; rfl, rfl⟩
                · by_cases hn : ps.length = 1
                  · have hn2 : ((ps.length : Int) == 1) = true := by simp [hn]
                    have HB : Hid (okA 4 true lo hi ps.length = bnd lo hi) := Lib.hid (by rw [HO.out, decide_eq_true hn]; rfl)
                    clear hn HO
                    by_cases hm : hi = -1
                    · subst hm
                      go_wp2_with fail
                      all_goals
                        go_meet
                        refine ⟨?_, rfl⟩
                        rw [← HBB.out, HB.out]
                        congr 1
                        unfold bnd
                        rw [Bool.eq_iff_iff]
                        simp <;> omega
                    · have gm := beq_f hm
                      have HM := Lib.hid hm
                      clear hm
                      go_wp2_with fail
                      all_goals
                        go_meet
                        refine ⟨?_, rfl⟩
                        rw [← HBB.out, HB.out]
                        have hm := HM.out
                        congr 1
                        unfold bnd
                        rw [Bool.eq_iff_iff]
                        simp <;> omega
                  · have hn2 : ((ps.length : Int) == 1) = false := by simp; omega
                    rw [decide_eq_false hn] at HO
                    clear hn
                    go_wp2_with fail
                    go_meet
                    exact ⟨by rw [← HBB.out, HO.out]; rfl, rfl⟩
              · have HO := Lib.hid (okA_n Z lo hi ps.length h0 h1 (fun h => h23 (.inl h)) (fun h => h23 (.inr h)) h4)
                have g0 := beq_f h0
                have g1 := beq_f h1
                have g2 : (k == 2) = false := beq_f fun h => h23 (.inl h)
                have g3 : (k == 3) = false := beq_f fun h => h23 (.inr h)
                have g4 := beq_f h4
                clear h0 h1 h23 h4
                go_wp2_with fail
                go_meet
                exact ⟨by rw [← HBB.out, HO.out], rfl⟩
      case rest =>
        obtain ⟨rfl, rfl⟩ := hcut
        clear HF heq HBB
        go_wp2_with fail
        go_loopw [5, 6] (fun kk x wr => ∃ i : Nat, x = .int .i64 i ∧ i ≤ ps.length ∧ kk = .bool (B && oksT (erases (ps.take i))) ∧ wr.cell? ⟨w.heap.size, 5, none⟩ = some (.slice sa ps.length sc) ∧ Below w.heap.size w wr ∧ w.heap.size < wr.heap.size) (fun _ x _ => match x with | .int _ z => ps.length - z.toNat | _ => 0)
        case atStart => exact ⟨0, rfl, by omega, by simp [erases, oksT], by go_simp, (Below.refl _ _).alloc (Nat.le_refl _) _, by simp⟩
        case round =>
          obtain ⟨i, rfl, hi, rfl, c1, hb, hsz⟩ := hrel
          by_cases hlt : i < ps.length
          · have g1 : (i : Int) < (ps.length : Int) := by omega
            cases hG : (B && oksT (erases (ps.take i))) with
            | false =>
              have hall : (B && oksT (erases ps)) = false := by
                cases B with
                | false => rfl
                | true => simp at hG ⊢; exact oks_false hG
              have HA := Lib.hid hall
              clear hG hall
              go_wp2_with fail
              go_ret
              exact ⟨by show Ending.returned (.bool false) = _; rw [HA.out], hb⟩
            | true =>
              obtain ⟨p, hp⟩ : ∃ p, ps[i]? = some p := ⟨_, List.getElem?_eq_getElem hlt⟩
              have hnext : (B && oksT (erases (ps.take (i + 1)))) = okT (erase p) := by
                rw [oks_take hp]
                simp at hG
                rw [hG.1, hG.2]
                simp
              obtain ⟨r1, r2, r3⟩ := HR.out
              obtain ⟨b1, o1, rfl, hlt1, cc1, L1⟩ := r1 i p hp
              obtain ⟨x0, x1, x2, x3, x4, x5, x6, x7⟩ := node_cells cc1 hlt1 hb
              have HC := Lib.hid (r2 p wr R (Nat.le_trans (sz_mem (List.mem_of_getElem? hp)) r3) (L1.keep (fun _ _ h => h) hb.size fun k hk _ => hb.block k hk))
              have HN := Lib.hid hnext
              clear r1 r2 r3 cc1 L1 hp hlt1 hnext hG
              go_wp2_with fail
              go_at_call 14
              refine HC.out.mono ?_
              rintro e w3 ⟨rfl, hb3⟩
              have f1 : w3.cell? ⟨w.heap.size, 5, none⟩ = some (.slice (some ⟨b1, o1, none⟩) ps.length sc) := (hb3.cell (p := ⟨w.heap.size, 5, none⟩) hsz).trans c1
              have fz : w.heap.size < w3.heap.size := by have := hb3.size; omega
              have hb4 : Below w.heap.size w w3 := hb.trans (hb3.mono hb.size)
              clear hb3 hb HC x0 x1 x2 x3 x4 x5 x6 x7
              generalize okT (erase p) = E at *
              go_wp2_with fail
              exact ⟨⟨i + 1, by simp, by omega, by rw [HN.out], f1, hb4, fz⟩, by simp; omega⟩
          · have g1 : ¬ (i : Int) < (ps.length : Int) := by omega
            have hall : ps.take i = ps := szs_all (by omega)
            rw [hall]
            clear hall
            go_wp2_with fail
            go_ret
            exact ⟨rfl, hb⟩

end Go.Proofs.YtdjddmkmcdfmiaaDoor
