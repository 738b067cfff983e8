/- Of every text the statement SyntaxParses returns true, and it reads afterwards as before.
   No condition. -/
import Derived.Test.YtbodgadbhldbmaaBegin
import Derived.Test.YtbodgadbhldbmaaSize
import Derived.Test.YtbodgadbhldbmaaMRef
import Derived.Test.YtbodgadbhldbmaaMRdr
import Derived.Test.YtbodgadbhldbmaaMForm
import Derived.Test.YtbodgadbhldbmaaWake
import Derived.ProofKit
import Derived.OpenShut
import Derived.ChangeOld
import Derived.Below

/- The trees that are read from texts are formed: plain facts: no program is spoken of here.
   No conditions but those that each theorem states. -/
namespace Go.Proofs.Ytbodgadbhldbmaa

theorem z4_zeros : z4 zeros = true := by simp [z4, zeros]
theorem ok_zero : okT zeroT = true := by simp [zeroT, okT, oksT, okA, z4_zeros]
theorem ok_join {k : Int} (hk : k = 2 ∨ k = 3) {ps : List T} (h : oksT ps = true) : okT (joinT k ps) = true := by
  match ps, h with
  | [], _ => exact ok_zero
  | [p], h => rw [oks_one] at h; exact h
  | p :: q :: ps, h =>
    show okT (.node k zeros 0 0 (p :: q :: ps)) = true
    rw [okT, h]
    rcases hk with rfl | rfl <;> simp [okA, z4_zeros]
theorem ok_rep {b : Int × Int} {t : T} (h : okT t = true) (hb : bnd b.1 b.2 = true) : okT (repT b t) = true := by
  unfold repT
  rw [okT, oks_one, h]
  simp [okA, z4_zeros, hb]
theorem ok_atom (S : Nat → Bool) : okT (atomT S) = true := by
  unfold atomT
  rw [okT, oksT]
  simp [okA]
theorem oks_repLast {b : Int × Int} (hb : bnd b.1 b.2 = true) : ∀ {ps : List T}, oksT ps = true → oksT (repLast b ps) = true
  | [], h => h
  | [p], h => by
    show oksT [repT b p] = true
    rw [oks_one] at h ⊢
    exact ok_rep h hb
  | p :: q :: ps, h => by
    show oksT (p :: repLast b (q :: ps)) = true
    rw [oksT, Bool.and_eq_true] at h ⊢
    exact ⟨h.1, oks_repLast hb h.2⟩
theorem pnumber_bnd {r r' : List Nat} {n : Nat} (h : pnumber r = .ok n r') : n ≤ 2147483647 := by
  unfold pnumber at h
  split at h
  · cases h
  · split at h
    · cases h
    · injection h with h _; omega
theorem pupper_bnd {lo : Nat} {r r' : List Nat} {hi : Int} (hl : lo ≤ 2147483647) (h : pupper lo r = .ok hi r') : hi = -1 ∨ (0 ≤ hi ∧ hi ≤ 2147483647) := by
  unfold pupper at h
  split at h
  · injection h with h _; exact .inl h.symm
  · split at h
    · rename_i n r1 hn
      have := pnumber_bnd hn
      injection h with h _
      omega
    · cases h
  · injection h with h _; omega
theorem pbounds_bnd {br r r' : List Nat} {x : Int × Int} (h : pbounds br r = .ok x r') : bnd x.1 x.2 = true := by
  unfold pbounds at h
  split at h
  · cases h
  · rename_i lo r1 h1
    have l1 := pnumber_bnd h1
    split at h
    · cases h
    · rename_i hi r2 h2
      have l2 := pupper_bnd l1 h2
      split at h
      · split at h
        · cases h
        · rename_i hc
          injection h with h _
          subst h
          unfold bnd
          rw [decide_eq_true_iff]
          show (0 : Int) ≤ (lo : Int) ∧ _
          omega
      · cases h
theorem ptimes_bnd {b : Nat} {r r' : List Nat} {x : Int × Int} (h : ptimes b r = .ok x r') : bnd x.1 x.2 = true := by
  unfold ptimes at h
  split at h
  · injection h with h _; subst h; rfl
  · split at h
    · injection h with h _; subst h; rfl
    · split at h
      · injection h with h _; subst h; rfl
      · exact pbounds_bnd h
def okG (g : G) : Prop := oksT g.rows = true ∧ oksT g.row = true
theorem ok_shut {g : G} (h : okG g) : okT (shutT g) = true := by
  unfold shutT
  refine ok_join (.inr rfl) ?_
  rw [oks_append, h.1, oks_one, ok_join (.inl rfl) h.2]
  rfl
theorem ok_step {g : G} {frs : List G} {r : List Nat} {x : G × List G} {r' : List Nat} (hg : okG g) (hf : ∀ f ∈ frs, okG f) (h : pstep g frs r = .ok x r') : okG x.1 ∧ ∀ f ∈ x.2, okG f := by
  cases r with
  | nil => cases h
  | cons b r =>
    simp only [pstep] at h
    split at h
    · injection h with h _; subst h
      refine ⟨⟨by rw [oksT], by rw [oksT]⟩, fun f hm => ?_⟩
      rcases List.mem_cons.1 hm with rfl | hm
      · exact hg
      · exact hf f hm
    · split at h
      · injection h with h _; subst h
        refine ⟨⟨?_, by rw [oksT]⟩, hf⟩
        show oksT (g.rows ++ [joinT 2 g.row]) = true
        rw [oks_append, hg.1, oks_one, ok_join (.inl rfl) hg.2]
        rfl
      · split at h
        · split at h
          · cases h
          · rename_i p ps
            injection h with h _; subst h
            have hp := hf p (by simp)
            refine ⟨⟨hp.1, ?_⟩, fun f hm => hf f (by simp [hm])⟩
            show oksT (p.row ++ [shutT g]) = true
            rw [oks_append, hp.2, oks_one, ok_shut hg]
            rfl
        · split at h
          · split at h
            · cases h
            · split at h
              · cases h
              · rename_i t r2 ht
                injection h with h _; subst h
                exact ⟨⟨hg.1, oks_repLast (ptimes_bnd ht) hg.2⟩, hf⟩
          · split at h
            · cases h
            · injection h with h _; subst h
              refine ⟨⟨hg.1, ?_⟩, hf⟩
              show oksT (g.row ++ [atomT _]) = true
              rw [oks_append, hg.2, oks_one, ok_atom]
              rfl
theorem ok_run : ∀ (n : Nat) {g : G} {frs : List G} {r : List Nat} {t : T} {r' : List Nat}, r.length ≤ n → okG g → (∀ f ∈ frs, okG f) → prun g frs r = .ok t r' → okT t = true
  | n, g, frs, [], t, r', _, hg, _, h => by
    cases frs with
    | nil => rw [prun_nil'] at h; injection h with h _; subst h; exact ok_shut hg
    | cons p ps => rw [prun_open'] at h; cases h
  | n, g, frs, b :: r, t, r', hn, hg, hf, h => by
    rw [prun_cons'] at h
    split at h
    · cases h
    · rename_i x r2 hx
      have hl := pstep_len hx
      have hs := ok_step hg hf hx
      match n, hn with
      | 0, hn => simp at hn
      | n + 1, hn =>
        simp at hn hl
        exact ok_run n (by omega) hs.1 hs.2 h
theorem ok_all {r : List Nat} {t : T} {r' : List Nat} (h : prun ⟨[], []⟩ [] r = .ok t r') : okT t = true :=
  ok_run _ (Nat.le_refl _) ⟨by rw [oksT], by rw [oksT]⟩ (by simp) h
/-- What is read without an error: a formed tree, within the limits. -/
theorem pparse_formed {L : List Nat} (h : (pparse L).2.2 = 0) : okT (pparse L).1 = true ∧ dptT (pparse L).1 ≤ 20 ∧ plcT (pparse L).1 ≤ 40 ∧ szT (pparse L).1 ≤ 802 := by
  by_cases hL : 400 < L.length
  · rw [pparse_long hL] at h; cases h
  · cases hx : prun ⟨[], []⟩ [] L with
    | er r c =>
      rw [pparse_er hL hx] at h
      have : c ≠ 0 := by
        have := prun_er_code _ (Nat.le_refl _) hx
        omega
      exact absurd h this
    | ok t r =>
      rw [pparse_ok hL hx] at h ⊢
      by_cases hd : 20 < dptT t ∨ 40 < plcT t
      · rw [if_pos hd] at h; cases h
      · rw [if_neg hd]
        have := sz_all hx
        exact ⟨ok_all hx, by show dptT t ≤ 20; omega, by show plcT t ≤ 40; omega, by show szT t ≤ 802; omega⟩

end Go.Proofs.Ytbodgadbhldbmaa

/- The walk of the statement SyntaxParses: called with a text it returns true and changes nothing that was there.
   No condition. -/
namespace Go.Proofs.Ytbodgadbhldbmaa
open Go.RowKit

theorem below_to {a b c : World} (h : Below a.heap.size a b) (k : Below b.heap.size b c) : Below a.heap.size a c := h.trans (k.mono h.size)
theorem ncell8 {W : World} {b : Nat} {v : V} {sa : Option Addr} {sn sc : Nat} (hsl : v.v = .slice sa sn sc) (h : W.heap[b]? = some (.cells (ndc v).toArray 28 (0, 0))) :
    (W.cell? ⟨b, 0, none⟩ = some (.int .i64 v.kind) ∧ W.cell? ⟨b, 1, none⟩ = some (.int .u64 (v.set 0 : Nat)) ∧ W.cell? ⟨b, 2, none⟩ = some (.int .u64 (v.set 1 : Nat)) ∧ W.cell? ⟨b, 3, none⟩ = some (.int .u64 (v.set 2 : Nat))) ∧
    W.cell? ⟨b, 4, none⟩ = some (.int .u64 (v.set 3 : Nat)) ∧ W.cell? ⟨b, 5, none⟩ = some (.slice sa sn sc) ∧ W.cell? ⟨b, 6, none⟩ = some (.int .i64 v.lo) ∧ W.cell? ⟨b, 7, none⟩ = some (.int .i64 v.hi) := by
  obtain ⟨h1, _⟩ := row_cells h
  exact ⟨⟨h1 0, h1 1, h1 2, h1 3⟩, h1 4, by rw [h1 5]; show some v.v = _; rw [hsl], h1 6, h1 7⟩
theorem agg_ndc {v : V} {sa : Option Addr} {sn sc : Nat} (hsl : v.v = .slice sa sn sc) : #[.int .i64 v.kind, .int .u64 (v.set 0 : Nat), .int .u64 (v.set 1 : Nat), .int .u64 (v.set 2 : Nat), .int .u64 (v.set 3 : Nat), .slice sa sn sc, .int .i64 v.lo, .int .i64 v.hi] = (ndc v).toArray := by unfold ndc; rw [hsl]
theorem pparse_small (L : List Nat) : szT (pparse L).1 ≤ 802 := by
  by_cases h : (pparse L).2.2 = 0
  · exact (pparse_formed h).2.2.2
  · have hz : szT zeroT ≤ 802 := by simp [zeroT, szT, szsT]
    by_cases hL : 400 < L.length
    · rw [pparse_long hL]; exact hz
    · cases hx : prun ⟨[], []⟩ [] L with
      | er r c => rw [pparse_er hL hx]; exact hz
      | ok t r =>
        rw [pparse_ok hL hx] at h ⊢
        by_cases hd : 20 < dptT t ∨ 40 < plcT t
        · rw [if_pos hd]; exact hz
        · rw [if_neg hd] at h; exact absurd rfl h
theorem laid_low {w w' : World} {R : Nat → Prop} {t : V} (h : Laid w R t) (hb : Below w.heap.size w w') : Laid w' R t := h.keep (fun _ _ h => h) hb.size fun k hk _ => hb.block k hk

set_option maxHeartbeats 1000000 in
set_option maxRecDepth 100000 in
theorem parses_long (s : ByteArray) (w : World) (h : 420 < s.size) : Calls Try.prog 5 #[.string s] w fun e w' => e = .returned (.bool true) ∧ Below w.heap.size w w' := by
  have h1 : (420 : Int) < (s.size : Int) := by omega
  go_enter Try.func5, Try.ntmps5
  go_wp2_with fail
  go_at_call 10
  refine (awake_any _).mono ?_
  rintro e w1 ⟨rfl, hb1⟩
  go_wp2_with fail
  go_at_call 10
  refine (awake_any _).mono ?_
  rintro e w2 ⟨rfl, hb2⟩
  go_wp2_with fail
  go_ret
  exact ⟨rfl, below_to hb1 hb2⟩

set_option maxHeartbeats 4000000 in
set_option maxRecDepth 100000 in
theorem parses_short (s : ByteArray) (w : World) (h : s.size ≤ 420) : Calls Try.prog 5 #[.string s] w fun e w' => e = .returned (.bool true) ∧ Below w.heap.size w w' := by
  have h1 : ¬ (420 : Int) < (s.size : Int) := by omega
  have hcode := pparse_code (txt s)
  have hform := pparse_formed (L := txt s)
  have hsmall := pparse_small (txt s)
  go_enter Try.func5, Try.ntmps5
  go_wp2_with fail
  go_at_call 10
  refine (awake_any _).mono ?_
  rintro e w1 ⟨rfl, hb1⟩
  go_wp2_with fail
  go_at_call 11
  refine (parse_any s _).mono ?_
  rintro e w2 ⟨v, sa, sn, sc, hsl, rfl, her, hl, hb2⟩
  have hB2 := below_to hb1 hb2
  clear hb1 hb2
  have hnew := heap_alloc_new w2 (.cells #[.int .i64 v.kind, .int .u64 (v.set 0 : Nat), .int .u64 (v.set 1 : Nat), .int .u64 (v.set 2 : Nat), .int .u64 (v.set 3 : Nat), .slice sa sn sc, .int .i64 v.lo, .int .i64 v.hi] 28)
  have hB3 := hB2.alloc hB2.size (.cells #[.int .i64 v.kind, .int .u64 (v.set 0 : Nat), .int .u64 (v.set 1 : Nat), .int .u64 (v.set 2 : Nat), .int .u64 (v.set 3 : Nat), .slice sa sn sc, .int .i64 v.lo, .int .i64 v.hi] 28)
  have hl3 : Laid (w2.alloc (.cells #[.int .i64 v.kind, .int .u64 (v.set 0 : Nat), .int .u64 (v.set 1 : Nat), .int .u64 (v.set 2 : Nat), .int .u64 (v.set 3 : Nat), .slice sa sn sc, .int .i64 v.lo, .int .i64 v.hi] 28)) _ v := hl.chg ((Chg.refl (fun _ => False) w2).alloc _) (fun _ _ _ h => h)
  have hlt : w2.heap.size < (w2.alloc (.cells #[.int .i64 v.kind, .int .u64 (v.set 0 : Nat), .int .u64 (v.set 1 : Nat), .int .u64 (v.set 2 : Nat), .int .u64 (v.set 3 : Nat), .slice sa sn sc, .int .i64 v.lo, .int .i64 v.hi] 28)).heap.size := by simp
  have HN := Lib.hid (And.intro hnew (And.intro hB3 (And.intro hl3 hlt)))
  have HV := Lib.hid (And.intro hsl (And.intro her (And.intro hform hsmall)))
  clear hnew hB2 hB3 hl3 hlt hsl her hform hsmall hl
  generalize hc : (pparse (txt s)).2.2 = c at *
  generalize hat : (pparse (txt s)).2.1 = at' at *
  have HC := Lib.hid (And.intro hc hat)
  clear hc hat
  go_wp2_with fail
  go_at_call 14
  refine (parseR_any s _).mono ?_
  rintro e w3 ⟨v2, ta, tn, tc, hsl2, rfl, her2, hl2, hb3⟩
  rw [HC.out.1, HC.out.2]
  have hn3 := (hb3.block _ HN.out.2.2.2).trans HN.out.1
  rw [agg_ndc HV.out.1] at hn3
  have hsz1 : w2.heap.size < w3.heap.size := (Array.getElem?_eq_some_iff.1 hn3).1
  have hsz2 : w2.heap.size ≠ w3.heap.size := by omega
  have hB3 := below_to HN.out.2.1 hb3
  have hB4 := hB3.alloc hB3.size (.cells #[.int .i64 v2.kind, .int .u64 (v2.set 0 : Nat), .int .u64 (v2.set 1 : Nat), .int .u64 (v2.set 2 : Nat), .int .u64 (v2.set 3 : Nat), .slice ta tn tc, .int .i64 v2.lo, .int .i64 v2.hi] 28)
  have hq1 : Laid (w3.alloc (.cells #[.int .i64 v2.kind, .int .u64 (v2.set 0 : Nat), .int .u64 (v2.set 1 : Nat), .int .u64 (v2.set 2 : Nat), .int .u64 (v2.set 3 : Nat), .slice ta tn tc, .int .i64 v2.lo, .int .i64 v2.hi] 28)) _ v := (laid_low HN.out.2.2.1 hb3).chg ((Chg.refl (fun _ => False) w3).alloc _) (fun _ _ _ h => h)
  have hq2 : Laid (w3.alloc (.cells #[.int .i64 v2.kind, .int .u64 (v2.set 0 : Nat), .int .u64 (v2.set 1 : Nat), .int .u64 (v2.set 2 : Nat), .int .u64 (v2.set 3 : Nat), .slice ta tn tc, .int .i64 v2.lo, .int .i64 v2.hi] 28)) _ v2 := hl2.chg ((Chg.refl (fun _ => False) w3).alloc _) (fun _ _ _ h => h)
  have hn4 := (Below.heap_alloc w3 (.cells #[.int .i64 v2.kind, .int .u64 (v2.set 0 : Nat), .int .u64 (v2.set 1 : Nat), .int .u64 (v2.set 2 : Nat), .int .u64 (v2.set 3 : Nat), .slice ta tn tc, .int .i64 v2.lo, .int .i64 v2.hi] 28) w2.heap.size hsz1).trans hn3
  have hlt4 : w2.heap.size < (w3.alloc (.cells #[.int .i64 v2.kind, .int .u64 (v2.set 0 : Nat), .int .u64 (v2.set 1 : Nat), .int .u64 (v2.set 2 : Nat), .int .u64 (v2.set 3 : Nat), .slice ta tn tc, .int .i64 v2.lo, .int .i64 v2.hi] 28)).heap.size := by simp; omega
  have hsame := same_ref 1000000 (Nat.le_refl _) v v2 _ _ _ (by rw [HV.out.2.1]; have := HV.out.2.2.2; omega) hq1 hq2
  rw [HV.out.2.1, her2, like_self] at hsame
  simp only [nodeAgg, HV.out.1, hsl2] at hsame
  have HSAME := Lib.hid hsame
  have H4 := Lib.hid (And.intro hB4 (And.intro hq1 (And.intro hn4 hlt4)))
  obtain ⟨⟨n0, n1, n2, n3⟩, n4, n5, n6, n7⟩ := ncell8 HV.out.1 hn3
  clear hsame hB3 hB4 hq1 hq2 hn4 hlt4 hn3 hb3 hl2 her2 hsl2
  rcases hcode with rfl | rfl | rfl
  · have hF := HV.out.2.2.1 rfl
    have HF := Lib.hid hF
    clear hF
    go_wp2_with fail
    go_at_call 13
    refine HSAME.out.mono ?_
    clear HSAME
    rintro e w5 ⟨rfl, hb5⟩
    have hn5 := (hb5.block _ H4.out.2.2.2).trans H4.out.2.2.1
    have hsz5 : w2.heap.size < w5.heap.size := (Array.getElem?_eq_some_iff.1 hn5).1
    have HN5 := Lib.hid hn5
    have HB5 := Lib.hid (below_to H4.out.1 hb5)
    have HL5 := Lib.hid (laid_low H4.out.2.1 hb5)
    have HG1 := Lib.hid (fun (W : World) (h : Below w5.heap.size w5 W) => callsIn_wide.1 (formed_in v W sa sn sc HV.out.1 _ (laid_low HL5.out h) (by rw [dpt_erase, HV.out.2.1]; have := HF.out.2.1; omega)))
    have HG2 := Lib.hid (fun (W : World) (h : Below w5.heap.size w5 W) => callsIn_wide.1 (depth_in v W sa sn sc HV.out.1 _ (laid_low HL5.out h) (by rw [dpt_erase, HV.out.2.1]; have := HF.out.2.1; omega)))
    have HG3 := Lib.hid (fun (W : World) (h : Below w5.heap.size w5 W) => callsIn_wide.1 (places_in v W sa sn sc HV.out.1 _ (laid_low HL5.out h) (by rw [dpt_erase, HV.out.2.1]; have := HF.out.2.1; omega) (by rw [plc_erase, HV.out.2.1]; have := HF.out.2.2.1; omega)))
    clear n0 n1 n2 n3 n4 n5 n6 n7 hb5 hn5 hsz1 hsz2
    obtain ⟨⟨n0, n1, n2, n3⟩, n4, n5, n6, n7⟩ := ncell8 HV.out.1 HN5.out
    go_wp2_with fail
    go_at_call 15
    refine (HG1.out _ (Below.refl _ _)).mono ?_
    rintro e w6 ⟨rfl, hb6⟩
    rw [HV.out.2.1, HF.out.1]
    have hn6 := (hb6.block _ hsz5).trans HN5.out
    have hsz6 : w2.heap.size < w6.heap.size := (Array.getElem?_eq_some_iff.1 hn6).1
    have HN6 := Lib.hid hn6
    have HB6 := Lib.hid hb6
    clear n0 n1 n2 n3 n4 n5 n6 n7 hn6 hb6 hsz5
    obtain ⟨⟨n0, n1, n2, n3⟩, n4, n5, n6, n7⟩ := ncell8 HV.out.1 HN6.out
    have hdv : (dptV v : Int) ≤ 20 := by rw [dpt_erase, HV.out.2.1]; have := HF.out.2.1; omega
    have hpv : (plcV v : Int) ≤ 40 := by rw [plc_erase, HV.out.2.1]; have := HF.out.2.2.1; omega
    go_wp2_with fail
    go_at_call 16
    refine (HG2.out _ HB6.out).mono ?_
    rintro e w7 ⟨rfl, hb7⟩
    have hn7 := (hb7.block _ hsz6).trans HN6.out
    have hsz7 : w2.heap.size < w7.heap.size := (Array.getElem?_eq_some_iff.1 hn7).1
    have HN7 := Lib.hid hn7
    have HB7 := Lib.hid (below_to HB6.out hb7)
    clear n0 n1 n2 n3 n4 n5 n6 n7 hn7 hb7 hsz6
    obtain ⟨⟨n0, n1, n2, n3⟩, n4, n5, n6, n7⟩ := ncell8 HV.out.1 HN7.out
    go_wp2_with fail
    go_at_call 17
    refine (HG3.out _ HB7.out).mono ?_
    rintro e w8 ⟨rfl, hb8⟩
    go_wp2_with fail
    go_ret
    exact ⟨rfl, below_to HB5.out (below_to HB7.out hb8)⟩
  · go_wp2_with fail
    go_at_call 13
    refine HSAME.out.mono ?_
    rintro e w5 ⟨rfl, hb5⟩
    go_wp2_with fail
    go_ret
    exact ⟨rfl, below_to H4.out.1 hb5⟩
  · go_wp2_with fail
    go_at_call 13
    refine HSAME.out.mono ?_
    rintro e w5 ⟨rfl, hb5⟩
    go_wp2_with fail
    go_ret
    exact ⟨rfl, below_to H4.out.1 hb5⟩

theorem parses_walk (s : ByteArray) (w : World) : Calls Try.prog 5 #[.string s] w fun e w' => e = .returned (.bool true) ∧ Below w.heap.size w w' := by
  by_cases h : s.size ≤ 420
  · exact parses_short s w h
  · exact parses_long s w (by omega)

end Go.Proofs.Ytbodgadbhldbmaa

/- Of every text the statement SyntaxParses returns true, and it reads afterwards as before.
   No condition. -/
namespace Go.Proofs.Ytbodgadbhldbmaa
open Go.ChangeShapes Go.WideShapes Go.ChangeAt Go.RowKit

theorem paOwn : ownKnob Try.prog.godebug = none := by kernel_rfl
theorem paLaidOut : laidOutB Try.prog = true := by kernel_rfl

set_option maxRecDepth 100000 in
theorem syntaxParses_lifted (os : Os) (started : os.Started) (H : Type) (enc : TypeId × Value → H) :
    ReturnsInHanded {} Try.checked os 5 .any (Rows.syntaxParsesSpec.pre6 enc Try.prog Try.f5 Rows.syntaxParsesRow.domain false) (Rows.syntaxParsesSpec.post enc Try.prog Try.f5 false true false false) := by
  refine returnsInHanded_of_change (C := Try.checked) paOwn started (by kernel_rfl) Try.func5
    (ChangeSpec.witness6 (enc := enc) (C := Try.checked) false ⟨#[], #[.string .empty], []⟩ 8 (by kernel_rfl) (by kernel_rfl) (by kernel_rfl) (by kernel_rfl)) ?_
  intro W base args ds gs before hval0 hW hcnd _
  have hval : ∀ (j : Nat) t v, Try.f5.params[j]? = some t → args[j]? = some v → Value.okWide Try.prog W .any base t v := hval0
  have hW' := hW
  obtain ⟨p, q, hA0, hV, rfl, hfz, hnd⟩ := hW
  have hA : DataW.TrodAll enc Try.prog W 0 (fun _ => true) true Try.f5.params.toList args.toList ds p := hA0
  rw [Try.params5] at hA hval
  obtain ⟨v0, vs0, d0, ds0, p0, q0, hargs, rfl, rfl, h0, r0⟩ := trodAll_cons hA
  obtain ⟨rfl, rfl, rfl⟩ := trodAll_nil r0
  obtain rfl : args = #[v0] := by cases args; simp_all
  obtain ⟨rfl, rfl⟩ := trodVars_none hV
  have k0 := h0
  have lt0 : ∀ x ∈ p0, x.block < W.heap.size := by obtain ⟨m, hm⟩ := k0; exact DataW.trod_lt m _ _ _ hm
  obtain ⟨s, rfl, rfl, rfl, hs⟩ := Go.ChangeMaps.open_string Try.underlying9 (hval 0 9 v0 rfl rfl) h0
  clear hA0 hval0
  refine (parses_walk s W).mono fun e W' ⟨he, bel⟩ => ?_
  subst he
  exact ⟨_, rfl, _, _, _, [], _, [], hW', trodAll_mk1 (shut_bool Try.underlying4 _), (trodAll_cons_mk (Below.trod paLaidOut (by kernel_rfl) (of_decide_eq_true (by kernel_rfl)) k0 bel lt0) trodAll_mk0), rfl, bel.frame _, fun h => by cases h⟩

theorem syntaxParses_holds : Rows.SyntaxParsesSaid :=
  OpenClaim.holds_of_wide 5 Try.f5 rfl rfl rfl rfl rfl rfl rfl ⟨rfl, rfl, rfl, rfl, rfl⟩ rfl rfl rfl rfl rfl (by kernel_rfl) Try.func5 (by kernel_rfl)
    (of_decide_eq_true (by kernel_rfl)) (by unfold Func.isWrapper; rw [if_neg (of_decide_eq_false (by kernel_rfl))]; exact ⟨rfl, rfl⟩)
    (fun os started H enc _ => syntaxParses_lifted os started H enc)
#print axioms syntaxParses_holds

end Go.Proofs.Ytbodgadbhldbmaa
