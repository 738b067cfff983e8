/- Of every byte the statement ShowBytes returns true; the card: what its row lists is tied to the program's text.
   No condition. -/
import Derived.Test.YtpibkalbnjgpaaaDoorBegin
import Derived.Test.YtpibkalbnjgpaaaDoorSize
import Derived.Test.YtpibkalbnjgpaaaDoorMRef
import Derived.Test.YtpibkalbnjgpaaaDoorLoops
import Derived.Test.YtpibkalbnjgpaaaDoorMTxt
import Derived.Test.YtpibkalbnjgpaaaDoorMForm
import Derived.Test.YtpibkalbnjgpaaaDoorCards
import Derived.Test.YtpibkalbnjgpaaaDoorTie
import Derived.ProofKit
import Derived.LaidMore
import Derived.OpenShut
import Derived.ChangeOld
import Derived.Below
import Derived.SevenTiedAt

/- The trees that are read from texts are formed: plain facts: no program is spoken of here.
   No conditions but those that each theorem states. -/
namespace Go.Proofs.YtpibkalbnjgpaaaDoor

theorem z4_zeros : z4 zeros = true := by simp [z4, zeros]
theorem ok_zero : okT zeroT = true := by simp [zeroT, okT, oksT, okA, z4_zeros]
theorem ok_join {k : Int} (hk : k = 2 ∨ k = 3) {ps : List T} (h : oksT ps = true) : okT (joinT k ps) = true := by
  match ps, h with
  | [], _ => exact ok_zero
  | [p], h => rw [oks_one] at h; exact h
  | p :: q :: ps, h =>
    show okT (.node k zeros 0 0 (p :: q :: ps)) = true
    rw [okT, h]
    rcases hk with rfl | rfl <;> simp [okA, z4_zeros]
theorem ok_rep {b : Int × Int} {t : T} (h : okT t = true) (hb : bnd b.1 b.2 = true) : okT (repT b t) = true := by
  unfold repT
  rw [okT, oks_one, h]
  simp [okA, z4_zeros, hb]
theorem ok_atom (S : Nat → Bool) : okT (atomT S) = true := by
  unfold atomT
  rw [okT, oksT]
  simp [okA]
theorem oks_repLast {b : Int × Int} (hb : bnd b.1 b.2 = true) : ∀ {ps : List T}, oksT ps = true → oksT (repLast b ps) = true
  | [], h => h
  | [p], h => by
    show oksT [repT b p] = true
    rw [oks_one] at h ⊢
    exact ok_rep h hb
  | p :: q :: ps, h => by
    show oksT (p :: repLast b (q :: ps)) = true
    rw [oksT, Bool.and_eq_true] at h ⊢
    exact ⟨h.1, oks_repLast hb h.2⟩
theorem pnumber_bnd {r r' : List Nat} {n : Nat} (h : pnumber r = .ok n r') : n ≤ 2147483647 := by
  unfold pnumber at h
  split at h
  · cases h
  · split at h
    · cases h
    · injection h with h _; omega
theorem pupper_bnd {lo : Nat} {r r' : List Nat} {hi : Int} (hl : lo ≤ 2147483647) (h : pupper lo r = .ok hi r') : hi = -1 ∨ (0 ≤ hi ∧ hi ≤ 2147483647) := by
  unfold pupper at h
  split at h
  · injection h with h _; exact .inl h.symm
  · split at h
    · rename_i n r1 hn
      have := pnumber_bnd hn
      injection h with h _
      omega
    · cases h
  · injection h with h _; omega
theorem pbounds_bnd {br r r' : List Nat} {x : Int × Int} (h : pbounds br r = .ok x r') : bnd x.1 x.2 = true := by
  unfold pbounds at h
  split at h
  · cases h
  · rename_i lo r1 h1
    have l1 := pnumber_bnd h1
    split at h
    · cases h
    · rename_i hi r2 h2
      have l2 := pupper_bnd l1 h2
      split at h
      · split at h
        · cases h
        · rename_i hc
          injection h with h _
          subst h
          unfold bnd
          rw [decide_eq_true_iff]
          show (0 : Int) ≤ (lo : Int) ∧ _
          omega
      · cases h
theorem ptimes_bnd {b : Nat} {r r' : List Nat} {x : Int × Int} (h : ptimes b r = .ok x r') : bnd x.1 x.2 = true := by
  unfold ptimes at h
  split at h
  · injection h with h _; subst h; rfl
  · split at h
    · injection h with h _; subst h; rfl
    · split at h
      · injection h with h _; subst h; rfl
      · exact pbounds_bnd h
def okG (g : G) : Prop := oksT g.rows = true ∧ oksT g.row = true
theorem ok_shut {g : G} (h : okG g) : okT (shutT g) = true := by
  unfold shutT
  refine ok_join (.inr rfl) ?_
  rw [oks_append, h.1, oks_one, ok_join (.inl rfl) h.2]
  rfl
theorem ok_step {g : G} {frs : List G} {r : List Nat} {x : G × List G} {r' : List Nat} (hg : okG g) (hf : ∀ f ∈ frs, okG f) (h : pstep g frs r = .ok x r') : okG x.1 ∧ ∀ f ∈ x.2, okG f := by
  cases r with
  | nil => cases h
  | cons b r =>
    simp only [pstep] at h
    split at h
    · injection h with h _; subst h
      refine ⟨⟨by rw [oksT], by rw [oksT]⟩, fun f hm => ?_⟩
      rcases List.mem_cons.1 hm with rfl | hm
      · exact hg
      · exact hf f hm
    · split at h
      · injection h with h _; subst h
        refine ⟨⟨?_, by rw [oksT]⟩, hf⟩
        show oksT (g.rows ++ [joinT 2 g.row]) = true
        rw [oks_append, hg.1, oks_one, ok_join (.inl rfl) hg.2]
        rfl
      · split at h
        · split at h
          · cases h
          · rename_i p ps
            injection h with h _; subst h
            have hp := hf p (by simp)
            refine ⟨⟨hp.1, ?_⟩, fun f hm => hf f (by simp [hm])⟩
            show oksT (p.row ++ [shutT g]) = true
            rw [oks_append, hp.2, oks_one, ok_shut hg]
            rfl
        · split at h
          · split at h
            · cases h
            · split at h
              · cases h
              · rename_i t r2 ht
                injection h with h _; subst h
                exact ⟨⟨hg.1, oks_repLast (ptimes_bnd ht) hg.2⟩, hf⟩
          · split at h
            · cases h
            · injection h with h _; subst h
              refine ⟨⟨hg.1, ?_⟩, hf⟩
              show oksT (g.row ++ [atomT _]) = true
              rw [oks_append, hg.2, oks_one, ok_atom]
              rfl
theorem ok_run : ∀ (n : Nat) {g : G} {frs : List G} {r : List Nat} {t : T} {r' : List Nat}, r.length ≤ n → okG g → (∀ f ∈ frs, okG f) → prun g frs r = .ok t r' → okT t = true
  | n, g, frs, [], t, r', _, hg, _, h => by
    cases frs with
    | nil => rw [prun_nil'] at h; injection h with h _; subst h; exact ok_shut hg
    | cons p ps => rw [prun_open'] at h; cases h
  | n, g, frs, b :: r, t, r', hn, hg, hf, h => by
    rw [prun_cons'] at h
    split at h
    · cases h
    · rename_i x r2 hx
      have hl := pstep_len hx
      have hs := ok_step hg hf hx
      match n, hn with
      | 0, hn => simp at hn
      | n + 1, hn =>
        simp at hn hl
        exact ok_run n (by omega) hs.1 hs.2 h
theorem ok_all {r : List Nat} {t : T} {r' : List Nat} (h : prun ⟨[], []⟩ [] r = .ok t r') : okT t = true :=
  ok_run _ (Nat.le_refl _) ⟨by rw [oksT], by rw [oksT]⟩ (by simp) h
/-- What is read without an error: a formed tree, within the limits. -/
theorem pparse_formed {L : List Nat} (h : (pparse L).2.2 = 0) : okT (pparse L).1 = true ∧ dptT (pparse L).1 ≤ 20 ∧ plcT (pparse L).1 ≤ 40 ∧ szT (pparse L).1 ≤ 802 := by
  by_cases hL : 400 < L.length
  · rw [pparse_long hL] at h; cases h
  · cases hx : prun ⟨[], []⟩ [] L with
    | er r c =>
      rw [pparse_er hL hx] at h
      have : c ≠ 0 := by
        have := prun_er_code _ (Nat.le_refl _) hx
        omega
      exact absurd h this
    | ok t r =>
      rw [pparse_ok hL hx] at h ⊢
      by_cases hd : 20 < dptT t ∨ 40 < plcT t
      · rw [if_pos hd] at h; cases h
      · rw [if_neg hd]
        have := sz_all hx
        exact ⟨ok_all hx, by show dptT t ≤ 20; omega, by show plcT t ≤ 40; omega, by show szT t ≤ 802; omega⟩

end Go.Proofs.YtpibkalbnjgpaaaDoor

/- How many bytes a class has, and its least one: contracts; what a class of one byte is written as.
   Conditions: classes are four words below 2^64 ('Cl'), bytes below 256. -/
namespace Go.Proofs.YtpibkalbnjgpaaaDoor
open Go.RowKit

set_option maxHeartbeats 1000000 in
set_option maxRecDepth 100000 in
theorem csize_any (C : Nat → Nat) (w : World) (hC : Cl C) :
    Calls Tryd.prog 44 #[.agg #[.int .u64 (C 0 : Nat), .int .u64 (C 1 : Nat), .int .u64 (C 2 : Nat), .int .u64 (C 3 : Nat)]] w fun e w' => e = .returned (.int .i64 (cnt C 256)) ∧ Below w.heap.size w w' := by
  go_enter Tryd.func44, Tryd.ntmps44
  go_wp2
  go_loop [3, 5, 7] (fun n v i => ∃ k : Nat, k ≤ 4 ∧ i = .int .i64 k ∧ n = .int .i64 (cnt C (64 * k))) (fun _ _ i => 4 - (intOf i).toNat)
  case atStart => exact ⟨0, Nat.zero_le _, rfl, rfl⟩
  case round =>
    obtain ⟨k, hk, rfl, rfl⟩ := hrel
    by_cases hlt : k < 4
    · have i0 := idx_at C k hlt
      have hk0 : (0 : Int) ≤ (k : Int) := Int.natCast_nonneg _
      have hk1 : (k : Int) < 4 := by omega
      go_wp2
      go_loop [3, 5] (fun n v => ∃ j x : Nat, j ≤ 64 ∧ x = C k / 2 ^ j ∧ v = .int .u64 x ∧ n = .int .i64 (cnt C (64 * k + j))) (fun _ v => (intOf v).toNat)
      case atStart => exact ⟨0, _, Nat.zero_le _, by simp, rfl, rfl⟩
      case round =>
        obtain ⟨j, x, hj, hx, rfl, rfl⟩ := hrel
        have hb := cnt_le C (64 * k + j)
        have hxl : x < 18446744073709551616 := by rw [hx]; exact shr_bound hC _ _
        have hv := and_one_nat hxl
        by_cases hz : x = 0
        · have hd := cnt_done C k j (by rw [← hx]; exact hz) hj
          have HD := Lib.hid hd
          clear hd hx hv hxl
          subst hz
          go_wp2
          go_round
          case rel => exact ⟨k + 1, by omega, by go_num, by rw [HD.out]⟩
          case measure => simp [intOf]; omega
        · have hj' : j < 64 := shr_lt hC (i := k) (k := j) (by rw [← hx]; exact hz)
          have hs := cnt_step C k j hj'
          have HS := Lib.hid hs
          have HX := Lib.hid hx
          have hz' : ((x : Int) == 0) = false := by simp [hz]
          have hz2 : ((x : Int) != 0) = true := by simp [hz]
          have hw : IntKind.u64.wrap ((x : Int) / 2) = (x : Int) / 2 := wrapu hxl
          clear hs hx hxl
          go_wp2
          go_round
          case rel => exact ⟨j + 1, x / 2, by omega, by rw [HX.out, shr_succ], by go_num, by rw [HS.out, ← HX.out]; go_num⟩
          case measure => simp [intOf]; omega
    · have hk4 : k = 4 := by omega
      subst hk4
      go_wp2
      go_ret
      exact ⟨rfl, (Below.refl _ _).alloc (Nat.le_refl _) _⟩

def NoneBelow (C : Nat → Nat) (n : Nat) : Prop := ∀ b, b < n → hasB C b = false
theorem noneBelow_succ {C : Nat → Nat} {i j x : Nat} (h : NoneBelow C (64 * i + j)) (hx : x = C i / 2 ^ j) (hj : j < 64) (he : ((x : Int) % 2 == 1) = false) : NoneBelow C (64 * i + (j + 1)) := by
  intro b hb
  by_cases e : b = 64 * i + j
  · subst e
    rw [hasB_at C i j hj, ← hx]
    simp at he
    simp; omega
  · exact h b (by omega)
theorem noneBelow_rest {C : Nat → Nat} {i j : Nat} (h : NoneBelow C (64 * i + j)) (hz : C i / 2 ^ j = 0) : NoneBelow C (64 * (i + 1)) := by
  intro b hb
  by_cases e : b < 64 * i + j
  · exact h b e
  · have hk : b = 64 * i + (b - 64 * i) := by omega
    rw [hk, hasB_at C i _ (by omega), show b - 64 * i = j + (b - 64 * i - j) by omega, shr_zero_add hz]
    rfl
theorem least_here {C : Nat → Nat} {i j x : Nat} (h : NoneBelow C (64 * i + j)) (hx : x = C i / 2 ^ j) (hi : i < 4) (hj : j < 64) (he : ((x : Int) % 2 == 1) = true) : lst C 256 = some (64 * i + j) := by
  refine lst_some h ?_ 256 (by omega)
  rw [hasB_at C i j hj, ← hx]
  simp at he
  simp; omega

set_option maxHeartbeats 1000000 in
set_option maxRecDepth 100000 in
theorem least_any (C : Nat → Nat) (w : World) (hC : Cl C) :
    Calls Tryd.prog 45 #[.agg #[.int .u64 (C 0 : Nat), .int .u64 (C 1 : Nat), .int .u64 (C 2 : Nat), .int .u64 (C 3 : Nat)]] w fun e w' => e = .returned (.tuple #[.int .u8 ((lst C 256).getD 0 : Nat), .bool (lst C 256).isSome]) ∧ Below w.heap.size w w' := by
  go_enter Tryd.func45, Tryd.ntmps45
  go_wp2
  go_loop [4, 5, 6, 8] (fun _ _ _ i => ∃ k : Nat, k ≤ 4 ∧ i = .int .i64 k ∧ NoneBelow C (64 * k)) (fun _ _ _ i => 4 - (intOf i).toNat)
  case atStart => exact ⟨0, Nat.zero_le _, rfl, fun b hb => by omega⟩
  case round =>
    obtain ⟨k, hk, rfl, hn⟩ := hrel
    by_cases hlt : k < 4
    · have i0 := idx_at C k hlt
      have hk0 : (0 : Int) ≤ (k : Int) := Int.natCast_nonneg _
      have hk1 : (k : Int) < 4 := by omega
      go_wp2
      go_loop [5, 6] (fun v b => ∃ j x : Nat, j ≤ 64 ∧ x = C k / 2 ^ j ∧ v = .int .u64 x ∧ b = .int .i64 (64 * k + j : Nat) ∧ NoneBelow C (64 * k + j)) (fun v _ => (intOf v).toNat)
      case atStart => exact ⟨0, _, Nat.zero_le _, by simp, rfl, by go_num, hn⟩
      case round =>
        obtain ⟨j, x, hj, hx, rfl, rfl, hm⟩ := hrel
        have hxl : x < 18446744073709551616 := by rw [hx]; exact shr_bound hC _ _
        have hv := and_one_nat hxl
        by_cases hz : x = 0
        · have hd := noneBelow_rest hm (by rw [← hx]; exact hz)
          clear hx hv hxl
          subst hz
          go_wp2
          go_round
          case rel => exact ⟨k + 1, by omega, by go_num, hd⟩
          case measure => simp [intOf]; omega
        · have hj' : j < 64 := shr_lt hC (i := k) (k := j) (by rw [← hx]; exact hz)
          have hz' : ((x : Int) == 0) = false := by simp [hz]
          have hz2 : ((x : Int) != 0) = true := by simp [hz]
          have hw : IntKind.u64.wrap ((x : Int) / 2) = (x : Int) / 2 := wrapu hxl
          have HX := Lib.hid hx
          clear hx hxl
          by_cases ho : ((x : Int) % 2 == 1) = true
          · have hl := least_here hm HX.out hlt hj' ho
            go_wp2
            go_ret2
            exact ⟨rfl, (Below.refl _ _).alloc (Nat.le_refl _) _⟩
          · have ho' : ((x : Int) % 2 == 1) = false := by simpa using ho
            have hn' := noneBelow_succ hm HX.out hj' ho'
            go_wp2
            go_round
            case rel => exact ⟨j + 1, x / 2, by omega, by rw [HX.out, shr_succ], by go_num, by go_num, hn'⟩
            case measure => simp [intOf]; omega
    · have hk4 : k = 4 := by omega
      subst hk4
      have hl := lst_none hn
      go_wp2
      go_ret2
      exact ⟨rfl, (Below.refl _ _).alloc (Nat.le_refl _) _⟩

theorem cnt_only {C : Nat → Nat} {c : Nat} (h : ∀ b, hasB C b = decide (b = c)) : ∀ n, cnt C n = if c < n then 1 else 0
  | 0 => by rw [cnt_zero, if_neg (by omega)]
  | n + 1 => by
    rw [cnt_succ, cnt_only h n, h n]
    by_cases e : n = c
    · subst e; simp
    · have e3 : (c < n + 1) = (c < n) := by apply propext; omega
      simp [e, e3]
theorem mem_only {C : Nat → Nat} {c : Nat} (h : ∀ b, hasB C b = decide (b = c)) : ∀ n, (List.range n).filter (fun b => hasB C b) = if c < n then [c] else []
  | 0 => by simp
  | n + 1 => by
    rw [List.range_succ, List.filter_append, mem_only h n]
    by_cases e : n = c
    · subst e; simp [h]
    · have e3 : (c < n + 1) = (c < n) := by apply propext; omega
      simp [h, e, e3]
theorem has_one {c b : Nat} : hasB (canon (between c c)) b = decide (b = c) := by
  rw [hasB_canon]
  have := between_iff c c b
  by_cases e : b = c
  · subst e; simp [(between_iff b b b).2 ⟨Nat.le_refl _, Nat.le_refl _⟩]
  · have h2 : ¬ between c c b = true := fun h => by have := this.1 h; omega
    simp [h2, e]
theorem setT_one {c : Nat} (hc : c < 256) : setT (canon (between c c)) = byT c := by
  have h : memT (canon (between c c)) = [c] := by
    unfold memT
    rw [mem_only (fun b => has_one) 256, if_pos hc]
  unfold setT
  rw [h]
theorem textT_one {c : Nat} (hc : c < 256) : textT (atomT (between c c)) = byT c := by
  unfold atomT
  rw [textT, if_pos rfl, setT_one hc]

set_option maxHeartbeats 1000000 in
set_option maxRecDepth 100000 in
theorem set_one (c : Nat) (hc : c < 256) (w : World) : Calls Tryd.prog 33 #[.agg #[.int .u64 (canon (between c c) 0 : Nat), .int .u64 (canon (between c c) 1 : Nat), .int .u64 (canon (between c c) 2 : Nat), .int .u64 (canon (between c c) 3 : Nat)]] w (Wrote (byT c) w) := by
  have hC := Cl_canon (between c c)
  have hn : cnt (canon (between c c)) 256 = 1 := by rw [cnt_only (fun b => has_one) 256, if_pos hc]
  have hl : lst (canon (between c c)) 256 = some c := lst_some (fun b hb => by rw [has_one]; simp; omega) (by rw [has_one]; simp) 256 hc
  have HSZ := Lib.hid (fun W => csize_any (canon (between c c)) W hC)
  have HLT := Lib.hid (fun W => least_any (canon (between c c)) W hC)
  rw [hn] at HSZ
  rw [hl] at HLT
  generalize canon (between c c) = C at *
  clear hC hn hl
  go_enter Tryd.func33, Tryd.ntmps33
  go_wp2_with fail
  go_at_call 44
  refine (HSZ.out _).mono ?_
  rintro e w1 ⟨rfl, hb1⟩
  have hb1' := below_hop ((Below.refl _ w).alloc (Nat.le_refl _) _) hb1
  have hbx := (hb1.block w.heap.size (by simp)).trans (heap_alloc_new w (.cells #[.int .u64 (C 0 : Nat), .int .u64 (C 1 : Nat), .int .u64 (C 2 : Nat), .int .u64 (C 3 : Nat)] 24))
  obtain ⟨q1, _⟩ := row_cells hbx
  have c0 : w1.cell? ⟨w.heap.size, 0, none⟩ = some (.int .u64 (C 0 : Nat)) := q1 0
  have c1 : w1.cell? ⟨w.heap.size, 1, none⟩ = some (.int .u64 (C 1 : Nat)) := q1 1
  have c2 : w1.cell? ⟨w.heap.size, 2, none⟩ = some (.int .u64 (C 2 : Nat)) := q1 2
  have c3 : w1.cell? ⟨w.heap.size, 3, none⟩ = some (.int .u64 (C 3 : Nat)) := q1 3
  have hlt : w.heap.size < w1.heap.size := (Array.getElem?_eq_some_iff.1 hbx).1
  have HB1 := Lib.hid hb1'
  clear hb1 hb1' hbx q1
  go_wp2_with fail
  go_at_call 45
  refine (HLT.out _).mono ?_
  rintro e w2 ⟨rfl, hb2⟩
  have HB2 := Lib.hid (below_hop HB1.out hb2)
  clear hb2 c0 c1 c2 c3
  go_wp2_with fail
  go_at_call 16
  refine (byte_any c hc _).mono ?_
  rintro e w3 ⟨s, hs, rfl, hb3⟩
  go_wp2_with fail
  go_ret
  exact ⟨s, hs, rfl, below_hop HB2.out hb3⟩

end Go.Proofs.YtpibkalbnjgpaaaDoor

/- What a tree of one byte alone is written as: by the program: a contract.
   Conditions: the tree lies in memory. -/
namespace Go.Proofs.YtpibkalbnjgpaaaDoor
open Go.RowKit Go.Shelf
attribute [local go_sem] nodeAgg

/-- A tree of one byte. -/
def One (t : T) : Prop := ∃ c, c < 256 ∧ t = atomT (between c c)

set_option maxHeartbeats 1000000 in
set_option maxRecDepth 100000 in
theorem parts_one (B b o : Nat) (p : V) (w : World) (h : NodeB B w b o p) (hS : One (erase p)) : Calls Tryd.prog 21 #[.pointer (some ⟨b, o, none⟩)] w (PartsR B One p w) := by
  obtain ⟨c, hc, he⟩ := hS
  have hT : textT (erase p) = byT c := by rw [he, textT_one hc]
  have hW : 2 < wtT (erase p) := by have := wtT_pos (erase p); omega
  obtain ⟨hk, hs, hlo, hhi, hps⟩ := erase_node (show erase p = .node 1 (canon (between c c)) 0 0 [] from he)
  obtain ⟨x0, x1, x2, x3, x4, x5, x6, x7⟩ := node_cells h.2.1 h.at.lt (Below.refl _ _)
  rw [hk] at x0
  rw [hs] at x1 x2 x3 x4
  have hlt := h.at.lt
  have HS := Lib.hid (fun W => set_one c hc W)
  have HT := Lib.hid (And.intro hT hW)
  clear h hT hW hk hs hlo hhi hps he x5 x6 x7
  generalize canon (between c c) = C at *
  go_enter Tryd.func21, Tryd.ntmps21
  go_wp2_with fail
  go_at_call 33
  refine (HS.out _).mono ?_
  rintro e w1 ⟨s, hst, rfl, hb1⟩
  have HB := Lib.hid (And.intro hst hb1)
  clear hst hb1 x0 x1 x2 x3 x4
  go_wp2_with fail
  go_ret
  refine ⟨[.tx s], some ⟨w1.heap.size, 0, none⟩, 1, rfl, fun _ => ⟨w1.heap.size, rfl, HB.out.2.size, by simp, fun j u hu => ?_⟩, fun q hq => ?_, ?_, ?_, HB.out.2.alloc HB.out.2.size _⟩
  · rw [(row_cells (heap_alloc_new w1 (.cells #[.string s, .pointer none] 47))).1 j, List.getElem?_toArray]
    exact hu
  · simp at hq
    subst hq
    trivial
  · rw [HT.out.1, ← HB.out.1]
    simp [rend]
  · have := HT.out.2
    simp [wtL, wtP]
    omega

/-- A tree of one byte is written as that byte is. -/
theorem text_one (t : V) (c : Nat) (hc : c < 256) (he : erase t = atomT (between c c)) (w : World) (R : Nat → Prop) (hl : Laid w R t) : Calls Tryd.prog 10 #[nodeAgg t] w (Wrote (byT c) w) := by
  have hlen : (byT c).length ≤ 4 := by
    unfold byT
    split
    · simp
    · split
      · simp
      · split
        · simp
        · split <;> simp [esc2]
  have hT := textT_one hc
  have := text_formed One t w R ⟨c, hc, he⟩ hl (by rw [he, ok_atom]) (by rw [he]; unfold atomT; rw [wtT, wtsT]; omega) (by rw [he, hT]; omega) (by rw [dpt_erase, he]; unfold atomT; rw [dptT, dptsT]; omega)
    (fun B b o p W h _ hS _ => parts_one B b o p W h hS)
  rw [he, hT] at this
  exact this

end Go.Proofs.YtpibkalbnjgpaaaDoor

/- The walk of the statement ShowBytes: called with a byte it returns true and changes nothing that was there.
   Condition: a byte is below 256. -/
namespace Go.Proofs.YtpibkalbnjgpaaaDoor
open Go.RowKit Go.Shelf
attribute [local go_sem] nodeAgg

def chk (c : Nat) : Bool := match pplain marks (byT c) with
  | .ok a [] => a == c
  | _ => false
theorem chk_all : ∀ c, c < 256 → chk c = true := by decide +kernel
theorem pplain_byt {c : Nat} (hc : c < 256) : pplain marks (byT c) = .ok c [] := by
  have h := chk_all c hc
  unfold chk at h
  split at h
  · rename_i a e
    rw [e]
    simp at h
    rw [h]
  · cases h
def hd0 (c : Nat) : Bool := match byT c with
  | [] => false
  | b :: _ => decide (b ≠ 46 ∧ b ≠ 91 ∧ b ≠ 40 ∧ b ≠ 124 ∧ b ≠ 41 ∧ ¬ (b = 42 ∨ b = 43 ∨ b = 63 ∨ b = 123))
theorem hd0_all : ∀ c, c < 256 → hd0 c = true := by decide +kernel
theorem byT_len (c : Nat) : (byT c).length ≤ 4 := by
  unfold byT
  split
  · simp
  · split
    · simp
    · split
      · simp
      · split <;> simp [esc2]
/-- A byte's text is read as that byte. -/
theorem parse_byt {c : Nat} (hc : c < 256) : pparse (byT c) = (atomT (between c c), 0, 0) := by
  have h1 := pplain_byt hc
  have h2 := hd0_all c hc
  have h3 := byT_len c
  unfold hd0 at h2
  cases hb : byT c with
  | nil => rw [hb] at h2; cases h2
  | cons b r =>
    rw [hb] at h1 h2 h3
    simp only [decide_eq_true_iff] at h2
    obtain ⟨a1, a2, a3, a4, a5, a6⟩ := h2
    have hp : pset (b :: r) = .ok (between c c) [] := by rw [pset_plain a1 a2, h1]
    have hs : pstep ⟨[], []⟩ [] (b :: r) = .ok (⟨[], [] ++ [atomT (between c c)]⟩, []) [] := by
      simp only [pstep]
      rw [if_neg a3, if_neg a4, if_neg a5, if_neg a6, hp]
    rw [pparse_ok (by omega) (r := []) (t := atomT (between c c)) (by
      rw [prun_cons, hs]
      simp only
      rw [prun_nil]
      rfl), if_neg (by simp [dptT, dptsT, plcT, plcsT, atomT])]
theorem u8_inj : ∀ (a b : List UInt8), a.map UInt8.toNat = b.map UInt8.toNat → a = b
  | [], [], _ => rfl
  | [], _ :: _, h => by simp at h
  | _ :: _, [], h => by simp at h
  | x :: a, y :: b, h => by
    simp only [List.map_cons, List.cons.injEq] at h
    rw [UInt8.toNat_inj.1 h.1, u8_inj a b h.2]
theorem txt_inj {a b : ByteArray} (h : txt a = txt b) : a = b := by
  have := u8_inj _ _ h
  cases a
  cases b
  congr
  exact Array.toList_inj.1 this

set_option maxHeartbeats 1000000 in
set_option maxRecDepth 100000 in
theorem awake3_any (w : World) : Calls Tryd.prog 7 #[] w fun e w' => e = .returned (.bool true) ∧ Below w.heap.size w w' := by
  go_enter Tryd.func7, Tryd.ntmps7
  go_wp2_with fail
  go_at_call 16
  refine (byte_any 0 (by decide) _).mono ?_
  rintro e w1 ⟨s, hs, rfl, hb1⟩
  obtain rfl : s = { data := #[92, 120, 48, 48] } := txt_inj (hs.trans (by decide))
  have HB := Lib.hid hb1
  clear hb1 hs
  go_wp2_with fail
  go_at_call 16
  refine (byte_any 42 (by decide) _).mono ?_
  rintro e w2 ⟨s, hs, rfl, hb2⟩
  obtain rfl : s = { data := #[92, 42] } := txt_inj (hs.trans (by decide))
  have HB2 := Lib.hid (below_hop HB.out hb2)
  clear hb2 hs
  go_wp2_with fail
  go_ret
  exact ⟨rfl, HB2.out⟩

theorem same_one {v : V} {c : Nat} {sa : Option Addr} {sn sc : Nat} (her : erase v = atomT (between c c)) (hsl : v.v = .slice sa sn sc) (w : World) (R : Nat → Prop) (hl : Laid w R v) :
    Calls Tryd.prog 15 #[.agg #[.int .i64 v.kind, .int .u64 (v.set 0 : Nat), .int .u64 (v.set 1 : Nat), .int .u64 (v.set 2 : Nat), .int .u64 (v.set 3 : Nat), .slice sa sn sc, .int .i64 v.lo, .int .i64 v.hi], .agg #[.int .i64 1, .int .u64 (v.set 0 : Nat), .int .u64 (v.set 1 : Nat), .int .u64 (v.set 2 : Nat), .int .u64 (v.set 3 : Nat), .slice none 0 0, .int .i64 0, .int .i64 0]] w fun e w' => e = .returned (.bool true) ∧ Below w.heap.size w w' := by
  obtain ⟨_, hst, _⟩ := erase_node (show erase v = .node 1 (canon (between c c)) 0 0 [] from her)
  have h := same_ref 1000000 (Nat.le_refl _) v (.node 1 v.set 0 0 (.slice none 0 0) []) w R (fun _ => True) (by rw [her]; unfold atomT; rw [szT, szsT]; omega) hl (.none 1 v.set 0 0 none 0)
  have e : erase (V.node 1 v.set 0 0 (.slice none 0 0) []) = erase v := by rw [her, erase, erases, hst]; rfl
  rw [e, like_self] at h
  unfold nodeAgg at h
  rw [hsl] at h
  exact h
theorem text_one2 {v : V} {c : Nat} {sa : Option Addr} {sn sc : Nat} (hc : c < 256) (her : erase v = atomT (between c c)) (hsl : v.v = .slice sa sn sc) (w : World) (R : Nat → Prop) (hl : Laid w R v) :
    Calls Tryd.prog 10 #[.agg #[.int .i64 v.kind, .int .u64 (v.set 0 : Nat), .int .u64 (v.set 1 : Nat), .int .u64 (v.set 2 : Nat), .int .u64 (v.set 3 : Nat), .slice sa sn sc, .int .i64 v.lo, .int .i64 v.hi]] w (Wrote (byT c) w) := by
  have h := text_one v c hc her w R hl
  unfold nodeAgg at h
  rw [hsl] at h
  exact h

set_option maxHeartbeats 4000000 in
set_option maxRecDepth 100000 in
theorem bytes3_walk (c : Nat) (hc : c < 256) (w : World) : Calls Tryd.prog 6 #[.int .u8 c] w fun e w' => e = .returned (.bool true) ∧ Below w.heap.size w w' := by
  have hp := parse_byt hc
  have n1 : (0 : Int) ≤ (c : Int) := by omega
  have n2 : (c : Int) ≤ 255 := by omega
  go_enter Tryd.func6, Tryd.ntmps6
  go_wp2_with fail
  go_at_call 16
  refine (byte_any c hc _).mono ?_
  rintro e w1 ⟨s, hs, rfl, hb1⟩
  rw [← hs] at hp
  have HS := Lib.hid hs
  clear hs
  go_wp2_with fail
  go_at_call 12
  refine (parse_any s _).mono ?_
  rintro e w2 ⟨v, sa, sn, sc, hsl, rfl, her, hl, hb2⟩
  rw [hp] at her ⊢
  obtain ⟨hk, hst, hlo, hhi, hps⟩ := erase_node (show erase v = .node 1 (canon (between c c)) 0 0 [] from her)
  have hnew := heap_alloc_new w2 (.cells #[.int .i64 v.kind, .int .u64 (v.set 0 : Nat), .int .u64 (v.set 1 : Nat), .int .u64 (v.set 2 : Nat), .int .u64 (v.set 3 : Nat), .slice sa sn sc, .int .i64 v.lo, .int .i64 v.hi] 27)
  have hB := below_hop hb1 hb2
  have hB3 := hB.alloc hB.size (.cells #[.int .i64 v.kind, .int .u64 (v.set 0 : Nat), .int .u64 (v.set 1 : Nat), .int .u64 (v.set 2 : Nat), .int .u64 (v.set 3 : Nat), .slice sa sn sc, .int .i64 v.lo, .int .i64 v.hi] 27)
  have hl3 : Laid (w2.alloc (.cells #[.int .i64 v.kind, .int .u64 (v.set 0 : Nat), .int .u64 (v.set 1 : Nat), .int .u64 (v.set 2 : Nat), .int .u64 (v.set 3 : Nat), .slice sa sn sc, .int .i64 v.lo, .int .i64 v.hi] 27)) _ v := hl.chg ((Chg.refl (fun _ => False) w2).alloc _) (fun _ _ _ h => h)
  have hlt : w2.heap.size < (w2.alloc (.cells #[.int .i64 v.kind, .int .u64 (v.set 0 : Nat), .int .u64 (v.set 1 : Nat), .int .u64 (v.set 2 : Nat), .int .u64 (v.set 3 : Nat), .slice sa sn sc, .int .i64 v.lo, .int .i64 v.hi] 27)).heap.size := by simp
  have hlw : ∀ W, Below (w2.alloc (.cells #[.int .i64 v.kind, .int .u64 (v.set 0 : Nat), .int .u64 (v.set 1 : Nat), .int .u64 (v.set 2 : Nat), .int .u64 (v.set 3 : Nat), .slice sa sn sc, .int .i64 v.lo, .int .i64 v.hi] 27)).heap.size (w2.alloc (.cells #[.int .i64 v.kind, .int .u64 (v.set 0 : Nat), .int .u64 (v.set 1 : Nat), .int .u64 (v.set 2 : Nat), .int .u64 (v.set 3 : Nat), .slice sa sn sc, .int .i64 v.lo, .int .i64 v.hi] 27)) W →
      Laid W (fun b => w1.heap.size ≤ b) v ∧ W.heap[w2.heap.size]? = some (.cells #[.int .i64 v.kind, .int .u64 (v.set 0 : Nat), .int .u64 (v.set 1 : Nat), .int .u64 (v.set 2 : Nat), .int .u64 (v.set 3 : Nat), .slice sa sn sc, .int .i64 v.lo, .int .i64 v.hi] 27 (0, 0)) :=
    fun W hW => ⟨hl3.keep (fun _ _ h => h) hW.size fun k hk _ => hW.block k hk, (hW.block _ hlt).trans hnew⟩
  have HW := Lib.hid (And.intro hlw (And.intro hB3 hsl))
  have HSM := Lib.hid (fun (W : World) (h : Laid W (fun b => w1.heap.size ≤ b) v) => same_one her hsl W _ h)
  have HTX := Lib.hid (fun (W : World) (h : Laid W (fun b => w1.heap.size ≤ b) v) => text_one2 hc her hsl W _ h)
  clear hnew hB hB3 hl3 hlt hlw hb1 hb2 hl her hps hp hsl hst
  rw [hk, hlo, hhi] at *
  go_wp2_with fail
  go_at_call 7
  refine (awake3_any _).mono ?_
  rintro e w4 ⟨rfl, hb4⟩
  have HB4 := Lib.hid hb4
  clear hb4
  obtain ⟨q1, _⟩ := row_cells (HW.out.1 w4 HB4.out).2
  have y0 := q1 0
  have y1 := q1 1
  have y2 := q1 2
  have y3 := q1 3
  have y4 := q1 4
  have y5 := q1 5
  have y6 := q1 6
  have y7 := q1 7
  have ylt : w2.heap.size < w4.heap.size := (Array.getElem?_eq_some_iff.1 (HW.out.1 w4 HB4.out).2).1
  clear q1
  go_wp2_with fail
  go_at_call 17
  refine (byteR_any c hc _).mono ?_
  rintro e w5 ⟨s2, hs2, rfl, hb5⟩
  obtain rfl : s2 = s := txt_inj (hs2.trans HS.out.symm)
  have HB5 := Lib.hid (below_hop HB4.out hb5)
  clear hb5 hs2
  clear y0 y1 y2 y3 y4 y5 y6 y7 ylt
  obtain ⟨q1, _⟩ := row_cells (HW.out.1 w5 HB5.out).2
  have y0 := q1 0
  have y1 := q1 1
  have y2 := q1 2
  have y3 := q1 3
  have y4 := q1 4
  have y5 := q1 5
  have y6 := q1 6
  have y7 := q1 7
  have ylt : w2.heap.size < w5.heap.size := (Array.getElem?_eq_some_iff.1 (HW.out.1 w5 HB5.out).2).1
  clear q1
  go_wp2_with fail
  go_at_call 15
  refine (HSM.out _ (HW.out.1 _ HB5.out).1).mono ?_
  rintro e w6 ⟨rfl, hb6⟩
  have HB6 := Lib.hid (below_hop HB5.out hb6)
  clear hb6
  clear y0 y1 y2 y3 y4 y5 y6 y7 ylt
  obtain ⟨q1, _⟩ := row_cells (HW.out.1 w6 HB6.out).2
  have y0 := q1 0
  have y1 := q1 1
  have y2 := q1 2
  have y3 := q1 3
  have y4 := q1 4
  have y5 := q1 5
  have y6 := q1 6
  have y7 := q1 7
  have ylt : w2.heap.size < w6.heap.size := (Array.getElem?_eq_some_iff.1 (HW.out.1 w6 HB6.out).2).1
  clear q1
  go_wp2_with fail
  go_at_call 10
  refine (HTX.out _ (HW.out.1 _ HB6.out).1).mono ?_
  rintro e w7 ⟨s3, hs3, rfl, hb7⟩
  obtain rfl : s3 = s2 := txt_inj (hs3.trans HS.out.symm)
  have HB7 := Lib.hid (below_hop HB6.out hb7)
  clear hb7 hs3
  clear y0 y1 y2 y3 y4 y5 y6 y7 ylt
  go_wp2_with fail
  go_ret
  exact ⟨rfl, below_hop HW.out.2.1 HB7.out⟩

end Go.Proofs.YtpibkalbnjgpaaaDoor

/- Of every byte the statement ShowBytes returns true; the card: what its row lists is tied to the program's text.
   No condition. -/
namespace Go.Proofs.YtpibkalbnjgpaaaDoor
open Go.ChangeShapes Go.WideShapes Go.ChangeAt Go.RowKit

theorem sbOwn : ownKnob Tryd.prog.godebug = none := by kernel_rfl
theorem sbLaidOut : laidOutB Tryd.prog = true := by kernel_rfl

/-- The door's own heap meets the condition. -/
theorem sbDoor (os : Os) (args : Array Value) : laidMetH Tryd.prog Rows.showBytesRow.laid ((World.doorLaid Tryd.prog 400 os).forCall (fun _ _ => 0) ⟨#[], args, []⟩).memory :=
  laidMetH_of_parts3 (fuel := 8) (laidMet_of_run' 8 (by kernel_rfl) (by kernel_rfl)) (by kernel_rfl) (by kernel_rfl)

set_option maxRecDepth 100000 in
theorem showBytes_lifted (os : Os) (started : os.Started) (H : Type) (enc : TypeId × Value → H) :
    ReturnsInHanded {} Tryd.checked os 6 .any (fun w args => (Rows.showBytesSpec.pre enc Tryd.prog Tryd.f6 [] false w args ∧ laidMetH Tryd.prog Rows.showBytesRow.laid w) ∧ sizedMet enc Tryd.prog Tryd.f6 (OpenSpec.ofChange Rows.showBytesSpec) false w args)
      (Rows.showBytesSpec.post enc Tryd.prog Tryd.f6 false true false false) := by
  refine returnsInHanded_of_change_and (C := Tryd.checked) (X := fun w _ => laidMetH Tryd.prog Rows.showBytesRow.laid w) (fun _ _ _ hh h => h.of_heap hh) sbOwn started (by kernel_rfl) Tryd.func6
    (ChangeSpec.witness_shaped (enc := enc) (C := Tryd.checked) (os := os) (X := fun w _ => laidMetH Tryd.prog Rows.showBytesRow.laid w) false (World.doorLaid Tryd.prog 400 os) #[.int .u8 0] 8 rfl (World.shaped_of_RefB (by kernel_rfl) (by kernel_rfl)) (by kernel_rfl) (by kernel_rfl) (by kernel_rfl) (sbDoor os _)) ?_
  intro W base args ds gs before hval0 hW _ _ _ _
  have hval : ∀ (j : Nat) t v, Tryd.f6.params[j]? = some t → args[j]? = some v → Value.okWide Tryd.prog W .any base t v := hval0
  have hW' := hW
  obtain ⟨p, q, hA0, hV, rfl, hfz, hnd⟩ := hW
  have hA : DataW.TrodAll enc Tryd.prog W 0 (fun _ => true) true Tryd.f6.params.toList args.toList ds p := hA0
  rw [Tryd.params6] at hA hval
  obtain ⟨v0, vs0, d0, ds0, p0, q0, hargs, rfl, rfl, h0, r0⟩ := trodAll_cons hA
  obtain ⟨rfl, rfl, rfl⟩ := trodAll_nil r0
  obtain rfl : args = #[v0] := by cases args; simp_all
  obtain ⟨rfl, rfl⟩ := trodVars_none hV
  obtain ⟨a0, rfl, rfl, rfl, w0⟩ := open_int Tryd.underlying5 (hval 0 5 v0 rfl rfl) h0
  have b0 := bounds_u8 w0
  clear hA0 hval0
  have hwalk := bytes3_walk a0.toNat (by omega) W
  rw [Int.toNat_of_nonneg b0.1] at hwalk
  refine hwalk.mono fun e W' ⟨he, bel⟩ => ?_
  subst he
  exact ⟨_, rfl, _, _, _, [], _, [], hW', trodAll_mk1 (shut_bool Tryd.underlying4 _), (trodAll_cons_mk (shut_int Tryd.underlying5 w0) trodAll_mk0), rfl, bel.frame _, fun h => by cases h⟩

theorem showBytes_holds : Rows.ShowBytesSaid :=
  OpenClaim.holds_of_wide 6 Tryd.f6 rfl rfl rfl rfl rfl rfl rfl ⟨rfl, rfl, rfl, rfl, rfl⟩ rfl rfl rfl rfl rfl (by kernel_rfl) Tryd.func6 (by kernel_rfl)
    (of_decide_eq_true (by kernel_rfl)) (by unfold Func.isWrapper; rw [if_neg (of_decide_eq_false (by kernel_rfl))]; exact ⟨rfl, rfl⟩)
    (fun os started H enc _ => showBytes_lifted os started H enc)

theorem showBytes_card_holds : Rows.ShowBytesCardSaid :=
  Claim7.holds_tied_plain_at .later [] [.data, .data, .data] true _ false
    showBytes_holds (fun _ h => by cases h) (by kernel_rfl) (fun _ h => by cases h) showBytes_row_tie rfl ⟨rfl, rfl⟩ (by kernel_rfl) rfl
    (fun f fn hf hfn => by
      obtain rfl : f = 6 := Option.some.inj ((show Tryd.prog.funcNamed "ostinato/ostinatolaw03.ShowBytes" = some 6 by kernel_rfl).symm.trans hf) |>.symm
      obtain rfl : fn = Tryd.f6 := (Option.some.inj (Tryd.func6.symm.trans hfn)).symm
      exact ⟨by kernel_rfl, fun j t ht => by
        rw [Tryd.params6] at ht
        have hm : t ∈ [5] := by simpa using Array.mem_of_getElem? ht
        have hall : ([5].all fun u => !Tryd.prog.wantsStandIn u) = true := by kernel_rfl
        exact (show Tryd.prog.wantsStandIn t = false by simpa using List.all_eq_true.1 hall t hm)⟩)
    (by kernel_rfl)
#print axioms showBytes_card_holds

end Go.Proofs.YtpibkalbnjgpaaaDoor
