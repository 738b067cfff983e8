/- Numbers as strconv.FormatInt writes them: plain facts.
   No conditions. -/
import Derived.Test.YtpibkalbnjgpaaaDoorBegin
import Derived.Test.YtpibkalbnjgpaaaDoorSize
import Derived.Test.YtpibkalbnjgpaaaDoorMRef
import Derived.Test.YtpibkalbnjgpaaaDoorLoops
import Derived.Test.YtpibkalbnjgpaaaDoorMTxt
import Derived.Deep.RegionWith
import Derived.Deep.RegionLaw
import Derived.Lib.ItoaMem
import Derived.Lib.AppendIntMem

/- The trees that are read from texts are formed: plain facts: no program is spoken of here.
   No conditions but those that each theorem states. -/
namespace Go.Proofs.YtpibkalbnjgpaaaDoor

theorem z4_zeros : z4 zeros = true := by simp [z4, zeros]
theorem ok_zero : okT zeroT = true := by simp [zeroT, okT, oksT, okA, z4_zeros]
theorem ok_join {k : Int} (hk : k = 2 ∨ k = 3) {ps : List T} (h : oksT ps = true) : okT (joinT k ps) = true := by
  match ps, h with
  | [], _ => exact ok_zero
  | [p], h => rw [oks_one] at h; exact h
  | p :: q :: ps, h =>
    show okT (.node k zeros 0 0 (p :: q :: ps)) = true
    rw [okT, h]
    rcases hk with rfl | rfl <;> simp [okA, z4_zeros]
theorem ok_rep {b : Int × Int} {t : T} (h : okT t = true) (hb : bnd b.1 b.2 = true) : okT (repT b t) = true := by
  unfold repT
  rw [okT, oks_one, h]
  simp [okA, z4_zeros, hb]
theorem ok_atom (S : Nat → Bool) : okT (atomT S) = true := by
  unfold atomT
  rw [okT, oksT]
  simp [okA]
theorem oks_repLast {b : Int × Int} (hb : bnd b.1 b.2 = true) : ∀ {ps : List T}, oksT ps = true → oksT (repLast b ps) = true
  | [], h => h
  | [p], h => by
    show oksT [repT b p] = true
    rw [oks_one] at h ⊢
    exact ok_rep h hb
  | p :: q :: ps, h => by
    show oksT (p :: repLast b (q :: ps)) = true
    rw [oksT, Bool.and_eq_true] at h ⊢
    exact ⟨h.1, oks_repLast hb h.2⟩
theorem pnumber_bnd {r r' : List Nat} {n : Nat} (h : pnumber r = .ok n r') : n ≤ 2147483647 := by
  unfold pnumber at h
  split at h
  · cases h
  · split at h
    · cases h
    · injection h with h _; omega
theorem pupper_bnd {lo : Nat} {r r' : List Nat} {hi : Int} (hl : lo ≤ 2147483647) (h : pupper lo r = .ok hi r') : hi = -1 ∨ (0 ≤ hi ∧ hi ≤ 2147483647) := by
  unfold pupper at h
  split at h
  · injection h with h _; exact .inl h.symm
  · split at h
    · rename_i n r1 hn
      have := pnumber_bnd hn
      injection h with h _
      omega
    · cases h
  · injection h with h _; omega
theorem pbounds_bnd {br r r' : List Nat} {x : Int × Int} (h : pbounds br r = .ok x r') : bnd x.1 x.2 = true := by
  unfold pbounds at h
  split at h
  · cases h
  · rename_i lo r1 h1
    have l1 := pnumber_bnd h1
    split at h
    · cases h
    · rename_i hi r2 h2
      have l2 := pupper_bnd l1 h2
      split at h
      · split at h
        · cases h
        · rename_i hc
          injection h with h _
          subst h
          unfold bnd
          rw [decide_eq_true_iff]
          show (0 : Int) ≤ (lo : Int) ∧ _
          omega
      · cases h
theorem ptimes_bnd {b : Nat} {r r' : List Nat} {x : Int × Int} (h : ptimes b r = .ok x r') : bnd x.1 x.2 = true := by
  unfold ptimes at h
  split at h
  · injection h with h _; subst h; rfl
  · split at h
    · injection h with h _; subst h; rfl
    · split at h
      · injection h with h _; subst h; rfl
      · exact pbounds_bnd h
def okG (g : G) : Prop := oksT g.rows = true ∧ oksT g.row = true
theorem ok_shut {g : G} (h : okG g) : okT (shutT g) = true := by
  unfold shutT
  refine ok_join (.inr rfl) ?_
  rw [oks_append, h.1, oks_one, ok_join (.inl rfl) h.2]
  rfl
theorem ok_step {g : G} {frs : List G} {r : List Nat} {x : G × List G} {r' : List Nat} (hg : okG g) (hf : ∀ f ∈ frs, okG f) (h : pstep g frs r = .ok x r') : okG x.1 ∧ ∀ f ∈ x.2, okG f := by
  cases r with
  | nil => cases h
  | cons b r =>
    simp only [pstep] at h
    split at h
    · injection h with h _; subst h
      refine ⟨⟨by rw [oksT], by rw [oksT]⟩, fun f hm => ?_⟩
      rcases List.mem_cons.1 hm with rfl | hm
      · exact hg
      · exact hf f hm
    · split at h
      · injection h with h _; subst h
        refine ⟨⟨?_, by rw [oksT]⟩, hf⟩
        show oksT (g.rows ++ [joinT 2 g.row]) = true
        rw [oks_append, hg.1, oks_one, ok_join (.inl rfl) hg.2]
        rfl
      · split at h
        · split at h
          · cases h
          · rename_i p ps
            injection h with h _; subst h
            have hp := hf p (by simp)
            refine ⟨⟨hp.1, ?_⟩, fun f hm => hf f (by simp [hm])⟩
            show oksT (p.row ++ [shutT g]) = true
            rw [oks_append, hp.2, oks_one, ok_shut hg]
            rfl
        · split at h
          · split at h
            · cases h
            · split at h
              · cases h
              · rename_i t r2 ht
                injection h with h _; subst h
                exact ⟨⟨hg.1, oks_repLast (ptimes_bnd ht) hg.2⟩, hf⟩
          · split at h
            · cases h
            · injection h with h _; subst h
              refine ⟨⟨hg.1, ?_⟩, hf⟩
              show oksT (g.row ++ [atomT _]) = true
              rw [oks_append, hg.2, oks_one, ok_atom]
              rfl
theorem ok_run : ∀ (n : Nat) {g : G} {frs : List G} {r : List Nat} {t : T} {r' : List Nat}, r.length ≤ n → okG g → (∀ f ∈ frs, okG f) → prun g frs r = .ok t r' → okT t = true
  | n, g, frs, [], t, r', _, hg, _, h => by
    cases frs with
    | nil => rw [prun_nil'] at h; injection h with h _; subst h; exact ok_shut hg
    | cons p ps => rw [prun_open'] at h; cases h
  | n, g, frs, b :: r, t, r', hn, hg, hf, h => by
    rw [prun_cons'] at h
    split at h
    · cases h
    · rename_i x r2 hx
      have hl := pstep_len hx
      have hs := ok_step hg hf hx
      match n, hn with
      | 0, hn => simp at hn
      | n + 1, hn =>
        simp at hn hl
        exact ok_run n (by omega) hs.1 hs.2 h
theorem ok_all {r : List Nat} {t : T} {r' : List Nat} (h : prun ⟨[], []⟩ [] r = .ok t r') : okT t = true :=
  ok_run _ (Nat.le_refl _) ⟨by rw [oksT], by rw [oksT]⟩ (by simp) h
/-- What is read without an error: a formed tree, within the limits. -/
theorem pparse_formed {L : List Nat} (h : (pparse L).2.2 = 0) : okT (pparse L).1 = true ∧ dptT (pparse L).1 ≤ 20 ∧ plcT (pparse L).1 ≤ 40 ∧ szT (pparse L).1 ≤ 802 := by
  by_cases hL : 400 < L.length
  · rw [pparse_long hL] at h; cases h
  · cases hx : prun ⟨[], []⟩ [] L with
    | er r c =>
      rw [pparse_er hL hx] at h
      have : c ≠ 0 := by
        have := prun_er_code _ (Nat.le_refl _) hx
        omega
      exact absurd h this
    | ok t r =>
      rw [pparse_ok hL hx] at h ⊢
      by_cases hd : 20 < dptT t ∨ 40 < plcT t
      · rw [if_pos hd] at h; cases h
      · rw [if_neg hd]
        have := sz_all hx
        exact ⟨ok_all hx, by show dptT t ≤ 20; omega, by show plcT t ≤ 40; omega, by show szT t ≤ 802; omega⟩

end Go.Proofs.YtpibkalbnjgpaaaDoor

/- How many bytes a class has, and its least one: contracts; what a class of one byte is written as.
   Conditions: classes are four words below 2^64 ('Cl'), bytes below 256. -/
namespace Go.Proofs.YtpibkalbnjgpaaaDoor
open Go.RowKit

set_option maxHeartbeats 1000000 in
set_option maxRecDepth 100000 in
theorem csize_any (C : Nat → Nat) (w : World) (hC : Cl C) :
    Calls Tryd.prog 44 #[.agg #[.int .u64 (C 0 : Nat), .int .u64 (C 1 : Nat), .int .u64 (C 2 : Nat), .int .u64 (C 3 : Nat)]] w fun e w' => e = .returned (.int .i64 (cnt C 256)) ∧ Below w.heap.size w w' := by
  go_enter Tryd.func44, Tryd.ntmps44
  go_wp2
  go_loop [3, 5, 7] (fun n v i => ∃ k : Nat, k ≤ 4 ∧ i = .int .i64 k ∧ n = .int .i64 (cnt C (64 * k))) (fun _ _ i => 4 - (intOf i).toNat)
  case atStart => exact ⟨0, Nat.zero_le _, rfl, rfl⟩
  case round =>
    obtain ⟨k, hk, rfl, rfl⟩ := hrel
    by_cases hlt : k < 4
    · have i0 := idx_at C k hlt
      have hk0 : (0 : Int) ≤ (k : Int) := Int.natCast_nonneg _
      have hk1 : (k : Int) < 4 := by omega
      go_wp2
      go_loop [3, 5] (fun n v => ∃ j x : Nat, j ≤ 64 ∧ x = C k / 2 ^ j ∧ v = .int .u64 x ∧ n = .int .i64 (cnt C (64 * k + j))) (fun _ v => (intOf v).toNat)
      case atStart => exact ⟨0, _, Nat.zero_le _, by simp, rfl, rfl⟩
      case round =>
        obtain ⟨j, x, hj, hx, rfl, rfl⟩ := hrel
        have hb := cnt_le C (64 * k + j)
        have hxl : x < 18446744073709551616 := by rw [hx]; exact shr_bound hC _ _
        have hv := and_one_nat hxl
        by_cases hz : x = 0
        · have hd := cnt_done C k j (by rw [← hx]; exact hz) hj
          have HD := Lib.hid hd
          clear hd hx hv hxl
          subst hz
          go_wp2
          go_round
          case rel => exact ⟨k + 1, by omega, by go_num, by rw [HD.out]⟩
          case measure => simp [intOf]; omega
        · have hj' : j < 64 := shr_lt hC (i := k) (k := j) (by rw [← hx]; exact hz)
          have hs := cnt_step C k j hj'
          have HS := Lib.hid hs
          have HX := Lib.hid hx
          have hz' : ((x : Int) == 0) = false := by simp [hz]
          have hz2 : ((x : Int) != 0) = true := by simp [hz]
          have hw : IntKind.u64.wrap ((x : Int) / 2) = (x : Int) / 2 := wrapu hxl
          clear hs hx hxl
          go_wp2
          go_round
          case rel => exact ⟨j + 1, x / 2, by omega, by rw [HX.out, shr_succ], by go_num, by rw [HS.out, ← HX.out]; go_num⟩
          case measure => simp [intOf]; omega
    · have hk4 : k = 4 := by omega
      subst hk4
      go_wp2
      go_ret
      exact ⟨rfl, (Below.refl _ _).alloc (Nat.le_refl _) _⟩

def NoneBelow (C : Nat → Nat) (n : Nat) : Prop := ∀ b, b < n → hasB C b = false
theorem noneBelow_succ {C : Nat → Nat} {i j x : Nat} (h : NoneBelow C (64 * i + j)) (hx : x = C i / 2 ^ j) (hj : j < 64) (he : ((x : Int) % 2 == 1) = false) : NoneBelow C (64 * i + (j + 1)) := by
  intro b hb
  by_cases e : b = 64 * i + j
  · subst e
    rw [hasB_at C i j hj, ← hx]
    simp at he
    simp; omega
  · exact h b (by omega)
theorem noneBelow_rest {C : Nat → Nat} {i j : Nat} (h : NoneBelow C (64 * i + j)) (hz : C i / 2 ^ j = 0) : NoneBelow C (64 * (i + 1)) := by
  intro b hb
  by_cases e : b < 64 * i + j
  · exact h b e
  · have hk : b = 64 * i + (b - 64 * i) := by omega
    rw [hk, hasB_at C i _ (by omega), show b - 64 * i = j + (b - 64 * i - j) by omega, shr_zero_add hz]
    rfl
theorem least_here {C : Nat → Nat} {i j x : Nat} (h : NoneBelow C (64 * i + j)) (hx : x = C i / 2 ^ j) (hi : i < 4) (hj : j < 64) (he : ((x : Int) % 2 == 1) = true) : lst C 256 = some (64 * i + j) := by
  refine lst_some h ?_ 256 (by omega)
  rw [hasB_at C i j hj, ← hx]
  simp at he
  simp; omega

set_option maxHeartbeats 1000000 in
set_option maxRecDepth 100000 in
theorem least_any (C : Nat → Nat) (w : World) (hC : Cl C) :
    Calls Tryd.prog 45 #[.agg #[.int .u64 (C 0 : Nat), .int .u64 (C 1 : Nat), .int .u64 (C 2 : Nat), .int .u64 (C 3 : Nat)]] w fun e w' => e = .returned (.tuple #[.int .u8 ((lst C 256).getD 0 : Nat), .bool (lst C 256).isSome]) ∧ Below w.heap.size w w' := by
  go_enter Tryd.func45, Tryd.ntmps45
  go_wp2
  go_loop [4, 5, 6, 8] (fun _ _ _ i => ∃ k : Nat, k ≤ 4 ∧ i = .int .i64 k ∧ NoneBelow C (64 * k)) (fun _ _ _ i => 4 - (intOf i).toNat)
  case atStart => exact ⟨0, Nat.zero_le _, rfl, fun b hb => by omega⟩
  case round =>
    obtain ⟨k, hk, rfl, hn⟩ := hrel
    by_cases hlt : k < 4
    · have i0 := idx_at C k hlt
      have hk0 : (0 : Int) ≤ (k : Int) := Int.natCast_nonneg _
      have hk1 : (k : Int) < 4 := by omega
      go_wp2
      go_loop [5, 6] (fun v b => ∃ j x : Nat, j ≤ 64 ∧ x = C k / 2 ^ j ∧ v = .int .u64 x ∧ b = .int .i64 (64 * k + j : Nat) ∧ NoneBelow C (64 * k + j)) (fun v _ => (intOf v).toNat)
      case atStart => exact ⟨0, _, Nat.zero_le _, by simp, rfl, by go_num, hn⟩
      case round =>
        obtain ⟨j, x, hj, hx, rfl, rfl, hm⟩ := hrel
        have hxl : x < 18446744073709551616 := by rw [hx]; exact shr_bound hC _ _
        have hv := and_one_nat hxl
        by_cases hz : x = 0
        · have hd := noneBelow_rest hm (by rw [← hx]; exact hz)
          clear hx hv hxl
          subst hz
          go_wp2
          go_round
          case rel => exact ⟨k + 1, by omega, by go_num, hd⟩
          case measure => simp [intOf]; omega
        · have hj' : j < 64 := shr_lt hC (i := k) (k := j) (by rw [← hx]; exact hz)
          have hz' : ((x : Int) == 0) = false := by simp [hz]
          have hz2 : ((x : Int) != 0) = true := by simp [hz]
          have hw : IntKind.u64.wrap ((x : Int) / 2) = (x : Int) / 2 := wrapu hxl
          have HX := Lib.hid hx
          clear hx hxl
          by_cases ho : ((x : Int) % 2 == 1) = true
          · have hl := least_here hm HX.out hlt hj' ho
            go_wp2
            go_ret2
            exact ⟨rfl, (Below.refl _ _).alloc (Nat.le_refl _) _⟩
          · have ho' : ((x : Int) % 2 == 1) = false := by simpa using ho
            have hn' := noneBelow_succ hm HX.out hj' ho'
            go_wp2
            go_round
            case rel => exact ⟨j + 1, x / 2, by omega, by rw [HX.out, shr_succ], by go_num, by go_num, hn'⟩
            case measure => simp [intOf]; omega
    · have hk4 : k = 4 := by omega
      subst hk4
      have hl := lst_none hn
      go_wp2
      go_ret2
      exact ⟨rfl, (Below.refl _ _).alloc (Nat.le_refl _) _⟩

theorem cnt_only {C : Nat → Nat} {c : Nat} (h : ∀ b, hasB C b = decide (b = c)) : ∀ n, cnt C n = if c < n then 1 else 0
  | 0 => by rw [cnt_zero, if_neg (by omega)]
  | n + 1 => by
    rw [cnt_succ, cnt_only h n, h n]
    by_cases e : n = c
    · subst e; simp
    · have e3 : (c < n + 1) = (c < n) := by apply propext; omega
      simp [e, e3]
theorem mem_only {C : Nat → Nat} {c : Nat} (h : ∀ b, hasB C b = decide (b = c)) : ∀ n, (List.range n).filter (fun b => hasB C b) = if c < n then [c] else []
  | 0 => by simp
  | n + 1 => by
    rw [List.range_succ, List.filter_append, mem_only h n]
    by_cases e : n = c
    · subst e; simp [h]
    · have e3 : (c < n + 1) = (c < n) := by apply propext; omega
      simp [h, e, e3]
theorem has_one {c b : Nat} : hasB (canon (between c c)) b = decide (b = c) := by
  rw [hasB_canon]
  have := between_iff c c b
  by_cases e : b = c
  · subst e; simp [(between_iff b b b).2 ⟨Nat.le_refl _, Nat.le_refl _⟩]
  · have h2 : ¬ between c c b = true := fun h => by have := this.1 h; omega
    simp [h2, e]
theorem setT_one {c : Nat} (hc : c < 256) : setT (canon (between c c)) = byT c := by
  have h : memT (canon (between c c)) = [c] := by
    unfold memT
    rw [mem_only (fun b => has_one) 256, if_pos hc]
  unfold setT
  rw [h]
theorem textT_one {c : Nat} (hc : c < 256) : textT (atomT (between c c)) = byT c := by
  unfold atomT
  rw [textT, if_pos rfl, setT_one hc]

set_option maxHeartbeats 1000000 in
set_option maxRecDepth 100000 in
theorem set_one (c : Nat) (hc : c < 256) (w : World) : Calls Tryd.prog 33 #[.agg #[.int .u64 (canon (between c c) 0 : Nat), .int .u64 (canon (between c c) 1 : Nat), .int .u64 (canon (between c c) 2 : Nat), .int .u64 (canon (between c c) 3 : Nat)]] w (Wrote (byT c) w) := by
  have hC := Cl_canon (between c c)
  have hn : cnt (canon (between c c)) 256 = 1 := by rw [cnt_only (fun b => has_one) 256, if_pos hc]
  have hl : lst (canon (between c c)) 256 = some c := lst_some (fun b hb => by rw [has_one]; simp; omega) (by rw [has_one]; simp) 256 hc
  have HSZ := Lib.hid (fun W => csize_any (canon (between c c)) W hC)
  have HLT := Lib.hid (fun W => least_any (canon (between c c)) W hC)
  rw [hn] at HSZ
  rw [hl] at HLT
  generalize canon (between c c) = C at *
  clear hC hn hl
  go_enter Tryd.func33, Tryd.ntmps33
  go_wp2_with fail
  go_at_call 44
  refine (HSZ.out _).mono ?_
  rintro e w1 ⟨rfl, hb1⟩
  have hb1' := below_hop ((Below.refl _ w).alloc (Nat.le_refl _) _) hb1
  have hbx := (hb1.block w.heap.size (by simp)).trans (heap_alloc_new w (.cells #[.int .u64 (C 0 : Nat), .int .u64 (C 1 : Nat), .int .u64 (C 2 : Nat), .int .u64 (C 3 : Nat)] 24))
  obtain ⟨q1, _⟩ := row_cells hbx
  have c0 : w1.cell? ⟨w.heap.size, 0, none⟩ = some (.int .u64 (C 0 : Nat)) := q1 0
  have c1 : w1.cell? ⟨w.heap.size, 1, none⟩ = some (.int .u64 (C 1 : Nat)) := q1 1
  have c2 : w1.cell? ⟨w.heap.size, 2, none⟩ = some (.int .u64 (C 2 : Nat)) := q1 2
  have c3 : w1.cell? ⟨w.heap.size, 3, none⟩ = some (.int .u64 (C 3 : Nat)) := q1 3
  have hlt : w.heap.size < w1.heap.size := (Array.getElem?_eq_some_iff.1 hbx).1
  have HB1 := Lib.hid hb1'
  clear hb1 hb1' hbx q1
  go_wp2_with fail
  go_at_call 45
  refine (HLT.out _).mono ?_
  rintro e w2 ⟨rfl, hb2⟩
  have HB2 := Lib.hid (below_hop HB1.out hb2)
  clear hb2 c0 c1 c2 c3
  go_wp2_with fail
  go_at_call 16
  refine (byte_any c hc _).mono ?_
  rintro e w3 ⟨s, hs, rfl, hb3⟩
  go_wp2_with fail
  go_ret
  exact ⟨s, hs, rfl, below_hop HB2.out hb3⟩

end Go.Proofs.YtpibkalbnjgpaaaDoor

/- What a tree of one byte alone is written as: by the program: a contract.
   Conditions: the tree lies in memory. -/
namespace Go.Proofs.YtpibkalbnjgpaaaDoor
open Go.RowKit Go.Shelf
attribute [local go_sem] nodeAgg

/-- A tree of one byte. -/
def One (t : T) : Prop := ∃ c, c < 256 ∧ t = atomT (between c c)

set_option maxHeartbeats 1000000 in
set_option maxRecDepth 100000 in
theorem parts_one (B b o : Nat) (p : V) (w : World) (h : NodeB B w b o p) (hS : One (erase p)) : Calls Tryd.prog 21 #[.pointer (some ⟨b, o, none⟩)] w (PartsR B One p w) := by
  obtain ⟨c, hc, he⟩ := hS
  have hT : textT (erase p) = byT c := by rw [he, textT_one hc]
  have hW : 2 < wtT (erase p) := by have := wtT_pos (erase p); omega
  obtain ⟨hk, hs, hlo, hhi, hps⟩ := erase_node (show erase p = .node 1 (canon (between c c)) 0 0 [] from he)
  obtain ⟨x0, x1, x2, x3, x4, x5, x6, x7⟩ := node_cells h.2.1 h.at.lt (Below.refl _ _)
  rw [hk] at x0
  rw [hs] at x1 x2 x3 x4
  have hlt := h.at.lt
  have HS := Lib.hid (fun W => set_one c hc W)
  have HT := Lib.hid (And.intro hT hW)
  clear h hT hW hk hs hlo hhi hps he x5 x6 x7
  generalize canon (between c c) = C at *
  go_enter Tryd.func21, Tryd.ntmps21
  go_wp2_with fail
  go_at_call 33
  refine (HS.out _).mono ?_
  rintro e w1 ⟨s, hst, rfl, hb1⟩
  have HB := Lib.hid (And.intro hst hb1)
  clear hst hb1 x0 x1 x2 x3 x4
  go_wp2_with fail
  go_ret
  refine ⟨[.tx s], some ⟨w1.heap.size, 0, none⟩, 1, rfl, fun _ => ⟨w1.heap.size, rfl, HB.out.2.size, by simp, fun j u hu => ?_⟩, fun q hq => ?_, ?_, ?_, HB.out.2.alloc HB.out.2.size _⟩
  · rw [(row_cells (heap_alloc_new w1 (.cells #[.string s, .pointer none] 47))).1 j, List.getElem?_toArray]
    exact hu
  · simp at hq
    subst hq
    trivial
  · rw [HT.out.1, ← HB.out.1]
    simp [rend]
  · have := HT.out.2
    simp [wtL, wtP]
    omega

/-- A tree of one byte is written as that byte is. -/
theorem text_one (t : V) (c : Nat) (hc : c < 256) (he : erase t = atomT (between c c)) (w : World) (R : Nat → Prop) (hl : Laid w R t) : Calls Tryd.prog 10 #[nodeAgg t] w (Wrote (byT c) w) := by
  have hlen : (byT c).length ≤ 4 := by
    unfold byT
    split
    · simp
    · split
      · simp
      · split
        · simp
        · split <;> simp [esc2]
  have hT := textT_one hc
  have := text_formed One t w R ⟨c, hc, he⟩ hl (by rw [he, ok_atom]) (by rw [he]; unfold atomT; rw [wtT, wtsT]; omega) (by rw [he, hT]; omega) (by rw [dpt_erase, he]; unfold atomT; rw [dptT, dptsT]; omega)
    (fun B b o p W h _ hS _ _ => parts_one B b o p W h hS)
  rw [he, hT] at this
  exact this

end Go.Proofs.YtpibkalbnjgpaaaDoor

/- The runs of a class: the program's own calls, contracts.
   Conditions: classes are four words below 2^64 ('Cl'), bytes below 256. -/
namespace Go.Proofs.YtpibkalbnjgpaaaDoor
open Go.RowKit

theorem v_and {A B : Nat → Nat} (hA : Cl A) (hB : Cl B) (i : Nat) : bits .and .u64 (A i : Int) (B i : Int) = ((cAnd A B i : Nat) : Int) := bits_and_u64_nat _ _ (hA i) (hB i)
def bitN (C : Nat → Nat) (b : Nat) : Nat := C (b / 64) / 2 ^ (b % 64) % 2
theorem v_bit {C : Nat → Nat} (h : Cl C) (b : Nat) : bits .and .u64 ((C (b / 64) : Int) / 2 ^ (b % 64)) 1 = ((bitN C b : Nat) : Int) := by
  have e : ((C (b / 64) : Int) / 2 ^ (b % 64)) = ((C (b / 64) / 2 ^ (b % 64) : Nat) : Int) := by simp
  have l := Nat.lt_of_le_of_lt (Nat.div_le_self (C (b / 64)) (2 ^ (b % 64))) (h (b / 64))
  rw [e]
  generalize hx : C (b / 64) / 2 ^ (b % 64) = x at l
  rw [and_one_u64 _ (Int.natCast_nonneg _) (by omega)]
  unfold bitN
  rw [hx]
  omega
theorem bitN_one (C : Nat → Nat) (b : Nat) : ((bitN C b : Int) == 1) = hasB C b := by
  rw [hasB_div]
  unfold bitN
  generalize C (b / 64) / 2 ^ (b % 64) = x
  rcases Nat.mod_two_eq_zero_or_one x with h | h <;> simp [h]

set_option maxHeartbeats 400000 in
set_option maxRecDepth 100000 in
theorem bit_any (C : Nat → Nat) (b : Nat) (w : World) (hC : Cl C) (hb : b < 256) :
    Calls Tryd.prog 73 #[.agg #[.int .u64 (C 0 : Nat), .int .u64 (C 1 : Nat), .int .u64 (C 2 : Nat), .int .u64 (C 3 : Nat)], .int .u8 b] w fun e w' => e = .returned (.int .u64 (bitN C b)) ∧ Below w.heap.size w w' := by
  have hc := pick4 C (b / 64) (by omega)
  have hv := v_bit hC b
  go_enter Tryd.func73, Tryd.ntmps73
  go_wp2
  go_ret
  exact ⟨rfl, (Below.refl _ _).alloc (Nat.le_refl _) _⟩

set_option maxHeartbeats 400000 in
set_option maxRecDepth 100000 in
theorem has_any (C : Nat → Nat) (b : Nat) (w : World) (hC : Cl C) (hb : b < 256) :
    Calls Tryd.prog 64 #[.agg #[.int .u64 (C 0 : Nat), .int .u64 (C 1 : Nat), .int .u64 (C 2 : Nat), .int .u64 (C 3 : Nat)], .int .u8 b] w fun e w' => e = .returned (.bool (hasB C b)) ∧ Below w.heap.size w w' := by
  have hv := bitN_one C b
  go_enter Tryd.func64, Tryd.ntmps64
  go_wp2_with (go_at_call 73; refine (bit_any C b _ hC hb).mono ?_; rintro e w1 ⟨rfl, hb1⟩)
  go_ret
  exact ⟨rfl, ((Below.refl _ _).alloc (Nat.le_refl _) _).trans (hb1.mono (by simp))⟩

set_option maxHeartbeats 1000000 in
set_option maxRecDepth 100000 in
theorem and_any (A B : Nat → Nat) (w : World) (hA : Cl A) (hB : Cl B) :
    Calls Tryd.prog 58 #[.agg #[.int .u64 (A 0 : Nat), .int .u64 (A 1 : Nat), .int .u64 (A 2 : Nat), .int .u64 (A 3 : Nat)], .agg #[.int .u64 (B 0 : Nat), .int .u64 (B 1 : Nat), .int .u64 (B 2 : Nat), .int .u64 (B 3 : Nat)]] w fun e w' => e = .returned (.agg #[.int .u64 (cAnd A B 0 : Nat), .int .u64 (cAnd A B 1 : Nat), .int .u64 (cAnd A B 2 : Nat), .int .u64 (cAnd A B 3 : Nat)]) ∧ Below w.heap.size w w' := by
  have i0 : ∀ w : World, (Instr.index 24 (.agg #[.int .u64 (B 0 : Nat), .int .u64 (B 1 : Nat), .int .u64 (B 2 : Nat), .int .u64 (B 3 : Nat)]) (.int .i64 0)).run Tryd.prog w = .ok (.int .u64 (B 0 : Nat)) w := fun _ => by kernel_rfl
  have i1 : ∀ w : World, (Instr.index 24 (.agg #[.int .u64 (B 0 : Nat), .int .u64 (B 1 : Nat), .int .u64 (B 2 : Nat), .int .u64 (B 3 : Nat)]) (.int .i64 1)).run Tryd.prog w = .ok (.int .u64 (B 1 : Nat)) w := fun _ => by kernel_rfl
  have i2 : ∀ w : World, (Instr.index 24 (.agg #[.int .u64 (B 0 : Nat), .int .u64 (B 1 : Nat), .int .u64 (B 2 : Nat), .int .u64 (B 3 : Nat)]) (.int .i64 2)).run Tryd.prog w = .ok (.int .u64 (B 2 : Nat)) w := fun _ => by kernel_rfl
  have i3 : ∀ w : World, (Instr.index 24 (.agg #[.int .u64 (B 0 : Nat), .int .u64 (B 1 : Nat), .int .u64 (B 2 : Nat), .int .u64 (B 3 : Nat)]) (.int .i64 3)).run Tryd.prog w = .ok (.int .u64 (B 3 : Nat)) w := fun _ => by kernel_rfl
  go_enter Tryd.func58, Tryd.ntmps58
  go_wp2
  refine wp_loop_rounds 5 ?_
  rw [rounds_succ]; go_wp2
  rw [rounds_succ]; go_wp2
  rw [rounds_succ]; go_wp2
  rw [rounds_succ]; go_wp2
  rw [rounds_succ]; go_wp2
  refine bodyPost_ret (v := .agg #[.int .u64 (cAnd A B 0 : Nat), .int .u64 (cAnd A B 1 : Nat), .int .u64 (cAnd A B 2 : Nat), .int .u64 (cAnd A B 3 : Nat)]) (by simp [results, Tryd.results58, go_sem, v_and hA hB]) rfl ⟨rfl, ?_⟩
  exact (((Below.refl _ _).alloc (Nat.le_refl _) _).alloc (by simp) _).alloc (by simp; omega) _


theorem runEnd_stop {C : Nat → Nat} : ∀ (n b : Nat), b ≤ 255 → (b = 255 ∨ hasB C (b + 1) = false) → runEnd C n b = b
  | 0, _, _, _ => rfl
  | n + 1, b, hb, h => by
    rw [runEnd, if_neg]
    rintro ⟨h1, h2⟩
    rcases h with h | h
    · omega
    · rw [h] at h2; cases h2
theorem runEnd_is {C : Nat → Nat} {hi : Nat} : ∀ (n b : Nat), b ≤ hi → hi ≤ 255 → (∀ x, b < x → x ≤ hi → hasB C x = true) → (hi = 255 ∨ hasB C (hi + 1) = false) → hi - b ≤ n → runEnd C n b = hi
  | n, b, h1, h2, h3, h4, h5 => by
    by_cases e : b = hi
    · subst e; exact runEnd_stop n b h2 h4
    · match n, h5 with
      | 0, h5 => omega
      | n + 1, h5 =>
        rw [runEnd, if_pos ⟨by omega, h3 (b + 1) (by omega) (by omega)⟩]
        exact runEnd_is n (b + 1) (by omega) h2 (fun x hx => h3 x (by omega)) h4 (by omega)

set_option maxHeartbeats 1000000 in
set_option maxRecDepth 100000 in
theorem end_any (C : Nat → Nat) (lo : Nat) (w : World) (hC : Cl C) (hlo : lo < 256) :
    Calls Tryd.prog 56 #[.agg #[.int .u64 (C 0 : Nat), .int .u64 (C 1 : Nat), .int .u64 (C 2 : Nat), .int .u64 (C 3 : Nat)], .int .u8 lo] w fun e w' => e = .returned (.int .u8 (runEnd C 256 lo)) ∧ Below w.heap.size w w' := by
  go_enter Tryd.func56, Tryd.ntmps56
  go_wp2_with fail
  go_loopw [5] (fun x wr => ∃ hi : Nat, x = .int .u8 hi ∧ lo ≤ hi ∧ hi ≤ 255 ∧ (∀ y, lo < y → y ≤ hi → hasB C y = true) ∧ Below (w.alloc (.cells #[.int .u64 (C 0 : Nat), .int .u64 (C 1 : Nat), .int .u64 (C 2 : Nat), .int .u64 (C 3 : Nat)] 24)).heap.size (w.alloc (.cells #[.int .u64 (C 0 : Nat), .int .u64 (C 1 : Nat), .int .u64 (C 2 : Nat), .int .u64 (C 3 : Nat)] 24)) wr) (fun x _ => match x with | .int _ z => 255 - z.toNat | _ => 0)
  case atStart => exact ⟨lo, rfl, Nat.le_refl _, by omega, fun y h1 h2 => by omega, Below.refl _ _⟩
  case round =>
    obtain ⟨hi, rfl, h1, h2, h3, hb⟩ := hrel
    have hbx := (hb.block w.heap.size (by simp)).trans (heap_alloc_new w _)
    obtain ⟨q1, _⟩ := row_cells hbx
    have c0 : wr.cell? ⟨w.heap.size, 0, none⟩ = some (.int .u64 (C 0 : Nat)) := q1 0
    have c1 : wr.cell? ⟨w.heap.size, 1, none⟩ = some (.int .u64 (C 1 : Nat)) := q1 1
    have c2 : wr.cell? ⟨w.heap.size, 2, none⟩ = some (.int .u64 (C 2 : Nat)) := q1 2
    have c3 : wr.cell? ⟨w.heap.size, 3, none⟩ = some (.int .u64 (C 3 : Nat)) := q1 3
    have HX := Lib.hid (And.intro h1 (And.intro h2 (And.intro h3 hb)))
    have n0 : (0 : Int) ≤ (hi : Int) := by omega
    clear h1 h3 hb hbx q1
    by_cases h255 : hi < 255
    · have g1 : (hi : Int) < 255 := by omega
      have g2 : IntKind.u8.wrap ((hi : Int) + 1) = (hi : Int) + 1 := by rw [IntKind.wrap_u8]; omega
      have g3 : ((hi + 1 : Nat) : Int) = (hi : Int) + 1 := by omega
      have HH := Lib.hid (fun W => has_any C (hi + 1) W hC (by omega))
      rw [g3] at HH
      cases hE : hasB C (hi + 1) with
      | true =>
        rw [hE] at HH
        have HE := Lib.hid hE
        clear hE
        go_wp2_with fail
        go_at_call 64
        refine (HH.out _).mono ?_
        rintro e w1 ⟨rfl, hb1⟩
        go_wp2_with fail
        refine ⟨⟨hi + 1, by simp, by have := HX.out.1; omega, by omega, fun y y1 y2 => ?_, HX.out.2.2.2.trans (hb1.mono HX.out.2.2.2.size)⟩, by simp; omega⟩
        by_cases e : y = hi + 1
        · subst e; exact HE.out
        · exact HX.out.2.2.1 y y1 (by omega)
      | false =>
        rw [hE] at HH
        have HE := Lib.hid (runEnd_is 256 lo HX.out.1 HX.out.2.1 HX.out.2.2.1 (.inr hE) (by omega))
        clear hE
        go_wp2_with fail
        go_at_call 64
        refine (HH.out _).mono ?_
        rintro e w1 ⟨rfl, hb1⟩
        go_wp2_with fail
        go_ret
        refine ⟨by rw [HE.out]; rfl, below_hop ((Below.refl _ w).alloc (Nat.le_refl _) _) (HX.out.2.2.2.trans (hb1.mono HX.out.2.2.2.size))⟩
    · have he : hi = 255 := by omega
      have HE := Lib.hid (runEnd_is 256 lo HX.out.1 HX.out.2.1 HX.out.2.2.1 (.inl he) (by omega))
      have g1 : ¬ (hi : Int) < 255 := by omega
      clear he
      go_wp2_with fail
      go_ret
      refine ⟨by rw [HE.out]; rfl, below_hop ((Below.refl _ w).alloc (Nat.le_refl _) _) HX.out.2.2.2⟩

theorem byT_le (c : Nat) : (byT c).length ≤ 4 := by
  unfold byT
  split
  · simp
  · split
    · simp
    · split
      · simp
      · split <;> simp [esc2]
theorem size_le {s : ByteArray} {c : Nat} (h : txt s = byT c) : s.size ≤ 4 := by rw [← txt_length, h]; exact byT_le c
set_option maxHeartbeats 1000000 in
set_option maxRecDepth 100000 in
theorem run_any (lo hi : Nat) (w : World) (h1 : lo ≤ hi) (h2 : hi < 256) : Calls Tryd.prog 57 #[.int .u8 lo, .int .u8 hi] w (Wrote (runT lo hi) w) := by
  have g0 : IntKind.u8.wrap ((hi : Int) - (lo : Int)) = (hi : Int) - (lo : Int) := by rw [IntKind.wrap_u8]; omega
  have HL := Lib.hid (fun W => byte_any lo (by omega) W)
  have HH := Lib.hid (fun W => byte_any hi h2 W)
  by_cases e0 : hi = lo
  · have g1 : ((hi : Int) - (lo : Int) == 0) = true := by simp; omega
    have HT := Lib.hid (show runT lo hi = byT lo by rw [runT, if_pos e0])
    clear e0
    go_enter Tryd.func57, Tryd.ntmps57
    go_wp2_with fail
    go_at_call 16
    refine (HL.out _).mono ?_
    rintro e w1 ⟨s, hs, rfl, hb⟩
    go_wp2_with fail
    go_ret
    exact ⟨s, hs.trans HT.out.symm, rfl, hb⟩
  · have g1 : ((hi : Int) - (lo : Int) == 0) = false := by simp; omega
    by_cases e1 : hi = lo + 1
    · have g2 : ((hi : Int) - (lo : Int) == 1) = true := by simp; omega
      have HT := Lib.hid (show runT lo hi = byT lo ++ byT hi by rw [runT, if_neg e0, if_pos e1])
      clear e0 e1
      go_enter Tryd.func57, Tryd.ntmps57
      go_wp2_with fail
      go_at_call 16
      refine (HL.out _).mono ?_
      rintro e w1 ⟨s, hs, rfl, hb⟩
      have H1 := Lib.hid (And.intro hs hb)
      have z1 := size_le hs
      clear hs hb
      go_wp2_with fail
      go_at_call 16
      refine (HH.out _).mono ?_
      rintro e w2 ⟨s2, hs2, rfl, hb2⟩
      have H2 := Lib.hid (And.intro hs2 hb2)
      have z2 := size_le hs2
      clear hs2 hb2
      go_wp2_with fail
      go_ret
      exact ⟨_, by rw [txt_append, H1.out.1, H2.out.1, HT.out], rfl, below_hop H1.out.2 H2.out.2⟩
    · have g2 : ((hi : Int) - (lo : Int) == 1) = false := by simp; omega
      have HT := Lib.hid (show runT lo hi = byT lo ++ 45 :: byT hi by rw [runT, if_neg e0, if_neg e1])
      clear e0 e1
      go_enter Tryd.func57, Tryd.ntmps57
      go_wp2_with fail
      go_at_call 16
      refine (HL.out _).mono ?_
      rintro e w1 ⟨s, hs, rfl, hb⟩
      have H1 := Lib.hid (And.intro hs hb)
      have z1 := size_le hs
      clear hs hb
      go_wp2_with fail
      go_at_call 16
      refine (HH.out _).mono ?_
      rintro e w2 ⟨s2, hs2, rfl, hb2⟩
      have H2 := Lib.hid (And.intro hs2 hb2)
      have z2 := size_le hs2
      clear hs2 hb2
      go_wp2_with fail
      go_ret
      refine ⟨_, ?_, rfl, below_hop H1.out.2 H2.out.2⟩
      rw [txt_append, txt_append, H1.out.1, H2.out.1, HT.out, List.append_assoc]
      rfl

end Go.Proofs.YtpibkalbnjgpaaaDoor

/- What a class is written as, by the program: a contract.
   Conditions: classes are four words below 2^64 ('Cl'). -/
namespace Go.Proofs.YtpibkalbnjgpaaaDoor
open Go.RowKit

theorem runEnd_ge (C : Nat → Nat) : ∀ (n b : Nat), b ≤ runEnd C n b
  | 0, b => Nat.le_refl _
  | n + 1, b => by
    rw [runEnd]
    split
    · have := runEnd_ge C n (b + 1); omega
    · exact Nat.le_refl _
theorem runEnd_le {C : Nat → Nat} : ∀ (n b : Nat), b ≤ 255 → runEnd C n b ≤ 255
  | 0, b, h => h
  | n + 1, b, h => by
    rw [runEnd]
    split
    · rename_i h2; exact runEnd_le n (b + 1) (by omega)
    · exact h
theorem runEnd_congr {C D : Nat → Nat} : ∀ (n b : Nat), (∀ x, b < x → x < 256 → hasB C x = hasB D x) → runEnd C n b = runEnd D n b
  | 0, b, _ => rfl
  | n + 1, b, h => by
    rw [runEnd, runEnd]
    by_cases hb : b < 255
    · rw [h (b + 1) (by omega) (by omega), runEnd_congr n (b + 1) (fun x h1 h2 => h x (by omega) h2)]
    · rw [if_neg (fun e => hb e.1), if_neg (fun e => hb e.1)]
theorem runs_fuel (C : Nat → Nat) : ∀ (n m b : Nat), 256 - b ≤ n → 256 - b ≤ m → runsT C n b = runsT C m b
  | 0, 0, _, _, _ => rfl
  | 0, m + 1, b, h, _ => by rw [runsT, runsT, if_neg (by omega)]
  | n + 1, 0, b, _, h => by rw [runsT, runsT, if_neg (by omega)]
  | n + 1, m + 1, b, h1, h2 => by
    rw [runsT, runsT]
    by_cases hb : b < 256
    · rw [if_pos hb, if_pos hb]
      have := runEnd_ge C 256 b
      rw [runs_fuel C n m (runEnd C 256 b + 1) (by omega) (by omega), runs_fuel C n m (b + 1) (by omega) (by omega)]
    · rw [if_neg hb, if_neg hb]
theorem runs_skip {C : Nat → Nat} {lo : Nat} (hlo : lo ≤ 256) : ∀ (k m : Nat), lo - m = k → m ≤ lo → (∀ x, m ≤ x → x < lo → hasB C x = false) → runsT C 256 m = runsT C 256 lo
  | 0, m, hk, hm, _ => by have : m = lo := by omega
                          rw [this]
  | k + 1, m, hk, hm, h => by
    rw [← runs_skip hlo k (m + 1) (by omega) (by omega) (fun x h1 h2 => h x (by omega) h2), runsT, if_pos (by omega), h m (Nat.le_refl _) (by omega)]
    simp only [Bool.false_eq_true, if_false]
    exact runs_fuel C _ _ _ (by omega) (by omega)
theorem runs_none {C : Nat → Nat} {m : Nat} (h : ∀ x, m ≤ x → x < 256 → hasB C x = false) : runsT C 256 m = [] := by
  by_cases hm : m ≤ 256
  · rw [runs_skip (lo := 256) (Nat.le_refl _) _ m rfl hm h, runsT, if_neg (by omega)]
  · rw [runsT, if_neg (by omega)]
theorem runs_take {C : Nat → Nat} {m lo : Nat} (hm : m ≤ lo) (hlo : lo < 256) (h : ∀ x, m ≤ x → x < lo → hasB C x = false) (hb : hasB C lo = true) : runsT C 256 m = runT lo (runEnd C 256 lo) ++ runsT C 256 (runEnd C 256 lo + 1) := by
  rw [runs_skip (by omega) _ m rfl hm h]
  have := runEnd_ge C 256 lo
  conv => lhs; rw [runsT, if_pos hlo, if_pos hb]
  rw [runs_fuel C 255 256 (runEnd C 256 lo + 1) (by omega) (by omega)]
/-- A class with what is ahead of m taken away. -/
def From (C D : Nat → Nat) (m : Nat) : Prop := ∀ x, x < 256 → hasB D x = (decide (m ≤ x) && hasB C x)
theorem from_none {C D : Nat → Nat} {m : Nat} (h : From C D m) (hl : lst D 256 = none) : runsT C 256 m = [] := by
  refine runs_none fun x h1 h2 => ?_
  rcases lst_is (C := D) (n := 256) with ⟨_, h3⟩ | ⟨k, _, h4⟩
  · have := h3 x h2
    rw [h x h2] at this
    simpa [h1] using this
  · rw [hl] at h4; cases h4
theorem from_some {C D : Nat → Nat} {m lo : Nat} (h : From C D m) (hlo : lo < 256) (hb : hasB D lo = true) (hn : ∀ x, x < lo → hasB D x = false) :
    runsT C 256 m = runT lo (runEnd D 256 lo) ++ runsT C 256 (runEnd D 256 lo + 1) ∧ From C (cAnd D (cNot (canon (between lo (runEnd D 256 lo))))) (runEnd D 256 lo + 1) ∧ (m ≤ lo ∧ lo ≤ runEnd D 256 lo) ∧ runEnd D 256 lo < 256 := by
  have h0 := h lo hlo
  rw [hb] at h0
  have hm : m ≤ lo := by
    by_cases e : m ≤ lo
    · exact e
    · simp [e] at h0
  have hC : hasB C lo = true := by simpa [hm] using h0.symm
  have he : runEnd C 256 lo = runEnd D 256 lo := runEnd_congr 256 lo fun x h1 h2 => by rw [h x h2]; simp; omega
  have hg := runEnd_ge D 256 lo
  have hle := runEnd_le (C := D) 256 lo (by omega)
  refine ⟨?_, fun x hx => ?_, ⟨hm, hg⟩, by omega⟩
  · rw [← he]
    refine runs_take hm hlo (fun x h1 h2 => ?_) hC
    have := hn x h2
    rw [h x (by omega)] at this
    simpa [h1] using this
  · rw [hasB_and, hasB_not, hasB_canon]
    have hbt := between_iff lo (runEnd D 256 lo) x
    by_cases c1 : x < lo
    · rw [hn x c1]; simp; omega
    · by_cases c2 : x ≤ runEnd D 256 lo
      · rw [hbt.2 ⟨by omega, c2⟩]; simp; omega
      · have : between lo (runEnd D 256 lo) x = false := by
          cases hq : between lo (runEnd D 256 lo) x with
          | false => rfl
          | true => have := hbt.1 hq; omega
        rw [this, h x hx]
        have e1 : decide (m ≤ x) = true := by simp; omega
        have e2 : decide (runEnd D 256 lo + 1 ≤ x) = true := by simp; omega
        rw [e1, e2]; simp

end Go.Proofs.YtpibkalbnjgpaaaDoor

/- The runs of a class as they are written, by the program: a contract.
   Conditions: classes are four words below 2^64 ('Cl'). -/
namespace Go.Proofs.YtpibkalbnjgpaaaDoor
open Go.RowKit

theorem runT_len (lo hi : Nat) : (runT lo hi).length ≤ 9 := by
  have := byT_le lo
  have := byT_le hi
  unfold runT
  split
  · omega
  · split
    · rw [List.length_append]; omega
    · rw [List.length_append, List.length_cons]; omega
theorem runsT_len (C : Nat → Nat) : ∀ (n b : Nat), (runsT C n b).length ≤ 9 * n
  | 0, b => by rw [runsT]; simp
  | n + 1, b => by
    rw [runsT]
    split
    · split
      · rw [List.length_append]
        have := runT_len b (runEnd C 256 b)
        have := runsT_len C n (runEnd C 256 b + 1)
        omega
      · have := runsT_len C n (b + 1)
        omega
    · simp
theorem lst_spec {C : Nat → Nat} {m : Nat} : ∀ {n : Nat}, lst C n = some m → hasB C m = true ∧ ∀ b, b < m → hasB C b = false
  | 0, h => by cases h
  | n + 1, h => by
    rcases lst_is (C := C) (n := n) with ⟨h1, h2⟩ | ⟨k, hk, h1⟩
    · unfold lst at h
      rw [h1] at h
      simp only at h
      split at h
      · rename_i e
        injection h with h
        subst h
        exact ⟨e, h2⟩
      · cases h
    · have h2 := lst_spec h1
      unfold lst at h
      rw [h1] at h
      injection h with h
      subst h
      exact h2
/-- Four words in a box. -/
def boxC (D : Nat → Nat) : Obj := .cells #[.int .u64 (D 0 : Nat), .int .u64 (D 1 : Nat), .int .u64 (D 2 : Nat), .int .u64 (D 3 : Nat)] 24
theorem box_cells {W : World} {b : Nat} {D : Nat → Nat} (h : W.heap[b]? = some (boxC D)) :
    (W.cell? ⟨b, 0, none⟩ = some (.int .u64 (D 0 : Nat)) ∧ W.cell? ⟨b, 1, none⟩ = some (.int .u64 (D 1 : Nat)) ∧ W.cell? ⟨b, 2, none⟩ = some (.int .u64 (D 2 : Nat)) ∧ W.cell? ⟨b, 3, none⟩ = some (.int .u64 (D 3 : Nat))) ∧
    (W.frozen? ⟨b, 0, none⟩ = false ∧ W.frozen? ⟨b, 1, none⟩ = false ∧ W.frozen? ⟨b, 2, none⟩ = false ∧ W.frozen? ⟨b, 3, none⟩ = false) := by
  obtain ⟨h1, h2⟩ := row_cells h
  exact ⟨⟨h1 0, h1 1, h1 2, h1 3⟩, h2 0, h2 1, h2 2, h2 3⟩
theorem box_set {W : World} {b : Nat} {D E : Nat → Nat} (h : W.heap[b]? = some (boxC D)) :
    ((((W.setCell ⟨b, 0, none⟩ (.int .u64 (E 0 : Nat))).setCell ⟨b, 1, none⟩ (.int .u64 (E 1 : Nat))).setCell ⟨b, 2, none⟩ (.int .u64 (E 2 : Nat))).setCell ⟨b, 3, none⟩ (.int .u64 (E 3 : Nat))).heap[b]? = some (boxC E) := by
  unfold boxC at h ⊢
  simp [World.setCell, Array.getElem?_modify, h]
theorem box_chg {W : World} {b : Nat} (v0 v1 v2 v3 : Value) : Chg (fun x => x = b) W ((((W.setCell ⟨b, 0, none⟩ v0).setCell ⟨b, 1, none⟩ v1).setCell ⟨b, 2, none⟩ v2).setCell ⟨b, 3, none⟩ v3) :=
  ((((Chg.refl (fun x => x = b) W).setCell (p := ⟨b, 0, none⟩) (fun _ => rfl) v0).setCell (p := ⟨b, 1, none⟩) (fun _ => rfl) v1).setCell (p := ⟨b, 2, none⟩) (fun _ => rfl) v2).setCell (p := ⟨b, 3, none⟩) (fun _ => rfl) v3

/-- What holds at the head of the loop over runs. -/
def RunsR (w : World) (C : Nat → Nat) (n : Nat) (x4 x5 : Value) (wr : World) : Prop :=
  ∃ (D : Nat → Nat) (m : Nat) (acc : List UInt8), wr.heap[w.heap.size]? = some (boxC D) ∧ Cl D ∧ From C D m ∧ x4 = .int .u8 ((lst D 256).getD 0 : Nat) ∧ x5 = .bool (lst D 256).isSome ∧
    Bld (w.heap.size + 1) (w.heap.size + 1) (Lib.byteCells acc) wr ∧ acc.map UInt8.toNat ++ runsT C 256 m = runsT C 256 0 ∧ m ≤ 256 ∧ Below w.heap.size w wr ∧ n = 256 - m

set_option maxHeartbeats 4000000 in
set_option maxRecDepth 100000 in
theorem runs_any (C : Nat → Nat) (w : World) (hC : Cl C) :
    Calls Tryd.prog 46 #[.agg #[.int .u64 (C 0 : Nat), .int .u64 (C 1 : Nat), .int .u64 (C 2 : Nat), .int .u64 (C 3 : Nat)]] w (Wrote (runsT C 256 0) w) := by
  have HC := Lib.hid hC
  go_enter Tryd.func46, Tryd.ntmps46
  go_wp2_with fail
  go_at_call 45
  refine (least_any C _ hC).mono ?_
  rintro e w1 ⟨rfl, hb1⟩
  have h0 : ∀ W, Below ((w.alloc (boxC C)).alloc (.cells #[.pointer none, .slice none 0 0] 44)).heap.size ((w.alloc (boxC C)).alloc (.cells #[.pointer none, .slice none 0 0] 44)) W → ∃ n, RunsR w C n (.int .u8 ((lst C 256).getD 0 : Nat)) (.bool (lst C 256).isSome) W := by
    intro W hW
    have hbld : Bld (w.alloc (boxC C)).heap.size (w.alloc (boxC C)).heap.size (Lib.byteCells []) ((w.alloc (boxC C)).alloc (.cells #[.pointer none, .slice none 0 0] 44)) := Lib.IsBuilderF.of (Lib.fresh_isBuilder 44 5 (w.alloc (boxC C)))
    rw [World.size_alloc] at hbld
    have hbx : ((w.alloc (boxC C)).alloc (.cells #[.pointer none, .slice none 0 0] 44)).heap[w.heap.size]? = some (boxC C) := (Below.heap_alloc _ _ _ (by simp)).trans (heap_alloc_new w (boxC C))
    refine ⟨_, C, 0, [], (hW.block _ (by simp; omega)).trans hbx, HC.out, fun x _ => by simp, rfl, rfl, bld_chg hbld (Chg.of_below (R := fun _ => False) hW) (fun _ _ _ _ => id) id, by simp, by omega, ?_, rfl⟩
    exact below_hop (((Below.refl _ w).alloc (Nat.le_refl _) _).alloc (by simp) _) hW
  have HST := Lib.hid (h0 w1 hb1)
  clear h0 hb1
  go_wp2_with fail
  go_loopw [4, 5] (fun x4 x5 wr => ∃ n, RunsR w C n x4 x5 wr) (fun x4 x5 wr => leastOf (fun n => RunsR w C n x4 x5 wr))
  case atStart => exact HST.out
  case round =>
    clear HST
    have hls := (leastOf_spec hrel).1
    obtain ⟨D, m, acc, hbox, hD, hfr, rfl, rfl, hbld, htot, hm, hbel, hN⟩ := hls
    have hbl : w.heap.size < wr.heap.size := (Array.getElem?_eq_some_iff.1 hbox).1
    have hbl2 : w.heap.size + 1 < wr.heap.size := by obtain ⟨cs, hcs⟩ := bld_cells hbld; exact (Array.getElem?_eq_some_iff.1 hcs).1
    have HN := Lib.hid hN
    clear hN hrel
    rcases lst_is (C := D) (n := 256) with ⟨hl, _⟩ | ⟨lo, hlo, hl⟩
    · have HX := Lib.hid (And.intro hbld (And.intro (from_none hfr hl) (And.intro htot hbel)))
      clear hbox hD hfr hbld htot hbel
      rw [hl]
      clear hl
      simp only [Option.isSome_none]
      go_wp2_with fail
      go_at_call 22
      refine (Tryd.Builder_String_any_k (w.heap.size + 1) (w.heap.size + 1) acc wr HX.out.1 (by omega)).mono ?_
      rintro e w2 ⟨rfl, _, b2, _⟩
      go_wp2_with fail
      go_ret
      refine ⟨_, ?_, rfl, HX.out.2.2.2.trans (b2.mono (by omega))⟩
      have h1 := HX.out.2.2.1
      rw [HX.out.2.1, List.append_nil] at h1
      rw [← h1]
      simp [txt]
    · obtain ⟨hs1, hs2⟩ := lst_spec hl
      obtain ⟨hf1, hf2, ⟨hf0, hf3⟩, hf4⟩ := from_some hfr hlo hs1 hs2
      have hN2 := HN.out
      rw [hl] at hN2 ⊢
      simp only [Option.isSome_some, Option.getD_some] at hN2
      have HN2 := Lib.hid (And.intro hN2 hf0)
      clear hN2 hf0
      simp only [Option.isSome_some, Option.getD_some]
      have HEN := Lib.hid (fun W => end_any D lo W hD hlo)
      generalize hhi : runEnd D 256 lo = hi at *
      have HRN := Lib.hid (fun W => run_any lo hi W hf3 hf4)
      have HRG := Lib.hid (fun W => range_class lo hi W hlo hf4)
      have HNT := Lib.hid (fun W => not_any (canon (between lo hi)) W (Cl_canon _))
      have hclN : Cl (cNot (canon (between lo hi))) := Cl_not (Cl_canon _)
      have HAN := Lib.hid (fun W => and_any D (cNot (canon (between lo hi))) W hD hclN)
      have hD2 : Cl (cAnd D (cNot (canon (between lo hi)))) := Cl_and hclN
      have HLS := Lib.hid (fun W => least_any (cAnd D (cNot (canon (between lo hi)))) W hD2)
      have hal : acc.length ≤ 3000 := by
        have h1 := congrArg List.length htot
        have h2 := runsT_len C 256 0
        rw [List.length_append, List.length_map] at h1
        omega
      obtain ⟨⟨c0, c1, c2, c3⟩, f0, f1, f2, f3⟩ := box_cells hbox
      have HX := Lib.hid (And.intro hbox (And.intro hbld (And.intro htot (And.intro hbel (And.intro hf1 (And.intro hf2 (And.intro hm (And.intro hal (And.intro hD2 (And.intro hf3 hf4))))))))))
      clear hbox hD hfr hbld htot hbel hl hs1 hs2 hf1 hf2 hf3 hf4 hclN hD2 hhi hm hal
      go_wp2_with fail
      go_at_call 56
      refine (HEN.out _).mono ?_
      rintro e w2 ⟨rfl, hb2⟩
      have HB2 := Lib.hid hb2
      clear hb2 c0 c1 c2 c3 f0 f1 f2 f3
      go_wp2_with fail
      go_at_call 57
      refine (HRN.out _).mono ?_
      rintro e w3 ⟨s, hs, rfl, hb3⟩
      have HB3 := Lib.hid (And.intro (below_hop HB2.out hb3) hs)
      have hbl3 : Bld (w.heap.size + 1) (w.heap.size + 1) (Lib.byteCells acc) w3 := bld_chg HX.out.2.1 (Chg.of_below (R := fun _ => False) (below_hop HB2.out hb3)) (fun _ _ _ _ => id) id
      have hsz : s.size ≤ 9 := by rw [← txt_length, hs]; exact runT_len _ _
      have hbx3 := (HB3.out.1.block w.heap.size hbl).trans HX.out.1
      have hz3 := HB3.out.1.size
      have H3 := Lib.hid (And.intro hbl3 (And.intro hbx3 hsz))
      clear hb3 hs hbl3 hbx3
      go_wp2_with fail
      go_at_call 19
      refine (writeString_any (w.heap.size + 1) (w.heap.size + 1) _ s _ H3.out.1 (by rw [Lib.byteCells_length]; have := HX.out.2.2.2.2.2.2.2.1; omega) (by omega)).mono ?_
      rintro e w4 ⟨rfl, h4, b4, k4⟩
      have hbx4 : w4.heap[w.heap.size]? = some (boxC D) := (b4.block w.heap.size (by omega)).trans H3.out.2.1
      have hbel4 : Below w.heap.size w w4 := (below_hop HX.out.2.2.2.1 HB3.out.1).trans (b4.mono (by omega))
      have HF := Lib.hid (fun (W : World) (h : Below w4.heap.size w4 W) => box_cells ((h.block _ (Array.getElem?_eq_some_iff.1 hbx4).1).trans hbx4))
      have HD := Lib.hid (show Below w4.heap.size w4 w4.drew from (Below.refl _ _).drew)
      have H4 := Lib.hid (And.intro h4 (And.intro hbx4 hbel4))
      obtain ⟨⟨c0, c1, c2, c3⟩, f0, f1, f2, f3⟩ := HF.out w4 (Below.refl _ _)
      have hz4 : w.heap.size < w4.heap.size := (Array.getElem?_eq_some_iff.1 hbx4).1
      clear h4 b4 k4 hbx4 hbel4 H3
      go_wp2_with fail
      go_region_with (first
        | (go_at_call 60; refine (HRG.out _).mono ?_; rintro e wa ⟨rfl, ha⟩; have hA := below_hop HD.out ha; obtain ⟨⟨a0, a1, a2, a3⟩, e0, e1, e2, e3⟩ := HF.out _ hA; have HA := Lib.hid hA; clear ha hA)
        | (go_at_call 59; refine (HNT.out _).mono ?_; rintro e wb ⟨rfl, hb⟩; have hB := below_hop HA.out hb; obtain ⟨⟨d0, d1, d2, d3⟩, g0, g1, g2, g3⟩ := HF.out _ hB; have HB := Lib.hid hB; clear hb hB)
        | (go_at_call 58; refine (HAN.out _).mono ?_; rintro e wc ⟨rfl, hc⟩; have hC2 := below_hop HB.out hc; obtain ⟨⟨i0, i1, i2, i3⟩, j0, j1, j2, j3⟩ := HF.out _ hC2; have HC2 := Lib.hid hC2; clear hc hC2))
      all_goals
        have hbc := (HC2.out.block w.heap.size hz4).trans H4.out.2.1
        have hst := box_set (E := cAnd D (cNot (canon (between lo hi)))) hbc
        have hch := box_chg (W := wc) (b := w.heap.size) (.int .u64 (cAnd D (cNot (canon (between lo hi))) 0 : Nat)) (.int .u64 (cAnd D (cNot (canon (between lo hi))) 1 : Nat)) (.int .u64 (cAnd D (cNot (canon (between lo hi))) 2 : Nat)) (.int .u64 (cAnd D (cNot (canon (between lo hi))) 3 : Nat))
        have HST := Lib.hid (And.intro hst hch)
        clear hbc hst hch
        go_wp2_with fail
        go_at_call 45
        refine (HLS.out _).mono ?_
        rintro e w6 ⟨rfl, hb6⟩
        have hbelow : Below w.heap.size w w6 := by
          have h1 := below_hop H4.out.2.2 HC2.out
          have h2 : Below w.heap.size w _ := h1.trans (HST.out.2.below (B := w.heap.size) (by have := h1.size; omega) (fun k hk e => by omega))
          exact below_hop h2 hb6
        have hw6 : RunsR w C (256 - (hi + 1)) (.int .u8 ((lst (cAnd D (cNot (canon (between lo hi)))) 256).getD 0 : Nat)) (.bool (lst (cAnd D (cNot (canon (between lo hi)))) 256).isSome) w6 := by
          obtain ⟨hbox, hbld, htot, hbel, hf1, hf2, hm, hal, hD2, hf3, hf4⟩ := HX.out
          have hbl4 : Bld (w.heap.size + 1) (w.heap.size + 1) (Lib.byteCells acc ++ Lib.strCells s) w4 := .inr H4.out.1
          have hno : ∀ k c fz, wc.heap[k]? = some (.cells c 5 fz) → ¬ k = w.heap.size := fun k c fz h e => by
            subst e
            rw [(HC2.out.block w.heap.size hz4).trans H4.out.2.1] at h
            unfold boxC at h
            simp at h
          refine ⟨_, hi + 1, acc ++ s.data.toList, (hb6.block _ (Array.getElem?_eq_some_iff.1 HST.out.1).1).trans HST.out.1, hD2, hf2, rfl, rfl, ?_, ?_, by omega, hbelow, rfl⟩
          · rw [Lib.byteCells_append]
            exact bld_chg (bld_chg (bld_chg hbl4 (Chg.of_below (R := fun _ => False) HC2.out) (fun _ _ _ _ => id) id) HST.out.2 hno (by omega)) (Chg.of_below (R := fun _ => False) hb6) (fun _ _ _ _ => id) id
          · rw [List.map_append, List.append_assoc, ← htot, hf1, ← HB3.out.2]
            rfl
        have HW6 := Lib.hid hw6
        have hlt : 256 - (hi + 1) < 256 - m := by
          obtain ⟨_, _, _, _, hf1, _, hm, _, _, hf3, hf4⟩ := HX.out
          have := HN2.out.2
          omega
        have HLT := Lib.hid hlt
        clear hb6 hbelow hw6 hlt
        go_wp2_with fail
        go_roundw
        case rel => exact ⟨_, HW6.out⟩
        case measure =>
          rw [HN2.out.1]
          exact Nat.lt_of_le_of_lt ((leastOf_spec ⟨_, HW6.out⟩).2 _ HW6.out) HLT.out

end Go.Proofs.YtpibkalbnjgpaaaDoor

/- What a class is written as, by the program: a contract.
   Conditions: classes are four words below 2^64 ('Cl'). -/
namespace Go.Proofs.YtpibkalbnjgpaaaDoor
open Go.RowKit

theorem cnt_mem (C : Nat → Nat) : ∀ n, cnt C n = ((List.range n).filter fun b => hasB C b).length
  | 0 => by simp [cnt_zero]
  | n + 1 => by
    rw [cnt_succ, cnt_mem C n, List.range_succ, List.filter_append, List.length_append]
    cases hq : hasB C n <;> simp [hq]
theorem mem_iff {C : Nat → Nat} {b : Nat} : b ∈ memT C ↔ b < 256 ∧ hasB C b = true := by unfold memT; simp
theorem lst_mem {C : Nat → Nat} {b : Nat} (h : memT C = [b]) : lst C 256 = some b := by
  have h1 : b ∈ memT C := by rw [h]; simp
  obtain ⟨h2, h3⟩ := mem_iff.1 h1
  refine lst_some (fun x hx => ?_) h3 256 h2
  cases hq : hasB C x with
  | false => rfl
  | true =>
    have : x ∈ memT C := mem_iff.2 ⟨by omega, hq⟩
    rw [h] at this
    simp at this
    omega
theorem setT_len (C : Nat → Nat) : (setT C).length ≤ 2400 := by
  unfold setT
  split
  · simp
  · rename_i b _
    have := byT_le b
    omega
  · split
    · simp
    · have := runsT_len C 256 0
      simp
      omega

set_option maxHeartbeats 2000000 in
set_option maxRecDepth 100000 in
theorem setText_any (C : Nat → Nat) (w : World) (hC : Cl C) : Calls Tryd.prog 33 #[.agg #[.int .u64 (C 0 : Nat), .int .u64 (C 1 : Nat), .int .u64 (C 2 : Nat), .int .u64 (C 3 : Nat)]] w (Wrote (setT C) w) := by
  have HSZ := Lib.hid (fun W => csize_any C W hC)
  have HLT := Lib.hid (fun W => least_any C W hC)
  have HRN := Lib.hid (fun W => runs_any C W hC)
  have hn := cnt_mem C 256
  have hle := cnt_le C 256
  go_enter Tryd.func33, Tryd.ntmps33
  go_wp2_with fail
  go_at_call 44
  refine (HSZ.out _).mono ?_
  rintro e w1 ⟨rfl, hb1⟩
  have hbx := (hb1.block w.heap.size (by simp)).trans (heap_alloc_new w (boxC C))
  obtain ⟨⟨c0, c1, c2, c3⟩, _⟩ := box_cells hbx
  have hlt : w.heap.size < w1.heap.size := (Array.getElem?_eq_some_iff.1 hbx).1
  have HB1 := Lib.hid (below_hop ((Below.refl _ w).alloc (Nat.le_refl _) _) hb1)
  clear hb1 hbx
  by_cases e0 : cnt C 256 = 0
  · have hm : memT C = [] := List.eq_nil_of_length_eq_zero (by rw [← e0, hn]; rfl)
    have HT := Lib.hid (show setT C = [91, 94, 92, 120, 48, 48, 45, 92, 120, 102, 102, 93] by unfold setT; rw [hm])
    rw [e0]
    clear hn hle e0 hm
    go_wp2_with fail
    go_ret
    refine ⟨_, ?_, rfl, HB1.out⟩
    rw [HT.out]
    rfl
  · by_cases e1 : cnt C 256 = 1
    · obtain ⟨b, hm⟩ : ∃ b, memT C = [b] := List.length_eq_one_iff.1 (by rw [← e1, hn]; rfl)
      have hl := lst_mem hm
      have hb : b < 256 := (mem_iff.1 (show b ∈ memT C by rw [hm]; simp)).1
      have HT := Lib.hid (show setT C = byT b by unfold setT; rw [hm])
      rw [hl] at HLT
      rw [e1]
      have HBY := Lib.hid (fun W => byte_any b hb W)
      clear hn hle e0 e1 hm hl
      go_wp2_with fail
      go_at_call 45
      refine (HLT.out _).mono ?_
      rintro e w2 ⟨rfl, hb2⟩
      have HB2 := Lib.hid (below_hop HB1.out hb2)
      clear hb2 c0 c1 c2 c3
      go_wp2_with fail
      go_at_call 16
      refine (HBY.out _).mono ?_
      rintro e w3 ⟨s, hs, rfl, hb3⟩
      go_wp2_with fail
      go_ret
      exact ⟨s, hs.trans HT.out.symm, rfl, below_hop HB2.out hb3⟩
    · have hml : (memT C).length = cnt C 256 := by rw [hn]; rfl
      have hst : setT C = if (memT C).length = 256 then [46] else 91 :: (runsT C 256 0 ++ [93]) := by
        unfold setT
        split
        · rename_i h; rw [h] at hml; exact absurd hml.symm e0
        · rename_i h; rw [h] at hml; exact absurd hml.symm e1
        · rfl
      have g0 : ((cnt C 256 : Int) == 0) = false := by simp; omega
      have g1 : ((cnt C 256 : Int) == 1) = false := by simp; omega
      by_cases e2 : cnt C 256 = 256
      · have HT := Lib.hid (show setT C = [46] by rw [hst, if_pos (hml.trans e2)])
        rw [e2]
        clear hn hle e0 e1 e2 hml hst g0 g1
        go_wp2_with fail
        go_ret
        refine ⟨_, ?_, rfl, HB1.out⟩
        rw [HT.out]
        rfl
      · have HT := Lib.hid (show setT C = 91 :: (runsT C 256 0 ++ [93]) by rw [hst, if_neg (by omega)])
        have g2 : ((cnt C 256 : Int) == 256) = false := by simp; omega
        have HL := Lib.hid (runsT_len C 256 0)
        clear hn e0 e1 e2 hml hst
        go_wp2_with fail
        go_at_call 46
        refine (HRN.out _).mono ?_
        rintro e w2 ⟨s, hs, rfl, hb2⟩
        have hz : s.size ≤ 2304 := by rw [← txt_length, hs]; exact HL.out
        have H2 := Lib.hid (And.intro hs (below_hop HB1.out hb2))
        clear hs hb2
        go_wp2_with fail
        go_ret
        refine ⟨_, ?_, rfl, H2.out.2⟩
        rw [txt_append, txt_append, H2.out.1, HT.out]
        rfl

end Go.Proofs.YtpibkalbnjgpaaaDoor

/- What the bounds of a repeat are written as, by the program: a contract.
   Conditions: bounds of a formed tree; what strconv.FormatInt gives is taken as known ('Fmt'). -/
namespace Go.Proofs.YtpibkalbnjgpaaaDoor
open Go.RowKit

theorem decs_len : ∀ k n, n < 10 ^ (k + 1) → (decs n).length ≤ k + 1
  | 0, n, h => by rw [decs_small (by omega)]; simp
  | k + 1, n, h => by
    by_cases hn : 9 < n
    · rw [decs_big hn, List.length_append]
      have := decs_len k (n / 10) (by rw [Nat.pow_succ] at h; omega)
      simp
      omega
    · rw [decs_small hn]; simp
theorem decs_len19 {n : Nat} (h : n < 9223372036854775808) : (decs n).length ≤ 19 := decs_len 18 n (by omega)
/-- Numbers are written in base ten, wherever the memory has come to from w. -/
def Fmt (w : World) : Prop := ∀ (n : Nat) (W : World), n < 9223372036854775808 → Below w.heap.size w W → Calls Tryd.prog 48 #[.int .i64 (n : Int), .int .i64 10] W (Wrote (decs n) W)

set_option maxHeartbeats 2000000 in
set_option maxRecDepth 100000 in
theorem timesText_any (lo hi : Int) (w : World) (h0 : 0 ≤ lo) (h1 : lo < 9223372036854775808) (h2 : hi = -1 ∨ 0 ≤ hi) (h3 : hi < 9223372036854775808) (HF : Fmt w) :
    Calls Tryd.prog 35 #[.int .i64 lo, .int .i64 hi] w (Wrote (timesT lo hi) w) := by
  by_cases ea : lo = 0 ∧ hi = -1
  · obtain ⟨rfl, rfl⟩ := ea
    go_enter Tryd.func35, Tryd.ntmps35
    go_wp2_with fail
    go_ret
    exact ⟨_, rfl, rfl, Below.refl _ w⟩
  by_cases eb : lo = 1 ∧ hi = -1
  · obtain ⟨rfl, rfl⟩ := eb
    go_enter Tryd.func35, Tryd.ntmps35
    go_wp2_with fail
    go_ret
    exact ⟨_, rfl, rfl, Below.refl _ w⟩
  by_cases ec : lo = 0 ∧ hi = 1
  · obtain ⟨rfl, rfl⟩ := ec
    go_enter Tryd.func35, Tryd.ntmps35
    go_wp2_with fail
    go_ret
    exact ⟨_, rfl, rfl, Below.refl _ w⟩
  have ht : timesT lo hi = 123 :: (decs lo.toNat ++ ((if hi = lo then [] else if hi = -1 then [44] else 44 :: decs hi.toNat) ++ [125])) := by
    unfold timesT
    rw [if_neg ea, if_neg eb, if_neg ec]
  have HT := Lib.hid ht
  have HLO := Lib.hid (HF lo.toNat w (by omega) (Below.refl _ w))
  have HHI := Lib.hid (fun W => HF hi.toNat W (by omega))
  have D1 := Lib.hid (decs_len19 (n := lo.toNat) (by omega))
  have D2 := Lib.hid (decs_len19 (n := hi.toNat) (by omega))
  rw [show ((lo.toNat : Nat) : Int) = lo by omega] at HLO
  have HS := Lib.hid h2
  clear ht
  by_cases e0 : lo = 0
  · have g0 : (lo == 0) = true := by simp [e0]
    have g1 : (lo == 1) = false := by simp [e0]
    have g2 : (hi == -1) = false := by simp; omega
    have g3 : (hi == 1) = false := by simp; omega
    by_cases eq : hi = lo
    · have g4 : (hi == lo) = true := by simp [eq]
      have HR := Lib.hid (HT.out.trans (by rw [if_pos eq] : _ = 123 :: (decs lo.toNat ++ ([] ++ [125]))))
      clear HT HHI D2 eq
      clear ea eb ec e0 h0 h1 h2 h3 HF HS
      go_enter Tryd.func35, Tryd.ntmps35
      go_wp2_with fail
      go_at_call 48
      refine HLO.out.mono ?_
      rintro e w1 ⟨s, hs, rfl, hb⟩
      have hz : s.size ≤ 19 := by rw [← txt_length, hs]; exact D1.out
      have H := Lib.hid (And.intro hs hb)
      clear hs hb
      go_wp2_with fail
      go_ret
      refine ⟨_, ?_, rfl, H.out.2⟩
      rw [txt_append, txt_append, H.out.1, HR.out]
      simp
      rfl
    · have g4 : (hi == lo) = false := by simp [eq]
      have HR := Lib.hid (HT.out.trans (by rw [if_neg eq, if_neg (by omega)] : _ = 123 :: (decs lo.toNat ++ ((44 :: decs hi.toNat) ++ [125]))))
      have HHI2 := HHI
      rw [show ((hi.toNat : Nat) : Int) = hi by have := HS.out; omega] at HHI2
      clear HT HHI eq
      clear ea eb ec e0 h0 h1 h2 h3 HF HS
      go_enter Tryd.func35, Tryd.ntmps35
      go_wp2_with fail
      go_at_call 48
      refine HLO.out.mono ?_
      rintro e w1 ⟨s, hs, rfl, hb⟩
      have hz : s.size ≤ 19 := by rw [← txt_length, hs]; exact D1.out
      have H := Lib.hid (And.intro hs hb)
      clear hs hb
      go_wp2_with fail
      go_at_call 48
      refine (HHI2.out _ H.out.2).mono ?_
      rintro e w2 ⟨s2, hs2, rfl, hb2⟩
      have hz2 : s2.size ≤ 19 := by rw [← txt_length, hs2]; exact D2.out
      have H2 := Lib.hid (And.intro hs2 (below_hop H.out.2 hb2))
      clear hs2 hb2
      go_wp2_with fail
      go_ret
      refine ⟨_, ?_, rfl, H2.out.2⟩
      rw [txt_append, txt_append, txt_append, txt_append, H.out.1, H2.out.1, HR.out]
      simp
      rfl
  · by_cases e1 : lo = 1
    · have g0 : (lo == 0) = false := by simp [e1]
      have g1 : (lo == 1) = true := by simp [e1]
      have g2 : (hi == -1) = false := by simp; omega
      by_cases eq : hi = lo
      · have g4 : (hi == lo) = true := by simp [eq]
        have HR := Lib.hid (HT.out.trans (by rw [if_pos eq] : _ = 123 :: (decs lo.toNat ++ ([] ++ [125]))))
        clear HT HHI D2 eq
        clear ea eb ec e0 e1 h0 h1 h2 h3 HF HS
        go_enter Tryd.func35, Tryd.ntmps35
        go_wp2_with fail
        go_at_call 48
        refine HLO.out.mono ?_
        rintro e w1 ⟨s, hs, rfl, hb⟩
        have hz : s.size ≤ 19 := by rw [← txt_length, hs]; exact D1.out
        have H := Lib.hid (And.intro hs hb)
        clear hs hb
        go_wp2_with fail
        go_ret
        refine ⟨_, ?_, rfl, H.out.2⟩
        rw [txt_append, txt_append, H.out.1, HR.out]
        simp
        rfl
      · have g4 : (hi == lo) = false := by simp [eq]
        have HR := Lib.hid (HT.out.trans (by rw [if_neg eq, if_neg (by omega)] : _ = 123 :: (decs lo.toNat ++ ((44 :: decs hi.toNat) ++ [125]))))
        have HHI2 := HHI
        rw [show ((hi.toNat : Nat) : Int) = hi by have := HS.out; omega] at HHI2
        clear HT HHI eq
        clear ea eb ec e0 e1 h0 h1 h2 h3 HF HS
        go_enter Tryd.func35, Tryd.ntmps35
        go_wp2_with fail
        go_at_call 48
        refine HLO.out.mono ?_
        rintro e w1 ⟨s, hs, rfl, hb⟩
        have hz : s.size ≤ 19 := by rw [← txt_length, hs]; exact D1.out
        have H := Lib.hid (And.intro hs hb)
        clear hs hb
        go_wp2_with fail
        go_at_call 48
        refine (HHI2.out _ H.out.2).mono ?_
        rintro e w2 ⟨s2, hs2, rfl, hb2⟩
        have hz2 : s2.size ≤ 19 := by rw [← txt_length, hs2]; exact D2.out
        have H2 := Lib.hid (And.intro hs2 (below_hop H.out.2 hb2))
        clear hs2 hb2
        go_wp2_with fail
        go_ret
        refine ⟨_, ?_, rfl, H2.out.2⟩
        rw [txt_append, txt_append, txt_append, txt_append, H.out.1, H2.out.1, HR.out]
        simp
        rfl
    · have g0 : (lo == 0) = false := by simp; omega
      have g1 : (lo == 1) = false := by simp; omega
      by_cases eq : hi = lo
      · have g4 : (hi == lo) = true := by simp [eq]
        have HR := Lib.hid (HT.out.trans (by rw [if_pos eq] : _ = 123 :: (decs lo.toNat ++ ([] ++ [125]))))
        clear HT HHI D2 eq
        clear ea eb ec e0 e1 h0 h1 h2 h3 HF HS
        go_enter Tryd.func35, Tryd.ntmps35
        go_wp2_with fail
        go_at_call 48
        refine HLO.out.mono ?_
        rintro e w1 ⟨s, hs, rfl, hb⟩
        have hz : s.size ≤ 19 := by rw [← txt_length, hs]; exact D1.out
        have H := Lib.hid (And.intro hs hb)
        clear hs hb
        go_wp2_with fail
        go_ret
        refine ⟨_, ?_, rfl, H.out.2⟩
        rw [txt_append, txt_append, H.out.1, HR.out]
        simp
        rfl
      · have g4 : (hi == lo) = false := by simp [eq]
        by_cases en : hi = -1
        · have g2 : (hi == -1) = true := by simp [en]
          have HR := Lib.hid (HT.out.trans (by rw [if_neg eq, if_pos en] : _ = 123 :: (decs lo.toNat ++ ([44] ++ [125]))))
          clear HT HHI D2 eq en
          clear ea eb ec e0 e1 h0 h1 h2 h3 HF HS
          go_enter Tryd.func35, Tryd.ntmps35
          go_wp2_with fail
          go_at_call 48
          refine HLO.out.mono ?_
          rintro e w1 ⟨s, hs, rfl, hb⟩
          have hz : s.size ≤ 19 := by rw [← txt_length, hs]; exact D1.out
          have H := Lib.hid (And.intro hs hb)
          clear hs hb
          go_wp2_with fail
          go_ret
          refine ⟨_, ?_, rfl, H.out.2⟩
          rw [txt_append, txt_append, H.out.1, HR.out]
          simp
          rfl
        · have g2 : (hi == -1) = false := by simp [en]
          have HR := Lib.hid (HT.out.trans (by rw [if_neg eq, if_neg en] : _ = 123 :: (decs lo.toNat ++ ((44 :: decs hi.toNat) ++ [125]))))
          have HHI2 := HHI
          rw [show ((hi.toNat : Nat) : Int) = hi by have := HS.out; omega] at HHI2
          clear HT HHI eq en
          clear ea eb ec e0 e1 h0 h1 h2 h3 HF HS
          go_enter Tryd.func35, Tryd.ntmps35
          go_wp2_with fail
          go_at_call 48
          refine HLO.out.mono ?_
          rintro e w1 ⟨s, hs, rfl, hb⟩
          have hz : s.size ≤ 19 := by rw [← txt_length, hs]; exact D1.out
          have H := Lib.hid (And.intro hs hb)
          clear hs hb
          go_wp2_with fail
          go_at_call 48
          refine (HHI2.out _ H.out.2).mono ?_
          rintro e w2 ⟨s2, hs2, rfl, hb2⟩
          have hz2 : s2.size ≤ 19 := by rw [← txt_length, hs2]; exact D2.out
          have H2 := Lib.hid (And.intro hs2 (below_hop H.out.2 hb2))
          clear hs2 hb2
          go_wp2_with fail
          go_ret
          refine ⟨_, ?_, rfl, H2.out.2⟩
          rw [txt_append, txt_append, txt_append, txt_append, H.out.1, H2.out.1, HR.out]
          simp
          rfl

end Go.Proofs.YtpibkalbnjgpaaaDoor

/- Numbers as strconv.FormatInt writes them: plain facts.
   No conditions. -/
namespace Go.Proofs.YtpibkalbnjgpaaaDoor
open Go.RowKit Go.Sort

theorem dec_nats : ∀ n u, u < n → (Lib.decDigits u).map UInt8.toNat = decs u
  | 0, u, h => by omega
  | n + 1, u, h => by
    by_cases hu : u < 10
    · rw [Lib.decDigits_one hu, decs_small (by omega)]
      simp
      omega
    · rw [Lib.decDigits, dif_neg hu, decs_big (by omega), List.map_append, dec_nats n (u / 10) (by omega)]
      simp
      omega
theorem itoa_txt (n : Nat) : txt ⟨(Lib.itoa (n : Int)).toArray⟩ = decs n := by
  rw [Lib.itoa_nonneg]
  exact dec_nats (n + 1) n (by omega)
/-- Off the library's contract, whatever table it needs. -/
theorem fmt_of (w : World) (h : ∀ (n : Int) (W : World), Below w.heap.size w W → -9223372036854775808 ≤ n → n ≤ 9223372036854775807 → Calls Tryd.prog 48 #[.int .i64 n, .int .i64 10] W fun e w' => e = .returned (.string ⟨(Lib.itoa n).toArray⟩) ∧ ∃ k os, w' = grow (W.drewN k) os) : Fmt w :=
  fun n W hn hW => (h n W hW (by omega) (by omega)).mono fun _ _ ⟨h1, k, os, h2⟩ => ⟨_, itoa_txt n, h1, h2 ▸ Lib.below_grow W.heap.size W (Nat.le_refl _) k os⟩

end Go.Proofs.YtpibkalbnjgpaaaDoor
