/- Words in runs: plain facts, of no program.
   No condition. -/
import Derived.Test.YtgdblnppeeknpaaDoorKsChg
namespace Go.Proofs.YtgdblnppeeknpaaDoor
open Go.RowKit

/-- A byte, so many times. -/
abbrev Rn := Nat × Int
/-- How many bytes, if it is formed: behind a run of the byte p, with n bytes ahead. -/
def fmL : List Rn → Option Nat → Int → Option Int
  | [], _, n => some n
  | (b, t) :: l, p, n => if t < 1 ∨ 4611686018427387904 - n < t ∨ p = some b then none else fmL l (some b) (n + t)
/-- How many bytes, if it is a word in runs. -/
def fmB (l : List Rn) : Option Int := if 200 < l.length then none else fmL l none 0
/-- The byte of the run ahead. -/
def pvB (l : List Rn) (i : Nat) : Option Nat := if i = 0 then none else (l[i - 1]?).map Prod.fst
def smL (l : List Rn) : Int := (l.map Prod.snd).sum
theorem smL_snoc {l : List Rn} {i b : Nat} {t : Int} (h : l[i]? = some (b, t)) : smL (l.take (i + 1)) = smL (l.take i) + t := by
  unfold smL
  rw [List.take_add_one, h]
  simp
theorem pvB_succ {l : List Rn} {i b : Nat} {t : Int} (h : l[i]? = some (b, t)) : pvB l (i + 1) = some b := by
  unfold pvB
  rw [if_neg (by omega), Nat.add_sub_cancel, h]
  rfl
theorem fmL_step {l : List Rn} {i b : Nat} {t n : Int} {p : Option Nat} (h : l[i]? = some (b, t)) : fmL (l.drop i) p n = if t < 1 ∨ 4611686018427387904 - n < t ∨ p = some b then none else fmL (l.drop (i + 1)) (some b) (n + t) := by
  have hi := (List.getElem?_eq_some_iff.1 h).1
  rw [List.drop_eq_getElem_cons hi, (List.getElem?_eq_some_iff.1 h).2, fmL]
theorem fmL_range : ∀ {l : List Rn} {p : Option Nat} {n m : Int}, 0 ≤ n → n ≤ 4611686018427387904 → fmL l p n = some m → n ≤ m ∧ m ≤ 4611686018427387904 ∧ m = n + smL l ∧ ∀ q ∈ l, 1 ≤ q.2 ∧ q.2 ≤ 4611686018427387904
  | [], p, n, m, h0, h1, h => by
    rw [fmL] at h
    obtain rfl := Option.some.inj h
    exact ⟨Int.le_refl _, h1, by simp [smL], fun q hq => by cases hq⟩
  | (b, t) :: l, p, n, m, h0, h1, h => by
    rw [fmL] at h
    split at h
    · cases h
    · rename_i hc
      have hc1 : ¬ t < 1 := fun e => hc (.inl e)
      have hc2 : ¬ 4611686018427387904 - n < t := fun e => hc (.inr (.inl e))
      obtain ⟨k1, k2, k3, k4⟩ := fmL_range (l := l) (by omega) (by omega) h
      refine ⟨by omega, k2, ?_, fun q hq => ?_⟩
      · rw [k3]; unfold smL; simp; omega
      · rcases List.mem_cons.1 hq with rfl | hq
        · exact ⟨by show 1 ≤ t; omega, by show t ≤ _; omega⟩
        · exact k4 q hq

/-- All runs of a word. -/
def packL : List Nat → List Rn
  | [] => []
  | b :: l => match packL l with
    | [] => [(b, 1)]
    | (c, t) :: r => if c = b then (c, t + 1) :: r else (b, 1) :: (c, t) :: r
theorem pack_head : ∀ l : List Nat, (packL l).head?.map Prod.fst = l.head?
  | [] => rfl
  | b :: l => by
    rw [packL]
    split
    · rfl
    · split
      · rename_i h; subst h; rfl
      · rfl
theorem pack_new {b : Nat} {y : List Nat} (h : y.head? ≠ some b) : packL (b :: y) = (b, 1) :: packL y := by
  have hh := pack_head y
  rw [packL]
  split
  · rename_i e; rw [e]
  · rename_i c t r e
    rw [e] at hh
    rw [if_neg, e]
    intro hc
    subst hc
    exact h hh.symm
theorem pack_rep {b : Nat} {y : List Nat} (h : y.head? ≠ some b) : ∀ n : Nat, packL (List.replicate (n + 1) b ++ y) = (b, ((n + 1 : Nat) : Int)) :: packL y
  | 0 => by rw [show List.replicate (0 + 1) b ++ y = b :: y from rfl, pack_new h]; rfl
  | n + 1 => by
    rw [List.replicate_succ, List.cons_append, packL, pack_rep h n]
    show (if b = b then _ else _) = _
    rw [if_pos rfl]
    congr 2
/-- A word of its runs. -/
def unpL (l : List Rn) : List Nat := l.flatMap fun q => List.replicate q.2.toNat q.1
theorem unp_pack : ∀ wd : List Nat, unpL (packL wd) = wd ∧ ∀ q ∈ packL wd, 1 ≤ q.2
  | [] => ⟨rfl, fun q hq => by cases hq⟩
  | b :: wd => by
    obtain ⟨h1, h2⟩ := unp_pack wd
    rw [packL]
    split
    · rename_i e
      rw [e] at h1
      refine ⟨?_, fun q hq => ?_⟩
      · rw [← h1]; rfl
      · rw [List.mem_singleton.1 hq]; exact Int.le_refl _
    · rename_i c t r e
      rw [e] at h1 h2
      have ht := h2 (c, t) (by simp)
      have ht' : 1 ≤ t := ht
      split
      · rename_i hc
        subst hc
        refine ⟨?_, fun q hq => ?_⟩
        · rw [← h1]
          show List.replicate (t + 1).toNat c ++ _ = c :: (List.replicate t.toNat c ++ _)
          rw [show (t + 1).toNat = t.toNat + 1 by omega, List.replicate_succ]
          rfl
        · rcases List.mem_cons.1 hq with rfl | hq
          · show 1 ≤ t + 1; omega
          · exact h2 q (List.mem_cons_of_mem _ hq)
      · refine ⟨?_, fun q hq => ?_⟩
        · rw [← h1]; rfl
        · rcases List.mem_cons.1 hq with rfl | hq
          · exact Int.le_refl _
          · exact h2 q hq
/-- No two neighbours have one byte. -/
def Apart : List Rn → Prop
  | [] => True
  | (b, _) :: l => l.head?.map Prod.fst ≠ some b ∧ Apart l
theorem pack_apart : ∀ wd : List Nat, Apart (packL wd)
  | [] => trivial
  | b :: wd => by
    have h := pack_apart wd
    rw [packL]
    split
    · exact ⟨by simp, trivial⟩
    · rename_i c t r e
      rw [e] at h
      split
      · exact ⟨h.1, h.2⟩
      · rename_i hc
        exact ⟨fun x => hc (Option.some.inj x), h⟩
theorem fm_apart : ∀ {l : List Rn} {n : Int} {p : Option Nat}, 0 ≤ n → n + smL l ≤ 4611686018427387904 → Apart l → (∀ q ∈ l, 1 ≤ q.2) → l.head?.map Prod.fst ≠ p ∨ l = [] → fmL l p n = some (n + smL l)
  | [], n, p, h0, h1, _, _, _ => by rw [fmL]; simp [smL]
  | (b, t) :: l, n, p, h0, h1, ha, hq, hp => by
    have ht : 1 ≤ t := hq (b, t) (by simp)
    have hs : smL ((b, t) :: l) = t + smL l := by unfold smL; simp
    have hn : 0 ≤ smL l := by
      have : ∀ l : List Rn, (∀ q ∈ l, 1 ≤ q.2) → 0 ≤ smL l := fun l => by
        induction l with
        | nil => intro _; simp [smL]
        | cons q l ih =>
          intro h
          have h1 := h q (by simp)
          have h2 := ih fun x hx => h x (List.mem_cons_of_mem _ hx)
          unfold smL at *
          simp
          omega
      exact this l fun q h => hq q (List.mem_cons_of_mem _ h)
    have hpb : p ≠ some b := by
      rintro rfl
      rcases hp with h | h
      · exact h rfl
      · cases h
    rw [fmL, if_neg (by rintro (h | h | h); omega; omega; exact hpb h), fm_apart (l := l) (by omega) (by omega) ha.2 (fun q h => hq q (List.mem_cons_of_mem _ h)) (.inl ha.1), hs]
    congr 1
    omega
/-- Packed of what is unpacked is the word itself. -/
theorem pack_unp : ∀ {l : List Rn}, Apart l → (∀ q ∈ l, 1 ≤ q.2) → packL (unpL l) = l
  | [], _, _ => rfl
  | (b, t) :: l, ha, hq => by
    have ht : 1 ≤ t := hq (b, t) (by simp)
    have ih := pack_unp (l := l) ha.2 fun q h => hq q (List.mem_cons_of_mem _ h)
    have hh : (unpL l).head? = l.head?.map Prod.fst := by rw [← pack_head, ih]
    show packL (List.replicate t.toNat b ++ unpL l) = _
    obtain ⟨n, hn⟩ : ∃ n : Nat, t.toNat = n + 1 := ⟨t.toNat - 1, by omega⟩
    rw [hn, pack_rep (by rw [hh]; exact ha.1), ih]
    congr 2
    omega
theorem unp_len : ∀ {l : List Rn}, (∀ q ∈ l, 1 ≤ q.2) → ((unpL l).length : Int) = smL l
  | [], _ => rfl
  | (b, t) :: l, hq => by
    have ht : 1 ≤ t := hq (b, t) (by simp)
    have ih := unp_len (l := l) fun q h => hq q (List.mem_cons_of_mem _ h)
    show ((List.replicate t.toNat b ++ unpL l).length : Int) = _
    rw [List.length_append, List.length_replicate]
    have hs : smL ((b, t) :: l) = t + smL l := by unfold smL; simp
    rw [hs]
    omega
theorem fm_conv : ∀ {l : List Rn} {n m : Int} {p : Option Nat}, fmL l p n = some m → Apart l ∧ (l.head?.map Prod.fst ≠ p ∨ l = [])
  | [], n, m, p, _ => ⟨trivial, .inr rfl⟩
  | (b, t) :: l, n, m, p, h => by
    rw [fmL] at h
    split at h
    · cases h
    · rename_i hc
      obtain ⟨h1, h2⟩ := fm_conv h
      refine ⟨⟨?_, h1⟩, .inl fun e => hc (.inr (.inr e.symm))⟩
      rcases h2 with h2 | rfl
      · exact h2
      · simp
/-- One run more behind a word in runs: where two of one byte meet, they are one. -/
def jnS (acc : List Rn) (q : Rn) : List Rn := match acc.getLast? with
  | some (c, s) => if c = q.1 then acc.dropLast ++ [(c, s + q.2)] else acc ++ [q]
  | none => [q]
/-- Words one behind the other. -/
def jnL (ws : List (List Rn)) : List Rn := ws.flatten.foldl jnS []

end Go.Proofs.YtgdblnppeeknpaaDoor
