/- The program's counts, falling, and the document's, rising: the same: plain facts.
   Conditions: those that each theorem states. -/
import Derived.Test.YtkkmopcmilgdoaaKsF
namespace Go.Proofs.Ytkkmopcmilgdoaa
open Go.RowKit

abbrev Asc (l : List Int) : Prop := l.Pairwise (fun x y => x < y)
abbrev Dsc (l : List Int) : Prop := l.Pairwise (fun x y => y < x)
theorem asc_ext : ∀ {a b : List Int}, Asc a → Asc b → (∀ x, x ∈ a ↔ x ∈ b) → a = b
  | [], [], _, _, _ => rfl
  | [], y :: b, _, _, h => absurd ((h y).2 (List.mem_cons_self ..)) (by simp)
  | x :: a, [], _, _, h => absurd ((h x).1 (List.mem_cons_self ..)) (by simp)
  | x :: a, y :: b, ha, hb, h => by
    rw [Asc, List.pairwise_cons] at ha hb
    have e : x = y := by
      have h1 := (h x).1 (List.mem_cons_self ..)
      have h2 := (h y).2 (List.mem_cons_self ..)
      rcases List.mem_cons.1 h1 with e | h1
      · exact e
      · rcases List.mem_cons.1 h2 with e | h2
        · exact e.symm
        · have := hb.1 x h1
          have := ha.1 y h2
          omega
    subst e
    rw [asc_ext ha.2 hb.2 fun z => ?_]
    have hz := h z
    rw [List.mem_cons, List.mem_cons] at hz
    constructor
    · intro q
      rcases hz.1 (.inr q) with e | r
      · have := ha.1 z q; omega
      · exact r
    · intro q
      rcases hz.2 (.inr q) with e | r
      · have := hb.1 z q; omega
      · exact r
theorem rev_asc {l : List Int} (h : Dsc l) : Asc l.reverse := List.pairwise_reverse.2 h

/-- The document's Put, by the list's shape. -/
def pRec (n : Int) : Bool → List Int → List Int
  | d, [] => if d then [] else [n]
  | d, x :: l => (if d = false ∧ n ≤ x then [n] else []) ++ (if x = n then [] else [x]) ++ pRec n (d || decide (n ≤ x)) l
theorem pS_eq (n x : Int) (c : List Int) (d : Bool) : pS n (c, d) x = (c ++ (if d = false ∧ n ≤ x then [n] else []) ++ (if x = n then [] else [x]), d || decide (n ≤ x)) := by
  unfold pS
  by_cases h1 : d = false ∧ n ≤ x
  · obtain ⟨rfl, h1⟩ := h1
    by_cases h2 : x = n
    · simp [h2]
    · simp [h1, h2]
  · have hd : (d || decide (n ≤ x)) = d := by
      cases d with
      | true => rfl
      | false => simp; simp at h1; omega
    rw [hd]
    simp only [if_neg h1]
    by_cases h2 : x = n <;> simp [h2]
theorem pF_rec (n : Int) : ∀ (l : List Int) (c : List Int) (d : Bool), (if (l.foldl (pS n) (c, d)).2 then (l.foldl (pS n) (c, d)).1 else (l.foldl (pS n) (c, d)).1 ++ [n]) = c ++ pRec n d l
  | [], c, d => by cases d <;> simp [pRec]
  | x :: l, c, d => by
    rw [List.foldl_cons, pS_eq, pF_rec n l, pRec]
    simp only [List.append_assoc]
theorem pR_rec (l : List Int) (n : Int) : pR l n = pRec n false l := by
  have := pF_rec n l [] false
  rw [List.nil_append] at this
  exact this
theorem pRec_done {n : Int} : ∀ {l : List Int}, (∀ x ∈ l, n < x) → pRec n true l = l
  | [], _ => rfl
  | x :: l, h => by
    have hx := h x (List.mem_cons_self ..)
    rw [pRec, if_neg (by simp), if_neg (by omega), Bool.true_or, pRec_done fun y hy => h y (List.mem_cons_of_mem _ hy)]
    rfl
theorem pRec_spec (n : Int) : ∀ {l : List Int}, Asc l → Asc (pRec n false l) ∧ ∀ x, x ∈ pRec n false l ↔ x = n ∨ x ∈ l
  | [], _ => by simp [pRec]
  | y :: l, h => by
    have hl := h
    rw [Asc, List.pairwise_cons] at h
    by_cases h1 : n ≤ y
    · rw [pRec, if_pos ⟨rfl, h1⟩, Bool.false_or, decide_eq_true h1, pRec_done fun x hx => by have := h.1 x hx; omega]
      by_cases h2 : y = n
      · subst h2
        rw [if_pos rfl]
        exact ⟨by simpa using hl, fun x => by simp⟩
      · rw [if_neg h2]
        refine ⟨?_, fun x => by simp⟩
        show List.Pairwise _ (n :: y :: l)
        rw [List.pairwise_cons]
        refine ⟨fun x hx => ?_, hl⟩
        rcases List.mem_cons.1 hx with rfl | hx
        · omega
        · have := h.1 x hx
          omega
    · obtain ⟨ih1, ih2⟩ := pRec_spec n h.2
      rw [pRec, if_neg (by simp; omega), if_neg (by omega), Bool.false_or, decide_eq_false h1]
      refine ⟨?_, fun x => ?_⟩
      · show List.Pairwise _ (y :: pRec n false l)
        rw [List.pairwise_cons]
        refine ⟨fun x hx => ?_, ih1⟩
        rcases (ih2 x).1 hx with rfl | hx
        · omega
        · exact h.1 x hx
      · show x ∈ y :: pRec n false l ↔ _
        rw [List.mem_cons, ih2, List.mem_cons]
        constructor
        · rintro (h | h | h) <;> simp [h]
        · rintro (h | h | h) <;> simp [h]
theorem pR_asc {l : List Int} (h : Asc l) (n : Int) : Asc (pR l n) := by rw [pR_rec]; exact (pRec_spec n h).1
theorem pR_mem {l : List Int} (h : Asc l) (n x : Int) : x ∈ pR l n ↔ x = n ∨ x ∈ l := by rw [pR_rec]; exact (pRec_spec n h).2 x

theorem putM_dsc {l : List Int} {n : Int} (h : Dsc l) (hn : ∀ x ∈ l, n ≤ x) : Dsc (putM l n) ∧ ∀ x, x ∈ putM l n ↔ x = n ∨ x ∈ l := by
  unfold putM
  by_cases hg : l.getLast? = some n
  · rw [if_pos hg]
    have hm := List.mem_of_getLast? hg
    exact ⟨h, fun x => ⟨.inr, fun q => by rcases q with rfl | q; exact hm; exact q⟩⟩
  · rw [if_neg hg]
    refine ⟨?_, fun x => by simp [or_comm]⟩
    rw [Dsc, List.pairwise_append]
    refine ⟨h, by simp, fun x hx y hy => ?_⟩
    obtain rfl := List.mem_singleton.1 hy
    have h1 := hn x hx
    by_cases e : x = y
    · exfalso
      subst e
      obtain ⟨i, hi, he⟩ := List.getElem_of_mem hx
      by_cases hi2 : i = l.length - 1
      · apply hg
        rw [List.getLast?_eq_getElem?, ← hi2, List.getElem?_eq_getElem hi, he]
      · have h2 := List.pairwise_iff_getElem.1 h i (l.length - 1) hi (by omega) (by omega)
        have h3 := hn l[l.length - 1] (List.getElem_mem _)
        omega
    · omega
theorem put_rev {l : List Int} {n : Int} (h : Dsc l) (hn : ∀ x ∈ l, n ≤ x) : (putM l n).reverse = pR l.reverse n := by
  obtain ⟨h1, h2⟩ := putM_dsc h hn
  refine asc_ext (rev_asc h1) (pR_asc (rev_asc h) n) fun x => ?_
  rw [List.mem_reverse, h2, pR_mem (rev_asc h), List.mem_reverse]

/-- y is behind x. -/
def NX (lo hi x y : Int) : Prop := (x < topC lo hi ∧ y = x + 1) ∨ (¬ x < topC lo hi ∧ hi < 0 ∧ y = lo)
theorem nF_fold {lo hi : Int} : ∀ (l acc : List Int), Asc acc → Asc (l.foldl (nF lo hi) acc) ∧ ∀ y, y ∈ l.foldl (nF lo hi) acc ↔ y ∈ acc ∨ ∃ x ∈ l, NX lo hi x y
  | [], acc, h => by simp [h]
  | x :: l, acc, h => by
    rw [List.foldl_cons]
    have h1 : Asc (nF lo hi acc x) ∧ ∀ y, y ∈ nF lo hi acc x ↔ NX lo hi x y ∨ y ∈ acc := by
      unfold nF NX
      by_cases g : x < topC lo hi
      · rw [if_pos g]
        exact ⟨pR_asc h _, fun y => by rw [pR_mem h]; simp [g]⟩
      · rw [if_neg g]
        by_cases g2 : hi < 0
        · rw [if_pos g2]
          exact ⟨pR_asc h _, fun y => by rw [pR_mem h]; simp [g, g2]⟩
        · rw [if_neg g2]
          exact ⟨h, fun y => by simp [g, g2]⟩
    obtain ⟨h2, h3⟩ := nF_fold l (nF lo hi acc x) h1.1
    refine ⟨h2, fun y => ?_⟩
    rw [h3, h1.2]
    simp only [List.mem_cons, exists_eq_or_imp]
    constructor
    · rintro ((h | h) | h) <;> simp [h]
    · rintro (h | h | h) <;> simp [h]
theorem map1_dsc {l : List Int} (h : Dsc l) : Dsc (l.map (· + 1)) := by
  rw [Dsc, List.pairwise_map]
  exact h.imp fun h => by omega
theorem nextQ_spec {lo hi : Int} {L : List Int} (hS : ScOk lo hi) (hL : Cok lo hi L) : Dsc (nextQ lo hi L) ∧ ∀ y, y ∈ nextQ lo hi L ↔ ∃ x ∈ L, NX lo hi x y := by
  match L, hL with
  | [], _ => exact ⟨List.Pairwise.nil, fun y => by simp [nextQ]⟩
  | h :: t, ⟨hd, hb⟩ =>
    have hd' := hd
    rw [List.pairwise_cons] at hd
    have hbh := hb h (List.mem_cons_self ..)
    have hbt : ∀ x ∈ t, x < topC lo hi := fun x hx => by have := hd.1 x hx; omega
    have hmt : ∀ y, y ∈ t.map (· + 1) ↔ ∃ x ∈ t, NX lo hi x y := fun y => by
      rw [List.mem_map]
      constructor
      · rintro ⟨x, hx, rfl⟩
        exact ⟨x, hx, .inl ⟨hbt x hx, rfl⟩⟩
      · rintro ⟨x, hx, ⟨_, rfl⟩ | ⟨h1, _⟩⟩
        · exact ⟨x, hx, rfl⟩
        · exact absurd (hbt x hx) h1
    have hall : h < topC lo hi → Dsc ((h + 1) :: t.map (· + 1)) ∧ ∀ y, y ∈ (h + 1) :: t.map (· + 1) ↔ ∃ x ∈ h :: t, NX lo hi x y := fun g => by
      refine ⟨map1_dsc hd', fun y => ?_⟩
      rw [List.mem_cons, hmt]
      simp only [List.mem_cons, exists_eq_or_imp]
      constructor
      · rintro (rfl | h)
        · exact .inl (.inl ⟨g, rfl⟩)
        · exact .inr h
      · rintro ((⟨_, rfl⟩ | ⟨h1, _⟩) | h)
        · exact .inl rfl
        · exact absurd g h1
        · exact .inr h
    have ht : topC lo hi = if hi < 0 then lo else hi := rfl
    obtain ⟨s1, s2, s3⟩ := hS
    by_cases g : hi = -1
    · rw [if_pos (by omega)] at ht
      by_cases g2 : lo ≤ h
      · rw [nextQ, if_pos g, if_pos g2]
        have hnx : ∀ y, NX lo hi h y ↔ y = h := fun y => by unfold NX; omega
        by_cases g3 : (t.map (· + 1)).head? = some h
        · rw [if_pos g3]
          refine ⟨map1_dsc hd.2, fun y => ?_⟩
          rw [hmt]
          simp only [List.mem_cons, exists_eq_or_imp, hnx]
          constructor
          · exact .inr
          · rintro (rfl | h)
            · exact (hmt y).1 (List.mem_of_head? g3)
            · exact h
        · rw [if_neg g3]
          refine ⟨?_, fun y => ?_⟩
          · rw [Dsc, List.pairwise_cons]
            refine ⟨fun y hy => ?_, map1_dsc hd.2⟩
            obtain ⟨x, hx, rfl⟩ := List.mem_map.1 hy
            have h1 := hd.1 x hx
            by_cases e : x + 1 = h
            · exfalso
              apply g3
              match t, hx, hd with
              | t0 :: t, hx, hd =>
                have h2 := hd.1 t0 (List.mem_cons_self ..)
                rcases List.mem_cons.1 hx with rfl | hx
                · simp [e]
                · have h3 := (List.pairwise_cons.1 hd.2).1 x hx
                  omega
            · omega
          · rw [List.mem_cons, hmt]
            simp only [List.mem_cons, exists_eq_or_imp, hnx]
      · rw [nextQ, if_pos g, if_neg g2]
        exact hall (by omega)
    · rw [if_neg (by omega)] at ht
      by_cases g2 : h = hi
      · rw [nextQ, if_neg g, if_pos g2]
        refine ⟨map1_dsc hd.2, fun y => ?_⟩
        rw [hmt]
        simp only [List.mem_cons, exists_eq_or_imp]
        constructor
        · exact .inr
        · rintro (h1 | h1)
          · exfalso
            unfold NX at h1
            omega
          · exact h1
      · rw [nextQ, if_neg g, if_neg g2]
        exact hall (by omega)
theorem next_rev {lo hi : Int} {L : List Int} (hS : ScOk lo hi) (hL : Cok lo hi L) : (nextQ lo hi L).reverse = nR lo hi L.reverse := by
  obtain ⟨h1, h2⟩ := nextQ_spec hS hL
  obtain ⟨h3, h4⟩ := nF_fold (lo := lo) (hi := hi) L.reverse [] List.Pairwise.nil
  refine asc_ext (rev_asc h1) h3 fun y => ?_
  rw [List.mem_reverse, h2]
  show _ ↔ y ∈ L.reverse.foldl (nF lo hi) []
  rw [h4]
  simp
theorem mergeC_spec : ∀ (n : Nat) (acc L M : List Int), L.length + M.length = n → Dsc acc → Dsc L → Dsc M → (∀ a ∈ acc, (∀ x ∈ L, x ≤ a) ∧ ∀ x ∈ M, x ≤ a) → Dsc (mergeC acc L M) ∧ ∀ y, y ∈ mergeC acc L M ↔ y ∈ acc ∨ y ∈ L ∨ y ∈ M := by
  intro n
  induction n with
  | zero =>
    intro acc L M h ha _ _ _
    obtain rfl : L = [] := List.length_eq_zero_iff.1 (by omega)
    obtain rfl : M = [] := List.length_eq_zero_iff.1 (by omega)
    rw [mergeC]
    exact ⟨ha, fun y => by simp⟩
  | succ n ih =>
    intro acc L M h ha hL hM hb
    have takeL : ∀ (x : Int) (l : List Int), L = x :: l → (∀ y ∈ M, y ≤ x) → Dsc (mergeC (putM acc x) l M) ∧ ∀ y, y ∈ mergeC (putM acc x) l M ↔ y ∈ acc ∨ y ∈ L ∨ y ∈ M := by
      rintro x l rfl hx
      rw [Dsc, List.pairwise_cons] at hL
      obtain ⟨p1, p2⟩ := putM_dsc ha fun a h => (hb a h).1 x (List.mem_cons_self ..)
      obtain ⟨q1, q2⟩ := ih (putM acc x) l M (by simp at h; omega) p1 hL.2 hM fun a h => by
        rcases (p2 a).1 h with rfl | h
        · exact ⟨fun y hy => by have := hL.1 y hy; omega, hx⟩
        · exact ⟨fun y hy => (hb a h).1 y (List.mem_cons_of_mem _ hy), (hb a h).2⟩
      refine ⟨q1, fun y => ?_⟩
      rw [q2, p2, List.mem_cons]
      constructor
      · rintro ((h | h) | h | h) <;> simp [h]
      · rintro (h | (h | h) | h) <;> simp [h]
    have takeM : ∀ (x : Int) (m : List Int), M = x :: m → (∀ y ∈ L, y ≤ x) → Dsc (mergeC (putM acc x) L m) ∧ ∀ y, y ∈ mergeC (putM acc x) L m ↔ y ∈ acc ∨ y ∈ L ∨ y ∈ M := by
      rintro x m rfl hx
      rw [Dsc, List.pairwise_cons] at hM
      obtain ⟨p1, p2⟩ := putM_dsc ha fun a h => (hb a h).2 x (List.mem_cons_self ..)
      obtain ⟨q1, q2⟩ := ih (putM acc x) L m (by simp at h; omega) p1 hL hM.2 fun a h => by
        rcases (p2 a).1 h with rfl | h
        · exact ⟨hx, fun y hy => by have := hM.1 y hy; omega⟩
        · exact ⟨(hb a h).1, fun y hy => (hb a h).2 y (List.mem_cons_of_mem _ hy)⟩
      refine ⟨q1, fun y => ?_⟩
      rw [q2, p2, List.mem_cons]
      constructor
      · rintro ((h | h) | h | h) <;> simp [h]
      · rintro (h | h | h | h) <;> simp [h]
    match L, M, h, takeL, takeM with
    | [], [], h, _, _ => simp at h
    | x :: l, [], h, tL, _ =>
      rw [mergeC]
      exact tL x l rfl (by simp)
    | [], y :: m, h, _, tM =>
      rw [mergeC]
      exact tM y m rfl (by simp)
    | x :: l, y :: m, h, tL, tM =>
      rw [Dsc, List.pairwise_cons] at hL hM
      rw [mergeC]
      by_cases g : y < x
      · rw [if_pos g]
        exact tL x l rfl fun z hz => by
          rcases List.mem_cons.1 hz with rfl | hz
          · omega
          · have := hM.1 z hz; omega
      · rw [if_neg g]
        exact tM y m rfl fun z hz => by
          rcases List.mem_cons.1 hz with rfl | hz
          · omega
          · have := hL.1 z hz; omega
theorem merge_spec {L M : List Int} (hL : Dsc L) (hM : Dsc M) : Dsc (mergeC [] L M) ∧ ∀ y, y ∈ mergeC [] L M ↔ y ∈ L ∨ y ∈ M := by
  have := mergeC_spec _ [] L M rfl List.Pairwise.nil hL hM (by simp)
  simpa using this
theorem puts_spec : ∀ (m l : List Int), Asc l → Asc (m.foldl pR l) ∧ ∀ y, y ∈ m.foldl pR l ↔ y ∈ l ∨ y ∈ m
  | [], l, h => by simp [h]
  | x :: m, l, h => by
    rw [List.foldl_cons]
    obtain ⟨h1, h2⟩ := puts_spec m (pR l x) (pR_asc h x)
    refine ⟨h1, fun y => ?_⟩
    rw [h2, pR_mem h, List.mem_cons]
    constructor
    · rintro ((h | h) | h) <;> simp [h]
    · rintro (h | h | h) <;> simp [h]
theorem merge_rev {L M : List Int} (hL : Dsc L) (hM : Dsc M) : (mergeC [] L M).reverse = M.reverse.foldl pR L.reverse := by
  obtain ⟨h1, h2⟩ := merge_spec hL hM
  obtain ⟨h3, h4⟩ := puts_spec M.reverse L.reverse (rev_asc hL)
  refine asc_ext (rev_asc h1) h3 fun y => ?_
  rw [List.mem_reverse, h2, h4, List.mem_reverse, List.mem_reverse]

/-- The sets that come are as counts ought to be. -/
theorem cok_put {lo hi : Int} {L : List Int} (hS : ScOk lo hi) (h : Cok lo hi L) : Cok lo hi (putM L 1) := by
  obtain ⟨h1, h2⟩ := putM_dsc (n := 1) h.1 fun x hx => (h.2 x hx).1
  refine ⟨h1, fun x hx => ?_⟩
  rcases (h2 x).1 hx with rfl | hx
  · have := hS.top; omega
  · exact h.2 x hx
theorem cok_next {lo hi : Int} {L : List Int} (hS : ScOk lo hi) (h : Cok lo hi L) : Cok lo hi (nextQ lo hi L) := by
  obtain ⟨h1, h2⟩ := nextQ_spec hS h
  refine ⟨h1, fun y hy => ?_⟩
  obtain ⟨x, hx, ⟨h3, rfl⟩ | ⟨h3, h4, rfl⟩⟩ := (h2 y).1 hy
  · have := h.2 x hx; omega
  · have := hS.top; have := hS.1; omega
theorem cok_merge {lo hi : Int} {L M : List Int} (h : Cok lo hi L) (k : Cok lo hi M) : Cok lo hi (mergeC [] L M) := by
  obtain ⟨h1, h2⟩ := merge_spec h.1 k.1
  refine ⟨h1, fun y hy => ?_⟩
  rcases (h2 y).1 hy with q | q
  · exact h.2 y q
  · exact k.2 y q
theorem cok_nil (lo hi : Int) : Cok lo hi [] := ⟨List.Pairwise.nil, by simp⟩
theorem nextQ_len (lo hi : Int) (L : List Int) : (nextQ lo hi L).length ≤ L.length := by
  match L with
  | [] => simp [nextQ]
  | h :: t =>
    rw [nextQ]
    split
    · split
      · split <;> simp
      · simp
    · split <;> simp
theorem mergeC_len : ∀ (n : Nat) (acc L M : List Int), L.length + M.length = n → (mergeC acc L M).length ≤ acc.length + n := by
  intro n
  induction n with
  | zero =>
    intro acc L M h
    obtain rfl : L = [] := List.length_eq_zero_iff.1 (by omega)
    obtain rfl : M = [] := List.length_eq_zero_iff.1 (by omega)
    rw [mergeC]
    omega
  | succ n ih =>
    intro acc L M h
    have hp : ∀ x, (putM acc x).length ≤ acc.length + 1 := putM_len acc
    match L, M, h with
    | [], [], h => simp at h
    | x :: l, [], h =>
      rw [mergeC]
      have := ih (putM acc x) l [] (by simp at h ⊢; omega)
      have := hp x
      omega
    | [], y :: m, h =>
      rw [mergeC]
      have := ih (putM acc y) [] m (by simp at h ⊢; omega)
      have := hp y
      omega
    | x :: l, y :: m, h =>
      rw [mergeC]
      split
      · have := ih (putM acc x) l (y :: m) (by simp at h ⊢; omega)
        have := hp x
        omega
      · have := ih (putM acc y) (x :: l) m (by simp at h ⊢; omega)
        have := hp y
        omega
/-- Strictly falling counts within the scope's: no more of them than the greatest. -/
theorem dsc_len : ∀ {L : List Int} {b : Int}, 0 ≤ b → Dsc L → (∀ x ∈ L, 1 ≤ x ∧ x ≤ b) → (L.length : Int) ≤ b
  | [], b, hb, _, _ => by simpa using hb
  | h :: t, b, hb, hd, hx => by
    rw [Dsc, List.pairwise_cons] at hd
    have hh := hx h (List.mem_cons_self ..)
    have := dsc_len (L := t) (b := h - 1) (by omega) hd.2 fun x hx' => ⟨(hx x (List.mem_cons_of_mem _ hx')).1, by have := hd.1 x hx'; omega⟩
    simp only [List.length_cons]
    push_cast
    omega

end Go.Proofs.Ytkkmopcmilgdoaa
