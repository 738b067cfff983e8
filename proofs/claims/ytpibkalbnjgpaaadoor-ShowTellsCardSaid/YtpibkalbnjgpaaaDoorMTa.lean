/- What every formed tree is written as, by the program: contracts, with bounds on the text's length; of the trees that are read.
   Conditions: the tree lies in memory, its classes are four words below 2^64; numbers are written in base ten ('Fmt'). -/
import Derived.Test.YtpibkalbnjgpaaaDoorMSet
import Derived.Test.YtpibkalbnjgpaaaDoorMParts

/- What a formed tree is written as is read as that tree: plain facts: no program is spoken of here.
   Conditions: the tree is formed. -/
namespace Go.Proofs.YtpibkalbnjgpaaaDoor

theorem phex_ext {l v : List Nat} {a : Nat} (r : List Nat) (h : phex l = .ok a v) : phex (l ++ r) = .ok a (v ++ r) := by
  match l, h with
  | [], h => cases h
  | [x], h => simp only [phex] at h; split at h <;> cases h
  | x :: y :: l, h =>
    simp only [phex, List.cons_append] at h ⊢
    by_cases h1 : x ∈ hexDigits
    · rw [if_pos h1] at h ⊢
      by_cases h2 : y ∈ hexDigits
      · rw [if_pos h2] at h ⊢
        injection h with h h'
        subst h h'
        rfl
      · rw [if_neg h2] at h; cases h
    · rw [if_neg h1] at h; cases h
theorem pesc_ext {l v : List Nat} {a : Nat} (r : List Nat) (h : pesc l = .ok a v) : pesc (l ++ r) = .ok a (v ++ r) := by
  cases l with
  | nil => cases h
  | cons b l =>
    simp only [pesc, List.cons_append] at h ⊢
    by_cases h1 : b = 120
    · rw [if_pos h1] at h ⊢; exact phex_ext r h
    · rw [if_neg h1] at h ⊢
      by_cases h2 : b = 110
      · rw [if_pos h2] at h ⊢; injection h with h h'; subst h h'; rfl
      · rw [if_neg h2] at h ⊢
        by_cases h3 : b = 116
        · rw [if_pos h3] at h ⊢; injection h with h h'; subst h h'; rfl
        · rw [if_neg h3] at h ⊢
          by_cases h4 : b ∈ escapables
          · rw [if_pos h4] at h ⊢; injection h with h h'; subst h h'; rfl
          · rw [if_neg h4] at h; cases h
theorem pplain_ext {but l v : List Nat} {a : Nat} (r : List Nat) (h : pplain but l = .ok a v) : pplain but (l ++ r) = .ok a (v ++ r) := by
  cases l with
  | nil => cases h
  | cons b l =>
    simp only [pplain, List.cons_append] at h ⊢
    by_cases h1 : b ∈ but
    · rw [if_pos h1] at h; cases h
    · rw [if_neg h1] at h ⊢
      by_cases h2 : b = 92
      · rw [if_pos h2] at h ⊢; exact pesc_ext r h
      · rw [if_neg h2] at h ⊢; injection h with h h'; subst h h'; rfl

def chkB (c : Nat) : Bool := (match pplain marks (byT c) with
  | .ok a [] => a == c
  | _ => false) && (match pplain itemMarks (byT c) with
  | .ok a [] => a == c
  | _ => false) && (match byT c with
  | [] => false
  | b :: _ => decide (b ≠ 46 ∧ b ≠ 91 ∧ b ≠ 40 ∧ b ≠ 124 ∧ b ≠ 41 ∧ ¬ (b = 42 ∨ b = 43 ∨ b = 63 ∨ b = 123) ∧ b ≠ 93 ∧ b ≠ 94 ∧ b ≠ 45))
theorem chkB_all : ∀ c, c < 256 → chkB c = true := by decide +kernel
theorem byt_marks {c : Nat} (hc : c < 256) (r : List Nat) : pplain marks (byT c ++ r) = .ok c r := by
  have h := chkB_all c hc
  unfold chkB at h
  rw [Bool.and_eq_true, Bool.and_eq_true] at h
  have h1 := h.1.1
  split at h1
  · rename_i a e
    have := pplain_ext r e
    simp at h1
    rw [h1, List.nil_append] at this
    exact this
  · cases h1
theorem byt_items {c : Nat} (hc : c < 256) (r : List Nat) : pplain itemMarks (byT c ++ r) = .ok c r := by
  have h := chkB_all c hc
  unfold chkB at h
  rw [Bool.and_eq_true, Bool.and_eq_true] at h
  have h1 := h.1.2
  split at h1
  · rename_i a e
    have := pplain_ext r e
    simp at h1
    rw [h1, List.nil_append] at this
    exact this
  · cases h1
theorem byt_head {c : Nat} (hc : c < 256) : ∃ b t, byT c = b :: t ∧ b ≠ 46 ∧ b ≠ 91 ∧ b ≠ 40 ∧ b ≠ 124 ∧ b ≠ 41 ∧ ¬ (b = 42 ∨ b = 43 ∨ b = 63 ∨ b = 123) ∧ b ≠ 93 ∧ b ≠ 94 ∧ b ≠ 45 := by
  have h := chkB_all c hc
  unfold chkB at h
  rw [Bool.and_eq_true, Bool.and_eq_true] at h
  have h1 := h.2
  cases e : byT c with
  | nil => rw [e] at h1; cases h1
  | cons b t =>
    rw [e] at h1
    exact ⟨b, t, rfl, of_decide_eq_true h1⟩
theorem byt_not {c : Nat} (hc : c < 256) (r : List Nat) : (byT c ++ r).head? ≠ some 93 ∧ (byT c ++ r).head? ≠ some 94 ∧ (byT c ++ r).head? ≠ some 45 := by
  obtain ⟨b, t, e, _, _, _, _, _, _, h1, h2, h3⟩ := byt_head hc
  rw [e]
  simp [h1, h2, h3]
theorem item_one {c : Nat} (hc : c < 256) {r : List Nat} (hr : r.head? ≠ some 45) : pitem (byT c ++ r) = .ok (between c c) r := by
  unfold pitem
  rw [byt_items hc r]
  cases r with
  | nil => rfl
  | cons b r =>
    simp only
    split
    · rename_i e
      injection e with e _
      subst e
      simp at hr
    · rfl
theorem item_two {lo hi : Nat} (hlo : lo < 256) (hhi : hi < 256) (h : lo ≤ hi) (r : List Nat) : pitem (byT lo ++ 45 :: (byT hi ++ r)) = .ok (between lo hi) r := by
  unfold pitem
  rw [byt_items hlo]
  simp only
  rw [byt_items hhi]
  simp only
  rw [if_neg (by omega)]
theorem items_byt {c : Nat} (hc : c < 256) (first : Bool) (S : Nat → Bool) (t : List Nat) : pitems first S (byT c ++ t) = match pitem (byT c ++ t) with
    | .er r' c => .er r' c
    | .ok T r' => pitems false (fun x => S x || T x) r' := pitems_more (fun h => (byt_not hc t).1 h.2)
theorem runEnd_all {C : Nat → Nat} : ∀ (n b x : Nat), b < x → x ≤ runEnd C n b → hasB C x = true
  | 0, b, x, h1, h2 => by rw [runEnd] at h2; omega
  | n + 1, b, x, h1, h2 => by
    rw [runEnd] at h2
    split at h2
    · rename_i h
      by_cases e : x = b + 1
      · rw [e]; exact h.2
      · exact runEnd_all n (b + 1) x (by omega) h2
    · omega
theorem runs_head {C : Nat → Nat} (r : List Nat) : ∀ (n m : Nat), (runsT C n m ++ 93 :: r).head? ≠ some 45
  | 0, m => by rw [runsT]; simp
  | n + 1, m => by
    rw [runsT]
    split
    · rename_i hm
      split
      · unfold runT
        split
        · rw [List.append_assoc]; exact (byt_not hm _).2.2
        · split
          · rw [List.append_assoc, List.append_assoc]; exact (byt_not hm _).2.2
          · rw [List.append_assoc, List.append_assoc]; exact (byt_not hm _).2.2
      · exact runs_head r n (m + 1)
    · simp
theorem runs_read {C : Nat → Nat} : ∀ (n b : Nat) (first : Bool) (S : Nat → Bool), 256 - b ≤ n → (first = false ∨ ∃ x, b ≤ x ∧ x < 256 ∧ hasB C x = true) →
    ∃ S' : Nat → Bool, (∀ x, x < 256 → S' x = (S x || (decide (b ≤ x) && hasB C x))) ∧ ∀ r, pitems first S (runsT C n b ++ 93 :: r) = .ok S' r
  | 0, b, first, S, hn, hf => by
    rcases hf with rfl | ⟨x, h1, h2, _⟩
    · refine ⟨S, fun x hx => ?_, fun r => by rw [runsT]; exact pitems_end S r⟩
      have : decide (b ≤ x) = false := by simp; omega
      rw [this]; simp
    · omega
  | n + 1, b, first, S, hn, hf => by
    by_cases hb : b < 256
    · by_cases hc : hasB C b = true
      · have e0 := runEnd_ge C 256 b
        have e1 := runEnd_le (C := C) 256 b (by omega)
        have e2 := runEnd_all (C := C) 256 b
        have hrun : ∀ r, runsT C (n + 1) b ++ 93 :: r = runT b (runEnd C 256 b) ++ (runsT C n (runEnd C 256 b + 1) ++ 93 :: r) := fun r => by
          rw [runsT, if_pos hb, if_pos hc, List.append_assoc]
        generalize runEnd C 256 b = e at *
        have hall : ∀ x, b ≤ x → x ≤ e → hasB C x = true := fun x h1 h2 => by
          by_cases h : x = b
          · rw [h]; exact hc
          · exact e2 x (by omega) h2
        have fin : ∀ (S1 S' : Nat → Bool), (∀ x, S1 x = (S x || between b e x)) → (∀ x, x < 256 → S' x = (S1 x || (decide (e + 1 ≤ x) && hasB C x))) → ∀ x, x < 256 → S' x = (S x || (decide (b ≤ x) && hasB C x)) := fun S1 S' h1 h2 x hx => by
          rw [h2 x hx, h1 x, Bool.or_assoc]
          congr 1
          by_cases c1 : x < b
          · have : between b e x = false := by unfold between; simp; omega
            rw [this]
            have d1 : decide (e + 1 ≤ x) = false := by simp; omega
            have d2 : decide (b ≤ x) = false := by simp; omega
            rw [d1, d2]; rfl
          · by_cases c2 : x ≤ e
            · rw [(between_iff b e x).2 ⟨by omega, c2⟩, hall x (by omega) c2]
              have d2 : decide (b ≤ x) = true := by simp; omega
              rw [d2]; rfl
            · have : between b e x = false := by unfold between; simp; omega
              rw [this]
              have d1 : decide (e + 1 ≤ x) = true := by simp; omega
              have d2 : decide (b ≤ x) = true := by simp; omega
              rw [d1, d2]; simp
        by_cases he : e = b
        · obtain ⟨S', h1, h2⟩ := runs_read n (e + 1) false (fun x => S x || between b b x) (by omega) (.inl rfl)
          refine ⟨S', fin _ S' (fun x => by rw [he]) h1, fun r => ?_⟩
          rw [hrun]
          unfold runT
          rw [if_pos he, items_byt hb, item_one hb (runs_head r _ _)]
          exact h2 r
        · by_cases he2 : e = b + 1
          · obtain ⟨S', h1, h2⟩ := runs_read n (e + 1) false (fun x => (S x || between b b x) || between e e x) (by omega) (.inl rfl)
            refine ⟨S', fin _ S' (fun x => ?_) h1, fun r => ?_⟩
            · rw [Bool.or_assoc]
              congr 1
              unfold between
              rw [Bool.eq_iff_iff]
              simp
              omega
            · rw [hrun]
              unfold runT
              rw [if_neg he, if_pos he2, List.append_assoc, items_byt hb, item_one hb (byt_not (by omega) _).2.2]
              show pitems false (fun x => S x || between b b x) _ = _
              rw [items_byt (by omega), item_one (by omega) (runs_head r _ _)]
              exact h2 r
          · obtain ⟨S', h1, h2⟩ := runs_read n (e + 1) false (fun x => S x || between b e x) (by omega) (.inl rfl)
            refine ⟨S', fin _ S' (fun x => rfl) h1, fun r => ?_⟩
            rw [hrun]
            unfold runT
            rw [if_neg he, if_neg he2, List.append_assoc, List.cons_append, items_byt hb, item_two hb (by omega) (by omega)]
            exact h2 r
      · obtain ⟨S', h1, h2⟩ := runs_read (C := C) n (b + 1) first S (by omega) (hf.imp id fun ⟨x, q1, q2, q3⟩ => ⟨x, by
          by_cases h : x = b
          · rw [h] at q3; exact absurd q3 hc
          · omega, q2, q3⟩)
        refine ⟨S', fun x hx => ?_, fun r => ?_⟩
        · rw [h1 x hx]
          congr 1
          by_cases h : x = b
          · rw [h]; simp [hc]
          · congr 1
            rw [Bool.eq_iff_iff]
            simp
            omega
        · rw [runsT, if_pos hb, if_neg hc]
          exact h2 r
    · rcases hf with rfl | ⟨x, h1, h2, _⟩
      · refine ⟨S, fun x hx => ?_, fun r => by rw [runsT, if_neg hb]; exact pitems_end S r⟩
        have : decide (b ≤ x) = false := by simp; omega
        rw [this]; simp
      · omega
theorem mem_memT {C : Nat → Nat} {x : Nat} : x ∈ memT C ↔ x < 256 ∧ hasB C x = true := by
  unfold memT
  rw [List.mem_filter, List.mem_range]
theorem byT0 : byT 0 = [92, 120, 48, 48] := by decide
theorem byT255 : byT 255 = [92, 120, 102, 102] := by decide
theorem set_read (C : Nat → Nat) : ∃ S : Nat → Bool, (∀ x, x < 256 → S x = hasB C x) ∧ ∀ r, pset (setT C ++ r) = .ok S r := by
  unfold setT
  split
  · rename_i hm
    refine ⟨fun x => !((fun _ => false) x || between 0 255 x), fun x hx => ?_, fun r => ?_⟩
    · have h1 : between 0 255 x = true := (between_iff 0 255 x).2 ⟨by omega, by omega⟩
      have h2 : hasB C x = false := by
        cases h : hasB C x with
        | false => rfl
        | true => have := mem_memT.2 ⟨hx, h⟩; rw [hm] at this; simp at this
      show (!(false || between 0 255 x)) = hasB C x
      rw [h1, h2]; rfl
    · show pset (91 :: 94 :: 92 :: 120 :: 48 :: 48 :: 45 :: 92 :: 120 :: 102 :: 102 :: 93 :: r) = _
      rw [pset_brack]
      unfold pbrack
      rw [if_pos (show (94 :: 92 :: 120 :: 48 :: 48 :: 45 :: 92 :: 120 :: 102 :: 102 :: 93 :: r : List Nat).head? = some 94 from rfl), List.tail_cons, pitems_more (by simp)]
      have h := item_two (lo := 0) (hi := 255) (by omega) (by omega) (by omega) (93 :: r)
      rw [byT0, byT255] at h
      simp only [List.cons_append, List.nil_append] at h
      rw [h]
      simp only
      rw [pitems_end]
  · rename_i b hm
    have hb : b < 256 := (mem_memT.1 (by rw [hm]; simp)).1
    refine ⟨between b b, fun x hx => ?_, fun r => ?_⟩
    · rw [Bool.eq_iff_iff, between_iff]
      constructor
      · intro h
        have : x = b := by omega
        rw [this]
        exact (mem_memT.1 (by rw [hm]; simp)).2
      · intro h
        have := mem_memT.2 ⟨hx, h⟩
        rw [hm] at this
        simp at this
        omega
    · obtain ⟨c, t, e, h1, h2, _⟩ := byt_head hb
      have h := byt_marks hb r
      rw [e, List.cons_append] at h ⊢
      rw [pset_plain h1 h2, h]
  · rename_i h0 h1
    by_cases hz : (memT C).length = 256
    · rw [if_pos hz]
      refine ⟨fun _ => true, fun x hx => ?_, fun r => rfl⟩
      have := List.length_filter_eq_length_iff.1 (show ((List.range 256).filter fun b => hasB C b).length = (List.range 256).length by rw [List.length_range]; exact hz)
      exact (this x (List.mem_range.2 hx)).symm
    · rw [if_neg hz]
      obtain ⟨x, hx⟩ : ∃ x, x ∈ memT C := by
        cases h : memT C with
        | nil => exact absurd h h0
        | cons a l => exact ⟨a, by simp⟩
      have hx2 := mem_memT.1 hx
      obtain ⟨S, q1, q2⟩ := runs_read (C := C) 256 0 true (fun _ => false) (by omega) (.inr ⟨x, by omega, hx2.1, hx2.2⟩)
      refine ⟨S, fun x hx => by rw [q1 x hx]; simp, fun r => ?_⟩
      show pset (91 :: (runsT C 256 0 ++ [93] ++ r)) = _
      rw [pset_brack, List.append_assoc]
      unfold pbrack
      rw [if_neg ?_]
      · exact q2 r
      · have : ∀ n m, (runsT C n m ++ ([93] ++ r)).head? ≠ some 94 := by
          intro n
          induction n with
          | zero => intro m; rw [runsT]; simp
          | succ n ih =>
            intro m
            rw [runsT]
            split
            · rename_i hm
              split
              · unfold runT
                split
                · rw [List.append_assoc]; exact (byt_not hm _).2.1
                · split
                  · rw [List.append_assoc, List.append_assoc]; exact (byt_not hm _).2.1
                  · rw [List.append_assoc, List.append_assoc]; exact (byt_not hm _).2.1
              · exact ih (m + 1)
            · simp
        exact this 256 0
def backS (C : Nat → Nat) : Nat → Bool := match pset (setT C) with
  | .ok S _ => S
  | .er _ _ => fun _ => false
theorem back_set (C : Nat → Nat) : (∀ x, x < 256 → backS C x = hasB C x) ∧ ∀ r, pset (setT C ++ r) = .ok (backS C) r := by
  obtain ⟨S, h1, h2⟩ := set_read C
  have e : backS C = S := by
    have := h2 []
    rw [List.append_nil] at this
    unfold backS
    rw [this]
  rw [e]
  exact ⟨h1, h2⟩
theorem set_head (C : Nat → Nat) : ∃ b t, setT C = b :: t ∧ b ≠ 40 ∧ b ≠ 124 ∧ b ≠ 41 ∧ ¬ (b = 42 ∨ b = 43 ∨ b = 63 ∨ b = 123) := by
  unfold setT
  split
  · exact ⟨91, _, rfl, by decide, by decide, by decide, by decide⟩
  · rename_i b hm
    have hb : b < 256 := (mem_memT.1 (by rw [hm]; simp)).1
    obtain ⟨c, t, e, _, _, h3, h4, h5, h6, _⟩ := byt_head hb
    exact ⟨c, t, e, h3, h4, h5, h6⟩
  · split
    · exact ⟨46, _, rfl, by decide, by decide, by decide, by decide⟩
    · exact ⟨91, _, rfl, by decide, by decide, by decide, by decide⟩

theorem digs_decs : ∀ (m n : Nat), n < m → n ≤ 2147483648 → ∀ r, digs (decs n ++ r) 0 = digs r n
  | 0, n, h, _, _ => by omega
  | m + 1, n, h, hn, r => by
    by_cases hb : 9 < n
    · rw [decs_big hb, List.append_assoc, digs_decs m (n / 10) (by omega) (by omega), List.cons_append, digs_dig _ _ (by omega), List.nil_append]
      congr 1
      omega
    · rw [decs_small hb, List.cons_append, digs_dig _ _ (by omega), List.nil_append]
      congr 1
      omega
theorem decs_pos (n : Nat) : 0 < (decs n).length := by
  by_cases hb : 9 < n
  · rw [decs_big hb]; simp
  · rw [decs_small hb]; simp
theorem number_decs {n : Nat} (h : n ≤ 2147483647) {b : Nat} {r : List Nat} (hb : ¬ (48 ≤ b ∧ b ≤ 57)) : pnumber (decs n ++ b :: r) = .ok n (b :: r) := by
  refine pnumber_mk ?_ ?_ h
  · rw [digs_decs (n + 1) n (by omega) (by omega), digs_not _ _ hb]
  · have := decs_pos n
    rw [List.length_append]
    omega
theorem decs_dig : ∀ (m n : Nat), n < m → ∀ r, (decs n ++ r).head? ≠ some 125
  | 0, n, h, _ => by omega
  | m + 1, n, h, r => by
    by_cases hb : 9 < n
    · rw [decs_big hb, List.append_assoc]; exact decs_dig m (n / 10) (by omega) _
    · rw [decs_small hb]; simp; omega
theorem times_read {lo hi : Int} (h : bnd lo hi = true) : ∃ b t, timesT lo hi = b :: t ∧ (b = 42 ∨ b = 43 ∨ b = 63 ∨ b = 123) ∧ ∀ r, ptimes b (t ++ r) = .ok (lo, hi) r := by
  unfold bnd at h
  have hb := of_decide_eq_true h
  unfold timesT
  split
  · rename_i e; obtain ⟨rfl, rfl⟩ := e
    exact ⟨42, [], rfl, by simp, fun r => rfl⟩
  · split
    · rename_i e; obtain ⟨rfl, rfl⟩ := e
      exact ⟨43, [], rfl, by simp, fun r => rfl⟩
    · split
      · rename_i e; obtain ⟨rfl, rfl⟩ := e
        exact ⟨63, [], rfl, by simp, fun r => rfl⟩
      · refine ⟨123, _, rfl, by simp, fun r => ?_⟩
        have hl : ((lo.toNat : Nat) : Int) = lo := by omega
        unfold ptimes
        rw [if_neg (by decide), if_neg (by decide), if_neg (by decide)]
        by_cases e1 : hi = lo
        · rw [if_pos e1]
          simp only [List.nil_append, List.append_assoc, List.cons_append]
          rw [pbounds_in (lo := lo.toNat) (hi := hi) (r1 := 125 :: r) (number_decs (by omega) (by omega)) (by rw [pupper_no _ (by simp), hl, e1]), if_neg (by omega), hl]
        · rw [if_neg e1]
          by_cases e2 : hi = -1
          · rw [if_pos e2]
            simp only [List.nil_append, List.append_assoc, List.cons_append]
            rw [pbounds_in (lo := lo.toNat) (hi := hi) (r1 := 44 :: 125 :: r) (number_decs (by omega) (by omega)) (by rw [pupper_open, e2]), if_neg (by omega), hl]
          · rw [if_neg e2]
            have hh : ((hi.toNat : Nat) : Int) = hi := by omega
            simp only [List.append_assoc, List.cons_append, List.nil_append]
            rw [pbounds_in (lo := lo.toNat) (hi := hi) (r1 := 44 :: (decs hi.toNat ++ 125 :: r)) (number_decs (by omega) (by omega)) (by
              rw [pupper_num _ (decs_dig _ _ (Nat.lt_succ_self _) _), number_decs (by omega) (by omega)]
              simp only
              rw [hh]), if_neg (by omega), hl]

theorem run_atom (C : Nat → Nat) (rows row : List T) (frs : List G) (r : List Nat) : prun ⟨rows, row⟩ frs (setT C ++ r) = prun ⟨rows, row ++ [atomT (backS C)]⟩ frs r := by
  obtain ⟨b, t, e, h1, h2, h3, h4⟩ := set_head C
  have h := (back_set C).2 r
  rw [e, List.cons_append] at h ⊢
  rw [prun_cons']
  simp only [pstep]
  rw [if_neg h1, if_neg h2, if_neg h3, if_neg h4, h]
theorem run_open (g : G) (frs : List G) (r : List Nat) : prun g frs (40 :: r) = prun ⟨[], []⟩ (g :: frs) r := by
  rw [prun_cons']
  simp only [pstep]
  rw [if_pos trivial]
theorem run_shut (g p : G) (ps : List G) (r : List Nat) : prun g (p :: ps) (41 :: r) = prun ⟨p.rows, p.row ++ [shutT g]⟩ ps r := by
  rw [prun_cons']
  simp only [pstep]
  rw [if_neg (by decide), if_neg (by decide), if_pos trivial]
theorem run_bar (g : G) (frs : List G) (r : List Nat) : prun g frs (124 :: r) = prun ⟨g.rows ++ [joinT 2 g.row], []⟩ frs r := by
  rw [prun_cons']
  simp only [pstep]
  rw [if_neg (by decide), if_pos trivial]
theorem run_times {lo hi : Int} (h : bnd lo hi = true) (g : G) (hg : g.row ≠ []) (frs : List G) (r : List Nat) : prun g frs (timesT lo hi ++ r) = prun ⟨g.rows, repLast (lo, hi) g.row⟩ frs r := by
  obtain ⟨b, t, e, hb, ht⟩ := times_read h
  rw [e, List.cons_append, prun_cons']
  simp only [pstep]
  rw [if_neg (by omega), if_neg (by omega), if_neg (by omega), if_pos hb, if_neg hg, ht r]

mutual
/-- The tree that is read of a tree's text. -/
def backT : T → T
  | .node k C lo hi ps => if k = 1 then atomT (backS C) else .node k zeros lo hi (backs ps)
def backs : List T → List T
  | [] => []
  | t :: ts => backT t :: backs ts
end
theorem backs_map (ps : List T) : backs ps = ps.map backT := by
  induction ps with
  | nil => rw [backs]; rfl
  | cons t ts ih => rw [backs, ih, List.map_cons]
/-- What stands in a row for a tree. -/
def rowOf : T → List T
  | .node k C lo hi ps => if k = 0 then [] else if k = 2 then ps else [.node k C lo hi ps]
def RdOk (t : T) : Prop := (t.kind ≠ 3 → ∀ (rows row : List T) (frs : List G) (r : List Nat), prun ⟨rows, row⟩ frs (textT t ++ r) = prun ⟨rows, row ++ rowOf (backT t)⟩ frs r) ∧
  ∃ g, shutT g = backT t ∧ ∀ (frs : List G) (r : List Nat), prun ⟨[], []⟩ frs (textT t ++ r) = prun g frs r
theorem ok_cases {k lo hi : Int} {C : Nat → Nat} {ps : List T} (h : okT (.node k C lo hi ps) = true) : (k = 0 ∧ lo = 0 ∧ hi = 0 ∧ ps = []) ∨ (k = 1 ∧ lo = 0 ∧ hi = 0 ∧ ps = []) ∨ ((k = 2 ∨ k = 3) ∧ lo = 0 ∧ hi = 0 ∧ 2 ≤ ps.length) ∨ (k = 4 ∧ ps.length = 1 ∧ bnd lo hi = true) := by
  rw [okT, Bool.and_eq_true] at h
  unfold okA at h
  rcases of_decide_eq_true h.1 with ⟨h1, _, h2, h3, h4⟩ | ⟨h1, h2, h3, h4⟩ | ⟨h1, _, h2, h3, h4⟩ | ⟨h1, _, h2, h3⟩
  · exact .inl ⟨h1, h2, h3, List.eq_nil_of_length_eq_zero h4⟩
  · exact .inr (.inl ⟨h1, h2, h3, List.eq_nil_of_length_eq_zero h4⟩)
  · exact .inr (.inr (.inl ⟨h1, h2, h3, h4⟩))
  · exact .inr (.inr (.inr ⟨h1, h2, h3⟩))
theorem back_kind (t : T) : (backT t).kind = t.kind := by
  cases t with
  | node k C lo hi ps =>
    rw [backT]
    split
    · rename_i h; show (1 : Int) = k; omega
    · rfl
theorem join_row {t : T} (h : okT t = true) (hk : t.kind ≠ 3) : joinT 2 (rowOf (backT t)) = backT t := by
  cases t with
  | node k C lo hi ps =>
    rcases ok_cases h with ⟨rfl, rfl, rfl, rfl⟩ | ⟨rfl, rfl, rfl, rfl⟩ | ⟨h1, rfl, rfl, h2⟩ | ⟨rfl, h2, h3⟩
    · rw [backT, if_neg (by decide), backs]; rfl
    · rw [backT, if_pos rfl]; rfl
    · have hk' : k ≠ 3 := hk
      have : k = 2 := by omega
      subst this
      rw [backT, if_neg (by decide), backs_map]
      match ps, h2 with
      | p :: q :: ps, _ => rfl
    · rw [backT, if_neg (by decide)]; rfl
theorem row_single {t : T} (h0 : t.kind ≠ 0) (h2 : t.kind ≠ 2) : rowOf (backT t) = [backT t] := by
  have hk := back_kind t
  generalize backT t = u at *
  cases u with
  | node k C lo hi ps =>
    have hk' : k = t.kind := hk
    rw [rowOf, if_neg (by omega), if_neg (by omega)]
theorem brk_row {p : T} (hp : RdOk p) {k : Int} (hk : k ≠ 3) (rows row : List T) (frs : List G) (r : List Nat) : prun ⟨rows, row⟩ frs (brk p.kind k (textT p) ++ r) = prun ⟨rows, row ++ [backT p]⟩ frs r := by
  unfold brk
  split
  · obtain ⟨g, h1, h2⟩ := hp.2
    rw [List.cons_append, List.append_assoc, run_open, h2, List.cons_append, List.nil_append, run_shut, h1]
  · rename_i h
    rw [hp.1 (by omega), row_single (by omega) (by omega)]
theorem brk_alt {p : T} (hp : RdOk p) (ho : okT p = true) (rows : List T) : ∃ R, joinT 2 R = backT p ∧ ∀ (frs : List G) (r : List Nat), prun ⟨rows, []⟩ frs (brk p.kind 3 (textT p) ++ r) = prun ⟨rows, R⟩ frs r := by
  by_cases hk : p.kind = 3
  · refine ⟨[backT p], rfl, fun frs r => ?_⟩
    obtain ⟨g, h1, h2⟩ := hp.2
    unfold brk
    rw [if_pos (.inl hk), List.cons_append, List.append_assoc, run_open, h2, List.cons_append, List.nil_append, run_shut, h1]
    rfl
  · refine ⟨rowOf (backT p), join_row ho hk, fun frs r => ?_⟩
    unfold brk
    rw [if_neg (by omega), hp.1 hk]
    rfl
theorem belows_row {k : Int} (hk : k ≠ 3) : ∀ (ps : List T), (∀ p ∈ ps, RdOk p) → ∀ (first : Bool) (rows row : List T) (frs : List G) (r : List Nat), prun ⟨rows, row⟩ frs (belowT k first ps ++ r) = prun ⟨rows, row ++ ps.map backT⟩ frs r
  | [], _, first, rows, row, frs, r => by rw [belowT]; simp
  | p :: ps, h, first, rows, row, frs, r => by
    have hd : (first || decide (k ≠ 3)) = true := by simp [hk]
    rw [belowT, if_pos hd, List.nil_append, List.append_assoc, brk_row (h p (by simp)) hk, belows_row hk ps (fun q hq => h q (by simp [hq])), List.append_assoc]
    rfl
theorem belows_alt : ∀ (ps : List T) (p : T), (∀ q ∈ p :: ps, RdOk q ∧ okT q = true) → ∀ (rows : List T), ∃ g : G, g.rows ++ [joinT 2 g.row] = rows ++ (p :: ps).map backT ∧
    ∀ (frs : List G) (r : List Nat), prun ⟨rows, []⟩ frs (brk p.kind 3 (textT p) ++ (belowT 3 false ps ++ r)) = prun g frs r
  | [], p, h, rows => by
    obtain ⟨R, h1, h2⟩ := brk_alt (h p (by simp)).1 (h p (by simp)).2 rows
    refine ⟨⟨rows, R⟩, by rw [h1]; rfl, fun frs r => ?_⟩
    rw [h2, belowT, List.nil_append]
  | q :: ps, p, h, rows => by
    obtain ⟨R, h1, h2⟩ := brk_alt (h p (by simp)).1 (h p (by simp)).2 rows
    obtain ⟨g, h3, h4⟩ := belows_alt ps q (fun x hx => h x (by simp only [List.mem_cons] at hx ⊢; exact .inr hx)) (rows ++ [backT p])
    refine ⟨g, by rw [h3]; simp, fun frs r => ?_⟩
    have hd : ¬ (false || decide ((3 : Int) ≠ 3)) = true := by simp
    rw [h2, belowT, if_neg hd, List.append_assoc, List.cons_append, List.nil_append, run_bar, List.append_assoc]
    show prun ⟨rows ++ [joinT 2 R], []⟩ frs _ = _
    rw [h1, h4]
theorem rd_of_row {t : T} (ho : okT t = true) (hk : t.kind ≠ 3) (h : ∀ (rows row : List T) (frs : List G) (r : List Nat), prun ⟨rows, row⟩ frs (textT t ++ r) = prun ⟨rows, row ++ rowOf (backT t)⟩ frs r) : RdOk t :=
  ⟨fun _ => h, ⟨[], rowOf (backT t)⟩, by show joinT 3 ([] ++ [joinT 2 (rowOf (backT t))]) = _; rw [join_row ho hk]; rfl, fun frs r => by rw [h]; rfl⟩
theorem rd_node {k lo hi : Int} {C : Nat → Nat} {ps : List T} (ho : okT (.node k C lo hi ps) = true) (h : ∀ p ∈ ps, RdOk p ∧ okT p = true) : RdOk (.node k C lo hi ps) := by
  have hR : ∀ p ∈ ps, RdOk p := fun p hp => (h p hp).1
  rcases ok_cases ho with ⟨rfl, rfl, rfl, rfl⟩ | ⟨rfl, rfl, rfl, rfl⟩ | ⟨h1, rfl, rfl, h2⟩ | ⟨rfl, h2, h3⟩
  · refine rd_of_row ho (by show (0 : Int) ≠ 3; decide) fun rows row frs r => ?_
    rw [textT, if_neg (by decide), if_neg (by decide), belowT, backT, if_neg (by decide), rowOf, if_pos rfl]
    simp
  · refine rd_of_row ho (by show (1 : Int) ≠ 3; decide) fun rows row frs r => ?_
    rw [textT, if_pos rfl, run_atom, backT, if_pos rfl]
    rfl
  · rcases h1 with rfl | rfl
    · refine rd_of_row ho (by show (2 : Int) ≠ 3; decide) fun rows row frs r => ?_
      rw [textT, if_neg (by decide), if_neg (by decide), List.append_nil, belows_row (by decide) ps hR, backT, if_neg (by decide), rowOf, if_neg (by decide), if_pos rfl, backs_map]
    · refine ⟨fun e => absurd rfl e, ?_⟩
      match ps, h2, h with
      | p :: q :: ps, _, h =>
        obtain ⟨g, h3, h4⟩ := belows_alt (q :: ps) p h []
        refine ⟨g, ?_, fun frs r => ?_⟩
        · unfold shutT
          rw [h3, backT, if_neg (by decide), backs_map]
          rfl
        · rw [textT, if_neg (by decide), if_neg (by decide), List.append_nil, belowT, if_pos (by rfl), List.nil_append, List.append_assoc, h4]
  · refine rd_of_row ho (by show (4 : Int) ≠ 3; decide) fun rows row frs r => ?_
    match ps, h2, hR with
    | [p], _, hR =>
      rw [textT, if_neg (by decide), if_pos rfl, List.append_assoc, belows_row (by decide) [p] hR, run_times h3 _ (by simp), backT, if_neg (by decide), rowOf, if_neg (by decide), if_neg (by decide)]
      simp only [List.map_cons, List.map_nil]
      rw [repLast_snoc, backs, backs]
      rfl
mutual
theorem rd_all : ∀ t : T, okT t = true → RdOk t
  | .node k C lo hi ps, h => rd_node h (rd_alls ps (by rw [okT, Bool.and_eq_true] at h; exact h.2))
theorem rd_alls : ∀ ts : List T, oksT ts = true → ∀ p ∈ ts, RdOk p ∧ okT p = true
  | [], _, p, hp => by simp at hp
  | t :: ts, h, p, hp => by
    rw [oksT, Bool.and_eq_true] at h
    rcases List.mem_cons.1 hp with e | hp
    · rw [e]; exact ⟨rd_all t h.1, h.1⟩
    · exact rd_alls ts h.2 p hp
end
theorem run_text {t : T} (h : okT t = true) : prun ⟨[], []⟩ [] (textT t) = .ok (backT t) [] := by
  obtain ⟨g, h1, h2⟩ := (rd_all t h).2
  have := h2 [] []
  rw [List.append_nil] at this
  rw [this, prun_nil', h1]

mutual
theorem dpt_back : ∀ t : T, okT t = true → dptT (backT t) = dptT t
  | .node k C lo hi ps, h => by
    rw [backT]
    by_cases e : k = 1
    · rw [if_pos e]
      rcases ok_cases h with ⟨h1, _, _, rfl⟩ | ⟨_, _, _, rfl⟩ | ⟨h1, _⟩ | ⟨h1, _⟩
      · rfl
      · rfl
      · omega
      · omega
    · rw [if_neg e, dptT, dptT, dpts_back ps (by rw [okT, Bool.and_eq_true] at h; exact h.2)]
theorem dpts_back : ∀ ts : List T, oksT ts = true → dptsT (backs ts) = dptsT ts
  | [], _ => by rw [backs]
  | t :: ts, h => by
    rw [oksT, Bool.and_eq_true] at h
    rw [backs, dptsT, dptsT, dpt_back t h.1, dpts_back ts h.2]
end
mutual
theorem plc_back : ∀ t : T, okT t = true → plcT (backT t) = plcT t
  | .node k C lo hi ps, h => by
    rw [backT]
    by_cases e : k = 1
    · rw [if_pos e]
      rcases ok_cases h with ⟨h1, _, _, rfl⟩ | ⟨_, _, _, rfl⟩ | ⟨h1, _⟩ | ⟨h1, _⟩
      · omega
      · unfold atomT; rw [plcT, plcT, e]
      · omega
      · omega
    · rw [if_neg e, plcT, plcT, plcs_back ps (by rw [okT, Bool.and_eq_true] at h; exact h.2)]
theorem plcs_back : ∀ ts : List T, oksT ts = true → plcsT (backs ts) = plcsT ts
  | [], _ => by rw [backs]
  | t :: ts, h => by
    rw [oksT, Bool.and_eq_true] at h
    rw [backs, plcsT, plcsT, plc_back t h.1, plcs_back ts h.2]
end
mutual
theorem sz_back : ∀ t : T, okT t = true → szT (backT t) = szT t
  | .node k C lo hi ps, h => by
    rw [backT]
    by_cases e : k = 1
    · rw [if_pos e]
      rcases ok_cases h with ⟨h1, _, _, rfl⟩ | ⟨_, _, _, rfl⟩ | ⟨h1, _⟩ | ⟨h1, _⟩
      · rfl
      · rfl
      · omega
      · omega
    · rw [if_neg e, szT, szT, szs_back ps (by rw [okT, Bool.and_eq_true] at h; exact h.2)]
theorem szs_back : ∀ ts : List T, oksT ts = true → szsT (backs ts) = szsT ts
  | [], _ => by rw [backs]
  | t :: ts, h => by
    rw [oksT, Bool.and_eq_true] at h
    rw [backs, szsT, szsT, sz_back t h.1, szs_back ts h.2]
end
mutual
/-- Classes are four words below 2^64. -/
def ClT : T → Prop
  | .node _ C _ _ ps => Cl C ∧ ClsT ps
def ClsT : List T → Prop
  | [] => True
  | t :: ts => ClT t ∧ ClsT ts
end
mutual
theorem like_back : ∀ t : T, okT t = true → ClT t → likeT t (backT t) = true
  | .node k C lo hi ps, h, hc => by
    rw [ClT] at hc
    rw [backT]
    by_cases e : k = 1
    · rw [if_pos e]
      rcases ok_cases h with ⟨h1, _, _, rfl⟩ | ⟨_, rfl, rfl, rfl⟩ | ⟨h1, _⟩ | ⟨h1, _⟩
      · omega
      · have := same_canon (S := backS C) hc.1 (fun b hb => ((back_set C).1 b hb).symm)
        rw [likeT, likes_nil]
        unfold atomT
        simp only [likeA, eq4, e]
        simp
        exact this
      · omega
      · omega
    · rw [if_neg e, likeT]
      have hz : z4 C = true := by
        have h1 := h
        rw [okT, Bool.and_eq_true] at h1
        unfold okA at h1
        rcases of_decide_eq_true h1.1 with ⟨_, h2, _⟩ | ⟨h2, _⟩ | ⟨_, h2, _⟩ | ⟨_, h2, _⟩
        · exact h2
        · exact absurd h2 e
        · exact h2
        · exact h2
      have hl : (backs ps).length = ps.length := by rw [backs_map, List.length_map]
      have hz2 := of_decide_eq_true hz
      simp only [likeA, T.ps, eq4, zeros]
      rw [likes_back ps (by rw [okT, Bool.and_eq_true] at h; exact h.2) hc.2]
      simp [hl, hz2]
theorem likes_back : ∀ ts : List T, oksT ts = true → ClsT ts → likesT ts (backs ts) = true
  | [], _, _ => by rw [likesT]
  | t :: ts, h, hc => by
    rw [oksT, Bool.and_eq_true] at h
    rw [ClsT] at hc
    rw [backs, likesT, like_back t h.1 hc.1, likes_back ts h.2 hc.2]
    rfl
end
theorem set_congr {C D : Nat → Nat} (h : ∀ b, b < 256 → hasB C b = hasB D b) : setT C = setT D := by
  have h1 : memT C = memT D := by
    unfold memT
    exact List.filter_congr fun x hx => h x (List.mem_range.1 hx)
  have h2 : ∀ n b, runsT C n b = runsT D n b := by
    intro n
    induction n with
    | zero => intro b; rw [runsT, runsT]
    | succ n ih =>
      intro b
      rw [runsT, runsT]
      by_cases hb : b < 256
      · rw [if_pos hb, if_pos hb, h b hb, runEnd_congr 256 b (fun x _ hx => h x hx), ih, ih]
      · rw [if_neg hb, if_neg hb]
  unfold setT
  rw [h1, h2]
mutual
theorem text_back : ∀ t : T, okT t = true → textT (backT t) = textT t
  | .node k C lo hi ps, h => by
    rw [backT]
    by_cases e : k = 1
    · rw [if_pos e]
      unfold atomT
      rw [textT, if_pos rfl, textT, if_pos e]
      exact set_congr fun b hb => by rw [hasB_canon, (back_set C).1 b hb]
    · rw [if_neg e, textT, if_neg e, textT, if_neg e, belows_back ps (by rw [okT, Bool.and_eq_true] at h; exact h.2)]
theorem belows_back : ∀ (ts : List T), oksT ts = true → ∀ {k : Int} {first : Bool}, belowT k first (backs ts) = belowT k first ts
  | [], _, k, first => by rw [backs]
  | t :: ts, h, k, first => by
    rw [oksT, Bool.and_eq_true] at h
    rw [backs, belowT, belowT, text_back t h.1, belows_back ts h.2, back_kind]
end
mutual
theorem ok_back : ∀ t : T, okT t = true → okT (backT t) = true
  | .node k C lo hi ps, h => by
    rw [backT]
    by_cases e : k = 1
    · rw [if_pos e, ok_atom]
    · rw [if_neg e]
      have h1 := h
      rw [okT, Bool.and_eq_true] at h1
      have hl : (backs ps).length = ps.length := by rw [backs_map, List.length_map]
      rw [okT, oks_back ps h1.2, hl, z4_zeros, Bool.and_true]
      unfold okA at h1 ⊢
      have h2 := of_decide_eq_true h1.1
      apply decide_eq_true
      rcases h2 with ⟨q1, _, q2⟩ | ⟨q1, _⟩ | ⟨q1, _, q2⟩ | ⟨q1, _, q2⟩
      · exact .inl ⟨q1, rfl, q2⟩
      · exact absurd q1 e
      · exact .inr (.inr (.inl ⟨q1, rfl, q2⟩))
      · exact .inr (.inr (.inr ⟨q1, rfl, q2⟩))
theorem oks_back : ∀ ts : List T, oksT ts = true → oksT (backs ts) = true
  | [], _ => by rw [backs, oksT]
  | t :: ts, h => by
    rw [oksT, Bool.and_eq_true] at h
    rw [backs, oksT, ok_back t h.1, oks_back ts h.2]
    rfl
end
mutual
theorem cl_back : ∀ t : T, ClT (backT t)
  | .node k C lo hi ps => by
    rw [backT]
    by_cases e : k = 1
    · rw [if_pos e]
      unfold atomT
      rw [ClT, ClsT]
      exact ⟨Cl_canon _, trivial⟩
    · rw [if_neg e, ClT]
      exact ⟨fun i => by unfold zeros; omega, cls_back ps⟩
theorem cls_back : ∀ ts : List T, ClsT (backs ts)
  | [] => by rw [backs, ClsT]; exact trivial
  | t :: ts => by rw [backs, ClsT]; exact ⟨cl_back t, cls_back ts⟩
end
/-- What a formed tree's text is read as. -/
theorem pparse_text {t : T} (h : okT t = true) : pparse (textT t) = if 400 < (textT t).length ∨ 20 < dptT t ∨ 40 < plcT t then (zeroT, 0, 3) else (backT t, 0, 0) := by
  by_cases hl : 400 < (textT t).length
  · rw [pparse_long hl, if_pos (.inl hl)]
  · rw [pparse_ok hl (run_text h), dpt_back t h, plc_back t h]
    by_cases hd : 20 < dptT t ∨ 40 < plcT t
    · rw [if_pos hd, if_pos (.inr hd)]
    · rw [if_neg hd, if_neg (by omega)]

end Go.Proofs.YtpibkalbnjgpaaaDoor

/- What every formed tree is written as, by the program: contracts, with bounds on the text's length; of the trees that are read.
   Conditions: the tree lies in memory, its classes are four words below 2^64; numbers are written in base ten ('Fmt'). -/
namespace Go.Proofs.YtpibkalbnjgpaaaDoor
open Go.RowKit Go.Shelf
attribute [local go_sem] nodeAgg

theorem cls_get : ∀ (ps : List V) (i : Nat) (p : V), ClsT (erases ps) → ps[i]? = some p → ClT (erase p)
  | [], i, p, _, h => by simp at h
  | q :: ps, 0, p, hk, h => by
    rw [erases, ClsT] at hk
    simp at h
    subst h
    exact hk.1
  | q :: ps, i + 1, p, hk, h => by
    rw [erases, ClsT] at hk
    exact cls_get ps i p hk.2 (by simpa using h)
theorem down_cl : Down ClT where
  set t h := by
    cases t with
    | node k C lo hi v ps => rw [erase, ClT] at h; exact h.1
  part t p i h hp := by
    cases t with
    | node k C lo hi v ps => rw [erase, ClT] at h; exact cls_get ps i p h.2 hp
theorem cls_all : ∀ (ps : List V), (∀ t, t ∈ ps → ClT (erase t)) → ClsT (erases ps)
  | [], _ => by rw [erases, ClsT]; exact trivial
  | t :: ts, h => by rw [erases, ClsT]; exact ⟨h t (by simp), cls_all ts fun u hu => h u (by simp [hu])⟩
theorem cl_good {t : V} (h : Good t) : ClT (erase t) := by
  induction h with
  | mk k C lo hi v ps hk hC hz hlo hhi hp ih => rw [erase, ClT]; exact ⟨hC, cls_all ps ih⟩

theorem cls_append : ∀ (a b : List T), ClsT (a ++ b) ↔ ClsT a ∧ ClsT b
  | [], b => by rw [List.nil_append, ClsT]; simp
  | t :: a, b => by rw [List.cons_append, ClsT, ClsT, cls_append a b, and_assoc]
theorem cls_one (t : T) : ClsT [t] ↔ ClT t := by rw [ClsT, ClsT]; simp
theorem cl_zeros : Cl zeros := fun i => by unfold zeros; omega
theorem cl_zero : ClT zeroT := by unfold zeroT; rw [ClT, ClsT]; exact ⟨cl_zeros, trivial⟩
theorem cl_join {k : Int} {ps : List T} (h : ClsT ps) : ClT (joinT k ps) := by
  match ps, h with
  | [], _ => exact cl_zero
  | [p], h => exact (cls_one p).1 h
  | p :: q :: ps, h =>
    show ClT (.node k zeros 0 0 (p :: q :: ps))
    rw [ClT]
    exact ⟨cl_zeros, h⟩
theorem cl_atom (S : Nat → Bool) : ClT (atomT S) := by unfold atomT; rw [ClT, ClsT]; exact ⟨Cl_canon _, trivial⟩
theorem cls_repLast {b : Int × Int} : ∀ {ps : List T}, ClsT ps → ClsT (repLast b ps)
  | [], h => h
  | [p], h => by
    show ClsT [repT b p]
    rw [cls_one] at h ⊢
    unfold repT
    rw [ClT, cls_one]
    exact ⟨cl_zeros, h⟩
  | p :: q :: ps, h => by
    show ClsT (p :: repLast b (q :: ps))
    rw [ClsT] at h ⊢
    exact ⟨h.1, cls_repLast h.2⟩
def clG (g : G) : Prop := ClsT g.rows ∧ ClsT g.row
theorem cl_shut {g : G} (h : clG g) : ClT (shutT g) := by
  unfold shutT
  exact cl_join ((cls_append _ _).2 ⟨h.1, (cls_one _).2 (cl_join h.2)⟩)
theorem clG_nil : clG ⟨[], []⟩ := by unfold clG; rw [ClsT]; exact ⟨trivial, trivial⟩
theorem cl_step {g : G} {frs : List G} {r : List Nat} {x : G × List G} {r' : List Nat} (hg : clG g) (hf : ∀ f ∈ frs, clG f) (h : pstep g frs r = .ok x r') : clG x.1 ∧ ∀ f ∈ x.2, clG f := by
  cases r with
  | nil => cases h
  | cons b r =>
    simp only [pstep] at h
    split at h
    · injection h with h _; subst h
      refine ⟨clG_nil, fun f hm => ?_⟩
      rcases List.mem_cons.1 hm with rfl | hm
      · exact hg
      · exact hf f hm
    · split at h
      · injection h with h _; subst h
        exact ⟨⟨(cls_append _ _).2 ⟨hg.1, (cls_one _).2 (cl_join hg.2)⟩, clG_nil.1⟩, hf⟩
      · split at h
        · split at h
          · cases h
          · rename_i p ps
            injection h with h _; subst h
            have hp := hf p (by simp)
            exact ⟨⟨hp.1, (cls_append _ _).2 ⟨hp.2, (cls_one _).2 (cl_shut hg)⟩⟩, fun f hm => hf f (by simp [hm])⟩
        · split at h
          · split at h
            · cases h
            · split at h
              · cases h
              · injection h with h _; subst h
                exact ⟨⟨hg.1, cls_repLast hg.2⟩, hf⟩
          · split at h
            · cases h
            · injection h with h _; subst h
              exact ⟨⟨hg.1, (cls_append _ _).2 ⟨hg.2, (cls_one _).2 (cl_atom _)⟩⟩, hf⟩
theorem cl_run : ∀ (n : Nat) {g : G} {frs : List G} {r : List Nat} {t : T} {r' : List Nat}, r.length ≤ n → clG g → (∀ f ∈ frs, clG f) → prun g frs r = .ok t r' → ClT t
  | n, g, frs, [], t, r', _, hg, _, h => by
    cases frs with
    | nil => rw [prun_nil'] at h; injection h with h _; subst h; exact cl_shut hg
    | cons p ps => rw [prun_open'] at h; cases h
  | n, g, frs, b :: r, t, r', hn, hg, hf, h => by
    rw [prun_cons'] at h
    split at h
    · cases h
    · rename_i x r2 hx
      have hl := pstep_len hx
      have hs := cl_step hg hf hx
      match n, hn with
      | 0, hn => simp at hn
      | n + 1, hn =>
        simp at hn hl
        exact cl_run n (by omega) hs.1 hs.2 h
/-- The classes of what is read are four words below 2^64. -/
theorem pparse_cl (L : List Nat) : ClT (pparse L).1 := by
  by_cases hL : 400 < L.length
  · rw [pparse_long hL]; exact cl_zero
  · cases hx : prun ⟨[], []⟩ [] L with
    | er r c => rw [pparse_er hL hx]; exact cl_zero
    | ok t r =>
      rw [pparse_ok hL hx]
      by_cases hd : 20 < dptT t ∨ 40 < plcT t
      · rw [if_pos hd]; exact cl_zero
      · rw [if_neg hd]; exact cl_run _ (Nat.le_refl _) clG_nil (by simp) hx

theorem byT_le4 (c : Nat) : (byT c).length ≤ 4 := by
  unfold byT
  split
  · simp
  · split
    · simp
    · split
      · simp
      · split <;> simp [esc2]
theorem runs_len (C : Nat → Nat) : ∀ n b, (runsT C n b).length ≤ 9 * n
  | 0, b => by rw [runsT]; simp
  | n + 1, b => by
    rw [runsT]
    split
    · split
      · have h1 := runs_len C n (runEnd C 256 b + 1)
        have h2 : (runT b (runEnd C 256 b)).length ≤ 9 := by
          have a1 := byT_le4 b
          have a2 := byT_le4 (runEnd C 256 b)
          unfold runT
          split
          · omega
          · split
            · rw [List.length_append]; omega
            · rw [List.length_append, List.length_cons]; omega
        rw [List.length_append]
        omega
      · have := runs_len C n (b + 1); omega
    · simp
theorem set_len (C : Nat → Nat) : (setT C).length ≤ 2310 := by
  unfold setT
  split
  · simp
  · rename_i b _
    have := byT_le4 b
    omega
  · split
    · simp
    · have := runs_len C 256 0
      rw [List.length_cons, List.length_append, List.length_singleton]
      omega
theorem times_len {lo hi : Int} (h : bnd lo hi = true) : (timesT lo hi).length ≤ 45 := by
  unfold bnd at h
  have hb := of_decide_eq_true h
  have d1 := decs_len19 (n := lo.toNat) (by omega)
  have d2 := decs_len19 (n := hi.toNat) (by omega)
  unfold timesT
  split
  · simp
  · split
    · simp
    · split
      · simp
      · split
        · simp; omega
        · split
          · simp; omega
          · simp; omega
theorem brk_len (p k : Int) (x : List Nat) : (brk p k x).length ≤ x.length + 2 := by
  unfold brk
  split
  · simp
  · omega
mutual
theorem text_len : ∀ t : T, okT t = true → (textT t).length + 3 ≤ 2400 * szT t
  | .node k C lo hi ps, h => by
    have hs := set_len C
    have hb := belows_len ps (by rw [okT, Bool.and_eq_true] at h; exact h.2) k true
    rw [textT, szT]
    by_cases e : k = 1
    · rw [if_pos e]; omega
    · rw [if_neg e, List.length_append]
      have ht : (if k = 4 then timesT lo hi else []).length ≤ 45 := by
        by_cases e4 : k = 4
        · rw [if_pos e4]
          rcases ok_cases h with ⟨h1, _⟩ | ⟨h1, _⟩ | ⟨h1, _⟩ | ⟨_, _, h1⟩
          · omega
          · omega
          · omega
          · exact times_len h1
        · rw [if_neg e4]; simp
      omega
theorem belows_len : ∀ (ts : List T), oksT ts = true → ∀ (k : Int) (first : Bool), (belowT k first ts).length ≤ 2400 * szsT ts
  | [], _, k, first => by rw [belowT]; simp
  | t :: ts, h, k, first => by
    rw [oksT, Bool.and_eq_true] at h
    have h1 := text_len t h.1
    have h2 := belows_len ts h.2 k false
    have h3 := brk_len t.kind k (textT t)
    have h4 : (if (first || decide (k ≠ 3)) = true then ([] : List Nat) else [124]).length ≤ 1 := by split <;> simp
    rw [belowT, szsT, List.length_append, List.length_append]
    omega
end
mutual
theorem wt_sz : ∀ t : T, wtT t + 3 ≤ 6 * szT t
  | .node k C lo hi ps => by
    have := wts_sz ps
    rw [wtT, szT]
    omega
theorem wts_sz : ∀ ts : List T, wtsT ts ≤ 6 * szsT ts
  | [] => by rw [wtsT]; omega
  | t :: ts => by
    have h1 := wt_sz t
    have h2 := wts_sz ts
    rw [wtsT, szsT]
    omega
end

/-- A formed tree is written as its text. -/
theorem text_any (t : V) (w : World) (R : Nat → Prop) (hl : Laid w R t) (hok : okT (erase t) = true) (hc : ClT (erase t)) (hz : szT (erase t) ≤ 10000) (HF : Fmt w) :
    Calls Tryd.prog 10 #[nodeAgg t] w (Wrote (textT (erase t)) w) := by
  have h1 := wt_sz (erase t)
  have h2 := text_len (erase t) hok
  have h3 := dpt_sz (erase t)
  exact text_formed ClT t w R hc hl hok (by omega) (by omega) (by rw [dpt_erase]; omega) fun B b o p W hN ho hS hwp hb => parts_any ClT down_cl B b o p W hN ho hS hwp fun n W' hn hb' => HF n W' hn (below_hop hb hb')

set_option maxHeartbeats 1000000 in
set_option maxRecDepth 100000 in
/-- A tree that isn't formed is written as nothing. -/
theorem text_not (t : V) (w : World) (R : Nat → Prop) (hl : Laid w R t) (hok : okT (erase t) = false) (hz : szT (erase t) ≤ 10000) :
    Calls Tryd.prog 10 #[nodeAgg t] w (Wrote [] w) := by
  have hdep : dptV t ≤ 1000000 := by rw [dpt_erase]; have := dpt_sz (erase t); omega
  obtain ⟨sa, sc, hv, _⟩ := laid_row' hl
  simp only [nodeAgg]
  rw [hv]
  have hl1 : Laid (w.alloc (.cells #[.int .i64 t.kind, .int .u64 (t.set 0 : Nat), .int .u64 (t.set 1 : Nat), .int .u64 (t.set 2 : Nat), .int .u64 (t.set 3 : Nat), .slice sa t.ps.length sc, .int .i64 t.lo, .int .i64 t.hi] 27)) R t := hl.chg ((Chg.refl (fun _ => False) w).alloc _) fun _ _ _ => id
  have HF := Lib.hid (callsIn_wide.1 (formed_in t (w.alloc (.cells #[.int .i64 t.kind, .int .u64 (t.set 0 : Nat), .int .u64 (t.set 1 : Nat), .int .u64 (t.set 2 : Nat), .int .u64 (t.set 3 : Nat), .slice sa t.ps.length sc, .int .i64 t.lo, .int .i64 t.hi] 27)) sa t.ps.length sc hv R hl1 hdep))
  clear hl hl1 hz hdep
  go_enter Tryd.func10, Tryd.ntmps10
  go_wp2_with fail
  go_at_call 18
  refine HF.out.mono ?_
  rintro e w1 ⟨rfl, hb1⟩
  rw [hok]
  have HB := Lib.hid hb1
  clear hb1
  go_wp2_with fail
  go_ret
  exact ⟨_, rfl, rfl, below_hop ((Below.refl _ w).alloc (Nat.le_refl _) _) HB.out⟩

end Go.Proofs.YtpibkalbnjgpaaaDoor
