/- Whether two relations are the same; a relation so many times: contracts.
   Conditions: relations of at most 256 rows whose places are theirs; the library's table lies in memory. -/
import Derived.Test.YtdjddmkmcdfmiaaDoorND
import Derived.Test.YtdjddmkmcdfmiaaDoorNC
import Derived.Deep.LoopGhost
import Derived.TacticsInMore

/- One relation behind another one: the contract.
   Conditions: what the first one reaches are places of the word; the library's table lies in memory. -/
namespace Go.Proofs.YtdjddmkmcdfmiaaDoor
open Go.RowKit Go.Shelf
attribute [local go_sem] Oper.semAt_some

/-- What a loop over a function leaves to be done at the end: nothing. -/
def markS (r : Nat) : Deferred := { target := .collected r, args := #[] }
def MarksS (B : Nat) (rs : List Nat) (W : World) : Prop := rs.Nodup ∧ ∀ r ∈ rs, B ≤ r ∧ W.heap[r]? = some (.deferred (some []))
theorem leavesS {fn : Func} {tmps : Array Value} {R : Ending → World → Prop} {v : Value} {B : Nat} {W0 : World} (hres : ∀ W, (results fn tmps).run Tryd.prog W = .ok v W) :
    ∀ (rs : List Nat) (W : World), MarksS B rs W → Below B W0 W → (∀ W', Below B W0 W' → (∀ k, (∀ r ∈ rs, k ≠ r) → W'.heap[k]? = W.heap[k]?) → R (.returned v) W') → LeavesInM Fence.wide 9 Tryd.prog fn tmps R (rs.map markS) .returning W
  | [], W, _, hb, hR => ⟨v, hres W, hR W hb fun _ _ => rfl⟩
  | r :: rs, W, hm, hb, hR => by
    obtain ⟨hnd, hm⟩ := hm
    have h0 := hm r (by simp)
    have hnd' := List.nodup_cons.1 hnd
    refine ⟨by simp, .inl ⟨r, W.putObj r (.deferred none), rfl, run_takeDeferred h0.2, ?_⟩⟩
    refine leavesS hres rs _ ⟨hnd'.2, fun x hx => ?_⟩ ?_ fun W' hW' hk => hR W' hW' fun k hkr => ?_
    · have h1 := hm x (by simp [hx])
      exact ⟨h1.1, (World.putObj_heap_other (fun e => by subst e; exact hnd'.1 hx)).trans h1.2⟩
    · exact hb.trans ((chg_put (R := fun k => k = r) W r (.deferred none) rfl).below (by have := h0.1; have := (Array.getElem?_eq_some_iff.1 h0.2).1; omega) fun k hk e => by have e : k = r := e; have := h0.1; omega)
    · exact (hk k fun x hx => hkr x (by simp [hx])).trans (World.putObj_heap_other (fun e => hkr r (by simp) (by omega)))
theorem marksS_low {B : Nat} {rs : List Nat} {W W' : World} (h : MarksS B rs W) (hk : ∀ (k : Nat) (o : Obj), W.heap[k]? = some o → (∀ c e fz, o ≠ Obj.cells c e fz) → W'.heap[k]? = some o) : MarksS B rs W' :=
  ⟨h.1, fun r hr => ⟨(h.2 r hr).1, hk r _ (h.2 r hr).2 (fun _ _ _ e => by cases e)⟩⟩
/-- The rows of some places, joined. -/
def orL (k : Nat → Nat → Nat) (l : List Nat) (i' : Nat) : Nat := if i' < 4 then l.foldl (fun x q => x ||| k q i') 0 else 0
def thenR (m k : Nat → Nat → Nat) (p : Nat) : Nat → Nat := orL k (bits4 (m p) 4)
/-- The first rows are done, one is being done. -/
def prodR (m k : Nat → Nat → Nat) (i : Nat) (pre : List Nat) (p' : Nat) : Nat → Nat := if p' < i then thenR m k p' else if p' = i then orL k pre else fun _ => 0
theorem orL_snoc (k : Nat → Nat → Nat) (l : List Nat) (q i' : Nat) (hi : i' < 4) : orL k (l ++ [q]) i' = orL k l i' ||| k q i' := by
  unfold orL
  rw [if_pos hi, if_pos hi, List.foldl_append]
  rfl
theorem foldl_bit (k : Nat → Nat → Nat) (i' j : Nat) : ∀ (l : List Nat) (x : Nat), (l.foldl (fun x q => x ||| k q i') x).testBit j = (x.testBit j || l.any fun q => (k q i').testBit j)
  | [], x => by simp
  | q :: l, x => by rw [List.foldl_cons, foldl_bit k i' j l, Nat.testBit_or, List.any_cons, Bool.or_assoc]
theorem has_thenR (m k : Nat → Nat → Nat) (p q : Nat) (hq : q < 256) : hasB (thenR m k p) q = true ↔ ∃ r, r < 256 ∧ hasB (m p) r = true ∧ hasB (k r) q = true := by
  unfold thenR hasB orL
  rw [if_pos (by omega), foldl_bit, Nat.zero_testBit, Bool.false_or, List.any_eq_true]
  constructor
  · rintro ⟨r, hr, h⟩
    have := mem_bits4.1 hr
    exact ⟨r, by omega, this.2, h⟩
  · rintro ⟨r, hr, h1, h2⟩
    exact ⟨r, mem_bits4.2 ⟨by omega, h1⟩, h2⟩
theorem foldl_or_lt (k : Nat → Nat → Nat) (hk : ∀ p i, k p i < 18446744073709551616) (i' : Nat) : ∀ (l : List Nat) (x : Nat), x < 18446744073709551616 → l.foldl (fun x q => x ||| k q i') x < 18446744073709551616
  | [], _, h => h
  | q :: l, _, h => foldl_or_lt k hk i' l _ (or_lt h (hk q i'))

/-- The frame ahead of a round. -/
def ThFr (b c n cb cc sb i : Nat) (rs : List Nat) (a : Act) : Prop :=
  ∃ x6 x7 x14 x15 x16 x17 x18 x19 x20 x21 x22 x23 x24 x25 x26 x27 x28 x29 : Value, a = { tmps := #[.slice (some ⟨b, 0, none⟩) n cb, .slice (some ⟨c, 0, none⟩) n cc, undef, .pointer (some ⟨sb, 0, none⟩), .slice none 0 0, .pointer (some ⟨sb + 1 + 1, 0, none⟩), x6, x7, .slice (some ⟨b, 0, none⟩) n cb, .int .i64 (n : Nat), .slice (some ⟨sb + 1, 0, none⟩) n n, .slice (some ⟨b, 0, none⟩) n cb, .int .i64 (n : Nat), .int .i64 (i : Nat), x14, x15, x16, x17, x18, x19, x20, x21, x22, x23, x24, x25, x26, x27, x28, x29], defers := rs.map markS }
/-- What holds ahead of a round. -/
def ThRel (W0 : World) (mb n : Nat) (m k : Nat → Nat → Nat) (i : Nat) (rs : List Nat) (wr : World) : Prop := RelM wr mb n (prodR m k i []) ∧ Chg (fun x => x = mb) W0 wr ∧ MarksS W0.heap.size rs wr ∧ i ≤ n
/-- What holds within a row. -/
def ThIn (w4 : World) (mb n : Nat) (m k : Nat → Nat → Nat) (i : Nat) (pre : List Nat) (W : World) : Prop := RelM W mb n (prodR m k i pre) ∧ Chg (fun x => x = mb) w4 W
theorem thIn_calm {w4 : World} {mb n : Nat} {m k : Nat → Nat → Nat} {i : Nat} : Calm w4.heap.size (ThIn w4 mb n m k i) := by
  rintro pre W W' l ⟨h1, h3⟩ hl hn hc
  have hne : mb ≠ l := by
    rintro rfl
    obtain ⟨cs, mm, e⟩ := h1.ty
    exact hn _ _ _ e
  refine ⟨h1.keep (hc.block mb h1.size hne), ?_⟩
  exact ⟨hc.os.trans h3.os, hc.tape.trans h3.tape, hc.output.trans h3.output, Nat.le_trans h3.size hc.size, fun k hk hne => (hc.block k (Nat.lt_of_lt_of_le hk h3.size) (fun e => by have e : k = l := e; omega)).trans (h3.block k hk hne)⟩
theorem prodR_lt {m k : Nat → Nat → Nat} (hk : ∀ p i, k p i < 18446744073709551616) (i : Nat) (pre : List Nat) (p' i' : Nat) : prodR m k i pre p' i' < 18446744073709551616 := by
  have h : ∀ l : List Nat, orL k l i' < 18446744073709551616 := fun l => by
    unfold orL
    split
    · exact foldl_or_lt k hk i' l 0 (by decide)
    · decide
  unfold prodR
  split
  · exact h _
  · split
    · exact h _
    · show 0 < 18446744073709551616
      decide
theorem prodR_next (m k : Nat → Nat → Nat) (i p' i' : Nat) : prodR m k i (bits4 (m i) 4) p' i' = prodR m k (i + 1) [] p' i' := by
  unfold prodR
  by_cases h1 : p' < i
  · rw [if_pos h1, if_pos (by omega)]
  · rw [if_neg h1]
    by_cases h2 : p' = i
    · subst h2
      rw [if_pos rfl, if_pos (by omega)]
      rfl
    · rw [if_neg h2, if_neg (by omega)]
      split
      · unfold orL; split <;> rfl
      · rfl
theorem prodR_snoc (m k : Nat → Nat → Nat) (i : Nat) (pre : List Nat) (q p' i' : Nat) (hi : i' < 4) : orR (prodR m k i pre) i (k q) 4 p' i' = prodR m k i (pre ++ [q]) p' i' := by
  unfold orR prodR
  by_cases h2 : p' = i
  · subst h2
    rw [if_pos ⟨rfl, hi⟩, if_neg (by omega), if_pos rfl, if_neg (by omega), if_pos rfl, orL_snoc _ _ _ _ hi]
  · rw [if_neg (fun e => h2 e.1)]
    by_cases h1 : p' < i
    · rw [if_pos h1, if_pos h1]
    · rw [if_neg h1, if_neg h1, if_neg h2, if_neg h2]
theorem keepsO_chg {mb : Nat} {W W' : World} (h : Chg (fun b => b = mb) W W') (hB : ∃ cs e mm, W.heap[mb]? = some (.cells cs e mm)) : KeepsOthers W W' :=
  ⟨h.size, fun k o hk ho => (h.block k (Array.getElem?_eq_some_iff.1 hk).1 (fun e => by
    have e : k = mb := e
    subst e
    obtain ⟨cs, e, mm, h2⟩ := hB
    rw [h2] at hk
    injection hk with hk
    subst hk
    cases ho)).trans hk⟩

set_option maxHeartbeats 8000000 in
set_option maxRecDepth 100000 in
theorem then_any (b c n cb cc : Nat) (m k : Nat → Nat → Nat) (w : World) (h : RelM w b n m) (hk : RelM w c n k) (hn : n ≤ 256) (hin : ∀ p, p < n → ∀ q, q < 256 → hasB (m p) q = true → q < n) (hT : TabN w) (hTl : tabN < w.heap.size) :
    Calls Tryd.prog 51 #[.slice (some ⟨b, 0, none⟩) n cb, .slice (some ⟨c, 0, none⟩) n cc] w fun e w' => ∃ o, e = .returned (.slice (some ⟨o, 0, none⟩) n n) ∧ RelM w' o n (thenR m k) ∧ Below w.heap.size w w' ∧ w.heap.size ≤ o := by
  have H0 := Lib.hid (And.intro h (And.intro hk (And.intro hn (And.intro hin (And.intro hT hTl)))))
  have hmk := run_makeM n (by omega)
  clear h hk hin hT hTl
  refine (callsIn_wide (n := 9)).1 (callsIn_of_wp_marks Tryd.func51 rfl trivial ?_ rfl)
  refine wpIn_wide.2 ?_
  simp only [Tryd.ntmps51, List.size_toArray, List.length_cons, List.length_nil, Nat.reduceAdd, Nat.reduceSub, Array.replicate_succ, Array.replicate_zero, List.push_toArray, List.append_toArray, List.nil_append, List.cons_append]
  go_wp2_with fail
  obtain ⟨sb, hsb⟩ : ∃ sb, sb = w.heap.size := ⟨_, rfl⟩
  obtain ⟨W0, hW0⟩ : ∃ W0, ((w.alloc (.cells #[.slice (some ⟨c, 0, none⟩) n cc] 53)).alloc (.cells (madeCells #[.int .u64 0, .int .u64 0, .int .u64 0, .int .u64 0] (n * 4)) 56)).alloc (.cells #[.slice (some ⟨w.heap.size + 1, 0, none⟩) n n] 53) = W0 := ⟨_, rfl⟩
  have hB0 : Below w.heap.size w W0 := by rw [← hW0]; exact (((Below.refl _ _).alloc (Nat.le_refl _) _).alloc (by simp) _).alloc (by simp; omega) _
  have hz0 : W0.heap.size = sb + 3 := by rw [← hW0, hsb]; simp [World.size_alloc]
  have e0 : W0.heap[sb]? = some (.cells #[.slice (some ⟨c, 0, none⟩) n cc] 53 (0, 0)) := by
    rw [← hW0, hsb]
    exact (Below.heap_alloc _ _ _ (by simp; omega)).trans ((Below.heap_alloc _ _ _ (by simp)).trans (heap_alloc_new w _))
  have e1 : RelM W0 (sb + 1) n (fun _ _ => 0) := by
    have := zero_row n (w.alloc (.cells #[.slice (some ⟨c, 0, none⟩) n cc] 53))
    rw [World.size_alloc, ← hsb] at this
    rw [← hW0]
    exact this.keep (Below.heap_alloc _ _ _ this.size)
  have e2 : W0.heap[sb + 1 + 1]? = some (.cells #[.slice (some ⟨sb + 1, 0, none⟩) n n] 53 (0, 0)) := by
    rw [← hW0, hsb]
    have := heap_alloc_new ((w.alloc (.cells #[.slice (some ⟨c, 0, none⟩) n cc] 53)).alloc (.cells (madeCells #[.int .u64 0, .int .u64 0, .int .u64 0, .int .u64 0] (n * 4)) 56)) (.cells #[.slice (some ⟨w.heap.size + 1, 0, none⟩) n n] 53)
    rw [World.size_alloc, World.size_alloc] at this
    exact this
  rw [hW0, ← hsb]
  clear hW0
  have HB := Lib.hid (And.intro hB0 (And.intro hz0 (And.intro e0 (And.intro e1 (And.intro e2 hsb)))))
  clear hB0 hz0 e0 e1 e2 hsb hmk
  refine wp_loop_ghost (fun g a wr => ∃ i rs, ThFr b c n cb cc sb i rs a ∧ ThRel W0 (sb + 1) n m k i rs wr ∧ g = n - i) n ?start ?round
  case start =>
    refine ⟨0, [], ?_, ⟨HB.out.2.2.2.1.congr fun p i => by unfold prodR orL; simp, Chg.refl _ _, ⟨List.nodup_nil, by simp⟩, by omega⟩, by omega⟩
    unfold ThFr
    repeat apply Exists.intro
    rfl
  case round =>
    intro g a wr hI
    obtain ⟨i, rs, hfr, hrel, hg⟩ := hI
    unfold ThFr at hfr
    obtain ⟨x6, x7, x14, x15, x16, x17, x18, x19, x20, x21, x22, x23, x24, x25, x26, x27, x28, x29, rfl⟩ := hfr
    have HR := Lib.hid (And.intro hrel hg)
    have hi := hrel.2.2.2
    have hb : RelM wr b n m := (H0.out.1.keep (HB.out.1.block b H0.out.1.size)).keep (hrel.2.1.block b (by have := H0.out.1.size; have := HB.out.1.size; omega) (by have := H0.out.1.size; have := HB.out.2.2.2.2.2; omega))
    have x3 := (row_cells ((hrel.2.1.block sb (by have := HB.out.2.1; omega) (by omega)).trans HB.out.2.2.1)).1 0
    have x5 := (row_cells ((hrel.2.1.block (sb + 1 + 1) (by have := HB.out.2.1; omega) (by omega)).trans HB.out.2.2.2.2.1)).1 0
    simp at x3 x5
    have hl3 : sb + 1 + 1 < wr.heap.size := by have := HB.out.2.1; have := hrel.2.1.size; omega
    have HX := Lib.hid hb
    clear hrel hg hb
    by_cases h4 : i < n
    · have g1 : (i : Int) < n := by omega
      have i1 : 0 ≤ (i : Int) ∧ (i : Int) < n := by omega
      have i2 : ((i : Int)).toNat = i := by omega
      go_wp2_with fail
      go_at_call 59
      refine (places_any b (i * 4) _).mono ?_
      rintro e w3 ⟨rfl, rfl⟩
      obtain ⟨pb, hpb⟩ : ∃ pb, pb = wr.heap.size := ⟨_, rfl⟩
      obtain ⟨w4, hw4⟩ : ∃ w4, (wr.alloc (.cells #[.int .i64 (i : Nat)] 3)).alloc (.cells #[.pointer (some ⟨b, i * 4, none⟩)] 75) = w4 := ⟨_, rfl⟩
      have hb4 : Below wr.heap.size wr w4 := by rw [← hw4]; exact ((Below.refl _ _).alloc (Nat.le_refl _) _).alloc (by simp) _
      have hs4 : w4.heap.size = pb + 2 := by rw [← hw4, hpb]; simp
      have p4 : w4.heap[pb]? = some (.cells #[.int .i64 (i : Nat)] 3 (0, 0)) := by rw [← hw4, hpb]; exact (Below.heap_alloc _ _ _ (by simp)).trans (heap_alloc_new wr _)
      have q4 : w4.heap[pb + 1]? = some (.cells #[.pointer (some ⟨b, i * 4, none⟩)] 75 (0, 0)) := by
        rw [← hw4, hpb]
        have := heap_alloc_new (wr.alloc (.cells #[.int .i64 (i : Nat)] 3)) (.cells #[.pointer (some ⟨b, i * 4, none⟩)] 75)
        rw [World.size_alloc] at this
        exact this
      have hsb := HB.out.2.2.2.2.2
      have hz0 := HB.out.2.1
      have hcs := HR.out.1.2.1.size
      have hw0 : ∀ x, x < w.heap.size → w4.heap[x]? = w.heap[x]? := fun x hx => (hb4.block x (by omega)).trans ((HR.out.1.2.1.block x (by omega) (by omega)).trans (HB.out.1.block x hx))
      have rb4 : RelM w4 b n m := HX.out.keep (hb4.block b HX.out.size)
      have rc4 : RelM w4 c n k := H0.out.2.1.keep (hw0 c H0.out.2.1.size)
      have rm4 : RelM w4 (sb + 1) n (prodR m k i []) := HR.out.1.1.keep (hb4.block _ HR.out.1.1.size)
      have hT4 : TabN w4 := fun j hj => (World.cell?_of_block (w := w) (hw0 tabN H0.out.2.2.2.2.2)).trans (H0.out.2.2.2.2.1 j hj)
      have htl : tabN < w4.heap.size := by have := H0.out.2.2.2.2.2; omega
      have hbl : b < w4.heap.size := rb4.size
      have y3 : w4.heap[sb]? = some (.cells #[.slice (some ⟨c, 0, none⟩) n cc] 53 (0, 0)) := (hb4.block sb (by omega)).trans ((HR.out.1.2.1.block sb (by omega) (by omega)).trans HB.out.2.2.1)
      have y5 : w4.heap[sb + 1 + 1]? = some (.cells #[.slice (some ⟨sb + 1, 0, none⟩) n n] 53 (0, 0)) := (hb4.block _ (by omega)).trans ((HR.out.1.2.1.block _ (by omega) (by omega)).trans HB.out.2.2.2.2.1)
      have hit := places_iter 8 (pb + 1) b i n m w4 (by omega) ((row_cells q4).1 0) rb4 h4 hT4 htl
      have h0 : ThIn w4 (sb + 1) n m k i [] w4 := ⟨rm4, Chg.refl _ _⟩
      have H4 := Lib.hid (And.intro hb4 (And.intro hs4 (And.intro p4 (And.intro rb4 (And.intro rc4 (And.intro htl (And.intro y3 (And.intro y5 (And.intro hpb (And.intro hsb (And.intro hz0 (And.intro hcs hbl))))))))))))
      rw [World.size_alloc, hw4, ← hpb]
      clear hb4 hs4 p4 q4 rb4 rc4 rm4 hT4 htl hw4 hw0 x3 x5 hl3 y3 y5 hpb hsb hz0 hcs hbl
      go_wp2_with fail
      refine (wpIn_wide (n := 9)).1 ?_
      refine rangeD_law (n := 9) (gf := 62) (lb := #[.pointer (some ⟨pb + 1, 0, none⟩)]) rfl (enters_of Tryd.func62 (by kernel_rfl) rfl)
        hit kpS_t (fun W l o o2 hk _ _ => ⟨World.putObj_heap_other (by have := H4.out; omega), World.putObj_heap_other (by have := H4.out; omega), World.putObj_heap_other (by have := H4.out; omega)⟩) (fun _ => rfl)
        (ThIn w4 (sb + 1) n m k i) (fun _ _ => False) thIn_calm (fun _ _ _ _ h => h.elim) h0 ?round2 ?done2 ?stop2
      case stop2 => intro D pre x post W _ h _ _; exact h.elim
      case round2 =>
        clear h0 hit
        intro l pre q W hI hnext hl1 hl2
        have hq : q < 256 ∧ q < n := by
          obtain ⟨post, h⟩ := hnext
          have h1 := mem_bits4.1 (show q ∈ bits4 (m i) 4 by rw [h]; simp)
          exact ⟨by omega, H0.out.2.2.2.1 i h4 q (by omega) h1.2⟩
        have HI := Lib.hid (And.intro hI hq)
        clear hI hq hnext
        simp only [encN]
        gi_wp2
        refine ⟨KeepsOthers.refl _, ⟨rfl, rfl, rfl⟩, HI.out.1, ?_⟩
        intro v2 hc2 hI2
        obtain ⟨hb4, hs4, p4, rb4, rc4, htl, y3, y5, hpb, hsb, hz0, hcs, hbl⟩ := H4.out
        have z6 := (row_cells ((hI2.2.block pb (by omega) (by omega)).trans p4)).1 0
        have z3 := (row_cells ((hI2.2.block sb (by omega) (by omega)).trans y3)).1 0
        have z5 := (row_cells ((hI2.2.block (sb + 1 + 1) (by omega) (by omega)).trans y5)).1 0
        simp at z3 z5 z6
        have hcm : c ≠ sb + 1 := by have := H0.out.2.1.size; omega
        have rv1 : RelM v2.drew (sb + 1) n (prodR m k i pre) := hI2.1.keep rfl
        have rv2 : RelM v2.drew c n k := rc4.keep (hI2.2.block c rc4.size hcm)
        have HC := Lib.hid (rowAdd_any (sb + 1) n i c n q _ k v2.drew rv1 rv2 h4 HI.out.2.2 (fun e => hcm e.symm))
        have HV := Lib.hid (And.intro hc2 hI2)
        have hqn : (q : Int) < n := by have := HI.out.2.2; omega
        have hq0 : 0 ≤ (q : Int) ∧ (q : Int) < n := by omega
        clear hc2 hI2 hb4 hs4 p4 rb4 rc4 htl y3 y5 hpb hsb hz0 hcs hbl rv1 rv2 hcm
        gi_wp2
        refine regionIn_tail 6 (by kernel_rfl) (by kernel_rfl) (by rfl) (fun _ _ h => h) ?_
        simp only [List.take_succ_cons, List.take_zero, List.drop_succ_cons, List.drop_zero]
        repeat still_step
        try refine wpStill_nil ?_
        go_wp2_with fail
        go_at_call 58
        refine HC.out.mono ?_
        rintro e v5 ⟨rfl, hR5, hc5⟩
        have H5 := Lib.hid (And.intro hR5 hc5)
        clear hR5 hc5
        go_wp2_with fail
        obtain ⟨hb4, hs4, p4, rb4, rc4, htl, y3, y5, hpb, hsb, hz0, hcs, hbl⟩ := H4.out
        have hc25 : Chg (fun x => x = sb + 1) v2 v5 := (Chg.refl (fun x => x = sb + 1) v2).drew.trans H5.out.2 fun _ _ e => e
        have hv := HV.out.2.2.size
        have htw := H0.out.2.2.2.2.2
        have hbw := H0.out.1.size
        refine ⟨keepsO_chg hc25 (by obtain ⟨cs, mm, e⟩ := HV.out.2.1.ty; exact ⟨cs, _, mm, e⟩), ⟨hc25.block _ (by omega) (by omega), hc25.block _ (by omega) (by omega), hc25.block _ (by omega) (by omega)⟩, ?_, HV.out.2.2.trans hc25 fun _ _ e => e⟩
        exact H5.out.1.on (fun p' _ i' hi' => prodR_snoc m k i pre q p' i' hi') (prodR_lt H0.out.2.1.lt i (pre ++ [q]))
      case done2 =>
        clear h0 hit
        intro D W hI hD hK
        have HI := Lib.hid (And.intro hI (And.intro hD hK))
        clear hI hD hK
        go_wp2_with fail
        obtain ⟨hb4, hs4, p4, rb4, rc4, htl, y3, y5, hpb, hsb, hz0, hcs, hbl⟩ := H4.out
        obtain ⟨hI, hD, hK⟩ := HI.out
        have hg := HR.out.2
        refine ⟨n - (i + 1), by omega, i + 1, D :: rs, ?_, ⟨hI.1.congr fun p' i' => prodR_next m k i p' i', ?_, ⟨?_, ?_⟩, by omega⟩, rfl⟩
        · unfold ThFr
          repeat apply Exists.intro
          rfl
        · have h1 : Chg (fun x => x = sb + 1) W0 w4 := HR.out.1.2.1.trans (Chg.of_below (R := fun x => x = sb + 1) hb4) fun _ _ e => e
          exact h1.trans hI.2 fun _ _ e => e
        · refine List.nodup_cons.2 ⟨fun hm => ?_, HR.out.1.2.2.1.1⟩
          have := (Array.getElem?_eq_some_iff.1 (HR.out.1.2.2.1.2 D hm).2).1
          omega
        · intro r hr
          rcases List.mem_cons.1 hr with rfl | hr
          · exact ⟨by omega, hK⟩
          · obtain ⟨q1, q2⟩ := HR.out.1.2.2.1.2 r hr
            have q3 := (hb4.block r (Array.getElem?_eq_some_iff.1 q2).1).trans q2
            exact ⟨q1, (hI.2.block r (Array.getElem?_eq_some_iff.1 q3).1 (by omega)).trans q3⟩
    · have g1 : ¬ (i : Int) < n := by omega
      have HE := Lib.hid (show i = n by omega)
      go_wp2_with fail
      refine leavesS (B := W0.heap.size) (W0 := wr) (fun _ => results_tmp rfl _ _ _) rs wr HR.out.1.2.2.1 (Below.refl _ _) fun W' hW' _ => ?_
      have hin := HE.out
      subst hin
      have hz := HB.out.2.1
      have hr : RelM W' (sb + 1) i (prodR m k i []) := HR.out.1.1.keep (hW'.block _ (by omega))
      refine ⟨sb + 1, rfl, hr.on (fun p hp i' _ => by unfold prodR; rw [if_pos hp]) fun p i' => ?_, ?_, ?_⟩
      · unfold thenR orL
        split
        · exact foldl_or_lt k H0.out.2.1.lt i' _ 0 (by decide)
        · decide
      · have h1 := HR.out.1.2.1.size
        exact (HB.out.1.trans (HR.out.1.2.1.below (by have := HB.out.1.size; omega) fun x hx e => by have := HB.out.2.2.2.2.2; omega)).trans (hW'.mono (by have := HB.out.1.size; omega))
      · have := HB.out.2.2.2.2.2
        omega

end Go.Proofs.YtdjddmkmcdfmiaaDoor

/- Whether two relations are the same; a relation so many times: contracts.
   Conditions: relations of at most 256 rows whose places are theirs; the library's table lies in memory. -/
namespace Go.Proofs.YtdjddmkmcdfmiaaDoor
open Go.RowKit Go.Shelf

/-- The rows are the same as far as they go. -/
def sameM (m k : Nat → Nat → Nat) (n : Nat) : Bool := (List.range n).all fun p => decide (m p 0 = k p 0 ∧ m p 1 = k p 1 ∧ m p 2 = k p 2 ∧ m p 3 = k p 3)
theorem run_equalR (w : World) (a0 a1 a2 a3 b0 b1 b2 b3 : Int) :
    (Op.equalIn 10000 56 (.agg #[.int .u64 a0, .int .u64 a1, .int .u64 a2, .int .u64 a3]) (.agg #[.int .u64 b0, .int .u64 b1, .int .u64 b2, .int .u64 b3])).run Tryd.prog w = .ok (a0 == b0 && (a1 == b1 && (a2 == b2 && a3 == b3))) w := by
  obtain ⟨i0, hi, _, _, _⟩ := info_parts info23
  have q : ∀ (w' : World) (a b : Int), (Op.equalIn 9999 22 (.int .u64 a) (.int .u64 b)).run Tryd.prog w' = .ok (a == b) w' := fun w' a b => run_equalIn_int w' 9998 22 .u64 .u64 a b Tryd.underlying22
  rw [run_equalIn_array w 9999 _ _ Tryd.underlying56 hi, cells24, show List.range 4 = [0, 1, 2, 3] from rfl]
  simp only [Op.eqItems, Sem.run_bind]
  simp only [part, isAgg, run_underlying Tryd.underlying22, Sem.run_bind, Result.andThen_ok]
  simp
  simp only [q, Result.andThen_ok]
  cases (a0 == b0) <;> cases (a1 == b1) <;> cases (a2 == b2) <;> cases (a3 == b3) <;> rfl
theorem row_eq (a0 a1 a2 a3 b0 b1 b2 b3 : Nat) : ((a0 : Int) == b0 && ((a1 : Int) == b1 && ((a2 : Int) == b2 && (a3 : Int) == b3))) = decide (a0 = b0 ∧ a1 = b1 ∧ a2 = b2 ∧ a3 = b3) := by
  rw [Bool.eq_iff_iff]
  simp only [Bool.and_eq_true, beq_iff_eq, decide_eq_true_eq]
  omega
theorem same_succ (m k : Nat → Nat → Nat) (i : Nat) : sameM m k (i + 1) = (sameM m k i && decide (m i 0 = k i 0 ∧ m i 1 = k i 1 ∧ m i 2 = k i 2 ∧ m i 3 = k i 3)) := by
  unfold sameM
  rw [List.range_succ, List.all_append]
  simp
theorem same_le (m k : Nat → Nat → Nat) {i n : Nat} (h : i ≤ n) (hs : sameM m k i = false) : sameM m k n = false := by
  unfold sameM at hs ⊢
  rw [List.all_eq_false] at hs ⊢
  obtain ⟨x, hx, h2⟩ := hs
  exact ⟨x, by rw [List.mem_range] at hx ⊢; omega, h2⟩
set_option maxHeartbeats 4000000 in
set_option maxRecDepth 100000 in
theorem equal_any (b c n cb cc : Nat) (m k : Nat → Nat → Nat) (w : World) (h : RelM w b n m) (hk : RelM w c n k) (hn : n ≤ 256) :
    Calls Tryd.prog 61 #[.slice (some ⟨b, 0, none⟩) n cb, .slice (some ⟨c, 0, none⟩) n cc] w fun e w' => e = .returned (.bool (sameM m k n)) ∧ Chg (fun _ => False) w w' := by
  have H0 := Lib.hid (And.intro h hk)
  clear h hk
  go_enter Tryd.func61, Tryd.ntmps61
  go_wp2_with fail
  go_loopw [13] (fun v wr => ∃ i : Nat, v = .int .i64 i ∧ i ≤ n ∧ sameM m k i = true ∧ Chg (fun _ => False) w wr) (fun v _ => match v with | .int _ i => n - i.toNat | _ => 0)
  case atStart => exact ⟨0, rfl, by omega, rfl, Chg.refl _ _⟩
  case round =>
    obtain ⟨i, rfl, hi, hs, hc⟩ := hrel
    have HI := Lib.hid (And.intro hs hc)
    by_cases h4 : i < n
    · have g1 : (i : Int) < n := by omega
      have i1 : 0 ≤ (i : Int) ∧ (i : Int) < n := by omega
      have i2 : ((i : Int)).toNat = i := by omega
      have hb : RelM wr b n m := H0.out.1.keep (hc.block b H0.out.1.size id)
      have hcc : RelM wr c n k := H0.out.2.keep (hc.block c H0.out.2.size id)
      have x0 := hb.cell h4 (show 0 < 4 by omega)
      have x1 := hb.cell h4 (show 1 < 4 by omega)
      have x2 := hb.cell h4 (show 2 < 4 by omega)
      have x3 := hb.cell h4 (show 3 < 4 by omega)
      have y0 := hcc.cell h4 (show 0 < 4 by omega)
      have y1 := hcc.cell h4 (show 1 < 4 by omega)
      have y2 := hcc.cell h4 (show 2 < 4 by omega)
      have y3 := hcc.cell h4 (show 3 < 4 by omega)
      simp only [Nat.add_zero] at x0 y0
      clear hb hcc hs hc
      have HQ : ∀ W : World, (Op.equalIn 10000 56 (.agg #[.int .u64 (m i 0 : Nat), .int .u64 (m i 1 : Nat), .int .u64 (m i 2 : Nat), .int .u64 (m i 3 : Nat)]) (.agg #[.int .u64 (k i 0 : Nat), .int .u64 (k i 1 : Nat), .int .u64 (k i 2 : Nat), .int .u64 (k i 3 : Nat)])).run Tryd.prog W = .ok (decide (m i 0 = k i 0 ∧ m i 1 = k i 1 ∧ m i 2 = k i 2 ∧ m i 3 = k i 3)) W := fun W => by rw [run_equalR, row_eq]
      cases he : decide (m i 0 = k i 0 ∧ m i 1 = k i 1 ∧ m i 2 = k i 2 ∧ m i 3 = k i 3) with
      | true =>
        rw [he] at HQ
        have HE := Lib.hid he
        clear he
        go_wp2_with fail
        go_region_law (fail)
        all_goals
          go_wp2_with fail
          go_roundw
          · exact ⟨i + 1, by simp, by omega, by rw [same_succ, HI.out.1, HE.out]; rfl, HI.out.2.drew⟩
          · show n - ((i : Int) + 1).toNat < n - ((i : Int)).toNat
            omega
      | false =>
        rw [he] at HQ
        have HE := Lib.hid he
        clear he
        go_wp2_with fail
        go_region_law (fail)
        all_goals
          go_wp2_with fail
          go_ret
          refine ⟨?_, HI.out.2.drew⟩
          rw [same_le m k (show i + 1 ≤ n by omega) (by rw [same_succ, HE.out, Bool.and_false])]
          rfl
    · have g1 : ¬ (i : Int) < n := by omega
      have HE := Lib.hid (show i = n by omega)
      clear hs hc
      go_wp2_with fail
      go_ret
      have hin := HE.out
      subst hin
      rw [HI.out.1]
      exact ⟨rfl, HI.out.2⟩

theorem same_has {m k : Nat → Nat → Nat} {n : Nat} (h : sameM m k n = true) {p q : Nat} (hp : p < n) (hq : q < 256) : hasB (m p) q = hasB (k p) q := by
  unfold sameM at h
  have := of_decide_eq_true (List.all_eq_true.1 h p (List.mem_range.2 hp))
  have h4 : m p (q / 64) = k p (q / 64) := by
    have : q / 64 = 0 ∨ q / 64 = 1 ∨ q / 64 = 2 ∨ q / 64 = 3 := by omega
    rcases this with e | e | e | e <;> rw [e] <;> omega
  unfold hasB
  rw [h4]
/-- In a block lies what a language reaches in a word. -/
structure RR (wd : List Nat) (w : World) (b : Nat) (L : List Nat → Prop) : Prop where
  ex : ∃ m, RelM w b (wd.length + 1) m ∧ RpW wd m L
theorem RR.size {wd : List Nat} {w : World} {b : Nat} {L : List Nat → Prop} (h : RR wd w b L) : b < w.heap.size := by
  obtain ⟨m, h, _⟩ := h.ex
  exact h.size
theorem RR.keep {wd : List Nat} {w w' : World} {b : Nat} {L : List Nat → Prop} (h : RR wd w b L) (hw : w'.heap[b]? = w.heap[b]?) : RR wd w' b L := by
  obtain ⟨m, h, h2⟩ := h.ex
  exact ⟨m, h.keep hw, h2⟩
theorem RR.below {wd : List Nat} {w w' : World} {b : Nat} {L : List Nat → Prop} (h : RR wd w b L) (hb : Below w.heap.size w w') : RR wd w' b L := h.keep (hb.block b h.size)
theorem RR.lang {wd : List Nat} {w : World} {b : Nat} {L M : List Nat → Prop} (h : RR wd w b L) (e : ∀ p q, p ≤ wd.length → (RchW wd L p q ↔ RchW wd M p q)) : RR wd w b M := by
  obtain ⟨m, h, h2⟩ := h.ex
  exact ⟨m, h, rpW_iff h2 e⟩
abbrev TabS (B : Nat) (w : World) : Prop := TabN w ∧ tabN < B ∧ B ≤ w.heap.size
theorem TabS.below {B : Nat} {w w' : World} (h : TabS B w) (hb : Below B w w') : TabS B w' := ⟨fun j hj => (World.cell?_of_block (w := w) (hb.block tabN h.2.1)).trans (h.1 j hj), h.2.1, Nat.le_trans h.2.2 hb.size⟩
theorem then_RR (wd : List Nat) (b c cb cc B : Nat) (L M : List Nat → Prop) (w : World) (h : RR wd w b L) (hk : RR wd w c M) (hn : wd.length ≤ 250) (hT : TabS B w) :
    Calls Tryd.prog 51 #[.slice (some ⟨b, 0, none⟩) (wd.length + 1) cb, .slice (some ⟨c, 0, none⟩) (wd.length + 1) cc] w fun e w' => ∃ o, e = .returned (.slice (some ⟨o, 0, none⟩) (wd.length + 1) (wd.length + 1)) ∧ RR wd w' o (CatL L M) ∧ Below w.heap.size w w' ∧ w.heap.size ≤ o := by
  obtain ⟨m, h1, h2⟩ := h.ex
  obtain ⟨k, h3, h4⟩ := hk.ex
  refine (then_any b c (wd.length + 1) cb cc m k w h1 h3 (by omega) (fun p hp q hq hh => by have := ((h2 p (by omega) q hq).1 hh).2.1; omega) hT.1 (by have := hT.2; omega)).mono ?_
  rintro e w' ⟨o, rfl, h5, h6, h7⟩
  exact ⟨o, rfl, ⟨_, h5, rpW_cat (by omega) h2 h4 fun p hp q hq => has_thenR m k p q hq⟩, h6, h7⟩
theorem staying_RR (wd : List Nat) (w : World) (hn : wd.length ≤ 250) :
    Calls Tryd.prog 47 #[.int .i64 ((wd.length + 1 : Nat) : Int)] w fun e w' => ∃ o, e = .returned (.slice (some ⟨o, 0, none⟩) (wd.length + 1) (wd.length + 1)) ∧ RR wd w' o (fun v => v = []) ∧ Below w.heap.size w w' ∧ w.heap.size ≤ o := by
  refine (staying_any (wd.length + 1) w (by omega)).mono ?_
  rintro e w' ⟨rfl, h1, h2⟩
  refine ⟨_, rfl, ⟨_, h1, rpW_eps fun p hp q hq => ?_⟩, h2, Nat.le_refl _⟩
  rw [hasB_putR]
  unfold hasB zeros
  simp
theorem and_i64_1 (q : Nat) (hq : q < 18446744073709551616 / 2) : bits .and .i64 (q : Int) 1 = ((q % 2 : Nat) : Int) := by
  have h1 : (BitVec.ofInt 64 (q : Int)).toNat = q := by
    rw [BitVec.ofInt_natCast, BitVec.toNat_ofNat]; exact Nat.mod_eq_of_lt (by omega)
  have h2 : (BitVec.ofInt 64 (1 : Int)).toNat = 1 := by rfl
  show IntKind.i64.wrap ((BitVec.ofInt 64 (q : Int) &&& BitVec.ofInt 64 (1 : Int)).toNat : Int) = _
  rw [BitVec.toNat_and, h1, h2, show q &&& 1 = q % 2 from Nat.and_two_pow_sub_one_eq_mod q 1]
  simp [IntKind.wrap, IntKind.bits, IntKind.signed]
  omega
theorem RR.early {wd : List Nat} {W W' : World} {r d x : Nat} {L : List Nat → Prop} {a k y n : Nat} {mr md : Nat → Nat → Nat} (hw : wd.length ≤ 250) (h : RelM W r (wd.length + 1) mr ∧ RpW wd mr (PowL L k)) (hd : RelM W d (wd.length + 1) md ∧ RpW wd md (CatL (PowL L k) (PowL L k)))
    (e : sameM md mr (wd.length + 1) = true) (hx : RR wd W' x (CatL (PowL L a) (PowL L k))) (hy : 1 ≤ y) (hn : a + k * y = n) : RR wd W' x (PowL L n) := by
  obtain ⟨mx, h1, h2⟩ := hx.ex
  obtain ⟨z, rfl⟩ : ∃ z, y = z + 1 := ⟨y - 1, by omega⟩
  rw [← hn]
  exact ⟨mx, h1, rpW_early h.2 hd.2 (fun p hp q hq => same_has e (by omega) hq) (by omega) h2⟩
theorem RR.cat_pow {wd : List Nat} {W : World} {x : Nat} {L : List Nat → Prop} {a k n : Nat} (h : RR wd W x (CatL (PowL L a) (PowL L k))) (hn : a + k = n) : RR wd W x (PowL L n) := by
  rw [← hn]
  exact h.lang fun p q _ => by unfold RchW; rw [powL_cat]

set_option maxHeartbeats 8000000 in
set_option maxRecDepth 100000 in
theorem timesS_any (wd : List Nat) (b cb N B : Nat) (L : List Nat → Prop) (w : World) (h : RR wd w b L) (hn : wd.length ≤ 250) (hN : N ≤ 1000000000000) (hT : TabS B w) :
    Calls Tryd.prog 57 #[.slice (some ⟨b, 0, none⟩) (wd.length + 1) cb, .int .i64 (N : Nat)] w fun e w' => ∃ o, e = .returned (.slice (some ⟨o, 0, none⟩) (wd.length + 1) (wd.length + 1)) ∧ RR wd w' o (PowL L N) ∧ Below w.heap.size w w' ∧ w.heap.size ≤ o := by
  have H0 := Lib.hid (And.intro h (And.intro hT hn))
  have HS := Lib.hid (staying_RR wd w hn)
  have HTH := Lib.hid (fun (b c cb cc : Nat) (L M : List Nat → Prop) (W : World) (hW : Below w.heap.size w W) (h : RR wd W b L) (hk : RR wd W c M) => then_RR wd b c cb cc B L M W h hk hn (hT.below (hW.mono hT.2.2)))
  have HEQ := Lib.hid (fun (b c cb cc : Nat) (m k : Nat → Nat → Nat) (W : World) (h : RelM W b (wd.length + 1) m) (hk : RelM W c (wd.length + 1) k) => equal_any b c (wd.length + 1) cb cc m k W h hk (by omega))
  obtain ⟨n, hnn⟩ : ∃ n, n = wd.length + 1 := ⟨_, rfl⟩
  rw [← hnn] at HS HTH HEQ ⊢
  have HN := Lib.hid hnn
  clear h hT hnn
  go_enter Tryd.func57, Tryd.ntmps57
  go_wp2_with fail
  go_at_call 47
  refine HS.out.mono ?_
  rintro e w2 ⟨o2, rfl, hR2, hb2, ho2⟩
  have H2 := Lib.hid (And.intro hR2 (And.intro hb2 ho2))
  clear hR2 hb2 ho2
  by_cases hN0 : N = 0
  · subst hN0
    go_wp2_with fail
    go_ret
    exact ⟨_, rfl, H2.out.1, H2.out.2.1, H2.out.2.2⟩
  · have g0 : ((N : Int) == 0) = false := by simp; omega
    have HNN := Lib.hid (And.intro hN0 hN)
    clear hN0
    go_wp2_with fail
    go_loopw [0, 1, 5] (fun v0 v1 v5 wr => ∃ (rb rc ob x a k : Nat), v0 = .slice (some ⟨rb, 0, none⟩) n rc ∧ v1 = .int .i64 (x : Nat) ∧ v5 = .slice (some ⟨ob, 0, none⟩) n n ∧ 1 ≤ x ∧ x ≤ 1000000000000 ∧ a + k * x = N ∧ RR wd wr rb (PowL L k) ∧ RR wd wr ob (PowL L a) ∧ Below w.heap.size w wr) (fun _ v1 _ _ => match v1 with | .int _ i => i.toNat | _ => 0)
    case atStart => exact ⟨b, cb, o2, N, 0, 1, rfl, rfl, rfl, by have := HNN.out.1; omega, HNN.out.2, by omega, (H0.out.1.below H2.out.2.1).lang fun p q _ => by unfold RchW; rw [pow_once], H2.out.1, H2.out.2.1⟩
    case round =>
      clear g0 hN
      obtain ⟨rb, rc, ob, x, a, k, rfl, rfl, rfl, hx1, hx2, hak, hr, ho, hbw⟩ := hrel
      have HX := Lib.hid (And.intro hr (And.intro (And.intro ho (And.intro hbw hak)) H0.out.2.2))
      clear hr ho hbw hak
      by_cases hx : x = 1
      · subst hx
        have g1 : ¬ (1 : Int) < ((1 : Nat) : Int) := by omega
        go_wp2_with fail
        go_at_call 51
        refine (HTH.out ob rb n rc _ _ _ HX.out.2.1.2.1 HX.out.2.1.1 HX.out.1).mono ?_
        rintro e w9 ⟨o9, rfl, hR9, hb9, ho9⟩
        have H9 := Lib.hid (And.intro hR9 (And.intro hb9 ho9))
        clear hR9 hb9 ho9
        go_wp2_with fail
        go_ret
        exact ⟨_, rfl, H9.out.1.cat_pow (by have := HX.out.2.1.2.2; omega), bhop HX.out.2.1.2.1 H9.out.2.1, by have := HX.out.2.1.2.1.size; have := H9.out.2.2; omega⟩
      · have g1 : (1 : Int) < (x : Int) := by omega
        have ha := and_i64_1 x (by omega)
        by_cases hodd : x % 2 = 1
        · have g2 : (((x % 2 : Nat) : Int) == 1) = true := by simp; omega
          have HO := Lib.hid (And.intro hodd (And.intro hx1 (And.intro hx2 hx)))
          clear hodd
          go_wp2_with fail
          go_at_call 51
          refine (HTH.out ob rb n rc _ _ _ HX.out.2.1.2.1 HX.out.2.1.1 HX.out.1).mono ?_
          rintro e w3 ⟨o3, rfl, hR3, hb3, ho3⟩
          obtain ⟨a', ha'⟩ : ∃ a', a' = a + k := ⟨_, rfl⟩
          obtain ⟨y, hy⟩ : ∃ y, y = 2 * (x / 2) := ⟨_, rfl⟩
          have HM := Lib.hid (show RR wd w3 rb (PowL L k) ∧ RR wd w3 o3 (PowL L a') ∧ Below w.heap.size w w3 ∧ (1 ≤ y ∧ y = 2 * (x / 2)) ∧ a' + k * y = N from ⟨HX.out.1.below hb3, hR3.cat_pow ha'.symm, bhop HX.out.2.1.2.1 hb3, ⟨by have := HO.out; omega, hy⟩, by
            have h1 := HX.out.2.1.2.2
            rw [show x = y + 1 by have := HO.out; omega, Nat.mul_succ] at h1
            omega⟩)
          clear hR3 hb3 ho3 ha' hy
          go_wp2_with fail
          go_at_call 51
          refine (HTH.out rb rb rc rc _ _ _ HM.out.2.2.1 HM.out.1 HM.out.1).mono ?_
          rintro e w4 ⟨o4, rfl, hR4, hb4, ho4⟩
          obtain ⟨md, hd1, hd2⟩ := hR4.ex
          obtain ⟨mr, hr1, hr2⟩ := (HM.out.1.below hb4).ex
          have hM4 : RR wd w4 o3 (PowL L a') := HM.out.2.1.below hb4
          have hB4 := bhop HM.out.2.2.1 hb4
          have H4 := Lib.hid (And.intro hd1 (And.intro hd2 (And.intro hr1 (And.intro hr2 (And.intro hM4 (And.intro hB4 ho4))))))
          clear hR4 hb4 ho4 hd1 hd2 hr1 hr2 hM4 hB4
          go_wp2_with fail
          go_at_call 61
          refine (HEQ.out o4 rb n rc md mr w4 (HN.out ▸ H4.out.1) (HN.out ▸ H4.out.2.2.1)).mono ?_
          rintro e w5 ⟨rfl, hc5⟩
          have hb5 : Below w4.heap.size w4 w5 := hc5.below (Nat.le_refl _) fun _ _ h => h
          have H5 := Lib.hid hb5
          clear hc5 hb5
          cases hsm : sameM md mr n with
          | true =>
            have HSM := Lib.hid hsm
            clear hsm
            go_wp2_with fail
            go_at_call 51
            refine (HTH.out o3 rb n rc _ _ _ (bhop H4.out.2.2.2.2.2.1 H5.out) (H4.out.2.2.2.2.1.below H5.out) ((⟨⟨mr, H4.out.2.2.1, H4.out.2.2.2.1⟩⟩ : RR wd w4 rb (PowL L k)).below H5.out)).mono ?_
            rintro e w9 ⟨o9, rfl, hR9, hb9, ho9⟩
            have H9 := Lib.hid (And.intro hR9 (And.intro hb9 ho9))
            clear hR9 hb9 ho9
            go_wp2_with fail
            go_ret
            refine ⟨_, rfl, RR.early HX.out.2.2 ⟨H4.out.2.2.1, H4.out.2.2.2.1⟩ ⟨H4.out.1, H4.out.2.1⟩ (by rw [← HN.out]; exact HSM.out) H9.out.1 (k := k) (a := a') (y := y) ?_ ?_, bhop (bhop H4.out.2.2.2.2.2.1 H5.out) H9.out.2.1, ?_⟩
            · have := HM.out; omega
            · exact HM.out.2.2.2.2
            · have := (bhop H4.out.2.2.2.2.2.1 H5.out).size; have := H9.out.2.2; omega
          | false =>
            clear hsm
            go_wp2_with fail
            go_roundw
            case rel =>
              refine ⟨o4, n, o3, x / 2, a', k + k, rfl, rfl, rfl, by omega, by omega, ?_, ?_, H4.out.2.2.2.2.1.below H5.out, bhop H4.out.2.2.2.2.2.1 H5.out⟩
              · have h1 := HM.out.2.2.2.2
                have h2 : y = 2 * (x / 2) := HM.out.2.2.2.1.2
                rw [h2] at h1
                rw [← h1]
                rw [← Nat.mul_assoc, Nat.mul_two]
              · exact ((⟨⟨md, H4.out.1, H4.out.2.1⟩⟩ : RR wd w4 o4 _).below H5.out).cat_pow rfl
            case measure =>
              show ((x / 2 : Nat) : Int).toNat < ((x : Nat) : Int).toNat
              omega
        · have g2 : (((x % 2 : Nat) : Int) == 1) = false := by simp; omega
          have HO := Lib.hid (And.intro hodd (And.intro hx1 (And.intro hx2 hx)))
          obtain ⟨a', ha'⟩ : ∃ a', a' = a := ⟨_, rfl⟩
          obtain ⟨y, hy⟩ : ∃ y, y = 2 * (x / 2) := ⟨_, rfl⟩
          have HM := Lib.hid (show RR wd wr rb (PowL L k) ∧ RR wd wr ob (PowL L a') ∧ Below w.heap.size w wr ∧ (1 ≤ y ∧ y = 2 * (x / 2)) ∧ a' + k * y = N from ⟨HX.out.1, ha' ▸ HX.out.2.1.1, HX.out.2.1.2.1, ⟨by have := HO.out; omega, hy⟩, by
            have h1 := HX.out.2.1.2.2
            rw [show x = y by have := HO.out; omega, ← ha'] at h1
            exact h1⟩)
          clear hodd ha' hy
          go_wp2_with fail
          go_at_call 51
          refine (HTH.out rb rb rc rc _ _ _ HM.out.2.2.1 HM.out.1 HM.out.1).mono ?_
          rintro e w4 ⟨o4, rfl, hR4, hb4, ho4⟩
          obtain ⟨md, hd1, hd2⟩ := hR4.ex
          obtain ⟨mr, hr1, hr2⟩ := (HM.out.1.below hb4).ex
          have hM4 : RR wd w4 ob (PowL L a') := HM.out.2.1.below hb4
          have hB4 := bhop HM.out.2.2.1 hb4
          have H4 := Lib.hid (And.intro hd1 (And.intro hd2 (And.intro hr1 (And.intro hr2 (And.intro hM4 (And.intro hB4 ho4))))))
          clear hR4 hb4 ho4 hd1 hd2 hr1 hr2 hM4 hB4
          go_wp2_with fail
          go_at_call 61
          refine (HEQ.out o4 rb n rc md mr w4 (HN.out ▸ H4.out.1) (HN.out ▸ H4.out.2.2.1)).mono ?_
          rintro e w5 ⟨rfl, hc5⟩
          have hb5 : Below w4.heap.size w4 w5 := hc5.below (Nat.le_refl _) fun _ _ h => h
          have H5 := Lib.hid hb5
          clear hc5 hb5
          cases hsm : sameM md mr n with
          | true =>
            have HSM := Lib.hid hsm
            clear hsm
            go_wp2_with fail
            go_at_call 51
            refine (HTH.out ob rb n rc _ _ _ (bhop H4.out.2.2.2.2.2.1 H5.out) (H4.out.2.2.2.2.1.below H5.out) ((⟨⟨mr, H4.out.2.2.1, H4.out.2.2.2.1⟩⟩ : RR wd w4 rb (PowL L k)).below H5.out)).mono ?_
            rintro e w9 ⟨o9, rfl, hR9, hb9, ho9⟩
            have H9 := Lib.hid (And.intro hR9 (And.intro hb9 ho9))
            clear hR9 hb9 ho9
            go_wp2_with fail
            go_ret
            refine ⟨_, rfl, RR.early HX.out.2.2 ⟨H4.out.2.2.1, H4.out.2.2.2.1⟩ ⟨H4.out.1, H4.out.2.1⟩ (by rw [← HN.out]; exact HSM.out) H9.out.1 (k := k) (a := a') (y := y) ?_ ?_, bhop (bhop H4.out.2.2.2.2.2.1 H5.out) H9.out.2.1, ?_⟩
            · have := HM.out; omega
            · exact HM.out.2.2.2.2
            · have := (bhop H4.out.2.2.2.2.2.1 H5.out).size; have := H9.out.2.2; omega
          | false =>
            clear hsm
            go_wp2_with fail
            go_roundw
            case rel =>
              refine ⟨o4, n, ob, x / 2, a', k + k, rfl, rfl, rfl, by omega, by omega, ?_, ?_, H4.out.2.2.2.2.1.below H5.out, bhop H4.out.2.2.2.2.2.1 H5.out⟩
              · have h1 := HM.out.2.2.2.2
                have h2 : y = 2 * (x / 2) := HM.out.2.2.2.1.2
                rw [h2] at h1
                rw [← h1]
                rw [← Nat.mul_assoc, Nat.mul_two]
              · exact ((⟨⟨md, H4.out.1, H4.out.2.1⟩⟩ : RR wd w4 o4 _).below H5.out).cat_pow rfl
            case measure =>
              show ((x / 2 : Nat) : Int).toNat < ((x : Nat) : Int).toNat
              omega

/-- So many times, as a repeated node says. -/
def RepL (L : List Nat → Prop) (lo hi : Int) (v : List Nat) : Prop := ∃ n : Nat, lo ≤ (n : Int) ∧ (hi < 0 ∨ (n : Int) ≤ hi) ∧ PowL L n v
theorem or_RR {wd : List Nat} {W : World} {b : Nat} {L M : List Nat → Prop} {m k : Nat → Nat → Nat} (h : RpW wd m L) (g : RpW wd k M) (hx : RelM W b (wd.length + 1) (orM m k (wd.length + 1))) : RR wd W b (fun v => L v ∨ M v) :=
  ⟨⟨_, hx, rpW_or h g fun p hp i hi => by unfold orM; rw [if_pos ⟨by omega, hi⟩]⟩⟩
set_option maxHeartbeats 8000000 in
set_option maxRecDepth 100000 in
theorem repeated_any (wd : List Nat) (b cb lo B : Nat) (hi : Int) (L : List Nat → Prop) (w : World) (h : RR wd w b L) (hn : wd.length ≤ 250) (hlo : lo ≤ 1000000000000) (hhi : hi = -1 ∨ ((lo : Int) ≤ hi ∧ hi ≤ 1000000000000)) (hT : TabS B w) :
    Calls Tryd.prog 49 #[.slice (some ⟨b, 0, none⟩) (wd.length + 1) cb, .int .i64 (lo : Nat), .int .i64 hi] w fun e w' => ∃ o, e = .returned (.slice (some ⟨o, 0, none⟩) (wd.length + 1) (wd.length + 1)) ∧ RR wd w' o (RepL L lo hi) ∧ Below w.heap.size w w' ∧ w.heap.size ≤ o := by
  obtain ⟨more, hm0, hm1⟩ : ∃ more : Nat, (hi = -1 → more = wd.length) ∧ (hi ≠ -1 → (more : Int) = hi - lo) := by
    by_cases e : hi = -1
    · exact ⟨wd.length, fun _ => rfl, fun h => absurd e h⟩
    · exact ⟨(hi - lo).toNat, fun h => absurd h e, fun _ => by omega⟩
  have hmb : more ≤ 1000000000000 := by
    by_cases e : hi = -1
    · have := hm0 e; omega
    · have := hm1 e; omega
  have H0 := Lib.hid (And.intro h (And.intro hT (And.intro hn (And.intro hlo (And.intro hhi (And.intro hm0 (And.intro hm1 hmb)))))))
  have HS := Lib.hid (fun (W : World) => staying_RR wd W hn)
  have HTH := Lib.hid (fun (b c cb cc : Nat) (L M : List Nat → Prop) (W : World) (hW : Below w.heap.size w W) (h : RR wd W b L) (hk : RR wd W c M) => then_RR wd b c cb cc B L M W h hk hn (hT.below (hW.mono hT.2.2)))
  have HTI := Lib.hid (fun (b cb N : Nat) (L : List Nat → Prop) (W : World) (hW : Below w.heap.size w W) (h : RR wd W b L) (hN : N ≤ 1000000000000) => timesS_any wd b cb N B L W h hn hN (hT.below (hW.mono hT.2.2)))
  have HAD := Lib.hid (fun (b c cb cc : Nat) (m k : Nat → Nat → Nat) (W : World) (h : RelM W b (wd.length + 1) m) (hk : RelM W c (wd.length + 1) k) (hbc : b ≠ c) => relAdd_any b c (wd.length + 1) cb cc m k W h hk (by omega) hbc)
  obtain ⟨n, hnn⟩ : ∃ n, n = wd.length + 1 := ⟨_, rfl⟩
  rw [← hnn] at HS HTH HTI HAD ⊢
  have HN := Lib.hid hnn
  have hw1 : IntKind.i64.wrap ((n : Int) - 1) = ((wd.length : Nat) : Int) := by rw [IntKind.wrap_i64]; omega
  clear h hT hnn
  go_enter Tryd.func49, Tryd.ntmps49
  by_cases e : hi = -1
  · have g1 : (hi != -1) = false := by simp [e]
    have HE := Lib.hid e
    clear e hhi hm0 hm1 hlo hmb
    go_wp2_with fail
    go_at_call 47
    refine (HS.out _).mono ?_
    rintro e w2 ⟨o2, rfl, hR2, hb2, ho2⟩
    obtain ⟨m2, ha1, ha2⟩ := hR2.ex
    obtain ⟨m1, hc1, hc2⟩ := (H0.out.1.below hb2).ex
    have hne : o2 ≠ b := by have := H0.out.1.size; omega
    have H2 := Lib.hid (And.intro ha1 (And.intro ha2 (And.intro hc1 (And.intro hc2 (And.intro hne (And.intro hb2 ho2))))))
    clear hR2 hb2 ho2 ha1 ha2 hc1 hc2 hne
    go_wp2_with fail
    go_at_call 50
    refine (HAD.out o2 b n cb m2 m1 w2 (HN.out ▸ H2.out.1) (HN.out ▸ H2.out.2.2.1) H2.out.2.2.2.2.1).mono ?_
    rintro e w3 ⟨rfl, hR3, hc3⟩
    rw [HN.out] at hR3
    have hP3 : RR wd w3 o2 (OrE L) := or_RR H2.out.2.1 H2.out.2.2.2.1 hR3
    have hB3 : Below w.heap.size w w3 := H2.out.2.2.2.2.2.1.trans (hc3.below (by have := H2.out.2.2.2.2.2.1.size; omega) fun k hk e => by have := H2.out.2.2.2.2.2.2; omega)
    have hL3 : RR wd w3 b L := H0.out.1.keep (hB3.block b H0.out.1.size)
    have H3 := Lib.hid (And.intro hP3 (And.intro hB3 hL3))
    clear hR3 hc3 hP3 hB3 hL3
    go_wp2_with fail
    go_at_call 57
    refine (HTI.out b cb lo L w3 H3.out.2.1 H3.out.2.2 H0.out.2.2.2.1).mono ?_
    rintro e w4 ⟨o4, rfl, hR4, hb4, ho4⟩
    have H4 := Lib.hid (And.intro hR4 (And.intro (bhop H3.out.2.1 hb4) (And.intro ho4 (H3.out.1.below hb4))))
    clear hR4 hb4 ho4
    go_wp2_with fail
    go_at_call 57
    refine (HTI.out o2 n wd.length (OrE L) w4 H4.out.2.1 H4.out.2.2.2 (by have := H0.out.2.2.2.2.2.2.2; have := H0.out.2.2.1; omega)).mono ?_
    rintro e w5 ⟨o5, rfl, hR5, hb5, ho5⟩
    have H5 := Lib.hid (And.intro hR5 (And.intro (bhop H4.out.2.1 hb5) (And.intro ho5 (H4.out.1.below hb5))))
    clear hR5 hb5 ho5
    go_wp2_with fail
    go_at_call 51
    refine (HTH.out o4 o5 n n _ _ _ H5.out.2.1 H5.out.2.2.2 H5.out.1).mono ?_
    rintro e w6 ⟨o6, rfl, hR6, hb6, ho6⟩
    have H6 := Lib.hid (And.intro hR6 (And.intro (bhop H5.out.2.1 hb6) ho6))
    clear hR6 hb6 ho6
    go_wp2_with fail
    go_ret
    refine ⟨o6, rfl, H6.out.1.lang fun p q _ => ?_, H6.out.2.1, by have := H5.out.2.1.size; have := H6.out.2.2; omega⟩
    exact rch_rep (lo := lo) (hi := hi) (more := wd.length) (fun _ => rfl) (fun h => absurd HE.out h) (H0.out.2.2.2.2.1.imp id fun h => h.1) p q
  · have g1 : (hi != -1) = true := by simp [e]
    have hw2 : IntKind.i64.wrap (hi - (lo : Int)) = (more : Int) := by rw [IntKind.wrap_i64]; have := hm1 e; omega
    clear e hhi hm0 hm1 hlo hmb
    go_wp2_with fail
    go_at_call 47
    refine (HS.out _).mono ?_
    rintro e w2 ⟨o2, rfl, hR2, hb2, ho2⟩
    obtain ⟨m2, ha1, ha2⟩ := hR2.ex
    obtain ⟨m1, hc1, hc2⟩ := (H0.out.1.below hb2).ex
    have hne : o2 ≠ b := by have := H0.out.1.size; omega
    have H2 := Lib.hid (And.intro ha1 (And.intro ha2 (And.intro hc1 (And.intro hc2 (And.intro hne (And.intro hb2 ho2))))))
    clear hR2 hb2 ho2 ha1 ha2 hc1 hc2 hne
    go_wp2_with fail
    go_at_call 50
    refine (HAD.out o2 b n cb m2 m1 w2 (HN.out ▸ H2.out.1) (HN.out ▸ H2.out.2.2.1) H2.out.2.2.2.2.1).mono ?_
    rintro e w3 ⟨rfl, hR3, hc3⟩
    rw [HN.out] at hR3
    have hP3 : RR wd w3 o2 (OrE L) := or_RR H2.out.2.1 H2.out.2.2.2.1 hR3
    have hB3 : Below w.heap.size w w3 := H2.out.2.2.2.2.2.1.trans (hc3.below (by have := H2.out.2.2.2.2.2.1.size; omega) fun k hk e => by have := H2.out.2.2.2.2.2.2; omega)
    have hL3 : RR wd w3 b L := H0.out.1.keep (hB3.block b H0.out.1.size)
    have H3 := Lib.hid (And.intro hP3 (And.intro hB3 hL3))
    clear hR3 hc3 hP3 hB3 hL3
    go_wp2_with fail
    go_at_call 57
    refine (HTI.out b cb lo L w3 H3.out.2.1 H3.out.2.2 H0.out.2.2.2.1).mono ?_
    rintro e w4 ⟨o4, rfl, hR4, hb4, ho4⟩
    have H4 := Lib.hid (And.intro hR4 (And.intro (bhop H3.out.2.1 hb4) (And.intro ho4 (H3.out.1.below hb4))))
    clear hR4 hb4 ho4
    go_wp2_with fail
    go_at_call 57
    refine (HTI.out o2 n more (OrE L) w4 H4.out.2.1 H4.out.2.2.2 (by have := H0.out.2.2.2.2.2.2.2; have := H0.out.2.2.1; omega)).mono ?_
    rintro e w5 ⟨o5, rfl, hR5, hb5, ho5⟩
    have H5 := Lib.hid (And.intro hR5 (And.intro (bhop H4.out.2.1 hb5) (And.intro ho5 (H4.out.1.below hb5))))
    clear hR5 hb5 ho5
    go_wp2_with fail
    go_at_call 51
    refine (HTH.out o4 o5 n n _ _ _ H5.out.2.1 H5.out.2.2.2 H5.out.1).mono ?_
    rintro e w6 ⟨o6, rfl, hR6, hb6, ho6⟩
    have H6 := Lib.hid (And.intro hR6 (And.intro (bhop H5.out.2.1 hb6) ho6))
    clear hR6 hb6 ho6
    go_wp2_with fail
    go_ret
    refine ⟨o6, rfl, H6.out.1.lang fun p q _ => ?_, H6.out.2.1, by have := H5.out.2.1.size; have := H6.out.2.2; omega⟩
    exact rch_rep (lo := lo) (hi := hi) (more := more) H0.out.2.2.2.2.2.1 H0.out.2.2.2.2.2.2.1 (H0.out.2.2.2.2.1.imp id fun h => h.1) p q

end Go.Proofs.YtdjddmkmcdfmiaaDoor
