/- span.Is: whether a word is one of a tree's: the contract.
   Conditions: the tree and the word lie in memory; the tree is formed; the word has at most 200 bytes, or more. -/
import Derived.Test.YtdjddmkmcdfmiaaDoorNH
import Derived.Deep.LoopGhost
import Derived.Test.YtdjddmkmcdfmiaaDoorMSame
import Derived.Test.YtdjddmkmcdfmiaaDoorMRef
import Derived.Test.YtdjddmkmcdfmiaaDoorMSim

/- How a list of nodes is gone through: plain facts.
   Conditions: those that each theorem states. -/
namespace Go.Proofs.YtdjddmkmcdfmiaaDoor
open Go.RowKit Go.Shelf

/-- Where one stands in a list of nodes: 0 not gone through, 1 open, 2 done; of each open node which parts are put together. -/
structure TIs (n : Nat) (L : Nat → V) (ou fi fr tt ds de st : Nat → Nat) (a : Nat) : Prop where
  an : a < n
  aopen : st a = 1
  st2 : ∀ x, x < n → st x ≤ 2
  root : st 0 = 1
  up : ∀ x, x < n → st x = 1 → x ≠ 0 → st (ou x) = 1 ∧ fr (ou x) < tt (ou x) ∧ ((x = tt (ou x) - 1 ∧ ds (ou x) = fr (ou x) ∧ de (ou x) = tt (ou x) - 1) ∨ (x = fr (ou x) ∧ ds (ou x) = fr (ou x) + 1 ∧ de (ou x) = tt (ou x)))
  rng : ∀ x, x < n → fi x ≤ fr x ∧ fr x ≤ tt x ∧ tt x ≤ fi x + (L x).ps.length
  new : ∀ x, x < n → st x = 0 → fr x = tt x ∧ ∀ i, i < (L x).ps.length → st (fi x + i) = 0
  opn : ∀ x, x < n → st x = 1 → ∀ i, i < (L x).ps.length → (fi x + i < fr x ∨ tt x ≤ fi x + i) → st (fi x + i) = 0
  act : ds a = fr a ∧ de a = tt a
  rngd : ∀ x, x < n → st x = 1 → fr x ≤ ds x ∧ ds x ≤ de x ∧ de x ≤ tt x
/-- What of a list of nodes never changes. -/
structure TS (n : Nat) (L : Nat → V) (ou fi : Nat → Nat) : Prop where
  ch : ∀ j, j < n → j < fi j ∧ fi j + (L j).ps.length ≤ n
  kid : ∀ j, j < n → ∀ i p, (L j).ps[i]? = some p → L (fi j + i) = p ∧ ou (fi j + i) = j
  par : ∀ c, 0 < c → c < n → ou c < c ∧ fi (ou c) ≤ c ∧ c < fi (ou c) + (L (ou c)).ps.length
variable {n : Nat} {L : Nat → V} {ou fi fr tt ds de st : Nat → Nat} {a c : Nat}
theorem TS.upp (hs : TS n L ou fi) {j i : Nat} (hj : j < n) (hi : i < (L j).ps.length) : ou (fi j + i) = j := (hs.kid j hj i _ (List.getElem?_eq_getElem hi)).2
theorem TIs.start (hs : TS n L ou fi) (h0 : 0 < n) (hr : ∀ x, x < n → fi x ≤ fr x ∧ (fr x < fi x + (L x).ps.length ∨ ((L x).ps.length = 0 ∧ fr x = fi x))) : TIs n L ou fi fr fr fr fr (fupd (fun _ => 0) 0 1) 0 := by
  refine ⟨h0, fupd_same _ _ _, fun x hx => ?_, fupd_same _ _ _, fun x hx h1 h2 => ?_, fun x hx => ?_, fun x hx h => ⟨rfl, fun i hi => ?_⟩, fun x hx h i hi _ => ?_, ⟨rfl, rfl⟩, fun x hx _ => ⟨Nat.le_refl _, Nat.le_refl _, Nat.le_refl _⟩⟩
  · unfold fupd; split
    · omega
    · exact Nat.zero_le _
  · rw [fupd_ne _ _ _ h2] at h1; cases h1
  · have := hr x hx; omega
  · have := (hs.ch x hx).1; exact fupd_ne _ _ _ (by omega)
  · have := (hs.ch x hx).1; exact fupd_ne _ _ _ (by omega)
/-- The one where one stands has no open part. -/
theorem TIs.noOpen (h : TIs n L ou fi fr tt ds de st a) {x : Nat} (hx : x < n) (h1 : st x = 1) (h0 : x ≠ 0) : ou x ≠ a := by
  intro e
  obtain ⟨_, h2, h3⟩ := h.up x hx h1 h0
  rw [e] at h2 h3
  have := h.act
  omega
theorem TIs.down (h : TIs n L ou fi fr tt ds de st a) (hs : TS n L ou fi) {fr' tt' : Nat → Nat} (hc : (tt a < fi a + (L a).ps.length ∧ c = tt a ∧ fr' = fr ∧ tt' = fupd tt a (tt a + 1)) ∨ (fi a + (L a).ps.length ≤ tt a ∧ fi a < fr a ∧ c = fr a - 1 ∧ fr' = fupd fr a (fr a - 1) ∧ tt' = tt)) :
    c < n ∧ st c = 0 ∧ TIs n L ou fi fr' tt' (fupd ds c (fr c)) (fupd de c (tt c)) (fupd st c 1) c := by
  have ha := h.rng a h.an
  have hch := hs.ch a h.an
  obtain ⟨i, hi, hci⟩ : ∃ i, i < (L a).ps.length ∧ c = fi a + i := ⟨c - fi a, by omega, by omega⟩
  have hou : ou c = a := by rw [hci]; exact hs.upp h.an hi
  have hcn : c < n := by omega
  have hca : c ≠ a := by omega
  have hc0 : st c = 0 := by rw [hci]; exact h.opn a h.an h.aopen i hi (by omega)
  have hfrc : fr' c = fr c := by
    rcases hc with ⟨_, _, rfl, _⟩ | ⟨_, _, _, rfl, _⟩
    · rfl
    · exact fupd_ne _ _ _ hca
  have httc : tt' c = tt c := by
    rcases hc with ⟨_, _, _, rfl⟩ | ⟨_, _, _, _, rfl⟩
    · exact fupd_ne _ _ _ hca
    · rfl
  have hfr : ∀ x, x ≠ a → fr' x = fr x := fun x hx => by
    rcases hc with ⟨_, _, rfl, _⟩ | ⟨_, _, _, rfl, _⟩
    · rfl
    · exact fupd_ne _ _ _ hx
  have htt : ∀ x, x ≠ a → tt' x = tt x := fun x hx => by
    rcases hc with ⟨_, _, _, rfl⟩ | ⟨_, _, _, _, rfl⟩
    · exact fupd_ne _ _ _ hx
    · rfl
  have hA : fi a ≤ fr' a ∧ fr' a < tt' a ∧ tt' a ≤ fi a + (L a).ps.length ∧ fr' a ≤ fr a ∧ tt a ≤ tt' a ∧ ((c = tt' a - 1 ∧ fr a = fr' a ∧ tt a = tt' a - 1) ∨ (c = fr' a ∧ fr a = fr' a + 1 ∧ tt a = tt' a)) := by
    rcases hc with ⟨h1, h2, rfl, rfl⟩ | ⟨h1, h2, h3, rfl, rfl⟩
    · rw [fupd_same]; omega
    · rw [fupd_same]; omega
  have hn := h.new c hcn hc0
  refine ⟨hcn, hc0, hcn, fupd_same _ _ _, fun x hx => ?_, ?_, fun x hx h1 h2 => ?_, fun x hx => ?_, fun x hx h1 => ?_, fun x hx h1 i' hi' hor => ?_, ?_, fun x hx h1 => ?_⟩
  · unfold fupd; split
    · omega
    · exact h.st2 x hx
  · rw [fupd_ne _ _ _ (by omega)]; exact h.root
  · by_cases e : x = c
    · subst e
      rw [hou, fupd_ne _ _ _ (Ne.symm hca), fupd_ne _ _ _ (Ne.symm hca), fupd_ne _ _ _ (Ne.symm hca)]
      have := h.act
      have := h.aopen
      omega
    · rw [fupd_ne _ _ _ e] at h1
      have hne := h.noOpen hx h1 h2
      obtain ⟨p1, p2, p3⟩ := h.up x hx h1 h2
      have hoc : ou x ≠ c := fun e => by rw [e, hc0] at p1; cases p1
      rw [fupd_ne _ _ _ hoc, fupd_ne _ _ _ hoc, fupd_ne _ _ _ hoc, hfr _ hne, htt _ hne]
      exact ⟨p1, p2, p3⟩
  · by_cases e : x = a
    · subst e; omega
    · rw [hfr _ e, htt _ e]; exact h.rng x hx
  · have e : x ≠ c := fun e => by rw [e, fupd_same] at h1; cases h1
    rw [fupd_ne _ _ _ e] at h1
    have ea : x ≠ a := fun e => by rw [e, h.aopen] at h1; cases h1
    rw [hfr _ ea, htt _ ea]
    refine ⟨(h.new x hx h1).1, fun i' hi' => ?_⟩
    rw [fupd_ne _ _ _ ?_]
    · exact (h.new x hx h1).2 i' hi'
    · intro e2
      exact ea (by rw [← hs.upp hx hi', e2, hou])
  · by_cases e : x = c
    · subst e
      rw [fupd_ne _ _ _ (by have := (hs.ch x hx).1; omega)]
      exact hn.2 i' hi'
    · rw [fupd_ne _ _ _ e] at h1
      by_cases ea : x = a
      · subst ea
        rw [fupd_ne _ _ _ (by omega)]
        exact h.opn x hx h1 i' hi' (by omega)
      · rw [hfr _ ea, htt _ ea] at hor
        rw [fupd_ne _ _ _ fun e2 => ea (by rw [← hs.upp hx hi', e2, hou])]
        exact h.opn x hx h1 i' hi' hor
  · rw [fupd_same, fupd_same, hfrc, httc]
    exact ⟨rfl, rfl⟩
  · by_cases e : x = c
    · subst e
      rw [fupd_same, fupd_same, hfrc, httc]
      omega
    · rw [fupd_ne _ _ _ e] at h1
      rw [fupd_ne _ _ _ e, fupd_ne _ _ _ e]
      have := h.rngd x hx h1
      by_cases ea : x = a
      · subst ea; omega
      · rw [hfr _ ea, htt _ ea]; exact this
/-- How the parts of the outer one grow. -/
theorem TIs.outer (h : TIs n L ou fi fr tt ds de st a) (hs : TS n L ou fi) (h0 : a ≠ 0) : ou a < a ∧ st (ou a) = 1 ∧ fr (ou a) < tt (ou a) ∧ fi (ou a) ≤ fr (ou a) ∧ tt (ou a) ≤ fi (ou a) + (L (ou a)).ps.length ∧ ((a = tt (ou a) - 1 ∧ ds (ou a) = fr (ou a) ∧ de (ou a) = tt (ou a) - 1) ∨ (a = fr (ou a) ∧ ds (ou a) = fr (ou a) + 1 ∧ de (ou a) = tt (ou a))) := by
  have hp := hs.par a (by omega) h.an
  obtain ⟨h1, h2, h3⟩ := h.up a h.an h.aopen h0
  have hr := h.rng (ou a) (by have := h.an; omega)
  exact ⟨hp.1, h1, h2, hr.1, hr.2.2, h3⟩
theorem TIs.close (h : TIs n L ou fi fr tt ds de st a) (hs : TS n L ou fi) (h0 : a ≠ 0) : TIs n L ou fi fr tt (fupd ds (ou a) (fr (ou a))) (fupd de (ou a) (tt (ou a))) (fupd st a 2) (ou a) := by
  obtain ⟨q1, q2, q3, q4, q5, q6⟩ := h.outer hs h0
  have han := h.an
  refine ⟨by omega, ?_, fun x hx => ?_, ?_, fun x hx h1 h2 => ?_, h.rng, fun x hx h1 => ?_, fun x hx h1 i hi hor => ?_, ⟨fupd_same _ _ _, fupd_same _ _ _⟩, fun x hx h1 => ?_⟩
  · rw [fupd_ne _ _ _ (by omega)]; exact q2
  · unfold fupd; split
    · omega
    · exact h.st2 x hx
  · rw [fupd_ne _ _ _ (by omega)]; exact h.root
  · have e : x ≠ a := fun e => by rw [e, fupd_same] at h1; cases h1
    rw [fupd_ne _ _ _ e] at h1
    have hne := h.noOpen hx h1 h2
    obtain ⟨p1, p2, p3⟩ := h.up x hx h1 h2
    have hop : ou x ≠ ou a := fun e2 => by rw [e2] at p2 p3; omega
    rw [fupd_ne _ _ _ hne, fupd_ne _ _ _ hop, fupd_ne _ _ _ hop]
    exact ⟨p1, p2, p3⟩
  · have e : x ≠ a := fun e => by rw [e, fupd_same] at h1; cases h1
    rw [fupd_ne _ _ _ e] at h1
    refine ⟨(h.new x hx h1).1, fun i hi => ?_⟩
    have := (h.new x hx h1).2 i hi
    rw [fupd_ne _ _ _ fun e2 => by rw [e2, h.aopen] at this; cases this]
    exact this
  · have e : x ≠ a := fun e => by rw [e, fupd_same] at h1; cases h1
    rw [fupd_ne _ _ _ e] at h1
    have := h.opn x hx h1 i hi hor
    rw [fupd_ne _ _ _ fun e2 => by rw [e2, h.aopen] at this; cases this]
    exact this
  · have e : x ≠ a := fun e => by rw [e, fupd_same] at h1; cases h1
    rw [fupd_ne _ _ _ e] at h1
    by_cases ep : x = ou a
    · rw [ep, fupd_same, fupd_same]; omega
    · rw [fupd_ne _ _ _ ep, fupd_ne _ _ _ ep]; exact h.rngd x hx h1
/-- What is still to do. -/
def wS (st : Nat → Nat) (n : Nat) : Nat := ((List.range n).map fun x => 2 - st x).sum
theorem wS_succ (st : Nat → Nat) (n : Nat) : wS st (n + 1) = wS st n + (2 - st n) := by
  unfold wS
  rw [List.range_succ, List.map_append, List.sum_append]
  simp
theorem wS_upd (st : Nat → Nat) (c v : Nat) (hv : st c < v) (hv2 : v ≤ 2) : ∀ n, (c < n → wS (fupd st c v) n < wS st n) ∧ (n ≤ c → wS (fupd st c v) n = wS st n)
  | 0 => ⟨fun h => by omega, fun _ => rfl⟩
  | n + 1 => by
    obtain ⟨h1, h2⟩ := wS_upd st c v hv hv2 n
    rw [wS_succ, wS_succ]
    refine ⟨fun h => ?_, fun h => ?_⟩
    · by_cases e : c = n
      · subst e
        rw [fupd_same, h2 (Nat.le_refl _)]
        omega
      · rw [fupd_ne _ _ _ (Ne.symm e)]
        have := h1 (by omega)
        omega
    · rw [fupd_ne _ _ _ (by omega), h2 (by omega)]
/-- The parts that are put together. -/
def partsD (L : Nat → V) (fi ds de : Nat → Nat) (x : Nat) : List V := ((L x).ps.drop (ds x - fi x)).take (de x - ds x)
theorem take_snocN {α : Type} (l : List α) (m : Nat) {p : α} (h : l[m]? = some p) : l.take (m + 1) = l.take m ++ [p] := by
  rw [List.take_add_one, h]; rfl
theorem part_right (l : List V) (s m : Nat) {p : V} (h : l[s + m]? = some p) : (l.drop s).take (m + 1) = (l.drop s).take m ++ [p] := take_snocN _ _ (by rw [List.getElem?_drop]; exact h)
theorem part_left (l : List V) (s m : Nat) {p : V} (h : l[s]? = some p) : (l.drop s).take (m + 1) = p :: (l.drop (s + 1)).take m := by
  have hlt := (List.getElem?_eq_some_iff.1 h).1
  rw [List.drop_eq_getElem_cons hlt, List.take_succ_cons, (List.getElem?_eq_some_iff.1 h).2]
theorem lgo_one (k : Int) (p : V) (v : List Nat) : Lg (erase p) v ↔ LgO k (erases [p]) v := by
  unfold LgO
  rw [erases, erases]
  split
  · rw [lga_cons, lga_nil, or_false]
  · rw [lgc_one]
theorem lgo_alt_r (ps : List V) (p : V) (v : List Nat) : (LgO 3 (erases ps) v ∨ Lg (erase p) v) ↔ LgO 3 (erases (ps ++ [p])) v := by
  unfold LgO
  rw [if_pos rfl, if_pos rfl, erases_append, lga_append, erases, erases, lga_cons, lga_nil, or_false]
theorem lgo_alt_l (ps : List V) (p : V) (v : List Nat) : (LgO 3 (erases ps) v ∨ Lg (erase p) v) ↔ LgO 3 (erases (p :: ps)) v := by
  unfold LgO
  rw [if_pos rfl, if_pos rfl, erases, lga_cons, or_comm]
theorem lgo_cat_r {k : Int} (hk : k ≠ 3) (ps : List V) (p : V) (v : List Nat) : CatL (LgO k (erases ps)) (Lg (erase p)) v ↔ LgO k (erases (ps ++ [p])) v := by
  unfold LgO CatL
  simp only [if_neg hk]
  rw [erases_append, lgc_append, erases, erases]
  simp only [lgc_one]
theorem lgo_cat_l {k : Int} (hk : k ≠ 3) (ps : List V) (p : V) (v : List Nat) : CatL (Lg (erase p)) (LgO k (erases ps)) v ↔ LgO k (erases (p :: ps)) v := by
  unfold LgO CatL
  simp only [if_neg hk]
  rw [erases, lgc_cons]
/-- How the parts grow by the one that is closed. -/
theorem TIs.parts (h : TIs n L ou fi fr tt ds de st a) (hs : TS n L ou fi) (h0 : a ≠ 0) :
    (partsD L fi (fupd ds (ou a) (fr (ou a))) (fupd de (ou a) (tt (ou a))) (ou a) = partsD L fi ds de (ou a) ++ [L a] ∧ (a = fr (ou a) → ds (ou a) = de (ou a))) ∨
    (partsD L fi (fupd ds (ou a) (fr (ou a))) (fupd de (ou a) (tt (ou a))) (ou a) = L a :: partsD L fi ds de (ou a) ∧ a = fr (ou a)) := by
  obtain ⟨q1, q2, q3, q4, q5, q6⟩ := h.outer hs h0
  have han := h.an
  have hpl : ou a < n := by omega
  have kd : ∀ i, i < (L (ou a)).ps.length → a = fi (ou a) + i → (L (ou a)).ps[i]? = some (L a) := fun i hi e => by
    have := (hs.kid (ou a) hpl i _ (List.getElem?_eq_getElem hi)).1
    rw [List.getElem?_eq_getElem hi, ← this, ← e]
  unfold partsD
  rw [fupd_same, fupd_same]
  rcases q6 with ⟨e1, e2, e3⟩ | ⟨e1, e2, e3⟩
  · left
    refine ⟨?_, fun e => by omega⟩
    rw [e2, e3, show tt (ou a) - fr (ou a) = (tt (ou a) - 1 - fr (ou a)) + 1 by omega]
    exact part_right _ _ _ (kd _ (by omega) (by omega))
  · right
    refine ⟨?_, e1⟩
    rw [e2, e3, show tt (ou a) - fr (ou a) = (tt (ou a) - (fr (ou a) + 1)) + 1 by omega, show fr (ou a) + 1 - fi (ou a) = (fr (ou a) - fi (ou a)) + 1 by omega]
    exact part_left _ _ _ (kd _ (by omega) (by omega))
theorem LI.stat {w0 : World} {t : V} {P : Nat → Nat × Nat} (h : LI w0 t n n L P ou fi []) : TS n L ou fi := ⟨h.ch, h.kid, fun c h0 hc => by
  obtain ⟨p1, p2, p3, p4⟩ := h.par c h0 hc
  exact ⟨p1, p3, p4⟩⟩
/-- What goes down to parts holds of each node. -/
theorem LI.all {w0 : World} {t : V} {P : Nat → Nat × Nat} (h : LI w0 t n n L P ou fi []) {S : V → Prop} (h0 : S t) (hp : ∀ x, S x → ∀ p ∈ x.ps, S p) : ∀ j, j < n → S (L j) := by
  intro j
  induction j using Nat.strongRecOn with
  | ind j ih =>
    intro hj
    by_cases e : j = 0
    · subst e; rw [h.root]; exact h0
    · obtain ⟨p1, _, p3, p4⟩ := h.par j (by omega) hj
      have hk := (h.kid (ou j) (by omega) (j - fi (ou j)) _ (List.getElem?_eq_getElem (by omega))).1
      rw [show fi (ou j) + (j - fi (ou j)) = j by omega] at hk
      rw [hk]
      exact hp _ (ih (ou j) p1 (by omega)) _ (List.getElem_mem _)

end Go.Proofs.YtdjddmkmcdfmiaaDoor

/- What a tree reaches in a word: the list of its nodes is gone through: contract.
   Conditions: the tree and the word lie in memory; classes are below 2^64. -/
namespace Go.Proofs.YtdjddmkmcdfmiaaDoor
open Go.RowKit Go.Shelf

/-- What lies in memory while a list of nodes is gone through. -/
structure TMs (wd : List Nat) (w0 : World) (g cap n : Nat) (L : Nat → V) (P : Nat → Nat × Nat) (ou fi : Nat → Nat) (sz : Nat → Int) (fr tt ds de st : Nat → Nat) (md : Nat → Value) (wr : World) : Prop where
  tab : TabO wr w0.heap.size g cap n (entM P ou fi sz fr tt md)
  bel : Below w0.heap.size w0 wr
  mdn : ∀ x, x < n → st x = 0 → md x = .slice none 0 0
  mdo : ∀ x, x < n → st x = 1 → (ds x = de x ∧ md x = .slice none 0 0) ∨ (ds x < de x ∧ ∃ b c, md x = .slice (some ⟨b, 0, none⟩) (wd.length + 1) c ∧ RR wd wr b (LgO (L x).kind (erases (partsD L fi ds de x))) ∧ b ≠ g ∧ w0.heap.size ≤ b)
  dist : ∀ x, x < n → ∀ y, y < n → st x = 1 → st y = 1 → x ≠ y → ∀ b n1 c1 n2 c2, md x = .slice (some ⟨b, 0, none⟩) n1 c1 → md y = .slice (some ⟨b, 0, none⟩) n2 c2 → False
variable {wd : List Nat} {w0 wr w2 : World} {g cap n a c : Nat} {L : Nat → V} {P : Nat → Nat × Nat} {ou fi : Nat → Nat} {sz : Nat → Int} {fr tt ds de st fr' tt' : Nat → Nat} {md md2 : Nat → Value}
theorem partsD_congr {ds' de' : Nat → Nat} {x : Nat} (h1 : ds' x = ds x) (h2 : de' x = de x) : partsD L fi ds' de' x = partsD L fi ds de x := by unfold partsD; rw [h1, h2]
theorem TMs.down (h : TMs wd w0 g cap n L P ou fi sz fr tt ds de st md wr) (hi : TIs n L ou fi fr tt ds de st a) (hc : c < n) (hs : st c = 0) (hT : TabO w2 w0.heap.size g cap n (entM P ou fi sz fr' tt' md)) (hg : Chg (fun k => k = g) wr w2) :
    TMs wd w0 g cap n L P ou fi sz fr' tt' (fupd ds c (fr c)) (fupd de c (tt c)) (fupd st c 1) md w2 := by
  have hgl := (h.tab.lt g rfl).1
  have hnil := h.mdn c hc hs
  refine ⟨hT, h.bel.trans (hg.below h.bel.size fun k hk e => by omega), fun x hx h0 => ?_, fun x hx h1 => ?_, fun x hx y hy h1 h2 hxy b n1 c1 n2 c2 e1 e2 => ?_⟩
  · have e : x ≠ c := fun e => by rw [e, fupd_same] at h0; cases h0
    rw [fupd_ne _ _ _ e] at h0
    exact h.mdn x hx h0
  · by_cases e : x = c
    · subst e
      rw [fupd_same, fupd_same]
      exact .inl ⟨(hi.new x hx hs).1, hnil⟩
    · rw [fupd_ne _ _ _ e] at h1
      rw [partsD_congr (fupd_ne _ _ _ e) (fupd_ne _ _ _ e), fupd_ne _ _ _ e, fupd_ne _ _ _ e]
      rcases h.mdo x hx h1 with h2 | ⟨h2, b, c', h3, h4, h5, h6⟩
      · exact .inl h2
      · exact .inr ⟨h2, b, c', h3, h4.keep (hg.block b h4.size h5), h5, h6⟩
  · by_cases ex : x = c
    · subst ex; rw [hnil] at e1; simp at e1
    · by_cases ey : y = c
      · subst ey; rw [hnil] at e2; simp at e2
      · rw [fupd_ne _ _ _ ex] at h1
        rw [fupd_ne _ _ _ ey] at h2
        exact h.dist x hx y hy h1 h2 hxy b n1 c1 n2 c2 e1 e2
theorem TMs.put (h : TMs wd w0 g cap n L P ou fi sz fr tt ds de st md wr) (hi : TIs n L ou fi fr tt ds de st a) (hs : TS n L ou fi) (h0 : a ≠ 0) (hT : TabO w2 w0.heap.size g cap n (entM P ou fi sz fr tt md2)) (hb : Below w0.heap.size w0 w2)
    (hm : ∀ x, x ≠ a → x ≠ ou a → md2 x = md x) (hk : ∀ x, x < n → st x = 1 → x ≠ a → x ≠ ou a → ∀ b n1 c1, md x = .slice (some ⟨b, 0, none⟩) n1 c1 → w2.heap[b]? = wr.heap[b]?)
    {b cb : Nat} (hp : md2 (ou a) = .slice (some ⟨b, 0, none⟩) (wd.length + 1) cb) (hR : RR wd w2 b (LgO (L (ou a)).kind (erases (partsD L fi (fupd ds (ou a) (fr (ou a))) (fupd de (ou a) (tt (ou a))) (ou a))))) (hbg : b ≠ g) (hb0 : w0.heap.size ≤ b)
    (hd : ∀ x, x < n → st x = 1 → x ≠ a → x ≠ ou a → ∀ n1 c1, md x ≠ .slice (some ⟨b, 0, none⟩) n1 c1) :
    TMs wd w0 g cap n L P ou fi sz fr tt (fupd ds (ou a) (fr (ou a))) (fupd de (ou a) (tt (ou a))) (fupd st a 2) md2 w2 := by
  obtain ⟨q1, q2, q3, q4, q5, q6⟩ := hi.outer hs h0
  have han := hi.an
  have key : ∀ x, x < n → fupd st a 2 x = 1 → x ≠ a ∧ st x = 1 := fun x hx h1 => by
    have e : x ≠ a := fun e => by rw [e, fupd_same] at h1; cases h1
    rw [fupd_ne _ _ _ e] at h1
    exact ⟨e, h1⟩
  refine ⟨hT, hb, fun x hx h1 => ?_, fun x hx h1 => ?_, fun x hx y hy h1 h2 hxy b' n1 c1 n2 c2 e1 e2 => ?_⟩
  · have e : x ≠ a := fun e => by rw [e, fupd_same] at h1; cases h1
    rw [fupd_ne _ _ _ e] at h1
    rw [hm x e fun e2 => by rw [e2, q2] at h1; cases h1]
    exact h.mdn x hx h1
  · obtain ⟨e, h1⟩ := key x hx h1
    by_cases ep : x = ou a
    · subst ep
      rw [fupd_same, fupd_same]
      exact .inr ⟨q3, b, cb, hp, hR, hbg, hb0⟩
    · rw [partsD_congr (fupd_ne _ _ _ ep) (fupd_ne _ _ _ ep), fupd_ne _ _ _ ep, fupd_ne _ _ _ ep, hm x e ep]
      rcases h.mdo x hx h1 with h2 | ⟨h2, b', c', h3, h4, h5, h6⟩
      · exact .inl h2
      · exact .inr ⟨h2, b', c', h3, h4.keep (hk x hx h1 e ep b' _ _ h3), h5, h6⟩
  · obtain ⟨ex, h1⟩ := key x hx h1
    obtain ⟨ey, h2⟩ := key y hy h2
    by_cases px : x = ou a
    · by_cases py : y = ou a
      · exact hxy (by rw [px, py])
      · rw [px, hp] at e1
        rw [hm y ey py] at e2
        simp only [Value.slice.injEq, Option.some.injEq, Addr.mk.injEq, and_true] at e1
        obtain ⟨rfl, _⟩ := e1
        exact hd y hy h2 ey py _ _ e2
    · by_cases py : y = ou a
      · rw [py, hp] at e2
        rw [hm x ex px] at e1
        simp only [Value.slice.injEq, Option.some.injEq, Addr.mk.injEq, and_true] at e2
        obtain ⟨rfl, _⟩ := e2
        exact hd x hx h1 ex px _ _ e1
      · rw [hm x ex px] at e1
        rw [hm y ey py] at e2
        exact h.dist x hx y hy h1 h2 hxy b' n1 c1 n2 c2 e1 e2
/-- What is known ahead of a round. -/
def ReI (wd : List Nat) (w0 : World) (g cap n : Nat) (L : Nat → V) (P : Nat → Nat × Nat) (ou fi : Nat → Nat) (sz : Nat → Int) (k : Nat) (v : Value) (wr : World) : Prop :=
  ∃ (a : Nat) (fr tt ds de st : Nat → Nat) (md : Nat → Value), v = .int .i64 (a : Nat) ∧ TIs n L ou fi fr tt ds de st a ∧ TMs wd w0 g cap n L P ou fi sz fr tt ds de st md wr ∧ k = wS st n
/-- What reached gives. -/
def ReO (wd : List Nat) (w0 : World) (t : V) (o : Nat) (w' : World) : Prop := RR wd w' o (Lg (erase t)) ∧ Below w0.heap.size w0 w'
/-- What putting gives. -/
def PutO (wd : List Nat) (w0 wr : World) (g cap n : Nat) (L : Nat → V) (P : Nat → Nat × Nat) (ou fi : Nat → Nat) (sz : Nat → Int) (fr tt ds de st : Nat → Nat) (md : Nat → Value) (a : Nat) (w' : World) : Prop :=
  ∃ md2 b cb, TabO w' w0.heap.size g cap n (entM P ou fi sz fr tt md2) ∧ Below w0.heap.size w0 w' ∧ (∀ x, x ≠ a → x ≠ ou a → md2 x = md x) ∧ (∀ x, x < n → st x = 1 → x ≠ a → x ≠ ou a → ∀ b n1 c1, md x = .slice (some ⟨b, 0, none⟩) n1 c1 → w'.heap[b]? = wr.heap[b]?) ∧
    md2 (ou a) = .slice (some ⟨b, 0, none⟩) (wd.length + 1) cb ∧ RR wd w' b (LgO (L (ou a)).kind (erases (partsD L fi (fupd ds (ou a) (fr (ou a))) (fupd de (ou a) (tt (ou a))) (ou a)))) ∧ b ≠ g ∧ w0.heap.size ≤ b ∧ (∀ x, x < n → st x = 1 → x ≠ a → x ≠ ou a → ∀ n1 c1, md x ≠ .slice (some ⟨b, 0, none⟩) n1 c1)
theorem slice_inj {b b' n1 n2 c1 c2 : Nat} (h : Value.slice (some ⟨b, 0, none⟩) n1 c1 = .slice (some ⟨b', 0, none⟩) n2 c2) : b = b' := by
  simp only [Value.slice.injEq, Option.some.injEq, Addr.mk.injEq, and_true] at h
  exact h.1
theorem put_step {t : V} {w3 : World} {o co : Nat} (hL : LI w0 t n n L P ou fi []) (hs : TS n L ou fi) (hI : TIs n L ou fi fr tt ds de st a) (hM : TMs wd w0 g cap n L P ou fi sz fr tt ds de st md wr) (h0 : a ≠ 0) (hc2 : Chg (fun k => k = g) wr w2) (hB2 : Below w0.heap.size w0 w2) (hT3 : TabO w3 w0.heap.size g cap n (entM P ou fi sz fr tt md)) (hb3 : Below w2.heap.size w2 w3) (hR3 : RR wd w3 o (Lg (erase (L a))))
    (ho : w2.heap.size ≤ o ∨ ((L a).kind ≠ 0 ∧ (L a).kind ≠ 1 ∧ ∃ c', md a = .slice (some ⟨o, 0, none⟩) (wd.length + 1) c')) (hn : wd.length ≤ 250) (hTb : TabS w0.heap.size w0) :
    Calls Tryd.prog 41 #[.pointer (some ⟨g, ou a * 7, none⟩), .int .i64 (a : Nat), .slice (some ⟨o, 0, none⟩) (wd.length + 1) co] (w3.setCell ⟨g, a * 7 + 6, none⟩ (.slice none 0 0)) (fun e w' => e = .returned (.tuple #[]) ∧ PutO wd w0 wr g cap n L P ou fi sz fr tt ds de st md a w') := by
  obtain ⟨q1, q2, q3, q4, q5, q6⟩ := hI.outer hs h0
  have han := hI.an
  have hpn : ou a < n := by omega
  have hpa : ou a ≠ a := by omega
  have hgr := hM.tab.lt g rfl
  have hT4 : TabO (w3.setCell ⟨g, a * 7 + 6, none⟩ (.slice none 0 0)) w0.heap.size g cap n (entM P ou fi sz fr tt (fupd md a (.slice none 0 0))) := tabO_congr (tabO_set hT3 (j := a) (k := 6) (by omega) (.slice none 0 0)) (fun j' _ k hk => (upd_ent a j' k hk).2.2.2.2 _)
  have hc4 : Chg (fun k => k = g) w3 (w3.setCell ⟨g, a * 7 + 6, none⟩ (.slice none 0 0)) := chg_set w3 g _ _
  generalize w3.setCell ⟨g, a * 7 + 6, none⟩ (.slice none 0 0) = w4 at *
  have hB3 : Below w0.heap.size w0 w3 := hB2.trans (hb3.mono hB2.size)
  have hB4 : Below w0.heap.size w0 w4 := hB3.trans (hc4.below hB3.size fun k hk e => by omega)
  have s24 : w2.heap.size ≤ w4.heap.size := Nat.le_trans hb3.size hc4.size
  have keep4 : ∀ b, b < wr.heap.size → b ≠ g → w4.heap[b]? = wr.heap[b]? := fun b hb hg => (hc4.block b (by have := hc2.size; have := hb3.size; omega) hg).trans ((hb3.block b (by have := hc2.size; omega)).trans (hc2.block b hb hg))
  have hmo : ∀ x, x < n → st x = 1 → ∀ b n1 c1, md x = .slice (some ⟨b, 0, none⟩) n1 c1 → b < wr.heap.size ∧ b ≠ g ∧ w0.heap.size ≤ b := fun x hx h1 b n1 c1 e => by
    rcases hM.mdo x hx h1 with ⟨_, h2⟩ | ⟨_, b', c', h3, h4, h5, h6⟩
    · rw [h2] at e; simp at e
    · rw [h3] at e
      have := slice_inj e
      subst this
      exact ⟨h4.size, h5, h6⟩
  have og : o ≠ g ∧ w0.heap.size ≤ o := by
    rcases ho with h | ⟨_, _, c', h⟩
    · have := hc2.size; have := hM.bel.size; omega
    · exact (hmo a han hI.aopen o _ _ h).2
  have od : ∀ x, x < n → st x = 1 → x ≠ a → ∀ n1 c1, md x ≠ .slice (some ⟨o, 0, none⟩) n1 c1 := fun x hx h1 hxa n1 c1 e => by
    rcases ho with h | ⟨_, _, c', h⟩
    · have := (hmo x hx h1 o _ _ e).1; have := hc2.size; omega
    · exact hM.dist x hx a han h1 hI.aopen hxa o _ _ _ _ e h
  have hR4 : RR wd w4 o (Lg (erase (L a))) := hR3.keep (hc4.block o hR3.size og.1)
  have hx4 : NodeAt w4 (P (ou a)).1 (P (ou a)).2 (L (ou a)) := ((hL.node (ou a) hpn).1).keep hB4
  have hmp : fupd md a (.slice none 0 0) (ou a) = md (ou a) := fupd_ne _ _ _ hpa
  have hpt := hI.parts hs h0
  rcases hM.mdo (ou a) hpn q2 with ⟨e1, e2⟩ | ⟨e1, b0, c0, e2, e3, e4, e5⟩
  · refine (sput_nil (c := a) (mb := o) (cm := co) (wd.length + 1) hT4 hpn (by rw [hmp, e2])).mono ?_
    rintro e w' ⟨rfl, hT5, hc5⟩
    refine ⟨rfl, fupd (fupd md a (.slice none 0 0)) (ou a) (.slice (some ⟨o, 0, none⟩) (wd.length + 1) co), o, co, hT5, hB4.trans (hc5.below hB4.size fun k hk e => by omega), fun x hxa hxp => by rw [fupd_ne _ _ _ hxp, fupd_ne _ _ _ hxa], fun x hx h1 hxa hxp b n1 c1 e => ?_, fupd_same _ _ _, (hR4.keep (hc5.block o hR4.size og.1)).iff fun v => ?_, og.1, og.2, fun x hx h1 hxa hxp => od x hx h1 hxa⟩
    · have hb := hmo x hx h1 b n1 c1 e
      exact (hc5.block b (by have := hc2.size; omega) hb.2.1).trans (keep4 b hb.1 hb.2.1)
    · have hnil : partsD L fi ds de (ou a) = [] := by unfold partsD; rw [e1, Nat.sub_self, List.take_zero]
      have : partsD L fi (fupd ds (ou a) (fr (ou a))) (fupd de (ou a) (tt (ou a))) (ou a) = [L a] := by
        rcases hpt with ⟨h, _⟩ | ⟨h, _⟩
        · rw [h, hnil]; rfl
        · rw [h, hnil]
      rw [this]
      exact lgo_one _ _ v
  · have hb0 := hmo (ou a) hpn q2 b0 _ _ e2
    have hX4 : RR wd w4 b0 (LgO (L (ou a)).kind (erases (partsD L fi ds de (ou a)))) := e3.keep (keep4 b0 hb0.1 hb0.2.1)
    have hbo : b0 ≠ o := fun e => od (ou a) hpn q2 hpa _ _ (e ▸ e2)
    by_cases hk3 : (L (ou a)).kind = 3
    · refine (sput_alt (c := a) (mb := o) (cm := co) hT4 hpn hx4 (by rw [hmp, e2]) hk3 hn hX4 hR4 hbo e4).mono ?_
      rintro e w' ⟨rfl, hT5, hR5, hc5⟩
      refine ⟨rfl, fupd md a (.slice none 0 0), b0, c0, hT5, hB4.trans (hc5.below hB4.size fun k hk e => by omega), fun x hxa hxp => fupd_ne _ _ _ hxa, fun x hx h1 hxa hxp b n1 c1 e => ?_, by rw [hmp, e2], hR5.iff fun v => ?_, e4, e5, fun x hx h1 hxa hxp n1 c1 e => hM.dist x hx (ou a) hpn h1 q2 hxp b0 _ _ _ _ e e2⟩
      · have hb := hmo x hx h1 b n1 c1 e
        have hne : b ≠ b0 := fun e6 => hM.dist x hx (ou a) hpn h1 q2 hxp b _ _ _ _ e (e6 ▸ e2)
        exact (hc5.block b (by have := hc2.size; omega) hne).trans (keep4 b hb.1 hb.2.1)
      · rw [hk3]
        rcases hpt with ⟨h, _⟩ | ⟨h, _⟩
        · rw [h]; exact lgo_alt_r _ _ v
        · rw [h]; exact lgo_alt_l _ _ v
    · refine (sput_cat (c := a) (mb := o) (cm := co) hT4 hpn hx4 (by rw [hmp, e2]) hk3 hn hX4 hR4 (hTb.below hB4)).mono ?_
      rintro e w' ⟨rfl, o2, hT5, hR5, ho5, hc5⟩
      have hg4 := (hT4.lt g rfl).2
      refine ⟨rfl, fupd (fupd md a (.slice none 0 0)) (ou a) (.slice (some ⟨o2, 0, none⟩) (wd.length + 1) (wd.length + 1)), o2, wd.length + 1, hT5, hB4.trans (hc5.below hB4.size fun k hk e => by omega), fun x hxa hxp => by rw [fupd_ne _ _ _ hxp, fupd_ne _ _ _ hxa], fun x hx h1 hxa hxp b n1 c1 e => ?_, fupd_same _ _ _, hR5.iff fun v => ?_, by omega, by have := hB4.size; omega, fun x hx h1 hxa hxp n1 c1 e => ?_⟩
      · have hb := hmo x hx h1 b n1 c1 e
        exact (hc5.block b (by have := hc2.size; omega) hb.2.1).trans (keep4 b hb.1 hb.2.1)
      · rcases hpt with ⟨h, h'⟩ | ⟨h, h'⟩
        · rw [h, if_neg (fun e => by have := h' e; omega)]; exact lgo_cat_r hk3 _ _ v
        · rw [h, if_pos h']; exact lgo_cat_l hk3 _ _ v
      · have := (hmo x hx h1 o2 n1 c1 e).1
        have := hc2.size
        omega
set_option maxHeartbeats 8000000 in
set_option maxRecDepth 100000 in
theorem reachedT_any (t : V) (gw ow capw : Nat) (A : Option Addr) (w1 : World) (hL : LI w0 t n n L P ou fi []) (hT : TabO w1 w0.heap.size g cap n (entM P ou fi sz fr fr fun _ => .slice none 0 0)) (hF : ∀ j, j < n → fi j ≤ fr j ∧ (fr j < fi j + (L j).ps.length ∨ ((L j).ps.length = 0 ∧ fr j = fi j))) (hB : Below w0.heap.size w0 w1)
    (hz : szT (erase t) ≤ 1000000) (hC : ∀ j, j < n → Cl (L j).set) (hW : WrdM w0 gw ow wd) (hA : wd ≠ [] → A = some ⟨gw, ow, none⟩) (hn : wd.length ≤ 250) (hTb : TabS w0.heap.size w0) :
    Calls Tryd.prog 30 #[.slice (some ⟨g, 0, none⟩) n cap, .slice A wd.length capw] w1 fun e w' => ∃ o co, e = .returned (.slice (some ⟨o, 0, none⟩) (wd.length + 1) co) ∧ ReO wd w0 t o w' := by
  have hs := hL.stat
  have hn6 : n ≤ 1000000 := Nat.le_trans hL.len.1 hz
  have hst : ReI wd w0 g cap n L P ou fi sz (wS (fupd (fun _ => 0) 0 1) n) (.int .i64 ((0 : Nat) : Int)) w1 := by
    refine ⟨0, fr, fr, fr, fr, _, _, rfl, TIs.start hs hL.n0 hF, ⟨hT, hB, fun _ _ _ => rfl, fun x hx _ => .inl ⟨rfl, rfl⟩, fun x hx y hy _ _ _ b n1 c1 n2 c2 e1 => by simp at e1⟩, rfl⟩
  have H0 := Lib.hid (And.intro hL (And.intro hs (And.intro hC (And.intro hW (And.intro hA (And.intro hn (And.intro hTb hn6)))))))
  have HS := Lib.hid hst
  clear hL hT hF hB hC hW hA hTb hst hs
  go_enter Tryd.func30, Tryd.ntmps30
  go_wp2_with fail
  go_loopg [5] (wS (fupd (fun _ => 0) 0 1) n) (ReI wd w0 g cap n L P ou fi sz)
  case atStart => exact HS.out
  case round =>
    clear HS
    obtain ⟨a, fr, tt, ds, de, st, md, rfl, hI, hM, hk⟩ := hrel
    have HM := Lib.hid (And.intro hI (And.intro hM hk))
    have hr := hI.rng a hI.an
    have hch := H0.out.2.1.ch a hI.an
    have hx : NodeAt wr (P a).1 (P a).2 (L a) := ((H0.out.1.node a hI.an).1).keep hM.bel
    have han := hI.an
    have HN := Lib.hid (nextN_any w0.heap.size g cap n a P ou fi sz fr tt md (L a) wr hM.tab hI.an hx (by omega) (by omega) (by omega))
    have i1 : 0 ≤ (a : Int) ∧ (a : Int) < n := by omega
    clear hI hM hk hr hch hx
    go_wp2_with fail
    go_at_call 39
    refine HN.out.mono ?_
    rintro e w2 ⟨r, bl, rfl, hO⟩
    have HO := Lib.hid hO
    clear hO
    cases bl with
    | true =>
      go_wp2_with fail
      obtain ⟨fr', tt', hT2, hc2, hcase⟩ := HO.out
      obtain ⟨hI, hM, hk⟩ := HM.out
      have hd : (tt a < fi a + (L a).ps.length ∧ r = tt a ∧ fr' = fr ∧ tt' = fupd tt a (tt a + 1)) ∨ (fi a + (L a).ps.length ≤ tt a ∧ fi a < fr a ∧ r = fr a - 1 ∧ fr' = fupd fr a (fr a - 1) ∧ tt' = tt) := by
        rcases hcase with ⟨h1, _, h2⟩ | ⟨h1, h2, _, h3⟩ | ⟨_, _, h3, _⟩
        · exact .inl ⟨h1, h2⟩
        · exact .inr ⟨h1, h2, h3⟩
        · cases h3
      obtain ⟨hcn, hc0, hI2⟩ := hI.down H0.out.2.1 hd
      have hM2 := hM.down hI hcn hc0 hT2 hc2
      have hlt : wS (fupd st r 1) n < gk := by rw [hk]; exact (wS_upd st r 1 (by omega) (by omega) n).1 hcn
      go_roundg (wS (fupd st r 1) n)
      case measure => exact hlt
      case rel => exact ⟨r, fr', tt', _, _, _, md, rfl, hI2, hM2, rfl⟩
    | false =>
      obtain ⟨hT2, hc2, hft, hff⟩ : TabO w2 w0.heap.size g cap n (entM P ou fi sz fr tt md) ∧ Chg (fun k => k = g) wr w2 ∧ fi a + (L a).ps.length ≤ tt a ∧ fr a ≤ fi a := by
        obtain ⟨fr', tt', h1, h2, ⟨_, h3, _⟩ | ⟨_, _, h3, _⟩ | ⟨h3, h4, _, rfl, rfl⟩⟩ := HO.out
        · cases h3
        · cases h3
        · exact ⟨h1, h2, h3, h4⟩
      have hgl := (hT2.lt g rfl).1
      have hB2 : Below w0.heap.size w0 w2 := HM.out.2.1.bel.trans (hc2.below HM.out.2.1.bel.size fun k hk e => by omega)
      have hx2 : NodeAt w2 (P a).1 (P a).2 (L a) := ((H0.out.1.node a han).1).keep hB2
      have hrng := HM.out.1.rng a han
      have hpart : partsD L fi ds de a = (L a).ps := by
        have := HM.out.1.act
        unfold partsD
        rw [this.1, this.2, show fr a - fi a = 0 by omega, List.drop_zero, List.take_of_length_le (by omega)]
      have hok := (H0.out.1.node a han).2
      have hWh := wholeN_any (x := L a) wd gw ow capw A hT2 han hx2 hok (H0.out.2.2.1 a han) (H0.out.2.2.2.1.keep (fun hg => hB2.block gw hg) hB2.size) H0.out.2.2.2.2.1 hn (H0.out.2.2.2.2.2.2.1.below hB2) (fun k0 k1 => by
        rcases HM.out.2.1.mdo a han HM.out.1.aopen with ⟨e, _⟩ | ⟨_, b, c, h3, h4, h5, h6⟩
        · exfalso
          have hokk : okA (L a).kind (z4 (L a).set) (L a).lo (L a).hi (L a).ps.length = true := by
            have h : okT (erase (L a)) = true := hok
            rw [okT_eq, Bool.and_eq_true] at h
            exact h.1
          have hk := of_decide_eq_true hokk
          have := HM.out.1.act
          omega
        · refine ⟨b, c, h3, ?_⟩
          rw [← hpart]
          exact h4.keep (hc2.block b h4.size h5))
      have HW := Lib.hid hWh
      have H2 := Lib.hid (And.intro hT2 (And.intro hc2 (And.intro hB2 hgl)))
      clear hT2 hc2 hft hff hgl hB2 hx2 hrng hpart hok hWh HN HO
      go_wp2_with fail
      go_at_call 40
      refine HW.out.mono ?_
      rintro e w3 ⟨o, co, rfl, hR3, hb3, ho3⟩
      have hT3 : TabO w3 w0.heap.size g cap n (entM P ou fi sz fr tt md) := tabO_keep H2.out.1 (hb3.block g (H2.out.1.lt g rfl).2)
      obtain ⟨_, y1, _, _, _, _, y6⟩ := ent_cells hT3 han
      have f6 := hT3.frozenAt (a * 7 + 6)
      have H3 := Lib.hid (And.intro hR3 (And.intro hb3 (And.intro ho3 (And.intro hT3 (bhop H2.out.2.2.1 (hb3.mono (Nat.le_refl _)))))))
      clear hR3 hb3 ho3 hT3
      by_cases ha0 : a = 0
      · have g1 : ((a : Int) == 0) = true := by simp [ha0]
        have HE := Lib.hid ha0
        clear ha0
        go_wp2_with fail
        go_ret
        refine ⟨o, co, rfl, ?_, H3.out.2.2.2.2⟩
        have h1 := H3.out.1
        rw [HE.out, H0.out.1.root] at h1
        exact h1
      · have g1 : ((a : Int) == 0) = false := by simp [ha0]
        have hq := HM.out.1.outer H0.out.2.1 ha0
        have i3 : 0 ≤ (ou a : Int) ∧ (ou a : Int) < n := by omega
        have HE := Lib.hid (And.intro ha0 hq)
        have hPut : Calls Tryd.prog 41 #[.pointer (some ⟨g, ou a * 7, none⟩), .int .i64 (a : Nat), .slice (some ⟨o, 0, none⟩) (wd.length + 1) co] (w3.setCell ⟨g, a * 7 + 6, none⟩ (.slice none 0 0)) (fun e w' => e = .returned (.tuple #[]) ∧ PutO wd w0 wr g cap n L P ou fi sz fr tt ds de st md a w') :=
          put_step H0.out.1 H0.out.2.1 HM.out.1 HM.out.2.1 ha0 H2.out.2.1 H2.out.2.2.1 H3.out.2.2.2.1 H3.out.2.1 H3.out.1 H3.out.2.2.1 hn H0.out.2.2.2.2.2.2.1
        have HP := Lib.hid hPut
        clear ha0 hq hPut
        go_wp2_with fail
        go_at_call 41
        refine HP.out.mono ?_
        rintro e w5 ⟨rfl, hO⟩
        have HO := Lib.hid hO
        clear hO
        go_wp2_with fail
        obtain ⟨md2, b, cb, p1, p2, p3, p4, p5, p6, p7, p8, p9⟩ := HO.out
        obtain ⟨hI, hM, hk⟩ := HM.out
        have hM2 := hM.put hI H0.out.2.1 HE.out.1 p1 p2 p3 p4 p5 p6 p7 p8 p9
        have hlt : wS (fupd st a 2) n < gk := by rw [hk]; exact (wS_upd st a 2 (by have := hI.aopen; omega) (by omega) n).1 han
        go_roundg (wS (fupd st a 2) n)
        case measure => exact hlt
        case rel => exact ⟨ou a, fr, tt, _, _, _, md2, rfl, hI.close H0.out.2.1 HE.out.1, hM2, rfl⟩

end Go.Proofs.YtdjddmkmcdfmiaaDoor

/- span.Is: whether a word is one of a tree's: the contract.
   Conditions: the tree and the word lie in memory; the tree is formed; the word has at most 200 bytes, or more. -/
namespace Go.Proofs.YtdjddmkmcdfmiaaDoor
open Go.RowKit Go.Shelf
attribute [local go_sem] nodeAgg

mutual
/-- Classes are four words below 2^64. -/
def ClN : T → Prop
  | .node _ C _ _ ps => Cl C ∧ ClNs ps
def ClNs : List T → Prop
  | [] => True
  | t :: ts => ClN t ∧ ClNs ts
end
theorem clN_mem : ∀ {ts : List T}, ClNs ts ↔ ∀ t ∈ ts, ClN t
  | [] => by rw [ClNs]; simp
  | t :: ts => by rw [ClNs, clN_mem]; simp
theorem clN_zero : Cl zeros := fun _ => by unfold zeros; decide
theorem cl_wash {C : Nat → Nat} (h : Cl C) : Cl (wash C) := fun i => by unfold wash; split; exact h i; decide
theorem clN_none : ClN noT := by rw [ClN, ClNs]; exact ⟨clN_zero, trivial⟩
theorem clN_empty : ClN emptyT := by rw [ClN, ClNs]; exact ⟨clN_zero, trivial⟩
theorem clN_ps {t : T} (h : ClN t) : ∀ p ∈ t.ps, ClN p := by
  cases t with | node k C lo hi ps => rw [ClN] at h; exact clN_mem.1 h.2
theorem clN_rep {lo hi : Int} {s : T} (h : ClN s) : ClN (rep4 lo hi s) := by
  unfold rep4
  split
  · exact clN_none
  · split
    · exact h
    · rw [ClN, ClNs, ClNs]; exact ⟨clN_zero, h, trivial⟩
theorem clN_one {k : Int} : ∀ {l : List T}, (∀ t ∈ l, ClN t) → ClN (oneOf k l)
  | [], _ => clN_none
  | [t], h => h t (by simp)
  | t :: u :: ts, h => by rw [oneOf, ClN]; exact ⟨clN_zero, clN_mem.2 h⟩
mutual
/-- The simple tree's classes, too. -/
theorem clN_sim : ∀ t : T, ClN t → ClN (simT t)
  | .node k C lo hi ps, h => by
    have h' := h
    rw [ClN] at h'
    have hs := clNs_sim ps h'.2
    rw [simT]
    split
    · exact clN_empty
    · split
      · rw [ClN]; exact ⟨cl_wash h'.1, h'.2⟩
      · split
        · match simsT ps, hs with
          | [], _ => exact clN_none
          | s :: _, hs => rw [ClNs] at hs; exact clN_rep hs.1
        · refine clN_one (left_all _ _ (fun t ht => by cases ht) fun t ht => ?_)
          rcases spread_mem ht with ⟨u, hu, _, h3⟩ | ⟨h3, _⟩
          · exact clN_ps (clN_mem.1 hs u hu) t h3
          · exact clN_mem.1 hs t h3
theorem clNs_sim : ∀ ts : List T, ClNs ts → ClNs (simsT ts)
  | [], _ => by rw [simsT, ClNs]; trivial
  | t :: ts, h => by
    rw [ClNs] at h
    rw [simsT, ClNs]
    exact ⟨clN_sim t h.1, clNs_sim ts h.2⟩
end
theorem clN_good {t : V} (h : Good t) : ClN (erase t) := by
  induction h with
  | mk k C lo hi v ps hk hC hz hlo hhi hp ih =>
    rw [erase, ClN, clN_mem]
    refine ⟨hC, fun u hu => ?_⟩
    rw [erases_map] at hu
    obtain ⟨p, hp1, rfl⟩ := List.mem_map.1 hu
    exact ih p hp1
theorem clN_set {t : V} (h : ClN (erase t)) : Cl t.set ∧ ∀ p ∈ t.ps, ClN (erase p) := by
  cases t with
  | node k C lo hi v ps =>
    rw [erase, ClN, clN_mem] at h
    exact ⟨h.1, fun p hp => h.2 _ (by rw [erases_map]; exact List.mem_map.2 ⟨p, hp, rfl⟩)⟩
/-- What a call for a relation gives. -/
def RdO (wd : List Nat) (t : V) (w : World) (o : Nat) (w' : World) : Prop := RR wd w' o (Lg (erase t)) ∧ Below w.heap.size w w'
set_option maxHeartbeats 8000000 in
set_option maxRecDepth 100000 in
theorem reachedS_any (t : V) (w : World) (R : Nat → Prop) (wd : List Nat) (gw ow capw : Nat) (A : Option Addr) (ht : Laid w R t) (hok : okT (erase t) = true) (hz : szT (erase t) ≤ 1000000) (hC : ClN (erase t)) (hW : WrdM w gw ow wd) (hA : wd ≠ [] → A = some ⟨gw, ow, none⟩) (hn : wd.length ≤ 200) (hT : TabN w) (hTl : tabN < w.heap.size) :
    Calls Tryd.prog 20 #[nodeAgg t, .slice A wd.length capw] w fun e w' => ∃ o co, e = .returned (.tuple #[.slice (some ⟨o, 0, none⟩) (wd.length + 1) co, .int .i64 0]) ∧ RdO wd t w o w' := by
  obtain ⟨sa, sc, hv0, _⟩ := laid_row' ht
  obtain ⟨sn, hsn⟩ : ∃ sn, sn = t.ps.length := ⟨_, rfl⟩
  rw [← hsn] at hv0
  obtain ⟨w2, hw2, hbw, hlt2, hbx⟩ := box_new w t (.slice sa sn sc)
  have HF := Lib.hid (callsIn_wide.1 (formed_in t w2 sa sn sc hv0 R (laid_low ht hbw) (by rw [dpt_erase]; exact Nat.le_trans (dpt_sz _) hz)))
  have H0 := Lib.hid (And.intro ht (And.intro hok (And.intro hz (And.intro hC (And.intro hW (And.intro hA (And.intro hT hTl)))))))
  have HBX := Lib.hid (And.intro hbx (And.intro hbw (And.intro hlt2 hv0)))
  have hn2 : ¬ (200 : Int) < ((wd.length : Nat) : Int) := by omega
  obtain ⟨x0, x1, x2, x3, x4, x5, x6, x7⟩ := hbx w2 (Below.refl _ _)
  rw [nodeAgg_v hv0]
  clear ht hok hz hC hW hA hT hTl hv0 hsn hbw hbx
  go_enter Tryd.func20, Tryd.ntmps20
  go_wp2_with fail
  clear hw2
  go_at_call 17
  refine HF.out.mono ?_
  rintro e w3 ⟨rfl, hb3⟩
  rw [H0.out.2.1]
  have hB3 : Below w.heap.size w w3 := bhop HBX.out.2.1 hb3
  have hnd : NodeAt w3 w.heap.size 0 t := by
    obtain ⟨y0, y1, y2, y3, y4, y5, y6, y7⟩ := HBX.out.1 w3 hb3
    refine ⟨fun j u hu => ?_, _, laid_low H0.out.1 hB3⟩
    rw [Nat.zero_add]
    have hj : j < 8 := by have := (List.getElem?_eq_some_iff.1 hu).1; rwa [ndc_length] at this
    have hnc : ndc t = [.int .i64 t.kind, .int .u64 (t.set 0 : Nat), .int .u64 (t.set 1 : Nat), .int .u64 (t.set 2 : Nat), .int .u64 (t.set 3 : Nat), .slice sa sn sc, .int .i64 t.lo, .int .i64 t.hi] := by unfold ndc; rw [HBX.out.2.2.2]
    rw [hnc] at hu
    have : j = 0 ∨ j = 1 ∨ j = 2 ∨ j = 3 ∨ j = 4 ∨ j = 5 ∨ j = 6 ∨ j = 7 := by omega
    rcases this with rfl | rfl | rfl | rfl | rfl | rfl | rfl | rfl <;> (rw [← Option.some.inj hu]; assumption)
  have HLD := Lib.hid (laid_any t w.heap.size 0 w3 hnd H0.out.2.1 H0.out.2.2.1)
  have H3 := Lib.hid (And.intro hb3 hB3)
  clear hb3 hB3 hnd x0 x1 x2 x3 x4 x5 x6 x7 HF
  go_wp2_with fail
  go_at_call 29
  refine HLD.out.mono ?_
  rintro e w4 ⟨g, cap, n, rfl, L, P, ou, fi, sz, fr, hT4, hL4, hF4, hB4⟩
  have hall := hL4.all (S := fun x => ClN (erase x)) H0.out.2.2.2.1 fun x hx p hp => (clN_set hx).2 p hp
  have hs3 := H3.out.2.size
  have HRT := Lib.hid (reachedT_any (wd := wd) t gw ow capw A w4 hL4 hT4 hF4 hB4 H0.out.2.2.1 (fun j hj => (clN_set (hall j hj)).1) (H0.out.2.2.2.2.1.keep (fun hg => H3.out.2.block gw hg) hs3) H0.out.2.2.2.2.2.1 (by omega) ⟨fun j hj => (World.cell?_of_block (w := w) (H3.out.2.block tabN H0.out.2.2.2.2.2.2.2)).trans (H0.out.2.2.2.2.2.2.1 j hj), by have := H0.out.2.2.2.2.2.2.2; omega, Nat.le_refl _⟩)
  clear hT4 hL4 hF4 hB4 hall hs3 HLD
  go_wp2_with fail
  go_at_call 30
  refine HRT.out.mono ?_
  rintro e w5 ⟨o, co, rfl, hR5, hB5⟩
  have H5 := Lib.hid (And.intro hR5 (bhop H3.out.2 (hB5.mono (Nat.le_refl _))))
  clear hR5 hB5
  go_wp2_with fail
  go_ret2
  exact ⟨o, co, rfl, H5.out.1, H5.out.2⟩

set_option maxHeartbeats 8000000 in
set_option maxRecDepth 100000 in
theorem reachedS_long (t : V) (w : World) (R : Nat → Prop) (ln capw : Nat) (A : Option Addr) (ht : Laid w R t) (hok : okT (erase t) = true) (hz : szT (erase t) ≤ 1000000) (hn : 200 < ln) :
    Calls Tryd.prog 20 #[nodeAgg t, .slice A ln capw] w fun e w' => e = .returned (.tuple #[.slice none 0 0, .int .i64 3]) ∧ Below w.heap.size w w' := by
  obtain ⟨sa, sc, hv0, _⟩ := laid_row' ht
  obtain ⟨sn, hsn⟩ : ∃ sn, sn = t.ps.length := ⟨_, rfl⟩
  rw [← hsn] at hv0
  obtain ⟨w2, hw2, hbw, hlt2, hbx⟩ := box_new w t (.slice sa sn sc)
  have HF := Lib.hid (callsIn_wide.1 (formed_in t w2 sa sn sc hv0 R (laid_low ht hbw) (by rw [dpt_erase]; exact Nat.le_trans (dpt_sz _) hz)))
  have H0 := Lib.hid (And.intro hok hbw)
  have hn2 : (200 : Int) < ((ln : Nat) : Int) := by omega
  obtain ⟨x0, x1, x2, x3, x4, x5, x6, x7⟩ := hbx w2 (Below.refl _ _)
  rw [nodeAgg_v hv0]
  clear ht hok hz hv0 hsn hbw hbx
  go_enter Tryd.func20, Tryd.ntmps20
  go_wp2_with fail
  clear hw2
  go_at_call 17
  refine HF.out.mono ?_
  rintro e w3 ⟨rfl, hb3⟩
  rw [H0.out.1]
  have HB := Lib.hid (bhop H0.out.2 hb3)
  clear hb3
  go_wp2_with fail
  go_ret2
  exact ⟨rfl, HB.out⟩
/-- What Is tells. -/
def IsO (wd : List Nat) (t : V) (w : World) (b : Bool) (w' : World) : Prop := (b = true ↔ Lg (erase t) wd) ∧ Below w.heap.size w w'
set_option maxHeartbeats 8000000 in
set_option maxRecDepth 100000 in
theorem isS_any (t : V) (w : World) (R : Nat → Prop) (wd : List Nat) (gw ow capw : Nat) (A : Option Addr) (ht : Laid w R t) (hok : okT (erase t) = true) (hz : szT (erase t) ≤ 1000000) (hC : ClN (erase t)) (hW : WrdM w gw ow wd) (hA : wd ≠ [] → A = some ⟨gw, ow, none⟩) (hn : wd.length ≤ 200) (hT : TabN w) (hTl : tabN < w.heap.size) :
    Calls Tryd.prog 16 #[nodeAgg t, .slice A wd.length capw] w fun e w' => ∃ b : Nat → Bool, e = .returned (.tuple #[.bool (b 0), .int .i64 0]) ∧ IsO wd t w (b 0) w' := by
  obtain ⟨sa, sc, hv0, _⟩ := laid_row' ht
  obtain ⟨sn, hsn⟩ : ∃ sn, sn = t.ps.length := ⟨_, rfl⟩
  rw [← hsn] at hv0
  obtain ⟨w2, hw2, hbw, hlt2, hbx⟩ := box_new w t (.slice sa sn sc)
  have hrd := reachedS_any t w2 R wd gw ow capw A (laid_low ht hbw) hok hz hC (hW.keep (fun hg => hbw.block gw hg) hbw.size) hA hn (fun j hj => (World.cell?_of_block (w := w) (hbw.block tabN hTl)).trans (hT j hj)) (by have := hbw.size; omega)
  rw [nodeAgg_v hv0] at hrd
  have HR := Lib.hid hrd
  have H0 := Lib.hid (And.intro hbw hn)
  obtain ⟨x0, x1, x2, x3, x4, x5, x6, x7⟩ := hbx w2 (Below.refl _ _)
  rw [nodeAgg_v hv0]
  clear ht hok hz hC hW hA hT hTl hv0 hsn hbw hbx hrd
  go_enter Tryd.func16, Tryd.ntmps16
  go_wp2_with fail
  clear hw2
  go_at_call 20
  refine HR.out.mono ?_
  rintro e w3 ⟨o, co, rfl, hR3, hb3⟩
  obtain ⟨m, hm1, hm2⟩ := hR3.ex
  have h0 := hm2 0 (Nat.zero_le _) wd.length (by omega)
  have hhas := rowHas_any o (wd.length + 1) 0 wd.length m w3 hm1 (by omega) (by omega)
  rw [Nat.zero_mul] at hhas
  have HH := Lib.hid (And.intro hhas (And.intro h0 (bhop H0.out.1 hb3)))
  have i1 : (0 : Int) ≤ 0 ∧ (0 : Int) < ((wd.length + 1 : Nat) : Int) := by omega
  clear hR3 hb3 hm1 hm2 h0 hhas HR
  obtain ⟨ln, hln⟩ : ∃ ln, ln = wd.length + 1 := ⟨_, rfl⟩
  rw [← hln] at i1 ⊢
  clear hln
  go_wp2_with fail
  go_at_call 21
  refine HH.out.1.mono ?_
  rintro e w4 ⟨rfl, rfl⟩
  go_wp2_with fail
  go_ret2
  exact ⟨fun _ => hasB (m 0) wd.length, rfl, HH.out.2.1.trans rch_whole, HH.out.2.2⟩
set_option maxHeartbeats 8000000 in
set_option maxRecDepth 100000 in
theorem isS_long (t : V) (w : World) (R : Nat → Prop) (ln capw : Nat) (A : Option Addr) (ht : Laid w R t) (hok : okT (erase t) = true) (hz : szT (erase t) ≤ 1000000) (hn : 200 < ln) :
    Calls Tryd.prog 16 #[nodeAgg t, .slice A ln capw] w fun e w' => e = .returned (.tuple #[.bool false, .int .i64 3]) ∧ Below w.heap.size w w' := by
  obtain ⟨sa, sc, hv0, _⟩ := laid_row' ht
  obtain ⟨sn, hsn⟩ : ∃ sn, sn = t.ps.length := ⟨_, rfl⟩
  rw [← hsn] at hv0
  obtain ⟨w2, hw2, hbw, hlt2, hbx⟩ := box_new w t (.slice sa sn sc)
  have hrd := reachedS_long t w2 R ln capw A (laid_low ht hbw) hok hz hn
  rw [nodeAgg_v hv0] at hrd
  have HR := Lib.hid hrd
  have H0 := Lib.hid hbw
  obtain ⟨x0, x1, x2, x3, x4, x5, x6, x7⟩ := hbx w2 (Below.refl _ _)
  rw [nodeAgg_v hv0]
  clear ht hok hz hv0 hsn hbw hbx hrd
  go_enter Tryd.func16, Tryd.ntmps16
  go_wp2_with fail
  clear hw2
  go_at_call 20
  refine HR.out.mono ?_
  rintro e w3 ⟨rfl, hb3⟩
  have HH := Lib.hid (bhop H0.out hb3)
  clear hb3 HR
  go_wp2_with fail
  go_ret2
  exact ⟨rfl, HH.out⟩

end Go.Proofs.YtdjddmkmcdfmiaaDoor
