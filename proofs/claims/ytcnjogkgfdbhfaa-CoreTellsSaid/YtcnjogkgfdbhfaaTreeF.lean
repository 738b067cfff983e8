/- When a tree is formed, when two are alike: plain functions and facts.
   No conditions but those that each theorem states. -/
import Derived.Test.YtcnjogkgfdbhfaaWalkV
import Derived.Test.YtcnjogkgfdbhfaaOpenT
import Derived.Test.YtcnjogkgfdbhfaaTrBase
namespace Go.Proofs.Ytcnjogkgfdbhfaa
open Go.RowKit

/-- Four words are those of no byte. -/
def z4 (C : Nat → Nat) : Bool := decide (C 0 = 0 ∧ C 1 = 0 ∧ C 2 = 0 ∧ C 3 = 0)
def bnd (lo hi : Int) : Bool := decide (0 ≤ lo ∧ lo ≤ 2147483647 ∧ (hi = -1 ∨ (lo ≤ hi ∧ hi ≤ 2147483647)))
/-- A node has what its kind has, whatever its parts have. -/
def okA (k : Int) (Z : Bool) (lo hi : Int) (n : Nat) : Bool :=
  decide ((k = 0 ∧ Z = true ∧ lo = 0 ∧ hi = 0 ∧ n = 0) ∨ (k = 1 ∧ lo = 0 ∧ hi = 0 ∧ n = 0) ∨ ((k = 2 ∨ k = 3) ∧ Z = true ∧ lo = 0 ∧ hi = 0 ∧ 2 ≤ n) ∨ (k = 4 ∧ Z = true ∧ n = 1 ∧ bnd lo hi = true))
mutual
def okT : T → Bool
  | .node k C lo hi ps => okA k (z4 C) lo hi ps.length && oksT ps
def oksT : List T → Bool
  | [] => true
  | t :: ts => okT t && oksT ts
end
theorem oks_append (a b : List T) : oksT (a ++ b) = (oksT a && oksT b) := by
  induction a with
  | nil => simp [oksT]
  | cons t a ih => rw [List.cons_append, oksT, oksT, ih, Bool.and_assoc]
theorem oks_one (t : T) : oksT [t] = okT t := by rw [oksT, oksT, Bool.and_true]
theorem oks_take {ps : List V} {i : Nat} {p : V} (h : ps[i]? = some p) : oksT (erases (ps.take (i + 1))) = (oksT (erases (ps.take i)) && okT (erase p)) := by
  rw [List.take_add_one, h, erases_append, oks_append]
  congr 1
  show oksT (erases [p]) = _
  rw [erases, erases, oks_one]
/-- What is known of a node alone, of one that lies in memory. -/
def okV (t : V) : Bool := okA t.kind (z4 t.set) t.lo t.hi t.ps.length
theorem okT_eq (t : V) : okT (erase t) = (okV t && oksT (erases t.ps)) := by
  cases t with
  | node k C lo hi v ps => rw [erase, okT, erases_length]; rfl
mutual
theorem all_pre : ∀ (t : V) (d : Nat), (preV d t).all (fun x => okV x.2) = okT (erase t)
  | .node k C lo hi v ps, d => by
    rw [preV, List.all_cons, all_pres ps (d + 1), okT_eq]
    rfl
theorem all_pres : ∀ (ts : List V) (d : Nat), (presV d ts).all (fun x => okV x.2) = oksT (erases ts)
  | [], d => by rw [presV, erases, oksT]; rfl
  | t :: ts, d => by rw [presV, List.all_append, all_pre t d, all_pres ts d, erases, oksT]
end
def eq4 (A B : Nat → Nat) : Bool := decide (A 0 = B 0 ∧ A 1 = B 1 ∧ A 2 = B 2 ∧ A 3 = B 3)
/-- Two nodes are alike, whatever their parts have. -/
def likeA (a b : T) : Bool := match a, b with
  | .node k C lo hi ps, .node k' C' lo' hi' qs => decide (k = k' ∧ eq4 C C' = true ∧ lo = lo' ∧ hi = hi' ∧ ps.length = qs.length)
mutual
def likeT : T → T → Bool
  | .node k C lo hi ps, b => likeA (.node k C lo hi ps) b && likesT ps b.ps
def likesT : List T → List T → Bool
  | [], _ => true
  | _ :: _, [] => true
  | p :: ps, q :: qs => likeT p q && likesT ps qs
end
def likeV (a b : V) : Bool := decide (a.kind = b.kind ∧ eq4 a.set b.set = true ∧ a.lo = b.lo ∧ a.hi = b.hi ∧ a.ps.length = b.ps.length)
theorem erase_ps (b : V) : (erase b).ps = erases b.ps := by cases b; rw [erase]; rfl
theorem likeT_eq (a b : V) : likeT (erase a) (erase b) = (likeV a b && likesT (erases a.ps) (erases b.ps)) := by
  cases a with
  | node k C lo hi v ps =>
  cases b with
  | node k' C' lo' hi' v' qs =>
    rw [erase, likeT, erase]
    congr 1
    simp only [likeA, likeV, V.kind, V.set, V.lo, V.hi, V.ps, erases_length]
    rfl
theorem likes_nil (qs : List T) : likesT [] qs = true := by rw [likesT]
theorem likes_take {ps qs : List V} (hlen : ps.length = qs.length) : ∀ {i : Nat} {p q : V}, ps[i]? = some p → qs[i]? = some q → likesT (erases (ps.take (i + 1))) (erases (qs.take (i + 1))) = (likesT (erases (ps.take i)) (erases (qs.take i)) && likeT (erase p) (erase q)) := by
  induction ps generalizing qs with
  | nil => intro i p q h; simp at h
  | cons x ps ih =>
    cases qs with
    | nil => simp at hlen
    | cons y qs =>
      intro i p q h1 h2
      cases i with
      | zero =>
        simp at h1 h2
        subst h1 h2
        simp [erases, likesT]
      | succ i =>
        have := ih (qs := qs) (by simpa using hlen) (i := i) (p := p) (q := q) (by simpa using h1) (by simpa using h2)
        simp only [List.take_succ_cons, erases, likesT] at this ⊢
        rw [this, Bool.and_assoc]
mutual
theorem like_self : ∀ t : T, likeT t t = true
  | .node k C lo hi ps => by
    rw [likeT]
    simp only [likeA, T.ps]
    rw [likes_self ps]
    simp [eq4]
theorem likes_self : ∀ ts : List T, likesT ts ts = true
  | [] => by rw [likesT]
  | t :: ts => by rw [likesT, like_self t, likes_self ts]; rfl
end

end Go.Proofs.Ytcnjogkgfdbhfaa
