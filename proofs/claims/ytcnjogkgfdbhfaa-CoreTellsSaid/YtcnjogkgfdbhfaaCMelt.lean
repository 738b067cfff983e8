/- Which parts melt into a node, and what is gone through of a node's parts: plain facts; the call that tells it: a contract.
   Conditions: both nodes lie in memory. -/
import Derived.Test.YtcnjogkgfdbhfaaSameS
import Derived.Deep.QuietTactic
import Derived.BigQuiet
namespace Go.Proofs.Ytcnjogkgfdbhfaa
open Go.RowKit

/-- A part of that kind, those bounds melts into a node of the kind k. -/
def meltK (k' lo hi k : Int) : Bool := if k' = 2 ∨ k' = 3 then decide (k' = k) else if k' = 4 then decide (lo = 1 ∧ hi = 1) else false
mutual
/-- What comes of a part: it, or what comes of its parts. -/
def flatV (k : Int) : V → List V
  | .node k' C lo hi v ps => if meltK k' lo hi k then flatsV k ps else [.node k' C lo hi v ps]
def flatsV (k : Int) : List V → List V
  | [] => []
  | p :: ps => flatV k p ++ flatsV k ps
end
theorem flat_yes {k : Int} {p : V} (h : meltK p.kind p.lo p.hi k = true) : flatV k p = flatsV k p.ps := by
  cases p with
  | node k' C lo hi v ps => rw [flatV, if_pos (show meltK k' lo hi k = true from h)]; rfl
theorem flat_no {k : Int} {p : V} (h : meltK p.kind p.lo p.hi k = false) : flatV k p = [p] := by
  cases p with
  | node k' C lo hi v ps => rw [flatV, if_neg (by rw [show meltK k' lo hi k = false from h]; decide)]
/-- The lists of nodes that are still to come, the next one first: what comes of them, and how much there is to do. -/
def todoF (k : Int) : List (Value × List V) → List V
  | [] => []
  | r :: st => flatsV k r.2 ++ todoF k st
def wF : List (Value × List V) → Nat
  | [] => 0
  | r :: st => 3 * szsT (erases r.2) + 1 + wF st
theorem wF_len : ∀ st : List (Value × List V), st.length ≤ wF st
  | [] => by simp
  | r :: st => by have := wF_len st; rw [wF, List.length_cons]; omega
theorem todoF_nil (k : Int) (v : Value) (st : List (Value × List V)) : todoF k ((v, []) :: st) = todoF k st := by
  rw [todoF, flatsV]; rfl
theorem todoF_yes {k : Int} {v v' : Value} {u : V} {us : List V} {st : List (Value × List V)} (h : meltK u.kind u.lo u.hi k = true) : todoF k ((v, u :: us) :: st) = todoF k ((u.v, u.ps) :: (v', us) :: st) := by
  rw [todoF, todoF, todoF, flatsV, flat_yes h, List.append_assoc]
theorem todoF_no {k : Int} {v v' : Value} {u : V} {us : List V} {st : List (Value × List V)} (h : meltK u.kind u.lo u.hi k = false) : todoF k ((v, u :: us) :: st) = u :: todoF k ((v', us) :: st) := by
  rw [todoF, todoF, flatsV, flat_no h]
  rfl
theorem wF_nil (v : Value) (st : List (Value × List V)) : wF ((v, []) :: st) = wF st + 1 := by rw [wF, erases, szsT]; omega
theorem wF_cons (v v' : Value) (u : V) (us : List V) (st : List (Value × List V)) : wF ((v, u :: us) :: st) = 3 * szT (erase u) + wF ((v', us) :: st) := by simp only [wF, erases, szsT]; omega
theorem wF_push (v v' : Value) (u : V) (us : List V) (st : List (Value × List V)) : wF ((u.v, u.ps) :: (v', us) :: st) + 2 = wF ((v, u :: us) :: st) := by
  rw [wF_cons v v', wF, sz_eq]
  show 3 * szsT (erases u.ps) + 1 + _ + 2 = _
  omega

set_option maxHeartbeats 2000000 in
set_option maxRecDepth 100000 in
theorem melts_any (b1 o1 b2 o2 : Nat) (p t : V) (w : World) (hp : ∀ j u, (ndc p)[j]? = some u → w.cell? ⟨b1, o1 + j, none⟩ = some u) (ht : ∀ j u, (ndc t)[j]? = some u → w.cell? ⟨b2, o2 + j, none⟩ = some u) :
    Calls Try.prog 40 #[.pointer (some ⟨b1, o1, none⟩), .pointer (some ⟨b2, o2, none⟩)] w fun e w' => e = .returned (.bool (meltK p.kind p.lo p.hi t.kind)) ∧ ∃ n, w' = w.drewN n := by
  have x0 : w.cell? ⟨b1, o1, none⟩ = some (.int .i64 p.kind) := hp 0 _ rfl
  have x6 : w.cell? ⟨b1, o1 + 6, none⟩ = some (.int .i64 p.lo) := hp 6 _ rfl
  have x7 : w.cell? ⟨b1, o1 + 7, none⟩ = some (.int .i64 p.hi) := hp 7 _ rfl
  have y0 : w.cell? ⟨b2, o2, none⟩ = some (.int .i64 t.kind) := ht 0 _ rfl
  clear hp ht
  generalize p.kind = k' at *
  generalize t.kind = k at *
  generalize p.lo = lo at *
  generalize p.hi = hi at *
  by_cases h2 : k' = 2
  · subst h2
    have HM := Lib.hid (show meltK 2 lo hi k = (2 == k) by unfold meltK; rw [if_pos (by decide)]; by_cases e : (2 : Int) = k <;> simp [e])
    go_enter Try.func40, Try.ntmps40
    go_wp2_with fail
    go_quiet (fail)
    go_wp2_with fail
    go_ret
    exact ⟨by rw [HM.out]; rfl, _, rfl⟩
  by_cases h3 : k' = 3
  · subst h3
    have HM := Lib.hid (show meltK 3 lo hi k = (3 == k) by unfold meltK; rw [if_pos (by decide)]; by_cases e : (3 : Int) = k <;> simp [e])
    go_enter Try.func40, Try.ntmps40
    go_wp2_with fail
    go_quiet (fail)
    go_wp2_with fail
    go_ret
    exact ⟨by rw [HM.out]; rfl, _, rfl⟩
  have f2 : (k' == 2) = false := by simp [h2]
  have f3 : (k' == 3) = false := by simp [h3]
  by_cases h4 : k' = 4
  · subst h4
    by_cases e1 : lo = 1
    · have g1 : (lo == 1) = true := by simp [e1]
      have HM := Lib.hid (show meltK 4 lo hi k = (hi == 1) by unfold meltK; rw [if_neg (by decide), if_pos rfl]; by_cases e : hi = 1 <;> simp [e1, e])
      clear e1 h2 h3
      go_enter Try.func40, Try.ntmps40
      go_wp2_with fail
      go_ret
      exact ⟨by rw [HM.out]; rfl, 0, rfl⟩
    · have g1 : (lo == 1) = false := by simp [e1]
      have HM := Lib.hid (show meltK 4 lo hi k = false by unfold meltK; rw [if_neg (by decide), if_pos rfl]; simp [e1])
      clear e1 h2 h3
      go_enter Try.func40, Try.ntmps40
      go_wp2_with fail
      go_ret
      exact ⟨by rw [HM.out]; rfl, 0, rfl⟩
  · have f4 : (k' == 4) = false := by simp [h4]
    have HM := Lib.hid (show meltK k' lo hi k = false by unfold meltK; rw [if_neg (by omega), if_neg h4])
    clear h2 h3 h4
    go_enter Try.func40, Try.ntmps40
    go_wp2_with fail
    go_ret
    exact ⟨by rw [HM.out]; rfl, 0, rfl⟩

end Go.Proofs.Ytcnjogkgfdbhfaa
