/- Small texts as they are read; the parts of a tree that reads so: plain facts.
   No conditions but those that each theorem states. -/
import Derived.Test.YtnebfniekeknaaaDoorMNodes
import Derived.Test.YtnebfniekeknaaaDoorMBase

/- How deep a tree is, and how many places it has: contracts.
   Conditions: the tree lies in memory, and is at most 1000000 deep. -/
namespace Go.Proofs.YtnebfniekeknaaaDoor
open Go.RowKit Go.Shelf
attribute [local go_sem] Oper.semAt_some encsV nodeAgg

def maxd (l : List (Nat × V)) : Nat := l.foldl (fun m x => max m x.1) 0
theorem maxd_snoc (l : List (Nat × V)) (x : Nat × V) : maxd (l ++ [x]) = max (maxd l) x.1 := by unfold maxd; rw [List.foldl_append]; rfl
theorem foldl_max (l : List (Nat × V)) (m : Nat) : l.foldl (fun m x => max m x.1) m = max m (maxd l) := by
  induction l generalizing m with
  | nil => simp [maxd]
  | cons x l ih =>
    rw [List.foldl_cons, ih]
    have := ih (max 0 x.1)
    unfold maxd at this ⊢
    rw [List.foldl_cons, this]
    omega
theorem maxd_append (a b : List (Nat × V)) : maxd (a ++ b) = max (maxd a) (maxd b) := by
  unfold maxd
  rw [List.foldl_append, foldl_max]
  rfl
theorem maxd_cons (x : Nat × V) (b : List (Nat × V)) : maxd (x :: b) = max x.1 (maxd b) := by
  have := maxd_append [x] b
  simpa [maxd] using this
mutual
theorem maxd_pre : ∀ (t : V) (d : Nat), maxd (preV (d + 1) t) = d + dptV t
  | .node k C lo hi v ps, d => by
    rw [preV, maxd_cons, dptV]
    have := maxd_pres ps (d + 1)
    by_cases h : ps = []
    · subst h
      rw [presV, dptsV]
      simp [maxd]
    · rw [this h]
      simp only
      omega
theorem maxd_pres : ∀ (ts : List V) (d : Nat), ts ≠ [] → maxd (presV (d + 1) ts) = d + dptsV ts
  | [], d, h => absurd rfl h
  | t :: ts, d, _ => by
    rw [presV, maxd_append, maxd_pre t d, dptsV]
    by_cases h : ts = []
    · subst h
      rw [presV, dptsV]
      simp [maxd]
    · rw [maxd_pres ts d h]
      omega
end
theorem maxd_le (t : V) {pre post : List (Nat × V)} (h : preV 1 t = pre ++ post) : maxd pre ≤ dptV t := by
  have := maxd_pre t 0
  rw [h, maxd_append] at this
  omega
mutual
def plcV : V → Nat
  | .node k _ _ _ _ ps => (if k = 1 then 1 else 0) + plcsV ps
def plcsV : List V → Nat
  | [] => 0
  | t :: ts => plcV t + plcsV ts
end
def ones (l : List (Nat × V)) : Nat := l.countP fun x => x.2.kind == 1
mutual
theorem ones_pre : ∀ (t : V) (d : Nat), ones (preV d t) = plcV t
  | .node k C lo hi v ps, d => by
    rw [preV, plcV]
    unfold ones
    rw [List.countP_cons]
    have := ones_pres ps (d + 1)
    unfold ones at this
    rw [this]
    by_cases h : k = 1
    · subst h; simp [V.kind]; omega
    · simp [V.kind, h]
theorem ones_pres : ∀ (ts : List V) (d : Nat), ones (presV d ts) = plcsV ts
  | [], d => by rw [presV, plcsV]; rfl
  | t :: ts, d => by
    rw [presV, plcsV]
    have h1 := ones_pre t d
    have h2 := ones_pres ts d
    unfold ones at h1 h2 ⊢
    rw [List.countP_append, h1, h2]
end

set_option maxRecDepth 100000 in
set_option maxHeartbeats 2000000 in
theorem nodes_in (n : Nat) (k c0 c1 c2 c3 lo hi : Int) (sa : Option Addr) (sn sc : Nat) (w : World) :
    CallsIn Fence.wide n Tryd.prog 78 #[.agg #[.int .i64 k, .int .u64 c0, .int .u64 c1, .int .u64 c2, .int .u64 c3, .slice sa sn sc, .int .i64 lo, .int .i64 hi]] w fun e w' => e = .returned (.func (.func 99) #[] #[.pointer (some ⟨w.heap.size, 0, none⟩)]) ∧ w' = w.alloc (.cells #[.int .i64 k, .int .u64 c0, .int .u64 c1, .int .u64 c2, .int .u64 c3, .slice sa sn sc, .int .i64 lo, .int .i64 hi] 27) := by
  refine callsIn_of_wp Tryd.func78 rfl trivial ?_ rfl
  simp only [Tryd.ntmps78, List.size_toArray, List.length_cons, List.length_nil, Nat.reduceAdd, Nat.reduceSub, Array.replicate_succ, Array.replicate_zero, List.push_toArray, List.append_toArray, List.nil_append, List.cons_append]
  gi_wp2
  go_ret
  exact ⟨rfl, rfl⟩

def DI (w : World) (pre : List (Nat × V)) (W : World) : Prop := W.heap[w.heap.size + 1]? = some (.cells #[.int .i64 (maxd pre)] 3 (0, 0)) ∧ Below w.heap.size w W ∧ w.heap.size + 1 < W.heap.size

theorem kpV_refl (D0 : Nat) (W : World) : KpV D0 W W := ⟨Nat.le_refl _, fun _ _ _ _ h _ => h⟩
theorem kpV_put {D0 : Nat} (W : World) (l : Nat) (o o' : Obj) (hl : W.heap[l]? = some o) (ho : o.isCells = false) : KpV D0 W (W.putObj l o') :=
  ⟨by simp, fun k c ty f hk _ => (World.putObj_heap_other (fun e => by subst e; rw [hk] at hl; cases hl; cases ho)).trans hk⟩
theorem kpV_set {D0 : Nat} (W : World) (o : Nat) (v : Value) : KpV D0 W (W.setCell ⟨D0, o, none⟩ v) :=
  ⟨by simp, fun k c ty f hk hne => (Below.heap_setCell _ _ _ _ hne).trans hk⟩
theorem kpV_alloc {D0 : Nat} (W : World) (o : Obj) : KpV D0 W (W.alloc o) :=
  ⟨by simp, fun k c ty f hk _ => (Below.heap_alloc _ _ _ (Array.getElem?_eq_some_iff.1 hk).1).trans hk⟩
theorem heap_one {w : World} {B : Nat} {v u : Value} {ty : TypeId} (h : w.heap[B]? = some (.cells #[v] ty (0, 0))) : (w.setCell ⟨B, 0, none⟩ u).heap[B]? = some (.cells #[u] ty (0, 0)) := by
  simp [World.setCell, Array.getElem?_modify, h]
/-- The world in which the loop over a tree's nodes begins. -/
structure Begun (w w0 : World) (t : V) (z : Int) : Prop where
  size : w0.heap.size = w.heap.size + 3
  chg : Chg (fun _ => False) w w0
  cell : w0.heap[w.heap.size + 1]? = some (.cells #[.int .i64 z] 3 (0, 0))
  box : ∀ j u, (ndc t)[j]? = some u → w0.cell? ⟨w.heap.size + 1 + 1, j, none⟩ = some u
theorem begun (w : World) (t : V) (sa : Option Addr) (sn sc : Nat) (hsl : t.v = .slice sa sn sc) :
    Begun w (((w.alloc (.cells #[.int .i64 t.kind, .int .u64 (t.set 0 : Nat), .int .u64 (t.set 1 : Nat), .int .u64 (t.set 2 : Nat), .int .u64 (t.set 3 : Nat), .slice sa sn sc, .int .i64 t.lo, .int .i64 t.hi] 27)).alloc (.cells #[.int .i64 0] 3)).alloc (.cells #[.int .i64 t.kind, .int .u64 (t.set 0 : Nat), .int .u64 (t.set 1 : Nat), .int .u64 (t.set 2 : Nat), .int .u64 (t.set 3 : Nat), .slice sa sn sc, .int .i64 t.lo, .int .i64 t.hi] 27)) t 0 := by
  have hnd : #[.int .i64 t.kind, .int .u64 (t.set 0 : Nat), .int .u64 (t.set 1 : Nat), .int .u64 (t.set 2 : Nat), .int .u64 (t.set 3 : Nat), .slice sa sn sc, .int .i64 t.lo, .int .i64 t.hi] = (ndc t).toArray := by unfold ndc; rw [hsl]
  rw [hnd]
  refine ⟨by simp, (((Chg.refl _ w).alloc _).alloc _).alloc _, ?_, fun j u hu => ?_⟩
  · have e := heap_alloc_new (w.alloc (.cells (ndc t).toArray 27)) (.cells #[.int .i64 0] 3)
    rw [World.size_alloc] at e
    exact (Below.heap_alloc _ _ _ (by simp)).trans e
  · have e := heap_alloc_new ((w.alloc (.cells (ndc t).toArray 27)).alloc (.cells #[.int .i64 0] 3)) (.cells (ndc t).toArray 27)
    rw [World.size_alloc, World.size_alloc] at e
    rw [(row_cells e).1 j, List.getElem?_toArray]
    exact hu

theorem di_step {w w2 : World} {pre : List (Nat × V)} {x : Nat × V} {Ix : List (Nat × V) → World → Prop} (h : DI w pre w2) (m : Nat) (hm : m = max (maxd pre) x.1) :
    Left (KpV (w.heap.size + 1)) (DI w) Ix pre x w2 .normal (w2.setCell ⟨w.heap.size + 1, 0, none⟩ (.int .i64 m)) := by
  obtain ⟨h1, h2, h3⟩ := h
  refine ⟨KeepsOthers.setCell _ _ _, kpV_set _ _ _, ?_, h2.setCell (p := ⟨w.heap.size + 1, 0, none⟩) (by simp) _, by simp; omega⟩
  rw [maxd_snoc, ← hm]
  exact heap_one h1

end Go.Proofs.YtnebfniekeknaaaDoor

/- How many places a tree has: a contract.
   Conditions: the tree lies in memory, is at most 1000000 deep, and has at most 1000000 places. -/
namespace Go.Proofs.YtnebfniekeknaaaDoor
open Go.RowKit Go.Shelf
attribute [local go_sem] Oper.semAt_some encsV nodeAgg

theorem mem_presV : ∀ {ts : List V} {d : Nat} {x : Nat × V}, x ∈ presV d ts → ∃ t, t ∈ ts ∧ x ∈ preV d t
  | [], d, x, h => by rw [presV] at h; cases h
  | t :: ts, d, x, h => by
    rw [presV, List.mem_append] at h
    rcases h with h | h
    · exact ⟨t, by simp, h⟩
    · obtain ⟨u, hu, hx⟩ := mem_presV h
      exact ⟨u, by simp [hu], hx⟩
theorem pre_laid {w : World} {R : Nat → Prop} {t : V} (h : Laid w R t) : ∀ (d : Nat) (x : Nat × V), x ∈ preV d t → Laid w R x.2 := by
  induction h with
  | none k C lo hi a cap =>
    intro d x hx
    rw [preV, presV, List.mem_singleton] at hx
    subst hx
    exact .none k C lo hi a cap
  | some k C lo hi ps b off cap hR hlt hcap hc hk ih =>
    intro d x hx
    rw [preV, List.mem_cons] at hx
    rcases hx with rfl | hx
    · exact .some k C lo hi ps b off cap hR hlt hcap hc hk
    · obtain ⟨u, hu, hx⟩ := mem_presV hx
      exact ih u hu (d + 1) x hx
theorem ones_snoc (l : List (Nat × V)) (x : Nat × V) : ones (l ++ [x]) = ones l + if x.2.kind = 1 then 1 else 0 := by
  unfold ones
  rw [List.countP_append]
  by_cases h : x.2.kind = 1
  · simp [h]
  · simp [h]
theorem ones_le (t : V) {pre post : List (Nat × V)} (h : preV 1 t = pre ++ post) : ones pre ≤ plcV t := by
  have := ones_pre t 1
  rw [h] at this
  unfold ones at this ⊢
  rw [List.countP_append] at this
  omega
def PI (w : World) (pre : List (Nat × V)) (W : World) : Prop := W.heap[w.heap.size + 1]? = some (.cells #[.int .i64 (ones pre)] 3 (0, 0)) ∧ Below w.heap.size w W ∧ w.heap.size + 1 < W.heap.size
theorem pi_step {w w2 : World} {pre : List (Nat × V)} {x : Nat × V} {Ix : List (Nat × V) → World → Prop} (h : PI w pre w2) (m : Nat) (hm : m = ones (pre ++ [x])) :
    Left (KpV (w.heap.size + 1)) (PI w) Ix pre x w2 .normal (w2.setCell ⟨w.heap.size + 1, 0, none⟩ (.int .i64 m)) := by
  obtain ⟨h1, h2, h3⟩ := h
  refine ⟨KeepsOthers.setCell _ _ _, kpV_set _ _ _, ?_, h2.setCell (p := ⟨w.heap.size + 1, 0, none⟩) (by simp) _, by simp; omega⟩
  rw [← hm]
  exact heap_one h1
theorem pi_stay {w w2 : World} {pre : List (Nat × V)} {x : Nat × V} {Ix : List (Nat × V) → World → Prop} (h : PI w pre w2) (hm : ones pre = ones (pre ++ [x])) :
    Left (KpV (w.heap.size + 1)) (PI w) Ix pre x w2 .normal w2 := by
  obtain ⟨h1, h2, h3⟩ := h
  refine ⟨KeepsOthers.refl _, kpV_refl _ _, ?_, h2, h3⟩
  rw [← hm]
  exact h1

end Go.Proofs.YtnebfniekeknaaaDoor

/- How great the trees are that the reader makes: plain facts; and what Parse answers.
   No conditions but those that each theorem states. -/
namespace Go.Proofs.YtnebfniekeknaaaDoor

mutual
def dptT : T → Nat
  | .node _ _ _ _ ps => dptsT ps + 1
def dptsT : List T → Nat
  | [] => 0
  | t :: ts => max (dptT t) (dptsT ts)
end
mutual
def plcT : T → Nat
  | .node k _ _ _ ps => (if k = 1 then 1 else 0) + plcsT ps
def plcsT : List T → Nat
  | [] => 0
  | t :: ts => plcT t + plcsT ts
end
mutual
def szT : T → Nat
  | .node _ _ _ _ ps => szsT ps + 1
def szsT : List T → Nat
  | [] => 0
  | t :: ts => szT t + szsT ts
end
mutual
theorem dpt_erase : ∀ t : V, dptV t = dptT (erase t)
  | .node k C lo hi v ps => by rw [dptV, erase, dptT, dpts_erase ps]
theorem dpts_erase : ∀ ts : List V, dptsV ts = dptsT (erases ts)
  | [] => by rw [dptsV, erases, dptsT]
  | t :: ts => by rw [dptsV, erases, dptsT, dpt_erase t, dpts_erase ts]
end
mutual
theorem plc_erase : ∀ t : V, plcV t = plcT (erase t)
  | .node k C lo hi v ps => by rw [plcV, erase, plcT, plcs_erase ps]
theorem plcs_erase : ∀ ts : List V, plcsV ts = plcsT (erases ts)
  | [] => by rw [plcsV, erases, plcsT]
  | t :: ts => by rw [plcsV, erases, plcsT, plc_erase t, plcs_erase ts]
end
mutual
theorem dpt_sz : ∀ t : T, dptT t ≤ szT t
  | .node k C lo hi ps => by rw [dptT, szT]; have := dpts_sz ps; omega
theorem dpts_sz : ∀ ts : List T, dptsT ts ≤ szsT ts
  | [] => by rw [dptsT, szsT]; exact Nat.le_refl _
  | t :: ts => by rw [dptsT, szsT]; have := dpt_sz t; have := dpts_sz ts; omega
end
mutual
theorem plc_sz : ∀ t : T, plcT t ≤ szT t
  | .node k C lo hi ps => by rw [plcT, szT]; have := plcs_sz ps; split <;> omega
theorem plcs_sz : ∀ ts : List T, plcsT ts ≤ szsT ts
  | [] => by rw [plcsT, szsT]; exact Nat.le_refl _
  | t :: ts => by rw [plcsT, szsT]; have := plc_sz t; have := plcs_sz ts; omega
end
theorem szs_append (a b : List T) : szsT (a ++ b) = szsT a + szsT b := by
  induction a with
  | nil => simp [szsT]
  | cons t a ih => rw [List.cons_append, szsT, szsT, ih]; omega
theorem szs_one (t : T) : szsT [t] = szT t := by rw [szsT, szsT]; omega
theorem sz_join (k : Int) (ps : List T) : szT (joinT k ps) ≤ szsT ps + 1 := by
  match ps with
  | [] => show szT zeroT ≤ _; unfold zeroT; rw [szT, szsT]; omega
  | [p] => show szT p ≤ _; rw [szs_one]; omega
  | p :: q :: ps => show szT (.node k zeros 0 0 (p :: q :: ps)) ≤ _; rw [szT]; omega
theorem sz_rep (b : Int × Int) (t : T) : szT (repT b t) = szT t + 1 := by unfold repT; rw [szT, szs_one]
theorem szs_repLast (b : Int × Int) (ps : List T) : szsT (repLast b ps) ≤ szsT ps + 1 := by
  induction ps with
  | nil => show szsT [] ≤ _; rw [szsT]; omega
  | cons p ps ih =>
    cases ps with
    | nil => show szsT [repT b p] ≤ _; rw [szs_one, szs_one, sz_rep]; omega
    | cons q ps => show szsT (p :: repLast b (q :: ps)) ≤ _; rw [szsT, szsT]; omega
def szG (g : G) : Nat := szsT g.rows + szsT g.row
def szGs : List G → Nat
  | [] => 0
  | g :: gs => szG g + szGs gs
theorem sz_shut (g : G) : szT (shutT g) ≤ szG g + 2 := by
  unfold shutT szG
  have h1 := sz_join 3 (g.rows ++ [joinT 2 g.row])
  have h2 := sz_join 2 g.row
  rw [szs_append, szs_one] at h1
  omega
theorem sz_step {g : G} {frs : List G} {r : List Nat} {x : G × List G} {r' : List Nat} (h : pstep g frs r = .ok x r') : szG x.1 + szGs x.2 ≤ szG g + szGs frs + 2 := by
  cases r with
  | nil => cases h
  | cons b r =>
    simp only [pstep] at h
    split at h
    · injection h with h _; subst h
      have e1 : szGs (g :: frs) = szG g + szGs frs := rfl
      have e2 : szG ⟨[], []⟩ = 0 := by unfold szG; simp [szsT]
      show szG ⟨[], []⟩ + szGs (g :: frs) ≤ _
      rw [e1, e2]
      omega
    · split at h
      · injection h with h _; subst h
        have := sz_join 2 g.row
        simp only [szG, szs_append, szs_one]
        rw [show szsT [] = 0 from by rw [szsT]]
        omega
      · split at h
        · split at h
          · cases h
          · rename_i p ps
            injection h with h _; subst h
            have := sz_shut g
            simp only [szGs, szG, szs_append, szs_one] at this ⊢
            omega
        · split at h
          · split at h
            · cases h
            · split at h
              · cases h
              · rename_i t r2 _
                injection h with h _; subst h
                have := szs_repLast t g.row
                simp only [szG]
                omega
          · split at h
            · cases h
            · injection h with h _; subst h
              simp only [szG, szs_append, szs_one]
              have : ∀ S, szT (atomT S) = 1 := fun S => by unfold atomT; rw [szT, szsT]
              rw [this]
              omega
theorem prun_nil' (g : G) : prun g [] [] = .ok (shutT g) [] := by rw [prun]
theorem prun_open' (g p : G) (ps : List G) : prun g (p :: ps) [] = .er [] 2 := by rw [prun]
theorem prun_cons' (g : G) (frs : List G) (b : Nat) (r : List Nat) : prun g frs (b :: r) = match pstep g frs (b :: r) with
    | .er r' c => .er r' c
    | .ok x r' => prun x.1 x.2 r' := by
  rw [prun]
  cases pstep g frs (b :: r) <;> rfl
theorem sz_run : ∀ (n : Nat) {g : G} {frs : List G} {r : List Nat} {t : T} {r' : List Nat}, r.length ≤ n → prun g frs r = .ok t r' → szT t ≤ szG g + szGs frs + 2 * r.length + 2
  | n, g, frs, [], t, r', _, h => by
    cases frs with
    | nil => rw [prun_nil'] at h; injection h with h _; subst h; have := sz_shut g; simp [szGs]; omega
    | cons p ps => rw [prun_open'] at h; cases h
  | n, g, frs, b :: r, t, r', hn, h => by
    rw [prun_cons'] at h
    split at h
    · cases h
    · rename_i x r2 hx
      have hl := pstep_len hx
      have hs := sz_step hx
      match n, hn with
      | 0, hn => simp at hn
      | n + 1, hn =>
        simp at hn hl
        have := sz_run n (by omega) h
        simp
        omega
theorem sz_all {r : List Nat} {t : T} {r' : List Nat} (h : prun ⟨[], []⟩ [] r = .ok t r') : szT t ≤ 2 * r.length + 2 := by
  have := sz_run _ (Nat.le_refl _) h
  have e : szG ⟨[], []⟩ = 0 := by unfold szG; simp [szsT]
  rw [e] at this
  simp [szGs] at this
  omega

/-- What Parse answers of a text: its tree, a place, an error's number. -/
def pparse (L : List Nat) : T × Nat × Nat :=
  if 400 < L.length then (zeroT, 0, 3) else match prun ⟨[], []⟩ [] L with
    | .er r c => (zeroT, L.length - r.length, c)
    | .ok t _ => if 20 < dptT t ∨ 40 < plcT t then (zeroT, 0, 3) else (t, 0, 0)
theorem pparse_long {L : List Nat} (h : 400 < L.length) : pparse L = (zeroT, 0, 3) := by unfold pparse; rw [if_pos h]
theorem pparse_er {L r : List Nat} {c : Nat} (h : ¬ 400 < L.length) (h2 : prun ⟨[], []⟩ [] L = .er r c) : pparse L = (zeroT, L.length - r.length, c) := by unfold pparse; rw [if_neg h, h2]
theorem pparse_ok {L r : List Nat} {t : T} (h : ¬ 400 < L.length) (h2 : prun ⟨[], []⟩ [] L = .ok t r) : pparse L = if 20 < dptT t ∨ 40 < plcT t then (zeroT, 0, 3) else (t, 0, 0) := by unfold pparse; rw [if_neg h, h2]

end Go.Proofs.YtnebfniekeknaaaDoor

/- What Parse comes to: the tree, the place and the error's number that the plain function tells.
   Conditions: the text is no longer than memory may be. -/
namespace Go.Proofs.YtnebfniekeknaaaDoor
open Go.RowKit

def Parsed (s : ByteArray) (w : World) (e : Ending) (w' : World) : Prop :=
  ∃ (v : V) (sa : Option Addr) (sn sc : Nat), v.v = .slice sa sn sc ∧ e = .returned (.tuple #[.agg #[.int .i64 v.kind, .int .u64 (v.set 0 : Nat), .int .u64 (v.set 1 : Nat), .int .u64 (v.set 2 : Nat), .int .u64 (v.set 3 : Nat), .slice sa sn sc, .int .i64 v.lo, .int .i64 v.hi], .int .i64 ((pparse (txt s)).2.1 : Nat), .int .i64 ((pparse (txt s)).2.2 : Nat)]) ∧
    erase v = (pparse (txt s)).1 ∧ Laid w' (fun b => w.heap.size ≤ b) v ∧ Below w.heap.size w w'
theorem parsed_zero {s : ByteArray} {w w' : World} {at' c : Nat} (h : pparse (txt s) = (zeroT, at', c)) (hb : Below w.heap.size w w') :
    Parsed s w (.returned (.tuple #[.agg #[.int .i64 0, .int .u64 0, .int .u64 0, .int .u64 0, .int .u64 0, .slice none 0 0, .int .i64 0, .int .i64 0], .int .i64 at', .int .i64 c])) w' := by
  refine ⟨zeroV, none, 0, 0, rfl, ?_, by rw [h]; rfl, zeroV_laid _ _, hb⟩
  rw [h]
  rfl
theorem chg_below {w w' : World} {R : Nat → Prop} (h : Chg R w w') (hR : ∀ k, k < w.heap.size → ¬ R k) : Below w.heap.size w w' := h.below (Nat.le_refl _) hR

end Go.Proofs.YtnebfniekeknaaaDoor

/- Small texts as they are read; the parts of a tree that reads so: plain facts.
   No conditions but those that each theorem states. -/
namespace Go.Proofs.YtnebfniekeknaaaDoor
open Go.RowKit

theorem pset_byte {b : Nat} {r : List Nat} (h1 : ¬ b ∈ marks) (h2 : b ≠ 92) : pset (b :: r) = .ok (between b b) r := by
  have h46 : b ≠ 46 := fun e => h1 (by subst e; decide)
  have h91 : b ≠ 91 := fun e => h1 (by subst e; decide)
  rw [pset_plain h46 h91]
  simp only [pplain, if_neg h1, if_neg h2]
theorem pstep_byte {g : G} {frs : List G} {b : Nat} {r : List Nat} (h1 : ¬ b ∈ marks) (h2 : b ≠ 92) : pstep g frs (b :: r) = .ok (⟨g.rows, g.row ++ [atomT (between b b)]⟩, frs) r := by
  have a1 : b ≠ 40 := fun e => h1 (by subst e; decide)
  have a2 : b ≠ 124 := fun e => h1 (by subst e; decide)
  have a3 : b ≠ 41 := fun e => h1 (by subst e; decide)
  have a4 : ¬ (b = 42 ∨ b = 43 ∨ b = 63 ∨ b = 123) := by
    rintro (e | e | e | e) <;> exact h1 (by subst e; decide)
  simp only [pstep, if_neg a1, if_neg a2, if_neg a3, if_neg a4, pset_byte h1 h2]
theorem pstep_star {g : G} {frs : List G} {r : List Nat} (h : g.row ≠ []) : pstep g frs (42 :: r) = .ok (⟨g.rows, repLast (0, -1) g.row⟩, frs) r := by
  simp [pstep, h, ptimes]
theorem pstep_bar {g : G} {frs : List G} {r : List Nat} : pstep g frs (124 :: r) = .ok (⟨g.rows ++ [joinT 2 g.row], []⟩, frs) r := by
  simp [pstep]
def wakeT : T := .node 3 zeros 0 0 [atomT (between 97 97), repT (0, -1) (atomT (between 98 98))]
theorem run_wake : prun ⟨[], []⟩ [] [97, 124, 98, 42] = .ok wakeT [] := by
  rw [prun_cons, pstep_byte (by decide) (by decide)]
  simp only
  rw [prun_cons, pstep_bar]
  simp only
  rw [prun_cons, pstep_byte (by decide) (by decide)]
  simp only
  rw [prun_cons, pstep_star (by simp)]
  simp only
  rw [prun_nil]
  rfl
theorem parse_wake : pparse [97, 124, 98, 42] = (wakeT, 0, 0) := by
  rw [pparse_ok (by decide) run_wake, if_neg (by
    simp [wakeT, dptT, dptsT, plcT, plcsT, atomT, repT])]
theorem txt_wake : txt { data := #[97, 124, 98, 42] } = [97, 124, 98, 42] := by rfl
/-- A tree that reads as a node of that kind: its parts are as many, and read as its parts. -/
theorem erase_node {v : V} {k : Int} {C : Nat → Nat} {lo hi : Int} {ps : List T} (h : erase v = .node k C lo hi ps) : v.kind = k ∧ v.set = C ∧ v.lo = lo ∧ v.hi = hi ∧ erases v.ps = ps := by
  cases v with
  | node k' C' lo' hi' v' ps' =>
    rw [erase] at h
    injection h with h1 h2 h3 h4 h5
    exact ⟨h1, h2, h3, h4, h5⟩
theorem erases_two {vs : List V} {p q : T} (h : erases vs = [p, q]) : ∃ a b, vs = [a, b] ∧ erase a = p ∧ erase b = q := by
  match vs with
  | [] => rw [erases] at h; cases h
  | [a] => rw [erases, erases] at h; cases h
  | [a, b] => rw [erases, erases, erases] at h; injection h with h1 h2; injection h2 with h2 _; exact ⟨a, b, rfl, h1, h2⟩
  | a :: b :: c :: r => rw [erases, erases, erases] at h; simp at h
theorem erases_single {vs : List V} {p : T} (h : erases vs = [p]) : ∃ a, vs = [a] ∧ erase a = p := by
  match vs with
  | [] => rw [erases] at h; cases h
  | [a] => rw [erases, erases] at h; injection h with h1 _; exact ⟨a, rfl, h1⟩
  | a :: b :: r => rw [erases, erases] at h; simp at h

end Go.Proofs.YtnebfniekeknaaaDoor
