/- The library's table lies in memory: off the condition of the statements' own row.
   Condition: what the row lists as laid lies in memory. -/
import Derived.Test.YtnebfniekeknaaaDoorMMkR
import Derived.Test.YtnebfniekeknaaaDoorNA
import Derived.Maps.OwnIn
import Derived.Test.YtnebfniekeknaaaDoorNB
import Derived.Test.YtnebfniekeknaaaDoorMSim
import Derived.Test.YtnebfniekeknaaaDoorMRef
import Derived.Test.YtnebfniekeknaaaDoorMPof
import Derived.Deep.DeepCutAuto
import Derived.Test.YtnebfniekeknaaaDoorRows
import Derived.MakeChecks
import Derived.Stop.LaidErr
import Derived.Lib.LaidTab

/- moves.Make of a tree with a map: a contract.
   Conditions: the tree lies in memory, is formed, and has a map; the library's table lies in memory. -/
namespace Go.Proofs.YtnebfniekeknaaaDoor
open Go.RowKit Go.Shelf
attribute [local go_sem] nodeAgg Oper.semAt_some

/-- Where a joint of a simple tree's moves is from, and goes to. -/
theorem sj_in {u : T} {m : PM} (hm : mapT u = some m) {s : St} (h : SJ (mvT u 0 0).2.2 s) : 1 ≤ s.fr ∧ s.fr < m.sets.length ∧ 1 ≤ s.tt ∧ s.tt < m.sets.length := by
  obtain ⟨j, hj, h1, h2, _⟩ := h
  have hin := (mv_in u 0 0).2 j hj
  have hp := map_pos hm
  have a := hin.fr _ h1
  have b := hin.tt _ h2
  omega
theorem infoBo : (Tryd.prog.info? 4).map (fun i => (i.zero, i.size, i.bytes)) = some (some (.bool false), 1, 1) := by kernel_rfl
mutual
/-- A joint keeps four scopes at most. -/
theorem mv_kp : ∀ (t : T) (ar a : Nat), in4 t ar → ∀ j ∈ (mvT t ar a).2.2, j.kp ≤ 4
  | .node k C lo hi ps, ar, a, h => by
    rw [in4] at h
    rw [mvT]
    exact mvs_kp k hi ar (cnt4 k lo hi) h.1 ps (opF k C lo a) (opA k C a) h.2
theorem mvs_kp (k hi : Int) (ar : Nat) (ag : Bool) (hb : blA ar ag ≤ 4) : ∀ (ts : List T) (f : Fc) (a : Nat), in4s ts (blA ar ag) → ∀ j ∈ (mvsT k hi ar ag ts f a).2.2, j.kp ≤ 4
  | [], f, a, _ => by rw [mvsT]; exact fun j hj => by cases hj
  | t :: ts, f, a, h => by
    rw [in4s] at h
    have har0 : ar ≤ blA ar ag := by unfold blA; split <;> omega
    have har : ar ≤ 4 := by omega
    rw [mvsT]
    simp only
    intro j hj
    rcases List.mem_append.1 hj with hj | hj
    · rcases List.mem_append.1 hj with hj | hj
      · exact mv_kp t (blA ar ag) a h.1 j hj
      · unfold adJ at hj
        split at hj
        · rw [List.mem_singleton.1 hj]; exact har
        · split at hj
          · rw [List.mem_singleton.1 hj]; exact har
          · cases hj
    · exact mvs_kp k hi ar ag hb ts _ _ h.2 j hj
end
theorem sj_63 {u : T} {m : PM} (hm : mapT u = some m) (hs : m.sets.length ≤ 41) {s : St} (h : SJ (mvT u 0 0).2.2 s) : St63 s := by
  have h1 := sj_in hm h
  obtain ⟨j, hj, _, _, h4, _⟩ := h
  have h5 := mv_kp u 0 0 (map_in4 hm) j hj
  exact ⟨by omega, by omega, by omega⟩
theorem slice_blockM {g n cap b : Nat} (h : (Value.slice (some ⟨g, 0, none⟩) n cap).ownBlock = some b) : g = b := Option.some.inj h
/-- Two loops over functions leave nothing to be done. -/
theorem leaves_two {fn : Func} {tmps : Array Value} {R : Ending → World → Prop} {v : Value} {D1 D2 : Nat} {W : World} (hne : D1 ≠ D2) (h1 : W.heap[D1]? = some (.deferred (some []))) (h2 : W.heap[D2]? = some (.deferred (some [])))
    (hfin : ∀ W', Chg (fun k => k = D1 ∨ k = D2) W W' → (results fn tmps).run Tryd.prog W' = .ok v W' ∧ R (.returned v) W') : LeavesInM Fence.wide 9 Tryd.prog fn tmps R [{ target := .collected D2, args := #[] }, { target := .collected D1, args := #[] }] .returning W := by
  have c1 : Chg (fun k => k = D1 ∨ k = D2) W (W.putObj D2 (.deferred none)) := (chg_put (R := fun k => k = D2) W D2 (.deferred none) rfl).mono fun x _ e => .inr e
  refine ⟨by simp, .inl ⟨D2, W.putObj D2 (.deferred none), rfl, run_takeDeferred h2, ?_⟩⟩
  have h1' : (W.putObj D2 (.deferred none)).heap[D1]? = some (.deferred (some [])) := (World.putObj_heap_other hne).trans h1
  have c2 : Chg (fun k => k = D1 ∨ k = D2) W ((W.putObj D2 (.deferred none)).putObj D1 (.deferred none)) := c1.trans (chg_put (R := fun k => k = D1) _ D1 (.deferred none) rfl) fun x _ e => .inl e
  refine ⟨by simp, .inl ⟨D1, (W.putObj D2 (.deferred none)).putObj D1 (.deferred none), rfl, run_takeDeferred h1', ?_⟩⟩
  exact ⟨v, (hfin _ c2).1, (hfin _ c2).2⟩
theorem infoIn : (Tryd.prog.info? 3).map (fun i => (i.zero, i.size, i.bytes)) = some (some (.int .i64 0), 1, 8) := by kernel_rfl
/-- While the first positions are collected. -/
def FI1 (w9 : World) (ab : Nat) (mp : List Value) (mv lv : Value) (em : Bool) (pre : List Nat) (W : World) : Prop :=
  ∃ fv, W.heap[ab]? = some (.cells (mp ++ [fv, mv, lv, .bool em]).toArray 39 (0, 0)) ∧ IntsR W w9.heap.size fv pre ∧ Chg (fun x => x = ab) w9 W
/-- While the last ones are told. -/
def FI2 (w11 : World) (bb n : Nat) (pre : List Nat) (W : World) : Prop :=
  W.heap[bb]? = some (.cells ((List.range n).map fun p => Value.bool (decide (p ∈ pre))).toArray 4 (0, 0)) ∧ Chg (fun x => x = bb) w11 W
theorem not_cells {w : World} {b : Nat} {cs : Array Value} {e : TypeId} {m : Nat × Nat} (h : w.heap[b]? = some (.cells cs e m)) {l : Nat} (hl : ∀ c e fz, w.heap[l]? ≠ some (.cells c e fz)) : b ≠ l := fun e => by subst e; exact hl _ _ _ h
theorem fi1_calm {w9 : World} {ab : Nat} {mp : List Value} {mv lv : Value} {em : Bool} : Calm w9.heap.size (FI1 w9 ab mp mv lv em) := by
  rintro pre W W' l ⟨fv, h1, h2, h3⟩ hl hn hc
  refine ⟨fv, (hc.block ab (Array.getElem?_eq_some_iff.1 h1).1 (not_cells h1 hn)).trans h1, h2.keep hc fun x e _ hty => ?_, ?_⟩
  · obtain ⟨cs, m, h⟩ := hty
    exact not_cells h hn e
  · exact ⟨hc.os.trans h3.os, hc.tape.trans h3.tape, hc.output.trans h3.output, Nat.le_trans h3.size hc.size, fun k hk hne => (hc.block k (Nat.lt_of_lt_of_le hk h3.size) (fun e => by have e : k = l := e; omega)).trans (h3.block k hk hne)⟩
theorem fi2_calm {w11 : World} {bb n : Nat} : Calm w11.heap.size (FI2 w11 bb n) := by
  rintro pre W W' l ⟨h1, h3⟩ hl hn hc
  refine ⟨(hc.block bb (Array.getElem?_eq_some_iff.1 h1).1 (not_cells h1 hn)).trans h1, ?_⟩
  exact ⟨hc.os.trans h3.os, hc.tape.trans h3.tape, hc.output.trans h3.output, Nat.le_trans h3.size hc.size, fun k hk hne => (hc.block k (Nat.lt_of_lt_of_le hk h3.size) (fun e => by have e : k = l := e; omega)).trans (h3.block k hk hne)⟩
theorem made_bool (n : Nat) : madeCells #[.bool false] n = ((List.range n).map fun p => Value.bool (decide (p ∈ ([] : List Nat)))).toArray := by
  apply Array.ext_getElem?
  intro i
  unfold madeCells
  simp only [List.getElem?_toArray, List.getElem?_map, Array.getElem?_map]
  by_cases hi : i < n
  · rw [List.getElem?_range hi, Array.getElem?_range, if_pos hi]
    simp [Nat.mod_one]
  · rw [List.getElem?_eq_none (by simp; omega), Array.getElem?_eq_none (by simp; omega)]
    rfl
theorem tell_set (n p : Nat) (pre : List Nat) : ((List.range n).map fun q => Value.bool (decide (q ∈ pre))).toArray.setIfInBounds p (.bool true) = ((List.range n).map fun q => Value.bool (decide (q ∈ pre ++ [p]))).toArray := by
  apply Array.ext_getElem?
  intro i
  rw [Array.getElem?_setIfInBounds]
  simp only [List.getElem?_toArray, List.getElem?_map, List.size_toArray, List.length_map, List.length_range]
  by_cases hi : i < n
  · rw [List.getElem?_range hi]
    by_cases e : p = i
    · subst e; simp [hi]
    · rw [if_neg e]
      have e' : ¬ i = p := fun h => e h.symm
      simp [e']
  · rw [List.getElem?_eq_none (by simp; omega)]
    split <;> simp
    omega
/-- An automaton in memory, behind the call that made it. -/
structure MkR (w w' : World) (u : T) (m : PM) (r : V) (sv cv av fv mv lv : Value) (em : Bool) (lb : Nat) (vs : List Value) (L : Nat → List Mv) : Prop where
  map : mapT (simT u) = some m
  tree : erase r = simT u
  laid : Laid w' (fun x => x < w'.heap.size) r
  lists : MapL w' w.heap.size m sv cv av
  sets : m.sets.length ≤ 41
  ars : m.ars.length = m.sets.length
  scs : m.scs.length ≤ 700000
  one : 1 ≤ m.sets.length
  first : IntsR w' w.heap.size fv (bitsL (mvT (simT u) 0 0).1.fi)
  mvv : mv = .slice (some ⟨lb, 0, none⟩) m.sets.length m.sets.length
  rows : RowsM w' w.heap.size m.sets.length mv vs L
  moves : ∀ i, i < m.sets.length → (L i).Pairwise mvLt ∧ ∀ x, x ∈ L i ↔ SJ (mvT (simT u) 0 0).2.2 (stOf i x)
  last : w'.ownsRow w.heap.size 4 1 lv m.sets.length ((List.range m.sets.length).map fun p => .bool ((mvT (simT u) 0 0).1.la.testBit p))
  emp : em = (mvT (simT u) 0 0).1.em

set_option maxHeartbeats 8000000 in
set_option maxRecDepth 100000 in
theorem make_good (t : V) (w : World) (R : Nat → Prop) (ht : Laid w R t) (hz : szT (erase t) ≤ 300000) (hok : okT (erase t) = true) (m : PM) (hm : mapT (simT (erase t)) = some m) (hT : TabE w) (hTl : tabE < w.heap.size) :
    Calls Tryd.prog 12 #[nodeAgg t] w fun e w' => (∃ (r : V) (ta : Option Addr) (tn tc : Nat) (sA : Option Addr) (sN sC : Nat) (cA : Option Addr) (cN cC : Nat) (aA : Option Addr) (aN aC : Nat) (fA : Option Addr) (fN fC : Nat) (lb bb : Nat) (em : Bool) (vs : List Value) (L : Nat → List Mv),
      MkR w w' (erase t) m r (.slice sA sN sC) (.slice cA cN cC) (.slice aA aN aC) (.slice fA fN fC) (.slice (some ⟨lb, 0, none⟩) sN sN) (.slice (some ⟨bb, 0, none⟩) sN sN) em lb vs L ∧ r.v = .slice ta tn tc ∧ e = .returned (.tuple #[.agg #[.int .i64 r.kind, .int .u64 (r.set 0 : Nat), .int .u64 (r.set 1 : Nat), .int .u64 (r.set 2 : Nat), .int .u64 (r.set 3 : Nat), .slice ta tn tc, .int .i64 r.lo, .int .i64 r.hi, .slice sA sN sC, .slice cA cN cC, .slice aA aN aC, .slice fA fN fC, .slice (some ⟨lb, 0, none⟩) sN sN, .slice (some ⟨bb, 0, none⟩) sN sN, .bool em], .int .i64 0])) ∧ Below w.heap.size w w' := by
  obtain ⟨sa, sn, sc, hs⟩ := ht.slice
  obtain ⟨w2, hw2⟩ : ∃ w2, (w.alloc (.cells #[.int .i64 t.kind, .int .u64 (t.set 0 : Nat), .int .u64 (t.set 1 : Nat), .int .u64 (t.set 2 : Nat), .int .u64 (t.set 3 : Nat), .slice sa sn sc, .int .i64 t.lo, .int .i64 t.hi] 27)).alloc (.cells #[.int .i64 0, .int .u64 0, .int .u64 0, .int .u64 0, .int .u64 0, .slice none 0 0, .int .i64 0, .int .i64 0, .slice none 0 0, .slice none 0 0, .slice none 0 0, .slice none 0 0, .slice none 0 0, .slice none 0 0, .bool false] 39) = w2 := ⟨_, rfl⟩
  have hb2 : Below w.heap.size w w2 := hw2 ▸ ((Below.refl _ w).alloc (Nat.le_refl _) _).alloc (by simp) _
  have e1 : w2.heap[w.heap.size]? = some (.cells #[.int .i64 t.kind, .int .u64 (t.set 0 : Nat), .int .u64 (t.set 1 : Nat), .int .u64 (t.set 2 : Nat), .int .u64 (t.set 3 : Nat), .slice sa sn sc, .int .i64 t.lo, .int .i64 t.hi] 27 (0, 0)) := by rw [← hw2]; exact (Below.heap_alloc _ _ _ (by simp)).trans (heap_alloc_new w _)
  have e2 : w2.heap[w.heap.size + 1]? = some (.cells #[.int .i64 0, .int .u64 0, .int .u64 0, .int .u64 0, .int .u64 0, .slice none 0 0, .int .i64 0, .int .i64 0, .slice none 0 0, .slice none 0 0, .slice none 0 0, .slice none 0 0, .slice none 0 0, .slice none 0 0, .bool false] 39 (0, 0)) := by
    rw [← hw2]
    have := heap_alloc_new (w.alloc (.cells #[.int .i64 t.kind, .int .u64 (t.set 0 : Nat), .int .u64 (t.set 1 : Nat), .int .u64 (t.set 2 : Nat), .int .u64 (t.set 3 : Nat), .slice sa sn sc, .int .i64 t.lo, .int .i64 t.hi] 27)) (.cells #[.int .i64 0, .int .u64 0, .int .u64 0, .int .u64 0, .int .u64 0, .slice none 0 0, .int .i64 0, .int .i64 0, .slice none 0 0, .slice none 0 0, .slice none 0 0, .slice none 0 0, .slice none 0 0, .slice none 0 0, .bool false] 39)
    rw [World.size_alloc] at this
    exact this
  have HOF := Lib.hid (show Calls Tryd.prog 30 #[.agg #[.int .i64 t.kind, .int .u64 (t.set 0 : Nat), .int .u64 (t.set 1 : Nat), .int .u64 (t.set 2 : Nat), .int .u64 (t.set 3 : Nat), .slice sa sn sc, .int .i64 t.lo, .int .i64 t.hi]] w2 _ by
    have := of_good t w2 R (laid_low ht hb2) hz hok
    rw [nodeAgg_v hs] at this
    exact this)
  obtain ⟨c0, c1, c2, c3, c4, c5, c6, c7⟩ := cells8 e1
  have hl1 : w.heap.size < w2.heap.size := (Array.getElem?_eq_some_iff.1 e1).1
  have HB := Lib.hid (And.intro hb2 (And.intro e2 (And.intro hT (And.intro hTl (And.intro hz (And.intro hok hm))))))
  rw [nodeAgg_v hs]
  clear hs ht hz hok hm hb2 e1 e2 hT hTl
  refine (callsIn_wide (n := 9)).1 (callsIn_of_wp_marks Tryd.func12 rfl trivial ?_ rfl)
  refine wpIn_wide.2 ?_
  simp only [Tryd.ntmps12, List.size_toArray, List.length_cons, List.length_nil, Nat.reduceAdd, Nat.reduceSub, Array.replicate_succ, Array.replicate_zero, List.push_toArray, List.append_toArray, List.nil_append, List.cons_append]
  go_upto_region 1 with fail
  clear hw2
  go_wp2_with fail
  go_at_call 30
  refine HOF.out.mono ?_
  rintro e w3 ⟨hE, hb3⟩
  obtain ⟨m', r, ta, tn, tc, sA, sN, sC, cA, cN, cC, aA, aN, aC, hR, hv, rfl⟩ : ∃ (m : PM) (r : V) (ta : Option Addr) (tn tc : Nat) (sA : Option Addr) (sN sC : Nat) (cA : Option Addr) (cN cC : Nat) (aA : Option Addr) (aN aC : Nat), POfR w2 w3 (erase t) m r (.slice sA sN sC) (.slice cA cN cC) (.slice aA aN aC) ∧ r.v = .slice ta tn tc ∧ e = .returned (.tuple #[.agg #[.int .i64 r.kind, .int .u64 (r.set 0 : Nat), .int .u64 (r.set 1 : Nat), .int .u64 (r.set 2 : Nat), .int .u64 (r.set 3 : Nat), .slice ta tn tc, .int .i64 r.lo, .int .i64 r.hi, .slice sA sN sC, .slice cA cN cC, .slice aA aN aC], .int .i64 0]) := by
    rcases hE with h | ⟨hn, _⟩
    · exact h
    · rw [HB.out.2.2.2.2.2.2] at hn; cases hn
  obtain rfl : m = m' := Option.some.inj (HB.out.2.2.2.2.2.2.symm.trans hR.some)
  obtain ⟨rk, hrk⟩ : ∃ rk, rk = r.kind := ⟨_, rfl⟩
  obtain ⟨rC, hrC⟩ : ∃ rC, rC = r.set := ⟨_, rfl⟩
  obtain ⟨rl, hrl⟩ : ∃ rl, rl = r.lo := ⟨_, rfl⟩
  obtain ⟨rh, hrh⟩ : ∃ rh, rh = r.hi := ⟨_, rfl⟩
  rw [← hrk, ← hrC, ← hrl, ← hrh]
  have hnd : ndc r = [.int .i64 rk, .int .u64 (rC 0 : Nat), .int .u64 (rC 1 : Nat), .int .u64 (rC 2 : Nat), .int .u64 (rC 3 : Nat), .slice ta tn tc, .int .i64 rl, .int .i64 rh] := by unfold ndc; rw [hv, ← hrk, ← hrC, ← hrl, ← hrh]
  obtain ⟨mk, hmk⟩ : ∃ mk, mk = w3.heap.size := ⟨_, rfl⟩
  obtain ⟨w4, hw4⟩ : ∃ w4, w3.alloc (.cells #[.int .i64 rk, .int .u64 (rC 0 : Nat), .int .u64 (rC 1 : Nat), .int .u64 (rC 2 : Nat), .int .u64 (rC 3 : Nat), .slice ta tn tc, .int .i64 rl, .int .i64 rh, .slice sA sN sC, .slice cA cN cC, .slice aA aN aC] 34) = w4 := ⟨_, rfl⟩
  have hb34 : Below w3.heap.size w3 w4 := hw4 ▸ (Below.refl _ w3).alloc (Nat.le_refl _) _
  have hb4 : Below w2.heap.size w2 w4 := bhop hb3 hb34
  have em4 : w4.heap[mk]? = some (.cells #[.int .i64 rk, .int .u64 (rC 0 : Nat), .int .u64 (rC 1 : Nat), .int .u64 (rC 2 : Nat), .int .u64 (rC 3 : Nat), .slice ta tn tc, .int .i64 rl, .int .i64 rh, .slice sA sN sC, .slice cA cN cC, .slice aA aN aC] 34 (0, 0)) := by rw [hmk, ← hw4]; exact heap_alloc_new w3 _
  have hs4 : w4.heap.size = mk + 1 := by rw [← hw4, hmk]; simp
  have HR := Lib.hid (And.intro hR (And.intro hv (And.intro hnd (And.intro hb3 (And.intro hmk (And.intro hb34 (And.intro hb4 (And.intro em4 (And.intro hs4 (And.intro hrk (And.intro hrC (And.intro hrl hrh))))))))))))
  have HW4 := Lib.hid hw4
  clear hw4 hb3 hb34 hb4 em4 hs4 hR hv hnd c0 c1 c2 c3 c4 c5 c6 c7 hE hrk hrC hrl hrh
  have HMK := Lib.hid hmk
  clear hmk
  go_upto_region 4 with fail
  try rw [HW4.out]
  rw [← HMK.out]
  go_wp2_with fail
  go_at_call 31
  refine (newWalker_any w4).mono ?_
  rintro e w5 ⟨wk, mb, jb, rfl, hWk, hk1, hk2, hk3, hb5⟩
  have hW5 : Wk w5 wk mb jb 0 (SJ []) (fun k => k ∈ ([] : List Jt)) 0 0 := hWk.iff (fun s => ⟨fun h => h.elim, fun ⟨j, hj, _⟩ => by cases hj⟩) (fun s => ⟨fun h => h.elim, fun h => by cases h⟩)
  have hT5 : TabE w5 := fun i hi => (World.cell?_of_block (w := w) (w' := w5) (a := ⟨tabE, i, none⟩) ((hb5.block tabE (by have := HB.out.2.2.2.1; have := HB.out.1.size; have := HR.out.2.2.2.2.2.2.1.size; omega)).trans ((HR.out.2.2.2.2.2.2.1.block tabE (by have := HB.out.2.2.2.1; have := HB.out.1.size; omega)).trans (HB.out.1.block tabE HB.out.2.2.2.1)))).trans (HB.out.2.2.1 i hi)
  have hlay : Laid w4 (fun x => x < w4.heap.size) r := laid_low (HR.out.1.res.laid.mono fun b hb _ => by have := HR.out.2.2.2.2.2.1.size; omega) HR.out.2.2.2.2.2.1
  have hnode : NodeB w4.heap.size w5 mk 0 r := by
    have h1 : NodeB w4.heap.size w4 mk 0 r := ⟨by have := HR.out.2.2.2.2.2.2.2.2.1; omega, fun i u hu => by
      rw [Nat.zero_add, (row_cells HR.out.2.2.2.2.2.2.2.1).1 i]
      rw [HR.out.2.2.1] at hu
      have hi : i < 8 := (List.getElem?_eq_some_iff.1 hu).1
      have : i = 0 ∨ i = 1 ∨ i = 2 ∨ i = 3 ∨ i = 4 ∨ i = 5 ∨ i = 6 ∨ i = 7 := by omega
      rcases this with rfl | rfl | rfl | rfl | rfl | rfl | rfl | rfl <;> exact hu, hlay⟩
    exact h1.chg (Chg.of_below hb5)
  have hokr : okF r := by show okT (erase r) = true; rw [HR.out.1.tree]; exact (sim_ws _ HB.out.2.2.2.2.2.1).ok
  have hszr : szT (erase r) ≤ 300000 := by rw [HR.out.1.tree]; exact Nat.le_trans (sim_sz _) HB.out.2.2.2.2.1
  have hnp := map_pos HB.out.2.2.2.2.2.2
  have hst := HR.out.1.sets
  have HWH := whole_any w4.heap.size mk 0 r w5 hW5 hT5 (by have := HB.out.2.2.2.1; have := HB.out.1.size; have := HR.out.2.2.2.2.2.2.1.size; omega) hb5.size ⟨hk1, hk2, hk3⟩ hnode hokr hszr (by rw [HR.out.1.tree]; exact map_in4 HB.out.2.2.2.2.2.2) (by rw [HR.out.1.tree]; omega) _ rfl
  rw [HR.out.1.tree] at HWH
  obtain ⟨F, hF⟩ : ∃ F, F = (mvT (simT (erase t)) 0 0).1 := ⟨_, rfl⟩
  obtain ⟨js, hjs⟩ : ∃ js, js = (mvT (simT (erase t)) 0 0).2.2 := ⟨_, rfl⟩
  rw [← hF, ← hjs] at HWH
  replace HWH := Lib.hid HWH
  have hjl : js.length ≤ 300000 := by have h1 := mv_js (simT (erase t)) 0 0; have h2 := sim_sz (erase t); have h3 := HB.out.2.2.2.2.1; rw [hjs]; omega
  have H5 := Lib.hid (And.intro hb5 (And.intro hT5 (And.intro hlay (And.intro hnp (And.intro hF (And.intro hjs (And.intro hjl (And.intro hk1 (And.intro hk2 hk3)))))))))
  clear hWk hk1 hk2 hk3 hb5 hW5 hT5 hlay hnode hokr hszr hnp hst hF hjs hjl
  go_wp2_with fail
  go_at_call 32
  refine HWH.out.mono ?_
  rintro e w6 ⟨rfl, hW6, hc6⟩
  obtain ⟨fb, hfb⟩ : ∃ fb, fb = w6.heap.size := ⟨_, rfl⟩
  obtain ⟨w7, hw7⟩ : ∃ w7, w6.alloc (.cells #[.int .u64 F.fi, .int .u64 F.la, .bool F.em] 73) = w7 := ⟨_, rfl⟩
  have hb67 : Below w6.heap.size w6 w7 := hw7 ▸ (Below.refl _ w6).alloc (Nat.le_refl _) _
  have hs7 : w7.heap.size = fb + 1 := by rw [← hw7, hfb]; simp
  have ef7 : w7.heap[fb]? = some (.cells #[.int .u64 F.fi, .int .u64 F.la, .bool F.em] 73 (0, 0)) := by rw [hfb, ← hw7]; exact heap_alloc_new w6 _
  have hb47 : Below w4.heap.size w4 w7 := by
    have h1 := H5.out.1
    have h2 := hc6.below (B := w4.heap.size) h1.size fun k hk e => by have := H5.out.2.2.2.2.2.2.2; omega
    exact (h1.trans h2).trans (hb67.mono (by have := h1.size; have := hc6.size; omega))
  have em7 : w7.heap[mk]? = some (.cells #[.int .i64 rk, .int .u64 (rC 0 : Nat), .int .u64 (rC 1 : Nat), .int .u64 (rC 2 : Nat), .int .u64 (rC 3 : Nat), .slice ta tn tc, .int .i64 rl, .int .i64 rh, .slice sA sN sC, .slice cA cN cC, .slice aA aN aC] 34 (0, 0)) := (hb47.block mk (by have := HR.out.2.2.2.2.2.2.2.2.1; omega)).trans HR.out.2.2.2.2.2.2.2.1
  have hT7 : TabE w7 := fun i hi => (World.cell?_of_block (w := w) (w' := w7) (a := ⟨tabE, i, none⟩) ((hb47.block tabE (by have := HB.out.2.2.2.1; have := HB.out.1.size; have := HR.out.2.2.2.2.2.2.1.size; omega)).trans ((HR.out.2.2.2.2.2.2.1.block tabE (by have := HB.out.2.2.2.1; have := HB.out.1.size; omega)).trans (HB.out.1.block tabE HB.out.2.2.2.1)))).trans (HB.out.2.2.1 i hi)
  have hW7 := hW6.chg (Chg.of_below (R := fun _ => False) hb67) ⟨id, id, id⟩
  have hsN : sN = m.sets.length := by
    obtain ⟨A, cp, h⟩ := own_form HR.out.1.lists.sets
    simp only [Value.slice.injEq] at h
    exact h.2.1
  have hsl : sN ≤ 41 := by have := HR.out.1.sets; omega
  have HSO := Lib.hid (fun (W : World) (h : Below w7.heap.size w7 W) => sorted_any W (hW7.chg (Chg.of_below (R := fun _ => False) h) ⟨id, id, id⟩) sN (by omega) (fun s hs => by have h1 := sj_in HB.out.2.2.2.2.2.2 (by rw [← H5.out.2.2.2.2.2.1]; exact hs); omega) (by have := H5.out.2.2.2.2.2.2.1; omega))
  have HSF := Lib.hid (fun (W : World) (h : Below w7.heap.size w7 W) => show (W.cell? ⟨mk, 0, none⟩ = some (.int .i64 rk) ∧ W.cell? ⟨mk, 1, none⟩ = some (.int .u64 (rC 0 : Nat)) ∧ W.cell? ⟨mk, 2, none⟩ = some (.int .u64 (rC 1 : Nat)) ∧ W.cell? ⟨mk, 3, none⟩ = some (.int .u64 (rC 2 : Nat)) ∧ W.cell? ⟨mk, 4, none⟩ = some (.int .u64 (rC 3 : Nat)) ∧ W.cell? ⟨mk, 5, none⟩ = some (.slice ta tn tc) ∧ W.cell? ⟨mk, 6, none⟩ = some (.int .i64 rl) ∧ W.cell? ⟨mk, 7, none⟩ = some (.int .i64 rh) ∧ W.cell? ⟨mk, 8, none⟩ = some (.slice sA sN sC) ∧ W.cell? ⟨mk, 9, none⟩ = some (.slice cA cN cC) ∧ W.cell? ⟨mk, 10, none⟩ = some (.slice aA aN aC)) ∧ W.cell? ⟨fb, 2, none⟩ = some (.bool F.em) ∧ Below w7.heap.size w7 W by
    obtain ⟨⟨m0, m1, m2, m3, m4, m5, m6, m7, m8, m9, m10⟩, _, hl⟩ := cells11 em7
    have hm : ∀ j, W.cell? ⟨mk, j, none⟩ = w7.cell? ⟨mk, j, none⟩ := fun j => World.cell?_of_block (h.block mk hl)
    simp only [hm]
    exact ⟨⟨m0, m1, m2, m3, m4, m5, m6, m7, m8, m9, m10⟩, (World.cell?_of_block (w := w7) (h.block fb (by omega))).trans ((row_cells ef7).1 2), h⟩)
  have hmks : ∀ W, (Instr.makeSlice 37 (.int .i64 (sN : Int)) (.int .i64 (sN : Int))).run Tryd.prog W = .ok (.slice (some ⟨W.heap.size, 0, none⟩) sN sN) (W.alloc (.cells (madeCells #[.bool false] sN) 4)) := by
    intro W
    obtain ⟨j0, hj, hy0, hy1, hy2⟩ := info_parts infoBo
    have := run_makeSlice (P := Tryd.prog) (w := W) 37 4 j0 (.bool false) Tryd.underlying37 hj hy0 .i64 .i64 sN sN (by omega) (by omega) (by rw [hy1]; omega) (by rw [hy2]; omega) (by omega)
    rw [hy1, show (Value.bool false).cells = #[.bool false] from rfl] at this
    simpa using this
  have H7 := Lib.hid (And.intro hb47 (And.intro ef7 (And.intro em7 (And.intro hT7 (And.intro hs7 (And.intro hsN (And.intro hsl (And.intro hc6 hb67))))))))
  have HFB := Lib.hid hfb
  have m0 : (0 : Int) ≤ (sN : Int) := by omega
  clear hW6 hc6 hb67 hs7 ef7 hb47 em7 hT7 hW7 hsN hsl hfb
  go_upto_region 6 with fail
  clear hw7
  rw [← HFB.out]
  refine regMk rk rl rh rC ta sA cA aA tn tc sN sC cN cC aN aC mk wk fb F.em (SJ js) [] _ _ _ _ _ _ _ _ _ _ _ _ _ _ _ _ _ _ _ _ _ _ _ _ _ _ _ _ _ _ _ _ _ _ _ _ _ _ _ _ _ _ _ _ _ _ _ _ _ _ _ _ _ w7 HSO.out (fun W h => ⟨(HSF.out W h).1, (HSF.out W h).2.1⟩) hmks _ ?_
  intro lb bb ab vs L w8 hb8 hrw hmv hbb hbbl hab habl
  have ef8 : w8.heap[fb]? = some (.cells #[.int .u64 F.fi, .int .u64 F.la, .bool F.em] 73 (0, 0)) := (hb8.block fb (by have := H7.out.2.2.2.2.1; omega)).trans H7.out.2.1
  obtain ⟨⟨g0, g1, g2⟩, _⟩ := cells3 ef8
  have hfl : fb < w8.heap.size := (Array.getElem?_eq_some_iff.1 ef8).1
  have H8 := Lib.hid (And.intro hb8 (And.intro hrw (And.intro hmv (And.intro hbb (And.intro hbbl (And.intro hab (And.intro habl ef8)))))))
  clear hb8 hrw hmv hbb hbbl hab habl ef8 hmks HSO HSF
  obtain ⟨j0, hj, hy0, hy1, hy2⟩ := info_parts infoIn
  go_wp2_with fail
  go_at_call 34
  refine (each_any F.fi w8).mono ?_
  rintro e w9' ⟨rfl, rfl⟩
  obtain ⟨w9, hw9⟩ : ∃ w9, w8.alloc (.cells #[.int .u64 F.fi] 71) = w9 := ⟨_, rfl⟩
  obtain ⟨bx, hbx⟩ : ∃ bx, bx = w8.heap.size := ⟨_, rfl⟩
  have hb9 : Below w8.heap.size w8 w9 := hw9 ▸ (Below.refl _ w8).alloc (Nat.le_refl _) _
  have hs9 : w9.heap.size = bx + 1 := by rw [← hw9, hbx]; simp
  have hp9 : w9.heap[bx]? = some (.cells #[.int .u64 F.fi] 71 (0, 0)) := by rw [hbx, ← hw9]; exact heap_alloc_new w8 _
  have hF64 : Fc64 F := by rw [H5.out.2.2.2.2.1]; exact fc64_in ((mv_in (simT (erase t)) 0 0).1) (by have h1 := H5.out.2.2.2.1; have h2 := HR.out.1.sets; omega)
  have hb79 : Below w7.heap.size w7 w9 := bhop H8.out.1 hb9
  have hT9 : w9.heap[tabE]? = w7.heap[tabE]? := hb79.block tabE (by have h1 := HB.out.2.2.2.1; have h2 := HB.out.1.size; have h3 := HR.out.2.2.2.2.2.2.1.size; have h4 := H7.out.1.size; omega)
  have htl : tabE < w9.heap.size := by have h1 := HB.out.2.2.2.1; have h2 := HB.out.1.size; have h3 := HR.out.2.2.2.2.2.2.1.size; have h4 := H7.out.1.size; have h5 := hb79.size; omega
  have hab9 : w9.heap[ab]? = some (.cells #[.int .i64 rk, .int .u64 (rC 0 : Nat), .int .u64 (rC 1 : Nat), .int .u64 (rC 2 : Nat), .int .u64 (rC 3 : Nat), .slice ta tn tc, .int .i64 rl, .int .i64 rh, .slice sA sN sC, .slice cA cN cC, .slice aA aN aC, .slice none 0 0, .slice (some ⟨lb, 0, none⟩) sN sN, .slice (some ⟨bb, 0, none⟩) sN sN, .bool F.em] 39 (0, 0)) := (hb9.block ab (Array.getElem?_eq_some_iff.1 H8.out.2.2.2.2.2.1).1).trans H8.out.2.2.2.2.2.1
  have hit := each_iter 8 bx F.fi w9 (by omega) ((row_cells hp9).1 0) hF64.fi (fun i hi => (World.cell?_of_block (w := w7) (w' := w9) (a := ⟨tabE, i, none⟩) hT9).trans (H7.out.2.2.2.1 i hi)) htl
  have h0 : FI1 w9 ab [.int .i64 rk, .int .u64 (rC 0 : Nat), .int .u64 (rC 1 : Nat), .int .u64 (rC 2 : Nat), .int .u64 (rC 3 : Nat), .slice ta tn tc, .int .i64 rl, .int .i64 rh, .slice sA sN sC, .slice cA cN cC, .slice aA aN aC] (.slice (some ⟨lb, 0, none⟩) sN sN) (.slice (some ⟨bb, 0, none⟩) sN sN) F.em [] w9 := ⟨.slice none 0 0, hab9, IntsR.none _ _, Chg.refl _ _⟩
  have H9 := Lib.hid (And.intro hb9 (And.intro hs9 (And.intro hp9 (And.intro hF64 (And.intro hb79 (And.intro hT9 (And.intro htl (And.intro hab9 hbx))))))))
  clear hb9 hs9 hp9 hF64 hb79 hT9 htl hab9 g0 g1 g2 hfl
  go_wp2_with fail
  clear hw9
  rw [← hbx]
  clear hbx
  refine (wpIn_wide (n := 9)).1 ?_
  refine rangeW_law (n := 9) (gf := 53) (lb := #[.pointer (some ⟨bx, 0, none⟩)]) rfl (enters_of Tryd.func53 (by kernel_rfl) rfl)
    hit kpE_t (fun W k o o2 hk _ _ => ⟨World.putObj_heap_other (by have := H9.out; omega), World.putObj_heap_other (by have := H9.out; omega)⟩) (fun _ => rfl)
    (FI1 w9 ab [.int .i64 rk, .int .u64 (rC 0 : Nat), .int .u64 (rC 1 : Nat), .int .u64 (rC 2 : Nat), .int .u64 (rC 3 : Nat), .slice ta tn tc, .int .i64 rl, .int .i64 rh, .slice sA sN sC, .slice cA cN cC, .slice aA aN aC] (.slice (some ⟨lb, 0, none⟩) sN sN) (.slice (some ⟨bb, 0, none⟩) sN sN) F.em) (fun _ _ => False) fi1_calm (fun _ _ _ _ h => h.elim) h0 ?round ?done ?stop
  case stop => intro D pre x post W _ h _ _; exact h.elim
  case round =>
    clear h0 hit
    intro l pre p W hI hnext hl1 hl2
    have hplen : pre.length < 64 := by
      obtain ⟨post, h⟩ := hnext
      have := bits_len F.fi
      rw [h] at this
      simp at this
      omega
    have HI0 := Lib.hid hI
    clear hI hnext
    simp only [encE]
    gi_wp2
    refine ⟨KeepsFrom.refl _ _, ⟨rfl, rfl⟩, HI0.out, ?_⟩
    intro v2 hc2 _ hI2
    clear hc2
    obtain ⟨fv, h1, h2, h3⟩ := hI2
    obtain ⟨fA, fC, rfl⟩ := h2.form
    have hq := row_cells h1
    have r1 : v2.cell? ⟨ab, 11, none⟩ = some (.slice fA pre.length fC) := hq.1 11
    have r2 := hq.2 11
    have hrv : ab < v2.heap.size := (Array.getElem?_eq_some_iff.1 h1).1
    have HX := Lib.hid (And.intro h1 (And.intro h2 h3))
    obtain ⟨ln, hln⟩ : ∃ ln, ln = pre.length := ⟨_, rfl⟩
    rw [← hln] at r1 hplen
    have HLN := Lib.hid hln
    clear h1 h2 h3 hq hln hl1 hl2
    gi_wp2_with ((gi_at_builtin; refine wpListIn_append_own_at _ rfl _ _ 35 rfl w9.heap.size 3 j0 _ 1 8 Tryd.underlying35 hj hy0 hy1 hy2 rfl (by decide) (.slice fA ln fC) ln (ints pre) rfl ((by have := HX.out.2.1.own.alloc (.cells #[.int .i64 p] 3); rw [← HLN.out] at this; exact this)) ⟨v2.heap.size, 0, none⟩ 1 1 [.int .i64 p] rfl rfl ?n1 (by simp [Value.oneCell']) ?n2 ?n3 ?n4 ?_))
    case n1 => exact World.news_of_block (heap_alloc_new v2 _)
    case n2 => unfold maxLen; omega
    case n3 => omega
    case n4 => have := HX.out.2.2.size; simp; omega
    intro v5 W5 hown5 hgrow5 _ hat5
    obtain ⟨g5, cap5, rfl⟩ := ownsRow_succ hown5
    have hown : v2.ownsRow w9.heap.size 3 1 (.slice fA ln fC) ln (ints pre) := by have := HX.out.2.1.own; rw [← HLN.out] at this; exact this
    have hc5 : Chg (fun k => (Value.slice fA ln fC).ownBlock = some k) v2 W5 := ((Chg.refl (fun k => (Value.slice fA ln fC).ownBlock = some k) v2).alloc _).grown hgrow5 (fun k hk _ => hk)
    have hty : ∀ {k : Nat} {ty : TypeId}, (Value.slice fA ln fC).ownBlock = some k → TyB v2 k ty → ty = 3 := fun {k ty} e h => h.eq (own_ty hown e)
    have hnab : ¬ (Value.slice fA ln fC).ownBlock = some ab := fun e => by have := hty e ⟨_, _, HX.out.1⟩; revert this; decide
    have e1 := (hc5.block ab hrv hnab).trans HX.out.1
    have e2 := (row_cells e1).2 11
    have e3 : W5.cell? ⟨ab, 11, none⟩ = some (.slice fA ln fC) := by rw [(row_cells e1).1 11, HLN.out]; rfl
    have hr5 : ab < W5.heap.size := (Array.getElem?_eq_some_iff.1 e1).1
    have HY := Lib.hid (And.intro hown5 (And.intro hgrow5 (And.intro hat5 (And.intro hc5 (And.intro e1 hown)))))
    clear hown5 hgrow5 hat5 hc5 e1 hown hty hnab
    gi_wp2
    obtain ⟨hown5, hgrow5, hat5, hc5, e1, hown⟩ := HY.out
    obtain ⟨h1, h2, h3⟩ := HX.out
    have hty : ∀ {k : Nat} {ty : TypeId}, (Value.slice fA ln fC).ownBlock = some k → TyB v2 k ty → ty = 3 := fun {k ty} e h => h.eq (own_ty hown e)
    have hc6 : Chg (fun k => k = ab) W5 (W5.setCell ⟨ab, 11, none⟩ (.slice (some ⟨g5, 0, none⟩) (ln + 1) cap5)) := (Chg.refl (fun k => k = ab) W5).setCell (p := ⟨ab, 11, none⟩) (fun _ => rfl) _
    have hbx2 : v2.heap[bx]? = some (.cells #[.int .u64 F.fi] 71 (0, 0)) := (h3.block bx (by have := H9.out.2.1; omega) (fun e => by have := H9.out.2.2.1; rw [e, H9.out.2.2.2.2.2.2.2.1] at this; simp at this)).trans H9.out.2.2.1
    have htb2 : v2.heap[tabE]? = w9.heap[tabE]? := h3.block tabE H9.out.2.2.2.2.2.2.1 (fun e => by
      have h4 := H8.out.2.2.2.2.2.2.1
      have h5 := H7.out.1.size
      have h6 := HR.out.2.2.2.2.2.2.1.size
      have h7 := HB.out.2.2.2.1
      have h8 := HB.out.1.size
      omega)
    refine ⟨(((KeepsOthers.alloc v2 _).trans (KeepsOthers.of_grownBy hgrow5 fun j o hj' ho => ?_)).trans (KeepsOthers.setCell _ _ _)).from _, ⟨?_, ?_⟩, .slice (some ⟨g5, 0, none⟩) (ln + 1) cap5, ?_, ⟨?_, fun h => ?_⟩, ?_⟩
    · obtain ⟨cs, mm, h⟩ := own_ty hown hj'
      rw [Below.heap_alloc _ _ _ (Array.getElem?_eq_some_iff.1 h).1, h] at ho
      rw [← Option.some.inj ho]
      rfl
    · refine (hc6.block bx (by have := hc5.size; have := (Array.getElem?_eq_some_iff.1 hbx2).1; omega) (fun e => by rw [e, h1] at hbx2; simp at hbx2)).trans (hc5.block bx (Array.getElem?_eq_some_iff.1 hbx2).1 fun e => ?_)
      have := hty e ⟨_, _, hbx2⟩
      revert this; decide
    · refine (hc6.block tabE (by have := hc5.size; have := h3.size; have := H9.out.2.2.2.2.2.2.1; omega) (fun e => by
        have h4 := H8.out.2.2.2.2.2.2.1
        have h5 := H7.out.1.size
        have h6 := HR.out.2.2.2.2.2.2.1.size
        have h7 := HB.out.2.2.2.1
        have h8 := HB.out.1.size
        omega)).trans (hc5.block tabE (by have := h3.size; have := H9.out.2.2.2.2.2.2.1; omega) fun e => ?_)
      have := (hown.lt _ e).1
      have := H9.out.2.2.2.2.2.2.1
      omega
    · rw [heap_setCell_same W5 ab _ _ _ _ e1]
      rfl
    · have e4 : (pre ++ [p]).length = ln + 1 := by rw [List.length_append, ← HLN.out]; rfl
      have e5 : ints (pre ++ [p]) = ints pre ++ [.int .i64 (p : Int)] := by simp [ints]
      rw [e4, e5]
      refine own_chg hown5 hc6 fun b hb e => ?_
      have e6 : g5 = b := Option.some.inj hb
      rcases hat5 with h | h
      · have := hty (k := ab) (by rw [← h, ← e, hb]) ⟨_, _, h1⟩
        revert this; decide
      · rw [hb] at h
        have := Option.some.inj h
        (try simp at this)
        omega
    · simp at h
    · exact (h3.trans hc5 fun k hk e => by have := (hown.lt k e).1; omega).setCell (p := ⟨ab, 11, none⟩) (fun _ => rfl) _
  case done =>
    clear h0 hit
    intro D1 W1 hI hD hK
    obtain ⟨fv, a1, a2, a3⟩ := hI
    obtain ⟨fA, fC, rfl⟩ := a2.form
    obtain ⟨fN, hfN⟩ : ∃ fN, fN = (bitsL F.fi).length := ⟨_, rfl⟩
    have hbbt : TyB w8 bb 4 := ⟨_, _, H8.out.2.2.2.1⟩
    have habt : TyB w8 ab 39 := ⟨_, _, H8.out.2.2.2.2.2.1⟩
    have hfbt : TyB w8 fb 73 := ⟨_, _, H8.out.2.2.2.2.2.2.2⟩
    have n1 : bb ≠ ab := fun e => by rw [e] at hbbt; have := hbbt.eq habt; revert this; decide
    have n2 : fb ≠ ab := fun e => by rw [e] at hfbt; have := hfbt.eq habt; revert this; decide
    have n3 : fb ≠ bb := fun e => by rw [e] at hfbt; have := hfbt.eq hbbt; revert this; decide
    have hb9 := H9.out.1
    have ef1 : W1.heap[fb]? = some (.cells #[.int .u64 F.fi, .int .u64 F.la, .bool F.em] 73 (0, 0)) := (a3.block fb (by have := hb9.size; have := hfbt.lt; omega) n2).trans ((hb9.block fb hfbt.lt).trans H8.out.2.2.2.2.2.2.2)
    have eb1 : W1.heap[bb]? = some (.cells (madeCells #[.bool false] sN) 4 (0, 0)) := (a3.block bb (by have := hb9.size; have := hbbt.lt; omega) n1).trans ((hb9.block bb hbbt.lt).trans H8.out.2.2.2.1)
    obtain ⟨⟨g0, g1, g2⟩, _⟩ := cells3 ef1
    have hfl : fb < W1.heap.size := (Array.getElem?_eq_some_iff.1 ef1).1
    have HK1 := Lib.hid (And.intro a1 (And.intro a2 (And.intro a3 (And.intro hfN (And.intro n1 (And.intro n2 (And.intro n3 (And.intro ef1 (And.intro eb1 (And.intro hD hK))))))))))
    clear a1 a2 a3 hfN hbbt habt hfbt n1 n2 n3 hb9 ef1 eb1 hD hK
    go_wp2_with fail
    go_at_call 34
    refine (each_any F.la W1).mono ?_
    rintro e w10' ⟨rfl, rfl⟩
    obtain ⟨w10, hw10⟩ : ∃ w10, W1.alloc (.cells #[.int .u64 F.la] 71) = w10 := ⟨_, rfl⟩
    obtain ⟨bx2, hbx2⟩ : ∃ bx2, bx2 = W1.heap.size := ⟨_, rfl⟩
    have hb10 : Below W1.heap.size W1 w10 := hw10 ▸ (Below.refl _ W1).alloc (Nat.le_refl _) _
    have hs10 : w10.heap.size = bx2 + 1 := by rw [← hw10, hbx2]; simp
    have hp10 : w10.heap[bx2]? = some (.cells #[.int .u64 F.la] 71 (0, 0)) := by rw [hbx2, ← hw10]; exact heap_alloc_new W1 _
    have eb10 : w10.heap[bb]? = some (.cells (madeCells #[.bool false] sN) 4 (0, 0)) := (hb10.block bb (Array.getElem?_eq_some_iff.1 HK1.out.2.2.2.2.2.2.2.2.1).1).trans HK1.out.2.2.2.2.2.2.2.2.1
    have ea10 := (hb10.block ab (Array.getElem?_eq_some_iff.1 HK1.out.1).1).trans HK1.out.1
    have htb1 : w10.heap[tabE]? = w9.heap[tabE]? := (hb10.block tabE (by have := HK1.out.2.2.1.size; have := H9.out.2.2.2.2.2.2.1; omega)).trans (HK1.out.2.2.1.block tabE H9.out.2.2.2.2.2.2.1 (fun e => by
      have h4 := H8.out.2.2.2.2.2.2.1
      have h5 := H7.out.1.size
      have h6 := HR.out.2.2.2.2.2.2.1.size
      have h7 := HB.out.2.2.2.1
      have h8 := HB.out.1.size
      omega))
    have htl2 : tabE < w10.heap.size := by have := HK1.out.2.2.1.size; have := H9.out.2.2.2.2.2.2.1; have := hb10.size; omega
    have hit2 := each_iter 8 bx2 F.la w10 (by omega) ((row_cells hp10).1 0) H9.out.2.2.2.1.la (fun i hi => (World.cell?_of_block (w := w7) (w' := w10) (a := ⟨tabE, i, none⟩) (htb1.trans H9.out.2.2.2.2.2.1)).trans (H7.out.2.2.2.1 i hi)) htl2
    have h02 : FI2 w10 bb sN [] w10 := ⟨by rw [← made_bool]; exact eb10, Chg.refl _ _⟩
    have H10 := Lib.hid (And.intro hb10 (And.intro hs10 (And.intro hp10 (And.intro eb10 (And.intro ea10 (And.intro htl2 hbx2))))))
    clear hb10 hs10 hp10 eb10 ea10 htb1 htl2 g0 g1 g2 hfl
    go_wp2_with fail
    clear hw10
    rw [← hbx2]
    clear hbx2
    refine (wpIn_wide (n := 9)).1 ?_
    refine rangeW_law (n := 9) (gf := 53) (lb := #[.pointer (some ⟨bx2, 0, none⟩)]) rfl (enters_of Tryd.func53 (by kernel_rfl) rfl)
      hit2 kpE_t (fun W k o o2 hk _ _ => ⟨World.putObj_heap_other (by have := H10.out; omega), World.putObj_heap_other (by have := H10.out; omega)⟩) (fun _ => rfl)
      (FI2 w10 bb sN) (fun _ _ => False) fi2_calm (fun _ _ _ _ h => h.elim) h02 ?round2 ?done2 ?stop2
    case stop2 => intro D pre x post W _ h _ _; exact h.elim
    case round2 =>
      clear h02 hit2
      intro l pre p W hI hnext hl1 hl2
      have hpn : p < sN := by
        obtain ⟨post, h⟩ := hnext
        have h1 : p ∈ bitsL F.la := by rw [h]; simp
        have h2 := (mem_bits.1 h1).2
        rw [H5.out.2.2.2.2.1] at h2
        have h3 := (mv_in (simT (erase t)) 0 0).1.la _ h2
        have h4 := H5.out.2.2.2.1
        have h5 := H7.out.2.2.2.2.2.1
        omega
      have HI0 := Lib.hid hI
      clear hI hnext
      simp only [encE]
      gi_wp2
      refine ⟨KeepsFrom.refl _ _, ⟨rfl, rfl⟩, HI0.out, ?_⟩
      intro v2 hc2 _ hI2
      clear hc2
      obtain ⟨h1, h3⟩ := hI2
      have ea := (h3.block ab (Array.getElem?_eq_some_iff.1 H10.out.2.2.2.2.1).1 (fun e => HK1.out.2.2.2.2.1 e.symm)).trans H10.out.2.2.2.2.1
      have r0 : v2.cell? ⟨ab, 13, none⟩ = some (.slice (some ⟨bb, 0, none⟩) sN sN) := (row_cells ea).1 13
      have r1 : v2.cell? ⟨bb, p, none⟩ = some (.bool (decide (p ∈ pre))) := by rw [(row_cells h1).1 p]; simp [hpn]
      have r2 := (row_cells h1).2 p
      have hrv : bb < v2.heap.size := (Array.getElem?_eq_some_iff.1 h1).1
      have hra : ab < v2.heap.size := (Array.getElem?_eq_some_iff.1 ea).1
      have p1 : (0 : Int) ≤ (p : Int) := by omega
      have p2 : (p : Int) < (sN : Int) := by omega
      have HX := Lib.hid (And.intro h1 h3)
      clear h1 h3 ea hl1 hl2
      gi_wp2
      obtain ⟨h1, h3⟩ := HX.out
      have hc6 : Chg (fun k => k = bb) v2 (v2.setCell ⟨bb, p, none⟩ (.bool true)) := (Chg.refl (fun k => k = bb) v2).setCell (p := ⟨bb, p, none⟩) (fun _ => rfl) _
      have hbxn : bx2 ≠ bb := fun e => by have := H10.out.2.2.1; rw [e, H10.out.2.2.2.1] at this; simp at this
      refine ⟨(KeepsOthers.setCell _ _ _).from _, ⟨hc6.block bx2 (by have := h3.size; have := H10.out.2.1; omega) hbxn, hc6.block tabE (by have := h3.size; have := H10.out.2.2.2.2.2.1; omega) fun e => ?_⟩, ?_, h3.trans hc6 fun _ _ e => e⟩
      · have h4 := H8.out.2.2.2.2.1
        have h5 := H7.out.1.size
        have h6 := HR.out.2.2.2.2.2.2.1.size
        have h7 := HB.out.2.2.2.1
        have h8 := HB.out.1.size
        omega
      · rw [heap_setCell_same v2 bb _ _ _ _ h1, tell_set]
    case done2 =>
      clear h02 hit2
      intro D2 W2 hI2 hD2 hK2
      obtain ⟨b1, b3⟩ := hI2
      have hne12 : D1 ≠ D2 := fun e => by have := (Array.getElem?_eq_some_iff.1 HK1.out.2.2.2.2.2.2.2.2.2.2).1; have := H10.out.2.1; have := H10.out.1.size; omega
      have hDbb : D1 ≠ bb := fun e => by have := HK1.out.2.2.2.2.2.2.2.2.2.2; rw [e, HK1.out.2.2.2.2.2.2.2.2.1] at this; cases this
      have hD12 : W2.heap[D1]? = some (.deferred (some [])) := (b3.block D1 (by have := (Array.getElem?_eq_some_iff.1 HK1.out.2.2.2.2.2.2.2.2.2.2).1; have := H10.out.1.size; omega) hDbb).trans ((H10.out.1.block D1 (Array.getElem?_eq_some_iff.1 HK1.out.2.2.2.2.2.2.2.2.2.2).1).trans HK1.out.2.2.2.2.2.2.2.2.2.2)
      have ea2 : W2.heap[ab]? = some (.cells #[.int .i64 rk, .int .u64 (rC 0 : Nat), .int .u64 (rC 1 : Nat), .int .u64 (rC 2 : Nat), .int .u64 (rC 3 : Nat), .slice ta tn tc, .int .i64 rl, .int .i64 rh, .slice sA sN sC, .slice cA cN cC, .slice aA aN aC, .slice fA fN fC, .slice (some ⟨lb, 0, none⟩) sN sN, .slice (some ⟨bb, 0, none⟩) sN sN, .bool F.em] 39 (0, 0)) := by
        have h1 := (b3.block ab (Array.getElem?_eq_some_iff.1 H10.out.2.2.2.2.1).1 (fun e => HK1.out.2.2.2.2.1 e.symm)).trans H10.out.2.2.2.2.1
        rw [← HK1.out.2.2.2.1] at h1
        exact h1
      have c89 : Chg (fun x => x = ab ∨ x = bb) w8 W2 := ((((Chg.of_below (R := fun x => x = ab ∨ x = bb) H9.out.1).trans HK1.out.2.2.1 fun x _ e => .inl e).trans (Chg.of_below (R := fun _ => False) H10.out.1) fun _ _ q => q.elim).trans b3 fun x _ e => .inr e)
      have hsz8 : w.heap.size + 1 < w2.heap.size := (Array.getElem?_eq_some_iff.1 HB.out.2.1).1
      have h24 := HR.out.2.2.2.2.2.2.1
      have h47 := H7.out.1
      have h78 := H8.out.1
      have hs24 := h24.size
      have hs47 := h47.size
      have hs78 := h78.size
      have hs82 := c89.size
      have eT8 : w8.heap[w.heap.size + 1]? = some (.cells #[.int .i64 0, .int .u64 0, .int .u64 0, .int .u64 0, .int .u64 0, .slice none 0 0, .int .i64 0, .int .i64 0, .slice none 0 0, .slice none 0 0, .slice none 0 0, .slice none 0 0, .slice none 0 0, .slice none 0 0, .bool false] 39 (0, 0)) := (h78.block _ (by omega)).trans ((h47.block _ (by omega)).trans ((h24.block _ (by omega)).trans HB.out.2.1))
      have habl := H8.out.2.2.2.2.2.2.1
      have hbbl := H8.out.2.2.2.2.1
      have eT2 : W2.heap[w.heap.size + 1]? = some (.cells #[.int .i64 0, .int .u64 0, .int .u64 0, .int .u64 0, .int .u64 0, .slice none 0 0, .int .i64 0, .int .i64 0, .slice none 0 0, .slice none 0 0, .slice none 0 0, .slice none 0 0, .slice none 0 0, .slice none 0 0, .bool false] 39 (0, 0)) := (c89.block _ (by omega) (by omega)).trans eT8
      obtain ⟨⟨m0, m1, m2, m3, m4, m5, m6, m7, m8, m9, m10, m11, m12, m13, m14⟩, _, hal⟩ := cells15 ea2
      obtain ⟨⟨z0, z1, z2, z3, z4, z5, z6, z7, z8, z9, z10, z11, z12, z13, z14⟩, hf, htl3⟩ := cells15 eT2
      have f0 := hf 0
      have f1 := hf 1
      have f2 := hf 2
      have f3 := hf 3
      have f4 := hf 4
      have f5 := hf 5
      have f6 := hf 6
      have f7 := hf 7
      have f8 := hf 8
      have f9 := hf 9
      have f10 := hf 10
      have f11 := hf 11
      have f12 := hf 12
      have f13 := hf 13
      have f14 := hf 14
      have HE := Lib.hid (And.intro b1 (And.intro b3 (And.intro hne12 (And.intro hD12 (And.intro ea2 (And.intro c89 (And.intro hsz8 (And.intro eT2 (And.intro hD2 hK2)))))))))
      have HZ := Lib.hid (And.intro hs24 (And.intro hs47 (And.intro hs78 (And.intro hs82 (And.intro habl hbbl)))))
      clear hf b1 b3 hne12 hDbb hD12 ea2 c89 hsz8 h24 h47 h78 hs24 hs47 hs78 hs82 eT8 habl hbbl eT2 hD2 hK2
      go_wp2_with fail
      clear m0 m1 m2 m3 m4 m5 m6 m7 m8 m9 m10 m11 m12 m13 m14 z0 z1 z2 z3 z4 z5 z6 z7 z8 z9 z10 z11 z12 z13 z14 f0 f1 f2 f3 f4 f5 f6 f7 f8 f9 f10 f11 f12 f13 f14
      have hf13 := set15_heap HE.out.2.2.2.2.2.2.2.1 (.int .i64 rk) (.int .u64 (rC 0 : Nat)) (.int .u64 (rC 1 : Nat)) (.int .u64 (rC 2 : Nat)) (.int .u64 (rC 3 : Nat)) (.slice ta tn tc) (.int .i64 rl) (.int .i64 rh) (.slice sA sN sC) (.slice cA cN cC) (.slice aA aN aC) (.slice fA fN fC) (.slice (some ⟨lb, 0, none⟩) sN sN) (.slice (some ⟨bb, 0, none⟩) sN sN) (.bool F.em)
      have hc13 := set15_chg W2 (w.heap.size + 1) (.int .i64 rk) (.int .u64 (rC 0 : Nat)) (.int .u64 (rC 1 : Nat)) (.int .u64 (rC 2 : Nat)) (.int .u64 (rC 3 : Nat)) (.slice ta tn tc) (.int .i64 rl) (.int .i64 rh) (.slice sA sN sC) (.slice cA cN cC) (.slice aA aN aC) (.slice fA fN fC) (.slice (some ⟨lb, 0, none⟩) sN sN) (.slice (some ⟨bb, 0, none⟩) sN sN) (.bool F.em)
      generalize (((((((((((((((W2.setCell ⟨w.heap.size + 1, 0, none⟩ (.int .i64 rk)).setCell ⟨w.heap.size + 1, 1, none⟩ (.int .u64 (rC 0 : Nat))).setCell ⟨w.heap.size + 1, 2, none⟩ (.int .u64 (rC 1 : Nat))).setCell ⟨w.heap.size + 1, 3, none⟩ (.int .u64 (rC 2 : Nat))).setCell ⟨w.heap.size + 1, 4, none⟩ (.int .u64 (rC 3 : Nat))).setCell ⟨w.heap.size + 1, 5, none⟩ (.slice ta tn tc)).setCell ⟨w.heap.size + 1, 6, none⟩ (.int .i64 rl)).setCell ⟨w.heap.size + 1, 7, none⟩ (.int .i64 rh)).setCell ⟨w.heap.size + 1, 8, none⟩ (.slice sA sN sC)).setCell ⟨w.heap.size + 1, 9, none⟩ (.slice cA cN cC)).setCell ⟨w.heap.size + 1, 10, none⟩ (.slice aA aN aC)).setCell ⟨w.heap.size + 1, 11, none⟩ (.slice fA fN fC)).setCell ⟨w.heap.size + 1, 12, none⟩ (.slice (some ⟨lb, 0, none⟩) sN sN)).setCell ⟨w.heap.size + 1, 13, none⟩ (.slice (some ⟨bb, 0, none⟩) sN sN)).setCell ⟨w.heap.size + 1, 14, none⟩ (.bool F.em)) = w13 at *
      obtain ⟨b1, b3, hne12, hD12, ea2, c82, hsz8, eT2, hD2l, hK2⟩ := HE.out
      obtain ⟨hs24, hs47, hs78, hs82, habl, hbbl⟩ := HZ.out
      obtain ⟨a1, a2, a3, hfN, n1, n2, n3, ef1, eb1, hD1l, hK1⟩ := HK1.out
      obtain ⟨hb8, hrw, hmv, hbb, _, hab, _, _⟩ := H8.out
      obtain ⟨hR, hv, hnd, hb3, _, hb34, hb24, em4, hs4, hrk, hrC, hrl, hrh⟩ := HR.out
      have s89 := H9.out.1.size
      have s91 := a3.size
      have s110 := H10.out.1.size
      have hD1 : w13.heap[D1]? = some (.deferred (some [])) := (hc13.block D1 (Array.getElem?_eq_some_iff.1 hD12).1 (by omega)).trans hD12
      have hD2 : w13.heap[D2]? = some (.deferred (some [])) := (hc13.block D2 (Array.getElem?_eq_some_iff.1 hK2).1 (by omega)).trans hK2
      refine leaves_two (v := .tuple #[.agg #[.int .i64 rk, .int .u64 (rC 0 : Nat), .int .u64 (rC 1 : Nat), .int .u64 (rC 2 : Nat), .int .u64 (rC 3 : Nat), .slice ta tn tc, .int .i64 rl, .int .i64 rh, .slice sA sN sC, .slice cA cN cC, .slice aA aN aC, .slice fA fN fC, .slice (some ⟨lb, 0, none⟩) sN sN, .slice (some ⟨bb, 0, none⟩) sN sN, .bool F.em], .int .i64 0]) hne12 hD1 hD2 fun W' hc' => ⟨?_, ?_⟩
      · obtain ⟨⟨m0, m1, m2, m3, m4, m5, m6, m7, m8, m9, m10, m11, m12, m13, m14⟩, _⟩ := cells15 ((hc'.block (w.heap.size + 1) (Array.getElem?_eq_some_iff.1 hf13).1 (by omega)).trans hf13)
        simp [results, Tryd.results12, go_sem, m0, m1, m2, m3, m4, m5, m6, m7, m8, m9, m10, m11, m12, m13, m14]
      · have c8 : Chg (fun x => x = ab ∨ x = bb ∨ x = w.heap.size + 1 ∨ x = D1 ∨ x = D2) w8 W' := ((c82.mono fun x _ e => e.elim .inl fun e => .inr (.inl e)).trans hc13 fun x _ e => .inr (.inr (.inl e))).trans hc' fun x _ e => e.elim (fun e => .inr (.inr (.inr (.inl e)))) fun e => .inr (.inr (.inr (.inr e)))
        have habt : TyB w8 ab 39 := ⟨_, _, hab⟩
        have hbbt : TyB w8 bb 4 := ⟨_, _, hbb⟩
        have hb48 := H7.out.1.trans (hb8.mono hs47)
        have htt : TyB w8 (w.heap.size + 1) 39 := ⟨_, _, (hb48.block _ (by omega)).trans ((hb24.block _ (by omega)).trans HB.out.2.1)⟩
        have hQ8 : ∀ x ty, (x = ab ∨ x = bb ∨ x = w.heap.size + 1 ∨ x = D1 ∨ x = D2) → TyB w8 x ty → ty = 39 ∨ ty = 4 := by
          rintro x ty (rfl | rfl | rfl | rfl | rfl) h
          · exact .inl (h.eq habt)
          · exact .inr (h.eq hbbt)
          · exact .inl (h.eq htt)
          · have := h.lt; omega
          · have := h.lt; omega
        have c1 : Chg (fun x => x = bb ∨ x = w.heap.size + 1 ∨ x = D1 ∨ x = D2) W1 W' := ((((Chg.of_below (R := fun x => x = bb ∨ x = w.heap.size + 1 ∨ x = D1 ∨ x = D2) H10.out.1).trans b3 fun x _ e => .inl e).trans hc13 fun x _ e => .inr (.inl e))).trans hc' fun x _ e => e.elim (fun e => .inr (.inr (.inl e))) fun e => .inr (.inr (.inr e))
        have c2 : Chg (fun x => x = w.heap.size + 1 ∨ x = D1 ∨ x = D2) W2 W' := (hc13.mono fun x _ e => .inl e).trans hc' fun x _ e => .inr e
        have hF := H5.out.2.2.2.2.1
        have hjs := H5.out.2.2.2.2.2.1
        have hsN := H7.out.2.2.2.2.2.1
        have hs64 := H9.out.2.2.2.1
        have hlaid : Laid w4 (fun x => w2.heap.size ≤ x ∧ x < w3.heap.size) r := laid_low (hR.res.laid.mono fun b _ h => ⟨h.1, h.2.1⟩) hb34
        have hs34 := hb34.size
        have hs23 := hb3.size
        refine ⟨⟨r, ta, tn, tc, sA, sN, sC, cA, cN, cC, aA, aN, aC, fA, fN, fC, lb, bb, F.em, vs, L, ⟨HB.out.2.2.2.2.2.2, hR.tree, ?_, ?_, hR.sets, hR.ars, hR.scs, hR.one, ?_, ?_, ?_, ?_, ?_, ?_⟩, hv, ?_⟩, ?_⟩
        · have h8 : Laid w8 (fun x => w2.heap.size ≤ x ∧ x < w3.heap.size) r := hlaid.chg (Chg.of_below (R := fun _ => False) hb48) fun _ _ _ q => q
          exact (h8.chg c8 fun b hb h q => by omega).mono fun b hb _ => hb
        · have h8 := ((hR.lists.keep (Chg.of_below (R := fun _ => False) hb34) fun _ _ q => q.elim).keep (Chg.of_below (R := fun _ => False) hb48) fun _ _ q => q.elim).lower (B' := w.heap.size) (by omega)
          refine h8.keep c8 fun x ty q _ hty => ?_
          rcases hQ8 x ty q hty with rfl | rfl <;> decide
        · have h1 : IntsR W1 w9.heap.size (.slice fA fN fC) (bitsL F.fi) := by rw [hfN]; exact a2
          rw [← hF]
          refine (h1.keep c1 fun x q _ hty => ?_).low (by omega)
          rcases q with rfl | rfl | rfl | rfl
          · have := hty.eq ⟨_, _, eb1⟩; revert this; decide
          · have := hty.eq (show TyB W1 (w.heap.size + 1) 39 from (htt.keep (H9.out.1.block _ htt.lt)).keep (a3.block _ (by have := htt.lt; omega) (by omega))); revert this; decide
          · obtain ⟨cs, mm, h⟩ := hty
            rw [hK1] at h; cases h
          · have := hty.lt; omega
        · rw [hsN]
        · rw [← hsN]
          exact (hrw.low (by omega)).keep c8 fun x ty q _ hty => by rcases hQ8 x ty q hty with rfl | rfl <;> decide
        · intro i hi
          rw [← hsN] at hi
          obtain ⟨h1, h2⟩ := hmv i hi
          refine ⟨h1, fun x => (h2 x).trans ?_⟩
          rw [hjs]
          exact ⟨fun h => h.2, fun h => ⟨sj_63 HB.out.2.2.2.2.2.2 hR.sets h, h⟩⟩
        · rw [← hsN, ← hF]
          have e1 : W'.heap[bb]? = some (.cells ((List.range sN).map fun p => Value.bool (decide (p ∈ bitsL F.la))).toArray 4 (0, 0)) := (c2.block bb (Array.getElem?_eq_some_iff.1 b1).1 (by
            rintro (e | e | e)
            · omega
            · rw [e, hD12] at b1; cases b1
            · rw [e, hK2] at b1; cases b1)).trans b1
          have e2 : ((List.range sN).map fun p => Value.bool (decide (p ∈ bitsL F.la))) = (List.range sN).map fun p => Value.bool (F.la.testBit p) := by
            refine List.map_congr_left fun p hp => ?_
            have hp' := List.mem_range.1 hp
            have h41 := H7.out.2.2.2.2.2.2.1
            congr 1
            cases hb : F.la.testBit p with
            | true => exact decide_eq_true (mem_bits.2 ⟨by omega, hb⟩)
            | false => exact decide_eq_false fun h => by rw [(mem_bits.1 h).2] at hb; cases hb
          rw [e2] at e1
          have h41 := H7.out.2.2.2.2.2.2.1
          exact ⟨by simp, .inr ⟨bb, sN, _, rfl, by omega, e1, Nat.le_refl _, by unfold maxLen; omega, by simp, List.take_of_length_le (by simp)⟩⟩
        · rw [hF]
        · rw [← hrk, ← hrC, ← hrl, ← hrh]
        · have b0 := HB.out.1.trans ((hb24.mono (by omega)).trans (hb48.mono (by omega)))
          exact b0.trans (c8.below (B := w.heap.size) (by omega) fun k hk q => by omega)

end Go.Proofs.YtnebfniekeknaaaDoor

/- What moves keep: the scopes that are around both positions, by the map.
   Conditions: the tree has a map. -/
namespace Go.Proofs.YtnebfniekeknaaaDoor
open Go.RowKit

/-- The lists of two positions' scopes begin alike. -/
def KpJ (A : List (List Nat)) (j : Jt) : Prop := ∀ p q, j.fr.testBit p = true → j.tt.testBit q = true →
  ∃ c x y : List Nat, c.length = j.kp + (if j.ag then 1 else 0) ∧ A[p]? = some x ∧ c <+: x ∧ A[q]? = some y ∧ c <+: y
theorem KpJ.grow {A A' : List (List Nat)} {j : Jt} (h : KpJ A j) (hA : A <+: A') : KpJ A' j := fun p q hp hq => by
  obtain ⟨c, x, y, h1, h2, h3, h4, h5⟩ := h p q hp hq
  obtain ⟨B, rfl⟩ := hA
  exact ⟨c, x, y, h1, by rw [List.getElem?_append_left (List.getElem?_eq_some_iff.1 h2).1]; exact h2, h3, by rw [List.getElem?_append_left (List.getElem?_eq_some_iff.1 h4).1]; exact h4, h5⟩
theorem belP_pre (k lo hi : Int) (al : List Nat) (m : PM) : al <+: belP k lo hi al m := by
  unfold belP
  split
  · exact List.prefix_append _ _
  · exact List.prefix_refl _
theorem putP_ars (k : Int) (C : Nat → Nat) (lo hi : Int) (al : List Nat) (m : PM) : (putP k C al (scP k lo hi m)).ars = if isPos k C then m.ars ++ [al] else m.ars := by
  have e : (scP k lo hi m).ars = m.ars := by unfold scP; split <;> rfl
  unfold putP
  split
  · show (scP k lo hi m).ars ++ [al] = _; rw [e]
  · exact e
mutual
/-- The lists only grow, by those of the tree's positions, each of which begins with those around the tree. -/
theorem mapN_ars : ∀ (t : T) (al : List Nat) (m m' : PM), mapN t al m = some m' → ∃ X, m'.ars = m.ars ++ X ∧ X.length = npos t ∧ ∀ l ∈ X, al <+: l
  | .node k C lo hi ps, al, m, m', h => by
    rw [mapN] at h
    split at h
    · cases h
    · obtain ⟨X, h1, h2, h3⟩ := mapsN_ars ps _ _ m' h
      rw [putP_ars] at h1
      rw [npos]
      by_cases hp : isPos k C
      · rw [if_pos hp] at h1 ⊢
        refine ⟨al :: X, by rw [h1]; simp, by simp only [List.length_cons]; omega, fun l hl => ?_⟩
        rcases List.mem_cons.1 hl with rfl | hl
        · exact List.prefix_refl _
        · exact (belP_pre k lo hi al m).trans (h3 l hl)
      · rw [if_neg hp] at h1 ⊢
        exact ⟨X, h1, by omega, fun l hl => (belP_pre k lo hi al m).trans (h3 l hl)⟩
theorem mapsN_ars : ∀ (ts : List T) (al : List Nat) (m m' : PM), mapsN ts al m = some m' → ∃ X, m'.ars = m.ars ++ X ∧ X.length = nposs ts ∧ ∀ l ∈ X, al <+: l
  | [], al, m, m', h => by
    rw [mapsN] at h
    obtain rfl := Option.some.inj h
    exact ⟨[], by simp, rfl, by simp⟩
  | t :: ts, al, m, m', h => by
    rw [mapsN] at h
    cases h1 : mapN t al m with
    | none => rw [h1] at h; cases h
    | some m1 =>
      rw [h1] at h
      obtain ⟨X, e1, e2, e3⟩ := mapN_ars t al m m1 h1
      obtain ⟨Y, f1, f2, f3⟩ := mapsN_ars ts al m1 m' h
      refine ⟨X ++ Y, by rw [f1, e1, List.append_assoc], by rw [List.length_append, nposs]; omega, fun l hl => ?_⟩
      rcases List.mem_append.1 hl with hl | hl
      · exact e3 l hl
      · exact f3 l hl
end
/-- The lists of the positions in an interval begin so. -/
def PreA (A : List (List Nat)) (c : List Nat) (a b : Nat) : Prop := ∀ i, a < i → i ≤ b → ∃ x, A[i]? = some x ∧ c <+: x
theorem PreA.grow {A A' : List (List Nat)} {c : List Nat} {a b : Nat} (h : PreA A c a b) (hA : A <+: A') : PreA A' c a b := fun i h1 h2 => by
  obtain ⟨x, h3, h4⟩ := h i h1 h2
  obtain ⟨B, rfl⟩ := hA
  exact ⟨x, by rw [List.getElem?_append_left (List.getElem?_eq_some_iff.1 h3).1]; exact h3, h4⟩
theorem PreA.snoc {A X : List (List Nat)} {c : List Nat} {a0 a : Nat} (h : PreA A c a0 a) (hA : A.length = a + 1) (hX : ∀ l ∈ X, c <+: l) : PreA (A ++ X) c a0 (a + X.length) := fun i h1 h2 => by
  by_cases hi : i ≤ a
  · exact h.grow ⟨X, rfl⟩ i h1 hi
  · have h3 : i - A.length < X.length := by omega
    refine ⟨X[i - A.length], ?_, hX _ (List.getElem_mem h3)⟩
    rw [List.getElem?_append_right (by omega), List.getElem?_eq_getElem h3]
theorem kp_pre {A : List (List Nat)} {c : List Nat} {a b : Nat} {j : Jt} (h : PreA A c a b) (hj : JtIn a b j) (hc : c.length = j.kp + (if j.ag then 1 else 0)) : KpJ A j := fun p q hp hq => by
  have h1 := hj.fr p hp
  have h2 := hj.tt q hq
  obtain ⟨x, hx, hx2⟩ := h p h1.1 h1.2
  obtain ⟨y, hy, hy2⟩ := h q h2.1 h2.2
  exact ⟨c, x, y, hc, hx, hx2, hy, hy2⟩
mutual
theorem mv_keep : ∀ (t : T) (al : List Nat) (m m' : PM) (a : Nat), mapN t al m = some m' → m.ars.length = a + 1 → ∀ j ∈ (mvT t al.length a).2.2, KpJ m'.ars j
  | .node k C lo hi ps, al, m, m', a, h, ha => by
    rw [mapN] at h
    split at h
    · cases h
    · have e := putP_ars k C lo hi al m
      rw [mvT]
      have hb : (belP k lo hi al m).length = blA al.length (cnt4 k lo hi) := by unfold belP blA; split <;> simp
      refine mvs_keep k hi (belP k lo hi al m) al.length (cnt4 k lo hi) hb (fun hk => by unfold cnt4; simp [hk]) ps (opF k C lo a) a (opA k C a) _ m' h ?_ (op_le k C a) (op_in k C lo a) ?_
      · rw [e]; unfold opA; split <;> simp [ha]
      · intro i h1 h2
        by_cases hp : isPos k C
        · have hi1 : i = a + 1 := by rw [opA, if_pos hp] at h2; omega
          subst hi1
          rw [e, if_pos hp]
          refine ⟨al, by rw [List.getElem?_append_right (by omega), ha, Nat.sub_self]; rfl, ?_⟩
          have hk : k = 1 := by unfold isPos at hp; simp at hp; exact hp.1
          have : belP k lo hi al m = al := by unfold belP cnt4; simp [hk]
          rw [this]
          exact List.prefix_refl _
        · rw [opA, if_neg hp] at h2; omega
theorem mvs_keep (k hi : Int) (bl : List Nat) (ar : Nat) (ag : Bool) (hb : bl.length = blA ar ag) (hk2 : k = 2 → ag = false) : ∀ (ts : List T) (f : Fc) (a0 a : Nat) (m m' : PM), mapsN ts bl m = some m' → m.ars.length = a + 1 → a0 ≤ a → FcIn a0 a f → PreA m.ars bl a0 a →
    ∀ j ∈ (mvsT k hi ar ag ts f a).2.2, KpJ m'.ars j
  | [], f, a0, a, m, m', h, ha, h0, hf, hp => by
    rw [mvsT]
    exact fun j hj => by cases hj
  | t :: ts, f, a0, a, m, m', h, ha, h0, hf, hp => by
    rw [mapsN] at h
    cases h1 : mapN t bl m with
    | none => rw [h1] at h; cases h
    | some m1 =>
      rw [h1] at h
      obtain ⟨X, e1, e2, e3⟩ := mapN_ars t bl m m1 h1
      obtain ⟨Y, f1, f2, f3⟩ := mapsN_ars ts bl m1 m' h
      have hg := mv_in t bl.length a
      have hat := mv_at t bl.length a
      have hK := mv_keep t bl m m1 a h1 ha
      have hp1 : PreA m1.ars bl a0 (a + npos t) := by rw [e1, ← e2]; exact hp.snoc ha e3
      have hf1 : FcIn a0 (a + npos t) f := hf.wid (Nat.le_refl _) (by omega)
      have hg1 : FcIn a0 (a + npos t) (mvT t bl.length a).1 := hg.1.wid h0 (Nat.le_refl _)
      rw [mvsT, ← hb]
      simp only
      intro j hj
      rcases List.mem_append.1 hj with hj | hj
      · rcases List.mem_append.1 hj with hj | hj
        · exact (hK j hj).grow ⟨Y, f1.symm⟩
        · refine KpJ.grow ?_ ⟨Y, f1.symm⟩
          unfold adJ at hj
          split at hj
          · rename_i hk
            rw [List.mem_singleton.1 hj]
            refine kp_pre hp1 ⟨hf1.la, hg1.fi⟩ ?_
            rw [hb, hk2 hk]; rfl
          · split at hj
            · rw [List.mem_singleton.1 hj]
              refine kp_pre hp1 ⟨hg1.la, hg1.fi⟩ ?_
              rw [hb]; unfold blA; cases ag <;> rfl
            · cases hj
      · refine mvs_keep k hi bl ar ag hb hk2 ts _ a0 _ m1 m' h ?_ ?_ ?_ ?_ j hj
        · rw [e1, List.length_append, hat]; omega
        · rw [hat]; omega
        · rw [hat]; exact ad_in hf1 hg1
        · rw [hat]; exact hp1
end
theorem moves_keep {t : T} {m : PM} (h : mapT t = some m) : ∀ j ∈ (mvT t 0 0).2.2, KpJ m.ars j := mv_keep t [] pm0 m 0 h rfl

mutual
/-- Nothing is repeated. -/
def no4 : T → Bool
  | .node k _ _ _ ps => !decide (k = 4) && no4s ps
def no4s : List T → Bool
  | [] => true
  | t :: ts => no4 t && no4s ts
end
theorem no4s_mem {ps : List T} : no4s ps = true ↔ ∀ p ∈ ps, no4 p = true := by
  induction ps with
  | nil => simp [no4s]
  | cons q ps ih => rw [no4s, Bool.and_eq_true, ih]; simp
theorem no4_ps {t : T} (h : no4 t = true) : ∀ p ∈ t.ps, no4 p = true := by
  cases t with
  | node k C lo hi ps => rw [no4, Bool.and_eq_true] at h; exact no4s_mem.1 h.2
theorem no4_one {k : Int} (hk : k ≠ 4) : ∀ {l : List T}, (∀ t ∈ l, no4 t = true) → no4 (oneOf k l) = true
  | [], _ => by simp [oneOf, no4, no4s]
  | [t], h => h t (by simp)
  | t :: u :: ts, h => by
    rw [oneOf, no4, Bool.and_eq_true]
    exact ⟨by simp [hk], no4s_mem.2 h⟩
mutual
theorem no4_sim : ∀ t : T, no4 t = true → no4 (simT t) = true
  | .node k C lo hi ps, h => by
    rw [no4, Bool.and_eq_true] at h
    have hk : k ≠ 4 := by simpa using h.1
    have hs := no4_sims ps h.2
    rw [simT]
    split
    · simp [no4, no4s]
    · split
      · rw [no4, Bool.and_eq_true]; exact ⟨by simp [hk], h.2⟩
      · try rw [if_neg hk]
        refine no4_one hk fun u hu => left_all (P := fun u => no4 u = true) _ _ (by simp) (fun x hx => ?_) u hu
        rcases spread_mem hx with ⟨v, hv, _, hx2⟩ | ⟨hx2, _⟩
        · exact no4_ps (hs v hv) x hx2
        · exact hs x hx2
theorem no4_sims : ∀ ts : List T, no4s ts = true → ∀ u ∈ simsT ts, no4 u = true
  | [], _, u, hu => by rw [simsT] at hu; cases hu
  | t :: ts, h, u, hu => by
    rw [no4s, Bool.and_eq_true] at h
    rw [simsT] at hu
    rcases List.mem_cons.1 hu with rfl | hu
    · exact no4_sim t h.1
    · exact no4_sims ts h.2 u hu
end
/-- A move to a later position that keeps nothing and begins nothing once more. -/
def PlJ (ar : Nat) (j : Jt) : Prop := j.kp = ar ∧ j.ag = false ∧ ∀ p q, j.fr.testBit p = true → j.tt.testBit q = true → p < q
mutual
theorem mv_plain : ∀ (t : T) (ar a : Nat), no4 t = true → ∀ j ∈ (mvT t ar a).2.2, PlJ ar j
  | .node k C lo hi ps, ar, a, h => by
    rw [no4, Bool.and_eq_true] at h
    have hk : k ≠ 4 := by simpa using h.1
    have hc : cnt4 k lo hi = false := by unfold cnt4; simp [hk]
    rw [mvT, hc]
    exact mvs_plain k hi ar hk ps (opF k C lo a) a (opA k C a) h.2 (op_le k C a) (op_in k C lo a)
theorem mvs_plain (k hi : Int) (ar : Nat) (hk : k ≠ 4) : ∀ (ts : List T) (f : Fc) (a0 a : Nat), no4s ts = true → a0 ≤ a → FcIn a0 a f → ∀ j ∈ (mvsT k hi ar false ts f a).2.2, PlJ ar j
  | [], f, a0, a, _, _, _ => by rw [mvsT]; exact fun j hj => by cases hj
  | t :: ts, f, a0, a, h, h0, hf => by
    rw [no4s, Bool.and_eq_true] at h
    have hb : blA ar false = ar := rfl
    have hg := mv_in t ar a
    have hat := mv_at t ar a
    rw [mvsT, hb]
    simp only
    intro j hj
    rcases List.mem_append.1 hj with hj | hj
    · rcases List.mem_append.1 hj with hj | hj
      · exact mv_plain t ar a h.1 j hj
      · unfold adJ at hj
        split at hj
        · rw [List.mem_singleton.1 hj]
          refine ⟨rfl, rfl, fun p q hp hq => ?_⟩
          have h1 := hf.la p hp
          have h2 := hg.1.fi q hq
          omega
        · rw [if_neg (fun e => hk e.1)] at hj
          cases hj
    · refine mvs_plain k hi ar hk ts _ a0 _ h.2 (by rw [hat]; omega) ?_ j hj
      rw [hat]
      exact ad_in (hf.wid (Nat.le_refl _) (by omega)) (hg.1.wid h0 (Nat.le_refl _))
end
mutual
theorem no4_scs : ∀ (t : T) (al : List Nat) (m m' : PM), no4 t = true → mapN t al m = some m' → m'.scs = m.scs
  | .node k C lo hi ps, al, m, m', hn, h => by
    rw [no4, Bool.and_eq_true] at hn
    have hk : k ≠ 4 := by simpa using hn.1
    rw [mapN] at h
    split at h
    · cases h
    · have h1 := no4s_scs ps _ _ m' hn.2 h
      rw [h1]
      unfold putP scP cnt4
      simp [hk]
      split <;> rfl
theorem no4s_scs : ∀ (ts : List T) (al : List Nat) (m m' : PM), no4s ts = true → mapsN ts al m = some m' → m'.scs = m.scs
  | [], al, m, m', _, h => by rw [mapsN] at h; rw [← Option.some.inj h]
  | t :: ts, al, m, m', hn, h => by
    rw [no4s, Bool.and_eq_true] at hn
    rw [mapsN] at h
    cases h1 : mapN t al m with
    | none => rw [h1] at h; cases h
    | some m1 =>
      rw [h1] at h
      rw [no4s_scs ts al m1 m' hn.2 h, no4_scs t al m m1 hn.1 h1]
end
theorem plain_scs {t : T} {m : PM} (hn : no4 t = true) (h : mapT t = some m) : m.scs = [] := no4_scs t [] pm0 m hn h

end Go.Proofs.YtnebfniekeknaaaDoor

/- Positions that are reached: each is one with which a simple tree begins, or a joint goes to it; and one with which it ends, or a joint goes from it.
   Conditions: the tree is simple. -/
namespace Go.Proofs.YtnebfniekeknaaaDoor
open Go.RowKit

/-- Of alternatives one at least isn't of Kind 0. -/
inductive AlT : T → Prop
  | mk (k : Int) (C : Nat → Nat) (lo hi : Int) (ps : List T) (h3 : k = 3 → ∃ p ∈ ps, p.kind ≠ 0) (hp : ∀ p ∈ ps, AlT p) : AlT (.node k C lo hi ps)
theorem AlT.part {t : T} (h : AlT t) : ∀ p ∈ t.ps, AlT p := by
  cases h with
  | mk k C lo hi ps _ hp => exact hp
theorem al_leaf {k : Int} (hk : k ≠ 3) {C : Nat → Nat} {lo hi : Int} : AlT (.node k C lo hi []) := .mk _ _ _ _ _ (fun e => absurd e hk) fun p hp => by cases hp
/-- Of those that are left no two are alike. -/
theorem left_apart : ∀ (a l : List T), l.Pairwise (fun u t => likeT u t = false) → (leftT 3 l a).Pairwise fun u t => likeT u t = false
  | [], l, h => by rw [leftT]; exact h
  | t :: a, l, h => by
    rw [leftT]
    refine left_apart a _ ?_
    split
    · exact h
    · rename_i hd
      have hd' : (vdT t || l.any fun u => likeT u t) = false := by
        have : dropT 3 l t = false := by simpa using hd
        unfold dropT at this
        simpa using this
      rw [Bool.or_eq_false_iff] at hd'
      rw [List.pairwise_append]
      refine ⟨h, by simp, fun u hu v hv => ?_⟩
      rw [List.mem_singleton.1 hv]
      have := List.any_eq_false.1 hd'.2 u hu
      simpa using this
theorem al_one2 : ∀ {l : List T}, (∀ t ∈ l, AlT t) → AlT (oneOf 2 l)
  | [], _ => al_leaf (by decide)
  | [t], h => h t (by simp)
  | t :: u :: ts, h => .mk _ _ _ _ _ (fun e => by cases e) h
theorem al_one3 : ∀ {l : List T}, (∀ t ∈ l, AlT t ∧ ZnT t) → l.Pairwise (fun u t => likeT u t = false) → AlT (oneOf 3 l)
  | [], _, _ => al_leaf (by decide)
  | [t], h, _ => (h t (by simp)).1
  | t :: u :: ts, h, hp => by
    refine .mk _ _ _ _ _ (fun _ => ?_) fun p hp => (h p hp).1
    by_cases ht : t.kind = 0
    · refine ⟨u, by simp, fun hu => ?_⟩
      have e1 := (h t (by simp)).2.zero ht
      have e2 := (h u (by simp)).2.zero hu
      have h1 := (List.pairwise_cons.1 hp).1 u (by simp)
      rw [e1, e2, like_refl] at h1
      cases h1
    · exact ⟨t, by simp, ht⟩
mutual
theorem sim_al : ∀ t : T, okT t = true → AlT (simT t)
  | .node k C lo hi ps, hok => by
    have hs := sims_al ps (ok_parts hok)
    have hz := sims_zn ps (ok_parts hok)
    have ha := of_decide_eq_true (ok_kind hok)
    rw [simT]
    split
    · exact al_leaf (by decide)
    · split
      · rename_i hk
        have hps : ps = [] := by
          rcases ha with ⟨_, _, _, _, h⟩ | ⟨_, _, _, h⟩ | ⟨h, _⟩ | ⟨h, _⟩
          · exact List.length_eq_zero_iff.1 h
          · exact List.length_eq_zero_iff.1 h
          · omega
          · omega
        subst hps
        exact al_leaf (by omega)
      · split
        · cases hss : simsT ps with
          | nil => exact al_leaf (by decide)
          | cons s r =>
            have h1 := hs s (by rw [hss]; simp)
            show AlT (rep4 lo hi s)
            unfold rep4
            split
            · exact al_leaf (by decide)
            · split
              · exact h1
              · exact .mk _ _ _ _ _ (fun e => by cases e) fun p hp => by rw [List.mem_singleton.1 hp]; exact h1
        · rename_i h2 h4
          have hk : k = 2 ∨ k = 3 := by omega
          have hx : ∀ x ∈ spreadT k (simsT ps), AlT x ∧ ZnT x := fun x hx => by
            rcases spread_mem hx with ⟨u, hu, _, hp⟩ | ⟨h1, _⟩
            · exact ⟨(hs u hu).part x hp, (hz u hu).part x hp⟩
            · exact ⟨hs x h1, hz x h1⟩
          have hl := left_all (P := fun x => AlT x ∧ ZnT x) (k := k) (spreadT k (simsT ps)) [] (by simp) hx
          rcases hk with rfl | rfl
          · exact al_one2 fun t ht => (hl t ht).1
          · exact al_one3 hl (left_apart _ _ List.Pairwise.nil)
theorem sims_al : ∀ ts : List T, oksT ts = true → ∀ u ∈ simsT ts, AlT u
  | [], _, u, hu => by rw [simsT] at hu; cases hu
  | t :: ts, h, u, hu => by
    rw [oksT, Bool.and_eq_true] at h
    rw [simsT] at hu
    rcases List.mem_cons.1 hu with rfl | hu
    · exact sim_al t h.1
    · exact sims_al ts h.2 u hu
end

def Has1 (n : Nat) : Prop := ∃ p, n.testBit p = true
theorem has_or_l {m n : Nat} (h : Has1 m) : Has1 (m ||| n) := by obtain ⟨p, hp⟩ := h; exact ⟨p, by rw [Nat.testBit_or, hp]; rfl⟩
theorem has_or_r {m n : Nat} (h : Has1 n) : Has1 (m ||| n) := by obtain ⟨p, hp⟩ := h; exact ⟨p, by rw [Nat.testBit_or, hp]; simp⟩
/-- Begins and ends with some position. -/
def Fc1 (f : Fc) : Prop := Has1 f.fi ∧ Has1 f.la
theorem fc1_add {k : Int} {f g : Fc} (h : (k = 2 → f.em = true ∨ Fc1 f) ∧ Fc1 g) : Fc1 (adF k f g) := by
  unfold adF thenF orF
  split
  · rename_i hk
    refine ⟨?_, ?_⟩
    · show Has1 (if f.em then f.fi ||| g.fi else f.fi)
      split
      · exact has_or_r h.2.1
      · rename_i he
        rcases h.1 hk with h1 | h1
        · exact absurd h1 he
        · exact h1.1
    · show Has1 (if g.em then g.la ||| f.la else g.la)
      split
      · exact has_or_l h.2.2
      · exact h.2.2
  · exact ⟨has_or_r h.2.1, has_or_r h.2.2⟩
theorem fc1_keep {k : Int} {f g : Fc} (h : Fc1 f) (hg : k = 2 → Fc1 g) : Fc1 (adF k f g) := by
  unfold adF thenF orF
  split
  · rename_i hk
    refine ⟨?_, ?_⟩
    · show Has1 (if f.em then f.fi ||| g.fi else f.fi)
      split
      · exact has_or_l h.1
      · exact h.1
    · show Has1 (if g.em then g.la ||| f.la else g.la)
      split
      · exact has_or_l (hg hk).2
      · exact (hg hk).2
  · exact ⟨has_or_l h.1, has_or_l h.2⟩
/-- What a simple tree is like, for this. -/
structure RcT (t : T) : Prop where
  ok : okT t = true
  ln : lnT t = true
  sm : SmT t
  al : AlT t
theorem RcT.part {t : T} (h : RcT t) : ∀ p ∈ t.ps, RcT p := fun p hp => ⟨by cases t with | node k C lo hi ps => exact oks_mem (ok_parts h.ok) p hp, ln_ps h.ln p hp, h.sm.part p hp, h.al.part p hp⟩
mutual
/-- What isn't of Kind 0 begins, and ends, with some position. -/
theorem mv_has : ∀ (t : T) (ar a : Nat), RcT t → t.kind ≠ 0 → Fc1 (mvT t ar a).1
  | .node k C lo hi ps, ar, a, h, hk => by
    have hk0 : k ≠ 0 := hk
    have ha := of_decide_eq_true (ok_kind h.ok)
    have hv := ln_vd h.ln
    rw [mvT]
    by_cases h1 : k = 1
    · subst h1
      have hz : z4 C = false := by rw [vdT] at hv; simpa using hv
      have hps : ps = [] := by
        rcases ha with ⟨h, _⟩ | ⟨_, _, _, h⟩ | ⟨h, _⟩ | ⟨h, _⟩
        · omega
        · exact List.length_eq_zero_iff.1 h
        · omega
        · omega
      subst hps
      have hp : isPos 1 C = true := by unfold isPos; simp [hz]
      rw [mvsT, opF, if_pos hp]
      exact ⟨⟨a + 1, by rw [Nat.testBit_two_pow]; simp⟩, ⟨a + 1, by rw [Nat.testBit_two_pow]; simp⟩⟩
    · have hne : ps ≠ [] := fun e => by
        subst e
        simp only [List.length_nil] at ha
        omega
      have hp := h.part
      by_cases h2 : k = 2
      · subst h2
        have hp0 := h.sm.two rfl
        exact mvs_has2 hi ar (cnt4 2 lo hi) ps (opF 2 C lo a) (opA 2 C a) (fun p hm => ⟨hp p hm, (hp0 p hm).1⟩) (.inl ⟨rfl, hne⟩)
      · obtain ⟨p, hm, hpk⟩ : ∃ p ∈ ps, p.kind ≠ 0 := by
          rcases ha with ⟨h, _⟩ | ⟨h, _⟩ | ⟨h', _⟩ | ⟨h', _⟩
          · omega
          · omega
          · have h3 : k = 3 := by omega
            have := h.al
            cases this with
            | mk _ _ _ _ _ e _ => exact e h3
          · obtain ⟨p, hm⟩ := List.exists_mem_of_ne_nil ps hne
            exact ⟨p, hm, by
              have := h.sm
              cases this with
              | mk _ _ _ _ _ _ _ e _ => exact (e h' p hm).1⟩
        exact mvs_has k hi ar (cnt4 k lo hi) h2 ps (opF k C lo a) (opA k C a) hp (.inr ⟨p, hm, hpk⟩)
theorem mvs_has2 (hi : Int) (ar : Nat) (ag : Bool) : ∀ (ts : List T) (f : Fc) (a : Nat), (∀ p ∈ ts, RcT p ∧ p.kind ≠ 0) → (f.em = true ∧ ts ≠ [] ∨ Fc1 f) → Fc1 (mvsT 2 hi ar ag ts f a).1
  | [], f, a, _, h => by
    rw [mvsT]
    rcases h with ⟨_, h⟩ | h
    · exact absurd rfl h
    · exact h
  | t :: ts, f, a, hp, h => by
    rw [mvsT]
    have h1 := mv_has t (blA ar ag) a (hp t (by simp)).1 (hp t (by simp)).2
    refine mvs_has2 hi ar ag ts _ _ (fun p hm => hp p (by simp [hm])) (.inr (fc1_add ⟨fun _ => ?_, h1⟩))
    rcases h with ⟨h, _⟩ | h
    · exact .inl h
    · exact .inr h
theorem mvs_has (k hi : Int) (ar : Nat) (ag : Bool) (hk : k ≠ 2) : ∀ (ts : List T) (f : Fc) (a : Nat), (∀ p ∈ ts, RcT p) → (Fc1 f ∨ ∃ p ∈ ts, p.kind ≠ 0) → Fc1 (mvsT k hi ar ag ts f a).1
  | [], f, a, _, h => by
    rw [mvsT]
    rcases h with h | ⟨p, hm, _⟩
    · exact h
    · cases hm
  | t :: ts, f, a, hp, h => by
    rw [mvsT]
    refine mvs_has k hi ar ag hk ts _ _ (fun p hm => hp p (by simp [hm])) ?_
    rcases h with h | ⟨p, hm, hpk⟩
    · exact .inl (fc1_keep h fun e => absurd e hk)
    · rcases List.mem_cons.1 hm with e | hm
      · rw [e] at hpk
        exact .inl (fc1_add ⟨fun e => absurd e hk, mv_has t (blA ar ag) a (hp t (by simp)) hpk⟩)
      · exact .inr ⟨p, hm, hpk⟩
end
/-- A position is begun with, or gone to; ended with, or gone from. -/
def RcP (f : Fc) (js : List Jt) (p : Nat) : Prop := (f.fi.testBit p = true ∨ ∃ j ∈ js, j.tt.testBit p = true ∧ Has1 j.fr) ∧ (f.la.testBit p = true ∨ ∃ j ∈ js, j.fr.testBit p = true ∧ Has1 j.tt)
theorem RcP.more {f : Fc} {js js' : List Jt} {p : Nat} (h : RcP f js p) (hs : ∀ j ∈ js, j ∈ js') : RcP f js' p :=
  ⟨h.1.imp id fun ⟨j, hj, r⟩ => ⟨j, hs j hj, r⟩, h.2.imp id fun ⟨j, hj, r⟩ => ⟨j, hs j hj, r⟩⟩
/-- Once a part is added. -/
theorem rc_old {k hi : Int} {ar : Nat} {ag : Bool} {f g : Fc} {js : List Jt} {p : Nat} (h : RcP f js p) (hg : k = 2 → Fc1 g) (hJ : ∀ j ∈ adJ k hi ar ag f g, j ∈ js) : RcP (adF k f g) js p := by
  refine ⟨?_, ?_⟩
  · rcases h.1 with h1 | h1
    · left
      unfold adF thenF orF
      split
      · show (if f.em then f.fi ||| g.fi else f.fi).testBit p = true
        split
        · rw [Nat.testBit_or, h1]; rfl
        · exact h1
      · show (f.fi ||| g.fi).testBit p = true
        rw [Nat.testBit_or, h1]; rfl
    · exact .inr h1
  · rcases h.2 with h1 | h1
    · by_cases hk : k = 2
      · right
        refine ⟨⟨f.la, g.fi, ar, false⟩, hJ _ ?_, h1, (hg hk).1⟩
        unfold adJ
        rw [if_pos hk]
        simp
      · left
        unfold adF orF
        rw [if_neg hk]
        show (f.la ||| g.la).testBit p = true
        rw [Nat.testBit_or, h1]; rfl
    · exact .inr h1
theorem rc_new {k hi : Int} {ar : Nat} {ag : Bool} {f g : Fc} {js : List Jt} {p : Nat} (h : RcP g js p) (hf : k = 2 → f.em = true ∨ Fc1 f) (hJ : ∀ j ∈ adJ k hi ar ag f g, j ∈ js) : RcP (adF k f g) js p := by
  refine ⟨?_, ?_⟩
  · rcases h.1 with h1 | h1
    · by_cases hk : k = 2
      · rcases hf hk with he | he
        · left
          unfold adF thenF
          rw [if_pos hk]
          show (if f.em then f.fi ||| g.fi else f.fi).testBit p = true
          rw [if_pos he, Nat.testBit_or, h1]; simp
        · right
          refine ⟨⟨f.la, g.fi, ar, false⟩, hJ _ ?_, h1, he.2⟩
          unfold adJ
          rw [if_pos hk]
          simp
      · left
        unfold adF orF
        rw [if_neg hk]
        show (f.fi ||| g.fi).testBit p = true
        rw [Nat.testBit_or, h1]; simp
    · exact .inr h1
  · rcases h.2 with h1 | h1
    · left
      unfold adF thenF orF
      split
      · show (if g.em then g.la ||| f.la else g.la).testBit p = true
        split
        · rw [Nat.testBit_or, h1]; rfl
        · exact h1
      · show (f.la ||| g.la).testBit p = true
        rw [Nat.testBit_or, h1]; simp
    · exact .inr h1
mutual
theorem mv_reach : ∀ (t : T) (ar a : Nat), RcT t → ∀ p, a < p → p ≤ a + npos t → RcP (mvT t ar a).1 (mvT t ar a).2.2 p
  | .node k C lo hi ps, ar, a, h, p, h1, h2 => by
    rw [mvT]
    rw [npos] at h2
    have key := mvs_reach' k hi ar (cnt4 k lo hi) ps (opF k C lo a) a (opA k C a) [] (fun q hq => ⟨h.part q hq, fun hk => (h.sm.two hk q hq).1⟩) (fun hk => .inl ?_) ?_ p h1 ?_
    · simpa using key
    · unfold opF isPos
      simp [hk]
    · intro q hq1 hq2
      by_cases hp : isPos k C
      · rw [opA, if_pos hp] at hq2
        have : q = a + 1 := by omega
        subst this
        rw [opF, if_pos hp]
        exact ⟨.inl (by show (2 ^ (a + 1)).testBit (a + 1) = true; rw [Nat.testBit_two_pow]; simp), .inl (by show (2 ^ (a + 1)).testBit (a + 1) = true; rw [Nat.testBit_two_pow]; simp)⟩
      · rw [opA, if_neg hp] at hq2; omega
    · unfold opA
      split at h2 <;> split <;> simp_all <;> omega
theorem mvs_reach' (k hi : Int) (ar : Nat) (ag : Bool) : ∀ (ts : List T) (f : Fc) (a0 a : Nat) (js : List Jt), (∀ p ∈ ts, RcT p ∧ (k = 2 → p.kind ≠ 0)) → (k = 2 → f.em = true ∨ Fc1 f) → (∀ p, a0 < p → p ≤ a → RcP f js p) →
    ∀ p, a0 < p → p ≤ a + nposs ts → RcP (mvsT k hi ar ag ts f a).1 (js ++ (mvsT k hi ar ag ts f a).2.2) p
  | [], f, a0, a, js, _, _, hr => fun p h1 h2 => by
    rw [nposs] at h2
    rw [mvsT]
    simpa using hr p h1 (by omega)
  | t :: ts, f, a0, a, js, hp, hf, hr => fun p h1 h2 => by
    have ht := hp t (by simp)
    have hg1 : k = 2 → Fc1 (mvT t (blA ar ag) a).1 := fun hk => mv_has t (blA ar ag) a ht.1 (ht.2 hk)
    have hat := mv_at t (blA ar ag) a
    rw [nposs] at h2
    rw [mvsT]
    simp only
    have h3 := mvs_reach' k hi ar ag ts (adF k f (mvT t (blA ar ag) a).1) a0 (mvT t (blA ar ag) a).2.1 (js ++ ((mvT t (blA ar ag) a).2.2 ++ adJ k hi ar ag f (mvT t (blA ar ag) a).1)) (fun q hq => hp q (by simp [hq])) (fun hk => .inr (fc1_add ⟨hf, hg1 hk⟩)) ?_ p h1 (by rw [hat]; omega)
    · simpa [List.append_assoc] using h3
    · intro q hq1 hq2
      have hJ : ∀ j ∈ adJ k hi ar ag f (mvT t (blA ar ag) a).1, j ∈ js ++ ((mvT t (blA ar ag) a).2.2 ++ adJ k hi ar ag f (mvT t (blA ar ag) a).1) := fun j hj => by simp [hj]
      by_cases hq : q ≤ a
      · exact rc_old ((hr q hq1 hq).more fun j hj => by simp [hj]) hg1 hJ
      · exact rc_new ((mv_reach t (blA ar ag) a ht.1 q (by omega) (by rw [hat] at hq2; exact hq2)).more fun j hj => by simp [hj]) hf hJ
end
/-- Each position of a simple tree. -/
theorem moves_reach (t : T) (ht : okT t = true) (hok : okT (simT t) = true) (p : Nat) (h1 : 1 ≤ p) (h2 : p ≤ npos (simT t)) : RcP (mvT (simT t) 0 0).1 (mvT (simT t) 0 0).2.2 p := by
  cases hv : vdT t with
  | false => exact mv_reach (simT t) 0 0 ⟨hok, sim_ln t ht hv, sim_sm t ht, sim_al t ht⟩ p (by omega) (by omega)
  | true =>
    have he : simT t = emptyT := by
      cases t with
      | node k C lo hi ps => rw [simT, if_pos hv]
    rw [he] at h2
    have h3 : npos emptyT = 0 := by decide
    omega

end Go.Proofs.YtnebfniekeknaaaDoor

/- What the statements on moves share: the automaton read, the leaf's automaton, whether something is repeated.
   Conditions: those that each theorem states. -/
namespace Go.Proofs.YtnebfniekeknaaaDoor
open Go.RowKit Go.Shelf
attribute [local go_sem] nodeAgg

theorem MkR.step {w w' w'' : World} {u : T} {m : PM} {r : V} {sv cv av fv mv lv : Value} {em : Bool} {lb : Nat} {vs : List Value} {L : Nat → List Mv} (h : MkR w w' u m r sv cv av fv mv lv em lb vs L) (hb : Below w'.heap.size w' w'') : MkR w w'' u m r sv cv av fv mv lv em lb vs L :=
  ⟨h.map, h.tree, (laid_low h.laid hb).mono fun _ hb' _ => hb', h.lists.keep (Chg.of_below (R := fun _ => False) hb) fun _ _ q => q.elim, h.sets, h.ars, h.scs, h.one, h.first.below hb, h.mvv, h.rows.below hb, h.moves, own_chg h.last (Chg.of_below (R := fun _ => False) hb) fun _ _ => id, h.emp⟩
/-- A position's list of moves, and each of them, in memory. -/
theorem mv_read {w : World} {B n lb i : Nat} {vs : List Value} {L : Nat → List Mv} (h : RowsM w B n (.slice (some ⟨lb, 0, none⟩) n n) vs L) (hi : i < n) :
    ∃ A c, w.cell? ⟨lb, i, none⟩ = some (.slice A (L i).length c) ∧ lb < w.heap.size ∧ ∀ k x, (L i)[k]? = some x → ∃ g, A = some ⟨g, 0, none⟩ ∧ g < w.heap.size ∧ w.cell? ⟨g, k * 3, none⟩ = some (.int .i64 x.tt) ∧ w.cell? ⟨g, k * 3 + 1, none⟩ = some (.int .i64 x.kp) ∧ w.cell? ⟨g, k * 3 + 2, none⟩ = some (.bool x.ag) := by
  obtain ⟨v, hv, hr⟩ := h.row i hi
  obtain ⟨A, c, rfl⟩ := own_form hr
  refine ⟨A, c, (h.own.cellAt i (by omega)).trans hv, (h.own.lt lb rfl).2, fun k x hk => ?_⟩
  have hkl : k < (L i).length := (List.getElem?_eq_some_iff.1 hk).1
  have hx : (L i)[k]! = x := by rw [getElem!_pos (L i) k hkl]; exact (List.getElem?_eq_some_iff.1 hk).2
  have hg : ∃ g, A = some ⟨g, 0, none⟩ := by
    cases hl : (L i).length with
    | zero => omega
    | succ q =>
      rw [hl] at hr
      obtain ⟨g, cap, e⟩ := ownsRow_succ hr
      simp only [Value.slice.injEq] at e
      exact ⟨g, e.1⟩
  obtain ⟨g, rfl⟩ := hg
  have hc : ∀ j, j < 3 → w.cell? ⟨g, k * 3 + j, none⟩ = some (mvc x)[j]! := fun j hj => by
    rw [hr.cellAt (k * 3 + j) (by omega), mvc_get (L i) (k * 3 + j) (by omega), show (k * 3 + j) / 3 = k by omega, show (k * 3 + j) % 3 = j by omega, hx]
  exact ⟨g, rfl, (hr.lt g rfl).2, hc 0 (by omega), hc 1 (by omega), hc 2 (by omega)⟩
theorem leaf_mv : mvT (.node 1 (wash leafC) 0 0 []) 0 0 = (⟨2, 2, false⟩, 1, []) := by
  have hz : z4 (wash leafC) = false := by decide
  simp [mvT, mvsT, opF, opA, isPos, hz]

set_option maxHeartbeats 2000000 in
set_option maxRecDepth 100000 in
theorem awake6_any (w : World) (hT : TabE w) (hTl : tabE < w.heap.size) : Calls Tryd.prog 10 #[] w fun e w' => e = .returned (.bool true) ∧ Below w.heap.size w w' := by
  have HMK := Lib.hid (make_good leafV w (fun _ => True) (.none _ _ _ _ _ _) (by decide) (by decide) ⟨[zeros, wash leafC], [], [[], []]⟩ (by rw [leaf_sim]; exact leaf_map) hT hTl)
  clear hT hTl
  go_enter Tryd.func10, Tryd.ntmps10
  go_wp2_with fail
  go_at_call 12
  refine Calls.mono HMK.out ?_
  rintro e w2 ⟨⟨r, ta, tn, tc, sA, sN, sC, cA, cN, cC, aA, aN, aC, fA, fN, fC, lb, bb, em, vs, L, hR, hv, rfl⟩, hb2⟩
  have hmv : (mvT (simT (erase leafV)) 0 0).1 = ⟨2, 2, false⟩ := by rw [leaf_sim, leaf_mv]
  have hs : sN = 2 := own_n hR.lists.sets
  have hf : fN = 1 := by
    have := own_n hR.first.own
    rw [hmv] at this
    rw [this]; decide
  have he : em = false := by rw [hR.emp, hmv]
  subst hs hf
  have HE := Lib.hid he
  clear he
  obtain ⟨w3, hw3⟩ : ∃ w3, w2.alloc (.cells #[.int .i64 r.kind, .int .u64 (r.set 0 : Nat), .int .u64 (r.set 1 : Nat), .int .u64 (r.set 2 : Nat), .int .u64 (r.set 3 : Nat), .slice ta tn tc, .int .i64 r.lo, .int .i64 r.hi, .slice sA 2 sC, .slice cA cN cC, .slice aA aN aC, .slice fA 1 fC, .slice (some ⟨lb, 0, none⟩) 2 2, .slice (some ⟨bb, 0, none⟩) 2 2, .bool em] 39) = w3 := ⟨_, rfl⟩
  have hb3 : Below w2.heap.size w2 w3 := hw3 ▸ (Below.refl _ w2).alloc (Nat.le_refl _) _
  have hrow : w3.heap[w2.heap.size]? = some (.cells #[.int .i64 r.kind, .int .u64 (r.set 0 : Nat), .int .u64 (r.set 1 : Nat), .int .u64 (r.set 2 : Nat), .int .u64 (r.set 3 : Nat), .slice ta tn tc, .int .i64 r.lo, .int .i64 r.hi, .slice sA 2 sC, .slice cA cN cC, .slice aA aN aC, .slice fA 1 fC, .slice (some ⟨lb, 0, none⟩) 2 2, .slice (some ⟨bb, 0, none⟩) 2 2, .bool em] 39 (0, 0)) := hw3 ▸ heap_alloc_new w2 _
  have h11 := (row_cells hrow).1 11
  have h13 := (row_cells hrow).1 13
  have h14 := (row_cells hrow).1 14
  have hl3 : w2.heap.size < w3.heap.size := (Array.getElem?_eq_some_iff.1 hrow).1
  have hlast := (hR.step hb3).last
  have hb1 : w3.cell? ⟨bb, 1, none⟩ = some (.bool true) := by
    rw [hlast.cellAt 1 (by decide), hmv]
    rfl
  have hbl := (hlast.lt bb rfl).2
  have HB := Lib.hid (show Below w.heap.size w w3 from hb2.trans (hb3.mono hb2.size))
  simp at h11 h13 h14
  clear hb2 hb3 hR hv hmv hrow hlast
  go_upto_region 2 with fail
  clear hw3
  have he := HE.out
  subst he
  go_wp2_with fail
  go_ret
  exact ⟨rfl, HB.out⟩

set_option maxHeartbeats 2000000 in
set_option maxRecDepth 100000 in
theorem times6_any (N : Nat) : ∀ (t : V) (w : World) (R : Nat → Prop), szT (erase t) ≤ N → N ≤ 1000000 → Laid w R t →
    Calls Tryd.prog 20 #[nodeAgg t] w fun e w' => e = .returned (.bool (!no4 (erase t))) ∧ Below w.heap.size w w' := by
  induction N with
  | zero => intro t w R h; rw [sz_eq] at h; omega
  | succ N ih =>
    intro t w R hN hM ha
    obtain ⟨sa, sc, hv, hrow⟩ := laid_row' ha
    have hsz := sz_eq t
    have hn4 : no4 (erase t) = (!decide (t.kind = 4) && no4s (erases t.ps)) := by cases t; rw [erase, no4]; rfl
    simp only [nodeAgg]
    rw [hv, hn4]
    have hpsz : szsT (erases t.ps) ≤ N := by omega
    generalize t.kind = k, t.set = C, t.lo = lo, t.hi = hi
    generalize hps : t.ps = ps at *
    have HR := Lib.hid (And.intro hrow (And.intro ih (And.intro hpsz hM)))
    have hlen : ps.length ≤ 1000000 := by have := len_sz ps; omega
    clear hrow ih hsz hv ha hps hpsz hM hN hn4
    go_enter Tryd.func20, Tryd.ntmps20
    go_wp2_with fail
    go_loopw [3] (fun x wr => ∃ i : Nat, x = .int .i64 i ∧ i ≤ ps.length ∧ no4s (erases (ps.take i)) = true ∧ wr.cell? ⟨w.heap.size, 0, none⟩ = some (.int .i64 k) ∧ wr.cell? ⟨w.heap.size, 5, none⟩ = some (.slice sa ps.length sc) ∧ Below w.heap.size w wr ∧ w.heap.size < wr.heap.size) (fun x _ => match x with | .int _ z => ps.length - z.toNat | _ => 0)
    case atStart => exact ⟨0, rfl, by omega, by simp [erases, no4s], by go_simp, by go_simp, (Below.refl _ _).alloc (Nat.le_refl _) _, by simp⟩
    case round =>
      obtain ⟨i, rfl, hi, hno, c0, c1, hb, hsz⟩ := hrel
      have g7 : (i : Int) ≤ 1000000 := by omega
      by_cases hlt : i < ps.length
      · have g1 : (i : Int) < (ps.length : Int) := by omega
        obtain ⟨p, hp⟩ : ∃ p, ps[i]? = some p := ⟨_, List.getElem?_eq_getElem hlt⟩
        obtain ⟨r1, r2, r3, r4⟩ := HR.out
        obtain ⟨b1, o1, rfl, hlt1, cc1, L1⟩ := r1 i p hp
        obtain ⟨x0, x1, x2, x3, x4, x5, x6, x7⟩ := node_cells cc1 hlt1 hb
        have hpz : szT (erase p) ≤ N := by
          have h1 := szs_take hp
          have h2 := szs_take_le ps (i + 1)
          omega
        have HC := Lib.hid (r2 p wr R hpz (by omega) (L1.keep (fun _ _ h => h) hb.size fun k hk _ => hb.block k hk))
        have hstep : no4s (erases (ps.take (i + 1))) = no4 (erase p) := by
          rw [List.take_add_one, hp, erases_append]
          show no4s (erases (ps.take i) ++ erases [p]) = _
          have hap : ∀ (a : List T) (b : T), no4s a = true → no4s (a ++ [b]) = no4 b := by
            intro a b ha
            induction a with
            | nil => simp [no4s]
            | cons x a ih => rw [no4s, Bool.and_eq_true] at ha; rw [List.cons_append, no4s, ha.1, ih ha.2]; rfl
          exact hap _ _ hno
        have HS := Lib.hid (And.intro hp (And.intro hno hstep))
        clear r1 r2 r3 r4 cc1 L1 hp hlt1 hpz hno hstep
        go_wp2_with fail
        go_at_call 20
        refine HC.out.mono ?_
        rintro e w3 ⟨rfl, hb3⟩
        have f0 : w3.cell? ⟨w.heap.size, 0, none⟩ = some (.int .i64 k) := (hb3.cell (p := ⟨w.heap.size, 0, none⟩) hsz).trans c0
        have f1 : w3.cell? ⟨w.heap.size, 5, none⟩ = some (.slice (some ⟨b1, o1, none⟩) ps.length sc) := (hb3.cell (p := ⟨w.heap.size, 5, none⟩) hsz).trans c1
        have fz : w.heap.size < w3.heap.size := by have := hb3.size; omega
        have hb4 : Below w.heap.size w w3 := hb.trans (hb3.mono hb.size)
        clear hb3 hb
        cases hnp : no4 (erase p) with
        | true =>
          go_wp2_with fail
          exact ⟨⟨i + 1, by simp, by omega, by rw [HS.out.2.2, hnp], f0, f1, hb4, fz⟩, by simp; omega⟩
        | false =>
          have hall : no4s (erases ps) = false := by
            cases hh : no4s (erases ps) with
            | false => rfl
            | true =>
              have hm : erase p ∈ erases ps := by rw [erases_map]; exact List.mem_map.2 ⟨p, List.mem_of_getElem? HS.out.1, rfl⟩
              have := no4s_mem.1 hh _ hm
              rw [hnp] at this; cases this
          have HQ := Lib.hid hall
          clear hall
          go_wp2_with fail
          go_ret
          exact ⟨by rw [HQ.out, Bool.and_false]; rfl, hb4⟩
      · have g1 : ¬ (i : Int) < (ps.length : Int) := by omega
        have hall : ps.take i = ps := szs_all (by omega)
        rw [hall] at hno
        have HD := Lib.hid (And.intro hno (show decide (k = 4) = (k == 4) by by_cases h : k = 4 <;> simp [h]))
        clear hall hno
        go_wp2_with fail
        go_ret
        exact ⟨by rw [HD.out.1, HD.out.2]; cases (k == 4) <;> rfl, hb⟩

theorem tab_below {W W' : World} (ht : TabE W) (hl : tabE < W.heap.size) (hb : Below W.heap.size W W') : TabE W' := fun j hj => (World.cell?_of_block (w := W) (hb.block _ hl)).trans (ht j hj)
theorem own_max {w : World} {base : Nat} {e : TypeId} {size n : Nat} {v : Value} {xs : List Value} (h : w.ownsRow base e size v n xs) : n ≤ 9223372036854775807 := by
  rcases h.2 with ⟨_, rfl⟩ | ⟨g, cap, cur, _, _, _, h1, h2, _⟩
  · omega
  · exact Nat.le_trans h1 h2
theorem mv_max {w : World} {B n : Nat} {lv : Value} {vs : List Value} {L : Nat → List Mv} (h : RowsM w B n lv vs L) {i : Nat} (hi : i < n) : (L i).length ≤ 9223372036854775807 := by
  obtain ⟨v, _, hr⟩ := h.row i hi
  exact own_max hr
/-- Ahead of a round of a loop that only reads. -/
def LpO (w : World) (n c : Nat) (x : Value) (wr : World) : Prop := ∃ i : Nat, x = .int .i64 i ∧ c = n - i ∧ i ≤ n ∧ Below w.heap.size w wr

end Go.Proofs.YtnebfniekeknaaaDoor

/- The library's table lies in memory: off the condition of the statements' own row.
   Condition: what the row lists as laid lies in memory. -/
namespace Go.Proofs.YtnebfniekeknaaaDoor
open Go.RowKit Go.Shelf

theorem tab_is {W : World} (h : Lib.TabIs Tryd.prog W "math/bits.deBruijn64tab" .u8 (Lib.deBruijn64tab.map Int.ofNat)) : TabE W ∧ tabE < W.heap.size := by
  unfold Lib.TabIs World.var? at h
  rw [show Tryd.prog.globalNamed "math/bits.deBruijn64tab" = some tabE by kernel_rfl, Option.bind_some] at h
  cases hc : W.heap[tabE]? with
  | none => rw [hc] at h; cases h
  | some ob =>
    rw [hc] at h
    have hlt : tabE < W.heap.size := (Array.getElem?_eq_some_iff.1 hc).1
    refine ⟨fun j hj => ?_, hlt⟩
    cases ob with
    | cells cs e fz =>
      have hcs : cs = ((Lib.deBruijn64tab.map Int.ofNat).map fun z => Value.int .u8 z).toArray := Option.some.inj h
      have h1 : W.cell? ⟨tabE, j, none⟩ = cs[j]? := by simp [World.cell?, hc]
      refine h1.trans ?_
      rw [hcs, List.getElem?_toArray, List.getElem?_map, List.getElem?_map, List.getElem?_eq_getElem hj, List.getD_eq_getElem?_getD, List.getElem?_eq_getElem hj]
      rfl
    | _ => cases h
theorem tab_laid {W : World} (h : laidMetH Tryd.prog Rows.movesPlainRow.laid W) : TabE W ∧ tabE < W.heap.size := by
  rw [Go.MakeChecks.laidMetH_plain _ _ _ (by kernel_rfl)] at h
  exact tab_is (Lib.tabIs_of_head (g := 0) (t := 145) (e := 5) (n := 64) (by kernel_rfl) (by kernel_rfl) Tryd.underlying145 Tryd.underlying5 (by kernel_rfl) (by kernel_rfl) (show laidMet Tryd.prog [("math/bits.deBruijn64tab", Lib.tabData .u8 (Lib.deBruijn64tab.map Int.ofNat))] W from h))

end Go.Proofs.YtnebfniekeknaaaDoor
