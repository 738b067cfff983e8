/- What the parts of a list of classes come to: the classes of the numbering by first occurrence, in a row of their own: a contract for the proofs of the statements.
   Conditions: fewer than 64 classes, each four words below 2^64, in a row of memory, as the theorem states. -/
import Derived.Test.YtbppofhjlgfbiaaChunk
namespace Go.Proofs.Ytbppofhjlgfbiaa
open Go.RowKit Go.Shelf
attribute [local go_sem] Oper.semAt_some

section
variable {F : Fence} {nF : Nat} {P : Program} {ops : Array Oper} {rest : List Oper} {o : Oper} {a : Act} {w : World} {Q : Exit → Act → World → Prop}
theorem wpListIn_load_row (hg : o.guard = none) (ty : TypeId) (x : Operand) (hop : o.op = .load ty x) (b off : Nat) (hx : a.eval x = .pointer (some ⟨b, off, none⟩)) (cs : List Value) (d : TypeDesc) (hc : w.rangeAt b off cs)
    (hu : P.underlying ty = some d) (hd : d.isRow = true) (hi : (P.info? ty).map (·.size) = some cs.length)
    (h : wpListIn F nF P ops Q rest (a.put o.dst (.agg cs.toArray)) w) : wpListIn F nF P ops Q (o :: rest) a w := by
  refine wpListIn_plain hg fun K' hK' => ?_
  unfold Oper.wpIn
  refine ⟨by simp [Oper.about, hop], ?_⟩
  rw [Oper.semAt_plain F _ _ (by rw [hop]; intro c hc'; cases hc')]
  unfold execOp
  simp only [hop, hx, Instr.loadAt, Instr.sureAddr, Sem.run_bind, Sem.run_pure, Result.andThen_ok, run_loadVar_mid w b off ty cs d hc hu hd hi]
  exact hK' _ _ h
theorem wpListIn_store_row (hg : o.guard = none) (ty : TypeId) (x y : Operand) (hop : o.op = .store ty x y) (b off : Nat) (cells : Array Value) (hx : a.eval x = .pointer (some ⟨b, off, none⟩)) (hy : a.eval y = .agg cells)
    (ht : w.there b off cells.size) (hi : (P.info? ty).map (·.size) = some cells.size) (h1 : cells.all (·.oneCell') = true)
    (h : wpListIn F nF P ops Q rest (a.put o.dst undef) (w.setCells b off cells.toList)) : wpListIn F nF P ops Q (o :: rest) a w := by
  refine wpListIn_plain hg fun K' hK' => ?_
  unfold Oper.wpIn
  refine ⟨by simp [Oper.about, hop], ?_⟩
  rw [Oper.semAt_plain F _ _ (by rw [hop]; intro c hc'; cases hc')]
  unfold execOp
  simp only [hop, hx, hy, Instr.storeAt, Instr.sureAddr, Sem.run_bind, Sem.run_pure, Result.andThen_ok, run_storeVar_mid w b off ty cells ht hi h1]
  exact hK' _ _ h
end

set_option maxRecDepth 100000 in
set_option maxHeartbeats 2000000 in
theorem chunk0_in (F : Fence) (n' : Nat) (h29 : F.fn 29) (hro : F.round = none) (l Bs Bn cap : Nat) (A : Option Addr) (J : List Unit → World → Prop) (W : World) (hBs : W.cell? ⟨Bs, 0, none⟩ = some (.slice A 0 cap)) (h0 : J [] W) :
    CallsIn F n' Try.prog 29 #[.func (.yield l) #[] #[], .pointer (some ⟨Bs, 0, none⟩), .pointer (some ⟨Bn, 0, none⟩)] W fun e W' => (∃ v, e = .returned v) ∧ J [] W' := by
  refine callsIn_of_wp Try.func29 rfl h29 ?_ hro
  simp only [Try.ntmps29, List.size_toArray, List.length_cons, List.length_nil, Nat.reduceAdd, Nat.reduceSub, Array.replicate_succ, Array.replicate_zero, List.push_toArray, List.append_toArray, List.nil_append, List.cons_append]
  gi_wp2
  gi_loopw [4, 5] (fun i _ wr => i = .int .i64 0 ∧ wr = W) (fun _ _ _ => 0)
  case atStart => exact ⟨rfl, rfl⟩
  case round =>
    obtain ⟨rfl, rfl⟩ := hrel
    gi_wp2
    go_end0
    exact ⟨⟨_, rfl⟩, h0⟩

def Hand (n : Nat) (ys : List Unit) : Prop := ys.length = if n = 0 then 0 else 1
theorem grown_drew (A : World) : A.grownBy A.drew none := ⟨rfl, rfl, rfl, Nat.le_refl _, fun _ _ _ => rfl⟩
theorem chunk_stops (F : Fence) (n' : Nat) (h29 : F.fn 29) (hro : F.round = none) (hn' : 1 ≤ n') (Bs Bn n cap : Nat) (A : Option Addr) (hA : 0 < n → ∃ b off, A = some ⟨b, off, none⟩) (hn : n < 64) (hcap : n ≤ cap) (w : World) (hBs : Bs < w.heap.size) (hBn : Bn < w.heap.size)
    (hc : w.cell? ⟨Bs, 0, none⟩ = some (.slice A n cap)) (hd : w.cell? ⟨Bn, 0, none⟩ = some (.int .i64 64)) :
    SeqStopsK F n' Try.prog 29 #[.pointer (some ⟨Bs, 0, none⟩), .pointer (some ⟨Bn, 0, none⟩)] (fun _ : Unit => #[.slice A n n]) (KeepTwo Bs Bn) (Hand n) (fun _ => True) 1 w := fun l J Jx W hW hJ _ hY h0 => by
  have hc' := (hW.cell (p := ⟨Bs, 0, none⟩) hBs).trans hc
  have hd' := (hW.cell (p := ⟨Bn, 0, none⟩) hBn).trans hd
  by_cases h : n = 0
  · subst h
    exact (chunk0_in F n' h29 hro l Bs Bn cap A J W hc' h0).mono fun e W' ⟨he, hj⟩ => ⟨he, .inl ⟨[], by simp [Hand], hj⟩⟩
  · obtain ⟨b, off, rfl⟩ := hA (by omega)
    refine (chunk1_in F n' h29 hro hn' l Bs Bn b off n cap (by omega) hn hcap J Jx hY W (fun s X hX => hJ s X _ none hX (grown_drew X) (fun r e => by cases e)) hc' hd' h0).mono ?_
    rintro e W' ⟨he, ⟨ys, rfl, hj⟩ | ⟨pre, _, hj⟩⟩
    · exact ⟨he, .inl ⟨_, by unfold Hand; rw [if_neg h]; rfl, hj⟩⟩
    · exact ⟨he, .inr ⟨_, trivial, hj⟩⟩

def numsOf (L : Nat → Nat → Nat) (n : Nat) (pre : List Unit) : Nat → Nat := if pre = [] then zeros else nm (rel zeros L n)
theorem setCells_other (b : Nat) {k : Nat} : ∀ (cs : List Value) (o : Nat) (w : World), k ≠ b → (w.setCells b o cs).heap[k]? = w.heap[k]?
  | [], _, _, _ => rfl
  | v :: r, o, w, h => (setCells_other b r (o + 1) (w.setCell ⟨b, o, none⟩ v) h).trans (Below.heap_setCell _ _ _ _ h)
theorem nums_all {L : Nat → Nat → Nat} {n : Nat} {ys : List Unit} (h : Hand n ys) (i : Nat) : numsOf L n ys i = nm (rel zeros L n) i := by
  unfold Hand at h
  unfold numsOf
  by_cases e : n = 0
  · subst e
    simp at h
    subst h
    rw [if_pos rfl]
    have hr : rel zeros L 0 0 i = true := by simp [rel, zeros, mem]
    have := fst_le (alike_rel zeros L 0) hr
    unfold nm
    rw [show fst (rel zeros L 0) i = 0 by omega]
    rfl
  · rw [if_neg e] at h
    rw [if_neg (fun h0 => by rw [h0] at h; simp at h)]
theorem frozen_setCells (b : Nat) {p : Addr} : ∀ (cs : List Value) (o : Nat) (w : World), (w.setCells b o cs).frozen? p = w.frozen? p
  | [], _, _ => rfl
  | v :: r, o, w => (frozen_setCells b r (o + 1) (w.setCell ⟨b, o, none⟩ v)).trans (World.frozen?_setCell _ _ _ _)
theorem cell_first (X : World) (v : Value) (t : TypeId) : (X.alloc (.cells #[v] t)).cell? ⟨X.heap.size, 0, none⟩ = some v := by simp
theorem keeps_split {B b : Nat} {W W2 : World} (hb : Below W.heap.size W W2) (hB : b < B) (cs : List Value) : KeepsFrom B W (W2.setCells b 0 cs) :=
  ⟨by have := (own_setCells (B := 0) b (Nat.zero_le _) cs 0 (Below.refl 0 W2)).size; exact Nat.le_trans hb.size this, fun k o hk ho _ => by
    have hlt : k < W.heap.size := (Array.getElem?_eq_some_iff.1 ho).1
    have hlt2 : k < W2.heap.size := Nat.lt_of_lt_of_le hlt hb.size
    rw [setCells_other (k := k) b cs 0 W2 (by omega), hb.block k hlt]
    exact ho⟩

def PS (L : Nat → Nat → Nat) (n : Nat) (w : World) (pre : List Unit) (W : World) : Prop := (IntsAt W w.heap.size (numsOf L n pre) ∧ BFree256 W w.heap.size) ∧ (w.heap.size + 3 ≤ W.heap.size ∧ Below w.heap.size w W)

set_option maxRecDepth 100000 in
set_option maxHeartbeats 2000000 in
theorem parts_in (A : Option Addr) (n cap : Nat) (L : Nat → Nat → Nat) (w : World) (hrow : ClassRow w A n L) (hL : ∀ t, Cl (L t)) (hn : n < 64) (hcap : n ≤ cap) :
    CallsIn Fence.wide 5 Try.prog 11 #[.slice A n cap] w (GivesParts (rel zeros L n) w) := by
  have hzero := (zero_of_info info46).1
  have hA : 0 < n → ∃ b off, A = some ⟨b, off, none⟩ := fun h => by obtain ⟨b, off, e, _⟩ := hrow h; exact ⟨b, off, e⟩
  refine callsIn_of_wp_marks Try.func11 rfl trivial ?_ rfl
  simp only [Try.ntmps11, List.size_toArray, List.length_cons, List.length_nil, Nat.reduceAdd, Nat.reduceSub, Array.replicate_succ, Array.replicate_zero, List.push_toArray, List.append_toArray, List.nil_append, List.cons_append]
  gi_wp2_with (refine ⟨trivial, ?_⟩; gi_at_call 23; refine (chunk_in Fence.wide _ trivial rfl _ _ _ _).mono ?_; rintro e w' ⟨rfl, rfl⟩)
  have hi0 := ints_new w 46
  have hf0 := ifree_new w (Array.replicate 256 (.int .i64 0)) 46
  obtain ⟨W0, hW0⟩ : ∃ W0, ((w.alloc (.cells (Array.replicate 256 (.int .i64 0)) 46)).alloc (.cells #[.slice A n cap] 22)).alloc (.cells #[.int .i64 64] 3) = W0 := ⟨_, rfl⟩
  have hz : W0.heap.size = w.heap.size + 3 := by rw [← hW0]; simp
  have hB0 : Below w.heap.size w W0 := by rw [← hW0]; exact (((Below.refl _ w).alloc (Nat.le_refl _) _).alloc (by simp) _).alloc (by simp; omega) _
  have hb1 : Below (w.alloc (.cells (Array.replicate 256 (.int .i64 0)) 46)).heap.size (w.alloc (.cells (Array.replicate 256 (.int .i64 0)) 46)) W0 := by rw [← hW0]; exact (below_alloc _ _).trans ((below_alloc _ _).mono (by simp))
  have hc1 : W0.cell? ⟨w.heap.size + 1, 0, none⟩ = some (.slice A n cap) := by
    rw [← hW0]
    have h := (below_alloc ((w.alloc (.cells (Array.replicate 256 (.int .i64 0)) 46)).alloc (.cells #[.slice A n cap] 22)) (.cells #[.int .i64 64] 3)).cell (p := ⟨w.heap.size + 1, 0, none⟩) (by simp)
    rw [h]
    simp
  have hc2 : W0.cell? ⟨w.heap.size + 2, 0, none⟩ = some (.int .i64 64) := by
    have k := cell_first ((w.alloc (.cells (Array.replicate 256 (.int .i64 0)) 46)).alloc (.cells #[.slice A n cap] 22)) (.int .i64 64) 3
    simp only [World.size_alloc] at k
    rw [← hW0]
    exact k
  have hI0 : PS L n w [] W0 := ⟨⟨hi0.below hb1, hf0.below (by simp) hb1⟩, by omega, hB0⟩
  have e2 : w.heap.size + 1 + 1 = w.heap.size + 2 := by omega
  rw [hW0]
  clear hW0 hi0 hf0 hzero hb1
  refine wpIn_rangeFunc_ownG rfl (by decide) (gf := 29) (lb := #[.pointer (some ⟨w.heap.size + 1, 0, none⟩), .pointer (some ⟨w.heap.size + 2, 0, none⟩)]) rfl trivial (enters_of Try.func29 (by kernel_rfl) rfl)
    (chunk_stops Fence.wide _ trivial rfl (by decide) (w.heap.size + 1) (w.heap.size + 2) n cap A hA hn hcap W0 (by omega) (by omega) hc1 hc2) keepTwo_t (keepTwo_b (by omega) (by omega)) (Below.refl _ _) (fun _ => rfl)
    (PS L n w) (fun _ _ _ => False)
    (OwnFrom.and (Own.from (fun s X Y row hs hg hr => ⟨fun i hi => cell_kept (hs.1 i hi) hg hr, fun i hi => (frozen_kept (hs.1 i hi) hg hr).trans (hs.2 i hi)⟩) _) (OwnFrom.and (fun _ _ _ _ hs hg _ => Nat.le_trans hs hg.size) (ownFrom_below (Nat.le_refl _) (by omega))))
    (fun _ _ _ _ _ hs _ _ => hs)
    hI0
    (fun _ => { tmps := #[.slice A n cap, undef, .slice none 0 0, .pointer (some ⟨w.heap.size, 0, none⟩), .slice A n n, .slice A n cap, .func (.func 29) #[] #[.pointer (some ⟨w.heap.size + 1, 0, none⟩), .pointer (some ⟨w.heap.size + 2, 0, none⟩)], .slice A n n, undef, undef, undef, undef, undef], defers := [] }) ?assign ?body ?done ?stop
  case assign =>
    intro l x W K hK
    gi_wp2
    exact hK
  case body =>
    rintro l pre x W ⟨⟨hi, hf⟩, hW3, hB⟩ hlen
    obtain rfl : pre = [] := by cases pre with
      | nil => rfl
      | cons a r => simp at hlen
    have hr := (show IntsAt W w.heap.size zeros from hi).range
    have hsz : (Try.prog.info? 46).map (·.size) = some (intList zeros).length := by rw [intList_length]; exact (zero_of_info info46).2
    have hsz2 : (Try.prog.info? 46).map (·.size) = some (intList (nm (rel zeros L n))).length := by rw [intList_length]; exact (zero_of_info info46).2
    have hsp := split_any A n n L zeros W (hrow.below hB) hL (by omega) (fun _ => by unfold zeros; decide)
    have ho : ∀ v ∈ intList (nm (rel zeros L n)), v.oneCell' = true := fun v hv => by
      obtain ⟨i, _, rfl⟩ := List.mem_map.1 hv
      rfl
    have hlen2 := intList_length (nm (rel zeros L n))
    have hend : ∀ w2, Below W.heap.size W w2 → PS L n w [x] (w2.setCells w.heap.size 0 (intList (nm (rel zeros L n)))) := fun w2 hb2 => by
      have ht2 : w2.there w.heap.size 0 (intList (nm (rel zeros L n))).length := fun j hj => by
        rw [intList_length] at hj
        rw [Nat.zero_add]
        exact ⟨by rw [hi.below hb2 j hj]; rfl, hf.below hi.lt hb2 j hj⟩
      have hra := World.rangeAt_setCells_same w2 w.heap.size 0 _ ht2
      refine ⟨⟨fun i hi2 => ?_, fun i hi2 => ?_⟩, ?_, own_setCells _ (Nat.le_refl _) _ 0 (hB.trans (hb2.mono hB.size))⟩
      · have := hra i _ (intList_at _ i hi2)
        rw [Nat.zero_add] at this
        exact this
      · rw [frozen_setCells]
        exact hf.below hi.lt hb2 i hi2
      · exact Nat.le_trans hW3 (Nat.le_trans hb2.size (own_setCells (B := 0) _ (Nat.zero_le _) _ 0 (Below.refl 0 w2)).size)
    have hth : ∀ w2, Below W.heap.size W w2 → w2.there w.heap.size 0 256 := fun w2 hb2 j hj => by
      rw [Nat.zero_add]
      exact ⟨by rw [hi.below hb2 j hj]; rfl, hf.below hi.lt hb2 j hj⟩
    generalize intList zeros = zs at hr hsz hsp
    generalize intList (nm (rel zeros L n)) = ds at hsz2 hsp ho hend hlen2
    gi_wp2_with (first
      | (refine wpListIn_load_row rfl 46 _ rfl w.heap.size 0 rfl zs _ hr Try.underlying46 rfl hsz ?_)
      | (refine ⟨trivial, ?_⟩; gi_at_call 24; refine (CallsIn.inRound l (callsIn_wide.2 hsp)).mono ?_; rintro e w2 ⟨rfl, hb2⟩))
    have hrun := run_storeCells_cells (P := Try.prog) w.heap.size 0 ds 0 w2 (fun j hj => by have := hth w2 hb2 j (by omega); simpa using this.1) (fun j hj => by have := hth w2 hb2 j (by omega); simpa using this.2) ho
    simp only [Nat.add_zero] at hrun
    rw [hrun]
    gi_wp2
    exact ⟨keeps_split hb2 (by omega) ds, ⟨(setCells_other (k := w.heap.size + 1) _ ds 0 w2 (by omega)).trans (hb2.block _ (by omega)), (setCells_other (k := w.heap.size + 2) _ ds 0 w2 (by omega)).trans (hb2.block _ (by omega))⟩, hend w2 hb2⟩
  case done =>
    rintro D ys W hD hys ⟨⟨hi, hf⟩, hW3, hB⟩ hK
    have hi2 : IntsAt W w.heap.size (nm (rel zeros L n)) := hi.congr fun i _ => nums_all hys i
    have hr := hi2.range
    have hsz : (Try.prog.info? 46).map (·.size) = some (intList (nm (rel zeros L n))).length := by rw [intList_length]; exact (zero_of_info info46).2
    have hga := gather_any (rel zeros L n) (alike_rel zeros L n) W
    generalize intList (nm (rel zeros L n)) = ds at hr hsz hga
    gi_wp2_with (first
      | (refine wpListIn_load_row rfl 46 _ rfl w.heap.size 0 rfl ds _ hr Try.underlying46 rfl hsz ?_)
      | (refine ⟨trivial, ?_⟩; gi_at_call 25; refine (callsIn_wide.2 hga).mono ?_; rintro e w2 ⟨g, rfl, hg, hP, hb2⟩))
    have hDl : D < W.heap.size := (Array.getElem?_eq_some_iff.1 hK).1
    have hK2 : w2.heap[D]? = some (.deferred (some [])) := (hb2.block D hDl).trans hK
    refine ⟨by simp, .inl ⟨_, _, rfl, run_takeDeferred hK2, ?_⟩⟩
    refine ⟨_, results_tmp rfl _ _ _, g, rfl, Nat.le_trans (Nat.le_trans (by omega) hW3) hg, fun q hq j hj => ?_, (hB.trans (hb2.mono hB.size)).trans (belowK_b (w := w) (Nat.le_refl _) w2 D _ _ (by omega) hK2 rfl rfl)⟩
    exact cell_kept (hP q hq j hj) (grownBy_putObj' _ D (.deferred none)) (fun r e => by cases e; exact ⟨_, hK2, rfl⟩)
  case stop =>
    rintro D c pre W _ _ h _
    exact h.elim

end Go.Proofs.Ytbppofhjlgfbiaa
