/- How many places a tree has: a contract.
   Conditions: the tree lies in memory, is at most 1000000 deep, and has at most 1000000 places. -/
import Derived.Test.YtpibkalbnjgpaaaDoorDeep
namespace Go.Proofs.YtpibkalbnjgpaaaDoor
open Go.RowKit Go.Shelf
attribute [local go_sem] Oper.semAt_some encsV nodeAgg

theorem mem_presV : ∀ {ts : List V} {d : Nat} {x : Nat × V}, x ∈ presV d ts → ∃ t, t ∈ ts ∧ x ∈ preV d t
  | [], d, x, h => by rw [presV] at h; cases h
  | t :: ts, d, x, h => by
    rw [presV, List.mem_append] at h
    rcases h with h | h
    · exact ⟨t, by simp, h⟩
    · obtain ⟨u, hu, hx⟩ := mem_presV h
      exact ⟨u, by simp [hu], hx⟩
theorem pre_laid {w : World} {R : Nat → Prop} {t : V} (h : Laid w R t) : ∀ (d : Nat) (x : Nat × V), x ∈ preV d t → Laid w R x.2 := by
  induction h with
  | none k C lo hi a cap =>
    intro d x hx
    rw [preV, presV, List.mem_singleton] at hx
    subst hx
    exact .none k C lo hi a cap
  | some k C lo hi ps b off cap hR hlt hcap hc hk ih =>
    intro d x hx
    rw [preV, List.mem_cons] at hx
    rcases hx with rfl | hx
    · exact .some k C lo hi ps b off cap hR hlt hcap hc hk
    · obtain ⟨u, hu, hx⟩ := mem_presV hx
      exact ih u hu (d + 1) x hx
theorem ones_snoc (l : List (Nat × V)) (x : Nat × V) : ones (l ++ [x]) = ones l + if x.2.kind = 1 then 1 else 0 := by
  unfold ones
  rw [List.countP_append]
  by_cases h : x.2.kind = 1
  · simp [h]
  · simp [h]
theorem ones_le (t : V) {pre post : List (Nat × V)} (h : preV 1 t = pre ++ post) : ones pre ≤ plcV t := by
  have := ones_pre t 1
  rw [h] at this
  unfold ones at this ⊢
  rw [List.countP_append] at this
  omega
def PI (w : World) (pre : List (Nat × V)) (W : World) : Prop := W.heap[w.heap.size + 1]? = some (.cells #[.int .i64 (ones pre)] 3 (0, 0)) ∧ Below w.heap.size w W ∧ w.heap.size + 1 < W.heap.size
theorem pi_step {w w2 : World} {pre : List (Nat × V)} {x : Nat × V} {Ix : List (Nat × V) → World → Prop} (h : PI w pre w2) (m : Nat) (hm : m = ones (pre ++ [x])) :
    Left (KpV (w.heap.size + 1)) (PI w) Ix pre x w2 .normal (w2.setCell ⟨w.heap.size + 1, 0, none⟩ (.int .i64 m)) := by
  obtain ⟨h1, h2, h3⟩ := h
  refine ⟨KeepsOthers.setCell _ _ _, kpV_set _ _ _, ?_, h2.setCell (p := ⟨w.heap.size + 1, 0, none⟩) (by simp) _, by simp; omega⟩
  rw [← hm]
  exact heap_one h1
theorem pi_stay {w w2 : World} {pre : List (Nat × V)} {x : Nat × V} {Ix : List (Nat × V) → World → Prop} (h : PI w pre w2) (hm : ones pre = ones (pre ++ [x])) :
    Left (KpV (w.heap.size + 1)) (PI w) Ix pre x w2 .normal w2 := by
  obtain ⟨h1, h2, h3⟩ := h
  refine ⟨KeepsOthers.refl _, kpV_refl _ _, ?_, h2, h3⟩
  rw [← hm]
  exact h1

set_option maxRecDepth 100000 in
set_option maxHeartbeats 4000000 in
theorem places_in (t : V) (w : World) (sa : Option Addr) (sn sc : Nat) (hsl : t.v = .slice sa sn sc) (R : Nat → Prop) (hl : Laid w R t) (hD : dptV t ≤ 1000000) (hP : plcV t ≤ 1000000) :
    CallsIn Fence.wide 5 Tryd.prog 27 #[.agg #[.int .i64 t.kind, .int .u64 (t.set 0 : Nat), .int .u64 (t.set 1 : Nat), .int .u64 (t.set 2 : Nat), .int .u64 (t.set 3 : Nat), .slice sa sn sc, .int .i64 t.lo, .int .i64 t.hi]] w fun e w' => e = .returned (.int .i64 (plcV t)) ∧ Below w.heap.size w w' := by
  refine callsIn_of_wp_marks Tryd.func27 rfl trivial ?_ rfl
  simp only [Tryd.ntmps27, List.size_toArray, List.length_cons, List.length_nil, Nat.reduceAdd, Nat.reduceSub, Array.replicate_succ, Array.replicate_zero, List.push_toArray, List.append_toArray, List.nil_append, List.cons_append]
  gi_wp2_with (refine ⟨trivial, ?_⟩; gi_at_call 29; refine (nodes_in _ _ _ _ _ _ _ _ _ _ _ _).mono ?_; rintro e w' ⟨rfl, rfl⟩)
  have hbg := begun w t sa sn sc hsl
  generalize (((w.alloc (.cells #[.int .i64 t.kind, .int .u64 (t.set 0 : Nat), .int .u64 (t.set 1 : Nat), .int .u64 (t.set 2 : Nat), .int .u64 (t.set 3 : Nat), .slice sa sn sc, .int .i64 t.lo, .int .i64 t.hi] 27)).alloc (.cells #[.int .i64 0] 3)).alloc (.cells #[.int .i64 t.kind, .int .u64 (t.set 0 : Nat), .int .u64 (t.set 1 : Nat), .int .u64 (t.set 2 : Nat), .int .u64 (t.set 3 : Nat), .slice sa sn sc, .int .i64 t.lo, .int .i64 t.hi] 27)) = w0 at *
  obtain ⟨hz, hch, hce, hbx⟩ := hbg
  have HZ := Lib.hid hz
  have hl0 : Laid w0 (fun b => b ≠ w.heap.size + 1) t := hl.keep (fun b hb _ => by omega) hch.size fun b hb _ => hch.block b hb (fun h => h)
  have HL := Lib.hid hl0
  have HB := Lib.hid (hch.below (Nat.le_refl _) (fun _ _ h => h))
  clear hz hl hch hl0
  refine range_law (n := 5) (gf := 41) (lb := #[.pointer (some ⟨w.heap.size + 1 + 1, 0, none⟩)]) rfl (enters_of Tryd.func41 (by kernel_rfl) rfl)
    (nodes_iter 4 (w.heap.size + 1 + 1) (w.heap.size + 1) 1000000 t w0 hbx (by have := HZ.out; omega) (by have := HZ.out; omega) HL.out hD (Nat.le_refl _)) kpV_t (fun W l o o' _ h ho => kpV_put W l o o' h ho) (fun _ => rfl)
    (PI w) (fun _ _ => False) ?hI (fun _ _ _ h _ => h) ⟨hce, HB.out, by have := HZ.out; omega⟩ ?round ?done ?stop
  case hI =>
    rintro s A B ⟨h1, h2, h3⟩ hc
    have hz := HZ.out
    exact ⟨(hc.block _ (Array.getElem?_eq_some_iff.1 h1).1 (by omega)).trans h1, h2.trans (hc.below h2.size (fun k hk => by omega)), Nat.lt_of_lt_of_le h3 hc.size⟩
  case round =>
    rintro l pre x W hI ⟨post, hnext⟩ hl1 hl2
    obtain ⟨ua, un, uc, hus⟩ := (pre_laid HL.out 1 x (by rw [hnext]; simp)).slice
    have hle := ones_le t (pre := pre ++ [x]) (post := post) (by rw [hnext, List.append_assoc]; rfl)
    have hsn := ones_snoc pre x
    have HIW := Lib.hid hI
    have hz := HZ.out
    have hzw := hI.2.2
    have HLE := Lib.hid (And.intro hle hsn)
    have HN := Lib.hid hnext
    clear hI hle hsn hnext hz
    simp only [encsV, nodeAgg, hus]
    gi_wp2
    refine ⟨KeepsOthers.alloc W _, kpV_alloc W _, ?_, ?_⟩
    · obtain ⟨h1, h2, h3⟩ := HIW.out
      exact ⟨(Below.heap_alloc _ _ _ h3).trans h1, h2.alloc h2.size _, by simp; omega⟩
    intro w2 hc2 hI2
    have hk := hc2.cell 0 (b := W.heap.size) (by simp) (by omega)
    have hk0 : w2.cell? ⟨W.heap.size, 0, none⟩ = some (.int .i64 x.2.kind) := by rw [hk]; simp
    obtain ⟨h1, h2, h3⟩ := hI2
    obtain ⟨q1, q2⟩ := row_cells h1
    have q3 : w2.cell? ⟨w.heap.size + 1, 0, none⟩ = some (.int .i64 (ones pre)) := q1 0
    have HI := Lib.hid (show PI w pre w2 from ⟨h1, h2, h3⟩)
    clear h1 h2 q1 hc2 hk
    by_cases h1 : x.2.kind = 1
    · have g1 : (x.2.kind == 1) = true := by simp [h1]
      have HE : Hid (ones (pre ++ [x]) = ones pre + 1) := Lib.hid (by rw [HLE.out.2, if_pos h1])
      have g2 : (ones pre : Int) ≤ 1000000 := by have := HLE.out.1; have := HE.out; omega
      have g3 : (0 : Int) ≤ (ones pre : Int) := by omega
      clear h1
      gi_wp2
      have := pi_step (x := x) (Ix := fun _ _ => False) HI.out (ones pre + 1) HE.out.symm
      rw [show ((ones pre + 1 : Nat) : Int) = (ones pre : Int) + 1 by omega] at this
      exact this
    · have g1 : (x.2.kind == 1) = false := by simp [h1]
      have HE : Hid (ones pre = ones (pre ++ [x])) := Lib.hid (by rw [HLE.out.2, if_neg h1]; rfl)
      gi_wp2
      exact pi_stay HI.out HE.out
  case done =>
    rintro D W ⟨h1, h2, h3⟩ hD2 hK
    obtain ⟨q1, q2⟩ := row_cells h1
    have q3 : W.cell? ⟨w.heap.size + 1, 0, none⟩ = some (.int .i64 (ones (preV 1 t))) := q1 0
    have hz := HZ.out
    have HK := Lib.hid hK
    have HDD := Lib.hid (show w.heap.size ≤ D by omega)
    clear hK q1 hz
    gi_wp2
    refine ⟨by simp, .inl ⟨_, _, rfl, run_takeDeferred HK.out, ?_⟩⟩
    exact ⟨_, results_tmp rfl _ _ _, by rw [ones_pre t 1]; simp, h2.trans (belowK_b (w := w) (Nat.le_refl _) W D _ _ HDD.out HK.out rfl rfl)⟩
  case stop =>
    rintro D pre x post W _ h _ _
    exact h.elim

end Go.Proofs.YtpibkalbnjgpaaaDoor
