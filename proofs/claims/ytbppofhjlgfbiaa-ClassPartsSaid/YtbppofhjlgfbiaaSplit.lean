/- What the call that splits a numbering of the bytes by a list of classes comes to: a contract for the proofs of the statements.
   Conditions: numbers below 256, at most 64 classes in a row of memory, as the theorem states. -/
import Derived.Test.YtbppofhjlgfbiaaKeys
import Derived.Deep.WholeRow
namespace Go.Proofs.Ytbppofhjlgfbiaa
open Go.RowKit Go.Maps

def intList (p : Nat → Nat) : List Value := (List.range 256).map fun i => Value.int .i64 (p i : Int)
theorem intList_at (p : Nat → Nat) (i : Nat) (h : i < 256) : (intList p)[i]? = some (.int .i64 (p i : Int)) := by
  unfold intList
  rw [List.getElem?_map, List.getElem?_range h]
  rfl
theorem intList_length (p : Nat → Nat) : (intList p).length = 256 := by unfold intList; simp
theorem info46 : (Try.prog.info? 46).map (fun i => (i.zero, i.size)) = some (some (.agg (Array.replicate 256 (.int .i64 0))), 256) := by kernel_rfl
theorem index46 (p : Nat → Nat) (k : Nat) (h : k < 256) (w : World) : (Instr.index 46 (.agg (intList p).toArray) (.int .i64 k)).run Try.prog w = .ok (.int .i64 (p k : Int)) w := by
  have hi := intList_at p k h
  simp [Instr.index, asIntOf, run_underlying Try.underlying46, Result.andThen, part, h, hi]

def IntsAt (w : World) (b : Nat) (f : Nat → Nat) : Prop := ∀ i, i < 256 → w.cell? ⟨b, i, none⟩ = some (.int .i64 (f i : Int))
def BFree256 (w : World) (b : Nat) : Prop := ∀ i, i < 256 → w.frozen? ⟨b, i, none⟩ = false
theorem IntsAt.lt {w : World} {b : Nat} {f : Nat → Nat} (h : IntsAt w b f) : b < w.heap.size := World.block_lt_of_cell? _ _ (h 0 (by decide))
theorem IntsAt.below {w w' : World} {b : Nat} {f : Nat → Nat} (h : IntsAt w b f) (hb : Below w.heap.size w w') : IntsAt w' b f := fun i hi => (hb.cell (p := ⟨b, i, none⟩) h.lt).trans (h i hi)
theorem BFree256.below {w w' : World} {b : Nat} (h : BFree256 w b) (hl : b < w.heap.size) (hb : Below w.heap.size w w') : BFree256 w' b := fun i hi => (hb.frozen (p := ⟨b, i, none⟩) hl).trans (h i hi)
theorem IntsAt.congr {w : World} {b : Nat} {f g : Nat → Nat} (h : IntsAt w b f) (he : ∀ i, i < 256 → f i = g i) : IntsAt w b g := fun i hi => by rw [← he i hi]; exact h i hi
theorem IntsAt.range {w : World} {b : Nat} {f : Nat → Nat} (h : IntsAt w b f) : w.rangeAt b 0 (intList f) := fun j v hv => by
  have hj : j < 256 := by have := (List.getElem?_eq_some_iff.1 hv).1; rwa [intList_length] at this
  rw [intList_at f j hj] at hv
  rw [← hv, Nat.zero_add]
  exact h j hj
theorem IntsAt.put {w : World} {b q x : Nat} {f : Nat → Nat} (h : IntsAt w b f) : IntsAt (w.setCell ⟨b, q, none⟩ (.int .i64 (x : Int))) b (fun i => if i = q then x else f i) := by
  intro i hi
  by_cases e : i = q
  · subst e
    rw [World.cell?_setCell_same (h := h i hi)]
    simp
  · rw [World.cell?_setCell_other (h := addr_ne (.inr fun h => e h.symm)), h i hi]
    simp [e]
theorem IntsAt.put_other {w : World} {b b' q : Nat} {v : Value} {f : Nat → Nat} (h : IntsAt w b f) (hne : b' ≠ b) : IntsAt (w.setCell ⟨b', q, none⟩ v) b f := by
  intro i hi
  rw [World.cell?_setCell_other (h := addr_ne (.inl hne))]
  exact h i hi
theorem BFree256.put {w : World} {b b' q : Nat} {v : Value} (h : BFree256 w b) : BFree256 (w.setCell ⟨b', q, none⟩ v) b := fun i hi => by simp [h i hi]
theorem owns_same {w w' : World} {b n : Nat} {D : DataW Unit} (h : w.ownsMap Try.prog 58 (plainElem Try.prog 3) b n D) (e : w'.heap[b]? = w.heap[b]?) : w'.ownsMap Try.prog 58 (plainElem Try.prog 3) b n D := by
  obtain ⟨es, clock, h1, h2⟩ := h
  exact ⟨es, clock, by rw [e]; exact h1, h2⟩
theorem owns_lt {w : World} {b n : Nat} {D : DataW Unit} (h : w.ownsMap Try.prog 58 (plainElem Try.prog 3) b n D) : b < w.heap.size := by
  obtain ⟨es, clock, h1, _⟩ := h
  exact (Array.getElem?_eq_some_iff.1 h1).1
/-- What lies in memory when k bytes have been numbered. -/
def SS (r : Nat → Nat → Bool) (KL : Nat → Lit) (p : Nat → Nat) (w : World) (k : Nat) (wr : World) : Prop :=
  IntsAt wr w.heap.size (fun i => if i < k then nm r i else p i) ∧ BFree256 wr w.heap.size ∧ IntsAt wr (w.heap.size + 1) zeros ∧ BFree256 wr (w.heap.size + 1) ∧
  (∃ D, wr.ownsMap Try.prog 58 (plainElem (H := Unit) Try.prog 3) (w.heap.size + 2) k D ∧ MapInv r KL k D) ∧ w.heap.size + 3 ≤ wr.heap.size ∧ Below w.heap.size w wr
theorem SS.below {r : Nat → Nat → Bool} {KL : Nat → Lit} {p : Nat → Nat} {w wr w' : World} {k : Nat} (h : SS r KL p w k wr) (hb : Below wr.heap.size wr w') : SS r KL p w k w' := by
  obtain ⟨h1, h2, h3, h4, ⟨D, h5, h6⟩, h7, h8⟩ := h
  exact ⟨h1.below hb, h2.below h1.lt hb, h3.below hb, h4.below h3.lt hb, ⟨D, owns_same h5 (hb.block _ (by omega)), h6⟩, Nat.le_trans h7 hb.size, h8.trans (hb.mono h8.size)⟩
theorem SS.range {r : Nat → Nat → Bool} {KL : Nat → Lit} {p : Nat → Nat} {w wr : World} (h : SS r KL p w 0 wr) : wr.rangeAt w.heap.size 0 (intList p) := (h.1.congr (fun i _ => by simp)).range
theorem ints_new (w : World) (t : TypeId) : IntsAt (w.alloc (.cells (Array.replicate 256 (.int .i64 0)) t)) w.heap.size zeros := fun i hi => by simp [hi, zeros]
theorem ifree_new (w : World) (c : Array Value) (t : TypeId) : BFree256 (w.alloc (.cells c t)) w.heap.size := fun i hi => by simp
theorem ints_box (w : World) (p : Nat → Nat) : IntsAt (w.alloc (.cells (intList p).toArray 46)) w.heap.size p := fun i hi => by simp [intList_at p i hi]
theorem SS.start (r : Nat → Nat → Bool) (KL : Nat → Lit) (p : Nat → Nat) (w : World) :
    SS r KL p w 0 (((w.alloc (.cells (intList p).toArray 46)).alloc (.cells (Array.replicate 256 (.int .i64 0)) 46)).alloc (.map #[] 0)) := by
  have e1 : (w.alloc (.cells (intList p).toArray 46)).heap.size = w.heap.size + 1 := by simp
  have e2 : ((w.alloc (.cells (intList p).toArray 46)).alloc (.cells (Array.replicate 256 (.int .i64 0)) 46)).heap.size = w.heap.size + 2 := by simp
  have c1 := ints_new (w.alloc (.cells (intList p).toArray 46)) 46
  have f1 := ifree_new (w.alloc (.cells (intList p).toArray 46)) (Array.replicate 256 (.int .i64 0)) 46
  have m := World.ownsMap_made ((w.alloc (.cells (intList p).toArray 46)).alloc (.cells (Array.replicate 256 (.int .i64 0)) 46)) Try.prog 58 (plainElem (H := Unit) Try.prog 3)
  rw [e1] at c1 f1
  rw [e2] at m
  have hb1 := below_alloc (w.alloc (.cells (intList p).toArray 46)) (.cells (Array.replicate 256 (.int .i64 0)) 46)
  have hb2 := below_alloc ((w.alloc (.cells (intList p).toArray 46)).alloc (.cells (Array.replicate 256 (.int .i64 0)) 46)) (.map #[] 0)
  refine ⟨((((ints_box w p).below hb1).below hb2)).congr (fun i _ => by simp), ((ifree_new w _ 46).below (by simp) hb1).below (by simp; omega) hb2, c1.below hb2, f1.below (by simp) hb2, ⟨_, m, mapInv_start r KL⟩, by simp, (((Below.refl _ _).alloc (Nat.le_refl _) _).alloc (by simp) _).alloc (by simp; omega) _⟩
/-- The number is stored: one byte more has been numbered. -/
theorem SS.store {r : Nat → Nat → Bool} {KL : Nat → Lit} {p : Nat → Nat} {w wr w2 : World} {k : Nat} (h : SS r KL p w k wr) (hb : ∀ b, b < w.heap.size + 2 → w2.heap[b]? = wr.heap[b]?) (hsz : wr.heap.size ≤ w2.heap.size)
    (hm : ∃ D, w2.ownsMap Try.prog 58 (plainElem (H := Unit) Try.prog 3) (w.heap.size + 2) (k + 1) D ∧ MapInv r KL (k + 1) D) (hB : Below w.heap.size w w2) :
    SS r KL p w (k + 1) (w2.setCell ⟨w.heap.size, k, none⟩ (.int .i64 (nm r k : Int))) := by
  obtain ⟨h1, h2, h3, h4, _, h7, h8⟩ := h
  obtain ⟨D, hD, hI⟩ := hm
  have g1 : IntsAt w2 w.heap.size (fun i => if i < k then nm r i else p i) := fun i hi => (World.cell?_of_block (w := wr) (a := ⟨w.heap.size, i, none⟩) (hb _ (by show w.heap.size < _; omega))).trans (h1 i hi)
  have g2 : BFree256 w2 w.heap.size := fun i hi => (World.frozen?_of_block (w := wr) (a := ⟨w.heap.size, i, none⟩) (hb _ (by show w.heap.size < _; omega))).trans (h2 i hi)
  have g3 : IntsAt w2 (w.heap.size + 1) zeros := fun i hi => (World.cell?_of_block (w := wr) (a := ⟨w.heap.size + 1, i, none⟩) (hb _ (by show w.heap.size + 1 < _; omega))).trans (h3 i hi)
  have g4 : BFree256 w2 (w.heap.size + 1) := fun i hi => (World.frozen?_of_block (w := wr) (a := ⟨w.heap.size + 1, i, none⟩) (hb _ (by show w.heap.size + 1 < _; omega))).trans (h4 i hi)
  refine ⟨g1.put.congr (fun i _ => ?_), g2.put, g3.put_other (by omega), g4.put, ⟨D, owns_same hD ?_, hI⟩, by simp; omega, hB.setCell (Nat.le_refl _) _⟩
  · by_cases e : i = k
    · subst e; simp
    · rw [if_neg e]
      by_cases e2 : i < k
      · rw [if_pos e2, if_pos (by omega)]
      · rw [if_neg e2, if_neg (by omega)]
  · exact Below.heap_setCell _ _ _ _ (by simp)

theorem own_setCells {B : Nat} {a : World} (b : Nat) (hb : B ≤ b) : ∀ (vs : List Value) (o : Nat) {w : World}, Below B a w → Below B a (w.setCells b o vs)
  | [], _, _, h => h
  | v :: r, o, _, h => own_setCells b hb r (o + 1) (h.setCell (p := ⟨b, o, none⟩) hb v)

set_option maxHeartbeats 2000000 in
set_option maxRecDepth 100000 in
theorem split_any (A : Option Addr) (n cap : Nat) (L : Nat → Nat → Nat) (p : Nat → Nat) (w : World) (hrow : ClassRow w A n L) (hL : ∀ t, Cl (L t)) (hn : n ≤ 64) (hp : ∀ b, p b < 256) :
    Calls Try.prog 24 #[.agg (intList p).toArray, .slice A n cap] w fun e w' => e = .returned (.agg (intList (nm (rel p L n))).toArray) ∧ Below w.heap.size w w' := by
  obtain ⟨KL, hK⟩ := keys_are p L n hp hn
  have hmm := @run_makeMap Try.prog
  have hzero := (zero_of_info info46).1
  have hst := SS.start (rel p L n) KL p w
  have hrg := hst.range
  have hix := index46 p
  have hsz : (Try.prog.info? 46).map (·.size) = some (intList p).length := by rw [intList_length]; exact (zero_of_info info46).2
  generalize intList p = cs at hst hrg hix hsz
  go_enter Try.func24, Try.ntmps24
  go_wp2_with (refine wpList_load_mid rfl 46 _ rfl w.heap.size 0 rfl cs _ hrg Try.underlying46 rfl hsz ?_)
  clear hmm hzero hrg hsz
  go_loopw [6, 7, 8, 9, 10, 13, 24] (fun _ _ _ _ _ i _ wr => ∃ k : Nat, k ≤ 256 ∧ i = .int .i64 k ∧ SS (rel p L n) KL p w k wr) (fun _ _ _ _ _ i _ _ => 256 - (intOf i).toNat)
  case atStart => exact ⟨0, Nat.zero_le _, rfl, hst⟩
  case round =>
    clear hst
    obtain ⟨k, hk, rfl, hss⟩ := hrel
    by_cases hlt : k < 256
    · have h1 : (k : Int) < 256 := by omega
      have hpk := hp k
      have hxk := hix k hlt
      have hkb : IntKind.u8.wrap (k : Int) = (k : Int) := by rw [IntKind.wrap_u8]; omega
      have hnl := news_le (r := rel p L n) k
      have hBr := hss.2.2.2.2.2.2
      go_wp2_with fail
      go_at_call 30
      refine (members_any A n cap L k _ (hrow.below hBr) hL hn hlt).mono ?_
      rintro e w2 ⟨rfl, hb2⟩
      have s2 := hss.below hb2
      obtain ⟨_, _, _, _, ⟨D, hD, hI⟩, hz2, hB2⟩ := s2.below (below_alloc w2 (.cells #[.int .u64 (p k : Int), .int .u64 (mem L k n : Int)] 58))
      have s3 := s2.below (below_alloc w2 (.cells #[.int .u64 (p k : Int), .int .u64 (mem L k n : Int)] 58))
      have hd2 : w2.cell? ⟨w.heap.size, k, none⟩ = some (.int .i64 (p k : Int)) := by have := s2.1 k hlt; simpa using this
      have hf2 := s2.2.1 k hlt
      have hz : w.heap.size + 2 < w2.heap.size := by have := s2.2.2.2.2.2.1; omega
      have hd3 : (w2.alloc (.cells #[.int .u64 (p k : Int), .int .u64 (mem L k n : Int)] 58)).cell? ⟨w.heap.size, k, none⟩ = some (.int .i64 (p k : Int)) := by have := s3.1 k hlt; simpa using this
      have hf3 := s3.2.1 k hlt
      rcases mapInv_has hI hlt with ⟨a, ha, hra, hhas⟩ | ⟨hnew, hhas⟩
      · obtain ⟨hI', hval⟩ := mapInv_old hK hI hlt ha hra
        clear hra ha
        go_wp2_with (at_lookup; refine wpList_lookup_own_ok_int (H := Unit) _ rfl _ _ 56 rfl 58 3 .i64 keyed58 Try.underlying56 Try.underlying3 (Try.zeroValue3 _) (w.heap.size + 2) k D rfl hD _ (KL k) rfl (hK k hlt) ?_; intro c hat hwc; rw [hval] at hat; (obtain rfl : c = (nm (rel p L n) k : Int) := by simpa using hat.symm); rw [hhas])
        go_roundw
        case rel => exact ⟨k + 1, by omega, by go_num, SS.store s3 (fun _ _ => rfl) (Nat.le_refl _) ⟨D, hD.mono (by omega), hI'⟩ hB2⟩
        case measure => simp [intOf]; omega
      · obtain ⟨hI', hval⟩ := mapInv_new hK (hD.tidy keyed58) hI hlt hnew
        go_wp2_with (first
          | (at_lookup; refine wpList_lookup_own_ok_int (H := Unit) _ rfl _ _ 56 rfl 58 3 .i64 keyed58 Try.underlying56 Try.underlying3 (Try.zeroValue3 _) (w.heap.size + 2) k D rfl hD _ (KL k) rfl (hK k hlt) ?_; intro c hat hwc; rw [hhas])
          | (at_len; refine wpList_len_own _ rfl _ 56 rfl 58 3 Try.underlying56 _ (w.heap.size + 2) k D rfl hD ?_; rw [hI.2.2])
          | (at_mapUpdate; refine wpList_mapUpdate_own _ rfl _ _ _ 56 rfl 58 3 keyed58 Try.underlying56 _ (w.heap.size + 2) k D rfl hD (by unfold maxLen; omega) _ _ _ rfl rfl (hK k hlt) _ [] (plainElem_int Try.underlying3 (wf3 (x := news (rel p L n) k) (by omega))) ?_; intro w4 hown1 hgrow1; have hd4 : w4.cell? ⟨w.heap.size, k, none⟩ = some (.int .i64 (p k : Int)) := (World.cell?_of_block (hgrow1.block _ (by simp; omega) (by simp))).trans hd3; have hf4 : w4.frozen? ⟨w.heap.size, k, none⟩ = false := (World.frozen?_of_block (hgrow1.block _ (by simp; omega) (by simp))).trans hf3))
        rw [← hval]
        go_roundw
        case rel => exact ⟨k + 1, by omega, by go_num, SS.store s3 (fun b hb => hgrow1.block b (by simp; omega) (by simp; omega)) hgrow1.size ⟨_, hown1, hI'⟩ (hB2.grown hgrow1 (by simp; omega) (fun j hj => by simp at hj; omega))⟩
        case measure => simp [intOf]; omega
    · have hke : k = 256 := by omega
      subst hke
      have hr := (hss.1.congr (g := nm (rel p L n)) (fun i hi => by simp [hi])).range
      have hsz2 : (Try.prog.info? 46).map (·.size) = some (intList (nm (rel p L n))).length := by rw [intList_length]; exact (zero_of_info info46).2
      have ht : wr.there (w.heap.size + 1) 0 (intList (nm (rel p L n))).length := fun j hj => by
        rw [intList_length] at hj
        rw [Nat.zero_add]
        exact ⟨by rw [hss.2.2.1 j hj]; rfl, hss.2.2.2.1 j hj⟩
      have ho : ∀ v ∈ intList (nm (rel p L n)), v.oneCell' = true := fun v hv => by
        obtain ⟨i, _, rfl⟩ := List.mem_map.1 hv
        rfl
      have hB := hss.2.2.2.2.2.2
      generalize hds : intList (nm (rel p L n)) = ds at hr hsz2 ht ho
      have HD := Lib.hid hds
      clear hds
      go_wp2_with (first
        | (refine wpList_load_mid rfl 46 _ rfl w.heap.size 0 rfl ds _ hr Try.underlying46 rfl hsz2 ?_)
        | (refine wpList_store_mid rfl 46 _ _ rfl (w.heap.size + 1) 0 ds.toArray rfl rfl (by simpa using ht) (by simpa using hsz2) (all_oneCell_toArray ho) ?_))
      have hld := run_loadVar_mid (P := Try.prog) (wr.setCells (w.heap.size + 1) 0 ds) (w.heap.size + 1) 0 46 ds _ (World.rangeAt_setCells_same wr _ _ ds ht) Try.underlying46 rfl hsz2
      refine bodyPost_ret (v := .agg ds.toArray) ?_ rfl ⟨by rw [HD.out], own_setCells (w.heap.size + 1) (by omega) ds 0 hB⟩
      simp [results, Try.results24, asAddr, Act.put, hld]

end Go.Proofs.Ytbppofhjlgfbiaa
