/- A new set; the counts of a set as a list: contracts.
   Conditions: the set is in memory, its counts are within the scope's. -/
import Derived.Test.YtkkmopcmilgdoaaKsT
import Derived.Deep.OwnRows
namespace Go.Proofs.Ytkkmopcmilgdoaa
open Go.RowKit

theorem new_set (w : World) (lo hi : Int) (o : Obj) : SetC ((w.alloc o).alloc (.cells #[.int .i64 lo, .int .i64 hi, .int .i64 0, .pointer none, .pointer none, .int .i64 0, .int .i64 0] 53)) (w.heap.size + 1) lo hi [] 0 0 (fun k => w.heap.size ≤ k) := by
  have hn := heap_alloc_new (w.alloc o) (.cells #[.int .i64 lo, .int .i64 hi, .int .i64 0, .pointer none, .pointer none, .int .i64 0, .int .i64 0] 53)
  obtain ⟨q1, q2⟩ := row_cells hn
  have hz : (w.alloc o).heap.size = w.heap.size + 1 := by simp
  rw [hz] at q1 q2
  refine ⟨[], ⟨q1 0, q1 1, q1 2, q1 6, ⟨by simp, q1 3, q1 4, q1 5, q2, by simp⟩, Que.nil _⟩, rfl, fun k hk => ?_⟩
  rcases hk with rfl | hk
  · omega
  · simp at hk
set_option maxHeartbeats 4000000 in
set_option maxRecDepth 100000 in
theorem new_any (w : World) (lo hi : Int) (h1 : 1 ≤ lo) :
    Calls Try.prog 10 #[.agg #[.int .i64 lo, .int .i64 hi]] w fun e w' => ∃ cb, e = .returned (.pointer (some ⟨cb, 0, none⟩)) ∧ w.heap.size ≤ cb ∧ SetC w' cb lo hi [] 0 0 (fun k => w.heap.size ≤ k) ∧ Below w.heap.size w w' := by
  go_enter Try.func10, Try.ntmps10
  go_wp2_with fail
  all_goals
    refine bodyPost_ret (v := .pointer (some ⟨w.heap.size + 1, 0, none⟩)) (by simp [results, Try.results10, go_sem]) rfl ⟨w.heap.size + 1, rfl, by omega, ?_, ((Below.refl _ w).alloc (Nat.le_refl _) _).alloc (by simp) _⟩
  case inl => exact new_set w lo hi _
  case inr =>
    obtain rfl : lo = 1 := by omega
    exact new_set w 1 hi _

/-- A list of numbers in memory; G has its block. -/
def RowI (w : World) (G : Nat → Prop) (v : Value) (l : List Int) : Prop :=
  ∃ A c, v = .slice A l.length c ∧ ∀ i x, l[i]? = some x → ∃ g, A = some ⟨g, 0, none⟩ ∧ G g ∧ g < w.heap.size ∧ w.cell? ⟨g, i, none⟩ = some (.int .i64 x)

theorem made_int (n : Nat) : madeCells #[.int .i64 0] n = ((List.replicate n (Value.int .i64 0))).toArray := by
  unfold madeCells
  apply Array.ext_getElem?
  intro i
  simp only [List.getElem?_toArray, Array.getElem?_map]
  by_cases hi : i < n
  · rw [List.getElem?_replicate, if_pos hi, Array.getElem?_range, if_pos hi]
    simp [Nat.mod_one]
  · rw [List.getElem?_eq_none (by simp; omega), Array.getElem?_eq_none (by simp; omega)]
    rfl
/-- Ahead of a round of Counts. -/
def CtI (w : World) (es : List (Nat × Int)) (cm : Int) (q : Nat) (at_ e : Value) (wr : World) : Prop :=
  ∃ i : Nat, at_ = .int .i64 ((es.length - i : Nat) : Int) ∧ e = pe (nx es i) ∧ q = es.length - i ∧ i ≤ es.length ∧ w.heap.size < wr.heap.size ∧ Below w.heap.size w wr ∧ (∀ j, wr.frozen? ⟨w.heap.size, j, none⟩ = false) ∧
    (∀ j, j < es.length → ∃ x, wr.cell? ⟨w.heap.size, j, none⟩ = some (.int .i64 x)) ∧ ∀ k b m, k < i → es[k]? = some (b, m) → wr.cell? ⟨w.heap.size, es.length - 1 - k, none⟩ = some (.int .i64 (cm - m))
theorem nx_some {es : List (Nat × Int)} {i : Nat} (h : i < es.length) : ∃ b m, es[i]? = some (b, m) ∧ nx es i = some b := by
  refine ⟨es[i].1, es[i].2, List.getElem?_eq_getElem h, ?_⟩
  unfold nx
  rw [List.getElem?_eq_getElem h]
  rfl
theorem nx_none {es : List (Nat × Int)} {i : Nat} (h : es.length ≤ i) : nx es i = none := by
  unfold nx
  rw [List.getElem?_eq_none h]
  rfl

set_option maxHeartbeats 4000000 in
set_option maxRecDepth 100000 in
theorem countsS_any (w : World) (cb : Nat) (lo hi cm st : Int) (L : List Int) (G : Nat → Prop) (h : SetC w cb lo hi L cm st G) (hL : L.length < 1000000) (hC : ∀ x ∈ L, -10000000000 ≤ x ∧ x < 10000000000) :
    Calls Try.prog 13 #[.pointer (some ⟨cb, 0, none⟩)] w fun e w' => ∃ v, e = .returned v ∧ RowI w' (fun k => w.heap.size ≤ k) v L.reverse ∧ Below w.heap.size w w' := by
  obtain ⟨es, hr, rfl, hG⟩ := h
  rw [List.length_map] at hL
  have c3 := hr.hd.c0
  have c5 : w.cell? ⟨cb, 5, none⟩ = some (.int .i64 (es.length : Int)) := hr.hd.c2
  have hlt := hr.hd.lt
  have HR := Lib.hid (And.intro hr hC)
  have hn0 : (0 : Int) ≤ (es.length : Int) := by omega
  have hmk : ∀ W : World, (Instr.makeSlice 32 (.int .i64 (es.length : Int)) (.int .i64 (es.length : Int))).run Try.prog W = .ok (.slice (some ⟨W.heap.size, 0, none⟩) es.length es.length) (W.alloc (.cells (madeCells #[.int .i64 0] es.length) 2)) := fun W => run_make_row' (P := Try.prog) 32 2 (.int .i64 0) 8 Try.underlying32 (by kernel_rfl) rfl .i64 .i64 es.length (by omega) (by omega) W
  obtain ⟨e0, he0⟩ : ∃ e0, e0 = pe (nx es 0) := ⟨_, rfl⟩
  rw [← he0] at c3
  have HE := Lib.hid he0
  clear hr hC hG he0
  go_enter Try.func13, Try.ntmps13
  go_wp2_with fail
  have hst0 : CtI w es cm es.length (.int .i64 (es.length : Int)) e0 (w.alloc (.cells (madeCells #[.int .i64 0] es.length) 2)) := by
    have hq := heap_alloc_new w (.cells (madeCells #[.int .i64 0] es.length) 2)
    obtain ⟨q1, q2⟩ := row_cells hq
    refine ⟨0, rfl, HE.out, rfl, by omega, by simp, (Below.refl _ w).alloc (Nat.le_refl _) _, q2, fun j hj => ⟨0, ?_⟩, fun k b m hk => by omega⟩
    rw [q1, made_int]
    simp [hj]
  have H0 := Lib.hid hst0
  clear hst0 c3 c5 hlt hmk
  generalize w.alloc (.cells (madeCells #[.int .i64 0] es.length) 2) = w1 at *
  go_loopw [4, 5] (fun a e wr => ∃ q, CtI w es cm q a e wr) (fun a e wr => leastOf (fun q => CtI w es cm q a e wr))
  case atStart => exact ⟨_, H0.out⟩
  case round =>
    have hls := (leastOf_spec hrel).1
    obtain ⟨i, rfl, rfl, hq, hi, hsz, hb, hf, hx, hv⟩ := hls
    have hr := HR.out.1.keep (Chg.of_below (R := fun _ => False) hb) (fun _ _ => id)
    have HQ := Lib.hid hq
    clear hrel hq
    by_cases g : i < es.length
    · obtain ⟨b, m, hbm, hnx⟩ := nx_some g
      have E := hr.q.ent i b m hbm
      have c2 := hr.s2
      have hlt := hr.hd.lt
      have e0' := E.mrk
      have e1' := E.nxt
      have hlt2 := E.lt
      obtain ⟨x, hx0⟩ := hx (es.length - i - 1) (by omega)
      have hf0 := hf (es.length - i - 1)
      have hbd := HR.out.2 (cm - m) (List.mem_map.2 ⟨(b, m), List.mem_of_getElem? hbm, rfl⟩)
      have w1' : IntKind.i64.wrap (cm - m) = cm - m := by rw [IntKind.wrap_i64]; omega
      have w2' : IntKind.i64.wrap (((es.length - i : Nat) : Int) - 1) = ((es.length - i - 1 : Nat) : Int) := by rw [IntKind.wrap_i64]; omega
      obtain ⟨e2, he2⟩ : ∃ e2, e2 = pe (nx es (i + 1)) := ⟨_, rfl⟩
      rw [← he2] at e1'
      rw [hnx] at HQ ⊢
      have hkk : es.length - i - 1 < es.length := by omega
      have HK := Lib.hid (show es.length - i - 1 = es.length - 1 - i ∧ i < es.length by omega)
      generalize es.length - i - 1 = k at *
      generalize ((es.length - i : Nat) : Int) = k2 at *
      have t1 : (0 : Int) ≤ (k : Int) := by omega
      have t2 : (k : Int) < (es.length : Int) := by omega
      simp only [pe, Option.map_some] at HQ ⊢
      have HI := Lib.hid (And.intro hb (And.intro hf (And.intro hx (And.intro hv (And.intro hbm he2)))))
      clear hb hf hx hv hbm he2 hr hbd E
      go_wp2_with fail
      go_still_tail 12, (by kernel_rfl)
      change wpList _ _ _ _ _ wr.drew
      have HP := Lib.hid (show CtI w es cm (es.length - (i + 1)) (.int .i64 (k : Int)) e2 (wr.drew.setCell ⟨w.heap.size, k, none⟩ (.int .i64 (cm - m))) from by
        obtain ⟨hb, hf, hx, hv, hbm, he2⟩ := HI.out
        have hh := HK.out
        have hbw : Below w.heap.size w wr.drew := hb.drew
        refine ⟨i + 1, by rw [show es.length - (i + 1) = k by omega], he2, rfl, by omega, by simpa using hsz, hbw.setCell (Nat.le_refl _) _, fun j => by simpa using hf j, fun j hj => ?_, fun k' b' m' hk' hb' => ?_⟩
        · by_cases e : j = k
          · subst e
            exact ⟨_, set_same (w := wr.drew) hx0 _⟩
          · rw [set_other (w := wr.drew) (.inr (fun h => e h.symm))]
            exact hx j hj
        · by_cases e : k' = i
          · subst e
            rw [hbm] at hb'
            simp only [Option.some.injEq, Prod.mk.injEq] at hb'
            obtain ⟨rfl, rfl⟩ := hb'
            rw [← hh.1]
            exact set_same (w := wr.drew) hx0 _
          · rw [set_other (w := wr.drew) (.inr (by omega))]
            exact hv k' b' m' (by omega) hb')
      replace c2 : wr.drew.cell? ⟨cb, 2, none⟩ = some (.int .i64 cm) := c2
      replace e1' : wr.drew.cell? ⟨b, 1, none⟩ = some e2 := e1'
      replace hlt2 : b < wr.drew.heap.size := hlt2
      replace hx0 : wr.drew.cell? ⟨w.heap.size, k, none⟩ = some (.int .i64 x) := hx0
      replace hf0 : wr.drew.frozen? ⟨w.heap.size, k, none⟩ = false := hf0
      have hbw : b < w.heap.size := (HR.out.1.q.ent i b m HI.out.2.2.2.2.1).lt
      have hne : ¬ w.heap.size = b := by omega
      clear c2 hlt e0' hbw
      generalize wr.drew = wd at *
      go_wp2_with fail
      go_roundw
      case rel => exact ⟨_, HP.out⟩
      case measure =>
        rw [HQ.out]
        refine Nat.lt_of_le_of_lt ((leastOf_spec ⟨_, HP.out⟩).2 _ HP.out) ?_
        have := HK.out.2
        omega
    · have hie : i = es.length := by omega
      rw [nx_none (by omega)]
      simp only [pe, Option.map_none]
      have HI := Lib.hid (show RowI wr (fun k => w.heap.size ≤ k) (.slice (some ⟨w.heap.size, 0, none⟩) es.length es.length) (es.map (fun p => cm - p.2)).reverse ∧ Below w.heap.size w wr from ⟨⟨some ⟨w.heap.size, 0, none⟩, es.length, by simp, fun j y hj => ⟨w.heap.size, rfl, Nat.le_refl _, hsz, ?_⟩⟩, hb⟩)
      · clear hb hf hx hv hr hi hsz
        go_wp2_with fail
        go_ret
        exact ⟨_, rfl, HI.out⟩
      · have hjl := (List.getElem?_eq_some_iff.1 hj).1
        simp only [List.length_reverse, List.length_map] at hjl
        rw [List.getElem?_reverse (by simpa using hjl), List.length_map, List.getElem?_map] at hj
        obtain ⟨⟨b, m⟩, hbm⟩ : ∃ p, es[es.length - 1 - j]? = some p := ⟨_, List.getElem?_eq_getElem (by omega)⟩
        rw [hbm] at hj
        obtain rfl := Option.some.inj hj
        have := hv (es.length - 1 - j) b m (by omega) hbm
        rw [show es.length - 1 - (es.length - 1 - j) = j by omega] at this
        exact this

end Go.Proofs.Ytkkmopcmilgdoaa
