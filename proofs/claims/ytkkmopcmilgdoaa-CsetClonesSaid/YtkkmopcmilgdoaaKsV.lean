/- A queue's own copy; a set's clone: contracts.
   Conditions: the set is in memory, its counts are within the scope's. -/
import Derived.Test.YtkkmopcmilgdoaaKsU
namespace Go.Proofs.Ytkkmopcmilgdoaa
open Go.RowKit

theorem que_rise {es : List (Nat × Int)} (h : (es.map Prod.snd).Pairwise (fun x y => x < y)) {i b : Nat} {m : Int} (hi : es[i]? = some (b, m)) : putM ((es.map Prod.snd).take i) m = (es.map Prod.snd).take (i + 1) := by
  have hm : (es.map Prod.snd)[i]? = some m := by rw [List.getElem?_map, hi]; rfl
  generalize es.map Prod.snd = l at *
  have hil := (List.getElem?_eq_some_iff.1 hm).1
  unfold putM
  rw [if_neg]
  · rw [List.take_add_one, hm]; rfl
  · intro e
    rw [List.getLast?_eq_getElem?, List.length_take, Nat.min_eq_left (by omega)] at e
    have h0 : 0 < i := by
      rcases Nat.eq_zero_or_pos i with h0 | h0
      · subst h0; simp at e
      · exact h0
    rw [List.getElem?_take_of_lt (by omega)] at e
    have := List.pairwise_iff_getElem.1 h (i - 1) i (by omega) hil (by omega)
    have e1 := (List.getElem?_eq_some_iff.1 e).2
    have e2 := (List.getElem?_eq_some_iff.1 hm).2
    omega
/-- A new queue's cells. -/
abbrev qz : Obj := .cells #[.pointer none, .pointer none, .int .i64 0] 51
/-- Ahead of a round of a copy. -/
def CoI (w : World) (es : List (Nat × Int)) (q : Nat) (e : Value) (wr : World) : Prop :=
  ∃ (i : Nat) (os : List (Nat × Int)), e = pe (nx es i) ∧ q = es.length - i ∧ i ≤ es.length ∧ os.map Prod.snd = (es.map Prod.snd).take i ∧ Que wr os ∧ Hd wr (w.heap.size + 1) 0 os ∧ (∀ b ∈ os.map Prod.fst, w.heap.size + 2 ≤ b) ∧ Below w.heap.size w wr ∧ wr.heap[w.heap.size]? = some qz
theorem qz_hd {w : World} {b : Nat} (h : w.heap[b]? = some qz) : Hd w b 0 [] := by
  obtain ⟨q1, q2⟩ := row_cells h
  exact ⟨(Array.getElem?_eq_some_iff.1 h).1, q1 0, q1 1, q1 2, q2, by simp⟩

set_option maxHeartbeats 4000000 in
set_option maxRecDepth 100000 in
theorem copied_any (w : World) (qb qo : Nat) (es : List (Nat × Int)) (h : Hd w qb qo es) (hq : Que w es) (hL : es.length < 1000000) (hi : (es.map Prod.snd).Pairwise (fun x y => x < y)) :
    Calls Try.prog 31 #[.pointer (some ⟨qb, qo, none⟩)] w fun e w' => ∃ os, e = .returned (.agg #[pe (nx os 0), pe (nx os (os.length - 1)), .int .i64 (os.length : Int)]) ∧ os.map Prod.snd = es.map Prod.snd ∧ Que w' os ∧ (∀ b ∈ os.map Prod.fst, w.heap.size ≤ b) ∧ Below w.heap.size w w' := by
  obtain ⟨e0, he0⟩ : ∃ e0, e0 = pe (nx es 0) := ⟨_, rfl⟩
  have c0 := h.c0
  rw [← he0] at c0
  have hlt := h.lt
  have H := Lib.hid (And.intro h (And.intro hq (And.intro hi he0)))
  have H0 := Lib.hid (show CoI w es es.length e0 ((w.alloc qz).alloc qz) from by
    have h1 : ((w.alloc qz).alloc qz).heap[w.heap.size]? = some qz := (Below.heap_alloc _ _ _ (by simp)).trans (heap_alloc_new w _)
    have h2 : ((w.alloc qz).alloc qz).heap[w.heap.size + 1]? = some qz := by
      have := heap_alloc_new (w.alloc qz) qz
      rw [World.size_alloc] at this
      exact this
    exact ⟨0, [], he0, rfl, by omega, rfl, Que.nil _, qz_hd h2, by simp, ((Below.refl _ w).alloc (Nat.le_refl _) _).alloc (by simp) _, h1⟩)
  clear h hq hi he0
  go_enter Try.func31, Try.ntmps31
  go_wp2_with fail
  clear c0 hlt
  generalize (w.alloc qz).alloc qz = w1 at *
  go_loopw [4] (fun e wr => ∃ q, CoI w es q e wr) (fun e wr => leastOf (fun q => CoI w es q e wr))
  case atStart => exact ⟨_, H0.out⟩
  case round =>
    have hls := (leastOf_spec hrel).1
    obtain ⟨i, os, rfl, hq, hi, hos, hqo, hho, hbo, hb, hz⟩ := hls
    have HQ := Lib.hid hq
    clear hrel hq
    by_cases g : i < es.length
    · obtain ⟨b, m, hbm, hnx⟩ := nx_some g
      have E := H.out.2.1.ent i b m hbm
      have E' := E.keep (Chg.of_below (R := fun _ => False) hb) id
      have e0' := E'.mrk
      have hlt2 := E'.lt
      rw [hnx] at HQ ⊢
      simp only [pe, Option.map_some] at HQ ⊢
      have HI := Lib.hid (And.intro hos (And.intro hqo (And.intro hho (And.intro hbo (And.intro hb (And.intro hz (And.intro hbm E)))))))
      clear hos hqo hho hbo hb hz hbm E E'
      go_wp2_with fail
      go_at_call 24
      have hol : os.length ≤ es.length := by
        have := congrArg List.length HI.out.1
        simp at this
        omega
      refine (put_any wr (w.heap.size + 1) 0 os m HI.out.2.2.1 HI.out.2.1 (by omega)).mono ?_
      rintro e w3 ⟨rfl, os', h1, h2, h3, h4, h5, _⟩
      have hR : ∀ k, k ≤ w.heap.size → ¬ (k = w.heap.size + 1 ∨ k ∈ os.map Prod.fst) := fun k hk e => by
        rcases e with e | e
        · omega
        · have := HI.out.2.2.2.1 k e
          omega
      obtain ⟨e2, he2⟩ : ∃ e2, e2 = pe (nx es (i + 1)) := ⟨_, rfl⟩
      have hbl : b < w.heap.size := HI.out.2.2.2.2.2.2.2.lt
      have hsz := HI.out.2.2.2.2.1.size
      have E3 := (HI.out.2.2.2.2.2.2.2.keep (Chg.of_below (R := fun _ => False) HI.out.2.2.2.2.1) id).keep h5 (hR b (by omega))
      have e1' := E3.nxt
      rw [← he2] at e1'
      have hlt3 := E3.lt
      have hz2 := (Array.getElem?_eq_some_iff.1 HI.out.2.2.2.2.2.1).1
      have HP := Lib.hid (show CoI w es (es.length - (i + 1)) e2 w3 from by
        refine ⟨i + 1, os', he2, rfl, by omega, ?_, h2, h3, fun x hx => ?_, HI.out.2.2.2.2.1.trans (h5.below hsz (fun k hk => hR k (by omega))), (h5.block _ hz2 (hR _ (Nat.le_refl _))).trans HI.out.2.2.2.2.2.1⟩
        · rw [h1, HI.out.1, que_rise H.out.2.2.1 HI.out.2.2.2.2.2.2.1]
        · rcases h4 x hx with h | h
          · exact HI.out.2.2.2.1 x h
          · have := HI.out.2.2.1.lt
            omega)
      clear h1 h2 h3 h4 h5 hR he2 E3 hz2 e0' hlt2 hsz
      go_wp2_with fail
      go_roundw
      case rel => exact ⟨_, HP.out⟩
      case measure =>
        rw [HQ.out]
        exact Nat.lt_of_le_of_lt ((leastOf_spec ⟨_, HP.out⟩).2 _ HP.out) (by omega)
    · have hie : i = es.length := by omega
      rw [nx_none (by omega)]
      simp only [pe, Option.map_none]
      have hho' := hho
      have c0 := hho.c0
      have c1 := hho.c1
      have c2 := hho.c2
      have hlt := hho.lt
      have hz' := qz_hd hz
      have d0 := hz'.c0
      have d1 := hz'.c1
      have d2 := hz'.c2
      have f0 := hz'.fz 0
      have f1 := hz'.fz 1
      have f2 := hz'.fz 2
      have hlt2 := hz'.lt
      rw [List.take_of_length_le (by simp; omega)] at hos
      have HI := Lib.hid (And.intro hos (And.intro hqo (And.intro hbo (And.intro hb hz))))
      clear hos hqo hho hho' hbo hb hz hz'
      go_wp2_with fail
      obtain ⟨W, hW, r0, r1, r2, _, hs, hf, hc⟩ := set3 (qo := 0) d0 d1 d2 (pe (nx os 0)) (pe (nx os (os.length - 1))) (.int .i64 (os.length : Int))
      simp only [Nat.zero_add] at hW r1 r2
      rw [hW]
      have hb' := HI.out.2.2.2.1
      refine bodyPost_ret (v := .agg #[pe (nx os 0), pe (nx os (os.length - 1)), .int .i64 (os.length : Int)]) (by simp [results, Try.results31, go_sem, r0, r1, r2]) rfl ⟨os, rfl, HI.out.1, HI.out.2.1.keep hc (fun b hb e => by have := HI.out.2.2.1 b hb; omega), fun b hb => by have := HI.out.2.2.1 b hb; omega, hb'.trans (hc.below hb'.size fun k hk e => by omega)⟩

theorem rise_of {es : List (Nat × Int)} {cm : Int} (h : (es.map fun p => cm - p.2).Pairwise (fun x y => y < x)) : (es.map Prod.snd).Pairwise (fun x y => x < y) := by
  rw [List.pairwise_map] at h ⊢
  exact h.imp fun h => by omega
set_option maxHeartbeats 4000000 in
set_option maxRecDepth 100000 in
theorem clone_any (w : World) (cb : Nat) (lo hi cm st : Int) (L : List Int) (G : Nat → Prop) (h : SetC w cb lo hi L cm st G) (hL : L.length < 1000000) (hC : L.Pairwise (fun x y => y < x)) :
    Calls Try.prog 23 #[.pointer (some ⟨cb, 0, none⟩)] w fun e w' => ∃ ob, e = .returned (.pointer (some ⟨ob, 0, none⟩)) ∧ SetC w' ob lo hi L cm st (fun k => w.heap.size ≤ k) ∧ Below w.heap.size w w' := by
  obtain ⟨es, hr, rfl, hG⟩ := h
  rw [List.length_map] at hL
  have hi2 := rise_of hC
  have c0 := hr.s0
  have c1 := hr.s1
  have c2 := hr.s2
  have c3 := hr.hd.c0
  have c4 : w.cell? ⟨cb, 4, none⟩ = some (pe (nx es (es.length - 1))) := hr.hd.c1
  have c5 : w.cell? ⟨cb, 5, none⟩ = some (.int .i64 (es.length : Int)) := hr.hd.c2
  have c6 := hr.s6
  have hlt := hr.hd.lt
  have H := Lib.hid (And.intro hr (And.intro hi2 hL))
  clear hr hG hi2 hC
  have hn := heap_alloc_new w (.cells #[.int .i64 lo, .int .i64 hi, .int .i64 cm, pe (nx es 0), pe (nx es (es.length - 1)), .int .i64 (es.length : Int), .int .i64 st] 53)
  have hbn : Below w.heap.size w (w.alloc (.cells #[.int .i64 lo, .int .i64 hi, .int .i64 cm, pe (nx es 0), pe (nx es (es.length - 1)), .int .i64 (es.length : Int), .int .i64 st] 53)) := (Below.refl _ w).alloc (Nat.le_refl _) _
  have HN := Lib.hid (And.intro hn hbn)
  clear hn hbn
  go_enter Try.func23, Try.ntmps23
  go_wp2_with fail
  clear c0 c1 c2 c3 c4 c5 c6 hlt
  generalize w.alloc (.cells #[.int .i64 lo, .int .i64 hi, .int .i64 cm, pe (nx es 0), pe (nx es (es.length - 1)), .int .i64 (es.length : Int), .int .i64 st] 53) = wa at *
  go_at_call 31
  have hra := H.out.1.keep (Chg.of_below (R := fun _ => False) HN.out.2) (fun _ _ => id)
  refine (copied_any wa cb 3 es hra.hd hra.q H.out.2.2 H.out.2.1).mono ?_
  rintro e w3 ⟨os, rfl, ho, hq, hfo, hb3⟩
  have hsz : w.heap.size < wa.heap.size := (Array.getElem?_eq_some_iff.1 HN.out.1).1
  have hn3 := (hb3.block _ hsz).trans HN.out.1
  obtain ⟨q1, q2⟩ := row_cells hn3
  have d0 := q1 3
  have d1 := q1 4
  have d2 := q1 5
  have f0 := q2 3
  have f1 := q2 4
  have f2 := q2 5
  have hlt := (Array.getElem?_eq_some_iff.1 hn3).1
  have HI := Lib.hid (And.intro ho (And.intro hq (And.intro hfo (And.intro hb3 (And.intro hn3 hsz)))))
  clear ho hq hfo hb3 hn3 q1 q2 hra hsz
  simp at d0 d1 d2
  go_wp2_with fail
  obtain ⟨W, hW, r0, r1, r2, hoth, hs, hf, hc⟩ := set3 (qo := 3) d0 d1 d2 (pe (nx os 0)) (pe (nx os (os.length - 1))) (.int .i64 (os.length : Int))
  rw [hW]
  obtain ⟨q1, q2⟩ := row_cells HI.out.2.2.2.2.1
  refine bodyPost_ret (v := .pointer (some ⟨w.heap.size, 0, none⟩)) (by simp [results, Try.results23, go_sem]) rfl ⟨w.heap.size, rfl, ⟨os, ?_, ?_, fun k hk => ?_⟩, ?_⟩
  · have hown : w.heap.size ∉ os.map Prod.fst := fun e => by
      have := HI.out.2.2.1 _ e
      have := HI.out.2.2.2.2.2
      omega
    exact ⟨(hoth 0 (by omega)).trans (q1 0), (hoth 1 (by omega)).trans (q1 1), (hoth 2 (by omega)).trans (q1 2), (hoth 6 (by omega)).trans (q1 6), ⟨by rw [hs]; exact hlt, r0, r1, r2, fun j => (hf _).trans (q2 j), hown⟩, HI.out.2.1.keep hc fun b hb e => hown (e ▸ hb)⟩
  · rw [cts_snd, cts_snd, HI.out.1]
  · have := HI.out.2.2.2.2.2
    rcases hk with rfl | hk
    · exact Nat.le_refl _
    · have := HI.out.2.2.1 _ hk
      omega
  · have hb := HN.out.2.trans (HI.out.2.2.2.1.mono HN.out.2.size)
    exact hb.trans (hc.below hb.size fun k hk e => by omega)

end Go.Proofs.Ytkkmopcmilgdoaa
