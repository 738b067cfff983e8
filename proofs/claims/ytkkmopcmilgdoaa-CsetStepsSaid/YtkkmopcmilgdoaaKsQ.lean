/- One mark more to the end of a queue, the oldest one out of it: contracts.
   Conditions: the queue is in memory, and short. -/
import Derived.Test.YtkkmopcmilgdoaaKsM
namespace Go.Proofs.Ytkkmopcmilgdoaa
open Go.RowKit

set_option maxHeartbeats 4000000 in
set_option maxRecDepth 100000 in
theorem put_none (w : World) (qb qo : Nat) (m : Int) (h : Hd w qb qo []) :
    Calls Try.prog 24 #[.pointer (some ⟨qb, qo, none⟩), .int .i64 m] w fun e w' => e = .returned (.tuple #[]) ∧ QOut w qb qo [] [m] w' := by
  have c0 := h.c0
  have c1 := h.c1
  have c2 := h.c2
  have f0 := h.fz qo
  have f1 := h.fz (qo + 1)
  have f2 := h.fz (qo + 2)
  have hlt := h.lt
  simp only [nx, pe, List.length_nil, List.getElem?_nil, Option.map_none] at c0 c1 c2
  go_enter Try.func24, Try.ntmps24
  go_wp2_with fail
  exact bodyPost_end (results_none rfl _ _ _) rfl ⟨rfl, put_first h m⟩

set_option maxHeartbeats 4000000 in
set_option maxRecDepth 100000 in
theorem put_old (w : World) (qb qo : Nat) (es : List (Nat × Int)) (lb : Nat) (m : Int) (h : Hd w qb qo es) (hq : Que w es) (hl : es[es.length - 1]? = some (lb, m)) :
    Calls Try.prog 24 #[.pointer (some ⟨qb, qo, none⟩), .int .i64 m] w fun e w' => e = .returned (.tuple #[]) ∧ w' = w := by
  have c1 := h.c1
  have E := hq.ent _ _ _ hl
  have e0 := E.mrk
  have hlt := h.lt
  have hlt2 := E.lt
  rw [nx, hl] at c1
  simp only [pe, Option.map_some] at c1
  go_enter Try.func24, Try.ntmps24
  go_wp2_with fail
  exact bodyPost_ret (results_none rfl _ _ _) rfl ⟨rfl, rfl⟩
set_option maxHeartbeats 4000000 in
set_option maxRecDepth 100000 in
theorem put_more (w : World) (qb qo : Nat) (es : List (Nat × Int)) (lb : Nat) (lm m : Int) (h : Hd w qb qo es) (hq : Que w es) (hl : es[es.length - 1]? = some (lb, lm)) (hne : ¬ lm = m) (hs : es.length < 1000000000) :
    Calls Try.prog 24 #[.pointer (some ⟨qb, qo, none⟩), .int .i64 m] w fun e w' => e = .returned (.tuple #[]) ∧ QOut w qb qo es (es.map Prod.snd ++ [m]) w' := by
  have c1 := h.c1
  have c2 := h.c2
  have f1 := h.fz (qo + 1)
  have f2 := h.fz (qo + 2)
  have hlt := h.lt
  have E := hq.ent _ _ _ hl
  have e0 := E.mrk
  have e1 := E.nxt
  have g1 := E.fz 1
  have hlt2 := E.lt
  have hn : (lm == m) = false := by rw [beq_eq_false_iff_ne]; exact hne
  have hbq : lb ≠ qb := fun e => h.own (e ▸ mem_at hl)
  have hnx : nx es (es.length - 1 + 1) = none := by unfold nx; rw [List.getElem?_eq_none (by omega)]; rfl
  have hwr : IntKind.i64.wrap ((es.length : Int) + 1) = (es.length : Int) + 1 := by rw [IntKind.wrap_i64]; omega
  rw [nx, hl] at c1
  rw [hnx] at e1
  simp only [pe, Option.map_some, Option.map_none] at c1 e1
  generalize hk : (es.length : Int) = k at c2 hwr
  clear hnx
  go_enter Try.func24, Try.ntmps24
  go_wp2_with fail
  subst hk
  exact bodyPost_end (results_none rfl _ _ _) rfl ⟨rfl, put_last h hq hl m⟩
set_option maxHeartbeats 4000000 in
set_option maxRecDepth 100000 in
theorem drop_one (w : World) (qb qo : Nat) (b : Nat) (m : Int) (h : Hd w qb qo [(b, m)]) (hq : Que w [(b, m)]) :
    Calls Try.prog 26 #[.pointer (some ⟨qb, qo, none⟩)] w fun e w' => e = .returned (.tuple #[]) ∧ QOut w qb qo [(b, m)] [] w' := by
  have c0 := h.c0
  have c1 := h.c1
  have c2 := h.c2
  have f0 := h.fz qo
  have f1 := h.fz (qo + 1)
  have f2 := h.fz (qo + 2)
  have hlt := h.lt
  have E := hq.ent 0 _ _ rfl
  have e1 := E.nxt
  have hlt2 := E.lt
  have hbq : b ≠ qb := fun e => h.own (e ▸ List.mem_singleton_self b)
  simp only [nx, pe, List.length_singleton, List.getElem?_cons_zero, Option.map_some, Nat.sub_self, Nat.zero_add, List.getElem?_cons_succ, List.getElem?_nil, Option.map_none] at c0 c1 c2 e1
  go_enter Try.func26, Try.ntmps26
  go_wp2_with fail
  obtain ⟨W, hW, a0, a1, a2, ho, hsz, hf, hc⟩ := set3 h.c0 h.c1 h.c2 (.pointer none) (.pointer none) (.int .i64 0)
  rw [hW]
  exact bodyPost_end (results_none rfl _ _ _) rfl ⟨rfl, drop_first h hq hc hf hsz a0 a1 a2 ho⟩
set_option maxHeartbeats 4000000 in
set_option maxRecDepth 100000 in
theorem drop_more (w : World) (qb qo : Nat) (b b2 : Nat) (m m2 : Int) (es : List (Nat × Int)) (h : Hd w qb qo ((b, m) :: (b2, m2) :: es)) (hq : Que w ((b, m) :: (b2, m2) :: es)) (hs : es.length < 1000000000) :
    Calls Try.prog 26 #[.pointer (some ⟨qb, qo, none⟩)] w fun e w' => e = .returned (.tuple #[]) ∧ QOut w qb qo ((b, m) :: (b2, m2) :: es) (m2 :: es.map Prod.snd) w' := by
  have c0 := h.c0
  have c2 := h.c2
  have f0 := h.fz qo
  have f2 := h.fz (qo + 2)
  have hlt := h.lt
  have E := hq.ent 0 _ _ rfl
  have e1 := E.nxt
  have hlt2 := E.lt
  have hbq : b ≠ qb := fun e => h.own (e ▸ mem_at (i := 0) rfl)
  have hwr : IntKind.i64.wrap (((es.length + 2 : Nat) : Int) - 1) = ((es.length + 1 : Nat) : Int) := by rw [IntKind.wrap_i64]; omega
  simp only [nx, pe, List.length_cons, List.getElem?_cons_zero, Option.map_some, Nat.zero_add, List.getElem?_cons_succ] at c0 c2 e1
  rw [show es.length + 1 + 1 = es.length + 2 by omega] at c2
  generalize hk : ((es.length + 2 : Nat) : Int) = k at c2 hwr
  generalize hk1 : ((es.length + 1 : Nat) : Int) = k1 at hwr
  go_enter Try.func26, Try.ntmps26
  go_wp2_with fail
  subst hk hk1
  have hx : ∀ i, nx ((b, m) :: (b2, m2) :: es) (i + 1) = nx ((b2, m2) :: es) i := fun i => by unfold nx; simp
  refine bodyPost_end (results_none rfl _ _ _) rfl ⟨rfl, drop_first (es := (b2, m2) :: es) h hq ?_ (fun p => by simp) (by simp) ?_ ?_ ?_ fun j hj => ?_⟩
  · refine ((Chg.refl _ w).setCell ?_ _).setCell ?_ _
    all_goals exact fun _ => rfl
  · rw [set_other (.inr (by omega)), set_same h.c0]; rfl
  · rw [set_other (.inr (by omega)), set_other (.inr (by omega)), h.c1, List.length_cons, List.length_cons, Nat.add_sub_cancel, Nat.add_sub_cancel, hx]
  · rw [set_same (by rw [set_other (.inr (by omega)), h.c2]), List.length_cons]
  · rw [set_other (.inr (by omega)), set_other (.inr (by omega))]
/-- A mark is put to the end of a queue. -/
theorem put_any (w : World) (qb qo : Nat) (es : List (Nat × Int)) (m : Int) (h : Hd w qb qo es) (hq : Que w es) (hs : es.length < 1000000000) :
    Calls Try.prog 24 #[.pointer (some ⟨qb, qo, none⟩), .int .i64 m] w fun e w' => e = .returned (.tuple #[]) ∧ QOut w qb qo es (putM (es.map Prod.snd) m) w' := by
  by_cases h0 : es = []
  · subst h0
    exact put_none w qb qo m h
  · have hlt : es.length - 1 < es.length := by have := List.length_pos_iff.2 h0; omega
    obtain ⟨⟨lb, lm⟩, hl⟩ : ∃ p, es[es.length - 1]? = some p := ⟨_, List.getElem?_eq_getElem hlt⟩
    have hg : (es.map Prod.snd).getLast? = some lm := by rw [List.getLast?_eq_getElem?, List.length_map, List.getElem?_map, hl]; rfl
    unfold putM
    rw [hg]
    by_cases e : lm = m
    · subst e
      rw [if_pos rfl]
      refine (put_old w qb qo es lb lm h hq hl).mono ?_
      rintro e w' ⟨rfl, rfl⟩
      exact ⟨rfl, es, rfl, hq, h, fun _ hb => .inl hb, Chg.refl _ _, fun _ _ => rfl⟩
    · rw [if_neg (by simpa using e)]
      exact put_more w qb qo es lb lm m h hq hl e hs
/-- The oldest entry of a queue is taken out. -/
theorem drop_any (w : World) (qb qo : Nat) (b : Nat) (m : Int) (es : List (Nat × Int)) (h : Hd w qb qo ((b, m) :: es)) (hq : Que w ((b, m) :: es)) (hs : es.length < 1000000000) :
    Calls Try.prog 26 #[.pointer (some ⟨qb, qo, none⟩)] w fun e w' => e = .returned (.tuple #[]) ∧ QOut w qb qo ((b, m) :: es) (es.map Prod.snd) w' := by
  match es with
  | [] => exact drop_one w qb qo b m h hq
  | (b2, m2) :: es => exact drop_more w qb qo b b2 m m2 es h hq (by simp at hs; omega)

end Go.Proofs.Ytkkmopcmilgdoaa
