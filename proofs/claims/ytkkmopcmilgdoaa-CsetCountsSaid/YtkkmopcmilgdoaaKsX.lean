/- The step of a set: the greatest count stays, or is gone, all others are one more: contracts.
   Conditions: the set is in memory, its counts are within the scope's. -/
import Derived.Test.YtkkmopcmilgdoaaKsS
namespace Go.Proofs.Ytkkmopcmilgdoaa
open Go.RowKit

/-- The first entry's mark is another. -/
theorem que_mark {w : World} {b : Nat} {m : Int} {es : List (Nat × Int)} (h : Que w ((b, m) :: es)) (m' : Int) : Que (w.setCell ⟨b, 0, none⟩ (.int .i64 m')) ((b, m') :: es) := by
  have hnd := h.nd
  rw [List.map_cons, List.nodup_cons] at hnd
  refine ⟨h.nd, fun i b' n hi => ?_⟩
  have hx : nx ((b, m') :: es) (i + 1) = nx ((b, m) :: es) (i + 1) := by unfold nx; simp
  rw [hx]
  match i with
  | 0 =>
    simp only [List.getElem?_cons_zero, Option.some.injEq, Prod.mk.injEq] at hi
    obtain ⟨rfl, rfl⟩ := hi
    have E := h.ent 0 b m rfl
    exact ⟨by simp [E.lt], set_same E.mrk _, by rw [set_other (.inr (by omega)), E.nxt], fun j => by simp [E.fz]⟩
  | i + 1 =>
    have E := h.ent (i + 1) b' n (by simpa using hi)
    exact E.keep (set_chg w b 0 (.int .i64 m')) (fun e => hnd.1 (e ▸ mem_at (by simpa using hi)))
theorem nx_mark (b : Nat) (m m' : Int) (es : List (Nat × Int)) (i : Nat) : nx ((b, m') :: es) i = nx ((b, m) :: es) i := by unfold nx; cases i <;> simp
theorem SetR.mark {w : World} {cb b : Nat} {lo hi cm st m : Int} {es : List (Nat × Int)} (h : SetR w cb lo hi cm ((b, m) :: es) st) (m' : Int) : SetR (w.setCell ⟨b, 0, none⟩ (.int .i64 m')) cb lo hi cm ((b, m') :: es) st := by
  have hne : b ≠ cb := fun e => h.hd.own (e ▸ mem_at (i := 0) rfl)
  have ho : ∀ j, (w.setCell ⟨b, 0, none⟩ (.int .i64 m')).cell? ⟨cb, j, none⟩ = w.cell? ⟨cb, j, none⟩ := fun j => set_other (.inl hne) _
  exact ⟨(ho 0).trans h.s0, (ho 1).trans h.s1, (ho 2).trans h.s2, (ho 6).trans h.s6, ⟨by simp [h.hd.lt], by rw [ho, h.hd.c0, nx_mark b m m'], by rw [ho, h.hd.c1, nx_mark b m m']; rfl, (ho 5).trans h.hd.c2, fun j => by simp [h.hd.fz], h.hd.own⟩, que_mark h.q m'⟩

/-- What stays: the oldest mark is one more; the one below may have come to it. -/
def stayM (m : Int) (ms : List Int) : List Int := if ms.head? = some (m + 1) then ms else (m + 1) :: ms
set_option maxHeartbeats 4000000 in
set_option maxRecDepth 100000 in
theorem stay_any (w : World) (cb b : Nat) (lo hi cm st m : Int) (es : List (Nat × Int)) (h : SetR w cb lo hi cm ((b, m) :: es) st) (hs : es.length < 1000000000) (hm : -10000000000 ≤ m ∧ m < 10000000000) :
    Calls Try.prog 27 #[.pointer (some ⟨cb, 0, none⟩), .pointer (some ⟨b, 0, none⟩)] w fun e w' => e = .returned (.tuple #[]) ∧ ∃ es', es'.map Prod.snd = stayM m (es.map Prod.snd) ∧ SetR w' cb lo hi cm es' st ∧ (∀ k, FP cb es' k → FP cb ((b, m) :: es) k ∨ w.heap.size ≤ k) ∧ Chg (FP cb ((b, m) :: es)) w w' := by
  have w1 : IntKind.i64.wrap (m + 1) = m + 1 := by rw [IntKind.wrap_i64]; omega
  have E := h.q.ent 0 _ _ rfl
  have e0 := E.mrk
  have e1 := E.nxt
  have f0 := E.fz 0
  have hlt2 := E.lt
  have hlt := h.hd.lt
  have hr := h.mark (m + 1)
  have hfp : ∀ k, FP cb ((b, m + 1) :: es) k → FP cb ((b, m) :: es) k := fun k hk => hk
  have hc : Chg (FP cb ((b, m) :: es)) w (w.setCell ⟨b, 0, none⟩ (.int .i64 (m + 1))) := (set_chg w b 0 _).mono fun x _ e => .inr (e ▸ mem_at (i := 0) rfl)
  match es, hs with
  | [], hs =>
    have H := Lib.hid (And.intro hr hc)
    clear hr hc h hfp
    simp only [nx, pe, Nat.zero_add, List.getElem?_cons_succ, List.getElem?_nil, Option.map_none] at e1
    go_enter Try.func27, Try.ntmps27
    go_wp2_with fail
    generalize w.setCell ⟨b, 0, none⟩ (.int .i64 (m + 1)) = wa at *
    go_quiet (fail)
    go_wp2_with fail
    exact bodyPost_end (results_none rfl _ _ _) rfl ⟨rfl, [(b, m + 1)], rfl, H.out.1.keep ((Chg.refl (fun _ => False) wa).drewN _) (fun _ _ => id), fun k hk => .inl hk, H.out.2.drewN _⟩
  | (b2, m2) :: es, hs =>
    have E2 := h.q.ent 1 _ _ rfl
    have e2 := E2.mrk
    have hlt3 := E2.lt
    have hnd := h.q.nd
    have hbb : b ≠ b2 := fun e => by subst e; simp at hnd
    simp only [nx, pe, Nat.zero_add, List.getElem?_cons_succ, List.getElem?_cons_zero, Option.map_some] at e1
    have H := Lib.hid (And.intro hr (And.intro hc hs))
    clear hr hc h hfp hs hnd
    by_cases g : m2 = m + 1
    · have g' : (m2 == m + 1) = true := by simp [g]
      go_enter Try.func27, Try.ntmps27
      go_wp2_with fail
      clear e0 e1 e2 hlt hlt2 hlt3
      generalize w.setCell ⟨b, 0, none⟩ (.int .i64 (m + 1)) = wa at *
      have e0 := (H.out.1.q.ent 0 _ _ rfl).mrk
      have e2 := (H.out.1.q.ent 1 _ _ rfl).mrk
      have hlt := H.out.1.hd.lt
      have hlt2 := (H.out.1.q.ent 0 _ _ rfl).lt
      have hlt3 := (H.out.1.q.ent 1 _ _ rfl).lt
      go_quiet (fail)
      rename_i nq
      have HB := Lib.hid (show SetR (wa.drewN nq) cb lo hi cm ((b, m + 1) :: (b2, m2) :: es) st ∧ Chg (FP cb ((b, m) :: (b2, m2) :: es)) w (wa.drewN nq) from ⟨H.out.1.keep ((Chg.refl (fun _ => False) wa).drewN _) (fun _ _ => id), H.out.2.1.drewN _⟩)
      generalize wa.drewN nq = wb at *
      have hlt := HB.out.1.hd.lt
      go_wp2_with fail
      go_at_call 26
      refine (drop_any wb cb 3 b (m + 1) ((b2, m2) :: es) HB.out.1.hd HB.out.1.q H.out.2.2).mono ?_
      rintro e w3 ⟨rfl, hq⟩
      obtain ⟨es', e1, hr, hf, hc⟩ := HB.out.1.out hq
      have H3 := Lib.hid (And.intro e1 (And.intro hr (And.intro hf hc)))
      clear e1 hr hf hc hq
      go_wp2_with fail
      refine bodyPost_end (results_none rfl _ _ _) rfl ⟨rfl, es', ?_, H3.out.2.1, fun k hk => ?_, ?_⟩
      · rw [H3.out.1, stayM, if_pos (by simp [g])]
      · have := HB.out.2.size
        rcases H3.out.2.2.1 k hk with h | h
        · exact .inl h
        · exact .inr (by omega)
      · exact HB.out.2.trans H3.out.2.2.2 fun x _ hx => hx
    · have g' : (m2 == m + 1) = false := by simp [g]
      go_enter Try.func27, Try.ntmps27
      go_wp2_with fail
      clear e0 e1 e2 hlt hlt2 hlt3
      generalize w.setCell ⟨b, 0, none⟩ (.int .i64 (m + 1)) = wa at *
      have e0 := (H.out.1.q.ent 0 _ _ rfl).mrk
      have e2 := (H.out.1.q.ent 1 _ _ rfl).mrk
      have hlt := H.out.1.hd.lt
      have hlt2 := (H.out.1.q.ent 0 _ _ rfl).lt
      have hlt3 := (H.out.1.q.ent 1 _ _ rfl).lt
      go_quiet (fail)
      go_wp2_with fail
      refine bodyPost_end (results_none rfl _ _ _) rfl ⟨rfl, (b, m + 1) :: (b2, m2) :: es, ?_, H.out.1.keep ((Chg.refl (fun _ => False) wa).drewN _) (fun _ _ => id), fun k hk => .inl hk, H.out.2.1.drewN _⟩
      rw [stayM, if_neg (by simp [g])]
      rfl

end Go.Proofs.Ytkkmopcmilgdoaa
