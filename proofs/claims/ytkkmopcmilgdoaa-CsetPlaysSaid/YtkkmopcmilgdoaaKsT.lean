/- Next of a set of counts: contracts.
   Conditions: the set is in memory, its counts are within the scope's. -/
import Derived.Test.YtkkmopcmilgdoaaKsX
namespace Go.Proofs.Ytkkmopcmilgdoaa
open Go.RowKit

/-- The counts behind Next, as they stand in a queue. -/
def nextQ (lo hi : Int) : List Int → List Int
  | [] => []
  | h :: t => if hi = -1 then (if lo ≤ h then (if (t.map (· + 1)).head? = some h then t.map (· + 1) else h :: t.map (· + 1)) else (h + 1) :: t.map (· + 1)) else if h = hi then t.map (· + 1) else (h + 1) :: t.map (· + 1)
theorem cts_next (cm : Int) (es : List (Nat × Int)) : es.map (fun p => cm + 1 - p.2) = (es.map (fun p => cm - p.2)).map (· + 1) := by
  rw [List.map_map]
  exact List.map_congr_left fun p _ => by simp only [Function.comp]; omega
theorem cts_snd (cm : Int) (es : List (Nat × Int)) : es.map (fun p => cm - p.2) = (es.map Prod.snd).map (fun x => cm - x) := by rw [List.map_map]; rfl

set_option maxHeartbeats 4000000 in
set_option maxRecDepth 100000 in
theorem next_none (w : World) (cb : Nat) (lo hi cm st : Int) (h : SetR w cb lo hi cm [] st) (hst : 0 ≤ st ∧ st < 1000000000000) :
    Calls Try.prog 12 #[.pointer (some ⟨cb, 0, none⟩)] w fun e w' => e = .returned (.tuple #[]) ∧ SetR w' cb lo hi cm [] (st + 1) ∧ Chg (FP cb []) w w' := by
  have c3 := h.hd.c0
  have c6 := h.s6
  have f6 := h.hd.fz 6
  have hlt := h.hd.lt
  have w1 : IntKind.i64.wrap (st + 1) = st + 1 := by rw [IntKind.wrap_i64]; omega
  simp only [nx, pe, List.getElem?_nil, Option.map_none] at c3
  have H := Lib.hid h
  clear h hst
  go_enter Try.func12, Try.ntmps12
  go_wp2_with fail
  exact bodyPost_ret (results_none rfl _ _ _) rfl ⟨rfl, H.out.set6 _, (set_chg _ _ _ _).mono fun x _ e => .inl e⟩
set_option maxHeartbeats 4000000 in
set_option maxRecDepth 100000 in
theorem next_drop (w : World) (cb b : Nat) (lo hi cm st m : Int) (es : List (Nat × Int)) (h : SetR w cb lo hi cm ((b, m) :: es) st) (hs : es.length < 1000000000) (hst : 0 ≤ st ∧ st < 1000000000000) (hcm : 0 ≤ cm ∧ cm < 1000000000) (hm : -10000000000 ≤ m ∧ m < 10000000000)
     (hp : ∀ W, Calls Try.prog 25 #[.agg #[.int .i64 lo, .int .i64 hi], .int .i64 (cm - m)] W fun e w' => e = .returned (.tuple #[.int .i64 0, .bool false]) ∧ Below W.heap.size W w') :
    Calls Try.prog 12 #[.pointer (some ⟨cb, 0, none⟩)] w fun e w' => e = .returned (.tuple #[]) ∧ ∃ es', es'.map Prod.snd = es.map Prod.snd ∧ SetR w' cb lo hi (cm + 1) es' (st + 2) ∧ (∀ k, FP cb es' k → FP cb ((b, m) :: es) k ∨ w.heap.size ≤ k) ∧ Chg (FP cb ((b, m) :: es)) w w' := by
  have c0 := h.s0
  have c1 := h.s1
  have c2 := h.s2
  have c3 := h.hd.c0
  have c6 := h.s6
  have f2 := h.hd.fz 2
  have f6 := h.hd.fz 6
  have hlt := h.hd.lt
  have E := h.q.ent 0 _ _ rfl
  have e0 := E.mrk
  have hlt2 := E.lt
  have hne : b ≠ cb := fun e => h.hd.own (e ▸ mem_at (i := 0) rfl)
  have w1 : IntKind.i64.wrap (st + 1) = st + 1 := by rw [IntKind.wrap_i64]; omega
  have w2 : IntKind.i64.wrap (st + 1 + 1) = st + 1 + 1 := by rw [IntKind.wrap_i64]; omega
  have w3 : IntKind.i64.wrap (cm - m) = cm - m := by rw [IntKind.wrap_i64]; omega
  have w4 : IntKind.i64.wrap (cm + 1) = cm + 1 := by rw [IntKind.wrap_i64]; omega
  simp only [nx, pe, List.getElem?_cons_zero, Option.map_some] at c3
  have hr := (h.set6 (st + 1)).set6 (st + 1 + 1)
  have hc : Chg (FP cb ((b, m) :: es)) w ((w.setCell ⟨cb, 6, none⟩ (.int .i64 (st + 1))).setCell ⟨cb, 6, none⟩ (.int .i64 (st + 1 + 1))) := ((Chg.refl (FP cb ((b, m) :: es)) w).setCell (p := ⟨cb, 6, none⟩) (fun _ => .inl rfl) _).setCell (p := ⟨cb, 6, none⟩) (fun _ => .inl rfl) _
  have H := Lib.hid (And.intro hr (And.intro hc (And.intro hs hm)))
  have HP := Lib.hid hp
  clear hr hc h hs hp hst hcm hm E
  go_enter Try.func12, Try.ntmps12
  go_wp2_with fail
  clear c0 c1 c2 c3 c6 f2 f6 e0 hlt hlt2 w1 w2
  generalize (w.setCell ⟨cb, 6, none⟩ (.int .i64 (st + 1))).setCell ⟨cb, 6, none⟩ (.int .i64 (st + 1 + 1)) = wa at *
  have c2 := H.out.1.s2
  have hlt := H.out.1.hd.lt
  have e0 := (H.out.1.q.ent 0 _ _ rfl).mrk
  have hlt2 := (H.out.1.q.ent 0 _ _ rfl).lt
  go_quiet (fail)
  rename_i nq
  have HB := Lib.hid (show SetR (wa.drewN nq) cb lo hi cm ((b, m) :: es) (st + 1 + 1) ∧ Chg (FP cb ((b, m) :: es)) w (wa.drewN nq) from ⟨H.out.1.keep ((Chg.refl (fun _ => False) wa).drewN _) (fun _ _ => id), H.out.2.1.drewN _⟩)
  clear c2 hlt e0 hlt2
  generalize wa.drewN nq = wb at *
  have c0 := HB.out.1.s0
  have c1 := HB.out.1.s1
  have hlt := HB.out.1.hd.lt
  go_wp2_with fail
  go_at_call 25
  refine (HP.out wb).mono ?_
  rintro e wc ⟨rfl, hbc⟩
  have HC := Lib.hid (show SetR wc cb lo hi cm ((b, m) :: es) (st + 1 + 1) ∧ Chg (FP cb ((b, m) :: es)) w wc from ⟨HB.out.1.keep (Chg.of_below (R := fun _ => False) hbc) (fun _ _ => id), HB.out.2.trans (Chg.of_below (R := fun _ => False) hbc) fun _ _ e => e.elim⟩)
  clear hbc c0 c1 hlt
  have c2 := HC.out.1.s2
  have f2 := HC.out.1.hd.fz 2
  have hlt := HC.out.1.hd.lt
  go_wp2_with fail
  go_at_call 26
  have HD := Lib.hid (show SetR (wc.setCell ⟨cb, 2, none⟩ (.int .i64 (cm + 1))) cb lo hi (cm + 1) ((b, m) :: es) (st + 1 + 1) ∧ Chg (FP cb ((b, m) :: es)) w (wc.setCell ⟨cb, 2, none⟩ (.int .i64 (cm + 1))) from ⟨HC.out.1.set2 _, HC.out.2.setCell (p := ⟨cb, 2, none⟩) (fun _ => .inl rfl) _⟩)
  clear c2 f2 hlt
  generalize wc.setCell ⟨cb, 2, none⟩ (.int .i64 (cm + 1)) = wd at *
  refine (drop_any wd cb 3 b m es HD.out.1.hd HD.out.1.q H.out.2.2.1).mono ?_
  rintro e w5 ⟨rfl, hq⟩
  obtain ⟨es', e1, hr, hf, hc⟩ := HD.out.1.out hq
  have H3 := Lib.hid (And.intro e1 (And.intro hr (And.intro hf hc)))
  clear e1 hr hf hc hq
  go_wp2_with fail
  refine bodyPost_end (results_none rfl _ _ _) rfl ⟨rfl, es', H3.out.1, ?_, fun k hk => ?_, ?_⟩
  · rw [show st + 2 = st + 1 + 1 by omega]
    exact H3.out.2.1
  · have := HD.out.2.size
    rcases H3.out.2.2.1 k hk with h | h
    · exact .inl h
    · exact .inr (by omega)
  · exact HD.out.2.trans H3.out.2.2.2 fun x _ hx => hx
set_option maxHeartbeats 4000000 in
set_option maxRecDepth 100000 in
theorem next_plain (w : World) (cb b : Nat) (lo hi cm st m : Int) (es : List (Nat × Int)) (h : SetR w cb lo hi cm ((b, m) :: es) st) (hs : es.length < 1000000000) (hst : 0 ≤ st ∧ st < 1000000000000) (hcm : 0 ≤ cm ∧ cm < 1000000000) (hm : -10000000000 ≤ m ∧ m < 10000000000)
    (n : Int) (hn : ¬ n = cm - m) (hp : ∀ W, Calls Try.prog 25 #[.agg #[.int .i64 lo, .int .i64 hi], .int .i64 (cm - m)] W fun e w' => e = .returned (.tuple #[.int .i64 n, .bool true]) ∧ Below W.heap.size W w') :
    Calls Try.prog 12 #[.pointer (some ⟨cb, 0, none⟩)] w fun e w' => e = .returned (.tuple #[]) ∧ ∃ es', es'.map Prod.snd = m :: es.map Prod.snd ∧ SetR w' cb lo hi (cm + 1) es' (st + 2) ∧ (∀ k, FP cb es' k → FP cb ((b, m) :: es) k ∨ w.heap.size ≤ k) ∧ Chg (FP cb ((b, m) :: es)) w w' := by
  have c0 := h.s0
  have c1 := h.s1
  have c2 := h.s2
  have c3 := h.hd.c0
  have c6 := h.s6
  have f2 := h.hd.fz 2
  have f6 := h.hd.fz 6
  have hlt := h.hd.lt
  have E := h.q.ent 0 _ _ rfl
  have e0 := E.mrk
  have hlt2 := E.lt
  have hne : b ≠ cb := fun e => h.hd.own (e ▸ mem_at (i := 0) rfl)
  have w1 : IntKind.i64.wrap (st + 1) = st + 1 := by rw [IntKind.wrap_i64]; omega
  have w2 : IntKind.i64.wrap (st + 1 + 1) = st + 1 + 1 := by rw [IntKind.wrap_i64]; omega
  have w3 : IntKind.i64.wrap (cm - m) = cm - m := by rw [IntKind.wrap_i64]; omega
  have w4 : IntKind.i64.wrap (cm + 1) = cm + 1 := by rw [IntKind.wrap_i64]; omega
  simp only [nx, pe, List.getElem?_cons_zero, Option.map_some] at c3
  have hr := (h.set6 (st + 1)).set6 (st + 1 + 1)
  have hc : Chg (FP cb ((b, m) :: es)) w ((w.setCell ⟨cb, 6, none⟩ (.int .i64 (st + 1))).setCell ⟨cb, 6, none⟩ (.int .i64 (st + 1 + 1))) := ((Chg.refl (FP cb ((b, m) :: es)) w).setCell (p := ⟨cb, 6, none⟩) (fun _ => .inl rfl) _).setCell (p := ⟨cb, 6, none⟩) (fun _ => .inl rfl) _
  have H := Lib.hid (And.intro hr (And.intro hc (And.intro hs hm)))
  have HP := Lib.hid hp
  clear hr hc h hs hp hst hcm hm E
  go_enter Try.func12, Try.ntmps12
  go_wp2_with fail
  clear c0 c1 c2 c3 c6 f2 f6 e0 hlt hlt2 w1 w2
  generalize (w.setCell ⟨cb, 6, none⟩ (.int .i64 (st + 1))).setCell ⟨cb, 6, none⟩ (.int .i64 (st + 1 + 1)) = wa at *
  have c2 := H.out.1.s2
  have hlt := H.out.1.hd.lt
  have e0 := (H.out.1.q.ent 0 _ _ rfl).mrk
  have hlt2 := (H.out.1.q.ent 0 _ _ rfl).lt
  go_quiet (fail)
  rename_i nq
  have HB := Lib.hid (show SetR (wa.drewN nq) cb lo hi cm ((b, m) :: es) (st + 1 + 1) ∧ Chg (FP cb ((b, m) :: es)) w (wa.drewN nq) from ⟨H.out.1.keep ((Chg.refl (fun _ => False) wa).drewN _) (fun _ _ => id), H.out.2.1.drewN _⟩)
  clear c2 hlt e0 hlt2
  generalize wa.drewN nq = wb at *
  have c0 := HB.out.1.s0
  have c1 := HB.out.1.s1
  have hlt := HB.out.1.hd.lt
  go_wp2_with fail
  go_at_call 25
  refine (HP.out wb).mono ?_
  rintro e wc ⟨rfl, hbc⟩
  have HC := Lib.hid (show SetR wc cb lo hi cm ((b, m) :: es) (st + 1 + 1) ∧ Chg (FP cb ((b, m) :: es)) w wc from ⟨HB.out.1.keep (Chg.of_below (R := fun _ => False) hbc) (fun _ _ => id), HB.out.2.trans (Chg.of_below (R := fun _ => False) hbc) fun _ _ e => e.elim⟩)
  clear hbc c0 c1 hlt
  have c2 := HC.out.1.s2
  have f2 := HC.out.1.hd.fz 2
  have hlt := HC.out.1.hd.lt
  go_wp2_with fail
  refine bodyPost_end (results_none rfl _ _ _) rfl ⟨rfl, (b, m) :: es, rfl, ?_, fun k hk => .inl hk, HC.out.2.setCell (p := ⟨cb, 2, none⟩) (fun _ => .inl rfl) _⟩
  have h2 := HC.out.1.set2 (cm + 1)
  rw [show st + 1 + 1 = st + 2 by omega] at h2
  exact h2
set_option maxHeartbeats 4000000 in
set_option maxRecDepth 100000 in
theorem next_stay (w : World) (cb b : Nat) (lo hi cm st m : Int) (es : List (Nat × Int)) (h : SetR w cb lo hi cm ((b, m) :: es) st) (hs : es.length < 1000000000) (hst : 0 ≤ st ∧ st < 1000000000000) (hcm : 0 ≤ cm ∧ cm < 1000000000) (hm : -10000000000 ≤ m ∧ m < 10000000000)
     (hp : ∀ W, Calls Try.prog 25 #[.agg #[.int .i64 lo, .int .i64 hi], .int .i64 (cm - m)] W fun e w' => e = .returned (.tuple #[.int .i64 (cm - m), .bool true]) ∧ Below W.heap.size W w') :
    Calls Try.prog 12 #[.pointer (some ⟨cb, 0, none⟩)] w fun e w' => e = .returned (.tuple #[]) ∧ ∃ es', es'.map Prod.snd = stayM m (es.map Prod.snd) ∧ SetR w' cb lo hi (cm + 1) es' (st + 2) ∧ (∀ k, FP cb es' k → FP cb ((b, m) :: es) k ∨ w.heap.size ≤ k) ∧ Chg (FP cb ((b, m) :: es)) w w' := by
  have c0 := h.s0
  have c1 := h.s1
  have c2 := h.s2
  have c3 := h.hd.c0
  have c6 := h.s6
  have f2 := h.hd.fz 2
  have f6 := h.hd.fz 6
  have hlt := h.hd.lt
  have E := h.q.ent 0 _ _ rfl
  have e0 := E.mrk
  have hlt2 := E.lt
  have hne : b ≠ cb := fun e => h.hd.own (e ▸ mem_at (i := 0) rfl)
  have w1 : IntKind.i64.wrap (st + 1) = st + 1 := by rw [IntKind.wrap_i64]; omega
  have w2 : IntKind.i64.wrap (st + 1 + 1) = st + 1 + 1 := by rw [IntKind.wrap_i64]; omega
  have w3 : IntKind.i64.wrap (cm - m) = cm - m := by rw [IntKind.wrap_i64]; omega
  have w4 : IntKind.i64.wrap (cm + 1) = cm + 1 := by rw [IntKind.wrap_i64]; omega
  simp only [nx, pe, List.getElem?_cons_zero, Option.map_some] at c3
  have hr := (h.set6 (st + 1)).set6 (st + 1 + 1)
  have hc : Chg (FP cb ((b, m) :: es)) w ((w.setCell ⟨cb, 6, none⟩ (.int .i64 (st + 1))).setCell ⟨cb, 6, none⟩ (.int .i64 (st + 1 + 1))) := ((Chg.refl (FP cb ((b, m) :: es)) w).setCell (p := ⟨cb, 6, none⟩) (fun _ => .inl rfl) _).setCell (p := ⟨cb, 6, none⟩) (fun _ => .inl rfl) _
  have H := Lib.hid (And.intro hr (And.intro hc (And.intro hs hm)))
  have HP := Lib.hid hp
  clear hr hc h hs hp hst hcm hm E
  go_enter Try.func12, Try.ntmps12
  go_wp2_with fail
  clear c0 c1 c2 c3 c6 f2 f6 e0 hlt hlt2 w1 w2
  generalize (w.setCell ⟨cb, 6, none⟩ (.int .i64 (st + 1))).setCell ⟨cb, 6, none⟩ (.int .i64 (st + 1 + 1)) = wa at *
  have c2 := H.out.1.s2
  have hlt := H.out.1.hd.lt
  have e0 := (H.out.1.q.ent 0 _ _ rfl).mrk
  have hlt2 := (H.out.1.q.ent 0 _ _ rfl).lt
  go_quiet (fail)
  rename_i nq
  have HB := Lib.hid (show SetR (wa.drewN nq) cb lo hi cm ((b, m) :: es) (st + 1 + 1) ∧ Chg (FP cb ((b, m) :: es)) w (wa.drewN nq) from ⟨H.out.1.keep ((Chg.refl (fun _ => False) wa).drewN _) (fun _ _ => id), H.out.2.1.drewN _⟩)
  clear c2 hlt e0 hlt2
  generalize wa.drewN nq = wb at *
  have c0 := HB.out.1.s0
  have c1 := HB.out.1.s1
  have hlt := HB.out.1.hd.lt
  go_wp2_with fail
  go_at_call 25
  refine (HP.out wb).mono ?_
  rintro e wc ⟨rfl, hbc⟩
  have HC := Lib.hid (show SetR wc cb lo hi cm ((b, m) :: es) (st + 1 + 1) ∧ Chg (FP cb ((b, m) :: es)) w wc from ⟨HB.out.1.keep (Chg.of_below (R := fun _ => False) hbc) (fun _ _ => id), HB.out.2.trans (Chg.of_below (R := fun _ => False) hbc) fun _ _ e => e.elim⟩)
  clear hbc c0 c1 hlt
  have c2 := HC.out.1.s2
  have f2 := HC.out.1.hd.fz 2
  have hlt := HC.out.1.hd.lt
  go_wp2_with fail
  go_at_call 27
  have HD := Lib.hid (show SetR (wc.setCell ⟨cb, 2, none⟩ (.int .i64 (cm + 1))) cb lo hi (cm + 1) ((b, m) :: es) (st + 1 + 1) ∧ Chg (FP cb ((b, m) :: es)) w (wc.setCell ⟨cb, 2, none⟩ (.int .i64 (cm + 1))) from ⟨HC.out.1.set2 _, HC.out.2.setCell (p := ⟨cb, 2, none⟩) (fun _ => .inl rfl) _⟩)
  clear c2 f2 hlt
  generalize wc.setCell ⟨cb, 2, none⟩ (.int .i64 (cm + 1)) = wd at *
  refine (stay_any wd cb b lo hi (cm + 1) (st + 1 + 1) m es HD.out.1 H.out.2.2.1 H.out.2.2.2).mono ?_
  rintro e w5 ⟨rfl, es', e1, hr, hf, hc⟩
  have H3 := Lib.hid (And.intro e1 (And.intro hr (And.intro hf hc)))
  clear e1 hr hf hc
  go_wp2_with fail
  refine bodyPost_end (results_none rfl _ _ _) rfl ⟨rfl, es', H3.out.1, ?_, fun k hk => ?_, ?_⟩
  · rw [show st + 2 = st + 1 + 1 by omega]
    exact H3.out.2.1
  · have := HD.out.2.size
    rcases H3.out.2.2.1 k hk with h | h
    · exact .inl h
    · exact .inr (by omega)
  · exact HD.out.2.trans H3.out.2.2.2 fun x _ hx => hx

theorem next_any (w : World) (cb : Nat) (lo hi cm st : Int) (L : List Int) (G : Nat → Prop) (h : SetC w cb lo hi L cm st G) (hS : ScOk lo hi) (hC : Cok lo hi L) (hL : L.length < 1000000000) (hcm : 0 ≤ cm ∧ cm < 1000000000) (hst : 0 ≤ st ∧ st < 1000000000000) :
    Calls Try.prog 12 #[.pointer (some ⟨cb, 0, none⟩)] w fun e w' => e = .returned (.tuple #[]) ∧ ∃ cm' st', cm ≤ cm' ∧ cm' ≤ cm + 1 ∧ st ≤ st' ∧ st' ≤ st + 2 ∧ SetC w' cb lo hi (nextQ lo hi L) cm' st' (fun k => G k ∨ w.heap.size ≤ k) ∧ Chg G w w' := by
  obtain ⟨es, hr, rfl, hG⟩ := h
  rw [List.length_map] at hL
  have htop := hS.top
  match es, hr, hC, hG, hL with
  | [], hr, hC, hG, hL =>
    refine (next_none w cb lo hi cm st hr hst).mono ?_
    rintro e w' ⟨rfl, h1, h2⟩
    exact ⟨rfl, cm, st + 1, by omega, by omega, by omega, by omega, ⟨[], h1, rfl, fun k hk => .inl (hG k hk)⟩, h2.mono fun x _ hx => hG x hx⟩
  | (b, m) :: es, hr, hC, hG, hL =>
    have hb := hC.2 (cm - m) (by simp)
    have hs : es.length < 1000000000 := by simp at hL; omega
    have fin : ∀ (e : Ending) (w' : World) (ms : List Int), ms.map (fun x => cm + 1 - x) = nextQ lo hi (((b, m) :: es).map (fun p => cm - p.2)) → (e = .returned (.tuple #[]) ∧ ∃ es', es'.map Prod.snd = ms ∧ SetR w' cb lo hi (cm + 1) es' (st + 2) ∧ (∀ k, FP cb es' k → FP cb ((b, m) :: es) k ∨ w.heap.size ≤ k) ∧ Chg (FP cb ((b, m) :: es)) w w') →
        e = .returned (.tuple #[]) ∧ ∃ cm' st', cm ≤ cm' ∧ cm' ≤ cm + 1 ∧ st ≤ st' ∧ st' ≤ st + 2 ∧ SetC w' cb lo hi (nextQ lo hi (((b, m) :: es).map (fun p => cm - p.2))) cm' st' (fun k => G k ∨ w.heap.size ≤ k) ∧ Chg G w w' := by
      rintro e w' ms hms ⟨rfl, es', h1, h2, h3, h4⟩
      refine ⟨rfl, cm + 1, st + 2, by omega, by omega, by omega, by omega, ⟨es', h2, ?_, fun k hk => ?_⟩, h4.mono fun x _ hx => hG x hx⟩
      · rw [← hms, cts_snd, h1]
      · rcases h3 k hk with h | h
        · exact .inl (hG k h)
        · exact .inr h
    have hp : ∀ W, Calls Try.prog 25 #[.agg #[.int .i64 lo, .int .i64 hi], .int .i64 (cm - m)] W _ := fun W => pnext_any lo hi (cm - m) W (by omega) (by omega)
    have hcons : ((b, m) :: es).map (fun p => cm - p.2) = (cm - m) :: es.map (fun p => cm - p.2) := rfl
    have htail : (es.map Prod.snd).map (fun x => cm + 1 - x) = (es.map (fun p => cm - p.2)).map (· + 1) := by rw [← cts_next, cts_snd]
    obtain ⟨h1, h2, h3⟩ := hS
    have ht : topC lo hi = if hi < 0 then lo else hi := rfl
    by_cases g : hi = -1
    · rw [if_pos (by omega)] at ht
      by_cases g2 : lo ≤ cm - m
      · have e1 : lo = cm - m := by omega
        have hp' : ∀ W, Calls Try.prog 25 #[.agg #[.int .i64 lo, .int .i64 hi], .int .i64 (cm - m)] W fun e w' => e = .returned (.tuple #[.int .i64 (cm - m), .bool true]) ∧ Below W.heap.size W w' := fun W => (hp W).mono (by
          rintro e w' ⟨rfl, hb'⟩
          rw [if_neg (by omega), if_pos ⟨g2, g⟩, ← e1]
          exact ⟨rfl, hb'⟩)
        refine (next_stay w cb b lo hi cm st m es hr hs hst hcm (by omega) hp').mono fun e w' h => fin e w' _ ?_ h
        rw [hcons, nextQ, if_pos g, if_pos g2, stayM, ← htail]
        have hh : ((es.map Prod.snd).map (fun x => cm + 1 - x)).head? = some (cm - m) ↔ (es.map Prod.snd).head? = some (m + 1) := by
          rw [List.head?_map]
          cases (es.map Prod.snd).head? with
          | none => simp
          | some x => simp; omega
        by_cases g3 : (es.map Prod.snd).head? = some (m + 1)
        · rw [if_pos g3, if_pos (hh.2 g3)]
        · rw [if_neg g3, if_neg (fun e => g3 (hh.1 e)), List.map_cons, show cm + 1 - (m + 1) = cm - m by omega]
      · have hp' : ∀ W, Calls Try.prog 25 #[.agg #[.int .i64 lo, .int .i64 hi], .int .i64 (cm - m)] W fun e w' => e = .returned (.tuple #[.int .i64 (cm - m + 1), .bool true]) ∧ Below W.heap.size W w' := fun W => (hp W).mono (by
          rintro e w' ⟨rfl, hb'⟩
          rw [if_neg (by omega), if_neg (by omega)]
          exact ⟨rfl, hb'⟩)
        refine (next_plain w cb b lo hi cm st m es hr hs hst hcm (by omega) (cm - m + 1) (by omega) hp').mono fun e w' h => fin e w' _ ?_ h
        rw [hcons, nextQ, if_pos g, if_neg g2, List.map_cons, htail, show cm + 1 - m = cm - m + 1 by omega]
    · rw [if_neg (by omega)] at ht
      by_cases g2 : cm - m = hi
      · have hp' : ∀ W, Calls Try.prog 25 #[.agg #[.int .i64 lo, .int .i64 hi], .int .i64 (cm - m)] W fun e w' => e = .returned (.tuple #[.int .i64 0, .bool false]) ∧ Below W.heap.size W w' := fun W => (hp W).mono (by
          rintro e w' ⟨rfl, hb'⟩
          rw [if_pos (.inl g2)]
          exact ⟨rfl, hb'⟩)
        refine (next_drop w cb b lo hi cm st m es hr hs hst hcm (by omega) hp').mono fun e w' h => fin e w' _ ?_ h
        rw [hcons, nextQ, if_neg g, if_pos g2, htail]
      · have hp' : ∀ W, Calls Try.prog 25 #[.agg #[.int .i64 lo, .int .i64 hi], .int .i64 (cm - m)] W fun e w' => e = .returned (.tuple #[.int .i64 (cm - m + 1), .bool true]) ∧ Below W.heap.size W w' := fun W => (hp W).mono (by
          rintro e w' ⟨rfl, hb'⟩
          rw [if_neg (by omega), if_neg (by omega)]
          exact ⟨rfl, hb'⟩)
        refine (next_plain w cb b lo hi cm st m es hr hs hst hcm (by omega) (cm - m + 1) (by omega) hp').mono fun e w' h => fin e w' _ ?_ h
        rw [hcons, nextQ, if_neg g, if_neg g2, List.map_cons, htail, show cm + 1 - m = cm - m + 1 by omega]

end Go.Proofs.Ytkkmopcmilgdoaa
