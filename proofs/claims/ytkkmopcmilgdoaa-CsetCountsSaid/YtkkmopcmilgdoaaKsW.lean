/- Merge of two sets of counts of one scope: contracts.
   Conditions: the sets are in memory and apart, their counts are within the scope's. -/
import Derived.Test.YtkkmopcmilgdoaaKsV
namespace Go.Proofs.Ytkkmopcmilgdoaa
open Go.RowKit

/-- The marks of two queues, put behind others by their order. -/
def mergeM : List Int → List Int → List Int → List Int
  | acc, [], [] => acc
  | acc, x :: a, [] => mergeM (putM acc x) a []
  | acc, [], y :: b => mergeM (putM acc y) [] b
  | acc, x :: a, y :: b => if x < y then mergeM (putM acc x) a (y :: b) else mergeM (putM acc y) (x :: a) b
termination_by _ a b => a.length + b.length
/-- What there is ahead of a round of Merge. -/
structure Mg (w : World) (cb : Nat) (lo hi cm sh st : Int) (es ds os : List (Nat × Int)) (i j : Nat) (wr : World) : Prop where
  ki : i ≤ es.length
  kj : j ≤ ds.length
  ho : os.length ≤ i + j
  q : Que wr os
  hd : Hd wr w.heap.size 0 os
  new : ∀ b ∈ os.map Prod.fst, w.heap.size ≤ b
  eq : mergeM (os.map Prod.snd) ((es.map Prod.snd).drop i) ((ds.map fun p => p.2 + sh).drop j) = mergeM [] (es.map Prod.snd) (ds.map fun p => p.2 + sh)
  set : SetR wr cb lo hi cm es (st + 1 + ((i + j : Nat) : Int))
  chg : Chg (fun k => k = cb) w wr
def MgI (w : World) (cb : Nat) (lo hi cm sh st : Int) (es ds : List (Nat × Int)) (n : Nat) (x y : Value) (wr : World) : Prop :=
  ∃ (i j : Nat) (os : List (Nat × Int)), x = pe (nx es i) ∧ y = pe (nx ds j) ∧ n = (es.length - i) + (ds.length - j) ∧ Mg w cb lo hi cm sh st es ds os i j wr
theorem Mg.drewN {w wr : World} {cb i j : Nat} {lo hi cm sh st : Int} {es ds os : List (Nat × Int)} (h : Mg w cb lo hi cm sh st es ds os i j wr) (n : Nat) : Mg w cb lo hi cm sh st es ds os i j (wr.drewN n) :=
  have c := (Chg.refl (fun _ => False) wr).drewN n
  ⟨h.ki, h.kj, h.ho, h.q.keep c (fun _ _ => id), h.hd.keep c id, h.new, h.eq, h.set.keep c (fun _ _ => id), h.chg.drewN n⟩
theorem putM_len (l : List Int) (m : Int) : (putM l m).length ≤ l.length + 1 := by
  unfold putM
  split <;> simp
/-- One mark more is put. -/
theorem Mg.step {w wr w2 w3 : World} {cb i j i' j' : Nat} {lo hi cm sh st v : Int} {es ds os : List (Nat × Int)} (h : Mg w cb lo hi cm sh st es ds os i j wr) (hs : SetR w cb lo hi cm es st)
    (h2 : SetR w2 cb lo hi cm es (st + 1 + ((i + j : Nat) : Int) + 1)) (hc : Chg (fun k => k = cb) w w2) (ho : QOut w2 w.heap.size 0 os (putM (os.map Prod.snd) v) w3) (hij : i' + j' = i + j + 1) (hi' : i' ≤ es.length) (hj' : j' ≤ ds.length)
    (heq : mergeM (putM (os.map Prod.snd) v) ((es.map Prod.snd).drop i') ((ds.map fun p => p.2 + sh).drop j') = mergeM (os.map Prod.snd) ((es.map Prod.snd).drop i) ((ds.map fun p => p.2 + sh).drop j)) :
    ∃ os', Mg w cb lo hi cm sh st es ds os' i' j' w3 := by
  obtain ⟨os', e1, hq, hh, hf, hcc, _⟩ := ho
  have hR : ∀ k, k < w.heap.size → ¬ (k = w.heap.size ∨ k ∈ os.map Prod.fst) := fun k hk e => by
    rcases e with e | e
    · omega
    · have := h.new k e
      omega
  refine ⟨os', hi', hj', ?_, hq, hh, fun b hb => ?_, by rw [e1, heq, h.eq], ?_, hc.trans hcc fun x hx e => absurd e (hR x hx)⟩
  · have e2 := congrArg List.length e1
    have := putM_len (os.map Prod.snd) v
    have h3 := h.ho
    simp only [List.length_map] at e2 this
    omega
  · rcases hf b hb with h1 | h1
    · exact h.new b h1
    · have := hc.size
      omega
  · have := h2.keep hcc fun k hk => hR k (hs.fp_lt hk)
    rw [show st + 1 + ((i' + j' : Nat) : Int) = st + 1 + ((i + j : Nat) : Int) + 1 by omega]
    exact this

set_option maxHeartbeats 4000000 in
set_option maxRecDepth 100000 in
theorem mergeR_any (w : World) (cb db : Nat) (lo hi cm st dm dt : Int) (es ds : List (Nat × Int)) (h : SetR w cb lo hi cm es st) (hd : SetR w db lo hi dm ds dt) (hne : ¬ FP db ds cb) (hL : es.length < 1000000 ∧ ds.length < 1000000) (hcm : 0 ≤ cm ∧ cm < 1000000000) (hdm : 0 ≤ dm ∧ dm < 1000000000) (hst : 0 ≤ st ∧ st < 1000000000000)
    (hme : ∀ p ∈ es, -10000000000 ≤ p.2 ∧ p.2 < 10000000000) (hmd : ∀ p ∈ ds, -10000000000 ≤ p.2 ∧ p.2 < 10000000000) :
    Calls Try.prog 18 #[.pointer (some ⟨cb, 0, none⟩), .pointer (some ⟨db, 0, none⟩)] w fun e w' => e = .returned (.tuple #[]) ∧ ∃ os, os.map Prod.snd = mergeM [] (es.map Prod.snd) (ds.map fun p => p.2 + (cm - dm)) ∧ SetR w' cb lo hi cm os (st + 1 + ((es.length + ds.length : Nat) : Int)) ∧ (∀ b ∈ os.map Prod.fst, w.heap.size ≤ b) ∧ Chg (fun k => k = cb) w w' := by
  have hcd : cb ≠ db := fun e => hne (.inl e)
  have hwe : ∀ {b j : Nat} (v : Value), b ≠ cb → (w.setCell ⟨cb, 6, none⟩ v).cell? ⟨b, j, none⟩ = w.cell? ⟨b, j, none⟩ := fun v hb => set_other (.inl fun e => hb e.symm) v
  have c0 := h.s0
  have c1 := h.s1
  have c2 := h.s2
  have c3 := h.hd.c0
  have c6 := h.s6
  have f6 := h.hd.fz 6
  have d0 := hd.s0
  have d1 := hd.s1
  have d2 := hd.s2
  have d3 := hd.hd.c0
  have hlt := h.hd.lt
  have hlt2 := hd.hd.lt
  have w1 : IntKind.i64.wrap (st + 1) = st + 1 := by rw [IntKind.wrap_i64]; omega
  have w2 : IntKind.i64.wrap (cm - dm) = cm - dm := by rw [IntKind.wrap_i64]; omega
  have H := Lib.hid (And.intro h (And.intro hd (And.intro hne hL)))
  clear h hd hne hwe
  go_enter Try.func18, Try.ntmps18
  go_wp2_with fail
  have H1 := Lib.hid (show SetR (w.setCell ⟨cb, 6, none⟩ (.int .i64 (st + 1))) cb lo hi cm es (st + 1) ∧ SetR (w.setCell ⟨cb, 6, none⟩ (.int .i64 (st + 1))) db lo hi dm ds dt ∧ Chg (fun k => k = cb) w (w.setCell ⟨cb, 6, none⟩ (.int .i64 (st + 1))) ∧ (w.setCell ⟨cb, 6, none⟩ (.int .i64 (st + 1))).heap.size = w.heap.size from
    ⟨H.out.1.set6 _, H.out.2.1.keep (set_chg _ _ _ _) (fun k hk e => H.out.2.2.1 (e ▸ hk)), set_chg _ _ _ _, by simp⟩)
  clear c0 c1 c2 c3 c6 f6 d0 d1 d2 d3 hlt hlt2 w1
  generalize w.setCell ⟨cb, 6, none⟩ (.int .i64 (st + 1)) = wa at *
  have c0 := H1.out.1.s0
  have c1 := H1.out.1.s1
  have d0 := H1.out.2.1.s0
  have d1 := H1.out.2.1.s1
  have hlt := H1.out.1.hd.lt
  have hlt2 := H1.out.2.1.hd.lt
  go_quiet (fail)
  rename_i nq
  have H2 := Lib.hid (show SetR (wa.drewN nq) cb lo hi cm es (st + 1) ∧ SetR (wa.drewN nq) db lo hi dm ds dt ∧ Chg (fun k => k = cb) w (wa.drewN nq) ∧ (wa.drewN nq).heap.size = w.heap.size from
    ⟨H1.out.1.keep ((Chg.refl (fun _ => False) wa).drewN _) (fun _ _ => id), H1.out.2.1.keep ((Chg.refl (fun _ => False) wa).drewN _) (fun _ _ => id), H1.out.2.2.1.drewN _, H1.out.2.2.2⟩)
  clear c0 c1 d0 d1 hlt hlt2 H1
  generalize wa.drewN nq = wb at *
  clear wa nq
  go_upto_region 3 with fail
  have H3 := Lib.hid (show SetR (wb.alloc qz) cb lo hi cm es (st + 1) ∧ SetR (wb.alloc qz) db lo hi dm ds dt ∧ Chg (fun k => k = cb) w (wb.alloc qz) ∧ (wb.alloc qz).heap[w.heap.size]? = some qz from
    ⟨H2.out.1.keep ((Chg.refl (fun _ => False) wb).alloc _) (fun _ _ => id), H2.out.2.1.keep ((Chg.refl (fun _ => False) wb).alloc _) (fun _ _ => id), H2.out.2.2.1.alloc _, by rw [← H2.out.2.2.2]; exact heap_alloc_new wb _⟩)
  have hsw := H2.out.2.2.2
  rw [hsw]
  clear H2 hsw
  generalize wb.alloc qz = wc at *
  clear wb
  have c2 := H3.out.1.s2
  have c3 := H3.out.1.hd.c0
  have d2 := H3.out.2.1.s2
  have d3 := H3.out.2.1.hd.c0
  have hlt := H3.out.1.hd.lt
  have hlt2 := H3.out.2.1.hd.lt
  obtain ⟨x0, hx0⟩ : ∃ x0, x0 = pe (nx es 0) := ⟨_, rfl⟩
  obtain ⟨y0, hy0⟩ : ∃ y0, y0 = pe (nx ds 0) := ⟨_, rfl⟩
  rw [← hx0] at c3
  rw [← hy0] at d3
  have HX := Lib.hid (And.intro hx0 hy0)
  clear hx0 hy0
  go_quiet (fail)
  rename Nat => nq1
  go_wp2_with fail
  go_quiet (fail)
  rename Nat => nq2
  have H4 := Lib.hid (show MgI w cb lo hi cm (cm - dm) st es ds (es.length + ds.length) x0 y0 ((wc.drewN nq1).drewN nq2) from ⟨0, 0, [], HX.out.1, HX.out.2, by omega, Mg.drewN (Mg.drewN ⟨by omega, by omega, by simp, Que.nil _, qz_hd H3.out.2.2.2, by simp, by simp, by simpa using H3.out.1, H3.out.2.2.1⟩ nq1) nq2⟩)
  clear c2 c3 d2 d3 hlt hlt2
  generalize (wc.drewN nq1).drewN nq2 = wd at *
  obtain ⟨sh, hsh⟩ : ∃ sh, sh = cm - dm := ⟨_, rfl⟩
  have hshb : -1000000000 < sh ∧ sh < 1000000000 := by omega
  rw [← hsh] at H4 ⊢
  have HSH := Lib.hid (And.intro hsh (And.intro hme hmd))
  clear H3 w2 hsh hcm hdm hme hmd wc
  go_wp2_with fail
  go_loopw [6, 7] (fun x y wr => ∃ n, MgI w cb lo hi cm sh st es ds n x y wr) (fun x y wr => leastOf (fun n => MgI w cb lo hi cm sh st es ds n x y wr))
  case atStart => exact ⟨_, H4.out⟩
  case round =>
    have hls := (leastOf_spec hrel).1
    obtain ⟨i, j, os, rfl, rfl, hq, hm⟩ := hls
    have HQ := Lib.hid hq
    have HM := Lib.hid hm
    clear hrel hq hm
    by_cases gi : i < es.length
    · by_cases gj : j < ds.length
      · by_cases gt : es[i].2 < ds[j].2 + sh
        · obtain ⟨b, m, hbm, hnx⟩ := nx_some gi
          have E := H.out.1.q.ent i b m hbm
          have hbc : b ≠ cb := fun e => H.out.1.hd.own (e ▸ mem_at hbm)
          have hm2 := HSH.out.2.1 _ (List.mem_of_getElem? hbm)
          rw [hnx] at HQ ⊢
          obtain ⟨b2, n, hbn, hnx2⟩ := nx_some gj
          have E2 := H.out.2.1.q.ent j b2 n hbn
          have hbc2 : b2 ≠ cb := fun e => H.out.2.2.1 (.inr (e ▸ mem_at hbn))
          have hn2 := HSH.out.2.2 _ (List.mem_of_getElem? hbn)
          have wn : IntKind.i64.wrap (n + sh) = n + sh := by rw [IntKind.wrap_i64]; omega
          rw [hnx2] at HQ ⊢
          have gt : m < n + sh := by rw [(List.getElem?_eq_some_iff.1 hbm).2, (List.getElem?_eq_some_iff.1 hbn).2] at gt; exact gt
          simp only [pe, Option.map_some] at HQ ⊢
          have hS := HM.out.set
          have hij := HM.out.ki
          have hjj := HM.out.kj
          have hLL := H.out.2.2.2
          have c6 := hS.s6
          have f6 := hS.hd.fz 6
          have hlt := hS.hd.lt
          obtain ⟨s, hs⟩ : ∃ s, s = st + 1 + ((i + j : Nat) : Int) := ⟨_, rfl⟩
          have ws : IntKind.i64.wrap (s + 1) = s + 1 := by rw [IntKind.wrap_i64]; omega
          rw [← hs] at c6
          have HS := Lib.hid hs
          clear hS hs hij hjj hLL
          go_upto_region 7 with fail
          have H5 := Lib.hid (show SetR (wr.setCell ⟨cb, 6, none⟩ (.int .i64 (s + 1))) cb lo hi cm es (st + 1 + ((i + j : Nat) : Int) + 1) ∧ Que (wr.setCell ⟨cb, 6, none⟩ (.int .i64 (s + 1))) os ∧ Hd (wr.setCell ⟨cb, 6, none⟩ (.int .i64 (s + 1))) w.heap.size 0 os ∧ Chg (fun k => k = cb) w (wr.setCell ⟨cb, 6, none⟩ (.int .i64 (s + 1))) from by
            have hcw : cb < w.heap.size := H.out.1.hd.lt
            refine ⟨by rw [HS.out]; exact HM.out.set.set6 _, HM.out.q.keep (set_chg _ _ _ _) (fun k hk e => ?_), HM.out.hd.keep (set_chg _ _ _ _) (fun e => ?_), HM.out.chg.setCell (p := ⟨cb, 6, none⟩) (fun _ => rfl) _⟩
            · have := HM.out.new k hk
              omega
            · omega)
          clear c6 f6 hlt ws
          generalize wr.setCell ⟨cb, 6, none⟩ (.int .i64 (s + 1)) = w2 at *
          have e0 := (E.keep H5.out.2.2.2 hbc).mrk
          have hlt := (E.keep H5.out.2.2.2 hbc).lt
          have d0 := (E2.keep H5.out.2.2.2 hbc2).mrk
          have hlt2 := (E2.keep H5.out.2.2.2 hbc2).lt
          go_quiet (fail)
          rename Nat => nq
          have H6 := Lib.hid (show SetR (w2.drewN nq) cb lo hi cm es (st + 1 + ((i + j : Nat) : Int) + 1) ∧ Que (w2.drewN nq) os ∧ Hd (w2.drewN nq) w.heap.size 0 os ∧ Chg (fun k => k = cb) w (w2.drewN nq) from by
            have c := (Chg.refl (fun _ => False) w2).drewN nq
            exact ⟨H5.out.1.keep c (fun _ _ => id), H5.out.2.1.keep c (fun _ _ => id), H5.out.2.2.1.keep c id, H5.out.2.2.2.drewN nq⟩)
          clear H5 e0 hlt d0 hlt2
          generalize w2.drewN nq = w3 at *
          have e0 := (E.keep H6.out.2.2.2 hbc).mrk
          have hlt := (E.keep H6.out.2.2.2 hbc).lt
          go_wp2_with fail
          go_at_call 24
          have hol : os.length < 1000000000 := by
            have h1 := HM.out.ho
            have h2 := HM.out.ki
            have h3 := HM.out.kj
            have h4 := H.out.2.2.2
            omega
          refine (put_any w3 w.heap.size 0 os m H6.out.2.2.1 H6.out.2.1 hol).mono ?_
          rintro e w4 ⟨rfl, ho⟩
          have hb' : Chg (fun k => k = cb) w w4 := H6.out.2.2.2.trans ho.choose_spec.2.2.2.2.1 fun x hx e => by
            rcases e with e | e
            · omega
            · have := HM.out.new x e
              omega
          obtain ⟨os', hm'⟩ := HM.out.step (i' := i + 1) (j' := j) H.out.1 H6.out.1 H6.out.2.2.2 ho (by omega) (by have := HM.out.ki; omega) (by have := HM.out.kj; omega) (by
            have ha : (es.map Prod.snd).drop i = m :: (es.map Prod.snd).drop (i + 1) := by
              rw [List.drop_eq_getElem_cons (by simpa using gi)]
              congr 1
              simp [(List.getElem?_eq_some_iff.1 hbm).2]
            have hb : (ds.map fun p => p.2 + sh).drop j = (n + sh) :: (ds.map fun p => p.2 + sh).drop (j + 1) := by
              rw [List.drop_eq_getElem_cons (by simpa using gj)]
              congr 1
              simp [(List.getElem?_eq_some_iff.1 hbn).2]
            rw [ha, hb, mergeM]
            rw [if_pos gt])
          obtain ⟨e2, he2⟩ : ∃ e2, e2 = pe (nx es (i + 1)) := ⟨_, rfl⟩
          have e1 := (E.keep hb' hbc).nxt
          rw [← he2] at e1
          have hlt3 := (E.keep hb' hbc).lt
          have HP := Lib.hid (show MgI w cb lo hi cm sh st es ds ((es.length - (i + 1)) + (ds.length - j)) e2 (.pointer (some ⟨b2, 0, none⟩)) w4 from ⟨i + 1, j, os', he2, by rw [hnx2]; rfl, rfl, hm'⟩)
          clear hb' hm' ho he2 e0 hlt
          go_wp2_with fail
          go_roundw
          case rel => exact ⟨_, HP.out⟩
          case measure =>
            rw [HQ.out]
            exact Nat.lt_of_le_of_lt ((leastOf_spec ⟨_, HP.out⟩).2 _ HP.out) (by omega)
        · obtain ⟨b, m, hbm, hnx⟩ := nx_some gi
          have E := H.out.1.q.ent i b m hbm
          have hbc : b ≠ cb := fun e => H.out.1.hd.own (e ▸ mem_at hbm)
          have hm2 := HSH.out.2.1 _ (List.mem_of_getElem? hbm)
          rw [hnx] at HQ ⊢
          obtain ⟨b2, n, hbn, hnx2⟩ := nx_some gj
          have E2 := H.out.2.1.q.ent j b2 n hbn
          have hbc2 : b2 ≠ cb := fun e => H.out.2.2.1 (.inr (e ▸ mem_at hbn))
          have hn2 := HSH.out.2.2 _ (List.mem_of_getElem? hbn)
          have wn : IntKind.i64.wrap (n + sh) = n + sh := by rw [IntKind.wrap_i64]; omega
          rw [hnx2] at HQ ⊢
          have gt : ¬ m < n + sh := by rw [(List.getElem?_eq_some_iff.1 hbm).2, (List.getElem?_eq_some_iff.1 hbn).2] at gt; exact gt
          simp only [pe, Option.map_some] at HQ ⊢
          have hS := HM.out.set
          have hij := HM.out.ki
          have hjj := HM.out.kj
          have hLL := H.out.2.2.2
          have c6 := hS.s6
          have f6 := hS.hd.fz 6
          have hlt := hS.hd.lt
          obtain ⟨s, hs⟩ : ∃ s, s = st + 1 + ((i + j : Nat) : Int) := ⟨_, rfl⟩
          have ws : IntKind.i64.wrap (s + 1) = s + 1 := by rw [IntKind.wrap_i64]; omega
          rw [← hs] at c6
          have HS := Lib.hid hs
          clear hS hs hij hjj hLL
          go_upto_region 7 with fail
          have H5 := Lib.hid (show SetR (wr.setCell ⟨cb, 6, none⟩ (.int .i64 (s + 1))) cb lo hi cm es (st + 1 + ((i + j : Nat) : Int) + 1) ∧ Que (wr.setCell ⟨cb, 6, none⟩ (.int .i64 (s + 1))) os ∧ Hd (wr.setCell ⟨cb, 6, none⟩ (.int .i64 (s + 1))) w.heap.size 0 os ∧ Chg (fun k => k = cb) w (wr.setCell ⟨cb, 6, none⟩ (.int .i64 (s + 1))) from by
            have hcw : cb < w.heap.size := H.out.1.hd.lt
            refine ⟨by rw [HS.out]; exact HM.out.set.set6 _, HM.out.q.keep (set_chg _ _ _ _) (fun k hk e => ?_), HM.out.hd.keep (set_chg _ _ _ _) (fun e => ?_), HM.out.chg.setCell (p := ⟨cb, 6, none⟩) (fun _ => rfl) _⟩
            · have := HM.out.new k hk
              omega
            · omega)
          clear c6 f6 hlt ws
          generalize wr.setCell ⟨cb, 6, none⟩ (.int .i64 (s + 1)) = w2 at *
          have e0 := (E.keep H5.out.2.2.2 hbc).mrk
          have hlt := (E.keep H5.out.2.2.2 hbc).lt
          have d0 := (E2.keep H5.out.2.2.2 hbc2).mrk
          have hlt2 := (E2.keep H5.out.2.2.2 hbc2).lt
          go_quiet (fail)
          rename Nat => nq
          have H6 := Lib.hid (show SetR (w2.drewN nq) cb lo hi cm es (st + 1 + ((i + j : Nat) : Int) + 1) ∧ Que (w2.drewN nq) os ∧ Hd (w2.drewN nq) w.heap.size 0 os ∧ Chg (fun k => k = cb) w (w2.drewN nq) from by
            have c := (Chg.refl (fun _ => False) w2).drewN nq
            exact ⟨H5.out.1.keep c (fun _ _ => id), H5.out.2.1.keep c (fun _ _ => id), H5.out.2.2.1.keep c id, H5.out.2.2.2.drewN nq⟩)
          clear H5 e0 hlt d0 hlt2
          generalize w2.drewN nq = w3 at *
          have d0 := (E2.keep H6.out.2.2.2 hbc2).mrk
          have hlt2 := (E2.keep H6.out.2.2.2 hbc2).lt
          go_wp2_with fail
          go_at_call 24
          have hol : os.length < 1000000000 := by
            have h1 := HM.out.ho
            have h2 := HM.out.ki
            have h3 := HM.out.kj
            have h4 := H.out.2.2.2
            omega
          refine (put_any w3 w.heap.size 0 os (n + sh) H6.out.2.2.1 H6.out.2.1 hol).mono ?_
          rintro e w4 ⟨rfl, ho⟩
          have hb' : Chg (fun k => k = cb) w w4 := H6.out.2.2.2.trans ho.choose_spec.2.2.2.2.1 fun x hx e => by
            rcases e with e | e
            · omega
            · have := HM.out.new x e
              omega
          obtain ⟨os', hm'⟩ := HM.out.step (i' := i) (j' := j + 1) H.out.1 H6.out.1 H6.out.2.2.2 ho (by omega) (by have := HM.out.ki; omega) (by have := HM.out.kj; omega) (by
            have ha : (es.map Prod.snd).drop i = m :: (es.map Prod.snd).drop (i + 1) := by
              rw [List.drop_eq_getElem_cons (by simpa using gi)]
              congr 1
              simp [(List.getElem?_eq_some_iff.1 hbm).2]
            have hb : (ds.map fun p => p.2 + sh).drop j = (n + sh) :: (ds.map fun p => p.2 + sh).drop (j + 1) := by
              rw [List.drop_eq_getElem_cons (by simpa using gj)]
              congr 1
              simp [(List.getElem?_eq_some_iff.1 hbn).2]
            rw [ha, hb, mergeM]
            rw [if_neg (by omega)])
          obtain ⟨e2, he2⟩ : ∃ e2, e2 = pe (nx ds (j + 1)) := ⟨_, rfl⟩
          have e1 := (E2.keep hb' hbc2).nxt
          rw [← he2] at e1
          have hlt3 := (E2.keep hb' hbc2).lt
          have HP := Lib.hid (show MgI w cb lo hi cm sh st es ds ((es.length - i) + (ds.length - (j + 1))) (.pointer (some ⟨b, 0, none⟩)) e2 w4 from ⟨i, j + 1, os', by rw [hnx]; rfl, he2, rfl, hm'⟩)
          clear hb' hm' ho he2 d0 hlt2
          go_wp2_with fail
          go_roundw
          case rel => exact ⟨_, HP.out⟩
          case measure =>
            rw [HQ.out]
            exact Nat.lt_of_le_of_lt ((leastOf_spec ⟨_, HP.out⟩).2 _ HP.out) (by omega)
      · obtain ⟨b, m, hbm, hnx⟩ := nx_some gi
        have E := H.out.1.q.ent i b m hbm
        have hbc : b ≠ cb := fun e => H.out.1.hd.own (e ▸ mem_at hbm)
        have hm2 := HSH.out.2.1 _ (List.mem_of_getElem? hbm)
        rw [hnx] at HQ ⊢
        rw [nx_none (es := ds) (by omega)] at HQ ⊢
        simp only [pe, Option.map_some, Option.map_none] at HQ ⊢
        have hS := HM.out.set
        have hij := HM.out.ki
        have hjj := HM.out.kj
        have hLL := H.out.2.2.2
        have c6 := hS.s6
        have f6 := hS.hd.fz 6
        have hlt := hS.hd.lt
        obtain ⟨s, hs⟩ : ∃ s, s = st + 1 + ((i + j : Nat) : Int) := ⟨_, rfl⟩
        have ws : IntKind.i64.wrap (s + 1) = s + 1 := by rw [IntKind.wrap_i64]; omega
        rw [← hs] at c6
        have HS := Lib.hid hs
        clear hS hs hij hjj hLL
        go_upto_region 7 with fail
        have H5 := Lib.hid (show SetR (wr.setCell ⟨cb, 6, none⟩ (.int .i64 (s + 1))) cb lo hi cm es (st + 1 + ((i + j : Nat) : Int) + 1) ∧ Que (wr.setCell ⟨cb, 6, none⟩ (.int .i64 (s + 1))) os ∧ Hd (wr.setCell ⟨cb, 6, none⟩ (.int .i64 (s + 1))) w.heap.size 0 os ∧ Chg (fun k => k = cb) w (wr.setCell ⟨cb, 6, none⟩ (.int .i64 (s + 1))) from by
          have hcw : cb < w.heap.size := H.out.1.hd.lt
          refine ⟨by rw [HS.out]; exact HM.out.set.set6 _, HM.out.q.keep (set_chg _ _ _ _) (fun k hk e => ?_), HM.out.hd.keep (set_chg _ _ _ _) (fun e => ?_), HM.out.chg.setCell (p := ⟨cb, 6, none⟩) (fun _ => rfl) _⟩
          · have := HM.out.new k hk
            omega
          · omega)
        clear c6 f6 hlt ws
        generalize wr.setCell ⟨cb, 6, none⟩ (.int .i64 (s + 1)) = w2 at *
        have e0 := (E.keep H5.out.2.2.2 hbc).mrk
        have hlt := (E.keep H5.out.2.2.2 hbc).lt
        go_quiet (fail)
        rename Nat => nq
        have H6 := Lib.hid (show SetR (w2.drewN nq) cb lo hi cm es (st + 1 + ((i + j : Nat) : Int) + 1) ∧ Que (w2.drewN nq) os ∧ Hd (w2.drewN nq) w.heap.size 0 os ∧ Chg (fun k => k = cb) w (w2.drewN nq) from by
          have c := (Chg.refl (fun _ => False) w2).drewN nq
          exact ⟨H5.out.1.keep c (fun _ _ => id), H5.out.2.1.keep c (fun _ _ => id), H5.out.2.2.1.keep c id, H5.out.2.2.2.drewN nq⟩)
        clear H5 e0 hlt
        generalize w2.drewN nq = w3 at *
        have e0 := (E.keep H6.out.2.2.2 hbc).mrk
        have hlt := (E.keep H6.out.2.2.2 hbc).lt
        go_wp2_with fail
        go_at_call 24
        have hol : os.length < 1000000000 := by
          have h1 := HM.out.ho
          have h2 := HM.out.ki
          have h3 := HM.out.kj
          have h4 := H.out.2.2.2
          omega
        refine (put_any w3 w.heap.size 0 os m H6.out.2.2.1 H6.out.2.1 hol).mono ?_
        rintro e w4 ⟨rfl, ho⟩
        have hb' : Chg (fun k => k = cb) w w4 := H6.out.2.2.2.trans ho.choose_spec.2.2.2.2.1 fun x hx e => by
          rcases e with e | e
          · omega
          · have := HM.out.new x e
            omega
        obtain ⟨os', hm'⟩ := HM.out.step (i' := i + 1) (j' := j) H.out.1 H6.out.1 H6.out.2.2.2 ho (by omega) (by have := HM.out.ki; omega) (by have := HM.out.kj; omega) (by
          have ha : (es.map Prod.snd).drop i = m :: (es.map Prod.snd).drop (i + 1) := by
            rw [List.drop_eq_getElem_cons (by simpa using gi)]
            congr 1
            simp [(List.getElem?_eq_some_iff.1 hbm).2]
          have hb : (ds.map fun p => p.2 + sh).drop j = [] := List.drop_eq_nil_of_le (by simp; omega)
          rw [ha, hb, mergeM])
        obtain ⟨e2, he2⟩ : ∃ e2, e2 = pe (nx es (i + 1)) := ⟨_, rfl⟩
        have e1 := (E.keep hb' hbc).nxt
        rw [← he2] at e1
        have hlt3 := (E.keep hb' hbc).lt
        have HP := Lib.hid (show MgI w cb lo hi cm sh st es ds ((es.length - (i + 1)) + (ds.length - j)) e2 (.pointer none) w4 from ⟨i + 1, j, os', he2, by rw [nx_none (by omega)]; rfl, rfl, hm'⟩)
        clear hb' hm' ho he2 e0 hlt
        go_wp2_with fail
        go_roundw
        case rel => exact ⟨_, HP.out⟩
        case measure =>
          rw [HQ.out]
          exact Nat.lt_of_le_of_lt ((leastOf_spec ⟨_, HP.out⟩).2 _ HP.out) (by omega)
    · by_cases gj : j < ds.length
      · rw [nx_none (es := es) (by omega)] at HQ ⊢
        obtain ⟨b2, n, hbn, hnx2⟩ := nx_some gj
        have E2 := H.out.2.1.q.ent j b2 n hbn
        have hbc2 : b2 ≠ cb := fun e => H.out.2.2.1 (.inr (e ▸ mem_at hbn))
        have hn2 := HSH.out.2.2 _ (List.mem_of_getElem? hbn)
        have wn : IntKind.i64.wrap (n + sh) = n + sh := by rw [IntKind.wrap_i64]; omega
        rw [hnx2] at HQ ⊢
        simp only [pe, Option.map_some, Option.map_none] at HQ ⊢
        have hS := HM.out.set
        have hij := HM.out.ki
        have hjj := HM.out.kj
        have hLL := H.out.2.2.2
        have c6 := hS.s6
        have f6 := hS.hd.fz 6
        have hlt := hS.hd.lt
        obtain ⟨s, hs⟩ : ∃ s, s = st + 1 + ((i + j : Nat) : Int) := ⟨_, rfl⟩
        have ws : IntKind.i64.wrap (s + 1) = s + 1 := by rw [IntKind.wrap_i64]; omega
        rw [← hs] at c6
        have HS := Lib.hid hs
        clear hS hs hij hjj hLL
        go_upto_region 7 with fail
        have H5 := Lib.hid (show SetR (wr.setCell ⟨cb, 6, none⟩ (.int .i64 (s + 1))) cb lo hi cm es (st + 1 + ((i + j : Nat) : Int) + 1) ∧ Que (wr.setCell ⟨cb, 6, none⟩ (.int .i64 (s + 1))) os ∧ Hd (wr.setCell ⟨cb, 6, none⟩ (.int .i64 (s + 1))) w.heap.size 0 os ∧ Chg (fun k => k = cb) w (wr.setCell ⟨cb, 6, none⟩ (.int .i64 (s + 1))) from by
          have hcw : cb < w.heap.size := H.out.1.hd.lt
          refine ⟨by rw [HS.out]; exact HM.out.set.set6 _, HM.out.q.keep (set_chg _ _ _ _) (fun k hk e => ?_), HM.out.hd.keep (set_chg _ _ _ _) (fun e => ?_), HM.out.chg.setCell (p := ⟨cb, 6, none⟩) (fun _ => rfl) _⟩
          · have := HM.out.new k hk
            omega
          · omega)
        clear c6 f6 hlt ws
        generalize wr.setCell ⟨cb, 6, none⟩ (.int .i64 (s + 1)) = w2 at *
        have d0 := (E2.keep H5.out.2.2.2 hbc2).mrk
        have hlt2 := (E2.keep H5.out.2.2.2 hbc2).lt
        go_quiet (fail)
        rename Nat => nq
        have H6 := Lib.hid (show SetR (w2.drewN nq) cb lo hi cm es (st + 1 + ((i + j : Nat) : Int) + 1) ∧ Que (w2.drewN nq) os ∧ Hd (w2.drewN nq) w.heap.size 0 os ∧ Chg (fun k => k = cb) w (w2.drewN nq) from by
          have c := (Chg.refl (fun _ => False) w2).drewN nq
          exact ⟨H5.out.1.keep c (fun _ _ => id), H5.out.2.1.keep c (fun _ _ => id), H5.out.2.2.1.keep c id, H5.out.2.2.2.drewN nq⟩)
        clear H5 d0 hlt2
        generalize w2.drewN nq = w3 at *
        have d0 := (E2.keep H6.out.2.2.2 hbc2).mrk
        have hlt2 := (E2.keep H6.out.2.2.2 hbc2).lt
        go_wp2_with fail
        go_at_call 24
        have hol : os.length < 1000000000 := by
          have h1 := HM.out.ho
          have h2 := HM.out.ki
          have h3 := HM.out.kj
          have h4 := H.out.2.2.2
          omega
        refine (put_any w3 w.heap.size 0 os (n + sh) H6.out.2.2.1 H6.out.2.1 hol).mono ?_
        rintro e w4 ⟨rfl, ho⟩
        have hb' : Chg (fun k => k = cb) w w4 := H6.out.2.2.2.trans ho.choose_spec.2.2.2.2.1 fun x hx e => by
          rcases e with e | e
          · omega
          · have := HM.out.new x e
            omega
        obtain ⟨os', hm'⟩ := HM.out.step (i' := i) (j' := j + 1) H.out.1 H6.out.1 H6.out.2.2.2 ho (by omega) (by have := HM.out.ki; omega) (by have := HM.out.kj; omega) (by
          have ha : (es.map Prod.snd).drop i = [] := List.drop_eq_nil_of_le (by simp; omega)
          have hb : (ds.map fun p => p.2 + sh).drop j = (n + sh) :: (ds.map fun p => p.2 + sh).drop (j + 1) := by
            rw [List.drop_eq_getElem_cons (by simpa using gj)]
            congr 1
            simp [(List.getElem?_eq_some_iff.1 hbn).2]
          rw [ha, hb, mergeM])
        obtain ⟨e2, he2⟩ : ∃ e2, e2 = pe (nx ds (j + 1)) := ⟨_, rfl⟩
        have e1 := (E2.keep hb' hbc2).nxt
        rw [← he2] at e1
        have hlt3 := (E2.keep hb' hbc2).lt
        have HP := Lib.hid (show MgI w cb lo hi cm sh st es ds ((es.length - i) + (ds.length - (j + 1))) (.pointer none) e2 w4 from ⟨i, j + 1, os', by rw [nx_none (by omega)]; rfl, he2, rfl, hm'⟩)
        clear hb' hm' ho he2 d0 hlt2
        go_wp2_with fail
        go_roundw
        case rel => exact ⟨_, HP.out⟩
        case measure =>
          rw [HQ.out]
          exact Nat.lt_of_le_of_lt ((leastOf_spec ⟨_, HP.out⟩).2 _ HP.out) (by omega)
      · rw [nx_none (by omega), nx_none (by omega)] at HQ ⊢
        simp only [pe, Option.map_none] at HQ ⊢
        have c0 := HM.out.hd.c0
        have c1 := HM.out.hd.c1
        have c2 := HM.out.hd.c2
        have hlt := HM.out.hd.lt
        have d0 := HM.out.set.hd.c0
        have d1 := HM.out.set.hd.c1
        have d2 := HM.out.set.hd.c2
        have f0 := HM.out.set.hd.fz 3
        have f1 := HM.out.set.hd.fz 4
        have f2 := HM.out.set.hd.fz 5
        have hlt2 := HM.out.set.hd.lt
        go_wp2_with fail
        obtain ⟨W, hW, r0, r1, r2, hoth, hsz, hf, hc⟩ := set3 (qo := 3) d0 d1 d2 (pe (nx os 0)) (pe (nx os (os.length - 1))) (.int .i64 (os.length : Int))
        rw [hW]
        have hcw : cb < w.heap.size := H.out.1.hd.lt
        have hie : i = es.length := by have := HM.out.ki; omega
        have hje : j = ds.length := by have := HM.out.kj; omega
        have hown : cb ∉ os.map Prod.fst := fun e => by
          have := HM.out.new _ e
          omega
        have hS := HM.out.set
        refine bodyPost_end (results_none rfl _ _ _) rfl ⟨rfl, os, ?_, ⟨(hoth 0 (by omega)).trans hS.s0, (hoth 1 (by omega)).trans hS.s1, (hoth 2 (by omega)).trans hS.s2, ?_, ⟨by rw [hsz]; exact hlt2, r0, r1, r2, fun j => (hf _).trans (hS.hd.fz j), hown⟩, HM.out.q.keep hc fun b hb e => hown (e ▸ hb)⟩, HM.out.new, HM.out.chg.trans hc fun x hx e => e⟩
        · rw [← HSH.out.1]
          have := HM.out.eq
          rw [List.drop_eq_nil_of_le (by simp; omega), List.drop_eq_nil_of_le (by simp; omega), mergeM] at this
          exact this
        · rw [← hie, ← hje]
          exact (hoth 6 (by omega)).trans hS.s6

/-- The counts of two sets, falling, put behind others by their order. -/
def mergeC : List Int → List Int → List Int → List Int
  | acc, [], [] => acc
  | acc, x :: a, [] => mergeC (putM acc x) a []
  | acc, [], y :: b => mergeC (putM acc y) [] b
  | acc, x :: a, y :: b => if y < x then mergeC (putM acc x) a (y :: b) else mergeC (putM acc y) (x :: a) b
termination_by _ a b => a.length + b.length
theorem merge_map (cm : Int) : ∀ (n : Nat) (acc a b : List Int), a.length + b.length = n → (mergeM acc a b).map (fun x => cm - x) = mergeC (acc.map fun x => cm - x) (a.map fun x => cm - x) (b.map fun x => cm - x) := by
  have hp : ∀ (l : List Int) (m : Int), (putM l m).map (fun x => cm - x) = putM (l.map fun x => cm - x) (cm - m) := fun l m => putM_map (f := fun x => cm - x) (fun a b (h : cm - a = cm - b) => by omega) l m
  intro n
  induction n with
  | zero =>
    intro acc a b h
    obtain rfl : a = [] := List.length_eq_zero_iff.1 (by omega)
    obtain rfl : b = [] := List.length_eq_zero_iff.1 (by omega)
    simp only [mergeM, mergeC, List.map_nil]
  | succ n ih =>
    intro acc a b h
    match a, b, h with
    | [], [], h => simp at h
    | x :: a, [], h => rw [mergeM, ih _ _ _ (by simp at h ⊢; omega), hp, List.map_cons, List.map_nil, mergeC]
    | [], y :: b, h => rw [mergeM, ih _ _ _ (by simp at h ⊢; omega), hp, List.map_cons, List.map_nil, mergeC]
    | x :: a, y :: b, h =>
      rw [mergeM, List.map_cons, List.map_cons, mergeC]
      by_cases g : x < y
      · rw [if_pos g, if_pos (by omega), ih _ _ _ (by simp at h ⊢; omega), hp, List.map_cons]
      · rw [if_neg g, if_neg (by omega), ih _ _ _ (by simp at h ⊢; omega), hp, List.map_cons]

theorem merge_any (w : World) (cb db : Nat) (lo hi cm st dm dt : Int) (L M : List Int) (G D : Nat → Prop) (h : SetC w cb lo hi L cm st G) (hd : SetC w db lo hi M dm dt D) (hD : ¬ D cb) (hL : L.length < 1000000 ∧ M.length < 1000000) (hcm : 0 ≤ cm ∧ cm < 1000000000) (hdm : 0 ≤ dm ∧ dm < 1000000000) (hst : 0 ≤ st ∧ st < 1000000000000)
    (hLb : ∀ x ∈ L, 0 ≤ x ∧ x < 5000000000) (hMb : ∀ x ∈ M, 0 ≤ x ∧ x < 5000000000) :
    Calls Try.prog 18 #[.pointer (some ⟨cb, 0, none⟩), .pointer (some ⟨db, 0, none⟩)] w fun e w' => e = .returned (.tuple #[]) ∧ SetC w' cb lo hi (mergeC [] L M) cm (st + 1 + ((L.length + M.length : Nat) : Int)) (fun k => k = cb ∨ w.heap.size ≤ k) ∧ Chg (fun k => k = cb) w w' := by
  obtain ⟨es, hr, rfl, hG⟩ := h
  obtain ⟨ds, hs, rfl, hG2⟩ := hd
  rw [List.length_map, List.length_map] at *
  refine (mergeR_any w cb db lo hi cm st dm dt es ds hr hs (fun e => hD (hG2 cb e)) hL hcm hdm hst (fun p hp => ?_) (fun p hp => ?_)).mono ?_
  · have := hLb (cm - p.2) (List.mem_map.2 ⟨p, hp, rfl⟩)
    omega
  · have := hMb (dm - p.2) (List.mem_map.2 ⟨p, hp, rfl⟩)
    omega
  · rintro e w' ⟨rfl, os, e1, e2, e3, e4⟩
    refine ⟨rfl, ⟨os, e2, ?_, fun k hk => ?_⟩, e4⟩
    · rw [cts_snd cm os, e1, merge_map cm _ _ _ _ rfl, cts_snd cm es, List.map_nil]
      congr 1
      rw [List.map_map]
      exact List.map_congr_left fun p _ => by simp only [Function.comp]; omega
    · rcases hk with rfl | hk
      · exact .inl rfl
      · exact .inr (e3 k hk)

end Go.Proofs.Ytkkmopcmilgdoaa
