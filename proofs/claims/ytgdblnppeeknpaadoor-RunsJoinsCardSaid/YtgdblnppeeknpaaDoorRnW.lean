/- What the document's Join comes to: a contract.
   Conditions: the words lie in memory; each run is at least once, all together have at most 2^62 bytes and a million runs. -/
import Derived.Test.YtgdblnppeeknpaaDoorRnJ
namespace Go.Proofs.YtgdblnppeeknpaaDoor
open Go.RowKit

/-- Words in runs, in memory. -/
def WdsR (w : World) (G : Nat → Prop) (v : Value) (ws : List (List Rn)) : Prop :=
  ∃ A c, v = .slice A ws.length c ∧ ∀ (i : Nat) (l : List Rn), ws[i]? = some l → ∃ g o bv, A = some ⟨g, o, none⟩ ∧ g < w.heap.size ∧ w.cell? ⟨g, o + i, none⟩ = some bv ∧ RunsR w G bv l
theorem jnL_succ {ws : List (List Rn)} {i : Nat} {l : List Rn} (h : ws[i]? = some l) : jnL (ws.take (i + 1)) = l.foldl jnS (jnL (ws.take i)) := by
  unfold jnL
  rw [List.take_add_one, h, List.flatten_append, List.foldl_append]
  simp
theorem fold_step {l : List Rn} {k : Nat} {q : Rn} {acc : List Rn} (h : l[k]? = some q) : (l.take (k + 1)).foldl jnS acc = jnS ((l.take k).foldl jnS acc) q := by
  rw [List.take_add_one, h, List.foldl_append]
  rfl
/-- What is known of what has been made so far. -/
theorem jn_bounds {ws : List (List Rn)} {i k : Nat} {l : List Rn} {q : Rn} (hi : ws[i]? = some l) (hk : l[k]? = some q) (hpos : ∀ x ∈ ws.flatten, 1 ≤ x.2) (hsum : smL ws.flatten ≤ 4611686018427387904) (hlen : ws.flatten.length ≤ 1000000) :
    ((l.take k).foldl jnS (jnL (ws.take i))).length ≤ 1000000 ∧ 1 ≤ q.2 ∧ l.length ≤ 1000000 ∧ ∀ pre c s, (l.take k).foldl jnS (jnL (ws.take i)) = pre ++ [(c, s)] → 1 ≤ s ∧ s + q.2 ≤ 4611686018427387904 := by
  have hil := (List.getElem?_eq_some_iff.1 hi).1
  have hkl := (List.getElem?_eq_some_iff.1 hk).1
  have e1 : ws.flatten = ((ws.take i).flatten ++ l.take k) ++ (q :: (l.drop (k + 1) ++ (ws.drop (i + 1)).flatten)) := by
    conv => lhs; rw [← List.take_append_drop i ws, List.drop_eq_getElem_cons hil, (List.getElem?_eq_some_iff.1 hi).2, List.flatten_append, List.flatten_cons]
    conv => lhs; rw [← List.take_append_drop k l, List.drop_eq_getElem_cons hkl, (List.getElem?_eq_some_iff.1 hk).2]
    simp
  have hl6 : l.length ≤ ws.flatten.length := by
    rw [e1]
    simp only [List.length_append, List.length_cons, List.length_drop, List.length_take]
    omega
  have hacc : (l.take k).foldl jnS (jnL (ws.take i)) = ((ws.take i).flatten ++ l.take k).foldl jnS [] := by unfold jnL; rw [List.foldl_append]
  obtain ⟨P, hP⟩ : ∃ P, P = (ws.take i).flatten ++ l.take k := ⟨_, rfl⟩
  obtain ⟨S, hS⟩ : ∃ S, S = l.drop (k + 1) ++ (ws.drop (i + 1)).flatten := ⟨_, rfl⟩
  rw [← hP, ← hS] at e1
  have hl6' : l.length ≤ 1000000 := Nat.le_trans hl6 hlen
  rw [hacc, ← hP]
  rw [e1] at hpos hsum hlen
  have nn : ∀ L : List Rn, (∀ x ∈ L, 1 ≤ x.2) → 0 ≤ smL L := fun L h => by have := unp_len h; omega
  obtain ⟨_, k2, k3, k4⟩ := jn_all P [] trivial (fun x hx => by cases hx) fun x hx => hpos x (List.mem_append_left _ hx)
  have hq : 1 ≤ q.2 := hpos q (by simp)
  have hSn := nn S fun x hx => hpos x (by simp [hx])
  rw [smL_app, show smL (q :: S) = q.2 + smL S by unfold smL; simp] at hsum
  simp at hlen k4
  refine ⟨by omega, hq, hl6', fun pre c s he => ?_⟩
  rw [he] at k2 k3
  have hs : 1 ≤ s := k2 (c, s) (by simp)
  have hpn := nn pre fun x hx => k2 x (List.mem_append_left _ hx)
  rw [smL_app, smL_one] at k3
  have z : smL [] = 0 := rfl
  have k3' : smL pre + s = smL [] + smL P := k3
  exact ⟨hs, by omega⟩
set_option maxHeartbeats 8000000 in
set_option maxRecDepth 100000 in
theorem joinR12_any (w : World) (G : Nat → Prop) (v : Value) (ws : List (List Rn)) (h : WdsR w G v ws) (hpos : ∀ x ∈ ws.flatten, 1 ≤ x.2) (hsum : smL ws.flatten ≤ 4611686018427387904) (hlen : ws.flatten.length ≤ 1000000) (hL : ws.length ≤ 1000000) :
    Calls Tryd.prog 17 #[v] w fun e w' => ∃ v', e = .returned v' ∧ OwnR w' w.heap.size v' (jnL ws) ∧ Below w.heap.size w w' := by
  obtain ⟨A, c, rfl, hrow⟩ := h
  have HR := Lib.hid (And.intro hrow (And.intro hpos (And.intro hsum (And.intro hlen hL))))
  obtain ⟨ln, hln⟩ : ∃ n, n = ws.length := ⟨_, rfl⟩
  have HLN := Lib.hid hln
  rw [← hln] at hL ⊢
  obtain ⟨j0, hj0, hy0, hy1, hy2⟩ := info_parts infoRn
  clear hrow hln hpos hsum hlen
  go_enter Tryd.func17, Tryd.ntmps17
  go_wp2_with fail
  go_loopw [3, 4] (fun v x wr => ∃ i : Nat, x = .int .i64 i ∧ i ≤ ws.length ∧ OwnR wr w.heap.size v (jnL (ws.take i)) ∧ Below w.heap.size w wr) (fun _ x _ => match x with | .int _ z => ws.length - z.toNat | _ => 0)
  case atStart => exact ⟨0, rfl, by omega, World.ownsRow_nil _ _ _ _, Below.refl _ _⟩
  case round =>
    obtain ⟨i, rfl, hi, hown, hb⟩ := hrel
    have HB := Lib.hid (And.intro hb hown)
    obtain ⟨acc, hac⟩ : ∃ a, a = jnL (ws.take i) := ⟨_, rfl⟩
    rw [← hac] at hown
    obtain ⟨oA, oc, rfl⟩ := own_formR hown
    by_cases hlt : i < ln
    · obtain ⟨l, hl⟩ : ∃ x, ws[i]? = some x := ⟨_, List.getElem?_eq_getElem (by have := HLN.out; omega)⟩
      obtain ⟨gw, ow, bv, rfl, hgw, cw0, bA, bc, rfl, hrun⟩ := HR.out.1 i l hl
      have s1 : (0 : Int) ≤ (i : Int) := by omega
      have s2 : (i : Int) < (ln : Int) := by omega
      have s3 : ((i : Int)).toNat = i := by omega
      have wk : IntKind.i64.wrap ((i : Int) + 1) = (i : Int) + 1 := by rw [IntKind.wrap_i64]; omega
      obtain ⟨lb, hlb⟩ : ∃ n, n = l.length := ⟨_, rfl⟩
      rw [← hlb] at cw0
      have hjl := jnL_succ hl
      rw [← hac] at hjl
      have HX := Lib.hid (And.intro hl (And.intro hlb (And.intro hgw (And.intro cw0 (And.intro hrun (And.intro hac hjl))))))
      have HN := Lib.hid (show i < ws.length by have := HLN.out; omega)
      have HO := Lib.hid hown
      clear hl hlb hgw cw0 hrun hown hac hjl hb hi
      go_wp2_with fail
      go_loopw [3, 5] (fun v x wq => ∃ k : Nat, x = .int .i64 k ∧ k ≤ l.length ∧ OwnR wq w.heap.size v ((l.take k).foldl jnS acc) ∧ Below w.heap.size w wq) (fun _ x _ => match x with | .int _ z => l.length - z.toNat | _ => 0)
      case atStart => exact ⟨0, rfl, by omega, HO.out, HB.out.1⟩
      case round =>
        obtain ⟨k, rfl, hk, hown, hb⟩ := hrel
        have HB2 := Lib.hid (And.intro hb hown)
        have cw := (hb.cell (p := ⟨gw, ow + i, none⟩) HX.out.2.2.1).trans HX.out.2.2.2.1
        by_cases hkl : k < lb
        · obtain ⟨⟨b, t⟩, hx⟩ : ∃ x, l[k]? = some x := ⟨_, List.getElem?_eq_getElem (by have := HX.out.2.1; omega)⟩
          obtain ⟨g, o, rfl, _, hg, c0, c1⟩ := HX.out.2.2.2.2.1 k b t hx
          rw [← hb.cell (p := ⟨g, o + k * 2, none⟩) hg] at c0
          rw [← hb.cell (p := ⟨g, o + k * 2 + 1, none⟩) hg] at c1
          have k1 : (0 : Int) ≤ (k : Int) := by omega
          have k2 : (k : Int) < (lb : Int) := by omega
          have k3 : ((k : Int)).toNat = k := by omega
          obtain ⟨q1, q2, q0, q3⟩ := jn_bounds HX.out.1 hx HR.out.2.1 HR.out.2.2.1 HR.out.2.2.2.1
          have wk2 : IntKind.i64.wrap ((k : Int) + 1) = (k : Int) + 1 := by have := HX.out.2.1; rw [IntKind.wrap_i64]; omega
          have hst := fold_step (acc := acc) hx
          rw [← HX.out.2.2.2.2.2.1] at q1 q3
          obtain ⟨ak, hak⟩ : ∃ a, a = (l.take k).foldl jnS acc := ⟨_, rfl⟩
          rw [← hak] at q1 q3 hst hown
          have HQ := Lib.hid (And.intro q1 (And.intro q2 (And.intro q3 (And.intro hst (And.intro hown (show k < l.length by have := HX.out.2.1; omega))))))
          obtain ⟨al, hal⟩ : ∃ n, n = ak.length := ⟨_, rfl⟩
          have HAL := Lib.hid hal
          obtain ⟨pA, pc, rfl⟩ := own_formR hown
          have hown' : wr.ownsRow w.heap.size 42 2 (.slice pA al pc) al (ak.flatMap rnc) := by rw [hal]; exact hown
          rw [← hal]
          obtain ⟨w7, hw7, hb7, hq7⟩ : ∃ w7, wr.alloc (.cells #[.int .u8 (b : Int), .int .i64 t] 42) = w7 ∧ Below wr.heap.size wr w7 ∧ w7.heap[wr.heap.size]? = some (.cells #[.int .u8 (b : Int), .int .i64 t] 42 (0, 0)) := ⟨_, rfl, (Below.refl _ wr).alloc (Nat.le_refl _) _, heap_alloc_new wr _⟩
          have hbx : ∀ W, Below w7.heap.size w7 W → W.cell? ⟨wr.heap.size, 0, none⟩ = some (.int .u8 (b : Int)) ∧ W.cell? ⟨wr.heap.size, 1, none⟩ = some (.int .i64 t) := fun W h => by
            have := (h.block _ (Array.getElem?_eq_some_iff.1 hq7).1).trans hq7
            exact ⟨((row_cells this).1 0).trans rfl, ((row_cells this).1 1).trans rfl⟩
          have H7 := Lib.hid (And.intro (own_keep hown' hb7) (And.intro (bhop hb hb7) (And.intro hbx hq7)))
          clear q0 q1 q2 q3 hst hown hown' hb hk hx hak hb7 hq7 hbx hal
          go_upto_region 9 with fail
          clear hw7 c0 c1 cw
          obtain ⟨y0, y1⟩ := H7.out.2.2.1 w7 (Below.refl _ w7)
          by_cases ha0 : ak = []
          · have g1 : ¬ (0 : Int) < (al : Int) := by have := HAL.out; rw [ha0] at this; simp at this; omega
            have g2 : ¬ 0 < al := by omega
            have HJ := Lib.hid (show jnS ak (b, t) = ak ++ [(b, t)] by rw [ha0]; rfl)
            clear ha0
            go_wp2_with fail
            go_quiet (fail)
            obtain ⟨w8, hw8⟩ : ∃ w8, w7.drewN nq = w8 := ⟨_, rfl⟩
            rw [hw8]
            have hb8 : Below w7.heap.size w7 w8 := hw8 ▸ below_drewN (Below.refl _ w7) nq
            have x0 := (H7.out.2.2.1 w8 hb8).1
            have x1 := (H7.out.2.2.1 w8 hb8).2
            have H8 := Lib.hid (And.intro (own_keep H7.out.1 hb8) (bhop H7.out.2.1 hb8))
            clear hw8 hb8 y0 y1
            go_wp2_with ((at_builtin; refine wpList_append_lies _ (by rfl) _ _ 24 (by rfl) w.heap.size 42 j0 _ 2 16 Tryd.underlying24 hj0 hy0 hy1 hy2 rfl (by decide) (.slice pA al pc) al (ak.flatMap rnc) (by rfl) (World.ownsRow.alloc H8.out.1 _) ⟨w8.heap.size, 0, none⟩ 1 1 [.int .u8 (b : Int), .int .i64 t] (by rfl) rfl (World.news_of_block (heap_alloc_new w8 _)) (by simp [Value.oneCell']) (by decide) ?c31 ?c41 ?c51 _ rfl ?_))
            case c31 =>
              have h1 := HQ.out.1
              have h2 := HAL.out
              unfold maxLen
              try simp only [List.length_append, List.length_singleton]
              omega
            case c41 =>
              have h1 := HQ.out.1
              have h2 := HAL.out
              try simp only [List.length_append, List.length_singleton]
              omega
            case c51 =>
              have h1 := H8.out.2.size
              simp
              omega
            intro gB cpB wB hown2 hgrow _ _
            have HA := Lib.hid (own_pushR (q := (b, t)) (v := .slice pA al pc) (acc := ak) (by show w8.ownsRow _ _ _ _ ak.length _; rw [← HAL.out]; exact H8.out.1) H8.out.2 H8.out.2.size (by rw [← HAL.out]; simpa using hown2) hgrow)
            clear hown2 hgrow x0 x1
            go_wp2_with fail
            have HD := Lib.hid (show OwnR wB w.heap.size (.slice (some ⟨gB, 0, none⟩) (al + 1) cpB) ((l.take (k + 1)).foldl jnS acc) from by rw [HQ.out.2.2.2.1, HJ.out, HAL.out]; exact HA.out.1)
            go_roundw
            case rel => exact ⟨k + 1, by push_cast; rfl, HQ.out.2.2.2.2.2, HD.out, HA.out.2⟩
            case measure => have := HQ.out.2.2.2.2.2; simp; omega
          · obtain ⟨pre, cc, s, hpre⟩ := snoc_of ha0
            obtain ⟨pl, hpl⟩ : ∃ n, n = pre.length := ⟨_, rfl⟩
            have hal2 : al = pl + 1 := by rw [HAL.out, hpre, hpl]; simp
            have g1 : (0 : Int) < (al : Int) := by omega
            have g2 : 0 < al := by omega
            obtain ⟨gA, cap, hv, hgA, hgl⟩ := World.ownsRow.form H7.out.1 g2
            simp only [Value.slice.injEq, true_and] at hv
            obtain ⟨rfl, rfl⟩ := hv
            have hat : ak[pl]? = some (cc, s) := by rw [hpre, hpl]; simp
            have z0 := (World.ownsRow.cellAt H7.out.1 (pl * 2) (by omega)).trans (rn_flat hat).1
            have z1 := (World.ownsRow.cellAt H7.out.1 (pl * 2 + 1) (by omega)).trans (rn_flat hat).2
            have wl : IntKind.i64.wrap ((al : Int) - 1) = (pl : Int) := by have := HQ.out.1; have := HAL.out; rw [IntKind.wrap_i64]; omega
            have k4 : (0 : Int) ≤ (pl : Int) := by omega
            have k5 : (pl : Int) < (al : Int) := by omega
            have k6 : ((pl : Int)).toNat = pl := by omega
            have HZ := Lib.hid (And.intro hpre (And.intro hpl (And.intro hat (And.intro (HQ.out.2.2.1 pre cc s hpre) hgA))))
            have HA2 := Lib.hid hal2
            clear hpre hpl hat hgA hgl ha0 z1 hal2
            by_cases he : cc = b
            · have he' : ((cc : Int) == (b : Int)) = true := by simp [he]
              have HJ := Lib.hid (show jnS ak (b, t) = pre ++ [(cc, s + t)] by rw [HZ.out.1, jnS_last, if_pos he])
              clear he
              go_wp2_with fail
              go_quiet (fail)
              obtain ⟨w8, hw8⟩ : ∃ w8, w7.drewN nq = w8 := ⟨_, rfl⟩
              rw [hw8]
              have hb8 : Below w7.heap.size w7 w8 := hw8 ▸ below_drewN (Below.refl _ w7) nq
              have x1 := (H7.out.2.2.1 w8 hb8).2
              have own8 := own_keep H7.out.1 hb8
              have z1 := (World.ownsRow.cellAt own8 (pl * 2 + 1) (by have := HA2.out; omega)).trans (rn_flat HZ.out.2.2.1).2
              have f1 := World.ownsRow.frozenAt own8 (pl * 2 + 1)
              have wst : IntKind.i64.wrap (s + t) = s + t := by
                have h1 := HZ.out.2.2.2.1
                have h2 : 1 ≤ t := HQ.out.2.1
                have h3 : s + t ≤ 4611686018427387904 := h1.2
                rw [IntKind.wrap_i64]; omega
              have hset := (World.ownsRow.stored own8 (pl * 2 + 1) (.int .i64 (s + t))).1
              rw [HZ.out.1, HZ.out.2.1, rn_set, ← HZ.out.2.1] at hset
              have HF := Lib.hid (show OwnR (w8.setCell ⟨gA, pl * 2 + 1, none⟩ (.int .i64 (s + t))).drew w.heap.size (.slice (some ⟨gA, 0, none⟩) al pc) ((l.take (k + 1)).foldl jnS acc) ∧ Below w.heap.size w (w8.setCell ⟨gA, pl * 2 + 1, none⟩ (.int .i64 (s + t))).drew from by
                refine ⟨?_, ((bhop H7.out.2.1 hb8).setCell (p := ⟨gA, pl * 2 + 1, none⟩) HZ.out.2.2.2.2 _).drew⟩
                rw [HQ.out.2.2.2.1, HJ.out]
                show World.ownsRow _ _ _ _ _ (pre ++ [(cc, s + t)]).length _
                rw [show (pre ++ [(cc, s + t)]).length = al by rw [HA2.out, HZ.out.2.1]; simp]
                exact World.ownsRow.drew hset)
              clear hw8 hb8 y0 y1 own8 hset
              go_wp2_with fail
              go_still_tail 12, (by kernel_rfl)
              change wpList _ _ _ _ _ w8.drew
              go_wp2_with fail
              go_roundw
              case rel => exact ⟨k + 1, by push_cast; rfl, HQ.out.2.2.2.2.2, HF.out.1, HF.out.2⟩
              case measure => have := HQ.out.2.2.2.2.2; simp; omega
            · have he' : ((cc : Int) == (b : Int)) = false := by simp; omega
              have HJ := Lib.hid (show jnS ak (b, t) = ak ++ [(b, t)] by rw [HZ.out.1, jnS_last, if_neg he])
              clear he
              go_wp2_with fail
              go_quiet (fail)
              obtain ⟨w8, hw8⟩ : ∃ w8, w7.drewN nq = w8 := ⟨_, rfl⟩
              rw [hw8]
              have hb8 : Below w7.heap.size w7 w8 := hw8 ▸ below_drewN (Below.refl _ w7) nq
              have x0 := (H7.out.2.2.1 w8 hb8).1
              have x1 := (H7.out.2.2.1 w8 hb8).2
              have H8 := Lib.hid (And.intro (own_keep H7.out.1 hb8) (bhop H7.out.2.1 hb8))
              clear hw8 hb8 y0 y1
              go_wp2_with ((at_builtin; refine wpList_append_lies _ (by rfl) _ _ 24 (by rfl) w.heap.size 42 j0 _ 2 16 Tryd.underlying24 hj0 hy0 hy1 hy2 rfl (by decide) (.slice (some ⟨gA, 0, none⟩) al pc) al (ak.flatMap rnc) (by rfl) (World.ownsRow.alloc H8.out.1 _) ⟨w8.heap.size, 0, none⟩ 1 1 [.int .u8 (b : Int), .int .i64 t] (by rfl) rfl (World.news_of_block (heap_alloc_new w8 _)) (by simp [Value.oneCell']) (by decide) ?c32 ?c42 ?c52 _ rfl ?_))
              case c32 =>
                have h1 := HQ.out.1
                have h2 := HAL.out
                unfold maxLen
                try simp only [List.length_append, List.length_singleton]
                omega
              case c42 =>
                have h1 := HQ.out.1
                have h2 := HAL.out
                try simp only [List.length_append, List.length_singleton]
                omega
              case c52 =>
                have h1 := H8.out.2.size
                simp
                omega
              intro gB cpB wB hown2 hgrow _ _
              have HA := Lib.hid (own_pushR (q := (b, t)) (v := .slice (some ⟨gA, 0, none⟩) al pc) (acc := ak) (by show w8.ownsRow _ _ _ _ ak.length _; rw [← HAL.out]; exact H8.out.1) H8.out.2 H8.out.2.size (by rw [← HAL.out]; simpa using hown2) hgrow)
              clear hown2 hgrow x0 x1
              go_wp2_with fail
              have HD := Lib.hid (show OwnR wB w.heap.size (.slice (some ⟨gB, 0, none⟩) (al + 1) cpB) ((l.take (k + 1)).foldl jnS acc) from by rw [HQ.out.2.2.2.1, HJ.out, HAL.out]; exact HA.out.1)
              go_roundw
              case rel => exact ⟨k + 1, by push_cast; rfl, HQ.out.2.2.2.2.2, HD.out, HA.out.2⟩
              case measure => have := HQ.out.2.2.2.2.2; simp; omega
        · have k2 : ¬ (k : Int) < (lb : Int) := by omega
          have hkl2 : k = l.length := by have := HX.out.2.1; omega
          have HE := Lib.hid (show (l.take k).foldl jnS acc = jnL (ws.take (i + 1)) by rw [hkl2, List.take_length, ← HX.out.2.2.2.2.2.2])
          clear hkl2 hown hb hk
          go_wp2_with fail
          go_roundw
          case rel => exact ⟨i + 1, by push_cast; rfl, HN.out, by rw [← HE.out]; exact HB2.out.2, HB2.out.1⟩
          case measure => have := HN.out; simp; omega
    · have s2 : ¬ (i : Int) < (ln : Int) := by omega
      have hil : i = ws.length := by have := HLN.out; omega
      have HE := Lib.hid (show acc = jnL ws by rw [hac, hil, List.take_length])
      have HO := Lib.hid hown
      clear hil hown hb hi hac
      go_wp2_with fail
      go_ret
      exact ⟨_, rfl, by rw [← HE.out]; exact HO.out, HB.out.1⟩

end Go.Proofs.YtgdblnppeeknpaaDoor
