/- What the program's Join comes to: a contract.
   Conditions: the words lie in memory; where all are formed, all together have at most 2^62 bytes. -/
import Derived.Test.YtgdblnppeeknpaaDoorRnC
import Derived.Test.YtgdblnppeeknpaaDoorRnA
import Derived.Test.YtgdblnppeeknpaaDoorRnW
namespace Go.Proofs.YtgdblnppeeknpaaDoor
open Go.RowKit

/-- What is known where one run is put behind the others. -/
theorem jn_mid {ws : List (List Rn)} {i k : Nat} {l : List Rn} {q : Rn} (hi : ws[i]? = some l) (hk : l[k]? = some q) (hpos : ∀ x ∈ ws.flatten, 1 ≤ x.2) (hsum : smL ws.flatten ≤ 4611686018427387904) :
    (∀ x ∈ (l.take k).foldl jnS (jnL (ws.take i)), 1 ≤ x.2) ∧ smL ((l.take k).foldl jnS (jnL (ws.take i))) + q.2 ≤ 4611686018427387904 ∧ 1 ≤ q.2 ∧ (jnS ((l.take k).foldl jnS (jnL (ws.take i))) q).length ≤ (jnL ws).length := by
  have hil := (List.getElem?_eq_some_iff.1 hi).1
  have hkl := (List.getElem?_eq_some_iff.1 hk).1
  have e1 : ws.flatten = ((ws.take i).flatten ++ l.take k) ++ (q :: (l.drop (k + 1) ++ (ws.drop (i + 1)).flatten)) := by
    conv => lhs; rw [← List.take_append_drop i ws, List.drop_eq_getElem_cons hil, (List.getElem?_eq_some_iff.1 hi).2, List.flatten_append, List.flatten_cons]
    conv => lhs; rw [← List.take_append_drop k l, List.drop_eq_getElem_cons hkl, (List.getElem?_eq_some_iff.1 hk).2]
    simp
  have hacc : (l.take k).foldl jnS (jnL (ws.take i)) = ((ws.take i).flatten ++ l.take k).foldl jnS [] := by unfold jnL; rw [List.foldl_append]
  have hall : jnL ws = (l.drop (k + 1) ++ (ws.drop (i + 1)).flatten).foldl jnS (jnS ((l.take k).foldl jnS (jnL (ws.take i))) q) := by
    conv => lhs; unfold jnL; rw [e1, List.foldl_append, ← hacc, List.foldl_cons]
  rw [hall]
  obtain ⟨P, hP⟩ : ∃ P, P = (ws.take i).flatten ++ l.take k := ⟨_, rfl⟩
  obtain ⟨S, hS⟩ : ∃ S, S = l.drop (k + 1) ++ (ws.drop (i + 1)).flatten := ⟨_, rfl⟩
  rw [← hP, ← hS] at e1
  rw [← hS]
  rw [hacc, ← hP]
  rw [e1] at hpos hsum
  obtain ⟨_, k2, k3, _⟩ := jn_all P [] trivial (fun x hx => by cases hx) fun x hx => hpos x (List.mem_append_left _ hx)
  have hq : 1 ≤ q.2 := hpos q (by simp)
  have hSn := smL_nn (l := S) fun x hx => hpos x (by simp [hx])
  rw [smL_app, smL_cons] at hsum
  have z : smL [] = 0 := rfl
  rw [z] at k3
  exact ⟨k2, by omega, hq, fold_ge _ _⟩
/-- What Join answers: ErrArg, ErrLimit, or what the words make. -/
def JnO (ws : List (List Rn)) (w : World) (e : Ending) (w' : World) : Prop :=
  ∃ u c, e = .returned (.tuple #[u, .int .i64 c]) ∧ Below w.heap.size w w' ∧ ((∃ l ∈ ws, fmO l = false) → c = 1 ∧ ∃ A p, u = .slice A 0 p) ∧ ((∀ l ∈ ws, fmO l = true) → (200 < (jnL ws).length → c = 3 ∧ ∃ A p, u = .slice A 0 p) ∧ ((jnL ws).length ≤ 200 → c = 0 ∧ RunsR w' (fun _ => True) u (jnL ws)))
set_option maxHeartbeats 8000000 in
set_option maxRecDepth 100000 in
theorem join12_any (w : World) (G : Nat → Prop) (v : Value) (ws : List (List Rn)) (h : WdsR w G v ws) (hL : ws.length ≤ 1000000) (hl : ∀ l ∈ ws, l.length ≤ 1000000) (hsum : (∀ l ∈ ws, fmO l = true) → smL ws.flatten ≤ 4611686018427387904) :
    Calls Tryd.prog 16 #[v] w (JnO ws w) := by
  obtain ⟨A, c, rfl, hrow⟩ := h
  have HR := Lib.hid (And.intro hrow hL)
  have HL := Lib.hid (And.intro hl hsum)
  obtain ⟨ln, hln⟩ : ∃ n, n = ws.length := ⟨_, rfl⟩
  have HLN := Lib.hid hln
  rw [← hln] at hL ⊢
  clear hrow hln hl hsum
  go_enter Tryd.func16, Tryd.ntmps16
  go_wp2_with fail
  go_loopw [13] (fun x wr => ∃ i : Nat, x = .int .i64 i ∧ i ≤ ws.length ∧ (∀ l ∈ ws.take i, fmO l = true) ∧ Below w.heap.size w wr) (fun x _ => match x with | .int _ z => ws.length - z.toNat | _ => 0)
  case atStart => exact ⟨0, rfl, by omega, by simp, Below.refl _ _⟩
  case round =>
    obtain ⟨i, rfl, hi, hall, hb⟩ := hrel
    have HB := Lib.hid (And.intro hb hall)
    by_cases hlt : i < ln
    · obtain ⟨l, hx⟩ : ∃ x, ws[i]? = some x := ⟨_, List.getElem?_eq_getElem (by have := HLN.out; omega)⟩
      obtain ⟨g, o, bv, rfl, hg, c0, hrun⟩ := HR.out.1 i l hx
      rw [← hb.cell (p := ⟨g, o + i, none⟩) hg] at c0
      have s1 : (0 : Int) ≤ (i : Int) := by omega
      have s2 : (i : Int) < (ln : Int) := by omega
      have s3 : ((i : Int)).toNat = i := by omega
      have wk : IntKind.i64.wrap ((i : Int) + 1) = (i : Int) + 1 := by rw [IntKind.wrap_i64]; omega
      have HX := Lib.hid (And.intro hx (And.intro (hrun.below hb) (show i < ws.length by have := HLN.out; omega)))
      obtain ⟨bA, bc, rfl, _⟩ := hrun
      clear hx hi hall
      go_wp2_with fail
      go_at_call 11
      refine (formed12_any wr G _ l HX.out.2.1).mono ?_
      rintro e w1 ⟨rfl, hb1⟩
      have HB1 := Lib.hid (bhop hb hb1)
      clear hb hb1 c0
      cases hf : fmO l with
      | false =>
        have HF := Lib.hid hf
        clear hf
        go_wp2_with fail
        go_ret2
        exact ⟨_, _, rfl, HB1.out, fun _ => ⟨rfl, _, _, rfl⟩, fun h => by have := h l (List.mem_of_getElem? HX.out.1); rw [HF.out] at this; cases this⟩
      | true =>
        have HF := Lib.hid hf
        clear hf
        go_wp2_with fail
        go_roundw
        case rel =>
          refine ⟨i + 1, by push_cast; rfl, HX.out.2.2, fun y hy => ?_, HB1.out⟩
          rw [List.take_add_one, HX.out.1] at hy
          rcases List.mem_append.1 hy with hy | hy
          · exact HB.out.2 y hy
          · obtain rfl : y = l := by simpa using hy
            exact HF.out
        case measure => have := HX.out.2.2; simp; omega
    · have s2 : ¬ (i : Int) < (ln : Int) := by omega
      have hil : ws.take i = ws := List.take_of_length_le (by have := HLN.out; omega)
      rw [hil] at hall
      have hpos : ∀ x ∈ ws.flatten, 1 ≤ x.2 := fun x hx => by
        obtain ⟨l, h1, h2⟩ := List.mem_flatten.1 hx
        exact ((fm_yes (hall l h1)).2.2.2 x h2).1
      have HA := Lib.hid (And.intro hall (And.intro hpos (HL.out.2 hall)))
      clear hil hi hall hpos
      have H0 := Lib.hid (show Below w.heap.size w (wr.alloc (.cells #[.slice none 0 0, .int .i64 0] 46)) ∧ LstI (wr.alloc (.cells #[.slice none 0 0, .int .i64 0] 46)) w.heap.size wr.heap.size [] from
        ⟨hb.alloc hb.size _, _, heap_alloc_new wr _, hb.size, World.ownsRow_nil _ _ _ _⟩)
      obtain ⟨bl, hbl⟩ : ∃ n, n = wr.heap.size := ⟨_, rfl⟩
      rw [← hbl] at H0
      go_wp2_with fail
      rw [← hbl]
      clear hb hbl
      go_loopw [23] (fun x wq => ∃ i : Nat, x = .int .i64 i ∧ i ≤ ws.length ∧ LstI wq w.heap.size bl (jnL (ws.take i)) ∧ (jnL (ws.take i)).length ≤ 200 ∧ Below w.heap.size w wq) (fun x _ => match x with | .int _ z => ws.length - z.toNat | _ => 0)
      case atStart => exact ⟨0, rfl, by omega, H0.out.2, by simp [jnL], H0.out.1⟩
      case round =>
        obtain ⟨i, rfl, hi, hlst, h200, hb⟩ := hrel
        have HB2 := Lib.hid (And.intro hb (And.intro hlst h200))
        by_cases hlt : i < ln
        · obtain ⟨l, hx⟩ : ∃ x, ws[i]? = some x := ⟨_, List.getElem?_eq_getElem (by have := HLN.out; omega)⟩
          obtain ⟨g, o, bv, rfl, hg, c0, bA, bc, rfl, hrun⟩ := HR.out.1 i l hx
          rw [← hb.cell (p := ⟨g, o + i, none⟩) hg] at c0
          have s1 : (0 : Int) ≤ (i : Int) := by omega
          have s2 : (i : Int) < (ln : Int) := by omega
          have s3 : ((i : Int)).toNat = i := by omega
          have wk : IntKind.i64.wrap ((i : Int) + 1) = (i : Int) + 1 := by rw [IntKind.wrap_i64]; omega
          obtain ⟨lb, hlb⟩ : ∃ n, n = l.length := ⟨_, rfl⟩
          rw [← hlb] at c0
          have HX := Lib.hid (And.intro hx (And.intro hlb (And.intro hrun (And.intro (show i < ws.length by have := HLN.out; omega) (HL.out.1 l (List.mem_of_getElem? hx))))))
          obtain ⟨acc, hac⟩ : ∃ a, a = jnL (ws.take i) := ⟨_, rfl⟩
          rw [← hac] at hlst h200
          have HAC := Lib.hid hac
          clear hx hi hrun hlb hac
          go_wp2_with fail
          have HS := Lib.hid (And.intro hlst (And.intro h200 hb))
          clear hlst h200 hb c0
          go_loopw [29] (fun x wq => ∃ k : Nat, x = .int .i64 k ∧ k ≤ l.length ∧ LstI wq w.heap.size bl ((l.take k).foldl jnS acc) ∧ ((l.take k).foldl jnS acc).length ≤ 200 ∧ Below w.heap.size w wq) (fun x _ => match x with | .int _ z => l.length - z.toNat | _ => 0)
          case atStart => exact ⟨0, rfl, by omega, HS.out.1, HS.out.2.1, HS.out.2.2⟩
          case round =>
            obtain ⟨k, rfl, hk, hlst, h200, hb⟩ := hrel
            by_cases hkl : k < lb
            · obtain ⟨⟨b, t⟩, hx⟩ : ∃ x, l[k]? = some x := ⟨_, List.getElem?_eq_getElem (by have := HX.out.2.1; omega)⟩
              obtain ⟨gr, or, rfl, _, hgr, c0, c1⟩ := HX.out.2.2.1 k b t hx
              rw [← hb.cell (p := ⟨gr, or + k * 2, none⟩) hgr] at c0
              rw [← hb.cell (p := ⟨gr, or + k * 2 + 1, none⟩) hgr] at c1
              have k1 : (0 : Int) ≤ (k : Int) := by omega
              have k2 : (k : Int) < (lb : Int) := by omega
              have k3 : ((k : Int)).toNat = k := by omega
              have wk2 : IntKind.i64.wrap ((k : Int) + 1) = (k : Int) + 1 := by have := HX.out.2.1; have := HX.out.2.2.2.2; rw [IntKind.wrap_i64]; omega
              obtain ⟨m1, m2, m3, m4⟩ := jn_mid HX.out.1 hx HA.out.2.1 HA.out.2.2
              have hst := fold_step (acc := acc) hx
              rw [← HAC.out] at m1 m2 m4
              have HM := Lib.hid (And.intro m1 (And.intro (show smL ((l.take k).foldl jnS acc) + t ≤ 4611686018427387904 from m2) (And.intro (show 1 ≤ t from m3) (And.intro m4 (And.intro hst (And.intro (show k < l.length by have := HX.out.2.1; omega) h200))))))
              obtain ⟨w7, hw7, hb7, hq7⟩ : ∃ w7, wr.alloc (.cells #[.int .u8 (b : Int), .int .i64 t] 42) = w7 ∧ Below wr.heap.size wr w7 ∧ w7.heap[wr.heap.size]? = some (.cells #[.int .u8 (b : Int), .int .i64 t] 42 (0, 0)) := ⟨_, rfl, (Below.refl _ wr).alloc (Nat.le_refl _) _, heap_alloc_new wr _⟩
              obtain ⟨y0, y1, _⟩ := two_cells hq7
              have H7 := Lib.hid (And.intro (hlst.below hb7) (And.intro (bhop hb hb7) (show w.heap.size ≤ w7.heap.size by have := hb.size; have := hb7.size; omega)))
              clear hx hk hlst h200 hb m1 m2 m3 m4 hst hb7 hq7
              go_upto_region 14 with fail
              clear hw7 c0 c1
              go_wp2_with fail
              go_at_call 18
              refine (put12_any w7 w.heap.size bl _ b t H7.out.1 H7.out.2.2 HM.out.1 (by have := HM.out.2.1; have := HM.out.2.2.1; omega) HM.out.2.2.2.2.2.2 HM.out.2.2.1 (by have := HM.out.2.1; have := smL_nn HM.out.1; omega)).mono ?_
              rintro e w8 ⟨hb8, h | h⟩
              · obtain ⟨rfl, h⟩ := h
                have HD := Lib.hid (show 200 < (jnL ws).length by
                  rcases h with h | h
                  · have := HM.out.2.1; omega
                  · exact Nat.lt_of_lt_of_le h HM.out.2.2.2.1)
                have HB8 := Lib.hid (H7.out.2.1.trans hb8)
                clear h hb8 y0 y1
                go_wp2_with fail
                go_ret2
                exact ⟨_, _, rfl, HB8.out, fun ⟨y, h1, h2⟩ => (by rw [HA.out.1 y h1] at h2; cases h2), fun _ => ⟨fun _ => ⟨rfl, _, _, rfl⟩, fun h => (by have := HD.out; omega)⟩⟩
              · obtain ⟨rfl, _, hl2, hlst2⟩ := h
                rw [← HM.out.2.2.2.2.1] at hl2 hlst2
                have HB8 := Lib.hid (And.intro (H7.out.2.1.trans hb8) (And.intro hl2 hlst2))
                clear hb8 y0 y1 hl2 hlst2
                go_wp2_with fail
                go_roundw
                case rel => exact ⟨k + 1, by push_cast; rfl, HM.out.2.2.2.2.2.1, HB8.out.2.2, HB8.out.2.1, HB8.out.1⟩
                case measure => have := HM.out.2.2.2.2.2.1; simp; omega
            · have k2 : ¬ (k : Int) < (lb : Int) := by omega
              have hkl2 : k = l.length := by have := HX.out.2.1; omega
              have hj := jnL_succ HX.out.1
              rw [← HAC.out] at hj
              rw [hkl2, List.take_length, ← hj] at hlst h200
              have HE := Lib.hid (And.intro hlst (And.intro h200 hb))
              clear hkl2 hlst h200 hb hk hj
              go_wp2_with fail
              go_roundw
              case rel => exact ⟨i + 1, by push_cast; rfl, HX.out.2.2.2.1, HE.out.1, HE.out.2.1, HE.out.2.2⟩
              case measure => have := HX.out.2.2.2.1; simp; omega
        · have s2 : ¬ (i : Int) < (ln : Int) := by omega
          have hil : ws.take i = ws := List.take_of_length_le (by have := HLN.out; omega)
          rw [hil] at hlst h200
          obtain ⟨vA, vc, d0, hown⟩ := hlst.out
          have HO := Lib.hid (And.intro hown.row (And.intro h200 hb))
          clear hil hlst hi hown h200 hb
          go_wp2_with fail
          go_ret2
          exact ⟨_, _, rfl, HO.out.2.2, fun ⟨y, h1, h2⟩ => (by rw [HA.out.1 y h1] at h2; cases h2), fun _ => ⟨fun h => (by have := HO.out.2.1; omega), fun _ => ⟨rfl, HO.out.1.mono fun _ _ _ => trivial⟩⟩⟩

end Go.Proofs.YtgdblnppeeknpaaDoor
