/- What the program's measured, Formed and Size of words in runs come to: contracts.
   Conditions: the word lies in memory. -/
import Derived.Test.YtgdblnppeeknpaaDoorRnMR
namespace Go.Proofs.YtgdblnppeeknpaaDoor
open Go.RowKit

set_option maxHeartbeats 8000000 in
set_option maxRecDepth 100000 in
theorem measured_any (w : World) (G : Nat → Prop) (v : Value) (l : List Rn) (h : RunsR w G v l) :
    Calls Tryd.prog 19 #[v] w fun e w' => e = .returned (.tuple #[.int .i64 (fmN l), .bool (fmO l)]) ∧ Below w.heap.size w w' := by
  obtain ⟨A, c, rfl, hrow⟩ := h
  have HR := Lib.hid hrow
  obtain ⟨ln, hln⟩ : ∃ n, n = l.length := ⟨_, rfl⟩
  have HLN := Lib.hid hln
  rw [← hln]
  clear hrow hln
  go_enter Tryd.func19, Tryd.ntmps19
  by_cases h200 : 200 < ln
  · have g9 : (200 : Int) < (ln : Int) := by omega
    have HD := Lib.hid (show fmB l = none by unfold fmB; rw [if_pos (by have := HLN.out; omega)])
    go_wp2_with fail
    exact bodyPost_ret (v := .tuple #[.int .i64 0, .bool false]) (by simp [results, Tryd.results19, go_sem]) rfl ⟨by rw [fmN, fmO, HD.out]; rfl, Below.refl _ _⟩
  have g9 : ¬ (200 : Int) < (ln : Int) := by omega
  go_wp2_with fail
  go_loopw [4, 12] (fun z x wr => ∃ (i : Nat) (n : Int), x = .int .i64 i ∧ z = .int .i64 n ∧ FmI w l i n wr) (fun _ x _ => match x with | .int _ z => l.length - z.toNat | _ => 0)
  case atStart => exact ⟨0, 0, rfl, rfl, by omega, rfl, by omega, by omega, rfl, Below.refl _ _⟩
  case round =>
    obtain ⟨i, n, rfl, rfl, hi, hn, h0, h1, hf, hb⟩ := hrel
    have HB := Lib.hid hb
    have HN := Lib.hid (And.intro hn hi)
    by_cases hlt : i < ln
    · have hlt' : i < l.length := by have := HLN.out; omega
      obtain ⟨⟨b, t⟩, hx⟩ : ∃ x, l[i]? = some x := ⟨_, List.getElem?_eq_getElem hlt'⟩
      obtain ⟨g, o, rfl, _, hg, c0, c1⟩ := HR.out i b t hx
      rw [← hb.cell (p := ⟨g, o + i * 2, none⟩) hg] at c0
      rw [← hb.cell (p := ⟨g, o + i * 2 + 1, none⟩) hg] at c1
      have s1 : (0 : Int) ≤ (i : Int) := by omega
      have s2 : (i : Int) < (ln : Int) := by omega
      have s3 : ((i : Int)).toNat = i := by omega
      have wk : IntKind.i64.wrap ((i : Int) + 1) = (i : Int) + 1 := by rw [IntKind.wrap_i64]; omega
      have ws : IntKind.i64.wrap (4611686018427387904 - n) = 4611686018427387904 - n := by rw [IntKind.wrap_i64]; omega
      rw [fmL_step hx] at hf
      have HF := Lib.hid hf
      have HX := Lib.hid (And.intro hx hlt')
      obtain ⟨w7, hw7, hb7, hq7⟩ : ∃ w7, wr.alloc (.cells #[.int .u8 (b : Int), .int .i64 t] 42) = w7 ∧ Below wr.heap.size wr w7 ∧ w7.heap[wr.heap.size]? = some (.cells #[.int .u8 (b : Int), .int .i64 t] 42 (0, 0)) := ⟨_, rfl, (Below.refl _ wr).alloc (Nat.le_refl _) _, heap_alloc_new wr _⟩
      have hbx : ∀ W, Below w7.heap.size w7 W → W.cell? ⟨wr.heap.size, 0, none⟩ = some (.int .u8 (b : Int)) ∧ W.cell? ⟨wr.heap.size, 1, none⟩ = some (.int .i64 t) := fun W h => by
        have := (h.block _ (Array.getElem?_eq_some_iff.1 hq7).1).trans hq7
        exact ⟨((row_cells this).1 0).trans rfl, ((row_cells this).1 1).trans rfl⟩
      have H7 := Lib.hid (And.intro (bhop hb hb7) hbx)
      have hg7 : g < w7.heap.size := by have := hb.size; have := hb7.size; omega
      have HB7 := Lib.hid hb7
      clear hf hx hn hi hb7 hq7 hbx
      by_cases g1 : t < 1
      · have HD := Lib.hid (show fmB l = none from fm_no (by rw [HF.out, if_pos (.inl g1)]))
        clear hb
        go_upto_region 7 with fail
        clear hw7
        refine regMa i ln c g o wr.heap.size t n _ _ _ _ _ _ _ _ _ _ _ _ _ _ _ _ _ _ _ _ _ _ _ _ _ _ _ _ _ _ _ _ _ _ _ _ _ _ _ _ _ _ _ _ _ w7 (fun W h => (H7.out.2 W h).2) g1 _ ?_
        intros
        rename_i W' hW'
        have HW := Lib.hid (bhop H7.out.1 hW')
        clear hW'
        go_wp2_with fail
        exact bodyPost_ret (v := .tuple #[.int .i64 0, .bool false]) (by simp [results, Tryd.results19, go_sem]) rfl ⟨by rw [fmN, fmO, HD.out]; rfl, HW.out⟩
      · by_cases g2 : 4611686018427387904 - n < t
        · have HD := Lib.hid (show fmB l = none from fm_no (by rw [HF.out, if_pos (.inr (.inl g2))]))
          clear hb
          go_upto_region 7 with fail
          clear hw7
          refine regMb i ln c g o wr.heap.size t n _ _ _ _ _ _ _ _ _ _ _ _ _ _ _ _ _ _ _ _ _ _ _ _ _ _ _ _ _ _ _ _ _ _ _ _ _ _ _ _ _ _ _ _ _ w7 (fun W h => (H7.out.2 W h).2) g1 ws g2 _ ?_
          intros
          rename_i W' hW'
          have HW := Lib.hid (bhop H7.out.1 hW')
          clear hW'
          go_wp2_with fail
          exact bodyPost_ret (v := .tuple #[.int .i64 0, .bool false]) (by simp [results, Tryd.results19, go_sem]) rfl ⟨by rw [fmN, fmO, HD.out]; rfl, HW.out⟩
        · have wn : IntKind.i64.wrap (n + t) = n + t := by rw [IntKind.wrap_i64]; omega
          have H01 := Lib.hid (And.intro h0 h1)
          clear h0 h1
          by_cases g3 : 0 < i
          · have g3' : (0 : Int) < (i : Int) := by omega
            obtain ⟨k, hk⟩ : ∃ k, i = k + 1 := ⟨i - 1, by omega⟩
            obtain ⟨⟨b', t'⟩, hx'⟩ : ∃ x, l[k]? = some x := ⟨_, List.getElem?_eq_getElem (by omega)⟩
            obtain ⟨g', o', hA', _, hg', c2, _⟩ := HR.out k b' t' hx'
            simp only [Option.some.injEq, Addr.mk.injEq, and_true] at hA'
            obtain ⟨rfl, rfl⟩ := hA'
            rw [← H7.out.1.cell (p := ⟨g, o + k * 2, none⟩) hg] at c2
            have wm : IntKind.i64.wrap ((i : Int) - 1) = (k : Int) := by rw [IntKind.wrap_i64]; omega
            have k1 : (0 : Int) ≤ (k : Int) := by omega
            have k2 : (k : Int) < (ln : Int) := by omega
            have k3 : ((k : Int)).toNat = k := by omega
            have hpv : pvB l i = some b' := by rw [hk]; exact pvB_succ hx'
            have HP := Lib.hid hpv
            clear hpv hx' hk hb
            by_cases g4 : b' = b
            · have g4' : ((b' : Int) == (b : Int)) = true := by simp [g4]
              have HD := Lib.hid (show fmB l = none from fm_no (by rw [HF.out, HP.out, g4, if_pos (.inr (.inr rfl))]))
              clear g4
              go_upto_region 7 with fail
              clear hw7
              refine regMd i k ln c g o wr.heap.size b b' t n true _ _ _ _ _ _ _ _ _ _ _ _ _ _ _ _ _ _ _ _ _ _ _ _ _ _ _ _ _ _ _ _ _ _ _ _ _ _ _ _ _ _ _ _ _ w7 (fun W h => (H7.out.2 W h).2) g1 ws g2 g3' (fun W h => (H7.out.2 W h).1) (fun W h => (h.cell (p := ⟨g, o + k * 2, none⟩) hg7).trans c2) wm k1 k2 k3 g4' _ ?_
              intros
              rename_i W' hW'
              have HW := Lib.hid (bhop H7.out.1 hW')
              clear hW'
              go_wp2_with fail
              exact bodyPost_ret (v := .tuple #[.int .i64 0, .bool false]) (by simp [results, Tryd.results19, go_sem]) rfl ⟨by rw [fmN, fmO, HD.out]; rfl, HW.out⟩
            · have g4' : ((b' : Int) == (b : Int)) = false := by simp; omega
              have HD := Lib.hid (fun (W : World) (hW : Below w.heap.size w W) => show FmI w l (i + 1) (n + t) W from ⟨HX.out.2, by rw [smL_snoc HX.out.1, ← HN.out.1], by have := H01.out; omega, by omega, by rw [HF.out, HP.out, if_neg (by rintro (h | h | h); exact g1 h; exact g2 h; exact g4 (Option.some.inj h)), pvB_succ HX.out.1], hW⟩)
              clear g4
              go_upto_region 7 with fail
              clear hw7
              refine regMd i k ln c g o wr.heap.size b b' t n false _ _ _ _ _ _ _ _ _ _ _ _ _ _ _ _ _ _ _ _ _ _ _ _ _ _ _ _ _ _ _ _ _ _ _ _ _ _ _ _ _ _ _ _ _ w7 (fun W h => (H7.out.2 W h).2) g1 ws g2 g3' (fun W h => (H7.out.2 W h).1) (fun W h => (h.cell (p := ⟨g, o + k * 2, none⟩) hg7).trans c2) wm k1 k2 k3 g4' _ ?_
              intros
              rename_i W' hW'
              have HW := Lib.hid (bhop H7.out.1 hW')
              have c3 := (H7.out.2 W' hW').2
              clear hW'
              go_wp2_with fail
              go_roundw
              case rel => exact ⟨i + 1, n + t, by push_cast; rfl, rfl, HD.out _ HW.out⟩
              case measure => have := HX.out.2; simp; omega
          · have g3' : ¬ (0 : Int) < (i : Int) := by omega
            have hi0 : i = 0 := by omega
            have HD := Lib.hid (fun (W : World) (hW : Below w.heap.size w W) => show FmI w l (i + 1) (n + t) W from ⟨HX.out.2, by rw [smL_snoc HX.out.1, ← HN.out.1], by have := H01.out; omega, by omega, by rw [HF.out, if_neg (by rw [hi0]; rintro (h | h | h); exact g1 h; exact g2 h; cases h), pvB_succ HX.out.1], hW⟩)
            clear hi0 hb
            go_upto_region 7 with fail
            clear hw7
            refine regMc i ln c g o wr.heap.size t n _ _ _ _ _ _ _ _ _ _ _ _ _ _ _ _ _ _ _ _ _ _ _ _ _ _ _ _ _ _ _ _ _ _ _ _ _ _ _ _ _ _ _ _ _ w7 (fun W h => (H7.out.2 W h).2) g1 ws g2 g3' _ ?_
            intros
            rename_i W' hW'
            have HW := Lib.hid (bhop H7.out.1 hW')
            have c3 := (H7.out.2 W' hW').2
            clear hW'
            go_wp2_with fail
            go_roundw
            case rel => exact ⟨i + 1, n + t, by push_cast; rfl, rfl, HD.out _ HW.out⟩
            case measure => have := HX.out.2; simp; omega
    · have s2 : ¬ (i : Int) < (ln : Int) := by omega
      have hil : i = l.length := by have := HLN.out; omega
      rw [hil, List.drop_length, fmL] at hf
      have HD := Lib.hid (show fmB l = some n by unfold fmB; rw [if_neg (by have := HLN.out; omega)]; exact hf)
      clear hf hn hi hb
      go_wp2_with fail
      exact bodyPost_ret (v := .tuple #[.int .i64 n, .bool true]) (by simp [results, Tryd.results19, go_sem]) rfl ⟨by rw [fmN, fmO, HD.out]; rfl, HB.out⟩

theorem fmO_len {l : List Rn} (h : fmO l = true) : l.length ≤ 200 := by
  unfold fmO at h
  unfold fmB at h
  split at h
  · cases h
  · omega
theorem formed12_any (w : World) (G : Nat → Prop) (v : Value) (l : List Rn) (h : RunsR w G v l) :
    Calls Tryd.prog 11 #[v] w fun e w' => e = .returned (.bool (fmO l)) ∧ Below w.heap.size w w' := by
  have HM := Lib.hid (measured_any w G v l h)
  obtain ⟨A, c, rfl, _⟩ := h
  go_enter Tryd.func11, Tryd.ntmps11
  go_wp2_with fail
  go_at_call 19
  refine HM.out.mono ?_
  rintro e w1 ⟨rfl, hb⟩
  have HB := Lib.hid hb
  clear hb
  go_wp2_with fail
  go_ret
  exact ⟨rfl, HB.out⟩
theorem size12_any (w : World) (G : Nat → Prop) (v : Value) (l : List Rn) (h : RunsR w G v l) :
    Calls Tryd.prog 12 #[v] w fun e w' => e = .returned (.int .i64 (fmN l)) ∧ Below w.heap.size w w' := by
  have HM := Lib.hid (measured_any w G v l h)
  obtain ⟨A, c, rfl, _⟩ := h
  go_enter Tryd.func12, Tryd.ntmps12
  go_wp2_with fail
  go_at_call 19
  refine HM.out.mono ?_
  rintro e w1 ⟨rfl, hb⟩
  have HB := Lib.hid hb
  clear hb
  go_wp2_with fail
  go_ret
  exact ⟨rfl, HB.out⟩

end Go.Proofs.YtgdblnppeeknpaaDoor
