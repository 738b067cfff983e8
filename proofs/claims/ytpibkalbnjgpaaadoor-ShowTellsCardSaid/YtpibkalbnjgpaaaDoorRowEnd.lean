/- What the call that ends a row of a group comes to: a contract.
   Conditions: those that the theorem states. -/
import Derived.Test.YtpibkalbnjgpaaaDoorPut
namespace Go.Proofs.YtpibkalbnjgpaaaDoor
open Go.RowKit

theorem news_kept {w wj : World} (h : Below ((w.alloc (.cells #[.int .i64 0, .int .u64 0, .int .u64 0, .int .u64 0, .int .u64 0, .slice none 0 0, .int .i64 0, .int .i64 0] 27)).drew).heap.size ((w.alloc (.cells #[.int .i64 0, .int .u64 0, .int .u64 0, .int .u64 0, .int .u64 0, .slice none 0 0, .int .i64 0, .int .i64 0] 27)).drew) wj) :
    ∀ j u, zndc[j]? = some u → wj.cell? ((⟨w.heap.size, 0, none⟩ : Addr).add j) = some u := by
  intro j u hu
  rw [← news_zero w _ rfl j u hu]
  refine World.cell?_of_block (w := (w.alloc (.cells #[.int .i64 0, .int .u64 0, .int .u64 0, .int .u64 0, .int .u64 0, .slice none 0 0, .int .i64 0, .int .i64 0] 27)).drew) (h.block _ ?_)
  have e : ((⟨w.heap.size, 0, none⟩ : Addr).add j).block = w.heap.size := by unfold Addr.add; split <;> rfl
  rw [e]
  simp

set_option maxHeartbeats 8000000 in
set_option maxRecDepth 100000 in
theorem rowEnd_any (w : World) (base B o n n2 : Nat) (v : Value) (A2 : Option Addr) (cp2 : Nat) (sa : Option Addr) (sn sc : Nat) (xs : List Value) (k c0 c1 c2 c3 lo up : Int) (hv : w.cell? ⟨B, o, none⟩ = some v) (hv2 : w.cell? ⟨B, o + 1, none⟩ = some (.slice A2 n2 cp2)) (hf : ∀ x, w.frozen? ⟨B, x, none⟩ = false) (hB : B < w.heap.size)
    (hown : w.ownsRow base 27 8 v n xs) (hne : v.ownBlock ≠ some B) (hn : n ≤ 1000) (hbase : base ≤ w.heap.size)
    (hj : ∀ w1, Chg (fun _ => False) w w1 → Calls Tryd.prog 54 #[.int .i64 2, .slice A2 n2 cp2] w1 fun e w' => e = .returned (.agg #[.int .i64 k, .int .u64 c0, .int .u64 c1, .int .u64 c2, .int .u64 c3, .slice sa sn sc, .int .i64 lo, .int .i64 up]) ∧ Below w1.heap.size w1 w') :
    Calls Tryd.prog 50 #[.pointer (some ⟨B, o, none⟩)] w fun e w' =>
      e = .returned (.tuple #[]) ∧ ∃ wm, Added base B o v xs n [.int .i64 k, .int .u64 c0, .int .u64 c1, .int .u64 c2, .int .u64 c3, .slice sa sn sc, .int .i64 lo, .int .i64 up] w wm ∧ w' = wm.setCell ⟨B, o + 1, none⟩ (.slice none 0 0) := by
  obtain ⟨i0, hi, hz0, hz1, hz2⟩ := info_parts info27
  have hn1 : (0 : Int) ≤ (n : Int) := by omega
  have hn2 : (n : Int) < (n : Int) + 1 := by omega
  have hx := Lib.hid hown.1
  have HJ := Lib.hid hj
  have hf1 := hf o
  have hf2 := hf (o + 1)
  clear hj hf
  obtain ⟨A, cp, rfl⟩ := own_form hown
  have HOWN := Lib.hid hown
  clear hown
  go_enter Tryd.func50, Tryd.ntmps50
  go_wp2_with fail
  go_region_law (first
    | (refine step_append_lies _ rfl _ _ 25 rfl base 27 i0 _ 8 80 Tryd.underlying25 hi hz0 hz1 hz2 rfl (by decide) (.slice A n cp) n xs rfl (own_chg HOWN.out HC.out (fun _ _ h => h)) ⟨w.heap.size, 0, none⟩ 1 1 zndc rfl rfl (news_kept HB.out) one_zndc (by decide) (by unfold maxLen; omega) (by omega) (Nat.le_trans hbase HC.out.size) _ rfl ?_; intro g cap w2 hown2 hgrow hg hlt; have HW := Lib.hid HC.out; obtain ⟨⟨e0, e1, e2, e3⟩, ⟨e4, e5, e6, e7⟩, ef⟩ := app_cells hown2 hx.out; obtain ⟨b1, b2, b3, b4, _⟩ := app_field (x := o) hgrow HW.out hB hne hg hv hf1; obtain ⟨b6, b7, _, _, _⟩ := app_field (x := o + 1) hgrow HW.out hB hne hg hv2 hf2; have HO := Lib.hid (And.intro hown2 (And.intro hgrow (And.intro hg hlt))); clear hown2 hgrow hg hlt)
    | (refine step_append_lies _ rfl _ _ 25 rfl base 27 i0 _ 8 80 Tryd.underlying25 hi hz0 hz1 hz2 rfl (by decide) (.slice A n cp) n xs rfl ((own_chg HOWN.out HC.out (fun _ _ h => h)).alloc _) ⟨_, 0, none⟩ 1 1 zndc rfl rfl (news_zero _ _ rfl) one_zndc (by decide) (by unfold maxLen; omega) (by omega) (by have := HC.out.size; simp; omega) _ rfl ?_; intro g cap w2 hown2 hgrow hg hlt; have HW := Lib.hid (HC.out.alloc (.cells #[.int .i64 0, .int .u64 0, .int .u64 0, .int .u64 0, .int .u64 0, .slice none 0 0, .int .i64 0, .int .i64 0] 27)); obtain ⟨⟨e0, e1, e2, e3⟩, ⟨e4, e5, e6, e7⟩, ef⟩ := app_cells hown2 hx.out; obtain ⟨b1, b2, b3, b4, _⟩ := app_field (x := o) hgrow HW.out hB hne hg hv hf1; obtain ⟨b6, b7, _, _, _⟩ := app_field (x := o + 1) hgrow HW.out hB hne hg hv2 hf2; have HO := Lib.hid (And.intro hown2 (And.intro hgrow (And.intro hg hlt))); clear hown2 hgrow hg hlt)
    | (go_simp; refine (HJ.out _ (by first | exact (Chg.refl _ _).drew | exact ((Chg.refl _ _).alloc _).drew)).mono ?_; rintro e wj ⟨rfl, hbj⟩; have hcj : Chg (fun _ => False) w wj := Chg.trans (by first | exact (Chg.refl _ _).drew | exact ((Chg.refl _ _).alloc _).drew) (Chg.of_below (R := fun _ => False) hbj) (fun _ _ h => h); have HB := Lib.hid hbj; have HC := Lib.hid hcj; have y0 := Nat.lt_of_lt_of_le hB hcj.size; have y1 := (hcj.cell o hB (fun h => h)).trans hv; have y2 := (hcj.cell (o + 1) hB (fun h => h)).trans hv2; clear hbj hcj))
  all_goals
    go_wp2_with fail
    go_end0
    obtain ⟨hown2, hgrow, hg, hlt⟩ := HO.out
    refine ⟨rfl, _, ?_, rfl⟩
    first
      | (with_reducible exact added_l hgrow HW.out hB hne hg hlt hv hf1 hx.out hown2)
      | (with_reducible exact added_r hgrow HW.out hB hne hg hlt hv hf1 hx.out hown2)

end Go.Proofs.YtpibkalbnjgpaaaDoor
