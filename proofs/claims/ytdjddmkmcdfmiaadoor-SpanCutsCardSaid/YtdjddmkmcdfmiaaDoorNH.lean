/- What a node of the list reaches, all of whose parts are gone through: the contract.
   Conditions: the list, the tree and the word lie in memory. -/
import Derived.Test.YtdjddmkmcdfmiaaDoorNF
import Derived.StillTailTactics
import Derived.Lib.SliceRun

/- A node of the list: which part comes next, what is put to it, what it reaches: contracts.
   Conditions: the list lies in memory. -/
namespace Go.Proofs.YtdjddmkmcdfmiaaDoor
open Go.RowKit Go.Shelf

/-- What next does. -/
def NextO (w : World) (B g cap n j fl : Nat) (P : Nat → Nat × Nat) (ou fi : Nat → Nat) (sz : Nat → Int) (fr tt : Nat → Nat) (md : Nat → Value) (r : Nat) (bl : Bool) (w' : World) : Prop :=
  ∃ fr' tt', TabO w' B g cap n (entM P ou fi sz fr' tt' md) ∧ Chg (fun k => k = g) w w' ∧
    ((tt j < fl ∧ bl = true ∧ r = tt j ∧ fr' = fr ∧ tt' = fupd tt j (tt j + 1)) ∨ (fl ≤ tt j ∧ fi j < fr j ∧ bl = true ∧ r = fr j - 1 ∧ fr' = fupd fr j (fr j - 1) ∧ tt' = tt) ∨ (fl ≤ tt j ∧ fr j ≤ fi j ∧ bl = false ∧ fr' = fr ∧ tt' = tt))
set_option maxHeartbeats 4000000 in
set_option maxRecDepth 100000 in
theorem nextN_any (B g cap n j : Nat) (P : Nat → Nat × Nat) (ou fi : Nat → Nat) (sz : Nat → Int) (fr tt : Nat → Nat) (md : Nat → Value) (x : V) (w : World) (h : TabO w B g cap n (entM P ou fi sz fr tt md)) (hj : j < n) (hx : NodeAt w (P j).1 (P j).2 x) (hb : fi j + x.ps.length ≤ 1000000) (ht : tt j ≤ 1000000) (hf : fr j ≤ 1000000) :
    Calls Tryd.prog 39 #[.pointer (some ⟨g, j * 7, none⟩)] w fun e w' => ∃ (r : Nat) (bl : Bool), e = .returned (.tuple #[.int .i64 (r : Nat), .bool bl]) ∧ NextO w B g cap n j (fi j + x.ps.length) P ou fi sz fr tt md r bl w' := by
  obtain ⟨x0, _, x2, _, x4, x5, _⟩ := ent_cells h hj
  obtain ⟨R, hR⟩ := hx.laid
  obtain ⟨sa, sc, hv, _⟩ := laid_row' hR
  obtain ⟨_, _, _, _, _, c5, _, _⟩ := node_cells hx.cell hx.lt (Below.refl _ _)
  rw [hv] at c5
  obtain ⟨pn, hpn⟩ : ∃ pn, pn = x.ps.length := ⟨_, rfl⟩
  rw [← hpn] at c5 hb ⊢
  have f4 := h.frozenAt (j * 7 + 4)
  have f5 := h.frozenAt (j * 7 + 5)
  have hw1 : IntKind.i64.wrap ((fi j : Int) + (pn : Int)) = ((fi j + pn : Nat) : Int) := by rw [IntKind.wrap_i64]; omega
  have HH := Lib.hid (And.intro h hj)
  clear h hR hv hpn hx
  go_enter Tryd.func39, Tryd.ntmps39
  go_wp2_with fail
  by_cases h1 : tt j < fi j + pn
  · have g1 : ((tt j : Nat) : Int) < ((fi j + pn : Nat) : Int) := by omega
    have H1 := Lib.hid h1
    have hw2 : IntKind.i64.wrap ((tt j : Int) + 1) = ((tt j + 1 : Nat) : Int) := by rw [IntKind.wrap_i64]; omega
    have hw3 : IntKind.i64.wrap (((tt j + 1 : Nat) : Int) - 1) = ((tt j : Nat) : Int) := by rw [IntKind.wrap_i64]; omega
    clear h1
    go_still_tail 18, (by kernel_rfl)
    go_wp2_with fail
    go_ret2
    refine ⟨tt j, true, rfl, fr, fupd tt j (tt j + 1), ?_, (Chg.refl _ w).drew.trans (chg_set _ g _ _) fun _ _ e => e, .inl ⟨H1.out, rfl, rfl, rfl, rfl⟩⟩
    exact tabO_congr (tabO_set (tabO_keep (w' := w.drew) HH.out.1 rfl) (j := j) (k := 5) (by omega) (.int .i64 ((tt j + 1 : Nat) : Int))) (M' := entM P ou fi sz fr (fupd tt j (tt j + 1)) md) (fun j' _ k hk => (upd_ent j j' k hk).2.2.2.1 _)
  · have g1 : ¬ ((tt j : Nat) : Int) < ((fi j + pn : Nat) : Int) := by omega
    have H1 := Lib.hid h1
    clear h1
    by_cases h2 : fi j < fr j
    · have g2 : ((fi j : Nat) : Int) < ((fr j : Nat) : Int) := by omega
      have hw2 : IntKind.i64.wrap ((fr j : Int) - 1) = ((fr j - 1 : Nat) : Int) := by rw [IntKind.wrap_i64]; omega
      have H2 := Lib.hid h2
      clear h2
      go_still_tail 18, (by kernel_rfl)
      go_wp2_with fail
      have hT1 : TabO w.drew B g cap n (entM P ou fi sz fr tt md) := tabO_keep HH.out.1 rfl
      have hc1 : Chg (fun k => k = g) w w.drew := (Chg.refl _ w).drew
      clear x0 x2 x4 x5 c5 f4 f5
      generalize w.drew = w1 at *
      obtain ⟨_, _, x2, _, x4, _, _⟩ := ent_cells hT1 hj
      have f4 := hT1.frozenAt (j * 7 + 4)
      have HH1 := Lib.hid (And.intro hT1 hc1)
      clear hT1 hc1
      go_still_tail 9, (by kernel_rfl)
      go_wp2_with fail
      go_ret2
      refine ⟨fr j - 1, true, rfl, fupd fr j (fr j - 1), tt, ?_, (HH1.out.2.drew).trans (chg_set _ g _ _) fun _ _ e => e, .inr (.inl ⟨by have := H1.out; omega, H2.out, rfl, rfl, rfl, rfl⟩)⟩
      exact tabO_congr (tabO_set (tabO_keep (w' := w1.drew) HH1.out.1 rfl) (j := j) (k := 4) (by omega) (.int .i64 ((fr j - 1 : Nat) : Int))) (M' := entM P ou fi sz (fupd fr j (fr j - 1)) tt md) (fun j' _ k hk => (upd_ent j j' k hk).2.2.1 _)
    · have g2 : ¬ ((fi j : Nat) : Int) < ((fr j : Nat) : Int) := by omega
      have H2 := Lib.hid h2
      clear h2
      go_still_tail 18, (by kernel_rfl)
      go_wp2_with fail
      have hT1 : TabO w.drew B g cap n (entM P ou fi sz fr tt md) := tabO_keep HH.out.1 rfl
      have hc1 : Chg (fun k => k = g) w w.drew := (Chg.refl _ w).drew
      clear x0 x2 x4 x5 c5 f4 f5
      generalize w.drew = w1 at *
      obtain ⟨_, _, x2, _, x4, _, _⟩ := ent_cells hT1 hj
      have f4 := hT1.frozenAt (j * 7 + 4)
      have HH1 := Lib.hid (And.intro hT1 hc1)
      clear hT1 hc1
      go_still_tail 9, (by kernel_rfl)
      go_wp2_with fail
      go_ret2
      exact ⟨0, false, rfl, fr, tt, tabO_keep HH1.out.1 rfl, HH1.out.2.drew, .inr (.inr ⟨by have := H1.out; omega, by have := H2.out; omega, rfl, rfl, rfl⟩)⟩

variable {B g cap n j c mb cm : Nat} {P : Nat → Nat × Nat} {ou fi : Nat → Nat} {sz : Nat → Int} {fr tt : Nat → Nat} {md : Nat → Value} {x : V} {w : World}
set_option maxHeartbeats 4000000 in
set_option maxRecDepth 100000 in
theorem sput_nil (ln : Nat) (h : TabO w B g cap n (entM P ou fi sz fr tt md)) (hj : j < n) (hm : md j = .slice none 0 0) :
    Calls Tryd.prog 41 #[.pointer (some ⟨g, j * 7, none⟩), .int .i64 (c : Nat), .slice (some ⟨mb, 0, none⟩) ln cm] w fun e w' => e = .returned (.tuple #[]) ∧ TabO w' B g cap n (entM P ou fi sz fr tt (fupd md j (.slice (some ⟨mb, 0, none⟩) ln cm))) ∧ Chg (fun k => k = g) w w' := by
  obtain ⟨_, _, _, _, _, _, x6⟩ := ent_cells h hj
  rw [hm] at x6
  have f6 := h.frozenAt (j * 7 + 6)
  have HH := Lib.hid h
  have kq := fun (W : World) => Lib.run_eql_slice_nil (P := Tryd.prog) W 53 56 none 0 0 0 0 Tryd.underlying53
  clear h
  go_enter Tryd.func41, Tryd.ntmps41
  go_wp2_with fail
  go_end0
  exact ⟨rfl, tabO_congr (tabO_set HH.out (j := j) (k := 6) (by omega) (.slice (some ⟨mb, 0, none⟩) ln cm)) (M' := entM P ou fi sz fr tt (fupd md j (.slice (some ⟨mb, 0, none⟩) ln cm))) (fun j' _ k hk => (upd_ent j j' k hk).2.2.2.2 _), chg_set w g _ _⟩
set_option maxHeartbeats 4000000 in
set_option maxRecDepth 100000 in
theorem sput_alt {wd : List Nat} {X M : List Nat → Prop} {ob co : Nat} (h : TabO w B g cap n (entM P ou fi sz fr tt md)) (hj : j < n) (hx : NodeAt w (P j).1 (P j).2 x) (hm : md j = .slice (some ⟨ob, 0, none⟩) (wd.length + 1) co) (hk : x.kind = 3) (hn : wd.length ≤ 250) (ho : RR wd w ob X) (hmb : RR wd w mb M) (hne : ob ≠ mb) (hg : ob ≠ g) :
    Calls Tryd.prog 41 #[.pointer (some ⟨g, j * 7, none⟩), .int .i64 (c : Nat), .slice (some ⟨mb, 0, none⟩) (wd.length + 1) cm] w fun e w' => e = .returned (.tuple #[]) ∧ TabO w' B g cap n (entM P ou fi sz fr tt md) ∧ RR wd w' ob (fun v => X v ∨ M v) ∧ Chg (fun k => k = ob) w w' := by
  obtain ⟨x0, _, _, _, _, _, x6⟩ := ent_cells h hj
  rw [hm] at x6
  obtain ⟨c0, _, _, _, _, _, _, _⟩ := node_cells hx.cell hx.lt (Below.refl _ _)
  rw [hk] at c0
  obtain ⟨m1, h1, h2⟩ := ho.ex
  obtain ⟨m2, h3, h4⟩ := hmb.ex
  have HA := Lib.hid (relAdd_any ob mb (wd.length + 1) co cm m1 m2 w h1 h3 (by omega) hne)
  have HH := Lib.hid (And.intro h (And.intro h2 h4))
  obtain ⟨ln, hln⟩ : ∃ ln, ln = wd.length + 1 := ⟨_, rfl⟩
  rw [← hln] at x6 HA ⊢
  have kq := fun (W : World) => Lib.run_eql_slice_nil (P := Tryd.prog) W 53 56 (some ⟨ob, 0, none⟩) ln co 0 0 Tryd.underlying53
  have HL := Lib.hid hln
  clear h hx ho hmb h1 h2 h3 h4 hln hm
  go_enter Tryd.func41, Tryd.ntmps41
  go_wp2_with fail
  go_at_call 50
  refine HA.out.mono ?_
  rintro e w2 ⟨rfl, hR, hc⟩
  have H2 := Lib.hid (And.intro hR hc)
  clear hR hc
  go_wp2_with fail
  go_end0
  refine ⟨rfl, tabO_keep HH.out.1 (H2.out.2.block g (HH.out.1.lt g rfl).2 (fun e => hg e.symm)), or_RR HH.out.2.1 HH.out.2.2 (HL.out ▸ H2.out.1), H2.out.2⟩
set_option maxHeartbeats 4000000 in
set_option maxRecDepth 100000 in
theorem sput_cat {wd : List Nat} {X M : List Nat → Prop} {ob co : Nat} (h : TabO w B g cap n (entM P ou fi sz fr tt md)) (hj : j < n) (hx : NodeAt w (P j).1 (P j).2 x) (hm : md j = .slice (some ⟨ob, 0, none⟩) (wd.length + 1) co) (hk : x.kind ≠ 3) (hn : wd.length ≤ 250) (ho : RR wd w ob X) (hmb : RR wd w mb M) (hT : TabS B w) :
    Calls Tryd.prog 41 #[.pointer (some ⟨g, j * 7, none⟩), .int .i64 (c : Nat), .slice (some ⟨mb, 0, none⟩) (wd.length + 1) cm] w fun e w' => e = .returned (.tuple #[]) ∧ ∃ o, TabO w' B g cap n (entM P ou fi sz fr tt (fupd md j (.slice (some ⟨o, 0, none⟩) (wd.length + 1) (wd.length + 1)))) ∧ RR wd w' o (if c = fr j then CatL M X else CatL X M) ∧ w.heap.size ≤ o ∧ Chg (fun k => k = g) w w' := by
  obtain ⟨x0, _, _, _, x4, _, x6⟩ := ent_cells h hj
  rw [hm] at x6
  obtain ⟨c0, _, _, _, _, _, _, _⟩ := node_cells hx.cell hx.lt (Below.refl _ _)
  have HH := Lib.hid h
  have HT1 := Lib.hid (then_RR wd mb ob cm co B M X w hmb ho hn hT)
  have HT2 := Lib.hid (then_RR wd ob mb co cm B X M w ho hmb hn hT)
  have kn : ((x.kind == 3) = false) := by simp [hk]
  obtain ⟨ln, hln⟩ : ∃ ln, ln = wd.length + 1 := ⟨_, rfl⟩
  rw [← hln] at x6 HT1 HT2 ⊢
  have kq := fun (W : World) => Lib.run_eql_slice_nil (P := Tryd.prog) W 53 56 (some ⟨ob, 0, none⟩) ln co 0 0 Tryd.underlying53
  have hgl := (h.lt g rfl).2
  clear h hx ho hmb hln hm hT
  go_enter Tryd.func41, Tryd.ntmps41
  by_cases hc : c = fr j
  · have g1 : ((c : Int) == (fr j : Int)) = true := by simp [hc]
    rw [if_pos hc]
    clear hc
    go_wp2_with fail
    go_at_call 51
    refine HT1.out.mono ?_
    rintro e w2 ⟨o, rfl, hR, hb2, ho2⟩
    have hT2 : TabO w2 B g cap n (entM P ou fi sz fr tt md) := tabO_keep HH.out (hb2.block g hgl)
    have f6 := hT2.frozenAt (j * 7 + 6)
    obtain ⟨_, _, _, _, _, _, y6⟩ := ent_cells hT2 hj
    have H2 := Lib.hid (And.intro hR (And.intro hb2 (And.intro ho2 hT2)))
    clear hR hb2 ho2 hT2
    go_wp2_with fail
    go_end0
    refine ⟨rfl, o, tabO_congr (tabO_set H2.out.2.2.2 (j := j) (k := 6) (by omega) _) (fun j' _ k hk => (upd_ent j j' k hk).2.2.2.2 _), H2.out.1.keep ?_, H2.out.2.2.1, (Chg.of_below H2.out.2.1).trans (chg_set w2 g _ _) fun _ _ e => e⟩
    exact (chg_set w2 g _ _).block o H2.out.1.size (by have := H2.out.2.2.1; omega)
  · have g1 : ((c : Int) == (fr j : Int)) = false := by simp; omega
    rw [if_neg hc]
    clear hc
    go_wp2_with fail
    go_at_call 51
    refine HT2.out.mono ?_
    rintro e w2 ⟨o, rfl, hR, hb2, ho2⟩
    have hT2 : TabO w2 B g cap n (entM P ou fi sz fr tt md) := tabO_keep HH.out (hb2.block g hgl)
    have f6 := hT2.frozenAt (j * 7 + 6)
    obtain ⟨_, _, _, _, _, _, y6⟩ := ent_cells hT2 hj
    have H2 := Lib.hid (And.intro hR (And.intro hb2 (And.intro ho2 hT2)))
    clear hR hb2 ho2 hT2
    go_wp2_with fail
    go_end0
    refine ⟨rfl, o, tabO_congr (tabO_set H2.out.2.2.2 (j := j) (k := 6) (by omega) _) (fun j' _ k hk => (upd_ent j j' k hk).2.2.2.2 _), H2.out.1.keep ?_, H2.out.2.2.1, (Chg.of_below H2.out.2.1).trans (chg_set w2 g _ _) fun _ _ e => e⟩
    exact (chg_set w2 g _ _).block o H2.out.1.size (by have := H2.out.2.2.1; omega)

end Go.Proofs.YtdjddmkmcdfmiaaDoor

/- What a node of the list reaches, all of whose parts are gone through: the contract.
   Conditions: the list, the tree and the word lie in memory. -/
namespace Go.Proofs.YtdjddmkmcdfmiaaDoor
open Go.RowKit Go.Shelf

def LgO (k : Int) (ts : List T) (v : List Nat) : Prop := if k = 3 then LgA ts v else LgC ts v
theorem lgE0 {x : V} (h : x.kind = 0) (v : List Nat) : Lg (erase x) v ↔ v = [] := by
  cases x with | node k C lo hi u ps => rw [erase]; exact lg_zero h v
theorem lgE1 {x : V} (h : x.kind = 1) (v : List Nat) : Lg (erase x) v ↔ ∃ b, b < 256 ∧ hasB x.set b = true ∧ v = [b] := by
  cases x with | node k C lo hi u ps => rw [erase]; exact lg_one h v
theorem lgE2 {x : V} (h : x.kind = 2 ∨ x.kind = 3) (v : List Nat) : Lg (erase x) v ↔ LgO x.kind (erases x.ps) v := by
  cases x with
  | node k C lo hi u ps =>
    rw [erase]
    unfold LgO
    rcases h with h | h
    · rw [if_neg (by rw [h]; omega)]; exact lg_two h v
    · rw [if_pos h]; exact lg_three h v
theorem lgE4 {x : V} (h : x.kind = 4) (v : List Nat) : Lg (erase x) v ↔ RepL (LgO x.kind (erases x.ps)) x.lo x.hi v := by
  cases x with
  | node k C lo hi u ps =>
    have h : k = 4 := h
    subst h
    rw [erase, lg_four (by decide) (by decide) (by decide) (by decide)]
    have e : ∀ n, PowL (LgC (erases ps)) n v ↔ PowL (LgO 4 (erases ps)) n v := fun n => pow_iff (fun u => by unfold LgO; rw [if_neg (by decide)]) n v
    unfold RepL
    exact ⟨fun ⟨n, a, b, c⟩ => ⟨n, a, b, (e n).1 c⟩, fun ⟨n, a, b, c⟩ => ⟨n, a, b, (e n).2 c⟩⟩
theorem RR.iff {wd : List Nat} {w : World} {b : Nat} {L M : List Nat → Prop} (h : RR wd w b L) (e : ∀ v, L v ↔ M v) : RR wd w b M := h.lang fun p q _ => by unfold RchW; rw [e]
/-- What whole gives. -/
def WhO (wd : List Nat) (w : World) (x : V) (mdj : Value) (o : Nat) (w' : World) : Prop := RR wd w' o (Lg (erase x)) ∧ Below w.heap.size w w' ∧ (w.heap.size ≤ o ∨ (x.kind ≠ 0 ∧ x.kind ≠ 1 ∧ ∃ c', mdj = .slice (some ⟨o, 0, none⟩) (wd.length + 1) c'))
variable {B g cap n j : Nat} {P : Nat → Nat × Nat} {ou fi : Nat → Nat} {sz : Nat → Int} {fr tt : Nat → Nat} {md : Nat → Value} {x : V} {w : World}
set_option maxHeartbeats 8000000 in
set_option maxRecDepth 100000 in
theorem wholeN_any (wd : List Nat) (gw ow capw : Nat) (A : Option Addr) (h : TabO w B g cap n (entM P ou fi sz fr tt md)) (hj : j < n) (hx : NodeAt w (P j).1 (P j).2 x) (hok : okT (erase x) = true) (hC : Cl x.set) (hW : WrdM w gw ow wd) (hA : wd ≠ [] → A = some ⟨gw, ow, none⟩) (hn : wd.length ≤ 250) (hT : TabS B w)
    (hM : x.kind ≠ 0 → x.kind ≠ 1 → ∃ ob co, md j = .slice (some ⟨ob, 0, none⟩) (wd.length + 1) co ∧ RR wd w ob (LgO x.kind (erases x.ps))) :
    Calls Tryd.prog 40 #[.pointer (some ⟨g, j * 7, none⟩), .slice A wd.length capw] w fun e w' => ∃ o co, e = .returned (.slice (some ⟨o, 0, none⟩) (wd.length + 1) co) ∧ WhO wd w x (md j) o w' := by
  obtain ⟨x0, _, _, _, _, _, x6⟩ := ent_cells h hj
  obtain ⟨c0, c1, c2, c3, c4, _, c6, c7⟩ := node_cells hx.cell hx.lt (Below.refl _ _)
  have hokk : okA x.kind (z4 x.set) x.lo x.hi x.ps.length = true := by
    have h : okT (erase x) = true := hok
    rw [okT_eq, Bool.and_eq_true] at h
    exact h.1
  have hk := of_decide_eq_true hokk
  by_cases h0 : x.kind = 0
  · rw [h0] at c0
    have HS := Lib.hid (staying_RR wd w hn)
    have HX := Lib.hid h0
    have e1 : ((wd.length + 1 : Nat) : Int) = (wd.length : Int) + 1 := by omega
    have hw1 : IntKind.i64.wrap ((wd.length : Int) + 1) = (wd.length : Int) + 1 := by rw [IntKind.wrap_i64]; omega
    rw [e1] at HS
    clear h hx hok hC hW hA hT hM hk hokk h0 e1 x6 c1 c2 c3 c4 c6 c7
    go_enter Tryd.func40, Tryd.ntmps40
    go_wp2_with fail
    go_at_call 47
    refine HS.out.mono ?_
    rintro e w2 ⟨o, rfl, hR, hb2, ho⟩
    have H2 := Lib.hid (And.intro hR (And.intro hb2 ho))
    clear hR hb2 ho
    go_wp2_with fail
    go_ret
    exact ⟨o, wd.length + 1, rfl, H2.out.1.iff fun v => (lgE0 HX.out v).symm, H2.out.2.1, .inl H2.out.2.2⟩
  · by_cases h1 : x.kind = 1
    · rw [h1] at c0
      have HS := Lib.hid (stepping_any x.set gw ow capw wd A w hC hW hn hA)
      have HX := Lib.hid (And.intro h1 (And.intro hW.lt hn))
      clear h hx hok hC hW hA hT hM hk hokk h0 h1 x6 c6 c7
      go_enter Tryd.func40, Tryd.ntmps40
      go_wp2_with fail
      go_at_call 48
      refine HS.out.mono ?_
      rintro e w2 ⟨o, rfl, hR, hb2, ho⟩
      have H2 := Lib.hid (And.intro hR (And.intro hb2 ho))
      clear hR hb2 ho
      go_wp2_with fail
      go_ret
      refine ⟨o, wd.length + 1, rfl, ⟨⟨_, H2.out.1, rpW_lang (rpW_byte (C := x.set) HX.out.2.1 fun p hp q hq => ?_) fun v => (lgE1 HX.out.1 v).symm⟩⟩, H2.out.2.1, .inl H2.out.2.2⟩
      unfold tpR
      by_cases hc : p < wd.length ∧ ∃ b, wd[p]? = some b ∧ hasB x.set b = true
      · rw [if_pos hc, hasB_putR]
        constructor
        · intro hh
          have : hasB zeros q = false := by unfold hasB zeros; simp
          rw [this, Bool.false_or, decide_eq_true_eq] at hh
          exact ⟨hh, hc.2⟩
        · rintro ⟨hh, _⟩
          rw [decide_eq_true hh, Bool.or_true]
      · rw [if_neg hc]
        constructor
        · intro hh
          have : hasB zeros q = false := by unfold hasB zeros; simp
          rw [this] at hh
          cases hh
        · rintro ⟨_, b, hb, hh⟩
          exact absurd ⟨(List.getElem?_eq_some_iff.1 hb).1, b, hb, hh⟩ hc
    · obtain ⟨ob, co, hm, hR⟩ := hM h0 h1
      have hmm := hm
      rw [hm] at x6
      have k0 : ((x.kind == 0) = false) := by simp [h0]
      have k1 : ((x.kind == 1) = false) := by simp [h1]
      by_cases h4 : x.kind = 4
      · rw [h4] at c0
        obtain ⟨hbl, hbh⟩ : bnd x.lo x.hi = true ∧ x.kind = 4 := by
          rcases hk with h | h | h | h
          · omega
          · omega
          · omega
          · exact ⟨h.2.2.2, h.1⟩
        have hb := of_decide_eq_true hbl
        obtain ⟨lo, hlo⟩ : ∃ lo : Nat, x.lo = (lo : Int) := ⟨x.lo.toNat, by omega⟩
        rw [hlo] at c6 hb
        have HS := Lib.hid (repeated_any wd ob co lo B x.hi _ w.drew (hR.keep rfl) hn (by omega) (by omega) ⟨hT.1, hT.2⟩)
        have HX := Lib.hid (And.intro h4 hlo)
        obtain ⟨ln, hln⟩ : ∃ ln, ln = wd.length + 1 := ⟨_, rfl⟩
        rw [← hln] at x6 HS ⊢
        clear h hx hok hC hW hA hT hM hk hokk h0 h1 h4 hbl hbh hb hlo hR hm k0 k1 c1 c2 c3 c4 hln
        go_enter Tryd.func40, Tryd.ntmps40
        go_wp2_with fail
        go_still_tail 18, (by kernel_rfl)
        go_wp2_with fail
        go_at_call 49
        refine HS.out.mono ?_
        rintro e w2 ⟨o, rfl, hR, hb2, ho⟩
        have H2 := Lib.hid (And.intro hR (And.intro (show Below w.heap.size w w2 from (Below.refl _ w).drew.trans hb2) (show w.heap.size ≤ o from ho)))
        clear hR hb2 ho
        go_wp2_with fail
        go_ret
        refine ⟨o, ln, rfl, H2.out.1.iff fun v => ?_, H2.out.2.1, .inl H2.out.2.2⟩
        rw [lgE4 HX.out.1, HX.out.2]
      · have k4 : ((x.kind == 4) = false) := by simp [h4]
        have HX := Lib.hid (And.intro hR (And.intro h0 (And.intro h1 (show x.kind = 2 ∨ x.kind = 3 by omega))))
        obtain ⟨ln, hln⟩ : ∃ ln, ln = wd.length + 1 := ⟨_, rfl⟩
        have HL := Lib.hid hln
        rw [← hln] at x6 ⊢
        clear h hx hok hC hW hA hT hM hk hokk h0 h1 h4 hR hm c1 c2 c3 c4 c6 c7 hln
        go_enter Tryd.func40, Tryd.ntmps40
        go_wp2_with fail
        go_ret
        refine ⟨ob, co, rfl, HX.out.1.iff fun v => (lgE2 HX.out.2.2.2 v).symm, Below.refl _ _, .inr ⟨HX.out.2.1, HX.out.2.2.1, co, ?_⟩⟩
        rw [hmm]

end Go.Proofs.YtdjddmkmcdfmiaaDoor
