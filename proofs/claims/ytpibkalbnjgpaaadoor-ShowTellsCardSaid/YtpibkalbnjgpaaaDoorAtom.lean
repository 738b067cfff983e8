/- What the reader's calls that read an atom, and repeat the last one, come to: contracts.
   Conditions: the memory is as 'Mem' says, and rows have at most 1000 parts. -/
import Derived.Test.YtpibkalbnjgpaaaDoorShut
import Derived.Test.YtpibkalbnjgpaaaDoorRun
import Derived.Deep.RegionWith
namespace Go.Proofs.YtpibkalbnjgpaaaDoor
open Go.RowKit
attribute [local go_sem] clsOk clsEr pairOk pairEr

theorem Mem.chg {w w' : World} {base rb k k' ob cap : Nat} {s : ByteArray} {gs : List Grp} (h : Mem w base rb s k gs ob cap) (hc : Chg (· = rb) w w') (hr : Rd w' rb s k' (.slice (some ⟨ob, 0, none⟩) gs.length cap)) : Mem w' base rb s k' gs ob cap := by
  have hn := h.nd
  unfold live at hn
  simp only [List.nodup_cons, List.mem_cons, List.mem_flatMap, not_or] at hn
  have hfr : ∀ x, x ∈ gs → ∀ b, b ∈ blocksOf x → ¬ b = rb := by
    rintro x hx b hb rfl
    exact hn.1.2 ⟨x, hx, hb⟩
  refine ⟨hr, own_chg h.stk hc fun b hb => ?_, fun x hx => own_chg (h.own1 x hx) hc fun b hb => hfr x hx b (mem_blocks.2 (.inl hb)), fun x hx => own_chg (h.own2 x hx) hc fun b hb => hfr x hx b (mem_blocks.2 (.inr hb)), fun x hx t ht => (h.laid x hx t ht).chg hc fun b _ hn e => hn.2 ?_, h.nd⟩
  · have : b = ob := by simpa [Value.ownBlock] using hb.symm
    subst this
    exact fun e => hn.1.1 e.symm
  · subst e; unfold live; simp
theorem Mem.af {w w' : World} {base rb k k' ob cap : Nat} {s : ByteArray} {gs : List Grp} (h : Mem w base rb s k gs ob cap) (ha : Af w rb s (.slice (some ⟨ob, 0, none⟩) gs.length cap) k' w') : Mem w' base rb s k' gs ob cap := h.chg ha.2 ha.1
theorem Mem.af_below {w w' : World} {base rb k k' ob cap : Nat} {s : ByteArray} {gs : List Grp} {op : Value} (_ : Mem w base rb s k gs ob cap) (ha : Af w rb s op k' w') : Bel base rb w w' := ha.2.mono fun _ _ e => .inl e
theorem put_atom {w : World} {base rb k ob cap m : Nat} {s : ByteArray} {fr : List Grp} {g : Grp} (h : Mem w base rb s k (fr ++ [g]) ob cap) (S : Nat → Bool) (hn : g.row.length ≤ 1000) (hm : fr.length = m) :
    Calls Tryd.prog 51 #[.pointer (some ⟨ob, m * 2, none⟩), .agg #[.int .i64 1, .int .u64 (canon S 0 : Nat), .int .u64 (canon S 1 : Nat), .int .u64 (canon S 2 : Nat), .int .u64 (canon S 3 : Nat), .slice none 0 0, .int .i64 0, .int .i64 0]] w fun e w' => e = .returned (.tuple #[]) ∧ Bel base rb w w' ∧ ∃ v2, Mem w' base rb s k (fr ++ [⟨g.rows, g.row ++ [.node 1 (canon S) 0 0 nilV []], g.v1, v2⟩]) ob cap := by
  subst hm
  exact put_mem h (.node 1 (canon S) 0 0 nilV []) (.none 1 (canon S) 0 0 none 0) hn

/-- What a step of the reader comes to. -/
def Stepped (o : Out (G × List G)) (w : World) (base rb : Nat) (s : ByteArray) (e : Ending) (w' : World) : Prop :=
  match o with
  | .ok x r => e = .returned (.int .i64 0) ∧ Bel base rb w w' ∧ ∃ k fr g ob cap, Mem w' base rb s k (fr ++ [g]) ob cap ∧ Tl s k r ∧ g.er = x.1 ∧ (fr.map Grp.er).reverse = x.2
  | .er r c => (c = 2 ∨ c = 3) ∧ e = .returned (.int .i64 c) ∧ Bel base rb w w' ∧ ∃ k op, Rd w' rb s k op ∧ Tl s k r

def patom (g : G) (frs : List G) (r : List Nat) : Out (G × List G) := match pset r with
  | .er r' c => .er r' c
  | .ok S r' => .ok (⟨g.rows, g.row ++ [atomT S]⟩, frs) r'
theorem patom_er {g : G} {frs : List G} {r r' : List Nat} {c : Nat} (h : pset r = .er r' c) : patom g frs r = .er r' c := by unfold patom; rw [h]
theorem patom_ok {g : G} {frs : List G} {r r' : List Nat} {S : Nat → Bool} (h : pset r = .ok S r') : patom g frs r = .ok (⟨g.rows, g.row ++ [atomT S]⟩, frs) r' := by unfold patom; rw [h]

set_option maxHeartbeats 2000000 in
set_option maxRecDepth 100000 in
theorem atom_any {w : World} {base rb k ob cap b : Nat} {s : ByteArray} {fr : List Grp} {g : Grp} {r : List Nat} (h : Mem w base rb s k (fr ++ [g]) ob cap) (ht : Tl s k (b :: r)) (hs : s.size ≤ maxLen) (hn : g.row.length ≤ 1000) (hm : fr.length ≤ 1000) :
    Calls Tryd.prog 53 #[.pointer (some ⟨rb, 0, none⟩), .int .u8 b] w (Stepped (patom g.er (fr.map Grp.er).reverse (b :: r)) w base rb s) := by
  have hlen : (fr ++ [g]).length = fr.length + 1 := by simp
  have hset := set_any w rb k b r s _ h.rd ht hs
  rw [hlen] at hset
  have HS := Lib.hid hset
  have HH := Lib.hid h
  have HL := Lib.hid hlen
  clear hset h hlen
  generalize hmm : fr.length = m at *
  have HM := Lib.hid hmm
  clear hmm
  go_enter Tryd.func53, Tryd.ntmps53
  go_wp2_with fail
  go_at_call 63
  refine HS.out.mono ?_
  clear HS
  intro e w1 hG
  revert hG
  cases hx : pset (b :: r) with
  | er r' c =>
    have hc := pset_er_two hx
    subst hc
    have HX := Lib.hid hx
    clear hx
    rintro ⟨rfl, k1, hA1, ht1⟩
    go_wp2_with fail
    go_ret
    have hA1' := hA1
    rw [← HL.out] at hA1'
    have hb := HH.out.af_below hA1'
    rw [patom_er HX.out]
    exact ⟨.inl rfl, rfl, hb.trans ((Bel.refl _ _ _).alloc _), k1, _, hA1.1.keep ((Chg.refl (fun _ => False) _).alloc _) (fun h => h), ht1⟩
  | ok S r' =>
    have HX := Lib.hid hx
    clear hx
    rintro ⟨rfl, k1, hA1, ht1⟩
    have hA2 := hA1.alloc (.cells #[.int .u64 (canon S 0 : Nat), .int .u64 (canon S 1 : Nat), .int .u64 (canon S 2 : Nat), .int .u64 (canon S 3 : Nat)] 24)
    have hrd := hA2.drewN 1
    have hrb := hA1.1.lt
    have HA := Lib.hid hrd
    clear hA1 hA2 hrd
    go_wp2_with fail
    go_region_with (first
      | (go_at_call 49; refine (inner_any _ rb k1 ob m cap s HA.out.1 hm).mono ?_; rintro e w3 ⟨rfl, hA3⟩; obtain ⟨q1, q2⟩ := hA3.cells (B := w1.heap.size) (by simp) (by omega); have hA4 := HA.out.trans hA3; have HA4 := Lib.hid hA4; clear hA3 hA4)
      | (go_at_call 51; refine (put_atom (HH.out.af (by rw [HL.out]; exact HA4.out)) S hn HM.out).mono ?_; rintro e w5 ⟨rfl, hb5, v2, hM5⟩))
    all_goals
      go_wp2_with fail
      go_ret
      have hA4' := HA4.out
      rw [← HL.out] at hA4'
      rw [patom_ok HX.out]
      refine ⟨rfl, (HH.out.af_below hA4').trans hb5, k1, fr, _, ob, cap, hM5, ht1, ?_, rfl⟩
      show (⟨erases g.rows, erases (g.row ++ [.node 1 (canon S) 0 0 nilV []])⟩ : G) = _
      rw [erases_append]
      rfl

end Go.Proofs.YtpibkalbnjgpaaaDoor
