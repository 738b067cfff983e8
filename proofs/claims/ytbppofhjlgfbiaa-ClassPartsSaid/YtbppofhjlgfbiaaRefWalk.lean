/- The walk of the document's own Parts: of a list of classes the row of the classes of its numbering, one behind the other.
   Conditions: classes are four words below 2^64 ('Cl'), in a row of memory as they are read; fewer than 64 of them. -/
import Derived.Test.YtbppofhjlgfbiaaRefParts
import Derived.Test.YtbppofhjlgfbiaaTwiceWalk
namespace Go.Proofs.Ytbppofhjlgfbiaa
open Go.RowKit
attribute [local go_sem ↓] Go.wp_at_zero Go.wp_at_succ

theorem made_part (r : Nat → Nat → Bool) (q : Nat) (w : World) : Calls Try.prog 20 #[.agg (boolList (fun x => nm r x == q)).toArray] w fun e w' => e = .returned (.agg #[.int .u64 (partOf r q 0 : Nat), .int .u64 (partOf r q 1 : Nat), .int .u64 (partOf r q 2 : Nat), .int .u64 (partOf r q 3 : Nat)]) ∧ Below w.heap.size w w' := made_class _ w
theorem RP.next {r : Nat → Nat → Bool} {w W w9 : World} {D I a g cp : Nat} {v : Value} (hn : fst r a = a) (h : RI r w D I v a 256 W) (hgrow : W.grownBy w9 v.ownBlock)
    (hown : w9.ownsRow w.heap.size 26 4 (.slice (some ⟨g, 0, none⟩) (news r a + 1) cp) (news r a + 1) (rowsOf (partOf r) (news r a) ++ four (partOf r (news r a)))) (hat : v.ownBlock = some g ∨ g = W.heap.size) :
    RP r w D (.slice (some ⟨g, 0, none⟩) (news r a + 1) cp) (a + 1) w9 := by
  obtain ⟨h1, h2, h3, h4⟩ := h
  have e : news r (a + 1) = news r a + 1 := by rw [news_succ, if_pos hn]
  have hD := h2.1.lt
  have hne : some D ≠ v.ownBlock := fun e => h3 e.symm
  have hd := h2.1.congr (fun x hx => done_end (r := r) a x hx)
  refine ⟨by rw [e]; exact hown, fun i hi => ?_, fun i hi => ?_, h2.2.2.2.2.1, ?_, h2.2.2.2.2.2.2.grown hgrow h2.2.2.2.2.2.2.size (fun k hk => (h1.lt k hk).1)⟩
  · rw [hgrow.cell_far ⟨D, i, none⟩ hD hne]; exact hd i hi
  · rw [hgrow.frozen_far ⟨D, i, none⟩ hD hne]; exact h2.2.1 i hi
  · simp only [Value.ownBlock]
    rcases hat with h | h
    · rw [← h]; exact h3
    · intro e; injection e with e; omega
theorem RI.bytes {r : Nat → Nat → Bool} (hr : Alike r) {w wr : World} {D I a : Nat} {v : Value} (hn : fst r a = a) (h : RI r w D I v a 256 wr) : Bools wr I (fun x => nm r x == news r a) :=
  h.2.1.2.2.1.congr (fun x hx => part_end hr hn x hx)
theorem RP.parts {r : Nat → Nat → Bool} (hr : Alike r) {w wr : World} {D : Nat} {v : Value} (h : RP r w D v 256 wr) :
    ∃ g cp, v = .slice (some ⟨g, 0, none⟩) (news r 256) cp ∧ PartsAt wr g (news r 256) (partOf r) := by
  obtain ⟨g, cp, rfl, _, _⟩ := h.1.form (news_pos hr)
  obtain ⟨b, off, e, _, hc⟩ := (own_row h.1).1 (news_pos hr)
  simp at e
  obtain ⟨rfl, rfl⟩ := e
  refine ⟨_, _, rfl, fun q hq j hj => ?_⟩
  have := hc q hq j hj
  rwa [Nat.zero_add] at this

set_option maxHeartbeats 4000000 in
set_option maxRecDepth 100000 in
theorem ref_any (A : Option Addr) (n cap : Nat) (L : Nat → Nat → Nat) (w : World) (hrow : ClassRow w A n L) (hL : ∀ t, Cl (L t)) (hn64 : n < 64) :
    Calls Try.prog 22 #[.slice A n cap] w fun e w' => ∃ g cp, e = .returned (.slice (some ⟨g, 0, none⟩) (news (rel zeros L n) 256) cp) ∧ PartsAt w' g (news (rel zeros L n) 256) (partOf (rel zeros L n)) ∧ Below w.heap.size w w' := by
  have hzero := (zero_of_info info39).1
  have hal := alike_rel zeros L n
  obtain ⟨i0, hi, hz0, hz1, hz2⟩ := info_parts info26
  have htog := fun (a b : Nat) (ha : a < 256) (hb : b < 256) (w' : World) (h : ClassRow w' A n L) => together_any A n cap a b L w' h hL hn64 ha hb
  have hst := RP.start (r := rel zeros L n) w
  generalize rel zeros L n = r at *
  go_enter Try.func22, Try.ntmps22
  go_wp2_with fail
  go_loopw [3, 5] (fun v i wr => ∃ a : Nat, a ≤ 256 ∧ i = .int .i64 a ∧ RP r w w.heap.size v a wr) (fun _ i _ => 256 - (intOf i).toNat)
  case atStart => exact ⟨0, Nat.zero_le _, rfl, hst⟩
  case round =>
    clear hst
    obtain ⟨a, ha, rfl, hP⟩ := hrel
    have hle := news_le (r := r) a
    by_cases hlt : a < 256
    · have h1 : (a : Int) < 256 := by omega
      have h0 : (0 : Int) ≤ (a : Int) := by omega
      have hd := hP.2.1 a hlt
      by_cases hn : fst r a = a
      · rw [show doneAt r a a = false by unfold doneAt; simp [hn]] at hd
        have hI := hP.inner hal
        clear hP
        go_wp2_with fail
        go_loopw [7] (fun i wz => ∃ b : Nat, a ≤ b ∧ b ≤ 256 ∧ i = .int .i64 b ∧ RI r w w.heap.size wr.heap.size u3 a b wz) (fun i _ => 256 - (intOf i).toNat)
        case atStart => exact ⟨a, Nat.le_refl _, by omega, rfl, hI⟩
        case round =>
          clear hI hd hzero
          obtain ⟨b, hb1, hb2, rfl, hJ⟩ := hrel
          by_cases hbl : b < 256
          · have g1 : (b : Int) < 256 := by omega
            have g0 : (0 : Int) ≤ (b : Int) := by omega
            have hrw := hrow.below hJ.2.1.2.2.2.2.2.2
            go_wp2_with fail
            go_at_call 28
            refine (htog a b hlt hbl _ hrw).mono ?_
            rintro e w5 ⟨rfl, hb5⟩
            have hK := hJ.below hb5
            clear hJ hrw
            cases hr : r a b with
            | true =>
              have hf := (new_like hal hn).1 hr
              have hnx := hK.hit hf
              have d1 := hK.2.1.1 b hbl
              have d2 := hK.2.1.2.1 b hbl
              have d3 := hK.2.1.2.2.1 b hbl
              have d4 := hK.2.1.2.2.2.1 b hbl
              have d5 := (hK.2.1.put2 (q := b)).1 b hbl
              clear hK
              go_wp2_with fail
              go_roundw
              case rel => exact ⟨b + 1, by omega, by omega, by go_num, hnx⟩
              case measure => simp [intOf]; omega
            | false =>
              have hnx := hK.miss (fun e => by rw [(new_like hal hn).2 e] at hr; cases hr)
              clear hK
              go_wp2_with fail
              go_roundw
              case rel => exact ⟨b + 1, by omega, by omega, by go_num, hnx⟩
              case measure => simp [intOf]; omega
          · obtain rfl : b = 256 := by omega
            have r1 := (hJ.bytes hal hn).range
            have i1 : (Try.prog.info? 39).map (·.size) = some (boolList (fun x => nm r x == news r a)).length := by rw [boolList_length]; exact (zero_of_info info39).2
            have m1 := made_part r (news r a)
            generalize boolList (fun x => nm r x == news r a) = L1 at r1 i1 m1
            go_wp2_with (refine wpList_load_mid (by rfl) 39 (.tmp 6) (by rfl) _ 0 (by rfl) L1 _ r1 Try.underlying39 (by rfl) i1 ?_)
            go_at_call 20
            refine (m1 _).mono ?_
            rintro e w6 ⟨rfl, hb6⟩
            have hK := hJ.below hb6
            clear hJ r1 m1 i1
            go_wp2_with ((at_builtin; refine wpList_append_lies _ (by rfl) _ _ 22 (by rfl) w.heap.size 26 i0 _ 4 32 Try.underlying22 hi hz0 hz1 hz2 rfl (by decide) _ (news r a) (rowsOf (partOf r) (news r a)) (by rfl) (hK.1.alloc _) ⟨w6.heap.size, 0, none⟩ 1 1 (four (partOf r (news r a))) (by rfl) rfl ?c1 ?c2 (by decide) ?c3 ?c4 ?c5 _ rfl ?_))
            case c1 => exact World.news_of_block (heap_alloc_new w6 _)
            case c2 => exact one_four _
            case c3 => unfold maxLen; omega
            case c4 => omega
            case c5 => have := hK.2.1.2.2.2.2.2.2.size; simp; omega
            intro g cp w7 hown7 hgrow hat _
            have hnx := RP.next hn (hK.below (below_alloc w6 _)) hgrow hown7 (by simpa using hat)
            clear hown7 hgrow hat hK
            go_wp2_with fail
            go_roundw
            case rel => exact ⟨a + 1, by omega, by go_num, hnx⟩
            case measure => simp [intOf]; omega
      · rw [show doneAt r a a = true by unfold doneAt; have := (fst_spec hal a).1; simp; omega] at hd
        have hnx := hP.old hal hn
        clear hP
        go_wp2_with fail
        go_roundw
        case rel => exact ⟨a + 1, by omega, by go_num, hnx⟩
        case measure => simp [intOf]; omega
    · obtain rfl : a = 256 := by omega
      obtain ⟨g, cp, hv, hp⟩ := hP.parts hal
      subst hv
      go_wp2_with fail
      go_ret
      exact ⟨g, cp, rfl, hp, hP.2.2.2.2.2⟩

end Go.Proofs.Ytbppofhjlgfbiaa
