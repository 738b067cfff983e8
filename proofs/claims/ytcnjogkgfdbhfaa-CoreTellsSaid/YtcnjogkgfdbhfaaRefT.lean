/- What the document's own functions on trees come to: how many nodes, how deep, how many places: contracts.
   Conditions: the tree lies in memory, and has at most 1000000 nodes (how many nodes: at any tree). -/
import Derived.Test.YtcnjogkgfdbhfaaTrBase
namespace Go.Proofs.Ytcnjogkgfdbhfaa
open Go.RowKit
attribute [local go_sem] nodeAgg

theorem szs_take {ps : List V} {i : Nat} {p : V} (h : ps[i]? = some p) : szsT (erases (ps.take (i + 1))) = szsT (erases (ps.take i)) + szT (erase p) := by
  rw [List.take_add_one, h, erases_append, szs_append]
  show _ + szsT (erases [p]) = _
  rw [erases, erases, szs_one]
theorem szs_all {ps : List V} {i : Nat} (h : ps.length ≤ i) : ps.take i = ps := List.take_of_length_le h
theorem szs_take_le (ps : List V) (i : Nat) : szsT (erases (ps.take i)) ≤ szsT (erases ps) := by
  have h := szs_append (erases (ps.take i)) (erases (ps.drop i))
  rw [← erases_append, List.take_append_drop] at h
  omega

set_option maxHeartbeats 2000000 in
set_option maxRecDepth 100000 in
theorem size_any (N : Nat) : N ≤ 1000000 → ∀ (t : V) (w : World) (R : Nat → Prop), Laid w R t →
    Calls Try.prog 9 #[nodeAgg t, .int .i64 N] w fun e w' => e = .returned (.int .i64 (min (szT (erase t)) (N + 1) : Nat)) ∧ Below w.heap.size w w' := by
  induction N using Nat.strongRecOn with
  | ind N ih =>
    intro hN t w R ha
    obtain ⟨sa, sc, hv, hrow⟩ := laid_row' ha
    have hsz := sz_eq t
    simp only [nodeAgg]
    rw [hv, hsz]
    generalize t.kind = k, t.set = C, t.lo = lo, t.hi = hi
    generalize hps : t.ps = ps at *
    have HR := Lib.hid (And.intro hrow ih)
    clear hrow ih hsz hv ha hps
    have m0 : (N : Int) ≤ 1000000 := by omega
    have m1 : (0 : Int) ≤ (N : Int) := by omega
    go_enter Try.func9, Try.ntmps9
    go_wp2_with fail
    go_loopw [5, 6] (fun kk x wr => ∃ i : Nat, x = .int .i64 i ∧ i ≤ ps.length ∧ kk = .int .i64 (min (1 + szsT (erases (ps.take i))) (N + 1) : Nat) ∧ wr.cell? ⟨w.heap.size, 5, none⟩ = some (.slice sa ps.length sc) ∧ Below w.heap.size w wr ∧ w.heap.size < wr.heap.size) (fun _ x _ => match x with | .int _ z => ps.length - z.toNat | _ => 0)
    case atStart => exact ⟨0, rfl, by omega, by simp [erases, szsT], by go_simp, (Below.refl _ _).alloc (Nat.le_refl _) _, by simp⟩
    case round =>
      obtain ⟨i, rfl, hi, rfl, c1, hb, hsz⟩ := hrel
      generalize hS : szsT (erases (ps.take i)) = S
      generalize hq : 1 + S = q
      by_cases hlt : i < ps.length
      · have g1 : (i : Int) < (ps.length : Int) := by omega
        by_cases hle : q ≤ N
        · have hmin : min q (N + 1) = q := by omega
          rw [hmin]
          have g2 : (q : Int) ≤ (N : Int) := by omega
          obtain ⟨p, hp⟩ : ∃ p, ps[i]? = some p := ⟨_, List.getElem?_eq_getElem hlt⟩
          have hnext := szs_take hp
          rw [hS] at hnext
          have hnext2 : 1 + szsT (erases (ps.take (i + 1))) = q + szT (erase p) := by omega
          obtain ⟨r1, r2⟩ := HR.out
          obtain ⟨b1, o1, rfl, hlt1, cc1, L1⟩ := r1 i p hp
          obtain ⟨x0, x1, x2, x3, x4, x5, x6, x7⟩ := node_cells cc1 hlt1 hb
          have HC := Lib.hid (r2 (N - q) (by omega) (by omega) p wr R (L1.keep (fun _ _ h => h) hb.size fun k hk _ => hb.block k hk))
          have g7 : (i : Int) ≤ 1000000 := by have h1 := len_sz (ps.take i); rw [hS, List.length_take] at h1; omega
          have g3 : ((N : Int) - (q : Int)) = ((N - q : Nat) : Int) := by omega
          have HG := Lib.hid g3
          have HN := Lib.hid hnext2
          have g4 : (0 : Int) ≤ (q : Int) := by omega
          clear r1 r2 cc1 L1 hp hlt1 hnext hnext2 hS hmin g3 hq
          go_wp2_with fail
          go_at_call 9
          rw [HG.out]
          refine HC.out.mono ?_
          rintro e w3 ⟨rfl, hb3⟩
          have f1 : w3.cell? ⟨w.heap.size, 5, none⟩ = some (.slice (some ⟨b1, o1, none⟩) ps.length sc) := (hb3.cell (p := ⟨w.heap.size, 5, none⟩) hsz).trans c1
          have fz : w.heap.size < w3.heap.size := by have := hb3.size; omega
          have hb4 : Below w.heap.size w w3 := hb.trans (hb3.mono hb.size)
          have hsum : (q : Int) + ((min (szT (erase p)) (N - q + 1) : Nat) : Int) = ((min (1 + szsT (erases (ps.take (i + 1)))) (N + 1) : Nat) : Int) := by rw [HN.out]; omega
          have g5 : (0 : Int) ≤ ((min (szT (erase p)) (N - q + 1) : Nat) : Int) := by omega
          have g6 : ((min (szT (erase p)) (N - q + 1) : Nat) : Int) ≤ 1000001 := by omega
          have HS := Lib.hid hsum
          clear hb3 hb hsum HN
          generalize min (szT (erase p)) (N - q + 1) = r at *
          go_wp2_with fail
          exact ⟨⟨i + 1, by simp, by omega, by rw [← HS.out], f1, hb4, fz⟩, by simp; omega⟩
        · have hle2 := szs_take_le ps i
          rw [hS] at hle2
          have hres : min q (N + 1) = min (szsT (erases ps) + 1) (N + 1) := by omega
          have g2 : ¬ ((min (szsT (erases ps) + 1) (N + 1) : Nat) : Int) ≤ (N : Int) := by omega
          rw [hres]
          clear hres hS hle2 hq hle
          go_wp2_with fail
          go_ret
          exact ⟨rfl, hb⟩
      · have g1 : ¬ (i : Int) < (ps.length : Int) := by omega
        have hall : ps.take i = ps := szs_all (by omega)
        rw [hall] at hS
        have hres : min q (N + 1) = min (szsT (erases ps) + 1) (N + 1) := by omega
        rw [hres]
        clear hall hS hres hq
        go_wp2_with fail
        go_ret
        exact ⟨rfl, hb⟩

end Go.Proofs.Ytcnjogkgfdbhfaa
