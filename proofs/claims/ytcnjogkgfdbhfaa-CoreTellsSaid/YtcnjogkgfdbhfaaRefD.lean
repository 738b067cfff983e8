/- What the document's own functions on trees come to: how deep, how many places: contracts.
   Conditions: the tree lies in memory, and has at most 1000000 nodes. -/
import Derived.Test.YtcnjogkgfdbhfaaRefT
namespace Go.Proofs.Ytcnjogkgfdbhfaa
open Go.RowKit
attribute [local go_sem] nodeAgg

theorem dpts_append (a b : List T) : dptsT (a ++ b) = max (dptsT a) (dptsT b) := by
  induction a with
  | nil => simp [dptsT]
  | cons t a ih => rw [List.cons_append, dptsT, dptsT, ih]; omega
theorem dpts_take {ps : List V} {i : Nat} {p : V} (h : ps[i]? = some p) : dptsT (erases (ps.take (i + 1))) = max (dptsT (erases (ps.take i))) (dptT (erase p)) := by
  rw [List.take_add_one, h, erases_append, dpts_append]
  congr 1
  show dptsT (erases [p]) = _
  rw [erases, erases, dptsT, dptsT]
  omega
theorem plcs_append (a b : List T) : plcsT (a ++ b) = plcsT a + plcsT b := by
  induction a with
  | nil => simp [plcsT]
  | cons t a ih => rw [List.cons_append, plcsT, plcsT, ih]; omega
theorem plcs_take {ps : List V} {i : Nat} {p : V} (h : ps[i]? = some p) : plcsT (erases (ps.take (i + 1))) = plcsT (erases (ps.take i)) + plcT (erase p) := by
  rw [List.take_add_one, h, erases_append, plcs_append]
  show _ + plcsT (erases [p]) = _
  rw [erases, erases, plcsT, plcsT]
  omega
theorem dpt_eq (a : V) : dptT (erase a) = dptsT (erases a.ps) + 1 := by cases a; rw [erase, dptT]; rfl
theorem plc_eq (a : V) : plcT (erase a) = (if a.kind = 1 then 1 else 0) + plcsT (erases a.ps) := by cases a; rw [erase, plcT]; rfl

set_option maxHeartbeats 2000000 in
set_option maxRecDepth 100000 in
theorem depth_ref (N : Nat) : N ≤ 1000000 → ∀ (t : V) (w : World) (R : Nat → Prop), szT (erase t) ≤ N → Laid w R t →
    Calls Try.prog 18 #[nodeAgg t] w fun e w' => e = .returned (.int .i64 (dptT (erase t) : Nat)) ∧ Below w.heap.size w w' := by
  induction N with
  | zero => intro _ t w R h; rw [sz_eq] at h; omega
  | succ N ih =>
    intro hN t w R hd ha
    obtain ⟨sa, sc, hv, hrow⟩ := laid_row' ha
    have hsz := sz_eq t
    have hdp := dpt_eq t
    have hlen := len_sz t.ps
    have hdd := dpts_sz (erases t.ps)
    simp only [nodeAgg]
    rw [hv, hdp]
    generalize t.kind = k, t.set = C, t.lo = lo, t.hi = hi
    generalize hps : t.ps = ps at *
    have hd2 : szsT (erases ps) ≤ N := by omega
    have hn1 : (ps.length : Int) ≤ 1000000 := by omega
    have HR := Lib.hid (And.intro hrow (And.intro (ih (by omega)) hd2))
    have HDD := Lib.hid hdd
    clear hrow ih hsz hdp hlen hdd hd2 hd hv ha hps
    go_enter Try.func18, Try.ntmps18
    go_wp2_with fail
    go_loopw [3, 4] (fun kk x wr => ∃ i : Nat, x = .int .i64 i ∧ i ≤ ps.length ∧ kk = .int .i64 (dptsT (erases (ps.take i)) : Nat) ∧ wr.cell? ⟨w.heap.size, 5, none⟩ = some (.slice sa ps.length sc) ∧ Below w.heap.size w wr ∧ w.heap.size < wr.heap.size) (fun _ x _ => match x with | .int _ z => ps.length - z.toNat | _ => 0)
    case atStart => exact ⟨0, rfl, by omega, by simp [erases, dptsT], by go_simp, (Below.refl _ _).alloc (Nat.le_refl _) _, by simp⟩
    case round =>
      obtain ⟨i, rfl, hi, rfl, c1, hb, hsz⟩ := hrel
      by_cases hlt : i < ps.length
      · have g1 : (i : Int) < (ps.length : Int) := by omega
        obtain ⟨p, hp⟩ : ∃ p, ps[i]? = some p := ⟨_, List.getElem?_eq_getElem hlt⟩
        have hnext := dpts_take hp
        obtain ⟨r1, r2, r3⟩ := HR.out
        obtain ⟨b1, o1, rfl, hlt1, cc1, L1⟩ := r1 i p hp
        obtain ⟨x0, x1, x2, x3, x4, x5, x6, x7⟩ := node_cells cc1 hlt1 hb
        have HC := Lib.hid (r2 p wr R (Nat.le_trans (sz_mem (List.mem_of_getElem? hp)) r3) (L1.keep (fun _ _ h => h) hb.size fun k hk _ => hb.block k hk))
        have HN := Lib.hid hnext
        clear r1 r2 r3 cc1 L1 hp hlt1 hnext
        generalize dptsT (erases (ps.take i)) = D at *
        go_wp2_with fail
        go_at_call 18
        refine HC.out.mono ?_
        rintro e w3 ⟨rfl, hb3⟩
        have f1 : w3.cell? ⟨w.heap.size, 5, none⟩ = some (.slice (some ⟨b1, o1, none⟩) ps.length sc) := (hb3.cell (p := ⟨w.heap.size, 5, none⟩) hsz).trans c1
        have fz : w.heap.size < w3.heap.size := by have := hb3.size; omega
        have hb4 : Below w.heap.size w w3 := hb.trans (hb3.mono hb.size)
        clear hb3 hb HC x0 x1 x2 x3 x4 x5 x6 x7
        generalize dptT (erase p) = E at *
        go_wp2_with fail
        all_goals exact ⟨⟨i + 1, by simp, by omega, by rw [HN.out]; congr 1; omega, f1, hb4, fz⟩, by simp; omega⟩
      · have g1 : ¬ (i : Int) < (ps.length : Int) := by omega
        have hall : ps.take i = ps := szs_all (by omega)
        rw [hall]
        have g2 : ((dptsT (erases ps) : Nat) : Int) ≤ 1000000 := by have := HDD.out; have := HR.out.2.2; omega
        have g3 : (0 : Int) ≤ ((dptsT (erases ps) : Nat) : Int) := by omega
        clear hall
        go_wp2_with fail
        go_ret
        exact ⟨by simp, hb⟩

set_option maxHeartbeats 2000000 in
set_option maxRecDepth 100000 in
theorem places_ref (N : Nat) : N ≤ 1000000 → ∀ (t : V) (w : World) (R : Nat → Prop), szT (erase t) ≤ N → Laid w R t →
    Calls Try.prog 17 #[nodeAgg t] w fun e w' => e = .returned (.int .i64 (plcT (erase t) : Nat)) ∧ Below w.heap.size w w' := by
  induction N with
  | zero => intro _ t w R h; rw [sz_eq] at h; omega
  | succ N ih =>
    intro hN t w R hd ha
    obtain ⟨sa, sc, hv, hrow⟩ := laid_row' ha
    have hsz := sz_eq t
    have hdp := plc_eq t
    have hlen := len_sz t.ps
    simp only [nodeAgg]
    rw [hv, hdp]
    generalize t.kind = k, t.set = C, t.lo = lo, t.hi = hi
    generalize hps : t.ps = ps at *
    have hd2 : szsT (erases ps) ≤ N := by omega
    have hn1 : (ps.length : Int) ≤ 1000000 := by omega
    have HR := Lib.hid (And.intro hrow (And.intro (ih (by omega)) hd2))
    clear hrow ih hsz hdp hlen hd2 hd hv ha hps
    obtain ⟨z, hz⟩ : ∃ z, z = (if k = 1 then 1 else 0) := ⟨_, rfl⟩
    rw [← hz]
    have hzz : (k = 1 ∧ z = 1) ∨ ((k == 1) = false ∧ z = 0) := by by_cases h : k = 1 <;> simp [h, hz]
    have hz1 : z ≤ 1 := by omega
    clear hz
    rcases hzz with ⟨rfl, hz⟩ | ⟨hk, hz⟩
    all_goals
      have HZ := Lib.hid hz
      clear hz
      go_enter Try.func17, Try.ntmps17
      go_wp2_with fail
      go_loopw [3, 4] (fun kk x wr => ∃ i : Nat, x = .int .i64 i ∧ i ≤ ps.length ∧ kk = .int .i64 (z + plcsT (erases (ps.take i)) : Nat) ∧ wr.cell? ⟨w.heap.size, 5, none⟩ = some (.slice sa ps.length sc) ∧ Below w.heap.size w wr ∧ w.heap.size < wr.heap.size) (fun _ x _ => match x with | .int _ z => ps.length - z.toNat | _ => 0)
      case atStart => exact ⟨0, rfl, by omega, by rw [HZ.out]; simp [erases, plcsT], by go_simp, (Below.refl _ _).alloc (Nat.le_refl _) _, by simp⟩
      case round =>
        obtain ⟨i, rfl, hi, rfl, c1, hb, hsz⟩ := hrel
        by_cases hlt : i < ps.length
        · have g1 : (i : Int) < (ps.length : Int) := by omega
          obtain ⟨p, hp⟩ : ∃ p, ps[i]? = some p := ⟨_, List.getElem?_eq_getElem hlt⟩
          have hnext := plcs_take hp
          obtain ⟨r1, r2, r3⟩ := HR.out
          obtain ⟨b1, o1, rfl, hlt1, cc1, L1⟩ := r1 i p hp
          obtain ⟨x0, x1, x2, x3, x4, x5, x6, x7⟩ := node_cells cc1 hlt1 hb
          have hsp := sz_mem (List.mem_of_getElem? hp)
          have HC := Lib.hid (r2 p wr R (Nat.le_trans hsp r3) (L1.keep (fun _ _ h => h) hb.size fun k hk _ => hb.block k hk))
          have g2 : ((z + plcsT (erases (ps.take i)) : Nat) : Int) ≤ 1000001 := by
            have h1 := plcs_sz (erases (ps.take i))
            have h2 := szs_take_le ps i
            omega
          have g3 : (0 : Int) ≤ ((z + plcsT (erases (ps.take i)) : Nat) : Int) := by omega
          have g4 : ((plcT (erase p) : Nat) : Int) ≤ 1000000 := by
            have h1 := plc_sz (erase p)
            omega
          have g5 : (0 : Int) ≤ ((plcT (erase p) : Nat) : Int) := by omega
          have hsum : ((z + plcsT (erases (ps.take i)) : Nat) : Int) + ((plcT (erase p) : Nat) : Int) = ((z + plcsT (erases (ps.take (i + 1))) : Nat) : Int) := by rw [hnext]; omega
          have HS := Lib.hid hsum
          clear r1 r2 r3 cc1 L1 hp hlt1 hnext hsp hsum
          generalize z + plcsT (erases (ps.take i)) = D at *
          go_wp2_with fail
          go_at_call 17
          refine HC.out.mono ?_
          rintro e w3 ⟨rfl, hb3⟩
          have f1 : w3.cell? ⟨w.heap.size, 5, none⟩ = some (.slice (some ⟨b1, o1, none⟩) ps.length sc) := (hb3.cell (p := ⟨w.heap.size, 5, none⟩) hsz).trans c1
          have fz : w.heap.size < w3.heap.size := by have := hb3.size; omega
          have hb4 : Below w.heap.size w w3 := hb.trans (hb3.mono hb.size)
          clear hb3 hb HC x0 x1 x2 x3 x4 x5 x6 x7
          generalize plcT (erase p) = E at *
          go_wp2_with fail
          exact ⟨⟨i + 1, by simp, by omega, by rw [← HS.out], f1, hb4, fz⟩, by simp; omega⟩
        · have g1 : ¬ (i : Int) < (ps.length : Int) := by omega
          have hall : ps.take i = ps := szs_all (by omega)
          rw [hall]
          clear hall
          go_wp2_with fail
          go_ret
          exact ⟨rfl, hb⟩

end Go.Proofs.Ytcnjogkgfdbhfaa
