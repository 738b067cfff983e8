/- The walk of the statement SyntaxRepeats: called with a text and two bytes it returns true and changes nothing that was there.
   Conditions: the text is no longer than memory may be. -/
import Derived.Test.YtbodgadbhldbmaaGrp
import Derived.Test.YtbodgadbhldbmaaSame
import Derived.Test.YtbodgadbhldbmaaBndWalk
namespace Go.Proofs.Ytbodgadbhldbmaa
open Go.RowKit

theorem below_al {a b c : World} (h : Below a.heap.size a b) (o : Obj) (k : Below (b.alloc o).heap.size (b.alloc o) c) : Below a.heap.size a c := below_go (h.alloc h.size o) k
theorem txt_rep {s s1 s2 : ByteArray} {n m : Nat} (h : txt s1 = decs n) (h2 : txt s2 = decs m) : txt (({ data := #[40] } : ByteArray) ++ s ++ { data := #[41, 123] } ++ s1 ++ { data := #[44] } ++ s2 ++ { data := #[125] }) = 40 :: (txt s ++ 41 :: 123 :: (decs n ++ 44 :: (decs m ++ [125]))) := by
  rw [txt_append, txt_append, txt_append, txt_append, txt_append, txt_append, h, h2]
  have e1 : txt { data := #[40] } = [40] := rfl
  have e2 : txt { data := #[41, 123] } = [41, 123] := rfl
  have e3 : txt { data := #[44] } = [44] := rfl
  have e4 : txt { data := #[125] } = [125] := rfl
  rw [e1, e2, e3, e4]
  simp

set_option maxHeartbeats 1000000 in
set_option maxRecDepth 100000 in
theorem repeats_long (s : ByteArray) (lo more : Nat) (w : World) (h : 100 < s.size) : Calls Try.prog 3 #[.string s, .int .u8 lo, .int .u8 more] w fun e w' => e = .returned (.bool true) ∧ Below w.heap.size w w' := by
  have h1 : (100 : Int) < (s.size : Int) := by omega
  go_enter Try.func3, Try.ntmps3
  go_wp2_with fail
  go_at_call 10
  refine (awake_any _).mono ?_
  rintro e w1 ⟨rfl, hb1⟩
  go_wp2_with fail
  go_at_call 10
  refine (awake_any _).mono ?_
  rintro e w2 ⟨rfl, hb2⟩
  go_wp2_with fail
  go_ret
  exact ⟨rfl, below_go hb1 hb2⟩

set_option maxHeartbeats 4000000 in
set_option maxRecDepth 100000 in
theorem repeats_short (s : ByteArray) (lo more : Nat) (w : World) (h : s.size ≤ 100) (hlo : lo < 256) (hmo : more < 256) : Calls Try.prog 3 #[.string s, .int .u8 lo, .int .u8 more] w fun e w' => e = .returned (.bool true) ∧ Below w.heap.size w w' := by
  have h1 : ¬ (100 : Int) < (s.size : Int) := by omega
  have HD := Lib.hid (fun (w : World) => show Calls Try.prog 12 #[.int .u64 ((lo : Int) + (more : Int))] w (fun e w' => ∃ s, txt s = decs (lo + more) ∧ e = .returned (.string s) ∧ Below w.heap.size w w') from by
    have := digits_any (lo + more) (by omega) w
    simpa using this)
  have HL := Lib.hid (show (txt s).length ≤ 190 by rw [txt_length]; omega)
  go_enter Try.func3, Try.ntmps3
  go_wp2_with fail
  go_at_call 10
  refine (awake_any _).mono ?_
  rintro e w1 ⟨rfl, hb1⟩
  go_wp2_with fail
  go_at_call 11
  refine (parse_any _ _).mono ?_
  rintro e w2 ⟨v, sa, sn, sc, hsl, rfl, htr, hl, hb2⟩
  have HB2 := Lib.hid (below_go hb1 hb2)
  clear hb1 hb2
  by_cases h0 : (pparse (txt s)).2.2 = 0
  · obtain ⟨t, r, hrun, hgood, ht1, ht2, _⟩ := pparse_good h0
    rw [hgood] at htr ⊢
    have HT := Lib.hid (And.intro hrun (And.intro ht1 (And.intro ht2 (And.intro htr (And.intro hl hsl)))))
    clear hrun ht1 ht2 htr hl hsl hgood h0
    go_wp2_with fail
    go_at_call 12
    refine (digits_any lo (by omega) _).mono ?_
    rintro e w3 ⟨s1, hs1, rfl, hb3⟩
    have hz1 := size_dec hs1 (by omega)
    go_wp2_with fail
    go_at_call 12
    refine (HD.out _).mono ?_
    rintro e w4 ⟨s2, hs2, rfl, hb4⟩
    have hz2 := size_dec hs2 (by omega)
    go_wp2_with fail
    go_at_call 11
    refine (parse_any _ _).mono ?_
    rintro e w5 ⟨v2, ta, tn, tc, hsl2, rfl, htr2, hl2, hb5⟩
    rw [txt_rep hs1 hs2, parse_rep HT.out.1 HL.out (by omega) (by omega)] at htr2 ⊢
    have N1 := below_go (below_go hb3 hb4) hb5
    have HB5 := Lib.hid (below_al HB2.out _ N1)
    by_cases hbig : 20 < dptT (repT ((lo : Int), ((lo + more : Nat) : Int)) t) ∨ 40 < plcT (repT ((lo : Int), ((lo + more : Nat) : Int)) t)
    · rw [if_pos hbig] at htr2 ⊢
      clear htr2 hl2 hsl2 hbig N1 hb3 hb4 hb5 hs1 hs2
      go_wp2_with fail
      go_ret
      exact ⟨rfl, HB5.out.alloc HB5.out.size _⟩
    · rw [if_neg hbig] at htr2 ⊢
      obtain ⟨hk, _, hlo2, hhi, hps⟩ := erase_node htr2
      have hlo3 : v2.lo = (lo : Int) := hlo2
      have hhi3 : v2.hi = (lo : Int) + (more : Int) := hhi.trans (by simp)
      obtain ⟨p, hp, hpt⟩ := erases_single hps
      rw [hk, hlo3, hhi3]
      rcases laid_inv hl2 with ⟨h1, _⟩ | ⟨b, off, cap, hv, _, hlt, hcap, hc, hkl⟩
      · rw [hp] at h1; cases h1
      have hpl := hkl p (by simp [hp])
      rw [hp] at hv hc
      rw [hsl2] at hv
      simp only [Value.slice.injEq, List.length_cons, List.length_nil] at hv
      obtain ⟨rfl, rfl, rfl⟩ := hv
      obtain ⟨y0, y1, y2, y3, y4, y5, y6, y7⟩ := node_cells (w := w5) (w' := w5) (b := b) (o := off) (t := p) (fun j u hu => by
        have := hc 0 p rfl j u hu
        rwa [Nat.zero_mul, Nat.add_zero] at this) hlt (Below.refl _ _)
      have x0 : w5.cell? ⟨w2.heap.size, 0, none⟩ = some (.int .i64 v.kind) := (N1.cell (p := ⟨w2.heap.size, 0, none⟩) (by simp)).trans (by go_simp)
      have x1 : w5.cell? ⟨w2.heap.size, 1, none⟩ = some (.int .u64 (v.set 0 : Nat)) := (N1.cell (p := ⟨w2.heap.size, 1, none⟩) (by simp)).trans (by go_simp)
      have x2 : w5.cell? ⟨w2.heap.size, 2, none⟩ = some (.int .u64 (v.set 1 : Nat)) := (N1.cell (p := ⟨w2.heap.size, 2, none⟩) (by simp)).trans (by go_simp)
      have x3 : w5.cell? ⟨w2.heap.size, 3, none⟩ = some (.int .u64 (v.set 2 : Nat)) := (N1.cell (p := ⟨w2.heap.size, 3, none⟩) (by simp)).trans (by go_simp)
      have x4 : w5.cell? ⟨w2.heap.size, 4, none⟩ = some (.int .u64 (v.set 3 : Nat)) := (N1.cell (p := ⟨w2.heap.size, 4, none⟩) (by simp)).trans (by go_simp)
      have x5 : w5.cell? ⟨w2.heap.size, 5, none⟩ = some (.slice sa sn sc) := (N1.cell (p := ⟨w2.heap.size, 5, none⟩) (by simp)).trans (by go_simp)
      have x6 : w5.cell? ⟨w2.heap.size, 6, none⟩ = some (.int .i64 v.lo) := (N1.cell (p := ⟨w2.heap.size, 6, none⟩) (by simp)).trans (by go_simp)
      have x7 : w5.cell? ⟨w2.heap.size, 7, none⟩ = some (.int .i64 v.hi) := (N1.cell (p := ⟨w2.heap.size, 7, none⟩) (by simp)).trans (by go_simp)
      obtain ⟨hrun, _, _, htr, hl, hsl⟩ := HT.out
      have hsz := sz_all hrun
      have hL := HL.out
      have N0 := below_al (Below.refl w2.heap.size w2) _ N1
      have hl5 := hl.keep (R' := fun b => w1.heap.size ≤ b) (fun _ _ h => h) N0.size fun k hk _ => N0.block k hk
      have HC := Lib.hid (fun (w' : World) (hb : Below w5.heap.size w5 w') => by
        have := same_yes 1000000 (Nat.le_refl _) p v w' _ _ (by rw [hpt]; omega) (hpt.trans htr.symm) (hpl.keep (fun _ _ h => h) hb.size fun k hk _ => hb.block k hk) (hl5.keep (fun _ _ h => h) hb.size fun k hk _ => hb.block k hk)
        simp only [nodeAgg, hsl] at this
        exact this)
      have hne1 : w2.heap.size ≠ w5.heap.size := by have := N1.size; simp at this; omega
      have hne2 : b ≠ w5.heap.size := by omega
      have HX := Lib.hid hbig
      have HLT := Lib.hid (And.intro hlt (show w2.heap.size < w5.heap.size by have := N1.size; simp at this; omega))
      clear hbig htr2 hl2 hsl2 N1 N0 hb3 hb4 hb5 hs1 hs2 hk hlo2 hhi hps hlo3 hhi3 hp hpt hc hkl hpl hrun htr hl hsl hsz hL hl5 hlt hcap
      go_wp2_with fail
      have hlb : b < w5.heap.size := HLT.out.1
      have hl2' : w2.heap.size < w5.heap.size := HLT.out.2
      generalize hW : World.alloc w5 _ = w6
      have hb6 : Below w5.heap.size w5 w6 := hW ▸ (Below.refl _ _).alloc (Nat.le_refl _) _
      have m0 : w6.cell? ⟨w5.heap.size, 0, none⟩ = some (.int .i64 4) := by rw [← hW, World.cell?_alloc_mark]; rfl
      have m5 : w6.cell? ⟨w5.heap.size, 5, none⟩ = some (.slice (some ⟨b, off, none⟩) 1 tc) := by rw [← hW, World.cell?_alloc_mark]; rfl
      have m6 : w6.cell? ⟨w5.heap.size, 6, none⟩ = some (.int .i64 lo) := by rw [← hW, World.cell?_alloc_mark]; rfl
      have m7 : w6.cell? ⟨w5.heap.size, 7, none⟩ = some (.int .i64 ((lo : Int) + (more : Int))) := by rw [← hW, World.cell?_alloc_mark]; rfl
      have X0 : w6.cell? ⟨w2.heap.size, 0, none⟩ = some (.int .i64 v.kind) := (hb6.cell (p := ⟨w2.heap.size, 0, none⟩) hl2').trans x0
      have X1 : w6.cell? ⟨w2.heap.size, 1, none⟩ = some (.int .u64 (v.set 0 : Nat)) := (hb6.cell (p := ⟨w2.heap.size, 1, none⟩) hl2').trans x1
      have X2 : w6.cell? ⟨w2.heap.size, 2, none⟩ = some (.int .u64 (v.set 1 : Nat)) := (hb6.cell (p := ⟨w2.heap.size, 2, none⟩) hl2').trans x2
      have X3 : w6.cell? ⟨w2.heap.size, 3, none⟩ = some (.int .u64 (v.set 2 : Nat)) := (hb6.cell (p := ⟨w2.heap.size, 3, none⟩) hl2').trans x3
      have X4 : w6.cell? ⟨w2.heap.size, 4, none⟩ = some (.int .u64 (v.set 3 : Nat)) := (hb6.cell (p := ⟨w2.heap.size, 4, none⟩) hl2').trans x4
      have X5 : w6.cell? ⟨w2.heap.size, 5, none⟩ = some (.slice sa sn sc) := (hb6.cell (p := ⟨w2.heap.size, 5, none⟩) hl2').trans x5
      have X6 : w6.cell? ⟨w2.heap.size, 6, none⟩ = some (.int .i64 v.lo) := (hb6.cell (p := ⟨w2.heap.size, 6, none⟩) hl2').trans x6
      have X7 : w6.cell? ⟨w2.heap.size, 7, none⟩ = some (.int .i64 v.hi) := (hb6.cell (p := ⟨w2.heap.size, 7, none⟩) hl2').trans x7
      have Y0 : w6.cell? ⟨b, off, none⟩ = some (.int .i64 p.kind) := (hb6.cell (p := ⟨b, off, none⟩) hlb).trans y0
      have Y1 : w6.cell? ⟨b, off + 1, none⟩ = some (.int .u64 (p.set 0 : Nat)) := (hb6.cell (p := ⟨b, off + 1, none⟩) hlb).trans y1
      have Y2 : w6.cell? ⟨b, off + 2, none⟩ = some (.int .u64 (p.set 1 : Nat)) := (hb6.cell (p := ⟨b, off + 2, none⟩) hlb).trans y2
      have Y3 : w6.cell? ⟨b, off + 3, none⟩ = some (.int .u64 (p.set 2 : Nat)) := (hb6.cell (p := ⟨b, off + 3, none⟩) hlb).trans y3
      have Y4 : w6.cell? ⟨b, off + 4, none⟩ = some (.int .u64 (p.set 3 : Nat)) := (hb6.cell (p := ⟨b, off + 4, none⟩) hlb).trans y4
      have Y5 : w6.cell? ⟨b, off + 5, none⟩ = some (p.v) := (hb6.cell (p := ⟨b, off + 5, none⟩) hlb).trans y5
      have Y6 : w6.cell? ⟨b, off + 6, none⟩ = some (.int .i64 p.lo) := (hb6.cell (p := ⟨b, off + 6, none⟩) hlb).trans y6
      have Y7 : w6.cell? ⟨b, off + 7, none⟩ = some (.int .i64 p.hi) := (hb6.cell (p := ⟨b, off + 7, none⟩) hlb).trans y7
      have HB6 := Lib.hid (hb6.drew)
      have HB7 := Lib.hid (below_go HB5.out hb6.drew)
      clear hW hb6 x0 x1 x2 x3 x4 x5 x6 x7 y0 y1 y2 y3 y4 y5 y6 y7 hlb hl2'
      have q1 : IntKind.i64.wrap (lo : Int) = (lo : Int) := by rw [IntKind.wrap_i64]; omega
      have q2 : IntKind.i64.wrap (more : Int) = (more : Int) := by rw [IntKind.wrap_i64]; omega
      have q3 : IntKind.i64.wrap ((lo : Int) + (more : Int)) = (lo : Int) + (more : Int) := by rw [IntKind.wrap_i64]; omega
      go_still_tail 32, (by kernel_rfl)
      change wpList _ _ _ _ _ w6.drew
      clear X0 X1 X2 X3 X4 X5 X6 X7 Y0 Y1 Y2 Y3 Y4 Y5 Y6 Y7 m0 m5 m6 m7
      generalize w6.drew = w7 at *
      go_wp2_with fail
      go_at_call 13
      refine (HC.out _ HB6.out).mono ?_
      rintro e w8 ⟨rfl, hb8⟩
      have HB8 := Lib.hid (below_go HB7.out hb8)
      clear hb8
      go_wp2_with fail
      go_ret
      exact ⟨rfl, HB8.out⟩
  · have hcode := pparse_code (txt s)
    generalize (pparse (txt s)).2.2 = c at *
    generalize (pparse (txt s)).2.1 = at' at *
    have hc : ((c : Int) == 0) = false := by simp; omega
    clear htr hl hsl hcode
    go_wp2_with fail
    go_at_call 12
    refine (digits_any lo (by omega) _).mono ?_
    rintro e w3 ⟨s1, hs1, rfl, hb3⟩
    have hz1 := size_dec hs1 (by omega)
    go_wp2_with fail
    go_at_call 12
    refine (HD.out _).mono ?_
    rintro e w4 ⟨s2, hs2, rfl, hb4⟩
    have hz2 := size_dec hs2 (by omega)
    go_wp2_with fail
    go_at_call 11
    refine (parse_any _ _).mono ?_
    rintro e w5 ⟨v2, ta, tn, tc, hsl2, rfl, htr2, hl2, hb5⟩
    have HB5 := Lib.hid (below_al HB2.out _ (below_go (below_go hb3 hb4) hb5))
    generalize (pparse (txt _)).2.2 = c2 at *
    generalize (pparse (txt _)).2.1 = at2 at *
    clear htr2 hl2 hsl2 hb3 hb4 hb5 hs1 hs2
    go_wp2_with fail
    go_ret
    exact ⟨rfl, HB5.out.alloc HB5.out.size _⟩

theorem repeats_walk (s : ByteArray) (lo more : Nat) (w : World) (hlo : lo < 256) (hmo : more < 256) : Calls Try.prog 3 #[.string s, .int .u8 lo, .int .u8 more] w fun e w' => e = .returned (.bool true) ∧ Below w.heap.size w w' := by
  by_cases h : s.size ≤ 100
  · exact repeats_short s lo more w h hlo hmo
  · exact repeats_long s lo more w (by omega)

end Go.Proofs.Ytbodgadbhldbmaa
