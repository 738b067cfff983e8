/- What the program's text of one run comes to: a contract; numbers as strconv.FormatInt writes them.
   Conditions: a byte below 256; a number of 63 bits; what strconv.FormatInt gives is taken as known ('Fmt'). -/
import Derived.Test.YtgdblnppeeknpaaDoorRnX
import Derived.Test.YtgdblnppeeknpaaDoorRnB
import Derived.Lib.ItoaMem
import Derived.Lib.AppendIntMem
import Derived.Deep.RegionLaw
namespace Go.Proofs.YtgdblnppeeknpaaDoor
open Go.RowKit Go.Sort

theorem and15 : ∀ b, b < 256 → bits .and .u8 ((b : Nat) : Int) 15 = (((b % 16 : Nat)) : Int) := by decide +kernel
theorem hexIx : ∀ k : Fin 16, (({ data := #[48, 49, 50, 51, 52, 53, 54, 55, 56, 57, 97, 98, 99, 100, 101, 102] } : ByteArray)[k.val]'(by have := k.2; show k.val < 16; omega)).toNat = hx k.val := by decide
theorem hexIx2 {k : Nat} {i : Int} (hi : i = (k : Nat)) (hk : k < 16) (h : i.toNat < ({ data := #[48, 49, 50, 51, 52, 53, 54, 55, 56, 57, 97, 98, 99, 100, 101, 102] } : ByteArray).size) : (({ data := #[48, 49, 50, 51, 52, 53, 54, 55, 56, 57, 97, 98, 99, 100, 101, 102] } : ByteArray)[i.toNat]'h).toNat = hx k := by
  subst hi
  exact hexIx ⟨k, hk⟩
theorem dec_nats : ∀ n u, u < n → (Lib.decDigits u).map UInt8.toNat = decs u
  | 0, u, h => by omega
  | n + 1, u, h => by
    by_cases hu : u < 10
    · rw [Lib.decDigits_one hu, decs_small (by omega)]
      simp
      omega
    · rw [Lib.decDigits, dif_neg hu, decs_big (by omega), List.map_append, dec_nats n (u / 10) (by omega)]
      simp
      omega
theorem itoa_txt (n : Nat) : txt ⟨(Lib.itoa (n : Int)).toArray⟩ = decs n := by
  rw [Lib.itoa_nonneg]
  exact dec_nats (n + 1) n (by omega)
/-- Numbers are written in base ten, wherever the memory has come to from w. -/
def Fmt (w : World) : Prop := ∀ (n : Nat) (W : World), n < 9223372036854775808 → Below w.heap.size w W → Calls Tryd.prog 23 #[.int .i64 (n : Int), .int .i64 10] W (Wrote (decs n) W)
/-- Off the library's contract, whatever table it needs. -/
theorem fmt_of (w : World) (h : ∀ (n : Int) (W : World), Below w.heap.size w W → -9223372036854775808 ≤ n → n ≤ 9223372036854775807 → Calls Tryd.prog 23 #[.int .i64 n, .int .i64 10] W fun e w' => e = .returned (.string ⟨(Lib.itoa n).toArray⟩) ∧ ∃ k os, w' = grow (W.drewN k) os) : Fmt w :=
  fun n W hn hW => (h n W hW (by omega) (by omega)).mono fun _ _ ⟨h1, k, os, h2⟩ => ⟨_, itoa_txt n, h1, h2 ▸ Lib.below_grow W.heap.size W (Nat.le_refl _) k os⟩
set_option maxHeartbeats 4000000 in
set_option maxRecDepth 100000 in
theorem text1_any (w : World) (b : Nat) (t : Int) (hb : b < 256) (ht : 1 ≤ t) (ht2 : t < 9223372036854775808) (HF : Fmt w) :
    Calls Tryd.prog 20 #[.agg #[.int .u8 (b : Int), .int .i64 t]] w (Wrote (rnT (b, t)) w) := by
  obtain ⟨m, rfl⟩ : ∃ m : Nat, t = (m : Int) := ⟨t.toNat, by omega⟩
  obtain ⟨w7, hw7, hb7, hq7⟩ : ∃ w7, w.alloc (.cells #[.int .u8 (b : Int), .int .i64 (m : Int)] 42) = w7 ∧ Below w.heap.size w w7 ∧ w7.heap[w.heap.size]? = some (.cells #[.int .u8 (b : Int), .int .i64 (m : Int)] 42 (0, 0)) := ⟨_, rfl, (Below.refl _ w).alloc (Nat.le_refl _) _, heap_alloc_new w _⟩
  have HF7 := Lib.hid (fun (n : Nat) (W : World) (hn : n < 9223372036854775808) (h : Below w7.heap.size w7 W) => HF n W hn (bhop hb7 h))
  have HB := Lib.hid (And.intro hb7 hq7)
  obtain ⟨y0, y1, _⟩ := two_cells hq7
  have n1 : (0 : Int) ≤ (b : Int) / 16 := by omega
  have n2 : (b : Int) / 16 < 16 := by omega
  have n3 : (0 : Int) ≤ (b : Int) % 16 := by omega
  have n4 : (b : Int) % 16 < 16 := by omega
  have n5 := and15 b hb
  have e1 := fun h => hexIx2 (k := b / 16) (i := (b : Int) / 16) (by omega) (by omega) h
  have e2 := fun h => hexIx2 (k := b % 16) (i := (b : Int) % 16) (by omega) (by omega) h
  have b1 := hx_lt (b / 16) (by omega)
  have b2 := hx_lt (b % 16) (by omega)
  have hl : ∀ x ∈ [hx (b / 16), hx (b % 16)], x < 256 := by simp; omega
  have hc := conv_drew w7 [hx (b / 16), hx (b % 16)] 2 hl
  have htx := txt_list [hx (b / 16), hx (b % 16)] hl
  simp at hc htx n5
  have h19 := decs_len19 (n := m) (by omega)
  clear HF hb7 hq7
  go_enter Tryd.func20, Tryd.ntmps20
  go_upto_region 1 with fail
  clear hw7
  go_wp2_with fail
  go_region_law (fail)
  all_goals
    obtain ⟨w8, hw8, hb8⟩ : ∃ w8, (w7.alloc (.cells #[.int .u8 ((hx (b / 16) : Nat) : Int), .int .u8 ((hx (b % 16) : Nat) : Int)] 5)).drew = w8 ∧ Below w7.heap.size w7 w8 := ⟨_, rfl, ((Below.refl _ w7).alloc (Nat.le_refl _) _).drew⟩
    rw [hw8]
    obtain ⟨_, z1, _⟩ := two_cells ((hb8.block _ (Array.getElem?_eq_some_iff.1 HB.out.2).1).trans HB.out.2)
    obtain ⟨s5, hs5⟩ : ∃ s, s = ({ data := #[UInt8.ofNat (hx (b / 16)), UInt8.ofNat (hx (b % 16))] } : ByteArray) := ⟨_, rfl⟩
    rw [← hs5] at htx ⊢
    have hz5 : s5.size = 2 := by rw [hs5]; rfl
    have HT := Lib.hid htx
    have HB8 := Lib.hid hb8
    clear hw8 hb8 y0 y1 hc htx hs5 e1 e2 n5
    by_cases g : m = 1
    · have g1 : ¬ (1 : Int) < (m : Int) := by omega
      have HR := Lib.hid (rnT_one b m g)
      clear g
      go_wp2_with fail
      go_ret
      exact ⟨_, HT.out.trans HR.out.symm, rfl, bhop HB.out.1 HB8.out⟩
    · have g1 : (1 : Int) < (m : Int) := by omega
      have HR := Lib.hid (rnT_many b m g)
      clear g
      go_wp2_with fail
      go_at_call 23
      refine (HF7.out m w8 (by omega) HB8.out).mono ?_
      rintro e w9 ⟨sd, hsd, rfl, hb9⟩
      have hzd : sd.size ≤ 19 := by rw [← txt_length, hsd]; exact h19
      have HB9 := Lib.hid (And.intro (bhop (bhop HB.out.1 HB8.out) hb9) hsd)
      clear hsd hb9 z1
      go_wp2_with fail
      go_ret
      refine ⟨_, ?_, rfl, HB9.out.1⟩
      rw [txt_append, txt_append, HT.out, HB9.out.2, HR.out]
      rfl

end Go.Proofs.YtgdblnppeeknpaaDoor
