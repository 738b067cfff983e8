/- The digits of a number: a contract.
   Conditions: a number of 64 bits. -/
import Derived.Test.YtbodgadbhldbmaaRd
import Derived.Laws.IdiomStrings
import Derived.Laws.Concat
namespace Go.Proofs.Ytbodgadbhldbmaa
open Go.RowKit

/-- The digits of a number, as they are written. -/
def decs (n : Nat) : List Nat := if 9 < n then decs (n / 10) ++ [48 + n % 10] else [48 + n]
termination_by n
theorem decs_big {n : Nat} (h : 9 < n) : decs n = decs (n / 10) ++ [48 + n % 10] := by rw [decs, if_pos h]
theorem decs_small {n : Nat} (h : ¬ 9 < n) : decs n = [48 + n] := by rw [decs, if_neg h]
theorem decs_len : ∀ (k n : Nat), n < 10 ^ (k + 1) → (decs n).length ≤ k + 1
  | 0, n, h => by rw [decs_small (by omega)]; simp
  | k + 1, n, h => by
    by_cases h9 : 9 < n
    · rw [decs_big h9]
      have := decs_len k (n / 10) (by rw [Nat.pow_succ] at h; omega)
      simp; omega
    · rw [decs_small h9]; simp
theorem decs_twenty {n : Nat} (h : n < 18446744073709551616) : (decs n).length ≤ 20 := decs_len 19 n (by omega)
theorem txt_cons (u : Nat) (hu : u ≤ 9) (s : ByteArray) : txt (⟨#[48 + UInt8.ofNat u]⟩ ++ s) = (48 + u) :: txt s := by
  unfold txt
  simp
  omega
theorem txt_append (a b : ByteArray) : txt (a ++ b) = txt a ++ txt b := by
  unfold txt
  simp
theorem conv_one (w : World) (n : Nat) (x : Int) (hx : x = n) (hn : n < 256) : (convert 48 9 (.slice (some ⟨w.heap.size, 0, none⟩) 1 1)).run Try.prog (w.alloc (.cells #[.int .u8 x] 5)) = .ok (.string ⟨#[UInt8.ofNat n]⟩) (w.alloc (.cells #[.int .u8 x] 5)) := by
  subst hx
  have := run_convert_bytes_back (P := Try.prog) (w.alloc (.cells #[.int .u8 n] 5)) 48 9 5 ⟨w.heap.size, 0, none⟩ 1 [UInt8.ofNat n] Try.underlying48 Try.underlying5 Try.underlying9 (by
    intro j hj
    have : j = 0 := by simp at hj; omega
    subst this
    have e : (UInt8.ofNat n).toNat = n := by simp; omega
    go_simp)
  exact this

set_option maxHeartbeats 1000000 in
set_option maxRecDepth 100000 in
theorem digits_any (n : Nat) (hn : n < 18446744073709551616) (w : World) : Calls Try.prog 12 #[.int .u64 n] w fun e w' => ∃ s, txt s = decs n ∧ e = .returned (.string s) ∧ Below w.heap.size w w' := by
  have h20 := decs_twenty hn
  go_enter Try.func12, Try.ntmps12
  go_wp2_with fail
  go_loopw [0, 3] (fun a b wr => ∃ (m : Nat) (s : ByteArray), a = .int .u64 m ∧ b = .string s ∧ m ≤ n ∧ decs m ++ txt s = decs n ∧ Below w.heap.size w wr) (fun a _ _ => match a with | .int _ m => m.toNat | _ => 0)
  case atStart => exact ⟨n, .empty, rfl, rfl, Nat.le_refl _, by simp [txt], Below.refl _ _⟩
  case round =>
    obtain ⟨m, s, rfl, rfl, hm, hd, hb⟩ := hrel
    have hlen : (txt s).length ≤ 20 := by rw [← hd] at h20; simp at h20; omega
    rw [txt_length] at hlen
    by_cases h9 : 9 < m
    · have g1 : (9 : Int) < (m : Int) := by omega
      have hcv := conv_one wr (48 + m % 10) (48 + (m : Int) % 10) (by omega) (by omega)
      go_wp2_with fail
      refine ⟨⟨m / 10, _, by simp, rfl, by omega, ?_, hb.alloc hb.size _⟩, by simp; omega⟩
      rw [txt_cons _ (by omega), ← hd, decs_big h9]
      simp
    · have g1 : ¬ (9 : Int) < (m : Int) := by omega
      have hcv := conv_one wr (48 + m) (48 + (m : Int)) (by omega) (by omega)
      go_wp2_with fail
      go_ret
      refine ⟨_, ?_, rfl, hb.alloc hb.size _⟩
      rw [txt_cons _ (by omega), ← hd, decs_small h9]
      simp

end Go.Proofs.Ytbodgadbhldbmaa
