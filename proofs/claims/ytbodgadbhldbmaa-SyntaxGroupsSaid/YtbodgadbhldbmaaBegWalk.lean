/- The walk of the statement SyntaxBegins: called with a text it returns true and changes nothing that was there.
   Conditions: the text is no longer than memory may be. -/
import Derived.Test.YtbodgadbhldbmaaWake
import Derived.Test.YtbodgadbhldbmaaBegin
namespace Go.Proofs.Ytbodgadbhldbmaa
open Go.RowKit

theorem below_go {a b c : World} (h : Below a.heap.size a b) (k : Below b.heap.size b c) : Below a.heap.size a c := h.trans (k.mono h.size)

theorem txt_take (s : ByteArray) (n : Nat) : txt (s.extract 0 n) = (txt s).take n := by
  unfold txt
  rw [← List.map_take]
  congr 1
  simp

set_option maxHeartbeats 1000000 in
set_option maxRecDepth 100000 in
theorem begins_long (s : ByteArray) (w : World) (h : 400 < s.size) : Calls Try.prog 7 #[.string s] w fun e w' => e = .returned (.bool true) ∧ Below w.heap.size w w' := by
  have h1 : (400 : Int) < (s.size : Int) := by omega
  go_enter Try.func7, Try.ntmps7
  go_wp2_with fail
  go_at_call 10
  refine (awake_any _).mono ?_
  rintro e w1 ⟨rfl, hb1⟩
  go_wp2_with fail
  go_at_call 10
  refine (awake_any _).mono ?_
  rintro e w2 ⟨rfl, hb2⟩
  go_wp2_with fail
  go_ret
  exact ⟨rfl, below_go hb1 hb2⟩

set_option maxHeartbeats 2000000 in
set_option maxRecDepth 100000 in
theorem begins_short (s : ByteArray) (w : World) (h : s.size ≤ 400) : Calls Try.prog 7 #[.string s] w fun e w' => e = .returned (.bool true) ∧ Below w.heap.size w w' := by
  have h1 : ¬ (400 : Int) < (s.size : Int) := by omega
  have hcode := pparse_code (txt s)
  have hbeg := pparse_begins (L := txt s)
  rw [txt_length] at hbeg
  go_enter Try.func7, Try.ntmps7
  go_wp2_with fail
  go_at_call 10
  refine (awake_any _).mono ?_
  rintro e w1 ⟨rfl, hb1⟩
  go_wp2_with fail
  go_at_call 11
  refine (parse_any s _).mono ?_
  rintro e w2 ⟨v, sa, sn, sc, _, rfl, _, _, hb2⟩
  have HB := Lib.hid (below_go hb1 hb2)
  clear hb1 hb2
  generalize hc : (pparse (txt s)).2.2 = c at *
  generalize hat : (pparse (txt s)).2.1 = at' at *
  clear hc hat
  rcases hcode with rfl | rfl | rfl
  · clear hbeg
    go_wp2_with fail
    go_ret
    exact ⟨rfl, HB.out.alloc HB.out.size _⟩
  · obtain ⟨hle, hor⟩ := hbeg rfl
    have a1 : (0 : Int) ≤ (at' : Int) := by omega
    have a2 : (at' : Int) ≤ (s.size : Int) := by omega
    have a3 : ¬ (at' : Int) < 0 := by omega
    have a4 : ¬ (s.size : Int) < (at' : Int) := by omega
    have HO := Lib.hid hor
    clear hbeg hor
    go_wp2_with fail
    go_at_call 11
    refine (parse_any (s.extract 0 at') _).mono ?_
    rintro e w3 ⟨v2, ta, tn, tc, _, rfl, _, _, hb3⟩
    rw [txt_take]
    have hcode2 := pparse_code ((txt s).take at')
    have hb4 := below_go (HB.out.alloc HB.out.size _) hb3
    have HB4 := Lib.hid hb4
    have hor := HO.out
    clear hb3 hb4 HO
    generalize (pparse ((txt s).take at')).2.2 = c2 at *
    generalize (pparse ((txt s).take at')).2.1 = at2 at *
    have hcase : c2 = 0 ∨ c2 = 3 ∨ (c2 = 2 ∧ at2 = at') := by omega
    clear hor hcode2
    rcases hcase with rfl | rfl | ⟨rfl, rfl⟩
    · go_wp2_with fail
      go_ret
      exact ⟨rfl, HB4.out.alloc HB4.out.size _⟩
    · go_wp2_with fail
      go_ret
      exact ⟨rfl, HB4.out.alloc HB4.out.size _⟩
    · go_wp2_with fail
      go_ret
      exact ⟨rfl, HB4.out.alloc HB4.out.size _⟩
  · clear hbeg
    go_wp2_with fail
    go_ret
    exact ⟨rfl, HB.out.alloc HB.out.size _⟩

theorem begins_walk (s : ByteArray) (w : World) : Calls Try.prog 7 #[.string s] w fun e w' => e = .returned (.bool true) ∧ Below w.heap.size w w' := by
  by_cases h : s.size ≤ 400
  · exact begins_short s w h
  · exact begins_long s w (by omega)

end Go.Proofs.Ytbodgadbhldbmaa
