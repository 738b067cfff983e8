/- What the reader comes to on a whole text: a contract.
   Conditions: the text has at most 400 bytes. -/
import Derived.Test.YtpibkalbnjgpaaaDoorStep
namespace Go.Proofs.YtpibkalbnjgpaaaDoor
open Go.RowKit

theorem Stepped.cases {o : Out (G × List G)} {w : World} {base rb : Nat} {s : ByteArray} {e : Ending} {w' : World} (h : Stepped o w base rb s e w') : (∃ c : Nat, e = .returned (.int .i64 c)) := by
  cases o with
  | ok x r => exact ⟨0, h.1⟩
  | er r c => exact ⟨c, h.2.1⟩

set_option maxHeartbeats 2000000 in
set_option maxRecDepth 100000 in
theorem step_rep {w : World} {base rb k ob cap b : Nat} {s : ByteArray} {fr : List Grp} {g : Grp} {r : List Nat} (h : Mem w base rb s k (fr ++ [g]) ob cap) (ht : Tl s k (b :: r)) (hs : s.size ≤ maxLen) (hb : b = 42 ∨ b = 43 ∨ b = 63 ∨ b = 123) (hn : g.row.length ≤ 1000) (hm : fr.length ≤ 1000) :
    Calls Tryd.prog 38 #[.pointer (some ⟨rb, 0, none⟩), .int .u8 b] w (Stepped (pstep g.er (fr.map Grp.er).reverse (b :: r)) w base rb s) := by
  have hp : pstep g.er (fr.map Grp.er).reverse (b :: r) = prep g.er (fr.map Grp.er).reverse b r := by
    have h1 : b ≠ 40 := by omega
    have h2 : b ≠ 124 := by omega
    have h3 : b ≠ 41 := by omega
    simp only [pstep, if_neg h1, if_neg h2, if_neg h3, if_pos hb]
    rfl
  rw [hp]
  have HR := Lib.hid (repeat_any h ht hs hb hn hm)
  clear h ht hp
  generalize prep g.er (fr.map Grp.er).reverse b r = o at *
  rcases hb with rfl | rfl | rfl | rfl
  all_goals
    go_enter Tryd.func38, Tryd.ntmps38
    go_wp2_with fail
    go_at_call 52
    refine HR.out.mono ?_
    intro e w1 hS
    obtain ⟨c, rfl⟩ := hS.cases
    have HS := Lib.hid hS
    clear hS
    go_wp2_with fail
    go_ret
    exact HS.out

set_option maxHeartbeats 2000000 in
set_option maxRecDepth 100000 in
theorem step_atom {w : World} {base rb k ob cap b : Nat} {s : ByteArray} {fr : List Grp} {g : Grp} {r : List Nat} (h : Mem w base rb s k (fr ++ [g]) ob cap) (ht : Tl s k (b :: r)) (hs : s.size ≤ maxLen) (h1 : b ≠ 40) (h2 : b ≠ 124) (h3 : b ≠ 41) (hb : ¬ (b = 42 ∨ b = 43 ∨ b = 63 ∨ b = 123)) (hn : g.row.length ≤ 1000) (hm : fr.length ≤ 1000) :
    Calls Tryd.prog 38 #[.pointer (some ⟨rb, 0, none⟩), .int .u8 b] w (Stepped (pstep g.er (fr.map Grp.er).reverse (b :: r)) w base rb s) := by
  have hp : pstep g.er (fr.map Grp.er).reverse (b :: r) = patom g.er (fr.map Grp.er).reverse (b :: r) := by
    simp only [pstep, if_neg h1, if_neg h2, if_neg h3, if_neg hb]
    rfl
  rw [hp]
  have HR := Lib.hid (atom_any h ht hs hn hm)
  have d1 : ((b : Int) == 40) = false := by simp; omega
  have d2 : ((b : Int) == 124) = false := by simp; omega
  have d3 : ((b : Int) == 41) = false := by simp; omega
  have d4 : ((b : Int) == 42) = false := by simp; omega
  have d5 : ((b : Int) == 43) = false := by simp; omega
  have d6 : ((b : Int) == 63) = false := by simp; omega
  have d7 : ((b : Int) == 123) = false := by simp; omega
  clear h ht hp h1 h2 h3 hb
  generalize patom g.er (fr.map Grp.er).reverse (b :: r) = o at *
  go_enter Tryd.func38, Tryd.ntmps38
  go_wp2_with fail
  go_at_call 53
  refine HR.out.mono ?_
  intro e w1 hS
  obtain ⟨c, rfl⟩ := hS.cases
  have HS := Lib.hid hS
  clear hS
  go_wp2_with fail
  go_ret
  exact HS.out

theorem step_any {w : World} {base rb k ob cap b : Nat} {s : ByteArray} {fr : List Grp} {g : Grp} {r : List Nat} (h : Mem w base rb s k (fr ++ [g]) ob cap) (ht : Tl s k (b :: r)) (hs : s.size ≤ maxLen) (hbd : Bd 1000 g.er (fr.map Grp.er).reverse) :
    Calls Tryd.prog 38 #[.pointer (some ⟨rb, 0, none⟩), .int .u8 b] w (Stepped (pstep g.er (fr.map Grp.er).reverse (b :: r)) w base rb s) := by
  obtain ⟨b1, b2, b3, b4⟩ := hbd
  have hn1 : g.rows.length ≤ 1000 := by have : (erases g.rows).length ≤ 1000 := b1; rwa [erases_length] at this
  have hn2 : g.row.length ≤ 1000 := by have : (erases g.row).length ≤ 1000 := b2; rwa [erases_length] at this
  have hm : fr.length ≤ 1000 := by simpa using b4
  by_cases h1 : b = 40
  · subst h1; exact step_open h ht hs hm
  · by_cases h2 : b = 124
    · subst h2; exact step_bar h ht hs hm hn1
    · by_cases h3 : b = 41
      · subst h3
        rcases List.eq_nil_or_concat fr with rfl | ⟨f0, p, rfl⟩
        · exact step_lone h ht
        · rw [List.concat_eq_append] at h b3 hm ⊢
          have hp := (b3 p.er (by simp)).2
          have hp2 : p.row.length ≤ 1000 := by have : (erases p.row).length ≤ 1000 := hp; rwa [erases_length] at this
          exact step_close h ht hs hm hn1 hp2
      · by_cases hb : b = 42 ∨ b = 43 ∨ b = 63 ∨ b = 123
        · exact step_rep h ht hs hb hn2 hm
        · exact step_atom h ht hs h1 h2 h3 hb hn2 hm

theorem prun_nil (g : G) : prun g [] [] = .ok (shutT g) [] := by rw [prun]
theorem prun_open (g p : G) (ps : List G) : prun g (p :: ps) [] = .er [] 2 := by rw [prun]
theorem prun_cons (g : G) (frs : List G) (b : Nat) (r : List Nat) : prun g frs (b :: r) = match pstep g frs (b :: r) with
    | .er r' c => .er r' c
    | .ok x r' => prun x.1 x.2 r' := by
  rw [prun]
  cases pstep g frs (b :: r) <;> rfl

/-- What the reader comes to. -/
def Read (o : Out T) (w : World) (rb : Nat) (s : ByteArray) (e : Ending) (w' : World) : Prop :=
  match o with
  | .ok t _ => ∃ (v : V) (sa : Option Addr) (sn sc : Nat), v.v = .slice sa sn sc ∧ e = .returned (.tuple #[.agg #[.int .i64 v.kind, .int .u64 (v.set 0 : Nat), .int .u64 (v.set 1 : Nat), .int .u64 (v.set 2 : Nat), .int .u64 (v.set 3 : Nat), .slice sa sn sc, .int .i64 v.lo, .int .i64 v.hi], .int .i64 0]) ∧ erase v = t ∧ Laid w' (fun b => w.heap.size ≤ b) v ∧ Chg (· = rb) w w'
  | .er r c => (c = 2 ∨ c = 3) ∧ e = .returned (.tuple #[.agg #[.int .i64 0, .int .u64 0, .int .u64 0, .int .u64 0, .int .u64 0, .slice none 0 0, .int .i64 0, .int .i64 0], .int .i64 c]) ∧ Chg (· = rb) w w' ∧ ∃ k op, Rd w' rb s k op ∧ Tl s k r

theorem start_mem {w : World} {rb : Nat} {s : ByteArray} {op : Value} (h : Rd w rb s 0 op) :
    Mem (((w.setCell ⟨rb, 2, none⟩ (.slice (some ⟨w.heap.size + 1, 0, none⟩) 1 1)).alloc (.cells zcells 27)).alloc (.cells #[.slice none 0 0, .slice none 0 0] 78)) (w.heap.size + 1) rb s 0 ([] ++ [⟨[], [], nilV, nilV⟩]) (w.heap.size + 1) 1 ∧
    (((w.setCell ⟨rb, 2, none⟩ (.slice (some ⟨w.heap.size + 1, 0, none⟩) 1 1)).alloc (.cells zcells 27)).alloc (.cells #[.slice none 0 0, .slice none 0 0] 78)).heap[w.heap.size]? = some (.cells zcells 27 (0, 0)) ∧
    Chg (· = rb) w (((w.setCell ⟨rb, 2, none⟩ (.slice (some ⟨w.heap.size + 1, 0, none⟩) 1 1)).alloc (.cells zcells 27)).alloc (.cells #[.slice none 0 0, .slice none 0 0] 78)) ∧
    w.heap.size + 1 < (((w.setCell ⟨rb, 2, none⟩ (.slice (some ⟨w.heap.size + 1, 0, none⟩) 1 1)).alloc (.cells zcells 27)).alloc (.cells #[.slice none 0 0, .slice none 0 0] 78)).heap.size := by
  have hrb := h.lt
  have e0 := heap_alloc_new (w.setCell ⟨rb, 2, none⟩ (.slice (some ⟨w.heap.size + 1, 0, none⟩) 1 1)) (.cells zcells 27)
  have hz : (w.setCell ⟨rb, 2, none⟩ (.slice (some ⟨w.heap.size + 1, 0, none⟩) 1 1)).heap.size = w.heap.size := by simp
  rw [hz] at e0
  have hz1 : ((w.setCell ⟨rb, 2, none⟩ (.slice (some ⟨w.heap.size + 1, 0, none⟩) 1 1)).alloc (.cells zcells 27)).heap.size = w.heap.size + 1 := by simp
  refine ⟨⟨(h.reopen _).keep (((Chg.refl (fun _ => False) _).alloc _).alloc _) (fun h => h), ?_, ?_, ?_, ?_, ?_⟩, ?_, (((Chg.refl (fun x => x = rb) w).setCell (p := ⟨rb, 2, none⟩) (fun _ => rfl) _).alloc _).alloc _, by simp⟩
  · have := World.ownsRow_lit (e := 78) (size := 2) (base := w.heap.size + 1) ((w.setCell ⟨rb, 2, none⟩ (.slice (some ⟨w.heap.size + 1, 0, none⟩) 1 1)).alloc (.cells zcells 27)) #[.slice none 0 0, .slice none 0 0] 1 (by rw [hz1]; exact Nat.le_refl _) (by unfold maxLen; omega) rfl
    rw [hz1] at this
    exact this
  · intro x hx; simp at hx; subst hx; exact World.ownsRow_nil _ _ _ _
  · intro x hx; simp at hx; subst hx; exact World.ownsRow_nil _ _ _ _
  · intro x hx t ht; simp at hx; subst hx; simp at ht
  · unfold live
    simp [blocksOf, nilV, Value.ownBlock]
    omega
  · exact (Below.heap_alloc _ _ _ (by rw [hz1]; omega)).trans e0
/-- The cells of the result, while the reader reads. -/
theorem res_cells {w : World} {B : Nat} (h : w.heap[B]? = some (.cells zcells 27 (0, 0))) : (w.cell? ⟨B, 0, none⟩ = some (.int .i64 0) ∧ w.cell? ⟨B, 1, none⟩ = some (.int .u64 0) ∧ w.cell? ⟨B, 2, none⟩ = some (.int .u64 0) ∧ w.cell? ⟨B, 3, none⟩ = some (.int .u64 0)) ∧
    (w.cell? ⟨B, 4, none⟩ = some (.int .u64 0) ∧ w.cell? ⟨B, 5, none⟩ = some (.slice none 0 0) ∧ w.cell? ⟨B, 6, none⟩ = some (.int .i64 0) ∧ w.cell? ⟨B, 7, none⟩ = some (.int .i64 0)) ∧ ∀ j, w.frozen? ⟨B, j, none⟩ = false := by
  obtain ⟨h1, h2⟩ := row_cells h
  exact ⟨⟨h1 0, h1 1, h1 2, h1 3⟩, ⟨h1 4, h1 5, h1 6, h1 7⟩, h2⟩
theorem Bel.res {w w' : World} {B rb : Nat} {o : Obj} (h : Bel (B + 1) rb w w') (hB : B < w.heap.size) (hne : B ≠ rb) (he : w.heap[B]? = some o) : w'.heap[B]? = some o := (Chg.block h B hB (by rintro (e | e) <;> omega)).trans he

set_option maxHeartbeats 4000000 in
set_option maxRecDepth 100000 in
theorem whole_any {w : World} {rb : Nat} {s : ByteArray} {op : Value} (h : Rd w rb s 0 op) (hs : s.size ≤ 400) :
    Calls Tryd.prog 25 #[.pointer (some ⟨rb, 0, none⟩)] w (Read (prun ⟨[], []⟩ [] (txt s)) w rb s) := by
  have hsm : s.size ≤ maxLen := by unfold maxLen; omega
  have hrb := h.lt
  have hop := h.opn
  have hfz := h.frz 2
  obtain ⟨hM0, hR0, hC0, hz0⟩ := start_mem h
  have HS := Lib.hid hsm
  have hst : Tl s 0 (txt s) := Tl.start s
  clear h hsm
  go_enter Tryd.func25, Tryd.ntmps25
  go_wp2_with fail
  generalize (((w.setCell ⟨rb, 2, none⟩ (.slice (some ⟨w.heap.size + 1, 0, none⟩) 1 1)).alloc (.cells zcells 27)).alloc (.cells #[.slice none 0 0, .slice none 0 0] 78)) = w0 at *
  go_at_call 37
  refine (next_any w0 rb 0 (txt s) s _ hM0.rd hst).mono ?_
  rintro e w1 ⟨b, ok, hseen, rfl, hA⟩
  have hM1 := hM0.af hA
  have hB1 := hM0.af_below hA
  have HM1 := Lib.hid hM1
  have HB1 := Lib.hid hB1
  have HR0 := Lib.hid hR0
  have HC0 := Lib.hid hC0
  have HN := Lib.hid (show w.heap.size ≠ rb by omega)
  clear hM0 hA hM1 hB1 hR0 hC0 hop hfz
  go_wp2_with fail
  go_loopw [4, 5] (fun b ok wr => ∃ (k : Nat) (fr : List Grp) (g : Grp) (ob cap : Nat) (r : List Nat), Mem wr (w.heap.size + 1) rb s k (fr ++ [g]) ob cap ∧ Tl s k r ∧ Seen r b ok ∧ prun g.er (fr.map Grp.er).reverse r = prun ⟨[], []⟩ [] (txt s) ∧ Bd k g.er (fr.map Grp.er).reverse ∧ Bel (w.heap.size + 1) rb w0 wr) (fun _ _ wr => s.size - posOf rb wr)
  case atStart => exact ⟨0, [], _, _, _, txt s, HM1.out, hst, hseen, rfl, ⟨by simp [Grp.er, erases], by simp [Grp.er, erases], by simp, by simp⟩, HB1.out⟩
  case round =>
    clear hseen HM1 HB1 hst
    obtain ⟨k, fr, g, ob, cap, r, hM, ht, hsn, hp, hbd, hB⟩ := hrel
    have hres := hB.res (by omega) HN.out HR0.out
    have HP := Lib.hid hp.symm
    have hpos := ht.1
    have hchg : Chg (· = rb) w wr := HC0.out.trans hB fun x hx e => by
      rcases e with e | e
      · exact e
      · omega
    have HCH := Lib.hid hchg
    clear hp hchg
    rcases hsn with ⟨rfl, rfl, rfl⟩ | ⟨c, t, rfl, rfl, rfl⟩
    · have hopn := hM.rd.opn
      have hrbl := hM.rd.lt
      rcases List.eq_nil_or_concat fr with rfl | ⟨f0, p, rfl⟩
      · have hgr : g.rows.length ≤ 1000 := by have : (erases g.rows).length ≤ k := hbd.1; rw [erases_length] at this; omega
        have HP2 := Lib.hid (HP.out.trans (prun_nil g.er))
        have HM := Lib.hid hM
        have HRES := Lib.hid hres
        have HB := Lib.hid hB
        clear hM hres hB
        go_wp2_with fail
        go_at_call 39
        refine (shut_mem HM.out hgr (by simp)).mono ?_
        rintro e w2 ⟨v1, rfl, hb2, hM2, hl2⟩
        have htr : erase (joinV 3 v1 (g.rows ++ [joinV 2 g.v2 g.row])) = shutT g.er := by
          rw [erase_join, erases_append, erases_one, erase_join]
          rfl
        generalize joinV 3 v1 (g.rows ++ [joinV 2 g.v2 g.row]) = tt at *
        obtain ⟨sa, sn, sc, hsl⟩ := hl2.slice
        unfold nodeAgg
        rw [hsl]
        have hres2 := hb2.res (by have := HB.out.size; omega) HN.out HRES.out
        obtain ⟨⟨r0, r1, r2, r3⟩, ⟨r4, r5, r6, r7⟩, rf⟩ := res_cells hres2
        have hch2 : Chg (· = rb) w w2 := HCH.out.trans hb2 fun x hx e => by
          rcases e with e | e
          · exact e
          · omega
        have HSL := Lib.hid (And.intro hsl (And.intro htr (And.intro hl2 (And.intro hch2 hres2))))
        clear hsl htr hl2 hch2 hM2 hb2 hres2
        go_wp2_with fail
        obtain ⟨hsl, htr, hl2, hch2, hres2⟩ := HSL.out
        refine bodyPost_ret (v := .tuple #[.agg #[.int .i64 tt.kind, .int .u64 (tt.set 0 : Nat), .int .u64 (tt.set 1 : Nat), .int .u64 (tt.set 2 : Nat), .int .u64 (tt.set 3 : Nat), .slice sa sn sc, .int .i64 tt.lo, .int .i64 tt.hi], .int .i64 0]) (by simp [results, Tryd.results25, go_sem, r0, r1, r2, r3, r4, r5, r6, r7]) rfl ?_
        rw [HP2.out]
        have hst := fun (R : Nat → Prop) (a : World) (h : Chg R a w2) (hg : w.heap.size < a.heap.size → R w.heap.size) => store8_chg h (g := w.heap.size) hg 0 (.int .i64 tt.kind) (.int .u64 (tt.set 0 : Nat)) (.int .u64 (tt.set 1 : Nat)) (.int .u64 (tt.set 2 : Nat)) (.int .u64 (tt.set 3 : Nat)) (.slice sa sn sc) (.int .i64 tt.lo) (.int .i64 tt.hi)
        refine ⟨tt, sa, sn, sc, hsl, rfl, htr, ?_, hst _ _ hch2 (fun h => absurd h (Nat.lt_irrefl _))⟩
        exact hl2.keep (fun b _ hb => by have := hb.1; omega) (hst (fun b => b = w.heap.size) w2 (Chg.refl _ _) (fun _ => rfl)).size fun b hb hb2 => (hst (fun b => b = w.heap.size) w2 (Chg.refl _ _) (fun _ => rfl)).block b hb (by have := hb2.1; omega)
      · rw [List.concat_eq_append] at hM hopn HP
        have hl1 : ((f0 ++ [p]) ++ [g]).length = f0.length + 1 + 1 := by simp
        rw [hl1] at hopn
        have hP2 : prun ⟨[], []⟩ [] (txt s) = .er [] 2 := by
          rw [HP.out, List.map_append, List.reverse_append]
          exact prun_open _ _ _
        obtain ⟨⟨r0, r1, r2, r3⟩, ⟨r4, r5, r6, r7⟩, rf⟩ := res_cells hres
        have HRD := Lib.hid hM.rd
        have HP2 := Lib.hid hP2
        have n0 : (1 : Int) < (f0.length : Int) + 1 + 1 := by omega
        clear hM hres hB hbd hP2 HP hl1
        generalize f0.length = m at *
        go_wp2_with fail
        refine bodyPost_ret (v := .tuple #[.agg #[.int .i64 0, .int .u64 0, .int .u64 0, .int .u64 0, .int .u64 0, .slice none 0 0, .int .i64 0, .int .i64 0], .int .i64 2]) (by simp [results, Tryd.results25, go_sem, r0, r1, r2, r3, r4, r5, r6, r7]) rfl ?_
        rw [HP2.out]
        have hst := fun (R : Nat → Prop) (a : World) (h : Chg R a wr) (hg : w.heap.size < a.heap.size → R w.heap.size) => store8_chg h (g := w.heap.size) hg 0 (.int .i64 0) (.int .u64 0) (.int .u64 0) (.int .u64 0) (.int .u64 0) (.slice none 0 0) (.int .i64 0) (.int .i64 0)
        exact ⟨.inl rfl, rfl, hst _ _ HCH.out (fun h => absurd h (Nat.lt_irrefl _)), k, _, HRD.out.keep (hst (fun b => b = w.heap.size) wr (Chg.refl _ _) (fun _ => rfl)) (by omega), ht⟩
    · have hbd2 := hbd.mono (show k ≤ 1000 by omega)
      have hstep := step_any hM ht HS.out hbd2
      have HSTEP := Lib.hid hstep
      have HRES := Lib.hid hres
      have HB := Lib.hid hB
      have HM := Lib.hid hM
      have hpc := HP.out.trans (prun_cons g.er (fr.map Grp.er).reverse c t)
      have hmeas := posOf_rd hM.rd
      have HMS := Lib.hid hmeas
      clear hstep hres hB hM HP hmeas
      go_wp2_with fail
      go_at_call 38
      refine HSTEP.out.mono ?_
      clear HSTEP
      intro e w2 hS
      revert hS
      cases hx : pstep g.er (fr.map Grp.er).reverse (c :: t) with
      | er r2 c2 =>
        rw [hx] at hpc
        have HPC := Lib.hid hpc
        clear hx hpc
        rintro ⟨hc2, rfl, hb2, k2, op2, hrd2, ht2⟩
        have hres2 := hb2.res (by have := HB.out.size; omega) HN.out HRES.out
        obtain ⟨⟨r0, r1, r2, r3⟩, ⟨r4, r5, r6, r7⟩, rf⟩ := res_cells hres2
        have hch2 : Chg (· = rb) w w2 := HCH.out.trans hb2 fun x hx e => by
          rcases e with e | e
          · exact e
          · omega
        have HX := Lib.hid (And.intro hrd2 (And.intro ht2 hch2))
        clear hrd2 hch2 hb2 hres2 ht2
        have hst := fun (R : Nat → Prop) (a : World) (h : Chg R a w2) (hg : w.heap.size < a.heap.size → R w.heap.size) => store8_chg h (g := w.heap.size) hg 0 (.int .i64 0) (.int .u64 0) (.int .u64 0) (.int .u64 0) (.int .u64 0) (.slice none 0 0) (.int .i64 0) (.int .i64 0)
        have HST := Lib.hid hst
        clear hst
        rcases hc2 with rfl | rfl
        · go_wp2_with fail
          refine bodyPost_ret (v := .tuple #[.agg #[.int .i64 0, .int .u64 0, .int .u64 0, .int .u64 0, .int .u64 0, .slice none 0 0, .int .i64 0, .int .i64 0], .int .i64 2]) (by simp [results, Tryd.results25, go_sem, r0, r1, r2, r3, r4, r5, r6, r7]) rfl ?_
          rw [HPC.out]
          exact ⟨by omega, rfl, HST.out _ _ HX.out.2.2 (fun h => absurd h (Nat.lt_irrefl _)), k2, _, HX.out.1.keep (HST.out (fun b => b = w.heap.size) w2 (Chg.refl _ _) (fun _ => rfl)) (by omega), HX.out.2.1⟩
        · go_wp2_with fail
          refine bodyPost_ret (v := .tuple #[.agg #[.int .i64 0, .int .u64 0, .int .u64 0, .int .u64 0, .int .u64 0, .slice none 0 0, .int .i64 0, .int .i64 0], .int .i64 3]) (by simp [results, Tryd.results25, go_sem, r0, r1, r2, r3, r4, r5, r6, r7]) rfl ?_
          rw [HPC.out]
          exact ⟨by omega, rfl, HST.out _ _ HX.out.2.2 (fun h => absurd h (Nat.lt_irrefl _)), k2, _, HX.out.1.keep (HST.out (fun b => b = w.heap.size) w2 (Chg.refl _ _) (fun _ => rfl)) (by omega), HX.out.2.1⟩
      | ok x r2 =>
        rw [hx] at hpc
        have hlen := pstep_len hx
        have hbd3 := hbd.step hx
        have HPC := Lib.hid hpc
        clear hx hpc
        rintro ⟨rfl, hb2, k2, fr2, g2, ob2, cap2, hM2, ht2, hx1, hx2⟩
        rw [← hx1, ← hx2] at hbd3
        have hpos2 := ht2.1
        have HP3 : Hid (prun g2.er (fr2.map Grp.er).reverse r2 = prun ⟨[], []⟩ [] (txt s)) := Lib.hid (by rw [HPC.out, hx1, hx2])
        clear hx1 hx2 HPC
        go_wp2_with fail
        go_at_call 37
        refine (next_any w2 rb k2 r2 s _ hM2.rd ht2).mono ?_
        rintro e w3 ⟨b2, ok2, hseen2, rfl, hA3⟩
        have hM3 := hM2.af hA3
        have hB3 := hM2.af_below hA3
        have HM3 := Lib.hid (And.intro hM3 (HB.out.trans (hb2.trans hB3)))
        clear hM3 hB3 hA3 hM2 hb2
        go_wp2_with fail
        go_roundw
        case rel => exact ⟨k2, fr2, g2, ob2, cap2, r2, HM3.out.1, ht2, hseen2, HP3.out, hbd3.mono (by simp at hpos hlen; omega), HM3.out.2⟩
        case measure =>
          rw [HMS.out, posOf_rd HM3.out.1.rd]
          simp at hpos hlen
          omega

end Go.Proofs.YtpibkalbnjgpaaaDoor
