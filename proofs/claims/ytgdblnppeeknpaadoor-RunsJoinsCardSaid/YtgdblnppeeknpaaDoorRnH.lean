/- What the program's Text of a word in runs comes to: a contract.
   Conditions: the word lies in memory; bytes are below 256; what strconv.FormatInt gives is taken as known ('Fmt'). -/
import Derived.Test.YtgdblnppeeknpaaDoorRnG
import Derived.Test.YtgdblnppeeknpaaDoorRnA
import Derived.Test.YtgdblnppeeknpaaDoorRnTW
import Derived.Test.YtgdblnppeeknpaaDoorJoinL
import Derived.Deep.OwnRows
namespace Go.Proofs.YtgdblnppeeknpaaDoor
open Go.RowKit

/-- The texts of the runs so far; behind them empty ones. -/
abbrev strs (xs : List ByteArray) (n : Nat) : Array Value := ((xs ++ List.replicate (n - xs.length) ({ data := #[] } : ByteArray)).map Value.string).toArray
theorem strs_set {xs : List ByteArray} {n : Nat} (h : xs.length < n) (s : ByteArray) : (strs xs n).setIfInBounds xs.length (.string s) = strs (xs ++ [s]) n := by
  obtain ⟨d, hd⟩ : ∃ d, n - xs.length = d + 1 := ⟨n - xs.length - 1, by omega⟩
  have hd2 : n - (xs ++ [s]).length = d := by simp; omega
  unfold strs
  rw [hd, hd2]
  simp [List.setIfInBounds_toArray, List.set_append_right, List.replicate_succ]
theorem set_heap {w : World} {b i : Nat} {cs : Array Value} {T : TypeId} (h : w.heap[b]? = some (.cells cs T (0, 0))) (v : Value) : (w.setCell ⟨b, i, none⟩ v).heap[b]? = some (.cells (cs.setIfInBounds i v) T (0, 0)) := by
  simp [World.setCell, Array.getElem?_modify, h]
theorem made_str (n : Nat) : madeCells #[.string { data := #[] }] n = strs [] n := by
  unfold madeCells strs
  apply Array.ext_getElem?
  intro i
  simp only [List.nil_append, List.length_nil, Nat.sub_zero, List.map_replicate, List.getElem?_toArray, Array.getElem?_map]
  by_cases hi : i < n
  · rw [List.getElem?_replicate, if_pos hi, Array.getElem?_range, if_pos hi]
    simp [Nat.mod_one]
  · rw [List.getElem?_eq_none (by simp; omega), Array.getElem?_eq_none (by simp; omega)]
    rfl
theorem nats_tail (r : List ByteArray) (sep : List UInt8) : (Lib.joinTail sep (r.map (·.data.toList))).map UInt8.toNat = (r.map txt).flatMap fun x => sep.map UInt8.toNat ++ x := by
  unfold Lib.joinTail
  induction r with
  | nil => rfl
  | cons x r ih =>
    simp only [List.map_cons, List.flatten_cons, List.map_append, List.flatMap_cons, ih]
    rfl
/-- What the texts of the runs make, a blank between two, is the word's text. -/
theorem join_txt {xs : List ByteArray} {l : List Rn} (h : xs.map txt = l.map rnT) : (Lib.join (xs.map (·.data.toList)) ({ data := #[32] } : ByteArray).data.toList).map UInt8.toNat = txF l := by
  cases l with
  | nil =>
    obtain rfl : xs = [] := by simpa using h
    rfl
  | cons q l =>
    cases xs with
    | nil => simp at h
    | cons x xs =>
      simp only [List.map_cons, List.cons.injEq] at h
      rw [List.map_cons, Lib.join_cons, List.map_append, nats_tail, h.2]
      show txt x ++ _ = _
      rw [h.1]
      show rnT q ++ (l.map rnT).flatMap (fun x => 32 :: x) = rnT q ++ l.flatMap fun q => 32 :: rnT q
      rw [List.flatMap_map]
set_option maxHeartbeats 8000000 in
set_option maxRecDepth 100000 in
theorem text12_any (w : World) (G : Nat → Prop) (v : Value) (l : List Rn) (h : RunsR w G v l) (h8 : ∀ q ∈ l, q.1 < 256) (HF : Fmt w) :
    Calls Tryd.prog 14 #[v] w (Wrote (if fmO l = true then txF l else []) w) := by
  have HM := Lib.hid (formed12_any w G v l h)
  obtain ⟨A, c, rfl, hrow⟩ := h
  have HR := Lib.hid (And.intro hrow (And.intro h8 HF))
  obtain ⟨ln, hln⟩ : ∃ n, n = l.length := ⟨_, rfl⟩
  have HLN := Lib.hid hln
  rw [← hln] at HM ⊢
  obtain ⟨T, hT⟩ : ∃ T, T = (if fmO l = true then txF l else []) := ⟨_, rfl⟩
  rw [← hT]
  have HT := Lib.hid hT
  clear hrow hln h8 HF hT
  go_enter Tryd.func14, Tryd.ntmps14
  go_wp2_with fail
  go_at_call 11
  refine HM.out.mono ?_
  rintro e w1 ⟨rfl, hb1⟩
  have HB1 := Lib.hid hb1
  clear hb1
  cases hf : fmO l with
  | false =>
    have hT : T = [] := by rw [HT.out, hf]; rfl
    have HT2 := Lib.hid hT
    clear hf hT
    go_wp2_with fail
    go_ret
    exact ⟨{ data := #[] }, HT2.out.symm, rfl, HB1.out⟩
  | true =>
    have h200 : ln ≤ 200 := by have := fmO_len hf; have := HLN.out; omega
    obtain ⟨y1, y2, _, y4⟩ := fm_yes hf
    have hmk : ∀ W : World, (Instr.makeSlice 48 (.int .i64 (ln : Int)) (.int .i64 (ln : Int))).run Tryd.prog W = .ok (.slice (some ⟨W.heap.size, 0, none⟩) ln ln) (W.alloc (.cells (madeCells #[.string { data := #[] }] ln) 9)) := fun W => run_make_row' (P := Tryd.prog) 48 9 (.string { data := #[] }) 16 Tryd.underlying48 (by kernel_rfl) rfl .i64 .i64 ln (by omega) (by omega) W
    have hT : T = txF l := by rw [HT.out, hf]; rfl
    have HT2 := Lib.hid hT
    clear hT
    have HY := Lib.hid (show ∀ q ∈ l, 1 ≤ q.2 ∧ q.2 < 9223372036854775808 from fun q hq => ⟨(y4 q hq).1, by have := (y4 q hq).2; omega⟩)
    have HN := Lib.hid (fmO_len hf)
    have H0 := Lib.hid (show Below w.heap.size w (w1.alloc (.cells (madeCells #[.string { data := #[] }] ln) 9)) ∧ (w1.alloc (.cells (madeCells #[.string { data := #[] }] ln) 9)).heap[w1.heap.size]? = some (.cells (strs [] ln) 9 (0, 0)) from
      ⟨HB1.out.alloc HB1.out.size _, by rw [← made_str]; exact heap_alloc_new w1 _⟩)
    have HSz := Lib.hid HB1.out.size
    obtain ⟨tb, htb⟩ : ∃ n, n = w1.heap.size := ⟨_, rfl⟩
    rw [← htb] at H0 HSz
    clear hf y1 y2 y4
    go_wp2_with fail
    rw [← htb]
    clear hmk htb
    go_loopw [14] (fun x wr => ∃ (i : Nat) (xs : List ByteArray), x = .int .i64 i ∧ i ≤ l.length ∧ xs.length = i ∧ xs.map txt = (l.take i).map rnT ∧ wr.heap[tb]? = some (.cells (strs xs ln) 9 (0, 0)) ∧ Below w.heap.size w wr) (fun x _ => match x with | .int _ z => l.length - z.toNat | _ => 0)
    case atStart => exact ⟨0, [], rfl, by omega, rfl, by simp, H0.out.2, H0.out.1⟩
    case round =>
      obtain ⟨i, xs, rfl, hi, hxl, hxt, hq, hb⟩ := hrel
      by_cases hlt : i < ln
      · have hlt' : i < l.length := by have := HLN.out; omega
        obtain ⟨⟨b, t⟩, hx⟩ : ∃ x, l[i]? = some x := ⟨_, List.getElem?_eq_getElem hlt'⟩
        obtain ⟨g, o, rfl, _, hg, c0, c1⟩ := HR.out.1 i b t hx
        rw [← hb.cell (p := ⟨g, o + i * 2, none⟩) hg] at c0
        rw [← hb.cell (p := ⟨g, o + i * 2 + 1, none⟩) hg] at c1
        have s1 : (0 : Int) ≤ (i : Int) := by omega
        have s2 : (i : Int) < (ln : Int) := by omega
        have s3 : ((i : Int)).toNat = i := by omega
        have wk : IntKind.i64.wrap ((i : Int) + 1) = (i : Int) + 1 := by rw [IntKind.wrap_i64]; omega
        obtain ⟨w7, hw7, hb7, hq7⟩ : ∃ w7, wr.alloc (.cells #[.int .u8 (b : Int), .int .i64 t] 42) = w7 ∧ Below wr.heap.size wr w7 ∧ w7.heap[wr.heap.size]? = some (.cells #[.int .u8 (b : Int), .int .i64 t] 42 (0, 0)) := ⟨_, rfl, (Below.refl _ wr).alloc (Nat.le_refl _) _, heap_alloc_new wr _⟩
        obtain ⟨y0, y1, _⟩ := two_cells hq7
        have HX := Lib.hid (And.intro hx (And.intro hlt' (And.intro hxl (And.intro hxt (And.intro ((hb7.block tb (Array.getElem?_eq_some_iff.1 hq).1).trans hq) (bhop hb hb7))))))
        clear hx hi hxl hxt hq hb hb7 hq7
        go_upto_region 7 with fail
        clear hw7 c0 c1
        go_wp2_with fail
        go_at_call 20
        refine (text1_any w7 b t (HR.out.2.1 _ (List.mem_of_getElem? HX.out.1)) (HY.out _ (List.mem_of_getElem? HX.out.1)).1 (HY.out _ (List.mem_of_getElem? HX.out.1)).2 (fun n W hn hW => HR.out.2.2 n W hn (bhop HX.out.2.2.2.2.2 hW))).mono ?_
        rintro e w8 ⟨s, hs, rfl, hb8⟩
        have hq8 := (hb8.block tb (Array.getElem?_eq_some_iff.1 HX.out.2.2.2.2.1).1).trans HX.out.2.2.2.2.1
        have hl8 := (Array.getElem?_eq_some_iff.1 hq8).1
        have f8 := (row_cells hq8).2 i
        have d8 : w8.cell? ⟨tb, i, none⟩ = some (.string { data := #[] }) := by
          rw [(row_cells hq8).1 i]
          have h1 := HX.out.2.2.1
          simp only [strs, List.getElem?_toArray, List.getElem?_map]
          rw [List.getElem?_append_right (by omega), List.getElem?_replicate, if_pos (by omega)]
          rfl
        have HE := Lib.hid (show (w8.setCell ⟨tb, i, none⟩ (.string s)).heap[tb]? = some (.cells (strs (xs ++ [s]) ln) 9 (0, 0)) ∧ Below w.heap.size w (w8.setCell ⟨tb, i, none⟩ (.string s)) ∧ (xs ++ [s]).length = i + 1 ∧ (xs ++ [s]).map txt = (l.take (i + 1)).map rnT from by
          refine ⟨?_, (bhop HX.out.2.2.2.2.2 hb8).setCell (p := ⟨tb, i, none⟩) HSz.out _, by simp; exact HX.out.2.2.1, ?_⟩
          · rw [set_heap hq8]
            have h1 := strs_set (xs := xs) (n := ln) (by rw [HX.out.2.2.1]; have := HX.out.2.1; have := HLN.out; omega) s
            rw [HX.out.2.2.1] at h1
            rw [h1]
          · rw [List.map_append, HX.out.2.2.2.1, List.take_add_one, HX.out.1, List.map_append]
            simp [hs])
        clear hq8 hb8 hs y0 y1
        go_wp2_with fail
        go_roundw
        case rel => exact ⟨i + 1, xs ++ [s], by push_cast; rfl, HX.out.2.1, HE.out.2.2.1, HE.out.2.2.2, HE.out.1, HE.out.2.1⟩
        case measure => have := HX.out.2.1; simp; omega
      · have s2 : ¬ (i : Int) < (ln : Int) := by omega
        have hil : l.take i = l := List.take_of_length_le (by have := HLN.out; omega)
        rw [hil] at hxt
        have hxn : xs.length = ln := by have := HLN.out; omega
        have hjt := join_txt hxt
        have hlen : (Lib.join (xs.map (·.data.toList)) ({ data := #[32] } : ByteArray).data.toList).length ≤ 140737488355328 := by
          have h1 := congrArg List.length hjt
          rw [List.length_map] at h1
          have h2 := txF_len (l := l) (fun q hq => (HY.out q hq).2) l.length (Nat.le_refl _)
          rw [List.take_length] at h2
          have h3 := HN.out
          omega
        have hj := Tryd.strings_Join tb 0 ln xs { data := #[32] } wr (fun j x hj => by
          rw [Nat.zero_add, (row_cells hq).1 j]
          have hjl := (List.getElem?_eq_some_iff.1 hj).1
          simp only [strs, List.getElem?_toArray, List.getElem?_map]
          rw [List.getElem?_append_left hjl, hj]
          rfl) (Array.getElem?_eq_some_iff.1 hq).1 (by omega) (by omega) hlen
        rw [hxn] at hj
        have HJ := Lib.hid (And.intro hj (And.intro hjt hb))
        clear hj hlen hjt hb hq hxt hil hxl hi
        go_wp2_with fail
        go_at_call 21
        refine HJ.out.1.mono ?_
        rintro e w9 ⟨rfl, hb9⟩
        have HB9 := Lib.hid (bhop HJ.out.2.2 hb9)
        clear hb9
        go_wp2_with fail
        go_ret
        refine ⟨_, ?_, rfl, HB9.out⟩
        rw [HT2.out]
        exact HJ.out.2.1

end Go.Proofs.YtgdblnppeeknpaaDoor
