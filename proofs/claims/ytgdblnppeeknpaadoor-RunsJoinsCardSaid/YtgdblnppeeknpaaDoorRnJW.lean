/- The walk of the statement RunsJoins: called with words it returns true and changes nothing that was there.
   Conditions: the words lie in memory; what strconv.FormatInt gives is taken as known ('Fmt'). -/
import Derived.Test.YtgdblnppeeknpaaDoorRnFm
import Derived.Test.YtgdblnppeeknpaaDoorRnO
import Derived.Maps.AppendAt
import Derived.Laws.AppendOwnNone
namespace Go.Proofs.YtgdblnppeeknpaaDoor
open Go.RowKit

def smN (ws : List (List Rn)) : Int := (ws.map fmN).sum
def gdN (ws : List (List Rn)) : Bool := ws.all fmO
theorem smN_succ {ws : List (List Rn)} {i : Nat} {l : List Rn} (h : ws[i]? = some l) : smN (ws.take (i + 1)) = smN (ws.take i) + fmN l := by
  unfold smN
  rw [List.take_add_one, h]
  simp
theorem gdN_succ {ws : List (List Rn)} {i : Nat} {l : List Rn} (h : ws[i]? = some l) : gdN (ws.take (i + 1)) = (gdN (ws.take i) && fmO l) := by
  unfold gdN
  rw [List.take_add_one, h]
  simp
theorem flat_succ {ws : List (List Rn)} {i : Nat} {l : List Rn} (h : ws[i]? = some l) : (ws.take (i + 1)).flatten = (ws.take i).flatten ++ l := by
  rw [List.take_add_one, h]
  simp
theorem flat_len : ∀ {ws : List (List Rn)}, (∀ l ∈ ws, l.length ≤ 60) → ws.flatten.length ≤ 60 * ws.length
  | [], _ => by simp
  | l :: ws, h => by
    have h1 := h l (by simp)
    have h2 := flat_len fun y hy => h y (List.mem_cons_of_mem _ hy)
    rw [List.flatten_cons, List.length_append, List.length_cons]
    omega
theorem fmN_range (l : List Rn) : 0 ≤ fmN l ∧ fmN l ≤ 4611686018427387904 := by
  cases h : fmO l with
  | false => rw [fm_zero h]; omega
  | true =>
    obtain ⟨h1, _⟩ := fm_yes h
    refine ⟨h1, ?_⟩
    unfold fmO at h
    obtain ⟨n, hn⟩ := Option.isSome_iff_exists.1 h
    unfold fmB at hn
    split at hn
    · cases hn
    · rename_i h9
      have h2 := fmL_range (by omega) (by omega) hn
      have : fmN l = n := by unfold fmN fmB; rw [if_neg h9, hn]; rfl
      omega
theorem smL_flat : ∀ {ws : List (List Rn)}, (∀ l ∈ ws, fmO l = true) → smL ws.flatten = smN ws
  | [], _ => rfl
  | l :: ws, h => by
    have h1 := (fm_yes (h l (by simp))).2.1
    have h2 := smL_flat fun y hy => h y (List.mem_cons_of_mem _ hy)
    rw [List.flatten_cons, smL_app, h2, ← h1]
    unfold smN
    simp
/-- Where a run stands among all. -/
theorem flat_at {ws : List (List Rn)} {i k : Nat} {l : List Rn} {q : Rn} (hi : ws[i]? = some l) (hk : l[k]? = some q) : ws.flatten[(ws.take i).flatten.length + k]? = some q := by
  have hil := (List.getElem?_eq_some_iff.1 hi).1
  have e : ws.flatten = (ws.take i).flatten ++ (l ++ (ws.drop (i + 1)).flatten) := by
    conv => lhs; rw [← List.take_append_drop i ws, List.drop_eq_getElem_cons hil, (List.getElem?_eq_some_iff.1 hi).2, List.flatten_append, List.flatten_cons]
  rw [e, List.getElem?_append_right (by omega), Nat.add_sub_cancel_left, List.getElem?_append_left (List.getElem?_eq_some_iff.1 hk).1, hk]
theorem news_rn {w : World} {g o : Nat} {l : List Rn} (h : ∀ (i b : Nat) (t : Int), l[i]? = some (b, t) → w.cell? ⟨g, o + i * 2, none⟩ = some (.int .u8 (b : Int)) ∧ w.cell? ⟨g, o + i * 2 + 1, none⟩ = some (.int .i64 t)) : ∀ j u, (l.flatMap rnc)[j]? = some u → w.cell? ((⟨g, o, none⟩ : Addr).add j) = some u := fun j u hj => by
  have hjl := (List.getElem?_eq_some_iff.1 hj).1
  rw [rn_len] at hjl
  obtain ⟨⟨b, t⟩, hx⟩ : ∃ x, l[j / 2]? = some x := ⟨_, List.getElem?_eq_getElem (by omega)⟩
  obtain ⟨h1, h2⟩ := h _ b t hx
  obtain ⟨f1, f2⟩ := rn_flat hx
  rw [add_midR]
  rcases (show j = j / 2 * 2 ∨ j = j / 2 * 2 + 1 by omega) with e | e
  · rw [e] at hj ⊢
    rw [f1] at hj
    rw [h1, hj]
  · rw [e] at hj ⊢
    rw [f2] at hj
    rw [← hj, ← h2]
    rfl
theorem rnc_one (l : List Rn) : ∀ u ∈ l.flatMap rnc, u.oneCell' = true := fun u hu => by
  obtain ⟨q, _, hq⟩ := List.mem_flatMap.1 hu
  simp only [rnc, List.mem_cons, List.not_mem_nil, or_false] at hq
  rcases hq with rfl | rfl <;> rfl
theorem run_append_void {w : World} (base : Nat) (t ty e : TypeId) (i : TypeInfo) (size c : Nat) (ht : Tryd.prog.underlying t = some (.slice e)) (hi : Tryd.prog.info? e = some i) (v : Value) (n : Nat) (xs : List Value) (hown : w.ownsRow base e size v n xs) :
    (Builtin.append_ #[t, t] ty #[v, .slice none 0 c]).run Tryd.prog w = .ok v w := by
  rcases hown.2 with ⟨rfl, rfl⟩ | ⟨g, cap, cur, rfl, _, _, hnc, _⟩
  · simp [Builtin.append_, run_underlying ht, sizeOf, typeInfo, hi, Builtin.lenOf, Builtin.firstCells]
  · simp [Builtin.append_, run_underlying ht, sizeOf, typeInfo, hi, Builtin.lenOf, Builtin.firstCells, hnc, storeCells]
/-- A word in runs is appended to one's own. -/
theorem wpList_append_rn {w : World} {ops : Array Oper} {rest : List Oper} {o : Oper} {a : Act} {Q : Exit → Act → World → Prop} (hgd : o.guard = none) (s x : Operand)
    (ho : o.op = .call { callee := .builtin .append, args := #[s, x], argTypes := #[24, 24] })
    (base : Nat) {i : TypeInfo} (hi : Tryd.prog.info? 42 = some i) (hz : i.zero = some (.agg #[.int .u8 0, .int .i64 0])) (hsize : i.size = 2) (hby : i.bytes = 16)
    (v : Value) (n : Nat) (xs : List Value) (hs : a.eval s = v) (hown : w.ownsRow base 42 2 v n xs) {G : Nat → Prop} {bv : Value} {l : List Rn} (hrun : RunsR w G bv l) (hx : a.eval x = bv)
    (h63 : n + l.length ≤ maxLen) (hbytes : (n + l.length) * 16 ≤ 140737488355328) (hbase : base ≤ w.heap.size)
    (h : ∀ v' w', w'.ownsRow base 42 2 v' (n + l.length) (xs ++ l.flatMap rnc) → w.grownBy w' v.ownBlock → wpList Tryd.prog ops Q rest (a.put o.dst v') w') : wpList Tryd.prog ops Q (o :: rest) a w := by
  obtain ⟨A, c, rfl, hr⟩ := hrun
  cases A with
  | none =>
    have hl : l = [] := by
      cases l with
      | nil => rfl
      | cons q l =>
        obtain ⟨b, t⟩ := q
        obtain ⟨g, o, hA, _⟩ := hr 0 b t rfl
        cases hA
    subst hl
    refine wpList_plain hgd fun K hK => ?_
    have hrun := run_append_void (w := w) base 24 o.type 42 i 2 c Tryd.underlying24 hi v n xs hown
    unfold Oper.wp
    simp only [List.length_nil] at hx
    simp [execOp, ho, resolve, invoke, builtin, hs, hx, hrun, Result.andThen]
    exact hK _ _ (h v w (by simpa using hown) ⟨rfl, rfl, rfl, Nat.le_refl _, fun _ _ _ => rfl⟩)
  | some ad =>
    refine wpList_append_own_at w hgd s x _ ho base 42 i _ 2 16 Tryd.underlying24 hi hz hsize hby rfl (by decide) v n xs hs hown ad l.length c (l.flatMap rnc) hx (rn_len l) (fun j u hj => ?_) (rnc_one l) h63 hbytes hbase fun v' w' k1 k2 _ _ => h v' w' k1 k2
    cases l with
    | nil => simp at hj
    | cons q l =>
      obtain ⟨b, t⟩ := q
      obtain ⟨g, o, hA, _⟩ := hr 0 b t rfl
      obtain rfl := Option.some.inj hA
      refine news_rn (fun i b t hi => ?_) j u hj
      obtain ⟨g', o', hA', _, _, h1, h2⟩ := hr i b t hi
      simp only [Option.some.injEq, Addr.mk.injEq, and_true] at hA'
      obtain ⟨rfl, rfl⟩ := hA'
      exact ⟨h1, h2⟩
theorem WdsR.below {w w' : World} {G : Nat → Prop} {v : Value} {ws : List (List Rn)} (h : WdsR w G v ws) (hb : Below w.heap.size w w') : WdsR w' G v ws := by
  obtain ⟨A, c, hv, hr⟩ := h
  refine ⟨A, c, hv, fun i l hi => ?_⟩
  obtain ⟨g, o, bv, h1, h2, h3, h4⟩ := hr i l hi
  exact ⟨g, o, bv, h1, Nat.lt_of_lt_of_le h2 hb.size, (hb.cell (p := ⟨g, o + i, none⟩) h2).trans h3, h4.below hb⟩
theorem rn_grown {w w3 w5 : World} {acc l : List Rn} {u v5 : Value} (hown : OwnR w3 w.heap.size u acc) (hb : Below w.heap.size w w3) (h5 : w5.ownsRow w.heap.size 42 2 v5 (acc.length + l.length) (acc.flatMap rnc ++ l.flatMap rnc)) (hg : w3.grownBy w5 u.ownBlock) : OwnR w5 w.heap.size v5 (acc ++ l) ∧ Below w.heap.size w w5 := by
  refine ⟨by show World.ownsRow _ _ _ _ _ _ _; rw [List.length_append, List.flatMap_append]; exact h5, ?_⟩
  have hc : Chg (fun k => w.heap.size ≤ k) w3 w5 := (Chg.refl _ w3).grown hg fun k hk _ => (World.ownsRow.lt hown k hk).1
  exact hb.trans (hc.below hb.size fun k hk e => by omega)

set_option maxHeartbeats 8000000 in
set_option maxRecDepth 100000 in
theorem joins12_all (w : World) (v : Value) (ws : List (List Rn)) (h : WdsR w (fun _ => True) v ws) (hok : ∀ l ∈ ws, RnOk l ∧ l.length ≤ maxLen) (HF : Fmt w) :
    Calls Tryd.prog 5 #[v] w fun e w' => e = .returned (.bool true) ∧ Below w.heap.size w w' := by
  have HW := Lib.hid h
  obtain ⟨A, c, rfl, hrow⟩ := h
  have HR := Lib.hid (And.intro hrow hok)
  have HA := Lib.hid (fun (W : World) (hb : Below w.heap.size w W) => awake12_any W (HF.below hb))
  obtain ⟨j0, hj0, hy0, hy1, hy2⟩ := info_parts infoRn
  obtain ⟨ln, hln⟩ : ∃ n, n = ws.length := ⟨_, rfl⟩
  have HLN := Lib.hid hln
  rw [← hln] at HW ⊢
  clear hrow hok hln HF
  go_enter Tryd.func5, Tryd.ntmps5
  go_wp2_with fail
  go_at_call 6
  refine (HA.out _ (Below.refl _ _)).mono ?_
  rintro e w1 ⟨rfl, hb1⟩
  have HB1 := Lib.hid hb1
  clear hb1
  by_cases hbig : 10 < ln
  · have g1 : (10 : Int) < (ln : Int) := by omega
    go_wp2_with fail
    go_at_call 6
    refine (HA.out _ HB1.out).mono ?_
    rintro e w2 ⟨rfl, hb2⟩
    have HB2 := Lib.hid (bhop HB1.out hb2)
    go_wp2_with fail
    go_ret
    exact ⟨rfl, HB2.out⟩
  have g1 : ¬ (10 : Int) < (ln : Int) := by omega
  go_wp2_with fail
  go_loopw [3, 4, 5, 6] (fun gd s u x wr => ∃ i : Nat, x = .int .i64 i ∧ gd = .bool (gdN (ws.take i)) ∧ s = .int .i64 (smN (ws.take i)) ∧ i ≤ ws.length ∧ 0 ≤ smN (ws.take i) ∧ smN (ws.take i) ≤ (i : Int) * 288230376151711744 ∧ OwnR wr w.heap.size u (ws.take i).flatten ∧ (∀ l ∈ ws.take i, l.length ≤ 60) ∧ Below w.heap.size w wr) (fun _ _ _ x _ => match x with | .int _ z => ws.length - z.toNat | _ => 0)
  case atStart => exact ⟨0, rfl, rfl, rfl, by omega, by simp [smN], by simp [smN], World.ownsRow_nil _ _ _ _, by simp, HB1.out⟩
  case round =>
    obtain ⟨i, rfl, rfl, rfl, hi, hs0, hs1, hown, h60, hb⟩ := hrel
    have HI := Lib.hid (And.intro hb (And.intro hown (And.intro hs0 (And.intro hs1 h60))))
    obtain ⟨uA, uc, rfl⟩ := own_formR hown
    have hfl := flat_len h60
    obtain ⟨fl, hfe⟩ : ∃ n, n = (ws.take i).flatten.length := ⟨_, rfl⟩
    rw [← hfe] at hfl HI ⊢
    have HFE := Lib.hid hfe
    clear hs0 hs1 hown h60 hfe
    by_cases hlt : i < ln
    · obtain ⟨l, hx⟩ : ∃ x, ws[i]? = some x := ⟨_, List.getElem?_eq_getElem (by have := HLN.out; omega)⟩
      obtain ⟨gw, ow, bv, rfl, hgw, cw, hrun⟩ := HR.out.1 i l hx
      rw [← hb.cell (p := ⟨gw, ow + i, none⟩) hgw] at cw
      have hgr : gw < wr.heap.size := by have := hb.size; omega
      have s1 : (0 : Int) ≤ (i : Int) := by omega
      have s2 : (i : Int) < (ln : Int) := by omega
      have s3 : ((i : Int)).toNat = i := by omega
      have wk : IntKind.i64.wrap ((i : Int) + 1) = (i : Int) + 1 := by rw [IntKind.wrap_i64]; omega
      obtain ⟨lb, hlb⟩ : ∃ n, n = l.length := ⟨_, rfl⟩
      have hrun' := hrun.below hb
      obtain ⟨bA, bc, rfl, _⟩ := hrun
      rw [← hlb] at cw
      by_cases h60 : 60 < lb
      · have g2 : (60 : Int) < (lb : Int) := by omega
        clear hx hrun' hb hi
        go_wp2_with fail
        go_ret
        exact ⟨rfl, HI.out.1⟩
      have g2 : ¬ (60 : Int) < (lb : Int) := by omega
      rw [← hlb] at hrun'
      have HX := Lib.hid (And.intro hx (And.intro (show l.length ≤ 60 by omega) (And.intro hrun' (And.intro (show i + 1 ≤ ws.length by have := HLN.out; omega) (show ws.length ≤ 10 by have := HLN.out; omega)))))
      clear hx hrun' hb hi hlb
      cases hgd : gdN (ws.take i) with
      | true =>
        have HG := Lib.hid hgd
        clear hgd
        go_wp2_with fail
        go_at_call 13
        refine (formedR12_any wr _ _ l HX.out.2.2.1 (by have := HX.out.2.1; omega)).mono ?_
        rintro e w3 ⟨rfl, hb3⟩
        obtain ⟨n0, n1⟩ := fmN_range l
        have hgd2 : gdN (ws.take (i + 1)) = fmO l := by rw [gdN_succ HX.out.1, HG.out]; simp
        have hsm2 := smN_succ HX.out.1
        obtain ⟨n, hn⟩ : ∃ n, n = fmN l := ⟨_, rfl⟩
        obtain ⟨sm, hsm⟩ : ∃ n, n = smN (ws.take i) := ⟨_, rfl⟩
        rw [← hn] at n0 n1 hsm2 ⊢
        rw [← hsm] at hsm2 ⊢
        have hs0 : 0 ≤ sm := by rw [hsm]; exact HI.out.2.2.1
        have hs1 : sm ≤ (i : Int) * 288230376151711744 := by rw [hsm]; exact HI.out.2.2.2.1
        have HN := Lib.hid (And.intro hgd2 (And.intro hsm2 (And.intro hs0 (And.intro hs1 n0))))
        have cw3 := (hb3.cell (p := ⟨gw, ow + i, none⟩) hgr).trans cw
        have HB3 := Lib.hid (And.intro (bhop HI.out.1 hb3) hb3)
        clear hgd2 hsm2 hn hsm hb3 cw
        by_cases hbig : 288230376151711744 < n
        · have km : min n 288230376151711744 = 288230376151711744 := by omega
          have ws1 : IntKind.i64.wrap (sm + 288230376151711744) = sm + 288230376151711744 := by have := HX.out.2.2.2; rw [IntKind.wrap_i64]; omega
          go_wp2_with fail
          go_ret
          exact ⟨rfl, HB3.out.1⟩
        · have km : min n 288230376151711744 = n := by omega
          have hns : n ≤ 288230376151711744 := by omega
          have ws1 : IntKind.i64.wrap (sm + n) = sm + n := by have := HX.out.2.2.2; rw [IntKind.wrap_i64]; omega
          have own3 : w3.ownsRow w.heap.size 42 2 (.slice uA fl uc) fl ((ws.take i).flatten.flatMap rnc) := by have := own_keep HI.out.2.1 HB3.out.2; rw [← HFE.out] at this; exact this
          have hle : fl + l.length ≤ 700 := by have := HX.out.2.1; have := HX.out.2.2.2; have := List.length_take_le i ws; omega
          have HLE := Lib.hid hle
          have hrun3 := HX.out.2.2.1.below HB3.out.2
          have hsz := HB3.out.1.size
          go_upto_region 16 with fail
          go_wp2_with (at_builtin; refine wpList_append_rn rfl _ _ rfl w.heap.size hj0 hy0 hy1 hy2 (.slice uA fl uc) fl ((ws.take i).flatten.flatMap rnc) rfl own3 hrun3 rfl (by have := HLE.out; unfold maxLen; omega) (by have := HLE.out; omega) hsz ?_)
          intro v5 w5 hown5 hgrow5
          have HE := Lib.hid (rn_grown (acc := (ws.take i).flatten) (l := l) (v5 := v5) (by show World.ownsRow _ _ _ _ _ (ws.take i).flatten.length _; rw [← HFE.out]; exact own3) HB3.out.1 (by rw [← HFE.out]; exact hown5) hgrow5)
          clear hown5 hgrow5 own3 cw3 hrun3 hsz hle
          go_wp2_with fail
          go_roundw
          case rel =>
            refine ⟨i + 1, by push_cast; rfl, by rw [HN.out.1], by rw [HN.out.2.1], HX.out.2.2.2.1, by rw [HN.out.2.1]; have := HN.out.2.2.1; have := HN.out.2.2.2.2; omega, by rw [HN.out.2.1]; have := HN.out.2.2.2.1; push_cast; omega, by rw [flat_succ HX.out.1]; exact HE.out.1, ?_, HE.out.2⟩
            intro y hy
            rw [List.take_add_one, HX.out.1] at hy
            rcases List.mem_append.1 hy with hy | hy
            · exact HI.out.2.2.2.2 y hy
            · obtain rfl : y = l := by simpa using hy
              exact HX.out.2.1
          case measure => have := HX.out.2.2.2.1; simp; omega
      | false =>
        have HG := Lib.hid hgd
        clear hgd
        go_wp2_with fail
        go_at_call 13
        refine (formedR12_any wr _ _ l HX.out.2.2.1 (by have := HX.out.2.1; omega)).mono ?_
        rintro e w3 ⟨rfl, hb3⟩
        obtain ⟨n0, n1⟩ := fmN_range l
        have hgd2 : gdN (ws.take (i + 1)) = false := by rw [gdN_succ HX.out.1, HG.out]; simp
        have hsm2 := smN_succ HX.out.1
        obtain ⟨n, hn⟩ : ∃ n, n = fmN l := ⟨_, rfl⟩
        obtain ⟨sm, hsm⟩ : ∃ n, n = smN (ws.take i) := ⟨_, rfl⟩
        rw [← hn] at n0 n1 hsm2 ⊢
        rw [← hsm] at hsm2 ⊢
        have hs0 : 0 ≤ sm := by rw [hsm]; exact HI.out.2.2.1
        have hs1 : sm ≤ (i : Int) * 288230376151711744 := by rw [hsm]; exact HI.out.2.2.2.1
        have HN := Lib.hid (And.intro hgd2 (And.intro hsm2 (And.intro hs0 (And.intro hs1 n0))))
        have cw3 := (hb3.cell (p := ⟨gw, ow + i, none⟩) hgr).trans cw
        have HB3 := Lib.hid (And.intro (bhop HI.out.1 hb3) hb3)
        clear hgd2 hsm2 hn hsm hb3 cw
        by_cases hbig : 288230376151711744 < n
        · have km : min n 288230376151711744 = 288230376151711744 := by omega
          have ws1 : IntKind.i64.wrap (sm + 288230376151711744) = sm + 288230376151711744 := by have := HX.out.2.2.2; rw [IntKind.wrap_i64]; omega
          go_wp2_with fail
          go_ret
          exact ⟨rfl, HB3.out.1⟩
        · have km : min n 288230376151711744 = n := by omega
          have hns : n ≤ 288230376151711744 := by omega
          have ws1 : IntKind.i64.wrap (sm + n) = sm + n := by have := HX.out.2.2.2; rw [IntKind.wrap_i64]; omega
          have own3 : w3.ownsRow w.heap.size 42 2 (.slice uA fl uc) fl ((ws.take i).flatten.flatMap rnc) := by have := own_keep HI.out.2.1 HB3.out.2; rw [← HFE.out] at this; exact this
          have hle : fl + l.length ≤ 700 := by have := HX.out.2.1; have := HX.out.2.2.2; have := List.length_take_le i ws; omega
          have HLE := Lib.hid hle
          have hrun3 := HX.out.2.2.1.below HB3.out.2
          have hsz := HB3.out.1.size
          go_upto_region 16 with fail
          go_wp2_with (at_builtin; refine wpList_append_rn rfl _ _ rfl w.heap.size hj0 hy0 hy1 hy2 (.slice uA fl uc) fl ((ws.take i).flatten.flatMap rnc) rfl own3 hrun3 rfl (by have := HLE.out; unfold maxLen; omega) (by have := HLE.out; omega) hsz ?_)
          intro v5 w5 hown5 hgrow5
          have HE := Lib.hid (rn_grown (acc := (ws.take i).flatten) (l := l) (v5 := v5) (by show World.ownsRow _ _ _ _ _ (ws.take i).flatten.length _; rw [← HFE.out]; exact own3) HB3.out.1 (by rw [← HFE.out]; exact hown5) hgrow5)
          clear hown5 hgrow5 own3 cw3 hrun3 hsz hle
          go_wp2_with fail
          go_roundw
          case rel =>
            refine ⟨i + 1, by push_cast; rfl, by rw [HN.out.1], by rw [HN.out.2.1], HX.out.2.2.2.1, by rw [HN.out.2.1]; have := HN.out.2.2.1; have := HN.out.2.2.2.2; omega, by rw [HN.out.2.1]; have := HN.out.2.2.2.1; push_cast; omega, by rw [flat_succ HX.out.1]; exact HE.out.1, ?_, HE.out.2⟩
            intro y hy
            rw [List.take_add_one, HX.out.1] at hy
            rcases List.mem_append.1 hy with hy | hy
            · exact HI.out.2.2.2.2 y hy
            · obtain rfl : y = l := by simpa using hy
              exact HX.out.2.1
          case measure => have := HX.out.2.2.2.1; simp; omega
    · have s2 : ¬ (i : Int) < (ln : Int) := by omega
      have hil : ws.take i = ws := List.take_of_length_le (by have := HLN.out; omega)
      rw [hil] at HI HFE hfl ⊢
      have h10 : ws.length ≤ 10 := by have := HLN.out; omega
      obtain ⟨sm, hsm⟩ : ∃ n, n = smN ws := ⟨_, rfl⟩
      have hsb : sm ≤ 4611686018427387904 := by have := HI.out.2.2.2.1; rw [hsm]; omega
      rw [← hsm]
      have HS := Lib.hid (And.intro hsm hsb)
      have HJ := Lib.hid (join12_any wr _ _ ws (HW.out.below hb) (by omega) (fun l hl => by have := HI.out.2.2.2.2 l hl; omega) fun hall => by rw [smL_flat hall, ← hsm]; exact hsb)
      have HK := Lib.hid (And.intro h10 hfl)
      cases hgd : gdN ws with
      | true =>
        have HG := Lib.hid hgd
        clear hgd hil hsm hsb h10 hfl hi hb
        go_wp2_with fail
        go_at_call 16
        refine HJ.out.mono ?_
        rintro e w2 ⟨u, cd, rfl, hb2, hj1, hj2⟩
        have HB2 := Lib.hid (bhop HI.out.1 hb2)
        have HO := Lib.hid (OwnR.row (l := ws.flatten) (own_keep HI.out.2.1 hb2))
        have HJ2 := Lib.hid (And.intro hj1 hj2)
        clear hb2 hj1 hj2
        have hall : ∀ l ∈ ws, fmO l = true := by
          have h1 := HG.out
          unfold gdN at h1
          simpa using h1
        have hpos : ∀ x ∈ ws.flatten, 1 ≤ x.2 := fun x hx => by
          obtain ⟨l, h1, h2⟩ := List.mem_flatten.1 hx
          exact ((fm_yes (hall l h1)).2.2.2 x h2).1
        have hsum : smL ws.flatten = sm := (smL_flat hall).trans HS.out.1.symm
        obtain ⟨hu1, hu2⟩ := HJ2.out.2 hall
        have HU := Lib.hid (And.intro hu1 (And.intro hu2 (And.intro hpos hsum)))
        clear hall hpos hsum hu1 hu2
        go_wp2_with fail
        go_loopw [11, 12] (fun y x wq => ∃ i : Nat, x = .int .i64 i ∧ y = .int .i64 ((ws.take i).flatten.length : Nat) ∧ i ≤ ws.length ∧ Below w2.heap.size w2 wq) (fun _ x _ => match x with | .int _ z => ws.length - z.toNat | _ => 0)
        case atStart => exact ⟨0, rfl, by simp, by omega, Below.refl _ _⟩
        case round =>
          obtain ⟨i, rfl, rfl, hi, hb⟩ := hrel
          obtain ⟨fi, hfi⟩ : ∃ n, n = (ws.take i).flatten.length := ⟨_, rfl⟩
          rw [← hfi]
          have HFI := Lib.hid hfi
          by_cases hlt : i < ln
          · obtain ⟨l, hx⟩ : ∃ x, ws[i]? = some x := ⟨_, List.getElem?_eq_getElem (by have := HLN.out; omega)⟩
            obtain ⟨gw, ow, bv, rfl, hgw, cw, hrun⟩ := HR.out.1 i l hx
            have s1 : (0 : Int) ≤ (i : Int) := by omega
            have s2 : (i : Int) < (ln : Int) := by omega
            have s3 : ((i : Int)).toNat = i := by omega
            have wk : IntKind.i64.wrap ((i : Int) + 1) = (i : Int) + 1 := by have := HK.out.1; have := HLN.out; rw [IntKind.wrap_i64]; omega
            obtain ⟨lb, hlb⟩ : ∃ n, n = l.length := ⟨_, rfl⟩
            obtain ⟨bA, bc, rfl, hrl⟩ := hrun
            rw [← hlb] at cw
            have HX := Lib.hid (And.intro hx (And.intro hlb (And.intro hrl (And.intro hgw (And.intro cw (And.intro (show i + 1 ≤ ws.length by have := HLN.out; omega) (show l.length ≤ 60 from HI.out.2.2.2.2 l (List.mem_of_getElem? hx))))))))
            clear hx hlb hrl cw hi hfi
            go_wp2_with fail
            have HB3 := Lib.hid hb
            clear hb
            go_loopw [11, 13] (fun y x wq => ∃ k : Nat, x = .int .i64 k ∧ y = .int .i64 ((fi + k : Nat) : Int) ∧ k ≤ l.length ∧ Below w2.heap.size w2 wq) (fun _ x _ => match x with | .int _ z => l.length - z.toNat | _ => 0)
            case atStart => exact ⟨0, rfl, by simp, by omega, HB3.out⟩
            case round =>
              obtain ⟨k, rfl, rfl, hk, hb⟩ := hrel
              have cw := (bhop HB2.out hb).cell (p := ⟨gw, ow + i, none⟩) HX.out.2.2.2.1
              rw [HX.out.2.2.2.2.1] at cw
              by_cases hkl : k < lb
              · obtain ⟨⟨b, t⟩, hy⟩ : ∃ x, l[k]? = some x := ⟨_, List.getElem?_eq_getElem (by have := HX.out.2.1; omega)⟩
                obtain ⟨gr, or, rfl, _, hgr, c0, c1⟩ := HX.out.2.2.1 k b t hy
                rw [← (bhop HB2.out hb).cell (p := ⟨gr, or + k * 2, none⟩) hgr] at c0
                rw [← (bhop HB2.out hb).cell (p := ⟨gr, or + k * 2 + 1, none⟩) hgr] at c1
                have hat := flat_at HX.out.1 hy
                rw [← HFI.out] at hat
                obtain ⟨uA2, uc2, hu2, hru⟩ := HO.out
                simp only [Value.slice.injEq] at hu2
                obtain ⟨rfl, hfll, rfl⟩ := hu2
                obtain ⟨gu, ou, rfl, _, hgu, d0, d1⟩ := hru _ b t hat
                rw [← hb.cell (p := ⟨gu, ou + (fi + k) * 2, none⟩) hgu] at d0
                rw [← hb.cell (p := ⟨gu, ou + (fi + k) * 2 + 1, none⟩) hgu] at d1
                have hatl := (List.getElem?_eq_some_iff.1 hat).1
                have k1 : (0 : Int) ≤ (k : Int) := by omega
                have k2 : (k : Int) < (lb : Int) := by omega
                have k3 : ((k : Int)).toNat = k := by omega
                have k4 : (0 : Int) ≤ ((fi + k : Nat) : Int) := by omega
                have k5 : ((fi + k : Nat) : Int) < (fl : Int) := by omega
                have k6 : (((fi + k : Nat) : Int)).toNat = fi + k := by omega
                have wk2 : IntKind.i64.wrap ((k : Int) + 1) = (k : Int) + 1 := by have := HX.out.2.2.2.2.2.2; have := HX.out.2.1; rw [IntKind.wrap_i64]; omega
                have wk3 : IntKind.i64.wrap (((fi + k : Nat) : Int) + 1) = ((fi + k + 1 : Nat) : Int) := by have := HK.out; rw [IntKind.wrap_i64]; omega
                have he := fun W => run_eqRn W (b : Int) (b : Int) t t
                simp only [show (((b : Int) == (b : Int)) && (t == t)) = true by simp] at he
                have HN := Lib.hid (And.intro (show k + 1 ≤ l.length by have := HX.out.2.1; omega) hb)
                obtain ⟨fk, hfk⟩ : ∃ n, n = fi + k := ⟨_, rfl⟩
                rw [← hfk] at d0 d1 k4 k5 k6 wk3 ⊢
                have HFK := Lib.hid hfk
                clear hy hat hatl hru hk hb hfk hfll
                go_wp2_with fail
                go_quiet (fail)
                go_wp2_with fail
                go_roundw
                case rel => exact ⟨k + 1, by push_cast; rfl, by rw [HFK.out]; rfl, HN.out.1, below_drewN HN.out.2 _⟩
                case measure => have := HN.out.1; simp; omega
              · have k2 : ¬ (k : Int) < (lb : Int) := by omega
                have hkl2 : fi + k = (ws.take (i + 1)).flatten.length := by rw [flat_succ HX.out.1, List.length_append, ← HFI.out]; have := HX.out.2.1; omega
                have HN := Lib.hid (And.intro hkl2 hb)
                clear hkl2 hb hk
                go_wp2_with fail
                go_roundw
                case rel => exact ⟨i + 1, by push_cast; rfl, by rw [← HN.out.1], HX.out.2.2.2.2.2.1, HN.out.2⟩
                case measure => have := HX.out.2.2.2.2.2.1; simp; omega
          · have s2 : ¬ (i : Int) < (ln : Int) := by omega
            have HE := Lib.hid hb
            clear hb hi hfi
            go_wp2_with fail
            go_at_call 17
            refine (joinR12_any wr _ _ ws (HW.out.below (bhop HB2.out HE.out)) HU.out.2.2.1 (by rw [HU.out.2.2.2]; exact HS.out.2) (by rw [← HFE.out]; have := HK.out; omega) (by have := HK.out.1; omega)).mono ?_
            rintro e w5 ⟨x5, rfl, hown5, hb5⟩
            obtain ⟨A5, c5, rfl⟩ := own_formR hown5
            have HB5 := Lib.hid (bhop (bhop HB2.out HE.out) hb5)
            have HC5 := Lib.hid (bhop HE.out hb5)
            have HO5 := Lib.hid hown5.row
            obtain ⟨jl, hjl⟩ : ∃ n, n = (jnL ws).length := ⟨_, rfl⟩
            rw [← hjl] at HO5 HU ⊢
            have HJL := Lib.hid hjl
            clear hown5 hb5 hjl
            by_cases h200 : 200 < jl
            · have g2 : (200 : Int) < (jl : Int) := by omega
              obtain ⟨rfl, uA3, uc3, rfl⟩ := HU.out.1 h200
              go_wp2_with fail
              go_ret
              exact ⟨rfl, HB5.out⟩
            · have g2 : ¬ (200 : Int) < (jl : Int) := by omega
              obtain ⟨rfl, hrun⟩ := HU.out.2.1 (by omega)
              obtain ⟨a1, a2, a3, a4⟩ := jn_all ws.flatten [] trivial (fun x hx => by cases hx) HU.out.2.2.1
              have hz : smL [] = 0 := rfl
              have hfmN : fmN (jnL ws) = sm := by
                have h1 : smL (jnL ws) = sm := by unfold jnL; rw [a3, hz, HU.out.2.2.2]; omega
                have h2 := fm_apart (l := jnL ws) (n := 0) (p := none) (by omega) (by rw [h1]; have := HS.out.2; omega) a1 a2 (by
                  cases jnL ws with
                  | nil => exact .inr rfl
                  | cons q l => exact .inl (by simp))
                unfold fmN fmB
                rw [if_neg (by rw [← HJL.out]; omega), h2, h1]
                simp
              have HM := Lib.hid hfmN
              have HRun := Lib.hid (fun (W : World) (hb : Below w2.heap.size w2 W) => hrun.below hb)
              obtain ⟨uA3, uc3, rfl, _⟩ := hrun
              rw [← HJL.out] at HRun ⊢
              clear a1 a2 a3 a4 hz hfmN
              go_wp2_with fail
              go_at_call 10
              refine (sameR12_any w5 _ _ _ _ (jnL ws) (jnL ws) (HRun.out _ HC5.out) HO5.out (by have := HJL.out; omega)).mono ?_
              rintro e w6 ⟨rfl, hb6⟩
              rw [decide_eq_true (rfl : jnL ws = jnL ws)]
              have HB6 := Lib.hid (And.intro (bhop HB5.out hb6) (bhop HC5.out hb6))
              clear hb6
              go_wp2_with fail
              go_at_call 12
              refine (size12_any w6 _ _ (jnL ws) (HRun.out _ HB6.out.2)).mono ?_
              rintro e w7 ⟨rfl, hb7⟩
              rw [HM.out]
              have HB7 := Lib.hid (bhop HB6.out.1 hb7)
              clear hb7
              go_wp2_with fail
              go_ret
              exact ⟨rfl, HB7.out⟩
      | false =>
        have HG := Lib.hid hgd
        clear hgd hil hsm hsb h10 hfl hi hb
        go_wp2_with fail
        go_at_call 16
        refine HJ.out.mono ?_
        rintro e w2 ⟨u, cd, rfl, hb2, hj1, hj2⟩
        have HB2 := Lib.hid (bhop HI.out.1 hb2)
        have HO := Lib.hid (OwnR.row (l := ws.flatten) (own_keep HI.out.2.1 hb2))
        have HJ2 := Lib.hid (And.intro hj1 hj2)
        clear hb2 hj1 hj2
        have hbad : ∃ l ∈ ws, fmO l = false := by
          have h1 := HG.out
          unfold gdN at h1
          simpa using h1
        obtain ⟨rfl, uA3, uc3, rfl⟩ := HJ2.out.1 hbad
        clear hbad
        go_wp2_with fail
        go_loopw [11, 12] (fun y x wq => ∃ i : Nat, x = .int .i64 i ∧ y = .int .i64 ((ws.take i).flatten.length : Nat) ∧ i ≤ ws.length ∧ Below w2.heap.size w2 wq) (fun _ x _ => match x with | .int _ z => ws.length - z.toNat | _ => 0)
        case atStart => exact ⟨0, rfl, by simp, by omega, Below.refl _ _⟩
        case round =>
          obtain ⟨i, rfl, rfl, hi, hb⟩ := hrel
          obtain ⟨fi, hfi⟩ : ∃ n, n = (ws.take i).flatten.length := ⟨_, rfl⟩
          rw [← hfi]
          have HFI := Lib.hid hfi
          by_cases hlt : i < ln
          · obtain ⟨l, hx⟩ : ∃ x, ws[i]? = some x := ⟨_, List.getElem?_eq_getElem (by have := HLN.out; omega)⟩
            obtain ⟨gw, ow, bv, rfl, hgw, cw, hrun⟩ := HR.out.1 i l hx
            have s1 : (0 : Int) ≤ (i : Int) := by omega
            have s2 : (i : Int) < (ln : Int) := by omega
            have s3 : ((i : Int)).toNat = i := by omega
            have wk : IntKind.i64.wrap ((i : Int) + 1) = (i : Int) + 1 := by have := HK.out.1; have := HLN.out; rw [IntKind.wrap_i64]; omega
            obtain ⟨lb, hlb⟩ : ∃ n, n = l.length := ⟨_, rfl⟩
            obtain ⟨bA, bc, rfl, hrl⟩ := hrun
            rw [← hlb] at cw
            have HX := Lib.hid (And.intro hx (And.intro hlb (And.intro hrl (And.intro hgw (And.intro cw (And.intro (show i + 1 ≤ ws.length by have := HLN.out; omega) (show l.length ≤ 60 from HI.out.2.2.2.2 l (List.mem_of_getElem? hx))))))))
            clear hx hlb hrl cw hi hfi
            go_wp2_with fail
            have HB3 := Lib.hid hb
            clear hb
            go_loopw [11, 13] (fun y x wq => ∃ k : Nat, x = .int .i64 k ∧ y = .int .i64 ((fi + k : Nat) : Int) ∧ k ≤ l.length ∧ Below w2.heap.size w2 wq) (fun _ x _ => match x with | .int _ z => l.length - z.toNat | _ => 0)
            case atStart => exact ⟨0, rfl, by simp, by omega, HB3.out⟩
            case round =>
              obtain ⟨k, rfl, rfl, hk, hb⟩ := hrel
              have cw := (bhop HB2.out hb).cell (p := ⟨gw, ow + i, none⟩) HX.out.2.2.2.1
              rw [HX.out.2.2.2.2.1] at cw
              by_cases hkl : k < lb
              · obtain ⟨⟨b, t⟩, hy⟩ : ∃ x, l[k]? = some x := ⟨_, List.getElem?_eq_getElem (by have := HX.out.2.1; omega)⟩
                obtain ⟨gr, or, rfl, _, hgr, c0, c1⟩ := HX.out.2.2.1 k b t hy
                rw [← (bhop HB2.out hb).cell (p := ⟨gr, or + k * 2, none⟩) hgr] at c0
                rw [← (bhop HB2.out hb).cell (p := ⟨gr, or + k * 2 + 1, none⟩) hgr] at c1
                have hat := flat_at HX.out.1 hy
                rw [← HFI.out] at hat
                obtain ⟨uA2, uc2, hu2, hru⟩ := HO.out
                simp only [Value.slice.injEq] at hu2
                obtain ⟨rfl, hfll, rfl⟩ := hu2
                obtain ⟨gu, ou, rfl, _, hgu, d0, d1⟩ := hru _ b t hat
                rw [← hb.cell (p := ⟨gu, ou + (fi + k) * 2, none⟩) hgu] at d0
                rw [← hb.cell (p := ⟨gu, ou + (fi + k) * 2 + 1, none⟩) hgu] at d1
                have hatl := (List.getElem?_eq_some_iff.1 hat).1
                have k1 : (0 : Int) ≤ (k : Int) := by omega
                have k2 : (k : Int) < (lb : Int) := by omega
                have k3 : ((k : Int)).toNat = k := by omega
                have k4 : (0 : Int) ≤ ((fi + k : Nat) : Int) := by omega
                have k5 : ((fi + k : Nat) : Int) < (fl : Int) := by omega
                have k6 : (((fi + k : Nat) : Int)).toNat = fi + k := by omega
                have wk2 : IntKind.i64.wrap ((k : Int) + 1) = (k : Int) + 1 := by have := HX.out.2.2.2.2.2.2; have := HX.out.2.1; rw [IntKind.wrap_i64]; omega
                have wk3 : IntKind.i64.wrap (((fi + k : Nat) : Int) + 1) = ((fi + k + 1 : Nat) : Int) := by have := HK.out; rw [IntKind.wrap_i64]; omega
                have he := fun W => run_eqRn W (b : Int) (b : Int) t t
                simp only [show (((b : Int) == (b : Int)) && (t == t)) = true by simp] at he
                have HN := Lib.hid (And.intro (show k + 1 ≤ l.length by have := HX.out.2.1; omega) hb)
                obtain ⟨fk, hfk⟩ : ∃ n, n = fi + k := ⟨_, rfl⟩
                rw [← hfk] at d0 d1 k4 k5 k6 wk3 ⊢
                have HFK := Lib.hid hfk
                clear hy hat hatl hru hk hb hfk hfll
                go_wp2_with fail
                go_quiet (fail)
                go_wp2_with fail
                go_roundw
                case rel => exact ⟨k + 1, by push_cast; rfl, by rw [HFK.out]; rfl, HN.out.1, below_drewN HN.out.2 _⟩
                case measure => have := HN.out.1; simp; omega
              · have k2 : ¬ (k : Int) < (lb : Int) := by omega
                have hkl2 : fi + k = (ws.take (i + 1)).flatten.length := by rw [flat_succ HX.out.1, List.length_append, ← HFI.out]; have := HX.out.2.1; omega
                have HN := Lib.hid (And.intro hkl2 hb)
                clear hkl2 hb hk
                go_wp2_with fail
                go_roundw
                case rel => exact ⟨i + 1, by push_cast; rfl, by rw [← HN.out.1], HX.out.2.2.2.2.2.1, HN.out.2⟩
                case measure => have := HX.out.2.2.2.2.2.1; simp; omega
          · have s2 : ¬ (i : Int) < (ln : Int) := by omega
            have HE := Lib.hid hb
            clear hb hi hfi
            go_wp2_with fail
            go_ret
            exact ⟨rfl, bhop HB2.out HE.out⟩

end Go.Proofs.YtgdblnppeeknpaaDoor
