/- What folding a tree by nullableOf comes to: a contract.
   Conditions: the tree lies in memory; what the function gives, of a node and of what it gave of the node's parts, is taken as known. -/
import Derived.Test.YtmpneklgldaggaaMMelt
import Derived.Test.YtmpneklgldaggaaMNB
import Derived.Deep.RegionWith
import Derived.Deep.AppendLies

/- What folding a tree by nullableOf comes to: a contract.
   Conditions: the tree lies in memory; what the function gives, of a node and of what it gave of the node's parts, is taken as known. -/
namespace Go.Proofs.Ytmpneklgldaggaa
open Go.RowKit Go.Shelf

def LFoldN (w : World) (B : Nat) (F : V → List Value) (S : V → Prop) (root : V) (n : Nat) (ov : Value) (wr : World) : Prop :=
  ∃ f fs, StkI w B 84 4 1 F S (f :: fs) ov wr ∧ flatsV f.t.kind f.t.ps = f.ds ++ todoF f.t.kind f.st ∧ ChainB root f.t fs ∧ n = wFs (f :: fs) ∧ n ≤ 1000000
theorem infoGrpN : (Try.prog.info? 84).map (fun i => (i.zero, i.size, i.bytes)) = some (some (.agg #[.pointer none, .slice none 0 0, .slice none 0 0]), 3, 56) := by kernel_rfl
theorem infoBoolN : (Try.prog.info? 4).map (fun i => (i.zero, i.size, i.bytes)) = some (some (.bool false), 1, 1) := by kernel_rfl

set_option maxHeartbeats 8000000 in
set_option maxRecDepth 100000 in
theorem fold_N (B nb no : Nat) (root : V) (w : World) (S : V → Prop) (Fb : V → Bool) (hS : ∀ t p, S t → p ∈ flatsV t.kind t.ps → S p) (hroot : NodeB B w nb no root) (hSr : S root) (hB : B ≤ w.heap.size) (hsz : 3 * szsT (erases root.ps) + 10 ≤ 1000000) (hSz : ∀ t, S t → szT (erase t) ≤ 1000000)
    (hOf : ∀ (W : World) (b o : Nat) (t : V) (pv : Value), NodeB B W b o t → S t → Below w.heap.size w W → W.ownsRow w.heap.size 4 1 pv (flatsV t.kind t.ps).length ((flatsV t.kind t.ps).flatMap fun p => [.bool (Fb p)]) →
      Calls Try.prog 26 #[.pointer (some ⟨b, o, none⟩), pv] W fun e w' => e = .returned (.bool (Fb t)) ∧ Below W.heap.size W w') :
    Calls Try.prog 25 #[.pointer (some ⟨nb, no, none⟩), .func (.func 26) #[] #[]] w fun e w' => e = .returned (.bool (Fb root)) ∧ Below w.heap.size w w' := by
  obtain ⟨i0, hi, hz0, hz1, hz2⟩ := info_parts infoGrpN
  obtain ⟨j0, hj, hy0, hy1, hy2⟩ := info_parts infoBoolN
  have h1 : 84 ≠ 25 := by decide
  have h2 : 4 ≠ 25 := by decide
  have h3 : 4 ≠ 84 := by decide
  have HO := Lib.hid hOf
  have HD := Lib.hid (And.intro hS (And.intro hB hsz))
  have HSZ := Lib.hid hSz
  have HOP := Lib.hid (opened_anyB B nb no root w hroot)
  have HRT := Lib.hid (And.intro hroot hSr)
  have HTY := Lib.hid (And.intro h1 (And.intro h2 h3))
  clear hSz hOf hS hB hsz hroot hSr h1 h2 h3
  go_enter Try.func25, Try.ntmps25
  go_wp2_with fail
  go_at_call 37
  refine HOP.out.mono ?_
  rintro e w1 ⟨rv, st, rfl, hown, hrows, htd, hwt, hb1⟩
  have HST := Lib.hid (show LFoldN w B (fun p => [.bool (Fb p)]) S root (wFs [⟨nb, no, root, [], .slice none 0 0, rv, st⟩]) (.slice (some ⟨w1.heap.size, 0, none⟩) 1 1) (w1.alloc (.cells #[.pointer (some ⟨nb, no, none⟩), .slice none 0 0, rv] 84)) by
    have hbw : Below w1.heap.size w1 (w1.alloc (.cells #[.pointer (some ⟨nb, no, none⟩), .slice none 0 0, rv] 84)) := (Below.refl _ w1).alloc (Nat.le_refl _) _
    refine ⟨⟨nb, no, root, [], .slice none 0 0, rv, st⟩, [], ⟨?_, fun f hf => ?_, ?_, ?_, bhop hb1 hbw⟩, by rw [htd]; rfl, rfl, rfl, ?_⟩
    · exact World.ownsRow_lit (e := 84) (size := 3) (base := w.heap.size) w1 #[.pointer (some ⟨nb, no, none⟩), .slice none 0 0, rv] 1 hb1.size (by unfold maxLen; omega) rfl
    · simp at hf
      subst hf
      exact ⟨(HRT.out.1.chg (Chg.of_below hb1)).chg (Chg.of_below hbw), HRT.out.2, World.ownsRow_nil _ _ _ _, hown.alloc _, fun p hp => laid_low' (hrows p hp) hbw⟩
    · rw [List.filterMap_cons]; split <;> simp
    · simp [Value.ownBlock]
    · have := HD.out.2.2
      simp only [wFs]
      omega)
  clear hown hrows htd hwt hb1
  go_wp2_with fail
  go_loopw [5] (fun ov wr => ∃ n, LFoldN w B (fun p => [.bool (Fb p)]) S root n ov wr) (fun ov wr => leastOf (fun n => LFoldN w B (fun p => [.bool (Fb p)]) S root n ov wr))
  case atStart => exact ⟨_, HST.out⟩
  case round =>
    clear HST
    have hls := (leastOf_spec hrel).1
    obtain ⟨f, fs, hI, hch, hcb, hN, hn⟩ := hls
    obtain ⟨g, cap, rfl⟩ := ownsRow_succ hI.own
    obtain ⟨cs, hcs, hcv⟩ := own_cells hI.own
    have hf := hI.fr f (by simp)
    have hlen : fs.length + 1 ≤ 1000000 := by have := wFs_len (f :: fs); simp only [List.length_cons] at this; omega
    have hrv : (((f :: fs).reverse.flatMap fcells)).length = (fs.length + 1) * 3 := by rw [fcells_len]; simp
    have hx : ∀ j, j < 3 → cs[fs.length * 3 + j]? = (fcells f)[j]? := fun j hj => by
      rw [hcv _ (by omega), rev_cells, List.getElem?_append_right (by rw [fcells_len, List.length_reverse]; omega), fcells_len, List.length_reverse]
      congr 1
      omega
    have hNX := Lib.hid (next_anyB wr w.heap.size B g (fs.length * 3) f.nb f.no cs f.rv f.t f.st hf.rest hf.rows hcs (hx 2 (by omega)) (hx 0 (by omega)) hf.node HD.out.2.1 (Nat.le_trans HD.out.2.1 (hI.own.lt g rfl).1) hI.below.size (by rw [wFs] at hN; omega))
    have HI := Lib.hid (And.intro hI (And.intro hch (And.intro hcb (And.intro hN hn))))
    have HC := Lib.hid (And.intro hcs (And.intro hx hcv))
    have hgl := (hI.own.lt g rfl).2
    have hcap : (fs.length : Int) + 1 ≤ (cap : Int) := by
      rcases hI.own.2 with ⟨h1, _⟩ | ⟨g', cap', cur, hv, _, _, hle, _⟩
      · cases h1
      · simp only [Value.slice.injEq, List.length_cons] at hv hle; omega
    have m1 : (0 : Int) ≤ (fs.length : Int) := by omega
    have m2 : (0 : Int) < (fs.length : Int) + 1 := by omega
    have m3 : (fs.length : Int) < (fs.length : Int) + 1 := by omega
    have m4 : (fs.length : Int) ≤ 2000000 := by omega
    clear hI hch hcb hN hn hcs hcv hf hx hrv hrel
    go_wp2_with fail
    go_at_call 38
    refine hNX.out.mono ?_
    rintro e w1 ⟨st', rv', hNH, ⟨htd, rfl, rfl⟩ | ⟨p, pb, po, rfl, hnp, htd, hwt⟩⟩
    · have HI1 := Lib.hid (HI.out.1.next HD.out.2.1 HTY.out.1 HTY.out.2.1 HTY.out.2.2 HC.out.1 hNH.drew)
      have y0 : w1.cell? ⟨g, fs.length * 3, none⟩ = some (.pointer (some ⟨f.nb, f.no, none⟩)) := by rw [hNH.cell _ (by omega)]; exact HC.out.2.1 0 (by omega)
      have y1 : w1.cell? ⟨g, fs.length * 3 + 1, none⟩ = some f.pv := by rw [hNH.cell _ (by omega)]; exact HC.out.2.1 1 (by omega)
      have hds : flatsV f.t.kind f.t.ps = f.ds := by rw [HI.out.2.1, htd, List.append_nil]
      have hf1 := HI1.out.fr _ (List.mem_cons_self ..)
      have HOF := Lib.hid (HO.out w1.drew f.nb f.no f.t f.pv hf1.node hf1.s HI1.out.below (by rw [hds]; exact hf1.parts))
      have hgl1 : g < w1.heap.size := (HI1.out.own.lt g rfl).2
      cases fs with
      | nil =>
        simp only [List.length_nil] at m1 m2 m3 m4 hcap hlen
        simp only [List.length_nil, Nat.zero_mul, Nat.zero_add] at y0 y1
        have HRT2 := Lib.hid (show f.t = root from HI.out.2.2.1)
        clear hNH htd hds hf1 hNX
        go_wp2_with fail
        go_region_with (go_at_call 26; refine HOF.out.mono ?_; rintro e w2 ⟨rfl, hb2⟩; have HB2 := Lib.hid hb2; clear hb2)
        all_goals
          go_wp2_with fail
          go_ret
          exact ⟨by rw [HRT2.out]; rfl, bhop HI1.out.below HB2.out⟩
      | cons f2 fs =>
        simp only [List.length_cons] at hcap hlen y0 y1
        clear m1 m2 m3 m4
        have n1 : (0 : Int) ≤ (fs.length : Int) := by omega
        have n2 : (0 : Int) ≤ (fs.length : Int) + 1 := by omega
        have n3 : (fs.length : Int) < (fs.length : Int) + 1 := by omega
        have n4 : (fs.length : Int) + 1 < (fs.length : Int) + 1 + 1 := by omega
        have n5 : (fs.length : Int) + 1 ≤ 2000000 := by omega
        have n6 : (fs.length : Int) + 1 + 1 ≤ (cap : Int) := by omega
        have n7 : (fs.length : Int) + 1 ≤ (fs.length : Int) + 1 + 1 := by omega
        clear hcap
        have y2 : w1.cell? ⟨g, fs.length * 3 + 1, none⟩ = some f2.pv := by
          rw [hNH.cell _ (by simp only [List.length_cons]; omega), HC.out.2.2 _ (by simp only [List.length_cons]; omega), rev_cells, List.getElem?_append_left (by rw [fcells_len, List.length_reverse, List.length_cons]; omega), rev_cells,
            List.getElem?_append_right (by rw [fcells_len, List.length_reverse]; omega), fcells_len, List.length_reverse, show fs.length * 3 + 1 - fs.length * 3 = 1 by omega]
          rfl
        have m5 : ((fs.length : Int) + 1 == 0) = false := by simp; omega
        have m6 : ¬ (fs.length : Int) + 1 = 0 := by omega
        have hcap2 : (fs.length : Int) + 1 ≤ (cap : Int) := by omega
        have hown2 := (HI1.out.fr f2 (by simp)).parts
        obtain ⟨A2, c2, hpv2⟩ := own_form hown2
        have hlen2 : f2.ds.length ≤ 1000000 := by
          have h4 := HSZ.out _ (HI1.out.fr f2 (by simp)).s
          have h5 := flats_len f2.t.kind f2.t.ps
          rw [HI.out.2.2.1.1, List.length_append] at h5
          rw [sz_eq] at h4
          omega
        have HOW := Lib.hid hown2
        rw [hpv2] at y2
        clear hNH htd hds hf1 hNX hown2
        go_wp2_with fail
        go_region_with (go_at_call 26; refine HOF.out.mono ?_; rintro e w2 ⟨rfl, hb2⟩; have HB2 := Lib.hid hb2; have z2 := (hb2.cell (p := ⟨g, fs.length * 3 + 1, none⟩) hgl1).trans y2; have zl := Nat.lt_of_lt_of_le hgl1 hb2.size; have zf : w2.frozen? ⟨g, fs.length * 3 + 1, none⟩ = false := (World.frozen?_of_block (w := w1.drew) (hb2.block g hgl1)).trans (HI1.out.own.frozenAt _); clear hb2 y0 y1 y2)
        all_goals
          go_wp2_with ((at_builtin; refine wpList_append_lies _ (by rfl) _ _ 82 (by rfl) w.heap.size 4 j0 _ 1 1 Try.underlying82 hj hy0 hy1 hy2 rfl (by decide) (.slice A2 f2.ds.length c2) f2.ds.length (f2.ds.flatMap fun p => [.bool (Fb p)]) (by rfl) ((own_chg (hpv2 ▸ HOW.out) (Chg.of_below (R := fun _ => False) HB2.out) fun _ _ => id).alloc _) ⟨w2.heap.size, 0, none⟩ 1 1 [.bool (Fb f.t)] (by rfl) ?c0 ?c1 ?c2 (by decide) ?c3 ?c4 ?c5 _ rfl ?_))
          case c0 => rfl
          case c1 => exact World.news_of_block (heap_alloc_new w2 _)
          case c2 => simp [Value.oneCell']
          case c3 => unfold maxLen; omega
          case c4 => omega
          case c5 => have := (bhop HI1.out.below HB2.out).size; simp; omega
          intro g5 cap5 w5 hown5 hgrow5 hat5 hlt5
          have c5 : w5.heap[g]? = w2.heap[g]? := (hgrow5.block g (by simp; omega) (fun e => own_type HOW.out HI1.out.own HTY.out.2.2 (x := g) (by rw [hpv2]; exact e.symm) rfl)).trans (Below.heap_alloc w2 _ _ zl)
          have d5 := (World.cell?_of_block (w := w2) c5 : w5.cell? ⟨g, fs.length * 3 + 1, none⟩ = _).trans z2
          have f5 := (World.frozen?_of_block (w := w2) c5 : w5.frozen? ⟨g, fs.length * 3 + 1, none⟩ = _).trans zf
          have HP := Lib.hid (StkI.pop HI1.out HTY.out.1 HTY.out.2.1 HTY.out.2.2 HB2.out (hpv2 ▸ hgrow5) hown5 (fun x hx => by
            have e1 : g5 = x := Option.some.inj hx
            rw [hpv2]
            rcases hat5 with e | e
            · exact .inl (e1 ▸ e)
            · exact .inr (by rw [← e1, e]; exact Nat.le_trans HB2.out.size (Nat.le_succ _))) HD.out.2.1)
          clear hown5 hgrow5 hat5 c5 z2 zf
          go_wp2_with fail
          go_roundw
          case rel => exact ⟨_, _, _, HP.out, by rw [HI.out.2.2.1.1]; simp, HI.out.2.2.1.2, rfl, by have h4 := HI.out.2.2.2.1; have h5 := HI.out.2.2.2.2; simp only [wFs] at h4 h5 ⊢; omega⟩
          case measure =>
            refine Nat.lt_of_le_of_lt ((leastOf_spec ⟨_, _, _, HP.out, by rw [HI.out.2.2.1.1]; simp, HI.out.2.2.1.2, rfl, by have h4 := HI.out.2.2.2.1; have h5 := HI.out.2.2.2.2; simp only [wFs] at h4 h5 ⊢; omega⟩).2 _ ⟨_, _, HP.out, by rw [HI.out.2.2.1.1]; simp, HI.out.2.2.1.2, rfl, by have h4 := HI.out.2.2.2.1; have h5 := HI.out.2.2.2.2; simp only [wFs] at h4 h5 ⊢; omega⟩) ?_
            rw [HI.out.2.2.2.1]
            simp only [wFs]
            omega
    · have HI1 := Lib.hid (HI.out.1.next HD.out.2.1 HTY.out.1 HTY.out.2.1 HTY.out.2.2 HC.out.1 hNH)
      have HOP1 := Lib.hid (opened_anyB B pb po p w1 hnp)
      have hmem : p ∈ flatsV f.t.kind f.t.ps := by rw [HI.out.2.1, htd]; simp
      have HPS := Lib.hid (HD.out.1 f.t p (HI1.out.fr _ (List.mem_cons_self ..)).s hmem)
      have HNP := Lib.hid (And.intro hnp (And.intro htd hwt))
      have hgl1 : g < w1.heap.size := (HI1.out.own.lt g rfl).2
      clear hNH hnp htd hwt hNX hmem
      go_wp2_with fail
      go_at_call 37
      refine HOP1.out.mono ?_
      rintro e w2 ⟨rv2, st2, rfl, hown2, hrows2, htd2, hwt2, hb2⟩
      have H26 := Lib.hid (show FrOk B w.heap.size 4 1 (fun p => [.bool (Fb p)]) S ⟨pb, po, p, [], .slice none 0 0, rv2, st2⟩ w2 from ⟨HNP.out.1.chg (Chg.of_below hb2), HPS.out, World.ownsRow_nil _ _ _ _, own_low hown2 HI1.out.below.size, hrows2⟩)
      have HR2 := Lib.hid (And.intro (fun x hx => (hown2.lt x hx).1) (And.intro htd2 (And.intro hwt2 hb2)))
      have zl := Nat.lt_of_lt_of_le hgl1 hb2.size
      have zw : w.heap.size ≤ w2.heap.size := (bhop HI1.out.below hb2).size
      clear hown2 hrows2 htd2 hwt2 hb2
      go_wp2_with ((at_builtin; refine wpList_append_lies _ (by rfl) _ _ 86 (by rfl) w.heap.size 84 i0 _ 3 56 Try.underlying86 hi hz0 hz1 hz2 rfl (by decide) (.slice (some ⟨g, 0, none⟩) (fs.length + 1) cap) (fs.length + 1) (({ f with st := st', rv := rv' } :: fs).reverse.flatMap fcells) (by rfl) ((own_chg HI1.out.own (Chg.of_below (R := fun _ => False) HR2.out.2.2.2) fun _ _ => id).alloc _) ⟨w2.heap.size, 0, none⟩ 1 1 [.pointer (some ⟨pb, po, none⟩), .slice none 0 0, rv2] (by rfl) ?c0 ?c1 ?c2 (by decide) ?c3 ?c4 ?c5 _ rfl ?_))
      case c0 => rfl
      case c1 => exact World.news_of_block (heap_alloc_new w2 _)
      case c2 =>
        obtain ⟨A3, c3, e3⟩ := own_form H26.out.rest
        simp only at e3
        rw [e3]
        simp [Value.oneCell']
      case c3 => unfold maxLen; omega
      case c4 => omega
      case c5 => simp; omega
      intro g5 cap5 w5 hown5 hgrow5 hat5 hlt5
      have HP := Lib.hid (StkI.push HI1.out HTY.out.1 HTY.out.2.2 HR2.out.2.2.2 H26.out rfl (fun x hx => HR2.out.1 x hx) hgrow5 (by rw [rev_cells, List.append_assoc]; exact hown5) HD.out.2.1)
      have hm1 : wFs (⟨pb, po, p, [], .slice none 0 0, rv2, st2⟩ :: { f with st := st', rv := rv' } :: fs) < wFs (f :: fs) := by
        have h4 := HNP.out.2.2
        have h5 := HR2.out.2.2.1
        rw [sz_eq] at h4
        simp only [wFs]
        omega
      have HL := Lib.hid (show LFoldN w B (fun p => [.bool (Fb p)]) S root (wFs (⟨pb, po, p, [], .slice none 0 0, rv2, st2⟩ :: { f with st := st', rv := rv' } :: fs)) (.slice (some ⟨g5, 0, none⟩) (fs.length + 1 + 1) cap5) w5 from
        ⟨_, _, HP.out, by rw [HR2.out.2.1]; rfl, ⟨by rw [HI.out.2.1, HNP.out.2.1], HI.out.2.2.1⟩, rfl, by have h4 := HI.out.2.2.2.1; have h5 := HI.out.2.2.2.2; omega⟩)
      have HM1 := Lib.hid hm1
      clear hown5 hgrow5 hat5 hm1
      go_wp2_with fail
      go_roundw
      case rel => exact ⟨_, HL.out⟩
      case measure =>
        refine Nat.lt_of_le_of_lt ((leastOf_spec ⟨_, HL.out⟩).2 _ HL.out) ?_
        rw [HI.out.2.2.2.1]
        exact HM1.out

end Go.Proofs.Ytmpneklgldaggaa
