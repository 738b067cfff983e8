/- The pieces that the program takes a tree that is repeated apart into; those of every formed tree: contracts.
   Conditions: the tree lies in memory, is formed, its classes are four words below 2^64; numbers are written in base ten ('Fmt'). -/
import Derived.Test.YtpibkalbnjgpaaaDoorMSet
import Derived.Deep.RegionLaw

/- What the program puts together of the trees right below one: a contract.
   Conditions: the tree lies in memory, with at most 300000 trees right below. -/
namespace Go.Proofs.YtpibkalbnjgpaaaDoor
open Go.RowKit

def brkB (p k : Int) : Bool := decide (p = 3 ∨ (k ≠ 3 ∧ (p = 0 ∨ p = 2)))
def preP (bt : ByteArray) (i : Nat) : List Pc := if i = 0 then [] else [.tx bt]
def midP (k : Int) (b o : Nat) (p : V) : List Pc := if brkB p.kind k then [.tx { data := #[40] }, .tr b o p, .tx { data := #[41] }] else [.tr b o p]
/-- The pieces of the trees right below one. -/
def belowP (k : Int) (bt : ByteArray) (b o : Nat) : List V → Nat → List Pc
  | [], _ => []
  | p :: ps, i => preP bt i ++ (midP k b (o + i * 8) p ++ belowP k bt b o ps (i + 1))
theorem belowP_len (k : Int) (bt : ByteArray) (b o : Nat) : ∀ (ps : List V) (i : Nat), (belowP k bt b o ps i).length ≤ 4 * ps.length
  | [], _ => by simp [belowP]
  | p :: ps, i => by
    have h1 := belowP_len k bt b o ps (i + 1)
    have h2 : (preP bt i).length ≤ 1 := by unfold preP; split <;> simp
    have h3 : (midP k b (o + i * 8) p).length ≤ 3 := by unfold midP; split <;> simp
    rw [belowP, List.length_append, List.length_append, List.length_cons]
    omega

set_option maxRecDepth 100000 in
theorem brk_any (p k : Int) (w : World) : Calls Tryd.prog 47 #[.int .i64 p, .int .i64 k] w (fun e w' => e = .returned (.bool (brkB p k)) ∧ w' = w) := by
  by_cases h3 : p = 3
  · subst h3
    go_enter Tryd.func47, Tryd.ntmps47
    go_wp2_with fail
    go_ret
    exact ⟨rfl, rfl⟩
  by_cases h2 : p = 2 ∨ p = 0
  · have hb : brkB p k = (k != 3) := by
      unfold brkB
      by_cases hk : k = 3 <;> simp [hk, h3]
      rcases h2 with h | h <;> simp [h, hk]
    rw [hb]
    rcases h2 with rfl | rfl
    · go_enter Tryd.func47, Tryd.ntmps47
      go_wp2_with fail
      go_ret
      exact ⟨rfl, rfl⟩
    · go_enter Tryd.func47, Tryd.ntmps47
      go_wp2_with fail
      go_ret
      exact ⟨rfl, rfl⟩
  · have hb : brkB p k = false := by
      unfold brkB
      simp
      omega
    rw [hb]
    have g3 : (p == 3) = false := by simp [h3]
    have g2 : (p == 2) = false := by simp; omega
    have g0 : (p == 0) = false := by simp; omega
    clear h3 h2 hb
    go_enter Tryd.func47, Tryd.ntmps47
    go_wp2_with fail
    go_ret
    exact ⟨rfl, rfl⟩

/-- What the call has in memory: the pieces. -/
structure BlI (w : World) (P : List Pc) (v : Value) (wr : World) : Prop where
  own : wr.ownsRow w.heap.size 47 2 v P.length (pcs P)
  below : Below w.heap.size w wr
theorem BlI.hop {w a b : World} {P : List Pc} {v : Value} (h : BlI w P v a) (hb : Below a.heap.size a b) : BlI w P v b :=
  ⟨own_chg h.own (Chg.of_below (R := fun _ => False) hb) fun _ _ => id, below_hop h.below hb⟩
theorem BlI.push {w a aw b : World} {P Q : List Pc} {v v' : Value} (h : BlI w P v a) (hb : Below a.heap.size a aw) (hg : aw.grownBy b v.ownBlock)
    (ho : b.ownsRow w.heap.size 47 2 v' (P.length + Q.length) (pcs P ++ pcs Q)) : BlI w (P ++ Q) v' b := by
  refine ⟨by rw [List.length_append, pcs_append]; exact ho, ?_⟩
  have h1 := below_hop h.below hb
  refine (Chg.grown (R := fun x => w.heap.size ≤ x) (Chg.of_below h1) hg fun k hk _ => (h.own.lt k hk).1).below (Nat.le_refl _) fun k hk e => by omega
/-- A block of the call's own that is no row's lies there still. -/
theorem BlI.box {w a aw b : World} {P : List Pc} {v : Value} {o : Obj} {D : Nat} (h : BlI w P v a) (hD : D = a.heap.size) (ho : aw.heap[D]? = some o) (hg : aw.grownBy b v.ownBlock) : b.heap[D]? = some o :=
  (hg.block D (Array.getElem?_eq_some_iff.1 ho).1 fun e => by have := (h.own.lt D e.symm).2; omega).trans ho

set_option maxHeartbeats 8000000 in
set_option maxRecDepth 100000 in
theorem below_list (B b o : Nat) (t : V) (w : World) (bt : ByteArray) (h : NodeB B w b o t) (hz : t.ps.length ≤ 300000) : Calls Tryd.prog 34 #[.pointer (some ⟨b, o, none⟩), .string bt] w
    (fun e w' => ∃ kb ko, (∀ (i : Nat) (p : V), t.ps[i]? = some p → NodeB B w kb (ko + i * 8) p) ∧ ∃ v, e = .returned v ∧ BlI w (belowP t.kind bt kb ko t.ps 0) v w') := by
  obtain ⟨i0, hi, hz0, hz1, hz2⟩ := info_parts infoPart
  obtain ⟨sa, sc, kb, ko, hv, hk⟩ := h.kids
  have hlt := h.at.lt
  have HC := Lib.hid (fun W (hW : Below w.heap.size w W) => node_cells h.2.1 hlt hW)
  have HK := Lib.hid (fun (i : Nat) (p : V) (hp : t.ps[i]? = some p) W (hW : Below w.heap.size w W) => node_cells (hk i p hp).2.2.1 (hk i p hp).2.at.lt hW)
  have HKB := Lib.hid hk
  obtain ⟨x0, _, _, _, _, x5, _, _⟩ := HC.out w (Below.refl _ _)
  rw [hv] at x5 HC
  clear hk
  have h := ()
  go_enter Tryd.func34, Tryd.ntmps34
  go_wp2_with fail
  clear x0 x5
  go_loopw [5, 13] (fun x5 x13 wr => ∃ (P : List Pc) (i : Nat), x13 = .int .i64 i ∧ i ≤ t.ps.length ∧ P.length ≤ 4 * i ∧ BlI w P x5 wr ∧ belowP t.kind bt kb ko t.ps 0 = P ++ belowP t.kind bt kb ko (t.ps.drop i) i) (fun _ x _ => match x with | .int _ m => t.ps.length - m.toNat | _ => 0)
  case atStart => exact ⟨[], 0, rfl, Nat.zero_le _, Nat.zero_le _, ⟨⟨rfl, .inl ⟨rfl, rfl⟩⟩, Below.refl _ w⟩, rfl⟩
  case round =>
    obtain ⟨P, i, rfl, hil, hPl, hI, hP⟩ := hrel
    obtain ⟨S, cp, rfl⟩ := own_form hI.own
    by_cases hin : i < t.ps.length
    · obtain ⟨p, hp⟩ : ∃ p, t.ps[i]? = some p := ⟨_, List.getElem?_eq_getElem hin⟩
      have hd : t.ps.drop i = p :: t.ps.drop (i + 1) := by
        rw [List.drop_eq_getElem_cons hin]
        congr 1
        exact (Option.some.inj ((List.getElem?_eq_getElem hin).symm.trans hp))
      rw [hd, belowP] at hP
      obtain ⟨hsa, hnp⟩ := HKB.out i p hp
      subst hsa
      have HI := Lib.hid (And.intro hI (And.intro hP (And.intro hPl hnp)))
      have HKI := HK.out i p hp
      have HKI := Lib.hid HKI
      have HBR := Lib.hid (fun W => brk_any p.kind t.kind W)
      obtain ⟨x0, _, _, _, _, x5, _, _⟩ := HC.out wr hI.below
      obtain ⟨y0, _⟩ := HKI.out wr hI.below
      have hc : (i : Int) < (t.ps.length : Int) := by omega
      have hge : (0 : Int) ≤ i := by omega
      have hb1 : b < wr.heap.size := Nat.lt_of_lt_of_le hlt hI.below.size
      have hb2 : kb < wr.heap.size := Nat.lt_of_lt_of_le hnp.at.lt hI.below.size
      have hb3 : b ≠ wr.heap.size := by omega
      have hb4 : kb ≠ wr.heap.size := by omega
      clear hI hP hd hPl hnp
      by_cases e0 : i = 0
      · have g0 : ¬ (0 : Int) < i := by omega
        subst e0
        simp only [Nat.zero_mul, Nat.add_zero] at y0
        have HJ := Lib.hid (HI.out.1.hop ((Below.refl _ wr).alloc (Nat.le_refl _) (.cells #[.string { data := #[] }, .pointer (some ⟨kb, ko, none⟩)] 47)))
        have HL := Lib.hid (show P.length ≤ 1300000 by have := HI.out.2.2.1; omega)
        have HL2 := Lib.hid HI.out.2.2.1
        have HN := Lib.hid hin
        have HEQ := Lib.hid (show belowP t.kind bt kb ko t.ps 0 = P ++ (midP t.kind kb ko p ++ belowP t.kind bt kb ko (List.drop (0 + 1) t.ps) (0 + 1)) from HI.out.2.1)
        clear g0
        go_wp2_with fail
        go_region_with (go_at_call 47; refine (HBR.out _).mono ?_; rintro e wa ⟨rfl, rfl⟩)
        all_goals
          cases hbk : brkB p.kind t.kind with
          | true =>
            go_wp2_with ((at_builtin; refine wpList_append_lies _ (by rfl) _ _ 48 (by rfl) w.heap.size 47 i0 _ 2 24 Tryd.underlying48 hi hz0 hz1 hz2 rfl (by decide) _ P.length (pcs P) (by rfl) (HJ.out.hop (((Below.refl _ (wr.alloc (.cells #[.string { data := #[] }, .pointer (some ⟨kb, ko, none⟩)] 47))).alloc (Nat.le_refl _) _).drew)).own ⟨wr.heap.size + 1, 0, none⟩ 3 3 (pcs [.tx { data := #[40] }, .tr kb (ko) p, .tx { data := #[41] }]) (by rfl) ?c0 ?c1 ?c2 (by decide) ?c3 ?c4 ?c5 _ rfl ?_))
            case c0 => rfl
            case c1 =>
              have e := heap_alloc_new (wr.alloc (.cells #[.string { data := #[] }, .pointer (some ⟨kb, ko, none⟩)] 47)) (.cells #[.string { data := #[40] }, .pointer none, .string { data := #[] }, .pointer (some ⟨kb, ko, none⟩), .string { data := #[41] }, .pointer none] 47)
              (try rw [World.size_alloc] at e)
              first
              | exact World.news_of_block e
              | exact fun j u h => h
            case c2 => simp [pcs, Pc.cells, Value.oneCell']
            case c3 => have := HL.out; unfold maxLen; omega
            case c4 => have := HL.out; omega
            case c5 => have := HJ.out.below.size; simp at this ⊢; omega
            intro g5 cap5 w5 hown5 hgrow5 _ _
            have hpush5 := HJ.out.push (Q := [.tx { data := #[40] }, .tr kb (ko) p, .tx { data := #[41] }]) (((Below.refl _ (wr.alloc (.cells #[.string { data := #[] }, .pointer (some ⟨kb, ko, none⟩)] 47))).alloc (Nat.le_refl _) _).drew) hgrow5 hown5
            have H5 := Lib.hid hpush5
            have HMID := Lib.hid (show midP t.kind kb (ko) p = [.tx { data := #[40] }, .tr kb (ko) p, .tx { data := #[41] }] by unfold midP; rw [hbk]; rfl)
            clear hown5 hgrow5 hpush5 hbk
            go_wp2_with fail
            refine ⟨⟨P ++ [.tx { data := #[40] }, .tr kb (ko) p, .tx { data := #[41] }], 0 + 1, by simp, by have := HN.out; omega, ?_, H5.out, ?_⟩, ?_⟩
            · have := HL2.out
              simp
              omega
            · have h1 := HEQ.out
              rw [HMID.out] at h1
              rw [h1, List.append_assoc]
            · have := HN.out
              simp
              omega
          | false =>
            go_wp2_with ((at_builtin; refine wpList_append_lies _ (by rfl) _ _ 48 (by rfl) w.heap.size 47 i0 _ 2 24 Tryd.underlying48 hi hz0 hz1 hz2 rfl (by decide) _ P.length (pcs P) (by rfl) (HJ.out.hop (((Below.refl _ (wr.alloc (.cells #[.string { data := #[] }, .pointer (some ⟨kb, ko, none⟩)] 47))).alloc (Nat.le_refl _) _).drew)).own ⟨wr.heap.size + 1, 0, none⟩ 1 1 (pcs [.tr kb (ko) p]) (by rfl) ?c0 ?c1 ?c2 (by decide) ?c3 ?c4 ?c5 _ rfl ?_))
            case c0 => rfl
            case c1 =>
              have e := heap_alloc_new (wr.alloc (.cells #[.string { data := #[] }, .pointer (some ⟨kb, ko, none⟩)] 47)) (.cells #[.string { data := #[] }, .pointer (some ⟨kb, ko, none⟩)] 47)
              (try rw [World.size_alloc] at e)
              first
              | exact World.news_of_block e
              | exact fun j u h => h
            case c2 => simp [pcs, Pc.cells, Value.oneCell']
            case c3 => have := HL.out; unfold maxLen; omega
            case c4 => have := HL.out; omega
            case c5 => have := HJ.out.below.size; simp at this ⊢; omega
            intro g5 cap5 w5 hown5 hgrow5 _ _
            have hpush5 := HJ.out.push (Q := [.tr kb (ko) p]) (((Below.refl _ (wr.alloc (.cells #[.string { data := #[] }, .pointer (some ⟨kb, ko, none⟩)] 47))).alloc (Nat.le_refl _) _).drew) hgrow5 hown5
            have H5 := Lib.hid hpush5
            have HMID := Lib.hid (show midP t.kind kb (ko) p = [.tr kb (ko) p] by unfold midP; rw [hbk]; rfl)
            clear hown5 hgrow5 hpush5 hbk
            go_wp2_with fail
            refine ⟨⟨P ++ [.tr kb (ko) p], 0 + 1, by simp, by have := HN.out; omega, ?_, H5.out, ?_⟩, ?_⟩
            · have := HL2.out
              simp
              omega
            · have h1 := HEQ.out
              rw [HMID.out] at h1
              rw [h1, List.append_assoc]
            · have := HN.out
              simp
              omega
      · have g0 : (0 : Int) < i := by omega
        have HL0 := Lib.hid (show P.length ≤ 1200000 by have := HI.out.2.2.1; omega)
        have HJ0 := Lib.hid (HI.out.1.hop ((Below.refl _ wr).alloc (Nat.le_refl _) (.cells #[.string { data := #[] }, .pointer (some ⟨kb, ko + i * 8, none⟩)] 47)))
        have HN := Lib.hid hin
        go_wp2_with ((at_builtin; refine wpList_append_lies _ (by rfl) _ _ 48 (by rfl) w.heap.size 47 i0 _ 2 24 Tryd.underlying48 hi hz0 hz1 hz2 rfl (by decide) _ P.length (pcs P) (by rfl) (HJ0.out.hop (((Below.refl _ (wr.alloc (.cells #[.string { data := #[] }, .pointer (some ⟨kb, ko + i * 8, none⟩)] 47))).alloc (Nat.le_refl _) _))).own ⟨wr.heap.size + 1, 0, none⟩ 1 1 (pcs [.tx bt]) (by rfl) ?c0 ?c1 ?c2 (by decide) ?c3 ?c4 ?c5 _ rfl ?_))
        case c0 => rfl
        case c1 =>
          have e := heap_alloc_new (wr.alloc (.cells #[.string { data := #[] }, .pointer (some ⟨kb, ko + i * 8, none⟩)] 47)) (.cells #[.string bt, .pointer none] 47)
          (try rw [World.size_alloc] at e)
          first
          | exact World.news_of_block e
          | exact fun j u h => h
        case c2 => simp [pcs, Pc.cells, Value.oneCell']
        case c3 => have := HL0.out; unfold maxLen; omega
        case c4 => have := HL0.out; omega
        case c5 => have := HJ0.out.below.size; simp at this ⊢; omega
        intro g3 cap3 w3 hown3 hgrow3 _ _
        have hpush3 := HJ0.out.push (Q := [.tx bt]) (((Below.refl _ (wr.alloc (.cells #[.string { data := #[] }, .pointer (some ⟨kb, ko + i * 8, none⟩)] 47))).alloc (Nat.le_refl _) _)) hgrow3 hown3

        have hbox3 : w3.heap[wr.heap.size]? = some (.cells #[.string { data := #[] }, .pointer (some ⟨kb, ko + i * 8, none⟩)] 47) := HI.out.1.box rfl ((Below.heap_alloc _ _ _ (by simp)).trans (heap_alloc_new wr (.cells #[.string { data := #[] }, .pointer (some ⟨kb, ko + i * 8, none⟩)] 47))) hgrow3
        have HEQ := Lib.hid (show belowP t.kind bt kb ko t.ps 0 = (P ++ [.tx bt]) ++ (midP t.kind kb (ko + i * 8) p ++ belowP t.kind bt kb ko (List.drop (i + 1) t.ps) (i + 1)) by
          have h1 := HI.out.2.1
          unfold preP at h1
          rw [if_neg e0] at h1
          rw [h1, List.append_assoc])
        have hpl : P.length + 1 = (P ++ [Pc.tx bt]).length := by simp
        have HLL := Lib.hid HI.out.2.2.1
        clear hgrow3 hown3
        rw [hpl] at hpush3 ⊢
        have HL := Lib.hid (show (P ++ [Pc.tx bt]).length ≤ 1300000 by have := HL0.out; simp; omega)
        have HL2 := Lib.hid (show (P ++ [Pc.tx bt]).length ≤ 4 * i + 1 by have := HLL.out; simp; omega)
        clear hpl HI HJ0 HL0 HLL
        generalize P ++ [Pc.tx bt] = P2 at *
        have HJ := Lib.hid hpush3
        clear x0 x5 y0
        obtain ⟨x0, _, _, _, _, x5, _, _⟩ := HC.out w3 hpush3.below
        obtain ⟨y0, _⟩ := HKI.out w3 hpush3.below
        have z0 := (row_cells hbox3).1 0
        have z1 := (row_cells hbox3).1 1
        simp at z0 z1
        clear hpush3 hbox3 hb1 hb2 hb3 hb4
        go_wp2_with fail
        go_region_with (go_at_call 47; refine (HBR.out _).mono ?_; rintro e wa ⟨rfl, rfl⟩)
        all_goals
          cases hbk : brkB p.kind t.kind with
          | true =>
            go_wp2_with ((at_builtin; refine wpList_append_lies _ (by rfl) _ _ 48 (by rfl) w.heap.size 47 i0 _ 2 24 Tryd.underlying48 hi hz0 hz1 hz2 rfl (by decide) _ P2.length (pcs P2) (by rfl) (HJ.out.hop (((Below.refl _ w3).alloc (Nat.le_refl _) _).drew)).own ⟨w3.heap.size, 0, none⟩ 3 3 (pcs [.tx { data := #[40] }, .tr kb (ko + i * 8) p, .tx { data := #[41] }]) (by rfl) ?c0 ?c1 ?c2 (by decide) ?c3 ?c4 ?c5 _ rfl ?_))
            case c0 => rfl
            case c1 =>
              have e := heap_alloc_new w3 (.cells #[.string { data := #[40] }, .pointer none, .string { data := #[] }, .pointer (some ⟨kb, ko + i * 8, none⟩), .string { data := #[41] }, .pointer none] 47)
              (try rw [World.size_alloc] at e)
              first
              | exact World.news_of_block e
              | exact fun j u h => h
            case c2 => simp [pcs, Pc.cells, Value.oneCell']
            case c3 => have := HL.out; unfold maxLen; omega
            case c4 => have := HL.out; omega
            case c5 => have := HJ.out.below.size; simp at this ⊢; omega
            intro g5 cap5 w5 hown5 hgrow5 _ _
            have hpush5 := HJ.out.push (Q := [.tx { data := #[40] }, .tr kb (ko + i * 8) p, .tx { data := #[41] }]) (((Below.refl _ w3).alloc (Nat.le_refl _) _).drew) hgrow5 hown5
            have H5 := Lib.hid hpush5
            have HMID := Lib.hid (show midP t.kind kb (ko + i * 8) p = [.tx { data := #[40] }, .tr kb (ko + i * 8) p, .tx { data := #[41] }] by unfold midP; rw [hbk]; rfl)
            clear hown5 hgrow5 hpush5 hbk
            go_wp2_with fail
            refine ⟨⟨P2 ++ [.tx { data := #[40] }, .tr kb (ko + i * 8) p, .tx { data := #[41] }], i + 1, by simp, by have := HN.out; omega, ?_, H5.out, ?_⟩, ?_⟩
            · have := HL2.out
              simp
              omega
            · have h1 := HEQ.out
              rw [HMID.out] at h1
              rw [h1, List.append_assoc]
            · have := HN.out
              simp
              omega
          | false =>
            go_wp2_with ((at_builtin; refine wpList_append_lies _ (by rfl) _ _ 48 (by rfl) w.heap.size 47 i0 _ 2 24 Tryd.underlying48 hi hz0 hz1 hz2 rfl (by decide) _ P2.length (pcs P2) (by rfl) (HJ.out.hop (((Below.refl _ w3).alloc (Nat.le_refl _) _).drew)).own ⟨w3.heap.size, 0, none⟩ 1 1 (pcs [.tr kb (ko + i * 8) p]) (by rfl) ?c0 ?c1 ?c2 (by decide) ?c3 ?c4 ?c5 _ rfl ?_))
            case c0 => rfl
            case c1 =>
              have e := heap_alloc_new w3 (.cells #[.string { data := #[] }, .pointer (some ⟨kb, ko + i * 8, none⟩)] 47)
              (try rw [World.size_alloc] at e)
              first
              | exact World.news_of_block e
              | exact fun j u h => h
            case c2 => simp [pcs, Pc.cells, Value.oneCell']
            case c3 => have := HL.out; unfold maxLen; omega
            case c4 => have := HL.out; omega
            case c5 => have := HJ.out.below.size; simp at this ⊢; omega
            intro g5 cap5 w5 hown5 hgrow5 _ _
            have hpush5 := HJ.out.push (Q := [.tr kb (ko + i * 8) p]) (((Below.refl _ w3).alloc (Nat.le_refl _) _).drew) hgrow5 hown5
            have H5 := Lib.hid hpush5
            have HMID := Lib.hid (show midP t.kind kb (ko + i * 8) p = [.tr kb (ko + i * 8) p] by unfold midP; rw [hbk]; rfl)
            clear hown5 hgrow5 hpush5 hbk
            go_wp2_with fail
            refine ⟨⟨P2 ++ [.tr kb (ko + i * 8) p], i + 1, by simp, by have := HN.out; omega, ?_, H5.out, ?_⟩, ?_⟩
            · have := HL2.out
              simp
              omega
            · have h1 := HEQ.out
              rw [HMID.out] at h1
              rw [h1, List.append_assoc]
            · have := HN.out
              simp
              omega
    · have hc : ¬ (i : Int) < (t.ps.length : Int) := by omega
      have he : i = t.ps.length := by omega
      have HI := Lib.hid (And.intro hI hP)
      clear hI hP
      go_wp2_with fail
      go_ret
      refine ⟨kb, ko, fun j q hq => (HKB.out j q hq).2, _, rfl, ?_⟩
      have h2 := HI.out.2
      rw [he, List.drop_length, belowP, List.append_nil] at h2
      rw [h2]
      exact HI.out.1

end Go.Proofs.YtpibkalbnjgpaaaDoor

/- The pieces that the program takes a formed tree apart into: a contract.
   Conditions: the tree lies in memory, is formed, its classes are four words below 2^64; repeats are left to a premise. -/
namespace Go.Proofs.YtpibkalbnjgpaaaDoor
open Go.RowKit

theorem kind_erase (p : V) : (erase p).kind = p.kind := by cases p; rw [erase]; rfl
theorem rend_mid (k : Int) (b o : Nat) (p : V) : (midP k b o p).flatMap rend = brk (erase p).kind k (textT (erase p)) := by
  rw [kind_erase]
  unfold midP brkB brk
  by_cases h : p.kind = 3 ∨ (k ≠ 3 ∧ (p.kind = 0 ∨ p.kind = 2))
  · rw [if_pos h, if_pos (decide_eq_true h)]
    simp [rend]
    rfl
  · rw [if_neg h, if_neg (by simpa using h)]
    simp [rend]
theorem rend_below (k : Int) (bt : ByteArray) (b o : Nat) (hbt : txt bt = if k = 3 then [124] else []) : ∀ (ps : List V) (i : Nat), (belowP k bt b o ps i).flatMap rend = belowT k (decide (i = 0)) (erases ps)
  | [], i => by rw [belowP, erases, belowT]; rfl
  | p :: ps, i => by
    rw [belowP, List.flatMap_append, List.flatMap_append, rend_mid, rend_below k bt b o hbt ps (i + 1), erases, belowT]
    congr 1
    · unfold preP
      by_cases h : i = 0
      · simp [h]
      · rw [if_neg h]
        by_cases hk : k = 3
        · simp [h, hk, rend, hbt]
        · simp [h, hk, rend, hbt]
theorem wt_mid (k : Int) (b o : Nat) (p : V) : wtL (midP k b o p) ≤ wtT (erase p) + 2 := by
  unfold midP
  split
  · simp [wtL, wtP]; omega
  · simp [wtL, wtP]
theorem wt_below (k : Int) (bt : ByteArray) (b o : Nat) : ∀ (ps : List V) (i : Nat), wtL (belowP k bt b o ps i) ≤ wtsT (erases ps)
  | [], i => by rw [belowP, erases, wtsT]; exact Nat.le_refl _
  | p :: ps, i => by
    have h1 := wt_below k bt b o ps (i + 1)
    have h2 := wt_mid k b (o + i * 8) p
    have h3 : wtL (preP bt i) ≤ 1 := by unfold preP; split <;> simp [wtL, wtP]
    rw [belowP, wtL_append, wtL_append, erases, wtsT]
    omega
theorem mem_below (k : Int) (bt : ByteArray) (b o : Nat) (q : Pc) : ∀ (ps : List V) (i : Nat), q ∈ belowP k bt b o ps i → (∃ s, q = .tx s) ∨ ∃ j p, ps[j]? = some p ∧ q = .tr b (o + (i + j) * 8) p
  | [], i, h => by simp [belowP] at h
  | p :: ps, i, h => by
    rw [belowP, List.mem_append, List.mem_append] at h
    rcases h with h | h | h
    · unfold preP at h
      split at h
      · simp at h
      · simp at h; exact .inl ⟨_, h⟩
    · unfold midP at h
      split at h
      · simp at h
        rcases h with h | h | h
        · exact .inl ⟨_, h⟩
        · exact .inr ⟨0, p, rfl, h⟩
        · exact .inl ⟨_, h⟩
      · simp at h
        exact .inr ⟨0, p, rfl, h⟩
    · rcases mem_below k bt b o q ps (i + 1) h with h | ⟨j, p', hp, h⟩
      · exact .inl h
      · exact .inr ⟨j + 1, p', hp, by rw [h]; congr 2; omega⟩
theorem partsR_of {B : Nat} {S : T → Prop} {t : V} {w w' : World} {v : Value} {L : List Pc} (hI : BlI w L v w') (h2 : ∀ q ∈ L, okP B S w' q) (h3 : L.flatMap rend = textT (erase t)) (h4 : wtL L < wtT (erase t)) : PartsR B S t w (.returned v) w' := by
  obtain ⟨a, cap, rfl⟩ := own_form hI.own
  refine ⟨L, a, cap, rfl, fun hne => ?_, h2, h3, h4, hI.below⟩
  obtain ⟨g, cap', hv, hb, hlt⟩ := hI.own.form (List.length_pos_iff.2 hne)
  have ha : a = some ⟨g, 0, none⟩ := by injection hv
  refine ⟨g, ha, hb, hlt, fun j u hu => ?_⟩
  have := hI.own.cells (g := g) (by rw [hv]; rfl) j u hu
  have hadd : (⟨g, 0, none⟩ : Addr).add j = ⟨g, j, none⟩ := by unfold Addr.add; split <;> simp_all
  rw [hadd] at this
  exact this
theorem oksT_mem : ∀ (ps : List V) (i : Nat) (p : V), oksT (erases ps) = true → ps[i]? = some p → okT (erase p) = true
  | [], i, p, _, h => by simp at h
  | q :: ps, 0, p, hk, h => by
    rw [erases, oksT, Bool.and_eq_true] at hk
    simp at h
    subst h
    exact hk.1
  | q :: ps, i + 1, p, hk, h => by
    rw [erases, oksT, Bool.and_eq_true] at hk
    exact oksT_mem ps i p hk.2 (by simpa using h)
theorem wts_len : ∀ ps : List V, 6 * ps.length ≤ wtsT (erases ps)
  | [] => by simp
  | p :: ps => by
    have h1 := wts_len ps
    have h2 := wtT_pos (erase p)
    rw [erases, wtsT, List.length_cons]
    omega
/-- What each tree below keeps: S goes down to the parts, and tells that the class is one. -/
structure Down (S : T → Prop) : Prop where
  set : ∀ t : V, S (erase t) → Cl t.set
  part : ∀ (t p : V) (i : Nat), S (erase t) → t.ps[i]? = some p → S (erase p)
theorem okP_below {B : Nat} {S : T → Prop} {w w' : World} {t : V} {k : Int} {bt : ByteArray} {kb ko : Nat} (hd : Down S) (hS : S (erase t)) (hok : okT (erase t) = true) (hb : Below w.heap.size w w') (hk : ∀ (i : Nat) (p : V), t.ps[i]? = some p → NodeB B w kb (ko + i * 8) p) : ∀ q ∈ belowP k bt kb ko t.ps 0, okP B S w' q := by
  intro q hq
  rcases mem_below k bt kb ko q t.ps 0 hq with ⟨s, rfl⟩ | ⟨j, p, hp, rfl⟩
  · trivial
  · rw [okT_eq, Bool.and_eq_true] at hok
    rw [Nat.zero_add]
    exact ⟨(hk j p hp).chg (Chg.of_below hb), oksT_mem t.ps j p hok.2 hp, hd.part t p j hS hp⟩

set_option maxHeartbeats 4000000 in
set_option maxRecDepth 100000 in
theorem parts_but4 (S : T → Prop) (hd : Down S) (B b o : Nat) (t : V) (w : World) (h : NodeB B w b o t) (hok : okT (erase t) = true) (hS : S (erase t)) (hw : wtT (erase t) ≤ 1000000) (h4 : t.kind = 4 → Calls Tryd.prog 21 #[.pointer (some ⟨b, o, none⟩)] w (PartsR B S t w)) :
    Calls Tryd.prog 21 #[.pointer (some ⟨b, o, none⟩)] w (PartsR B S t w) := by
  have hwt : wtT (erase t) = wtsT (erases t.ps) + 3 := by
    obtain ⟨k, C, lo, hi, v, ps⟩ := t
    rw [erase, wtT]
    rfl
  have htx : textT (erase t) = if t.kind = 1 then setT t.set else belowT t.kind true (erases t.ps) ++ (if t.kind = 4 then timesT t.lo t.hi else []) := by
    obtain ⟨k, C, lo, hi, v, ps⟩ := t
    rw [erase, textT]
    rfl
  have hoA : okA t.kind (z4 t.set) t.lo t.hi t.ps.length = true := by
    have h1 := hok
    rw [okT_eq, Bool.and_eq_true] at h1
    exact h1.1
  have hlen : t.ps.length ≤ 300000 := by
    have := wts_len t.ps
    omega
  have hlt := h.at.lt
  have HC := Lib.hid (fun W (hW : Below w.heap.size w W) => node_cells h.2.1 hlt hW)
  have HBL := Lib.hid (fun bt => below_list B b o t w bt h hlen)
  have HOK := Lib.hid (And.intro hS hok)
  have HT := Lib.hid (And.intro htx hwt)
  have HST := Lib.hid (setText_any t.set · (hd.set t hS))
  have HD := Lib.hid hd
  obtain ⟨x0, x1, x2, x3, x4, x5, x6, x7⟩ := HC.out w (Below.refl _ w)
  unfold okA at hoA
  have hoB := of_decide_eq_true hoA
  clear hoA htx hwt hok hS hd
  rcases hoB with ⟨hk, _, hlo, hhi, hn⟩ | ⟨hk, hlo, hhi, hn⟩ | ⟨hk, _, hlo, hhi, hn⟩ | ⟨hk, _, hn, hb⟩
  · rw [hk] at x0 HT
    clear HBL HST
    have HN := Lib.hid hn
    clear hn hlo hhi hk
    go_enter Tryd.func21, Tryd.ntmps21
    go_wp2_with fail
    go_ret
    refine partsR_of (L := []) ⟨⟨rfl, .inl ⟨rfl, rfl⟩⟩, Below.refl _ w⟩ (by simp) ?_ (by rw [HT.out.2]; simp [wtL])
    rw [HT.out.1, List.eq_nil_of_length_eq_zero HN.out]
    rfl
  · rw [hk] at x0 HT
    clear HBL hn hlo hhi hk
    go_enter Tryd.func21, Tryd.ntmps21
    go_wp2_with fail
    go_at_call 33
    refine (HST.out _).mono ?_
    rintro e w1 ⟨s, hst, rfl, hb1⟩
    have HB := Lib.hid (And.intro hst hb1)
    clear hst hb1 x0 x1 x2 x3 x4 x5 x6 x7
    go_wp2_with fail
    go_ret
    refine ⟨[.tx s], some ⟨w1.heap.size, 0, none⟩, 1, rfl, fun _ => ⟨w1.heap.size, rfl, HB.out.2.size, by simp, fun j u hu => ?_⟩, fun q hq => ?_, ?_, ?_, HB.out.2.alloc HB.out.2.size _⟩
    · rw [(row_cells (heap_alloc_new w1 (.cells #[.string s, .pointer none] 47))).1 j, List.getElem?_toArray]
      exact hu
    · simp at hq
      subst hq
      trivial
    · rw [HT.out.1, ← HB.out.1]
      simp [rend]
    · have := HT.out.2
      simp [wtL, wtP]
      omega
  · clear HST hn hlo hhi x1 x2 x3 x4 x5 x6 x7
    rcases hk with hk | hk
    · rw [hk] at x0 HT HBL
      clear hk
      go_enter Tryd.func21, Tryd.ntmps21
      go_wp2_with fail
      go_at_call 34
      refine (HBL.out _).mono ?_
      rintro e w1 ⟨kb, ko, hkk, v, rfl, hI⟩
      have H1 := Lib.hid (And.intro hkk hI)
      clear hkk hI x0
      go_wp2_with fail
      go_ret
      refine partsR_of H1.out.2 (okP_below HD.out HOK.out.1 HOK.out.2 H1.out.2.below H1.out.1) ?_ ?_
      · rw [HT.out.1, rend_below _ _ _ _ (by rfl), if_neg (by decide), if_neg (by decide)]
        simp
      · have := wt_below 2 { data := #[] } kb ko t.ps 0
        rw [HT.out.2]
        omega
    · rw [hk] at x0 HT HBL
      clear hk
      go_enter Tryd.func21, Tryd.ntmps21
      go_wp2_with fail
      go_at_call 34
      refine (HBL.out _).mono ?_
      rintro e w1 ⟨kb, ko, hkk, v, rfl, hI⟩
      have H1 := Lib.hid (And.intro hkk hI)
      clear hkk hI x0
      go_wp2_with fail
      go_ret
      refine partsR_of H1.out.2 (okP_below HD.out HOK.out.1 HOK.out.2 H1.out.2.below H1.out.1) ?_ ?_
      · rw [HT.out.1, rend_below _ _ _ _ (by rfl), if_neg (by decide), if_neg (by decide)]
        simp
      · have := wt_below 3 { data := #[124] } kb ko t.ps 0
        rw [HT.out.2]
        omega
  · exact h4 hk

end Go.Proofs.YtpibkalbnjgpaaaDoor

/- The pieces that the program takes a tree that is repeated apart into; those of every formed tree: contracts.
   Conditions: the tree lies in memory, is formed, its classes are four words below 2^64; numbers are written in base ten ('Fmt'). -/
namespace Go.Proofs.YtpibkalbnjgpaaaDoor
open Go.RowKit

theorem BlI.low {w W a : World} {P : List Pc} {v : Value} (h : BlI W P v a) (hb : Below w.heap.size w W) : BlI w P v a := by
  refine ⟨⟨h.own.1, ?_⟩, below_hop hb h.below⟩
  rcases h.own.2 with h1 | ⟨g, cap, cur, e1, h1, h2, rest⟩
  · exact .inl h1
  · exact .inr ⟨g, cap, cur, e1, Nat.le_trans hb.size h1, h2, rest⟩
/-- The same, the row's length by a letter. -/
structure BlN (W : World) (P : List Pc) (n : Nat) (v : Value) (a : World) : Prop where
  base : BlI W P v a
  len : n = P.length
theorem BlN.hop {W a b : World} {P : List Pc} {n : Nat} {v : Value} (h : BlN W P n v a) (hb : Below a.heap.size a b) : BlN W P n v b := ⟨h.base.hop hb, h.len⟩
theorem BlN.own {W a : World} {P : List Pc} {n : Nat} {v : Value} (h : BlN W P n v a) : a.ownsRow W.heap.size 47 2 v n (pcs P) := by
  rw [h.len]; exact h.base.own
theorem BlN.box {W a : World} {P : List Pc} {n : Nat} {v : Value} (h : BlN W P n v a) (s : ByteArray) : BlN W P n v (a.alloc (.cells #[.string s, .pointer none] 47)) := h.hop ((Below.refl _ a).alloc (Nat.le_refl _) _)
theorem BlN.push {W a aw b : World} {P : List Pc} {n : Nat} {v v' : Value} {s : ByteArray} (h : BlN W P n v a) (hb : Below a.heap.size a aw) (hg : aw.grownBy b v.ownBlock)
    (ho : b.ownsRow W.heap.size 47 2 v' (n + 1) (pcs P ++ pcs [.tx s])) : BlI W (P ++ [.tx s]) v' b :=
  h.base.push (Q := [.tx s]) hb hg (by rw [← h.len]; exact ho)
/-- What the call for the pieces below comes to, wherever the memory has come to. -/
def BelowR (B : Nat) (t : V) (bt : ByteArray) (W : World) (e : Ending) (w' : World) : Prop :=
  ∃ L kb ko S n cp, L = belowP t.kind bt kb ko t.ps 0 ∧ (∀ (i : Nat) (p : V), t.ps[i]? = some p → NodeB B W kb (ko + i * 8) p) ∧ e = .returned (.slice S n cp) ∧ BlN W L n (.slice S n cp) w'
theorem below_r (B b o : Nat) (t : V) (w : World) (bt : ByteArray) (h : NodeB B w b o t) (hz : t.ps.length ≤ 300000) (W : World) (hW : Below w.heap.size w W) : Calls Tryd.prog 34 #[.pointer (some ⟨b, o, none⟩), .string bt] W (BelowR B t bt W) := by
  refine (below_list B b o t W bt (h.chg (Chg.of_below hW)) hz).mono ?_
  rintro e w' ⟨kb, ko, hk, v, rfl, hI⟩
  obtain ⟨S, cp, rfl⟩ := own_form hI.own
  exact ⟨_, kb, ko, S, _, cp, rfl, hk, rfl, hI, rfl⟩
theorem tx_news (w : World) (s : ByteArray) : ∀ j u, (pcs [.tx s])[j]? = some u → (w.alloc (.cells #[.string s, .pointer none] 47)).cell? ((⟨w.heap.size, 0, none⟩ : Addr).add j) = some u :=
  World.news_of_block (heap_alloc_new w (.cells #[.string s, .pointer none] 47))
theorem rep_end {S : T → Prop} (hd : Down S) {B : Nat} {t : V} {w W w2 : World} {v : Value} {L : List Pc} {kb ko : Nat} {s : ByteArray} (hS : S (erase t)) (hok : okT (erase t) = true) (hk : t.kind = 4)
    (hL : L = belowP t.kind { data := #[] } kb ko t.ps 0) (hkk : ∀ (i : Nat) (p : V), t.ps[i]? = some p → NodeB B W kb (ko + i * 8) p) (hW : Below w.heap.size w W) (hI : BlI W (L ++ [.tx s]) v w2) (hs : txt s = timesT t.lo t.hi) : PartsR B S t w (.returned v) w2 := by
  have hwt : wtT (erase t) = wtsT (erases t.ps) + 3 := by
    obtain ⟨k, C, lo, hi, v, ps⟩ := t
    rw [erase, wtT]
    rfl
  have htx : textT (erase t) = belowT 4 true (erases t.ps) ++ timesT t.lo t.hi := by
    obtain ⟨k, C, lo, hi, v, ps⟩ := t
    obtain rfl : k = 4 := hk
    rw [erase, textT]
    rfl
  refine partsR_of (hI.low hW) (fun q hq => ?_) ?_ ?_
  · rcases List.mem_append.1 hq with hq | hq
    · rw [hL] at hq
      exact okP_below hd hS hok hI.below hkk q hq
    · simp at hq
      subst hq
      trivial
  · rw [htx, List.flatMap_append, hL, rend_below _ _ _ _ (by rw [hk]; rfl), hk]
    simp [rend, hs]
  · have := wt_below t.kind { data := #[] } kb ko t.ps 0
    rw [wtL_append, wtL_one, hwt, hL]
    show _ + 1 < _
    omega

set_option maxHeartbeats 8000000 in
set_option maxRecDepth 100000 in
theorem parts_rep (S : T → Prop) (hd : Down S) (B b o : Nat) (t : V) (w : World) (h : NodeB B w b o t) (hok : okT (erase t) = true) (hS : S (erase t)) (hk : t.kind = 4) (HF : Fmt w) :
    Calls Tryd.prog 21 #[.pointer (some ⟨b, o, none⟩)] w (PartsR B S t w) := by
  obtain ⟨i0, hi, hz0, hz1, hz2⟩ := info_parts infoPart
  have hoA : okA t.kind (z4 t.set) t.lo t.hi t.ps.length = true := by
    have h1 := hok
    rw [okT_eq, Bool.and_eq_true] at h1
    exact h1.1
  have hb : 0 ≤ t.lo ∧ t.lo < 9223372036854775808 ∧ (t.hi = -1 ∨ 0 ≤ t.hi) ∧ t.hi < 9223372036854775808 ∧ t.ps.length = 1 := by
    unfold okA at hoA
    rcases of_decide_eq_true hoA with ⟨h1, _⟩ | ⟨h1, _⟩ | ⟨h1, _⟩ | ⟨_, _, h1, h2⟩
    · omega
    · omega
    · omega
    · unfold bnd at h2
      have := of_decide_eq_true h2
      omega
  have hlt := h.at.lt
  have HC := Lib.hid (fun W (hW : Below w.heap.size w W) => node_cells h.2.1 hlt hW)
  have HBL := Lib.hid (fun W (hW : Below w.heap.size w W) => below_r B b o t w { data := #[] } h (by omega) W hW)
  have HTM := Lib.hid (fun W (hW : Below w.heap.size w W) => timesText_any t.lo t.hi W hb.1 hb.2.1 hb.2.2.1 hb.2.2.2.1 (fun n W' hn hb' => HF n W' hn (below_hop hW hb')))
  have HLN := Lib.hid (fun kb ko => show (belowP t.kind { data := #[] } kb ko t.ps 0).length ≤ 4 by have := belowP_len t.kind { data := #[] } kb ko t.ps 0; omega)
  have HEND := Lib.hid (fun (W w2 : World) (v : Value) (L : List Pc) (kb ko : Nat) (s : ByteArray) => rep_end hd (B := B) (w := w) (W := W) (w2 := w2) (v := v) (L := L) (kb := kb) (ko := ko) (s := s) hS hok hk)
  obtain ⟨x0, x1, x2, x3, x4, x5, x6, x7⟩ := HC.out w (Below.refl _ w)
  rw [hk] at x0
  clear hoA hok hS hd hb HF hk x1 x2 x3 x4 x5
  go_enter Tryd.func21, Tryd.ntmps21
  go_wp2_with fail
  clear x0
  go_region_law (first
    | (refine step_append_lies _ rfl _ _ 48 rfl _ 47 i0 _ 2 24 Tryd.underlying48 hi hz0 hz1 hz2 rfl (by decide) (.slice sl n cp) n (pcs L) rfl ((HI.out.2.2.hop HB.out).box s).own ⟨wb.heap.size, 0, none⟩ 1 1 (pcs [.tx s]) rfl rfl (tx_news wb s) (by simp [pcs, Pc.cells, Value.oneCell']) (by decide) (by have := HNL.out; unfold maxLen; omega) (by have := HNL.out; omega) (((HI.out.2.2.hop HB.out).box s).base.below.size) _ rfl ?_; intro g cap w2 hown2 hgrow hg hlt2; have HO := Lib.hid (HEND.out _ _ _ _ _ _ _ HI.out.1 HI.out.2.1 (Below.refl _ w).drew ((HI.out.2.2.hop HB.out).push ((Below.refl _ wb).alloc (Nat.le_refl _) _) hgrow hown2) HTB.out.1); clear hown2 hgrow hg hlt2)
    | (go_simp; refine (HBL.out _ (Below.refl _ w).drew).mono ?_; rintro e wa ⟨L, kb, ko, sl, n, cp, hL, hkk, rfl, hI⟩; have HNL := Lib.hid (show n ≤ 4 by rw [hI.len, hL]; exact HLN.out kb ko); have hbw : Below w.heap.size w wa := below_hop (Below.refl _ w).drew hI.base.below; have y6 := (HC.out wa hbw).2.2.2.2.2.2.1; have y7 := (HC.out wa hbw).2.2.2.2.2.2.2; have y0 := Nat.lt_of_lt_of_le hlt hbw.size; have HWA := Lib.hid hbw; have HI := Lib.hid (And.intro hL (And.intro hkk hI)); clear hL hkk hI hbw)
    | (go_simp; refine (HTM.out _ HWA.out).mono ?_; rintro e wb ⟨s, hs, rfl, hb⟩; have hbw : Below w.heap.size w wb := below_hop HWA.out hb; have HTB := Lib.hid (And.intro hs hbw); have HB := Lib.hid hb; clear hs hb hbw))
  all_goals
    go_wp2_with fail
    go_ret
    exact HO.out

/-- The pieces of every formed tree whose classes are such. -/
theorem parts_any (S : T → Prop) (hd : Down S) (B b o : Nat) (t : V) (w : World) (h : NodeB B w b o t) (hok : okT (erase t) = true) (hS : S (erase t)) (hw : wtT (erase t) ≤ 1000000) (HF : Fmt w) :
    Calls Tryd.prog 21 #[.pointer (some ⟨b, o, none⟩)] w (PartsR B S t w) :=
  parts_but4 S hd B b o t w h hok hS hw fun hk => parts_rep S hd B b o t w h hok hS hk HF

end Go.Proofs.YtpibkalbnjgpaaaDoor
