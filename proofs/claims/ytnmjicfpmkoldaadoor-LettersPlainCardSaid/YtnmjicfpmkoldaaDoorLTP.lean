/- Of every input the statement LettersPlain returns true, and it reads afterwards as before; the card: what its row lists is tied to the program's text.
   No condition. -/
import Derived.Test.YtnmjicfpmkoldaaDoorOrder
import Derived.Test.YtnmjicfpmkoldaaDoorRows
import Derived.WalkKit
import Derived.KernelRfl
import Derived.Test.YtnmjicfpmkoldaaDoorMBase
import Derived.Test.YtnmjicfpmkoldaaDoorLCX
import Derived.Test.YtnmjicfpmkoldaaDoorLT
import Derived.Deep.AppendLies
import Derived.Test.YtnmjicfpmkoldaaDoorPG
import Derived.Great.BuildSlice
import Derived.Great.FillDense
import Derived.Test.YtnmjicfpmkoldaaDoorPZ
import Derived.Test.YtnmjicfpmkoldaaDoorN1
import Derived.Test.YtnmjicfpmkoldaaDoorMSame
import Derived.Deep.WholeRow
import Derived.Deep.Slices
import Derived.Laws.IdiomArrays
import Derived.OpenShut
import Derived.Test.YtnmjicfpmkoldaaDoorPM
import Derived.Test.YtnmjicfpmkoldaaDoorMRef
import Derived.Test.YtnmjicfpmkoldaaDoorCards
import Derived.Test.YtnmjicfpmkoldaaDoorTie
import Derived.ProofKit
import Derived.LaidMore
import Derived.ChangeOld
import Derived.Below
import Derived.SevenTiedAt
namespace Go.Proofs.YtnmjicfpmkoldaaDoor.Lc
open Go.RowKit
abbrev opsregTg4 : Array Oper := #[{ dst := some 14, op := Op.move (Operand.tmp 0), type := 29, pos := "ref.go:42", after := #[], guard := none },
  { dst := some 15, op := Op.move (Operand.tmp 7), type := 3, pos := "ref.go:42", after := #[], guard := none },
  { dst := some 16, op := Op.indexAddr 29 (Operand.tmp 14) (Operand.tmp 15), type := 0, pos := "ref.go:42", after := #[{ on := 0, ground := Ground.data }, { on := 1, ground := Ground.data }], guard := none },
  { dst := some 17, op := Op.load 24 (Operand.tmp 16), type := 24, pos := "ref.go:42", after := #[{ on := 2, ground := Ground.data }], guard := none },
  { dst := some 18, op := Op.move (Operand.tmp 1), type := 3, pos := "ref.go:42", after := #[], guard := none },
  { dst := some 19, op := Op.call { callee := Callee.value (Operand.func 11), args := #[Operand.tmp 17, Operand.tmp 18], argTypes := #[24, 3] }, type := 4, pos := "ref.go:42", after := #[{ on := 3, ground := Ground.data }, { on := 4, ground := Ground.data }], guard := none },
  { dst := some 20, op := Op.move (Operand.tmp 0), type := 29, pos := "ref.go:42", after := #[], guard := none },
  { dst := some 21, op := Op.move (Operand.tmp 7), type := 3, pos := "ref.go:42", after := #[], guard := none },
  { dst := some 22, op := Op.indexAddr 29 (Operand.tmp 20) (Operand.tmp 21), type := 0, pos := "ref.go:42", after := #[{ on := 6, ground := Ground.data }, { on := 7, ground := Ground.data }], guard := none },
  { dst := some 23, op := Op.load 24 (Operand.tmp 22), type := 24, pos := "ref.go:42", after := #[{ on := 8, ground := Ground.data }], guard := none },
  { dst := some 24, op := Op.move (Operand.tmp 2), type := 3, pos := "ref.go:42", after := #[], guard := none },
  { dst := some 25, op := Op.call { callee := Callee.value (Operand.func 11), args := #[Operand.tmp 23, Operand.tmp 24], argTypes := #[24, 3] }, type := 4, pos := "ref.go:42", after := #[{ on := 9, ground := Ground.data }, { on := 10, ground := Ground.data }, { on := 5, ground := Ground.chain }], guard := none },
  { dst := some 26, op := Op.binOp BinOp.neq 4 (Operand.tmp 19) (Operand.tmp 25) 4, type := 4, pos := "ref.go:42", after := #[{ on := 5, ground := Ground.data }, { on := 11, ground := Ground.data }], guard := none }]
def WregTg4 (C : Nat → Nat) (b off n cap pp qq k : Nat) (e1 e2 : Bool) (D : List Deferred) (v3 v4 v5 v6 v8 v9 v10 v11 v12 v13 : Value) (w0 : World) (l : Nat → Bool) (a : Act) (w : World) : Prop :=
  ∃ (y0 y1 y2 y3 y4 y5 y6 y7 y8 y9 y10 y11 y12 : Value), a = { tmps := #[.slice (some ⟨b, off, none⟩) n cap, .int .i64 pp, .int .i64 qq, v3, v4, v5, v6, .int .i64 k, v8, v9, v10, v11, v12, v13, y0, y1, y2, y3, y4, y5, y6, y7, y8, y9, y10, y11, y12], defers := D } ∧ Below w0.heap.size w0 w ∧
    (l 0 = true → y0 = .slice (some ⟨b, off, none⟩) n cap) ∧ (l 1 = true → y1 = .int .i64 k) ∧ (l 2 = true → y2 = .pointer (some ⟨b, off + k * 4, none⟩)) ∧ (l 3 = true → y3 = .agg #[.int .u64 (C 0 : Nat), .int .u64 (C 1 : Nat), .int .u64 (C 2 : Nat), .int .u64 (C 3 : Nat)]) ∧ (l 4 = true → y4 = .int .i64 pp) ∧ (l 5 = true → y5 = .bool e1) ∧ (l 6 = true → y6 = .slice (some ⟨b, off, none⟩) n cap) ∧ (l 7 = true → y7 = .int .i64 k) ∧ (l 8 = true → y8 = .pointer (some ⟨b, off + k * 4, none⟩)) ∧ (l 9 = true → y9 = .agg #[.int .u64 (C 0 : Nat), .int .u64 (C 1 : Nat), .int .u64 (C 2 : Nat), .int .u64 (C 3 : Nat)]) ∧ (l 10 = true → y10 = .int .i64 qq) ∧ (l 11 = true → y11 = .bool e2) ∧ (l 12 = true → y12 = .bool (e1 != e2))
set_option maxHeartbeats 8000000 in
set_option maxRecDepth 100000 in
theorem regTg4 (C : Nat → Nat) (b off n cap pp qq k : Nat) (e1 e2 : Bool) (D : List Deferred) (v3 v4 v5 v6 v8 v9 v10 v11 v12 v13 wy0 wy1 wy2 wy3 wy4 wy5 wy6 wy7 wy8 wy9 wy10 wy11 wy12 : Value) (w : World) (hx : ∀ w', Below w.heap.size w w' → w'.cell? ⟨b, off + k * 4, none⟩ = some (.int .u64 (C 0 : Nat)) ∧ w'.cell? ⟨b, off + k * 4 + 1, none⟩ = some (.int .u64 (C 1 : Nat)) ∧ w'.cell? ⟨b, off + k * 4 + 2, none⟩ = some (.int .u64 (C 2 : Nat)) ∧ w'.cell? ⟨b, off + k * 4 + 3, none⟩ = some (.int .u64 (C 3 : Nat))) (s1 : (0 : Int) ≤ (k : Int)) (s2 : (k : Int) < (n : Int)) (s3 : ((k : Int)).toNat = k) (hc1 : (∀ w', Below w.heap.size w w' → Calls Tryd.prog 11 #[.agg #[.int .u64 (C 0 : Nat), .int .u64 (C 1 : Nat), .int .u64 (C 2 : Nat), .int .u64 (C 3 : Nat)], .int .i64 pp] w' fun e w2 => e = .returned (.bool e1) ∧ Below w'.heap.size w' w2)) (hc2 : (∀ w', Below w.heap.size w w' → Calls Tryd.prog 11 #[.agg #[.int .u64 (C 0 : Nat), .int .u64 (C 1 : Nat), .int .u64 (C 2 : Nat), .int .u64 (C 3 : Nat)], .int .i64 qq] w' fun e w2 => e = .returned (.bool e2) ∧ Below w'.heap.size w' w2)) (Q : Exit → Act → World → Prop)
    (hQ : ∀ (y0 y1 y2 y3 y4 y5 y6 y7 y8 y9 y10 y11 : Value) (w' : World), Below w.heap.size w w' → Q .normal { tmps := #[.slice (some ⟨b, off, none⟩) n cap, .int .i64 pp, .int .i64 qq, v3, v4, v5, v6, .int .i64 k, v8, v9, v10, v11, v12, v13, y0, y1, y2, y3, y4, y5, y6, y7, y8, y9, y10, y11, .bool (e1 != e2)], defers := D } w') :
    (Code.region 4 opsregTg4 true).wp Tryd.prog Q { tmps := #[.slice (some ⟨b, off, none⟩) n cap, .int .i64 pp, .int .i64 qq, v3, v4, v5, v6, .int .i64 k, v8, v9, v10, v11, v12, v13, wy0, wy1, wy2, wy3, wy4, wy5, wy6, wy7, wy8, wy9, wy10, wy11, wy12], defers := D } w := by
  refine wp_region_inv (by kernel_rfl) (WregTg4 C b off n cap pp qq k e1 e2 D v3 v4 v5 v6 v8 v9 v10 v11 v12 v13 w) ?hacy ?h0 ?hstep ?hdone
  case hacy => kernel_rfl
  case h0 => exact ⟨wy0, wy1, wy2, wy3, wy4, wy5, wy6, wy7, wy8, wy9, wy10, wy11, wy12, rfl, below_drewN (Below.refl _ _) 1, (fun p => by cases p), (fun p => by cases p), (fun p => by cases p), (fun p => by cases p), (fun p => by cases p), (fun p => by cases p), (fun p => by cases p), (fun p => by cases p), (fun p => by cases p), (fun p => by cases p), (fun p => by cases p), (fun p => by cases p), (fun p => by cases p)⟩
  case hdone =>
    intro l a w1 hI hall
    obtain ⟨y0, y1, y2, y3, y4, y5, y6, y7, y8, y9, y10, y11, y12, rfl, hb, h0, h1, h2, h3, h4, h5, h6, h7, h8, h9, h10, h11, h12⟩ := hI
    obtain rfl := h12 (hall 12 (by decide))
    exact hQ _ _ _ _ _ _ _ _ _ _ _ _ _ hb 
  case hstep =>
    intro l a w1 i o hI ho hl hall
    obtain ⟨y0, y1, y2, y3, y4, y5, y6, y7, y8, y9, y10, y11, y12, rfl, hb, h0, h1, h2, h3, h4, h5, h6, h7, h8, h9, h10, h11, h12⟩ := hI
    have hi : i < 13 := (Array.getElem?_eq_some_iff.1 ho).1
    match i, hi with
    | 0, _ =>
      have ho' := ho
      simp [opsregTg4] at ho
      subst ho
      refine wpOp_one ho' rfl fun K hK => ?_
      go_simp
      exact hK _ _ ⟨_, y1, y2, y3, y4, y5, y6, y7, y8, y9, y10, y11, y12, rfl, hb, fun _ => (by first | rfl | simp), h1, h2, h3, h4, h5, h6, h7, h8, h9, h10, h11, h12⟩
    | 1, _ =>
      have ho' := ho
      simp [opsregTg4] at ho
      subst ho
      refine wpOp_one ho' rfl fun K hK => ?_
      go_simp
      exact hK _ _ ⟨y0, _, y2, y3, y4, y5, y6, y7, y8, y9, y10, y11, y12, rfl, hb, h0, fun _ => (by first | rfl | simp), h2, h3, h4, h5, h6, h7, h8, h9, h10, h11, h12⟩
    | 2, _ =>
      have ho' := ho
      simp [opsregTg4] at ho
      subst ho
      obtain rfl := h0 (hall ⟨0, .data⟩ (by simp) rfl)
      obtain rfl := h1 (hall ⟨1, .data⟩ (by simp) rfl)
      refine wpOp_one ho' rfl fun K hK => ?_
      go_simp
      exact hK _ _ ⟨_, _, _, y3, y4, y5, y6, y7, y8, y9, y10, y11, y12, rfl, hb, fun _ => rfl, fun _ => rfl, fun _ => (by first | rfl | simp), h3, h4, h5, h6, h7, h8, h9, h10, h11, h12⟩
    | 3, _ =>
      have ho' := ho
      simp [opsregTg4] at ho
      subst ho
      obtain rfl := h2 (hall ⟨2, .data⟩ (by simp) rfl)
      refine wpOp_one ho' rfl fun K hK => ?_
      obtain ⟨q0, q1, q2, q3⟩ := hx w1 hb
      go_simp
      exact hK _ _ ⟨y0, y1, _, _, y4, y5, y6, y7, y8, y9, y10, y11, y12, rfl, hb, h0, h1, fun _ => rfl, fun _ => (by first | rfl | simp), h4, h5, h6, h7, h8, h9, h10, h11, h12⟩
    | 4, _ =>
      have ho' := ho
      simp [opsregTg4] at ho
      subst ho
      refine wpOp_one ho' rfl fun K hK => ?_
      go_simp
      exact hK _ _ ⟨y0, y1, y2, y3, _, y5, y6, y7, y8, y9, y10, y11, y12, rfl, hb, h0, h1, h2, h3, fun _ => (by first | rfl | simp), h5, h6, h7, h8, h9, h10, h11, h12⟩
    | 5, _ =>
      have ho' := ho
      simp [opsregTg4] at ho
      subst ho
      obtain rfl := h3 (hall ⟨3, .data⟩ (by simp) rfl)
      obtain rfl := h4 (hall ⟨4, .data⟩ (by simp) rfl)
      refine wpOp_one ho' rfl fun K hK => ?_
      go_simp
      go_at_call 11
      refine (hc1 _ hb).mono ?_
      rintro e w2 ⟨rfl, hb2⟩
      exact hK _ _ ⟨y0, y1, y2, _, _, _, y6, y7, y8, y9, y10, y11, y12, rfl, (hb.trans (hb2.mono hb.size)), h0, h1, h2, fun _ => rfl, fun _ => rfl, fun _ => (by first | rfl | simp), h6, h7, h8, h9, h10, h11, h12⟩
    | 6, _ =>
      have ho' := ho
      simp [opsregTg4] at ho
      subst ho
      refine wpOp_one ho' rfl fun K hK => ?_
      go_simp
      exact hK _ _ ⟨y0, y1, y2, y3, y4, y5, _, y7, y8, y9, y10, y11, y12, rfl, hb, h0, h1, h2, h3, h4, h5, fun _ => (by first | rfl | simp), h7, h8, h9, h10, h11, h12⟩
    | 7, _ =>
      have ho' := ho
      simp [opsregTg4] at ho
      subst ho
      refine wpOp_one ho' rfl fun K hK => ?_
      go_simp
      exact hK _ _ ⟨y0, y1, y2, y3, y4, y5, y6, _, y8, y9, y10, y11, y12, rfl, hb, h0, h1, h2, h3, h4, h5, h6, fun _ => (by first | rfl | simp), h8, h9, h10, h11, h12⟩
    | 8, _ =>
      have ho' := ho
      simp [opsregTg4] at ho
      subst ho
      obtain rfl := h6 (hall ⟨6, .data⟩ (by simp) rfl)
      obtain rfl := h7 (hall ⟨7, .data⟩ (by simp) rfl)
      refine wpOp_one ho' rfl fun K hK => ?_
      go_simp
      exact hK _ _ ⟨y0, y1, y2, y3, y4, y5, _, _, _, y9, y10, y11, y12, rfl, hb, h0, h1, h2, h3, h4, h5, fun _ => rfl, fun _ => rfl, fun _ => (by first | rfl | simp), h9, h10, h11, h12⟩
    | 9, _ =>
      have ho' := ho
      simp [opsregTg4] at ho
      subst ho
      obtain rfl := h8 (hall ⟨8, .data⟩ (by simp) rfl)
      refine wpOp_one ho' rfl fun K hK => ?_
      obtain ⟨q0, q1, q2, q3⟩ := hx w1 hb
      go_simp
      exact hK _ _ ⟨y0, y1, y2, y3, y4, y5, y6, y7, _, _, y10, y11, y12, rfl, hb, h0, h1, h2, h3, h4, h5, h6, h7, fun _ => rfl, fun _ => (by first | rfl | simp), h10, h11, h12⟩
    | 10, _ =>
      have ho' := ho
      simp [opsregTg4] at ho
      subst ho
      refine wpOp_one ho' rfl fun K hK => ?_
      go_simp
      exact hK _ _ ⟨y0, y1, y2, y3, y4, y5, y6, y7, y8, y9, _, y11, y12, rfl, hb, h0, h1, h2, h3, h4, h5, h6, h7, h8, h9, fun _ => (by first | rfl | simp), h11, h12⟩
    | 11, _ =>
      have ho' := ho
      simp [opsregTg4] at ho
      subst ho
      obtain rfl := h9 (hall ⟨9, .data⟩ (by simp) rfl)
      obtain rfl := h10 (hall ⟨10, .data⟩ (by simp) rfl)
      refine wpOp_one ho' rfl fun K hK => ?_
      go_simp
      go_at_call 11
      refine (hc2 _ hb).mono ?_
      rintro e w2 ⟨rfl, hb2⟩
      exact hK _ _ ⟨y0, y1, y2, y3, y4, y5, y6, y7, y8, _, _, _, y12, rfl, (hb.trans (hb2.mono hb.size)), h0, h1, h2, h3, h4, h5, h6, h7, h8, fun _ => rfl, fun _ => rfl, fun _ => (by first | rfl | simp), h12⟩
    | 12, _ =>
      have ho' := ho
      simp [opsregTg4] at ho
      subst ho
      obtain rfl := h5 (hall ⟨5, .data⟩ (by simp) rfl)
      obtain rfl := h11 (hall ⟨11, .data⟩ (by simp) rfl)
      refine wpOp_one ho' rfl fun K hK => ?_
      go_simp
      exact hK _ _ ⟨y0, y1, y2, y3, y4, _, y6, y7, y8, y9, y10, _, _, rfl, hb, h0, h1, h2, h3, h4, fun _ => rfl, h6, h7, h8, h9, h10, fun _ => rfl, fun _ => (by first | rfl | (cases e1 <;> cases e2 <;> rfl))⟩
    | k + 13, hi => omega
set_option maxHeartbeats 2000000 in
set_option maxRecDepth 100000 in
theorem together_any (A:Option Addr) (n cap p q:Nat) (L:Nat→Nat→Nat) (w:World) (hrow:ClassRow w A n L) (hL:∀ t,Cl (L t)) (hn:n<64) (hp:p<256) (hq:q<256) :
  Calls Tryd.prog 20 #[.slice A n cap,.int .i64 p,.int .i64 q] w fun e w'=>e=.returned (.bool (rel zeros L n p q))∧Below w.heap.size w w':=by
 go_enter Tryd.func20,Tryd.ntmps20
 go_wp2_with fail
 go_loopw [7] (fun i wr=>∃ k:Nat,k≤n∧i=.int .i64 k∧(∀ t,t<k→hasB (L t) p=hasB (L t) q)∧Below w.heap.size w wr) (fun i _=>n - (intOf i).toNat)
 case atStart=>exact ⟨0,Nat.zero_le _,rfl,fun t ht=>by omega,Below.refl _ _⟩
 case round =>
  obtain ⟨k,hk,rfl,hall,hbw⟩:=hrel
  by_cases hlt:k<n
  ·obtain ⟨b,off,rfl,hblt,hcell⟩:=hrow (by omega)
   have h1:(k:Int)<(n:Int):=by omega
   have h0:(0:Int)≤(k:Int):=by omega
   have h3:((k:Int)).toNat=k:=by omega
   obtain ⟨wv,hwv⟩ : ∃ wv,wv=wr:=⟨_,rfl⟩
   subst hwv
   have HC:=Lib.hid (fun (W:World) (h:Below wv.heap.size wv W) (i:Nat) (h4:i<4)=>((bhop hbw h).cell (p:=⟨b,off+k * 4+i,none⟩) hblt).trans (hcell k hlt i h4))
   go_upto_region 4 with fail
   refine regTg4 (L k) b off n cap p q k (hasB (L k) p) (hasB (L k) q) _ _ _ _ _ _ _ _ _ _ _ _ _ _ _ _ _ _ _ _ _ _ _ _ wv (fun W h=>⟨HC.out W h 0 (by omega),HC.out W h 1 (by omega),HC.out W h 2 (by omega),HC.out W h 3 (by omega)⟩) h0 h1 h3 (fun W _=>rhas_any (L k) p W (hL k) hp) (fun W _=>rhas_any (L k) q W (hL k) hq) _ ?_
   intros
   rename_i w2 hb2
   have hb3:=bhop hbw hb2
   cases he:(hasB (L k) p != hasB (L k) q) with
   | true =>
    have hr:rel zeros L n p q=false:=by
     unfold rel zeros
     simp
     intro h
     rw [(mem_eq_iff L p q n).1 h k hlt] at he
     simp at he
    go_wp2_with fail
    go_ret
    exact ⟨by rw [hr];rfl,hb3⟩
   | false =>
    have hk2:∀ t,t<k+1→hasB (L t) p=hasB (L t) q:=fun t ht=>by
     by_cases htk:t<k
     ·exact hall t htk
     ·obtain rfl:t=k:=by omega
      simpa using he
    clear hall
    go_wp2_with fail
    go_roundw
    case rel=>exact ⟨k+1,by omega,by go_num,hk2,hb3⟩
    case measure=>simp [intOf];omega
  ·obtain rfl:k=n:=by omega
   have hr:rel zeros L k p q=true:=by
    unfold rel zeros
    simp
    exact (mem_eq_iff L p q k).2 hall
   have h1:¬ (k:Int)<(k:Int):=by omega
   go_wp2_with fail
   go_ret
   exact ⟨by first | rfl | (rw [hr];rfl) | simp [hr],hbw⟩
theorem rel_alR {L:Nat→Nat→Nat} {S:List (Nat→Nat)} {n:Nat} (hn:S.length=n) (hS:∀ t,t<n→L t=S.getD t zeros) (p q:Nat):rel zeros L n p q=AlR S p q:=by
 rw [Bool.eq_iff_iff,alR_iff]
 unfold rel zeros
 simp
 rw [mem_eq_iff]
 constructor
 ·intro h C hC
  obtain ⟨t,ht⟩:=List.mem_iff_getElem?.1 hC
  have htn:t<n:=by have:=(List.getElem?_eq_some_iff.1 ht).1;omega
  have:=h t htn
  rw [hS t htn,List.getD_eq_getElem?_getD,ht] at this
  exact this
 ·intro h t ht
  rw [hS t ht,List.getD_eq_getElem?_getD,List.getElem?_eq_getElem (by omega)]
  exact h _ (List.getElem_mem _)
def S13 (w:World) (m:PM) (kk:Nat) (wr:World) (A:Option Addr) (c:Nat):Prop:=wr.ownsRow w.heap.size 24 4 (.slice A kk c) kk (((m.sets.drop 1).take kk).flatMap cls4)∧Below w.heap.size w wr
theorem S13.row {w wr:World} {m:PM} {kk c:Nat} {A:Option Addr} (h:S13 w m kk wr A c) (hk:m.sets.length=kk+1):ClassRow wr A kk (fun t=>m.sets.getD (t+1) zeros):=fun h0=>by
 obtain ⟨g,cap,hv,_,hg⟩:=World.ownsRow.form h.1 h0
 simp only [Value.slice.injEq,true_and] at hv
 obtain ⟨rfl,rfl⟩:=hv
 refine ⟨g,0,rfl,(h.1.lt g rfl).2,fun t ht j hj=>?_⟩
 rw [Nat.zero_add]
 have hC:((m.sets.drop 1).take kk)[t]? = some (m.sets.getD (t+1) zeros):=by
  rw [List.getElem?_take,if_pos ht,List.getElem?_drop,List.getD_eq_getElem?_getD,Nat.add_comm,List.getElem?_eq_getElem (by omega)]
  rfl
 exact (World.ownsRow.cellAt h.1 (t * 4+j) (by omega)).trans (cls4_at _ _ _ _ hj hC)
set_option maxHeartbeats 8000000 in
set_option maxRecDepth 100000 in
theorem sets13_any (w:World) (g c:Nat) (a:Au) (m:PM) (h:AusR w (some ⟨g,0,none⟩) [(a,m)]) :
  Calls Tryd.prog 9 #[.slice (some ⟨g,0,none⟩) 1 c] w fun e w'=>∃ A c,e=.returned (.slice A (a.n - 1) c)∧ClassRow w' A (a.n - 1) (fun t=>m.sets.getD (t+1) zeros)∧Below w.heap.size w w':=by
 obtain ⟨i0,hi,hz0,hz1,hz2⟩:=info_parts infoCls
 obtain ⟨g',eg,hgl,hrange,hCl,B,fl,la,hau0⟩:=h 0 (a,m) rfl
 have hau:AuL w B m a fl la:=hau0
 clear hau0
 simp only [Option.some.injEq,Addr.mk.injEq,and_true] at eg
 subst eg
 obtain ⟨gs,hA,hc,hrow⟩:=row_sets hau
 have hone:=hau.one
 have hmost:=hau.most
 have hsl:=hau.sets
 obtain ⟨n,hn⟩ : ∃ n,n=a.n:=⟨_,rfl⟩
 have e8:w.cell? ⟨g,8,none⟩=some (.slice (some ⟨gs,0,none⟩) n a.sC):=by
  have:=hrange 8 (.slice a.sA a.n a.sC) rfl
  rw [hA,← hn] at this
  simpa using this
 obtain ⟨sc,hsc⟩ : ∃ sc,sc=a.sC:=⟨_,rfl⟩
 rw [← hsc] at e8
 have H:=Lib.hid (And.intro hsl (And.intro hone (And.intro hmost (And.intro hrow (And.intro hgl (And.intro hn e8))))))
 rw [← hn]
 clear h hrange hCl hau hA hc hrow hone hmost hsl hn hsc
 go_enter Tryd.func9,Tryd.ntmps9
 go_wp2_with fail
 go_loopw [3,4,5] (fun v3 v4 v5 wr=>(v4=.int .i64 0∧v3=.slice none 0 0∧w=wr)∨(v4=.int .i64 1∧∃ A c,v3=.slice A (n - 1) c∧S13 w m (n - 1) wr A c)) (fun _ v4 _ _=>match v4 with | .int _ z=>1 - z.toNat | _=>0)
 case atStart=>exact .inl ⟨rfl,rfl,rfl⟩
 case round =>
  rcases hrel with ⟨rfl,rfl,hww⟩ | ⟨rfl,A,c5,rfl,hS⟩
  ·subst hww
   go_wp2_with fail
   go_loopw [3,5] (fun v3 v5 wr=>∃ k:Nat,v5=.int .i64 k∧1≤k∧k≤n∧∃ A c,v3=.slice A (k - 1) c∧S13 w m (k - 1) wr A c) (fun _ v5 _=>match v5 with | .int _ z=>n - z.toNat | _=>0)
   case atStart=>exact ⟨1,rfl,Nat.le_refl _,by have:=H.out.2.1;have:=H.out.2.2.2.2.2.1;omega,none,0,rfl,World.ownsRow_nil _ _ _ _,Below.refl _ _⟩
   case round =>
    obtain ⟨k,rfl,hk1,hkn,A,c5,rfl,hS⟩:=hrel
    have e8':=(hS.2.cell (p:=⟨g,8,none⟩) H.out.2.2.2.2.1).trans H.out.2.2.2.2.2.2
    by_cases hlt:k<n
    ·have s2:(k:Int)<(n:Int):=by omega
     have s1:(0:Int)≤(k:Int):=by omega
     have s3:((k:Int)).toNat=k:=by omega
     have wk:IntKind.i64.wrap ((k:Int)+1)=(k:Int)+1:=by have:=H.out.2.2.1;have:=H.out.2.2.2.2.2.1;rw [IntKind.wrap_i64];omega
     have hrow:=(H.out.2.2.2.1 4 (.inr rfl)).below hS.2
     rw [← H.out.2.2.2.2.2.1] at hrow
     obtain ⟨C,hC⟩ : ∃ C,C=m.sets.getD k zeros:=⟨_,rfl⟩
     have hcell:∀ j,j<4→w.cell? ⟨gs,4,none⟩=w.cell? ⟨gs,4,none⟩:=fun _ _=>rfl
     have d:∀ j,j<4→wr.cell? ⟨gs,k * 4+j,none⟩=some (.int .u64 (C j:Nat)):=fun j hj=>by
      have:=hrow.cells (j:=(k - 1) * 4+j) (by omega)
      rw [show ((k - 1) * 4+j) / 4=k - 1 by omega,show ((k - 1) * 4+j) % 4=j by omega,show 4+((k - 1) * 4+j)=k * 4+j by omega,show k - 1+1=k by omega,← hC] at this
      exact this
     have d0:=d 0 (by omega)
     have d1:=d 1 (by omega)
     have d2:=d 2 (by omega)
     have d3:=d 3 (by omega)
     rw [Nat.add_zero] at d0
     have HI:=Lib.hid (And.intro hS (And.intro hC (And.intro hk1 (show k+1≤n from hlt))))
     clear hrow hC d hcell hkn hS
     go_wp2_with ((at_builtin;refine wpList_append_lies _ (by rfl) _ _ 29 (by rfl) w.heap.size 24 i0 _ 4 32 Tryd.underlying29 hi hz0 hz1 hz2 rfl (by decide) (.slice A (k - 1) c5) (k - 1) _ (by rfl) (HI.out.1.1.alloc _) ⟨wr.heap.size,0,none⟩ 1 1 [.int .u64 (C 0:Nat),.int .u64 (C 1:Nat),.int .u64 (C 2:Nat),.int .u64 (C 3:Nat)] (by rfl) ?c0 ?c1 ?c2 (by decide) ?c3 ?c4 ?c5 _ rfl ?_))
     case c0=>rfl
     case c1=>exact World.news_of_block (heap_alloc_new wr _)
     case c2=>simp [Value.oneCell']
     case c3=>have:=H.out.2.2.1;have:=H.out.2.2.2.2.2.1;unfold maxLen;omega
     case c4=>have:=H.out.2.2.1;have:=H.out.2.2.2.2.2.1;omega
     case c5=>have:=HI.out.1.2.size;simp;omega
     intro g5 cap5 w5 hown5 hgrow5 hat5 hlt5
     have hN:=Lib.hid (show S13 w m k w5 (some ⟨g5,0,none⟩) cap5 from ⟨by
      have hmk:(m.sets.drop 1)[k - 1]? = some C:=by
       have h1:=H.out.1;have h2:=H.out.2.2.2.2.2.1;have h3:=HI.out.2.2.2;have h4:=HI.out.2.2.1
       rw [List.getElem?_drop,show 1+(k - 1)=k by omega,HI.out.2.1,List.getD_eq_getElem?_getD,List.getElem?_eq_getElem (by omega)]
       rfl
      have e2:(m.sets.drop 1).take k=(m.sets.drop 1).take (k - 1) ++ [C]:=by
       rw [show k=(k - 1)+1 by omega,List.take_add_one,hmk,show k - 1+1 - 1=k - 1 by omega]
       rfl
      rw [e2,List.flatMap_append,List.drop_one]
      exact hown5,by
      have hc:Chg (fun k=>w.heap.size≤k) (wr.alloc (.cells #[.int .u64 (C 0:Nat),.int .u64 (C 1:Nat),.int .u64 (C 2:Nat),.int .u64 (C 3:Nat)] 24)) w5:=(Chg.refl _ _).grown hgrow5 fun k hk _=>(World.ownsRow.lt (HI.out.1.1.alloc (.cells #[.int .u64 (C 0:Nat),.int .u64 (C 1:Nat),.int .u64 (C 2:Nat),.int .u64 (C 3:Nat)] 24)) k hk).1
      exact (bhop HI.out.1.2 (below_alloc wr _)).trans (hc.below (by have:=HI.out.1.2.size;simp;omega) fun k hk e=>by omega)⟩)
     clear hown5 hgrow5 hat5 hlt5
     go_wp2_with fail
     go_roundw
     case rel=>exact ⟨k+1,by push_cast;rfl,by omega,HI.out.2.2.2,some ⟨g5,0,none⟩,cap5,by first | rfl | (rw [Nat.add_sub_cancel];congr 1;have:=HI.out.2.2.1;omega),hN.out⟩
     case measure=>have:=HI.out.2.2.2;simp;omega
    ·have s2:¬ (k:Int)<(n:Int):=by omega
     obtain rfl:k=n:=by omega
     have HE:=Lib.hid hS
     clear hS
     go_wp2_with fail
     go_roundw
     case rel=>exact .inr ⟨rfl,A,c5,rfl,HE.out⟩
     case measure=>simp
  ·have HE:=Lib.hid hS
   clear hS
   go_wp2_with fail
   go_ret
   exact ⟨A,c5,rfl,HE.out.row (by have:=H.out.1;have:=H.out.2.1;have:=H.out.2.2.2.2.2.1;omega),HE.out.2⟩
theorem fst_some {r:Nat→Nat→Bool} (h:Alike r) {x b:Nat} (_:x<b) (h1:∀ t,t<x→r t b=false) (h2:r x b=true):fst r b=x:=by
 have k:=fst_spec h b
 rcases Nat.lt_trichotomy (fst r b) x with e | e | e
 ·rw [h1 _ e] at k;exact absurd k.2.1 (by decide)
 ·exact e
 ·rw [k.2.2 x e] at h2;exact absurd h2 (by decide)
theorem fst_none {r:Nat→Nat→Bool} (h:Alike r) {b:Nat} (h1:∀ t,t<b→r t b=false):fst r b=b:=by
 have k:=fst_spec h b
 rcases Nat.lt_or_ge (fst r b) b with e | e
 ·rw [h1 _ e] at k;exact absurd k.2.1 (by decide)
 ·omega
set_option maxHeartbeats 8000000 in
set_option maxRecDepth 100000 in
theorem plain13_any (w:World) (g c:Nat) (a:Au) (m:PM) (h:AusR w (some ⟨g,0,none⟩) [(a,m)]) (b:Nat) (hb:b<256) :
  Calls Tryd.prog 12 #[.slice (some ⟨g,0,none⟩) 1 c,.int .i64 b] w fun e w'=>e=.returned (.int .i64 ((fst (AlR (setsL [(a,m)])) b:Nat):Int))∧Below w.heap.size w w':=by
 have HS:=Lib.hid (sets13_any w g c a m h)
 obtain ⟨g',eg,hgl,hrange,hCl,B,fl,la,hau0⟩:=h 0 (a,m) rfl
 have hau:AuL w B m a fl la:=hau0
 have hmost:=hau.most
 have hsl:=hau.sets
 have hone:=hau.one
 have hal:=alike_AlR (setsL [(a,m)])
 have hset:setsL [(a,m)]=m.sets.drop 1:=by simp [setsL]
 obtain ⟨n,hn⟩ : ∃ n,n=a.n - 1:=⟨_,rfl⟩
 have HT:=Lib.hid (fun (W:World) (A:Option Addr) (c:Nat) (x:Nat) (hx:x<256) (hrow:ClassRow W A n (fun t=>m.sets.getD (t+1) zeros))=>show Calls Tryd.prog 20 #[.slice A n c,.int .i64 x,.int .i64 b] W (fun e w'=>e=.returned (.bool (AlR (setsL [(a,m)]) x b))∧Below W.heap.size W w') from by
  have:=together_any A n c x b _ W hrow (fun t=>by
   show Cl (m.sets.getD (t+1) zeros)
   rw [List.getD_eq_getElem?_getD]
   cases e:m.sets[t+1]? with
   | none=>exact cl_zero
   | some C=>exact hCl C (List.mem_of_getElem? e)) (by omega) hx hb
  rw [rel_alR (S:=setsL [(a,m)]) (by rw [hset,List.length_drop];omega) (fun t ht=>by rw [hset,List.getD_eq_getElem?_getD,List.getD_eq_getElem?_getD,List.getElem?_drop,Nat.add_comm])] at this
  exact this)
 obtain ⟨r,hr⟩ : ∃ r,r=AlR (setsL [(a,m)]):=⟨_,rfl⟩
 rw [← hr] at HT hal ⊢
 rw [← hn] at HS
 have HB:=Lib.hid (And.intro hal hb)
 clear h hgl hrange hCl hau0 hau hmost hsl hone hal hset hn hr eg
 go_enter Tryd.func12,Tryd.ntmps12
 go_wp2_with fail
 go_at_call 9
 refine HS.out.mono ?_
 rintro e w2 ⟨A,c2,rfl,hrow,hb2⟩
 have H2:=Lib.hid (And.intro hrow hb2)
 clear hrow hb2
 go_wp2_with fail
 go_loopw [6] (fun v6 wr=>∃ x:Nat,v6=.int .i64 x∧x≤b∧(∀ t,t<x→r t b=false)∧Below w2.heap.size w2 wr) (fun v6 _=>match v6 with | .int _ z=>b - z.toNat | _=>0)
 case atStart=>exact ⟨0,rfl,Nat.zero_le _,fun t ht=>by omega,Below.refl _ _⟩
 case round =>
  obtain ⟨x,rfl,hxb,hall,hbw⟩:=hrel
  by_cases hlt:x<b
  ·have s2:(x:Int)<(b:Int):=by omega
   have wx:IntKind.i64.wrap ((x:Int)+1)=(x:Int)+1:=by have:=HB.out.2;rw [IntKind.wrap_i64];omega
   have HI:=Lib.hid (And.intro hall (And.intro hbw (show x+1≤b from hlt)))
   clear hall hbw hxb hlt
   go_wp2_with fail
   go_at_call 20
   refine (HT.out wr A c2 x (by have:=HB.out.2;have:=HI.out.2.2;omega) (H2.out.1.below HI.out.2.1)).mono ?_
   rintro e w4 ⟨rfl,hb4⟩
   have HB4:=Lib.hid (bhop HI.out.2.1 hb4)
   clear hb4
   cases he:r x b with
   | true =>
    have HE:=Lib.hid (fst_some HB.out.1 (show x<b by have:=HI.out.2.2;omega) HI.out.1 he)
    go_wp2_with fail
    go_ret
    exact ⟨by rw [HE.out];rfl,bhop H2.out.2 HB4.out⟩
   | false =>
    have HE:=Lib.hid (show ∀ t,t<x+1→r t b=false from fun t ht=>by
     by_cases htx:t<x
     ·exact HI.out.1 t htx
     ·obtain rfl:t=x:=by omega
      exact he)
    go_wp2_with fail
    go_roundw
    case rel=>exact ⟨x+1,by push_cast;rfl,HI.out.2.2,HE.out,HB4.out⟩
    case measure=>have:=HI.out.2.2;simp;omega
  ·have s2:¬ (x:Int)<(b:Int):=by omega
   obtain rfl:x=b:=by omega
   have HE:=Lib.hid (And.intro (fst_none HB.out.1 hall) hbw)
   clear hall hbw
   go_wp2_with fail
   go_ret
   exact ⟨by rw [HE.out.1];rfl,bhop H2.out.2 HE.out.2⟩
set_option linter.unusedVariables false
/-- A slice of one struct is made. -/
theorem wp_build1 {P : Program} {o : Oper} {a : Act} {w : World} {K : Act → World → Prop} {Q : Exit → Act → World → Prop} (t e : TypeId) (p : Operand) (ho : o.op = .buildSlice t 1 #[(0, p)]) (ca : Array Value) (hp : a.eval p = .agg ca) (s : Nat) (z : Value) (hca : ca.size = s)
    (hu : P.underlying t = some (.slice e)) (hi : (P.info? e).map (fun i => (i.zero, i.size)) = some (some z, s)) (hs : 0 < s) (hs2 : s ≤ 2 ^ 24)
    (h : K (a.put o.dst (.slice (some ⟨w.heap.size, 0, none⟩) 1 1)) (w.alloc (.cells ca e))) : o.wp P a w K Q := by
  cases hie : P.info? e with
  | none => simp [hie] at hi
  | some ie =>
    simp only [hie, Option.map_some, Option.some.injEq, Prod.mk.injEq] at hi
    obtain ⟨hz, hsz⟩ := hi
    refine wp_buildSlice t e 1 _ ho ca ie z hu hie hz (by rw [hsz]; omega) (by rw [hsz]; omega) ?_ h
    have := Go.Great.fill_whole (s := s) hs [.agg ca] ((Array.range (1 * s)).map (z.cells[· % z.cells.size]!)) (fun v hv => by rw [List.mem_singleton.1 hv]; exact hca) (by simp)
    rw [hsz]
    have e1 : (#[(0, p)].map fun (i, x) => (i, a.eval x)).toList = (([Value.agg ca].zipIdx 0).map fun x => (x.2, x.1)) := by simp [hp]
    rw [e1, this]
    congr 1
    simp [Value.cells]
abbrev opsregLq7 : Array Oper := #[{ dst := some 29, op := Op.load 44 (Operand.tmp 7), type := 44, pos := "law.go:63", after := #[], guard := none },
  { dst := some 30, op := Op.move (Operand.tmp 1), type := 53, pos := "law.go:63", after := #[], guard := none },
  { dst := some 31, op := Op.call { callee := Callee.value (Operand.func 13), args := #[Operand.tmp 29, Operand.tmp 30], argTypes := #[44, 53] }, type := 34, pos := "law.go:63", after := #[{ on := 0, ground := Ground.data }, { on := 1, ground := Ground.data }], guard := none },
  { dst := some 32, op := Op.load 44 (Operand.tmp 7), type := 44, pos := "law.go:63", after := #[], guard := none },
  { dst := some 33, op := Op.move (Operand.tmp 1), type := 53, pos := "law.go:63", after := #[], guard := none },
  { dst := some 34, op := Op.call { callee := Callee.value (Operand.func 14), args := #[Operand.tmp 32, Operand.tmp 33], argTypes := #[44, 53] }, type := 53, pos := "law.go:63", after := #[{ on := 3, ground := Ground.data }, { on := 4, ground := Ground.data }, { on := 2, ground := Ground.chain }], guard := none },
  { dst := some 8, op := Op.assign (Operand.tmp 31), type := 34, pos := "law.go:63", after := #[{ on := 2, ground := Ground.data }, { on := 5, ground := Ground.chain }, { on := 0, ground := Ground.phase }, { on := 1, ground := Ground.phase }, { on := 2, ground := Ground.phase }, { on := 3, ground := Ground.textOnly Departure.lateStores }, { on := 4, ground := Ground.textOnly Departure.lateStores }, { on := 5, ground := Ground.textOnly Departure.lateStoresUnsure }], guard := none },
  { dst := some 9, op := Op.assign (Operand.tmp 34), type := 53, pos := "law.go:63", after := #[{ on := 5, ground := Ground.data }, { on := 6, ground := Ground.chain }, { on := 0, ground := Ground.phase }, { on := 1, ground := Ground.phase }, { on := 2, ground := Ground.phase }, { on := 3, ground := Ground.phase }, { on := 4, ground := Ground.phase }, { on := 5, ground := Ground.phase }, { on := 6, ground := Ground.phase }], guard := none }]
def WregLq7 (cl : Array Value) (lx : Nat) (wv : Value) (P1 P2 : World → Value → Prop) (D : List Deferred) (v0 v2 v3 v4 v5 v6 v10 v11 v12 v13 v14 v15 v16 v17 v18 v19 v20 v21 v22 v23 v24 v25 v26 v27 v28 v35 v36 v37 v38 v39 v40 v41 v42 v43 v44 v45 v46 v47 v48 v49 v50 v51 v52 v53 v54 v55 v56 v57 v58 v59 v60 v61 v62 v63 v64 v65 v66 v67 v68 v69 v70 v71 v72 v73 v74 v75 v76 v77 v78 v79 v80 : Value) (w0 : World) (l : Nat → Bool) (a : Act) (w : World) : Prop :=
  ∃ (y0 y1 y2 y3 y4 y5 y6 y7 : Value), a = { tmps := #[v0, wv, v2, v3, v4, v5, v6, .pointer (some ⟨lx, 0, none⟩), y6, y7, v10, v11, v12, v13, v14, v15, v16, v17, v18, v19, v20, v21, v22, v23, v24, v25, v26, v27, v28, y0, y1, y2, y3, y4, y5, v35, v36, v37, v38, v39, v40, v41, v42, v43, v44, v45, v46, v47, v48, v49, v50, v51, v52, v53, v54, v55, v56, v57, v58, v59, v60, v61, v62, v63, v64, v65, v66, v67, v68, v69, v70, v71, v72, v73, v74, v75, v76, v77, v78, v79, v80], defers := D } ∧ Below w0.heap.size w0 w ∧
    (l 0 = true → y0 = .agg cl) ∧ (l 1 = true → y1 = wv) ∧ (l 2 = true → P1 w y2) ∧ (l 3 = true → y3 = .agg cl) ∧ (l 4 = true → y4 = wv) ∧ (l 5 = true → P2 w y5) ∧ (l 6 = true → P1 w y6) ∧ (l 7 = true → P2 w y7)
set_option maxHeartbeats 8000000 in
set_option maxRecDepth 100000 in
theorem regLq7 (cl : Array Value) (lx : Nat) (wv : Value) (P1 P2 : World → Value → Prop) (D : List Deferred) (v0 v2 v3 v4 v5 v6 v10 v11 v12 v13 v14 v15 v16 v17 v18 v19 v20 v21 v22 v23 v24 v25 v26 v27 v28 v35 v36 v37 v38 v39 v40 v41 v42 v43 v44 v45 v46 v47 v48 v49 v50 v51 v52 v53 v54 v55 v56 v57 v58 v59 v60 v61 v62 v63 v64 v65 v66 v67 v68 v69 v70 v71 v72 v73 v74 v75 v76 v77 v78 v79 v80 wy0 wy1 wy2 wy3 wy4 wy5 wy6 wy7 : Value) (w : World) (hL : ∀ w', Below w.heap.size w w' → w'.heap[lx]? = some (.cells cl 44 (0, 0))) (shL : (Tryd.prog.info? 44).map (·.size) = some cl.size) (hP1 : (∀ w v w', P1 w v → Below w.heap.size w w' → P1 w' v)) (hP2 : (∀ w v w', P2 w v → Below w.heap.size w w' → P2 w' v)) (hc1 : (∀ w', Below w.heap.size w w' → Calls Tryd.prog 13 #[.agg cl, wv] w' fun e w2 => ∃ v, e = .returned v ∧ P1 w2 v ∧ Below w'.heap.size w' w2)) (hc2 : (∀ w', Below w.heap.size w w' → Calls Tryd.prog 14 #[.agg cl, wv] w' fun e w2 => ∃ v, e = .returned v ∧ P2 w2 v ∧ Below w'.heap.size w' w2)) (Q : Exit → Act → World → Prop)
    (hQ : ∀ (y0 y1 y2 y3 y4 y5 y6 y7 : Value) (w' : World), Below w.heap.size w w' → (P1 w' y6) → (P2 w' y7) → Q .normal { tmps := #[v0, wv, v2, v3, v4, v5, v6, .pointer (some ⟨lx, 0, none⟩), y6, y7, v10, v11, v12, v13, v14, v15, v16, v17, v18, v19, v20, v21, v22, v23, v24, v25, v26, v27, v28, y0, y1, y2, y3, y4, y5, v35, v36, v37, v38, v39, v40, v41, v42, v43, v44, v45, v46, v47, v48, v49, v50, v51, v52, v53, v54, v55, v56, v57, v58, v59, v60, v61, v62, v63, v64, v65, v66, v67, v68, v69, v70, v71, v72, v73, v74, v75, v76, v77, v78, v79, v80], defers := D } w') :
    (Code.region 7 opsregLq7 true).wp Tryd.prog Q { tmps := #[v0, wv, v2, v3, v4, v5, v6, .pointer (some ⟨lx, 0, none⟩), wy6, wy7, v10, v11, v12, v13, v14, v15, v16, v17, v18, v19, v20, v21, v22, v23, v24, v25, v26, v27, v28, wy0, wy1, wy2, wy3, wy4, wy5, v35, v36, v37, v38, v39, v40, v41, v42, v43, v44, v45, v46, v47, v48, v49, v50, v51, v52, v53, v54, v55, v56, v57, v58, v59, v60, v61, v62, v63, v64, v65, v66, v67, v68, v69, v70, v71, v72, v73, v74, v75, v76, v77, v78, v79, v80], defers := D } w := by
  refine wp_region_inv (by kernel_rfl) (WregLq7 cl lx wv P1 P2 D v0 v2 v3 v4 v5 v6 v10 v11 v12 v13 v14 v15 v16 v17 v18 v19 v20 v21 v22 v23 v24 v25 v26 v27 v28 v35 v36 v37 v38 v39 v40 v41 v42 v43 v44 v45 v46 v47 v48 v49 v50 v51 v52 v53 v54 v55 v56 v57 v58 v59 v60 v61 v62 v63 v64 v65 v66 v67 v68 v69 v70 v71 v72 v73 v74 v75 v76 v77 v78 v79 v80 w) ?hacy ?h0 ?hstep ?hdone
  case hacy => kernel_rfl
  case h0 => exact ⟨wy0, wy1, wy2, wy3, wy4, wy5, wy6, wy7, rfl, below_drewN (Below.refl _ _) 1, (fun p => by cases p), (fun p => by cases p), (fun p => by cases p), (fun p => by cases p), (fun p => by cases p), (fun p => by cases p), (fun p => by cases p), (fun p => by cases p)⟩
  case hdone =>
    intro l a w1 hI hall
    obtain ⟨y0, y1, y2, y3, y4, y5, y6, y7, rfl, hb, h0, h1, h2, h3, h4, h5, h6, h7⟩ := hI
    exact hQ _ _ _ _ _ _ _ _ _ hb (h6 (hall 6 (by decide))) (h7 (hall 7 (by decide)))
  case hstep =>
    intro l a w1 i o hI ho hl hall
    obtain ⟨y0, y1, y2, y3, y4, y5, y6, y7, rfl, hb, h0, h1, h2, h3, h4, h5, h6, h7⟩ := hI
    have hi : i < 8 := (Array.getElem?_eq_some_iff.1 ho).1
    match i, hi with
    | 0, _ =>
      have ho' := ho
      simp [opsregLq7] at ho
      subst ho
      refine wpOp_one ho' rfl fun K hK => ?_
      refine wp_load_row 44 (.tmp 7) rfl lx rfl 44 cl (0, 0) _ (hL w1 hb) Tryd.underlying44 rfl shL ?_
      exact hK _ _ ⟨_, y1, y2, y3, y4, y5, y6, y7, rfl, hb, fun _ => (by first | rfl | simp), h1, h2, h3, h4, h5, h6, h7⟩
    | 1, _ =>
      have ho' := ho
      simp [opsregLq7] at ho
      subst ho
      refine wpOp_one ho' rfl fun K hK => ?_
      go_simp
      exact hK _ _ ⟨y0, _, y2, y3, y4, y5, y6, y7, rfl, hb, h0, fun _ => (by first | rfl | simp), h2, h3, h4, h5, h6, h7⟩
    | 2, _ =>
      have ho' := ho
      simp [opsregLq7] at ho
      subst ho
      obtain rfl := h0 (hall ⟨0, .data⟩ (by simp) rfl)
      obtain rfl := h1 (hall ⟨1, .data⟩ (by simp) rfl)
      refine wpOp_one ho' rfl fun K hK => ?_
      go_simp
      go_at_call 13
      refine (hc1 _ hb).mono ?_
      rintro e w2 ⟨v2, rfl, hp2, hb2⟩
      exact hK _ _ ⟨_, _, _, y3, y4, y5, y6, y7, rfl, (hb.trans (hb2.mono hb.size)), fun _ => rfl, fun _ => rfl, fun _ => hp2, h3, h4, fun q => hP2 _ _ _ (h5 q) hb2, fun q => hP1 _ _ _ (h6 q) hb2, fun q => hP2 _ _ _ (h7 q) hb2⟩
    | 3, _ =>
      have ho' := ho
      simp [opsregLq7] at ho
      subst ho
      refine wpOp_one ho' rfl fun K hK => ?_
      refine wp_load_row 44 (.tmp 7) rfl lx rfl 44 cl (0, 0) _ (hL w1 hb) Tryd.underlying44 rfl shL ?_
      exact hK _ _ ⟨y0, y1, y2, _, y4, y5, y6, y7, rfl, hb, h0, h1, h2, fun _ => (by first | rfl | simp), h4, h5, h6, h7⟩
    | 4, _ =>
      have ho' := ho
      simp [opsregLq7] at ho
      subst ho
      refine wpOp_one ho' rfl fun K hK => ?_
      go_simp
      exact hK _ _ ⟨y0, y1, y2, y3, _, y5, y6, y7, rfl, hb, h0, h1, h2, h3, fun _ => (by first | rfl | simp), h5, h6, h7⟩
    | 5, _ =>
      have ho' := ho
      simp [opsregLq7] at ho
      subst ho
      obtain rfl := h3 (hall ⟨3, .data⟩ (by simp) rfl)
      obtain rfl := h4 (hall ⟨4, .data⟩ (by simp) rfl)
      refine wpOp_one ho' rfl fun K hK => ?_
      go_simp
      go_at_call 14
      refine (hc2 _ hb).mono ?_
      rintro e w2 ⟨v2, rfl, hp2, hb2⟩
      exact hK _ _ ⟨y0, y1, y2, _, _, _, y6, y7, rfl, (hb.trans (hb2.mono hb.size)), h0, h1, fun q => hP1 _ _ _ (h2 q) hb2, fun _ => rfl, fun _ => rfl, fun _ => hp2, fun q => hP1 _ _ _ (h6 q) hb2, fun q => hP2 _ _ _ (h7 q) hb2⟩
    | 6, _ =>
      have ho' := ho
      simp [opsregLq7] at ho
      subst ho
      have p2 := h2 (hall ⟨2, .data⟩ (by simp) rfl)
      refine wpOp_one ho' rfl fun K hK => ?_
      go_simp
      exact hK _ _ ⟨y0, y1, y2, y3, y4, y5, _, y7, rfl, hb, h0, h1, h2, h3, h4, h5, fun _ => p2, h7⟩
    | 7, _ =>
      have ho' := ho
      simp [opsregLq7] at ho
      subst ho
      have p5 := h5 (hall ⟨5, .data⟩ (by simp) rfl)
      refine wpOp_one ho' rfl fun K hK => ?_
      go_simp
      exact hK _ _ ⟨y0, y1, y2, y3, y4, y5, y6, _, rfl, hb, h0, h1, h2, h3, h4, h5, h6, fun _ => p5⟩
    | k + 8, hi => omega
abbrev opsregLq13 : Array Oper := #[{ dst := some 53, op := Op.move (Operand.tmp 8), type := 34, pos := "law.go:68", after := #[], guard := none },
  { dst := some 54, op := Op.move (Operand.tmp 10), type := 3, pos := "law.go:68", after := #[], guard := none },
  { dst := some 55, op := Op.indexAddr 34 (Operand.tmp 53) (Operand.tmp 54), type := 0, pos := "law.go:68", after := #[{ on := 0, ground := Ground.data }, { on := 1, ground := Ground.data }], guard := none },
  { dst := some 56, op := Op.load 3 (Operand.tmp 55), type := 3, pos := "law.go:68", after := #[{ on := 2, ground := Ground.data }], guard := none },
  { dst := some 57, op := Op.move (Operand.tmp 1), type := 53, pos := "law.go:68", after := #[], guard := none },
  { dst := some 58, op := Op.move (Operand.tmp 10), type := 3, pos := "law.go:68", after := #[], guard := none },
  { dst := some 59, op := Op.indexAddr 53 (Operand.tmp 57) (Operand.tmp 58), type := 0, pos := "law.go:68", after := #[{ on := 4, ground := Ground.data }, { on := 5, ground := Ground.data }], guard := none },
  { dst := some 60, op := Op.load 5 (Operand.tmp 59), type := 5, pos := "law.go:68", after := #[{ on := 6, ground := Ground.data }], guard := none },
  { dst := some 61, op := Op.fieldAddr 44 (Operand.tmp 7) 1, type := 0, pos := "law.go:68", after := #[], guard := none },
  { dst := some 62, op := Op.indexAddr 42 (Operand.tmp 61) (Operand.tmp 60), type := 0, pos := "law.go:68", after := #[{ on := 8, ground := Ground.data }, { on := 7, ground := Ground.data }], guard := none },
  { dst := some 63, op := Op.load 3 (Operand.tmp 62), type := 3, pos := "law.go:68", after := #[{ on := 9, ground := Ground.data }], guard := none },
  { dst := some 64, op := Op.binOp BinOp.neq 3 (Operand.tmp 56) (Operand.tmp 63) 3, type := 4, pos := "law.go:68", after := #[{ on := 3, ground := Ground.data }, { on := 10, ground := Ground.data }], guard := none },
  { dst := some 65, op := Op.move (Operand.tmp 64), type := 4, pos := "law.go:68", after := #[{ on := 11, ground := Ground.data }], guard := none },
  { dst := some 66, op := Op.move (Operand.tmp 9), type := 53, pos := "law.go:68", after := #[{ on := 12, ground := Ground.guard }], guard := some (12, false) },
  { dst := some 67, op := Op.move (Operand.tmp 10), type := 3, pos := "law.go:68", after := #[{ on := 12, ground := Ground.guard }], guard := some (12, false) },
  { dst := some 68, op := Op.indexAddr 53 (Operand.tmp 66) (Operand.tmp 67), type := 0, pos := "law.go:68", after := #[{ on := 13, ground := Ground.data }, { on := 14, ground := Ground.data }, { on := 12, ground := Ground.guard }], guard := some (12, false) },
  { dst := some 69, op := Op.load 5 (Operand.tmp 68), type := 5, pos := "law.go:68", after := #[{ on := 15, ground := Ground.data }, { on := 12, ground := Ground.guard }], guard := some (12, false) },
  { dst := some 70, op := Op.convert 5 3 (Operand.tmp 69), type := 3, pos := "law.go:68", after := #[{ on := 16, ground := Ground.data }, { on := 12, ground := Ground.guard }], guard := some (12, false) },
  { dst := some 71, op := Op.load 38 (Operand.tmp 5), type := 38, pos := "law.go:68", after := #[{ on := 12, ground := Ground.guard }], guard := some (12, false) },
  { dst := some 72, op := Op.buildSlice 41 1 #[(0, Operand.tmp 71)], type := 41, pos := "law.go:68", after := #[{ on := 18, ground := Ground.data }, { on := 12, ground := Ground.guard }], guard := some (12, false) },
  { dst := some 73, op := Op.move (Operand.tmp 1), type := 53, pos := "law.go:68", after := #[{ on := 12, ground := Ground.guard }], guard := some (12, false) },
  { dst := some 74, op := Op.move (Operand.tmp 10), type := 3, pos := "law.go:68", after := #[{ on := 12, ground := Ground.guard }], guard := some (12, false) },
  { dst := some 75, op := Op.indexAddr 53 (Operand.tmp 73) (Operand.tmp 74), type := 0, pos := "law.go:68", after := #[{ on := 20, ground := Ground.data }, { on := 21, ground := Ground.data }, { on := 12, ground := Ground.guard }], guard := some (12, false) },
  { dst := some 76, op := Op.load 5 (Operand.tmp 75), type := 5, pos := "law.go:68", after := #[{ on := 22, ground := Ground.data }, { on := 12, ground := Ground.guard }], guard := some (12, false) },
  { dst := some 77, op := Op.convert 5 3 (Operand.tmp 76), type := 3, pos := "law.go:68", after := #[{ on := 23, ground := Ground.data }, { on := 12, ground := Ground.guard }], guard := some (12, false) },
  { dst := some 78, op := Op.call { callee := Callee.value (Operand.func 12), args := #[Operand.tmp 72, Operand.tmp 77], argTypes := #[41, 3] }, type := 3, pos := "law.go:68", after := #[{ on := 19, ground := Ground.data }, { on := 24, ground := Ground.data }, { on := 12, ground := Ground.chain }, { on := 12, ground := Ground.guard }], guard := some (12, false) },
  { dst := some 79, op := Op.binOp BinOp.neq 3 (Operand.tmp 70) (Operand.tmp 78) 3, type := 4, pos := "law.go:68", after := #[{ on := 17, ground := Ground.data }, { on := 25, ground := Ground.data }, { on := 12, ground := Ground.guard }], guard := some (12, false) },
  { dst := some 80, op := Op.pick (Operand.tmp 65) (Operand.const (Value.bool true)) (Operand.tmp 79), type := 4, pos := "law.go:68", after := #[{ on := 12, ground := Ground.data }, { on := 26, ground := Ground.data }], guard := none }]
def WregLq13 (ca : Array Value) (ab lx ga oa n c sb pb i b kk fb : Nat) (z : Value) (P3 : World → Value → Prop) (D : List Deferred) (v0 v2 v3 v4 v6 v11 v12 v13 v14 v15 v16 v17 v18 v19 v20 v21 v22 v23 v24 v25 v26 v27 v28 v29 v30 v31 v32 v33 v34 v35 v36 v37 v38 v39 v40 v41 v42 v43 v44 v45 v46 v47 v48 v49 v50 v51 v52 : Value) (w0 : World) (l : Nat → Bool) (a : Act) (w : World) : Prop :=
  ∃ (y0 y1 y2 y3 y4 y5 y6 y7 y8 y9 y10 y11 y12 y13 y14 y15 y16 y17 y18 y19 y20 y21 y22 y23 y24 y25 y26 y27 : Value), a = { tmps := #[v0, .slice (some ⟨ga, oa, none⟩) n c, v2, v3, v4, .pointer (some ⟨ab, 0, none⟩), v6, .pointer (some ⟨lx, 0, none⟩), .slice (some ⟨sb, 0, none⟩) n n, .slice (some ⟨pb, 0, none⟩) n n, .int .i64 (i : Int), v11, v12, v13, v14, v15, v16, v17, v18, v19, v20, v21, v22, v23, v24, v25, v26, v27, v28, v29, v30, v31, v32, v33, v34, v35, v36, v37, v38, v39, v40, v41, v42, v43, v44, v45, v46, v47, v48, v49, v50, v51, v52, y0, y1, y2, y3, y4, y5, y6, y7, y8, y9, y10, y11, y12, y13, y14, y15, y16, y17, y18, y19, y20, y21, y22, y23, y24, y25, y26, y27], defers := D } ∧ Below w0.heap.size w0 w ∧
    (l 0 = true → y0 = .slice (some ⟨sb, 0, none⟩) n n) ∧ (l 1 = true → y1 = .int .i64 (i : Int)) ∧ (l 2 = true → y2 = .pointer (some ⟨sb, i, none⟩)) ∧ (l 3 = true → y3 = .int .i64 (kk : Int)) ∧ (l 4 = true → y4 = .slice (some ⟨ga, oa, none⟩) n c) ∧ (l 5 = true → y5 = .int .i64 (i : Int)) ∧ (l 6 = true → y6 = .pointer (some ⟨ga, oa + i, none⟩)) ∧ (l 7 = true → y7 = .int .u8 (b : Int)) ∧ (l 8 = true → y8 = .pointer (some ⟨lx, 1, none⟩)) ∧ (l 9 = true → y9 = .pointer (some ⟨lx, 1 + b, none⟩)) ∧ (l 10 = true → y10 = .int .i64 (kk : Int)) ∧ (l 11 = true → y11 = .bool false) ∧ (l 12 = true → y12 = .bool false) ∧ (l 13 = true → y13 = .slice (some ⟨pb, 0, none⟩) n n) ∧ (l 14 = true → y14 = .int .i64 (i : Int)) ∧ (l 15 = true → y15 = .pointer (some ⟨pb, i, none⟩)) ∧ (l 16 = true → y16 = .int .u8 (fb : Int)) ∧ (l 17 = true → y17 = .int .i64 (fb : Int)) ∧ (l 18 = true → y18 = .agg ca) ∧ (l 19 = true → P3 w y19) ∧ (l 20 = true → y20 = .slice (some ⟨ga, oa, none⟩) n c) ∧ (l 21 = true → y21 = .int .i64 (i : Int)) ∧ (l 22 = true → y22 = .pointer (some ⟨ga, oa + i, none⟩)) ∧ (l 23 = true → y23 = .int .u8 (b : Int)) ∧ (l 24 = true → y24 = .int .i64 (b : Int)) ∧ (l 25 = true → y25 = .int .i64 (fb : Int)) ∧ (l 26 = true → y26 = .bool false) ∧ (l 27 = true → y27 = .bool false)
set_option maxHeartbeats 8000000 in
set_option maxRecDepth 100000 in
theorem regLq13 (ca : Array Value) (ab lx ga oa n c sb pb i b kk fb : Nat) (z : Value) (P3 : World → Value → Prop) (D : List Deferred) (v0 v2 v3 v4 v6 v11 v12 v13 v14 v15 v16 v17 v18 v19 v20 v21 v22 v23 v24 v25 v26 v27 v28 v29 v30 v31 v32 v33 v34 v35 v36 v37 v38 v39 v40 v41 v42 v43 v44 v45 v46 v47 v48 v49 v50 v51 v52 wy0 wy1 wy2 wy3 wy4 wy5 wy6 wy7 wy8 wy9 wy10 wy11 wy12 wy13 wy14 wy15 wy16 wy17 wy18 wy19 wy20 wy21 wy22 wy23 wy24 wy25 wy26 wy27 : Value) (w : World) (hA : ∀ w', Below w.heap.size w w' → w'.heap[ab]? = some (.cells ca 38 (0, 0))) (shA : (Tryd.prog.info? 38).map (·.size) = some ca.size) (hs : ∀ w', Below w.heap.size w w' → w'.cell? ⟨sb, i, none⟩ = some (.int .i64 (kk : Int))) (hw : ∀ w', Below w.heap.size w w' → w'.cell? ⟨ga, oa + i, none⟩ = some (.int .u8 (b : Int))) (hof : ∀ w', Below w.heap.size w w' → w'.cell? ⟨lx, 1 + b, none⟩ = some (.int .i64 (kk : Int))) (hp : ∀ w', Below w.heap.size w w' → w'.cell? ⟨pb, i, none⟩ = some (.int .u8 (fb : Int))) (s1 : (0 : Int) ≤ (i : Int)) (s2 : (i : Int) < (n : Int)) (s3 : ((i : Int)).toNat = i) (t1 : (0 : Int) ≤ (b : Int)) (t2 : (b : Int) < 256) (t3 : ((b : Int)).toNat = b) (wf : IntKind.i64.wrap (fb : Int) = (fb : Int)) (wb : IntKind.i64.wrap (b : Int) = (b : Int)) (hP3 : (∀ w v w', P3 w v → Below w.heap.size w w' → P3 w' v)) (zi : (Tryd.prog.info? 38).map (fun i => (i.zero, i.size)) = some (some z, ca.size)) (hca : 0 < ca.size) (hca2 : ca.size ≤ 2 ^ 24) (hbd : ∀ w', Below w.heap.size w w' → P3 (w'.alloc (.cells ca 38)) (.slice (some ⟨w'.heap.size, 0, none⟩) 1 1)) (hc : ∀ w' u, Below w.heap.size w w' → P3 w' u → Calls Tryd.prog 12 #[u, .int .i64 (b : Int)] w' fun e w2 => e = .returned (.int .i64 (fb : Int)) ∧ Below w'.heap.size w' w2) (Q : Exit → Act → World → Prop)
    (hQ : ∀ (y0 y1 y2 y3 y4 y5 y6 y7 y8 y9 y10 y11 y12 y13 y14 y15 y16 y17 y18 y19 y20 y21 y22 y23 y24 y25 y26 : Value) (w' : World), Below w.heap.size w w' → Q .normal { tmps := #[v0, .slice (some ⟨ga, oa, none⟩) n c, v2, v3, v4, .pointer (some ⟨ab, 0, none⟩), v6, .pointer (some ⟨lx, 0, none⟩), .slice (some ⟨sb, 0, none⟩) n n, .slice (some ⟨pb, 0, none⟩) n n, .int .i64 (i : Int), v11, v12, v13, v14, v15, v16, v17, v18, v19, v20, v21, v22, v23, v24, v25, v26, v27, v28, v29, v30, v31, v32, v33, v34, v35, v36, v37, v38, v39, v40, v41, v42, v43, v44, v45, v46, v47, v48, v49, v50, v51, v52, y0, y1, y2, y3, y4, y5, y6, y7, y8, y9, y10, y11, y12, y13, y14, y15, y16, y17, y18, y19, y20, y21, y22, y23, y24, y25, y26, .bool false], defers := D } w') :
    (Code.region 13 opsregLq13 true).wp Tryd.prog Q { tmps := #[v0, .slice (some ⟨ga, oa, none⟩) n c, v2, v3, v4, .pointer (some ⟨ab, 0, none⟩), v6, .pointer (some ⟨lx, 0, none⟩), .slice (some ⟨sb, 0, none⟩) n n, .slice (some ⟨pb, 0, none⟩) n n, .int .i64 (i : Int), v11, v12, v13, v14, v15, v16, v17, v18, v19, v20, v21, v22, v23, v24, v25, v26, v27, v28, v29, v30, v31, v32, v33, v34, v35, v36, v37, v38, v39, v40, v41, v42, v43, v44, v45, v46, v47, v48, v49, v50, v51, v52, wy0, wy1, wy2, wy3, wy4, wy5, wy6, wy7, wy8, wy9, wy10, wy11, wy12, wy13, wy14, wy15, wy16, wy17, wy18, wy19, wy20, wy21, wy22, wy23, wy24, wy25, wy26, wy27], defers := D } w := by
  refine wp_region_inv (by kernel_rfl) (WregLq13 ca ab lx ga oa n c sb pb i b kk fb z P3 D v0 v2 v3 v4 v6 v11 v12 v13 v14 v15 v16 v17 v18 v19 v20 v21 v22 v23 v24 v25 v26 v27 v28 v29 v30 v31 v32 v33 v34 v35 v36 v37 v38 v39 v40 v41 v42 v43 v44 v45 v46 v47 v48 v49 v50 v51 v52 w) ?hacy ?h0 ?hstep ?hdone
  case hacy => kernel_rfl
  case h0 => exact ⟨wy0, wy1, wy2, wy3, wy4, wy5, wy6, wy7, wy8, wy9, wy10, wy11, wy12, wy13, wy14, wy15, wy16, wy17, wy18, wy19, wy20, wy21, wy22, wy23, wy24, wy25, wy26, wy27, rfl, below_drewN (Below.refl _ _) 1, (fun p => by cases p), (fun p => by cases p), (fun p => by cases p), (fun p => by cases p), (fun p => by cases p), (fun p => by cases p), (fun p => by cases p), (fun p => by cases p), (fun p => by cases p), (fun p => by cases p), (fun p => by cases p), (fun p => by cases p), (fun p => by cases p), (fun p => by cases p), (fun p => by cases p), (fun p => by cases p), (fun p => by cases p), (fun p => by cases p), (fun p => by cases p), (fun p => by cases p), (fun p => by cases p), (fun p => by cases p), (fun p => by cases p), (fun p => by cases p), (fun p => by cases p), (fun p => by cases p), (fun p => by cases p), (fun p => by cases p)⟩
  case hdone =>
    intro l a w1 hI hall
    obtain ⟨y0, y1, y2, y3, y4, y5, y6, y7, y8, y9, y10, y11, y12, y13, y14, y15, y16, y17, y18, y19, y20, y21, y22, y23, y24, y25, y26, y27, rfl, hb, h0, h1, h2, h3, h4, h5, h6, h7, h8, h9, h10, h11, h12, h13, h14, h15, h16, h17, h18, h19, h20, h21, h22, h23, h24, h25, h26, h27⟩ := hI
    obtain rfl := h27 (hall 27 (by decide))
    exact hQ _ _ _ _ _ _ _ _ _ _ _ _ _ _ _ _ _ _ _ _ _ _ _ _ _ _ _ _ hb 
  case hstep =>
    intro l a w1 i o hI ho hl hall
    obtain ⟨y0, y1, y2, y3, y4, y5, y6, y7, y8, y9, y10, y11, y12, y13, y14, y15, y16, y17, y18, y19, y20, y21, y22, y23, y24, y25, y26, y27, rfl, hb, h0, h1, h2, h3, h4, h5, h6, h7, h8, h9, h10, h11, h12, h13, h14, h15, h16, h17, h18, h19, h20, h21, h22, h23, h24, h25, h26, h27⟩ := hI
    have hi : i < 28 := (Array.getElem?_eq_some_iff.1 ho).1
    match i, hi with
    | 0, _ =>
      have ho' := ho
      simp [opsregLq13] at ho
      subst ho
      refine wpOp_one ho' rfl fun K hK => ?_
      go_simp
      exact hK _ _ ⟨_, y1, y2, y3, y4, y5, y6, y7, y8, y9, y10, y11, y12, y13, y14, y15, y16, y17, y18, y19, y20, y21, y22, y23, y24, y25, y26, y27, rfl, hb, fun _ => (by first | rfl | simp), h1, h2, h3, h4, h5, h6, h7, h8, h9, h10, h11, h12, h13, h14, h15, h16, h17, h18, h19, h20, h21, h22, h23, h24, h25, h26, h27⟩
    | 1, _ =>
      have ho' := ho
      simp [opsregLq13] at ho
      subst ho
      refine wpOp_one ho' rfl fun K hK => ?_
      go_simp
      exact hK _ _ ⟨y0, _, y2, y3, y4, y5, y6, y7, y8, y9, y10, y11, y12, y13, y14, y15, y16, y17, y18, y19, y20, y21, y22, y23, y24, y25, y26, y27, rfl, hb, h0, fun _ => (by first | rfl | simp), h2, h3, h4, h5, h6, h7, h8, h9, h10, h11, h12, h13, h14, h15, h16, h17, h18, h19, h20, h21, h22, h23, h24, h25, h26, h27⟩
    | 2, _ =>
      have ho' := ho
      simp [opsregLq13] at ho
      subst ho
      obtain rfl := h0 (hall ⟨0, .data⟩ (by simp) rfl)
      obtain rfl := h1 (hall ⟨1, .data⟩ (by simp) rfl)
      refine wpOp_one ho' rfl fun K hK => ?_
      go_simp
      exact hK _ _ ⟨_, _, _, y3, y4, y5, y6, y7, y8, y9, y10, y11, y12, y13, y14, y15, y16, y17, y18, y19, y20, y21, y22, y23, y24, y25, y26, y27, rfl, hb, fun _ => rfl, fun _ => rfl, fun _ => (by first | rfl | simp), h3, h4, h5, h6, h7, h8, h9, h10, h11, h12, h13, h14, h15, h16, h17, h18, h19, h20, h21, h22, h23, h24, h25, h26, h27⟩
    | 3, _ =>
      have ho' := ho
      simp [opsregLq13] at ho
      subst ho
      obtain rfl := h2 (hall ⟨2, .data⟩ (by simp) rfl)
      refine wpOp_one ho' rfl fun K hK => ?_
      have hc0 := hs w1 hb
      go_simp
      exact hK _ _ ⟨y0, y1, _, _, y4, y5, y6, y7, y8, y9, y10, y11, y12, y13, y14, y15, y16, y17, y18, y19, y20, y21, y22, y23, y24, y25, y26, y27, rfl, hb, h0, h1, fun _ => rfl, fun _ => (by first | rfl | simp), h4, h5, h6, h7, h8, h9, h10, h11, h12, h13, h14, h15, h16, h17, h18, h19, h20, h21, h22, h23, h24, h25, h26, h27⟩
    | 4, _ =>
      have ho' := ho
      simp [opsregLq13] at ho
      subst ho
      refine wpOp_one ho' rfl fun K hK => ?_
      go_simp
      exact hK _ _ ⟨y0, y1, y2, y3, _, y5, y6, y7, y8, y9, y10, y11, y12, y13, y14, y15, y16, y17, y18, y19, y20, y21, y22, y23, y24, y25, y26, y27, rfl, hb, h0, h1, h2, h3, fun _ => (by first | rfl | simp), h5, h6, h7, h8, h9, h10, h11, h12, h13, h14, h15, h16, h17, h18, h19, h20, h21, h22, h23, h24, h25, h26, h27⟩
    | 5, _ =>
      have ho' := ho
      simp [opsregLq13] at ho
      subst ho
      refine wpOp_one ho' rfl fun K hK => ?_
      go_simp
      exact hK _ _ ⟨y0, y1, y2, y3, y4, _, y6, y7, y8, y9, y10, y11, y12, y13, y14, y15, y16, y17, y18, y19, y20, y21, y22, y23, y24, y25, y26, y27, rfl, hb, h0, h1, h2, h3, h4, fun _ => (by first | rfl | simp), h6, h7, h8, h9, h10, h11, h12, h13, h14, h15, h16, h17, h18, h19, h20, h21, h22, h23, h24, h25, h26, h27⟩
    | 6, _ =>
      have ho' := ho
      simp [opsregLq13] at ho
      subst ho
      obtain rfl := h4 (hall ⟨4, .data⟩ (by simp) rfl)
      obtain rfl := h5 (hall ⟨5, .data⟩ (by simp) rfl)
      refine wpOp_one ho' rfl fun K hK => ?_
      go_simp
      exact hK _ _ ⟨y0, y1, y2, y3, _, _, _, y7, y8, y9, y10, y11, y12, y13, y14, y15, y16, y17, y18, y19, y20, y21, y22, y23, y24, y25, y26, y27, rfl, hb, h0, h1, h2, h3, fun _ => rfl, fun _ => rfl, fun _ => (by first | rfl | simp), h7, h8, h9, h10, h11, h12, h13, h14, h15, h16, h17, h18, h19, h20, h21, h22, h23, h24, h25, h26, h27⟩
    | 7, _ =>
      have ho' := ho
      simp [opsregLq13] at ho
      subst ho
      obtain rfl := h6 (hall ⟨6, .data⟩ (by simp) rfl)
      refine wpOp_one ho' rfl fun K hK => ?_
      have hc0 := hw w1 hb
      go_simp
      exact hK _ _ ⟨y0, y1, y2, y3, y4, y5, _, _, y8, y9, y10, y11, y12, y13, y14, y15, y16, y17, y18, y19, y20, y21, y22, y23, y24, y25, y26, y27, rfl, hb, h0, h1, h2, h3, h4, h5, fun _ => rfl, fun _ => (by first | rfl | simp), h8, h9, h10, h11, h12, h13, h14, h15, h16, h17, h18, h19, h20, h21, h22, h23, h24, h25, h26, h27⟩
    | 8, _ =>
      have ho' := ho
      simp [opsregLq13] at ho
      subst ho
      refine wpOp_one ho' rfl fun K hK => ?_
      go_simp
      exact hK _ _ ⟨y0, y1, y2, y3, y4, y5, y6, y7, _, y9, y10, y11, y12, y13, y14, y15, y16, y17, y18, y19, y20, y21, y22, y23, y24, y25, y26, y27, rfl, hb, h0, h1, h2, h3, h4, h5, h6, h7, fun _ => (by first | rfl | simp), h9, h10, h11, h12, h13, h14, h15, h16, h17, h18, h19, h20, h21, h22, h23, h24, h25, h26, h27⟩
    | 9, _ =>
      have ho' := ho
      simp [opsregLq13] at ho
      subst ho
      obtain rfl := h7 (hall ⟨7, .data⟩ (by simp) rfl)
      obtain rfl := h8 (hall ⟨8, .data⟩ (by simp) rfl)
      refine wpOp_one ho' rfl fun K hK => ?_
      go_simp
      exact hK _ _ ⟨y0, y1, y2, y3, y4, y5, y6, _, _, _, y10, y11, y12, y13, y14, y15, y16, y17, y18, y19, y20, y21, y22, y23, y24, y25, y26, y27, rfl, hb, h0, h1, h2, h3, h4, h5, h6, fun _ => rfl, fun _ => rfl, fun _ => (by first | rfl | simp), h10, h11, h12, h13, h14, h15, h16, h17, h18, h19, h20, h21, h22, h23, h24, h25, h26, h27⟩
    | 10, _ =>
      have ho' := ho
      simp [opsregLq13] at ho
      subst ho
      obtain rfl := h9 (hall ⟨9, .data⟩ (by simp) rfl)
      refine wpOp_one ho' rfl fun K hK => ?_
      have hc0 := hof w1 hb
      go_simp
      exact hK _ _ ⟨y0, y1, y2, y3, y4, y5, y6, y7, y8, _, _, y11, y12, y13, y14, y15, y16, y17, y18, y19, y20, y21, y22, y23, y24, y25, y26, y27, rfl, hb, h0, h1, h2, h3, h4, h5, h6, h7, h8, fun _ => rfl, fun _ => (by first | rfl | simp), h11, h12, h13, h14, h15, h16, h17, h18, h19, h20, h21, h22, h23, h24, h25, h26, h27⟩
    | 11, _ =>
      have ho' := ho
      simp [opsregLq13] at ho
      subst ho
      obtain rfl := h3 (hall ⟨3, .data⟩ (by simp) rfl)
      obtain rfl := h10 (hall ⟨10, .data⟩ (by simp) rfl)
      refine wpOp_one ho' rfl fun K hK => ?_
      go_simp
      exact hK _ _ ⟨y0, y1, y2, _, y4, y5, y6, y7, y8, y9, _, _, y12, y13, y14, y15, y16, y17, y18, y19, y20, y21, y22, y23, y24, y25, y26, y27, rfl, hb, h0, h1, h2, fun _ => rfl, h4, h5, h6, h7, h8, h9, fun _ => rfl, fun _ => (by first | rfl | simp), h12, h13, h14, h15, h16, h17, h18, h19, h20, h21, h22, h23, h24, h25, h26, h27⟩
    | 12, _ =>
      have ho' := ho
      simp [opsregLq13] at ho
      subst ho
      obtain rfl := h11 (hall ⟨11, .data⟩ (by simp) rfl)
      refine wpOp_one ho' rfl fun K hK => ?_
      go_simp
      exact hK _ _ ⟨y0, y1, y2, y3, y4, y5, y6, y7, y8, y9, y10, _, _, y13, y14, y15, y16, y17, y18, y19, y20, y21, y22, y23, y24, y25, y26, y27, rfl, hb, h0, h1, h2, h3, h4, h5, h6, h7, h8, h9, h10, fun _ => rfl, fun _ => (by first | rfl | simp), h13, h14, h15, h16, h17, h18, h19, h20, h21, h22, h23, h24, h25, h26, h27⟩
    | 13, _ =>
      have ho' := ho
      simp [opsregLq13] at ho
      subst ho
      obtain rfl := h12 (hall ⟨12, .guard⟩ (by simp) rfl)
      refine wpOp_on ho' rfl fun K hK => ?_
      go_simp
      exact hK _ _ ⟨y0, y1, y2, y3, y4, y5, y6, y7, y8, y9, y10, y11, _, _, y14, y15, y16, y17, y18, y19, y20, y21, y22, y23, y24, y25, y26, y27, rfl, hb, h0, h1, h2, h3, h4, h5, h6, h7, h8, h9, h10, h11, fun _ => rfl, fun _ => (by first | rfl | simp), h14, h15, h16, h17, h18, h19, h20, h21, h22, h23, h24, h25, h26, h27⟩
    | 14, _ =>
      have ho' := ho
      simp [opsregLq13] at ho
      subst ho
      obtain rfl := h12 (hall ⟨12, .guard⟩ (by simp) rfl)
      refine wpOp_on ho' rfl fun K hK => ?_
      go_simp
      exact hK _ _ ⟨y0, y1, y2, y3, y4, y5, y6, y7, y8, y9, y10, y11, _, y13, _, y15, y16, y17, y18, y19, y20, y21, y22, y23, y24, y25, y26, y27, rfl, hb, h0, h1, h2, h3, h4, h5, h6, h7, h8, h9, h10, h11, fun _ => rfl, h13, fun _ => (by first | rfl | simp), h15, h16, h17, h18, h19, h20, h21, h22, h23, h24, h25, h26, h27⟩
    | 15, _ =>
      have ho' := ho
      simp [opsregLq13] at ho
      subst ho
      obtain rfl := h12 (hall ⟨12, .guard⟩ (by simp) rfl)
      obtain rfl := h13 (hall ⟨13, .data⟩ (by simp) rfl)
      obtain rfl := h14 (hall ⟨14, .data⟩ (by simp) rfl)
      refine wpOp_on ho' rfl fun K hK => ?_
      go_simp
      exact hK _ _ ⟨y0, y1, y2, y3, y4, y5, y6, y7, y8, y9, y10, y11, _, _, _, _, y16, y17, y18, y19, y20, y21, y22, y23, y24, y25, y26, y27, rfl, hb, h0, h1, h2, h3, h4, h5, h6, h7, h8, h9, h10, h11, fun _ => rfl, fun _ => rfl, fun _ => rfl, fun _ => (by first | rfl | simp), h16, h17, h18, h19, h20, h21, h22, h23, h24, h25, h26, h27⟩
    | 16, _ =>
      have ho' := ho
      simp [opsregLq13] at ho
      subst ho
      obtain rfl := h12 (hall ⟨12, .guard⟩ (by simp) rfl)
      obtain rfl := h15 (hall ⟨15, .data⟩ (by simp) rfl)
      refine wpOp_on ho' rfl fun K hK => ?_
      have hc0 := hp w1 hb
      go_simp
      exact hK _ _ ⟨y0, y1, y2, y3, y4, y5, y6, y7, y8, y9, y10, y11, _, y13, y14, _, _, y17, y18, y19, y20, y21, y22, y23, y24, y25, y26, y27, rfl, hb, h0, h1, h2, h3, h4, h5, h6, h7, h8, h9, h10, h11, fun _ => rfl, h13, h14, fun _ => rfl, fun _ => (by first | rfl | simp), h17, h18, h19, h20, h21, h22, h23, h24, h25, h26, h27⟩
    | 17, _ =>
      have ho' := ho
      simp [opsregLq13] at ho
      subst ho
      obtain rfl := h12 (hall ⟨12, .guard⟩ (by simp) rfl)
      obtain rfl := h16 (hall ⟨16, .data⟩ (by simp) rfl)
      refine wpOp_on ho' rfl fun K hK => ?_
      go_simp
      exact hK _ _ ⟨y0, y1, y2, y3, y4, y5, y6, y7, y8, y9, y10, y11, _, y13, y14, y15, _, _, y18, y19, y20, y21, y22, y23, y24, y25, y26, y27, rfl, hb, h0, h1, h2, h3, h4, h5, h6, h7, h8, h9, h10, h11, fun _ => rfl, h13, h14, h15, fun _ => rfl, fun _ => (by first | rfl | simp), h18, h19, h20, h21, h22, h23, h24, h25, h26, h27⟩
    | 18, _ =>
      have ho' := ho
      simp [opsregLq13] at ho
      subst ho
      obtain rfl := h12 (hall ⟨12, .guard⟩ (by simp) rfl)
      refine wpOp_on ho' rfl fun K hK => ?_
      refine wp_load_row 38 (.tmp 5) rfl ab rfl 38 ca (0, 0) _ (hA w1 hb) Tryd.underlying38 rfl shA ?_
      exact hK _ _ ⟨y0, y1, y2, y3, y4, y5, y6, y7, y8, y9, y10, y11, _, y13, y14, y15, y16, y17, _, y19, y20, y21, y22, y23, y24, y25, y26, y27, rfl, hb, h0, h1, h2, h3, h4, h5, h6, h7, h8, h9, h10, h11, fun _ => rfl, h13, h14, h15, h16, h17, fun _ => (by first | rfl | simp), h19, h20, h21, h22, h23, h24, h25, h26, h27⟩
    | 19, _ =>
      have ho' := ho
      simp [opsregLq13] at ho
      subst ho
      obtain rfl := h12 (hall ⟨12, .guard⟩ (by simp) rfl)
      obtain rfl := h18 (hall ⟨18, .data⟩ (by simp) rfl)
      refine wpOp_on ho' rfl fun K hK => ?_
      refine wp_build1 41 38 (.tmp 71) rfl ca rfl ca.size z rfl Tryd.underlying41 zi hca hca2 ?_
      have hp2 := hbd _ hb
      have hb2 := (Below.refl w1.heap.size w1).alloc (Nat.le_refl _) (.cells ca 38)
      exact hK _ _ ⟨y0, y1, y2, y3, y4, y5, y6, y7, y8, y9, y10, y11, _, y13, y14, y15, y16, y17, _, _, y20, y21, y22, y23, y24, y25, y26, y27, rfl, (hb.trans (hb2.mono hb.size)), h0, h1, h2, h3, h4, h5, h6, h7, h8, h9, h10, h11, fun _ => rfl, h13, h14, h15, h16, h17, fun _ => rfl, fun _ => hp2, h20, h21, h22, h23, h24, h25, h26, h27⟩
    | 20, _ =>
      have ho' := ho
      simp [opsregLq13] at ho
      subst ho
      obtain rfl := h12 (hall ⟨12, .guard⟩ (by simp) rfl)
      refine wpOp_on ho' rfl fun K hK => ?_
      go_simp
      exact hK _ _ ⟨y0, y1, y2, y3, y4, y5, y6, y7, y8, y9, y10, y11, _, y13, y14, y15, y16, y17, y18, y19, _, y21, y22, y23, y24, y25, y26, y27, rfl, hb, h0, h1, h2, h3, h4, h5, h6, h7, h8, h9, h10, h11, fun _ => rfl, h13, h14, h15, h16, h17, h18, h19, fun _ => (by first | rfl | simp), h21, h22, h23, h24, h25, h26, h27⟩
    | 21, _ =>
      have ho' := ho
      simp [opsregLq13] at ho
      subst ho
      obtain rfl := h12 (hall ⟨12, .guard⟩ (by simp) rfl)
      refine wpOp_on ho' rfl fun K hK => ?_
      go_simp
      exact hK _ _ ⟨y0, y1, y2, y3, y4, y5, y6, y7, y8, y9, y10, y11, _, y13, y14, y15, y16, y17, y18, y19, y20, _, y22, y23, y24, y25, y26, y27, rfl, hb, h0, h1, h2, h3, h4, h5, h6, h7, h8, h9, h10, h11, fun _ => rfl, h13, h14, h15, h16, h17, h18, h19, h20, fun _ => (by first | rfl | simp), h22, h23, h24, h25, h26, h27⟩
    | 22, _ =>
      have ho' := ho
      simp [opsregLq13] at ho
      subst ho
      obtain rfl := h12 (hall ⟨12, .guard⟩ (by simp) rfl)
      obtain rfl := h20 (hall ⟨20, .data⟩ (by simp) rfl)
      obtain rfl := h21 (hall ⟨21, .data⟩ (by simp) rfl)
      refine wpOp_on ho' rfl fun K hK => ?_
      go_simp
      exact hK _ _ ⟨y0, y1, y2, y3, y4, y5, y6, y7, y8, y9, y10, y11, _, y13, y14, y15, y16, y17, y18, y19, _, _, _, y23, y24, y25, y26, y27, rfl, hb, h0, h1, h2, h3, h4, h5, h6, h7, h8, h9, h10, h11, fun _ => rfl, h13, h14, h15, h16, h17, h18, h19, fun _ => rfl, fun _ => rfl, fun _ => (by first | rfl | simp), h23, h24, h25, h26, h27⟩
    | 23, _ =>
      have ho' := ho
      simp [opsregLq13] at ho
      subst ho
      obtain rfl := h12 (hall ⟨12, .guard⟩ (by simp) rfl)
      obtain rfl := h22 (hall ⟨22, .data⟩ (by simp) rfl)
      refine wpOp_on ho' rfl fun K hK => ?_
      have hc0 := hw w1 hb
      go_simp
      exact hK _ _ ⟨y0, y1, y2, y3, y4, y5, y6, y7, y8, y9, y10, y11, _, y13, y14, y15, y16, y17, y18, y19, y20, y21, _, _, y24, y25, y26, y27, rfl, hb, h0, h1, h2, h3, h4, h5, h6, h7, h8, h9, h10, h11, fun _ => rfl, h13, h14, h15, h16, h17, h18, h19, h20, h21, fun _ => rfl, fun _ => (by first | rfl | simp), h24, h25, h26, h27⟩
    | 24, _ =>
      have ho' := ho
      simp [opsregLq13] at ho
      subst ho
      obtain rfl := h12 (hall ⟨12, .guard⟩ (by simp) rfl)
      obtain rfl := h23 (hall ⟨23, .data⟩ (by simp) rfl)
      refine wpOp_on ho' rfl fun K hK => ?_
      go_simp
      exact hK _ _ ⟨y0, y1, y2, y3, y4, y5, y6, y7, y8, y9, y10, y11, _, y13, y14, y15, y16, y17, y18, y19, y20, y21, y22, _, _, y25, y26, y27, rfl, hb, h0, h1, h2, h3, h4, h5, h6, h7, h8, h9, h10, h11, fun _ => rfl, h13, h14, h15, h16, h17, h18, h19, h20, h21, h22, fun _ => rfl, fun _ => (by first | rfl | simp), h25, h26, h27⟩
    | 25, _ =>
      have ho' := ho
      simp [opsregLq13] at ho
      subst ho
      obtain rfl := h12 (hall ⟨12, .chain⟩ (by simp) rfl)
      have p19 := h19 (hall ⟨19, .data⟩ (by simp) rfl)
      obtain rfl := h24 (hall ⟨24, .data⟩ (by simp) rfl)
      refine wpOp_on ho' rfl fun K hK => ?_
      go_simp
      go_at_call 12
      refine (hc _ _ hb p19).mono ?_
      rintro e w2 ⟨rfl, hb2⟩
      exact hK _ _ ⟨y0, y1, y2, y3, y4, y5, y6, y7, y8, y9, y10, y11, _, y13, y14, y15, y16, y17, y18, y19, y20, y21, y22, y23, _, _, y26, y27, rfl, (hb.trans (hb2.mono hb.size)), h0, h1, h2, h3, h4, h5, h6, h7, h8, h9, h10, h11, fun _ => rfl, h13, h14, h15, h16, h17, h18, fun q => hP3 _ _ _ (h19 q) hb2, h20, h21, h22, h23, fun _ => rfl, fun _ => (by first | rfl | simp), h26, h27⟩
    | 26, _ =>
      have ho' := ho
      simp [opsregLq13] at ho
      subst ho
      obtain rfl := h12 (hall ⟨12, .guard⟩ (by simp) rfl)
      obtain rfl := h17 (hall ⟨17, .data⟩ (by simp) rfl)
      obtain rfl := h25 (hall ⟨25, .data⟩ (by simp) rfl)
      refine wpOp_on ho' rfl fun K hK => ?_
      go_simp
      exact hK _ _ ⟨y0, y1, y2, y3, y4, y5, y6, y7, y8, y9, y10, y11, _, y13, y14, y15, y16, _, y18, y19, y20, y21, y22, y23, y24, _, _, y27, rfl, hb, h0, h1, h2, h3, h4, h5, h6, h7, h8, h9, h10, h11, fun _ => rfl, h13, h14, h15, h16, fun _ => rfl, h18, h19, h20, h21, h22, h23, h24, fun _ => rfl, fun _ => (by first | rfl | simp), h27⟩
    | 27, _ =>
      have ho' := ho
      simp [opsregLq13] at ho
      subst ho
      obtain rfl := h12 (hall ⟨12, .data⟩ (by simp) rfl)
      obtain rfl := h26 (hall ⟨26, .data⟩ (by simp) rfl)
      refine wpOp_one ho' rfl fun K hK => ?_
      go_simp
      exact hK _ _ ⟨y0, y1, y2, y3, y4, y5, y6, y7, y8, y9, y10, y11, _, y13, y14, y15, y16, y17, y18, y19, y20, y21, y22, y23, y24, y25, _, _, rfl, hb, h0, h1, h2, h3, h4, h5, h6, h7, h8, h9, h10, h11, fun _ => rfl, h13, h14, h15, h16, h17, h18, h19, h20, h21, h22, h23, h24, h25, fun _ => rfl, fun _ => (by first | rfl | simp)⟩
    | k + 28, hi => omega
end Go.Proofs.YtnmjicfpmkoldaaDoor.Lc
namespace Go.Proofs.YtnmjicfpmkoldaaDoor.Lc
open Go.RowKit Go.Maps Go.Shelf
attribute [local go_sem] nodeAgg
theorem infoTA:(Tryd.prog.info? 38).map (fun i=>(i.zero,i.size))=some (some (.agg #[.int .i64 0,.int .u64 0,.int .u64 0,.int .u64 0,.int .u64 0,.slice none 0 0,.int .i64 0,.int .i64 0,.slice none 0 0,.slice none 0 0,.slice none 0 0,.slice none 0 0,.slice none 0 0,.slice none 0 0,.bool false]),15):=by kernel_rfl
theorem sizeTA:(Tryd.prog.info? 38).map (·.size)=some 15:=by kernel_rfl
def AuO (u:T) (w:World) (e:Ending) (w':World):Prop:=∃ (ca:Array Value) (ok:Bool),e=.returned (.tuple #[.agg ca,.bool ok])∧ca.size=15∧ca.all (·.oneCell')=true∧(ok=true→∃ (B:Nat) (a:Au) (m:PM) (L:Nat→List Mv),AuG B w' u a m L∧ca=#[.int .i64 a.k,.int .u64 (a.s0:Nat),.int .u64 (a.s1:Nat),.int .u64 (a.s2:Nat),.int .u64 (a.s3:Nat),.slice a.ta a.tn a.tc,.int .i64 a.lo,.int .i64 a.hi,.slice a.sA a.n a.sC,.slice a.cA a.cN a.cC,.slice (some ⟨a.ga,0,none⟩) a.n a.aC,.slice a.fA a.fN a.fC,.slice (some ⟨a.mb,0,none⟩) a.n a.n,.slice (some ⟨a.lb,0,none⟩) a.n a.n,.bool a.em])∧Below w.heap.size w w'
theorem auO_any (t:V) (w:World) (R:Nat→Prop) (ht:Laid w R t) (hT:TabE w) (hTl:tabE<w.heap.size):Calls Tryd.prog 6 #[nodeAgg t] w (AuO (erase t) w) :=
 (auto_any t w R ht hT hTl).mono fun e w' ⟨h,hb⟩=>by
  rcases h with ⟨rfl,_⟩ | ⟨B,a,m,L,hG,rfl⟩
  ·exact ⟨_,_,rfl,rfl,by simp [Value.oneCell'],fun h=>(by cases h),hb⟩
  ·exact ⟨_,_,rfl,rfl,by simp [Value.oneCell'],fun _=>⟨B,a,m,L,hG,rfl⟩,hb⟩
set_option maxHeartbeats 8000000 in
set_option maxRecDepth 100000 in
theorem plain13_walk (t:V) (v1:Value) (u:List Nat) (w:World) (R:Nat→Prop) (ht:Laid w R t) (hgd:Good t) (hT:TabE w) (hTl:tabE<w.heap.size) (hu:WrdR w v1 u) :
  Calls Tryd.prog 4 #[nodeAgg t,v1] w fun e w'=>e=.returned (.bool true)∧Below w.heap.size w w':=by
 obtain ⟨sa,sc,hva,_⟩:=laid_row' ht
 obtain ⟨sn,hsn⟩ : ∃ sn,sn=t.ps.length:=⟨_,rfl⟩
 rw [← hsn] at hva
 obtain ⟨wA,hwA,hbA,hltA,hbx⟩:=box_new w t (.slice sa sn sc)
 have HAa:=Lib.hid (fun (W:World) (h:Below w.heap.size w W)=>show Calls Tryd.prog 6 #[.agg #[.int .i64 t.kind,.int .u64 (t.set 0:Nat),.int .u64 (t.set 1:Nat),.int .u64 (t.set 2:Nat),.int .u64 (t.set 3:Nat),.slice sa sn sc,.int .i64 t.lo,.int .i64 t.hi]] W (AuO (erase t) W) from by
  have:=auO_any t W R (laid_low ht h) (tab_below hT hTl h) (Nat.lt_of_lt_of_le hTl h.size)
  rw [nodeAgg_v hva] at this
  exact this)
 have HW:=Lib.hid (fun (W:World) (h:Below w.heap.size w W)=>hu.below h)
 have HGD:=Lib.hid hgd
 obtain ⟨A1,c1,rfl,hu0⟩:=hu
 obtain ⟨un,hun⟩ : ∃ n,n=u.length:=⟨_,rfl⟩
 have HL:=Lib.hid hun
 rw [← hun] at HW ⊢
 rw [nodeAgg_v hva]
 have HX:=Lib.hid (fun (W:World) (h:Below wA.heap.size wA W)=>hbx W h)
 have HB0:=Lib.hid hbA
 clear ht hgd hva hsn hT hTl hu0 hun hbx hbA hltA
 go_enter Tryd.func4,Tryd.ntmps4
 go_upto_region 1 with fail
 clear hwA
 go_wp2_with fail
 go_at_call 5
 refine (awake13_any _).mono ?_
 rintro e w2 ⟨rfl,hb2⟩
 have HB2:=Lib.hid (bhop HB0.out hb2)
 have HC2:=Lib.hid hb2
 clear hb2
 by_cases h1:300<un
 ·have h1':(300:Int)<(un:Int):=by omega
  go_wp2_with fail
  go_at_call 5
  refine (awake13_any _).mono ?_
  rintro e w3 ⟨rfl,hb3⟩
  have HB3:=Lib.hid (bhop HB2.out hb3)
  clear hb3
  go_wp2_with fail
  go_ret
  exact ⟨rfl,HB3.out⟩
 have h1':¬ (300:Int)<(un:Int):=by omega
 have HU4:=Lib.hid (show u.length≤300 by have:=HL.out;omega)
 obtain ⟨x0,x1,x2,x3,x4,x5,x6,x7⟩:=HX.out w2 HC2.out
 go_wp2_with fail
 go_at_call 6
 refine Calls.mono (HAa.out w2 HB2.out) ?_
 rintro e w3 ⟨ca,oka,rfl,sza,one,hGa,hb3⟩
 obtain ⟨w4,hw4⟩ : ∃ w4,w4=w3.alloc (.cells ca 38):=⟨_,rfl⟩
 have hb4:Below w3.heap.size w3 w4:=by rw [hw4];exact (Below.refl _ _).alloc (Nat.le_refl _) _
 have hh4:w4.heap[w3.heap.size]? = some (.cells ca 38 (0,0)):=by rw [hw4];exact heap_alloc_new w3 _
 have HWE:=Lib.hid hw4
 have HB4:=Lib.hid (bhop HB2.out (bhop hb3 hb4))
 have HG4:=Lib.hid (And.intro (Array.getElem?_eq_some_iff.1 hh4).1 (And.intro hh4 (And.intro hb4 (And.intro sza hGa))))
 clear hw4 hb4 hh4 hb3 hGa x0 x1 x2 x3 x4 x5 x6 x7
 go_upto_region 4 with (refine wpList_store_row (by rfl) 38 (.tmp 5) (.tmp 22) (by rfl) w3.heap.size ca (by rfl) (by rfl) 38 #[.int .i64 0,.int .u64 0,.int .u64 0,.int .u64 0,.int .u64 0,.slice none 0 0,.int .i64 0,.int .i64 0,.slice none 0 0,.slice none 0 0,.slice none 0 0,.slice none 0 0,.slice none 0 0,.slice none 0 0,.bool false] (heap_alloc_new w3 _) (by rw [sza];exact sizeTA) (by rw [sza];rfl) one ?_;rw [World.setRow_alloc_new])
 rw [← HWE.out]
 clear HWE sza one
 cases oka with
 | false =>
  go_wp2_with fail
  go_ret
  exact ⟨rfl,HB4.out⟩
 | true =>
 obtain ⟨Ba,xa,ma,La,ga,ea⟩:=HG4.out.2.2.2.2 rfl
 have sza:ca.size=15:=HG4.out.2.2.2.1
 have hCa:=map_cl HGD.out ga.map
 have hea:ca.toList=auC xa:=by rw [ea];rfl
 have HAUS:=Lib.hid (fun (W:World) (h:Below w4.heap.size w4 W) (g:Nat) (hg:W.heap[g]? = some (.cells ca 38 (0,0)))=>show AusR W (some ⟨g,0,none⟩) [(xa,ma)] from fun i x hx=>by
  match i,hx with
  | 0,hx =>
   obtain rfl:(xa,ma)=x:=by simpa using hx
   refine ⟨g,rfl,(Array.getElem?_eq_some_iff.1 hg).1,fun j v hv=>?_,hCa,_,_,_,ga.au.below (bhop HG4.out.2.2.1 h)⟩
   have hv':(auC xa)[j]? = some v:=hv
   rw [(row_cells hg).1,Nat.zero_mul,Nat.zero_add,← Array.getElem?_toList,hea]
   exact hv'
  | i+1,hx=>simp at hx)
 obtain ⟨w5,hw5⟩ : ∃ w5,w5=w4.alloc (.cells ca 38):=⟨_,rfl⟩
 have hb5:Below w4.heap.size w4 w5:=by rw [hw5];exact (Below.refl _ _).alloc (Nat.le_refl _) _
 have hh5:w5.heap[w4.heap.size]? = some (.cells ca 38 (0,0)):=by rw [hw5];exact heap_alloc_new w4 _
 have HM:=Lib.hid (make_any w5 (some ⟨w4.heap.size,0,none⟩) [(xa,ma)] 1 (HAUS.out w5 hb5 _ hh5) (by simp))
 have HPL:=Lib.hid (fun (W:World) (g b:Nat) (h:Below w4.heap.size w4 W) (hg:W.heap[g]? = some (.cells ca 38 (0,0))) (hb:b<256)=>plain13_any W g 1 xa ma (HAUS.out W h g hg) b hb)
 have hal:=alike_AlR (setsL [(xa,ma)])
 obtain ⟨r,hr⟩ : ∃ r,r=AlR (setsL [(xa,ma)]):=⟨_,rfl⟩
 rw [← hr] at HM HPL hal
 have HAL:=Lib.hid (And.intro hal (show ∃ M,M=news r 256 from ⟨_,rfl⟩))
 have HB5:=Lib.hid hb5
 have HSZ:=Lib.hid (And.intro (show (Tryd.prog.info? 38).map (·.size)=some ca.size by rw [sza];exact sizeTA) sza)
 have HW5:=Lib.hid hw5
 have hA4:=HG4.out.2.1
 clear hCa hea hw5 hb5 hh5 hal hr ga ea sza
 go_upto_region 6 with fail
 go_wp2_with (first
  | (refine wpList_load_row (by rfl) 38 (.tmp 5) (by rfl) w3.heap.size (by rfl) 38 ca (0,0) _ hA4 Tryd.underlying38 rfl HSZ.out.1 ?_)
  | (refine wpList_plain (by rfl) fun K hK=>wp_build1 41 38 (.tmp 26) (by rfl) ca (by rfl) 15 _ HSZ.out.2 Tryd.underlying41 infoTA (by omega) (by omega) (hK _ _ ?_);rw [← HW5.out]))
 go_at_call 7
 refine Calls.mono HM.out ?_
 rintro e w6 ⟨g,rfl,hrow6,hb6⟩
 obtain ⟨M,hM⟩:=HAL.out.2
 rw [← hM] at hrow6 ⊢
 have hzero:=(zero_of_info infoLt).1
 obtain ⟨c0,hc0⟩ : ∃ c0,c0=ltA (.slice none 0 0) zeros:=⟨_,rfl⟩
 rw [← hc0] at hzero
 have hs0:c0.size=257:=by rw [hc0];exact ltA_size _ _
 obtain ⟨cx,hcx⟩ : ∃ cx,cx=ltA (.slice (some ⟨g,0,none⟩) M M) (nm r):=⟨_,rfl⟩
 have hs2:cx.size=257:=by rw [hcx];exact ltA_size _ _
 have ho2:cx.all (·.oneCell')=true:=by rw [hcx];exact ltA_one rfl _
 have hx:LtrB (w6.alloc (.cells cx 44)) w6.heap.size (.slice (some ⟨g,0,none⟩) M M) (nm r):=by rw [hcx];exact heap_alloc_new w6 _
 have HCX:=Lib.hid hcx
 rw [← hcx]
 obtain ⟨w7,hw7⟩ : ∃ w7,w7=w6.alloc (.cells cx 44):=⟨_,rfl⟩
 have hb7:Below w6.heap.size w6 w7:=by rw [hw7];exact (Below.refl _ _).alloc (Nat.le_refl _) _
 rw [← hw7] at hx
 have HWE:=Lib.hid hw7
 have H7:=Lib.hid (And.intro (bhop HB5.out (bhop hb6 hb7)) (And.intro hx (hrow6.below hb7)))
 have HMM:=Lib.hid hM
 clear hw7 hb7 hx hrow6 hb6 hcx hc0 hA4 hM
 go_upto_region 7 with (refine wpList_store_row (by rfl) 44 (.tmp 7) (.tmp 28) (by rfl) w6.heap.size cx (by rfl) (by rfl) 44 c0 (heap_alloc_new w6 _) (by rw [hs2];exact sizeLt) (by rw [hs0,hs2]) ho2 ?_;rw [World.setRow_alloc_new])
 rw [← HWE.out]
 have HS2:=Lib.hid hs2
 clear HWE ho2 hs0 hzero hs2
 have HX7:=Lib.hid (fun (W:World) (h:Below w7.heap.size w7 W)=>show LtrB W w6.heap.size (.slice (some ⟨g,0,none⟩) M M) (nm r) from H7.out.2.1.below h)
 have HWW:=Lib.hid (fun (W:World) (h:Below w7.heap.size w7 W)=>HW.out W (bhop HB4.out (bhop H7.out.1 h)))
 refine regLq7 cx w6.heap.size (.slice A1 un c1) (fun W v=>∃ sb,v=.slice (some ⟨sb,0,none⟩) un un∧W.heap[sb]? = some (.cells (pB .i64 un (fun j=>if j<un then nm r (u.getD j 0) else 0)) 3 (0,0))) (fun W v=>∃ pb,v=.slice (some ⟨pb,0,none⟩) un un∧WrdR W (.slice (some ⟨pb,0,none⟩) un un) (u.map (fst r))) _ _ _ _ _ _ _ _ _ _ _ _ _ _ _ _ _ _ _ _ _ _ _ _ _ _ _ _ _ _ _ _ _ _ _ _ _ _ _ _ _ _ _ _ _ _ _ _ _ _ _ _ _ _ _ _ _ _ _ _ _ _ _ _ _ _ _ _ _ _ _ _ _ _ _ _ _ _ _ _ w7 (fun W h=>by rw [HCX.out];exact HX7.out W h) (by rw [HS2.out];exact sizeLt)
  (fun W v W' ⟨sb,e,h⟩ hb=>⟨sb,e,(hb.block sb (Array.getElem?_eq_some_iff.1 h).1).trans h⟩) (fun W v W' ⟨pb,e,h⟩ hb=>⟨pb,e,h.below hb⟩)
  (fun W h=>by
   have:=spell_any W A1 c1 u r g M HAL.out.1 HMM.out (H7.out.2.2.below h) (by have:=HWW.out W h;rw [HL.out] at this;exact this) (by have:=HU4.out;omega)
   rw [← HCX.out,← HL.out] at this
   exact this.mono fun e w2 ⟨sb,e1,e2,e3⟩=>⟨_,e1,⟨sb,rfl,e2⟩,e3⟩)
  (fun W h=>by
   have:=plain_any W A1 c1 u r g M HAL.out.1 HMM.out (H7.out.2.2.below h) (by have:=HWW.out W h;rw [HL.out] at this;exact this) (by have:=HU4.out;omega)
   rw [← HCX.out,← HL.out] at this
   exact this.mono fun e w2 ⟨pb,e1,e2,e3⟩=>⟨_,e1,⟨pb,rfl,e2⟩,e3⟩) _ ?_
 intros
 rename_i w9 hb9 hp8 hp9
 obtain ⟨sb,rfl,hsb⟩:=hp8
 obtain ⟨pb,rfl,hpb⟩:=hp9
 have H9:=Lib.hid (And.intro hb9 (And.intro hsb hpb))
 clear hb9 hsb hpb
 go_wp2_with fail
 go_loopw [10] (fun v10 wr=>∃ i:Nat,v10=.int .i64 i∧i≤un∧Below w9.heap.size w9 wr) (fun v10 _=>match v10 with | .int _ z=>un - z.toNat | _=>0)
 case atStart=>exact ⟨0,rfl,Nat.zero_le _,Below.refl _ _⟩
 case round =>
  obtain ⟨i,rfl,hi1,hbw⟩:=hrel
  by_cases him:i<un
  ·have s1:(0:Int)≤(i:Int):=by omega
   have s2:(i:Int)<(un:Int):=by omega
   have s3:((i:Int)).toNat=i:=by omega
   have hw1:IntKind.i64.wrap ((i:Int)+1)=((i+1:Nat):Int):=by have:=HU4.out;have:=HL.out;rw [IntKind.wrap_i64];omega
   have hcs:=HWW.out wr (bhop H9.out.1 hbw)
   obtain ⟨A',c',ev,hcells⟩:=hcs
   obtain ⟨b,hub⟩ : ∃ b,u[i]? = some b:=⟨_,List.getElem?_eq_getElem (by rw [← HL.out];exact him)⟩
   obtain ⟨hb256,gw,oa,eA,hgw,hcell⟩:=hcells i b hub
   rw [eA] at ev
   simp only [Value.slice.injEq] at ev
   obtain ⟨rfl,_,_⟩:=ev
   have t1:(0:Int)≤(b:Int):=by omega
   have t2:(b:Int)<256:=by omega
   have t3:((b:Int)).toNat=b:=by omega
   have hf:=(fst_spec HAL.out.1 b).1
   have wf:IntKind.i64.wrap ((fst r b:Nat):Int)=((fst r b:Nat):Int):=by rw [IntKind.wrap_i64];omega
   have wb:IntKind.i64.wrap (b:Int)=(b:Int):=by rw [IntKind.wrap_i64];omega
   have hgd:u.getD i 0=b:=by rw [List.getD_eq_getElem?_getD,hub];rfl
   have hpc:∀ W,Below wr.heap.size wr W→W.cell? ⟨pb,i,none⟩=some (.int .u8 ((fst r b:Nat):Int)):=fun W h=>by
    obtain ⟨A2,c2,ev2,hc2⟩:=H9.out.2.2
    obtain ⟨_,g2,o2,e2,h2,h3⟩:=hc2 i (fst r b) (by rw [List.getElem?_map,hub];rfl)
    rw [e2] at ev2
    simp only [Value.slice.injEq,Option.some.injEq,Addr.mk.injEq,and_true] at ev2
    obtain ⟨⟨rfl,rfl⟩,_⟩:=ev2
    rw [Nat.zero_add] at h3
    exact ((bhop hbw h).cell (p:=⟨pb,i,none⟩) h2).trans h3
   have hsc:∀ W,Below wr.heap.size wr W→W.cell? ⟨sb,i,none⟩=some (.int .i64 ((nm r b:Nat):Int)):=fun W h=>by
    have h1:=(hbw.block sb (Array.getElem?_eq_some_iff.1 H9.out.2.1).1).trans H9.out.2.1
    have h2:=(h.block sb (Array.getElem?_eq_some_iff.1 h1).1).trans h1
    rw [(row_cells h2).1,pB_get .i64 _ him,if_pos him,hgd]
   have HI:=Lib.hid (And.intro hbw (And.intro (show i+1≤un from him) (And.intro hpc (And.intro hsc (And.intro hb256 (And.intro hcell hgw))))))
   clear hbw hi1 him hcells hub hb256 eA hcell hgw hgd hpc hsc hf
   go_upto_region 13 with fail
   refine regLq13 ca w3.heap.size w6.heap.size gw oa un c1 sb pb i b (nm r b) (fst r b) (.agg #[.int .i64 0,.int .u64 0,.int .u64 0,.int .u64 0,.int .u64 0,.slice none 0 0,.int .i64 0,.int .i64 0,.slice none 0 0,.slice none 0 0,.slice none 0 0,.slice none 0 0,.slice none 0 0,.slice none 0 0,.bool false]) (fun W v=>∃ g,v=.slice (some ⟨g,0,none⟩) 1 1∧W.heap[g]? = some (.cells ca 38 (0,0))) _ _ _ _ _ _ _ _ _ _ _ _ _ _ _ _ _ _ _ _ _ _ _ _ _ _ _ _ _ _ _ _ _ _ _ _ _ _ _ _ _ _ _ _ _ _ _ _ _ _ _ _ _ _ _ _ _ _ _ _ _ _ _ _ _ _ _ _ _ _ _ _ _ _ _ _ wr (fun W h=>(bhop H7.out.1 (bhop H9.out.1 (bhop HI.out.1 h))).block _ HG4.out.1 |>.trans HG4.out.2.1) HSZ.out.1 (fun W h=>HI.out.2.2.2.1 W h) (fun W h=>(h.cell (p:=⟨gw,oa+i,none⟩) HI.out.2.2.2.2.2.2).trans HI.out.2.2.2.2.2.1) (fun W h=>(HX7.out W (bhop H9.out.1 (bhop HI.out.1 h))).of HI.out.2.2.2.2.1) (fun W h=>HI.out.2.2.1 W h) s1 s2 s3 t1 t2 t3 wf wb
    (fun W v W' ⟨g,e,h⟩ hb=>⟨g,e,(hb.block g (Array.getElem?_eq_some_iff.1 h).1).trans h⟩) (by rw [HSZ.out.2];exact infoTA) (by rw [HSZ.out.2];omega) (by rw [HSZ.out.2];omega) (fun W h=>⟨_,rfl,heap_alloc_new W _⟩)
    (fun W v h ⟨g,e,hg⟩=>by rw [e];exact HPL.out W g b (bhop H7.out.1 (bhop H9.out.1 (bhop HI.out.1 h))) hg HI.out.2.2.2.2.1) _ ?_
   intros
   rename_i w20 hb20
   have HB20:=Lib.hid (bhop HI.out.1 hb20)
   clear hb20
   go_wp2_with fail
   go_roundw
   case rel=>exact ⟨i+1,by push_cast;rfl,HI.out.2.1,HB20.out⟩
   case measure=>have:=HI.out.2.1;simp;omega
  ·have s2:¬ (i:Int)<(un:Int):=by omega
   have HE:=Lib.hid (bhop HB4.out (bhop H7.out.1 (bhop H9.out.1 hbw)))
   clear hbw
   go_wp2_with fail
   go_ret
   exact ⟨rfl,HE.out⟩
end Go.Proofs.YtnmjicfpmkoldaaDoor.Lc
namespace Go.Proofs.YtnmjicfpmkoldaaDoor
open Go.ChangeShapes Go.WideShapes Go.ChangeAt Go.RowKit Go.Deep
theorem cellsU8n:Tryd.prog.cellsOf 5=1:=by kernel_rfl
theorem add_midn (b o i:Nat):(⟨b,o,none⟩ : Addr).add i=⟨b,o+i,none⟩:=by
 unfold Addr.add
 split
 ·rename_i h;subst h;rfl
 ·rfl
theorem trod_bytes8 {H:Type} {enc:TypeId×Value→H} {w:World} {base:Nat} {spare:Nat→Bool} {held:Bool} {fuel:Nat} {cs:List Value} {x:DataW H×List MemPlace} (h:DataW.trod enc Tryd.prog w base spare held fuel 53 cs=some x) :
  ∃ v l,cs=[v]∧WrdR w v l∧l.length≤maxLen:=by
 rcases open_slice1 Tryd.underlying53 cellsU8n h with ⟨e,_⟩ | ⟨a,len,cap,m,n,V,D,Pl,rfl,_,hlc,hcm,hm,_,hV⟩
 ·exact ⟨_,[],e,⟨none,0,rfl,fun i x hi=>by simp at hi⟩,by simp⟩
 ·have hlm:len≤m:=by rw [hm];split <;> omega
  have hex:∀ i,i<len→∃ k:Nat,V i=.int .u8 (k:Int)∧k<256:=fun i hi=>by
   obtain ⟨h1,h2⟩:=hV i (by omega)
   obtain ⟨k,e,_,hb⟩:=DataW.trod_int Tryd.underlying5 h2
   simp at e
   have hk:=bounds_u8 hb
   exact ⟨k.toNat,by rw [e,Int.toNat_of_nonneg hk.1],by omega⟩
  obtain ⟨f,hf⟩:=choose_lt hex
  refine ⟨_,(List.range len).map f,rfl,⟨some a,cap,by simp,fun i x hi=>?_⟩,by simp;omega⟩
  have hil:=(List.getElem?_eq_some_iff.1 hi).1
  simp at hil
  rw [List.getElem?_map,List.getElem?_range hil] at hi
  obtain rfl:=Option.some.inj hi
  obtain ⟨h1,h2⟩:=hf i hil
  have hc:=(hV i (by omega)).1
  obtain ⟨b,off,spot⟩:=a
  have hspot:spot=none:=by
   have:=World.cell?_spot (hV 0 (by omega)).1
   unfold Addr.add at this
   rw [if_pos rfl] at this
   exact this
  subst hspot
  rw [add_midn,h1] at hc
  exact ⟨h2,b,off,rfl,World.block_lt_of_cell? _ _ hc,hc⟩
set_option maxRecDepth 100000 in
theorem open_bytes8 {H:Type} {enc:TypeId×Value→H} {w:World} {base:Nat} {spare:Nat→Bool} {held:Bool} {v:Value} {d:DataW H} {p:List MemPlace} {r:Reach} {b0:Nat} (hv:Value.okWide Tryd.prog w r b0 53 v) (h:DataW.Trod enc Tryd.prog w base spare held 53 v d p):∃ l,WrdR w v l∧l.length≤maxLen:=by
 obtain ⟨fuel,hf⟩:=h
 obtain ⟨v',l,e,h1,h2⟩:=trod_bytes8 hf
 obtain ⟨a0,l0,c0,rfl⟩:=okWide_slice Tryd.underlying53 hv
 obtain rfl:Value.slice a0 l0 c0=v':=by simpa [Value.cells] using e
 exact ⟨l,h1,h2⟩
end Go.Proofs.YtnmjicfpmkoldaaDoor
namespace Go.Proofs.YtnmjicfpmkoldaaDoor
open Go.ChangeShapes Go.WideShapes Go.ChangeAt Go.RowKit
theorem lettersPlainOwn:ownKnob Tryd.prog.godebug=none:=by kernel_rfl
theorem lettersPlainLaidOut:laidOutB Tryd.prog=true:=by kernel_rfl
theorem lettersPlainAgg (t:V):nodeAgg t=.agg (ndc t).toArray:=rfl
theorem lettersPlainDoor (os:Os) (args:Array Value):laidMetH Tryd.prog Rows.lettersPlainRow.laid ((World.doorLaid Tryd.prog 400 os).forCall (fun _ _=>0) ⟨#[],args,[]⟩).memory :=
 laidMetH_of_parts3 (fuel:=8) (laidMet_of_run' 8 (by kernel_rfl) (by kernel_rfl)) (by kernel_rfl) (by kernel_rfl)
set_option maxRecDepth 100000 in
theorem lettersPlain_lifted (os:Os) (started:os.Started) (H:Type) (enc:TypeId×Value→H) :
  ReturnsInHanded {} Tryd.checked os 4 .any (fun w args=>(Rows.lettersPlainSpec.pre enc Tryd.prog Tryd.f4 Rows.lettersPlainRow.domain false w args∧laidMetH Tryd.prog Rows.lettersPlainRow.laid w)∧sizedMet enc Tryd.prog Tryd.f4 (OpenSpec.ofChange Rows.lettersPlainSpec) false w args)
   (Rows.lettersPlainSpec.post enc Tryd.prog Tryd.f4 false true false false):=by
 refine returnsInHanded_of_change_and (C:=Tryd.checked) (X:=fun w _=>laidMetH Tryd.prog Rows.lettersPlainRow.laid w) (fun _ _ _ hh h=>h.of_heap hh) lettersPlainOwn started (by kernel_rfl) Tryd.func4
  (ChangeSpec.witness_shaped (enc:=enc) (C:=Tryd.checked) (os:=os) (X:=fun w _=>laidMetH Tryd.prog Rows.lettersPlainRow.laid w) false (World.doorLaid Tryd.prog 400 os) #[.agg #[.int .i64 0,.int .u64 0,.int .u64 0,.int .u64 0,.int .u64 0,.slice none 0 0,.int .i64 0,.int .i64 0],.slice none 0 0] 8 rfl (World.shaped_of_RefB (by kernel_rfl) (by kernel_rfl)) (by kernel_rfl) (by kernel_rfl) (by kernel_rfl) (lettersPlainDoor os _)) ?_
 intro W base args ds gs before hval0 hW _ _ hLaid _
 have hval:∀ (j:Nat) t v,Tryd.f4.params[j]? = some t→args[j]? = some v→Value.okWide Tryd.prog W .any base t v:=hval0
 have hW':=hW
 obtain ⟨hT,hTl⟩:=tab_laid hLaid
 obtain ⟨p,q,hA0,hV,rfl,hfz,hnd⟩:=hW
 have hA:DataW.TrodAll enc Tryd.prog W 0 (fun _=>true) true Tryd.f4.params.toList args.toList ds p:=hA0
 rw [Tryd.params4] at hA hval
 obtain ⟨v0,vs0,d0,ds0,p0,q0,hargs,rfl,rfl,h0,rr0⟩:=trodAll_cons hA
 obtain ⟨v1,vs1,d1,ds1,p1,q1,rfl,rfl,rfl,h1,rr1⟩:=trodAll_cons rr0
 obtain ⟨rfl,rfl,rfl⟩:=trodAll_nil rr1
 obtain rfl:args=#[v0,v1]:=by cases args;simp_all
 obtain ⟨rfl,rfl⟩:=trodVars_none hV
 have k0:=h0
 have lt0:∀ x∈p0,x.block<W.heap.size:=by obtain ⟨m,hm⟩:=k0;exact DataW.trod_lt m _ _ _ hm
 have k1:=h1
 have lt1:∀ x∈p1,x.block<W.heap.size:=by obtain ⟨m,hm⟩:=k1;exact DataW.trod_lt m _ _ _ hm
 obtain ⟨t0,rfl,l0,gd0⟩:=open_tree (hval 0 27 v0 rfl rfl) h0
 obtain ⟨wd1,hwd1,_⟩:=open_bytes8 (hval 1 53 v1 rfl rfl) h1
 clear hA0 hval0
 rw [← lettersPlainAgg] at *
 refine (Lc.plain13_walk t0 v1 wd1 W _ l0 gd0 hT hTl hwd1).mono fun e W' ⟨he,bel⟩=>?_
 subst he
 exact ⟨_,rfl,_,_,_,[],_,[],hW',trodAll_mk1 (shut_bool Tryd.underlying4 _),(trodAll_cons_mk (Below.trod lettersPlainLaidOut (by kernel_rfl) (of_decide_eq_true (by kernel_rfl)) k0 bel lt0) (trodAll_cons_mk (Below.trod lettersPlainLaidOut (by kernel_rfl) (of_decide_eq_true (by kernel_rfl)) k1 bel lt1) trodAll_mk0)),rfl,bel.frame _,fun h=>by cases h⟩
theorem lettersPlain_holds:Rows.LettersPlainSaid :=
 OpenClaim.holds_of_wide 4 Tryd.f4 rfl rfl rfl rfl rfl rfl rfl ⟨rfl,rfl,rfl,rfl,rfl⟩ rfl rfl rfl rfl rfl (by kernel_rfl) Tryd.func4 (by kernel_rfl)
  (of_decide_eq_true (by kernel_rfl)) (by unfold Func.isWrapper;rw [if_neg (of_decide_eq_false (by kernel_rfl))];exact ⟨rfl,rfl⟩)
  (fun os started H enc _=>lettersPlain_lifted os started H enc)
theorem lettersPlain_card_holds:Rows.LettersPlainCardSaid :=
 Claim7.holds_tied_plain_at .later [] [.data] true _ false
  lettersPlain_holds (fun _ h=>by cases h) (by kernel_rfl) (fun _ h=>by cases h) lettersPlain_row_tie rfl ⟨rfl,rfl⟩ (by kernel_rfl) rfl
  (fun f fn hf hfn=>by
   obtain rfl:f=4:=Option.some.inj ((show Tryd.prog.funcNamed "ostinato/ostinatolaw13.LettersPlain" = some 4 by kernel_rfl).symm.trans hf) |>.symm
   obtain rfl:fn=Tryd.f4:=(Option.some.inj (Tryd.func4.symm.trans hfn)).symm
   exact ⟨by kernel_rfl,fun j t ht=>by
    rw [Tryd.params4] at ht
    have hm:t∈[27,53]:=by simpa using Array.mem_of_getElem? ht
    have hall:([27,53].all fun u=>!Tryd.prog.wantsStandIn u)=true:=by kernel_rfl
    exact (show Tryd.prog.wantsStandIn t=false by simpa using List.all_eq_true.1 hall t hm)⟩)
  (by kernel_rfl)
#print axioms lettersPlain_card_holds
end Go.Proofs.YtnmjicfpmkoldaaDoor
