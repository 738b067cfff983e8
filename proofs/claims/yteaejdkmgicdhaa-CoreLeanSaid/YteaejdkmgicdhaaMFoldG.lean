/- The simple tree of a formed tree, with whether it is nullable: core.fold by simpleOf: the contract.
   Conditions: the tree lies in memory, is formed, and has at most 300000 nodes. -/
import Derived.Test.YteaejdkmgicdhaaMQ
import Derived.Test.YteaejdkmgicdhaaMFoldS
import Derived.Test.YteaejdkmgicdhaaMNS
import Derived.Deep.RegionWith
import Derived.Deep.RegionLaw
import Derived.Deep.AppendLies

/- The simple tree of a formed tree, with whether it is nullable: core.fold by simpleOf: the contract.
   Conditions: the tree lies in memory, is formed, and has at most 300000 nodes. -/
namespace Go.Proofs.Yteaejdkmgicdhaa
open Go.RowKit Go.Shelf

abbrev l9 (t : V) (v : Value) (n : Bool) : List Value := [.int .i64 t.kind, .int .u64 (t.set 0 : Nat), .int .u64 (t.set 1 : Nat), .int .u64 (t.set 2 : Nat), .int .u64 (t.set 3 : Nat), v, .int .i64 t.lo, .int .i64 t.hi, .bool n]
def SG (t : V) : Prop := okF t ∧ szT (erase t) ≤ 300000
theorem sg_part {t p : V} (h : SG t) (hp : p ∈ flatsV t.kind t.ps) : SG p := by
  have hoks : oksT (erases t.ps) = true := by
    have h := h.1
    unfold okF at h
    cases t with
    | node k C lo hi v ps => rw [erase] at h; exact ok_parts h
  refine ⟨flats_okF t.kind hoks p hp, ?_⟩
  have h1 := flatsw_sz t.kind t.ps
  have h2 := sz_eq t
  have h3 := h.2
  have h4 : szT (erase p) ≤ szsT (erases (flatsV t.kind t.ps)) := sz_mem' (by rw [erases_map]; exact List.mem_map_of_mem hp)
  omega
def LFoldG (w : World) (B : Nat) (root : V) (n : Nat) (ov : Value) (wr : World) : Prop :=
  ∃ f fs, StkG w B SG (f :: fs) ov wr ∧ flatsV f.t.kind f.t.ps = f.ds ++ todoF f.t.kind f.st ∧ ChainG root f.t fs ∧ n = wFsG (f :: fs) ∧ n ≤ 1000000
theorem of_zb' {w w2 : World} {m : Nat} (hz : ZB9 w.heap.size (w.alloc (.cells #[.int .i64 0, .int .u64 0, .int .u64 0, .int .u64 0, .int .u64 0, .slice none 0 0, .int .i64 0, .int .i64 0, .bool false] 59))) (hc : Chg (fun x => m ≤ x ∧ NT (w.alloc (.cells #[.int .i64 0, .int .u64 0, .int .u64 0, .int .u64 0, .int .u64 0, .slice none 0 0, .int .i64 0, .int .i64 0, .bool false] 59)).drew x) (w.alloc (.cells #[.int .i64 0, .int .u64 0, .int .u64 0, .int .u64 0, .int .u64 0, .slice none 0 0, .int .i64 0, .int .i64 0, .bool false] 59)).drew w2) : ZB9 w.heap.size w2 := of_zb (w := w) (w0 := (w.alloc (.cells #[.int .i64 0, .int .u64 0, .int .u64 0, .int .u64 0, .int .u64 0, .slice none 0 0, .int .i64 0, .int .i64 0, .bool false] 59)).drew) hz hc
theorem bxAG {w1 w2 : World} {m : Nat} {t : V} {v : Value} {n : Bool} (h : Chg (fun x => m ≤ x ∧ NT w1.drew x) w1.drew w2) (hr : Res w2 m w2.heap.size t) :
    Chg (fun x => m ≤ x ∧ NT w1 x) w1 (w2.alloc (.cells #[.int .i64 t.kind, .int .u64 (t.set 0 : Nat), .int .u64 (t.set 1 : Nat), .int .u64 (t.set 2 : Nat), .int .u64 (t.set 3 : Nat), v, .int .i64 t.lo, .int .i64 t.hi, .bool n] 59)) ∧ (w2.alloc (.cells #[.int .i64 t.kind, .int .u64 (t.set 0 : Nat), .int .u64 (t.set 1 : Nat), .int .u64 (t.set 2 : Nat), .int .u64 (t.set 3 : Nat), v, .int .i64 t.lo, .int .i64 t.hi, .bool n] 59)).heap[w2.heap.size]? = some (.cells #[.int .i64 t.kind, .int .u64 (t.set 0 : Nat), .int .u64 (t.set 1 : Nat), .int .u64 (t.set 2 : Nat), .int .u64 (t.set 3 : Nat), v, .int .i64 t.lo, .int .i64 t.hi, .bool n] 59 (0, 0)) ∧ w1.heap.size ≤ w2.heap.size ∧ Res (w2.alloc (.cells #[.int .i64 t.kind, .int .u64 (t.set 0 : Nat), .int .u64 (t.set 1 : Nat), .int .u64 (t.set 2 : Nat), .int .u64 (t.set 3 : Nat), v, .int .i64 t.lo, .int .i64 t.hi, .bool n] 59)) m (w2.alloc (.cells #[.int .i64 t.kind, .int .u64 (t.set 0 : Nat), .int .u64 (t.set 1 : Nat), .int .u64 (t.set 2 : Nat), .int .u64 (t.set 3 : Nat), v, .int .i64 t.lo, .int .i64 t.hi, .bool n] 59)).heap.size t := by
  have h1 : Chg (fun x => m ≤ x ∧ NT w1 x) w1 w2 := ((Chg.refl (fun x => m ≤ x ∧ NT w1 x) w1).drew).trans h fun x hx e => ⟨e.1, e.2.keep rfl⟩
  exact ⟨h1.alloc _, heap_alloc_new w2 _, h1.size, (hr.chg ((Chg.refl (fun _ => False) w2).alloc _) fun _ _ _ _ => id).wid (Nat.le_refl _) (by simp)⟩
theorem bxBG {w1 w : World} {m b : Nat} {t : V} {v : Value} {n : Bool} (hb : b = w1.heap.size) (h : Chg (fun x => m ≤ x ∧ NT (w1.alloc (.cells #[.int .i64 0, .int .u64 0, .int .u64 0, .int .u64 0, .int .u64 0, .slice none 0 0, .int .i64 0, .int .i64 0, .bool false] 59)).drew x) (w1.alloc (.cells #[.int .i64 0, .int .u64 0, .int .u64 0, .int .u64 0, .int .u64 0, .slice none 0 0, .int .i64 0, .int .i64 0, .bool false] 59)).drew w) (hr : Res w m w.heap.size t) :
    Chg (fun x => m ≤ x ∧ NT w1 x) w1 (((((((((w.setCell ⟨b, 0, none⟩ (.int .i64 t.kind)).setCell ⟨b, 1, none⟩ (.int .u64 (t.set 0 : Nat))).setCell ⟨b, 2, none⟩ (.int .u64 (t.set 1 : Nat))).setCell ⟨b, 3, none⟩ (.int .u64 (t.set 2 : Nat))).setCell ⟨b, 4, none⟩ (.int .u64 (t.set 3 : Nat))).setCell ⟨b, 5, none⟩ (v)).setCell ⟨b, 6, none⟩ (.int .i64 t.lo)).setCell ⟨b, 7, none⟩ (.int .i64 t.hi)).setCell ⟨b, 8, none⟩ (.bool n)) ∧ (((((((((w.setCell ⟨b, 0, none⟩ (.int .i64 t.kind)).setCell ⟨b, 1, none⟩ (.int .u64 (t.set 0 : Nat))).setCell ⟨b, 2, none⟩ (.int .u64 (t.set 1 : Nat))).setCell ⟨b, 3, none⟩ (.int .u64 (t.set 2 : Nat))).setCell ⟨b, 4, none⟩ (.int .u64 (t.set 3 : Nat))).setCell ⟨b, 5, none⟩ (v)).setCell ⟨b, 6, none⟩ (.int .i64 t.lo)).setCell ⟨b, 7, none⟩ (.int .i64 t.hi)).setCell ⟨b, 8, none⟩ (.bool n)).heap[b]? = some (.cells #[.int .i64 t.kind, .int .u64 (t.set 0 : Nat), .int .u64 (t.set 1 : Nat), .int .u64 (t.set 2 : Nat), .int .u64 (t.set 3 : Nat), v, .int .i64 t.lo, .int .i64 t.hi, .bool n] 59 (0, 0)) ∧ w1.heap.size ≤ b ∧
    Res (((((((((w.setCell ⟨b, 0, none⟩ (.int .i64 t.kind)).setCell ⟨b, 1, none⟩ (.int .u64 (t.set 0 : Nat))).setCell ⟨b, 2, none⟩ (.int .u64 (t.set 1 : Nat))).setCell ⟨b, 3, none⟩ (.int .u64 (t.set 2 : Nat))).setCell ⟨b, 4, none⟩ (.int .u64 (t.set 3 : Nat))).setCell ⟨b, 5, none⟩ (v)).setCell ⟨b, 6, none⟩ (.int .i64 t.lo)).setCell ⟨b, 7, none⟩ (.int .i64 t.hi)).setCell ⟨b, 8, none⟩ (.bool n)) m (((((((((w.setCell ⟨b, 0, none⟩ (.int .i64 t.kind)).setCell ⟨b, 1, none⟩ (.int .u64 (t.set 0 : Nat))).setCell ⟨b, 2, none⟩ (.int .u64 (t.set 1 : Nat))).setCell ⟨b, 3, none⟩ (.int .u64 (t.set 2 : Nat))).setCell ⟨b, 4, none⟩ (.int .u64 (t.set 3 : Nat))).setCell ⟨b, 5, none⟩ (v)).setCell ⟨b, 6, none⟩ (.int .i64 t.lo)).setCell ⟨b, 7, none⟩ (.int .i64 t.hi)).setCell ⟨b, 8, none⟩ (.bool n)).heap.size t := by
  subst hb
  have hz : ZB9 w1.heap.size w := of_zb' (heap_alloc_new w1 _) h
  have h1 : Chg (fun x => m ≤ x ∧ NT w1 x) w1 w := (((Chg.refl (fun x => m ≤ x ∧ NT w1 x) w1).alloc (.cells #[.int .i64 0, .int .u64 0, .int .u64 0, .int .u64 0, .int .u64 0, .slice none 0 0, .int .i64 0, .int .i64 0, .bool false] 59)).drew).trans h fun x hx e => ⟨e.1, e.2.keep (show w1.heap[x]? = (w1.alloc (.cells #[.int .i64 0, .int .u64 0, .int .u64 0, .int .u64 0, .int .u64 0, .slice none 0 0, .int .i64 0, .int .i64 0, .bool false] 59)).heap[x]? from (Below.heap_alloc _ _ _ hx).symm)⟩
  have hch := set9x_chg w w1.heap.size (.int .i64 t.kind) (.int .u64 (t.set 0 : Nat)) (.int .u64 (t.set 1 : Nat)) (.int .u64 (t.set 2 : Nat)) (.int .u64 (t.set 3 : Nat)) v (.int .i64 t.lo) (.int .i64 t.hi) (.bool n)
  exact ⟨h1.trans hch fun x hx e => by omega, set9x_heap hz _ _ _ _ _ _ _ _ _, Nat.le_refl _, (res_box hr hz hch).wid (Nat.le_refl _) hch.size⟩

end Go.Proofs.Yteaejdkmgicdhaa
