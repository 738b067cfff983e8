/- The walk of the statement PlaceSimple: called with a tree it returns true and changes nothing that was there.
   Conditions: the tree lies in memory. -/
import Derived.Test.YtnmjicfpmkoldaaGreatDoorMPof
import Derived.Test.YtnmjicfpmkoldaaGreatDoorMPi
import Derived.Test.YtnmjicfpmkoldaaGreatDoorMRefS
import Derived.Test.YtnmjicfpmkoldaaGreatDoorMSim
import Derived.Deep.DeepCutAuto
import Derived.Deep.RegionHeld3
import Derived.StillTailTactics

/- The walk of the statement PlaceSimple: called with a tree it returns true and changes nothing that was there.
   Conditions: the tree lies in memory. -/
namespace Go.Proofs.YtnmjicfpmkoldaaGreatDoor
open Go.RowKit Go.Shelf
attribute [local go_sem] nodeAgg
theorem cls_at {w:World} {B n:Nat} {A:Option Addr} {c:Nat} {l:List (Nat→Nat)} (h:w.ownsRow B 24 4 (.slice A n c) l.length (l.flatMap cls4)) {i:Nat} {C:Nat→Nat} (hi:l[i]? = some C) :
  ∃ g,A=some ⟨g,0,none⟩∧g<w.heap.size∧w.cell? ⟨g,i * 4,none⟩=some (.int .u64 (C 0:Nat))∧w.cell? ⟨g,i * 4+1,none⟩=some (.int .u64 (C 1:Nat))∧w.cell? ⟨g,i * 4+2,none⟩=some (.int .u64 (C 2:Nat))∧w.cell? ⟨g,i * 4+3,none⟩=some (.int .u64 (C 3:Nat)):=by
 have hl:i<l.length:=(List.getElem?_eq_some_iff.1 hi).1
 obtain ⟨g,cap,hv,_,hg⟩:=h.form (by omega)
 simp only [Value.slice.injEq] at hv
 obtain ⟨rfl,rfl,rfl⟩:=hv
 have hx:∀ j,j<4→(l.flatMap cls4)[i * 4+j]? = (cls4 C)[j]?:=by
  clear h hg
  intro j hj
  induction l generalizing i with
  | nil=>simp at hi
  | cons a l ih =>
   rw [List.flatMap_cons]
   cases i with
   | zero =>
    obtain rfl:a=C:=by simpa using hi
    rw [Nat.zero_mul,Nat.zero_add,List.getElem?_append_left (by show j<4;omega)]
   | succ i =>
    rw [List.getElem?_append_right (by show 4≤_;omega),show (i+1) * 4+j - (cls4 a).length=i * 4+j by show _ - 4=_;omega]
    exact ih (by simpa using hi) (by simp at hl;omega)
 refine ⟨g,rfl,hg,?_,?_,?_,?_⟩
 ·exact (h.cellAt (i * 4) (by omega)).trans (hx 0 (by omega))
 ·exact (h.cellAt (i * 4+1) (by omega)).trans (hx 1 (by omega))
 ·exact (h.cellAt (i * 4+2) (by omega)).trans (hx 2 (by omega))
 ·exact (h.cellAt (i * 4+3) (by omega)).trans (hx 3 (by omega))
end Go.Proofs.YtnmjicfpmkoldaaGreatDoor
