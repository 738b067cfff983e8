/- Scopes around positions are nested: plain facts.
   Conditions: those that each theorem states. -/
import Derived.Test.YtbohmcfplgdlpaaDoorMPt
import Derived.BigQuiet
import Derived.Deep.LoopGhost
import Derived.Deep.DeepCutAuto

/- The statements' comparison of two lists of numbers: a contract.
   Conditions: the lists lie in memory, and are short. -/
namespace Go.Proofs.YtbohmcfplgdlpaaDoor
open Go.RowKit Go.Shelf
theorem intsR_at {w:World} {B:Nat} {v:Value} {l:List Nat} (h:IntsR w B v l) {i x:Nat} (hx:l[i]? = some x):∃ g cap,v=.slice (some ⟨g,0,none⟩) l.length cap∧g<w.heap.size∧w.cell? ⟨g,i,none⟩=some (.int .i64 (x:Int))∧l.length≤cap:=by
 have hi:i<l.length:=(List.getElem?_eq_some_iff.1 hx).1
 obtain ⟨g,cap,hv,_,hg⟩:=h.own.form (by omega)
 have ho:=h.own
 rw [hv] at ho
 refine ⟨g,cap,hv,hg,?_,?_⟩
 ·rw [ho.cellAt i (by omega),ints,List.getElem?_map,hx];rfl
 ·rcases ho.2 with ⟨h1,_⟩ | ⟨g',cap',cur,hv',_,_,hle,_⟩
  ·cases h1
  ·simp only [Value.slice.injEq] at hv';omega
end Go.Proofs.YtbohmcfplgdlpaaDoor

/- Scopes around positions are nested: plain facts.
   Conditions: those that each theorem states. -/
namespace Go.Proofs.YtbohmcfplgdlpaaDoor
def Ch (Ps:List (List Nat)) (l:List Nat):Prop:=∀ (i x:Nat),l[i]? = some x→Ps[x]? = some (l.take i)
theorem Ch.mono {Ps Qs:List (List Nat)} {l:List Nat} (h:Ch Ps l) (hq:∀ (x:Nat) (p:List Nat),Ps[x]? = some p→Qs[x]? = some p):Ch Qs l:=fun i x hx=>hq x _ (h i x hx)
end Go.Proofs.YtbohmcfplgdlpaaDoor
