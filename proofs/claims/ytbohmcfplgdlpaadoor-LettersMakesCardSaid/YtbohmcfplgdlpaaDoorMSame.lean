/- Trees in boxes of their own.
   Conditions: those that each theorem states. -/
import Derived.Test.YtbohmcfplgdlpaaDoorMBase
import Derived.Test.YtbohmcfplgdlpaaDoorMDeep
import Derived.StillTailTactics

/- The document's comparing of two trees in memory that read as the same: a contract.
   Conditions: both trees lie in memory. -/
namespace Go.Proofs.YtbohmcfplgdlpaaDoor
open Go.RowKit
attribute [local go_sem] nodeAgg
theorem sz_pos (t:T):1≤szT t:=by cases t;rw [szT];omega
theorem len_sz (ps:List V):ps.length≤szsT (erases ps):=by
 induction ps with
 | nil=>simp
 | cons p ps ih=>rw [erases,szsT,List.length_cons];have:=sz_pos (erase p);omega
theorem sz_eq (a:V):szT (erase a)=szsT (erases a.ps)+1:=by cases a;rw [erase,szT];rfl
theorem laid_row' {w:World} {R:Nat→Prop} {x:V} (h:Laid w R x):∃ sa sc,x.v=.slice sa x.ps.length sc∧∀ (i:Nat) (t:V),x.ps[i]? = some t→∃ b off,sa=some ⟨b,off,none⟩∧b<w.heap.size∧(∀ j u,(ndc t)[j]? = some u→w.cell? ⟨b,off+i * 8+j,none⟩=some u)∧Laid w R t:=by
 rcases laid_inv h with ⟨h1,a,cap,hv⟩ | ⟨b,off,cap,hv,hR,hlt,hcap,hc,hk⟩
 ·exact ⟨a,cap,by rw [hv,h1];rfl,fun i t ht=>by rw [h1] at ht;simp at ht⟩
 ·exact ⟨_,cap,hv,fun i t ht=>⟨b,off,rfl,hlt,hc i t ht,hk t (List.mem_of_getElem? ht)⟩⟩
theorem node_cells {w w':World} {b o:Nat} {t:V} (h:∀ j u,(ndc t)[j]? = some u→w.cell? ⟨b,o+j,none⟩=some u) (hb:b<w.heap.size) (k:Below w.heap.size w w') :
  w'.cell? ⟨b,o,none⟩=some (.int .i64 t.kind)∧w'.cell? ⟨b,o+1,none⟩=some (.int .u64 (t.set 0:Nat))∧w'.cell? ⟨b,o+2,none⟩=some (.int .u64 (t.set 1:Nat))∧w'.cell? ⟨b,o+3,none⟩=some (.int .u64 (t.set 2:Nat))∧w'.cell? ⟨b,o+4,none⟩=some (.int .u64 (t.set 3:Nat))∧w'.cell? ⟨b,o+5,none⟩=some t.v∧w'.cell? ⟨b,o+6,none⟩=some (.int .i64 t.lo)∧w'.cell? ⟨b,o+7,none⟩=some (.int .i64 t.hi):=by
 have q:∀ j u,(ndc t)[j]? = some u→w'.cell? ⟨b,o+j,none⟩=some u:=fun j u hu=>(k.cell (p:=⟨b,o+j,none⟩) hb).trans (h j u hu)
 exact ⟨q 0 _ rfl,q 1 _ rfl,q 2 _ rfl,q 3 _ rfl,q 4 _ rfl,q 5 _ rfl,q 6 _ rfl,q 7 _ rfl⟩
theorem equal_self (A:Nat→Nat) (w:World):(Op.equalIn 10000 24 (.agg #[.int .u64 (A 0:Nat),.int .u64 (A 1:Nat),.int .u64 (A 2:Nat),.int .u64 (A 3:Nat)]) (.agg #[.int .u64 (A 0:Nat),.int .u64 (A 1:Nat),.int .u64 (A 2:Nat),.int .u64 (A 3:Nat)])).run Tryd.prog w=.ok true w:=by
 rw [run_equal4]
 simp
end Go.Proofs.YtbohmcfplgdlpaaDoor

/- Trees in boxes of their own.
   Conditions: those that each theorem states. -/
namespace Go.Proofs.YtbohmcfplgdlpaaDoor
open Go.RowKit Go.Shelf
def BoxC (b:Nat) (t:V) (v:Value) (W:World):Prop :=
 W.cell? ⟨b,0,none⟩=some (.int .i64 t.kind)∧W.cell? ⟨b,1,none⟩=some (.int .u64 (t.set 0:Nat))∧W.cell? ⟨b,2,none⟩=some (.int .u64 (t.set 1:Nat))∧W.cell? ⟨b,3,none⟩=some (.int .u64 (t.set 2:Nat))∧W.cell? ⟨b,4,none⟩=some (.int .u64 (t.set 3:Nat))∧W.cell? ⟨b,5,none⟩=some v∧W.cell? ⟨b,6,none⟩=some (.int .i64 t.lo)∧W.cell? ⟨b,7,none⟩=some (.int .i64 t.hi)
theorem box_new (w:World) (t:V) (v:Value):∃ w2,w.alloc (.cells #[.int .i64 t.kind,.int .u64 (t.set 0:Nat),.int .u64 (t.set 1:Nat),.int .u64 (t.set 2:Nat),.int .u64 (t.set 3:Nat),v,.int .i64 t.lo,.int .i64 t.hi] 27)=w2∧Below w.heap.size w w2∧w.heap.size<w2.heap.size∧∀ W,Below w2.heap.size w2 W→BoxC w.heap.size t v W:=by
 refine ⟨_,rfl,(Below.refl _ _).alloc (Nat.le_refl _) _,by simp,fun W hW=>?_⟩
 have e1:=heap_alloc_new w (.cells #[.int .i64 t.kind,.int .u64 (t.set 0:Nat),.int .u64 (t.set 1:Nat),.int .u64 (t.set 2:Nat),.int .u64 (t.set 3:Nat),v,.int .i64 t.lo,.int .i64 t.hi] 27)
 have q:=(row_cells ((hW.block _ (Array.getElem?_eq_some_iff.1 e1).1).trans e1)).1
 exact ⟨q 0,q 1,q 2,q 3,q 4,q 5,q 6,q 7⟩
theorem laid_low {w w':World} {R:Nat→Prop} {t:V} (h:Laid w R t) (hb:Below w.heap.size w w'):Laid w' R t:=h.keep (fun _ _ h=>h) hb.size fun k hk _=>hb.block k hk
theorem nodeAgg_v {t:V} {v:Value} (hv:t.v=v):nodeAgg t=.agg #[.int .i64 t.kind,.int .u64 (t.set 0:Nat),.int .u64 (t.set 1:Nat),.int .u64 (t.set 2:Nat),.int .u64 (t.set 3:Nat),v,.int .i64 t.lo,.int .i64 t.hi]:=by unfold nodeAgg;rw [hv]
end Go.Proofs.YtbohmcfplgdlpaaDoor
