/- The scopes around a position, in memory.
   Conditions: those that each theorem states. -/
import Derived.Test.YtbohmcfplgdlpaaDoorMPi

/- The scopes around a position, in memory.
   Conditions: those that each theorem states. -/
namespace Go.Proofs.YtbohmcfplgdlpaaDoor
open Go.RowKit Go.Shelf
theorem own_num {w:World} {base sz n k:Nat} {e:TypeId} {A:Option Addr} {c:Nat} {xs:List Value} (h:w.ownsRow base e sz (.slice A n c) k xs):n=k:=by
 obtain ⟨A',c',h'⟩:=own_form h
 simp only [Value.slice.injEq] at h'
 exact h'.2.1
theorem own_max {w:World} {base:Nat} {e:TypeId} {size n:Nat} {v:Value} {xs:List Value} (h:w.ownsRow base e size v n xs):n≤9223372036854775807:=by
 rcases h.2 with ⟨_,rfl⟩ | ⟨g,cap,cur,_,_,_,h1,h2,_⟩
 ·omega
 ·exact Nat.le_trans h1 h2
theorem ar_read {w:World} {B:Nat} {m:PM} {sv cv:Value} {ga n gc:Nat} (h:MapL w B m sv cv (.slice (some ⟨ga,0,none⟩) n gc)) {q:Nat} {l:List Nat} (hq:m.ars[q]? = some l) :
  ∃ A c,w.cell? ⟨ga,q,none⟩=some (.slice A l.length c)∧ga<w.heap.size∧l.length≤9223372036854775807∧∀ (k z:Nat),l[k]? = some z→∃ g,A=some ⟨g,0,none⟩∧g<w.heap.size∧w.cell? ⟨g,k,none⟩=some (.int .i64 z):=by
 obtain ⟨vs,h1,h2⟩:=h.ars
 obtain ⟨v,hv,hr⟩:=h2 q l hq
 obtain ⟨A,c,rfl⟩:=hr.form
 have hql:q<m.ars.length:=(List.getElem?_eq_some_iff.1 hq).1
 have hn:=own_num h1
 subst hn
 refine ⟨A,c,(h1.cellAt q (show q<m.ars.length * 1 by omega)).trans hv,(h1.lt ga rfl).2,own_max hr.own,fun k z hk=>?_⟩
 obtain ⟨g,cap,hv2,hg,hc,_⟩:=intsR_at hr hk
 simp only [Value.slice.injEq] at hv2
 exact ⟨g,hv2.1,hg,hc⟩
theorem mapL_below {w w':World} {B:Nat} {m:PM} {sv cv av:Value} (h:MapL w B m sv cv av) (hb:Below w.heap.size w w'):MapL w' B m sv cv av:=h.keep (Chg.of_below (R:=fun _=>False) hb) fun _ _ q=>q.elim
end Go.Proofs.YtbohmcfplgdlpaaDoor
