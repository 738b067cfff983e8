/- Whether two nodes are alike, whatever their parts: the program's own call, a contract.
   Conditions: both lie in memory. -/
import Derived.Test.YtbohmcfplgdlpaaDoorMRefS
import Derived.Deep.QuietTactic
import Derived.BigQuiet

/- Whether two nodes are alike, whatever their parts: the program's own call, a contract.
   Conditions: both lie in memory. -/
namespace Go.Proofs.YtbohmcfplgdlpaaDoor
open Go.RowKit Go.Deep
attribute [local go_sem] nodeAgg
structure NodeAt (w:World) (b o:Nat) (t:V):Prop where
 cell:∀ j u,(ndc t)[j]? = some u→w.cell? ⟨b,o+j,none⟩=some u
 laid:∃ R,Laid w R t
theorem NodeAt.keep {w w':World} {b o:Nat} {t:V} (h:NodeAt w b o t) (hb:Below w.heap.size w w'):NodeAt w' b o t:=by
 refine ⟨fun j u hu=>?_,?_⟩
 ·have:=h.cell j u hu
  exact (hb.cell (p:=⟨b,o+j,none⟩) (World.block_lt_of_cell? _ _ this)).trans this
 ·obtain ⟨R,hR⟩:=h.laid
  exact ⟨R,hR.keep (fun _ _ h=>h) hb.size fun k hk _=>hb.block k hk⟩
theorem NodeAt.lt {w:World} {b o:Nat} {t:V} (h:NodeAt w b o t):b<w.heap.size:=World.block_lt_of_cell? _ _ (h.cell 0 _ rfl)
set_option maxHeartbeats 4000000 in
set_option maxRecDepth 100000 in
theorem sameAlone_any (a b:V) (b1 o1 b2 o2:Nat) (w:World) (ha:NodeAt w b1 o1 a) (hb:NodeAt w b2 o2 b) :
  Calls Tryd.prog 99 #[.pointer (some ⟨b1,o1,none⟩),.pointer (some ⟨b2,o2,none⟩)] w fun e w'=>e=.returned (.bool (likeV a b))∧∃ n,w'=w.drewN n:=by
 obtain ⟨R,hR⟩:=ha.laid
 obtain ⟨Q,hQ⟩:=hb.laid
 obtain ⟨sa,sc,hv,_⟩:=laid_row' hR
 obtain ⟨ta,tc,hv2,_⟩:=laid_row' hQ
 obtain ⟨x0,x1,x2,x3,x4,x5,x6,x7⟩:=node_cells ha.cell ha.lt (Below.refl _ _)
 obtain ⟨y0,y1,y2,y3,y4,y5,y6,y7⟩:=node_cells hb.cell hb.lt (Below.refl _ _)
 rw [hv] at x5
 rw [hv2] at y5
 have hlk:likeV a b=decide (a.kind=b.kind∧eq4 a.set b.set=true∧a.lo=b.lo∧a.hi=b.hi∧a.ps.length=b.ps.length):=rfl
 obtain ⟨L,hL⟩ : ∃ L,likeV a b=L:=⟨_,rfl⟩
 rw [hL] at hlk ⊢
 have hq:=equal_four a.set b.set
 generalize eq4 a.set b.set=Q4 at *
 generalize a.ps.length=m1 at *
 generalize b.ps.length=m2 at *
 generalize a.kind=k1,a.set=C1,a.lo=lo1,a.hi=hi1 at *
 generalize b.kind=k2,b.set=C2,b.lo=lo2,b.hi=hi2 at *
 clear hR hQ hv hv2 ha hb hL
 by_cases hk:k1=k2
 ·subst hk
  cases Q4 with
  | true =>
   by_cases hlo:lo1=lo2
   ·subst hlo
    by_cases hhi:hi1=hi2
    ·subst hhi
     by_cases hm:m1=m2
     ·subst hm
      have HL:Hid (L=true):=Lib.hid (by rw [hlk];simp)
      clear hlk
      go_enter Tryd.func99,Tryd.ntmps99
      go_wp2_with fail
      go_quiet (fail)
      go_wp2_with fail
      go_ret
      exact ⟨by show Ending.returned (.bool true)=_;rw [HL.out],_,rfl⟩
     ·have HL:Hid (L=false):=Lib.hid (by rw [hlk];simp [hm])
      have hmm:¬ (m1:Int)=(m2:Int):=by omega
      have g2:=beq_no hmm
      clear hlk hm hmm
      go_enter Tryd.func99,Tryd.ntmps99
      go_wp2_with fail
      go_quiet (fail)
      go_wp2_with fail
      go_ret
      exact ⟨by show Ending.returned (.bool false)=_;rw [HL.out],_,rfl⟩
    ·have HL:Hid (L=false):=Lib.hid (by rw [hlk];simp [hhi])
     have g2:=beq_no hhi
     clear hlk hhi
     go_enter Tryd.func99,Tryd.ntmps99
     go_wp2_with fail
     go_quiet (fail)
     go_wp2_with fail
     go_ret
     exact ⟨by show Ending.returned (.bool false)=_;rw [HL.out],_,rfl⟩
   ·have HL:Hid (L=false):=Lib.hid (by rw [hlk];simp [hlo])
    have g2:=beq_no hlo
    clear hlk hlo
    go_enter Tryd.func99,Tryd.ntmps99
    go_wp2_with fail
    go_quiet (fail)
    go_wp2_with fail
    go_ret
    exact ⟨by show Ending.returned (.bool false)=_;rw [HL.out],_,rfl⟩
  | false =>
   have HL:Hid (L=false):=Lib.hid (by rw [hlk];simp)
   clear hlk
   go_enter Tryd.func99,Tryd.ntmps99
   go_wp2_with fail
   go_quiet (fail)
   go_wp2_with fail
   go_ret
   exact ⟨by show Ending.returned (.bool false)=_;rw [HL.out],_,rfl⟩
 ·have HL:Hid (L=false):=Lib.hid (by rw [hlk];simp [hk])
  have g2:=beq_no hk
  clear hlk hk
  go_enter Tryd.func99,Tryd.ntmps99
  go_wp2_with fail
  go_quiet (fail)
  go_wp2_with fail
  go_ret
  exact ⟨by show Ending.returned (.bool false)=_;rw [HL.out],_,rfl⟩
end Go.Proofs.YtbohmcfplgdlpaaDoor
