/- The simple tree's own simple tree is it; it is void, and nullable, as the tree is; it has no more places, and isn't deeper: plain facts.
   Conditions: the trees are formed. -/
import Derived.Test.YtjcfmbmepmlckaaDoorMSim

/- The simple tree's own simple tree is it; it is void, and nullable, as the tree is; it has no more places, and isn't deeper: plain facts.
   Conditions: the trees are formed. -/
namespace Go.Proofs.YtjcfmbmepmlckaaDoor
open Go.RowKit
inductive PwT:T→Prop
 | mk (k:Int) (C:Nat→Nat) (lo hi:Int) (ps:List T) (h:k=3→leftT 3 [] ps=ps) (hp:∀ p∈ps,PwT p):PwT (.node k C lo hi ps)
theorem PwT.part {t:T} (h:PwT t):∀ p∈t.ps,PwT p:=by
 cases h with
 | mk k C lo hi ps _ hp=>exact hp
theorem pw_none:PwT noT:=.mk _ _ _ _ _ (fun e=>by cases e) fun p hp=>by cases hp
theorem pw_empty:PwT emptyT:=.mk _ _ _ _ _ (fun e=>by cases e) fun p hp=>by cases hp
theorem pw_one {k:Int}:∀ {l:List T},(k=3→leftT 3 [] l=l)→(∀ t∈l,PwT t)→PwT (oneOf k l)
 | [],_,_=>pw_none
 | [t],_,h=>h t (by simp)
 | t :: u :: ts,hl,h=>.mk _ _ _ _ _ hl h
theorem pw_rep {lo hi:Int} {s:T} (h:PwT s):PwT (rep4 lo hi s):=by
 unfold rep4
 split
 ·exact pw_none
 ·split
  ·exact h
  ·exact .mk _ _ _ _ _ (fun e=>by cases e) fun p hp=>by rw [List.mem_singleton.1 hp];exact h
mutual
theorem sim_pw:∀ t:T,okT t=true→PwT (simT t)
 | .node k C lo hi ps,hok=>by
  have hs:=sims_pw ps (ok_parts hok)
  have ha:=of_decide_eq_true (ok_kind hok)
  rw [simT]
  split
  ·exact pw_empty
  ·split
   ·refine .mk _ _ _ _ _ (fun e=>by omega) ?_
    have h0:ps.length=0:=by
     rcases ha with h | h | h | h <;> omega
    rw [List.length_eq_zero_iff.1 h0]
    exact fun p hp=>by cases hp
   ·split
    ·cases hl:simsT ps with
     | nil=>exact pw_none
     | cons s l=>exact pw_rep (hs s (by rw [hl];simp))
    ·refine pw_one (fun e=>?_) fun u hu=>left_all (P:=PwT) _ _ (by simp) (fun x hx=>?_) u hu
     ·subst e
      have:=left_left (spreadT 3 (simsT ps)) [] []
      rw [show leftT 3 [] []=[] from rfl] at this
      exact this
     ·rcases spread_mem hx with ⟨v,hv,_,h2⟩ | ⟨h1,_⟩
      ·exact (hs v hv).part x h2
      ·exact hs x h1
theorem sims_pw:∀ ts:List T,oksT ts=true→∀ u∈simsT ts,PwT u
 | [],_,u,hu=>by rw [simsT] at hu;cases hu
 | t :: ts,h,u,hu=>by
  rw [oksT,Bool.and_eq_true] at h
  rw [simsT] at hu
  rcases List.mem_cons.1 hu with e | hu
  ·rw [e];exact sim_pw t h.1
  ·exact sims_pw ts h.2 u hu
end
end Go.Proofs.YtjcfmbmepmlckaaDoor
