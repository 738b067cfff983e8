/- The classes of a tree whose classes are four words below 2^64 are so in its simple tree, and in its map.
   Conditions: those that each theorem states. -/
import Derived.Test.YtbohmcfplgdlpaaDoorPG
import Derived.Test.YtbohmcfplgdlpaaDoorMSim
import Derived.Test.YtbohmcfplgdlpaaDoorMRef

/- The classes of a tree whose classes are four words below 2^64 are so in its simple tree, and in its map.
   Conditions: those that each theorem states. -/
namespace Go.Proofs.YtbohmcfplgdlpaaDoor
inductive KlT:T→Prop
 | mk (k:Int) (C:Nat→Nat) (lo hi:Int) (ps:List T) (hC:Cl C) (hp:∀ p∈ps,KlT p):KlT (.node k C lo hi ps)
theorem KlT.part {t:T} (h:KlT t):∀ p∈t.ps,KlT p:=by
 cases h with
 | mk _ _ _ _ _ _ hp=>exact hp
theorem kl_z:Cl zeros:=fun i=>by unfold zeros;omega
theorem kl_wash {C:Nat→Nat} (h:Cl C):Cl (wash C):=fun i=>by
 unfold wash
 split
 ·exact h i
 ·omega
theorem kl_leaf (k:Int):KlT (.node k zeros 0 0 []):=.mk _ _ _ _ _ kl_z fun p hp=>by cases hp
theorem kl_good {t:V} (h:Good t):KlT (erase t):=by
 induction h with
 | mk k C lo hi v ps hk hC hz hlo hhi hp ih =>
  rw [erase]
  refine .mk _ _ _ _ _ hC fun q hq=>?_
  rw [erases_map] at hq
  obtain ⟨u,hu,rfl⟩:=List.mem_map.1 hq
  exact ih u hu
theorem kl_one {k:Int}:∀ {l:List T},(∀ t∈l,KlT t)→KlT (oneOf k l)
 | [],_=>kl_leaf _
 | [t],h=>h t (by simp)
 | t :: u :: ts,h=>.mk _ _ _ _ _ kl_z h
mutual
theorem kl_sim:∀ t:T,KlT t→KlT (simT t)
 | .node k C lo hi ps,h=>by
  cases h with
  | mk _ _ _ _ _ hC hp =>
  have hs:=kl_sims ps hp
  rw [simT]
  split
  ·exact kl_leaf _
  ·split
   ·exact .mk _ _ _ _ _ (kl_wash hC) hp
   ·split
    ·cases hss:simsT ps with
     | nil=>exact kl_leaf _
     | cons s r =>
      have h1:=hs s (by rw [hss];simp)
      show KlT (rep4 lo hi s)
      unfold rep4
      split
      ·exact kl_leaf _
      ·split
       ·exact h1
       ·exact .mk _ _ _ _ _ kl_z fun p hp=>by rw [List.mem_singleton.1 hp];exact h1
    ·refine kl_one fun u hu=>left_all (P:=KlT) _ _ (by simp) (fun x hx=>?_) u hu
     rcases spread_mem hx with ⟨v,hv,_,hx2⟩ | ⟨hx2,_⟩
     ·exact (hs v hv).part x hx2
     ·exact hs x hx2
theorem kl_sims:∀ ts:List T,(∀ p∈ts,KlT p)→∀ u∈simsT ts,KlT u
 | [],_,u,hu=>by rw [simsT] at hu;cases hu
 | t :: ts,h,u,hu=>by
  rw [simsT] at hu
  rcases List.mem_cons.1 hu with rfl | hu
  ·exact kl_sim t (h t (by simp))
  ·exact kl_sims ts (fun p hp=>h p (List.mem_cons_of_mem _ hp)) u hu
end
theorem kl_put {k:Int} {C:Nat→Nat} {ar:List Nat} {m:PM} {lo hi:Int} (hC:Cl C) (h:∀ D∈m.sets,Cl D):∀ D∈(putP k C ar (scP k lo hi m)).sets,Cl D:=by
 have e:(scP k lo hi m).sets=m.sets:=by unfold scP;split <;> rfl
 unfold putP
 split
 ·intro D hD
  rcases List.mem_append.1 hD with hD | hD
  ·rw [e] at hD;exact h D hD
  ·rw [List.mem_singleton.1 hD];exact hC
 ·rw [e];exact h
mutual
theorem mapN_cl:∀ (t:T) (ar:List Nat) (m m':PM),KlT t→mapN t ar m=some m'→(∀ C∈m.sets,Cl C)→∀ C∈m'.sets,Cl C
 | .node k C lo hi ps,ar,m,m',hk,h,hm=>by
  cases hk with
  | mk _ _ _ _ _ hC hp =>
  rw [mapN] at h
  split at h
  ·cases h
  ·exact mapsN_cl ps _ _ m' hp h (kl_put hC hm)
theorem mapsN_cl:∀ (ts:List T) (ar:List Nat) (m m':PM),(∀ p∈ts,KlT p)→mapsN ts ar m=some m'→(∀ C∈m.sets,Cl C)→∀ C∈m'.sets,Cl C
 | [],ar,m,m',_,h,hm=>by
  rw [mapsN] at h
  rw [← Option.some.inj h]
  exact hm
 | t :: ts,ar,m,m',hk,h,hm=>by
  rw [mapsN] at h
  cases h1:mapN t ar m with
  | none=>rw [h1] at h;cases h
  | some m1 =>
   rw [h1] at h
   exact mapsN_cl ts ar m1 m' (fun p hp=>hk p (List.mem_cons_of_mem _ hp)) h (mapN_cl t ar m m1 (hk t (by simp)) h1 hm)
end
theorem map_cl {t:V} {m:PM} (hg:Good t) (h:mapT (simT (erase t))=some m):∀ C∈m.sets,Cl C :=
 mapN_cl _ [] pm0 m (kl_sim _ (kl_good hg)) h fun C hC=>by rw [List.mem_singleton.1 hC];exact kl_z
end Go.Proofs.YtbohmcfplgdlpaaDoor
