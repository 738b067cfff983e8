/- Lists of configs that rise: plain facts.
   Conditions: those that each theorem states. -/
import Derived.Shelf.SlSortCmp.NoneTotal
import Derived.Test.YtnmjicfpmkoldaaGreatDoorProg
import Derived.Test.YtnmjicfpmkoldaaGreatDoorPA
import Derived.Test.YtnmjicfpmkoldaaGreatDoorPG
import Derived.RangeFuncGives
import Derived.Test.YtnmjicfpmkoldaaGreatDoorPD
import Derived.RangeFuncStops
import Derived.RangeFuncKeeps
import Derived.Sort.MapsRangeIn
import Derived.Maps.OwnIn
import Derived.Test.YtnmjicfpmkoldaaGreatDoorPM
import Derived.Test.YtnmjicfpmkoldaaGreatDoorPY
import Derived.Test.YtnmjicfpmkoldaaGreatDoorN1L

/- What slices.SortFunc gives, of a slice of structs, at this program: the library's contract, laid.
   No conditions. -/
namespace Go.Proofs
open Go.Shelf
def Tryz.sortCf_ren:Go.Shelf.Ren:=⟨fun | 6=>48 | 15=>73 | 14=>72 | 28=>105 | 29=>106 | 20=>97 | 21=>98 | 22=>99 | 23=>100 | 24=>101 | 25=>102 | 26=>103 | 27=>104 | 46=>129 | 47=>130 | 48=>131 | 49=>132 | 50=>133 | 57=>144 | n=>n,fun | 22=>42 | 24=>55 | 25=>75 | 3=>3 | 39=>148 | 0=>0 | 53=>189 | 55=>22 | 4=>4 | 46=>183 | 45=>182 | 50=>156 | 5=>5 | 9=>9 | 66=>217 | 70=>221 | 76=>231 | 77=>232 | n=>n,fun | n=>n⟩
theorem Tryz.sortCf:Go.Proofs.SlLaysF0.n6 Tryz.prog Tryz.sortCf_ren:={
 mixed:=by kernel_rfl
 f6:=⟨Tryz.f48.name,by decide,Tryz.func48.trans (congrArg some (by kernel_rfl))⟩
 f14:=⟨Tryz.f72.name,by decide,Tryz.func72.trans (congrArg some (by kernel_rfl))⟩
 f15:=Tryz.func73.trans (congrArg some (by kernel_rfl))
 f20:=⟨Tryz.f97.name,by decide,Tryz.func97.trans (congrArg some (by kernel_rfl))⟩
 f21:=⟨Tryz.f98.name,by decide,Tryz.func98.trans (congrArg some (by kernel_rfl))⟩
 f22:=⟨Tryz.f99.name,by decide,Tryz.func99.trans (congrArg some (by kernel_rfl))⟩
 f23:=⟨Tryz.f100.name,by decide,Tryz.func100.trans (congrArg some (by kernel_rfl))⟩
 f24:=⟨Tryz.f101.name,by decide,Tryz.func101.trans (congrArg some (by kernel_rfl))⟩
 f25:=⟨Tryz.f102.name,by decide,Tryz.func102.trans (congrArg some (by kernel_rfl))⟩
 f26:=⟨Tryz.f103.name,by decide,Tryz.func103.trans (congrArg some (by kernel_rfl))⟩
 f27:=⟨Tryz.f104.name,by decide,Tryz.func104.trans (congrArg some (by kernel_rfl))⟩
 f28:=Tryz.func105.trans (congrArg some (by kernel_rfl))
 f29:=Tryz.func106.trans (congrArg some (by kernel_rfl))
 f46:=⟨Tryz.f129.name,by decide,Tryz.func129.trans (congrArg some (by kernel_rfl))⟩
 f47:=Tryz.func130.trans (congrArg some (by kernel_rfl))
 f48:=Tryz.func131.trans (congrArg some (by kernel_rfl))
 f49:=⟨Tryz.f132.name,by decide,Tryz.func132.trans (congrArg some (by kernel_rfl))⟩
 f50:=⟨Tryz.f133.name,by decide,Tryz.func133.trans (congrArg some (by kernel_rfl))⟩
 f57:=⟨Tryz.f144.name,by decide,Tryz.func144.trans (congrArg some (by kernel_rfl))⟩
 t0:=Tryz.underlying0
 a0:=Tryz.isAgg0
 z0:=Tryz.sizeOf0
 v0:=Tryz.zeroValue0
 t3:=Tryz.underlying3
 a3:=Tryz.isAgg3
 z3:=Tryz.sizeOf3
 v3:=Tryz.zeroValue3
 t4:=Tryz.underlying4
 a4:=Tryz.isAgg4
 z4:=Tryz.sizeOf4
 v4:=Tryz.zeroValue4
 t5:=Tryz.underlying5
 a5:=Tryz.isAgg5
 z5:=Tryz.sizeOf5
 v5:=Tryz.zeroValue5
 t9:=Tryz.underlying9
 a9:=Tryz.isAgg9
 z9:=Tryz.sizeOf9
 v9:=Tryz.zeroValue9
 t22:=Tryz.underlying42
 a22:=Tryz.isAgg42
 z22:=Tryz.sizeOf42
 v22:=Tryz.zeroValue42
 t25:=Tryz.underlying75
 a25:=Tryz.isAgg75
 z25:=Tryz.sizeOf75
 v25:=Tryz.zeroValue75
 t39:=Tryz.underlying148
 a39:=Tryz.isAgg148
 z39:=Tryz.sizeOf148
 v39:=Tryz.zeroValue148
 t45:=Tryz.underlying182
 a45:=Tryz.isAgg182
 z45:=Tryz.sizeOf182
 v45:=Tryz.zeroValue182
 t46:=Tryz.underlying183
 a46:=Tryz.isAgg183
 z46:=Tryz.sizeOf183
 v46:=Tryz.zeroValue183
 t50:=Tryz.underlying156
 a50:=Tryz.isAgg156
 z50:=Tryz.sizeOf156
 v50:=Tryz.zeroValue156
 t53:=Tryz.underlying189
 a53:=Tryz.isAgg189
 z53:=Tryz.sizeOf189
 v53:=Tryz.zeroValue189
 t55:=Tryz.underlying22
 a55:=Tryz.isAgg22
 z55:=Tryz.sizeOf22
 v55:=Tryz.zeroValue22
 t66:=Tryz.underlying217
 a66:=Tryz.isAgg217
 z66:=Tryz.sizeOf217
 v66:=Tryz.zeroValue217
 t70:=Tryz.underlying221
 a70:=Tryz.isAgg221
 z70:=Tryz.sizeOf221
 v70:=Tryz.zeroValue221
 t76:=Tryz.underlying231
 a76:=Tryz.isAgg231
 z76:=Tryz.sizeOf231
 v76:=Tryz.zeroValue231
 t77:=Tryz.underlying232
 a77:=Tryz.isAgg232
 z77:=Tryz.sizeOf232
 v77:=Tryz.zeroValue232 }
end Go.Proofs

/- The keys of a map of configs, and what is in a map of those: sets of configs in memory.
   Conditions: those that each theorem states. -/
namespace Go.Proofs.YtnmjicfpmkoldaaGreatDoor
open Go.RowKit Go.Maps
structure Kc where
 p:Int
 a:Int
 b:Int
 c:Int
 d:Int
def Kc.x (k:Kc):Nat→Int:=fun i=>if i=0 then k.a else if i=1 then k.b else if i=2 then k.c else if i=3 then k.d else 0
def kcOf (p:Int) (x:Nat→Int):Kc:=⟨p,x 0,x 1,x 2,x 3⟩
def kcc (k:Kc):List Value:=[.int .i64 k.p,.int .i64 k.a,.int .i64 k.b,.int .i64 k.c,.int .i64 k.d]
def encC (k:Kc):Value:=.agg #[.int .i64 k.p,.int .i64 k.a,.int .i64 k.b,.int .i64 k.c,.int .i64 k.d]
def I63 (z:Int):Prop:=-9223372036854775808≤z∧z≤9223372036854775807
structure Kc63 (k:Kc):Prop where
 p:I63 k.p
 a:I63 k.a
 b:I63 k.b
 c:I63 k.c
 d:I63 k.d
theorem keyedC:Keyed Tryz.prog 55:=Keyed.of_law (deep_law_laid mvLaid (m:=6) (by decide) (of_decide_eq_true (by kernel_rfl)) (by kernel_rfl) (by kernel_rfl))
theorem ktC:Tryz.prog.keyType 55=true:=by kernel_rfl
theorem cellsCf:Tryz.prog.cellsOf 55=5:=by kernel_rfl
theorem cellsI4:Tryz.prog.cellsOf 53=4:=by kernel_rfl
theorem cellsL64:Tryz.prog.cellsOf 2=1:=by kernel_rfl
theorem wfZ {z:Int} (h:I63 z):(Lit.int .i64 z).wf=true:=by
 have e1:IntKind.i64.min = -9223372036854775808:=by decide
 have e2:IntKind.i64.max=9223372036854775807:=by decide
 obtain ⟨h1,h2⟩:=h
 simp [Lit.wf,e1,e2]
 omega
theorem litZ (d:Nat) {z:Int} (h:I63 z):Tryz.prog.keyLits (d+1) 2 [.int .i64 z]=some [.int .i64 z]:=by
 unfold Program.keyLits
 rw [Tryz.underlying2]
 simp [wfZ h]
theorem litN (d:Nat) {z:Int} (h:I63 z):Tryz.prog.keyLits (d+1) 3 [.int .i64 z]=some [.int .i64 z]:=by
 unfold Program.keyLits
 rw [Tryz.underlying3]
 simp [wfZ h]
theorem lit4 (d:Nat) {x y z u:Int} (hx:I63 x) (hy:I63 y) (hz:I63 z) (hu:I63 u):Tryz.prog.keyLits (d+1+1) 53 [.int .i64 x,.int .i64 y,.int .i64 z,.int .i64 u]=some [.int .i64 x,.int .i64 y,.int .i64 z,.int .i64 u]:=by
 unfold Program.keyLits
 rw [Tryz.underlying53]
 simp [cellsI4,cellsL64,show List.range 4=[0,1,2,3] from rfl,litZ d hx,litZ d hy,litZ d hz,litZ d hu]
theorem key_kc (k:Kc) (h:Kc63 k):∃ l,keyOf Tryz.prog 55 (encC k)=some l:=by
 unfold keyOf encC
 rw [Tryz.underlying55]
 obtain ⟨d,hd⟩ : ∃ d,Tryz.prog.types.size+1=d+1+1+1:=⟨Tryz.prog.types.size - 2,by have:2≤Tryz.prog.types.size:=of_decide_eq_true (by kernel_rfl);omega⟩
 have hf:Value.formed Tryz.prog 55 (.agg #[.int .i64 k.p,.int .i64 k.a,.int .i64 k.b,.int .i64 k.c,.int .i64 k.d])=true:=by
  simp [Value.formed,Tryz.underlying55,cellsCf]
 have hl:Tryz.prog.keyLits (d+1+1+1) 55 [.int .i64 k.p,.int .i64 k.a,.int .i64 k.b,.int .i64 k.c,.int .i64 k.d]=some [.int .i64 k.p,.int .i64 k.a,.int .i64 k.b,.int .i64 k.c,.int .i64 k.d]:=by
  unfold Program.keyLits
  rw [Tryz.underlying55]
  simp [cellsCf,cellsIn,cellsI4,litN (d+1) h.p,lit4 d h.a h.b h.c h.d]
 simp only [ktC,hd,hf,Value.cells,hl]
 exact ⟨_,rfl⟩
theorem encC_inj {j k:Kc} (h:encC j=encC k):j=k:=by
 obtain ⟨a,b,c,d,e⟩:=j
 obtain ⟨a',b',c',d',e'⟩:=k
 simp [encC] at h
 obtain ⟨rfl,rfl,rfl,rfl,rfl⟩:=h
 rfl
theorem key_kc_inj {j k:Kc} {l:Lit} (h:keyOf Tryz.prog 55 (encC j)=some l) (h':keyOf Tryz.prog 55 (encC k)=some l):j=k:=encC_inj (keyedC.inj h h')
structure CfsAre (D:DataW Unit) (S:Kc→Prop):Prop where
 mem:∀ k l,Kc63 k→keyOf Tryz.prog 55 (encC k)=some l→(Maps.has D l=true↔S k)
 key:∀ l,Maps.has D l=true→∃ k,Kc63 k∧keyOf Tryz.prog 55 (encC k)=some l
theorem CfsAre.put {D:DataW Unit} {S:Kc→Prop} (h:CfsAre D S) (hD:IsMap D) {j:Kc} {l:Lit} (hj:Kc63 j) (hl:keyOf Tryz.prog 55 (encC j)=some l) (d:DataW Unit):CfsAre (D.put l d) (fun k=>S k∨k=j):=by
 refine ⟨fun k l' hk hl'=>?_,fun l' hl'=>?_⟩
 ·rw [has_put hD (keyedC.key hl),h.mem k l' hk hl']
  constructor
  ·rintro (rfl | h1)
   ·exact .inr (key_kc_inj hl' hl)
   ·exact .inl h1
  ·rintro (h1 | rfl)
   ·exact .inr h1
   ·exact .inl (Option.some.inj (hl'.symm.trans hl))
 ·rcases (has_put hD (keyedC.key hl)).1 hl' with rfl | h1
  ·exact ⟨j,hj,hl⟩
  ·exact h.key l' h1
theorem CfsAre.iff {D:DataW Unit} {S S':Kc→Prop} (h:CfsAre D S) (hs:∀ s,S s↔S' s):CfsAre D S':=⟨fun s l hs' hl=>(h.mem s l hs' hl).trans (hs s),h.key⟩
theorem cfsAre_nil:CfsAre (.map []) (fun _=>False):=⟨fun j l _ _=>by simp [Maps.has],fun l h=>by simp [Maps.has] at h⟩
def CfgS (w:World) (b n:Nat) (S:Kc→Prop):Prop:=∃ D:DataW Unit,w.ownsMap Tryz.prog 55 unitElem b n D∧CfsAre D S
theorem CfgS.at {w w':World} {b n:Nat} {S:Kc→Prop} (h:CfgS w b n S) (e:w'.heap[b]? = w.heap[b]?):CfgS w' b n S:=let ⟨D,h1,h2⟩:=h;⟨D,ownsMap_at h1 e,h2⟩
theorem CfgS.mono {w:World} {b n n':Nat} {S:Kc→Prop} (h:CfgS w b n S) (hn:n≤n'):CfgS w b n' S:=let ⟨D,h1,h2⟩:=h;⟨D,h1.mono hn,h2⟩
theorem CfgS.iff {w:World} {b n:Nat} {S S':Kc→Prop} (h:CfgS w b n S) (hs:∀ s,S s↔S' s):CfgS w b n S':=let ⟨D,h1,h2⟩:=h;⟨D,h1,h2.iff hs⟩
theorem CfgS.lt {w:World} {b n:Nat} {S:Kc→Prop} (h:CfgS w b n S):b<w.heap.size:=let ⟨_,h1,_⟩:=h;h1.lt
theorem CfgS.kind {w:World} {b n:Nat} {S:Kc→Prop} (h:CfgS w b n S):∃ es c,w.heap[b]? = some (.map es c):=let ⟨_,h1,_⟩:=h;ownsMap_kind h1
theorem put_kc {w:World} {b n:Nat} {S:Kc→Prop} (h:CfgS w b n S) (hn:n<maxLen) (k:Kc) (hk:Kc63 k):∃ w':World,
  (Instr.mapUpdate 66 (.map (some b)) (.agg #[.int .i64 k.p,.int .i64 k.a,.int .i64 k.b,.int .i64 k.c,.int .i64 k.d]) (.agg #[])).run Tryz.prog w=.ok () w'∧CfgS w' b (n+1) (fun j=>S j∨j=k)∧Chg (fun x=>x=b) w w':=by
 obtain ⟨D,h1,h2⟩:=h
 obtain ⟨l,hl⟩:=key_kc k hk
 obtain ⟨w',hr,h3,h4⟩:=h1.update keyedC Tryz.underlying66 hn hl unitElem_mk
 exact ⟨w',hr,⟨_,h3,h2.put h1.isMap hk hl _⟩,chg_of_grown h4⟩
end Go.Proofs.YtnmjicfpmkoldaaGreatDoor

/- A range over a function whose order isn't known ahead (the keys of a map): a law for the walks.
   Conditions: those that the theorem states. -/
namespace Go.Proofs.YtnmjicfpmkoldaaGreatDoor
open Go.RowKit Go.Shelf
def IterS {α:Type} (n g:Nat) (lb:Array Value) (encs:α→Array Value) (Kp:World→World→Prop) (Nxt:List α→α→Prop) (Fin:List α→Prop) (w:World):Prop :=
 ∀ (l:Nat) (J Jx:List α→World→Prop) (W:World),Below w.heap.size w W→AbidesFrom W.heap.size J→AbidesFrom W.heap.size Jx →
  (∀ pre x W1,J pre W1→Nxt pre x→YieldAt Fence.wide (n - 1) Tryz.prog l (encs x) W1 fun e W' =>
   (e=.returned (.bool true)∧J (pre ++ [x]) W'∧Kp W1 W')∨(e=.returned (.bool false)∧Jx (pre ++ [x]) W')) →
  J [] W →
  CallsIn Fence.wide n Tryz.prog g (#[.func (.yield l) #[] #[]] ++ lb) W fun e W'=>(∃ v,e=.returned v)∧((∃ pre,Fin pre∧J pre W')∨∃ pre x,Nxt pre x∧Jx (pre ++ [x]) W')
theorem rangeS_law {α:Type} {g:Operand} {ps:Array Tmp} {assign body:Code} {Q:Exit→Act→World→Prop} {a:Act} {w:World} {n gf:Nat} {lb:Array Value}
  (hg:a.eval g=.func (.func gf) #[] lb) (eg:∀ args w,(callFunc gf args).run Tryz.prog w=.ok (.enter gf args) w)
  {encs:α→Array Value} {Kp:World→World→Prop} {Nxt:List α→α→Prop} {Fin:List α→Prop} (hit:IterS (n - 1) gf lb encs Kp Nxt Fin w)
  (hKt:∀ {A B C:World},Kp A B→Kp B C→Kp A C) (hKb:∀ (W:World) (l:Nat) (r:Loop) (o':Obj),w.heap.size≤l→W.heap[l]? = some (.loop r)→Kp W (W.putObj l o')) (hps:∀ x,(encs x).size=ps.size)
  (I Ix:List α→World→Prop) (hI:Calm w.heap.size I) (hIx:Calm w.heap.size Ix) (hA:AbidesFrom w.heap.size I) (hAx:AbidesFrom w.heap.size Ix) (h0:I [] w)
  (hround:∀ (l:Nat) (pre:List α) (x:α) (W:World),I pre W→Nxt pre x→w.heap.size<l→l<W.heap.size →
   assign.wpIn (Fence.wide.inRound l) (n - 1 - 1) Tryz.prog (Exit.then (fun a1 w1=>KeepsFrom w.heap.size W w1∧Kp W w1∧I pre w1∧∀ w2,Chg (fun k=>k=l) w1 w2→(∃ r,w2.heap[l]? = some (.loop r))→I pre w2→body.wpIn (Fence.wide.inRound l) (n - 1 - 1) Tryz.prog (fun e _ W'=>LeftW w.heap.size Kp I Ix pre x w2 e W') a1 w2) (fun _ _ _=>False)) { tmps:=(ps.zip (encs x)).foldl (fun t (p,v)=>t.setIfInBounds p v) a.tmps,defers:=[] } W)
  (hdone:∀ (D:Nat) (pre:List α) (W:World),Fin pre→I pre W→w.heap.size≤D→W.heap[D]? = some (.deferred (some []))→Q .normal { a with defers:={ target:=.collected D,args:=#[] } :: a.defers } W)
  (hstop:∀ (D:Nat) (pre:List α) (x:α) (W:World),Nxt pre x→Ix (pre ++ [x]) W→w.heap.size≤D→W.heap[D]? = some (.deferred (some []))→Code.ret.wpIn Fence.wide n Tryz.prog Q { a with defers:={ target:=.collected D,args:=#[] } :: a.defers } W) :
  (Code.rangeFunc g ps assign body).wpIn Fence.wide n Tryz.prog Q a w:=by
 refine wpIn_rangeFunc fun fn hfn=>?_
 obtain ⟨lp,hlp⟩ : ∃ lp:LoopState→Option Code→Loop,lp=fun st pe=>{ state:=st,pending:=pe,fn,tmps:=a.tmps,params:=ps,assign,body,defers:=w.heap.size }:=⟨_,rfl⟩
 have hbel:Below w.heap.size w ((w.alloc (.deferred (some []))).alloc (.loop (lp .ready none))):=((Below.refl _ w).alloc (Nat.le_refl _) _).alloc (by simp) _
 have hL:((w.alloc (.deferred (some []))).alloc (.loop (lp .ready none))).heap[w.heap.size+1]? = some (.loop (lp .ready none)):=by
  have:=World.alloc_heap_new (w.alloc (.deferred (some []))) (.loop (lp .ready none))
  rwa [World.size_alloc] at this
 have hD:((w.alloc (.deferred (some []))).alloc (.loop (lp .ready none))).heap[w.heap.size]? = some (.deferred (some [])):=(Below.heap_alloc _ _ _ (by simp)).trans (World.alloc_heap_new w _)
 have hent:=run_enterLoop_outer (P:=Tryz.prog) (w:=w) fn a.tmps ps assign body
 have hsz:((w.alloc (.deferred (some []))).alloc (.loop (lp .ready none))).heap.size=w.heap.size+2:=by simp
 have h1:I [] ((w.alloc (.deferred (some []))).alloc (.loop (lp .ready none))):=hI _ _ _ w.heap.size h0 (Nat.le_refl _) (fun _ _ _ e=>by simp at e) (((Chg.refl _ w).alloc _).alloc _)
 have hW:(w.alloc (.deferred (some []))).alloc (.loop { state:=.ready,pending:=none,fn,tmps:=a.tmps,params:=ps,assign,body,defers:=w.heap.size })=(w.alloc (.deferred (some []))).alloc (.loop (lp .ready none)):=by rw [hlp]
 rw [hW] at hent
 generalize (w.alloc (.deferred (some []))).alloc (.loop (lp .ready none))=W1 at *
 refine ⟨w.heap.size+1,[{ target:=.collected w.heap.size,args:=#[] }],W1,{ target:=.fn (.func gf) lb,args:=#[.func (.yield (w.heap.size+1)) #[] #[]] },W1,gf,#[.func (.yield (w.heap.size+1)) #[] #[]] ++ lb,W1,hent,?_,fun _ _=>trivial,?_,(fun h=>by cases h),?_⟩
 ·simp only [resolve,hg]
  simp [go_sem]
 ·simp [invoke,go_sem,eg]
 ·refine (hit (w.heap.size+1) (fun (pre:List α) (W:World)=>I pre W∧W.heap[w.heap.size+1]? = some (.loop (lp .ready none))∧W.heap[w.heap.size]? = some (.deferred (some []))) (fun (pre:List α) (W:World)=>Ix pre W∧W.heap[w.heap.size+1]? = some (.loop (lp .done (some .ret)))∧W.heap[w.heap.size]? = some (.deferred (some []))) W1 hbel (fun s V V' row hs hg hr=>⟨hA s V V' row hs.1 hg (fun r e=>⟨Nat.le_trans hbel.size (hr r e).1,(hr r e).2⟩),(grownBy_keeps hg (fun r e=>(hr r e).2) hs.2.1 rfl).trans hs.2.1,(grownBy_keeps hg (fun r e=>(hr r e).2) hs.2.2 rfl).trans hs.2.2⟩) (fun s V V' row hs hg hr=>⟨hAx s V V' row hs.1 hg (fun r e=>⟨Nat.le_trans hbel.size (hr r e).1,(hr r e).2⟩),(grownBy_keeps hg (fun r e=>(hr r e).2) hs.2.1 rfl).trans hs.2.1,(grownBy_keeps hg (fun r e=>(hr r e).2) hs.2.2 rfl).trans hs.2.2⟩) ?_ ⟨h1,hL,hD⟩).mono ?_
  ·rintro pre x W ⟨q1,q2,q3⟩ hnext
   have hlt:=(Array.getElem?_eq_some_iff.1 q2).1
   have hy:=run_yield (P:=Tryz.prog) (args:=encs x) q2 (by rw [hlp];exact hps x)
   rw [hlp] at hy
   refine ⟨fn,_,assign,body,hy,roundIn_of_wpIn trivial (wpIn_mono (hround _ pre x W q1 hnext (Nat.lt_succ_self _) hlt) ?_)⟩
   rintro e a3 w1 hp
   cases e with
   | normal =>
    obtain ⟨k1,k2,k3,k4⟩:=hp
    have l1:=k1.same _ _ (by omega) q2 rfl
    have d1:=k1.same _ _ (Nat.le_refl _) q3 rfl
    have hlt1:=(Array.getElem?_eq_some_iff.1 l1).1
    refine ⟨_,run_beginRound l1 (by rw [hlp]),?_⟩
    have c2:Chg (fun k=>k=w.heap.size+1) w1 (w1.putObj (w.heap.size+1) (.loop { lp .ready none with state:=.busy })):=chg_put _ _ _ rfl
    have i2:=hI _ _ _ _ k3 (by omega) (fun _ _ _ e=>by rw [l1] at e;cases e) c2
    have l2:(w1.putObj (w.heap.size+1) (.loop { lp .ready none with state:=.busy })).heap[w.heap.size+1]? = some (.loop { lp .ready none with state:=.busy }):=World.putObj_heap_same hlt1
    have d2:=(c2.block w.heap.size (Array.getElem?_eq_some_iff.1 d1).1 (by omega)).trans d1
    have kp2:Kp w1 (w1.putObj (w.heap.size+1) (.loop { lp .ready none with state:=.busy })):=hKb _ _ _ _ (by omega) l1
    refine wpIn_mono (k4 _ c2 ⟨_,l2⟩ i2) ?_
    have fin:∀ (jump:Option Code) (W3:World),KeepsFrom w.heap.size (w1.putObj (w.heap.size+1) (.loop { lp .ready none with state:=.busy })) W3 →
      (Instr.endRound (w.heap.size+1) jump).run Tryz.prog W3=.ok (.bool jump.isNone) (W3.putObj (w.heap.size+1) (.loop (lp (if jump.isNone then .ready else .done) jump))) ∧
      (W3.putObj (w.heap.size+1) (.loop (lp (if jump.isNone then .ready else .done) jump))).heap[w.heap.size+1]? = some (.loop (lp (if jump.isNone then .ready else .done) jump)) ∧
      (W3.putObj (w.heap.size+1) (.loop (lp (if jump.isNone then .ready else .done) jump))).heap[w.heap.size]? = some (.deferred (some []))∧W3.heap[w.heap.size+1]? = some (.loop { lp .ready none with state:=.busy }):=fun jump W3 k5=>by
     have l3:=k5.same _ _ (by omega) l2 rfl
     have d3:=k5.same _ _ (Nat.le_refl _) d2 rfl
     have hr:=run_endRound (P:=Tryz.prog) jump l3
     rw [hlp] at hr ⊢
     refine ⟨hr,World.putObj_heap_same (Array.getElem?_eq_some_iff.1 l3).1,(World.putObj_heap_other (by omega)).trans d3,?_⟩
     rw [hlp] at l3
     exact l3
    rintro e a4 W3 hp
    cases e with
    | normal =>
     obtain ⟨k5,k6,k7⟩:=hp
     obtain ⟨r1,r2,r3,r4⟩:=fin none W3 k5
     exact ⟨_,_,r1,.inl ⟨rfl,⟨hI _ _ _ _ k7 (by omega) (fun _ _ _ e=>by rw [r4] at e;cases e) (chg_put _ _ _ rfl),r2,r3⟩,hKt (hKt (hKt k2 kp2) k6) (hKb _ _ _ _ (by omega) r4)⟩⟩
    | ret =>
     obtain ⟨k5,k7⟩:=hp
     obtain ⟨r1,r2,r3,r4⟩:=fin (some .ret) W3 k5
     exact ⟨_,_,r1,.inr ⟨rfl,hIx _ _ _ _ k7 (by omega) (fun _ _ _ e=>by rw [r4] at e;cases e) (chg_put _ _ _ rfl),r2,r3⟩⟩
    | exit id=>exact hp.elim
    | goto t=>exact hp.elim
    | panic ch=>exact hp.elim
    | outgrown=>exact hp.elim
   | ret=>exact hp.elim
   | exit id=>exact hp.elim
   | goto t=>exact hp.elim
   | panic ch=>exact hp.elim
   | outgrown=>exact hp.elim
  ·rintro e W2 ⟨⟨v,rfl⟩,(⟨pre,hfin,q1,q2,q3⟩ | ⟨pre,x,hx,q1,q2,q3⟩)⟩
   ·refine ⟨none,_,by have:=run_endLoop (P:=Tryz.prog) q2 (by rw [hlp];simp);rw [hlp] at this;exact this,?_⟩
    exact hdone _ pre _ hfin (hI _ _ _ _ q1 (by omega) (fun _ _ _ e=>by rw [q2] at e;cases e) (chg_put _ _ _ rfl)) (Nat.le_refl _) ((World.putObj_heap_other (by omega)).trans q3)
   ·refine ⟨some .ret,_,by have:=run_endLoop (P:=Tryz.prog) q2 (by rw [hlp];simp);rw [hlp] at this;exact this,?_⟩
    exact hstop _ pre x _ hx (hIx _ _ _ _ q1 (by omega) (fun _ _ _ e=>by rw [q2] at e;cases e) (chg_put _ _ _ rfl)) (Nat.le_refl _) ((World.putObj_heap_other (by omega)).trans q3)
end Go.Proofs.YtnmjicfpmkoldaaGreatDoor

/- maps.Keys at a map of configs: the iterator hands each config of the set once: a contract for ranges over it.
   Conditions: the set lies in memory, and the map's box. -/
namespace Go.Proofs.YtnmjicfpmkoldaaGreatDoor
open Go.RowKit Go.Maps Go.Shelf
theorem rangesC_has {w:World} {b r n cnt:Nat} {D:DataW Unit} {left:Lit→Bool} (h:w.ranges Tryz.prog 55 unitElem b r n D left cnt) {kl:Lit} (hk:left kl=true):Maps.has D kl=true:=by
 obtain ⟨es,clock,since,seen,c0,hb,F,hs,rfl,hr,hold,hc,hl1,hl2,_⟩:=h
 obtain ⟨x,hx,rfl⟩:=hl2 kl hk
 obtain ⟨y,hy⟩:=F.reads x hx
 exact List.any_eq_true.2 ⟨Go.WideElems.rg Tryz.prog 55 unitElem x,mem_sorted.2 (List.mem_map.2 ⟨x,hx,rfl⟩),WideAt.sameKey_self (by rw [Go.WideElems.rg_of hy];exact keyedC.key (Go.WideElems.rd_key hy))⟩
def MetC (D:DataW Unit) (left:Lit→Bool) (ss:List Kc):Prop:=ss.Nodup∧∀ k,k∈ss↔∃ l,Kc63 k∧keyOf Tryz.prog 55 (encC k)=some l∧Maps.has D l=true∧left l=false
theorem metC_start (D:DataW Unit):MetC D (Maps.has D) []:=⟨List.nodup_nil,fun k=>by
 constructor
 ·intro h;cases h
 ·rintro ⟨l,_,_,h1,h2⟩
  rw [h1] at h2;cases h2⟩
theorem metC_step {D:DataW Unit} {left:Lit→Bool} {ss:List Kc} (h:MetC D left ss) {k:Kc} {kl:Lit} (hk:Kc63 k) (hkl:keyOf Tryz.prog 55 (encC k)=some kl) (hl:left kl=true) (hd:Maps.has D kl=true):MetC D (fun z=>left z && !z.sameKey kl) (ss ++ [k]):=by
 have hK:=keyedC.key hkl
 have hsame:∀ z:Lit,(left z && !z.sameKey kl)=false↔left z=false∨z=kl:=fun z=>by
  by_cases e:z=kl
  ·subst e
   rw [WideAt.sameKey_self hK]
   simp
  ·cases hz:z.sameKey kl with
   | true=>exact absurd (WideAt.sameKey_eq hz) e
   | false=>simp [e]
 have hnot:k ∉ ss:=fun hm=>by
  obtain ⟨l,_,h1,_,h3⟩:=(h.2 k).1 hm
  have:l=kl:=Option.some.inj (h1.symm.trans hkl)
  subst this
  rw [hl] at h3;cases h3
 refine ⟨?_,fun j=>?_⟩
 ·rw [List.nodup_append]
  exact ⟨h.1,by simp,fun a ha b hb hab=>by rw [List.mem_singleton.1 hb] at hab;subst hab;exact hnot ha⟩
 ·rw [List.mem_append,h.2 j,List.mem_singleton]
  constructor
  ·rintro (⟨l,a1,a2,a3,a4⟩ | rfl)
   ·exact ⟨l,a1,a2,a3,(hsame l).2 (.inl a4)⟩
   ·exact ⟨kl,hk,hkl,hd,(hsame kl).2 (.inr rfl)⟩
  ·rintro ⟨l,a1,a2,a3,a4⟩
   rcases (hsame l).1 a4 with a4 | rfl
   ·exact .inl ⟨l,a1,a2,a3,a4⟩
   ·exact .inr (key_kc_inj a2 hkl)
theorem metC_end {D:DataW Unit} {left:Lit→Bool} {ss:List Kc} {S:Kc→Prop} (h:MetC D left ss) (hl:∀ kl,left kl=false) (hD:CfsAre D S):ss.Nodup∧∀ k,k∈ss↔Kc63 k∧S k:=⟨h.1,fun k=>(h.2 k).trans ⟨fun ⟨l,a1,a2,a3,_⟩=>⟨a1,(hD.mem k l a1 a2).1 a3⟩,fun ⟨a1,a2⟩=>by
 obtain ⟨l,hl'⟩:=key_kc k a1
 exact ⟨l,a1,hl',(hD.mem k l a1 hl').2 a2,hl l⟩⟩⟩
end Go.Proofs.YtnmjicfpmkoldaaGreatDoor

/- maps.Keys at a map of configs: the iterator: a contract.
   Conditions: the set lies in memory, and the map's box. -/
namespace Go.Proofs.YtnmjicfpmkoldaaGreatDoor
open Go.RowKit Go.Maps Go.Shelf
attribute [local go_sem] Oper.semAt_some
def NxC (S:Kc→Prop) (N:Nat) (pre:List Kc) (x:Kc):Prop:=x ∉ pre∧Kc63 x∧S x∧pre.length<N
def FinC (S:Kc→Prop) (N:Nat) (ss:List Kc):Prop:=(ss.Nodup∧∀ k,k∈ss↔Kc63 k∧S k)∧ss.length≤N
set_option maxRecDepth 100000 in
set_option maxHeartbeats 2000000 in
theorem keysC_in (n:Nat) (hn:1≤n) (l Bm b nn:Nat) (D:DataW Unit) (S:Kc→Prop) (hD:CfsAre D S) (J Jx:List Kc→World→Prop)
  (hY:∀ pre x W,J pre W→NxC S (Maps.size D) pre x→YieldAt Fence.wide (n - 1) Tryz.prog l #[encC x] W fun e W' =>
   (e=.returned (.bool true)∧J (pre ++ [x]) W'∧KeepsWalks W W')∨(e=.returned (.bool false)∧Jx (pre ++ [x]) W'))
  (W:World) (hJ:AbidesFrom W.heap.size J) (hm:W.cell? ⟨Bm,0,none⟩=some (.map (some b))) (hown:W.ownsMap Tryz.prog 55 unitElem b nn D) (h0:J [] W) :
  CallsIn Fence.wide n Tryz.prog 128 #[.func (.yield l) #[] #[],.pointer (some ⟨Bm,0,none⟩)] W fun e W'=>(∃ v,e=.returned v) ∧
   ((∃ ss,FinC S (Maps.size D) ss∧J ss W')∨(∃ pre x,NxC S (Maps.size D) pre x∧Jx (pre ++ [x]) W')):=by
 refine callsIn_of_wp Tryz.func128 rfl trivial ?_ rfl
 simp only [Tryz.ntmps128,List.size_toArray,List.length_cons,List.length_nil,Nat.reduceAdd,Nat.reduceSub,Array.replicate_succ,Array.replicate_zero,List.push_toArray,List.append_toArray,List.nil_append,List.cons_append]
 gi_wp2_with (first
  | (gi_at_range;refine wpListIn_range_own _ rfl _ 66 rfl 55 74 keyedC Tryz.underlying66 unitElem b nn D rfl hown ?_;intro w0 hrg0 hg0 hs0)
  | gi_in)
 go_frame
 gi_loopw [3] (fun _ wr=>∃ (left:Lit→Bool) (cnt:Nat) (ss:List Kc),wr.ranges Tryz.prog 55 unitElem b W.heap.size nn D left cnt∧ss.length+cnt≤Maps.size D∧MetC D left ss∧J ss wr)
  (fun _ wr=>wr.rangeLeft b W.heap.size)
 case atStart =>
  exact ⟨_,_,[],hrg0,by simp,metC_start D,hJ [] W w0 none h0 hg0 (fun r e=>by cases e)⟩
 case round =>
  obtain ⟨left,cnt,ss,hrg,hcs,hC,hJs⟩:=hrel
  rcases hrg.next keyedC 0 with ⟨hc0,hl0,hnx⟩ | ⟨key,v,kl,y,w2,cnt2,hkey,hlk,hv,hat,hnx,hrg2,hlt,hg2,hs2,hen⟩
  ·have HE:=Lib.hid (And.intro (metC_end hC hl0 hD) (show ss.length≤Maps.size D by omega))
   have HJ:=Lib.hid hJs
   clear hl0 hC hJs hc0
   gi_wp2
   go_end0
   exact ⟨⟨_,rfl⟩,.inl ⟨ss,HE.out,HJ.out⟩⟩
  ·obtain ⟨k,hk63,hkl⟩:=hD.key kl (rangesC_has hrg hlk)
   obtain rfl:key=encC k:=keyedC.inj hkey hkl
   obtain ⟨rfl,_⟩:=unitElem_inv hv
   have hJ2:J ss w2:=hJ ss wr w2 (some W.heap.size) hJs hg2 (fun r e=>by cases e;exact ⟨Nat.le_refl _,hrg.iter_walk⟩)
   obtain ⟨w3,hw3⟩ : ∃ w3,w2.alloc (.cells #[.int .i64 k.p,.int .i64 k.a,.int .i64 k.b,.int .i64 k.c,.int .i64 k.d] 55)=w3:=⟨_,rfl⟩
   have hg3:w2.grownBy w3 none:=by rw [← hw3];exact ⟨rfl,rfl,rfl,by simp,fun j hj _=>Below.heap_alloc _ _ _ hj⟩
   have hJ3:J ss w3:=hJ ss w2 w3 none hJ2 hg3 (fun r e=>by cases e)
   have hrg3:w3.ranges Tryz.prog 55 unitElem b W.heap.size nn D (fun z=>left z && !z.sameKey kl) cnt2:=hrg2.of_walks (by rw [← hw3];exact KeepsWalks.alloc _ _)
   obtain ⟨p0,p1,p2,p3,p4⟩ : w3.cell? ⟨w2.heap.size,0,none⟩=some (.int .i64 k.p)∧w3.cell? ⟨w2.heap.size,1,none⟩=some (.int .i64 k.a)∧w3.cell? ⟨w2.heap.size,2,none⟩=some (.int .i64 k.b)∧w3.cell? ⟨w2.heap.size,3,none⟩=some (.int .i64 k.c)∧w3.cell? ⟨w2.heap.size,4,none⟩=some (.int .i64 k.d):=CfB.five (x:=k.x) (show CfB w3 w2.heap.size k.p k.x by rw [← hw3];exact heap_alloc_new w2 _)
   have hpl:w2.heap.size<w3.heap.size:=by rw [← hw3];simp
   have hnm:k ∉ ss:=by
    intro hm
    obtain ⟨l',_,a2,_,a4⟩:=(hC.2 k).1 hm
    have:l'=kl:=Option.some.inj (a2.symm.trans hkl)
    subst this
    rw [hlk] at a4
    cases a4
   have hnx':NxC S (Maps.size D) ss k:=⟨hnm,hk63,(hD.mem k kl hk63 hkl).1 (rangesC_has hrg hlk),by omega⟩
   clear hnm
   have HNX:=Lib.hid hnx'
   obtain ⟨fn,tmps,assign,body,hy,hR⟩:=hY ss k w3 hJ3 hnx'
   clear hnx'
   have HC2:=Lib.hid (metC_step hC hk63 hkl hlk (rangesC_has hrg hlk))
   have HRG:=Lib.hid (And.intro hrg (And.intro hrg3 (And.intro hlt hcs)))
   unfold encC at hy hen hnx
   clear hrg hrg2 hrg3 hg2 hs2 hg3 hJ2 hJ3 hJs hC hat hv hkey hkl hlk hk63 hlt hcs
   clear hY hJ hm hown h0 hrg0 hg0 hs0
   gi_wp2
   refine hR.mono ?_
   rintro e W3 (⟨rfl,hJ3,hk3⟩ | ⟨rfl,hJx3⟩)
   ·have HR3:=Lib.hid (And.intro (HRG.out.2.1.of_walks hk3) hJ3)
    clear hJ3 hk3 hR hy p0 p1 p2 p3 p4 hw3 hpl hnx hen
    gi_wp2
    go_roundw
    case rel=>exact ⟨_,cnt2,ss ++ [k],HR3.out.1,by have:=HRG.out.2.2;simp;omega,HC2.out,HR3.out.2⟩
    case measure=>rw [HR3.out.1.left_eq,HRG.out.1.left_eq];exact HRG.out.2.2.1
   ·have HX:=Lib.hid hJx3
    clear hJx3 hR hy p0 p1 p2 p3 p4 hw3 hpl hnx hen
    gi_wp2
    refine bodyPost_ret (results_none rfl _ _ _) rfl ?_
    exact ⟨⟨_,rfl⟩,.inr ⟨ss,k,HNX.out,HX.out⟩⟩
theorem keysC_iter (n:Nat) (hn:1≤n) (Bm b nn:Nat) (D:DataW Unit) (S:Kc→Prop) (hD:CfsAre D S) (w:World) (hBm:Bm<w.heap.size) (hm:w.cell? ⟨Bm,0,none⟩=some (.map (some b))) (hown:w.ownsMap Tryz.prog 55 unitElem b nn D) :
  IterS n 128 #[.pointer (some ⟨Bm,0,none⟩)] (fun k=>#[encC k]) KeepsWalks (NxC S (Maps.size D)) (FinC S (Maps.size D)) w:=fun l J Jx W hW hJ _ hY h0 =>
 keysC_in n hn l Bm b nn D S hD J Jx hY W hJ ((hW.cell (p:=⟨Bm,0,none⟩) hBm).trans hm) (ownsMap_at hown (hW.block b hown.lt)) h0
end Go.Proofs.YtnmjicfpmkoldaaGreatDoor

/- slices.AppendSeq at configs, behind an iterator whose order isn't known: a contract.
   Conditions: what the iterator gives, and how many. -/
namespace Go.Proofs.YtnmjicfpmkoldaaGreatDoor
open Go.RowKit Go.Maps Go.Shelf
attribute [local go_sem] Oper.semAt_some
def AcI (w:World) (bx:Nat) (pre:List Kc) (W:World):Prop :=
 ∃ v,W.heap[bx]? = some (.cells #[v] 42 (0,0))∧W.ownsRow w.heap.size 55 5 v pre.length (pre.flatMap kcc)∧Chg (fun x=>x=bx) w W
theorem aci_calm {w:World} {bx:Nat}:Calm w.heap.size (AcI w bx):=by
 rintro pre W W' l ⟨v,h1,h2,h3⟩ hl hn hc
 refine ⟨v,(hc.block bx (Array.getElem?_eq_some_iff.1 h1).1 (not_cells h1 hn)).trans h1,own_chg h2 hc fun x e hx=>?_,?_⟩
 ·obtain ⟨cs,m,h⟩:=own_ty h2 e
  exact not_cells h hn hx
 ·exact ⟨hc.os.trans h3.os,hc.tape.trans h3.tape,hc.output.trans h3.output,Nat.le_trans h3.size hc.size,fun k hk hne=>(hc.block k (Nat.lt_of_lt_of_le hk h3.size) (fun e=>by have e:k=l:=e;omega)).trans (h3.block k hk hne)⟩
theorem aci_abides {w:World} {bx:Nat}:AbidesFrom w.heap.size (AcI w bx):=by
 rintro pre W W' row ⟨v,h1,h2,h3⟩ hg hr
 have hc:Chg (fun x=>row=some x) W W':=(Chg.refl _ W).grown hg fun k hk _=>hk
 have hnc:∀ {b:Nat} {cs:Array Value} {e:TypeId} {m:Nat×Nat},W.heap[b]? = some (.cells cs e m)→¬ row=some b:=fun {b cs e m} h hb=>by
  obtain ⟨_,o,ho,hw⟩:=hr b hb
  rw [h] at ho
  obtain rfl:=Option.some.inj ho
  simp [Obj.isWalk] at hw
 refine ⟨v,(hc.block bx (Array.getElem?_eq_some_iff.1 h1).1 (hnc h1)).trans h1,own_chg h2 hc fun x e hx=>?_,?_⟩
 ·obtain ⟨cs,m,h⟩:=own_ty h2 e
  exact hnc h hx
 ·exact ⟨hc.os.trans h3.os,hc.tape.trans h3.tape,hc.output.trans h3.output,Nat.le_trans h3.size hc.size,fun k hk hne=>(hc.block k (Nat.lt_of_lt_of_le hk h3.size) (fun e=>by have:=(hr k e).1;omega)).trans (h3.block k hk hne)⟩
theorem IterS.low {α:Type} {n g:Nat} {lb:Array Value} {encs:α→Array Value} {Kp:World→World→Prop} {Nxt:List α→α→Prop} {Fin:List α→Prop} {w w':World} (h:IterS n g lb encs Kp Nxt Fin w) (hb:Below w.heap.size w w'):IterS n g lb encs Kp Nxt Fin w' :=
 fun l J Jx W hW=>h l J Jx W (hb.trans (hW.mono hb.size))
set_option maxRecDepth 100000 in
set_option maxHeartbeats 2000000 in
theorem appendC_in (gf:Nat) (lb:Array Value) (eg:∀ args w,(callFunc gf args).run Tryz.prog w=.ok (.enter gf args) w) {Nxt:List Kc→Kc→Prop} {Fin:List Kc→Prop} (N:Nat) (hN:N≤1000000000000) (hNx:∀ pre x,Nxt pre x→pre.length<N) (w:World)
  (hit:IterS 8 gf lb (fun k=>#[encC k]) KeepsWalks Nxt Fin w) :
  CallsIn Fence.wide 9 Tryz.prog 71 #[.slice none 0 0,.func (.func gf) #[] lb] w fun e w'=>∃ v pre,e=.returned v∧Fin pre∧w'.ownsRow w.heap.size 55 5 v pre.length (pre.flatMap kcc)∧Below w.heap.size w w':=by
 obtain ⟨i0,hi,hz0,hz1,hz2⟩:=info_parts infoCf
 obtain ⟨w1,hw1⟩ : ∃ w1,w.alloc (.cells #[.slice none 0 0] 42)=w1:=⟨_,rfl⟩
 have hb1:Below w.heap.size w w1:=hw1▸(Below.refl _ w).alloc (Nat.le_refl _) _
 have hs1:w1.heap.size=w.heap.size+1:=by rw [← hw1];simp
 have hp1:w1.heap[w.heap.size]? = some (.cells #[.slice none 0 0] 42 (0,0)):=by rw [← hw1];exact heap_alloc_new w _
 have h0:AcI w1 w.heap.size [] w1:=⟨_,hp1,World.ownsRow_nil _ _ _ _,Chg.refl _ _⟩
 have H1:=Lib.hid (And.intro hb1 (And.intro hs1 hp1))
 refine callsIn_of_wp_marks Tryz.func71 rfl trivial ?_ rfl
 simp only [Tryz.ntmps71,List.size_toArray,List.length_cons,List.length_nil,Nat.reduceAdd,Nat.reduceSub,Array.replicate_succ,Array.replicate_zero,List.push_toArray,List.append_toArray,List.nil_append,List.cons_append]
 clear hb1 hs1 hp1
 gi_wp2_with fail
 clear hw1
 refine rangeS_law (n:=9) (gf:=gf) (lb:=lb) rfl eg (hit.low H1.out.1) KeepsWalks.trans (fun W l r o' _ h=>KeepsWalks.putObj _ h rfl) (fun _=>rfl)
  (AcI w1 w.heap.size) (fun _ _=>False) aci_calm (fun _ _ _ _ h=>h.elim) aci_abides (fun _ _ _ _ h=>h.elim) h0 ?round ?done ?stop
 case stop=>intro D pre x W _ h _ _;exact h.elim
 case round =>
  clear h0 hit
  intro l pre k W hI hnext hl1 hl2
  have hplen:pre.length<1000000000000:=by have:=hNx pre k hnext;omega
  obtain ⟨W2,hW2⟩ : ∃ W2,W.alloc (.cells #[.int .i64 k.p,.int .i64 k.a,.int .i64 k.b,.int .i64 k.c,.int .i64 k.d] 55)=W2:=⟨_,rfl⟩
  have hI2:AcI w1 w.heap.size pre W2:=aci_abides pre W W2 none hI (by rw [← hW2];exact ⟨rfl,rfl,rfl,by simp,fun j hj _=>Below.heap_alloc _ _ _ hj⟩) (fun r e=>by cases e)
  have hk2:KeepsWalks W W2:=by rw [← hW2];exact KeepsWalks.alloc _ _
  have hf2:KeepsFrom w1.heap.size W W2:=by rw [← hW2];exact (KeepsOthers.alloc W _).from _
  have hp2:W2.heap[W.heap.size]? = some (.cells #[.int .i64 k.p,.int .i64 k.a,.int .i64 k.b,.int .i64 k.c,.int .i64 k.d] 55 (0,0)):=by rw [← hW2];exact heap_alloc_new W _
  have HI0:=Lib.hid (And.intro hI2 (And.intro hk2 (And.intro hf2 (And.intro hp2 (And.intro hnext hplen)))))
  clear hI hnext hI2 hk2 hf2 hp2 hplen
  unfold encC
  gi_wp2_with fail
  refine ⟨HI0.out.2.2.1,HI0.out.2.1,HI0.out.1,?_⟩
  intro v2 hc2 _ hI2
  obtain ⟨fv,h1,h2,h3⟩:=hI2
  obtain ⟨fA,fC,rfl⟩:=own_form h2
  have hq:=row_cells h1
  have r1:v2.cell? ⟨w.heap.size,0,none⟩=some (.slice fA pre.length fC):=hq.1 0
  have r2:=hq.2 0
  have hrv:w.heap.size<v2.heap.size:=(Array.getElem?_eq_some_iff.1 h1).1
  have hp3:v2.heap[W.heap.size]? = some (.cells #[.int .i64 k.p,.int .i64 k.a,.int .i64 k.b,.int .i64 k.c,.int .i64 k.d] 55 (0,0)):=(hc2.block _ (Array.getElem?_eq_some_iff.1 HI0.out.2.2.2.1).1 (by omega)).trans HI0.out.2.2.2.1
  have hq3:=row_cells hp3
  have q0:v2.cell? ⟨W.heap.size,0,none⟩=some (.int .i64 k.p):=hq3.1 0
  have q1:v2.cell? ⟨W.heap.size,1,none⟩=some (.int .i64 k.a):=hq3.1 1
  have q2:v2.cell? ⟨W.heap.size,2,none⟩=some (.int .i64 k.b):=hq3.1 2
  have q3:v2.cell? ⟨W.heap.size,3,none⟩=some (.int .i64 k.c):=hq3.1 3
  have q4:v2.cell? ⟨W.heap.size,4,none⟩=some (.int .i64 k.d):=hq3.1 4
  have HX:=Lib.hid (And.intro h1 (And.intro h2 h3))
  obtain ⟨ln,hln⟩ : ∃ ln,ln=pre.length:=⟨_,rfl⟩
  have hplen:ln<1000000000000:=by have:=HI0.out.2.2.2.2.2;omega
  rw [← hln] at r1
  have HLN:=Lib.hid hln
  clear h1 h2 h3 hq hln hl1 hl2 hp3 hq3 hc2 hW2
  gi_wp2_with ((gi_at_builtin;refine wpListIn_append_own_at _ rfl _ _ 42 rfl w1.heap.size 55 i0 _ 5 40 Tryz.underlying42 hi hz0 hz1 hz2 rfl (by decide) (.slice fA ln fC) ln (pre.flatMap kcc) rfl ((by have:=HX.out.2.1.alloc (.cells #[.int .i64 k.p,.int .i64 k.a,.int .i64 k.b,.int .i64 k.c,.int .i64 k.d] 55);rw [← HLN.out] at this;exact this)) ⟨v2.heap.size,0,none⟩ 1 1 [.int .i64 k.p,.int .i64 k.a,.int .i64 k.b,.int .i64 k.c,.int .i64 k.d] rfl rfl ?n1 (by simp [Value.oneCell']) ?n2 ?n3 ?n4 ?_))
  case n1=>exact World.news_of_block (heap_alloc_new v2 _)
  case n2=>unfold maxLen;omega
  case n3=>omega
  case n4=>have:=HX.out.2.2.size;simp;omega
  intro v5 W5 hown5 hgrow5 _ hat5
  obtain ⟨g5,cap5,rfl⟩:=ownsRow_succ hown5
  have hown:v2.ownsRow w1.heap.size 55 5 (.slice fA ln fC) ln (pre.flatMap kcc):=by have:=HX.out.2.1;rw [← HLN.out] at this;exact this
  have hc5:Chg (fun k=>(Value.slice fA ln fC).ownBlock=some k) v2 W5:=((Chg.refl (fun k=>(Value.slice fA ln fC).ownBlock=some k) v2).alloc _).grown hgrow5 (fun k hk _=>hk)
  have hnab:¬ (Value.slice fA ln fC).ownBlock=some w.heap.size:=fun e=>by have:=(hown.lt _ e).1;have:=H1.out.2.1;omega
  have e1:=(hc5.block w.heap.size hrv hnab).trans HX.out.1
  have e2:=(row_cells e1).2 0
  have e3:W5.cell? ⟨w.heap.size,0,none⟩=some (.slice fA ln fC):=by rw [(row_cells e1).1 0,HLN.out];rfl
  have hr5:w.heap.size<W5.heap.size:=(Array.getElem?_eq_some_iff.1 e1).1
  have hkw:KeepsWalks v2 W5:=(KeepsWalks.alloc v2 _).trans (KeepsWalks.of_grownBy hgrow5 fun j o hj ho=>by
   obtain ⟨cs,m,h⟩:=own_ty hown hj
   rw [Below.heap_alloc _ _ _ (Array.getElem?_eq_some_iff.1 h).1,h] at ho
   rw [← Option.some.inj ho]
   rfl)
  have HY:=Lib.hid (And.intro hown5 (And.intro hgrow5 (And.intro hat5 (And.intro hc5 (And.intro e1 (And.intro hown hkw))))))
  clear hown5 hgrow5 hat5 hc5 e1 hown hnab hkw
  gi_wp2
  obtain ⟨hown5,hgrow5,hat5,hc5,e1,hown,hkw⟩:=HY.out
  obtain ⟨h1,h2,h3⟩:=HX.out
  have hc6:Chg (fun k=>k=w.heap.size) W5 (W5.setCell ⟨w.heap.size,0,none⟩ (.slice (some ⟨g5,0,none⟩) (ln+1) cap5)):=(Chg.refl (fun k=>k=w.heap.size) W5).setCell (p:=⟨w.heap.size,0,none⟩) (fun _=>rfl) _
  refine ⟨(((KeepsOthers.alloc v2 _).trans (KeepsOthers.of_grownBy hgrow5 fun j o hj' ho=>?_)).trans (KeepsOthers.setCell _ _ _)).from _,hkw.trans (KeepsWalks.setCell _ _ _),.slice (some ⟨g5,0,none⟩) (ln+1) cap5,?_,?_,?_⟩
  ·obtain ⟨cs,mm,h⟩:=own_ty hown hj'
   rw [Below.heap_alloc _ _ _ (Array.getElem?_eq_some_iff.1 h).1,h] at ho
   rw [← Option.some.inj ho]
   rfl
  ·rw [heap_setCell_same W5 w.heap.size _ _ _ _ e1]
   rfl
  ·have e4:(pre ++ [k]).length=ln+1:=by rw [List.length_append,← HLN.out];rfl
   have e5:(pre ++ [k]).flatMap kcc=pre.flatMap kcc ++ kcc k:=by simp
   rw [e4,e5]
   refine own_chg hown5 hc6 fun b hb e=>?_
   have:=(hown5.lt b hb).1
   have:=H1.out.2.1
   have e:b=w.heap.size:=e
   omega
  ·exact (h3.trans hc5 fun k hk e=>by have:=(hown.lt k e).1;omega).setCell (p:=⟨w.heap.size,0,none⟩) (fun _=>rfl) _
 case done =>
  clear h0 hit
  intro D pre W hfin hI hD hK
  obtain ⟨fv,a1,a2,a3⟩:=hI
  have hq:=row_cells a1
  have r1:W.cell? ⟨w.heap.size,0,none⟩=some fv:=hq.1 0
  have hrv:w.heap.size<W.heap.size:=(Array.getElem?_eq_some_iff.1 a1).1
  have HD:=Lib.hid (And.intro a1 (And.intro a2 (And.intro a3 (And.intro hfin (And.intro hD hK)))))
  clear a1 a2 a3 hq hfin hD hK
  gi_wp2_with fail
  obtain ⟨a1,a2,a3,hfin,hD,hK⟩:=HD.out
  have hDn:D≠w.heap.size:=fun e=>by rw [e,a1] at hK;cases hK
  have hc1:Chg (fun x=>x=D) W (W.putObj D (.deferred none)):=chg_put _ _ _ rfl
  refine ⟨by simp,.inl ⟨D,W.putObj D (.deferred none),rfl,run_takeDeferred hK,?_⟩⟩
  refine ⟨fv,by simp [results,Tryz.results71,go_sem],fv,pre,rfl,hfin,own_low (own_chg a2 hc1 fun b hb e=>?_) (by have:=H1.out.2.1;omega),?_⟩
  ·obtain ⟨cs,m,h⟩:=own_ty a2 hb
   have e:b=D:=e
   rw [e,hK] at h;cases h
  ·exact H1.out.1.trans (((a3.below (B:=w.heap.size) (by have:=H1.out.2.1;omega) fun k hk e=>by omega)).trans (hc1.below (by omega) fun k hk e=>by have:=H1.out.2.1;have e:k=D:=e;omega))
end Go.Proofs.YtnmjicfpmkoldaaGreatDoor

/- A row of configs, sorted by slices.SortFunc with config.Order: a contract.
   Conditions: the row is the call's own, and has fewer than 2 to the power 62 configs. -/
namespace Go.Proofs.YtnmjicfpmkoldaaGreatDoor
open Go.RowKit Go.Maps Go.Sort Go.Shelf
theorem grows_drewN {w w':World} (h:Grows w w'):∀ n,Grows w (w'.drewN n):=fun n=>by
 obtain ⟨q,os,rfl⟩:=h
 exact ⟨q+n,os,by unfold grow World.drewN;simp [Nat.add_assoc]⟩
set_option maxHeartbeats 4000000 in
set_option maxRecDepth 100000 in
theorem orderC_any (a0 a1 a2 a3 a4 b0 b1 b2 b3 b4:Int) (w:World) :
  Calls Tryz.prog 27 #[.agg #[.int .i64 a0,.int .i64 a1,.int .i64 a2,.int .i64 a3,.int .i64 a4],.agg #[.int .i64 b0,.int .i64 b1,.int .i64 b2,.int .i64 b3,.int .i64 b4]] w fun e w'=>e=.returned (.int .i64 (lexI [a0,a1,a2,a3,a4] [b0,b1,b2,b3,b4]))∧Grows w w':=by
 obtain ⟨w2,hw2⟩ : ∃ w2,(w.alloc (.cells #[.int .i64 a0,.int .i64 a1,.int .i64 a2,.int .i64 a3,.int .i64 a4] 55)).alloc (.cells #[.int .i64 b0,.int .i64 b1,.int .i64 b2,.int .i64 b3,.int .i64 b4] 55)=w2:=⟨_,rfl⟩
 have hb2:Grows w w2:=hw2▸((Grows.refl w).alloc _).alloc _
 have e1:w2.heap[w.heap.size]? = some (.cells #[.int .i64 a0,.int .i64 a1,.int .i64 a2,.int .i64 a3,.int .i64 a4] 55 (0,0)):=by rw [← hw2];exact (Below.heap_alloc _ _ _ (by simp)).trans (heap_alloc_new w _)
 have e2:w2.heap[w.heap.size+1]? = some (.cells #[.int .i64 b0,.int .i64 b1,.int .i64 b2,.int .i64 b3,.int .i64 b4] 55 (0,0)):=by
  rw [← hw2]
  have:=heap_alloc_new (w.alloc (.cells #[.int .i64 a0,.int .i64 a1,.int .i64 a2,.int .i64 a3,.int .i64 a4] 55)) (.cells #[.int .i64 b0,.int .i64 b1,.int .i64 b2,.int .i64 b3,.int .i64 b4] 55)
  rw [World.size_alloc] at this
  exact this
 obtain ⟨c0,_⟩:=cells5 e1
 obtain ⟨d0,_⟩:=cells5 e2
 have HB:=Lib.hid (And.intro hb2 (And.intro (four_at e1) (four_at e2)))
 have HS:=Lib.hid (fun (W:World) (hW:∀ p,W.cell? p=w2.cell? p)=>slicesCompare_any W 4 w.heap.size 1 4 (w.heap.size+1) 1 4 [a1,a2,a3,a4] [b1,b2,b3,b4] (by omega) rfl rfl (fun i x hx=>(hW _).trans (HB.out.2.1 i x hx)) (fun i x hx=>(hW _).trans (HB.out.2.2 i x hx)))
 clear hb2 e1 e2
 go_enter Tryz.func27,Tryz.ntmps27
 go_upto_region 1 with fail
 clear hw2
 go_region_with (first
  | (go_at_call 51;refine (compare_int _ _ _).mono ?_;rintro e w1 ⟨rfl,rfl⟩)
  | (go_at_call 52;refine (HS.out _ (by intro p;rfl)).mono ?_;rintro e w1 ⟨rfl,rfl⟩)
  | (go_at_call 50;refine (or_two w2.heap.size (cmpI a0 b0) (lexI [a1,a2,a3,a4] [b1,b2,b3,b4]) _ (by first | exact (row_cells (heap_alloc_new _ _)).1 0) (by first | exact (row_cells (heap_alloc_new _ _)).1 1)).mono ?_;rintro e w1 ⟨rfl,rfl⟩))
 all_goals
  go_wp2_with fail
  go_ret
  refine ⟨by rw [lex_pair];rfl,?_⟩
  first | exact HB.out.1.alloc _ | exact (HB.out.1.alloc _).drew | exact ((HB.out.1.alloc _).drew).drew | exact (HB.out.1.drew).alloc _ | exact grows_drewN (HB.out.1.alloc _) _
instance:Inhabited Kc:=⟨⟨0,0,0,0,0⟩⟩
def kcL (k:Kc):List Int:=[k.p,k.a,k.b,k.c,k.d]
def cfC (a b:Kc):Int:=lexI (kcL a) (kcL b)
def kcLt (a b:Kc):Prop:=a.p<b.p∨a.p=b.p∧(a.a<b.a∨a.a=b.a∧(a.b<b.b∨a.b=b.b∧(a.c<b.c∨a.c=b.c∧a.d<b.d)))
theorem lexI_lt (a b:Int) (xs ys:List Int):lexI (a :: xs) (b :: ys)<0↔a<b∨a=b∧lexI xs ys<0:=by
 rw [lexI]
 rcases cmpI_cases a b with ⟨e,h⟩ | ⟨e,h⟩ | ⟨e,h⟩ <;> rw [e] <;> simp <;> omega
theorem cfC_lt (a b:Kc):cfC a b<0↔kcLt a b:=by
 unfold cfC kcL kcLt
 rw [lexI_lt,lexI_lt,lexI_lt,lexI_lt,lexI_lt]
 simp [lexI]
theorem ltC (a b:Kc):ltOf cfC a b=true↔kcLt a b:=by
 unfold ltOf
 rw [decide_eq_true_iff]
 exact cfC_lt a b
theorem ltC_false (a b:Kc):ltOf cfC a b=false↔¬ kcLt a b:=by
 rw [← ltC];simp
theorem kcLt_irr (a:Kc):¬ kcLt a a:=by unfold kcLt;omega
theorem kcLt_tr {a b c:Kc} (h:kcLt a b) (k:kcLt b c):kcLt a c:=by
 unfold kcLt at *
 omega
theorem kcLt_tot {a b:Kc} (h:¬ kcLt a b) (k:¬ kcLt b a):a=b:=by
 unfold kcLt at *
 obtain ⟨a1,a2,a3,a4,a5⟩:=a
 obtain ⟨b1,b2,b3,b4,b5⟩:=b
 simp only at *
 obtain rfl:a1=b1:=by omega
 obtain rfl:a2=b2:=by omega
 obtain rfl:a3=b3:=by omega
 obtain rfl:a4=b4:=by omega
 obtain rfl:a5=b5:=by omega
 rfl
theorem swoC:SWO (ltOf cfC) where
 irrefl x:=by rw [ltC_false];exact kcLt_irr x
 trans x y z h1 h2:=by rw [ltC] at *;exact kcLt_tr h1 h2
 ntrans x y z h1 h2:=by
  rw [ltC_false] at *
  intro h
  by_cases hyx:kcLt y x
  ·exact h2 (kcLt_tr hyx h)
  ·obtain rfl:=kcLt_tot h1 hyx
   exact h2 h
theorem totC (x y:Kc) (h:ltOf cfC x y=false) (k:ltOf cfC y x=false):x=y:=by
 rw [ltC_false] at *
 exact kcLt_tot h k
def sortC (l:List Kc):List Kc:=l.mergeSort fun x y=>!ltOf cfC y x
theorem sortC_perm (l:List Kc):(sortC l).Perm l:=List.mergeSort_perm _ _
theorem kccs_len (l:List Kc):(l.flatMap kcc).length=l.length * 5:=by
 induction l with
 | nil=>rfl
 | cons f l ih=>rw [List.flatMap_cons,List.length_append,ih,List.length_cons];show 5+_=_;omega
theorem kcc_get:∀ (l:List Kc) (t:Nat),t<l.length * 5→(l.flatMap kcc)[t]? = some (kcc l[t / 5]!)[t % 5]!
 | [],t,h=>by simp at h
 | m :: l,t,h=>by
  rw [List.flatMap_cons]
  by_cases ht:t<5
  ·rw [List.getElem?_append_left (by show t<5;exact ht)]
   have h3:t / 5=0:=by omega
   have h4:t % 5=t:=by omega
   rw [h3,h4]
   have:t=0∨t=1∨t=2∨t=3∨t=4:=by omega
   rcases this with rfl | rfl | rfl | rfl | rfl <;> rfl
  ·rw [List.getElem?_append_right (by show 5≤t;omega)]
   have h3:t / 5=(t - 5) / 5+1:=by omega
   have h4:t % 5=(t - 5) % 5:=by omega
   have h5:=kcc_get l (t - 5) (by simp only [List.length_cons] at h;omega)
   rw [show t - (kcc m).length=t - 5 from rfl,h5,h3,h4]
   simp
theorem flat_kc (l:List Kc) (t:Nat) (h:t<l.length * 5):(l.flatMap kcc)[t]? = some (flatK kcc 5 l.toArray)[t]!:=by
 rw [kcc_get l t h,get_flatK kcc 5 l.toArray t (by simpa using h)]
 simp
theorem holds_kc {w:World} {B g cap:Nat} {l:List Kc} (h:w.ownsRow B 55 5 (.slice (some ⟨g,0,none⟩) l.length cap) l.length (l.flatMap kcc)):HoldsK kcc 5 w g 0 l.toArray:=by
 intro j hj
 have hj':j<l.length * 5:=by simpa using hj
 rw [Nat.zero_add]
 refine ⟨?_,h.frozenAt j⟩
 rw [h.cellAt j hj',flat_kc l j hj']
 rfl
theorem owns_sortedC {w:World} {B g cap m:Nat} {l l':List Kc} {os:Array Obj} (h:w.ownsRow B 55 5 (.slice (some ⟨g,0,none⟩) l.length cap) l.length (l.flatMap kcc)) (hl:l'.length=l.length) :
  (sortWorldK kcc 5 w g 0 m l'.toArray os).ownsRow B 55 5 (.slice (some ⟨g,0,none⟩) l.length cap) l'.length (l'.flatMap kcc)∧Chg (fun x=>g=x) w (sortWorldK kcc 5 w g 0 m l'.toArray os):=by
 have hlt:=(h.lt g rfl).2
 rcases h.2 with ⟨e0,_⟩ | ⟨g',cap',cur,e0,hb,hg,hn,hm,hs,ht⟩
 ·cases e0
 ·injection e0 with e1 _ e3
  injection e1 with e1
  injection e1 with e1
  subst e1;subst e3
  have hput:(putRowK kcc 5 (Sort.ahead w m) g 0 l'.toArray).heap[g]? = some (.cells (putCells id 0 (flatK kcc 5 l'.toArray) cur) 55 (0,0)):=by
   simp [putRowK,putRow,mapBlock,Sort.ahead,Array.getElem?_modify,hg,onCells]
  have hsz:(putRowK kcc 5 (Sort.ahead w m) g 0 l'.toArray).heap.size=w.heap.size:=by simp [putRowK,putRow,mapBlock,Sort.ahead]
  have hgr:(sortWorldK kcc 5 w g 0 m l'.toArray os).heap[g]? = some (.cells (putCells id 0 (flatK kcc 5 l'.toArray) cur) 55 (0,0)):=by
   unfold sortWorldK grow
   show ((putRowK kcc 5 (Sort.ahead w m) g 0 l'.toArray).heap ++ os)[g]? = _
   rw [Array.getElem?_append_left (by omega)]
   exact hput
  refine ⟨⟨?_,.inr ⟨g,cap,putCells id 0 (flatK kcc 5 l'.toArray) cur,by rw [hl],hb,hgr,by omega,hm,by simpa [putCells] using hs,?_⟩⟩,?_⟩
  ·rw [kccs_len]
  ·apply List.ext_getElem?
   intro j
   rw [List.getElem?_take,Array.getElem?_toList]
   by_cases hj:j<l'.length * 5
   ·have hjc:j<cur.size:=by
     have:l.length * 5≤cap * 5:=Nat.mul_le_mul_right 5 hn
     omega
    rw [if_pos hj,flat_kc l' j hj]
    simp only [putCells,Array.getElem?_mapIdx,Array.getElem?_eq_getElem hjc,Option.map_some]
    rw [if_pos (by simp;omega)]
    rfl
   ·rw [if_neg hj,List.getElem?_eq_none (by rw [kccs_len];omega)]
  ·refine ⟨rfl,rfl,rfl,?_,fun k hk hne=>?_⟩
   ·unfold sortWorldK grow
    show w.heap.size≤((putRowK kcc 5 (Sort.ahead w m) g 0 l'.toArray).heap ++ os).size
    rw [Array.size_append,hsz]
    omega
   ·unfold sortWorldK grow
    show ((putRowK kcc 5 (Sort.ahead w m) g 0 l'.toArray).heap ++ os)[k]? = _
    rw [Array.getElem?_append_left (by omega)]
    simp [putRowK,putRow,mapBlock,Sort.ahead,Array.getElem?_modify,hne]
theorem sort_rowC (w:World) (B:Nat) (v:Value) (l:List Kc) (h:w.ownsRow B 55 5 v l.length (l.flatMap kcc)) (hl:l.length<4611686018427387904) :
  Calls Tryz.prog 48 #[v,.func (.func 27) #[] #[]] w fun e w'=>e=.returned (.tuple #[])∧w'.ownsRow B 55 5 v (sortC l).length ((sortC l).flatMap kcc)∧Chg (fun x=>v.ownBlock=some x) w w':=by
 have hsl:(sortC l).length=l.length:=(sortC_perm l).length_eq
 cases l with
 | nil =>
  obtain ⟨A,cp,rfl⟩:=own_form h
  refine (AnyF.slices_SortFunc_none Tryz.sortCf A cp (.func (.func 27) #[] #[]) w).mono ?_
  rintro e w' ⟨rfl,rfl⟩
  have e1:sortC []=[]:=List.eq_nil_of_length_eq_zero hsl
  exact ⟨rfl,by rw [e1];exact h,Chg.refl _ _⟩
 | cons m l =>
  obtain ⟨g,cap,rfl⟩:=ownsRow_succ h
  have eg:∀ args w,(callFunc 27 args).run Tryz.prog w=.ok (.enter 27 args) w:=enters_of Tryz.func27 (by kernel_rfl) rfl
  have hcmp:CmpLays Tryz.prog 27 #[] kcc 5 cfC g 0 (m :: l).toArray.size w:=fun q os dk _ x y=>orderC_any x.p x.a x.b x.c x.d y.p y.a y.b y.c y.d _
  refine (AnyQ.slices_SortFunc_total Tryz.sortCf 5 Tryz.isAgg55 Tryz.sizeOf55 kcc (fun _=>rfl) (fun x v hv=>by simp [kcc] at hv;rcases hv with rfl | rfl | rfl | rfl | rfl <;> rfl) cfC swoC 27 #[] g 0 cap (m :: l).toArray w eg hcmp (holds_kc h) (h.lt g rfl).2 (by simpa using hl) totC).mono ?_
  rintro e w' ⟨rfl,q,os,rfl⟩
  have h1:=owns_sortedC (m:=q) (os:=os) h hsl
  exact ⟨rfl,h1.1,h1.2.mono fun x _ e=>by rw [← e];rfl⟩
end Go.Proofs.YtnmjicfpmkoldaaGreatDoor

/- slices.SortedFunc at configs, behind an iterator whose order isn't known: a contract.
   Conditions: what the iterator gives, and how many. -/
namespace Go.Proofs.YtnmjicfpmkoldaaGreatDoor
open Go.RowKit Go.Maps Go.Shelf
attribute [local go_sem] Oper.semAt_some
set_option maxRecDepth 100000 in
set_option maxHeartbeats 2000000 in
theorem collectC_any (gf:Nat) (lb:Array Value) (eg:∀ args w,(callFunc gf args).run Tryz.prog w=.ok (.enter gf args) w) {Nxt:List Kc→Kc→Prop} {Fin:List Kc→Prop} (N:Nat) (hN:N≤1000000000000) (hNx:∀ pre x,Nxt pre x→pre.length<N) (w:World)
  (hit:IterS 8 gf lb (fun k=>#[encC k]) KeepsWalks Nxt Fin w) :
  Calls Tryz.prog 47 #[.func (.func gf) #[] lb] w fun e w'=>∃ v pre,e=.returned v∧Fin pre∧w'.ownsRow w.heap.size 55 5 v pre.length (pre.flatMap kcc)∧Below w.heap.size w w':=by
 have HA:=Lib.hid ((callsIn_wide (n:=9)).1 (appendC_in gf lb eg N hN hNx w hit))
 clear hit
 go_enter Tryz.func47,Tryz.ntmps47
 go_wp2_with fail
 go_at_call 71
 refine HA.out.mono ?_
 rintro e w1 ⟨v,pre,rfl,h1,h2,h3⟩
 have HR:=Lib.hid (And.intro h1 (And.intro h2 h3))
 clear h1 h2 h3
 go_wp2_with fail
 go_ret
 exact ⟨_,_,rfl,HR.out.1,HR.out.2.1,HR.out.2.2⟩
set_option maxRecDepth 100000 in
set_option maxHeartbeats 2000000 in
theorem sortedC_any (gf:Nat) (lb:Array Value) (eg:∀ args w,(callFunc gf args).run Tryz.prog w=.ok (.enter gf args) w) {Nxt:List Kc→Kc→Prop} {Fin:List Kc→Prop} (N:Nat) (hN:N≤1000000000000) (hNx:∀ pre x,Nxt pre x→pre.length<N) (w:World)
  (hit:IterS 8 gf lb (fun k=>#[encC k]) KeepsWalks Nxt Fin w) (hF:∀ l,Fin l→l.length<4611686018427387904) :
  Calls Tryz.prog 25 #[.func (.func gf) #[] lb,.func (.func 27) #[] #[]] w fun e w'=>∃ v l,e=.returned v∧Fin l∧w'.ownsRow w.heap.size 55 5 v (sortC l).length ((sortC l).flatMap kcc)∧Below w.heap.size w w':=by
 have HA:=Lib.hid (collectC_any gf lb eg N hN hNx w hit)
 clear hit
 go_enter Tryz.func25,Tryz.ntmps25
 go_wp2_with fail
 go_at_call 47
 refine HA.out.mono ?_
 rintro e w1 ⟨v,pre,rfl,h1,h2,h3⟩
 have HS:=Lib.hid (sort_rowC w1 w.heap.size v pre h2 (hF pre h1))
 have HR:=Lib.hid (And.intro h1 (And.intro h2 h3))
 clear h1 h2 h3
 go_wp2_with fail
 go_at_call 48
 refine HS.out.mono ?_
 rintro e w2 ⟨rfl,h1,h2⟩
 have HR2:=Lib.hid (And.intro h1 h2)
 clear h1 h2
 go_wp2_with fail
 go_ret
 refine ⟨_,_,rfl,HR.out.1,HR2.out.1,HR.out.2.2.trans (HR2.out.2.below HR.out.2.2.size fun k hk e=>?_)⟩
 have:=(HR.out.2.1.lt k e).1
 omega
end Go.Proofs.YtnmjicfpmkoldaaGreatDoor

/- The keys of a set of configs, sorted: a contract.
   Conditions: the set lies in memory, and how many it holds at most. -/
namespace Go.Proofs.YtnmjicfpmkoldaaGreatDoor
open Go.RowKit Go.Maps Go.Shelf
attribute [local go_sem] Oper.semAt_some
theorem keysC_any (b:Nat) (w:World):Calls Tryz.prog 96 #[.map (some b)] w fun e w'=>e=.returned (.func (.func 128) #[] #[.pointer (some ⟨w.heap.size,0,none⟩)])∧w'=w.alloc (.cells #[.map (some b)] 66):=by
 go_enter Tryz.func96,Tryz.ntmps96
 go_wp2_with fail
 go_ret
 exact ⟨rfl,rfl⟩
theorem sorted_keys {w w1:World} {b n:Nat} {S:Kc→Prop} (h:CfgS w b n S) (hn:n<1000000000000) (hw:w1=w.alloc (.cells #[.map (some b)] 66)) :
  Calls Tryz.prog 25 #[.func (.func 128) #[] #[.pointer (some ⟨w.heap.size,0,none⟩)],.func (.func 27) #[] #[]] w1 fun e w' =>
   ∃ v l,e=.returned v∧l.Nodup∧(∀ k,k∈l↔Kc63 k∧S k)∧l.length≤n∧w'.ownsRow w1.heap.size 55 5 v (sortC l).length ((sortC l).flatMap kcc)∧Below w1.heap.size w1 w':=by
 obtain ⟨D,h1,h2⟩:=h
 have hsz:=h1.size_le
 have hs1:w1.heap.size=w.heap.size+1:=by rw [hw];simp
 have hB:w1.cell? ⟨w.heap.size,0,none⟩=some (.map (some b)):=by rw [hw];simp
 have ho:w1.ownsMap Tryz.prog 55 unitElem b n D:=ownsMap_at h1 (by rw [hw];exact Below.heap_alloc _ _ _ h1.lt)
 have hit:=keysC_iter 8 (by omega) w.heap.size b n D S h2 w1 (by omega) hB ho
 refine (sortedC_any _ _ (enters_of Tryz.func128 (by kernel_rfl) rfl) 1000000000000 (by omega) (fun pre x h=>by have:=h.2.2.2;omega) w1 hit (fun l h=>by have:=h.2;omega)).mono ?_
 rintro e w' ⟨v,l,rfl,h3,h4,h5⟩
 exact ⟨v,l,rfl,h3.1.1,h3.1.2,by have:=h3.2;omega,h4,h5⟩
end Go.Proofs.YtnmjicfpmkoldaaGreatDoor

/- A right config's numbers are ints.
   No conditions. -/
namespace Go.Proofs.YtnmjicfpmkoldaaGreatDoor
open Go.RowKit
theorem cnts_63 {m:PM} (hw:MapW m) {l:List Nat} (hl:l∈m.ars) {x:Nat→Int} (hx:cntsB m l x=true) {t:Nat} (ht:t<1000000):Kc63 (kcOf (t:Nat) x):=by
 rw [cnts_iff] at hx
 have h:∀ i<4,I63 (x i):=fun i hi=>by
  have h1:=hx i hi
  unfold I63
  by_cases g:i<l.length
  ·obtain ⟨_,_,_,hok⟩:=sc_in hw hl g
   have:=top_pos hok
   rw [cnt_in g,Bool.and_eq_true,decide_eq_true_iff,decide_eq_true_iff] at h1
   omega
  ·rw [cnt_out g,decide_eq_true_iff] at h1
   omega
 exact ⟨by unfold I63 kcOf;show _≤(t:Int)∧(t:Int)≤_;omega,h 0 (by omega),h 1 (by omega),h 2 (by omega),h 3 (by omega)⟩
end Go.Proofs.YtnmjicfpmkoldaaGreatDoor

/- The document's Has: is a config in a list? A contract.
   Conditions: the list lies in memory. -/
namespace Go.Proofs.YtnmjicfpmkoldaaGreatDoor
open Go.RowKit Go.Maps Go.Shelf Go.Lib
attribute [local go_sem] Oper.semAt_some
def CfsR (w:World) (A:Option Addr) (l:List Kc):Prop:=∀ i k,l[i]? = some k→∃ g,A=some ⟨g,0,none⟩∧g<w.heap.size∧w.cell? ⟨g,i * 5,none⟩=some (.int .i64 k.p)∧w.cell? ⟨g,i * 5+1,none⟩=some (.int .i64 k.a)∧w.cell? ⟨g,i * 5+2,none⟩=some (.int .i64 k.b)∧w.cell? ⟨g,i * 5+3,none⟩=some (.int .i64 k.c)∧w.cell? ⟨g,i * 5+4,none⟩=some (.int .i64 k.d)
theorem CfsR.below {w w':World} {A:Option Addr} {l:List Kc} (h:CfsR w A l) (hb:Below w.heap.size w w'):CfsR w' A l:=fun i k hk=>by
 obtain ⟨g,h1,h2,h3,h4,h5,h6,h7⟩:=h i k hk
 exact ⟨g,h1,Nat.lt_of_lt_of_le h2 hb.size,(hb.cell (p:=⟨g,_,none⟩) h2).trans h3,(hb.cell (p:=⟨g,_,none⟩) h2).trans h4,(hb.cell (p:=⟨g,_,none⟩) h2).trans h5,(hb.cell (p:=⟨g,_,none⟩) h2).trans h6,(hb.cell (p:=⟨g,_,none⟩) h2).trans h7⟩
theorem kcc_flat:∀ {l:List Kc} {i:Nat} {k:Kc},l[i]? = some k→(l.flatMap kcc)[i * 5]? = some (.int .i64 k.p)∧(l.flatMap kcc)[i * 5+1]? = some (.int .i64 k.a)∧(l.flatMap kcc)[i * 5+2]? = some (.int .i64 k.b)∧(l.flatMap kcc)[i * 5+3]? = some (.int .i64 k.c)∧(l.flatMap kcc)[i * 5+4]? = some (.int .i64 k.d)
 | [],i,k,h=>by simp at h
 | x :: l,0,k,h=>by
  obtain rfl:=Option.some.inj h
  exact ⟨rfl,rfl,rfl,rfl,rfl⟩
 | x :: l,i+1,k,h=>by
  have:=kcc_flat (l:=l) (i:=i) h
  rw [List.flatMap_cons,show (i+1) * 5=i * 5+5 by omega]
  exact this
theorem own_cfs {w:World} {H c:Nat} {A:Option Addr} {l:List Kc} (h:w.ownsRow H 55 5 (.slice A l.length c) l.length (l.flatMap kcc)):CfsR w A l:=fun i k hk=>by
 have hil:=(List.getElem?_eq_some_iff.1 hk).1
 obtain ⟨g,cap,hv,_,hg⟩:=World.ownsRow.form h (by omega:0<l.length)
 simp only [Value.slice.injEq,true_and] at hv
 obtain ⟨rfl,rfl⟩:=hv
 obtain ⟨f0,f1,f2,f3,f4⟩:=kcc_flat hk
 exact ⟨g,rfl,(h.lt g rfl).2,(World.ownsRow.cellAt h (i * 5) (by omega)).trans f0,(World.ownsRow.cellAt h (i * 5+1) (by omega)).trans f1,(World.ownsRow.cellAt h (i * 5+2) (by omega)).trans f2,(World.ownsRow.cellAt h (i * 5+3) (by omega)).trans f3,(World.ownsRow.cellAt h (i * 5+4) (by omega)).trans f4⟩
end Go.Proofs.YtnmjicfpmkoldaaGreatDoor

/- Lists of configs that rise: plain facts.
   Conditions: those that each theorem states. -/
namespace Go.Proofs.YtnmjicfpmkoldaaGreatDoor
open Go.RowKit
def kcB (c:Cf):Kc:=kcOf (c.p:Nat) c.x
theorem cfc_kcc (l:List Cf):l.flatMap cfc=(l.map kcB).flatMap kcc:=by
 rw [List.flatMap_map]
 rfl
theorem ent_right {m:PM} (hw:MapW m) {q:Nat} {l:List Nat} (h1:1≤q) (hl:m.ars[q]? = some l):rightB m (q:Int) (entX l (fun _=>0) 0)=true:=by
 have hm:=List.mem_of_getElem? hl
 rw [right_at h1 hl]
 refine cnts_iff.2 fun i hi=>?_
 have e1:entX l (fun _=>0) 0 i=if i<l.length then 1 else 0:=by
  unfold entX
  by_cases g:i<l.length
  ·rw [if_pos ⟨Nat.zero_le _,g⟩,if_pos g]
  ·rw [if_neg (fun h=>g h.2),if_neg g]
 rw [e1]
 by_cases g:i<l.length
 ·obtain ⟨_,_,_,hok⟩:=sc_in hw hm g
  have:=top_pos hok
  rw [if_pos g,cnt_in g,decide_eq_true (by omega),decide_eq_true this.1]
  rfl
 ·rw [if_neg g,cnt_out g]
  rfl
theorem bg_right {m:PM} (hw:MapW m) {fl:List Nat} (hfl:∀ q∈fl,1≤q∧q<m.ars.length) {b:Nat}:∀ c∈bgL m b fl,rightB m (c.p:Int) c.x=true:=fun c hc=>by
 obtain ⟨q,hq,rfl⟩:=List.mem_map.1 hc
 obtain ⟨h1,h2⟩:=hfl q (List.mem_filter.1 hq).1
 have hl:=List.getElem?_eq_getElem (l:=m.ars) (i:=q) h2
 show rightB m (q:Int) (entX (m.ars.getD q []) (fun _=>0) 0)=true
 rw [show m.ars.getD q []=m.ars[q] by rw [List.getD_eq_getElem?_getD,hl];rfl]
 exact ent_right hw h1 hl
end Go.Proofs.YtnmjicfpmkoldaaGreatDoor
