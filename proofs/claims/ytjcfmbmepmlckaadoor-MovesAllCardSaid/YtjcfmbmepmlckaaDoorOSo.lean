/- What slices.SortFunc gives, of a slice of structs, at this program: the library's contract, laid.
   No conditions. -/
import Derived.Shelf.SlSortCmp.NoneTotal
import Derived.Test.YtjcfmbmepmlckaaDoorProg

namespace Go.Proofs
open Go.Shelf
def Tryd.sortMv_ren:Go.Shelf.Ren:=⟨fun | 6=>29 | 15=>46 | 14=>45 | 28=>68 | 29=>69 | 20=>60 | 21=>61 | 22=>62 | 23=>63 | 24=>64 | 25=>65 | 26=>66 | 27=>67 | 46=>78 | 47=>79 | 48=>80 | 49=>81 | 50=>82 | 57=>87 | n=>n,fun | 22=>48 | 24=>51 | 25=>96 | 3=>3 | 39=>119 | 0=>0 | 53=>150 | 55=>22 | 4=>4 | 46=>143 | 45=>142 | 50=>147 | 5=>5 | 9=>9 | 66=>157 | 70=>161 | 76=>166 | 77=>167 | n=>n,fun | n=>n⟩
theorem Tryd.sortMv:Go.Proofs.SlLaysF0.n6 Tryd.prog Tryd.sortMv_ren:={
 mixed:=by kernel_rfl
 f6:=⟨Tryd.f29.name,by decide,Tryd.func29.trans (congrArg some (by kernel_rfl))⟩
 f14:=⟨Tryd.f45.name,by decide,Tryd.func45.trans (congrArg some (by kernel_rfl))⟩
 f15:=Tryd.func46.trans (congrArg some (by kernel_rfl))
 f20:=⟨Tryd.f60.name,by decide,Tryd.func60.trans (congrArg some (by kernel_rfl))⟩
 f21:=⟨Tryd.f61.name,by decide,Tryd.func61.trans (congrArg some (by kernel_rfl))⟩
 f22:=⟨Tryd.f62.name,by decide,Tryd.func62.trans (congrArg some (by kernel_rfl))⟩
 f23:=⟨Tryd.f63.name,by decide,Tryd.func63.trans (congrArg some (by kernel_rfl))⟩
 f24:=⟨Tryd.f64.name,by decide,Tryd.func64.trans (congrArg some (by kernel_rfl))⟩
 f25:=⟨Tryd.f65.name,by decide,Tryd.func65.trans (congrArg some (by kernel_rfl))⟩
 f26:=⟨Tryd.f66.name,by decide,Tryd.func66.trans (congrArg some (by kernel_rfl))⟩
 f27:=⟨Tryd.f67.name,by decide,Tryd.func67.trans (congrArg some (by kernel_rfl))⟩
 f28:=Tryd.func68.trans (congrArg some (by kernel_rfl))
 f29:=Tryd.func69.trans (congrArg some (by kernel_rfl))
 f46:=⟨Tryd.f78.name,by decide,Tryd.func78.trans (congrArg some (by kernel_rfl))⟩
 f47:=Tryd.func79.trans (congrArg some (by kernel_rfl))
 f48:=Tryd.func80.trans (congrArg some (by kernel_rfl))
 f49:=⟨Tryd.f81.name,by decide,Tryd.func81.trans (congrArg some (by kernel_rfl))⟩
 f50:=⟨Tryd.f82.name,by decide,Tryd.func82.trans (congrArg some (by kernel_rfl))⟩
 f57:=⟨Tryd.f87.name,by decide,Tryd.func87.trans (congrArg some (by kernel_rfl))⟩
 t0:=Tryd.underlying0
 a0:=Tryd.isAgg0
 z0:=Tryd.sizeOf0
 v0:=Tryd.zeroValue0
 t3:=Tryd.underlying3
 a3:=Tryd.isAgg3
 z3:=Tryd.sizeOf3
 v3:=Tryd.zeroValue3
 t4:=Tryd.underlying4
 a4:=Tryd.isAgg4
 z4:=Tryd.sizeOf4
 v4:=Tryd.zeroValue4
 t5:=Tryd.underlying5
 a5:=Tryd.isAgg5
 z5:=Tryd.sizeOf5
 v5:=Tryd.zeroValue5
 t9:=Tryd.underlying9
 a9:=Tryd.isAgg9
 z9:=Tryd.sizeOf9
 v9:=Tryd.zeroValue9
 t22:=Tryd.underlying48
 a22:=Tryd.isAgg48
 z22:=Tryd.sizeOf48
 v22:=Tryd.zeroValue48
 t25:=Tryd.underlying96
 a25:=Tryd.isAgg96
 z25:=Tryd.sizeOf96
 v25:=Tryd.zeroValue96
 t39:=Tryd.underlying119
 a39:=Tryd.isAgg119
 z39:=Tryd.sizeOf119
 v39:=Tryd.zeroValue119
 t45:=Tryd.underlying142
 a45:=Tryd.isAgg142
 z45:=Tryd.sizeOf142
 v45:=Tryd.zeroValue142
 t46:=Tryd.underlying143
 a46:=Tryd.isAgg143
 z46:=Tryd.sizeOf143
 v46:=Tryd.zeroValue143
 t50:=Tryd.underlying147
 a50:=Tryd.isAgg147
 z50:=Tryd.sizeOf147
 v50:=Tryd.zeroValue147
 t53:=Tryd.underlying150
 a53:=Tryd.isAgg150
 z53:=Tryd.sizeOf150
 v53:=Tryd.zeroValue150
 t55:=Tryd.underlying22
 a55:=Tryd.isAgg22
 z55:=Tryd.sizeOf22
 v55:=Tryd.zeroValue22
 t66:=Tryd.underlying157
 a66:=Tryd.isAgg157
 z66:=Tryd.sizeOf157
 v66:=Tryd.zeroValue157
 t70:=Tryd.underlying161
 a70:=Tryd.isAgg161
 z70:=Tryd.sizeOf161
 v70:=Tryd.zeroValue161
 t76:=Tryd.underlying166
 a76:=Tryd.isAgg166
 z76:=Tryd.sizeOf166
 v76:=Tryd.zeroValue166
 t77:=Tryd.underlying167
 a77:=Tryd.isAgg167
 z77:=Tryd.sizeOf167
 v77:=Tryd.zeroValue167 }
end Go.Proofs
