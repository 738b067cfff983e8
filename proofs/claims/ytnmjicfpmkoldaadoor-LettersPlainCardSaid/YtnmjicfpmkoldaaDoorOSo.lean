/- What slices.SortFunc gives, of a slice of structs, at this program: the library's contract, laid.
   No conditions. -/
import Derived.Shelf.SlSortCmp.NoneTotal
import Derived.Test.YtnmjicfpmkoldaaDoorProg

namespace Go.Proofs
open Go.Shelf
def Tryd.sortMv_ren:Go.Shelf.Ren:=⟨fun | 6=>38 | 15=>58 | 14=>57 | 28=>80 | 29=>81 | 20=>72 | 21=>73 | 22=>74 | 23=>75 | 24=>76 | 25=>77 | 26=>78 | 27=>79 | 46=>90 | 47=>91 | 48=>92 | 49=>93 | 50=>94 | 57=>99 | n=>n,fun | 22=>105 | 24=>102 | 25=>107 | 3=>3 | 39=>116 | 0=>0 | 53=>171 | 55=>22 | 4=>4 | 46=>165 | 45=>164 | 50=>114 | 5=>5 | 9=>9 | 66=>178 | 70=>182 | 76=>187 | 77=>188 | n=>n,fun | n=>n⟩
theorem Tryd.sortMv:Go.Proofs.SlLaysF0.n6 Tryd.prog Tryd.sortMv_ren:={
 mixed:=by kernel_rfl
 f6:=⟨Tryd.f38.name,by decide,Tryd.func38.trans (congrArg some (by kernel_rfl))⟩
 f14:=⟨Tryd.f57.name,by decide,Tryd.func57.trans (congrArg some (by kernel_rfl))⟩
 f15:=Tryd.func58.trans (congrArg some (by kernel_rfl))
 f20:=⟨Tryd.f72.name,by decide,Tryd.func72.trans (congrArg some (by kernel_rfl))⟩
 f21:=⟨Tryd.f73.name,by decide,Tryd.func73.trans (congrArg some (by kernel_rfl))⟩
 f22:=⟨Tryd.f74.name,by decide,Tryd.func74.trans (congrArg some (by kernel_rfl))⟩
 f23:=⟨Tryd.f75.name,by decide,Tryd.func75.trans (congrArg some (by kernel_rfl))⟩
 f24:=⟨Tryd.f76.name,by decide,Tryd.func76.trans (congrArg some (by kernel_rfl))⟩
 f25:=⟨Tryd.f77.name,by decide,Tryd.func77.trans (congrArg some (by kernel_rfl))⟩
 f26:=⟨Tryd.f78.name,by decide,Tryd.func78.trans (congrArg some (by kernel_rfl))⟩
 f27:=⟨Tryd.f79.name,by decide,Tryd.func79.trans (congrArg some (by kernel_rfl))⟩
 f28:=Tryd.func80.trans (congrArg some (by kernel_rfl))
 f29:=Tryd.func81.trans (congrArg some (by kernel_rfl))
 f46:=⟨Tryd.f90.name,by decide,Tryd.func90.trans (congrArg some (by kernel_rfl))⟩
 f47:=Tryd.func91.trans (congrArg some (by kernel_rfl))
 f48:=Tryd.func92.trans (congrArg some (by kernel_rfl))
 f49:=⟨Tryd.f93.name,by decide,Tryd.func93.trans (congrArg some (by kernel_rfl))⟩
 f50:=⟨Tryd.f94.name,by decide,Tryd.func94.trans (congrArg some (by kernel_rfl))⟩
 f57:=⟨Tryd.f99.name,by decide,Tryd.func99.trans (congrArg some (by kernel_rfl))⟩
 t0:=Tryd.underlying0
 a0:=Tryd.isAgg0
 z0:=Tryd.sizeOf0
 v0:=Tryd.zeroValue0
 t3:=Tryd.underlying3
 a3:=Tryd.isAgg3
 z3:=Tryd.sizeOf3
 v3:=Tryd.zeroValue3
 t4:=Tryd.underlying4
 a4:=Tryd.isAgg4
 z4:=Tryd.sizeOf4
 v4:=Tryd.zeroValue4
 t5:=Tryd.underlying5
 a5:=Tryd.isAgg5
 z5:=Tryd.sizeOf5
 v5:=Tryd.zeroValue5
 t9:=Tryd.underlying9
 a9:=Tryd.isAgg9
 z9:=Tryd.sizeOf9
 v9:=Tryd.zeroValue9
 t22:=Tryd.underlying105
 a22:=Tryd.isAgg105
 z22:=Tryd.sizeOf105
 v22:=Tryd.zeroValue105
 t25:=Tryd.underlying107
 a25:=Tryd.isAgg107
 z25:=Tryd.sizeOf107
 v25:=Tryd.zeroValue107
 t39:=Tryd.underlying116
 a39:=Tryd.isAgg116
 z39:=Tryd.sizeOf116
 v39:=Tryd.zeroValue116
 t45:=Tryd.underlying164
 a45:=Tryd.isAgg164
 z45:=Tryd.sizeOf164
 v45:=Tryd.zeroValue164
 t46:=Tryd.underlying165
 a46:=Tryd.isAgg165
 z46:=Tryd.sizeOf165
 v46:=Tryd.zeroValue165
 t50:=Tryd.underlying114
 a50:=Tryd.isAgg114
 z50:=Tryd.sizeOf114
 v50:=Tryd.zeroValue114
 t53:=Tryd.underlying171
 a53:=Tryd.isAgg171
 z53:=Tryd.sizeOf171
 v53:=Tryd.zeroValue171
 t55:=Tryd.underlying22
 a55:=Tryd.isAgg22
 z55:=Tryd.sizeOf22
 v55:=Tryd.zeroValue22
 t66:=Tryd.underlying178
 a66:=Tryd.isAgg178
 z66:=Tryd.sizeOf178
 v66:=Tryd.zeroValue178
 t70:=Tryd.underlying182
 a70:=Tryd.isAgg182
 z70:=Tryd.sizeOf182
 v70:=Tryd.zeroValue182
 t76:=Tryd.underlying187
 a76:=Tryd.isAgg187
 z76:=Tryd.sizeOf187
 v76:=Tryd.zeroValue187
 t77:=Tryd.underlying188
 a77:=Tryd.isAgg188
 z77:=Tryd.sizeOf188
 v77:=Tryd.zeroValue188 }
end Go.Proofs
