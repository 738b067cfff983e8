/- What slices.SortFunc gives, of a slice of structs, at this program: the library's contract, laid.
   No conditions. -/
import Derived.Shelf.SlSortCmp.NoneTotal
import Derived.Test.YtbohmcfplgdlpaaDoorProg

namespace Go.Proofs
open Go.Shelf
def Tryd.sortMv_ren:Go.Shelf.Ren:=⟨fun | 6=>36 | 15=>56 | 14=>55 | 28=>78 | 29=>79 | 20=>70 | 21=>71 | 22=>72 | 23=>73 | 24=>74 | 25=>75 | 26=>76 | 27=>77 | 46=>88 | 47=>89 | 48=>90 | 49=>91 | 50=>92 | 57=>97 | n=>n,fun | 22=>103 | 24=>100 | 25=>105 | 3=>3 | 39=>114 | 0=>0 | 53=>169 | 55=>22 | 4=>4 | 46=>163 | 45=>162 | 50=>112 | 5=>5 | 9=>9 | 66=>176 | 70=>180 | 76=>185 | 77=>186 | n=>n,fun | n=>n⟩
theorem Tryd.sortMv:Go.Proofs.SlLaysF0.n6 Tryd.prog Tryd.sortMv_ren:={
 mixed:=by kernel_rfl
 f6:=⟨Tryd.f36.name,by decide,Tryd.func36.trans (congrArg some (by kernel_rfl))⟩
 f14:=⟨Tryd.f55.name,by decide,Tryd.func55.trans (congrArg some (by kernel_rfl))⟩
 f15:=Tryd.func56.trans (congrArg some (by kernel_rfl))
 f20:=⟨Tryd.f70.name,by decide,Tryd.func70.trans (congrArg some (by kernel_rfl))⟩
 f21:=⟨Tryd.f71.name,by decide,Tryd.func71.trans (congrArg some (by kernel_rfl))⟩
 f22:=⟨Tryd.f72.name,by decide,Tryd.func72.trans (congrArg some (by kernel_rfl))⟩
 f23:=⟨Tryd.f73.name,by decide,Tryd.func73.trans (congrArg some (by kernel_rfl))⟩
 f24:=⟨Tryd.f74.name,by decide,Tryd.func74.trans (congrArg some (by kernel_rfl))⟩
 f25:=⟨Tryd.f75.name,by decide,Tryd.func75.trans (congrArg some (by kernel_rfl))⟩
 f26:=⟨Tryd.f76.name,by decide,Tryd.func76.trans (congrArg some (by kernel_rfl))⟩
 f27:=⟨Tryd.f77.name,by decide,Tryd.func77.trans (congrArg some (by kernel_rfl))⟩
 f28:=Tryd.func78.trans (congrArg some (by kernel_rfl))
 f29:=Tryd.func79.trans (congrArg some (by kernel_rfl))
 f46:=⟨Tryd.f88.name,by decide,Tryd.func88.trans (congrArg some (by kernel_rfl))⟩
 f47:=Tryd.func89.trans (congrArg some (by kernel_rfl))
 f48:=Tryd.func90.trans (congrArg some (by kernel_rfl))
 f49:=⟨Tryd.f91.name,by decide,Tryd.func91.trans (congrArg some (by kernel_rfl))⟩
 f50:=⟨Tryd.f92.name,by decide,Tryd.func92.trans (congrArg some (by kernel_rfl))⟩
 f57:=⟨Tryd.f97.name,by decide,Tryd.func97.trans (congrArg some (by kernel_rfl))⟩
 t0:=Tryd.underlying0
 a0:=Tryd.isAgg0
 z0:=Tryd.sizeOf0
 v0:=Tryd.zeroValue0
 t3:=Tryd.underlying3
 a3:=Tryd.isAgg3
 z3:=Tryd.sizeOf3
 v3:=Tryd.zeroValue3
 t4:=Tryd.underlying4
 a4:=Tryd.isAgg4
 z4:=Tryd.sizeOf4
 v4:=Tryd.zeroValue4
 t5:=Tryd.underlying5
 a5:=Tryd.isAgg5
 z5:=Tryd.sizeOf5
 v5:=Tryd.zeroValue5
 t9:=Tryd.underlying9
 a9:=Tryd.isAgg9
 z9:=Tryd.sizeOf9
 v9:=Tryd.zeroValue9
 t22:=Tryd.underlying103
 a22:=Tryd.isAgg103
 z22:=Tryd.sizeOf103
 v22:=Tryd.zeroValue103
 t25:=Tryd.underlying105
 a25:=Tryd.isAgg105
 z25:=Tryd.sizeOf105
 v25:=Tryd.zeroValue105
 t39:=Tryd.underlying114
 a39:=Tryd.isAgg114
 z39:=Tryd.sizeOf114
 v39:=Tryd.zeroValue114
 t45:=Tryd.underlying162
 a45:=Tryd.isAgg162
 z45:=Tryd.sizeOf162
 v45:=Tryd.zeroValue162
 t46:=Tryd.underlying163
 a46:=Tryd.isAgg163
 z46:=Tryd.sizeOf163
 v46:=Tryd.zeroValue163
 t50:=Tryd.underlying112
 a50:=Tryd.isAgg112
 z50:=Tryd.sizeOf112
 v50:=Tryd.zeroValue112
 t53:=Tryd.underlying169
 a53:=Tryd.isAgg169
 z53:=Tryd.sizeOf169
 v53:=Tryd.zeroValue169
 t55:=Tryd.underlying22
 a55:=Tryd.isAgg22
 z55:=Tryd.sizeOf22
 v55:=Tryd.zeroValue22
 t66:=Tryd.underlying176
 a66:=Tryd.isAgg176
 z66:=Tryd.sizeOf176
 v66:=Tryd.zeroValue176
 t70:=Tryd.underlying180
 a70:=Tryd.isAgg180
 z70:=Tryd.sizeOf180
 v70:=Tryd.zeroValue180
 t76:=Tryd.underlying185
 a76:=Tryd.isAgg185
 z76:=Tryd.sizeOf185
 v76:=Tryd.zeroValue185
 t77:=Tryd.underlying186
 a77:=Tryd.isAgg186
 z77:=Tryd.sizeOf186
 v77:=Tryd.zeroValue186 }
end Go.Proofs
