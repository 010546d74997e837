import Derived.Test.YtdhadeeajgoedaaGreatL06
import Derived.Shelf.Strconv.Clone
set_option maxRecDepth 100000
set_option maxHeartbeats 4000000
set_option linter.all false
namespace Go.Proofs.YtdhadeeajgoedaaGreat
open Go.RowKit Go.PlainAid
def qtp:Go.Shelf.Ren:=
 ⟨fun
  | 316=>162
  | n=>n,
  fun
   | 0=>0
   | 3=>3
   | 4=>4
   | 5=>5
   | 9=>9
   | 37=>52
   | 127=>132
   | n=>n,
  fun n=>n⟩
theorem qos:LaysM.n316 Tryz.prog qtp:= {
 mixed:=by kernel_rfl
 f316:=Tryz.func162
 t0:=Tryz.underlying0
 a0:=Tryz.isAgg0
 z0:=Tryz.sizeOf0
 v0:=Tryz.zeroValue0
 t3:=Tryz.underlying3
 a3:=Tryz.isAgg3
 z3:=Tryz.sizeOf3
 v3:=Tryz.zeroValue3
 t4:=Tryz.underlying4
 a4:=Tryz.isAgg4
 z4:=Tryz.sizeOf4
 v4:=Tryz.zeroValue4
 t9:=Tryz.underlying9
 a9:=Tryz.isAgg9
 z9:=Tryz.sizeOf9
 v9:=Tryz.zeroValue9
 t37:=Tryz.underlying52
 a37:=Tryz.isAgg52
 z37:=Tryz.sizeOf52
 v37:=Tryz.zeroValue52
 t127:=Tryz.underlying132
 a127:=Tryz.isAgg132
 z127:=Tryz.sizeOf132
 v127:=Tryz.zeroValue132
 t5:=Tryz.underlying5
 a5:=Tryz.isAgg5
 z5:=Tryz.sizeOf5
 v5:=Tryz.zeroValue5
 i0:=by kernel_rfl
 i3:=by kernel_rfl
 i4:=by kernel_rfl
 i5:=by kernel_rfl
 i9:=by kernel_rfl
 i37:=by kernel_rfl
 i127:=by kernel_rfl
}
theorem qns(s:ByteArray)(hs:s.size<=1048576)(w:World):
 Calls Tryz.prog 162 #[.string s] w fun e w'=>e=.returned (.string s)/\Below w.heap.size w w':=Any.stringslite_Clone qos s w (by omega)
theorem qep(s:ByteArray)(hs:s.size<=1048576)(w:World):
 Calls Tryz.prog 139 #[.string s] w fun e w'=>e=.returned (.string s)/\Below w.heap.size w w':=by
 have H:=zh (fun W=>qns s hs W)
 go_enter Tryz.func139,Tryz.ntmps139
 go_wp2_with fail
 refine(H.out _).mono ?_
 rintro e w' ⟨rfl,hb⟩
 go_wp2_with fail
 go_ret
 exact⟨rfl,hb⟩
end Go.Proofs.YtdhadeeajgoedaaGreat
