import Derived.Test.YtdhadeeajgoedaaGreatL06
import Derived.Test.YtdhadeeajgoedaaGreatL14
import Derived.BigRegion
import Derived.Deep.RegionHeld3
set_option maxRecDepth 100000
set_option maxHeartbeats 4000000
set_option linter.all false
namespace Go.Proofs.YtdhadeeajgoedaaGreat
open Go.RowKit Go.PlainAid
theorem qty(k a:Int)(s:ByteArray)(e:Nat)(he:a+(s.size:Int)=(e:Int))(hz:e<=1048576)(w:World):
 Calls Tryz.prog 186 #[.agg #[.int .i64 k,.string s,.int .i64 a]] w fun x w'=>x=.returned (.int .i64 (e:Int))/\Below w.heap.size w w':=by
 go_enter Tryz.func186,Tryz.ntmps186
 go_wp2_with fail
 go_ret
 exact⟨rfl,qa1 _ _⟩
theorem qmr{w W:World}{k:Int}{t:ByteArray}{lv nv tv:Value}{br bl:Bool}(hb:Below (w.alloc (.cells #[.int .i64 k,.string t,lv,.bool br,.bool bl,nv,tv] 29)).heap.size (w.alloc (.cells #[.int .i64 k,.string t,lv,.bool br,.bool bl,nv,tv] 29)) W):
 W.cell? ⟨w.heap.size,0,none⟩=some (.int .i64 k)/\W.cell? ⟨w.heap.size,1,none⟩=some (.string t)/\W.cell? ⟨w.heap.size,2,none⟩=some lv/\W.cell? ⟨w.heap.size,3,none⟩=some (.bool br)/\W.cell? ⟨w.heap.size,4,none⟩=some (.bool bl)/\W.cell? ⟨w.heap.size,5,none⟩=some nv/\W.cell? ⟨w.heap.size,6,none⟩=some tv:=by
 have h: ∀j,W.cell? ⟨w.heap.size,j,none⟩=(#[.int .i64 k,.string t,lv,.bool br,.bool bl,nv,tv]:Array Value)[j]?:=fun j=>by
  rw[hb.cell (p:=⟨w.heap.size,j,none⟩) (by show w.heap.size< (w.alloc _).heap.size;simp)]
  rw[cell_of_row (w.alloc _) w.heap.size j _ 29 (0,0) (by show(w.heap.push _)[w.heap.size]?=_;rw[Array.getElem?_push,if_pos rfl])]
 exact⟨h 0,h 1,h 2,h 3,h 4,h 5,h 6⟩
end Go.Proofs.YtdhadeeajgoedaaGreat
