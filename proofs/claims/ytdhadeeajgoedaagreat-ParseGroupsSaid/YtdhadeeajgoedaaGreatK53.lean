/-
  What the claims stand on: PmFaces, ParseI, ParseJ, ParseRow, ParseTold.
-/
import Derived.Test.YtdhadeeajgoedaaGreatK20
import Derived.Test.YtdhadeeajgoedaaGreatK22
import Derived.Test.YtdhadeeajgoedaaGreatK23
import Derived.Test.YtdhadeeajgoedaaGreatK25
import Derived.Test.YtdhadeeajgoedaaGreatK28
import Derived.Test.YtdhadeeajgoedaaGreatK52
set_option maxRecDepth 100000
set_option maxHeartbeats 4000000
set_option linter.unusedVariables false
set_option linter.unusedSimpArgs false
open Go.RowKit.Below renaming heap_setCell→zA
open Nat renaming le_refl→zB
namespace Go.Proofs.YtdhadeeajgoedaaGreat
open Go.RowKit Go.PlainAid
theorem res7(b1:Nat){w:World}{k:Int}{t:ByteArray}{lv nv tv:Value}{br bl:Bool}(k0:NdB w b1 0 ⟨#[]⟩ (.slice none 0 0) false false (.slice none 0 0) (.slice none 0 0)):NdB (((((((w.setCell ⟨b1,0,none⟩ (.int .i64 k)).setCell ⟨b1,1,none⟩ (.string t)).setCell ⟨b1,2,none⟩ (lv)).setCell ⟨b1,3,none⟩ (.bool br)).setCell ⟨b1,4,none⟩ (.bool bl)).setCell ⟨b1,5,none⟩ (nv)).setCell ⟨b1,6,none⟩ (tv)) b1 k t lv br bl nv tv/\Below b1 w (((((((w.setCell ⟨b1,0,none⟩ (.int .i64 k)).setCell ⟨b1,1,none⟩ (.string t)).setCell ⟨b1,2,none⟩ (lv)).setCell ⟨b1,3,none⟩ (.bool br)).setCell ⟨b1,4,none⟩ (.bool bl)).setCell ⟨b1,5,none⟩ (nv)).setCell ⟨b1,6,none⟩ (tv))/\ ∀q,q≠b1->(((((((w.setCell ⟨b1,0,none⟩ (.int .i64 k)).setCell ⟨b1,1,none⟩ (.string t)).setCell ⟨b1,2,none⟩ (lv)).setCell ⟨b1,3,none⟩ (.bool br)).setCell ⟨b1,4,none⟩ (.bool bl)).setCell ⟨b1,5,none⟩ (nv)).setCell ⟨b1,6,none⟩ (tv)).heap[q]?=w.heap[q]?:=by
 have l0:Below b1 w w:=Below.refl _ _
 have k1:NdB (w.setCell ⟨b1,0,none⟩ (.int .i64 k)) b1 k ⟨#[]⟩ (.slice none 0 0) false false (.slice none 0 0) (.slice none 0 0):=by unfold NdB;simpa using k0.set 0 (.int .i64 k)
 have l1:Below b1 w (w.setCell ⟨b1,0,none⟩ (.int .i64 k)):=l0.setCell (show b1<=b1 from zB b1) _
 have k2:NdB ((w.setCell ⟨b1,0,none⟩ (.int .i64 k)).setCell ⟨b1,1,none⟩ (.string t)) b1 k t (.slice none 0 0) false false (.slice none 0 0) (.slice none 0 0):=by unfold NdB;simpa using k1.set 1 (.string t)
 have l2:Below b1 w ((w.setCell ⟨b1,0,none⟩ (.int .i64 k)).setCell ⟨b1,1,none⟩ (.string t)):=l1.setCell (show b1<=b1 from zB b1) _
 have k3:NdB (((w.setCell ⟨b1,0,none⟩ (.int .i64 k)).setCell ⟨b1,1,none⟩ (.string t)).setCell ⟨b1,2,none⟩ (lv)) b1 k t lv false false (.slice none 0 0) (.slice none 0 0):=by unfold NdB;simpa using k2.set 2 (lv)
 have l3:Below b1 w (((w.setCell ⟨b1,0,none⟩ (.int .i64 k)).setCell ⟨b1,1,none⟩ (.string t)).setCell ⟨b1,2,none⟩ (lv)):=l2.setCell (show b1<=b1 from zB b1) _
 have k4:NdB ((((w.setCell ⟨b1,0,none⟩ (.int .i64 k)).setCell ⟨b1,1,none⟩ (.string t)).setCell ⟨b1,2,none⟩ (lv)).setCell ⟨b1,3,none⟩ (.bool br)) b1 k t lv br false (.slice none 0 0) (.slice none 0 0):=by unfold NdB;simpa using k3.set 3 (.bool br)
 have l4:Below b1 w ((((w.setCell ⟨b1,0,none⟩ (.int .i64 k)).setCell ⟨b1,1,none⟩ (.string t)).setCell ⟨b1,2,none⟩ (lv)).setCell ⟨b1,3,none⟩ (.bool br)):=l3.setCell (show b1<=b1 from zB b1) _
 have k5:NdB (((((w.setCell ⟨b1,0,none⟩ (.int .i64 k)).setCell ⟨b1,1,none⟩ (.string t)).setCell ⟨b1,2,none⟩ (lv)).setCell ⟨b1,3,none⟩ (.bool br)).setCell ⟨b1,4,none⟩ (.bool bl)) b1 k t lv br bl (.slice none 0 0) (.slice none 0 0):=by unfold NdB;simpa using k4.set 4 (.bool bl)
 have l5:Below b1 w (((((w.setCell ⟨b1,0,none⟩ (.int .i64 k)).setCell ⟨b1,1,none⟩ (.string t)).setCell ⟨b1,2,none⟩ (lv)).setCell ⟨b1,3,none⟩ (.bool br)).setCell ⟨b1,4,none⟩ (.bool bl)):=l4.setCell (show b1<=b1 from zB b1) _
 have k6:NdB ((((((w.setCell ⟨b1,0,none⟩ (.int .i64 k)).setCell ⟨b1,1,none⟩ (.string t)).setCell ⟨b1,2,none⟩ (lv)).setCell ⟨b1,3,none⟩ (.bool br)).setCell ⟨b1,4,none⟩ (.bool bl)).setCell ⟨b1,5,none⟩ (nv)) b1 k t lv br bl nv (.slice none 0 0):=by unfold NdB;simpa using k5.set 5 (nv)
 have l6:Below b1 w ((((((w.setCell ⟨b1,0,none⟩ (.int .i64 k)).setCell ⟨b1,1,none⟩ (.string t)).setCell ⟨b1,2,none⟩ (lv)).setCell ⟨b1,3,none⟩ (.bool br)).setCell ⟨b1,4,none⟩ (.bool bl)).setCell ⟨b1,5,none⟩ (nv)):=l5.setCell (show b1<=b1 from zB b1) _
 have k7:NdB (((((((w.setCell ⟨b1,0,none⟩ (.int .i64 k)).setCell ⟨b1,1,none⟩ (.string t)).setCell ⟨b1,2,none⟩ (lv)).setCell ⟨b1,3,none⟩ (.bool br)).setCell ⟨b1,4,none⟩ (.bool bl)).setCell ⟨b1,5,none⟩ (nv)).setCell ⟨b1,6,none⟩ (tv)) b1 k t lv br bl nv tv:=by unfold NdB;simpa using k6.set 6 (tv)
 have l7:Below b1 w (((((((w.setCell ⟨b1,0,none⟩ (.int .i64 k)).setCell ⟨b1,1,none⟩ (.string t)).setCell ⟨b1,2,none⟩ (lv)).setCell ⟨b1,3,none⟩ (.bool br)).setCell ⟨b1,4,none⟩ (.bool bl)).setCell ⟨b1,5,none⟩ (nv)).setCell ⟨b1,6,none⟩ (tv)):=l6.setCell (show b1<=b1 from zB b1) _
 refine⟨k7,l7,fun q hq=>?_⟩
 refine(zA _ _ _ _ (fun e=>hq e)).trans ?_
 refine(zA _ _ _ _ (fun e=>hq e)).trans ?_
 refine(zA _ _ _ _ (fun e=>hq e)).trans ?_
 refine(zA _ _ _ _ (fun e=>hq e)).trans ?_
 refine(zA _ _ _ _ (fun e=>hq e)).trans ?_
 refine(zA _ _ _ _ (fun e=>hq e)).trans ?_
 refine(zA _ _ _ _ (fun e=>hq e)).trans ?_
 rfl
theorem qn3{W:World}{s:ByteArray}{la:Option Addr}{ln lc:Nat}{fr to_ lv:Int}{R:Rs PM}(hns:R≠ .error .stuck)
 (ha:Calls Tryz.prog 34 #[.string s,.slice la ln lc,.int .i64 fr,.int .i64 to_,.func (.func 35) #[] #[.pointer (some ⟨W.heap.size,0,none⟩)]] ((W.alloc (.cells #[.int .i64 lv] 3)).alloc (.cells #[.int .i64 0,.string ⟨#[]⟩,.slice none 0 0,.bool false,.bool false,.slice none 0 0,.slice none 0 0] 29)) (AO R ((W.alloc (.cells #[.int .i64 lv] 3)).alloc (.cells #[.int .i64 0,.string ⟨#[]⟩,.slice none 0 0,.bool false,.bool false,.slice none 0 0,.slice none 0 0] 29)))):
 Calls Tryz.prog 16 #[.string s,.slice la ln lc,.int .i64 fr,.int .i64 to_,.int .i64 lv] W (AO R W):=by
 have hmf: ∀(fn:Fn) (first cap:Array Value) (w:World),(Instr.makeFunc fn first cap).run Tryz.prog w=.ok (.func fn first cap) w:=fun _ _ _ _=>rfl
 have HA:=zh ha
 have HNS:=zh hns
 have HBW:Hid (Below W.heap.size W ((W.alloc (.cells #[.int .i64 lv] 3)).alloc (.cells #[.int .i64 0,.string ⟨#[]⟩,.slice none 0 0,.bool false,.bool false,.slice none 0 0,.slice none 0 0] 29))):=zh ((qa1 _ _).trans ((qa1 _ _).mono (by simp)))
 clear ha hns
 go_enter Tryz.func16,Tryz.ntmps16
 go_wp2_with fail
 refine HA.out.mono ?_
 rintro e w1 ⟨hb,he⟩
 have HB:=zh hb
 have r1:((W.alloc (.cells #[.int .i64 lv] 3)).alloc (.cells #[.int .i64 0,.string ⟨#[]⟩,.slice none 0 0,.bool false,.bool false,.slice none 0 0,.slice none 0 0] 29)).heap[W.heap.size+1]?=some (.cells #[.int .i64 0,.string ⟨#[]⟩,.slice none 0 0,.bool false,.bool false,.slice none 0 0,.slice none 0 0] 29 (0,0)):=by have h9:=qa8 (W.alloc (.cells #[.int .i64 lv] 3)) (.cells #[.int .i64 0,.string ⟨#[]⟩,.slice none 0 0,.bool false,.bool false,.slice none 0 0,.slice none 0 0] 29);rwa [show(W.alloc (.cells #[.int .i64 lv] 3)).heap.size=W.heap.size+1 by simp]at h9
 have h1:NdB w1 (W.heap.size+1) 0 ⟨#[]⟩ (.slice none 0 0) false false (.slice none 0 0) (.slice none 0 0):=(HB.out.block (W.heap.size+1) (by simp)).trans r1
 obtain⟨m0,m1,m2,m3,m4,m5,m6⟩:=h1.cells
 have f0:=h1.frz 0
 have f1:=h1.frz 1
 have f2:=h1.frz 2
 have f3:=h1.frz 3
 have f4:=h1.frz 4
 have f5:=h1.frz 5
 have f6:=h1.frz 6
 have HH1:=zh h1
 clear hb r1 h1 hmf
 cases R with
 | error b=>
  cases b with
  | stuck=>exact absurd rfl HNS.out
  | die=>
   obtain rfl:=he
   go_wp2_with fail
   have hres:=res7 (W.heap.size+1) (w:=w1) (k:=0) (t:=⟨#[]⟩) (lv:=.slice none 0 0) (br:=false) (bl:=false) (nv:=.slice none 0 0) (tv:=.slice none 0 0) HH1.out
   generalize(((((((w1.setCell ⟨W.heap.size+1,0,none⟩ (.int .i64 0)).setCell ⟨W.heap.size+1,1,none⟩ (.string ⟨#[]⟩)).setCell ⟨W.heap.size+1,2,none⟩ (.slice none 0 0)).setCell ⟨W.heap.size+1,3,none⟩ (.bool false)).setCell ⟨W.heap.size+1,4,none⟩ (.bool false)).setCell ⟨W.heap.size+1,5,none⟩ (.slice none 0 0)).setCell ⟨W.heap.size+1,6,none⟩ (.slice none 0 0))=wf at hres⊢
   clear m0 m1 m2 m3 m4 m5 m6 f0 f1 f2 f3 f4 f5 f6
   obtain⟨k1,k2,k3⟩:=hres
   obtain⟨m0,m1,m2,m3,m4,m5,m6⟩:=k1.cells
   refine bodyPost_ret (v:=.tuple #[.agg #[.int .i64 0,.string ⟨#[]⟩,.slice none 0 0,.bool false,.bool false,.slice none 0 0,.slice none 0 0],.int .i64 0,.int .i64 8]) (by simp[results,Tryz.results16,go_sem,m0,m1,m2,m3,m4,m5,m6]) rfl ⟨(HBW.out.trans (HB.out.mono (by simp;omega))).trans (k2.mono (by omega)),rfl⟩
 | ok τ=>
  obtain⟨c,x,j,hj,hx,rfl,hn⟩:=he
  obtain⟨c,rfl⟩: ∃l:List Value,c=l.toArray:=⟨c.toList,by simp⟩
  simp only at hn
  cases hn with
  | mk k t l br bl no ta lv nv tv cs q1 q2 q3 q4=>
   have HQ:=zh (NdIn.mk k t l br bl no ta lv nv tv cs q1 q2 q3 q4)
   obtain⟨la1,la3,rfl,-⟩:=q3
   obtain⟨na1,na3,rfl,-⟩:=q1
   obtain⟨va1,va3,rfl,-⟩:=q2
   clear q4
   have HJ:=zh hj
   have HX:=zh hx
   clear hj hx
   go_wp2_with fail
   have hres:=res7 (W.heap.size+1) (w:=w1) (k:=k) (t:=t) (lv:=.slice la1 l.length la3) (br:=br) (bl:=bl) (nv:=.slice na1 no.length na3) (tv:=.slice va1 ta.length va3) HH1.out
   generalize(((((((w1.setCell ⟨W.heap.size+1,0,none⟩ (.int .i64 k)).setCell ⟨W.heap.size+1,1,none⟩ (.string t)).setCell ⟨W.heap.size+1,2,none⟩ (.slice la1 l.length la3)).setCell ⟨W.heap.size+1,3,none⟩ (.bool br)).setCell ⟨W.heap.size+1,4,none⟩ (.bool bl)).setCell ⟨W.heap.size+1,5,none⟩ (.slice na1 no.length na3)).setCell ⟨W.heap.size+1,6,none⟩ (.slice va1 ta.length va3))=wf at hres⊢
   clear m0 m1 m2 m3 m4 m5 m6 f0 f1 f2 f3 f4 f5 f6
   obtain⟨k1,k2,k3⟩:=hres
   obtain⟨m0,m1,m2,m3,m4,m5,m6⟩:=k1.cells
   refine bodyPost_ret (v:=.tuple #[.agg #[.int .i64 k,.string t,.slice la1 l.length la3,.bool br,.bool bl,.slice na1 no.length na3,.slice va1 ta.length va3],.int .i64 (τ.i:Int),.int .i64 0]) (by simp[results,Tryz.results16,go_sem,m0,m1,m2,m3,m4,m5,m6]) rfl ⟨(HBW.out.trans (HB.out.mono (by simp;omega))).trans (k2.mono (by omega)),_,_,j,HJ.out,HX.out,rfl,?_⟩
   exact(HQ.out.keep (W':=wf) ⟨k2.size,fun q hq hl=>k3 q (by simp at hq;omega)⟩).weak (fun q hq _=>by simp at hq;omega)
theorem qmq{W:World}{s:ByteArray}{la:Option Addr}{ln lc:Nat}{fr to_:Int}{R:Rs PM}(hns:R≠ .error .stuck)
 (ha:Calls Tryz.prog 34 #[.string s,.slice la ln lc,.int .i64 fr,.int .i64 to_,.func (.func 43) #[] #[]] (W.alloc (.cells #[.int .i64 0,.string ⟨#[]⟩,.slice none 0 0,.bool false,.bool false,.slice none 0 0,.slice none 0 0] 29)) (AO R (W.alloc (.cells #[.int .i64 0,.string ⟨#[]⟩,.slice none 0 0,.bool false,.bool false,.slice none 0 0,.slice none 0 0] 29)))):
 Calls Tryz.prog 22 #[.string s,.slice la ln lc,.int .i64 fr,.int .i64 to_] W (AO R W):=by
 have hmf: ∀(fn:Fn) (first cap:Array Value) (w:World),(Instr.makeFunc fn first cap).run Tryz.prog w=.ok (.func fn first cap) w:=fun _ _ _ _=>rfl
 have HA:=zh ha
 have HNS:=zh hns
 have HBW:Hid (Below W.heap.size W (W.alloc (.cells #[.int .i64 0,.string ⟨#[]⟩,.slice none 0 0,.bool false,.bool false,.slice none 0 0,.slice none 0 0] 29))):=zh (qa1 _ _)
 clear ha hns
 go_enter Tryz.func22,Tryz.ntmps22
 go_wp2_with fail
 refine HA.out.mono ?_
 rintro e w1 ⟨hb,he⟩
 have HB:=zh hb
 have r1:(W.alloc (.cells #[.int .i64 0,.string ⟨#[]⟩,.slice none 0 0,.bool false,.bool false,.slice none 0 0,.slice none 0 0] 29)).heap[W.heap.size]?=some (.cells #[.int .i64 0,.string ⟨#[]⟩,.slice none 0 0,.bool false,.bool false,.slice none 0 0,.slice none 0 0] 29 (0,0)):=qa8 W (.cells #[.int .i64 0,.string ⟨#[]⟩,.slice none 0 0,.bool false,.bool false,.slice none 0 0,.slice none 0 0] 29)
 have h1:NdB w1 W.heap.size 0 ⟨#[]⟩ (.slice none 0 0) false false (.slice none 0 0) (.slice none 0 0):=(HB.out.block W.heap.size (by simp)).trans r1
 obtain⟨m0,m1,m2,m3,m4,m5,m6⟩:=h1.cells
 have f0:=h1.frz 0
 have f1:=h1.frz 1
 have f2:=h1.frz 2
 have f3:=h1.frz 3
 have f4:=h1.frz 4
 have f5:=h1.frz 5
 have f6:=h1.frz 6
 have HH1:=zh h1
 clear hb r1 h1 hmf
 cases R with
 | error b=>
  cases b with
  | stuck=>exact absurd rfl HNS.out
  | die=>
   obtain rfl:=he
   go_wp2_with fail
   have hres:=res7 W.heap.size (w:=w1) (k:=0) (t:=⟨#[]⟩) (lv:=.slice none 0 0) (br:=false) (bl:=false) (nv:=.slice none 0 0) (tv:=.slice none 0 0) HH1.out
   generalize(((((((w1.setCell ⟨W.heap.size,0,none⟩ (.int .i64 0)).setCell ⟨W.heap.size,1,none⟩ (.string ⟨#[]⟩)).setCell ⟨W.heap.size,2,none⟩ (.slice none 0 0)).setCell ⟨W.heap.size,3,none⟩ (.bool false)).setCell ⟨W.heap.size,4,none⟩ (.bool false)).setCell ⟨W.heap.size,5,none⟩ (.slice none 0 0)).setCell ⟨W.heap.size,6,none⟩ (.slice none 0 0))=wf at hres⊢
   clear m0 m1 m2 m3 m4 m5 m6 f0 f1 f2 f3 f4 f5 f6
   obtain⟨k1,k2,k3⟩:=hres
   obtain⟨m0,m1,m2,m3,m4,m5,m6⟩:=k1.cells
   refine bodyPost_ret (v:=.tuple #[.agg #[.int .i64 0,.string ⟨#[]⟩,.slice none 0 0,.bool false,.bool false,.slice none 0 0,.slice none 0 0],.int .i64 0,.int .i64 8]) (by simp[results,Tryz.results22,go_sem,m0,m1,m2,m3,m4,m5,m6]) rfl ⟨(HBW.out.trans (HB.out.mono (by simp))).trans k2,rfl⟩
 | ok τ=>
  obtain⟨c,x,j,hj,hx,rfl,hn⟩:=he
  obtain⟨c,rfl⟩: ∃l:List Value,c=l.toArray:=⟨c.toList,by simp⟩
  simp only at hn
  cases hn with
  | mk k t l br bl no ta lv nv tv cs q1 q2 q3 q4=>
   have HQ:=zh (NdIn.mk k t l br bl no ta lv nv tv cs q1 q2 q3 q4)
   obtain⟨la1,la3,rfl,-⟩:=q3
   obtain⟨na1,na3,rfl,-⟩:=q1
   obtain⟨va1,va3,rfl,-⟩:=q2
   clear q4
   have HJ:=zh hj
   have HX:=zh hx
   clear hj hx
   go_wp2_with fail
   have hres:=res7 W.heap.size (w:=w1) (k:=k) (t:=t) (lv:=.slice la1 l.length la3) (br:=br) (bl:=bl) (nv:=.slice na1 no.length na3) (tv:=.slice va1 ta.length va3) HH1.out
   generalize(((((((w1.setCell ⟨W.heap.size,0,none⟩ (.int .i64 k)).setCell ⟨W.heap.size,1,none⟩ (.string t)).setCell ⟨W.heap.size,2,none⟩ (.slice la1 l.length la3)).setCell ⟨W.heap.size,3,none⟩ (.bool br)).setCell ⟨W.heap.size,4,none⟩ (.bool bl)).setCell ⟨W.heap.size,5,none⟩ (.slice na1 no.length na3)).setCell ⟨W.heap.size,6,none⟩ (.slice va1 ta.length va3))=wf at hres⊢
   clear m0 m1 m2 m3 m4 m5 m6 f0 f1 f2 f3 f4 f5 f6
   obtain⟨k1,k2,k3⟩:=hres
   obtain⟨m0,m1,m2,m3,m4,m5,m6⟩:=k1.cells
   refine bodyPost_ret (v:=.tuple #[.agg #[.int .i64 k,.string t,.slice la1 l.length la3,.bool br,.bool bl,.slice na1 no.length na3,.slice va1 ta.length va3],.int .i64 (τ.i:Int),.int .i64 0]) (by simp[results,Tryz.results22,go_sem,m0,m1,m2,m3,m4,m5,m6]) rfl ⟨(HBW.out.trans (HB.out.mono (by simp))).trans k2,_,_,j,HJ.out,HX.out,rfl,?_⟩
   exact(HQ.out.keep (W':=wf) ⟨k2.size,fun q hq hl=>k3 q (by simp at hq;omega)⟩).weak (fun q hq _=>by simp at hq;omega)
def RwIn(W:World)(P:Nat->Prop)(v:Value)(l:List Nd):Prop:= ∃cs,SlIn W P v l.length cs/\ ∀i x,l[i]?=some x->NdIn W P (cs i) x
theorem RwIn.keep{W W':World}{P:Nat->Prop}{v:Value}{l:List Nd}(h:RwIn W P v l)(hk:Keeps P W W'):RwIn W' P v l:=by
 obtain⟨cs,h1,h2⟩:=h
 exact⟨cs,h1.keep hk,fun i x hx=>(h2 i x hx).keep hk⟩
structure TkR (W:World) (v:Value) (T:List Tok):Prop where
 row:TRow W v T
 cp: ∀a l c,v=.slice a l c->l<=c
 nf: ∀j,v.ownBlock=some j->j<W.heap.size
theorem TkR.below{W W':World}{v:Value}{T:List Tok}(h:TkR W v T)(hb:Below W.heap.size W W'):TkR W' v T:=⟨h.row.below hb,h.cp,fun j e=>Nat.lt_of_lt_of_le (h.nf j e) hb.size⟩
theorem tkR_of{W:World}{base:Nat}{v:Value}{s:ByteArray}{L:List Tk3}(h:W.ownsRow base 34 3 v L.length (tkcs s L)):TkR W v (toks s L):=by
 refine⟨qw5 (qw2 h),?_,?_⟩
 ·obtain⟨-,⟨rfl,-⟩ | ⟨g,cap,cur,rfl,hb,hg,hn,hc,hz,ht⟩⟩:=h
  ·intro a l c e
   simp only[Value.slice.injEq]at e
   omega
  ·intro a l c e
   simp only[Value.slice.injEq]at e
   omega
 ·obtain⟨-,⟨rfl,-⟩ | ⟨g,cap,cur,rfl,hb,hg,hn,hc,hz,ht⟩⟩:=h
  ·intro j e;cases e
  ·intro j e
   have:j=g:=by simpa[Value.ownBlock]using e.symm
   subst this
   exact(Array.getElem?_eq_some_iff.1 hg).1
theorem qgb(s:ByteArray)(L:List Tk3)(c:Int)(h:qch s=(L,c))(hs:s.size<=1048576)(w:World):
 Calls Tryz.prog 15 #[.string s] w fun e w'=> ∃v,e=.returned (.tuple #[v,.int .i64 c])/\TkR w' v (toks s L)/\Below w.heap.size w w':=by
 refine(qp6 s hs w).mono ?_
 rintro e w' ⟨v,rfl,ho,hb⟩
 rw[h]at ho
 exact⟨v,by rw[h],tkR_of ho,hb⟩
theorem TRow.cut{W:World}{la:Option Addr}{ln lc:Nat}{T:List Tok}(h:TRow W (.slice la ln lc) T){n:Nat}(hn:n<=T.length):TRow W (.slice la n lc) (T.take n):=by
 obtain⟨a,cap,h1,h2⟩:=h
 simp only[Value.slice.injEq]at h1
 obtain⟨rfl,-,rfl⟩:=h1
 refine⟨la,lc,by rw[List.length_take,Nat.min_eq_left hn],fun h0=>?_⟩
 rw[List.length_take]at h0
 obtain⟨g,o,g1,g2,g3⟩:=h2 (by omega)
 refine⟨g,o,g1,g2,fun i x hx=>g3 i x ?_⟩
 rw[List.getElem?_take]at hx
 split at hx
 ·exact hx
 ·cases hx
theorem qnc{s:ByteArray}{L:List Tk3}(hsc: ∀(k:Nat) (x y:Tk3),L[k]?=some x->L[k+1]?=some y->x.2.1<x.2.2/\x.2.2<=y.2.1/\y.2.1<y.2.2/\y.2.2<=s.size)(hs:s.size<=1048576)(hl:L.length<=1048576)(v:Value)(k:Int)(w:World)(ht:TRow w v (toks s L)):
 ∃X:ByteArray,X.size<=1048576/\nlr X 0 X.size=nls s L k/\Calls Tryz.prog 163 #[.string s,v,.int .i64 k] w fun e w'=>e=.returned (.string X)/\Below w.heap.size w w':=by
 by_cases h:k<1\/(L.length:Int)<=k
 ·refine⟨{ data:= #[] },by decide,?_,qje s v (toks s L) k (by rw[qbb];exact h) w ht⟩
  rw[qv5 h];rfl
 ·obtain⟨i,rfl⟩: ∃i:Nat,k=(i:Int)+1:=⟨(k-1).toNat,by omega⟩
  obtain⟨x,hx⟩: ∃x,L[i]?=some x:=⟨_,List.getElem?_eq_getElem (by omega)⟩
  obtain⟨y,hy⟩: ∃y,L[i+1]?=some y:=⟨_,List.getElem?_eq_getElem (by omega)⟩
  obtain⟨p1,p2,p3,p4⟩:=hsc i x y hx hy
  refine⟨s.extract x.2.2 y.2.1,by rw[qcp s _ _ (by omega)];omega,?_,?_⟩
  ·rw[nls_in hx hy];exact qjq (by omega)
  ·exact qli s hs v (toks s L) (by rw[qbb];exact hl) i x.1 y.1 (s.extract x.2.1 x.2.2) (s.extract y.2.1 y.2.2) x.2.1 x.2.2 y.2.1 y.2.2 (qqb hx) (qqb hy) (by omega) p2 (by omega) p4 rfl rfl w ht
theorem qid{s X:ByteArray}{v:Value}{k:Int}{n:Nat}{w:World}(hX:X.size<=1048576)(hn:nlr X 0 X.size=n)(hc:Calls Tryz.prog 163 #[.string s,v,.int .i64 k] w fun e w'=>e=.returned (.string X)/\Below w.heap.size w w'):
 Calls Tryz.prog 142 #[.string s,v,.int .i64 k] w fun e w'=>e=.returned (.bool (decide (1<=n)))/\Below w.heap.size w w':=by
 have HA:=zh (qi9 s X v k 1 (by omega) (by omega) hX w hc)
 rw[hn]at HA
 clear hc hn
 go_enter Tryz.func142,Tryz.ntmps142
 go_wp2_with fail
 refine HA.out.mono ?_
 rintro e w1 ⟨rfl,hb1⟩
 have B1:=zh hb1
 clear hb1
 go_wp2_with fail
 go_ret
 exact⟨rfl,B1.out⟩
theorem qjf{s X:ByteArray}{v:Value}{k:Int}{n:Nat}{w:World}(hX:X.size<=1048576)(hn:nlr X 0 X.size=n)(hc:Calls Tryz.prog 163 #[.string s,v,.int .i64 k] w fun e w'=>e=.returned (.string X)/\Below w.heap.size w w'):
 Calls Tryz.prog 110 #[.string s,v,.int .i64 k] w fun e w'=>e=.returned (.bool (decide (2<=n)))/\Below w.heap.size w w':=by
 have HA:=zh (qi9 s X v k 2 (by omega) (by omega) hX w hc)
 rw[hn]at HA
 clear hc hn
 go_enter Tryz.func110,Tryz.ntmps110
 go_wp2_with fail
 refine HA.out.mono ?_
 rintro e w1 ⟨rfl,hb1⟩
 have B1:=zh hb1
 clear hb1
 go_wp2_with fail
 go_ret
 exact⟨rfl,B1.out⟩
def envP(s:ByteArray)(L:List Tk3)(n:Nat):Env:=⟨toks s L,n,fun k=>nls s (L.take n) k⟩
def Row3(s:ByteArray)(L:List Tk3):Prop:=(∀(k:Nat) (x y:Tk3),L[k]?=some x->L[k+1]?=some y->x.2.1<x.2.2/\x.2.2<=y.2.1/\y.2.1<y.2.2/\y.2.2<=s.size)
theorem qg9{s:ByteArray}{L:List Tk3}{j:Nat}(h:sc s j=some L):Row3 s L:=qpd L j h
theorem qqc(s:ByteArray)(L:List Tk3)(n:Nat):(toks s L).take n=toks s (L.take n):=by unfold toks;rw[List.map_take]
theorem qr8{s:ByteArray}{L:List Tk3}(h3:Row3 s L)(hs:s.size<=1048576)(hl:L.length<=1048576)(n:Nat)(v:Value):qql s (envP s L n) v:=by
 intro W k hk ht
 have ht:TRow W v ((toks s L).take n):=ht
 rw[qqc]at ht
 have h4: ∀(k:Nat) (x y:Tk3),(L.take n)[k]?=some x->(L.take n)[k+1]?=some y->x.2.1<x.2.2/\x.2.2<=y.2.1/\y.2.1<y.2.2/\y.2.2<=s.size:=by
  intro k x y hx hy
  rw[List.getElem?_take]at hx hy
  split at hx
  ·split at hy
   ·exact h3 k x y hx hy
   ·cases hy
  ·cases hx
 obtain⟨X,h5,h6,h7⟩:=qnc h4 hs (by rw[List.length_take];omega) v (k:Int) W ht
 exact⟨qid h5 h6 h7,qjf h5 h6 h7⟩
def pE(s:ByteArray)(L:List Tk3)(c:Cmd)(fr to_:Int):Option Out:=
 if fr<0\/to_<fr\/(L.length:Int)<to_ then none else
 let o:=qf7 (envP s L to_.toNat) (ms13 (envP s L to_.toNat) c (pz fr.toNat)+1) c (pz fr.toNat)
 if o.p.bad then none else some o
def qme:Value:=.agg #[.int .i64 0,.string ⟨#[]⟩,.slice none 0 0,.bool false,.bool false,.slice none 0 0,.slice none 0 0]
def PA(o:Option Out)(W:World)(e:Ending)(W':World):Prop:=Below W.heap.size W W'/\
 match o with
 | some r=> ∃c,e=.returned (.tuple #[.agg c,.int .i64 (r.p.i:Int),.int .i64 0])/\NdIn W' (fun q=>W.heap.size<=q) c.toList r.x
 | none=>e=.returned (.tuple #[qme,.int .i64 0,.int .i64 8])
theorem qk9{s:ByteArray}{L:List Tk3}(hs:s.size<=1048576)(n k:Nat):((envP s L n).tk k).2.1.size<=1048576:=by
 show((toks s L).getD k tk0).2.1.size<=_
 rw[List.getD_eq_getElem?_getD]
 unfold toks
 rw[List.getElem?_map]
 cases h:L[k]? with
 | none=>show(ByteArray.size ⟨#[]⟩)<=_;decide
 | some x=>
  show(s.extract x.2.1 x.2.2).size<=_
  rw[ByteArray.size_extract];omega
theorem qkv{E:Env}{σ1:PM}{bad:Bool}{Q:PM->Prop}(hz: ∀k,(E.tk k).2.1.size<=1048576)(hb:Bd E 2 σ1)(h:Ends E bad 0 0 σ1 Q)(hQ: ∀τ,Q τ->τ.k=[]):
 (bad=true/\mach E (pot E σ1+1) σ1=.error .die)\/(bad=false/\ ∃τ,mach E (pot E σ1+1) σ1=.ok τ/\Q τ):=by
 cases hbd:bad with
 | true=>exact .inl ⟨rfl,qnw hz hb (zB 2) (h.1 hbd)⟩
 | false=>
  obtain⟨τ,hg,-,hq⟩:=h.2 hbd
  exact .inr ⟨rfl,τ,qnx hz hb (zB 2) hg (hQ τ hq),hq⟩
theorem qgy{fr to_:Int}{ln:Nat}:(fr<0\/to_<fr\/(ln:Int)<to_)\/ ∃i n:Nat,fr=(i:Int)/\to_=(n:Int)/\i<=n/\n<=ln:=by
 by_cases h:fr<0\/to_<fr\/(ln:Int)<to_
 ·exact .inl h
 ·exact .inr ⟨fr.toNat,to_.toNat,by omega,by omega,by omega,by omega⟩
section
variable{s:ByteArray}{L:List Tk3}
theorem qth{c:Cmd}{fr to_:Int}(h:fr<0\/to_<fr\/(L.length:Int)<to_):pE s L c fr to_=none:=if_pos h
theorem qo7{c:Cmd}{i n:Nat}(hi:i<=n)(hn:n<=L.length):
 ∃o m,runX (envP s L n) m c (pz i)=some o/\pE s L c i n=if o.p.bad then none else some o:=by
 refine⟨_,_,qpb (envP s L n) (ms13 (envP s L n) c (pz i)+1) c (pz i) (Nat.lt_succ_self _),?_⟩
 unfold pE
 rw[if_neg (by omega)]
 rfl
variable(hL:Row3 s L)(hs:s.size<=1048576)(hl:L.length<=1048576)
include hL hs hl
theorem qml{W:World}{la:Option Addr}{lc i n:Nat}{K:FuncId}{fC:Array Value}{σ1:PM}{R:Rs PM}
 (ht:TkR W (.slice la L.length lc) (toks s L)) (hi:i<=n) (hn:n<=L.length)
 (hen: ∀args w,(callFunc K args).run Tryz.prog w=.ok (.enter K args) w)
 (hpl: ∀(W0 W1:World) (g:Nat) (P:PLay),MM W0 g s (envP s L n) (.slice la n lc) W1 P { i:=i,k:=[],n:=none,N:=[],C:=[] } ->Below W.heap.size W W1->Calls Tryz.prog K (#[.pointer (some ⟨g,0,none⟩)]++fC) W1 (SO (.ok σ1) W0 g s (envP s L n) (.slice la n lc) W1 P 0 0))
 (hb:Bd (envP s L n) 2 σ1) (hp:pot (envP s L n) σ1<=2147483648) (hR:mach (envP s L n) (pot (envP s L n) σ1+1) σ1=R) (hns:R≠ .error .stuck) (hcur: ∀τ,R=.ok τ-> ∃j x,τ.n=some j/\τ.N[j]?=some (some x)):
 Calls Tryz.prog 34 #[.string s,.slice la L.length lc,.int .i64 (i:Int),.int .i64 (n:Int),.func (.func K) #[] fC] W (AO R W):=by
 have hc:=ht.cp _ _ _ rfl
 have h1:TRow W (.slice la n lc) ((toks s L).take n):=ht.row.cut (by rw[qbb];exact hn)
 exact qlg (E:=envP s L n) (ln:=L.length) h1 (by show n<=(toks s L).length;rw[qbb];exact hn) (by show(toks s L).length<=_;rw[qbb];exact hl) hi hn hc (qk9 hs n) (qr8 hL hs hl n _) (fun j e=>ht.nf j (by cases la<;>exact e)) hen hpl hb (zB 2) (by omega) (by omega) hR hns hcur
theorem qdg(v:Value)(fr to_ lv:Int)(W:World)(ht:TkR W v (toks s L)):
 Calls Tryz.prog 16 #[.string s,v,.int .i64 fr,.int .i64 to_,.int .i64 lv] W (PA (pE s L (.expr lv) fr to_) W):=by
 obtain⟨la,lc,rfl,-⟩:=ht.row
 rw[qbb]at ht⊢
 have hbel:Below W.heap.size W ((W.alloc (.cells #[.int .i64 lv] 3)).alloc (.cells #[.int .i64 0,.string ⟨#[]⟩,.slice none 0 0,.bool false,.bool false,.slice none 0 0,.slice none 0 0] 29)):=(qa1 _ _).trans ((qa1 _ _).mono (by simp))
 rcases @qgy fr to_ L.length with hbad | ⟨i,n,rfl,rfl,hi,hn⟩
 ·rw[qth hbad]
  exact(qn3 (by intro e;cases e) (qfj hbad)).mono fun e w' h=>h
 ·obtain⟨o,m,hx,he⟩:=qo7 (s:=s) (c:=.expr lv) hi hn
  rw[he]
  have hE:=(qkj (envP s L n) m).1 lv i o hx [] none [] []
  have hb:Bd (envP s L n) 2 ⟨i,[.expr lv],none,[],[]⟩:=Bd.start hi _ (fun x h=>by rw[List.mem_singleton.1 h];trivial) [] 2 (fun k x h=>by simp at h)
  have ht2:=ht.below hbel
  have key: ∀R,mach (envP s L n) (pot (envP s L n) ⟨i,[.expr lv],none,[],[]⟩+1) ⟨i,[.expr lv],none,[],[]⟩=R->R≠ .error .stuck->(∀τ,R=.ok τ-> ∃j x,τ.n=some j/\τ.N[j]?=some (some x))->Calls Tryz.prog 16 #[.string s,.slice la L.length lc,.int .i64 (i:Int),.int .i64 (n:Int),.int .i64 lv] W (AO R W):=by
   intro R hR hns hcur
   refine qn3 hns (qml hL hs hl ht2 hi hn (by intro args w;go_simp) ?_ hb ?_ hR hns hcur)
   ·intro W0 W1 g P hm hbw
    refine qn5 hm (by simp) lv W.heap.size ?_
    have h9:(W.alloc (.cells #[.int .i64 lv] 3)).cell? ⟨W.heap.size,0,none⟩=some (.int .i64 lv):=(qar (qa8 W (.cells #[.int .i64 lv] 3))).1
    rw[hbw.cell (p:=⟨W.heap.size,0,none⟩) (by simp;omega)]
    exact(Below.cell (qa1 _ _) (p:=⟨W.heap.size,0,none⟩) (by simp)).trans h9
   ·show 4+0+1000*(n-i)+3<=_
    omega
  rcases qkv (qk9 hs n) hb hE (fun τ h=>by obtain⟨j,N,C,rfl,-⟩:=h;rfl)with⟨h1,h2⟩ | ⟨h1,τ,h2,j,N,C,rfl,-,h3,-⟩
  ·rw[if_pos h1]
   exact(key _ h2 (by intro e;cases e) (by intro τ e;cases e)).mono fun e w' h=>h
  ·rw[if_neg (by rw[h1];decide)]
   refine(key _ h2 (by intro e;cases e) (by intro τ e;cases e;exact⟨j,_,rfl,h3⟩)).mono ?_
   rintro e w' ⟨hbw,c,x,j',hj,hx',rfl,hn'⟩
   obtain rfl:j=j':=by simpa using hj
   have h3':N[j]?=some (some x):=hx'
   rw[h3]at h3'
   obtain rfl:o.x=x:=by simpa using h3'
   exact⟨hbw,c,rfl,hn'⟩
theorem qo9(v:Value)(fr to_:Int)(W:World)(ht:TkR W v (toks s L)):
 Calls Tryz.prog 22 #[.string s,v,.int .i64 fr,.int .i64 to_] W (PA (pE s L .body fr to_) W):=by
 obtain⟨la,lc,rfl,-⟩:=ht.row
 rw[qbb]at ht⊢
 have hbel:Below W.heap.size W (W.alloc (.cells #[.int .i64 0,.string ⟨#[]⟩,.slice none 0 0,.bool false,.bool false,.slice none 0 0,.slice none 0 0] 29)):=qa1 _ _
 rcases @qgy fr to_ L.length with hbad | ⟨i,n,rfl,rfl,hi,hn⟩
 ·rw[qth hbad]
  exact(qmq (by intro e;cases e) (qfj hbad)).mono fun e w' h=>h
 ·obtain⟨o,m,hx,he⟩:=qo7 (s:=s) (c:=.body) hi hn
  rw[he]
  have hE:=qfl (K:=[]) (fun k _=>(qkj (envP s L n) k).1) hx none [] []
  have hb:Bd (envP s L n) 2 ⟨i,[.body],none,[],[]⟩:=Bd.start hi _ (fun x h=>by rw[List.mem_singleton.1 h];trivial) [] 2 (fun k x h=>by simp at h)
  have ht2:=ht.below hbel
  have key: ∀R,mach (envP s L n) (pot (envP s L n) ⟨i,[.body],none,[],[]⟩+1) ⟨i,[.body],none,[],[]⟩=R->R≠ .error .stuck->(∀τ,R=.ok τ-> ∃j x,τ.n=some j/\τ.N[j]?=some (some x))->Calls Tryz.prog 22 #[.string s,.slice la L.length lc,.int .i64 (i:Int),.int .i64 (n:Int)] W (AO R W):=by
   intro R hR hns hcur
   refine qmq hns (qml hL hs hl ht2 hi hn (by intro args w;go_simp) ?_ hb ?_ hR hns hcur)
   ·intro W0 W1 g P hm hbw
    exact qn4 hm (by simp)
   ·have h0:wt .body<=100:=by decide
    show wt .body+0+1000*(n-i)+3<=_
    omega
  rcases qkv (qk9 hs n) hb hE (fun τ h=>by obtain⟨j,N,C,rfl,-⟩:=h;rfl)with⟨h1,h2⟩ | ⟨h1,τ,h2,j,N,C,rfl,-,h3,-⟩
  ·rw[if_pos h1]
   exact(key _ h2 (by intro e;cases e) (by intro τ e;cases e)).mono fun e w' h=>h
  ·rw[if_neg (by rw[h1];decide)]
   refine(key _ h2 (by intro e;cases e) (by intro τ e;cases e;exact⟨j,_,rfl,h3⟩)).mono ?_
   rintro e w' ⟨hbw,c,x,j',hj,hx',rfl,hn'⟩
   obtain rfl:j=j':=by simpa using hj
   have h3':N[j]?=some (some x):=hx'
   rw[h3]at h3'
   obtain rfl:o.x=x:=by simpa using h3'
   exact⟨hbw,c,rfl,hn'⟩
end
def Nd.bk:Nd->Bool | .mk _ _ _ br _ _ _=>br
def Nd.bw:Nd->Bool | .mk _ _ _ _ bl _ _=>bl
def Nd.tl':Nd->List ByteArray | .mk _ _ _ _ _ _ ta=>ta
theorem qdf{W:World}{P:Nat->Prop}{c:Array Value}{x:Nd}(h:NdIn W P c.toList x):
 ∃la lc na nc va vc,c= #[.int .i64 x.kd,.string x.tx,.slice la x.ls.length lc,.bool x.bk,.bool x.bw,.slice na x.nof.length nc,.slice va x.tl'.length vc]/\
  RwIn W P (.slice la x.ls.length lc) x.ls/\StIn W P (.slice na x.nof.length nc) x.nof/\StIn W P (.slice va x.tl'.length vc) x.tl':=by
 obtain⟨c,rfl⟩: ∃l:List Value,c=l.toArray:=⟨c.toList,by simp⟩
 simp only at h
 cases h with
 | mk k t l br bl no ta lv nv tv cs q1 q2 q3 q4=>
  have h1:RwIn W P lv l:=⟨cs,q3,q4⟩
  obtain⟨la,lc,rfl,-⟩:=q3
  have h2:=q1
  have h3:=q2
  obtain⟨na,nc,rfl,-⟩:=q1
  obtain⟨va,vc,rfl,-⟩:=q2
  exact⟨la,lc,na,nc,va,vc,rfl,h1,h2,h3⟩
theorem qsc{W:World}{P:Nat->Prop}{la:Option Addr}{n lc:Nat}{l:List Nd}(h:RwIn W P (.slice la n lc) l){i:Nat}{y:Nd}(hy:l[i]?=some y):
 ∃g o ka kc na nc va vc,la=some ⟨g,o,none⟩/\g<W.heap.size/\P g/\W.cell? ⟨g,o+i*7,none⟩=some (.int .i64 y.kd)/\W.cell? ⟨g,o+i*7+1,none⟩=some (.string y.tx)/\W.cell? ⟨g,o+i*7+2,none⟩=some (.slice ka y.ls.length kc)/\
  W.cell? ⟨g,o+i*7+3,none⟩=some (.bool y.bk)/\W.cell? ⟨g,o+i*7+4,none⟩=some (.bool y.bw)/\W.cell? ⟨g,o+i*7+5,none⟩=some (.slice na y.nof.length nc)/\W.cell? ⟨g,o+i*7+6,none⟩=some (.slice va y.tl'.length vc)/\
  RwIn W P (.slice ka y.ls.length kc) y.ls/\StIn W P (.slice na y.nof.length nc) y.nof/\StIn W P (.slice va y.tl'.length vc) y.tl':=by
 obtain⟨cs,⟨a,cap,h1,h2⟩,h3⟩:=h
 simp only[Value.slice.injEq]at h1
 obtain⟨rfl,rfl,rfl⟩:=h1
 have hi:i<l.length:=(List.getElem?_eq_some_iff.1 hy).1
 obtain⟨g,o,rfl,hp,hg,hc⟩:=h2 (by omega)
 obtain⟨ka,kc,na,nc,va,vc,he,q1,q2,q3⟩:=qdf (c:=(cs i).toArray) (by simpa using h3 i y hy)
 have he:cs i=[.int .i64 y.kd,.string y.tx,.slice ka y.ls.length kc,.bool y.bk,.bool y.bw,.slice na y.nof.length nc,.slice va y.tl'.length vc]:=by simpa using congrArg Array.toList he
 refine⟨g,o,ka,kc,na,nc,va,vc,rfl,hg,hp,?_,?_,?_,?_,?_,?_,?_,q1,q2,q3⟩
 ·exact hc i hi 0 _ (by rw[he];rfl)
 ·exact hc i hi 1 _ (by rw[he];rfl)
 ·exact hc i hi 2 _ (by rw[he];rfl)
 ·exact hc i hi 3 _ (by rw[he];rfl)
 ·exact hc i hi 4 _ (by rw[he];rfl)
 ·exact hc i hi 5 _ (by rw[he];rfl)
 ·exact hc i hi 6 _ (by rw[he];rfl)
theorem RwIn.len{W:World}{P:Nat->Prop}{la:Option Addr}{n lc:Nat}{l:List Nd}(h:RwIn W P (.slice la n lc) l):n=l.length:=by
 obtain⟨cs,⟨a,cap,h1,-⟩,-⟩:=h
 simp only[Value.slice.injEq]at h1
 exact h1.2.1
def t131:ByteArray:= { data:= #[97,32,43,32,98,32,42,32,99] }
def t132:ByteArray:= { data:= #[120,44,10,10,121] }
def l131:List Tk3:=[(1,0,1),(9,2,3),(1,4,5),(9,6,7),(1,8,9)]
def l132:List Tk3:=[(1,0,1),(9,1,2),(1,4,5)]
theorem qq8:qch t131=(l131,0):=by rw[qha];decide+kernel
theorem qvz:qch t132=(l132,0):=by rw[qha];decide+kernel
theorem e131: ∃o y0 y1,pE t131 l131 (.expr 0) 0 5=some o/\o.p.i=5/\o.x.kd=14/\o.x.tx.data.toList=[43]/\o.x.ls=[y0,y1]/\y1.tx.data.toList=[42]:=by
 have h:(match pE t131 l131 (.expr 0) 0 5 with
  | some o=>o.p.i==5&&o.x.kd==14&&o.x.tx.data.toList==[43]&&(match o.x.ls with | [_,y1]=>y1.tx.data.toList==[42] | _=>false)
  | none=>false)=true:=by decide+kernel
 cases hp:pE t131 l131 (.expr 0) 0 5 with
 | none=>rw[hp]at h;cases h
 | some o=>
  rw[hp]at h
  simp only[Bool.and_eq_true,beq_iff_eq]at h
  obtain⟨⟨⟨h1,h2⟩,h3⟩,h4⟩:=h
  cases hl:o.x.ls with
  | nil=>rw[hl]at h4;cases h4
  | cons y0 r=>
   cases r with
   | nil=>rw[hl]at h4;cases h4
   | cons y1 r=>
    cases r with
    | nil=>rw[hl]at h4;exact⟨o,y0,y1,rfl,h1,h2,h3,hl,by simpa using h4⟩
    | cons _ _=>rw[hl]at h4;cases h4
theorem e132:pE t131 l131 (.expr 0) 0 2=none:=by
 have h:(pE t131 l131 (.expr 0) 0 2).isNone=true:=by decide+kernel
 exact Option.isNone_iff_eq_none.1 h
theorem e133: ∃o y0 y1,pE t132 l132 .body 0 3=some o/\o.x.ls=[y0,y1]/\y1.bw=true:=by
 have h:(match pE t132 l132 .body 0 3 with
  | some o=>(match o.x.ls with | [_,y1]=>y1.bw | _=>false)
  | none=>false)=true:=by decide+kernel
 cases hp:pE t132 l132 .body 0 3 with
 | none=>rw[hp]at h;cases h
 | some o=>
  rw[hp]at h
  simp only at h
  cases hl:o.x.ls with
  | nil=>rw[hl]at h;cases h
  | cons y0 r=>
   cases r with
   | nil=>rw[hl]at h;cases h
   | cons y1 r=>
    cases r with
    | nil=>rw[hl]at h;exact⟨o,y0,y1,rfl,hl,h⟩
    | cons _ _=>rw[hl]at h;cases h
theorem r131:Row3 t131 l131:=qg9 (qdi qq8).2.2
theorem r132:Row3 t132 l132:=qg9 (qdi qvz).2.2
theorem x131(v:Value)(W:World)(ht:TkR W v (toks t131 l131)):
 Calls Tryz.prog 16 #[.string t131,v,.int .i64 0,.int .i64 5,.int .i64 0] W fun e W'=>Below W.heap.size W W'/\
  ∃kc na nc va vc g o,∃b1 b2:Bool,∃nn vn:Nat,e=.returned (.tuple #[.agg #[.int .i64 14,.string { data:= #[43] },.slice (some ⟨g,o,none⟩) 2 kc,.bool b1,.bool b2,.slice na nn nc,.slice va vn vc],.int .i64 5,.int .i64 0])/\g<W'.heap.size/\W'.cell? ⟨g,o+8,none⟩=some (.string { data:= #[42] }):=by
 obtain⟨o,y0,y1,h0,h1,h2,h3,h4,h5⟩:=e131
 refine(qdg r131 (by decide) (by decide) v 0 5 0 W ht).mono ?_
 rw[h0]
 rintro e W' ⟨hb,c,rfl,hn⟩
 obtain⟨ka,kc,na,nc,va,vc,rfl,hr,-,-⟩:=qdf hn
 rw[h4]at hr⊢
 obtain⟨g,oo,_,_,_,_,_,_,rfl,hg,-,-,ht,-⟩:=qsc hr (i:=1) (y:=y1) rfl
 have e1:o.x.tx= { data:= #[43] } :=by
  have:o.x.tx=⟨o.x.tx.data.toList.toArray⟩:=by simp
  rw[this,h3]
 have e2:y1.tx= { data:= #[42] } :=by
  have:y1.tx=⟨y1.tx.data.toList.toArray⟩:=by simp
  rw[this,h5]
 rw[h1,h2,e1]
 exact⟨hb,kc,na,nc,va,vc,g,oo,_,_,_,_,rfl,hg,by rw[e2]at ht;exact ht⟩
theorem x132(v:Value)(W:World)(ht:TkR W v (toks t131 l131)):
 Calls Tryz.prog 16 #[.string t131,v,.int .i64 0,.int .i64 2,.int .i64 0] W fun e W'=>Below W.heap.size W W'/\e=.returned (.tuple #[qme,.int .i64 0,.int .i64 8]):=by
 have h:=qdg r131 (by decide) (by decide) v 0 2 0 W ht
 rw[e132]at h
 exact h
theorem x133(v:Value)(W:World)(ht:TkR W v (toks t132 l132)):
 Calls Tryz.prog 22 #[.string t132,v,.int .i64 0,.int .i64 3] W fun e W'=>Below W.heap.size W W'/\
  ∃kd tx kc na nc va vc g o,∃b1 b2:Bool,∃nn vn i:Nat,e=.returned (.tuple #[.agg #[.int .i64 kd,.string tx,.slice (some ⟨g,o,none⟩) 2 kc,.bool b1,.bool b2,.slice na nn nc,.slice va vn vc],.int .i64 (i:Int),.int .i64 0])/\g<W'.heap.size/\W'.cell? ⟨g,o+11,none⟩=some (.bool true):=by
 obtain⟨o,y0,y1,h0,h4,h5⟩:=e133
 refine(qo9 r132 (by decide) (by decide) v 0 3 W ht).mono ?_
 rw[h0]
 rintro e W' ⟨hb,c,rfl,hn⟩
 obtain⟨ka,kc,na,nc,va,vc,rfl,hr,-,-⟩:=qdf hn
 rw[h4]at hr⊢
 obtain⟨g,oo,_,_,_,_,_,_,rfl,hg,-,-,-,-,-,ht,-⟩:=qsc hr (i:=1) (y:=y1) rfl
 exact⟨hb,_,_,kc,na,nc,va,vc,g,oo,_,_,_,_,_,rfl,hg,by rw[h5]at ht;exact ht⟩
theorem qq9{W:World}{b:Nat}{T:List Tok}{cs:Array Value}{n:Nat}(h:W.heap[b]?=some (.cells cs 34 (0,0)))(hn:n=T.length)(hc: ∀i,i<T.length-> ∀x,T[i]?=some x->cs[i*3]?=some (.int .i64 x.1)/\cs[i*3+1]?=some (.string x.2.1)/\cs[i*3+2]?=some (.int .i64 x.2.2)):TkR W (.slice (some ⟨b,0,none⟩) n n) T:=by
 subst hn
 have hb:b<W.heap.size:=(Array.getElem?_eq_some_iff.1 h).1
 refine⟨⟨_,_,rfl,fun _=>⟨b,0,rfl,hb,fun i x hx=>?_⟩⟩,fun a l c e=>by simp only[Value.slice.injEq]at e;omega,fun j e=>by
  cases e
  exact hb⟩
 obtain⟨c1,c2,c3⟩:=hc i (List.getElem?_eq_some_iff.1 hx).1 x hx
 rw[Nat.zero_add]
 exact⟨by rw[cell_of_row W b _ _ _ _ h];exact c1,by rw[cell_of_row W b _ _ _ _ h];exact c2,by rw[cell_of_row W b _ _ _ _ h];exact c3⟩
theorem qw3{W:World}{b:Nat}(h:W.heap[b]?=some (.cells #[.int .i64 1,.string { data:= #[120] },.int .i64 0,.int .i64 9,.string { data:= #[44] },.int .i64 1,.int .i64 1,.string { data:= #[121] },.int .i64 4] 34 (0,0))):TkR W (.slice (some ⟨b,0,none⟩) 3 3) (toks { data:= #[120,44,10,10,121] } l132):=by
 refine qq9 h (by rw[qbb];rfl) (fun i hi x hx=>?_)
 rw[qbb]at hi
 have hi:i<3:=hi
 have e1:({ data:= #[120,44,10,10,121] } :ByteArray).extract 0 1= { data:= #[120] } :=by decide+kernel
 have e2:({ data:= #[120,44,10,10,121] } :ByteArray).extract 1 2= { data:= #[44] } :=by decide+kernel
 have e3:({ data:= #[120,44,10,10,121] } :ByteArray).extract 4 5= { data:= #[121] } :=by decide+kernel
 rcases i with _ | _ | _ | i
 ·obtain rfl:=Option.some.inj hx
  show _/\some (Value.string { data:= #[120] })=some (Value.string (({ data:= #[120,44,10,10,121] } :ByteArray).extract 0 1))/\_
  rw[e1];exact⟨rfl,rfl,rfl⟩
 ·obtain rfl:=Option.some.inj hx
  show _/\some (Value.string { data:= #[44] })=some (Value.string (({ data:= #[120,44,10,10,121] } :ByteArray).extract 1 2))/\_
  rw[e2];exact⟨rfl,rfl,rfl⟩
 ·obtain rfl:=Option.some.inj hx
  show _/\some (Value.string { data:= #[121] })=some (Value.string (({ data:= #[120,44,10,10,121] } :ByteArray).extract 4 5))/\_
  rw[e3];exact⟨rfl,rfl,rfl⟩
 ·omega
theorem qez(w:World):Calls Tryz.prog 18 #[] w fun e w'=>e=.returned (.bool true)/\Below w.heap.size w w':=by
 have HS:=zh (fun W=>qgb { data:= #[97,32,43,32,98,32,42,32,99] } _ _ qq8 (by decide) W)
 have HE1:=zh x131
 have HE2:=zh x132
 have HE3:=zh x133
 unfold t131 at HE1 HE2
 unfold t132 at HE3
 unfold qme at HE2
 go_enter Tryz.func18,Tryz.ntmps18
 go_wp2_with fail
 refine(HS.out _).mono ?_
 rintro e w1 ⟨v1,rfl,ha1,hb1⟩
 have A1:=zh ha1
 have B1:=zh hb1
 clear ha1 hb1 HS
 obtain⟨la,lc,rfl,-⟩:=A1.out.row
 rw[show(toks { data:= #[97,32,43,32,98,32,42,32,99] } l131).length=5 by rw[qbb];rfl]at*
 go_wp2_with fail
 refine(HE1.out _ _ A1.out).mono ?_
 rintro e w2 ⟨hb2,kc,na,nc,va,vc,g,o,b1,b2,nn,vn,rfl,hg,hc⟩
 have B2:Hid (Below w.heap.size w w2):=zh (B1.out.trans (hb2.mono B1.out.size))
 have A2:=zh (A1.out.below hb2)
 have C2:=zh hc
 have G2:=zh hg
 clear hb2 hc hg A1 HE1
 go_wp2_with fail
 have B3:Hid (Below w.heap.size w (w2.alloc (.cells #[.int .i64 14,.string { data:= #[43] },.slice (some ⟨g,o,none⟩) 2 kc,.bool b1,.bool b2,.slice na nn nc,.slice va vn vc] 29))):=zh (B2.out.alloc B2.out.size _)
 have N3:Hid (NdB (w2.alloc (.cells #[.int .i64 14,.string { data:= #[43] },.slice (some ⟨g,o,none⟩) 2 kc,.bool b1,.bool b2,.slice na nn nc,.slice va vn vc] 29)) w2.heap.size 14 { data:= #[43] } (.slice (some ⟨g,o,none⟩) 2 kc) b1 b2 (.slice na nn nc) (.slice va vn vc)):=zh (qa8 w2 _)
 refine(HE2.out _ _ (A2.out.below (qa1 _ _))).mono ?_
 rintro e w4 ⟨hb4,rfl⟩
 have B4:Hid (Below w.heap.size w w4):=zh (B3.out.trans (hb4.mono B3.out.size))
 have C4:Hid (w4.cell? ⟨g,o+8,none⟩=some (.string { data:= #[42] })):=zh ((hb4.cell (p:=⟨g,o+8,none⟩) (by have:=G2.out;simp;omega)).trans (((qa1 w2 _).cell (p:=⟨g,o+8,none⟩) G2.out).trans C2.out))
 have N4:Hid (NdB w4 w2.heap.size 14 { data:= #[43] } (.slice (some ⟨g,o,none⟩) 2 kc) b1 b2 (.slice na nn nc) (.slice va vn vc)):=zh ((hb4.block w2.heap.size (by simp)).trans N3.out)
 have G4:Hid (g<w4.heap.size/\w2.heap.size<w4.heap.size):=zh (by have:=hb4.size;have:=G2.out;simp at*;omega)
 clear hb4 A2 HE2 C2 N3 G2
 go_wp2_with fail
 generalize hw5:(w4.alloc (.cells #[.int .i64 0,.string ⟨#[]⟩,.slice none 0 0,.bool false,.bool false,.slice none 0 0,.slice none 0 0] 29))=w5
 have HB5:Below w4.heap.size w4 w5:=by rw[<-hw5];exact qa1 _ _
 have HS5:w5.heap.size=w4.heap.size+1:=by rw[<-hw5];simp
 clear hw5
 rw[<-HS5]
 generalize hw6:(w5.alloc (.cells #[.int .i64 1,.string { data:= #[120] },.int .i64 0,.int .i64 9,.string { data:= #[44] },.int .i64 1,.int .i64 1,.string { data:= #[121] },.int .i64 4] 34))=w6
 have HB6:Below w4.heap.size w4 w6:=by rw[<-hw6];exact HB5.trans ((qa1 _ _).mono (by omega))
 have R6:TkR w6 (.slice (some ⟨w5.heap.size,0,none⟩) 3 3) (toks { data:= #[120,44,10,10,121] } l132):=qw3 (by rw[<-hw6];exact qa8 w5 _)
 clear hw6
 refine(HE3.out _ _ R6).mono ?_
 rintro e w7 ⟨hb7,kd,tx,kc2,na2,nc2,va2,vc2,g2,o2,b3,b4,nn2,vn2,i2,rfl,hg2,hc2⟩
 have HB7:Below w4.heap.size w4 w7:=HB6.trans (hb7.mono HB6.size)
 have B7:Hid (Below w.heap.size w w7):=zh (B4.out.trans (HB7.mono B4.out.size))
 have C7:w7.cell? ⟨g,o+8,none⟩=some (.string { data:= #[42] }):=(HB7.cell (p:=⟨g,o+8,none⟩) G4.out.1).trans C4.out
 have N7:NdB w7 w2.heap.size 14 { data:= #[43] } (.slice (some ⟨g,o,none⟩) 2 kc) b1 b2 (.slice na nn nc) (.slice va vn vc):=(HB7.block w2.heap.size G4.out.2).trans N4.out
 have G7:g<w7.heap.size/\w2.heap.size<w7.heap.size:=by have:=HB7.size;have:=G4.out;omega
 have C8:=(qa1 w7 (.cells #[.int .i64 kd,.string tx,.slice (some ⟨g2,o2,none⟩) 2 kc2,.bool b3,.bool b4,.slice na2 nn2 nc2,.slice va2 vn2 vc2] 29)).cell (p:=⟨g,o+8,none⟩) G7.1 |>.trans C7
 have C9:=(qa1 w7 (.cells #[.int .i64 kd,.string tx,.slice (some ⟨g2,o2,none⟩) 2 kc2,.bool b3,.bool b4,.slice na2 nn2 nc2,.slice va2 vn2 vc2] 29)).cell (p:=⟨g2,o2+11,none⟩) hg2 |>.trans hc2
 have N8:NdB (w7.alloc (.cells #[.int .i64 kd,.string tx,.slice (some ⟨g2,o2,none⟩) 2 kc2,.bool b3,.bool b4,.slice na2 nn2 nc2,.slice va2 vn2 vc2] 29)) w2.heap.size 14 { data:= #[43] } (.slice (some ⟨g,o,none⟩) 2 kc) b1 b2 (.slice na nn nc) (.slice va vn vc):=((qa1 _ _).block w2.heap.size G7.2).trans N7
 obtain⟨m0,m1,m2,m3,m4,m5,m6⟩:=N8.cells
 clear hb7 HB5 HB6 HB7 HS5 R6 hg2 hc2 C7 N7 G7 N8 C4 N4 G4
 go_wp2_with fail
 go_ret
 exact⟨rfl,B7.out.alloc B7.out.size _⟩
end Go.Proofs.YtdhadeeajgoedaaGreat
