import Derived.Test.YtdhadeeajgoedaaGreatL22
import Derived.Test.YtdhadeeajgoedaaGreatL43
import Derived.Defers
import Derived.Recover
import Derived.Laws.Pointers
set_option maxRecDepth 100000
set_option maxHeartbeats 4000000
set_option linter.all false
open Array renaming replicate→zA
open Go.RowKit.Below renaming heap_alloc→zB,heap_setCell→zC
open List renaming getElem?_eq_getElem→zD,getElem?_take→zE,length_take→zF
open Nat renaming le_refl→zG,lt_of_lt_of_le→zH
namespace Go.Proofs.YtdhadeeajgoedaaGreat
open Go.RowKit Go.PlainAid
theorem qoq(b1 b2 b3:Nat)(u:TypeId)(pv:Value)(older:List PanicEntry)(w:World)(hn:w.heap[b1]?=some (.cells #[.int .i64 0,.string ⟨#[]⟩,.slice none 0 0,.bool false,.bool false,.slice none 0 0,.slice none 0 0] 29 (0,0))){x y:Value}(h2:w.heap[b2]?=some (.cells #[x] 3 (0,0)))(h3:w.heap[b3]?=some (.cells #[y] 3 (0,0)))(h12:b1≠b2)(h13:b1≠b3)(h23:b2≠b3):
 CallsD Tryz.prog 60 #[.pointer (some ⟨b1,0,none⟩),.pointer (some ⟨b2,0,none⟩),.pointer (some ⟨b3,0,none⟩)] (.panicking ({ v:=.iface u pv,recovered:=false } ::older)) w fun e u' w'=>
  e=.returned (.tuple #[])/\u'=.panicking ({ v:=.iface u pv,recovered:=true } ::older)/\w'=((((((((w.setCell ⟨b1,0,none⟩ (.int .i64 0)).setCell ⟨b1,1,none⟩ (.string ⟨#[]⟩)).setCell ⟨b1,2,none⟩ (.slice none 0 0)).setCell ⟨b1,3,none⟩ (.bool false)).setCell ⟨b1,4,none⟩ (.bool false)).setCell ⟨b1,5,none⟩ (.slice none 0 0)).setCell ⟨b1,6,none⟩ (.slice none 0 0)).setCell ⟨b2,0,none⟩ (.int .i64 0)).setCell ⟨b3,0,none⟩ (.int .i64 8):=by
 refine callsD_of_wpS Tryz.func60 rfl fun c₀ cs hu=>?_
 apply wpS_seq
 apply wpS_region
 simp[wpOpsS,go_sem,recoverD,hu,Tryz.ntmps60,Exit.thenS]
 refine wpS_cond (t:=true) (by simp[Act.eval,zA]) ?_
 simp only[if_true]
 refine wpS_of_wp ?_
 have e0:(#[Value.pointer (some ⟨b1,0,none⟩),Value.pointer (some ⟨b2,0,none⟩),Value.pointer (some ⟨b3,0,none⟩)]++((zA 3 undef).setIfInBounds 0 (Value.iface u pv)).setIfInBounds 1 (Value.bool true))= #[Value.pointer (some ⟨b1,0,none⟩),Value.pointer (some ⟨b2,0,none⟩),Value.pointer (some ⟨b3,0,none⟩),Value.iface u pv,Value.bool true,undef]:=by simp[zA]
 rw[e0]
 have hnd:NdB w b1 0 ⟨#[]⟩ (.slice none 0 0) false false (.slice none 0 0) (.slice none 0 0):=hn
 obtain⟨m0,m1,m2,m3,m4,m5,m6⟩:=hnd.cells
 have f0:=hnd.frz 0
 have f1:=hnd.frz 1
 have f2:=hnd.frz 2
 have f3:=hnd.frz 3
 have f4:=hnd.frz 4
 have f5:=hnd.frz 5
 have f6:=hnd.frz 6
 obtain⟨c2,z2⟩:=qaq h2
 obtain⟨c3,z3⟩:=qaq h3
 have h21:b2≠b1:=fun e=>h12 e.symm
 have h31:b3≠b1:=fun e=>h13 e.symm
 have h32:b3≠b2:=fun e=>h23 e.symm
 clear hn hnd h2 h3 e0
 go_wp2_with fail
 simp[bodyPostS,results,Tryz.results60]
theorem qdx(b1 b2 b3:Nat)(u:TypeId)(pv:Value)(older:List PanicEntry)(w:World)(hn:w.heap[b1]?=some (.cells #[.int .i64 0,.string ⟨#[]⟩,.slice none 0 0,.bool false,.bool false,.slice none 0 0,.slice none 0 0] 29 (0,0))){x y:Value}(h2:w.heap[b2]?=some (.cells #[x] 3 (0,0)))(h3:w.heap[b3]?=some (.cells #[y] 3 (0,0)))(h12:b1<b2)(h23:b2<b3):
 CallsD Tryz.prog 60 #[.pointer (some ⟨b1,0,none⟩),.pointer (some ⟨b2,0,none⟩),.pointer (some ⟨b3,0,none⟩)] (.panicking ({ v:=.iface u pv,recovered:=false } ::older)) w fun e u' w'=>
  e=.returned (.tuple #[])/\u'=.panicking ({ v:=.iface u pv,recovered:=true } ::older)/\(NdB w' b1 0 ⟨#[]⟩ (.slice none 0 0) false false (.slice none 0 0) (.slice none 0 0)/\w'.heap[b2]?=some (.cells #[.int .i64 0] 3 (0,0))/\w'.heap[b3]?=some (.cells #[.int .i64 8] 3 (0,0))/\Below b1 w w'):=by
 refine(qoq b1 b2 b3 u pv older w hn h2 h3 (by omega) (by omega) (by omega)).mono ?_
 rintro e u' w' ⟨rfl,rfl,rfl⟩
 refine⟨rfl,rfl,?_⟩
 have k0:NdB w b1 0 ⟨#[]⟩ (.slice none 0 0) false false (.slice none 0 0) (.slice none 0 0):=hn
 have k1:NdB (w.setCell ⟨b1,0,none⟩ (.int .i64 0)) b1 0 ⟨#[]⟩ (.slice none 0 0) false false (.slice none 0 0) (.slice none 0 0):=by unfold NdB;simpa using k0.set 0 (.int .i64 0)
 have l1:Below b1 w (w.setCell ⟨b1,0,none⟩ (.int .i64 0)):=(Below.refl b1 w).setCell (p:=⟨b1,0,none⟩) (zG b1) _
 have p1:(w.setCell ⟨b1,0,none⟩ (.int .i64 0)).heap[b2]?=some (.cells #[x] 3 (0,0)):=(zC _ _ _ _ (fun e=>by have e:b2=b1:=e;omega)).trans h2
 have q1:(w.setCell ⟨b1,0,none⟩ (.int .i64 0)).heap[b3]?=some (.cells #[y] 3 (0,0)):=(zC _ _ _ _ (fun e=>by have e:b3=b1:=e;omega)).trans h3
 have k2:NdB ((w.setCell ⟨b1,0,none⟩ (.int .i64 0)).setCell ⟨b1,1,none⟩ (.string ⟨#[]⟩)) b1 0 ⟨#[]⟩ (.slice none 0 0) false false (.slice none 0 0) (.slice none 0 0):=by unfold NdB;simpa using k1.set 1 (.string ⟨#[]⟩)
 have l2:Below b1 w ((w.setCell ⟨b1,0,none⟩ (.int .i64 0)).setCell ⟨b1,1,none⟩ (.string ⟨#[]⟩)):=l1.setCell (show b1<=b1 from zG b1) _
 have p2:((w.setCell ⟨b1,0,none⟩ (.int .i64 0)).setCell ⟨b1,1,none⟩ (.string ⟨#[]⟩)).heap[b2]?=some (.cells #[x] 3 (0,0)):=(zC _ _ _ _ (fun e=>by have e:b2=b1:=e;omega)).trans p1
 have q2:((w.setCell ⟨b1,0,none⟩ (.int .i64 0)).setCell ⟨b1,1,none⟩ (.string ⟨#[]⟩)).heap[b3]?=some (.cells #[y] 3 (0,0)):=(zC _ _ _ _ (fun e=>by have e:b3=b1:=e;omega)).trans q1
 have k3:NdB (((w.setCell ⟨b1,0,none⟩ (.int .i64 0)).setCell ⟨b1,1,none⟩ (.string ⟨#[]⟩)).setCell ⟨b1,2,none⟩ (.slice none 0 0)) b1 0 ⟨#[]⟩ (.slice none 0 0) false false (.slice none 0 0) (.slice none 0 0):=by unfold NdB;simpa using k2.set 2 (.slice none 0 0)
 have l3:Below b1 w (((w.setCell ⟨b1,0,none⟩ (.int .i64 0)).setCell ⟨b1,1,none⟩ (.string ⟨#[]⟩)).setCell ⟨b1,2,none⟩ (.slice none 0 0)):=l2.setCell (show b1<=b1 from zG b1) _
 have p3:(((w.setCell ⟨b1,0,none⟩ (.int .i64 0)).setCell ⟨b1,1,none⟩ (.string ⟨#[]⟩)).setCell ⟨b1,2,none⟩ (.slice none 0 0)).heap[b2]?=some (.cells #[x] 3 (0,0)):=(zC _ _ _ _ (fun e=>by have e:b2=b1:=e;omega)).trans p2
 have q3:(((w.setCell ⟨b1,0,none⟩ (.int .i64 0)).setCell ⟨b1,1,none⟩ (.string ⟨#[]⟩)).setCell ⟨b1,2,none⟩ (.slice none 0 0)).heap[b3]?=some (.cells #[y] 3 (0,0)):=(zC _ _ _ _ (fun e=>by have e:b3=b1:=e;omega)).trans q2
 have k4:NdB ((((w.setCell ⟨b1,0,none⟩ (.int .i64 0)).setCell ⟨b1,1,none⟩ (.string ⟨#[]⟩)).setCell ⟨b1,2,none⟩ (.slice none 0 0)).setCell ⟨b1,3,none⟩ (.bool false)) b1 0 ⟨#[]⟩ (.slice none 0 0) false false (.slice none 0 0) (.slice none 0 0):=by unfold NdB;simpa using k3.set 3 (.bool false)
 have l4:Below b1 w ((((w.setCell ⟨b1,0,none⟩ (.int .i64 0)).setCell ⟨b1,1,none⟩ (.string ⟨#[]⟩)).setCell ⟨b1,2,none⟩ (.slice none 0 0)).setCell ⟨b1,3,none⟩ (.bool false)):=l3.setCell (show b1<=b1 from zG b1) _
 have p4:((((w.setCell ⟨b1,0,none⟩ (.int .i64 0)).setCell ⟨b1,1,none⟩ (.string ⟨#[]⟩)).setCell ⟨b1,2,none⟩ (.slice none 0 0)).setCell ⟨b1,3,none⟩ (.bool false)).heap[b2]?=some (.cells #[x] 3 (0,0)):=(zC _ _ _ _ (fun e=>by have e:b2=b1:=e;omega)).trans p3
 have q4:((((w.setCell ⟨b1,0,none⟩ (.int .i64 0)).setCell ⟨b1,1,none⟩ (.string ⟨#[]⟩)).setCell ⟨b1,2,none⟩ (.slice none 0 0)).setCell ⟨b1,3,none⟩ (.bool false)).heap[b3]?=some (.cells #[y] 3 (0,0)):=(zC _ _ _ _ (fun e=>by have e:b3=b1:=e;omega)).trans q3
 have k5:NdB (((((w.setCell ⟨b1,0,none⟩ (.int .i64 0)).setCell ⟨b1,1,none⟩ (.string ⟨#[]⟩)).setCell ⟨b1,2,none⟩ (.slice none 0 0)).setCell ⟨b1,3,none⟩ (.bool false)).setCell ⟨b1,4,none⟩ (.bool false)) b1 0 ⟨#[]⟩ (.slice none 0 0) false false (.slice none 0 0) (.slice none 0 0):=by unfold NdB;simpa using k4.set 4 (.bool false)
 have l5:Below b1 w (((((w.setCell ⟨b1,0,none⟩ (.int .i64 0)).setCell ⟨b1,1,none⟩ (.string ⟨#[]⟩)).setCell ⟨b1,2,none⟩ (.slice none 0 0)).setCell ⟨b1,3,none⟩ (.bool false)).setCell ⟨b1,4,none⟩ (.bool false)):=l4.setCell (show b1<=b1 from zG b1) _
 have p5:(((((w.setCell ⟨b1,0,none⟩ (.int .i64 0)).setCell ⟨b1,1,none⟩ (.string ⟨#[]⟩)).setCell ⟨b1,2,none⟩ (.slice none 0 0)).setCell ⟨b1,3,none⟩ (.bool false)).setCell ⟨b1,4,none⟩ (.bool false)).heap[b2]?=some (.cells #[x] 3 (0,0)):=(zC _ _ _ _ (fun e=>by have e:b2=b1:=e;omega)).trans p4
 have q5:(((((w.setCell ⟨b1,0,none⟩ (.int .i64 0)).setCell ⟨b1,1,none⟩ (.string ⟨#[]⟩)).setCell ⟨b1,2,none⟩ (.slice none 0 0)).setCell ⟨b1,3,none⟩ (.bool false)).setCell ⟨b1,4,none⟩ (.bool false)).heap[b3]?=some (.cells #[y] 3 (0,0)):=(zC _ _ _ _ (fun e=>by have e:b3=b1:=e;omega)).trans q4
 have k6:NdB ((((((w.setCell ⟨b1,0,none⟩ (.int .i64 0)).setCell ⟨b1,1,none⟩ (.string ⟨#[]⟩)).setCell ⟨b1,2,none⟩ (.slice none 0 0)).setCell ⟨b1,3,none⟩ (.bool false)).setCell ⟨b1,4,none⟩ (.bool false)).setCell ⟨b1,5,none⟩ (.slice none 0 0)) b1 0 ⟨#[]⟩ (.slice none 0 0) false false (.slice none 0 0) (.slice none 0 0):=by unfold NdB;simpa using k5.set 5 (.slice none 0 0)
 have l6:Below b1 w ((((((w.setCell ⟨b1,0,none⟩ (.int .i64 0)).setCell ⟨b1,1,none⟩ (.string ⟨#[]⟩)).setCell ⟨b1,2,none⟩ (.slice none 0 0)).setCell ⟨b1,3,none⟩ (.bool false)).setCell ⟨b1,4,none⟩ (.bool false)).setCell ⟨b1,5,none⟩ (.slice none 0 0)):=l5.setCell (show b1<=b1 from zG b1) _
 have p6:((((((w.setCell ⟨b1,0,none⟩ (.int .i64 0)).setCell ⟨b1,1,none⟩ (.string ⟨#[]⟩)).setCell ⟨b1,2,none⟩ (.slice none 0 0)).setCell ⟨b1,3,none⟩ (.bool false)).setCell ⟨b1,4,none⟩ (.bool false)).setCell ⟨b1,5,none⟩ (.slice none 0 0)).heap[b2]?=some (.cells #[x] 3 (0,0)):=(zC _ _ _ _ (fun e=>by have e:b2=b1:=e;omega)).trans p5
 have q6:((((((w.setCell ⟨b1,0,none⟩ (.int .i64 0)).setCell ⟨b1,1,none⟩ (.string ⟨#[]⟩)).setCell ⟨b1,2,none⟩ (.slice none 0 0)).setCell ⟨b1,3,none⟩ (.bool false)).setCell ⟨b1,4,none⟩ (.bool false)).setCell ⟨b1,5,none⟩ (.slice none 0 0)).heap[b3]?=some (.cells #[y] 3 (0,0)):=(zC _ _ _ _ (fun e=>by have e:b3=b1:=e;omega)).trans q5
 have k7:NdB (((((((w.setCell ⟨b1,0,none⟩ (.int .i64 0)).setCell ⟨b1,1,none⟩ (.string ⟨#[]⟩)).setCell ⟨b1,2,none⟩ (.slice none 0 0)).setCell ⟨b1,3,none⟩ (.bool false)).setCell ⟨b1,4,none⟩ (.bool false)).setCell ⟨b1,5,none⟩ (.slice none 0 0)).setCell ⟨b1,6,none⟩ (.slice none 0 0)) b1 0 ⟨#[]⟩ (.slice none 0 0) false false (.slice none 0 0) (.slice none 0 0):=by unfold NdB;simpa using k6.set 6 (.slice none 0 0)
 have l7:Below b1 w (((((((w.setCell ⟨b1,0,none⟩ (.int .i64 0)).setCell ⟨b1,1,none⟩ (.string ⟨#[]⟩)).setCell ⟨b1,2,none⟩ (.slice none 0 0)).setCell ⟨b1,3,none⟩ (.bool false)).setCell ⟨b1,4,none⟩ (.bool false)).setCell ⟨b1,5,none⟩ (.slice none 0 0)).setCell ⟨b1,6,none⟩ (.slice none 0 0)):=l6.setCell (show b1<=b1 from zG b1) _
 have p7:(((((((w.setCell ⟨b1,0,none⟩ (.int .i64 0)).setCell ⟨b1,1,none⟩ (.string ⟨#[]⟩)).setCell ⟨b1,2,none⟩ (.slice none 0 0)).setCell ⟨b1,3,none⟩ (.bool false)).setCell ⟨b1,4,none⟩ (.bool false)).setCell ⟨b1,5,none⟩ (.slice none 0 0)).setCell ⟨b1,6,none⟩ (.slice none 0 0)).heap[b2]?=some (.cells #[x] 3 (0,0)):=(zC _ _ _ _ (fun e=>by have e:b2=b1:=e;omega)).trans p6
 have q7:(((((((w.setCell ⟨b1,0,none⟩ (.int .i64 0)).setCell ⟨b1,1,none⟩ (.string ⟨#[]⟩)).setCell ⟨b1,2,none⟩ (.slice none 0 0)).setCell ⟨b1,3,none⟩ (.bool false)).setCell ⟨b1,4,none⟩ (.bool false)).setCell ⟨b1,5,none⟩ (.slice none 0 0)).setCell ⟨b1,6,none⟩ (.slice none 0 0)).heap[b3]?=some (.cells #[y] 3 (0,0)):=(zC _ _ _ _ (fun e=>by have e:b3=b1:=e;omega)).trans q6
 refine⟨?_,?_,?_,(l7.setCell (by show b1<=b2;omega) _).setCell (by show b1<=b3;omega) _⟩
 ·exact(zC _ _ _ _ (fun e=>by have e:b1=b3:=e;omega)).trans ((zC _ _ _ _ (fun e=>by have e:b1=b2:=e;omega)).trans k7)
 ·exact(zC _ _ _ _ (fun e=>by have e:b2=b3:=e;omega)).trans (by simpa using Lib.heap_setCell_same (i:=0) p7 (.int .i64 0))
 ·have q8:=(zC _ ⟨b2,0,none⟩ (.int .i64 0) b3 (fun e=>by have e:b3=b2:=e;omega)).trans q7
  simpa using Lib.heap_setCell_same (i:=0) q8 (.int .i64 8)
theorem qnf(b1 b2 b3:Nat)(w:World):
 CallsD Tryz.prog 60 #[.pointer (some ⟨b1,0,none⟩),.pointer (some ⟨b2,0,none⟩),.pointer (some ⟨b3,0,none⟩)] .returning w fun e u' w'=>e=.returned (.tuple #[])/\u'=.returning/\w'=w:=by
 refine callsD_of_wpS Tryz.func60 rfl fun c₀ cs hu=>?_
 apply wpS_seq
 apply wpS_region
 simp[wpOpsS,go_sem,recoverD,hu,Tryz.ntmps60,Exit.thenS]
 refine wpS_cond (t:=false) (by simp[Act.eval,zA]) ?_
 simp only[Bool.false_eq_true,if_false]
 refine wpS_of_wp (wp_skip ?_)
 cases c₀
 simp_all [bodyPostS,results,Tryz.results60]
section
variable{W0 W:World}{g:Nat}{s:ByteArray}{E:Env}{tv:Value}{L:PLay}{σ:PM}
theorem MM.start{W:World}{i:Nat}(hblk:W.heap[g]?=some (.cells #[.string s,tv,.int .i64 (i:Int),.int .i64 0,.slice none 0 0,.pointer none] 84 (0,0)))(hW:Below W0.heap.size W0 W)(hg:W0.heap.size<=g)(htv: ∀j,tv.ownBlock=some j->j<W0.heap.size)(hrow:TRow W tv (E.T.take E.to))(hl:E.to<=E.T.length)(h6:E.T.length<=1048576)(hi:i<=E.to)(hsz: ∀k,(E.tk k).2.1.size<=1048576)(hgp:qth s E tv)(hcp: ∀a l c,tv=.slice a l c->l<=c):
 MM W0 g s E tv W { A:=fun _=>0,B:=fun _=>0,own:=fun k=>if k=g then .rd else .fz } { i:=i,k:=[],n:=none,N:=[],C:=[] } :=by
 have hgl:g<W.heap.size:=lt_of_block hblk
 refine⟨hW,fun k hk=>?_,if_pos rfl,htv,⟨.slice none 0 0,.pointer none,0,⟨hblk,hrow,fun e=>by have:=htv _ e;omega,hl,h6,hi,Nat.zero_le _,fun k _ h=>absurd h (Nat.not_lt_zero _),fun b e=>zH (htv b e) hW.size,hsz,hgp,hcp⟩,⟨[],trivial,World.ownsRow_nil _ _ _ _,fun j e=>by cases e⟩,fun j e=>by cases e⟩,fun n x h=>by simp at h,fun c x h=>by simp at h,fun c x l h=>by simp at h,fun j e=>by cases e⟩
 have hk:(if k=g then PTg.rd else .fz)≠ .fz:=hk
 by_cases e:k=g
 ·subst e;exact⟨hg,hgl⟩
 ·rw[if_neg e]at hk;exact absurd rfl hk
theorem Bd.start{i:Nat}(hi:i<=E.to)(l:List Stp)(hl: ∀x∈l,okS x)(N:List (Option Nd))(B:Nat)(hN:NB B N):Bd E B { i:=i,k:=l,n:=none,N:=N,C:=[] } :=⟨hl,hi,hN,fun c x h=>by simp at h⟩
end
section
variable{W0 W:World}{g:Nat}{s:ByteArray}{E:Env}{tv:Value}{L:PLay}{σ:PM}
theorem qp8(h:MM W0 g s E tv W L σ)(hk:σ.k.length<=274877906944)(lv:Int)(k1:Nat)(hc:W.cell? ⟨k1,0,none⟩=some (.int .i64 lv)):
 Calls Tryz.prog 35 #[.pointer (some ⟨g,0,none⟩),.pointer (some ⟨k1,0,none⟩)] W (SO (.ok (σ.plan [.expr lv])) W0 g s E tv W L σ.N.length σ.C.length):=by
 have H0:=zh h
 have X0:=zh (MX.refl W0.heap.size W L σ.N.length σ.C.length)
 have HK:=zh hk
 clear h hk
 go_enter Tryz.func35,Tryz.ntmps35
 go_wp2_with fail
 have q1:=qds H0.out lv
 try unfold ptr at q1
 refine q1.mono ?_
 clear q1
 rintro e w1 ⟨v1,rfl,hv,hb⟩
 obtain⟨fK1,fF1,fC1,rfl⟩:=hv.fn
 have V1:=zh hv
 have H1:=zh (H0.out.below hb)
 have Y1:=zh (H0.out.mxb hb)
 have X1:=zh (X0.out.trans Y1.out)
 clear hv hb
 go_wp2_with fail
 refine(qbh H1.out _ (by simp) [_] [.expr lv] 1 rfl (Nat.le_trans HK.out (by decide)) (by decide) _ ⟨V1.out,trivial⟩).mono ?_
 rintro e w2 ⟨rfl,M2,hm,hx⟩
 have H2:=zh hm
 have Y2:=zh hx
 have X2:=zh (X1.out.trans Y2.out)
 have v1_2:=zh (Y2.out.isc V1.out)
 clear hm hx
 go_wp2_with fail
 go_end0
 exact⟨rfl,M2,H2.out,X2.out⟩
theorem qp7(h:MM W0 g s E tv W L σ)(hk:σ.k.length<=274877906944):
 Calls Tryz.prog 43 #[.pointer (some ⟨g,0,none⟩)] W (SO (.ok (σ.plan [.body])) W0 g s E tv W L σ.N.length σ.C.length):=by
 have H0:=zh h
 have X0:=zh (MX.refl W0.heap.size W L σ.N.length σ.C.length)
 have HK:=zh hk
 clear h hk
 go_enter Tryz.func43,Tryz.ntmps43
 have V1:=zh ((IsC.body:IsC W (L.P W0.heap.size) g L.A L.B (σ).N.length (σ).C.length _ .body))
 go_wp2_with fail
 refine(qbh H0.out _ (by simp) [_] [.body] 1 rfl (Nat.le_trans HK.out (by decide)) (by decide) _ ⟨V1.out,trivial⟩).mono ?_
 rintro e w2 ⟨rfl,M2,hm,hx⟩
 have H2:=zh hm
 have Y2:=zh hx
 have X2:=zh (X0.out.trans Y2.out)
 have v1_2:=zh (Y2.out.isc V1.out)
 clear hm hx
 go_wp2_with fail
 go_end0
 exact⟨rfl,M2,H2.out,X2.out⟩
end
theorem qr6(b1 b2 b3:Nat){w:World}{k:Int}{t:ByteArray}{lv nv tv x y x' y':Value}{br bl:Bool}(k0:NdB w b1 0 ⟨#[]⟩ (.slice none 0 0) false false (.slice none 0 0) (.slice none 0 0))(p0:w.heap[b2]?=some (.cells #[x] 3 (0,0)))(q0:w.heap[b3]?=some (.cells #[y] 3 (0,0)))(h12:b1<b2)(h23:b2<b3):NdB (((((((((w.setCell ⟨b1,0,none⟩ (.int .i64 k)).setCell ⟨b1,1,none⟩ (.string t)).setCell ⟨b1,2,none⟩ lv).setCell ⟨b1,3,none⟩ (.bool br)).setCell ⟨b1,4,none⟩ (.bool bl)).setCell ⟨b1,5,none⟩ nv).setCell ⟨b1,6,none⟩ tv).setCell ⟨b2,0,none⟩ x').setCell ⟨b3,0,none⟩ y') b1 k t lv br bl nv tv/\(((((((((w.setCell ⟨b1,0,none⟩ (.int .i64 k)).setCell ⟨b1,1,none⟩ (.string t)).setCell ⟨b1,2,none⟩ lv).setCell ⟨b1,3,none⟩ (.bool br)).setCell ⟨b1,4,none⟩ (.bool bl)).setCell ⟨b1,5,none⟩ nv).setCell ⟨b1,6,none⟩ tv).setCell ⟨b2,0,none⟩ x').setCell ⟨b3,0,none⟩ y').heap[b2]?=some (.cells #[x'] 3 (0,0))/\(((((((((w.setCell ⟨b1,0,none⟩ (.int .i64 k)).setCell ⟨b1,1,none⟩ (.string t)).setCell ⟨b1,2,none⟩ lv).setCell ⟨b1,3,none⟩ (.bool br)).setCell ⟨b1,4,none⟩ (.bool bl)).setCell ⟨b1,5,none⟩ nv).setCell ⟨b1,6,none⟩ tv).setCell ⟨b2,0,none⟩ x').setCell ⟨b3,0,none⟩ y').heap[b3]?=some (.cells #[y'] 3 (0,0))/\Below b1 w (((((((((w.setCell ⟨b1,0,none⟩ (.int .i64 k)).setCell ⟨b1,1,none⟩ (.string t)).setCell ⟨b1,2,none⟩ lv).setCell ⟨b1,3,none⟩ (.bool br)).setCell ⟨b1,4,none⟩ (.bool bl)).setCell ⟨b1,5,none⟩ nv).setCell ⟨b1,6,none⟩ tv).setCell ⟨b2,0,none⟩ x').setCell ⟨b3,0,none⟩ y')/\ ∀q,q≠b1->q≠b2->q≠b3->(((((((((w.setCell ⟨b1,0,none⟩ (.int .i64 k)).setCell ⟨b1,1,none⟩ (.string t)).setCell ⟨b1,2,none⟩ lv).setCell ⟨b1,3,none⟩ (.bool br)).setCell ⟨b1,4,none⟩ (.bool bl)).setCell ⟨b1,5,none⟩ nv).setCell ⟨b1,6,none⟩ tv).setCell ⟨b2,0,none⟩ x').setCell ⟨b3,0,none⟩ y').heap[q]?=w.heap[q]?:=by
 have l0:Below b1 w w:=Below.refl _ _
 have k1:NdB (w.setCell ⟨b1,0,none⟩ (.int .i64 k)) b1 k ⟨#[]⟩ (.slice none 0 0) false false (.slice none 0 0) (.slice none 0 0):=by unfold NdB;simpa using k0.set 0 (.int .i64 k)
 have l1:Below b1 w (w.setCell ⟨b1,0,none⟩ (.int .i64 k)):=l0.setCell (show b1<=b1 from zG b1) _
 have p1:(w.setCell ⟨b1,0,none⟩ (.int .i64 k)).heap[b2]?=some (.cells #[x] 3 (0,0)):=(zC _ _ _ _ (fun e=>by have e:b2=b1:=e;omega)).trans p0
 have q1:(w.setCell ⟨b1,0,none⟩ (.int .i64 k)).heap[b3]?=some (.cells #[y] 3 (0,0)):=(zC _ _ _ _ (fun e=>by have e:b3=b1:=e;omega)).trans q0
 have k2:NdB ((w.setCell ⟨b1,0,none⟩ (.int .i64 k)).setCell ⟨b1,1,none⟩ (.string t)) b1 k t (.slice none 0 0) false false (.slice none 0 0) (.slice none 0 0):=by unfold NdB;simpa using k1.set 1 (.string t)
 have l2:Below b1 w ((w.setCell ⟨b1,0,none⟩ (.int .i64 k)).setCell ⟨b1,1,none⟩ (.string t)):=l1.setCell (show b1<=b1 from zG b1) _
 have p2:((w.setCell ⟨b1,0,none⟩ (.int .i64 k)).setCell ⟨b1,1,none⟩ (.string t)).heap[b2]?=some (.cells #[x] 3 (0,0)):=(zC _ _ _ _ (fun e=>by have e:b2=b1:=e;omega)).trans p1
 have q2:((w.setCell ⟨b1,0,none⟩ (.int .i64 k)).setCell ⟨b1,1,none⟩ (.string t)).heap[b3]?=some (.cells #[y] 3 (0,0)):=(zC _ _ _ _ (fun e=>by have e:b3=b1:=e;omega)).trans q1
 have k3:NdB (((w.setCell ⟨b1,0,none⟩ (.int .i64 k)).setCell ⟨b1,1,none⟩ (.string t)).setCell ⟨b1,2,none⟩ lv) b1 k t lv false false (.slice none 0 0) (.slice none 0 0):=by unfold NdB;simpa using k2.set 2 lv
 have l3:Below b1 w (((w.setCell ⟨b1,0,none⟩ (.int .i64 k)).setCell ⟨b1,1,none⟩ (.string t)).setCell ⟨b1,2,none⟩ lv):=l2.setCell (show b1<=b1 from zG b1) _
 have p3:(((w.setCell ⟨b1,0,none⟩ (.int .i64 k)).setCell ⟨b1,1,none⟩ (.string t)).setCell ⟨b1,2,none⟩ lv).heap[b2]?=some (.cells #[x] 3 (0,0)):=(zC _ _ _ _ (fun e=>by have e:b2=b1:=e;omega)).trans p2
 have q3:(((w.setCell ⟨b1,0,none⟩ (.int .i64 k)).setCell ⟨b1,1,none⟩ (.string t)).setCell ⟨b1,2,none⟩ lv).heap[b3]?=some (.cells #[y] 3 (0,0)):=(zC _ _ _ _ (fun e=>by have e:b3=b1:=e;omega)).trans q2
 have k4:NdB ((((w.setCell ⟨b1,0,none⟩ (.int .i64 k)).setCell ⟨b1,1,none⟩ (.string t)).setCell ⟨b1,2,none⟩ lv).setCell ⟨b1,3,none⟩ (.bool br)) b1 k t lv br false (.slice none 0 0) (.slice none 0 0):=by unfold NdB;simpa using k3.set 3 (.bool br)
 have l4:Below b1 w ((((w.setCell ⟨b1,0,none⟩ (.int .i64 k)).setCell ⟨b1,1,none⟩ (.string t)).setCell ⟨b1,2,none⟩ lv).setCell ⟨b1,3,none⟩ (.bool br)):=l3.setCell (show b1<=b1 from zG b1) _
 have p4:((((w.setCell ⟨b1,0,none⟩ (.int .i64 k)).setCell ⟨b1,1,none⟩ (.string t)).setCell ⟨b1,2,none⟩ lv).setCell ⟨b1,3,none⟩ (.bool br)).heap[b2]?=some (.cells #[x] 3 (0,0)):=(zC _ _ _ _ (fun e=>by have e:b2=b1:=e;omega)).trans p3
 have q4:((((w.setCell ⟨b1,0,none⟩ (.int .i64 k)).setCell ⟨b1,1,none⟩ (.string t)).setCell ⟨b1,2,none⟩ lv).setCell ⟨b1,3,none⟩ (.bool br)).heap[b3]?=some (.cells #[y] 3 (0,0)):=(zC _ _ _ _ (fun e=>by have e:b3=b1:=e;omega)).trans q3
 have k5:NdB (((((w.setCell ⟨b1,0,none⟩ (.int .i64 k)).setCell ⟨b1,1,none⟩ (.string t)).setCell ⟨b1,2,none⟩ lv).setCell ⟨b1,3,none⟩ (.bool br)).setCell ⟨b1,4,none⟩ (.bool bl)) b1 k t lv br bl (.slice none 0 0) (.slice none 0 0):=by unfold NdB;simpa using k4.set 4 (.bool bl)
 have l5:Below b1 w (((((w.setCell ⟨b1,0,none⟩ (.int .i64 k)).setCell ⟨b1,1,none⟩ (.string t)).setCell ⟨b1,2,none⟩ lv).setCell ⟨b1,3,none⟩ (.bool br)).setCell ⟨b1,4,none⟩ (.bool bl)):=l4.setCell (show b1<=b1 from zG b1) _
 have p5:(((((w.setCell ⟨b1,0,none⟩ (.int .i64 k)).setCell ⟨b1,1,none⟩ (.string t)).setCell ⟨b1,2,none⟩ lv).setCell ⟨b1,3,none⟩ (.bool br)).setCell ⟨b1,4,none⟩ (.bool bl)).heap[b2]?=some (.cells #[x] 3 (0,0)):=(zC _ _ _ _ (fun e=>by have e:b2=b1:=e;omega)).trans p4
 have q5:(((((w.setCell ⟨b1,0,none⟩ (.int .i64 k)).setCell ⟨b1,1,none⟩ (.string t)).setCell ⟨b1,2,none⟩ lv).setCell ⟨b1,3,none⟩ (.bool br)).setCell ⟨b1,4,none⟩ (.bool bl)).heap[b3]?=some (.cells #[y] 3 (0,0)):=(zC _ _ _ _ (fun e=>by have e:b3=b1:=e;omega)).trans q4
 have k6:NdB ((((((w.setCell ⟨b1,0,none⟩ (.int .i64 k)).setCell ⟨b1,1,none⟩ (.string t)).setCell ⟨b1,2,none⟩ lv).setCell ⟨b1,3,none⟩ (.bool br)).setCell ⟨b1,4,none⟩ (.bool bl)).setCell ⟨b1,5,none⟩ nv) b1 k t lv br bl nv (.slice none 0 0):=by unfold NdB;simpa using k5.set 5 nv
 have l6:Below b1 w ((((((w.setCell ⟨b1,0,none⟩ (.int .i64 k)).setCell ⟨b1,1,none⟩ (.string t)).setCell ⟨b1,2,none⟩ lv).setCell ⟨b1,3,none⟩ (.bool br)).setCell ⟨b1,4,none⟩ (.bool bl)).setCell ⟨b1,5,none⟩ nv):=l5.setCell (show b1<=b1 from zG b1) _
 have p6:((((((w.setCell ⟨b1,0,none⟩ (.int .i64 k)).setCell ⟨b1,1,none⟩ (.string t)).setCell ⟨b1,2,none⟩ lv).setCell ⟨b1,3,none⟩ (.bool br)).setCell ⟨b1,4,none⟩ (.bool bl)).setCell ⟨b1,5,none⟩ nv).heap[b2]?=some (.cells #[x] 3 (0,0)):=(zC _ _ _ _ (fun e=>by have e:b2=b1:=e;omega)).trans p5
 have q6:((((((w.setCell ⟨b1,0,none⟩ (.int .i64 k)).setCell ⟨b1,1,none⟩ (.string t)).setCell ⟨b1,2,none⟩ lv).setCell ⟨b1,3,none⟩ (.bool br)).setCell ⟨b1,4,none⟩ (.bool bl)).setCell ⟨b1,5,none⟩ nv).heap[b3]?=some (.cells #[y] 3 (0,0)):=(zC _ _ _ _ (fun e=>by have e:b3=b1:=e;omega)).trans q5
 have k7:NdB (((((((w.setCell ⟨b1,0,none⟩ (.int .i64 k)).setCell ⟨b1,1,none⟩ (.string t)).setCell ⟨b1,2,none⟩ lv).setCell ⟨b1,3,none⟩ (.bool br)).setCell ⟨b1,4,none⟩ (.bool bl)).setCell ⟨b1,5,none⟩ nv).setCell ⟨b1,6,none⟩ tv) b1 k t lv br bl nv tv:=by unfold NdB;simpa using k6.set 6 tv
 have l7:Below b1 w (((((((w.setCell ⟨b1,0,none⟩ (.int .i64 k)).setCell ⟨b1,1,none⟩ (.string t)).setCell ⟨b1,2,none⟩ lv).setCell ⟨b1,3,none⟩ (.bool br)).setCell ⟨b1,4,none⟩ (.bool bl)).setCell ⟨b1,5,none⟩ nv).setCell ⟨b1,6,none⟩ tv):=l6.setCell (show b1<=b1 from zG b1) _
 have p7:(((((((w.setCell ⟨b1,0,none⟩ (.int .i64 k)).setCell ⟨b1,1,none⟩ (.string t)).setCell ⟨b1,2,none⟩ lv).setCell ⟨b1,3,none⟩ (.bool br)).setCell ⟨b1,4,none⟩ (.bool bl)).setCell ⟨b1,5,none⟩ nv).setCell ⟨b1,6,none⟩ tv).heap[b2]?=some (.cells #[x] 3 (0,0)):=(zC _ _ _ _ (fun e=>by have e:b2=b1:=e;omega)).trans p6
 have q7:(((((((w.setCell ⟨b1,0,none⟩ (.int .i64 k)).setCell ⟨b1,1,none⟩ (.string t)).setCell ⟨b1,2,none⟩ lv).setCell ⟨b1,3,none⟩ (.bool br)).setCell ⟨b1,4,none⟩ (.bool bl)).setCell ⟨b1,5,none⟩ nv).setCell ⟨b1,6,none⟩ tv).heap[b3]?=some (.cells #[y] 3 (0,0)):=(zC _ _ _ _ (fun e=>by have e:b3=b1:=e;omega)).trans q6
 refine⟨?_,?_,?_,(l7.setCell (show b1<=b2 by omega) _).setCell (show b1<=b3 by omega) _,fun q n1 n2 n3=>?_⟩
 ·exact(zC _ _ _ _ (fun e=>by have e:b1=b3:=e;omega)).trans ((zC _ _ _ _ (fun e=>by have e:b1=b2:=e;omega)).trans k7)
 ·exact(zC _ _ _ _ (fun e=>by have e:b2=b3:=e;omega)).trans (by simpa using Lib.heap_setCell_same (i:=0) p7 x')
 ·have q8:=(zC _ ⟨b2,0,none⟩ x' b3 (fun e=>by have e:b3=b2:=e;omega)).trans q7
  simpa using Lib.heap_setCell_same (i:=0) q8 y'
 ·exact(zC _ _ _ _ n3).trans ((zC _ _ _ _ n2).trans ((zC _ _ _ _ n1).trans ((zC _ _ _ _ n1).trans ((zC _ _ _ _ n1).trans ((zC _ _ _ _ n1).trans ((zC _ _ _ _ n1).trans ((zC _ _ _ _ n1).trans (zC _ _ _ _ n1))))))))
def AO(R:Rs PM)(W:World)(e:Ending)(W':World):Prop:=Below W.heap.size W W'/\
 match R with
 | .ok τ=> ∃c x j,τ.n=some j/\τ.N[j]?=some (some x)/\e=.returned (.tuple #[.agg c,.int .i64 (τ.i:Int),.int .i64 0])/\NdIn W' (fun q=>W.heap.size<=q) c.toList x
 | .error _=>e=.returned (.tuple #[.agg #[.int .i64 0,.string ⟨#[]⟩,.slice none 0 0,.bool false,.bool false,.slice none 0 0,.slice none 0 0],.int .i64 0,.int .i64 8])
theorem qnb{W:World}{s:ByteArray}{E:Env}{la:Option Addr}{ln lc i:Nat}{K:FuncId}{fC:Array Value}{σ1:PM}{n B:Nat}{R:Rs PM}
 (hrow:TRow W (.slice la E.to lc) (E.T.take E.to)) (hl:E.to<=E.T.length) (h6:E.T.length<=1048576) (hi:i<=E.to) (hto:E.to<=ln) (hln:ln<=lc) (hsz: ∀k,(E.tk k).2.1.size<=1048576) (hgp:qth s E (.slice la E.to lc)) (hown: ∀j,(Value.slice la E.to lc).ownBlock=some j->j<W.heap.size)
 (hen: ∀args w,(callFunc K args).run Tryz.prog w=.ok (.enter K args) w)
 (hpl: ∀(W0 W1:World) (g:Nat) (L:PLay),MM W0 g s E (.slice la E.to lc) W1 L { i:=i,k:=[],n:=none,N:=[],C:=[] } ->Below W.heap.size W W1->Calls Tryz.prog K (#[.pointer (some ⟨g,0,none⟩)]++fC) W1 (SO (.ok σ1) W0 g s E (.slice la E.to lc) W1 L 0 0))
 (hb:Bd E B σ1) (hB:2<=B) (hn:B+n<=1000000000000) (hp:pot E σ1<=274877906944) (hR:qet E n σ1=R) (hns:R≠ .error .stuck) (hcur: ∀τ,R=.ok τ-> ∃j x,τ.n=some j/\τ.N[j]?=some (some x)):
 Calls Tryz.prog 34 #[.string s,.slice la ln lc,.int .i64 (i:Int),.int .i64 (E.to:Int),.func (.func K) #[] fC] W (AO R W):=by
 have hmf: ∀(fn:Fn) (first cap:Array Value) (w:World),(Instr.makeFunc fn first cap).run Tryz.prog w=.ok (.func fn first cap) w:=fun _ _ _ _=>rfl
 have HBW:Hid (Below W.heap.size W (((W.alloc (.cells #[.int .i64 0,.string ⟨#[]⟩,.slice none 0 0,.bool false,.bool false,.slice none 0 0,.slice none 0 0] 29)).alloc (.cells #[.int .i64 0] 3)).alloc (.cells #[.int .i64 0] 3))):=zh (((qa1 _ _).trans ((qa1 _ _).mono (by simp))).trans ((qa1 _ _).mono (by simp;omega)))
 have HST:Hid (∀W1:World,Below (((W.alloc (.cells #[.int .i64 0,.string ⟨#[]⟩,.slice none 0 0,.bool false,.bool false,.slice none 0 0,.slice none 0 0] 29)).alloc (.cells #[.int .i64 0] 3)).alloc (.cells #[.int .i64 0] 3)).heap.size (((W.alloc (.cells #[.int .i64 0,.string ⟨#[]⟩,.slice none 0 0,.bool false,.bool false,.slice none 0 0,.slice none 0 0] 29)).alloc (.cells #[.int .i64 0] 3)).alloc (.cells #[.int .i64 0] 3)) W1->W1.heap[W.heap.size+1+1+1]?=some (.cells #[.string s,.slice la E.to lc,.int .i64 (i:Int),.int .i64 0,.slice none 0 0,.pointer none] 84 (0,0))->
  MM (((W.alloc (.cells #[.int .i64 0,.string ⟨#[]⟩,.slice none 0 0,.bool false,.bool false,.slice none 0 0,.slice none 0 0] 29)).alloc (.cells #[.int .i64 0] 3)).alloc (.cells #[.int .i64 0] 3)) (W.heap.size+1+1+1) s E (.slice la E.to lc) W1 { A:=fun _=>0,B:=fun _=>0,own:=fun k=>if k=W.heap.size+1+1+1 then .rd else .fz } { i:=i,k:=[],n:=none,N:=[],C:=[] }):=zh (fun W1 h1 h2=>
  MM.start h2 h1 (by simp) (fun j e=>by have:=hown j e;simp;omega) (hrow.below (HBW.out.trans (h1.mono (by simp;omega)))) hl h6 hi hsz hgp (fun a l c e=>by simp only[Value.slice.injEq]at e;omega))
 have HPL:=zh hpl
 have HRUN:=zh (fun(W0 W1:World) (g:Nat) (L:PLay) (h:MM W0 g s E (.slice la E.to lc) W1 L σ1)=>runM h n B hb hB hn hp (by rw[hR];exact hns))
 rw[hR]at HRUN
 have HCUR:=zh hcur
 have HNS:=zh hns
 have d1:decide ((i:Int)≥0)=true:=decide_eq_true (by omega)
 have d2:decide ((i:Int)<=(E.to:Int))=true:=decide_eq_true (by omega)
 have d3:decide ((E.to:Int)<=(ln:Int))=true:=decide_eq_true (by omega)
 have e1:(0:Int)<=(i:Int):=by omega
 have e2:(i:Int)<=(E.to:Int):=by omega
 have e3:(E.to:Int)<=(ln:Int):=by omega
 have e4:(0:Int)<=(E.to:Int):=by omega
 have e5:(E.to:Int)<=(lc:Int):=by omega
 have HI:=zh hi
 clear hrow hl h6 hi hto hln hsz hgp hown hpl hb hB hn hp hR hns hcur
 go_enter_defers Tryz.func34,Tryz.ntmps34
 go_wp2_with fail
 refine(qas _).mono ?_
 rintro e w9 ⟨rfl,rfl⟩
 go_wp2_with fail
 have HB0:=zh (Below.refl (((W.alloc (.cells #[.int .i64 0,.string ⟨#[]⟩,.slice none 0 0,.bool false,.bool false,.slice none 0 0,.slice none 0 0] 29)).alloc (.cells #[.int .i64 0] 3)).alloc (.cells #[.int .i64 0] 3)).heap.size (((W.alloc (.cells #[.int .i64 0,.string ⟨#[]⟩,.slice none 0 0,.bool false,.bool false,.slice none 0 0,.slice none 0 0] 29)).alloc (.cells #[.int .i64 0] 3)).alloc (.cells #[.int .i64 0] 3)))
 have hm0:=HST.out _ (qa1 _ _) (by simpa using qaa (((W.alloc (.cells #[.int .i64 0,.string ⟨#[]⟩,.slice none 0 0,.bool false,.bool false,.slice none 0 0,.slice none 0 0] 29)).alloc (.cells #[.int .i64 0] 3)).alloc (.cells #[.int .i64 0] 3)) _)
 have hq:=HPL.out _ _ _ _ hm0 (HBW.out.trans ((qa1 _ _).mono (by simp;omega)))
 refine hq.mono ?_
 clear hq hm0
 rintro e w1 ⟨rfl,L1,hm1,hx1⟩
 have H1:=zh hm1
 clear hm1 hx1
 go_wp2_with fail
 refine(HRUN.out _ _ _ _ H1.out).mono ?_
 intro e w2 h2
 cases R with
 | error b=>
  cases b with
  | stuck=>exact absurd rfl HNS.out
  | die=>
   obtain⟨⟨u,pv,rfl⟩,hb⟩:=h2
   have HB9:=zh hb
   clear hb
   have r1:(((W.alloc (.cells #[.int .i64 0,.string ⟨#[]⟩,.slice none 0 0,.bool false,.bool false,.slice none 0 0,.slice none 0 0] 29)).alloc (.cells #[.int .i64 0] 3)).alloc (.cells #[.int .i64 0] 3)).heap[W.heap.size]?=some (.cells #[.int .i64 0,.string ⟨#[]⟩,.slice none 0 0,.bool false,.bool false,.slice none 0 0,.slice none 0 0] 29 (0,0)):=(zB _ _ _ (by simp;omega)).trans ((zB _ _ _ (by simp)).trans (qaa W _))
   have r2:(((W.alloc (.cells #[.int .i64 0,.string ⟨#[]⟩,.slice none 0 0,.bool false,.bool false,.slice none 0 0,.slice none 0 0] 29)).alloc (.cells #[.int .i64 0] 3)).alloc (.cells #[.int .i64 0] 3)).heap[W.heap.size+1]?=some (.cells #[.int .i64 0] 3 (0,0)):=(zB _ _ _ (by simp)).trans (by have h9:=qaa (W.alloc (.cells #[.int .i64 0,.string ⟨#[]⟩,.slice none 0 0,.bool false,.bool false,.slice none 0 0,.slice none 0 0] 29)) (.cells #[.int .i64 0] 3);rwa [show(W.alloc (.cells #[.int .i64 0,.string ⟨#[]⟩,.slice none 0 0,.bool false,.bool false,.slice none 0 0,.slice none 0 0] 29)).heap.size=W.heap.size+1 by simp]at h9)
   have r3:(((W.alloc (.cells #[.int .i64 0,.string ⟨#[]⟩,.slice none 0 0,.bool false,.bool false,.slice none 0 0,.slice none 0 0] 29)).alloc (.cells #[.int .i64 0] 3)).alloc (.cells #[.int .i64 0] 3)).heap[W.heap.size+1+1]?=some (.cells #[.int .i64 0] 3 (0,0)):=by have h9:=qaa ((W.alloc (.cells #[.int .i64 0,.string ⟨#[]⟩,.slice none 0 0,.bool false,.bool false,.slice none 0 0,.slice none 0 0] 29)).alloc (.cells #[.int .i64 0] 3)) (.cells #[.int .i64 0] 3);rwa [show((W.alloc (.cells #[.int .i64 0,.string ⟨#[]⟩,.slice none 0 0,.bool false,.bool false,.slice none 0 0,.slice none 0 0] 29)).alloc (.cells #[.int .i64 0] 3)).heap.size=W.heap.size+1+1 by simp]at h9
   have h1:=(HB9.out.block W.heap.size (by simp;omega)).trans r1
   have h2:=(HB9.out.block (W.heap.size+1) (by simp)).trans r2
   have h3:=(HB9.out.block (W.heap.size+1+1) (by simp)).trans r3
   have HH1:=zh h1
   have HH2:=zh h2
   have HH3:=zh h3
   clear r1 r2 r3 h1 h2 h3
   go_wp2_with fail
   refine leaves_cons (f:=60) (args:= #[.pointer (some ⟨W.heap.size,0,none⟩),.pointer (some ⟨W.heap.size+1,0,none⟩),.pointer (some ⟨W.heap.size+1+1,0,none⟩)]) (by simp) (by simp[go_sem]) ?_
   refine(qdx W.heap.size (W.heap.size+1) (W.heap.size+1+1) _ _ _ _ HH1.out HH2.out HH3.out (by omega) (by omega)).mono ?_
   rintro e u' w'' ⟨rfl,rfl,hnd,h2,h3,hbl⟩
   obtain⟨m0,m1,m2,m3,m4,m5,m6⟩:=hnd.cells
   have c2:=(qaq h2).1
   have c3:=(qaq h3).1
   have HBF:Hid (Below W.heap.size W w''):=zh ((HBW.out.trans (HB9.out.mono (by simp;omega))).trans hbl)
   clear hnd h2 h3 hbl
   simp[Leaves,settle,results,Tryz.results34,go_sem,m0,m1,m2,m3,m4,m5,m6,c2,c3]
   exact⟨HBF.out,rfl⟩
 | ok τ=>
  obtain⟨rfl,L2,hm2,hx2⟩:=h2
  obtain⟨j,x,hj,hx⟩:=HCUR.out τ rfl
  have HJ:=zh hj
  have HX:=zh hx
  have H2:=zh hm2
  have HB9:=zh hm2.bel
  obtain⟨ka,ta,lv,ra,qa,nv,vv,hNd,⟨la1,la2,la3,rfl⟩,⟨na1,na2,na3,rfl⟩,⟨va1,va2,va3,rfl⟩⟩:=hm2.ncellsA hx
  have HND:=zh hNd
  have hAj:W.heap.size+1+1+1<=L2.A j:=by
   have h9:=hm2.nds j x hx
   have h8:L2.own (L2.A j)=.hd j:=by cases x;exact h9.1
   have h7:=(hm2.own _ (by rw[h8];exact fun e=>by cases e)).1
   simpa using h7
  have HAJ:=zh hAj
  have HS:Hid (∀w':World,(∀k,W.heap.size+1+1+1<=k->w'.heap[k]?=w2.heap[k]?)->w'.cell? ⟨W.heap.size+1+1+1,5,none⟩=some (.pointer (some ⟨L2.A j,0,none⟩))/\w'.cell? ⟨W.heap.size+1+1+1,2,none⟩=some (.int .i64 (τ.i:Int))/\w'.cell? ⟨L2.A j,0,none⟩=some (.int .i64 ka)/\w'.cell? ⟨L2.A j,1,none⟩=some (.string ta)/\w'.cell? ⟨L2.A j,2,none⟩=some (.slice la1 la2 la3)/\w'.cell? ⟨L2.A j,3,none⟩=some (.bool ra)/\w'.cell? ⟨L2.A j,4,none⟩=some (.bool qa)/\w'.cell? ⟨L2.A j,5,none⟩=some (.slice na1 na2 na3)/\w'.cell? ⟨L2.A j,6,none⟩=some (.slice va1 va2 va3)):=zh (fun w' h=>by
   obtain⟨td,np,past,q1,q2,q3⟩:=H2.out.open
   obtain rfl:=q2 j HJ.out
   have hb:=(h _ (zG _)).trans q1.blk
   have hn:NdB w' (L2.A j) ka ta (.slice la1 la2 la3) ra qa (.slice na1 na2 na3) (.slice va1 va2 va3):=(h _ HAJ.out).trans HND.out
   exact⟨by rw[cell_of_row w' _ _ _ _ _ hb];rfl,by rw[cell_of_row w' _ _ _ _ _ hb];rfl,hn.cells⟩)
  have r1:(((W.alloc (.cells #[.int .i64 0,.string ⟨#[]⟩,.slice none 0 0,.bool false,.bool false,.slice none 0 0,.slice none 0 0] 29)).alloc (.cells #[.int .i64 0] 3)).alloc (.cells #[.int .i64 0] 3)).heap[W.heap.size]?=some (.cells #[.int .i64 0,.string ⟨#[]⟩,.slice none 0 0,.bool false,.bool false,.slice none 0 0,.slice none 0 0] 29 (0,0)):=(zB _ _ _ (by simp;omega)).trans ((zB _ _ _ (by simp)).trans (qaa W _))
  have r2:(((W.alloc (.cells #[.int .i64 0,.string ⟨#[]⟩,.slice none 0 0,.bool false,.bool false,.slice none 0 0,.slice none 0 0] 29)).alloc (.cells #[.int .i64 0] 3)).alloc (.cells #[.int .i64 0] 3)).heap[W.heap.size+1]?=some (.cells #[.int .i64 0] 3 (0,0)):=(zB _ _ _ (by simp)).trans (by have h9:=qaa (W.alloc (.cells #[.int .i64 0,.string ⟨#[]⟩,.slice none 0 0,.bool false,.bool false,.slice none 0 0,.slice none 0 0] 29)) (.cells #[.int .i64 0] 3);rwa [show(W.alloc (.cells #[.int .i64 0,.string ⟨#[]⟩,.slice none 0 0,.bool false,.bool false,.slice none 0 0,.slice none 0 0] 29)).heap.size=W.heap.size+1 by simp]at h9)
  have r3:(((W.alloc (.cells #[.int .i64 0,.string ⟨#[]⟩,.slice none 0 0,.bool false,.bool false,.slice none 0 0,.slice none 0 0] 29)).alloc (.cells #[.int .i64 0] 3)).alloc (.cells #[.int .i64 0] 3)).heap[W.heap.size+1+1]?=some (.cells #[.int .i64 0] 3 (0,0)):=by have h9:=qaa ((W.alloc (.cells #[.int .i64 0,.string ⟨#[]⟩,.slice none 0 0,.bool false,.bool false,.slice none 0 0,.slice none 0 0] 29)).alloc (.cells #[.int .i64 0] 3)) (.cells #[.int .i64 0] 3);rwa [show((W.alloc (.cells #[.int .i64 0,.string ⟨#[]⟩,.slice none 0 0,.bool false,.bool false,.slice none 0 0,.slice none 0 0] 29)).alloc (.cells #[.int .i64 0] 3)).heap.size=W.heap.size+1+1 by simp]at h9
  have h1:NdB w2 W.heap.size 0 ⟨#[]⟩ (.slice none 0 0) false false (.slice none 0 0) (.slice none 0 0):=(HB9.out.block W.heap.size (by simp;omega)).trans r1
  have h2:=(HB9.out.block (W.heap.size+1) (by simp)).trans r2
  have h3:=(HB9.out.block (W.heap.size+1+1) (by simp)).trans r3
  obtain⟨m0,m1,m2,m3,m4,m5,m6⟩:=h1.cells
  have f0:=h1.frz 0
  have f1:=h1.frz 1
  have f2:=h1.frz 2
  have f3:=h1.frz 3
  have f4:=h1.frz 4
  have f5:=h1.frz 5
  have f6:=h1.frz 6
  obtain⟨c2,z2⟩:=qaq h2
  obtain⟨c3,z3⟩:=qaq h3
  have HNA:=zh (hm2.nds j x hx)
  have HH1:=zh h1
  have HH2:=zh h2
  have HH3:=zh h3
  clear hm2 hx2 hj hx hNd hAj r1 r2 r3 h1 h2 h3
  go_wp2_with fail
  obtain⟨s5,s2,n0,n1,n2,n3,n4,n5,n6⟩:=HS.out w2 (fun _ _=>rfl)
  refine wp_region_noPanic ?_
  go_region
  all_goals refine NoPanic.normal ?_
  all_goals go_wp2_with fail
  have hres:=qr6 (w:=w2) W.heap.size (W.heap.size+1) (W.heap.size+1+1) (k:=ka) (t:=ta) (lv:=.slice la1 la2 la3) (br:=ra) (bl:=qa) (nv:=.slice na1 na2 na3) (tv:=.slice va1 va2 va3) (x':=.int .i64 (τ.i:Int)) (y':=.int .i64 0) HH1.out HH2.out HH3.out (by omega) (by omega)
  generalize(((((((((w2.setCell ⟨W.heap.size,0,none⟩ (.int .i64 ka)).setCell ⟨W.heap.size,1,none⟩ (.string ta)).setCell ⟨W.heap.size,2,none⟩ (.slice la1 la2 la3)).setCell ⟨W.heap.size,3,none⟩ (.bool ra)).setCell ⟨W.heap.size,4,none⟩ (.bool qa)).setCell ⟨W.heap.size,5,none⟩ (.slice na1 na2 na3)).setCell ⟨W.heap.size,6,none⟩ (.slice va1 va2 va3)).setCell ⟨W.heap.size+1,0,none⟩ (.int .i64 (τ.i:Int))).setCell ⟨W.heap.size+1+1,0,none⟩ (.int .i64 0))=wf at hres⊢
  clear m0 m1 m2 m3 m4 m5 m6 f0 f1 f2 f3 f4 f5 f6 c2 z2 c3 z3 s5 s2 n0 n1 n2 n3 n4 n5 n6
  obtain⟨k1,k2,k3,k4,k5⟩:=hres
  obtain⟨m0,m1,m2,m3,m4,m5,m6⟩:=k1.cells
  have c2:=(qaq k2).1
  have c3:=(qaq k3).1
  have HBF:Hid (Below W.heap.size W wf.drew):=zh ((HBW.out.trans (HB9.out.mono (by simp;omega))).trans k4).drew
  have HAT:Hid (NdIn wf.drew (fun q=>W.heap.size<=q) [.int .i64 ka,.string ta,.slice la1 la2 la3,.bool ra,.bool qa,.slice na1 na2 na3,.slice va1 va2 va3] x):=zh (by
   obtain⟨c',h7,hc',hn,ho⟩:=HNA.out.cells7
   have e:c'=[.int .i64 ka,.string ta,.slice la1 la2 la3,.bool ra,.bool qa,.slice na1 na2 na3,.slice va1 va2 va3]:=by
    have h8:=HND.out
    unfold NdB at h8
    rw[hc']at h8
    simpa using h8
   subst e
   exact(hn.keep (W':=wf.drew) ⟨k4.size,fun q hq hl=>k5 q (by have:=hq.elim (·.2) (·.2);simp at this;omega) (by have:=hq.elim (·.2) (·.2);simp at this;omega) (by have:=hq.elim (·.2) (·.2);simp at this;omega)⟩).weak (fun q hq _=>by have:=hq.elim (·.2) (·.2);simp at this;omega))
  clear k1 k2 k3 k4 k5
  refine leaves_cons (f:=60) (args:= #[.pointer (some ⟨W.heap.size,0,none⟩),.pointer (some ⟨W.heap.size+1,0,none⟩),.pointer (some ⟨W.heap.size+1+1,0,none⟩)]) (by simp) (by simp[go_sem]) ?_
  refine(qnf _ _ _ _).mono ?_
  rintro e u' w'' ⟨rfl,rfl,rfl⟩
  simp[Leaves,settle,results,Tryz.results34,go_sem,m0,m1,m2,m3,m4,m5,m6,c2,c3]
  exact⟨HBF.out,_,x,j,HJ.out,HX.out,rfl,HAT.out⟩
theorem qg5{W:World}{s:ByteArray}{la:Option Addr}{ln lc:Nat}{fr to_:Int}{f:Value}(hbad:fr<0\/to_<fr\/(ln:Int)<to_):
 Calls Tryz.prog 34 #[.string s,.slice la ln lc,.int .i64 fr,.int .i64 to_,f] W (AO (.error .die) W):=by
 have hmf: ∀(fn:Fn) (first cap:Array Value) (w:World),(Instr.makeFunc fn first cap).run Tryz.prog w=.ok (.func fn first cap) w:=fun _ _ _ _=>rfl
 have HBW:Hid (Below W.heap.size W (((W.alloc (.cells #[.int .i64 0,.string ⟨#[]⟩,.slice none 0 0,.bool false,.bool false,.slice none 0 0,.slice none 0 0] 29)).alloc (.cells #[.int .i64 0] 3)).alloc (.cells #[.int .i64 0] 3))):=zh (((qa1 _ _).trans ((qa1 _ _).mono (by simp))).trans ((qa1 _ _).mono (by simp;omega)))
 have r1:(((W.alloc (.cells #[.int .i64 0,.string ⟨#[]⟩,.slice none 0 0,.bool false,.bool false,.slice none 0 0,.slice none 0 0] 29)).alloc (.cells #[.int .i64 0] 3)).alloc (.cells #[.int .i64 0] 3)).heap[W.heap.size]?=some (.cells #[.int .i64 0,.string ⟨#[]⟩,.slice none 0 0,.bool false,.bool false,.slice none 0 0,.slice none 0 0] 29 (0,0)):=(zB _ _ _ (by simp;omega)).trans ((zB _ _ _ (by simp)).trans (qaa W _))
 have r2:(((W.alloc (.cells #[.int .i64 0,.string ⟨#[]⟩,.slice none 0 0,.bool false,.bool false,.slice none 0 0,.slice none 0 0] 29)).alloc (.cells #[.int .i64 0] 3)).alloc (.cells #[.int .i64 0] 3)).heap[W.heap.size+1]?=some (.cells #[.int .i64 0] 3 (0,0)):=(zB _ _ _ (by simp)).trans (by have h9:=qaa (W.alloc (.cells #[.int .i64 0,.string ⟨#[]⟩,.slice none 0 0,.bool false,.bool false,.slice none 0 0,.slice none 0 0] 29)) (.cells #[.int .i64 0] 3);rwa [show(W.alloc (.cells #[.int .i64 0,.string ⟨#[]⟩,.slice none 0 0,.bool false,.bool false,.slice none 0 0,.slice none 0 0] 29)).heap.size=W.heap.size+1 by simp]at h9)
 have r3:(((W.alloc (.cells #[.int .i64 0,.string ⟨#[]⟩,.slice none 0 0,.bool false,.bool false,.slice none 0 0,.slice none 0 0] 29)).alloc (.cells #[.int .i64 0] 3)).alloc (.cells #[.int .i64 0] 3)).heap[W.heap.size+1+1]?=some (.cells #[.int .i64 0] 3 (0,0)):=by have h9:=qaa ((W.alloc (.cells #[.int .i64 0,.string ⟨#[]⟩,.slice none 0 0,.bool false,.bool false,.slice none 0 0,.slice none 0 0] 29)).alloc (.cells #[.int .i64 0] 3)) (.cells #[.int .i64 0] 3);rwa [show((W.alloc (.cells #[.int .i64 0,.string ⟨#[]⟩,.slice none 0 0,.bool false,.bool false,.slice none 0 0,.slice none 0 0] 29)).alloc (.cells #[.int .i64 0] 3)).heap.size=W.heap.size+1+1 by simp]at h9
 have h1:=((Below.refl (((W.alloc (.cells #[.int .i64 0,.string ⟨#[]⟩,.slice none 0 0,.bool false,.bool false,.slice none 0 0,.slice none 0 0] 29)).alloc (.cells #[.int .i64 0] 3)).alloc (.cells #[.int .i64 0] 3)).heap.size (((W.alloc (.cells #[.int .i64 0,.string ⟨#[]⟩,.slice none 0 0,.bool false,.bool false,.slice none 0 0,.slice none 0 0] 29)).alloc (.cells #[.int .i64 0] 3)).alloc (.cells #[.int .i64 0] 3))).block W.heap.size (by simp;omega)).trans r1
 have h2:=((Below.refl (((W.alloc (.cells #[.int .i64 0,.string ⟨#[]⟩,.slice none 0 0,.bool false,.bool false,.slice none 0 0,.slice none 0 0] 29)).alloc (.cells #[.int .i64 0] 3)).alloc (.cells #[.int .i64 0] 3)).heap.size (((W.alloc (.cells #[.int .i64 0,.string ⟨#[]⟩,.slice none 0 0,.bool false,.bool false,.slice none 0 0,.slice none 0 0] 29)).alloc (.cells #[.int .i64 0] 3)).alloc (.cells #[.int .i64 0] 3))).block (W.heap.size+1) (by simp)).trans r2
 have h3:=((Below.refl (((W.alloc (.cells #[.int .i64 0,.string ⟨#[]⟩,.slice none 0 0,.bool false,.bool false,.slice none 0 0,.slice none 0 0] 29)).alloc (.cells #[.int .i64 0] 3)).alloc (.cells #[.int .i64 0] 3)).heap.size (((W.alloc (.cells #[.int .i64 0,.string ⟨#[]⟩,.slice none 0 0,.bool false,.bool false,.slice none 0 0,.slice none 0 0] 29)).alloc (.cells #[.int .i64 0] 3)).alloc (.cells #[.int .i64 0] 3))).block (W.heap.size+1+1) (by simp)).trans r3
 have HH1:=zh h1
 have HH2:=zh h2
 have HH3:=zh h3
 clear r1 r2 r3 h1 h2 h3
 have walk: ∀(P:Prop),P->P:=fun _ h=>h
 by_cases a1:fr<0
 ·have d1:decide (fr≥0)=false:=decide_eq_false (by omega)
  have e1: ¬(0:Int)<=fr:=by omega
  clear hbad a1 walk
  go_enter_defers Tryz.func34,Tryz.ntmps34
  go_wp2_with fail
  refine(qat _).mono ?_
  rintro e w9 ⟨⟨u,pv,rfl⟩,rfl⟩
  go_wp2_with fail
  refine leaves_cons (f:=60) (args:= #[.pointer (some ⟨W.heap.size,0,none⟩),.pointer (some ⟨W.heap.size+1,0,none⟩),.pointer (some ⟨W.heap.size+1+1,0,none⟩)]) (by simp) (by simp[go_sem]) ?_
  refine(qdx W.heap.size (W.heap.size+1) (W.heap.size+1+1) _ _ _ _ HH1.out HH2.out HH3.out (by omega) (by omega)).mono ?_
  rintro e u' w'' ⟨rfl,rfl,hnd,h2,h3,hbl⟩
  obtain⟨m0,m1,m2,m3,m4,m5,m6⟩:=hnd.cells
  have c2:=(qaq h2).1
  have c3:=(qaq h3).1
  have HBF:Hid (Below W.heap.size W w''):=zh (HBW.out.trans hbl)
  clear hnd h2 h3 hbl
  simp[Leaves,settle,results,Tryz.results34,go_sem,m0,m1,m2,m3,m4,m5,m6,c2,c3]
  exact⟨HBF.out,rfl⟩
 by_cases a2:to_<fr
 ·have d1:decide (fr≥0)=true:=decide_eq_true (by omega)
  have e1:(0:Int)<=fr:=by omega
  have d2:decide (fr<=to_)=false:=decide_eq_false (by omega)
  have e2: ¬fr<=to_:=by omega
  clear hbad a1 a2 walk
  go_enter_defers Tryz.func34,Tryz.ntmps34
  go_wp2_with fail
  refine(qat _).mono ?_
  rintro e w9 ⟨⟨u,pv,rfl⟩,rfl⟩
  go_wp2_with fail
  refine leaves_cons (f:=60) (args:= #[.pointer (some ⟨W.heap.size,0,none⟩),.pointer (some ⟨W.heap.size+1,0,none⟩),.pointer (some ⟨W.heap.size+1+1,0,none⟩)]) (by simp) (by simp[go_sem]) ?_
  refine(qdx W.heap.size (W.heap.size+1) (W.heap.size+1+1) _ _ _ _ HH1.out HH2.out HH3.out (by omega) (by omega)).mono ?_
  rintro e u' w'' ⟨rfl,rfl,hnd,h2,h3,hbl⟩
  obtain⟨m0,m1,m2,m3,m4,m5,m6⟩:=hnd.cells
  have c2:=(qaq h2).1
  have c3:=(qaq h3).1
  have HBF:Hid (Below W.heap.size W w''):=zh (HBW.out.trans hbl)
  clear hnd h2 h3 hbl
  simp[Leaves,settle,results,Tryz.results34,go_sem,m0,m1,m2,m3,m4,m5,m6,c2,c3]
  exact⟨HBF.out,rfl⟩
 ·have d1:decide (fr≥0)=true:=decide_eq_true (by omega)
  have e1:(0:Int)<=fr:=by omega
  have d2:decide (fr<=to_)=true:=decide_eq_true (by omega)
  have e2:fr<=to_:=by omega
  have d3:decide (to_<=(ln:Int))=false:=decide_eq_false (by omega)
  have e3: ¬to_<=(ln:Int):=by omega
  clear hbad a1 a2 walk
  go_enter_defers Tryz.func34,Tryz.ntmps34
  go_wp2_with fail
  refine(qat _).mono ?_
  rintro e w9 ⟨⟨u,pv,rfl⟩,rfl⟩
  go_wp2_with fail
  refine leaves_cons (f:=60) (args:= #[.pointer (some ⟨W.heap.size,0,none⟩),.pointer (some ⟨W.heap.size+1,0,none⟩),.pointer (some ⟨W.heap.size+1+1,0,none⟩)]) (by simp) (by simp[go_sem]) ?_
  refine(qdx W.heap.size (W.heap.size+1) (W.heap.size+1+1) _ _ _ _ HH1.out HH2.out HH3.out (by omega) (by omega)).mono ?_
  rintro e u' w'' ⟨rfl,rfl,hnd,h2,h3,hbl⟩
  obtain⟨m0,m1,m2,m3,m4,m5,m6⟩:=hnd.cells
  have c2:=(qaq h2).1
  have c3:=(qaq h3).1
  have HBF:Hid (Below W.heap.size W w''):=zh (HBW.out.trans hbl)
  clear hnd h2 h3 hbl
  simp[Leaves,settle,results,Tryz.results34,go_sem,m0,m1,m2,m3,m4,m5,m6,c2,c3]
  exact⟨HBF.out,rfl⟩
theorem res7(b1:Nat){w:World}{k:Int}{t:ByteArray}{lv nv tv:Value}{br bl:Bool}(k0:NdB w b1 0 ⟨#[]⟩ (.slice none 0 0) false false (.slice none 0 0) (.slice none 0 0)):NdB (((((((w.setCell ⟨b1,0,none⟩ (.int .i64 k)).setCell ⟨b1,1,none⟩ (.string t)).setCell ⟨b1,2,none⟩ (lv)).setCell ⟨b1,3,none⟩ (.bool br)).setCell ⟨b1,4,none⟩ (.bool bl)).setCell ⟨b1,5,none⟩ (nv)).setCell ⟨b1,6,none⟩ (tv)) b1 k t lv br bl nv tv/\Below b1 w (((((((w.setCell ⟨b1,0,none⟩ (.int .i64 k)).setCell ⟨b1,1,none⟩ (.string t)).setCell ⟨b1,2,none⟩ (lv)).setCell ⟨b1,3,none⟩ (.bool br)).setCell ⟨b1,4,none⟩ (.bool bl)).setCell ⟨b1,5,none⟩ (nv)).setCell ⟨b1,6,none⟩ (tv))/\ ∀q,q≠b1->(((((((w.setCell ⟨b1,0,none⟩ (.int .i64 k)).setCell ⟨b1,1,none⟩ (.string t)).setCell ⟨b1,2,none⟩ (lv)).setCell ⟨b1,3,none⟩ (.bool br)).setCell ⟨b1,4,none⟩ (.bool bl)).setCell ⟨b1,5,none⟩ (nv)).setCell ⟨b1,6,none⟩ (tv)).heap[q]?=w.heap[q]?:=by
 have l0:Below b1 w w:=Below.refl _ _
 have k1:NdB (w.setCell ⟨b1,0,none⟩ (.int .i64 k)) b1 k ⟨#[]⟩ (.slice none 0 0) false false (.slice none 0 0) (.slice none 0 0):=by unfold NdB;simpa using k0.set 0 (.int .i64 k)
 have l1:Below b1 w (w.setCell ⟨b1,0,none⟩ (.int .i64 k)):=l0.setCell (show b1<=b1 from zG b1) _
 have k2:NdB ((w.setCell ⟨b1,0,none⟩ (.int .i64 k)).setCell ⟨b1,1,none⟩ (.string t)) b1 k t (.slice none 0 0) false false (.slice none 0 0) (.slice none 0 0):=by unfold NdB;simpa using k1.set 1 (.string t)
 have l2:Below b1 w ((w.setCell ⟨b1,0,none⟩ (.int .i64 k)).setCell ⟨b1,1,none⟩ (.string t)):=l1.setCell (show b1<=b1 from zG b1) _
 have k3:NdB (((w.setCell ⟨b1,0,none⟩ (.int .i64 k)).setCell ⟨b1,1,none⟩ (.string t)).setCell ⟨b1,2,none⟩ (lv)) b1 k t lv false false (.slice none 0 0) (.slice none 0 0):=by unfold NdB;simpa using k2.set 2 (lv)
 have l3:Below b1 w (((w.setCell ⟨b1,0,none⟩ (.int .i64 k)).setCell ⟨b1,1,none⟩ (.string t)).setCell ⟨b1,2,none⟩ (lv)):=l2.setCell (show b1<=b1 from zG b1) _
 have k4:NdB ((((w.setCell ⟨b1,0,none⟩ (.int .i64 k)).setCell ⟨b1,1,none⟩ (.string t)).setCell ⟨b1,2,none⟩ (lv)).setCell ⟨b1,3,none⟩ (.bool br)) b1 k t lv br false (.slice none 0 0) (.slice none 0 0):=by unfold NdB;simpa using k3.set 3 (.bool br)
 have l4:Below b1 w ((((w.setCell ⟨b1,0,none⟩ (.int .i64 k)).setCell ⟨b1,1,none⟩ (.string t)).setCell ⟨b1,2,none⟩ (lv)).setCell ⟨b1,3,none⟩ (.bool br)):=l3.setCell (show b1<=b1 from zG b1) _
 have k5:NdB (((((w.setCell ⟨b1,0,none⟩ (.int .i64 k)).setCell ⟨b1,1,none⟩ (.string t)).setCell ⟨b1,2,none⟩ (lv)).setCell ⟨b1,3,none⟩ (.bool br)).setCell ⟨b1,4,none⟩ (.bool bl)) b1 k t lv br bl (.slice none 0 0) (.slice none 0 0):=by unfold NdB;simpa using k4.set 4 (.bool bl)
 have l5:Below b1 w (((((w.setCell ⟨b1,0,none⟩ (.int .i64 k)).setCell ⟨b1,1,none⟩ (.string t)).setCell ⟨b1,2,none⟩ (lv)).setCell ⟨b1,3,none⟩ (.bool br)).setCell ⟨b1,4,none⟩ (.bool bl)):=l4.setCell (show b1<=b1 from zG b1) _
 have k6:NdB ((((((w.setCell ⟨b1,0,none⟩ (.int .i64 k)).setCell ⟨b1,1,none⟩ (.string t)).setCell ⟨b1,2,none⟩ (lv)).setCell ⟨b1,3,none⟩ (.bool br)).setCell ⟨b1,4,none⟩ (.bool bl)).setCell ⟨b1,5,none⟩ (nv)) b1 k t lv br bl nv (.slice none 0 0):=by unfold NdB;simpa using k5.set 5 (nv)
 have l6:Below b1 w ((((((w.setCell ⟨b1,0,none⟩ (.int .i64 k)).setCell ⟨b1,1,none⟩ (.string t)).setCell ⟨b1,2,none⟩ (lv)).setCell ⟨b1,3,none⟩ (.bool br)).setCell ⟨b1,4,none⟩ (.bool bl)).setCell ⟨b1,5,none⟩ (nv)):=l5.setCell (show b1<=b1 from zG b1) _
 have k7:NdB (((((((w.setCell ⟨b1,0,none⟩ (.int .i64 k)).setCell ⟨b1,1,none⟩ (.string t)).setCell ⟨b1,2,none⟩ (lv)).setCell ⟨b1,3,none⟩ (.bool br)).setCell ⟨b1,4,none⟩ (.bool bl)).setCell ⟨b1,5,none⟩ (nv)).setCell ⟨b1,6,none⟩ (tv)) b1 k t lv br bl nv tv:=by unfold NdB;simpa using k6.set 6 (tv)
 have l7:Below b1 w (((((((w.setCell ⟨b1,0,none⟩ (.int .i64 k)).setCell ⟨b1,1,none⟩ (.string t)).setCell ⟨b1,2,none⟩ (lv)).setCell ⟨b1,3,none⟩ (.bool br)).setCell ⟨b1,4,none⟩ (.bool bl)).setCell ⟨b1,5,none⟩ (nv)).setCell ⟨b1,6,none⟩ (tv)):=l6.setCell (show b1<=b1 from zG b1) _
 refine⟨k7,l7,fun q hq=>?_⟩
 refine(zC _ _ _ _ (fun e=>hq e)).trans ?_
 refine(zC _ _ _ _ (fun e=>hq e)).trans ?_
 refine(zC _ _ _ _ (fun e=>hq e)).trans ?_
 refine(zC _ _ _ _ (fun e=>hq e)).trans ?_
 refine(zC _ _ _ _ (fun e=>hq e)).trans ?_
 refine(zC _ _ _ _ (fun e=>hq e)).trans ?_
 refine(zC _ _ _ _ (fun e=>hq e)).trans ?_
 rfl
theorem qp6{W:World}{s:ByteArray}{la:Option Addr}{ln lc:Nat}{fr to_ lv:Int}{R:Rs PM}(hns:R≠ .error .stuck)
 (ha:Calls Tryz.prog 34 #[.string s,.slice la ln lc,.int .i64 fr,.int .i64 to_,.func (.func 35) #[] #[.pointer (some ⟨W.heap.size,0,none⟩)]] ((W.alloc (.cells #[.int .i64 lv] 3)).alloc (.cells #[.int .i64 0,.string ⟨#[]⟩,.slice none 0 0,.bool false,.bool false,.slice none 0 0,.slice none 0 0] 29)) (AO R ((W.alloc (.cells #[.int .i64 lv] 3)).alloc (.cells #[.int .i64 0,.string ⟨#[]⟩,.slice none 0 0,.bool false,.bool false,.slice none 0 0,.slice none 0 0] 29)))):
 Calls Tryz.prog 16 #[.string s,.slice la ln lc,.int .i64 fr,.int .i64 to_,.int .i64 lv] W (AO R W):=by
 have hmf: ∀(fn:Fn) (first cap:Array Value) (w:World),(Instr.makeFunc fn first cap).run Tryz.prog w=.ok (.func fn first cap) w:=fun _ _ _ _=>rfl
 have HA:=zh ha
 have HNS:=zh hns
 have HBW:Hid (Below W.heap.size W ((W.alloc (.cells #[.int .i64 lv] 3)).alloc (.cells #[.int .i64 0,.string ⟨#[]⟩,.slice none 0 0,.bool false,.bool false,.slice none 0 0,.slice none 0 0] 29))):=zh ((qa1 _ _).trans ((qa1 _ _).mono (by simp)))
 clear ha hns
 go_enter Tryz.func16,Tryz.ntmps16
 go_wp2_with fail
 refine HA.out.mono ?_
 rintro e w1 ⟨hb,he⟩
 have HB:=zh hb
 have r1:((W.alloc (.cells #[.int .i64 lv] 3)).alloc (.cells #[.int .i64 0,.string ⟨#[]⟩,.slice none 0 0,.bool false,.bool false,.slice none 0 0,.slice none 0 0] 29)).heap[W.heap.size+1]?=some (.cells #[.int .i64 0,.string ⟨#[]⟩,.slice none 0 0,.bool false,.bool false,.slice none 0 0,.slice none 0 0] 29 (0,0)):=by have h9:=qaa (W.alloc (.cells #[.int .i64 lv] 3)) (.cells #[.int .i64 0,.string ⟨#[]⟩,.slice none 0 0,.bool false,.bool false,.slice none 0 0,.slice none 0 0] 29);rwa [show(W.alloc (.cells #[.int .i64 lv] 3)).heap.size=W.heap.size+1 by simp]at h9
 have h1:NdB w1 (W.heap.size+1) 0 ⟨#[]⟩ (.slice none 0 0) false false (.slice none 0 0) (.slice none 0 0):=(HB.out.block (W.heap.size+1) (by simp)).trans r1
 obtain⟨m0,m1,m2,m3,m4,m5,m6⟩:=h1.cells
 have f0:=h1.frz 0
 have f1:=h1.frz 1
 have f2:=h1.frz 2
 have f3:=h1.frz 3
 have f4:=h1.frz 4
 have f5:=h1.frz 5
 have f6:=h1.frz 6
 have HH1:=zh h1
 clear hb r1 h1 hmf
 cases R with
 | error b=>
  cases b with
  | stuck=>exact absurd rfl HNS.out
  | die=>
   obtain rfl:=he
   go_wp2_with fail
   have hres:=res7 (W.heap.size+1) (w:=w1) (k:=0) (t:=⟨#[]⟩) (lv:=.slice none 0 0) (br:=false) (bl:=false) (nv:=.slice none 0 0) (tv:=.slice none 0 0) HH1.out
   generalize(((((((w1.setCell ⟨W.heap.size+1,0,none⟩ (.int .i64 0)).setCell ⟨W.heap.size+1,1,none⟩ (.string ⟨#[]⟩)).setCell ⟨W.heap.size+1,2,none⟩ (.slice none 0 0)).setCell ⟨W.heap.size+1,3,none⟩ (.bool false)).setCell ⟨W.heap.size+1,4,none⟩ (.bool false)).setCell ⟨W.heap.size+1,5,none⟩ (.slice none 0 0)).setCell ⟨W.heap.size+1,6,none⟩ (.slice none 0 0))=wf at hres⊢
   clear m0 m1 m2 m3 m4 m5 m6 f0 f1 f2 f3 f4 f5 f6
   obtain⟨k1,k2,k3⟩:=hres
   obtain⟨m0,m1,m2,m3,m4,m5,m6⟩:=k1.cells
   refine bodyPost_ret (v:=.tuple #[.agg #[.int .i64 0,.string ⟨#[]⟩,.slice none 0 0,.bool false,.bool false,.slice none 0 0,.slice none 0 0],.int .i64 0,.int .i64 8]) (by simp[results,Tryz.results16,go_sem,m0,m1,m2,m3,m4,m5,m6]) rfl ⟨(HBW.out.trans (HB.out.mono (by simp;omega))).trans (k2.mono (by omega)),rfl⟩
 | ok τ=>
  obtain⟨c,x,j,hj,hx,rfl,hn⟩:=he
  obtain⟨c,rfl⟩: ∃l:List Value,c=l.toArray:=⟨c.toList,by simp⟩
  simp only at hn
  cases hn with
  | mk k t l br bl no ta lv nv tv cs q1 q2 q3 q4=>
   have HQ:=zh (NdIn.mk k t l br bl no ta lv nv tv cs q1 q2 q3 q4)
   obtain⟨la1,la3,rfl,-⟩:=q3
   obtain⟨na1,na3,rfl,-⟩:=q1
   obtain⟨va1,va3,rfl,-⟩:=q2
   clear q4
   have HJ:=zh hj
   have HX:=zh hx
   clear hj hx
   go_wp2_with fail
   have hres:=res7 (W.heap.size+1) (w:=w1) (k:=k) (t:=t) (lv:=.slice la1 l.length la3) (br:=br) (bl:=bl) (nv:=.slice na1 no.length na3) (tv:=.slice va1 ta.length va3) HH1.out
   generalize(((((((w1.setCell ⟨W.heap.size+1,0,none⟩ (.int .i64 k)).setCell ⟨W.heap.size+1,1,none⟩ (.string t)).setCell ⟨W.heap.size+1,2,none⟩ (.slice la1 l.length la3)).setCell ⟨W.heap.size+1,3,none⟩ (.bool br)).setCell ⟨W.heap.size+1,4,none⟩ (.bool bl)).setCell ⟨W.heap.size+1,5,none⟩ (.slice na1 no.length na3)).setCell ⟨W.heap.size+1,6,none⟩ (.slice va1 ta.length va3))=wf at hres⊢
   clear m0 m1 m2 m3 m4 m5 m6 f0 f1 f2 f3 f4 f5 f6
   obtain⟨k1,k2,k3⟩:=hres
   obtain⟨m0,m1,m2,m3,m4,m5,m6⟩:=k1.cells
   refine bodyPost_ret (v:=.tuple #[.agg #[.int .i64 k,.string t,.slice la1 l.length la3,.bool br,.bool bl,.slice na1 no.length na3,.slice va1 ta.length va3],.int .i64 (τ.i:Int),.int .i64 0]) (by simp[results,Tryz.results16,go_sem,m0,m1,m2,m3,m4,m5,m6]) rfl ⟨(HBW.out.trans (HB.out.mono (by simp;omega))).trans (k2.mono (by omega)),_,_,j,HJ.out,HX.out,rfl,?_⟩
   exact(HQ.out.keep (W':=wf) ⟨k2.size,fun q hq hl=>k3 q (by simp at hq;omega)⟩).weak (fun q hq _=>by simp at hq;omega)
theorem qoo{W:World}{s:ByteArray}{la:Option Addr}{ln lc:Nat}{fr to_:Int}{R:Rs PM}(hns:R≠ .error .stuck)
 (ha:Calls Tryz.prog 34 #[.string s,.slice la ln lc,.int .i64 fr,.int .i64 to_,.func (.func 43) #[] #[]] (W.alloc (.cells #[.int .i64 0,.string ⟨#[]⟩,.slice none 0 0,.bool false,.bool false,.slice none 0 0,.slice none 0 0] 29)) (AO R (W.alloc (.cells #[.int .i64 0,.string ⟨#[]⟩,.slice none 0 0,.bool false,.bool false,.slice none 0 0,.slice none 0 0] 29)))):
 Calls Tryz.prog 22 #[.string s,.slice la ln lc,.int .i64 fr,.int .i64 to_] W (AO R W):=by
 have hmf: ∀(fn:Fn) (first cap:Array Value) (w:World),(Instr.makeFunc fn first cap).run Tryz.prog w=.ok (.func fn first cap) w:=fun _ _ _ _=>rfl
 have HA:=zh ha
 have HNS:=zh hns
 have HBW:Hid (Below W.heap.size W (W.alloc (.cells #[.int .i64 0,.string ⟨#[]⟩,.slice none 0 0,.bool false,.bool false,.slice none 0 0,.slice none 0 0] 29))):=zh (qa1 _ _)
 clear ha hns
 go_enter Tryz.func22,Tryz.ntmps22
 go_wp2_with fail
 refine HA.out.mono ?_
 rintro e w1 ⟨hb,he⟩
 have HB:=zh hb
 have r1:(W.alloc (.cells #[.int .i64 0,.string ⟨#[]⟩,.slice none 0 0,.bool false,.bool false,.slice none 0 0,.slice none 0 0] 29)).heap[W.heap.size]?=some (.cells #[.int .i64 0,.string ⟨#[]⟩,.slice none 0 0,.bool false,.bool false,.slice none 0 0,.slice none 0 0] 29 (0,0)):=qaa W (.cells #[.int .i64 0,.string ⟨#[]⟩,.slice none 0 0,.bool false,.bool false,.slice none 0 0,.slice none 0 0] 29)
 have h1:NdB w1 W.heap.size 0 ⟨#[]⟩ (.slice none 0 0) false false (.slice none 0 0) (.slice none 0 0):=(HB.out.block W.heap.size (by simp)).trans r1
 obtain⟨m0,m1,m2,m3,m4,m5,m6⟩:=h1.cells
 have f0:=h1.frz 0
 have f1:=h1.frz 1
 have f2:=h1.frz 2
 have f3:=h1.frz 3
 have f4:=h1.frz 4
 have f5:=h1.frz 5
 have f6:=h1.frz 6
 have HH1:=zh h1
 clear hb r1 h1 hmf
 cases R with
 | error b=>
  cases b with
  | stuck=>exact absurd rfl HNS.out
  | die=>
   obtain rfl:=he
   go_wp2_with fail
   have hres:=res7 W.heap.size (w:=w1) (k:=0) (t:=⟨#[]⟩) (lv:=.slice none 0 0) (br:=false) (bl:=false) (nv:=.slice none 0 0) (tv:=.slice none 0 0) HH1.out
   generalize(((((((w1.setCell ⟨W.heap.size,0,none⟩ (.int .i64 0)).setCell ⟨W.heap.size,1,none⟩ (.string ⟨#[]⟩)).setCell ⟨W.heap.size,2,none⟩ (.slice none 0 0)).setCell ⟨W.heap.size,3,none⟩ (.bool false)).setCell ⟨W.heap.size,4,none⟩ (.bool false)).setCell ⟨W.heap.size,5,none⟩ (.slice none 0 0)).setCell ⟨W.heap.size,6,none⟩ (.slice none 0 0))=wf at hres⊢
   clear m0 m1 m2 m3 m4 m5 m6 f0 f1 f2 f3 f4 f5 f6
   obtain⟨k1,k2,k3⟩:=hres
   obtain⟨m0,m1,m2,m3,m4,m5,m6⟩:=k1.cells
   refine bodyPost_ret (v:=.tuple #[.agg #[.int .i64 0,.string ⟨#[]⟩,.slice none 0 0,.bool false,.bool false,.slice none 0 0,.slice none 0 0],.int .i64 0,.int .i64 8]) (by simp[results,Tryz.results22,go_sem,m0,m1,m2,m3,m4,m5,m6]) rfl ⟨(HBW.out.trans (HB.out.mono (by simp))).trans k2,rfl⟩
 | ok τ=>
  obtain⟨c,x,j,hj,hx,rfl,hn⟩:=he
  obtain⟨c,rfl⟩: ∃l:List Value,c=l.toArray:=⟨c.toList,by simp⟩
  simp only at hn
  cases hn with
  | mk k t l br bl no ta lv nv tv cs q1 q2 q3 q4=>
   have HQ:=zh (NdIn.mk k t l br bl no ta lv nv tv cs q1 q2 q3 q4)
   obtain⟨la1,la3,rfl,-⟩:=q3
   obtain⟨na1,na3,rfl,-⟩:=q1
   obtain⟨va1,va3,rfl,-⟩:=q2
   clear q4
   have HJ:=zh hj
   have HX:=zh hx
   clear hj hx
   go_wp2_with fail
   have hres:=res7 W.heap.size (w:=w1) (k:=k) (t:=t) (lv:=.slice la1 l.length la3) (br:=br) (bl:=bl) (nv:=.slice na1 no.length na3) (tv:=.slice va1 ta.length va3) HH1.out
   generalize(((((((w1.setCell ⟨W.heap.size,0,none⟩ (.int .i64 k)).setCell ⟨W.heap.size,1,none⟩ (.string t)).setCell ⟨W.heap.size,2,none⟩ (.slice la1 l.length la3)).setCell ⟨W.heap.size,3,none⟩ (.bool br)).setCell ⟨W.heap.size,4,none⟩ (.bool bl)).setCell ⟨W.heap.size,5,none⟩ (.slice na1 no.length na3)).setCell ⟨W.heap.size,6,none⟩ (.slice va1 ta.length va3))=wf at hres⊢
   clear m0 m1 m2 m3 m4 m5 m6 f0 f1 f2 f3 f4 f5 f6
   obtain⟨k1,k2,k3⟩:=hres
   obtain⟨m0,m1,m2,m3,m4,m5,m6⟩:=k1.cells
   refine bodyPost_ret (v:=.tuple #[.agg #[.int .i64 k,.string t,.slice la1 l.length la3,.bool br,.bool bl,.slice na1 no.length na3,.slice va1 ta.length va3],.int .i64 (τ.i:Int),.int .i64 0]) (by simp[results,Tryz.results22,go_sem,m0,m1,m2,m3,m4,m5,m6]) rfl ⟨(HBW.out.trans (HB.out.mono (by simp))).trans k2,_,_,j,HJ.out,HX.out,rfl,?_⟩
   exact(HQ.out.keep (W':=wf) ⟨k2.size,fun q hq hl=>k3 q (by simp at hq;omega)⟩).weak (fun q hq _=>by simp at hq;omega)
def RwIn(W:World)(P:Nat->Prop)(v:Value)(l:List Nd):Prop:= ∃cs,SlIn W P v l.length cs/\ ∀i x,l[i]?=some x->NdIn W P (cs i) x
theorem RwIn.keep{W W':World}{P:Nat->Prop}{v:Value}{l:List Nd}(h:RwIn W P v l)(hk:Keeps P W W'):RwIn W' P v l:=by
 obtain⟨cs,h1,h2⟩:=h
 exact⟨cs,h1.keep hk,fun i x hx=>(h2 i x hx).keep hk⟩
structure TkR (W:World) (v:Value) (T:List Tok):Prop where
 row:TRow W v T
 cp: ∀a l c,v=.slice a l c->l<=c
 nf: ∀j,v.ownBlock=some j->j<W.heap.size
theorem TkR.below{W W':World}{v:Value}{T:List Tok}(h:TkR W v T)(hb:Below W.heap.size W W'):TkR W' v T:=⟨h.row.below hb,h.cp,fun j e=>zH (h.nf j e) hb.size⟩
theorem tkR_of{W:World}{base:Nat}{v:Value}{s:ByteArray}{L:List Tk3}(h:W.ownsRow base 34 3 v L.length (qsx s L)):TkR W v (qcx s L):=by
 refine⟨trow_of (tkAt_of h),?_,?_⟩
 ·obtain⟨-,⟨rfl,-⟩ | ⟨g,cap,cur,rfl,hb,hg,hn,hc,hz,ht⟩⟩:=h
  ·intro a l c e
   simp only[Value.slice.injEq]at e
   omega
  ·intro a l c e
   simp only[Value.slice.injEq]at e
   omega
 ·obtain⟨-,⟨rfl,-⟩ | ⟨g,cap,cur,rfl,hb,hg,hn,hc,hz,ht⟩⟩:=h
  ·intro j e;cases e
  ·intro j e
   have:j=g:=by simpa[Value.ownBlock]using e.symm
   subst this
   exact(Array.getElem?_eq_some_iff.1 hg).1
theorem qh1(s:ByteArray)(L:List Tk3)(c:Int)(h:qco s=(L,c))(hs:s.size<=1048576)(w:World):
 Calls Tryz.prog 15 #[.string s] w fun e w'=> ∃v,e=.returned (.tuple #[v,.int .i64 c])/\TkR w' v (qcx s L)/\Below w.heap.size w w':=by
 refine(qrs s hs w).mono ?_
 rintro e w' ⟨v,rfl,ho,hb⟩
 rw[h]at ho
 exact⟨v,by rw[h],tkR_of ho,hb⟩
theorem TRow.cut{W:World}{la:Option Addr}{ln lc:Nat}{T:List Tok}(h:TRow W (.slice la ln lc) T){n:Nat}(hn:n<=T.length):TRow W (.slice la n lc) (T.take n):=by
 obtain⟨a,cap,h1,h2⟩:=h
 simp only[Value.slice.injEq]at h1
 obtain⟨rfl,-,rfl⟩:=h1
 refine⟨la,lc,by rw[zF,Nat.min_eq_left hn],fun h0=>?_⟩
 rw[zF]at h0
 obtain⟨g,o,g1,g2,g3⟩:=h2 (by omega)
 refine⟨g,o,g1,g2,fun i x hx=>g3 i x ?_⟩
 rw[zE]at hx
 split at hx
 ·exact hx
 ·cases hx
theorem qpf{s:ByteArray}{L:List Tk3}(hsc: ∀(k:Nat) (x y:Tk3),L[k]?=some x->L[k+1]?=some y->x.2.1<x.2.2/\x.2.2<=y.2.1/\y.2.1<y.2.2/\y.2.2<=s.size)(hs:s.size<=1048576)(hl:L.length<=1048576)(v:Value)(k:Int)(w:World)(ht:TRow w v (qcx s L)):
 ∃X:ByteArray,X.size<=1048576/\nlr X 0 X.size=nls s L k/\Calls Tryz.prog 163 #[.string s,v,.int .i64 k] w fun e w'=>e=.returned (.string X)/\Below w.heap.size w w':=by
 by_cases h:k<1\/(L.length:Int)<=k
 ·refine⟨{ data:= #[] },by decide,?_,qks s v (qcx s L) k (by rw[qb8];exact h) w ht⟩
  rw[qz7 h];rfl
 ·obtain⟨i,rfl⟩: ∃i:Nat,k=(i:Int)+1:=⟨(k-1).toNat,by omega⟩
  obtain⟨x,hx⟩: ∃x,L[i]?=some x:=⟨_,zD (by omega)⟩
  obtain⟨y,hy⟩: ∃y,L[i+1]?=some y:=⟨_,zD (by omega)⟩
  obtain⟨p1,p2,p3,p4⟩:=hsc i x y hx hy
  refine⟨s.extract x.2.2 y.2.1,by rw[qd0 s _ _ (by omega)];omega,?_,?_⟩
  ·rw[nls_in hx hy];exact qla (by omega)
  ·exact qnd s hs v (qcx s L) (by rw[qb8];exact hl) i x.1 y.1 (s.extract x.2.1 x.2.2) (s.extract y.2.1 y.2.2) x.2.1 x.2.2 y.2.1 y.2.2 (qt0 hx) (qt0 hy) (by omega) p2 (by omega) p4 rfl rfl w ht
theorem qjm{s X:ByteArray}{v:Value}{k:Int}{n:Nat}{w:World}(hX:X.size<=1048576)(hn:nlr X 0 X.size=n)(hc:Calls Tryz.prog 163 #[.string s,v,.int .i64 k] w fun e w'=>e=.returned (.string X)/\Below w.heap.size w w'):
 Calls Tryz.prog 142 #[.string s,v,.int .i64 k] w fun e w'=>e=.returned (.bool (decide (1<=n)))/\Below w.heap.size w w':=by
 have HA:=zh (qji s X v k 1 (by omega) (by omega) hX w hc)
 rw[hn]at HA
 clear hc hn
 go_enter Tryz.func142,Tryz.ntmps142
 go_wp2_with fail
 refine HA.out.mono ?_
 rintro e w1 ⟨rfl,hb1⟩
 have B1:=zh hb1
 clear hb1
 go_wp2_with fail
 go_ret
 exact⟨rfl,B1.out⟩
theorem qkt{s X:ByteArray}{v:Value}{k:Int}{n:Nat}{w:World}(hX:X.size<=1048576)(hn:nlr X 0 X.size=n)(hc:Calls Tryz.prog 163 #[.string s,v,.int .i64 k] w fun e w'=>e=.returned (.string X)/\Below w.heap.size w w'):
 Calls Tryz.prog 110 #[.string s,v,.int .i64 k] w fun e w'=>e=.returned (.bool (decide (2<=n)))/\Below w.heap.size w w':=by
 have HA:=zh (qji s X v k 2 (by omega) (by omega) hX w hc)
 rw[hn]at HA
 clear hc hn
 go_enter Tryz.func110,Tryz.ntmps110
 go_wp2_with fail
 refine HA.out.mono ?_
 rintro e w1 ⟨rfl,hb1⟩
 have B1:=zh hb1
 clear hb1
 go_wp2_with fail
 go_ret
 exact⟨rfl,B1.out⟩
def qdq(s:ByteArray)(L:List Tk3)(n:Nat):Env:=⟨qcx s L,n,fun k=>nls s (L.take n) k⟩
def Row3(s:ByteArray)(L:List Tk3):Prop:=(∀(k:Nat) (x y:Tk3),L[k]?=some x->L[k+1]?=some y->x.2.1<x.2.2/\x.2.2<=y.2.1/\y.2.1<y.2.2/\y.2.2<=s.size)
theorem qj6{s:ByteArray}{L:List Tk3}{j:Nat}(h:sc s j=some L):Row3 s L:=qry L j h
theorem qt1(s:ByteArray)(L:List Tk3)(n:Nat):(qcx s L).take n=qcx s (L.take n):=by unfold qcx;rw[List.map_take]
theorem qu8{s:ByteArray}{L:List Tk3}(h3:Row3 s L)(hs:s.size<=1048576)(hl:L.length<=1048576)(n:Nat)(v:Value):qth s (qdq s L n) v:=by
 intro W k hk ht
 have ht:TRow W v ((qcx s L).take n):=ht
 rw[qt1]at ht
 have h4: ∀(k:Nat) (x y:Tk3),(L.take n)[k]?=some x->(L.take n)[k+1]?=some y->x.2.1<x.2.2/\x.2.2<=y.2.1/\y.2.1<y.2.2/\y.2.2<=s.size:=by
  intro k x y hx hy
  rw[zE]at hx hy
  split at hx
  ·split at hy
   ·exact h3 k x y hx hy
   ·cases hy
  ·cases hx
 obtain⟨X,h5,h6,h7⟩:=qpf h4 hs (by rw[zF];omega) v (k:Int) W ht
 exact⟨qjm h5 h6 h7,qkt h5 h6 h7⟩
def pE(s:ByteArray)(L:List Tk3)(c:Cmd)(fr to_:Int):Option Out:=
 if fr<0\/to_<fr\/(L.length:Int)<to_ then none else
 let o:=qft (qdq s L to_.toNat) (qk0 (qdq s L to_.toNat) c (pz fr.toNat)+1) c (pz fr.toNat)
 if o.p.bad then none else some o
def qta:Value:=.agg #[.int .i64 0,.string ⟨#[]⟩,.slice none 0 0,.bool false,.bool false,.slice none 0 0,.slice none 0 0]
def PA(o:Option Out)(W:World)(e:Ending)(W':World):Prop:=Below W.heap.size W W'/\
 match o with
 | some r=> ∃c,e=.returned (.tuple #[.agg c,.int .i64 (r.p.i:Int),.int .i64 0])/\NdIn W' (fun q=>W.heap.size<=q) c.toList r.x
 | none=>e=.returned (.tuple #[qta,.int .i64 0,.int .i64 8])
theorem qlx{s:ByteArray}{L:List Tk3}(hs:s.size<=1048576)(n k:Nat):((qdq s L n).tk k).2.1.size<=1048576:=by
 show((qcx s L).getD k tk0).2.1.size<=_
 rw[List.getD_eq_getElem?_getD]
 unfold qcx
 rw[List.getElem?_map]
 cases h:L[k]? with
 | none=>show(ByteArray.size ⟨#[]⟩)<=_;decide
 | some x=>
  show(s.extract x.2.1 x.2.2).size<=_
  rw[ByteArray.size_extract];omega
theorem qmq{E:Env}{σ1:PM}{bad:Bool}{Q:PM->Prop}(hz: ∀k,(E.tk k).2.1.size<=1048576)(hb:Bd E 2 σ1)(h:Ends E bad 0 0 σ1 Q)(hQ: ∀τ,Q τ->τ.k=[]):
 (bad=true/\qet E (pot E σ1+1) σ1=.error .die)\/(bad=false/\ ∃τ,qet E (pot E σ1+1) σ1=.ok τ/\Q τ):=by
 cases hbd:bad with
 | true=>exact .inl ⟨rfl,qqb hz hb (zG 2) (h.1 hbd)⟩
 | false=>
  obtain⟨τ,hg,-,hq⟩:=h.2 hbd
  exact .inr ⟨rfl,τ,qqc hz hb (zG 2) hg (hQ τ hq),hq⟩
theorem qhm{fr to_:Int}{ln:Nat}:(fr<0\/to_<fr\/(ln:Int)<to_)\/ ∃i n:Nat,fr=(i:Int)/\to_=(n:Int)/\i<=n/\n<=ln:=by
 by_cases h:fr<0\/to_<fr\/(ln:Int)<to_
 ·exact .inl h
 ·exact .inr ⟨fr.toNat,to_.toNat,by omega,by omega,by omega,by omega⟩
section
variable{s:ByteArray}{L:List Tk3}
theorem qqr{c:Cmd}{fr to_:Int}(h:fr<0\/to_<fr\/(L.length:Int)<to_):pE s L c fr to_=none:=if_pos h
theorem qld{c:Cmd}{i n:Nat}(hi:i<=n)(hn:n<=L.length):
 ∃o m,qal (qdq s L n) m c (pz i)=some o/\pE s L c i n=if o.p.bad then none else some o:=by
 refine⟨_,_,qrw (qdq s L n) (qk0 (qdq s L n) c (pz i)+1) c (pz i) (Nat.lt_succ_self _),?_⟩
 unfold pE
 rw[if_neg (by omega)]
 rfl
variable(hL:Row3 s L)(hs:s.size<=1048576)(hl:L.length<=1048576)
include hL hs hl
theorem qoj{W:World}{la:Option Addr}{lc i n:Nat}{K:FuncId}{fC:Array Value}{σ1:PM}{R:Rs PM}
 (ht:TkR W (.slice la L.length lc) (qcx s L)) (hi:i<=n) (hn:n<=L.length)
 (hen: ∀args w,(callFunc K args).run Tryz.prog w=.ok (.enter K args) w)
 (hpl: ∀(W0 W1:World) (g:Nat) (P:PLay),MM W0 g s (qdq s L n) (.slice la n lc) W1 P { i:=i,k:=[],n:=none,N:=[],C:=[] } ->Below W.heap.size W W1->Calls Tryz.prog K (#[.pointer (some ⟨g,0,none⟩)]++fC) W1 (SO (.ok σ1) W0 g s (qdq s L n) (.slice la n lc) W1 P 0 0))
 (hb:Bd (qdq s L n) 2 σ1) (hp:pot (qdq s L n) σ1<=2147483648) (hR:qet (qdq s L n) (pot (qdq s L n) σ1+1) σ1=R) (hns:R≠ .error .stuck) (hcur: ∀τ,R=.ok τ-> ∃j x,τ.n=some j/\τ.N[j]?=some (some x)):
 Calls Tryz.prog 34 #[.string s,.slice la L.length lc,.int .i64 (i:Int),.int .i64 (n:Int),.func (.func K) #[] fC] W (AO R W):=by
 have hc:=ht.cp _ _ _ rfl
 have h1:TRow W (.slice la n lc) ((qcx s L).take n):=ht.row.cut (by rw[qb8];exact hn)
 exact qnb (E:=qdq s L n) (ln:=L.length) h1 (by show n<=(qcx s L).length;rw[qb8];exact hn) (by show(qcx s L).length<=_;rw[qb8];exact hl) hi hn hc (qlx hs n) (qu8 hL hs hl n _) (fun j e=>ht.nf j (by cases la<;>exact e)) hen hpl hb (zG 2) (by omega) (by omega) hR hns hcur
theorem qew(v:Value)(fr to_ lv:Int)(W:World)(ht:TkR W v (qcx s L)):
 Calls Tryz.prog 16 #[.string s,v,.int .i64 fr,.int .i64 to_,.int .i64 lv] W (PA (pE s L (.expr lv) fr to_) W):=by
 obtain⟨la,lc,rfl,-⟩:=ht.row
 rw[qb8]at ht⊢
 have hbel:Below W.heap.size W ((W.alloc (.cells #[.int .i64 lv] 3)).alloc (.cells #[.int .i64 0,.string ⟨#[]⟩,.slice none 0 0,.bool false,.bool false,.slice none 0 0,.slice none 0 0] 29)):=(qa1 _ _).trans ((qa1 _ _).mono (by simp))
 rcases @qhm fr to_ L.length with hbad | ⟨i,n,rfl,rfl,hi,hn⟩
 ·rw[qqr hbad]
  exact(qp6 (by intro e;cases e) (qg5 hbad)).mono fun e w' h=>h
 ·obtain⟨o,m,hx,he⟩:=qld (s:=s) (c:=.expr lv) hi hn
  rw[he]
  have hE:=(qm8 (qdq s L n) m).1 lv i o hx [] none [] []
  have hb:Bd (qdq s L n) 2 ⟨i,[.expr lv],none,[],[]⟩:=Bd.start hi _ (fun x h=>by rw[List.mem_singleton.1 h];trivial) [] 2 (fun k x h=>by simp at h)
  have ht2:=ht.below hbel
  have key: ∀R,qet (qdq s L n) (pot (qdq s L n) ⟨i,[.expr lv],none,[],[]⟩+1) ⟨i,[.expr lv],none,[],[]⟩=R->R≠ .error .stuck->(∀τ,R=.ok τ-> ∃j x,τ.n=some j/\τ.N[j]?=some (some x))->Calls Tryz.prog 16 #[.string s,.slice la L.length lc,.int .i64 (i:Int),.int .i64 (n:Int),.int .i64 lv] W (AO R W):=by
   intro R hR hns hcur
   refine qp6 hns (qoj hL hs hl ht2 hi hn (by intro args w;go_simp) ?_ hb ?_ hR hns hcur)
   ·intro W0 W1 g P hm hbw
    refine qp8 hm (by simp) lv W.heap.size ?_
    have h9:(W.alloc (.cells #[.int .i64 lv] 3)).cell? ⟨W.heap.size,0,none⟩=some (.int .i64 lv):=(qaq (qaa W (.cells #[.int .i64 lv] 3))).1
    rw[hbw.cell (p:=⟨W.heap.size,0,none⟩) (by simp;omega)]
    exact(Below.cell (qa1 _ _) (p:=⟨W.heap.size,0,none⟩) (by simp)).trans h9
   ·show 4+0+1000*(n-i)+3<=_
    omega
  rcases qmq (qlx hs n) hb hE (fun τ h=>by obtain⟨j,N,C,rfl,-⟩:=h;rfl)with⟨h1,h2⟩ | ⟨h1,τ,h2,j,N,C,rfl,-,h3,-⟩
  ·rw[if_pos h1]
   exact(key _ h2 (by intro e;cases e) (by intro τ e;cases e)).mono fun e w' h=>h
  ·rw[if_neg (by rw[h1];decide)]
   refine(key _ h2 (by intro e;cases e) (by intro τ e;cases e;exact⟨j,_,rfl,h3⟩)).mono ?_
   rintro e w' ⟨hbw,c,x,j',hj,hx',rfl,hn'⟩
   obtain rfl:j=j':=by simpa using hj
   have h3':N[j]?=some (some x):=hx'
   rw[h3]at h3'
   obtain rfl:o.x=x:=by simpa using h3'
   exact⟨hbw,c,rfl,hn'⟩
theorem qqt(v:Value)(fr to_:Int)(W:World)(ht:TkR W v (qcx s L)):
 Calls Tryz.prog 22 #[.string s,v,.int .i64 fr,.int .i64 to_] W (PA (pE s L .body fr to_) W):=by
 obtain⟨la,lc,rfl,-⟩:=ht.row
 rw[qb8]at ht⊢
 have hbel:Below W.heap.size W (W.alloc (.cells #[.int .i64 0,.string ⟨#[]⟩,.slice none 0 0,.bool false,.bool false,.slice none 0 0,.slice none 0 0] 29)):=qa1 _ _
 rcases @qhm fr to_ L.length with hbad | ⟨i,n,rfl,rfl,hi,hn⟩
 ·rw[qqr hbad]
  exact(qoo (by intro e;cases e) (qg5 hbad)).mono fun e w' h=>h
 ·obtain⟨o,m,hx,he⟩:=qld (s:=s) (c:=.body) hi hn
  rw[he]
  have hE:=qg7 (K:=[]) (fun k _=>(qm8 (qdq s L n) k).1) hx none [] []
  have hb:Bd (qdq s L n) 2 ⟨i,[.body],none,[],[]⟩:=Bd.start hi _ (fun x h=>by rw[List.mem_singleton.1 h];trivial) [] 2 (fun k x h=>by simp at h)
  have ht2:=ht.below hbel
  have key: ∀R,qet (qdq s L n) (pot (qdq s L n) ⟨i,[.body],none,[],[]⟩+1) ⟨i,[.body],none,[],[]⟩=R->R≠ .error .stuck->(∀τ,R=.ok τ-> ∃j x,τ.n=some j/\τ.N[j]?=some (some x))->Calls Tryz.prog 22 #[.string s,.slice la L.length lc,.int .i64 (i:Int),.int .i64 (n:Int)] W (AO R W):=by
   intro R hR hns hcur
   refine qoo hns (qoj hL hs hl ht2 hi hn (by intro args w;go_simp) ?_ hb ?_ hR hns hcur)
   ·intro W0 W1 g P hm hbw
    exact qp7 hm (by simp)
   ·have h0:wt .body<=100:=by decide
    show wt .body+0+1000*(n-i)+3<=_
    omega
  rcases qmq (qlx hs n) hb hE (fun τ h=>by obtain⟨j,N,C,rfl,-⟩:=h;rfl)with⟨h1,h2⟩ | ⟨h1,τ,h2,j,N,C,rfl,-,h3,-⟩
  ·rw[if_pos h1]
   exact(key _ h2 (by intro e;cases e) (by intro τ e;cases e)).mono fun e w' h=>h
  ·rw[if_neg (by rw[h1];decide)]
   refine(key _ h2 (by intro e;cases e) (by intro τ e;cases e;exact⟨j,_,rfl,h3⟩)).mono ?_
   rintro e w' ⟨hbw,c,x,j',hj,hx',rfl,hn'⟩
   obtain rfl:j=j':=by simpa using hj
   have h3':N[j]?=some (some x):=hx'
   rw[h3]at h3'
   obtain rfl:o.x=x:=by simpa using h3'
   exact⟨hbw,c,rfl,hn'⟩
end
end Go.Proofs.YtdhadeeajgoedaaGreat
