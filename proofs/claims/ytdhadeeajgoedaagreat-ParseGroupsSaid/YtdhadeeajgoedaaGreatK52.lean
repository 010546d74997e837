/-
  What the claims stand on: PmCatch, PmFace, PmAttempt, PmAttBad.
-/
import Derived.Test.YtdhadeeajgoedaaGreatK51
import Derived.Defers
import Derived.Recover
import Derived.Laws.Pointers
set_option maxRecDepth 100000
set_option maxHeartbeats 4000000
set_option linter.unusedVariables false
set_option linter.unusedSimpArgs false
open Go.RowKit.Below renaming heap_alloc→zA,heap_setCell→zB
open Nat renaming le_refl→zC
namespace Go.Proofs.YtdhadeeajgoedaaGreat
open Go.RowKit Go.PlainAid
theorem qms(b1 b2 b3:Nat)(u:TypeId)(pv:Value)(older:List PanicEntry)(w:World)(hn:w.heap[b1]?=some (.cells #[.int .i64 0,.string ⟨#[]⟩,.slice none 0 0,.bool false,.bool false,.slice none 0 0,.slice none 0 0] 29 (0,0))){x y:Value}(h2:w.heap[b2]?=some (.cells #[x] 3 (0,0)))(h3:w.heap[b3]?=some (.cells #[y] 3 (0,0)))(h12:b1≠b2)(h13:b1≠b3)(h23:b2≠b3):
 CallsD Tryz.prog 60 #[.pointer (some ⟨b1,0,none⟩),.pointer (some ⟨b2,0,none⟩),.pointer (some ⟨b3,0,none⟩)] (.panicking ({ v:=.iface u pv,recovered:=false } ::older)) w fun e u' w'=>
  e=.returned (.tuple #[])/\u'=.panicking ({ v:=.iface u pv,recovered:=true } ::older)/\w'=((((((((w.setCell ⟨b1,0,none⟩ (.int .i64 0)).setCell ⟨b1,1,none⟩ (.string ⟨#[]⟩)).setCell ⟨b1,2,none⟩ (.slice none 0 0)).setCell ⟨b1,3,none⟩ (.bool false)).setCell ⟨b1,4,none⟩ (.bool false)).setCell ⟨b1,5,none⟩ (.slice none 0 0)).setCell ⟨b1,6,none⟩ (.slice none 0 0)).setCell ⟨b2,0,none⟩ (.int .i64 0)).setCell ⟨b3,0,none⟩ (.int .i64 8):=by
 refine callsD_of_wpS Tryz.func60 rfl fun c₀ cs hu=>?_
 apply wpS_seq
 apply wpS_region
 simp[wpOpsS,go_sem,recoverD,hu,Tryz.ntmps60,Exit.thenS]
 refine wpS_cond (t:=true) (by simp[Act.eval,Array.replicate]) ?_
 simp only[if_true]
 refine wpS_of_wp ?_
 have e0:(#[Value.pointer (some ⟨b1,0,none⟩),Value.pointer (some ⟨b2,0,none⟩),Value.pointer (some ⟨b3,0,none⟩)]++((Array.replicate 3 undef).setIfInBounds 0 (Value.iface u pv)).setIfInBounds 1 (Value.bool true))= #[Value.pointer (some ⟨b1,0,none⟩),Value.pointer (some ⟨b2,0,none⟩),Value.pointer (some ⟨b3,0,none⟩),Value.iface u pv,Value.bool true,undef]:=by simp[Array.replicate]
 rw[e0]
 have hnd:NdB w b1 0 ⟨#[]⟩ (.slice none 0 0) false false (.slice none 0 0) (.slice none 0 0):=hn
 obtain⟨m0,m1,m2,m3,m4,m5,m6⟩:=hnd.cells
 have f0:=hnd.frz 0
 have f1:=hnd.frz 1
 have f2:=hnd.frz 2
 have f3:=hnd.frz 3
 have f4:=hnd.frz 4
 have f5:=hnd.frz 5
 have f6:=hnd.frz 6
 obtain⟨c2,z2⟩:=qar h2
 obtain⟨c3,z3⟩:=qar h3
 have h21:b2≠b1:=fun e=>h12 e.symm
 have h31:b3≠b1:=fun e=>h13 e.symm
 have h32:b3≠b2:=fun e=>h23 e.symm
 clear hn hnd h2 h3 e0
 go_wp2_with fail
 simp[bodyPostS,results,Tryz.results60]
theorem qdm(b1 b2 b3:Nat)(u:TypeId)(pv:Value)(older:List PanicEntry)(w:World)(hn:w.heap[b1]?=some (.cells #[.int .i64 0,.string ⟨#[]⟩,.slice none 0 0,.bool false,.bool false,.slice none 0 0,.slice none 0 0] 29 (0,0))){x y:Value}(h2:w.heap[b2]?=some (.cells #[x] 3 (0,0)))(h3:w.heap[b3]?=some (.cells #[y] 3 (0,0)))(h12:b1<b2)(h23:b2<b3):
 CallsD Tryz.prog 60 #[.pointer (some ⟨b1,0,none⟩),.pointer (some ⟨b2,0,none⟩),.pointer (some ⟨b3,0,none⟩)] (.panicking ({ v:=.iface u pv,recovered:=false } ::older)) w fun e u' w'=>
  e=.returned (.tuple #[])/\u'=.panicking ({ v:=.iface u pv,recovered:=true } ::older)/\(NdB w' b1 0 ⟨#[]⟩ (.slice none 0 0) false false (.slice none 0 0) (.slice none 0 0)/\w'.heap[b2]?=some (.cells #[.int .i64 0] 3 (0,0))/\w'.heap[b3]?=some (.cells #[.int .i64 8] 3 (0,0))/\Below b1 w w'):=by
 refine(qms b1 b2 b3 u pv older w hn h2 h3 (by omega) (by omega) (by omega)).mono ?_
 rintro e u' w' ⟨rfl,rfl,rfl⟩
 refine⟨rfl,rfl,?_⟩
 have k0:NdB w b1 0 ⟨#[]⟩ (.slice none 0 0) false false (.slice none 0 0) (.slice none 0 0):=hn
 have k1:NdB (w.setCell ⟨b1,0,none⟩ (.int .i64 0)) b1 0 ⟨#[]⟩ (.slice none 0 0) false false (.slice none 0 0) (.slice none 0 0):=by unfold NdB;simpa using k0.set 0 (.int .i64 0)
 have l1:Below b1 w (w.setCell ⟨b1,0,none⟩ (.int .i64 0)):=(Below.refl b1 w).setCell (p:=⟨b1,0,none⟩) (zC b1) _
 have p1:(w.setCell ⟨b1,0,none⟩ (.int .i64 0)).heap[b2]?=some (.cells #[x] 3 (0,0)):=(zB _ _ _ _ (fun e=>by have e:b2=b1:=e;omega)).trans h2
 have q1:(w.setCell ⟨b1,0,none⟩ (.int .i64 0)).heap[b3]?=some (.cells #[y] 3 (0,0)):=(zB _ _ _ _ (fun e=>by have e:b3=b1:=e;omega)).trans h3
 have k2:NdB ((w.setCell ⟨b1,0,none⟩ (.int .i64 0)).setCell ⟨b1,1,none⟩ (.string ⟨#[]⟩)) b1 0 ⟨#[]⟩ (.slice none 0 0) false false (.slice none 0 0) (.slice none 0 0):=by unfold NdB;simpa using k1.set 1 (.string ⟨#[]⟩)
 have l2:Below b1 w ((w.setCell ⟨b1,0,none⟩ (.int .i64 0)).setCell ⟨b1,1,none⟩ (.string ⟨#[]⟩)):=l1.setCell (show b1<=b1 from zC b1) _
 have p2:((w.setCell ⟨b1,0,none⟩ (.int .i64 0)).setCell ⟨b1,1,none⟩ (.string ⟨#[]⟩)).heap[b2]?=some (.cells #[x] 3 (0,0)):=(zB _ _ _ _ (fun e=>by have e:b2=b1:=e;omega)).trans p1
 have q2:((w.setCell ⟨b1,0,none⟩ (.int .i64 0)).setCell ⟨b1,1,none⟩ (.string ⟨#[]⟩)).heap[b3]?=some (.cells #[y] 3 (0,0)):=(zB _ _ _ _ (fun e=>by have e:b3=b1:=e;omega)).trans q1
 have k3:NdB (((w.setCell ⟨b1,0,none⟩ (.int .i64 0)).setCell ⟨b1,1,none⟩ (.string ⟨#[]⟩)).setCell ⟨b1,2,none⟩ (.slice none 0 0)) b1 0 ⟨#[]⟩ (.slice none 0 0) false false (.slice none 0 0) (.slice none 0 0):=by unfold NdB;simpa using k2.set 2 (.slice none 0 0)
 have l3:Below b1 w (((w.setCell ⟨b1,0,none⟩ (.int .i64 0)).setCell ⟨b1,1,none⟩ (.string ⟨#[]⟩)).setCell ⟨b1,2,none⟩ (.slice none 0 0)):=l2.setCell (show b1<=b1 from zC b1) _
 have p3:(((w.setCell ⟨b1,0,none⟩ (.int .i64 0)).setCell ⟨b1,1,none⟩ (.string ⟨#[]⟩)).setCell ⟨b1,2,none⟩ (.slice none 0 0)).heap[b2]?=some (.cells #[x] 3 (0,0)):=(zB _ _ _ _ (fun e=>by have e:b2=b1:=e;omega)).trans p2
 have q3:(((w.setCell ⟨b1,0,none⟩ (.int .i64 0)).setCell ⟨b1,1,none⟩ (.string ⟨#[]⟩)).setCell ⟨b1,2,none⟩ (.slice none 0 0)).heap[b3]?=some (.cells #[y] 3 (0,0)):=(zB _ _ _ _ (fun e=>by have e:b3=b1:=e;omega)).trans q2
 have k4:NdB ((((w.setCell ⟨b1,0,none⟩ (.int .i64 0)).setCell ⟨b1,1,none⟩ (.string ⟨#[]⟩)).setCell ⟨b1,2,none⟩ (.slice none 0 0)).setCell ⟨b1,3,none⟩ (.bool false)) b1 0 ⟨#[]⟩ (.slice none 0 0) false false (.slice none 0 0) (.slice none 0 0):=by unfold NdB;simpa using k3.set 3 (.bool false)
 have l4:Below b1 w ((((w.setCell ⟨b1,0,none⟩ (.int .i64 0)).setCell ⟨b1,1,none⟩ (.string ⟨#[]⟩)).setCell ⟨b1,2,none⟩ (.slice none 0 0)).setCell ⟨b1,3,none⟩ (.bool false)):=l3.setCell (show b1<=b1 from zC b1) _
 have p4:((((w.setCell ⟨b1,0,none⟩ (.int .i64 0)).setCell ⟨b1,1,none⟩ (.string ⟨#[]⟩)).setCell ⟨b1,2,none⟩ (.slice none 0 0)).setCell ⟨b1,3,none⟩ (.bool false)).heap[b2]?=some (.cells #[x] 3 (0,0)):=(zB _ _ _ _ (fun e=>by have e:b2=b1:=e;omega)).trans p3
 have q4:((((w.setCell ⟨b1,0,none⟩ (.int .i64 0)).setCell ⟨b1,1,none⟩ (.string ⟨#[]⟩)).setCell ⟨b1,2,none⟩ (.slice none 0 0)).setCell ⟨b1,3,none⟩ (.bool false)).heap[b3]?=some (.cells #[y] 3 (0,0)):=(zB _ _ _ _ (fun e=>by have e:b3=b1:=e;omega)).trans q3
 have k5:NdB (((((w.setCell ⟨b1,0,none⟩ (.int .i64 0)).setCell ⟨b1,1,none⟩ (.string ⟨#[]⟩)).setCell ⟨b1,2,none⟩ (.slice none 0 0)).setCell ⟨b1,3,none⟩ (.bool false)).setCell ⟨b1,4,none⟩ (.bool false)) b1 0 ⟨#[]⟩ (.slice none 0 0) false false (.slice none 0 0) (.slice none 0 0):=by unfold NdB;simpa using k4.set 4 (.bool false)
 have l5:Below b1 w (((((w.setCell ⟨b1,0,none⟩ (.int .i64 0)).setCell ⟨b1,1,none⟩ (.string ⟨#[]⟩)).setCell ⟨b1,2,none⟩ (.slice none 0 0)).setCell ⟨b1,3,none⟩ (.bool false)).setCell ⟨b1,4,none⟩ (.bool false)):=l4.setCell (show b1<=b1 from zC b1) _
 have p5:(((((w.setCell ⟨b1,0,none⟩ (.int .i64 0)).setCell ⟨b1,1,none⟩ (.string ⟨#[]⟩)).setCell ⟨b1,2,none⟩ (.slice none 0 0)).setCell ⟨b1,3,none⟩ (.bool false)).setCell ⟨b1,4,none⟩ (.bool false)).heap[b2]?=some (.cells #[x] 3 (0,0)):=(zB _ _ _ _ (fun e=>by have e:b2=b1:=e;omega)).trans p4
 have q5:(((((w.setCell ⟨b1,0,none⟩ (.int .i64 0)).setCell ⟨b1,1,none⟩ (.string ⟨#[]⟩)).setCell ⟨b1,2,none⟩ (.slice none 0 0)).setCell ⟨b1,3,none⟩ (.bool false)).setCell ⟨b1,4,none⟩ (.bool false)).heap[b3]?=some (.cells #[y] 3 (0,0)):=(zB _ _ _ _ (fun e=>by have e:b3=b1:=e;omega)).trans q4
 have k6:NdB ((((((w.setCell ⟨b1,0,none⟩ (.int .i64 0)).setCell ⟨b1,1,none⟩ (.string ⟨#[]⟩)).setCell ⟨b1,2,none⟩ (.slice none 0 0)).setCell ⟨b1,3,none⟩ (.bool false)).setCell ⟨b1,4,none⟩ (.bool false)).setCell ⟨b1,5,none⟩ (.slice none 0 0)) b1 0 ⟨#[]⟩ (.slice none 0 0) false false (.slice none 0 0) (.slice none 0 0):=by unfold NdB;simpa using k5.set 5 (.slice none 0 0)
 have l6:Below b1 w ((((((w.setCell ⟨b1,0,none⟩ (.int .i64 0)).setCell ⟨b1,1,none⟩ (.string ⟨#[]⟩)).setCell ⟨b1,2,none⟩ (.slice none 0 0)).setCell ⟨b1,3,none⟩ (.bool false)).setCell ⟨b1,4,none⟩ (.bool false)).setCell ⟨b1,5,none⟩ (.slice none 0 0)):=l5.setCell (show b1<=b1 from zC b1) _
 have p6:((((((w.setCell ⟨b1,0,none⟩ (.int .i64 0)).setCell ⟨b1,1,none⟩ (.string ⟨#[]⟩)).setCell ⟨b1,2,none⟩ (.slice none 0 0)).setCell ⟨b1,3,none⟩ (.bool false)).setCell ⟨b1,4,none⟩ (.bool false)).setCell ⟨b1,5,none⟩ (.slice none 0 0)).heap[b2]?=some (.cells #[x] 3 (0,0)):=(zB _ _ _ _ (fun e=>by have e:b2=b1:=e;omega)).trans p5
 have q6:((((((w.setCell ⟨b1,0,none⟩ (.int .i64 0)).setCell ⟨b1,1,none⟩ (.string ⟨#[]⟩)).setCell ⟨b1,2,none⟩ (.slice none 0 0)).setCell ⟨b1,3,none⟩ (.bool false)).setCell ⟨b1,4,none⟩ (.bool false)).setCell ⟨b1,5,none⟩ (.slice none 0 0)).heap[b3]?=some (.cells #[y] 3 (0,0)):=(zB _ _ _ _ (fun e=>by have e:b3=b1:=e;omega)).trans q5
 have k7:NdB (((((((w.setCell ⟨b1,0,none⟩ (.int .i64 0)).setCell ⟨b1,1,none⟩ (.string ⟨#[]⟩)).setCell ⟨b1,2,none⟩ (.slice none 0 0)).setCell ⟨b1,3,none⟩ (.bool false)).setCell ⟨b1,4,none⟩ (.bool false)).setCell ⟨b1,5,none⟩ (.slice none 0 0)).setCell ⟨b1,6,none⟩ (.slice none 0 0)) b1 0 ⟨#[]⟩ (.slice none 0 0) false false (.slice none 0 0) (.slice none 0 0):=by unfold NdB;simpa using k6.set 6 (.slice none 0 0)
 have l7:Below b1 w (((((((w.setCell ⟨b1,0,none⟩ (.int .i64 0)).setCell ⟨b1,1,none⟩ (.string ⟨#[]⟩)).setCell ⟨b1,2,none⟩ (.slice none 0 0)).setCell ⟨b1,3,none⟩ (.bool false)).setCell ⟨b1,4,none⟩ (.bool false)).setCell ⟨b1,5,none⟩ (.slice none 0 0)).setCell ⟨b1,6,none⟩ (.slice none 0 0)):=l6.setCell (show b1<=b1 from zC b1) _
 have p7:(((((((w.setCell ⟨b1,0,none⟩ (.int .i64 0)).setCell ⟨b1,1,none⟩ (.string ⟨#[]⟩)).setCell ⟨b1,2,none⟩ (.slice none 0 0)).setCell ⟨b1,3,none⟩ (.bool false)).setCell ⟨b1,4,none⟩ (.bool false)).setCell ⟨b1,5,none⟩ (.slice none 0 0)).setCell ⟨b1,6,none⟩ (.slice none 0 0)).heap[b2]?=some (.cells #[x] 3 (0,0)):=(zB _ _ _ _ (fun e=>by have e:b2=b1:=e;omega)).trans p6
 have q7:(((((((w.setCell ⟨b1,0,none⟩ (.int .i64 0)).setCell ⟨b1,1,none⟩ (.string ⟨#[]⟩)).setCell ⟨b1,2,none⟩ (.slice none 0 0)).setCell ⟨b1,3,none⟩ (.bool false)).setCell ⟨b1,4,none⟩ (.bool false)).setCell ⟨b1,5,none⟩ (.slice none 0 0)).setCell ⟨b1,6,none⟩ (.slice none 0 0)).heap[b3]?=some (.cells #[y] 3 (0,0)):=(zB _ _ _ _ (fun e=>by have e:b3=b1:=e;omega)).trans q6
 refine⟨?_,?_,?_,(l7.setCell (by show b1<=b2;omega) _).setCell (by show b1<=b3;omega) _⟩
 ·exact(zB _ _ _ _ (fun e=>by have e:b1=b3:=e;omega)).trans ((zB _ _ _ _ (fun e=>by have e:b1=b2:=e;omega)).trans k7)
 ·exact(zB _ _ _ _ (fun e=>by have e:b2=b3:=e;omega)).trans (by simpa using Lib.heap_setCell_same (i:=0) p7 (.int .i64 0))
 ·have q8:=(zB _ ⟨b2,0,none⟩ (.int .i64 0) b3 (fun e=>by have e:b3=b2:=e;omega)).trans q7
  simpa using Lib.heap_setCell_same (i:=0) q8 (.int .i64 8)
theorem qlk(b1 b2 b3:Nat)(w:World):
 CallsD Tryz.prog 60 #[.pointer (some ⟨b1,0,none⟩),.pointer (some ⟨b2,0,none⟩),.pointer (some ⟨b3,0,none⟩)] .returning w fun e u' w'=>e=.returned (.tuple #[])/\u'=.returning/\w'=w:=by
 refine callsD_of_wpS Tryz.func60 rfl fun c₀ cs hu=>?_
 apply wpS_seq
 apply wpS_region
 simp[wpOpsS,go_sem,recoverD,hu,Tryz.ntmps60,Exit.thenS]
 refine wpS_cond (t:=false) (by simp[Act.eval,Array.replicate]) ?_
 simp only[Bool.false_eq_true,if_false]
 refine wpS_of_wp (wp_skip ?_)
 cases c₀
 simp_all [bodyPostS,results,Tryz.results60]
section
variable{W0 W:World}{g:Nat}{s:ByteArray}{E:Env}{tv:Value}{L:PLay}{σ:PM}
theorem MM.start{W:World}{i:Nat}(hblk:W.heap[g]?=some (.cells #[.string s,tv,.int .i64 (i:Int),.int .i64 0,.slice none 0 0,.pointer none] 84 (0,0)))(hW:Below W0.heap.size W0 W)(hg:W0.heap.size<=g)(htv: ∀j,tv.ownBlock=some j->j<W0.heap.size)(hrow:TRow W tv (E.T.take E.to))(hl:E.to<=E.T.length)(h6:E.T.length<=1048576)(hi:i<=E.to)(hsz: ∀k,(E.tk k).2.1.size<=1048576)(hgp:qql s E tv)(hcp: ∀a l c,tv=.slice a l c->l<=c):
 MM W0 g s E tv W { A:=fun _=>0,B:=fun _=>0,own:=fun k=>if k=g then .rd else .fz } { i:=i,k:=[],n:=none,N:=[],C:=[] } :=by
 have hgl:g<W.heap.size:=lt_of_block hblk
 refine⟨hW,fun k hk=>?_,if_pos rfl,htv,⟨.slice none 0 0,.pointer none,0,⟨hblk,hrow,fun e=>by have:=htv _ e;omega,hl,h6,hi,Nat.zero_le _,fun k _ h=>absurd h (Nat.not_lt_zero _),fun b e=>Nat.lt_of_lt_of_le (htv b e) hW.size,hsz,hgp,hcp⟩,⟨[],trivial,World.ownsRow_nil _ _ _ _,fun j e=>by cases e⟩,fun j e=>by cases e⟩,fun n x h=>by simp at h,fun c x h=>by simp at h,fun c x l h=>by simp at h,fun j e=>by cases e⟩
 have hk:(if k=g then PTg.rd else .fz)≠ .fz:=hk
 by_cases e:k=g
 ·subst e;exact⟨hg,hgl⟩
 ·rw[if_neg e]at hk;exact absurd rfl hk
theorem Bd.start{i:Nat}(hi:i<=E.to)(l:List Stp)(hl: ∀x∈l,okS x)(N:List (Option Nd))(B:Nat)(hN:NB B N):Bd E B { i:=i,k:=l,n:=none,N:=N,C:=[] } :=⟨hl,hi,hN,fun c x h=>by simp at h⟩
end
section
variable{W0 W:World}{g:Nat}{s:ByteArray}{E:Env}{tv:Value}{L:PLay}{σ:PM}
theorem qn5(h:MM W0 g s E tv W L σ)(hk:σ.k.length<=274877906944)(lv:Int)(k1:Nat)(hc:W.cell? ⟨k1,0,none⟩=some (.int .i64 lv)):
 Calls Tryz.prog 35 #[.pointer (some ⟨g,0,none⟩),.pointer (some ⟨k1,0,none⟩)] W (SO (.ok (σ.plan [.expr lv])) W0 g s E tv W L σ.N.length σ.C.length):=by
 have H0:=zh h
 have X0:=zh (MX.refl W0.heap.size W L σ.N.length σ.C.length)
 have HK:=zh hk
 clear h hk
 go_enter Tryz.func35,Tryz.ntmps35
 go_wp2_with fail
 have q1:=qdd H0.out lv
 try unfold ptr at q1
 refine q1.mono ?_
 clear q1
 rintro e w1 ⟨v1,rfl,hv,hb⟩
 obtain⟨fK1,fF1,fC1,rfl⟩:=hv.fn
 have V1:=zh hv
 have H1:=zh (H0.out.below hb)
 have Y1:=zh (H0.out.mxb hb)
 have X1:=zh (X0.out.trans Y1.out)
 clear hv hb
 go_wp2_with fail
 refine(qbd H1.out _ (by simp) [_] [.expr lv] 1 rfl (Nat.le_trans HK.out (by decide)) (by decide) _ ⟨V1.out,trivial⟩).mono ?_
 rintro e w2 ⟨rfl,M2,hm,hx⟩
 have H2:=zh hm
 have Y2:=zh hx
 have X2:=zh (X1.out.trans Y2.out)
 have v1_2:=zh (Y2.out.isc V1.out)
 clear hm hx
 go_wp2_with fail
 go_end0
 exact⟨rfl,M2,H2.out,X2.out⟩
theorem qn4(h:MM W0 g s E tv W L σ)(hk:σ.k.length<=274877906944):
 Calls Tryz.prog 43 #[.pointer (some ⟨g,0,none⟩)] W (SO (.ok (σ.plan [.body])) W0 g s E tv W L σ.N.length σ.C.length):=by
 have H0:=zh h
 have X0:=zh (MX.refl W0.heap.size W L σ.N.length σ.C.length)
 have HK:=zh hk
 clear h hk
 go_enter Tryz.func43,Tryz.ntmps43
 have V1:=zh ((IsC.body:IsC W (L.P W0.heap.size) g L.A L.B (σ).N.length (σ).C.length _ .body))
 go_wp2_with fail
 refine(qbd H0.out _ (by simp) [_] [.body] 1 rfl (Nat.le_trans HK.out (by decide)) (by decide) _ ⟨V1.out,trivial⟩).mono ?_
 rintro e w2 ⟨rfl,M2,hm,hx⟩
 have H2:=zh hm
 have Y2:=zh hx
 have X2:=zh (X0.out.trans Y2.out)
 have v1_2:=zh (Y2.out.isc V1.out)
 clear hm hx
 go_wp2_with fail
 go_end0
 exact⟨rfl,M2,H2.out,X2.out⟩
end
theorem qom(b1 b2 b3:Nat){w:World}{k:Int}{t:ByteArray}{lv nv tv x y x' y':Value}{br bl:Bool}(k0:NdB w b1 0 ⟨#[]⟩ (.slice none 0 0) false false (.slice none 0 0) (.slice none 0 0))(p0:w.heap[b2]?=some (.cells #[x] 3 (0,0)))(q0:w.heap[b3]?=some (.cells #[y] 3 (0,0)))(h12:b1<b2)(h23:b2<b3):NdB (((((((((w.setCell ⟨b1,0,none⟩ (.int .i64 k)).setCell ⟨b1,1,none⟩ (.string t)).setCell ⟨b1,2,none⟩ lv).setCell ⟨b1,3,none⟩ (.bool br)).setCell ⟨b1,4,none⟩ (.bool bl)).setCell ⟨b1,5,none⟩ nv).setCell ⟨b1,6,none⟩ tv).setCell ⟨b2,0,none⟩ x').setCell ⟨b3,0,none⟩ y') b1 k t lv br bl nv tv/\(((((((((w.setCell ⟨b1,0,none⟩ (.int .i64 k)).setCell ⟨b1,1,none⟩ (.string t)).setCell ⟨b1,2,none⟩ lv).setCell ⟨b1,3,none⟩ (.bool br)).setCell ⟨b1,4,none⟩ (.bool bl)).setCell ⟨b1,5,none⟩ nv).setCell ⟨b1,6,none⟩ tv).setCell ⟨b2,0,none⟩ x').setCell ⟨b3,0,none⟩ y').heap[b2]?=some (.cells #[x'] 3 (0,0))/\(((((((((w.setCell ⟨b1,0,none⟩ (.int .i64 k)).setCell ⟨b1,1,none⟩ (.string t)).setCell ⟨b1,2,none⟩ lv).setCell ⟨b1,3,none⟩ (.bool br)).setCell ⟨b1,4,none⟩ (.bool bl)).setCell ⟨b1,5,none⟩ nv).setCell ⟨b1,6,none⟩ tv).setCell ⟨b2,0,none⟩ x').setCell ⟨b3,0,none⟩ y').heap[b3]?=some (.cells #[y'] 3 (0,0))/\Below b1 w (((((((((w.setCell ⟨b1,0,none⟩ (.int .i64 k)).setCell ⟨b1,1,none⟩ (.string t)).setCell ⟨b1,2,none⟩ lv).setCell ⟨b1,3,none⟩ (.bool br)).setCell ⟨b1,4,none⟩ (.bool bl)).setCell ⟨b1,5,none⟩ nv).setCell ⟨b1,6,none⟩ tv).setCell ⟨b2,0,none⟩ x').setCell ⟨b3,0,none⟩ y')/\ ∀q,q≠b1->q≠b2->q≠b3->(((((((((w.setCell ⟨b1,0,none⟩ (.int .i64 k)).setCell ⟨b1,1,none⟩ (.string t)).setCell ⟨b1,2,none⟩ lv).setCell ⟨b1,3,none⟩ (.bool br)).setCell ⟨b1,4,none⟩ (.bool bl)).setCell ⟨b1,5,none⟩ nv).setCell ⟨b1,6,none⟩ tv).setCell ⟨b2,0,none⟩ x').setCell ⟨b3,0,none⟩ y').heap[q]?=w.heap[q]?:=by
 have l0:Below b1 w w:=Below.refl _ _
 have k1:NdB (w.setCell ⟨b1,0,none⟩ (.int .i64 k)) b1 k ⟨#[]⟩ (.slice none 0 0) false false (.slice none 0 0) (.slice none 0 0):=by unfold NdB;simpa using k0.set 0 (.int .i64 k)
 have l1:Below b1 w (w.setCell ⟨b1,0,none⟩ (.int .i64 k)):=l0.setCell (show b1<=b1 from zC b1) _
 have p1:(w.setCell ⟨b1,0,none⟩ (.int .i64 k)).heap[b2]?=some (.cells #[x] 3 (0,0)):=(zB _ _ _ _ (fun e=>by have e:b2=b1:=e;omega)).trans p0
 have q1:(w.setCell ⟨b1,0,none⟩ (.int .i64 k)).heap[b3]?=some (.cells #[y] 3 (0,0)):=(zB _ _ _ _ (fun e=>by have e:b3=b1:=e;omega)).trans q0
 have k2:NdB ((w.setCell ⟨b1,0,none⟩ (.int .i64 k)).setCell ⟨b1,1,none⟩ (.string t)) b1 k t (.slice none 0 0) false false (.slice none 0 0) (.slice none 0 0):=by unfold NdB;simpa using k1.set 1 (.string t)
 have l2:Below b1 w ((w.setCell ⟨b1,0,none⟩ (.int .i64 k)).setCell ⟨b1,1,none⟩ (.string t)):=l1.setCell (show b1<=b1 from zC b1) _
 have p2:((w.setCell ⟨b1,0,none⟩ (.int .i64 k)).setCell ⟨b1,1,none⟩ (.string t)).heap[b2]?=some (.cells #[x] 3 (0,0)):=(zB _ _ _ _ (fun e=>by have e:b2=b1:=e;omega)).trans p1
 have q2:((w.setCell ⟨b1,0,none⟩ (.int .i64 k)).setCell ⟨b1,1,none⟩ (.string t)).heap[b3]?=some (.cells #[y] 3 (0,0)):=(zB _ _ _ _ (fun e=>by have e:b3=b1:=e;omega)).trans q1
 have k3:NdB (((w.setCell ⟨b1,0,none⟩ (.int .i64 k)).setCell ⟨b1,1,none⟩ (.string t)).setCell ⟨b1,2,none⟩ lv) b1 k t lv false false (.slice none 0 0) (.slice none 0 0):=by unfold NdB;simpa using k2.set 2 lv
 have l3:Below b1 w (((w.setCell ⟨b1,0,none⟩ (.int .i64 k)).setCell ⟨b1,1,none⟩ (.string t)).setCell ⟨b1,2,none⟩ lv):=l2.setCell (show b1<=b1 from zC b1) _
 have p3:(((w.setCell ⟨b1,0,none⟩ (.int .i64 k)).setCell ⟨b1,1,none⟩ (.string t)).setCell ⟨b1,2,none⟩ lv).heap[b2]?=some (.cells #[x] 3 (0,0)):=(zB _ _ _ _ (fun e=>by have e:b2=b1:=e;omega)).trans p2
 have q3:(((w.setCell ⟨b1,0,none⟩ (.int .i64 k)).setCell ⟨b1,1,none⟩ (.string t)).setCell ⟨b1,2,none⟩ lv).heap[b3]?=some (.cells #[y] 3 (0,0)):=(zB _ _ _ _ (fun e=>by have e:b3=b1:=e;omega)).trans q2
 have k4:NdB ((((w.setCell ⟨b1,0,none⟩ (.int .i64 k)).setCell ⟨b1,1,none⟩ (.string t)).setCell ⟨b1,2,none⟩ lv).setCell ⟨b1,3,none⟩ (.bool br)) b1 k t lv br false (.slice none 0 0) (.slice none 0 0):=by unfold NdB;simpa using k3.set 3 (.bool br)
 have l4:Below b1 w ((((w.setCell ⟨b1,0,none⟩ (.int .i64 k)).setCell ⟨b1,1,none⟩ (.string t)).setCell ⟨b1,2,none⟩ lv).setCell ⟨b1,3,none⟩ (.bool br)):=l3.setCell (show b1<=b1 from zC b1) _
 have p4:((((w.setCell ⟨b1,0,none⟩ (.int .i64 k)).setCell ⟨b1,1,none⟩ (.string t)).setCell ⟨b1,2,none⟩ lv).setCell ⟨b1,3,none⟩ (.bool br)).heap[b2]?=some (.cells #[x] 3 (0,0)):=(zB _ _ _ _ (fun e=>by have e:b2=b1:=e;omega)).trans p3
 have q4:((((w.setCell ⟨b1,0,none⟩ (.int .i64 k)).setCell ⟨b1,1,none⟩ (.string t)).setCell ⟨b1,2,none⟩ lv).setCell ⟨b1,3,none⟩ (.bool br)).heap[b3]?=some (.cells #[y] 3 (0,0)):=(zB _ _ _ _ (fun e=>by have e:b3=b1:=e;omega)).trans q3
 have k5:NdB (((((w.setCell ⟨b1,0,none⟩ (.int .i64 k)).setCell ⟨b1,1,none⟩ (.string t)).setCell ⟨b1,2,none⟩ lv).setCell ⟨b1,3,none⟩ (.bool br)).setCell ⟨b1,4,none⟩ (.bool bl)) b1 k t lv br bl (.slice none 0 0) (.slice none 0 0):=by unfold NdB;simpa using k4.set 4 (.bool bl)
 have l5:Below b1 w (((((w.setCell ⟨b1,0,none⟩ (.int .i64 k)).setCell ⟨b1,1,none⟩ (.string t)).setCell ⟨b1,2,none⟩ lv).setCell ⟨b1,3,none⟩ (.bool br)).setCell ⟨b1,4,none⟩ (.bool bl)):=l4.setCell (show b1<=b1 from zC b1) _
 have p5:(((((w.setCell ⟨b1,0,none⟩ (.int .i64 k)).setCell ⟨b1,1,none⟩ (.string t)).setCell ⟨b1,2,none⟩ lv).setCell ⟨b1,3,none⟩ (.bool br)).setCell ⟨b1,4,none⟩ (.bool bl)).heap[b2]?=some (.cells #[x] 3 (0,0)):=(zB _ _ _ _ (fun e=>by have e:b2=b1:=e;omega)).trans p4
 have q5:(((((w.setCell ⟨b1,0,none⟩ (.int .i64 k)).setCell ⟨b1,1,none⟩ (.string t)).setCell ⟨b1,2,none⟩ lv).setCell ⟨b1,3,none⟩ (.bool br)).setCell ⟨b1,4,none⟩ (.bool bl)).heap[b3]?=some (.cells #[y] 3 (0,0)):=(zB _ _ _ _ (fun e=>by have e:b3=b1:=e;omega)).trans q4
 have k6:NdB ((((((w.setCell ⟨b1,0,none⟩ (.int .i64 k)).setCell ⟨b1,1,none⟩ (.string t)).setCell ⟨b1,2,none⟩ lv).setCell ⟨b1,3,none⟩ (.bool br)).setCell ⟨b1,4,none⟩ (.bool bl)).setCell ⟨b1,5,none⟩ nv) b1 k t lv br bl nv (.slice none 0 0):=by unfold NdB;simpa using k5.set 5 nv
 have l6:Below b1 w ((((((w.setCell ⟨b1,0,none⟩ (.int .i64 k)).setCell ⟨b1,1,none⟩ (.string t)).setCell ⟨b1,2,none⟩ lv).setCell ⟨b1,3,none⟩ (.bool br)).setCell ⟨b1,4,none⟩ (.bool bl)).setCell ⟨b1,5,none⟩ nv):=l5.setCell (show b1<=b1 from zC b1) _
 have p6:((((((w.setCell ⟨b1,0,none⟩ (.int .i64 k)).setCell ⟨b1,1,none⟩ (.string t)).setCell ⟨b1,2,none⟩ lv).setCell ⟨b1,3,none⟩ (.bool br)).setCell ⟨b1,4,none⟩ (.bool bl)).setCell ⟨b1,5,none⟩ nv).heap[b2]?=some (.cells #[x] 3 (0,0)):=(zB _ _ _ _ (fun e=>by have e:b2=b1:=e;omega)).trans p5
 have q6:((((((w.setCell ⟨b1,0,none⟩ (.int .i64 k)).setCell ⟨b1,1,none⟩ (.string t)).setCell ⟨b1,2,none⟩ lv).setCell ⟨b1,3,none⟩ (.bool br)).setCell ⟨b1,4,none⟩ (.bool bl)).setCell ⟨b1,5,none⟩ nv).heap[b3]?=some (.cells #[y] 3 (0,0)):=(zB _ _ _ _ (fun e=>by have e:b3=b1:=e;omega)).trans q5
 have k7:NdB (((((((w.setCell ⟨b1,0,none⟩ (.int .i64 k)).setCell ⟨b1,1,none⟩ (.string t)).setCell ⟨b1,2,none⟩ lv).setCell ⟨b1,3,none⟩ (.bool br)).setCell ⟨b1,4,none⟩ (.bool bl)).setCell ⟨b1,5,none⟩ nv).setCell ⟨b1,6,none⟩ tv) b1 k t lv br bl nv tv:=by unfold NdB;simpa using k6.set 6 tv
 have l7:Below b1 w (((((((w.setCell ⟨b1,0,none⟩ (.int .i64 k)).setCell ⟨b1,1,none⟩ (.string t)).setCell ⟨b1,2,none⟩ lv).setCell ⟨b1,3,none⟩ (.bool br)).setCell ⟨b1,4,none⟩ (.bool bl)).setCell ⟨b1,5,none⟩ nv).setCell ⟨b1,6,none⟩ tv):=l6.setCell (show b1<=b1 from zC b1) _
 have p7:(((((((w.setCell ⟨b1,0,none⟩ (.int .i64 k)).setCell ⟨b1,1,none⟩ (.string t)).setCell ⟨b1,2,none⟩ lv).setCell ⟨b1,3,none⟩ (.bool br)).setCell ⟨b1,4,none⟩ (.bool bl)).setCell ⟨b1,5,none⟩ nv).setCell ⟨b1,6,none⟩ tv).heap[b2]?=some (.cells #[x] 3 (0,0)):=(zB _ _ _ _ (fun e=>by have e:b2=b1:=e;omega)).trans p6
 have q7:(((((((w.setCell ⟨b1,0,none⟩ (.int .i64 k)).setCell ⟨b1,1,none⟩ (.string t)).setCell ⟨b1,2,none⟩ lv).setCell ⟨b1,3,none⟩ (.bool br)).setCell ⟨b1,4,none⟩ (.bool bl)).setCell ⟨b1,5,none⟩ nv).setCell ⟨b1,6,none⟩ tv).heap[b3]?=some (.cells #[y] 3 (0,0)):=(zB _ _ _ _ (fun e=>by have e:b3=b1:=e;omega)).trans q6
 refine⟨?_,?_,?_,(l7.setCell (show b1<=b2 by omega) _).setCell (show b1<=b3 by omega) _,fun q n1 n2 n3=>?_⟩
 ·exact(zB _ _ _ _ (fun e=>by have e:b1=b3:=e;omega)).trans ((zB _ _ _ _ (fun e=>by have e:b1=b2:=e;omega)).trans k7)
 ·exact(zB _ _ _ _ (fun e=>by have e:b2=b3:=e;omega)).trans (by simpa using Lib.heap_setCell_same (i:=0) p7 x')
 ·have q8:=(zB _ ⟨b2,0,none⟩ x' b3 (fun e=>by have e:b3=b2:=e;omega)).trans q7
  simpa using Lib.heap_setCell_same (i:=0) q8 y'
 ·exact(zB _ _ _ _ n3).trans ((zB _ _ _ _ n2).trans ((zB _ _ _ _ n1).trans ((zB _ _ _ _ n1).trans ((zB _ _ _ _ n1).trans ((zB _ _ _ _ n1).trans ((zB _ _ _ _ n1).trans ((zB _ _ _ _ n1).trans (zB _ _ _ _ n1))))))))
def AO(R:Rs PM)(W:World)(e:Ending)(W':World):Prop:=Below W.heap.size W W'/\
 match R with
 | .ok τ=> ∃c x j,τ.n=some j/\τ.N[j]?=some (some x)/\e=.returned (.tuple #[.agg c,.int .i64 (τ.i:Int),.int .i64 0])/\NdIn W' (fun q=>W.heap.size<=q) c.toList x
 | .error _=>e=.returned (.tuple #[.agg #[.int .i64 0,.string ⟨#[]⟩,.slice none 0 0,.bool false,.bool false,.slice none 0 0,.slice none 0 0],.int .i64 0,.int .i64 8])
theorem qlg{W:World}{s:ByteArray}{E:Env}{la:Option Addr}{ln lc i:Nat}{K:FuncId}{fC:Array Value}{σ1:PM}{n B:Nat}{R:Rs PM}
 (hrow:TRow W (.slice la E.to lc) (E.T.take E.to)) (hl:E.to<=E.T.length) (h6:E.T.length<=1048576) (hi:i<=E.to) (hto:E.to<=ln) (hln:ln<=lc) (hsz: ∀k,(E.tk k).2.1.size<=1048576) (hgp:qql s E (.slice la E.to lc)) (hown: ∀j,(Value.slice la E.to lc).ownBlock=some j->j<W.heap.size)
 (hen: ∀args w,(callFunc K args).run Tryz.prog w=.ok (.enter K args) w)
 (hpl: ∀(W0 W1:World) (g:Nat) (L:PLay),MM W0 g s E (.slice la E.to lc) W1 L { i:=i,k:=[],n:=none,N:=[],C:=[] } ->Below W.heap.size W W1->Calls Tryz.prog K (#[.pointer (some ⟨g,0,none⟩)]++fC) W1 (SO (.ok σ1) W0 g s E (.slice la E.to lc) W1 L 0 0))
 (hb:Bd E B σ1) (hB:2<=B) (hn:B+n<=1000000000000) (hp:pot E σ1<=274877906944) (hR:mach E n σ1=R) (hns:R≠ .error .stuck) (hcur: ∀τ,R=.ok τ-> ∃j x,τ.n=some j/\τ.N[j]?=some (some x)):
 Calls Tryz.prog 34 #[.string s,.slice la ln lc,.int .i64 (i:Int),.int .i64 (E.to:Int),.func (.func K) #[] fC] W (AO R W):=by
 have hmf: ∀(fn:Fn) (first cap:Array Value) (w:World),(Instr.makeFunc fn first cap).run Tryz.prog w=.ok (.func fn first cap) w:=fun _ _ _ _=>rfl
 have HBW:Hid (Below W.heap.size W (((W.alloc (.cells #[.int .i64 0,.string ⟨#[]⟩,.slice none 0 0,.bool false,.bool false,.slice none 0 0,.slice none 0 0] 29)).alloc (.cells #[.int .i64 0] 3)).alloc (.cells #[.int .i64 0] 3))):=zh (((qa1 _ _).trans ((qa1 _ _).mono (by simp))).trans ((qa1 _ _).mono (by simp;omega)))
 have HST:Hid (∀W1:World,Below (((W.alloc (.cells #[.int .i64 0,.string ⟨#[]⟩,.slice none 0 0,.bool false,.bool false,.slice none 0 0,.slice none 0 0] 29)).alloc (.cells #[.int .i64 0] 3)).alloc (.cells #[.int .i64 0] 3)).heap.size (((W.alloc (.cells #[.int .i64 0,.string ⟨#[]⟩,.slice none 0 0,.bool false,.bool false,.slice none 0 0,.slice none 0 0] 29)).alloc (.cells #[.int .i64 0] 3)).alloc (.cells #[.int .i64 0] 3)) W1->W1.heap[W.heap.size+1+1+1]?=some (.cells #[.string s,.slice la E.to lc,.int .i64 (i:Int),.int .i64 0,.slice none 0 0,.pointer none] 84 (0,0))->
  MM (((W.alloc (.cells #[.int .i64 0,.string ⟨#[]⟩,.slice none 0 0,.bool false,.bool false,.slice none 0 0,.slice none 0 0] 29)).alloc (.cells #[.int .i64 0] 3)).alloc (.cells #[.int .i64 0] 3)) (W.heap.size+1+1+1) s E (.slice la E.to lc) W1 { A:=fun _=>0,B:=fun _=>0,own:=fun k=>if k=W.heap.size+1+1+1 then .rd else .fz } { i:=i,k:=[],n:=none,N:=[],C:=[] }):=zh (fun W1 h1 h2=>
  MM.start h2 h1 (by simp) (fun j e=>by have:=hown j e;simp;omega) (hrow.below (HBW.out.trans (h1.mono (by simp;omega)))) hl h6 hi hsz hgp (fun a l c e=>by simp only[Value.slice.injEq]at e;omega))
 have HPL:=zh hpl
 have HRUN:=zh (fun(W0 W1:World) (g:Nat) (L:PLay) (h:MM W0 g s E (.slice la E.to lc) W1 L σ1)=>runM h n B hb hB hn hp (by rw[hR];exact hns))
 rw[hR]at HRUN
 have HCUR:=zh hcur
 have HNS:=zh hns
 have d1:decide ((i:Int)≥0)=true:=decide_eq_true (by omega)
 have d2:decide ((i:Int)<=(E.to:Int))=true:=decide_eq_true (by omega)
 have d3:decide ((E.to:Int)<=(ln:Int))=true:=decide_eq_true (by omega)
 have e1:(0:Int)<=(i:Int):=by omega
 have e2:(i:Int)<=(E.to:Int):=by omega
 have e3:(E.to:Int)<=(ln:Int):=by omega
 have e4:(0:Int)<=(E.to:Int):=by omega
 have e5:(E.to:Int)<=(lc:Int):=by omega
 have HI:=zh hi
 clear hrow hl h6 hi hto hln hsz hgp hown hpl hb hB hn hp hR hns hcur
 go_enter_defers Tryz.func34,Tryz.ntmps34
 go_wp2_with fail
 refine(qap _).mono ?_
 rintro e w9 ⟨rfl,rfl⟩
 go_wp2_with fail
 have HB0:=zh (Below.refl (((W.alloc (.cells #[.int .i64 0,.string ⟨#[]⟩,.slice none 0 0,.bool false,.bool false,.slice none 0 0,.slice none 0 0] 29)).alloc (.cells #[.int .i64 0] 3)).alloc (.cells #[.int .i64 0] 3)).heap.size (((W.alloc (.cells #[.int .i64 0,.string ⟨#[]⟩,.slice none 0 0,.bool false,.bool false,.slice none 0 0,.slice none 0 0] 29)).alloc (.cells #[.int .i64 0] 3)).alloc (.cells #[.int .i64 0] 3)))
 have hm0:=HST.out _ (qa1 _ _) (by simpa using qa8 (((W.alloc (.cells #[.int .i64 0,.string ⟨#[]⟩,.slice none 0 0,.bool false,.bool false,.slice none 0 0,.slice none 0 0] 29)).alloc (.cells #[.int .i64 0] 3)).alloc (.cells #[.int .i64 0] 3)) _)
 have hq:=HPL.out _ _ _ _ hm0 (HBW.out.trans ((qa1 _ _).mono (by simp;omega)))
 refine hq.mono ?_
 clear hq hm0
 rintro e w1 ⟨rfl,L1,hm1,hx1⟩
 have H1:=zh hm1
 clear hm1 hx1
 go_wp2_with fail
 refine(HRUN.out _ _ _ _ H1.out).mono ?_
 intro e w2 h2
 cases R with
 | error b=>
  cases b with
  | stuck=>exact absurd rfl HNS.out
  | die=>
   obtain⟨⟨u,pv,rfl⟩,hb⟩:=h2
   have HB9:=zh hb
   clear hb
   have r1:(((W.alloc (.cells #[.int .i64 0,.string ⟨#[]⟩,.slice none 0 0,.bool false,.bool false,.slice none 0 0,.slice none 0 0] 29)).alloc (.cells #[.int .i64 0] 3)).alloc (.cells #[.int .i64 0] 3)).heap[W.heap.size]?=some (.cells #[.int .i64 0,.string ⟨#[]⟩,.slice none 0 0,.bool false,.bool false,.slice none 0 0,.slice none 0 0] 29 (0,0)):=(zA _ _ _ (by simp;omega)).trans ((zA _ _ _ (by simp)).trans (qa8 W _))
   have r2:(((W.alloc (.cells #[.int .i64 0,.string ⟨#[]⟩,.slice none 0 0,.bool false,.bool false,.slice none 0 0,.slice none 0 0] 29)).alloc (.cells #[.int .i64 0] 3)).alloc (.cells #[.int .i64 0] 3)).heap[W.heap.size+1]?=some (.cells #[.int .i64 0] 3 (0,0)):=(zA _ _ _ (by simp)).trans (by have h9:=qa8 (W.alloc (.cells #[.int .i64 0,.string ⟨#[]⟩,.slice none 0 0,.bool false,.bool false,.slice none 0 0,.slice none 0 0] 29)) (.cells #[.int .i64 0] 3);rwa [show(W.alloc (.cells #[.int .i64 0,.string ⟨#[]⟩,.slice none 0 0,.bool false,.bool false,.slice none 0 0,.slice none 0 0] 29)).heap.size=W.heap.size+1 by simp]at h9)
   have r3:(((W.alloc (.cells #[.int .i64 0,.string ⟨#[]⟩,.slice none 0 0,.bool false,.bool false,.slice none 0 0,.slice none 0 0] 29)).alloc (.cells #[.int .i64 0] 3)).alloc (.cells #[.int .i64 0] 3)).heap[W.heap.size+1+1]?=some (.cells #[.int .i64 0] 3 (0,0)):=by have h9:=qa8 ((W.alloc (.cells #[.int .i64 0,.string ⟨#[]⟩,.slice none 0 0,.bool false,.bool false,.slice none 0 0,.slice none 0 0] 29)).alloc (.cells #[.int .i64 0] 3)) (.cells #[.int .i64 0] 3);rwa [show((W.alloc (.cells #[.int .i64 0,.string ⟨#[]⟩,.slice none 0 0,.bool false,.bool false,.slice none 0 0,.slice none 0 0] 29)).alloc (.cells #[.int .i64 0] 3)).heap.size=W.heap.size+1+1 by simp]at h9
   have h1:=(HB9.out.block W.heap.size (by simp;omega)).trans r1
   have h2:=(HB9.out.block (W.heap.size+1) (by simp)).trans r2
   have h3:=(HB9.out.block (W.heap.size+1+1) (by simp)).trans r3
   have HH1:=zh h1
   have HH2:=zh h2
   have HH3:=zh h3
   clear r1 r2 r3 h1 h2 h3
   go_wp2_with fail
   refine leaves_cons (f:=60) (args:= #[.pointer (some ⟨W.heap.size,0,none⟩),.pointer (some ⟨W.heap.size+1,0,none⟩),.pointer (some ⟨W.heap.size+1+1,0,none⟩)]) (by simp) (by simp[go_sem]) ?_
   refine(qdm W.heap.size (W.heap.size+1) (W.heap.size+1+1) _ _ _ _ HH1.out HH2.out HH3.out (by omega) (by omega)).mono ?_
   rintro e u' w'' ⟨rfl,rfl,hnd,h2,h3,hbl⟩
   obtain⟨m0,m1,m2,m3,m4,m5,m6⟩:=hnd.cells
   have c2:=(qar h2).1
   have c3:=(qar h3).1
   have HBF:Hid (Below W.heap.size W w''):=zh ((HBW.out.trans (HB9.out.mono (by simp;omega))).trans hbl)
   clear hnd h2 h3 hbl
   simp[Leaves,settle,results,Tryz.results34,go_sem,m0,m1,m2,m3,m4,m5,m6,c2,c3]
   exact⟨HBF.out,rfl⟩
 | ok τ=>
  obtain⟨rfl,L2,hm2,hx2⟩:=h2
  obtain⟨j,x,hj,hx⟩:=HCUR.out τ rfl
  have HJ:=zh hj
  have HX:=zh hx
  have H2:=zh hm2
  have HB9:=zh hm2.bel
  obtain⟨ka,ta,lv,ra,qa,nv,vv,hNd,⟨la1,la2,la3,rfl⟩,⟨na1,na2,na3,rfl⟩,⟨va1,va2,va3,rfl⟩⟩:=hm2.ncellsA hx
  have HND:=zh hNd
  have hAj:W.heap.size+1+1+1<=L2.A j:=by
   have h9:=hm2.nds j x hx
   have h8:L2.own (L2.A j)=.hd j:=by cases x;exact h9.1
   have h7:=(hm2.own _ (by rw[h8];exact fun e=>by cases e)).1
   simpa using h7
  have HAJ:=zh hAj
  have HS:Hid (∀w':World,(∀k,W.heap.size+1+1+1<=k->w'.heap[k]?=w2.heap[k]?)->w'.cell? ⟨W.heap.size+1+1+1,5,none⟩=some (.pointer (some ⟨L2.A j,0,none⟩))/\w'.cell? ⟨W.heap.size+1+1+1,2,none⟩=some (.int .i64 (τ.i:Int))/\w'.cell? ⟨L2.A j,0,none⟩=some (.int .i64 ka)/\w'.cell? ⟨L2.A j,1,none⟩=some (.string ta)/\w'.cell? ⟨L2.A j,2,none⟩=some (.slice la1 la2 la3)/\w'.cell? ⟨L2.A j,3,none⟩=some (.bool ra)/\w'.cell? ⟨L2.A j,4,none⟩=some (.bool qa)/\w'.cell? ⟨L2.A j,5,none⟩=some (.slice na1 na2 na3)/\w'.cell? ⟨L2.A j,6,none⟩=some (.slice va1 va2 va3)):=zh (fun w' h=>by
   obtain⟨td,np,past,q1,q2,q3⟩:=H2.out.open
   obtain rfl:=q2 j HJ.out
   have hb:=(h _ (zC _)).trans q1.blk
   have hn:NdB w' (L2.A j) ka ta (.slice la1 la2 la3) ra qa (.slice na1 na2 na3) (.slice va1 va2 va3):=(h _ HAJ.out).trans HND.out
   exact⟨by rw[cell_of_row w' _ _ _ _ _ hb];rfl,by rw[cell_of_row w' _ _ _ _ _ hb];rfl,hn.cells⟩)
  have r1:(((W.alloc (.cells #[.int .i64 0,.string ⟨#[]⟩,.slice none 0 0,.bool false,.bool false,.slice none 0 0,.slice none 0 0] 29)).alloc (.cells #[.int .i64 0] 3)).alloc (.cells #[.int .i64 0] 3)).heap[W.heap.size]?=some (.cells #[.int .i64 0,.string ⟨#[]⟩,.slice none 0 0,.bool false,.bool false,.slice none 0 0,.slice none 0 0] 29 (0,0)):=(zA _ _ _ (by simp;omega)).trans ((zA _ _ _ (by simp)).trans (qa8 W _))
  have r2:(((W.alloc (.cells #[.int .i64 0,.string ⟨#[]⟩,.slice none 0 0,.bool false,.bool false,.slice none 0 0,.slice none 0 0] 29)).alloc (.cells #[.int .i64 0] 3)).alloc (.cells #[.int .i64 0] 3)).heap[W.heap.size+1]?=some (.cells #[.int .i64 0] 3 (0,0)):=(zA _ _ _ (by simp)).trans (by have h9:=qa8 (W.alloc (.cells #[.int .i64 0,.string ⟨#[]⟩,.slice none 0 0,.bool false,.bool false,.slice none 0 0,.slice none 0 0] 29)) (.cells #[.int .i64 0] 3);rwa [show(W.alloc (.cells #[.int .i64 0,.string ⟨#[]⟩,.slice none 0 0,.bool false,.bool false,.slice none 0 0,.slice none 0 0] 29)).heap.size=W.heap.size+1 by simp]at h9)
  have r3:(((W.alloc (.cells #[.int .i64 0,.string ⟨#[]⟩,.slice none 0 0,.bool false,.bool false,.slice none 0 0,.slice none 0 0] 29)).alloc (.cells #[.int .i64 0] 3)).alloc (.cells #[.int .i64 0] 3)).heap[W.heap.size+1+1]?=some (.cells #[.int .i64 0] 3 (0,0)):=by have h9:=qa8 ((W.alloc (.cells #[.int .i64 0,.string ⟨#[]⟩,.slice none 0 0,.bool false,.bool false,.slice none 0 0,.slice none 0 0] 29)).alloc (.cells #[.int .i64 0] 3)) (.cells #[.int .i64 0] 3);rwa [show((W.alloc (.cells #[.int .i64 0,.string ⟨#[]⟩,.slice none 0 0,.bool false,.bool false,.slice none 0 0,.slice none 0 0] 29)).alloc (.cells #[.int .i64 0] 3)).heap.size=W.heap.size+1+1 by simp]at h9
  have h1:NdB w2 W.heap.size 0 ⟨#[]⟩ (.slice none 0 0) false false (.slice none 0 0) (.slice none 0 0):=(HB9.out.block W.heap.size (by simp;omega)).trans r1
  have h2:=(HB9.out.block (W.heap.size+1) (by simp)).trans r2
  have h3:=(HB9.out.block (W.heap.size+1+1) (by simp)).trans r3
  obtain⟨m0,m1,m2,m3,m4,m5,m6⟩:=h1.cells
  have f0:=h1.frz 0
  have f1:=h1.frz 1
  have f2:=h1.frz 2
  have f3:=h1.frz 3
  have f4:=h1.frz 4
  have f5:=h1.frz 5
  have f6:=h1.frz 6
  obtain⟨c2,z2⟩:=qar h2
  obtain⟨c3,z3⟩:=qar h3
  have HNA:=zh (hm2.nds j x hx)
  have HH1:=zh h1
  have HH2:=zh h2
  have HH3:=zh h3
  clear hm2 hx2 hj hx hNd hAj r1 r2 r3 h1 h2 h3
  go_wp2_with fail
  obtain⟨s5,s2,n0,n1,n2,n3,n4,n5,n6⟩:=HS.out w2 (fun _ _=>rfl)
  refine wp_region_noPanic ?_
  go_region
  all_goals refine NoPanic.normal ?_
  all_goals go_wp2_with fail
  have hres:=qom (w:=w2) W.heap.size (W.heap.size+1) (W.heap.size+1+1) (k:=ka) (t:=ta) (lv:=.slice la1 la2 la3) (br:=ra) (bl:=qa) (nv:=.slice na1 na2 na3) (tv:=.slice va1 va2 va3) (x':=.int .i64 (τ.i:Int)) (y':=.int .i64 0) HH1.out HH2.out HH3.out (by omega) (by omega)
  generalize(((((((((w2.setCell ⟨W.heap.size,0,none⟩ (.int .i64 ka)).setCell ⟨W.heap.size,1,none⟩ (.string ta)).setCell ⟨W.heap.size,2,none⟩ (.slice la1 la2 la3)).setCell ⟨W.heap.size,3,none⟩ (.bool ra)).setCell ⟨W.heap.size,4,none⟩ (.bool qa)).setCell ⟨W.heap.size,5,none⟩ (.slice na1 na2 na3)).setCell ⟨W.heap.size,6,none⟩ (.slice va1 va2 va3)).setCell ⟨W.heap.size+1,0,none⟩ (.int .i64 (τ.i:Int))).setCell ⟨W.heap.size+1+1,0,none⟩ (.int .i64 0))=wf at hres⊢
  clear m0 m1 m2 m3 m4 m5 m6 f0 f1 f2 f3 f4 f5 f6 c2 z2 c3 z3 s5 s2 n0 n1 n2 n3 n4 n5 n6
  obtain⟨k1,k2,k3,k4,k5⟩:=hres
  obtain⟨m0,m1,m2,m3,m4,m5,m6⟩:=k1.cells
  have c2:=(qar k2).1
  have c3:=(qar k3).1
  have HBF:Hid (Below W.heap.size W wf.drew):=zh ((HBW.out.trans (HB9.out.mono (by simp;omega))).trans k4).drew
  have HAT:Hid (NdIn wf.drew (fun q=>W.heap.size<=q) [.int .i64 ka,.string ta,.slice la1 la2 la3,.bool ra,.bool qa,.slice na1 na2 na3,.slice va1 va2 va3] x):=zh (by
   obtain⟨c',h7,hc',hn,ho⟩:=HNA.out.cells7
   have e:c'=[.int .i64 ka,.string ta,.slice la1 la2 la3,.bool ra,.bool qa,.slice na1 na2 na3,.slice va1 va2 va3]:=by
    have h8:=HND.out
    unfold NdB at h8
    rw[hc']at h8
    simpa using h8
   subst e
   exact(hn.keep (W':=wf.drew) ⟨k4.size,fun q hq hl=>k5 q (by have:=hq.elim (·.2) (·.2);simp at this;omega) (by have:=hq.elim (·.2) (·.2);simp at this;omega) (by have:=hq.elim (·.2) (·.2);simp at this;omega)⟩).weak (fun q hq _=>by have:=hq.elim (·.2) (·.2);simp at this;omega))
  clear k1 k2 k3 k4 k5
  refine leaves_cons (f:=60) (args:= #[.pointer (some ⟨W.heap.size,0,none⟩),.pointer (some ⟨W.heap.size+1,0,none⟩),.pointer (some ⟨W.heap.size+1+1,0,none⟩)]) (by simp) (by simp[go_sem]) ?_
  refine(qlk _ _ _ _).mono ?_
  rintro e u' w'' ⟨rfl,rfl,rfl⟩
  simp[Leaves,settle,results,Tryz.results34,go_sem,m0,m1,m2,m3,m4,m5,m6,c2,c3]
  exact⟨HBF.out,_,x,j,HJ.out,HX.out,rfl,HAT.out⟩
theorem qfj{W:World}{s:ByteArray}{la:Option Addr}{ln lc:Nat}{fr to_:Int}{f:Value}(hbad:fr<0\/to_<fr\/(ln:Int)<to_):
 Calls Tryz.prog 34 #[.string s,.slice la ln lc,.int .i64 fr,.int .i64 to_,f] W (AO (.error .die) W):=by
 have hmf: ∀(fn:Fn) (first cap:Array Value) (w:World),(Instr.makeFunc fn first cap).run Tryz.prog w=.ok (.func fn first cap) w:=fun _ _ _ _=>rfl
 have HBW:Hid (Below W.heap.size W (((W.alloc (.cells #[.int .i64 0,.string ⟨#[]⟩,.slice none 0 0,.bool false,.bool false,.slice none 0 0,.slice none 0 0] 29)).alloc (.cells #[.int .i64 0] 3)).alloc (.cells #[.int .i64 0] 3))):=zh (((qa1 _ _).trans ((qa1 _ _).mono (by simp))).trans ((qa1 _ _).mono (by simp;omega)))
 have r1:(((W.alloc (.cells #[.int .i64 0,.string ⟨#[]⟩,.slice none 0 0,.bool false,.bool false,.slice none 0 0,.slice none 0 0] 29)).alloc (.cells #[.int .i64 0] 3)).alloc (.cells #[.int .i64 0] 3)).heap[W.heap.size]?=some (.cells #[.int .i64 0,.string ⟨#[]⟩,.slice none 0 0,.bool false,.bool false,.slice none 0 0,.slice none 0 0] 29 (0,0)):=(zA _ _ _ (by simp;omega)).trans ((zA _ _ _ (by simp)).trans (qa8 W _))
 have r2:(((W.alloc (.cells #[.int .i64 0,.string ⟨#[]⟩,.slice none 0 0,.bool false,.bool false,.slice none 0 0,.slice none 0 0] 29)).alloc (.cells #[.int .i64 0] 3)).alloc (.cells #[.int .i64 0] 3)).heap[W.heap.size+1]?=some (.cells #[.int .i64 0] 3 (0,0)):=(zA _ _ _ (by simp)).trans (by have h9:=qa8 (W.alloc (.cells #[.int .i64 0,.string ⟨#[]⟩,.slice none 0 0,.bool false,.bool false,.slice none 0 0,.slice none 0 0] 29)) (.cells #[.int .i64 0] 3);rwa [show(W.alloc (.cells #[.int .i64 0,.string ⟨#[]⟩,.slice none 0 0,.bool false,.bool false,.slice none 0 0,.slice none 0 0] 29)).heap.size=W.heap.size+1 by simp]at h9)
 have r3:(((W.alloc (.cells #[.int .i64 0,.string ⟨#[]⟩,.slice none 0 0,.bool false,.bool false,.slice none 0 0,.slice none 0 0] 29)).alloc (.cells #[.int .i64 0] 3)).alloc (.cells #[.int .i64 0] 3)).heap[W.heap.size+1+1]?=some (.cells #[.int .i64 0] 3 (0,0)):=by have h9:=qa8 ((W.alloc (.cells #[.int .i64 0,.string ⟨#[]⟩,.slice none 0 0,.bool false,.bool false,.slice none 0 0,.slice none 0 0] 29)).alloc (.cells #[.int .i64 0] 3)) (.cells #[.int .i64 0] 3);rwa [show((W.alloc (.cells #[.int .i64 0,.string ⟨#[]⟩,.slice none 0 0,.bool false,.bool false,.slice none 0 0,.slice none 0 0] 29)).alloc (.cells #[.int .i64 0] 3)).heap.size=W.heap.size+1+1 by simp]at h9
 have h1:=((Below.refl (((W.alloc (.cells #[.int .i64 0,.string ⟨#[]⟩,.slice none 0 0,.bool false,.bool false,.slice none 0 0,.slice none 0 0] 29)).alloc (.cells #[.int .i64 0] 3)).alloc (.cells #[.int .i64 0] 3)).heap.size (((W.alloc (.cells #[.int .i64 0,.string ⟨#[]⟩,.slice none 0 0,.bool false,.bool false,.slice none 0 0,.slice none 0 0] 29)).alloc (.cells #[.int .i64 0] 3)).alloc (.cells #[.int .i64 0] 3))).block W.heap.size (by simp;omega)).trans r1
 have h2:=((Below.refl (((W.alloc (.cells #[.int .i64 0,.string ⟨#[]⟩,.slice none 0 0,.bool false,.bool false,.slice none 0 0,.slice none 0 0] 29)).alloc (.cells #[.int .i64 0] 3)).alloc (.cells #[.int .i64 0] 3)).heap.size (((W.alloc (.cells #[.int .i64 0,.string ⟨#[]⟩,.slice none 0 0,.bool false,.bool false,.slice none 0 0,.slice none 0 0] 29)).alloc (.cells #[.int .i64 0] 3)).alloc (.cells #[.int .i64 0] 3))).block (W.heap.size+1) (by simp)).trans r2
 have h3:=((Below.refl (((W.alloc (.cells #[.int .i64 0,.string ⟨#[]⟩,.slice none 0 0,.bool false,.bool false,.slice none 0 0,.slice none 0 0] 29)).alloc (.cells #[.int .i64 0] 3)).alloc (.cells #[.int .i64 0] 3)).heap.size (((W.alloc (.cells #[.int .i64 0,.string ⟨#[]⟩,.slice none 0 0,.bool false,.bool false,.slice none 0 0,.slice none 0 0] 29)).alloc (.cells #[.int .i64 0] 3)).alloc (.cells #[.int .i64 0] 3))).block (W.heap.size+1+1) (by simp)).trans r3
 have HH1:=zh h1
 have HH2:=zh h2
 have HH3:=zh h3
 clear r1 r2 r3 h1 h2 h3
 have walk: ∀(P:Prop),P->P:=fun _ h=>h
 by_cases a1:fr<0
 ·have d1:decide (fr≥0)=false:=decide_eq_false (by omega)
  have e1: ¬(0:Int)<=fr:=by omega
  clear hbad a1 walk
  go_enter_defers Tryz.func34,Tryz.ntmps34
  go_wp2_with fail
  refine(qaq _).mono ?_
  rintro e w9 ⟨⟨u,pv,rfl⟩,rfl⟩
  go_wp2_with fail
  refine leaves_cons (f:=60) (args:= #[.pointer (some ⟨W.heap.size,0,none⟩),.pointer (some ⟨W.heap.size+1,0,none⟩),.pointer (some ⟨W.heap.size+1+1,0,none⟩)]) (by simp) (by simp[go_sem]) ?_
  refine(qdm W.heap.size (W.heap.size+1) (W.heap.size+1+1) _ _ _ _ HH1.out HH2.out HH3.out (by omega) (by omega)).mono ?_
  rintro e u' w'' ⟨rfl,rfl,hnd,h2,h3,hbl⟩
  obtain⟨m0,m1,m2,m3,m4,m5,m6⟩:=hnd.cells
  have c2:=(qar h2).1
  have c3:=(qar h3).1
  have HBF:Hid (Below W.heap.size W w''):=zh (HBW.out.trans hbl)
  clear hnd h2 h3 hbl
  simp[Leaves,settle,results,Tryz.results34,go_sem,m0,m1,m2,m3,m4,m5,m6,c2,c3]
  exact⟨HBF.out,rfl⟩
 by_cases a2:to_<fr
 ·have d1:decide (fr≥0)=true:=decide_eq_true (by omega)
  have e1:(0:Int)<=fr:=by omega
  have d2:decide (fr<=to_)=false:=decide_eq_false (by omega)
  have e2: ¬fr<=to_:=by omega
  clear hbad a1 a2 walk
  go_enter_defers Tryz.func34,Tryz.ntmps34
  go_wp2_with fail
  refine(qaq _).mono ?_
  rintro e w9 ⟨⟨u,pv,rfl⟩,rfl⟩
  go_wp2_with fail
  refine leaves_cons (f:=60) (args:= #[.pointer (some ⟨W.heap.size,0,none⟩),.pointer (some ⟨W.heap.size+1,0,none⟩),.pointer (some ⟨W.heap.size+1+1,0,none⟩)]) (by simp) (by simp[go_sem]) ?_
  refine(qdm W.heap.size (W.heap.size+1) (W.heap.size+1+1) _ _ _ _ HH1.out HH2.out HH3.out (by omega) (by omega)).mono ?_
  rintro e u' w'' ⟨rfl,rfl,hnd,h2,h3,hbl⟩
  obtain⟨m0,m1,m2,m3,m4,m5,m6⟩:=hnd.cells
  have c2:=(qar h2).1
  have c3:=(qar h3).1
  have HBF:Hid (Below W.heap.size W w''):=zh (HBW.out.trans hbl)
  clear hnd h2 h3 hbl
  simp[Leaves,settle,results,Tryz.results34,go_sem,m0,m1,m2,m3,m4,m5,m6,c2,c3]
  exact⟨HBF.out,rfl⟩
 ·have d1:decide (fr≥0)=true:=decide_eq_true (by omega)
  have e1:(0:Int)<=fr:=by omega
  have d2:decide (fr<=to_)=true:=decide_eq_true (by omega)
  have e2:fr<=to_:=by omega
  have d3:decide (to_<=(ln:Int))=false:=decide_eq_false (by omega)
  have e3: ¬to_<=(ln:Int):=by omega
  clear hbad a1 a2 walk
  go_enter_defers Tryz.func34,Tryz.ntmps34
  go_wp2_with fail
  refine(qaq _).mono ?_
  rintro e w9 ⟨⟨u,pv,rfl⟩,rfl⟩
  go_wp2_with fail
  refine leaves_cons (f:=60) (args:= #[.pointer (some ⟨W.heap.size,0,none⟩),.pointer (some ⟨W.heap.size+1,0,none⟩),.pointer (some ⟨W.heap.size+1+1,0,none⟩)]) (by simp) (by simp[go_sem]) ?_
  refine(qdm W.heap.size (W.heap.size+1) (W.heap.size+1+1) _ _ _ _ HH1.out HH2.out HH3.out (by omega) (by omega)).mono ?_
  rintro e u' w'' ⟨rfl,rfl,hnd,h2,h3,hbl⟩
  obtain⟨m0,m1,m2,m3,m4,m5,m6⟩:=hnd.cells
  have c2:=(qar h2).1
  have c3:=(qar h3).1
  have HBF:Hid (Below W.heap.size W w''):=zh (HBW.out.trans hbl)
  clear hnd h2 h3 hbl
  simp[Leaves,settle,results,Tryz.results34,go_sem,m0,m1,m2,m3,m4,m5,m6,c2,c3]
  exact⟨HBF.out,rfl⟩
end Go.Proofs.YtdhadeeajgoedaaGreat
