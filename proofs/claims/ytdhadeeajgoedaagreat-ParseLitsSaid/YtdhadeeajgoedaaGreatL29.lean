import Derived.Test.YtdhadeeajgoedaaGreatL02
import Derived.Test.YtdhadeeajgoedaaGreatL15
import Derived.Test.YtdhadeeajgoedaaGreatL25
import Derived.Lib.BufferMore
set_option maxRecDepth 100000
set_option maxHeartbeats 4000000
set_option linter.all false
open Go.RowKit.Below renaming heap_setCell→zA
open Nat renaming le_refl→zB,lt_of_lt_of_le→zC
open Go.World renaming cell?_of_block→zD,setCell→zE
namespace Go.Proofs.YtdhadeeajgoedaaGreat
open Go.RowKit Go.PlainAid
section
variable{P:Program}{a:Act}{w:World}{Q:Exit->Act->World->Prop}
theorem qd5{c r0:Code}(J:Nat->Act->World->Prop)(h0:findLabel c 0=some (Code.skip.seq r0))
 (pass: ∀n a w,J n a w->r0.wp P (qdf (fun l a' w'=>l=0/\ ∃m,m<n/\J m a' w') Q) a w)
 (first:(∀n a w,J n a w->r0.wp P (qdf (fun l a' w'=>l=0/\ ∃m,J m a' w') Q) a w)->c.wp P (qdf (fun l a' w'=>l=0/\ ∃m,J m a' w') Q) a w):(Code.scope c).wp P Q a w:=by
 intro b k cs
 have key: ∀n a w,J n a w-> ∃e a' w',Q e a' w'/\Arrives P (lone (b.at a (.code (Code.skip.seq r0):: .inScope c::k)) cs w) b k cs e a' w':=by
  intro n
  induction n using Nat.strongRecOn with
  | _ n ih=>
   intro a w hJ
   obtain⟨e,a₁,w₁,hq,harr⟩:=(show(Code.skip.seq r0).wp P _ a w from wp_seq (wp_skip (pass n a w hJ))) b (.inScope c::k) cs
   cases e with
   | normal=>exact⟨.normal,a₁,w₁,hq,Steps.trans harr (.one step_inScope)⟩
   | exit id=>exact⟨.exit id,a₁,w₁,hq,fun k' hk=>harr k' (by simp[exitTo,hk])⟩
   | goto l'=>
    obtain⟨rfl,m,hm,hj⟩:=(show l'=0/\ ∃m,m<n/\J m a₁ w₁ from hq)
    obtain⟨e₂,a₂,w₂,hq₂,harr₂⟩:=ih m hm a₁ w₁ hj
    have hg:gotoIn 0 (.inScope c::k)=some (.code (Code.skip.seq r0):: .inScope c::k):=by simp[gotoIn,h0]
    exact⟨e₂,a₂,w₂,hq₂,.of_steps (harr _ hg) harr₂⟩
   | ret=>exact⟨_,a₁,w₁,hq,harr⟩
   | panic ch=>exact⟨_,a₁,w₁,hq,harr⟩
   | outgrown=>exact⟨_,a₁,w₁,hq,harr⟩
 have hfirst:=first (fun n a w hJ=>qt9 (fun e a' w' hq=>by
  cases e with
  | goto l'=>
   obtain⟨h1,m,hm,hj⟩:=(show l'=0/\ ∃m,m<n/\J m a' w' from hq)
   exact⟨h1,m,hj⟩
  | normal=>exact hq
  | exit id=>exact hq
  | ret=>exact hq
  | panic ch=>exact hq
  | outgrown=>exact hq) (pass n a w hJ))
 obtain⟨e,a₁,w₁,hq,harr⟩:=hfirst b (.inScope c::k) cs
 cases e with
 | normal=>exact⟨.normal,a₁,w₁,hq,.head step_scope (Steps.trans harr (.one step_inScope))⟩
 | exit id=>exact⟨.exit id,a₁,w₁,hq,fun k' hk=>.head step_scope (harr k' (by simp[exitTo,hk]))⟩
 | goto l=>
  obtain⟨rfl,m,hj⟩:=(show l=0/\ ∃m,J m a₁ w₁ from hq)
  obtain⟨e₂,a₂,w₂,hq₂,harr₂⟩:=key m a₁ w₁ hj
  have hg:gotoIn 0 (.inScope c::k)=some (.code (Code.skip.seq r0):: .inScope c::k):=by simp[gotoIn,h0]
  exact⟨e₂,a₂,w₂,hq₂,.of_steps (.head step_scope (harr _ hg)) harr₂⟩
 | ret=>exact⟨_,a₁,w₁,hq,.of_steps (.one step_scope) harr⟩
 | panic ch=>exact⟨_,a₁,w₁,hq,.of_steps (.one step_scope) harr⟩
 | outgrown=>exact⟨_,a₁,w₁,hq,.of_steps (.one step_scope) harr⟩
end
def qth(s:ByteArray)(E:Env)(tv:Value):Prop:= ∀(W:World) (k:Nat),k<=E.to->TRow W tv (E.T.take E.to)->
 (Calls Tryz.prog 142 #[.string s,tv,.int .i64 (k:Int)] W fun e W'=>e=.returned (.bool (decide (0<E.nl (k:Int))))/\Below W.heap.size W W')/\
 (Calls Tryz.prog 110 #[.string s,tv,.int .i64 (k:Int)] W fun e W'=>e=.returned (.bool (decide (2<=E.nl (k:Int))))/\Below W.heap.size W W')
structure RdM (W:World) (g:Nat) (s:ByteArray) (E:Env) (tv td np:Value) (i past:Nat):Prop where
 blk:W.heap[g]?=some (.cells #[.string s,tv,.int .i64 (i:Int),.int .i64 (past:Int),td,np] 84 (0,0))
 row:TRow W tv (E.T.take E.to)
 ne:tv.ownBlock≠some g
 tl:E.to<=E.T.length
 len:E.T.length<=1048576
 il:i<=E.to
 pt:past<=E.to
 pn: ∀k,i<=k->k<past->(E.tk k).1=11
 nf: ∀b,tv.ownBlock=some b->b<W.heap.size
 sz: ∀k,(E.tk k).2.1.size<=1048576
 gp:qth s E tv
 cp: ∀a l c,tv=.slice a l c->l<=c
theorem qn8(E:Env)(h:E.to<=E.T.length):(E.T.take E.to).length=E.to:=by rw[List.length_take];omega
section
variable{W:World}{g:Nat}{s:ByteArray}{E:Env}{tv td np:Value}{i past:Nat}
theorem RdM.cells(h:RdM W g s E tv td np i past):W.cell? ⟨g,0,none⟩=some (.string s)/\W.cell? ⟨g,1,none⟩=some tv/\W.cell? ⟨g,2,none⟩=some (.int .i64 (i:Int))/\W.cell? ⟨g,3,none⟩=some (.int .i64 (past:Int))/\W.cell? ⟨g,4,none⟩=some td/\W.cell? ⟨g,5,none⟩=some np:=
 ⟨by rw[cell_of_row W _ _ _ _ _ h.blk];rfl,by rw[cell_of_row W _ _ _ _ _ h.blk];rfl,by rw[cell_of_row W _ _ _ _ _ h.blk];rfl,by rw[cell_of_row W _ _ _ _ _ h.blk];rfl,by rw[cell_of_row W _ _ _ _ _ h.blk];rfl,by rw[cell_of_row W _ _ _ _ _ h.blk];rfl⟩
theorem RdM.frz(h:RdM W g s E tv td np i past)(j:Nat):W.frozen? ⟨g,j,none⟩=false:=qaw h.blk j
theorem RdM.lt(h:RdM W g s E tv td np i past):g<W.heap.size:=lt_of_block h.blk
theorem RdM.below{W':World}(h:RdM W g s E tv td np i past)(hb:Below W.heap.size W W'):RdM W' g s E tv td np i past:=
 ⟨(hb.block _ h.lt).trans h.blk,h.row.below hb,h.ne,h.tl,h.len,h.il,h.pt,h.pn,fun b e=>zC (h.nf b e) hb.size,h.sz,h.gp,h.cp⟩
theorem RdM.drew_(h:RdM W g s E tv td np i past):RdM W.drew g s E tv td np i past:=h.below (Below.drew (Below.refl _ _))
theorem RdM.sl(h:RdM W g s E tv td np i past): ∃a cap,tv=.slice a E.to cap:=by
 obtain⟨a,cap,e,-⟩:=h.row
 rw[qn8 E h.tl]at e
 exact⟨a,cap,e⟩
theorem RdM.tok(h:RdM W g s E tv td np i past){k:Nat}(hk:k<E.to): ∃b o cap,tv=.slice (some ⟨b,o,none⟩) E.to cap/\W.cell? ⟨b,o+k*3,none⟩=some (.int .i64 (E.tk k).1)/\W.cell? ⟨b,o+k*3+1,none⟩=some (.string (E.tk k).2.1)/\W.cell? ⟨b,o+k*3+2,none⟩=some (.int .i64 (E.tk k).2.2):=by
 have hl:=qn8 E h.tl
 obtain⟨a,cap,e,h2⟩:=h.row
 rw[hl]at e h2
 subst e
 obtain⟨b,o,rfl,-,h3⟩:=h2 (by omega)
 have e:(E.T.take E.to)[k]?=some (E.tk k):=by
  rw[List.getElem?_take_of_lt hk]
  unfold Env.tk
  rw[List.getD_eq_getElem?_getD,List.getElem?_eq_getElem (by have:=h.tl;omega)];rfl
 obtain⟨c1,c2,c3⟩:=h3 k _ e
 exact⟨b,o,cap,rfl,c1,c2,c3⟩
theorem qde{W W':World}{v:Value}{T:List Tok}{g:Nat}(h:TRow W v T)(hb:W.grownBy W' (some g))(hn:v.ownBlock≠some g):TRow W' v T:=by
 obtain⟨a,cap,rfl,h2⟩:=h
 refine⟨a,cap,rfl,fun h0=>?_⟩
 obtain⟨b,o,rfl,g2,g3⟩:=h2 h0
 have e:W'.heap[b]?=W.heap[b]?:=hb.block b g2 (fun e=>hn e)
 refine⟨b,o,rfl,zC g2 hb.size,fun i x hx=>?_⟩
 obtain⟨c1,c2,c3⟩:=g3 i x hx
 exact⟨(zD (w:=W) e).trans c1,(zD (w:=W) e).trans c2,(zD (w:=W) e).trans c3⟩
theorem qb1(W:World)(g j:Nat)(u:Value):W.grownBy (W.setCell ⟨g,j,none⟩ u) (some g):=⟨by simp[zE],by simp[zE],by simp[zE],by simp,fun k _ hne=>zA _ _ _ _ (by intro e;exact hne (by rw[e]))⟩
theorem RdM.setI(h:RdM W g s E tv td np i past){i':Nat}(hi:i<=i')(hi2:i'<=E.to):RdM (W.setCell ⟨g,2,none⟩ (.int .i64 (i':Int))) g s E tv td np i' past/\W.grownBy (W.setCell ⟨g,2,none⟩ (.int .i64 (i':Int))) (some g):=by
 have hg:=qb1 W g 2 (.int .i64 (i':Int))
 refine⟨⟨?_,qde h.row hg h.ne,h.ne,h.tl,h.len,hi2,h.pt,fun k h1 h2=>h.pn k (by omega) h2,fun b e=>zC (h.nf b e) hg.size,h.sz,h.gp,h.cp⟩,hg⟩
 have:=Lib.heap_setCell_same (i:=2) h.blk (.int .i64 (i':Int))
 simpa using this
theorem RdM.setP(h:RdM W g s E tv td np i past){p':Nat}(hp:p'<=E.to)(hn: ∀k,i<=k->k<p'->(E.tk k).1=11):RdM (W.setCell ⟨g,3,none⟩ (.int .i64 (p':Int))) g s E tv td np i p'/\W.grownBy (W.setCell ⟨g,3,none⟩ (.int .i64 (p':Int))) (some g):=by
 have hg:=qb1 W g 3 (.int .i64 (p':Int))
 refine⟨⟨?_,qde h.row hg h.ne,h.ne,h.tl,h.len,h.il,hp,hn,fun b e=>zC (h.nf b e) hg.size,h.sz,h.gp,h.cp⟩,hg⟩
 have:=Lib.heap_setCell_same (i:=3) h.blk (.int .i64 (p':Int))
 simpa using this
theorem RdM.set(h:RdM W g s E tv td np i past){b:Nat}(hb:b≠g)(hv:tv.ownBlock≠some b)(j:Nat)(u:Value):RdM (W.setCell ⟨b,j,none⟩ u) g s E tv td np i past:=
 ⟨(zA _ _ _ _ (fun e=>hb e.symm)).trans h.blk,qde h.row (qb1 W b j u) hv,h.ne,h.tl,h.len,h.il,h.pt,h.pn,fun b' e=>zC (h.nf b' e) (qb1 W b j u).size,h.sz,h.gp,h.cp⟩
theorem RdM.setT(h:RdM W g s E tv td np i past)(u:Value):RdM (W.setCell ⟨g,4,none⟩ u) g s E tv u np i past/\W.grownBy (W.setCell ⟨g,4,none⟩ u) (some g):=by
 have hg:=qb1 W g 4 u
 refine⟨⟨?_,qde h.row hg h.ne,h.ne,h.tl,h.len,h.il,h.pt,h.pn,fun b e=>zC (h.nf b e) hg.size,h.sz,h.gp,h.cp⟩,hg⟩
 have:=Lib.heap_setCell_same (i:=4) h.blk u
 simpa using this
theorem RdM.setN(h:RdM W g s E tv td np i past)(u:Value):RdM (W.setCell ⟨g,5,none⟩ u) g s E tv td u i past/\W.grownBy (W.setCell ⟨g,5,none⟩ u) (some g):=by
 have hg:=qb1 W g 5 u
 refine⟨⟨?_,qde h.row hg h.ne,h.ne,h.tl,h.len,h.il,h.pt,h.pn,fun b e=>zC (h.nf b e) hg.size,h.sz,h.gp,h.cp⟩,hg⟩
 have:=Lib.heap_setCell_same (i:=5) h.blk u
 simpa using this
end
theorem qiy(E:Env): ∀n i,E.to-i=n-> ∀k,i<=k->k<E.pk i->(E.tk k).1=11
 | 0,i,hn,k,h1,h2=>by
  have:=qex E (E.to-i) i
  unfold Env.pk at h2
  omega
 | n+1,i,hn,k,h1,h2=>by
  by_cases hc:(E.tk i).1=11
  ·by_cases hk:k=i
   ·rw[hk];exact hc
   ·rw[qfd (by omega) hc]at h2
    exact qiy E n (i+1) (by omega) k (by omega) h2
  ·rw[qdl (.inr hc)]at h2
   omega
theorem qqz(E:Env){i:Nat}: ∀p,i<=p->p<=E.to->(∀k,i<=k->k<p->(E.tk k).1=11)->E.pk p=E.pk i:=by
 intro p
 induction p with
 | zero=>intro h _ _;obtain rfl:i=0:=by omega
         rfl
 | succ p ih=>
  intro h1 h2 h3
  by_cases he:i=p+1
  ·rw[he]
  ·rw[<-ih (by omega) (by omega) (fun k a b=>h3 k a (by omega)),qfd (i:=p) (by omega) (h3 p (by omega) (by omega))]
theorem nx_in{E:Env}{i:Nat}(h:E.pk i<E.to):nxE E i=E.tk (E.pk i):=qeb h rfl
theorem qht{E:Env}{i:Nat}(h: ¬E.pk i<E.to):nxE E i=tk0:=qoi (fun e=>h e.1)
theorem qjq{A B:World}{b g:Nat}(h:A.grownBy B (some g))(hb:A.heap.size<=b)(x y z:Value):A.grownBy (((B.setCell ⟨b,0,none⟩ x).setCell ⟨b,1,none⟩ y).setCell ⟨b,2,none⟩ z) (some g):=by
 refine⟨by simp only[zE];exact h.os,by simp only[zE];exact h.tape,by simp only[zE];exact h.output,by simpa using h.size,fun j hj hne=>?_⟩
 rw[zA _ _ _ _ (by show j≠b;omega),zA _ _ _ _ (by show j≠b;omega),zA _ _ _ _ (by show j≠b;omega)]
 exact h.block j hj hne
def nextJ(W:World)(g:Nat)(s:ByteArray)(E:Env)(tv td np:Value)(i:Nat)(n:Nat)(a':Act)(w':World):Prop:=
 ∃q:Nat,n=E.to-q/\Hid (i<=q/\E.pk q=E.pk i)/\Hid (RdM w' g s E tv td np i q)/\Hid (W.grownBy w' (some g))/\w'.heap[W.heap.size]?=some (.cells #[.int .i64 0,.string ⟨#[]⟩,.int .i64 0] 34 (0,0))/\
  ∃(u1 u3 u4 u5 u6 u7 u8 u9 u10 u11 u12 u13 u14 u15 u16 u17 u18 u19 u20 u21 u22 u23 u24 u25 u26 u27 u28 u29 u30 u31 u32 u33 u34 u35 u36 u37 u38 u39 u40 u41 u42 u43 u44 u45 u46 u47 u48 u49 u50 u51 u52 u53 u54:Value),a'= { tmps:= #[.pointer (some ⟨g,0,none⟩),u1,.pointer (some ⟨W.heap.size,0,none⟩),u3,u4,u5,u6,u7,u8,u9,u10,u11,u12,u13,u14,u15,u16,u17,u18,u19,u20,u21,u22,u23,u24,u25,u26,u27,u28,u29,u30,u31,u32,u33,u34,u35,u36,u37,u38,u39,u40,u41,u42,u43,u44,u45,u46,u47,u48,u49,u50,u51,u52,u53,u54],defers:=[] }
theorem qa9{A B C:World}{g:Option Nat}(h:A.grownBy B g)(k:B.grownBy C g):A.grownBy C g:=
 ⟨k.os.trans h.os,k.tape.trans h.tape,k.output.trans h.output,Nat.le_trans h.size k.size,fun j hj hne=>(k.block j (zC hj h.size) hne).trans (h.block j hj hne)⟩
theorem qnk{A B:World}{g:Option Nat}(h:A.grownBy B g):A.grownBy B.drew g:=⟨h.os,h.tape,h.output,h.size,h.block⟩
theorem qau{A B:World}(g:Option Nat)(h:Below A.heap.size A B):A.grownBy B g:=⟨h.os,h.tape,h.output,h.size,fun j hj _=>h.block j hj⟩
theorem qdi{A B:World}{g:Option Nat}{n:Nat}(h:A.grownBy B g):A.grownBy (B.drewN n) g:=qa9 h (qau g (qab _ _))
theorem qdc{W:World}{g:Nat}{s:ByteArray}{E:Env}{tv td np:Value}{i past:Nat}(h:RdM W g s E tv td np i past):
 Calls Tryz.prog 120 #[.pointer (some ⟨g,0,none⟩)] W fun e W'=>e=.returned (.agg #[.int .i64 (nxE E i).1,.string (nxE E i).2.1,.int .i64 (nxE E i).2.2])/\RdM W' g s E tv td np i (E.pk i)/\W.grownBy W' (some g):=by
 have HB1:=zh (qa1 W (.cells #[.int .i64 0,.string ⟨#[]⟩,.int .i64 0] 34))
 have h1:=h.below HB1.out
 obtain⟨c0,c1,c2,c3,c4,c5⟩:=h1.cells
 have f3:=h1.frz 3
 have HM:Hid (∀M:Nat,i<=M->M<=E.to->(∀k,i<=k->k<M->(E.tk k).1=11)->RdM ((W.alloc (.cells #[.int .i64 0,.string ⟨#[]⟩,.int .i64 0] 34)).setCell ⟨g,3,none⟩ (.int .i64 (M:Int))).drew g s E tv td np i M/\
  W.grownBy ((W.alloc (.cells #[.int .i64 0,.string ⟨#[]⟩,.int .i64 0] 34)).setCell ⟨g,3,none⟩ (.int .i64 (M:Int))).drew (some g)/\E.pk M=E.pk i/\
  (((W.alloc (.cells #[.int .i64 0,.string ⟨#[]⟩,.int .i64 0] 34)).setCell ⟨g,3,none⟩ (.int .i64 (M:Int))).drew.heap[W.heap.size]?=some (.cells #[.int .i64 0,.string ⟨#[]⟩,.int .i64 0] 34 (0,0)))):=zh fun M a b c=>by
  obtain⟨h2,hg2⟩:=h1.setP b c
  refine⟨h2.drew_,qnk (qa9 (qau (some g) HB1.out) hg2),qqz E M a b c,?_⟩
  show(((W.alloc (.cells #[.int .i64 0,.string ⟨#[]⟩,.int .i64 0] 34)).setCell ⟨g,3,none⟩ (.int .i64 (M:Int))).heap[W.heap.size]?=some (.cells #[.int .i64 0,.string ⟨#[]⟩,.int .i64 0] 34 (0,0)))
  rw[zA _ _ _ _ (by have:=h.lt;show W.heap.size≠g;omega)]
  show(W.heap.push _)[W.heap.size]?=_
  rw[Array.getElem?_push,if_pos rfl]
 have HTB:Hid (tv.ownBlock≠some W.heap.size):=zh (fun e=>by have:=h.nf _ e;omega)
 have HI:=zh (HM.out i (zB _) h.il (fun k a b=>by omega))
 have HP:=zh (fun e=>HM.out past e h.pt h.pn)
 clear h h1 HM
 go_enter Tryz.func120,Tryz.ntmps120
 go_wp2_with fail
 refine qd5 (nextJ W g s E tv td np i) rfl ?_ ?_
 ·rintro n a' w' ⟨q,hn,HQ1,HRD,HG,hr,u1,u3,u4,u5,u6,u7,u8,u9,u10,u11,u12,u13,u14,u15,u16,u17,u18,u19,u20,u21,u22,u23,u24,u25,u26,u27,u28,u29,u30,u31,u32,u33,u34,u35,u36,u37,u38,u39,u40,u41,u42,u43,u44,u45,u46,u47,u48,u49,u50,u51,u52,u53,u54,rfl⟩
  have hrd:=HRD.out
  obtain⟨c0,c1,c2,c3,c4,c5⟩:=hrd.cells
  obtain⟨r0,r1,r2⟩:w'.cell? ⟨W.heap.size,0,none⟩=some (.int .i64 0)/\w'.cell? ⟨W.heap.size,1,none⟩=some (.string ⟨#[]⟩)/\w'.cell? ⟨W.heap.size,2,none⟩=some (.int .i64 0):=⟨by rw[cell_of_row w' _ _ _ _ _ hr];rfl,by rw[cell_of_row w' _ _ _ _ _ hr];rfl,by rw[cell_of_row w' _ _ _ _ _ hr];rfl⟩
  have f3:=hrd.frz 3
  have f0:=qaw hr 0
  have f1:=qaw hr 1
  have f2:=qaw hr 2
  have hbg:W.heap.size≠g:=by
   intro e
   have h1:=hrd.blk
   rw[<-e,hr]at h1
   simp at h1
  have HGS:=zh (fun N x y z=>qjq (b:=W.heap.size) (qdi (n:=N) HG.out) (zB _) x y z)
  have HRS:=zh (fun N x y z=>(((hrd.below (qab w' N)).set hbg HTB.out 0 x).set hbg HTB.out 1 y).set hbg HTB.out 2 z)
  have hpt:=hrd.pt
  have hq6:q<2000000:=by have:=hrd.pt;have:=hrd.tl;have:=hrd.len;omega
  by_cases hlt:q<E.to
  ·obtain⟨b,o,cap,hv,t1,t2,t3⟩:=hrd.tok hlt
   have HNX:=zh (fun h N=>(hrd.below (qab w' N)).setP (p':=q+1) hlt (fun k a1 b1=>by
    by_cases hk:k=q
    ·rw[hk];exact h
    ·exact hrd.pn k a1 (by omega)))
   have hqt:((q:Int)==(E.to:Int))=false:=beq_false_of_ne (by omega)
   have qT:(q:Int)< (E.to:Int):=by omega
   subst hv
   obtain⟨K,hK⟩: ∃K,K=(E.tk q).1:=⟨_,rfl⟩
   rw[<-hK]at t1 HNX
   have HKK:=zh hK
   have HLT:=zh hlt
   by_cases hc:K=11
   ·have kc:(K==11)=true:=by rw[hc];rfl
    have HP1:=zh (qfd hlt (by rw[<-hK];exact hc))
    have HNX:=zh (HNX.out hc)
    have hR1:Hid (∀N,((w'.drewN N).setCell ⟨g,3,none⟩ (.int .i64 (((q+1:Nat)):Int))).heap[W.heap.size]?=some (.cells #[.int .i64 0,.string ⟨#[]⟩,.int .i64 0] 34 (0,0))):=zh (fun N=>by
     rw[zA _ _ _ _ hbg]
     exact hr)
    have e1:((q+1:Nat):Int)=(q:Int)+1:=by omega
    rw[e1]at HNX hR1
    clear hrd hr hc hK hlt e1
    go_wp2_with fail
    go_quiet (fail)
    go_wp2_with fail
    go_quiet (fail)
    go_wp2_with fail
    go_step3
    simp only[Exit.then]
    refine⟨rfl,E.to- (q+1),by have:=HLT.out;omega,q+1,rfl,zh ⟨by have:=HQ1.out;omega,by rw[<-HP1.out];exact HQ1.out.2⟩,zh ?_,zh ?_,?_,_,_,_,_,_,_,_,_,_,_,_,_,_,_,_,_,_,_,_,_,_,_,_,_,_,_,_,_,_,_,_,_,_,_,_,_,_,_,_,_,_,_,_,_,_,_,_,_,_,_,_,_,_,rfl⟩
    ·exact(HNX.out _).1
    ·exact qa9 (qdi HG.out) (HNX.out _).2
    ·exact hR1.out _
   ·have kc:(K==11)=false:=beq_false_of_ne hc
    have HP1:=zh (qdl (.inr (by rw[<-hK];exact hc)))
    have HX:Hid (nxE E i=E.tk q/\E.pk i=q):=zh (by
     have h1:E.pk i=q:=by rw[<-HQ1.out.2];exact HP1.out
     exact⟨by rw[nx_in (by rw[h1];exact HLT.out),h1],h1⟩)
    clear hrd hr hc hK hlt
    go_wp2_with fail
    go_quiet (fail)
    go_wp2_with fail
    go_quiet (fail)
    go_wp2_with fail
    go_region
    go_wp2_with fail
    rw[qgn]
    refine bodyPost_ret (v:=.agg #[.int .i64 K,.string (E.tk q).2.1,.int .i64 (E.tk q).2.2]) (by simp[results,Tryz.results120,go_sem,r0,r1,r2]) rfl ⟨by rw[HX.out.1,HKK.out],?_,HGS.out _ _ _ _⟩
    rw[HX.out.2]
    exact HRS.out _ _ _ _
  ·have hqt:((q:Int)==(E.to:Int))=true:=by simp;omega
   obtain⟨a,cap,hv⟩:=hrd.sl
   have HX:Hid (nxE E i=tk0):=zh (qht (by rw[<-HQ1.out.2,qdl (.inl (by omega))];exact hlt))
   subst hv
   have HQE:Hid (E.pk i=q):=zh (by rw[<-HQ1.out.2];exact qdl (.inl (by omega)))
   clear hrd hr hlt
   go_wp2_with fail
   go_quiet (fail)
   go_wp2_with fail
   rw[qgn]
   refine bodyPost_ret (v:=.agg #[.int .i64 0,.string ⟨#[]⟩,.int .i64 0]) (by simp[results,Tryz.results120,go_sem,r0,r1,r2]) rfl ⟨by rw[HX.out];rfl,?_,HGS.out _ _ _ _⟩
   rw[HQE.out]
   exact HRS.out _ _ _ _
 ·intro hp
  go_wp2_with fail
  go_region
  all_goals go_wp2_with fail
  all_goals go_step3
  all_goals rename_i hK
  ·refine hK _ _ (hp _ _ _ ⟨i,rfl,zh ⟨zB _,rfl⟩,zh HI.out.1,zh HI.out.2.1,HI.out.2.2.2,_,_,_,_,_,_,_,_,_,_,_,_,_,_,_,_,_,_,_,_,_,_,_,_,_,_,_,_,_,_,_,_,_,_,_,_,_,_,_,_,_,_,_,_,_,_,_,_,_,_,_,_,_,rfl⟩)
  ·refine hK _ _ (hp _ _ _ ⟨past,rfl,zh ⟨by omega,(HP.out (by omega)).2.2.1⟩,zh (HP.out (by omega)).1,zh (HP.out (by omega)).2.1,(HP.out (by omega)).2.2.2,_,_,_,_,_,_,_,_,_,_,_,_,_,_,_,_,_,_,_,_,_,_,_,_,_,_,_,_,_,_,_,_,_,_,_,_,_,_,_,_,_,_,_,_,_,_,_,_,_,_,_,_,_,rfl⟩)
def Died(e:Ending):Prop:= ∃u pv,e=.panicked [{ v:=.iface u pv,recovered:=false }]
def RdO{α:Type}(r:Rs α)(W:World)(g:Nat)(s:ByteArray)(E:Env)(tv td np:Value)(val:α->Value)(pos:α->Nat)(e:Ending)(W':World):Prop:=
 W.grownBy W' (some g)/\match r with
  | .ok x=>e=.returned (val x)/\ ∃p,RdM W' g s E tv td np (pos x) p
  | .error _=>Died e
section
variable{W:World}{g:Nat}{s:ByteArray}{E:Env}{tv td np:Value}{i past:Nat}
theorem RdM.pk(h:RdM W g s E tv td np i past):i<=E.pk i/\E.pk i<=E.to:=qix E h.il
theorem qas(w:World):Calls Tryz.prog 61 #[.bool true] w fun e w'=>e=.returned (.tuple #[])/\w=w':=by
 go_enter Tryz.func61,Tryz.ntmps61
 go_wp2_with fail
 go_end0
 exact⟨rfl,rfl⟩
theorem qat(w:World):Calls Tryz.prog 61 #[.bool false] w fun e w'=>Died e/\w=w':=by
 go_enter Tryz.func61,Tryz.ntmps61
 go_wp2_with fail
 exact⟨rfl,⟨_,_,rfl⟩,rfl⟩
theorem qgs(h:RdM W g s E tv td np i past):
 Calls Tryz.prog 121 #[.pointer (some ⟨g,0,none⟩)] W fun e W'=>e=.returned (.bool (E.pk i==i))/\RdM W' g s E tv td np i (E.pk i)/\W.grownBy W' (some g):=by
 have HN:=zh (qdc h)
 have HPK:=zh h.pk
 obtain⟨K,hK⟩: ∃K,K=E.pk i:=⟨_,rfl⟩
 rw[<-hK]at HN HPK⊢
 clear h hK
 cases hc:(K==i)
 ·have hc2:((K:Int)==(i:Int))=false:=beq_false_of_ne (by have:=beq_eq_false_iff_ne.1 hc;omega)
  clear hc
  go_enter Tryz.func121,Tryz.ntmps121
  go_wp2_with fail
  refine HN.out.mono ?_
  rintro e w2 ⟨rfl,h2,hg2⟩
  obtain⟨c0,c1,c2,c3,c4,c5⟩:=h2.cells
  have HR:=zh h2
  have HG:=zh hg2
  clear h2 hg2
  go_wp2_with fail
  go_quiet (fail)
  go_wp2_with fail
  go_ret
  exact⟨rfl,HR.out.below (qab _ _),qdi HG.out⟩
 ·have hc2:((K:Int)==(i:Int))=true:=by have:=beq_iff_eq.1 hc;rw[this];simp
  clear hc
  go_enter Tryz.func121,Tryz.ntmps121
  go_wp2_with fail
  refine HN.out.mono ?_
  rintro e w2 ⟨rfl,h2,hg2⟩
  obtain⟨c0,c1,c2,c3,c4,c5⟩:=h2.cells
  have HR:=zh h2
  have HG:=zh hg2
  clear h2 hg2
  go_wp2_with fail
  go_quiet (fail)
  go_wp2_with fail
  go_ret
  exact⟨rfl,HR.out.below (qab _ _),qdi HG.out⟩
theorem qdv(h:RdM W g s E tv td np i past)(hp:E.pk i<E.to):
 Calls Tryz.prog 94 #[.pointer (some ⟨g,0,none⟩)] W (RdO (tkE E i) W g s E tv td np (fun _=>.tuple #[]) id):=by
 have HN:=zh (qgs h)
 have HMY:=zh (fun w=>qas w)
 have HMN:=zh (fun w=>qat w)
 have hi6:(i:Int)+1<=2000000:=by have:=h.pk;have:=h.tl;have:=h.len;omega
 cases hc:(E.pk i==i)
 ·rw[hc]at HN
  have HT:Hid (tkE E i=.error .die):=zh (by unfold tkE;rw[if_neg (beq_eq_false_iff_ne.1 hc)])
  clear h hc hp
  go_enter Tryz.func94,Tryz.ntmps94
  go_wp2_with fail
  refine HN.out.mono ?_
  rintro e w2 ⟨rfl,h2,hg2⟩
  have HG:=zh hg2
  clear h2 hg2
  go_wp2_with fail
  refine(HMN.out _).mono ?_
  rintro e w3 ⟨⟨u,pv,rfl⟩,rfl⟩
  go_wp2_with fail
  exact⟨rfl,HG.out,by rw[HT.out];exact⟨_,_,rfl⟩⟩
 ·rw[hc]at HN
  have HT:Hid (tkE E i=.ok (i+1)):=zh (by unfold tkE;rw[if_pos (beq_iff_eq.1 hc)])
  have HI:Hid (i+1<=E.to):=zh (by have:=beq_iff_eq.1 hc;omega)
  clear h hc hp
  go_enter Tryz.func94,Tryz.ntmps94
  go_wp2_with fail
  refine HN.out.mono ?_
  rintro e w2 ⟨rfl,h2,hg2⟩
  obtain⟨c0,c1,c2,c3,c4,c5⟩:=h2.cells
  have f2:=h2.frz 2
  have HR:=zh (h2.setI (i':=i+1) (by omega) HI.out)
  have e1:((i+1:Nat):Int)=(i:Int)+1:=by omega
  rw[e1]at HR
  have HG:=zh hg2
  clear h2 hg2 e1
  go_wp2_with fail
  refine(HMY.out _).mono ?_
  rintro e w3 ⟨rfl,rfl⟩
  go_wp2_with fail
  go_end0
  exact⟨qa9 HG.out HR.out.2,by rw[HT.out];exact⟨rfl,_,HR.out.1⟩⟩
theorem seesP_t(t:ByteArray)(h:RdM W g s E tv td np i past):
 Calls Tryz.prog 95 #[.pointer (some ⟨g,0,none⟩),.string t] W fun e W'=>e=.returned (.bool (E.is (pz i) 9 t.toList))/\RdM W' g s E tv td np i (E.pk i)/\W.grownBy W' (some g):=by
 have HA:=zh (qdc h)
 obtain⟨K,hK⟩: ∃K,K=(nxE E i).1:=⟨_,rfl⟩
 obtain⟨X,hX⟩: ∃X,X=(nxE E i).2.1:=⟨_,rfl⟩
 obtain⟨A,hA⟩: ∃A,A=(nxE E i).2.2:=⟨_,rfl⟩
 have HR:Hid (E.is (pz i) 9 t.toList=(K==9&&X.toList==t.toList)):=zh (by rw[hK,hX];rfl)
 rw[<-hK,<-hX,<-hA]at HA
 clear h hK hX hA
 cases kc:(K==9)
 ·have HR2:Hid (E.is (pz i) 9 t.toList=false):=zh (by rw[HR.out,kc];rfl)
  clear HR
  go_enter Tryz.func95,Tryz.ntmps95
  go_wp2_with fail
  refine HA.out.mono ?_
  rintro e w2 ⟨rfl,h2,hg2⟩
  have HR:=zh h2
  have HG:=zh hg2
  clear h2 hg2
  go_wp2_with fail
  go_ret
  exact⟨by rw[HR2.out];rfl,HR.out.below (qa1 _ _),qa9 HG.out (qau _ (qa1 _ _))⟩
 ·have HR2:Hid (E.is (pz i) 9 t.toList=(X.toList==t.toList)):=zh (by rw[HR.out,kc];rfl)
  clear HR
  go_enter Tryz.func95,Tryz.ntmps95
  go_wp2_with fail
  refine HA.out.mono ?_
  rintro e w2 ⟨rfl,h2,hg2⟩
  have HR:=zh h2
  have HG:=zh hg2
  clear h2 hg2
  go_wp2_with fail
  go_ret
  exact⟨by rw[HR2.out];rfl,HR.out.below (qa1 _ _),qa9 HG.out (qau _ (qa1 _ _))⟩
theorem qh3(t:Bs){b:Bool}(hb:E.is (pz i) 9 t=b)(h:RdM W g s E tv td np i past):
 Calls Tryz.prog 95 #[.pointer (some ⟨g,0,none⟩),.string ⟨t.toArray⟩] W fun e W'=>e=.returned (.bool b)/\RdM W' g s E tv td np i (E.pk i)/\W.grownBy W' (some g):=by
 have h9:=seesP_t ⟨t.toArray⟩ h
 rw[show(⟨t.toArray⟩:ByteArray).toList=t by rw[ByteArray.toList_eq],hb]at h9
 exact h9
theorem qtv(t:ByteArray)(h:RdM W g s E tv td np i past):
 Calls Tryz.prog 119 #[.pointer (some ⟨g,0,none⟩),.string t] W fun e W'=>e=.returned (.bool (E.is (pz i) 8 t.toList))/\RdM W' g s E tv td np i (E.pk i)/\W.grownBy W' (some g):=by
 have HA:=zh (qdc h)
 obtain⟨K,hK⟩: ∃K,K=(nxE E i).1:=⟨_,rfl⟩
 obtain⟨X,hX⟩: ∃X,X=(nxE E i).2.1:=⟨_,rfl⟩
 obtain⟨A,hA⟩: ∃A,A=(nxE E i).2.2:=⟨_,rfl⟩
 have HR:Hid (E.is (pz i) 8 t.toList=(K==8&&X.toList==t.toList)):=zh (by rw[hK,hX];rfl)
 rw[<-hK,<-hX,<-hA]at HA
 clear h hK hX hA
 cases kc:(K==8)
 ·have HR2:Hid (E.is (pz i) 8 t.toList=false):=zh (by rw[HR.out,kc];rfl)
  clear HR
  go_enter Tryz.func119,Tryz.ntmps119
  go_wp2_with fail
  refine HA.out.mono ?_
  rintro e w2 ⟨rfl,h2,hg2⟩
  have HR:=zh h2
  have HG:=zh hg2
  clear h2 hg2
  go_wp2_with fail
  go_ret
  exact⟨by rw[HR2.out];rfl,HR.out.below (qa1 _ _),qa9 HG.out (qau _ (qa1 _ _))⟩
 ·have HR2:Hid (E.is (pz i) 8 t.toList=(X.toList==t.toList)):=zh (by rw[HR.out,kc];rfl)
  clear HR
  go_enter Tryz.func119,Tryz.ntmps119
  go_wp2_with fail
  refine HA.out.mono ?_
  rintro e w2 ⟨rfl,h2,hg2⟩
  have HR:=zh h2
  have HG:=zh hg2
  clear h2 hg2
  go_wp2_with fail
  go_ret
  exact⟨by rw[HR2.out];rfl,HR.out.below (qa1 _ _),qa9 HG.out (qau _ (qa1 _ _))⟩
theorem qf5(t:Bs){b:Bool}(hb:E.is (pz i) 8 t=b)(h:RdM W g s E tv td np i past):
 Calls Tryz.prog 119 #[.pointer (some ⟨g,0,none⟩),.string ⟨t.toArray⟩] W fun e W'=>e=.returned (.bool b)/\RdM W' g s E tv td np i (E.pk i)/\W.grownBy W' (some g):=by
 have h9:=qtv ⟨t.toArray⟩ h
 rw[show(⟨t.toArray⟩:ByteArray).toList=t by rw[ByteArray.toList_eq],hb]at h9
 exact h9
theorem is_pk{k:Int}{t:Bs}(hk:k≠0)(h:E.is (pz i) k t=true):E.pk i<E.to:=by
 by_cases hlt:E.pk i<E.to
 ·exact hlt
 ·have e:=qht hlt
  unfold Env.is at h
  have e2:E.at_ (pz i)=nxE E i:=rfl
  rw[e2,e]at h
  simp only[tk0,Bool.and_eq_true,beq_iff_eq]at h
  exact absurd h.1.symm hk
theorem qs1(t:Bs)(h:RdM W g s E tv td np i past):
 Calls Tryz.prog 108 #[.pointer (some ⟨g,0,none⟩),.string ⟨t.toArray⟩] W (RdO (sgE E 9 t i) W g s E tv td np (fun x=>.bool x.1) (·.2)):=by
 cases hb:E.is (pz i) 9 t
 ·have HA:=zh (qh3 t hb h)
  have HT:Hid (sgE E 9 t i=.ok (false,i)):=zh (by unfold sgE;rw[hb];rfl)
  clear h hb
  go_enter Tryz.func108,Tryz.ntmps108
  go_wp2_with fail
  refine HA.out.mono ?_
  rintro e w2 ⟨rfl,h2,hg2⟩
  have HR:=zh h2
  have HG:=zh hg2
  clear h2 hg2
  go_wp2_with fail
  go_ret
  exact⟨HG.out,by rw[HT.out];exact⟨rfl,_,HR.out⟩⟩
 ·have HA:=zh (qh3 t hb h)
  have HP:=zh (is_pk (by decide) hb)
  have HT:Hid (sgE E 9 t i=(tkE E i).map (fun j=>(true,j))):=zh (by unfold sgE;rw[hb];rfl)
  clear h hb
  go_enter Tryz.func108,Tryz.ntmps108
  go_wp2_with fail
  refine HA.out.mono ?_
  rintro e w2 ⟨rfl,h2,hg2⟩
  have HR:=zh (qdv h2 HP.out)
  have HG:=zh hg2
  clear h2 hg2
  cases ht:tkE E i with
  | ok j=>
   rw[ht]at HR HT
   clear ht
   go_wp2_with fail
   refine HR.out.mono ?_
   rintro e w3 ⟨hg3,rfl,p3,h3⟩
   have HG3:=zh (qa9 HG.out hg3)
   have HR3:=zh h3
   clear h3 hg3
   go_wp2_with fail
   go_ret
   exact⟨HG3.out,by rw[HT.out];exact⟨rfl,_,HR3.out⟩⟩
  | error b=>
   rw[ht]at HR HT
   clear ht
   go_wp2_with fail
   refine HR.out.mono ?_
   rintro e w3 ⟨hg3,u,pv,rfl⟩
   have HG3:=zh (qa9 HG.out hg3)
   clear hg3
   go_wp2_with fail
   exact⟨rfl,HG3.out,by rw[HT.out];exact⟨_,_,rfl⟩⟩
theorem qt8(t:Bs)(h:RdM W g s E tv td np i past):
 Calls Tryz.prog 91 #[.pointer (some ⟨g,0,none⟩),.string ⟨t.toArray⟩] W (RdO (sgE E 8 t i) W g s E tv td np (fun x=>.bool x.1) (·.2)):=by
 cases hb:E.is (pz i) 8 t
 ·have HA:=zh (qf5 t hb h)
  have HT:Hid (sgE E 8 t i=.ok (false,i)):=zh (by unfold sgE;rw[hb];rfl)
  clear h hb
  go_enter Tryz.func91,Tryz.ntmps91
  go_wp2_with fail
  refine HA.out.mono ?_
  rintro e w2 ⟨rfl,h2,hg2⟩
  have HR:=zh h2
  have HG:=zh hg2
  clear h2 hg2
  go_wp2_with fail
  go_ret
  exact⟨HG.out,by rw[HT.out];exact⟨rfl,_,HR.out⟩⟩
 ·have HA:=zh (qf5 t hb h)
  have HP:=zh (is_pk (by decide) hb)
  have HT:Hid (sgE E 8 t i=(tkE E i).map (fun j=>(true,j))):=zh (by unfold sgE;rw[hb];rfl)
  clear h hb
  go_enter Tryz.func91,Tryz.ntmps91
  go_wp2_with fail
  refine HA.out.mono ?_
  rintro e w2 ⟨rfl,h2,hg2⟩
  have HR:=zh (qdv h2 HP.out)
  have HG:=zh hg2
  clear h2 hg2
  cases ht:tkE E i with
  | ok j=>
   rw[ht]at HR HT
   clear ht
   go_wp2_with fail
   refine HR.out.mono ?_
   rintro e w3 ⟨hg3,rfl,p3,h3⟩
   have HG3:=zh (qa9 HG.out hg3)
   have HR3:=zh h3
   clear h3 hg3
   go_wp2_with fail
   go_ret
   exact⟨HG3.out,by rw[HT.out];exact⟨rfl,_,HR3.out⟩⟩
  | error b=>
   rw[ht]at HR HT
   clear ht
   go_wp2_with fail
   refine HR.out.mono ?_
   rintro e w3 ⟨hg3,u,pv,rfl⟩
   have HG3:=zh (qa9 HG.out hg3)
   clear hg3
   go_wp2_with fail
   exact⟨rfl,HG3.out,by rw[HT.out];exact⟨_,_,rfl⟩⟩
theorem qqq(h:RdM W g s E tv td np i past):
 Calls Tryz.prog 92 #[.pointer (some ⟨g,0,none⟩)] W fun e W'=>e=.returned (.string (opE E i))/\RdM W' g s E tv td np i (E.pk i)/\W.grownBy W' (some g):=by
 have HA:=zh (qdc h)
 obtain⟨K,hK⟩: ∃K,K=(nxE E i).1:=⟨_,rfl⟩
 obtain⟨X,hX⟩: ∃X,X=(nxE E i).2.1:=⟨_,rfl⟩
 obtain⟨A,hA⟩: ∃A,A=(nxE E i).2.2:=⟨_,rfl⟩
 have HO:Hid (opE E i=if K=9\/K=8 then X else⟨#[]⟩):=zh (by rw[hK,hX];rfl)
 rw[<-hK,<-hX,<-hA]at HA
 clear h hK hX hA
 by_cases k9:K=9
 ·have HO:Hid (opE E i=X):=zh (by rw[HO.out,if_pos (.inl k9)])
  have kc:(K==9)=true:=by rw[k9];rfl
  clear k9
  go_enter Tryz.func92,Tryz.ntmps92
  go_wp2_with fail
  refine HA.out.mono ?_
  rintro e w2 ⟨rfl,h2,hg2⟩
  have HR:=zh h2
  have HG:=zh hg2
  clear h2 hg2
  go_wp2_with fail
  go_ret
  exact⟨by rw[HO.out];rfl,HR.out.below (qa1 _ _),qa9 HG.out (qau _ (qa1 _ _))⟩
 ·by_cases k8:K=8
  ·have HO:Hid (opE E i=X):=zh (by rw[HO.out,if_pos (.inr k8)])
   have kc:(K==9)=false:=beq_false_of_ne k9
   have kc2:(K==8)=true:=by rw[k8];rfl
   clear k9 k8
   go_enter Tryz.func92,Tryz.ntmps92
   go_wp2_with fail
   refine HA.out.mono ?_
   rintro e w2 ⟨rfl,h2,hg2⟩
   have HR:=zh h2
   have HG:=zh hg2
   clear h2 hg2
   go_wp2_with fail
   go_ret
   exact⟨by rw[HO.out];rfl,HR.out.below (qa1 _ _),qa9 HG.out (qau _ (qa1 _ _))⟩
  ·have HO:Hid (opE E i=⟨#[]⟩):=zh (by rw[HO.out,if_neg (by omega)])
   have kc:(K==9)=false:=beq_false_of_ne k9
   have kc2:(K==8)=false:=beq_false_of_ne k8
   clear k9 k8
   go_enter Tryz.func92,Tryz.ntmps92
   go_wp2_with fail
   refine HA.out.mono ?_
   rintro e w2 ⟨rfl,h2,hg2⟩
   have HR:=zh h2
   have HG:=zh hg2
   clear h2 hg2
   go_wp2_with fail
   go_ret
   exact⟨by rw[HO.out];rfl,HR.out.below (qa1 _ _),qa9 HG.out (qau _ (qa1 _ _))⟩
end
end Go.Proofs.YtdhadeeajgoedaaGreat
