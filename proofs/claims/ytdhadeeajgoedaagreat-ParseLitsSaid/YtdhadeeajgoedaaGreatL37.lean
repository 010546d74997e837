import Derived.Test.YtdhadeeajgoedaaGreatL34
set_option maxRecDepth 100000
set_option maxHeartbeats 4000000
set_option linter.all false
open Go.RowKit.Below renaming heap_setCell→zA
open List renaming getElem?_append_left→zB,getElem?_append_right→zC,getElem?_cons_zero→zD,getElem?_set_ne→zE,getElem?_set_self→zF,length_set→zG
open Nat renaming le_refl→zH,le_trans→zI,lt_of_lt_of_le→zJ,sub_self→zK
open Go.World renaming cell?_of_block→zL,setCell→zM
namespace Go.Proofs.YtdhadeeajgoedaaGreat
open Go.RowKit Go.PlainAid
theorem qaa(W:World)(o:Obj):(W.alloc o).heap[W.heap.size]?=some o:=by
 show(W.heap.push _)[W.heap.size]?=_
 rw[Array.getElem?_push,if_pos rfl]
def PLay.chn(L:PLay)(c B:Nat):PLay:= { A:=L.A,B:=fun m=>if m=c then B else L.B m,own:=fun k=>if k=B then .ch c else L.own k }
def PLay.tag(L:PLay)(v:Value)(t:PTg):PLay:= { A:=L.A,B:=L.B,own:=fun k=>if v.ownBlock=some k then t else L.own k }
section
variable{W0 W:World}{g:Nat}{s:ByteArray}{E:Env}{tv:Value}{L:PLay}{σ:PM}
theorem MM.newC(h:MM W0 g s E tv W L σ)(lv:Int): ∃M,MM W0 g s E tv (W.alloc (.cells #[.pointer (some ⟨g,0,none⟩),.int .i64 lv,.slice none 0 0,.slice none 0 0,.bool false,.pointer none,.int .i64 11] 87)) M { σ with C:=σ.C++[{ lv:=lv }] } /\
 MX W0.heap.size W L σ.N.length σ.C.length (W.alloc (.cells #[.pointer (some ⟨g,0,none⟩),.int .i64 lv,.slice none 0 0,.slice none 0 0,.bool false,.pointer none,.int .i64 11] 87)) M σ.N.length (σ.C++[({ lv:=lv } :Chn)]).length/\M.B σ.C.length=W.heap.size/\M.A=L.A:=by
 have hb:=qa1 W (.cells #[.pointer (some ⟨g,0,none⟩),.int .i64 lv,.slice none 0 0,.slice none 0 0,.bool false,.pointer none,.int .i64 11] 87)
 have hcr:=h.carry (L':=L.chn σ.C.length W.heap.size) (fun _=>False) (fun e=>e) hb.size hb.os hb.tape hb.output (fun q hq _=>hb.block q hq) (fun q hq _=>if_neg (Nat.ne_of_lt hq)) (fun _ _=>rfl) (fun c hc=>if_neg (Nat.ne_of_lt hc))
 have hCl:(σ.C++[({ lv:=lv } :Chn)]).length=σ.C.length+1:=by rw[List.length_append];rfl
 obtain⟨td,np,past,r1,r2,r3⟩:=h.rd
 refine⟨L.chn σ.C.length W.heap.size,⟨hcr.bel,fun q hq=>?_,?_,h.tvb,⟨td,np,past,r1.below hb,?_,r3⟩,fun n x hx=>hcr.nds n x hx (fun e=>e) (fun e=>e),fun c x hx=>?_,fun c x l hx hf=>?_,h.nb⟩,?_,if_pos rfl,rfl⟩
 ·have hq:(if q=W.heap.size then PTg.ch σ.C.length else L.own q)≠ .fz:=hq
  by_cases e:q=W.heap.size
  ·subst e;exact⟨h.bel.size,by simp⟩
  ·rw[if_neg e]at hq
   exact⟨(h.own q hq).1,zJ (h.own q hq).2 hb.size⟩
 ·show(if g=W.heap.size then PTg.ch σ.C.length else L.own g)=.rd
  rw[if_neg (by have:=r1.lt;omega)];exact h.og
 ·show TdO _ _ _ (IsC _ _ g _ _ σ.N.length (σ.C++[({ lv:=lv } :Chn)]).length) td σ.k
  rw[hCl]
  exact hcr.td td _ _ (zH _) (Nat.le_succ _) (fun e=>e) r2
 ·have hx:(σ.C++[({ lv:=lv } :Chn)])[c]?=some x:=hx
  by_cases hc:c<σ.C.length
  ·rw[zB hc]at hx
   exact hcr.chs c x hx (fun e=>e) (fun e=>e) (fun e=>e)
  ·have hc2:c< (σ.C++[({ lv:=lv } :Chn)]).length:=(List.getElem?_eq_some_iff.1 hx).1
   have hc3:c=σ.C.length:=by rw[hCl]at hc2;omega
   subst hc3
   rw[zC (zH _),zK]at hx
   simp only[zD,Option.some.injEq]at hx
   subst hx
   have hBn:(L.chn σ.C.length W.heap.size).B σ.C.length=W.heap.size:=if_pos rfl
   refine⟨by rw[hBn];exact if_pos rfl,.slice none 0 0,.slice none 0 0,?_,qei _ _,fun j e=>by simp[Value.ownBlock]at e,qei _ _,fun j e=>by simp[Value.ownBlock]at e⟩
   rw[hBn]
   exact qaa W _
 ·have hx:(σ.C++[({ lv:=lv } :Chn)])[c]?=some x:=hx
  by_cases hc:c<σ.C.length
  ·rw[zB hc]at hx
   exact h.lfb c x l hx hf
  ·have hc2:c< (σ.C++[({ lv:=lv } :Chn)]).length:=(List.getElem?_eq_some_iff.1 hx).1
   have hc3:c=σ.C.length:=by rw[hCl]at hc2;omega
   subst hc3
   rw[zC (zH _),zK]at hx
   simp only[zD,Option.some.injEq]at hx
   subst hx
   cases hf
 ·rw[hCl];exact hcr.mx _ _ (zH _) (Nat.le_succ _)
theorem MM.setCh{W':World}(h:MM W0 g s E tv W L σ){c:Nat}{x:Chn}(hx:σ.C[c]?=some x)(st':Bool)(lf':Option Nat)(hs':Int)(hl: ∀l,lf'=some l->l<σ.N.length)(hg:W.grownBy W' (some (L.B c)))
 (hB: ∀cv av,ChB W (L.B c) g x.lv cv av x.st (lfV L x.lf) x.hs->ChB W' (L.B c) g x.lv cv av st' (lfV L lf') hs'):
 MM W0 g s E tv W' L (σ.setC c { x with st:=st',lf:=lf',hs:=hs' })/\MX W0.heap.size W L σ.N.length σ.C.length W' L σ.N.length (σ.setC c { x with st:=st',lf:=lf',hs:=hs' }).C.length:=by
 obtain⟨a1,cv,av,a2,a3,a4,a5,a6⟩:=h.chs c x hx
 have hcr:=h.carry (W':=W') (L':=L) (· =.ch c) (by simp) hg.size hg.os hg.tape hg.output (fun q hq hd=>hg.block q hq (fun e=>hd (by rw[Option.some.inj e];exact a1))) (fun _ _ _=>rfl) (fun _ _=>rfl) (fun _ _=>rfl)
 obtain⟨td,np,past,r1,r2,r3⟩:=h.rd
 have hgB:L.B c≠g:=fun e=>by
  have:=h.og
  rw[<-e,a1]at this;cases this
 have hcl:c<σ.C.length:=(List.getElem?_eq_some_iff.1 hx).1
 have hCl:(σ.setC c { x with st:=st',lf:=lf',hs:=hs' }).C.length=σ.C.length:=zG
 have hrd:RdM W' g s E tv td np σ.i past:=r1.grown hg (fun e=>hgB (Option.some.inj e)) (fun q e1 e2=>by
  have h5:=h.tvb q e1
  have h6:=(h.own (L.B c) (by rw[a1];exact fun e=>by cases e)).1
  have:=Option.some.inj e2;omega)
 refine⟨⟨hcr.bel,fun q hq=>⟨(h.own q hq).1,zJ (h.own q hq).2 hg.size⟩,h.og,h.tvb,⟨td,np,past,hrd,by rw[hCl];exact hcr.td td _ _ (zH _) (zH _) (by simp) r2,r3⟩,fun n y hy=>hcr.nds n y hy (by simp) (by simp),fun d y hy=>?_,fun d y l hy hf=>?_,h.nb⟩,by rw[hCl];exact hcr.mx _ _ (zH _) (zH _)⟩
 ·have hy:(σ.C.set c { x with st:=st',lf:=lf',hs:=hs' })[d]?=some y:=hy
  by_cases e:c=d
  ·subst e
   rw[zF hcl]at hy
   simp only[Option.some.injEq]at hy
   rw[<-hy]
   exact⟨a1,cv,av,hB cv av a2,qc2 a3 (fun j hj=>hg.block j (World.ownsRow.lt a3 j hj).2 (fun e=>by
    have h9:=a4 j hj
    rw[Option.some.inj e,a1]at h9;cases h9)),a4,qc2 a5 (fun j hj=>hg.block j (World.ownsRow.lt a5 j hj).2 (fun e=>by
    have h9:=a6 j hj
    rw[Option.some.inj e,a1]at h9;cases h9)),a6⟩
  ·rw[zE e]at hy
   exact hcr.chs d y hy (fun h=>e (by cases h;rfl)) (fun h=>by cases h) (fun h=>by cases h)
 ·have hy:(σ.C.set c { x with st:=st',lf:=lf',hs:=hs' })[d]?=some y:=hy
  by_cases e:c=d
  ·subst e
   rw[zF hcl]at hy
   simp only[Option.some.injEq]at hy
   rw[<-hy]at hf
   exact hl l hf
  ·rw[zE e]at hy
   exact h.lfb d y l hy hf
theorem MM.pushCa{W':World}(h:MM W0 g s E tv W L σ){c:Nat}{x:Chn}(hx:σ.C[c]?=some x){cv av:Value}(h0:ChB W (L.B c) g x.lv cv av x.st (lfV L x.lf) x.hs)(h1:Txs W W0.heap.size cv (qf6 x.ct))(h2: ∀j,cv.ownBlock=some j->L.own j=.ca c)(h3:Txs W W0.heap.size av x.ah)(h4: ∀j,av.ownBlock=some j->L.own j=.ah c)(t:ByteArray)(ht:t=⟨#[99,97,116,99,104]⟩)
 (v':Value) (k1:Txs W' W0.heap.size v' (qf6 x.ct++[t])) (k2:W.grownBy W' cv.ownBlock) (k3:v'.ownBlock=cv.ownBlock\/ ∀k,v'.ownBlock=some k->W.heap.size<=k):
 ∃M,MM W0 g s E tv (W'.setCell ⟨L.B c,2,none⟩ v') M (σ.setC c { x with ct:=x.ct+1 })/\MX W0.heap.size W L σ.N.length σ.C.length (W'.setCell ⟨L.B c,2,none⟩ v') M σ.N.length (σ.setC c { x with ct:=x.ct+1 }).C.length/\M.A=L.A/\M.B=L.B:=by
 have a1:=(h.chs c x hx).1
 have hBl:L.B c<W.heap.size:=lt_of_block h0
 have hown: ∀k,k<W.heap.size->(L.tag v' (.ca c)).own k=L.own k:=fun k hk=>by
  show(if v'.ownBlock=some k then PTg.ca c else L.own k)=L.own k
  split
  ·rename_i e
   rcases k3 with k3 | k3
   ·rw[h2 k (by rw[<-k3];exact e)]
   ·have:=k3 k e;omega
  ·rfl
 have hBne: ∀j,v'.ownBlock=some j->j≠L.B c:=fun j hj e=>by
  rcases k3 with k3 | k3
  ·have h9:=h2 j (by rw[<-k3];exact hj)
   rw[e,a1]at h9;cases h9
  ·have:=k3 j hj;omega
 have hsz:(W'.setCell ⟨L.B c,2,none⟩ v').heap.size=W'.heap.size:=by simp
 have hblk: ∀k,k<W.heap.size-> ¬(L.own k=.ch c\/L.own k=.ca c)->(W'.setCell ⟨L.B c,2,none⟩ v').heap[k]?=W.heap[k]?:=fun k hk hd=>by
  rw[zA _ _ _ _ (fun e=>hd (.inl (by have e:k=L.B c:=e;rw[e];exact a1)))]
  exact k2.block k hk (fun e=>hd (.inr (h2 k e.symm)))
 have hcr:=h.carry (W':=W'.setCell ⟨L.B c,2,none⟩ v') (L':=L.tag v' (.ca c)) (fun t=>t=.ch c\/t=.ca c) (by simp) (by rw[hsz];exact k2.size) (by simp only[zM];exact k2.os) (by simp only[zM];exact k2.tape) (by simp only[zM];exact k2.output) hblk (fun k hk _=>hown k hk) (fun _ _=>rfl) (fun _ _=>rfl)
 obtain⟨td,np,past,r1,r2,r3⟩:=h.rd
 have hcl:c<σ.C.length:=(List.getElem?_eq_some_iff.1 hx).1
 have hCl:(σ.setC c { x with ct:=x.ct+1 }).C.length=σ.C.length:=zG
 have hgl:=r1.lt
 have hrd:RdM (W'.setCell ⟨L.B c,2,none⟩ v') g s E tv td np σ.i past:=by
  have hr1:=r1.grown k2 (fun e=>by
   have h9:=h2 g e
   rw[h.og]at h9;cases h9) (fun k e1 e2=>by have:=h.tvb k e1;have:=(World.ownsRow.lt h1 k e2).1;omega)
  refine hr1.set (fun e=>by
   have h9:=h.og
   rw[<-e,a1]at h9;cases h9) (fun e=>by have:=h.tvb _ e;have:=(h.own (L.B c) (by rw[a1];exact fun e=>by cases e)).1;omega) 2 v'
 have hBlk:W'.heap[L.B c]?=W.heap[L.B c]?:=k2.block _ hBl (fun e=>by
  have h9:=h2 _ e.symm
  rw[a1]at h9;cases h9)
 refine⟨L.tag v' (.ca c),⟨hcr.bel,fun q hq=>?_,?_,h.tvb,⟨td,np,past,hrd,by rw[hCl];exact hcr.td td _ _ (zH _) (zH _) (by simp) r2,r3⟩,fun n y hy=>hcr.nds n y hy (by simp) (by simp),fun d y hy=>?_,fun d y l hy hf=>?_,h.nb⟩,by rw[hCl];exact hcr.mx _ _ (zH _) (zH _),rfl,rfl⟩
 ·have hq:(if v'.ownBlock=some q then PTg.ca c else L.own q)≠ .fz:=hq
  rw[hsz]
  by_cases e:v'.ownBlock=some q
  ·exact World.ownsRow.lt k1 q e
  ·rw[if_neg e]at hq
   exact⟨(h.own q hq).1,zJ (h.own q hq).2 k2.size⟩
 ·rw[hown g hgl];exact h.og
 ·have hy:(σ.C.set c { x with ct:=x.ct+1 })[d]?=some y:=hy
  by_cases e:c=d
  ·subst e
   rw[zF hcl]at hy
   simp only[Option.some.injEq]at hy
   rw[<-hy]
   have hnew:ChB (W'.setCell ⟨L.B c,2,none⟩ v') (L.B c) g x.lv v' av x.st (lfV L x.lf) x.hs:=by
    have h9:=Lib.heap_setCell_same (i:=2) (hBlk.trans h0) v'
    unfold ChB
    simpa using h9
   refine⟨by show(L.tag v' (.ca c)).own (L.B c)=_;rw[hown _ hBl];exact a1,v',av,hnew,?_,?_,?_,?_⟩
   ·subst ht
    show Txs _ _ v' (qf6 (x.ct+1))
    rw[show qf6 (x.ct+1)=qf6 x.ct++[⟨#[99,97,116,99,104]⟩]from List.replicate_succ']
    exact ownsRow_setCell_other k1 (a:=⟨L.B c,2,none⟩) (fun e=>hBne _ e rfl) v'
   ·exact fun j hj=>if_pos hj
   ·exact qc2 h3 (fun j hj=>hblk j (World.ownsRow.lt h3 j hj).2 (by rw[h4 j hj];simp))
   ·exact fun j hj=>(hown j (World.ownsRow.lt h3 j hj).2).trans (h4 j hj)
  ·rw[zE e]at hy
   exact hcr.chs d y hy (by rintro(h | h)<;>cases h;exact e rfl) (by rintro(h | h)<;>cases h;exact e rfl) (by rintro(h | h)<;>cases h)
 ·have hy:(σ.C.set c { x with ct:=x.ct+1 })[d]?=some y:=hy
  by_cases e:c=d
  ·subst e
   rw[zF hcl]at hy
   simp only[Option.some.injEq]at hy
   rw[<-hy]at hf
   exact h.lfb c x l hx hf
  ·rw[zE e]at hy
   exact h.lfb d y l hy hf
theorem MM.pushAh{W':World}(h:MM W0 g s E tv W L σ){c:Nat}{x:Chn}(hx:σ.C[c]?=some x){cv av:Value}(h0:ChB W (L.B c) g x.lv cv av x.st (lfV L x.lf) x.hs)(h1:Txs W W0.heap.size cv (qf6 x.ct))(h2: ∀j,cv.ownBlock=some j->L.own j=.ca c)(h3:Txs W W0.heap.size av x.ah)(h4: ∀j,av.ownBlock=some j->L.own j=.ah c)(t:ByteArray)(_ht:True)
 (v':Value) (k1:Txs W' W0.heap.size v' (x.ah++[t])) (k2:W.grownBy W' av.ownBlock) (k3:v'.ownBlock=av.ownBlock\/ ∀k,v'.ownBlock=some k->W.heap.size<=k):
 ∃M,MM W0 g s E tv (W'.setCell ⟨L.B c,3,none⟩ v') M (σ.setC c { x with ah:=x.ah++[t] })/\MX W0.heap.size W L σ.N.length σ.C.length (W'.setCell ⟨L.B c,3,none⟩ v') M σ.N.length (σ.setC c { x with ah:=x.ah++[t] }).C.length/\M.A=L.A/\M.B=L.B:=by
 have a1:=(h.chs c x hx).1
 have hBl:L.B c<W.heap.size:=lt_of_block h0
 have hown: ∀k,k<W.heap.size->(L.tag v' (.ah c)).own k=L.own k:=fun k hk=>by
  show(if v'.ownBlock=some k then PTg.ah c else L.own k)=L.own k
  split
  ·rename_i e
   rcases k3 with k3 | k3
   ·rw[h4 k (by rw[<-k3];exact e)]
   ·have:=k3 k e;omega
  ·rfl
 have hBne: ∀j,v'.ownBlock=some j->j≠L.B c:=fun j hj e=>by
  rcases k3 with k3 | k3
  ·have h9:=h4 j (by rw[<-k3];exact hj)
   rw[e,a1]at h9;cases h9
  ·have:=k3 j hj;omega
 have hsz:(W'.setCell ⟨L.B c,3,none⟩ v').heap.size=W'.heap.size:=by simp
 have hblk: ∀k,k<W.heap.size-> ¬(L.own k=.ch c\/L.own k=.ah c)->(W'.setCell ⟨L.B c,3,none⟩ v').heap[k]?=W.heap[k]?:=fun k hk hd=>by
  rw[zA _ _ _ _ (fun e=>hd (.inl (by have e:k=L.B c:=e;rw[e];exact a1)))]
  exact k2.block k hk (fun e=>hd (.inr (h4 k e.symm)))
 have hcr:=h.carry (W':=W'.setCell ⟨L.B c,3,none⟩ v') (L':=L.tag v' (.ah c)) (fun t=>t=.ch c\/t=.ah c) (by simp) (by rw[hsz];exact k2.size) (by simp only[zM];exact k2.os) (by simp only[zM];exact k2.tape) (by simp only[zM];exact k2.output) hblk (fun k hk _=>hown k hk) (fun _ _=>rfl) (fun _ _=>rfl)
 obtain⟨td,np,past,r1,r2,r3⟩:=h.rd
 have hcl:c<σ.C.length:=(List.getElem?_eq_some_iff.1 hx).1
 have hCl:(σ.setC c { x with ah:=x.ah++[t] }).C.length=σ.C.length:=zG
 have hgl:=r1.lt
 have hrd:RdM (W'.setCell ⟨L.B c,3,none⟩ v') g s E tv td np σ.i past:=by
  have hr1:=r1.grown k2 (fun e=>by
   have h9:=h4 g e
   rw[h.og]at h9;cases h9) (fun k e1 e2=>by have:=h.tvb k e1;have:=(World.ownsRow.lt h3 k e2).1;omega)
  refine hr1.set (fun e=>by
   have h9:=h.og
   rw[<-e,a1]at h9;cases h9) (fun e=>by have:=h.tvb _ e;have:=(h.own (L.B c) (by rw[a1];exact fun e=>by cases e)).1;omega) 3 v'
 have hBlk:W'.heap[L.B c]?=W.heap[L.B c]?:=k2.block _ hBl (fun e=>by
  have h9:=h4 _ e.symm
  rw[a1]at h9;cases h9)
 refine⟨L.tag v' (.ah c),⟨hcr.bel,fun q hq=>?_,?_,h.tvb,⟨td,np,past,hrd,by rw[hCl];exact hcr.td td _ _ (zH _) (zH _) (by simp) r2,r3⟩,fun n y hy=>hcr.nds n y hy (by simp) (by simp),fun d y hy=>?_,fun d y l hy hf=>?_,h.nb⟩,by rw[hCl];exact hcr.mx _ _ (zH _) (zH _),rfl,rfl⟩
 ·have hq:(if v'.ownBlock=some q then PTg.ah c else L.own q)≠ .fz:=hq
  rw[hsz]
  by_cases e:v'.ownBlock=some q
  ·exact World.ownsRow.lt k1 q e
  ·rw[if_neg e]at hq
   exact⟨(h.own q hq).1,zJ (h.own q hq).2 k2.size⟩
 ·rw[hown g hgl];exact h.og
 ·have hy:(σ.C.set c { x with ah:=x.ah++[t] })[d]?=some y:=hy
  by_cases e:c=d
  ·subst e
   rw[zF hcl]at hy
   simp only[Option.some.injEq]at hy
   rw[<-hy]
   have hnew:ChB (W'.setCell ⟨L.B c,3,none⟩ v') (L.B c) g x.lv cv v' x.st (lfV L x.lf) x.hs:=by
    have h9:=Lib.heap_setCell_same (i:=3) (hBlk.trans h0) v'
    unfold ChB
    simpa using h9
   refine⟨by show(L.tag v' (.ah c)).own (L.B c)=_;rw[hown _ hBl];exact a1,cv,v',hnew,?_,?_,?_,?_⟩
   ·exact qc2 h1 (fun j hj=>hblk j (World.ownsRow.lt h1 j hj).2 (by rw[h2 j hj];simp))
   ·exact fun j hj=>(hown j (World.ownsRow.lt h1 j hj).2).trans (h2 j hj)
   ·show Txs _ _ v' (x.ah++[t])
    exact ownsRow_setCell_other k1 (a:=⟨L.B c,3,none⟩) (fun e=>hBne _ e rfl) v'
   ·exact fun j hj=>if_pos hj
  ·rw[zE e]at hy
   exact hcr.chs d y hy (by rintro(h | h)<;>cases h;exact e rfl) (by rintro(h | h)<;>cases h) (by rintro(h | h)<;>cases h;exact e rfl)
 ·have hy:(σ.C.set c { x with ah:=x.ah++[t] })[d]?=some y:=hy
  by_cases e:c=d
  ·subst e
   rw[zF hcl]at hy
   simp only[Option.some.injEq]at hy
   rw[<-hy]at hf
   exact h.lfb c x l hx hf
  ·rw[zE e]at hy
   exact h.lfb d y l hy hf
end
section
variable{W0 W:World}{g:Nat}{s:ByteArray}{E:Env}{tv:Value}{L:PLay}{σ:PM}
theorem qe1{W:World}{P:Nat->Prop}{base:Nat}{v:Value}{T:List Nd}{z:Nd}(h:OwnN W P base v (T++[z])): ∃g cp,v=.slice (some ⟨g,0,none⟩) (T.length+1) cp:=by
 obtain⟨g,cp,c,e,-⟩:=h.cells T.length z (by rw[zC (zH _),zK];rfl)
 exact⟨g,cp,by rw[e];simp⟩
def PLay.Q(L:PLay)(b n j z:Nat):Nat->Prop:=fun q=>L.R b n q\/L.R b j q\/z<=q
open Classical in
noncomputable def PLay.grow (L:PLay) (n j:Nat) (v:Value):PLay:=
 { A:=L.A,B:=L.B,own:=fun k=>if v.ownBlock=some k then .rw n else if L.own k=.hd j\/L.own k=.rw j then .fz else L.own k }
open Classical in
theorem MM.intoX{W':World}(h:MM W0 g s E tv W L σ){n j:Nat}{x y:Nd}(hx:σ.N[j]?=some (some x))(hy:σ.N[n]?=some (some y))(hne:j≠n){v v':Value}(hv:W.cell? ⟨L.A n,2,none⟩=some v)
 (hs:W.heap.size<=W'.heap.size) (h1:W'.os=W.os) (h2:W'.tape=W.tape) (h3:W'.output=W.output)
 (hb: ∀k,k<W.heap.size->k≠L.A n->v.ownBlock≠some k->W'.heap[k]?=W.heap[k]?)
 (hB: ∀k t br bl nv tv,NdB W (L.A n) k t v br bl nv tv->NdB W' (L.A n) k t v' br bl nv tv)
 (hO:OwnN W' (L.Q W0.heap.size n j W.heap.size) W0.heap.size v' (y.ls++[x]))
 (hw:v'.ownBlock=v.ownBlock\/ ∀k,v'.ownBlock=some k->W.heap.size<=k):
 ∃L',MM W0 g s E tv W' L' ((σ.mv j).set n (y.add [x]))/\MX W0.heap.size W L σ.N.length σ.C.length W' L' ((σ.mv j).set n (y.add [x])).N.length ((σ.mv j).set n (y.add [x])).C.length/\L'.A=L.A:=by
 cases y with
 | mk k t l br bl no ta=>
 obtain⟨a1,lv,nv,tv',a2,a3,a4,a5,a6⟩:=h.node hy
 have hlv:lv=v:=by
  have:=a2.cells.2.2.1
  rw[hv]at this;exact(Option.some.inj this).symm
 subst hlv
 have hgA:L.A n≠g:=fun e=>by
  have:=h.og
  rw[<-e,a1]at this;cases this
 have hAl:L.A n<W.heap.size:=a2.lt
 have hvt: ∀q,lv.ownBlock=some q->L.own q=.rw n/\W0.heap.size<=q/\q<W.heap.size:=fun q hq=>⟨a4 q hq,(a3.lt q hq).1,(a3.lt q hq).2⟩
 have hold: ∀q,q<W.heap.size->L.own q≠ .hd j->L.own q≠ .rw j->(L.grow n j v').own q=L.own q:=fun q hq d1 d2=>by
  show(if v'.ownBlock=some q then _ else if L.own q=.hd j\/L.own q=.rw j then _ else _)=_
  by_cases e:v'.ownBlock=some q
  ·rw[if_pos e]
   rcases hw with hw | hw
   ·exact(hvt q (by rw[<-hw];exact e)).1.symm
   ·have:=hw q e;omega
  ·rw[if_neg e,if_neg (by rintro(d | d);exact d1 d;exact d2 d)]
 have hmvd: ∀q,q<W.heap.size->(L.own q=.hd j\/L.own q=.rw j)->(L.grow n j v').own q=.fz:=fun q hq d=>by
  show(if v'.ownBlock=some q then _ else if L.own q=.hd j\/L.own q=.rw j then _ else _)=_
  by_cases e:v'.ownBlock=some q
  ·rcases hw with hw | hw
   ·have:=(hvt q (by rw[<-hw];exact e)).1
    rw[this]at d
    rcases d with d | d
    ·cases d
    ·cases d;exact absurd rfl hne
   ·have:=hw q e;omega
  ·rw[if_neg e,if_pos d]
 have hnew: ∀q,W.heap.size<=q->L.own q=.fz:=fun q hq=>by
  by_cases e:L.own q=.fz
  ·exact e
  ·have:=(h.own q e).2;omega
 have hcr:=h.carry (W':=W') (L':=L.grow n j v') (fun t=>t=.hd n\/t=.rw n\/t=.hd j\/t=.rw j) (by simp) hs h1 h2 h3 (fun q hq hd=>hb q hq (fun e=>hd (.inl (by rw[e];exact a1))) (fun e=>hd (.inr (.inl (hvt q e).1)))) (fun q hq hd=>hold q hq (fun e=>hd (.inr (.inr (.inl e)))) (fun e=>hd (.inr (.inr (.inr e))))) (fun _ _=>rfl) (fun _ _=>rfl)
 obtain⟨td,np,past,r1,r2,r3⟩:=h.rd
 have hgl:=r1.lt
 have hgv:lv.ownBlock≠some g:=fun e=>by
  have:=(hvt g e).1
  rw[h.og]at this;cases this
 have hrd:RdM W' g s E tv td np σ.i past:=by
  have hk1:W'.heap[g]?=W.heap[g]?:=hb g hgl (fun e=>hgA e.symm) hgv
  refine⟨hk1.trans r1.blk,?_,r1.ne,r1.tl,r1.len,r1.il,r1.pt,r1.pn,fun b e=>zJ (r1.nf b e) hs,r1.sz,r1.gp,r1.cp⟩
  obtain⟨a,cap,rfl,q2⟩:=r1.row
  refine⟨a,cap,rfl,fun h0=>?_⟩
  obtain⟨b,o,rfl,g2,g3⟩:=q2 h0
  have hbl:b<W0.heap.size:=h.tvb b rfl
  have e:W'.heap[b]?=W.heap[b]?:=hb b g2 (fun e=>by
   have:=(h.own (L.A n) (by rw[a1];exact fun e=>by cases e)).1
   omega) (fun e=>by have:=(hvt b e).2.1;omega)
  refine⟨b,o,rfl,zJ g2 hs,fun i x hx=>?_⟩
  obtain⟨c1,c2,c3⟩:=g3 i x hx
  exact⟨(zL (w:=W) e).trans c1,(zL (w:=W) e).trans c2,(zL (w:=W) e).trans c3⟩
 have hNl:((σ.mv j).set n (Nd.add (.mk k t l br bl no ta) [x])).N.length=σ.N.length:=by
  show((σ.N.set j none).set n _).length=_
  rw[zG,zG]
 have hnl:n<σ.N.length:=(List.getElem?_eq_some_iff.1 hy).1
 refine⟨L.grow n j v',⟨hcr.bel,fun q hq=>?_,?_,h.tvb,⟨td,np,past,hrd,?_,r3⟩,fun m z hm=>?_,fun c z hc=>hcr.chs c z hc (by simp) (by simp) (by simp),fun c z l hc hf=>by rw[hNl];exact h.lfb c z l hc hf,fun i hi=>by rw[hNl];exact h.nb i hi⟩,by rw[hNl];exact hcr.mx _ _ (zH _) (zH _),rfl⟩
 ·by_cases e:v'.ownBlock=some q
  ·exact hO.lt q e
  ·have hq2:(if v'.ownBlock=some q then PTg.rw n else if L.own q=.hd j\/L.own q=.rw j then .fz else L.own q)≠ .fz:=hq
   rw[if_neg e]at hq2
   by_cases d:L.own q=.hd j\/L.own q=.rw j
   ·rw[if_pos d]at hq2;exact absurd rfl hq2
   ·rw[if_neg d]at hq2
    exact⟨(h.own q hq2).1,zJ (h.own q hq2).2 hs⟩
 ·rw[hold g hgl (by rw[h.og];exact fun e=>by cases e) (by rw[h.og];exact fun e=>by cases e)];exact h.og
 ·rw[hNl];exact hcr.td td _ _ (zH _) (zH _) (by simp) r2
 ·have hm:((σ.N.set j none).set n (some (Nd.add (.mk k t l br bl no ta) [x])))[m]?=some (some z):=hm
  by_cases e:n=m
  ·subst e
   rw[zF (by rw[zG];exact hnl)]at hm
   simp only[Option.some.injEq]at hm
   rw[<-hm]
   have hPQ: ∀q,L.P W0.heap.size q->(L.grow n j v').R W0.heap.size n q:=fun q hq=>by
    by_cases e:v'.ownBlock=some q
    ·exact .inr ⟨if_pos e,hq.2⟩
    ·refine .inl ⟨?_,hq.2⟩
     show(if v'.ownBlock=some q then _ else if L.own q=.hd j\/L.own q=.rw j then _ else _)=_
     rw[if_neg e,if_neg (by rw[hq.1];simp)];exact hq.1
   refine⟨by show(L.grow n j v').own (L.A n)=_;rw[hold _ hAl (by rw[a1];exact fun e=>hne (by cases e;rfl)) (by rw[a1];exact fun e=>by cases e)];exact a1,v',nv,tv',hB _ _ _ _ _ _ a2,?_,fun q hq=>if_pos hq,hcr.mx _ _ (zH _) (zH _) |>.st a5,hcr.mx _ _ (zH _) (zH _) |>.st a6⟩
   refine hO.weak (fun q hq hl=>?_) (zH _)
   rcases hq with hq | hq | hq
   ·rcases hq with hq | hq
    ·exact hPQ q hq
    ·refine .inr ⟨?_,hq.2⟩
     show(if v'.ownBlock=some q then _ else if L.own q=.hd j\/L.own q=.rw j then _ else _)=_
     split
     ·rfl
     ·rw[if_neg (by rw[hq.1];rintro(d | d)<;>cases d;exact hne rfl)];exact hq.1
   ·rcases hq with hq | hq
    ·exact hPQ q hq
    ·have hql:=(h.own q (by rw[hq.1];exact fun e=>by cases e)).2
     exact .inl ⟨hmvd q hql (.inr hq.1),hq.2⟩
   ·exact hPQ q ⟨hnew q hq,zI h.bel.size hq⟩
  ·rw[zE e]at hm
   by_cases e2:j=m
   ·subst e2
    by_cases hjl:j<σ.N.length
    ·rw[zF hjl]at hm;cases hm
    ·rw[List.getElem?_eq_none (by rw[zG];omega)]at hm;cases hm
   ·rw[zE e2]at hm
    refine hcr.nds m z hm ?_ ?_
    ·rintro(d | d | d | d)
     ·cases d;exact e rfl
     ·cases d
     ·cases d;exact e2 rfl
     ·cases d
    ·rintro(d | d | d | d)
     ·cases d
     ·cases d;exact e rfl
     ·cases d
     ·cases d;exact e2 rfl
theorem MM.rowQ{W1:World}(h:MM W0 g s E tv W L σ){n j:Nat}{y:Nd}(hy:σ.N[n]?=some (some y)){v:Value}(hv:W.cell? ⟨L.A n,2,none⟩=some v)(hb:Below W.heap.size W W1):OwnN W1 (L.Q W0.heap.size n j W.heap.size) W0.heap.size v y.ls/\(∀q,v.ownBlock=some q->L.own q=.rw n/\q<W.heap.size):=by
 cases y with
 | mk k t l br bl no ta=>
 obtain⟨a1,lv,nv,tv',a2,a3,a4,a5,a6⟩:=h.node hy
 have hlv:lv=v:=by
  have:=a2.cells.2.2.1
  rw[hv]at this;exact(Option.some.inj this).symm
 subst hlv
 exact⟨(a3.below hb).weak (fun q hq _=>.inl hq) (zH _),fun q hq=>⟨a4 q hq,(a3.lt q hq).2⟩⟩
theorem MM.ndQ{W1:World}(h:MM W0 g s E tv W L σ){n j:Nat}{x:Nd}(hx:σ.N[j]?=some (some x))(hne:j≠n){c:Array Value}(hc:W.heap[L.A j]?=some (.cells c 29 (0,0)))(hk:W.heap.size<=W1.heap.size)(hkp: ∀k,k<W.heap.size->L.own k≠ .rw n->L.own k≠ .hd n->W1.heap[k]?=W.heap[k]?)(q:Nat)(hq:(∀k,L.own k=.rw n->True)/\(L.own q=.rw n\/W.heap.size<=q)):NdIn W1 (fun b=>L.Q W0.heap.size n j W.heap.size b/\b≠q) c.toList x/\c.toList.length=7:=by
 obtain⟨c',h7,hc',hn,ho⟩:=(h.nds j x hx).cells7
 have e:c=c'.toArray:=by
  rw[hc]at hc'
  simp only[Option.some.injEq,Obj.cells.injEq,and_true]at hc'
  exact hc'
 subst e
 refine⟨?_,by simpa using h7⟩
 have h9:NdIn W (fun b=>L.R W0.heap.size j b/\b<W.heap.size) c' x:=hn.weak (fun b hb hl=>⟨hb,hl⟩)
 have h8:NdIn W1 (fun b=>L.R W0.heap.size j b/\b<W.heap.size) c' x:=h9.keep ⟨hk,fun k hk2 hl=>hkp k hl (by
  rcases hk2.1 with hk2 | hk2
  ·rw[hk2.1];exact fun e=>by cases e
  ·rw[hk2.1];exact fun e=>hne (by cases e;rfl)) (by
  rcases hk2.1 with hk2 | hk2
  ·rw[hk2.1];exact fun e=>by cases e
  ·rw[hk2.1];exact fun e=>by cases e)⟩
 refine(h8.weak (P':=fun b=>L.Q W0.heap.size n j W.heap.size b/\b≠q) (fun b hb _=>⟨.inr (.inl hb.1),fun e=>?_⟩))
 subst e
 rcases hq.2 with hq | hq
 ·rcases hb.1 with hb1 | hb1
  ·rw[hb1.1]at hq;cases hq
  ·rw[hb1.1]at hq;cases hq;exact hne rfl
 ·have:=hb.2;omega
theorem MM.intoB{W1 W4:World}(h:MM W0 g s E tv W L σ){n j:Nat}{x y:Nd}(hx:σ.N[j]?=some (some x))(hy:σ.N[n]?=some (some y))(hne:j≠n){v v':Value}(hv:W.cell? ⟨L.A n,2,none⟩=some v)(hb:Below W.heap.size W W1)(hO:OwnN W4 (L.Q W0.heap.size n j W.heap.size) W0.heap.size v' (y.ls++[x]))(hg:W1.grownBy W4 v.ownBlock)(hw:v'.ownBlock=v.ownBlock\/ ∀k,v'.ownBlock=some k->W1.heap.size<=k):
 ∃L',MM W0 g s E tv (W4.setCell ⟨L.A n,2,none⟩ v') L' ((σ.mv j).set n (y.add [x]))/\MX W0.heap.size W L σ.N.length σ.C.length (W4.setCell ⟨L.A n,2,none⟩ v') L' ((σ.mv j).set n (y.add [x])).N.length ((σ.mv j).set n (y.add [x])).C.length/\L'.A=L.A:=by
 have hvo:=(h.rowQ (j:=j) hy hv (Below.refl _ _)).2
 have hno:=h.nds n y hy
 have a1:L.own (L.A n)=.hd n:=by cases y;exact hno.1
 have hAl:=(h.own (L.A n) (by rw[a1];exact fun e=>by cases e)).2
 have hAv:v.ownBlock≠some (L.A n):=fun e=>by
  have:=(hvo _ e).1
  rw[a1]at this;cases this
 have hQA: ¬L.Q W0.heap.size n j W.heap.size (L.A n):=by
  rintro(q | q | q)
  ·rcases q with q | q
   ·rw[q.1]at a1;cases a1
   ·rw[q.1]at a1;cases a1
  ·rcases q with q | q
   ·rw[q.1]at a1;cases a1
   ·rw[q.1]at a1;cases a1
  ·omega
 refine h.intoX hx hy hne hv (by rw[show(W4.setCell ⟨L.A n,2,none⟩ v').heap.size=W4.heap.size by simp];exact zI hb.size hg.size) (by simp only[zM];exact hg.os.trans hb.os) (by simp only[zM];exact hg.tape.trans hb.tape) (by simp only[zM];exact hg.output.trans hb.output) (fun k hk h1 h2=>?_) (fun k t br bl nv tv h1=>?_) (hO.set hQA 2 v') ?_
 ·rw[zA _ _ _ _ (fun e=>h1 e)]
  exact(hg.block k (zJ hk hb.size) (fun e=>h2 e.symm)).trans (hb.block k hk)
 ·have h9:NdB W4 (L.A n) k t v br bl nv tv:=((hg.block _ (zJ hAl hb.size) (fun e=>hAv e.symm)).trans (hb.block _ hAl)).trans h1
  have h8:=h9.set 2 v'
  unfold NdB
  simpa using h8
 ·rcases hw with hw | hw
  ·exact .inl hw
  ·exact .inr (fun k hk=>zI hb.size (hw k hk))
theorem MM.intoA{W1 W4:World}(h:MM W0 g s E tv W L σ){n j:Nat}{x y:Nd}(hx:σ.N[j]?=some (some x))(hy:σ.N[n]?=some (some y))(hne:j≠n){v:Value}{g4 m4 c4:Nat}{c:Array Value}(hc:W.heap[L.A j]?=some (.cells c 29 (0,0)))(hv:W.cell? ⟨L.A n,2,none⟩=some v)(hb:Below W.heap.size W W1){z:Nd}(hO:OwnN W4 (L.Q W0.heap.size n j W.heap.size) W0.heap.size (.slice (some ⟨g4,0,none⟩) m4 c4) (y.ls++[z]))(hg:W1.grownBy W4 v.ownBlock)(hw:some g4=v.ownBlock\/W1.heap.size<=g4):
 (∃L',MM W0 g s E tv ((W4.setCell ⟨L.A n,2,none⟩ (.slice (some ⟨g4,0,none⟩) m4 c4)).setCells g4 (y.ls.length*7) c.toList) L' ((σ.mv j).set n (y.add [x]))/\MX W0.heap.size W L σ.N.length σ.C.length ((W4.setCell ⟨L.A n,2,none⟩ (.slice (some ⟨g4,0,none⟩) m4 c4)).setCells g4 (y.ls.length*7) c.toList) L' ((σ.mv j).set n (y.add [x])).N.length ((σ.mv j).set n (y.add [x])).C.length/\L'.A=L.A)/\(W4.setCell ⟨L.A n,2,none⟩ (.slice (some ⟨g4,0,none⟩) m4 c4)).there g4 (y.ls.length*7) 7:=by
 have hvo:=(h.rowQ (j:=j) hy hv (Below.refl _ _)).2
 have hno:=h.nds n y hy
 have a1:L.own (L.A n)=.hd n:=by cases y;exact hno.1
 have hAl:=(h.own (L.A n) (by rw[a1];exact fun e=>by cases e)).2
 have hAv:v.ownBlock≠some (L.A n):=fun e=>by
  have:=(hvo _ e).1
  rw[a1]at this;cases this
 have hgA:g4≠L.A n:=fun e=>by
  rcases hw with hw | hw
  ·exact hAv (by rw[<-hw,e])
  ·have:=hb.size;omega
 have hQA: ¬L.Q W0.heap.size n j W.heap.size (L.A n):=by
  rintro(q | q | q)
  ·rcases q with q | q
   ·rw[q.1]at a1;cases a1
   ·rw[q.1]at a1;cases a1
  ·rcases q with q | q
   ·rw[q.1]at a1;cases a1
   ·rw[q.1]at a1;cases a1
  ·omega
 have hO5:=hO.set hQA 2 (.slice (some ⟨g4,0,none⟩) m4 c4)
 have hsz:((W4.setCell ⟨L.A n,2,none⟩ (.slice (some ⟨g4,0,none⟩) m4 c4)).setCells g4 (y.ls.length*7) c.toList).heap.size=W4.heap.size:=by rw[qdn];simp
 have hnd:=h.ndQ (W1:=W4.setCell ⟨L.A n,2,none⟩ (.slice (some ⟨g4,0,none⟩) m4 c4)) hx hne hc (by rw[show(W4.setCell ⟨L.A n,2,none⟩ (.slice (some ⟨g4,0,none⟩) m4 c4)).heap.size=W4.heap.size by simp];exact zI hb.size hg.size) (fun k hk d1 d2=>by
  rw[zA _ _ _ _ (fun e=>d2 (by have e:k=L.A n:=e;rw[e];exact a1))]
  exact(hg.block k (zJ hk hb.size) (fun e=>d1 (hvo k e.symm).1)).trans (hb.block k hk)) g4 ⟨fun _ _=>trivial,by
  rcases hw with hw | hw
  ·exact .inl (hvo g4 hw.symm).1
  ·exact .inr (zI hb.size hw)⟩
 refine⟨?_,by
  have:=hO5.there y.ls.length (by simp)
  exact this⟩
 have hos: ∀(vs:List Value) (o:Nat) (U:World),(U.setCells g4 o vs).os=U.os/\(U.setCells g4 o vs).tape=U.tape/\(U.setCells g4 o vs).output=U.output:=by
  intro vs
  induction vs with
  | nil=>intro o U;exact⟨rfl,rfl,rfl⟩
  | cons a t ih=>
   intro o U
   obtain⟨i1,i2,i3⟩:=ih (o+1) (U.setCell ⟨g4,o,none⟩ a)
   exact⟨i1.trans (by simp only[zM]),i2.trans (by simp only[zM]),i3.trans (by simp only[zM])⟩
 obtain⟨o1,o2,o3⟩:=hos c.toList (y.ls.length*7) (W4.setCell ⟨L.A n,2,none⟩ (.slice (some ⟨g4,0,none⟩) m4 c4))
 refine h.intoX hx hy hne hv (by rw[hsz];exact zI hb.size hg.size) (o1.trans (by simp only[zM];exact hg.os.trans hb.os)) (o2.trans (by simp only[zM];exact hg.tape.trans hb.tape)) (o3.trans (by simp only[zM];exact hg.output.trans hb.output)) (fun k hk h1 h2=>?_) (fun k t br bl nv tv h1=>?_) (hO5.last hnd.1) ?_
 ·have hkg:k≠g4:=fun e=>by
   subst e
   rcases hw with hw | hw
   ·exact h2 hw.symm
   ·have:=hb.size;omega
  rw[qcu _ _ _ _ _ hkg,zA _ _ _ _ (fun e=>h1 e)]
  exact(hg.block k (zJ hk hb.size) (fun e=>h2 e.symm)).trans (hb.block k hk)
 ·have h9:NdB W4 (L.A n) k t v br bl nv tv:=((hg.block _ (zJ hAl hb.size) (fun e=>hAv e.symm)).trans (hb.block _ hAl)).trans h1
  have h8:=h9.set 2 (.slice (some ⟨g4,0,none⟩) m4 c4)
  unfold NdB
  rw[qcu _ _ _ _ _ (Ne.symm hgA)]
  simpa using h8
 ·rcases hw with hw | hw
  ·exact .inl hw
  ·exact .inr (fun k hk=>by
    have hk:some g4=some k:=hk
    rw[<-Option.some.inj hk];exact zI hb.size hw)
end
end Go.Proofs.YtdhadeeajgoedaaGreat
