import Derived.Test.YtdhadeeajgoedaaGreatL28
import Derived.Test.YtdhadeeajgoedaaGreatL31
set_option maxRecDepth 100000
set_option maxHeartbeats 4000000
set_option linter.all false
open List renaming getElem?_cons_zero→zA,getElem?_eq_getElem→zB
open Nat renaming le_refl→zC,le_trans→zD,lt_of_lt_of_le→zE
open Go.World renaming setCell→zF
namespace Go.Proofs.YtdhadeeajgoedaaGreat
open Go.RowKit Go.PlainAid
inductive PTg where
 | fz
 | rd
 | td
 | hd (n:Nat)
 | rw(n:Nat)
 | ch (c:Nat)
 | ca (c:Nat)
 | ah (c:Nat)
structure PLay where
 A:Nat->Nat
 B:Nat->Nat
 own:Nat->PTg
def PLay.P(L:PLay)(b:Nat):Nat->Prop:=fun k=>L.own k=.fz/\b<=k
def BoxC(W:World)(P:Nat->Prop)(p u:Value):Prop:= ∃b,p=.pointer (some ⟨b,0,none⟩)/\P b/\b<W.heap.size/\W.cell? ⟨b,0,none⟩=some u
theorem BoxC.keep{W W':World}{P P':Nat->Prop}{p u:Value}(h:BoxC W P p u)(hk:Keeps P W W')(hp: ∀k,P k->k<W.heap.size->P' k):BoxC W' P' p u:=by
 obtain⟨b,h1,h2,h3,h4⟩:=h
 exact⟨b,h1,hp b h2 h3,zE h3 hk.1,(qdz hk h2 h3).trans h4⟩
def ptr(b:Nat):Value:=.pointer (some ⟨b,0,none⟩)
inductive IsC (W:World) (P:Nat->Prop) (g:Nat) (A B:Nat->Nat) (nN nC:Nat):Value->Stp->Prop where
 | expr (lv:Int) (p q:Value) (h1:BoxC W P p (ptr g)) (h2:BoxC W P q (.int .i64 lv)):IsC W P g A B nN nC (.func (.func 63) #[] #[p,q]) (.expr lv)
 | prim:IsC W P g A B nN nC (.func (.func 96) #[ptr g] #[]) .prim
 | folw (c:Nat) (hc:c<nC):IsC W P g A B nN nC (.func (.func 97) #[ptr (B c)] #[]) (.folw c)
 | join (c:Nat) (op:ByteArray) (own:Int) (p q r:Value) (h1:BoxC W P p (.string op)) (h2:BoxC W P q (ptr (B c))) (h3:BoxC W P r (.int .i64 own)) (hc:c<nC):IsC W P g A B nN nC (.func (.func 156) #[] #[p,q,r]) (.join c op own)
 | call:IsC W P g A B nN nC (.func (.func 150) #[ptr g] #[]) .call
 | chgd:IsC W P g A B nN nC (.func (.func 151) #[ptr g] #[]) .chgd
 | remo:IsC W P g A B nN nC (.func (.func 152) #[ptr g] #[]) .remo
 | clld:IsC W P g A B nN nC (.func (.func 181) #[ptr g] #[]) .clld
 | into (n:Nat) (p q:Value) (h1:BoxC W P p (ptr (A n))) (h2:BoxC W P q (ptr g)) (hn:n<nN):IsC W P g A B nN nC (.func (.func 140) #[] #[p,q]) (.into n)
 | tail (n:Nat) (k:Int) (s:Bs) (p q r v:Value) (h1:BoxC W P p (ptr g)) (h2:BoxC W P q (ptr (A n))) (h3:BoxC W P r v) (h4:IsC W P g A B nN nC v (.want k s)) (hn:n<nN):IsC W P g A B nN nC (.func (.func 209) #[] #[p,q,r]) (.tail n k s)
 | item (o:Stp) (p q v:Value) (h1:BoxC W P p (ptr g)) (h2:BoxC W P q v) (h3:IsC W P g A B nN nC v o):IsC W P g A B nN nC (.func (.func 103) #[] #[p,q]) (.item o)
 | nots (T:List ByteArray) (p q u:Value) (h1:BoxC W P p u) (h2:StIn W P u T) (h3:BoxC W P q (ptr g)):IsC W P g A B nN nC (.func (.func 105) #[] #[p,q]) (.nots T)
 | row (n:Nat) (b:Bs) (o:Stp) (p q r t v1 v2 v3:Value) (h1:BoxC W P p (ptr g)) (h2:BoxC W P q v1) (h3:IsC W P g A B nN nC v1 o) (h4:BoxC W P r v2) (h5:IsC W P g A B nN nC v2 (.into n)) (h6:BoxC W P t v3) (h7:IsC W P g A B nN nC v3 (.more n b o)):IsC W P g A B nN nC (.func (.func 109) #[] #[p,q,r,t]) (.row n b o)
 | more (n:Nat) (b:Bs) (o:Stp) (p x q r t v1 v2:Value) (h1:BoxC W P p (ptr g)) (h2:BoxC W P x (.string ⟨b.toArray⟩)) (h3:BoxC W P q v1) (h4:IsC W P g A B nN nC v1 o) (h5:BoxC W P r v2) (h6:IsC W P g A B nN nC v2 (.into n)) (h7:BoxC W P t (.func (.func 107) #[] #[p,x,q,r,t])):IsC W P g A B nN nC (.func (.func 107) #[] #[p,x,q,r,t]) (.more n b o)
 | wantS (s:Bs) (p q:Value) (h1:BoxC W P p (ptr g)) (h2:BoxC W P q (.string ⟨s.toArray⟩)):IsC W P g A B nN nC (.func (.func 208) #[] #[p,q]) (.want 9 s)
 | wantW (s:Bs) (p q:Value) (h1:BoxC W P p (ptr g)) (h2:BoxC W P q (.string ⟨s.toArray⟩)):IsC W P g A B nN nC (.func (.func 212) #[] #[p,q]) (.want 8 s)
 | box (n:Nat) (o:Bs) (one:Stp) (p x q r v:Value) (h1:BoxC W P p (ptr g)) (h2:BoxC W P x (.string ⟨o.toArray⟩)) (h3:BoxC W P q (ptr (A n))) (h4:BoxC W P r v) (h5:IsC W P g A B nN nC v one) (hn:n<nN):IsC W P g A B nN nC (.func (.func 201) #[] #[p,x,q,r]) (.box n o one)
 | listK (n:Nat) (p q r v:Value) (h1:BoxC W P p (ptr g)) (h2:BoxC W P q (ptr (A n))) (h3:BoxC W P r v) (h4:IsC W P g A B nN nC v (.tail n 9 [93])) (hn:n<nN):IsC W P g A B nN nC (.func (.func 190) #[] #[p,q,r]) (.listK n)
 | perh (lv:Int) (ss:List Bs) (p q r v:Value) (h1:BoxC W P p (ptr g)) (h2:BoxC W P q (.int .i64 lv)) (h3:BoxC W P r v) (h4:IsC W P g A B nN nC v (.perM lv ss)):IsC W P g A B nN nC (.func (.func 217) #[] #[p,q,r]) (.perh lv ss)
 | perM (lv:Int) (ss:List Bs) (p q r u:Value) (h1:BoxC W P p (ptr g)) (h2:BoxC W P q u) (h3:StIn W P u (ss.map (fun s=>⟨s.toArray⟩))) (h4:BoxC W P r (.int .i64 lv)) (h5:ss.length<=100):IsC W P g A B nN nC (.func (.func 215) #[] #[p,q,r]) (.perM lv ss)
 | per2 (op:Bs) (left:Nat) (p q r:Value) (h1:BoxC W P p (.string ⟨op.toArray⟩)) (h2:BoxC W P q (ptr (A left))) (h3:BoxC W P r (ptr g)) (hn:left<nN):IsC W P g A B nN nC (.func (.func 216) #[] #[p,q,r]) (.per2 op left)
 | bodyO (n:Nat) (p q r v:Value) (h1:BoxC W P p (ptr (A n))) (h2:BoxC W P q (ptr g)) (h3:BoxC W P r v) (h4:IsC W P g A B nN nC v (.item (.expr 0))) (hn:n<nN):IsC W P g A B nN nC (.func (.func 75) #[] #[p,q,r]) (.bodyO n)
 | blnk (b:Bool) (p q:Value) (h1:BoxC W P p (.bool b)) (h2:BoxC W P q (ptr g)):IsC W P g A B nN nC (.func (.func 77) #[] #[p,q]) (.blnk b)
 | val:IsC W P g A B nN nC (.func (.func 210) #[ptr g] #[]) .val
 | sized:IsC W P g A B nN nC (.func (.func 211) #[ptr g] #[]) .sized
 | segm:IsC W P g A B nN nC (.func (.func 192) #[ptr g] #[]) .segm
 | pair:IsC W P g A B nN nC (.func (.func 178) #[ptr g] #[]) .pair
 | patC:IsC W P g A B nN nC (.func (.func 48) #[ptr g] #[]) .patC
 | funC:IsC W P g A B nN nC (.func (.func 193) #[ptr g] #[]) .funC
 | tstC:IsC W P g A B nN nC (.func (.func 197) #[ptr g] #[]) .tstC
 | lstC:IsC W P g A B nN nC (.func (.func 199) #[ptr g] #[]) .lstC
 | patt:IsC W P g A B nN nC (.func (.func 82) #[ptr g] #[]) .patt
 | guar:IsC W P g A B nN nC (.func (.func 83) #[ptr g] #[]) .guar
 | alts:IsC W P g A B nN nC (.func (.func 114) #[ptr g] #[]) .alts
 | cond:IsC W P g A B nN nC (.func (.func 143) #[ptr g] #[]) .cond
 | body:IsC W P g A B nN nC (.func (.func 44) #[ptr g] #[]) .body
 | noth (k:Int) (p q:Value) (h1:BoxC W P p (.int .i64 k)) (h2:BoxC W P q (ptr g)):IsC W P g A B nN nC (.func (.func 221) #[] #[p,q]) (.noth k)
 | arrow (n:Nat) (p q:Value) (h1:BoxC W P p (ptr g)) (h2:BoxC W P q (ptr (A n))) (hn:n<nN):IsC W P g A B nN nC (.func (.func 112) #[] #[p,q]) (.arrow n)
 | last (n:Nat) (p q:Value) (h1:BoxC W P p (ptr g)) (h2:BoxC W P q (ptr (A n))) (hn:n<nN):IsC W P g A B nN nC (.func (.func 198) #[] #[p,q]) (.last n)
theorem IsC.keep{W W':World}{P P':Nat->Prop}{g:Nat}{A B A' B':Nat->Nat}{nN nC nN' nC':Nat}(hk:Keeps P W W')(hp: ∀k,P k->k<W.heap.size->P' k)(hA: ∀n,n<nN->A' n=A n)(hB: ∀c,c<nC->B' c=B c)(hN:nN<=nN')(hC:nC<=nC'){v:Value}{s:Stp}(h:IsC W P g A B nN nC v s):IsC W' P' g A' B' nN' nC' v s:=by
 have hb: ∀ {p u:Value},BoxC W P p u->BoxC W' P' p u:=fun h=>h.keep hk hp
 have hs: ∀ {v:Value} {T:List ByteArray},StIn W P v T->StIn W' P' v T:=fun h=>(h.weak (P':=fun k=>P k/\P' k) (fun k a b=>⟨a,hp k a b⟩)).keep ⟨hk.1,fun k a b=>hk.2 k a.1 b⟩ |>.weak (fun _ a _=>a.2)
 induction h with
 | expr lv p q h1 h2=>exact .expr lv p q (hb h1) (hb h2)
 | prim=>exact .prim
 | folw c hc=>rw[<-hB c hc];exact .folw c (by omega)
 | join c op own p q r h1 h2 h3 hc=>exact .join c op own p q r (hb h1) (by rw[hB c hc];exact hb h2) (hb h3) (by omega)
 | call=>exact .call
 | chgd=>exact .chgd
 | remo=>exact .remo
 | clld=>exact .clld
 | into n p q h1 h2 hn=>exact .into n p q (by rw[hA n hn];exact hb h1) (hb h2) (by omega)
 | tail n k s p q r v h1 h2 h3 h4 hn ih=>exact .tail n k s p q r v (hb h1) (by rw[hA n hn];exact hb h2) (hb h3) ih (by omega)
 | item o p q v h1 h2 h3 ih=>exact .item o p q v (hb h1) (hb h2) ih
 | nots T p q u h1 h2 h3=>exact .nots T p q u (hb h1) (hs h2) (hb h3)
 | row n b o p q r t v1 v2 v3 h1 h2 h3 h4 h5 h6 h7 i1 i2 i3=>exact .row n b o p q r t v1 v2 v3 (hb h1) (hb h2) i1 (hb h4) i2 (hb h6) i3
 | more n b o p x q r t v1 v2 h1 h2 h3 h4 h5 h6 h7 i1 i2=>exact .more n b o p x q r t v1 v2 (hb h1) (hb h2) (hb h3) i1 (hb h5) i2 (hb h7)
 | wantS s p q h1 h2=>exact .wantS s p q (hb h1) (hb h2)
 | wantW s p q h1 h2=>exact .wantW s p q (hb h1) (hb h2)
 | box n o one p x q r v h1 h2 h3 h4 h5 hn ih=>exact .box n o one p x q r v (hb h1) (hb h2) (by rw[hA n hn];exact hb h3) (hb h4) ih (by omega)
 | listK n p q r v h1 h2 h3 h4 hn ih=>exact .listK n p q r v (hb h1) (by rw[hA n hn];exact hb h2) (hb h3) ih (by omega)
 | perh lv ss p q r v h1 h2 h3 h4 ih=>exact .perh lv ss p q r v (hb h1) (hb h2) (hb h3) ih
 | perM lv ss p q r u h1 h2 h3 h4 h5=>exact .perM lv ss p q r u (hb h1) (hb h2) (hs h3) (hb h4) h5
 | per2 op left p q r h1 h2 h3 hn=>exact .per2 op left p q r (hb h1) (by rw[hA left hn];exact hb h2) (hb h3) (by omega)
 | bodyO n p q r v h1 h2 h3 h4 hn ih=>exact .bodyO n p q r v (by rw[hA n hn];exact hb h1) (hb h2) (hb h3) ih (by omega)
 | blnk b p q h1 h2=>exact .blnk b p q (hb h1) (hb h2)
 | val=>exact .val
 | sized=>exact .sized
 | segm=>exact .segm
 | pair=>exact .pair
 | patC=>exact .patC
 | funC=>exact .funC
 | tstC=>exact .tstC
 | lstC=>exact .lstC
 | patt=>exact .patt
 | guar=>exact .guar
 | alts=>exact .alts
 | cond=>exact .cond
 | body=>exact .body
 | noth k p q h1 h2=>exact .noth k p q (hb h1) (hb h2)
 | arrow n p q h1 h2 hn=>exact .arrow n p q (hb h1) (by rw[hA n hn];exact hb h2) (by omega)
 | last n p q h1 h2 hn=>exact .last n p q (hb h1) (by rw[hA n hn];exact hb h2) (by omega)
theorem IsC.fn{W:World}{P:Nat->Prop}{g:Nat}{A B:Nat->Nat}{nN nC:Nat}{v:Value}{s:Stp}(h:IsC W P g A B nN nC v s): ∃K f c,v=.func (.func K) f c:=by cases h<;>exact⟨_,_,_,rfl⟩
theorem IsC.one{W:World}{P:Nat->Prop}{g:Nat}{A B:Nat->Nat}{nN nC:Nat}{v:Value}{s:Stp}(h:IsC W P g A B nN nC v s):v.oneCell'=true:=by cases h<;>rfl
def AllC(Q:Value->Stp->Prop):List Value->List Stp->Prop
 | [],[]=>True
 | v::vs,s::ss=>Q v s/\AllC Q vs ss
 | _,_=>False
theorem AllC.mono{Q R:Value->Stp->Prop}(h: ∀v s,Q v s->R v s): ∀ {vs:List Value} {ss:List Stp},AllC Q vs ss->AllC R vs ss
 | [],[],_=>trivial
 | _::_,_::_,hh=>⟨h _ _ hh.1,AllC.mono h hh.2⟩
 | [],_::_,hh=>hh.elim
 | _::_,[],hh=>hh.elim
theorem AllC.len{Q:Value->Stp->Prop}: ∀ {vs:List Value} {ss:List Stp},AllC Q vs ss->vs.length=ss.length
 | [],[],_=>rfl
 | _::_,_::_,hh=>by simp only[List.length_cons,AllC.len hh.2]
 | [],_::_,hh=>hh.elim
 | _::_,[],hh=>hh.elim
theorem AllC.one{Q:Value->Stp->Prop}(h: ∀v s,Q v s->v.oneCell'=true): ∀ {vs:List Value} {ss:List Stp},AllC Q vs ss-> ∀u∈vs,u.oneCell'=true
 | [],[],_,u,hu=>by simp at hu
 | v::vs,s::ss,hh,u,hu=>by
  rcases List.mem_cons.1 hu with rfl | hu
  ·exact h _ _ hh.1
  ·exact AllC.one h hh.2 u hu
 | [],_::_,hh,_,_=>hh.elim
 | _::_,[],hh,_,_=>hh.elim
def TdO(W:World)(b:Nat)(own:Nat->PTg)(Q:Value->Stp->Prop)(td:Value)(k:List Stp):Prop:=
 ∃us:List Value,AllC Q us k/\W.ownsRow b 1 1 td k.length us.reverse/\ ∀j,td.ownBlock=some j->own j=.td
def NdB(W:World)(B:Nat)(k:Int)(t:ByteArray)(lv:Value)(br bl:Bool)(nv tv:Value):Prop:=W.heap[B]?=some (.cells #[.int .i64 k,.string t,lv,.bool br,.bool bl,nv,tv] 29 (0,0))
def PLay.R(L:PLay)(b n:Nat):Nat->Prop:=fun k=>L.P b k\/(L.own k=.rw n/\b<=k)
def NdO(b:Nat)(W:World)(L:PLay)(n:Nat):Nd->Prop
 | .mk k t l br bl no ta=>L.own (L.A n)=.hd n/\ ∃lv nv tv,NdB W (L.A n) k t lv br bl nv tv/\OwnN W (L.R b n) b lv l/\(∀j,lv.ownBlock=some j->L.own j=.rw n)/\StIn W (L.P b) nv no/\StIn W (L.P b) tv ta
def qf6(n:Nat):List ByteArray:=List.replicate n ⟨#[99,97,116,99,104]⟩
def lfV(L:PLay):Option Nat->Value
 | none=>.pointer none
 | some l=>ptr (L.A l)
def ChB(W:World)(B g:Nat)(lv:Int)(cv av:Value)(st:Bool)(fv:Value)(hs:Int):Prop:=W.heap[B]?=some (.cells #[ptr g,.int .i64 lv,cv,av,.bool st,fv,.int .i64 hs] 87 (0,0))
def ChO(b:Nat)(W:World)(L:PLay)(g c:Nat)(x:Chn):Prop:=
 L.own (L.B c)=.ch c/\ ∃cv av,ChB W (L.B c) g x.lv cv av x.st (lfV L x.lf) x.hs/\Txs W b cv (qf6 x.ct)/\(∀j,cv.ownBlock=some j->L.own j=.ca c)/\Txs W b av x.ah/\(∀j,av.ownBlock=some j->L.own j=.ah c)
structure MM (W0:World) (g:Nat) (s:ByteArray) (E:Env) (tv:Value) (W:World) (L:PLay) (σ:PM):Prop where
 bel:Below W0.heap.size W0 W
 own: ∀k,L.own k≠ .fz->W0.heap.size<=k/\k<W.heap.size
 og:L.own g=.rd
 tvb: ∀j,tv.ownBlock=some j->j<W0.heap.size
 rd: ∃td np past,RdM W g s E tv td np σ.i past/\TdO W W0.heap.size L.own (IsC W (L.P W0.heap.size) g L.A L.B σ.N.length σ.C.length) td σ.k/\(∀j,σ.n=some j->np=ptr (L.A j))
 nds: ∀n x,σ.N[n]?=some (some x)->NdO W0.heap.size W L n x
 chs: ∀c x,σ.C[c]?=some x->ChO W0.heap.size W L g c x
 lfb: ∀(c:Nat) (x:Chn) (l:Nat),σ.C[c]?=some x->x.lf=some l->l<σ.N.length
 nb: ∀j,σ.n=some j->j<σ.N.length
structure MX (b:Nat) (W:World) (L:PLay) (nN nC:Nat) (W':World) (L':PLay) (nN' nC':Nat):Prop where
 kp:Keeps (L.P b) W W'
 fz: ∀k,L.P b k->k<W.heap.size->L'.P b k
 A: ∀n,n<nN->L'.A n=L.A n
 B: ∀c,c<nC->L'.B c=L.B c
 N:nN<=nN'
 C:nC<=nC'
theorem MX.refl(b:Nat)(W:World)(L:PLay)(nN nC:Nat):MX b W L nN nC W L nN nC:=⟨Keeps.refl _ _,fun _ h _=>h,fun _ _=>rfl,fun _ _=>rfl,zC _,zC _⟩
theorem MX.trans{b:Nat}{W W' W'':World}{L L' L'':PLay}{nN nC nN' nC' nN'' nC'':Nat}(h:MX b W L nN nC W' L' nN' nC')(k:MX b W' L' nN' nC' W'' L'' nN'' nC''):MX b W L nN nC W'' L'' nN'' nC'':=
 ⟨⟨zD h.kp.1 k.kp.1,fun j hj hl=>(k.kp.2 j (h.fz j hj hl) (zE hl h.kp.1)).trans (h.kp.2 j hj hl)⟩,fun j hj hl=>k.fz j (h.fz j hj hl) (zE hl h.kp.1),fun n hn=>(k.A n (zE hn h.N)).trans (h.A n hn),fun c hc=>(k.B c (zE hc h.C)).trans (h.B c hc),zD h.N k.N,zD h.C k.C⟩
theorem MX.box{b:Nat}{W W':World}{L L':PLay}{nN nC nN' nC':Nat}(h:MX b W L nN nC W' L' nN' nC'){p u:Value}(hb:BoxC W (L.P b) p u):BoxC W' (L'.P b) p u:=hb.keep h.kp h.fz
theorem MX.st{b:Nat}{W W':World}{L L':PLay}{nN nC nN' nC':Nat}(h:MX b W L nN nC W' L' nN' nC'){v:Value}{T:List ByteArray}(hs:StIn W (L.P b) v T):StIn W' (L'.P b) v T:=
 ((hs.weak (P':=fun k=>L.P b k/\L'.P b k) (fun k a c=>⟨a,h.fz k a c⟩)).keep ⟨h.kp.1,fun k a c=>h.kp.2 k a.1 c⟩).weak (fun _ a _=>a.2)
theorem MX.isc{b:Nat}{W W':World}{L L':PLay}{nN nC nN' nC' g:Nat}(h:MX b W L nN nC W' L' nN' nC'){v:Value}{s:Stp}(hs:IsC W (L.P b) g L.A L.B nN nC v s):IsC W' (L'.P b) g L'.A L'.B nN' nC' v s:=hs.keep h.kp h.fz h.A h.B h.N h.C
theorem qc2{W W':World}{b:Nat}{t:TypeId}{z:Nat}{v:Value}{n:Nat}{xs:List Value}(h:W.ownsRow b t z v n xs)(hk: ∀j,v.ownBlock=some j->W'.heap[j]?=W.heap[j]?):W'.ownsRow b t z v n xs:=by
 obtain⟨h1,h2 | ⟨g,cap,cur,rfl,h4,h5,h6⟩⟩:=h
 ·exact⟨h1,.inl h2⟩
 ·exact⟨h1,.inr ⟨g,cap,cur,rfl,h4,(hk g rfl).trans h5,h6⟩⟩
theorem TdO.keep{W W':World}{b:Nat}{own own':Nat->PTg}{Q Q':Value->Stp->Prop}{td:Value}{k:List Stp}(h:TdO W b own Q td k)(hk: ∀j,td.ownBlock=some j->W'.heap[j]?=W.heap[j]?)(hq: ∀v s,Q v s->Q' v s)(ho: ∀j,td.ownBlock=some j->own' j=own j):TdO W' b own' Q' td k:=by
 obtain⟨us,h1,h2,h3⟩:=h
 exact⟨us,h1.mono hq,qc2 h2 hk,fun j hj=>(ho j hj).trans (h3 j hj)⟩
theorem NdB.cells{W:World}{B:Nat}{k:Int}{t:ByteArray}{lv nv tv:Value}{br bl:Bool}(h:NdB W B k t lv br bl nv tv):W.cell? ⟨B,0,none⟩=some (.int .i64 k)/\W.cell? ⟨B,1,none⟩=some (.string t)/\W.cell? ⟨B,2,none⟩=some lv/\W.cell? ⟨B,3,none⟩=some (.bool br)/\W.cell? ⟨B,4,none⟩=some (.bool bl)/\W.cell? ⟨B,5,none⟩=some nv/\W.cell? ⟨B,6,none⟩=some tv:=
 ⟨by rw[cell_of_row W _ _ _ _ _ h];rfl,by rw[cell_of_row W _ _ _ _ _ h];rfl,by rw[cell_of_row W _ _ _ _ _ h];rfl,by rw[cell_of_row W _ _ _ _ _ h];rfl,by rw[cell_of_row W _ _ _ _ _ h];rfl,by rw[cell_of_row W _ _ _ _ _ h];rfl,by rw[cell_of_row W _ _ _ _ _ h];rfl⟩
theorem NdB.frz{W:World}{B:Nat}{k:Int}{t:ByteArray}{lv nv tv:Value}{br bl:Bool}(h:NdB W B k t lv br bl nv tv)(j:Nat):W.frozen? ⟨B,j,none⟩=false:=qaw h j
theorem NdB.lt{W:World}{B:Nat}{k:Int}{t:ByteArray}{lv nv tv:Value}{br bl:Bool}(h:NdB W B k t lv br bl nv tv):B<W.heap.size:=lt_of_block h
theorem NdO.keep{b:Nat}{W W':World}{L L':PLay}{n:Nat}{x:Nd}(h:NdO b W L n x)(hs:W.heap.size<=W'.heap.size)(h1:W'.heap[L.A n]?=W.heap[L.A n]?)(h2: ∀k,L.own k=.rw n->b<=k->k<W.heap.size->W'.heap[k]?=W.heap[k]?)(hk:Keeps (L.P b) W W')
 (hA:L'.A n=L.A n) (ha:L'.own (L.A n)=.hd n) (hr: ∀k,k<W.heap.size->L.own k=.rw n->L'.own k=.rw n) (hp: ∀k,L.P b k->k<W.heap.size->L'.P b k):NdO b W' L' n x:=by
 cases x with
 | mk k t l br bl no ta=>
  obtain⟨a1,lv,nv,tv,a2,a3,a4,a5,a6⟩:=h
  have hkR:Keeps (L.R b n) W W':=⟨hs,fun j hj hl=>hj.elim (fun e=>hk.2 j e hl) (fun e=>h2 j e.1 e.2 hl)⟩
  have hst: ∀ {v:Value} {T:List ByteArray},StIn W (L.P b) v T->StIn W' (L'.P b) v T:=fun hs=>((hs.weak (P':=fun k=>L.P b k/\L'.P b k) (fun k a c=>⟨a,hp k a c⟩)).keep ⟨hk.1,fun k a c=>hk.2 k a.1 c⟩).weak (fun _ a _=>a.2)
  refine⟨by rw[hA];exact ha,lv,nv,tv,by rw[hA];exact h1.trans a2,?_,fun j hj=>hr j (a3.lt j hj).2 (a4 j hj),hst a5,hst a6⟩
  have h9:OwnN W (fun k=>L.R b n k/\L'.R b n k) b lv l:=a3.weak (fun k hk2 hl=>⟨hk2,hk2.elim (fun e=>.inl (hp k e hl)) (fun e=>.inr ⟨hr k hl e.1,e.2⟩)⟩) (zC _)
  have h8:OwnN W' (fun k=>L.R b n k/\L'.R b n k) b lv l:=by
   obtain⟨css,q1,q2,q3,q4⟩:=h9
   exact⟨css,q1,fun i c x hc hx=>(q2 i c x hc hx).keep ⟨hs,fun j hj hl=>hkR.2 j hj.1.1 hl⟩,qc2 q3 (fun j hj=>hkR.2 j (q4 j hj).1 (q3.lt j hj).2),q4⟩
  exact h8.weak (fun k hk2 _=>hk2.2) (zC _)
theorem ChO.keep{b g:Nat}{W W':World}{L L':PLay}{c:Nat}{x:Chn}(h:ChO b W L g c x)(h1: ∀k,L.own k=.ch c\/L.own k=.ca c\/L.own k=.ah c->k<W.heap.size->W'.heap[k]?=W.heap[k]?)
 (hB:L'.B c=L.B c) (ho: ∀k,k<W.heap.size->L.own k=.ch c\/L.own k=.ca c\/L.own k=.ah c->L'.own k=L.own k) (hf:lfV L' x.lf=lfV L x.lf):ChO b W' L' g c x:=by
 obtain⟨a1,cv,av,a2,a3,a4,a5,a6⟩:=h
 have hl:L.B c<W.heap.size:=lt_of_block a2
 refine⟨by rw[hB,ho _ hl (.inl a1)];exact a1,cv,av,?_,qc2 a3 (fun j hj=>h1 j (.inr (.inl (a4 j hj))) (World.ownsRow.lt a3 j hj).2),fun j hj=>?_,qc2 a5 (fun j hj=>h1 j (.inr (.inr (a6 j hj))) (World.ownsRow.lt a5 j hj).2),fun j hj=>?_⟩
 ·rw[hB,hf]
  exact(h1 _ (.inl a1) hl).trans a2
 ·rw[ho j (World.ownsRow.lt a3 j hj).2 (.inr (.inl (a4 j hj)))];exact a4 j hj
 ·rw[ho j (World.ownsRow.lt a5 j hj).2 (.inr (.inr (a6 j hj)))];exact a6 j hj
section
variable{W0 W:World}{g:Nat}{s:ByteArray}{E:Env}{tv:Value}{L:PLay}{σ:PM}
theorem MM.below{W':World}(h:MM W0 g s E tv W L σ)(hb:Below W.heap.size W W'):MM W0 g s E tv W' L σ:=by
 obtain⟨td,np,past,r1,r2,r3⟩:=h.rd
 have hk: ∀P:Nat->Prop,Keeps P W W':=fun P=>qay hb
 obtain⟨us,t1,t2,t3⟩:=r2
 refine⟨h.bel.trans (hb.mono h.bel.size),fun k hk=>⟨(h.own k hk).1,zE (h.own k hk).2 hb.size⟩,h.og,h.tvb,⟨td,np,past,r1.below hb,⟨us,t1.mono (fun v s hv=>hv.keep (hk _) (fun _ a _=>a) (fun _ _=>rfl) (fun _ _=>rfl) (zC _) (zC _)),qc9 t2 hb,t3⟩,r3⟩,fun n x hx=>?_,fun c x hx=>?_,?_,h.nb⟩
 ·exact(h.nds n x hx).keep hb.size (hb.block _ (by
   have:=h.nds n x hx
   cases x with
   | mk k t l br bl no ta=>obtain⟨a1,-⟩:=this;exact(h.own _ (by rw[a1];exact fun e=>by cases e)).2)) (fun k _ _ hl=>hb.block k hl) (hk _) rfl (by
   have:=h.nds n x hx
   cases x with
   | mk k t l br bl no ta=>exact this.1) (fun _ _ a=>a) (fun _ a _=>a)
 ·exact(h.chs c x hx).keep (fun k _ hl=>hb.block k hl) rfl (fun _ _ _=>rfl) rfl
 ·exact h.lfb
theorem MM.mxb{W':World}(_h:MM W0 g s E tv W L σ)(hb:Below W.heap.size W W'):MX W0.heap.size W L σ.N.length σ.C.length W' L σ.N.length σ.C.length:=⟨qay hb,fun _ a _=>a,fun _ _=>rfl,fun _ _=>rfl,zC _,zC _⟩
structure MC (W0 W:World) (g:Nat) (L:PLay) (σ:PM) (W':World) (L':PLay) (D:PTg->Prop):Prop where
 bel:Below W0.heap.size W0 W'
 kp:Keeps (L.P W0.heap.size) W W'
 fz: ∀k,L.P W0.heap.size k->k<W.heap.size->L'.P W0.heap.size k
 nds: ∀n x,σ.N[n]?=some (some x)-> ¬D (.hd n)-> ¬D (.rw n)->NdO W0.heap.size W' L' n x
 chs: ∀c x,σ.C[c]?=some x-> ¬D (.ch c)-> ¬D (.ca c)-> ¬D (.ah c)->ChO W0.heap.size W' L' g c x
 td: ∀td nN nC,σ.N.length<=nN->σ.C.length<=nC-> ¬D .td->TdO W W0.heap.size L.own (IsC W (L.P W0.heap.size) g L.A L.B σ.N.length σ.C.length) td σ.k->TdO W' W0.heap.size L'.own (IsC W' (L'.P W0.heap.size) g L'.A L'.B nN nC) td σ.k
 mx: ∀nN nC,σ.N.length<=nN->σ.C.length<=nC->MX W0.heap.size W L σ.N.length σ.C.length W' L' nN nC
theorem MM.carry{W':World}{L':PLay}(h:MM W0 g s E tv W L σ)(D:PTg->Prop)(hD: ¬D .fz)(hs:W.heap.size<=W'.heap.size)(h1:W'.os=W.os)(h2:W'.tape=W.tape)(h3:W'.output=W.output)
 (hb: ∀k,k<W.heap.size-> ¬D (L.own k)->W'.heap[k]?=W.heap[k]?) (ho: ∀k,k<W.heap.size-> ¬D (L.own k)->L'.own k=L.own k) (hA: ∀n,n<σ.N.length->L'.A n=L.A n) (hB: ∀c,c<σ.C.length->L'.B c=L.B c):MC W0 W g L σ W' L' D:=by
 have hkp:Keeps (L.P W0.heap.size) W W':=⟨hs,fun k hk hl=>hb k hl (by rw[hk.1];exact hD)⟩
 have hfz: ∀k,L.P W0.heap.size k->k<W.heap.size->L'.P W0.heap.size k:=fun k hk hl=>⟨(ho k hl (by rw[hk.1];exact hD)).trans hk.1,hk.2⟩
 have hof: ∀k,k<W0.heap.size->L.own k=.fz:=fun k hk=>by
  by_cases e:L.own k=.fz
  ·exact e
  ·have:=(h.own k e).1;omega
 refine⟨⟨h1.trans h.bel.os,h2.trans h.bel.tape,h3.trans h.bel.output,zD h.bel.size hs,fun k hk=>(hb k (zE hk h.bel.size) (by rw[hof k hk];exact hD)).trans (h.bel.block k hk)⟩,hkp,hfz,fun n x hx d1 d2=>?_,fun c x hx d1 d2 d3=>?_,fun td nN nC hN hC d1 ht=>?_,fun nN nC hN hC=>⟨hkp,hfz,hA,hB,hN,hC⟩⟩
 ·have h9:=h.nds n x hx
  have ha:L.own (L.A n)=.hd n:=by
   cases x with
   | mk k t l br bl no ta=>exact h9.1
  have hl:=(h.own (L.A n) (by rw[ha];exact fun e=>by cases e)).2
  have hn:n<σ.N.length:=(List.getElem?_eq_some_iff.1 hx).1
  exact h9.keep hs (hb _ hl (by rw[ha];exact d1)) (fun k hk _ hl=>hb k hl (by rw[hk];exact d2)) hkp (hA n hn) ((ho _ hl (by rw[ha];exact d1)).trans ha) (fun k hl hk=>(ho k hl (by rw[hk];exact d2)).trans hk) hfz
 ·have hc:c<σ.C.length:=(List.getElem?_eq_some_iff.1 hx).1
  have hd: ∀k,L.own k=.ch c\/L.own k=.ca c\/L.own k=.ah c-> ¬D (L.own k):=fun k hk=>by
   rcases hk with hk | hk | hk
   ·rw[hk];exact d1
   ·rw[hk];exact d2
   ·rw[hk];exact d3
  refine(h.chs c x hx).keep (fun k hk hl=>hb k hl (hd k hk)) (hB c hc) (fun k hl hk=>ho k hl (hd k hk)) ?_
  cases hf:x.lf with
  | none=>rfl
  | some l=>show ptr (L'.A l)=ptr (L.A l);rw[hA l (h.lfb c x l hx hf)]
 ·obtain⟨us,t1,t2,t3⟩:=ht
  exact⟨us,t1.mono (fun v s hv=>hv.keep hkp hfz hA hB hN hC),qc2 t2 (fun j hj=>hb j (World.ownsRow.lt t2 j hj).2 (by rw[t3 j hj];exact d1)),fun j hj=>(ho j (World.ownsRow.lt t2 j hj).2 (by rw[t3 j hj];exact d1)).trans (t3 j hj)⟩
theorem MM.only{W':World}{x:Nat}(h:MM W0 g s E tv W L σ)(hg:W.grownBy W' (some x))(hx:L.own x≠ .fz):
 Below W0.heap.size W0 W'/\(∀k,L.own k≠ .fz->W0.heap.size<=k/\k<W'.heap.size)/\Keeps (L.P W0.heap.size) W W'/\
 (∀n y,σ.N[n]?=some (some y)->L.own x≠ .hd n->L.own x≠ .rw n->NdO W0.heap.size W' L n y)/\
 (∀c y,σ.C[c]?=some y->L.own x≠ .ch c->L.own x≠ .ca c->L.own x≠ .ah c->ChO W0.heap.size W' L g c y):=by
 have hox:=(h.own x hx).1
 have hkp:Keeps (L.P W0.heap.size) W W':=⟨hg.size,fun k hk hl=>hg.block k hl (fun e=>by rw[Option.some.inj e]at hk;exact hx hk.1)⟩
 refine⟨⟨hg.os.trans h.bel.os,hg.tape.trans h.bel.tape,hg.output.trans h.bel.output,zD h.bel.size hg.size,fun k hk=>(hg.block k (zE hk h.bel.size) (fun e=>by rw[Option.some.inj e]at hk;omega)).trans (h.bel.block k hk)⟩,fun k hk=>⟨(h.own k hk).1,zE (h.own k hk).2 hg.size⟩,hkp,fun n y hy h1 h2=>?_,fun c y hy h1 h2 h3=>?_⟩
 ·have h9:=h.nds n y hy
  have ha:L.own (L.A n)=.hd n:=by
   cases y with
   | mk k t l br bl no ta=>exact h9.1
  exact h9.keep hg.size (hg.block _ (h.own _ (by rw[ha];exact fun e=>by cases e)).2 (fun e=>h1 (by rw[<-Option.some.inj e];exact ha))) (fun k hk _ hl=>hg.block k hl (fun e=>h2 (by rw[<-Option.some.inj e];exact hk))) hkp rfl ha (fun _ _ a=>a) (fun _ a _=>a)
 ·exact(h.chs c y hy).keep (fun k hk hl=>hg.block k hl (fun e=>by
   rw[Option.some.inj e]at hk
   rcases hk with hk | hk | hk
   ·exact h1 hk
   ·exact h2 hk
   ·exact h3 hk)) rfl (fun _ _ _=>rfl) rfl
theorem MM.open(h:MM W0 g s E tv W L σ): ∃td np past,RdM W g s E tv td np σ.i past/\(∀j,σ.n=some j->np=ptr (L.A j))/\ ∀W' i' past',RdM W' g s E tv td np i' past'->W.grownBy W' (some g)->MM W0 g s E tv W' L (σ.at_ i'):=by
 obtain⟨td,np,past,r1,r2,r3⟩:=h.rd
 refine⟨td,np,past,r1,r3,fun W' i' past' hr hg=>?_⟩
 obtain⟨o1,o2,o3,o4,o5⟩:=h.only hg (by rw[h.og];exact fun e=>by cases e)
 refine⟨o1,o2,h.og,h.tvb,⟨td,np,past',hr,r2.keep (fun j hj=>?_) (fun v s hv=>hv.keep o3 (fun _ a _=>a) (fun _ _=>rfl) (fun _ _=>rfl) (zC _) (zC _)) (fun _ _=>rfl),r3⟩,fun n x hx=>o4 n x hx (by rw[h.og];exact fun e=>by cases e) (by rw[h.og];exact fun e=>by cases e),fun c x hx=>o5 c x hx (by rw[h.og];exact fun e=>by cases e) (by rw[h.og];exact fun e=>by cases e) (by rw[h.og];exact fun e=>by cases e),h.lfb,h.nb⟩
 obtain⟨us,t1,t2,t3⟩:=r2
 exact hg.block j (World.ownsRow.lt t2 j hj).2 (fun e=>by
  have h1:=t3 j hj
  rw[Option.some.inj e,h.og]at h1
  cases h1)
theorem MM.mxg{W':World}(h:MM W0 g s E tv W L σ)(hg:W.grownBy W' (some g)):MX W0.heap.size W L σ.N.length σ.C.length W' L σ.N.length σ.C.length:=
 ⟨(h.only hg (by rw[h.og];exact fun e=>by cases e)).2.2.1,fun _ a _=>a,fun _ _=>rfl,fun _ _=>rfl,zC _,zC _⟩
theorem MM.belg{W':World}(h:MM W0 g s E tv W L σ)(hg:W.grownBy W' (some g)):Below W0.heap.size W0 W':=(h.only hg (by rw[h.og];exact fun e=>by cases e)).1
end
def MO{α:Type}(r:Rs α)(W0:World)(g:Nat)(s:ByteArray)(E:Env)(tv:Value)(W:World)(L:PLay)(σ:PM)(val:α->Value)(pos:α->Nat)(e:Ending)(W':World):Prop:=
 match r with
 | .ok x=>e=.returned (val x)/\MM W0 g s E tv W' L (σ.at_ (pos x))/\MX W0.heap.size W L σ.N.length σ.C.length W' L σ.N.length σ.C.length
 | .error _=>Died e/\Below W0.heap.size W0 W'
section
variable{W0 W:World}{g:Nat}{s:ByteArray}{E:Env}{tv:Value}{L:PLay}{σ:PM}
theorem MM.mo{α:Type}{r:Rs α}{val:α->Value}{pos:α->Nat}{K:Nat}{args:Array Value}(h:MM W0 g s E tv W L σ)(hc: ∀td np past,RdM W g s E tv td np σ.i past->Calls Tryz.prog K args W (RdO r W g s E tv td np val pos)):
 Calls Tryz.prog K args W (MO r W0 g s E tv W L σ val pos):=by
 obtain⟨td,np,past,r1,r3,r4⟩:=h.open
 refine(hc td np past r1).mono ?_
 rintro e W' ⟨hg,h2⟩
 cases r with
 | ok x=>
  obtain⟨rfl,p,h3⟩:=h2
  exact⟨rfl,r4 _ _ _ h3 hg,h.mxg hg⟩
 | error b=>exact⟨h2,h.belg hg⟩
theorem qdd(h:MM W0 g s E tv W L σ)(t:Bs):Calls Tryz.prog 108 #[ptr g,.string ⟨t.toArray⟩] W (MO (sgE E 9 t σ.i) W0 g s E tv W L σ (fun x=>.bool x.1) (·.2)):=h.mo (fun _ _ _ hr=>qs1 t hr)
theorem qjf(h:MM W0 g s E tv W L σ)(t:Bs):Calls Tryz.prog 91 #[ptr g,.string ⟨t.toArray⟩] W (MO (sgE E 8 t σ.i) W0 g s E tv W L σ (fun x=>.bool x.1) (·.2)):=h.mo (fun _ _ _ hr=>qt8 t hr)
theorem qqe(h:MM W0 g s E tv W L σ):Calls Tryz.prog 179 #[ptr g] W (MO (txE E nmk σ.i) W0 g s E tv W L σ (fun x=>.string x.1) (·.2)):=h.mo (fun _ _ _ hr=>qqf hr)
theorem qkp(h:MM W0 g s E tv W L σ):Calls Tryz.prog 195 #[ptr g] W (MO (txE E szk σ.i) W0 g s E tv W L σ (fun x=>.string x.1) (·.2)):=h.mo (fun _ _ _ hr=>qkq hr)
theorem qvy(h:MM W0 g s E tv W L σ)(hp:E.pk σ.i<E.to):Calls Tryz.prog 94 #[ptr g] W (MO (tkE E σ.i) W0 g s E tv W L σ (fun _=>.tuple #[]) id):=h.mo (fun _ _ _ hr=>qdv hr hp)
theorem MM.look{K:Nat}{args:Array Value}{v:Value}(h:MM W0 g s E tv W L σ)(hc: ∀td np past,RdM W g s E tv td np σ.i past->Calls Tryz.prog K args W fun e W'=>e=.returned v/\RdM W' g s E tv td np σ.i (E.pk σ.i)/\W.grownBy W' (some g)):
 Calls Tryz.prog K args W fun e W'=>e=.returned v/\MM W0 g s E tv W' L σ/\MX W0.heap.size W L σ.N.length σ.C.length W' L σ.N.length σ.C.length:=by
 obtain⟨td,np,past,r1,r3,r4⟩:=h.open
 refine(hc td np past r1).mono ?_
 rintro e W' ⟨rfl,h3,hg⟩
 exact⟨rfl,r4 _ _ _ h3 hg,h.mxg hg⟩
theorem qcb(h:MM W0 g s E tv W L σ)(t:Bs):Calls Tryz.prog 95 #[ptr g,.string ⟨t.toArray⟩] W fun e W'=>e=.returned (.bool (E.sign (pz σ.i) t))/\MM W0 g s E tv W' L σ/\MX W0.heap.size W L σ.N.length σ.C.length W' L σ.N.length σ.C.length:=h.look (fun _ _ _ hr=>qh3 t rfl hr)
theorem qme(h:MM W0 g s E tv W L σ)(t:Bs):Calls Tryz.prog 119 #[ptr g,.string ⟨t.toArray⟩] W fun e W'=>e=.returned (.bool (E.word (pz σ.i) t))/\MM W0 g s E tv W' L σ/\MX W0.heap.size W L σ.N.length σ.C.length W' L σ.N.length σ.C.length:=h.look (fun _ _ _ hr=>qf5 t rfl hr)
theorem nearM(h:MM W0 g s E tv W L σ):Calls Tryz.prog 121 #[ptr g] W fun e W'=>e=.returned (.bool (E.pk σ.i==σ.i))/\MM W0 g s E tv W' L σ/\MX W0.heap.size W L σ.N.length σ.C.length W' L σ.N.length σ.C.length:=h.look (fun _ _ _ hr=>qgs hr)
theorem qv5(h:MM W0 g s E tv W L σ):Calls Tryz.prog 92 #[ptr g] W fun e W'=>e=.returned (.string (opE E σ.i))/\MM W0 g s E tv W' L σ/\MX W0.heap.size W L σ.N.length σ.C.length W' L σ.N.length σ.C.length:=h.look (fun _ _ _ hr=>qqq hr)
theorem nextM(h:MM W0 g s E tv W L σ):Calls Tryz.prog 120 #[ptr g] W fun e W'=>e=.returned (.agg #[.int .i64 (nxE E σ.i).1,.string (nxE E σ.i).2.1,.int .i64 (nxE E σ.i).2.2])/\MM W0 g s E tv W' L σ/\MX W0.heap.size W L σ.N.length σ.C.length W' L σ.N.length σ.C.length:=h.look (fun _ _ _ hr=>qdc hr)
theorem qku(h:MM W0 g s E tv W L σ):Calls Tryz.prog 113 #[ptr g] W fun e W'=>e=.returned (.bool (brE E σ.i))/\MM W0 g s E tv W' L σ/\MX W0.heap.size W L σ.N.length σ.C.length W' L σ.N.length σ.C.length:=by
 obtain⟨td,np,past,r1,r3,r4⟩:=h.open
 refine(qkv r1).mono ?_
 rintro e W' ⟨rfl,hb⟩
 exact⟨rfl,h.below hb,h.mxb hb⟩
theorem blankM(h:MM W0 g s E tv W L σ):Calls Tryz.prog 76 #[ptr g] W fun e W'=>e=.returned (.bool (blE E σ.i))/\MM W0 g s E tv W' L σ/\MX W0.heap.size W L σ.N.length σ.C.length W' L σ.N.length σ.C.length:=by
 obtain⟨td,np,past,r1,r3,r4⟩:=h.open
 refine(qne r1).mono ?_
 rintro e W' ⟨rfl,hb⟩
 exact⟨rfl,h.below hb,h.mxb hb⟩
theorem qwx(h:MM W0 g s E tv W L σ):Calls Tryz.prog 104 #[ptr g] W fun e W'=> ∃v,e=.returned v/\StIn W' (L.P W0.heap.size) v (ntE E σ.i).1/\MM W0 g s E tv W' L (σ.at_ (ntE E σ.i).2)/\MX W0.heap.size W L σ.N.length σ.C.length W' L σ.N.length σ.C.length:=by
 obtain⟨td,np,past,r1,r3,r4⟩:=h.open
 refine(qnv r1).mono ?_
 rintro e W' ⟨v,rfl,h1,⟨p,h2⟩,hg⟩
 have hm:=r4 _ _ _ h2 hg
 refine⟨v,rfl,h1.weak (fun k hk hl=>?_),hm,h.mxg hg⟩
 have hk2:W.heap.size<=k:=hk
 refine⟨?_,zD h.bel.size hk2⟩
 by_cases e:L.own k=.fz
 ·exact e
 ·have:=(h.own k e).2;omega
end
theorem infoFn:(Tryz.prog.info? 1).map (fun i=>(i.zero,i.size,i.bytes))=some (some .nilFunc,1,8):=by kernel_rfl
theorem qhg{w:World}{ops:Array Oper}{o:Oper}{a:Act}{K:Act->World->Prop}{Q:Exit->Act->World->Prop}{F:Prop}(hgd:o.guard=none)(s' x':Operand)
 (ho:o.op=.call { callee:=.builtin .append,args:= #[s',x'],argTypes:= #[82,82] }) (base:Nat) (v:Value) (I:List Value) (hs:a.eval s'=v) (hown:w.ownsRow base 1 1 v I.length I) (q:Nat) (x:Value) (hx:a.eval x'=.slice (some ⟨q,0,none⟩) 1 1)
 (hc:w.cell? ⟨q,0,none⟩=some x) (h1c:x.oneCell'=true) (hl:I.length<=1099511627776) (hbase:base<=w.heap.size)
 (h: ∀v' w',w'.ownsRow base 1 1 v' (I.length+1) (I++[x])->w.grownBy w' v.ownBlock->(v'.ownBlock=v.ownBlock\/ ∀k,v'.ownBlock=some k->w.heap.size<=k)->K (a.put o.dst v') w'):
 if Region.wanted o (yielded ops a.tmps)=true then Oper.wp Tryz.prog o a w K Q else F:=by
 obtain⟨i0,hi,hz0,hz1,hz2⟩:=info_parts infoFn
 obtain⟨v',w',hrun,h1,h2,h3⟩:=qc6 (P:=Tryz.prog) w base 82 o.type 1 i0 _ 1 8 Tryz.underlying82 hi hz0 hz1 hz2 rfl (by decide) v I.length I hown ⟨q,0,none⟩ 1 1 [x] rfl
  (fun j y hj=>by
   match j,hj with
   | 0,hj=>simp only[zA,Option.some.injEq]at hj;subst hj;rw[show(⟨q,0,none⟩:Addr).add 0=⟨q,0,none⟩by simp[Addr.add]];exact hc
   | j+1,hj=>simp at hj)
  (by intro y hy;simp only[List.mem_cons,List.not_mem_nil,or_false]at hy;subst hy;exact h1c) (by unfold maxLen;omega) (by omega) hbase
 have hw:Region.wanted o (yielded ops a.tmps)=true:=by simp[Region.wanted,hgd]
 rw[if_pos hw]
 unfold Oper.wp
 simp[execOp,ho,resolve,invoke,builtin,hs,hx,hrun,Result.andThen]
 exact h v' w' h1 h2 h3
def StpR(W:World)(P:Nat->Prop)(g:Nat)(A B:Nat->Nat)(nN nC b:Nat)(vs:List Value)(ss:List Stp):Prop:=
 AllC (IsC W P g A B nN nC) vs ss/\P b/\b<W.heap.size/\ ∀j u,vs[j]?=some u->W.cell? ⟨b,j,none⟩=some u
theorem AllC.at{Q:Value->Stp->Prop}: ∀ {vs:List Value} {ss:List Stp},AllC Q vs ss-> ∀(j:Nat) (v:Value) (s:Stp),vs[j]?=some v->ss[j]?=some s->Q v s
 | v::vs,s::ss,h,0,v',s',h1,h2=>by
  simp only[zA,Option.some.injEq]at h1 h2
  rw[<-h1,<-h2];exact h.1
 | v::vs,s::ss,h,j+1,v',s',h1,h2=>by
  simp only[List.getElem?_cons_succ]at h1 h2
  exact h.2.at j v' s' h1 h2
 | [],_,_,_,_,_,h1,_=>by simp at h1
 | _::_,[],h,_,_,_,_,_=>h.elim
theorem qjn{α:Type}{L:List α}{i:Nat}{x:α}(h:L[i]?=some x):L.drop i=x::L.drop (i+1):=qnh h
section
variable{W0 W:World}{g:Nat}{s:ByteArray}{E:Env}{tv:Value}{L:PLay}{σ:PM}
theorem MM.push{W':World}{td td' np:Value}{past:Nat}(h:MM W0 g s E tv W L σ){us:List Value}(x:Value)(t:Stp)(hr:RdM W g s E tv td np σ.i past)(hn: ∀j,σ.n=some j->np=ptr (L.A j))
 (hu:AllC (IsC W (L.P W0.heap.size) g L.A L.B σ.N.length σ.C.length) us σ.k) (ho:W.ownsRow W0.heap.size 1 1 td us.length us.reverse) (ht: ∀j,td.ownBlock=some j->L.own j=.td)
 (hx:IsC W (L.P W0.heap.size) g L.A L.B σ.N.length σ.C.length x t) (h1:W'.ownsRow W0.heap.size 1 1 td' (us.length+1) (us.reverse++[x])) (h2:W.grownBy W' td.ownBlock) (h3:td'.ownBlock=td.ownBlock\/ ∀k,td'.ownBlock=some k->W.heap.size<=k):
 ∃L',MM W0 g s E tv (W'.setCell ⟨g,4,none⟩ td') L' (σ.plan [t])/\MX W0.heap.size W L σ.N.length σ.C.length (W'.setCell ⟨g,4,none⟩ td') L' σ.N.length σ.C.length/\L'.A=L.A/\L'.B=L.B:=by
 have hgl:=hr.lt
 have htl:=fun j (hj:td.ownBlock=some j)=>World.ownsRow.lt ho j hj
 have hown: ∀k,k<W.heap.size->(if td'.ownBlock=some k then PTg.td else L.own k)=L.own k:=fun k hk=>by
  split
  ·rename_i e
   rcases h3 with h3 | h3
   ·rw[ht k (by rw[<-h3];exact e)]
   ·have:=h3 k e;omega
  ·rfl
 have hgt: ∀j,td'.ownBlock=some j->j≠g:=fun j hj e=>by
  rcases h3 with h3 | h3
  ·have h4:=ht j (by rw[<-h3];exact hj)
   rw[e,h.og]at h4;cases h4
  ·have:=h3 j hj;omega
 have hcr:=h.carry (W':=W'.setCell ⟨g,4,none⟩ td') (L':= { L with own:=fun k=>if td'.ownBlock=some k then .td else L.own k }) (fun t=>t=.td\/t=.rd) (by simp) (by simpa using h2.size) (by simp only[zF];exact h2.os) (by simp only[zF];exact h2.tape) (by simp only[zF];exact h2.output)
  (fun k hk hd=>by
   rw[Below.heap_setCell _ _ _ _ (fun e=>hd (.inr (by have e:k=g:=e;rw[e];exact h.og)))]
   exact h2.block k hk (fun e=>hd (.inl (ht k e.symm)))) (fun k hk _=>hown k hk) (fun _ _=>rfl) (fun _ _=>rfl)
 have hrd:=(hr.grown h2 (fun e=>by
  have h4:=ht g e
  rw[h.og]at h4;cases h4) (fun k e1 e2=>by have:=h.tvb k e1;have:=(htl k e2).1;omega)).setT td'
 have hkp:=hcr.kp
 refine⟨_,⟨hcr.bel,fun k hk=>?_,?_,h.tvb,⟨td',np,past,hrd.1,⟨x::us,⟨hx.keep hcr.kp hcr.fz (fun _ _=>rfl) (fun _ _=>rfl) (zC _) (zC _),hu.mono (fun v s hv=>hv.keep hcr.kp hcr.fz (fun _ _=>rfl) (fun _ _=>rfl) (zC _) (zC _))⟩,?_,fun j hj=>if_pos hj⟩,hn⟩,fun n x hx=>hcr.nds n x hx (by simp) (by simp),fun c x hx=>hcr.chs c x hx (by simp) (by simp) (by simp),h.lfb,h.nb⟩,hcr.mx _ _ (zC _) (zC _),rfl,rfl⟩
 ·have hk:(if td'.ownBlock=some k then PTg.td else L.own k)≠ .fz:=hk
  have hsz:(W'.setCell ⟨g,4,none⟩ td').heap.size=W'.heap.size:=by simp
  rw[hsz]
  by_cases e:td'.ownBlock=some k
  ·exact World.ownsRow.lt h1 k e
  ·rw[if_neg e]at hk
   exact⟨(h.own k hk).1,zE (h.own k hk).2 h2.size⟩
 ·show(if td'.ownBlock=some g then PTg.td else L.own g)=.rd
  rw[if_neg (fun e=>hgt g e rfl)];exact h.og
 ·have e:(σ.plan [t]).k.length=us.length+1:=by
   rw[hu.len];rfl
  rw[e,List.reverse_cons]
  exact ownsRow_setCell_other h1 (a:=⟨g,4,none⟩) (fun e=>hgt g e rfl) td'
theorem PM.plan_plan(σ:PM)(a b:List Stp):(σ.plan b).plan a=σ.plan (a++b):=by simp[PM.plan]
theorem qx1{W:World}{b n:Nat}{t:TypeId}{z:Nat}{v:Value}{xs:List Value}(h:W.ownsRow b t z v n xs): ∃a c,v=.slice a n c:=by
 obtain⟨-,⟨rfl,h0⟩ | ⟨g,cap,cur,rfl,-⟩⟩:=h
 ·exact⟨_,_,by rw[h0]⟩
 ·exact⟨_,_,rfl⟩
theorem planM(h:MM W0 g s E tv W L σ)(b n:Nat)(vs:List Value)(ss:List Stp)(hn:n=ss.length)(hl:σ.k.length<=549755813888)(hn6:n<=100)(hv:StpR W (L.P W0.heap.size) g L.A L.B σ.N.length σ.C.length b vs ss):
 Calls Tryz.prog 36 #[ptr g,.slice (some ⟨b,0,none⟩) n n] W fun e W'=>e=.returned (.tuple #[])/\ ∃L',MM W0 g s E tv W' L' (σ.plan ss)/\MX W0.heap.size W L σ.N.length σ.C.length W' L' σ.N.length σ.C.length:=by
 have HL:=zh hl
 have HV:=zh hv
 have HN:=zh hn
 have H0:=zh h
 clear h hl hv hn
 unfold ptr
 go_enter Tryz.func36,Tryz.ntmps36
 go_wp2_with fail
 go_loopg [4] n (fun gn i wr=> ∃(j:Nat) (M:PLay),gn=j/\j<=n/\i=.int .i64 ((j:Int)-1)/\Hid (MM W0 g s E tv wr M (σ.plan (ss.drop j)))/\Hid (MX W0.heap.size W L σ.N.length σ.C.length wr M σ.N.length σ.C.length)/\Hid (M.A=L.A/\M.B=L.B))
 case atStart=>exact⟨n,L,rfl,zC _,rfl,zh (by rw[HN.out,List.drop_length];exact H0.out),zh (MX.refl _ _ _ _ _),zh ⟨rfl,rfl⟩⟩
 case round=>
  obtain⟨j,M,hgn,hj,rfl,HM,HX,HAB⟩:=hrel
  by_cases hlt:0<j
  ·obtain⟨q,rfl⟩: ∃q,j=q+1:=⟨j-1,by omega⟩
   have hvl:=HV.out.1.len
   obtain⟨v,hv⟩: ∃v,vs[q]?=some v:=⟨_,zB (by rw[hvl,<-HN.out];omega)⟩
   obtain⟨t,ht⟩: ∃t,ss[q]?=some t:=⟨_,zB (by rw[<-HN.out];omega)⟩
   have HDR:Hid ((σ.plan (ss.drop (q+1))).plan [t]=σ.plan (ss.drop q)):=zh (by rw[PM.plan_plan,qjn ht];rfl)
   obtain⟨td,np,past,r1,⟨us,u1,u2,u3⟩,r3⟩:=HM.out.rd
   obtain⟨R,hR⟩: ∃R,R=us.reverse:=⟨_,rfl⟩
   have hRl:R.length=us.length:=by rw[hR,List.length_reverse]
   have hK:(σ.plan (ss.drop (q+1))).k.length=R.length:=by rw[hRl,u1.len]
   rw[<-hR]at u2
   have HLEN:Hid (R.length<=1099511627776):=zh (by
    rw[<-hK]
    show((ss.drop (q+1))++σ.k).length<=_
    rw[List.length_append,List.length_drop]
    have:=HL.out;have:=HN.out;omega)
   rw[hK]at u2
   have hisc:IsC wr (M.P W0.heap.size) g M.A M.B (σ.plan (ss.drop (q+1))).N.length (σ.plan (ss.drop (q+1))).C.length v t:=HX.out.isc (HV.out.1.at q v t hv ht)
   obtain⟨fK,fF,fC,rfl⟩:=hisc.fn
   have H1C:=zh hisc.one
   have hbA:Below wr.heap.size wr (wr.alloc (.cells #[.func (.func fK) fF fC] 1)).drew:=Below.drew (qa1 wr _)
   have hkA:Keeps (M.P W0.heap.size) wr (wr.alloc (.cells #[.func (.func fK) fF fC] 1)).drew:=qay hbA
   have HOWN:=zh (qc9 u2 hbA)
   have HCC:Hid ((wr.alloc (.cells #[.func (.func fK) fF fC] 1)).drew.cell? ⟨wr.heap.size,0,none⟩=some (.func (.func fK) fF fC)):=zh (by
    rw[cell_of_row _ _ _ #[.func (.func fK) fF fC] 1 (0,0) (by show(wr.heap.push _)[wr.heap.size]?=_;rw[Array.getElem?_push,if_pos rfl])]
    rfl)
   have HBS:Hid (W0.heap.size<=(wr.alloc (.cells #[.func (.func fK) fF fC] 1)).drew.heap.size):=zh (zD HM.out.bel.size hbA.size)
   have HPUSH:Hid (∀v4 w4,w4.ownsRow W0.heap.size 1 1 v4 (R.length+1) (R++[.func (.func fK) fF fC])->(wr.alloc (.cells #[.func (.func fK) fF fC] 1)).drew.grownBy w4 td.ownBlock->(v4.ownBlock=td.ownBlock\/ ∀k,v4.ownBlock=some k->(wr.alloc (.cells #[.func (.func fK) fF fC] 1)).drew.heap.size<=k)->
    (∃L',MM W0 g s E tv (w4.setCell ⟨g,4,none⟩ v4) L' (σ.plan (ss.drop q))/\MX W0.heap.size W L σ.N.length σ.C.length (w4.setCell ⟨g,4,none⟩ v4) L' σ.N.length σ.C.length/\L'.A=L.A/\L'.B=L.B)/\RdM w4 g s E tv td np σ.i past):=zh (fun v4 w4 h1 h2 h3=>by
    have hm:=HM.out.below hbA
    have hr:=r1.below hbA
    rw[hRl,hR]at h1
    obtain⟨L',q1,q2,q3,q4⟩:=hm.push _ t hr r3 (u1.mono (fun v s hv=>hv.keep hkA (fun _ a _=>a) (fun _ _=>rfl) (fun _ _=>rfl) (zC _) (zC _))) (by have:=HOWN.out;rwa [hRl,hR]at this) u3 (hisc.keep hkA (fun _ a _=>a) (fun _ _=>rfl) (fun _ _=>rfl) (zC _) (zC _)) h1 h2 h3
    rw[HDR.out]at q1
    refine⟨⟨L',q1,HX.out.trans ((HM.out.mxb hbA).trans q2),q3.trans HAB.out.1,q4.trans HAB.out.2⟩,hr.grown h2 (fun e=>?_) (fun k e1 e2=>?_)⟩
    ·have h5:=u3 g e
     rw[HM.out.og]at h5;cases h5
    ·have h5:=HM.out.tvb k e1
     have h6:=(World.ownsRow.lt u2 k e2).1
     omega)
   obtain⟨c0,c1,c2,c3,c4,c5⟩:=r1.cells
   have f4:=r1.frz 4
   have c4':=(r1.below (qa1 wr (.cells #[.func (.func fK) fF fC] 1))).cells.2.2.2.2.1
   have cv:wr.cell? ⟨b,q,none⟩=some (.func (.func fK) fF fC):=(qdz HX.out.kp HV.out.2.1 HV.out.2.2.1).trans (HV.out.2.2.2 q _ hv)
   obtain⟨a,c,rfl⟩:=qx1 u2
   have hq0:(0:Int)<=(q:Int):=by omega
   have hqn:(q:Int)< (n:Int):=by omega
   have HQN:=zh hj
   have HGN:=zh hgn
   have e1:(((q+1:Nat):Int)-1)=(q:Int):=by omega
   rw[e1]
   clear hR hRl hvl hv ht r1 u1 u2 u3 r3 hisc hbA hkA hK hlt hj e1
   go_wp2_with fail
   go_region_law (refine qhg rfl _ _ rfl W0.heap.size _ R rfl HOWN.out _ (.func (.func fK) fF fC) rfl HCC.out H1C.out HLEN.out HBS.out ?_;intro v4 w4 h1 h2 h3;obtain⟨a4,c4',rfl⟩:=qx1 h1;have HP:=zh (HPUSH.out _ w4 h1 h2 h3).1;have hr4:=(HPUSH.out _ w4 h1 h2 h3).2;have e4:=hr4.cells.2.2.2.2.1;have ef:=hr4.frz 4;clear h1 h2 h3 hr4)
   all_goals go_wp2_with fail
   all_goals go_roundg q
   all_goals first
    | (have h9:=HGN.out;omega)
    | (obtain⟨L',q1,q2,q3⟩:=HP.out;exact⟨q,L',rfl,by have:=HQN.out;omega,rfl,zh q1,zh q2,zh q3⟩)
  ·have hj0:j=0:=by omega
   subst hj0
   clear hlt
   go_wp2_with fail
   go_end0
   exact⟨rfl,M,by have:=HM.out;rwa [List.drop_zero]at this,HX.out⟩
end
def bgS(g:Nat)(t:ByteArray):Value:=if t.toList=[40]then .func (.func 165) #[.pointer (some ⟨g,0,none⟩)] #[]else if t.toList=[123]then .func (.func 166) #[.pointer (some ⟨g,0,none⟩)] #[]else if t.toList=[91]then .func (.func 167) #[.pointer (some ⟨g,0,none⟩)] #[]else if t.toList=[60,60]then .func (.func 168) #[.pointer (some ⟨g,0,none⟩)] #[]else if t.toList=[35]then .func (.func 169) #[.pointer (some ⟨g,0,none⟩)] #[]else .nilFunc
theorem bgSM(g:Nat)(t:ByteArray)(w:World):Calls Tryz.prog 146 #[.pointer (some ⟨g,0,none⟩),.string t] w fun e w'=>e=.returned (bgS g t)/\w'=w:=by
 by_cases h0:t.toList=[40]
 ·have HV:Hid (bgS g t=.func (.func 165) #[.pointer (some ⟨g,0,none⟩)] #[]):=zh (by unfold bgS;rw[if_pos h0])
  have e0:(t.toList==[40])=true:=beq_iff_eq.2 h0
  clear h0
  go_enter Tryz.func146,Tryz.ntmps146
  go_wp2_with fail
  go_ret
  exact⟨by rw[HV.out];rfl,rfl⟩
 have e0:(t.toList==[40])=false:=beq_false_of_ne h0
 by_cases h1:t.toList=[123]
 ·have HV:Hid (bgS g t=.func (.func 166) #[.pointer (some ⟨g,0,none⟩)] #[]):=zh (by unfold bgS;rw[if_neg h0];rw[if_pos h1])
  have e1:(t.toList==[123])=true:=beq_iff_eq.2 h1
  clear h1 h0
  go_enter Tryz.func146,Tryz.ntmps146
  go_wp2_with fail
  go_ret
  exact⟨by rw[HV.out];rfl,rfl⟩
 have e1:(t.toList==[123])=false:=beq_false_of_ne h1
 by_cases h2:t.toList=[91]
 ·have HV:Hid (bgS g t=.func (.func 167) #[.pointer (some ⟨g,0,none⟩)] #[]):=zh (by unfold bgS;rw[if_neg h0];rw[if_neg h1];rw[if_pos h2])
  have e2:(t.toList==[91])=true:=beq_iff_eq.2 h2
  clear h2 h0 h1
  go_enter Tryz.func146,Tryz.ntmps146
  go_wp2_with fail
  go_ret
  exact⟨by rw[HV.out];rfl,rfl⟩
 have e2:(t.toList==[91])=false:=beq_false_of_ne h2
 by_cases h3:t.toList=[60,60]
 ·have HV:Hid (bgS g t=.func (.func 168) #[.pointer (some ⟨g,0,none⟩)] #[]):=zh (by unfold bgS;rw[if_neg h0];rw[if_neg h1];rw[if_neg h2];rw[if_pos h3])
  have e3:(t.toList==[60,60])=true:=beq_iff_eq.2 h3
  clear h3 h0 h1 h2
  go_enter Tryz.func146,Tryz.ntmps146
  go_wp2_with fail
  go_ret
  exact⟨by rw[HV.out];rfl,rfl⟩
 have e3:(t.toList==[60,60])=false:=beq_false_of_ne h3
 by_cases h4:t.toList=[35]
 ·have HV:Hid (bgS g t=.func (.func 169) #[.pointer (some ⟨g,0,none⟩)] #[]):=zh (by unfold bgS;rw[if_neg h0];rw[if_neg h1];rw[if_neg h2];rw[if_neg h3];rw[if_pos h4])
  have e4:(t.toList==[35])=true:=beq_iff_eq.2 h4
  clear h4 h0 h1 h2 h3
  go_enter Tryz.func146,Tryz.ntmps146
  go_wp2_with fail
  go_ret
  exact⟨by rw[HV.out];rfl,rfl⟩
 have e4:(t.toList==[35])=false:=beq_false_of_ne h4
 have HV:Hid (bgS g t=.nilFunc):=zh (by unfold bgS;rw[if_neg h0];rw[if_neg h1];rw[if_neg h2];rw[if_neg h3];rw[if_neg h4])
 clear h0 h1 h2 h3 h4
 go_enter Tryz.func146,Tryz.ntmps146
 go_wp2_with fail
 go_ret
 exact⟨by rw[HV.out];rfl,rfl⟩
def bgW(g:Nat)(t:ByteArray):Value:=if t.toList=[102,117,110]then .func (.func 170) #[.pointer (some ⟨g,0,none⟩)] #[]else if t.toList=[99,97,115,101]then .func (.func 171) #[.pointer (some ⟨g,0,none⟩)] #[]else if t.toList=[105,102]then .func (.func 172) #[.pointer (some ⟨g,0,none⟩)] #[]else if t.toList=[114,101,99,101,105,118,101]then .func (.func 173) #[.pointer (some ⟨g,0,none⟩)] #[]else if t.toList=[98,101,103,105,110]then .func (.func 174) #[.pointer (some ⟨g,0,none⟩)] #[]else .nilFunc
theorem bgWM(g:Nat)(t:ByteArray)(w:World):Calls Tryz.prog 147 #[.pointer (some ⟨g,0,none⟩),.string t] w fun e w'=>e=.returned (bgW g t)/\w'=w:=by
 by_cases h0:t.toList=[102,117,110]
 ·have HV:Hid (bgW g t=.func (.func 170) #[.pointer (some ⟨g,0,none⟩)] #[]):=zh (by unfold bgW;rw[if_pos h0])
  have e0:(t.toList==[102,117,110])=true:=beq_iff_eq.2 h0
  clear h0
  go_enter Tryz.func147,Tryz.ntmps147
  go_wp2_with fail
  go_ret
  exact⟨by rw[HV.out];rfl,rfl⟩
 have e0:(t.toList==[102,117,110])=false:=beq_false_of_ne h0
 by_cases h1:t.toList=[99,97,115,101]
 ·have HV:Hid (bgW g t=.func (.func 171) #[.pointer (some ⟨g,0,none⟩)] #[]):=zh (by unfold bgW;rw[if_neg h0];rw[if_pos h1])
  have e1:(t.toList==[99,97,115,101])=true:=beq_iff_eq.2 h1
  clear h1 h0
  go_enter Tryz.func147,Tryz.ntmps147
  go_wp2_with fail
  go_ret
  exact⟨by rw[HV.out];rfl,rfl⟩
 have e1:(t.toList==[99,97,115,101])=false:=beq_false_of_ne h1
 by_cases h2:t.toList=[105,102]
 ·have HV:Hid (bgW g t=.func (.func 172) #[.pointer (some ⟨g,0,none⟩)] #[]):=zh (by unfold bgW;rw[if_neg h0];rw[if_neg h1];rw[if_pos h2])
  have e2:(t.toList==[105,102])=true:=beq_iff_eq.2 h2
  clear h2 h0 h1
  go_enter Tryz.func147,Tryz.ntmps147
  go_wp2_with fail
  go_ret
  exact⟨by rw[HV.out];rfl,rfl⟩
 have e2:(t.toList==[105,102])=false:=beq_false_of_ne h2
 by_cases h3:t.toList=[114,101,99,101,105,118,101]
 ·have HV:Hid (bgW g t=.func (.func 173) #[.pointer (some ⟨g,0,none⟩)] #[]):=zh (by unfold bgW;rw[if_neg h0];rw[if_neg h1];rw[if_neg h2];rw[if_pos h3])
  have e3:(t.toList==[114,101,99,101,105,118,101])=true:=beq_iff_eq.2 h3
  clear h3 h0 h1 h2
  go_enter Tryz.func147,Tryz.ntmps147
  go_wp2_with fail
  go_ret
  exact⟨by rw[HV.out];rfl,rfl⟩
 have e3:(t.toList==[114,101,99,101,105,118,101])=false:=beq_false_of_ne h3
 by_cases h4:t.toList=[98,101,103,105,110]
 ·have HV:Hid (bgW g t=.func (.func 174) #[.pointer (some ⟨g,0,none⟩)] #[]):=zh (by unfold bgW;rw[if_neg h0];rw[if_neg h1];rw[if_neg h2];rw[if_neg h3];rw[if_pos h4])
  have e4:(t.toList==[98,101,103,105,110])=true:=beq_iff_eq.2 h4
  clear h4 h0 h1 h2 h3
  go_enter Tryz.func147,Tryz.ntmps147
  go_wp2_with fail
  go_ret
  exact⟨by rw[HV.out];rfl,rfl⟩
 have e4:(t.toList==[98,101,103,105,110])=false:=beq_false_of_ne h4
 have HV:Hid (bgW g t=.nilFunc):=zh (by unfold bgW;rw[if_neg h0];rw[if_neg h1];rw[if_neg h2];rw[if_neg h3];rw[if_neg h4])
 clear h0 h1 h2 h3 h4
 go_enter Tryz.func147,Tryz.ntmps147
 go_wp2_with fail
 go_ret
 exact⟨by rw[HV.out];rfl,rfl⟩
def bgV(E:Env)(g i:Nat):Value:=if(nxE E i).1=9 then bgS g (nxE E i).2.1 else if(nxE E i).1=8 then bgW g (nxE E i).2.1 else .func (.func 148) #[.pointer (some ⟨g,0,none⟩)] #[]
theorem qwa{W0 W:World}{g:Nat}{s:ByteArray}{E:Env}{tv:Value}{L:PLay}{σ:PM}(h:MM W0 g s E tv W L σ):
 Calls Tryz.prog 122 #[.pointer (some ⟨g,0,none⟩)] W fun e W'=>e=.returned (bgV E g σ.i)/\MM W0 g s E tv W' L σ/\MX W0.heap.size W L σ.N.length σ.C.length W' L σ.N.length σ.C.length:=by
 have ha:=nextM h
 try unfold ptr at ha
 have HA:=zh ha
 clear ha
 obtain⟨K,hK⟩: ∃K,K=(nxE E σ.i).1:=⟨_,rfl⟩
 obtain⟨X,hX⟩: ∃X,X=(nxE E σ.i).2.1:=⟨_,rfl⟩
 obtain⟨A,hA⟩: ∃A,A=(nxE E σ.i).2.2:=⟨_,rfl⟩
 have HO:Hid (bgV E g σ.i=if K=9 then bgS g X else if K=8 then bgW g X else .func (.func 148) #[.pointer (some ⟨g,0,none⟩)] #[]):=zh (by rw[hK,hX];rfl)
 rw[<-hK,<-hX,<-hA]at HA
 clear h hK hX hA
 by_cases k9:K=9
 ·have HO:Hid (bgV E g σ.i=bgS g X):=zh (by rw[HO.out,if_pos k9])
  have kc:(K==9)=true:=by rw[k9];rfl
  clear k9
  go_enter Tryz.func122,Tryz.ntmps122
  go_wp2_with fail
  refine HA.out.mono ?_
  rintro e w2 ⟨rfl,h2,hg2⟩
  have HR:=zh h2
  have HG:=zh hg2
  clear h2 hg2
  go_wp2_with fail
  refine(bgSM g X _).mono ?_
  rintro e w3 ⟨rfl,rfl⟩
  go_wp2_with fail
  go_ret
  exact⟨by rw[HO.out];rfl,HR.out.below (qa1 _ _),HG.out.trans (HR.out.mxb (qa1 _ _))⟩
 ·by_cases k8:K=8
  ·have HO:Hid (bgV E g σ.i=bgW g X):=zh (by rw[HO.out,if_neg k9,if_pos k8])
   have kc:(K==9)=false:=beq_false_of_ne k9
   have kc2:(K==8)=true:=by rw[k8];rfl
   clear k9 k8
   go_enter Tryz.func122,Tryz.ntmps122
   go_wp2_with fail
   refine HA.out.mono ?_
   rintro e w2 ⟨rfl,h2,hg2⟩
   have HR:=zh h2
   have HG:=zh hg2
   clear h2 hg2
   go_wp2_with fail
   refine(bgWM g X _).mono ?_
   rintro e w3 ⟨rfl,rfl⟩
   go_wp2_with fail
   go_ret
   exact⟨by rw[HO.out];rfl,HR.out.below (qa1 _ _),HG.out.trans (HR.out.mxb (qa1 _ _))⟩
  ·have HO:Hid (bgV E g σ.i=.func (.func 148) #[.pointer (some ⟨g,0,none⟩)] #[]):=zh (by rw[HO.out,if_neg k9,if_neg k8])
   have kc:(K==9)=false:=beq_false_of_ne k9
   have kc2:(K==8)=false:=beq_false_of_ne k8
   clear k9 k8
   go_enter Tryz.func122,Tryz.ntmps122
   go_wp2_with fail
   refine HA.out.mono ?_
   rintro e w2 ⟨rfl,h2,hg2⟩
   have HR:=zh h2
   have HG:=zh hg2
   clear h2 hg2
   go_wp2_with fail
   go_ret
   exact⟨by rw[HO.out];rfl,HR.out.below (qa1 _ _),HG.out.trans (HR.out.mxb (qa1 _ _))⟩
def qjj(k:Int)(t:ByteArray):Bool:=qtb (nkt k t [])
theorem bare_t{k:Int}(t:ByteArray)(h:k=2\/k=3\/k=8\/k=9\/k=10\/k=11\/k=12):qjj k t=true:=by
 rcases h with rfl | rfl | rfl | rfl | rfl | rfl | rfl<;>rfl
theorem bare_f{k:Int}(t:ByteArray)(h: ¬(k=2\/k=3\/k=8\/k=9\/k=10\/k=11\/k=12))(h1:k≠1):qjj k t=false:=by
 have e1:(k==1)=false:=beq_false_of_ne h1
 simp only[not_or]at h
 simp[qjj,qtb,nkt,Nd.kd,h1,h]
theorem bare_1(t:ByteArray)(h:0<t.size):qjj 1 t=(decide (beg (bt t 0)≠3)&&decide (bt t 0≠36)&&decide (bt t 0≠34)):=by
 obtain⟨⟨l⟩⟩:=t
 cases l with
 | nil=>exact absurd h (by decide)
 | cons c r=>
  show(match(ByteArray.mk ⟨c::r⟩).toList with | []=>false | c::_=>!(decide (48<=c.toNat)&&decide (c.toNat<=57))&&c !=36&&c !=34)=_
  rw[ByteArray.toList_eq]
  have hb:bt (ByteArray.mk ⟨c::r⟩) 0=(c.toNat:Int):=rfl
  rw[hb]
  show((!(decide (48<=c.toNat)&&decide (c.toNat<=57))&&c !=36)&&c !=34)=_
  have e36:(c !=36)=decide ((c.toNat:Int)≠36):=by
   by_cases h:c=36
   ·subst h;rfl
   ·have h2:c.toNat≠36:=fun e=>h (UInt8.toNat_inj.1 e)
    have h3:(c !=36)=true:=by simp[h]
    rw[h3]
    symm
    rw[decide_eq_true_eq]
    omega
  have e34:(c !=34)=decide ((c.toNat:Int)≠34):=by
   by_cases h:c=34
   ·subst h;rfl
   ·have h2:c.toNat≠34:=fun e=>h (UInt8.toNat_inj.1 e)
    have h3:(c !=34)=true:=by simp[h]
    rw[h3]
    symm
    rw[decide_eq_true_eq]
    omega
  have e3:(!(decide (48<=c.toNat)&&decide (c.toNat<=57)))=decide (beg (c.toNat:Int)≠3):=by
   have hi:beg (c.toNat:Int)=3↔48<=c.toNat/\c.toNat<=57:=by
    unfold beg
    constructor
    ·intro h
     split at h
     ·exact absurd h (by decide)
     ·split at h
      ·exact absurd h (by decide)
      ·split at h
       ·omega
       ·exact absurd h (by decide)
    ·intro h
     rw[if_neg (by omega),if_neg (by omega),if_pos (by omega)]
   rw[Bool.eq_iff_iff]
   simp only[Bool.not_eq_true',Bool.and_eq_false_iff,decide_eq_false_iff_not,decide_eq_true_eq,ne_eq,hi]
   omega
  rw[e36,e34,e3]
theorem bare_0:qjj 1 ⟨#[]⟩=false:=by
 show(match(⟨#[]⟩:ByteArray).toList with | []=>false | c::_=>!(decide (48<=c.toNat)&&decide (c.toNat<=57))&&c !=36&&c !=34)=false
 rw[ByteArray.toList_eq]
theorem bareM{W:World}{B:Nat}{k:Int}{t:ByteArray}{lv nv tv:Value}{br bl:Bool}(h:NdB W B k t lv br bl nv tv):
 Calls Tryz.prog 149 #[.pointer (some ⟨B,0,none⟩)] W fun e w'=>e=.returned (.bool (qjj k t))/\ ∃n,w'=W.drewN n:=by
 obtain⟨m0,m1,-,-,-,-,-⟩:=h.cells
 clear h
 by_cases h0:k=2\/k=3\/k=8\/k=9\/k=10\/k=11\/k=12
 ·have HB:=zh (bare_t t h0)
  rcases h0 with rfl | rfl | rfl | rfl | rfl | rfl | rfl
  all_goals go_enter Tryz.func149,Tryz.ntmps149
  all_goals go_wp2_with fail
  all_goals go_ret
  all_goals exact⟨by rw[HB.out];rfl,0,rfl⟩
 ·have h9:=h0
  simp only[not_or]at h9
  obtain⟨n2,n3,n8,n9,n10,n11,n12⟩:=h9
  have e2:(k==2)=false:=beq_false_of_ne n2
  have e3:(k==3)=false:=beq_false_of_ne n3
  have e8:(k==8)=false:=beq_false_of_ne n8
  have e9:(k==9)=false:=beq_false_of_ne n9
  have e10:(k==10)=false:=beq_false_of_ne n10
  have e11:(k==11)=false:=beq_false_of_ne n11
  have e12:(k==12)=false:=beq_false_of_ne n12
  by_cases h1:k=1
  ·subst h1
   clear n2 n3 n8 n9 n10 n11 n12 h0
   by_cases hz:t.size=0
   ·obtain rfl:=qtx hz
    clear hz
    go_enter Tryz.func149,Tryz.ntmps149
    go_wp2_with fail
    go_ret
    exact⟨by rw[bare_0];rfl,0,rfl⟩
   ·have g0:=quu hz
    have hp:0<t.size:=by omega
    have HB:=zh (bare_1 t hp)
    have gb:=get_bt t
    have HBE:=zh (fun W=>qnc (bt t 0) W)
    clear hz
    by_cases c36:bt t 0=36
    ·have b36:(bt t 0==36)=true:=beq_iff_eq.2 c36
     have b36':(bt t 0 !=36)=false:=by rw[bne,b36];rfl
     have HC:=zh c36
     clear c36
     go_enter Tryz.func149,Tryz.ntmps149
     go_wp2_with fail
     go_ret
     exact⟨by rw[HB.out,HC.out];rfl,0,rfl⟩
    ·have b36:(bt t 0==36)=false:=beq_false_of_ne c36
     have b36':(bt t 0 !=36)=true:=by rw[bne,b36];rfl
     have d36:decide (bt t 0≠36)=true:=decide_eq_true c36
     rw[d36]at HB
     clear c36 d36
     by_cases c34:bt t 0=34
     ·have b34:(bt t 0==34)=true:=beq_iff_eq.2 c34
      have b34':(bt t 0 !=34)=false:=by rw[bne,b34];rfl
      have HC:=zh c34
      clear c34
      go_enter Tryz.func149,Tryz.ntmps149
      go_wp2_with fail
      go_ret
      exact⟨by rw[HB.out,HC.out];rfl,0,rfl⟩
     ·have b34:(bt t 0==34)=false:=beq_false_of_ne c34
      have b34':(bt t 0 !=34)=true:=by rw[bne,b34];rfl
      have d34:decide (bt t 0≠34)=true:=decide_eq_true c34
      rw[d34]at HB
      clear c34 d34
      obtain⟨c,hc⟩: ∃c,c=beg (bt t 0):=⟨_,rfl⟩
      rw[<-hc]at HB HBE
      clear hc
      by_cases c3:c=3
      ·subst c3
       go_enter Tryz.func149,Tryz.ntmps149
       go_wp2_with fail
       refine(HBE.out _).mono ?_
       rintro e w' ⟨rfl,rfl⟩
       go_wp2_with fail
       go_ret
       exact⟨by rw[HB.out];rfl,0,rfl⟩
      ·have f3:(c==3)=false:=beq_false_of_ne c3
       have f3':(c !=3)=true:=by rw[bne,f3];rfl
       have d3:decide (c≠3)=true:=decide_eq_true c3
       rw[d3]at HB
       clear c3 d3
       go_enter Tryz.func149,Tryz.ntmps149
       go_wp2_with fail
       refine(HBE.out _).mono ?_
       rintro e w' ⟨rfl,rfl⟩
       go_wp2_with fail
       go_ret
       exact⟨by rw[HB.out];rfl,0,rfl⟩
  ·have HB:=zh (bare_f t h0 h1)
   have e1:(k==1)=false:=beq_false_of_ne h1
   clear n2 n3 n8 n9 n10 n11 n12 h0 h1
   go_enter Tryz.func149,Tryz.ntmps149
   go_wp2_with fail
   go_ret
   exact⟨by rw[HB.out];rfl,0,rfl⟩
end Go.Proofs.YtdhadeeajgoedaaGreat
