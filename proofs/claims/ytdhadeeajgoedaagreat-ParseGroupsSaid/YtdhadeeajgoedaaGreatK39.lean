/-
  What the claims stand on: PmStepA, PmStepB.
-/
import Derived.Test.YtdhadeeajgoedaaGreatK38
set_option maxRecDepth 100000
set_option maxHeartbeats 4000000
set_option linter.unusedVariables false
set_option linter.unusedSimpArgs false
open Nat renaming le_trans→zA,lt_of_lt_of_le→zB
namespace Go.Proofs.YtdhadeeajgoedaaGreat
open Go.RowKit Go.PlainAid
def SO(r:Rs PM)(W0:World)(g:Nat)(s:ByteArray)(E:Env)(tv:Value)(W:World)(L:PLay)(nN nC:Nat)(e:Ending)(W':World):Prop:=
 match r with
 | .ok τ=>e=.returned (.tuple #[])/\ ∃L',MM W0 g s E tv W' L' τ/\MX W0.heap.size W L nN nC W' L' τ.N.length τ.C.length
 | .error .die=>Died e/\Below W0.heap.size W0 W'
 | .error .stuck=>True
section
variable{W0 W:World}{g:Nat}{s:ByteArray}{E:Env}{tv:Value}{L:PLay}{σ:PM}
theorem qaw{α:Type}{r:Rs α}{e:Bad}(h:r=.error .die/\r=.error e):e=.die:=by
 rw[h.1]at h
 exact(Except.error.inj h.2).symm
theorem qaf{i:Nat}{e:Bad}(h:tkE E i=.error e):tkE E i=.error .die/\tkE E i=.error e:=by
 unfold tkE at*
 split at h
 ·cases h
 ·rw[if_neg (by assumption)];exact⟨rfl,h⟩
theorem qae{k:Int}{t:Bs}{i:Nat}{e:Bad}(h:sgE E k t i=.error e):sgE E k t i=.error .die/\sgE E k t i=.error e:=by
 refine⟨?_,h⟩
 unfold sgE at*
 split at h
 ·rw[if_pos (by assumption)]
  cases ht:tkE E i with
  | ok j=>rw[ht]at h;cases h
  | error b=>
   have e1:=(qaf ht).1
   rw[ht]at e1
   rw[e1];rfl
 ·cases h
theorem qag{f:Int->Bool}{i:Nat}{e:Bad}(h:txE E f i=.error e):txE E f i=.error .die/\txE E f i=.error e:=by
 refine⟨?_,h⟩
 unfold txE at*
 split at h
 ·rw[if_pos (by assumption)]
  cases ht:tkE E i with
  | ok j=>rw[ht]at h;cases h
  | error b=>
   have e1:=(qaf ht).1
   rw[ht]at e1
   rw[e1];rfl
 ·rw[if_neg (by assumption)]
theorem MX.cell{b:Nat}{W W':World}{L L':PLay}{nN nC nN' nC':Nat}(h:MX b W L nN nC W' L' nN' nC'){k:Nat}{u:Value}(hb:BoxC W (L.P b) (.pointer (some ⟨k,0,none⟩)) u):W'.cell? ⟨k,0,none⟩=some u:=by
 obtain⟨k',e,-,-,c⟩:=h.box hb
 simp only[Value.pointer.injEq,Option.some.injEq,Addr.mk.injEq,and_true]at e
 subst e
 exact c
theorem BoxC.cellv{W:World}{P:Nat->Prop}{k:Nat}{u:Value}(h:BoxC W P (.pointer (some ⟨k,0,none⟩)) u):W.cell? ⟨k,0,none⟩=some u:=by
 obtain⟨k',e,-,-,c⟩:=h
 simp only[Value.pointer.injEq,Option.some.injEq,Addr.mk.injEq,and_true]at e
 subst e
 exact c
theorem MM.boxT(h:MM W0 g s E tv W L σ)(k:Nat)(hk:k=W.heap.size)(u:Value)(T:TypeId):BoxC (W.alloc (.cells #[u] T)) (L.P W0.heap.size) (ptr k) u:=by
 subst hk
 exact h.boxN (Nat.le_refl _) (qbe _ _)
theorem MM.strsN(h:MM W0 g s E tv W L σ)(T:List ByteArray):StIn (W.alloc (.cells (T.map Value.string).toArray 9)) (L.P W0.heap.size) (.slice (some ⟨W.heap.size,0,none⟩) T.length T.length) T:=by
 refine⟨_,_,rfl,fun _=>⟨W.heap.size,0,rfl,h.free (Nat.le_refl _),by simp,fun i x hx=>?_⟩⟩
 rw[cell_of_row _ _ _ _ _ _ (qbe _ _),Nat.zero_add]
 simp[hx]
theorem qdj{k:Int}{t:Bs}{i j:Nat}(h:sgE E k t i=.ok (false,j)):j=i:=by
 unfold sgE at h
 split at h
 ·cases ht:tkE E i with
  | ok q=>rw[ht]at h;cases h
  | error b=>rw[ht]at h;cases h
 ·cases h;rfl
theorem qw1(h:MM W0 g s E tv W L σ)(f:Int->Bool)(ks:List Int)(hf: ∀k,ks.contains k=f k)(h0:f 0=false)(b n:Nat)(hn:n=ks.length)(hN:NumR W b ks)(hb:b<W.heap.size)(hbg:b≠g):
 Calls Tryz.prog 175 #[ptr g,.slice (some ⟨b,0,none⟩) n n] W (MO (txE E f σ.i) W0 g s E tv W L σ (fun x=>.string x.1) (·.2)):=h.mo (fun _ _ _ hr=>qgf f ks hf h0 b n hn hN hb hbg hr)
theorem MM.glt(h:MM W0 g s E tv W L σ):g<W.heap.size:=by
 obtain⟨td,np,past,r1,r2,r3⟩:=h.rd
 exact r1.lt
theorem qcn{b:Bad}(h:σ.cur=.error b):b=.stuck:=by
 unfold PM.cur at h
 split at h
 ·rename_i i hi
  unfold PM.nd at h
  split at h
  ·cases h
  ·cases h;rfl
 ·cases h;rfl
theorem qdv{n:Nat}{b:Bad}(h:σ.nd n=.error b):b=.stuck:=by
 unfold PM.nd at h
 split at h
 ·cases h
 ·cases h;rfl
theorem MM.ncells(h:MM W0 g s E tv W L σ){n:Nat}{x:Nd}(hx:σ.N[n]?=some (some x)): ∃k t lv br bl nv tv,NdB W (L.A n) k t lv br bl nv tv:=by
 cases x with
 | mk k t l br bl no ta=>
  obtain⟨-,lv,nv,tv',a2,-⟩:=h.node hx
  exact⟨_,_,_,_,_,_,_,a2⟩
theorem qsl(h:MM W0 g s E tv W L σ)(vs:List Value)(ss:List Stp)(hc:AllC (IsC W (L.P W0.heap.size) g L.A L.B σ.N.length σ.C.length) vs ss)(T:TypeId):StpR (W.alloc (.cells vs.toArray T)) (L.P W0.heap.size) g L.A L.B σ.N.length σ.C.length W.heap.size vs ss:=by
 have hb:=qa1 W (.cells vs.toArray T)
 refine⟨hc.mono (fun v s hv=>h.isb hb hv),h.free (Nat.le_refl _),by simp,fun j u hj=>?_⟩
 rw[cell_of_row _ _ _ vs.toArray T (0,0) (by show(W.heap.push _)[W.heap.size]?=_;rw[Array.getElem?_push,if_pos rfl])]
 simpa using hj
theorem qbd(h:MM W0 g s E tv W L σ)(q:Nat)(hq:q=W.heap.size)(vs:List Value)(ss:List Stp)(n:Nat)(hn:n=ss.length)(hl:σ.k.length<=549755813888)(hn6:n<=100)(T:TypeId)(hc:AllC (IsC W (L.P W0.heap.size) g L.A L.B σ.N.length σ.C.length) vs ss):
 Calls Tryz.prog 36 #[.pointer (some ⟨g,0,none⟩),.slice (some ⟨q,0,none⟩) n n] (W.alloc (.cells vs.toArray T)) fun e W'=>e=.returned (.tuple #[])/\ ∃L',MM W0 g s E tv W' L' (σ.plan ss)/\MX W0.heap.size W L σ.N.length σ.C.length W' L' σ.N.length σ.C.length:=by
 subst hq
 have hb:=qa1 W (.cells vs.toArray T)
 refine(planM (h.below hb) W.heap.size n vs ss hn hl hn6 (qsl h vs ss hc T)).mono ?_
 rintro e W' ⟨rfl,L',h1,h2⟩
 exact⟨rfl,L',h1,(h.mxb hb).trans h2⟩
theorem qhe(h:MM W0 g s E tv W L σ)(t:Bs)(k1:Nat)(b1:BoxC W (L.P W0.heap.size) (.pointer (some ⟨k1,0,none⟩)) (ptr g))(k2:Nat)(b2:BoxC W (L.P W0.heap.size) (.pointer (some ⟨k2,0,none⟩)) (.string ⟨t.toArray⟩)):
 Calls Tryz.prog 208 #[.pointer (some ⟨k1,0,none⟩),.pointer (some ⟨k2,0,none⟩)] W (SO (stp E (.want 9 t) σ) W0 g s E tv W L σ.N.length σ.C.length):=by
 obtain⟨R,hR⟩: ∃R:Rs PM,R=stp E (.want 9 t) σ:=⟨_,rfl⟩
 rw[<-hR]
 have HR:=zh hR
 have H0:=zh h
 have X0:=zh (MX.refl W0.heap.size W L σ.N.length σ.C.length)
 have B_r:=zh b1
 have cr0:=b1.cellv
 unfold ptr at cr0
 have B_t:=zh b2
 have ct0:=b2.cellv
 clear h hR b1 b2
 try unfold ptr
 go_enter Tryz.func208,Tryz.ntmps208
 go_wp2_with fail
 have q1:=qd1 H0.out t
 try unfold ptr at q1
 refine q1.mono ?_
 clear q1
 intro e w1 h1
 rcases hr1:sgE E 9 t σ.i with x9 | ⟨b,j⟩
 ·obtain rfl:=qaw (by first | exact qae hr1 | exact qag hr1 | exact qaf hr1)
  rw[hr1]at h1
  obtain⟨⟨u,pv,rfl⟩,hb⟩:=h1
  have HB9:=zh hb
  have HR1:=zh hr1
  have e9:R=.error .die:=by
   have hr1:=HR1.out;rw[HR.out];try simp[stp,msE,hr1,bind,Except.bind,pure,Except.pure,Except.map]
  subst e9
  clear hb hr1
  go_wp2_with fail
  exact⟨rfl,⟨_,_,rfl⟩,HB9.out⟩
 ·rw[hr1]at h1
  have HR1:=zh hr1
  obtain⟨rfl,hm,hx⟩:=h1
  have H1:=zh hm
  have Y1:=zh hx
  have X1:=zh (X0.out.trans Y1.out)
  have B_r_1:=zh (Y1.out.box B_r.out)
  have cr1:=B_r_1.out.cellv
  unfold ptr at cr1
  have B_t_1:=zh (Y1.out.box B_t.out)
  have ct1:=B_t_1.out.cellv
  clear hm hx hr1
  cases b
  ·have e9:R=.error .die:=by
    have hr1:=HR1.out;rw[HR.out];try simp[stp,msE,hr1,bind,Except.bind,pure,Except.pure,Except.map]
   subst e9
   go_wp2_with fail
   refine(qaq _).mono ?_
   rintro e w9 ⟨⟨u,pv,rfl⟩,rfl⟩
   go_wp2_with fail
   exact⟨rfl,⟨_,_,rfl⟩,H1.out.bel⟩
  ·go_wp2_with fail
   refine(qap _).mono ?_
   rintro e w9 ⟨rfl,rfl⟩
   have e9:R=.ok (σ.at_ j):=by
    have hr1:=HR1.out;rw[HR.out];try simp[stp,msE,hr1,bind,Except.bind,pure,Except.pure,Except.map]
   subst e9
   go_wp2_with fail
   go_end0
   exact⟨rfl,L,H1.out,X1.out⟩
theorem qhf(h:MM W0 g s E tv W L σ)(t:Bs)(k1:Nat)(b1:BoxC W (L.P W0.heap.size) (.pointer (some ⟨k1,0,none⟩)) (ptr g))(k2:Nat)(b2:BoxC W (L.P W0.heap.size) (.pointer (some ⟨k2,0,none⟩)) (.string ⟨t.toArray⟩)):
 Calls Tryz.prog 212 #[.pointer (some ⟨k1,0,none⟩),.pointer (some ⟨k2,0,none⟩)] W (SO (stp E (.want 8 t) σ) W0 g s E tv W L σ.N.length σ.C.length):=by
 obtain⟨R,hR⟩: ∃R:Rs PM,R=stp E (.want 8 t) σ:=⟨_,rfl⟩
 rw[<-hR]
 have HR:=zh hR
 have H0:=zh h
 have X0:=zh (MX.refl W0.heap.size W L σ.N.length σ.C.length)
 have B_r:=zh b1
 have cr0:=b1.cellv
 unfold ptr at cr0
 have B_t:=zh b2
 have ct0:=b2.cellv
 clear h hR b1 b2
 try unfold ptr
 go_enter Tryz.func212,Tryz.ntmps212
 go_wp2_with fail
 have q1:=qi6 H0.out t
 try unfold ptr at q1
 refine q1.mono ?_
 clear q1
 intro e w1 h1
 rcases hr1:sgE E 8 t σ.i with x9 | ⟨b,j⟩
 ·obtain rfl:=qaw (by first | exact qae hr1 | exact qag hr1 | exact qaf hr1)
  rw[hr1]at h1
  obtain⟨⟨u,pv,rfl⟩,hb⟩:=h1
  have HB9:=zh hb
  have HR1:=zh hr1
  have e9:R=.error .die:=by
   have hr1:=HR1.out;rw[HR.out];try simp[stp,msE,hr1,bind,Except.bind,pure,Except.pure,Except.map]
  subst e9
  clear hb hr1
  go_wp2_with fail
  exact⟨rfl,⟨_,_,rfl⟩,HB9.out⟩
 ·rw[hr1]at h1
  have HR1:=zh hr1
  obtain⟨rfl,hm,hx⟩:=h1
  have H1:=zh hm
  have Y1:=zh hx
  have X1:=zh (X0.out.trans Y1.out)
  have B_r_1:=zh (Y1.out.box B_r.out)
  have cr1:=B_r_1.out.cellv
  unfold ptr at cr1
  have B_t_1:=zh (Y1.out.box B_t.out)
  have ct1:=B_t_1.out.cellv
  clear hm hx hr1
  cases b
  ·have e9:R=.error .die:=by
    have hr1:=HR1.out;rw[HR.out];try simp[stp,msE,hr1,bind,Except.bind,pure,Except.pure,Except.map]
   subst e9
   go_wp2_with fail
   refine(qaq _).mono ?_
   rintro e w9 ⟨⟨u,pv,rfl⟩,rfl⟩
   go_wp2_with fail
   exact⟨rfl,⟨_,_,rfl⟩,H1.out.bel⟩
  ·go_wp2_with fail
   refine(qap _).mono ?_
   rintro e w9 ⟨rfl,rfl⟩
   have e9:R=.ok (σ.at_ j):=by
    have hr1:=HR1.out;rw[HR.out];try simp[stp,msE,hr1,bind,Except.bind,pure,Except.pure,Except.map]
   subst e9
   go_wp2_with fail
   go_end0
   exact⟨rfl,L,H1.out,X1.out⟩
theorem qq6(h:MM W0 g s E tv W L σ)(hk:σ.k.length<=274877906944):
 Calls Tryz.prog 192 #[.pointer (some ⟨g,0,none⟩)] W (SO (stp E .segm σ) W0 g s E tv W L σ.N.length σ.C.length):=by
 obtain⟨R,hR⟩: ∃R:Rs PM,R=stp E .segm σ:=⟨_,rfl⟩
 rw[<-hR]
 have HR:=zh hR
 have H0:=zh h
 have X0:=zh (MX.refl W0.heap.size W L σ.N.length σ.C.length)
 have HK:=zh hk
 clear h hR hk
 try unfold ptr
 go_enter Tryz.func192,Tryz.ntmps192
 have V1:=zh ((IsC.val:IsC W (L.P W0.heap.size) g L.A L.B σ.N.length σ.C.length _ .val))
 have V2:=zh ((IsC.sized:IsC W (L.P W0.heap.size) g L.A L.B σ.N.length σ.C.length _ .sized))
 go_wp2_with fail
 refine(qbd H0.out _ (by simp) [_,_] [.val,.sized] 2 rfl (zA HK.out (by decide)) (by decide) _ ⟨V1.out,⟨V2.out,trivial⟩⟩).mono ?_
 rintro e w3 ⟨rfl,M3,hm,hx⟩
 have H3:=zh hm
 have Y3:=zh hx
 have X3:=zh (X0.out.trans Y3.out)
 have v1_3:=zh (Y3.out.isc V1.out)
 have v2_3:=zh (Y3.out.isc V2.out)
 clear hm hx
 have e9:R=.ok (σ.plan [.val,.sized]):=by
  rw[HR.out];try simp[stp,bind,Except.bind,pure,Except.pure,Except.map]
 subst e9
 go_wp2_with fail
 go_end0
 exact⟨rfl,M3,H3.out,X3.out⟩
theorem qpl(h:MM W0 g s E tv W L σ)(hk:σ.k.length<=274877906944):
 Calls Tryz.prog 143 #[.pointer (some ⟨g,0,none⟩)] W (SO (stp E .cond σ) W0 g s E tv W L σ.N.length σ.C.length):=by
 obtain⟨R,hR⟩: ∃R:Rs PM,R=stp E .cond σ:=⟨_,rfl⟩
 rw[<-hR]
 have HR:=zh hR
 have H0:=zh h
 have X0:=zh (MX.refl W0.heap.size W L σ.N.length σ.C.length)
 have HK:=zh hk
 clear h hR hk
 try unfold ptr
 go_enter Tryz.func143,Tryz.ntmps143
 obtain⟨M1,hm,hx,ha,hl⟩:=H0.out.new0E 25 ⟨#[]⟩
 have An:=zh (show M1.A σ.N.length=_ from ha)
 have Nbn:=zh (show σ.N.length<_ from hl)
 have H1:=zh hm
 have Y1:=zh hx
 have X1:=zh (X0.out.trans Y1.out)
 clear hm hx ha hl
 go_wp2_with fail
 have q2:=qdd H1.out 1
 try unfold ptr at q2
 refine q2.mono ?_
 clear q2
 rintro e w2 ⟨v1,rfl,hv,hb⟩
 obtain⟨fK2,fF2,fC2,rfl⟩:=hv.fn
 have V2:=zh hv
 have H2:=zh (H1.out.below hb)
 have Y2:=zh (H1.out.mxb hb)
 have X2:=zh (X1.out.trans Y2.out)
 have An_2:=zh ((Y2.out.A _ Nbn.out).trans An.out)
 have Nbn_2:=zh (zB Nbn.out Y2.out.N)
 clear hv hb
 go_wp2_with fail
 have q3:=rowM H2.out σ.N.length [44] (.expr 1) _ V2.out Nbn_2.out
 rw[An_2.out]at q3
 try unfold ptr at q3
 refine q3.mono ?_
 clear q3
 rintro e w3 ⟨v2,rfl,hv,hb⟩
 obtain⟨fK3,fF3,fC3,rfl⟩:=hv.fn
 have V3:=zh hv
 have H3:=zh (H2.out.below hb)
 have Y3:=zh (H2.out.mxb hb)
 have X3:=zh (X2.out.trans Y3.out)
 have v1_3:=zh (Y3.out.isc V2.out)
 have An_3:=zh ((Y3.out.A _ Nbn_2.out).trans An_2.out)
 have Nbn_3:=zh (zB Nbn_2.out Y3.out.N)
 clear hv hb
 go_wp2_with fail
 refine(qbd H3.out _ (by simp) [_] [.row σ.N.length [44] (.expr 1)] 1 rfl (zA HK.out (by decide)) (by decide) _ ⟨V3.out,trivial⟩).mono ?_
 rintro e w4 ⟨rfl,M4,hm,hx⟩
 have H4:=zh hm
 have Y4:=zh hx
 have X4:=zh (X3.out.trans Y4.out)
 have v1_4:=zh (Y4.out.isc v1_3.out)
 have v2_4:=zh (Y4.out.isc V3.out)
 have An_4:=zh ((Y4.out.A _ Nbn_3.out).trans An_3.out)
 have Nbn_4:=zh (zB Nbn_3.out Y4.out.N)
 clear hm hx
 have e9:R=.ok ((σ.new (nk 25 [])).plan [.row σ.N.length [44] (.expr 1)]):=by
  rw[HR.out];try simp[stp,bind,Except.bind,pure,Except.pure,Except.map]
 subst e9
 go_wp2_with fail
 go_end0
 exact⟨rfl,M4,H4.out,X4.out⟩
theorem IsC.enter{P:Nat->Prop}{A B:Nat->Nat}{nN nC:Nat}{K:FuncId}{fF fC:Array Value}{st:Stp}(h:IsC W P g A B nN nC (.func (.func K) fF fC) st): ∀args w,(callFunc K args).run Tryz.prog w=.ok (.enter K args) w:=by
 intro args w
 cases h<;>go_simp
theorem qv1{k:Int}{t:Bs}{i:Nat}{b:Bad}(h:msE E k t i=.error b):b=.die:=by
 unfold msE at h
 cases hs:sgE E k t i with
 | error b'=>
  have e:=qaw (qae hs)
  subst e
  rw[hs]at h
  exact(Except.error.inj h).symm
 | ok x=>
  rw[hs]at h
  have h2:(if x.1=true then(.ok x.2:Rs Nat)else .error .die)=.error b:=h
  split at h2
  ·cases h2
  ·exact(Except.error.inj h2).symm
theorem qqs(h:MM W0 g s E tv W L σ){k:Int}{t:Bs}{K:FuncId}{fF fC:Array Value}(hv:IsC W (L.P W0.heap.size) g L.A L.B σ.N.length σ.C.length (.func (.func K) fF fC) (.want k t)):
 Calls Tryz.prog K (fF++fC) W (SO (stp E (.want k t) σ) W0 g s E tv W L σ.N.length σ.C.length):=by
 cases hv with
 | wantS _ p q h1 h2=>
  obtain⟨b1,rfl,r1⟩:=id h1
  obtain⟨b2,rfl,r2⟩:=id h2
  exact qhe h t b1 h1 b2 h2
 | wantW _ p q h1 h2=>
  obtain⟨b1,rfl,r1⟩:=id h1
  obtain⟨b2,rfl,r2⟩:=id h2
  exact qhf h t b1 h1 b2 h2
end
section
variable{W0 W:World}{g:Nat}{s:ByteArray}{E:Env}{tv:Value}{L:PLay}{σ:PM}
theorem qpy(h:MM W0 g s E tv W L σ)(hk:σ.k.length<=274877906944):
 Calls Tryz.prog 178 #[.pointer (some ⟨g,0,none⟩)] W (SO (stp E .pair σ) W0 g s E tv W L σ.N.length σ.C.length):=by
 obtain⟨R,hR⟩: ∃R:Rs PM,R=stp E .pair σ:=⟨_,rfl⟩
 rw[<-hR]
 have HR:=zh hR
 have H0:=zh h
 have X0:=zh (MX.refl W0.heap.size W L σ.N.length σ.C.length)
 have HK:=zh hk
 clear h hR hk
 try unfold ptr
 go_enter Tryz.func178,Tryz.ntmps178
 have hb:=qa1 W (.cells #[.string ⟨#[61,62]⟩,.string ⟨#[58,61]⟩] 9)
 have Us:=zh (H0.out.strsN [⟨#[61,62]⟩,⟨#[58,61]⟩])
 have H1:=zh (H0.out.below hb)
 have Y1:=zh (H0.out.mxb hb)
 have X1:=zh (X0.out.trans Y1.out)
 clear hb
 go_wp2_with fail
 have q2:=qkz H1.out 1 [[61,62],[58,61]] _ _ _ Us.out (by decide)
 try unfold ptr at q2
 refine q2.mono ?_
 clear q2
 rintro e w2 ⟨v1,rfl,hv,hb⟩
 obtain⟨fK2,fF2,fC2,rfl⟩:=hv.fn
 have V2:=zh hv
 have H2:=zh (H1.out.below hb)
 have Y2:=zh (H1.out.mxb hb)
 have X2:=zh (X1.out.trans Y2.out)
 clear hv hb
 go_wp2_with fail
 refine(qbd H2.out _ (by simp) [_] [.perh 1 [[61,62],[58,61]]] 1 rfl (zA HK.out (by decide)) (by decide) _ ⟨V2.out,trivial⟩).mono ?_
 rintro e w3 ⟨rfl,M3,hm,hx⟩
 have H3:=zh hm
 have Y3:=zh hx
 have X3:=zh (X2.out.trans Y3.out)
 have v1_3:=zh (Y3.out.isc V2.out)
 clear hm hx
 have e9:R=.ok (σ.plan [.perh 1 [[61,62],[58,61]]]):=by
  rw[HR.out];try simp[stp,bind,Except.bind,pure,Except.pure,Except.map]
 subst e9
 go_wp2_with fail
 go_end0
 exact⟨rfl,M3,H3.out,X3.out⟩
theorem qhl(h:MM W0 g s E tv W L σ)(hk:σ.k.length<=274877906944)(va vg:Value)(sa sg:Stp)(hva:IsC W (L.P W0.heap.size) g L.A L.B σ.N.length σ.C.length va sa)(hvg:IsC W (L.P W0.heap.size) g L.A L.B σ.N.length σ.C.length vg sg):
 Calls Tryz.prog 81 #[.pointer (some ⟨g,0,none⟩),va,vg] W (SO (.ok (qc0 σ sa sg)) W0 g s E tv W L σ.N.length σ.C.length):=by
 obtain⟨R,hR⟩: ∃R:Rs PM,R=.ok (qc0 σ sa sg):=⟨_,rfl⟩
 rw[<-hR]
 have HR:=zh hR
 have H0:=zh h
 have X0:=zh (MX.refl W0.heap.size W L σ.N.length σ.C.length)
 have HK:=zh hk
 obtain⟨fA,gA,hA,rfl⟩:=hva.fn
 obtain⟨fG,gG,hG,rfl⟩:=hvg.fn
 have VA:=zh hva
 have VG:=zh hvg
 clear hva hvg
 clear h hR hk
 try unfold ptr
 go_enter Tryz.func81,Tryz.ntmps81
 have hb:=qa1 W (.cells #[ptr g] 60)
 have B_r:=zh (H0.out.boxT (W.heap.size) (by simp) (ptr g) 60)
 have H1:=zh (H0.out.below hb)
 have Y1:=zh (H0.out.mxb hb)
 have X1:=zh (X0.out.trans Y1.out)
 have a1_1:=zh (Y1.out.isc VA.out)
 have a2_1:=zh (Y1.out.isc VG.out)
 clear hb
 obtain⟨M2,hm,hx,ha,hl⟩:=H1.out.new0E 22 ⟨#[]⟩
 have An:=zh (show M2.A σ.N.length=W.heap.size+1 from ha.trans (by simp))
 have Nbn:=zh (show σ.N.length<_ from hl)
 have H2:=zh hm
 have Y2:=zh hx
 have X2:=zh (X1.out.trans Y2.out)
 have B_r_2:=zh (Y2.out.box B_r.out)
 have cr2:=B_r_2.out.cellv
 unfold ptr at cr2
 have a1_2:=zh (Y2.out.isc a1_1.out)
 have a2_2:=zh (Y2.out.isc a2_1.out)
 clear hm hx ha hl
 have hb:=qa1 ((W.alloc (.cells #[ptr g] 60)).alloc (.cells #[.int .i64 22,.string ⟨#[]⟩,.slice none 0 0,.bool false,.bool false,.slice none 0 0,.slice none 0 0] 29)) (.cells #[.pointer (some ⟨W.heap.size+1,0,none⟩)] 74)
 have B_n:=zh (H2.out.boxT (W.heap.size+1+1) (by simp) (.pointer (some ⟨W.heap.size+1,0,none⟩)) 74)
 have H3:=zh (H2.out.below hb)
 have Y3:=zh (H2.out.mxb hb)
 have X3:=zh (X2.out.trans Y3.out)
 have B_r_3:=zh (Y3.out.box B_r_2.out)
 have cr3:=B_r_3.out.cellv
 unfold ptr at cr3
 have a1_3:=zh (Y3.out.isc a1_2.out)
 have a2_3:=zh (Y3.out.isc a2_2.out)
 have An_3:=zh ((Y3.out.A _ Nbn.out).trans An.out)
 have Nbn_3:=zh (zB Nbn.out Y3.out.N)
 clear hb
 go_wp2_with fail
 have q4:=qij H3.out σ.N.length Nbn_3.out
 rw[An_3.out]at q4
 try unfold ptr at q4
 refine q4.mono ?_
 clear q4
 rintro e w4 ⟨v1,rfl,hv,hb⟩
 obtain⟨fK4,fF4,fC4,rfl⟩:=hv.fn
 have V4:=zh hv
 have H4:=zh (H3.out.below hb)
 have Y4:=zh (H3.out.mxb hb)
 have X4:=zh (X3.out.trans Y4.out)
 have B_r_4:=zh (Y4.out.box B_r_3.out)
 have cr4:=B_r_4.out.cellv
 unfold ptr at cr4
 have B_n_4:=zh (Y4.out.box B_n.out)
 have cn4:=B_n_4.out.cellv
 have a1_4:=zh (Y4.out.isc a1_3.out)
 have a2_4:=zh (Y4.out.isc a2_3.out)
 have An_4:=zh ((Y4.out.A _ Nbn_3.out).trans An_3.out)
 have Nbn_4:=zh (zB Nbn_3.out Y4.out.N)
 clear hv hb
 have V5:=zh (IsC.arrow (W:=w4) (P:=M2.P W0.heap.size) (g:=g) (A:=M2.A) (B:=M2.B) (nN:=(σ.new (nkt 22 ⟨#[]⟩ [])).N.length) (nC:=σ.C.length) σ.N.length _ _ B_r_4.out (by have h9:=B_n_4.out;rw[show ptr (M2.A σ.N.length)=_ from congrArg ptr An_4.out];exact h9) Nbn_4.out)
 have V6:=zh ((IsC.body:IsC w4 (M2.P W0.heap.size) g M2.A M2.B ((σ.new (nkt 22 ⟨#[]⟩ []))).N.length ((σ.new (nkt 22 ⟨#[]⟩ []))).C.length _ .body))
 go_wp2_with fail
 refine(qbd H4.out _ (by simp) [_,_,_,_,_,_,_] [sa,.into σ.N.length,sg,.into σ.N.length,.arrow σ.N.length,.body,.into σ.N.length] 7 rfl (zA HK.out (by decide)) (by decide) _ ⟨a1_4.out,⟨V4.out,⟨a2_4.out,⟨V4.out,⟨V5.out,⟨V6.out,⟨V4.out,trivial⟩⟩⟩⟩⟩⟩⟩).mono ?_
 rintro e w7 ⟨rfl,M7,hm,hx⟩
 have H7:=zh hm
 have Y7:=zh hx
 have X7:=zh (X4.out.trans Y7.out)
 have B_r_7:=zh (Y7.out.box B_r_4.out)
 have cr7:=B_r_7.out.cellv
 unfold ptr at cr7
 have B_n_7:=zh (Y7.out.box B_n_4.out)
 have cn7:=B_n_7.out.cellv
 have a1_7:=zh (Y7.out.isc a1_4.out)
 have a2_7:=zh (Y7.out.isc a2_4.out)
 have v1_7:=zh (Y7.out.isc V4.out)
 have v2_7:=zh (Y7.out.isc V5.out)
 have v3_7:=zh (Y7.out.isc V6.out)
 have An_7:=zh ((Y7.out.A _ Nbn_4.out).trans An_4.out)
 have Nbn_7:=zh (zB Nbn_4.out Y7.out.N)
 clear hm hx
 have e9:R=.ok (qc0 σ sa sg):=by
  rw[HR.out];try simp[qc0,bind,Except.bind,pure,Except.pure,Except.map]
 subst e9
 go_wp2_with fail
 go_end0
 exact⟨rfl,M7,H7.out,X7.out⟩
theorem qpz(h:MM W0 g s E tv W L σ)(hk:σ.k.length<=274877906944):
 Calls Tryz.prog 48 #[.pointer (some ⟨g,0,none⟩)] W (SO (stp E .patC σ) W0 g s E tv W L σ.N.length σ.C.length):=by
 obtain⟨R,hR⟩: ∃R:Rs PM,R=stp E .patC σ:=⟨_,rfl⟩
 rw[<-hR]
 have HR:=zh hR
 have H0:=zh h
 have X0:=zh (MX.refl W0.heap.size W L σ.N.length σ.C.length)
 have HK:=zh hk
 clear h hR hk
 try unfold ptr
 go_enter Tryz.func48,Tryz.ntmps48
 have V1:=zh ((IsC.patt:IsC W (L.P W0.heap.size) g L.A L.B σ.N.length σ.C.length _ .patt))
 have V2:=zh ((IsC.guar:IsC W (L.P W0.heap.size) g L.A L.B σ.N.length σ.C.length _ .guar))
 go_wp2_with fail
 have q3:=qhl H0.out HK.out _ _ .patt .guar V1.out V2.out
 try unfold ptr at q3
 refine q3.mono ?_
 clear q3
 rintro e w9 ⟨rfl,M9,hm,hx⟩
 have H9:=zh hm
 have X9:=zh (X0.out.trans hx)
 clear hm hx
 have e9:R=.ok (qc0 σ .patt .guar):=by
  rw[HR.out];try simp[stp,bind,Except.bind,pure,Except.pure,Except.map]
 subst e9
 go_wp2_with fail
 go_end0
 exact⟨rfl,M9,H9.out,X9.out⟩
theorem qq7(h:MM W0 g s E tv W L σ)(hk:σ.k.length<=274877906944):
 Calls Tryz.prog 197 #[.pointer (some ⟨g,0,none⟩)] W (SO (stp E .tstC σ) W0 g s E tv W L σ.N.length σ.C.length):=by
 obtain⟨R,hR⟩: ∃R:Rs PM,R=stp E .tstC σ:=⟨_,rfl⟩
 rw[<-hR]
 have HR:=zh hR
 have H0:=zh h
 have X0:=zh (MX.refl W0.heap.size W L σ.N.length σ.C.length)
 have HK:=zh hk
 clear h hR hk
 try unfold ptr
 go_enter Tryz.func197,Tryz.ntmps197
 go_wp2_with fail
 have q1:=qkw H0.out 23
 try unfold ptr at q1
 refine q1.mono ?_
 clear q1
 rintro e w1 ⟨v1,rfl,hv,hb⟩
 obtain⟨fK1,fF1,fC1,rfl⟩:=hv.fn
 have V1:=zh hv
 have H1:=zh (H0.out.below hb)
 have Y1:=zh (H0.out.mxb hb)
 have X1:=zh (X0.out.trans Y1.out)
 clear hv hb
 have V2:=zh ((IsC.alts:IsC w1 (L.P W0.heap.size) g L.A L.B σ.N.length σ.C.length _ .alts))
 go_wp2_with fail
 have q3:=qhl H1.out HK.out _ _ (.noth 23) .alts V1.out V2.out
 try unfold ptr at q3
 refine q3.mono ?_
 clear q3
 rintro e w9 ⟨rfl,M9,hm,hx⟩
 have H9:=zh hm
 have X9:=zh (X1.out.trans hx)
 clear hm hx
 have e9:R=.ok (qc0 σ (.noth 23) .alts):=by
  rw[HR.out];try simp[stp,bind,Except.bind,pure,Except.pure,Except.map]
 subst e9
 go_wp2_with fail
 go_end0
 exact⟨rfl,M9,H9.out,X9.out⟩
theorem qpo(h:MM W0 g s E tv W L σ)(hk:σ.k.length<=274877906944):
 Calls Tryz.prog 193 #[.pointer (some ⟨g,0,none⟩)] W (SO (stp E .funC σ) W0 g s E tv W L σ.N.length σ.C.length):=by
 obtain⟨R,hR⟩: ∃R:Rs PM,R=stp E .funC σ:=⟨_,rfl⟩
 rw[<-hR]
 have HR:=zh hR
 have H0:=zh h
 have X0:=zh (MX.refl W0.heap.size W L σ.N.length σ.C.length)
 have HK:=zh hk
 clear h hR hk
 try unfold ptr
 go_enter Tryz.func193,Tryz.ntmps193
 obtain⟨M1,hm,hx,ha,hl⟩:=H0.out.new0E 23 ⟨#[]⟩
 have An:=zh (show M1.A σ.N.length=_ from ha)
 have Nbn:=zh (show σ.N.length<_ from hl)
 have H1:=zh hm
 have Y1:=zh hx
 have X1:=zh (X0.out.trans Y1.out)
 clear hm hx ha hl
 go_wp2_with fail
 have q2:=qdd H1.out 0
 try unfold ptr at q2
 refine q2.mono ?_
 clear q2
 rintro e w2 ⟨v1,rfl,hv,hb⟩
 obtain⟨fK2,fF2,fC2,rfl⟩:=hv.fn
 have V2:=zh hv
 have H2:=zh (H1.out.below hb)
 have Y2:=zh (H1.out.mxb hb)
 have X2:=zh (X1.out.trans Y2.out)
 have An_2:=zh ((Y2.out.A _ Nbn.out).trans An.out)
 have Nbn_2:=zh (zB Nbn.out Y2.out.N)
 clear hv hb
 go_wp2_with fail
 have q3:=boxM H2.out σ.N.length [40] (.expr 0) _ V2.out Nbn_2.out
 rw[An_2.out]at q3
 try unfold ptr at q3
 refine q3.mono ?_
 clear q3
 rintro e w3 ⟨v2,rfl,hv,hb⟩
 obtain⟨fK3,fF3,fC3,rfl⟩:=hv.fn
 have V3:=zh hv
 have H3:=zh (H2.out.below hb)
 have Y3:=zh (H2.out.mxb hb)
 have X3:=zh (X2.out.trans Y3.out)
 have v1_3:=zh (Y3.out.isc V2.out)
 have An_3:=zh ((Y3.out.A _ Nbn_2.out).trans An_2.out)
 have Nbn_3:=zh (zB Nbn_2.out Y3.out.N)
 clear hv hb
 have V4:=zh ((IsC.guar:IsC w3 (M1.P W0.heap.size) g M1.A M1.B ((σ.new (nkt 23 ⟨#[]⟩ []))).N.length ((σ.new (nkt 23 ⟨#[]⟩ []))).C.length _ .guar))
 go_wp2_with fail
 have q5:=qhl (σ:=σ.new (nk 23 [])) H3.out HK.out _ _ (.box σ.N.length [40] (.expr 0)) .guar V3.out V4.out
 try unfold ptr at q5
 refine q5.mono ?_
 clear q5
 rintro e w9 ⟨rfl,M9,hm,hx⟩
 have H9:=zh hm
 have X9:=zh (X3.out.trans hx)
 clear hm hx
 have e9:R=.ok (qc0 (σ.new (nk 23 [])) (.box σ.N.length [40] (.expr 0)) .guar):=by
  rw[HR.out];try simp[stp,bind,Except.bind,pure,Except.pure,Except.map]
 subst e9
 go_wp2_with fail
 go_end0
 exact⟨rfl,M9,H9.out,X9.out⟩
theorem qpu(h:MM W0 g s E tv W L σ)(hk:σ.k.length<=274877906944):
 Calls Tryz.prog 199 #[.pointer (some ⟨g,0,none⟩)] W (SO (stp E .lstC σ) W0 g s E tv W L σ.N.length σ.C.length):=by
 obtain⟨R,hR⟩: ∃R:Rs PM,R=stp E .lstC σ:=⟨_,rfl⟩
 rw[<-hR]
 have HR:=zh hR
 have H0:=zh h
 have X0:=zh (MX.refl W0.heap.size W L σ.N.length σ.C.length)
 have HK:=zh hk
 clear h hR hk
 try unfold ptr
 go_enter Tryz.func199,Tryz.ntmps199
 go_wp2_with fail
 have q1:=qi6 H0.out [97,102,116,101,114]
 try unfold ptr at q1
 refine q1.mono ?_
 clear q1
 intro e w1 h1
 rcases hr1:sgE E 8 [97,102,116,101,114] σ.i with x9 | ⟨b,j⟩
 ·obtain rfl:=qaw (by first | exact qae hr1 | exact qag hr1 | exact qaf hr1)
  rw[hr1]at h1
  obtain⟨⟨u,pv,rfl⟩,hb⟩:=h1
  have HB9:=zh hb
  have HR1:=zh hr1
  have e9:R=.error .die:=by
   have hr1:=HR1.out;rw[HR.out];try simp[stp,msE,hr1,bind,Except.bind,pure,Except.pure,Except.map]
  subst e9
  clear hb hr1
  go_wp2_with fail
  exact⟨rfl,⟨_,_,rfl⟩,HB9.out⟩
 ·rw[hr1]at h1
  have HR1:=zh hr1
  obtain⟨rfl,hm,hx⟩:=h1
  have H1:=zh hm
  have Y1:=zh hx
  have X1:=zh (X0.out.trans Y1.out)
  clear hm hx hr1
  cases b
  ·have e9:R=.error .die:=by
    have hr1:=HR1.out;rw[HR.out];try simp[stp,msE,hr1,bind,Except.bind,pure,Except.pure,Except.map]
   subst e9
   go_wp2_with fail
   refine(qaq _).mono ?_
   rintro e w9 ⟨⟨u,pv,rfl⟩,rfl⟩
   go_wp2_with fail
   exact⟨rfl,⟨_,_,rfl⟩,H1.out.bel⟩
  ·go_wp2_with fail
   refine(qap _).mono ?_
   rintro e w9 ⟨rfl,rfl⟩
   have V2:=zh ((IsC.patt:IsC w1 (L.P W0.heap.size) g L.A L.B σ.N.length σ.C.length _ .patt))
   go_wp2_with fail
   have q3:=qkw (σ:=σ.at_ j) H1.out 24
   try unfold ptr at q3
   refine q3.mono ?_
   clear q3
   rintro e w3 ⟨v2,rfl,hv,hb⟩
   obtain⟨fK3,fF3,fC3,rfl⟩:=hv.fn
   have V3:=zh hv
   have H3:=zh (H1.out.below hb)
   have Y3:=zh (H1.out.mxb hb)
   have X3:=zh (X1.out.trans Y3.out)
   have v1_3:=zh (Y3.out.isc V2.out)
   clear hv hb
   go_wp2_with fail
   have q4:=qhl (σ:=σ.at_ j) H3.out HK.out _ _ .patt (.noth 24) v1_3.out V3.out
   try unfold ptr at q4
   refine q4.mono ?_
   clear q4
   rintro e w9 ⟨rfl,M9,hm,hx⟩
   have H9:=zh hm
   have X9:=zh (X3.out.trans hx)
   clear hm hx
   have e9:R=.ok (qc0 (σ.at_ j) .patt (.noth 24)):=by
    have hr1:=HR1.out;rw[HR.out];try simp[stp,msE,hr1,bind,Except.bind,pure,Except.pure,Except.map]
   subst e9
   go_wp2_with fail
   go_end0
   exact⟨rfl,M9,H9.out,X9.out⟩
theorem qq0(h:MM W0 g s E tv W L σ)(hk:σ.k.length<=274877906944):
 Calls Tryz.prog 82 #[.pointer (some ⟨g,0,none⟩)] W (SO (stp E .patt σ) W0 g s E tv W L σ.N.length σ.C.length):=by
 obtain⟨R,hR⟩: ∃R:Rs PM,R=stp E .patt σ:=⟨_,rfl⟩
 rw[<-hR]
 have HR:=zh hR
 have H0:=zh h
 have X0:=zh (MX.refl W0.heap.size W L σ.N.length σ.C.length)
 have HK:=zh hk
 clear h hR hk
 try unfold ptr
 go_enter Tryz.func82,Tryz.ntmps82
 go_wp2_with fail
 have q1:=qdd H0.out 1
 try unfold ptr at q1
 refine q1.mono ?_
 clear q1
 rintro e w1 ⟨v1,rfl,hv,hb⟩
 obtain⟨fK1,fF1,fC1,rfl⟩:=hv.fn
 have V1:=zh hv
 have H1:=zh (H0.out.below hb)
 have Y1:=zh (H0.out.mxb hb)
 have X1:=zh (X0.out.trans Y1.out)
 clear hv hb
 obtain⟨M2,hm,hx,ha,hl⟩:=H1.out.new0E 23 ⟨#[]⟩
 have An:=zh (show M2.A σ.N.length=_ from ha)
 have Nbn:=zh (show σ.N.length<_ from hl)
 have H2:=zh hm
 have Y2:=zh hx
 have X2:=zh (X1.out.trans Y2.out)
 have v1_2:=zh (Y2.out.isc V1.out)
 clear hm hx ha hl
 go_wp2_with fail
 have q3:=qij H2.out σ.N.length Nbn.out
 rw[An.out]at q3
 try unfold ptr at q3
 refine q3.mono ?_
 clear q3
 rintro e w3 ⟨v2,rfl,hv,hb⟩
 obtain⟨fK3,fF3,fC3,rfl⟩:=hv.fn
 have V3:=zh hv
 have H3:=zh (H2.out.below hb)
 have Y3:=zh (H2.out.mxb hb)
 have X3:=zh (X2.out.trans Y3.out)
 have v1_3:=zh (Y3.out.isc v1_2.out)
 have An_3:=zh ((Y3.out.A _ Nbn.out).trans An.out)
 have Nbn_3:=zh (zB Nbn.out Y3.out.N)
 clear hv hb
 go_wp2_with fail
 refine(qbd H3.out _ (by simp) [_,_] [.expr 1,.into σ.N.length] 2 rfl (zA HK.out (by decide)) (by decide) _ ⟨v1_3.out,⟨V3.out,trivial⟩⟩).mono ?_
 rintro e w4 ⟨rfl,M4,hm,hx⟩
 have H4:=zh hm
 have Y4:=zh hx
 have X4:=zh (X3.out.trans Y4.out)
 have v1_4:=zh (Y4.out.isc v1_3.out)
 have v2_4:=zh (Y4.out.isc V3.out)
 have An_4:=zh ((Y4.out.A _ Nbn_3.out).trans An_3.out)
 have Nbn_4:=zh (zB Nbn_3.out Y4.out.N)
 clear hm hx
 have e9:R=.ok ((σ.new (nk 23 [])).plan [.expr 1,.into σ.N.length]):=by
  rw[HR.out];try simp[stp,bind,Except.bind,pure,Except.pure,Except.map]
 subst e9
 go_wp2_with fail
 go_end0
 exact⟨rfl,M4,H4.out,X4.out⟩
theorem qj5(h:MM W0 g s E tv W L σ)(hk:σ.k.length<=274877906944):
 Calls Tryz.prog 114 #[.pointer (some ⟨g,0,none⟩)] W (SO (stp E .alts σ) W0 g s E tv W L σ.N.length σ.C.length):=by
 obtain⟨R,hR⟩: ∃R:Rs PM,R=stp E .alts σ:=⟨_,rfl⟩
 rw[<-hR]
 have HR:=zh hR
 have H0:=zh h
 have X0:=zh (MX.refl W0.heap.size W L σ.N.length σ.C.length)
 have HK:=zh hk
 clear h hR hk
 try unfold ptr
 go_enter Tryz.func114,Tryz.ntmps114
 obtain⟨M1,hm,hx,ha,hl⟩:=H0.out.new0E 24 ⟨#[]⟩
 have An:=zh (show M1.A σ.N.length=_ from ha)
 have Nbn:=zh (show σ.N.length<_ from hl)
 have H1:=zh hm
 have Y1:=zh hx
 have X1:=zh (X0.out.trans Y1.out)
 clear hm hx ha hl
 have V2:=zh ((IsC.cond:IsC (W.alloc (.cells #[.int .i64 24,.string ⟨#[]⟩,.slice none 0 0,.bool false,.bool false,.slice none 0 0,.slice none 0 0] 29)) (M1.P W0.heap.size) g M1.A M1.B ((σ.new (nkt 24 ⟨#[]⟩ []))).N.length ((σ.new (nkt 24 ⟨#[]⟩ []))).C.length _ .cond))
 go_wp2_with fail
 have q3:=rowM H1.out σ.N.length [59] .cond _ V2.out Nbn.out
 rw[An.out]at q3
 try unfold ptr at q3
 refine q3.mono ?_
 clear q3
 rintro e w3 ⟨v2,rfl,hv,hb⟩
 obtain⟨fK3,fF3,fC3,rfl⟩:=hv.fn
 have V3:=zh hv
 have H3:=zh (H1.out.below hb)
 have Y3:=zh (H1.out.mxb hb)
 have X3:=zh (X1.out.trans Y3.out)
 have v1_3:=zh (Y3.out.isc V2.out)
 have An_3:=zh ((Y3.out.A _ Nbn.out).trans An.out)
 have Nbn_3:=zh (zB Nbn.out Y3.out.N)
 clear hv hb
 go_wp2_with fail
 refine(qbd H3.out _ (by simp) [_] [.row σ.N.length [59] .cond] 1 rfl (zA HK.out (by decide)) (by decide) _ ⟨V3.out,trivial⟩).mono ?_
 rintro e w4 ⟨rfl,M4,hm,hx⟩
 have H4:=zh hm
 have Y4:=zh hx
 have X4:=zh (X3.out.trans Y4.out)
 have v1_4:=zh (Y4.out.isc v1_3.out)
 have v2_4:=zh (Y4.out.isc V3.out)
 have An_4:=zh ((Y4.out.A _ Nbn_3.out).trans An_3.out)
 have Nbn_4:=zh (zB Nbn_3.out Y4.out.N)
 clear hm hx
 have e9:R=.ok (qgn σ):=by
  rw[HR.out];try simp[stp,qgn,bind,Except.bind,pure,Except.pure,Except.map]
 subst e9
 go_wp2_with fail
 go_end0
 exact⟨rfl,M4,H4.out,X4.out⟩
theorem qkg(h:MM W0 g s E tv W L σ)(hk:σ.k.length<=274877906944):
 Calls Tryz.prog 165 #[.pointer (some ⟨g,0,none⟩)] W (SO (qbc E σ) W0 g s E tv W L σ.N.length σ.C.length):=by
 obtain⟨R,hR⟩: ∃R:Rs PM,R=qbc E σ:=⟨_,rfl⟩
 rw[<-hR]
 have HR:=zh hR
 have H0:=zh h
 have X0:=zh (MX.refl W0.heap.size W L σ.N.length σ.C.length)
 have HK:=zh hk
 clear h hR hk
 try unfold ptr
 go_enter Tryz.func165,Tryz.ntmps165
 go_wp2_with fail
 have q1:=qd1 H0.out [40]
 try unfold ptr at q1
 refine q1.mono ?_
 clear q1
 intro e w1 h1
 rcases hr1:sgE E 9 [40] σ.i with x9 | ⟨b,j⟩
 ·obtain rfl:=qaw (by first | exact qae hr1 | exact qag hr1 | exact qaf hr1)
  rw[hr1]at h1
  obtain⟨⟨u,pv,rfl⟩,hb⟩:=h1
  have HB9:=zh hb
  have HR1:=zh hr1
  have e9:R=.error .die:=by
   have hr1:=HR1.out;rw[HR.out];try simp[qbc,msE,hr1,bind,Except.bind,pure,Except.pure,Except.map]
  subst e9
  clear hb hr1
  go_wp2_with fail
  exact⟨rfl,⟨_,_,rfl⟩,HB9.out⟩
 ·rw[hr1]at h1
  have HR1:=zh hr1
  obtain⟨rfl,hm,hx⟩:=h1
  have H1:=zh hm
  have Y1:=zh hx
  have X1:=zh (X0.out.trans Y1.out)
  clear hm hx hr1
  cases b
  ·have e9:R=.error .die:=by
    have hr1:=HR1.out;rw[HR.out];try simp[qbc,msE,hr1,bind,Except.bind,pure,Except.pure,Except.map]
   subst e9
   go_wp2_with fail
   refine(qaq _).mono ?_
   rintro e w9 ⟨⟨u,pv,rfl⟩,rfl⟩
   go_wp2_with fail
   exact⟨rfl,⟨_,_,rfl⟩,H1.out.bel⟩
  ·go_wp2_with fail
   refine(qap _).mono ?_
   rintro e w9 ⟨rfl,rfl⟩
   go_wp2_with fail
   have q2:=qdd (σ:=σ.at_ j) H1.out 0
   try unfold ptr at q2
   refine q2.mono ?_
   clear q2
   rintro e w2 ⟨v1,rfl,hv,hb⟩
   obtain⟨fK2,fF2,fC2,rfl⟩:=hv.fn
   have V2:=zh hv
   have H2:=zh (H1.out.below hb)
   have Y2:=zh (H1.out.mxb hb)
   have X2:=zh (X1.out.trans Y2.out)
   clear hv hb
   go_wp2_with fail
   have q3:=qj8 (σ:=σ.at_ j) H2.out [41]
   try unfold ptr at q3
   refine q3.mono ?_
   clear q3
   rintro e w3 ⟨v2,rfl,hv,hb⟩
   obtain⟨fK3,fF3,fC3,rfl⟩:=hv.fn
   have V3:=zh hv
   have H3:=zh (H2.out.below hb)
   have Y3:=zh (H2.out.mxb hb)
   have X3:=zh (X2.out.trans Y3.out)
   have v1_3:=zh (Y3.out.isc V2.out)
   clear hv hb
   go_wp2_with fail
   refine(qbd H3.out _ (by simp) [_,_] [.expr 0,.want 9 [41]] 2 rfl (zA HK.out (by decide)) (by decide) _ ⟨v1_3.out,⟨V3.out,trivial⟩⟩).mono ?_
   rintro e w4 ⟨rfl,M4,hm,hx⟩
   have H4:=zh hm
   have Y4:=zh hx
   have X4:=zh (X3.out.trans Y4.out)
   have v1_4:=zh (Y4.out.isc v1_3.out)
   have v2_4:=zh (Y4.out.isc V3.out)
   clear hm hx
   have e9:R=.ok ((σ.at_ j).plan [.expr 0,.want 9 [41]]):=by
    have hr1:=HR1.out;rw[HR.out];try simp[qbc,msE,hr1,bind,Except.bind,pure,Except.pure,Except.map]
   subst e9
   go_wp2_with fail
   go_end0
   exact⟨rfl,M4,H4.out,X4.out⟩
theorem tupleM(h:MM W0 g s E tv W L σ)(hk:σ.k.length<=274877906944):
 Calls Tryz.prog 166 #[.pointer (some ⟨g,0,none⟩)] W (SO (.ok (boxE σ (nk 4 []) [123] (.expr 0))) W0 g s E tv W L σ.N.length σ.C.length):=by
 obtain⟨R,hR⟩: ∃R:Rs PM,R=.ok (boxE σ (nk 4 []) [123] (.expr 0)):=⟨_,rfl⟩
 rw[<-hR]
 have HR:=zh hR
 have H0:=zh h
 have X0:=zh (MX.refl W0.heap.size W L σ.N.length σ.C.length)
 have HK:=zh hk
 clear h hR hk
 try unfold ptr
 go_enter Tryz.func166,Tryz.ntmps166
 obtain⟨M1,hm,hx,ha,hl⟩:=H0.out.new0E 4 ⟨#[]⟩
 have An:=zh (show M1.A σ.N.length=_ from ha)
 have Nbn:=zh (show σ.N.length<_ from hl)
 have H1:=zh hm
 have Y1:=zh hx
 have X1:=zh (X0.out.trans Y1.out)
 clear hm hx ha hl
 go_wp2_with fail
 have q2:=qdd H1.out 0
 try unfold ptr at q2
 refine q2.mono ?_
 clear q2
 rintro e w2 ⟨v1,rfl,hv,hb⟩
 obtain⟨fK2,fF2,fC2,rfl⟩:=hv.fn
 have V2:=zh hv
 have H2:=zh (H1.out.below hb)
 have Y2:=zh (H1.out.mxb hb)
 have X2:=zh (X1.out.trans Y2.out)
 have An_2:=zh ((Y2.out.A _ Nbn.out).trans An.out)
 have Nbn_2:=zh (zB Nbn.out Y2.out.N)
 clear hv hb
 go_wp2_with fail
 have q3:=boxM H2.out σ.N.length [123] (.expr 0) _ V2.out Nbn_2.out
 rw[An_2.out]at q3
 try unfold ptr at q3
 refine q3.mono ?_
 clear q3
 rintro e w3 ⟨v2,rfl,hv,hb⟩
 obtain⟨fK3,fF3,fC3,rfl⟩:=hv.fn
 have V3:=zh hv
 have H3:=zh (H2.out.below hb)
 have Y3:=zh (H2.out.mxb hb)
 have X3:=zh (X2.out.trans Y3.out)
 have v1_3:=zh (Y3.out.isc V2.out)
 have An_3:=zh ((Y3.out.A _ Nbn_2.out).trans An_2.out)
 have Nbn_3:=zh (zB Nbn_2.out Y3.out.N)
 clear hv hb
 go_wp2_with fail
 refine(qbd H3.out _ (by simp) [_] [.box σ.N.length [123] (.expr 0)] 1 rfl (zA HK.out (by decide)) (by decide) _ ⟨V3.out,trivial⟩).mono ?_
 rintro e w4 ⟨rfl,M4,hm,hx⟩
 have H4:=zh hm
 have Y4:=zh hx
 have X4:=zh (X3.out.trans Y4.out)
 have v1_4:=zh (Y4.out.isc v1_3.out)
 have v2_4:=zh (Y4.out.isc V3.out)
 have An_4:=zh ((Y4.out.A _ Nbn_3.out).trans An_3.out)
 have Nbn_4:=zh (zB Nbn_3.out Y4.out.N)
 clear hm hx
 have e9:R=.ok (boxE σ (nk 4 []) [123] (.expr 0)):=by
  rw[HR.out];try simp[boxE,bind,Except.bind,pure,Except.pure,Except.map]
 subst e9
 go_wp2_with fail
 go_end0
 exact⟨rfl,M4,H4.out,X4.out⟩
theorem binM(h:MM W0 g s E tv W L σ)(hk:σ.k.length<=274877906944):
 Calls Tryz.prog 168 #[.pointer (some ⟨g,0,none⟩)] W (SO (.ok (binE σ)) W0 g s E tv W L σ.N.length σ.C.length):=by
 obtain⟨R,hR⟩: ∃R:Rs PM,R=.ok (binE σ):=⟨_,rfl⟩
 rw[<-hR]
 have HR:=zh hR
 have H0:=zh h
 have X0:=zh (MX.refl W0.heap.size W L σ.N.length σ.C.length)
 have HK:=zh hk
 clear h hR hk
 try unfold ptr
 go_enter Tryz.func168,Tryz.ntmps168
 obtain⟨M1,hm,hx,ha,hl⟩:=H0.out.new0E 6 ⟨#[]⟩
 have An:=zh (show M1.A σ.N.length=_ from ha)
 have Nbn:=zh (show σ.N.length<_ from hl)
 have H1:=zh hm
 have Y1:=zh hx
 have X1:=zh (X0.out.trans Y1.out)
 clear hm hx ha hl
 have V2:=zh ((IsC.segm:IsC (W.alloc (.cells #[.int .i64 6,.string ⟨#[]⟩,.slice none 0 0,.bool false,.bool false,.slice none 0 0,.slice none 0 0] 29)) (M1.P W0.heap.size) g M1.A M1.B ((σ.new (nkt 6 ⟨#[]⟩ []))).N.length ((σ.new (nkt 6 ⟨#[]⟩ []))).C.length _ .segm))
 go_wp2_with fail
 have q3:=boxM H1.out σ.N.length [60,60] .segm _ V2.out Nbn.out
 rw[An.out]at q3
 try unfold ptr at q3
 refine q3.mono ?_
 clear q3
 rintro e w3 ⟨v2,rfl,hv,hb⟩
 obtain⟨fK3,fF3,fC3,rfl⟩:=hv.fn
 have V3:=zh hv
 have H3:=zh (H1.out.below hb)
 have Y3:=zh (H1.out.mxb hb)
 have X3:=zh (X1.out.trans Y3.out)
 have v1_3:=zh (Y3.out.isc V2.out)
 have An_3:=zh ((Y3.out.A _ Nbn.out).trans An.out)
 have Nbn_3:=zh (zB Nbn.out Y3.out.N)
 clear hv hb
 go_wp2_with fail
 refine(qbd H3.out _ (by simp) [_] [.box σ.N.length [60,60] .segm] 1 rfl (zA HK.out (by decide)) (by decide) _ ⟨V3.out,trivial⟩).mono ?_
 rintro e w4 ⟨rfl,M4,hm,hx⟩
 have H4:=zh hm
 have Y4:=zh hx
 have X4:=zh (X3.out.trans Y4.out)
 have v1_4:=zh (Y4.out.isc v1_3.out)
 have v2_4:=zh (Y4.out.isc V3.out)
 have An_4:=zh ((Y4.out.A _ Nbn_3.out).trans An_3.out)
 have Nbn_4:=zh (zB Nbn_3.out Y4.out.N)
 clear hm hx
 have e9:R=.ok (binE σ):=by
  rw[HR.out];try simp[binE,boxE,bind,Except.bind,pure,Except.pure,Except.map]
 subst e9
 go_wp2_with fail
 go_end0
 exact⟨rfl,M4,H4.out,X4.out⟩
end
end Go.Proofs.YtdhadeeajgoedaaGreat
