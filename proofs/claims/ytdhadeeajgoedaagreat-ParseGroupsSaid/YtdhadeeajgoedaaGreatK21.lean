/-
  What the claims stand on: PmPot.
-/
import Derived.Test.YtdhadeeajgoedaaGreatK20
set_option maxRecDepth 100000
set_option maxHeartbeats 4000000
set_option linter.unusedVariables false
set_option linter.unusedSimpArgs false
open Nat renaming le_succ→zA
namespace Go.Proofs.YtdhadeeajgoedaaGreat
open Go.RowKit Go.PlainAid
def wt:Stp->Nat
 | .expr _=>4
 | .prim=>2
 | .call=>2
 | .item o=>wt o+2
 | .row _ _ o=>wt o+3
 | .perh _ _=>6
 | .bodyO _=>9
 | .val=>2
 | .segm=>4
 | .pair=>7
 | .patC=>25
 | .funC=>20
 | .tstC=>31
 | .last _=>5
 | .patt=>6
 | .alts=>12
 | .cond=>8
 | .body=>13
 | _=>1
def okS:Stp->Prop
 | .item o=>okS o/\wt o<=98
 | .row _ _ o=>okS o/\wt o<=100
 | .more _ _ o=>okS o/\wt o<=100
 | .box _ _ o=>okS o/\wt o<=90
 | .want k _=>k≠0
 | .tail _ k _=>k≠0
 | .join _ op _=>op.size<=1048576
 | .per2 op _=>op.length<=1048576
 | .perM _ ss=> ∀s∈ss,s.length<=1048576
 | .perh _ ss=> ∀s∈ss,s.length<=1048576
 | _=>True
theorem okW9(t:Bs):okS (.want 9 t):=by show(9:Int)≠0;decide
theorem okW8(t:Bs):okS (.want 8 t):=by show(8:Int)≠0;decide
theorem okT9(n:Nat)(t:Bs):okS (.tail n 9 t):=by show(9:Int)≠0;decide
theorem okT8(n:Nat):okS (qa9 n):=by show(8:Int)≠0;decide
def wtL:List Stp->Nat
 | []=>0
 | s::k=>wt s+wtL k
def pend:List Stp->Nat
 | .call::_=>0
 | .chgd::_=>0
 | .remo::_=>0
 | .box _ _ _::_=>0
 | _=>3
def pot(E:Env)(σ:PM):Nat:=wtL σ.k+1000*(E.to-σ.i)+pend σ.k
theorem wt_pos: ∀s,1<=wt s:=by
 intro s
 cases s<;>simp only[wt]<;>omega
theorem qnp: ∀k,k.length<=wtL k
 | []=>Nat.le_refl _
 | s::k=>by
  show k.length+1<=wt s+wtL k
  have:=wt_pos s
  have:=qnp k
  omega
theorem qcx(k:List Stp):pend k<=3:=by
 unfold pend;split<;>omega
section
variable{E:Env}{i j:Nat}
theorem qgr{k:Int}{s:Bs}(hk:k≠0){b:Bool}(h:sgE E k s i=.ok (b,j)):(b=true/\j=i+1/\i<E.to)\/(b=false/\j=i):=by
 cases b
 ·exact .inr ⟨rfl,(sg_no h).2⟩
 ·obtain⟨-,-,h1,-,h2⟩:=qtn hk h
  exact .inl ⟨rfl,h1,h2⟩
theorem qdu{k:Int}{s:Bs}(hk:k≠0)(h:msE E k s i=.ok j):j=i+1/\i<E.to:=by
 rcases qb9 E k s i hk with⟨h1,-,-,-,h2⟩ | ⟨h1,-⟩
 ·rw[h1]at h;cases h;exact⟨rfl,h2⟩
 ·rw[h1]at h;cases h
theorem qgu{f:Int->Bool}(h0:f 0=false){t:ByteArray}(h:txE E f i=.ok (t,j)):j=i+1/\i<E.to:=by
 rcases qcd E f i h0 with⟨h1,-,-,-,h2⟩ | ⟨h1,-⟩
 ·rw[h1]at h;cases h;exact⟨rfl,h2⟩
 ·rw[h1]at h;cases h
theorem nt_pl(hi:i<=E.to):i<=(ntE E i).2/\(ntE E i).2<=E.to:=by
 have:=qit E hi
 show i<=max i (E.pk i)/\max i (E.pk i)<=E.to
 omega
theorem ty_pl(E:Env): ∀(f i j:Nat),tyL E f i=.ok j->i<j/\j<=E.to
 | 0,_,_,h=>by cases h
 | f+1,i,j,h=>by
  have e0:tyL E (f+1) i=(txE E (· ==1) i >>= fun r=>sgE E 9 [45] r.2 >>= fun q=>if q.1=true then tyL E f q.2 else .ok q.2):=rfl
  rw[e0]at h
  rcases ht:txE E (· ==1) i with e | ⟨t,i1⟩
  ·rw[ht]at h;cases h
  ·rw[ht]at h
   obtain⟨rfl,h1⟩:=qgu (by decide) ht
   have h:(sgE E 9 [45] (i+1) >>= fun q=>if q.1=true then tyL E f q.2 else .ok q.2)=.ok j:=h
   rcases hs:sgE E 9 [45] (i+1)with e | ⟨b,i2⟩
   ·rw[hs]at h;cases h
   ·rw[hs]at h
    have h:(if b=true then tyL E f i2 else .ok i2)=.ok j:=h
    rcases qgr (by decide) hs with⟨rfl,rfl,h2⟩ | ⟨rfl,rfl⟩
    ·rw[if_pos rfl]at h
     have:=ty_pl E f _ _ h
     omega
    ·rw[if_neg (by decide)]at h
     cases h;omega
theorem qw4(hk:(nxE E i).1=9\/(nxE E i).1=8)(h:tkE E i=.ok j):j=i+1/\i<E.to:=by
 rcases qsp (E:=E) (i:=i) hk with⟨h1,-,h2,-⟩ | ⟨h1,-⟩
 ·rw[h1]at h;cases h;exact⟨rfl,h2⟩
 ·rw[h1]at h;cases h
theorem ct_pl(lv:Int): ∀(f i k:Nat) (r:Nat×Nat),ctL E lv f i k=.ok r->i<=E.to->i<=r.2/\r.2<=E.to/\r.1<=k+f
 | 0,_,_,_,h,_=>by cases h
 | f+1,i,k,r,h,hi=>by
  have e0:ctL E lv (f+1) i k=(if(decide (lv<=0)&&E.word (pz i) [99,97,116,99,104])=true then tkE E i >>= fun j=>ctL E lv f j (k+1)else .ok (k,i)):=rfl
  rw[e0]at h
  by_cases hc:(decide (lv<=0)&&E.word (pz i) [99,97,116,99,104])=true
  ·rw[if_pos hc]at h
   have hw:E.word (pz i) [99,97,116,99,104]=true:=by
    simp only[Bool.and_eq_true]at hc;exact hc.2
   rcases ht:tkE E i with e | j
   ·rw[ht]at h;cases h
   ·rw[ht]at h
    obtain⟨rfl,h2⟩:=qw4 (.inr (qf5 hw).1) ht
    have h:ctL E lv f (i+1) (k+1)=.ok r:=h
    have:=ct_pl lv f (i+1) (k+1) r h (by omega)
    omega
  ·rw[if_neg hc]at h
   cases h;exact⟨Nat.le_refl _,hi,by show k<=_;omega⟩
theorem opE_pf(h:0<pf (opE E i).toList):(nxE E i).1=9\/(nxE E i).1=8:=by
 unfold opE at h
 by_cases e:(nxE E i).1=9\/(nxE E i).1=8
 ·exact e
 ·rw[if_neg e,qhg,qod]at h;omega
theorem opE_bn(h: ¬(bn (opE E i).toList:Int)<1):(nxE E i).1=9\/(nxE E i).1=8:=by
 unfold opE at h
 by_cases e:(nxE E i).1=9\/(nxE E i).1=8
 ·exact e
 ·rw[if_neg e,qhg,qt0]at h;omega
theorem qtf(hz: ∀k,(E.tk k).2.1.size<=1048576)(i:Nat):(opE E i).size<=1048576:=by
 unfold opE nxE Env.at_
 split
 ·split
  ·exact hz _
  ·decide
 ·decide
theorem pf_pl(hz: ∀k,(E.tk k).2.1.size<=1048576): ∀(f i:Nat) (a:List ByteArray) (r:List ByteArray×Nat),pfL E f i a=.ok r->i<=E.to->(∀X∈a,X.size<=1048576)->i<=r.2/\r.2<=E.to/\r.1.length<=a.length+f/\ ∀X∈r.1,X.size<=1048576
 | 0,_,_,_,h,_,_=>by cases h
 | f+1,i,a,r,h,hi,ha=>by
  have e0:pfL E (f+1) i a=(if 0<pf (opE E i).toList then tkE E i >>= fun j=>pfL E f j (a++[opE E i])else .ok (a,i)):=rfl
  rw[e0]at h
  by_cases hc:0<pf (opE E i).toList
  ·rw[if_pos hc]at h
   rcases ht:tkE E i with e | j
   ·rw[ht]at h;cases h
   ·rw[ht]at h
    obtain⟨rfl,h2⟩:=qw4 (opE_pf hc) ht
    have h:pfL E f (i+1) (a++[opE E i])=.ok r:=h
    obtain⟨h3,h4,h5,h6⟩:=pf_pl hz f (i+1) (a++[opE E i]) r h (by omega) (fun X hX=>by
     rcases List.mem_append.1 hX with hX | hX
     ·exact ha X hX
     ·simp only[List.mem_cons,List.not_mem_nil,or_false]at hX
      rw[hX];exact qtf hz i)
    rw[List.length_append]at h5
    exact⟨by omega,h4,by simp only[List.length_cons,List.length_nil]at h5;omega,h6⟩
  ·rw[if_neg hc]at h
   cases h;exact⟨Nat.le_refl _,hi,by show a.length<=_;omega,ha⟩
end
def NB(b:Nat)(N:List (Option Nd)):Prop:= ∀(n:Nat) (x:Nd),N[n]?=some (some x)->x.ls.length<=b
def CB(E:Env)(C:List Chn):Prop:= ∀(c:Nat) (x:Chn),C[c]?=some x->x.ct<=E.to+2/\x.ah.length<=E.to+2/\ ∀X∈x.ah,X.size<=1048576
structure Bd (E:Env) (B:Nat) (σ:PM):Prop where
 ok: ∀s∈σ.k,okS s
 i:σ.i<=E.to
 N:NB B σ.N
 C:CB E σ.C
section
variable{E:Env}{B b i:Nat}{N:List (Option Nd)}{C:List Chn}{K:List Stp}{u:Option Nat}{τ:PM}{x:Nd}
theorem NB.mono(h:NB b N)(hb:b<=B):NB B N:=fun n x hx=>Nat.le_trans (h n x hx) hb
theorem NB.app(h:NB b N)(hx:x.ls.length<=b):NB b (N++[some x]):=fun n y hy=>by
 by_cases hn:n<N.length
 ·rw[List.getElem?_append_left hn]at hy;exact h n y hy
 ·rw[List.getElem?_append_right (by omega)]at hy
  match hm:n-N.length,hy with
  | 0,hy=>simp only[List.getElem?_cons_zero,Option.some.injEq]at hy;rw[<-hy];exact hx
  | m+1,hy=>simp at hy
theorem NB.set(h:NB b N)(hx:x.ls.length<=b)(n:Nat):NB b (N.set n (some x)):=fun m y hy=>by
 by_cases e:n=m
 ·subst e
  by_cases hn:n<N.length
  ·rw[List.getElem?_set_self hn]at hy
   simp only[Option.some.injEq]at hy;rw[<-hy];exact hx
  ·rw[List.getElem?_eq_none (by rw[List.length_set];omega)]at hy;cases hy
 ·rw[List.getElem?_set_ne e]at hy;exact h m y hy
theorem NB.none(h:NB b N)(n:Nat):NB b (N.set n none):=fun m y hy=>by
 by_cases e:n=m
 ·subst e
  by_cases hn:n<N.length
  ·rw[List.getElem?_set_self hn]at hy;cases hy
  ·rw[List.getElem?_eq_none (by rw[List.length_set];omega)]at hy;cases hy
 ·rw[List.getElem?_set_ne e]at hy;exact h m y hy
theorem CB.set(h:CB E C){c:Nat}{y z:Chn}(hy:C[c]?=some y)(h1:z.ct=y.ct)(h2:z.ah=y.ah):CB E (C.set c z):=fun m w hw=>by
 by_cases e:c=m
 ·subst e
  rw[List.getElem?_set_self (qad hy)]at hw
  simp only[Option.some.injEq]at hw
  rw[<-hw,h1,h2];exact h c y hy
 ·rw[List.getElem?_set_ne e]at hw;exact h m w hw
theorem CB.app(h:CB E C){z:Chn}(hz:z.ct<=E.to+2/\z.ah.length<=E.to+2/\ ∀X∈z.ah,X.size<=1048576):CB E (C++[z]):=fun n y hy=>by
 by_cases hn:n<C.length
 ·rw[List.getElem?_append_left hn]at hy;exact h n y hy
 ·rw[List.getElem?_append_right (by omega)]at hy
  match hm:n-C.length,hy with
  | 0,hy=>simp only[List.getElem?_cons_zero,Option.some.injEq]at hy;rw[<-hy];exact hz
  | m+1,hy=>simp at hy
theorem qa7{α β:Type}{r:Rs α}{f:α->Rs β}{y:β}(h:(r >>= f)=.ok y): ∃x,r=.ok x/\f x=.ok y:=by
 cases r with
 | error e=>cases h
 | ok x=>exact⟨x,rfl,h⟩
theorem qjp{σ:PM}{n:Nat}(h:σ.nd n=.ok x):σ.N[n]?=some (some x):=by
 unfold PM.nd at h
 split at h
 ·rename_i y hy;rw[hy,Except.ok.inj h]
 ·cases h
theorem qt4{σ:PM}{j:Nat}(h:σ.cur=.ok (j,x)):σ.n=some j/\σ.N[j]?=some (some x):=by
 unfold PM.cur at h
 split at h
 ·rename_i k hk
  cases hd:σ.nd k with
  | error e=>rw[hd]at h;cases h
  | ok y=>
   rw[hd]at h
   have h2:(k,y)=(j,x):=Except.ok.inj h
   cases h2
   exact⟨hk,qjp hd⟩
 ·cases h
theorem ch_in{σ:PM}{c:Nat}{y:Chn}(h:σ.ch c=.ok y):σ.C[c]?=some y:=by
 unfold PM.ch at h
 split at h
 ·rename_i z hz;rw[hz,Except.ok.inj h]
 ·cases h
def base(E:Env)(i:Nat)(K:List Stp):Nat:=wtL K+1000*(E.to-i)
def Nxt(E:Env)(B P:Nat)(τ:PM):Prop:=Bd E (B+1) τ/\pot E τ<=P
theorem qah{j:Nat}{k:List Stp}{v:Option Nat}{M:List (Option Nd)}{D:List Chn}{P:Nat}(h1: ∀s∈k,okS s)(h2:j<=E.to)(h3:NB (B+1) M)(h4:CB E D)(h5:wtL k+1000*(E.to-j)+pend k<=P):Nxt E B P ⟨j,k,v,M,D⟩:=⟨⟨h1,h2,h3,h4⟩,h5⟩
theorem qa5{P:Stp->Prop}{s:Stp}{k:List Stp}(h1:P s)(h2: ∀x∈k,P x): ∀x∈s::k,P x:=fun x hx=>by
 rcases List.mem_cons.1 hx with rfl | hx
 ·exact h1
 ·exact h2 x hx
theorem qkd{b:Nat}: ∀(T:List ByteArray) (n:Nat) (σ:PM) (r:Nat×PM),undL T n σ=.ok r->1<=b->NB b σ.N->NB b r.2.N/\r.2.i=σ.i/\r.2.k=σ.k/\r.2.C=σ.C
 | [],n,σ,r,h,_,hN=>by cases h;exact⟨hN,rfl,rfl,rfl⟩
 | a::T,n,σ,r,h,hb,hN=>by
  have h:(σ.nd n >>= fun x=>undL T σ.N.length ((σ.mv n).new (nkt 13 a [x])))=.ok r:=h
  obtain⟨x,h1,h2⟩:=qa7 h
  obtain⟨q1,q2,q3,q4⟩:=qkd T _ _ r h2 hb (show NB b ((σ.N.set n none)++[some (nkt 13 a [x])])from(hN.none n).app (by show 1<=b;exact hb))
  exact⟨q1,q2,q3,q4⟩
variable(hB:2<=B)(hK: ∀s∈K,okS s)(hi:i<=E.to)(hN:NB B N)(hC:CB E C)(hz: ∀k,(E.tk k).2.1.size<=1048576)
include hK hi hN hC
theorem qta(h:litE E ⟨i,K,u,N,C⟩=.ok τ):Nxt E B (base E i K) τ:=by
 have _u1:=hK
 have _u2:=hi
 have _u3:=hN
 have _u4:=hC
 have h:(txE E ltk i >>= fun r=>.ok (((⟨i,K,u,N,C⟩:PM).at_ r.2).got (nkt 1 r.1 [])))=.ok τ:=h
 obtain⟨⟨t,j⟩,h1,h2⟩:=qa7 h
 obtain⟨rfl,h3⟩:=qgu (by decide) h1
 cases h2
 have:=qcx K
 exact qah hK (by show i+1<=E.to;omega) ((hN.mono (zA _)).app (Nat.zero_le _)) hC (by unfold base;show wtL K+1000*(E.to- (i+1))+pend K<=_;omega)
theorem qgj(h:qbc E ⟨i,K,u,N,C⟩=.ok τ):Nxt E B (base E i K) τ:=by
 have _u1:=hK
 have _u2:=hi
 have _u3:=hN
 have _u4:=hC
 have h:(msE E 9 [40] i >>= fun j=>.ok (((⟨i,K,u,N,C⟩:PM).at_ j).plan [.expr 0,.want 9 [41]]))=.ok τ:=h
 obtain⟨j,h1,h2⟩:=qa7 h
 obtain⟨rfl,h3⟩:=qdu (by decide) h1
 cases h2
 exact qah (qa5 (by first | trivial | exact okW9 _ | exact okW8 _ | exact okT9 _ _ | exact okT8 _) (qa5 (by first | trivial | exact okW9 _ | exact okW8 _ | exact okT9 _ _ | exact okT8 _) hK)) (by show i+1<=E.to;omega) (hN.mono (zA _)) hC (by unfold base;show 4+(1+wtL K)+1000*(E.to- (i+1))+3<=_;omega)
theorem qk5{n:Nat}{k:Int}{t:Bs}(hk:k≠0)(h:qcm E n k t ⟨i,K,u,N,C⟩=.ok τ):Nxt E B (base E i K) τ:=by
 have _u1:=hK
 have _u2:=hi
 have _u3:=hN
 have _u4:=hC
 have h:((⟨i,K,u,N,C⟩:PM).nd n >>= fun x=>msE E k t (ntE E i).2 >>= fun j=>.ok ((((⟨i,K,u,N,C⟩:PM).set n (x.tail' (ntE E i).1)).at_ j).is n))=.ok τ:=h
 obtain⟨x,h0,h⟩:=qa7 h
 obtain⟨j,h1,h2⟩:=qa7 h
 obtain⟨rfl,h3⟩:=qdu hk h1
 obtain⟨h4,h5⟩:=nt_pl (E:=E) (i:=i) hi
 cases h2
 have:=qcx K
 refine qah hK (by show(ntE E i).2+1<=E.to;omega) ((hN.mono (zA _)).set ?_ n) hC (by unfold base;show wtL K+1000*(E.to- ((ntE E i).2+1))+pend K<=_;omega)
 have:=hN n x (qjp h0)
 cases x
 exact Nat.le_succ_of_le this
theorem quy(h:qec E ⟨i,K,u,N,C⟩=.ok τ):Nxt E B (base E i K) τ:=by
 have _u1:=hK
 have _u2:=hi
 have _u3:=hN
 have _u4:=hC
 have h:(msE E 9 [91] i >>= fun j=>if E.sign (pz j) [93]=true then qcm E N.length 9 [93] ⟨j,K,u,N++[some ((nk 5 []).brk' (brE E j))],C⟩else .ok ⟨j,.row N.length [44] (.item (.expr 3)):: .listK N.length::K,u,N++[some ((nk 5 []).brk' (brE E j))],C⟩)=.ok τ:=h
 obtain⟨j,h1,h2⟩:=qa7 h
 obtain⟨rfl,h3⟩:=qdu (by decide) h1
 have hN2:NB B (N++[some ((nk 5 []).brk' (brE E (i+1)))]):=hN.app (Nat.zero_le _)
 split at h2
 ·obtain⟨q1,q2⟩:=qk5 hK (show i+1<=E.to by omega) hN2 hC (by decide) h2
  refine⟨q1,Nat.le_trans q2 ?_⟩
  unfold base;omega
 ·cases h2
  exact qah (qa5 ⟨⟨trivial,by decide⟩,by decide⟩ (qa5 (by first | trivial | exact okW9 _ | exact okW8 _ | exact okT9 _ _ | exact okT8 _) hK)) (by show i+1<=E.to;omega) (hN2.mono (zA _)) hC (by unfold base;show(4+2+3)+(1+wtL K)+1000*(E.to- (i+1))+3<=_;omega)
theorem qv0(h:qen E ⟨i,K,u,N,C⟩=.ok τ):Nxt E B (base E i K) τ:=by
 have _u1:=hK
 have _u2:=hi
 have _u3:=hN
 have _u4:=hC
 have h:(msE E 9 [35] i >>= fun j=>if E.sign (pz j) [123]=true then .ok ⟨j,.box N.length [123] .pair::K,u,N++[some (nk 8 [])],C⟩else(txE E nmk j >>= fun r=>.ok ⟨r.2,.box N.length [123] (.expr 0)::K,u,N++[some (nkt 10 r.1 [])],C⟩))=.ok τ:=h
 obtain⟨j,h1,h2⟩:=qa7 h
 obtain⟨rfl,h3⟩:=qdu (by decide) h1
 split at h2
 ·cases h2
  exact qah (qa5 ⟨trivial,by decide⟩ hK) (by show i+1<=E.to;omega) ((hN.mono (zA _)).app (Nat.zero_le _)) hC (by unfold base;show 1+wtL K+1000*(E.to- (i+1))+0<=_;omega)
 ·obtain⟨⟨t,j⟩,h4,h5⟩:=qa7 h2
  obtain⟨rfl,h6⟩:=qgu (by decide) h4
  cases h5
  exact qah (qa5 ⟨trivial,by decide⟩ hK) (by show i+1+1<=E.to;omega) ((hN.mono (zA _)).app (Nat.zero_le _)) hC (by unfold base;show 1+wtL K+1000*(E.to- (i+1+1))+0<=_;omega)
theorem fun_bd(h:funE E ⟨i,K,u,N,C⟩=.ok τ):Nxt E B (base E i K) τ:=by
 have _u1:=hK
 have _u2:=hi
 have _u3:=hN
 have _u4:=hC
 have e0:funE E ⟨i,K,u,N,C⟩=(msE E 8 [102,117,110] i >>= fun j=>if E.sign (pz j) [40]=true then(if E.pk j=j then .ok ⟨j,.row N.length [59] (.item .funC)::qa9 N.length::K,u,N++[some (nk 17 [])],C⟩else .error .die)else(txE E nmk j >>= fun r=>sgE E 9 [58] r.2 >>= fun c=>(if c.1=true then(txE E nmk c.2).map (·.2)else .ok c.2) >>= fun d=>msE E 9 [47] d >>= fun e=>txE E szk e >>= fun a=>.ok ((⟨a.2,K,u,N,C⟩:PM).got (nkt 16 (scE E (a.2-j) j) [])))):=by
  unfold funE
  congr 1
  funext j
  split
  ·rfl
  ·congr 1
   funext r
   congr 1
   funext c
   split<;>rfl
 rw[e0]at h
 obtain⟨j,h1,h2⟩:=qa7 h
 obtain⟨rfl,h3⟩:=qdu (by decide) h1
 split at h2
 ·split at h2
  ·cases h2
   exact qah (qa5 ⟨⟨trivial,by decide⟩,by decide⟩ (qa5 (by first | trivial | exact okW9 _ | exact okW8 _ | exact okT9 _ _ | exact okT8 _) hK)) (by show i+1<=E.to;omega) ((hN.mono (zA _)).app (Nat.zero_le _)) hC (by unfold base;show(20+2+3)+(1+wtL K)+1000*(E.to- (i+1))+3<=_;omega)
  ·cases h2
 ·obtain⟨⟨t,j1⟩,a1,h2⟩:=qa7 h2
  obtain⟨rfl,a2⟩:=qgu (by decide) a1
  obtain⟨⟨bb,j2⟩,a3,h2⟩:=qa7 h2
  have a4:i+1+1<=j2/\j2<=E.to:=by
   rcases qgr (by decide) a3 with⟨-,e,e2⟩ | ⟨-,e⟩
   ·have e:j2=i+1+1+1:=e
    have e2:i+1+1<E.to:=e2
    omega
   ·have e:j2=i+1+1:=e
    omega
  obtain⟨d,a5,h2⟩:=qa7 h2
  have a6:i+1+1<=d/\d<=E.to:=by
   split at a5
   ·cases ht:txE E nmk j2 with
    | error e=>rw[show(bb,j2).2=j2 from rfl,ht]at a5;cases a5
    | ok p=>
     rw[show(bb,j2).2=j2 from rfl,ht]at a5
     obtain⟨t2,j3⟩:=p
     obtain⟨rfl,e2⟩:=qgu (by decide) ht
     have a5:(.ok (j2+1):Rs Nat)=.ok d:=a5
     cases a5;omega
   ·have a5:(.ok j2:Rs Nat)=.ok d:=a5
    cases a5;exact a4
  obtain⟨e1,a7,h2⟩:=qa7 h2
  obtain⟨rfl,a8⟩:=qdu (by decide) a7
  obtain⟨⟨t3,j4⟩,a9,h2⟩:=qa7 h2
  obtain⟨rfl,a10⟩:=qgu (by decide) a9
  cases h2
  have:=qcx K
  exact qah hK (by show d+1+1<=E.to;omega) ((hN.mono (zA _)).app (Nat.zero_le _)) hC (by unfold base;show wtL K+1000*(E.to- (d+1+1))+pend K<=_;omega)
end
end Go.Proofs.YtdhadeeajgoedaaGreat
