import Derived.Test.YtdhadeeajgoedaaGreatL13
import Derived.Test.YtdhadeeajgoedaaGreatL19
set_option maxRecDepth 100000
set_option maxHeartbeats 4000000
set_option linter.all false
open Bool renaming and_eq_true→zA,false_ne_true→zB,or_eq_true→zC
open List renaming mem_cons_of_mem→zD,mem_cons_self→zE
open Nat renaming le_refl→zF,le_succ→zG,le_succ_of_le→zH,le_trans→zI,lt_of_le_of_lt→zJ,lt_of_lt_of_le→zK,zero_le→zL
open Option renaming bind_some→zM
namespace Go.Proofs.YtdhadeeajgoedaaGreat
open Go.RowKit Go.PlainAid
section
variable{E:Env}{B b i:Nat}{N:List (Option Nd)}{C:List Chn}{K:List Stp}{u:Option Nat}{τ:PM}{x:Nd}
variable(hB:2<=B)(hK: ∀s∈K,okS s)(hi:i<=E.to)(hN:NB B N)(hC:CB E C)(hz: ∀k,(E.tk k).2.1.size<=1048576)
include hB hK hi hN hC hz
theorem qzj(h:qbm E ⟨i,K,u,N,C⟩=.ok τ):Nxt E B (base E i K+1) τ:=by
 have _u1:=hK
 have _u2:=hi
 have _u3:=hN
 have _u4:=hC
 have _u5:=hB
 have _u6:=hz
 have hup: ∀ {P},Nxt E B P τ->P<=base E i K+1->Nxt E B (base E i K+1) τ:=fun h hp=>⟨h.1,zI h.2 hp⟩
 unfold qbm at h
 simp only at h
 split at h
 ·split at h
  ·exact hup (qh7 hK hi hN hC h) (zG _)
  ·split at h
   ·cases h
    exact qah (qa5 ⟨trivial,by decide⟩ hK) hi ((hN.mono (zG _)).app (zL _)) hC (by unfold base;show 1+wtL K+1000*(E.to-i)+0<=_;omega)
   ·split at h
    ·exact hup (qyr hK hi hN hC h) (zG _)
    ·split at h
     ·cases h
      exact qah (qa5 ⟨trivial,by decide⟩ hK) hi ((hN.mono (zG _)).app (zL _)) hC (by unfold base;show 1+wtL K+1000*(E.to-i)+0<=_;omega)
     ·split at h
      ·exact hup (qz1 hK hi hN hC h) (zG _)
      ·cases h
 ·split at h
  ·split at h
   ·exact hup (fun_bd hK hi hN hC h) (zG _)
   ·split at h
    ·have h:(msE E 8 [99,97,115,101] i >>= fun j=>.ok ⟨j,.expr 0:: .into N.length:: .want 8 [111,102]:: .row N.length [59] (.item .patC)::qa8 N.length::K,u,N++[some (nk 18 [])],C⟩)=.ok τ:=h
     obtain⟨j,h1,h2⟩:=qa7 h
     obtain⟨rfl,h3⟩:=qe6 (by decide) h1
     cases h2
     exact qah (qa5 (by first | trivial | exact qc0 _ | exact qbz _ | exact qby _ _ | exact qbx _) (qa5 (by first | trivial | exact qc0 _ | exact qbz _ | exact qby _ _ | exact qbx _) (qa5 (by first | trivial | exact qc0 _ | exact qbz _ | exact qby _ _ | exact qbx _) (qa5 ⟨⟨trivial,by decide⟩,by decide⟩ (qa5 (by first | trivial | exact qc0 _ | exact qbz _ | exact qby _ _ | exact qbx _) hK))))) h3 ((hN.mono (zG _)).app (zL _)) hC (by unfold base;show 4+(1+(1+((25+2+3)+(1+wtL K))))+1000*(E.to- (i+1))+3<=_;omega)
    ·split at h
     ·have h:(msE E 8 [105,102] i >>= fun j=>.ok ⟨j,.row N.length [59] (.item .tstC)::qa8 N.length::K,u,N++[some (nk 19 [])],C⟩)=.ok τ:=h
      obtain⟨j,h1,h2⟩:=qa7 h
      obtain⟨rfl,h3⟩:=qe6 (by decide) h1
      cases h2
      exact qah (qa5 ⟨⟨trivial,by decide⟩,by decide⟩ (qa5 (by first | trivial | exact qc0 _ | exact qbz _ | exact qby _ _ | exact qbx _) hK)) h3 ((hN.mono (zG _)).app (zL _)) hC (by unfold base;show(31+2+3)+(1+wtL K)+1000*(E.to- (i+1))+3<=_;omega)
     ·split at h
      ·have h:(msE E 8 [114,101,99,101,105,118,101] i >>= fun j=>if E.word (pz j) [97,102,116,101,114]=true then .ok ⟨j,.last N.length::qa8 N.length::K,u,N++[some (nk 20 [])],C⟩else .ok ⟨j,.row N.length [59] (.item .patC):: .last N.length::qa8 N.length::K,u,N++[some (nk 20 [])],C⟩)=.ok τ:=h
       obtain⟨j,h1,h2⟩:=qa7 h
       obtain⟨rfl,h3⟩:=qe6 (by decide) h1
       split at h2
       ·cases h2
        exact qah (qa5 (by first | trivial | exact qc0 _ | exact qbz _ | exact qby _ _ | exact qbx _) (qa5 (by first | trivial | exact qc0 _ | exact qbz _ | exact qby _ _ | exact qbx _) hK)) h3 ((hN.mono (zG _)).app (zL _)) hC (by unfold base;show 5+(1+wtL K)+1000*(E.to- (i+1))+3<=_;omega)
       ·cases h2
        exact qah (qa5 ⟨⟨trivial,by decide⟩,by decide⟩ (qa5 (by first | trivial | exact qc0 _ | exact qbz _ | exact qby _ _ | exact qbx _) (qa5 (by first | trivial | exact qc0 _ | exact qbz _ | exact qby _ _ | exact qbx _) hK))) h3 ((hN.mono (zG _)).app (zL _)) hC (by unfold base;show(25+2+3)+(5+(1+wtL K))+1000*(E.to- (i+1))+3<=_;omega)
      ·split at h
       ·have h:(msE E 8 [98,101,103,105,110] i >>= fun j=>.ok ⟨j,.body:: .into N.length::qa8 N.length::K,u,N++[some (nk 21 [])],C⟩)=.ok τ:=h
        obtain⟨j,h1,h2⟩:=qa7 h
        obtain⟨rfl,h3⟩:=qe6 (by decide) h1
        cases h2
        exact qah (qa5 (by first | trivial | exact qc0 _ | exact qbz _ | exact qby _ _ | exact qbx _) (qa5 (by first | trivial | exact qc0 _ | exact qbz _ | exact qby _ _ | exact qbx _) (qa5 (by first | trivial | exact qc0 _ | exact qbz _ | exact qby _ _ | exact qbx _) hK))) h3 ((hN.mono (zG _)).app (zL _)) hC (by unfold base;show 13+(1+(1+wtL K))+1000*(E.to- (i+1))+3<=_;omega)
       ·cases h
  ·exact hup (qwr hK hi hN hC h) (zG _)
theorem qju{c:Nat}(h:qbr E c ⟨i,K,u,N,C⟩=.ok τ):Nxt E B (base E i K+3) τ:=by
 have _u1:=hK
 have _u2:=hi
 have _u3:=hN
 have _u4:=hC
 have _u5:=hB
 have _u6:=hz
 have h:((⟨i,K,u,N,C⟩:PM).ch c >>= fun h=>(match h.lf with
  | none=>.error .stuck
  | some l=>if(bn (opE E i).toList:Int)<max h.lv 1\/h.hs< (lf (opE E i).toList:Int)then(qfu (List.replicate h.ct ⟨#[99,97,116,99,104]⟩) l ⟨i,K,u,N,C⟩ >>= fun r=>.ok (r.2.is r.1))else(tkE E i >>= fun j=>.ok ⟨j,.expr (rt (opE E i).toList:Int):: .join c (opE E i) (bn (opE E i).toList)::K,u,N,C⟩):Rs PM))=.ok τ:=h
 obtain⟨ch,h1,h2⟩:=qa7 h
 split at h2
 ·cases h2
 ·split at h2
  ·obtain⟨r,h3,h4⟩:=qa7 h2
   obtain⟨q1,q2,q3,q4⟩:=qm1 (b:=B) _ _ _ _ h3 (by omega) hN
   cases h4
   have q2:r.2.i=i:=q2
   have q3:r.2.k=K:=q3
   have q4:r.2.C=C:=q4
   have:=qd9 K
   refine⟨⟨?_,?_,NB.mono q1 (zG _),?_⟩,?_⟩
   ·show∀s∈r.2.k,okS s
    rw[q3];exact hK
   ·show r.2.i<=E.to
    rw[q2];exact hi
   ·show CB E r.2.C
    rw[q4];exact hC
   ·show wtL r.2.k+1000*(E.to-r.2.i)+qf3 r.2.k<=_
    rw[q3,q2];unfold base;omega
  ·rename_i hc
   obtain⟨j,h3,h4⟩:=qa7 h2
   obtain⟨rfl,h5⟩:=tk_pl (opE_bn (fun e=>hc (.inl (by
    have:(1:Int)<=max ch.lv 1:=Int.le_max_right _ _
    omega)))) h3
   cases h4
   exact qah (qa5 (by first | trivial | exact qc0 _ | exact qbz _ | exact qby _ _ | exact qbx _) (qa5 (qx0 hz i) hK)) h5 (hN.mono (zG _)) hC (by unfold base;show 4+(1+wtL K)+1000*(E.to- (i+1))+3<=_;omega)
theorem qng(h:qbp E ⟨i,K,u,N,C⟩=.ok τ):Nxt E B (base E i K) τ:=by
 have _u1:=hK
 have _u2:=hi
 have _u3:=hN
 have _u4:=hC
 have _u5:=hB
 have _u6:=hz
 have h:((⟨i,K,u,N,C⟩:PM).cur >>= fun x=>msE E 9 [35] i >>= fun q=>if E.sign (pz q) [123]=true then .ok ⟨q,.box (N.set x.1 none).length [123] .pair::K,u,N.set x.1 none++[some (nk 9 [x.2])],C⟩else(txE E nmk q >>= fun r=>sgE E 9 [46] r.2 >>= fun d=>if d.1=true then(txE E (· ==1) d.2 >>= fun a=>.ok ⟨a.2,K,some N.length,N.set x.1 none++[some (nkt 12 (scE E (a.2-q) q) [x.2])],C⟩)else .ok ⟨d.2,.box (N.set x.1 none).length [123] (.expr 0)::K,u,N.set x.1 none++[some (nkt 11 r.1 [x.2])],C⟩))=.ok τ:=h
 obtain⟨x,h0,h⟩:=qa7 h
 obtain⟨j,h1,h2⟩:=qa7 h
 obtain⟨rfl,h3⟩:=qe6 (by decide) h1
 have hN2:=(hN.none x.1).mono (zG B)
 split at h2
 ·cases h2
  exact qah (qa5 ⟨trivial,by decide⟩ hK) h3 (hN2.app (by show 1<=B+1;omega)) hC (by unfold base;show 1+wtL K+1000*(E.to- (i+1))+0<=_;omega)
 ·obtain⟨⟨t,j1⟩,a1,h2⟩:=qa7 h2
  obtain⟨rfl,a2⟩:=qhi (by decide) a1
  obtain⟨⟨bb,j2⟩,a3,h2⟩:=qa7 h2
  have a4:i+1+1<=j2/\j2<=E.to:=by
   rcases qhf (by decide) a3 with⟨-,e,e2⟩ | ⟨-,e⟩
   ·have e:j2=i+1+1+1:=e
    have e2:i+1+1<E.to:=e2
    omega
   ·have e:j2=i+1+1:=e
    omega
  split at h2
  ·obtain⟨⟨t3,j4⟩,a9,h2⟩:=qa7 h2
   obtain⟨e,a10⟩:=qhi (by decide) a9
   have e:j4=j2+1:=e
   have a10:j2<E.to:=a10
   subst e
   cases h2
   have:=qd9 K
   exact qah hK (by show j2+1<=E.to;omega) (hN2.app (by show 1<=B+1;omega)) hC (by unfold base;show wtL K+1000*(E.to- (j2+1))+qf3 K<=_;omega)
  ·cases h2
   exact qah (qa5 ⟨trivial,by decide⟩ hK) (by show j2<=E.to;omega) (hN2.app (by show 1<=B+1;omega)) hC (by unfold base;show 1+wtL K+1000*(E.to-j2)+0<=_;omega)
theorem qnw{lv:Int}{left:Nat}(ss:List Bs)(hs: ∀s∈ss,s.length<=1048576)(h:qct E lv left ss ⟨i,K,u,N,C⟩=.ok τ):Nxt E B (base E i K+3) τ:=by
 have _u1:=hK
 have _u2:=hi
 have _u3:=hN
 have _u4:=hC
 have _u5:=hB
 have _u6:=hz
 induction ss with
 | nil=>
  cases h
  have:=qd9 K
  exact qah hK hi (hN.mono (zG _)) hC (by unfold base;omega)
 | cons s r ih=>
  have h:(sgE E 9 s i >>= fun q=>if q.1=true then .ok ⟨q.2,.expr lv:: .per2 s left::K,u,N,C⟩else qct E lv left r ⟨i,K,u,N,C⟩)=.ok τ:=h
  obtain⟨⟨bb,j⟩,h1,h2⟩:=qa7 h
  rcases qhf (by decide) h1 with⟨rfl,rfl,h3⟩ | ⟨rfl,rfl⟩
  ·rw[if_pos rfl]at h2
   cases h2
   exact qah (qa5 (by first | trivial | exact qc0 _ | exact qbz _ | exact qby _ _ | exact qbx _) (qa5 (hs s (zE ..)) hK)) h3 (hN.mono (zG _)) hC (by unfold base;show 4+(1+wtL K)+1000*(E.to- (i+1))+3<=_;omega)
  ·rw[if_neg zB]at h2
   exact ih (fun x hx=>hs x (zD _ hx)) h2
end
theorem qvq(E:Env)(i:Nat)(u:Option Nat)(K:List Stp)(N:List (Option Nd))(C:List Chn):stp E .sized ⟨i,K,u,N,C⟩=(sgE E 9 [58] i >>= fun a=>(if a.1=true then(txE E szk a.2).map (·.2)else .ok a.2) >>= fun b=>sgE E 9 [47] b >>= fun c=>(if c.1=true then tyL E (E.to+2) c.2 else .ok c.2) >>= fun d=>if i<d then((⟨i,K,u,N,C⟩:PM).cur >>= fun x=>.ok ((((⟨i,K,u,N,C⟩:PM).mv x.1).at_ d).got (nkt 7 (scE E (d-i) i) [x.2])))else .ok ⟨i,K,u,N,C⟩):=by
 simp only[stp]
 congr 1
 funext a
 have hb: ∀b,(sgE E 9 [47] b >>= fun c=>if c.1=true then(tyL E (E.to+2) c.2 >>= fun d=>if i<d then((⟨i,K,u,N,C⟩:PM).cur >>= fun x=>.ok ((((⟨i,K,u,N,C⟩:PM).mv x.1).at_ d).got (nkt 7 (scE E (d-i) i) [x.2])))else .ok ⟨i,K,u,N,C⟩)else(if i<c.2 then((⟨i,K,u,N,C⟩:PM).cur >>= fun x=>.ok ((((⟨i,K,u,N,C⟩:PM).mv x.1).at_ c.2).got (nkt 7 (scE E (c.2-i) i) [x.2])))else .ok ⟨i,K,u,N,C⟩))=(sgE E 9 [47] b >>= fun c=>(if c.1=true then tyL E (E.to+2) c.2 else .ok c.2) >>= fun d=>if i<d then((⟨i,K,u,N,C⟩:PM).cur >>= fun x=>.ok ((((⟨i,K,u,N,C⟩:PM).mv x.1).at_ d).got (nkt 7 (scE E (d-i) i) [x.2])))else .ok ⟨i,K,u,N,C⟩):=fun b=>by
  congr 1
  funext c
  split<;>rfl
 split
 ·congr 1
  funext b
  exact hb b
 ·exact hb _
section
variable{E:Env}{B i:Nat}{N:List (Option Nd)}{C:List Chn}{K:List Stp}{u:Option Nat}{τ:PM}{s:Stp}
theorem qxb(hz: ∀k,(E.tk k).2.1.size<=1048576)(hB:2<=B)(hb:Bd E B ⟨i,s::K,u,N,C⟩)(h:stp E s ⟨i,K,u,N,C⟩=.ok τ):Bd E (B+1) τ/\pot E τ<pot E ⟨i,s::K,u,N,C⟩:=by
 have hK: ∀x∈K,okS x:=fun x hx=>hb.ok x (zD _ hx)
 have hs:okS s:=hb.ok s (zE ..)
 have hi:i<=E.to:=hb.i
 have hN:NB B N:=hb.N
 have hC:CB E C:=hb.C
 have hN1:=hN.mono (zG B)
 have hpK:=qd9 K
 have hp:pot E ⟨i,s::K,u,N,C⟩=wt s+wtL K+1000*(E.to-i)+qf3 (s::K):=rfl
 have hup: ∀ {P},Nxt E B P τ->P<wt s+wtL K+1000*(E.to-i)+qf3 (s::K)->Bd E (B+1) τ/\pot E τ<pot E ⟨i,s::K,u,N,C⟩:=fun h hp=>⟨h.1,zJ h.2 hp⟩
 cases s with
 | expr lv=>
  have h:(ctL E lv (E.to+2) i 0 >>= fun a=>pfL E (E.to+2) a.2 [] >>= fun b=>.ok ⟨b.2,.prim:: .folw C.length::K,u,N,C++[{ lv:=lv,ct:=a.1,ah:=b.1,st:=E.sign (pz b.2) [40],hs:=if b.1=[]then 11 else 10 }]⟩)=.ok τ:=h
  obtain⟨⟨q,i1⟩,h1,h⟩:=qa7 h
  obtain⟨⟨P,i2⟩,h2,h⟩:=qa7 h
  have h3:=ct_pl lv _ _ _ _ h1 hi
  have h4:=pf_pl hz _ _ _ _ h2 h3.2.1 (fun X hX=>by cases hX)
  simp only at h3 h4
  cases h
  refine hup (P:=3+wtL K+1000*(E.to-i2)+3) (qah (qa5 (by first | trivial | exact qc0 _ | exact qbz _ | exact qby _ _ | exact qbx _) (qa5 (by first | trivial | exact qc0 _ | exact qbz _ | exact qby _ _ | exact qbx _) hK)) h4.2.1 hN1 (hC.app ⟨by show q<=_;omega,by show P.length<=_;have:=h4.2.2.1;simp only[List.length_nil]at this;omega,h4.2.2.2⟩) (by show 2+(1+wtL K)+1000*(E.to-i2)+3<=_;omega)) ?_
  show _<4+wtL K+1000*(E.to-i)+3
  omega
 | prim=>exact hup (qzj hB hK hi hN hC hz h) (by unfold base;show _<2+wtL K+1000*(E.to-i)+3;omega)
 | folw c=>
  have h:((⟨i,K,u,N,C⟩:PM).ch c >>= fun h=>(⟨i,K,u,N,C⟩:PM).cur >>= fun x=>(match qav E h x.2 i with
   | some s=>.ok ⟨i,s:: .folw c::K,u,N,C.set c { h with st:=false }⟩
   | none=>qfu h.ah.reverse x.1 ⟨i,K,u,N,C⟩ >>= fun r=>qbr E c (r.2.setC c { h with lf:=some r.1 }):Rs PM))=.ok τ:=h
  obtain⟨ch,h1,h⟩:=qa7 h
  obtain⟨x,h2,h⟩:=qa7 h
  have hch:=ch_in h1
  split at h
  ·rename_i t ht
   cases h
   have hpd:okS t/\wt t<=2/\qf3 (t:: .folw c::K)=0:=by
    unfold qav at ht
    split at ht
    ·cases ht
    ·split at ht
     ·cases ht;exact⟨trivial,by decide,rfl⟩
     ·split at ht
      ·cases ht;exact⟨trivial,by decide,rfl⟩
      ·split at ht
       ·cases ht;exact⟨trivial,by decide,rfl⟩
       ·cases ht
   refine hup (P:=wt t+(1+wtL K)+1000*(E.to-i)+0) (qah (qa5 hpd.1 (qa5 (by first | trivial | exact qc0 _ | exact qbz _ | exact qby _ _ | exact qbx _) hK)) hi hN1 (hC.set hch rfl rfl) (by rw[hpd.2.2];exact zF _)) ?_
   show _<1+wtL K+1000*(E.to-i)+3
   omega
  ·obtain⟨r,h3,h4⟩:=qa7 h
   obtain⟨q1,q2,q3,q4⟩:=qm1 (b:=B) _ _ _ _ h3 (by omega) hN
   obtain⟨r1,σ1⟩:=r
   obtain⟨ri,rk,rn,rN,rC⟩:=σ1
   have q2:ri=i:=q2
   have q3:rk=K:=q3
   have q4:rC=C:=q4
   have h4:qbr E c ⟨ri,rk,rn,rN,rC.set c { ch with lf:=some r1 }⟩=.ok τ:=h4
   rw[q2,q3,q4]at h4
   exact hup (qju (c:=c) (u:=rn) (N:=rN) (C:=C.set c { ch with lf:=some r1 }) hB hK hi q1 (CB.set hC hch rfl rfl) hz h4) (by unfold base;show _<1+wtL K+1000*(E.to-i)+3;omega)
 | join c op own=>
  have h:((⟨i,K,u,N,C⟩:PM).ch c >>= fun h=>(⟨i,K,u,N,C⟩:PM).cur >>= fun x=>(match h.lf with
   | none=>.error .stuck
   | some l=>qm0 op l x.1 ⟨i,K,u,N,C⟩ >>= fun τ=>qbr E c (τ.setC c { h with lf:=some N.length,hs:=own }):Rs PM))=.ok τ:=h
  obtain⟨ch,h1,h⟩:=qa7 h
  obtain⟨x,h2,h⟩:=qa7 h
  have hch:=ch_in h1
  split at h
  ·cases h
  ·obtain⟨σ1,h3,h4⟩:=qa7 h
   rename_i l _
   have h3:((⟨i,K,u,N,C⟩:PM).nd l >>= fun a=>(⟨i,K,u,N,C⟩:PM).nd x.1 >>= fun b=>if l=x.1 then .error .stuck else .ok ⟨i,K,u,((N.set l none).set x.1 none)++[some (nkt 14 op [a,b])],C⟩)=.ok σ1:=h3
   obtain⟨a,_,h3⟩:=qa7 h3
   obtain⟨b,_,h3⟩:=qa7 h3
   split at h3
   ·cases h3
   ·cases h3
    exact hup (qju (c:=c) (u:=u) (N:=((N.set l none).set x.1 none)++[some (nkt 14 op [a,b])]) (C:=C.set c { ch with lf:=some N.length,hs:=own }) hB hK hi (((hN.none l).none x.1).app (by show 2<=B;exact hB)) (CB.set hC hch rfl rfl) hz h4) (by unfold base;show _<1+wtL K+1000*(E.to-i)+3;omega)
 | call=>
  have h:((⟨i,K,u,N,C⟩:PM).cur >>= fun x=>.ok ⟨i,.box (N.set x.1 none).length [40] (.expr 0)::K,u,N.set x.1 none++[some (nk 2 [x.2])],C⟩)=.ok τ:=h
  obtain⟨x,h2,h⟩:=qa7 h
  cases h
  exact hup (P:=1+wtL K+1000*(E.to-i)+0) (qah (qa5 ⟨trivial,by decide⟩ hK) hi ((hN1.none _).app (by show 1<=B+1;omega)) hC (zF _)) (by show _<2+wtL K+1000*(E.to-i)+0;omega)
 | chgd=>exact hup (qng hB hK hi hN hC hz h) (by unfold base;show _<1+wtL K+1000*(E.to-i)+0;omega)
 | remo=>
  have h:((⟨i,K,u,N,C⟩:PM).cur >>= fun x=>msE E 9 [58] i >>= fun j=>.ok ⟨j,.clld:: .into N.length::K,u,N.set x.1 none++[some (nk 3 [x.2])],C⟩)=.ok τ:=h
  obtain⟨x,h2,h⟩:=qa7 h
  obtain⟨j,h3,h⟩:=qa7 h
  obtain⟨rfl,h4⟩:=qe6 (by decide) h3
  cases h
  exact hup (P:=2+wtL K+1000*(E.to- (i+1))+3) (qah (qa5 (by first | trivial | exact qc0 _ | exact qbz _ | exact qby _ _ | exact qbx _) (qa5 (by first | trivial | exact qc0 _ | exact qbz _ | exact qby _ _ | exact qbx _) hK)) h4 ((hN1.none _).app (by show 1<=B+1;omega)) hC (by show 1+(1+wtL K)+1000*(E.to- (i+1))+3<=_;omega)) (by show _<1+wtL K+1000*(E.to-i)+0;omega)
 | clld=>
  have h:(if E.sign (pz i) [40]=true then qbg E ⟨i,K,u,N,C⟩else(txE E nmk i >>= fun r=>.ok (((⟨i,K,u,N,C⟩:PM).at_ r.2).got (nkt 1 r.1 []))))=.ok τ:=h
  split at h
  ·exact hup (qh7 hK hi hN hC h) (by unfold base;show _<1+wtL K+1000*(E.to-i)+3;omega)
  ·obtain⟨⟨t,j⟩,h1,h2⟩:=qa7 h
   obtain⟨rfl,h3⟩:=qhi (by decide) h1
   cases h2
   exact hup (P:=wtL K+1000*(E.to- (i+1))+3) (qah hK h3 (hN1.app (zL _)) hC (by show wtL K+1000*(E.to- (i+1))+qf3 K<=_;omega)) (by show _<1+wtL K+1000*(E.to-i)+3;omega)
 | into n=>
  have h:((⟨i,K,u,N,C⟩:PM).cur >>= fun x=>(⟨i,K,u,N,C⟩:PM).nd n >>= fun y=>if x.1=n then .error .stuck else .ok ⟨i,K,some n,(N.set x.1 none).set n (some (y.add [x.2])),C⟩)=.ok τ:=h
  obtain⟨x,h1,h⟩:=qa7 h
  obtain⟨y,h2,h⟩:=qa7 h
  split at h
  ·cases h
  ·cases h
   have h3:=hN n y (ql9 h2)
   exact hup (P:=wtL K+1000*(E.to-i)+3) (qah hK hi ((hN1.none _).set (by cases y;simp only[Nd.add,Nd.ls,List.length_append,List.length_cons,List.length_nil]at h3⊢;omega) n) hC (by show wtL K+1000*(E.to-i)+qf3 K<=_;omega)) (by show _<1+wtL K+1000*(E.to-i)+3;omega)
 | tail n k t=>exact hup (qlt hK hi hN hC hs h) (by unfold base;show _<1+wtL K+1000*(E.to-i)+3;omega)
 | item o=>
  cases h
  have h3:=nt_pl (E:=E) (i:=i) hi
  exact hup (P:=wt o+(1+wtL K)+1000*(E.to- (ntE E i).2)+3) (qah (qa5 hs.1 (qa5 (by first | trivial | exact qc0 _ | exact qbz _ | exact qby _ _ | exact qbx _) hK)) h3.2 hN1 hC (by have:=qd9 (o:: .nots (ntE E i).1::K);show wt o+(1+wtL K)+1000*(E.to- (ntE E i).2)+qf3 (o:: .nots (ntE E i).1::K)<=_;omega)) (by show _< (wt o+2)+wtL K+1000*(E.to-i)+3;omega)
 | nots T=>
  have h:((⟨i,K,u,N,C⟩:PM).cur >>= fun x=>.ok ⟨i,K,u,N.set x.1 (some (x.2.notes' T)),C⟩)=.ok τ:=h
  obtain⟨x,h1,h⟩:=qa7 h
  have h3:=hN x.1 x.2 (qwh h1).2
  cases h
  exact hup (P:=wtL K+1000*(E.to-i)+3) (qah hK hi (hN1.set (by obtain⟨j,y⟩:=x;cases y;exact zH h3) x.1) hC (by show wtL K+1000*(E.to-i)+qf3 K<=_;omega)) (by show _<1+wtL K+1000*(E.to-i)+3;omega)
 | row n t o=>
  cases h
  exact hup (P:=wt o+(1+(1+wtL K))+1000*(E.to-i)+3) (qah (qa5 hs.1 (qa5 (by first | trivial | exact qc0 _ | exact qbz _ | exact qby _ _ | exact qbx _) (qa5 hs hK))) hi hN1 hC (by have:=qd9 (o:: .into n:: .more n t o::K);show wt o+(1+(1+wtL K))+1000*(E.to-i)+qf3 (o:: .into n:: .more n t o::K)<=_;omega)) (by show _< (wt o+3)+wtL K+1000*(E.to-i)+3;omega)
 | more n t o=>
  have h:(sgE E 9 t i >>= fun q=>if q.1=true then .ok ⟨q.2,o:: .into n:: .more n t o::K,u,N,C⟩else .ok ⟨i,K,u,N,C⟩)=.ok τ:=h
  obtain⟨⟨bb,j⟩,h1,h2⟩:=qa7 h
  rcases qhf (by decide) h1 with⟨rfl,rfl,h3⟩ | ⟨rfl,rfl⟩
  ·rw[if_pos rfl]at h2
   cases h2
   have ho:wt o<=100:=hs.2
   exact hup (P:=wt o+(1+(1+wtL K))+1000*(E.to- (i+1))+3) (qah (qa5 hs.1 (qa5 (by first | trivial | exact qc0 _ | exact qbz _ | exact qby _ _ | exact qbx _) (qa5 hs hK))) h3 hN1 hC (by have:=qd9 (o:: .into n:: .more n t o::K);show wt o+(1+(1+wtL K))+1000*(E.to- (i+1))+qf3 (o:: .into n:: .more n t o::K)<=_;omega)) (by show _<1+wtL K+1000*(E.to-i)+3;omega)
  ·rw[if_neg zB]at h2
   cases h2
   exact hup (P:=wtL K+1000*(E.to-j)+3) (qah hK hi hN1 hC (by show wtL K+1000*(E.to-j)+qf3 K<=_;omega)) (by show _<1+wtL K+1000*(E.to-j)+3;omega)
 | want k t=>
  have h:(msE E k t i >>= fun j=>.ok ⟨j,K,u,N,C⟩)=.ok τ:=h
  obtain⟨j,h1,h2⟩:=qa7 h
  obtain⟨rfl,h3⟩:=qe6 hs h1
  cases h2
  exact hup (P:=wtL K+1000*(E.to- (i+1))+3) (qah hK h3 hN1 hC (by show wtL K+1000*(E.to- (i+1))+qf3 K<=_;omega)) (by show _<1+wtL K+1000*(E.to-i)+3;omega)
 | box n o one=>
  have h:((⟨i,K,u,N,C⟩:PM).nd n >>= fun x=>msE E 9 o i >>= fun j=>if E.sign (pz j) (qfc o)=true then .ok ⟨j,.tail n 9 (qfc o)::K,u,N.set n (some (x.brk' (brE E j))),C⟩else .ok ⟨j,.row n [44] (.item one):: .tail n 9 (qfc o)::K,u,N.set n (some (x.brk' (brE E j))),C⟩)=.ok τ:=h
  obtain⟨x,h1,h⟩:=qa7 h
  obtain⟨j,h2,h⟩:=qa7 h
  obtain⟨rfl,h3⟩:=qe6 (by decide) h2
  have h4:=hN n x (ql9 h1)
  have h5:(x.brk' (brE E (i+1))).ls.length<=B+1:=by cases x;exact zH h4
  have ho:wt one<=90:=hs.2
  have hw:wt (.row n [44] (.item one))=wt one+2+3:=rfl
  split at h
  ·cases h
   exact hup (P:=1+wtL K+1000*(E.to- (i+1))+3) (qah (qa5 (by first | trivial | exact qc0 _ | exact qbz _ | exact qby _ _ | exact qbx _) hK) h3 (hN1.set h5 n) hC (by show 1+wtL K+1000*(E.to- (i+1))+3<=_;omega)) (by show _<1+wtL K+1000*(E.to-i)+0;omega)
  ·cases h
   have hok:okS (.row n [44] (.item one)):=⟨⟨hs.1,by omega⟩,by show wt one+2<=100;omega⟩
   exact hup (P:=(wt one+2+3)+(1+wtL K)+1000*(E.to- (i+1))+3) (qah (qa5 hok (qa5 (by first | trivial | exact qc0 _ | exact qbz _ | exact qby _ _ | exact qbx _) hK)) h3 (hN1.set h5 n) hC (by show(wt one+2+3)+(1+wtL K)+1000*(E.to- (i+1))+3<=_;omega)) (by show _<1+wtL K+1000*(E.to-i)+0;omega)
 | listK n=>
  have h:((⟨i,K,u,N,C⟩:PM).nd n >>= fun x=>sgE E 9 [124,124] i >>= fun q=>if q.1=true then(match x with
   | .mk _ t [y] br bl no ta=>match y with
    | .mk _ _ _ _ _ [] _=>.ok ⟨q.2,.row n [44] (.perh 3 [[60,45],[60,61]]):: .want 9 [93]::K,u,N.set n (some (.mk 15 t [y] br bl no ta)),C⟩
    | _=>.error .die
   | _=>.error .die)
   else(sgE E 9 [124] i >>= fun r=>if r.1=true then .ok ⟨r.2,.expr 3:: .into n:: .tail n 9 [93]::K,u,N.set n (some (x.txt' ⟨#[124]⟩)),C⟩else qcw E n 9 [93] ⟨i,K,u,N,C⟩))=.ok τ:=h
  obtain⟨x,h1,h⟩:=qa7 h
  obtain⟨⟨bb,j⟩,h2,h⟩:=qa7 h
  have h4:=hN n x (ql9 h1)
  rcases qhf (by decide) h2 with⟨rfl,rfl,h3⟩ | ⟨rfl,rfl⟩
  ·rw[if_pos rfl]at h
   split at h
   ·split at h
    ·cases h
     refine hup (P:=(6+3)+(1+wtL K)+1000*(E.to- (i+1))+3) (qah (qa5 ⟨?_,by decide⟩ (qa5 (by first | trivial | exact qc0 _ | exact qbz _ | exact qby _ _ | exact qbx _) hK)) h3 (hN1.set (by show 1<=B+1;omega) n) hC (by show(6+3)+(1+wtL K)+1000*(E.to- (i+1))+3<=_;omega)) (by show _<1+wtL K+1000*(E.to-i)+3;omega)
     show∀s∈[[60,45],[60,61]],s.length<=1048576
     decide
    ·cases h
   ·cases h
  ·rw[if_neg zB]at h
   obtain⟨⟨bb,j1⟩,h5,h⟩:=qa7 h
   rcases qhf (by decide) h5 with⟨rfl,rfl,h3⟩ | ⟨rfl,rfl⟩
   ·rw[if_pos rfl]at h
    cases h
    exact hup (P:=4+(1+(1+wtL K))+1000*(E.to- (j+1))+3) (qah (qa5 (by first | trivial | exact qc0 _ | exact qbz _ | exact qby _ _ | exact qbx _) (qa5 (by first | trivial | exact qc0 _ | exact qbz _ | exact qby _ _ | exact qbx _) (qa5 (by first | trivial | exact qc0 _ | exact qbz _ | exact qby _ _ | exact qbx _) hK))) h3 (hN1.set (by cases x;exact zH h4) n) hC (by show 4+(1+(1+wtL K))+1000*(E.to- (j+1))+3<=_;omega)) (by show _<1+wtL K+1000*(E.to-j)+3;omega)
   ·rw[if_neg zB]at h
    exact hup (qlt hK hi hN hC (by decide) h) (by unfold base;show _<1+wtL K+1000*(E.to-j1)+3;omega)
 | perh lv ss=>
  cases h
  exact hup (P:=4+(1+wtL K)+1000*(E.to-i)+3) (qah (qa5 (by first | trivial | exact qc0 _ | exact qbz _ | exact qby _ _ | exact qbx _) (qa5 hs hK)) hi hN1 hC (by show 4+(1+wtL K)+1000*(E.to-i)+3<=_;omega)) (by show _<6+wtL K+1000*(E.to-i)+3;omega)
 | perM lv ss=>
  have h:(match u with
   | some j=>qct E lv j ss ⟨i,K,u,N,C⟩
   | none=>.error .stuck)=.ok τ:=h
  split at h
  ·exact hup (qnw hB hK hi hN hC hz ss hs h) (by unfold base;show _<1+wtL K+1000*(E.to-i)+3;omega)
  ·cases h
 | per2 op l=>
  have h:((⟨i,K,u,N,C⟩:PM).cur >>= fun x=>qm0 ⟨op.toArray⟩ l x.1 ⟨i,K,u,N,C⟩ >>= fun τ=>.ok (τ.is N.length))=.ok τ:=h
  obtain⟨x,h1,h⟩:=qa7 h
  obtain⟨σ1,h3,h4⟩:=qa7 h
  have h3:((⟨i,K,u,N,C⟩:PM).nd l >>= fun a=>(⟨i,K,u,N,C⟩:PM).nd x.1 >>= fun b=>if l=x.1 then .error .stuck else .ok ⟨i,K,u,((N.set l none).set x.1 none)++[some (nkt 14 ⟨op.toArray⟩ [a,b])],C⟩)=.ok σ1:=h3
  obtain⟨a,_,h3⟩:=qa7 h3
  obtain⟨b,_,h3⟩:=qa7 h3
  split at h3
  ·cases h3
  ·cases h3
   cases h4
   exact hup (P:=wtL K+1000*(E.to-i)+3) (qah hK hi (((hN1.none l).none x.1).app (by show 2<=B+1;omega)) hC (by show wtL K+1000*(E.to-i)+qf3 K<=_;omega)) (by show _<1+wtL K+1000*(E.to-i)+3;omega)
 | bodyO n=>
  have h:((⟨i,K,u,N,C⟩:PM).nd n >>= fun x=>.ok ⟨i,.item (.expr 0):: .blnk (!x.ls.isEmpty&&blE E i)::K,u,N,C⟩)=.ok τ:=h
  obtain⟨x,h1,h⟩:=qa7 h
  cases h
  exact hup (P:=6+(1+wtL K)+1000*(E.to-i)+3) (qah (qa5 ⟨trivial,by decide⟩ (qa5 (by first | trivial | exact qc0 _ | exact qbz _ | exact qby _ _ | exact qbx _) hK)) hi hN1 hC (by show 6+(1+wtL K)+1000*(E.to-i)+3<=_;omega)) (by show _<9+wtL K+1000*(E.to-i)+3;omega)
 | blnk t=>
  have h:((⟨i,K,u,N,C⟩:PM).cur >>= fun x=>.ok ⟨i,K,u,N.set x.1 (some (x.2.blk' t)),C⟩)=.ok τ:=h
  obtain⟨x,h1,h⟩:=qa7 h
  have h3:=hN x.1 x.2 (qwh h1).2
  cases h
  exact hup (P:=wtL K+1000*(E.to-i)+3) (qah hK hi (hN1.set (by obtain⟨j,y⟩:=x;cases y;exact zH h3) x.1) hC (by show wtL K+1000*(E.to-i)+qf3 K<=_;omega)) (by show _<1+wtL K+1000*(E.to-i)+3;omega)
 | val=>
  have h:(if E.sign (pz i) [40]=true then qbg E ⟨i,K,u,N,C⟩else if E.sign (pz i) [60,60]=true then .ok ⟨i,.box N.length [60,60] .segm::K,u,N++[some (nk 6 [])],C⟩else qjw E ⟨i,K,u,N,C⟩)=.ok τ:=h
  split at h
  ·exact hup (qh7 hK hi hN hC h) (by unfold base;show _<2+wtL K+1000*(E.to-i)+3;omega)
  ·split at h
   ·cases h
    exact hup (P:=1+wtL K+1000*(E.to-i)+0) (qah (qa5 ⟨trivial,by decide⟩ hK) hi (hN1.app (zL _)) hC (zF _)) (by show _<2+wtL K+1000*(E.to-i)+3;omega)
   ·exact hup (qwr hK hi hN hC h) (by unfold base;show _<2+wtL K+1000*(E.to-i)+3;omega)
 | sized=>
  have hfin: ∀d,i<=d->d<=E.to->(if i<d then((⟨i,K,u,N,C⟩:PM).cur >>= fun x=>.ok ((((⟨i,K,u,N,C⟩:PM).mv x.1).at_ d).got (nkt 7 (scE E (d-i) i) [x.2])))else .ok ⟨i,K,u,N,C⟩)=.ok τ->Bd E (B+1) τ/\pot E τ<pot E ⟨i,.sized::K,u,N,C⟩:=fun d h1 h2 h=>by
   split at h
   ·obtain⟨x,h3,h⟩:=qa7 h
    cases h
    exact hup (P:=wtL K+1000*(E.to-d)+3) (qah hK h2 ((hN1.none x.1).app (by show 1<=B+1;omega)) hC (by show wtL K+1000*(E.to-d)+qf3 K<=_;omega)) (by show _<1+wtL K+1000*(E.to-i)+3;omega)
   ·cases h
    exact hup (P:=wtL K+1000*(E.to-i)+3) (qah hK hi hN1 hC (by show wtL K+1000*(E.to-i)+qf3 K<=_;omega)) (by show _<1+wtL K+1000*(E.to-i)+3;omega)
  rw[qvq]at h
  obtain⟨⟨b1,j1⟩,h1,h⟩:=qa7 h
  have k1:i<=j1/\j1<=E.to:=by
   rcases qhf (by decide) h1 with⟨-,e,e2⟩ | ⟨-,e⟩<;>omega
  obtain⟨j2,h2,h⟩:=qa7 h
  have k2:i<=j2/\j2<=E.to:=by
   split at h2
   ·cases ht:txE E szk j1 with
    | error e=>rw[show(b1,j1).2=j1 from rfl,ht]at h2;cases h2
    | ok p=>
     rw[show(b1,j1).2=j1 from rfl,ht]at h2
     obtain⟨t2,j3⟩:=p
     obtain⟨rfl,e2⟩:=qhi (by decide) ht
     have h2:(.ok (j1+1):Rs Nat)=.ok j2:=h2
     cases h2;omega
   ·have h2:(.ok j1:Rs Nat)=.ok j2:=h2
    cases h2;exact k1
  obtain⟨⟨b3,j3⟩,h3,h⟩:=qa7 h
  have k3:i<=j3/\j3<=E.to:=by
   rcases qhf (by decide) h3 with⟨-,e,e2⟩ | ⟨-,e⟩<;>omega
  obtain⟨d,h4,h⟩:=qa7 h
  have k4:i<=d/\d<=E.to:=by
   split at h4
   ·have:=ty_pl E _ _ _ h4
    have e:(b3,j3).2=j3:=rfl
    rw[e]at this;omega
   ·have h4:(.ok j3:Rs Nat)=.ok d:=h4
    cases h4;exact k3
  exact hfin d k4.1 k4.2 h
 | segm=>
  cases h
  exact hup (P:=2+(1+wtL K)+1000*(E.to-i)+3) (qah (qa5 (by first | trivial | exact qc0 _ | exact qbz _ | exact qby _ _ | exact qbx _) (qa5 (by first | trivial | exact qc0 _ | exact qbz _ | exact qby _ _ | exact qbx _) hK)) hi hN1 hC (by show 2+(1+wtL K)+1000*(E.to-i)+3<=_;omega)) (by show _<4+wtL K+1000*(E.to-i)+3;omega)
 | pair=>
  cases h
  refine hup (P:=6+wtL K+1000*(E.to-i)+3) (qah (qa5 ?_ hK) hi hN1 hC (by show 6+wtL K+1000*(E.to-i)+3<=_;omega)) (by show _<7+wtL K+1000*(E.to-i)+3;omega)
  show∀s∈[[61,62],[58,61]],s.length<=1048576
  decide
 | patC=>
  cases h
  exact hup (P:=6+(1+(1+(1+(1+(13+(1+wtL K))))))+1000*(E.to-i)+3) (qah (qa5 (by first | trivial | exact qc0 _ | exact qbz _ | exact qby _ _ | exact qbx _) (qa5 (by first | trivial | exact qc0 _ | exact qbz _ | exact qby _ _ | exact qbx _) (qa5 (by first | trivial | exact qc0 _ | exact qbz _ | exact qby _ _ | exact qbx _) (qa5 (by first | trivial | exact qc0 _ | exact qbz _ | exact qby _ _ | exact qbx _) (qa5 (by first | trivial | exact qc0 _ | exact qbz _ | exact qby _ _ | exact qbx _) (qa5 (by first | trivial | exact qc0 _ | exact qbz _ | exact qby _ _ | exact qbx _) (qa5 (by first | trivial | exact qc0 _ | exact qbz _ | exact qby _ _ | exact qbx _) hK))))))) hi (hN1.app (zL _)) hC (by show 6+(1+(1+(1+(1+(13+(1+wtL K))))))+1000*(E.to-i)+3<=_;omega)) (by show _<25+wtL K+1000*(E.to-i)+3;omega)
 | funC=>
  cases h
  exact hup (P:=1+(1+(1+(1+(1+(13+(1+wtL K))))))+1000*(E.to-i)+3) (qah (qa5 ⟨trivial,by decide⟩ (qa5 (by first | trivial | exact qc0 _ | exact qbz _ | exact qby _ _ | exact qbx _) (qa5 (by first | trivial | exact qc0 _ | exact qbz _ | exact qby _ _ | exact qbx _) (qa5 (by first | trivial | exact qc0 _ | exact qbz _ | exact qby _ _ | exact qbx _) (qa5 (by first | trivial | exact qc0 _ | exact qbz _ | exact qby _ _ | exact qbx _) (qa5 (by first | trivial | exact qc0 _ | exact qbz _ | exact qby _ _ | exact qbx _) (qa5 (by first | trivial | exact qc0 _ | exact qbz _ | exact qby _ _ | exact qbx _) hK))))))) hi ((hN1.app (zL _)).app (zL _)) hC (by show 1+(1+(1+(1+(1+(13+(1+wtL K))))))+1000*(E.to-i)+0<=_;omega)) (by show _<20+wtL K+1000*(E.to-i)+3;omega)
 | tstC=>
  cases h
  exact hup (P:=1+(1+(12+(1+(1+(13+(1+wtL K))))))+1000*(E.to-i)+3) (qah (qa5 (by first | trivial | exact qc0 _ | exact qbz _ | exact qby _ _ | exact qbx _) (qa5 (by first | trivial | exact qc0 _ | exact qbz _ | exact qby _ _ | exact qbx _) (qa5 (by first | trivial | exact qc0 _ | exact qbz _ | exact qby _ _ | exact qbx _) (qa5 (by first | trivial | exact qc0 _ | exact qbz _ | exact qby _ _ | exact qbx _) (qa5 (by first | trivial | exact qc0 _ | exact qbz _ | exact qby _ _ | exact qbx _) (qa5 (by first | trivial | exact qc0 _ | exact qbz _ | exact qby _ _ | exact qbx _) (qa5 (by first | trivial | exact qc0 _ | exact qbz _ | exact qby _ _ | exact qbx _) hK))))))) hi (hN1.app (zL _)) hC (by show 1+(1+(12+(1+(1+(13+(1+wtL K))))))+1000*(E.to-i)+3<=_;omega)) (by show _<31+wtL K+1000*(E.to-i)+3;omega)
 | lstC=>
  have h:(msE E 8 [97,102,116,101,114] i >>= fun j=>.ok (qc8 ⟨j,K,u,N,C⟩ .patt (.noth 24)))=.ok τ:=h
  obtain⟨j,h1,h2⟩:=qa7 h
  obtain⟨rfl,h3⟩:=qe6 (by decide) h1
  cases h2
  exact hup (P:=6+(1+(1+(1+(1+(13+(1+wtL K))))))+1000*(E.to- (i+1))+3) (qah (qa5 (by first | trivial | exact qc0 _ | exact qbz _ | exact qby _ _ | exact qbx _) (qa5 (by first | trivial | exact qc0 _ | exact qbz _ | exact qby _ _ | exact qbx _) (qa5 (by first | trivial | exact qc0 _ | exact qbz _ | exact qby _ _ | exact qbx _) (qa5 (by first | trivial | exact qc0 _ | exact qbz _ | exact qby _ _ | exact qbx _) (qa5 (by first | trivial | exact qc0 _ | exact qbz _ | exact qby _ _ | exact qbx _) (qa5 (by first | trivial | exact qc0 _ | exact qbz _ | exact qby _ _ | exact qbx _) (qa5 (by first | trivial | exact qc0 _ | exact qbz _ | exact qby _ _ | exact qbx _) hK))))))) h3 (hN1.app (zL _)) hC (by show 6+(1+(1+(1+(1+(13+(1+wtL K))))))+1000*(E.to- (i+1))+3<=_;omega)) (by show _<1+wtL K+1000*(E.to-i)+3;omega)
 | patt=>
  cases h
  exact hup (P:=4+(1+wtL K)+1000*(E.to-i)+3) (qah (qa5 (by first | trivial | exact qc0 _ | exact qbz _ | exact qby _ _ | exact qbx _) (qa5 (by first | trivial | exact qc0 _ | exact qbz _ | exact qby _ _ | exact qbx _) hK)) hi (hN1.app (zL _)) hC (by show 4+(1+wtL K)+1000*(E.to-i)+3<=_;omega)) (by show _<6+wtL K+1000*(E.to-i)+3;omega)
 | guar=>
  have h:(sgE E 8 [119,104,101,110] i >>= fun q=>if q.1=true then .ok (qhb ⟨q.2,K,some N.length,N++[some (nk 24 [])],C⟩)else .ok ⟨i,K,some N.length,N++[some (nk 24 [])],C⟩)=.ok τ:=h
  obtain⟨⟨bb,j⟩,h1,h2⟩:=qa7 h
  rcases qhf (by decide) h1 with⟨rfl,rfl,h3⟩ | ⟨rfl,rfl⟩
  ·rw[if_pos rfl]at h2
   cases h2
   exact hup (P:=(8+3)+wtL K+1000*(E.to- (i+1))+3) (qah (qa5 ⟨trivial,by decide⟩ hK) h3 ((hN1.app (zL _)).app (zL _)) hC (by show(8+3)+wtL K+1000*(E.to- (i+1))+3<=_;omega)) (by show _<1+wtL K+1000*(E.to-i)+3;omega)
  ·rw[if_neg zB]at h2
   cases h2
   exact hup (P:=wtL K+1000*(E.to-j)+3) (qah hK hi (hN1.app (zL _)) hC (by show wtL K+1000*(E.to-j)+qf3 K<=_;omega)) (by show _<1+wtL K+1000*(E.to-j)+3;omega)
 | alts=>
  cases h
  exact hup (P:=(8+3)+wtL K+1000*(E.to-i)+3) (qah (qa5 ⟨trivial,by decide⟩ hK) hi (hN1.app (zL _)) hC (by show(8+3)+wtL K+1000*(E.to-i)+3<=_;omega)) (by show _<12+wtL K+1000*(E.to-i)+3;omega)
 | cond=>
  cases h
  exact hup (P:=(4+3)+wtL K+1000*(E.to-i)+3) (qah (qa5 ⟨trivial,by decide⟩ hK) hi (hN1.app (zL _)) hC (by show(4+3)+wtL K+1000*(E.to-i)+3<=_;omega)) (by show _<8+wtL K+1000*(E.to-i)+3;omega)
 | body=>
  cases h
  exact hup (P:=(9+3)+wtL K+1000*(E.to-i)+3) (qah (qa5 ⟨trivial,by show 9<=100;decide⟩ hK) hi (hN1.app (zL _)) hC (by show(9+3)+wtL K+1000*(E.to-i)+3<=_;omega)) (by show _<13+wtL K+1000*(E.to-i)+3;omega)
 | noth k=>
  cases h
  exact hup (P:=wtL K+1000*(E.to-i)+3) (qah hK hi (hN1.app (zL _)) hC (by show wtL K+1000*(E.to-i)+qf3 K<=_;omega)) (by show _<1+wtL K+1000*(E.to-i)+3;omega)
 | arrow n=>
  have h:((⟨i,K,u,N,C⟩:PM).nd n >>= fun x=>msE E 9 [45,62] i >>= fun j=>.ok ⟨j,K,u,N.set n (some (x.brk' (brE E j))),C⟩)=.ok τ:=h
  obtain⟨x,h1,h⟩:=qa7 h
  obtain⟨j,h2,h⟩:=qa7 h
  obtain⟨rfl,h3⟩:=qe6 (by decide) h2
  have h4:=hN n x (ql9 h1)
  cases h
  exact hup (P:=wtL K+1000*(E.to- (i+1))+3) (qah hK h3 (hN1.set (by cases x;exact zH h4) n) hC (by show wtL K+1000*(E.to- (i+1))+qf3 K<=_;omega)) (by show _<1+wtL K+1000*(E.to-i)+3;omega)
 | last n=>
  have h:((⟨i,K,u,N,C⟩:PM).nd n >>= fun x=>if E.word (pz i) [97,102,116,101,114]=true then .ok ⟨i,.item .lstC:: .into n::K,u,N.set n (some (x.txt' ⟨#[97,102,116,101,114]⟩)),C⟩else .ok ⟨i,K,u,N,C⟩)=.ok τ:=h
  obtain⟨x,h1,h⟩:=qa7 h
  have h4:=hN n x (ql9 h1)
  split at h
  ·cases h
   exact hup (P:=(1+2)+(1+wtL K)+1000*(E.to-i)+3) (qah (qa5 ⟨trivial,by decide⟩ (qa5 (by first | trivial | exact qc0 _ | exact qbz _ | exact qby _ _ | exact qbx _) hK)) hi (hN1.set (by cases x;exact zH h4) n) hC (by show(1+2)+(1+wtL K)+1000*(E.to-i)+3<=_;omega)) (by show _<5+wtL K+1000*(E.to-i)+3;omega)
  ·cases h
   exact hup (P:=wtL K+1000*(E.to-i)+3) (qah hK hi hN1 hC (by show wtL K+1000*(E.to-i)+qf3 K<=_;omega)) (by show _<5+wtL K+1000*(E.to-i)+3;omega)
end
section
variable{E:Env}{B:Nat}{σ τ:PM}
theorem qjy: ∀(m f:Nat) (σ:PM) (r:Rs PM),qet E m σ=r->r≠ .error .stuck->qet E (m+f) σ=r
 | 0,_,_,r,h,hr=>absurd h.symm hr
 | m+1,f,σ,r,h,hr=>by
  rw[show m+1+f=(m+f)+1 by omega]
  obtain⟨i,k,u,N,C⟩:=σ
  cases k with
  | nil=>exact h
  | cons s K=>
   have h:(stp E s ⟨i,K,u,N,C⟩ >>= fun τ=>qet E m τ)=r:=h
   show(stp E s ⟨i,K,u,N,C⟩ >>= fun τ=>qet E (m+f) τ)=r
   cases hs:stp E s ⟨i,K,u,N,C⟩with
   | error e=>rw[hs]at h;exact h
   | ok τ=>
    rw[hs]at h
    exact qjy m f τ r h hr
theorem qed(hz: ∀k,(E.tk k).2.1.size<=1048576): ∀(m:Nat) (σ:PM) (B:Nat),Bd E B σ->2<=B->pot E σ<m-> ∀f,qet E (m+f) σ=qet E m σ
 | 0,_,_,_,_,h,_=>by omega
 | m+1,σ,B,hb,hB,h,f=>by
  rw[show m+1+f=(m+f)+1 by omega]
  obtain⟨i,k,u,N,C⟩:=σ
  cases k with
  | nil=>rfl
  | cons s K=>
   show(stp E s ⟨i,K,u,N,C⟩ >>= fun τ=>qet E (m+f) τ)=(stp E s ⟨i,K,u,N,C⟩ >>= fun τ=>qet E m τ)
   cases hs:stp E s ⟨i,K,u,N,C⟩with
   | error e=>rfl
   | ok τ=>
    obtain⟨h1,h2⟩:=qxb hz hB hb hs
    exact qed hz m τ (B+1) h1 (by omega) (by omega) f
theorem qqc(hz: ∀k,(E.tk k).2.1.size<=1048576)(hb:Bd E B σ)(hB:2<=B)(h:Goes E σ τ)(hk:τ.k=[]):qet E (pot E σ+1) σ=.ok τ:=by
 obtain⟨m,h⟩:=h
 have h1:qet E (m+1) σ=.ok τ:=by
  rw[h 1]
  obtain⟨i,k,u,N,C⟩:=τ
  have hk:k=[]:=hk
  subst hk;rfl
 have h2:=qjy (m+1) (pot E σ+1) σ _ h1 (by intro e;cases e)
 rw[Nat.add_comm,qed hz (pot E σ+1) σ B hb hB (Nat.lt_succ_self _) (m+1)]at h2
 exact h2
theorem qqb(hz: ∀k,(E.tk k).2.1.size<=1048576)(hb:Bd E B σ)(hB:2<=B)(h:qtg E σ):qet E (pot E σ+1) σ=.error .die:=by
 obtain⟨m,h⟩:=h
 have h1:=h (pot E σ+1)
 rw[Nat.add_comm,qed hz (pot E σ+1) σ B hb hB (Nat.lt_succ_self _) m]at h1
 exact h1
end
def rkG:Cmd->Nat
 | .follow _ _=>1
 | .hash _=>1
 | .primary=>1
 | .operand=>2
 | .expr _=>3
 | .segment=>1
 | .item _ _=>4
 | .boxL _ _ _ _=>5
 | .listL _ _=>4
 | .compL _=>4
 | .guardL _=>4
 | .guard=>5
 | .bodyL _=>4
 | .body=>5
 | .rest _=>1
 | .clausesL _=>4
 | .clauses=>5
 | .ifsL _=>6
 | .ifs=>7
 | .head _=>2
 | .funcL _=>3
 | _=>0
def rkB:Cmd->Nat
 | .box _ _ _ _=>1
 | .list=>1
 | .comp _ _=>1
 | .body=>1
 | .guard=>1
 | .clauses=>1
 | .ifs=>1
 | .operand=>1
 | .expr _=>2
 | .hash _=>2
 | .item _ _=>3
 | .arrow _ _=>2
 | .rest _=>3
 | .head _=>4
 | .receive=>2
 | _=>0
theorem rkG_le(c:Cmd):rkG c<=7:=by cases c<;>simp only[rkG]<;>omega
theorem qrn(c:Cmd):rkB c<=7:=by cases c<;>simp only[rkB]<;>omega
def qk0(E:Env)(c:Cmd)(p:Ps):Nat:=if qak E p=0 then rkB c else 64*qak E p+rkG c
section
variable{E:Env}{c c':Cmd}{p p':Ps}
theorem qbo(h:qak E p'<qak E p):qk0 E c' p'<qk0 E c p:=by
 unfold qk0
 have:=rkG_le c'
 have:=qrn c'
 rw[if_neg (show¬qak E p=0 by omega)]
 split<;>omega
theorem qec(h:qak E p'<=qak E p)(hg:rkG c'<rkG c)(hb:rkB c'<rkB c):qk0 E c' p'<qk0 E c p:=by
 unfold qk0
 have:=qrn c'
 split
 ·split<;>omega
 ·rw[if_neg (show¬qak E p=0 by omega)];omega
theorem qd8(h:qak E p'<=qak E p)(h0:qak E p≠0)(hg:rkG c'<rkG c):qk0 E c' p'<qk0 E c p:=by
 unfold qk0
 have:=qrn c'
 rw[if_neg h0]
 split<;>omega
theorem qqa(h:qak E p≠0->qak E p'<qak E p)(h1:qak E p'<=qak E p)(hb:rkB c'<rkB c):qk0 E c' p'<qk0 E c p:=by
 by_cases h0:qak E p=0
 ·unfold qk0
  rw[if_pos h0,if_pos (by omega)];exact hb
 ·exact qbo (h h0)
theorem qc4(h:p.bad=false):qak E p≠0:=by
 unfold qak;rw[if_neg (by rw[h];decide)];omega
theorem qpo{k:Int}{s:Bs}(hk:k≠0)(h:E.is p k s=true):qak E p≠0:=by
 cases hb:p.bad with
 | true=>rw[qbq hb hk]at h;cases h
 | false=>exact qc4 hb
theorem qap{s:Bs}(h:E.sign p s=true):qak E p≠0:=qpo (by decide) h
theorem qc3{s:Bs}(h:E.word p s=true):qak E p≠0:=qpo (by decide) h
theorem qxk(h:(E.at_ p).1≠0):qak E p≠0:=by
 cases hb:p.bad with
 | true=>
  unfold Env.at_ at h
  rw[if_neg (fun e=>by rw[hb]at e;cases e.2)]at h
  exact absurd rfl h
 | false=>exact qc4 hb
variable{R:Cmd->Ps->Option Out}{S:Cmd->Ps->Out}
theorem qw3(hR: ∀c' p',qk0 E c' p'<qk0 E c p->R c' p'=some (S c' p'))(hb: ∀c p,qak E (S c p).p<=qak E p)(hx: ∀n o c lv p,qak E p≠0->qak E (S (.box n o c lv) p).p<qak E p):qb6 E R c p=some (qa6 E S c p):=by
 have ht:=qe2 E
 have hk:=qn0 E
 have hw:=qj0 E
 have hwd:=qhv E
 have htx:=qiz E
 have hn:=qez E
 cases c with
 | expr level=>
  simp only[qb6,qa6]
  split
  ·rename_i h
   simp only[zA]at h
   rw[hR _ _ (qbo (hk p (qc3 h.2)))];rfl
  ·rw[hR _ _ (qec (zF _) (by show(2:Nat)<3;decide) (by show(1:Nat)<2;decide))]
   simp only[zM]
   rw[hR _ _ (qec (hb _ _) (by show(0:Nat)<3;decide) (by show(0:Nat)<2;decide))]
 | exprL level left has=>
  simp only[qb6,qa6]
  split
  ·rfl
  ·rename_i h
   have hg:=qc4 (E:=E) (p:=p) (by simpa using h)
   split
   ·rfl
   ·rw[hR _ _ (qbo (hk p hg))]
    simp only[zM]
    rw[hR _ _ (qbo (zJ (hb _ _) (hk p hg)))]
 | operand=>
  simp only[qb6,qa6]
  split
  ·rename_i h
   simp only[zA,zC,beq_iff_eq]at h
   have hg:=qxk (E:=E) (p:=p) (by rcases h.1 with h | h<;>rw[h]<;>decide)
   rw[hR _ _ (qbo (hk p hg))];rfl
  ·rw[hR _ _ (qec (zF _) (by decide) (by decide))]
   simp only[zM]
   rw[hR _ _ (qec (hb _ _) (by show(1:Nat)<2;decide) (by show(0:Nat)<1;decide))];rfl
 | primary=>
  unfold qb6 qa6
  dsimp only
  by_cases h:ltk (E.at_ p).1=true
  ·rw[if_pos h,if_pos h]
  rw[if_neg h,if_neg h]
  clear h
  by_cases h:E.sign p [40]=true
  ·rw[if_pos h,if_pos h]
   rw[hR _ _ (qbo (hk p (qap h)))];rfl
  rw[if_neg h,if_neg h]
  clear h
  by_cases h:E.sign p [123]=true
  ·rw[if_pos h,if_pos h]
   exact hR _ _ (qd8 (zF _) (qap h) (by decide))
  rw[if_neg h,if_neg h]
  clear h
  by_cases h:E.sign p [91]=true
  ·rw[if_pos h,if_pos h]
   exact hR _ _ (qd8 (zF _) (qap h) (by decide))
  rw[if_neg h,if_neg h]
  clear h
  by_cases h:E.sign p [60,60]=true
  ·rw[if_pos h,if_pos h]
   exact hR _ _ (qd8 (zF _) (qap h) (by decide))
  rw[if_neg h,if_neg h]
  clear h
  by_cases h:E.sign p [35]=true
  ·rw[if_pos h,if_pos h]
   exact hR _ _ (qbo (hk p (qap h)))
  rw[if_neg h,if_neg h]
  clear h
  by_cases h:E.word p [102,117,110]=true
  ·rw[if_pos h,if_pos h]
   exact hR _ _ (qd8 (zF _) (qc3 h) (by decide))
  rw[if_neg h,if_neg h]
  clear h
  by_cases h:E.word p [99,97,115,101]=true
  ·rw[if_pos h,if_pos h]
   rw[hR _ _ (qbo (hk p (qc3 h)))]
   simp only[zM]
   rw[hR _ _ (qbo (zJ (zI (hw _ _ _) (hb _ _)) (hk p (qc3 h))))];rfl
  rw[if_neg h,if_neg h]
  clear h
  by_cases h:E.word p [105,102]=true
  ·rw[if_pos h,if_pos h]
   rw[hR _ _ (qbo (hk p (qc3 h)))];rfl
  rw[if_neg h,if_neg h]
  clear h
  by_cases h:E.word p [114,101,99,101,105,118,101]=true
  ·rw[if_pos h,if_pos h]
   exact hR _ _ (qd8 (zF _) (qc3 h) (by decide))
  rw[if_neg h,if_neg h]
  clear h
  by_cases h:E.word p [98,101,103,105,110]=true
  ·rw[if_pos h,if_pos h]
   rw[hR _ _ (qbo (hk p (qc3 h)))];rfl
  rw[if_neg h,if_neg h]
 | follow x paren=>
  simp only[qb6,qa6]
  split
  ·rfl
  rename_i h0
  have hg:qak E p≠0:=by
   cases hbd:p.bad with
   | true=>rw[hbd]at h0;simp at h0
   | false=>exact qc4 hbd
  split
  ·rw[hR _ _ (qd8 (zF _) hg (by show(0:Nat)<1;decide))]
   simp only[zM]
   rw[hR _ _ (qbo (hx _ _ _ _ _ hg))]
  split
  ·split
   ·rw[hR _ _ (qbo (zJ (ht _) (hk p hg)))]
    simp only[zM]
    rw[hR _ _ (qbo (zJ (zI (hw _ _ _) (zI (hb _ _) (ht _))) (hk p hg)))]
   ·rw[hR _ _ (qbo (zJ (htx _ _) (hk p hg)))]
  split
  ·rw[hR _ _ (qbo (hk p hg))]
   simp only[zM]
   rw[hR _ _ (qbo (zJ (hb _ _) (hk p hg)))]
  ·rfl
 | box n o c level=>
  simp only[qb6,qa6]
  rw[hR _ _ (qqa (fun h=>zJ (hn _) (hwd p _ _ h)) (zI (hn _) (hw _ _ _)) (by show(0:Nat)<1;decide))]
 | boxL n notes c level=>
  simp only[qb6,qa6]
  split
  ·rfl
  rename_i h0
  have hg:qak E p≠0:=by
   cases hbd:p.bad with
   | true=>rw[hbd]at h0;simp at h0
   | false=>exact qc4 hbd
  rw[hR _ _ (qd8 (zF _) hg (by show(4:Nat)<5;decide))]
  simp only[zM]
  split
  ·rfl
  ·rename_i h1
   have h2:=hk _ (qap (by simpa using h1))
   rw[hR _ _ (qbo (zJ (qr4 E _ _) (zJ (hn _) (zK h2 (hb _ _)))))]
 | item kind level=>
  simp only[qb6,qa6]
  split
  ·exact hR _ _ (qec (zF _) (by show(1:Nat)<4;decide) (by show(0:Nat)<3;decide))
  ·rw[hR _ _ (qec (zF _) (by show(3:Nat)<4;decide) (by show(2:Nat)<3;decide))]
   simp only[zM]
   split
   ·rename_i h
    simp only[zA,zC]at h
    have h2:=hk _ (show qak E (S (.expr level) p).p≠0 by rcases h.2 with h | h<;>exact qap h)
    rw[hR _ _ (qbo (zK h2 (hb _ _)))];rfl
   ·rfl
 | segment=>
  simp only[qb6,qa6]
  split
  ·rename_i h
   rw[hR _ _ (qbo (hk p (qap h)))]
   simp only[zM]
  ·split
   ·rename_i h
    rw[hR _ _ (qd8 (zF _) (qap h) (by show(0:Nat)<1;decide))]
    simp only[zM]
   ·simp only[zM]
 | list=>
  simp only[qb6,qa6]
  rw[hR _ _ (qqa (fun h=>zJ (hn _) (hwd p _ _ h)) (zI (hn _) (hw _ _ _)) (by show(0:Nat)<1;decide))]
 | listL n notes=>
  simp only[qb6,qa6]
  split
  ·rfl
  rename_i h0
  have hg:qak E p≠0:=by
   cases hbd:p.bad with
   | true=>rw[hbd]at h0;simp at h0
   | false=>exact qc4 hbd
  rw[hR _ _ (qd8 (zF _) hg (by show(3:Nat)<4;decide))]
  simp only[zM]
  split
  ·exact hR _ _ (qd8 (hb _ _) hg (by show(0:Nat)<4;decide))
  split
  ·rename_i h1
   rw[hR _ _ (qbo (zK (hk _ (qap h1)) (hb _ _)))];rfl
  split
  ·rfl
  ·rename_i h1
   have h2:=hk _ (qap (by simpa using h1))
   rw[hR _ _ (qbo (zJ (qr4 E _ _) (zJ (hn _) (zK h2 (hb _ _)))))]
 | comp x broken=>
  simp only[qb6,qa6]
  rw[hR _ _ (qqa (fun h=>hwd p _ _ h) (hw _ _ _) (by show(0:Nat)<1;decide))]
 | compL n=>
  simp only[qb6,qa6]
  split
  ·rfl
  rename_i h0
  have hg:qak E p≠0:=qc4 (by simpa using h0)
  rw[hR _ _ (qd8 (zF _) hg (by show(3:Nat)<4;decide))]
  simp only[zM]
  split
  ·rename_i h
   simp only[zC]at h
   have h2:=hk _ (show qak E (S (.expr 3) p).p≠0 by rcases h with h | h<;>exact qap h)
   have h3:=zK h2 (hb (.expr 3) p)
   rw[hR _ _ (qbo h3)]
   simp only[zM]
   split
   ·rfl
   ·rename_i h1
    have h4:=hk _ (qap (by simpa using h1))
    rw[hR _ _ (qbo (Nat.lt_trans (zK h4 (hb _ _)) h3))]
  ·simp only[zM]
   split
   ·rfl
   ·rename_i h1
    have h4:=hk _ (qap (by simpa using h1))
    rw[hR _ _ (qbo (zK h4 (hb _ _)))]
 | hash of=>
  simp only[qb6,qa6]
  split
  ·rename_i h
   split
   ·exact hR _ _ (qd8 (zF _) (qap h) (by show(0:Nat)<1;decide))
   ·exact hR _ _ (qd8 (zF _) (qap h) (by show(0:Nat)<1;decide))
  ·split
   ·rfl
   ·split
    ·exact hR _ _ (qec (htx _ _) (by show(0:Nat)<1;decide) (by show(1:Nat)<2;decide))
    ·exact hR _ _ (qec (htx _ _) (by show(0:Nat)<1;decide) (by show(1:Nat)<2;decide))
 | func=>
  simp only[qb6,qa6]
  split
  ·rfl
  ·rename_i h
   have h2:qak E (E.take p).2≠0:=qap (by simpa using h)
   have h3:qak E p≠0:=by have:=ht p;omega
   rw[hR _ _ (qbo (hk p h3))]
 | funcL n=>
  simp only[qb6,qa6]
  split
  ·rfl
  rename_i h0
  have hg:qak E p≠0:=qc4 (by simpa using h0)
  have hle:qak E (if n.ls.isEmpty then(([],p):List ByteArray×Ps)else E.notes p).2<=qak E p:=by
   split
   ·exact zF _
   ·exact hn _
  generalize(if n.ls.isEmpty then(([],p):List ByteArray×Ps)else E.notes p)=q at hle⊢
  rw[hR _ _ (qd8 hle hg (by show(2:Nat)<3;decide))]
  simp only[zM]
  split
  ·rfl
  ·rename_i h1
   have h4:=hk _ (qap (by simpa using h1))
   rw[hR _ _ (qbo (zK h4 (zI (hb _ _) hle)))]
 | head s=>
  simp only[qb6,qa6]
  rw[hR _ _ (qec (zF _) (by show(0:Nat)<2;decide) (by show(1:Nat)<4;decide))]
  simp only[zM]
  rw[hR _ _ (qec (hb _ _) (by show(1:Nat)<2;decide) (by show(3:Nat)<4;decide))]
 | rest c=>
  simp only[qb6,qa6]
  split
  ·rename_i h
   rw[hR _ _ (qbo (hk p (qc3 h)))]
   simp only[zM]
   rw[hR _ _ (qbo (zJ (hb _ _) (hk p (qc3 h))))]
  ·rw[hR _ _ (qec (zF _) (by show(0:Nat)<1;decide) (by show(2:Nat)<3;decide))]
 | arrow c g=>
  simp only[qb6,qa6]
  rw[hR _ _ (qqa (fun h=>hwd p _ _ h) (hw _ _ _) (by show(1:Nat)<2;decide))];rfl
 | guard=>
  simp only[qb6,qa6]
  rw[hR _ _ (qec (zF _) (by show(4:Nat)<5;decide) (by show(0:Nat)<1;decide))]
 | guardL g=>
  simp only[qb6,qa6]
  split
  ·rfl
  rename_i h0
  have hg:qak E p≠0:=qc4 (by simpa using h0)
  rw[hR _ _ (qd8 (zF _) hg (by show(3:Nat)<4;decide))]
  simp only[zM]
  rw[hR _ _ (qd8 (hb _ _) hg (by show(0:Nat)<4;decide))]
  simp only[zM]
  split
  ·rfl
  ·rename_i h1
   have h4:=hk _ (qap (by simpa using h1))
   rw[hR _ _ (qbo (zK h4 (zI (hb _ _) (hb _ _))))]
 | guardB b=>
  simp only[qb6,qa6]
  split
  ·rename_i h
   rw[hR _ _ (qbo (hk p (qap h)))]
   simp only[zM]
   rw[hR _ _ (qbo (zJ (hb _ _) (hk p (qap h))))]
  ·rfl
 | body=>
  simp only[qb6,qa6]
  rw[hR _ _ (qec (zF _) (by show(4:Nat)<5;decide) (by show(0:Nat)<1;decide))]
 | bodyL b=>
  simp only[qb6,qa6]
  split
  ·rfl
  rename_i h0
  have hg:qak E p≠0:=qc4 (by simpa using h0)
  rw[hR _ _ (qd8 (hn _) hg (by show(3:Nat)<4;decide))]
  simp only[zM]
  split
  ·rfl
  ·rename_i h1
   have h4:=hk _ (qap (by simpa using h1))
   rw[hR _ _ (qbo (zK h4 (zI (hb _ _) (hn _))))]
 | clauses=>
  simp only[qb6,qa6]
  rw[hR _ _ (qec (zF _) (by show(4:Nat)<5;decide) (by show(0:Nat)<1;decide))]
 | clausesL out=>
  simp only[qb6,qa6]
  split
  ·rfl
  rename_i h0
  have hg:qak E p≠0:=qc4 (by simpa using h0)
  rw[hR _ _ (qd8 (hn _) hg (by show(3:Nat)<4;decide))]
  simp only[zM]
  rw[hR _ _ (qd8 (zI (hb _ _) (hn _)) hg (by show(1:Nat)<4;decide))]
  simp only[zM]
  split
  ·rfl
  ·rename_i h1
   have h4:=hk _ (qap (by simpa using h1))
   rw[hR _ _ (qbo (zK h4 (zI (hb _ _) (zI (hb _ _) (hn _)))))]
 | ifs=>
  simp only[qb6,qa6]
  rw[hR _ _ (qec (zF _) (by show(6:Nat)<7;decide) (by show(0:Nat)<1;decide))]
 | ifsL out=>
  simp only[qb6,qa6]
  split
  ·rfl
  rename_i h0
  have hg:qak E p≠0:=qc4 (by simpa using h0)
  rw[hR _ _ (qd8 (hn _) hg (by show(5:Nat)<6;decide))]
  simp only[zM]
  rw[hR _ _ (qd8 (zI (hb _ _) (hn _)) hg (by show(0:Nat)<6;decide))]
  simp only[zM]
  split
  ·rfl
  ·rename_i h1
   have h4:=hk _ (qap (by simpa using h1))
   rw[hR _ _ (qbo (zK h4 (zI (hb _ _) (zI (hb _ _) (hn _)))))]
 | receive=>
  have hfin: ∀r:Out,qak E r.p<=qak E p->(if E.word r.p [97,102,116,101,114]=true then(R (.expr 1) (E.take (E.notes r.p).2).2).bind fun r2=>(R (.arrow (nk 22 [nk 23 [r2.x]]) (nk 24 [])) r2.p).bind fun r3=>some (qai E (nkt 20 ⟨#[97,102,116,101,114]⟩ (r.xs++[r3.x.notes' (E.notes r.p).1])) r3.p)else some (qai E (nk 20 r.xs) r.p))=some (if E.word r.p [97,102,116,101,114]=true then(qai E (nkt 20 ⟨#[97,102,116,101,114]⟩ (r.xs++[(S (.arrow (nk 22 [nk 23 [(S (.expr 1) (E.take (E.notes r.p).2).2).x]]) (nk 24 [])) (S (.expr 1) (E.take (E.notes r.p).2).2).p).x.notes' (E.notes r.p).1])) (S (.arrow (nk 22 [nk 23 [(S (.expr 1) (E.take (E.notes r.p).2).2).x]]) (nk 24 [])) (S (.expr 1) (E.take (E.notes r.p).2).2).p).p)else qai E (nk 20 r.xs) r.p):=by
   intro r hr
   split
   ·rename_i h
    have h1:qak E (E.notes r.p).2≠0:=by
     have h2:=qc3 h
     unfold qak at h2⊢
     show(if r.p.bad=true then 0 else _)≠0
     split
     ·rename_i h3;rw[if_pos h3]at h2;exact absurd rfl h2
     ·omega
    have h4:=zK (hk _ h1) (zI (hn _) hr)
    rw[hR _ _ (qbo h4)]
    simp only[zM]
    rw[hR _ _ (qbo (zJ (hb _ _) h4))];rfl
   ·rfl
  simp only[qb6,qa6]
  split
  ·rw[hR _ _ (qqa (fun h=>hk p h) (ht p) (by show(1:Nat)<2;decide))]
   simp only[zM]
   exact hfin _ (zI (hb _ _) (ht p))
  ·simp only[zM]
   exact hfin { p:=(E.take p).2 } (ht p)
theorem qrw(E:Env): ∀(n:Nat) (c:Cmd) (p:Ps),qk0 E c p<n->qal E n c p=some (qft E n c p)
 | 0,_,_,h=>by omega
 | n+1,c,p,h=>by
  show qb6 E (qal E n) c p=some (qa6 E (qft E n) c p)
  refine qw3 (fun c' p' h'=>qrw E n c' p' (by omega)) (qg0 E n) (fun x o c lv p h0=>?_)
  cases n with
  | zero=>
   show qak E p.wrong<_
   rw[qgx];omega
  | succ n=>
   show qak E (qa6 E (qft E n) (.box x o c lv) p).p<_
   simp only[qa6]
   exact zJ (zI (qg0 E n _ _) (qez E _)) (qhv E p _ _ h0)
end
theorem qff(s:ByteArray)(k:Nat)(hk:k<=s.size)(hs:s.size<=1048576)(w:World):
 Calls Tryz.prog 32 #[.string s,.int .i64 k] w fun e w'=>e=.returned (.int .i64 (fw bl s k:Nat))/\w=w':=by
 obtain⟨R,hR⟩: ∃R,R=fw bl s k:=⟨_,rfl⟩
 rw[<-hR]
 have HR:=zh hR
 have HG:=zh (get_bt s)
 clear hR
 go_enter Tryz.func32,Tryz.ntmps32
 go_wp2_with fail
 go_loopg [1] (s.size-k) (fun gn i wr=> ∃j:Nat,gn=s.size-j/\j<=s.size/\i=.int .i64 j/\wr=w/\Hid (R=fw bl s j))
 case atStart=>exact⟨k,rfl,hk,rfl,rfl,HR⟩
 case round=>
  obtain⟨j,hgn,hj,rfl,rfl,HJ⟩:=hrel
  by_cases hlt:j<s.size
  ·have gx:=HG.out j hlt
   have HGO:Hid (bl (bt s j)=true->R=fw bl s (j+1)):=zh fun h=>by rw[HJ.out,qpe hlt h]
   have HST:Hid (bl (bt s j)=false->j=R):=zh fun h=>by rw[HJ.out,qii h]
   obtain⟨c,hc⟩: ∃c,c=bt s j:=⟨_,rfl⟩
   rw[<-hc]at gx HGO HST
   clear hc
   cases hb:bl c
   ·have HF:=zh (HST.out hb)
    obtain⟨b1,b2,b3,b4⟩:=qxl hb
    clear hb
    go_wp2_with fail
    go_ret
    exact⟨qvh HF.out,rfl⟩
   ·have HF:=zh (HGO.out hb)
    rcases qtl hb with b1 | ⟨b1,b2⟩ | ⟨b1,b2,b3⟩ | ⟨b1,b2,b3,b4⟩
    all_goals
     clear hb
     go_wp2_with fail
     go_roundg (s.size- (j+1))
     case measure=>omega
     case rel=>exact⟨j+1,rfl,hlt,by go_num,rfl,HF⟩
  ·have HF:Hid (j=R):=zh (by rw[HJ.out,qgg hlt])
   go_wp2_with fail
   go_ret
   exact⟨qvh HF.out,rfl⟩
theorem qeg(s:ByteArray)(k:Nat)(hk:k<=s.size)(hs:s.size<=1048576)(w:World):
 Calls Tryz.prog 54 #[.string s,.int .i64 k] w fun e w'=>e=.returned (.int .i64 (fw inn s k:Nat))/\w=w':=by
 obtain⟨R,hR⟩: ∃R,R=fw inn s k:=⟨_,rfl⟩
 rw[<-hR]
 have HR:=zh hR
 have HG:=zh (get_bt s)
 clear hR
 go_enter Tryz.func54,Tryz.ntmps54
 go_wp2_with fail
 go_loopg [1] (s.size-k) (fun gn i wr=> ∃j:Nat,gn=s.size-j/\j<=s.size/\i=.int .i64 j/\wr=w/\Hid (R=fw inn s j))
 case atStart=>exact⟨k,rfl,hk,rfl,rfl,HR⟩
 case round=>
  obtain⟨j,hgn,hj,rfl,rfl,HJ⟩:=hrel
  by_cases hlt:j<s.size
  ·have gx:=HG.out j hlt
   have HGO:Hid (inn (bt s j)=true->R=fw inn s (j+1)):=zh fun h=>by rw[HJ.out,qpe hlt h]
   have HST:Hid (inn (bt s j)=false->j=R):=zh fun h=>by rw[HJ.out,qii h]
   have HI:=zh (fun W=>qfg (bt s j) W)
   obtain⟨v,hv⟩: ∃v,v=inn (bt s j):=⟨_,rfl⟩
   rw[<-hv]at HGO HST HI
   obtain⟨c,hc⟩: ∃c,c=bt s j:=⟨_,rfl⟩
   rw[<-hc]at gx HI
   clear hc hv
   cases v
   ·have HF:=zh (HST.out rfl)
    go_wp2_with fail
    refine(HI.out _).mono ?_
    rintro e w' ⟨rfl,rfl⟩
    go_wp2_with fail
    go_ret
    exact⟨qvh HF.out,rfl⟩
   ·have HF:=zh (HGO.out rfl)
    go_wp2_with fail
    refine(HI.out _).mono ?_
    rintro e w' ⟨rfl,rfl⟩
    go_wp2_with fail
    go_roundg (s.size- (j+1))
    case measure=>omega
    case rel=>exact⟨j+1,rfl,hlt,by go_num,rfl,HF⟩
  ·have HF:Hid (j=R):=zh (by rw[HJ.out,qgg hlt])
   go_wp2_with fail
   go_ret
   exact⟨qvh HF.out,rfl⟩
theorem qrt(s:ByteArray)(hs:s.size<=1048576)(w:World):
 Calls Tryz.prog 51 #[.string s] w fun e w'=>e=.returned (.string (s.extract 0 (tr s 0 s.size)))/\w=w':=by
 obtain⟨R,hR⟩: ∃R,R=tr s 0 s.size:=⟨_,rfl⟩
 rw[<-hR]
 have HR:=zh hR
 have HG:=zh (get_bt s)
 clear hR
 go_enter Tryz.func51,Tryz.ntmps51
 go_wp2_with fail
 go_loopg [3] s.size (fun gn i wr=> ∃j:Nat,gn=j/\j<=s.size/\i=.int .i64 j/\wr=w/\Hid (R=tr s 0 j))
 case atStart=>exact⟨s.size,rfl,zF _,rfl,rfl,HR⟩
 case round=>
  obtain⟨j,hgn,hj,rfl,rfl,HJ⟩:=hrel
  by_cases h0:0<j
  ·obtain⟨n,rfl⟩: ∃n,j=n+1:=⟨j-1,by omega⟩
   have gx:=HG.out n (by omega)
   have k1:((n:Int)+1-1).toNat=n:=by omega
   have hstep:=qt2 (s:=s) (n:=n)
   rw[<-HJ.out]at hstep
   have HGO:Hid (tb (bt s n)=true->R=tr s 0 n):=zh fun h=>by rw[hstep,if_pos h]
   have HST:Hid (tb (bt s n)=false->n+1=R):=zh fun h=>by rw[hstep,if_neg (by rw[h];decide)]
   obtain⟨c,hc⟩: ∃c,c=bt s n:=⟨_,rfl⟩
   rw[<-hc]at gx HGO HST
   clear hc hstep
   cases hb:tb c
   ·have HF:=zh (HST.out hb)
    obtain⟨b1,b2,b3⟩:=tb_none hb
    clear hb
    go_wp2_with fail
    go_ret
    exact⟨ret_s (by rw[<-HF.out]),rfl⟩
   ·have HF:=zh (HGO.out hb)
    rcases qw0 hb with b1 | ⟨b1,b2⟩ | ⟨b1,b2,b3⟩
    all_goals
     clear hb
     go_wp2_with fail
     go_roundg n
     case measure=>omega
     case rel=>exact⟨n,rfl,by omega,by go_num,rfl,HF⟩
  ·obtain rfl:j=0:=by omega
   have HF:Hid (0=R):=zh (by rw[HJ.out];rfl)
   go_wp2_with fail
   go_ret
   exact⟨ret_s (by rw[<-HF.out];apply ByteArray.ext;simp),rfl⟩
theorem qh0(s:ByteArray)(p:Nat)(hp:p<s.size)(hs:s.size<=1048576)(w:World):
 Calls Tryz.prog 56 #[.string s,.int .i64 p] w fun e w'=>e=.returned (.int .i64 (if qx s (bt s p) (p+1)=0 then 0 else(qx s (bt s p) (p+1):Int)-p))/\ ∃n,w'=w.drewN n:=by
 obtain⟨q,hq⟩: ∃q,q=bt s p:=⟨_,rfl⟩
 rw[<-hq]
 have gq:=get_bt s p hp
 rw[<-hq]at gq
 clear hq
 obtain⟨Q,hQ⟩: ∃Q,Q=qx s q (p+1):=⟨_,rfl⟩
 rw[<-hQ]
 have HQ:=zh hQ
 have HG:=zh (get_bt s)
 clear hQ
 obtain⟨V,hV⟩: ∃V:Int,V=if Q=0 then 0 else(Q:Int)-p:=⟨_,rfl⟩
 rw[<-hV]
 have HQ0:Hid (Q=0->0=V):=zh fun h=>by rw[hV,if_pos h]
 have HV:=zh hV
 clear hV
 go_enter Tryz.func56,Tryz.ntmps56
 go_wp2_with fail
 go_loopg [5] (s.size- (p+1)) (fun gn i wr=> ∃k:Nat,gn=s.size-k/\p<k/\k<=s.size/\i=.int .i64 k/\Hid (Q=qx s q k)/\Hid (∃n,wr=w.drewN n))
 case atStart=>exact⟨p+1,rfl,by omega,by omega,by go_num,HQ,zh ⟨0,rfl⟩⟩
 case round=>
  obtain⟨k,hgn,hpk,hk,rfl,HK,HW⟩:=hrel
  obtain⟨m0,rfl⟩:=HW.out
  by_cases hlt:k<s.size
  ·have gk:=HG.out k hlt
   have k0:(k:Int)< (s.size:Int):=by omega
   by_cases hc:bt s k=q
   ·have HF:Hid ((k:Int)+1-p=V):=zh (by rw[HV.out,HK.out,qmy hlt hc,if_neg (by omega)];omega)
    rw[hc]at gk
    have hqq:(q !=q)=false:=by simp
    have k1: ¬(s.size:Int)<=(k:Int):=by omega
    clear hc
    go_wp2_with fail
    go_quiet (fail)
    go_wp2_with fail
    go_ret
    exact⟨qe7 HF.out,_,rfl⟩
   ·have hcq:(bt s k !=q)=true:=by simpa using hc
    by_cases h9:bt s k=92
    ·have HE:=zh (HK.out.trans (qmx hlt hc h9))
     rw[h9]at gk hcq
     clear hc h9
     by_cases hl2:k+1<s.size
     ·have HN:=zh (fun W=>qe3 s (k+1) W hl2 (by unfold maxLen;omega))
      have l1:=qcj s (k+1)
      have l2:=quv s (k+1) hl2
      have l3:=qqj s (k+1)
      obtain⟨c,hc⟩: ∃c,c=nc s (k+1):=⟨_,rfl⟩
      obtain⟨l,hl⟩: ∃l,l=nl s (k+1):=⟨_,rfl⟩
      rw[<-hc,<-hl]at HN HE
      rw[<-hl]at l1 l2 l3
      have e1:((k+1:Nat):Int)=(k:Int)+1:=by omega
      rw[e1]at HN
      clear hc hl e1
      by_cases c1:c<32
      ·have HF:Hid (0=V):=zh (HQ0.out (by rw[HE.out,if_pos (.inl c1)]))
       go_wp2_with fail
       go_quiet (fail)
       go_wp2_with fail
       refine(HN.out _).mono ?_
       rintro e w' ⟨rfl,m1,rfl⟩
       go_wp2_with fail
       go_ret
       exact⟨qe7 HF.out,_,rfl⟩
      ·by_cases c2:c=127
       ·have HF:Hid (0=V):=zh (HQ0.out (by rw[HE.out,if_pos (.inr c2)]))
        subst c2
        go_wp2_with fail
        go_quiet (fail)
        go_wp2_with fail
        refine(HN.out _).mono ?_
        rintro e w' ⟨rfl,m1,rfl⟩
        go_wp2_with fail
        go_ret
        exact⟨qe7 HF.out,_,rfl⟩
       ·have HF:Hid (Q=qx s q (k+1+l)):=zh (by rw[HE.out,if_neg (by omega)])
        have c3:(c==127)=false:=beq_false_of_ne c2
        clear c2
        go_wp2_with fail
        go_quiet (fail)
        go_wp2_with fail
        refine(HN.out _).mono ?_
        rintro e w' ⟨rfl,m1,rfl⟩
        go_wp2_with fail
        go_roundg (s.size- (k+1+l))
        case measure=>omega
        case rel=>exact⟨k+1+l,rfl,by omega,by omega,by go_num,HF,zh ⟨_,rfl⟩⟩
     ·have HN:=zh (fun W=>qkg s ((k:Int)+1) W (.inr (by omega)))
      have HF:Hid (0=V):=zh (by
       have:nc s (k+1)= -1:=by
        unfold nc
        rw[bt_end s (by omega),if_pos]
        exact .inr (by show s.size<k+1+1;omega)
       exact HQ0.out (by rw[HE.out,if_pos (.inl (by rw[this];decide))]))
      go_wp2_with fail
      go_quiet (fail)
      go_wp2_with fail
      refine(HN.out _).mono ?_
      rintro e w' ⟨rfl,m1,rfl⟩
      go_wp2_with fail
      go_ret
      exact⟨qe7 HF.out,_,rfl⟩
    ·have HE:=zh (HK.out.trans (qvc hlt hc h9))
     have h92:(bt s k==92)=false:=beq_false_of_ne h9
     have HN:=zh (fun W=>qe3 s k W hlt (by unfold maxLen;omega))
     have l1:=qcj s k
     have l2:=quv s k hlt
     have l3:=qqj s k
     obtain⟨c,hc'⟩: ∃c,c=nc s k:=⟨_,rfl⟩
     obtain⟨l,hl⟩: ∃l,l=nl s k:=⟨_,rfl⟩
     rw[<-hc',<-hl]at HN HE
     rw[<-hl]at l1 l2 l3
     clear hc' hl hc h9
     obtain⟨d,hd⟩: ∃d,d=bt s k:=⟨_,rfl⟩
     rw[<-hd]at gk hcq h92
     clear hd
     by_cases c1:c<32
     ·have HF:Hid (0=V):=zh (HQ0.out (by rw[HE.out,if_pos (.inl c1)]))
      go_wp2_with fail
      go_quiet (fail)
      go_wp2_with fail
      refine(HN.out _).mono ?_
      rintro e w' ⟨rfl,m1,rfl⟩
      go_wp2_with fail
      go_ret
      exact⟨qe7 HF.out,_,rfl⟩
     ·by_cases c2:c=127
      ·have HF:Hid (0=V):=zh (HQ0.out (by rw[HE.out,if_pos (.inr c2)]))
       subst c2
       go_wp2_with fail
       go_quiet (fail)
       go_wp2_with fail
       refine(HN.out _).mono ?_
       rintro e w' ⟨rfl,m1,rfl⟩
       go_wp2_with fail
       go_ret
       exact⟨qe7 HF.out,_,rfl⟩
      ·have HF:Hid (Q=qx s q (k+l)):=zh (by rw[HE.out,if_neg (by omega)])
       have c3:(c==127)=false:=beq_false_of_ne c2
       clear c2
       go_wp2_with fail
       go_quiet (fail)
       go_wp2_with fail
       refine(HN.out _).mono ?_
       rintro e w' ⟨rfl,m1,rfl⟩
       go_wp2_with fail
       go_roundg (s.size- (k+l))
       case measure=>omega
       case rel=>exact⟨k+l,rfl,by omega,by omega,by go_num,HF,zh ⟨_,rfl⟩⟩
  ·obtain rfl:k=s.size:=by omega
   have HF:Hid (0=V):=zh (HQ0.out (by rw[HK.out,qmw (by omega)]))
   go_wp2_with fail
   go_quiet (fail)
   go_wp2_with fail
   go_ret
   exact⟨qe7 HF.out,_,rfl⟩
theorem qnz(s:ByteArray)(p:Nat)(hp:p<s.size)(hs:s.size<=1048576)(w:World):
 Calls Tryz.prog 57 #[.string s,.int .i64 p] w fun e w'=>e=.returned (.int .i64 (if che s p=0 then 0 else(che s p:Int)-p))/\Below w.heap.size w w':=by
 obtain⟨V,hV⟩: ∃V:Int,V=if che s p=0 then 0 else(che s p:Int)-p:=⟨_,rfl⟩
 rw[<-hV]
 have HV:=zh hV
 clear hV
 have HG:=zh (get_bt s)
 by_cases h1:p+1<s.size
 ·have gx:=HG.out (p+1) h1
  have g1:(p:Int)+1< (s.size:Int):=by omega
  by_cases h9:bt s (p+1)=92
  ·have HE:=zh (fun W=>qve s (p+1) (by omega) W)
   have e1:((p+1:Nat):Int)=(p:Int)+1:=by omega
   rw[e1]at HE
   have hch:che s p=if 0<=(esc s (p+1)).1 then p+1+(esc s (p+1)).2 else 0:=by unfold che;rw[if_pos ⟨h1,h9⟩]
   have hbd:=esc_bd s (p+1)
   obtain⟨v,hv⟩: ∃v,v=(esc s (p+1)).1:=⟨_,rfl⟩
   obtain⟨l,hl⟩: ∃l,l=(esc s (p+1)).2:=⟨_,rfl⟩
   rw[<-hv,<-hl]at hch HE
   rw[<-hl,<-hv]at hbd
   rw[h9]at gx
   clear hv hl h9 e1
   by_cases c1:0<=v
   ·rw[if_pos c1]at hch
    have HF:Hid ((l:Int)+1=V):=zh (by rw[HV.out,hch,if_neg (by omega)];omega)
    clear hch
    go_enter Tryz.func57,Tryz.ntmps57
    go_wp2_with fail
    refine(HE.out _).mono ?_
    rintro e w' ⟨rfl,hb⟩
    have HB:=zh hb
    clear hb
    go_wp2_with fail
    go_ret
    exact⟨qe7 HF.out,HB.out⟩
   ·rw[if_neg c1]at hch
    have HF:Hid (0=V):=zh (by rw[HV.out,hch,if_pos rfl])
    clear hch
    go_enter Tryz.func57,Tryz.ntmps57
    go_wp2_with fail
    refine(HE.out _).mono ?_
    rintro e w' ⟨rfl,hb⟩
    have HB:=zh hb
    clear hb
    go_wp2_with fail
    go_ret
    exact⟨qe7 HF.out,HB.out⟩
  ·have h92:(bt s (p+1)==92)=false:=beq_false_of_ne h9
   have HN:=zh (fun W=>qe3 s (p+1) W h1 (by unfold maxLen;omega))
   have e1:((p+1:Nat):Int)=(p:Int)+1:=by omega
   rw[e1]at HN
   have hch:che s p=if nc s (p+1)<=32\/nc s (p+1)=127 then 0 else p+1+nl s (p+1):=by unfold che;rw[if_neg (fun g=>h9 g.2)]
   have l3:=qqj s (p+1)
   obtain⟨v,hv⟩: ∃v,v=nc s (p+1):=⟨_,rfl⟩
   obtain⟨l,hl⟩: ∃l,l=nl s (p+1):=⟨_,rfl⟩
   rw[<-hv,<-hl]at hch HN
   rw[<-hl]at l3
   clear hv hl h9 e1
   obtain⟨d,hd⟩: ∃d,d=bt s (p+1):=⟨_,rfl⟩
   rw[<-hd]at gx h92
   clear hd
   by_cases c1:v<=32
   ·rw[if_pos (.inl c1)]at hch
    have HF:Hid (0=V):=zh (by rw[HV.out,hch,if_pos rfl])
    clear hch
    go_enter Tryz.func57,Tryz.ntmps57
    go_wp2_with fail
    refine(HN.out _).mono ?_
    rintro e w' ⟨rfl,m,rfl⟩
    go_wp2_with fail
    go_ret
    exact⟨qe7 HF.out,qab _ _⟩
   ·by_cases c2:v=127
    ·rw[if_pos (.inr c2)]at hch
     have HF:Hid (0=V):=zh (by rw[HV.out,hch,if_pos rfl])
     clear hch
     subst c2
     go_enter Tryz.func57,Tryz.ntmps57
     go_wp2_with fail
     refine(HN.out _).mono ?_
     rintro e w' ⟨rfl,m,rfl⟩
     go_wp2_with fail
     go_ret
     exact⟨qe7 HF.out,qab _ _⟩
    ·rw[if_neg (by omega)]at hch
     have HF:Hid ((l:Int)+1=V):=zh (by rw[HV.out,hch,if_neg (by omega)];omega)
     have c3:(v==127)=false:=beq_false_of_ne c2
     clear hch c2
     go_enter Tryz.func57,Tryz.ntmps57
     go_wp2_with fail
     refine(HN.out _).mono ?_
     rintro e w' ⟨rfl,m,rfl⟩
     go_wp2_with fail
     go_ret
     exact⟨qe7 HF.out,qab _ _⟩
 ·have HN:=zh (fun W=>qkg s ((p:Int)+1) W (.inr (by omega)))
  have g1:decide ((p:Int)+1< (s.size:Int))=false:=by simp;omega
  have HF:Hid (0=V):=zh (by
   have h2:nc s (p+1)= -1:=by
    unfold nc
    rw[bt_end s (by omega),if_pos]
    exact .inr (by show s.size<p+1+1;omega)
   have:che s p=0:=by unfold che;rw[if_neg (fun g=>h1 g.1),h2,if_pos (.inl (by decide))]
   rw[HV.out,this,if_pos rfl])
  go_enter Tryz.func57,Tryz.ntmps57
  go_wp2_with fail
  refine(HN.out _).mono ?_
  rintro e w' ⟨rfl,m,rfl⟩
  go_wp2_with fail
  go_ret
  exact⟨qe7 HF.out,qab _ _⟩
end Go.Proofs.YtdhadeeajgoedaaGreat
