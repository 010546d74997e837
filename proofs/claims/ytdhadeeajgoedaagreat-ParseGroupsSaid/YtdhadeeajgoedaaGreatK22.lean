/-
  What the claims stand on: PmPot2.
-/
import Derived.Test.YtdhadeeajgoedaaGreatK21
set_option maxRecDepth 100000
set_option maxHeartbeats 4000000
set_option linter.unusedVariables false
set_option linter.unusedSimpArgs false
open Bool renaming false_ne_true→zA
open Nat renaming le_succ→zB,le_succ_of_le→zC,zero_le→zD
namespace Go.Proofs.YtdhadeeajgoedaaGreat
open Go.RowKit Go.PlainAid
section
variable{E:Env}{B b i:Nat}{N:List (Option Nd)}{C:List Chn}{K:List Stp}{u:Option Nat}{τ:PM}{x:Nd}
variable(hB:2<=B)(hK: ∀s∈K,okS s)(hi:i<=E.to)(hN:NB B N)(hC:CB E C)(hz: ∀k,(E.tk k).2.1.size<=1048576)
include hB hK hi hN hC hz
theorem qvd(h:qbh E ⟨i,K,u,N,C⟩=.ok τ):Nxt E B (base E i K+1) τ:=by
 have _u1:=hK
 have _u2:=hi
 have _u3:=hN
 have _u4:=hC
 have _u5:=hB
 have _u6:=hz
 have hup: ∀ {P},Nxt E B P τ->P<=base E i K+1->Nxt E B (base E i K+1) τ:=fun h hp=>⟨h.1,Nat.le_trans h.2 hp⟩
 unfold qbh at h
 simp only at h
 split at h
 ·split at h
  ·exact hup (qgj hK hi hN hC h) (zB _)
  ·split at h
   ·cases h
    exact qah (qa5 ⟨trivial,by decide⟩ hK) hi ((hN.mono (zB _)).app (zD _)) hC (by unfold base;show 1+wtL K+1000*(E.to-i)+0<=_;omega)
   ·split at h
    ·exact hup (quy hK hi hN hC h) (zB _)
    ·split at h
     ·cases h
      exact qah (qa5 ⟨trivial,by decide⟩ hK) hi ((hN.mono (zB _)).app (zD _)) hC (by unfold base;show 1+wtL K+1000*(E.to-i)+0<=_;omega)
     ·split at h
      ·exact hup (qv0 hK hi hN hC h) (zB _)
      ·cases h
 ·split at h
  ·split at h
   ·exact hup (fun_bd hK hi hN hC h) (zB _)
   ·split at h
    ·have h:(msE E 8 [99,97,115,101] i >>= fun j=>.ok ⟨j,.expr 0:: .into N.length:: .want 8 [111,102]:: .row N.length [59] (.item .patC)::qa9 N.length::K,u,N++[some (nk 18 [])],C⟩)=.ok τ:=h
     obtain⟨j,h1,h2⟩:=qa7 h
     obtain⟨rfl,h3⟩:=qdu (by decide) h1
     cases h2
     exact qah (qa5 (by first | trivial | exact okW9 _ | exact okW8 _ | exact okT9 _ _ | exact okT8 _) (qa5 (by first | trivial | exact okW9 _ | exact okW8 _ | exact okT9 _ _ | exact okT8 _) (qa5 (by first | trivial | exact okW9 _ | exact okW8 _ | exact okT9 _ _ | exact okT8 _) (qa5 ⟨⟨trivial,by decide⟩,by decide⟩ (qa5 (by first | trivial | exact okW9 _ | exact okW8 _ | exact okT9 _ _ | exact okT8 _) hK))))) h3 ((hN.mono (zB _)).app (zD _)) hC (by unfold base;show 4+(1+(1+((25+2+3)+(1+wtL K))))+1000*(E.to- (i+1))+3<=_;omega)
    ·split at h
     ·have h:(msE E 8 [105,102] i >>= fun j=>.ok ⟨j,.row N.length [59] (.item .tstC)::qa9 N.length::K,u,N++[some (nk 19 [])],C⟩)=.ok τ:=h
      obtain⟨j,h1,h2⟩:=qa7 h
      obtain⟨rfl,h3⟩:=qdu (by decide) h1
      cases h2
      exact qah (qa5 ⟨⟨trivial,by decide⟩,by decide⟩ (qa5 (by first | trivial | exact okW9 _ | exact okW8 _ | exact okT9 _ _ | exact okT8 _) hK)) h3 ((hN.mono (zB _)).app (zD _)) hC (by unfold base;show(31+2+3)+(1+wtL K)+1000*(E.to- (i+1))+3<=_;omega)
     ·split at h
      ·have h:(msE E 8 [114,101,99,101,105,118,101] i >>= fun j=>if E.word (pz j) [97,102,116,101,114]=true then .ok ⟨j,.last N.length::qa9 N.length::K,u,N++[some (nk 20 [])],C⟩else .ok ⟨j,.row N.length [59] (.item .patC):: .last N.length::qa9 N.length::K,u,N++[some (nk 20 [])],C⟩)=.ok τ:=h
       obtain⟨j,h1,h2⟩:=qa7 h
       obtain⟨rfl,h3⟩:=qdu (by decide) h1
       split at h2
       ·cases h2
        exact qah (qa5 (by first | trivial | exact okW9 _ | exact okW8 _ | exact okT9 _ _ | exact okT8 _) (qa5 (by first | trivial | exact okW9 _ | exact okW8 _ | exact okT9 _ _ | exact okT8 _) hK)) h3 ((hN.mono (zB _)).app (zD _)) hC (by unfold base;show 5+(1+wtL K)+1000*(E.to- (i+1))+3<=_;omega)
       ·cases h2
        exact qah (qa5 ⟨⟨trivial,by decide⟩,by decide⟩ (qa5 (by first | trivial | exact okW9 _ | exact okW8 _ | exact okT9 _ _ | exact okT8 _) (qa5 (by first | trivial | exact okW9 _ | exact okW8 _ | exact okT9 _ _ | exact okT8 _) hK))) h3 ((hN.mono (zB _)).app (zD _)) hC (by unfold base;show(25+2+3)+(5+(1+wtL K))+1000*(E.to- (i+1))+3<=_;omega)
      ·split at h
       ·have h:(msE E 8 [98,101,103,105,110] i >>= fun j=>.ok ⟨j,.body:: .into N.length::qa9 N.length::K,u,N++[some (nk 21 [])],C⟩)=.ok τ:=h
        obtain⟨j,h1,h2⟩:=qa7 h
        obtain⟨rfl,h3⟩:=qdu (by decide) h1
        cases h2
        exact qah (qa5 (by first | trivial | exact okW9 _ | exact okW8 _ | exact okT9 _ _ | exact okT8 _) (qa5 (by first | trivial | exact okW9 _ | exact okW8 _ | exact okT9 _ _ | exact okT8 _) (qa5 (by first | trivial | exact okW9 _ | exact okW8 _ | exact okT9 _ _ | exact okT8 _) hK))) h3 ((hN.mono (zB _)).app (zD _)) hC (by unfold base;show 13+(1+(1+wtL K))+1000*(E.to- (i+1))+3<=_;omega)
       ·cases h
  ·exact hup (qta hK hi hN hC h) (zB _)
theorem qik{c:Nat}(h:qbm E c ⟨i,K,u,N,C⟩=.ok τ):Nxt E B (base E i K+3) τ:=by
 have _u1:=hK
 have _u2:=hi
 have _u3:=hN
 have _u4:=hC
 have _u5:=hB
 have _u6:=hz
 have h:((⟨i,K,u,N,C⟩:PM).ch c >>= fun h=>(match h.lf with
  | none=>.error .stuck
  | some l=>if(bn (opE E i).toList:Int)<max h.lv 1\/h.hs< (lf (opE E i).toList:Int)then(undL (List.replicate h.ct ⟨#[99,97,116,99,104]⟩) l ⟨i,K,u,N,C⟩ >>= fun r=>.ok (r.2.is r.1))else(tkE E i >>= fun j=>.ok ⟨j,.expr (rt (opE E i).toList:Int):: .join c (opE E i) (bn (opE E i).toList)::K,u,N,C⟩):Rs PM))=.ok τ:=h
 obtain⟨ch,h1,h2⟩:=qa7 h
 split at h2
 ·cases h2
 ·split at h2
  ·obtain⟨r,h3,h4⟩:=qa7 h2
   obtain⟨q1,q2,q3,q4⟩:=qkd (b:=B) _ _ _ _ h3 (by omega) hN
   cases h4
   have q2:r.2.i=i:=q2
   have q3:r.2.k=K:=q3
   have q4:r.2.C=C:=q4
   have:=qcx K
   refine⟨⟨?_,?_,NB.mono q1 (zB _),?_⟩,?_⟩
   ·show∀s∈r.2.k,okS s
    rw[q3];exact hK
   ·show r.2.i<=E.to
    rw[q2];exact hi
   ·show CB E r.2.C
    rw[q4];exact hC
   ·show wtL r.2.k+1000*(E.to-r.2.i)+pend r.2.k<=_
    rw[q3,q2];unfold base;omega
  ·rename_i hc
   obtain⟨j,h3,h4⟩:=qa7 h2
   obtain⟨rfl,h5⟩:=qw4 (opE_bn (fun e=>hc (.inl (by
    have:(1:Int)<=max ch.lv 1:=Int.le_max_right _ _
    omega)))) h3
   cases h4
   exact qah (qa5 (by first | trivial | exact okW9 _ | exact okW8 _ | exact okT9 _ _ | exact okT8 _) (qa5 (qtf hz i) hK)) h5 (hN.mono (zB _)) hC (by unfold base;show 4+(1+wtL K)+1000*(E.to- (i+1))+3<=_;omega)
theorem qll(h:qbk E ⟨i,K,u,N,C⟩=.ok τ):Nxt E B (base E i K) τ:=by
 have _u1:=hK
 have _u2:=hi
 have _u3:=hN
 have _u4:=hC
 have _u5:=hB
 have _u6:=hz
 have h:((⟨i,K,u,N,C⟩:PM).cur >>= fun x=>msE E 9 [35] i >>= fun q=>if E.sign (pz q) [123]=true then .ok ⟨q,.box (N.set x.1 none).length [123] .pair::K,u,N.set x.1 none++[some (nk 9 [x.2])],C⟩else(txE E nmk q >>= fun r=>sgE E 9 [46] r.2 >>= fun d=>if d.1=true then(txE E (· ==1) d.2 >>= fun a=>.ok ⟨a.2,K,some N.length,N.set x.1 none++[some (nkt 12 (scE E (a.2-q) q) [x.2])],C⟩)else .ok ⟨d.2,.box (N.set x.1 none).length [123] (.expr 0)::K,u,N.set x.1 none++[some (nkt 11 r.1 [x.2])],C⟩))=.ok τ:=h
 obtain⟨x,h0,h⟩:=qa7 h
 obtain⟨j,h1,h2⟩:=qa7 h
 obtain⟨rfl,h3⟩:=qdu (by decide) h1
 have hN2:=(hN.none x.1).mono (zB B)
 split at h2
 ·cases h2
  exact qah (qa5 ⟨trivial,by decide⟩ hK) h3 (hN2.app (by show 1<=B+1;omega)) hC (by unfold base;show 1+wtL K+1000*(E.to- (i+1))+0<=_;omega)
 ·obtain⟨⟨t,j1⟩,a1,h2⟩:=qa7 h2
  obtain⟨rfl,a2⟩:=qgu (by decide) a1
  obtain⟨⟨bb,j2⟩,a3,h2⟩:=qa7 h2
  have a4:i+1+1<=j2/\j2<=E.to:=by
   rcases qgr (by decide) a3 with⟨-,e,e2⟩ | ⟨-,e⟩
   ·have e:j2=i+1+1+1:=e
    have e2:i+1+1<E.to:=e2
    omega
   ·have e:j2=i+1+1:=e
    omega
  split at h2
  ·obtain⟨⟨t3,j4⟩,a9,h2⟩:=qa7 h2
   obtain⟨e,a10⟩:=qgu (by decide) a9
   have e:j4=j2+1:=e
   have a10:j2<E.to:=a10
   subst e
   cases h2
   have:=qcx K
   exact qah hK (by show j2+1<=E.to;omega) (hN2.app (by show 1<=B+1;omega)) hC (by unfold base;show wtL K+1000*(E.to- (j2+1))+pend K<=_;omega)
  ·cases h2
   exact qah (qa5 ⟨trivial,by decide⟩ hK) (by show j2<=E.to;omega) (hN2.app (by show 1<=B+1;omega)) hC (by unfold base;show 1+wtL K+1000*(E.to-j2)+0<=_;omega)
theorem qm0{lv:Int}{left:Nat}(ss:List Bs)(hs: ∀s∈ss,s.length<=1048576)(h:qcj E lv left ss ⟨i,K,u,N,C⟩=.ok τ):Nxt E B (base E i K+3) τ:=by
 have _u1:=hK
 have _u2:=hi
 have _u3:=hN
 have _u4:=hC
 have _u5:=hB
 have _u6:=hz
 induction ss with
 | nil=>
  cases h
  have:=qcx K
  exact qah hK hi (hN.mono (zB _)) hC (by unfold base;omega)
 | cons s r ih=>
  have h:(sgE E 9 s i >>= fun q=>if q.1=true then .ok ⟨q.2,.expr lv:: .per2 s left::K,u,N,C⟩else qcj E lv left r ⟨i,K,u,N,C⟩)=.ok τ:=h
  obtain⟨⟨bb,j⟩,h1,h2⟩:=qa7 h
  rcases qgr (by decide) h1 with⟨rfl,rfl,h3⟩ | ⟨rfl,rfl⟩
  ·rw[if_pos rfl]at h2
   cases h2
   exact qah (qa5 (by first | trivial | exact okW9 _ | exact okW8 _ | exact okT9 _ _ | exact okT8 _) (qa5 (hs s (List.mem_cons_self ..)) hK)) h3 (hN.mono (zB _)) hC (by unfold base;show 4+(1+wtL K)+1000*(E.to- (i+1))+3<=_;omega)
  ·rw[if_neg zA]at h2
   exact ih (fun x hx=>hs x (List.mem_cons_of_mem _ hx)) h2
end
theorem qsg(E:Env)(i:Nat)(u:Option Nat)(K:List Stp)(N:List (Option Nd))(C:List Chn):stp E .sized ⟨i,K,u,N,C⟩=(sgE E 9 [58] i >>= fun a=>(if a.1=true then(txE E szk a.2).map (·.2)else .ok a.2) >>= fun b=>sgE E 9 [47] b >>= fun c=>(if c.1=true then tyL E (E.to+2) c.2 else .ok c.2) >>= fun d=>if i<d then((⟨i,K,u,N,C⟩:PM).cur >>= fun x=>.ok ((((⟨i,K,u,N,C⟩:PM).mv x.1).at_ d).got (nkt 7 (scE E (d-i) i) [x.2])))else .ok ⟨i,K,u,N,C⟩):=by
 simp only[stp]
 congr 1
 funext a
 have hb: ∀b,(sgE E 9 [47] b >>= fun c=>if c.1=true then(tyL E (E.to+2) c.2 >>= fun d=>if i<d then((⟨i,K,u,N,C⟩:PM).cur >>= fun x=>.ok ((((⟨i,K,u,N,C⟩:PM).mv x.1).at_ d).got (nkt 7 (scE E (d-i) i) [x.2])))else .ok ⟨i,K,u,N,C⟩)else(if i<c.2 then((⟨i,K,u,N,C⟩:PM).cur >>= fun x=>.ok ((((⟨i,K,u,N,C⟩:PM).mv x.1).at_ c.2).got (nkt 7 (scE E (c.2-i) i) [x.2])))else .ok ⟨i,K,u,N,C⟩))=(sgE E 9 [47] b >>= fun c=>(if c.1=true then tyL E (E.to+2) c.2 else .ok c.2) >>= fun d=>if i<d then((⟨i,K,u,N,C⟩:PM).cur >>= fun x=>.ok ((((⟨i,K,u,N,C⟩:PM).mv x.1).at_ d).got (nkt 7 (scE E (d-i) i) [x.2])))else .ok ⟨i,K,u,N,C⟩):=fun b=>by
  congr 1
  funext c
  split<;>rfl
 split
 ·congr 1
  funext b
  exact hb b
 ·exact hb _
section
variable{E:Env}{B i:Nat}{N:List (Option Nd)}{C:List Chn}{K:List Stp}{u:Option Nat}{τ:PM}{s:Stp}
theorem qto(hz: ∀k,(E.tk k).2.1.size<=1048576)(hB:2<=B)(hb:Bd E B ⟨i,s::K,u,N,C⟩)(h:stp E s ⟨i,K,u,N,C⟩=.ok τ):Bd E (B+1) τ/\pot E τ<pot E ⟨i,s::K,u,N,C⟩:=by
 have hK: ∀x∈K,okS x:=fun x hx=>hb.ok x (List.mem_cons_of_mem _ hx)
 have hs:okS s:=hb.ok s (List.mem_cons_self ..)
 have hi:i<=E.to:=hb.i
 have hN:NB B N:=hb.N
 have hC:CB E C:=hb.C
 have hN1:=hN.mono (zB B)
 have hpK:=qcx K
 have hp:pot E ⟨i,s::K,u,N,C⟩=wt s+wtL K+1000*(E.to-i)+pend (s::K):=rfl
 have hup: ∀ {P},Nxt E B P τ->P<wt s+wtL K+1000*(E.to-i)+pend (s::K)->Bd E (B+1) τ/\pot E τ<pot E ⟨i,s::K,u,N,C⟩:=fun h hp=>⟨h.1,Nat.lt_of_le_of_lt h.2 hp⟩
 cases s with
 | expr lv=>
  have h:(ctL E lv (E.to+2) i 0 >>= fun a=>pfL E (E.to+2) a.2 [] >>= fun b=>.ok ⟨b.2,.prim:: .folw C.length::K,u,N,C++[{ lv:=lv,ct:=a.1,ah:=b.1,st:=E.sign (pz b.2) [40],hs:=if b.1=[]then 11 else 10 }]⟩)=.ok τ:=h
  obtain⟨⟨q,i1⟩,h1,h⟩:=qa7 h
  obtain⟨⟨P,i2⟩,h2,h⟩:=qa7 h
  have h3:=ct_pl lv _ _ _ _ h1 hi
  have h4:=pf_pl hz _ _ _ _ h2 h3.2.1 (fun X hX=>by cases hX)
  simp only at h3 h4
  cases h
  refine hup (P:=3+wtL K+1000*(E.to-i2)+3) (qah (qa5 (by first | trivial | exact okW9 _ | exact okW8 _ | exact okT9 _ _ | exact okT8 _) (qa5 (by first | trivial | exact okW9 _ | exact okW8 _ | exact okT9 _ _ | exact okT8 _) hK)) h4.2.1 hN1 (hC.app ⟨by show q<=_;omega,by show P.length<=_;have:=h4.2.2.1;simp only[List.length_nil]at this;omega,h4.2.2.2⟩) (by show 2+(1+wtL K)+1000*(E.to-i2)+3<=_;omega)) ?_
  show _<4+wtL K+1000*(E.to-i)+3
  omega
 | prim=>exact hup (qvd hB hK hi hN hC hz h) (by unfold base;show _<2+wtL K+1000*(E.to-i)+3;omega)
 | folw c=>
  have h:((⟨i,K,u,N,C⟩:PM).ch c >>= fun h=>(⟨i,K,u,N,C⟩:PM).cur >>= fun x=>(match qat E h x.2 i with
   | some s=>.ok ⟨i,s:: .folw c::K,u,N,C.set c { h with st:=false }⟩
   | none=>undL h.ah.reverse x.1 ⟨i,K,u,N,C⟩ >>= fun r=>qbm E c (r.2.setC c { h with lf:=some r.1 }):Rs PM))=.ok τ:=h
  obtain⟨ch,h1,h⟩:=qa7 h
  obtain⟨x,h2,h⟩:=qa7 h
  have hch:=ch_in h1
  split at h
  ·rename_i t ht
   cases h
   have hpd:okS t/\wt t<=2/\pend (t:: .folw c::K)=0:=by
    unfold qat at ht
    split at ht
    ·cases ht
    ·split at ht
     ·cases ht;exact⟨trivial,by decide,rfl⟩
     ·split at ht
      ·cases ht;exact⟨trivial,by decide,rfl⟩
      ·split at ht
       ·cases ht;exact⟨trivial,by decide,rfl⟩
       ·cases ht
   refine hup (P:=wt t+(1+wtL K)+1000*(E.to-i)+0) (qah (qa5 hpd.1 (qa5 (by first | trivial | exact okW9 _ | exact okW8 _ | exact okT9 _ _ | exact okT8 _) hK)) hi hN1 (hC.set hch rfl rfl) (by rw[hpd.2.2];exact Nat.le_refl _)) ?_
   show _<1+wtL K+1000*(E.to-i)+3
   omega
  ·obtain⟨r,h3,h4⟩:=qa7 h
   obtain⟨q1,q2,q3,q4⟩:=qkd (b:=B) _ _ _ _ h3 (by omega) hN
   obtain⟨r1,σ1⟩:=r
   obtain⟨ri,rk,rn,rN,rC⟩:=σ1
   have q2:ri=i:=q2
   have q3:rk=K:=q3
   have q4:rC=C:=q4
   have h4:qbm E c ⟨ri,rk,rn,rN,rC.set c { ch with lf:=some r1 }⟩=.ok τ:=h4
   rw[q2,q3,q4]at h4
   exact hup (qik (c:=c) (u:=rn) (N:=rN) (C:=C.set c { ch with lf:=some r1 }) hB hK hi q1 (CB.set hC hch rfl rfl) hz h4) (by unfold base;show _<1+wtL K+1000*(E.to-i)+3;omega)
 | join c op own=>
  have h:((⟨i,K,u,N,C⟩:PM).ch c >>= fun h=>(⟨i,K,u,N,C⟩:PM).cur >>= fun x=>(match h.lf with
   | none=>.error .stuck
   | some l=>twoE op l x.1 ⟨i,K,u,N,C⟩ >>= fun τ=>qbm E c (τ.setC c { h with lf:=some N.length,hs:=own }):Rs PM))=.ok τ:=h
  obtain⟨ch,h1,h⟩:=qa7 h
  obtain⟨x,h2,h⟩:=qa7 h
  have hch:=ch_in h1
  split at h
  ·cases h
  ·obtain⟨σ1,h3,h4⟩:=qa7 h
   rename_i l _
   have h3:((⟨i,K,u,N,C⟩:PM).nd l >>= fun a=>(⟨i,K,u,N,C⟩:PM).nd x.1 >>= fun b=>if l=x.1 then .error .stuck else .ok ⟨i,K,u,((N.set l none).set x.1 none)++[some (nkt 14 op [a,b])],C⟩)=.ok σ1:=h3
   obtain⟨a,_,h3⟩:=qa7 h3
   obtain⟨b,_,h3⟩:=qa7 h3
   split at h3
   ·cases h3
   ·cases h3
    exact hup (qik (c:=c) (u:=u) (N:=((N.set l none).set x.1 none)++[some (nkt 14 op [a,b])]) (C:=C.set c { ch with lf:=some N.length,hs:=own }) hB hK hi (((hN.none l).none x.1).app (by show 2<=B;exact hB)) (CB.set hC hch rfl rfl) hz h4) (by unfold base;show _<1+wtL K+1000*(E.to-i)+3;omega)
 | call=>
  have h:((⟨i,K,u,N,C⟩:PM).cur >>= fun x=>.ok ⟨i,.box (N.set x.1 none).length [40] (.expr 0)::K,u,N.set x.1 none++[some (nk 2 [x.2])],C⟩)=.ok τ:=h
  obtain⟨x,h2,h⟩:=qa7 h
  cases h
  exact hup (P:=1+wtL K+1000*(E.to-i)+0) (qah (qa5 ⟨trivial,by decide⟩ hK) hi ((hN1.none _).app (by show 1<=B+1;omega)) hC (Nat.le_refl _)) (by show _<2+wtL K+1000*(E.to-i)+0;omega)
 | chgd=>exact hup (qll hB hK hi hN hC hz h) (by unfold base;show _<1+wtL K+1000*(E.to-i)+0;omega)
 | remo=>
  have h:((⟨i,K,u,N,C⟩:PM).cur >>= fun x=>msE E 9 [58] i >>= fun j=>.ok ⟨j,.clld:: .into N.length::K,u,N.set x.1 none++[some (nk 3 [x.2])],C⟩)=.ok τ:=h
  obtain⟨x,h2,h⟩:=qa7 h
  obtain⟨j,h3,h⟩:=qa7 h
  obtain⟨rfl,h4⟩:=qdu (by decide) h3
  cases h
  exact hup (P:=2+wtL K+1000*(E.to- (i+1))+3) (qah (qa5 (by first | trivial | exact okW9 _ | exact okW8 _ | exact okT9 _ _ | exact okT8 _) (qa5 (by first | trivial | exact okW9 _ | exact okW8 _ | exact okT9 _ _ | exact okT8 _) hK)) h4 ((hN1.none _).app (by show 1<=B+1;omega)) hC (by show 1+(1+wtL K)+1000*(E.to- (i+1))+3<=_;omega)) (by show _<1+wtL K+1000*(E.to-i)+0;omega)
 | clld=>
  have h:(if E.sign (pz i) [40]=true then qbc E ⟨i,K,u,N,C⟩else(txE E nmk i >>= fun r=>.ok (((⟨i,K,u,N,C⟩:PM).at_ r.2).got (nkt 1 r.1 []))))=.ok τ:=h
  split at h
  ·exact hup (qgj hK hi hN hC h) (by unfold base;show _<1+wtL K+1000*(E.to-i)+3;omega)
  ·obtain⟨⟨t,j⟩,h1,h2⟩:=qa7 h
   obtain⟨rfl,h3⟩:=qgu (by decide) h1
   cases h2
   exact hup (P:=wtL K+1000*(E.to- (i+1))+3) (qah hK h3 (hN1.app (zD _)) hC (by show wtL K+1000*(E.to- (i+1))+pend K<=_;omega)) (by show _<1+wtL K+1000*(E.to-i)+3;omega)
 | into n=>
  have h:((⟨i,K,u,N,C⟩:PM).cur >>= fun x=>(⟨i,K,u,N,C⟩:PM).nd n >>= fun y=>if x.1=n then .error .stuck else .ok ⟨i,K,some n,(N.set x.1 none).set n (some (y.add [x.2])),C⟩)=.ok τ:=h
  obtain⟨x,h1,h⟩:=qa7 h
  obtain⟨y,h2,h⟩:=qa7 h
  split at h
  ·cases h
  ·cases h
   have h3:=hN n y (qjp h2)
   exact hup (P:=wtL K+1000*(E.to-i)+3) (qah hK hi ((hN1.none _).set (by cases y;simp only[Nd.add,Nd.ls,List.length_append,List.length_cons,List.length_nil]at h3⊢;omega) n) hC (by show wtL K+1000*(E.to-i)+pend K<=_;omega)) (by show _<1+wtL K+1000*(E.to-i)+3;omega)
 | tail n k t=>exact hup (qk5 hK hi hN hC hs h) (by unfold base;show _<1+wtL K+1000*(E.to-i)+3;omega)
 | item o=>
  cases h
  have h3:=nt_pl (E:=E) (i:=i) hi
  exact hup (P:=wt o+(1+wtL K)+1000*(E.to- (ntE E i).2)+3) (qah (qa5 hs.1 (qa5 (by first | trivial | exact okW9 _ | exact okW8 _ | exact okT9 _ _ | exact okT8 _) hK)) h3.2 hN1 hC (by have:=qcx (o:: .nots (ntE E i).1::K);show wt o+(1+wtL K)+1000*(E.to- (ntE E i).2)+pend (o:: .nots (ntE E i).1::K)<=_;omega)) (by show _< (wt o+2)+wtL K+1000*(E.to-i)+3;omega)
 | nots T=>
  have h:((⟨i,K,u,N,C⟩:PM).cur >>= fun x=>.ok ⟨i,K,u,N.set x.1 (some (x.2.notes' T)),C⟩)=.ok τ:=h
  obtain⟨x,h1,h⟩:=qa7 h
  have h3:=hN x.1 x.2 (qt4 h1).2
  cases h
  exact hup (P:=wtL K+1000*(E.to-i)+3) (qah hK hi (hN1.set (by obtain⟨j,y⟩:=x;cases y;exact zC h3) x.1) hC (by show wtL K+1000*(E.to-i)+pend K<=_;omega)) (by show _<1+wtL K+1000*(E.to-i)+3;omega)
 | row n t o=>
  cases h
  exact hup (P:=wt o+(1+(1+wtL K))+1000*(E.to-i)+3) (qah (qa5 hs.1 (qa5 (by first | trivial | exact okW9 _ | exact okW8 _ | exact okT9 _ _ | exact okT8 _) (qa5 hs hK))) hi hN1 hC (by have:=qcx (o:: .into n:: .more n t o::K);show wt o+(1+(1+wtL K))+1000*(E.to-i)+pend (o:: .into n:: .more n t o::K)<=_;omega)) (by show _< (wt o+3)+wtL K+1000*(E.to-i)+3;omega)
 | more n t o=>
  have h:(sgE E 9 t i >>= fun q=>if q.1=true then .ok ⟨q.2,o:: .into n:: .more n t o::K,u,N,C⟩else .ok ⟨i,K,u,N,C⟩)=.ok τ:=h
  obtain⟨⟨bb,j⟩,h1,h2⟩:=qa7 h
  rcases qgr (by decide) h1 with⟨rfl,rfl,h3⟩ | ⟨rfl,rfl⟩
  ·rw[if_pos rfl]at h2
   cases h2
   have ho:wt o<=100:=hs.2
   exact hup (P:=wt o+(1+(1+wtL K))+1000*(E.to- (i+1))+3) (qah (qa5 hs.1 (qa5 (by first | trivial | exact okW9 _ | exact okW8 _ | exact okT9 _ _ | exact okT8 _) (qa5 hs hK))) h3 hN1 hC (by have:=qcx (o:: .into n:: .more n t o::K);show wt o+(1+(1+wtL K))+1000*(E.to- (i+1))+pend (o:: .into n:: .more n t o::K)<=_;omega)) (by show _<1+wtL K+1000*(E.to-i)+3;omega)
  ·rw[if_neg zA]at h2
   cases h2
   exact hup (P:=wtL K+1000*(E.to-j)+3) (qah hK hi hN1 hC (by show wtL K+1000*(E.to-j)+pend K<=_;omega)) (by show _<1+wtL K+1000*(E.to-j)+3;omega)
 | want k t=>
  have h:(msE E k t i >>= fun j=>.ok ⟨j,K,u,N,C⟩)=.ok τ:=h
  obtain⟨j,h1,h2⟩:=qa7 h
  obtain⟨rfl,h3⟩:=qdu hs h1
  cases h2
  exact hup (P:=wtL K+1000*(E.to- (i+1))+3) (qah hK h3 hN1 hC (by show wtL K+1000*(E.to- (i+1))+pend K<=_;omega)) (by show _<1+wtL K+1000*(E.to-i)+3;omega)
 | box n o one=>
  have h:((⟨i,K,u,N,C⟩:PM).nd n >>= fun x=>msE E 9 o i >>= fun j=>if E.sign (pz j) (qer o)=true then .ok ⟨j,.tail n 9 (qer o)::K,u,N.set n (some (x.brk' (brE E j))),C⟩else .ok ⟨j,.row n [44] (.item one):: .tail n 9 (qer o)::K,u,N.set n (some (x.brk' (brE E j))),C⟩)=.ok τ:=h
  obtain⟨x,h1,h⟩:=qa7 h
  obtain⟨j,h2,h⟩:=qa7 h
  obtain⟨rfl,h3⟩:=qdu (by decide) h2
  have h4:=hN n x (qjp h1)
  have h5:(x.brk' (brE E (i+1))).ls.length<=B+1:=by cases x;exact zC h4
  have ho:wt one<=90:=hs.2
  have hw:wt (.row n [44] (.item one))=wt one+2+3:=rfl
  split at h
  ·cases h
   exact hup (P:=1+wtL K+1000*(E.to- (i+1))+3) (qah (qa5 (by first | trivial | exact okW9 _ | exact okW8 _ | exact okT9 _ _ | exact okT8 _) hK) h3 (hN1.set h5 n) hC (by show 1+wtL K+1000*(E.to- (i+1))+3<=_;omega)) (by show _<1+wtL K+1000*(E.to-i)+0;omega)
  ·cases h
   have hok:okS (.row n [44] (.item one)):=⟨⟨hs.1,by omega⟩,by show wt one+2<=100;omega⟩
   exact hup (P:=(wt one+2+3)+(1+wtL K)+1000*(E.to- (i+1))+3) (qah (qa5 hok (qa5 (by first | trivial | exact okW9 _ | exact okW8 _ | exact okT9 _ _ | exact okT8 _) hK)) h3 (hN1.set h5 n) hC (by show(wt one+2+3)+(1+wtL K)+1000*(E.to- (i+1))+3<=_;omega)) (by show _<1+wtL K+1000*(E.to-i)+0;omega)
 | listK n=>
  have h:((⟨i,K,u,N,C⟩:PM).nd n >>= fun x=>sgE E 9 [124,124] i >>= fun q=>if q.1=true then(match x with
   | .mk _ t [y] br bl no ta=>match y with
    | .mk _ _ _ _ _ [] _=>.ok ⟨q.2,.row n [44] (.perh 3 [[60,45],[60,61]]):: .want 9 [93]::K,u,N.set n (some (.mk 15 t [y] br bl no ta)),C⟩
    | _=>.error .die
   | _=>.error .die)
   else(sgE E 9 [124] i >>= fun r=>if r.1=true then .ok ⟨r.2,.expr 3:: .into n:: .tail n 9 [93]::K,u,N.set n (some (x.txt' ⟨#[124]⟩)),C⟩else qcm E n 9 [93] ⟨i,K,u,N,C⟩))=.ok τ:=h
  obtain⟨x,h1,h⟩:=qa7 h
  obtain⟨⟨bb,j⟩,h2,h⟩:=qa7 h
  have h4:=hN n x (qjp h1)
  rcases qgr (by decide) h2 with⟨rfl,rfl,h3⟩ | ⟨rfl,rfl⟩
  ·rw[if_pos rfl]at h
   split at h
   ·split at h
    ·cases h
     refine hup (P:=(6+3)+(1+wtL K)+1000*(E.to- (i+1))+3) (qah (qa5 ⟨?_,by decide⟩ (qa5 (by first | trivial | exact okW9 _ | exact okW8 _ | exact okT9 _ _ | exact okT8 _) hK)) h3 (hN1.set (by show 1<=B+1;omega) n) hC (by show(6+3)+(1+wtL K)+1000*(E.to- (i+1))+3<=_;omega)) (by show _<1+wtL K+1000*(E.to-i)+3;omega)
     show∀s∈[[60,45],[60,61]],s.length<=1048576
     decide
    ·cases h
   ·cases h
  ·rw[if_neg zA]at h
   obtain⟨⟨bb,j1⟩,h5,h⟩:=qa7 h
   rcases qgr (by decide) h5 with⟨rfl,rfl,h3⟩ | ⟨rfl,rfl⟩
   ·rw[if_pos rfl]at h
    cases h
    exact hup (P:=4+(1+(1+wtL K))+1000*(E.to- (j+1))+3) (qah (qa5 (by first | trivial | exact okW9 _ | exact okW8 _ | exact okT9 _ _ | exact okT8 _) (qa5 (by first | trivial | exact okW9 _ | exact okW8 _ | exact okT9 _ _ | exact okT8 _) (qa5 (by first | trivial | exact okW9 _ | exact okW8 _ | exact okT9 _ _ | exact okT8 _) hK))) h3 (hN1.set (by cases x;exact zC h4) n) hC (by show 4+(1+(1+wtL K))+1000*(E.to- (j+1))+3<=_;omega)) (by show _<1+wtL K+1000*(E.to-j)+3;omega)
   ·rw[if_neg zA]at h
    exact hup (qk5 hK hi hN hC (by decide) h) (by unfold base;show _<1+wtL K+1000*(E.to-j1)+3;omega)
 | perh lv ss=>
  cases h
  exact hup (P:=4+(1+wtL K)+1000*(E.to-i)+3) (qah (qa5 (by first | trivial | exact okW9 _ | exact okW8 _ | exact okT9 _ _ | exact okT8 _) (qa5 hs hK)) hi hN1 hC (by show 4+(1+wtL K)+1000*(E.to-i)+3<=_;omega)) (by show _<6+wtL K+1000*(E.to-i)+3;omega)
 | perM lv ss=>
  have h:(match u with
   | some j=>qcj E lv j ss ⟨i,K,u,N,C⟩
   | none=>.error .stuck)=.ok τ:=h
  split at h
  ·exact hup (qm0 hB hK hi hN hC hz ss hs h) (by unfold base;show _<1+wtL K+1000*(E.to-i)+3;omega)
  ·cases h
 | per2 op l=>
  have h:((⟨i,K,u,N,C⟩:PM).cur >>= fun x=>twoE ⟨op.toArray⟩ l x.1 ⟨i,K,u,N,C⟩ >>= fun τ=>.ok (τ.is N.length))=.ok τ:=h
  obtain⟨x,h1,h⟩:=qa7 h
  obtain⟨σ1,h3,h4⟩:=qa7 h
  have h3:((⟨i,K,u,N,C⟩:PM).nd l >>= fun a=>(⟨i,K,u,N,C⟩:PM).nd x.1 >>= fun b=>if l=x.1 then .error .stuck else .ok ⟨i,K,u,((N.set l none).set x.1 none)++[some (nkt 14 ⟨op.toArray⟩ [a,b])],C⟩)=.ok σ1:=h3
  obtain⟨a,_,h3⟩:=qa7 h3
  obtain⟨b,_,h3⟩:=qa7 h3
  split at h3
  ·cases h3
  ·cases h3
   cases h4
   exact hup (P:=wtL K+1000*(E.to-i)+3) (qah hK hi (((hN1.none l).none x.1).app (by show 2<=B+1;omega)) hC (by show wtL K+1000*(E.to-i)+pend K<=_;omega)) (by show _<1+wtL K+1000*(E.to-i)+3;omega)
 | bodyO n=>
  have h:((⟨i,K,u,N,C⟩:PM).nd n >>= fun x=>.ok ⟨i,.item (.expr 0):: .blnk (!x.ls.isEmpty&&blE E i)::K,u,N,C⟩)=.ok τ:=h
  obtain⟨x,h1,h⟩:=qa7 h
  cases h
  exact hup (P:=6+(1+wtL K)+1000*(E.to-i)+3) (qah (qa5 ⟨trivial,by decide⟩ (qa5 (by first | trivial | exact okW9 _ | exact okW8 _ | exact okT9 _ _ | exact okT8 _) hK)) hi hN1 hC (by show 6+(1+wtL K)+1000*(E.to-i)+3<=_;omega)) (by show _<9+wtL K+1000*(E.to-i)+3;omega)
 | blnk t=>
  have h:((⟨i,K,u,N,C⟩:PM).cur >>= fun x=>.ok ⟨i,K,u,N.set x.1 (some (x.2.blk' t)),C⟩)=.ok τ:=h
  obtain⟨x,h1,h⟩:=qa7 h
  have h3:=hN x.1 x.2 (qt4 h1).2
  cases h
  exact hup (P:=wtL K+1000*(E.to-i)+3) (qah hK hi (hN1.set (by obtain⟨j,y⟩:=x;cases y;exact zC h3) x.1) hC (by show wtL K+1000*(E.to-i)+pend K<=_;omega)) (by show _<1+wtL K+1000*(E.to-i)+3;omega)
 | val=>
  have h:(if E.sign (pz i) [40]=true then qbc E ⟨i,K,u,N,C⟩else if E.sign (pz i) [60,60]=true then .ok ⟨i,.box N.length [60,60] .segm::K,u,N++[some (nk 6 [])],C⟩else litE E ⟨i,K,u,N,C⟩)=.ok τ:=h
  split at h
  ·exact hup (qgj hK hi hN hC h) (by unfold base;show _<2+wtL K+1000*(E.to-i)+3;omega)
  ·split at h
   ·cases h
    exact hup (P:=1+wtL K+1000*(E.to-i)+0) (qah (qa5 ⟨trivial,by decide⟩ hK) hi (hN1.app (zD _)) hC (Nat.le_refl _)) (by show _<2+wtL K+1000*(E.to-i)+3;omega)
   ·exact hup (qta hK hi hN hC h) (by unfold base;show _<2+wtL K+1000*(E.to-i)+3;omega)
 | sized=>
  have hfin: ∀d,i<=d->d<=E.to->(if i<d then((⟨i,K,u,N,C⟩:PM).cur >>= fun x=>.ok ((((⟨i,K,u,N,C⟩:PM).mv x.1).at_ d).got (nkt 7 (scE E (d-i) i) [x.2])))else .ok ⟨i,K,u,N,C⟩)=.ok τ->Bd E (B+1) τ/\pot E τ<pot E ⟨i,.sized::K,u,N,C⟩:=fun d h1 h2 h=>by
   split at h
   ·obtain⟨x,h3,h⟩:=qa7 h
    cases h
    exact hup (P:=wtL K+1000*(E.to-d)+3) (qah hK h2 ((hN1.none x.1).app (by show 1<=B+1;omega)) hC (by show wtL K+1000*(E.to-d)+pend K<=_;omega)) (by show _<1+wtL K+1000*(E.to-i)+3;omega)
   ·cases h
    exact hup (P:=wtL K+1000*(E.to-i)+3) (qah hK hi hN1 hC (by show wtL K+1000*(E.to-i)+pend K<=_;omega)) (by show _<1+wtL K+1000*(E.to-i)+3;omega)
  rw[qsg]at h
  obtain⟨⟨b1,j1⟩,h1,h⟩:=qa7 h
  have k1:i<=j1/\j1<=E.to:=by
   rcases qgr (by decide) h1 with⟨-,e,e2⟩ | ⟨-,e⟩<;>omega
  obtain⟨j2,h2,h⟩:=qa7 h
  have k2:i<=j2/\j2<=E.to:=by
   split at h2
   ·cases ht:txE E szk j1 with
    | error e=>rw[show(b1,j1).2=j1 from rfl,ht]at h2;cases h2
    | ok p=>
     rw[show(b1,j1).2=j1 from rfl,ht]at h2
     obtain⟨t2,j3⟩:=p
     obtain⟨rfl,e2⟩:=qgu (by decide) ht
     have h2:(.ok (j1+1):Rs Nat)=.ok j2:=h2
     cases h2;omega
   ·have h2:(.ok j1:Rs Nat)=.ok j2:=h2
    cases h2;exact k1
  obtain⟨⟨b3,j3⟩,h3,h⟩:=qa7 h
  have k3:i<=j3/\j3<=E.to:=by
   rcases qgr (by decide) h3 with⟨-,e,e2⟩ | ⟨-,e⟩<;>omega
  obtain⟨d,h4,h⟩:=qa7 h
  have k4:i<=d/\d<=E.to:=by
   split at h4
   ·have:=ty_pl E _ _ _ h4
    have e:(b3,j3).2=j3:=rfl
    rw[e]at this;omega
   ·have h4:(.ok j3:Rs Nat)=.ok d:=h4
    cases h4;exact k3
  exact hfin d k4.1 k4.2 h
 | segm=>
  cases h
  exact hup (P:=2+(1+wtL K)+1000*(E.to-i)+3) (qah (qa5 (by first | trivial | exact okW9 _ | exact okW8 _ | exact okT9 _ _ | exact okT8 _) (qa5 (by first | trivial | exact okW9 _ | exact okW8 _ | exact okT9 _ _ | exact okT8 _) hK)) hi hN1 hC (by show 2+(1+wtL K)+1000*(E.to-i)+3<=_;omega)) (by show _<4+wtL K+1000*(E.to-i)+3;omega)
 | pair=>
  cases h
  refine hup (P:=6+wtL K+1000*(E.to-i)+3) (qah (qa5 ?_ hK) hi hN1 hC (by show 6+wtL K+1000*(E.to-i)+3<=_;omega)) (by show _<7+wtL K+1000*(E.to-i)+3;omega)
  show∀s∈[[61,62],[58,61]],s.length<=1048576
  decide
 | patC=>
  cases h
  exact hup (P:=6+(1+(1+(1+(1+(13+(1+wtL K))))))+1000*(E.to-i)+3) (qah (qa5 (by first | trivial | exact okW9 _ | exact okW8 _ | exact okT9 _ _ | exact okT8 _) (qa5 (by first | trivial | exact okW9 _ | exact okW8 _ | exact okT9 _ _ | exact okT8 _) (qa5 (by first | trivial | exact okW9 _ | exact okW8 _ | exact okT9 _ _ | exact okT8 _) (qa5 (by first | trivial | exact okW9 _ | exact okW8 _ | exact okT9 _ _ | exact okT8 _) (qa5 (by first | trivial | exact okW9 _ | exact okW8 _ | exact okT9 _ _ | exact okT8 _) (qa5 (by first | trivial | exact okW9 _ | exact okW8 _ | exact okT9 _ _ | exact okT8 _) (qa5 (by first | trivial | exact okW9 _ | exact okW8 _ | exact okT9 _ _ | exact okT8 _) hK))))))) hi (hN1.app (zD _)) hC (by show 6+(1+(1+(1+(1+(13+(1+wtL K))))))+1000*(E.to-i)+3<=_;omega)) (by show _<25+wtL K+1000*(E.to-i)+3;omega)
 | funC=>
  cases h
  exact hup (P:=1+(1+(1+(1+(1+(13+(1+wtL K))))))+1000*(E.to-i)+3) (qah (qa5 ⟨trivial,by decide⟩ (qa5 (by first | trivial | exact okW9 _ | exact okW8 _ | exact okT9 _ _ | exact okT8 _) (qa5 (by first | trivial | exact okW9 _ | exact okW8 _ | exact okT9 _ _ | exact okT8 _) (qa5 (by first | trivial | exact okW9 _ | exact okW8 _ | exact okT9 _ _ | exact okT8 _) (qa5 (by first | trivial | exact okW9 _ | exact okW8 _ | exact okT9 _ _ | exact okT8 _) (qa5 (by first | trivial | exact okW9 _ | exact okW8 _ | exact okT9 _ _ | exact okT8 _) (qa5 (by first | trivial | exact okW9 _ | exact okW8 _ | exact okT9 _ _ | exact okT8 _) hK))))))) hi ((hN1.app (zD _)).app (zD _)) hC (by show 1+(1+(1+(1+(1+(13+(1+wtL K))))))+1000*(E.to-i)+0<=_;omega)) (by show _<20+wtL K+1000*(E.to-i)+3;omega)
 | tstC=>
  cases h
  exact hup (P:=1+(1+(12+(1+(1+(13+(1+wtL K))))))+1000*(E.to-i)+3) (qah (qa5 (by first | trivial | exact okW9 _ | exact okW8 _ | exact okT9 _ _ | exact okT8 _) (qa5 (by first | trivial | exact okW9 _ | exact okW8 _ | exact okT9 _ _ | exact okT8 _) (qa5 (by first | trivial | exact okW9 _ | exact okW8 _ | exact okT9 _ _ | exact okT8 _) (qa5 (by first | trivial | exact okW9 _ | exact okW8 _ | exact okT9 _ _ | exact okT8 _) (qa5 (by first | trivial | exact okW9 _ | exact okW8 _ | exact okT9 _ _ | exact okT8 _) (qa5 (by first | trivial | exact okW9 _ | exact okW8 _ | exact okT9 _ _ | exact okT8 _) (qa5 (by first | trivial | exact okW9 _ | exact okW8 _ | exact okT9 _ _ | exact okT8 _) hK))))))) hi (hN1.app (zD _)) hC (by show 1+(1+(12+(1+(1+(13+(1+wtL K))))))+1000*(E.to-i)+3<=_;omega)) (by show _<31+wtL K+1000*(E.to-i)+3;omega)
 | lstC=>
  have h:(msE E 8 [97,102,116,101,114] i >>= fun j=>.ok (qc0 ⟨j,K,u,N,C⟩ .patt (.noth 24)))=.ok τ:=h
  obtain⟨j,h1,h2⟩:=qa7 h
  obtain⟨rfl,h3⟩:=qdu (by decide) h1
  cases h2
  exact hup (P:=6+(1+(1+(1+(1+(13+(1+wtL K))))))+1000*(E.to- (i+1))+3) (qah (qa5 (by first | trivial | exact okW9 _ | exact okW8 _ | exact okT9 _ _ | exact okT8 _) (qa5 (by first | trivial | exact okW9 _ | exact okW8 _ | exact okT9 _ _ | exact okT8 _) (qa5 (by first | trivial | exact okW9 _ | exact okW8 _ | exact okT9 _ _ | exact okT8 _) (qa5 (by first | trivial | exact okW9 _ | exact okW8 _ | exact okT9 _ _ | exact okT8 _) (qa5 (by first | trivial | exact okW9 _ | exact okW8 _ | exact okT9 _ _ | exact okT8 _) (qa5 (by first | trivial | exact okW9 _ | exact okW8 _ | exact okT9 _ _ | exact okT8 _) (qa5 (by first | trivial | exact okW9 _ | exact okW8 _ | exact okT9 _ _ | exact okT8 _) hK))))))) h3 (hN1.app (zD _)) hC (by show 6+(1+(1+(1+(1+(13+(1+wtL K))))))+1000*(E.to- (i+1))+3<=_;omega)) (by show _<1+wtL K+1000*(E.to-i)+3;omega)
 | patt=>
  cases h
  exact hup (P:=4+(1+wtL K)+1000*(E.to-i)+3) (qah (qa5 (by first | trivial | exact okW9 _ | exact okW8 _ | exact okT9 _ _ | exact okT8 _) (qa5 (by first | trivial | exact okW9 _ | exact okW8 _ | exact okT9 _ _ | exact okT8 _) hK)) hi (hN1.app (zD _)) hC (by show 4+(1+wtL K)+1000*(E.to-i)+3<=_;omega)) (by show _<6+wtL K+1000*(E.to-i)+3;omega)
 | guar=>
  have h:(sgE E 8 [119,104,101,110] i >>= fun q=>if q.1=true then .ok (qgn ⟨q.2,K,some N.length,N++[some (nk 24 [])],C⟩)else .ok ⟨i,K,some N.length,N++[some (nk 24 [])],C⟩)=.ok τ:=h
  obtain⟨⟨bb,j⟩,h1,h2⟩:=qa7 h
  rcases qgr (by decide) h1 with⟨rfl,rfl,h3⟩ | ⟨rfl,rfl⟩
  ·rw[if_pos rfl]at h2
   cases h2
   exact hup (P:=(8+3)+wtL K+1000*(E.to- (i+1))+3) (qah (qa5 ⟨trivial,by decide⟩ hK) h3 ((hN1.app (zD _)).app (zD _)) hC (by show(8+3)+wtL K+1000*(E.to- (i+1))+3<=_;omega)) (by show _<1+wtL K+1000*(E.to-i)+3;omega)
  ·rw[if_neg zA]at h2
   cases h2
   exact hup (P:=wtL K+1000*(E.to-j)+3) (qah hK hi (hN1.app (zD _)) hC (by show wtL K+1000*(E.to-j)+pend K<=_;omega)) (by show _<1+wtL K+1000*(E.to-j)+3;omega)
 | alts=>
  cases h
  exact hup (P:=(8+3)+wtL K+1000*(E.to-i)+3) (qah (qa5 ⟨trivial,by decide⟩ hK) hi (hN1.app (zD _)) hC (by show(8+3)+wtL K+1000*(E.to-i)+3<=_;omega)) (by show _<12+wtL K+1000*(E.to-i)+3;omega)
 | cond=>
  cases h
  exact hup (P:=(4+3)+wtL K+1000*(E.to-i)+3) (qah (qa5 ⟨trivial,by decide⟩ hK) hi (hN1.app (zD _)) hC (by show(4+3)+wtL K+1000*(E.to-i)+3<=_;omega)) (by show _<8+wtL K+1000*(E.to-i)+3;omega)
 | body=>
  cases h
  exact hup (P:=(9+3)+wtL K+1000*(E.to-i)+3) (qah (qa5 ⟨trivial,by show 9<=100;decide⟩ hK) hi (hN1.app (zD _)) hC (by show(9+3)+wtL K+1000*(E.to-i)+3<=_;omega)) (by show _<13+wtL K+1000*(E.to-i)+3;omega)
 | noth k=>
  cases h
  exact hup (P:=wtL K+1000*(E.to-i)+3) (qah hK hi (hN1.app (zD _)) hC (by show wtL K+1000*(E.to-i)+pend K<=_;omega)) (by show _<1+wtL K+1000*(E.to-i)+3;omega)
 | arrow n=>
  have h:((⟨i,K,u,N,C⟩:PM).nd n >>= fun x=>msE E 9 [45,62] i >>= fun j=>.ok ⟨j,K,u,N.set n (some (x.brk' (brE E j))),C⟩)=.ok τ:=h
  obtain⟨x,h1,h⟩:=qa7 h
  obtain⟨j,h2,h⟩:=qa7 h
  obtain⟨rfl,h3⟩:=qdu (by decide) h2
  have h4:=hN n x (qjp h1)
  cases h
  exact hup (P:=wtL K+1000*(E.to- (i+1))+3) (qah hK h3 (hN1.set (by cases x;exact zC h4) n) hC (by show wtL K+1000*(E.to- (i+1))+pend K<=_;omega)) (by show _<1+wtL K+1000*(E.to-i)+3;omega)
 | last n=>
  have h:((⟨i,K,u,N,C⟩:PM).nd n >>= fun x=>if E.word (pz i) [97,102,116,101,114]=true then .ok ⟨i,.item .lstC:: .into n::K,u,N.set n (some (x.txt' ⟨#[97,102,116,101,114]⟩)),C⟩else .ok ⟨i,K,u,N,C⟩)=.ok τ:=h
  obtain⟨x,h1,h⟩:=qa7 h
  have h4:=hN n x (qjp h1)
  split at h
  ·cases h
   exact hup (P:=(1+2)+(1+wtL K)+1000*(E.to-i)+3) (qah (qa5 ⟨trivial,by decide⟩ (qa5 (by first | trivial | exact okW9 _ | exact okW8 _ | exact okT9 _ _ | exact okT8 _) hK)) hi (hN1.set (by cases x;exact zC h4) n) hC (by show(1+2)+(1+wtL K)+1000*(E.to-i)+3<=_;omega)) (by show _<5+wtL K+1000*(E.to-i)+3;omega)
  ·cases h
   exact hup (P:=wtL K+1000*(E.to-i)+3) (qah hK hi hN1 hC (by show wtL K+1000*(E.to-i)+pend K<=_;omega)) (by show _<5+wtL K+1000*(E.to-i)+3;omega)
end
section
variable{E:Env}{B:Nat}{σ τ:PM}
theorem qio: ∀(m f:Nat) (σ:PM) (r:Rs PM),mach E m σ=r->r≠ .error .stuck->mach E (m+f) σ=r
 | 0,_,_,r,h,hr=>absurd h.symm hr
 | m+1,f,σ,r,h,hr=>by
  rw[show m+1+f=(m+f)+1 by omega]
  obtain⟨i,k,u,N,C⟩:=σ
  cases k with
  | nil=>exact h
  | cons s K=>
   have h:(stp E s ⟨i,K,u,N,C⟩ >>= fun τ=>mach E m τ)=r:=h
   show(stp E s ⟨i,K,u,N,C⟩ >>= fun τ=>mach E (m+f) τ)=r
   cases hs:stp E s ⟨i,K,u,N,C⟩with
   | error e=>rw[hs]at h;exact h
   | ok τ=>
    rw[hs]at h
    exact qio m f τ r h hr
theorem qdz(hz: ∀k,(E.tk k).2.1.size<=1048576): ∀(m:Nat) (σ:PM) (B:Nat),Bd E B σ->2<=B->pot E σ<m-> ∀f,mach E (m+f) σ=mach E m σ
 | 0,_,_,_,_,h,_=>by omega
 | m+1,σ,B,hb,hB,h,f=>by
  rw[show m+1+f=(m+f)+1 by omega]
  obtain⟨i,k,u,N,C⟩:=σ
  cases k with
  | nil=>rfl
  | cons s K=>
   show(stp E s ⟨i,K,u,N,C⟩ >>= fun τ=>mach E (m+f) τ)=(stp E s ⟨i,K,u,N,C⟩ >>= fun τ=>mach E m τ)
   cases hs:stp E s ⟨i,K,u,N,C⟩with
   | error e=>rfl
   | ok τ=>
    obtain⟨h1,h2⟩:=qto hz hB hb hs
    exact qdz hz m τ (B+1) h1 (by omega) (by omega) f
theorem qnx(hz: ∀k,(E.tk k).2.1.size<=1048576)(hb:Bd E B σ)(hB:2<=B)(h:Goes E σ τ)(hk:τ.k=[]):mach E (pot E σ+1) σ=.ok τ:=by
 obtain⟨m,h⟩:=h
 have h1:mach E (m+1) σ=.ok τ:=by
  rw[h 1]
  obtain⟨i,k,u,N,C⟩:=τ
  have hk:k=[]:=hk
  subst hk;rfl
 have h2:=qio (m+1) (pot E σ+1) σ _ h1 (by intro e;cases e)
 rw[Nat.add_comm,qdz hz (pot E σ+1) σ B hb hB (Nat.lt_succ_self _) (m+1)]at h2
 exact h2
theorem qnw(hz: ∀k,(E.tk k).2.1.size<=1048576)(hb:Bd E B σ)(hB:2<=B)(h:Dies E σ):mach E (pot E σ+1) σ=.error .die:=by
 obtain⟨m,h⟩:=h
 have h1:=h (pot E σ+1)
 rw[Nat.add_comm,qdz hz (pot E σ+1) σ B hb hB (Nat.lt_succ_self _) m]at h1
 exact h1
end
end Go.Proofs.YtdhadeeajgoedaaGreat
