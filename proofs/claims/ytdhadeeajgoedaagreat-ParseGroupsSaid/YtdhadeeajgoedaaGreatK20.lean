/-
  What the claims stand on: PmGoD.
-/
import Derived.Test.YtdhadeeajgoedaaGreatK19
set_option maxRecDepth 100000
set_option maxHeartbeats 4000000
set_option linter.unusedVariables false
set_option linter.unusedSimpArgs false
open Bool renaming and_eq_true→zA
open List renaming length_set→zB
open Nat renaming le_refl→zC
namespace Go.Proofs.YtdhadeeajgoedaaGreat
open Go.RowKit Go.PlainAid
section
variable{E:Env}{b c:Nat}{K:List Stp}{i:Nat}
theorem qfm{m:Nat}(hB:BX E m){x:Nd}{o cl:Bs}{lv:Int}{one:Stp}{out:Out}(h:runX E m (.box x o cl lv) (pz i)=some out)(hit:ItR x.kd lv one)(hcl:cl=qer o)(hcr:qgz cl)(hno:x.nof=[])(u:Option Nat)(N:List (Option Nd))(C:List Chn)(hb:b<=N.length)(hc:c<=C.length):
 Ends E out.p.bad b c ⟨i,.box N.length o one::K,u,N++[some x],C⟩ (An K b out.x out.p.i):=by
 refine(hB x o cl lv i out one h hit hcl hcr hno K u (N++[some x]) C N.length b c (qak _ _) hb hc).mono (zC _) (zC _) (fun τ _ _ hq=>?_)
 obtain⟨⟨N1,C1,rfl,g1⟩,g2,-⟩:=hq
 exact⟨_,_,_,rfl,hb,g1,g2⟩
theorem qny{m:Nat}(hB: ∀k,k<=m->BX E k){out:Out}(h:runX E m (.hash []) (E.take (pz i)).2=some out)(hs:E.sign (pz i) [35]=true)(u:Option Nat)(N:List (Option Nd))(C:List Chn)(hb:b<=N.length)(hc:c<=C.length):
 EndsR E out.p.bad b c ⟨i,K,u,N,C⟩ (An K b out.x out.p.i) (qen E ⟨i,K,u,N,C⟩):=by
 have e0:qen E ⟨i,K,u,N,C⟩=(msE E 9 [35] i >>= fun j=>if E.sign (pz j) [123]=true then .ok ⟨j,.box N.length [123] .pair::K,u,N++[some (nk 8 [])],C⟩else(txE E nmk j >>= fun r=>.ok ⟨r.2,.box N.length [123] (.expr 0)::K,u,N++[some (nkt 10 r.1 [])],C⟩)):=rfl
 rw[e0]
 rcases qb9 E 9 [35] i (by decide)with⟨m1,m2,m3,m4,m5⟩ | ⟨m1,m2,m3⟩
 ·rw[m1]
  rw[m4]at h
  cases m with
  | zero=>cases h
  | succ m=>
  have h':(if E.sign (pz (i+1)) [123]=true then runX E m (.box (nk 8 []) [123] [125] 1) (pz (i+1))else runX E m (.box (nkt 10 (E.text (pz (i+1)) (nmk (E.at_ (pz (i+1))).1)).1 []) [123] [125] 0) (E.text (pz (i+1)) (nmk (E.at_ (pz (i+1))).1)).2)=some out:=h
  show EndsR E out.p.bad b c _ _ (if E.sign (pz (i+1)) [123]=true then _ else _)
  by_cases hw:E.sign (pz (i+1)) [123]=true
  ·rw[if_pos hw]at h'⊢
   exact .inl ⟨_,rfl,frN (FrL.app hb _),qfm (hB m (by omega)) h' (.inr (.inr ⟨rfl,.inl rfl,rfl⟩)) rfl (.inr (.inl rfl)) rfl u N C hb hc⟩
  ·rw[if_neg hw]at h'⊢
   rcases qcd E nmk (i+1) (by decide)with⟨t1,t2,t3,t4,t5⟩ | ⟨t1,t2⟩
   ·rw[t1]
    rw[t2]at h'
    exact .inl ⟨_,rfl,frN (FrL.app hb _),qfm (hB m (by omega)) h' (.inl ⟨rfl,by show(10:Int)≠6;decide,by show(10:Int)≠8;decide,by show(10:Int)≠9;decide⟩) rfl (.inr (.inl rfl)) rfl u N C hb hc⟩
   ·rw[t1]
    exact .inr ⟨rfl,qb2 h' t2⟩
 ·rw[m1]
  exact .inr ⟨rfl,qb2 h (m3 hs)⟩
theorem qoi{n:Nat}(hE: ∀k,k<n->HE E k)(hB: ∀k,k<n->BX E k){m:Nat}(hm:m<=n){out:Out}(h:runX E m .primary (pz i)=some out)(u:Option Nat)(N:List (Option Nd))(C:List Chn)(hb:b<=N.length)(hc:c<=C.length):
 Ends E out.p.bad b c ⟨i,.prim::K,u,N,C⟩ (An K b out.x out.p.i):=by
 refine Ends.step ?_
 cases m with
 | zero=>cases h
 | succ m=>
 have h':(if ltk (E.at_ (pz i)).1=true then some ({ x:=nkt 1 (E.text (pz i) true).1 [],p:=(E.text (pz i) true).2 } :Out)
  else if E.sign (pz i) [40]=true then(runX E m (.expr 0) (E.take (pz i)).2).bind fun r=>some { x:=r.x,p:=(E.want r.p 9 [41]).2 }
  else if E.sign (pz i) [123]=true then runX E m (.box (nk 4 []) [123] [125] 0) (pz i)
  else if E.sign (pz i) [91]=true then runX E m .list (pz i)
  else if E.sign (pz i) [60,60]=true then runX E m (.box (nk 6 []) [60,60] [62,62] 0) (pz i)
  else if E.sign (pz i) [35]=true then runX E m (.hash []) (E.take (pz i)).2
  else if E.word (pz i) [102,117,110]=true then runX E m .func (pz i)
  else if E.word (pz i) [99,97,115,101]=true then(runX E m (.expr 0) (E.take (pz i)).2).bind fun r=>(runX E m .clauses (E.want r.p 8 [111,102]).2).bind fun r2=>some (qau E (nk 18 (r.x::r2.xs)) r2.p)
  else if E.word (pz i) [105,102]=true then(runX E m .ifs (E.take (pz i)).2).bind fun r=>some (qau E (nk 19 r.xs) r.p)
  else if E.word (pz i) [114,101,99,101,105,118,101]=true then runX E m .receive (pz i)
  else if E.word (pz i) [98,101,103,105,110]=true then(runX E m .body (E.take (pz i)).2).bind fun r=>some (qau E (nk 21 [r.x]) r.p)
  else some { p:=(pz i).wrong })=some out:=h
 have hsg: ∀s:Bs,E.sign (pz i) s=((nxE E i).1==9&&(nxE E i).2.1.toList==s):=fun _=>rfl
 have hwd: ∀s:Bs,E.word (pz i) s=((nxE E i).1==8&&(nxE E i).2.1.toList==s):=fun _=>rfl
 show EndsR E out.p.bad b c _ _ (qbh E ⟨i,K,u,N,C⟩)
 have e0:qbh E ⟨i,K,u,N,C⟩=(if(nxE E i).1=9 then
  if(nxE E i).2.1.toList=[40]then qbc E ⟨i,K,u,N,C⟩
  else if(nxE E i).2.1.toList=[123]then .ok (boxE ⟨i,K,u,N,C⟩ (nk 4 []) [123] (.expr 0))
  else if(nxE E i).2.1.toList=[91]then qec E ⟨i,K,u,N,C⟩
  else if(nxE E i).2.1.toList=[60,60]then .ok (binE ⟨i,K,u,N,C⟩)
  else if(nxE E i).2.1.toList=[35]then qen E ⟨i,K,u,N,C⟩
  else .error .die
  else if(nxE E i).1=8 then
   if(nxE E i).2.1.toList=[102,117,110]then funE E ⟨i,K,u,N,C⟩
   else if(nxE E i).2.1.toList=[99,97,115,101]then qd4 E ⟨i,K,u,N,C⟩
   else if(nxE E i).2.1.toList=[105,102]then qeg E ⟨i,K,u,N,C⟩
   else if(nxE E i).2.1.toList=[114,101,99,101,105,118,101]then qca E ⟨i,K,u,N,C⟩
   else if(nxE E i).2.1.toList=[98,101,103,105,110]then qe8 E ⟨i,K,u,N,C⟩
   else .error .die
  else litE E ⟨i,K,u,N,C⟩):=rfl
 rw[e0]
 have hltk:ltk (E.at_ (pz i)).1=ltk (nxE E i).1:=rfl
 by_cases h9:(nxE E i).1=9
 ·rw[if_pos h9]
  rw[if_neg (by rw[hltk,h9];decide)]at h'
  have hsg': ∀s:Bs,E.sign (pz i) s=((nxE E i).2.1.toList==s):=fun s=>by rw[hsg,h9];rfl
  have hwd': ∀s:Bs,E.word (pz i) s=false:=fun s=>by rw[hwd,h9];rfl
  simp only[hwd',Bool.false_eq_true,if_false]at h'
  by_cases t1:(nxE E i).2.1.toList=[40]
  ·have hs:E.sign (pz i) [40]=true:=by rw[hsg',t1];rfl
   rw[if_pos t1]
   rw[if_pos hs]at h'
   obtain⟨r,hr,hx⟩:=Option.bind_eq_some_iff.1 h'
   obtain rfl:=Option.some.inj hx
   exact(qe5 (hE m (by omega)) hs hr u N C hb hc).re
  ·rw[if_neg t1]
   rw[if_neg (by rw[hsg'];simpa using t1)]at h'
   by_cases t2:(nxE E i).2.1.toList=[123]
   ·rw[if_pos t2]
    rw[if_pos (by rw[hsg',t2];rfl)]at h'
    exact .inl ⟨_,rfl,frN (FrL.app hb _),qfm (hB m (by omega)) h' (.inl ⟨rfl,by show(4:Int)≠6;decide,by show(4:Int)≠8;decide,by show(4:Int)≠9;decide⟩) rfl (.inr (.inl rfl)) rfl u N C hb hc⟩
   ·rw[if_neg t2]
    rw[if_neg (by rw[hsg'];simpa using t2)]at h'
    by_cases t3:(nxE E i).2.1.toList=[91]
    ·rw[if_pos t3]
     rw[if_pos (by rw[hsg',t3];rfl)]at h'
     exact(qnt (fun k hk=>hE k (by omega)) h' u N C hb hc).re
    ·rw[if_neg t3]
     rw[if_neg (by rw[hsg'];simpa using t3)]at h'
     by_cases t4:(nxE E i).2.1.toList=[60,60]
     ·rw[if_pos t4]
      rw[if_pos (by rw[hsg',t4];rfl)]at h'
      exact .inl ⟨_,rfl,frN (FrL.app hb _),qfm (hB m (by omega)) h' (.inr (.inl ⟨rfl,rfl⟩)) rfl (.inr (.inr (.inr rfl))) rfl u N C hb hc⟩
     ·rw[if_neg t4]
      rw[if_neg (by rw[hsg'];simpa using t4)]at h'
      by_cases t5:(nxE E i).2.1.toList=[35]
      ·have hs:E.sign (pz i) [35]=true:=by rw[hsg',t5];rfl
       rw[if_pos t5]
       rw[if_pos hs]at h'
       exact(qny (fun k hk=>hB k (by omega)) h' hs u N C hb hc).re
      ·rw[if_neg t5]
       rw[if_neg (by rw[hsg'];simpa using t5)]at h'
       obtain rfl:=Option.some.inj h'
       exact .inr ⟨rfl,rfl⟩
 ·rw[if_neg h9]
  have hsg': ∀s:Bs,E.sign (pz i) s=false:=fun s=>by rw[hsg,show((nxE E i).1==9)=false by simpa using h9];rfl
  simp only[hsg',Bool.false_eq_true,if_false]at h'
  by_cases h8:(nxE E i).1=8
  ·rw[if_pos h8]
   rw[if_neg (by rw[hltk,h8];decide)]at h'
   have hwd': ∀s:Bs,E.word (pz i) s=((nxE E i).2.1.toList==s):=fun s=>by rw[hwd,h8];rfl
   by_cases t1:(nxE E i).2.1.toList=[102,117,110]
   ·have hs:E.word (pz i) [102,117,110]=true:=by rw[hwd',t1];rfl
    rw[if_pos t1]
    rw[if_pos hs]at h'
    exact(qr7 (fun k hk=>hE k (by omega)) (fun k hk=>hB k (by omega)) h' hs u N C hb hc).re
   ·rw[if_neg t1]
    rw[if_neg (by rw[hwd'];simpa using t1)]at h'
    by_cases t2:(nxE E i).2.1.toList=[99,97,115,101]
    ·have hs:E.word (pz i) [99,97,115,101]=true:=by rw[hwd',t2];rfl
     rw[if_pos t2]
     rw[if_pos hs]at h'
     obtain⟨r,hr,hx⟩:=Option.bind_eq_some_iff.1 h'
     obtain⟨r2,hr2,hx⟩:=Option.bind_eq_some_iff.1 hx
     obtain rfl:=Option.some.inj hx
     have e1:qd4 E ⟨i,K,u,N,C⟩=(msE E 8 [99,97,115,101] i >>= fun j=>.ok ⟨j,.expr 0:: .into N.length:: .want 8 [111,102]:: .row N.length [59] (.item .patC)::qa9 N.length::K,u,N++[some (nk 18 [])],C⟩):=rfl
     rw[e1]
     rcases qb9 E 8 [99,97,115,101] i (by decide)with⟨m1,m2,m3,m4,m5⟩ | ⟨m1,m2,m3⟩
     ·rw[m1]
      rw[m4]at hr
      refine .inl ⟨_,rfl,frN (FrL.app hb _),?_⟩
      have hy:(N++[some (nk 18 [])])[N.length]?=some (some (nk 18 [])):=qak _ _
      have hnl:=qad hy
      refine Ends.bind (hE m (by omega) _ _ _ hr (.into N.length:: .want 8 [111,102]:: .row N.length [59] (.item .patC)::qa9 N.length::K) u _ C) (by omega) hc (fun e=>qco (qb2 hr2 (qbg e))) (fun e τ hf hq=>?_)
      obtain⟨j,N1,C1,rfl,g1,g2,g3⟩:=hq
      have hy1:=hf.N.at hnl hy
      have hc1:c<=C1.length:=Nat.le_trans hc hf.C.1
      obtain⟨z,hz⟩: ∃z,r.p=pz z:=⟨_,qc1 e⟩
      rw[hz]at hr2⊢
      simp only[pz_i]
      refine qao g2 hy1 (by omega) (by omega) hb ?_
      have hy3:=qb5 (j:=j) (x:=r.x) hy1
      generalize(N1.set j none).set N.length (some ((nk 18 []).add [r.x]))=N3 at hy3⊢
      refine qfq (by decide) (fun hw=>qco (qb2 hr2 hw)) (fun hw=>?_)
      rw[hw]at hr2
      cases m with
      | zero=>cases hr2
      | succ m=>
      have hr2:runX E m (.clausesL []) (pz (z+1))=some r2:=hr2
      refine qci ?_
      have hy4:N3[N.length]?=some (some (((nk 18 []).add [r.x]).add [])):=hy3
      refine Ends.bind (qd5 (K:=qa9 N.length::K) (n:=m) (fun k hk=>hE k (by omega)) m (zC _) ((nk 18 []).add [r.x]) [] (z+1) r2 hr2 _ N3 C1 N.length b c hy4 hb hc1) (zC _) (zC _) (fun e=>qco e) (fun e τ hf hq=>?_)
      obtain⟨N5,C5,rfl,q1⟩:=hq
      obtain⟨w,hw⟩: ∃z,r2.p=pz z:=⟨_,qc1 e⟩
      rw[hw]
      simp only[pz_i]
      exact qdn (y:=nk 18 (r.x::r2.xs)) rfl _ N5 C5 N.length q1 hb
     ·rw[m1]
      exact .inr ⟨rfl,qco (qb2 hr2 (qbg (qb2 hr (m3 hs))))⟩
    ·rw[if_neg t2]
     rw[if_neg (by rw[hwd'];simpa using t2)]at h'
     by_cases t3:(nxE E i).2.1.toList=[105,102]
     ·have hs:E.word (pz i) [105,102]=true:=by rw[hwd',t3];rfl
      rw[if_pos t3]
      rw[if_pos hs]at h'
      obtain⟨r,hr,hx⟩:=Option.bind_eq_some_iff.1 h'
      obtain rfl:=Option.some.inj hx
      have e1:qeg E ⟨i,K,u,N,C⟩=(msE E 8 [105,102] i >>= fun j=>.ok ⟨j,.row N.length [59] (.item .tstC)::qa9 N.length::K,u,N++[some (nk 19 [])],C⟩):=rfl
      rw[e1]
      rcases qb9 E 8 [105,102] i (by decide)with⟨m1,m2,m3,m4,m5⟩ | ⟨m1,m2,m3⟩
      ·rw[m1]
       rw[m4]at hr
       refine .inl ⟨_,rfl,frN (FrL.app hb _),?_⟩
       have hy:(N++[some (nk 19 [])])[N.length]?=some (some ((nk 19 []).add [])):=qak _ _
       cases m with
       | zero=>cases hr
       | succ m=>
       have hr:runX E m (.ifsL []) (pz (i+1))=some r:=hr
       refine qci ?_
       refine Ends.bind (qii (K:=qa9 N.length::K) (n:=m) (fun k hk=>hE k (by omega)) m (zC _) (nk 19 []) [] (i+1) r hr _ _ C N.length b c hy hb hc) (zC _) (zC _) (fun e=>qco e) (fun e τ hf hq=>?_)
       obtain⟨N5,C5,rfl,q1⟩:=hq
       obtain⟨w,hw⟩: ∃z,r.p=pz z:=⟨_,qc1 e⟩
       rw[hw]
       simp only[pz_i]
       exact qdn (y:=nk 19 r.xs) rfl _ N5 C5 N.length q1 hb
      ·rw[m1]
       exact .inr ⟨rfl,qco (qb2 hr (m3 hs))⟩
     ·rw[if_neg t3]
      rw[if_neg (by rw[hwd'];simpa using t3)]at h'
      by_cases t4:(nxE E i).2.1.toList=[114,101,99,101,105,118,101]
      ·have hs:E.word (pz i) [114,101,99,101,105,118,101]=true:=by rw[hwd',t4];rfl
       rw[if_pos t4]
       rw[if_pos hs]at h'
       exact(qj0 (fun k hk=>hE k (by omega)) h' hs u N C hb hc).re
      ·rw[if_neg t4]
       rw[if_neg (by rw[hwd'];simpa using t4)]at h'
       by_cases t5:(nxE E i).2.1.toList=[98,101,103,105,110]
       ·have hs:E.word (pz i) [98,101,103,105,110]=true:=by rw[hwd',t5];rfl
        rw[if_pos t5]
        rw[if_pos hs]at h'
        obtain⟨r,hr,hx⟩:=Option.bind_eq_some_iff.1 h'
        obtain rfl:=Option.some.inj hx
        have e1:qe8 E ⟨i,K,u,N,C⟩=(msE E 8 [98,101,103,105,110] i >>= fun j=>.ok ⟨j,.body:: .into N.length::qa9 N.length::K,u,N++[some (nk 21 [])],C⟩):=rfl
        rw[e1]
        rcases qb9 E 8 [98,101,103,105,110] i (by decide)with⟨m1,m2,m3,m4,m5⟩ | ⟨m1,m2,m3⟩
        ·rw[m1]
         rw[m4]at hr
         refine .inl ⟨_,rfl,frN (FrL.app hb _),?_⟩
         have hy:(N++[some (nk 21 [])])[N.length]?=some (some (nk 21 [])):=qak _ _
         have hnl:=qad hy
         refine Ends.bind (qfl (K:=.into N.length::qa9 N.length::K) (fun k hk=>hE k (by omega)) hr u _ C) (by omega) hc (fun e=>qco e) (fun e τ hf hq=>?_)
         obtain⟨j,N1,C1,rfl,g1,g2,g3⟩:=hq
         have hy1:=hf.N.at hnl hy
         obtain⟨w,hw⟩: ∃z,r.p=pz z:=⟨_,qc1 e⟩
         rw[hw]
         simp only[pz_i]
         refine qao g2 hy1 (by omega) (by omega) hb ?_
         exact qdn (y:=nk 21 [r.x]) rfl _ _ C1 N.length (qb5 hy1) hb
        ·rw[m1]
         exact .inr ⟨rfl,qco (qb2 hr (m3 hs))⟩
       ·rw[if_neg t5]
        rw[if_neg (by rw[hwd'];simpa using t5)]at h'
        obtain rfl:=Option.some.inj h'
        exact .inr ⟨rfl,rfl⟩
  ·rw[if_neg h8]
   have hwd': ∀s:Bs,E.word (pz i) s=false:=fun s=>by rw[hwd,show((nxE E i).1==8)=false by simpa using h8];rfl
   simp only[hwd',Bool.false_eq_true,if_false]at h'
   by_cases hl:ltk (E.at_ (pz i)).1=true
   ·rw[if_pos hl]at h'
    obtain rfl:=Option.some.inj h'
    have:=(qku (E:=E) (b:=b) (c:=c) (K:=K) i u N C hb).re (i:=i) (k:=.prim::K) (u:=u)
    rw[hl]at this
    exact this
   ·rw[if_neg hl]at h'
    obtain rfl:=Option.some.inj h'
    refine .inr ⟨?_,rfl⟩
    show(txE E ltk i >>= fun r=>_)=_
    have:txE E ltk i=.error .die:=by
     unfold txE
     rw[if_neg (show¬ltk (nxE E i).1=true from hl)]
    rw[this];rfl
end
section
variable{E:Env}{b c:Nat}{K:List Stp}{i:Nat}
theorem qmt{m:Nat}(hB: ∀k,k<=m->BX E k){x:Nd}{out:Out}(h:runX E m (.hash [x]) (E.take (pz i)).2=some out)(hs:E.sign (pz i) [35]=true)(N:List (Option Nd))(C:List Chn)(j:Nat)(hx:N[j]?=some (some x))(hb:b<=j)(hc:c<=C.length):
 Ends E out.p.bad b c ⟨i,.chgd::K,some j,N,C⟩ (An K b out.x out.p.i):=by
 refine Ends.step ?_
 have hl:=qad hx
 have hlm:(N.set j none).length=N.length:=zB
 have e0:stp E .chgd ⟨i,K,some j,N,C⟩=(msE E 9 [35] i >>= fun q=>if E.sign (pz q) [123]=true then .ok ⟨q,.box N.length [123] .pair::K,some j,N.set j none++[some (nk 9 [x])],C⟩else(txE E nmk q >>= fun r=>sgE E 9 [46] r.2 >>= fun d=>if d.1=true then(txE E (· ==1) d.2 >>= fun a=>.ok ⟨a.2,K,some N.length,N.set j none++[some (nkt 12 (scE E (a.2-q) q) [x])],C⟩)else .ok ⟨d.2,.box N.length [123] (.expr 0)::K,some j,N.set j none++[some (nkt 11 r.1 [x])],C⟩)):=by
  show((⟨i,K,some j,N,C⟩:PM).cur >>= fun x=>_)=_
  rw[qdc hx]
  show(msE E 9 [35] i >>= fun q=>if E.sign (pz q) [123]=true then(.ok ⟨q,.box (N.set j none).length [123] .pair::K,some j,N.set j none++[some (nk 9 [x])],C⟩:Rs PM)else(txE E nmk q >>= fun r=>sgE E 9 [46] r.2 >>= fun d=>if d.1=true then(txE E (· ==1) d.2 >>= fun a=>.ok ⟨a.2,K,some N.length,N.set j none++[some (nkt 12 (scE E (a.2-q) q) [x])],C⟩)else .ok ⟨d.2,.box (N.set j none).length [123] (.expr 0)::K,some j,N.set j none++[some (nkt 11 r.1 [x])],C⟩))=_
  rw[hlm]
 rw[e0]
 have hbN:b<=(N.set j none).length:=by rw[hlm];omega
 have hfr: ∀z,FrL b N (N.set j none++[z]):=fun z=>(FrL.set hb none).trans (FrL.app hbN _)
 rcases qb9 E 9 [35] i (by decide)with⟨m1,m2,m3,m4,m5⟩ | ⟨m1,m2,m3⟩
 ·rw[m1]
  rw[m4]at h
  cases m with
  | zero=>cases h
  | succ m=>
  have h':(if E.sign (pz (i+1)) [123]=true then runX E m (.box (nk 9 [x]) [123] [125] 1) (pz (i+1))else if E.sign (E.text (pz (i+1)) (nmk (E.at_ (pz (i+1))).1)).2 [46]=true then(let p1:=(E.take (E.text (pz (i+1)) (nmk (E.at_ (pz (i+1))).1)).2).2;let q2:=E.text p1 ((E.at_ p1).1==1);some ({ x:=nkt 12 ((E.text (pz (i+1)) (nmk (E.at_ (pz (i+1))).1)).1++⟨#[46]⟩++q2.1) [x],p:=q2.2 } :Out))else runX E m (.box (nkt 11 (E.text (pz (i+1)) (nmk (E.at_ (pz (i+1))).1)).1 [x]) [123] [125] 0) (E.text (pz (i+1)) (nmk (E.at_ (pz (i+1))).1)).2)=some out:=h
  show EndsR E out.p.bad b c _ _ (if E.sign (pz (i+1)) [123]=true then _ else _)
  by_cases hw:E.sign (pz (i+1)) [123]=true
  ·rw[if_pos hw]at h'⊢
   rw[<-hlm]
   exact .inl ⟨_,rfl,frN (hfr _),qfm (hB m (by omega)) h' (.inr (.inr ⟨rfl,.inr rfl,rfl⟩)) rfl (.inr (.inl rfl)) rfl _ _ C hbN hc⟩
  ·rw[if_neg hw]at h'⊢
   rcases qcd E nmk (i+1) (by decide)with⟨t1,t2,t3,t4,t5⟩ | ⟨t1,t2⟩
   ·rw[t1]
    rw[t2]at h'
    show EndsR E out.p.bad b c _ _ (sgE E 9 [46] (i+1+1) >>= fun d=>_)
    rcases qbo E 9 [46] (i+1+1) (by decide)with⟨s1,s2,s3,s4,s5⟩ | ⟨s1,s2⟩ | ⟨s1,s2,s3⟩
    ·rw[s1]
     rw[if_pos (show E.sign ((E.tk (i+1)).2.1,pz (i+1+1)).2 [46]=true from s2)]at h'
     have h':=Option.some.inj h'
     simp only[s3]at h'
     have htx:(E.tk (i+1+1)).2.1=⟨#[46]⟩:=qey (by decide) s2 (qet (by decide) s1)
     show EndsR E out.p.bad b c _ _ (txE E (· ==1) (i+1+1+1) >>= fun a=>_)
     rcases qcd E (· ==1) (i+1+1+1) (by decide)with⟨v1,v2,v3,v4,v5⟩ | ⟨v1,v2⟩
     ·rw[v1]
      rw[show E.text (pz (i+1+1+1)) ((E.at_ (pz (i+1+1+1))).1==1)=_ from v2]at h'
      subst h'
      have hsc:(E.tk (i+1)).2.1++⟨#[46]⟩++(E.tk (i+1+1+1)).2.1=scE E (i+1+1+1+1- (i+1)) (i+1):=by
       rw[show i+1+1+1+1- (i+1)=1+(1+1)by omega,qcg,qcg,qbs,qbs,qbs,htx,ByteArray.append_assoc]
      rw[hsc]
      refine .inl ⟨_,rfl,frN (hfr _),Ends.here rfl ⟨_,_,_,rfl,by omega,?_,rfl⟩⟩
      show(N.set j none++[some (nkt 12 (scE E (i+1+1+1+1- (i+1)) (i+1)) [x])])[N.length]?=_
      rw[<-hlm];exact qak _ _
     ·rw[v1]
      refine .inr ⟨rfl,?_⟩
      rw[<-h'];exact v2
    ·rw[s1]
     rw[if_neg (show¬E.sign ((E.tk (i+1)).2.1,pz (i+1+1)).2 [46]=true by rw[show E.sign ((E.tk (i+1)).2.1,pz (i+1+1)).2 [46]=false from s2];decide)]at h'
     rw[<-hlm]
     exact .inl ⟨_,rfl,frN (hfr _),qfm (hB m (by omega)) h' (.inl ⟨rfl,by show(11:Int)≠6;decide,by show(11:Int)≠8;decide,by show(11:Int)≠9;decide⟩) rfl (.inr (.inl rfl)) rfl _ _ C hbN hc⟩
    ·rw[s1]
     rw[if_pos (show E.sign ((E.tk (i+1)).2.1,pz (i+1+1)).2 [46]=true from s2)]at h'
     have h':=Option.some.inj h'
     refine .inr ⟨rfl,?_⟩
     rw[<-h'];exact qbz _ s3
   ·rw[t1]
    refine .inr ⟨rfl,?_⟩
    rw[if_neg (by rw[show E.sign (E.text (pz (i+1)) (nmk (E.at_ (pz (i+1))).1)).2 [46]=false from qbl t2 (by decide)];decide)]at h'
    exact qb2 h' t2
 ·rw[m1]
  exact .inr ⟨rfl,qb2 h (m3 hs)⟩
def FolQ(E:Env)(K:List Stp)(b cc:Nat)(ch:Chn)(o:Out)(τ:PM):Prop:= ∃j N C st,τ=⟨o.p.i,.folw cc::K,some j,N,C⟩/\b<=j/\N[j]?=some (some o.x)/\o.x.nof=[]/\C[cc]?=some { ch with st:=st } /\qat E { ch with st:=st } o.x o.p.i=none
theorem qft{n:Nat}(hE: ∀k,k<n->HE E k)(hB: ∀k,k<n->BX E k): ∀m,m<=n-> ∀(x:Nd) (paren:Bool) (i:Nat) (o:Out),runX E m (.follow x paren) (pz i)=some o->x.nof=[]-> ∀(N:List (Option Nd)) (C:List Chn) (j cc b c:Nat) (ch:Chn),N[j]?=some (some x)->C[cc]?=some ch->ch.st=paren->b<=j->c<=cc->
 Ends E o.p.bad b c ⟨i,.folw cc::K,some j,N,C⟩ (FolQ E K b cc ch o)
 | 0,_,_,_,_,_,h,_,_,_,_,_,_,_,_,_,_,_,_,_=>by cases h
 | m+1,hm,x,paren,i,o,h,hno,N,C,j,cc,b,c,ch,hx,hC,hst,hb,hc=>by
  have h':(if((pz i).bad||!(paren||bare x))=true then some ({ x:=x,p:=pz i } :Out)else
   if E.sign (pz i) [40]=true then(runX E m (.box (nk 2 [x]) [40] [41] 0) (pz i)).bind fun r=>runX E m (.follow r.x false) r.p
   else if(E.sign (pz i) [58]&&(paren||x.kd==1))=true then
    if E.sign (E.take (pz i)).2 [40]=true then(runX E m (.expr 0) (E.take (E.take (pz i)).2).2).bind fun r=>runX E m (.follow (nk 3 [x,r.x]) false) (E.want r.p 9 [41]).2
    else runX E m (.follow (nk 3 [x,nkt 1 (E.text (E.take (pz i)).2 (nmk (E.at_ (E.take (pz i)).2).1)).1 []]) false) (E.text (E.take (pz i)).2 (nmk (E.at_ (E.take (pz i)).2).1)).2
   else if E.sign (pz i) [35]=true then(runX E m (.hash [x]) (E.take (pz i)).2).bind fun r=>runX E m (.follow r.x false) r.p
   else some { x:=x,p:=pz i })=some o:=h
  have hcc:=qad hC
  have hjl:=qad hx
  have hstop:qat E ch x i=none->o= { x:=x,p:=pz i } ->Ends E o.p.bad b c ⟨i,.folw cc::K,some j,N,C⟩ (FolQ E K b cc ch o):=by
   rintro hf rfl
   exact Ends.here rfl ⟨_,_,_,ch.st,rfl,hb,hx,hno,hC,hf⟩
  have hgo: ∀s,qat E ch x i=some s-> ∀ {bad:Bool} {Q:PM->Prop},Ends E bad b c ⟨i,s:: .folw cc::K,some j,N,C.set cc { ch with st:=false }⟩ Q->Ends E bad b c ⟨i,.folw cc::K,some j,N,C⟩ Q:=by
   intro s hf bad Q he
   refine Ends.step (.inl ⟨_,?_,frC (FrL.set hc { ch with st:=false }),he⟩)
   have hch:(⟨i,K,some j,N,C⟩:PM).ch cc=.ok ch:=by
    unfold PM.ch;rw[show(⟨i,K,some j,N,C⟩:PM).C=C from rfl,hC]
   show((⟨i,K,some j,N,C⟩:PM).ch cc >>= fun h=>_)=_
   rw[hch]
   show((⟨i,K,some j,N,C⟩:PM).cur >>= fun x=>_)=_
   rw[qdc hx]
   show(match qat E ch x i with | some s=>_ | none=>_)=_
   rw[hf];rfl
  have hC2:(C.set cc { ch with st:=false })[cc]?=some { ch with st:=false } :=qb3 _ hC
  have hrec: ∀(y:Nd) (z:Nat) (N2:List (Option Nd)) (C2:List Chn) (j2:Nat),runX E m (.follow y false) (pz z)=some o->y.nof=[]->N2[j2]?=some (some y)->C2[cc]?=some { ch with st:=false } ->b<=j2->Ends E o.p.bad b c ⟨z,.folw cc::K,some j2,N2,C2⟩ (FolQ E K b cc ch o):=by
   intro y z N2 C2 j2 h1 h2 h3 h4 h5
   refine(qft hE hB m (by omega) y false z o h1 h2 N2 C2 j2 cc b c { ch with st:=false } h3 h4 rfl h5 hc).mono (zC _) (zC _) (fun τ _ _ hq=>?_)
   obtain⟨j9,N9,C9,st,q1,q2,q3,q4,q5,q6⟩:=hq
   exact⟨j9,N9,C9,st,q1,q2,q3,q4,q5,q6⟩
  by_cases hbare:(paren||bare x)=true
  rotate_left
  ·have hbf:(paren||bare x)=false:=by simpa using hbare
   rw[if_pos (by rw[hbf];simp)]at h'
   refine hstop ?_ (Option.some.inj h').symm
   unfold qat
   simp only[Bool.or_eq_false_iff]at hbf
   rw[if_pos ⟨by rw[hst];exact hbf.1,hbf.2⟩]
  ·rw[if_neg (by rw[hbare];simp[pz])]at h'
   have hnb: ¬(ch.st=false/\bare x=false):=by
    rintro⟨a1,a2⟩
    rw[<-hst,a1,a2]at hbare;cases hbare
   have hf0:qat E ch x i=(if E.sign (pz i) [40]=true then some .call else if E.sign (pz i) [35]=true then some .chgd else if E.sign (pz i) [58]=true/\(ch.st=true\/x.kd=1)then some .remo else none):=by
    unfold qat;rw[if_neg hnb]
   by_cases s1:E.sign (pz i) [40]=true
   ·rw[if_pos s1]at h'
    obtain⟨r,hr,hx9⟩:=Option.bind_eq_some_iff.1 h'
    refine hgo .call (by rw[hf0,if_pos s1]) ?_
    have hlm:(N.set j none).length=N.length:=zB
    refine Ends.step (.inl ⟨⟨i,.box (N.set j none).length [40] (.expr 0):: .folw cc::K,some j,N.set j none++[some (nk 2 [x])],C.set cc { ch with st:=false }⟩,?_,frN ((FrL.set hb none).trans (FrL.app (by rw[hlm];omega) _)),?_⟩)
    ·show((⟨i,.folw cc::K,some j,N,C.set cc { ch with st:=false }⟩:PM).cur >>= fun x=>_)=_
     rw[qdc hx];rfl
    ·refine Ends.bind (qfm (K:=.folw cc::K) (b:=b) (c:=(C.set cc { ch with st:=false }).length) (hB m (by omega)) hr (.inl ⟨rfl,by show(2:Int)≠6;decide,by show(2:Int)≠8;decide,by show(2:Int)≠9;decide⟩) rfl (.inl rfl) rfl _ _ _ (by rw[hlm];omega) (zC _)) (zC _) (by rw[zB];omega) (fun e=>qb2 hx9 e) (fun e τ hf hq=>?_)
     obtain⟨j2,N2,C2,rfl,g1,g2,g3⟩:=hq
     obtain⟨z,hz⟩: ∃z,r.p=pz z:=⟨_,qc1 e⟩
     rw[hz]at hx9⊢
     simp only[pz_i]
     exact hrec _ z N2 C2 j2 hx9 g3 g2 (hf.C.at (qad hC2) hC2) g1
   ·rw[if_neg s1]at h'
    by_cases s2:E.sign (pz i) [35]=true
    ·have s3:E.sign (pz i) [58]=false:=qd9 s2 (by decide)
     rw[s3,Bool.false_and,if_neg (by decide),if_pos s2]at h'
     obtain⟨r,hr,hx9⟩:=Option.bind_eq_some_iff.1 h'
     refine hgo .chgd (by rw[hf0,if_neg s1,if_pos s2]) ?_
     refine Ends.bind (qmt (K:=.folw cc::K) (b:=b) (c:=(C.set cc { ch with st:=false }).length) (fun k hk=>hB k (by omega)) hr s2 N _ j hx hb (zC _)) (zC _) (by rw[zB];omega) (fun e=>qb2 hx9 e) (fun e τ hf hq=>?_)
     obtain⟨j2,N2,C2,rfl,g1,g2,g3⟩:=hq
     obtain⟨z,hz⟩: ∃z,r.p=pz z:=⟨_,qc1 e⟩
     rw[hz]at hx9⊢
     simp only[pz_i]
     exact hrec _ z N2 C2 j2 hx9 g3 g2 (hf.C.at (qad hC2) hC2) g1
    ·by_cases s3:(E.sign (pz i) [58]&&(paren||x.kd==1))=true
     ·rw[if_pos s3]at h'
      simp only[zA,Bool.or_eq_true,beq_iff_eq]at s3
      refine hgo .remo (by rw[hf0,if_neg s1,if_neg s2,if_pos ⟨s3.1,by rw[hst];exact s3.2⟩]) ?_
      have hlm:(N.set j none).length=N.length:=zB
      refine Ends.step ?_
      have e0:stp E .remo ⟨i,.folw cc::K,some j,N,C.set cc { ch with st:=false }⟩=(msE E 9 [58] i >>= fun q=>.ok ⟨q,.clld:: .into N.length:: .folw cc::K,some j,N.set j none++[some (nk 3 [x])],C.set cc { ch with st:=false }⟩):=by
       show((⟨i,.folw cc::K,some j,N,C.set cc { ch with st:=false }⟩:PM).cur >>= fun x=>_)=_
       rw[qdc hx];rfl
      rw[e0]
      have hbad:(E.take (pz i)).2.bad=true->o.p.bad=true:=fun e=>by
       rw[if_neg (by rw[show E.sign (E.take (pz i)).2 [40]=false from qbl e (by decide)];decide)]at h'
       exact qb2 h' (qbz _ e)
      rcases qb9 E 9 [58] i (by decide)with⟨m1,m2,m3,m4,m5⟩ | ⟨m1,m2,m3⟩
      ·rw[m1]
       rw[m4]at h'
       refine .inl ⟨⟨i+1,.clld:: .into N.length:: .folw cc::K,some j,N.set j none++[some (nk 3 [x])],C.set cc { ch with st:=false }⟩,rfl,frN ((FrL.set hb none).trans (FrL.app (by rw[hlm];omega) _)),?_⟩
       have hy:(N.set j none++[some (nk 3 [x])])[N.length]?=some (some (nk 3 [x])):=by
        have h9:=qak (N.set j none) (some (nk 3 [x]))
        rw[hlm]at h9;exact h9
       have hl2:(N.set j none++[some (nk 3 [x])]).length=N.length+1:=by rw[List.length_append,hlm];rfl
       generalize N.set j none++[some (nk 3 [x])]=N2 at hy hl2⊢
       refine Ends.step ?_
       show EndsR E o.p.bad b c _ _ (if E.sign (pz (i+1)) [40]=true then qbc E ⟨i+1,.into N.length:: .folw cc::K,some j,N2,C.set cc { ch with st:=false }⟩else(txE E nmk (i+1) >>= fun r=>.ok (((⟨i+1,.into N.length:: .folw cc::K,some j,N2,C.set cc { ch with st:=false }⟩:PM).at_ r.2).got (nkt 1 r.1 []))))
       by_cases s4:E.sign (pz (i+1)) [40]=true
       ·rw[if_pos s4]at h'⊢
        obtain⟨r,hr,hx9⟩:=Option.bind_eq_some_iff.1 h'
        have hwi:=(qe5 (K:=.into N.length:: .folw cc::K) (b:=N2.length) (c:=(C.set cc { ch with st:=false }).length) (hE m (by omega)) s4 hr (some j) N2 (C.set cc { ch with st:=false }) (zC _) (zC _))
        rcases hwi with⟨τ,w1,w2,w3⟩ | ⟨w1,w2⟩
        ·refine .inl ⟨τ,w1,⟨w2.N.mono (show b<=N2.length by omega),w2.C.mono (show c<=(C.set cc { ch with st:=false }).length by rw[zB];omega)⟩,?_⟩
         refine Ends.bind w3 (by omega) (by rw[zB];omega) (fun e=>qb2 hx9 e) (fun e τ2 hf hq=>?_)
         obtain⟨j2,N3,C3,rfl,g1,g2,g3⟩:=hq
         obtain⟨z,hz⟩: ∃z,(E.want r.p 9 [41]).2=pz z:=⟨_,qc1 e⟩
         rw[hz]at hx9⊢
         simp only[pz_i]
         have hy3:N3[N.length]?=some (some (nk 3 [x])):=(w2.N.trans hf.N).at (by omega) hy
         have hC3:C3[cc]?=some { ch with st:=false } :=(w2.C.trans hf.C).at (qad hC2) hC2
         refine qao g2 hy3 (by omega) (by omega) (by omega) ?_
         exact hrec (nk 3 [x,r.x]) z _ C3 N.length hx9 rfl (qb5 hy3) hC3 (by omega)
        ·exact .inr ⟨w1,qb2 hx9 w2⟩
       ·rw[if_neg s4]at h'⊢
        rcases qcd E nmk (i+1) (by decide)with⟨t1,t2,t3,t4,t5⟩ | ⟨t1,t2⟩
        ·rw[t1]
         rw[show E.text (i,pz (i+1)).2 (nmk (E.at_ (i,pz (i+1)).2).1)=_ from t2]at h'
         refine .inl ⟨⟨i+1+1,.into N.length:: .folw cc::K,some N2.length,N2++[some (nkt 1 (E.tk (i+1)).2.1 [])],C.set cc { ch with st:=false }⟩,rfl,frN (FrL.app (show b<=N2.length by omega) _),?_⟩
         have hy3:(N2++[some (nkt 1 (E.tk (i+1)).2.1 [])])[N.length]?=some (some (nk 3 [x])):=by rw[List.getElem?_append_left (by omega)];exact hy
         refine qao (qak _ _) hy3 (by omega) (by omega) (by omega) ?_
         exact hrec (nk 3 [x,nkt 1 (E.tk (i+1)).2.1 []]) (i+1+1) _ _ N.length h' rfl (qb5 hy3) hC2 (by omega)
        ·rw[t1]
         exact .inr ⟨rfl,qb2 h' t2⟩
      ·rw[m1]
       exact .inr ⟨rfl,hbad (m3 s3.1)⟩
     ·rw[if_neg s3,if_neg s2]at h'
      refine hstop ?_ (Option.some.inj h').symm
      rw[hf0,if_neg s1,if_neg s2,if_neg]
      rintro⟨a1,a2⟩
      apply s3
      simp only[zA,Bool.or_eq_true,beq_iff_eq]
      exact⟨a1,by rw[<-hst];exact a2⟩
end
section
variable{E:Env}{b c:Nat}{K:List Stp}{i:Nat}
theorem qmy(lv:Int): ∀(f i k m:Nat) (o:Out),E.to<i+f->0<f->i<=E.to->runX E m (.expr lv) (pz i)=some o->
 (∃q i' m' lv' r o',ctL E lv f i k=.ok (k+q,i')/\m'<=m/\i'<=E.to/\max lv' 1=max lv 1/\runX E m' .operand (pz i')=some r/\runX E m' (.exprL lv' r.x r.h) r.p=some o'/\o.x=qgv (List.replicate q ⟨#[99,97,116,99,104]⟩) o'.x/\o.p=o'.p)\/(ctL E lv f i k=.error .die/\o.p.bad=true)
 | 0,_,_,_,_,_,h,_,_=>by omega
 | f+1,i,k,0,o,_,_,_,h=>by cases h
 | f+1,i,k,m+1,o,hf,_,hi,h=>by
  have h':(if(decide (lv<=0)&&E.word (pz i) [99,97,116,99,104])=true then(runX E m (.expr 0) (E.take (pz i)).2).bind fun r=>some ({ x:=nkt 13 ⟨#[99,97,116,99,104]⟩ [r.x],p:=r.p } :Out)else(runX E m .operand (pz i)).bind fun r=>runX E m (.exprL lv r.x r.h) r.p)=some o:=h
  have e0:ctL E lv (f+1) i k=(if(decide (lv<=0)&&E.word (pz i) [99,97,116,99,104])=true then tkE E i >>= fun j=>ctL E lv f j (k+1)else .ok (k,i)):=rfl
  rw[e0]
  by_cases hc:(decide (lv<=0)&&E.word (pz i) [99,97,116,99,104])=true
  ·rw[if_pos hc]at h'⊢
   obtain⟨r,hr,hx⟩:=Option.bind_eq_some_iff.1 h'
   obtain rfl:=Option.some.inj hx
   have hlv:lv<=0:=by
    simp only[zA,decide_eq_true_eq]at hc;exact hc.1
   have hw:E.word (pz i) [99,97,116,99,104]=true:=by
    simp only[zA]at hc;exact hc.2
   rcases qsp (E:=E) (i:=i) (.inr (qf5 hw).1)with⟨t1,t2,t3,t4⟩ | ⟨t1,t2⟩
   ·rw[t1]
    rw[t2]at hr
    have hl: ∀f j k,ctL E lv f j k=ctL E 0 f j k:=by
     intro f
     induction f with
     | zero=>intros;rfl
     | succ f ih=>
      intro j k
      show(if(decide (lv<=0)&&E.word (pz j) [99,97,116,99,104])=true then tkE E j >>= fun j=>ctL E lv f j (k+1)else .ok (k,j))=(if(decide ((0:Int)<=0)&&E.word (pz j) [99,97,116,99,104])=true then tkE E j >>= fun j=>ctL E 0 f j (k+1)else .ok (k,j))
      rw[show decide (lv<=0)=decide ((0:Int)<=0)by simp[hlv]]
      simp only[ih]
    show(∃q i' m' lv' r_1 o',ctL E lv f (i+1) (k+1)=_/\_)\/(ctL E lv f (i+1) (k+1)=.error .die/\_)
    rw[hl f (i+1) (k+1)]
    rcases qmy 0 f (i+1) (k+1) m r (by omega) (by omega) (by omega) hr with⟨q,i',m',lv',r1,o',q1,q2,q3,q4,q5,q6,q7,q8⟩ | ⟨q1,q2⟩
    ·refine .inl ⟨q+1,i',m',lv',r1,o',?_,by omega,q3,?_,q5,q6,?_,q8⟩
     ·rw[q1,show k+1+q=k+(q+1)by omega]
     ·rw[q4,Int.max_eq_right (show lv<=1 by omega)];rfl
     ·rw[List.replicate_succ',qgk,q7];rfl
    ·exact .inr ⟨q1,q2⟩
   ·rw[t1]
    exact .inr ⟨rfl,show r.p.bad=true from qb2 hr t2⟩
  ·rw[if_neg hc]at h'⊢
   obtain⟨r,hr,hx⟩:=Option.bind_eq_some_iff.1 h'
   exact .inl ⟨0,i,m,lv,r,o,rfl,by omega,hi,rfl,hr,hx,rfl,rfl⟩
theorem qoc: ∀(f i m:Nat) (a:List ByteArray) (r:Out),E.to<i+f->0<f->i<=E.to->runX E m .operand (pz i)=some r->
 (∃P i' m' r1 r2,pfL E f i a=.ok (a++P,i')/\m'<=m/\i'<=E.to/\runX E m' .primary (pz i')=some r1/\runX E m' (.follow r1.x (E.sign (pz i') [40])) r1.p=some r2/\r.x=qgv P.reverse r2.x/\r.h=(if P=[]then 11 else 10)/\r.p=r2.p)\/(pfL E f i a=.error .die/\r.p.bad=true)
 | 0,_,_,_,_,_,h,_,_=>by omega
 | f+1,i,0,a,r,_,_,_,h=>by cases h
 | f+1,i,m+1,a,r,hf,_,hi,h=>by
  have h':(if(((E.at_ (pz i)).1==9||(E.at_ (pz i)).1==8)&&decide (0<pf (E.at_ (pz i)).2.1.toList))=true then(runX E m .operand (E.take (pz i)).2).bind fun r=>some ({ x:=nkt 13 (E.at_ (pz i)).2.1 [r.x],h:=10,p:=r.p } :Out)else(runX E m .primary (pz i)).bind fun r=>(runX E m (.follow r.x (E.sign (pz i) [40])) r.p).bind fun r2=>some { x:=r2.x,h:=11,p:=r2.p })=some r:=h
  have e0:pfL E (f+1) i a=(if 0<pf (opE E i).toList then tkE E i >>= fun j=>pfL E f j (a++[opE E i])else .ok (a,i)):=rfl
  rw[e0]
  have hcond:(0<pf (opE E i).toList↔(((E.at_ (pz i)).1==9||(E.at_ (pz i)).1==8)&&decide (0<pf (E.at_ (pz i)).2.1.toList))=true):=by
   rcases qte (E:=E) i with⟨q1,q2⟩ | ⟨q1,q2⟩
   ·rw[q2,qhg,qod]
    simp only[zA,bne_iff_ne,ne_eq]at q1
    simp[q1.1,q1.2]
   ·rw[q2]
    simp only[Bool.and_eq_false_iff,bne_eq_false_iff_eq]at q1
    rcases q1 with q1 | q1<;>simp[q1]
  by_cases hc:(((E.at_ (pz i)).1==9||(E.at_ (pz i)).1==8)&&decide (0<pf (E.at_ (pz i)).2.1.toList))=true
  ·rw[if_pos hc]at h'
   rw[if_pos (hcond.2 hc)]
   obtain⟨r',hr,hx⟩:=Option.bind_eq_some_iff.1 h'
   obtain rfl:=Option.some.inj hx
   have hk:(E.at_ (pz i)).1=9\/(E.at_ (pz i)).1=8:=by
    simp only[zA,Bool.or_eq_true,beq_iff_eq]at hc;exact hc.1
   have hop:opE E i=(E.at_ (pz i)).2.1:=if_pos hk
   rcases qsp (E:=E) (i:=i) hk with⟨t1,t2,t3,t4⟩ | ⟨t1,t2⟩
   ·rw[t1]
    rw[t2]at hr
    show(∃P i' m' r1 r2,pfL E f (i+1) (a++[opE E i])=_/\_)\/(pfL E f (i+1) (a++[opE E i])=.error .die/\_)
    rcases qoc f (i+1) m (a++[opE E i]) r' (by omega) (by omega) (by omega) hr with⟨P,i',m',r1,r2,q1,q2,q3,q4,q5,q6,q7,q8⟩ | ⟨q1,q2⟩
    ·refine .inl ⟨opE E i::P,i',m',r1,r2,?_,by omega,q3,q4,q5,?_,rfl,q8⟩
     ·rw[q1];simp
     ·rw[List.reverse_cons,qgk,<-q6,hop];rfl
    ·exact .inr ⟨q1,q2⟩
   ·rw[t1]
    exact .inr ⟨rfl,show r'.p.bad=true from qb2 hr t2⟩
  ·rw[if_neg hc]at h'
   rw[if_neg (fun e=>hc (hcond.1 e))]
   obtain⟨r1,hr1,hx⟩:=Option.bind_eq_some_iff.1 h'
   obtain⟨r2,hr2,hx⟩:=Option.bind_eq_some_iff.1 hx
   obtain rfl:=Option.some.inj hx
   exact .inl ⟨[],i,m,r1,r2,by rw[List.append_nil],by omega,hi,hr1,hr2,rfl,rfl,rfl⟩
theorem qn2{n:Nat}(hE: ∀k,k<n->HE E k)(hB: ∀k,k<n->BX E k){lv:Int}{o:Out}(h:runX E n (.expr lv) (pz i)=some o)(hi:i<=E.to)(u:Option Nat)(N:List (Option Nd))(C:List Chn):
 Ends E o.p.bad N.length C.length ⟨i,.expr lv::K,u,N,C⟩ (An K N.length o.x o.p.i):=by
 refine Ends.step ?_
 have e0:stp E (.expr lv) ⟨i,K,u,N,C⟩=(ctL E lv (E.to+2) i 0 >>= fun a=>pfL E (E.to+2) a.2 [] >>= fun b=>.ok ⟨b.2,.prim:: .folw C.length::K,u,N,C++[{ lv:=lv,ct:=a.1,ah:=b.1,st:=E.sign (pz b.2) [40],hs:=if b.1=[]then 11 else 10 }]⟩):=rfl
 rw[e0]
 rcases qmy lv (E.to+2) i 0 n o (by omega) (by omega) hi h with⟨q,i',m',lv',r,o',q1,q2,q3,q4,q5,q6,q7,q8⟩ | ⟨q1,q2⟩
 rotate_left
 ·rw[q1];exact .inr ⟨rfl,q2⟩
 rw[q1]
 have hobad:r.p.bad=true->o.p.bad=true:=fun e=>by rw[q8];exact qb2 q6 e
 show EndsR E o.p.bad N.length C.length _ _ (pfL E (E.to+2) i' [] >>= fun b=>_)
 rcases qoc (E.to+2) i' m' [] r (by omega) (by omega) q3 q5 with⟨P,i2,m2,r1,r2,p1,p2,p3,p4,p5,p6,p7,p8⟩ | ⟨p1,p2⟩
 rotate_left
 ·rw[p1];exact .inr ⟨rfl,hobad p2⟩
 rw[p1]
 refine .inl ⟨⟨i2,.prim:: .folw C.length::K,u,N,C++[{ lv:=lv,ct:=0+q,ah:=[]++P,st:=E.sign (pz i2) [40],hs:=if[]++P=[]then 11 else 10 }]⟩,rfl,frC (FrL.app (zC _) _),?_⟩
 rw[Nat.zero_add,List.nil_append]
 generalize hch:({ lv:=lv,ct:=q,ah:=P,st:=E.sign (pz i2) [40],hs:=if P=[]then 11 else 10 } :Chn)=ch
 have hC:(C++[ch])[C.length]?=some ch:=qak _ _
 have hCl:C.length< (C++[ch]).length:=qad hC
 refine Ends.bind (qoi (K:=.folw C.length::K) (b:=N.length) (c:=(C++[ch]).length) hE hB (show m2<=n by omega) p4 u N (C++[ch]) (zC _) (zC _)) (zC _) (by omega) (fun e=>hobad (by rw[p8];exact qb2 p5 e)) (fun e τ hf hq=>?_)
 obtain⟨j,N1,C1,rfl,g1,g2,g3⟩:=hq
 have hC1:=hf.C.at hCl hC
 obtain⟨z,hz⟩: ∃z,r1.p=pz z:=⟨_,qc1 e⟩
 rw[hz]at p5⊢
 simp only[pz_i]
 refine Ends.bind (qft hE hB m2 (by omega) r1.x _ z r2 p5 g3 N1 C1 j C.length N.length C.length ch g2 hC1 (by rw[<-hch]) g1 (zC _)) (zC _) (zC _) (fun e=>hobad (by rw[p8];exact e)) (fun e τ hf2 hq=>?_)
 obtain⟨j2,N2,C2,st,rfl,k1,k2,k3,k4,k5⟩:=hq
 obtain⟨w,hw⟩: ∃z,r2.p=pz z:=⟨_,qc1 e⟩
 rw[hw]at p8 k5⊢
 simp only[pz_i]at k5⊢
 rw[p8]at q6
 refine Ends.step ?_
 have hch2:(⟨w,K,some j2,N2,C2⟩:PM).ch C.length=.ok { ch with st:=st } :=by
  unfold PM.ch;rw[show(⟨w,K,some j2,N2,C2⟩:PM).C=C2 from rfl,k4]
 obtain⟨l,N3,u1,u2,u3,u4⟩:=qke (b:=N.length) (i:=w) (K:=K) (u:=some j2) (C:=C2) P.reverse j2 N2 r2.x k2 k1
 have hah:({ ch with st:=st } :Chn).ah=P:=by rw[<-hch]
 have e1:stp E (.folw C.length) ⟨w,K,some j2,N2,C2⟩=qbm E C.length ⟨w,K,some j2,N3,C2.set C.length { ch with st:=st,lf:=some l }⟩:=by
  show((⟨w,K,some j2,N2,C2⟩:PM).ch C.length >>= fun h=>_)=_
  rw[hch2]
  show((⟨w,K,some j2,N2,C2⟩:PM).cur >>= fun x=>_)=_
  rw[qdc k2]
  show(match qat E { ch with st:=st } r2.x w with | some s=>_ | none=>_)=_
  rw[k5]
  show(undL ({ ch with st:=st } :Chn).ah.reverse j2 ⟨w,K,some j2,N2,C2⟩ >>= fun r=>_)=_
  rw[hah,u1];rfl
 rw[e1]
 have hjo:=qfz (E:=E) (b:=N.length) (c:=C.length) (K:=K) hE m' (by omega) lv' r.x r.h w o' q6 N3 (C2.set C.length { ch with st:=st,lf:=some l }) (some j2) C.length { ch with st:=st,lf:=some l } l (qb3 _ k4) rfl (by rw[p6];exact u2) (by rw[p6];exact qgl _ _ k3) (by rw[<-hch];exact p7.symm) (by rw[<-hch];exact q4.symm) u3 (zC _)
 have hct:q=ch.ct:=by rw[<-hch]
 rw[q8,q7,hct]
 rcases hjo with⟨τ,t1,t2,t3⟩ | ⟨t1,t2⟩
 ·exact .inl ⟨τ,t1,⟨u4.trans t2.N,(FrL.set (zC _) _).trans t2.C⟩,t3⟩
 ·exact .inr ⟨t1,t2⟩
theorem qr2(hi:E.to<i){n:Nat}{lv:Int}{o:Out}(h:runX E n (.expr lv) (pz i)=some o):o.p.bad=true/\ ∀K u N C,Dies E ⟨i,.expr lv::K,u,N,C⟩:=by
 have hat:E.at_ (pz i)=tk0:=qmk (fun e=>by
  have h1:E.pk i<E.to:=e.1
  rw[qdh (.inl (by omega))]at h1;omega)
 have hsg: ∀k s,k≠0->E.is (pz i) k s=false:=fun k s hk=>by
  unfold Env.is;rw[hat];simp[tk0,Ne.symm hk]
 have hnx:nxE E i=tk0:=hat
 refine⟨?_,fun K u N C=>?_⟩
 ·cases n with
  | zero=>cases h
  | succ n=>
  have h':(if(decide (lv<=0)&&E.word (pz i) [99,97,116,99,104])=true then(runX E n (.expr 0) (E.take (pz i)).2).bind fun r=>some ({ x:=nkt 13 ⟨#[99,97,116,99,104]⟩ [r.x],p:=r.p } :Out)else(runX E n .operand (pz i)).bind fun r=>runX E n (.exprL lv r.x r.h) r.p)=some o:=h
  rw[show E.word (pz i) [99,97,116,99,104]=false from hsg _ _ (by decide),Bool.and_false,if_neg (by decide)]at h'
  obtain⟨r,hr,hx⟩:=Option.bind_eq_some_iff.1 h'
  refine qb2 hx ?_
  cases n with
  | zero=>cases hr
  | succ n=>
  have hr:(if(((E.at_ (pz i)).1==9||(E.at_ (pz i)).1==8)&&decide (0<pf (E.at_ (pz i)).2.1.toList))=true then(runX E n .operand (E.take (pz i)).2).bind fun r=>some ({ x:=nkt 13 (E.at_ (pz i)).2.1 [r.x],h:=10,p:=r.p } :Out)else(runX E n .primary (pz i)).bind fun r=>(runX E n (.follow r.x (E.sign (pz i) [40])) r.p).bind fun r2=>some { x:=r2.x,h:=11,p:=r2.p })=some r:=hr
  rw[hat,if_neg (by decide)]at hr
  obtain⟨r1,hr1,hx⟩:=Option.bind_eq_some_iff.1 hr
  obtain⟨r2,hr2,hx⟩:=Option.bind_eq_some_iff.1 hx
  obtain rfl:=Option.some.inj hx
  show r2.p.bad=true
  refine qb2 hr2 ?_
  cases n with
  | zero=>cases hr1
  | succ n=>
  have h1:=qfe (n+1) _ _ _ hr1
  rw[<-h1]
  show(qa6 E (qf7 E n) .primary (pz i)).p.bad=true
  have hs: ∀s,E.sign (pz i) s=false:=fun s=>hsg _ _ (by decide)
  have hw: ∀s,E.word (pz i) s=false:=fun s=>hsg _ _ (by decide)
  simp only[qa6,hat,hs,hw,tk0]
  rfl
 ·have hw:E.word (pz i) [99,97,116,99,104]=false:=hsg _ _ (by decide)
  have hc:ctL E lv (E.to+2) i 0=.ok (0,i):=by
   unfold ctL
   rw[hw,Bool.and_false];rfl
  have hp:pfL E (E.to+2) i []=.ok ([],i):=by
   unfold pfL
   have e:opE E i=⟨#[]⟩:=by unfold opE;rw[hnx];rfl
   rw[e,qhg,qod];rfl
  refine Goes.dies (τ:=⟨i,.prim:: .folw C.length::K,u,N,C++[{ lv:=lv,ct:=0,ah:=[],st:=E.sign (pz i) [40],hs:=11 }]⟩) (qcy ?_) (qea ?_)
  ·show(ctL E lv (E.to+2) i 0 >>= fun a=>_)=_
   rw[hc]
   show(pfL E (E.to+2) i [] >>= fun b=>_)=_
   rw[hp];rfl
  ·show qbh E _=_
   unfold qbh
   show(if(nxE E i).1=9 then _ else if(nxE E i).1=8 then _ else litE E _)=_
   rw[hnx]
   show(txE E ltk i >>= fun r=>_)=_
   have:txE E ltk i=.error .die:=by
    unfold txE
    rw[if_neg (by rw[hnx];decide)]
   rw[this];rfl
theorem qkj(E:Env)(n:Nat):HE E n/\BX E n:=by
 induction n using Nat.strongRecOn with
 | _ n ih=>
  have hE: ∀k,k<n->HE E k:=fun k hk=>(ih k hk).1
  have hB: ∀k,k<n->BX E k:=fun k hk=>(ih k hk).2
  refine⟨fun lv i o h K u N C=>?_,qqq hE hB⟩
  rcases Nat.lt_or_ge E.to i with hi | hi
  ·obtain⟨h1,h2⟩:=qr2 hi h
   exact Ends.die (h2 K u N C) h1
  ·exact qn2 hE hB h hi u N C
end
end Go.Proofs.YtdhadeeajgoedaaGreat
