import Derived.Test.YtdhadeeajgoedaaGreatL18
set_option maxRecDepth 100000
set_option maxHeartbeats 4000000
set_option linter.all false
open Bool renaming and_eq_true→zA,false_eq_true→zB,or_eq_true→zC
open List renaming getElem?_append_left→zD,getElem?_append_right→zE,getElem?_cons_zero→zF,getElem?_eq_none→zG,getElem?_set_ne→zH,getElem?_set_self→zI,length_append→zJ,length_set→zK
open Nat renaming le_refl→zL,le_succ→zM,le_trans→zO,zero_le→zP
namespace Go.Proofs.YtdhadeeajgoedaaGreat
open Go.RowKit Go.PlainAid
section
variable{E:Env}{b c:Nat}{K:List Stp}{i:Nat}
theorem qg8{m:Nat}(hB:BX E m){x:Nd}{o cl:Bs}{lv:Int}{one:Stp}{out:Out}(h:qal E m (.box x o cl lv) (pz i)=some out)(hit:ItR x.kd lv one)(hcl:cl=qfc o)(hcr:qhn cl)(hno:x.nof=[])(u:Option Nat)(N:List (Option Nd))(C:List Chn)(hb:b<=N.length)(hc:c<=C.length):
 Ends E out.p.bad b c ⟨i,.box N.length o one::K,u,N++[some x],C⟩ (An K b out.x out.p.i):=by
 refine(hB x o cl lv i out one h hit hcl hcr hno K u (N++[some x]) C N.length b c (qam _ _) hb hc).mono (zL _) (zL _) (fun τ _ _ hq=>?_)
 obtain⟨⟨N1,C1,rfl,g1⟩,g2,-⟩:=hq
 exact⟨_,_,_,rfl,hb,g1,g2⟩
theorem qqd{m:Nat}(hB: ∀k,k<=m->BX E k){out:Out}(h:qal E m (.hash []) (E.take (pz i)).2=some out)(hs:E.sign (pz i) [35]=true)(u:Option Nat)(N:List (Option Nd))(C:List Chn)(hb:b<=N.length)(hc:c<=C.length):
 EndsR E out.p.bad b c ⟨i,K,u,N,C⟩ (An K b out.x out.p.i) (qfa E ⟨i,K,u,N,C⟩):=by
 have e0:qfa E ⟨i,K,u,N,C⟩=(msE E 9 [35] i >>= fun j=>if E.sign (pz j) [123]=true then .ok ⟨j,.box N.length [123] .pair::K,u,N++[some (nk 8 [])],C⟩else(txE E nmk j >>= fun r=>.ok ⟨r.2,.box N.length [123] (.expr 0)::K,u,N++[some (nkt 10 r.1 [])],C⟩)):=rfl
 rw[e0]
 rcases qbe E 9 [35] i (by decide)with⟨m1,m2,m3,m4,m5⟩ | ⟨m1,m2,m3⟩
 ·rw[m1]
  rw[m4]at h
  cases m with
  | zero=>cases h
  | succ m=>
  have h':(if E.sign (pz (i+1)) [123]=true then qal E m (.box (nk 8 []) [123] [125] 1) (pz (i+1))else qal E m (.box (nkt 10 (E.text (pz (i+1)) (nmk (E.at_ (pz (i+1))).1)).1 []) [123] [125] 0) (E.text (pz (i+1)) (nmk (E.at_ (pz (i+1))).1)).2)=some out:=h
  show EndsR E out.p.bad b c _ _ (if E.sign (pz (i+1)) [123]=true then _ else _)
  by_cases hw:E.sign (pz (i+1)) [123]=true
  ·rw[if_pos hw]at h'⊢
   exact .inl ⟨_,rfl,frN (FrL.app hb _),qg8 (hB m (by omega)) h' (.inr (.inr ⟨rfl,.inl rfl,rfl⟩)) rfl (.inr (.inl rfl)) rfl u N C hb hc⟩
  ·rw[if_neg hw]at h'⊢
   rcases qcn E nmk (i+1) (by decide)with⟨t1,t2,t3,t4,t5⟩ | ⟨t1,t2⟩
   ·rw[t1]
    rw[t2]at h'
    exact .inl ⟨_,rfl,frN (FrL.app hb _),qg8 (hB m (by omega)) h' (.inl ⟨rfl,by show(10:Int)≠6;decide,by show(10:Int)≠8;decide,by show(10:Int)≠9;decide⟩) rfl (.inr (.inl rfl)) rfl u N C hb hc⟩
   ·rw[t1]
    exact .inr ⟨rfl,qb3 h' t2⟩
 ·rw[m1]
  exact .inr ⟨rfl,qb3 h (m3 hs)⟩
theorem qr2{n:Nat}(hE: ∀k,k<n->HE E k)(hB: ∀k,k<n->BX E k){m:Nat}(hm:m<=n){out:Out}(h:qal E m .primary (pz i)=some out)(u:Option Nat)(N:List (Option Nd))(C:List Chn)(hb:b<=N.length)(hc:c<=C.length):
 Ends E out.p.bad b c ⟨i,.prim::K,u,N,C⟩ (An K b out.x out.p.i):=by
 refine Ends.step ?_
 cases m with
 | zero=>cases h
 | succ m=>
 have h':(if ltk (E.at_ (pz i)).1=true then some ({ x:=nkt 1 (E.text (pz i) true).1 [],p:=(E.text (pz i) true).2 } :Out)
  else if E.sign (pz i) [40]=true then(qal E m (.expr 0) (E.take (pz i)).2).bind fun r=>some { x:=r.x,p:=(E.want r.p 9 [41]).2 }
  else if E.sign (pz i) [123]=true then qal E m (.box (nk 4 []) [123] [125] 0) (pz i)
  else if E.sign (pz i) [91]=true then qal E m .list (pz i)
  else if E.sign (pz i) [60,60]=true then qal E m (.box (nk 6 []) [60,60] [62,62] 0) (pz i)
  else if E.sign (pz i) [35]=true then qal E m (.hash []) (E.take (pz i)).2
  else if E.word (pz i) [102,117,110]=true then qal E m .func (pz i)
  else if E.word (pz i) [99,97,115,101]=true then(qal E m (.expr 0) (E.take (pz i)).2).bind fun r=>(qal E m .clauses (E.want r.p 8 [111,102]).2).bind fun r2=>some (qai E (nk 18 (r.x::r2.xs)) r2.p)
  else if E.word (pz i) [105,102]=true then(qal E m .ifs (E.take (pz i)).2).bind fun r=>some (qai E (nk 19 r.xs) r.p)
  else if E.word (pz i) [114,101,99,101,105,118,101]=true then qal E m .receive (pz i)
  else if E.word (pz i) [98,101,103,105,110]=true then(qal E m .body (E.take (pz i)).2).bind fun r=>some (qai E (nk 21 [r.x]) r.p)
  else some { p:=(pz i).wrong })=some out:=h
 have hsg: ∀s:Bs,E.sign (pz i) s=((nxE E i).1==9&&(nxE E i).2.1.toList==s):=fun _=>rfl
 have hwd: ∀s:Bs,E.word (pz i) s=((nxE E i).1==8&&(nxE E i).2.1.toList==s):=fun _=>rfl
 show EndsR E out.p.bad b c _ _ (qbm E ⟨i,K,u,N,C⟩)
 have e0:qbm E ⟨i,K,u,N,C⟩=(if(nxE E i).1=9 then
  if(nxE E i).2.1.toList=[40]then qbg E ⟨i,K,u,N,C⟩
  else if(nxE E i).2.1.toList=[123]then .ok (qib ⟨i,K,u,N,C⟩ (nk 4 []) [123] (.expr 0))
  else if(nxE E i).2.1.toList=[91]then qes E ⟨i,K,u,N,C⟩
  else if(nxE E i).2.1.toList=[60,60]then .ok (qtd ⟨i,K,u,N,C⟩)
  else if(nxE E i).2.1.toList=[35]then qfa E ⟨i,K,u,N,C⟩
  else .error .die
  else if(nxE E i).1=8 then
   if(nxE E i).2.1.toList=[102,117,110]then qfm E ⟨i,K,u,N,C⟩
   else if(nxE E i).2.1.toList=[99,97,115,101]then qdg E ⟨i,K,u,N,C⟩
   else if(nxE E i).2.1.toList=[105,102]then qf2 E ⟨i,K,u,N,C⟩
   else if(nxE E i).2.1.toList=[114,101,99,101,105,118,101]then qck E ⟨i,K,u,N,C⟩
   else if(nxE E i).2.1.toList=[98,101,103,105,110]then qeo E ⟨i,K,u,N,C⟩
   else .error .die
  else qjw E ⟨i,K,u,N,C⟩):=rfl
 rw[e0]
 have hltk:ltk (E.at_ (pz i)).1=ltk (nxE E i).1:=rfl
 by_cases h9:(nxE E i).1=9
 ·rw[if_pos h9]
  rw[if_neg (by rw[hltk,h9];decide)]at h'
  have hsg': ∀s:Bs,E.sign (pz i) s=((nxE E i).2.1.toList==s):=fun s=>by rw[hsg,h9];rfl
  have hwd': ∀s:Bs,E.word (pz i) s=false:=fun s=>by rw[hwd,h9];rfl
  simp only[hwd',zB,if_false]at h'
  by_cases t1:(nxE E i).2.1.toList=[40]
  ·have hs:E.sign (pz i) [40]=true:=by rw[hsg',t1];rfl
   rw[if_pos t1]
   rw[if_pos hs]at h'
   obtain⟨r,hr,hx⟩:=Option.bind_eq_some_iff.1 h'
   obtain rfl:=Option.some.inj hx
   exact(qej (hE m (by omega)) hs hr u N C hb hc).re
  ·rw[if_neg t1]
   rw[if_neg (by rw[hsg'];simpa using t1)]at h'
   by_cases t2:(nxE E i).2.1.toList=[123]
   ·rw[if_pos t2]
    rw[if_pos (by rw[hsg',t2];rfl)]at h'
    exact .inl ⟨_,rfl,frN (FrL.app hb _),qg8 (hB m (by omega)) h' (.inl ⟨rfl,by show(4:Int)≠6;decide,by show(4:Int)≠8;decide,by show(4:Int)≠9;decide⟩) rfl (.inr (.inl rfl)) rfl u N C hb hc⟩
   ·rw[if_neg t2]
    rw[if_neg (by rw[hsg'];simpa using t2)]at h'
    by_cases t3:(nxE E i).2.1.toList=[91]
    ·rw[if_pos t3]
     rw[if_pos (by rw[hsg',t3];rfl)]at h'
     exact(qq2 (fun k hk=>hE k (by omega)) h' u N C hb hc).re
    ·rw[if_neg t3]
     rw[if_neg (by rw[hsg'];simpa using t3)]at h'
     by_cases t4:(nxE E i).2.1.toList=[60,60]
     ·rw[if_pos t4]
      rw[if_pos (by rw[hsg',t4];rfl)]at h'
      exact .inl ⟨_,rfl,frN (FrL.app hb _),qg8 (hB m (by omega)) h' (.inr (.inl ⟨rfl,rfl⟩)) rfl (.inr (.inr (.inr rfl))) rfl u N C hb hc⟩
     ·rw[if_neg t4]
      rw[if_neg (by rw[hsg'];simpa using t4)]at h'
      by_cases t5:(nxE E i).2.1.toList=[35]
      ·have hs:E.sign (pz i) [35]=true:=by rw[hsg',t5];rfl
       rw[if_pos t5]
       rw[if_pos hs]at h'
       exact(qqd (fun k hk=>hB k (by omega)) h' hs u N C hb hc).re
      ·rw[if_neg t5]
       rw[if_neg (by rw[hsg'];simpa using t5)]at h'
       obtain rfl:=Option.some.inj h'
       exact .inr ⟨rfl,rfl⟩
 ·rw[if_neg h9]
  have hsg': ∀s:Bs,E.sign (pz i) s=false:=fun s=>by rw[hsg,show((nxE E i).1==9)=false by simpa using h9];rfl
  simp only[hsg',zB,if_false]at h'
  by_cases h8:(nxE E i).1=8
  ·rw[if_pos h8]
   rw[if_neg (by rw[hltk,h8];decide)]at h'
   have hwd': ∀s:Bs,E.word (pz i) s=((nxE E i).2.1.toList==s):=fun s=>by rw[hwd,h8];rfl
   by_cases t1:(nxE E i).2.1.toList=[102,117,110]
   ·have hs:E.word (pz i) [102,117,110]=true:=by rw[hwd',t1];rfl
    rw[if_pos t1]
    rw[if_pos hs]at h'
    exact(qu7 (fun k hk=>hE k (by omega)) (fun k hk=>hB k (by omega)) h' hs u N C hb hc).re
   ·rw[if_neg t1]
    rw[if_neg (by rw[hwd'];simpa using t1)]at h'
    by_cases t2:(nxE E i).2.1.toList=[99,97,115,101]
    ·have hs:E.word (pz i) [99,97,115,101]=true:=by rw[hwd',t2];rfl
     rw[if_pos t2]
     rw[if_pos hs]at h'
     obtain⟨r,hr,hx⟩:=Option.bind_eq_some_iff.1 h'
     obtain⟨r2,hr2,hx⟩:=Option.bind_eq_some_iff.1 hx
     obtain rfl:=Option.some.inj hx
     have e1:qdg E ⟨i,K,u,N,C⟩=(msE E 8 [99,97,115,101] i >>= fun j=>.ok ⟨j,.expr 0:: .into N.length:: .want 8 [111,102]:: .row N.length [59] (.item .patC)::qa8 N.length::K,u,N++[some (nk 18 [])],C⟩):=rfl
     rw[e1]
     rcases qbe E 8 [99,97,115,101] i (by decide)with⟨m1,m2,m3,m4,m5⟩ | ⟨m1,m2,m3⟩
     ·rw[m1]
      rw[m4]at hr
      refine .inl ⟨_,rfl,frN (FrL.app hb _),?_⟩
      have hy:(N++[some (nk 18 [])])[N.length]?=some (some (nk 18 [])):=qam _ _
      have hnl:=qad hy
      refine Ends.bind (hE m (by omega) _ _ _ hr (.into N.length:: .want 8 [111,102]:: .row N.length [59] (.item .patC)::qa8 N.length::K) u _ C) (by omega) hc (fun e=>qcz (qb3 hr2 (qbl e))) (fun e τ hf hq=>?_)
      obtain⟨j,N1,C1,rfl,g1,g2,g3⟩:=hq
      have hy1:=hf.N.at hnl hy
      have hc1:c<=C1.length:=zO hc hf.C.1
      obtain⟨z,hz⟩: ∃z,r.p=pz z:=⟨_,qca e⟩
      rw[hz]at hr2⊢
      simp only[qey]
      refine qar g2 hy1 (by omega) (by omega) hb ?_
      have hy3:=qb7 (j:=j) (x:=r.x) hy1
      generalize(N1.set j none).set N.length (some ((nk 18 []).add [r.x]))=N3 at hy3⊢
      refine qgc (by decide) (fun hw=>qcz (qb3 hr2 hw)) (fun hw=>?_)
      rw[hw]at hr2
      cases m with
      | zero=>cases hr2
      | succ m=>
      have hr2:qal E m (.clausesL []) (pz (z+1))=some r2:=hr2
      refine qcr ?_
      have hy4:N3[N.length]?=some (some (((nk 18 []).add [r.x]).add [])):=hy3
      refine Ends.bind (qdh (K:=qa8 N.length::K) (n:=m) (fun k hk=>hE k (by omega)) m (zL _) ((nk 18 []).add [r.x]) [] (z+1) r2 hr2 _ N3 C1 N.length b c hy4 hb hc1) (zL _) (zL _) (fun e=>qcz e) (fun e τ hf hq=>?_)
      obtain⟨N5,C5,rfl,q1⟩:=hq
      obtain⟨w,hw⟩: ∃z,r2.p=pz z:=⟨_,qca e⟩
      rw[hw]
      simp only[qey]
      exact qdy (y:=nk 18 (r.x::r2.xs)) rfl _ N5 C5 N.length q1 hb
     ·rw[m1]
      exact .inr ⟨rfl,qcz (qb3 hr2 (qbl (qb3 hr (m3 hs))))⟩
    ·rw[if_neg t2]
     rw[if_neg (by rw[hwd'];simpa using t2)]at h'
     by_cases t3:(nxE E i).2.1.toList=[105,102]
     ·have hs:E.word (pz i) [105,102]=true:=by rw[hwd',t3];rfl
      rw[if_pos t3]
      rw[if_pos hs]at h'
      obtain⟨r,hr,hx⟩:=Option.bind_eq_some_iff.1 h'
      obtain rfl:=Option.some.inj hx
      have e1:qf2 E ⟨i,K,u,N,C⟩=(msE E 8 [105,102] i >>= fun j=>.ok ⟨j,.row N.length [59] (.item .tstC)::qa8 N.length::K,u,N++[some (nk 19 [])],C⟩):=rfl
      rw[e1]
      rcases qbe E 8 [105,102] i (by decide)with⟨m1,m2,m3,m4,m5⟩ | ⟨m1,m2,m3⟩
      ·rw[m1]
       rw[m4]at hr
       refine .inl ⟨_,rfl,frN (FrL.app hb _),?_⟩
       have hy:(N++[some (nk 19 [])])[N.length]?=some (some ((nk 19 []).add [])):=qam _ _
       cases m with
       | zero=>cases hr
       | succ m=>
       have hr:qal E m (.ifsL []) (pz (i+1))=some r:=hr
       refine qcr ?_
       refine Ends.bind (qjr (K:=qa8 N.length::K) (n:=m) (fun k hk=>hE k (by omega)) m (zL _) (nk 19 []) [] (i+1) r hr _ _ C N.length b c hy hb hc) (zL _) (zL _) (fun e=>qcz e) (fun e τ hf hq=>?_)
       obtain⟨N5,C5,rfl,q1⟩:=hq
       obtain⟨w,hw⟩: ∃z,r.p=pz z:=⟨_,qca e⟩
       rw[hw]
       simp only[qey]
       exact qdy (y:=nk 19 r.xs) rfl _ N5 C5 N.length q1 hb
      ·rw[m1]
       exact .inr ⟨rfl,qcz (qb3 hr (m3 hs))⟩
     ·rw[if_neg t3]
      rw[if_neg (by rw[hwd'];simpa using t3)]at h'
      by_cases t4:(nxE E i).2.1.toList=[114,101,99,101,105,118,101]
      ·have hs:E.word (pz i) [114,101,99,101,105,118,101]=true:=by rw[hwd',t4];rfl
       rw[if_pos t4]
       rw[if_pos hs]at h'
       exact(qkd (fun k hk=>hE k (by omega)) h' hs u N C hb hc).re
      ·rw[if_neg t4]
       rw[if_neg (by rw[hwd'];simpa using t4)]at h'
       by_cases t5:(nxE E i).2.1.toList=[98,101,103,105,110]
       ·have hs:E.word (pz i) [98,101,103,105,110]=true:=by rw[hwd',t5];rfl
        rw[if_pos t5]
        rw[if_pos hs]at h'
        obtain⟨r,hr,hx⟩:=Option.bind_eq_some_iff.1 h'
        obtain rfl:=Option.some.inj hx
        have e1:qeo E ⟨i,K,u,N,C⟩=(msE E 8 [98,101,103,105,110] i >>= fun j=>.ok ⟨j,.body:: .into N.length::qa8 N.length::K,u,N++[some (nk 21 [])],C⟩):=rfl
        rw[e1]
        rcases qbe E 8 [98,101,103,105,110] i (by decide)with⟨m1,m2,m3,m4,m5⟩ | ⟨m1,m2,m3⟩
        ·rw[m1]
         rw[m4]at hr
         refine .inl ⟨_,rfl,frN (FrL.app hb _),?_⟩
         have hy:(N++[some (nk 21 [])])[N.length]?=some (some (nk 21 [])):=qam _ _
         have hnl:=qad hy
         refine Ends.bind (qg7 (K:=.into N.length::qa8 N.length::K) (fun k hk=>hE k (by omega)) hr u _ C) (by omega) hc (fun e=>qcz e) (fun e τ hf hq=>?_)
         obtain⟨j,N1,C1,rfl,g1,g2,g3⟩:=hq
         have hy1:=hf.N.at hnl hy
         obtain⟨w,hw⟩: ∃z,r.p=pz z:=⟨_,qca e⟩
         rw[hw]
         simp only[qey]
         refine qar g2 hy1 (by omega) (by omega) hb ?_
         exact qdy (y:=nk 21 [r.x]) rfl _ _ C1 N.length (qb7 hy1) hb
        ·rw[m1]
         exact .inr ⟨rfl,qcz (qb3 hr (m3 hs))⟩
       ·rw[if_neg t5]
        rw[if_neg (by rw[hwd'];simpa using t5)]at h'
        obtain rfl:=Option.some.inj h'
        exact .inr ⟨rfl,rfl⟩
  ·rw[if_neg h8]
   have hwd': ∀s:Bs,E.word (pz i) s=false:=fun s=>by rw[hwd,show((nxE E i).1==8)=false by simpa using h8];rfl
   simp only[hwd',zB,if_false]at h'
   by_cases hl:ltk (E.at_ (pz i)).1=true
   ·rw[if_pos hl]at h'
    obtain rfl:=Option.some.inj h'
    have:=(qmn (E:=E) (b:=b) (c:=c) (K:=K) i u N C hb).re (i:=i) (k:=.prim::K) (u:=u)
    rw[hl]at this
    exact this
   ·rw[if_neg hl]at h'
    obtain rfl:=Option.some.inj h'
    refine .inr ⟨?_,rfl⟩
    show(txE E ltk i >>= fun r=>_)=_
    have:txE E ltk i=.error .die:=by
     unfold txE
     rw[if_neg (show¬ltk (nxE E i).1=true from hl)]
    rw[this];rfl
end
section
variable{E:Env}{b c:Nat}{K:List Stp}{i:Nat}
theorem qor{m:Nat}(hB: ∀k,k<=m->BX E k){x:Nd}{out:Out}(h:qal E m (.hash [x]) (E.take (pz i)).2=some out)(hs:E.sign (pz i) [35]=true)(N:List (Option Nd))(C:List Chn)(j:Nat)(hx:N[j]?=some (some x))(hb:b<=j)(hc:c<=C.length):
 Ends E out.p.bad b c ⟨i,.chgd::K,some j,N,C⟩ (An K b out.x out.p.i):=by
 refine Ends.step ?_
 have hl:=qad hx
 have hlm:(N.set j none).length=N.length:=zK
 have e0:stp E .chgd ⟨i,K,some j,N,C⟩=(msE E 9 [35] i >>= fun q=>if E.sign (pz q) [123]=true then .ok ⟨q,.box N.length [123] .pair::K,some j,N.set j none++[some (nk 9 [x])],C⟩else(txE E nmk q >>= fun r=>sgE E 9 [46] r.2 >>= fun d=>if d.1=true then(txE E (· ==1) d.2 >>= fun a=>.ok ⟨a.2,K,some N.length,N.set j none++[some (nkt 12 (scE E (a.2-q) q) [x])],C⟩)else .ok ⟨d.2,.box N.length [123] (.expr 0)::K,some j,N.set j none++[some (nkt 11 r.1 [x])],C⟩)):=by
  show((⟨i,K,some j,N,C⟩:PM).cur >>= fun x=>_)=_
  rw[qdr hx]
  show(msE E 9 [35] i >>= fun q=>if E.sign (pz q) [123]=true then(.ok ⟨q,.box (N.set j none).length [123] .pair::K,some j,N.set j none++[some (nk 9 [x])],C⟩:Rs PM)else(txE E nmk q >>= fun r=>sgE E 9 [46] r.2 >>= fun d=>if d.1=true then(txE E (· ==1) d.2 >>= fun a=>.ok ⟨a.2,K,some N.length,N.set j none++[some (nkt 12 (scE E (a.2-q) q) [x])],C⟩)else .ok ⟨d.2,.box (N.set j none).length [123] (.expr 0)::K,some j,N.set j none++[some (nkt 11 r.1 [x])],C⟩))=_
  rw[hlm]
 rw[e0]
 have hbN:b<=(N.set j none).length:=by rw[hlm];omega
 have hfr: ∀z,FrL b N (N.set j none++[z]):=fun z=>(FrL.set hb none).trans (FrL.app hbN _)
 rcases qbe E 9 [35] i (by decide)with⟨m1,m2,m3,m4,m5⟩ | ⟨m1,m2,m3⟩
 ·rw[m1]
  rw[m4]at h
  cases m with
  | zero=>cases h
  | succ m=>
  have h':(if E.sign (pz (i+1)) [123]=true then qal E m (.box (nk 9 [x]) [123] [125] 1) (pz (i+1))else if E.sign (E.text (pz (i+1)) (nmk (E.at_ (pz (i+1))).1)).2 [46]=true then(let p1:=(E.take (E.text (pz (i+1)) (nmk (E.at_ (pz (i+1))).1)).2).2;let q2:=E.text p1 ((E.at_ p1).1==1);some ({ x:=nkt 12 ((E.text (pz (i+1)) (nmk (E.at_ (pz (i+1))).1)).1++⟨#[46]⟩++q2.1) [x],p:=q2.2 } :Out))else qal E m (.box (nkt 11 (E.text (pz (i+1)) (nmk (E.at_ (pz (i+1))).1)).1 [x]) [123] [125] 0) (E.text (pz (i+1)) (nmk (E.at_ (pz (i+1))).1)).2)=some out:=h
  show EndsR E out.p.bad b c _ _ (if E.sign (pz (i+1)) [123]=true then _ else _)
  by_cases hw:E.sign (pz (i+1)) [123]=true
  ·rw[if_pos hw]at h'⊢
   rw[<-hlm]
   exact .inl ⟨_,rfl,frN (hfr _),qg8 (hB m (by omega)) h' (.inr (.inr ⟨rfl,.inr rfl,rfl⟩)) rfl (.inr (.inl rfl)) rfl _ _ C hbN hc⟩
  ·rw[if_neg hw]at h'⊢
   rcases qcn E nmk (i+1) (by decide)with⟨t1,t2,t3,t4,t5⟩ | ⟨t1,t2⟩
   ·rw[t1]
    rw[t2]at h'
    show EndsR E out.p.bad b c _ _ (sgE E 9 [46] (i+1+1) >>= fun d=>_)
    rcases qbt E 9 [46] (i+1+1) (by decide)with⟨s1,s2,s3,s4,s5⟩ | ⟨s1,s2⟩ | ⟨s1,s2,s3⟩
    ·rw[s1]
     rw[if_pos (show E.sign ((E.tk (i+1)).2.1,pz (i+1+1)).2 [46]=true from s2)]at h'
     have h':=Option.some.inj h'
     simp only[s3]at h'
     have htx:(E.tk (i+1+1)).2.1=⟨#[46]⟩:=qfi (by decide) s2 (qfe (by decide) s1)
     show EndsR E out.p.bad b c _ _ (txE E (· ==1) (i+1+1+1) >>= fun a=>_)
     rcases qcn E (· ==1) (i+1+1+1) (by decide)with⟨v1,v2,v3,v4,v5⟩ | ⟨v1,v2⟩
     ·rw[v1]
      rw[show E.text (pz (i+1+1+1)) ((E.at_ (pz (i+1+1+1))).1==1)=_ from v2]at h'
      subst h'
      have hsc:(E.tk (i+1)).2.1++⟨#[46]⟩++(E.tk (i+1+1+1)).2.1=scE E (i+1+1+1+1- (i+1)) (i+1):=by
       rw[show i+1+1+1+1- (i+1)=1+(1+1)by omega,qcq,qcq,qbw,qbw,qbw,htx,ByteArray.append_assoc]
      rw[hsc]
      refine .inl ⟨_,rfl,frN (hfr _),Ends.here rfl ⟨_,_,_,rfl,by omega,?_,rfl⟩⟩
      show(N.set j none++[some (nkt 12 (scE E (i+1+1+1+1- (i+1)) (i+1)) [x])])[N.length]?=_
      rw[<-hlm];exact qam _ _
     ·rw[v1]
      refine .inr ⟨rfl,?_⟩
      rw[<-h'];exact v2
    ·rw[s1]
     rw[if_neg (show¬E.sign ((E.tk (i+1)).2.1,pz (i+1+1)).2 [46]=true by rw[show E.sign ((E.tk (i+1)).2.1,pz (i+1+1)).2 [46]=false from s2];decide)]at h'
     rw[<-hlm]
     exact .inl ⟨_,rfl,frN (hfr _),qg8 (hB m (by omega)) h' (.inl ⟨rfl,by show(11:Int)≠6;decide,by show(11:Int)≠8;decide,by show(11:Int)≠9;decide⟩) rfl (.inr (.inl rfl)) rfl _ _ C hbN hc⟩
    ·rw[s1]
     rw[if_pos (show E.sign ((E.tk (i+1)).2.1,pz (i+1+1)).2 [46]=true from s2)]at h'
     have h':=Option.some.inj h'
     refine .inr ⟨rfl,?_⟩
     rw[<-h'];exact qc7 _ s3
   ·rw[t1]
    refine .inr ⟨rfl,?_⟩
    rw[if_neg (by rw[show E.sign (E.text (pz (i+1)) (nmk (E.at_ (pz (i+1))).1)).2 [46]=false from qbq t2 (by decide)];decide)]at h'
    exact qb3 h' t2
 ·rw[m1]
  exact .inr ⟨rfl,qb3 h (m3 hs)⟩
def FolQ(E:Env)(K:List Stp)(b cc:Nat)(ch:Chn)(o:Out)(τ:PM):Prop:= ∃j N C st,τ=⟨o.p.i,.folw cc::K,some j,N,C⟩/\b<=j/\N[j]?=some (some o.x)/\o.x.nof=[]/\C[cc]?=some { ch with st:=st } /\qav E { ch with st:=st } o.x o.p.i=none
theorem qgf{n:Nat}(hE: ∀k,k<n->HE E k)(hB: ∀k,k<n->BX E k): ∀m,m<=n-> ∀(x:Nd) (paren:Bool) (i:Nat) (o:Out),qal E m (.follow x paren) (pz i)=some o->x.nof=[]-> ∀(N:List (Option Nd)) (C:List Chn) (j cc b c:Nat) (ch:Chn),N[j]?=some (some x)->C[cc]?=some ch->ch.st=paren->b<=j->c<=cc->
 Ends E o.p.bad b c ⟨i,.folw cc::K,some j,N,C⟩ (FolQ E K b cc ch o)
 | 0,_,_,_,_,_,h,_,_,_,_,_,_,_,_,_,_,_,_,_=>by cases h
 | m+1,hm,x,paren,i,o,h,hno,N,C,j,cc,b,c,ch,hx,hC,hst,hb,hc=>by
  have h':(if((pz i).bad||!(paren||qtb x))=true then some ({ x:=x,p:=pz i } :Out)else
   if E.sign (pz i) [40]=true then(qal E m (.box (nk 2 [x]) [40] [41] 0) (pz i)).bind fun r=>qal E m (.follow r.x false) r.p
   else if(E.sign (pz i) [58]&&(paren||x.kd==1))=true then
    if E.sign (E.take (pz i)).2 [40]=true then(qal E m (.expr 0) (E.take (E.take (pz i)).2).2).bind fun r=>qal E m (.follow (nk 3 [x,r.x]) false) (E.want r.p 9 [41]).2
    else qal E m (.follow (nk 3 [x,nkt 1 (E.text (E.take (pz i)).2 (nmk (E.at_ (E.take (pz i)).2).1)).1 []]) false) (E.text (E.take (pz i)).2 (nmk (E.at_ (E.take (pz i)).2).1)).2
   else if E.sign (pz i) [35]=true then(qal E m (.hash [x]) (E.take (pz i)).2).bind fun r=>qal E m (.follow r.x false) r.p
   else some { x:=x,p:=pz i })=some o:=h
  have hcc:=qad hC
  have hjl:=qad hx
  have hstop:qav E ch x i=none->o= { x:=x,p:=pz i } ->Ends E o.p.bad b c ⟨i,.folw cc::K,some j,N,C⟩ (FolQ E K b cc ch o):=by
   rintro hf rfl
   exact Ends.here rfl ⟨_,_,_,ch.st,rfl,hb,hx,hno,hC,hf⟩
  have hgo: ∀s,qav E ch x i=some s-> ∀ {bad:Bool} {Q:PM->Prop},Ends E bad b c ⟨i,s:: .folw cc::K,some j,N,C.set cc { ch with st:=false }⟩ Q->Ends E bad b c ⟨i,.folw cc::K,some j,N,C⟩ Q:=by
   intro s hf bad Q he
   refine Ends.step (.inl ⟨_,?_,frC (FrL.set hc { ch with st:=false }),he⟩)
   have hch:(⟨i,K,some j,N,C⟩:PM).ch cc=.ok ch:=by
    unfold PM.ch;rw[show(⟨i,K,some j,N,C⟩:PM).C=C from rfl,hC]
   show((⟨i,K,some j,N,C⟩:PM).ch cc >>= fun h=>_)=_
   rw[hch]
   show((⟨i,K,some j,N,C⟩:PM).cur >>= fun x=>_)=_
   rw[qdr hx]
   show(match qav E ch x i with | some s=>_ | none=>_)=_
   rw[hf];rfl
  have hC2:(C.set cc { ch with st:=false })[cc]?=some { ch with st:=false } :=qb4 _ hC
  have hrec: ∀(y:Nd) (z:Nat) (N2:List (Option Nd)) (C2:List Chn) (j2:Nat),qal E m (.follow y false) (pz z)=some o->y.nof=[]->N2[j2]?=some (some y)->C2[cc]?=some { ch with st:=false } ->b<=j2->Ends E o.p.bad b c ⟨z,.folw cc::K,some j2,N2,C2⟩ (FolQ E K b cc ch o):=by
   intro y z N2 C2 j2 h1 h2 h3 h4 h5
   refine(qgf hE hB m (by omega) y false z o h1 h2 N2 C2 j2 cc b c { ch with st:=false } h3 h4 rfl h5 hc).mono (zL _) (zL _) (fun τ _ _ hq=>?_)
   obtain⟨j9,N9,C9,st,q1,q2,q3,q4,q5,q6⟩:=hq
   exact⟨j9,N9,C9,st,q1,q2,q3,q4,q5,q6⟩
  by_cases hbare:(paren||qtb x)=true
  rotate_left
  ·have hbf:(paren||qtb x)=false:=by simpa using hbare
   rw[if_pos (by rw[hbf];simp)]at h'
   refine hstop ?_ (Option.some.inj h').symm
   unfold qav
   simp only[Bool.or_eq_false_iff]at hbf
   rw[if_pos ⟨by rw[hst];exact hbf.1,hbf.2⟩]
  ·rw[if_neg (by rw[hbare];simp[pz])]at h'
   have hnb: ¬(ch.st=false/\qtb x=false):=by
    rintro⟨a1,a2⟩
    rw[<-hst,a1,a2]at hbare;cases hbare
   have hf0:qav E ch x i=(if E.sign (pz i) [40]=true then some .call else if E.sign (pz i) [35]=true then some .chgd else if E.sign (pz i) [58]=true/\(ch.st=true\/x.kd=1)then some .remo else none):=by
    unfold qav;rw[if_neg hnb]
   by_cases s1:E.sign (pz i) [40]=true
   ·rw[if_pos s1]at h'
    obtain⟨r,hr,hx9⟩:=Option.bind_eq_some_iff.1 h'
    refine hgo .call (by rw[hf0,if_pos s1]) ?_
    have hlm:(N.set j none).length=N.length:=zK
    refine Ends.step (.inl ⟨⟨i,.box (N.set j none).length [40] (.expr 0):: .folw cc::K,some j,N.set j none++[some (nk 2 [x])],C.set cc { ch with st:=false }⟩,?_,frN ((FrL.set hb none).trans (FrL.app (by rw[hlm];omega) _)),?_⟩)
    ·show((⟨i,.folw cc::K,some j,N,C.set cc { ch with st:=false }⟩:PM).cur >>= fun x=>_)=_
     rw[qdr hx];rfl
    ·refine Ends.bind (qg8 (K:=.folw cc::K) (b:=b) (c:=(C.set cc { ch with st:=false }).length) (hB m (by omega)) hr (.inl ⟨rfl,by show(2:Int)≠6;decide,by show(2:Int)≠8;decide,by show(2:Int)≠9;decide⟩) rfl (.inl rfl) rfl _ _ _ (by rw[hlm];omega) (zL _)) (zL _) (by rw[zK];omega) (fun e=>qb3 hx9 e) (fun e τ hf hq=>?_)
     obtain⟨j2,N2,C2,rfl,g1,g2,g3⟩:=hq
     obtain⟨z,hz⟩: ∃z,r.p=pz z:=⟨_,qca e⟩
     rw[hz]at hx9⊢
     simp only[qey]
     exact hrec _ z N2 C2 j2 hx9 g3 g2 (hf.C.at (qad hC2) hC2) g1
   ·rw[if_neg s1]at h'
    by_cases s2:E.sign (pz i) [35]=true
    ·have s3:E.sign (pz i) [58]=false:=qdo s2 (by decide)
     rw[s3,Bool.false_and,if_neg (by decide),if_pos s2]at h'
     obtain⟨r,hr,hx9⟩:=Option.bind_eq_some_iff.1 h'
     refine hgo .chgd (by rw[hf0,if_neg s1,if_pos s2]) ?_
     refine Ends.bind (qor (K:=.folw cc::K) (b:=b) (c:=(C.set cc { ch with st:=false }).length) (fun k hk=>hB k (by omega)) hr s2 N _ j hx hb (zL _)) (zL _) (by rw[zK];omega) (fun e=>qb3 hx9 e) (fun e τ hf hq=>?_)
     obtain⟨j2,N2,C2,rfl,g1,g2,g3⟩:=hq
     obtain⟨z,hz⟩: ∃z,r.p=pz z:=⟨_,qca e⟩
     rw[hz]at hx9⊢
     simp only[qey]
     exact hrec _ z N2 C2 j2 hx9 g3 g2 (hf.C.at (qad hC2) hC2) g1
    ·by_cases s3:(E.sign (pz i) [58]&&(paren||x.kd==1))=true
     ·rw[if_pos s3]at h'
      simp only[zA,zC,beq_iff_eq]at s3
      refine hgo .remo (by rw[hf0,if_neg s1,if_neg s2,if_pos ⟨s3.1,by rw[hst];exact s3.2⟩]) ?_
      have hlm:(N.set j none).length=N.length:=zK
      refine Ends.step ?_
      have e0:stp E .remo ⟨i,.folw cc::K,some j,N,C.set cc { ch with st:=false }⟩=(msE E 9 [58] i >>= fun q=>.ok ⟨q,.clld:: .into N.length:: .folw cc::K,some j,N.set j none++[some (nk 3 [x])],C.set cc { ch with st:=false }⟩):=by
       show((⟨i,.folw cc::K,some j,N,C.set cc { ch with st:=false }⟩:PM).cur >>= fun x=>_)=_
       rw[qdr hx];rfl
      rw[e0]
      have hbad:(E.take (pz i)).2.bad=true->o.p.bad=true:=fun e=>by
       rw[if_neg (by rw[show E.sign (E.take (pz i)).2 [40]=false from qbq e (by decide)];decide)]at h'
       exact qb3 h' (qc7 _ e)
      rcases qbe E 9 [58] i (by decide)with⟨m1,m2,m3,m4,m5⟩ | ⟨m1,m2,m3⟩
      ·rw[m1]
       rw[m4]at h'
       refine .inl ⟨⟨i+1,.clld:: .into N.length:: .folw cc::K,some j,N.set j none++[some (nk 3 [x])],C.set cc { ch with st:=false }⟩,rfl,frN ((FrL.set hb none).trans (FrL.app (by rw[hlm];omega) _)),?_⟩
       have hy:(N.set j none++[some (nk 3 [x])])[N.length]?=some (some (nk 3 [x])):=by
        have h9:=qam (N.set j none) (some (nk 3 [x]))
        rw[hlm]at h9;exact h9
       have hl2:(N.set j none++[some (nk 3 [x])]).length=N.length+1:=by rw[zJ,hlm];rfl
       generalize N.set j none++[some (nk 3 [x])]=N2 at hy hl2⊢
       refine Ends.step ?_
       show EndsR E o.p.bad b c _ _ (if E.sign (pz (i+1)) [40]=true then qbg E ⟨i+1,.into N.length:: .folw cc::K,some j,N2,C.set cc { ch with st:=false }⟩else(txE E nmk (i+1) >>= fun r=>.ok (((⟨i+1,.into N.length:: .folw cc::K,some j,N2,C.set cc { ch with st:=false }⟩:PM).at_ r.2).got (nkt 1 r.1 []))))
       by_cases s4:E.sign (pz (i+1)) [40]=true
       ·rw[if_pos s4]at h'⊢
        obtain⟨r,hr,hx9⟩:=Option.bind_eq_some_iff.1 h'
        have hwi:=(qej (K:=.into N.length:: .folw cc::K) (b:=N2.length) (c:=(C.set cc { ch with st:=false }).length) (hE m (by omega)) s4 hr (some j) N2 (C.set cc { ch with st:=false }) (zL _) (zL _))
        rcases hwi with⟨τ,w1,w2,w3⟩ | ⟨w1,w2⟩
        ·refine .inl ⟨τ,w1,⟨w2.N.mono (show b<=N2.length by omega),w2.C.mono (show c<=(C.set cc { ch with st:=false }).length by rw[zK];omega)⟩,?_⟩
         refine Ends.bind w3 (by omega) (by rw[zK];omega) (fun e=>qb3 hx9 e) (fun e τ2 hf hq=>?_)
         obtain⟨j2,N3,C3,rfl,g1,g2,g3⟩:=hq
         obtain⟨z,hz⟩: ∃z,(E.want r.p 9 [41]).2=pz z:=⟨_,qca e⟩
         rw[hz]at hx9⊢
         simp only[qey]
         have hy3:N3[N.length]?=some (some (nk 3 [x])):=(w2.N.trans hf.N).at (by omega) hy
         have hC3:C3[cc]?=some { ch with st:=false } :=(w2.C.trans hf.C).at (qad hC2) hC2
         refine qar g2 hy3 (by omega) (by omega) (by omega) ?_
         exact hrec (nk 3 [x,r.x]) z _ C3 N.length hx9 rfl (qb7 hy3) hC3 (by omega)
        ·exact .inr ⟨w1,qb3 hx9 w2⟩
       ·rw[if_neg s4]at h'⊢
        rcases qcn E nmk (i+1) (by decide)with⟨t1,t2,t3,t4,t5⟩ | ⟨t1,t2⟩
        ·rw[t1]
         rw[show E.text (i,pz (i+1)).2 (nmk (E.at_ (i,pz (i+1)).2).1)=_ from t2]at h'
         refine .inl ⟨⟨i+1+1,.into N.length:: .folw cc::K,some N2.length,N2++[some (nkt 1 (E.tk (i+1)).2.1 [])],C.set cc { ch with st:=false }⟩,rfl,frN (FrL.app (show b<=N2.length by omega) _),?_⟩
         have hy3:(N2++[some (nkt 1 (E.tk (i+1)).2.1 [])])[N.length]?=some (some (nk 3 [x])):=by rw[zD (by omega)];exact hy
         refine qar (qam _ _) hy3 (by omega) (by omega) (by omega) ?_
         exact hrec (nk 3 [x,nkt 1 (E.tk (i+1)).2.1 []]) (i+1+1) _ _ N.length h' rfl (qb7 hy3) hC2 (by omega)
        ·rw[t1]
         exact .inr ⟨rfl,qb3 h' t2⟩
      ·rw[m1]
       exact .inr ⟨rfl,hbad (m3 s3.1)⟩
     ·rw[if_neg s3,if_neg s2]at h'
      refine hstop ?_ (Option.some.inj h').symm
      rw[hf0,if_neg s1,if_neg s2,if_neg]
      rintro⟨a1,a2⟩
      apply s3
      simp only[zA,zC,beq_iff_eq]
      exact⟨a1,by rw[<-hst];exact a2⟩
end
section
variable{E:Env}{b c:Nat}{K:List Stp}{i:Nat}
theorem qoz(lv:Int): ∀(f i k m:Nat) (o:Out),E.to<i+f->0<f->i<=E.to->qal E m (.expr lv) (pz i)=some o->
 (∃q i' m' lv' r o',ctL E lv f i k=.ok (k+q,i')/\m'<=m/\i'<=E.to/\max lv' 1=max lv 1/\qal E m' .operand (pz i')=some r/\qal E m' (.exprL lv' r.x r.h) r.p=some o'/\o.x=qhj (List.replicate q ⟨#[99,97,116,99,104]⟩) o'.x/\o.p=o'.p)\/(ctL E lv f i k=.error .die/\o.p.bad=true)
 | 0,_,_,_,_,_,h,_,_=>by omega
 | f+1,i,k,0,o,_,_,_,h=>by cases h
 | f+1,i,k,m+1,o,hf,_,hi,h=>by
  have h':(if(decide (lv<=0)&&E.word (pz i) [99,97,116,99,104])=true then(qal E m (.expr 0) (E.take (pz i)).2).bind fun r=>some ({ x:=nkt 13 ⟨#[99,97,116,99,104]⟩ [r.x],p:=r.p } :Out)else(qal E m .operand (pz i)).bind fun r=>qal E m (.exprL lv r.x r.h) r.p)=some o:=h
  have e0:ctL E lv (f+1) i k=(if(decide (lv<=0)&&E.word (pz i) [99,97,116,99,104])=true then tkE E i >>= fun j=>ctL E lv f j (k+1)else .ok (k,i)):=rfl
  rw[e0]
  by_cases hc:(decide (lv<=0)&&E.word (pz i) [99,97,116,99,104])=true
  ·rw[if_pos hc]at h'⊢
   obtain⟨r,hr,hx⟩:=Option.bind_eq_some_iff.1 h'
   obtain rfl:=Option.some.inj hx
   have hlv:lv<=0:=by
    simp only[zA,decide_eq_true_eq]at hc;exact hc.1
   have hw:E.word (pz i) [99,97,116,99,104]=true:=by
    simp only[zA]at hc;exact hc.2
   rcases qw1 (E:=E) (i:=i) (.inr (qfr hw).1)with⟨t1,t2,t3,t4⟩ | ⟨t1,t2⟩
   ·rw[t1]
    rw[t2]at hr
    have hl: ∀f j k,ctL E lv f j k=ctL E 0 f j k:=by
     intro f
     induction f with
     | zero=>intros;rfl
     | succ f ih=>
      intro j k
      show(if(decide (lv<=0)&&E.word (pz j) [99,97,116,99,104])=true then tkE E j >>= fun j=>ctL E lv f j (k+1)else .ok (k,j))=(if(decide ((0:Int)<=0)&&E.word (pz j) [99,97,116,99,104])=true then tkE E j >>= fun j=>ctL E 0 f j (k+1)else .ok (k,j))
      rw[show decide (lv<=0)=decide ((0:Int)<=0)by simp[hlv]]
      simp only[ih]
    show(∃q i' m' lv' r_1 o',ctL E lv f (i+1) (k+1)=_/\_)\/(ctL E lv f (i+1) (k+1)=.error .die/\_)
    rw[hl f (i+1) (k+1)]
    rcases qoz 0 f (i+1) (k+1) m r (by omega) (by omega) (by omega) hr with⟨q,i',m',lv',r1,o',q1,q2,q3,q4,q5,q6,q7,q8⟩ | ⟨q1,q2⟩
    ·refine .inl ⟨q+1,i',m',lv',r1,o',?_,by omega,q3,?_,q5,q6,?_,q8⟩
     ·rw[q1,show k+1+q=k+(q+1)by omega]
     ·rw[q4,Int.max_eq_right (show lv<=1 by omega)];rfl
     ·rw[List.replicate_succ',qh8,q7];rfl
    ·exact .inr ⟨q1,q2⟩
   ·rw[t1]
    exact .inr ⟨rfl,show r.p.bad=true from qb3 hr t2⟩
  ·rw[if_neg hc]at h'⊢
   obtain⟨r,hr,hx⟩:=Option.bind_eq_some_iff.1 h'
   exact .inl ⟨0,i,m,lv,r,o,rfl,by omega,hi,rfl,hr,hx,rfl,rfl⟩
theorem qqw: ∀(f i m:Nat) (a:List ByteArray) (r:Out),E.to<i+f->0<f->i<=E.to->qal E m .operand (pz i)=some r->
 (∃P i' m' r1 r2,pfL E f i a=.ok (a++P,i')/\m'<=m/\i'<=E.to/\qal E m' .primary (pz i')=some r1/\qal E m' (.follow r1.x (E.sign (pz i') [40])) r1.p=some r2/\r.x=qhj P.reverse r2.x/\r.h=(if P=[]then 11 else 10)/\r.p=r2.p)\/(pfL E f i a=.error .die/\r.p.bad=true)
 | 0,_,_,_,_,_,h,_,_=>by omega
 | f+1,i,0,a,r,_,_,_,h=>by cases h
 | f+1,i,m+1,a,r,hf,_,hi,h=>by
  have h':(if(((E.at_ (pz i)).1==9||(E.at_ (pz i)).1==8)&&decide (0<pf (E.at_ (pz i)).2.1.toList))=true then(qal E m .operand (E.take (pz i)).2).bind fun r=>some ({ x:=nkt 13 (E.at_ (pz i)).2.1 [r.x],h:=10,p:=r.p } :Out)else(qal E m .primary (pz i)).bind fun r=>(qal E m (.follow r.x (E.sign (pz i) [40])) r.p).bind fun r2=>some { x:=r2.x,h:=11,p:=r2.p })=some r:=h
  have e0:pfL E (f+1) i a=(if 0<pf (opE E i).toList then tkE E i >>= fun j=>pfL E f j (a++[opE E i])else .ok (a,i)):=rfl
  rw[e0]
  have hcond:(0<pf (opE E i).toList↔(((E.at_ (pz i)).1==9||(E.at_ (pz i)).1==8)&&decide (0<pf (E.at_ (pz i)).2.1.toList))=true):=by
   rcases qwz (E:=E) i with⟨q1,q2⟩ | ⟨q1,q2⟩
   ·rw[q2,qi5,qqx]
    simp only[zA,bne_iff_ne,ne_eq]at q1
    simp[q1.1,q1.2]
   ·rw[q2]
    simp only[Bool.and_eq_false_iff,bne_eq_false_iff_eq]at q1
    rcases q1 with q1 | q1<;>simp[q1]
  by_cases hc:(((E.at_ (pz i)).1==9||(E.at_ (pz i)).1==8)&&decide (0<pf (E.at_ (pz i)).2.1.toList))=true
  ·rw[if_pos hc]at h'
   rw[if_pos (hcond.2 hc)]
   obtain⟨r',hr,hx⟩:=Option.bind_eq_some_iff.1 h'
   obtain rfl:=Option.some.inj hx
   have hk:(E.at_ (pz i)).1=9\/(E.at_ (pz i)).1=8:=by
    simp only[zA,zC,beq_iff_eq]at hc;exact hc.1
   have hop:opE E i=(E.at_ (pz i)).2.1:=if_pos hk
   rcases qw1 (E:=E) (i:=i) hk with⟨t1,t2,t3,t4⟩ | ⟨t1,t2⟩
   ·rw[t1]
    rw[t2]at hr
    show(∃P i' m' r1 r2,pfL E f (i+1) (a++[opE E i])=_/\_)\/(pfL E f (i+1) (a++[opE E i])=.error .die/\_)
    rcases qqw f (i+1) m (a++[opE E i]) r' (by omega) (by omega) (by omega) hr with⟨P,i',m',r1,r2,q1,q2,q3,q4,q5,q6,q7,q8⟩ | ⟨q1,q2⟩
    ·refine .inl ⟨opE E i::P,i',m',r1,r2,?_,by omega,q3,q4,q5,?_,rfl,q8⟩
     ·rw[q1];simp
     ·rw[List.reverse_cons,qh8,<-q6,hop];rfl
    ·exact .inr ⟨q1,q2⟩
   ·rw[t1]
    exact .inr ⟨rfl,show r'.p.bad=true from qb3 hr t2⟩
  ·rw[if_neg hc]at h'
   rw[if_neg (fun e=>hc (hcond.1 e))]
   obtain⟨r1,hr1,hx⟩:=Option.bind_eq_some_iff.1 h'
   obtain⟨r2,hr2,hx⟩:=Option.bind_eq_some_iff.1 hx
   obtain rfl:=Option.some.inj hx
   exact .inl ⟨[],i,m,r1,r2,by rw[List.append_nil],by omega,hi,hr1,hr2,rfl,rfl,rfl⟩
theorem qp5{n:Nat}(hE: ∀k,k<n->HE E k)(hB: ∀k,k<n->BX E k){lv:Int}{o:Out}(h:qal E n (.expr lv) (pz i)=some o)(hi:i<=E.to)(u:Option Nat)(N:List (Option Nd))(C:List Chn):
 Ends E o.p.bad N.length C.length ⟨i,.expr lv::K,u,N,C⟩ (An K N.length o.x o.p.i):=by
 refine Ends.step ?_
 have e0:stp E (.expr lv) ⟨i,K,u,N,C⟩=(ctL E lv (E.to+2) i 0 >>= fun a=>pfL E (E.to+2) a.2 [] >>= fun b=>.ok ⟨b.2,.prim:: .folw C.length::K,u,N,C++[{ lv:=lv,ct:=a.1,ah:=b.1,st:=E.sign (pz b.2) [40],hs:=if b.1=[]then 11 else 10 }]⟩):=rfl
 rw[e0]
 rcases qoz lv (E.to+2) i 0 n o (by omega) (by omega) hi h with⟨q,i',m',lv',r,o',q1,q2,q3,q4,q5,q6,q7,q8⟩ | ⟨q1,q2⟩
 rotate_left
 ·rw[q1];exact .inr ⟨rfl,q2⟩
 rw[q1]
 have hobad:r.p.bad=true->o.p.bad=true:=fun e=>by rw[q8];exact qb3 q6 e
 show EndsR E o.p.bad N.length C.length _ _ (pfL E (E.to+2) i' [] >>= fun b=>_)
 rcases qqw (E.to+2) i' m' [] r (by omega) (by omega) q3 q5 with⟨P,i2,m2,r1,r2,p1,p2,p3,p4,p5,p6,p7,p8⟩ | ⟨p1,p2⟩
 rotate_left
 ·rw[p1];exact .inr ⟨rfl,hobad p2⟩
 rw[p1]
 refine .inl ⟨⟨i2,.prim:: .folw C.length::K,u,N,C++[{ lv:=lv,ct:=0+q,ah:=[]++P,st:=E.sign (pz i2) [40],hs:=if[]++P=[]then 11 else 10 }]⟩,rfl,frC (FrL.app (zL _) _),?_⟩
 rw[Nat.zero_add,List.nil_append]
 generalize hch:({ lv:=lv,ct:=q,ah:=P,st:=E.sign (pz i2) [40],hs:=if P=[]then 11 else 10 } :Chn)=ch
 have hC:(C++[ch])[C.length]?=some ch:=qam _ _
 have hCl:C.length< (C++[ch]).length:=qad hC
 refine Ends.bind (qr2 (K:=.folw C.length::K) (b:=N.length) (c:=(C++[ch]).length) hE hB (show m2<=n by omega) p4 u N (C++[ch]) (zL _) (zL _)) (zL _) (by omega) (fun e=>hobad (by rw[p8];exact qb3 p5 e)) (fun e τ hf hq=>?_)
 obtain⟨j,N1,C1,rfl,g1,g2,g3⟩:=hq
 have hC1:=hf.C.at hCl hC
 obtain⟨z,hz⟩: ∃z,r1.p=pz z:=⟨_,qca e⟩
 rw[hz]at p5⊢
 simp only[qey]
 refine Ends.bind (qgf hE hB m2 (by omega) r1.x _ z r2 p5 g3 N1 C1 j C.length N.length C.length ch g2 hC1 (by rw[<-hch]) g1 (zL _)) (zL _) (zL _) (fun e=>hobad (by rw[p8];exact e)) (fun e τ hf2 hq=>?_)
 obtain⟨j2,N2,C2,st,rfl,k1,k2,k3,k4,k5⟩:=hq
 obtain⟨w,hw⟩: ∃z,r2.p=pz z:=⟨_,qca e⟩
 rw[hw]at p8 k5⊢
 simp only[qey]at k5⊢
 rw[p8]at q6
 refine Ends.step ?_
 have hch2:(⟨w,K,some j2,N2,C2⟩:PM).ch C.length=.ok { ch with st:=st } :=by
  unfold PM.ch;rw[show(⟨w,K,some j2,N2,C2⟩:PM).C=C2 from rfl,k4]
 obtain⟨l,N3,u1,u2,u3,u4⟩:=qm2 (b:=N.length) (i:=w) (K:=K) (u:=some j2) (C:=C2) P.reverse j2 N2 r2.x k2 k1
 have hah:({ ch with st:=st } :Chn).ah=P:=by rw[<-hch]
 have e1:stp E (.folw C.length) ⟨w,K,some j2,N2,C2⟩=qbr E C.length ⟨w,K,some j2,N3,C2.set C.length { ch with st:=st,lf:=some l }⟩:=by
  show((⟨w,K,some j2,N2,C2⟩:PM).ch C.length >>= fun h=>_)=_
  rw[hch2]
  show((⟨w,K,some j2,N2,C2⟩:PM).cur >>= fun x=>_)=_
  rw[qdr k2]
  show(match qav E { ch with st:=st } r2.x w with | some s=>_ | none=>_)=_
  rw[k5]
  show(qfu ({ ch with st:=st } :Chn).ah.reverse j2 ⟨w,K,some j2,N2,C2⟩ >>= fun r=>_)=_
  rw[hah,u1];rfl
 rw[e1]
 have hjo:=qgm (E:=E) (b:=N.length) (c:=C.length) (K:=K) hE m' (by omega) lv' r.x r.h w o' q6 N3 (C2.set C.length { ch with st:=st,lf:=some l }) (some j2) C.length { ch with st:=st,lf:=some l } l (qb4 _ k4) rfl (by rw[p6];exact u2) (by rw[p6];exact qh9 _ _ k3) (by rw[<-hch];exact p7.symm) (by rw[<-hch];exact q4.symm) u3 (zL _)
 have hct:q=ch.ct:=by rw[<-hch]
 rw[q8,q7,hct]
 rcases hjo with⟨τ,t1,t2,t3⟩ | ⟨t1,t2⟩
 ·exact .inl ⟨τ,t1,⟨u4.trans t2.N,(FrL.set (zL _) _).trans t2.C⟩,t3⟩
 ·exact .inr ⟨t1,t2⟩
theorem qu2(hi:E.to<i){n:Nat}{lv:Int}{o:Out}(h:qal E n (.expr lv) (pz i)=some o):o.p.bad=true/\ ∀K u N C,qtg E ⟨i,.expr lv::K,u,N,C⟩:=by
 have hat:E.at_ (pz i)=tk0:=qoi (fun e=>by
  have h1:E.pk i<E.to:=e.1
  rw[qdl (.inl (by omega))]at h1;omega)
 have hsg: ∀k s,k≠0->E.is (pz i) k s=false:=fun k s hk=>by
  unfold Env.is;rw[hat];simp[tk0,Ne.symm hk]
 have hnx:nxE E i=tk0:=hat
 refine⟨?_,fun K u N C=>?_⟩
 ·cases n with
  | zero=>cases h
  | succ n=>
  have h':(if(decide (lv<=0)&&E.word (pz i) [99,97,116,99,104])=true then(qal E n (.expr 0) (E.take (pz i)).2).bind fun r=>some ({ x:=nkt 13 ⟨#[99,97,116,99,104]⟩ [r.x],p:=r.p } :Out)else(qal E n .operand (pz i)).bind fun r=>qal E n (.exprL lv r.x r.h) r.p)=some o:=h
  rw[show E.word (pz i) [99,97,116,99,104]=false from hsg _ _ (by decide),Bool.and_false,if_neg (by decide)]at h'
  obtain⟨r,hr,hx⟩:=Option.bind_eq_some_iff.1 h'
  refine qb3 hx ?_
  cases n with
  | zero=>cases hr
  | succ n=>
  have hr:(if(((E.at_ (pz i)).1==9||(E.at_ (pz i)).1==8)&&decide (0<pf (E.at_ (pz i)).2.1.toList))=true then(qal E n .operand (E.take (pz i)).2).bind fun r=>some ({ x:=nkt 13 (E.at_ (pz i)).2.1 [r.x],h:=10,p:=r.p } :Out)else(qal E n .primary (pz i)).bind fun r=>(qal E n (.follow r.x (E.sign (pz i) [40])) r.p).bind fun r2=>some { x:=r2.x,h:=11,p:=r2.p })=some r:=hr
  rw[hat,if_neg (by decide)]at hr
  obtain⟨r1,hr1,hx⟩:=Option.bind_eq_some_iff.1 hr
  obtain⟨r2,hr2,hx⟩:=Option.bind_eq_some_iff.1 hx
  obtain rfl:=Option.some.inj hx
  show r2.p.bad=true
  refine qb3 hr2 ?_
  cases n with
  | zero=>cases hr1
  | succ n=>
  have h1:=qfz (n+1) _ _ _ hr1
  rw[<-h1]
  show(qa6 E (qft E n) .primary (pz i)).p.bad=true
  have hs: ∀s,E.sign (pz i) s=false:=fun s=>hsg _ _ (by decide)
  have hw: ∀s,E.word (pz i) s=false:=fun s=>hsg _ _ (by decide)
  simp only[qa6,hat,hs,hw,tk0]
  rfl
 ·have hw:E.word (pz i) [99,97,116,99,104]=false:=hsg _ _ (by decide)
  have hc:ctL E lv (E.to+2) i 0=.ok (0,i):=by
   unfold ctL
   rw[hw,Bool.and_false];rfl
  have hp:pfL E (E.to+2) i []=.ok ([],i):=by
   unfold pfL
   have e:opE E i=⟨#[]⟩:=by unfold opE;rw[hnx];rfl
   rw[e,qi5,qqx];rfl
  refine Goes.dies (τ:=⟨i,.prim:: .folw C.length::K,u,N,C++[{ lv:=lv,ct:=0,ah:=[],st:=E.sign (pz i) [40],hs:=11 }]⟩) (qda ?_) (qeq ?_)
  ·show(ctL E lv (E.to+2) i 0 >>= fun a=>_)=_
   rw[hc]
   show(pfL E (E.to+2) i [] >>= fun b=>_)=_
   rw[hp];rfl
  ·show qbm E _=_
   unfold qbm
   show(if(nxE E i).1=9 then _ else if(nxE E i).1=8 then _ else qjw E _)=_
   rw[hnx]
   show(txE E ltk i >>= fun r=>_)=_
   have:txE E ltk i=.error .die:=by
    unfold txE
    rw[if_neg (by rw[hnx];decide)]
   rw[this];rfl
theorem qm8(E:Env)(n:Nat):HE E n/\BX E n:=by
 induction n using Nat.strongRecOn with
 | _ n ih=>
  have hE: ∀k,k<n->HE E k:=fun k hk=>(ih k hk).1
  have hB: ∀k,k<n->BX E k:=fun k hk=>(ih k hk).2
  refine⟨fun lv i o h K u N C=>?_,qtm hE hB⟩
  rcases Nat.lt_or_ge E.to i with hi | hi
  ·obtain⟨h1,h2⟩:=qu2 hi h
   exact Ends.die (h2 K u N C) h1
  ·exact qp5 hE hB h hi u N C
end
def wt:Stp->Nat
 | .expr _=>4
 | .prim=>2
 | .call=>2
 | .item o=>wt o+2
 | .row _ _ o=>wt o+3
 | .perh _ _=>6
 | .bodyO _=>9
 | .val=>2
 | .segm=>4
 | .pair=>7
 | .patC=>25
 | .funC=>20
 | .tstC=>31
 | .last _=>5
 | .patt=>6
 | .alts=>12
 | .cond=>8
 | .body=>13
 | _=>1
def okS:Stp->Prop
 | .item o=>okS o/\wt o<=98
 | .row _ _ o=>okS o/\wt o<=100
 | .more _ _ o=>okS o/\wt o<=100
 | .box _ _ o=>okS o/\wt o<=90
 | .want k _=>k≠0
 | .tail _ k _=>k≠0
 | .join _ op _=>op.size<=1048576
 | .per2 op _=>op.length<=1048576
 | .perM _ ss=> ∀s∈ss,s.length<=1048576
 | .perh _ ss=> ∀s∈ss,s.length<=1048576
 | _=>True
theorem qc0(t:Bs):okS (.want 9 t):=by show(9:Int)≠0;decide
theorem qbz(t:Bs):okS (.want 8 t):=by show(8:Int)≠0;decide
theorem qby(n:Nat)(t:Bs):okS (.tail n 9 t):=by show(9:Int)≠0;decide
theorem qbx(n:Nat):okS (qa8 n):=by show(8:Int)≠0;decide
def wtL:List Stp->Nat
 | []=>0
 | s::k=>wt s+wtL k
def qf3:List Stp->Nat
 | .call::_=>0
 | .chgd::_=>0
 | .remo::_=>0
 | .box _ _ _::_=>0
 | _=>3
def pot(E:Env)(σ:PM):Nat:=wtL σ.k+1000*(E.to-σ.i)+qf3 σ.k
theorem wt_pos: ∀s,1<=wt s:=by
 intro s
 cases s<;>simp only[wt]<;>omega
theorem qpx: ∀k,k.length<=wtL k
 | []=>zL _
 | s::k=>by
  show k.length+1<=wt s+wtL k
  have:=wt_pos s
  have:=qpx k
  omega
theorem qd9(k:List Stp):qf3 k<=3:=by
 unfold qf3;split<;>omega
section
variable{E:Env}{i j:Nat}
theorem qhf{k:Int}{s:Bs}(hk:k≠0){b:Bool}(h:sgE E k s i=.ok (b,j)):(b=true/\j=i+1/\i<E.to)\/(b=false/\j=i):=by
 cases b
 ·exact .inr ⟨rfl,(sg_no h).2⟩
 ·obtain⟨-,-,h1,-,h2⟩:=qxa hk h
  exact .inl ⟨rfl,h1,h2⟩
theorem qe6{k:Int}{s:Bs}(hk:k≠0)(h:msE E k s i=.ok j):j=i+1/\i<E.to:=by
 rcases qbe E k s i hk with⟨h1,-,-,-,h2⟩ | ⟨h1,-⟩
 ·rw[h1]at h;cases h;exact⟨rfl,h2⟩
 ·rw[h1]at h;cases h
theorem qhi{f:Int->Bool}(h0:f 0=false){t:ByteArray}(h:txE E f i=.ok (t,j)):j=i+1/\i<E.to:=by
 rcases qcn E f i h0 with⟨h1,-,-,-,h2⟩ | ⟨h1,-⟩
 ·rw[h1]at h;cases h;exact⟨rfl,h2⟩
 ·rw[h1]at h;cases h
theorem nt_pl(hi:i<=E.to):i<=(ntE E i).2/\(ntE E i).2<=E.to:=by
 have:=qix E hi
 show i<=max i (E.pk i)/\max i (E.pk i)<=E.to
 omega
theorem ty_pl(E:Env): ∀(f i j:Nat),tyL E f i=.ok j->i<j/\j<=E.to
 | 0,_,_,h=>by cases h
 | f+1,i,j,h=>by
  have e0:tyL E (f+1) i=(txE E (· ==1) i >>= fun r=>sgE E 9 [45] r.2 >>= fun q=>if q.1=true then tyL E f q.2 else .ok q.2):=rfl
  rw[e0]at h
  rcases ht:txE E (· ==1) i with e | ⟨t,i1⟩
  ·rw[ht]at h;cases h
  ·rw[ht]at h
   obtain⟨rfl,h1⟩:=qhi (by decide) ht
   have h:(sgE E 9 [45] (i+1) >>= fun q=>if q.1=true then tyL E f q.2 else .ok q.2)=.ok j:=h
   rcases hs:sgE E 9 [45] (i+1)with e | ⟨b,i2⟩
   ·rw[hs]at h;cases h
   ·rw[hs]at h
    have h:(if b=true then tyL E f i2 else .ok i2)=.ok j:=h
    rcases qhf (by decide) hs with⟨rfl,rfl,h2⟩ | ⟨rfl,rfl⟩
    ·rw[if_pos rfl]at h
     have:=ty_pl E f _ _ h
     omega
    ·rw[if_neg (by decide)]at h
     cases h;omega
theorem tk_pl(hk:(nxE E i).1=9\/(nxE E i).1=8)(h:tkE E i=.ok j):j=i+1/\i<E.to:=by
 rcases qw1 (E:=E) (i:=i) hk with⟨h1,-,h2,-⟩ | ⟨h1,-⟩
 ·rw[h1]at h;cases h;exact⟨rfl,h2⟩
 ·rw[h1]at h;cases h
theorem ct_pl(lv:Int): ∀(f i k:Nat) (r:Nat×Nat),ctL E lv f i k=.ok r->i<=E.to->i<=r.2/\r.2<=E.to/\r.1<=k+f
 | 0,_,_,_,h,_=>by cases h
 | f+1,i,k,r,h,hi=>by
  have e0:ctL E lv (f+1) i k=(if(decide (lv<=0)&&E.word (pz i) [99,97,116,99,104])=true then tkE E i >>= fun j=>ctL E lv f j (k+1)else .ok (k,i)):=rfl
  rw[e0]at h
  by_cases hc:(decide (lv<=0)&&E.word (pz i) [99,97,116,99,104])=true
  ·rw[if_pos hc]at h
   have hw:E.word (pz i) [99,97,116,99,104]=true:=by
    simp only[zA]at hc;exact hc.2
   rcases ht:tkE E i with e | j
   ·rw[ht]at h;cases h
   ·rw[ht]at h
    obtain⟨rfl,h2⟩:=tk_pl (.inr (qfr hw).1) ht
    have h:ctL E lv f (i+1) (k+1)=.ok r:=h
    have:=ct_pl lv f (i+1) (k+1) r h (by omega)
    omega
  ·rw[if_neg hc]at h
   cases h;exact⟨zL _,hi,by show k<=_;omega⟩
theorem opE_pf(h:0<pf (opE E i).toList):(nxE E i).1=9\/(nxE E i).1=8:=by
 unfold opE at h
 by_cases e:(nxE E i).1=9\/(nxE E i).1=8
 ·exact e
 ·rw[if_neg e,qi5,qqx]at h;omega
theorem opE_bn(h: ¬(bn (opE E i).toList:Int)<1):(nxE E i).1=9\/(nxE E i).1=8:=by
 unfold opE at h
 by_cases e:(nxE E i).1=9\/(nxE E i).1=8
 ·exact e
 ·rw[if_neg e,qi5,qwc]at h;omega
theorem qx0(hz: ∀k,(E.tk k).2.1.size<=1048576)(i:Nat):(opE E i).size<=1048576:=by
 unfold opE nxE Env.at_
 split
 ·split
  ·exact hz _
  ·decide
 ·decide
theorem pf_pl(hz: ∀k,(E.tk k).2.1.size<=1048576): ∀(f i:Nat) (a:List ByteArray) (r:List ByteArray×Nat),pfL E f i a=.ok r->i<=E.to->(∀X∈a,X.size<=1048576)->i<=r.2/\r.2<=E.to/\r.1.length<=a.length+f/\ ∀X∈r.1,X.size<=1048576
 | 0,_,_,_,h,_,_=>by cases h
 | f+1,i,a,r,h,hi,ha=>by
  have e0:pfL E (f+1) i a=(if 0<pf (opE E i).toList then tkE E i >>= fun j=>pfL E f j (a++[opE E i])else .ok (a,i)):=rfl
  rw[e0]at h
  by_cases hc:0<pf (opE E i).toList
  ·rw[if_pos hc]at h
   rcases ht:tkE E i with e | j
   ·rw[ht]at h;cases h
   ·rw[ht]at h
    obtain⟨rfl,h2⟩:=tk_pl (opE_pf hc) ht
    have h:pfL E f (i+1) (a++[opE E i])=.ok r:=h
    obtain⟨h3,h4,h5,h6⟩:=pf_pl hz f (i+1) (a++[opE E i]) r h (by omega) (fun X hX=>by
     rcases List.mem_append.1 hX with hX | hX
     ·exact ha X hX
     ·simp only[List.mem_cons,List.not_mem_nil,or_false]at hX
      rw[hX];exact qx0 hz i)
    rw[zJ]at h5
    exact⟨by omega,h4,by simp only[List.length_cons,List.length_nil]at h5;omega,h6⟩
  ·rw[if_neg hc]at h
   cases h;exact⟨zL _,hi,by show a.length<=_;omega,ha⟩
end
def NB(b:Nat)(N:List (Option Nd)):Prop:= ∀(n:Nat) (x:Nd),N[n]?=some (some x)->x.ls.length<=b
def CB(E:Env)(C:List Chn):Prop:= ∀(c:Nat) (x:Chn),C[c]?=some x->x.ct<=E.to+2/\x.ah.length<=E.to+2/\ ∀X∈x.ah,X.size<=1048576
structure Bd (E:Env) (B:Nat) (σ:PM):Prop where
 ok: ∀s∈σ.k,okS s
 i:σ.i<=E.to
 N:NB B σ.N
 C:CB E σ.C
section
variable{E:Env}{B b i:Nat}{N:List (Option Nd)}{C:List Chn}{K:List Stp}{u:Option Nat}{τ:PM}{x:Nd}
theorem NB.mono(h:NB b N)(hb:b<=B):NB B N:=fun n x hx=>zO (h n x hx) hb
theorem NB.app(h:NB b N)(hx:x.ls.length<=b):NB b (N++[some x]):=fun n y hy=>by
 by_cases hn:n<N.length
 ·rw[zD hn]at hy;exact h n y hy
 ·rw[zE (by omega)]at hy
  match hm:n-N.length,hy with
  | 0,hy=>simp only[zF,Option.some.injEq]at hy;rw[<-hy];exact hx
  | m+1,hy=>simp at hy
theorem NB.set(h:NB b N)(hx:x.ls.length<=b)(n:Nat):NB b (N.set n (some x)):=fun m y hy=>by
 by_cases e:n=m
 ·subst e
  by_cases hn:n<N.length
  ·rw[zI hn]at hy
   simp only[Option.some.injEq]at hy;rw[<-hy];exact hx
  ·rw[zG (by rw[zK];omega)]at hy;cases hy
 ·rw[zH e]at hy;exact h m y hy
theorem NB.none(h:NB b N)(n:Nat):NB b (N.set n none):=fun m y hy=>by
 by_cases e:n=m
 ·subst e
  by_cases hn:n<N.length
  ·rw[zI hn]at hy;cases hy
  ·rw[zG (by rw[zK];omega)]at hy;cases hy
 ·rw[zH e]at hy;exact h m y hy
theorem CB.set(h:CB E C){c:Nat}{y z:Chn}(hy:C[c]?=some y)(h1:z.ct=y.ct)(h2:z.ah=y.ah):CB E (C.set c z):=fun m w hw=>by
 by_cases e:c=m
 ·subst e
  rw[zI (qad hy)]at hw
  simp only[Option.some.injEq]at hw
  rw[<-hw,h1,h2];exact h c y hy
 ·rw[zH e]at hw;exact h m w hw
theorem CB.app(h:CB E C){z:Chn}(hz:z.ct<=E.to+2/\z.ah.length<=E.to+2/\ ∀X∈z.ah,X.size<=1048576):CB E (C++[z]):=fun n y hy=>by
 by_cases hn:n<C.length
 ·rw[zD hn]at hy;exact h n y hy
 ·rw[zE (by omega)]at hy
  match hm:n-C.length,hy with
  | 0,hy=>simp only[zF,Option.some.injEq]at hy;rw[<-hy];exact hz
  | m+1,hy=>simp at hy
theorem qa7{α β:Type}{r:Rs α}{f:α->Rs β}{y:β}(h:(r >>= f)=.ok y): ∃x,r=.ok x/\f x=.ok y:=by
 cases r with
 | error e=>cases h
 | ok x=>exact⟨x,rfl,h⟩
theorem ql9{σ:PM}{n:Nat}(h:σ.nd n=.ok x):σ.N[n]?=some (some x):=by
 unfold PM.nd at h
 split at h
 ·rename_i y hy;rw[hy,Except.ok.inj h]
 ·cases h
theorem qwh{σ:PM}{j:Nat}(h:σ.cur=.ok (j,x)):σ.n=some j/\σ.N[j]?=some (some x):=by
 unfold PM.cur at h
 split at h
 ·rename_i k hk
  cases hd:σ.nd k with
  | error e=>rw[hd]at h;cases h
  | ok y=>
   rw[hd]at h
   have h2:(k,y)=(j,x):=Except.ok.inj h
   cases h2
   exact⟨hk,ql9 hd⟩
 ·cases h
theorem ch_in{σ:PM}{c:Nat}{y:Chn}(h:σ.ch c=.ok y):σ.C[c]?=some y:=by
 unfold PM.ch at h
 split at h
 ·rename_i z hz;rw[hz,Except.ok.inj h]
 ·cases h
def base(E:Env)(i:Nat)(K:List Stp):Nat:=wtL K+1000*(E.to-i)
def Nxt(E:Env)(B P:Nat)(τ:PM):Prop:=Bd E (B+1) τ/\pot E τ<=P
theorem qah{j:Nat}{k:List Stp}{v:Option Nat}{M:List (Option Nd)}{D:List Chn}{P:Nat}(h1: ∀s∈k,okS s)(h2:j<=E.to)(h3:NB (B+1) M)(h4:CB E D)(h5:wtL k+1000*(E.to-j)+qf3 k<=P):Nxt E B P ⟨j,k,v,M,D⟩:=⟨⟨h1,h2,h3,h4⟩,h5⟩
theorem qa5{P:Stp->Prop}{s:Stp}{k:List Stp}(h1:P s)(h2: ∀x∈k,P x): ∀x∈s::k,P x:=fun x hx=>by
 rcases List.mem_cons.1 hx with rfl | hx
 ·exact h1
 ·exact h2 x hx
theorem qm1{b:Nat}: ∀(T:List ByteArray) (n:Nat) (σ:PM) (r:Nat×PM),qfu T n σ=.ok r->1<=b->NB b σ.N->NB b r.2.N/\r.2.i=σ.i/\r.2.k=σ.k/\r.2.C=σ.C
 | [],n,σ,r,h,_,hN=>by cases h;exact⟨hN,rfl,rfl,rfl⟩
 | a::T,n,σ,r,h,hb,hN=>by
  have h:(σ.nd n >>= fun x=>qfu T σ.N.length ((σ.mv n).new (nkt 13 a [x])))=.ok r:=h
  obtain⟨x,h1,h2⟩:=qa7 h
  obtain⟨q1,q2,q3,q4⟩:=qm1 T _ _ r h2 hb (show NB b ((σ.N.set n none)++[some (nkt 13 a [x])])from(hN.none n).app (by show 1<=b;exact hb))
  exact⟨q1,q2,q3,q4⟩
variable(hB:2<=B)(hK: ∀s∈K,okS s)(hi:i<=E.to)(hN:NB B N)(hC:CB E C)(hz: ∀k,(E.tk k).2.1.size<=1048576)
include hK hi hN hC
theorem qwr(h:qjw E ⟨i,K,u,N,C⟩=.ok τ):Nxt E B (base E i K) τ:=by
 have _u1:=hK
 have _u2:=hi
 have _u3:=hN
 have _u4:=hC
 have h:(txE E ltk i >>= fun r=>.ok (((⟨i,K,u,N,C⟩:PM).at_ r.2).got (nkt 1 r.1 [])))=.ok τ:=h
 obtain⟨⟨t,j⟩,h1,h2⟩:=qa7 h
 obtain⟨rfl,h3⟩:=qhi (by decide) h1
 cases h2
 have:=qd9 K
 exact qah hK (by show i+1<=E.to;omega) ((hN.mono (zM _)).app (zP _)) hC (by unfold base;show wtL K+1000*(E.to- (i+1))+qf3 K<=_;omega)
theorem qh7(h:qbg E ⟨i,K,u,N,C⟩=.ok τ):Nxt E B (base E i K) τ:=by
 have _u1:=hK
 have _u2:=hi
 have _u3:=hN
 have _u4:=hC
 have h:(msE E 9 [40] i >>= fun j=>.ok (((⟨i,K,u,N,C⟩:PM).at_ j).plan [.expr 0,.want 9 [41]]))=.ok τ:=h
 obtain⟨j,h1,h2⟩:=qa7 h
 obtain⟨rfl,h3⟩:=qe6 (by decide) h1
 cases h2
 exact qah (qa5 (by first | trivial | exact qc0 _ | exact qbz _ | exact qby _ _ | exact qbx _) (qa5 (by first | trivial | exact qc0 _ | exact qbz _ | exact qby _ _ | exact qbx _) hK)) (by show i+1<=E.to;omega) (hN.mono (zM _)) hC (by unfold base;show 4+(1+wtL K)+1000*(E.to- (i+1))+3<=_;omega)
theorem qlt{n:Nat}{k:Int}{t:Bs}(hk:k≠0)(h:qcw E n k t ⟨i,K,u,N,C⟩=.ok τ):Nxt E B (base E i K) τ:=by
 have _u1:=hK
 have _u2:=hi
 have _u3:=hN
 have _u4:=hC
 have h:((⟨i,K,u,N,C⟩:PM).nd n >>= fun x=>msE E k t (ntE E i).2 >>= fun j=>.ok ((((⟨i,K,u,N,C⟩:PM).set n (x.tail' (ntE E i).1)).at_ j).is n))=.ok τ:=h
 obtain⟨x,h0,h⟩:=qa7 h
 obtain⟨j,h1,h2⟩:=qa7 h
 obtain⟨rfl,h3⟩:=qe6 hk h1
 obtain⟨h4,h5⟩:=nt_pl (E:=E) (i:=i) hi
 cases h2
 have:=qd9 K
 refine qah hK (by show(ntE E i).2+1<=E.to;omega) ((hN.mono (zM _)).set ?_ n) hC (by unfold base;show wtL K+1000*(E.to- ((ntE E i).2+1))+qf3 K<=_;omega)
 have:=hN n x (ql9 h0)
 cases x
 exact Nat.le_succ_of_le this
theorem qyr(h:qes E ⟨i,K,u,N,C⟩=.ok τ):Nxt E B (base E i K) τ:=by
 have _u1:=hK
 have _u2:=hi
 have _u3:=hN
 have _u4:=hC
 have h:(msE E 9 [91] i >>= fun j=>if E.sign (pz j) [93]=true then qcw E N.length 9 [93] ⟨j,K,u,N++[some ((nk 5 []).brk' (brE E j))],C⟩else .ok ⟨j,.row N.length [44] (.item (.expr 3)):: .listK N.length::K,u,N++[some ((nk 5 []).brk' (brE E j))],C⟩)=.ok τ:=h
 obtain⟨j,h1,h2⟩:=qa7 h
 obtain⟨rfl,h3⟩:=qe6 (by decide) h1
 have hN2:NB B (N++[some ((nk 5 []).brk' (brE E (i+1)))]):=hN.app (zP _)
 split at h2
 ·obtain⟨q1,q2⟩:=qlt hK (show i+1<=E.to by omega) hN2 hC (by decide) h2
  refine⟨q1,zO q2 ?_⟩
  unfold base;omega
 ·cases h2
  exact qah (qa5 ⟨⟨trivial,by decide⟩,by decide⟩ (qa5 (by first | trivial | exact qc0 _ | exact qbz _ | exact qby _ _ | exact qbx _) hK)) (by show i+1<=E.to;omega) (hN2.mono (zM _)) hC (by unfold base;show(4+2+3)+(1+wtL K)+1000*(E.to- (i+1))+3<=_;omega)
theorem qz1(h:qfa E ⟨i,K,u,N,C⟩=.ok τ):Nxt E B (base E i K) τ:=by
 have _u1:=hK
 have _u2:=hi
 have _u3:=hN
 have _u4:=hC
 have h:(msE E 9 [35] i >>= fun j=>if E.sign (pz j) [123]=true then .ok ⟨j,.box N.length [123] .pair::K,u,N++[some (nk 8 [])],C⟩else(txE E nmk j >>= fun r=>.ok ⟨r.2,.box N.length [123] (.expr 0)::K,u,N++[some (nkt 10 r.1 [])],C⟩))=.ok τ:=h
 obtain⟨j,h1,h2⟩:=qa7 h
 obtain⟨rfl,h3⟩:=qe6 (by decide) h1
 split at h2
 ·cases h2
  exact qah (qa5 ⟨trivial,by decide⟩ hK) (by show i+1<=E.to;omega) ((hN.mono (zM _)).app (zP _)) hC (by unfold base;show 1+wtL K+1000*(E.to- (i+1))+0<=_;omega)
 ·obtain⟨⟨t,j⟩,h4,h5⟩:=qa7 h2
  obtain⟨rfl,h6⟩:=qhi (by decide) h4
  cases h5
  exact qah (qa5 ⟨trivial,by decide⟩ hK) (by show i+1+1<=E.to;omega) ((hN.mono (zM _)).app (zP _)) hC (by unfold base;show 1+wtL K+1000*(E.to- (i+1+1))+0<=_;omega)
theorem fun_bd(h:qfm E ⟨i,K,u,N,C⟩=.ok τ):Nxt E B (base E i K) τ:=by
 have _u1:=hK
 have _u2:=hi
 have _u3:=hN
 have _u4:=hC
 have e0:qfm E ⟨i,K,u,N,C⟩=(msE E 8 [102,117,110] i >>= fun j=>if E.sign (pz j) [40]=true then(if E.pk j=j then .ok ⟨j,.row N.length [59] (.item .funC)::qa8 N.length::K,u,N++[some (nk 17 [])],C⟩else .error .die)else(txE E nmk j >>= fun r=>sgE E 9 [58] r.2 >>= fun c=>(if c.1=true then(txE E nmk c.2).map (·.2)else .ok c.2) >>= fun d=>msE E 9 [47] d >>= fun e=>txE E szk e >>= fun a=>.ok ((⟨a.2,K,u,N,C⟩:PM).got (nkt 16 (scE E (a.2-j) j) [])))):=by
  unfold qfm
  congr 1
  funext j
  split
  ·rfl
  ·congr 1
   funext r
   congr 1
   funext c
   split<;>rfl
 rw[e0]at h
 obtain⟨j,h1,h2⟩:=qa7 h
 obtain⟨rfl,h3⟩:=qe6 (by decide) h1
 split at h2
 ·split at h2
  ·cases h2
   exact qah (qa5 ⟨⟨trivial,by decide⟩,by decide⟩ (qa5 (by first | trivial | exact qc0 _ | exact qbz _ | exact qby _ _ | exact qbx _) hK)) (by show i+1<=E.to;omega) ((hN.mono (zM _)).app (zP _)) hC (by unfold base;show(20+2+3)+(1+wtL K)+1000*(E.to- (i+1))+3<=_;omega)
  ·cases h2
 ·obtain⟨⟨t,j1⟩,a1,h2⟩:=qa7 h2
  obtain⟨rfl,a2⟩:=qhi (by decide) a1
  obtain⟨⟨bb,j2⟩,a3,h2⟩:=qa7 h2
  have a4:i+1+1<=j2/\j2<=E.to:=by
   rcases qhf (by decide) a3 with⟨-,e,e2⟩ | ⟨-,e⟩
   ·have e:j2=i+1+1+1:=e
    have e2:i+1+1<E.to:=e2
    omega
   ·have e:j2=i+1+1:=e
    omega
  obtain⟨d,a5,h2⟩:=qa7 h2
  have a6:i+1+1<=d/\d<=E.to:=by
   split at a5
   ·cases ht:txE E nmk j2 with
    | error e=>rw[show(bb,j2).2=j2 from rfl,ht]at a5;cases a5
    | ok p=>
     rw[show(bb,j2).2=j2 from rfl,ht]at a5
     obtain⟨t2,j3⟩:=p
     obtain⟨rfl,e2⟩:=qhi (by decide) ht
     have a5:(.ok (j2+1):Rs Nat)=.ok d:=a5
     cases a5;omega
   ·have a5:(.ok j2:Rs Nat)=.ok d:=a5
    cases a5;exact a4
  obtain⟨e1,a7,h2⟩:=qa7 h2
  obtain⟨rfl,a8⟩:=qe6 (by decide) a7
  obtain⟨⟨t3,j4⟩,a9,h2⟩:=qa7 h2
  obtain⟨rfl,a10⟩:=qhi (by decide) a9
  cases h2
  have:=qd9 K
  exact qah hK (by show d+1+1<=E.to;omega) ((hN.mono (zM _)).app (zP _)) hC (by unfold base;show wtL K+1000*(E.to- (d+1+1))+qf3 K<=_;omega)
end
end Go.Proofs.YtdhadeeajgoedaaGreat
