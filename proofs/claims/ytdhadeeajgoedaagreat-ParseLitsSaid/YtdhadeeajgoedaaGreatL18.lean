import Derived.Test.YtdhadeeajgoedaaGreatL17
set_option maxRecDepth 100000
set_option maxHeartbeats 4000000
set_option linter.all false
open Bool renaming false_eq_true→zA
open List renaming getElem?_append_left→zB,getElem?_set_ne→zC,length_append→zD,length_set→zE
open Nat renaming le_refl→zF,le_trans→zG
namespace Go.Proofs.YtdhadeeajgoedaaGreat
open Go.RowKit Go.PlainAid
section
variable{E:Env}{b c:Nat}{K:List Stp}{i:Nat}
theorem qgi{n:Nat}(hE: ∀k,k<n->HE E k): ∀m,m<=n-> ∀(y:Nd) (i:Nat) (out:Out),qal E m (.guardB y) (pz i)=some out->y.nof=[]-> ∀(N:List (Option Nd)) (C:List Chn) (nn b c:Nat),N[nn]?=some (some y)->b<=nn->c<=C.length->
 Ends E out.p.bad b c ⟨i,.more nn [44] (.expr 1)::K,some nn,N,C⟩ (fun τ=>At K nn out.x out.p.i τ/\out.x.nof=[])
 | 0,_,_,_,_,h,_,_,_,_,_,_,_,_,_=>by cases h
 | m+1,hm,y,i,out,h,hno,N,C,nn,b,c,hy,hb,hc=>by
  have h':(if E.sign (pz i) [44]=true then(qal E m (.expr 1) (E.take (pz i)).2).bind fun r=>qal E m (.guardB (y.add [r.x])) r.p else some { x:=y,p:=pz i })=some out:=h
  refine qci (fun hbd hs=>?_) (fun hs ht=>?_) (fun hs=>?_)
  ·rw[if_pos hs]at h'
   obtain⟨r,hr,hx⟩:=Option.bind_eq_some_iff.1 h'
   exact qb3 hx (qb3 hr hbd)
  ·rw[if_pos hs,ht]at h'
   obtain⟨r,hr,hx⟩:=Option.bind_eq_some_iff.1 h'
   have hnb:=qad hy
   refine Ends.bind (hE m (by omega) _ _ _ hr (.into nn:: .more nn [44] (.expr 1)::K) _ N C) (by omega) hc (fun e=>qb3 hx e) (fun e τ hf hq=>?_)
   obtain⟨j,N1,C1,rfl,g1,g2,g3⟩:=hq
   have hy1:=hf.N.at hnb hy
   have hne: ¬j=nn:=by omega
   obtain⟨z,hz⟩: ∃z,r.p=pz z:=⟨_,qca e⟩
   rw[hz]at hx⊢
   simp only[qey]
   refine qar g2 hy1 hne (by omega) hb ?_
   exact qgi hE m (by omega) _ z out hx (by rw[qcp];exact hno) _ C1 nn b c (qb7 hy1) hb (zG hc hf.C.1)
  ·rw[if_neg (by rw[hs];decide)]at h'
   obtain rfl:=Option.some.inj h'
   exact Ends.here rfl ⟨⟨_,_,rfl,hy⟩,hno⟩
theorem qox{m1 m2:Nat}(h1:HE E m1)(h2: ∀k,k<m2->HE E k){r r2:Out}(hr:qal E m1 (.expr 1) (pz i)=some r)(hr2:qal E m2 (.guardB (nk 25 [r.x])) r.p=some r2)(u:Option Nat)(N:List (Option Nd))(C:List Chn):
 Ends E r2.p.bad N.length C.length ⟨i,.cond::K,u,N,C⟩ (An K N.length r2.x r2.p.i):=by
 refine Ends.step (.inl ⟨⟨i,.row N.length [44] (.expr 1)::K,u,N++[some (nk 25 [])],C⟩,rfl,frN (FrL.app (zF _) _),?_⟩)
 refine qcr ?_
 have hy:(N++[some (nk 25 [])])[N.length]?=some (some (nk 25 [])):=qam _ _
 refine Ends.bind (h1 _ _ _ hr (.into N.length:: .more N.length [44] (.expr 1)::K) u _ C) (by rw[zD];omega) (zF _) (fun e=>qb3 hr2 e) (fun e τ hf hq=>?_)
 obtain⟨j,N1,C1,rfl,g1,g2,g3⟩:=hq
 have hl:=qad hy
 have hy1:=hf.N.at hl hy
 have hne: ¬j=N.length:=by omega
 obtain⟨z,hz⟩: ∃z,r.p=pz z:=⟨_,qca e⟩
 rw[hz]at hr2⊢
 simp only[qey]
 refine qar g2 hy1 hne (by omega) (zF _) ?_
 refine(qgi h2 m2 (zF _) _ z r2 hr2 rfl _ C1 N.length N.length C.length (qb7 hy1) (zF _) hf.C.1).mono (zF _) (zF _) (fun τ _ _ hq=>?_)
 obtain⟨⟨N9,C9,rfl,q1⟩,q2⟩:=hq
 exact⟨_,_,_,rfl,zF _,q1,q2⟩
theorem qgj{n:Nat}(hE: ∀k,k<n->HE E k): ∀m,m<=n-> ∀(y:Nd) (i:Nat) (out:Out),qal E m (.guardL y) (pz i)=some out->y.nof=[]-> ∀(u:Option Nat) (N:List (Option Nd)) (C:List Chn) (nn b c:Nat),N[nn]?=some (some y)->b<=nn->c<=C.length->
 Ends E out.p.bad b c ⟨i,.cond:: .into nn:: .more nn [59] .cond::K,u,N,C⟩ (fun τ=>At K nn out.x out.p.i τ/\out.x.nof=[])
 | 0,_,_,_,_,h,_,_,_,_,_,_,_,_,_,_=>by cases h
 | m+1,hm,y,i,out,h,hno,u,N,C,nn,b,c,hy,hb,hc=>by
  have h':(if(pz i).bad=true then some ({ x:=y,p:=pz i } :Out)else(qal E m (.expr 1) (pz i)).bind fun r=>(qal E m (.guardB (nk 25 [r.x])) r.p).bind fun r2=>if(!E.sign r2.p [59])=true then some ({ x:=y.add [r2.x],p:=r2.p } :Out)else qal E m (.guardL (y.add [r2.x])) (E.take r2.p).2)=some out:=h
  rw[if_neg (by simp[pz])]at h'
  obtain⟨r,hr,hx⟩:=Option.bind_eq_some_iff.1 h'
  obtain⟨r2,hr2,hx⟩:=Option.bind_eq_some_iff.1 hx
  have hnb:=qad hy
  refine Ends.bind (qox (K:=.into nn:: .more nn [59] .cond::K) (hE m (by omega)) (fun k hk=>hE k (by omega)) hr hr2 u N C) (by omega) hc (fun e=>?_) (fun e τ hf hq=>?_)
  ·rw[if_pos (by rw[show E.sign r2.p [59]=false from qbq e (by decide)];rfl)]at hx
   obtain rfl:=Option.some.inj hx
   exact e
  ·obtain⟨j,N1,C1,rfl,g1,g2,g3⟩:=hq
   have hy1:=hf.N.at hnb hy
   have hne: ¬j=nn:=by omega
   have hc1:c<=C1.length:=zG hc hf.C.1
   obtain⟨z,hz⟩: ∃z,r2.p=pz z:=⟨_,qca e⟩
   rw[hz]at hx⊢
   simp only[qey]
   refine qar g2 hy1 hne (by omega) hb ?_
   have hy3:=qb7 (j:=j) (x:=r2.x) hy1
   generalize(N1.set j none).set nn (some (y.add [r2.x]))=N3 at hy3⊢
   refine qci (fun hbd hs=>?_) (fun hs ht=>?_) (fun hs=>?_)
   ·rw[if_neg (by rw[hs];decide)]at hx
    exact qb3 hx hbd
   ·rw[if_neg (by rw[hs];decide),ht]at hx
    exact qgj hE m (by omega) _ (z+1) out hx (by rw[qcp];exact hno) _ N3 C1 nn b c hy3 hb hc1
   ·rw[if_pos (by rw[hs];rfl)]at hx
    obtain rfl:=Option.some.inj hx
    exact Ends.here rfl ⟨⟨_,_,rfl,hy3⟩,by rw[qcp];exact hno⟩
theorem qjh{m:Nat}(hE: ∀k,k<m->HE E k){g:Out}(h:qal E m .guard (pz i)=some g)(u:Option Nat)(N:List (Option Nd))(C:List Chn)(hb:b<=N.length)(hc:c<=C.length):
 Ends E g.p.bad b c (qhb ⟨i,K,u,N,C⟩) (An K b g.x g.p.i):=by
 cases m with
 | zero=>cases h
 | succ m=>
  have h':qal E m (.guardL (nk 24 [])) (pz i)=some g:=h
  show Ends E g.p.bad b c ⟨i,.row N.length [59] .cond::K,u,N++[some (nk 24 [])],C⟩ _
  refine qcr ?_
  refine(qgj (n:=m) (fun k hk=>hE k (by omega)) m (zF _) _ i g h' rfl u _ C N.length b c (qam _ _) hb hc).mono (zF _) (zF _) (fun τ _ _ hq=>?_)
  obtain⟨⟨N9,C9,rfl,q1⟩,q2⟩:=hq
  exact⟨_,_,_,rfl,hb,q1,q2⟩
theorem qhl{n:Nat}(hE: ∀k,k<n->HE E k): ∀m,m<=n-> ∀(y:Nd) (i:Nat) (out:Out),qal E m (.bodyL y) (pz i)=some out->y.nof=[]-> ∀(u:Option Nat) (N:List (Option Nd)) (C:List Chn) (nn b c:Nat),N[nn]?=some (some y)->b<=nn->c<=C.length->
 Ends E out.p.bad b c ⟨i,.bodyO nn:: .into nn:: .more nn [44] (.bodyO nn)::K,u,N,C⟩ (fun τ=>At K nn out.x out.p.i τ/\out.x.nof=[])
 | 0,_,_,_,_,h,_,_,_,_,_,_,_,_,_,_=>by cases h
 | m+1,hm,y,i,out,h,hno,u,N,C,nn,b,c,hy,hb,hc=>by
  have h':(if(pz i).bad=true then some ({ x:=y,p:=pz i } :Out)else(qal E m (.expr 0) (pz (ntE E i).2)).bind fun r=>if(!E.sign r.p [44])=true then some ({ x:=y.add [(r.x.notes' (ntE E i).1).blk' (!y.ls.isEmpty&&blE E i)],p:=r.p } :Out)else qal E m (.bodyL (y.add [(r.x.notes' (ntE E i).1).blk' (!y.ls.isEmpty&&blE E i)])) (E.take r.p).2)=some out:=by
   have h2:(if(pz i).bad=true then some ({ x:=y,p:=pz i } :Out)else(qal E m (.expr 0) (E.notes (pz i)).2).bind fun r=>if(!E.sign r.p [44])=true then some ({ x:=y.add [(r.x.notes' (E.notes (pz i)).1).blk' (!y.ls.isEmpty&&!(E.notes (pz i)).2.bad&&decide (2<=E.nl ((pz i).i:Int)))],p:=r.p } :Out)else qal E m (.bodyL (y.add [(r.x.notes' (E.notes (pz i)).1).blk' (!y.ls.isEmpty&&!(E.notes (pz i)).2.bad&&decide (2<=E.nl ((pz i).i:Int)))])) (E.take r.p).2)=some out:=h
   rw[show(!y.ls.isEmpty&&!(E.notes (pz i)).2.bad&&decide (2<=E.nl ((pz i).i:Int)))=(!y.ls.isEmpty&&blE E i)by
    show(!y.ls.isEmpty&&!false&&blE E i)=_
    rw[Bool.not_false,Bool.and_true]]at h2
   exact h2
  rw[if_neg (by simp[pz])]at h'
  obtain⟨r,hr,hx⟩:=Option.bind_eq_some_iff.1 h'
  have hnb:=qad hy
  have e0:stp E (.bodyO nn) ⟨i,.into nn:: .more nn [44] (.bodyO nn)::K,u,N,C⟩=.ok ⟨i,.item (.expr 0):: .blnk (!y.ls.isEmpty&&blE E i):: .into nn:: .more nn [44] (.bodyO nn)::K,u,N,C⟩:=by
   show((⟨i,.into nn:: .more nn [44] (.bodyO nn)::K,u,N,C⟩:PM).nd nn >>= fun x=>_)=_
   rw[qfb hy];rfl
  refine Ends.step (.inl ⟨_,e0,frN (FrL.refl _ _),?_⟩)
  refine qch ?_
  generalize hbk:(!y.ls.isEmpty&&blE E i)=bk at hx⊢
  refine Ends.bind (hE m (by omega) _ _ _ hr (.nots (ntE E i).1:: .blnk bk:: .into nn:: .more nn [44] (.bodyO nn)::K) u N C) (by omega) hc (fun e=>?_) (fun e τ hf hq=>?_)
  ·rw[if_pos (by rw[show E.sign r.p [44]=false from qbq e (by decide)];rfl)]at hx
   obtain rfl:=Option.some.inj hx
   exact e
  ·obtain⟨j,N1,C1,rfl,g1,g2,g3⟩:=hq
   have hy1:=hf.N.at hnb hy
   have hne: ¬j=nn:=by omega
   have hc1:c<=C1.length:=zG hc hf.C.1
   obtain⟨z,hz⟩: ∃z,r.p=pz z:=⟨_,qca e⟩
   rw[hz]at hx⊢
   simp only[qey]
   refine qd1 g2 (by omega) ?_
   have hx2:(N1.set j (some (r.x.notes' (ntE E i).1)))[j]?=some (some (r.x.notes' (ntE E i).1)):=qb4 _ g2
   have hy2:(N1.set j (some (r.x.notes' (ntE E i).1)))[nn]?=some (some y):=by rw[zC hne];exact hy1
   refine qp4 hx2 (by omega) ?_
   have hx3:((N1.set j (some (r.x.notes' (ntE E i).1))).set j (some ((r.x.notes' (ntE E i).1).blk' bk)))[j]?=some (some ((r.x.notes' (ntE E i).1).blk' bk)):=qb4 _ hx2
   have hy3:((N1.set j (some (r.x.notes' (ntE E i).1))).set j (some ((r.x.notes' (ntE E i).1).blk' bk)))[nn]?=some (some y):=by rw[zC hne];exact hy2
   refine qar hx3 hy3 hne (by omega) hb ?_
   have hy4:=qb7 (j:=j) (x:=(r.x.notes' (ntE E i).1).blk' bk) hy3
   generalize(((N1.set j (some (r.x.notes' (ntE E i).1))).set j (some ((r.x.notes' (ntE E i).1).blk' bk))).set j none).set nn (some (y.add [(r.x.notes' (ntE E i).1).blk' bk]))=N3 at hy4⊢
   refine qci (fun hbd hs=>?_) (fun hs ht=>?_) (fun hs=>?_)
   ·rw[if_neg (by rw[hs];decide)]at hx
    exact qb3 hx hbd
   ·rw[if_neg (by rw[hs];decide),ht]at hx
    exact qhl hE m (by omega) _ (z+1) out hx (by rw[qcp];exact hno) _ N3 C1 nn b c hy4 hb hc1
   ·rw[if_pos (by rw[hs];rfl)]at hx
    obtain rfl:=Option.some.inj hx
    exact Ends.here rfl ⟨⟨_,_,rfl,hy4⟩,by rw[qcp];exact hno⟩
theorem qg7{m:Nat}(hE: ∀k,k<m->HE E k){out:Out}(h:qal E m .body (pz i)=some out)(u:Option Nat)(N:List (Option Nd))(C:List Chn):
 Ends E out.p.bad N.length C.length ⟨i,.body::K,u,N,C⟩ (An K N.length out.x out.p.i):=by
 cases m with
 | zero=>cases h
 | succ m=>
  have h':qal E m (.bodyL (nk 25 [])) (pz i)=some out:=h
  refine Ends.step (.inl ⟨⟨i,.row N.length [44] (.bodyO N.length)::K,u,N++[some (nk 25 [])],C⟩,rfl,frN (FrL.app (zF _) _),?_⟩)
  refine qcr ?_
  refine(qhl (n:=m) (fun k hk=>hE k (by omega)) m (zF _) _ i out h' rfl u _ C N.length N.length C.length (qam _ _) (zF _) (zF _)).mono (zF _) (zF _) (fun τ _ _ hq=>?_)
  obtain⟨⟨N9,C9,rfl,q1⟩,q2⟩:=hq
  exact⟨_,_,_,rfl,zF _,q1,q2⟩
end
section
variable{E:Env}{b c:Nat}{K:List Stp}{i:Nat}
theorem qdw{m:Nat}(hE: ∀k,k<m->HE E k){y g:Nd}{out:Out}(h:qal E m (.arrow y g) (pz i)=some out)(hno:y.nof=[])(N:List (Option Nd))(C:List Chn)(j nn:Nat)(hx:N[j]?=some (some g))(hy:N[nn]?=some (some y))(hne: ¬j=nn)(hbj:b<=j)(hb:b<=nn)(hc:c<=C.length):
 Ends E out.p.bad b c ⟨i,.into nn:: .arrow nn:: .body:: .into nn::K,some j,N,C⟩ (fun τ=>At K nn out.x out.p.i τ/\out.x.nof=[]):=by
 cases m with
 | zero=>cases h
 | succ m=>
  have h':(qal E m .body (E.want (pz i) 9 [45,62]).2).bind (fun r=>some ({ x:=(y.brk' (E.broken (E.want (pz i) 9 [45,62]).2 (E.want (pz i) 9 [45,62]).1)).add [g,r.x],p:=r.p } :Out))=some out:=h
  obtain⟨r,hr,hx9⟩:=Option.bind_eq_some_iff.1 h'
  obtain rfl:=Option.some.inj hx9
  refine qar hx hy hne hbj hb ?_
  have hy2:=qb7 (j:=j) (x:=g) hy
  have hlN:((N.set j none).set nn (some (y.add [g]))).length=N.length:=by rw[zE,zE]
  generalize(N.set j none).set nn (some (y.add [g]))=N2 at hy2 hlN⊢
  refine Ends.step ?_
  have e0:stp E (.arrow nn) ⟨i,.body:: .into nn::K,some nn,N2,C⟩=(msE E 9 [45,62] i >>= fun j=>.ok (((⟨i,.body:: .into nn::K,some nn,N2,C⟩:PM).at_ j).set nn ((y.add [g]).brk' (brE E j)))):=by
   show((⟨i,.body:: .into nn::K,some nn,N2,C⟩:PM).nd nn >>= fun x=>_)=_
   rw[qfb hy2];rfl
  rw[e0]
  rcases qbe E 9 [45,62] i (by decide)with⟨m1,m2,m3,m4,m5⟩ | ⟨m1,m2,m3⟩
  ·rw[m1]
   rw[m2]at hr⊢
   have hy3:(N2.set nn (some ((y.add [g]).brk' (brE E (i+1)))))[nn]?=some (some ((y.add [g]).brk' (brE E (i+1)))):=qb4 _ hy2
   refine .inl ⟨⟨i+1,.body:: .into nn::K,some nn,N2.set nn (some ((y.add [g]).brk' (brE E (i+1)))),C⟩,rfl,frN (FrL.set hb _),?_⟩
   have hnl:=qad hy3
   refine Ends.bind (qg7 (K:=.into nn::K) (fun k hk=>hE k (by omega)) hr (some nn) _ C) (by omega) hc id (fun e τ hf hq=>?_)
   obtain⟨j2,N3,C3,rfl,g1,g2,g3⟩:=hq
   have hy4:=hf.N.at hnl hy3
   have hne2: ¬j2=nn:=by omega
   refine qar g2 hy4 hne2 (by omega) hb ?_
   have e5:((y.add [g]).brk' (brE E (i+1))).add [r.x]=(y.brk' (E.broken (pz (i+1)) i)).add [g,r.x]:=by
    rw[qxn];cases y;simp[Nd.add,Nd.brk']
   have hy5:=qb7 (j:=j2) (x:=r.x) hy4
   rw[e5]at hy5⊢
   exact Ends.here e ⟨⟨_,_,rfl,hy5⟩,by rw[qcp,qlb];exact hno⟩
  ·rw[m1]
   exact .inr ⟨rfl,show r.p.bad=true from qb3 hr m2⟩
theorem qke{m:Nat}(hE: ∀k,k<m->HE E k){y:Nd}{out:Out}(h:qal E m (.rest y) (pz i)=some out)(hno:y.nof=[])(u:Option Nat)(N:List (Option Nd))(C:List Chn)(nn:Nat)(hy:N[nn]?=some (some y))(hb:b<=nn)(hc:c<=C.length):
 Ends E out.p.bad b c ⟨i,.guar:: .into nn:: .arrow nn:: .body:: .into nn::K,u,N,C⟩ (fun τ=>At K nn out.x out.p.i τ/\out.x.nof=[]):=by
 cases m with
 | zero=>cases h
 | succ m=>
  have h':(if E.word (pz i) [119,104,101,110]=true then(qal E m .guard (E.take (pz i)).2).bind fun r=>qal E m (.arrow y r.x) r.p else qal E m (.arrow y (nk 24 [])) (pz i))=some out:=h
  refine Ends.step ?_
  have hnl:=qad hy
  have e0:stp E .guar ⟨i,.into nn:: .arrow nn:: .body:: .into nn::K,u,N,C⟩=(sgE E 8 [119,104,101,110] i >>= fun q=>if q.1=true then .ok (qhb ⟨q.2,.into nn:: .arrow nn:: .body:: .into nn::K,some N.length,N++[some (nk 24 [])],C⟩)else .ok ⟨i,.into nn:: .arrow nn:: .body:: .into nn::K,some N.length,N++[some (nk 24 [])],C⟩):=rfl
  rw[e0]
  have hy2:(N++[some (nk 24 [])])[nn]?=some (some y):=by rw[zB hnl];exact hy
  have hl2:(N++[some (nk 24 [])]).length=N.length+1:=by rw[zD];rfl
  rcases qbt E 8 [119,104,101,110] i (by decide)with⟨m1,m2,m3,m4,m5⟩ | ⟨m1,m2⟩ | ⟨m1,m2,m3⟩
  ·rw[m1]
   rw[if_pos (show E.word (pz i) [119,104,101,110]=true from m2),m3]at h'
   obtain⟨r,hr,hx⟩:=Option.bind_eq_some_iff.1 h'
   refine .inl ⟨qhb ⟨i+1,.into nn:: .arrow nn:: .body:: .into nn::K,some N.length,N++[some (nk 24 [])],C⟩,rfl,?_,?_⟩
   ·exact⟨(FrL.app (show b<=N.length by omega) _).trans (FrL.app (show b<=(N++[some (nk 24 [])]).length by omega) [some (nk 24 [])]),FrL.refl _ _⟩
   ·have hal:=qjh (b:=N.length+1) (c:=C.length) (K:=.into nn:: .arrow nn:: .body:: .into nn::K) (i:=i+1) (fun k hk=>hE k (by omega)) hr (some N.length) (N++[some (nk 24 [])]) C (by omega) (zF _)
    refine Ends.bind hal (by omega) hc (fun e=>qb3 hx e) (fun e τ hf hq=>?_)
    obtain⟨j2,N3,C3,rfl,g1,g2,g3⟩:=hq
    have hy4:N3[nn]?=some (some y):=hf.N.at (by omega) (by
     show((N++[some (nk 24 [])])++[some (nk 24 [])])[nn]?=some (some y)
     rw[zB (by omega)];exact hy2)
    obtain⟨z,hz⟩: ∃z,r.p=pz z:=⟨_,qca e⟩
    rw[hz]at hx⊢
    simp only[qey]
    exact qdw (fun k hk=>hE k (by omega)) hx hno N3 C3 j2 nn g2 hy4 (by omega) (by omega) hb (zG hc hf.C.1)
  ·rw[m1]
   rw[if_neg (show¬E.word (pz i) [119,104,101,110]=true by rw[show E.word (pz i) [119,104,101,110]=false from m2];decide)]at h'
   refine .inl ⟨⟨i,.into nn:: .arrow nn:: .body:: .into nn::K,some N.length,N++[some (nk 24 [])],C⟩,rfl,frN (FrL.app (by omega) _),?_⟩
   exact qdw (fun k hk=>hE k (by omega)) h' hno _ C N.length nn (qam _ _) hy2 (by omega) (by omega) hb hc
  ·rw[m1]
   rw[if_pos (show E.word (pz i) [119,104,101,110]=true from m2)]at h'
   obtain⟨r,hr,hx⟩:=Option.bind_eq_some_iff.1 h'
   exact .inr ⟨rfl,qb3 hx (qb3 hr m3)⟩
theorem qk4{m:Nat}(hE:HE E m){r:Out}(hr:qal E m (.expr 1) (pz i)=some r)(u:Option Nat)(N:List (Option Nd))(C:List Chn):
 Ends E r.p.bad N.length C.length ⟨i,.patt::K,u,N,C⟩ (An K N.length (nk 23 [r.x]) r.p.i):=by
 refine Ends.step (.inl ⟨⟨i,.expr 1:: .into N.length::K,u,N++[some (nk 23 [])],C⟩,rfl,frN (FrL.app (zF _) _),?_⟩)
 have hy:(N++[some (nk 23 [])])[N.length]?=some (some (nk 23 [])):=qam _ _
 have hnl:=qad hy
 refine Ends.bind (hE _ _ _ hr (.into N.length::K) u _ C) (by omega) (zF _) id (fun e τ hf hq=>?_)
 obtain⟨j2,N3,C3,rfl,g1,g2,g3⟩:=hq
 have hy4:=hf.N.at hnl hy
 refine qar g2 hy4 (by omega) (by omega) (zF _) ?_
 exact Ends.here e ⟨_,_,_,rfl,zF _,qb7 hy4,rfl⟩
theorem qga(s:Stp)(args guard:Stp)(h: ∀(u:Option Nat) (N:List (Option Nd)) (C:List Chn),stp E s ⟨i,K,u,N,C⟩=.ok (qc8 ⟨i,K,u,N,C⟩ args guard)){bad:Bool}{Q:PM->Prop}(u:Option Nat)(N:List (Option Nd))(C:List Chn)(hb:b<=N.length)
 (hk:Ends E bad b c ⟨i,args:: .into N.length::guard:: .into N.length:: .arrow N.length:: .body:: .into N.length::K,u,N++[some (nk 22 [])],C⟩ Q):Ends E bad b c ⟨i,s::K,u,N,C⟩ Q:=
 Ends.step (.inl ⟨_,h u N C,frN (FrL.app hb _),hk⟩)
theorem qqs{m:Nat}(hE: ∀k,k<=m->HE E k){r r2:Out}(hr:qal E m (.expr 1) (pz i)=some r)(hr2:qal E m (.rest (nk 22 [nk 23 [r.x]])) r.p=some r2)(u:Option Nat)(N:List (Option Nd))(C:List Chn):
 Ends E r2.p.bad N.length C.length ⟨i,.patC::K,u,N,C⟩ (An K N.length r2.x r2.p.i):=by
 refine qga .patC .patt .guar (fun _ _ _=>rfl) u N C (zF _) ?_
 have hy:(N++[some (nk 22 [])])[N.length]?=some (some (nk 22 [])):=qam _ _
 have hnl:=qad hy
 refine Ends.bind (qk4 (K:=.into N.length:: .guar:: .into N.length:: .arrow N.length:: .body:: .into N.length::K) (hE m (zF _)) hr u _ C) (by omega) (zF _) (fun e=>qb3 hr2 e) (fun e τ hf hq=>?_)
 obtain⟨j2,N3,C3,rfl,g1,g2,g3⟩:=hq
 have hy4:=hf.N.at hnl hy
 obtain⟨z,hz⟩: ∃z,r.p=pz z:=⟨_,qca e⟩
 rw[hz]at hr2⊢
 simp only[qey]
 refine qar g2 hy4 (by omega) (by omega) (zF _) ?_
 refine(qke (fun k hk=>hE k (by omega)) hr2 rfl _ _ C3 N.length (qb7 hy4) (zF _) hf.C.1).mono (zF _) (zF _) (fun τ _ _ hq=>?_)
 obtain⟨⟨N9,C9,rfl,q1⟩,q2⟩:=hq
 exact⟨_,_,_,rfl,zF _,q1,q2⟩
theorem qpc{m:Nat}(hE: ∀k,k<=m->HE E k)(hB:BX E m){r r2:Out}(hr:qal E m (.box (nk 23 []) [40] [41] 0) (pz i)=some r)(hr2:qal E m (.rest (nkt 22 ⟨#[]⟩ [r.x])) r.p=some r2)(u:Option Nat)(N:List (Option Nd))(C:List Chn):
 Ends E r2.p.bad N.length C.length ⟨i,.funC::K,u,N,C⟩ (An K N.length r2.x r2.p.i):=by
 have hl1:(N++[some (nk 23 [])]).length=N.length+1:=by rw[zD];rfl
 refine Ends.step (.inl ⟨⟨i,.box N.length [40] (.expr 0):: .into (N++[some (nk 23 [])]).length:: .guar:: .into (N++[some (nk 23 [])]).length:: .arrow (N++[some (nk 23 [])]).length:: .body:: .into (N++[some (nk 23 [])]).length::K,u,(N++[some (nk 23 [])])++[some (nk 22 [])],C⟩,rfl,frN ((FrL.app (zF _) _).trans (FrL.app (by omega) _)),?_⟩)
 have hy:((N++[some (nk 23 [])])++[some (nk 22 [])])[(N++[some (nk 23 [])]).length]?=some (some (nk 22 [])):=qam _ _
 rw[hl1]at hy⊢
 have hx:((N++[some (nk 23 [])])++[some (nk 22 [])])[N.length]?=some (some (nk 23 [])):=by
  rw[zB (by omega)];exact qam _ _
 generalize(N++[some (nk 23 [])])++[some (nk 22 [])]=N2 at hx hy⊢
 have hnl:=qad hy
 have hbx:=hB (nk 23 []) [40] [41] 0 i r (.expr 0) hr (.inl ⟨rfl,by decide,by decide,by decide⟩) rfl (.inl rfl) rfl (.into (N.length+1):: .guar:: .into (N.length+1):: .arrow (N.length+1):: .body:: .into (N.length+1)::K) u N2 C N.length N.length C.length hx (zF _) (zF _)
 refine Ends.bind hbx (zF _) (zF _) (fun e=>qb3 hr2 e) (fun e τ hf hq=>?_)
 obtain⟨⟨N3,C3,rfl,g1⟩,g2,g3⟩:=hq
 have hy4:N3[N.length+1]?=some (some (nk 22 [])):=(g3 _ hnl (by omega)).trans hy
 obtain⟨z,hz⟩: ∃z,r.p=pz z:=⟨_,qca e⟩
 rw[hz]at hr2⊢
 simp only[qey]
 refine qar g1 hy4 (by omega) (zF _) (by omega) ?_
 refine(qke (b:=N.length) (c:=C.length) (fun k hk=>hE k (by omega)) hr2 rfl _ _ C3 (N.length+1) (qb7 hy4) (by omega) hf.C.1).mono (zF _) (zF _) (fun τ _ _ hq=>?_)
 obtain⟨⟨N9,C9,rfl,q1⟩,q2⟩:=hq
 exact⟨_,_,_,rfl,by omega,q1,q2⟩
end
section
variable{E:Env}{b c:Nat}{K:List Stp}{i:Nat}
theorem qt3{m:Nat}(hE: ∀k,k<=m->HE E k){g r:Out}(hg:qal E m .guard (pz i)=some g)(hr:qal E m (.arrow (nk 22 [nk 23 []]) g.x) g.p=some r)(u:Option Nat)(N:List (Option Nd))(C:List Chn):
 Ends E r.p.bad N.length C.length ⟨i,.tstC::K,u,N,C⟩ (An K N.length r.x r.p.i):=by
 refine qga .tstC (.noth 23) .alts (fun _ _ _=>rfl) u N C (zF _) ?_
 have hl1:(N++[some (nk 22 [])]).length=N.length+1:=by rw[zD];rfl
 have hy:(N++[some (nk 22 [])])[N.length]?=some (some (nk 22 [])):=qam _ _
 refine Ends.step (.inl ⟨⟨i,.into N.length:: .alts:: .into N.length:: .arrow N.length:: .body:: .into N.length::K,some (N.length+1),(N++[some (nk 22 [])])++[some (nk 23 [])],C⟩,?_,frN (FrL.app (by omega) _),?_⟩)
 ·show Except.ok (((⟨i,.into N.length:: .alts:: .into N.length:: .arrow N.length:: .body:: .into N.length::K,u,N++[some (nk 22 [])],C⟩:PM).new (nk 23 [])).is (N++[some (nk 22 [])]).length)=_
  rw[hl1];rfl
 have hx:((N++[some (nk 22 [])])++[some (nk 23 [])])[N.length+1]?=some (some (nk 23 [])):=by rw[<-hl1];exact qam _ _
 have hy2:((N++[some (nk 22 [])])++[some (nk 23 [])])[N.length]?=some (some (nk 22 [])):=by rw[zB (by omega)];exact hy
 have hl2:((N++[some (nk 22 [])])++[some (nk 23 [])]).length=N.length+2:=by rw[zD,hl1];rfl
 generalize(N++[some (nk 22 [])])++[some (nk 23 [])]=N2 at hx hy2 hl2⊢
 refine qar hx hy2 (by omega) (by omega) (zF _) ?_
 have hy3:=qb7 (j:=N.length+1) (x:=nk 23 []) hy2
 have hl3:((N2.set (N.length+1) none).set N.length (some ((nk 22 []).add [nk 23 []]))).length=N.length+2:=by rw[zE,zE];exact hl2
 generalize(N2.set (N.length+1) none).set N.length (some ((nk 22 []).add [nk 23 []]))=N3 at hy3 hl3⊢
 refine Ends.step (.inl ⟨qhb ⟨i,.into N.length:: .arrow N.length:: .body:: .into N.length::K,some N.length,N3,C⟩,rfl,⟨FrL.app (show N.length<=N3.length by omega) [some (nk 24 [])],FrL.refl _ _⟩,?_⟩)
 have hal:=qjh (b:=N.length+1) (c:=C.length) (K:=.into N.length:: .arrow N.length:: .body:: .into N.length::K) (i:=i) (fun k hk=>hE k (by omega)) hg (some N.length) N3 C (by omega) (zF _)
 refine Ends.bind hal (by omega) (zF _) (fun e=>qb3 hr e) (fun e τ hf hq=>?_)
 obtain⟨j2,N4,C4,rfl,g1,g2,g3⟩:=hq
 have hy4:N4[N.length]?=some (some ((nk 22 []).add [nk 23 []])):=hf.N.at (by omega) (by
  show(N3++[some (nk 24 [])])[N.length]?=_
  rw[zB (by omega)];exact hy3)
 obtain⟨z,hz⟩: ∃z,g.p=pz z:=⟨_,qca e⟩
 rw[hz]at hr⊢
 simp only[qey]
 refine(qdw (b:=N.length) (c:=C.length) (fun k hk=>hE k (by omega)) hr rfl N4 C4 j2 N.length g2 hy4 (by omega) (by omega) (zF _) hf.C.1).mono (zF _) (zF _) (fun τ _ _ hq=>?_)
 obtain⟨⟨N9,C9,rfl,q1⟩,q2⟩:=hq
 exact⟨_,_,_,rfl,zF _,q1,q2⟩
theorem qq6{m:Nat}(hE: ∀k,k<=m->HE E k)(hw:E.word (pz i) [97,102,116,101,114]=true){r r2:Out}(hr:qal E m (.expr 1) (E.take (pz i)).2=some r)(hr2:qal E m (.arrow (nk 22 [nk 23 [r.x]]) (nk 24 [])) r.p=some r2)(u:Option Nat)(N:List (Option Nd))(C:List Chn):
 Ends E r2.p.bad N.length C.length ⟨i,.lstC::K,u,N,C⟩ (An K N.length r2.x r2.p.i):=by
 refine Ends.step ?_
 have e0:stp E .lstC ⟨i,K,u,N,C⟩=(msE E 8 [97,102,116,101,114] i >>= fun j=>.ok (qc8 ⟨j,K,u,N,C⟩ .patt (.noth 24))):=rfl
 rw[e0]
 rcases qbe E 8 [97,102,116,101,114] i (by decide)with⟨m1,m2,m3,m4,m5⟩ | ⟨m1,m2,m3⟩
 ·rw[m1]
  rw[m4]at hr
  refine .inl ⟨⟨i+1,.patt:: .into N.length:: .noth 24:: .into N.length:: .arrow N.length:: .body:: .into N.length::K,u,N++[some (nk 22 [])],C⟩,rfl,frN (FrL.app (zF _) _),?_⟩
  have hy:(N++[some (nk 22 [])])[N.length]?=some (some (nk 22 [])):=qam _ _
  have hnl:=qad hy
  refine Ends.bind (qk4 (K:=.into N.length:: .noth 24:: .into N.length:: .arrow N.length:: .body:: .into N.length::K) (hE m (zF _)) hr u _ C) (by omega) (zF _) (fun e=>qb3 hr2 e) (fun e τ hf hq=>?_)
  obtain⟨j2,N3,C3,rfl,g1,g2,g3⟩:=hq
  have hy4:=hf.N.at hnl hy
  obtain⟨z,hz⟩: ∃z,r.p=pz z:=⟨_,qca e⟩
  rw[hz]at hr2⊢
  simp only[qey]
  refine qar g2 hy4 (by omega) (by omega) (zF _) ?_
  have hy5:=qb7 (j:=j2) (x:=nk 23 [r.x]) hy4
  have hl5:N.length< ((N3.set j2 none).set N.length (some ((nk 22 []).add [nk 23 [r.x]]))).length:=qad hy5
  generalize(N3.set j2 none).set N.length (some ((nk 22 []).add [nk 23 [r.x]]))=N5 at hy5 hl5⊢
  refine Ends.step (.inl ⟨⟨z,.into N.length:: .arrow N.length:: .body:: .into N.length::K,some N5.length,N5++[some (nk 24 [])],C3⟩,rfl,frN (FrL.app (by omega) _),?_⟩)
  have hy6:(N5++[some (nk 24 [])])[N.length]?=some (some ((nk 22 []).add [nk 23 [r.x]])):=by rw[zB hl5];exact hy5
  refine(qdw (b:=N.length) (c:=C.length) (fun k hk=>hE k (by omega)) hr2 rfl _ C3 N5.length N.length (qam _ _) hy6 (by omega) (by omega) (zF _) hf.C.1).mono (zF _) (zF _) (fun τ _ _ hq=>?_)
  obtain⟨⟨N9,C9,rfl,q1⟩,q2⟩:=hq
  exact⟨_,_,_,rfl,zF _,q1,q2⟩
 ·rw[m1]
  exact .inr ⟨rfl,qb3 hr2 (qb3 hr (m3 hw))⟩
theorem qdh{n:Nat}(hE: ∀k,k<n->HE E k): ∀m,m<=n-> ∀(y:Nd) (os:List Nd) (i:Nat) (out:Out),qal E m (.clausesL os) (pz i)=some out-> ∀(u:Option Nat) (N:List (Option Nd)) (C:List Chn) (nn b c:Nat),N[nn]?=some (some (y.add os))->b<=nn->c<=C.length->
 Ends E out.p.bad b c ⟨i,.item .patC:: .into nn:: .more nn [59] (.item .patC)::K,u,N,C⟩ (At K nn (y.add out.xs) out.p.i)
 | 0,_,_,_,_,_,h,_,_,_,_,_,_,_,_,_=>by cases h
 | m+1,hm,y,os,i,out,h,u,N,C,nn,b,c,hy,hb,hc=>by
  have h':(if(pz i).bad=true then some ({ xs:=os,p:=pz i } :Out)else(qal E m (.expr 1) (pz (ntE E i).2)).bind fun r=>(qal E m (.rest (nk 22 [nk 23 [r.x]])) r.p).bind fun r2=>if(!E.sign r2.p [59])=true then some ({ xs:=os++[r2.x.notes' (ntE E i).1],p:=r2.p } :Out)else qal E m (.clausesL (os++[r2.x.notes' (ntE E i).1])) (E.take r2.p).2)=some out:=h
  rw[if_neg (by simp[pz])]at h'
  obtain⟨r,hr,hx⟩:=Option.bind_eq_some_iff.1 h'
  obtain⟨r2,hr2,hx⟩:=Option.bind_eq_some_iff.1 hx
  have hnb:=qad hy
  refine qch ?_
  refine Ends.bind (qqs (K:=.nots (ntE E i).1:: .into nn:: .more nn [59] (.item .patC)::K) (fun k hk=>hE k (by omega)) hr hr2 u N C) (by omega) hc (fun e=>?_) (fun e τ hf hq=>?_)
  ·rw[if_pos (by rw[show E.sign r2.p [59]=false from qbq e (by decide)];rfl)]at hx
   obtain rfl:=Option.some.inj hx
   exact e
  ·obtain⟨j,N1,C1,rfl,g1,g2,g3⟩:=hq
   have hy1:=hf.N.at hnb hy
   have hne: ¬j=nn:=by omega
   have hc1:c<=C1.length:=zG hc hf.C.1
   obtain⟨z,hz⟩: ∃z,r2.p=pz z:=⟨_,qca e⟩
   rw[hz]at hx⊢
   simp only[qey]
   refine qd1 g2 (by omega) ?_
   have hx2:(N1.set j (some (r2.x.notes' (ntE E i).1)))[j]?=some (some (r2.x.notes' (ntE E i).1)):=qb4 _ g2
   have hy2:(N1.set j (some (r2.x.notes' (ntE E i).1)))[nn]?=some (some (y.add os)):=by rw[zC hne];exact hy1
   refine qar hx2 hy2 hne (by omega) hb ?_
   have hy3:=qb7 (j:=j) (x:=r2.x.notes' (ntE E i).1) hy2
   have e5:(y.add os).add [r2.x.notes' (ntE E i).1]=y.add (os++[r2.x.notes' (ntE E i).1]):=by cases y;simp[Nd.add]
   rw[e5]at hy3⊢
   generalize((N1.set j (some (r2.x.notes' (ntE E i).1))).set j none).set nn (some (y.add (os++[r2.x.notes' (ntE E i).1])))=N3 at hy3⊢
   refine qci (fun hbd hs=>?_) (fun hs ht=>?_) (fun hs=>?_)
   ·rw[if_neg (by rw[hs];decide)]at hx
    exact qb3 hx hbd
   ·rw[if_neg (by rw[hs];decide),ht]at hx
    exact qdh hE m (by omega) y _ (z+1) out hx _ N3 C1 nn b c hy3 hb hc1
   ·rw[if_pos (by rw[hs];rfl)]at hx
    obtain rfl:=Option.some.inj hx
    exact Ends.here rfl ⟨_,_,rfl,hy3⟩
theorem qjr{n:Nat}(hE: ∀k,k<n->HE E k): ∀m,m<=n-> ∀(y:Nd) (os:List Nd) (i:Nat) (out:Out),qal E m (.ifsL os) (pz i)=some out-> ∀(u:Option Nat) (N:List (Option Nd)) (C:List Chn) (nn b c:Nat),N[nn]?=some (some (y.add os))->b<=nn->c<=C.length->
 Ends E out.p.bad b c ⟨i,.item .tstC:: .into nn:: .more nn [59] (.item .tstC)::K,u,N,C⟩ (At K nn (y.add out.xs) out.p.i)
 | 0,_,_,_,_,_,h,_,_,_,_,_,_,_,_,_=>by cases h
 | m+1,hm,y,os,i,out,h,u,N,C,nn,b,c,hy,hb,hc=>by
  have h':(if(pz i).bad=true then some ({ xs:=os,p:=pz i } :Out)else(qal E m .guard (pz (ntE E i).2)).bind fun g=>(qal E m (.arrow (nk 22 [nk 23 []]) g.x) g.p).bind fun r2=>if(!E.sign r2.p [59])=true then some ({ xs:=os++[r2.x.notes' (ntE E i).1],p:=r2.p } :Out)else qal E m (.ifsL (os++[r2.x.notes' (ntE E i).1])) (E.take r2.p).2)=some out:=h
  rw[if_neg (by simp[pz])]at h'
  obtain⟨g,hg,hx⟩:=Option.bind_eq_some_iff.1 h'
  obtain⟨r2,hr2,hx⟩:=Option.bind_eq_some_iff.1 hx
  have hnb:=qad hy
  refine qch ?_
  refine Ends.bind (qt3 (K:=.nots (ntE E i).1:: .into nn:: .more nn [59] (.item .tstC)::K) (fun k hk=>hE k (by omega)) hg hr2 u N C) (by omega) hc (fun e=>?_) (fun e τ hf hq=>?_)
  ·rw[if_pos (by rw[show E.sign r2.p [59]=false from qbq e (by decide)];rfl)]at hx
   obtain rfl:=Option.some.inj hx
   exact e
  ·obtain⟨j,N1,C1,rfl,g1,g2,g3⟩:=hq
   have hy1:=hf.N.at hnb hy
   have hne: ¬j=nn:=by omega
   have hc1:c<=C1.length:=zG hc hf.C.1
   obtain⟨z,hz⟩: ∃z,r2.p=pz z:=⟨_,qca e⟩
   rw[hz]at hx⊢
   simp only[qey]
   refine qd1 g2 (by omega) ?_
   have hx2:(N1.set j (some (r2.x.notes' (ntE E i).1)))[j]?=some (some (r2.x.notes' (ntE E i).1)):=qb4 _ g2
   have hy2:(N1.set j (some (r2.x.notes' (ntE E i).1)))[nn]?=some (some (y.add os)):=by rw[zC hne];exact hy1
   refine qar hx2 hy2 hne (by omega) hb ?_
   have hy3:=qb7 (j:=j) (x:=r2.x.notes' (ntE E i).1) hy2
   have e5:(y.add os).add [r2.x.notes' (ntE E i).1]=y.add (os++[r2.x.notes' (ntE E i).1]):=by cases y;simp[Nd.add]
   rw[e5]at hy3⊢
   generalize((N1.set j (some (r2.x.notes' (ntE E i).1))).set j none).set nn (some (y.add (os++[r2.x.notes' (ntE E i).1])))=N3 at hy3⊢
   refine qci (fun hbd hs=>?_) (fun hs ht=>?_) (fun hs=>?_)
   ·rw[if_neg (by rw[hs];decide)]at hx
    exact qb3 hx hbd
   ·rw[if_neg (by rw[hs];decide),ht]at hx
    exact qjr hE m (by omega) y _ (z+1) out hx _ N3 C1 nn b c hy3 hb hc1
   ·rw[if_pos (by rw[hs];rfl)]at hx
    obtain rfl:=Option.some.inj hx
    exact Ends.here rfl ⟨_,_,rfl,hy3⟩
theorem qdy{y:Nd}(hno:y.nof=[])(u:Option Nat)(N:List (Option Nd))(C:List Chn)(nn:Nat)(hy:N[nn]?=some (some y))(hb:b<=nn):Ends E (qai E y (pz i)).p.bad b c ⟨i,qa8 nn::K,u,N,C⟩ (An K b (qai E y (pz i)).x (qai E y (pz i)).p.i):=by
 refine qer (by decide) hy hb (fun hw=>hw) (fun hw=>?_)
 show Ends E (E.want (pz (ntE E i).2) 8 [101,110,100]).2.bad b c _ (An K b (y.tail' (ntE E i).1) (E.want (pz (ntE E i).2) 8 [101,110,100]).2.i)
 rw[hw]
 exact Ends.here rfl ⟨_,_,_,rfl,hb,qb4 _ hy,by rw[qfx];exact hno⟩
theorem qhp{n:Nat}(hE: ∀k,k<n->HE E k)(hB: ∀k,k<n->BX E k): ∀m,m<=n-> ∀(y:Nd) (i:Nat) (out:Out),qal E m (.funcL y) (pz i)=some out->(y.ls=[]->E.pk i=i)->y.nof=[]-> ∀(u:Option Nat) (N:List (Option Nd)) (C:List Chn) (nn b c:Nat),N[nn]?=some (some y)->b<=nn->c<=C.length->
 Ends E out.p.bad b c ⟨i,.item .funC:: .into nn:: .more nn [59] (.item .funC)::qa8 nn::K,u,N,C⟩ (An K b out.x out.p.i)
 | 0,_,_,_,_,h,_,_,_,_,_,_,_,_,_,_,_=>by cases h
 | m+1,hm,y,i,out,h,hpk,hno,u,N,C,nn,b,c,hy,hb,hc=>by
  have h':(if(pz i).bad=true then some (qai E y (pz i))else(qal E m (.head ⟨#[]⟩) (if y.ls.isEmpty then(([],pz i):List ByteArray×Ps)else E.notes (pz i)).2).bind fun r=>if(!E.sign r.p [59])=true then some (qai E (y.add [r.x.notes' (if y.ls.isEmpty then(([],pz i):List ByteArray×Ps)else E.notes (pz i)).1]) r.p)else qal E m (.funcL (y.add [r.x.notes' (if y.ls.isEmpty then(([],pz i):List ByteArray×Ps)else E.notes (pz i)).1])) (E.take r.p).2)=some out:=h
  have hnt:(if y.ls.isEmpty then(([],pz i):List ByteArray×Ps)else E.notes (pz i))=((ntE E i).1,pz (ntE E i).2):=by
   by_cases hl:y.ls=[]
   ·rw[if_pos (by rw[hl];rfl)]
    have h9:=hpk hl
    show _=(cms E (E.pk i-i) i,pz (max i (E.pk i)))
    rw[h9,Nat.sub_self,Nat.max_self];rfl
   ·rw[if_neg (by simpa using hl)];rfl
  rw[if_neg (by simp[pz]),hnt]at h'
  obtain⟨r,hr0,hx⟩:=Option.bind_eq_some_iff.1 h'
  cases m with
  | zero=>cases hr0
  | succ m=>
  have hr0:(qal E m (.box (nk 23 []) [40] [41] 0) (pz (ntE E i).2)).bind (fun r=>qal E m (.rest (nkt 22 ⟨#[]⟩ [r.x])) r.p)=some r:=hr0
  obtain⟨r1,hr1,hr2⟩:=Option.bind_eq_some_iff.1 hr0
  have hnb:=qad hy
  refine qch ?_
  refine Ends.bind (qpc (K:=.nots (ntE E i).1:: .into nn:: .more nn [59] (.item .funC)::qa8 nn::K) (fun k hk=>hE k (by omega)) (hB m (by omega)) hr1 hr2 u N C) (by omega) hc (fun e=>?_) (fun e τ hf hq=>?_)
  ·rw[if_pos (by rw[show E.sign r.p [59]=false from qbq e (by decide)];rfl)]at hx
   obtain rfl:=Option.some.inj hx
   exact qcz e
  ·obtain⟨j,N1,C1,rfl,g1,g2,g3⟩:=hq
   have hy1:=hf.N.at hnb hy
   have hne: ¬j=nn:=by omega
   have hc1:c<=C1.length:=zG hc hf.C.1
   obtain⟨z,hz⟩: ∃z,r.p=pz z:=⟨_,qca e⟩
   rw[hz]at hx⊢
   simp only[qey]
   refine qd1 g2 (by omega) ?_
   have hx2:(N1.set j (some (r.x.notes' (ntE E i).1)))[j]?=some (some (r.x.notes' (ntE E i).1)):=qb4 _ g2
   have hy2:(N1.set j (some (r.x.notes' (ntE E i).1)))[nn]?=some (some y):=by rw[zC hne];exact hy1
   refine qar hx2 hy2 hne (by omega) hb ?_
   have hy3:=qb7 (j:=j) (x:=r.x.notes' (ntE E i).1) hy2
   have hls:(y.add [r.x.notes' (ntE E i).1]).ls=[]->False:=fun h9=>by
    cases y with
    | mk k t l br bl no ta=>
     have h9:l++[r.x.notes' (ntE E i).1]=[]:=h9
     simp at h9
   have hno3:(y.add [r.x.notes' (ntE E i).1]).nof=[]:=by rw[qcp];exact hno
   generalize((N1.set j (some (r.x.notes' (ntE E i).1))).set j none).set nn (some (y.add [r.x.notes' (ntE E i).1]))=N3 at hy3⊢
   refine qci (fun hbd hs=>?_) (fun hs ht=>?_) (fun hs=>?_)
   ·rw[if_neg (by rw[hs];decide)]at hx
    exact qb3 hx hbd
   ·rw[if_neg (by rw[hs];decide),ht]at hx
    exact qhp hE hB (m+1) (by omega) _ (z+1) out hx (fun h9=>(hls h9).elim) hno3 _ N3 C1 nn b c hy3 hb hc1
   ·rw[if_pos (by rw[hs];rfl)]at hx
    obtain rfl:=Option.some.inj hx
    exact qdy hno3 _ N3 C1 nn hy3 hb
end
section
variable{E:Env}{b c:Nat}{K:List Stp}{i:Nat}
theorem qjv{m:Nat}(hE: ∀k,k<=m->HE E k){xs:List Nd}{out:Out}(hx:(if E.word (pz i) [97,102,116,101,114]=true then(qal E m (.expr 1) (E.take (E.notes (pz i)).2).2).bind fun r2=>(qal E m (.arrow (nk 22 [nk 23 [r2.x]]) (nk 24 [])) r2.p).bind fun r3=>some (qai E (nkt 20 ⟨#[97,102,116,101,114]⟩ (xs++[r3.x.notes' (E.notes (pz i)).1])) r3.p)else some (qai E (nk 20 xs) (pz i)))=some out)(u:Option Nat)(N:List (Option Nd))(C:List Chn)(nn:Nat)(hy:N[nn]?=some (some (nk 20 xs)))(hb:b<=nn)(hc:c<=C.length):
 Ends E out.p.bad b c ⟨i,.last nn::qa8 nn::K,u,N,C⟩ (An K b out.x out.p.i):=by
 refine Ends.step ?_
 have e0:stp E (.last nn) ⟨i,qa8 nn::K,u,N,C⟩=(if E.word (pz i) [97,102,116,101,114]=true then .ok ⟨i,.item .lstC:: .into nn::qa8 nn::K,u,N.set nn (some (nkt 20 ⟨#[97,102,116,101,114]⟩ xs)),C⟩else .ok ⟨i,qa8 nn::K,u,N,C⟩):=by
  show((⟨i,qa8 nn::K,u,N,C⟩:PM).nd nn >>= fun x=>_)=_
  rw[qfb hy];rfl
 rw[e0]
 by_cases hw:E.word (pz i) [97,102,116,101,114]=true
 ·rw[if_pos hw]at hx⊢
  obtain⟨r2,hr2,hx⟩:=Option.bind_eq_some_iff.1 hx
  obtain⟨r3,hr3,hx⟩:=Option.bind_eq_some_iff.1 hx
  obtain rfl:=Option.some.inj hx
  have hy2:(N.set nn (some (nkt 20 ⟨#[97,102,116,101,114]⟩ xs)))[nn]?=some (some (nkt 20 ⟨#[97,102,116,101,114]⟩ xs)):=qb4 _ hy
  refine .inl ⟨_,rfl,frN (FrL.set hb _),?_⟩
  have hnl:=qad hy2
  refine qch ?_
  have hw2:E.word (pz (ntE E i).2) [97,102,116,101,114]=true:=by rw[show E.word (pz (ntE E i).2) [97,102,116,101,114]=E.word (pz i) [97,102,116,101,114]from qgt E i 8 _];exact hw
  refine Ends.bind (qq6 (K:=.nots (ntE E i).1:: .into nn::qa8 nn::K) hE hw2 hr2 hr3 u _ C) (by omega) hc (fun e=>qcz e) (fun e τ hf hq=>?_)
  obtain⟨j,N1,C1,rfl,g1,g2,g3⟩:=hq
  have hy1:=hf.N.at hnl hy2
  have hne: ¬j=nn:=by omega
  obtain⟨z,hz⟩: ∃z,r3.p=pz z:=⟨_,qca e⟩
  rw[hz]
  simp only[qey]
  refine qd1 g2 (by omega) ?_
  have hx2:(N1.set j (some (r3.x.notes' (ntE E i).1)))[j]?=some (some (r3.x.notes' (ntE E i).1)):=qb4 _ g2
  have hy3:(N1.set j (some (r3.x.notes' (ntE E i).1)))[nn]?=some (some (nkt 20 ⟨#[97,102,116,101,114]⟩ xs)):=by rw[zC hne];exact hy1
  refine qar hx2 hy3 hne (by omega) hb ?_
  exact qdy (y:=nkt 20 ⟨#[97,102,116,101,114]⟩ (xs++[r3.x.notes' (ntE E i).1])) rfl _ _ C1 nn (qb7 hy3) hb
 ·rw[if_neg hw]at hx⊢
  obtain rfl:=Option.some.inj hx
  exact .inl ⟨_,rfl,frN (FrL.refl _ _),qdy rfl _ N C nn hy hb⟩
theorem qkd{m:Nat}(hE: ∀k,k<=m->HE E k){out:Out}(h:qal E m .receive (pz i)=some out)(hs:E.word (pz i) [114,101,99,101,105,118,101]=true)(u:Option Nat)(N:List (Option Nd))(C:List Chn)(hb:b<=N.length)(hc:c<=C.length):
 EndsR E out.p.bad b c ⟨i,K,u,N,C⟩ (An K b out.x out.p.i) (qck E ⟨i,K,u,N,C⟩):=by
 cases m with
 | zero=>cases h
 | succ m=>
  have h':(if(!E.word (E.take (pz i)).2 [97,102,116,101,114])=true then qal E m .clauses (E.take (pz i)).2 else some { p:=(E.take (pz i)).2 }).bind (fun r=>if E.word r.p [97,102,116,101,114]=true then(qal E m (.expr 1) (E.take (E.notes r.p).2).2).bind fun r2=>(qal E m (.arrow (nk 22 [nk 23 [r2.x]]) (nk 24 [])) r2.p).bind fun r3=>some (qai E (nkt 20 ⟨#[97,102,116,101,114]⟩ (r.xs++[r3.x.notes' (E.notes r.p).1])) r3.p)else some (qai E (nk 20 r.xs) r.p))=some out:=h
  obtain⟨r,hr,hx⟩:=Option.bind_eq_some_iff.1 h'
  have hbad:r.p.bad=true->out.p.bad=true:=fun e=>by
   rw[if_neg (by rw[show E.word r.p [97,102,116,101,114]=false from qbq e (by decide)];decide)]at hx
   obtain rfl:=Option.some.inj hx
   exact qcz e
  have e0:qck E ⟨i,K,u,N,C⟩=(msE E 8 [114,101,99,101,105,118,101] i >>= fun j=>if E.word (pz j) [97,102,116,101,114]=true then .ok ⟨j,.last N.length::qa8 N.length::K,u,N++[some (nk 20 [])],C⟩else .ok ⟨j,.row N.length [59] (.item .patC):: .last N.length::qa8 N.length::K,u,N++[some (nk 20 [])],C⟩):=rfl
  rw[e0]
  have hy:(N++[some (nk 20 [])])[N.length]?=some (some (nk 20 [])):=qam _ _
  rcases qbe E 8 [114,101,99,101,105,118,101] i (by decide)with⟨m1,m2,m3,m4,m5⟩ | ⟨m1,m2,m3⟩
  ·rw[m1]
   rw[m4]at hr
   show EndsR E out.p.bad b c _ _ (if E.word (pz (i+1)) [97,102,116,101,114]=true then _ else _)
   by_cases hw:E.word (pz (i+1)) [97,102,116,101,114]=true
   ·rw[if_neg (by rw[hw];decide)]at hr
    obtain rfl:=Option.some.inj hr
    rw[if_pos hw]
    exact .inl ⟨_,rfl,frN (FrL.app hb _),qjv (m:=m) (fun k hk=>hE k (by omega)) hx u _ C N.length hy hb hc⟩
   ·have hwf:E.word (pz (i+1)) [97,102,116,101,114]=false:=by simpa using hw
    rw[if_pos (by rw[hwf];rfl)]at hr
    rw[if_neg hw]
    refine .inl ⟨_,rfl,frN (FrL.app hb _),?_⟩
    cases m with
    | zero=>cases hr
    | succ m=>
    have hr:qal E m (.clausesL []) (pz (i+1))=some r:=hr
    refine qcr ?_
    refine Ends.bind (qdh (K:=.last N.length::qa8 N.length::K) (n:=m) (fun k hk=>hE k (by omega)) m (zF _) (nk 20 []) [] (i+1) r hr u _ C N.length N.length C.length hy (zF _) (zF _)) hb hc hbad (fun e τ hf hq=>?_)
    obtain⟨N1,C1,rfl,g1⟩:=hq
    obtain⟨z,hz⟩: ∃z,r.p=pz z:=⟨_,qca e⟩
    rw[hz]at hx⊢
    simp only[qey]
    exact qjv (m:=m+1) (fun k hk=>hE k (by omega)) hx _ N1 C1 N.length g1 hb (zG hc hf.C.1)
  ·rw[m1]
   refine .inr ⟨rfl,hbad ?_⟩
   have hb9:=m3 hs
   rw[show E.word (E.take (pz i)).2 [97,102,116,101,114]=false from qbq hb9 (by decide),if_pos (show(!false)=true from rfl)]at hr
   exact qb3 hr hb9
theorem qu7{m:Nat}(hE: ∀k,k<=m->HE E k)(hB: ∀k,k<=m->BX E k){out:Out}(h:qal E m .func (pz i)=some out)(hs:E.word (pz i) [102,117,110]=true)(u:Option Nat)(N:List (Option Nd))(C:List Chn)(hb:b<=N.length)(hc:c<=C.length):
 EndsR E out.p.bad b c ⟨i,K,u,N,C⟩ (An K b out.x out.p.i) (qfm E ⟨i,K,u,N,C⟩):=by
 cases m with
 | zero=>cases h
 | succ m=>
  have h':(if(!E.sign (E.take (pz i)).2 [40])=true then
   (let q:=E.text (E.take (pz i)).2 (nmk (E.at_ (E.take (pz i)).2).1)
    let q2:ByteArray×Ps:=if E.sign q.2 [58]then
     let p2:=(E.take q.2).2
     let q3:=E.text p2 (nmk (E.at_ p2).1)
     (q.1++⟨#[58]⟩++q3.1,q3.2)
     else q
    let p3:=(E.want q2.2 9 [47]).2
    let q4:=E.text p3 (szk (E.at_ p3).1)
    some ({ x:=nkt 16 (q2.1++⟨#[47]⟩++q4.1) [],p:=q4.2 } :Out))
   else qal E m (.funcL (nk 17 [])) (E.take (pz i)).2)=some out:=h
  have e0:qfm E ⟨i,K,u,N,C⟩=(msE E 8 [102,117,110] i >>= fun j=>if E.sign (pz j) [40]=true then(if E.pk j=j then .ok ⟨j,.row N.length [59] (.item .funC)::qa8 N.length::K,u,N++[some (nk 17 [])],C⟩else .error .die)else(txE E nmk j >>= fun r=>sgE E 9 [58] r.2 >>= fun c=>(if c.1=true then(txE E nmk c.2).map (·.2)else .ok c.2) >>= fun d=>msE E 9 [47] d >>= fun e=>txE E szk e >>= fun a=>.ok ((⟨a.2,K,u,N,C⟩:PM).got (nkt 16 (scE E (a.2-j) j) [])))):=by
   unfold qfm
   congr 1
   funext j
   split
   ·rfl
   ·congr 1
    funext r
    congr 1
    funext c
    split<;>rfl
  rw[e0]
  rcases qbe E 8 [102,117,110] i (by decide)with⟨m1,m2,m3,m4,m5⟩ | ⟨m1,m2,m3⟩
  ·rw[m1]
   rw[m4]at h'
   show EndsR E out.p.bad b c _ _ (if E.sign (pz (i+1)) [40]=true then _ else _)
   by_cases hw:E.sign (pz (i+1)) [40]=true
   ·rw[if_neg (by rw[hw];decide)]at h'
    rw[if_pos hw]
    by_cases hpk:E.pk (i+1)=i+1
    ·rw[if_pos hpk]
     refine .inl ⟨_,rfl,frN (FrL.app hb _),?_⟩
     refine qcr ?_
     exact(qhp (n:=m) (fun k hk=>hE k (by omega)) (fun k hk=>hB k (by omega)) m (zF _) (nk 17 []) (i+1) out h' (fun _=>hpk) rfl u _ C N.length b c (qam _ _) hb hc)
    ·rw[if_neg hpk]
     refine .inr ⟨rfl,?_⟩
     have htk:=qja hpk
     cases m with
     | zero=>cases h'
     | succ m=>
     have h2:(if(pz (i+1)).bad=true then some (qai E (nk 17 []) (pz (i+1)))else(qal E m (.head ⟨#[]⟩) (pz (i+1))).bind fun r=>if(!E.sign r.p [59])=true then some (qai E ((nk 17 []).add [r.x.notes' []]) r.p)else qal E m (.funcL ((nk 17 []).add [r.x.notes' []])) (E.take r.p).2)=some out:=h'
     rw[if_neg (by simp[pz])]at h2
     obtain⟨r,hr,hx⟩:=Option.bind_eq_some_iff.1 h2
     have hrb:r.p.bad=true:=by
      cases m with
      | zero=>cases hr
      | succ m=>
      have hr:(qal E m (.box (nk 23 []) [40] [41] 0) (pz (i+1))).bind (fun r=>qal E m (.rest (nkt 22 ⟨#[]⟩ [r.x])) r.p)=some r:=hr
      obtain⟨r1,hr1,hr2⟩:=Option.bind_eq_some_iff.1 hr
      refine qb3 hr2 ?_
      cases m with
      | zero=>cases hr1
      | succ m=>
      have hr1:qal E m (.boxL ((nk 23 []).brk' (E.broken (E.want (pz (i+1)) 9 [40]).2 (E.want (pz (i+1)) 9 [40]).1)) (E.notes (E.want (pz (i+1)) 9 [40]).2).1 [41] 0) (E.notes (E.want (pz (i+1)) 9 [40]).2).2=some r1:=hr1
      refine qb3 hr1 (qc1 ?_)
      unfold Env.want
      rw[if_pos (show E.is (pz (i+1)) 9 [40]=true from hw)]
      exact htk
     rw[if_pos (by rw[show E.sign r.p [59]=false from qbq hrb (by decide)];rfl)]at hx
     obtain rfl:=Option.some.inj hx
     exact qcz hrb
   ·have hwf:E.sign (pz (i+1)) [40]=false:=by simpa using hw
    rw[if_pos (by rw[hwf];rfl)]at h'
    rw[if_neg hw]
    have h':=Option.some.inj h'
    rcases qcn E nmk (i+1) (by decide)with⟨t1,t2,t3,t4,t5⟩ | ⟨t1,t2⟩
    ·rw[t1]
     rw[show E.text (i,pz (i+1)).2 (nmk (E.at_ (i,pz (i+1)).2).1)=_ from t2]at h'
     show EndsR E out.p.bad b c _ _ (sgE E 9 [58] (i+1+1) >>= fun c=>_)
     have hend: ∀(d:Nat) (t:ByteArray),i+1+1<=d->t=scE E (d- (i+1)) (i+1)->out=(let p3:=(E.want (pz d) 9 [47]).2;let q4:=E.text p3 (szk (E.at_ p3).1);({ x:=nkt 16 (t++⟨#[47]⟩++q4.1) [],p:=q4.2 } :Out))->EndsR E out.p.bad b c ⟨i,K,u,N,C⟩ (An K b out.x out.p.i) (msE E 9 [47] d >>= fun e=>txE E szk e >>= fun a=>.ok ((⟨a.2,K,u,N,C⟩:PM).got (nkt 16 (scE E (a.2- (i+1)) (i+1)) []))):=by
      rintro d t hd rfl rfl
      rcases qbe E 9 [47] d (by decide)with⟨k1,k2,k3,k4,k5⟩ | ⟨k1,k2,k3⟩
      ·rw[k1,k2]
       have htx:(E.tk d).2.1=⟨#[47]⟩:=qfi (by decide) k3 (by
        rcases qbt E 9 [47] d (by decide)with⟨s1,-⟩ | ⟨s1,s2⟩ | ⟨s1,s2,s3⟩
        ·exact qfe (by decide) s1
        ·rw[s2]at k3;cases k3
        ·rw[k4]at s3;cases s3)
       show EndsR E (E.text (pz (d+1)) (szk (E.at_ (pz (d+1))).1)).2.bad b c _ (An K b (nkt 16 (scE E (d- (i+1)) (i+1)++⟨#[47]⟩++(E.text (pz (d+1)) (szk (E.at_ (pz (d+1))).1)).1) []) (E.text (pz (d+1)) (szk (E.at_ (pz (d+1))).1)).2.i) (txE E szk (d+1) >>= fun a=>_)
       rcases qcn E szk (d+1) (by decide)with⟨v1,v2,v3,v4,v5⟩ | ⟨v1,v2⟩
       ·rw[v1,v2]
        have hsc:scE E (d- (i+1)) (i+1)++⟨#[47]⟩++(E.tk (d+1)).2.1=scE E (d+1+1- (i+1)) (i+1):=by
         rw[show d+1+1- (i+1)=(d- (i+1))+(1+1)by omega,qcq,qcq,qbw,qbw,show i+1+(d- (i+1))=d by omega,htx,ByteArray.append_assoc]
        rw[hsc]
        exact .inl ⟨_,rfl,frN (FrL.app hb _),Ends.here rfl ⟨_,_,_,rfl,hb,qam _ _,rfl⟩⟩
       ·rw[v1];exact .inr ⟨rfl,v2⟩
      ·rw[k1]
       exact .inr ⟨rfl,qc7 _ k2⟩
     rcases qbt E 9 [58] (i+1+1) (by decide)with⟨s1,s2,s3,s4,s5⟩ | ⟨s1,s2⟩ | ⟨s1,s2,s3⟩
     ·rw[s1]
      have htx:(E.tk (i+1+1)).2.1=⟨#[58]⟩:=qfi (by decide) s2 (qfe (by decide) s1)
      simp only[show E.sign (pz (i+1+1)) [58]=true from s2,s3,if_true]at h'
      show EndsR E out.p.bad b c _ _ ((txE E nmk (i+1+1+1)).map (·.2) >>= fun d=>_)
      rcases qcn E nmk (i+1+1+1) (by decide)with⟨v1,v2,v3,v4,v5⟩ | ⟨v1,v2⟩
      ·rw[v1]
       simp only[v2]at h'
       refine hend (i+1+1+1+1) _ (by omega) ?_ h'.symm
       rw[show i+1+1+1+1- (i+1)=1+(1+1)by omega,qcq,qcq,qbw,qbw,qbw,htx,ByteArray.append_assoc]
      ·rw[v1]
       refine .inr ⟨rfl,?_⟩
       rw[<-h']
       exact qc7 _ (qbl v2)
     ·rw[s1]
      simp only[show E.sign (pz (i+1+1)) [58]=false from s2,zA,if_false]at h'
      refine hend (i+1+1) _ (zF _) ?_ h'.symm
      rw[show i+1+1- (i+1)=1 by omega,qbw]
     ·rw[s1]
      refine .inr ⟨rfl,?_⟩
      simp only[show E.sign (pz (i+1+1)) [58]=true from s2,if_true]at h'
      rw[<-h']
      exact qc7 _ (qbl (qc7 _ s3))
    ·rw[t1]
     refine .inr ⟨rfl,?_⟩
     have t2':(E.text (i,pz (i+1)).2 (nmk (E.at_ (i,pz (i+1)).2).1)).2.bad=true:=t2
     simp only[show E.sign (E.text (i,pz (i+1)).2 (nmk (E.at_ (i,pz (i+1)).2).1)).2 [58]=false from qbq t2' (by decide),zA,if_false]at h'
     rw[<-h']
     exact qc7 _ (qbl t2')
  ·rw[m1]
   refine .inr ⟨rfl,?_⟩
   have hb9:=m3 hs
   rw[if_pos (by rw[show E.sign (E.take (pz i)).2 [40]=false from qbq hb9 (by decide)];rfl)]at h'
   have h':=Option.some.inj h'
   have t2':(E.text (E.take (pz i)).2 (nmk (E.at_ (E.take (pz i)).2).1)).2.bad=true:=qc7 _ hb9
   simp only[show E.sign (E.text (E.take (pz i)).2 (nmk (E.at_ (E.take (pz i)).2).1)).2 [58]=false from qbq t2' (by decide),zA,if_false]at h'
   rw[<-h']
   exact qc7 _ (qbl t2')
end
end Go.Proofs.YtdhadeeajgoedaaGreat
