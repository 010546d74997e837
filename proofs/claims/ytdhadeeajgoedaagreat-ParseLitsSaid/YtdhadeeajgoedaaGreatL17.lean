import Derived.Test.YtdhadeeajgoedaaGreatL15
import Derived.Test.YtdhadeeajgoedaaGreatL16
set_option maxRecDepth 100000
set_option maxHeartbeats 4000000
set_option linter.all false
open List renaming getElem?_set_ne→zA,length_set→zB
open Nat renaming le_refl→zC,le_trans→zD
namespace Go.Proofs.YtdhadeeajgoedaaGreat
open Go.RowKit Go.PlainAid
section
variable{E:Env}{b c:Nat}{K:List Stp}{i:Nat}
theorem qcq(E:Env): ∀n m a,scE E (n+m) a=scE E n a++scE E m (a+n)
 | 0,m,a=>by
  rw[Nat.zero_add,Nat.add_zero]
  show _=(⟨#[]⟩:ByteArray)++_
  exact(ByteArray.empty_append).symm
 | n+1,m,a=>by
  rw[show n+1+m=(n+m)+1 by omega]
  show(E.tk a).2.1++scE E (n+m) (a+1)=((E.tk a).2.1++scE E n (a+1))++scE E m (a+(n+1))
  rw[qcq E n m (a+1),ByteArray.append_assoc,show a+1+n=a+(n+1)by omega]
theorem qbw(E:Env)(a:Nat):scE E 1 a=(E.tk a).2.1:=by
 show(E.tk a).2.1++(⟨#[]⟩:ByteArray)=_
 exact ByteArray.append_empty
theorem qlr(E:Env): ∀(g:Nat) (s:ByteArray) (p:Ps),p.bad=true->(qcg E g s p).2.bad=true
 | 0,_,_,_=>rfl
 | g+1,s,p,h=>by
  unfold qcg
  rw[show E.sign p [45]=false from qbq h (by decide)]
  exact h
theorem qfi{k:Int}{s:Bs}(hk:k≠0)(h:E.is (pz i) k s=true)(h2:E.pk i=i):(E.tk i).2.1=⟨s.toArray⟩:=by
 have h3:=qtk (i:=i) (E:=E) (by rw[(qfr h).1];exact hk)
 have h4:=(qfr h).2
 rw[qeb h3 rfl]at h4
 have h5:(E.tk (E.pk i)).2.1.toList=s:=h4
 rw[h2]at h5
 exact(ba_of h5).symm
theorem qfe{k:Int}{s:Bs}(hk:k≠0)(h:sgE E k s i=.ok (true,i+1)):E.pk i=i:=by
 unfold sgE at h
 split at h
 ·unfold tkE at h
  split at h
  ·assumption
  ·cases h
 ·cases h
theorem qxf(E:Env): ∀(f g i:Nat) (s:ByteArray),i<=E.to->E.to<i+f->E.to<i+1+g->(∃d,tyL E f i=.ok d/\i<=d/\qcg E g (s++(E.text (pz i) ((E.at_ (pz i)).1==1)).1) (E.text (pz i) ((E.at_ (pz i)).1==1)).2=(s++scE E (d-i) i,pz d))\/(tyL E f i=.error .die/\(qcg E g (s++(E.text (pz i) ((E.at_ (pz i)).1==1)).1) (E.text (pz i) ((E.at_ (pz i)).1==1)).2).2.bad=true)
 | 0,g,i,s,hi,hf,hg=>by omega
 | f+1,g,i,s,hi,hf,hg=>by
  have e0:tyL E (f+1) i=(txE E (· ==1) i >>= fun r=>sgE E 9 [45] r.2 >>= fun q=>if q.1=true then tyL E f q.2 else .ok q.2):=rfl
  rw[e0]
  rcases qcn E (· ==1) i (by decide)with⟨t1,t2,t3,t4,t5⟩ | ⟨t1,t2⟩
  ·rw[t1,show E.text (pz i) ((E.at_ (pz i)).1==1)=_ from t2]
   obtain⟨g,rfl⟩: ∃h,g=h+1:=⟨g-1,by omega⟩
   show(∃d,(sgE E 9 [45] (i+1) >>= fun q=>if q.1=true then tyL E f q.2 else .ok q.2)=.ok d/\_/\_)\/((sgE E 9 [45] (i+1) >>= fun q=>if q.1=true then tyL E f q.2 else .ok q.2)=.error .die/\_)
   have e1:qcg E (g+1) (s++(E.tk i).2.1) (pz (i+1))=(if E.sign (pz (i+1)) [45]then qcg E g (s++(E.tk i).2.1++⟨#[45]⟩++(E.text (E.take (pz (i+1))).2 ((E.at_ (E.take (pz (i+1))).2).1==1)).1) (E.text (E.take (pz (i+1))).2 ((E.at_ (E.take (pz (i+1))).2).1==1)).2 else(s++(E.tk i).2.1,pz (i+1))):=rfl
   simp only[e1]
   rcases qbt E 9 [45] (i+1) (by decide)with⟨m1,m2,m3,m4,m5⟩ | ⟨m1,m2⟩ | ⟨m1,m2,m3⟩
   ·rw[m1,show E.sign (pz (i+1)) [45]=true from m2,if_pos rfl,m3]
    show(∃d,tyL E f (i+1+1)=.ok d/\_/\_)\/(tyL E f (i+1+1)=.error .die/\_)
    have htx:(E.tk (i+1)).2.1=⟨#[45]⟩:=qfi (by decide) m2 (qfe (by decide) m1)
    rcases qxf E f g (i+1+1) (s++(E.tk i).2.1++⟨#[45]⟩) (by omega) (by omega) (by omega)with⟨d,d1,d2,d3⟩ | ⟨d1,d2⟩
    ·refine .inl ⟨d,d1,by omega,?_⟩
     rw[d3]
     have:scE E (d-i) i=(E.tk i).2.1++(⟨#[45]⟩++scE E (d- (i+1+1)) (i+1+1)):=by
      rw[show d-i=1+(1+(d- (i+1+1)))by omega,qcq,qbw,qcq,qbw,htx]
     rw[this,ByteArray.append_assoc,ByteArray.append_assoc]
    ·exact .inr ⟨d1,d2⟩
   ·rw[m1,show E.sign (pz (i+1)) [45]=false from m2]
    refine .inl ⟨i+1,rfl,by omega,?_⟩
    rw[show i+1-i=1 by omega,qbw];rfl
   ·rw[m1,show E.sign (pz (i+1)) [45]=true from m2,if_pos rfl]
    exact .inr ⟨rfl,qlr E g _ _ (qc7 _ m3)⟩
  ·rw[t1]
   exact .inr ⟨rfl,qlr E g _ _ t2⟩
end
section
variable{E:Env}{b c:Nat}{K:List Stp}{i:Nat}
theorem qmn(i:Nat)(u:Option Nat)(N:List (Option Nd))(C:List Chn)(hb:b<=N.length):EndsR E (E.text (pz i) (ltk (E.at_ (pz i)).1)).2.bad b c ⟨i,K,u,N,C⟩ (An K b (nkt 1 (E.text (pz i) (ltk (E.at_ (pz i)).1)).1 []) (E.text (pz i) (ltk (E.at_ (pz i)).1)).2.i) (qjw E ⟨i,K,u,N,C⟩):=by
 have e0:qjw E ⟨i,K,u,N,C⟩=(txE E ltk i >>= fun r=>.ok (((⟨i,K,u,N,C⟩:PM).at_ r.2).got (nkt 1 r.1 []))):=rfl
 rw[e0]
 rcases qcn E ltk i (by decide)with⟨t1,t2,-,-,-⟩ | ⟨t1,t2⟩
 ·rw[t1,t2]
  exact .inl ⟨_,rfl,frN (FrL.app hb _),Ends.here rfl ⟨_,_,_,rfl,hb,qam _ _,rfl⟩⟩
 ·rw[t1];exact .inr ⟨rfl,t2⟩
theorem qej{m:Nat}(hE:HE E m){r:Out}(h:E.sign (pz i) [40]=true)(hr:qal E m (.expr 0) (E.take (pz i)).2=some r)(u:Option Nat)(N:List (Option Nd))(C:List Chn)(hb:b<=N.length)(hc:c<=C.length):
 EndsR E (E.want r.p 9 [41]).2.bad b c ⟨i,K,u,N,C⟩ (An K b r.x (E.want r.p 9 [41]).2.i) (qbg E ⟨i,K,u,N,C⟩):=by
 have e0:qbg E ⟨i,K,u,N,C⟩=(msE E 9 [40] i >>= fun j=>.ok (((⟨i,K,u,N,C⟩:PM).at_ j).plan [.expr 0,.want 9 [41]])):=rfl
 rw[e0]
 rcases qbe E 9 [40] i (by decide)with⟨m1,m2,m3,m4,m5⟩ | ⟨m1,m2,m3⟩
 ·rw[m1]
  rw[m4]at hr
  refine .inl ⟨_,rfl,frN (FrL.refl _ _),?_⟩
  refine Ends.bind (hE _ _ _ hr (.want 9 [41]::K) u N C) hb hc (fun e=>qbl e) (fun e τ hf hq=>?_)
  obtain⟨j,N1,C1,rfl,h1,h2,h3⟩:=hq
  obtain⟨q,hq⟩: ∃q,r.p=pz q:=⟨_,qca e⟩
  rw[hq]
  simp only[qey]
  refine qgc (by decide) id (fun hw=>?_)
  rw[hw]
  exact Ends.here rfl ⟨_,_,_,rfl,by omega,h2,h3⟩
 ·rw[m1]
  exact .inr ⟨rfl,qbl (qb3 hr (m3 h))⟩
def ItR(kd lv:Int)(one:Stp):Prop:=(one=.expr lv/\kd≠6/\kd≠8/\kd≠9)\/(one=.segm/\kd=6)\/(one=.pair/\(kd=8\/kd=9)/\lv=1)
def Oth(N:List (Option Nd))(nn:Nat)(τ:PM):Prop:= ∀n,n<N.length->n≠nn->τ.N[n]?=N[n]?
def BX(E:Env)(m:Nat):Prop:= ∀y o cl lv i out one,qal E m (.box y o cl lv) (pz i)=some out->ItR y.kd lv one->cl=qfc o->qhn cl->y.nof=[]-> ∀K u (N:List (Option Nd)) (C:List Chn) n b c,N[n]?=some (some y)->b<=n->c<=C.length->
 Ends E out.p.bad b c ⟨i,.box n o one::K,u,N,C⟩ (fun τ=>At K n out.x out.p.i τ/\out.x.nof=[]/\Oth N n τ)
theorem qw6{m:Nat}(hE:HE E m)(hB:BX E m){a:Out}(ha:(if E.sign (pz i) [40]=true then(qal E m (.expr 0) (E.take (pz i)).2).bind fun r=>some ({ x:=r.x,p:=(E.want r.p 9 [41]).2 } :Out)else if E.sign (pz i) [60,60]=true then qal E m (.box (nk 6 []) [60,60] [62,62] 0) (pz i)else some { x:=nkt 1 (E.text (pz i) (ltk (E.at_ (pz i)).1)).1 [],p:=(E.text (pz i) (ltk (E.at_ (pz i)).1)).2 })=some a)(u:Option Nat)(N:List (Option Nd))(C:List Chn):
 Ends E a.p.bad N.length C.length ⟨i,.val::K,u,N,C⟩ (An K N.length a.x a.p.i):=by
 refine Ends.step ?_
 have e0:stp E .val ⟨i,K,u,N,C⟩=(if E.sign (pz i) [40]then qbg E ⟨i,K,u,N,C⟩else if E.sign (pz i) [60,60]then .ok (qtd ⟨i,K,u,N,C⟩)else qjw E ⟨i,K,u,N,C⟩):=rfl
 rw[e0]
 by_cases h1:E.sign (pz i) [40]=true
 ·rw[if_pos h1]at ha⊢
  obtain⟨r,hr,hx⟩:=Option.bind_eq_some_iff.1 ha
  obtain rfl:=Option.some.inj hx
  exact(qej hE h1 hr _ _ _ (zC _) (zC _)).re
 ·rw[if_neg h1]at ha⊢
  by_cases h2:E.sign (pz i) [60,60]=true
  ·rw[if_pos h2]at ha⊢
   refine .inl ⟨_,rfl,frN (FrL.app (zC _) [some (nk 6 [])]),?_⟩
   refine(hB (nk 6 []) _ _ _ _ _ .segm ha (.inr (.inl ⟨rfl,rfl⟩)) rfl (.inr (.inr (.inr rfl))) rfl K u (N++[some (nk 6 [])]) C N.length N.length C.length (qam _ _) (zC _) (zC _)).mono (zC _) (zC _) (fun τ _ _ hq=>?_)
   obtain⟨⟨N1,C1,rfl,g1⟩,g2,-⟩:=hq
   exact⟨_,_,_,rfl,zC _,g1,g2⟩
  ·rw[if_neg h2]at ha⊢
   obtain rfl:=Option.some.inj ha
   exact(qmn _ _ _ _ (zC _)).re
def szX(E:Env)(a:Out):Out:=
 let b:ByteArray×Ps:=if E.sign a.p [58]then
     let p1:=(E.take a.p).2
     let q:=E.text p1 (szk (E.at_ p1).1)
     (⟨#[58]⟩++q.1,q.2)
  else(⟨#[]⟩,a.p)
 let c:ByteArray×Ps:=if E.sign b.2 [47]then
     let p1:=(E.take b.2).2
     let q:=E.text p1 ((E.at_ p1).1==1)
     qcg E (E.to+2) (b.1++⟨#[47]⟩++q.1) q.2
  else b
 if c.1.toList==[]then { x:=a.x,p:=c.2 } else { x:=nkt 7 c.1 [a.x],p:=c.2 }
end
section
variable{E:Env}{b c:Nat}{K:List Stp}{i:Nat}
theorem qsy{t:ByteArray}(h:t.size≠0):t.toList≠[]:=fun e=>by
 rw[ByteArray.toList_eq]at e
 apply h
 show t.data.size=0
 rw[<-Array.length_toList,e];rfl
theorem sc_ne{d:Nat}(hd:i<d)(h:(E.tk i).2.1.size≠0):(scE E (d-i) i).toList≠[]:=by
 refine qsy ?_
 rw[show d-i=1+(d-i-1)by omega,qcq,qbw,ByteArray.size_append]
 omega
def szY(E:Env)(x:Nd)(b:ByteArray×Ps):Out:=
 let c:ByteArray×Ps:=if E.sign b.2 [47]then
     let p1:=(E.take b.2).2
     let q:=E.text p1 ((E.at_ p1).1==1)
     qcg E (E.to+2) (b.1++⟨#[47]⟩++q.1) q.2
  else b
 if c.1.toList==[]then { x:=x,p:=c.2 } else { x:=nkt 7 c.1 [x],p:=c.2 }
theorem qls{x:Nd}{q:ByteArray×Ps}(h:q.2.bad=true):(szY E x q).p.bad=true:=by
 unfold szY
 rw[show E.sign q.2 [47]=false from qbq h (by decide)]
 show(if(q.1.toList==[])=true then({ x:=x,p:=q.2 } :Out)else { x:=nkt 7 q.1 [x],p:=q.2 }).p.bad=true
 split<;>exact h
theorem qn7{x:Nd}{j d0:Nat}(hd:i<=d0)(hi:d0<=E.to)(hne:i<d0->(E.tk i).2.1.size≠0)(u:Option Nat)(N:List (Option Nd))(C:List Chn)(hx:N[j]?=some (some x))(hno:x.nof=[])(hb:b<=j):
 EndsR E (szY E x (scE E (d0-i) i,pz d0)).p.bad b c ⟨i,K,some j,N,C⟩ (An K b (szY E x (scE E (d0-i) i,pz d0)).x (szY E x (scE E (d0-i) i,pz d0)).p.i)
  (sgE E 9 [47] d0 >>= fun c=>(if c.1=true then tyL E (E.to+2) c.2 else .ok c.2) >>= fun d=>if i<d then((⟨i,K,some j,N,C⟩:PM).cur >>= fun x=>.ok ((((⟨i,K,some j,N,C⟩:PM).mv x.1).at_ d).got (nkt 7 (scE E (d-i) i) [x.2])))else .ok ⟨i,K,some j,N,C⟩):=by
 have hxl:=qad hx
 have hend: ∀d,i<=d->(i<d->(E.tk i).2.1.size≠0)-> ∀o:Out,o=(if((scE E (d-i) i).toList==[])=true then({ x:=x,p:=pz d } :Out)else { x:=nkt 7 (scE E (d-i) i) [x],p:=pz d })->EndsR E o.p.bad b c ⟨i,K,some j,N,C⟩ (An K b o.x o.p.i) (if i<d then((⟨i,K,some j,N,C⟩:PM).cur >>= fun x=>.ok ((((⟨i,K,some j,N,C⟩:PM).mv x.1).at_ d).got (nkt 7 (scE E (d-i) i) [x.2])))else .ok ⟨i,K,some j,N,C⟩):=by
  intro d hid hn o ho
  by_cases hlt:i<d
  ·rw[if_pos hlt,qdr hx]
   rw[if_neg (by simpa using sc_ne hlt (hn hlt))]at ho
   subst ho
   refine .inl ⟨_,rfl,frN ((FrL.set hb _).trans (FrL.app (by rw[zB];omega) _)),Ends.here rfl ⟨_,_,_,rfl,?_,qam _ _,rfl⟩⟩
   show b<=(N.set j none).length
   rw[zB];omega
  ·obtain rfl:d=i:=by omega
   rw[if_neg hlt]
   rw[if_pos (by rw[Nat.sub_self];show((⟨#[]⟩:ByteArray).toList==[])=true;rw[qi5];rfl)]at ho
   subst ho
   exact .inl ⟨_,rfl,frN (FrL.refl _ _),Ends.here rfl ⟨_,_,_,rfl,hb,hx,hno⟩⟩
 rcases qbt E 9 [47] d0 (by decide)with⟨m1,m2,m3,m4,m5⟩ | ⟨m1,m2⟩ | ⟨m1,m2,m3⟩
 ·rw[m1]
  have htx:(E.tk d0).2.1=⟨#[47]⟩:=qfi (by decide) m2 (qfe (by decide) m1)
  have e1:szY E x (scE E (d0-i) i,pz d0)=(let c:=qcg E (E.to+2) (scE E (d0-i) i++⟨#[47]⟩++(E.text (pz (d0+1)) ((E.at_ (pz (d0+1))).1==1)).1) (E.text (pz (d0+1)) ((E.at_ (pz (d0+1))).1==1)).2;if(c.1.toList==[])=true then { x:=x,p:=c.2 } else { x:=nkt 7 c.1 [x],p:=c.2 }):=by
   unfold szY
   rw[show E.sign (scE E (d0-i) i,pz d0).2 [47]=true from m2,if_pos rfl]
   show(let c:=qcg E (E.to+2) (scE E (d0-i) i++⟨#[47]⟩++(E.text (E.take (pz d0)).2 ((E.at_ (E.take (pz d0)).2).1==1)).1) (E.text (E.take (pz d0)).2 ((E.at_ (E.take (pz d0)).2).1==1)).2;_)=_
   rw[m3]
  show EndsR E _ b c _ _ (tyL E (E.to+2) (d0+1) >>= fun d=>_)
  rw[e1]
  rcases qxf E (E.to+2) (E.to+2) (d0+1) (scE E (d0-i) i++⟨#[47]⟩) (by omega) (by omega) (by omega)with⟨d,t1,t2,t3⟩ | ⟨t1,t2⟩
  ·rw[t1,t3]
   have hsc:scE E (d0-i) i++⟨#[47]⟩++scE E (d- (d0+1)) (d0+1)=scE E (d-i) i:=by
    rw[show d-i=(d0-i)+(1+(d- (d0+1)))by omega,qcq,qcq,qbw,show i+(d0-i)=d0 by omega,htx,ByteArray.append_assoc]
   rw[hsc]
   refine hend d (by omega) (fun _=>?_) _ rfl
   by_cases h9:i<d0
   ·exact hne h9
   ·obtain rfl:d0=i:=by omega
    rw[htx];decide
  ·rw[t1]
   refine .inr ⟨rfl,?_⟩
   show(if _ then({ x:=x,p:=_ } :Out)else { x:=_,p:=_ }).p.bad=true
   split<;>exact t2
 ·rw[m1]
  have e1:szY E x (scE E (d0-i) i,pz d0)=(if((scE E (d0-i) i).toList==[])=true then { x:=x,p:=pz d0 } else { x:=nkt 7 (scE E (d0-i) i) [x],p:=pz d0 }):=by
   unfold szY
   rw[show E.sign (scE E (d0-i) i,pz d0).2 [47]=false from m2];rfl
  rw[e1]
  exact hend d0 hd hne _ rfl
 ·rw[m1]
  refine .inr ⟨rfl,?_⟩
  unfold szY
  rw[show E.sign (scE E (d0-i) i,pz d0).2 [47]=true from m2,if_pos rfl]
  show(if _ then({ x:=x,p:=_ } :Out)else { x:=_,p:=_ }).p.bad=true
  split<;>exact qlr E _ _ _ (qc7 _ m3)
theorem qo4{x:Nd}{j:Nat}{a:Out}(ha:a.p=pz i)(hax:a.x=x)(hi:i<=E.to)(N:List (Option Nd))(C:List Chn)(hx:N[j]?=some (some x))(hno:x.nof=[])(hb:b<=j):
 Ends E (szX E a).p.bad b c ⟨i,.sized::K,some j,N,C⟩ (An K b (szX E a).x (szX E a).p.i):=by
 refine Ends.step ?_
 have e0:stp E .sized ⟨i,K,some j,N,C⟩=(sgE E 9 [58] i >>= fun a=>(if a.1=true then(txE E szk a.2).map (·.2)else .ok a.2) >>= fun b=>sgE E 9 [47] b >>= fun c=>(if c.1=true then tyL E (E.to+2) c.2 else .ok c.2) >>= fun d=>if i<d then((⟨i,K,some j,N,C⟩:PM).cur >>= fun x=>.ok ((((⟨i,K,some j,N,C⟩:PM).mv x.1).at_ d).got (nkt 7 (scE E (d-i) i) [x.2])))else .ok ⟨i,K,some j,N,C⟩):=by
  simp only[stp]
  congr 1
  funext a
  have hb: ∀b,(sgE E 9 [47] b >>= fun c=>if c.1=true then(tyL E (E.to+2) c.2 >>= fun d=>if i<d then((⟨i,K,some j,N,C⟩:PM).cur >>= fun x=>.ok ((((⟨i,K,some j,N,C⟩:PM).mv x.1).at_ d).got (nkt 7 (scE E (d-i) i) [x.2])))else .ok ⟨i,K,some j,N,C⟩)else(if i<c.2 then((⟨i,K,some j,N,C⟩:PM).cur >>= fun x=>.ok ((((⟨i,K,some j,N,C⟩:PM).mv x.1).at_ c.2).got (nkt 7 (scE E (c.2-i) i) [x.2])))else .ok ⟨i,K,some j,N,C⟩))=(sgE E 9 [47] b >>= fun c=>(if c.1=true then tyL E (E.to+2) c.2 else .ok c.2) >>= fun d=>if i<d then((⟨i,K,some j,N,C⟩:PM).cur >>= fun x=>.ok ((((⟨i,K,some j,N,C⟩:PM).mv x.1).at_ d).got (nkt 7 (scE E (d-i) i) [x.2])))else .ok ⟨i,K,some j,N,C⟩):=fun b=>by
   congr 1
   funext c
   split<;>rfl
  split
  ·congr 1
   funext b
   exact hb b
  ·exact hb _
 have e1:szX E a=szY E x (if E.sign (pz i) [58]=true then(⟨#[58]⟩++(E.text (E.take (pz i)).2 (szk (E.at_ (E.take (pz i)).2).1)).1,(E.text (E.take (pz i)).2 (szk (E.at_ (E.take (pz i)).2).1)).2)else(⟨#[]⟩,pz i)):=by
  unfold szX szY
  rw[ha,hax]
 rw[e0,e1]
 rcases qbt E 9 [58] i (by decide)with⟨m1,m2,m3,m4,m5⟩ | ⟨m1,m2⟩ | ⟨m1,m2,m3⟩
 ·rw[m1,if_pos (show E.sign (pz i) [58]=true from m2),m3]
  have htx:(E.tk i).2.1=⟨#[58]⟩:=qfi (by decide) m2 (qfe (by decide) m1)
  show EndsR E _ b c _ _ ((txE E szk (i+1)).map (·.2) >>= fun b=>_)
  rcases qcn E szk (i+1) (by decide)with⟨t1,t2,t3,t4,t5⟩ | ⟨t1,t2⟩
  ·rw[t1]
   show EndsR E (szY E x (⟨#[58]⟩++(E.text (pz (i+1)) (szk (E.at_ (pz (i+1))).1)).1,(E.text (pz (i+1)) (szk (E.at_ (pz (i+1))).1)).2)).p.bad b c _ (An K b (szY E x (⟨#[58]⟩++(E.text (pz (i+1)) (szk (E.at_ (pz (i+1))).1)).1,(E.text (pz (i+1)) (szk (E.at_ (pz (i+1))).1)).2)).x (szY E x (⟨#[58]⟩++(E.text (pz (i+1)) (szk (E.at_ (pz (i+1))).1)).1,(E.text (pz (i+1)) (szk (E.at_ (pz (i+1))).1)).2)).p.i) _
   rw[t2]
   have hsc:(⟨#[58]⟩:ByteArray)++(E.tk (i+1)).2.1=scE E (i+1+1-i) i:=by
    rw[show i+1+1-i=1+1 by omega,qcq,qbw,qbw,htx]
   rw[hsc]
   exact(qn7 (d0:=i+1+1) (by omega) (by omega) (fun _=>by rw[htx];decide) none N C hx hno hb).re
  ·rw[t1]
   exact .inr ⟨rfl,qls t2⟩
 ·rw[m1,if_neg (show¬E.sign (pz i) [58]=true by rw[show E.sign (pz i) [58]=false from m2];decide)]
  have hsc:(⟨#[]⟩:ByteArray)=scE E (i-i) i:=by rw[Nat.sub_self];rfl
  show EndsR E (szY E x (⟨#[]⟩,pz i)).p.bad b c _ (An K b (szY E x (⟨#[]⟩,pz i)).x (szY E x (⟨#[]⟩,pz i)).p.i) _
  rw[hsc]
  exact(qn7 (d0:=i) (zC _) hi (fun h=>absurd h (Nat.lt_irrefl _)) none N C hx hno hb).re
 ·rw[m1,if_pos (show E.sign (pz i) [58]=true from m2)]
  exact .inr ⟨rfl,qls (qc7 _ m3)⟩
end
theorem X_in{E:Env}{n:Nat}{c:Cmd}{p:Ps}{o:Out}(h:qal E n c p=some o)(hp:p.i<=E.to)(hb:o.p.bad=false):o.p.i<=E.to:=by
 have h1:=qx5 E n c p
 rw[qfz n c p o h]at h1
 unfold plE at h1
 rw[if_pos (show p.bad=true\/p.i<=E.to from .inr hp)]at h1
 split at h1
 ·rename_i h2
  rcases h2 with h2 | h2
  ·rw[hb]at h2;cases h2
  ·exact h2
 ·omega
section
variable{E:Env}{b c:Nat}{K:List Stp}{i:Nat}
theorem qk7{E:Env}{p q:Ps}(h:plE E q<=plE E p)(hp:p.i<=E.to)(hb:q.bad=false):q.i<=E.to:=by
 unfold plE at h
 rw[if_pos (show p.bad=true\/p.i<=E.to from .inr hp)]at h
 split at h
 ·rename_i h2
  rcases h2 with h2 | h2
  ·rw[hb]at h2;cases h2
  ·exact h2
 ·omega
theorem qvo{m:Nat}(hE:HE E m)(hB:BX E m){o:Out}(ho:qb6 E (qal E m) .segment (pz i)=some o)(hi:i<=E.to)(u:Option Nat)(N:List (Option Nd))(C:List Chn):
 Ends E o.p.bad N.length C.length ⟨i,.segm::K,u,N,C⟩ (An K N.length o.x o.p.i):=by
 have e0:qb6 E (qal E m) .segment (pz i)=(if E.sign (pz i) [40]=true then(qal E m (.expr 0) (E.take (pz i)).2).bind fun r=>some ({ x:=r.x,p:=(E.want r.p 9 [41]).2 } :Out)else if E.sign (pz i) [60,60]=true then qal E m (.box (nk 6 []) [60,60] [62,62] 0) (pz i)else some { x:=nkt 1 (E.text (pz i) (ltk (E.at_ (pz i)).1)).1 [],p:=(E.text (pz i) (ltk (E.at_ (pz i)).1)).2 }).bind fun a=>some (szX E a):=rfl
 rw[e0]at ho
 obtain⟨a,ha,hx⟩:=Option.bind_eq_some_iff.1 ho
 obtain rfl:=Option.some.inj hx
 refine Ends.step (.inl ⟨_,rfl,frN (FrL.refl _ _),?_⟩)
 refine Ends.bind (qw6 (K:=.sized::K) hE hB ha u N C) (zC _) (zC _) (fun e=>?_) (fun e τ hf hq=>?_)
 ·have e1:szX E a=szY E a.x (if E.sign a.p [58]=true then(⟨#[58]⟩++(E.text (E.take a.p).2 (szk (E.at_ (E.take a.p).2).1)).1,(E.text (E.take a.p).2 (szk (E.at_ (E.take a.p).2).1)).2)else(⟨#[]⟩,a.p)):=rfl
  rw[e1,show E.sign a.p [58]=false from qbq e (by decide)]
  exact qls e
 ·obtain⟨j,N1,C1,rfl,h1,h2,h3⟩:=hq
  obtain⟨q,hq⟩: ∃q,a.p=pz q:=⟨_,qca e⟩
  have hin:a.p.i<=E.to:=by
   by_cases s1:E.sign (pz i) [40]=true
   ·rw[if_pos s1]at ha
    obtain⟨r,hr,hx⟩:=Option.bind_eq_some_iff.1 ha
    obtain rfl:=Option.some.inj hx
    have hrb:r.p.bad=false:=by
     cases hb:r.p.bad with
     | false=>rfl
     | true=>
      have:(E.want r.p 9 [41]).2.bad=true:=qbl hb
      rw[show(E.want r.p 9 [41]).2.bad=false from e]at this;cases this
    have htb:(E.take (pz i)).2.bad=false:=by
     cases hb:(E.take (pz i)).2.bad with
     | false=>rfl
     | true=>rw[qb3 hr hb]at hrb;cases hrb
    exact qk7 (qb0 E _ _ _) (X_in hr (qk7 (qao E _) hi htb) hrb) e
   ·rw[if_neg s1]at ha
    by_cases s2:E.sign (pz i) [60,60]=true
    ·rw[if_pos s2]at ha
     exact X_in ha hi e
    ·rw[if_neg s2]at ha
     obtain rfl:=Option.some.inj ha
     exact qk7 (qaz E _ _) hi e
  rw[hq]at hin⊢
  simp only[qey]at hin⊢
  exact qo4 hq rfl hin N1 C1 h2 h3 h1
theorem qpr{m:Nat}(hE: ∀k,k<=m->HE E k)(hB: ∀k,k<=m->BX E k){kd lv:Int}{one:Stp}(hr:ItR kd lv one){o:Out}(ho:qal E m (.item kd lv) (pz i)=some o)(hi:i<=E.to)(u:Option Nat)(N:List (Option Nd))(C:List Chn):
 Ends E o.p.bad N.length C.length ⟨i,one::K,u,N,C⟩ (An K N.length o.x o.p.i):=by
 cases m with
 | zero=>cases ho
 | succ m=>
  have h':(if(kd==6)=true then qal E m .segment (pz i)else(qal E m (.expr lv) (pz i)).bind fun r=>if((kd==8||kd==9)&&(E.sign r.p [61,62]||E.sign r.p [58,61]))=true then(qal E m (.expr lv) (E.take r.p).2).bind fun r2=>some ({ x:=nkt 14 (E.at_ r.p).2.1 [r.x,r2.x],p:=r2.p } :Out)else some r)=some o:=ho
  rcases hr with⟨rfl,k6,k8,k9⟩ | ⟨rfl,rfl⟩ | ⟨rfl,k89,rfl⟩
  ·rw[if_neg (by simpa using k6)]at h'
   obtain⟨r,hr,hx⟩:=Option.bind_eq_some_iff.1 h'
   rw[if_neg (by simp[k8,k9])]at hx
   obtain rfl:=Option.some.inj hx
   exact hE m (by omega) _ _ _ hr _ _ _ _
  ·rw[if_pos (by decide)]at h'
   cases m with
   | zero=>cases h'
   | succ m=>exact qvo (hE m (by omega)) (hB m (by omega)) h' hi u N C
  ·rw[if_neg (by rcases k89 with rfl | rfl<;>decide)]at h'
   obtain⟨r,hr,hx⟩:=Option.bind_eq_some_iff.1 h'
   have hk:(kd==8||kd==9)=true:=by rcases k89 with rfl | rfl<;>decide
   rw[hk,Bool.true_and]at hx
   refine Ends.step (.inl ⟨_,rfl,frN (FrL.refl _ _),?_⟩)
   refine qk5 (hE m (by omega)) (hE m (by omega)) hr (fun hs=>?_) (fun h1 h2=>?_) u N C
   ·rw[if_pos (by rcases hs with hs | hs<;>simp[hs])]at hx
    obtain⟨r2,hr2,hx⟩:=Option.bind_eq_some_iff.1 hx
    exact⟨r2,hr2,(Option.some.inj hx).symm⟩
   ·rw[if_neg (by simp[h1,h2])]at hx
    exact(Option.some.inj hx).symm
theorem qpq{t:Bs}(ht:qhn t)(h:E.sign (pz i) t=true){kd lv:Int}{one:Stp}(hr:ItR kd lv one)(u:Option Nat)(N:List (Option Nd))(C:List Chn):qtg E ⟨i,one::K,u,N,C⟩:=by
 rcases hr with⟨rfl,-⟩ | ⟨rfl,-⟩ | ⟨rfl,-⟩
 ·exact qge ht h _ _ _ _
 ·refine Goes.dies (qda (τ:=⟨i,.val:: .sized::K,u,N,C⟩) rfl) (qeq ?_)
  obtain⟨h1,h2⟩:=qfr h
  have h4:E.sign (pz i) [40]=false:=by
   unfold Env.sign Env.is;rw[h1,h2];rcases ht with rfl | rfl | rfl | rfl<;>rfl
  have h5:E.sign (pz i) [60,60]=false:=by
   unfold Env.sign Env.is;rw[h1,h2];rcases ht with rfl | rfl | rfl | rfl<;>rfl
  show(if E.sign (pz i) [40]=true then _ else if E.sign (pz i) [60,60]=true then _ else qjw E _)=_
  rw[h4,h5]
  show(txE E ltk i >>= fun r=>_)=_
  have:txE E ltk i=.error .die:=by
   unfold txE
   rw[if_neg (by show¬ltk (E.at_ (pz i)).1=true;rw[h1];decide)]
  rw[this];rfl
 ·refine Goes.dies (qda (τ:=⟨i,.perh 1 [[61,62],[58,61]]::K,u,N,C⟩) rfl) (Goes.dies (qda (τ:=⟨i,.expr 1:: .perM 1 [[61,62],[58,61]]::K,u,N,C⟩) rfl) ?_)
  exact qge ht h _ _ _ _
theorem qjl{n:Nat}(hE: ∀k,k<n->HE E k)(hB: ∀k,k<n->BX E k): ∀m,m<=n-> ∀(y:Nd) (cl:Bs) (lv:Int) (i:Nat) (out:Out) (one:Stp),qal E m (.boxL y (ntE E i).1 cl lv) (pz (ntE E i).2)=some out->E.sign (pz i) cl=false->ItR y.kd lv one->qhn cl->y.nof=[]->i<=E.to-> ∀(u:Option Nat) (N:List (Option Nd)) (C:List Chn) (nn b c:Nat),N[nn]?=some (some y)->b<=nn->c<=C.length->
 Ends E out.p.bad b c ⟨i,.item one:: .into nn:: .more nn [44] (.item one):: .tail nn 9 cl::K,u,N,C⟩ (fun τ=>At K nn out.x out.p.i τ/\out.x.nof=[]/\Oth N nn τ)
 | 0,_,_,_,_,_,_,_,h,_,_,_,_,_,_,_,_,_,_,_,_,_,_=>by cases h
 | m+1,hm,y,cl,lv,i,out,one,h,hcl,hit,hcr,hno,hi,u,N,C,nn,b,c,hy,hb,hc=>by
  have h':(if(E.sign (pz (ntE E i).2) cl||(pz (ntE E i).2).bad)=true then some ({ x:=y.tail' (ntE E i).1,p:=(E.want (pz (ntE E i).2) 9 cl).2 } :Out)else(qal E m (.item y.kd lv) (pz (ntE E i).2)).bind fun r=>if(!E.sign r.p [44])=true then some ({ x:=(y.add [r.x.notes' (ntE E i).1]).tail' (E.notes r.p).1,p:=(E.want (E.notes r.p).2 9 cl).2 } :Out)else qal E m (.boxL (y.add [r.x.notes' (ntE E i).1]) (E.notes (E.take r.p).2).1 cl lv) (if E.sign (E.notes (E.take r.p).2).2 cl then(E.notes (E.take r.p).2).2.wrong else(E.notes (E.take r.p).2).2))=some out:=h
  have hcl2:E.sign (pz (ntE E i).2) cl=false:=by rw[show E.sign (pz (ntE E i).2) cl=E.sign (pz i) cl from qgt E i 9 cl];exact hcl
  rw[if_neg (by rw[hcl2];simp[pz])]at h'
  obtain⟨r,hr,hx⟩:=Option.bind_eq_some_iff.1 h'
  have hnb:nn<N.length:=qad hy
  have hi2:(ntE E i).2<=E.to:=by
   have:=qix E hi
   show max i (E.pk i)<=E.to;omega
  refine qch ?_
  refine Ends.bind (qpr (K:=.nots (ntE E i).1:: .into nn:: .more nn [44] (.item one):: .tail nn 9 cl::K) (fun k hk=>hE k (by omega)) (fun k hk=>hB k (by omega)) hit hr hi2 u N C) (by omega) hc (fun e=>?_) (fun e τ hf hq=>?_)
  ·rw[if_pos (by rw[show E.sign r.p [44]=false from qbq e (by decide)];rfl)]at hx
   obtain rfl:=Option.some.inj hx
   exact qbl (qc1 e)
  ·obtain⟨j,N1,C1,rfl,g1,g2,g3⟩:=hq
   have hin:=X_in hr hi2 e
   obtain⟨q,hq⟩: ∃q,r.p=pz q:=⟨_,qca e⟩
   have hy1:N1[nn]?=some (some y):=hf.N.at hnb hy
   have hc1:c<=C1.length:=zD hc hf.C.1
   rw[hq]at hx hin⊢
   simp only[qey]at hin⊢
   refine qd1 g2 (by omega) ?_
   have hne: ¬j=nn:=by omega
   have hx2:(N1.set j (some (r.x.notes' (ntE E i).1)))[j]?=some (some (r.x.notes' (ntE E i).1)):=qb4 _ g2
   have hy2:(N1.set j (some (r.x.notes' (ntE E i).1)))[nn]?=some (some y):=by rw[zA hne];exact hy1
   refine qar hx2 hy2 hne (by omega) hb ?_
   have hy3:=qb7 (j:=j) (x:=r.x.notes' (ntE E i).1) hy2
   have hno3:(y.add [r.x.notes' (ntE E i).1]).nof=[]:=by
    cases y;exact hno
   have hkd3:(y.add [r.x.notes' (ntE E i).1]).kd=y.kd:=by cases y;rfl
   have ho3: ∀n,n<N.length->n≠nn->(((N1.set j (some (r.x.notes' (ntE E i).1))).set j none).set nn (some (y.add [r.x.notes' (ntE E i).1])))[n]?=N[n]?:=fun n h1 h2=>by
    rw[zA (Ne.symm h2),zA (by omega),zA (by omega)]
    exact hf.N.2 n h1
   have hl3:N.length<=(((N1.set j (some (r.x.notes' (ntE E i).1))).set j none).set nn (some (y.add [r.x.notes' (ntE E i).1]))).length:=by
    rw[zB,zB,zB];exact hf.N.1
   generalize((N1.set j (some (r.x.notes' (ntE E i).1))).set j none).set nn (some (y.add [r.x.notes' (ntE E i).1]))=N3 at hy3 ho3 hl3⊢
   refine qci (fun hbd hs=>?_) (fun hs ht=>?_) (fun hs=>?_)
   ·rw[if_neg (by rw[hs];decide)]at hx
    have hb9:(E.notes (E.take (pz q)).2).2.bad=true:=qc1 hbd
    refine qb3 hx ?_
    split
    ·rfl
    ·exact hb9
   ·rw[if_neg (by rw[hs];decide),ht]at hx
    have hx:qal E m (.boxL (y.add [r.x.notes' (ntE E i).1]) (ntE E (q+1)).1 cl lv) (if E.sign (pz (ntE E (q+1)).2) cl then(pz (ntE E (q+1)).2).wrong else pz (ntE E (q+1)).2)=some out:=hx
    have hq2:q+1<=E.to:=by
     have:(E.take (pz q)).2.bad=false:=by rw[ht];rfl
     have h9:=qk7 (qao E (pz q)) hin this
     rw[ht]at h9;exact h9
    cases hs2:E.sign (pz (q+1)) cl with
    | true=>
     have hs3:E.sign (pz (ntE E (q+1)).2) cl=true:=by rw[show E.sign (pz (ntE E (q+1)).2) cl=E.sign (pz (q+1)) cl from qgt E (q+1) 9 cl];exact hs2
     rw[if_pos hs3]at hx
     refine qch ?_
     exact Ends.die (qpq hcr hs3 hit _ _ _) (qb3 hx rfl)
    | false=>
     have hs3:E.sign (pz (ntE E (q+1)).2) cl=false:=by rw[show E.sign (pz (ntE E (q+1)).2) cl=E.sign (pz (q+1)) cl from qgt E (q+1) 9 cl];exact hs2
     rw[if_neg (by rw[hs3];decide)]at hx
     exact(qjl hE hB m (by omega) (y.add [r.x.notes' (ntE E i).1]) cl lv (q+1) out one hx hs2 (by rw[hkd3];exact hit) hcr hno3 hq2 _ N3 C1 nn b c hy3 hb hc1).mono (zC _) (zC _) (fun τ _ _ hq=>⟨hq.1,hq.2.1,fun n h1 h2=>(hq.2.2 n (by omega) h2).trans (ho3 n h1 h2)⟩)
   ·rw[if_pos (by rw[hs];rfl)]at hx
    obtain rfl:=Option.some.inj hx
    refine qer (by decide) hy3 hb (fun hw=>hw) (fun hw=>?_)
    show Ends E (E.want (pz (ntE E q).2) 9 cl).2.bad b c _ (fun τ=>At K nn ((y.add [r.x.notes' (ntE E i).1]).tail' (ntE E q).1) (E.want (pz (ntE E q).2) 9 cl).2.i τ/\((y.add [r.x.notes' (ntE E i).1]).tail' (ntE E q).1).nof=[]/\Oth N nn τ)
    rw[hw]
    refine Ends.here rfl ⟨⟨_,_,rfl,qb4 _ hy3⟩,?_,fun n h1 h2=>?_⟩
    ·cases y;exact hno
    ·show(N3.set nn _)[n]?=_
     rw[zA (Ne.symm h2)];exact ho3 n h1 h2
end
section
variable{E:Env}{b c:Nat}{K:List Stp}{i:Nat}
theorem qxn(E:Env)(i:Nat):E.broken (pz (i+1)) i=brE E (i+1):=by
 rw[qop];rfl
theorem qlb(y:Nd)(t:Bool):(y.brk' t).nof=y.nof:=by cases y;rfl
theorem qfx(y:Nd)(t:List ByteArray):(y.tail' t).nof=y.nof:=by cases y;rfl
theorem qcp(y:Nd)(t:List Nd):(y.add t).nof=y.nof:=by cases y;rfl
theorem qza(y:Nd)(t:ByteArray):(y.txt' t).nof=y.nof:=by cases y;rfl
theorem qtm{n:Nat}(hE: ∀k,k<n->HE E k)(hB: ∀k,k<n->BX E k):BX E n:=by
 intro y o cl lv i out one h hit hcl hcr hno K u N C nn b c hy hb hc
 cases n with
 | zero=>cases h
 | succ m=>
  have h':qal E m (.boxL (y.brk' (E.broken (E.want (pz i) 9 o).2 (E.want (pz i) 9 o).1)) (E.notes (E.want (pz i) 9 o).2).1 cl lv) (E.notes (E.want (pz i) 9 o).2).2=some out:=h
  refine Ends.step ?_
  have e0:stp E (.box nn o one) ⟨i,K,u,N,C⟩=(msE E 9 o i >>= fun j=>if E.sign (pz j) (qfc o)=true then .ok ((((⟨i,K,u,N,C⟩:PM).at_ j).set nn (y.brk' (brE E j))).plan [.tail nn 9 (qfc o)])else .ok (((((⟨i,K,u,N,C⟩:PM).at_ j).set nn (y.brk' (brE E j))).plan [.tail nn 9 (qfc o)]).plan [.row nn [44] (.item one)])):=by
   show((⟨i,K,u,N,C⟩:PM).nd nn >>= fun x=>_)=_
   rw[qfb hy];rfl
  rw[e0]
  rcases qbe E 9 o i (by decide)with⟨m1,m2,m3,m4,m5⟩ | ⟨m1,m2,m3⟩
  ·rw[m1]
   rw[m2]at h'
   have h':qal E m (.boxL (y.brk' (E.broken (pz (i+1)) i)) (ntE E (i+1)).1 cl lv) (pz (ntE E (i+1)).2)=some out:=h'
   rw[qxn]at h'
   show EndsR E out.p.bad b c _ _ (if E.sign (pz (i+1)) (qfc o)=true then _ else _)
   rw[<-hcl]
   have hy2:(N.set nn (some (y.brk' (brE E (i+1)))))[nn]?=some (some (y.brk' (brE E (i+1)))):=qb4 _ hy
   by_cases hs:E.sign (pz (i+1)) cl=true
   ·rw[if_pos hs]
    refine .inl ⟨⟨i+1,.tail nn 9 cl::K,u,N.set nn (some (y.brk' (brE E (i+1)))),C⟩,rfl,frN (FrL.set hb _),?_⟩
    cases m with
    | zero=>cases h'
    | succ m=>
     have h2:(if(E.sign (pz (ntE E (i+1)).2) cl||(pz (ntE E (i+1)).2).bad)=true then some ({ x:=(y.brk' (brE E (i+1))).tail' (ntE E (i+1)).1,p:=(E.want (pz (ntE E (i+1)).2) 9 cl).2 } :Out)else(qal E m (.item (y.brk' (brE E (i+1))).kd lv) (pz (ntE E (i+1)).2)).bind _)=some out:=h'
     have hs2:E.sign (pz (ntE E (i+1)).2) cl=true:=by rw[show E.sign (pz (ntE E (i+1)).2) cl=E.sign (pz (i+1)) cl from qgt E (i+1) 9 cl];exact hs
     rw[if_pos (by rw[hs2];rfl)]at h2
     obtain rfl:=Option.some.inj h2
     refine qer (by decide) hy2 hb (fun hw=>hw) (fun hw=>?_)
     show Ends E (E.want (pz (ntE E (i+1)).2) 9 cl).2.bad b c _ (fun τ=>At K nn ((y.brk' (brE E (i+1))).tail' (ntE E (i+1)).1) (E.want (pz (ntE E (i+1)).2) 9 cl).2.i τ/\((y.brk' (brE E (i+1))).tail' (ntE E (i+1)).1).nof=[]/\Oth N nn τ)
     rw[hw]
     exact Ends.here rfl ⟨⟨_,_,rfl,qb4 _ hy2⟩,by rw[qfx,qlb];exact hno,fun n h1 h2=>by
      show((N.set nn _).set nn _)[n]?=_
      rw[zA (Ne.symm h2),zA (Ne.symm h2)]⟩
   ·rw[if_neg hs]
    refine .inl ⟨⟨i+1,.row nn [44] (.item one):: .tail nn 9 cl::K,u,N.set nn (some (y.brk' (brE E (i+1)))),C⟩,rfl,frN (FrL.set hb _),?_⟩
    refine qcr ?_
    refine(qjl (n:=m) (fun k hk=>hE k (by omega)) (fun k hk=>hB k (by omega)) m (zC _) _ cl lv (i+1) out one h' (by simpa using hs) (by rw[qwp];exact hit) hcr (by rw[qlb];exact hno) (by omega) u _ C nn b c hy2 hb hc).mono (zC _) (zC _) (fun τ _ _ hq=>⟨hq.1,hq.2.1,fun n h1 h2=>(hq.2.2 n (by rw[zB];exact h1) h2).trans (zA (Ne.symm h2))⟩)
  ·rw[m1]
   exact .inr ⟨rfl,qb3 h' (qc1 m2)⟩
theorem qho{n:Nat}(hE: ∀k,k<n->HE E k): ∀m,m<=n-> ∀(y:Nd) (i:Nat) (out:Out),qal E m (.compL y) (pz i)=some out->y.nof=[]-> ∀(u:Option Nat) (N:List (Option Nd)) (C:List Chn) (nn b c:Nat),N[nn]?=some (some y)->b<=nn->c<=C.length->
 Ends E out.p.bad b c ⟨i,.perh 3 [[60,45],[60,61]]:: .into nn:: .more nn [44] (.perh 3 [[60,45],[60,61]]):: .want 9 [93]::K,u,N,C⟩ (fun τ=>At K nn out.x out.p.i τ/\out.x.nof=[])
 | 0,_,_,_,_,h,_,_,_,_,_,_,_,_,_,_=>by cases h
 | m+1,hm,y,i,out,h,hno,u,N,C,nn,b,c,hy,hb,hc=>by
  have h':(if(pz i).bad=true then some ({ x:=y,p:=(E.want (pz i) 9 [93]).2 } :Out)else(qal E m (.expr 3) (pz i)).bind fun r=>(if(E.sign r.p [60,45]||E.sign r.p [60,61])=true then(qal E m (.expr 3) (E.take r.p).2).bind fun r3=>some ({ x:=nkt 14 (E.at_ r.p).2.1 [r.x,r3.x],p:=r3.p } :Out)else some r).bind fun r2=>if(!E.sign r2.p [44])=true then some ({ x:=y.add [r2.x],p:=(E.want r2.p 9 [93]).2 } :Out)else qal E m (.compL (y.add [r2.x])) (E.take r2.p).2)=some out:=h
  rw[if_neg (by simp[pz])]at h'
  obtain⟨r,hr,hx⟩:=Option.bind_eq_some_iff.1 h'
  obtain⟨r2,hr2,hx⟩:=Option.bind_eq_some_iff.1 hx
  have hnb:nn<N.length:=qad hy
  have hbad2: ∀p:Ps,p.bad=true->r2.p=p->out.p.bad=true:=by
   rintro p hp rfl
   rw[if_pos (by rw[show E.sign r2.p [44]=false from qbq hp (by decide)];rfl)]at hx
   obtain rfl:=Option.some.inj hx
   exact qbl hp
  refine Ends.bind (qk5 (K:=.into nn:: .more nn [44] (.perh 3 [[60,45],[60,61]]):: .want 9 [93]::K) (o:=r2) (hE m (by omega)) (hE m (by omega)) hr (fun hs=>?_) (fun h1 h2=>?_) u N C) (by omega) hc (fun e=>hbad2 _ e rfl) (fun e τ hf hq=>?_)
  ·rw[if_pos (by rcases hs with hs | hs<;>simp[hs])]at hr2
   obtain⟨r3,hr3,hx3⟩:=Option.bind_eq_some_iff.1 hr2
   exact⟨r3,hr3,(Option.some.inj hx3).symm⟩
  ·rw[if_neg (by simp[h1,h2])]at hr2
   exact(Option.some.inj hr2).symm
  ·obtain⟨j,N1,C1,rfl,g1,g2,g3⟩:=hq
   obtain⟨q,hq⟩: ∃q,r2.p=pz q:=⟨_,qca e⟩
   have hy1:N1[nn]?=some (some y):=hf.N.at hnb hy
   have hc1:c<=C1.length:=zD hc hf.C.1
   rw[hq]at hx⊢
   simp only[qey]
   have hne: ¬j=nn:=by omega
   refine qar g2 hy1 hne (by omega) hb ?_
   have hy3:=qb7 (j:=j) (x:=r2.x) hy1
   generalize(N1.set j none).set nn (some (y.add [r2.x]))=N3 at hy3⊢
   refine qci (fun hbd hs=>?_) (fun hs ht=>?_) (fun hs=>?_)
   ·rw[if_neg (by rw[hs];decide)]at hx
    exact qb3 hx hbd
   ·rw[if_neg (by rw[hs];decide),ht]at hx
    exact qho hE m (by omega) (y.add [r2.x]) (q+1) out hx (by rw[qcp];exact hno) _ N3 C1 nn b c hy3 hb hc1
   ·rw[if_pos (by rw[hs];rfl)]at hx
    obtain rfl:=Option.some.inj hx
    refine qgc (by decide) (fun hw=>hw) (fun hw=>?_)
    show Ends E (E.want (pz q) 9 [93]).2.bad b c _ (fun τ=>At K nn (y.add [r2.x]) (E.want (pz q) 9 [93]).2.i τ/\(y.add [r2.x]).nof=[])
    rw[hw]
    exact Ends.here rfl ⟨⟨_,_,rfl,hy3⟩,by rw[qcp];exact hno⟩
end
section
variable{E:Env}{b c:Nat}{K:List Stp}{i:Nat}
theorem qql{x:Nd}(h:x.nof=[]):x.notes' []=x:=by
 cases x with
 | mk k t l br bl no ta=>
  have h:no=[]:=h
  subst h;rfl
theorem qdo{s t:Bs}(h:E.sign (pz i) s=true)(hne:s≠t):E.sign (pz i) t=false:=by
 obtain⟨h1,h2⟩:=qfr h
 unfold Env.sign Env.is
 rw[h1,h2]
 simp[hne]
theorem qnt{m:Nat}(hE: ∀k,k<=m->HE E k){y:Nd}{T:List ByteArray}{r out:Out}{q:Nat}(hx:(if(y.ls.isEmpty&&T.isEmpty&&E.sign (pz q) [124,124])=true then qal E m (.comp r.x (match(generalizing:=false) y with | .mk _ _ _ br _ _ _=>br)) (pz q)else if E.sign (pz q) [124]=true then(qal E m (.expr 3) (E.take (pz q)).2).bind fun r2=>some ({ x:=(((y.add [r.x.notes' T]).add [r2.x]).txt' ⟨#[124]⟩).tail' (E.notes r2.p).1,p:=(E.want (E.notes r2.p).2 9 [93]).2 } :Out)else some ({ x:=(y.add [r.x.notes' T]).tail' (E.notes (pz q)).1,p:=(E.want (E.notes (pz q)).2 9 [93]).2 } :Out))=some out)
 (hsh:y.ls=[]-> ∃br,y=(nk 5 []).brk' br) (hno:y.nof=[]) (hr:r.x.nof=[]) (u:Option Nat) (N:List (Option Nd)) (C:List Chn) (nn b c:Nat) (hy:N[nn]?=some (some (y.add [r.x.notes' T]))) (hb:b<=nn) (hc:c<=C.length):
 Ends E out.p.bad b c ⟨q,.listK nn::K,u,N,C⟩ (fun τ=>At K nn out.x out.p.i τ/\out.x.nof=[]):=by
 refine Ends.step ?_
 show EndsR E out.p.bad b c _ _ ((⟨q,K,u,N,C⟩:PM).nd nn >>= fun x=>_)
 rw[qfb hy]
 show EndsR E out.p.bad b c _ _ (sgE E 9 [124,124] q >>= fun q=>_)
 have htail:E.sign (pz q) [124]=false->EndsR E (E.want (E.notes (pz q)).2 9 [93]).2.bad b c ⟨q,.listK nn::K,u,N,C⟩ (fun τ=>At K nn ((y.add [r.x.notes' T]).tail' (E.notes (pz q)).1) (E.want (E.notes (pz q)).2 9 [93]).2.i τ/\((y.add [r.x.notes' T]).tail' (E.notes (pz q)).1).nof=[]) (qcw E nn 9 [93] ⟨q,K,u,N,C⟩):=fun _=>by
  rcases qeh (u:=u) (K:=K) (C:=C) (t:=[93]) (i:=q) (E:=E) (k:=9) (by decide) hy with⟨t1,t2⟩ | ⟨t1,t2⟩
  ·show EndsR E (E.want (pz (ntE E q).2) 9 [93]).2.bad b c _ (fun τ=>At K nn ((y.add [r.x.notes' T]).tail' (ntE E q).1) (E.want (pz (ntE E q).2) 9 [93]).2.i τ/\((y.add [r.x.notes' T]).tail' (ntE E q).1).nof=[]) _
   rw[t1,t2]
   exact .inl ⟨_,rfl,frN (FrL.set hb _),Ends.here rfl ⟨⟨_,_,rfl,qb4 _ hy⟩,by rw[qfx,qcp];exact hno⟩⟩
  ·rw[t1];exact .inr ⟨rfl,t2⟩
 rcases qbt E 9 [124,124] q (by decide)with⟨m1,m2,m3,m4,m5⟩ | ⟨m1,m2⟩ | ⟨m1,m2,m3⟩
 ·rw[m1]
  have hs1:E.sign (pz q) [124]=false:=qdo m2 (by decide)
  by_cases hcond:(y.ls.isEmpty&&T.isEmpty)=true
  ·rw[if_pos (by rw[hcond];exact m2)]at hx
   simp only[Bool.and_eq_true,List.isEmpty_iff]at hcond
   obtain⟨br,rfl⟩:=hsh hcond.1
   obtain rfl:=hcond.2
   have e1:(((nk 5 []).brk' br).add [r.x.notes' []])=.mk 5 ⟨#[]⟩ [r.x] br false [] []:=by rw[qql hr];rfl
   rw[e1]at hy⊢
   cases m with
   | zero=>cases hx
   | succ m=>
    have hx:qal E m (.compL ((nk 15 [r.x]).brk' br)) (E.want (pz q) 9 [124,124]).2=some out:=hx
    have hw:E.want (pz q) 9 [124,124]=(q,pz (q+1)):=by unfold Env.want;rw[if_pos m2,m3]
    rw[hw]at hx
    have hy2:(N.set nn (some ((nk 15 [r.x]).brk' br)))[nn]?=some (some ((nk 15 [r.x]).brk' br)):=qb4 _ hy
    have e2:(match(.mk 5 ⟨#[]⟩ [r.x] br false [] []:Nd)with
     | .mk _ t [y] br bl no ta=>match y with
      | .mk _ _ _ _ _ [] _=>(.ok (((((⟨q,K,u,N,C⟩:PM).at_ (q+1)).set nn (.mk 15 t [y] br bl no ta)).plan [.row nn [44] (.perh 3 [[60,45],[60,61]]),.want 9 [93]])):Rs PM)
      | _=>.error .die
     | _=>.error .die)=.ok ⟨q+1,.row nn [44] (.perh 3 [[60,45],[60,61]]):: .want 9 [93]::K,u,N.set nn (some ((nk 15 [r.x]).brk' br)),C⟩:=by
     have hr9:=hr
     cases hrx:r.x with
     | mk k t l b1 b2 no ta=>
      rw[hrx]at hr9
      have hr9:no=[]:=hr9
      subst hr9;rfl
    refine .inl ⟨⟨q+1,.row nn [44] (.perh 3 [[60,45],[60,61]]):: .want 9 [93]::K,u,N.set nn (some ((nk 15 [r.x]).brk' br)),C⟩,e2,frN (FrL.set hb _),?_⟩
    refine qcr ?_
    exact qho (n:=m) (fun k hk=>hE k (by omega)) m (zC _) _ (q+1) out hx rfl u _ C nn b c hy2 hb hc
  ·have hcf:(y.ls.isEmpty&&T.isEmpty)=false:=by simpa using hcond
   rw[if_neg (by rw[hcf];simp),if_neg (by rw[hs1];decide)]at hx
   obtain rfl:=Option.some.inj hx
   have hbad:(E.want (E.notes (pz q)).2 9 [93]).2.bad=true:=by
    have e3:E.is (pz (ntE E q).2) 9 [93]=false:=by rw[qgt];exact qdo (t:=[93]) m2 (by decide)
    show(E.want (pz (ntE E q).2) 9 [93]).2.bad=true
    unfold Env.want
    rw[e3];exact qd4 rfl
   refine .inr ⟨?_,hbad⟩
   show(match y.add [r.x.notes' T]with
    | .mk _ t [y] br bl no ta=>match y with
     | .mk _ _ _ _ _ [] _=>(.ok (((((⟨q,K,u,N,C⟩:PM).at_ (q+1)).set nn (.mk 15 t [y] br bl no ta)).plan [.row nn [44] (.perh 3 [[60,45],[60,61]]),.want 9 [93]])):Rs PM)
     | _=>.error .die
    | _=>.error .die)=.error .die
   cases y with
   | mk k t l br bl no ta=>
    cases l with
    | nil=>
     have hT:T≠[]:=fun e=>by rw[e]at hcf;cases hcf
     cases hrx:r.x with
     | mk k2 t2 l2 b1 b2 no2 ta2=>
      cases T with
      | nil=>exact absurd rfl hT
      | cons a T=>rfl
    | cons z l=>
     cases l<;>rfl
 ·rw[m1]
  have m2':E.sign (pz q) [124,124]=false:=m2
  rw[if_neg (by rw[m2'];simp)]at hx
  show EndsR E out.p.bad b c _ _ (sgE E 9 [124] q >>= fun r=>_)
  rcases qbt E 9 [124] q (by decide)with⟨k1,k2,k3,k4,k5⟩ | ⟨k1,k2⟩ | ⟨k1,k2,k3⟩
  ·rw[k1]
   rw[if_pos (show E.sign (pz q) [124]=true from k2),k3]at hx
   obtain⟨r2,hr2,hx⟩:=Option.bind_eq_some_iff.1 hx
   obtain rfl:=Option.some.inj hx
   have hy2:(N.set nn (some ((y.add [r.x.notes' T]).txt' ⟨#[124]⟩)))[nn]?=some (some ((y.add [r.x.notes' T]).txt' ⟨#[124]⟩)):=qb4 _ hy
   refine .inl ⟨⟨q+1,.expr 3:: .into nn:: .tail nn 9 [93]::K,u,N.set nn (some ((y.add [r.x.notes' T]).txt' ⟨#[124]⟩)),C⟩,rfl,frN (FrL.set hb _),?_⟩
   have hnb:=qad hy2
   refine Ends.bind (hE m (zC _) _ _ _ hr2 (.into nn:: .tail nn 9 [93]::K) u _ C) (by omega) hc (fun e=>qbl (qc1 e)) (fun e τ hf hq=>?_)
   obtain⟨j,N1,C1,rfl,g1,g2,g3⟩:=hq
   have hy1:=hf.N.at hnb hy2
   have hne: ¬j=nn:=by omega
   obtain⟨z,hz⟩: ∃z,r2.p=pz z:=⟨_,qca e⟩
   rw[hz]
   simp only[qey]
   refine qar g2 hy1 hne (by omega) hb ?_
   have hy3:=qb7 (j:=j) (x:=r2.x) hy1
   have e4:((y.add [r.x.notes' T]).txt' ⟨#[124]⟩).add [r2.x]=((y.add [r.x.notes' T]).add [r2.x]).txt' ⟨#[124]⟩:=by cases y;rfl
   rw[e4]at hy3⊢
   refine qer (by decide) hy3 hb (fun hw=>hw) (fun hw=>?_)
   show Ends E (E.want (pz (ntE E z).2) 9 [93]).2.bad b c _ (fun τ=>At K nn ((((y.add [r.x.notes' T]).add [r2.x]).txt' ⟨#[124]⟩).tail' (ntE E z).1) (E.want (pz (ntE E z).2) 9 [93]).2.i τ/\((((y.add [r.x.notes' T]).add [r2.x]).txt' ⟨#[124]⟩).tail' (ntE E z).1).nof=[])
   rw[hw]
   exact Ends.here rfl ⟨⟨_,_,rfl,qb4 _ hy3⟩,by rw[qfx,qza,qcp,qcp];exact hno⟩
  ·rw[k1]
   have k2':E.sign (pz q) [124]=false:=k2
   rw[if_neg (by rw[k2'];decide)]at hx
   obtain rfl:=Option.some.inj hx
   exact htail k2
  ·rw[k1]
   rw[if_pos (show E.sign (pz q) [124]=true from k2)]at hx
   obtain⟨r2,hr2,hx⟩:=Option.bind_eq_some_iff.1 hx
   obtain rfl:=Option.some.inj hx
   exact .inr ⟨rfl,qbl (qc1 (qb3 hr2 k3))⟩
 ·rw[m1]
  refine .inr ⟨rfl,?_⟩
  have hs1:E.sign (pz q) [124]=false:=qdo m2 (by decide)
  have m2':E.sign (pz q) [124,124]=true:=m2
  by_cases hcond:(y.ls.isEmpty&&T.isEmpty)=true
  ·rw[if_pos (by rw[hcond];exact m2')]at hx
   cases m with
   | zero=>cases hx
   | succ m=>
    have hx:qal E m (.compL ((nk 15 [r.x]).brk' _)) (E.want (pz q) 9 [124,124]).2=some out:=hx
    refine qb3 hx ?_
    unfold Env.want;rw[if_pos m2];exact m3
  ·have hcf:(y.ls.isEmpty&&T.isEmpty)=false:=by simpa using hcond
   rw[if_neg (by rw[hcf];simp),if_neg (by rw[hs1];decide)]at hx
   obtain rfl:=Option.some.inj hx
   have e3:E.is (pz (ntE E q).2) 9 [93]=false:=by rw[qgt];exact qdo (t:=[93]) m2 (by decide)
   show(E.want (pz (ntE E q).2) 9 [93]).2.bad=true
   unfold Env.want
   rw[e3];exact qd4 rfl
theorem qhq{n:Nat}(hE: ∀k,k<n->HE E k): ∀m,m<=n-> ∀(y:Nd) (i:Nat) (out:Out),qal E m (.listL y (ntE E i).1) (pz (ntE E i).2)=some out->E.sign (pz i) [93]=false->(y.ls=[]-> ∃br,y=(nk 5 []).brk' br)->y.nof=[]->i<=E.to-> ∀(u:Option Nat) (N:List (Option Nd)) (C:List Chn) (nn b c:Nat),N[nn]?=some (some y)->b<=nn->c<=C.length->
 Ends E out.p.bad b c ⟨i,.item (.expr 3):: .into nn:: .more nn [44] (.item (.expr 3)):: .listK nn::K,u,N,C⟩ (fun τ=>At K nn out.x out.p.i τ/\out.x.nof=[])
 | 0,_,_,_,_,h,_,_,_,_,_,_,_,_,_,_,_,_,_=>by cases h
 | m+1,hm,y,i,out,h,hcl,hsh,hno,hi,u,N,C,nn,b,c,hy,hb,hc=>by
  have h':(if(E.sign (pz (ntE E i).2) [93]||(pz (ntE E i).2).bad)=true then some ({ x:=y.tail' (ntE E i).1,p:=(E.want (pz (ntE E i).2) 9 [93]).2 } :Out)else(qal E m (.expr 3) (pz (ntE E i).2)).bind fun r=>if(y.ls.isEmpty&&(ntE E i).1.isEmpty&&E.sign r.p [124,124])=true then qal E m (.comp r.x (match(generalizing:=false) y with | .mk _ _ _ br _ _ _=>br)) r.p else if E.sign r.p [124]=true then(qal E m (.expr 3) (E.take r.p).2).bind fun r2=>some ({ x:=(((y.add [r.x.notes' (ntE E i).1]).add [r2.x]).txt' ⟨#[124]⟩).tail' (E.notes r2.p).1,p:=(E.want (E.notes r2.p).2 9 [93]).2 } :Out)else if(!E.sign r.p [44])=true then some ({ x:=(y.add [r.x.notes' (ntE E i).1]).tail' (E.notes r.p).1,p:=(E.want (E.notes r.p).2 9 [93]).2 } :Out)else qal E m (.listL (y.add [r.x.notes' (ntE E i).1]) (E.notes (E.take r.p).2).1) (if E.sign (E.notes (E.take r.p).2).2 [93]then(E.notes (E.take r.p).2).2.wrong else(E.notes (E.take r.p).2).2))=some out:=h
  have hcl2:E.sign (pz (ntE E i).2) [93]=false:=by rw[show E.sign (pz (ntE E i).2) [93]=E.sign (pz i) [93]from qgt E i 9 [93]];exact hcl
  rw[if_neg (by rw[hcl2];simp[pz])]at h'
  obtain⟨r,hr,hx⟩:=Option.bind_eq_some_iff.1 h'
  have hnb:nn<N.length:=qad hy
  have hi2:(ntE E i).2<=E.to:=by
   have:=qix E hi
   show max i (E.pk i)<=E.to;omega
  refine qch ?_
  refine Ends.bind (hE m (by omega) _ _ _ hr (.nots (ntE E i).1:: .into nn:: .more nn [44] (.item (.expr 3)):: .listK nn::K) u N C) (by omega) hc (fun e=>?_) (fun e τ hf hq=>?_)
  ·rw[if_neg (by rw[show E.sign r.p [124,124]=false from qbq e (by decide)];simp),if_neg (by rw[show E.sign r.p [124]=false from qbq e (by decide)];decide),if_pos (by rw[show E.sign r.p [44]=false from qbq e (by decide)];rfl)]at hx
   obtain rfl:=Option.some.inj hx
   exact qbl (qc1 e)
  ·obtain⟨j,N1,C1,rfl,g1,g2,g3⟩:=hq
   have hin:=X_in hr hi2 e
   obtain⟨q,hq⟩: ∃q,r.p=pz q:=⟨_,qca e⟩
   have hy1:N1[nn]?=some (some y):=hf.N.at hnb hy
   have hc1:c<=C1.length:=zD hc hf.C.1
   rw[hq]at hx hin⊢
   simp only[qey]at hin⊢
   refine qd1 g2 (by omega) ?_
   have hne: ¬j=nn:=by omega
   have hx2:(N1.set j (some (r.x.notes' (ntE E i).1)))[j]?=some (some (r.x.notes' (ntE E i).1)):=qb4 _ g2
   have hy2:(N1.set j (some (r.x.notes' (ntE E i).1)))[nn]?=some (some y):=by rw[zA hne];exact hy1
   refine qar hx2 hy2 hne (by omega) hb ?_
   have hy3:=qb7 (j:=j) (x:=r.x.notes' (ntE E i).1) hy2
   have hno3:(y.add [r.x.notes' (ntE E i).1]).nof=[]:=by rw[qcp];exact hno
   have hsh3:(y.add [r.x.notes' (ntE E i).1]).ls=[]-> ∃br,(y.add [r.x.notes' (ntE E i).1])=(nk 5 []).brk' br:=fun h9=>by
    cases y with
    | mk k t l br bl no ta=>
     have h9:l++[r.x.notes' (ntE E i).1]=[]:=h9
     simp at h9
   generalize((N1.set j (some (r.x.notes' (ntE E i).1))).set j none).set nn (some (y.add [r.x.notes' (ntE E i).1]))=N3 at hy3⊢
   refine qci (fun hbd hs=>?_) (fun hs ht=>?_) (fun hs=>?_)
   ·rw[if_neg (by rw[qdo (t:=[124,124]) hs (by decide)];simp),if_neg (by rw[qdo (t:=[124]) hs (by decide)];decide),if_neg (by rw[hs];decide)]at hx
    have hb9:(E.notes (E.take (pz q)).2).2.bad=true:=qc1 hbd
    refine qb3 hx ?_
    split
    ·rfl
    ·exact hb9
   ·rw[if_neg (by rw[qdo (t:=[124,124]) hs (by decide)];simp),if_neg (by rw[qdo (t:=[124]) hs (by decide)];decide),if_neg (by rw[hs];decide),ht]at hx
    have hx:qal E m (.listL (y.add [r.x.notes' (ntE E i).1]) (ntE E (q+1)).1) (if E.sign (pz (ntE E (q+1)).2) [93]then(pz (ntE E (q+1)).2).wrong else pz (ntE E (q+1)).2)=some out:=hx
    have hq2:q+1<=E.to:=by
     have:(E.take (pz q)).2.bad=false:=by rw[ht];rfl
     have h9:=qk7 (qao E (pz q)) hin this
     rw[ht]at h9;exact h9
    cases hs2:E.sign (pz (q+1)) [93]with
    | true=>
     have hs3:E.sign (pz (ntE E (q+1)).2) [93]=true:=by rw[show E.sign (pz (ntE E (q+1)).2) [93]=E.sign (pz (q+1)) [93]from qgt E (q+1) 9 [93]];exact hs2
     rw[if_pos hs3]at hx
     refine qch ?_
     exact Ends.die (qge (.inr (.inr (.inl rfl))) hs3 _ _ _ _) (qb3 hx rfl)
    | false=>
     have hs3:E.sign (pz (ntE E (q+1)).2) [93]=false:=by rw[show E.sign (pz (ntE E (q+1)).2) [93]=E.sign (pz (q+1)) [93]from qgt E (q+1) 9 [93]];exact hs2
     rw[if_neg (by rw[hs3];decide)]at hx
     exact qhq hE m (by omega) (y.add [r.x.notes' (ntE E i).1]) (q+1) out hx hs2 hsh3 hno3 hq2 _ N3 C1 nn b c hy3 hb hc1
   ·refine qnt (m:=m) (fun k hk=>hE k (by omega)) ?_ hsh hno g3 _ N3 C1 nn b c hy3 hb hc1
    rw[<-hx,hs];rfl
theorem qq2{m:Nat}(hE: ∀k,k<=m->HE E k){out:Out}(h:qal E m .list (pz i)=some out)(u:Option Nat)(N:List (Option Nd))(C:List Chn)(hb:b<=N.length)(hc:c<=C.length):
 EndsR E out.p.bad b c ⟨i,K,u,N,C⟩ (An K b out.x out.p.i) (qes E ⟨i,K,u,N,C⟩):=by
 cases m with
 | zero=>cases h
 | succ m=>
  have h':qal E m (.listL ((nk 5 []).brk' (E.broken (E.want (pz i) 9 [91]).2 (E.want (pz i) 9 [91]).1)) (E.notes (E.want (pz i) 9 [91]).2).1) (E.notes (E.want (pz i) 9 [91]).2).2=some out:=h
  have e0:qes E ⟨i,K,u,N,C⟩=(msE E 9 [91] i >>= fun j=>if E.sign (pz j) [93]=true then qcw E N.length 9 [93] (((⟨i,K,u,N,C⟩:PM).at_ j).new ((nk 5 []).brk' (brE E j)))else .ok ((((⟨i,K,u,N,C⟩:PM).at_ j).new ((nk 5 []).brk' (brE E j))).plan [.row N.length [44] (.item (.expr 3)),.listK N.length])):=rfl
  rw[e0]
  rcases qbe E 9 [91] i (by decide)with⟨m1,m2,m3,m4,m5⟩ | ⟨m1,m2,m3⟩
  ·rw[m1]
   rw[m2]at h'
   have h':qal E m (.listL ((nk 5 []).brk' (E.broken (pz (i+1)) i)) (ntE E (i+1)).1) (pz (ntE E (i+1)).2)=some out:=h'
   rw[qxn]at h'
   show EndsR E out.p.bad b c _ _ (if E.sign (pz (i+1)) [93]=true then _ else _)
   have hy2:(N++[some ((nk 5 []).brk' (brE E (i+1)))])[N.length]?=some (some ((nk 5 []).brk' (brE E (i+1)))):=qam _ _
   by_cases hs:E.sign (pz (i+1)) [93]=true
   ·rw[if_pos hs]
    cases m with
    | zero=>cases h'
    | succ m=>
     have h2:(if(E.sign (pz (ntE E (i+1)).2) [93]||(pz (ntE E (i+1)).2).bad)=true then some ({ x:=((nk 5 []).brk' (brE E (i+1))).tail' (ntE E (i+1)).1,p:=(E.want (pz (ntE E (i+1)).2) 9 [93]).2 } :Out)else(qal E m (.expr 3) (pz (ntE E (i+1)).2)).bind _)=some out:=h'
     have hs2:E.sign (pz (ntE E (i+1)).2) [93]=true:=by rw[show E.sign (pz (ntE E (i+1)).2) [93]=E.sign (pz (i+1)) [93]from qgt E (i+1) 9 [93]];exact hs
     rw[if_pos (by rw[hs2];rfl)]at h2
     obtain rfl:=Option.some.inj h2
     show EndsR E (E.want (pz (ntE E (i+1)).2) 9 [93]).2.bad b c _ (An K b (((nk 5 []).brk' (brE E (i+1))).tail' (ntE E (i+1)).1) (E.want (pz (ntE E (i+1)).2) 9 [93]).2.i) (qcw E N.length 9 [93] ⟨i+1,K,u,N++[some ((nk 5 []).brk' (brE E (i+1)))],C⟩)
     rcases qeh (u:=u) (K:=K) (C:=C) (t:=[93]) (i:=i+1) (E:=E) (k:=9) (by decide) hy2 with⟨t1,t2⟩ | ⟨t1,t2⟩
     ·rw[t1,t2]
      exact .inl ⟨_,rfl,frN ((FrL.app hb _).trans (FrL.set hb _)),Ends.here rfl ⟨_,_,_,rfl,hb,qb4 _ hy2,rfl⟩⟩
     ·rw[t1];exact .inr ⟨rfl,t2⟩
   ·rw[if_neg hs]
    refine .inl ⟨⟨i+1,.row N.length [44] (.item (.expr 3)):: .listK N.length::K,u,N++[some ((nk 5 []).brk' (brE E (i+1)))],C⟩,rfl,frN (FrL.app hb _),?_⟩
    refine qcr ?_
    refine(qhq (n:=m) (fun k hk=>hE k (by omega)) m (zC _) _ (i+1) out h' (by simpa using hs) (fun _=>⟨_,rfl⟩) rfl (by omega) u _ C N.length b c hy2 hb hc).mono (zC _) (zC _) (fun τ _ _ hq=>?_)
    obtain⟨⟨N9,C9,rfl,g1⟩,g2⟩:=hq
    exact⟨_,_,_,rfl,hb,g1,g2⟩
  ·rw[m1]
   exact .inr ⟨rfl,qb3 h' (qc1 m2)⟩
end
end Go.Proofs.YtdhadeeajgoedaaGreat
