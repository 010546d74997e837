import Derived.Test.YtdhadeeajgoedaaGreatL11
import Derived.Lib.Bytealg
set_option maxRecDepth 100000
set_option maxHeartbeats 4000000
set_option linter.all false
open Array renaming length_toList→zA
open Bool renaming and_eq_true→zB,or_eq_true→zC
open List renaming getElem?_drop→zD,getElem?_eq_getElem→zE,getElem?_eq_none→zF,getElem?_take_of_lt→zG,isPrefixOf_iff_prefix→zH,length_drop→zI,prefix_iff_eq_take→zJ
open Nat renaming add_assoc→zK,le_refl→zL,zero_le→zM
namespace Go.Proofs.YtdhadeeajgoedaaGreat
open Go.RowKit Go.PlainAid
theorem qlo(s:ByteArray)(b:Int)(a:Nat)(un:Bool): ∀m i,s.size-i<=m->(∀x,i<=x->x<ru s b a un i->okk s b a un x=true)/\(ru s b a un i<s.size->okk s b a un (ru s b a un i)=false):=by
 intro m
 induction m with
 | zero=>intro i h;rw[qh2 (by omega)];exact⟨fun x h1 h2=>by omega,fun h1=>by omega⟩
 | succ m ih=>
  intro i h
  by_cases hi:i<s.size
  ·cases ho:okk s b a un i
   ·rw[qlp ho];exact⟨fun x h1 h2=>by omega,fun _=>ho⟩
   ·rw[qzy hi ho]
    obtain⟨h1,h2⟩:=ih (i+1) (by omega)
    refine⟨fun x hx1 hx2=>?_,h2⟩
    by_cases hx:x=i
    ·rw[hx];exact ho
    ·exact h1 x (by omega) hx2
  ·rw[qh2 hi];exact⟨fun x h1 h2=>by omega,fun h1=>by omega⟩
theorem ru_is{s:ByteArray}{b:Int}{a:Nat}{un:Bool}{i p:Nat}(hi:i<=p)(hp:p<=s.size)(h: ∀x,i<=x->x<p->okk s b a un x=true)(he:p<s.size->okk s b a un p=false):ru s b a un i=p:=by
 obtain⟨h1,h2⟩:=qlo s b a un s.size i (by omega)
 obtain⟨g1,g2⟩:=qln s b a un s.size i (by omega)
 have g3:=g2 (by omega)
 by_cases c1:ru s b a un i<p
 ·have:=h _ g1 c1
  rw[h2 (by omega)]at this;cases this
 ·by_cases c2:p<ru s b a un i
  ·have:=h1 p hi c2
   rw[he (by omega)]at this;cases this
  ·omega
theorem qwj{c:Int}(h:dg c<10):48<=c/\c<=57/\dg c=c-48:=by
 unfold dg at h⊢
 split at h
 ·rename_i h';rw[if_pos h'];exact⟨h'.1,h'.2,rfl⟩
 ·split at h
  ·omega
  ·split at h
   ·omega
   ·omega
def fw(p:Int->Bool)(s:ByteArray)(k:Nat):Nat:=if _h:k<s.size then(if p (bt s k)=true then fw p s (k+1)else k)else k
termination_by s.size-k
theorem qgg{p:Int->Bool}{s:ByteArray}{k:Nat}(h: ¬k<s.size):fw p s k=k:=by rw[fw,dif_neg h]
theorem qii{p:Int->Bool}{s:ByteArray}{k:Nat}(h:p (bt s k)=false):fw p s k=k:=by
 rw[fw];split
 ·rw[if_neg (by rw[h];decide)]
 ·rfl
theorem qpe{p:Int->Bool}{s:ByteArray}{k:Nat}(hk:k<s.size)(h:p (bt s k)=true):fw p s k=fw p s (k+1):=by rw[fw,dif_pos hk,if_pos h]
theorem qih(p:Int->Bool)(s:ByteArray): ∀m k,s.size-k<=m->k<=fw p s k/\(k<=s.size->fw p s k<=s.size)/\(∀i,k<=i->i<fw p s k->p (bt s i)=true)/\(fw p s k<s.size->p (bt s (fw p s k))=false):=by
 intro m
 induction m with
 | zero=>intro k h;rw[qgg (by omega)];exact⟨by omega,fun h=>h,fun i _ _=>by omega,fun _=>by omega⟩
 | succ m ih=>
  intro k h
  by_cases hk:k<s.size
  ·cases hp:p (bt s k)
   ·rw[qii hp];exact⟨by omega,fun h=>h,fun i _ _=>by omega,fun _=>hp⟩
   ·rw[qpe hk hp]
    obtain⟨h1,h2,h3,h4⟩:=ih (k+1) (by omega)
    refine⟨by omega,fun _=>h2 (by omega),fun i h5 h6=>?_,h4⟩
    by_cases e:i=k
    ·rw[e];exact hp
    ·exact h3 i (by omega) h6
  ·rw[qgg hk];exact⟨by omega,fun h=>h,fun i _ _=>by omega,fun _=>by omega⟩
theorem qgh(p:Int->Bool)(s:ByteArray)(k:Nat):k<=fw p s k:=(qih p s _ k (zL _)).1
theorem qjp(p:Int->Bool)(s:ByteArray)(k:Nat)(h:k<=s.size):fw p s k<=s.size:=(qih p s _ k (zL _)).2.1 h
theorem qpd(p:Int->Bool)(s:ByteArray)(k i:Nat)(h1:k<=i)(h2:i<fw p s k):p (bt s i)=true:=(qih p s _ k (zL _)).2.2.1 i h1 h2
theorem qwm(p:Int->Bool)(s:ByteArray)(k:Nat)(h:fw p s k<s.size):p (bt s (fw p s k))=false:=(qih p s _ k (zL _)).2.2.2 h
theorem fw_is{p:Int->Bool}{s:ByteArray}{k e:Nat}(hk:k<=e)(he:e<=s.size)(ha: ∀i,k<=i->i<e->p (bt s i)=true)(hn:e<s.size->p (bt s e)=false):fw p s k=e:=by
 have h1:=qgh p s k
 have h2:=qjp p s k (by omega)
 by_cases a:fw p s k<e
 ·have:=qwm p s k (by omega)
  rw[ha _ h1 a]at this;cases this
 ·by_cases b:e<fw p s k
  ·have:=qpd p s k e hk b
   rw[hn (by omega)]at this;cases this
  ·omega
def bl(c:Int):Bool:=c==32||c==9||c==10||c==13
def tb(c:Int):Bool:=c==32||c==9||c==13
def tr(s:ByteArray)(a:Nat):Nat->Nat
 | 0=>0
 | e+1=>if a<e+1/\tb (bt s e)=true then tr s a e else e+1
theorem qfj(s:ByteArray)(a:Nat): ∀e,tr s a e<=e/\(a<=e->a<=tr s a e)/\(∀i,tr s a e<=i->i<e->tb (bt s i)=true)/\(a<tr s a e->tb (bt s (tr s a e-1))=false)
 | 0=>⟨zL _,fun h=>by simpa[tr]using h,fun i _ h=>by omega,fun h=>by simp[tr]at h⟩
 | e+1=>by
  obtain⟨h1,h2,h3,h4⟩:=qfj s a e
  simp only[tr]
  split
  ·rename_i h
   refine⟨by omega,fun _=>h2 (by omega),fun i i1 i2=>?_,h4⟩
   by_cases e1:i=e
   ·rw[e1];exact h.2
   ·exact h3 i i1 (by omega)
  ·rename_i h
   refine⟨zL _,fun h=>h,fun i _ _=>by omega,fun h'=>?_⟩
   cases hb:tb (bt s e)
   ·rw[Nat.add_sub_cancel];exact hb
   ·exact absurd ⟨h',hb⟩ h
theorem tr_is{s:ByteArray}{a e p:Nat}(hp:p<=e)(ha:a<p)(h1: ∀i,p<=i->i<e->tb (bt s i)=true)(h2:tb (bt s (p-1))=false):tr s a e=p:=by
 obtain⟨g1,g2,g3,g4⟩:=qfj s a e
 have g5:=g2 (by omega)
 by_cases b:tr s a e<p
 ·have:=g3 (p-1) (by omega) (by omega)
  rw[h2]at this;cases this
 ·by_cases c:p<tr s a e
  ·have:=g4 (by omega)
   rw[h1 _ (by omega) (by omega)]at this;cases this
  ·omega
def qx(s:ByteArray)(q:Int)(k:Nat):Nat:=
 if _h:k<s.size then
  (if bt s k=q then k+1
   else if bt s k=92 then(if nc s (k+1)<32\/nc s (k+1)=127 then 0 else qx s q (k+1+nl s (k+1)))
   else if nc s k<32\/nc s k=127 then 0 else qx s q (k+nl s k))
 else 0
termination_by s.size-k
decreasing_by
 ·have:=qcj s (k+1);omega
 ·have:=qcj s k;omega
theorem qmw{s:ByteArray}{q:Int}{k:Nat}(h: ¬k<s.size):qx s q k=0:=by rw[qx,dif_neg h]
theorem qmy{s:ByteArray}{q:Int}{k:Nat}(h:k<s.size)(hq:bt s k=q):qx s q k=k+1:=by rw[qx,dif_pos h,if_pos hq]
theorem qmx{s:ByteArray}{q:Int}{k:Nat}(h:k<s.size)(hq:bt s k≠q)(h9:bt s k=92):qx s q k=if nc s (k+1)<32\/nc s (k+1)=127 then 0 else qx s q (k+1+nl s (k+1)):=by rw[qx,dif_pos h,if_neg hq,if_pos h9]
theorem qvc{s:ByteArray}{q:Int}{k:Nat}(h:k<s.size)(hq:bt s k≠q)(h9:bt s k≠92):qx s q k=if nc s k<32\/nc s k=127 then 0 else qx s q (k+nl s k):=by rw[qx,dif_pos h,if_neg hq,if_neg h9]
theorem qka(s:ByteArray)(q:Int): ∀m k,s.size-k<=m->qx s q k=0\/(k<qx s q k/\qx s q k<=s.size):=by
 intro m
 induction m with
 | zero=>intro k h;exact .inl (qmw (by omega))
 | succ m ih=>
  intro k h
  by_cases hk:k<s.size
  ·by_cases hq:bt s k=q
   ·rw[qmy hk hq];exact .inr ⟨by omega,by omega⟩
   ·by_cases h9:bt s k=92
    ·rw[qmx hk hq h9]
     split
     ·exact .inl rfl
     ·have:=qcj s (k+1)
      rcases ih (k+1+nl s (k+1)) (by omega)with h' | h'
      ·exact .inl h'
      ·exact .inr ⟨by omega,h'.2⟩
    ·rw[qvc hk hq h9]
     split
     ·exact .inl rfl
     ·have:=qcj s k
      rcases ih (k+nl s k) (by omega)with h' | h'
      ·exact .inl h'
      ·exact .inr ⟨by omega,h'.2⟩
  ·exact .inl (qmw hk)
def che(s:ByteArray)(k:Nat):Nat:=
 if k+1<s.size/\bt s (k+1)=92 then(if 0<=(esc s (k+1)).1 then k+1+(esc s (k+1)).2 else 0)
 else if nc s (k+1)<=32\/nc s (k+1)=127 then 0 else k+1+nl s (k+1)
def dbe(s:ByteArray)(a:Nat):Nat->Int
 | 0=>0
 | n+1=>dbe s a n*10+(bt s (a+n)-48)
def ise(c:Int):Bool:=c==69||c==101
def whe(s:ByteArray)(a:Nat):Nat:=
 let m:=ru s 10 a false a
 let n:=ru s 10 a true a
 let B:=dbe s a (m-a)
 let r:=ru s B (m+1) true (m+1)
 if(a<m/\m<a+3/\m<s.size/\bt s m=35)/\2<=B/\B<=36/\m+1<r then r else n
def exb(s:ByteArray)(k:Nat):Nat:=if bt s k=43\/bt s k=45 then k+1 else k
def bke(s:ByteArray)(a:Nat):Nat:=
 let n:=ru s 10 a true a
 let K:=ru s 10 (n+1) true (n+1)
 let j:=exb s (K+1)
 let L:=ru s 10 j true j
 if a<n/\n<s.size/\bt s n=46 then(if K=n+1 then a else if K<s.size/\ise (bt s K)=true then(if j<L then L else K)else K)else a
def ne(s:ByteArray)(a:Nat):Nat:=if bke s a=a then whe s a else bke s a
def num(s:ByteArray)(a:Nat):Int×Nat:=
 if ne s a=a\/(ne s a<s.size/\inn (bt s (ne s a))=true)then(0,0)
 else if bke s a=a/\ne s a<s.size/\bt s (ne s a)=35/\ ¬ix s 35 a<ne s a then(0,0)
 else(if bke s a=a then 3 else 4,ne s a)
def fst(c:Int):Bool:=(decide (65<=c)&&decide (c<=90))||(decide (97<=c)&&decide (c<=122))||c==95
def mcb(s:ByteArray)(k:Nat):Nat:=if bt s (k+1)=63 then k+2 else k+1
def tk(kd:Int)(e:Nat):Int×Nat:=if e=0 then(0,0)else(kd,e)
def one(s:ByteArray)(k:Nat):Int×Nat:=
 if bt s k=37 then(11,tr s k (ix s 10 k))
 else if bt s k=46/\(k+1=s.size\/bt s (k+1)=37\/k+1<fw bl s (k+1))then(10,k+1)
 else if beg (bt s k)=3 then num s k
 else if 0<beg (bt s k)then(if rs (s.extract k (fw inn s k))=true then 8 else beg (bt s k),fw inn s k)
 else if bt s k=39 then tk 1 (qx s 39 (k+1))
 else if bt s k=34 then tk 6 (qx s 34 (k+1))
 else if bt s k=36 then tk 5 (che s k)
 else if bt s k=63 then(if fst (bt s (mcb s k))=true then(7,fw inn s (mcb s k))else(0,0))
 else if lgL (s.data.toList.drop k)=0 then(0,0)else(9,k+lgL (s.data.toList.drop k))
structure Sim (s:ByteArray) (k:Nat) (t:ByteArray) (b M:Nat):Prop where
 eq: ∀j,j<M->bt s (k+j)=bt t (b+j)
 hs:k+M<=s.size
 ht:b+M<=t.size
 stop:(b+M<t.size/\bt t (b+M)=10)\/(b+M=t.size/\k+M=s.size)
variable{s t:ByteArray}{k b M:Nat}
theorem Sim.at_(h:Sim s k t b M){e:Nat}(he:e<=M):(e<M/\bt t (b+e)=bt s (k+e))\/(e=M/\bt t (b+e)=10/\b+e<t.size)\/(e=M/\b+e=t.size/\k+e=s.size/\bt t (b+e)=0/\bt s (k+e)=0):=by
 by_cases h1:e<M
 ·exact .inl ⟨h1,(h.eq e h1).symm⟩
 ·obtain rfl:e=M:=by omega
  rcases h.stop with⟨h2,h3⟩ | ⟨h2,h3⟩
  ·exact .inr (.inl ⟨rfl,h3,h2⟩)
  ·exact .inr (.inr ⟨rfl,h2,h3,bt_end t (by omega),bt_end s (by omega)⟩)
theorem Sim.mfw(h:Sim s k t b M){p:Int->Bool}(h10:p 10=false){a e:Nat}(ha:a<=e)(he:e<=M)(hf:fw p s (k+a)=k+e):fw p t (b+a)=b+e:=by
 have hM:=h.ht
 refine fw_is (by omega) (by omega) (fun i h1 h2=>?_) (fun h1=>?_)
 ·have:=qpd p s (k+a) (k+(i-b)) (by omega) (by omega)
  rw[h.eq (i-b) (by omega),show b+(i-b)=i by omega]at this
  exact this
 ·rcases h.at_ he with⟨h2,h3⟩ | ⟨h2,h3,-⟩ | ⟨h2,h3,-⟩
  ·rw[h3,<-hf]
   refine qwm p s _ ?_
   have:=h.hs
   omega
  ·rw[h3];exact h10
  ·omega
theorem Sim.mnc(h:Sim s k t b M){p:Nat}(hc: ¬nc s (k+p)<0)(hp:p+nl s (k+p)<=M):nc t (b+p)=nc s (k+p)/\nl t (b+p)=nl s (k+p):=by
 have e:nl s (k+p)=ln (bt s (k+p)):=by unfold nl;rw[if_neg hc]
 have h1:=qcj s (k+p)
 have h0:=h.eq p (by omega)
 rw[e]at hp
 have hs:=h.hs
 have ht:=h.ht
 have hn:nc t (b+p)=nc s (k+p):=by
  refine qut h0.symm (by omega) (by omega) (fun x hx=>?_)
  have:=h.eq (p+x) (by omega)
  rw[<-zK,<-zK]at this
  exact this.symm
 exact⟨hn,by unfold nl;rw[hn,h0]⟩
theorem Sim.mqe(h:Sim s k t b M)(q:Int): ∀m a,M-a<=m-> ∀e,qx s q (k+a)=k+e->qx s q (k+a)≠0->e<=M->qx t q (b+a)=b+e:=by
 intro m
 induction m with
 | zero=>
  intro a hm e he h0 heM
  rcases qka s q _ (k+a) (zL _)with h1 | h1
  ·exact absurd h1 h0
  ·omega
 | succ m ih=>
  intro a hm e he h0 heM
  have hb:=qka s q _ (k+a) (zL _)
  rcases hb with h1 | ⟨h1,h2⟩
  ·exact absurd h1 h0
  have haM:a<M:=by omega
  have hk:k+a<s.size:=by omega
  have ht:b+a<t.size:=by have:=h.ht;omega
  have e0:=h.eq a haM
  by_cases hq:bt s (k+a)=q
  ·rw[qmy hk hq]at he
   rw[qmy ht (by rw[<-e0];exact hq)]
   omega
  ·by_cases h9:bt s (k+a)=92
   ·rw[qmx hk hq h9]at he h0 h1
    rw[qmx ht (by rw[<-e0];exact hq) (by rw[<-e0];exact h9)]
    by_cases hc:nc s (k+a+1)<32\/nc s (k+a+1)=127
    ·rw[if_pos hc]at h0;exact absurd rfl h0
    ·rw[if_neg hc]at he h0 h1
     have hb2:=qka s q _ (k+a+1+nl s (k+a+1)) (zL _)
     have hb3:k+a+1+nl s (k+a+1)<k+e:=by omega
     obtain⟨n1,n2⟩:=h.mnc (p:=a+1) (by rw[<-zK];omega) (by rw[<-zK];omega)
     rw[<-zK,<-zK]at n1 n2
     rw[n1,n2,if_neg hc]
     have hp:=qcj s (k+a+1)
     have:=ih (a+1+nl s (k+a+1)) (by omega) e (by rw[show k+(a+1+nl s (k+a+1))=k+a+1+nl s (k+a+1)by omega];exact he) (by rw[show k+(a+1+nl s (k+a+1))=k+a+1+nl s (k+a+1)by omega];exact h0) heM
     rw[show b+a+1+nl s (k+a+1)=b+(a+1+nl s (k+a+1))by omega]
     exact this
   ·rw[qvc hk hq h9]at he h0 h1
    rw[qvc ht (by rw[<-e0];exact hq) (by rw[<-e0];exact h9)]
    by_cases hc:nc s (k+a)<32\/nc s (k+a)=127
    ·rw[if_pos hc]at h0;exact absurd rfl h0
    ·rw[if_neg hc]at he h0 h1
     have hb2:=qka s q _ (k+a+nl s (k+a)) (zL _)
     have hb3:k+a+nl s (k+a)<k+e:=by omega
     obtain⟨n1,n2⟩:=h.mnc (p:=a) (by omega) (by omega)
     rw[n1,n2,if_neg hc]
     have hp:=qcj s (k+a)
     have:=ih (a+nl s (k+a)) (by omega) e (by rw[<-zK];exact he) (by rw[<-zK];exact h0) heM
     rw[zK]
     exact this
theorem dg_10:dg 10=36:=by decide
theorem Sim.mrc(h:Sim s k t b M)(B:Int)(hB:B<=36): ∀m a,a+rc s B m (k+a)<=M->rc t B m (b+a)=rc s B m (k+a)/\ ∀v,rv t B m (b+a) v=rv s B m (k+a) v
 | 0,_,_=>⟨rfl,fun _=>rfl⟩
 | m+1,a,hM=>by
  by_cases hd:dg (bt s (k+a))<B
  ·have e1:rc s B (m+1) (k+a)=1+rc s B m (k+a+1):=by simp only[rc];rw[if_pos hd]
   rw[e1]at hM
   have e0:=h.eq a (by omega)
   obtain⟨i1,i2⟩:=Sim.mrc h B hB m (a+1) (by rw[<-zK];omega)
   rw[<-zK,<-zK]at i1 i2
   refine⟨?_,fun v=>?_⟩
   ·rw[e1];simp only[rc];rw[<-e0,if_pos hd,i1]
   ·simp only[rv];rw[<-e0,if_pos hd,if_pos hd,i2]
  ·have e1:rc s B (m+1) (k+a)=0:=by simp only[rc];rw[if_neg hd]
   rw[e1]at hM
   have hd': ¬dg (bt t (b+a))<B:=by
    rcases h.at_ (e:=a) (by omega)with⟨h2,h3⟩ | ⟨h2,h3,-⟩ | ⟨h2,-,-,h3,-⟩
    ·rw[h3];exact hd
    ·rw[h3,dg_10];omega
    ·rw[h3,ql0];omega
   refine⟨?_,fun v=>?_⟩
   ·rw[e1];simp only[rc];rw[if_neg hd']
   ·simp only[rv];rw[if_neg hd',if_neg hd]
theorem Sim.mesc(h:Sim s k t b M){a:Nat}(h0:0<=(esc s (k+a)).1)(hM:a+(esc s (k+a)).2<=M):esc t (b+a)=esc s (k+a):=by
 have hin:k+a<s.size/\bt s (k+a)=92:=by
  apply Classical.byContradiction
  intro h'
  unfold esc at h0
  rw[if_neg h']at h0
  exact absurd h0 (by decide)
 have hpt:qgl (mnt s (k+a+1)).1=true:=by
  apply Classical.byContradiction
  intro h'
  unfold esc at h0
  rw[if_pos hin,if_neg h']at h0
  exact absurd h0 (by decide)
 have he:esc s (k+a)=((mnt s (k+a+1)).1,1+(mnt s (k+a+1)).2):=by
  unfold esc;rw[if_pos hin,if_pos hpt]
 rw[he]at hM⊢
 simp only at hM
 have hm0:0<=(mnt s (k+a+1)).1:=by
  unfold qgl at hpt
  have:=of_decide_eq_true hpt
  omega
 have hmain:mnt t (b+a+1)=mnt s (k+a+1):=by
  unfold mnt at hm0 hM⊢
  by_cases c1:0<rc s 8 3 (k+a+1)
  ·rw[if_pos c1]at hM
   obtain⟨r1,r2⟩:=h.mrc 8 (by omega) 3 (a+1) (by rw[<-zK];simp only at hM;omega)
   rw[<-zK,<-zK]at r1 r2
   rw[if_pos c1,r1,if_pos c1,r2]
  ·have c1t:rc t 8 3 (b+a+1)=rc s 8 3 (k+a+1):=by
    have:=(h.mrc 8 (by omega) 3 (a+1) (by rw[<-zK];omega)).1
    rw[<-zK,<-zK]at this
    exact this
   rw[if_neg c1]at hM hm0
   rw[c1t,if_neg c1,if_neg c1]
   by_cases c2:bt s (k+a+1)=120
   ·rw[if_pos c2]at hM hm0
    have hx:3<=(hxd s (k+a+1)).2:=by
     unfold hxd at hm0⊢
     split
     ·rename_i c3
      rw[if_pos c3]at hm0
      split
      ·rename_i c4;rw[if_pos c4]at hm0;exact absurd hm0 (by decide)
      ·simp only;omega
     ·rename_i c3
      rw[if_neg c3]at hm0
      split
      ·rename_i c4;rw[if_pos c4]at hm0;exact absurd hm0 (by decide)
      ·simp only;omega
    have e1:=h.eq (a+1) (by omega)
    have e2:=h.eq (a+2) (by omega)
    rw[<-zK,<-zK]at e1 e2
    rw[if_pos c2,<-e1,if_pos c2]
    unfold hxd at hm0 hM⊢
    have e3:bt t (b+a+1+1)=bt s (k+a+1+1):=e2.symm
    rw[e3]
    by_cases c3:bt s (k+a+1+1)=123
    ·rw[if_pos c3]at hm0 hM
     rw[if_pos c3,if_pos c3]
     by_cases c4:rc s 16 6 (k+a+1+2)=0\/bt s (k+a+1+2+rc s 16 6 (k+a+1+2))≠125
     ·rw[if_pos c4]at hm0;exact absurd hm0 (by decide)
     ·rw[if_neg c4]at hM
      simp only at hM
      obtain⟨r1,r2⟩:=h.mrc 16 (by omega) 6 (a+3) (by rw[show k+(a+3)=k+a+1+2 by omega];omega)
      rw[<-zK,<-zK]at r1 r2
      have r1':rc t 16 6 (b+a+1+2)=rc s 16 6 (k+a+1+2):=r1
      have r2': ∀v,rv t 16 6 (b+a+1+2) v=rv s 16 6 (k+a+1+2) v:=r2
      have e4:=h.eq (a+3+rc s 16 6 (k+a+1+2)) (by omega)
      have e5:bt t (b+a+1+2+rc s 16 6 (k+a+1+2))=bt s (k+a+1+2+rc s 16 6 (k+a+1+2)):=by
       rw[show b+a+1+2+rc s 16 6 (k+a+1+2)=b+(a+3+rc s 16 6 (k+a+1+2))by omega,<-e4]
       congr 1;omega
      rw[r1',e5,if_neg c4,if_neg c4,r2']
    ·rw[if_neg c3]at hm0 hM
     rw[if_neg c3,if_neg c3]
     by_cases c4:rc s 16 2 (k+a+1+1)<2
     ·rw[if_pos c4]at hm0;exact absurd hm0 (by decide)
     ·rw[if_neg c4]at hM
      simp only at hM
      have hrc:=qhe s 16 2 (k+a+1+1)
      obtain⟨r1,r2⟩:=h.mrc 16 (by omega) 2 (a+2) (by rw[show k+(a+2)=k+a+1+1 by omega];omega)
      rw[<-zK,<-zK]at r1 r2
      have r1':rc t 16 2 (b+a+1+1)=rc s 16 2 (k+a+1+1):=r1
      have r2': ∀v,rv t 16 2 (b+a+1+1) v=rv s 16 2 (k+a+1+1) v:=r2
      rw[r1',if_neg c4,if_neg c4,r2']
   ·rw[if_neg c2]at hM hm0
    rw[if_neg c2]
    by_cases c3:bt s (k+a+1)=94
    ·rw[if_pos c3]at hM hm0
     have hc2:(ctl (bt s (k+a+1+1))).2=2:=by
      unfold ctl at hm0⊢
      split
      ·rfl
      ·rename_i c4;rw[if_neg c4]at hm0;exact absurd hm0 (by decide)
     have e1:=h.eq (a+1) (by omega)
     have e2:=h.eq (a+2) (by omega)
     rw[<-zK,<-zK]at e1 e2
     have e3:bt t (b+a+1+1)=bt s (k+a+1+1):=e2.symm
     rw[if_pos c3,<-e1,if_neg c2,if_pos c3,e3]
    ·rw[if_neg c3]at hM hm0
     rw[if_neg c3]
     by_cases c4:s.size<=k+a+1\/nc s (k+a+1)<32
     ·rw[if_pos c4]at hm0;exact absurd hm0 (by decide)
     ·rw[if_neg c4]at hM hm0
      rw[if_neg c4]
      have hl:a+1+nl s (k+a+1)<=M:=by
       split at hM
       all_goals simp only at hM;omega
      obtain⟨n1,n2⟩:=h.mnc (p:=a+1) (by rw[<-zK];omega) (by rw[<-zK];omega)
      rw[<-zK,<-zK]at n1 n2
      have hp:=qcj s (k+a+1)
      have e1:=h.eq (a+1) (by omega)
      rw[<-zK,<-zK]at e1
      have ht:b+a+1<t.size:=by have:=h.ht;omega
      rw[<-e1,if_neg c2,if_neg c3,n1,n2,if_neg (by omega)]
 have hn:0< (mnt s (k+a+1)).2:=by
  have:=hm0
  unfold mnt at this⊢
  split
  ·assumption
  ·rename_i c1
   rw[if_neg c1]at this
   split
   ·rename_i c2
    rw[if_pos c2]at this
    unfold hxd at this⊢
    split
    ·rename_i c3
     rw[if_pos c3]at this
     split
     ·rename_i c4;rw[if_pos c4]at this;exact absurd this (by decide)
     ·simp only;omega
    ·rename_i c3
     rw[if_neg c3]at this
     split
     ·rename_i c4;rw[if_pos c4]at this;exact absurd this (by decide)
     ·simp only;omega
   ·rename_i c2
    rw[if_neg c2]at this
    split
    ·rename_i c3
     rw[if_pos c3]at this
     unfold ctl at this⊢
     split
     ·simp
     ·rename_i c4;rw[if_neg c4]at this;exact absurd this (by decide)
    ·rename_i c3
     rw[if_neg c3]at this
     split
     ·rename_i c4;rw[if_pos c4]at this;exact absurd this (by decide)
     ·have:=qcj s (k+a+1)
      split<;>exact this
 have e0:=h.eq a (by omega)
 have ht:b+a<t.size:=by have:=h.ht;omega
 unfold esc
 rw[if_pos ⟨ht,by rw[<-e0];exact hin.2⟩,hmain,if_pos hpt]
variable{s t:ByteArray}{k b M:Nat}
theorem qdk{s:ByteArray}{B:Int}{a i:Nat}{un:Bool}(hB:B<=36):okk s B a un i=true↔(dg (bt s i)<B\/(un=true/\bt s i=95/\a<i/\bt s (i-1)≠95/\i+1<s.size/\dg (bt s (i+1))<B)):=by
 unfold okk
 simp only[zC,zB,decide_eq_true_eq,beq_iff_eq,bne_iff_ne,qm3 hB,and_assoc]
theorem qn3(s:ByteArray)(B:Int)(a:Nat)(un:Bool)(x:Nat)(h1:a<=x)(h2:x<ru s B a un a):okk s B a un x=true:=(qlo s B a un s.size a (by omega)).1 x h1 h2
theorem qrv(s:ByteArray)(B:Int)(a:Nat)(un:Bool)(h:ru s B a un a<s.size):okk s B a un (ru s B a un a)=false:=(qlo s B a un s.size a (by omega)).2 h
theorem qfs(s:ByteArray)(B:Int)(a:Nat)(un:Bool):a<=ru s B a un a:=(qln s B a un s.size a (by omega)).1
theorem qru(s:ByteArray)(B:Int)(a:Nat)(un:Bool)(h:a<=s.size):ru s B a un a<=s.size:=(qln s B a un s.size a (by omega)).2 h
theorem not10{B:Int}(hB:B<=36): ¬dg 10<B:=by rw[dg_10];omega
theorem Sim.mru(h:Sim s k t b M){B:Int}(hB:B<=36)(un:Bool){a e:Nat}(_:a<=M)(he:e<=M)(hr:ru s B (k+a) un (k+a)=k+e):ru t B (b+a) un (b+a)=b+e:=by
 have hae:a<=e:=by have:=qfs s B (k+a) un;omega
 have hs:=h.hs
 have ht:=h.ht
 refine ru_is (by omega) (by omega) (fun x h1 h2=>?_) (fun h1=>?_)
 ·obtain⟨y,rfl⟩: ∃y,x=b+y:=⟨x-b,by omega⟩
  have ho:=qn3 s B (k+a) un (k+y) (by omega) (by omega)
  rw[qdk hB]at ho⊢
  have e0:=h.eq y (by omega)
  rw[<-e0]
  rcases ho with ho | ⟨o1,o2,o3,o4,o5,o6⟩
  ·exact .inl ho
  ·refine .inr ⟨o1,o2,by omega,?_,?_⟩
   ·have:=h.eq (y-1) (by omega)
    rw[show k+(y-1)=k+y-1 by omega,show b+(y-1)=b+y-1 by omega]at this
    rw[<-this];exact o4
   ·have hy:y+1<e:=by
     apply Classical.byContradiction
     intro h'
     have e2:k+y+1=k+e:=by omega
     have:=qrv s B (k+a) un (by rw[hr];omega)
     rw[hr,<-e2]at this
     have h3:okk s B (k+a) un (k+y+1)=true:=(qdk hB).2 (.inl o6)
     rw[this]at h3;cases h3
    have:=h.eq (y+1) (by omega)
    rw[<-zK,<-zK]at this
    exact⟨by omega,by rw[<-this];exact o6⟩
 ·cases ho:okk t B (b+a) un (b+e)
  ·rfl
  ·exfalso
   rw[qdk hB]at ho
   rcases h.at_ he with⟨h2,h3⟩ | ⟨h2,h3,-⟩ | ⟨h2,h3,-⟩
   ·have hn:=qrv s B (k+a) un (by rw[hr];omega)
    rw[hr]at hn
    have hy:okk s B (k+a) un (k+e)=true:=by
     rw[qdk hB]
     rw[h3]at ho
     rcases ho with ho | ⟨o1,o2,o3,o4,o5,o6⟩
     ·exact .inl ho
     ·refine .inr ⟨o1,o2,by omega,?_,?_⟩
      ·have:=h.eq (e-1) (by omega)
       rw[show k+(e-1)=k+e-1 by omega,show b+(e-1)=b+e-1 by omega]at this
       rw[this];exact o4
      ·rcases h.at_ (e:=e+1) (by omega)with⟨h4,h5⟩ | ⟨h4,h5,-⟩ | ⟨h4,h5,-⟩
       ·rw[<-zK,<-zK]at h5
        exact⟨by omega,by rw[<-h5];exact o6⟩
       ·rw[<-zK]at h5
        rw[h5]at o6
        exact absurd o6 (not10 hB)
       ·omega
    rw[hn]at hy;cases hy
   ·rw[h3]at ho
    rcases ho with ho | ⟨-,o2,-⟩
    ·exact not10 hB ho
    ·exact absurd o2 (by decide)
   ·omega
theorem ru_mono(s:ByteArray)(a:Nat):ru s 10 a false a<=ru s 10 a true a:=by
 apply Classical.byContradiction
 intro h
 have h1:=qn3 s 10 a false (ru s 10 a true a) (qfs s 10 a true) (by omega)
 have h2:ru s 10 a true a<s.size:=by
  by_cases ha:a<=s.size
  ·have:=qru s 10 a false ha;omega
  ·exfalso
   rw[qh2 (by omega)]at h;have:=qfs s 10 a true;omega
 have h3:=qrv s 10 a true h2
 rw[qdk (by omega)]at h1
 have h4:okk s 10 a true (ru s 10 a true a)=true:=by
  rw[qdk (by omega)]
  rcases h1 with h1 | ⟨h1,-⟩
  ·exact .inl h1
  ·cases h1
 rw[h3]at h4;cases h4
theorem qzz{s:ByteArray}{a:Nat}(ha:ru s 10 a false a<s.size)(h:bt s (ru s 10 a false a)=35):ru s 10 a true a=ru s 10 a false a:=by
 refine ru_is (qfs s 10 a false) (by omega) (fun x h1 h2=>?_) (fun _=>?_)
 ·have:=qn3 s 10 a false x h1 h2
  rw[qdk (by omega)]at this⊢
  rcases this with h3 | ⟨h3,-⟩
  ·exact .inl h3
  ·cases h3
 ·cases ho:okk s 10 a true (ru s 10 a false a)
  ·rfl
  ·rw[qdk (by omega),h]at ho
   rcases ho with ho | ⟨-,ho,-⟩
   ·exact absurd ho (by decide)
   ·exact absurd ho (by decide)
theorem qp3(h: ∀j,j<M->bt s (k+j)=bt t (b+j)): ∀n,n<=M->dbe s k n=dbe t b n
 | 0,_=>rfl
 | n+1,hn=>by simp only[dbe];rw[qp3 h n (by omega),h n (by omega)]
theorem qh6(s:ByteArray)(a:Nat):(∃m B r,m=ru s 10 a false a/\B=dbe s a (m-a)/\r=ru s B (m+1) true (m+1)/\a<m/\m<a+3/\m<s.size/\bt s m=35/\2<=B/\B<=36/\m+1<r/\whe s a=r)\/
 (whe s a=ru s 10 a true a/\ ¬((a<ru s 10 a false a/\ru s 10 a false a<a+3/\ru s 10 a false a<s.size/\bt s (ru s 10 a false a)=35)/\2<=dbe s a (ru s 10 a false a-a)/\dbe s a (ru s 10 a false a-a)<=36/\
  ru s 10 a false a+1<ru s (dbe s a (ru s 10 a false a-a)) (ru s 10 a false a+1) true (ru s 10 a false a+1))):=by
 by_cases h:(a<ru s 10 a false a/\ru s 10 a false a<a+3/\ru s 10 a false a<s.size/\bt s (ru s 10 a false a)=35)/\2<=dbe s a (ru s 10 a false a-a)/\dbe s a (ru s 10 a false a-a)<=36/\
  ru s 10 a false a+1<ru s (dbe s a (ru s 10 a false a-a)) (ru s 10 a false a+1) true (ru s 10 a false a+1)
 ·exact .inl ⟨_,_,_,rfl,rfl,rfl,h.1.1,h.1.2.1,h.1.2.2.1,h.1.2.2.2,h.2.1,h.2.2.1,h.2.2.2,by unfold whe;simp only;rw[if_pos h]⟩
 ·exact .inr ⟨by unfold whe;simp only;rw[if_neg h],h⟩
theorem whe_n(s:ByteArray)(a:Nat):ru s 10 a true a<=whe s a:=by
 rcases qh6 s a with⟨m,B,r,rfl,rfl,rfl,h1,h2,h3,h4,h5,h6,h7,h8⟩ | ⟨h,-⟩
 ·rw[h8,qzz h3 h4];omega
 ·omega
theorem Sim.mwhe(h:Sim s k t b M){e:Nat}(he:e<=M)(hw:whe s k=k+e):whe t b=b+e:=by
 have hs:=h.hs
 have ht:=h.ht
 have r0: ∀(un:Bool) (x:Nat),x<=M->ru s 10 k un k=k+x->ru t 10 b un b=b+x:=fun un x hx hr=>h.mru (a:=0) (by omega) un (zM _) hx hr
 rcases qh6 s k with⟨m,B,r,hm,hB,hr,h1,h2,h3,h4,h5,h6,h7,h8⟩ | ⟨h1,h2⟩
 ·obtain⟨x,rfl⟩: ∃x,m=k+x:=⟨m-k,by omega⟩
  have hre:r=k+e:=by omega
  have hx:x+1<=M:=by omega
  have m1:=r0 false x (by omega) hm.symm
  have e0:=h.eq x (by omega)
  have eB:dbe t b x=B:=by rw[hB,show k+x-k=x by omega];exact(qp3 h.eq x (by omega)).symm
  have m2:=h.mru h6 true (a:=x+1) (e:=e) hx he (by rw[<-zK,<-hr];exact hre)
  rw[<-zK]at m2
  unfold whe
  simp only
  rw[m1,show b+x-b=x by omega,eB,m2,if_pos ⟨⟨by omega,by omega,by omega,by rw[<-e0];exact h4⟩,h5,h6,by omega⟩]
 ·have n1:=r0 true e he (by rw[<-h1];exact hw)
  obtain⟨x,hx⟩: ∃x,ru s 10 k false k=k+x:=⟨ru s 10 k false k-k,by have:=qfs s 10 k false;omega⟩
  have hxe:x<=e:=by have:=ru_mono s k;omega
  have m1:=r0 false x (by omega) hx
  have eB:dbe t b x=dbe s k x:=(qp3 h.eq x (by omega)).symm
  unfold whe
  simp only
  rw[m1,show b+x-b=x by omega,eB,n1]
  rw[hx,show k+x-k=x by omega]at h2
  rw[if_neg]
  rintro⟨⟨g1,g2,g3,g4⟩,g5,g6,g7⟩
  rcases h.at_ (e:=x) (by omega)with⟨a1,a2⟩ | ⟨a1,a2,-⟩ | ⟨a1,a2,-⟩
  ·rw[a2]at g4
   obtain⟨y,hy⟩: ∃y,ru s (dbe s k x) (k+x+1) true (k+x+1)=k+x+1+y:=⟨ru s (dbe s k x) (k+x+1) true (k+x+1)- (k+x+1),by have:=qfs s (dbe s k x) (k+x+1) true;omega⟩
   by_cases hy0:y=0
   ·have m2:=h.mru g6 true (a:=x+1) (e:=x+1) (by omega) (by omega) (by rw[<-zK,hy,hy0])
    rw[<-zK]at m2
    omega
   ·exact h2 ⟨⟨by omega,by omega,by omega,g4⟩,g5,g6,by omega⟩
  ·rw[a2]at g4;exact absurd g4 (by decide)
  ·omega
theorem qhk{s:ByteArray}{a n K j L:Nat}(hn:n=ru s 10 a true a)(hK:K=ru s 10 (n+1) true (n+1))(hj:j=exb s (K+1))(hL:L=ru s 10 j true j):
 bke s a=if a<n/\n<s.size/\bt s n=46 then(if K=n+1 then a else if K<s.size/\ise (bt s K)=true then(if j<L then L else K)else K)else a:=by
 unfold bke
 simp only
 rw[<-hn,<-hK,<-hj,<-hL]
theorem Sim.mbke(h:Sim s k t b M){e:Nat}(he:e<=M)(h0:e≠0)(hb:bke s k=k+e)(hi: ¬(k+e<s.size/\inn (bt s (k+e))=true)):bke t b=b+e:=by
 have hs:=h.hs
 have ht:=h.ht
 have r0: ∀(x:Nat),x<=M->ru s 10 k true k=k+x->ru t 10 b true b=b+x:=fun x hx hr=>h.mru (a:=0) (by omega) true (zM _) hx hr
 obtain⟨n,hn⟩: ∃n,n=ru s 10 k true k:=⟨_,rfl⟩
 obtain⟨K,hK⟩: ∃K,K=ru s 10 (n+1) true (n+1):=⟨_,rfl⟩
 obtain⟨j,hj⟩: ∃j,j=exb s (K+1):=⟨_,rfl⟩
 obtain⟨L,hL⟩: ∃L,L=ru s 10 j true j:=⟨_,rfl⟩
 have hc:=qhk hn hK hj hL
 rw[hb]at hc
 by_cases c1:k<n/\n<s.size/\bt s n=46
 ·rw[if_pos c1]at hc
  by_cases c2:K=n+1
  ·rw[if_pos c2]at hc;omega
  ·rw[if_neg c2]at hc
   have hKl:n+1<=K:=by rw[hK];exact qfs s 10 (n+1) true
   have hjl:K+1<=j:=by rw[hj];unfold exb;split<;>omega
   have hKe:K<=k+e:=by
    split at hc
    ·split at hc<;>omega
    ·omega
   obtain⟨x,rfl⟩: ∃x,n=k+x:=⟨n-k,by omega⟩
   obtain⟨y,rfl⟩: ∃y,K=k+y:=⟨K-k,by omega⟩
   have n1:=r0 x (by omega) hn.symm
   have e0:=h.eq x (by omega)
   have K1:=h.mru (B:=10) (by omega) true (a:=x+1) (e:=y) (by omega) (by omega) (by rw[<-zK];exact hK.symm)
   rw[<-zK]at K1
   rw[qhk n1.symm K1.symm rfl rfl,if_pos ⟨by omega,by omega,by rw[<-e0];exact c1.2.2⟩,if_neg (by omega)]
   by_cases c3:k+y<s.size/\ise (bt s (k+y))=true
   ·rw[if_pos c3]at hc
    by_cases c4:j<L
    ·rw[if_pos c4]at hc
     have e1:=h.eq y (by omega)
     have e2:=h.eq (y+1) (by omega)
     rw[<-zK,<-zK]at e2
     obtain⟨z,rfl⟩: ∃z,j=k+z:=⟨j-k,by omega⟩
     have j1:exb t (b+y+1)=b+z:=by
      unfold exb at hj⊢
      rw[<-e2]
      split
      ·rename_i c5;rw[if_pos c5]at hj;omega
      ·rename_i c5;rw[if_neg c5]at hj;omega
     have L1:=h.mru (B:=10) (by omega) true (a:=z) (e:=e) (by omega) he (by rw[<-hL];exact hc.symm)
     rw[if_pos ⟨by omega,by rw[<-e1];exact c3.2⟩,j1,L1,if_pos (by omega)]
    ·rw[if_neg c4]at hc
     exfalso
     refine hi ⟨by omega,?_⟩
     have e1:k+e=k+y:=by omega
     rw[e1]
     have:=c3.2
     unfold ise at this
     simp only[zC,beq_iff_eq]at this
     rcases this with h' | h'<;>rw[h']<;>decide
   ·rw[if_neg c3]at hc
    have hye:y=e:=by omega
    subst hye
    rw[if_neg]
    rintro⟨g1,g2⟩
    rcases h.at_ (e:=y) he with⟨a1,a2⟩ | ⟨a1,a2,-⟩ | ⟨a1,a2,-⟩
    ·rw[a2]at g2
     exact c3 ⟨by omega,g2⟩
    ·rw[a2]at g2;exact absurd g2 (by decide)
    ·omega
 ·rw[if_neg c1]at hc;omega
theorem Sim.mbke0(h:Sim s k t b M){e:Nat}(he:e<=M)(hw:whe s k=k+e)(hb:bke s k=k):bke t b=b:=by
 have hs:=h.hs
 have ht:=h.ht
 obtain⟨n,hn⟩: ∃n,n=ru s 10 k true k:=⟨_,rfl⟩
 obtain⟨K,hK⟩: ∃K,K=ru s 10 (n+1) true (n+1):=⟨_,rfl⟩
 obtain⟨j,hj⟩: ∃j,j=exb s (K+1):=⟨_,rfl⟩
 obtain⟨L,hL⟩: ∃L,L=ru s 10 j true j:=⟨_,rfl⟩
 have hc:=qhk hn hK hj hL
 rw[hb]at hc
 have hnl:k<=n:=by rw[hn];exact qfs s 10 k true
 have hne:n<=k+e:=by rw[hn,<-hw];exact whe_n s k
 have hKl:n+1<=K:=by rw[hK];exact qfs s 10 (n+1) true
 have hjl:K+1<=j:=by rw[hj];unfold exb;split<;>omega
 obtain⟨x,rfl⟩: ∃x,n=k+x:=⟨n-k,by omega⟩
 have n1:ru t 10 b true b=b+x:=h.mru (a:=0) (by omega) true (zM _) (by omega) hn.symm
 rw[qhk n1.symm rfl rfl rfl]
 by_cases c1:b<b+x/\b+x<t.size/\bt t (b+x)=46
 ·rw[if_pos c1]
  rcases h.at_ (e:=x) (by omega)with⟨a1,a2⟩ | ⟨a1,a2,-⟩ | ⟨a1,a2,-⟩
  ·have c2:k<k+x/\k+x<s.size/\bt s (k+x)=46:=⟨by omega,by omega,by rw[<-a2];exact c1.2.2⟩
   rw[if_pos c2]at hc
   have hK2:K=k+x+1:=by
    apply Classical.byContradiction
    intro h'
    rw[if_neg h']at hc
    split at hc
    ·split at hc<;>omega
    ·omega
   have K1:=h.mru (B:=10) (by omega) true (a:=x+1) (e:=x+1) (by omega) (by omega) (by rw[<-zK,<-hK];omega)
   rw[<-zK]at K1
   rw[K1,if_pos rfl]
  ·rw[a2]at c1;exact absurd c1.2.2 (by decide)
  ·omega
 ·rw[if_neg c1]
theorem qyk{s:ByteArray}{c:Int}{k e:Nat}(hk:k<=s.size)(he:e<=s.size):ix s c k<e↔ ∃i,k<=i/\i<e/\bt s i=c:=by
 obtain⟨h1,h2,h3,h4⟩:=qf8 s c _ k (zL _) hk
 constructor
 ·intro h;exact⟨_,h1,h,h4 (by omega)⟩
 ·rintro⟨i,i1,i2,i3⟩
  apply Classical.byContradiction
  intro h
  exact h3 i i1 (by omega) i3
theorem qyh:inn 10=false:=by decide
theorem inn0:inn 0=false:=by decide
theorem Sim.mnum(h:Sim s k t b M){e:Nat}{K:Int}(he:e<=M)(hK:K≠0)(hn:num s k=(K,k+e)):num t b=(K,b+e):=by
 have hs:=h.hs
 have ht:=h.ht
 unfold num at hn
 by_cases c1:ne s k=k\/(ne s k<s.size/\inn (bt s (ne s k))=true)
 ·rw[if_pos c1]at hn
  exact absurd (congrArg Prod.fst hn).symm hK
 rw[if_neg c1]at hn
 by_cases c2:bke s k=k/\ne s k<s.size/\bt s (ne s k)=35/\ ¬ix s 35 k<ne s k
 ·rw[if_pos c2]at hn
  exact absurd (congrArg Prod.fst hn).symm hK
 rw[if_neg c2]at hn
 have hne:ne s k=k+e:=congrArg Prod.snd hn
 have hKe:(if bke s k=k then(3:Int)else 4)=K:=congrArg Prod.fst hn
 rw[hne]at c1 c2
 have e0:e≠0:=fun h'=>c1 (.inl (by omega))
 have hi: ¬(k+e<s.size/\inn (bt s (k+e))=true):=fun h'=>c1 (.inr h')
 have hit: ¬(b+e<t.size/\inn (bt t (b+e))=true):=by
  rintro⟨g1,g2⟩
  rcases h.at_ he with⟨a1,a2⟩ | ⟨a1,a2,-⟩ | ⟨a1,a2,-⟩
  ·rw[a2]at g2;exact hi ⟨by omega,g2⟩
  ·rw[a2,qyh]at g2;cases g2
  ·omega
 by_cases hbk:bke s k=k
 ·have hw:whe s k=k+e:=by unfold ne at hne;rw[if_pos hbk]at hne;exact hne
  have b1:=h.mbke0 he hw hbk
  have w1:=h.mwhe he hw
  have n1:ne t b=b+e:=by unfold ne;rw[if_pos b1];exact w1
  unfold num
  rw[n1,if_neg (by rintro(g | g);omega;exact hit g),if_neg,b1,if_pos rfl]
  ·rw[if_pos hbk]at hKe;rw[hKe]
  ·rintro⟨-,g2,g3,g4⟩
   rcases h.at_ he with⟨a1,a2⟩ | ⟨a1,a2,-⟩ | ⟨a1,a2,-⟩
   ·rw[a2]at g3
    refine c2 ⟨hbk,by omega,g3,fun g5=>g4 ?_⟩
    rw[qyk (by omega) (by omega)]at g5⊢
    obtain⟨i,i1,i2,i3⟩:=g5
    have:=h.eq (i-k) (by omega)
    rw[show k+(i-k)=i by omega]at this
    exact⟨b+(i-k),by omega,by omega,by rw[<-this];exact i3⟩
   ·rw[a2]at g3;exact absurd g3 (by decide)
   ·omega
 ·have hb:bke s k=k+e:=by unfold ne at hne;rw[if_neg hbk]at hne;exact hne
  have b1:=h.mbke he e0 hb hi
  have b2: ¬bke t b=b:=by omega
  have n1:ne t b=b+e:=by unfold ne;rw[if_neg b2];exact b1
  unfold num
  rw[n1,if_neg (by rintro(g | g);omega;exact hit g),if_neg (fun g=>b2 g.1),if_neg b2]
  rw[if_neg hbk]at hKe;rw[hKe]
variable{s t:ByteArray}{k b M:Nat}
theorem bl10:bl 10=true:=by decide
theorem qfl(h: ∀j,j<M->bt s (k+j)=bt t (b+j))(hs:k+M<=s.size)(ht:b+M<=t.size):(s.data.toList.drop k).take M=(t.data.toList.drop b).take M:=by
 apply List.ext_getElem?
 intro i
 by_cases hi:i<M
 ·have e:=h i hi
  have h1:k+i<s.size:=by omega
  have h2:b+i<t.size:=by omega
  rw[<-get_bt s (k+i) h1,<-get_bt t (b+i) h2]at e
  have e2:s[k+i]=t[b+i]:=UInt8.toNat_inj.1 (by omega)
  rw[zG hi,zG hi,zD,zD]
  rw[zE (by rw[zA];exact h1),zE (by rw[zA];exact h2)]
  exact congrArg some e2
 ·rw[zF (by rw[List.length_take];omega),zF (by rw[List.length_take];omega)]
theorem ext_eq{e:Nat}(h: ∀j,j<e->bt s (k+j)=bt t (b+j))(hs:k+e<=s.size)(ht:b+e<=t.size):s.extract k (k+e)=t.extract b (b+e):=by
 have:=qfl h hs ht
 have e1: ∀(u:ByteArray) (a:Nat),(u.extract a (a+e)).data.toList=(u.data.toList.drop a).take e:=fun u a=>by
  rw[ByteArray.data_extract,Array.toList_extract,List.extract_eq_take_drop,Nat.add_sub_cancel_left]
 rw[<-e1,<-e1]at this
 have h2:=Array.toList_inj.1 this
 generalize s.extract k (k+e)=x at h2
 generalize t.extract b (b+e)=y at h2
 cases x;cases y
 simp only at h2
 rw[h2]
theorem sg_no10: ∀i:Fin 37,(sg i.val).all (· !=10)=true:=by decide+kernel
theorem qr0{g l l':List UInt8}{M:Nat}(ht:l.take M=l'.take M):g.length<=M->g.isPrefixOf l=g.isPrefixOf l':=by
 intro h
 rw[Bool.eq_iff_iff,zH,zH,zJ,zJ]
 have e:l.take g.length=l'.take g.length:=by
  have:=congrArg (List.take g.length) ht
  rw[List.take_take,List.take_take,Nat.min_eq_left h]at this
  exact this
 rw[e]
theorem qvb{g l:List UInt8}{M:Nat}(hg:g.all (· !=10)=true)(hs:l.drop M=[]\/(l.drop M).head?=some 10)(hM:M<=l.length)(hp:g.isPrefixOf l=true):g.length<=M:=by
 apply Classical.byContradiction
 intro h
 rw[zH]at hp
 obtain⟨r,rfl⟩:=hp
 rcases hs with hs | hs
 ·have:=congrArg List.length hs
  rw[zI,List.length_append,List.length_nil]at this
  omega
 ·rw[List.head?_drop,List.getElem?_append_left (by omega)]at hs
  have hm:(10:UInt8)∈g:=List.mem_of_getElem? hs
  have:=List.all_eq_true.1 hg 10 hm
  simp at this
theorem qpz{l l':List UInt8}{M:Nat}(ht:l.take M=l'.take M)(hM:M<=l.length)(hM':M<=l'.length)(hs:l'.drop M=[]\/(l'.drop M).head?=some 10): ∀m,m<=37->lgf l m<=M->lgf l m≠0->lgf l' m=lgf l m
 | 0,_,_,h=>absurd rfl h
 | m+1,hm,h1,h2=>by
  have hg:=sg_no10 ⟨36-m,by omega⟩
  have hl:=(qg2 ⟨36-m,by omega⟩).1
  simp only at hg hl
  unfold lgf at h1 h2⊢
  by_cases hp:(sg (36-m)).isPrefixOf l=true
  ·rw[if_pos hp]at h1 h2⊢
   rw[if_pos]
   rw[<-qr0 ht h1];exact hp
  ·rw[if_neg hp]at h1 h2⊢
   rw[if_neg]
   ·exact qpz ht hM hM' hs m (by omega) h1 h2
   ·intro hp'
    have h3:=qvb hg hs hM' hp'
    rw[<-qr0 ht h3]at hp'
    exact hp hp'
theorem qim(l:List UInt8): ∀m,m<=37->lgf l m<=l.length
 | 0,_=>zM _
 | m+1,h=>by
  unfold lgf
  split
  ·rename_i hp;exact qhu hp
  ·exact qim l m (by omega)
theorem Sim.mlg(h:Sim s k t b M)(h1:lgL (s.data.toList.drop k)<=M)(h2:lgL (s.data.toList.drop k)≠0):lgL (t.data.toList.drop b)=lgL (s.data.toList.drop k):=by
 have hs:=h.hs
 have ht:=h.ht
 have es:s.data.toList.length=s.size:=by rw[zA];rfl
 have et:t.data.toList.length=t.size:=by rw[zA];rfl
 refine qpz (M:=M) (qfl h.eq hs ht) (by rw[zI];omega) (by rw[zI];omega) ?_ 37 (zL _) h1 h2
 rw[List.drop_drop]
 rcases h.stop with⟨g1,g2⟩ | ⟨g1,g2⟩
 ·right
  rw[List.head?_drop,zE (by omega)]
  have:=get_bt t (b+M) g1
  rw[g2]at this
  exact congrArg some (UInt8.toNat_inj.1 (show(t[b+M]).toNat=(10:UInt8).toNat by show(t[b+M]).toNat=10;omega))
 ·left
  exact List.drop_of_length_le (by omega)
theorem Sim.mche(h:Sim s k t b M){e:Nat}(he:e<=M)(h0:che s k≠0)(hc:che s k=k+e):che t b=b+e:=by
 have hs:=h.hs
 have ht:=h.ht
 unfold che at h0 hc
 by_cases c1:k+1<s.size/\bt s (k+1)=92
 ·rw[if_pos c1]at h0 hc
  by_cases c2:0<=(esc s (k+1)).1
  ·rw[if_pos c2]at h0 hc
   have h2:(esc s (k+1)).2≠0:=fun h'=>by
    have hpt:qgl (mnt s (k+1+1)).1=true:=by
     apply Classical.byContradiction
     intro h''
     unfold esc at c2
     rw[if_pos c1,if_neg h'']at c2
     exact absurd c2 (by decide)
    unfold esc at h'
    rw[if_pos c1,if_pos hpt]at h'
    simp only at h';omega
   have m1:=h.mesc (a:=1) c2 (by omega)
   have e1:=h.eq 1 (by omega)
   unfold che
   rw[if_pos ⟨by omega,by rw[<-e1];exact c1.2⟩,m1,if_pos c2]
   omega
  ·rw[if_neg c2]at h0;exact absurd rfl h0
 ·rw[if_neg c1]at h0 hc
  by_cases c2:nc s (k+1)<=32\/nc s (k+1)=127
  ·rw[if_pos c2]at h0;exact absurd rfl h0
  ·rw[if_neg c2]at h0 hc
   have hl:=qcj s (k+1)
   obtain⟨n1,n2⟩:=h.mnc (p:=1) (by omega) (by omega)
   have e1:=h.eq 1 (by omega)
   have k1:k+1<s.size:=by omega
   unfold che
   rw[if_neg (by rintro⟨g1,g2⟩;exact c1 ⟨k1,by rw[e1];exact g2⟩),n1,n2,if_neg c2]
   omega
theorem Sim.mcom(h:Sim s k t b M){e:Nat}(he:e<=M)(h37:bt s k=37)(hc:tr s k (ix s 10 k)=k+e):tr t b (ix t 10 b)=b+e:=by
 have hs:=h.hs
 have ht:=h.ht
 by_cases hk:k<s.size
 ·obtain⟨i1,i2,i3,i4⟩:=qf8 s 10 _ k (zL _) (by omega)
  obtain⟨g1,g2,g3,g4⟩:=qfj s k (ix s 10 k)
  have hkE:k<ix s 10 k:=by
   apply Classical.byContradiction
   intro h'
   have e1:ix s 10 k=k:=by omega
   have:=i4 (by omega)
   rw[e1,h37]at this
   exact absurd this (by decide)
  rw[hc]at g1 g2 g3 g4
  have ge:0<e:=by
   have h':=g2 (by omega)
   apply Classical.byContradiction
   intro h''
   have:=g3 k (by omega) hkE
   rw[h37]at this
   exact absurd this (by decide)
  obtain⟨E,hE⟩: ∃E,ix s 10 k=k+E:=⟨ix s 10 k-k,by omega⟩
  rw[hE]at i2 i3 i4 g1 g3 hkE
  have e1:=h.eq (e-1) (by omega)
  by_cases hEM:E<M
  ·have ei:=h.eq E hEM
   have it:ix t 10 b=b+E:=ix_is (by omega) (by omega) (fun i h1 h2=>by
    have:=h.eq (i-b) (by omega)
    rw[show b+(i-b)=i by omega]at this
    rw[<-this];exact i3 _ (by omega) (by omega)) (fun _=>by rw[<-ei];exact i4 (by omega))
   rw[it]
   refine tr_is (by omega) (by omega) (fun i h1 h2=>?_) ?_
   ·have:=h.eq (i-b) (by omega)
    rw[show b+(i-b)=i by omega]at this
    rw[<-this];exact g3 _ (by omega) (by omega)
   ·rw[show b+e-1=b+(e-1)by omega,<-e1,show k+(e-1)=k+e-1 by omega]
    exact g4 (by omega)
  ·have it:ix t 10 b=b+M:=ix_is (by omega) (by omega) (fun i h1 h2=>by
    have:=h.eq (i-b) (by omega)
    rw[show b+(i-b)=i by omega]at this
    rw[<-this];exact i3 _ (by omega) (by omega)) (fun h1=>by
     rcases h.stop with⟨-,h2⟩ | ⟨h2,-⟩
     ·exact h2
     ·omega)
   rw[it]
   refine tr_is (by omega) (by omega) (fun i h1 h2=>?_) ?_
   ·have:=h.eq (i-b) (by omega)
    rw[show b+(i-b)=i by omega]at this
    rw[<-this];exact g3 _ (by omega) (by omega)
   ·rw[show b+e-1=b+(e-1)by omega,<-e1,show k+(e-1)=k+e-1 by omega]
    exact g4 (by omega)
 ·rw[bt_end s (by omega)]at h37
  exact absurd h37 (by decide)
theorem fw_lt{p:Int->Bool}{s:ByteArray}{k:Nat}:k<fw p s k↔(k<s.size/\p (bt s k)=true):=by
 constructor
 ·intro h
  have h1:k<s.size:=by
   apply Classical.byContradiction
   intro h'
   rw[qgg h']at h;omega
  refine⟨h1,?_⟩
  exact qpd p s k k (zL _) h
 ·rintro⟨h1,h2⟩
  rw[qpe h1 h2]
  have:=qgh p s (k+1)
  omega
def kd2(s:ByteArray)(k M:Nat)(K:Int):Int:=if K=9/\bt s k=46/\M=1 then 10 else K
theorem Sim.one(h:Sim s k t b M){e:Nat}{K:Int}(he:e<=M)(h0:0<e)(hK:K≠0)(ho:one s k=(K,k+e)):one t b=(kd2 s k M K,b+e):=by
 have hs:=h.hs
 have ht:=h.ht
 have e0:=h.eq 0 (by omega)
 simp only[Nat.add_zero]at e0
 have tkn: ∀ {kd:Int} {x:Nat},tk kd x=(K,k+e)->x=k+e/\kd=K:=fun {kd x} hx=>by
  unfold tk at hx
  split at hx
  ·exact absurd (congrArg Prod.fst hx).symm hK
  ·exact⟨congrArg Prod.snd hx,congrArg Prod.fst hx⟩
 have tke: ∀ {kd:Int} {x:Nat},x≠0->tk kd x=(kd,x):=fun {kd x} hx=>by unfold tk;rw[if_neg hx]
 have kde:K≠9->kd2 s k M K=K:=fun hh=>by unfold kd2;rw[if_neg (fun h'=>hh h'.1)]
 unfold Go.Proofs.YtdhadeeajgoedaaGreat.one at ho⊢
 rw[<-e0]
 by_cases c1:bt s k=37
 ·rw[if_pos c1]at ho⊢
  have h1:=congrArg Prod.fst ho
  simp only at h1
  rw[h.mcom he c1 (congrArg Prod.snd ho),kde (by omega),<-h1]
 rw[if_neg c1]at ho⊢
 by_cases c2:bt s k=46/\(k+1=s.size\/bt s (k+1)=37\/k+1<fw bl s (k+1))
 ·rw[if_pos c2]at ho
  have h1:=congrArg Prod.fst ho
  have h2:=congrArg Prod.snd ho
  simp only at h1 h2
  have he1:e=1:=by omega
  subst he1
  rw[if_pos,kde (by omega),<-h1]
  refine⟨c2.1,?_⟩
  rcases h.at_ (e:=1) he with⟨a1,a2⟩ | ⟨a1,a2,a3⟩ | ⟨a1,a2,-⟩
  ·rw[a2]
   rcases c2.2 with g | g | g
   ·omega
   ·exact .inr (.inl g)
   ·refine .inr (.inr ?_)
    rw[fw_lt]at g⊢
    exact⟨by omega,by rw[a2];exact g.2⟩
  ·refine .inr (.inr ?_)
   rw[fw_lt]
   exact⟨a3,by rw[a2];exact bl10⟩
  ·exact .inl a2
 rw[if_neg c2]at ho
 by_cases c46:bt s k=46
 ·have b46:beg 46=0:=by decide
  rw[if_neg (by rw[c46,b46];decide),if_neg (by rw[c46,b46];decide),if_neg (by rw[c46];decide),if_neg (by rw[c46];decide),if_neg (by rw[c46];decide),if_neg (by rw[c46];decide)]at ho
  by_cases c0:lgL (s.data.toList.drop k)=0
  ·rw[if_pos c0]at ho;exact absurd (congrArg Prod.fst ho).symm hK
  rw[if_neg c0]at ho
  have h1:=congrArg Prod.fst ho
  have h2:=congrArg Prod.snd ho
  simp only at h1 h2
  have hl:=h.mlg (by omega) c0
  rcases h.at_ (e:=1) (by omega)with⟨a1,a2⟩ | ⟨a1,a2,a3⟩ | ⟨a1,a2,a4,-⟩
  ·have hkd:kd2 s k M K=K:=by unfold kd2;rw[if_neg (by omega)]
   rw[if_neg,if_neg (by rw[c46,b46];decide),if_neg (by rw[c46,b46];decide),if_neg (by rw[c46];decide),if_neg (by rw[c46];decide),if_neg (by rw[c46];decide),if_neg (by rw[c46];decide),hl,if_neg c0,hkd,<-h1]
   ·exact congrArg (Prod.mk 9) (by omega)
   ·rintro⟨-,g⟩
    refine c2 ⟨c46,?_⟩
    rw[a2]at g
    rcases g with g | g | g
    ·omega
    ·exact .inr (.inl g)
    ·refine .inr (.inr ?_)
     rw[fw_lt]at g⊢
     exact⟨by omega,by rw[<-a2];exact g.2⟩
  ·have hkd:kd2 s k M K=10:=by unfold kd2;rw[if_pos ⟨h1.symm,c46,a1.symm⟩]
   rw[if_pos ⟨c46,.inr (.inr (by rw[fw_lt];exact⟨a3,by rw[a2];exact bl10⟩))⟩,hkd]
   exact congrArg (Prod.mk 10) (by omega)
  ·exfalso
   exact c2 ⟨c46,.inl (by omega)⟩
 rw[if_neg (fun g=>c46 g.1)]
 by_cases c3:beg (bt s k)=3
 ·rw[if_pos c3]at ho⊢
  have hk3:K=3\/K=4:=by
   unfold num at ho
   split at ho
   ·exact absurd (congrArg Prod.fst ho).symm hK
   ·split at ho
    ·exact absurd (congrArg Prod.fst ho).symm hK
    ·have:=congrArg Prod.fst ho
     simp only at this
     split at this<;>omega
  rw[h.mnum he hK ho,kde (by omega)]
 rw[if_neg c3]at ho⊢
 by_cases c4:0<beg (bt s k)
 ·rw[if_pos c4]at ho⊢
  have h1:=congrArg Prod.fst ho
  have h2:=congrArg Prod.snd ho
  simp only at h1 h2
  have f:=h.mfw (p:=inn) qyh (a:=0) (zM _) he h2
  simp only[Nat.add_zero]at f
  have hx:=ext_eq (e:=e) (fun j hj=>h.eq j (by omega)) (by omega) (by omega)
  rw[f,<-hx]
  rw[h2]at h1
  rw[h1,kde]
  have:=qg6 (bt s k)
  split at h1<;>omega
 rw[if_neg c4]at ho⊢
 by_cases c5:bt s k=39
 ·rw[if_pos c5]at ho⊢
  obtain⟨h1,h2⟩:=tkn ho
  have:=h.mqe 39 _ 1 (zL _) e h1 (by omega) he
  rw[this,tke (by omega),h2,kde (by omega)]
 rw[if_neg c5]at ho⊢
 by_cases c6:bt s k=34
 ·rw[if_pos c6]at ho⊢
  obtain⟨h1,h2⟩:=tkn ho
  have:=h.mqe 34 _ 1 (zL _) e h1 (by omega) he
  rw[this,tke (by omega),h2,kde (by omega)]
 rw[if_neg c6]at ho⊢
 by_cases c7:bt s k=36
 ·rw[if_pos c7]at ho⊢
  obtain⟨h1,h2⟩:=tkn ho
  rw[h.mche he (by omega) h1,tke (by omega),h2,kde (by omega)]
 rw[if_neg c7]at ho⊢
 by_cases c8:bt s k=63
 ·rw[if_pos c8]at ho⊢
  by_cases c9:fst (bt s (mcb s k))=true
  ·rw[if_pos c9]at ho
   have h1:=congrArg Prod.fst ho
   have h2:=congrArg Prod.snd ho
   simp only at h1 h2
   have hi:inn (bt s (mcb s k))=true:=by
    unfold fst at c9
    simp only[zC,zB,decide_eq_true_eq,beq_iff_eq]at c9
    refine qf7 ?_
    unfold beg
    split
    ·decide
    ·rw[if_pos (by omega)];decide
   have hsz:mcb s k<s.size:=by
    apply Classical.byContradiction
    intro h'
    rw[bt_end s (by omega),inn0]at hi;cases hi
   have hlt:mcb s k<k+e:=by rw[<-h2,fw_lt];exact⟨hsz,hi⟩
   obtain⟨x,hx⟩: ∃x,mcb s k=k+x:=⟨mcb s k-k,by unfold mcb;split<;>omega⟩
   have hx1:1<=x:=by unfold mcb at hx;split at hx<;>omega
   have ex:=h.eq x (by omega)
   have e1:=h.eq 1 (by omega)
   have hm:mcb t b=b+x:=by
    unfold mcb at hx⊢
    rw[<-e1]
    split
    ·rename_i g;rw[if_pos g]at hx;omega
    ·rename_i g;rw[if_neg g]at hx;omega
   rw[hx]at c9 h2
   have f:=h.mfw (p:=inn) qyh (a:=x) (by omega) he h2
   rw[hm,<-ex,if_pos c9,f,<-h1,h1,kde (by omega)]
  ·rw[if_neg c9]at ho;exact absurd (congrArg Prod.fst ho).symm hK
 rw[if_neg c8]at ho⊢
 by_cases c0:lgL (s.data.toList.drop k)=0
 ·rw[if_pos c0]at ho;exact absurd (congrArg Prod.fst ho).symm hK
 rw[if_neg c0]at ho
 have h1:=congrArg Prod.fst ho
 have h2:=congrArg Prod.snd ho
 simp only at h1 h2
 have hl:=h.mlg (by omega) c0
 have hkd:kd2 s k M K=K:=by unfold kd2;rw[if_neg (fun g=>c46 g.2.1)]
 rw[hl,if_neg c0,hkd,<-h1]
 exact congrArg (Prod.mk 9) (by omega)
variable{s t:ByteArray}{k b M:Nat}
theorem qu1{s:ByteArray}{k:Nat}(h:0<=(esc s k).1):1< (esc s k).2/\k+(esc s k).2<=s.size:=by
 have hin:k<s.size/\bt s k=92:=by
  apply Classical.byContradiction
  intro h'
  unfold esc at h
  rw[if_neg h']at h
  exact absurd h (by decide)
 have hpt:qgl (mnt s (k+1)).1=true:=by
  apply Classical.byContradiction
  intro h'
  unfold esc at h
  rw[if_pos hin,if_neg h']at h
  exact absurd h (by decide)
 have he:esc s k=((mnt s (k+1)).1,1+(mnt s (k+1)).2):=by unfold esc;rw[if_pos hin,if_pos hpt]
 rw[he]
 simp only
 have hm:0<=(mnt s (k+1)).1:=by
  unfold qgl at hpt
  have:=of_decide_eq_true hpt
  omega
 have hs: ∀ {j:Nat} {c:Int},bt s j=c->c≠0->j<s.size:=fun {j c} h1 h2=>by
  apply Classical.byContradiction
  intro h'
  rw[bt_end s (by omega)]at h1
  exact h2 h1.symm
 clear he h hpt
 unfold mnt at hm⊢
 by_cases c1:0<rc s 8 3 (k+1)
 ·rw[if_pos c1]
  have:=qzk s 8 (by omega) 3 (k+1) (by omega)
  simp only;omega
 rw[if_neg c1]at hm⊢
 by_cases c2:bt s (k+1)=120
 ·rw[if_pos c2]at hm⊢
  have k1:=hs c2 (by decide)
  unfold hxd at hm⊢
  by_cases c3:bt s (k+1+1)=123
  ·rw[if_pos c3]at hm⊢
   by_cases c4:rc s 16 6 (k+1+2)=0\/bt s (k+1+2+rc s 16 6 (k+1+2))≠125
   ·rw[if_pos c4]at hm;exact absurd hm (by decide)
   ·rw[if_neg c4]
    have k2:=hs (Classical.byContradiction fun h'=>c4 (.inr h')) (by decide)
    simp only;omega
  ·rw[if_neg c3]at hm⊢
   by_cases c4:rc s 16 2 (k+1+1)<2
   ·rw[if_pos c4]at hm;exact absurd hm (by decide)
   ·rw[if_neg c4]
    have:=qzk s 16 (by omega) 2 (k+1+1) (by omega)
    simp only;omega
 rw[if_neg c2]at hm⊢
 by_cases c3:bt s (k+1)=94
 ·rw[if_pos c3]at hm⊢
  unfold ctl at hm⊢
  split
  ·rename_i c4
   have k2:k+1+1<s.size:=by
    apply Classical.byContradiction
    intro h'
    rw[bt_end s (by omega)]at c4;omega
   simp only;omega
  ·rename_i c4;rw[if_neg c4]at hm;exact absurd hm (by decide)
 rw[if_neg c3]at hm⊢
 by_cases c4:s.size<=k+1\/nc s (k+1)<32
 ·rw[if_pos c4]at hm;exact absurd hm (by decide)
 ·rw[if_neg c4]
  have h1:=quv s (k+1) (by omega)
  have h2:=qcj s (k+1)
  split<;> (simp only;omega)
theorem qxi(s:ByteArray)(a:Nat)(h:a<=s.size):a<=whe s a/\whe s a<=s.size:=by
 have h1:=qfs s 10 a true
 have h2:=whe_n s a
 refine⟨by omega,?_⟩
 rcases qh6 s a with⟨m,B,r,-,-,hr,-,-,h3,-,-,-,-,h8⟩ | ⟨h8,-⟩
 ·rw[h8,hr];exact qru s B (m+1) true (by omega)
 ·rw[h8];exact qru s 10 a true h
theorem qwb(s:ByteArray)(a:Nat)(h:a<=s.size):a<=bke s a/\bke s a<=s.size:=by
 obtain⟨n,hn⟩: ∃n,n=ru s 10 a true a:=⟨_,rfl⟩
 obtain⟨K,hK⟩: ∃K,K=ru s 10 (n+1) true (n+1):=⟨_,rfl⟩
 obtain⟨j,hj⟩: ∃j,j=exb s (K+1):=⟨_,rfl⟩
 obtain⟨L,hL⟩: ∃L,L=ru s 10 j true j:=⟨_,rfl⟩
 rw[qhk hn hK hj hL]
 by_cases c1:a<n/\n<s.size/\bt s n=46
 ·rw[if_pos c1]
  have h1:n+1<=K:=by rw[hK];exact qfs s 10 (n+1) true
  have h2:K<=s.size:=by rw[hK];exact qru s 10 (n+1) true (by omega)
  by_cases c2:K=n+1
  ·rw[if_pos c2];exact⟨zL _,h⟩
  ·rw[if_neg c2]
   by_cases c3:K<s.size/\ise (bt s K)=true
   ·rw[if_pos c3]
    have hjl:K+1<=j:=by rw[hj];unfold exb;split<;>omega
    have hjs:j<=s.size:=by
     rw[hj];unfold exb
     split
     ·rename_i c4
      have:K+1<s.size:=by
       apply Classical.byContradiction
       intro h'
       rw[bt_end s (by omega)]at c4;omega
      omega
     ·omega
    have h3:j<=L:=by rw[hL];exact qfs s 10 j true
    have h4:L<=s.size:=by rw[hL];exact qru s 10 j true hjs
    split<;>omega
   ·rw[if_neg c3];omega
 ·rw[if_neg c1];exact⟨zL _,h⟩
theorem qk3{s:ByteArray}{k:Nat}(hk:k<s.size)(h:(one s k).1≠0):k< (one s k).2/\(one s k).2<=s.size:=by
 have tkb: ∀ {kd:Int} {x:Nat},(tk kd x).1≠0->(x≠0/\(tk kd x).2=x):=fun {kd x} hx=>by
  unfold tk at hx⊢
  split
  ·rename_i h';rw[if_pos h']at hx;exact absurd rfl hx
  ·exact⟨by assumption,rfl⟩
 have hib: ∀ {j:Nat},0<beg (bt s j)->j<s.size/\inn (bt s j)=true:=fun {j} hj=>by
  refine⟨?_,qf7 hj⟩
  apply Classical.byContradiction
  intro h'
  rw[bt_end s (by omega)]at hj
  exact absurd hj (by decide)
 unfold one at h⊢
 by_cases c1:bt s k=37
 ·rw[if_pos c1]
  simp only
  obtain⟨i1,i2,i3,i4⟩:=qf8 s 10 _ k (zL _) (by omega)
  obtain⟨g1,g2,g3,g4⟩:=qfj s k (ix s 10 k)
  have hkE:k<ix s 10 k:=by
   apply Classical.byContradiction
   intro h'
   have e1:ix s 10 k=k:=by omega
   have:=i4 (by omega)
   rw[e1,c1]at this
   exact absurd this (by decide)
  have g5:=g2 i1
  refine⟨?_,by omega⟩
  apply Classical.byContradiction
  intro h''
  have:=g3 k (by omega) hkE
  rw[c1]at this
  exact absurd this (by decide)
 rw[if_neg c1]at h⊢
 by_cases c2:bt s k=46/\(k+1=s.size\/bt s (k+1)=37\/k+1<fw bl s (k+1))
 ·rw[if_pos c2];simp only;omega
 rw[if_neg c2]at h⊢
 by_cases c3:beg (bt s k)=3
 ·rw[if_pos c3]at h⊢
  unfold num at h⊢
  by_cases d1:ne s k=k\/(ne s k<s.size/\inn (bt s (ne s k))=true)
  ·rw[if_pos d1]at h;exact absurd rfl h
  rw[if_neg d1]at h⊢
  by_cases d2:bke s k=k/\ne s k<s.size/\bt s (ne s k)=35/\ ¬ix s 35 k<ne s k
  ·rw[if_pos d2]at h;exact absurd rfl h
  rw[if_neg d2]
  simp only
  have h1:=qxi s k (by omega)
  have h2:=qwb s k (by omega)
  have h3:ne s k≠k:=fun h'=>d1 (.inl h')
  unfold ne at h3⊢
  split
  ·rename_i d3;rw[if_pos d3]at h3;omega
  ·rename_i d3;omega
 rw[if_neg c3]at h⊢
 by_cases c4:0<beg (bt s k)
 ·rw[if_pos c4]
  simp only
  exact⟨fw_lt.2 (hib c4),qjp inn s k (by omega)⟩
 rw[if_neg c4]at h⊢
 by_cases c5:bt s k=39
 ·rw[if_pos c5]at h⊢
  obtain⟨t1,t2⟩:=tkb h
  rw[t2]
  rcases qka s 39 _ (k+1) (zL _)with g | g
  ·exact absurd g t1
  ·omega
 rw[if_neg c5]at h⊢
 by_cases c6:bt s k=34
 ·rw[if_pos c6]at h⊢
  obtain⟨t1,t2⟩:=tkb h
  rw[t2]
  rcases qka s 34 _ (k+1) (zL _)with g | g
  ·exact absurd g t1
  ·omega
 rw[if_neg c6]at h⊢
 by_cases c7:bt s k=36
 ·rw[if_pos c7]at h⊢
  obtain⟨t1,t2⟩:=tkb h
  rw[t2]
  unfold che at t1⊢
  by_cases d1:k+1<s.size/\bt s (k+1)=92
  ·rw[if_pos d1]at t1⊢
   by_cases d2:0<=(esc s (k+1)).1
   ·rw[if_pos d2]
    have:=qu1 d2
    omega
   ·rw[if_neg d2]at t1;exact absurd rfl t1
  ·rw[if_neg d1]at t1⊢
   by_cases d2:nc s (k+1)<=32\/nc s (k+1)=127
   ·rw[if_pos d2]at t1;exact absurd rfl t1
   ·rw[if_neg d2]
    have h1:=nc_in (s:=s) (k:=k+1) (by omega)
    have h2:nl s (k+1)=ln (bt s (k+1)):=by unfold nl;rw[if_neg (by omega)]
    omega
 rw[if_neg c7]at h⊢
 by_cases c8:bt s k=63
 ·rw[if_pos c8]at h⊢
  by_cases c9:fst (bt s (mcb s k))=true
  ·rw[if_pos c9]
   simp only
   have hb:0<beg (bt s (mcb s k)):=by
    unfold fst at c9
    simp only[zC,zB,decide_eq_true_eq,beq_iff_eq]at c9
    unfold beg
    split
    ·decide
    ·rw[if_pos (by omega)];decide
   obtain⟨g1,g2⟩:=hib hb
   have:=qgh inn s (mcb s k)
   have:=qjp inn s (mcb s k) (by omega)
   have:k+1<=mcb s k:=by unfold mcb;split<;>omega
   omega
  ·rw[if_neg c9]at h;exact absurd rfl h
 rw[if_neg c8]at h⊢
 by_cases c0:lgL (s.data.toList.drop k)=0
 ·rw[if_pos c0]at h;exact absurd rfl h
 rw[if_neg c0]
 have:=qim (s.data.toList.drop k) 37 (zL _)
 rw[zI,zA]at this
 have e:s.data.size=s.size:=rfl
 have h3:lgL (s.data.toList.drop k)<=s.size-k:=by rw[<-e];exact this
 simp only;omega
def sc(s:ByteArray)(k:Nat):Option (List (Int×Nat×Nat)):=
 if _h:k<s.size/\(one s k).1≠0 then(sc s (fw bl s (one s k).2)).map (fun l=>((one s k).1,k,(one s k).2)::l)
 else if k<s.size then none else some []
termination_by s.size-k
decreasing_by
 have h1:=qk3 _h.1 _h.2
 have h2:=qgh bl s (one s k).2
 omega
theorem sc_go(hk:k<s.size)(h:(one s k).1≠0):sc s k=(sc s (fw bl s (one s k).2)).map (fun l=>((one s k).1,k,(one s k).2)::l):=by rw[sc,dif_pos ⟨hk,h⟩]
theorem qrx(hk:k<s.size)(h:(one s k).1=0):sc s k=none:=by rw[sc,dif_neg (fun g=>g.2 h),if_pos hk]
theorem qn6(hk: ¬k<s.size):sc s k=some []:=by rw[sc,dif_neg (fun g=>hk g.1),if_neg hk]
variable{s t:ByteArray}{k b M:Nat}
abbrev Tk3:=Int×Nat×Nat
theorem qlq{s:ByteArray}{k:Nat}{x:Tk3}{l:List Tk3}(h:sc s k=some (x::l)):k<s.size/\one s k=(x.1,x.2.2)/\x.2.1=k/\x.1≠0/\k<x.2.2/\x.2.2<=s.size/\sc s (fw bl s x.2.2)=some l:=by
 by_cases hk:k<s.size
 ·by_cases h0:(one s k).1=0
  ·rw[qrx hk h0]at h;cases h
  ·have hb:=qk3 hk h0
   rw[sc_go hk h0]at h
   obtain⟨l',h1,h2⟩:=Option.map_eq_some_iff.1 h
   obtain⟨rfl,rfl⟩:=List.cons.inj h2
   exact⟨hk,rfl,rfl,h0,hb.1,hb.2,h1⟩
 ·rw[qn6 hk]at h;cases h
def rel(s:ByteArray):Nat->List Tk3->List Tk3
 | _,[]=>[]
 | p,x::l=>(kd2 s x.2.1 (x.2.2-x.2.1) x.1,p,p+(x.2.2-x.2.1))::rel s (p+(x.2.2-x.2.1)+1) l
def fwF(p:Int->Bool)(s:ByteArray):Nat->Nat->Nat
 | 0,k=>k
 | m+1,k=>if k<s.size then(if p (bt s k)=true then fwF p s m (k+1)else k)else k
theorem fw_F(p:Int->Bool)(s:ByteArray): ∀m k,s.size-k<=m->fw p s k=fwF p s m k
 | 0,k,h=>by rw[qgg (by omega)];rfl
 | m+1,k,h=>by
  simp only[fwF]
  by_cases hk:k<s.size
  ·rw[if_pos hk]
   cases hp:p (bt s k)
   ·rw[qii hp,if_neg Bool.false_ne_true]
   ·rw[qpe hk hp,if_pos rfl];exact fw_F p s m (k+1) (by omega)
  ·rw[qgg hk,if_neg hk]
def ixF(s:ByteArray)(c:Int):Nat->Nat->Nat
 | 0,_=>s.size
 | m+1,k=>if k<s.size then(if bt s k=c then k else ixF s c m (k+1))else s.size
theorem ix_F(s:ByteArray)(c:Int): ∀m k,s.size-k<=m->ix s c k=ixF s c m k
 | 0,k,h=>by rw[ix,dif_neg (by omega)];rfl
 | m+1,k,h=>by
  simp only[ixF]
  rw[ix]
  by_cases hk:k<s.size
  ·rw[dif_pos hk,if_pos hk,ix_F s c m (k+1) (by omega)]
  ·rw[dif_neg hk,if_neg hk]
def qxF(s:ByteArray)(q:Int):Nat->Nat->Nat
 | 0,_=>0
 | m+1,k=>
  if k<s.size then
   (if bt s k=q then k+1
    else if bt s k=92 then(if nc s (k+1)<32\/nc s (k+1)=127 then 0 else qxF s q m (k+1+nl s (k+1)))
    else if nc s k<32\/nc s k=127 then 0 else qxF s q m (k+nl s k))
  else 0
theorem qx_F(s:ByteArray)(q:Int): ∀m k,s.size-k<=m->qx s q k=qxF s q m k
 | 0,k,h=>by rw[qmw (by omega)];rfl
 | m+1,k,h=>by
  simp only[qxF]
  have h1:=qcj s k
  have h2:=qcj s (k+1)
  rw[qx]
  by_cases hk:k<s.size
  ·rw[dif_pos hk,if_pos hk,qx_F s q m (k+1+nl s (k+1)) (by omega),qx_F s q m (k+nl s k) (by omega)]
  ·rw[dif_neg hk,if_neg hk]
def ruF(s:ByteArray)(b:Int)(a:Nat)(un:Bool):Nat->Nat->Nat
 | 0,i=>i
 | m+1,i=>if i<s.size then(if okk s b a un i=true then ruF s b a un m (i+1)else i)else i
theorem ru_F(s:ByteArray)(b:Int)(a:Nat)(un:Bool): ∀m i,s.size-i<=m->ru s b a un i=ruF s b a un m i
 | 0,i,h=>by rw[qh2 (by omega)];rfl
 | m+1,i,h=>by
  simp only[ruF]
  rw[ru]
  by_cases hk:i<s.size
  ·rw[dif_pos hk,if_pos hk,ru_F s b a un m (i+1) (by omega)]
  ·rw[dif_neg hk,if_neg hk]
def vdF(s:ByteArray):Nat->Nat->Bool
 | 0,_=>true
 | m+1,k=>if k<s.size then(if nc s k<0 then false else vdF s m (k+nl s k))else true
theorem vd_F(s:ByteArray): ∀m k,s.size-k<=m->vd s k=vdF s m k
 | 0,k,h=>by rw[qt7 (by omega)];rfl
 | m+1,k,h=>by
  simp only[vdF]
  have h1:=qcj s k
  by_cases hk:k<s.size
  ·rw[if_pos hk]
   by_cases hn:nc s k<0
   ·rw[qxh hk hn,if_pos hn]
   ·rw[vd_go hk hn,if_neg hn,vd_F s m (k+nl s k) (by omega)]
  ·rw[qt7 hk,if_neg hk]
def rF(s:ByteArray)(b:Int)(a:Nat)(un:Bool):Nat:=ruF s b a un s.size a
theorem r_F(s:ByteArray)(b:Int)(a:Nat)(un:Bool):ru s b a un a=rF s b a un:=ru_F s b a un s.size a (by omega)
def wheF(s:ByteArray)(a:Nat):Nat:=
 let m:=rF s 10 a false
 let n:=rF s 10 a true
 let B:=dbe s a (m-a)
 let r:=rF s B (m+1) true
 if(a<m/\m<a+3/\m<s.size/\bt s m=35)/\2<=B/\B<=36/\m+1<r then r else n
def bkeF(s:ByteArray)(a:Nat):Nat:=
 let n:=rF s 10 a true
 let K:=rF s 10 (n+1) true
 let j:=exb s (K+1)
 let L:=rF s 10 j true
 if a<n/\n<s.size/\bt s n=46 then(if K=n+1 then a else if K<s.size/\ise (bt s K)=true then(if j<L then L else K)else K)else a
theorem whe_F(s:ByteArray)(a:Nat):whe s a=wheF s a:=by unfold whe wheF;simp only[r_F]
theorem bke_F(s:ByteArray)(a:Nat):bke s a=bkeF s a:=by unfold bke bkeF;simp only[r_F]
def neF(s:ByteArray)(a:Nat):Nat:=if bkeF s a=a then wheF s a else bkeF s a
theorem ne_F(s:ByteArray)(a:Nat):ne s a=neF s a:=by unfold ne neF;simp only[bke_F,whe_F]
def numF(s:ByteArray)(a:Nat):Int×Nat:=
 if neF s a=a\/(neF s a<s.size/\inn (bt s (neF s a))=true)then(0,0)
 else if bkeF s a=a/\neF s a<s.size/\bt s (neF s a)=35/\ ¬ixF s 35 s.size a<neF s a then(0,0)
 else(if bkeF s a=a then 3 else 4,neF s a)
theorem num_F(s:ByteArray)(a:Nat):num s a=numF s a:=by unfold num numF;simp only[ne_F,bke_F,ix_F s 35 s.size a (by omega)]
def oneF(s:ByteArray)(k:Nat):Int×Nat:=
 if bt s k=37 then(11,tr s k (ixF s 10 s.size k))
 else if bt s k=46/\(k+1=s.size\/bt s (k+1)=37\/k+1<fwF bl s s.size (k+1))then(10,k+1)
 else if beg (bt s k)=3 then numF s k
 else if 0<beg (bt s k)then(if rs (s.extract k (fwF inn s s.size k))=true then 8 else beg (bt s k),fwF inn s s.size k)
 else if bt s k=39 then tk 1 (qxF s 39 s.size (k+1))
 else if bt s k=34 then tk 6 (qxF s 34 s.size (k+1))
 else if bt s k=36 then tk 5 (che s k)
 else if bt s k=63 then(if fst (bt s (mcb s k))=true then(7,fwF inn s s.size (mcb s k))else(0,0))
 else if lgL (s.data.toList.drop k)=0 then(0,0)else(9,k+lgL (s.data.toList.drop k))
theorem one_F(s:ByteArray)(k:Nat):one s k=oneF s k:=by
 unfold one oneF
 rw[ix_F s 10 s.size k (by omega),fw_F bl s s.size (k+1) (by omega),num_F,fw_F inn s s.size k (by omega),qx_F s 39 s.size (k+1) (by omega),qx_F s 34 s.size (k+1) (by omega),fw_F inn s s.size (mcb s k) (by omega)]
def scF(s:ByteArray):Nat->Nat->Option (List Tk3)
 | 0,_=>some []
 | m+1,k=>if k<s.size then(if(oneF s k).1≠0 then(scF s m (fwF bl s s.size (oneF s k).2)).map (fun l=>((oneF s k).1,k,(oneF s k).2)::l)else none)else some []
theorem sc_F(s:ByteArray): ∀m k,s.size-k<=m->sc s k=scF s m k
 | 0,k,h=>by rw[qn6 (by omega)];rfl
 | m+1,k,h=>by
  simp only[scF]
  by_cases hk:k<s.size
  ·rw[if_pos hk,<-one_F]
   by_cases h0:(one s k).1=0
   ·rw[qrx hk h0,if_neg (fun g=>g h0)]
   ·have h1:=qk3 hk h0
    have h2:=qgh bl s (one s k).2
    rw[sc_go hk h0,if_pos h0,sc_F s m _ (by omega),fw_F bl s s.size (one s k).2 (by omega)]
  ·rw[qn6 hk,if_neg hk]
def qem(s:ByteArray)(a:Int)(b:Int)(un:Bool)(r:Int):Prop:= ∀W,Calls Tryz.prog 117 #[.string s,.int .i64 a,.int .i64 b,.bool un] W fun e w'=>e=.returned (.int .i64 r)/\ ∃n,w'=W.drewN n
theorem run_at1(s:ByteArray)(a:Nat)(b:Int)(un:Bool)(ha:a<s.size)(hs:s.size<=1048576)(hb:0<=b):qem s ((a:Int)+1) b un ((ru s b (a+1) un (a+1):Nat)- ((a:Int)+1)):=fun W=>by
 have h:=qmz s (a+1) b un ha hs hb W
 rw[show((a+1:Nat):Int)=(a:Int)+1 from rfl]at h
 exact h
def nmS:ByteArray:= { data:= #[98,100,101,102,110,114,115,116,118] }
def nmM:List Int:=[8,127,27,12,10,13,32,9,11]
theorem nm_all: ∀k:Fin 9,ltr (bt nmS k.val)=nmM.getD k.val 0/\nmM.getD k.val 0≠0/\0<=nmM.getD k.val 0/\nmM.getD k.val 0<128:=by decide+kernel
theorem qz8{c:Int}(h: ∀k,k<9->bt nmS k≠c):ltr c=0:=by
 have e0:=h 0 (by omega)
 have e1:=h 1 (by omega)
 have e2:=h 2 (by omega)
 have e3:=h 3 (by omega)
 have e4:=h 4 (by omega)
 have e5:=h 5 (by omega)
 have e6:=h 6 (by omega)
 have e7:=h 7 (by omega)
 have e8:=h 8 (by omega)
 rw[show bt nmS 0=98 by decide+kernel]at e0
 rw[show bt nmS 1=100 by decide+kernel]at e1
 rw[show bt nmS 2=101 by decide+kernel]at e2
 rw[show bt nmS 3=102 by decide+kernel]at e3
 rw[show bt nmS 4=110 by decide+kernel]at e4
 rw[show bt nmS 5=114 by decide+kernel]at e5
 rw[show bt nmS 6=115 by decide+kernel]at e6
 rw[show bt nmS 7=116 by decide+kernel]at e7
 rw[show bt nmS 8=118 by decide+kernel]at e8
 unfold ltr
 rw[if_neg (by omega),if_neg (by omega),if_neg (by omega),if_neg (by omega),if_neg (by omega),if_neg (by omega),if_neg (by omega),if_neg (by omega),if_neg (by omega)]
theorem qfy{v:Int}(h0:0<=v)(h1:v<55296):qgl v=true:=decide_eq_true (by omega)
theorem qgd{s:ByteArray}{a:Nat}(h:a<s.size)(h92:bt s a=92):esc s a=if qgl (mnt s (a+1)).1=true then((mnt s (a+1)).1,1+(mnt s (a+1)).2)else(-1,0):=by
 unfold esc
 rw[if_pos ⟨h,h92⟩]
theorem qgw{s:ByteArray}{b:Int}{m j:Nat}(h: ¬dg (bt s j)<b):rc s b (m+1) j=0:=by
 simp only[rc,if_neg h]
theorem qzl{s:ByteArray}{b:Int}{m j:Nat}(h:dg (bt s j)<b):0<rc s b (m+1) j:=by
 simp only[rc,if_pos h];omega
theorem qxz{s:ByteArray}{a:Nat}(h: ¬(a+1<s.size/\bt s a=92)):esc s a=(-1,0):=by
 by_cases h1:a<s.size/\bt s a=92
 ·have hz:a+1=s.size:=by
   by_cases h2:a+1<s.size
   ·exact absurd ⟨h2,h1.2⟩ h
   ·omega
  have h0:bt s (a+1)=0:=bt_end s (by omega)
  have hm:mnt s (a+1)=(-1,0):=by
   unfold mnt
   rw[qgw (by rw[h0,ql0];omega),if_neg (by omega),h0,if_neg (by omega),if_neg (by omega),if_pos (.inl (by omega))]
  rw[qgd h1.1 h1.2,hm,if_neg (by decide)]
 ·unfold esc
  rw[if_neg h1]
theorem qmh{c:Int}(h:dg c<8):48<=c/\c<=55:=by
 unfold dg at h
 split at h
 ·omega
 ·split at h
  ·omega
  ·split at h
   ·omega
   ·omega
theorem oct_dg{c:Int}(h0:48<=c)(h1:c<=55):dg c<8:=by unfold dg;rw[if_pos (by omega)];omega
theorem qmj{s:ByteArray}{a:Nat}(h:a+1<s.size)(h92:bt s a=92){k:Nat}(hk:k<9)(hc:bt nmS k=bt s (a+1)):esc s a=(nmM.getD k 0,2):=by
 obtain⟨n1,n2,n3,n4⟩:=nm_all ⟨k,hk⟩
 simp only at n1 n2 n3 n4
 rw[hc]at n1
 have hl:ltr (bt s (a+1))≠0:=by rw[n1];exact n2
 have hr:98<=bt s (a+1)/\bt s (a+1)<=118:=by
  unfold ltr at hl
  repeat' split at hl
  all_goals omega
 have ha:=qus h (by omega)
 have hm:mnt s (a+1)=(nmM.getD k 0,1):=by
  unfold mnt
  rw[qgw (fun h'=>by have:=qmh h';omega),if_neg (by omega),if_neg (by omega),if_neg (by omega),ha.1,if_neg (by omega),if_pos ⟨by omega,hl⟩,ha.2,n1]
 rw[qgd (by omega) h92,hm,if_pos (qfy n3 (by first | omega | (simp only;omega)))]
 all_goals rfl
theorem qu0{s:ByteArray}{a:Nat}(h:a+1<s.size)(h92:bt s a=92)(h0:48<=bt s (a+1))(h1:bt s (a+1)<=55):esc s a=(rv s 8 3 (a+1) 0,1+rc s 8 3 (a+1)):=by
 have hm:mnt s (a+1)=(rv s 8 3 (a+1) 0,rc s 8 3 (a+1)):=by
  unfold mnt
  rw[if_pos (qzl (oct_dg h0 h1))]
 have:=qx7 s (a+1)
 rw[qgd (by omega) h92,hm,if_pos (qfy this.1 (by first | omega | (simp only;omega)))]
 all_goals rfl
theorem mnt_x{s:ByteArray}{j:Nat}(h:bt s j=120):mnt s j=hxd s j:=by
 unfold mnt
 rw[qgw (fun h'=>by have:=qmh h';omega),if_neg (by omega),if_pos h]
theorem esc_xo{s:ByteArray}{a:Nat}(h:a+1<s.size)(h92:bt s a=92)(hx:bt s (a+1)=120)(hb:bt s (a+2)=123):
 esc s a=if rc s 16 6 (a+3)=0\/bt s (a+3+rc s 16 6 (a+3))≠125\/qgl (rv s 16 6 (a+3) 0)=false then(-1,0)else(rv s 16 6 (a+3) 0,4+rc s 16 6 (a+3)):=by
 rw[qgd (by omega) h92,mnt_x hx]
 unfold hxd
 rw[show a+1+1=a+2 by omega,show a+1+2=a+3 by omega,if_pos hb]
 by_cases c1:rc s 16 6 (a+3)=0\/bt s (a+3+rc s 16 6 (a+3))≠125
 ·rw[if_pos c1,if_neg (by decide),if_pos (c1.imp id .inl)]
 ·rw[if_neg c1]
  simp only
  cases hp:qgl (rv s 16 6 (a+3) 0)
  ·rw[if_neg (by decide),if_pos (.inr (.inr rfl))]
  ·rw[if_pos rfl,if_neg (by
    rintro(h' | h' | h')
    ·exact c1 (.inl h')
    ·exact c1 (.inr h')
    ·cases h')]
   rw[show 1+(rc s 16 6 (a+3)+3)=4+rc s 16 6 (a+3)by omega]
theorem esc_xx{s:ByteArray}{a:Nat}(h:a+1<s.size)(h92:bt s a=92)(hx:bt s (a+1)=120)(hb:bt s (a+2)≠123):
 esc s a=if rc s 16 2 (a+2)<2 then(-1,0)else(rv s 16 2 (a+2) 0,4):=by
 rw[qgd (by omega) h92,mnt_x hx]
 unfold hxd
 rw[show a+1+1=a+2 by omega,if_neg hb]
 by_cases c1:rc s 16 2 (a+2)<2
 ·rw[if_pos c1,if_pos c1,if_neg (by decide)]
 ·rw[if_neg c1,if_neg c1]
  have hv:=qvm s 16 (by omega) 2 (a+2) 0 (by omega)
  have h1:=qk9 16 (by omega) (rc s 16 2 (a+2)) 2 (qhe s 16 2 (a+2))
  have h2:(16:Int) ^ 2=256:=by decide
  rw[if_pos (qfy hv.1 (by first | omega | (simp only;omega)))]
  all_goals rfl
theorem qxy{s:ByteArray}{a:Nat}(h:a+1<s.size)(h92:bt s a=92)(hx:bt s (a+1)=94):
 esc s a=if(64<=bt s (a+2)/\bt s (a+2)<=95)\/(97<=bt s (a+2)/\bt s (a+2)<=122)then(bt s (a+2) % 32,3)else(-1,0):=by
 have hm:mnt s (a+1)=ctl (bt s (a+2)):=by
  unfold mnt
  rw[qgw (fun h'=>by have:=qmh h';omega),if_neg (by omega),if_neg (by omega),if_pos hx]
 rw[qgd (by omega) h92,hm]
 unfold ctl
 by_cases c1:(64<=bt s (a+2)/\bt s (a+2)<=95)\/(97<=bt s (a+2)/\bt s (a+2)<=122)
 ·rw[if_pos c1,if_pos c1,if_pos (qfy (by first | omega | (simp only;omega)) (by first | omega | (simp only;omega)))]
  all_goals rfl
 ·rw[if_neg c1,if_neg c1,if_neg (by decide)]
theorem qtz{s:ByteArray}{a:Nat}(h:a+1<s.size)(h92:bt s a=92)(h8: ¬(48<=bt s (a+1)/\bt s (a+1)<=55))(hx:bt s (a+1)≠120)(hu:bt s (a+1)≠94)(hl:ltr (bt s (a+1))=0):
 esc s a=if nc s (a+1)<32 then(-1,0)else(nc s (a+1),1+nl s (a+1)):=by
 have hm:mnt s (a+1)=if nc s (a+1)<32 then(-1,0)else(nc s (a+1),nl s (a+1)):=by
  unfold mnt
  rw[qgw (fun h'=>h8 (qmh h')),if_neg (by omega),if_neg hx,if_neg hu]
  by_cases c1:nc s (a+1)<32
  ·rw[if_pos (.inr c1),if_pos c1]
  ·rw[if_neg (by omega),if_neg c1,if_neg (fun h'=>h'.2 hl)]
 rw[qgd (by omega) h92,hm]
 by_cases c1:nc s (a+1)<32
 ·rw[if_pos c1,if_pos c1,if_neg (by decide)]
 ·rw[if_neg c1,if_neg c1,if_pos (nc_pt (by omega))]
def qod(s:ByteArray)(j b m v n:Int):Prop:= ∀W,Calls Tryz.prog 118 #[.string s,.int .i64 j,.int .i64 b,.int .i64 m] W fun e w'=>e=.returned (.tuple #[.int .i64 v,.int .i64 n])/\ ∃q,w'=W.drewN q
def qxj(s:ByteArray)(j v n:Int):Prop:= ∀W,Calls Tryz.prog 50 #[.string s,.int .i64 j] W fun e w'=>e=.returned (.tuple #[.int .i64 v,.int .i64 n])/\ ∃q,w'=W.drewN q
def qi9(s:ByteArray)(j v n:Int):Prop:= ∀W,Calls Tryz.prog 90 #[.string s,.int .i64 j] W fun e w'=>e=.returned (.tuple #[.int .i64 v,.int .i64 n])/\Below W.heap.size W w'
def qoc(w w':World):Prop:=(∀k,k<9->w'.cell? ⟨w.heap.size,k,none⟩=some (.int .i64 (nmM.getD k 0)))/\Below w.heap.size w w'
theorem quq(w:World)(cs:Array Value)(t:TypeId)(h:cs=(nmM.map (Value.int .i64)).toArray):qoc w (w.alloc (.cells cs t)):=by
 refine⟨fun k hk=>?_,(Below.refl _ _).alloc (zL _) _⟩
 rw[World.cell?_alloc_new,h]
 have hk':k<nmM.length:=hk
 simp[List.getD_eq_getElem?_getD,zE hk']
theorem qo0(s:ByteArray)(a:Nat)(h:s.size<=a+1)(hs:s.size<=1048576):qi9 s a (-1) 0:=by
 intro w
 have g0:(s.size:Int)-1<=(a:Int):=by omega
 go_enter Tryz.func90,Tryz.ntmps90
 go_wp2_with fail
 go_ret2
 exact⟨rfl,Below.refl _ _⟩
theorem qrd(s:ByteArray)(a:Nat)(h:a+1<s.size)(hn:bt s a≠92)(hs:s.size<=1048576):qi9 s a (-1) 0:=by
 intro w
 have g0: ¬(s.size:Int)-1<=(a:Int):=by omega
 have gx:=get_bt s a (by omega)
 have g1:(bt s a !=92)=true:=by simpa using hn
 obtain⟨c,hc⟩: ∃c,c=bt s a:=⟨_,rfl⟩
 rw[<-hc]at gx g1
 clear hc hn
 go_enter Tryz.func90,Tryz.ntmps90
 go_wp2_with fail
 go_ret2
 exact⟨rfl,Below.refl _ _⟩
end Go.Proofs.YtdhadeeajgoedaaGreat
