import Derived.Test.YtdhadeeajgoedaaGreatL14
import Derived.Test.YtdhadeeajgoedaaGreatL46
set_option maxRecDepth 100000
set_option maxHeartbeats 4000000
set_option linter.all false
open List renaming append_assoc→zA
open Option renaming bind_eq_some_iff→zB
namespace Go.Proofs.YtdhadeeajgoedaaGreat
open Go.RowKit Go.PlainAid
def rnq(E:Env):Nat->Nat->List ByteArray
 | 0,_=>[]
 | n+1,i=>(if(E.tk i).1=11 then[(E.tk i).2.1]else[])++rnq E n (i+1)
def RN(E:Env)(i:Nat):List ByteArray:=rnq E (E.to-i) i
theorem qit: ∀a b:List Nd,qe0 (a++b)=qe0 a++qe0 b
 | [],_=>rfl
 | x::t,b=>by simp only[List.cons_append,qe0];rw[qit t b,zA]
theorem qlc{n:Nd}(h:n.tlf=[])(l:List Nd):nts (n.add l)=nts n++qe0 l:=by
 cases n;simp only[Nd.tlf]at h;subst h;simp only[Nd.add,nts,qit,List.append_nil,zA]
theorem qqn{n:Nd}(h:n.nof2=[])(m:List ByteArray):nts (n.notes' m)=m++nts n:=by
 cases n;simp only[Nd.nof2]at h;subst h;simp only[Nd.notes',nts,List.nil_append,zA]
theorem qiv{n:Nd}(h:n.tlf=[])(m:List ByteArray):nts (n.tail' m)=nts n++m:=by
 cases n;simp only[Nd.tlf]at h;subst h;simp only[Nd.tail',nts,List.append_nil]
theorem qzd(n:Nd)(b:Bool):nts (n.brk' b)=nts n:=by cases n;rfl
theorem qzc(n:Nd)(b:Bool):nts (n.blk' b)=nts n:=by cases n;rfl
theorem qqo(n:Nd)(t:ByteArray):nts (n.txt' t)=nts n:=by cases n;simp only[Nd.txt',nts]
theorem qze(k:Int)(t:ByteArray)(l:List Nd):nts (nkt k t l)=qe0 l:=by simp[nkt,nts]
theorem nts_nk(k:Int)(l:List Nd):nts (nk k l)=qe0 l:=by simp[nk,nts]
theorem nts_zN:nts zN=[]:=rfl
theorem qv0:qe0 []=[]:=rfl
theorem qiu(x:Nd):qe0 [x]=nts x:=by simp[qe0]
theorem qv1(x y:Nd):qe0 [x,y]=nts x++nts y:=by simp[qe0]
theorem qqm(x:Nd)(l:List Nd):qe0 (x::l)=nts x++qe0 l:=by simp[qe0]
theorem qjc(n:Nd)(l:List Nd):(n.add l).tlf=n.tlf:=by cases n;rfl
theorem tlf_brk(n:Nd)(b:Bool):(n.brk' b).tlf=n.tlf:=by cases n;rfl
theorem tlf_nkt(k:Int)(t:ByteArray)(l:List Nd):(nkt k t l).tlf=[]:=rfl
theorem tlf_nk(k:Int)(l:List Nd):(nk k l).tlf=[]:=rfl
theorem qsz(n:Nd)(t:ByteArray):(n.txt' t).tlf=n.tlf:=by cases n;rfl
theorem nf_add(n:Nd)(l:List Nd):(n.add l).nof2=n.nof2:=by cases n;rfl
theorem nf_brk(n:Nd)(b:Bool):(n.brk' b).nof2=n.nof2:=by cases n;rfl
theorem qqi(n:Nd)(b:List ByteArray):(n.tail' b).nof2=n.nof2:=by cases n;rfl
theorem nf_txt(n:Nd)(b:ByteArray):(n.txt' b).nof2=n.nof2:=by cases n;rfl
theorem nf_nkt(k:Int)(t:ByteArray)(l:List Nd):(nkt k t l).nof2=[]:=rfl
theorem nf_nk(k:Int)(l:List Nd):(nk k l).nof2=[]:=rfl
theorem nf_zN:zN.nof2=[]:=rfl
theorem nf_blk(n:Nd)(b:Bool):(n.blk' b).nof2=n.nof2:=by cases n;rfl
theorem qlj{E:Env}{i:Nat}(h:i<E.to):RN E i=(if(E.tk i).1=11 then[(E.tk i).2.1]else[])++RN E (i+1):=by
 unfold RN
 rw[show E.to-i=(E.to- (i+1))+1 by omega];rfl
theorem qj4(E:Env)(p:Ps)(h:(E.take p).2.bad=false):p.bad=false/\RN E p.i=RN E (E.take p).2.i:=by
 unfold Env.take at h⊢
 by_cases hc:(p.bad||decide (E.to<=p.i)||(E.tk p.i).1==11)=true
 ·rw[if_pos hc]at h;cases h
 ·rw[if_neg hc]at h⊢
  refine⟨h,?_⟩
  simp only[Bool.or_eq_true,decide_eq_true_eq,beq_iff_eq,not_or]at hc
  rw[qlj (by omega),if_neg hc.2];rfl
theorem rn_ok(E:Env)(p:Ps)(c:Bool)(h:(E.take (if c then p else p.wrong)).2.bad=false):p.bad=false/\RN E p.i=RN E (E.take (if c then p else p.wrong)).2.i:=by
 cases c
 ·have:=(qj4 E _ h).1;cases this
 ·exact qj4 E _ h
theorem qrp(E:Env)(p:Ps)(k:Int)(s:Bs)(h:(E.want p k s).2.bad=false):p.bad=false/\RN E p.i=RN E (E.want p k s).2.i:=rn_ok E p _ h
theorem qro(E:Env)(p:Ps)(c:Bool)(h:(E.text p c).2.bad=false):p.bad=false/\RN E p.i=RN E (E.text p c).2.i:=rn_ok E p _ h
theorem qx3(E:Env): ∀n i,i+n<=E.to->RN E i=cms E (pkn E n i-i) i++RN E (pkn E n i)
 | 0,i,_=>by simp[pkn,cms]
 | n+1,i,h=>by
  simp only[pkn]
  split
  ·rename_i hc
   have:=qx3 E n (i+1) (by omega)
   have h2:=qex E n (i+1)
   rw[qlj (by omega),if_pos hc,show pkn E n (i+1)-i=(pkn E n (i+1)- (i+1))+1 by omega,this]
   rfl
  ·simp[cms]
theorem qn2(E:Env)(p:Ps):(E.notes p).2.bad=p.bad/\RN E p.i=(E.notes p).1++RN E (E.notes p).2.i:=by
 refine⟨rfl,?_⟩
 show RN E p.i=cms E (E.pk p.i-p.i) p.i++RN E (max p.i (E.pk p.i))
 have h:=qex E (E.to-p.i) p.i
 by_cases hp:p.i<=E.to
 ·unfold Env.pk
  rw[show max p.i (pkn E (E.to-p.i) p.i)=pkn E (E.to-p.i) p.i by omega]
  exact qx3 E _ _ (by omega)
 ·unfold Env.pk
  rw[show E.to-p.i=0 by omega]
  simp[pkn,cms]
theorem rn_fin(E:Env)(n:Nd)(p:Ps)(hb:(qai E n p).p.bad=false)(ht:n.tlf=[])(hn:n.nof2=[]):p.bad=false/\(qai E n p).x.nof2=[]/\(qai E n p).xs=[]/\nts n++RN E p.i=nts (qai E n p).x++RN E (qai E n p).p.i:=by
 obtain⟨h1,h2⟩:=qrp E _ _ _ hb
 obtain⟨h3,h4⟩:=qn2 E p
 refine⟨by rw[<-h3];exact h1,by show(n.tail' _).nof2=[];rw[qqi,hn],rfl,?_⟩
 show _=nts (n.tail' (E.notes p).1)++RN E (E.want (E.notes p).2 8 [101,110,100]).2.i
 rw[qiv ht,<-h2,h4,zA]
theorem qx4(E:Env): ∀(n:Nat) (s:ByteArray) (p:Ps),(qcg E n s p).2.bad=false->p.bad=false/\RN E p.i=RN E (qcg E n s p).2.i
 | 0,s,p,h=>by cases h
 | n+1,s,p,h=>by
  simp only[qcg]at h⊢
  by_cases hc:E.sign p [45]=true
  ·rw[if_pos hc]at h⊢
   obtain⟨h1,h2⟩:=qx4 E n _ _ h
   obtain⟨h3,h4⟩:=qro E _ _ h1
   obtain⟨h5,h6⟩:=qj4 E _ h3
   exact⟨h5,by rw[h6,h4,h2]⟩
  ·rw[if_neg hc]at h⊢
   exact⟨h,rfl⟩
theorem qv2(n:Nd)(h1:n.nof2=[])(h2:n.tlf=[])(h3:n.ls.isEmpty=true):nts n=[]:=by
 cases n
 simp only[Nd.nof2,Nd.tlf,Nd.ls,List.isEmpty_iff]at h1 h2 h3
 subst h1 h2 h3;rfl
theorem qzb{n:Nd}(h:n.tlf=[])(y z:Nd)(t:ByteArray)(m:List ByteArray):nts ((((n.add [y]).add [z]).txt' t).tail' m)=nts n++(nts y++(nts z++m)):=by
 rw[qiv (by rw[qsz,qjc,qjc,h]),qqo,qlc (by rw[qjc,h]),qlc h,qiu,qiu,zA,zA]
theorem nf_bar(n:Nd)(y z:Nd)(t:ByteArray)(m:List ByteArray):((((n.add [y]).add [z]).txt' t).tail' m).nof2=n.nof2:=by cases n;rfl
theorem qvs{E:Env}{R:Cmd->Ps->Option Out}(hh:SNA (RN E) R)(hM:MoX R):SNA (RN E) (qb6 E R):=by
 have ht:=qj4 E
 have hw:=qrp E
 have hx:=qro E
 have hn:=qn2 E
 have hf:=rn_fin E
 have hs:=qx4 E
 have hz: ∀p:Ps,p.wrong.bad=true:=fun _=>rfl
 have hM:=fun c p o h hb=>(hM c p o h hb).1
 constructor
 case' expr_ | exprL_=>have g0:=hh.expr_;have g1:=hh.operand_;have g2:=hh.exprL_;clear hh hf
 case' operand_ | follow_=>have g0:=hh.operand_;have g1:=hh.primary_;have g2:=hh.follow_;have g3:=hh.box_;have g4:=hh.expr_;have g5:=hh.hash_;clear hh hf
 case' item_ | boxL_ | box_=>have g0:=hh.item_;have g1:=hh.boxL_;have g2:=hh.segment_;have g3:=hh.expr_;clear hh hf
 case' segment_ | hash_ | head_=>have g0:=hh.expr_;have g1:=hh.box_;have g2:=hh.rest_;clear hh hf
 case' listL_=>have g0:=hh.expr_;have g1:=hh.comp_;have g2:=hh.listL_;clear hh hf
 case' list_ | comp_ | compL_=>have g0:=hh.listL_;have g1:=hh.compL_;have g2:=hh.expr_;clear hh hf
 case' func_ | rest_ | arrow_ | guard_ | body_ | clauses_ | ifs_=>have g0:=hh.funcL_;have g1:=hh.guard_;have g2:=hh.arrow_;have g3:=hh.body_;have g4:=hh.guardL_;have g5:=hh.bodyL_;have g6:=hh.clausesL_;have g7:=hh.ifsL_;clear hh hf
 case' guardL_ | guardB_ | bodyL_=>have g0:=hh.expr_;have g1:=hh.guardB_;have g2:=hh.guardL_;have g3:=hh.bodyL_;clear hh hf
 case' clausesL_ | ifsL_=>have g0:=hh.expr_;have g1:=hh.rest_;have g2:=hh.clausesL_;have g3:=hh.guard_;have g4:=hh.arrow_;have g5:=hh.ifsL_;clear hh hf
 case' receive_=>have g0:=hh.clauses_;have g1:=hh.expr_;have g2:=hh.arrow_;clear hh
 case' funcL_=>have g0:=hh.head_;have g1:=hh.funcL_;clear hh
 case' primary_=>have g0:=hh.expr_;have g1:=hh.box_;have g2:=hh.list_;have g3:=hh.hash_;have g4:=hh.func_;have g5:=hh.clauses_;have g6:=hh.ifs_;have g7:=hh.receive_;have g8:=hh.body_;clear hh
 all_goals (intros;rename_i h hb hP;simp only[qb6]at h)
 all_goals generalize RN E=rm at*
 all_goals generalize Env.take E=fT at*
 all_goals generalize Env.want E=fW at*
 all_goals generalize Env.text E=fX at*
 all_goals generalize Env.notes E=fN at*
 all_goals generalize qai E=fF at*
 all_goals generalize qcg E=fS at*
 all_goals generalize Env.sign E=fG at*
 all_goals generalize Env.word E=fO at*
 all_goals generalize Env.at_ E=fA at*
 all_goals generalize Env.broken E=fB at*
 all_goals (repeat' (first | (rw[zB]at h;obtain⟨_,h0,h⟩:=h;(repeat' (first | (rw[zB]at h0;obtain⟨_,_,h0⟩:=h0) | (rw[qcs]at h0;rcases h0 with⟨_,h0⟩ | ⟨_,h0⟩)))<;> (try (simp only[Option.some.injEq]at h0;subst h0))) | (rw[qcs]at h;rcases h with⟨_,h⟩ | ⟨_,h⟩) | split at h))
 all_goals (try (simp only[Option.some.injEq]at h;subst h))
 all_goals (try dsimp only at*)
 all_goals grind (gen:=20) (ematch:=20) [qzb,nf_bar,qv2,qlc,qqn,qiv,qzd,qzc,qqo,qze,nts_nk,nts_zN,qv0,qiu,qv1,qqm,qit,qjc,tlf_brk,tlf_nkt,tlf_nk,qsz,nf_add,nf_brk,qqi,nf_txt,nf_nkt,nf_nk,nf_zN,nf_blk,zA]
theorem qs3(E:Env): ∀n,SNA (RN E) (qal E n)
 | 0=>by constructor<;>intros<;>rename_i h _ _<;>cases h
 | n+1=>qvs (qs3 E n) (qhr E n)
end Go.Proofs.YtdhadeeajgoedaaGreat
