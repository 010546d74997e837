import Derived.Test.YtdhadeeajgoedaaGreatL14
import Derived.Test.YtdhadeeajgoedaaGreatL50
set_option maxRecDepth 100000
set_option maxHeartbeats 4000000
set_option linter.all false
open Bool renaming and_eq_true→zA
open List renaming append_assoc→zB
open Option renaming bind_eq_some_iff→zC
namespace Go.Proofs.YtdhadeeajgoedaaGreat
open Go.RowKit Go.PlainAid
def lrq(E:Env):Nat->Nat->List ByteArray
 | 0,_=>[]
 | n+1,i=>(if ltk (E.tk i).1=true then[(E.tk i).2.1]else[])++lrq E n (i+1)
def LR(E:Env)(i:Nat):List ByteArray:=lrq E (E.to-i) i
theorem qip: ∀a b:List Nd,qdj (a++b)=qdj a++qdj b
 | [],_=>rfl
 | x::t,b=>by simp only[List.cons_append,qdj];rw[qip t b,zB]
theorem ql5(n:Nd)(l:List Nd):lts (n.add l)=lts n++qdj l:=by
 cases n;simp only[Nd.add,lts,qip,zB]
theorem qq8(n:Nd)(m:List ByteArray):lts (n.notes' m)=lts n:=by cases n;simp only[Nd.notes',lts]
theorem qir(n:Nd)(m:List ByteArray):lts (n.tail' m)=lts n:=by cases n;simp only[Nd.tail',lts]
theorem qyy(n:Nd)(b:Bool):lts (n.brk' b)=lts n:=by cases n;simp only[Nd.brk',lts]
theorem qyx(n:Nd)(b:Bool):lts (n.blk' b)=lts n:=by cases n;simp only[Nd.blk',lts]
theorem qq9{n:Nd}(h:n.kd≠1)(t:ByteArray):lts (n.txt' t)=lts n:=by
 cases n;simp only[Nd.kd]at h;simp only[Nd.txt',lts];simp[h]
theorem qz0{k:Int}(h:k≠1)(t:ByteArray)(l:List Nd):lts (nkt k t l)=qdj l:=by simp[nkt,lts,h]
theorem qyz(t:ByteArray):lts (nkt 1 t [])=[t]:=by simp[nkt,lts,qdj]
theorem lts_nk{k:Int}(h:k≠1)(l:List Nd):lts (nk k l)=qdj l:=by simp[nk,lts,h]
theorem lts_zN:lts zN=[]:=rfl
theorem qun:qdj []=[]:=rfl
theorem qiq(x:Nd):qdj [x]=lts x:=by simp[qdj]
theorem quo(x y:Nd):qdj [x,y]=lts x++lts y:=by simp[qdj]
theorem qq7(x:Nd)(l:List Nd):qdj (x::l)=lts x++qdj l:=by simp[qdj]
theorem qpt(n:Nd)(l:List Nd):(n.add l).kd=n.kd:=by cases n;rfl
theorem qyn(n:Nd)(l:List ByteArray):(n.tail' l).kd=n.kd:=by cases n;rfl
theorem kd_nkt(k:Int)(t:ByteArray)(l:List Nd):(nkt k t l).kd=k:=rfl
theorem kd_nk(k:Int)(l:List Nd):(nk k l).kd=k:=rfl
theorem qup(n:Nd)(h1:n.kd=5)(h3:n.ls.isEmpty=true):lts n=[]:=by
 cases n
 simp only[Nd.kd,Nd.ls,List.isEmpty_iff]at h1 h3
 subst h1 h3;rfl
theorem qyt(k:Int)(h:nmk k=true):ltk k=true:=by
 unfold nmk at h;unfold ltk
 simp only[Bool.or_eq_true,beq_iff_eq]at h
 simp only[zA,decide_eq_true_eq];omega
theorem qyv(k:Int)(h:szk k=true):ltk k=true:=by
 unfold szk at h;unfold ltk
 simp only[Bool.or_eq_true,beq_iff_eq]at h
 simp only[zA,decide_eq_true_eq];omega
theorem qyu(k:Int)(h:(k==1)=true):ltk k=true:=by
 simp only[beq_iff_eq]at h;subst h;decide
theorem qin{E:Env}{i:Nat}(h:i<E.to):LR E i=(if ltk (E.tk i).1=true then[(E.tk i).2.1]else[])++LR E (i+1):=by
 unfold LR
 rw[show E.to-i=(E.to- (i+1))+1 by omega];rfl
theorem qq3(E:Env)(p:Ps)(h:(E.take p).2.bad=false):p.bad=false/\p.i<=(E.take p).2.i/\((E.at_ p).1=8\/(E.at_ p).1=9->LR E p.i=LR E (E.take p).2.i):=by
 obtain⟨h1,-,h2,h3,-,h4⟩:=qtf E p h
 refine⟨h1,by omega,fun hk=>?_⟩
 rw[h4]at hk
 rw[qin h3,h2,if_neg];rfl
 rcases hk with e | e<;>rw[e]<;>decide
theorem qq4(E:Env)(p:Ps)(k:Int)(s:Bs)(h:(E.want p k s).2.bad=false):p.bad=false/\p.i<=(E.want p k s).2.i/\(k=8\/k=9->LR E p.i=LR E (E.want p k s).2.i):=by
 unfold Env.want at h⊢
 by_cases hc:E.is p k s=true
 ·rw[if_pos hc]at h⊢
  obtain⟨h1,h2,h3⟩:=qq3 E p h
  refine⟨h1,h2,fun e=>h3 ?_⟩
  unfold Env.is at hc
  simp only[zA,beq_iff_eq]at hc
  omega
 ·rw[if_neg hc]at h
  have:=(qtf E _ h).1;cases this
theorem qys(E:Env)(p:Ps)(c:Bool)(h:(E.text p c).2.bad=false):p.bad=false/\p.i<=(E.text p c).2.i/\c=true/\(ltk (E.at_ p).1=true->LR E p.i=[(E.text p c).1]++LR E (E.text p c).2.i):=by
 unfold Env.text at h⊢
 cases c
 ·have:=(qtf E _ h).1;cases this
 ·simp only[if_true]at h⊢
  obtain⟨h1,h0,h2,h3,-,h4⟩:=qtf E p h
  refine⟨h1,by omega,trivial,fun hk=>?_⟩
  rw[h4]at hk
  rw[qin h3,if_pos hk,if_neg (by rw[h];decide),h0,h2]
theorem qws(E:Env): ∀n i,i+n<=E.to->LR E i=LR E (pkn E n i)
 | 0,i,_=>rfl
 | n+1,i,h=>by
  simp only[pkn]
  split
  ·rename_i hc
   rw[qin (by omega),if_neg (by rw[hc];decide),<-qws E n (i+1) (by omega)];rfl
  ·rfl
theorem qmp(E:Env)(p:Ps):(E.notes p).2.bad=p.bad/\p.i<=(E.notes p).2.i/\LR E p.i=LR E (E.notes p).2.i:=by
 refine⟨rfl,Nat.le_max_left _ _,?_⟩
 show LR E p.i=LR E (max p.i (E.pk p.i))
 have h:=qex E (E.to-p.i) p.i
 by_cases hp:p.i<=E.to
 ·unfold Env.pk
  rw[show max p.i (pkn E (E.to-p.i) p.i)=pkn E (E.to-p.i) p.i by omega]
  exact qws E _ _ (by omega)
 ·unfold Env.pk
  rw[show E.to-p.i=0 by omega]
  simp[pkn]
theorem lr_fin(E:Env)(n:Nd)(p:Ps)(h:(qai E n p).p.bad=false):p.bad=false/\p.i<=(qai E n p).p.i/\lts n++LR E p.i=lts (qai E n p).x++LR E (qai E n p).p.i:=by
 obtain⟨h1,h2,h5⟩:=qq4 E _ _ _ h
 obtain⟨h3,h4,h6⟩:=qmp E p
 refine⟨by rw[<-h3];exact h1,Nat.le_trans h4 h2,?_⟩
 show _=lts (n.tail' _)++LR E (E.want (E.notes p).2 8 [101,110,100]).2.i
 rw[qir,<-h5 (.inl rfl),<-h6]
def NoH(E:Env)(AT:Nat):Prop:= ∀j,j<AT->(E.tk j).2.1.toList≠[35]/\(E.tk j).2.1.toList≠[102,117,110]/\(E.tk j).2.1.toList≠[60,60]
theorem qww{E:Env}{AT:Nat}(H:NoH E AT)(p:Ps)(k:Int)(s:Bs)(hs:E.is p k s=true)(h:(E.take p).2.bad=false)(hi:(E.take p).2.i<=AT):s≠[35]/\s≠[102,117,110]/\s≠[60,60]:=by
 obtain⟨h1,-,h2,h3,-,h4⟩:=qtf E p h
 have:=H p.i (by omega)
 unfold Env.is at hs
 simp only[zA,beq_iff_eq]at hs
 rw[h4]at hs
 rw[hs.2]at this
 exact this
theorem quz{E:Env}{AT:Nat}(H:NoH E AT)(p:Ps)(k:Int)(s:Bs)(h:(E.want p k s).2.bad=false)(hi:(E.want p k s).2.i<=AT):s≠[35]/\s≠[102,117,110]/\s≠[60,60]:=by
 unfold Env.want at h hi
 by_cases hc:E.is p k s=true
 ·rw[if_pos hc]at h hi
  exact qww H p k s hc h hi
 ·rw[if_neg hc]at h
  have:=(qtf E _ h).1;cases this
theorem qyo(E:Env)(p:Ps)(k:Int)(s:Bs)(hs:E.is p k s=true):(E.at_ p).1=k:=by
 unfold Env.is at hs
 simp only[zA,beq_iff_eq]at hs
 exact hs.1
theorem qyw{n:Nd}(h:n.kd=5)(y z:Nd)(t:ByteArray)(m:List ByteArray):lts ((((n.add [y]).add [z]).txt' t).tail' m)=lts n++(lts y++lts z):=by
 rw[qir,qq9 (by rw[qpt,qpt,h];decide),ql5,ql5,qiq,qiq,zB]
theorem pk_pk(E:Env)(i:Nat): ∀n,pkn E (n- (pkn E n i-i)) (pkn E n i)=pkn E n i:=by
 intro n
 induction n generalizing i with
 | zero=>simp[pkn]
 | succ n ih=>
  simp only[pkn]
  split
  ·have h:=qex E n (i+1)
   rw[show n+1- (pkn E n (i+1)-i)=n- (pkn E n (i+1)- (i+1))by omega]
   exact ih (i+1)
  ·rename_i hc
   rw[Nat.sub_self,Nat.sub_zero]
   simp only[pkn]
   rw[if_neg hc]
theorem qtj(E:Env)(p:Ps):E.at_ (E.notes p).2=E.at_ p:=by
 unfold Env.at_ Env.notes
 have h:=qex E (E.to-p.i) p.i
 have h2:E.pk (max p.i (E.pk p.i))=E.pk p.i:=by
  have:=pk_pk E p.i (E.to-p.i)
  unfold Env.pk
  rw[show max p.i (pkn E (E.to-p.i) p.i)=pkn E (E.to-p.i) p.i by omega,show E.to-pkn E (E.to-p.i) p.i=E.to-p.i- (pkn E (E.to-p.i) p.i-p.i)by omega]
  exact this
 simp only[h2]
theorem qvr{E:Env}{AT:Nat}(H:NoH E AT){R:Cmd->Ps->Option Out}(hh:SLA (LR E) E.is AT R)(hM:MoX R):SLA (LR E) E.is AT (qb6 E R):=by
 have ht:=qq3 E
 have hw:=qq4 E
 have hx:=qys E
 have hn:=qmp E
 have hf:=lr_fin E
 have hq:=qww H
 have hat:=qtj E
 have hv:=quz H
 have hy:=qyo E
 have hz: ∀p:Ps,p.wrong.bad=true:=fun _=>rfl
 unfold MoX at hM
 constructor
 case' expr_ | exprL_=>have g0:=hh.expr_;have g1:=hh.operand_;have g2:=hh.exprL_;clear hh hf
 case' operand_ | follow_=>have g0:=hh.operand_;have g1:=hh.primary_;have g2:=hh.follow_;have g3:=hh.box_;have g4:=hh.expr_;clear hh hf
 case' item_ | boxL_ | box_=>have g0:=hh.item_;have g1:=hh.boxL_;have g2:=hh.expr_;clear hh hf
 case' listL_=>have g0:=hh.expr_;have g1:=hh.comp_;have g2:=hh.listL_;clear hh hf
 case' list_ | comp_ | compL_=>have g0:=hh.listL_;have g1:=hh.compL_;have g2:=hh.expr_;clear hh hf
 case' func_ | rest_ | arrow_ | guard_ | body_ | clauses_ | ifs_=>have g0:=hh.guard_;have g1:=hh.arrow_;have g2:=hh.body_;have g3:=hh.guardL_;have g4:=hh.bodyL_;have g5:=hh.clausesL_;have g6:=hh.ifsL_;clear hh hf
 case' guardL_ | guardB_ | bodyL_=>have g0:=hh.expr_;have g1:=hh.guardB_;have g2:=hh.guardL_;have g3:=hh.bodyL_;clear hh hf
 case' clausesL_ | ifsL_=>have g0:=hh.expr_;have g1:=hh.rest_;have g2:=hh.clausesL_;have g3:=hh.guard_;have g4:=hh.arrow_;have g5:=hh.ifsL_;clear hh hf
 case' receive_=>have g0:=hh.clauses_;have g1:=hh.expr_;have g2:=hh.arrow_;clear hh
 case' primary_=>have g0:=hh.expr_;have g1:=hh.box_;have g2:=hh.list_;have g3:=hh.func_;have g4:=hh.clauses_;have g5:=hh.ifs_;have g6:=hh.receive_;have g7:=hh.body_;clear hh
 all_goals (intros;rename_i h hb hi hP;simp only[qb6]at h)
 all_goals (try unfold Env.sign at*)
 all_goals (try unfold Env.word at*)
 all_goals generalize LR E=rm at*
 all_goals generalize Env.take E=fT at*
 all_goals generalize Env.want E=fW at*
 all_goals generalize Env.text E=fX at*
 all_goals generalize Env.notes E=fN at*
 all_goals generalize qai E=fF at*
 all_goals generalize qcg E=fS at*
 all_goals generalize Env.at_ E=fA at*
 all_goals generalize Env.broken E=fB at*
 all_goals generalize Env.is E=fG at*
 all_goals (repeat' (first | (rw[zC]at h;obtain⟨_,h0,h⟩:=h;(repeat' (first | (rw[zC]at h0;obtain⟨_,_,h0⟩:=h0) | (rw[qcs]at h0;rcases h0 with⟨_,h0⟩ | ⟨_,h0⟩)))<;> (try (simp only[Option.some.injEq]at h0;subst h0))) | (rw[qcs]at h;rcases h with⟨_,h⟩ | ⟨_,h⟩) | split at h))
 all_goals (try (simp only[Option.some.injEq]at h;subst h))
 all_goals (try dsimp only at*)
 all_goals grind (gen:=20) (ematch:=20) [qyw,qup,ql5,qq8,qir,qyy,qyx,qq9,qz0,qyz,lts_nk,lts_zN,qun,qiq,quo,qq7,qip,qpt,qwp,qyn,kd_nkt,kd_nk,qyt,qyv,qyu,zB]
theorem qs2{E:Env}{AT:Nat}(H:NoH E AT): ∀n,SLA (LR E) E.is AT (qal E n)
 | 0=>by constructor<;>intros<;>rename_i h _ _ _<;>cases h
 | n+1=>qvr H (qs2 H n) (qhr E n)
end Go.Proofs.YtdhadeeajgoedaaGreat
