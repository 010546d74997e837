import Derived.Test.YtdhadeeajgoedaaGreatL14
set_option maxRecDepth 100000
set_option maxHeartbeats 4000000
set_option linter.all false
open Nat renaming le_refl→zA,le_trans→zB
namespace Go.Proofs.YtdhadeeajgoedaaGreat
open Go.RowKit Go.PlainAid
def plE(E:Env)(p:Ps):Nat:=if p.bad=true\/p.i<=E.to then 0 else 1
theorem qbv(E:Env)(p:Ps)(m:Nat):plE E p.wrong<=m:=by unfold plE;rw[if_pos (.inl rfl)];exact Nat.zero_le _
theorem pl_le{E:Env}{p q:Ps}(h:p.bad=true\/p.i<=E.to->q.bad=true\/q.i<=E.to):plE E q<=plE E p:=by
 unfold plE
 by_cases h1:p.bad=true\/p.i<=E.to
 ·rw[if_pos h1,if_pos (h h1)];exact zA _
 ·rw[if_neg h1];split<;>omega
theorem qao(E:Env)(p:Ps):plE E (E.take p).2<=plE E p:=pl_le (fun _=>by
 unfold Env.take
 split
 ·exact .inl rfl
 ·rename_i hc
  simp only[Bool.or_eq_true,decide_eq_true_eq,not_or]at hc
  exact .inr (by show p.i+1<=E.to;omega))
theorem qb0(E:Env)(p:Ps)(k:Int)(s:Bs):plE E (E.want p k s).2<=plE E p:=by
 unfold Env.want
 cases E.is p k s
 ·exact zB (qao E _) (qbv E p _)
 ·exact qao E p
theorem qaz(E:Env)(p:Ps)(ok:Bool):plE E (E.text p ok).2<=plE E p:=by
 unfold Env.text
 cases ok
 ·exact zB (qao E _) (qbv E p _)
 ·exact qao E p
theorem qan(E:Env)(p:Ps):plE E (E.notes p).2<=plE E p:=pl_le (fun h=>by
 rcases h with h | h
 ·exact .inl h
 ·have:=qix E h
  exact .inr (by show max p.i (E.pk p.i)<=E.to;omega))
theorem qbf(E:Env)(n:Nd)(p:Ps):plE E (qai E n p).p<=plE E p:=zB (qb0 E _ _ _) (qan E _)
theorem qba(E:Env): ∀(n:Nat) (s:ByteArray) (p:Ps),plE E (qcg E n s p).2<=plE E p
 | 0,s,p=>qbv E p _
 | n+1,s,p=>by
  simp only[qcg]
  split
  ·exact zB (qba E n _ _) (zB (qaz _ _ _) (qao _ _))
  ·exact zA _
theorem qy5{E:Env}{R:Cmd->Ps->Out}(hR: ∀c p,plE E (R c p).p<=plE E p)(level:Int)(p:Ps):plE E (qa6 E R (.expr level) p).p<=plE E p:=by
 simp only[qa6]
 have ht:=qao E
 have hw:=qb0 E
 have hx:=qaz E
 have hn:=qan E
 have hf:=qbf E
 have hs:=qba E
 have hz:=qbv E
 generalize plE E=rm at*
 generalize Env.take E=fT at*
 generalize Env.want E=fW at*
 generalize Env.text E=fX at*
 generalize Env.notes E=fN at*
 generalize qai E=fF at*
 generalize qcg E=fS at*
 generalize Ps.wrong=fZ at*
 generalize Env.sign E=fG at*
 generalize Env.word E=fO at*
 generalize Env.at_ E=fA at*
 generalize Env.broken E=fB at*
 repeat' (first | with_reducible exact zA _ | with_reducible exact hz _ _ | with_reducible refine qce ?_ ?_ | with_reducible refine qcc ?_ ?_ | with_reducible refine qcd ?_ ?_ | with_reducible refine qcf ?_ ?_ | with_reducible refine zB (hR _ _) ?_ | with_reducible refine zB (hf _ _) ?_ | with_reducible refine zB (hw _ _ _) ?_ | with_reducible refine zB (hx _ _) ?_ | with_reducible refine zB (hn _) ?_ | with_reducible refine zB (hs _ _ _) ?_ | with_reducible refine zB (ht _) ?_)
theorem qud{E:Env}{R:Cmd->Ps->Out}(hR: ∀c p,plE E (R c p).p<=plE E p)(level:Int)(left:Nd)(has:Int)(p:Ps):plE E (qa6 E R (.exprL level left has) p).p<=plE E p:=by
 simp only[qa6]
 have ht:=qao E
 have hw:=qb0 E
 have hx:=qaz E
 have hn:=qan E
 have hf:=qbf E
 have hs:=qba E
 have hz:=qbv E
 generalize plE E=rm at*
 generalize Env.take E=fT at*
 generalize Env.want E=fW at*
 generalize Env.text E=fX at*
 generalize Env.notes E=fN at*
 generalize qai E=fF at*
 generalize qcg E=fS at*
 generalize Ps.wrong=fZ at*
 generalize Env.sign E=fG at*
 generalize Env.word E=fO at*
 generalize Env.at_ E=fA at*
 generalize Env.broken E=fB at*
 repeat' (first | with_reducible exact zA _ | with_reducible exact hz _ _ | with_reducible refine qce ?_ ?_ | with_reducible refine qcc ?_ ?_ | with_reducible refine qcd ?_ ?_ | with_reducible refine qcf ?_ ?_ | with_reducible refine zB (hR _ _) ?_ | with_reducible refine zB (hf _ _) ?_ | with_reducible refine zB (hw _ _ _) ?_ | with_reducible refine zB (hx _ _) ?_ | with_reducible refine zB (hn _) ?_ | with_reducible refine zB (hs _ _ _) ?_ | with_reducible refine zB (ht _) ?_)
theorem qnm{E:Env}{R:Cmd->Ps->Out}(hR: ∀c p,plE E (R c p).p<=plE E p)(p:Ps):plE E (qa6 E R (.operand) p).p<=plE E p:=by
 simp only[qa6]
 have ht:=qao E
 have hw:=qb0 E
 have hx:=qaz E
 have hn:=qan E
 have hf:=qbf E
 have hs:=qba E
 have hz:=qbv E
 generalize plE E=rm at*
 generalize Env.take E=fT at*
 generalize Env.want E=fW at*
 generalize Env.text E=fX at*
 generalize Env.notes E=fN at*
 generalize qai E=fF at*
 generalize qcg E=fS at*
 generalize Ps.wrong=fZ at*
 generalize Env.sign E=fG at*
 generalize Env.word E=fO at*
 generalize Env.at_ E=fA at*
 generalize Env.broken E=fB at*
 repeat' (first | with_reducible exact zA _ | with_reducible exact hz _ _ | with_reducible refine qce ?_ ?_ | with_reducible refine qcc ?_ ?_ | with_reducible refine qcd ?_ ?_ | with_reducible refine qcf ?_ ?_ | with_reducible refine zB (hR _ _) ?_ | with_reducible refine zB (hf _ _) ?_ | with_reducible refine zB (hw _ _ _) ?_ | with_reducible refine zB (hx _ _) ?_ | with_reducible refine zB (hn _) ?_ | with_reducible refine zB (hs _ _ _) ?_ | with_reducible refine zB (ht _) ?_)
theorem qnn{E:Env}{R:Cmd->Ps->Out}(hR: ∀c p,plE E (R c p).p<=plE E p)(p:Ps):plE E (qa6 E R (.primary) p).p<=plE E p:=by
 simp only[qa6]
 have ht:=qao E
 have hw:=qb0 E
 have hx:=qaz E
 have hn:=qan E
 have hf:=qbf E
 have hs:=qba E
 have hz:=qbv E
 generalize plE E=rm at*
 generalize Env.take E=fT at*
 generalize Env.want E=fW at*
 generalize Env.text E=fX at*
 generalize Env.notes E=fN at*
 generalize qai E=fF at*
 generalize qcg E=fS at*
 generalize Ps.wrong=fZ at*
 generalize Env.sign E=fG at*
 generalize Env.word E=fO at*
 generalize Env.at_ E=fA at*
 generalize Env.broken E=fB at*
 repeat' (first | with_reducible exact zA _ | with_reducible exact hz _ _ | with_reducible refine qce ?_ ?_ | with_reducible refine qcc ?_ ?_ | with_reducible refine qcd ?_ ?_ | with_reducible refine qcf ?_ ?_ | with_reducible refine zB (hR _ _) ?_ | with_reducible refine zB (hf _ _) ?_ | with_reducible refine zB (hw _ _ _) ?_ | with_reducible refine zB (hx _ _) ?_ | with_reducible refine zB (hn _) ?_ | with_reducible refine zB (hs _ _ _) ?_ | with_reducible refine zB (ht _) ?_)
theorem qph{E:Env}{R:Cmd->Ps->Out}(hR: ∀c p,plE E (R c p).p<=plE E p)(x:Nd)(paren:Bool)(p:Ps):plE E (qa6 E R (.follow x paren) p).p<=plE E p:=by
 simp only[qa6]
 have ht:=qao E
 have hw:=qb0 E
 have hx:=qaz E
 have hn:=qan E
 have hf:=qbf E
 have hs:=qba E
 have hz:=qbv E
 generalize plE E=rm at*
 generalize Env.take E=fT at*
 generalize Env.want E=fW at*
 generalize Env.text E=fX at*
 generalize Env.notes E=fN at*
 generalize qai E=fF at*
 generalize qcg E=fS at*
 generalize Ps.wrong=fZ at*
 generalize Env.sign E=fG at*
 generalize Env.word E=fO at*
 generalize Env.at_ E=fA at*
 generalize Env.broken E=fB at*
 repeat' (first | with_reducible exact zA _ | with_reducible exact hz _ _ | with_reducible refine qce ?_ ?_ | with_reducible refine qcc ?_ ?_ | with_reducible refine qcd ?_ ?_ | with_reducible refine qcf ?_ ?_ | with_reducible refine zB (hR _ _) ?_ | with_reducible refine zB (hf _ _) ?_ | with_reducible refine zB (hw _ _ _) ?_ | with_reducible refine zB (hx _ _) ?_ | with_reducible refine zB (hn _) ?_ | with_reducible refine zB (hs _ _ _) ?_ | with_reducible refine zB (ht _) ?_)
theorem in_box{E:Env}{R:Cmd->Ps->Out}(hR: ∀c p,plE E (R c p).p<=plE E p)(n:Nd)(o:Bs)(c:Bs)(level:Int)(p:Ps):plE E (qa6 E R (.box n o c level) p).p<=plE E p:=by
 simp only[qa6]
 have ht:=qao E
 have hw:=qb0 E
 have hx:=qaz E
 have hn:=qan E
 have hf:=qbf E
 have hs:=qba E
 have hz:=qbv E
 generalize plE E=rm at*
 generalize Env.take E=fT at*
 generalize Env.want E=fW at*
 generalize Env.text E=fX at*
 generalize Env.notes E=fN at*
 generalize qai E=fF at*
 generalize qcg E=fS at*
 generalize Ps.wrong=fZ at*
 generalize Env.sign E=fG at*
 generalize Env.word E=fO at*
 generalize Env.at_ E=fA at*
 generalize Env.broken E=fB at*
 repeat' (first | with_reducible exact zA _ | with_reducible exact hz _ _ | with_reducible refine qce ?_ ?_ | with_reducible refine qcc ?_ ?_ | with_reducible refine qcd ?_ ?_ | with_reducible refine qcf ?_ ?_ | with_reducible refine zB (hR _ _) ?_ | with_reducible refine zB (hf _ _) ?_ | with_reducible refine zB (hw _ _ _) ?_ | with_reducible refine zB (hx _ _) ?_ | with_reducible refine zB (hn _) ?_ | with_reducible refine zB (hs _ _ _) ?_ | with_reducible refine zB (ht _) ?_)
theorem qy3{E:Env}{R:Cmd->Ps->Out}(hR: ∀c p,plE E (R c p).p<=plE E p)(n:Nd)(notes:List ByteArray)(c:Bs)(level:Int)(p:Ps):plE E (qa6 E R (.boxL n notes c level) p).p<=plE E p:=by
 simp only[qa6]
 have ht:=qao E
 have hw:=qb0 E
 have hx:=qaz E
 have hn:=qan E
 have hf:=qbf E
 have hs:=qba E
 have hz:=qbv E
 generalize plE E=rm at*
 generalize Env.take E=fT at*
 generalize Env.want E=fW at*
 generalize Env.text E=fX at*
 generalize Env.notes E=fN at*
 generalize qai E=fF at*
 generalize qcg E=fS at*
 generalize Ps.wrong=fZ at*
 generalize Env.sign E=fG at*
 generalize Env.word E=fO at*
 generalize Env.at_ E=fA at*
 generalize Env.broken E=fB at*
 repeat' (first | with_reducible exact zA _ | with_reducible exact hz _ _ | with_reducible refine qce ?_ ?_ | with_reducible refine qcc ?_ ?_ | with_reducible refine qcd ?_ ?_ | with_reducible refine qcf ?_ ?_ | with_reducible refine zB (hR _ _) ?_ | with_reducible refine zB (hf _ _) ?_ | with_reducible refine zB (hw _ _ _) ?_ | with_reducible refine zB (hx _ _) ?_ | with_reducible refine zB (hn _) ?_ | with_reducible refine zB (hs _ _ _) ?_ | with_reducible refine zB (ht _) ?_)
theorem qya{E:Env}{R:Cmd->Ps->Out}(hR: ∀c p,plE E (R c p).p<=plE E p)(kind:Int)(level:Int)(p:Ps):plE E (qa6 E R (.item kind level) p).p<=plE E p:=by
 simp only[qa6]
 have ht:=qao E
 have hw:=qb0 E
 have hx:=qaz E
 have hn:=qan E
 have hf:=qbf E
 have hs:=qba E
 have hz:=qbv E
 generalize plE E=rm at*
 generalize Env.take E=fT at*
 generalize Env.want E=fW at*
 generalize Env.text E=fX at*
 generalize Env.notes E=fN at*
 generalize qai E=fF at*
 generalize qcg E=fS at*
 generalize Ps.wrong=fZ at*
 generalize Env.sign E=fG at*
 generalize Env.word E=fO at*
 generalize Env.at_ E=fA at*
 generalize Env.broken E=fB at*
 repeat' (first | with_reducible exact zA _ | with_reducible exact hz _ _ | with_reducible refine qce ?_ ?_ | with_reducible refine qcc ?_ ?_ | with_reducible refine qcd ?_ ?_ | with_reducible refine qcf ?_ ?_ | with_reducible refine zB (hR _ _) ?_ | with_reducible refine zB (hf _ _) ?_ | with_reducible refine zB (hw _ _ _) ?_ | with_reducible refine zB (hx _ _) ?_ | with_reducible refine zB (hn _) ?_ | with_reducible refine zB (hs _ _ _) ?_ | with_reducible refine zB (ht _) ?_)
theorem qnp{E:Env}{R:Cmd->Ps->Out}(hR: ∀c p,plE E (R c p).p<=plE E p)(p:Ps):plE E (qa6 E R (.segment) p).p<=plE E p:=by
 simp only[qa6]
 have ht:=qao E
 have hw:=qb0 E
 have hx:=qaz E
 have hn:=qan E
 have hf:=qbf E
 have hs:=qba E
 have hz:=qbv E
 generalize plE E=rm at*
 generalize Env.take E=fT at*
 generalize Env.want E=fW at*
 generalize Env.text E=fX at*
 generalize Env.notes E=fN at*
 generalize qai E=fF at*
 generalize qcg E=fS at*
 generalize Ps.wrong=fZ at*
 generalize Env.sign E=fG at*
 generalize Env.word E=fO at*
 generalize Env.at_ E=fA at*
 generalize Env.broken E=fB at*
 repeat' (first | with_reducible exact zA _ | with_reducible exact hz _ _ | with_reducible refine qce ?_ ?_ | with_reducible refine qcc ?_ ?_ | with_reducible refine qcd ?_ ?_ | with_reducible refine qcf ?_ ?_ | with_reducible refine zB (hR _ _) ?_ | with_reducible refine zB (hf _ _) ?_ | with_reducible refine zB (hw _ _ _) ?_ | with_reducible refine zB (hx _ _) ?_ | with_reducible refine zB (hn _) ?_ | with_reducible refine zB (hs _ _ _) ?_ | with_reducible refine zB (ht _) ?_)
theorem qyb{E:Env}{R:Cmd->Ps->Out}(hR: ∀c p,plE E (R c p).p<=plE E p)(p:Ps):plE E (qa6 E R (.list) p).p<=plE E p:=by
 simp only[qa6]
 have ht:=qao E
 have hw:=qb0 E
 have hx:=qaz E
 have hn:=qan E
 have hf:=qbf E
 have hs:=qba E
 have hz:=qbv E
 generalize plE E=rm at*
 generalize Env.take E=fT at*
 generalize Env.want E=fW at*
 generalize Env.text E=fX at*
 generalize Env.notes E=fN at*
 generalize qai E=fF at*
 generalize qcg E=fS at*
 generalize Ps.wrong=fZ at*
 generalize Env.sign E=fG at*
 generalize Env.word E=fO at*
 generalize Env.at_ E=fA at*
 generalize Env.broken E=fB at*
 repeat' (first | with_reducible exact zA _ | with_reducible exact hz _ _ | with_reducible refine qce ?_ ?_ | with_reducible refine qcc ?_ ?_ | with_reducible refine qcd ?_ ?_ | with_reducible refine qcf ?_ ?_ | with_reducible refine zB (hR _ _) ?_ | with_reducible refine zB (hf _ _) ?_ | with_reducible refine zB (hw _ _ _) ?_ | with_reducible refine zB (hx _ _) ?_ | with_reducible refine zB (hn _) ?_ | with_reducible refine zB (hs _ _ _) ?_ | with_reducible refine zB (ht _) ?_)
theorem qug{E:Env}{R:Cmd->Ps->Out}(hR: ∀c p,plE E (R c p).p<=plE E p)(n:Nd)(notes:List ByteArray)(p:Ps):plE E (qa6 E R (.listL n notes) p).p<=plE E p:=by
 simp only[qa6]
 have ht:=qao E
 have hw:=qb0 E
 have hx:=qaz E
 have hn:=qan E
 have hf:=qbf E
 have hs:=qba E
 have hz:=qbv E
 generalize plE E=rm at*
 generalize Env.take E=fT at*
 generalize Env.want E=fW at*
 generalize Env.text E=fX at*
 generalize Env.notes E=fN at*
 generalize qai E=fF at*
 generalize qcg E=fS at*
 generalize Ps.wrong=fZ at*
 generalize Env.sign E=fG at*
 generalize Env.word E=fO at*
 generalize Env.at_ E=fA at*
 generalize Env.broken E=fB at*
 repeat' (first | with_reducible exact zA _ | with_reducible exact hz _ _ | with_reducible refine qce ?_ ?_ | with_reducible refine qcc ?_ ?_ | with_reducible refine qcd ?_ ?_ | with_reducible refine qcf ?_ ?_ | with_reducible refine zB (hR _ _) ?_ | with_reducible refine zB (hf _ _) ?_ | with_reducible refine zB (hw _ _ _) ?_ | with_reducible refine zB (hx _ _) ?_ | with_reducible refine zB (hn _) ?_ | with_reducible refine zB (hs _ _ _) ?_ | with_reducible refine zB (ht _) ?_)
theorem qy4{E:Env}{R:Cmd->Ps->Out}(hR: ∀c p,plE E (R c p).p<=plE E p)(x:Nd)(broken:Bool)(p:Ps):plE E (qa6 E R (.comp x broken) p).p<=plE E p:=by
 simp only[qa6]
 have ht:=qao E
 have hw:=qb0 E
 have hx:=qaz E
 have hn:=qan E
 have hf:=qbf E
 have hs:=qba E
 have hz:=qbv E
 generalize plE E=rm at*
 generalize Env.take E=fT at*
 generalize Env.want E=fW at*
 generalize Env.text E=fX at*
 generalize Env.notes E=fN at*
 generalize qai E=fF at*
 generalize qcg E=fS at*
 generalize Ps.wrong=fZ at*
 generalize Env.sign E=fG at*
 generalize Env.word E=fO at*
 generalize Env.at_ E=fA at*
 generalize Env.broken E=fB at*
 repeat' (first | with_reducible exact zA _ | with_reducible exact hz _ _ | with_reducible refine qce ?_ ?_ | with_reducible refine qcc ?_ ?_ | with_reducible refine qcd ?_ ?_ | with_reducible refine qcf ?_ ?_ | with_reducible refine zB (hR _ _) ?_ | with_reducible refine zB (hf _ _) ?_ | with_reducible refine zB (hw _ _ _) ?_ | with_reducible refine zB (hx _ _) ?_ | with_reducible refine zB (hn _) ?_ | with_reducible refine zB (hs _ _ _) ?_ | with_reducible refine zB (ht _) ?_)
theorem quc{E:Env}{R:Cmd->Ps->Out}(hR: ∀c p,plE E (R c p).p<=plE E p)(n:Nd)(p:Ps):plE E (qa6 E R (.compL n) p).p<=plE E p:=by
 simp only[qa6]
 have ht:=qao E
 have hw:=qb0 E
 have hx:=qaz E
 have hn:=qan E
 have hf:=qbf E
 have hs:=qba E
 have hz:=qbv E
 generalize plE E=rm at*
 generalize Env.take E=fT at*
 generalize Env.want E=fW at*
 generalize Env.text E=fX at*
 generalize Env.notes E=fN at*
 generalize qai E=fF at*
 generalize qcg E=fS at*
 generalize Ps.wrong=fZ at*
 generalize Env.sign E=fG at*
 generalize Env.word E=fO at*
 generalize Env.at_ E=fA at*
 generalize Env.broken E=fB at*
 repeat' (first | with_reducible exact zA _ | with_reducible exact hz _ _ | with_reducible refine qce ?_ ?_ | with_reducible refine qcc ?_ ?_ | with_reducible refine qcd ?_ ?_ | with_reducible refine qcf ?_ ?_ | with_reducible refine zB (hR _ _) ?_ | with_reducible refine zB (hf _ _) ?_ | with_reducible refine zB (hw _ _ _) ?_ | with_reducible refine zB (hx _ _) ?_ | with_reducible refine zB (hn _) ?_ | with_reducible refine zB (hs _ _ _) ?_ | with_reducible refine zB (ht _) ?_)
theorem qy7{E:Env}{R:Cmd->Ps->Out}(hR: ∀c p,plE E (R c p).p<=plE E p)(of:List Nd)(p:Ps):plE E (qa6 E R (.hash of) p).p<=plE E p:=by
 simp only[qa6]
 have ht:=qao E
 have hw:=qb0 E
 have hx:=qaz E
 have hn:=qan E
 have hf:=qbf E
 have hs:=qba E
 have hz:=qbv E
 generalize plE E=rm at*
 generalize Env.take E=fT at*
 generalize Env.want E=fW at*
 generalize Env.text E=fX at*
 generalize Env.notes E=fN at*
 generalize qai E=fF at*
 generalize qcg E=fS at*
 generalize Ps.wrong=fZ at*
 generalize Env.sign E=fG at*
 generalize Env.word E=fO at*
 generalize Env.at_ E=fA at*
 generalize Env.broken E=fB at*
 repeat' (first | with_reducible exact zA _ | with_reducible exact hz _ _ | with_reducible refine qce ?_ ?_ | with_reducible refine qcc ?_ ?_ | with_reducible refine qcd ?_ ?_ | with_reducible refine qcf ?_ ?_ | with_reducible refine zB (hR _ _) ?_ | with_reducible refine zB (hf _ _) ?_ | with_reducible refine zB (hw _ _ _) ?_ | with_reducible refine zB (hx _ _) ?_ | with_reducible refine zB (hn _) ?_ | with_reducible refine zB (hs _ _ _) ?_ | with_reducible refine zB (ht _) ?_)
theorem qy6{E:Env}{R:Cmd->Ps->Out}(hR: ∀c p,plE E (R c p).p<=plE E p)(p:Ps):plE E (qa6 E R (.func) p).p<=plE E p:=by
 simp only[qa6]
 have ht:=qao E
 have hw:=qb0 E
 have hx:=qaz E
 have hn:=qan E
 have hf:=qbf E
 have hs:=qba E
 have hz:=qbv E
 generalize plE E=rm at*
 generalize Env.take E=fT at*
 generalize Env.want E=fW at*
 generalize Env.text E=fX at*
 generalize Env.notes E=fN at*
 generalize qai E=fF at*
 generalize qcg E=fS at*
 generalize Ps.wrong=fZ at*
 generalize Env.sign E=fG at*
 generalize Env.word E=fO at*
 generalize Env.at_ E=fA at*
 generalize Env.broken E=fB at*
 repeat' (first | with_reducible exact zA _ | with_reducible exact hz _ _ | with_reducible refine qce ?_ ?_ | with_reducible refine qcc ?_ ?_ | with_reducible refine qcd ?_ ?_ | with_reducible refine qcf ?_ ?_ | with_reducible refine zB (hR _ _) ?_ | with_reducible refine zB (hf _ _) ?_ | with_reducible refine zB (hw _ _ _) ?_ | with_reducible refine zB (hx _ _) ?_ | with_reducible refine zB (hn _) ?_ | with_reducible refine zB (hs _ _ _) ?_ | with_reducible refine zB (ht _) ?_)
theorem que{E:Env}{R:Cmd->Ps->Out}(hR: ∀c p,plE E (R c p).p<=plE E p)(n:Nd)(p:Ps):plE E (qa6 E R (.funcL n) p).p<=plE E p:=by
 simp only[qa6]
 have ht:=qao E
 have hw:=qb0 E
 have hx:=qaz E
 have hn:=qan E
 have hf:=qbf E
 have hs:=qba E
 have hz:=qbv E
 generalize plE E=rm at*
 generalize Env.take E=fT at*
 generalize Env.want E=fW at*
 generalize Env.text E=fX at*
 generalize Env.notes E=fN at*
 generalize qai E=fF at*
 generalize qcg E=fS at*
 generalize Ps.wrong=fZ at*
 generalize Env.sign E=fG at*
 generalize Env.word E=fO at*
 generalize Env.at_ E=fA at*
 generalize Env.broken E=fB at*
 repeat' (first | with_reducible exact zA _ | with_reducible exact hz _ _ | with_reducible refine qce ?_ ?_ | with_reducible refine qcc ?_ ?_ | with_reducible refine qcd ?_ ?_ | with_reducible refine qcf ?_ ?_ | with_reducible refine zB (hR _ _) ?_ | with_reducible refine zB (hf _ _) ?_ | with_reducible refine zB (hw _ _ _) ?_ | with_reducible refine zB (hx _ _) ?_ | with_reducible refine zB (hn _) ?_ | with_reducible refine zB (hs _ _ _) ?_ | with_reducible refine zB (ht _) ?_)
theorem qy8{E:Env}{R:Cmd->Ps->Out}(hR: ∀c p,plE E (R c p).p<=plE E p)(s:ByteArray)(p:Ps):plE E (qa6 E R (.head s) p).p<=plE E p:=by
 simp only[qa6]
 have ht:=qao E
 have hw:=qb0 E
 have hx:=qaz E
 have hn:=qan E
 have hf:=qbf E
 have hs:=qba E
 have hz:=qbv E
 generalize plE E=rm at*
 generalize Env.take E=fT at*
 generalize Env.want E=fW at*
 generalize Env.text E=fX at*
 generalize Env.notes E=fN at*
 generalize qai E=fF at*
 generalize qcg E=fS at*
 generalize Ps.wrong=fZ at*
 generalize Env.sign E=fG at*
 generalize Env.word E=fO at*
 generalize Env.at_ E=fA at*
 generalize Env.broken E=fB at*
 repeat' (first | with_reducible exact zA _ | with_reducible exact hz _ _ | with_reducible refine qce ?_ ?_ | with_reducible refine qcc ?_ ?_ | with_reducible refine qcd ?_ ?_ | with_reducible refine qcf ?_ ?_ | with_reducible refine zB (hR _ _) ?_ | with_reducible refine zB (hf _ _) ?_ | with_reducible refine zB (hw _ _ _) ?_ | with_reducible refine zB (hx _ _) ?_ | with_reducible refine zB (hn _) ?_ | with_reducible refine zB (hs _ _ _) ?_ | with_reducible refine zB (ht _) ?_)
theorem qyc{E:Env}{R:Cmd->Ps->Out}(hR: ∀c p,plE E (R c p).p<=plE E p)(c:Nd)(p:Ps):plE E (qa6 E R (.rest c) p).p<=plE E p:=by
 simp only[qa6]
 have ht:=qao E
 have hw:=qb0 E
 have hx:=qaz E
 have hn:=qan E
 have hf:=qbf E
 have hs:=qba E
 have hz:=qbv E
 generalize plE E=rm at*
 generalize Env.take E=fT at*
 generalize Env.want E=fW at*
 generalize Env.text E=fX at*
 generalize Env.notes E=fN at*
 generalize qai E=fF at*
 generalize qcg E=fS at*
 generalize Ps.wrong=fZ at*
 generalize Env.sign E=fG at*
 generalize Env.word E=fO at*
 generalize Env.at_ E=fA at*
 generalize Env.broken E=fB at*
 repeat' (first | with_reducible exact zA _ | with_reducible exact hz _ _ | with_reducible refine qce ?_ ?_ | with_reducible refine qcc ?_ ?_ | with_reducible refine qcd ?_ ?_ | with_reducible refine qcf ?_ ?_ | with_reducible refine zB (hR _ _) ?_ | with_reducible refine zB (hf _ _) ?_ | with_reducible refine zB (hw _ _ _) ?_ | with_reducible refine zB (hx _ _) ?_ | with_reducible refine zB (hn _) ?_ | with_reducible refine zB (hs _ _ _) ?_ | with_reducible refine zB (ht _) ?_)
theorem qua{E:Env}{R:Cmd->Ps->Out}(hR: ∀c p,plE E (R c p).p<=plE E p)(c:Nd)(g:Nd)(p:Ps):plE E (qa6 E R (.arrow c g) p).p<=plE E p:=by
 simp only[qa6]
 have ht:=qao E
 have hw:=qb0 E
 have hx:=qaz E
 have hn:=qan E
 have hf:=qbf E
 have hs:=qba E
 have hz:=qbv E
 generalize plE E=rm at*
 generalize Env.take E=fT at*
 generalize Env.want E=fW at*
 generalize Env.text E=fX at*
 generalize Env.notes E=fN at*
 generalize qai E=fF at*
 generalize qcg E=fS at*
 generalize Ps.wrong=fZ at*
 generalize Env.sign E=fG at*
 generalize Env.word E=fO at*
 generalize Env.at_ E=fA at*
 generalize Env.broken E=fB at*
 repeat' (first | with_reducible exact zA _ | with_reducible exact hz _ _ | with_reducible refine qce ?_ ?_ | with_reducible refine qcc ?_ ?_ | with_reducible refine qcd ?_ ?_ | with_reducible refine qcf ?_ ?_ | with_reducible refine zB (hR _ _) ?_ | with_reducible refine zB (hf _ _) ?_ | with_reducible refine zB (hw _ _ _) ?_ | with_reducible refine zB (hx _ _) ?_ | with_reducible refine zB (hn _) ?_ | with_reducible refine zB (hs _ _ _) ?_ | with_reducible refine zB (ht _) ?_)
theorem quf{E:Env}{R:Cmd->Ps->Out}(hR: ∀c p,plE E (R c p).p<=plE E p)(p:Ps):plE E (qa6 E R (.guard) p).p<=plE E p:=by
 simp only[qa6]
 have ht:=qao E
 have hw:=qb0 E
 have hx:=qaz E
 have hn:=qan E
 have hf:=qbf E
 have hs:=qba E
 have hz:=qbv E
 generalize plE E=rm at*
 generalize Env.take E=fT at*
 generalize Env.want E=fW at*
 generalize Env.text E=fX at*
 generalize Env.notes E=fN at*
 generalize qai E=fF at*
 generalize qcg E=fS at*
 generalize Ps.wrong=fZ at*
 generalize Env.sign E=fG at*
 generalize Env.word E=fO at*
 generalize Env.at_ E=fA at*
 generalize Env.broken E=fB at*
 repeat' (first | with_reducible exact zA _ | with_reducible exact hz _ _ | with_reducible refine qce ?_ ?_ | with_reducible refine qcc ?_ ?_ | with_reducible refine qcd ?_ ?_ | with_reducible refine qcf ?_ ?_ | with_reducible refine zB (hR _ _) ?_ | with_reducible refine zB (hf _ _) ?_ | with_reducible refine zB (hw _ _ _) ?_ | with_reducible refine zB (hx _ _) ?_ | with_reducible refine zB (hn _) ?_ | with_reducible refine zB (hs _ _ _) ?_ | with_reducible refine zB (ht _) ?_)
theorem qpj{E:Env}{R:Cmd->Ps->Out}(hR: ∀c p,plE E (R c p).p<=plE E p)(g:Nd)(p:Ps):plE E (qa6 E R (.guardL g) p).p<=plE E p:=by
 simp only[qa6]
 have ht:=qao E
 have hw:=qb0 E
 have hx:=qaz E
 have hn:=qan E
 have hf:=qbf E
 have hs:=qba E
 have hz:=qbv E
 generalize plE E=rm at*
 generalize Env.take E=fT at*
 generalize Env.want E=fW at*
 generalize Env.text E=fX at*
 generalize Env.notes E=fN at*
 generalize qai E=fF at*
 generalize qcg E=fS at*
 generalize Ps.wrong=fZ at*
 generalize Env.sign E=fG at*
 generalize Env.word E=fO at*
 generalize Env.at_ E=fA at*
 generalize Env.broken E=fB at*
 repeat' (first | with_reducible exact zA _ | with_reducible exact hz _ _ | with_reducible refine qce ?_ ?_ | with_reducible refine qcc ?_ ?_ | with_reducible refine qcd ?_ ?_ | with_reducible refine qcf ?_ ?_ | with_reducible refine zB (hR _ _) ?_ | with_reducible refine zB (hf _ _) ?_ | with_reducible refine zB (hw _ _ _) ?_ | with_reducible refine zB (hx _ _) ?_ | with_reducible refine zB (hn _) ?_ | with_reducible refine zB (hs _ _ _) ?_ | with_reducible refine zB (ht _) ?_)
theorem qpi{E:Env}{R:Cmd->Ps->Out}(hR: ∀c p,plE E (R c p).p<=plE E p)(b:Nd)(p:Ps):plE E (qa6 E R (.guardB b) p).p<=plE E p:=by
 simp only[qa6]
 have ht:=qao E
 have hw:=qb0 E
 have hx:=qaz E
 have hn:=qan E
 have hf:=qbf E
 have hs:=qba E
 have hz:=qbv E
 generalize plE E=rm at*
 generalize Env.take E=fT at*
 generalize Env.want E=fW at*
 generalize Env.text E=fX at*
 generalize Env.notes E=fN at*
 generalize qai E=fF at*
 generalize qcg E=fS at*
 generalize Ps.wrong=fZ at*
 generalize Env.sign E=fG at*
 generalize Env.word E=fO at*
 generalize Env.at_ E=fA at*
 generalize Env.broken E=fB at*
 repeat' (first | with_reducible exact zA _ | with_reducible exact hz _ _ | with_reducible refine qce ?_ ?_ | with_reducible refine qcc ?_ ?_ | with_reducible refine qcd ?_ ?_ | with_reducible refine qcf ?_ ?_ | with_reducible refine zB (hR _ _) ?_ | with_reducible refine zB (hf _ _) ?_ | with_reducible refine zB (hw _ _ _) ?_ | with_reducible refine zB (hx _ _) ?_ | with_reducible refine zB (hn _) ?_ | with_reducible refine zB (hs _ _ _) ?_ | with_reducible refine zB (ht _) ?_)
theorem qy2{E:Env}{R:Cmd->Ps->Out}(hR: ∀c p,plE E (R c p).p<=plE E p)(p:Ps):plE E (qa6 E R (.body) p).p<=plE E p:=by
 simp only[qa6]
 have ht:=qao E
 have hw:=qb0 E
 have hx:=qaz E
 have hn:=qan E
 have hf:=qbf E
 have hs:=qba E
 have hz:=qbv E
 generalize plE E=rm at*
 generalize Env.take E=fT at*
 generalize Env.want E=fW at*
 generalize Env.text E=fX at*
 generalize Env.notes E=fN at*
 generalize qai E=fF at*
 generalize qcg E=fS at*
 generalize Ps.wrong=fZ at*
 generalize Env.sign E=fG at*
 generalize Env.word E=fO at*
 generalize Env.at_ E=fA at*
 generalize Env.broken E=fB at*
 repeat' (first | with_reducible exact zA _ | with_reducible exact hz _ _ | with_reducible refine qce ?_ ?_ | with_reducible refine qcc ?_ ?_ | with_reducible refine qcd ?_ ?_ | with_reducible refine qcf ?_ ?_ | with_reducible refine zB (hR _ _) ?_ | with_reducible refine zB (hf _ _) ?_ | with_reducible refine zB (hw _ _ _) ?_ | with_reducible refine zB (hx _ _) ?_ | with_reducible refine zB (hn _) ?_ | with_reducible refine zB (hs _ _ _) ?_ | with_reducible refine zB (ht _) ?_)
theorem qub{E:Env}{R:Cmd->Ps->Out}(hR: ∀c p,plE E (R c p).p<=plE E p)(b:Nd)(p:Ps):plE E (qa6 E R (.bodyL b) p).p<=plE E p:=by
 simp only[qa6]
 have ht:=qao E
 have hw:=qb0 E
 have hx:=qaz E
 have hn:=qan E
 have hf:=qbf E
 have hs:=qba E
 have hz:=qbv E
 generalize plE E=rm at*
 generalize Env.take E=fT at*
 generalize Env.want E=fW at*
 generalize Env.text E=fX at*
 generalize Env.notes E=fN at*
 generalize qai E=fF at*
 generalize qcg E=fS at*
 generalize Ps.wrong=fZ at*
 generalize Env.sign E=fG at*
 generalize Env.word E=fO at*
 generalize Env.at_ E=fA at*
 generalize Env.broken E=fB at*
 repeat' (first | with_reducible exact zA _ | with_reducible exact hz _ _ | with_reducible refine qce ?_ ?_ | with_reducible refine qcc ?_ ?_ | with_reducible refine qcd ?_ ?_ | with_reducible refine qcf ?_ ?_ | with_reducible refine zB (hR _ _) ?_ | with_reducible refine zB (hf _ _) ?_ | with_reducible refine zB (hw _ _ _) ?_ | with_reducible refine zB (hx _ _) ?_ | with_reducible refine zB (hn _) ?_ | with_reducible refine zB (hs _ _ _) ?_ | with_reducible refine zB (ht _) ?_)
theorem qnl{E:Env}{R:Cmd->Ps->Out}(hR: ∀c p,plE E (R c p).p<=plE E p)(p:Ps):plE E (qa6 E R (.clauses) p).p<=plE E p:=by
 simp only[qa6]
 have ht:=qao E
 have hw:=qb0 E
 have hx:=qaz E
 have hn:=qan E
 have hf:=qbf E
 have hs:=qba E
 have hz:=qbv E
 generalize plE E=rm at*
 generalize Env.take E=fT at*
 generalize Env.want E=fW at*
 generalize Env.text E=fX at*
 generalize Env.notes E=fN at*
 generalize qai E=fF at*
 generalize qcg E=fS at*
 generalize Ps.wrong=fZ at*
 generalize Env.sign E=fG at*
 generalize Env.word E=fO at*
 generalize Env.at_ E=fA at*
 generalize Env.broken E=fB at*
 repeat' (first | with_reducible exact zA _ | with_reducible exact hz _ _ | with_reducible refine qce ?_ ?_ | with_reducible refine qcc ?_ ?_ | with_reducible refine qcd ?_ ?_ | with_reducible refine qcf ?_ ?_ | with_reducible refine zB (hR _ _) ?_ | with_reducible refine zB (hf _ _) ?_ | with_reducible refine zB (hw _ _ _) ?_ | with_reducible refine zB (hx _ _) ?_ | with_reducible refine zB (hn _) ?_ | with_reducible refine zB (hs _ _ _) ?_ | with_reducible refine zB (ht _) ?_)
theorem ql2{E:Env}{R:Cmd->Ps->Out}(hR: ∀c p,plE E (R c p).p<=plE E p)(out:List Nd)(p:Ps):plE E (qa6 E R (.clausesL out) p).p<=plE E p:=by
 simp only[qa6]
 have ht:=qao E
 have hw:=qb0 E
 have hx:=qaz E
 have hn:=qan E
 have hf:=qbf E
 have hs:=qba E
 have hz:=qbv E
 generalize plE E=rm at*
 generalize Env.take E=fT at*
 generalize Env.want E=fW at*
 generalize Env.text E=fX at*
 generalize Env.notes E=fN at*
 generalize qai E=fF at*
 generalize qcg E=fS at*
 generalize Ps.wrong=fZ at*
 generalize Env.sign E=fG at*
 generalize Env.word E=fO at*
 generalize Env.at_ E=fA at*
 generalize Env.broken E=fB at*
 repeat' (first | with_reducible exact zA _ | with_reducible exact hz _ _ | with_reducible refine qce ?_ ?_ | with_reducible refine qcc ?_ ?_ | with_reducible refine qcd ?_ ?_ | with_reducible refine qcf ?_ ?_ | with_reducible refine zB (hR _ _) ?_ | with_reducible refine zB (hf _ _) ?_ | with_reducible refine zB (hw _ _ _) ?_ | with_reducible refine zB (hx _ _) ?_ | with_reducible refine zB (hn _) ?_ | with_reducible refine zB (hs _ _ _) ?_ | with_reducible refine zB (ht _) ?_)
theorem in_ifs{E:Env}{R:Cmd->Ps->Out}(hR: ∀c p,plE E (R c p).p<=plE E p)(p:Ps):plE E (qa6 E R (.ifs) p).p<=plE E p:=by
 simp only[qa6]
 have ht:=qao E
 have hw:=qb0 E
 have hx:=qaz E
 have hn:=qan E
 have hf:=qbf E
 have hs:=qba E
 have hz:=qbv E
 generalize plE E=rm at*
 generalize Env.take E=fT at*
 generalize Env.want E=fW at*
 generalize Env.text E=fX at*
 generalize Env.notes E=fN at*
 generalize qai E=fF at*
 generalize qcg E=fS at*
 generalize Ps.wrong=fZ at*
 generalize Env.sign E=fG at*
 generalize Env.word E=fO at*
 generalize Env.at_ E=fA at*
 generalize Env.broken E=fB at*
 repeat' (first | with_reducible exact zA _ | with_reducible exact hz _ _ | with_reducible refine qce ?_ ?_ | with_reducible refine qcc ?_ ?_ | with_reducible refine qcd ?_ ?_ | with_reducible refine qcf ?_ ?_ | with_reducible refine zB (hR _ _) ?_ | with_reducible refine zB (hf _ _) ?_ | with_reducible refine zB (hw _ _ _) ?_ | with_reducible refine zB (hx _ _) ?_ | with_reducible refine zB (hn _) ?_ | with_reducible refine zB (hs _ _ _) ?_ | with_reducible refine zB (ht _) ?_)
theorem qy9{E:Env}{R:Cmd->Ps->Out}(hR: ∀c p,plE E (R c p).p<=plE E p)(out:List Nd)(p:Ps):plE E (qa6 E R (.ifsL out) p).p<=plE E p:=by
 simp only[qa6]
 have ht:=qao E
 have hw:=qb0 E
 have hx:=qaz E
 have hn:=qan E
 have hf:=qbf E
 have hs:=qba E
 have hz:=qbv E
 generalize plE E=rm at*
 generalize Env.take E=fT at*
 generalize Env.want E=fW at*
 generalize Env.text E=fX at*
 generalize Env.notes E=fN at*
 generalize qai E=fF at*
 generalize qcg E=fS at*
 generalize Ps.wrong=fZ at*
 generalize Env.sign E=fG at*
 generalize Env.word E=fO at*
 generalize Env.at_ E=fA at*
 generalize Env.broken E=fB at*
 repeat' (first | with_reducible exact zA _ | with_reducible exact hz _ _ | with_reducible refine qce ?_ ?_ | with_reducible refine qcc ?_ ?_ | with_reducible refine qcd ?_ ?_ | with_reducible refine qcf ?_ ?_ | with_reducible refine zB (hR _ _) ?_ | with_reducible refine zB (hf _ _) ?_ | with_reducible refine zB (hw _ _ _) ?_ | with_reducible refine zB (hx _ _) ?_ | with_reducible refine zB (hn _) ?_ | with_reducible refine zB (hs _ _ _) ?_ | with_reducible refine zB (ht _) ?_)
theorem qno{E:Env}{R:Cmd->Ps->Out}(hR: ∀c p,plE E (R c p).p<=plE E p)(p:Ps):plE E (qa6 E R (.receive) p).p<=plE E p:=by
 simp only[qa6]
 have ht:=qao E
 have hw:=qb0 E
 have hx:=qaz E
 have hn:=qan E
 have hf:=qbf E
 have hs:=qba E
 have hz:=qbv E
 generalize plE E=rm at*
 generalize Env.take E=fT at*
 generalize Env.want E=fW at*
 generalize Env.text E=fX at*
 generalize Env.notes E=fN at*
 generalize qai E=fF at*
 generalize qcg E=fS at*
 generalize Ps.wrong=fZ at*
 generalize Env.sign E=fG at*
 generalize Env.word E=fO at*
 generalize Env.at_ E=fA at*
 generalize Env.broken E=fB at*
 repeat' (first | with_reducible exact zA _ | with_reducible exact hz _ _ | with_reducible refine qce ?_ ?_ | with_reducible refine qcc ?_ ?_ | with_reducible refine qcd ?_ ?_ | with_reducible refine qcf ?_ ?_ | with_reducible refine zB (hR _ _) ?_ | with_reducible refine zB (hf _ _) ?_ | with_reducible refine zB (hw _ _ _) ?_ | with_reducible refine zB (hx _ _) ?_ | with_reducible refine zB (hn _) ?_ | with_reducible refine zB (hs _ _ _) ?_ | with_reducible refine zB (ht _) ?_)
theorem qyd(E:Env)(R:Cmd->Ps->Out)(hR: ∀c p,plE E (R c p).p<=plE E p)(c:Cmd)(p:Ps):plE E (qa6 E R c p).p<=plE E p:=by
 cases c with
 | expr level=>exact qy5 hR level p
 | exprL level left has=>exact qud hR level left has p
 | operand=>exact qnm hR p
 | primary=>exact qnn hR p
 | follow x paren=>exact qph hR x paren p
 | box n o c level=>exact in_box hR n o c level p
 | boxL n notes c level=>exact qy3 hR n notes c level p
 | item kind level=>exact qya hR kind level p
 | segment=>exact qnp hR p
 | list=>exact qyb hR p
 | listL n notes=>exact qug hR n notes p
 | comp x broken=>exact qy4 hR x broken p
 | compL n=>exact quc hR n p
 | hash of=>exact qy7 hR of p
 | func=>exact qy6 hR p
 | funcL n=>exact que hR n p
 | head s=>exact qy8 hR s p
 | rest c=>exact qyc hR c p
 | arrow c g=>exact qua hR c g p
 | guard=>exact quf hR p
 | guardL g=>exact qpj hR g p
 | guardB b=>exact qpi hR b p
 | body=>exact qy2 hR p
 | bodyL b=>exact qub hR b p
 | clauses=>exact qnl hR p
 | clausesL out=>exact ql2 hR out p
 | ifs=>exact in_ifs hR p
 | ifsL out=>exact qy9 hR out p
 | receive=>exact qno hR p
theorem qx5(E:Env): ∀(n:Nat) (c:Cmd) (p:Ps),plE E (qft E n c p).p<=plE E p
 | 0,_,p=>qbv E p _
 | n+1,c,p=>by simp only[qft];exact qyd E _ (qx5 E n) c p
end Go.Proofs.YtdhadeeajgoedaaGreat
