/-
  What the claims stand on: PmIn.
-/
import Derived.Test.YtdhadeeajgoedaaGreatK15
set_option maxRecDepth 100000
set_option maxHeartbeats 4000000
set_option linter.unusedVariables false
set_option linter.unusedSimpArgs false
open Nat renaming le_refl→zA,le_trans→zB
namespace Go.Proofs.YtdhadeeajgoedaaGreat
open Go.RowKit Go.PlainAid
def plE(E:Env)(p:Ps):Nat:=if p.bad=true\/p.i<=E.to then 0 else 1
theorem qbr(E:Env)(p:Ps)(m:Nat):plE E p.wrong<=m:=by unfold plE;rw[if_pos (.inl rfl)];exact Nat.zero_le _
theorem pl_le{E:Env}{p q:Ps}(h:p.bad=true\/p.i<=E.to->q.bad=true\/q.i<=E.to):plE E q<=plE E p:=by
 unfold plE
 by_cases h1:p.bad=true\/p.i<=E.to
 ·rw[if_pos h1,if_pos (h h1)];exact zA _
 ·rw[if_neg h1];split<;>omega
theorem qam(E:Env)(p:Ps):plE E (E.take p).2<=plE E p:=pl_le (fun _=>by
 unfold Env.take
 split
 ·exact .inl rfl
 ·rename_i hc
  simp only[Bool.or_eq_true,decide_eq_true_eq,not_or]at hc
  exact .inr (by show p.i+1<=E.to;omega))
theorem qaz(E:Env)(p:Ps)(k:Int)(s:Bs):plE E (E.want p k s).2<=plE E p:=by
 unfold Env.want
 cases E.is p k s
 ·exact zB (qam E _) (qbr E p _)
 ·exact qam E p
theorem qay(E:Env)(p:Ps)(ok:Bool):plE E (E.text p ok).2<=plE E p:=by
 unfold Env.text
 cases ok
 ·exact zB (qam E _) (qbr E p _)
 ·exact qam E p
theorem qal(E:Env)(p:Ps):plE E (E.notes p).2<=plE E p:=pl_le (fun h=>by
 rcases h with h | h
 ·exact .inl h
 ·have:=qit E h
  exact .inr (by show max p.i (E.pk p.i)<=E.to;omega))
theorem qba(E:Env)(n:Nd)(p:Ps):plE E (qau E n p).p<=plE E p:=zB (qaz E _ _ _) (qal E _)
theorem qb6(E:Env): ∀(n:Nat) (s:ByteArray) (p:Ps),plE E (segT E n s p).2<=plE E p
 | 0,s,p=>qbr E p _
 | n+1,s,p=>by
  simp only[segT]
  split
  ·exact zB (qb6 E n _ _) (zB (qay _ _ _) (qam _ _))
  ·exact zA _
theorem quf{E:Env}{R:Cmd->Ps->Out}(hR: ∀c p,plE E (R c p).p<=plE E p)(level:Int)(p:Ps):plE E (qa6 E R (.expr level) p).p<=plE E p:=by
 simp only[qa6]
 have ht:=qam E
 have hw:=qaz E
 have hx:=qay E
 have hn:=qal E
 have hf:=qba E
 have hs:=qb6 E
 have hz:=qbr E
 generalize plE E=rm at*
 generalize Env.take E=fT at*
 generalize Env.want E=fW at*
 generalize Env.text E=fX at*
 generalize Env.notes E=fN at*
 generalize qau E=fF at*
 generalize segT E=fS at*
 generalize Ps.wrong=fZ at*
 generalize Env.sign E=fG at*
 generalize Env.word E=fO at*
 generalize Env.at_ E=fA at*
 generalize Env.broken E=fB at*
 repeat' (first | with_reducible exact zA _ | with_reducible exact hz _ _ | with_reducible refine qc5 ?_ ?_ | with_reducible refine qc3 ?_ ?_ | with_reducible refine qc4 ?_ ?_ | with_reducible refine qc6 ?_ ?_ | with_reducible refine zB (hR _ _) ?_ | with_reducible refine zB (hf _ _) ?_ | with_reducible refine zB (hw _ _ _) ?_ | with_reducible refine zB (hx _ _) ?_ | with_reducible refine zB (hn _) ?_ | with_reducible refine zB (hs _ _ _) ?_ | with_reducible refine zB (ht _) ?_)
theorem qre{E:Env}{R:Cmd->Ps->Out}(hR: ∀c p,plE E (R c p).p<=plE E p)(level:Int)(left:Nd)(has:Int)(p:Ps):plE E (qa6 E R (.exprL level left has) p).p<=plE E p:=by
 simp only[qa6]
 have ht:=qam E
 have hw:=qaz E
 have hx:=qay E
 have hn:=qal E
 have hf:=qba E
 have hs:=qb6 E
 have hz:=qbr E
 generalize plE E=rm at*
 generalize Env.take E=fT at*
 generalize Env.want E=fW at*
 generalize Env.text E=fX at*
 generalize Env.notes E=fN at*
 generalize qau E=fF at*
 generalize segT E=fS at*
 generalize Ps.wrong=fZ at*
 generalize Env.sign E=fG at*
 generalize Env.word E=fO at*
 generalize Env.at_ E=fA at*
 generalize Env.broken E=fB at*
 repeat' (first | with_reducible exact zA _ | with_reducible exact hz _ _ | with_reducible refine qc5 ?_ ?_ | with_reducible refine qc3 ?_ ?_ | with_reducible refine qc4 ?_ ?_ | with_reducible refine qc6 ?_ ?_ | with_reducible refine zB (hR _ _) ?_ | with_reducible refine zB (hf _ _) ?_ | with_reducible refine zB (hw _ _ _) ?_ | with_reducible refine zB (hx _ _) ?_ | with_reducible refine zB (hn _) ?_ | with_reducible refine zB (hs _ _ _) ?_ | with_reducible refine zB (ht _) ?_)
theorem qlr{E:Env}{R:Cmd->Ps->Out}(hR: ∀c p,plE E (R c p).p<=plE E p)(p:Ps):plE E (qa6 E R (.operand) p).p<=plE E p:=by
 simp only[qa6]
 have ht:=qam E
 have hw:=qaz E
 have hx:=qay E
 have hn:=qal E
 have hf:=qba E
 have hs:=qb6 E
 have hz:=qbr E
 generalize plE E=rm at*
 generalize Env.take E=fT at*
 generalize Env.want E=fW at*
 generalize Env.text E=fX at*
 generalize Env.notes E=fN at*
 generalize qau E=fF at*
 generalize segT E=fS at*
 generalize Ps.wrong=fZ at*
 generalize Env.sign E=fG at*
 generalize Env.word E=fO at*
 generalize Env.at_ E=fA at*
 generalize Env.broken E=fB at*
 repeat' (first | with_reducible exact zA _ | with_reducible exact hz _ _ | with_reducible refine qc5 ?_ ?_ | with_reducible refine qc3 ?_ ?_ | with_reducible refine qc4 ?_ ?_ | with_reducible refine qc6 ?_ ?_ | with_reducible refine zB (hR _ _) ?_ | with_reducible refine zB (hf _ _) ?_ | with_reducible refine zB (hw _ _ _) ?_ | with_reducible refine zB (hx _ _) ?_ | with_reducible refine zB (hn _) ?_ | with_reducible refine zB (hs _ _ _) ?_ | with_reducible refine zB (ht _) ?_)
theorem qls{E:Env}{R:Cmd->Ps->Out}(hR: ∀c p,plE E (R c p).p<=plE E p)(p:Ps):plE E (qa6 E R (.primary) p).p<=plE E p:=by
 simp only[qa6]
 have ht:=qam E
 have hw:=qaz E
 have hx:=qay E
 have hn:=qal E
 have hf:=qba E
 have hs:=qb6 E
 have hz:=qbr E
 generalize plE E=rm at*
 generalize Env.take E=fT at*
 generalize Env.want E=fW at*
 generalize Env.text E=fX at*
 generalize Env.notes E=fN at*
 generalize qau E=fF at*
 generalize segT E=fS at*
 generalize Ps.wrong=fZ at*
 generalize Env.sign E=fG at*
 generalize Env.word E=fO at*
 generalize Env.at_ E=fA at*
 generalize Env.broken E=fB at*
 repeat' (first | with_reducible exact zA _ | with_reducible exact hz _ _ | with_reducible refine qc5 ?_ ?_ | with_reducible refine qc3 ?_ ?_ | with_reducible refine qc4 ?_ ?_ | with_reducible refine qc6 ?_ ?_ | with_reducible refine zB (hR _ _) ?_ | with_reducible refine zB (hf _ _) ?_ | with_reducible refine zB (hw _ _ _) ?_ | with_reducible refine zB (hx _ _) ?_ | with_reducible refine zB (hn _) ?_ | with_reducible refine zB (hs _ _ _) ?_ | with_reducible refine zB (ht _) ?_)
theorem qne{E:Env}{R:Cmd->Ps->Out}(hR: ∀c p,plE E (R c p).p<=plE E p)(x:Nd)(paren:Bool)(p:Ps):plE E (qa6 E R (.follow x paren) p).p<=plE E p:=by
 simp only[qa6]
 have ht:=qam E
 have hw:=qaz E
 have hx:=qay E
 have hn:=qal E
 have hf:=qba E
 have hs:=qb6 E
 have hz:=qbr E
 generalize plE E=rm at*
 generalize Env.take E=fT at*
 generalize Env.want E=fW at*
 generalize Env.text E=fX at*
 generalize Env.notes E=fN at*
 generalize qau E=fF at*
 generalize segT E=fS at*
 generalize Ps.wrong=fZ at*
 generalize Env.sign E=fG at*
 generalize Env.word E=fO at*
 generalize Env.at_ E=fA at*
 generalize Env.broken E=fB at*
 repeat' (first | with_reducible exact zA _ | with_reducible exact hz _ _ | with_reducible refine qc5 ?_ ?_ | with_reducible refine qc3 ?_ ?_ | with_reducible refine qc4 ?_ ?_ | with_reducible refine qc6 ?_ ?_ | with_reducible refine zB (hR _ _) ?_ | with_reducible refine zB (hf _ _) ?_ | with_reducible refine zB (hw _ _ _) ?_ | with_reducible refine zB (hx _ _) ?_ | with_reducible refine zB (hn _) ?_ | with_reducible refine zB (hs _ _ _) ?_ | with_reducible refine zB (ht _) ?_)
theorem in_box{E:Env}{R:Cmd->Ps->Out}(hR: ∀c p,plE E (R c p).p<=plE E p)(n:Nd)(o:Bs)(c:Bs)(level:Int)(p:Ps):plE E (qa6 E R (.box n o c level) p).p<=plE E p:=by
 simp only[qa6]
 have ht:=qam E
 have hw:=qaz E
 have hx:=qay E
 have hn:=qal E
 have hf:=qba E
 have hs:=qb6 E
 have hz:=qbr E
 generalize plE E=rm at*
 generalize Env.take E=fT at*
 generalize Env.want E=fW at*
 generalize Env.text E=fX at*
 generalize Env.notes E=fN at*
 generalize qau E=fF at*
 generalize segT E=fS at*
 generalize Ps.wrong=fZ at*
 generalize Env.sign E=fG at*
 generalize Env.word E=fO at*
 generalize Env.at_ E=fA at*
 generalize Env.broken E=fB at*
 repeat' (first | with_reducible exact zA _ | with_reducible exact hz _ _ | with_reducible refine qc5 ?_ ?_ | with_reducible refine qc3 ?_ ?_ | with_reducible refine qc4 ?_ ?_ | with_reducible refine qc6 ?_ ?_ | with_reducible refine zB (hR _ _) ?_ | with_reducible refine zB (hf _ _) ?_ | with_reducible refine zB (hw _ _ _) ?_ | with_reducible refine zB (hx _ _) ?_ | with_reducible refine zB (hn _) ?_ | with_reducible refine zB (hs _ _ _) ?_ | with_reducible refine zB (ht _) ?_)
theorem qud{E:Env}{R:Cmd->Ps->Out}(hR: ∀c p,plE E (R c p).p<=plE E p)(n:Nd)(notes:List ByteArray)(c:Bs)(level:Int)(p:Ps):plE E (qa6 E R (.boxL n notes c level) p).p<=plE E p:=by
 simp only[qa6]
 have ht:=qam E
 have hw:=qaz E
 have hx:=qay E
 have hn:=qal E
 have hf:=qba E
 have hs:=qb6 E
 have hz:=qbr E
 generalize plE E=rm at*
 generalize Env.take E=fT at*
 generalize Env.want E=fW at*
 generalize Env.text E=fX at*
 generalize Env.notes E=fN at*
 generalize qau E=fF at*
 generalize segT E=fS at*
 generalize Ps.wrong=fZ at*
 generalize Env.sign E=fG at*
 generalize Env.word E=fO at*
 generalize Env.at_ E=fA at*
 generalize Env.broken E=fB at*
 repeat' (first | with_reducible exact zA _ | with_reducible exact hz _ _ | with_reducible refine qc5 ?_ ?_ | with_reducible refine qc3 ?_ ?_ | with_reducible refine qc4 ?_ ?_ | with_reducible refine qc6 ?_ ?_ | with_reducible refine zB (hR _ _) ?_ | with_reducible refine zB (hf _ _) ?_ | with_reducible refine zB (hw _ _ _) ?_ | with_reducible refine zB (hx _ _) ?_ | with_reducible refine zB (hn _) ?_ | with_reducible refine zB (hs _ _ _) ?_ | with_reducible refine zB (ht _) ?_)
theorem quk{E:Env}{R:Cmd->Ps->Out}(hR: ∀c p,plE E (R c p).p<=plE E p)(kind:Int)(level:Int)(p:Ps):plE E (qa6 E R (.item kind level) p).p<=plE E p:=by
 simp only[qa6]
 have ht:=qam E
 have hw:=qaz E
 have hx:=qay E
 have hn:=qal E
 have hf:=qba E
 have hs:=qb6 E
 have hz:=qbr E
 generalize plE E=rm at*
 generalize Env.take E=fT at*
 generalize Env.want E=fW at*
 generalize Env.text E=fX at*
 generalize Env.notes E=fN at*
 generalize qau E=fF at*
 generalize segT E=fS at*
 generalize Ps.wrong=fZ at*
 generalize Env.sign E=fG at*
 generalize Env.word E=fO at*
 generalize Env.at_ E=fA at*
 generalize Env.broken E=fB at*
 repeat' (first | with_reducible exact zA _ | with_reducible exact hz _ _ | with_reducible refine qc5 ?_ ?_ | with_reducible refine qc3 ?_ ?_ | with_reducible refine qc4 ?_ ?_ | with_reducible refine qc6 ?_ ?_ | with_reducible refine zB (hR _ _) ?_ | with_reducible refine zB (hf _ _) ?_ | with_reducible refine zB (hw _ _ _) ?_ | with_reducible refine zB (hx _ _) ?_ | with_reducible refine zB (hn _) ?_ | with_reducible refine zB (hs _ _ _) ?_ | with_reducible refine zB (ht _) ?_)
theorem qlu{E:Env}{R:Cmd->Ps->Out}(hR: ∀c p,plE E (R c p).p<=plE E p)(p:Ps):plE E (qa6 E R (.segment) p).p<=plE E p:=by
 simp only[qa6]
 have ht:=qam E
 have hw:=qaz E
 have hx:=qay E
 have hn:=qal E
 have hf:=qba E
 have hs:=qb6 E
 have hz:=qbr E
 generalize plE E=rm at*
 generalize Env.take E=fT at*
 generalize Env.want E=fW at*
 generalize Env.text E=fX at*
 generalize Env.notes E=fN at*
 generalize qau E=fF at*
 generalize segT E=fS at*
 generalize Ps.wrong=fZ at*
 generalize Env.sign E=fG at*
 generalize Env.word E=fO at*
 generalize Env.at_ E=fA at*
 generalize Env.broken E=fB at*
 repeat' (first | with_reducible exact zA _ | with_reducible exact hz _ _ | with_reducible refine qc5 ?_ ?_ | with_reducible refine qc3 ?_ ?_ | with_reducible refine qc4 ?_ ?_ | with_reducible refine qc6 ?_ ?_ | with_reducible refine zB (hR _ _) ?_ | with_reducible refine zB (hf _ _) ?_ | with_reducible refine zB (hw _ _ _) ?_ | with_reducible refine zB (hx _ _) ?_ | with_reducible refine zB (hn _) ?_ | with_reducible refine zB (hs _ _ _) ?_ | with_reducible refine zB (ht _) ?_)
theorem qul{E:Env}{R:Cmd->Ps->Out}(hR: ∀c p,plE E (R c p).p<=plE E p)(p:Ps):plE E (qa6 E R (.list) p).p<=plE E p:=by
 simp only[qa6]
 have ht:=qam E
 have hw:=qaz E
 have hx:=qay E
 have hn:=qal E
 have hf:=qba E
 have hs:=qb6 E
 have hz:=qbr E
 generalize plE E=rm at*
 generalize Env.take E=fT at*
 generalize Env.want E=fW at*
 generalize Env.text E=fX at*
 generalize Env.notes E=fN at*
 generalize qau E=fF at*
 generalize segT E=fS at*
 generalize Ps.wrong=fZ at*
 generalize Env.sign E=fG at*
 generalize Env.word E=fO at*
 generalize Env.at_ E=fA at*
 generalize Env.broken E=fB at*
 repeat' (first | with_reducible exact zA _ | with_reducible exact hz _ _ | with_reducible refine qc5 ?_ ?_ | with_reducible refine qc3 ?_ ?_ | with_reducible refine qc4 ?_ ?_ | with_reducible refine qc6 ?_ ?_ | with_reducible refine zB (hR _ _) ?_ | with_reducible refine zB (hf _ _) ?_ | with_reducible refine zB (hw _ _ _) ?_ | with_reducible refine zB (hx _ _) ?_ | with_reducible refine zB (hn _) ?_ | with_reducible refine zB (hs _ _ _) ?_ | with_reducible refine zB (ht _) ?_)
theorem qrh{E:Env}{R:Cmd->Ps->Out}(hR: ∀c p,plE E (R c p).p<=plE E p)(n:Nd)(notes:List ByteArray)(p:Ps):plE E (qa6 E R (.listL n notes) p).p<=plE E p:=by
 simp only[qa6]
 have ht:=qam E
 have hw:=qaz E
 have hx:=qay E
 have hn:=qal E
 have hf:=qba E
 have hs:=qb6 E
 have hz:=qbr E
 generalize plE E=rm at*
 generalize Env.take E=fT at*
 generalize Env.want E=fW at*
 generalize Env.text E=fX at*
 generalize Env.notes E=fN at*
 generalize qau E=fF at*
 generalize segT E=fS at*
 generalize Ps.wrong=fZ at*
 generalize Env.sign E=fG at*
 generalize Env.word E=fO at*
 generalize Env.at_ E=fA at*
 generalize Env.broken E=fB at*
 repeat' (first | with_reducible exact zA _ | with_reducible exact hz _ _ | with_reducible refine qc5 ?_ ?_ | with_reducible refine qc3 ?_ ?_ | with_reducible refine qc4 ?_ ?_ | with_reducible refine qc6 ?_ ?_ | with_reducible refine zB (hR _ _) ?_ | with_reducible refine zB (hf _ _) ?_ | with_reducible refine zB (hw _ _ _) ?_ | with_reducible refine zB (hx _ _) ?_ | with_reducible refine zB (hn _) ?_ | with_reducible refine zB (hs _ _ _) ?_ | with_reducible refine zB (ht _) ?_)
theorem que{E:Env}{R:Cmd->Ps->Out}(hR: ∀c p,plE E (R c p).p<=plE E p)(x:Nd)(broken:Bool)(p:Ps):plE E (qa6 E R (.comp x broken) p).p<=plE E p:=by
 simp only[qa6]
 have ht:=qam E
 have hw:=qaz E
 have hx:=qay E
 have hn:=qal E
 have hf:=qba E
 have hs:=qb6 E
 have hz:=qbr E
 generalize plE E=rm at*
 generalize Env.take E=fT at*
 generalize Env.want E=fW at*
 generalize Env.text E=fX at*
 generalize Env.notes E=fN at*
 generalize qau E=fF at*
 generalize segT E=fS at*
 generalize Ps.wrong=fZ at*
 generalize Env.sign E=fG at*
 generalize Env.word E=fO at*
 generalize Env.at_ E=fA at*
 generalize Env.broken E=fB at*
 repeat' (first | with_reducible exact zA _ | with_reducible exact hz _ _ | with_reducible refine qc5 ?_ ?_ | with_reducible refine qc3 ?_ ?_ | with_reducible refine qc4 ?_ ?_ | with_reducible refine qc6 ?_ ?_ | with_reducible refine zB (hR _ _) ?_ | with_reducible refine zB (hf _ _) ?_ | with_reducible refine zB (hw _ _ _) ?_ | with_reducible refine zB (hx _ _) ?_ | with_reducible refine zB (hn _) ?_ | with_reducible refine zB (hs _ _ _) ?_ | with_reducible refine zB (ht _) ?_)
theorem qrd{E:Env}{R:Cmd->Ps->Out}(hR: ∀c p,plE E (R c p).p<=plE E p)(n:Nd)(p:Ps):plE E (qa6 E R (.compL n) p).p<=plE E p:=by
 simp only[qa6]
 have ht:=qam E
 have hw:=qaz E
 have hx:=qay E
 have hn:=qal E
 have hf:=qba E
 have hs:=qb6 E
 have hz:=qbr E
 generalize plE E=rm at*
 generalize Env.take E=fT at*
 generalize Env.want E=fW at*
 generalize Env.text E=fX at*
 generalize Env.notes E=fN at*
 generalize qau E=fF at*
 generalize segT E=fS at*
 generalize Ps.wrong=fZ at*
 generalize Env.sign E=fG at*
 generalize Env.word E=fO at*
 generalize Env.at_ E=fA at*
 generalize Env.broken E=fB at*
 repeat' (first | with_reducible exact zA _ | with_reducible exact hz _ _ | with_reducible refine qc5 ?_ ?_ | with_reducible refine qc3 ?_ ?_ | with_reducible refine qc4 ?_ ?_ | with_reducible refine qc6 ?_ ?_ | with_reducible refine zB (hR _ _) ?_ | with_reducible refine zB (hf _ _) ?_ | with_reducible refine zB (hw _ _ _) ?_ | with_reducible refine zB (hx _ _) ?_ | with_reducible refine zB (hn _) ?_ | with_reducible refine zB (hs _ _ _) ?_ | with_reducible refine zB (ht _) ?_)
theorem quh{E:Env}{R:Cmd->Ps->Out}(hR: ∀c p,plE E (R c p).p<=plE E p)(of:List Nd)(p:Ps):plE E (qa6 E R (.hash of) p).p<=plE E p:=by
 simp only[qa6]
 have ht:=qam E
 have hw:=qaz E
 have hx:=qay E
 have hn:=qal E
 have hf:=qba E
 have hs:=qb6 E
 have hz:=qbr E
 generalize plE E=rm at*
 generalize Env.take E=fT at*
 generalize Env.want E=fW at*
 generalize Env.text E=fX at*
 generalize Env.notes E=fN at*
 generalize qau E=fF at*
 generalize segT E=fS at*
 generalize Ps.wrong=fZ at*
 generalize Env.sign E=fG at*
 generalize Env.word E=fO at*
 generalize Env.at_ E=fA at*
 generalize Env.broken E=fB at*
 repeat' (first | with_reducible exact zA _ | with_reducible exact hz _ _ | with_reducible refine qc5 ?_ ?_ | with_reducible refine qc3 ?_ ?_ | with_reducible refine qc4 ?_ ?_ | with_reducible refine qc6 ?_ ?_ | with_reducible refine zB (hR _ _) ?_ | with_reducible refine zB (hf _ _) ?_ | with_reducible refine zB (hw _ _ _) ?_ | with_reducible refine zB (hx _ _) ?_ | with_reducible refine zB (hn _) ?_ | with_reducible refine zB (hs _ _ _) ?_ | with_reducible refine zB (ht _) ?_)
theorem qug{E:Env}{R:Cmd->Ps->Out}(hR: ∀c p,plE E (R c p).p<=plE E p)(p:Ps):plE E (qa6 E R (.func) p).p<=plE E p:=by
 simp only[qa6]
 have ht:=qam E
 have hw:=qaz E
 have hx:=qay E
 have hn:=qal E
 have hf:=qba E
 have hs:=qb6 E
 have hz:=qbr E
 generalize plE E=rm at*
 generalize Env.take E=fT at*
 generalize Env.want E=fW at*
 generalize Env.text E=fX at*
 generalize Env.notes E=fN at*
 generalize qau E=fF at*
 generalize segT E=fS at*
 generalize Ps.wrong=fZ at*
 generalize Env.sign E=fG at*
 generalize Env.word E=fO at*
 generalize Env.at_ E=fA at*
 generalize Env.broken E=fB at*
 repeat' (first | with_reducible exact zA _ | with_reducible exact hz _ _ | with_reducible refine qc5 ?_ ?_ | with_reducible refine qc3 ?_ ?_ | with_reducible refine qc4 ?_ ?_ | with_reducible refine qc6 ?_ ?_ | with_reducible refine zB (hR _ _) ?_ | with_reducible refine zB (hf _ _) ?_ | with_reducible refine zB (hw _ _ _) ?_ | with_reducible refine zB (hx _ _) ?_ | with_reducible refine zB (hn _) ?_ | with_reducible refine zB (hs _ _ _) ?_ | with_reducible refine zB (ht _) ?_)
theorem qrf{E:Env}{R:Cmd->Ps->Out}(hR: ∀c p,plE E (R c p).p<=plE E p)(n:Nd)(p:Ps):plE E (qa6 E R (.funcL n) p).p<=plE E p:=by
 simp only[qa6]
 have ht:=qam E
 have hw:=qaz E
 have hx:=qay E
 have hn:=qal E
 have hf:=qba E
 have hs:=qb6 E
 have hz:=qbr E
 generalize plE E=rm at*
 generalize Env.take E=fT at*
 generalize Env.want E=fW at*
 generalize Env.text E=fX at*
 generalize Env.notes E=fN at*
 generalize qau E=fF at*
 generalize segT E=fS at*
 generalize Ps.wrong=fZ at*
 generalize Env.sign E=fG at*
 generalize Env.word E=fO at*
 generalize Env.at_ E=fA at*
 generalize Env.broken E=fB at*
 repeat' (first | with_reducible exact zA _ | with_reducible exact hz _ _ | with_reducible refine qc5 ?_ ?_ | with_reducible refine qc3 ?_ ?_ | with_reducible refine qc4 ?_ ?_ | with_reducible refine qc6 ?_ ?_ | with_reducible refine zB (hR _ _) ?_ | with_reducible refine zB (hf _ _) ?_ | with_reducible refine zB (hw _ _ _) ?_ | with_reducible refine zB (hx _ _) ?_ | with_reducible refine zB (hn _) ?_ | with_reducible refine zB (hs _ _ _) ?_ | with_reducible refine zB (ht _) ?_)
theorem qui{E:Env}{R:Cmd->Ps->Out}(hR: ∀c p,plE E (R c p).p<=plE E p)(s:ByteArray)(p:Ps):plE E (qa6 E R (.head s) p).p<=plE E p:=by
 simp only[qa6]
 have ht:=qam E
 have hw:=qaz E
 have hx:=qay E
 have hn:=qal E
 have hf:=qba E
 have hs:=qb6 E
 have hz:=qbr E
 generalize plE E=rm at*
 generalize Env.take E=fT at*
 generalize Env.want E=fW at*
 generalize Env.text E=fX at*
 generalize Env.notes E=fN at*
 generalize qau E=fF at*
 generalize segT E=fS at*
 generalize Ps.wrong=fZ at*
 generalize Env.sign E=fG at*
 generalize Env.word E=fO at*
 generalize Env.at_ E=fA at*
 generalize Env.broken E=fB at*
 repeat' (first | with_reducible exact zA _ | with_reducible exact hz _ _ | with_reducible refine qc5 ?_ ?_ | with_reducible refine qc3 ?_ ?_ | with_reducible refine qc4 ?_ ?_ | with_reducible refine qc6 ?_ ?_ | with_reducible refine zB (hR _ _) ?_ | with_reducible refine zB (hf _ _) ?_ | with_reducible refine zB (hw _ _ _) ?_ | with_reducible refine zB (hx _ _) ?_ | with_reducible refine zB (hn _) ?_ | with_reducible refine zB (hs _ _ _) ?_ | with_reducible refine zB (ht _) ?_)
theorem qum{E:Env}{R:Cmd->Ps->Out}(hR: ∀c p,plE E (R c p).p<=plE E p)(c:Nd)(p:Ps):plE E (qa6 E R (.rest c) p).p<=plE E p:=by
 simp only[qa6]
 have ht:=qam E
 have hw:=qaz E
 have hx:=qay E
 have hn:=qal E
 have hf:=qba E
 have hs:=qb6 E
 have hz:=qbr E
 generalize plE E=rm at*
 generalize Env.take E=fT at*
 generalize Env.want E=fW at*
 generalize Env.text E=fX at*
 generalize Env.notes E=fN at*
 generalize qau E=fF at*
 generalize segT E=fS at*
 generalize Ps.wrong=fZ at*
 generalize Env.sign E=fG at*
 generalize Env.word E=fO at*
 generalize Env.at_ E=fA at*
 generalize Env.broken E=fB at*
 repeat' (first | with_reducible exact zA _ | with_reducible exact hz _ _ | with_reducible refine qc5 ?_ ?_ | with_reducible refine qc3 ?_ ?_ | with_reducible refine qc4 ?_ ?_ | with_reducible refine qc6 ?_ ?_ | with_reducible refine zB (hR _ _) ?_ | with_reducible refine zB (hf _ _) ?_ | with_reducible refine zB (hw _ _ _) ?_ | with_reducible refine zB (hx _ _) ?_ | with_reducible refine zB (hn _) ?_ | with_reducible refine zB (hs _ _ _) ?_ | with_reducible refine zB (ht _) ?_)
theorem qrb{E:Env}{R:Cmd->Ps->Out}(hR: ∀c p,plE E (R c p).p<=plE E p)(c:Nd)(g:Nd)(p:Ps):plE E (qa6 E R (.arrow c g) p).p<=plE E p:=by
 simp only[qa6]
 have ht:=qam E
 have hw:=qaz E
 have hx:=qay E
 have hn:=qal E
 have hf:=qba E
 have hs:=qb6 E
 have hz:=qbr E
 generalize plE E=rm at*
 generalize Env.take E=fT at*
 generalize Env.want E=fW at*
 generalize Env.text E=fX at*
 generalize Env.notes E=fN at*
 generalize qau E=fF at*
 generalize segT E=fS at*
 generalize Ps.wrong=fZ at*
 generalize Env.sign E=fG at*
 generalize Env.word E=fO at*
 generalize Env.at_ E=fA at*
 generalize Env.broken E=fB at*
 repeat' (first | with_reducible exact zA _ | with_reducible exact hz _ _ | with_reducible refine qc5 ?_ ?_ | with_reducible refine qc3 ?_ ?_ | with_reducible refine qc4 ?_ ?_ | with_reducible refine qc6 ?_ ?_ | with_reducible refine zB (hR _ _) ?_ | with_reducible refine zB (hf _ _) ?_ | with_reducible refine zB (hw _ _ _) ?_ | with_reducible refine zB (hx _ _) ?_ | with_reducible refine zB (hn _) ?_ | with_reducible refine zB (hs _ _ _) ?_ | with_reducible refine zB (ht _) ?_)
theorem qrg{E:Env}{R:Cmd->Ps->Out}(hR: ∀c p,plE E (R c p).p<=plE E p)(p:Ps):plE E (qa6 E R (.guard) p).p<=plE E p:=by
 simp only[qa6]
 have ht:=qam E
 have hw:=qaz E
 have hx:=qay E
 have hn:=qal E
 have hf:=qba E
 have hs:=qb6 E
 have hz:=qbr E
 generalize plE E=rm at*
 generalize Env.take E=fT at*
 generalize Env.want E=fW at*
 generalize Env.text E=fX at*
 generalize Env.notes E=fN at*
 generalize qau E=fF at*
 generalize segT E=fS at*
 generalize Ps.wrong=fZ at*
 generalize Env.sign E=fG at*
 generalize Env.word E=fO at*
 generalize Env.at_ E=fA at*
 generalize Env.broken E=fB at*
 repeat' (first | with_reducible exact zA _ | with_reducible exact hz _ _ | with_reducible refine qc5 ?_ ?_ | with_reducible refine qc3 ?_ ?_ | with_reducible refine qc4 ?_ ?_ | with_reducible refine qc6 ?_ ?_ | with_reducible refine zB (hR _ _) ?_ | with_reducible refine zB (hf _ _) ?_ | with_reducible refine zB (hw _ _ _) ?_ | with_reducible refine zB (hx _ _) ?_ | with_reducible refine zB (hn _) ?_ | with_reducible refine zB (hs _ _ _) ?_ | with_reducible refine zB (ht _) ?_)
theorem qng{E:Env}{R:Cmd->Ps->Out}(hR: ∀c p,plE E (R c p).p<=plE E p)(g:Nd)(p:Ps):plE E (qa6 E R (.guardL g) p).p<=plE E p:=by
 simp only[qa6]
 have ht:=qam E
 have hw:=qaz E
 have hx:=qay E
 have hn:=qal E
 have hf:=qba E
 have hs:=qb6 E
 have hz:=qbr E
 generalize plE E=rm at*
 generalize Env.take E=fT at*
 generalize Env.want E=fW at*
 generalize Env.text E=fX at*
 generalize Env.notes E=fN at*
 generalize qau E=fF at*
 generalize segT E=fS at*
 generalize Ps.wrong=fZ at*
 generalize Env.sign E=fG at*
 generalize Env.word E=fO at*
 generalize Env.at_ E=fA at*
 generalize Env.broken E=fB at*
 repeat' (first | with_reducible exact zA _ | with_reducible exact hz _ _ | with_reducible refine qc5 ?_ ?_ | with_reducible refine qc3 ?_ ?_ | with_reducible refine qc4 ?_ ?_ | with_reducible refine qc6 ?_ ?_ | with_reducible refine zB (hR _ _) ?_ | with_reducible refine zB (hf _ _) ?_ | with_reducible refine zB (hw _ _ _) ?_ | with_reducible refine zB (hx _ _) ?_ | with_reducible refine zB (hn _) ?_ | with_reducible refine zB (hs _ _ _) ?_ | with_reducible refine zB (ht _) ?_)
theorem qnf{E:Env}{R:Cmd->Ps->Out}(hR: ∀c p,plE E (R c p).p<=plE E p)(b:Nd)(p:Ps):plE E (qa6 E R (.guardB b) p).p<=plE E p:=by
 simp only[qa6]
 have ht:=qam E
 have hw:=qaz E
 have hx:=qay E
 have hn:=qal E
 have hf:=qba E
 have hs:=qb6 E
 have hz:=qbr E
 generalize plE E=rm at*
 generalize Env.take E=fT at*
 generalize Env.want E=fW at*
 generalize Env.text E=fX at*
 generalize Env.notes E=fN at*
 generalize qau E=fF at*
 generalize segT E=fS at*
 generalize Ps.wrong=fZ at*
 generalize Env.sign E=fG at*
 generalize Env.word E=fO at*
 generalize Env.at_ E=fA at*
 generalize Env.broken E=fB at*
 repeat' (first | with_reducible exact zA _ | with_reducible exact hz _ _ | with_reducible refine qc5 ?_ ?_ | with_reducible refine qc3 ?_ ?_ | with_reducible refine qc4 ?_ ?_ | with_reducible refine qc6 ?_ ?_ | with_reducible refine zB (hR _ _) ?_ | with_reducible refine zB (hf _ _) ?_ | with_reducible refine zB (hw _ _ _) ?_ | with_reducible refine zB (hx _ _) ?_ | with_reducible refine zB (hn _) ?_ | with_reducible refine zB (hs _ _ _) ?_ | with_reducible refine zB (ht _) ?_)
theorem quc{E:Env}{R:Cmd->Ps->Out}(hR: ∀c p,plE E (R c p).p<=plE E p)(p:Ps):plE E (qa6 E R (.body) p).p<=plE E p:=by
 simp only[qa6]
 have ht:=qam E
 have hw:=qaz E
 have hx:=qay E
 have hn:=qal E
 have hf:=qba E
 have hs:=qb6 E
 have hz:=qbr E
 generalize plE E=rm at*
 generalize Env.take E=fT at*
 generalize Env.want E=fW at*
 generalize Env.text E=fX at*
 generalize Env.notes E=fN at*
 generalize qau E=fF at*
 generalize segT E=fS at*
 generalize Ps.wrong=fZ at*
 generalize Env.sign E=fG at*
 generalize Env.word E=fO at*
 generalize Env.at_ E=fA at*
 generalize Env.broken E=fB at*
 repeat' (first | with_reducible exact zA _ | with_reducible exact hz _ _ | with_reducible refine qc5 ?_ ?_ | with_reducible refine qc3 ?_ ?_ | with_reducible refine qc4 ?_ ?_ | with_reducible refine qc6 ?_ ?_ | with_reducible refine zB (hR _ _) ?_ | with_reducible refine zB (hf _ _) ?_ | with_reducible refine zB (hw _ _ _) ?_ | with_reducible refine zB (hx _ _) ?_ | with_reducible refine zB (hn _) ?_ | with_reducible refine zB (hs _ _ _) ?_ | with_reducible refine zB (ht _) ?_)
theorem qrc{E:Env}{R:Cmd->Ps->Out}(hR: ∀c p,plE E (R c p).p<=plE E p)(b:Nd)(p:Ps):plE E (qa6 E R (.bodyL b) p).p<=plE E p:=by
 simp only[qa6]
 have ht:=qam E
 have hw:=qaz E
 have hx:=qay E
 have hn:=qal E
 have hf:=qba E
 have hs:=qb6 E
 have hz:=qbr E
 generalize plE E=rm at*
 generalize Env.take E=fT at*
 generalize Env.want E=fW at*
 generalize Env.text E=fX at*
 generalize Env.notes E=fN at*
 generalize qau E=fF at*
 generalize segT E=fS at*
 generalize Ps.wrong=fZ at*
 generalize Env.sign E=fG at*
 generalize Env.word E=fO at*
 generalize Env.at_ E=fA at*
 generalize Env.broken E=fB at*
 repeat' (first | with_reducible exact zA _ | with_reducible exact hz _ _ | with_reducible refine qc5 ?_ ?_ | with_reducible refine qc3 ?_ ?_ | with_reducible refine qc4 ?_ ?_ | with_reducible refine qc6 ?_ ?_ | with_reducible refine zB (hR _ _) ?_ | with_reducible refine zB (hf _ _) ?_ | with_reducible refine zB (hw _ _ _) ?_ | with_reducible refine zB (hx _ _) ?_ | with_reducible refine zB (hn _) ?_ | with_reducible refine zB (hs _ _ _) ?_ | with_reducible refine zB (ht _) ?_)
theorem qlq{E:Env}{R:Cmd->Ps->Out}(hR: ∀c p,plE E (R c p).p<=plE E p)(p:Ps):plE E (qa6 E R (.clauses) p).p<=plE E p:=by
 simp only[qa6]
 have ht:=qam E
 have hw:=qaz E
 have hx:=qay E
 have hn:=qal E
 have hf:=qba E
 have hs:=qb6 E
 have hz:=qbr E
 generalize plE E=rm at*
 generalize Env.take E=fT at*
 generalize Env.want E=fW at*
 generalize Env.text E=fX at*
 generalize Env.notes E=fN at*
 generalize qau E=fF at*
 generalize segT E=fS at*
 generalize Ps.wrong=fZ at*
 generalize Env.sign E=fG at*
 generalize Env.word E=fO at*
 generalize Env.at_ E=fA at*
 generalize Env.broken E=fB at*
 repeat' (first | with_reducible exact zA _ | with_reducible exact hz _ _ | with_reducible refine qc5 ?_ ?_ | with_reducible refine qc3 ?_ ?_ | with_reducible refine qc4 ?_ ?_ | with_reducible refine qc6 ?_ ?_ | with_reducible refine zB (hR _ _) ?_ | with_reducible refine zB (hf _ _) ?_ | with_reducible refine zB (hw _ _ _) ?_ | with_reducible refine zB (hx _ _) ?_ | with_reducible refine zB (hn _) ?_ | with_reducible refine zB (hs _ _ _) ?_ | with_reducible refine zB (ht _) ?_)
theorem qjm{E:Env}{R:Cmd->Ps->Out}(hR: ∀c p,plE E (R c p).p<=plE E p)(out:List Nd)(p:Ps):plE E (qa6 E R (.clausesL out) p).p<=plE E p:=by
 simp only[qa6]
 have ht:=qam E
 have hw:=qaz E
 have hx:=qay E
 have hn:=qal E
 have hf:=qba E
 have hs:=qb6 E
 have hz:=qbr E
 generalize plE E=rm at*
 generalize Env.take E=fT at*
 generalize Env.want E=fW at*
 generalize Env.text E=fX at*
 generalize Env.notes E=fN at*
 generalize qau E=fF at*
 generalize segT E=fS at*
 generalize Ps.wrong=fZ at*
 generalize Env.sign E=fG at*
 generalize Env.word E=fO at*
 generalize Env.at_ E=fA at*
 generalize Env.broken E=fB at*
 repeat' (first | with_reducible exact zA _ | with_reducible exact hz _ _ | with_reducible refine qc5 ?_ ?_ | with_reducible refine qc3 ?_ ?_ | with_reducible refine qc4 ?_ ?_ | with_reducible refine qc6 ?_ ?_ | with_reducible refine zB (hR _ _) ?_ | with_reducible refine zB (hf _ _) ?_ | with_reducible refine zB (hw _ _ _) ?_ | with_reducible refine zB (hx _ _) ?_ | with_reducible refine zB (hn _) ?_ | with_reducible refine zB (hs _ _ _) ?_ | with_reducible refine zB (ht _) ?_)
theorem in_ifs{E:Env}{R:Cmd->Ps->Out}(hR: ∀c p,plE E (R c p).p<=plE E p)(p:Ps):plE E (qa6 E R (.ifs) p).p<=plE E p:=by
 simp only[qa6]
 have ht:=qam E
 have hw:=qaz E
 have hx:=qay E
 have hn:=qal E
 have hf:=qba E
 have hs:=qb6 E
 have hz:=qbr E
 generalize plE E=rm at*
 generalize Env.take E=fT at*
 generalize Env.want E=fW at*
 generalize Env.text E=fX at*
 generalize Env.notes E=fN at*
 generalize qau E=fF at*
 generalize segT E=fS at*
 generalize Ps.wrong=fZ at*
 generalize Env.sign E=fG at*
 generalize Env.word E=fO at*
 generalize Env.at_ E=fA at*
 generalize Env.broken E=fB at*
 repeat' (first | with_reducible exact zA _ | with_reducible exact hz _ _ | with_reducible refine qc5 ?_ ?_ | with_reducible refine qc3 ?_ ?_ | with_reducible refine qc4 ?_ ?_ | with_reducible refine qc6 ?_ ?_ | with_reducible refine zB (hR _ _) ?_ | with_reducible refine zB (hf _ _) ?_ | with_reducible refine zB (hw _ _ _) ?_ | with_reducible refine zB (hx _ _) ?_ | with_reducible refine zB (hn _) ?_ | with_reducible refine zB (hs _ _ _) ?_ | with_reducible refine zB (ht _) ?_)
theorem quj{E:Env}{R:Cmd->Ps->Out}(hR: ∀c p,plE E (R c p).p<=plE E p)(out:List Nd)(p:Ps):plE E (qa6 E R (.ifsL out) p).p<=plE E p:=by
 simp only[qa6]
 have ht:=qam E
 have hw:=qaz E
 have hx:=qay E
 have hn:=qal E
 have hf:=qba E
 have hs:=qb6 E
 have hz:=qbr E
 generalize plE E=rm at*
 generalize Env.take E=fT at*
 generalize Env.want E=fW at*
 generalize Env.text E=fX at*
 generalize Env.notes E=fN at*
 generalize qau E=fF at*
 generalize segT E=fS at*
 generalize Ps.wrong=fZ at*
 generalize Env.sign E=fG at*
 generalize Env.word E=fO at*
 generalize Env.at_ E=fA at*
 generalize Env.broken E=fB at*
 repeat' (first | with_reducible exact zA _ | with_reducible exact hz _ _ | with_reducible refine qc5 ?_ ?_ | with_reducible refine qc3 ?_ ?_ | with_reducible refine qc4 ?_ ?_ | with_reducible refine qc6 ?_ ?_ | with_reducible refine zB (hR _ _) ?_ | with_reducible refine zB (hf _ _) ?_ | with_reducible refine zB (hw _ _ _) ?_ | with_reducible refine zB (hx _ _) ?_ | with_reducible refine zB (hn _) ?_ | with_reducible refine zB (hs _ _ _) ?_ | with_reducible refine zB (ht _) ?_)
theorem qlt{E:Env}{R:Cmd->Ps->Out}(hR: ∀c p,plE E (R c p).p<=plE E p)(p:Ps):plE E (qa6 E R (.receive) p).p<=plE E p:=by
 simp only[qa6]
 have ht:=qam E
 have hw:=qaz E
 have hx:=qay E
 have hn:=qal E
 have hf:=qba E
 have hs:=qb6 E
 have hz:=qbr E
 generalize plE E=rm at*
 generalize Env.take E=fT at*
 generalize Env.want E=fW at*
 generalize Env.text E=fX at*
 generalize Env.notes E=fN at*
 generalize qau E=fF at*
 generalize segT E=fS at*
 generalize Ps.wrong=fZ at*
 generalize Env.sign E=fG at*
 generalize Env.word E=fO at*
 generalize Env.at_ E=fA at*
 generalize Env.broken E=fB at*
 repeat' (first | with_reducible exact zA _ | with_reducible exact hz _ _ | with_reducible refine qc5 ?_ ?_ | with_reducible refine qc3 ?_ ?_ | with_reducible refine qc4 ?_ ?_ | with_reducible refine qc6 ?_ ?_ | with_reducible refine zB (hR _ _) ?_ | with_reducible refine zB (hf _ _) ?_ | with_reducible refine zB (hw _ _ _) ?_ | with_reducible refine zB (hx _ _) ?_ | with_reducible refine zB (hn _) ?_ | with_reducible refine zB (hs _ _ _) ?_ | with_reducible refine zB (ht _) ?_)
theorem qun(E:Env)(R:Cmd->Ps->Out)(hR: ∀c p,plE E (R c p).p<=plE E p)(c:Cmd)(p:Ps):plE E (qa6 E R c p).p<=plE E p:=by
 cases c with
 | expr level=>exact quf hR level p
 | exprL level left has=>exact qre hR level left has p
 | operand=>exact qlr hR p
 | primary=>exact qls hR p
 | follow x paren=>exact qne hR x paren p
 | box n o c level=>exact in_box hR n o c level p
 | boxL n notes c level=>exact qud hR n notes c level p
 | item kind level=>exact quk hR kind level p
 | segment=>exact qlu hR p
 | list=>exact qul hR p
 | listL n notes=>exact qrh hR n notes p
 | comp x broken=>exact que hR x broken p
 | compL n=>exact qrd hR n p
 | hash of=>exact quh hR of p
 | func=>exact qug hR p
 | funcL n=>exact qrf hR n p
 | head s=>exact qui hR s p
 | rest c=>exact qum hR c p
 | arrow c g=>exact qrb hR c g p
 | guard=>exact qrg hR p
 | guardL g=>exact qng hR g p
 | guardB b=>exact qnf hR b p
 | body=>exact quc hR p
 | bodyL b=>exact qrc hR b p
 | clauses=>exact qlq hR p
 | clausesL out=>exact qjm hR out p
 | ifs=>exact in_ifs hR p
 | ifsL out=>exact quj hR out p
 | receive=>exact qlt hR p
theorem qtj(E:Env): ∀(n:Nat) (c:Cmd) (p:Ps),plE E (qf7 E n c p).p<=plE E p
 | 0,_,p=>qbr E p _
 | n+1,c,p=>by simp only[qf7];exact qun E _ (qtj E n) c p
end Go.Proofs.YtdhadeeajgoedaaGreat
