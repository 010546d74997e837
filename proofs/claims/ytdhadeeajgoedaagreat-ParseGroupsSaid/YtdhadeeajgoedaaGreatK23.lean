/-
  What the claims stand on: PmTot, RefScanC, RefNums.
-/
import Derived.Test.YtdhadeeajgoedaaGreatK13
import Derived.Test.YtdhadeeajgoedaaGreatK14
import Derived.Test.YtdhadeeajgoedaaGreatK15
import Derived.Test.YtdhadeeajgoedaaGreatK16
import Derived.Deep.LoopGhost
set_option maxRecDepth 100000
set_option maxHeartbeats 4000000
set_option linter.unusedVariables false
set_option linter.unusedSimpArgs false
open Nat renaming le_refl→zA,le_trans→zB,lt_of_le_of_lt→zC,lt_of_lt_of_le→zD
open Option renaming bind_some→zE
namespace Go.Proofs.YtdhadeeajgoedaaGreat
open Go.RowKit Go.PlainAid
def rkG:Cmd->Nat
 | .follow _ _=>1
 | .hash _=>1
 | .primary=>1
 | .operand=>2
 | .expr _=>3
 | .segment=>1
 | .item _ _=>4
 | .boxL _ _ _ _=>5
 | .listL _ _=>4
 | .compL _=>4
 | .guardL _=>4
 | .guard=>5
 | .bodyL _=>4
 | .body=>5
 | .rest _=>1
 | .clausesL _=>4
 | .clauses=>5
 | .ifsL _=>6
 | .ifs=>7
 | .head _=>2
 | .funcL _=>3
 | _=>0
def rkB:Cmd->Nat
 | .box _ _ _ _=>1
 | .list=>1
 | .comp _ _=>1
 | .body=>1
 | .guard=>1
 | .clauses=>1
 | .ifs=>1
 | .operand=>1
 | .expr _=>2
 | .hash _=>2
 | .item _ _=>3
 | .arrow _ _=>2
 | .rest _=>3
 | .head _=>4
 | .receive=>2
 | _=>0
theorem rkG_le(c:Cmd):rkG c<=7:=by cases c<;>simp only[rkG]<;>omega
theorem qp3(c:Cmd):rkB c<=7:=by cases c<;>simp only[rkB]<;>omega
def ms13(E:Env)(c:Cmd)(p:Ps):Nat:=if qaj E p=0 then rkB c else 64*qaj E p+rkG c
section
variable{E:Env}{c c':Cmd}{p p':Ps}
theorem qbj(h:qaj E p'<qaj E p):ms13 E c' p'<ms13 E c p:=by
 unfold ms13
 have:=rkG_le c'
 have:=qp3 c'
 rw[if_neg (show¬qaj E p=0 by omega)]
 split<;>omega
theorem qdy(h:qaj E p'<=qaj E p)(hg:rkG c'<rkG c)(hb:rkB c'<rkB c):ms13 E c' p'<ms13 E c p:=by
 unfold ms13
 have:=qp3 c'
 split
 ·split<;>omega
 ·rw[if_neg (show¬qaj E p=0 by omega)];omega
theorem qcw(h:qaj E p'<=qaj E p)(h0:qaj E p≠0)(hg:rkG c'<rkG c):ms13 E c' p'<ms13 E c p:=by
 unfold ms13
 have:=qp3 c'
 rw[if_neg h0]
 split<;>omega
theorem qnv(h:qaj E p≠0->qaj E p'<qaj E p)(h1:qaj E p'<=qaj E p)(hb:rkB c'<rkB c):ms13 E c' p'<ms13 E c p:=by
 by_cases h0:qaj E p=0
 ·unfold ms13
  rw[if_pos h0,if_pos (by omega)];exact hb
 ·exact qbj (h h0)
theorem qbw(h:p.bad=false):qaj E p≠0:=by
 unfold qaj;rw[if_neg (by rw[h];decide)];omega
theorem qnj{k:Int}{s:Bs}(hk:k≠0)(h:E.is p k s=true):qaj E p≠0:=by
 cases hb:p.bad with
 | true=>rw[qbl hb hk]at h;cases h
 | false=>exact qbw hb
theorem qan{s:Bs}(h:E.sign p s=true):qaj E p≠0:=qnj (by decide) h
theorem qbv{s:Bs}(h:E.word p s=true):qaj E p≠0:=qnj (by decide) h
theorem qty(h:(E.at_ p).1≠0):qaj E p≠0:=by
 cases hb:p.bad with
 | true=>
  unfold Env.at_ at h
  rw[if_neg (fun e=>by rw[hb]at e;cases e.2)]at h
  exact absurd rfl h
 | false=>exact qbw hb
variable{R:Cmd->Ps->Option Out}{S:Cmd->Ps->Out}
theorem qsr(hR: ∀c' p',ms13 E c' p'<ms13 E c p->R c' p'=some (S c' p'))(hb: ∀c p,qaj E (S c p).p<=qaj E p)(hx: ∀n o c lv p,qaj E p≠0->qaj E (S (.box n o c lv) p).p<qaj E p):qbf E R c p=some (qa6 E S c p):=by
 have ht:=qdq E
 have hk:=ql5 E
 have hw:=qhw E
 have hwd:=qh6 E
 have htx:=qhv E
 have hn:=qee E
 cases c with
 | expr level=>
  simp only[qbf,qa6]
  split
  ·rename_i h
   simp only[Bool.and_eq_true]at h
   rw[hR _ _ (qbj (hk p (qbv h.2)))];rfl
  ·rw[hR _ _ (qdy (zA _) (by show(2:Nat)<3;decide) (by show(1:Nat)<2;decide))]
   simp only[zE]
   rw[hR _ _ (qdy (hb _ _) (by show(0:Nat)<3;decide) (by show(0:Nat)<2;decide))]
 | exprL level left has=>
  simp only[qbf,qa6]
  split
  ·rfl
  ·rename_i h
   have hg:=qbw (E:=E) (p:=p) (by simpa using h)
   split
   ·rfl
   ·rw[hR _ _ (qbj (hk p hg))]
    simp only[zE]
    rw[hR _ _ (qbj (zC (hb _ _) (hk p hg)))]
 | operand=>
  simp only[qbf,qa6]
  split
  ·rename_i h
   simp only[Bool.and_eq_true,Bool.or_eq_true,beq_iff_eq]at h
   have hg:=qty (E:=E) (p:=p) (by rcases h.1 with h | h<;>rw[h]<;>decide)
   rw[hR _ _ (qbj (hk p hg))];rfl
  ·rw[hR _ _ (qdy (zA _) (by decide) (by decide))]
   simp only[zE]
   rw[hR _ _ (qdy (hb _ _) (by show(1:Nat)<2;decide) (by show(0:Nat)<1;decide))];rfl
 | primary=>
  unfold qbf qa6
  dsimp only
  by_cases h:ltk (E.at_ p).1=true
  ·rw[if_pos h,if_pos h]
  rw[if_neg h,if_neg h]
  clear h
  by_cases h:E.sign p [40]=true
  ·rw[if_pos h,if_pos h]
   rw[hR _ _ (qbj (hk p (qan h)))];rfl
  rw[if_neg h,if_neg h]
  clear h
  by_cases h:E.sign p [123]=true
  ·rw[if_pos h,if_pos h]
   exact hR _ _ (qcw (zA _) (qan h) (by decide))
  rw[if_neg h,if_neg h]
  clear h
  by_cases h:E.sign p [91]=true
  ·rw[if_pos h,if_pos h]
   exact hR _ _ (qcw (zA _) (qan h) (by decide))
  rw[if_neg h,if_neg h]
  clear h
  by_cases h:E.sign p [60,60]=true
  ·rw[if_pos h,if_pos h]
   exact hR _ _ (qcw (zA _) (qan h) (by decide))
  rw[if_neg h,if_neg h]
  clear h
  by_cases h:E.sign p [35]=true
  ·rw[if_pos h,if_pos h]
   exact hR _ _ (qbj (hk p (qan h)))
  rw[if_neg h,if_neg h]
  clear h
  by_cases h:E.word p [102,117,110]=true
  ·rw[if_pos h,if_pos h]
   exact hR _ _ (qcw (zA _) (qbv h) (by decide))
  rw[if_neg h,if_neg h]
  clear h
  by_cases h:E.word p [99,97,115,101]=true
  ·rw[if_pos h,if_pos h]
   rw[hR _ _ (qbj (hk p (qbv h)))]
   simp only[zE]
   rw[hR _ _ (qbj (zC (zB (hw _ _ _) (hb _ _)) (hk p (qbv h))))];rfl
  rw[if_neg h,if_neg h]
  clear h
  by_cases h:E.word p [105,102]=true
  ·rw[if_pos h,if_pos h]
   rw[hR _ _ (qbj (hk p (qbv h)))];rfl
  rw[if_neg h,if_neg h]
  clear h
  by_cases h:E.word p [114,101,99,101,105,118,101]=true
  ·rw[if_pos h,if_pos h]
   exact hR _ _ (qcw (zA _) (qbv h) (by decide))
  rw[if_neg h,if_neg h]
  clear h
  by_cases h:E.word p [98,101,103,105,110]=true
  ·rw[if_pos h,if_pos h]
   rw[hR _ _ (qbj (hk p (qbv h)))];rfl
  rw[if_neg h,if_neg h]
 | follow x paren=>
  simp only[qbf,qa6]
  split
  ·rfl
  rename_i h0
  have hg:qaj E p≠0:=by
   cases hbd:p.bad with
   | true=>rw[hbd]at h0;simp at h0
   | false=>exact qbw hbd
  split
  ·rw[hR _ _ (qcw (zA _) hg (by show(0:Nat)<1;decide))]
   simp only[zE]
   rw[hR _ _ (qbj (hx _ _ _ _ _ hg))]
  split
  ·split
   ·rw[hR _ _ (qbj (zC (ht _) (hk p hg)))]
    simp only[zE]
    rw[hR _ _ (qbj (zC (zB (hw _ _ _) (zB (hb _ _) (ht _))) (hk p hg)))]
   ·rw[hR _ _ (qbj (zC (htx _ _) (hk p hg)))]
  split
  ·rw[hR _ _ (qbj (hk p hg))]
   simp only[zE]
   rw[hR _ _ (qbj (zC (hb _ _) (hk p hg)))]
  ·rfl
 | box n o c level=>
  simp only[qbf,qa6]
  rw[hR _ _ (qnv (fun h=>zC (hn _) (hwd p _ _ h)) (zB (hn _) (hw _ _ _)) (by show(0:Nat)<1;decide))]
 | boxL n notes c level=>
  simp only[qbf,qa6]
  split
  ·rfl
  rename_i h0
  have hg:qaj E p≠0:=by
   cases hbd:p.bad with
   | true=>rw[hbd]at h0;simp at h0
   | false=>exact qbw hbd
  rw[hR _ _ (qcw (zA _) hg (by show(4:Nat)<5;decide))]
  simp only[zE]
  split
  ·rfl
  ·rename_i h1
   have h2:=hk _ (qan (by simpa using h1))
   rw[hR _ _ (qbj (zC (qok E _ _) (zC (hn _) (zD h2 (hb _ _)))))]
 | item kind level=>
  simp only[qbf,qa6]
  split
  ·exact hR _ _ (qdy (zA _) (by show(1:Nat)<4;decide) (by show(0:Nat)<3;decide))
  ·rw[hR _ _ (qdy (zA _) (by show(3:Nat)<4;decide) (by show(2:Nat)<3;decide))]
   simp only[zE]
   split
   ·rename_i h
    simp only[Bool.and_eq_true,Bool.or_eq_true]at h
    have h2:=hk _ (show qaj E (S (.expr level) p).p≠0 by rcases h.2 with h | h<;>exact qan h)
    rw[hR _ _ (qbj (zD h2 (hb _ _)))];rfl
   ·rfl
 | segment=>
  simp only[qbf,qa6]
  split
  ·rename_i h
   rw[hR _ _ (qbj (hk p (qan h)))]
   simp only[zE]
  ·split
   ·rename_i h
    rw[hR _ _ (qcw (zA _) (qan h) (by show(0:Nat)<1;decide))]
    simp only[zE]
   ·simp only[zE]
 | list=>
  simp only[qbf,qa6]
  rw[hR _ _ (qnv (fun h=>zC (hn _) (hwd p _ _ h)) (zB (hn _) (hw _ _ _)) (by show(0:Nat)<1;decide))]
 | listL n notes=>
  simp only[qbf,qa6]
  split
  ·rfl
  rename_i h0
  have hg:qaj E p≠0:=by
   cases hbd:p.bad with
   | true=>rw[hbd]at h0;simp at h0
   | false=>exact qbw hbd
  rw[hR _ _ (qcw (zA _) hg (by show(3:Nat)<4;decide))]
  simp only[zE]
  split
  ·exact hR _ _ (qcw (hb _ _) hg (by show(0:Nat)<4;decide))
  split
  ·rename_i h1
   rw[hR _ _ (qbj (zD (hk _ (qan h1)) (hb _ _)))];rfl
  split
  ·rfl
  ·rename_i h1
   have h2:=hk _ (qan (by simpa using h1))
   rw[hR _ _ (qbj (zC (qok E _ _) (zC (hn _) (zD h2 (hb _ _)))))]
 | comp x broken=>
  simp only[qbf,qa6]
  rw[hR _ _ (qnv (fun h=>hwd p _ _ h) (hw _ _ _) (by show(0:Nat)<1;decide))]
 | compL n=>
  simp only[qbf,qa6]
  split
  ·rfl
  rename_i h0
  have hg:qaj E p≠0:=qbw (by simpa using h0)
  rw[hR _ _ (qcw (zA _) hg (by show(3:Nat)<4;decide))]
  simp only[zE]
  split
  ·rename_i h
   simp only[Bool.or_eq_true]at h
   have h2:=hk _ (show qaj E (S (.expr 3) p).p≠0 by rcases h with h | h<;>exact qan h)
   have h3:=zD h2 (hb (.expr 3) p)
   rw[hR _ _ (qbj h3)]
   simp only[zE]
   split
   ·rfl
   ·rename_i h1
    have h4:=hk _ (qan (by simpa using h1))
    rw[hR _ _ (qbj (Nat.lt_trans (zD h4 (hb _ _)) h3))]
  ·simp only[zE]
   split
   ·rfl
   ·rename_i h1
    have h4:=hk _ (qan (by simpa using h1))
    rw[hR _ _ (qbj (zD h4 (hb _ _)))]
 | hash of=>
  simp only[qbf,qa6]
  split
  ·rename_i h
   split
   ·exact hR _ _ (qcw (zA _) (qan h) (by show(0:Nat)<1;decide))
   ·exact hR _ _ (qcw (zA _) (qan h) (by show(0:Nat)<1;decide))
  ·split
   ·rfl
   ·split
    ·exact hR _ _ (qdy (htx _ _) (by show(0:Nat)<1;decide) (by show(1:Nat)<2;decide))
    ·exact hR _ _ (qdy (htx _ _) (by show(0:Nat)<1;decide) (by show(1:Nat)<2;decide))
 | func=>
  simp only[qbf,qa6]
  split
  ·rfl
  ·rename_i h
   have h2:qaj E (E.take p).2≠0:=qan (by simpa using h)
   have h3:qaj E p≠0:=by have:=ht p;omega
   rw[hR _ _ (qbj (hk p h3))]
 | funcL n=>
  simp only[qbf,qa6]
  split
  ·rfl
  rename_i h0
  have hg:qaj E p≠0:=qbw (by simpa using h0)
  have hle:qaj E (if n.ls.isEmpty then(([],p):List ByteArray×Ps)else E.notes p).2<=qaj E p:=by
   split
   ·exact zA _
   ·exact hn _
  generalize(if n.ls.isEmpty then(([],p):List ByteArray×Ps)else E.notes p)=q at hle⊢
  rw[hR _ _ (qcw hle hg (by show(2:Nat)<3;decide))]
  simp only[zE]
  split
  ·rfl
  ·rename_i h1
   have h4:=hk _ (qan (by simpa using h1))
   rw[hR _ _ (qbj (zD h4 (zB (hb _ _) hle)))]
 | head s=>
  simp only[qbf,qa6]
  rw[hR _ _ (qdy (zA _) (by show(0:Nat)<2;decide) (by show(1:Nat)<4;decide))]
  simp only[zE]
  rw[hR _ _ (qdy (hb _ _) (by show(1:Nat)<2;decide) (by show(3:Nat)<4;decide))]
 | rest c=>
  simp only[qbf,qa6]
  split
  ·rename_i h
   rw[hR _ _ (qbj (hk p (qbv h)))]
   simp only[zE]
   rw[hR _ _ (qbj (zC (hb _ _) (hk p (qbv h))))]
  ·rw[hR _ _ (qdy (zA _) (by show(0:Nat)<1;decide) (by show(2:Nat)<3;decide))]
 | arrow c g=>
  simp only[qbf,qa6]
  rw[hR _ _ (qnv (fun h=>hwd p _ _ h) (hw _ _ _) (by show(1:Nat)<2;decide))];rfl
 | guard=>
  simp only[qbf,qa6]
  rw[hR _ _ (qdy (zA _) (by show(4:Nat)<5;decide) (by show(0:Nat)<1;decide))]
 | guardL g=>
  simp only[qbf,qa6]
  split
  ·rfl
  rename_i h0
  have hg:qaj E p≠0:=qbw (by simpa using h0)
  rw[hR _ _ (qcw (zA _) hg (by show(3:Nat)<4;decide))]
  simp only[zE]
  rw[hR _ _ (qcw (hb _ _) hg (by show(0:Nat)<4;decide))]
  simp only[zE]
  split
  ·rfl
  ·rename_i h1
   have h4:=hk _ (qan (by simpa using h1))
   rw[hR _ _ (qbj (zD h4 (zB (hb _ _) (hb _ _))))]
 | guardB b=>
  simp only[qbf,qa6]
  split
  ·rename_i h
   rw[hR _ _ (qbj (hk p (qan h)))]
   simp only[zE]
   rw[hR _ _ (qbj (zC (hb _ _) (hk p (qan h))))]
  ·rfl
 | body=>
  simp only[qbf,qa6]
  rw[hR _ _ (qdy (zA _) (by show(4:Nat)<5;decide) (by show(0:Nat)<1;decide))]
 | bodyL b=>
  simp only[qbf,qa6]
  split
  ·rfl
  rename_i h0
  have hg:qaj E p≠0:=qbw (by simpa using h0)
  rw[hR _ _ (qcw (hn _) hg (by show(3:Nat)<4;decide))]
  simp only[zE]
  split
  ·rfl
  ·rename_i h1
   have h4:=hk _ (qan (by simpa using h1))
   rw[hR _ _ (qbj (zD h4 (zB (hb _ _) (hn _))))]
 | clauses=>
  simp only[qbf,qa6]
  rw[hR _ _ (qdy (zA _) (by show(4:Nat)<5;decide) (by show(0:Nat)<1;decide))]
 | clausesL out=>
  simp only[qbf,qa6]
  split
  ·rfl
  rename_i h0
  have hg:qaj E p≠0:=qbw (by simpa using h0)
  rw[hR _ _ (qcw (hn _) hg (by show(3:Nat)<4;decide))]
  simp only[zE]
  rw[hR _ _ (qcw (zB (hb _ _) (hn _)) hg (by show(1:Nat)<4;decide))]
  simp only[zE]
  split
  ·rfl
  ·rename_i h1
   have h4:=hk _ (qan (by simpa using h1))
   rw[hR _ _ (qbj (zD h4 (zB (hb _ _) (zB (hb _ _) (hn _)))))]
 | ifs=>
  simp only[qbf,qa6]
  rw[hR _ _ (qdy (zA _) (by show(6:Nat)<7;decide) (by show(0:Nat)<1;decide))]
 | ifsL out=>
  simp only[qbf,qa6]
  split
  ·rfl
  rename_i h0
  have hg:qaj E p≠0:=qbw (by simpa using h0)
  rw[hR _ _ (qcw (hn _) hg (by show(5:Nat)<6;decide))]
  simp only[zE]
  rw[hR _ _ (qcw (zB (hb _ _) (hn _)) hg (by show(0:Nat)<6;decide))]
  simp only[zE]
  split
  ·rfl
  ·rename_i h1
   have h4:=hk _ (qan (by simpa using h1))
   rw[hR _ _ (qbj (zD h4 (zB (hb _ _) (zB (hb _ _) (hn _)))))]
 | receive=>
  have hfin: ∀r:Out,qaj E r.p<=qaj E p->(if E.word r.p [97,102,116,101,114]=true then(R (.expr 1) (E.take (E.notes r.p).2).2).bind fun r2=>(R (.arrow (nk 22 [nk 23 [r2.x]]) (nk 24 [])) r2.p).bind fun r3=>some (qau E (nkt 20 ⟨#[97,102,116,101,114]⟩ (r.xs++[r3.x.notes' (E.notes r.p).1])) r3.p)else some (qau E (nk 20 r.xs) r.p))=some (if E.word r.p [97,102,116,101,114]=true then(qau E (nkt 20 ⟨#[97,102,116,101,114]⟩ (r.xs++[(S (.arrow (nk 22 [nk 23 [(S (.expr 1) (E.take (E.notes r.p).2).2).x]]) (nk 24 [])) (S (.expr 1) (E.take (E.notes r.p).2).2).p).x.notes' (E.notes r.p).1])) (S (.arrow (nk 22 [nk 23 [(S (.expr 1) (E.take (E.notes r.p).2).2).x]]) (nk 24 [])) (S (.expr 1) (E.take (E.notes r.p).2).2).p).p)else qau E (nk 20 r.xs) r.p):=by
   intro r hr
   split
   ·rename_i h
    have h1:qaj E (E.notes r.p).2≠0:=by
     have h2:=qbv h
     unfold qaj at h2⊢
     show(if r.p.bad=true then 0 else _)≠0
     split
     ·rename_i h3;rw[if_pos h3]at h2;exact absurd rfl h2
     ·omega
    have h4:=zD (hk _ h1) (zB (hn _) hr)
    rw[hR _ _ (qbj h4)]
    simp only[zE]
    rw[hR _ _ (qbj (zC (hb _ _) h4))];rfl
   ·rfl
  simp only[qbf,qa6]
  split
  ·rw[hR _ _ (qnv (fun h=>hk p h) (ht p) (by show(1:Nat)<2;decide))]
   simp only[zE]
   exact hfin _ (zB (hb _ _) (ht p))
  ·simp only[zE]
   exact hfin { p:=(E.take p).2 } (ht p)
theorem qpb(E:Env): ∀(n:Nat) (c:Cmd) (p:Ps),ms13 E c p<n->runX E n c p=some (qf7 E n c p)
 | 0,_,_,h=>by omega
 | n+1,c,p,h=>by
  show qbf E (runX E n) c p=some (qa6 E (qf7 E n) c p)
  refine qsr (fun c' p' h'=>qpb E n c' p' (by omega)) (qff E n) (fun x o c lv p h0=>?_)
  cases n with
  | zero=>
   show qaj E p.wrong<_
   rw[qg7];omega
  | succ n=>
   show qaj E (qa6 E (qf7 E n) (.box x o c lv) p).p<_
   simp only[qa6]
   exact zC (zB (qff E n _ _) (qee E _)) (qh6 E p _ _ h0)
end
theorem qeu(s:ByteArray)(k:Nat)(hk:k<=s.size)(hs:s.size<=1048576)(w:World):
 Calls Tryz.prog 32 #[.string s,.int .i64 k] w fun e w'=>e=.returned (.int .i64 (fw bl s k:Nat))/\w=w':=by
 obtain⟨R,hR⟩: ∃R,R=fw bl s k:=⟨_,rfl⟩
 rw[<-hR]
 have HR:=zh hR
 have HG:=zh (get_bt s)
 clear hR
 go_enter Tryz.func32,Tryz.ntmps32
 go_wp2_with fail
 go_loopg [1] (s.size-k) (fun gn i wr=> ∃j:Nat,gn=s.size-j/\j<=s.size/\i=.int .i64 j/\wr=w/\Hid (R=fw bl s j))
 case atStart=>exact⟨k,rfl,hk,rfl,rfl,HR⟩
 case round=>
  obtain⟨j,hgn,hj,rfl,rfl,HJ⟩:=hrel
  by_cases hlt:j<s.size
  ·have gx:=HG.out j hlt
   have HGO:Hid (bl (bt s j)=true->R=fw bl s (j+1)):=zh fun h=>by rw[HJ.out,qnb hlt h]
   have HST:Hid (bl (bt s j)=false->j=R):=zh fun h=>by rw[HJ.out,qhp h]
   obtain⟨c,hc⟩: ∃c,c=bt s j:=⟨_,rfl⟩
   rw[<-hc]at gx HGO HST
   clear hc
   cases hb:bl c
   ·have HF:=zh (HST.out hb)
    obtain⟨b1,b2,b3,b4⟩:=qtz hb
    clear hb
    go_wp2_with fail
    go_ret
    exact⟨retN HF.out,rfl⟩
   ·have HF:=zh (HGO.out hb)
    rcases qqo hb with b1 | ⟨b1,b2⟩ | ⟨b1,b2,b3⟩ | ⟨b1,b2,b3,b4⟩
    all_goals
     clear hb
     go_wp2_with fail
     go_roundg (s.size- (j+1))
     case measure=>omega
     case rel=>exact⟨j+1,rfl,hlt,by go_num,rfl,HF⟩
  ·have HF:Hid (j=R):=zh (by rw[HJ.out,qfu hlt])
   go_wp2_with fail
   go_ret
   exact⟨retN HF.out,rfl⟩
theorem qe3(s:ByteArray)(k:Nat)(hk:k<=s.size)(hs:s.size<=1048576)(w:World):
 Calls Tryz.prog 54 #[.string s,.int .i64 k] w fun e w'=>e=.returned (.int .i64 (fw inn s k:Nat))/\w=w':=by
 obtain⟨R,hR⟩: ∃R,R=fw inn s k:=⟨_,rfl⟩
 rw[<-hR]
 have HR:=zh hR
 have HG:=zh (get_bt s)
 clear hR
 go_enter Tryz.func54,Tryz.ntmps54
 go_wp2_with fail
 go_loopg [1] (s.size-k) (fun gn i wr=> ∃j:Nat,gn=s.size-j/\j<=s.size/\i=.int .i64 j/\wr=w/\Hid (R=fw inn s j))
 case atStart=>exact⟨k,rfl,hk,rfl,rfl,HR⟩
 case round=>
  obtain⟨j,hgn,hj,rfl,rfl,HJ⟩:=hrel
  by_cases hlt:j<s.size
  ·have gx:=HG.out j hlt
   have HGO:Hid (inn (bt s j)=true->R=fw inn s (j+1)):=zh fun h=>by rw[HJ.out,qnb hlt h]
   have HST:Hid (inn (bt s j)=false->j=R):=zh fun h=>by rw[HJ.out,qhp h]
   have HI:=zh (fun W=>qev (bt s j) W)
   obtain⟨v,hv⟩: ∃v,v=inn (bt s j):=⟨_,rfl⟩
   rw[<-hv]at HGO HST HI
   obtain⟨c,hc⟩: ∃c,c=bt s j:=⟨_,rfl⟩
   rw[<-hc]at gx HI
   clear hc hv
   cases v
   ·have HF:=zh (HST.out rfl)
    go_wp2_with fail
    refine(HI.out _).mono ?_
    rintro e w' ⟨rfl,rfl⟩
    go_wp2_with fail
    go_ret
    exact⟨retN HF.out,rfl⟩
   ·have HF:=zh (HGO.out rfl)
    go_wp2_with fail
    refine(HI.out _).mono ?_
    rintro e w' ⟨rfl,rfl⟩
    go_wp2_with fail
    go_roundg (s.size- (j+1))
    case measure=>omega
    case rel=>exact⟨j+1,rfl,hlt,by go_num,rfl,HF⟩
  ·have HF:Hid (j=R):=zh (by rw[HJ.out,qfu hlt])
   go_wp2_with fail
   go_ret
   exact⟨retN HF.out,rfl⟩
theorem qp8(s:ByteArray)(hs:s.size<=1048576)(w:World):
 Calls Tryz.prog 51 #[.string s] w fun e w'=>e=.returned (.string (s.extract 0 (tr s 0 s.size)))/\w=w':=by
 obtain⟨R,hR⟩: ∃R,R=tr s 0 s.size:=⟨_,rfl⟩
 rw[<-hR]
 have HR:=zh hR
 have HG:=zh (get_bt s)
 clear hR
 go_enter Tryz.func51,Tryz.ntmps51
 go_wp2_with fail
 go_loopg [3] s.size (fun gn i wr=> ∃j:Nat,gn=j/\j<=s.size/\i=.int .i64 j/\wr=w/\Hid (R=tr s 0 j))
 case atStart=>exact⟨s.size,rfl,zA _,rfl,rfl,HR⟩
 case round=>
  obtain⟨j,hgn,hj,rfl,rfl,HJ⟩:=hrel
  by_cases h0:0<j
  ·obtain⟨n,rfl⟩: ∃n,j=n+1:=⟨j-1,by omega⟩
   have gx:=HG.out n (by omega)
   have k1:((n:Int)+1-1).toNat=n:=by omega
   have hstep:=qqd (s:=s) (n:=n)
   rw[<-HJ.out]at hstep
   have HGO:Hid (tb (bt s n)=true->R=tr s 0 n):=zh fun h=>by rw[hstep,if_pos h]
   have HST:Hid (tb (bt s n)=false->n+1=R):=zh fun h=>by rw[hstep,if_neg (by rw[h];decide)]
   obtain⟨c,hc⟩: ∃c,c=bt s n:=⟨_,rfl⟩
   rw[<-hc]at gx HGO HST
   clear hc hstep
   cases hb:tb c
   ·have HF:=zh (HST.out hb)
    obtain⟨b1,b2,b3⟩:=qw0 hb
    clear hb
    go_wp2_with fail
    go_ret
    exact⟨ret_s (by rw[<-HF.out]),rfl⟩
   ·have HF:=zh (HGO.out hb)
    rcases qso hb with b1 | ⟨b1,b2⟩ | ⟨b1,b2,b3⟩
    all_goals
     clear hb
     go_wp2_with fail
     go_roundg n
     case measure=>omega
     case rel=>exact⟨n,rfl,by omega,by go_num,rfl,HF⟩
  ·obtain rfl:j=0:=by omega
   have HF:Hid (0=R):=zh (by rw[HJ.out];rfl)
   go_wp2_with fail
   go_ret
   exact⟨ret_s (by rw[<-HF.out];apply ByteArray.ext;simp),rfl⟩
theorem qga(s:ByteArray)(p:Nat)(hp:p<s.size)(hs:s.size<=1048576)(w:World):
 Calls Tryz.prog 56 #[.string s,.int .i64 p] w fun e w'=>e=.returned (.int .i64 (if qx s (bt s p) (p+1)=0 then 0 else(qx s (bt s p) (p+1):Int)-p))/\ ∃n,w'=w.drewN n:=by
 obtain⟨q,hq⟩: ∃q,q=bt s p:=⟨_,rfl⟩
 rw[<-hq]
 have gq:=get_bt s p hp
 rw[<-hq]at gq
 clear hq
 obtain⟨Q,hQ⟩: ∃Q,Q=qx s q (p+1):=⟨_,rfl⟩
 rw[<-hQ]
 have HQ:=zh hQ
 have HG:=zh (get_bt s)
 clear hQ
 obtain⟨V,hV⟩: ∃V:Int,V=if Q=0 then 0 else(Q:Int)-p:=⟨_,rfl⟩
 rw[<-hV]
 have HQ0:Hid (Q=0->0=V):=zh fun h=>by rw[hV,if_pos h]
 have HV:=zh hV
 clear hV
 go_enter Tryz.func56,Tryz.ntmps56
 go_wp2_with fail
 go_loopg [5] (s.size- (p+1)) (fun gn i wr=> ∃k:Nat,gn=s.size-k/\p<k/\k<=s.size/\i=.int .i64 k/\Hid (Q=qx s q k)/\Hid (∃n,wr=w.drewN n))
 case atStart=>exact⟨p+1,rfl,by omega,by omega,by go_num,HQ,zh ⟨0,rfl⟩⟩
 case round=>
  obtain⟨k,hgn,hpk,hk,rfl,HK,HW⟩:=hrel
  obtain⟨m0,rfl⟩:=HW.out
  by_cases hlt:k<s.size
  ·have gk:=HG.out k hlt
   have k0:(k:Int)< (s.size:Int):=by omega
   by_cases hc:bt s k=q
   ·have HF:Hid ((k:Int)+1-p=V):=zh (by rw[HV.out,HK.out,ql3 hlt hc,if_neg (by omega)];omega)
    rw[hc]at gk
    have hqq:(q !=q)=false:=by simp
    have k1: ¬(s.size:Int)<=(k:Int):=by omega
    clear hc
    go_wp2_with fail
    go_quiet (fail)
    go_wp2_with fail
    go_ret
    exact⟨retI HF.out,_,rfl⟩
   ·have hcq:(bt s k !=q)=true:=by simpa using hc
    by_cases h9:bt s k=92
    ·have HE:=zh (HK.out.trans (ql2 hlt hc h9))
     rw[h9]at gk hcq
     clear hc h9
     by_cases hl2:k+1<s.size
     ·have HN:=zh (fun W=>qdr s (k+1) W hl2 (by unfold maxLen;omega))
      have l1:=qc9 s (k+1)
      have l2:=qrr s (k+1) hl2
      have l3:=qo2 s (k+1)
      obtain⟨c,hc⟩: ∃c,c=nc s (k+1):=⟨_,rfl⟩
      obtain⟨l,hl⟩: ∃l,l=nl s (k+1):=⟨_,rfl⟩
      rw[<-hc,<-hl]at HN HE
      rw[<-hl]at l1 l2 l3
      have e1:((k+1:Nat):Int)=(k:Int)+1:=by omega
      rw[e1]at HN
      clear hc hl e1
      by_cases c1:c<32
      ·have HF:Hid (0=V):=zh (HQ0.out (by rw[HE.out,if_pos (.inl c1)]))
       go_wp2_with fail
       go_quiet (fail)
       go_wp2_with fail
       refine(HN.out _).mono ?_
       rintro e w' ⟨rfl,m1,rfl⟩
       go_wp2_with fail
       go_ret
       exact⟨retI HF.out,_,rfl⟩
      ·by_cases c2:c=127
       ·have HF:Hid (0=V):=zh (HQ0.out (by rw[HE.out,if_pos (.inr c2)]))
        subst c2
        go_wp2_with fail
        go_quiet (fail)
        go_wp2_with fail
        refine(HN.out _).mono ?_
        rintro e w' ⟨rfl,m1,rfl⟩
        go_wp2_with fail
        go_ret
        exact⟨retI HF.out,_,rfl⟩
       ·have HF:Hid (Q=qx s q (k+1+l)):=zh (by rw[HE.out,if_neg (by omega)])
        have c3:(c==127)=false:=beq_false_of_ne c2
        clear c2
        go_wp2_with fail
        go_quiet (fail)
        go_wp2_with fail
        refine(HN.out _).mono ?_
        rintro e w' ⟨rfl,m1,rfl⟩
        go_wp2_with fail
        go_roundg (s.size- (k+1+l))
        case measure=>omega
        case rel=>exact⟨k+1+l,rfl,by omega,by omega,by go_num,HF,zh ⟨_,rfl⟩⟩
     ·have HN:=zh (fun W=>qj2 s ((k:Int)+1) W (.inr (by omega)))
      have HF:Hid (0=V):=zh (by
       have:nc s (k+1)= -1:=by
        unfold nc
        rw[bt_end s (by omega),if_pos]
        exact .inr (by show s.size<k+1+1;omega)
       exact HQ0.out (by rw[HE.out,if_pos (.inl (by rw[this];decide))]))
      go_wp2_with fail
      go_quiet (fail)
      go_wp2_with fail
      refine(HN.out _).mono ?_
      rintro e w' ⟨rfl,m1,rfl⟩
      go_wp2_with fail
      go_ret
      exact⟨retI HF.out,_,rfl⟩
    ·have HE:=zh (HK.out.trans (qs2 hlt hc h9))
     have h92:(bt s k==92)=false:=beq_false_of_ne h9
     have HN:=zh (fun W=>qdr s k W hlt (by unfold maxLen;omega))
     have l1:=qc9 s k
     have l2:=qrr s k hlt
     have l3:=qo2 s k
     obtain⟨c,hc'⟩: ∃c,c=nc s k:=⟨_,rfl⟩
     obtain⟨l,hl⟩: ∃l,l=nl s k:=⟨_,rfl⟩
     rw[<-hc',<-hl]at HN HE
     rw[<-hl]at l1 l2 l3
     clear hc' hl hc h9
     obtain⟨d,hd⟩: ∃d,d=bt s k:=⟨_,rfl⟩
     rw[<-hd]at gk hcq h92
     clear hd
     by_cases c1:c<32
     ·have HF:Hid (0=V):=zh (HQ0.out (by rw[HE.out,if_pos (.inl c1)]))
      go_wp2_with fail
      go_quiet (fail)
      go_wp2_with fail
      refine(HN.out _).mono ?_
      rintro e w' ⟨rfl,m1,rfl⟩
      go_wp2_with fail
      go_ret
      exact⟨retI HF.out,_,rfl⟩
     ·by_cases c2:c=127
      ·have HF:Hid (0=V):=zh (HQ0.out (by rw[HE.out,if_pos (.inr c2)]))
       subst c2
       go_wp2_with fail
       go_quiet (fail)
       go_wp2_with fail
       refine(HN.out _).mono ?_
       rintro e w' ⟨rfl,m1,rfl⟩
       go_wp2_with fail
       go_ret
       exact⟨retI HF.out,_,rfl⟩
      ·have HF:Hid (Q=qx s q (k+l)):=zh (by rw[HE.out,if_neg (by omega)])
       have c3:(c==127)=false:=beq_false_of_ne c2
       clear c2
       go_wp2_with fail
       go_quiet (fail)
       go_wp2_with fail
       refine(HN.out _).mono ?_
       rintro e w' ⟨rfl,m1,rfl⟩
       go_wp2_with fail
       go_roundg (s.size- (k+l))
       case measure=>omega
       case rel=>exact⟨k+l,rfl,by omega,by omega,by go_num,HF,zh ⟨_,rfl⟩⟩
  ·obtain rfl:k=s.size:=by omega
   have HF:Hid (0=V):=zh (HQ0.out (by rw[HK.out,ql1 (by omega)]))
   go_wp2_with fail
   go_quiet (fail)
   go_wp2_with fail
   go_ret
   exact⟨retI HF.out,_,rfl⟩
theorem qm3(s:ByteArray)(p:Nat)(hp:p<s.size)(hs:s.size<=1048576)(w:World):
 Calls Tryz.prog 57 #[.string s,.int .i64 p] w fun e w'=>e=.returned (.int .i64 (if che s p=0 then 0 else(che s p:Int)-p))/\Below w.heap.size w w':=by
 obtain⟨V,hV⟩: ∃V:Int,V=if che s p=0 then 0 else(che s p:Int)-p:=⟨_,rfl⟩
 rw[<-hV]
 have HV:=zh hV
 clear hV
 have HG:=zh (get_bt s)
 by_cases h1:p+1<s.size
 ·have gx:=HG.out (p+1) h1
  have g1:(p:Int)+1< (s.size:Int):=by omega
  by_cases h9:bt s (p+1)=92
  ·have HE:=zh (fun W=>qs4 s (p+1) (by omega) W)
   have e1:((p+1:Nat):Int)=(p:Int)+1:=by omega
   rw[e1]at HE
   have hch:che s p=if 0<=(esc s (p+1)).1 then p+1+(esc s (p+1)).2 else 0:=by unfold che;rw[if_pos ⟨h1,h9⟩]
   have hbd:=esc_bd s (p+1)
   obtain⟨v,hv⟩: ∃v,v=(esc s (p+1)).1:=⟨_,rfl⟩
   obtain⟨l,hl⟩: ∃l,l=(esc s (p+1)).2:=⟨_,rfl⟩
   rw[<-hv,<-hl]at hch HE
   rw[<-hl,<-hv]at hbd
   rw[h9]at gx
   clear hv hl h9 e1
   by_cases c1:0<=v
   ·rw[if_pos c1]at hch
    have HF:Hid ((l:Int)+1=V):=zh (by rw[HV.out,hch,if_neg (by omega)];omega)
    clear hch
    go_enter Tryz.func57,Tryz.ntmps57
    go_wp2_with fail
    refine(HE.out _).mono ?_
    rintro e w' ⟨rfl,hb⟩
    have HB:=zh hb
    clear hb
    go_wp2_with fail
    go_ret
    exact⟨retI HF.out,HB.out⟩
   ·rw[if_neg c1]at hch
    have HF:Hid (0=V):=zh (by rw[HV.out,hch,if_pos rfl])
    clear hch
    go_enter Tryz.func57,Tryz.ntmps57
    go_wp2_with fail
    refine(HE.out _).mono ?_
    rintro e w' ⟨rfl,hb⟩
    have HB:=zh hb
    clear hb
    go_wp2_with fail
    go_ret
    exact⟨retI HF.out,HB.out⟩
  ·have h92:(bt s (p+1)==92)=false:=beq_false_of_ne h9
   have HN:=zh (fun W=>qdr s (p+1) W h1 (by unfold maxLen;omega))
   have e1:((p+1:Nat):Int)=(p:Int)+1:=by omega
   rw[e1]at HN
   have hch:che s p=if nc s (p+1)<=32\/nc s (p+1)=127 then 0 else p+1+nl s (p+1):=by unfold che;rw[if_neg (fun g=>h9 g.2)]
   have l3:=qo2 s (p+1)
   obtain⟨v,hv⟩: ∃v,v=nc s (p+1):=⟨_,rfl⟩
   obtain⟨l,hl⟩: ∃l,l=nl s (p+1):=⟨_,rfl⟩
   rw[<-hv,<-hl]at hch HN
   rw[<-hl]at l3
   clear hv hl h9 e1
   obtain⟨d,hd⟩: ∃d,d=bt s (p+1):=⟨_,rfl⟩
   rw[<-hd]at gx h92
   clear hd
   by_cases c1:v<=32
   ·rw[if_pos (.inl c1)]at hch
    have HF:Hid (0=V):=zh (by rw[HV.out,hch,if_pos rfl])
    clear hch
    go_enter Tryz.func57,Tryz.ntmps57
    go_wp2_with fail
    refine(HN.out _).mono ?_
    rintro e w' ⟨rfl,m,rfl⟩
    go_wp2_with fail
    go_ret
    exact⟨retI HF.out,qac _ _⟩
   ·by_cases c2:v=127
    ·rw[if_pos (.inr c2)]at hch
     have HF:Hid (0=V):=zh (by rw[HV.out,hch,if_pos rfl])
     clear hch
     subst c2
     go_enter Tryz.func57,Tryz.ntmps57
     go_wp2_with fail
     refine(HN.out _).mono ?_
     rintro e w' ⟨rfl,m,rfl⟩
     go_wp2_with fail
     go_ret
     exact⟨retI HF.out,qac _ _⟩
    ·rw[if_neg (by omega)]at hch
     have HF:Hid ((l:Int)+1=V):=zh (by rw[HV.out,hch,if_neg (by omega)];omega)
     have c3:(v==127)=false:=beq_false_of_ne c2
     clear hch c2
     go_enter Tryz.func57,Tryz.ntmps57
     go_wp2_with fail
     refine(HN.out _).mono ?_
     rintro e w' ⟨rfl,m,rfl⟩
     go_wp2_with fail
     go_ret
     exact⟨retI HF.out,qac _ _⟩
 ·have HN:=zh (fun W=>qj2 s ((p:Int)+1) W (.inr (by omega)))
  have g1:decide ((p:Int)+1< (s.size:Int))=false:=by simp;omega
  have HF:Hid (0=V):=zh (by
   have h2:nc s (p+1)= -1:=by
    unfold nc
    rw[bt_end s (by omega),if_pos]
    exact .inr (by show s.size<p+1+1;omega)
   have:che s p=0:=by unfold che;rw[if_neg (fun g=>h1 g.1),h2,if_pos (.inl (by decide))]
   rw[HV.out,this,if_pos rfl])
  go_enter Tryz.func57,Tryz.ntmps57
  go_wp2_with fail
  refine(HN.out _).mono ?_
  rintro e w' ⟨rfl,m,rfl⟩
  go_wp2_with fail
  go_ret
  exact⟨retI HF.out,qac _ _⟩
theorem qh8(s:ByteArray)(a:Nat)(b:Int)(un:Bool)(ha:a<=s.size)(hs:s.size<=1048576)(hb:0<=b): ∃l:Nat,ru s b a un a=a+l/\a+l<=s.size/\qe6 s (a:Nat) b un l:=by
 have hg:=qjz s b a un s.size a (by omega)
 refine⟨ru s b a un a-a,by omega,by omega,fun W=>?_⟩
 have h:=ql4 s a b un ha hs hb W
 rw[show((ru s b a un a-a:Nat):Int)=(ru s b a un a:Int)-a by omega]
 exact h
def isEA(s:ByteArray)(k:Nat):Bool:=bt s k==69||bt s k==101
def qki(s:ByteArray)(a:Nat)(r:Int):Prop:= ∀W,Calls Tryz.prog 87 #[.string s,.int .i64 a] W fun e w'=>e=.returned (.int .i64 r)/\ ∃q,w'=W.drewN q
theorem qu3(s:ByteArray)(a:Nat)(l1:Int)(n:Nat)(hs:s.size<=1048576)(hn:n<=s.size)(han:a<=n)(H1:Hid (qe6 s (a:Nat) 10 true l1))(eL:(a:Int)+l1=(n:Int))(h: ¬(a<n/\n<s.size/\bt s n=46)):qki s a 0:=by
 intro w
 by_cases h0:a<n
 ·have g0:((n:Int)==(a:Int))=false:=beq_false_of_ne (by omega)
  by_cases h1:n<s.size
  ·have gx:=get_bt s n h1
   have g1:(bt s n !=46)=true:=by
    have:bt s n≠46:=fun h'=>h ⟨h0,h1,h'⟩
    simpa using this
   obtain⟨c,hc⟩: ∃c,c=bt s n:=⟨_,rfl⟩
   rw[<-hc]at gx g1
   clear hc h
   go_enter Tryz.func87,Tryz.ntmps87
   go_wp2_with fail
   refine(H1.out _).mono ?_
   rintro e w' ⟨rfl,q1,rfl⟩
   go_wp2_with fail
   go_ret
   exact⟨rfl,_,rfl⟩
  ·have g1:(s.size:Int)<=(n:Int):=by omega
   clear h
   go_enter Tryz.func87,Tryz.ntmps87
   go_wp2_with fail
   refine(H1.out _).mono ?_
   rintro e w' ⟨rfl,q1,rfl⟩
   go_wp2_with fail
   go_ret
   exact⟨rfl,_,rfl⟩
 ·obtain rfl:n=a:=by omega
  clear h
  go_enter Tryz.func87,Tryz.ntmps87
  go_wp2_with fail
  refine(H1.out _).mono ?_
  rintro e w' ⟨rfl,q1,rfl⟩
  go_wp2_with fail
  go_ret
  exact⟨rfl,_,rfl⟩
theorem qkk(s:ByteArray)(a:Nat)(l1:Int)(n z:Nat)(R:Int)(hs:s.size<=1048576)(h0:a<n)(h1:n<s.size)(h46:bt s n=46)(hz:n+1+z<=s.size)(H1:Hid (qe6 s (a:Nat) 10 true l1))(eL:(a:Int)+l1=(n:Int))(H2:Hid (qe6 s ((n:Int)+1) 10 true z))(hR:Hid ((z=0->R=0)/\(0<z->R=(n:Int)+1+z-a)))
 (h:z=0\/(0<z/\n+1+z=s.size)\/(0<z/\n+1+z<s.size/\isEA s (n+1+z)=false)):qki s a R:=by
 intro w
 have g0:((n:Int)==(a:Int))=false:=beq_false_of_ne (by omega)
 have gx:=get_bt s n h1
 rw[h46]at gx
 clear h46
 rcases h with h | ⟨hz0,h⟩ | ⟨hz0,h,he⟩
 ·subst h
  have HF:=zh (hR.out.1 rfl)
  go_enter Tryz.func87,Tryz.ntmps87
  go_wp2_with fail
  refine(H1.out _).mono ?_
  rintro e w' ⟨rfl,q1,rfl⟩
  go_wp2_with fail
  refine(H2.out _).mono ?_
  rintro e w' ⟨rfl,q2,rfl⟩
  go_wp2_with fail
  go_ret
  exact⟨retI HF.out.symm,_,rfl⟩
 ·have HF:=zh (hR.out.2 hz0)
  have g1:((z:Int)==0)=false:=beq_false_of_ne (by omega)
  go_enter Tryz.func87,Tryz.ntmps87
  go_wp2_with fail
  refine(H1.out _).mono ?_
  rintro e w' ⟨rfl,q1,rfl⟩
  go_wp2_with fail
  refine(H2.out _).mono ?_
  rintro e w' ⟨rfl,q2,rfl⟩
  go_wp2_with fail
  go_ret
  exact⟨retI (by have:=HF.out;omega),_,rfl⟩
 ·have HF:=zh (hR.out.2 hz0)
  have g1:((z:Int)==0)=false:=beq_false_of_ne (by omega)
  have gy:=get_bt s (n+1+z) h
  unfold isEA at he
  obtain⟨c,hc⟩: ∃c,c=bt s (n+1+z):=⟨_,rfl⟩
  rw[<-hc]at gy he
  clear hc
  rw[Bool.or_eq_false_iff]at he
  obtain⟨e1,e2⟩:=he
  go_enter Tryz.func87,Tryz.ntmps87
  go_wp2_with fail
  refine(H1.out _).mono ?_
  rintro e w' ⟨rfl,q1,rfl⟩
  go_wp2_with fail
  refine(H2.out _).mono ?_
  rintro e w' ⟨rfl,q2,rfl⟩
  go_wp2_with fail
  go_ret
  exact⟨retI (by have:=HF.out;omega),_,rfl⟩
theorem qkp{s:ByteArray}{a m:Nat}(hd: ∀i,a<=i->i<m->dg (bt s i)<10): ∀n,a+n<=m->0<=dbe s a n/\dbe s a n<10 ^ n
 | 0,_=>⟨Int.le_refl _,by show(0:Int)<10 ^ 0;decide⟩
 | n+1,h=>by
  obtain⟨h1,h2⟩:=qkp hd n (by omega)
  obtain⟨d1,d2,-⟩:=qt6 (hd (a+n) (by omega) (by omega))
  simp only[dbe]
  rw[Int.pow_succ]
  omega
theorem qj9(s:ByteArray)(a:Nat)(n l2:Int)(m:Nat)(K:Int)(R:Int)(hs:s.size<=1048576)(H1:Hid (qe6 s (a:Nat) 10 true n))(H2:Hid (qe6 s (a:Nat) 10 false l2))(eL:(a:Int)+l2=(m:Int))(h0:a<m)(h3:m<a+3)(hlt:m<s.size)(h35:bt s m=35)
 (hd:Hid (∀i,a<=i->i<m->dg (bt s i)<10)) (H3:Hid (qe6 s ((m:Int)+1) (dbe s a (m-a)) true (K- ((m:Int)+1)))) (hK:(m:Int)+1<=K) (hK':K<=s.size) (hgo:Hid (2<=dbe s a (m-a)/\dbe s a (m-a)<=36/\(m:Int)+1<K->R=K-a)) (hno:Hid (¬(2<=dbe s a (m-a)/\dbe s a (m-a)<=36/\(m:Int)+1<K)->R=n)) (w:World):
 Calls Tryz.prog 88 #[.string s,.int .i64 a] w fun e w'=>e=.returned (.int .i64 R)/\ ∃n,w'=w.drewN n:=by
 have gx:=get_bt s m hlt
 rw[h35]at gx
 clear h35
 have HG:=zh (get_bt s)
 have g0:(0:Int)<l2:=by omega
 have g3:l2<3:=by omega
 have g4:(m:Int)< (s.size:Int):=by omega
 obtain⟨B,hB⟩: ∃B,B=dbe s a (m-a):=⟨_,rfl⟩
 rw[<-hB]at H3 hgo hno
 have HB:=zh hB
 have hB0:0<=B:=by rw[hB];exact(qkp hd.out (m-a) (by omega)).1
 clear hB
 obtain⟨Z,hZ⟩: ∃Z:Int,Z=K- ((m:Int)+1):=⟨_,rfl⟩
 rw[<-hZ]at H3
 go_enter Tryz.func88,Tryz.ntmps88
 go_wp2_with fail
 refine(H1.out _).mono ?_
 rintro e w' ⟨rfl,q1,rfl⟩
 go_wp2_with fail
 refine(H2.out _).mono ?_
 rintro e w' ⟨rfl,q2,rfl⟩
 go_wp2_with fail
 go_loopg [7,8] (m-a) (fun gn v i wr=> ∃(k:Nat) (x:Int),gn=m-k/\a<=k/\k<=m/\v=.int .i64 x/\i=.int .i64 k/\0<=x/\x<100/\Hid (x=dbe s a (k-a))/\Hid (∃q,wr=w.drewN q))
 case atStart=>exact⟨a,0,rfl,zA _,by omega,rfl,rfl,Int.le_refl _,by omega,zh (by rw[Nat.sub_self];rfl),zh ⟨_,rfl⟩⟩
 case round=>
  obtain⟨k,x,hgn,hak,hk,rfl,rfl,x0,x1,HX,HW⟩:=hrel
  obtain⟨q0,rfl⟩:=HW.out
  by_cases hkm:k<m
  ·have g1:(k:Int)< (m:Int):=by omega
   have gk:=HG.out k (by omega)
   obtain⟨d1,d2,-⟩:=qt6 (hd.out k hak hkm)
   have hdb:dbe s a (k+1-a)=dbe s a (k-a)*10+(bt s k-48):=by
    rw[show k+1-a=(k-a)+1 by omega]
    simp only[dbe]
    rw[show a+(k-a)=k by omega]
   have HN:=zh (show x*10+(bt s k-48)=dbe s a (k+1-a)by rw[HX.out,hdb])
   have hb:=qkp (s:=s) (m:=m) hd.out (k+1-a) (by omega)
   have hp:(10:Int) ^ (k+1-a)<=100:=by
    have h1:=qix 10 (by omega) (k+1-a) 2 (by omega)
    have h2:(10:Int) ^ 2=100:=by decide
    omega
   have hb1:x*10+(bt s k-48)<100:=by rw[HN.out];omega
   obtain⟨c,hc⟩: ∃c,c=bt s k:=⟨_,rfl⟩
   rw[<-hc]at gk d1 d2 HN hb1
   clear hc hb hp hdb
   have wc:IntKind.u8.wrap (c-48)=c-48:=by rw[IntKind.wrap_u8];omega
   go_wp2_with fail
   go_roundg (m- (k+1))
   case measure=>omega
   case rel=>exact⟨k+1,x*10+(c-48),rfl,by omega,by omega,rfl,by go_num,by omega,hb1,HN,zh ⟨_,rfl⟩⟩
  ·obtain rfl:k=m:=by omega
   have hxB:x=B:=by rw[HX.out,HB.out]
   subst hxB
   go_wp2_with fail
   refine(H3.out _).mono ?_
   rintro e w' ⟨rfl,q1,rfl⟩
   by_cases c1:2<=x
   ·by_cases c2:x<=36
    ·by_cases c3:0<Z
     ·have HF:=zh (hgo.out ⟨c1,c2,by omega⟩)
      go_wp2_with fail
      go_ret
      exact⟨retI (by have:=HF.out;omega),_,rfl⟩
     ·have HF:=zh (hno.out (by omega))
      go_wp2_with fail
      go_ret
      exact⟨retI HF.out.symm,_,rfl⟩
    ·have HF:=zh (hno.out (by omega))
     go_wp2_with fail
     go_ret
     exact⟨retI HF.out.symm,_,rfl⟩
   ·have HF:=zh (hno.out (by omega))
    go_wp2_with fail
    go_ret
    exact⟨retI HF.out.symm,_,rfl⟩
theorem qja(s:ByteArray)(a:Nat)(n l2:Int)(m:Nat)(R:Int)(hs:s.size<=1048576)(H1:Hid (qe6 s (a:Nat) 10 true n))(H2:Hid (qe6 s (a:Nat) 10 false l2))(eL:(a:Int)+l2=(m:Int))(h:m=a\/(a<m/\a+3<=m)\/(a<m/\m<a+3/\m=s.size)\/(a<m/\m<a+3/\m<s.size/\bt s m≠35))(hR:Hid (n=R))(w:World):
 Calls Tryz.prog 88 #[.string s,.int .i64 a] w fun e w'=>e=.returned (.int .i64 R)/\ ∃n,w'=w.drewN n:=by
 rcases h with h | ⟨h0,h⟩ | ⟨h0,h1,h⟩ | ⟨h0,h1,h2,h⟩
 ·have g0: ¬(0:Int)<l2:=by omega
  go_enter Tryz.func88,Tryz.ntmps88
  go_wp2_with fail
  refine(H1.out _).mono ?_
  rintro e w' ⟨rfl,q1,rfl⟩
  go_wp2_with fail
  refine(H2.out _).mono ?_
  rintro e w' ⟨rfl,q2,rfl⟩
  go_wp2_with fail
  go_ret
  exact⟨retI hR.out,_,rfl⟩
 ·have g0:(0:Int)<l2:=by omega
  have g1: ¬l2<3:=by omega
  go_enter Tryz.func88,Tryz.ntmps88
  go_wp2_with fail
  refine(H1.out _).mono ?_
  rintro e w' ⟨rfl,q1,rfl⟩
  go_wp2_with fail
  refine(H2.out _).mono ?_
  rintro e w' ⟨rfl,q2,rfl⟩
  go_wp2_with fail
  go_ret
  exact⟨retI hR.out,_,rfl⟩
 ·have g0:(0:Int)<l2:=by omega
  have g1:l2<3:=by omega
  have g2: ¬(m:Int)< (s.size:Int):=by omega
  go_enter Tryz.func88,Tryz.ntmps88
  go_wp2_with fail
  refine(H1.out _).mono ?_
  rintro e w' ⟨rfl,q1,rfl⟩
  go_wp2_with fail
  refine(H2.out _).mono ?_
  rintro e w' ⟨rfl,q2,rfl⟩
  go_wp2_with fail
  go_ret
  exact⟨retI hR.out,_,rfl⟩
 ·have g0:(0:Int)<l2:=by omega
  have g1:l2<3:=by omega
  have g2:(m:Int)< (s.size:Int):=by omega
  have gx:=get_bt s m h2
  have g3:(bt s m==35)=false:=beq_false_of_ne h
  obtain⟨c,hc⟩: ∃c,c=bt s m:=⟨_,rfl⟩
  rw[<-hc]at gx g3
  clear hc h
  go_enter Tryz.func88,Tryz.ntmps88
  go_wp2_with fail
  refine(H1.out _).mono ?_
  rintro e w' ⟨rfl,q1,rfl⟩
  go_wp2_with fail
  refine(H2.out _).mono ?_
  rintro e w' ⟨rfl,q2,rfl⟩
  go_wp2_with fail
  go_ret
  exact⟨retI hR.out,_,rfl⟩
theorem qju(s:ByteArray)(a:Nat)(ha:a<=s.size)(hs:s.size<=1048576)(w:World):
 Calls Tryz.prog 88 #[.string s,.int .i64 a] w fun e w'=>e=.returned (.int .i64 ((whe s a:Int)-a))/\ ∃n,w'=w.drewN n:=by
 obtain⟨n,hn,hns,H1⟩:=qh8 s a 10 true ha hs (by omega)
 obtain⟨l2,hm,hms,H2⟩:=qh8 s a 10 false ha hs (by omega)
 have hmd: ∀i,a<=i->i<a+l2->dg (bt s i)<10:=fun i h1 h2=>by
  have:=ql8 s 10 a false i h1 (by omega)
  rw[qd7 (by omega)]at this
  rcases this with h | ⟨h,-⟩
  ·exact h
  ·cases h
 have hw:whe s a=if(a<a+l2/\a+l2<a+3/\a+l2<s.size/\bt s (a+l2)=35)/\2<=dbe s a l2/\dbe s a l2<=36/\a+l2+1<ru s (dbe s a l2) (a+l2+1) true (a+l2+1)then ru s (dbe s a l2) (a+l2+1) true (a+l2+1)else a+n:=by
  unfold whe;simp only;rw[hn,hm,show a+l2-a=l2 by omega]
 by_cases h:a<a+l2/\a+l2<a+3/\a+l2<s.size/\bt s (a+l2)=35
 ·obtain⟨h0,h3,hlt,h35⟩:=h
  have hd0:=(qkp hmd l2 (zA _)).1
  have H3:=qvu s (a+l2) (dbe s a l2) true hlt hs hd0
  have hg:=qjz s (dbe s a l2) (a+l2+1) true s.size (a+l2+1) (by omega)
  have hg2:=hg.2 (by omega)
  refine qj9 s a n l2 (a+l2) (ru s (dbe s a l2) (a+l2+1) true (a+l2+1):Nat) _ hs (zh H1) (zh H2) (by omega) h0 h3 hlt h35 (zh hmd) (zh (by rw[show a+l2-a=l2 by omega];exact H3)) (by omega) (by omega) (zh fun h=>?_) (zh fun h=>?_) w
  ·rw[show a+l2-a=l2 by omega]at h
   rw[hw,if_pos ⟨⟨h0,h3,hlt,h35⟩,h.1,h.2.1,by omega⟩]
  ·rw[show a+l2-a=l2 by omega]at h
   rw[hw,if_neg (by rintro⟨-,h1,h2,h3⟩;exact h ⟨h1,h2,by omega⟩)];omega
 ·refine qja s a n l2 (a+l2) _ hs (zh H1) (zh H2) (by omega) (by omega) (zh (by rw[hw,if_neg (fun h'=>h h'.1)];omega)) w
theorem qkl(s:ByteArray)(a:Nat)(l1:Int)(n z l:Nat)(R:Int)(hs:s.size<=1048576)(h0:a<n)(h1:n<s.size)(h46:bt s n=46)(hz0:0<z)(hz:n+1+z<s.size)(H1:Hid (qe6 s (a:Nat) 10 true l1))(eL:(a:Int)+l1=(n:Int))(H2:Hid (qe6 s ((n:Int)+1) 10 true z))
 (hE:isEA s (n+1+z)=true) (hl:n+1+z+2+l<=s.size+2)
 (h:(qe6 s ((n:Int)+1+z+1) 10 true l/\(n+1+z+1=s.size\/(n+1+z+1<s.size/\ ¬(bt s (n+1+z+1)=43\/bt s (n+1+z+1)=45)))/\(0<l->R=(n:Int)+1+z+1+l-a)/\(l=0->R=(n:Int)+1+z-a))\/
  (qe6 s ((n:Int)+1+z+1+1) 10 true l/\n+1+z+1<s.size/\(bt s (n+1+z+1)=43\/bt s (n+1+z+1)=45)/\(0<l->R=(n:Int)+1+z+1+1+l-a)/\(l=0->R=(n:Int)+1+z-a))):qki s a R:=by
 intro w
 have g0:((n:Int)==(a:Int))=false:=beq_false_of_ne (by omega)
 have gx:=get_bt s n h1
 rw[h46]at gx
 clear h46
 have g1:((z:Int)==0)=false:=beq_false_of_ne (by omega)
 have gy:=get_bt s (n+1+z) hz
 obtain⟨c,hc⟩: ∃c,c=bt s (n+1+z):=⟨_,rfl⟩
 have hE2:(c==101)=true\/((c==101)=false/\(c==69)=true):=by
  unfold isEA at hE
  rw[<-hc]at hE
  cases h1:(c==101)
  ·rw[h1,Bool.or_false]at hE;exact .inr ⟨rfl,hE⟩
  ·exact .inl rfl
 rw[<-hc]at gy
 clear hc hE
 rcases h with⟨H3,hs2,hR1,hR2⟩ | ⟨H3,hs2,hsg,hR1,hR2⟩
 ·have H3:=zh H3
  have hR1:=zh hR1
  have hR2:=zh hR2
  rcases hs2 with hs2 | ⟨hs2,hsg⟩
  ·rcases hE2 with e1 | ⟨e1,e2⟩
   all_goals
    by_cases hl0:0<l
    ·have HF:=zh (hR1.out hl0)
     go_enter Tryz.func87,Tryz.ntmps87
     go_wp2_with fail
     refine(H1.out _).mono ?_
     rintro e w' ⟨rfl,q1,rfl⟩
     go_wp2_with fail
     refine(H2.out _).mono ?_
     rintro e w' ⟨rfl,q2,rfl⟩
     go_wp2_with fail
     refine(H3.out _).mono ?_
     rintro e w' ⟨rfl,q3,rfl⟩
     go_wp2_with fail
     go_ret
     exact⟨retI (by have:=HF.out;omega),_,rfl⟩
    ·obtain rfl:l=0:=by omega
     have HF:=zh (hR2.out rfl)
     go_enter Tryz.func87,Tryz.ntmps87
     go_wp2_with fail
     refine(H1.out _).mono ?_
     rintro e w' ⟨rfl,q1,rfl⟩
     go_wp2_with fail
     refine(H2.out _).mono ?_
     rintro e w' ⟨rfl,q2,rfl⟩
     go_wp2_with fail
     refine(H3.out _).mono ?_
     rintro e w' ⟨rfl,q3,rfl⟩
     go_wp2_with fail
     go_ret
     exact⟨retI (by have:=HF.out;omega),_,rfl⟩
  ·have gd:=get_bt s (n+1+z+1) hs2
   have s1:(bt s (n+1+z+1)==43)=false:=beq_false_of_ne (fun h=>hsg (.inl h))
   have s2:(bt s (n+1+z+1)==45)=false:=beq_false_of_ne (fun h=>hsg (.inr h))
   obtain⟨d,hd⟩: ∃d,d=bt s (n+1+z+1):=⟨_,rfl⟩
   rw[<-hd]at gd s1 s2
   clear hd hsg
   rcases hE2 with e1 | ⟨e1,e2⟩
   all_goals
    by_cases hl0:0<l
    ·have HF:=zh (hR1.out hl0)
     go_enter Tryz.func87,Tryz.ntmps87
     go_wp2_with fail
     refine(H1.out _).mono ?_
     rintro e w' ⟨rfl,q1,rfl⟩
     go_wp2_with fail
     refine(H2.out _).mono ?_
     rintro e w' ⟨rfl,q2,rfl⟩
     go_wp2_with fail
     refine(H3.out _).mono ?_
     rintro e w' ⟨rfl,q3,rfl⟩
     go_wp2_with fail
     go_ret
     exact⟨retI (by have:=HF.out;omega),_,rfl⟩
    ·obtain rfl:l=0:=by omega
     have HF:=zh (hR2.out rfl)
     go_enter Tryz.func87,Tryz.ntmps87
     go_wp2_with fail
     refine(H1.out _).mono ?_
     rintro e w' ⟨rfl,q1,rfl⟩
     go_wp2_with fail
     refine(H2.out _).mono ?_
     rintro e w' ⟨rfl,q2,rfl⟩
     go_wp2_with fail
     refine(H3.out _).mono ?_
     rintro e w' ⟨rfl,q3,rfl⟩
     go_wp2_with fail
     go_ret
     exact⟨retI (by have:=HF.out;omega),_,rfl⟩
 ·have H3:=zh H3
  have hR1:=zh hR1
  have hR2:=zh hR2
  have gd:=get_bt s (n+1+z+1) hs2
  obtain⟨d,hd⟩: ∃d,d=bt s (n+1+z+1):=⟨_,rfl⟩
  have hS:(d==43)=true\/((d==43)=false/\(d==45)=true):=by
   rw[<-hd]at hsg
   rcases hsg with h | h
   ·rw[h];exact .inl rfl
   ·rw[h];exact .inr ⟨rfl,rfl⟩
  rw[<-hd]at gd
  clear hd hsg
  rcases hE2 with e1 | ⟨e1,e2⟩
  all_goals
   rcases hS with s1 | ⟨s1,s2⟩
   all_goals
    by_cases hl0:0<l
    ·have HF:=zh (hR1.out hl0)
     go_enter Tryz.func87,Tryz.ntmps87
     go_wp2_with fail
     refine(H1.out _).mono ?_
     rintro e w' ⟨rfl,q1,rfl⟩
     go_wp2_with fail
     refine(H2.out _).mono ?_
     rintro e w' ⟨rfl,q2,rfl⟩
     go_wp2_with fail
     refine(H3.out _).mono ?_
     rintro e w' ⟨rfl,q3,rfl⟩
     go_wp2_with fail
     go_ret
     exact⟨retI (by have:=HF.out;omega),_,rfl⟩
    ·obtain rfl:l=0:=by omega
     have HF:=zh (hR2.out rfl)
     go_enter Tryz.func87,Tryz.ntmps87
     go_wp2_with fail
     refine(H1.out _).mono ?_
     rintro e w' ⟨rfl,q1,rfl⟩
     go_wp2_with fail
     refine(H2.out _).mono ?_
     rintro e w' ⟨rfl,q2,rfl⟩
     go_wp2_with fail
     refine(H3.out _).mono ?_
     rintro e w' ⟨rfl,q3,rfl⟩
     go_wp2_with fail
     go_ret
     exact⟨retI (by have:=HF.out;omega),_,rfl⟩
end Go.Proofs.YtdhadeeajgoedaaGreat
