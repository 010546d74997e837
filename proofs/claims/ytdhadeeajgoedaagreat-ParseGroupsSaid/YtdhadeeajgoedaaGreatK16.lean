/-
  What the claims stand on: ParseX, PmGoA.
-/
import Derived.Test.YtdhadeeajgoedaaGreatK15
set_option maxRecDepth 100000
set_option maxHeartbeats 4000000
set_option linter.unusedVariables false
set_option linter.unusedSimpArgs false
open List renaming length_set→zA,replicate→zB
namespace Go.Proofs.YtdhadeeajgoedaaGreat
open Go.RowKit Go.PlainAid
def qbf(E:Env)(R:Cmd->Ps->Option Out):Cmd->Ps->Option Out
 | .expr level,p=>
  if decide (level<=0)&&E.word p [99,97,116,99,104]then
   (R (.expr 0) (E.take p).2).bind fun r=>some { x:=nkt 13 ⟨#[99,97,116,99,104]⟩ [r.x],p:=r.p }
  else
   (R .operand p).bind fun r=>R (.exprL level r.x r.h) r.p
 | .exprL level left has,p=>
  if p.bad then some { x:=left,p:=p } else
  if((E.at_ p).1 !=9&&(E.at_ p).1 !=8)||(bn (E.at_ p).2.1.toList:Int)==0||decide ((bn (E.at_ p).2.1.toList:Int)<level)||decide (has< (lf (E.at_ p).2.1.toList:Int))then some { x:=left,p:=p } else
  (R (.expr (rt (E.at_ p).2.1.toList:Int)) (E.take p).2).bind fun r=>R (.exprL level (nkt 14 (E.at_ p).2.1 [left,r.x]) (bn (E.at_ p).2.1.toList:Int)) r.p
 | .operand,p=>
  if((E.at_ p).1==9||(E.at_ p).1==8)&&decide (0<pf (E.at_ p).2.1.toList)then
   (R .operand (E.take p).2).bind fun r=>some { x:=nkt 13 (E.at_ p).2.1 [r.x],h:=10,p:=r.p }
  else
   (R .primary p).bind fun r=>(R (.follow r.x (E.sign p [40])) r.p).bind fun r2=>some { x:=r2.x,h:=11,p:=r2.p }
 | .primary,p=>
  if ltk (E.at_ p).1 then some { x:=nkt 1 (E.text p true).1 [],p:=(E.text p true).2 }
  else if E.sign p [40]then
   (R (.expr 0) (E.take p).2).bind fun r=>some { x:=r.x,p:=(E.want r.p 9 [41]).2 }
  else if E.sign p [123]then R (.box (nk 4 []) [123] [125] 0) p
  else if E.sign p [91]then R .list p
  else if E.sign p [60,60]then R (.box (nk 6 []) [60,60] [62,62] 0) p
  else if E.sign p [35]then R (.hash []) (E.take p).2
  else if E.word p [102,117,110]then R .func p
  else if E.word p [99,97,115,101]then
   (R (.expr 0) (E.take p).2).bind fun r=>(R .clauses (E.want r.p 8 [111,102]).2).bind fun r2=>some (qau E (nk 18 (r.x::r2.xs)) r2.p)
  else if E.word p [105,102]then
   (R .ifs (E.take p).2).bind fun r=>some (qau E (nk 19 r.xs) r.p)
  else if E.word p [114,101,99,101,105,118,101]then R .receive p
  else if E.word p [98,101,103,105,110]then
   (R .body (E.take p).2).bind fun r=>some (qau E (nk 21 [r.x]) r.p)
  else some { p:=p.wrong }
 | .follow x paren,p=>
  if p.bad||!(paren||bare x)then some { x:=x,p:=p } else
  if E.sign p [40]then
   (R (.box (nk 2 [x]) [40] [41] 0) p).bind fun r=>R (.follow r.x false) r.p
  else if E.sign p [58]&&(paren||x.kd==1)then
   if E.sign (E.take p).2 [40]then
    (R (.expr 0) (E.take (E.take p).2).2).bind fun r=>R (.follow (nk 3 [x,r.x]) false) (E.want r.p 9 [41]).2
   else
    R (.follow (nk 3 [x,nkt 1 (E.text (E.take p).2 (nmk (E.at_ (E.take p).2).1)).1 []]) false) (E.text (E.take p).2 (nmk (E.at_ (E.take p).2).1)).2
  else if E.sign p [35]then
   (R (.hash [x]) (E.take p).2).bind fun r=>R (.follow r.x false) r.p
  else some { x:=x,p:=p }
 | .box n o c level,p=>
  R (.boxL (n.brk' (E.broken (E.want p 9 o).2 (E.want p 9 o).1)) (E.notes (E.want p 9 o).2).1 c level) (E.notes (E.want p 9 o).2).2
 | .boxL n notes c level,p=>
  if E.sign p c||p.bad then some { x:=n.tail' notes,p:=(E.want p 9 c).2 } else
  (R (.item n.kd level) p).bind fun r=>
  if !E.sign r.p [44]then some { x:=(n.add [r.x.notes' notes]).tail' (E.notes r.p).1,p:=(E.want (E.notes r.p).2 9 c).2 }
  else R (.boxL (n.add [r.x.notes' notes]) (E.notes (E.take r.p).2).1 c level) (if E.sign (E.notes (E.take r.p).2).2 c then(E.notes (E.take r.p).2).2.wrong else(E.notes (E.take r.p).2).2)
 | .item kind level,p=>
  if kind==6 then R .segment p else
  (R (.expr level) p).bind fun r=>
  if(kind==8||kind==9)&&(E.sign r.p [61,62]||E.sign r.p [58,61])then
   (R (.expr level) (E.take r.p).2).bind fun r2=>some { x:=nkt 14 (E.at_ r.p).2.1 [r.x,r2.x],p:=r2.p }
  else some r
 | .segment,p=>
  (if E.sign p [40]then
      (R (.expr 0) (E.take p).2).bind fun r=>some { x:=r.x,p:=(E.want r.p 9 [41]).2 }
   else if E.sign p [60,60]then R (.box (nk 6 []) [60,60] [62,62] 0) p
   else some { x:=nkt 1 (E.text p (ltk (E.at_ p).1)).1 [],p:=(E.text p (ltk (E.at_ p).1)).2 }).bind fun a=>
  let b:ByteArray×Ps:=if E.sign a.p [58]then
      let p1:=(E.take a.p).2
      let q:=E.text p1 (szk (E.at_ p1).1)
      (⟨#[58]⟩++q.1,q.2)
   else(⟨#[]⟩,a.p)
  let c:ByteArray×Ps:=if E.sign b.2 [47]then
      let p1:=(E.take b.2).2
      let q:=E.text p1 ((E.at_ p1).1==1)
      segT E (E.to+2) (b.1++⟨#[47]⟩++q.1) q.2
   else b
  some (if c.1.toList==[]then { x:=a.x,p:=c.2 } else { x:=nkt 7 c.1 [a.x],p:=c.2 })
 | .list,p=>
  R (.listL ((nk 5 []).brk' (E.broken (E.want p 9 [91]).2 (E.want p 9 [91]).1)) (E.notes (E.want p 9 [91]).2).1) (E.notes (E.want p 9 [91]).2).2
 | .listL n notes,p=>
  if E.sign p [93]||p.bad then some { x:=n.tail' notes,p:=(E.want p 9 [93]).2 } else
  (R (.expr 3) p).bind fun r=>
  if n.ls.isEmpty&&notes.isEmpty&&E.sign r.p [124,124]then R (.comp r.x (match n with | .mk _ _ _ br _ _ _=>br)) r.p else
  if E.sign r.p [124]then
   (R (.expr 3) (E.take r.p).2).bind fun r2=>some { x:=(((n.add [r.x.notes' notes]).add [r2.x]).txt' ⟨#[124]⟩).tail' (E.notes r2.p).1,p:=(E.want (E.notes r2.p).2 9 [93]).2 }
  else if !E.sign r.p [44]then some { x:=(n.add [r.x.notes' notes]).tail' (E.notes r.p).1,p:=(E.want (E.notes r.p).2 9 [93]).2 }
  else R (.listL (n.add [r.x.notes' notes]) (E.notes (E.take r.p).2).1) (if E.sign (E.notes (E.take r.p).2).2 [93]then(E.notes (E.take r.p).2).2.wrong else(E.notes (E.take r.p).2).2)
 | .comp x broken,p=>R (.compL ((nk 15 [x]).brk' broken)) (E.want p 9 [124,124]).2
 | .compL n,p=>
  if p.bad then some { x:=n,p:=(E.want p 9 [93]).2 } else
  (R (.expr 3) p).bind fun r=>
  (if E.sign r.p [60,45]||E.sign r.p [60,61]then
      (R (.expr 3) (E.take r.p).2).bind fun r3=>some { x:=nkt 14 (E.at_ r.p).2.1 [r.x,r3.x],p:=r3.p }
   else some r).bind fun r2=>
  if !E.sign r2.p [44]then some { x:=n.add [r2.x],p:=(E.want r2.p 9 [93]).2 }
  else R (.compL (n.add [r2.x])) (E.take r2.p).2
 | .hash of,p=>
  if E.sign p [123]then
   if of.isEmpty then R (.box (nk 8 []) [123] [125] 1) p else R (.box (nk 9 of) [123] [125] 1) p
  else
   if !of.isEmpty&&E.sign (E.text p (nmk (E.at_ p).1)).2 [46]then
    let p1:=(E.take (E.text p (nmk (E.at_ p).1)).2).2
    let q2:=E.text p1 ((E.at_ p1).1==1)
    some { x:=nkt 12 ((E.text p (nmk (E.at_ p).1)).1++⟨#[46]⟩++q2.1) of,p:=q2.2 }
   else if of.isEmpty then R (.box (nkt 10 (E.text p (nmk (E.at_ p).1)).1 []) [123] [125] 0) (E.text p (nmk (E.at_ p).1)).2
   else R (.box (nkt 11 (E.text p (nmk (E.at_ p).1)).1 of) [123] [125] 0) (E.text p (nmk (E.at_ p).1)).2
 | .func,p=>
  if !E.sign (E.take p).2 [40]then
   let q:=E.text (E.take p).2 (nmk (E.at_ (E.take p).2).1)
   let q2:ByteArray×Ps:=if E.sign q.2 [58]then
       let p2:=(E.take q.2).2
       let q3:=E.text p2 (nmk (E.at_ p2).1)
       (q.1++⟨#[58]⟩++q3.1,q3.2)
    else q
   let p3:=(E.want q2.2 9 [47]).2
   let q4:=E.text p3 (szk (E.at_ p3).1)
   some { x:=nkt 16 (q2.1++⟨#[47]⟩++q4.1) [],p:=q4.2 }
  else R (.funcL (nk 17 [])) (E.take p).2
 | .funcL n,p=>
  if p.bad then some (qau E n p)else
  (R (.head ⟨#[]⟩) (if n.ls.isEmpty then([],p)else E.notes p).2).bind fun r=>
  if !E.sign r.p [59]then some (qau E (n.add [r.x.notes' (if n.ls.isEmpty then([],p)else E.notes p).1]) r.p)
  else R (.funcL (n.add [r.x.notes' (if n.ls.isEmpty then([],p)else E.notes p).1])) (E.take r.p).2
 | .head s,p=>
  (R (.box (nk 23 []) [40] [41] 0) p).bind fun r=>R (.rest (nkt 22 s [r.x])) r.p
 | .rest c,p=>
  if E.word p [119,104,101,110]then
   (R .guard (E.take p).2).bind fun r=>R (.arrow c r.x) r.p
  else R (.arrow c (nk 24 [])) p
 | .arrow c g,p=>
  (R .body (E.want p 9 [45,62]).2).bind fun r=>some { x:=(c.brk' (E.broken (E.want p 9 [45,62]).2 (E.want p 9 [45,62]).1)).add [g,r.x],p:=r.p }
 | .guard,p=>R (.guardL (nk 24 [])) p
 | .guardL g,p=>
  if p.bad then some { x:=g,p:=p } else
  (R (.expr 1) p).bind fun r=>(R (.guardB (nk 25 [r.x])) r.p).bind fun r2=>
  if !E.sign r2.p [59]then some { x:=g.add [r2.x],p:=r2.p }
  else R (.guardL (g.add [r2.x])) (E.take r2.p).2
 | .guardB b,p=>
  if E.sign p [44]then
   (R (.expr 1) (E.take p).2).bind fun r=>R (.guardB (b.add [r.x])) r.p
  else some { x:=b,p:=p }
 | .body,p=>R (.bodyL (nk 25 [])) p
 | .bodyL b,p=>
  if p.bad then some { x:=b,p:=p } else
  (R (.expr 0) (E.notes p).2).bind fun r=>
  if !E.sign r.p [44]then some { x:=b.add [(r.x.notes' (E.notes p).1).blk' (!b.ls.isEmpty&&!(E.notes p).2.bad&&decide (2<=E.nl (p.i:Int)))],p:=r.p }
  else R (.bodyL (b.add [(r.x.notes' (E.notes p).1).blk' (!b.ls.isEmpty&&!(E.notes p).2.bad&&decide (2<=E.nl (p.i:Int)))])) (E.take r.p).2
 | .clauses,p=>R (.clausesL []) p
 | .clausesL out,p=>
  if p.bad then some { xs:=out,p:=p } else
  (R (.expr 1) (E.notes p).2).bind fun r=>(R (.rest (nk 22 [nk 23 [r.x]])) r.p).bind fun r2=>
  if !E.sign r2.p [59]then some { xs:=out++[r2.x.notes' (E.notes p).1],p:=r2.p }
  else R (.clausesL (out++[r2.x.notes' (E.notes p).1])) (E.take r2.p).2
 | .ifs,p=>R (.ifsL []) p
 | .ifsL out,p=>
  if p.bad then some { xs:=out,p:=p } else
  (R .guard (E.notes p).2).bind fun g=>(R (.arrow (nk 22 [nk 23 []]) g.x) g.p).bind fun r=>
  if !E.sign r.p [59]then some { xs:=out++[r.x.notes' (E.notes p).1],p:=r.p }
  else R (.ifsL (out++[r.x.notes' (E.notes p).1])) (E.take r.p).2
 | .receive,p=>
  (if !E.word (E.take p).2 [97,102,116,101,114]then R .clauses (E.take p).2 else some { p:=(E.take p).2 }).bind fun r=>
  if E.word r.p [97,102,116,101,114]then
   (R (.expr 1) (E.take (E.notes r.p).2).2).bind fun r2=>(R (.arrow (nk 22 [nk 23 [r2.x]]) (nk 24 [])) r2.p).bind fun r3=>
   some (qau E (nkt 20 ⟨#[97,102,116,101,114]⟩ (r.xs++[r3.x.notes' (E.notes r.p).1])) r3.p)
  else some (qau E (nk 20 r.xs) r.p)
def runX(E:Env):Nat->Cmd->Ps->Option Out
 | 0,_,_=>none
 | n+1,c,p=>qbf E (runX E n) c p
def Goes(E:Env)(σ τ:PM):Prop:= ∃m,∀f,mach E (m+f) σ=mach E f τ
def Dies(E:Env)(σ:PM):Prop:= ∃m,∀f,mach E (m+f) σ=.error .die
section
variable{E:Env}{σ τ υ:PM}
theorem Goes.refl(E:Env)(σ:PM):Goes E σ σ:=⟨0,fun f=>by rw[Nat.zero_add]⟩
theorem Goes.trans(h:Goes E σ τ)(k:Goes E τ υ):Goes E σ υ:=by
 obtain⟨m,h⟩:=h
 obtain⟨n,k⟩:=k
 exact⟨m+n,fun f=>by rw[Nat.add_assoc,h,k]⟩
theorem Goes.dies(h:Goes E σ τ)(k:Dies E τ):Dies E σ:=by
 obtain⟨m,h⟩:=h
 obtain⟨n,k⟩:=k
 exact⟨m+n,fun f=>by rw[Nat.add_assoc,h,k]⟩
theorem qcy{i:Nat}{s:Stp}{K:List Stp}{u:Option Nat}{N:List (Option Nd)}{C:List Chn}{τ:PM}(h:stp E s ⟨i,K,u,N,C⟩=.ok τ):Goes E ⟨i,s::K,u,N,C⟩ τ:=
 ⟨1,fun f=>by
  rw[Nat.add_comm]
  show(stp E s ⟨i,K,u,N,C⟩ >>= fun τ=>mach E f τ)=_
  rw[h];rfl⟩
theorem qea{i:Nat}{s:Stp}{K:List Stp}{u:Option Nat}{N:List (Option Nd)}{C:List Chn}(h:stp E s ⟨i,K,u,N,C⟩=.error .die):Dies E ⟨i,s::K,u,N,C⟩:=
 ⟨1,fun f=>by
  rw[Nat.add_comm]
  show(stp E s ⟨i,K,u,N,C⟩ >>= fun τ=>mach E f τ)=_
  rw[h];rfl⟩
end
def FrL{α:Type}(b:Nat)(L M:List α):Prop:=L.length<=M.length/\ ∀n,n<b->M[n]?=L[n]?
section
variable{α:Type}{b b':Nat}{L M R:List α}
theorem FrL.refl(b:Nat)(L:List α):FrL b L L:=⟨Nat.le_refl _,fun _ _=>rfl⟩
theorem FrL.trans(h:FrL b L M)(k:FrL b M R):FrL b L R:=⟨Nat.le_trans h.1 k.1,fun n hn=>(k.2 n hn).trans (h.2 n hn)⟩
theorem FrL.mono(h:FrL b L M)(hb:b'<=b):FrL b' L M:=⟨h.1,fun n hn=>h.2 n (Nat.lt_of_lt_of_le hn hb)⟩
theorem FrL.app(hb:b<=L.length)(R:List α):FrL b L (L++R):=⟨by rw[List.length_append];omega,fun n hn=>List.getElem?_append_left (by omega)⟩
theorem FrL.set{n:Nat}(hb:b<=n)(x:α):FrL b L (L.set n x):=⟨(by rw[zA];exact Nat.le_refl _),fun m hm=>List.getElem?_set_ne (by omega)⟩
theorem FrL.at(h:FrL b L M){n:Nat}(hn:n<b){x:α}(hx:L[n]?=some x):M[n]?=some x:=(h.2 n hn).trans hx
end
structure Fr (b c:Nat) (σ τ:PM):Prop where
 N:FrL b σ.N τ.N
 C:FrL c σ.C τ.C
section
variable{E:Env}{b c b' c':Nat}{σ τ υ:PM}{Q R:PM->Prop}{bad:Bool}
theorem Fr.refl(b c:Nat)(σ:PM):Fr b c σ σ:=⟨FrL.refl _ _,FrL.refl _ _⟩
theorem Fr.trans(h:Fr b c σ τ)(k:Fr b c τ υ):Fr b c σ υ:=⟨h.N.trans k.N,h.C.trans k.C⟩
theorem Fr.mono(h:Fr b c σ τ)(hb:b'<=b)(hc:c'<=c):Fr b' c' σ τ:=⟨h.N.mono hb,h.C.mono hc⟩
def Ends(E:Env)(bad:Bool)(b c:Nat)(σ:PM)(Q:PM->Prop):Prop:=(bad=true->Dies E σ)/\(bad=false-> ∃τ,Goes E σ τ/\Fr b c σ τ/\Q τ)
theorem Ends.goes(hg:Goes E σ τ)(hf:Fr b c σ τ)(h:Ends E bad b c τ Q):Ends E bad b c σ Q:=
 ⟨fun e=>hg.dies (h.1 e),fun e=>by
  obtain⟨υ,g,f,q⟩:=h.2 e
  exact⟨υ,hg.trans g,hf.trans f,q⟩⟩
theorem Ends.die(hd:Dies E σ)(hb:bad=true):Ends E bad b c σ Q:=⟨fun _=>hd,fun e=>(by rw[hb]at e;cases e)⟩
theorem Ends.here(hb:bad=false)(hq:Q σ):Ends E bad b c σ Q:=⟨fun e=>(by rw[hb]at e;cases e),fun _=>⟨σ,Goes.refl _ _,Fr.refl _ _ _,hq⟩⟩
theorem Ends.mono(h:Ends E bad b c σ Q)(hb:b'<=b)(hc:c'<=c)(hq: ∀τ,bad=false->Fr b c σ τ->Q τ->R τ):Ends E bad b' c' σ R:=
 ⟨h.1,fun e=>by
  obtain⟨υ,g,f,q⟩:=h.2 e
  exact⟨υ,g,f.mono hb hc,hq υ e f q⟩⟩
theorem Ends.bind{bad1:Bool}(h:Ends E bad1 b' c' σ R)(hb:b<=b')(hc:c<=c')(hbad:bad1=true->bad=true)(hg:bad1=false-> ∀τ,Fr b' c' σ τ->R τ->Ends E bad b c τ Q):Ends E bad b c σ Q:=by
 cases e:bad1
 ·obtain⟨τ,g,f,q⟩:=h.2 e
  exact(hg e τ f q).goes g (f.mono hb hc)
 ·exact Ends.die (h.1 e) (hbad e)
end
section
variable{E:Env}{i j:Nat}{k:Int}{s:Bs}
theorem qqn(h:(E.at_ (pz i)).1≠0):E.pk i<E.to:=by
 unfold Env.at_ at h
 split at h
 ·rename_i h1;exact h1.1
 ·exact absurd rfl h
theorem pz_lt(h:E.pk i<E.to)(h2:E.pk i=i):i<E.to/\(E.tk i).1≠11:=by
 have h3:i<E.to:=by rw[h2]at h;exact h
 refine⟨h3,fun e=>?_⟩
 rw[qes h3 e]at h2
 have:=qit E (i:=i+1) (by omega)
 omega
theorem qi4(h:E.pk i<E.to)(h2:E.pk i=i):E.take (pz i)=(i,pz (i+1)):=by
 obtain⟨h3,h4⟩:=pz_lt h h2
 unfold Env.take pz
 simp[h4,show¬E.to<=i by omega]
theorem qi3(h2:E.pk i≠i):(E.take (pz i)).2.bad=true:=by
 unfold Env.take pz
 by_cases h3:E.to<=i\/(E.tk i).1≠11
 ·exact absurd (qdh h3) h2
 ·have h4:(E.tk i).1=11:=by
   by_cases e:(E.tk i).1=11
   ·exact e
   ·exact absurd (.inr e) h3
  simp[h4,Ps.wrong]
theorem qcs{p:Ps}(h:p.bad=true):(E.take p).2.bad=true:=by
 unfold Env.take;simp[h,Ps.wrong]
theorem qbg{p:Ps}(h:p.bad=true):(E.want p k s).2.bad=true:=by
 unfold Env.want;split
 ·exact qcs h
 ·exact qcs rfl
theorem qbz{p:Ps}(b:Bool)(h:p.bad=true):(E.text p b).2.bad=true:=by
 unfold Env.text;cases b
 ·exact qcs rfl
 ·exact qcs h
theorem qbt{p:Ps}(h:p.bad=true):(E.notes p).2.bad=true:=h
theorem qbl{p:Ps}(h:p.bad=true)(hk:k≠0):E.is p k s=false:=by
 unfold Env.is Env.at_
 rw[if_neg (fun e=>by rw[h]at e;cases e.2)]
 simp[tk0,Ne.symm hk]
theorem qco{n:Nd}{p:Ps}(h:p.bad=true):(qau E n p).p.bad=true:=qbg (qbt h)
theorem qf5(h:E.is (pz i) k s=true):(E.at_ (pz i)).1=k/\(E.at_ (pz i)).2.1.toList=s:=by
 unfold Env.is at h
 simp only[Bool.and_eq_true,beq_iff_eq]at h
 exact h
theorem qtn(hk:k≠0)(h:sgE E k s i=.ok (true,j)):E.is (pz i) k s=true/\E.take (pz i)=(i,pz j)/\j=i+1/\E.at_ (pz i)=E.tk i/\i<E.to:=by
 unfold sgE at h
 split at h
 ·rename_i h1
  have h2:=qqn (by rw[(qf5 h1).1];exact hk)
  unfold tkE at h
  split at h
  ·rename_i h3
   cases h
   exact⟨h1,qi4 h2 h3,rfl,by rw[qeh h2 rfl];show E.tk (E.pk i)=_;rw[h3],by omega⟩
  ·cases h
 ·cases h
theorem sg_no(h:sgE E k s i=.ok (false,j)):E.is (pz i) k s=false/\j=i:=by
 unfold sgE at h
 split at h
 ·unfold tkE at h
  split at h<;>cases h
 ·rename_i h1
  cases h
  exact⟨by simpa using h1,rfl⟩
theorem sg_die{e:Bad}(h:sgE E k s i=.error e):e=.die/\E.is (pz i) k s=true/\(E.take (pz i)).2.bad=true:=by
 unfold sgE at h
 split at h
 ·rename_i h1
  unfold tkE at h
  split at h
  ·cases h
  ·rename_i h2
   cases h
   exact⟨rfl,h1,qi3 h2⟩
 ·cases h
theorem qbo(E:Env)(k:Int)(s:Bs)(i:Nat)(hk:k≠0):(sgE E k s i=.ok (true,i+1)/\E.is (pz i) k s=true/\E.take (pz i)=(i,pz (i+1))/\E.at_ (pz i)=E.tk i/\i<E.to)\/(sgE E k s i=.ok (false,i)/\E.is (pz i) k s=false)\/(sgE E k s i=.error .die/\E.is (pz i) k s=true/\(E.take (pz i)).2.bad=true):=by
 rcases h:sgE E k s i with e | ⟨b,j⟩
 ·obtain⟨rfl,h1,h2⟩:=sg_die h
  exact .inr (.inr ⟨rfl,h1,h2⟩)
 ·cases b
  ·obtain⟨h1,rfl⟩:=sg_no h
   exact .inr (.inl ⟨rfl,h1⟩)
  ·obtain⟨h1,h2,rfl,h3,h4⟩:=qtn hk h
   exact .inl ⟨rfl,h1,h2,h3,h4⟩
theorem qb9(E:Env)(k:Int)(s:Bs)(i:Nat)(hk:k≠0):(msE E k s i=.ok (i+1)/\E.want (pz i) k s=(i,pz (i+1))/\E.is (pz i) k s=true/\E.take (pz i)=(i,pz (i+1))/\i<E.to)\/(msE E k s i=.error .die/\(E.want (pz i) k s).2.bad=true/\(E.is (pz i) k s=true->(E.take (pz i)).2.bad=true)):=by
 rcases qbo E k s i hk with⟨h1,h2,h3,h4,h5⟩ | ⟨h1,h2⟩ | ⟨h1,h2,h3⟩
 ·exact .inl ⟨by unfold msE;rw[h1];rfl,by unfold Env.want;rw[if_pos h2,h3],h2,h3,h5⟩
 ·exact .inr ⟨by unfold msE;rw[h1];rfl,by unfold Env.want;rw[h2];exact qcs rfl,fun e=>by rw[h2]at e;cases e⟩
 ·exact .inr ⟨by unfold msE;rw[h1];rfl,by unfold Env.want;rw[if_pos h2];exact h3,fun _=>h3⟩
theorem qcd(E:Env)(f:Int->Bool)(i:Nat)(h0:f 0=false):(txE E f i=.ok ((E.tk i).2.1,i+1)/\E.text (pz i) (f (E.at_ (pz i)).1)=((E.tk i).2.1,pz (i+1))/\f (E.at_ (pz i)).1=true/\E.at_ (pz i)=E.tk i/\i<E.to)\/(txE E f i=.error .die/\(E.text (pz i) (f (E.at_ (pz i)).1)).2.bad=true):=by
 unfold txE nxE
 by_cases hf:f (E.at_ (pz i)).1=true
 ·have h2:=qqn (i:=i) (E:=E) (fun e=>by rw[e,h0]at hf;cases hf)
  rw[if_pos hf]
  unfold tkE
  by_cases h3:E.pk i=i
  ·refine .inl ⟨?_,?_,hf,?_,by omega⟩
   ·rw[if_pos h3,qeh h2 rfl];show Except.ok (((E.tk (E.pk i)).2.1),i+1)=_;rw[h3]
   ·unfold Env.text;rw[hf,if_pos rfl,qi4 h2 h3];rfl
   ·rw[qeh h2 rfl];show E.tk (E.pk i)=_;rw[h3]
  ·refine .inr ⟨by rw[if_neg h3];rfl,?_⟩
   unfold Env.text;rw[hf,if_pos rfl];exact qi3 h3
 ·refine .inr ⟨by rw[if_neg hf],?_⟩
  rw[show f (E.at_ (pz i)).1=false by simpa using hf]
  exact qcs rfl
theorem qmr(i k:Nat):E.broken (pz i) k=decide (0<E.nl ((k+1:Nat):Int)):=by
 unfold Env.broken pz
 simp
end
theorem qiu(E:Env): ∀n i,E.to-i=n-> ∀k,i<=k->k<E.pk i->(E.tk k).1=11
 | 0,i,hn,k,h1,h2=>by
  have:=ql0 E (E.to-i) i
  unfold Env.pk at h2
  omega
 | n+1,i,hn,k,h1,h2=>by
  by_cases hc:(E.tk i).1=11
  ·by_cases hk:k=i
   ·rw[hk];exact hc
   ·rw[qes (by omega) hc]at h2
    exact qiu E n (i+1) (by omega) k (by omega) h2
  ·rw[qdh (.inr hc)]at h2
   omega
theorem qrz(E:Env)(i:Nat): ∀p,i<=p->p<=E.to->(∀k,i<=k->k<p->(E.tk k).1=11)->E.pk p=E.pk i:=by
 intro p
 induction p with
 | zero=>intro h _ _;obtain rfl:i=0:=by omega
         rfl
 | succ p ih=>
  intro h1 h2 h3
  by_cases he:i=p+1
  ·rw[he]
  ·rw[<-ih (by omega) (by omega) (fun k a b=>h3 k a (by omega)),qes (i:=p) (by omega) (h3 p (by omega) (by omega))]
def Nd.nof:Nd->List ByteArray | .mk _ _ _ _ _ no _=>no
def EndsR(E:Env)(bad:Bool)(b c:Nat)(σ:PM)(Q:PM->Prop)(r:Rs PM):Prop:=(∃τ,r=.ok τ/\Fr b c σ τ/\Ends E bad b c τ Q)\/(r=.error .die/\bad=true)
def An(K:List Stp)(b:Nat)(x:Nd)(i:Nat)(τ:PM):Prop:= ∃j N C,τ=⟨i,K,some j,N,C⟩/\b<=j/\N[j]?=some (some x)/\x.nof=[]
def At(K:List Stp)(n:Nat)(x:Nd)(i:Nat)(τ:PM):Prop:= ∃N C,τ=⟨i,K,some n,N,C⟩/\N[n]?=some (some x)
section
variable{E:Env}{b c:Nat}{i j n:Nat}{s:Stp}{K:List Stp}{u:Option Nat}{N:List (Option Nd)}{C:List Chn}{x y:Nd}{Q:PM->Prop}{bad:Bool}
theorem Ends.step(h:EndsR E bad b c ⟨i,s::K,u,N,C⟩ Q (stp E s ⟨i,K,u,N,C⟩)):Ends E bad b c ⟨i,s::K,u,N,C⟩ Q:=by
 rcases h with⟨τ,h1,h2,h3⟩ | ⟨h1,h2⟩
 ·exact h3.goes (qcy h1) h2
 ·exact Ends.die (qea h1) h2
theorem EndsR.re{i':Nat}{k k':List Stp}{u':Option Nat}{r:Rs PM}(h:EndsR E bad b c ⟨i',k',u',N,C⟩ Q r):EndsR E bad b c ⟨i,k,u,N,C⟩ Q r:=by
 rcases h with⟨τ,h1,h2,h3⟩ | h
 ·exact .inl ⟨τ,h1,⟨h2.N,h2.C⟩,h3⟩
 ·exact .inr h
theorem pz_i(i:Nat):(pz i).i=i:=rfl
theorem qeo{k:List Stp}(h:N[n]?=some (some x)):(⟨i,k,u,N,C⟩:PM).nd n=.ok x:=by
 unfold PM.nd;rw[show(⟨i,k,u,N,C⟩:PM).N=N from rfl,h]
theorem qdc{k:List Stp}(h:N[j]?=some (some x)):(⟨i,k,some j,N,C⟩:PM).cur=.ok (j,x):=by
 unfold PM.cur
 show((⟨i,k,some j,N,C⟩:PM).nd j).map (fun x=>(j,x))=_
 rw[qeo h];rfl
theorem qad{α:Type}{L:List α}{n:Nat}{x:α}(h:L[n]?=some x):n<L.length:=(List.getElem?_eq_some_iff.1 h).1
theorem qb3{α:Type}{L:List α}{n:Nat}{x:α}(y:α)(h:L[n]?=some x):(L.set n y)[n]?=some y:=List.getElem?_set_self (qad h)
theorem qak{α:Type}(L:List α)(y:α):(L++[y])[L.length]?=some y:=by
 rw[List.getElem?_append_right (Nat.le_refl _),Nat.sub_self];rfl
theorem frN{k k':List Stp}{i':Nat}{u':Option Nat}{M:List (Option Nd)}(h:FrL b N M):Fr b c ⟨i,k,u,N,C⟩ ⟨i',k',u',M,C⟩:=⟨h,FrL.refl _ _⟩
theorem frC{k k':List Stp}{i':Nat}{u':Option Nat}{D:List Chn}(h:FrL c C D):Fr b c ⟨i,k,u,N,C⟩ ⟨i',k',u',N,D⟩:=⟨FrL.refl _ _,h⟩
theorem frNC{k k':List Stp}{i':Nat}{u':Option Nat}{M:List (Option Nd)}{D:List Chn}(h:FrL b N M)(g:FrL c C D):Fr b c ⟨i,k,u,N,C⟩ ⟨i',k',u',M,D⟩:=⟨h,g⟩
theorem qfq{k:Int}{t:Bs}(hk:k≠0)(h1:(E.want (pz i) k t).2.bad=true->bad=true)(h2:E.want (pz i) k t=(i,pz (i+1))->Ends E bad b c ⟨i+1,K,u,N,C⟩ Q):Ends E bad b c ⟨i,.want k t::K,u,N,C⟩ Q:=by
 refine Ends.step ?_
 rcases qb9 E k t i hk with⟨m1,m2,-,-,-⟩ | ⟨m1,m2,-⟩
 ·refine .inl ⟨⟨i+1,K,u,N,C⟩,?_,frN (FrL.refl _ _),h2 m2⟩
  show(msE E k t i >>= fun j=>_)=_
  rw[m1];rfl
 ·refine .inr ⟨?_,h1 m2⟩
  show(msE E k t i >>= fun j=>_)=_
  rw[m1];rfl
theorem qao(hx:N[j]?=some (some x))(hy:N[n]?=some (some y))(hne:j≠n)(hbj:b<=j)(hbn:b<=n)(h:Ends E bad b c ⟨i,K,some n,(N.set j none).set n (some (y.add [x])),C⟩ Q):Ends E bad b c ⟨i,.into n::K,some j,N,C⟩ Q:=by
 refine Ends.step (.inl ⟨_,?_,frN ((FrL.set hbj none).trans (FrL.set hbn _)),h⟩)
 show((⟨i,K,some j,N,C⟩:PM).cur >>= fun x=>_)=_
 rw[qdc hx]
 show((⟨i,K,some j,N,C⟩:PM).nd n >>= fun y=>_)=_
 rw[qeo hy]
 show(if j=n then _ else _)=_
 rw[if_neg hne];rfl
theorem qb5(hy:N[n]?=some (some y)):((N.set j none).set n (some (y.add [x])))[n]?=some (some (y.add [x])):=
 List.getElem?_set_self (by rw[zA];exact qad hy)
theorem qcq{T:List ByteArray}(hx:N[j]?=some (some x))(hbj:b<=j)(h:Ends E bad b c ⟨i,K,some j,N.set j (some (x.notes' T)),C⟩ Q):Ends E bad b c ⟨i,.nots T::K,some j,N,C⟩ Q:=by
 refine Ends.step (.inl ⟨_,?_,frN (FrL.set hbj _),h⟩)
 show((⟨i,K,some j,N,C⟩:PM).cur >>= fun x=>_)=_
 rw[qdc hx];rfl
theorem qn1{t:Bool}(hx:N[j]?=some (some x))(hbj:b<=j)(h:Ends E bad b c ⟨i,K,some j,N.set j (some (x.blk' t)),C⟩ Q):Ends E bad b c ⟨i,.blnk t::K,some j,N,C⟩ Q:=by
 refine Ends.step (.inl ⟨_,?_,frN (FrL.set hbj _),h⟩)
 show((⟨i,K,some j,N,C⟩:PM).cur >>= fun x=>_)=_
 rw[qdc hx];rfl
theorem qe4{k:Int}{t:Bs}(hk:k≠0)(hx:N[n]?=some (some x)):(qcm E n k t ⟨i,K,u,N,C⟩=.ok ⟨(ntE E i).2+1,K,some n,N.set n (some (x.tail' (ntE E i).1)),C⟩/\E.want (pz (ntE E i).2) k t=((ntE E i).2,pz ((ntE E i).2+1)))\/(qcm E n k t ⟨i,K,u,N,C⟩=.error .die/\(E.want (pz (ntE E i).2) k t).2.bad=true):=by
 have e:qcm E n k t ⟨i,K,u,N,C⟩=(msE E k t (ntE E i).2 >>= fun j=>.ok ((((⟨i,K,u,N,C⟩:PM).set n (x.tail' (ntE E i).1)).at_ j).is n)):=by
  unfold qcm
  rw[qeo hx];rfl
 rcases qb9 E k t (ntE E i).2 hk with⟨m1,m2,-,-,-⟩ | ⟨m1,m2,-⟩
 ·exact .inl ⟨by rw[e,m1];rfl,m2⟩
 ·exact .inr ⟨by rw[e,m1];rfl,m2⟩
theorem qeb{k:Int}{t:Bs}(hk:k≠0)(hx:N[n]?=some (some x))(hbn:b<=n)(h1:(E.want (pz (ntE E i).2) k t).2.bad=true->bad=true)(h2:E.want (pz (ntE E i).2) k t=((ntE E i).2,pz ((ntE E i).2+1))->Ends E bad b c ⟨(ntE E i).2+1,K,some n,N.set n (some (x.tail' (ntE E i).1)),C⟩ Q):Ends E bad b c ⟨i,.tail n k t::K,u,N,C⟩ Q:=by
 refine Ends.step ?_
 rcases qe4 (u:=u) (K:=K) (C:=C) hk hx with⟨m1,m2⟩ | ⟨m1,m2⟩
 ·exact .inl ⟨_,m1,frN (FrL.set hbn _),h2 m2⟩
 ·exact .inr ⟨m1,h1 m2⟩
theorem qc8{t:Bs}{o:Stp}(h1:(E.take (pz i)).2.bad=true->E.sign (pz i) t=true->bad=true)(h2:E.sign (pz i) t=true->E.take (pz i)=(i,pz (i+1))->Ends E bad b c ⟨i+1,o:: .into n:: .more n t o::K,u,N,C⟩ Q)(h3:E.sign (pz i) t=false->Ends E bad b c ⟨i,K,u,N,C⟩ Q):Ends E bad b c ⟨i,.more n t o::K,u,N,C⟩ Q:=by
 refine Ends.step ?_
 show EndsR E bad b c _ Q (sgE E 9 t i >>= fun q=>_)
 rcases qbo E 9 t i (by decide)with⟨m1,m2,m3,-,-⟩ | ⟨m1,m2⟩ | ⟨m1,m2,m3⟩
 ·rw[m1];exact .inl ⟨_,rfl,frN (FrL.refl _ _),h2 m2 m3⟩
 ·rw[m1];exact .inl ⟨_,rfl,frN (FrL.refl _ _),h3 m2⟩
 ·rw[m1];exact .inr ⟨rfl,h1 m3 m2⟩
theorem qci{t:Bs}{o:Stp}(h:Ends E bad b c ⟨i,o:: .into n:: .more n t o::K,u,N,C⟩ Q):Ends E bad b c ⟨i,.row n t o::K,u,N,C⟩ Q:=
 Ends.step (.inl ⟨_,rfl,frN (FrL.refl _ _),h⟩)
theorem qc7{o:Stp}(h:Ends E bad b c ⟨(ntE E i).2,o:: .nots (ntE E i).1::K,u,N,C⟩ Q):Ends E bad b c ⟨i,.item o::K,u,N,C⟩ Q:=
 Ends.step (.inl ⟨_,rfl,frN (FrL.refl _ _),h⟩)
theorem nt_pk(E:Env)(i:Nat):E.pk (ntE E i).2=E.pk i:=by
 show E.pk (max i (E.pk i))=E.pk i
 by_cases h:i<=E.to
 ·have h1:=qit E h
  rw[Nat.max_eq_right h1.1]
  refine qrz E i (E.pk i) h1.1 h1.2 ?_
  exact qiu E _ i rfl
 ·have e:E.pk i=i:=qdh (.inl (by omega))
  rw[e,Nat.max_self,e]
theorem nt_at(E:Env)(i:Nat):E.at_ (pz (ntE E i).2)=E.at_ (pz i):=by
 unfold Env.at_
 show(if E.pk (ntE E i).2<E.to/\false=false then E.tk (E.pk (ntE E i).2)else tk0)=(if E.pk i<E.to/\false=false then E.tk (E.pk i)else tk0)
 rw[nt_pk]
theorem qg4(E:Env)(i:Nat)(k:Int)(t:Bs):E.is (pz (ntE E i).2) k t=E.is (pz i) k t:=by
 unfold Env.is;rw[nt_at]
end
def LeO{α:Type}(a b:Option α):Prop:= ∀o,a=some o->b=some o
theorem LeO.refl{α:Type}(a:Option α):LeO a a:=fun _ h=>h
theorem LeO.ite{α:Type}{c:Prop}[Decidable c]{a a' b b':Option α}(h:LeO a a')(k:LeO b b'):LeO (if c then a else b) (if c then a' else b'):=by
 split
 ·exact h
 ·exact k
theorem LeO.bind{α β:Type}{a a':Option α}{f f':α->Option β}(h:LeO a a')(k: ∀x,LeO (f x) (f' x)):LeO (a.bind f) (a'.bind f'):=fun o ho=>by
 obtain⟨x,h1,h2⟩:=Option.bind_eq_some_iff.1 ho
 rw[h x h1];exact k x o h2
theorem qm8{E:Env}{R S:Cmd->Ps->Option Out}(h: ∀c p,LeO (R c p) (S c p))(c:Cmd)(p:Ps):LeO (qbf E R c p) (qbf E S c p):=by
 cases c<;>simp only[qbf]<;>repeat' (first | with_reducible exact h _ _ | with_reducible exact LeO.refl _ | with_reducible refine LeO.ite ?_ ?_ | with_reducible refine LeO.bind ?_ (fun _=>?_))
theorem qnk{α:Type}{c:Prop}[Decidable c](a b:α):(if c then some a else some b)=some (if c then a else b):=by split<;>rfl
theorem qm9{E:Env}(S:Cmd->Ps->Out)(c:Cmd)(p:Ps):qbf E (fun c p=>some (S c p)) c p=some (qa6 E S c p):=by
 cases c<;>simp only[qbf,qa6,Option.bind_some,qnk]<;>rfl
theorem qfe{E:Env}: ∀(n:Nat) (c:Cmd) (p:Ps) (o:Out),runX E n c p=some o->qf7 E n c p=o
 | 0,_,_,_,h=>by cases h
 | n+1,c,p,o,h=>by
  have h1:LeO (qbf E (runX E n) c p) (qbf E (fun c p=>some (qf7 E n c p)) c p):=qm8 (fun c p o ho=>by rw[qfe n c p o ho]) c p
  have h2:=h1 o h
  rw[qm9]at h2
  exact Option.some.inj h2
theorem qb2{E:Env}{n:Nat}{c:Cmd}{p:Ps}{o:Out}(h:runX E n c p=some o)(hb:p.bad=true):o.p.bad=true:=by
 have h1:=qff E n c p
 rw[qfe n c p o h,qvg hb]at h1
 unfold qaj at h1
 split at h1
 ·assumption
 ·omega
def qgv:List ByteArray->Nd->Nd
 | [],x=>x
 | a::r,x=>qgv r (nkt 13 a [x])
theorem qgl: ∀(T:List ByteArray) (x:Nd),x.nof=[]->(qgv T x).nof=[]
 | [],_,h=>h
 | a::r,x,_=>qgl r _ rfl
theorem qgk: ∀(T S:List ByteArray) (x:Nd),qgv (T++S) x=qgv S (qgv T x)
 | [],_,_=>rfl
 | a::r,S,x=>qgk r S _
theorem qke{b i:Nat}{K:List Stp}{u:Option Nat}{C:List Chn}: ∀(T:List ByteArray) (n:Nat) (N:List (Option Nd)) (x:Nd),N[n]?=some (some x)->b<=n-> ∃n' N',undL T n ⟨i,K,u,N,C⟩=.ok (n',⟨i,K,u,N',C⟩)/\N'[n']?=some (some (qgv T x))/\b<=n'/\FrL b N N'
 | [],n,N,x,h,hb=>⟨n,N,rfl,h,hb,FrL.refl _ _⟩
 | a::r,n,N,x,h,hb=>by
  obtain⟨n',N',h1,h2,h3,h4⟩:=qke (b:=b) (i:=i) (K:=K) (u:=u) (C:=C) r N.length ((N.set n none)++[some (nkt 13 a [x])]) (nkt 13 a [x]) (by
   rw[show N.length=(N.set n none).length from List.length_set.symm];exact qak _ _) (by have:=qad h;omega)
  refine⟨n',N',?_,h2,h3,((FrL.set hb none).trans (FrL.app (by rw[zA];have:=qad h;omega) _)).trans h4⟩
  show((⟨i,K,u,N,C⟩:PM).nd n >>= fun x=>_)=_
  rw[qeo h]
  exact h1
def HE(E:Env)(n:Nat):Prop:= ∀lv i o,runX E n (.expr lv) (pz i)=some o-> ∀K u N C,Ends E o.p.bad N.length C.length ⟨i,.expr lv::K,u,N,C⟩ (An K N.length o.x o.p.i)
theorem qc1{p:Ps}(h:p.bad=false):p=pz p.i:=by
 cases p with
 | mk i b=>cases h;rfl
section
variable{E:Env}{b c:Nat}{K:List Stp}
theorem qte(i:Nat):(((E.at_ (pz i)).1 !=9&&(E.at_ (pz i)).1 !=8)=true/\opE E i=⟨#[]⟩)\/(((E.at_ (pz i)).1 !=9&&(E.at_ (pz i)).1 !=8)=false/\opE E i=(E.at_ (pz i)).2.1):=by
 unfold opE nxE
 by_cases h9:(E.at_ (pz i)).1=9
 ·exact .inr ⟨by simp[h9],if_pos (.inl h9)⟩
 ·by_cases h8:(E.at_ (pz i)).1=8
  ·exact .inr ⟨by simp[h8],if_pos (.inr h8)⟩
  ·exact .inl ⟨by simp[h9,h8],if_neg (by simp[h9,h8])⟩
theorem qt0:bn []=0:=by decide
theorem qhg:(⟨#[]⟩:ByteArray).toList=[]:=by unfold ByteArray.toList ByteArray.toList.loop;simp[ByteArray.size]
theorem qod:pf []=0:=by decide
theorem qsp{i:Nat}(h:(E.at_ (pz i)).1=9\/(E.at_ (pz i)).1=8):(tkE E i=.ok (i+1)/\E.take (pz i)=(i,pz (i+1))/\i<E.to/\E.at_ (pz i)=E.tk i)\/(tkE E i=.error .die/\(E.take (pz i)).2.bad=true):=by
 have h2:=qqn (i:=i) (E:=E) (by rcases h with h | h<;>rw[h]<;>decide)
 unfold tkE
 by_cases h3:E.pk i=i
 ·rw[if_pos h3]
  exact .inl ⟨rfl,qi4 h2 h3,by omega,by rw[qeh h2 rfl];show E.tk (E.pk i)=_;rw[h3]⟩
 ·rw[if_neg h3];exact .inr ⟨rfl,qi3 h3⟩
theorem qfz{n:Nat}(hE: ∀m,m<n->HE E m): ∀m,m<=n-> ∀lv left has i o,runX E m (.exprL lv left has) (pz i)=some o-> ∀(N:List (Option Nd)) (C:List Chn) u cc h l,C[cc]?=some h->h.lf=some l->N[l]?=some (some left)->left.nof=[]->h.hs=has->max h.lv 1=max lv 1->b<=l->c<=cc->
 EndsR E o.p.bad b c ⟨i,K,u,N,C⟩ (An K b (qgv (zB h.ct ⟨#[99,97,116,99,104]⟩) o.x) o.p.i) (qbm E cc ⟨i,K,u,N,C⟩)
 | 0,_,_,_,_,_,_,h,_,_,_,_,_,_,_,_,_,_,_,_,_,_=>by cases h
 | m+1,hm,lv,left,has,i,o,h,N,C,u,cc,ch,l,hc,hlf,hl,hno,hhs,hlv,hbl,hcc=>by
  have hch:(⟨i,K,u,N,C⟩:PM).ch cc=.ok ch:=by
   unfold PM.ch;rw[show(⟨i,K,u,N,C⟩:PM).C=C from rfl,hc]
  have e0:qbm E cc ⟨i,K,u,N,C⟩=(if(bn (opE E i).toList:Int)<max ch.lv 1\/ch.hs< (lf (opE E i).toList:Int)then(undL (zB ch.ct ⟨#[99,97,116,99,104]⟩) l ⟨i,K,u,N,C⟩ >>= fun r=>.ok (r.2.is r.1))else(tkE E i >>= fun j=>.ok ((((⟨i,K,u,N,C⟩:PM).at_ j).plan [.expr (rt (opE E i).toList:Int),.join cc (opE E i) (bn (opE E i).toList)])))):=by
   unfold qbm
   rw[hch]
   show(match ch.lf with | none=>_ | some l=>_)=_
   rw[hlf]
  have hstop: ∀(o':Out),o'= { x:=left,p:=pz i } ->EndsR E o'.p.bad b c ⟨i,K,u,N,C⟩ (An K b (qgv (zB ch.ct ⟨#[99,97,116,99,104]⟩) o'.x) o'.p.i) (undL (zB ch.ct ⟨#[99,97,116,99,104]⟩) l ⟨i,K,u,N,C⟩ >>= fun r=>.ok (r.2.is r.1)):=by
   rintro o' rfl
   obtain⟨n',N',h1,h2,h3,h4⟩:=qke (b:=b) (i:=i) (K:=K) (u:=u) (C:=C) (zB ch.ct ⟨#[99,97,116,99,104]⟩) l N left hl hbl
   refine .inl ⟨⟨i,K,some n',N',C⟩,by rw[h1];rfl,frN h4,Ends.here rfl ⟨n',N',C,rfl,h3,h2,qgl _ _ hno⟩⟩
  have h':(if(pz i).bad=true then some ({ x:=left,p:=pz i } :Out)else
   if(((E.at_ (pz i)).1 !=9&&(E.at_ (pz i)).1 !=8)||(bn (E.at_ (pz i)).2.1.toList:Int)==0||decide ((bn (E.at_ (pz i)).2.1.toList:Int)<lv)||decide (has< (lf (E.at_ (pz i)).2.1.toList:Int)))=true then some { x:=left,p:=pz i } else
   (runX E m (.expr (rt (E.at_ (pz i)).2.1.toList:Int)) (E.take (pz i)).2).bind fun r=>runX E m (.exprL lv (nkt 14 (E.at_ (pz i)).2.1 [left,r.x]) (bn (E.at_ (pz i)).2.1.toList:Int)) r.p)=some o:=h
  rw[if_neg (by simp[pz])]at h'
  rw[e0]
  rcases qte (E:=E) i with⟨q1,q2⟩ | ⟨q1,q2⟩
  ·rw[if_pos (by rw[q1];rfl)]at h'
   rw[q2]
   rw[if_pos (.inl (by
    rw[qhg,qt0];have:(1:Int)<=max ch.lv 1:=Int.le_max_right _ _
    omega))]
   exact hstop o (Option.some.inj h').symm
  ·rw[q2]
   by_cases hc2:(bn (E.at_ (pz i)).2.1.toList:Int)<max ch.lv 1\/ch.hs< (lf (E.at_ (pz i)).2.1.toList:Int)
   ·rw[if_pos hc2]
    have hx:(((E.at_ (pz i)).1 !=9&&(E.at_ (pz i)).1 !=8)||(bn (E.at_ (pz i)).2.1.toList:Int)==0||decide ((bn (E.at_ (pz i)).2.1.toList:Int)<lv)||decide (has< (lf (E.at_ (pz i)).2.1.toList:Int)))=true:=by
     rw[q1]
     rcases hc2 with h9 | h9
     ·rw[hlv]at h9
      by_cases h0:(bn (E.at_ (pz i)).2.1.toList:Int)=0
      ·rw[h0];rfl
      ·have:(bn (E.at_ (pz i)).2.1.toList:Int)<lv:=by
        rcases Int.le_total lv 1 with h8 | h8
        ·rw[Int.max_eq_right h8]at h9;omega
        ·rw[Int.max_eq_left h8]at h9;exact h9
       simp[this]
     ·rw[hhs]at h9;simp[h9]
    rw[if_pos hx]at h'
    exact hstop o (Option.some.inj h').symm
   ·rw[if_neg hc2]
    have hx: ¬(((E.at_ (pz i)).1 !=9&&(E.at_ (pz i)).1 !=8)||(bn (E.at_ (pz i)).2.1.toList:Int)==0||decide ((bn (E.at_ (pz i)).2.1.toList:Int)<lv)||decide (has< (lf (E.at_ (pz i)).2.1.toList:Int)))=true:=by
     rw[q1]
     rw[not_or,hlv,hhs]at hc2
     obtain⟨h8,h9⟩:=hc2
     have h7:(1:Int)<=max lv 1:=Int.le_max_right _ _
     have h6:lv<=max lv 1:=Int.le_max_left _ _
     simp only[Bool.false_or,Bool.or_eq_true,beq_iff_eq,decide_eq_true_eq,not_or]
     exact⟨⟨by omega,by omega⟩,h9⟩
    rw[if_neg hx]at h'
    obtain⟨r,hr1,hr2⟩:=Option.bind_eq_some_iff.1 h'
    have hk:(E.at_ (pz i)).1=9\/(E.at_ (pz i)).1=8:=by
     simp only[Bool.and_eq_false_iff,bne_eq_false_iff_eq]at q1
     exact q1
    rcases qsp hk with⟨t1,t2,-,-⟩ | ⟨t1,t2⟩
    ·rw[t1]
     rw[t2]at hr1
     refine .inl ⟨_,rfl,frN (FrL.refl _ _),?_⟩
     have hll:=qad hl
     refine Ends.bind (hE m (by omega) _ _ _ hr1 (.join cc (E.at_ (pz i)).2.1 (bn (E.at_ (pz i)).2.1.toList)::K) u N C) (by omega) (by have:=qad hc;omega) (fun e=>qb2 hr2 e) (fun e τ hf hq=>?_)
     obtain⟨j,N1,C1,rfl,hj1,hj2,hj3⟩:=hq
     rw[qc1 e]at hr2
     have hc1:C1[cc]?=some ch:=hf.C.at (qad hc) hc
     have hl1:N1[l]?=some (some left):=hf.N.at hll hl
     have hne: ¬l=j:=by omega
     refine Ends.step ?_
     show EndsR E o.p.bad b c _ _ ((⟨r.p.i,K,some j,N1,C1⟩:PM).ch cc >>= fun h=>_)
     rw[show(⟨r.p.i,K,some j,N1,C1⟩:PM).ch cc=.ok ch by unfold PM.ch;rw[show(⟨r.p.i,K,some j,N1,C1⟩:PM).C=C1 from rfl,hc1]]
     show EndsR E o.p.bad b c _ _ ((⟨r.p.i,K,some j,N1,C1⟩:PM).cur >>= fun x=>_)
     rw[qdc hj2]
     show EndsR E o.p.bad b c _ _ (match ch.lf with | none=>_ | some l=>_)
     rw[hlf]
     show EndsR E o.p.bad b c _ _ (twoE (E.at_ (pz i)).2.1 l j ⟨r.p.i,K,some j,N1,C1⟩ >>= fun τ=>_)
     have htwo:twoE (E.at_ (pz i)).2.1 l j ⟨r.p.i,K,some j,N1,C1⟩=.ok ⟨r.p.i,K,some j,((N1.set l none).set j none)++[some (nkt 14 (E.at_ (pz i)).2.1 [left,r.x])],C1⟩:=by
      unfold twoE
      rw[qeo hl1,qeo hj2]
      show(if l=j then _ else _)=_
      rw[if_neg hne];rfl
     rw[htwo]
     have hN2:(((N1.set l none).set j none)++[some (nkt 14 (E.at_ (pz i)).2.1 [left,r.x])])[N1.length]?=some (some (nkt 14 (E.at_ (pz i)).2.1 [left,r.x])):=by
      rw[show N1.length=((N1.set l none).set j none).length by rw[zA,zA]];exact qak _ _
     have hlN:=qad hl1
     have hrec:=qfz hE m (by omega) lv (nkt 14 (E.at_ (pz i)).2.1 [left,r.x]) (bn (E.at_ (pz i)).2.1.toList:Int) r.p.i o hr2 (((N1.set l none).set j none)++[some (nkt 14 (E.at_ (pz i)).2.1 [left,r.x])]) (C1.set cc { ch with lf:=some N1.length,hs:=(bn (E.at_ (pz i)).2.1.toList:Int) }) (some j) cc { ch with lf:=some N1.length,hs:=(bn (E.at_ (pz i)).2.1.toList:Int) } N1.length (qb3 _ hc1) rfl hN2 rfl rfl hlv (by omega) hcc
     have hfr:Fr b c ⟨r.p.i,.join cc (E.at_ (pz i)).2.1 (bn (E.at_ (pz i)).2.1.toList)::K,some j,N1,C1⟩ ⟨r.p.i,K,some j,((N1.set l none).set j none)++[some (nkt 14 (E.at_ (pz i)).2.1 [left,r.x])],C1.set cc { ch with lf:=some N1.length,hs:=(bn (E.at_ (pz i)).2.1.toList:Int) }⟩:=
      frNC (((FrL.set hbl _).trans (FrL.set (by omega) _)).trans (FrL.app (by rw[zA,zA];omega) _)) (FrL.set hcc _)
     rcases hrec with⟨τ',g1,g2,g3⟩ | ⟨g1,g2⟩
     ·exact .inl ⟨τ',g1,hfr.trans g2,g3⟩
     ·exact .inr ⟨g1,g2⟩
    ·rw[t1]
     exact .inr ⟨rfl,qb2 hr2 (qb2 hr1 t2)⟩
end
theorem ba_of{t:ByteArray}{s:Bs}(h:t.toList=s):(⟨s.toArray⟩:ByteArray)=t:=by
 subst h
 rw[ByteArray.toList_eq]
section
variable{E:Env}{b c:Nat}{K:List Stp}{i:Nat}
def qgz(t:Bs):Prop:=t=[41]\/t=[125]\/t=[93]\/t=[62,62]
theorem qoh{t:Bs}(ht:qgz t)(h:E.sign (pz i) t=true)(u:Option Nat)(N:List (Option Nd))(C:List Chn):qbh E ⟨i,K,u,N,C⟩=.error .die:=by
 obtain⟨h1,h2⟩:=qf5 h
 have h1:(nxE E i).1=9:=h1
 have h2:(nxE E i).2.1.toList=t:=h2
 unfold qbh
 show(if(nxE E i).1=9 then _ else _)=_
 rw[if_pos h1]
 show(if(nxE E i).2.1.toList=[40]then _ else if(nxE E i).2.1.toList=[123]then _ else if(nxE E i).2.1.toList=[91]then _ else if(nxE E i).2.1.toList=[60,60]then _ else if(nxE E i).2.1.toList=[35]then _ else _)=_
 rw[h2]
 rcases ht with rfl | rfl | rfl | rfl<;>rfl
theorem qv7{k:Int}{t s:Bs}(h:E.is (pz i) k t=true)(k':Int)(hk:k≠k'):E.is (pz i) k' s=false:=by
 obtain⟨h1,h2⟩:=qf5 h
 unfold Env.is
 rw[h1]
 simp[hk]
theorem qfs{t:Bs}(ht:qgz t)(h:E.sign (pz i) t=true)(lv:Int)(u:Option Nat)(N:List (Option Nd))(C:List Chn):Dies E ⟨i,.expr lv::K,u,N,C⟩:=by
 obtain⟨h1,h2⟩:=qf5 h
 have hw:E.word (pz i) [99,97,116,99,104]=false:=qv7 h 8 (by decide)
 have hc:ctL E lv (E.to+2) i 0=.ok (0,i):=by
  unfold ctL
  rw[hw,Bool.and_false];rfl
 have hp:pfL E (E.to+2) i []=.ok ([],i):=by
  unfold pfL
  have e:opE E i=(E.at_ (pz i)).2.1:=if_pos (.inl h1)
  rw[e,h2]
  rcases ht with rfl | rfl | rfl | rfl<;>rfl
 refine Goes.dies (τ:=⟨i,.prim:: .folw C.length::K,u,N,C++[{ lv:=lv,ct:=0,ah:=[],st:=E.sign (pz i) [40],hs:=11 }]⟩) (qcy ?_) (qea ?_)
 ·show(ctL E lv (E.to+2) i 0 >>= fun a=>_)=_
  rw[hc]
  show(pfL E (E.to+2) i [] >>= fun b=>_)=_
  rw[hp];rfl
 ·exact qoh ht h _ _ _
theorem qoa{m:Nat}(hE:HE E m){lv:Int}{t:ByteArray}{s:Bs}(hs:t.toList=s){j:Nat}{x:Nd}{r:Out}(hr:runX E m (.expr lv) (pz i)=some r){N:List (Option Nd)}{C:List Chn}{u:Option Nat}(hx:N[j]?=some (some x))(hb:b<=j)(hc:c<=C.length):
 Ends E r.p.bad b c ⟨i,.expr lv:: .per2 s j::K,u,N,C⟩ (An K b (nkt 14 t [x,r.x]) r.p.i):=by
 have hl:=qad hx
 refine Ends.bind (hE _ _ _ hr _ _ _ _) (by omega) hc id (fun e τ hf hq=>?_)
 obtain⟨j2,N2,C2,rfl,h1,h2,h3⟩:=hq
 have hx2:N2[j]?=some (some x):=hf.N.at hl hx
 have hne: ¬j=j2:=by omega
 refine Ends.step ?_
 refine .inl ⟨⟨r.p.i,K,some N2.length,((N2.set j none).set j2 none)++[some (nkt 14 t [x,r.x])],C2⟩,?_,frN (((FrL.set hb _).trans (FrL.set (by omega) _)).trans (FrL.app (by rw[zA,zA];have:=qad hx2;omega) _)),Ends.here e ⟨_,_,_,rfl,by have:=qad hx2;omega,?_,rfl⟩⟩
 ·show((⟨r.p.i,K,some j2,N2,C2⟩:PM).cur >>= fun x=>_)=_
  rw[qdc h2]
  show(twoE ⟨s.toArray⟩ j j2 ⟨r.p.i,K,some j2,N2,C2⟩ >>= fun τ=>_)=_
  have htwo:twoE ⟨s.toArray⟩ j j2 ⟨r.p.i,K,some j2,N2,C2⟩=.ok ⟨r.p.i,K,some j2,((N2.set j none).set j2 none)++[some (nkt 14 t [x,r.x])],C2⟩:=by
   unfold twoE
   rw[qeo hx2,qeo h2]
   show(if j=j2 then _ else _)=_
   rw[if_neg hne,ba_of hs];rfl
  rw[htwo];rfl
 ·rw[show N2.length=((N2.set j none).set j2 none).length by rw[zA,zA]];exact qak _ _
theorem qis{m1 m2:Nat}(h1:HE E m1)(h2:HE E m2){lv:Int}{s1 s2:Bs}{r o:Out}(hr:runX E m1 (.expr lv) (pz i)=some r)(hy:E.sign r.p s1=true\/E.sign r.p s2=true-> ∃r2,runX E m2 (.expr lv) (E.take r.p).2=some r2/\o= { x:=nkt 14 (E.at_ r.p).2.1 [r.x,r2.x],p:=r2.p })(hn:E.sign r.p s1=false->E.sign r.p s2=false->o=r)(u:Option Nat)(N:List (Option Nd))(C:List Chn):
 Ends E o.p.bad N.length C.length ⟨i,.perh lv [s1,s2]::K,u,N,C⟩ (An K N.length o.x o.p.i):=by
 refine Ends.step (.inl ⟨_,rfl,frN (FrL.refl _ _),?_⟩)
 refine Ends.bind (h1 _ _ _ hr (.perM lv [s1,s2]::K) _ _ _) (Nat.le_refl _) (Nat.le_refl _) (fun e=>by rw[hn (qbl e (by decide)) (qbl e (by decide))];exact e) (fun e τ hf hq=>?_)
 obtain⟨j,N1,C1,rfl,g1,g2,g3⟩:=hq
 rw[qc1 e]at hy hn
 have hcl:C.length<=C1.length:=hf.C.1
 refine Ends.step ?_
 show EndsR E o.p.bad N.length C.length _ _ (sgE E 9 s1 r.p.i >>= fun q=>_)
 rcases qbo E 9 s1 r.p.i (by decide)with⟨m1,m2,m3,m4,m5⟩ | ⟨m1,m2⟩ | ⟨m1,m2,m3⟩
 ·rw[m1]
  obtain⟨r2,q1,rfl⟩:=hy (.inl m2)
  rw[m3]at q1
  refine .inl ⟨_,rfl,frN (FrL.refl _ _),?_⟩
  exact qoa h2 (qf5 m2).2 q1 g2 g1 hcl
 ·rw[m1]
  show EndsR E o.p.bad N.length C.length _ _ (sgE E 9 s2 r.p.i >>= fun q=>_)
  rcases qbo E 9 s2 r.p.i (by decide)with⟨k1,k2,k3,k4,k5⟩ | ⟨k1,k2⟩ | ⟨k1,k2,k3⟩
  ·rw[k1]
   obtain⟨r2,q1,rfl⟩:=hy (.inr k2)
   rw[k3]at q1
   refine .inl ⟨_,rfl,frN (FrL.refl _ _),?_⟩
   exact qoa h2 (qf5 k2).2 q1 g2 g1 hcl
  ·rw[k1]
   obtain rfl:=hn m2 k2
   refine .inl ⟨_,rfl,frN (FrL.refl _ _),Ends.here e ⟨j,N1,C1,rfl,g1,g2,g3⟩⟩
  ·rw[k1]
   obtain⟨r2,q1,rfl⟩:=hy (.inr k2)
   exact .inr ⟨rfl,show r2.p.bad=true from qb2 q1 k3⟩
 ·rw[m1]
  obtain⟨r2,q1,rfl⟩:=hy (.inl m2)
  exact .inr ⟨rfl,show r2.p.bad=true from qb2 q1 m3⟩
end
end Go.Proofs.YtdhadeeajgoedaaGreat
