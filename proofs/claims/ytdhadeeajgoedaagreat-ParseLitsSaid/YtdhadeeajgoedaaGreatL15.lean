import Derived.Test.YtdhadeeajgoedaaGreatL14
set_option maxRecDepth 100000
set_option maxHeartbeats 4000000
set_option linter.all false
open List renaming getElem?_set_self→zA,length_set→zB,replicate→zC
open Nat renaming le_refl→zD
namespace Go.Proofs.YtdhadeeajgoedaaGreat
open Go.RowKit Go.PlainAid
inductive Bad where
 | die
 | stuck
abbrev Rs(α:Type):=Except Bad α
inductive Stp where
 | expr (lv:Int)
 | prim
 | folw (c:Nat)
 | join (c:Nat) (op:ByteArray) (own:Int)
 | call
 | chgd
 | remo
 | clld
 | into (n:Nat)
 | tail (n:Nat) (k:Int) (s:Bs)
 | item (o:Stp)
 | nots (L:List ByteArray)
 | row (n:Nat) (b:Bs) (o:Stp)
 | more (n:Nat) (b:Bs) (o:Stp)
 | want (k:Int) (s:Bs)
 | box (n:Nat) (o:Bs) (one:Stp)
 | listK (n:Nat)
 | perh (lv:Int) (ss:List Bs)
 | perM (lv:Int) (ss:List Bs)
 | per2 (op:Bs) (left:Nat)
 | bodyO (n:Nat)
 | blnk (b:Bool)
 | val
 | sized
 | segm
 | pair
 | patC
 | funC
 | tstC
 | lstC
 | patt
 | guar
 | alts
 | cond
 | body
 | noth (k:Int)
 | arrow (n:Nat)
 | last (n:Nat)
structure Chn where
 lv:Int
 ct:Nat:=0
 ah:List ByteArray:=[]
 st:Bool:=false
 lf:Option Nat:=none
 hs:Int:=11
structure PM where
 i:Nat
 k:List Stp
 n:Option Nat
 N:List (Option Nd)
 C:List Chn
def PM.plan(σ:PM)(l:List Stp):PM:= { σ with k:=l++σ.k }
def PM.at_(σ:PM)(i:Nat):PM:= { σ with i:=i }
def PM.nd(σ:PM)(n:Nat):Rs Nd:=match σ.N[n]? with
 | some (some x)=>.ok x
 | _=>.error .stuck
def PM.cur(σ:PM):Rs (Nat×Nd):=match σ.n with
 | some j=>(σ.nd j).map (fun x=>(j,x))
 | none=>.error .stuck
def PM.set(σ:PM)(n:Nat)(x:Nd):PM:= { σ with N:=σ.N.set n (some x) }
def PM.mv(σ:PM)(n:Nat):PM:= { σ with N:=σ.N.set n none }
def PM.new(σ:PM)(x:Nd):PM:= { σ with N:=σ.N++[some x] }
def PM.is(σ:PM)(n:Nat):PM:= { σ with n:=some n }
def PM.got(σ:PM)(x:Nd):PM:=(σ.new x).is σ.N.length
def PM.ch(σ:PM)(c:Nat):Rs Chn:=match σ.C[c]? with
 | some x=>.ok x
 | none=>.error .stuck
def PM.setC(σ:PM)(c:Nat)(x:Chn):PM:= { σ with C:=σ.C.set c x }
def pz(i:Nat):Ps:=⟨i,false⟩
def nxE(E:Env)(i:Nat):Tok:=E.at_ (pz i)
def tkE(E:Env)(i:Nat):Rs Nat:=if E.pk i=i then .ok (i+1)else .error .die
def sgE(E:Env)(k:Int)(s:Bs)(i:Nat):Rs (Bool×Nat):=
 if E.is (pz i) k s then(tkE E i).map (fun j=>(true,j))else .ok (false,i)
def msE(E:Env)(k:Int)(s:Bs)(i:Nat):Rs Nat:=do
 let r<-sgE E k s i
 if r.1 then .ok r.2 else .error .die
def txE(E:Env)(f:Int->Bool)(i:Nat):Rs (ByteArray×Nat):=
 if f (nxE E i).1 then(tkE E i).map (fun j=>((nxE E i).2.1,j))else .error .die
def ntE(E:Env)(i:Nat):List ByteArray×Nat:=(cms E (E.pk i-i) i,max i (E.pk i))
def brE(E:Env)(i:Nat):Bool:=decide (0<E.nl (i:Int))
def blE(E:Env)(i:Nat):Bool:=decide (2<=E.nl (i:Int))
def scE(E:Env):Nat->Nat->ByteArray
 | 0,_=>⟨#[]⟩
 | n+1,a=>(E.tk a).2.1++scE E n (a+1)
def opE(E:Env)(i:Nat):ByteArray:=if(nxE E i).1=9\/(nxE E i).1=8 then(nxE E i).2.1 else⟨#[]⟩
def ctL(E:Env)(lv:Int):Nat->Nat->Nat->Rs (Nat×Nat)
 | 0,_,_=>.error .stuck
 | f+1,i,k=>if decide (lv<=0)&&E.word (pz i) [99,97,116,99,104]then do
    let j<-tkE E i
    ctL E lv f j (k+1)
  else .ok (k,i)
def pfL(E:Env):Nat->Nat->List ByteArray->Rs (List ByteArray×Nat)
 | 0,_,_=>.error .stuck
 | f+1,i,a=>if 0<pf (opE E i).toList then do
    let j<-tkE E i
    pfL E f j (a++[opE E i])
  else .ok (a,i)
def tyL(E:Env):Nat->Nat->Rs Nat
 | 0,_=>.error .stuck
 | f+1,i=>do
  let r<-txE E (· ==1) i
  let q<-sgE E 9 [45] r.2
  if q.1 then tyL E f q.2 else .ok q.2
def qfc(o:Bs):Bs:=if o=[40]then[41]else if o=[123]then[125]else if o=[91]then[93]else if o=[60,60]then[62,62]else[]
def qfu:List ByteArray->Nat->PM->Rs (Nat×PM)
 | [],n,σ=>.ok (n,σ)
 | a::r,n,σ=>do
  let x<-σ.nd n
  qfu r σ.N.length ((σ.mv n).new (nkt 13 a [x]))
def qm0(op:ByteArray)(a b:Nat)(σ:PM):Rs PM:=do
 let x<-σ.nd a
 let y<-σ.nd b
 if a=b then .error .stuck else .ok (((σ.mv a).mv b).new (nkt 14 op [x,y]))
def qbg(E:Env)(σ:PM):Rs PM:=do
 let j<-msE E 9 [40] σ.i
 .ok ((σ.at_ j).plan [.expr 0,.want 9 [41]])
def qjw(E:Env)(σ:PM):Rs PM:=do
 let r<-txE E ltk σ.i
 .ok ((σ.at_ r.2).got (nkt 1 r.1 []))
def qib(σ:PM)(x:Nd)(o:Bs)(one:Stp):PM:=(σ.new x).plan [.box σ.N.length o one]
def qcw(E:Env)(n:Nat)(k:Int)(s:Bs)(σ:PM):Rs PM:=do
 let x<-σ.nd n
 let m:=ntE E σ.i
 let j<-msE E k s m.2
 .ok (((σ.set n (x.tail' m.1)).at_ j).is n)
def qes(E:Env)(σ:PM):Rs PM:=do
 let j<-msE E 9 [91] σ.i
 let n:=σ.N.length
 let τ:=(σ.at_ j).new ((nk 5 []).brk' (brE E j))
 if E.sign (pz j) [93]then qcw E n 9 [93] τ
 else .ok (τ.plan [.row n [44] (.item (.expr 3)),.listK n])
def qtd(σ:PM):PM:=qib σ (nk 6 []) [60,60] .segm
def qfa(E:Env)(σ:PM):Rs PM:=do
 let j<-msE E 9 [35] σ.i
 if E.sign (pz j) [123]then .ok (qib (σ.at_ j) (nk 8 []) [123] .pair)
 else do
  let r<-txE E nmk j
  .ok (qib (σ.at_ r.2) (nkt 10 r.1 []) [123] (.expr 0))
def qac(n:Nat)(one:Stp):Stp:=.row n [59] (.item one)
def qa8(n:Nat):Stp:=.tail n 8 [101,110,100]
def qfm(E:Env)(σ:PM):Rs PM:=do
 let j<-msE E 8 [102,117,110] σ.i
 if E.sign (pz j) [40]then
  if E.pk j=j then .ok (((σ.at_ j).new (nk 17 [])).plan [qac σ.N.length .funC,qa8 σ.N.length])else .error .die
 else do
  let r<-txE E nmk j
  let c<-sgE E 9 [58] r.2
  let d<-if c.1 then(txE E nmk c.2).map (·.2)else .ok c.2
  let e<-msE E 9 [47] d
  let a<-txE E szk e
  .ok ((σ.at_ a.2).got (nkt 16 (scE E (a.2-j) j) []))
def qdg(E:Env)(σ:PM):Rs PM:=do
 let j<-msE E 8 [99,97,115,101] σ.i
 let n:=σ.N.length
 .ok (((σ.at_ j).new (nk 18 [])).plan [.expr 0,.into n,.want 8 [111,102],qac n .patC,qa8 n])
def qf2(E:Env)(σ:PM):Rs PM:=do
 let j<-msE E 8 [105,102] σ.i
 let n:=σ.N.length
 .ok (((σ.at_ j).new (nk 19 [])).plan [qac n .tstC,qa8 n])
def qck(E:Env)(σ:PM):Rs PM:=do
 let j<-msE E 8 [114,101,99,101,105,118,101] σ.i
 let n:=σ.N.length
 let τ:=((σ.at_ j).new (nk 20 [])).plan [.last n,qa8 n]
 if E.word (pz j) [97,102,116,101,114]then .ok τ else .ok (τ.plan [qac n .patC])
def qeo(E:Env)(σ:PM):Rs PM:=do
 let j<-msE E 8 [98,101,103,105,110] σ.i
 let n:=σ.N.length
 .ok (((σ.at_ j).new (nk 21 [])).plan [.body,.into n,qa8 n])
def qbm(E:Env)(σ:PM):Rs PM:=
 let t:=nxE E σ.i
 if t.1=9 then
  if t.2.1.toList=[40]then qbg E σ
  else if t.2.1.toList=[123]then .ok (qib σ (nk 4 []) [123] (.expr 0))
  else if t.2.1.toList=[91]then qes E σ
  else if t.2.1.toList=[60,60]then .ok (qtd σ)
  else if t.2.1.toList=[35]then qfa E σ
  else .error .die
 else if t.1=8 then
  if t.2.1.toList=[102,117,110]then qfm E σ
  else if t.2.1.toList=[99,97,115,101]then qdg E σ
  else if t.2.1.toList=[105,102]then qf2 E σ
  else if t.2.1.toList=[114,101,99,101,105,118,101]then qck E σ
  else if t.2.1.toList=[98,101,103,105,110]then qeo E σ
  else .error .die
 else qjw E σ
def qbr(E:Env)(c:Nat)(σ:PM):Rs PM:=do
 let h<-σ.ch c
 let op:=opE E σ.i
 let own:Int:=bn op.toList
 match h.lf with
 | none=>.error .stuck
 | some l=>
  if own<max h.lv 1\/h.hs< (lf op.toList:Int)then do
   let r<-qfu (zC h.ct ⟨#[99,97,116,99,104]⟩) l σ
   .ok (r.2.is r.1)
  else do
   let j<-tkE E σ.i
   .ok ((σ.at_ j).plan [.expr (rt op.toList:Int),.join c op own])
def qav(E:Env)(h:Chn)(x:Nd)(i:Nat):Option Stp:=
 if h.st=false/\qtb x=false then none
 else if E.sign (pz i) [40]then some .call
 else if E.sign (pz i) [35]then some .chgd
 else if E.sign (pz i) [58]/\(h.st=true\/x.kd=1)then some .remo
 else none
def qbp(E:Env)(σ:PM):Rs PM:=do
 let x<-σ.cur
 let j<-msE E 9 [35] σ.i
 let n:=σ.N.length
 let τ:=σ.mv x.1
 if E.sign (pz j) [123]then .ok (qib (τ.at_ j) (nk 9 [x.2]) [123] .pair)
 else do
  let r<-txE E nmk j
  let d<-sgE E 9 [46] r.2
  if d.1 then do
   let a<-txE E (· ==1) d.2
   .ok (((τ.at_ a.2).new (nkt 12 (scE E (a.2-j) j) [x.2])).is n)
  else .ok (qib (τ.at_ d.2) (nkt 11 r.1 [x.2]) [123] (.expr 0))
def qct(E:Env)(lv:Int)(left:Nat):List Bs->PM->Rs PM
 | [],σ=>.ok σ
 | s::r,σ=>do
  let q<-sgE E 9 s σ.i
  if q.1 then .ok ((σ.at_ q.2).plan [.expr lv,.per2 s left])else qct E lv left r σ
def qc8(σ:PM)(args guard:Stp):PM:=
 let n:=σ.N.length
 (σ.new (nk 22 [])).plan [args,.into n,guard,.into n,.arrow n,.body,.into n]
def qhb(σ:PM):PM:=(σ.new (nk 24 [])).plan [.row σ.N.length [59] .cond]
def stp(E:Env):Stp->PM->Rs PM
 | .expr lv,σ=>do
  let a<-ctL E lv (E.to+2) σ.i 0
  let b<-pfL E (E.to+2) a.2 []
  let τ:PM:= { σ with i:=b.2,C:=σ.C++[{ lv:=lv,ct:=a.1,ah:=b.1,st:=E.sign (pz b.2) [40],hs:=if b.1=[]then 11 else 10 }] }
  .ok (τ.plan [.prim,.folw σ.C.length])
 | .prim,σ=>qbm E σ
 | .folw c,σ=>do
  let h<-σ.ch c
  let x<-σ.cur
  match qav E h x.2 σ.i with
  | some s=>.ok ((σ.setC c { h with st:=false }).plan [s,.folw c])
  | none=>do
   let r<-qfu h.ah.reverse x.1 σ
   qbr E c (r.2.setC c { h with lf:=some r.1 })
 | .join c op own,σ=>do
  let h<-σ.ch c
  let x<-σ.cur
  match h.lf with
  | none=>.error .stuck
  | some l=>do
   let τ<-qm0 op l x.1 σ
   qbr E c (τ.setC c { h with lf:=some σ.N.length,hs:=own })
 | .call,σ=>do
  let x<-σ.cur
  .ok (qib (σ.mv x.1) (nk 2 [x.2]) [40] (.expr 0))
 | .chgd,σ=>qbp E σ
 | .remo,σ=>do
  let x<-σ.cur
  let j<-msE E 9 [58] σ.i
  .ok ((((σ.mv x.1).new (nk 3 [x.2])).at_ j).plan [.clld,.into σ.N.length])
 | .clld,σ=>if E.sign (pz σ.i) [40]then qbg E σ else do
  let r<-txE E nmk σ.i
  .ok ((σ.at_ r.2).got (nkt 1 r.1 []))
 | .into n,σ=>do
  let x<-σ.cur
  let y<-σ.nd n
  if x.1=n then .error .stuck else .ok (((σ.mv x.1).set n (y.add [x.2])).is n)
 | .tail n k s,σ=>qcw E n k s σ
 | .item o,σ=>.ok ((σ.at_ (ntE E σ.i).2).plan [o,.nots (ntE E σ.i).1])
 | .nots L,σ=>do
  let x<-σ.cur
  .ok (σ.set x.1 (x.2.notes' L))
 | .row n b o,σ=>.ok (σ.plan [o,.into n,.more n b o])
 | .more n b o,σ=>do
  let q<-sgE E 9 b σ.i
  if q.1 then .ok ((σ.at_ q.2).plan [o,.into n,.more n b o])else .ok σ
 | .want k s,σ=>do
  let j<-msE E k s σ.i
  .ok (σ.at_ j)
 | .box n o one,σ=>do
  let x<-σ.nd n
  let j<-msE E 9 o σ.i
  let e:=qfc o
  let τ:=((σ.at_ j).set n (x.brk' (brE E j))).plan [.tail n 9 e]
  if E.sign (pz j) e then .ok τ else .ok (τ.plan [.row n [44] (.item one)])
 | .listK n,σ=>do
  let x<-σ.nd n
  let q<-sgE E 9 [124,124] σ.i
  if q.1 then
   match x with
   | .mk _ t [y] br bl no ta=>match y with
    | .mk _ _ _ _ _ [] _=>.ok (((σ.at_ q.2).set n (.mk 15 t [y] br bl no ta)).plan [.row n [44] (.perh 3 [[60,45],[60,61]]),.want 9 [93]])
    | _=>.error .die
   | _=>.error .die
  else do
   let r<-sgE E 9 [124] σ.i
   if r.1 then .ok (((σ.at_ r.2).set n (x.txt' ⟨#[124]⟩)).plan [.expr 3,.into n,.tail n 9 [93]])
   else qcw E n 9 [93] σ
 | .perh lv ss,σ=>.ok (σ.plan [.expr lv,.perM lv ss])
 | .perM lv ss,σ=>match σ.n with
  | some j=>qct E lv j ss σ
  | none=>.error .stuck
 | .per2 op l,σ=>do
  let x<-σ.cur
  let τ<-qm0 ⟨op.toArray⟩ l x.1 σ
  .ok (τ.is σ.N.length)
 | .bodyO n,σ=>do
  let x<-σ.nd n
  .ok (σ.plan [.item (.expr 0),.blnk (!x.ls.isEmpty&&blE E σ.i)])
 | .blnk b,σ=>do
  let x<-σ.cur
  .ok (σ.set x.1 (x.2.blk' b))
 | .val,σ=>
  if E.sign (pz σ.i) [40]then qbg E σ
  else if E.sign (pz σ.i) [60,60]then .ok (qtd σ)
  else qjw E σ
 | .sized,σ=>do
  let a<-sgE E 9 [58] σ.i
  let b<-if a.1 then(txE E szk a.2).map (·.2)else .ok a.2
  let c<-sgE E 9 [47] b
  let d<-if c.1 then tyL E (E.to+2) c.2 else .ok c.2
  if σ.i<d then do
   let x<-σ.cur
   .ok (((σ.mv x.1).at_ d).got (nkt 7 (scE E (d-σ.i) σ.i) [x.2]))
  else .ok σ
 | .segm,σ=>.ok (σ.plan [.val,.sized])
 | .pair,σ=>.ok (σ.plan [.perh 1 [[61,62],[58,61]]])
 | .patC,σ=>.ok (qc8 σ .patt .guar)
 | .funC,σ=>.ok (qc8 (σ.new (nk 23 [])) (.box σ.N.length [40] (.expr 0)) .guar)
 | .tstC,σ=>.ok (qc8 σ (.noth 23) .alts)
 | .lstC,σ=>do
  let j<-msE E 8 [97,102,116,101,114] σ.i
  .ok (qc8 (σ.at_ j) .patt (.noth 24))
 | .patt,σ=>.ok ((σ.new (nk 23 [])).plan [.expr 1,.into σ.N.length])
 | .guar,σ=>do
  let τ:=σ.got (nk 24 [])
  let q<-sgE E 8 [119,104,101,110] σ.i
  if q.1 then .ok (qhb (τ.at_ q.2))else .ok τ
 | .alts,σ=>.ok (qhb σ)
 | .cond,σ=>.ok ((σ.new (nk 25 [])).plan [.row σ.N.length [44] (.expr 1)])
 | .body,σ=>.ok ((σ.new (nk 25 [])).plan [.row σ.N.length [44] (.bodyO σ.N.length)])
 | .noth k,σ=>.ok (σ.got (nk k []))
 | .arrow n,σ=>do
  let x<-σ.nd n
  let j<-msE E 9 [45,62] σ.i
  .ok ((σ.at_ j).set n (x.brk' (brE E j)))
 | .last n,σ=>do
  let x<-σ.nd n
  if E.word (pz σ.i) [97,102,116,101,114]then .ok ((σ.set n (x.txt' ⟨#[97,102,116,101,114]⟩)).plan [.item .lstC,.into n])else .ok σ
def qet(E:Env):Nat->PM->Rs PM
 | 0,_=>.error .stuck
 | m+1,σ=>match σ.k with
  | []=>.ok σ
  | s::r=>do
   let τ<-stp E s { σ with k:=r }
   qet E m τ
def Goes(E:Env)(σ τ:PM):Prop:= ∃m,∀f,qet E (m+f) σ=qet E f τ
def qtg(E:Env)(σ:PM):Prop:= ∃m,∀f,qet E (m+f) σ=.error .die
section
variable{E:Env}{σ τ υ:PM}
theorem Goes.refl(E:Env)(σ:PM):Goes E σ σ:=⟨0,fun f=>by rw[Nat.zero_add]⟩
theorem Goes.trans(h:Goes E σ τ)(k:Goes E τ υ):Goes E σ υ:=by
 obtain⟨m,h⟩:=h
 obtain⟨n,k⟩:=k
 exact⟨m+n,fun f=>by rw[Nat.add_assoc,h,k]⟩
theorem Goes.dies(h:Goes E σ τ)(k:qtg E τ):qtg E σ:=by
 obtain⟨m,h⟩:=h
 obtain⟨n,k⟩:=k
 exact⟨m+n,fun f=>by rw[Nat.add_assoc,h,k]⟩
theorem qda{i:Nat}{s:Stp}{K:List Stp}{u:Option Nat}{N:List (Option Nd)}{C:List Chn}{τ:PM}(h:stp E s ⟨i,K,u,N,C⟩=.ok τ):Goes E ⟨i,s::K,u,N,C⟩ τ:=
 ⟨1,fun f=>by
  rw[Nat.add_comm]
  show(stp E s ⟨i,K,u,N,C⟩ >>= fun τ=>qet E f τ)=_
  rw[h];rfl⟩
theorem qeq{i:Nat}{s:Stp}{K:List Stp}{u:Option Nat}{N:List (Option Nd)}{C:List Chn}(h:stp E s ⟨i,K,u,N,C⟩=.error .die):qtg E ⟨i,s::K,u,N,C⟩:=
 ⟨1,fun f=>by
  rw[Nat.add_comm]
  show(stp E s ⟨i,K,u,N,C⟩ >>= fun τ=>qet E f τ)=_
  rw[h];rfl⟩
end
def FrL{α:Type}(b:Nat)(L M:List α):Prop:=L.length<=M.length/\ ∀n,n<b->M[n]?=L[n]?
section
variable{α:Type}{b b':Nat}{L M R:List α}
theorem FrL.refl(b:Nat)(L:List α):FrL b L L:=⟨zD _,fun _ _=>rfl⟩
theorem FrL.trans(h:FrL b L M)(k:FrL b M R):FrL b L R:=⟨Nat.le_trans h.1 k.1,fun n hn=>(k.2 n hn).trans (h.2 n hn)⟩
theorem FrL.mono(h:FrL b L M)(hb:b'<=b):FrL b' L M:=⟨h.1,fun n hn=>h.2 n (Nat.lt_of_lt_of_le hn hb)⟩
theorem FrL.app(hb:b<=L.length)(R:List α):FrL b L (L++R):=⟨by rw[List.length_append];omega,fun n hn=>List.getElem?_append_left (by omega)⟩
theorem FrL.set{n:Nat}(hb:b<=n)(x:α):FrL b L (L.set n x):=⟨(by rw[zB];exact zD _),fun m hm=>List.getElem?_set_ne (by omega)⟩
theorem FrL.at(h:FrL b L M){n:Nat}(hn:n<b){x:α}(hx:L[n]?=some x):M[n]?=some x:=(h.2 n hn).trans hx
end
structure Fr (b c:Nat) (σ τ:PM):Prop where
 N:FrL b σ.N τ.N
 C:FrL c σ.C τ.C
section
variable{E:Env}{b c b' c':Nat}{σ τ υ:PM}{Q R:PM->Prop}{bad:Bool}
theorem Fr.refl(b c:Nat)(σ:PM):Fr b c σ σ:=⟨FrL.refl _ _,FrL.refl _ _⟩
theorem Fr.trans(h:Fr b c σ τ)(k:Fr b c τ υ):Fr b c σ υ:=⟨h.N.trans k.N,h.C.trans k.C⟩
theorem Fr.mono(h:Fr b c σ τ)(hb:b'<=b)(hc:c'<=c):Fr b' c' σ τ:=⟨h.N.mono hb,h.C.mono hc⟩
def Ends(E:Env)(bad:Bool)(b c:Nat)(σ:PM)(Q:PM->Prop):Prop:=(bad=true->qtg E σ)/\(bad=false-> ∃τ,Goes E σ τ/\Fr b c σ τ/\Q τ)
theorem Ends.goes(hg:Goes E σ τ)(hf:Fr b c σ τ)(h:Ends E bad b c τ Q):Ends E bad b c σ Q:=
 ⟨fun e=>hg.dies (h.1 e),fun e=>by
  obtain⟨υ,g,f,q⟩:=h.2 e
  exact⟨υ,hg.trans g,hf.trans f,q⟩⟩
theorem Ends.die(hd:qtg E σ)(hb:bad=true):Ends E bad b c σ Q:=⟨fun _=>hd,fun e=>(by rw[hb]at e;cases e)⟩
theorem Ends.here(hb:bad=false)(hq:Q σ):Ends E bad b c σ Q:=⟨fun e=>(by rw[hb]at e;cases e),fun _=>⟨σ,Goes.refl _ _,Fr.refl _ _ _,hq⟩⟩
theorem Ends.mono(h:Ends E bad b c σ Q)(hb:b'<=b)(hc:c'<=c)(hq: ∀τ,bad=false->Fr b c σ τ->Q τ->R τ):Ends E bad b' c' σ R:=
 ⟨h.1,fun e=>by
  obtain⟨υ,g,f,q⟩:=h.2 e
  exact⟨υ,g,f.mono hb hc,hq υ e f q⟩⟩
theorem Ends.bind{bad1:Bool}(h:Ends E bad1 b' c' σ R)(hb:b<=b')(hc:c<=c')(hbad:bad1=true->bad=true)(hg:bad1=false-> ∀τ,Fr b' c' σ τ->R τ->Ends E bad b c τ Q):Ends E bad b c σ Q:=by
 cases e:bad1
 ·obtain⟨τ,g,f,q⟩:=h.2 e
  exact(hg e τ f q).goes g (f.mono hb hc)
 ·exact Ends.die (h.1 e) (hbad e)
end
section
variable{E:Env}{i j:Nat}{k:Int}{s:Bs}
theorem qtk(h:(E.at_ (pz i)).1≠0):E.pk i<E.to:=by
 unfold Env.at_ at h
 split at h
 ·rename_i h1;exact h1.1
 ·exact absurd rfl h
theorem pz_lt(h:E.pk i<E.to)(h2:E.pk i=i):i<E.to/\(E.tk i).1≠11:=by
 have h3:i<E.to:=by rw[h2]at h;exact h
 refine⟨h3,fun e=>?_⟩
 rw[qfd h3 e]at h2
 have:=qix E (i:=i+1) (by omega)
 omega
theorem qjb(h:E.pk i<E.to)(h2:E.pk i=i):E.take (pz i)=(i,pz (i+1)):=by
 obtain⟨h3,h4⟩:=pz_lt h h2
 unfold Env.take pz
 simp[h4,show¬E.to<=i by omega]
theorem qja(h2:E.pk i≠i):(E.take (pz i)).2.bad=true:=by
 unfold Env.take pz
 by_cases h3:E.to<=i\/(E.tk i).1≠11
 ·exact absurd (qdl h3) h2
 ·have h4:(E.tk i).1=11:=by
   by_cases e:(E.tk i).1=11
   ·exact e
   ·exact absurd (.inr e) h3
  simp[h4,Ps.wrong]
theorem qd4{p:Ps}(h:p.bad=true):(E.take p).2.bad=true:=by
 unfold Env.take;simp[h,Ps.wrong]
theorem qbl{p:Ps}(h:p.bad=true):(E.want p k s).2.bad=true:=by
 unfold Env.want;split
 ·exact qd4 h
 ·exact qd4 rfl
theorem qc7{p:Ps}(b:Bool)(h:p.bad=true):(E.text p b).2.bad=true:=by
 unfold Env.text;cases b
 ·exact qd4 rfl
 ·exact qd4 h
theorem qc1{p:Ps}(h:p.bad=true):(E.notes p).2.bad=true:=h
theorem qbq{p:Ps}(h:p.bad=true)(hk:k≠0):E.is p k s=false:=by
 unfold Env.is Env.at_
 rw[if_neg (fun e=>by rw[h]at e;cases e.2)]
 simp[tk0,Ne.symm hk]
theorem qcz{n:Nd}{p:Ps}(h:p.bad=true):(qai E n p).p.bad=true:=qbl (qc1 h)
theorem qfr(h:E.is (pz i) k s=true):(E.at_ (pz i)).1=k/\(E.at_ (pz i)).2.1.toList=s:=by
 unfold Env.is at h
 simp only[Bool.and_eq_true,beq_iff_eq]at h
 exact h
theorem qxa(hk:k≠0)(h:sgE E k s i=.ok (true,j)):E.is (pz i) k s=true/\E.take (pz i)=(i,pz j)/\j=i+1/\E.at_ (pz i)=E.tk i/\i<E.to:=by
 unfold sgE at h
 split at h
 ·rename_i h1
  have h2:=qtk (by rw[(qfr h1).1];exact hk)
  unfold tkE at h
  split at h
  ·rename_i h3
   cases h
   exact⟨h1,qjb h2 h3,rfl,by rw[qeb h2 rfl];show E.tk (E.pk i)=_;rw[h3],by omega⟩
  ·cases h
 ·cases h
theorem sg_no(h:sgE E k s i=.ok (false,j)):E.is (pz i) k s=false/\j=i:=by
 unfold sgE at h
 split at h
 ·unfold tkE at h
  split at h<;>cases h
 ·rename_i h1
  cases h
  exact⟨by simpa using h1,rfl⟩
theorem sg_die{e:Bad}(h:sgE E k s i=.error e):e=.die/\E.is (pz i) k s=true/\(E.take (pz i)).2.bad=true:=by
 unfold sgE at h
 split at h
 ·rename_i h1
  unfold tkE at h
  split at h
  ·cases h
  ·rename_i h2
   cases h
   exact⟨rfl,h1,qja h2⟩
 ·cases h
theorem qbt(E:Env)(k:Int)(s:Bs)(i:Nat)(hk:k≠0):(sgE E k s i=.ok (true,i+1)/\E.is (pz i) k s=true/\E.take (pz i)=(i,pz (i+1))/\E.at_ (pz i)=E.tk i/\i<E.to)\/(sgE E k s i=.ok (false,i)/\E.is (pz i) k s=false)\/(sgE E k s i=.error .die/\E.is (pz i) k s=true/\(E.take (pz i)).2.bad=true):=by
 rcases h:sgE E k s i with e | ⟨b,j⟩
 ·obtain⟨rfl,h1,h2⟩:=sg_die h
  exact .inr (.inr ⟨rfl,h1,h2⟩)
 ·cases b
  ·obtain⟨h1,rfl⟩:=sg_no h
   exact .inr (.inl ⟨rfl,h1⟩)
  ·obtain⟨h1,h2,rfl,h3,h4⟩:=qxa hk h
   exact .inl ⟨rfl,h1,h2,h3,h4⟩
theorem qbe(E:Env)(k:Int)(s:Bs)(i:Nat)(hk:k≠0):(msE E k s i=.ok (i+1)/\E.want (pz i) k s=(i,pz (i+1))/\E.is (pz i) k s=true/\E.take (pz i)=(i,pz (i+1))/\i<E.to)\/(msE E k s i=.error .die/\(E.want (pz i) k s).2.bad=true/\(E.is (pz i) k s=true->(E.take (pz i)).2.bad=true)):=by
 rcases qbt E k s i hk with⟨h1,h2,h3,h4,h5⟩ | ⟨h1,h2⟩ | ⟨h1,h2,h3⟩
 ·exact .inl ⟨by unfold msE;rw[h1];rfl,by unfold Env.want;rw[if_pos h2,h3],h2,h3,h5⟩
 ·exact .inr ⟨by unfold msE;rw[h1];rfl,by unfold Env.want;rw[h2];exact qd4 rfl,fun e=>by rw[h2]at e;cases e⟩
 ·exact .inr ⟨by unfold msE;rw[h1];rfl,by unfold Env.want;rw[if_pos h2];exact h3,fun _=>h3⟩
theorem qcn(E:Env)(f:Int->Bool)(i:Nat)(h0:f 0=false):(txE E f i=.ok ((E.tk i).2.1,i+1)/\E.text (pz i) (f (E.at_ (pz i)).1)=((E.tk i).2.1,pz (i+1))/\f (E.at_ (pz i)).1=true/\E.at_ (pz i)=E.tk i/\i<E.to)\/(txE E f i=.error .die/\(E.text (pz i) (f (E.at_ (pz i)).1)).2.bad=true):=by
 unfold txE nxE
 by_cases hf:f (E.at_ (pz i)).1=true
 ·have h2:=qtk (i:=i) (E:=E) (fun e=>by rw[e,h0]at hf;cases hf)
  rw[if_pos hf]
  unfold tkE
  by_cases h3:E.pk i=i
  ·refine .inl ⟨?_,?_,hf,?_,by omega⟩
   ·rw[if_pos h3,qeb h2 rfl];show Except.ok (((E.tk (E.pk i)).2.1),i+1)=_;rw[h3]
   ·unfold Env.text;rw[hf,if_pos rfl,qjb h2 h3];rfl
   ·rw[qeb h2 rfl];show E.tk (E.pk i)=_;rw[h3]
  ·refine .inr ⟨by rw[if_neg h3];rfl,?_⟩
   unfold Env.text;rw[hf,if_pos rfl];exact qja h3
 ·refine .inr ⟨by rw[if_neg hf],?_⟩
  rw[show f (E.at_ (pz i)).1=false by simpa using hf]
  exact qd4 rfl
theorem qop(i k:Nat):E.broken (pz i) k=decide (0<E.nl ((k+1:Nat):Int)):=by
 unfold Env.broken pz
 simp
end
theorem qk6(E:Env): ∀n i,E.to-i=n-> ∀k,i<=k->k<E.pk i->(E.tk k).1=11
 | 0,i,hn,k,h1,h2=>by
  have:=qex E (E.to-i) i
  unfold Env.pk at h2
  omega
 | n+1,i,hn,k,h1,h2=>by
  by_cases hc:(E.tk i).1=11
  ·by_cases hk:k=i
   ·rw[hk];exact hc
   ·rw[qfd (by omega) hc]at h2
    exact qk6 E n (i+1) (by omega) k (by omega) h2
  ·rw[qdl (.inr hc)]at h2
   omega
theorem qv9(E:Env)(i:Nat): ∀p,i<=p->p<=E.to->(∀k,i<=k->k<p->(E.tk k).1=11)->E.pk p=E.pk i:=by
 intro p
 induction p with
 | zero=>intro h _ _;obtain rfl:i=0:=by omega
         rfl
 | succ p ih=>
  intro h1 h2 h3
  by_cases he:i=p+1
  ·rw[he]
  ·rw[<-ih (by omega) (by omega) (fun k a b=>h3 k a (by omega)),qfd (i:=p) (by omega) (h3 p (by omega) (by omega))]
def Nd.nof:Nd->List ByteArray | .mk _ _ _ _ _ no _=>no
def EndsR(E:Env)(bad:Bool)(b c:Nat)(σ:PM)(Q:PM->Prop)(r:Rs PM):Prop:=(∃τ,r=.ok τ/\Fr b c σ τ/\Ends E bad b c τ Q)\/(r=.error .die/\bad=true)
def An(K:List Stp)(b:Nat)(x:Nd)(i:Nat)(τ:PM):Prop:= ∃j N C,τ=⟨i,K,some j,N,C⟩/\b<=j/\N[j]?=some (some x)/\x.nof=[]
def At(K:List Stp)(n:Nat)(x:Nd)(i:Nat)(τ:PM):Prop:= ∃N C,τ=⟨i,K,some n,N,C⟩/\N[n]?=some (some x)
section
variable{E:Env}{b c:Nat}{i j n:Nat}{s:Stp}{K:List Stp}{u:Option Nat}{N:List (Option Nd)}{C:List Chn}{x y:Nd}{Q:PM->Prop}{bad:Bool}
theorem Ends.step(h:EndsR E bad b c ⟨i,s::K,u,N,C⟩ Q (stp E s ⟨i,K,u,N,C⟩)):Ends E bad b c ⟨i,s::K,u,N,C⟩ Q:=by
 rcases h with⟨τ,h1,h2,h3⟩ | ⟨h1,h2⟩
 ·exact h3.goes (qda h1) h2
 ·exact Ends.die (qeq h1) h2
theorem EndsR.re{i':Nat}{k k':List Stp}{u':Option Nat}{r:Rs PM}(h:EndsR E bad b c ⟨i',k',u',N,C⟩ Q r):EndsR E bad b c ⟨i,k,u,N,C⟩ Q r:=by
 rcases h with⟨τ,h1,h2,h3⟩ | h
 ·exact .inl ⟨τ,h1,⟨h2.N,h2.C⟩,h3⟩
 ·exact .inr h
theorem qey(i:Nat):(pz i).i=i:=rfl
theorem qfb{k:List Stp}(h:N[n]?=some (some x)):(⟨i,k,u,N,C⟩:PM).nd n=.ok x:=by
 unfold PM.nd;rw[show(⟨i,k,u,N,C⟩:PM).N=N from rfl,h]
theorem qdr{k:List Stp}(h:N[j]?=some (some x)):(⟨i,k,some j,N,C⟩:PM).cur=.ok (j,x):=by
 unfold PM.cur
 show((⟨i,k,some j,N,C⟩:PM).nd j).map (fun x=>(j,x))=_
 rw[qfb h];rfl
theorem qad{α:Type}{L:List α}{n:Nat}{x:α}(h:L[n]?=some x):n<L.length:=(List.getElem?_eq_some_iff.1 h).1
theorem qb4{α:Type}{L:List α}{n:Nat}{x:α}(y:α)(h:L[n]?=some x):(L.set n y)[n]?=some y:=zA (qad h)
theorem qam{α:Type}(L:List α)(y:α):(L++[y])[L.length]?=some y:=by
 rw[List.getElem?_append_right (zD _),Nat.sub_self];rfl
theorem frN{k k':List Stp}{i':Nat}{u':Option Nat}{M:List (Option Nd)}(h:FrL b N M):Fr b c ⟨i,k,u,N,C⟩ ⟨i',k',u',M,C⟩:=⟨h,FrL.refl _ _⟩
theorem frC{k k':List Stp}{i':Nat}{u':Option Nat}{D:List Chn}(h:FrL c C D):Fr b c ⟨i,k,u,N,C⟩ ⟨i',k',u',N,D⟩:=⟨FrL.refl _ _,h⟩
theorem frNC{k k':List Stp}{i':Nat}{u':Option Nat}{M:List (Option Nd)}{D:List Chn}(h:FrL b N M)(g:FrL c C D):Fr b c ⟨i,k,u,N,C⟩ ⟨i',k',u',M,D⟩:=⟨h,g⟩
theorem qgc{k:Int}{t:Bs}(hk:k≠0)(h1:(E.want (pz i) k t).2.bad=true->bad=true)(h2:E.want (pz i) k t=(i,pz (i+1))->Ends E bad b c ⟨i+1,K,u,N,C⟩ Q):Ends E bad b c ⟨i,.want k t::K,u,N,C⟩ Q:=by
 refine Ends.step ?_
 rcases qbe E k t i hk with⟨m1,m2,-,-,-⟩ | ⟨m1,m2,-⟩
 ·refine .inl ⟨⟨i+1,K,u,N,C⟩,?_,frN (FrL.refl _ _),h2 m2⟩
  show(msE E k t i >>= fun j=>_)=_
  rw[m1];rfl
 ·refine .inr ⟨?_,h1 m2⟩
  show(msE E k t i >>= fun j=>_)=_
  rw[m1];rfl
theorem qar(hx:N[j]?=some (some x))(hy:N[n]?=some (some y))(hne:j≠n)(hbj:b<=j)(hbn:b<=n)(h:Ends E bad b c ⟨i,K,some n,(N.set j none).set n (some (y.add [x])),C⟩ Q):Ends E bad b c ⟨i,.into n::K,some j,N,C⟩ Q:=by
 refine Ends.step (.inl ⟨_,?_,frN ((FrL.set hbj none).trans (FrL.set hbn _)),h⟩)
 show((⟨i,K,some j,N,C⟩:PM).cur >>= fun x=>_)=_
 rw[qdr hx]
 show((⟨i,K,some j,N,C⟩:PM).nd n >>= fun y=>_)=_
 rw[qfb hy]
 show(if j=n then _ else _)=_
 rw[if_neg hne];rfl
theorem qb7(hy:N[n]?=some (some y)):((N.set j none).set n (some (y.add [x])))[n]?=some (some (y.add [x])):=
 zA (by rw[zB];exact qad hy)
theorem qd1{T:List ByteArray}(hx:N[j]?=some (some x))(hbj:b<=j)(h:Ends E bad b c ⟨i,K,some j,N.set j (some (x.notes' T)),C⟩ Q):Ends E bad b c ⟨i,.nots T::K,some j,N,C⟩ Q:=by
 refine Ends.step (.inl ⟨_,?_,frN (FrL.set hbj _),h⟩)
 show((⟨i,K,some j,N,C⟩:PM).cur >>= fun x=>_)=_
 rw[qdr hx];rfl
theorem qp4{t:Bool}(hx:N[j]?=some (some x))(hbj:b<=j)(h:Ends E bad b c ⟨i,K,some j,N.set j (some (x.blk' t)),C⟩ Q):Ends E bad b c ⟨i,.blnk t::K,some j,N,C⟩ Q:=by
 refine Ends.step (.inl ⟨_,?_,frN (FrL.set hbj _),h⟩)
 show((⟨i,K,some j,N,C⟩:PM).cur >>= fun x=>_)=_
 rw[qdr hx];rfl
theorem qeh{k:Int}{t:Bs}(hk:k≠0)(hx:N[n]?=some (some x)):(qcw E n k t ⟨i,K,u,N,C⟩=.ok ⟨(ntE E i).2+1,K,some n,N.set n (some (x.tail' (ntE E i).1)),C⟩/\E.want (pz (ntE E i).2) k t=((ntE E i).2,pz ((ntE E i).2+1)))\/(qcw E n k t ⟨i,K,u,N,C⟩=.error .die/\(E.want (pz (ntE E i).2) k t).2.bad=true):=by
 have e:qcw E n k t ⟨i,K,u,N,C⟩=(msE E k t (ntE E i).2 >>= fun j=>.ok ((((⟨i,K,u,N,C⟩:PM).set n (x.tail' (ntE E i).1)).at_ j).is n)):=by
  unfold qcw
  rw[qfb hx];rfl
 rcases qbe E k t (ntE E i).2 hk with⟨m1,m2,-,-,-⟩ | ⟨m1,m2,-⟩
 ·exact .inl ⟨by rw[e,m1];rfl,m2⟩
 ·exact .inr ⟨by rw[e,m1];rfl,m2⟩
theorem qer{k:Int}{t:Bs}(hk:k≠0)(hx:N[n]?=some (some x))(hbn:b<=n)(h1:(E.want (pz (ntE E i).2) k t).2.bad=true->bad=true)(h2:E.want (pz (ntE E i).2) k t=((ntE E i).2,pz ((ntE E i).2+1))->Ends E bad b c ⟨(ntE E i).2+1,K,some n,N.set n (some (x.tail' (ntE E i).1)),C⟩ Q):Ends E bad b c ⟨i,.tail n k t::K,u,N,C⟩ Q:=by
 refine Ends.step ?_
 rcases qeh (u:=u) (K:=K) (C:=C) hk hx with⟨m1,m2⟩ | ⟨m1,m2⟩
 ·exact .inl ⟨_,m1,frN (FrL.set hbn _),h2 m2⟩
 ·exact .inr ⟨m1,h1 m2⟩
theorem qci{t:Bs}{o:Stp}(h1:(E.take (pz i)).2.bad=true->E.sign (pz i) t=true->bad=true)(h2:E.sign (pz i) t=true->E.take (pz i)=(i,pz (i+1))->Ends E bad b c ⟨i+1,o:: .into n:: .more n t o::K,u,N,C⟩ Q)(h3:E.sign (pz i) t=false->Ends E bad b c ⟨i,K,u,N,C⟩ Q):Ends E bad b c ⟨i,.more n t o::K,u,N,C⟩ Q:=by
 refine Ends.step ?_
 show EndsR E bad b c _ Q (sgE E 9 t i >>= fun q=>_)
 rcases qbt E 9 t i (by decide)with⟨m1,m2,m3,-,-⟩ | ⟨m1,m2⟩ | ⟨m1,m2,m3⟩
 ·rw[m1];exact .inl ⟨_,rfl,frN (FrL.refl _ _),h2 m2 m3⟩
 ·rw[m1];exact .inl ⟨_,rfl,frN (FrL.refl _ _),h3 m2⟩
 ·rw[m1];exact .inr ⟨rfl,h1 m3 m2⟩
theorem qcr{t:Bs}{o:Stp}(h:Ends E bad b c ⟨i,o:: .into n:: .more n t o::K,u,N,C⟩ Q):Ends E bad b c ⟨i,.row n t o::K,u,N,C⟩ Q:=
 Ends.step (.inl ⟨_,rfl,frN (FrL.refl _ _),h⟩)
theorem qch{o:Stp}(h:Ends E bad b c ⟨(ntE E i).2,o:: .nots (ntE E i).1::K,u,N,C⟩ Q):Ends E bad b c ⟨i,.item o::K,u,N,C⟩ Q:=
 Ends.step (.inl ⟨_,rfl,frN (FrL.refl _ _),h⟩)
theorem nt_pk(E:Env)(i:Nat):E.pk (ntE E i).2=E.pk i:=by
 show E.pk (max i (E.pk i))=E.pk i
 by_cases h:i<=E.to
 ·have h1:=qix E h
  rw[Nat.max_eq_right h1.1]
  refine qv9 E i (E.pk i) h1.1 h1.2 ?_
  exact qk6 E _ i rfl
 ·have e:E.pk i=i:=qdl (.inl (by omega))
  rw[e,Nat.max_self,e]
theorem nt_at(E:Env)(i:Nat):E.at_ (pz (ntE E i).2)=E.at_ (pz i):=by
 unfold Env.at_
 show(if E.pk (ntE E i).2<E.to/\false=false then E.tk (E.pk (ntE E i).2)else tk0)=(if E.pk i<E.to/\false=false then E.tk (E.pk i)else tk0)
 rw[nt_pk]
theorem qgt(E:Env)(i:Nat)(k:Int)(t:Bs):E.is (pz (ntE E i).2) k t=E.is (pz i) k t:=by
 unfold Env.is;rw[nt_at]
end
def LeO{α:Type}(a b:Option α):Prop:= ∀o,a=some o->b=some o
theorem LeO.refl{α:Type}(a:Option α):LeO a a:=fun _ h=>h
theorem LeO.ite{α:Type}{c:Prop}[Decidable c]{a a' b b':Option α}(h:LeO a a')(k:LeO b b'):LeO (if c then a else b) (if c then a' else b'):=by
 split
 ·exact h
 ·exact k
theorem LeO.bind{α β:Type}{a a':Option α}{f f':α->Option β}(h:LeO a a')(k: ∀x,LeO (f x) (f' x)):LeO (a.bind f) (a'.bind f'):=fun o ho=>by
 obtain⟨x,h1,h2⟩:=Option.bind_eq_some_iff.1 ho
 rw[h x h1];exact k x o h2
theorem qo5{E:Env}{R S:Cmd->Ps->Option Out}(h: ∀c p,LeO (R c p) (S c p))(c:Cmd)(p:Ps):LeO (qb6 E R c p) (qb6 E S c p):=by
 cases c<;>simp only[qb6]<;>repeat' (first | with_reducible exact h _ _ | with_reducible exact LeO.refl _ | with_reducible refine LeO.ite ?_ ?_ | with_reducible refine LeO.bind ?_ (fun _=>?_))
theorem qpp{α:Type}{c:Prop}[Decidable c](a b:α):(if c then some a else some b)=some (if c then a else b):=by split<;>rfl
theorem qo6{E:Env}(S:Cmd->Ps->Out)(c:Cmd)(p:Ps):qb6 E (fun c p=>some (S c p)) c p=some (qa6 E S c p):=by
 cases c<;>simp only[qb6,qa6,Option.bind_some,qpp]<;>rfl
theorem qfz{E:Env}: ∀(n:Nat) (c:Cmd) (p:Ps) (o:Out),qal E n c p=some o->qft E n c p=o
 | 0,_,_,_,h=>by cases h
 | n+1,c,p,o,h=>by
  have h1:LeO (qb6 E (qal E n) c p) (qb6 E (fun c p=>some (qft E n c p)) c p):=qo5 (fun c p o ho=>by rw[qfz n c p o ho]) c p
  have h2:=h1 o h
  rw[qo6]at h2
  exact Option.some.inj h2
theorem qb3{E:Env}{n:Nat}{c:Cmd}{p:Ps}{o:Out}(h:qal E n c p=some o)(hb:p.bad=true):o.p.bad=true:=by
 have h1:=qg0 E n c p
 rw[qfz n c p o h,qzm hb]at h1
 unfold qak at h1
 split at h1
 ·assumption
 ·omega
def qhj:List ByteArray->Nd->Nd
 | [],x=>x
 | a::r,x=>qhj r (nkt 13 a [x])
theorem qh9: ∀(T:List ByteArray) (x:Nd),x.nof=[]->(qhj T x).nof=[]
 | [],_,h=>h
 | a::r,x,_=>qh9 r _ rfl
theorem qh8: ∀(T S:List ByteArray) (x:Nd),qhj (T++S) x=qhj S (qhj T x)
 | [],_,_=>rfl
 | a::r,S,x=>qh8 r S _
theorem qm2{b i:Nat}{K:List Stp}{u:Option Nat}{C:List Chn}: ∀(T:List ByteArray) (n:Nat) (N:List (Option Nd)) (x:Nd),N[n]?=some (some x)->b<=n-> ∃n' N',qfu T n ⟨i,K,u,N,C⟩=.ok (n',⟨i,K,u,N',C⟩)/\N'[n']?=some (some (qhj T x))/\b<=n'/\FrL b N N'
 | [],n,N,x,h,hb=>⟨n,N,rfl,h,hb,FrL.refl _ _⟩
 | a::r,n,N,x,h,hb=>by
  obtain⟨n',N',h1,h2,h3,h4⟩:=qm2 (b:=b) (i:=i) (K:=K) (u:=u) (C:=C) r N.length ((N.set n none)++[some (nkt 13 a [x])]) (nkt 13 a [x]) (by
   rw[show N.length=(N.set n none).length from List.length_set.symm];exact qam _ _) (by have:=qad h;omega)
  refine⟨n',N',?_,h2,h3,((FrL.set hb none).trans (FrL.app (by rw[zB];have:=qad h;omega) _)).trans h4⟩
  show((⟨i,K,u,N,C⟩:PM).nd n >>= fun x=>_)=_
  rw[qfb h]
  exact h1
def HE(E:Env)(n:Nat):Prop:= ∀lv i o,qal E n (.expr lv) (pz i)=some o-> ∀K u N C,Ends E o.p.bad N.length C.length ⟨i,.expr lv::K,u,N,C⟩ (An K N.length o.x o.p.i)
theorem qca{p:Ps}(h:p.bad=false):p=pz p.i:=by
 cases p with
 | mk i b=>cases h;rfl
section
variable{E:Env}{b c:Nat}{K:List Stp}
theorem qwz(i:Nat):(((E.at_ (pz i)).1 !=9&&(E.at_ (pz i)).1 !=8)=true/\opE E i=⟨#[]⟩)\/(((E.at_ (pz i)).1 !=9&&(E.at_ (pz i)).1 !=8)=false/\opE E i=(E.at_ (pz i)).2.1):=by
 unfold opE nxE
 by_cases h9:(E.at_ (pz i)).1=9
 ·exact .inr ⟨by simp[h9],if_pos (.inl h9)⟩
 ·by_cases h8:(E.at_ (pz i)).1=8
  ·exact .inr ⟨by simp[h8],if_pos (.inr h8)⟩
  ·exact .inl ⟨by simp[h9,h8],if_neg (by simp[h9,h8])⟩
theorem qwc:bn []=0:=by decide
theorem qi5:(⟨#[]⟩:ByteArray).toList=[]:=by unfold ByteArray.toList ByteArray.toList.loop;simp[ByteArray.size]
theorem qqx:pf []=0:=by decide
theorem qw1{i:Nat}(h:(E.at_ (pz i)).1=9\/(E.at_ (pz i)).1=8):(tkE E i=.ok (i+1)/\E.take (pz i)=(i,pz (i+1))/\i<E.to/\E.at_ (pz i)=E.tk i)\/(tkE E i=.error .die/\(E.take (pz i)).2.bad=true):=by
 have h2:=qtk (i:=i) (E:=E) (by rcases h with h | h<;>rw[h]<;>decide)
 unfold tkE
 by_cases h3:E.pk i=i
 ·rw[if_pos h3]
  exact .inl ⟨rfl,qjb h2 h3,by omega,by rw[qeb h2 rfl];show E.tk (E.pk i)=_;rw[h3]⟩
 ·rw[if_neg h3];exact .inr ⟨rfl,qja h3⟩
theorem qgm{n:Nat}(hE: ∀m,m<n->HE E m): ∀m,m<=n-> ∀lv left has i o,qal E m (.exprL lv left has) (pz i)=some o-> ∀(N:List (Option Nd)) (C:List Chn) u cc h l,C[cc]?=some h->h.lf=some l->N[l]?=some (some left)->left.nof=[]->h.hs=has->max h.lv 1=max lv 1->b<=l->c<=cc->
 EndsR E o.p.bad b c ⟨i,K,u,N,C⟩ (An K b (qhj (zC h.ct ⟨#[99,97,116,99,104]⟩) o.x) o.p.i) (qbr E cc ⟨i,K,u,N,C⟩)
 | 0,_,_,_,_,_,_,h,_,_,_,_,_,_,_,_,_,_,_,_,_,_=>by cases h
 | m+1,hm,lv,left,has,i,o,h,N,C,u,cc,ch,l,hc,hlf,hl,hno,hhs,hlv,hbl,hcc=>by
  have hch:(⟨i,K,u,N,C⟩:PM).ch cc=.ok ch:=by
   unfold PM.ch;rw[show(⟨i,K,u,N,C⟩:PM).C=C from rfl,hc]
  have e0:qbr E cc ⟨i,K,u,N,C⟩=(if(bn (opE E i).toList:Int)<max ch.lv 1\/ch.hs< (lf (opE E i).toList:Int)then(qfu (zC ch.ct ⟨#[99,97,116,99,104]⟩) l ⟨i,K,u,N,C⟩ >>= fun r=>.ok (r.2.is r.1))else(tkE E i >>= fun j=>.ok ((((⟨i,K,u,N,C⟩:PM).at_ j).plan [.expr (rt (opE E i).toList:Int),.join cc (opE E i) (bn (opE E i).toList)])))):=by
   unfold qbr
   rw[hch]
   show(match ch.lf with | none=>_ | some l=>_)=_
   rw[hlf]
  have hstop: ∀(o':Out),o'= { x:=left,p:=pz i } ->EndsR E o'.p.bad b c ⟨i,K,u,N,C⟩ (An K b (qhj (zC ch.ct ⟨#[99,97,116,99,104]⟩) o'.x) o'.p.i) (qfu (zC ch.ct ⟨#[99,97,116,99,104]⟩) l ⟨i,K,u,N,C⟩ >>= fun r=>.ok (r.2.is r.1)):=by
   rintro o' rfl
   obtain⟨n',N',h1,h2,h3,h4⟩:=qm2 (b:=b) (i:=i) (K:=K) (u:=u) (C:=C) (zC ch.ct ⟨#[99,97,116,99,104]⟩) l N left hl hbl
   refine .inl ⟨⟨i,K,some n',N',C⟩,by rw[h1];rfl,frN h4,Ends.here rfl ⟨n',N',C,rfl,h3,h2,qh9 _ _ hno⟩⟩
  have h':(if(pz i).bad=true then some ({ x:=left,p:=pz i } :Out)else
   if(((E.at_ (pz i)).1 !=9&&(E.at_ (pz i)).1 !=8)||(bn (E.at_ (pz i)).2.1.toList:Int)==0||decide ((bn (E.at_ (pz i)).2.1.toList:Int)<lv)||decide (has< (lf (E.at_ (pz i)).2.1.toList:Int)))=true then some { x:=left,p:=pz i } else
   (qal E m (.expr (rt (E.at_ (pz i)).2.1.toList:Int)) (E.take (pz i)).2).bind fun r=>qal E m (.exprL lv (nkt 14 (E.at_ (pz i)).2.1 [left,r.x]) (bn (E.at_ (pz i)).2.1.toList:Int)) r.p)=some o:=h
  rw[if_neg (by simp[pz])]at h'
  rw[e0]
  rcases qwz (E:=E) i with⟨q1,q2⟩ | ⟨q1,q2⟩
  ·rw[if_pos (by rw[q1];rfl)]at h'
   rw[q2]
   rw[if_pos (.inl (by
    rw[qi5,qwc];have:(1:Int)<=max ch.lv 1:=Int.le_max_right _ _
    omega))]
   exact hstop o (Option.some.inj h').symm
  ·rw[q2]
   by_cases hc2:(bn (E.at_ (pz i)).2.1.toList:Int)<max ch.lv 1\/ch.hs< (lf (E.at_ (pz i)).2.1.toList:Int)
   ·rw[if_pos hc2]
    have hx:(((E.at_ (pz i)).1 !=9&&(E.at_ (pz i)).1 !=8)||(bn (E.at_ (pz i)).2.1.toList:Int)==0||decide ((bn (E.at_ (pz i)).2.1.toList:Int)<lv)||decide (has< (lf (E.at_ (pz i)).2.1.toList:Int)))=true:=by
     rw[q1]
     rcases hc2 with h9 | h9
     ·rw[hlv]at h9
      by_cases h0:(bn (E.at_ (pz i)).2.1.toList:Int)=0
      ·rw[h0];rfl
      ·have:(bn (E.at_ (pz i)).2.1.toList:Int)<lv:=by
        rcases Int.le_total lv 1 with h8 | h8
        ·rw[Int.max_eq_right h8]at h9;omega
        ·rw[Int.max_eq_left h8]at h9;exact h9
       simp[this]
     ·rw[hhs]at h9;simp[h9]
    rw[if_pos hx]at h'
    exact hstop o (Option.some.inj h').symm
   ·rw[if_neg hc2]
    have hx: ¬(((E.at_ (pz i)).1 !=9&&(E.at_ (pz i)).1 !=8)||(bn (E.at_ (pz i)).2.1.toList:Int)==0||decide ((bn (E.at_ (pz i)).2.1.toList:Int)<lv)||decide (has< (lf (E.at_ (pz i)).2.1.toList:Int)))=true:=by
     rw[q1]
     rw[not_or,hlv,hhs]at hc2
     obtain⟨h8,h9⟩:=hc2
     have h7:(1:Int)<=max lv 1:=Int.le_max_right _ _
     have h6:lv<=max lv 1:=Int.le_max_left _ _
     simp only[Bool.false_or,Bool.or_eq_true,beq_iff_eq,decide_eq_true_eq,not_or]
     exact⟨⟨by omega,by omega⟩,h9⟩
    rw[if_neg hx]at h'
    obtain⟨r,hr1,hr2⟩:=Option.bind_eq_some_iff.1 h'
    have hk:(E.at_ (pz i)).1=9\/(E.at_ (pz i)).1=8:=by
     simp only[Bool.and_eq_false_iff,bne_eq_false_iff_eq]at q1
     exact q1
    rcases qw1 hk with⟨t1,t2,-,-⟩ | ⟨t1,t2⟩
    ·rw[t1]
     rw[t2]at hr1
     refine .inl ⟨_,rfl,frN (FrL.refl _ _),?_⟩
     have hll:=qad hl
     refine Ends.bind (hE m (by omega) _ _ _ hr1 (.join cc (E.at_ (pz i)).2.1 (bn (E.at_ (pz i)).2.1.toList)::K) u N C) (by omega) (by have:=qad hc;omega) (fun e=>qb3 hr2 e) (fun e τ hf hq=>?_)
     obtain⟨j,N1,C1,rfl,hj1,hj2,hj3⟩:=hq
     rw[qca e]at hr2
     have hc1:C1[cc]?=some ch:=hf.C.at (qad hc) hc
     have hl1:N1[l]?=some (some left):=hf.N.at hll hl
     have hne: ¬l=j:=by omega
     refine Ends.step ?_
     show EndsR E o.p.bad b c _ _ ((⟨r.p.i,K,some j,N1,C1⟩:PM).ch cc >>= fun h=>_)
     rw[show(⟨r.p.i,K,some j,N1,C1⟩:PM).ch cc=.ok ch by unfold PM.ch;rw[show(⟨r.p.i,K,some j,N1,C1⟩:PM).C=C1 from rfl,hc1]]
     show EndsR E o.p.bad b c _ _ ((⟨r.p.i,K,some j,N1,C1⟩:PM).cur >>= fun x=>_)
     rw[qdr hj2]
     show EndsR E o.p.bad b c _ _ (match ch.lf with | none=>_ | some l=>_)
     rw[hlf]
     show EndsR E o.p.bad b c _ _ (qm0 (E.at_ (pz i)).2.1 l j ⟨r.p.i,K,some j,N1,C1⟩ >>= fun τ=>_)
     have htwo:qm0 (E.at_ (pz i)).2.1 l j ⟨r.p.i,K,some j,N1,C1⟩=.ok ⟨r.p.i,K,some j,((N1.set l none).set j none)++[some (nkt 14 (E.at_ (pz i)).2.1 [left,r.x])],C1⟩:=by
      unfold qm0
      rw[qfb hl1,qfb hj2]
      show(if l=j then _ else _)=_
      rw[if_neg hne];rfl
     rw[htwo]
     have hN2:(((N1.set l none).set j none)++[some (nkt 14 (E.at_ (pz i)).2.1 [left,r.x])])[N1.length]?=some (some (nkt 14 (E.at_ (pz i)).2.1 [left,r.x])):=by
      rw[show N1.length=((N1.set l none).set j none).length by rw[zB,zB]];exact qam _ _
     have hlN:=qad hl1
     have hrec:=qgm hE m (by omega) lv (nkt 14 (E.at_ (pz i)).2.1 [left,r.x]) (bn (E.at_ (pz i)).2.1.toList:Int) r.p.i o hr2 (((N1.set l none).set j none)++[some (nkt 14 (E.at_ (pz i)).2.1 [left,r.x])]) (C1.set cc { ch with lf:=some N1.length,hs:=(bn (E.at_ (pz i)).2.1.toList:Int) }) (some j) cc { ch with lf:=some N1.length,hs:=(bn (E.at_ (pz i)).2.1.toList:Int) } N1.length (qb4 _ hc1) rfl hN2 rfl rfl hlv (by omega) hcc
     have hfr:Fr b c ⟨r.p.i,.join cc (E.at_ (pz i)).2.1 (bn (E.at_ (pz i)).2.1.toList)::K,some j,N1,C1⟩ ⟨r.p.i,K,some j,((N1.set l none).set j none)++[some (nkt 14 (E.at_ (pz i)).2.1 [left,r.x])],C1.set cc { ch with lf:=some N1.length,hs:=(bn (E.at_ (pz i)).2.1.toList:Int) }⟩:=
      frNC (((FrL.set hbl _).trans (FrL.set (by omega) _)).trans (FrL.app (by rw[zB,zB];omega) _)) (FrL.set hcc _)
     rcases hrec with⟨τ',g1,g2,g3⟩ | ⟨g1,g2⟩
     ·exact .inl ⟨τ',g1,hfr.trans g2,g3⟩
     ·exact .inr ⟨g1,g2⟩
    ·rw[t1]
     exact .inr ⟨rfl,qb3 hr2 (qb3 hr1 t2)⟩
end
theorem ba_of{t:ByteArray}{s:Bs}(h:t.toList=s):(⟨s.toArray⟩:ByteArray)=t:=by
 subst h
 rw[ByteArray.toList_eq]
section
variable{E:Env}{b c:Nat}{K:List Stp}{i:Nat}
def qhn(t:Bs):Prop:=t=[41]\/t=[125]\/t=[93]\/t=[62,62]
theorem qr1{t:Bs}(ht:qhn t)(h:E.sign (pz i) t=true)(u:Option Nat)(N:List (Option Nd))(C:List Chn):qbm E ⟨i,K,u,N,C⟩=.error .die:=by
 obtain⟨h1,h2⟩:=qfr h
 have h1:(nxE E i).1=9:=h1
 have h2:(nxE E i).2.1.toList=t:=h2
 unfold qbm
 show(if(nxE E i).1=9 then _ else _)=_
 rw[if_pos h1]
 show(if(nxE E i).2.1.toList=[40]then _ else if(nxE E i).2.1.toList=[123]then _ else if(nxE E i).2.1.toList=[91]then _ else if(nxE E i).2.1.toList=[60,60]then _ else if(nxE E i).2.1.toList=[35]then _ else _)=_
 rw[h2]
 rcases ht with rfl | rfl | rfl | rfl<;>rfl
theorem qz9{k:Int}{t s:Bs}(h:E.is (pz i) k t=true)(k':Int)(hk:k≠k'):E.is (pz i) k' s=false:=by
 obtain⟨h1,h2⟩:=qfr h
 unfold Env.is
 rw[h1]
 simp[hk]
theorem qge{t:Bs}(ht:qhn t)(h:E.sign (pz i) t=true)(lv:Int)(u:Option Nat)(N:List (Option Nd))(C:List Chn):qtg E ⟨i,.expr lv::K,u,N,C⟩:=by
 obtain⟨h1,h2⟩:=qfr h
 have hw:E.word (pz i) [99,97,116,99,104]=false:=qz9 h 8 (by decide)
 have hc:ctL E lv (E.to+2) i 0=.ok (0,i):=by
  unfold ctL
  rw[hw,Bool.and_false];rfl
 have hp:pfL E (E.to+2) i []=.ok ([],i):=by
  unfold pfL
  have e:opE E i=(E.at_ (pz i)).2.1:=if_pos (.inl h1)
  rw[e,h2]
  rcases ht with rfl | rfl | rfl | rfl<;>rfl
 refine Goes.dies (τ:=⟨i,.prim:: .folw C.length::K,u,N,C++[{ lv:=lv,ct:=0,ah:=[],st:=E.sign (pz i) [40],hs:=11 }]⟩) (qda ?_) (qeq ?_)
 ·show(ctL E lv (E.to+2) i 0 >>= fun a=>_)=_
  rw[hc]
  show(pfL E (E.to+2) i [] >>= fun b=>_)=_
  rw[hp];rfl
 ·exact qr1 ht h _ _ _
theorem qqu{m:Nat}(hE:HE E m){lv:Int}{t:ByteArray}{s:Bs}(hs:t.toList=s){j:Nat}{x:Nd}{r:Out}(hr:qal E m (.expr lv) (pz i)=some r){N:List (Option Nd)}{C:List Chn}{u:Option Nat}(hx:N[j]?=some (some x))(hb:b<=j)(hc:c<=C.length):
 Ends E r.p.bad b c ⟨i,.expr lv:: .per2 s j::K,u,N,C⟩ (An K b (nkt 14 t [x,r.x]) r.p.i):=by
 have hl:=qad hx
 refine Ends.bind (hE _ _ _ hr _ _ _ _) (by omega) hc id (fun e τ hf hq=>?_)
 obtain⟨j2,N2,C2,rfl,h1,h2,h3⟩:=hq
 have hx2:N2[j]?=some (some x):=hf.N.at hl hx
 have hne: ¬j=j2:=by omega
 refine Ends.step ?_
 refine .inl ⟨⟨r.p.i,K,some N2.length,((N2.set j none).set j2 none)++[some (nkt 14 t [x,r.x])],C2⟩,?_,frN (((FrL.set hb _).trans (FrL.set (by omega) _)).trans (FrL.app (by rw[zB,zB];have:=qad hx2;omega) _)),Ends.here e ⟨_,_,_,rfl,by have:=qad hx2;omega,?_,rfl⟩⟩
 ·show((⟨r.p.i,K,some j2,N2,C2⟩:PM).cur >>= fun x=>_)=_
  rw[qdr h2]
  show(qm0 ⟨s.toArray⟩ j j2 ⟨r.p.i,K,some j2,N2,C2⟩ >>= fun τ=>_)=_
  have htwo:qm0 ⟨s.toArray⟩ j j2 ⟨r.p.i,K,some j2,N2,C2⟩=.ok ⟨r.p.i,K,some j2,((N2.set j none).set j2 none)++[some (nkt 14 t [x,r.x])],C2⟩:=by
   unfold qm0
   rw[qfb hx2,qfb h2]
   show(if j=j2 then _ else _)=_
   rw[if_neg hne,ba_of hs];rfl
  rw[htwo];rfl
 ·rw[show N2.length=((N2.set j none).set j2 none).length by rw[zB,zB]];exact qam _ _
theorem qk5{m1 m2:Nat}(h1:HE E m1)(h2:HE E m2){lv:Int}{s1 s2:Bs}{r o:Out}(hr:qal E m1 (.expr lv) (pz i)=some r)(hy:E.sign r.p s1=true\/E.sign r.p s2=true-> ∃r2,qal E m2 (.expr lv) (E.take r.p).2=some r2/\o= { x:=nkt 14 (E.at_ r.p).2.1 [r.x,r2.x],p:=r2.p })(hn:E.sign r.p s1=false->E.sign r.p s2=false->o=r)(u:Option Nat)(N:List (Option Nd))(C:List Chn):
 Ends E o.p.bad N.length C.length ⟨i,.perh lv [s1,s2]::K,u,N,C⟩ (An K N.length o.x o.p.i):=by
 refine Ends.step (.inl ⟨_,rfl,frN (FrL.refl _ _),?_⟩)
 refine Ends.bind (h1 _ _ _ hr (.perM lv [s1,s2]::K) _ _ _) (zD _) (zD _) (fun e=>by rw[hn (qbq e (by decide)) (qbq e (by decide))];exact e) (fun e τ hf hq=>?_)
 obtain⟨j,N1,C1,rfl,g1,g2,g3⟩:=hq
 rw[qca e]at hy hn
 have hcl:C.length<=C1.length:=hf.C.1
 refine Ends.step ?_
 show EndsR E o.p.bad N.length C.length _ _ (sgE E 9 s1 r.p.i >>= fun q=>_)
 rcases qbt E 9 s1 r.p.i (by decide)with⟨m1,m2,m3,m4,m5⟩ | ⟨m1,m2⟩ | ⟨m1,m2,m3⟩
 ·rw[m1]
  obtain⟨r2,q1,rfl⟩:=hy (.inl m2)
  rw[m3]at q1
  refine .inl ⟨_,rfl,frN (FrL.refl _ _),?_⟩
  exact qqu h2 (qfr m2).2 q1 g2 g1 hcl
 ·rw[m1]
  show EndsR E o.p.bad N.length C.length _ _ (sgE E 9 s2 r.p.i >>= fun q=>_)
  rcases qbt E 9 s2 r.p.i (by decide)with⟨k1,k2,k3,k4,k5⟩ | ⟨k1,k2⟩ | ⟨k1,k2,k3⟩
  ·rw[k1]
   obtain⟨r2,q1,rfl⟩:=hy (.inr k2)
   rw[k3]at q1
   refine .inl ⟨_,rfl,frN (FrL.refl _ _),?_⟩
   exact qqu h2 (qfr k2).2 q1 g2 g1 hcl
  ·rw[k1]
   obtain rfl:=hn m2 k2
   refine .inl ⟨_,rfl,frN (FrL.refl _ _),Ends.here e ⟨j,N1,C1,rfl,g1,g2,g3⟩⟩
  ·rw[k1]
   obtain⟨r2,q1,rfl⟩:=hy (.inr k2)
   exact .inr ⟨rfl,show r2.p.bad=true from qb3 q1 k3⟩
 ·rw[m1]
  obtain⟨r2,q1,rfl⟩:=hy (.inl m2)
  exact .inr ⟨rfl,show r2.p.bad=true from qb3 q1 m3⟩
end
end Go.Proofs.YtdhadeeajgoedaaGreat
