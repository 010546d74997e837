/-
  What the claims stand on: ScanDefs, ScanRow, GapDefs, ParseMath, PmMath, ParseRem, ParseRun.
-/
import Derived.Test.YtdhadeeajgoedaaGreatK03
import Derived.Test.YtdhadeeajgoedaaGreatK13
import Derived.OwnWalk
import Derived.WalkSpells
set_option maxRecDepth 100000
set_option maxHeartbeats 4000000
set_option linter.unusedVariables false
set_option linter.unusedSimpArgs false
open Nat renaming le_refl→zA,le_trans→zB,zero_le→zC
namespace Go.Proofs.YtdhadeeajgoedaaGreat
open Go.RowKit Go.PlainAid
theorem qqo{c:Int}(h:bl c=true):(c==32)=true\/((c==32)=false/\(c==9)=true)\/((c==32)=false/\(c==9)=false/\(c==10)=true)\/((c==32)=false/\(c==9)=false/\(c==10)=false/\(c==13)=true):=by
 unfold bl at h
 cases h1:(c==32)<;>cases h2:(c==9)<;>cases h3:(c==10)<;>cases h4:(c==13)<;>simp_all
theorem qtz{c:Int}(h:bl c=false):(c==32)=false/\(c==9)=false/\(c==10)=false/\(c==13)=false:=by
 unfold bl at h
 cases h1:(c==32)<;>cases h2:(c==9)<;>cases h3:(c==10)<;>cases h4:(c==13)<;>simp_all
theorem qso{c:Int}(h:tb c=true):(c==32)=true\/((c==32)=false/\(c==9)=true)\/((c==32)=false/\(c==9)=false/\(c==13)=true):=by
 unfold tb at h
 cases h1:(c==32)<;>cases h2:(c==9)<;>cases h4:(c==13)<;>simp_all
theorem qw0{c:Int}(h:tb c=false):(c==32)=false/\(c==9)=false/\(c==13)=false:=by
 unfold tb at h
 cases h1:(c==32)<;>cases h2:(c==9)<;>cases h4:(c==13)<;>simp_all
theorem qqd{s:ByteArray}{n:Nat}:tr s 0 (n+1)=if tb (bt s n)=true then tr s 0 n else n+1:=by
 simp only[tr]
 by_cases h:tb (bt s n)=true
 ·rw[if_pos ⟨by omega,h⟩,if_pos h]
 ·rw[if_neg (fun h'=>h h'.2),if_neg h]
def tokV(s:ByteArray)(p:Nat)(x:Int×Nat):Value:=
 if x.1=0 then .tuple #[.agg #[.int .i64 0,.string ⟨#[]⟩,.int .i64 0],.int .i64 4]else .tuple #[.agg #[.int .i64 x.1,.string (s.extract p x.2),.int .i64 p],.int .i64 0]
theorem qb8(k:Int)(s:ByteArray)(a:Int)(w:World):(Instr.build 34 #[(0,.int .i64 k),(1,.string s),(2,.int .i64 a)]).run Tryz.prog w=.ok (.agg #[.int .i64 k,.string s,.int .i64 a]) w:=run_build w 34 _ _ (by kernel_rfl)
theorem qb7(w:World):(Instr.build 34 #[]).run Tryz.prog w=.ok (.agg #[.int .i64 0,.string ⟨#[]⟩,.int .i64 0]) w:=run_build w 34 _ _ (by kernel_rfl)
theorem qtr{s:ByteArray}{a:Nat}: ∀n,a+n<=s.size-> ∀E,a+n<=E->E<=s.size->tr (s.extract a E) 0 n+a=tr s a (a+n)
 | 0,_,_,_,_=>by
  have:=qf0 s a a
  have h1:=this.1
  have h2:=this.2.1 (zA _)
  show 0+a=tr s a a
  omega
 | n+1,h,E,h1,h2=>by
  have ih:=qtr (s:=s) (a:=a) n (by omega) E (by omega) h2
  have hb:=qt3 s a E n h2 (by omega)
  rw[qqd,hb,show a+(n+1)=(a+n)+1 by omega]
  show _=if a<a+n+1/\tb (bt s (a+n))=true then tr s a (a+n)else a+n+1
  by_cases c:tb (bt s (a+n))=true
  ·rw[if_pos c,if_pos ⟨by omega,c⟩];exact ih
  ·rw[if_neg c,if_neg (fun h=>c h.2)];omega
theorem qss{s:ByteArray}{a E:Nat}(h:a<=E)(hE:E<=s.size):(s.extract a E).extract 0 (tr (s.extract a E) 0 (s.extract a E).size)=s.extract a (tr s a E):=by
 have hz:=qcp s a E hE
 have ht:=qtr (s:=s) (a:=a) (E-a) (by omega) E (by omega) hE
 rw[show a+(E-a)=E by omega]at ht
 have h1:=(qf0 s a E).1
 rw[hz]
 apply ByteArray.ext
 rw[ByteArray.data_extract,ByteArray.data_extract,ByteArray.data_extract,Array.extract_extract,Nat.add_zero]
 congr 1
 rw[<-ht]
 omega
theorem qka(s:ByteArray)(p:Nat){x:Int×Nat}(h:x.1=0):tokV s p x=.tuple #[.agg #[.int .i64 0,.string ⟨#[]⟩,.int .i64 0],.int .i64 4]:=by unfold tokV;rw[if_pos h]
theorem qcc(s:ByteArray)(p:Nat){x:Int×Nat}(h:x.1≠0):tokV s p x=.tuple #[.agg #[.int .i64 x.1,.string (s.extract p x.2),.int .i64 p],.int .i64 0]:=by unfold tokV;rw[if_neg h]
theorem one_37{s:ByteArray}{k:Nat}(h:bt s k=37):one s k=(11,tr s k (ix s 10 k)):=by unfold one;rw[if_pos h]
theorem qv9{s:ByteArray}{k:Nat}(h:bt s k=46)(h2:k+1=s.size\/bt s (k+1)=37\/k+1<fw bl s (k+1)):one s k=(10,k+1):=by unfold one;rw[if_neg (by omega),if_pos ⟨h,h2⟩]
theorem qva{s:ByteArray}{k:Nat}(h:beg (bt s k)=3):one s k=num s k:=by
 have h0:bt s k≠37:=fun e=>by rw[e]at h;exact absurd h (by decide)
 have h1:bt s k≠46:=fun e=>by rw[e]at h;exact absurd h (by decide)
 unfold one;rw[if_neg h0,if_neg (fun g=>h1 g.1),if_pos h]
theorem qrv{s:ByteArray}{k:Nat}(h:beg (bt s k)≠3)(h2:0<beg (bt s k)):one s k=(if rs (s.extract k (fw inn s k))=true then 8 else beg (bt s k),fw inn s k):=by
 have h0:bt s k≠37:=fun e=>by rw[e]at h2;exact absurd h2 (by decide)
 have h1:bt s k≠46:=fun e=>by rw[e]at h2;exact absurd h2 (by decide)
 unfold one;rw[if_neg h0,if_neg (fun g=>h1 g.1),if_neg h,if_pos h2]
theorem one_39{s:ByteArray}{k:Nat}(h:bt s k=39):one s k=tk 1 (qx s 39 (k+1)):=by
 unfold one;rw[if_neg (by omega),if_neg (by omega),if_neg (by rw[h];decide),if_neg (by rw[h];decide),if_pos h]
theorem one_34{s:ByteArray}{k:Nat}(h:bt s k=34):one s k=tk 6 (qx s 34 (k+1)):=by
 unfold one;rw[if_neg (by omega),if_neg (by omega),if_neg (by rw[h];decide),if_neg (by rw[h];decide),if_neg (by omega),if_pos h]
theorem one_36{s:ByteArray}{k:Nat}(h:bt s k=36):one s k=tk 5 (che s k):=by
 unfold one;rw[if_neg (by omega),if_neg (by omega),if_neg (by rw[h];decide),if_neg (by rw[h];decide),if_neg (by omega),if_neg (by omega),if_pos h]
theorem one_63{s:ByteArray}{k:Nat}(h:bt s k=63):one s k=if fst (bt s (mcb s k))=true then(7,fw inn s (mcb s k))else(0,0):=by
 unfold one;rw[if_neg (by omega),if_neg (by omega),if_neg (by rw[h];decide),if_neg (by rw[h];decide),if_neg (by omega),if_neg (by omega),if_neg (by omega),if_pos h]
theorem qkx{s:ByteArray}{k:Nat}(h1:bt s k≠37)(h2: ¬(bt s k=46/\(k+1=s.size\/bt s (k+1)=37\/k+1<fw bl s (k+1))))(h3:beg (bt s k)=0)(h4:bt s k≠39)(h5:bt s k≠34)(h6:bt s k≠36)(h7:bt s k≠63):
 one s k=if lgL (s.data.toList.drop k)=0 then(0,0)else(9,k+lgL (s.data.toList.drop k)):=by
 unfold one;rw[if_neg h1,if_neg h2,if_neg (by omega),if_neg (by omega),if_neg h4,if_neg h5,if_neg h6,if_neg h7]
theorem quq:(Tryz.prog.info? 34).map (fun i=>(i.zero,i.size,i.bytes))=some (some (.agg #[.int .i64 0,.string ⟨#[]⟩,.int .i64 0]),3,32):=by kernel_rfl
def tkc(s:ByteArray)(x:Tk3):List Value:=[.int .i64 x.1,.string (s.extract x.2.1 x.2.2),.int .i64 x.2.1]
def tkcs(s:ByteArray)(l:List Tk3):List Value:=l.flatMap (tkc s)
def qch(s:ByteArray):List Tk3×Int:=
 if 65536<s.size then([],3)else if vd s 0=false then([],2)else match sc s (fw bl s 0)with
  | none=>([],4)
  | some l=>(l,0)
def ScanAre(w0:World)(s:ByteArray)(e:Ending)(w':World):Prop:=
 ∃v,e=.returned (.tuple #[v,.int .i64 (qch s).2])/\w'.ownsRow w0.heap.size 34 3 v (qch s).1.length (tkcs s (qch s).1)/\Below w0.heap.size w0 w'
def Sk(w0:World)(s:ByteArray)(wr:World)(v:Value)(L:List Tk3):Prop:=wr.ownsRow w0.heap.size 34 3 v L.length (tkcs s L)/\Below w0.heap.size w0 wr
theorem qcf{w w':World}{base:Nat}{e:TypeId}{size:Nat}{v:Value}{n:Nat}{xs:List Value}(h:w.ownsRow base e size v n xs)(hb:Below w.heap.size w w'):w'.ownsRow base e size v n xs:=by
 obtain⟨h1,h2 | ⟨g,cap,cur,h3,h4,h5,h6⟩⟩:=h
 ·exact⟨h1,.inl h2⟩
 ·refine⟨h1,.inr ⟨g,cap,cur,h3,h4,?_,h6⟩⟩
  rw[hb.block g (by have:=(Array.getElem?_eq_some_iff.1 h5).1;exact this)]
  exact h5
theorem Sk.below{w0 wr w1:World}{s:ByteArray}{v:Value}{L:List Tk3}(h:Sk w0 s wr v L)(hb:Below wr.heap.size wr w1):Sk w0 s w1 v L:=⟨qcf h.1 hb,h.2.trans (hb.mono h.2.size)⟩
theorem qsq(s:ByteArray)(L:List Tk3)(x:Tk3):tkcs s (L++[x])=tkcs s L++tkc s x:=by unfold tkcs;rw[List.flatMap_append];simp
theorem Sk.put{w0 w1 w2:World}{s:ByteArray}{v v':Value}{L:List Tk3}{x:Tk3}(h:Sk w0 s w1 v L)(o:Obj)(hown:w2.ownsRow w0.heap.size 34 3 v' (L.length+1) (tkcs s L++tkc s x))(hg:(w1.alloc o).grownBy w2 v.ownBlock):Sk w0 s w2 v' (L++[x]):=by
 refine⟨by rw[List.length_append,qsq];exact hown,?_⟩
 refine(h.2.alloc h.2.size o).grown hg (zB h.2.size (by simp)) ?_
 intro j hj
 exact(h.1.lt j hj).1
theorem qrk{w1 w2:World}{v:Value}{T:Nat}{cs:Array Value}{t:TypeId}(hT:some T≠v.ownBlock)(h:w1.heap[T]?=some (.cells cs t (0,0)))(o:Obj)(hg:(w1.alloc o).grownBy w2 v.ownBlock):w2.heap[T]?=some (.cells cs t (0,0)):=by
 have hlt:=(Array.getElem?_eq_some_iff.1 h).1
 rw[hg.block T (by simp;omega) hT,<-h]
 show(w1.heap.push o)[T]?=w1.heap[T]?
 rw[Array.getElem?_push_lt hlt]
 simp[hlt]
theorem qfn(w:World)(x y z:Value)(t:TypeId): ∀j u,[x,y,z][j]?=some u->(w.alloc (.cells #[x,y,z] t)).cell? ((⟨w.heap.size,0,none⟩:Addr).add j)=some u:=by
 intro j u hj
 match j,hj with
 | 0,hj=>simp at hj;subst hj;simp[Addr.add]
 | 1,hj=>simp at hj;subst hj;simp[Addr.add]
 | 2,hj=>simp at hj;subst hj;simp[Addr.add]
 | j+3,hj=>simp at hj
theorem ScanAre.no{w0 w':World}{s:ByteArray}{c:Int}(h:qch s=([],c))(hb:Below w0.heap.size w0 w'):ScanAre w0 s (.returned (.tuple #[.slice none 0 0,.int .i64 c])) w':=by
 refine⟨.slice none 0 0,by rw[h],?_,hb⟩
 rw[h]
 exact World.ownsRow_nil _ _ _ _
theorem ScanAre.ok{w0 w':World}{s:ByteArray}{v:Value}{L:List Tk3}(h:qch s=(L,0))(hk:Sk w0 s w' v L):ScanAre w0 s (.returned (.tuple #[v,.int .i64 0])) w':=by
 refine⟨v,by rw[h],?_,hk.2⟩
 rw[h]
 exact hk.1
def TkAt(W:World)(v:Value)(s:ByteArray)(L:List Tk3):Prop:=
 ∃a cap,v=.slice a L.length cap/\(0<L.length-> ∃g,a=some ⟨g,0,none⟩/\g<W.heap.size/\ ∀i x,L[i]?=some x->
  W.cell? ⟨g,i*3,none⟩=some (.int .i64 x.1)/\W.cell? ⟨g,i*3+1,none⟩=some (.string (s.extract x.2.1 x.2.2))/\W.cell? ⟨g,i*3+2,none⟩=some (.int .i64 x.2.1))
theorem TkAt.below{W W':World}{v:Value}{s:ByteArray}{L:List Tk3}(h:TkAt W v s L)(hb:Below W.heap.size W W'):TkAt W' v s L:=by
 obtain⟨a,cap,h1,h2⟩:=h
 refine⟨a,cap,h1,fun h0=>?_⟩
 obtain⟨g,g1,g2,g3⟩:=h2 h0
 refine⟨g,g1,Nat.lt_of_lt_of_le g2 hb.size,fun i x hx=>?_⟩
 obtain⟨c1,c2,c3⟩:=g3 i x hx
 exact⟨(hb.cell (p:=⟨g,i*3,none⟩) g2).trans c1,(hb.cell (p:=⟨g,i*3+1,none⟩) g2).trans c2,(hb.cell (p:=⟨g,i*3+2,none⟩) g2).trans c3⟩
theorem qn6(s:ByteArray): ∀(L:List Tk3) (i:Nat) (x:Tk3),L[i]?=some x-> ∀j,j<3->(tkcs s L)[i*3+j]?=(tkc s x)[j]?
 | [],i,x,h,_,_=>by simp at h
 | y::t,0,x,h,j,hj=>by
  simp at h
  subst h
  show((tkc s y++tkcs s t))[0*3+j]?=_
  rw[List.getElem?_append_left (by show 0*3+j<3;omega)]
  simp
 | y::t,i+1,x,h,j,hj=>by
  simp at h
  show((tkc s y++tkcs s t))[(i+1)*3+j]?=_
  rw[List.getElem?_append_right (by show 3<=(i+1)*3+j;omega)]
  have:(i+1)*3+j- (tkc s y).length=i*3+j:=by show(i+1)*3+j-3=i*3+j;omega
  rw[this]
  exact qn6 s t i x h j hj
theorem qw2{W:World}{base:Nat}{v:Value}{s:ByteArray}{L:List Tk3}(h:W.ownsRow base 34 3 v L.length (tkcs s L)):TkAt W v s L:=by
 obtain⟨h1,⟨rfl,h2⟩ | ⟨g,cap,cur,rfl,hb,hg,hn,hc,hz,ht⟩⟩:=h
 ·exact⟨none,0,by rw[h2],fun h0=>by omega⟩
 ·refine⟨some ⟨g,0,none⟩,cap,rfl,fun _=>⟨g,rfl,(Array.getElem?_eq_some_iff.1 hg).1,fun i x hx=>?_⟩⟩
  have hi:i<L.length:=(List.getElem?_eq_some_iff.1 hx).1
  have hcell: ∀j,j<3->W.cell? ⟨g,i*3+j,none⟩=(tkc s x)[j]?:=fun j hj=>by
   rw[cell_of_row W g _ _ _ _ hg,<-qn6 s L i x hx j hj,<-ht,List.getElem?_take_of_lt (by omega),Array.getElem?_toList]
  exact⟨hcell 0 (by omega),hcell 1 (by omega),hcell 2 (by omega)⟩
def qgd(s:ByteArray):List Tk3×Int:=
 if 65536<s.size then([],3)else if vdF s s.size 0=false then([],2)else match scF s s.size (fwF bl s s.size 0)with
  | none=>([],4)
  | some l=>(l,0)
theorem qha(s:ByteArray):qch s=qgd s:=by
 unfold qch qgd
 rw[vd_F s s.size 0 (by omega),fw_F bl s s.size 0 (by omega),sc_F s s.size _ (by omega)]
 generalize scF s s.size (fwF bl s s.size 0)=o
 cases o<;>rfl
theorem qtm{s:ByteArray}: ∀(l:List Tk3) (k:Nat),sc s k=some l->l.length<=s.size-k
 | [],_,_=>zC _
 | x::l,k,h=>by
  obtain⟨h1,h2,h3,h4,h5,h6,h7⟩:=qk2 h
  have h8:=qfv bl s x.2.2
  have:=qtm l _ h7
  simp only[List.length_cons]
  omega
theorem qsd(s:ByteArray):(qch s).1.length<=s.size:=by
 unfold qch
 split
 ·exact zC _
 ·split
  ·exact zC _
  ·cases h:sc s (fw bl s 0)with
   | none=>exact zC _
   | some l=>exact zB (qtm l _ h) (Nat.sub_le _ _)
theorem qdi{s:ByteArray}{L:List Tk3}(h:qch s=(L,0)):s.size<=65536/\vd s 0=true/\sc s (fw bl s 0)=some L:=by
 unfold qch at h
 by_cases h1:65536<s.size
 ·rw[if_pos h1]at h;exact absurd (congrArg Prod.snd h) (show¬((3:Int)=0)by decide)
 ·rw[if_neg h1]at h
  by_cases h2:vd s 0=false
  ·rw[if_pos h2]at h;exact absurd (congrArg Prod.snd h) (show¬((2:Int)=0)by decide)
  ·rw[if_neg h2]at h
   cases h3:sc s (fw bl s 0)with
   | none=>rw[h3]at h;exact absurd (congrArg Prod.snd h) (show¬((4:Int)=0)by decide)
   | some l=>
    rw[h3]at h
    have h4:l=L:=congrArg Prod.fst h
    exact⟨by omega,by simpa using h2,by rw[h4]⟩
def Kr(W:World)(g:Nat)(X Y:ByteArray)(A B:Int):Prop:=
 (W.cell? ⟨g,0,none⟩=some (.int .i64 A)/\W.cell? ⟨g,1,none⟩=some (.string X)/\W.cell? ⟨g,3,none⟩=some (.int .i64 B)/\W.cell? ⟨g,4,none⟩=some (.string Y)/\W.cell? ⟨g,5,none⟩=some (.int .i64 ((X.size:Int)+1)))/\g<W.heap.size
theorem Kr.below{W W':World}{g:Nat}{X Y:ByteArray}{A B:Int}(h:Kr W g X Y A B)(hb:Below W.heap.size W W'):Kr W' g X Y A B:=by
 obtain⟨⟨h1,h2,h3,h4,h5⟩,h6⟩:=h
 exact⟨⟨(hb.cell (p:=⟨g,0,none⟩) h6).trans h1,(hb.cell (p:=⟨g,1,none⟩) h6).trans h2,(hb.cell (p:=⟨g,3,none⟩) h6).trans h3,(hb.cell (p:=⟨g,4,none⟩) h6).trans h4,(hb.cell (p:=⟨g,5,none⟩) h6).trans h5⟩,Nat.lt_of_lt_of_le h6 hb.size⟩
abbrev Tok:=Int×ByteArray×Int
def TRow(W:World)(v:Value)(T:List Tok):Prop:=
 ∃a cap,v=.slice a T.length cap/\(0<T.length-> ∃g o,a=some ⟨g,o,none⟩/\g<W.heap.size/\ ∀i x,T[i]?=some x->
  W.cell? ⟨g,o+i*3,none⟩=some (.int .i64 x.1)/\W.cell? ⟨g,o+i*3+1,none⟩=some (.string x.2.1)/\W.cell? ⟨g,o+i*3+2,none⟩=some (.int .i64 x.2.2))
theorem TRow.below{W W':World}{v:Value}{T:List Tok}(h:TRow W v T)(hb:Below W.heap.size W W'):TRow W' v T:=by
 obtain⟨a,cap,h1,h2⟩:=h
 refine⟨a,cap,h1,fun h0=>?_⟩
 obtain⟨g,o,g1,g2,g3⟩:=h2 h0
 refine⟨g,o,g1,Nat.lt_of_lt_of_le g2 hb.size,fun i x hx=>?_⟩
 obtain⟨c1,c2,c3⟩:=g3 i x hx
 exact⟨(hb.cell (p:=⟨g,o+i*3,none⟩) g2).trans c1,(hb.cell (p:=⟨g,o+i*3+1,none⟩) g2).trans c2,(hb.cell (p:=⟨g,o+i*3+2,none⟩) g2).trans c3⟩
def tok3(s:ByteArray)(x:Tk3):Tok:=(x.1,s.extract x.2.1 x.2.2,(x.2.1:Int))
def toks(s:ByteArray)(L:List Tk3):List Tok:=L.map (tok3 s)
theorem qbb(s:ByteArray)(L:List Tk3):(toks s L).length=L.length:=by unfold toks;rw[List.length_map]
theorem qqb{s:ByteArray}{L:List Tk3}{i:Nat}{x:Tk3}(h:L[i]?=some x):(toks s L)[i]?=some (tok3 s x):=by unfold toks;rw[List.getElem?_map,h];rfl
theorem qw5{W:World}{v:Value}{s:ByteArray}{L:List Tk3}(h:TkAt W v s L):TRow W v (toks s L):=by
 obtain⟨a,cap,h1,h2⟩:=h
 refine⟨a,cap,by rw[qbb];exact h1,fun h0=>?_⟩
 rw[qbb]at h0
 obtain⟨g,g1,g2,g3⟩:=h2 h0
 refine⟨g,0,g1,g2,fun i x hx=>?_⟩
 unfold toks at hx
 rw[List.getElem?_map]at hx
 obtain⟨y,hy,rfl⟩:=Option.map_eq_some_iff.1 hx
 rw[Nat.zero_add]
 exact g3 i y hy
def nlr(s:ByteArray)(e:Nat):Nat->Nat
 | 0=>0
 | n+1=>nlr s e n+if bt s (e+n)=10 then 1 else 0
theorem qtc(s:ByteArray)(e:Nat): ∀n,nlr s e n<=n
 | 0=>zA _
 | n+1=>by have:=qtc s e n;simp only[nlr];split<;>omega
theorem qv4{s:ByteArray}{e n:Nat}(h:bt s (e+n)=10):nlr s e (n+1)=nlr s e n+1:=by simp[nlr,h]
theorem qrt{s:ByteArray}{e n:Nat}(h:bt s (e+n)≠10):nlr s e (n+1)=nlr s e n:=by simp[nlr,h]
theorem qru(s:ByteArray)(e:Nat){a b:Nat}(h:a<=b):nlr s e a<=nlr s e b:=by
 induction b with
 | zero=>obtain rfl:a=0:=by omega
         exact zA _
 | succ b ih=>
  by_cases hb:a=b+1
  ·subst hb;exact zA _
  ·have:=ih (by omega)
   simp only[nlr];split<;>omega
def nls(s:ByteArray)(L:List Tk3)(k:Int):Nat:=
 if k<1\/(L.length:Int)<=k then 0 else nlr s (L.getD (k.toNat-1) (0,0,0)).2.2 ((L.getD k.toNat (0,0,0)).2.1- (L.getD (k.toNat-1) (0,0,0)).2.2)
theorem qv5{s:ByteArray}{L:List Tk3}{k:Int}(h:k<1\/(L.length:Int)<=k):nls s L k=0:=by unfold nls;rw[if_pos h]
theorem nls_in{s:ByteArray}{L:List Tk3}{k:Nat}{x y:Tk3}(hx:L[k]?=some x)(hy:L[k+1]?=some y):nls s L ((k:Int)+1)=nlr s x.2.2 (y.2.1-x.2.2):=by
 have hl:k+1<L.length:=(List.getElem?_eq_some_iff.1 hy).1
 unfold nls
 rw[if_neg (by omega),show((k:Int)+1).toNat=k+1 by omega,List.getD_eq_getElem?_getD,List.getD_eq_getElem?_getD,hy,Nat.add_sub_cancel,hx]
 rfl
theorem qpd{s:ByteArray}: ∀(L:List Tk3) (j:Nat),sc s j=some L-> ∀(k:Nat) (x y:Tk3),L[k]?=some x->L[k+1]?=some y->x.2.1<x.2.2/\x.2.2<=y.2.1/\y.2.1<y.2.2/\y.2.2<=s.size
 | [],_,_,_,_,_,h,_=>by simp at h
 | z::l,j,h,k,x,y,hx,hy=>by
  obtain⟨h1,h2,h3,h4,h5,h6,h7⟩:=qk2 h
  match k,hx,hy with
  | 0,hx,hy=>
   simp only[List.getElem?_cons_zero,Option.some.injEq]at hx
   subst hx
   match l,h7,hy with
   | [],_,hy=>simp at hy
   | u::l',h7,hy=>
    simp only[List.getElem?_cons_succ,List.getElem?_cons_zero,Option.some.injEq]at hy
    subst hy
    obtain⟨g1,g2,g3,g4,g5,g6,g7⟩:=qk2 h7
    have:=qfv bl s z.2.2
    exact⟨by omega,by omega,by omega,g6⟩
  | k+1,hx,hy=>
   simp only[List.getElem?_cons_succ]at hx hy
   exact qpd l _ h7 k x y hx hy
structure Env where
 T:List Tok
 to:Nat
 nl:Int->Nat
structure Ps where
 i:Nat
 bad:Bool
abbrev Bs:=List UInt8
def tk0:Tok:=(0,⟨#[]⟩,0)
def Env.tk(E:Env)(i:Nat):Tok:=E.T.getD i tk0
def pkn(E:Env):Nat->Nat->Nat
 | 0,i=>i
 | n+1,i=>if(E.tk i).1=11 then pkn E n (i+1)else i
def Env.pk(E:Env)(i:Nat):Nat:=pkn E (E.to-i) i
def Env.at_(E:Env)(p:Ps):Tok:=if E.pk p.i<E.to/\p.bad=false then E.tk (E.pk p.i)else tk0
def Env.is(E:Env)(p:Ps)(k:Int)(s:Bs):Bool:=(E.at_ p).1==k&&(E.at_ p).2.1.toList==s
def Env.sign(E:Env)(p:Ps)(s:Bs):Bool:=E.is p 9 s
def Env.word(E:Env)(p:Ps)(s:Bs):Bool:=E.is p 8 s
def Ps.wrong(p:Ps):Ps:= { p with bad:=true }
def Env.take(E:Env)(p:Ps):Nat×Ps:=if p.bad||decide (E.to<=p.i)||(E.tk p.i).1==11 then(0,p.wrong)else(p.i, { p with i:=p.i+1 })
def Env.want(E:Env)(p:Ps)(k:Int)(s:Bs):Nat×Ps:=E.take (if E.is p k s then p else p.wrong)
def cms(E:Env):Nat->Nat->List ByteArray
 | 0,_=>[]
 | n+1,i=>(E.tk i).2.1::cms E n (i+1)
def Env.notes(E:Env)(p:Ps):List ByteArray×Ps:=(cms E (E.pk p.i-p.i) p.i, { p with i:=max p.i (E.pk p.i) })
def Env.broken(E:Env)(p:Ps)(k:Nat):Bool:=!p.bad&&decide (0<E.nl ((k:Int)+1))
def nmk(k:Int):Bool:=k==1||k==2||k==7
def szk(k:Int):Bool:=k==3||k==2||k==7
def ltk(k:Int):Bool:=decide (1<=k)&&decide (k<=7)
def Env.text(E:Env)(p:Ps)(ok:Bool):ByteArray×Ps:=
 let q:=E.take (if ok then p else p.wrong)
 (if q.2.bad then⟨#[]⟩else(E.tk q.1).2.1,q.2)
def zN:Nd:=.mk 0 ⟨#[]⟩ [] false false [] []
def nk(k:Int)(l:List Nd):Nd:=.mk k ⟨#[]⟩ l false false [] []
def nkt(k:Int)(t:ByteArray)(l:List Nd):Nd:=.mk k t l false false [] []
def Nd.add:Nd->List Nd->Nd | .mk k t l br bl no ta,m=>.mk k t (l++m) br bl no ta
def Nd.notes':Nd->List ByteArray->Nd | .mk k t l br bl _ ta,no=>.mk k t l br bl no ta
def Nd.tail':Nd->List ByteArray->Nd | .mk k t l br bl no _,ta=>.mk k t l br bl no ta
def Nd.brk':Nd->Bool->Nd | .mk k t l _ bl no ta,br=>.mk k t l br bl no ta
def Nd.blk':Nd->Bool->Nd | .mk k t l br _ no ta,bl=>.mk k t l br bl no ta
def Nd.txt':Nd->ByteArray->Nd | .mk k _ l br bl no ta,t=>.mk k t l br bl no ta
def Nd.kd:Nd->Int | .mk k _ _ _ _ _ _=>k
def Nd.tx:Nd->ByteArray | .mk _ t _ _ _ _ _=>t
def Nd.ls:Nd->List Nd | .mk _ _ l _ _ _ _=>l
def bare(n:Nd):Bool:=
 if n.kd==1 then match n.tx.toList with
  | []=>false
  | c::_=>!(decide (48<=c.toNat)&&decide (c.toNat<=57))&&c !=36&&c !=34
 else n.kd==2||n.kd==3||n.kd==8||n.kd==9||n.kd==10||n.kd==11||n.kd==12
inductive Cmd where
 | expr (level:Int)
 | exprL (level:Int) (left:Nd) (has:Int)
 | operand
 | primary
 | follow (x:Nd) (paren:Bool)
 | box (n:Nd) (o c:Bs) (level:Int)
 | boxL (n:Nd) (notes:List ByteArray) (c:Bs) (level:Int)
 | item (kind level:Int)
 | segment
 | list
 | listL (n:Nd) (notes:List ByteArray)
 | comp (x:Nd) (broken:Bool)
 | compL (n:Nd)
 | hash (of:List Nd)
 | func
 | funcL (n:Nd)
 | head (s:ByteArray)
 | rest (c:Nd)
 | arrow (c g:Nd)
 | guard
 | guardL (g:Nd)
 | guardB (b:Nd)
 | body
 | bodyL (b:Nd)
 | clauses
 | clausesL (out:List Nd)
 | ifs
 | ifsL (out:List Nd)
 | receive
structure Out where
 x:Nd:=zN
 xs:List Nd:=[]
 h:Int:=0
 p:Ps
def qau(E:Env)(n:Nd)(p:Ps):Out:=
 let q:=E.notes p
 { x:=n.tail' q.1,p:=(E.want q.2 8 [101,110,100]).2 }
def segT(E:Env):Nat->ByteArray->Ps->ByteArray×Ps
 | 0,s,p=>(s,p.wrong)
 | n+1,s,p=>
  if E.sign p [45]then
   let p1:=(E.take p).2
   let t:=E.text p1 ((E.at_ p1).1==1)
   segT E n (s++⟨#[45]⟩++t.1) t.2
  else(s,p)
def qa6(E:Env)(R:Cmd->Ps->Out):Cmd->Ps->Out
 | .expr level,p=>
  if decide (level<=0)&&E.word p [99,97,116,99,104]then
   let r:=R (.expr 0) (E.take p).2
   { x:=nkt 13 ⟨#[99,97,116,99,104]⟩ [r.x],p:=r.p }
  else
   let r:=R .operand p
   R (.exprL level r.x r.h) r.p
 | .exprL level left has,p=>
  if p.bad then { x:=left,p:=p } else
  let t:=E.at_ p
  let b:Int:=bn t.2.1.toList
  if(t.1 !=9&&t.1 !=8)||b==0||decide (b<level)||decide (has< (lf t.2.1.toList:Int))then { x:=left,p:=p } else
  let r:=R (.expr (rt t.2.1.toList:Int)) (E.take p).2
  R (.exprL level (nkt 14 t.2.1 [left,r.x]) b) r.p
 | .operand,p=>
  let t:=E.at_ p
  if(t.1==9||t.1==8)&&decide (0<pf t.2.1.toList)then
   let r:=R .operand (E.take p).2
   { x:=nkt 13 t.2.1 [r.x],h:=10,p:=r.p }
  else
   let paren:=E.sign p [40]
   let r:=R .primary p
   let r2:=R (.follow r.x paren) r.p
   { x:=r2.x,h:=11,p:=r2.p }
 | .primary,p=>
  let t:=E.at_ p
  if ltk t.1 then
   let q:=E.text p true
   { x:=nkt 1 q.1 [],p:=q.2 }
  else if E.sign p [40]then
   let r:=R (.expr 0) (E.take p).2
   { x:=r.x,p:=(E.want r.p 9 [41]).2 }
  else if E.sign p [123]then R (.box (nk 4 []) [123] [125] 0) p
  else if E.sign p [91]then R .list p
  else if E.sign p [60,60]then R (.box (nk 6 []) [60,60] [62,62] 0) p
  else if E.sign p [35]then R (.hash []) (E.take p).2
  else if E.word p [102,117,110]then R .func p
  else if E.word p [99,97,115,101]then
   let r:=R (.expr 0) (E.take p).2
   let r2:=R .clauses (E.want r.p 8 [111,102]).2
   qau E (nk 18 (r.x::r2.xs)) r2.p
  else if E.word p [105,102]then
   let r:=R .ifs (E.take p).2
   qau E (nk 19 r.xs) r.p
  else if E.word p [114,101,99,101,105,118,101]then R .receive p
  else if E.word p [98,101,103,105,110]then
   let r:=R .body (E.take p).2
   qau E (nk 21 [r.x]) r.p
  else { p:=p.wrong }
 | .follow x paren,p=>
  if p.bad||!(paren||bare x)then { x:=x,p:=p } else
  if E.sign p [40]then
   let r:=R (.box (nk 2 [x]) [40] [41] 0) p
   R (.follow r.x false) r.p
  else if E.sign p [58]&&(paren||x.kd==1)then
   let p1:=(E.take p).2
   if E.sign p1 [40]then
    let r:=R (.expr 0) (E.take p1).2
    R (.follow (nk 3 [x,r.x]) false) (E.want r.p 9 [41]).2
   else
    let q:=E.text p1 (nmk (E.at_ p1).1)
    R (.follow (nk 3 [x,nkt 1 q.1 []]) false) q.2
  else if E.sign p [35]then
   let r:=R (.hash [x]) (E.take p).2
   R (.follow r.x false) r.p
  else { x:=x,p:=p }
 | .box n o c level,p=>
  let q:=E.want p 9 o
  let m:=E.notes q.2
  R (.boxL (n.brk' (E.broken q.2 q.1)) m.1 c level) m.2
 | .boxL n notes c level,p=>
  if E.sign p c||p.bad then { x:=n.tail' notes,p:=(E.want p 9 c).2 } else
  let r:=R (.item n.kd level) p
  let n1:=n.add [r.x.notes' notes]
  if !E.sign r.p [44]then
   let m:=E.notes r.p
   { x:=n1.tail' m.1,p:=(E.want m.2 9 c).2 }
  else
   let m:=E.notes (E.take r.p).2
   R (.boxL n1 m.1 c level) (if E.sign m.2 c then m.2.wrong else m.2)
 | .item kind level,p=>
  if kind==6 then R .segment p else
  let r:=R (.expr level) p
  if(kind==8||kind==9)&&(E.sign r.p [61,62]||E.sign r.p [58,61])then
   let s:=(E.at_ r.p).2.1
   let r2:=R (.expr level) (E.take r.p).2
   { x:=nkt 14 s [r.x,r2.x],p:=r2.p }
  else r
 | .segment,p=>
  let a:Out:=if E.sign p [40]then
      let r:=R (.expr 0) (E.take p).2
      { x:=r.x,p:=(E.want r.p 9 [41]).2 }
   else if E.sign p [60,60]then R (.box (nk 6 []) [60,60] [62,62] 0) p
   else
    let q:=E.text p (ltk (E.at_ p).1)
    { x:=nkt 1 q.1 [],p:=q.2 }
  let b:ByteArray×Ps:=if E.sign a.p [58]then
      let p1:=(E.take a.p).2
      let q:=E.text p1 (szk (E.at_ p1).1)
      (⟨#[58]⟩++q.1,q.2)
   else(⟨#[]⟩,a.p)
  let c:ByteArray×Ps:=if E.sign b.2 [47]then
      let p1:=(E.take b.2).2
      let q:=E.text p1 ((E.at_ p1).1==1)
      segT E (E.to+2) (b.1++⟨#[47]⟩++q.1) q.2
   else b
  if c.1.toList==[]then { x:=a.x,p:=c.2 } else { x:=nkt 7 c.1 [a.x],p:=c.2 }
 | .list,p=>
  let q:=E.want p 9 [91]
  let m:=E.notes q.2
  R (.listL ((nk 5 []).brk' (E.broken q.2 q.1)) m.1) m.2
 | .listL n notes,p=>
  if E.sign p [93]||p.bad then { x:=n.tail' notes,p:=(E.want p 9 [93]).2 } else
  let r:=R (.expr 3) p
  if n.ls.isEmpty&&notes.isEmpty&&E.sign r.p [124,124]then R (.comp r.x (match n with | .mk _ _ _ br _ _ _=>br)) r.p else
  let n1:=n.add [r.x.notes' notes]
  if E.sign r.p [124]then
   let r2:=R (.expr 3) (E.take r.p).2
   let m:=E.notes r2.p
   { x:=((n1.add [r2.x]).txt' ⟨#[124]⟩).tail' m.1,p:=(E.want m.2 9 [93]).2 }
  else if !E.sign r.p [44]then
   let m:=E.notes r.p
   { x:=n1.tail' m.1,p:=(E.want m.2 9 [93]).2 }
  else
   let m:=E.notes (E.take r.p).2
   R (.listL n1 m.1) (if E.sign m.2 [93]then m.2.wrong else m.2)
 | .comp x broken,p=>R (.compL ((nk 15 [x]).brk' broken)) (E.want p 9 [124,124]).2
 | .compL n,p=>
  if p.bad then { x:=n,p:=(E.want p 9 [93]).2 } else
  let r:=R (.expr 3) p
  let r2:Out:=if E.sign r.p [60,45]||E.sign r.p [60,61]then
      let s:=(E.at_ r.p).2.1
      let r3:=R (.expr 3) (E.take r.p).2
      { x:=nkt 14 s [r.x,r3.x],p:=r3.p }
   else r
  let n1:=n.add [r2.x]
  if !E.sign r2.p [44]then { x:=n1,p:=(E.want r2.p 9 [93]).2 }
  else R (.compL n1) (E.take r2.p).2
 | .hash of,p=>
  if E.sign p [123]then
   if of.isEmpty then R (.box (nk 8 []) [123] [125] 1) p else R (.box (nk 9 of) [123] [125] 1) p
  else
   let q:=E.text p (nmk (E.at_ p).1)
   if !of.isEmpty&&E.sign q.2 [46]then
    let p1:=(E.take q.2).2
    let q2:=E.text p1 ((E.at_ p1).1==1)
    { x:=nkt 12 (q.1++⟨#[46]⟩++q2.1) of,p:=q2.2 }
   else if of.isEmpty then R (.box (nkt 10 q.1 []) [123] [125] 0) q.2
   else R (.box (nkt 11 q.1 of) [123] [125] 0) q.2
 | .func,p=>
  let p1:=(E.take p).2
  if !E.sign p1 [40]then
   let q:=E.text p1 (nmk (E.at_ p1).1)
   let q2:ByteArray×Ps:=if E.sign q.2 [58]then
       let p2:=(E.take q.2).2
       let q3:=E.text p2 (nmk (E.at_ p2).1)
       (q.1++⟨#[58]⟩++q3.1,q3.2)
    else q
   let p3:=(E.want q2.2 9 [47]).2
   let q4:=E.text p3 (szk (E.at_ p3).1)
   { x:=nkt 16 (q2.1++⟨#[47]⟩++q4.1) [],p:=q4.2 }
  else R (.funcL (nk 17 [])) p1
 | .funcL n,p=>
  if p.bad then qau E n p else
  let m:List ByteArray×Ps:=if n.ls.isEmpty then([],p)else E.notes p
  let r:=R (.head ⟨#[]⟩) m.2
  let n1:=n.add [r.x.notes' m.1]
  if !E.sign r.p [59]then qau E n1 r.p
  else R (.funcL n1) (E.take r.p).2
 | .head s,p=>
  let r:=R (.box (nk 23 []) [40] [41] 0) p
  R (.rest (nkt 22 s [r.x])) r.p
 | .rest c,p=>
  if E.word p [119,104,101,110]then
   let r:=R .guard (E.take p).2
   R (.arrow c r.x) r.p
  else R (.arrow c (nk 24 [])) p
 | .arrow c g,p=>
  let q:=E.want p 9 [45,62]
  let r:=R .body q.2
  { x:=(c.brk' (E.broken q.2 q.1)).add [g,r.x],p:=r.p }
 | .guard,p=>R (.guardL (nk 24 [])) p
 | .guardL g,p=>
  if p.bad then { x:=g,p:=p } else
  let r:=R (.expr 1) p
  let r2:=R (.guardB (nk 25 [r.x])) r.p
  let g1:=g.add [r2.x]
  if !E.sign r2.p [59]then { x:=g1,p:=r2.p }
  else R (.guardL g1) (E.take r2.p).2
 | .guardB b,p=>
  if E.sign p [44]then
   let r:=R (.expr 1) (E.take p).2
   R (.guardB (b.add [r.x])) r.p
  else { x:=b,p:=p }
 | .body,p=>R (.bodyL (nk 25 [])) p
 | .bodyL b,p=>
  if p.bad then { x:=b,p:=p } else
  let m:=E.notes p
  let blank:=!b.ls.isEmpty&&!m.2.bad&&decide (2<=E.nl (p.i:Int))
  let r:=R (.expr 0) m.2
  let b1:=b.add [(r.x.notes' m.1).blk' blank]
  if !E.sign r.p [44]then { x:=b1,p:=r.p }
  else R (.bodyL b1) (E.take r.p).2
 | .clauses,p=>R (.clausesL []) p
 | .clausesL out,p=>
  if p.bad then { xs:=out,p:=p } else
  let m:=E.notes p
  let r:=R (.expr 1) m.2
  let r2:=R (.rest (nk 22 [nk 23 [r.x]])) r.p
  let out1:=out++[r2.x.notes' m.1]
  if !E.sign r2.p [59]then { xs:=out1,p:=r2.p }
  else R (.clausesL out1) (E.take r2.p).2
 | .ifs,p=>R (.ifsL []) p
 | .ifsL out,p=>
  if p.bad then { xs:=out,p:=p } else
  let m:=E.notes p
  let g:=R .guard m.2
  let r:=R (.arrow (nk 22 [nk 23 []]) g.x) g.p
  let out1:=out++[r.x.notes' m.1]
  if !E.sign r.p [59]then { xs:=out1,p:=r.p }
  else R (.ifsL out1) (E.take r.p).2
 | .receive,p=>
  let p1:=(E.take p).2
  let r:Out:=if !E.word p1 [97,102,116,101,114]then R .clauses p1 else { p:=p1 }
  if E.word r.p [97,102,116,101,114]then
   let m:=E.notes r.p
   let r2:=R (.expr 1) (E.take m.2).2
   let r3:=R (.arrow (nk 22 [nk 23 [r2.x]]) (nk 24 [])) r2.p
   qau E (nkt 20 ⟨#[97,102,116,101,114]⟩ (r.xs++[r3.x.notes' m.1])) r3.p
  else qau E (nk 20 r.xs) r.p
def qf7(E:Env):Nat->Cmd->Ps->Out
 | 0,_,p=> { p:=p.wrong }
 | n+1,c,p=>qa6 E (qf7 E n) c p
theorem ql0(E:Env): ∀n i,i<=pkn E n i/\pkn E n i<=i+n
 | 0,i=>by simp only[pkn];omega
 | n+1,i=>by
  simp only[pkn]
  split
  ·have:=ql0 E n (i+1);omega
  ·omega
theorem qit(E:Env){i:Nat}(h:i<=E.to):i<=E.pk i/\E.pk i<=E.to:=by
 have:=ql0 E (E.to-i) i
 unfold Env.pk
 omega
theorem qes{E:Env}{i:Nat}(h:i<E.to)(hc:(E.tk i).1=11):E.pk i=E.pk (i+1):=by
 unfold Env.pk
 rw[show E.to-i=(E.to- (i+1))+1 by omega]
 simp only[pkn]
 rw[if_pos hc]
theorem qdh{E:Env}{i:Nat}(hc:E.to<=i\/(E.tk i).1≠11):E.pk i=i:=by
 unfold Env.pk
 rcases hc with h | h
 ·rw[show E.to-i=0 by omega];rfl
 ·cases E.to-i with
  | zero=>rfl
  | succ n=>simp only[pkn];rw[if_neg h]
theorem qeh{E:Env}{p:Ps}(h1:E.pk p.i<E.to)(h2:p.bad=false):E.at_ p=E.tk (E.pk p.i):=by unfold Env.at_;rw[if_pos ⟨h1,h2⟩]
theorem qmk{E:Env}{p:Ps}(h: ¬(E.pk p.i<E.to/\p.bad=false)):E.at_ p=tk0:=by unfold Env.at_;rw[if_neg h]
inductive Bad where
 | die
 | stuck
abbrev Rs(α:Type):=Except Bad α
inductive Stp where
 | expr (lv:Int)
 | prim
 | folw (c:Nat)
 | join (c:Nat) (op:ByteArray) (own:Int)
 | call
 | chgd
 | remo
 | clld
 | into (n:Nat)
 | tail (n:Nat) (k:Int) (s:Bs)
 | item (o:Stp)
 | nots (L:List ByteArray)
 | row (n:Nat) (b:Bs) (o:Stp)
 | more (n:Nat) (b:Bs) (o:Stp)
 | want (k:Int) (s:Bs)
 | box (n:Nat) (o:Bs) (one:Stp)
 | listK (n:Nat)
 | perh (lv:Int) (ss:List Bs)
 | perM (lv:Int) (ss:List Bs)
 | per2 (op:Bs) (left:Nat)
 | bodyO (n:Nat)
 | blnk (b:Bool)
 | val
 | sized
 | segm
 | pair
 | patC
 | funC
 | tstC
 | lstC
 | patt
 | guar
 | alts
 | cond
 | body
 | noth (k:Int)
 | arrow (n:Nat)
 | last (n:Nat)
structure Chn where
 lv:Int
 ct:Nat:=0
 ah:List ByteArray:=[]
 st:Bool:=false
 lf:Option Nat:=none
 hs:Int:=11
structure PM where
 i:Nat
 k:List Stp
 n:Option Nat
 N:List (Option Nd)
 C:List Chn
def PM.plan(σ:PM)(l:List Stp):PM:= { σ with k:=l++σ.k }
def PM.at_(σ:PM)(i:Nat):PM:= { σ with i:=i }
def PM.nd(σ:PM)(n:Nat):Rs Nd:=match σ.N[n]? with
 | some (some x)=>.ok x
 | _=>.error .stuck
def PM.cur(σ:PM):Rs (Nat×Nd):=match σ.n with
 | some j=>(σ.nd j).map (fun x=>(j,x))
 | none=>.error .stuck
def PM.set(σ:PM)(n:Nat)(x:Nd):PM:= { σ with N:=σ.N.set n (some x) }
def PM.mv(σ:PM)(n:Nat):PM:= { σ with N:=σ.N.set n none }
def PM.new(σ:PM)(x:Nd):PM:= { σ with N:=σ.N++[some x] }
def PM.is(σ:PM)(n:Nat):PM:= { σ with n:=some n }
def PM.got(σ:PM)(x:Nd):PM:=(σ.new x).is σ.N.length
def PM.ch(σ:PM)(c:Nat):Rs Chn:=match σ.C[c]? with
 | some x=>.ok x
 | none=>.error .stuck
def PM.setC(σ:PM)(c:Nat)(x:Chn):PM:= { σ with C:=σ.C.set c x }
def pz(i:Nat):Ps:=⟨i,false⟩
def nxE(E:Env)(i:Nat):Tok:=E.at_ (pz i)
def tkE(E:Env)(i:Nat):Rs Nat:=if E.pk i=i then .ok (i+1)else .error .die
def sgE(E:Env)(k:Int)(s:Bs)(i:Nat):Rs (Bool×Nat):=
 if E.is (pz i) k s then(tkE E i).map (fun j=>(true,j))else .ok (false,i)
def msE(E:Env)(k:Int)(s:Bs)(i:Nat):Rs Nat:=do
 let r<-sgE E k s i
 if r.1 then .ok r.2 else .error .die
def txE(E:Env)(f:Int->Bool)(i:Nat):Rs (ByteArray×Nat):=
 if f (nxE E i).1 then(tkE E i).map (fun j=>((nxE E i).2.1,j))else .error .die
def ntE(E:Env)(i:Nat):List ByteArray×Nat:=(cms E (E.pk i-i) i,max i (E.pk i))
def brE(E:Env)(i:Nat):Bool:=decide (0<E.nl (i:Int))
def blE(E:Env)(i:Nat):Bool:=decide (2<=E.nl (i:Int))
def scE(E:Env):Nat->Nat->ByteArray
 | 0,_=>⟨#[]⟩
 | n+1,a=>(E.tk a).2.1++scE E n (a+1)
def opE(E:Env)(i:Nat):ByteArray:=if(nxE E i).1=9\/(nxE E i).1=8 then(nxE E i).2.1 else⟨#[]⟩
def ctL(E:Env)(lv:Int):Nat->Nat->Nat->Rs (Nat×Nat)
 | 0,_,_=>.error .stuck
 | f+1,i,k=>if decide (lv<=0)&&E.word (pz i) [99,97,116,99,104]then do
    let j<-tkE E i
    ctL E lv f j (k+1)
  else .ok (k,i)
def pfL(E:Env):Nat->Nat->List ByteArray->Rs (List ByteArray×Nat)
 | 0,_,_=>.error .stuck
 | f+1,i,a=>if 0<pf (opE E i).toList then do
    let j<-tkE E i
    pfL E f j (a++[opE E i])
  else .ok (a,i)
def tyL(E:Env):Nat->Nat->Rs Nat
 | 0,_=>.error .stuck
 | f+1,i=>do
  let r<-txE E (· ==1) i
  let q<-sgE E 9 [45] r.2
  if q.1 then tyL E f q.2 else .ok q.2
def qer(o:Bs):Bs:=if o=[40]then[41]else if o=[123]then[125]else if o=[91]then[93]else if o=[60,60]then[62,62]else[]
def undL:List ByteArray->Nat->PM->Rs (Nat×PM)
 | [],n,σ=>.ok (n,σ)
 | a::r,n,σ=>do
  let x<-σ.nd n
  undL r σ.N.length ((σ.mv n).new (nkt 13 a [x]))
def twoE(op:ByteArray)(a b:Nat)(σ:PM):Rs PM:=do
 let x<-σ.nd a
 let y<-σ.nd b
 if a=b then .error .stuck else .ok (((σ.mv a).mv b).new (nkt 14 op [x,y]))
def qbc(E:Env)(σ:PM):Rs PM:=do
 let j<-msE E 9 [40] σ.i
 .ok ((σ.at_ j).plan [.expr 0,.want 9 [41]])
def litE(E:Env)(σ:PM):Rs PM:=do
 let r<-txE E ltk σ.i
 .ok ((σ.at_ r.2).got (nkt 1 r.1 []))
def boxE(σ:PM)(x:Nd)(o:Bs)(one:Stp):PM:=(σ.new x).plan [.box σ.N.length o one]
def qcm(E:Env)(n:Nat)(k:Int)(s:Bs)(σ:PM):Rs PM:=do
 let x<-σ.nd n
 let m:=ntE E σ.i
 let j<-msE E k s m.2
 .ok (((σ.set n (x.tail' m.1)).at_ j).is n)
def qec(E:Env)(σ:PM):Rs PM:=do
 let j<-msE E 9 [91] σ.i
 let n:=σ.N.length
 let τ:=(σ.at_ j).new ((nk 5 []).brk' (brE E j))
 if E.sign (pz j) [93]then qcm E n 9 [93] τ
 else .ok (τ.plan [.row n [44] (.item (.expr 3)),.listK n])
def binE(σ:PM):PM:=boxE σ (nk 6 []) [60,60] .segm
def qen(E:Env)(σ:PM):Rs PM:=do
 let j<-msE E 9 [35] σ.i
 if E.sign (pz j) [123]then .ok (boxE (σ.at_ j) (nk 8 []) [123] .pair)
 else do
  let r<-txE E nmk j
  .ok (boxE (σ.at_ r.2) (nkt 10 r.1 []) [123] (.expr 0))
def qab(n:Nat)(one:Stp):Stp:=.row n [59] (.item one)
def qa9(n:Nat):Stp:=.tail n 8 [101,110,100]
def funE(E:Env)(σ:PM):Rs PM:=do
 let j<-msE E 8 [102,117,110] σ.i
 if E.sign (pz j) [40]then
  if E.pk j=j then .ok (((σ.at_ j).new (nk 17 [])).plan [qab σ.N.length .funC,qa9 σ.N.length])else .error .die
 else do
  let r<-txE E nmk j
  let c<-sgE E 9 [58] r.2
  let d<-if c.1 then(txE E nmk c.2).map (·.2)else .ok c.2
  let e<-msE E 9 [47] d
  let a<-txE E szk e
  .ok ((σ.at_ a.2).got (nkt 16 (scE E (a.2-j) j) []))
def qd4(E:Env)(σ:PM):Rs PM:=do
 let j<-msE E 8 [99,97,115,101] σ.i
 let n:=σ.N.length
 .ok (((σ.at_ j).new (nk 18 [])).plan [.expr 0,.into n,.want 8 [111,102],qab n .patC,qa9 n])
def qeg(E:Env)(σ:PM):Rs PM:=do
 let j<-msE E 8 [105,102] σ.i
 let n:=σ.N.length
 .ok (((σ.at_ j).new (nk 19 [])).plan [qab n .tstC,qa9 n])
def qca(E:Env)(σ:PM):Rs PM:=do
 let j<-msE E 8 [114,101,99,101,105,118,101] σ.i
 let n:=σ.N.length
 let τ:=((σ.at_ j).new (nk 20 [])).plan [.last n,qa9 n]
 if E.word (pz j) [97,102,116,101,114]then .ok τ else .ok (τ.plan [qab n .patC])
def qe8(E:Env)(σ:PM):Rs PM:=do
 let j<-msE E 8 [98,101,103,105,110] σ.i
 let n:=σ.N.length
 .ok (((σ.at_ j).new (nk 21 [])).plan [.body,.into n,qa9 n])
def qbh(E:Env)(σ:PM):Rs PM:=
 let t:=nxE E σ.i
 if t.1=9 then
  if t.2.1.toList=[40]then qbc E σ
  else if t.2.1.toList=[123]then .ok (boxE σ (nk 4 []) [123] (.expr 0))
  else if t.2.1.toList=[91]then qec E σ
  else if t.2.1.toList=[60,60]then .ok (binE σ)
  else if t.2.1.toList=[35]then qen E σ
  else .error .die
 else if t.1=8 then
  if t.2.1.toList=[102,117,110]then funE E σ
  else if t.2.1.toList=[99,97,115,101]then qd4 E σ
  else if t.2.1.toList=[105,102]then qeg E σ
  else if t.2.1.toList=[114,101,99,101,105,118,101]then qca E σ
  else if t.2.1.toList=[98,101,103,105,110]then qe8 E σ
  else .error .die
 else litE E σ
def qbm(E:Env)(c:Nat)(σ:PM):Rs PM:=do
 let h<-σ.ch c
 let op:=opE E σ.i
 let own:Int:=bn op.toList
 match h.lf with
 | none=>.error .stuck
 | some l=>
  if own<max h.lv 1\/h.hs< (lf op.toList:Int)then do
   let r<-undL (List.replicate h.ct ⟨#[99,97,116,99,104]⟩) l σ
   .ok (r.2.is r.1)
  else do
   let j<-tkE E σ.i
   .ok ((σ.at_ j).plan [.expr (rt op.toList:Int),.join c op own])
def qat(E:Env)(h:Chn)(x:Nd)(i:Nat):Option Stp:=
 if h.st=false/\bare x=false then none
 else if E.sign (pz i) [40]then some .call
 else if E.sign (pz i) [35]then some .chgd
 else if E.sign (pz i) [58]/\(h.st=true\/x.kd=1)then some .remo
 else none
def qbk(E:Env)(σ:PM):Rs PM:=do
 let x<-σ.cur
 let j<-msE E 9 [35] σ.i
 let n:=σ.N.length
 let τ:=σ.mv x.1
 if E.sign (pz j) [123]then .ok (boxE (τ.at_ j) (nk 9 [x.2]) [123] .pair)
 else do
  let r<-txE E nmk j
  let d<-sgE E 9 [46] r.2
  if d.1 then do
   let a<-txE E (· ==1) d.2
   .ok (((τ.at_ a.2).new (nkt 12 (scE E (a.2-j) j) [x.2])).is n)
  else .ok (boxE (τ.at_ d.2) (nkt 11 r.1 [x.2]) [123] (.expr 0))
def qcj(E:Env)(lv:Int)(left:Nat):List Bs->PM->Rs PM
 | [],σ=>.ok σ
 | s::r,σ=>do
  let q<-sgE E 9 s σ.i
  if q.1 then .ok ((σ.at_ q.2).plan [.expr lv,.per2 s left])else qcj E lv left r σ
def qc0(σ:PM)(args guard:Stp):PM:=
 let n:=σ.N.length
 (σ.new (nk 22 [])).plan [args,.into n,guard,.into n,.arrow n,.body,.into n]
def qgn(σ:PM):PM:=(σ.new (nk 24 [])).plan [.row σ.N.length [59] .cond]
def stp(E:Env):Stp->PM->Rs PM
 | .expr lv,σ=>do
  let a<-ctL E lv (E.to+2) σ.i 0
  let b<-pfL E (E.to+2) a.2 []
  let τ:PM:= { σ with i:=b.2,C:=σ.C++[{ lv:=lv,ct:=a.1,ah:=b.1,st:=E.sign (pz b.2) [40],hs:=if b.1=[]then 11 else 10 }] }
  .ok (τ.plan [.prim,.folw σ.C.length])
 | .prim,σ=>qbh E σ
 | .folw c,σ=>do
  let h<-σ.ch c
  let x<-σ.cur
  match qat E h x.2 σ.i with
  | some s=>.ok ((σ.setC c { h with st:=false }).plan [s,.folw c])
  | none=>do
   let r<-undL h.ah.reverse x.1 σ
   qbm E c (r.2.setC c { h with lf:=some r.1 })
 | .join c op own,σ=>do
  let h<-σ.ch c
  let x<-σ.cur
  match h.lf with
  | none=>.error .stuck
  | some l=>do
   let τ<-twoE op l x.1 σ
   qbm E c (τ.setC c { h with lf:=some σ.N.length,hs:=own })
 | .call,σ=>do
  let x<-σ.cur
  .ok (boxE (σ.mv x.1) (nk 2 [x.2]) [40] (.expr 0))
 | .chgd,σ=>qbk E σ
 | .remo,σ=>do
  let x<-σ.cur
  let j<-msE E 9 [58] σ.i
  .ok ((((σ.mv x.1).new (nk 3 [x.2])).at_ j).plan [.clld,.into σ.N.length])
 | .clld,σ=>if E.sign (pz σ.i) [40]then qbc E σ else do
  let r<-txE E nmk σ.i
  .ok ((σ.at_ r.2).got (nkt 1 r.1 []))
 | .into n,σ=>do
  let x<-σ.cur
  let y<-σ.nd n
  if x.1=n then .error .stuck else .ok (((σ.mv x.1).set n (y.add [x.2])).is n)
 | .tail n k s,σ=>qcm E n k s σ
 | .item o,σ=>.ok ((σ.at_ (ntE E σ.i).2).plan [o,.nots (ntE E σ.i).1])
 | .nots L,σ=>do
  let x<-σ.cur
  .ok (σ.set x.1 (x.2.notes' L))
 | .row n b o,σ=>.ok (σ.plan [o,.into n,.more n b o])
 | .more n b o,σ=>do
  let q<-sgE E 9 b σ.i
  if q.1 then .ok ((σ.at_ q.2).plan [o,.into n,.more n b o])else .ok σ
 | .want k s,σ=>do
  let j<-msE E k s σ.i
  .ok (σ.at_ j)
 | .box n o one,σ=>do
  let x<-σ.nd n
  let j<-msE E 9 o σ.i
  let e:=qer o
  let τ:=((σ.at_ j).set n (x.brk' (brE E j))).plan [.tail n 9 e]
  if E.sign (pz j) e then .ok τ else .ok (τ.plan [.row n [44] (.item one)])
 | .listK n,σ=>do
  let x<-σ.nd n
  let q<-sgE E 9 [124,124] σ.i
  if q.1 then
   match x with
   | .mk _ t [y] br bl no ta=>match y with
    | .mk _ _ _ _ _ [] _=>.ok (((σ.at_ q.2).set n (.mk 15 t [y] br bl no ta)).plan [.row n [44] (.perh 3 [[60,45],[60,61]]),.want 9 [93]])
    | _=>.error .die
   | _=>.error .die
  else do
   let r<-sgE E 9 [124] σ.i
   if r.1 then .ok (((σ.at_ r.2).set n (x.txt' ⟨#[124]⟩)).plan [.expr 3,.into n,.tail n 9 [93]])
   else qcm E n 9 [93] σ
 | .perh lv ss,σ=>.ok (σ.plan [.expr lv,.perM lv ss])
 | .perM lv ss,σ=>match σ.n with
  | some j=>qcj E lv j ss σ
  | none=>.error .stuck
 | .per2 op l,σ=>do
  let x<-σ.cur
  let τ<-twoE ⟨op.toArray⟩ l x.1 σ
  .ok (τ.is σ.N.length)
 | .bodyO n,σ=>do
  let x<-σ.nd n
  .ok (σ.plan [.item (.expr 0),.blnk (!x.ls.isEmpty&&blE E σ.i)])
 | .blnk b,σ=>do
  let x<-σ.cur
  .ok (σ.set x.1 (x.2.blk' b))
 | .val,σ=>
  if E.sign (pz σ.i) [40]then qbc E σ
  else if E.sign (pz σ.i) [60,60]then .ok (binE σ)
  else litE E σ
 | .sized,σ=>do
  let a<-sgE E 9 [58] σ.i
  let b<-if a.1 then(txE E szk a.2).map (·.2)else .ok a.2
  let c<-sgE E 9 [47] b
  let d<-if c.1 then tyL E (E.to+2) c.2 else .ok c.2
  if σ.i<d then do
   let x<-σ.cur
   .ok (((σ.mv x.1).at_ d).got (nkt 7 (scE E (d-σ.i) σ.i) [x.2]))
  else .ok σ
 | .segm,σ=>.ok (σ.plan [.val,.sized])
 | .pair,σ=>.ok (σ.plan [.perh 1 [[61,62],[58,61]]])
 | .patC,σ=>.ok (qc0 σ .patt .guar)
 | .funC,σ=>.ok (qc0 (σ.new (nk 23 [])) (.box σ.N.length [40] (.expr 0)) .guar)
 | .tstC,σ=>.ok (qc0 σ (.noth 23) .alts)
 | .lstC,σ=>do
  let j<-msE E 8 [97,102,116,101,114] σ.i
  .ok (qc0 (σ.at_ j) .patt (.noth 24))
 | .patt,σ=>.ok ((σ.new (nk 23 [])).plan [.expr 1,.into σ.N.length])
 | .guar,σ=>do
  let τ:=σ.got (nk 24 [])
  let q<-sgE E 8 [119,104,101,110] σ.i
  if q.1 then .ok (qgn (τ.at_ q.2))else .ok τ
 | .alts,σ=>.ok (qgn σ)
 | .cond,σ=>.ok ((σ.new (nk 25 [])).plan [.row σ.N.length [44] (.expr 1)])
 | .body,σ=>.ok ((σ.new (nk 25 [])).plan [.row σ.N.length [44] (.bodyO σ.N.length)])
 | .noth k,σ=>.ok (σ.got (nk k []))
 | .arrow n,σ=>do
  let x<-σ.nd n
  let j<-msE E 9 [45,62] σ.i
  .ok ((σ.at_ j).set n (x.brk' (brE E j)))
 | .last n,σ=>do
  let x<-σ.nd n
  if E.word (pz σ.i) [97,102,116,101,114]then .ok ((σ.set n (x.txt' ⟨#[97,102,116,101,114]⟩)).plan [.item .lstC,.into n])else .ok σ
def mach(E:Env):Nat->PM->Rs PM
 | 0,_=>.error .stuck
 | m+1,σ=>match σ.k with
  | []=>.ok σ
  | s::r=>do
   let τ<-stp E s { σ with k:=r }
   mach E m τ
def qaj(E:Env)(p:Ps):Nat:=if p.bad then 0 else(E.to-p.i)+1
theorem qg7(E:Env)(p:Ps):qaj E p.wrong=0:=rfl
theorem qvg{E:Env}{p:Ps}(h:p.bad=true):qaj E p=0:=by unfold qaj;rw[if_pos h]
theorem qdq(E:Env)(p:Ps):qaj E (E.take p).2<=qaj E p:=by
 unfold Env.take
 split
 ·exact zC _
 ·unfold qaj
  simp only
  split<;>omega
theorem ql5(E:Env)(p:Ps)(h:qaj E p≠0):qaj E (E.take p).2<qaj E p:=by
 unfold Env.take
 split
 ·rw[qg7];omega
 ·rename_i hc
  simp only[Bool.or_eq_true,decide_eq_true_eq,not_or]at hc
  unfold qaj at h⊢
  simp only
  split
  ·rename_i hb;rw[if_pos hb]at h;omega
  ·omega
theorem qti(E:Env)(p:Ps)(c:Bool):qaj E (if c then p else p.wrong)<=qaj E p:=by
 cases c
 ·exact zC _
 ·exact zA _
theorem qok(E:Env)(p:Ps)(c:Bool):qaj E (if c then p.wrong else p)<=qaj E p:=by
 cases c
 ·exact zA _
 ·exact zC _
theorem qhw(E:Env)(p:Ps)(k:Int)(s:Bs):qaj E (E.want p k s).2<=qaj E p:=by
 unfold Env.want
 exact zB (qdq _ _) (qti _ _ _)
theorem qh6(E:Env)(p:Ps)(k:Int)(s:Bs)(h:qaj E p≠0):qaj E (E.want p k s).2<qaj E p:=by
 unfold Env.want
 cases E.is p k s
 ·have:=qdq E p.wrong
  rw[qg7]at this
  simp only[Bool.false_eq_true,if_false]
  omega
 ·exact ql5 E p h
theorem qhv(E:Env)(p:Ps)(ok:Bool):qaj E (E.text p ok).2<=qaj E p:=by
 unfold Env.text
 exact zB (qdq _ _) (qti _ _ _)
theorem qee(E:Env)(p:Ps):qaj E (E.notes p).2<=qaj E p:=by
 unfold Env.notes qaj
 simp only
 split
 ·exact zA _
 ·omega
theorem qvh(E:Env)(n:Nd)(p:Ps):qaj E (qau E n p).p<=qaj E p:=by
 unfold qau
 exact zB (qhw _ _ _ _) (qee _ _)
theorem qol(E:Env): ∀(n:Nat) (s:ByteArray) (p:Ps),qaj E (segT E n s p).2<=qaj E p
 | 0,s,p=>zC _
 | n+1,s,p=>by
  simp only[segT]
  split
  ·exact zB (qol E n _ _) (zB (qhv _ _ _) (qdq _ _))
  ·exact zA _
theorem rem_w0(E:Env)(p:Ps)(m:Nat):qaj E p.wrong<=m:=zC _
section
variable{rm:Ps->Nat}
theorem qc5{c:Prop}[Decidable c]{a b:Out}{m:Nat}(ha:rm a.p<=m)(hb:rm b.p<=m):rm (if c then a else b).p<=m:=by split<;>assumption
theorem qc3{c:Prop}[Decidable c]{a b:ByteArray×Ps}{m:Nat}(ha:rm a.2<=m)(hb:rm b.2<=m):rm (if c then a else b).2<=m:=by split<;>assumption
theorem qc4{c:Prop}[Decidable c]{a b:List ByteArray×Ps}{m:Nat}(ha:rm a.2<=m)(hb:rm b.2<=m):rm (if c then a else b).2<=m:=by split<;>assumption
theorem qc6{c:Prop}[Decidable c]{a b:Ps}{m:Nat}(ha:rm a<=m)(hb:rm b<=m):rm (if c then a else b)<=m:=by split<;>assumption
end
theorem qmm(E:Env)(R:Cmd->Ps->Out)(hR: ∀c p,qaj E (R c p).p<=qaj E p)(c:Cmd)(p:Ps):qaj E (qa6 E R c p).p<=qaj E p:=by
 have ht:=qdq E
 have hw:=qhw E
 have hx:=qhv E
 have hn:=qee E
 have hf:=qvh E
 have hs:=qol E
 have hz:=rem_w0 E
 cases c<;>simp only[qa6]
 all_goals generalize qaj E=rm at*
 all_goals generalize Env.take E=fT at*
 all_goals generalize Env.want E=fW at*
 all_goals generalize Env.text E=fX at*
 all_goals generalize Env.notes E=fN at*
 all_goals generalize qau E=fF at*
 all_goals generalize segT E=fS at*
 all_goals generalize Ps.wrong=fZ at*
 all_goals generalize Env.sign E=fG at*
 all_goals generalize Env.word E=fO at*
 all_goals generalize Env.at_ E=fA at*
 all_goals generalize Env.broken E=fB at*
 all_goals (repeat' (first | with_reducible exact zA _ | with_reducible exact hz _ _ | with_reducible refine qc5 ?_ ?_ | with_reducible refine qc3 ?_ ?_ | with_reducible refine qc4 ?_ ?_ | with_reducible refine qc6 ?_ ?_ | with_reducible refine zB (hR _ _) ?_ | with_reducible refine zB (hf _ _) ?_ | with_reducible refine zB (hw _ _ _) ?_ | with_reducible refine zB (hx _ _) ?_ | with_reducible refine zB (hn _) ?_ | with_reducible refine zB (hs _ _ _) ?_ | with_reducible refine zB (ht _) ?_))
theorem qff(E:Env): ∀(n:Nat) (c:Cmd) (p:Ps),qaj E (qf7 E n c p).p<=qaj E p
 | 0,_,_=>zC _
 | n+1,c,p=>by simp only[qf7];exact qmm E _ (qff E n) c p
end Go.Proofs.YtdhadeeajgoedaaGreat
