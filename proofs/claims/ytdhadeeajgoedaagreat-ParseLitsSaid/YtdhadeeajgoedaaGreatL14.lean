import Derived.Test.YtdhadeeajgoedaaGreatL12
import Derived.OwnWalk
set_option maxRecDepth 100000
set_option maxHeartbeats 4000000
set_option linter.all false
open List renaming drop_eq_getElem_cons→zA,getD_eq_getElem?_getD→zB,getElem?_cons_succ→zC,getElem?_cons_zero→zD,getElem?_map→zE
open Nat renaming le_refl→zF,le_trans→zG,lt_of_lt_of_le→zH,zero_le→zI
open Option renaming bind_eq_some_iff→zJ
namespace Go.Proofs.YtdhadeeajgoedaaGreat
open Go.RowKit Go.PlainAid
theorem qtl{c:Int}(h:bl c=true):(c==32)=true\/((c==32)=false/\(c==9)=true)\/((c==32)=false/\(c==9)=false/\(c==10)=true)\/((c==32)=false/\(c==9)=false/\(c==10)=false/\(c==13)=true):=by
 unfold bl at h
 cases h1:(c==32)<;>cases h2:(c==9)<;>cases h3:(c==10)<;>cases h4:(c==13)<;>simp_all
theorem qxl{c:Int}(h:bl c=false):(c==32)=false/\(c==9)=false/\(c==10)=false/\(c==13)=false:=by
 unfold bl at h
 cases h1:(c==32)<;>cases h2:(c==9)<;>cases h3:(c==10)<;>cases h4:(c==13)<;>simp_all
theorem qw0{c:Int}(h:tb c=true):(c==32)=true\/((c==32)=false/\(c==9)=true)\/((c==32)=false/\(c==9)=false/\(c==13)=true):=by
 unfold tb at h
 cases h1:(c==32)<;>cases h2:(c==9)<;>cases h4:(c==13)<;>simp_all
theorem tb_none{c:Int}(h:tb c=false):(c==32)=false/\(c==9)=false/\(c==13)=false:=by
 unfold tb at h
 cases h1:(c==32)<;>cases h2:(c==9)<;>cases h4:(c==13)<;>simp_all
theorem qt2{s:ByteArray}{n:Nat}:tr s 0 (n+1)=if tb (bt s n)=true then tr s 0 n else n+1:=by
 simp only[tr]
 by_cases h:tb (bt s n)=true
 ·rw[if_pos ⟨by omega,h⟩,if_pos h]
 ·rw[if_neg (fun h'=>h h'.2),if_neg h]
def qel(s:ByteArray)(p:Nat)(x:Int×Nat):Value:=
 if x.1=0 then .tuple #[.agg #[.int .i64 0,.string ⟨#[]⟩,.int .i64 0],.int .i64 4]else .tuple #[.agg #[.int .i64 x.1,.string (s.extract p x.2),.int .i64 p],.int .i64 0]
theorem qbc(k:Int)(s:ByteArray)(a:Int)(w:World):(Instr.build 34 #[(0,.int .i64 k),(1,.string s),(2,.int .i64 a)]).run Tryz.prog w=.ok (.agg #[.int .i64 k,.string s,.int .i64 a]) w:=run_build w 34 _ _ (by kernel_rfl)
theorem qbb(w:World):(Instr.build 34 #[]).run Tryz.prog w=.ok (.agg #[.int .i64 0,.string ⟨#[]⟩,.int .i64 0]) w:=run_build w 34 _ _ (by kernel_rfl)
theorem qxe{s:ByteArray}{a:Nat}: ∀n,a+n<=s.size-> ∀E,a+n<=E->E<=s.size->tr (s.extract a E) 0 n+a=tr s a (a+n)
 | 0,_,_,_,_=>by
  have:=qfj s a a
  have h1:=this.1
  have h2:=this.2.1 (zF _)
  show 0+a=tr s a a
  omega
 | n+1,h,E,h1,h2=>by
  have ih:=qxe (s:=s) (a:=a) n (by omega) E (by omega) h2
  have hb:=qwg s a E n h2 (by omega)
  rw[qt2,hb,show a+(n+1)=(a+n)+1 by omega]
  show _=if a<a+n+1/\tb (bt s (a+n))=true then tr s a (a+n)else a+n+1
  by_cases c:tb (bt s (a+n))=true
  ·rw[if_pos c,if_pos ⟨by omega,c⟩];exact ih
  ·rw[if_neg c,if_neg (fun h=>c h.2)];omega
theorem qw4{s:ByteArray}{a E:Nat}(h:a<=E)(hE:E<=s.size):(s.extract a E).extract 0 (tr (s.extract a E) 0 (s.extract a E).size)=s.extract a (tr s a E):=by
 have hz:=qd0 s a E hE
 have ht:=qxe (s:=s) (a:=a) (E-a) (by omega) E (by omega) hE
 rw[show a+(E-a)=E by omega]at ht
 have h1:=(qfj s a E).1
 rw[hz]
 apply ByteArray.ext
 rw[ByteArray.data_extract,ByteArray.data_extract,ByteArray.data_extract,Array.extract_extract,Nat.add_zero]
 congr 1
 rw[<-ht]
 omega
theorem qly(s:ByteArray)(p:Nat){x:Int×Nat}(h:x.1=0):qel s p x=.tuple #[.agg #[.int .i64 0,.string ⟨#[]⟩,.int .i64 0],.int .i64 4]:=by unfold qel;rw[if_pos h]
theorem qcm(s:ByteArray)(p:Nat){x:Int×Nat}(h:x.1≠0):qel s p x=.tuple #[.agg #[.int .i64 x.1,.string (s.extract p x.2),.int .i64 p],.int .i64 0]:=by unfold qel;rw[if_neg h]
theorem one_37{s:ByteArray}{k:Nat}(h:bt s k=37):one s k=(11,tr s k (ix s 10 k)):=by unfold one;rw[if_pos h]
theorem qzf{s:ByteArray}{k:Nat}(h:bt s k=46)(h2:k+1=s.size\/bt s (k+1)=37\/k+1<fw bl s (k+1)):one s k=(10,k+1):=by unfold one;rw[if_neg (by omega),if_pos ⟨h,h2⟩]
theorem qzg{s:ByteArray}{k:Nat}(h:beg (bt s k)=3):one s k=num s k:=by
 have h0:bt s k≠37:=fun e=>by rw[e]at h;exact absurd h (by decide)
 have h1:bt s k≠46:=fun e=>by rw[e]at h;exact absurd h (by decide)
 unfold one;rw[if_neg h0,if_neg (fun g=>h1 g.1),if_pos h]
theorem qv3{s:ByteArray}{k:Nat}(h:beg (bt s k)≠3)(h2:0<beg (bt s k)):one s k=(if rs (s.extract k (fw inn s k))=true then 8 else beg (bt s k),fw inn s k):=by
 have h0:bt s k≠37:=fun e=>by rw[e]at h2;exact absurd h2 (by decide)
 have h1:bt s k≠46:=fun e=>by rw[e]at h2;exact absurd h2 (by decide)
 unfold one;rw[if_neg h0,if_neg (fun g=>h1 g.1),if_neg h,if_pos h2]
theorem one_39{s:ByteArray}{k:Nat}(h:bt s k=39):one s k=tk 1 (qx s 39 (k+1)):=by
 unfold one;rw[if_neg (by omega),if_neg (by omega),if_neg (by rw[h];decide),if_neg (by rw[h];decide),if_pos h]
theorem one_34{s:ByteArray}{k:Nat}(h:bt s k=34):one s k=tk 6 (qx s 34 (k+1)):=by
 unfold one;rw[if_neg (by omega),if_neg (by omega),if_neg (by rw[h];decide),if_neg (by rw[h];decide),if_neg (by omega),if_pos h]
theorem one_36{s:ByteArray}{k:Nat}(h:bt s k=36):one s k=tk 5 (che s k):=by
 unfold one;rw[if_neg (by omega),if_neg (by omega),if_neg (by rw[h];decide),if_neg (by rw[h];decide),if_neg (by omega),if_neg (by omega),if_pos h]
theorem one_63{s:ByteArray}{k:Nat}(h:bt s k=63):one s k=if fst (bt s (mcb s k))=true then(7,fw inn s (mcb s k))else(0,0):=by
 unfold one;rw[if_neg (by omega),if_neg (by omega),if_neg (by rw[h];decide),if_neg (by rw[h];decide),if_neg (by omega),if_neg (by omega),if_neg (by omega),if_pos h]
theorem qmt{s:ByteArray}{k:Nat}(h1:bt s k≠37)(h2: ¬(bt s k=46/\(k+1=s.size\/bt s (k+1)=37\/k+1<fw bl s (k+1))))(h3:beg (bt s k)=0)(h4:bt s k≠39)(h5:bt s k≠34)(h6:bt s k≠36)(h7:bt s k≠63):
 one s k=if lgL (s.data.toList.drop k)=0 then(0,0)else(9,k+lgL (s.data.toList.drop k)):=by
 unfold one;rw[if_neg h1,if_neg h2,if_neg (by omega),if_neg (by omega),if_neg h4,if_neg h5,if_neg h6,if_neg h7]
theorem qyg:(Tryz.prog.info? 34).map (fun i=>(i.zero,i.size,i.bytes))=some (some (.agg #[.int .i64 0,.string ⟨#[]⟩,.int .i64 0]),3,32):=by kernel_rfl
def tkc(s:ByteArray)(x:Tk3):List Value:=[.int .i64 x.1,.string (s.extract x.2.1 x.2.2),.int .i64 x.2.1]
def qsx(s:ByteArray)(l:List Tk3):List Value:=l.flatMap (tkc s)
def qco(s:ByteArray):List Tk3×Int:=
 if 65536<s.size then([],3)else if vd s 0=false then([],2)else match sc s (fw bl s 0)with
  | none=>([],4)
  | some l=>(l,0)
def ScanAre(w0:World)(s:ByteArray)(e:Ending)(w':World):Prop:=
 ∃v,e=.returned (.tuple #[v,.int .i64 (qco s).2])/\w'.ownsRow w0.heap.size 34 3 v (qco s).1.length (qsx s (qco s).1)/\Below w0.heap.size w0 w'
def Sk(w0:World)(s:ByteArray)(wr:World)(v:Value)(L:List Tk3):Prop:=wr.ownsRow w0.heap.size 34 3 v L.length (qsx s L)/\Below w0.heap.size w0 wr
theorem qc9{w w':World}{base:Nat}{e:TypeId}{size:Nat}{v:Value}{n:Nat}{xs:List Value}(h:w.ownsRow base e size v n xs)(hb:Below w.heap.size w w'):w'.ownsRow base e size v n xs:=by
 obtain⟨h1,h2 | ⟨g,cap,cur,h3,h4,h5,h6⟩⟩:=h
 ·exact⟨h1,.inl h2⟩
 ·refine⟨h1,.inr ⟨g,cap,cur,h3,h4,?_,h6⟩⟩
  rw[hb.block g (by have:=(Array.getElem?_eq_some_iff.1 h5).1;exact this)]
  exact h5
theorem Sk.below{w0 wr w1:World}{s:ByteArray}{v:Value}{L:List Tk3}(h:Sk w0 s wr v L)(hb:Below wr.heap.size wr w1):Sk w0 s w1 v L:=⟨qc9 h.1 hb,h.2.trans (hb.mono h.2.size)⟩
theorem qw2(s:ByteArray)(L:List Tk3)(x:Tk3):qsx s (L++[x])=qsx s L++tkc s x:=by unfold qsx;rw[List.flatMap_append];simp
theorem Sk.put{w0 w1 w2:World}{s:ByteArray}{v v':Value}{L:List Tk3}{x:Tk3}(h:Sk w0 s w1 v L)(o:Obj)(hown:w2.ownsRow w0.heap.size 34 3 v' (L.length+1) (qsx s L++tkc s x))(hg:(w1.alloc o).grownBy w2 v.ownBlock):Sk w0 s w2 v' (L++[x]):=by
 refine⟨by rw[List.length_append,qw2];exact hown,?_⟩
 refine(h.2.alloc h.2.size o).grown hg (zG h.2.size (by simp)) ?_
 intro j hj
 exact(h.1.lt j hj).1
theorem quk{w1 w2:World}{v:Value}{T:Nat}{cs:Array Value}{t:TypeId}(hT:some T≠v.ownBlock)(h:w1.heap[T]?=some (.cells cs t (0,0)))(o:Obj)(hg:(w1.alloc o).grownBy w2 v.ownBlock):w2.heap[T]?=some (.cells cs t (0,0)):=by
 have hlt:=(Array.getElem?_eq_some_iff.1 h).1
 rw[hg.block T (by simp;omega) hT,<-h]
 show(w1.heap.push o)[T]?=w1.heap[T]?
 rw[Array.getElem?_push_lt hlt]
 simp[hlt]
theorem qg9(w:World)(x y z:Value)(t:TypeId): ∀j u,[x,y,z][j]?=some u->(w.alloc (.cells #[x,y,z] t)).cell? ((⟨w.heap.size,0,none⟩:Addr).add j)=some u:=by
 intro j u hj
 match j,hj with
 | 0,hj=>simp at hj;subst hj;simp[Addr.add]
 | 1,hj=>simp at hj;subst hj;simp[Addr.add]
 | 2,hj=>simp at hj;subst hj;simp[Addr.add]
 | j+3,hj=>simp at hj
theorem ScanAre.no{w0 w':World}{s:ByteArray}{c:Int}(h:qco s=([],c))(hb:Below w0.heap.size w0 w'):ScanAre w0 s (.returned (.tuple #[.slice none 0 0,.int .i64 c])) w':=by
 refine⟨.slice none 0 0,by rw[h],?_,hb⟩
 rw[h]
 exact World.ownsRow_nil _ _ _ _
theorem ScanAre.ok{w0 w':World}{s:ByteArray}{v:Value}{L:List Tk3}(h:qco s=(L,0))(hk:Sk w0 s w' v L):ScanAre w0 s (.returned (.tuple #[v,.int .i64 0])) w':=by
 refine⟨v,by rw[h],?_,hk.2⟩
 rw[h]
 exact hk.1
def TkAt(W:World)(v:Value)(s:ByteArray)(L:List Tk3):Prop:=
 ∃a cap,v=.slice a L.length cap/\(0<L.length-> ∃g,a=some ⟨g,0,none⟩/\g<W.heap.size/\ ∀i x,L[i]?=some x->
  W.cell? ⟨g,i*3,none⟩=some (.int .i64 x.1)/\W.cell? ⟨g,i*3+1,none⟩=some (.string (s.extract x.2.1 x.2.2))/\W.cell? ⟨g,i*3+2,none⟩=some (.int .i64 x.2.1))
theorem TkAt.below{W W':World}{v:Value}{s:ByteArray}{L:List Tk3}(h:TkAt W v s L)(hb:Below W.heap.size W W'):TkAt W' v s L:=by
 obtain⟨a,cap,h1,h2⟩:=h
 refine⟨a,cap,h1,fun h0=>?_⟩
 obtain⟨g,g1,g2,g3⟩:=h2 h0
 refine⟨g,g1,zH g2 hb.size,fun i x hx=>?_⟩
 obtain⟨c1,c2,c3⟩:=g3 i x hx
 exact⟨(hb.cell (p:=⟨g,i*3,none⟩) g2).trans c1,(hb.cell (p:=⟨g,i*3+1,none⟩) g2).trans c2,(hb.cell (p:=⟨g,i*3+2,none⟩) g2).trans c3⟩
theorem qp9(s:ByteArray): ∀(L:List Tk3) (i:Nat) (x:Tk3),L[i]?=some x-> ∀j,j<3->(qsx s L)[i*3+j]?=(tkc s x)[j]?
 | [],i,x,h,_,_=>by simp at h
 | y::t,0,x,h,j,hj=>by
  simp at h
  subst h
  show((tkc s y++qsx s t))[0*3+j]?=_
  rw[List.getElem?_append_left (by show 0*3+j<3;omega)]
  simp
 | y::t,i+1,x,h,j,hj=>by
  simp at h
  show((tkc s y++qsx s t))[(i+1)*3+j]?=_
  rw[List.getElem?_append_right (by show 3<=(i+1)*3+j;omega)]
  have:(i+1)*3+j- (tkc s y).length=i*3+j:=by show(i+1)*3+j-3=i*3+j;omega
  rw[this]
  exact qp9 s t i x h j hj
theorem tkAt_of{W:World}{base:Nat}{v:Value}{s:ByteArray}{L:List Tk3}(h:W.ownsRow base 34 3 v L.length (qsx s L)):TkAt W v s L:=by
 obtain⟨h1,⟨rfl,h2⟩ | ⟨g,cap,cur,rfl,hb,hg,hn,hc,hz,ht⟩⟩:=h
 ·exact⟨none,0,by rw[h2],fun h0=>by omega⟩
 ·refine⟨some ⟨g,0,none⟩,cap,rfl,fun _=>⟨g,rfl,(Array.getElem?_eq_some_iff.1 hg).1,fun i x hx=>?_⟩⟩
  have hi:i<L.length:=(List.getElem?_eq_some_iff.1 hx).1
  have hcell: ∀j,j<3->W.cell? ⟨g,i*3+j,none⟩=(tkc s x)[j]?:=fun j hj=>by
   rw[cell_of_row W g _ _ _ _ hg,<-qp9 s L i x hx j hj,<-ht,List.getElem?_take_of_lt (by omega),Array.getElem?_toList]
  exact⟨hcell 0 (by omega),hcell 1 (by omega),hcell 2 (by omega)⟩
def scanF(s:ByteArray):List Tk3×Int:=
 if 65536<s.size then([],3)else if vdF s s.size 0=false then([],2)else match scF s s.size (fwF bl s s.size 0)with
  | none=>([],4)
  | some l=>(l,0)
theorem qx9(s:ByteArray):qco s=scanF s:=by
 unfold qco scanF
 rw[vd_F s s.size 0 (by omega),fw_F bl s s.size 0 (by omega),sc_F s s.size _ (by omega)]
 generalize scF s s.size (fwF bl s s.size 0)=o
 cases o<;>rfl
theorem qx8{s:ByteArray}: ∀(l:List Tk3) (k:Nat),sc s k=some l->l.length<=s.size-k
 | [],_,_=>zI _
 | x::l,k,h=>by
  obtain⟨h1,h2,h3,h4,h5,h6,h7⟩:=qlq h
  have h8:=qgh bl s x.2.2
  have:=qx8 l _ h7
  simp only[List.length_cons]
  omega
theorem qg1(s:ByteArray):(qco s).1.length<=s.size:=by
 unfold qco
 split
 ·exact zI _
 ·split
  ·exact zI _
  ·cases h:sc s (fw bl s 0)with
   | none=>exact zI _
   | some l=>exact zG (qx8 l _ h) (Nat.sub_le _ _)
theorem qf1{s:ByteArray}{L:List Tk3}(h:qco s=(L,0)):s.size<=65536/\vd s 0=true/\sc s (fw bl s 0)=some L:=by
 unfold qco at h
 by_cases h1:65536<s.size
 ·rw[if_pos h1]at h;exact absurd (congrArg Prod.snd h) (show¬((3:Int)=0)by decide)
 ·rw[if_neg h1]at h
  by_cases h2:vd s 0=false
  ·rw[if_pos h2]at h;exact absurd (congrArg Prod.snd h) (show¬((2:Int)=0)by decide)
  ·rw[if_neg h2]at h
   cases h3:sc s (fw bl s 0)with
   | none=>rw[h3]at h;exact absurd (congrArg Prod.snd h) (show¬((4:Int)=0)by decide)
   | some l=>
    rw[h3]at h
    have h4:l=L:=congrArg Prod.fst h
    exact⟨by omega,by simpa using h2,by rw[h4]⟩
def Kr(W:World)(g:Nat)(X Y:ByteArray)(A B:Int):Prop:=
 (W.cell? ⟨g,0,none⟩=some (.int .i64 A)/\W.cell? ⟨g,1,none⟩=some (.string X)/\W.cell? ⟨g,3,none⟩=some (.int .i64 B)/\W.cell? ⟨g,4,none⟩=some (.string Y)/\W.cell? ⟨g,5,none⟩=some (.int .i64 ((X.size:Int)+1)))/\g<W.heap.size
theorem Kr.below{W W':World}{g:Nat}{X Y:ByteArray}{A B:Int}(h:Kr W g X Y A B)(hb:Below W.heap.size W W'):Kr W' g X Y A B:=by
 obtain⟨⟨h1,h2,h3,h4,h5⟩,h6⟩:=h
 exact⟨⟨(hb.cell (p:=⟨g,0,none⟩) h6).trans h1,(hb.cell (p:=⟨g,1,none⟩) h6).trans h2,(hb.cell (p:=⟨g,3,none⟩) h6).trans h3,(hb.cell (p:=⟨g,4,none⟩) h6).trans h4,(hb.cell (p:=⟨g,5,none⟩) h6).trans h5⟩,zH h6 hb.size⟩
abbrev Tok:=Int×ByteArray×Int
def TRow(W:World)(v:Value)(T:List Tok):Prop:=
 ∃a cap,v=.slice a T.length cap/\(0<T.length-> ∃g o,a=some ⟨g,o,none⟩/\g<W.heap.size/\ ∀i x,T[i]?=some x->
  W.cell? ⟨g,o+i*3,none⟩=some (.int .i64 x.1)/\W.cell? ⟨g,o+i*3+1,none⟩=some (.string x.2.1)/\W.cell? ⟨g,o+i*3+2,none⟩=some (.int .i64 x.2.2))
theorem TRow.below{W W':World}{v:Value}{T:List Tok}(h:TRow W v T)(hb:Below W.heap.size W W'):TRow W' v T:=by
 obtain⟨a,cap,h1,h2⟩:=h
 refine⟨a,cap,h1,fun h0=>?_⟩
 obtain⟨g,o,g1,g2,g3⟩:=h2 h0
 refine⟨g,o,g1,zH g2 hb.size,fun i x hx=>?_⟩
 obtain⟨c1,c2,c3⟩:=g3 i x hx
 exact⟨(hb.cell (p:=⟨g,o+i*3,none⟩) g2).trans c1,(hb.cell (p:=⟨g,o+i*3+1,none⟩) g2).trans c2,(hb.cell (p:=⟨g,o+i*3+2,none⟩) g2).trans c3⟩
def tok3(s:ByteArray)(x:Tk3):Tok:=(x.1,s.extract x.2.1 x.2.2,(x.2.1:Int))
def qcx(s:ByteArray)(L:List Tk3):List Tok:=L.map (tok3 s)
theorem qb8(s:ByteArray)(L:List Tk3):(qcx s L).length=L.length:=by unfold qcx;rw[List.length_map]
theorem qt0{s:ByteArray}{L:List Tk3}{i:Nat}{x:Tk3}(h:L[i]?=some x):(qcx s L)[i]?=some (tok3 s x):=by unfold qcx;rw[zE,h];rfl
theorem trow_of{W:World}{v:Value}{s:ByteArray}{L:List Tk3}(h:TkAt W v s L):TRow W v (qcx s L):=by
 obtain⟨a,cap,h1,h2⟩:=h
 refine⟨a,cap,by rw[qb8];exact h1,fun h0=>?_⟩
 rw[qb8]at h0
 obtain⟨g,g1,g2,g3⟩:=h2 h0
 refine⟨g,0,g1,g2,fun i x hx=>?_⟩
 unfold qcx at hx
 rw[zE]at hx
 obtain⟨y,hy,rfl⟩:=Option.map_eq_some_iff.1 hx
 rw[Nat.zero_add]
 exact g3 i y hy
def nlr(s:ByteArray)(e:Nat):Nat->Nat
 | 0=>0
 | n+1=>nlr s e n+if bt s (e+n)=10 then 1 else 0
theorem qwv(s:ByteArray)(e:Nat): ∀n,nlr s e n<=n
 | 0=>zF _
 | n+1=>by have:=qwv s e n;simp only[nlr];split<;>omega
theorem qz6{s:ByteArray}{e n:Nat}(h:bt s (e+n)=10):nlr s e (n+1)=nlr s e n+1:=by simp[nlr,h]
theorem qux{s:ByteArray}{e n:Nat}(h:bt s (e+n)≠10):nlr s e (n+1)=nlr s e n:=by simp[nlr,h]
theorem quy(s:ByteArray)(e:Nat){a b:Nat}(h:a<=b):nlr s e a<=nlr s e b:=by
 induction b with
 | zero=>obtain rfl:a=0:=by omega
         exact zF _
 | succ b ih=>
  by_cases hb:a=b+1
  ·subst hb;exact zF _
  ·have:=ih (by omega)
   simp only[nlr];split<;>omega
def nls(s:ByteArray)(L:List Tk3)(k:Int):Nat:=
 if k<1\/(L.length:Int)<=k then 0 else nlr s (L.getD (k.toNat-1) (0,0,0)).2.2 ((L.getD k.toNat (0,0,0)).2.1- (L.getD (k.toNat-1) (0,0,0)).2.2)
theorem qz7{s:ByteArray}{L:List Tk3}{k:Int}(h:k<1\/(L.length:Int)<=k):nls s L k=0:=by unfold nls;rw[if_pos h]
theorem nls_in{s:ByteArray}{L:List Tk3}{k:Nat}{x y:Tk3}(hx:L[k]?=some x)(hy:L[k+1]?=some y):nls s L ((k:Int)+1)=nlr s x.2.2 (y.2.1-x.2.2):=by
 have hl:k+1<L.length:=(List.getElem?_eq_some_iff.1 hy).1
 unfold nls
 rw[if_neg (by omega),show((k:Int)+1).toNat=k+1 by omega,zB,zB,hy,Nat.add_sub_cancel,hx]
 rfl
def par(t:List Tok):Bool:=match t with
 | []=>false
 | y::_=>y.1==9&&y.2.1.toList==[40]
def qjt(s:ByteArray):Bool:=s.toList==[102,117,110]
def nh(x:Tok)(t:List Tok):Int:=
 if x.1=9 then(if opq x.2.1.toList then 1 else if clq x.2.1.toList then-1 else 0)
 else if x.1=8 then(if opw x.2.1.toList then 1 else if clw x.2.1.toList then-1 else if qjt x.2.1&&par t then 1 else 0)else 0
def dl:List Tok->Int->Int->Int
 | [],_,m=>m
 | x::t,o,m=>dl t (max (o+nh x t) 0) (max m (max (o+nh x t) 0))
theorem qxx{T:List Tok}{k:Nat}{x:Tok}(h:T[k]?=some x)(o m:Int):dl (T.drop k) o m=dl (T.drop (k+1)) (max (o+nh x (T.drop (k+1))) 0) (max m (max (o+nh x (T.drop (k+1))) 0)):=by
 have hk:k<T.length:=(List.getElem?_eq_some_iff.1 h).1
 have h2:T[k]=x:=(List.getElem?_eq_some_iff.1 h).2
 rw[zA hk,h2]
 rfl
theorem qv7{T:List Tok}{k:Nat}{y:Tok}(h:T[k]?=some y):par (T.drop k)=(y.1==9&&y.2.1.toList==[40]):=by
 have hk:k<T.length:=(List.getElem?_eq_some_iff.1 h).1
 have h2:T[k]=y:=(List.getElem?_eq_some_iff.1 h).2
 rw[zA hk,h2]
 rfl
theorem qv8{T:List Tok}{k:Nat}(h:T.length<=k):par (T.drop k)=false:=by rw[List.drop_eq_nil_of_le h];rfl
theorem qry{s:ByteArray}: ∀(L:List Tk3) (j:Nat),sc s j=some L-> ∀(k:Nat) (x y:Tk3),L[k]?=some x->L[k+1]?=some y->x.2.1<x.2.2/\x.2.2<=y.2.1/\y.2.1<y.2.2/\y.2.2<=s.size
 | [],_,_,_,_,_,h,_=>by simp at h
 | z::l,j,h,k,x,y,hx,hy=>by
  obtain⟨h1,h2,h3,h4,h5,h6,h7⟩:=qlq h
  match k,hx,hy with
  | 0,hx,hy=>
   simp only[zD,Option.some.injEq]at hx
   subst hx
   match l,h7,hy with
   | [],_,hy=>simp at hy
   | u::l',h7,hy=>
    simp only[zC,zD,Option.some.injEq]at hy
    subst hy
    obtain⟨g1,g2,g3,g4,g5,g6,g7⟩:=qlq h7
    have:=qgh bl s z.2.2
    exact⟨by omega,by omega,by omega,g6⟩
  | k+1,hx,hy=>
   simp only[zC]at hx hy
   exact qry l _ h7 k x y hx hy
structure Env where
 T:List Tok
 to:Nat
 nl:Int->Nat
structure Ps where
 i:Nat
 bad:Bool
abbrev Bs:=List UInt8
def tk0:Tok:=(0,⟨#[]⟩,0)
def Env.tk(E:Env)(i:Nat):Tok:=E.T.getD i tk0
def pkn(E:Env):Nat->Nat->Nat
 | 0,i=>i
 | n+1,i=>if(E.tk i).1=11 then pkn E n (i+1)else i
def Env.pk(E:Env)(i:Nat):Nat:=pkn E (E.to-i) i
def Env.at_(E:Env)(p:Ps):Tok:=if E.pk p.i<E.to/\p.bad=false then E.tk (E.pk p.i)else tk0
def Env.is(E:Env)(p:Ps)(k:Int)(s:Bs):Bool:=(E.at_ p).1==k&&(E.at_ p).2.1.toList==s
def Env.sign(E:Env)(p:Ps)(s:Bs):Bool:=E.is p 9 s
def Env.word(E:Env)(p:Ps)(s:Bs):Bool:=E.is p 8 s
def Ps.wrong(p:Ps):Ps:= { p with bad:=true }
def Env.take(E:Env)(p:Ps):Nat×Ps:=if p.bad||decide (E.to<=p.i)||(E.tk p.i).1==11 then(0,p.wrong)else(p.i, { p with i:=p.i+1 })
def Env.want(E:Env)(p:Ps)(k:Int)(s:Bs):Nat×Ps:=E.take (if E.is p k s then p else p.wrong)
def cms(E:Env):Nat->Nat->List ByteArray
 | 0,_=>[]
 | n+1,i=>(E.tk i).2.1::cms E n (i+1)
def Env.notes(E:Env)(p:Ps):List ByteArray×Ps:=(cms E (E.pk p.i-p.i) p.i, { p with i:=max p.i (E.pk p.i) })
def Env.broken(E:Env)(p:Ps)(k:Nat):Bool:=!p.bad&&decide (0<E.nl ((k:Int)+1))
def nmk(k:Int):Bool:=k==1||k==2||k==7
def szk(k:Int):Bool:=k==3||k==2||k==7
def ltk(k:Int):Bool:=decide (1<=k)&&decide (k<=7)
def Env.text(E:Env)(p:Ps)(ok:Bool):ByteArray×Ps:=
 let q:=E.take (if ok then p else p.wrong)
 (if q.2.bad then⟨#[]⟩else(E.tk q.1).2.1,q.2)
def zN:Nd:=.mk 0 ⟨#[]⟩ [] false false [] []
def nk(k:Int)(l:List Nd):Nd:=.mk k ⟨#[]⟩ l false false [] []
def nkt(k:Int)(t:ByteArray)(l:List Nd):Nd:=.mk k t l false false [] []
def Nd.add:Nd->List Nd->Nd | .mk k t l br bl no ta,m=>.mk k t (l++m) br bl no ta
def Nd.notes':Nd->List ByteArray->Nd | .mk k t l br bl _ ta,no=>.mk k t l br bl no ta
def Nd.tail':Nd->List ByteArray->Nd | .mk k t l br bl no _,ta=>.mk k t l br bl no ta
def Nd.brk':Nd->Bool->Nd | .mk k t l _ bl no ta,br=>.mk k t l br bl no ta
def Nd.blk':Nd->Bool->Nd | .mk k t l br _ no ta,bl=>.mk k t l br bl no ta
def Nd.txt':Nd->ByteArray->Nd | .mk k _ l br bl no ta,t=>.mk k t l br bl no ta
def Nd.kd:Nd->Int | .mk k _ _ _ _ _ _=>k
def Nd.tx:Nd->ByteArray | .mk _ t _ _ _ _ _=>t
def Nd.ls:Nd->List Nd | .mk _ _ l _ _ _ _=>l
def qtb(n:Nd):Bool:=
 if n.kd==1 then match n.tx.toList with
  | []=>false
  | c::_=>!(decide (48<=c.toNat)&&decide (c.toNat<=57))&&c !=36&&c !=34
 else n.kd==2||n.kd==3||n.kd==8||n.kd==9||n.kd==10||n.kd==11||n.kd==12
inductive Cmd where
 | expr (level:Int)
 | exprL (level:Int) (left:Nd) (has:Int)
 | operand
 | primary
 | follow (x:Nd) (paren:Bool)
 | box (n:Nd) (o c:Bs) (level:Int)
 | boxL (n:Nd) (notes:List ByteArray) (c:Bs) (level:Int)
 | item (kind level:Int)
 | segment
 | list
 | listL (n:Nd) (notes:List ByteArray)
 | comp (x:Nd) (broken:Bool)
 | compL (n:Nd)
 | hash (of:List Nd)
 | func
 | funcL (n:Nd)
 | head (s:ByteArray)
 | rest (c:Nd)
 | arrow (c g:Nd)
 | guard
 | guardL (g:Nd)
 | guardB (b:Nd)
 | body
 | bodyL (b:Nd)
 | clauses
 | clausesL (out:List Nd)
 | ifs
 | ifsL (out:List Nd)
 | receive
structure Out where
 x:Nd:=zN
 xs:List Nd:=[]
 h:Int:=0
 p:Ps
def qai(E:Env)(n:Nd)(p:Ps):Out:=
 let q:=E.notes p
 { x:=n.tail' q.1,p:=(E.want q.2 8 [101,110,100]).2 }
def qcg(E:Env):Nat->ByteArray->Ps->ByteArray×Ps
 | 0,s,p=>(s,p.wrong)
 | n+1,s,p=>
  if E.sign p [45]then
   let p1:=(E.take p).2
   let t:=E.text p1 ((E.at_ p1).1==1)
   qcg E n (s++⟨#[45]⟩++t.1) t.2
  else(s,p)
def qa6(E:Env)(R:Cmd->Ps->Out):Cmd->Ps->Out
 | .expr level,p=>
  if decide (level<=0)&&E.word p [99,97,116,99,104]then
   let r:=R (.expr 0) (E.take p).2
   { x:=nkt 13 ⟨#[99,97,116,99,104]⟩ [r.x],p:=r.p }
  else
   let r:=R .operand p
   R (.exprL level r.x r.h) r.p
 | .exprL level left has,p=>
  if p.bad then { x:=left,p:=p } else
  let t:=E.at_ p
  let b:Int:=bn t.2.1.toList
  if(t.1 !=9&&t.1 !=8)||b==0||decide (b<level)||decide (has< (lf t.2.1.toList:Int))then { x:=left,p:=p } else
  let r:=R (.expr (rt t.2.1.toList:Int)) (E.take p).2
  R (.exprL level (nkt 14 t.2.1 [left,r.x]) b) r.p
 | .operand,p=>
  let t:=E.at_ p
  if(t.1==9||t.1==8)&&decide (0<pf t.2.1.toList)then
   let r:=R .operand (E.take p).2
   { x:=nkt 13 t.2.1 [r.x],h:=10,p:=r.p }
  else
   let paren:=E.sign p [40]
   let r:=R .primary p
   let r2:=R (.follow r.x paren) r.p
   { x:=r2.x,h:=11,p:=r2.p }
 | .primary,p=>
  let t:=E.at_ p
  if ltk t.1 then
   let q:=E.text p true
   { x:=nkt 1 q.1 [],p:=q.2 }
  else if E.sign p [40]then
   let r:=R (.expr 0) (E.take p).2
   { x:=r.x,p:=(E.want r.p 9 [41]).2 }
  else if E.sign p [123]then R (.box (nk 4 []) [123] [125] 0) p
  else if E.sign p [91]then R .list p
  else if E.sign p [60,60]then R (.box (nk 6 []) [60,60] [62,62] 0) p
  else if E.sign p [35]then R (.hash []) (E.take p).2
  else if E.word p [102,117,110]then R .func p
  else if E.word p [99,97,115,101]then
   let r:=R (.expr 0) (E.take p).2
   let r2:=R .clauses (E.want r.p 8 [111,102]).2
   qai E (nk 18 (r.x::r2.xs)) r2.p
  else if E.word p [105,102]then
   let r:=R .ifs (E.take p).2
   qai E (nk 19 r.xs) r.p
  else if E.word p [114,101,99,101,105,118,101]then R .receive p
  else if E.word p [98,101,103,105,110]then
   let r:=R .body (E.take p).2
   qai E (nk 21 [r.x]) r.p
  else { p:=p.wrong }
 | .follow x paren,p=>
  if p.bad||!(paren||qtb x)then { x:=x,p:=p } else
  if E.sign p [40]then
   let r:=R (.box (nk 2 [x]) [40] [41] 0) p
   R (.follow r.x false) r.p
  else if E.sign p [58]&&(paren||x.kd==1)then
   let p1:=(E.take p).2
   if E.sign p1 [40]then
    let r:=R (.expr 0) (E.take p1).2
    R (.follow (nk 3 [x,r.x]) false) (E.want r.p 9 [41]).2
   else
    let q:=E.text p1 (nmk (E.at_ p1).1)
    R (.follow (nk 3 [x,nkt 1 q.1 []]) false) q.2
  else if E.sign p [35]then
   let r:=R (.hash [x]) (E.take p).2
   R (.follow r.x false) r.p
  else { x:=x,p:=p }
 | .box n o c level,p=>
  let q:=E.want p 9 o
  let m:=E.notes q.2
  R (.boxL (n.brk' (E.broken q.2 q.1)) m.1 c level) m.2
 | .boxL n notes c level,p=>
  if E.sign p c||p.bad then { x:=n.tail' notes,p:=(E.want p 9 c).2 } else
  let r:=R (.item n.kd level) p
  let n1:=n.add [r.x.notes' notes]
  if !E.sign r.p [44]then
   let m:=E.notes r.p
   { x:=n1.tail' m.1,p:=(E.want m.2 9 c).2 }
  else
   let m:=E.notes (E.take r.p).2
   R (.boxL n1 m.1 c level) (if E.sign m.2 c then m.2.wrong else m.2)
 | .item kind level,p=>
  if kind==6 then R .segment p else
  let r:=R (.expr level) p
  if(kind==8||kind==9)&&(E.sign r.p [61,62]||E.sign r.p [58,61])then
   let s:=(E.at_ r.p).2.1
   let r2:=R (.expr level) (E.take r.p).2
   { x:=nkt 14 s [r.x,r2.x],p:=r2.p }
  else r
 | .segment,p=>
  let a:Out:=if E.sign p [40]then
      let r:=R (.expr 0) (E.take p).2
      { x:=r.x,p:=(E.want r.p 9 [41]).2 }
   else if E.sign p [60,60]then R (.box (nk 6 []) [60,60] [62,62] 0) p
   else
    let q:=E.text p (ltk (E.at_ p).1)
    { x:=nkt 1 q.1 [],p:=q.2 }
  let b:ByteArray×Ps:=if E.sign a.p [58]then
      let p1:=(E.take a.p).2
      let q:=E.text p1 (szk (E.at_ p1).1)
      (⟨#[58]⟩++q.1,q.2)
   else(⟨#[]⟩,a.p)
  let c:ByteArray×Ps:=if E.sign b.2 [47]then
      let p1:=(E.take b.2).2
      let q:=E.text p1 ((E.at_ p1).1==1)
      qcg E (E.to+2) (b.1++⟨#[47]⟩++q.1) q.2
   else b
  if c.1.toList==[]then { x:=a.x,p:=c.2 } else { x:=nkt 7 c.1 [a.x],p:=c.2 }
 | .list,p=>
  let q:=E.want p 9 [91]
  let m:=E.notes q.2
  R (.listL ((nk 5 []).brk' (E.broken q.2 q.1)) m.1) m.2
 | .listL n notes,p=>
  if E.sign p [93]||p.bad then { x:=n.tail' notes,p:=(E.want p 9 [93]).2 } else
  let r:=R (.expr 3) p
  if n.ls.isEmpty&&notes.isEmpty&&E.sign r.p [124,124]then R (.comp r.x (match n with | .mk _ _ _ br _ _ _=>br)) r.p else
  let n1:=n.add [r.x.notes' notes]
  if E.sign r.p [124]then
   let r2:=R (.expr 3) (E.take r.p).2
   let m:=E.notes r2.p
   { x:=((n1.add [r2.x]).txt' ⟨#[124]⟩).tail' m.1,p:=(E.want m.2 9 [93]).2 }
  else if !E.sign r.p [44]then
   let m:=E.notes r.p
   { x:=n1.tail' m.1,p:=(E.want m.2 9 [93]).2 }
  else
   let m:=E.notes (E.take r.p).2
   R (.listL n1 m.1) (if E.sign m.2 [93]then m.2.wrong else m.2)
 | .comp x broken,p=>R (.compL ((nk 15 [x]).brk' broken)) (E.want p 9 [124,124]).2
 | .compL n,p=>
  if p.bad then { x:=n,p:=(E.want p 9 [93]).2 } else
  let r:=R (.expr 3) p
  let r2:Out:=if E.sign r.p [60,45]||E.sign r.p [60,61]then
      let s:=(E.at_ r.p).2.1
      let r3:=R (.expr 3) (E.take r.p).2
      { x:=nkt 14 s [r.x,r3.x],p:=r3.p }
   else r
  let n1:=n.add [r2.x]
  if !E.sign r2.p [44]then { x:=n1,p:=(E.want r2.p 9 [93]).2 }
  else R (.compL n1) (E.take r2.p).2
 | .hash of,p=>
  if E.sign p [123]then
   if of.isEmpty then R (.box (nk 8 []) [123] [125] 1) p else R (.box (nk 9 of) [123] [125] 1) p
  else
   let q:=E.text p (nmk (E.at_ p).1)
   if !of.isEmpty&&E.sign q.2 [46]then
    let p1:=(E.take q.2).2
    let q2:=E.text p1 ((E.at_ p1).1==1)
    { x:=nkt 12 (q.1++⟨#[46]⟩++q2.1) of,p:=q2.2 }
   else if of.isEmpty then R (.box (nkt 10 q.1 []) [123] [125] 0) q.2
   else R (.box (nkt 11 q.1 of) [123] [125] 0) q.2
 | .func,p=>
  let p1:=(E.take p).2
  if !E.sign p1 [40]then
   let q:=E.text p1 (nmk (E.at_ p1).1)
   let q2:ByteArray×Ps:=if E.sign q.2 [58]then
       let p2:=(E.take q.2).2
       let q3:=E.text p2 (nmk (E.at_ p2).1)
       (q.1++⟨#[58]⟩++q3.1,q3.2)
    else q
   let p3:=(E.want q2.2 9 [47]).2
   let q4:=E.text p3 (szk (E.at_ p3).1)
   { x:=nkt 16 (q2.1++⟨#[47]⟩++q4.1) [],p:=q4.2 }
  else R (.funcL (nk 17 [])) p1
 | .funcL n,p=>
  if p.bad then qai E n p else
  let m:List ByteArray×Ps:=if n.ls.isEmpty then([],p)else E.notes p
  let r:=R (.head ⟨#[]⟩) m.2
  let n1:=n.add [r.x.notes' m.1]
  if !E.sign r.p [59]then qai E n1 r.p
  else R (.funcL n1) (E.take r.p).2
 | .head s,p=>
  let r:=R (.box (nk 23 []) [40] [41] 0) p
  R (.rest (nkt 22 s [r.x])) r.p
 | .rest c,p=>
  if E.word p [119,104,101,110]then
   let r:=R .guard (E.take p).2
   R (.arrow c r.x) r.p
  else R (.arrow c (nk 24 [])) p
 | .arrow c g,p=>
  let q:=E.want p 9 [45,62]
  let r:=R .body q.2
  { x:=(c.brk' (E.broken q.2 q.1)).add [g,r.x],p:=r.p }
 | .guard,p=>R (.guardL (nk 24 [])) p
 | .guardL g,p=>
  if p.bad then { x:=g,p:=p } else
  let r:=R (.expr 1) p
  let r2:=R (.guardB (nk 25 [r.x])) r.p
  let g1:=g.add [r2.x]
  if !E.sign r2.p [59]then { x:=g1,p:=r2.p }
  else R (.guardL g1) (E.take r2.p).2
 | .guardB b,p=>
  if E.sign p [44]then
   let r:=R (.expr 1) (E.take p).2
   R (.guardB (b.add [r.x])) r.p
  else { x:=b,p:=p }
 | .body,p=>R (.bodyL (nk 25 [])) p
 | .bodyL b,p=>
  if p.bad then { x:=b,p:=p } else
  let m:=E.notes p
  let blank:=!b.ls.isEmpty&&!m.2.bad&&decide (2<=E.nl (p.i:Int))
  let r:=R (.expr 0) m.2
  let b1:=b.add [(r.x.notes' m.1).blk' blank]
  if !E.sign r.p [44]then { x:=b1,p:=r.p }
  else R (.bodyL b1) (E.take r.p).2
 | .clauses,p=>R (.clausesL []) p
 | .clausesL out,p=>
  if p.bad then { xs:=out,p:=p } else
  let m:=E.notes p
  let r:=R (.expr 1) m.2
  let r2:=R (.rest (nk 22 [nk 23 [r.x]])) r.p
  let out1:=out++[r2.x.notes' m.1]
  if !E.sign r2.p [59]then { xs:=out1,p:=r2.p }
  else R (.clausesL out1) (E.take r2.p).2
 | .ifs,p=>R (.ifsL []) p
 | .ifsL out,p=>
  if p.bad then { xs:=out,p:=p } else
  let m:=E.notes p
  let g:=R .guard m.2
  let r:=R (.arrow (nk 22 [nk 23 []]) g.x) g.p
  let out1:=out++[r.x.notes' m.1]
  if !E.sign r.p [59]then { xs:=out1,p:=r.p }
  else R (.ifsL out1) (E.take r.p).2
 | .receive,p=>
  let p1:=(E.take p).2
  let r:Out:=if !E.word p1 [97,102,116,101,114]then R .clauses p1 else { p:=p1 }
  if E.word r.p [97,102,116,101,114]then
   let m:=E.notes r.p
   let r2:=R (.expr 1) (E.take m.2).2
   let r3:=R (.arrow (nk 22 [nk 23 [r2.x]]) (nk 24 [])) r2.p
   qai E (nkt 20 ⟨#[97,102,116,101,114]⟩ (r.xs++[r3.x.notes' m.1])) r3.p
  else qai E (nk 20 r.xs) r.p
def qft(E:Env):Nat->Cmd->Ps->Out
 | 0,_,p=> { p:=p.wrong }
 | n+1,c,p=>qa6 E (qft E n) c p
theorem qex(E:Env): ∀n i,i<=pkn E n i/\pkn E n i<=i+n
 | 0,i=>by simp only[pkn];omega
 | n+1,i=>by
  simp only[pkn]
  split
  ·have:=qex E n (i+1);omega
  ·omega
theorem qix(E:Env){i:Nat}(h:i<=E.to):i<=E.pk i/\E.pk i<=E.to:=by
 have:=qex E (E.to-i) i
 unfold Env.pk
 omega
theorem qfd{E:Env}{i:Nat}(h:i<E.to)(hc:(E.tk i).1=11):E.pk i=E.pk (i+1):=by
 unfold Env.pk
 rw[show E.to-i=(E.to- (i+1))+1 by omega]
 simp only[pkn]
 rw[if_pos hc]
theorem qdl{E:Env}{i:Nat}(hc:E.to<=i\/(E.tk i).1≠11):E.pk i=i:=by
 unfold Env.pk
 rcases hc with h | h
 ·rw[show E.to-i=0 by omega];rfl
 ·cases E.to-i with
  | zero=>rfl
  | succ n=>simp only[pkn];rw[if_neg h]
theorem qeb{E:Env}{p:Ps}(h1:E.pk p.i<E.to)(h2:p.bad=false):E.at_ p=E.tk (E.pk p.i):=by unfold Env.at_;rw[if_pos ⟨h1,h2⟩]
theorem qoi{E:Env}{p:Ps}(h: ¬(E.pk p.i<E.to/\p.bad=false)):E.at_ p=tk0:=by unfold Env.at_;rw[if_neg h]
def qak(E:Env)(p:Ps):Nat:=if p.bad then 0 else(E.to-p.i)+1
theorem qgx(E:Env)(p:Ps):qak E p.wrong=0:=rfl
theorem qzm{E:Env}{p:Ps}(h:p.bad=true):qak E p=0:=by unfold qak;rw[if_pos h]
theorem qe2(E:Env)(p:Ps):qak E (E.take p).2<=qak E p:=by
 unfold Env.take
 split
 ·exact zI _
 ·unfold qak
  simp only
  split<;>omega
theorem qn0(E:Env)(p:Ps)(h:qak E p≠0):qak E (E.take p).2<qak E p:=by
 unfold Env.take
 split
 ·rw[qgx];omega
 ·rename_i hc
  simp only[Bool.or_eq_true,decide_eq_true_eq,not_or]at hc
  unfold qak at h⊢
  simp only
  split
  ·rename_i hb;rw[if_pos hb]at h;omega
  ·omega
theorem qx2(E:Env)(p:Ps)(c:Bool):qak E (if c then p else p.wrong)<=qak E p:=by
 cases c
 ·exact zI _
 ·exact zF _
theorem qr4(E:Env)(p:Ps)(c:Bool):qak E (if c then p.wrong else p)<=qak E p:=by
 cases c
 ·exact zF _
 ·exact zI _
theorem qj0(E:Env)(p:Ps)(k:Int)(s:Bs):qak E (E.want p k s).2<=qak E p:=by
 unfold Env.want
 exact zG (qe2 _ _) (qx2 _ _ _)
theorem qhv(E:Env)(p:Ps)(k:Int)(s:Bs)(h:qak E p≠0):qak E (E.want p k s).2<qak E p:=by
 unfold Env.want
 cases E.is p k s
 ·have:=qe2 E p.wrong
  rw[qgx]at this
  simp only[Bool.false_eq_true,if_false]
  omega
 ·exact qn0 E p h
theorem qiz(E:Env)(p:Ps)(ok:Bool):qak E (E.text p ok).2<=qak E p:=by
 unfold Env.text
 exact zG (qe2 _ _) (qx2 _ _ _)
theorem qez(E:Env)(p:Ps):qak E (E.notes p).2<=qak E p:=by
 unfold Env.notes qak
 simp only
 split
 ·exact zF _
 ·omega
theorem qzn(E:Env)(n:Nd)(p:Ps):qak E (qai E n p).p<=qak E p:=by
 unfold qai
 exact zG (qj0 _ _ _ _) (qez _ _)
theorem qr5(E:Env): ∀(n:Nat) (s:ByteArray) (p:Ps),qak E (qcg E n s p).2<=qak E p
 | 0,s,p=>zI _
 | n+1,s,p=>by
  simp only[qcg]
  split
  ·exact zG (qr5 E n _ _) (zG (qiz _ _ _) (qe2 _ _))
  ·exact zF _
theorem rem_w0(E:Env)(p:Ps)(m:Nat):qak E p.wrong<=m:=zI _
section
variable{rm:Ps->Nat}
theorem qce{c:Prop}[Decidable c]{a b:Out}{m:Nat}(ha:rm a.p<=m)(hb:rm b.p<=m):rm (if c then a else b).p<=m:=by split<;>assumption
theorem qcc{c:Prop}[Decidable c]{a b:ByteArray×Ps}{m:Nat}(ha:rm a.2<=m)(hb:rm b.2<=m):rm (if c then a else b).2<=m:=by split<;>assumption
theorem qcd{c:Prop}[Decidable c]{a b:List ByteArray×Ps}{m:Nat}(ha:rm a.2<=m)(hb:rm b.2<=m):rm (if c then a else b).2<=m:=by split<;>assumption
theorem qcf{c:Prop}[Decidable c]{a b:Ps}{m:Nat}(ha:rm a<=m)(hb:rm b<=m):rm (if c then a else b)<=m:=by split<;>assumption
end
theorem qol(E:Env)(R:Cmd->Ps->Out)(hR: ∀c p,qak E (R c p).p<=qak E p)(c:Cmd)(p:Ps):qak E (qa6 E R c p).p<=qak E p:=by
 have ht:=qe2 E
 have hw:=qj0 E
 have hx:=qiz E
 have hn:=qez E
 have hf:=qzn E
 have hs:=qr5 E
 have hz:=rem_w0 E
 cases c<;>simp only[qa6]
 all_goals generalize qak E=rm at*
 all_goals generalize Env.take E=fT at*
 all_goals generalize Env.want E=fW at*
 all_goals generalize Env.text E=fX at*
 all_goals generalize Env.notes E=fN at*
 all_goals generalize qai E=fF at*
 all_goals generalize qcg E=fS at*
 all_goals generalize Ps.wrong=fZ at*
 all_goals generalize Env.sign E=fG at*
 all_goals generalize Env.word E=fO at*
 all_goals generalize Env.at_ E=fA at*
 all_goals generalize Env.broken E=fB at*
 all_goals (repeat' (first | with_reducible exact zF _ | with_reducible exact hz _ _ | with_reducible refine qce ?_ ?_ | with_reducible refine qcc ?_ ?_ | with_reducible refine qcd ?_ ?_ | with_reducible refine qcf ?_ ?_ | with_reducible refine zG (hR _ _) ?_ | with_reducible refine zG (hf _ _) ?_ | with_reducible refine zG (hw _ _ _) ?_ | with_reducible refine zG (hx _ _) ?_ | with_reducible refine zG (hn _) ?_ | with_reducible refine zG (hs _ _ _) ?_ | with_reducible refine zG (ht _) ?_))
theorem qg0(E:Env): ∀(n:Nat) (c:Cmd) (p:Ps),qak E (qft E n c p).p<=qak E p
 | 0,_,_=>zI _
 | n+1,c,p=>by simp only[qft];exact qol E _ (qg0 E n) c p
def qb6(E:Env)(R:Cmd->Ps->Option Out):Cmd->Ps->Option Out
 | .expr level,p=>
  if decide (level<=0)&&E.word p [99,97,116,99,104]then
   (R (.expr 0) (E.take p).2).bind fun r=>some { x:=nkt 13 ⟨#[99,97,116,99,104]⟩ [r.x],p:=r.p }
  else
   (R .operand p).bind fun r=>R (.exprL level r.x r.h) r.p
 | .exprL level left has,p=>
  if p.bad then some { x:=left,p:=p } else
  if((E.at_ p).1 !=9&&(E.at_ p).1 !=8)||(bn (E.at_ p).2.1.toList:Int)==0||decide ((bn (E.at_ p).2.1.toList:Int)<level)||decide (has< (lf (E.at_ p).2.1.toList:Int))then some { x:=left,p:=p } else
  (R (.expr (rt (E.at_ p).2.1.toList:Int)) (E.take p).2).bind fun r=>R (.exprL level (nkt 14 (E.at_ p).2.1 [left,r.x]) (bn (E.at_ p).2.1.toList:Int)) r.p
 | .operand,p=>
  if((E.at_ p).1==9||(E.at_ p).1==8)&&decide (0<pf (E.at_ p).2.1.toList)then
   (R .operand (E.take p).2).bind fun r=>some { x:=nkt 13 (E.at_ p).2.1 [r.x],h:=10,p:=r.p }
  else
   (R .primary p).bind fun r=>(R (.follow r.x (E.sign p [40])) r.p).bind fun r2=>some { x:=r2.x,h:=11,p:=r2.p }
 | .primary,p=>
  if ltk (E.at_ p).1 then some { x:=nkt 1 (E.text p true).1 [],p:=(E.text p true).2 }
  else if E.sign p [40]then
   (R (.expr 0) (E.take p).2).bind fun r=>some { x:=r.x,p:=(E.want r.p 9 [41]).2 }
  else if E.sign p [123]then R (.box (nk 4 []) [123] [125] 0) p
  else if E.sign p [91]then R .list p
  else if E.sign p [60,60]then R (.box (nk 6 []) [60,60] [62,62] 0) p
  else if E.sign p [35]then R (.hash []) (E.take p).2
  else if E.word p [102,117,110]then R .func p
  else if E.word p [99,97,115,101]then
   (R (.expr 0) (E.take p).2).bind fun r=>(R .clauses (E.want r.p 8 [111,102]).2).bind fun r2=>some (qai E (nk 18 (r.x::r2.xs)) r2.p)
  else if E.word p [105,102]then
   (R .ifs (E.take p).2).bind fun r=>some (qai E (nk 19 r.xs) r.p)
  else if E.word p [114,101,99,101,105,118,101]then R .receive p
  else if E.word p [98,101,103,105,110]then
   (R .body (E.take p).2).bind fun r=>some (qai E (nk 21 [r.x]) r.p)
  else some { p:=p.wrong }
 | .follow x paren,p=>
  if p.bad||!(paren||qtb x)then some { x:=x,p:=p } else
  if E.sign p [40]then
   (R (.box (nk 2 [x]) [40] [41] 0) p).bind fun r=>R (.follow r.x false) r.p
  else if E.sign p [58]&&(paren||x.kd==1)then
   if E.sign (E.take p).2 [40]then
    (R (.expr 0) (E.take (E.take p).2).2).bind fun r=>R (.follow (nk 3 [x,r.x]) false) (E.want r.p 9 [41]).2
   else
    R (.follow (nk 3 [x,nkt 1 (E.text (E.take p).2 (nmk (E.at_ (E.take p).2).1)).1 []]) false) (E.text (E.take p).2 (nmk (E.at_ (E.take p).2).1)).2
  else if E.sign p [35]then
   (R (.hash [x]) (E.take p).2).bind fun r=>R (.follow r.x false) r.p
  else some { x:=x,p:=p }
 | .box n o c level,p=>
  R (.boxL (n.brk' (E.broken (E.want p 9 o).2 (E.want p 9 o).1)) (E.notes (E.want p 9 o).2).1 c level) (E.notes (E.want p 9 o).2).2
 | .boxL n notes c level,p=>
  if E.sign p c||p.bad then some { x:=n.tail' notes,p:=(E.want p 9 c).2 } else
  (R (.item n.kd level) p).bind fun r=>
  if !E.sign r.p [44]then some { x:=(n.add [r.x.notes' notes]).tail' (E.notes r.p).1,p:=(E.want (E.notes r.p).2 9 c).2 }
  else R (.boxL (n.add [r.x.notes' notes]) (E.notes (E.take r.p).2).1 c level) (if E.sign (E.notes (E.take r.p).2).2 c then(E.notes (E.take r.p).2).2.wrong else(E.notes (E.take r.p).2).2)
 | .item kind level,p=>
  if kind==6 then R .segment p else
  (R (.expr level) p).bind fun r=>
  if(kind==8||kind==9)&&(E.sign r.p [61,62]||E.sign r.p [58,61])then
   (R (.expr level) (E.take r.p).2).bind fun r2=>some { x:=nkt 14 (E.at_ r.p).2.1 [r.x,r2.x],p:=r2.p }
  else some r
 | .segment,p=>
  (if E.sign p [40]then
      (R (.expr 0) (E.take p).2).bind fun r=>some { x:=r.x,p:=(E.want r.p 9 [41]).2 }
   else if E.sign p [60,60]then R (.box (nk 6 []) [60,60] [62,62] 0) p
   else some { x:=nkt 1 (E.text p (ltk (E.at_ p).1)).1 [],p:=(E.text p (ltk (E.at_ p).1)).2 }).bind fun a=>
  let b:ByteArray×Ps:=if E.sign a.p [58]then
      let p1:=(E.take a.p).2
      let q:=E.text p1 (szk (E.at_ p1).1)
      (⟨#[58]⟩++q.1,q.2)
   else(⟨#[]⟩,a.p)
  let c:ByteArray×Ps:=if E.sign b.2 [47]then
      let p1:=(E.take b.2).2
      let q:=E.text p1 ((E.at_ p1).1==1)
      qcg E (E.to+2) (b.1++⟨#[47]⟩++q.1) q.2
   else b
  some (if c.1.toList==[]then { x:=a.x,p:=c.2 } else { x:=nkt 7 c.1 [a.x],p:=c.2 })
 | .list,p=>
  R (.listL ((nk 5 []).brk' (E.broken (E.want p 9 [91]).2 (E.want p 9 [91]).1)) (E.notes (E.want p 9 [91]).2).1) (E.notes (E.want p 9 [91]).2).2
 | .listL n notes,p=>
  if E.sign p [93]||p.bad then some { x:=n.tail' notes,p:=(E.want p 9 [93]).2 } else
  (R (.expr 3) p).bind fun r=>
  if n.ls.isEmpty&&notes.isEmpty&&E.sign r.p [124,124]then R (.comp r.x (match n with | .mk _ _ _ br _ _ _=>br)) r.p else
  if E.sign r.p [124]then
   (R (.expr 3) (E.take r.p).2).bind fun r2=>some { x:=(((n.add [r.x.notes' notes]).add [r2.x]).txt' ⟨#[124]⟩).tail' (E.notes r2.p).1,p:=(E.want (E.notes r2.p).2 9 [93]).2 }
  else if !E.sign r.p [44]then some { x:=(n.add [r.x.notes' notes]).tail' (E.notes r.p).1,p:=(E.want (E.notes r.p).2 9 [93]).2 }
  else R (.listL (n.add [r.x.notes' notes]) (E.notes (E.take r.p).2).1) (if E.sign (E.notes (E.take r.p).2).2 [93]then(E.notes (E.take r.p).2).2.wrong else(E.notes (E.take r.p).2).2)
 | .comp x broken,p=>R (.compL ((nk 15 [x]).brk' broken)) (E.want p 9 [124,124]).2
 | .compL n,p=>
  if p.bad then some { x:=n,p:=(E.want p 9 [93]).2 } else
  (R (.expr 3) p).bind fun r=>
  (if E.sign r.p [60,45]||E.sign r.p [60,61]then
      (R (.expr 3) (E.take r.p).2).bind fun r3=>some { x:=nkt 14 (E.at_ r.p).2.1 [r.x,r3.x],p:=r3.p }
   else some r).bind fun r2=>
  if !E.sign r2.p [44]then some { x:=n.add [r2.x],p:=(E.want r2.p 9 [93]).2 }
  else R (.compL (n.add [r2.x])) (E.take r2.p).2
 | .hash of,p=>
  if E.sign p [123]then
   if of.isEmpty then R (.box (nk 8 []) [123] [125] 1) p else R (.box (nk 9 of) [123] [125] 1) p
  else
   if !of.isEmpty&&E.sign (E.text p (nmk (E.at_ p).1)).2 [46]then
    let p1:=(E.take (E.text p (nmk (E.at_ p).1)).2).2
    let q2:=E.text p1 ((E.at_ p1).1==1)
    some { x:=nkt 12 ((E.text p (nmk (E.at_ p).1)).1++⟨#[46]⟩++q2.1) of,p:=q2.2 }
   else if of.isEmpty then R (.box (nkt 10 (E.text p (nmk (E.at_ p).1)).1 []) [123] [125] 0) (E.text p (nmk (E.at_ p).1)).2
   else R (.box (nkt 11 (E.text p (nmk (E.at_ p).1)).1 of) [123] [125] 0) (E.text p (nmk (E.at_ p).1)).2
 | .func,p=>
  if !E.sign (E.take p).2 [40]then
   let q:=E.text (E.take p).2 (nmk (E.at_ (E.take p).2).1)
   let q2:ByteArray×Ps:=if E.sign q.2 [58]then
       let p2:=(E.take q.2).2
       let q3:=E.text p2 (nmk (E.at_ p2).1)
       (q.1++⟨#[58]⟩++q3.1,q3.2)
    else q
   let p3:=(E.want q2.2 9 [47]).2
   let q4:=E.text p3 (szk (E.at_ p3).1)
   some { x:=nkt 16 (q2.1++⟨#[47]⟩++q4.1) [],p:=q4.2 }
  else R (.funcL (nk 17 [])) (E.take p).2
 | .funcL n,p=>
  if p.bad then some (qai E n p)else
  (R (.head ⟨#[]⟩) (if n.ls.isEmpty then([],p)else E.notes p).2).bind fun r=>
  if !E.sign r.p [59]then some (qai E (n.add [r.x.notes' (if n.ls.isEmpty then([],p)else E.notes p).1]) r.p)
  else R (.funcL (n.add [r.x.notes' (if n.ls.isEmpty then([],p)else E.notes p).1])) (E.take r.p).2
 | .head s,p=>
  (R (.box (nk 23 []) [40] [41] 0) p).bind fun r=>R (.rest (nkt 22 s [r.x])) r.p
 | .rest c,p=>
  if E.word p [119,104,101,110]then
   (R .guard (E.take p).2).bind fun r=>R (.arrow c r.x) r.p
  else R (.arrow c (nk 24 [])) p
 | .arrow c g,p=>
  (R .body (E.want p 9 [45,62]).2).bind fun r=>some { x:=(c.brk' (E.broken (E.want p 9 [45,62]).2 (E.want p 9 [45,62]).1)).add [g,r.x],p:=r.p }
 | .guard,p=>R (.guardL (nk 24 [])) p
 | .guardL g,p=>
  if p.bad then some { x:=g,p:=p } else
  (R (.expr 1) p).bind fun r=>(R (.guardB (nk 25 [r.x])) r.p).bind fun r2=>
  if !E.sign r2.p [59]then some { x:=g.add [r2.x],p:=r2.p }
  else R (.guardL (g.add [r2.x])) (E.take r2.p).2
 | .guardB b,p=>
  if E.sign p [44]then
   (R (.expr 1) (E.take p).2).bind fun r=>R (.guardB (b.add [r.x])) r.p
  else some { x:=b,p:=p }
 | .body,p=>R (.bodyL (nk 25 [])) p
 | .bodyL b,p=>
  if p.bad then some { x:=b,p:=p } else
  (R (.expr 0) (E.notes p).2).bind fun r=>
  if !E.sign r.p [44]then some { x:=b.add [(r.x.notes' (E.notes p).1).blk' (!b.ls.isEmpty&&!(E.notes p).2.bad&&decide (2<=E.nl (p.i:Int)))],p:=r.p }
  else R (.bodyL (b.add [(r.x.notes' (E.notes p).1).blk' (!b.ls.isEmpty&&!(E.notes p).2.bad&&decide (2<=E.nl (p.i:Int)))])) (E.take r.p).2
 | .clauses,p=>R (.clausesL []) p
 | .clausesL out,p=>
  if p.bad then some { xs:=out,p:=p } else
  (R (.expr 1) (E.notes p).2).bind fun r=>(R (.rest (nk 22 [nk 23 [r.x]])) r.p).bind fun r2=>
  if !E.sign r2.p [59]then some { xs:=out++[r2.x.notes' (E.notes p).1],p:=r2.p }
  else R (.clausesL (out++[r2.x.notes' (E.notes p).1])) (E.take r2.p).2
 | .ifs,p=>R (.ifsL []) p
 | .ifsL out,p=>
  if p.bad then some { xs:=out,p:=p } else
  (R .guard (E.notes p).2).bind fun g=>(R (.arrow (nk 22 [nk 23 []]) g.x) g.p).bind fun r=>
  if !E.sign r.p [59]then some { xs:=out++[r.x.notes' (E.notes p).1],p:=r.p }
  else R (.ifsL (out++[r.x.notes' (E.notes p).1])) (E.take r.p).2
 | .receive,p=>
  (if !E.word (E.take p).2 [97,102,116,101,114]then R .clauses (E.take p).2 else some { p:=(E.take p).2 }).bind fun r=>
  if E.word r.p [97,102,116,101,114]then
   (R (.expr 1) (E.take (E.notes r.p).2).2).bind fun r2=>(R (.arrow (nk 22 [nk 23 [r2.x]]) (nk 24 [])) r2.p).bind fun r3=>
   some (qai E (nkt 20 ⟨#[97,102,116,101,114]⟩ (r.xs++[r3.x.notes' (E.notes r.p).1])) r3.p)
  else some (qai E (nk 20 r.xs) r.p)
def qal(E:Env):Nat->Cmd->Ps->Option Out
 | 0,_,_=>none
 | n+1,c,p=>qb6 E (qal E n) c p
def Nd.nof2:Nd->List ByteArray | .mk _ _ _ _ _ no _=>no
def Nd.tlf:Nd->List ByteArray | .mk _ _ _ _ _ _ ta=>ta
theorem qgp(E:Env)(p:Ps)(h:(E.take p).2.bad=false):p.bad=false/\p.i<=(E.take p).2.i:=by
 unfold Env.take at h⊢
 by_cases hc:(p.bad||decide (E.to<=p.i)||(E.tk p.i).1==11)=true
 ·rw[if_pos hc]at h;cases h
 ·rw[if_neg hc]at h⊢
  exact⟨h,Nat.le_succ _⟩
theorem mo_ok(E:Env)(p:Ps)(c:Bool)(h:(E.take (if c then p else p.wrong)).2.bad=false):p.bad=false/\p.i<=(E.take (if c then p else p.wrong)).2.i:=by
 cases c
 ·have:=(qgp E _ h).1;cases this
 ·exact qgp E _ h
theorem ql7(E:Env)(p:Ps)(k:Int)(s:Bs)(h:(E.want p k s).2.bad=false):p.bad=false/\p.i<=(E.want p k s).2.i:=mo_ok E p _ h
theorem ql6(E:Env)(p:Ps)(c:Bool)(h:(E.text p c).2.bad=false):p.bad=false/\p.i<=(E.text p c).2.i:=mo_ok E p _ h
theorem qeu(E:Env)(p:Ps):(E.notes p).2.bad=p.bad/\p.i<=(E.notes p).2.i:=⟨rfl,Nat.le_max_left _ _⟩
theorem qwu(E:Env)(n:Nd)(p:Ps)(h:(qai E n p).p.bad=false):p.bad=false/\p.i<=(qai E n p).p.i:=by
 obtain⟨h1,h2⟩:=ql7 E _ _ _ h
 obtain⟨h3,h4⟩:=qeu E p
 exact⟨by rw[<-h3];exact h1,zG h4 h2⟩
theorem qjz(E:Env): ∀(n:Nat) (s:ByteArray) (p:Ps),(qcg E n s p).2.bad=false->p.bad=false/\p.i<=(qcg E n s p).2.i
 | 0,s,p,h=>by cases h
 | n+1,s,p,h=>by
  simp only[qcg]at h⊢
  by_cases hc:E.sign p [45]=true
  ·rw[if_pos hc]at h⊢
   obtain⟨h1,h2⟩:=qjz E n _ _ h
   obtain⟨h3,h4⟩:=ql6 E _ _ h1
   obtain⟨h5,h6⟩:=qgp E _ h3
   exact⟨h5,zG h6 (zG h4 h2)⟩
  ·rw[if_neg hc]at h⊢
   exact⟨h,zF _⟩
def MoX(R:Cmd->Ps->Option Out):Prop:= ∀c p o,R c p=some o->o.p.bad=false->p.bad=false/\p.i<=o.p.i
theorem qcs{α:Type}{c:Prop}[Decidable c]{a b o:α}:((if c then a else b)=o)↔(c/\a=o)\/(¬c/\b=o):=by
 by_cases hc:c
 ·rw[if_pos hc];simp[hc]
 ·rw[if_neg hc];simp[hc]
theorem qz2{E:Env}{R:Cmd->Ps->Option Out}(hR:MoX R):MoX (qb6 E R):=by
 intro c p o9 h hb
 have ht:=qgp E
 have hw:=ql7 E
 have hx:=ql6 E
 have hn:=qeu E
 have hf:=qwu E
 have hs:=qjz E
 have hz: ∀p:Ps,p.wrong.bad=true:=fun _=>rfl
 unfold MoX at hR
 cases c<;>simp only[qb6]at h
 all_goals generalize Env.take E=fT at*
 all_goals generalize Env.want E=fW at*
 all_goals generalize Env.text E=fX at*
 all_goals generalize Env.notes E=fN at*
 all_goals generalize qai E=fF at*
 all_goals generalize qcg E=fS at*
 all_goals generalize Env.sign E=fG at*
 all_goals generalize Env.word E=fO at*
 all_goals generalize Env.at_ E=fA at*
 all_goals generalize Env.broken E=fB at*
 all_goals (repeat' (first | (rw[zJ]at h;obtain⟨_,h0,h⟩:=h;(repeat' (first | (rw[zJ]at h0;obtain⟨_,_,h0⟩:=h0) | (rw[qcs]at h0;rcases h0 with⟨_,h0⟩ | ⟨_,h0⟩)))<;> (try (simp only[Option.some.injEq]at h0;subst h0))) | (rw[qcs]at h;rcases h with⟨_,h⟩ | ⟨_,h⟩) | split at h))
 all_goals (try (simp only[Option.some.injEq]at h;subst h))
 all_goals (try dsimp only at*)
 all_goals grind (gen:=20)
theorem qhr(E:Env): ∀n,MoX (qal E n)
 | 0=>fun _ _ _ h _=>by cases h
 | n+1=>qz2 (qhr E n)
theorem qwp(n:Nd)(l:Bool):(n.brk' l).kd=n.kd:=by cases n;rfl
theorem qtf(E:Env)(p:Ps)(h:(E.take p).2.bad=false):p.bad=false/\(E.take p).1=p.i/\(E.take p).2.i=p.i+1/\p.i<E.to/\(E.tk p.i).1≠11/\E.at_ p=E.tk p.i:=by
 unfold Env.take at h⊢
 by_cases hc:(p.bad||decide (E.to<=p.i)||(E.tk p.i).1==11)=true
 ·rw[if_pos hc]at h;cases h
 ·rw[if_neg hc]at h⊢
  simp only[Bool.or_eq_true,decide_eq_true_eq,beq_iff_eq,not_or]at hc
  have hk:E.pk p.i=p.i:=qdl (.inr hc.2)
  exact⟨h,rfl,rfl,by omega,hc.2,(qeb (p:=p) (by rw[hk];omega) h).trans (by rw[hk])⟩
theorem qie: ∀a b:List Nd,qek (a++b)=qek a+qek b
 | [],_=>by simp[qek]
 | x::t,b=>by simp only[List.cons_append,qek];rw[qie t b,Nat.add_assoc]
theorem qxr(n:Nd)(l:List Nd):cnt (n.add l)=cnt n+qek l:=by
 cases n;simp only[Nd.add,cnt,qie,Nat.add_assoc]
theorem qov(n:Nd)(m:List ByteArray):cnt (n.notes' m)=cnt n:=by cases n;simp only[Nd.notes',cnt]
theorem qmd(n:Nd)(m:List ByteArray):cnt (n.tail' m)=cnt n:=by cases n;simp only[Nd.tail',cnt]
theorem qxt(n:Nd)(b:Bool):cnt (n.brk' b)=cnt n:=by cases n;simp only[Nd.brk',cnt]
theorem qxs(n:Nd)(b:Bool):cnt (n.blk' b)=cnt n:=by cases n;simp only[Nd.blk',cnt]
theorem qxv(n:Nd)(t:ByteArray):cnt (n.txt' t)=cnt n:=by cases n;simp only[Nd.txt',cnt]
theorem qxu(k:Int)(t:ByteArray)(l:List Nd):cnt (nkt k t l)=1+qek l:=by simp[nkt,cnt]
theorem cnt_nk(k:Int)(l:List Nd):cnt (nk k l)=1+qek l:=by simp[nk,cnt]
theorem qts:qek []=0:=rfl
theorem qtt(x:Nd):qek [x]=cnt x:=by simp[qek]
theorem qtu(x y:Nd):qek [x,y]=cnt x+cnt y:=by simp[qek]
theorem qot(x:Nd)(l:List Nd):qek (x::l)=cnt x+qek l:=by simp[qek]
theorem qp0(E:Env)(p:Ps)(h:(E.take p).2.bad=false):p.bad=false/\(E.take p).2.i=p.i+1:=by
 obtain⟨h1,-,h2,-⟩:=qtf E p h
 exact⟨h1,h2⟩
theorem ct_ok(E:Env)(p:Ps)(c:Bool)(h:(E.take (if c then p else p.wrong)).2.bad=false):p.bad=false/\(E.take (if c then p else p.wrong)).2.i=p.i+1:=by
 cases c
 ·have:=(qtf E _ h).1;cases this
 ·exact qp0 E _ h
theorem qp1(E:Env)(p:Ps)(k:Int)(s:Bs)(h:(E.want p k s).2.bad=false):p.bad=false/\(E.want p k s).2.i=p.i+1:=ct_ok E p _ h
theorem qxw(E:Env)(p:Ps)(c:Bool)(h:(E.text p c).2.bad=false):p.bad=false/\(E.text p c).2.i=p.i+1:=ct_ok E p _ h
theorem ct_fin(E:Env)(n:Nd)(p:Ps)(h:(qai E n p).p.bad=false):p.bad=false/\p.i+1<=(qai E n p).p.i/\cnt (qai E n p).x=cnt n:=by
 obtain⟨h1,h2⟩:=qp1 E _ _ _ h
 obtain⟨h3,h4⟩:=qeu E p
 refine⟨by rw[<-h3];exact h1,?_,qmd _ _⟩
 show p.i+1<=(E.want (E.notes p).2 8 [101,110,100]).2.i
 omega
theorem qpl(E:Env)(p:Ps)(h:(E.take p).2.bad=false):(E.take p).2.i<=E.to:=by
 obtain⟨-,-,h2,h3,-⟩:=qtf E p h
 omega
theorem io_ok(E:Env)(p:Ps)(c:Bool)(h:(E.take (if c then p else p.wrong)).2.bad=false):(E.take (if c then p else p.wrong)).2.i<=E.to:=by
 cases c
 ·have:=(qtf E _ h).1;cases this
 ·exact qpl E _ h
theorem qpn(E:Env)(p:Ps)(k:Int)(s:Bs)(h:(E.want p k s).2.bad=false):(E.want p k s).2.i<=E.to:=io_ok E p _ h
theorem qpm(E:Env)(p:Ps)(c:Bool)(h:(E.text p c).2.bad=false):(E.text p c).2.i<=E.to:=io_ok E p _ h
theorem quh(E:Env)(p:Ps)(h:p.i<=E.to):(E.notes p).2.i<=E.to:=by
 show max p.i (E.pk p.i)<=_
 have:=(qix E h).2
 omega
theorem io_fin(E:Env)(n:Nd)(p:Ps)(h:(qai E n p).p.bad=false):(qai E n p).p.i<=E.to:=qpn E _ _ _ h
theorem qwo(E:Env): ∀(n:Nat) (s:ByteArray) (p:Ps),(qcg E n s p).2.bad=false->p.i<=E.to->(qcg E n s p).2.i<=E.to
 | 0,s,p,h,_=>by cases h
 | n+1,s,p,h,hi=>by
  simp only[qcg]at h⊢
  by_cases hc:E.sign p [45]=true
  ·rw[if_pos hc]at h⊢
   have h1:=qjz E n _ _ h
   exact qwo E n _ _ h (qpm E _ _ h1.1)
  ·rw[if_neg hc]at h⊢
   exact hi
def IOb(N:Nat)(R:Cmd->Ps->Option Out):Prop:= ∀c p o,R c p=some o->o.p.bad=false->p.i<=N->o.p.i<=N
theorem qyj{E:Env}{R:Cmd->Ps->Option Out}(hR:IOb E.to R)(hM:MoX R):IOb E.to (qb6 E R):=by
 intro c p o9 h hb hi
 have ht:=qpl E
 have hw:=qpn E
 have hx:=qpm E
 have hn:=quh E
 have hf:=io_fin E
 have hs:=qwo E
 have ht2:=fun p h=>(qgp E p h).1
 have hw2:=fun p k s h=>(ql7 E p k s h).1
 have hx2:=fun p c h=>(ql6 E p c h).1
 have hn2:=fun p=>(qeu E p).1
 have hf2:=fun n p h=>(qwu E n p h).1
 have hs2:=fun n s p h=>(qjz E n s p h).1
 have hz: ∀p:Ps,p.wrong.bad=true:=fun _=>rfl
 have hM:=fun c p o h hb=>(hM c p o h hb).1
 unfold IOb at hR
 cases c<;>simp only[qb6]at h
 all_goals generalize E.to=N at*
 all_goals generalize Env.take E=fT at*
 all_goals generalize Env.want E=fW at*
 all_goals generalize Env.text E=fX at*
 all_goals generalize Env.notes E=fN at*
 all_goals generalize qai E=fF at*
 all_goals generalize qcg E=fS at*
 all_goals generalize Env.sign E=fG at*
 all_goals generalize Env.word E=fO at*
 all_goals generalize Env.at_ E=fA at*
 all_goals generalize Env.broken E=fB at*
 all_goals (repeat' (first | (rw[zJ]at h;obtain⟨_,h0,h⟩:=h;(repeat' (first | (rw[zJ]at h0;obtain⟨_,_,h0⟩:=h0) | (rw[qcs]at h0;rcases h0 with⟨_,h0⟩ | ⟨_,h0⟩)))<;> (try (simp only[Option.some.injEq]at h0;subst h0))) | (rw[qcs]at h;rcases h with⟨_,h⟩ | ⟨_,h⟩) | split at h))
 all_goals (try (simp only[Option.some.injEq]at h;subst h))
 all_goals (try dsimp only at*)
 all_goals grind (gen:=20)
theorem qwn(E:Env): ∀n,IOb E.to (qal E n)
 | 0=>fun _ _ _ h _ _=>by cases h
 | n+1=>qyj (qwn E n) (qhr E n)
structure SNA (rm:Nat->List ByteArray) (R:Cmd->Ps->Option Out):Prop where
 expr_: ∀(level:Int) (p:Ps) (o':Out),R (.expr level) p=some o'->o'.p.bad=false->True->p.bad=false/\o'.x.nof2=[]/\o'.xs=[]/\rm p.i=nts o'.x++rm o'.p.i
 exprL_: ∀(level:Int) (left:Nd) (has:Int) (p:Ps) (o':Out),R (.exprL level left has) p=some o'->o'.p.bad=false->left.nof2=[]->p.bad=false/\o'.x.nof2=[]/\o'.xs=[]/\nts left++rm p.i=nts o'.x++rm o'.p.i
 operand_: ∀(p:Ps) (o':Out),R (.operand) p=some o'->o'.p.bad=false->True->p.bad=false/\o'.x.nof2=[]/\o'.xs=[]/\rm p.i=nts o'.x++rm o'.p.i
 primary_: ∀(p:Ps) (o':Out),R (.primary) p=some o'->o'.p.bad=false->True->p.bad=false/\o'.x.nof2=[]/\o'.xs=[]/\rm p.i=nts o'.x++rm o'.p.i
 follow_: ∀(x:Nd) (paren:Bool) (p:Ps) (o':Out),R (.follow x paren) p=some o'->o'.p.bad=false->x.nof2=[]->p.bad=false/\o'.x.nof2=[]/\o'.xs=[]/\nts x++rm p.i=nts o'.x++rm o'.p.i
 box_: ∀(n:Nd) (o c:Bs) (level:Int) (p:Ps) (o':Out),R (.box n o c level) p=some o'->o'.p.bad=false->n.nof2=[]/\n.tlf=[]->p.bad=false/\o'.x.nof2=[]/\o'.xs=[]/\nts n++rm p.i=nts o'.x++rm o'.p.i
 boxL_: ∀(n:Nd) (notes:List ByteArray) (c:Bs) (level:Int) (p:Ps) (o':Out),R (.boxL n notes c level) p=some o'->o'.p.bad=false->n.nof2=[]/\n.tlf=[]->p.bad=false/\o'.x.nof2=[]/\o'.xs=[]/\nts n++notes++rm p.i=nts o'.x++rm o'.p.i
 item_: ∀(kind level:Int) (p:Ps) (o':Out),R (.item kind level) p=some o'->o'.p.bad=false->True->p.bad=false/\o'.x.nof2=[]/\o'.xs=[]/\rm p.i=nts o'.x++rm o'.p.i
 segment_: ∀(p:Ps) (o':Out),R (.segment) p=some o'->o'.p.bad=false->True->p.bad=false/\o'.x.nof2=[]/\o'.xs=[]/\rm p.i=nts o'.x++rm o'.p.i
 list_: ∀(p:Ps) (o':Out),R (.list) p=some o'->o'.p.bad=false->True->p.bad=false/\o'.x.nof2=[]/\o'.xs=[]/\rm p.i=nts o'.x++rm o'.p.i
 listL_: ∀(n:Nd) (notes:List ByteArray) (p:Ps) (o':Out),R (.listL n notes) p=some o'->o'.p.bad=false->n.nof2=[]/\n.tlf=[]->p.bad=false/\o'.x.nof2=[]/\o'.xs=[]/\nts n++notes++rm p.i=nts o'.x++rm o'.p.i
 comp_: ∀(x:Nd) (broken:Bool) (p:Ps) (o':Out),R (.comp x broken) p=some o'->o'.p.bad=false->True->p.bad=false/\o'.x.nof2=[]/\o'.xs=[]/\nts x++rm p.i=nts o'.x++rm o'.p.i
 compL_: ∀(n:Nd) (p:Ps) (o':Out),R (.compL n) p=some o'->o'.p.bad=false->n.nof2=[]/\n.tlf=[]->p.bad=false/\o'.x.nof2=[]/\o'.xs=[]/\nts n++rm p.i=nts o'.x++rm o'.p.i
 hash_: ∀(of:List Nd) (p:Ps) (o':Out),R (.hash of) p=some o'->o'.p.bad=false->True->p.bad=false/\o'.x.nof2=[]/\o'.xs=[]/\qe0 of++rm p.i=nts o'.x++rm o'.p.i
 func_: ∀(p:Ps) (o':Out),R (.func) p=some o'->o'.p.bad=false->True->p.bad=false/\o'.x.nof2=[]/\o'.xs=[]/\rm p.i=nts o'.x++rm o'.p.i
 funcL_: ∀(n:Nd) (p:Ps) (o':Out),R (.funcL n) p=some o'->o'.p.bad=false->n.nof2=[]/\n.tlf=[]->p.bad=false/\o'.x.nof2=[]/\o'.xs=[]/\nts n++rm p.i=nts o'.x++rm o'.p.i
 head_: ∀(s:ByteArray) (p:Ps) (o':Out),R (.head s) p=some o'->o'.p.bad=false->True->p.bad=false/\o'.x.nof2=[]/\o'.xs=[]/\rm p.i=nts o'.x++rm o'.p.i
 rest_: ∀(c:Nd) (p:Ps) (o':Out),R (.rest c) p=some o'->o'.p.bad=false->c.nof2=[]/\c.tlf=[]->p.bad=false/\o'.x.nof2=[]/\o'.xs=[]/\nts c++rm p.i=nts o'.x++rm o'.p.i
 arrow_: ∀(c g:Nd) (p:Ps) (o':Out),R (.arrow c g) p=some o'->o'.p.bad=false->c.nof2=[]/\c.tlf=[]->p.bad=false/\o'.x.nof2=[]/\o'.xs=[]/\nts c++nts g++rm p.i=nts o'.x++rm o'.p.i
 guard_: ∀(p:Ps) (o':Out),R (.guard) p=some o'->o'.p.bad=false->True->p.bad=false/\o'.x.nof2=[]/\o'.xs=[]/\rm p.i=nts o'.x++rm o'.p.i
 guardL_: ∀(g:Nd) (p:Ps) (o':Out),R (.guardL g) p=some o'->o'.p.bad=false->g.nof2=[]/\g.tlf=[]->p.bad=false/\o'.x.nof2=[]/\o'.xs=[]/\nts g++rm p.i=nts o'.x++rm o'.p.i
 guardB_: ∀(b:Nd) (p:Ps) (o':Out),R (.guardB b) p=some o'->o'.p.bad=false->b.nof2=[]/\b.tlf=[]->p.bad=false/\o'.x.nof2=[]/\o'.xs=[]/\nts b++rm p.i=nts o'.x++rm o'.p.i
 body_: ∀(p:Ps) (o':Out),R (.body) p=some o'->o'.p.bad=false->True->p.bad=false/\o'.x.nof2=[]/\o'.xs=[]/\rm p.i=nts o'.x++rm o'.p.i
 bodyL_: ∀(b:Nd) (p:Ps) (o':Out),R (.bodyL b) p=some o'->o'.p.bad=false->b.nof2=[]/\b.tlf=[]->p.bad=false/\o'.x.nof2=[]/\o'.xs=[]/\nts b++rm p.i=nts o'.x++rm o'.p.i
 clauses_: ∀(p:Ps) (o':Out),R (.clauses) p=some o'->o'.p.bad=false->True->p.bad=false/\rm p.i=qe0 o'.xs++rm o'.p.i
 clausesL_: ∀(out:List Nd) (p:Ps) (o':Out),R (.clausesL out) p=some o'->o'.p.bad=false->True->p.bad=false/\qe0 out++rm p.i=qe0 o'.xs++rm o'.p.i
 ifs_: ∀(p:Ps) (o':Out),R (.ifs) p=some o'->o'.p.bad=false->True->p.bad=false/\rm p.i=qe0 o'.xs++rm o'.p.i
 ifsL_: ∀(out:List Nd) (p:Ps) (o':Out),R (.ifsL out) p=some o'->o'.p.bad=false->True->p.bad=false/\qe0 out++rm p.i=qe0 o'.xs++rm o'.p.i
 receive_: ∀(p:Ps) (o':Out),R (.receive) p=some o'->o'.p.bad=false->True->p.bad=false/\o'.x.nof2=[]/\o'.xs=[]/\rm p.i=nts o'.x++rm o'.p.i
structure SLA (rm:Nat->List ByteArray) (G:Ps->Int->Bs->Bool) (AT:Nat) (R:Cmd->Ps->Option Out):Prop where
 expr_: ∀(level:Int) (p:Ps) (o':Out),R (.expr level) p=some o'->o'.p.bad=false->o'.p.i<=AT->True->rm p.i=lts o'.x++rm o'.p.i
 exprL_: ∀(level:Int) (left:Nd) (has:Int) (p:Ps) (o':Out),R (.exprL level left has) p=some o'->o'.p.bad=false->o'.p.i<=AT->True->lts left++rm p.i=lts o'.x++rm o'.p.i
 operand_: ∀(p:Ps) (o':Out),R (.operand) p=some o'->o'.p.bad=false->o'.p.i<=AT->True->rm p.i=lts o'.x++rm o'.p.i
 primary_: ∀(p:Ps) (o':Out),R (.primary) p=some o'->o'.p.bad=false->o'.p.i<=AT->True->rm p.i=lts o'.x++rm o'.p.i
 follow_: ∀(x:Nd) (paren:Bool) (p:Ps) (o':Out),R (.follow x paren) p=some o'->o'.p.bad=false->o'.p.i<=AT->True->lts x++rm p.i=lts o'.x++rm o'.p.i
 box_: ∀(n:Nd) (o c:Bs) (level:Int) (p:Ps) (o':Out),R (.box n o c level) p=some o'->o'.p.bad=false->o'.p.i<=AT->(n.kd≠6\/o=[60,60])->o≠[60,60]/\lts n++rm p.i=lts o'.x++rm o'.p.i
 boxL_: ∀(n:Nd) (notes:List ByteArray) (c:Bs) (level:Int) (p:Ps) (o':Out),R (.boxL n notes c level) p=some o'->o'.p.bad=false->o'.p.i<=AT->n.kd≠6->lts n++rm p.i=lts o'.x++rm o'.p.i
 item_: ∀(kind level:Int) (p:Ps) (o':Out),R (.item kind level) p=some o'->o'.p.bad=false->o'.p.i<=AT->kind≠6->rm p.i=lts o'.x++rm o'.p.i
 list_: ∀(p:Ps) (o':Out),R (.list) p=some o'->o'.p.bad=false->o'.p.i<=AT->True->rm p.i=lts o'.x++rm o'.p.i
 listL_: ∀(n:Nd) (notes:List ByteArray) (p:Ps) (o':Out),R (.listL n notes) p=some o'->o'.p.bad=false->o'.p.i<=AT->n.kd=5->lts n++rm p.i=lts o'.x++rm o'.p.i
 comp_: ∀(x:Nd) (broken:Bool) (p:Ps) (o':Out),R (.comp x broken) p=some o'->o'.p.bad=false->o'.p.i<=AT->True->lts x++rm p.i=lts o'.x++rm o'.p.i
 compL_: ∀(n:Nd) (p:Ps) (o':Out),R (.compL n) p=some o'->o'.p.bad=false->o'.p.i<=AT->True->lts n++rm p.i=lts o'.x++rm o'.p.i
 func_: ∀(p:Ps) (o':Out),R (.func) p=some o'->o'.p.bad=false->o'.p.i<=AT->G p 8 [102,117,110]=true->False
 rest_: ∀(c:Nd) (p:Ps) (o':Out),R (.rest c) p=some o'->o'.p.bad=false->o'.p.i<=AT->True->lts c++rm p.i=lts o'.x++rm o'.p.i
 arrow_: ∀(c g:Nd) (p:Ps) (o':Out),R (.arrow c g) p=some o'->o'.p.bad=false->o'.p.i<=AT->True->lts c++lts g++rm p.i=lts o'.x++rm o'.p.i
 guard_: ∀(p:Ps) (o':Out),R (.guard) p=some o'->o'.p.bad=false->o'.p.i<=AT->True->rm p.i=lts o'.x++rm o'.p.i
 guardL_: ∀(g:Nd) (p:Ps) (o':Out),R (.guardL g) p=some o'->o'.p.bad=false->o'.p.i<=AT->True->lts g++rm p.i=lts o'.x++rm o'.p.i
 guardB_: ∀(b:Nd) (p:Ps) (o':Out),R (.guardB b) p=some o'->o'.p.bad=false->o'.p.i<=AT->True->lts b++rm p.i=lts o'.x++rm o'.p.i
 body_: ∀(p:Ps) (o':Out),R (.body) p=some o'->o'.p.bad=false->o'.p.i<=AT->True->rm p.i=lts o'.x++rm o'.p.i
 bodyL_: ∀(b:Nd) (p:Ps) (o':Out),R (.bodyL b) p=some o'->o'.p.bad=false->o'.p.i<=AT->True->lts b++rm p.i=lts o'.x++rm o'.p.i
 clauses_: ∀(p:Ps) (o':Out),R (.clauses) p=some o'->o'.p.bad=false->o'.p.i<=AT->True->rm p.i=qdj o'.xs++rm o'.p.i
 clausesL_: ∀(out:List Nd) (p:Ps) (o':Out),R (.clausesL out) p=some o'->o'.p.bad=false->o'.p.i<=AT->True->qdj out++rm p.i=qdj o'.xs++rm o'.p.i
 ifs_: ∀(p:Ps) (o':Out),R (.ifs) p=some o'->o'.p.bad=false->o'.p.i<=AT->True->rm p.i=qdj o'.xs++rm o'.p.i
 ifsL_: ∀(out:List Nd) (p:Ps) (o':Out),R (.ifsL out) p=some o'->o'.p.bad=false->o'.p.i<=AT->True->qdj out++rm p.i=qdj o'.xs++rm o'.p.i
 receive_: ∀(p:Ps) (o':Out),R (.receive) p=some o'->o'.p.bad=false->o'.p.i<=AT->G p 8 [114,101,99,101,105,118,101]=true->rm p.i=lts o'.x++rm o'.p.i
structure SCA (R:Cmd->Ps->Option Out):Prop where
 expr_: ∀(level:Int) (p:Ps) (o':Out),R (.expr level) p=some o'->o'.p.bad=false->cnt o'.x+8*p.i+4<=8*o'.p.i
 exprL_: ∀(level:Int) (left:Nd) (has:Int) (p:Ps) (o':Out),R (.exprL level left has) p=some o'->o'.p.bad=false->cnt o'.x+8*p.i+0<=cnt left+8*o'.p.i
 operand_: ∀(p:Ps) (o':Out),R (.operand) p=some o'->o'.p.bad=false->cnt o'.x+8*p.i+4<=8*o'.p.i
 primary_: ∀(p:Ps) (o':Out),R (.primary) p=some o'->o'.p.bad=false->cnt o'.x+8*p.i+4<=8*o'.p.i
 follow_: ∀(x:Nd) (paren:Bool) (p:Ps) (o':Out),R (.follow x paren) p=some o'->o'.p.bad=false->cnt o'.x+8*p.i+0<=cnt x+8*o'.p.i
 box_: ∀(n:Nd) (o c:Bs) (level:Int) (p:Ps) (o':Out),R (.box n o c level) p=some o'->o'.p.bad=false->cnt o'.x+8*p.i+12<=cnt n+8*o'.p.i
 boxL_: ∀(n:Nd) (notes:List ByteArray) (c:Bs) (level:Int) (p:Ps) (o':Out),R (.boxL n notes c level) p=some o'->o'.p.bad=false->cnt o'.x+8*p.i+4<=cnt n+8*o'.p.i
 item_: ∀(kind level:Int) (p:Ps) (o':Out),R (.item kind level) p=some o'->o'.p.bad=false->cnt o'.x+8*p.i+4<=8*o'.p.i
 segment_: ∀(p:Ps) (o':Out),R (.segment) p=some o'->o'.p.bad=false->cnt o'.x+8*p.i+4<=8*o'.p.i
 list_: ∀(p:Ps) (o':Out),R (.list) p=some o'->o'.p.bad=false->cnt o'.x+8*p.i+4<=8*o'.p.i
 listL_: ∀(n:Nd) (notes:List ByteArray) (p:Ps) (o':Out),R (.listL n notes) p=some o'->o'.p.bad=false->cnt o'.x+8*p.i+4<=cnt n+8*o'.p.i
 comp_: ∀(x:Nd) (broken:Bool) (p:Ps) (o':Out),R (.comp x broken) p=some o'->o'.p.bad=false->cnt o'.x+8*p.i+4<=cnt x+8*o'.p.i
 compL_: ∀(n:Nd) (p:Ps) (o':Out),R (.compL n) p=some o'->o'.p.bad=false->cnt o'.x+8*p.i+4<=cnt n+8*o'.p.i
 hash_: ∀(of:List Nd) (p:Ps) (o':Out),R (.hash of) p=some o'->o'.p.bad=false->cnt o'.x+8*p.i+4<=qek of+8*o'.p.i
 func_: ∀(p:Ps) (o':Out),R (.func) p=some o'->o'.p.bad=false->cnt o'.x+8*p.i+4<=8*o'.p.i
 funcL_: ∀(n:Nd) (p:Ps) (o':Out),R (.funcL n) p=some o'->o'.p.bad=false->cnt o'.x+8*p.i+4<=cnt n+8*o'.p.i
 head_: ∀(s:ByteArray) (p:Ps) (o':Out),R (.head s) p=some o'->o'.p.bad=false->cnt o'.x+8*p.i+4<=8*o'.p.i
 rest_: ∀(c:Nd) (p:Ps) (o':Out),R (.rest c) p=some o'->o'.p.bad=false->cnt o'.x+8*p.i+7<=cnt c+8*o'.p.i
 arrow_: ∀(c g:Nd) (p:Ps) (o':Out),R (.arrow c g) p=some o'->o'.p.bad=false->cnt o'.x+8*p.i+8<=cnt c+cnt g+8*o'.p.i
 guard_: ∀(p:Ps) (o':Out),R (.guard) p=some o'->o'.p.bad=false->cnt o'.x+8*p.i+2<=8*o'.p.i
 guardL_: ∀(g:Nd) (p:Ps) (o':Out),R (.guardL g) p=some o'->o'.p.bad=false->cnt o'.x+8*p.i+3<=cnt g+8*o'.p.i
 guardB_: ∀(b:Nd) (p:Ps) (o':Out),R (.guardB b) p=some o'->o'.p.bad=false->cnt o'.x+8*p.i+0<=cnt b+8*o'.p.i
 body_: ∀(p:Ps) (o':Out),R (.body) p=some o'->o'.p.bad=false->cnt o'.x+8*p.i+3<=8*o'.p.i
 bodyL_: ∀(b:Nd) (p:Ps) (o':Out),R (.bodyL b) p=some o'->o'.p.bad=false->cnt o'.x+8*p.i+4<=cnt b+8*o'.p.i
 clauses_: ∀(p:Ps) (o':Out),R (.clauses) p=some o'->o'.p.bad=false->qek o'.xs+8*p.i+4<=8*o'.p.i
 clausesL_: ∀(out:List Nd) (p:Ps) (o':Out),R (.clausesL out) p=some o'->o'.p.bad=false->qek o'.xs+8*p.i+4<=qek out+8*o'.p.i
 ifs_: ∀(p:Ps) (o':Out),R (.ifs) p=some o'->o'.p.bad=false->qek o'.xs+8*p.i+4<=8*o'.p.i
 ifsL_: ∀(out:List Nd) (p:Ps) (o':Out),R (.ifsL out) p=some o'->o'.p.bad=false->qek o'.xs+8*p.i+4<=qek out+8*o'.p.i
 receive_: ∀(p:Ps) (o':Out),R (.receive) p=some o'->o'.p.bad=false->cnt o'.x+8*p.i+4<=8*o'.p.i
theorem qvn{E:Env}{R:Cmd->Ps->Option Out}(hh:SCA R)(hM:MoX R):SCA (qb6 E R):=by
 have ht:=qp0 E
 have hw:=qp1 E
 have hx:=qxw E
 have hn:=qeu E
 have hf:=ct_fin E
 have hs:=qjz E
 have hz: ∀p:Ps,p.wrong.bad=true:=fun _=>rfl
 unfold MoX at hM
 constructor
 case' expr_ | exprL_=>have g0:=hh.expr_;have g1:=hh.operand_;have g2:=hh.exprL_;clear hh hf
 case' operand_ | follow_=>have g0:=hh.operand_;have g1:=hh.primary_;have g2:=hh.follow_;have g3:=hh.box_;have g4:=hh.expr_;have g5:=hh.hash_;clear hh hf
 case' item_ | boxL_ | box_=>have g0:=hh.item_;have g1:=hh.boxL_;have g2:=hh.segment_;have g3:=hh.expr_;clear hh hf
 case' segment_ | hash_ | head_=>have g0:=hh.expr_;have g1:=hh.box_;have g2:=hh.rest_;clear hh hf
 case' listL_=>have g0:=hh.expr_;have g1:=hh.comp_;have g2:=hh.listL_;clear hh hf
 case' list_ | comp_ | compL_=>have g0:=hh.listL_;have g1:=hh.compL_;have g2:=hh.expr_;clear hh hf
 case' func_ | rest_ | arrow_ | guard_ | body_ | clauses_ | ifs_=>have g0:=hh.funcL_;have g1:=hh.guard_;have g2:=hh.arrow_;have g3:=hh.body_;have g4:=hh.guardL_;have g5:=hh.bodyL_;have g6:=hh.clausesL_;have g7:=hh.ifsL_;clear hh hf
 case' guardL_ | guardB_ | bodyL_=>have g0:=hh.expr_;have g1:=hh.guardB_;have g2:=hh.guardL_;have g3:=hh.bodyL_;clear hh hf
 case' clausesL_ | ifsL_=>have g0:=hh.expr_;have g1:=hh.rest_;have g2:=hh.clausesL_;have g3:=hh.guard_;have g4:=hh.arrow_;have g5:=hh.ifsL_;clear hh hf
 case' receive_=>have g0:=hh.clauses_;have g1:=hh.expr_;have g2:=hh.arrow_;clear hh
 case' funcL_=>have g0:=hh.head_;have g1:=hh.funcL_;clear hh
 case' primary_=>have g0:=hh.expr_;have g1:=hh.box_;have g2:=hh.list_;have g3:=hh.hash_;have g4:=hh.func_;have g5:=hh.clauses_;have g6:=hh.ifs_;have g7:=hh.receive_;have g8:=hh.body_;clear hh
 all_goals (intros;rename_i h hb;simp only[qb6]at h)
 all_goals generalize Env.take E=fT at*
 all_goals generalize Env.want E=fW at*
 all_goals generalize Env.text E=fX at*
 all_goals generalize Env.notes E=fN at*
 all_goals generalize qai E=fF at*
 all_goals generalize qcg E=fS at*
 all_goals generalize Env.sign E=fG at*
 all_goals generalize Env.word E=fO at*
 all_goals generalize Env.at_ E=fA at*
 all_goals generalize Env.broken E=fB at*
 all_goals (repeat' (first | (rw[zJ]at h;obtain⟨_,h0,h⟩:=h;(repeat' (first | (rw[zJ]at h0;obtain⟨_,_,h0⟩:=h0) | (rw[qcs]at h0;rcases h0 with⟨_,h0⟩ | ⟨_,h0⟩)))<;> (try (simp only[Option.some.injEq]at h0;subst h0))) | (rw[qcs]at h;rcases h with⟨_,h⟩ | ⟨_,h⟩) | split at h))
 all_goals (try (simp only[Option.some.injEq]at h;subst h))
 all_goals (try dsimp only at*)
 all_goals grind (gen:=20) (ematch:=20) [qxr,qov,qmd,qxt,qxs,qxv,qxu,cnt_nk,qts,qtt,qtu,qot,qie]
theorem qrz(E:Env): ∀n,SCA (qal E n)
 | 0=>by constructor<;>intros<;>rename_i h _<;>cases h
 | n+1=>qvn (qrz E n) (qhr E n)
end Go.Proofs.YtdhadeeajgoedaaGreat
