import Derived.WalkKit
import Derived.WalkSpells
import Derived.WalkLawsBesides
import Derived.Lib.Hide
import Derived.PlainAid
set_option maxRecDepth 100000
set_option maxHeartbeats 4000000
set_option linter.all false
open List renaming getD_eq_getElem?_getD→zA,getElem?_eq_getElem→zB
open Nat renaming le_refl→zC,lt_of_lt_of_le→zD
namespace Go.Proofs.YtdhadeeajgoedaaGreat
open Go.RowKit Go.PlainAid
theorem qab(w:World)(n:Nat):Below w.heap.size w (w.drewN n):=⟨rfl,rfl,rfl,zC _,fun _ _=>rfl⟩
theorem qa1(w:World)(o:Obj):Below w.heap.size w (w.alloc o):=(Below.refl _ _).alloc (zC _) _
theorem qvh{k:IntKind}{a b:Nat}(h:a=b):Ending.returned (Value.int k (a:Int))=Ending.returned (Value.int k (b:Int)):=by rw[h]
theorem qe7{k:IntKind}{a b:Int}(h:a=b):Ending.returned (Value.int k a)=Ending.returned (Value.int k b):=by rw[h]
theorem ret_s{a b:ByteArray}(h:a=b):Ending.returned (Value.string a)=Ending.returned (Value.string b):=by rw[h]
theorem qbn(W:World)(n:Nat)(a:Addr)(v:Value):(W.drewN n).setCell a v=(W.setCell a v).drewN n:=rfl
theorem qen(w:World)(o:Obj)(n:Nat):Below w.heap.size w ((w.alloc o).drewN n):=(qa1 w o).trans (Below.mono (qab _ _) (by simp))
theorem qe9{w w1:World}{t:TypeId}{cs:Array Value}(h:Below (w.heap.size+1) (w.alloc (.cells cs t)) w1):w1.heap[w.heap.size]?=some (.cells cs t (0,0)):=by
 rw[h.block _ (by omega)]
 show(w.heap.push _)[w.heap.size]?=_
 rw[Array.getElem?_push,if_pos rfl]
theorem qaw{w1:World}{b:Nat}{cs:Array Value}{t:TypeId}(h:w1.heap[b]?=some (.cells cs t (0,0)))(j:Nat):w1.frozen? ⟨b,j,none⟩=false:=by simp[World.frozen?,h]
theorem qtc{w w1:World}(h:Below w.heap.size w w1)(a b c:Value):Below w.heap.size w (((w1.setCell ⟨w.heap.size,0,none⟩ a).setCell ⟨w.heap.size,1,none⟩ b).setCell ⟨w.heap.size,2,none⟩ c):=((h.setCell (zC _) a).setCell (zC _) b).setCell (zC _) c
def LsAt(w:World)(g:Nat)(L:List (List UInt8)):Prop:= ∀k,k<L.length->w.cell? ⟨g,k,none⟩=some (.string ⟨(L.getD k []).toArray⟩)
theorem ls_at(w:World)(cs:Array Value)(t:TypeId)(L:List (List UInt8))(h:cs=(L.map fun l=>Value.string ⟨l.toArray⟩).toArray):LsAt (w.alloc (.cells cs t)) w.heap.size L:=by
 intro k hk
 rw[World.cell?_alloc_new,h]
 simp[zA,zB hk]
theorem qq5(w:World)(cs:Array Value)(t:TypeId)(L:List (List UInt8))(n:Nat)(hn:w.heap.size=n)(h:cs=(L.map fun l=>Value.string ⟨l.toArray⟩).toArray):LsAt (w.alloc (.cells cs t)) n L:=by
 rw[<-hn];exact ls_at w cs t L h
theorem qfk(w:World)(o p:Obj):Below w.heap.size w ((w.alloc o).alloc p):=((Below.refl _ _).alloc (zC _) _).alloc (by simp) _
inductive Nd where
 | mk (k:Int) (t:ByteArray) (l:List Nd) (br bl:Bool) (no ta:List ByteArray)
mutual
def cnt:Nd->Nat
 | .mk _ _ l _ _ _ _=>1+qek l
def qek:List Nd->Nat
 | []=>0
 | x::t=>cnt x+qek t
end
mutual
def nts:Nd->List ByteArray
 | .mk _ _ l _ _ no ta=>no++qe0 l++ta
def qe0:List Nd->List ByteArray
 | []=>[]
 | x::t=>nts x++qe0 t
end
mutual
def lts:Nd->List ByteArray
 | .mk k t l _ _ _ _=>(if k==1 then[t]else[])++qdj l
def qdj:List Nd->List ByteArray
 | []=>[]
 | x::t=>lts x++qdj t
end
theorem qky(n:Nd):1<=cnt n:=by cases n;simp only[cnt];omega
theorem qil: ∀l:List Nd,l.length<=qek l
 | []=>zC _
 | x::t=>by have:=qky x;have:=qil t;simp only[qek,List.length_cons];omega
theorem qou: ∀ {l:List Nd} {i:Nat} {x:Nd},l[i]?=some x->cnt x<=qek l
 | [],_,_,h=>by simp at h
 | y::t,0,x,h=>by
  simp only[List.getElem?_cons_zero,Option.some.injEq]at h
  subst h
  simp only[qek];omega
 | y::t,i+1,x,h=>by
  simp only[List.getElem?_cons_succ]at h
  have:=qou h
  simp only[qek];omega
def StAt(W:World)(v:Value)(L:List ByteArray):Prop:=
 ∃a cap,v=.slice a L.length cap/\(0<L.length-> ∃g o,a=some ⟨g,o,none⟩/\g<W.heap.size/\ ∀i x,L[i]?=some x->W.cell? ⟨g,o+i,none⟩=some (.string x))
theorem StAt.below{W W':World}{v:Value}{L:List ByteArray}(h:StAt W v L)(hb:Below W.heap.size W W'):StAt W' v L:=by
 obtain⟨a,cap,h1,h2⟩:=h
 refine⟨a,cap,h1,fun h0=>?_⟩
 obtain⟨g,o,g1,g2,g3⟩:=h2 h0
 exact⟨g,o,g1,zD g2 hb.size,fun i x hx=>(hb.cell (p:=⟨g,o+i,none⟩) g2).trans (g3 i x hx)⟩
def SlAt(W:World)(v:Value)(n:Nat)(cs:Nat->List Value):Prop:=
 ∃a cap,v=.slice a n cap/\(0<n-> ∃g o,a=some ⟨g,o,none⟩/\g<W.heap.size/\ ∀i,i<n-> ∀j x,(cs i)[j]?=some x->W.cell? ⟨g,o+i*7+j,none⟩=some x)
theorem SlAt.below{W W':World}{v:Value}{n:Nat}{cs:Nat->List Value}(h:SlAt W v n cs)(hb:Below W.heap.size W W'):SlAt W' v n cs:=by
 obtain⟨a,cap,h1,h2⟩:=h
 refine⟨a,cap,h1,fun h0=>?_⟩
 obtain⟨g,o,g1,g2,g3⟩:=h2 h0
 exact⟨g,o,g1,zD g2 hb.size,fun i hi j x hx=>(hb.cell (p:=⟨g,o+i*7+j,none⟩) g2).trans (g3 i hi j x hx)⟩
inductive NdAt (W:World):List Value->Nd->Prop where
 | mk (k:Int) (t:ByteArray) (l:List Nd) (br bl:Bool) (no ta:List ByteArray) (lv nv tv:Value) (cs:Nat->List Value) (hn:StAt W nv no) (ht:StAt W tv ta) (hl:SlAt W lv l.length cs) (hc: ∀i x,l[i]?=some x->NdAt W (cs i) x):
  NdAt W [.int .i64 k,.string t,lv,.bool br,.bool bl,nv,tv] (.mk k t l br bl no ta)
theorem NdAt.bel{W W':World}(hb:Below W.heap.size W W'){c:List Value}{n:Nd}(h:NdAt W c n):NdAt W' c n:=by
 induction h with
 | mk k t l br bl no ta lv nv tv cs hn ht hl hc ih=>exact .mk k t l br bl no ta lv nv tv cs (hn.below hb) (ht.below hb) (hl.below hb) ih
theorem NdAt.inv{W:World}{c:List Value}{k:Int}{t:ByteArray}{l:List Nd}{br bl:Bool}{no ta:List ByteArray}(h:NdAt W c (.mk k t l br bl no ta)):
 ∃lv nv tv cs,c=[.int .i64 k,.string t,lv,.bool br,.bool bl,nv,tv]/\StAt W nv no/\StAt W tv ta/\SlAt W lv l.length cs/\ ∀i x,l[i]?=some x->NdAt W (cs i) x:=by
 cases h with
 | mk _ _ _ _ _ _ _ lv nv tv cs hn ht hl hc=>exact⟨lv,nv,tv,cs,rfl,hn,ht,hl,hc⟩
theorem qnh{α:Type}{L:List α}{i:Nat}{x:α}(h:L[i]?=some x):L.drop i=x::L.drop (i+1):=by
 have hi:i<L.length:=(List.getElem?_eq_some_iff.1 h).1
 have h2:L[i]=x:=(List.getElem?_eq_some_iff.1 h).2
 rw[List.drop_eq_getElem_cons hi,h2]
theorem kids{w:World}{l:List Nd}{cs:Nat->List Value}{a:Option Addr}{cap:Nat}(hl:SlAt w (.slice a l.length cap) l.length cs)(hc: ∀i x,l[i]?=some x->NdAt w (cs i) x)(i:Nat)(x:Nd)(hx:l[i]?=some x):
 ∃g o k t lv br bl nv tv,a=some ⟨g,o,none⟩/\NdAt w [.int .i64 k,.string t,lv,.bool br,.bool bl,nv,tv] x/\ ∀W,Below w.heap.size w W->
  W.cell? ⟨g,o+i*7,none⟩=some (.int .i64 k)/\W.cell? ⟨g,o+i*7+1,none⟩=some (.string t)/\W.cell? ⟨g,o+i*7+2,none⟩=some lv/\W.cell? ⟨g,o+i*7+3,none⟩=some (.bool br)/\W.cell? ⟨g,o+i*7+4,none⟩=some (.bool bl)/\W.cell? ⟨g,o+i*7+5,none⟩=some nv/\W.cell? ⟨g,o+i*7+6,none⟩=some tv:=by
 have hi:i<l.length:=(List.getElem?_eq_some_iff.1 hx).1
 obtain⟨a',cap',e,hr⟩:=hl
 simp only[Value.slice.injEq]at e
 obtain⟨rfl,-,rfl⟩:=e
 obtain⟨g,o,rfl,hg,hcell⟩:=hr (by omega)
 have hn:=hc i x hx
 cases x with
 | mk k t l' br bl no ta=>
  obtain⟨lv,nv,tv,cs',h,-⟩:=hn.inv
  have hce:=hcell i hi
  rw[h]at hn hce
  exact⟨g,o,k,t,lv,br,bl,nv,tv,rfl,hn,fun W hb=>⟨(hb.cell (p:=⟨g,o+i*7,none⟩) hg).trans (hce 0 _ rfl),(hb.cell (p:=⟨g,o+i*7+1,none⟩) hg).trans (hce 1 _ rfl),(hb.cell (p:=⟨g,o+i*7+2,none⟩) hg).trans (hce 2 _ rfl),(hb.cell (p:=⟨g,o+i*7+3,none⟩) hg).trans (hce 3 _ rfl),(hb.cell (p:=⟨g,o+i*7+4,none⟩) hg).trans (hce 4 _ rfl),(hb.cell (p:=⟨g,o+i*7+5,none⟩) hg).trans (hce 5 _ rfl),(hb.cell (p:=⟨g,o+i*7+6,none⟩) hg).trans (hce 6 _ rfl)⟩⟩
def opTab:List (List (List UInt8)):=
 [[],[[58,58]],[[124]],[[61],[33]],[[111,114,101,108,115,101]],[[97,110,100,97,108,115,111]],
  [[61,61],[47,61],[61,60],[60],[62,61],[62],[61,58,61],[61,47,61]],[[43,43],[45,45]],
  [[43],[45],[98,111,114],[98,120,111,114],[98,115,108],[98,115,114],[111,114],[120,111,114]],
  [[42],[47],[100,105,118],[114,101,109],[98,97,110,100],[97,110,100]]]
def bnr:List (List (List UInt8))->Nat->List UInt8->Nat
 | [],_,_=>0
 | r::t,i,x=>if r.contains x then i else bnr t (i+1) x
def bn(x:List UInt8):Nat:=bnr opTab 0 x
def sdt:List Nat:=[0,2,1,2,2,2,3,2,1,1]
def sd(x:List UInt8):Nat:=sdt.getD (bn x) 0
def pf(x:List UInt8):Nat:=if x==[43]||x==[45]||x==[110,111,116]||x==[98,110,111,116]then 10 else 0
def lf(x:List UInt8):Nat:=if decide (0<bn x)&&decide (sd x≠1)then bn x+1 else bn x
def rt(x:List UInt8):Nat:=if decide (0<bn x)&&decide (sd x≠2)then bn x+1 else bn x
theorem qwd: ∀(T:List (List (List UInt8))) (i:Nat) (x:List UInt8),bnr T i x=0\/(i<=bnr T i x/\bnr T i x<i+T.length)
 | [],_,_=>.inl rfl
 | r::t,i,x=>by
  simp only[bnr]
  split
  ·exact .inr ⟨zC _,by simp⟩
  ·rcases qwd t (i+1) x with h | ⟨h1,h2⟩
   ·exact .inl h
   ·exact .inr ⟨by omega,by simp only[List.length_cons];omega⟩
theorem bn_le(x:List UInt8):bn x<=9:=by
 rcases qwd opTab 0 x with h | ⟨-,h⟩
 ·unfold bn;omega
 ·have:opTab.length=10:=rfl
  unfold bn;omega
theorem sd_at(x:List UInt8):sdt[bn x]?=some (sd x):=by
 have h:=bn_le x
 unfold sd
 rw[zA,zB (show bn x<sdt.length from by show bn x<10;omega)]
 rfl
def Keeps(P:Nat->Prop)(W W':World):Prop:=W.heap.size<=W'.heap.size/\ ∀g,P g->g<W.heap.size->W'.heap[g]?=W.heap[g]?
theorem Keeps.refl(P:Nat->Prop)(W:World):Keeps P W W:=⟨zC _,fun _ _ _=>rfl⟩
theorem Keeps.trans{P:Nat->Prop}{A B C:World}(h:Keeps P A B)(k:Keeps P B C):Keeps P A C:=
 ⟨Nat.le_trans h.1 k.1,fun g hp hg=>(k.2 g hp (zD hg h.1)).trans (h.2 g hp hg)⟩
theorem qay{P:Nat->Prop}{W W':World}(hb:Below W.heap.size W W'):Keeps P W W':=⟨hb.size,fun g _ hg=>hb.block g hg⟩
theorem qpw{P:Nat->Prop}(W:World){B:Nat}(hB: ¬P B)(i:Nat)(u:Value):Keeps P W (W.setCell ⟨B,i,none⟩ u):=
 ⟨by simp,fun g hp _=>Below.heap_setCell _ _ _ _ (by intro e;exact hB (by have e:g=B:=e;rw[<-e];exact hp))⟩
theorem qdz{P:Nat->Prop}{W W':World}(h:Keeps P W W'){g j:Nat}(hp:P g)(hg:g<W.heap.size):W'.cell? ⟨g,j,none⟩=W.cell? ⟨g,j,none⟩:=by
 unfold World.cell?
 simp only
 rw[h.2 g hp hg]
def StIn(W:World)(P:Nat->Prop)(v:Value)(L:List ByteArray):Prop:=
 ∃a cap,v=.slice a L.length cap/\(0<L.length-> ∃g o,a=some ⟨g,o,none⟩/\P g/\g<W.heap.size/\ ∀i x,L[i]?=some x->W.cell? ⟨g,o+i,none⟩=some (.string x))
theorem StIn.at{W:World}{P:Nat->Prop}{v:Value}{L:List ByteArray}(h:StIn W P v L):StAt W v L:=by
 obtain⟨a,cap,h1,h2⟩:=h
 refine⟨a,cap,h1,fun h0=>?_⟩
 obtain⟨g,o,g1,-,g3,g4⟩:=h2 h0
 exact⟨g,o,g1,g3,g4⟩
theorem StIn.keep{W W':World}{P:Nat->Prop}(hk:Keeps P W W'){v:Value}{L:List ByteArray}(h:StIn W P v L):StIn W' P v L:=by
 obtain⟨a,cap,h1,h2⟩:=h
 refine⟨a,cap,h1,fun h0=>?_⟩
 obtain⟨g,o,g1,g2,g3,g4⟩:=h2 h0
 exact⟨g,o,g1,g2,zD g3 hk.1,fun i x hx=>(qdz hk g2 g3).trans (g4 i x hx)⟩
def SlIn(W:World)(P:Nat->Prop)(v:Value)(n:Nat)(cs:Nat->List Value):Prop:=
 ∃a cap,v=.slice a n cap/\(0<n-> ∃g o,a=some ⟨g,o,none⟩/\P g/\g<W.heap.size/\ ∀i,i<n-> ∀j x,(cs i)[j]?=some x->W.cell? ⟨g,o+i*7+j,none⟩=some x)
theorem SlIn.at{W:World}{P:Nat->Prop}{v:Value}{n:Nat}{cs:Nat->List Value}(h:SlIn W P v n cs):SlAt W v n cs:=by
 obtain⟨a,cap,h1,h2⟩:=h
 refine⟨a,cap,h1,fun h0=>?_⟩
 obtain⟨g,o,g1,-,g3,g4⟩:=h2 h0
 exact⟨g,o,g1,g3,g4⟩
theorem SlIn.keep{W W':World}{P:Nat->Prop}(hk:Keeps P W W'){v:Value}{n:Nat}{cs:Nat->List Value}(h:SlIn W P v n cs):SlIn W' P v n cs:=by
 obtain⟨a,cap,h1,h2⟩:=h
 refine⟨a,cap,h1,fun h0=>?_⟩
 obtain⟨g,o,g1,g2,g3,g4⟩:=h2 h0
 exact⟨g,o,g1,g2,zD g3 hk.1,fun i hi j x hx=>(qdz hk g2 g3).trans (g4 i hi j x hx)⟩
inductive NdIn (W:World) (P:Nat->Prop):List Value->Nd->Prop where
 | mk (k:Int) (t:ByteArray) (l:List Nd) (br bl:Bool) (no ta:List ByteArray) (lv nv tv:Value) (cs:Nat->List Value) (hn:StIn W P nv no) (ht:StIn W P tv ta) (hl:SlIn W P lv l.length cs) (hc: ∀i x,l[i]?=some x->NdIn W P (cs i) x):
  NdIn W P [.int .i64 k,.string t,lv,.bool br,.bool bl,nv,tv] (.mk k t l br bl no ta)
theorem NdIn.nd{W:World}{P:Nat->Prop}{c:List Value}{n:Nd}(h:NdIn W P c n):NdAt W c n:=by
 induction h with
 | mk k t l br bl no ta lv nv tv cs hn ht hl hc ih=>exact .mk k t l br bl no ta lv nv tv cs hn.at ht.at hl.at ih
theorem NdIn.keep{W W':World}{P:Nat->Prop}(hk:Keeps P W W'){c:List Value}{n:Nd}(h:NdIn W P c n):NdIn W' P c n:=by
 induction h with
 | mk k t l br bl no ta lv nv tv cs hn ht hl hc ih=>exact .mk k t l br bl no ta lv nv tv cs (hn.keep hk) (ht.keep hk) (hl.keep hk) ih
end Go.Proofs.YtdhadeeajgoedaaGreat
