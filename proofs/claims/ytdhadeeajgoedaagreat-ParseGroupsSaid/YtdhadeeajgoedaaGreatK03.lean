/-
  What the claims stand on: Aid, TreeMath, OpsMath, TreeIn.
-/
import Derived.WalkKit
import Derived.WalkSpells
import Derived.WalkLawsBesides
import Derived.Lib.Hide
import Derived.PlainAid
set_option maxRecDepth 100000
set_option maxHeartbeats 4000000
set_option linter.unusedVariables false
set_option linter.unusedSimpArgs false
open Nat renaming le_refl→zA,lt_of_lt_of_le→zB
namespace Go.Proofs.YtdhadeeajgoedaaGreat
open Go.RowKit Go.PlainAid
theorem qac(w:World)(n:Nat):Below w.heap.size w (w.drewN n):=⟨rfl,rfl,rfl,zA _,fun _ _=>rfl⟩
theorem qa1(w:World)(o:Obj):Below w.heap.size w (w.alloc o):=(Below.refl _ _).alloc (zA _) _
theorem retN{k:IntKind}{a b:Nat}(h:a=b):Ending.returned (Value.int k (a:Int))=Ending.returned (Value.int k (b:Int)):=by rw[h]
theorem retI{k:IntKind}{a b:Int}(h:a=b):Ending.returned (Value.int k a)=Ending.returned (Value.int k b):=by rw[h]
theorem ret_s{a b:ByteArray}(h:a=b):Ending.returned (Value.string a)=Ending.returned (Value.string b):=by rw[h]
theorem qbi(W:World)(n:Nat)(a:Addr)(v:Value):(W.drewN n).setCell a v=(W.setCell a v).drewN n:=rfl
theorem qe7(w:World)(o:Obj)(n:Nat):Below w.heap.size w ((w.alloc o).drewN n):=(qa1 w o).trans (Below.mono (qac _ _) (by simp))
theorem qdw{w w1:World}{t:TypeId}{cs:Array Value}(h:Below (w.heap.size+1) (w.alloc (.cells cs t)) w1):w1.heap[w.heap.size]?=some (.cells cs t (0,0)):=by
 rw[h.block _ (by omega)]
 show(w.heap.push _)[w.heap.size]?=_
 rw[Array.getElem?_push,if_pos rfl]
theorem qav{w1:World}{b:Nat}{cs:Array Value}{t:TypeId}(h:w1.heap[b]?=some (.cells cs t (0,0)))(j:Nat):w1.frozen? ⟨b,j,none⟩=false:=by simp[World.frozen?,h]
theorem bel3{w w1:World}(h:Below w.heap.size w w1)(a b c:Value):Below w.heap.size w (((w1.setCell ⟨w.heap.size,0,none⟩ a).setCell ⟨w.heap.size,1,none⟩ b).setCell ⟨w.heap.size,2,none⟩ c):=((h.setCell (zA _) a).setCell (zA _) b).setCell (zA _) c
def LsAt(w:World)(g:Nat)(L:List (List UInt8)):Prop:= ∀k,k<L.length->w.cell? ⟨g,k,none⟩=some (.string ⟨(L.getD k []).toArray⟩)
theorem ls_at(w:World)(cs:Array Value)(t:TypeId)(L:List (List UInt8))(h:cs=(L.map fun l=>Value.string ⟨l.toArray⟩).toArray):LsAt (w.alloc (.cells cs t)) w.heap.size L:=by
 intro k hk
 rw[World.cell?_alloc_new,h]
 simp[List.getD_eq_getElem?_getD,List.getElem?_eq_getElem hk]
theorem qmp(w:World)(o p:Obj):Below w.heap.size w ((w.alloc o).alloc p):=((Below.refl _ _).alloc (zA _) _).alloc (by simp) _
inductive Nd where
 | mk (k:Int) (t:ByteArray) (l:List Nd) (br bl:Bool) (no ta:List ByteArray)
def StAt(W:World)(v:Value)(L:List ByteArray):Prop:=
 ∃a cap,v=.slice a L.length cap/\(0<L.length-> ∃g o,a=some ⟨g,o,none⟩/\g<W.heap.size/\ ∀i x,L[i]?=some x->W.cell? ⟨g,o+i,none⟩=some (.string x))
theorem StAt.below{W W':World}{v:Value}{L:List ByteArray}(h:StAt W v L)(hb:Below W.heap.size W W'):StAt W' v L:=by
 obtain⟨a,cap,h1,h2⟩:=h
 refine⟨a,cap,h1,fun h0=>?_⟩
 obtain⟨g,o,g1,g2,g3⟩:=h2 h0
 exact⟨g,o,g1,zB g2 hb.size,fun i x hx=>(hb.cell (p:=⟨g,o+i,none⟩) g2).trans (g3 i x hx)⟩
def SlAt(W:World)(v:Value)(n:Nat)(cs:Nat->List Value):Prop:=
 ∃a cap,v=.slice a n cap/\(0<n-> ∃g o,a=some ⟨g,o,none⟩/\g<W.heap.size/\ ∀i,i<n-> ∀j x,(cs i)[j]?=some x->W.cell? ⟨g,o+i*7+j,none⟩=some x)
theorem SlAt.below{W W':World}{v:Value}{n:Nat}{cs:Nat->List Value}(h:SlAt W v n cs)(hb:Below W.heap.size W W'):SlAt W' v n cs:=by
 obtain⟨a,cap,h1,h2⟩:=h
 refine⟨a,cap,h1,fun h0=>?_⟩
 obtain⟨g,o,g1,g2,g3⟩:=h2 h0
 exact⟨g,o,g1,zB g2 hb.size,fun i hi j x hx=>(hb.cell (p:=⟨g,o+i*7+j,none⟩) g2).trans (g3 i hi j x hx)⟩
inductive NdAt (W:World):List Value->Nd->Prop where
 | mk (k:Int) (t:ByteArray) (l:List Nd) (br bl:Bool) (no ta:List ByteArray) (lv nv tv:Value) (cs:Nat->List Value) (hn:StAt W nv no) (ht:StAt W tv ta) (hl:SlAt W lv l.length cs) (hc: ∀i x,l[i]?=some x->NdAt W (cs i) x):
  NdAt W [.int .i64 k,.string t,lv,.bool br,.bool bl,nv,tv] (.mk k t l br bl no ta)
theorem NdAt.bel{W W':World}(hb:Below W.heap.size W W'){c:List Value}{n:Nd}(h:NdAt W c n):NdAt W' c n:=by
 induction h with
 | mk k t l br bl no ta lv nv tv cs hn ht hl hc ih=>exact .mk k t l br bl no ta lv nv tv cs (hn.below hb) (ht.below hb) (hl.below hb) ih
theorem qlm{α:Type}{L:List α}{i:Nat}{x:α}(h:L[i]?=some x):L.drop i=x::L.drop (i+1):=by
 have hi:i<L.length:=(List.getElem?_eq_some_iff.1 h).1
 have h2:L[i]=x:=(List.getElem?_eq_some_iff.1 h).2
 rw[List.drop_eq_getElem_cons hi,h2]
def opTab:List (List (List UInt8)):=
 [[],[[58,58]],[[124]],[[61],[33]],[[111,114,101,108,115,101]],[[97,110,100,97,108,115,111]],
  [[61,61],[47,61],[61,60],[60],[62,61],[62],[61,58,61],[61,47,61]],[[43,43],[45,45]],
  [[43],[45],[98,111,114],[98,120,111,114],[98,115,108],[98,115,114],[111,114],[120,111,114]],
  [[42],[47],[100,105,118],[114,101,109],[98,97,110,100],[97,110,100]]]
def bnr:List (List (List UInt8))->Nat->List UInt8->Nat
 | [],_,_=>0
 | r::t,i,x=>if r.contains x then i else bnr t (i+1) x
def bn(x:List UInt8):Nat:=bnr opTab 0 x
def sdt:List Nat:=[0,2,1,2,2,2,3,2,1,1]
def sd(x:List UInt8):Nat:=sdt.getD (bn x) 0
def pf(x:List UInt8):Nat:=if x==[43]||x==[45]||x==[110,111,116]||x==[98,110,111,116]then 10 else 0
def lf(x:List UInt8):Nat:=if decide (0<bn x)&&decide (sd x≠1)then bn x+1 else bn x
def rt(x:List UInt8):Nat:=if decide (0<bn x)&&decide (sd x≠2)then bn x+1 else bn x
theorem qt1: ∀(T:List (List (List UInt8))) (i:Nat) (x:List UInt8),bnr T i x=0\/(i<=bnr T i x/\bnr T i x<i+T.length)
 | [],_,_=>.inl rfl
 | r::t,i,x=>by
  simp only[bnr]
  split
  ·exact .inr ⟨zA _,by simp⟩
  ·rcases qt1 t (i+1) x with h | ⟨h1,h2⟩
   ·exact .inl h
   ·exact .inr ⟨by omega,by simp only[List.length_cons];omega⟩
theorem qu0(x:List UInt8):bn x<=9:=by
 rcases qt1 opTab 0 x with h | ⟨-,h⟩
 ·unfold bn;omega
 ·have:opTab.length=10:=rfl
  unfold bn;omega
theorem qqp{i:Nat}{r:List (List UInt8)}(h:opTab[i]?=some r)(j:Nat)(x:List UInt8):bnr (opTab.drop i) j x=if r.contains x then j else bnr (opTab.drop (i+1)) (j+1) x:=by
 have hi:i<opTab.length:=(List.getElem?_eq_some_iff.1 h).1
 have h2:opTab[i]=r:=(List.getElem?_eq_some_iff.1 h).2
 rw[List.drop_eq_getElem_cons hi,h2]
 rfl
theorem sd_at(x:List UInt8):sdt[bn x]?=some (sd x):=by
 have h:=qu0 x
 unfold sd
 rw[List.getD_eq_getElem?_getD,List.getElem?_eq_getElem (show bn x<sdt.length from by show bn x<10;omega)]
 rfl
def TbAt(W:World)(g:Nat):Prop:=
 ∀i r,opTab[i]?=some r->W.cell? ⟨g+10,i,none⟩=some (.slice (some ⟨g+i,0,none⟩) r.length r.length)/\ ∀k x,r[k]?=some x->W.cell? ⟨g+i,k,none⟩=some (.string ⟨x.toArray⟩)
def Keeps(P:Nat->Prop)(W W':World):Prop:=W.heap.size<=W'.heap.size/\ ∀g,P g->g<W.heap.size->W'.heap[g]?=W.heap[g]?
theorem Keeps.refl(P:Nat->Prop)(W:World):Keeps P W W:=⟨zA _,fun _ _ _=>rfl⟩
theorem Keeps.trans{P:Nat->Prop}{A B C:World}(h:Keeps P A B)(k:Keeps P B C):Keeps P A C:=
 ⟨Nat.le_trans h.1 k.1,fun g hp hg=>(k.2 g hp (zB hg h.1)).trans (h.2 g hp hg)⟩
theorem qax{P:Nat->Prop}{W W':World}(hb:Below W.heap.size W W'):Keeps P W W':=⟨hb.size,fun g _ hg=>hb.block g hg⟩
theorem qno{P:Nat->Prop}(W:World){B:Nat}(hB: ¬P B)(i:Nat)(u:Value):Keeps P W (W.setCell ⟨B,i,none⟩ u):=
 ⟨by simp,fun g hp _=>Below.heap_setCell _ _ _ _ (by intro e;exact hB (by have e:g=B:=e;rw[<-e];exact hp))⟩
theorem qdo{P:Nat->Prop}{W W':World}(h:Keeps P W W'){g j:Nat}(hp:P g)(hg:g<W.heap.size):W'.cell? ⟨g,j,none⟩=W.cell? ⟨g,j,none⟩:=by
 unfold World.cell?
 simp only
 rw[h.2 g hp hg]
def StIn(W:World)(P:Nat->Prop)(v:Value)(L:List ByteArray):Prop:=
 ∃a cap,v=.slice a L.length cap/\(0<L.length-> ∃g o,a=some ⟨g,o,none⟩/\P g/\g<W.heap.size/\ ∀i x,L[i]?=some x->W.cell? ⟨g,o+i,none⟩=some (.string x))
theorem StIn.at{W:World}{P:Nat->Prop}{v:Value}{L:List ByteArray}(h:StIn W P v L):StAt W v L:=by
 obtain⟨a,cap,h1,h2⟩:=h
 refine⟨a,cap,h1,fun h0=>?_⟩
 obtain⟨g,o,g1,-,g3,g4⟩:=h2 h0
 exact⟨g,o,g1,g3,g4⟩
theorem StIn.keep{W W':World}{P:Nat->Prop}(hk:Keeps P W W'){v:Value}{L:List ByteArray}(h:StIn W P v L):StIn W' P v L:=by
 obtain⟨a,cap,h1,h2⟩:=h
 refine⟨a,cap,h1,fun h0=>?_⟩
 obtain⟨g,o,g1,g2,g3,g4⟩:=h2 h0
 exact⟨g,o,g1,g2,zB g3 hk.1,fun i x hx=>(qdo hk g2 g3).trans (g4 i x hx)⟩
def SlIn(W:World)(P:Nat->Prop)(v:Value)(n:Nat)(cs:Nat->List Value):Prop:=
 ∃a cap,v=.slice a n cap/\(0<n-> ∃g o,a=some ⟨g,o,none⟩/\P g/\g<W.heap.size/\ ∀i,i<n-> ∀j x,(cs i)[j]?=some x->W.cell? ⟨g,o+i*7+j,none⟩=some x)
theorem SlIn.at{W:World}{P:Nat->Prop}{v:Value}{n:Nat}{cs:Nat->List Value}(h:SlIn W P v n cs):SlAt W v n cs:=by
 obtain⟨a,cap,h1,h2⟩:=h
 refine⟨a,cap,h1,fun h0=>?_⟩
 obtain⟨g,o,g1,-,g3,g4⟩:=h2 h0
 exact⟨g,o,g1,g3,g4⟩
theorem SlIn.keep{W W':World}{P:Nat->Prop}(hk:Keeps P W W'){v:Value}{n:Nat}{cs:Nat->List Value}(h:SlIn W P v n cs):SlIn W' P v n cs:=by
 obtain⟨a,cap,h1,h2⟩:=h
 refine⟨a,cap,h1,fun h0=>?_⟩
 obtain⟨g,o,g1,g2,g3,g4⟩:=h2 h0
 exact⟨g,o,g1,g2,zB g3 hk.1,fun i hi j x hx=>(qdo hk g2 g3).trans (g4 i hi j x hx)⟩
inductive NdIn (W:World) (P:Nat->Prop):List Value->Nd->Prop where
 | mk (k:Int) (t:ByteArray) (l:List Nd) (br bl:Bool) (no ta:List ByteArray) (lv nv tv:Value) (cs:Nat->List Value) (hn:StIn W P nv no) (ht:StIn W P tv ta) (hl:SlIn W P lv l.length cs) (hc: ∀i x,l[i]?=some x->NdIn W P (cs i) x):
  NdIn W P [.int .i64 k,.string t,lv,.bool br,.bool bl,nv,tv] (.mk k t l br bl no ta)
theorem NdIn.nd{W:World}{P:Nat->Prop}{c:List Value}{n:Nd}(h:NdIn W P c n):NdAt W c n:=by
 induction h with
 | mk k t l br bl no ta lv nv tv cs hn ht hl hc ih=>exact .mk k t l br bl no ta lv nv tv cs hn.at ht.at hl.at ih
theorem NdIn.keep{W W':World}{P:Nat->Prop}(hk:Keeps P W W'){c:List Value}{n:Nd}(h:NdIn W P c n):NdIn W' P c n:=by
 induction h with
 | mk k t l br bl no ta lv nv tv cs hn ht hl hc ih=>exact .mk k t l br bl no ta lv nv tv cs (hn.keep hk) (ht.keep hk) (hl.keep hk) ih
end Go.Proofs.YtdhadeeajgoedaaGreat
