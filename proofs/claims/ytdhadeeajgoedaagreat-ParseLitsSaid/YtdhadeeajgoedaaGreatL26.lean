import Derived.Test.YtdhadeeajgoedaaGreatL23
import Derived.OneCell
import Derived.Laws.AppendOwnNone
set_option maxRecDepth 100000
set_option maxHeartbeats 4000000
set_option linter.all false
open Array renaming getElem?_toList→zA
open List renaming eq_nil_of_length_eq_zero→zB,flatten_cons→zC,getD_eq_getElem?_getD→zD,getElem?_append_left→zE,getElem?_append_right→zF,getElem?_eq_getElem→zG,getElem?_map→zH,getElem?_range→zI,getElem?_take_of_lt→zJ,length_append→zK,range→zL
open Nat renaming eq_zero_or_pos→zM,le_refl→zO,zero_add→zP
open Go.World renaming ownsRow_nil→zQ
namespace Go.Proofs.YtdhadeeajgoedaaGreat
open Go.RowKit Go.PlainAid
theorem ql3:(Tryz.prog.info? 9).map (fun i=>(i.zero,i.size,i.bytes))=some (some (.string { data:= #[] }),1,16):=by kernel_rfl
def Txs(W:World)(base:Nat)(v:Value)(L:List ByteArray):Prop:=W.ownsRow base 9 1 v L.length (L.map Value.string)
theorem qfq{W:World}{base:Nat}{v:Value}{L:List ByteArray}(h:Txs W base v L):StAt W v L:=by
 obtain⟨h1,⟨rfl,h2⟩ | ⟨g,cap,cur,rfl,hb,hg,hn,hc,hz,ht⟩⟩:=h
 ·exact⟨none,0,by rw[h2],fun h0=>by omega⟩
 ·refine⟨some ⟨g,0,none⟩,cap,rfl,fun _=>⟨g,0,rfl,lt_of_block hg,fun i x hx=>?_⟩⟩
  have hi:i<L.length:=(List.getElem?_eq_some_iff.1 hx).1
  rw[cell_of_row W g (0+i) _ _ _ hg]
  have h3:(L.map Value.string)[i]?=some (.string x):=by rw[zH,hx];rfl
  rw[<-ht,zJ (by omega),zA]at h3
  rw[zP];exact h3
theorem qjd{W:World}{b b':Nat}{v:Value}{L:List ByteArray}(h:Txs W b v L)(hb:b'<=b):Txs W b' v L:=by
 obtain⟨h1,h2 | ⟨g,cap,cur,h3,h4,h5,h6⟩⟩:=h
 ·exact⟨h1,.inl h2⟩
 ·exact⟨h1,.inr ⟨g,cap,cur,h3,Nat.le_trans hb h4,h5,h6⟩⟩
theorem Txs.bel{W W':World}{b:Nat}{v:Value}{L:List ByteArray}(h:Txs W b v L)(hb:Below W.heap.size W W'):Txs W' b v L:=qc9 h hb
theorem qei(w:World)(b:Nat):Txs w b (.slice none 0 0) []:=zQ _ _ _ _
theorem qbd{w:World}{ops:Array Oper}{rest:List Oper}{o:Oper}{a:Act}{Q:Exit->Act->World->Prop}(hgd:o.guard=none)(s x:Operand)
 (ho:o.op=.call { callee:=.builtin .append,args:= #[s,x],argTypes:= #[22,22] })
 (base:Nat) (v:Value) (I:List ByteArray) (hs:a.eval s=v) (hown:Txs w base v I) (sv:Value) (L:List ByteArray) (hx:a.eval x=sv) (hst:StAt w sv L)
 (h63:I.length+L.length<=1048576) (hbase:base<=w.heap.size)
 (h: ∀v' w',Txs w' base v' (I++L)->w.grownBy w' v.ownBlock->wpList Tryz.prog ops Q rest (a.put o.dst v') w'):wpList Tryz.prog ops Q (o::rest) a w:=by
 obtain⟨i0,hi,hz0,hz1,hz2⟩:=info_parts ql3
 obtain⟨ao,cap,rfl,hr⟩:=hst
 cases ao with
 | some ad=>
  refine wpList_append_own w hgd s x 22 ho base 9 i0 (.string { data:= #[] }) 1 16 Tryz.underlying22 hi hz0 hz1 hz2 rfl (by decide) v I.length (I.map Value.string) hs hown ad L.length cap (L.map Value.string) hx (by simp) ?_ (by intro u hu;simp only[List.mem_map]at hu;obtain⟨y,-,rfl⟩:=hu;rfl) (by unfold maxLen;omega) (by omega) hbase ?_
  ·intro j u hj
   rw[zH]at hj
   obtain⟨y,hy,rfl⟩:=Option.map_eq_some_iff.1 hj
   have hl:j<L.length:=(List.getElem?_eq_some_iff.1 hy).1
   obtain⟨g,o',e,-,hc⟩:=hr (by omega)
   cases e
   have:=hc j y hy
   rcases zM j with h0 | h0
   ·subst h0
    simpa[Addr.add]using this
   ·have h1: ¬j=0:=by omega
    simpa[Addr.add,h1]using this
  ·intro v' w' h1 h2 _
   refine h v' w' ?_ h2
   unfold Txs
   rw[zK,List.map_append]
   exact h1
 | none=>
  have h0:L=[]:=by
   cases L with
   | nil=>rfl
   | cons y t=>obtain⟨g,o',e,-⟩:=hr (by simp);cases e
  subst h0
  refine wpList_plain hgd fun K hK=>?_
  have hrun:(Builtin.append_ #[22,22] o.type #[v,.slice none 0 cap]).run Tryz.prog w=.ok v w:=by
   rcases hown.2 with⟨rfl,_⟩ | ⟨g,c,cur,rfl,_,_,hnc,_⟩
   ·simp[Builtin.append_,run_underlying Tryz.underlying22,sizeOf,typeInfo,hi,Builtin.lenOf,Builtin.firstCells]
   ·simp[Builtin.append_,run_underlying Tryz.underlying22,sizeOf,typeInfo,hi,Builtin.lenOf,Builtin.firstCells,hnc,storeCells]
  unfold Oper.wp
  simp[execOp,ho,resolve,invoke,builtin,hs,hx,hrun,Result.andThen]
  exact hK _ _ (h v w (by rw[List.append_nil];exact hown) (World.grownBy.refl w _))
def qm7(w0:World)(L:List ByteArray)(e:Ending)(w':World):Prop:= ∃v,e=.returned v/\Txs w' w0.heap.size v L/\Below w0.heap.size w0 w'
theorem qd2{Z W W':World}{v:Value}{L:List ByteArray}(hb:Below Z.heap.size Z W)(h:Txs W Z.heap.size v L)(hg:W.grownBy W' v.ownBlock):Below Z.heap.size Z W':=
 hb.grown hg hb.size (fun j e=>(h.lt j e).1)
theorem qc6{P:Program}(w:World)(base:Nat)(t ty e:TypeId)(i:TypeInfo)(z:Value)(size bytes:Nat)(ht:P.underlying t=some (.slice e))(hi:P.info? e=some i)(hz:i.zero=some z)
 (hsize:i.size=size) (hby:i.bytes=bytes) (hzs:z.cells.size=size) (hsz:0<size)
 (v:Value) (n:Nat) (xs:List Value) (hown:w.ownsRow base e size v n xs)
 (ad:Addr) (m c:Nat) (news:List Value) (hl:news.length=m*size) (hnews: ∀j u,news[j]?=some u->w.cell? (ad.add j)=some u) (h1: ∀u∈news,u.oneCell'=true)
 (h63:n+m<=maxLen) (hbytes:(n+m)*bytes<=140737488355328) (hbase:base<=w.heap.size):
 ∃v' w',(Builtin.append_ #[t,t] ty #[v,.slice (some ad) m c]).run P w=.ok v' w'/\w'.ownsRow base e size v' (n+m) (xs++news)/\w.grownBy w' v.ownBlock/\(v'.ownBlock=v.ownBlock\/ ∀g,v'.ownBlock=some g->w.heap.size<=g):=by
 obtain⟨v',w',hr,h2,h3,h4⟩:=run_append_own (P:=P) w base t ty e i z size bytes ht hi hz hsize hby hzs hsz v n xs hown ad m c news hl hnews h1 h63 hbytes hbase
 refine⟨v',w',hr,h2,h3,?_⟩
 have hown':=hown
 obtain⟨hxl,⟨rfl,rfl⟩ | ⟨g,cap,cur,rfl,hbg,hg,hnc,hcm,hcs,htake⟩⟩:=hown'
 ·right
  have hx0:xs=[]:=zB (by simpa using hxl)
  subst hx0
  obtain⟨v2,w2,hr2,k2,-,-⟩:=run_append_own (P:=P) w w.heap.size t ty e i z size bytes ht hi hz hsize hby hzs hsz (.slice none 0 0) 0 [] (zQ _ _ _ _) ad m c news hl hnews h1 h63 hbytes (zO _)
  rw[hr]at hr2
  injection hr2 with e1 e2
  subst e1 e2
  exact fun g hg=>(k2.lt g hg).1
 ·by_cases hroom:n+m<=cap
  ·left
   have hfit:n*i.size+news.length<=cur.size:=by rw[hsize,hl,hcs,<-Nat.add_mul];exact Nat.mul_le_mul_right _ hroom
   have hr2:=run_append_room (P:=P) w t ty e i ht hi g n cap cur hg ad m c news (by rw[hsize];exact hl) hnews h1 hroom hfit
   rw[hr]at hr2
   injection hr2 with e1 e2
   subst e1
   rfl
  ·right
   have holds: ∀j u,xs[j]?=some u->w.cell? ((⟨g,0,none⟩:Addr).add j)=some u:=hown.cells (g:=g) rfl
   have hr2:=run_append_grow (P:=P) w t ty e i z ht hi hz ⟨g,0,none⟩ n cap xs (by rw[hsize];exact hxl) holds ad m c news (by rw[hsize];exact hl) hnews (by omega) (by simp only[maxLen]at h63;omega) (growslice_fits (by omega) (by rw[hby];exact hbytes))
   rw[hr]at hr2
   injection hr2 with e1 e2
   subst e1
   intro g' hg'
   simp only[Value.ownBlock,Option.some.injEq]at hg'
   omega
theorem infoNd:(Tryz.prog.info? 29).map (fun i=>(i.zero,i.size,i.bytes))=some (some (.agg #[.int .i64 0,.string { data:= #[] },.slice none 0 0,.bool false,.bool false,.slice none 0 0,.slice none 0 0]),7,104):=by kernel_rfl
theorem qye:(Tryz.prog.info? 29).map (·.size)=some 7:=by kernel_rfl
theorem NdIn.seven{W:World}{P:Nat->Prop}{c:List Value}{n:Nd}(h:NdIn W P c n):c.length=7/\ ∀u∈c,u.oneCell'=true:=by
 cases h with
 | mk k t l br bl no ta lv nv tv cs hn ht hl hc=>
  obtain⟨_,_,rfl,-⟩:=hn
  obtain⟨_,_,rfl,-⟩:=ht
  obtain⟨_,_,rfl,-⟩:=hl
  refine⟨rfl,fun u hu=>?_⟩
  simp only[List.mem_cons,List.not_mem_nil,or_false]at hu
  rcases hu with rfl | rfl | rfl | rfl | rfl | rfl | rfl<;>rfl
theorem StIn.weak{W:World}{P P':Nat->Prop}{v:Value}{L:List ByteArray}(h:StIn W P v L)(hp: ∀g,P g->g<W.heap.size->P' g):StIn W P' v L:=by
 obtain⟨a,cap,h1,h2⟩:=h
 refine⟨a,cap,h1,fun h0=>?_⟩
 obtain⟨g,o,g1,g2,g3,g4⟩:=h2 h0
 exact⟨g,o,g1,hp g g2 g3,g3,g4⟩
theorem SlIn.weak{W:World}{P P':Nat->Prop}{v:Value}{n:Nat}{cs:Nat->List Value}(h:SlIn W P v n cs)(hp: ∀g,P g->g<W.heap.size->P' g):SlIn W P' v n cs:=by
 obtain⟨a,cap,h1,h2⟩:=h
 refine⟨a,cap,h1,fun h0=>?_⟩
 obtain⟨g,o,g1,g2,g3,g4⟩:=h2 h0
 exact⟨g,o,g1,hp g g2 g3,g3,g4⟩
theorem NdIn.weak{W:World}{P P':Nat->Prop}{c:List Value}{n:Nd}(h:NdIn W P c n)(hp: ∀g,P g->g<W.heap.size->P' g):NdIn W P' c n:=by
 induction h with
 | mk k t l br bl no ta lv nv tv cs hn ht hl hc ih=>exact .mk k t l br bl no ta lv nv tv cs (hn.weak hp) (ht.weak hp) (hl.weak hp) ih
def RowIn(W:World)(P:Nat->Prop)(v:Value)(T:List Nd):Prop:= ∃cs,SlIn W P v T.length cs/\ ∀i x,T[i]?=some x->NdIn W P (cs i) x
theorem RowIn.keep{W W':World}{P:Nat->Prop}(hk:Keeps P W W'){v:Value}{T:List Nd}(h:RowIn W P v T):RowIn W' P v T:=by
 obtain⟨cs,h1,h2⟩:=h
 exact⟨cs,h1.keep hk,fun i x hx=>(h2 i x hx).keep hk⟩
theorem RowIn.nil(W:World)(P:Nat->Prop):RowIn W P (.slice none 0 0) []:=⟨fun _=>[],⟨none,0,rfl,fun h=>absurd h (by simp)⟩,fun i x hx=>by simp at hx⟩
theorem NdIn.of_row{W:World}{P:Nat->Prop}(k:Int)(t:ByteArray)(br bl:Bool){no ta:List ByteArray}{l:List Nd}{lv nv tv:Value}(hn:StIn W P nv no)(ht:StIn W P tv ta)(hl:RowIn W P lv l):
 NdIn W P [.int .i64 k,.string t,lv,.bool br,.bool bl,nv,tv] (.mk k t l br bl no ta):=by
 obtain⟨cs,h1,h2⟩:=hl
 exact .mk k t l br bl no ta lv nv tv cs hn ht h1 h2
def OwnN(W:World)(P:Nat->Prop)(base:Nat)(v:Value)(T:List Nd):Prop:=
 ∃css:List (List Value),css.length=T.length/\(∀(i:Nat) (c:List Value) (x:Nd),css[i]?=some c->T[i]?=some x->NdIn W (fun g=>P g/\v.ownBlock≠some g) c x)/\W.ownsRow base 29 7 v T.length css.flatten/\ ∀g,v.ownBlock=some g->P g
theorem OwnN.nil(W:World)(P:Nat->Prop)(base:Nat):OwnN W P base (.slice none 0 0) []:=
 ⟨[],rfl,fun i c x h=>by simp at h,zQ _ _ _ _,fun g h=>by simp[Value.ownBlock]at h⟩
theorem qu4: ∀(css:List (List Value)) (_: ∀c∈css,c.length=7) (i:Nat) (c:List Value) (j:Nat),css[i]?=some c->j<7->css.flatten[i*7+j]?=c[j]?
 | [],_,_,_,_,h,_=>by simp at h
 | d::t,hs,0,c,j,h,hj=>by
  simp only[List.getElem?_cons_zero,Option.some.injEq]at h
  subst h
  rw[zC,zE (by rw[hs d (by simp)];omega),Nat.zero_mul,zP]
 | d::t,hs,i+1,c,j,h,hj=>by
  simp only[List.getElem?_cons_succ]at h
  have hd:=hs d (by simp)
  rw[zC,zF (by rw[hd];omega),hd,show(i+1)*7+j-7=i*7+j by omega]
  exact qu4 t (fun c hc=>hs c (by simp[hc])) i c j h hj
theorem qdt: ∀(css:List (List Value)) (_: ∀c∈css,c.length=7),css.flatten.length=css.length*7
 | [],_=>rfl
 | d::t,hs=>by
  rw[zC,zK,qdt t (fun c hc=>hs c (by simp[hc])),hs d (by simp),List.length_cons]
  omega
theorem OwnN.sevens{W:World}{P:Nat->Prop}{T:List Nd}{css:List (List Value)}(hl:css.length=T.length)(hc: ∀(i:Nat) (c:List Value) (x:Nd),css[i]?=some c->T[i]?=some x->NdIn W P c x): ∀c∈css,c.length=7/\ ∀u∈c,u.oneCell'=true:=by
 intro c hm
 obtain⟨i,hi,rfl⟩:=List.getElem_of_mem hm
 exact(hc i _ T[i] (zG hi) (zG (by omega))).seven
theorem OwnN.row{W:World}{P:Nat->Prop}{base:Nat}{v:Value}{T:List Nd}(h:OwnN W P base v T):RowIn W P v T:=by
 obtain⟨css,hl,hc,⟨hx,⟨rfl,h0⟩ | ⟨g,cap,cur,rfl,hb,hg,hn,hcm,hz,ht⟩⟩,hp⟩:=h
 ·have:T=[]:=zB h0
  subst this
  exact RowIn.nil W P
 ·have hsv:=OwnN.sevens hl hc
  refine⟨fun i=>css.getD i [],⟨some ⟨g,0,none⟩,cap,rfl,fun _=>⟨g,0,rfl,hp g rfl,lt_of_block hg,fun i hi j x hj=>?_⟩⟩,fun i x hx=>?_⟩
  ·have hci:css[i]?=some css[i]:=zG (by omega)
   have hj:css[i][j]?=some x:=by simpa[zD,hci]using hj
   have hj7:j<7:=by have:=(List.getElem?_eq_some_iff.1 hj).1;have:=(hsv css[i] (List.getElem_mem _)).1;omega
   have hf:=qu4 css (fun c hc=>(hsv c hc).1) i css[i] j hci hj7
   rw[hj,<-ht,zJ (by omega),zA]at hf
   rw[cell_of_row W g (0+i*7+j) _ _ _ hg,zP]
   exact hf
  ·have hi:i<T.length:=(List.getElem?_eq_some_iff.1 hx).1
   have hci:css[i]?=some css[i]:=zG (by omega)
   have:=hc i css[i] x hci hx
   show NdIn W P (css.getD i []) x
   rw[show css.getD i []=css[i]by simp[zD,hci]]
   exact this.weak (fun g hg _=>hg.1)
theorem OwnN.own{W:World}{P:Nat->Prop}{base:Nat}{v:Value}{T:List Nd}(h:OwnN W P base v T): ∀g,v.ownBlock=some g->P g:=by
 obtain⟨css,-,-,-,h4⟩:=h
 exact h4
theorem OwnN.slice{W:World}{P:Nat->Prop}{base:Nat}{v:Value}{T:List Nd}(h:OwnN W P base v T): ∃a c,v=.slice a T.length c:=by
 obtain⟨css,-,-,⟨-,⟨rfl,h0⟩ | ⟨g,cap,cur,rfl,-⟩⟩,-⟩:=h
 ·exact⟨none,0,by rw[h0]⟩
 ·exact⟨_,_,rfl⟩
theorem OwnN.lt{W:World}{P:Nat->Prop}{base:Nat}{v:Value}{T:List Nd}(h:OwnN W P base v T): ∀g,v.ownBlock=some g->base<=g/\g<W.heap.size:=by
 obtain⟨css,-,-,h3,-⟩:=h
 exact h3.lt
theorem OwnN.below{W W':World}{P:Nat->Prop}{base:Nat}{v:Value}{T:List Nd}(h:OwnN W P base v T)(hb:Below W.heap.size W W'):OwnN W' P base v T:=by
 obtain⟨css,h1,h2,h3,h4⟩:=h
 exact⟨css,h1,fun i c x hc hx=>(h2 i c x hc hx).keep (qay hb),qc9 h3 hb,h4⟩
theorem OwnN.set{W:World}{P:Nat->Prop}{base:Nat}{v:Value}{T:List Nd}(h:OwnN W P base v T){b:Nat}(hb: ¬P b)(j:Nat)(u:Value):OwnN (W.setCell ⟨b,j,none⟩ u) P base v T:=by
 obtain⟨css,h1,h2,h3,h4⟩:=h
 exact⟨css,h1,fun i c x hc hx=>(h2 i c x hc hx).keep (qpw W (fun hp=>hb hp.1) j u),ownsRow_setCell_other h3 (fun e=>hb (h4 _ e)) u,h4⟩
theorem OwnN.weak{W:World}{P P':Nat->Prop}{base base':Nat}{v:Value}{T:List Nd}(h:OwnN W P base v T)(hp: ∀g,P g->g<W.heap.size->P' g)(hb:base'<=base):OwnN W P' base' v T:=by
 obtain⟨css,h1,h2,h3,h4⟩:=h
 refine⟨css,h1,fun i c x hc hx=>(h2 i c x hc hx).weak (fun g hg hl=>⟨hp g hg.1 hl,hg.2⟩),?_,fun g hg=>hp g (h4 g hg) (h3.lt g hg).2⟩
 obtain⟨k1,k2 | ⟨g,cap,cur,k3,k4,k5⟩⟩:=h3
 ·exact⟨k1,.inl k2⟩
 ·exact⟨k1,.inr ⟨g,cap,cur,k3,Nat.le_trans hb k4,k5⟩⟩
theorem OwnN.made{W:World}{P:Nat->Prop}{css:List (List Value)}{T:List Nd}(hl:css.length=T.length)(hc: ∀(i:Nat) (c:List Value) (x:Nd),css[i]?=some c->T[i]?=some x->NdIn W P c x)(cur:Array Value)(hcur:cur.toList=css.flatten)(hP:P W.heap.size)(hm:T.length<=maxLen)(b:Nat)(hb:b=W.heap.size):
 OwnN (W.alloc (.cells cur 29)) P W.heap.size (.slice (some ⟨b,0,none⟩) T.length T.length) T:=by
 subst hb
 have hsv:=OwnN.sevens hl hc
 have hfl:=qdt css (fun c hc=>(hsv c hc).1)
 refine⟨css,hl,fun i c x h1 h2=>?_,⟨by rw[hfl,hl],.inr ⟨W.heap.size,T.length,cur,rfl,zO _,?_,zO _,hm,?_,?_⟩⟩,?_⟩
 ·refine((hc i c x h1 h2).weak (P':=fun g=>P g/\Value.ownBlock (.slice (some ⟨W.heap.size,0,none⟩) T.length T.length)≠some g) (fun g hg hlt=>⟨hg,?_⟩)).keep (qay (qa1 _ _))
  simp only[Value.ownBlock,ne_eq,Option.some.injEq]
  omega
 ·show(W.heap.push _)[W.heap.size]?=_
  rw[Array.getElem?_push,if_pos rfl]
 ·rw[<-Array.length_toList,hcur,hfl,hl]
 ·rw[hcur,List.take_of_length_le (by rw[hfl,hl];exact zO _)]
 ·intro g hg
  simp only[Value.ownBlock,Option.some.injEq]at hg
  rw[<-hg];exact hP
theorem qu5(a b:List (List Value)):(a++b).flatten=a.flatten++b.flatten:=List.flatten_append
theorem qj8{w:World}(ty:TypeId)(P:Nat->Prop)(base:Nat)(v:Value)(I:List Nd)(hown:OwnN w P base v I)(sv:Value)(L:List Nd)(hst:RowIn w (fun g=>P g/\v.ownBlock≠some g) sv L)
 (h63:I.length+L.length<=1099511627776) (hbase:base<=w.heap.size) (hfresh: ∀g,w.heap.size<=g->P g):
 ∃v' w',(Builtin.append_ #[27,27] ty #[v,sv]).run Tryz.prog w=.ok v' w'/\OwnN w' P base v' (I++L)/\w.grownBy w' v.ownBlock/\(v'.ownBlock=v.ownBlock\/ ∀g,v'.ownBlock=some g->w.heap.size<=g):=by
 obtain⟨i0,hi,hz0,hz1,hz2⟩:=info_parts infoNd
 obtain⟨cs,⟨ao,cap,rfl,hr⟩,hcs⟩:=hst
 obtain⟨css,k1,k2,k3,k4⟩:=hown
 cases ao with
 | some ad=>
  have hdl:((zL L.length).map cs).length=L.length:=by simp
  have hdc: ∀(i:Nat) (c:List Value) (x:Nd),((zL L.length).map cs)[i]?=some c->L[i]?=some x->NdIn w (fun g=>P g/\v.ownBlock≠some g) c x:=by
   intro i c x hc hx
   have hi:i<L.length:=(List.getElem?_eq_some_iff.1 hx).1
   rw[zH,zI hi]at hc
   simp only[Option.map_some,Option.some.injEq]at hc
   rw[<-hc]
   exact hcs i x hx
  have hsv:=OwnN.sevens hdl hdc
  have hfl:=qdt _ (fun c hc=>(hsv c hc).1)
  have hnews: ∀(j:Nat) (u:Value),((zL L.length).map cs).flatten[j]?=some u->w.cell? (ad.add j)=some u:=by
   intro j u hj
   have hj':=(List.getElem?_eq_some_iff.1 hj).1
   rw[hfl,hdl]at hj'
   have hq:j/7<L.length:=by omega
   obtain⟨g,o',e,-,-,hc⟩:=hr (by omega)
   cases e
   have hci:((zL L.length).map cs)[j/7]?=some (cs (j/7)):=by rw[zH,zI hq];rfl
   have hf:=qu4 _ (fun c hc=>(hsv c hc).1) (j/7) (cs (j/7)) (j % 7) hci (by omega)
   rw[show j/7*7+j % 7=j by omega,hj]at hf
   have:=hc (j/7) hq (j % 7) u hf.symm
   rw[show o'+j/7*7+j % 7=o'+j by omega]at this
   rcases zM j with h0 | h0
   ·subst h0
    simpa[Addr.add]using this
   ·have h1: ¬j=0:=by omega
    simpa[Addr.add,h1]using this
  have hones: ∀u∈((zL L.length).map cs).flatten,u.oneCell'=true:=by
   intro u hu
   obtain⟨c,hc,huc⟩:=List.mem_flatten.1 hu
   exact(hsv c hc).2 u huc
  obtain⟨v',w',hrun,h1,h2,h3⟩:=qc6 (P:=Tryz.prog) w base 27 ty 29 i0 _ 7 104 Tryz.underlying27 hi hz0 hz1 hz2 rfl (by decide) v I.length css.flatten k3 ad L.length cap ((zL L.length).map cs).flatten (by rw[hfl,hdl]) hnews hones (by unfold maxLen;omega) (by omega) hbase
  refine⟨v',w',hrun,⟨css++(zL L.length).map cs,by rw[zK,zK,hdl,k1],fun i c x hc hx=>?_,by rw[zK,qu5];exact h1,fun g hg=>?_⟩,h2,h3⟩
  ·have hn:NdIn w (fun g=>P g/\v.ownBlock≠some g) c x:=by
    by_cases hlt:i<css.length
    ·rw[zE hlt]at hc
     rw[zE (by omega)]at hx
     exact k2 i c x hc hx
    ·rw[zF (by omega)]at hc
     rw[zF (by omega),<-k1]at hx
     exact hdc _ c x hc hx
   have hkp:Keeps (fun g=>P g/\v.ownBlock≠some g) w w':=⟨h2.size,fun g hg hlt=>h2.block g hlt (fun e=>hg.2 e.symm)⟩
   rcases h3 with h3 | h3
   ·rw[h3];exact hn.keep hkp
   ·exact(hn.weak (P':=fun g=>(P g/\v.ownBlock≠some g)/\v'.ownBlock≠some g) (fun g hg hlt=>⟨hg,fun e=>by have:=h3 g e;omega⟩)).keep ⟨h2.size,fun g hg hlt=>h2.block g hlt (fun e=>hg.1.2 e.symm)⟩ |>.weak (fun g hg _=>⟨hg.1.1,hg.2⟩)
  ·rcases h3 with h3 | h3
   ·exact k4 g (by rw[<-h3];exact hg)
   ·exact hfresh g (h3 g hg)
 | none=>
  have h0:L=[]:=by
   cases L with
   | nil=>rfl
   | cons y t=>obtain⟨g,o',e,-⟩:=hr (by simp);cases e
  subst h0
  have hrun:(Builtin.append_ #[27,27] ty #[v,.slice none 0 cap]).run Tryz.prog w=.ok v w:=by
   rcases k3.2 with⟨rfl,_⟩ | ⟨g,c,cur,rfl,_,_,hnc,_⟩
   ·simp[Builtin.append_,run_underlying Tryz.underlying27,sizeOf,typeInfo,hi,Builtin.lenOf,Builtin.firstCells]
   ·simp[Builtin.append_,run_underlying Tryz.underlying27,sizeOf,typeInfo,hi,Builtin.lenOf,Builtin.firstCells,hnc,storeCells]
  exact⟨v,w,hrun,by rw[List.append_nil];exact⟨css,k1,k2,k3,k4⟩,World.grownBy.refl w _,.inl rfl⟩
theorem qcl{w:World}{ops:Array Oper}{o:Oper}{a:Act}{K:Act->World->Prop}{Q:Exit->Act->World->Prop}{E:Prop}(hgd:o.guard=none)(s x:Operand)
 (ho:o.op=.call { callee:=.builtin .append,args:= #[s,x],argTypes:= #[27,27] })
 (P:Nat->Prop) (base:Nat) (v:Value) (I:List Nd) (hs:a.eval s=v) (hown:OwnN w P base v I) (sv:Value) (L:List Nd) (hx:a.eval x=sv) (hst:RowIn w (fun g=>P g/\v.ownBlock≠some g) sv L)
 (h63:I.length+L.length<=1099511627776) (hbase:base<=w.heap.size) (hfresh: ∀g,w.heap.size<=g->P g)
 (h: ∀v' w',OwnN w' P base v' (I++L)->w.grownBy w' v.ownBlock->(v'.ownBlock=v.ownBlock\/ ∀g,v'.ownBlock=some g->w.heap.size<=g)->K (a.put o.dst v') w'):
 if Region.wanted o (yielded ops a.tmps)=true then Oper.wp Tryz.prog o a w K Q else E:=by
 obtain⟨v',w',hrun,h1,h2,h3⟩:=qj8 o.type P base v I hown sv L hst h63 hbase hfresh
 have hw:Region.wanted o (yielded ops a.tmps)=true:=by simp[Region.wanted,hgd]
 rw[if_pos hw]
 unfold Oper.wp
 simp[execOp,ho,resolve,invoke,builtin,hs,hx,hrun,Result.andThen]
 exact h v' w' h1 h2 h3
end Go.Proofs.YtdhadeeajgoedaaGreat
