import Derived.Test.YtdhadeeajgoedaaGreatL44
set_option maxRecDepth 100000
set_option maxHeartbeats 4000000
set_option linter.all false
namespace Go.Proofs.YtdhadeeajgoedaaGreat
open Go.RowKit Go.PlainAid
def Nd.bk:Nd->Bool | .mk _ _ _ br _ _ _=>br
def Nd.bw:Nd->Bool | .mk _ _ _ _ bl _ _=>bl
def Nd.tl':Nd->List ByteArray | .mk _ _ _ _ _ _ ta=>ta
theorem qgr{W:World}{P:Nat->Prop}{c:Array Value}{x:Nd}(h:NdIn W P c.toList x):
 ∃la lc na nc va vc,c= #[.int .i64 x.kd,.string x.tx,.slice la x.ls.length lc,.bool x.bk,.bool x.bw,.slice na x.nof.length nc,.slice va x.tl'.length vc]/\
  RwIn W P (.slice la x.ls.length lc) x.ls/\StIn W P (.slice na x.nof.length nc) x.nof/\StIn W P (.slice va x.tl'.length vc) x.tl':=by
 obtain⟨c,rfl⟩: ∃l:List Value,c=l.toArray:=⟨c.toList,by simp⟩
 simp only at h
 cases h with
 | mk k t l br bl no ta lv nv tv cs q1 q2 q3 q4=>
  have h1:RwIn W P lv l:=⟨cs,q3,q4⟩
  obtain⟨la,lc,rfl,-⟩:=q3
  have h2:=q1
  have h3:=q2
  obtain⟨na,nc,rfl,-⟩:=q1
  obtain⟨va,vc,rfl,-⟩:=q2
  exact⟨la,lc,na,nc,va,vc,rfl,h1,h2,h3⟩
theorem rw_at{W:World}{P:Nat->Prop}{la:Option Addr}{n lc:Nat}{l:List Nd}(h:RwIn W P (.slice la n lc) l){i:Nat}{y:Nd}(hy:l[i]?=some y):
 ∃g o ka kc na nc va vc,la=some ⟨g,o,none⟩/\g<W.heap.size/\P g/\W.cell? ⟨g,o+i*7,none⟩=some (.int .i64 y.kd)/\W.cell? ⟨g,o+i*7+1,none⟩=some (.string y.tx)/\W.cell? ⟨g,o+i*7+2,none⟩=some (.slice ka y.ls.length kc)/\
  W.cell? ⟨g,o+i*7+3,none⟩=some (.bool y.bk)/\W.cell? ⟨g,o+i*7+4,none⟩=some (.bool y.bw)/\W.cell? ⟨g,o+i*7+5,none⟩=some (.slice na y.nof.length nc)/\W.cell? ⟨g,o+i*7+6,none⟩=some (.slice va y.tl'.length vc)/\
  RwIn W P (.slice ka y.ls.length kc) y.ls/\StIn W P (.slice na y.nof.length nc) y.nof/\StIn W P (.slice va y.tl'.length vc) y.tl':=by
 obtain⟨cs,⟨a,cap,h1,h2⟩,h3⟩:=h
 simp only[Value.slice.injEq]at h1
 obtain⟨rfl,rfl,rfl⟩:=h1
 have hi:i<l.length:=(List.getElem?_eq_some_iff.1 hy).1
 obtain⟨g,o,rfl,hp,hg,hc⟩:=h2 (by omega)
 obtain⟨ka,kc,na,nc,va,vc,he,q1,q2,q3⟩:=qgr (c:=(cs i).toArray) (by simpa using h3 i y hy)
 have he:cs i=[.int .i64 y.kd,.string y.tx,.slice ka y.ls.length kc,.bool y.bk,.bool y.bw,.slice na y.nof.length nc,.slice va y.tl'.length vc]:=by simpa using congrArg Array.toList he
 refine⟨g,o,ka,kc,na,nc,va,vc,rfl,hg,hp,?_,?_,?_,?_,?_,?_,?_,q1,q2,q3⟩
 ·exact hc i hi 0 _ (by rw[he];rfl)
 ·exact hc i hi 1 _ (by rw[he];rfl)
 ·exact hc i hi 2 _ (by rw[he];rfl)
 ·exact hc i hi 3 _ (by rw[he];rfl)
 ·exact hc i hi 4 _ (by rw[he];rfl)
 ·exact hc i hi 5 _ (by rw[he];rfl)
 ·exact hc i hi 6 _ (by rw[he];rfl)
theorem RwIn.len{W:World}{P:Nat->Prop}{la:Option Addr}{n lc:Nat}{l:List Nd}(h:RwIn W P (.slice la n lc) l):n=l.length:=by
 obtain⟨cs,⟨a,cap,h1,-⟩,-⟩:=h
 simp only[Value.slice.injEq]at h1
 exact h1.2.1
def qob:ByteArray:= { data:= #[97,32,43,32,98,32,42,32,99] }
def qxc:ByteArray:= { data:= #[120,44,10,10,121] }
def qte:List Tk3:=[(1,0,1),(9,2,3),(1,4,5),(9,6,7),(1,8,9)]
def qwq:List Tk3:=[(1,0,1),(9,1,2),(1,4,5)]
theorem qsv:qco qob=(qte,0):=by rw[qx9];decide+kernel
theorem t132_is:qco qxc=(qwq,0):=by rw[qx9];decide+kernel
theorem e131: ∃o y0 y1,pE qob qte (.expr 0) 0 5=some o/\o.p.i=5/\o.x.kd=14/\o.x.tx.data.toList=[43]/\o.x.ls=[y0,y1]/\y1.tx.data.toList=[42]:=by
 have h:(match pE qob qte (.expr 0) 0 5 with
  | some o=>o.p.i==5&&o.x.kd==14&&o.x.tx.data.toList==[43]&&(match o.x.ls with | [_,y1]=>y1.tx.data.toList==[42] | _=>false)
  | none=>false)=true:=by decide+kernel
 cases hp:pE qob qte (.expr 0) 0 5 with
 | none=>rw[hp]at h;cases h
 | some o=>
  rw[hp]at h
  simp only[Bool.and_eq_true,beq_iff_eq]at h
  obtain⟨⟨⟨h1,h2⟩,h3⟩,h4⟩:=h
  cases hl:o.x.ls with
  | nil=>rw[hl]at h4;cases h4
  | cons y0 r=>
   cases r with
   | nil=>rw[hl]at h4;cases h4
   | cons y1 r=>
    cases r with
    | nil=>rw[hl]at h4;exact⟨o,y0,y1,rfl,h1,h2,h3,hl,by simpa using h4⟩
    | cons _ _=>rw[hl]at h4;cases h4
theorem e132:pE qob qte (.expr 0) 0 2=none:=by
 have h:(pE qob qte (.expr 0) 0 2).isNone=true:=by decide+kernel
 exact Option.isNone_iff_eq_none.1 h
theorem e133: ∃o y0 y1,pE qxc qwq .body 0 3=some o/\o.x.ls=[y0,y1]/\y1.bw=true:=by
 have h:(match pE qxc qwq .body 0 3 with
  | some o=>(match o.x.ls with | [_,y1]=>y1.bw | _=>false)
  | none=>false)=true:=by decide+kernel
 cases hp:pE qxc qwq .body 0 3 with
 | none=>rw[hp]at h;cases h
 | some o=>
  rw[hp]at h
  simp only at h
  cases hl:o.x.ls with
  | nil=>rw[hl]at h;cases h
  | cons y0 r=>
   cases r with
   | nil=>rw[hl]at h;cases h
   | cons y1 r=>
    cases r with
    | nil=>rw[hl]at h;exact⟨o,y0,y1,rfl,hl,h⟩
    | cons _ _=>rw[hl]at h;cases h
theorem r131:Row3 qob qte:=qj6 (qf1 qsv).2.2
theorem r132:Row3 qxc qwq:=qj6 (qf1 t132_is).2.2
theorem x131(v:Value)(W:World)(ht:TkR W v (qcx qob qte)):
 Calls Tryz.prog 16 #[.string qob,v,.int .i64 0,.int .i64 5,.int .i64 0] W fun e W'=>Below W.heap.size W W'/\
  ∃kc na nc va vc g o,∃b1 b2:Bool,∃nn vn:Nat,e=.returned (.tuple #[.agg #[.int .i64 14,.string { data:= #[43] },.slice (some ⟨g,o,none⟩) 2 kc,.bool b1,.bool b2,.slice na nn nc,.slice va vn vc],.int .i64 5,.int .i64 0])/\g<W'.heap.size/\W'.cell? ⟨g,o+8,none⟩=some (.string { data:= #[42] }):=by
 obtain⟨o,y0,y1,h0,h1,h2,h3,h4,h5⟩:=e131
 refine(qew r131 (by decide) (by decide) v 0 5 0 W ht).mono ?_
 rw[h0]
 rintro e W' ⟨hb,c,rfl,hn⟩
 obtain⟨ka,kc,na,nc,va,vc,rfl,hr,-,-⟩:=qgr hn
 rw[h4]at hr⊢
 obtain⟨g,oo,_,_,_,_,_,_,rfl,hg,-,-,ht,-⟩:=rw_at hr (i:=1) (y:=y1) rfl
 have e1:o.x.tx= { data:= #[43] } :=by
  have:o.x.tx=⟨o.x.tx.data.toList.toArray⟩:=by simp
  rw[this,h3]
 have e2:y1.tx= { data:= #[42] } :=by
  have:y1.tx=⟨y1.tx.data.toList.toArray⟩:=by simp
  rw[this,h5]
 rw[h1,h2,e1]
 exact⟨hb,kc,na,nc,va,vc,g,oo,_,_,_,_,rfl,hg,by rw[e2]at ht;exact ht⟩
theorem x132(v:Value)(W:World)(ht:TkR W v (qcx qob qte)):
 Calls Tryz.prog 16 #[.string qob,v,.int .i64 0,.int .i64 2,.int .i64 0] W fun e W'=>Below W.heap.size W W'/\e=.returned (.tuple #[qta,.int .i64 0,.int .i64 8]):=by
 have h:=qew r131 (by decide) (by decide) v 0 2 0 W ht
 rw[e132]at h
 exact h
theorem x133(v:Value)(W:World)(ht:TkR W v (qcx qxc qwq)):
 Calls Tryz.prog 22 #[.string qxc,v,.int .i64 0,.int .i64 3] W fun e W'=>Below W.heap.size W W'/\
  ∃kd tx kc na nc va vc g o,∃b1 b2:Bool,∃nn vn i:Nat,e=.returned (.tuple #[.agg #[.int .i64 kd,.string tx,.slice (some ⟨g,o,none⟩) 2 kc,.bool b1,.bool b2,.slice na nn nc,.slice va vn vc],.int .i64 (i:Int),.int .i64 0])/\g<W'.heap.size/\W'.cell? ⟨g,o+11,none⟩=some (.bool true):=by
 obtain⟨o,y0,y1,h0,h4,h5⟩:=e133
 refine(qqt r132 (by decide) (by decide) v 0 3 W ht).mono ?_
 rw[h0]
 rintro e W' ⟨hb,c,rfl,hn⟩
 obtain⟨ka,kc,na,nc,va,vc,rfl,hr,-,-⟩:=qgr hn
 rw[h4]at hr⊢
 obtain⟨g,oo,_,_,_,_,_,_,rfl,hg,-,-,-,-,-,ht,-⟩:=rw_at hr (i:=1) (y:=y1) rfl
 exact⟨hb,_,_,kc,na,nc,va,vc,g,oo,_,_,_,_,_,rfl,hg,by rw[h5]at ht;exact ht⟩
theorem tkR_lit{W:World}{b:Nat}{T:List Tok}{cs:Array Value}{n:Nat}(h:W.heap[b]?=some (.cells cs 34 (0,0)))(hn:n=T.length)(hc: ∀i,i<T.length-> ∀x,T[i]?=some x->cs[i*3]?=some (.int .i64 x.1)/\cs[i*3+1]?=some (.string x.2.1)/\cs[i*3+2]?=some (.int .i64 x.2.2)):TkR W (.slice (some ⟨b,0,none⟩) n n) T:=by
 subst hn
 have hb:b<W.heap.size:=(Array.getElem?_eq_some_iff.1 h).1
 refine⟨⟨_,_,rfl,fun _=>⟨b,0,rfl,hb,fun i x hx=>?_⟩⟩,fun a l c e=>by simp only[Value.slice.injEq]at e;omega,fun j e=>by
  cases e
  exact hb⟩
 obtain⟨c1,c2,c3⟩:=hc i (List.getElem?_eq_some_iff.1 hx).1 x hx
 rw[Nat.zero_add]
 exact⟨by rw[cell_of_row W b _ _ _ _ h];exact c1,by rw[cell_of_row W b _ _ _ _ h];exact c2,by rw[cell_of_row W b _ _ _ _ h];exact c3⟩
theorem tkR_132{W:World}{b:Nat}(h:W.heap[b]?=some (.cells #[.int .i64 1,.string { data:= #[120] },.int .i64 0,.int .i64 9,.string { data:= #[44] },.int .i64 1,.int .i64 1,.string { data:= #[121] },.int .i64 4] 34 (0,0))):TkR W (.slice (some ⟨b,0,none⟩) 3 3) (qcx { data:= #[120,44,10,10,121] } qwq):=by
 refine tkR_lit h (by rw[qb8];rfl) (fun i hi x hx=>?_)
 rw[qb8]at hi
 have hi:i<3:=hi
 have e1:({ data:= #[120,44,10,10,121] } :ByteArray).extract 0 1= { data:= #[120] } :=by decide+kernel
 have e2:({ data:= #[120,44,10,10,121] } :ByteArray).extract 1 2= { data:= #[44] } :=by decide+kernel
 have e3:({ data:= #[120,44,10,10,121] } :ByteArray).extract 4 5= { data:= #[121] } :=by decide+kernel
 rcases i with _ | _ | _ | i
 ·obtain rfl:=Option.some.inj hx
  show _/\some (Value.string { data:= #[120] })=some (Value.string (({ data:= #[120,44,10,10,121] } :ByteArray).extract 0 1))/\_
  rw[e1];exact⟨rfl,rfl,rfl⟩
 ·obtain rfl:=Option.some.inj hx
  show _/\some (Value.string { data:= #[44] })=some (Value.string (({ data:= #[120,44,10,10,121] } :ByteArray).extract 1 2))/\_
  rw[e2];exact⟨rfl,rfl,rfl⟩
 ·obtain rfl:=Option.some.inj hx
  show _/\some (Value.string { data:= #[121] })=some (Value.string (({ data:= #[120,44,10,10,121] } :ByteArray).extract 4 5))/\_
  rw[e3];exact⟨rfl,rfl,rfl⟩
 ·omega
theorem qi6(w:World):Calls Tryz.prog 18 #[] w fun e w'=>e=.returned (.bool true)/\Below w.heap.size w w':=by
 have HS:=zh (fun W=>qh1 { data:= #[97,32,43,32,98,32,42,32,99] } _ _ qsv (by decide) W)
 have HE1:=zh x131
 have HE2:=zh x132
 have HE3:=zh x133
 unfold qob at HE1 HE2
 unfold qxc at HE3
 unfold qta at HE2
 go_enter Tryz.func18,Tryz.ntmps18
 go_wp2_with fail
 refine(HS.out _).mono ?_
 rintro e w1 ⟨v1,rfl,ha1,hb1⟩
 have A1:=zh ha1
 have B1:=zh hb1
 clear ha1 hb1 HS
 obtain⟨la,lc,rfl,-⟩:=A1.out.row
 rw[show(qcx { data:= #[97,32,43,32,98,32,42,32,99] } qte).length=5 by rw[qb8];rfl]at*
 go_wp2_with fail
 refine(HE1.out _ _ A1.out).mono ?_
 rintro e w2 ⟨hb2,kc,na,nc,va,vc,g,o,b1,b2,nn,vn,rfl,hg,hc⟩
 have B2:Hid (Below w.heap.size w w2):=zh (B1.out.trans (hb2.mono B1.out.size))
 have A2:=zh (A1.out.below hb2)
 have C2:=zh hc
 have G2:=zh hg
 clear hb2 hc hg A1 HE1
 go_wp2_with fail
 have B3:Hid (Below w.heap.size w (w2.alloc (.cells #[.int .i64 14,.string { data:= #[43] },.slice (some ⟨g,o,none⟩) 2 kc,.bool b1,.bool b2,.slice na nn nc,.slice va vn vc] 29))):=zh (B2.out.alloc B2.out.size _)
 have N3:Hid (NdB (w2.alloc (.cells #[.int .i64 14,.string { data:= #[43] },.slice (some ⟨g,o,none⟩) 2 kc,.bool b1,.bool b2,.slice na nn nc,.slice va vn vc] 29)) w2.heap.size 14 { data:= #[43] } (.slice (some ⟨g,o,none⟩) 2 kc) b1 b2 (.slice na nn nc) (.slice va vn vc)):=zh (qaa w2 _)
 refine(HE2.out _ _ (A2.out.below (qa1 _ _))).mono ?_
 rintro e w4 ⟨hb4,rfl⟩
 have B4:Hid (Below w.heap.size w w4):=zh (B3.out.trans (hb4.mono B3.out.size))
 have C4:Hid (w4.cell? ⟨g,o+8,none⟩=some (.string { data:= #[42] })):=zh ((hb4.cell (p:=⟨g,o+8,none⟩) (by have:=G2.out;simp;omega)).trans (((qa1 w2 _).cell (p:=⟨g,o+8,none⟩) G2.out).trans C2.out))
 have N4:Hid (NdB w4 w2.heap.size 14 { data:= #[43] } (.slice (some ⟨g,o,none⟩) 2 kc) b1 b2 (.slice na nn nc) (.slice va vn vc)):=zh ((hb4.block w2.heap.size (by simp)).trans N3.out)
 have G4:Hid (g<w4.heap.size/\w2.heap.size<w4.heap.size):=zh (by have:=hb4.size;have:=G2.out;simp at*;omega)
 clear hb4 A2 HE2 C2 N3 G2
 go_wp2_with fail
 generalize hw5:(w4.alloc (.cells #[.int .i64 0,.string ⟨#[]⟩,.slice none 0 0,.bool false,.bool false,.slice none 0 0,.slice none 0 0] 29))=w5
 have HB5:Below w4.heap.size w4 w5:=by rw[<-hw5];exact qa1 _ _
 have HS5:w5.heap.size=w4.heap.size+1:=by rw[<-hw5];simp
 clear hw5
 rw[<-HS5]
 generalize hw6:(w5.alloc (.cells #[.int .i64 1,.string { data:= #[120] },.int .i64 0,.int .i64 9,.string { data:= #[44] },.int .i64 1,.int .i64 1,.string { data:= #[121] },.int .i64 4] 34))=w6
 have HB6:Below w4.heap.size w4 w6:=by rw[<-hw6];exact HB5.trans ((qa1 _ _).mono (by omega))
 have R6:TkR w6 (.slice (some ⟨w5.heap.size,0,none⟩) 3 3) (qcx { data:= #[120,44,10,10,121] } qwq):=tkR_132 (by rw[<-hw6];exact qaa w5 _)
 clear hw6
 refine(HE3.out _ _ R6).mono ?_
 rintro e w7 ⟨hb7,kd,tx,kc2,na2,nc2,va2,vc2,g2,o2,b3,b4,nn2,vn2,i2,rfl,hg2,hc2⟩
 have HB7:Below w4.heap.size w4 w7:=HB6.trans (hb7.mono HB6.size)
 have B7:Hid (Below w.heap.size w w7):=zh (B4.out.trans (HB7.mono B4.out.size))
 have C7:w7.cell? ⟨g,o+8,none⟩=some (.string { data:= #[42] }):=(HB7.cell (p:=⟨g,o+8,none⟩) G4.out.1).trans C4.out
 have N7:NdB w7 w2.heap.size 14 { data:= #[43] } (.slice (some ⟨g,o,none⟩) 2 kc) b1 b2 (.slice na nn nc) (.slice va vn vc):=(HB7.block w2.heap.size G4.out.2).trans N4.out
 have G7:g<w7.heap.size/\w2.heap.size<w7.heap.size:=by have:=HB7.size;have:=G4.out;omega
 have C8:=(qa1 w7 (.cells #[.int .i64 kd,.string tx,.slice (some ⟨g2,o2,none⟩) 2 kc2,.bool b3,.bool b4,.slice na2 nn2 nc2,.slice va2 vn2 vc2] 29)).cell (p:=⟨g,o+8,none⟩) G7.1 |>.trans C7
 have C9:=(qa1 w7 (.cells #[.int .i64 kd,.string tx,.slice (some ⟨g2,o2,none⟩) 2 kc2,.bool b3,.bool b4,.slice na2 nn2 nc2,.slice va2 vn2 vc2] 29)).cell (p:=⟨g2,o2+11,none⟩) hg2 |>.trans hc2
 have N8:NdB (w7.alloc (.cells #[.int .i64 kd,.string tx,.slice (some ⟨g2,o2,none⟩) 2 kc2,.bool b3,.bool b4,.slice na2 nn2 nc2,.slice va2 vn2 vc2] 29)) w2.heap.size 14 { data:= #[43] } (.slice (some ⟨g,o,none⟩) 2 kc) b1 b2 (.slice na nn nc) (.slice va vn vc):=((qa1 _ _).block w2.heap.size G7.2).trans N7
 obtain⟨m0,m1,m2,m3,m4,m5,m6⟩:=N8.cells
 clear hb7 HB5 HB6 HB7 HS5 R6 hg2 hc2 C7 N7 G7 N8 C4 N4 G4
 go_wp2_with fail
 go_ret
 exact⟨rfl,B7.out.alloc B7.out.size _⟩
section
variable{s:ByteArray}{L:List Tk3}
theorem qiw{c:Cmd}{i n:Nat}{o:Out}(h:pE s L c i n=some o): ∃m,qal (qdq s L n) m c (pz i)=some o/\o.p.bad=false/\i<=n/\n<=L.length:=by
 by_cases hb:(i:Int)<0\/(n:Int)<i\/(L.length:Int)<n
 ·rw[qqr hb]at h;cases h
 ·obtain⟨o',m,h1,h2⟩:=qld (s:=s) (L:=L) (c:=c) (i:=i) (n:=n) (by omega) (by omega)
  rw[h2]at h
  cases hbd:o'.p.bad with
  | true=>rw[hbd]at h;cases h
  | false=>
   rw[hbd]at h
   obtain rfl:o'=o:=by simpa using h
   exact⟨m,h1,hbd,by omega,by omega⟩
theorem qmm{lv:Int}{o:Out}{i n:Nat}(h:pE s L (.expr lv) i n=some o):cnt o.x+8*i+4<=8*o.p.i:=by
 obtain⟨m,h1,h2,-,-⟩:=qiw h
 exact(qrz (qdq s L n) m).expr_ lv (pz i) o h1 h2
theorem qpu{c:Cmd}{o:Out}{i n:Nat}(h:pE s L c i n=some o):i<=o.p.i/\o.p.i<=n:=by
 obtain⟨m,h1,h2,h3,-⟩:=qiw h
 exact⟨(qhr (qdq s L n) m c (pz i) o h1 h2).2,qwn (qdq s L n) m c (pz i) o h1 h2 h3⟩
end
end Go.Proofs.YtdhadeeajgoedaaGreat
