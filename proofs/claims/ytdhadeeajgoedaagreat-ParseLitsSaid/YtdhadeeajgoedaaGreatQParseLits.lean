/-
  An expression's literals are its tokens, in their order, but those of names within #r, fun f/1, sizes (promise 13.2): for every text the statement ParseLits returns true. No condition.
-/
import Derived.Test.YtdhadeeajgoedaaGreatL04
import Derived.Test.YtdhadeeajgoedaaGreatL53
set_option maxRecDepth 100000
set_option maxHeartbeats 4000000
set_option linter.all false
namespace Go.Proofs.YtdhadeeajgoedaaGreat.parseLits
open Go.ChangeShapes Go.WideShapes Go.ChangeAt Go.RowKit Go.PlainAid
theorem qw8{α:Type}(A:List α)(x:α)(r:List α):((A++[x])++r)[A.length]?=some x:=by simp
theorem qsy{X:ByteArray}{l:List UInt8}(h:X≠⟨l.toArray⟩):(X.toList==l)=false:=beq_false_of_ne (fun e=>h (by rw[<-e,qok]))
theorem walk(s:ByteArray)(_:s.size<=maxLen)(w:World):
 Calls Tryz.prog 8 #[.string s] w fun e w'=>e=.returned (.bool true)/\Below w.heap.size w w':=by
 have HT:=zh qi6
 by_cases hbig:(400:Int)< (s.size:Int)
 ·go_enter Tryz.func8,Tryz.ntmps8
  go_wp2_with fail
  refine(HT.out _).mono ?_
  rintro e w1 ⟨rfl,hb1⟩
  have B1:=zh hb1
  clear hb1
  go_wp2_with fail
  go_ret
  exact⟨rfl,B1.out⟩
 have hs:s.size<=400:=by omega
 obtain⟨L,c,hR⟩: ∃L c,qco s=(L,c):=⟨_,_,rfl⟩
 have HS:=zh (fun W=>qh1 s L c hR (by omega) W)
 have hll:L.length<=1048576:=by
  have h:(qco s).1.length<=s.size:=qg1 s
  rw[hR]at h
  have h:L.length<=s.size:=h
  omega
 have HD:=zh (fun v W h=>qkc v (qcx s L) (by rw[qb8];exact hll) W h)
 by_cases hc:c=0
 rotate_left
 ·have hc1:(c !=0)=true:=by simpa using hc
  go_enter Tryz.func8,Tryz.ntmps8
  go_wp2_with fail
  refine(HS.out _).mono ?_
  rintro e w1 ⟨v1,rfl,-,hb1⟩
  have B1:=zh hb1
  clear hb1 HS
  go_wp2_with fail
  refine(HT.out _).mono ?_
  rintro e w2 ⟨rfl,hb2⟩
  have B2:Hid (Below w.heap.size w w2):=zh (B1.out.trans (hb2.mono B1.out.size))
  clear hb2
  go_wp2_with fail
  go_ret
  exact⟨rfl,B2.out⟩
 subst hc
 have h3:=qj6 (qf1 hR).2.2
 have HE:=zh (fun v W h=>qew h3 (by omega) hll v 0 (L.length:Nat) 0 W h)
 obtain⟨D,hD⟩: ∃D,D=dl (qcx s L) 0 0:=⟨_,rfl⟩
 rw[<-hD]at HD
 have HL:=zh hll
 obtain⟨n,hn⟩: ∃n,n=L.length:=⟨_,rfl⟩
 by_cases hdeep:(100:Int)<D
 ·rw[<-hn]at HL
  have HN:=zh hn
  clear hn hD hll hR h3 HE
  go_enter Tryz.func8,Tryz.ntmps8
  go_wp2_with fail
  refine(HS.out _).mono ?_
  rintro e w1 ⟨v1,rfl,ha1,hb1⟩
  have A1:=zh ha1
  have B1:=zh hb1
  clear ha1 hb1 HS
  go_wp2_with fail
  refine(HD.out _ _ A1.out.row).mono ?_
  rintro e w2 ⟨rfl,hb2⟩
  have B2:Hid (Below w.heap.size w w2):=zh (B1.out.trans (hb2.mono B1.out.size))
  clear hb2 HD
  go_wp2_with fail
  refine(HT.out _).mono ?_
  rintro e w3 ⟨rfl,hb3⟩
  have B3:Hid (Below w.heap.size w w3):=zh (B2.out.trans (hb3.mono B2.out.size))
  clear hb3
  go_wp2_with fail
  go_ret
  exact⟨rfl,B3.out⟩
 have hK: ∀o,pE s L (.expr 0) 0 (L.length:Nat)=some o->((∀j,j<o.p.i->((qcx s L).getD j tk0).2.1≠ { data:= #[35] } /\((qcx s L).getD j tk0).2.1≠ { data:= #[102,117,110] } /\((qcx s L).getD j tk0).2.1≠ { data:= #[60,60] })->lts o.x=ltF (qcx s L) o.p.i)/\o.p.i<=n/\cnt o.x<=1048576:=fun o h=>by
  have h2:=qpu (i:=0) h
  have h3:=qmm (i:=0) h
  have h5:L.length<=s.size:=by
   have h:(qco s).1.length<=s.size:=qg1 s
   rw[hR]at h;exact h
  refine⟨fun hh=>?_,by have:=h2.2;omega,by have:=h2.2;omega⟩
  have h6:=qpv h (fun j hj=>?_) h2.2
  ·rw[Nat.min_eq_left h2.2]at h6;exact h6
  ·obtain⟨q1,q2,q3⟩:=hh j (by omega)
   have tl: ∀(X:ByteArray) (l:List UInt8),X.toList=l->X=⟨l.toArray⟩:=fun X l e=>by rw[<-e,qok]
   exact⟨fun e=>q1 (tl _ _ e),fun e=>q2 (tl _ _ e),fun e=>q3 (tl _ _ e)⟩
 have hTx: ∀i,i<n->(qcx s L)[i]?=some ((qcx s L).getD i tk0):=fun i hi=>by
  rw[List.getD_eq_getElem?_getD]
  have:i< (qcx s L).length:=by rw[qb8];omega
  rw[List.getElem?_eq_getElem this];rfl
 have hTl:(qcx s L).length=n:=by rw[qb8];exact hn.symm
 rw[<-hn]at HE HL hK
 clear hR h3 hD hn hll
 generalize qcx s L=T at*
 generalize pE s L (.expr 0) 0 (n:Nat)=R at HE hK
 have HTL:=zh hTl
 have HTT:=zh hTx
 clear hTl hTx
 go_enter Tryz.func8,Tryz.ntmps8
 go_wp2_with fail
 refine(HS.out _).mono ?_
 rintro e w1 ⟨v1,rfl,ha1,hb1⟩
 have A1:=zh ha1
 have B1:=zh hb1
 clear ha1 hb1 HS
 obtain⟨la,lc,rfl,-⟩:=A1.out.row
 rw[HTL.out]at A1⊢
 go_wp2_with fail
 refine(HD.out _ _ A1.out.row).mono ?_
 rintro e w2 ⟨rfl,hb2⟩
 have A2:=zh (A1.out.below hb2)
 have B2:Hid (Below w.heap.size w w2):=zh (B1.out.trans (hb2.mono B1.out.size))
 clear hb2 HD A1 B1
 go_wp2_with fail
 refine(HE.out _ _ A2.out).mono ?_
 rintro e w3 ⟨hb3,he⟩
 have A3:=zh (A2.out.below hb3)
 have B3:Hid (Below w.heap.size w w3):=zh (B2.out.trans (hb3.mono B2.out.size))
 clear hb3 HE A2 B2
 cases R with
 | none=>
  obtain rfl:=he
  unfold qta
  clear hK
  go_wp2_with fail
  refine(HT.out _).mono ?_
  rintro e w4 ⟨rfl,hb4⟩
  have B4:Hid (Below w.heap.size w w4):=zh ((B3.out.alloc B3.out.size _).trans (hb4.mono (by have:=B3.out.size;simp;omega)))
  have N4:NdB w4 w3.heap.size 0 ⟨#[]⟩ (.slice none 0 0) false false (.slice none 0 0) (.slice none 0 0):=(hb4.block _ (by simp)).trans (qaa w3 _)
  obtain⟨m0,-,-,-,-,-,-⟩:=N4.cells
  clear hb4 N4
  go_wp2_with fail
  go_ret
  exact⟨rfl,B4.out⟩
 | some o=>
  obtain⟨cc,rfl,hnd⟩:=he
  obtain⟨k1,k2,k3⟩:=hK o rfl
  clear hK
  obtain⟨ka,kc,na,nc,va,vc,rfl,-,-,-⟩:=qgr hnd
  have HN:=zh (fun W (hb:Below w3.heap.size w3 W) (hz:(lts o.x).length<=1048576)=>qkf 1048576 (Nat.le_refl _) o.x k3 hz _ W (hnd.nd.bel hb))
  have K1:=zh k1
  clear hnd k1 k3
  obtain⟨at_,hat⟩: ∃m,m=o.p.i:=⟨_,rfl⟩
  rw[<-hat]at K1 k2⊢
  generalize lts o.x=got at HN K1
  generalize o.x.kd=xk at*
  generalize o.x.tx=xt at*
  generalize o.x.ls.length=xn at*
  generalize o.x.bk=xb at*
  generalize o.x.bw=xw at*
  generalize o.x.nof.length=xo at*
  generalize o.x.tl'.length=xl at*
  clear hat
  go_wp2_with fail
  generalize hZ:w3.alloc (.cells #[.int .i64 xk,.string xt,.slice ka xn kc,.bool xb,.bool xw,.slice na xo nc,.slice va xl vc] 29)=Z
  have HZ3:Hid (Below w3.heap.size w3 Z):=zh (by rw[<-hZ];exact qa1 _ _)
  have HZN:Hid (NdB Z w3.heap.size xk xt (.slice ka xn kc) xb xw (.slice na xo nc) (.slice va xl vc)/\w3.heap.size<Z.heap.size):=zh (by rw[<-hZ];exact⟨qaa w3 _,by simp⟩)
  have HBZ:Hid (Below w.heap.size w Z):=zh (B3.out.trans (HZ3.out.mono B3.out.size))
  have AZ:=zh (A3.out.below HZ3.out)
  clear hZ A3 B3
  go_loopg [8,9] at_ (fun gn wv iv wr=> ∃(j:Nat) (I:List ByteArray),gn=at_-j/\j<=at_/\iv=.int .i64 (j:Int)/\Hid (Txs wr Z.heap.size wv I)/\Hid (I=ltF T j)/\Hid (∀q,q<j->(T.getD q tk0).2.1≠ { data:= #[35] } /\(T.getD q tk0).2.1≠ { data:= #[102,117,110] } /\(T.getD q tk0).2.1≠ { data:= #[60,60] })/\Hid (Below Z.heap.size Z wr))
  case atStart=>exact⟨0,[],rfl,Nat.zero_le _,rfl,zh (qei _ _),zh rfl,zh (fun q h=>absurd h (Nat.not_lt_zero _)),zh (Below.refl _ _)⟩
  case round=>
   obtain⟨j,I,hgn,hj,rfl,HTX,HII,HNH,HW⟩:=hrel
   obtain⟨wa,wc,rfl⟩:=qbj HTX.out
   by_cases hlt:j<at_
   ·have z1:(j:Int)< (at_:Int):=by omega
    have hj9:j<=1048576:=by have:=HL.out;omega
    have z2:(j:Int)< (n:Int):=by omega
    have hx:=HTT.out j (by omega)
    obtain⟨aT,capT,eT,hrT⟩:=AZ.out.row
    rw[HTL.out]at eT hrT
    simp only[Value.slice.injEq]at eT
    obtain⟨rfl,-,rfl⟩:=eT
    obtain⟨g,oo,rfl,hg,hcc⟩:=hrT (by omega)
    obtain⟨c1,c2,-⟩:=hcc j _ hx
    have c1:=(HW.out.cell (p:=⟨g,oo+j*3,none⟩) hg).trans c1
    have c2:=(HW.out.cell (p:=⟨g,oo+j*3+1,none⟩) hg).trans c2
    have hstep:ltF T (j+1)=ltF T j++(if ltk (T.getD j tk0).1=true then[(T.getD j tk0).2.1]else[]):=rfl
    have hnew:(T.getD j tk0).2.1≠ { data:= #[35] } ->(T.getD j tk0).2.1≠ { data:= #[102,117,110] } ->(T.getD j tk0).2.1≠ { data:= #[60,60] } -> ∀q,q<j+1->(T.getD q tk0).2.1≠ { data:= #[35] } /\(T.getD q tk0).2.1≠ { data:= #[102,117,110] } /\(T.getD q tk0).2.1≠ { data:= #[60,60] } :=fun h1 h2 h3 q hq=>by
     rcases Nat.lt_or_ge q j with h | h
     ·exact HNH.out q h
     ·obtain rfl:q=j:=by omega
      exact⟨h1,h2,h3⟩
    have HNEW:=zh hnew
    have HIL:Hid (I.length<=1048576):=zh (by rw[HII.out];exact Nat.le_trans (qio T j) hj9)
    clear hnew
    generalize T.getD j tk0=x at c1 c2 hstep HNEW
    have HST:=zh hstep
    clear hx hcc hrT hstep
    obtain⟨xk2,xX,xA⟩:=x
    simp only at c1 c2
    by_cases q1:xX= { data:= #[35] }
    ·subst q1
     go_wp2_with fail
     refine(HT.out _).mono ?_
     rintro e w9 ⟨rfl,hb9⟩
     have B9:Hid (Below w.heap.size w w9):=zh ((HBZ.out.trans (HW.out.mono HBZ.out.size)).trans (hb9.mono (Nat.le_trans HBZ.out.size HW.out.size)))
     clear hb9
     go_wp2_with fail
     go_ret
     exact⟨rfl,B9.out⟩
    have p1:(xX.toList==[35])=false:=qsy q1
    by_cases q2:xX= { data:= #[102,117,110] }
    ·subst q2
     go_wp2_with fail
     refine(HT.out _).mono ?_
     rintro e w9 ⟨rfl,hb9⟩
     have B9:Hid (Below w.heap.size w w9):=zh ((HBZ.out.trans (HW.out.mono HBZ.out.size)).trans (hb9.mono (Nat.le_trans HBZ.out.size HW.out.size)))
     clear hb9
     go_wp2_with fail
     go_ret
     exact⟨rfl,B9.out⟩
    have p2:(xX.toList==[102,117,110])=false:=qsy q2
    by_cases q3:xX= { data:= #[60,60] }
    ·subst q3
     go_wp2_with fail
     refine(HT.out _).mono ?_
     rintro e w9 ⟨rfl,hb9⟩
     have B9:Hid (Below w.heap.size w w9):=zh ((HBZ.out.trans (HW.out.mono HBZ.out.size)).trans (hb9.mono (Nat.le_trans HBZ.out.size HW.out.size)))
     clear hb9
     go_wp2_with fail
     go_ret
     exact⟨rfl,B9.out⟩
    have p3:(xX.toList==[60,60])=false:=qsy q3
    have HNE2:=zh (HNEW.out q1 q2 q3)
    clear q1 q2 q3 HNEW
    by_cases r1:1<=xk2/\xk2<=7
    ·obtain⟨r2,r3⟩:=r1
     have HS2:Hid (ltF T (j+1)=I++[xX]):=zh (by rw[HST.out,HII.out,if_pos (by unfold ltk;simp[r2,r3])])
     have HALL:Hid (∀u,Below wr.heap.size wr u->Below Z.heap.size Z u/\Z.heap.size<=u.heap.size):=zh (fun u hu=>by have h:=HW.out.trans (hu.mono HW.out.size);exact⟨h,h.size⟩)
     have HTXB:=zh (fun o'=>qc9 HTX.out (qa1 wr o'))
     clear HST
     go_wp2_with (at_builtin;go_must (refine qbk rfl _ _ rfl Z.heap.size _ I rfl (HTXB.out _) _ xX rfl (qaq (qaa _ _)).1 HIL.out (HALL.out _ (qa1 _ _)).2 ?_);intro v4 w4 h1 h2 h3;obtain⟨a4,c4,rfl⟩:=qbj h1;have HP:=zh h1;have HB4:=zh (qd2 (HALL.out _ (qa1 _ _)).1 (HTXB.out _) h2);clear h1 h2 h3)
     go_roundg (at_- (j+1))
     case measure=>omega
     case rel=>exact⟨j+1,I++[xX],rfl,hlt,by go_num,zh (by have h:=HP.out;rw[show(I++[xX]).length=I.length+1 by simp]at h;exact h),zh HS2.out.symm,HNE2,HB4⟩
    ·have r4:(decide (1<=xk2)&&decide (xk2<=7))=false:=by
      by_cases h:1<=xk2
      ·have: ¬xk2<=7:=fun h2=>r1 ⟨h,h2⟩
       simp[this]
      ·simp[h]
     have HS2:Hid (ltF T (j+1)=I):=zh (by rw[HST.out,HII.out,if_neg (by unfold ltk;simp only;rw[r4];decide),List.append_nil])
     clear HST r4
     by_cases h7:(1:Int)<=xk2
     ·have h8: ¬xk2<=7:=fun h2=>r1 ⟨h7,h2⟩
      go_wp2_with fail
      go_roundg (at_- (j+1))
      case measure=>omega
      case rel=>exact⟨j+1,I,rfl,hlt,by go_num,HTX,zh HS2.out.symm,HNE2,HW⟩
     ·go_wp2_with fail
      go_roundg (at_- (j+1))
      case measure=>omega
      case rel=>exact⟨j+1,I,rfl,hlt,by go_num,HTX,zh HS2.out.symm,HNE2,HW⟩
   ·have z1: ¬(j:Int)< (at_:Int):=by omega
    obtain rfl:j=at_:=by omega
    have hgot:got=I:=by rw[K1.out HNH.out,HII.out]
    subst hgot
    obtain⟨m0,m1,m2,m3,m4,m5,m6⟩:=(show NdB wr w3.heap.size xk xt (.slice ka xn kc) xb xw (.slice na xo nc) (.slice va xl vc)from(HW.out.block _ HZN.out.2).trans HZN.out.1).cells
    have HN2:=zh (HN.out wr (HZ3.out.trans (HW.out.mono HZ3.out.size)) (by rw[HII.out];exact Nat.le_trans (qio T j) (by have:=HL.out;omega)))
    have HBW:=zh (HBZ.out.trans (HW.out.mono HBZ.out.size))
    clear HN
    go_wp2_with fail
    clear m0 m1 m2 m3 m4 m5 m6
    refine HN2.out.mono ?_
    rintro e w5 ⟨v5,rfl,htx5,hb5⟩
    have B5:Hid (Below w.heap.size w w5):=zh (HBW.out.trans (hb5.mono HBW.out.size))
    obtain⟨ga,gc,rfl,hgr⟩:=qfq htx5
    obtain⟨ha,hc2,he2,hgr2⟩:=qfq (qc9 HTX.out hb5)
    simp only[Value.slice.injEq]at he2
    obtain⟨rfl,-,rfl⟩:=he2
    have HG:=zh hgr
    have HG2:=zh hgr2
    have hlen:Hid (got.length<=1048576):=zh (by rw[HII.out];exact Nat.le_trans (qio T j) (by have:=HL.out;omega))
    clear htx5 hgr hgr2 hb5 HN2 HTX HW
    obtain⟨N,hN⟩: ∃N,N=got.length:=⟨_,rfl⟩
    rw[<-hN]at HG HG2 hlen⊢
    have HNN:=zh hN
    clear hN
    go_wp2_with fail
    go_loopg [11] N (fun gn iv wq=> ∃(i:Nat),gn=N-i/\i<=N/\iv=.int .i64 (i:Int)/\Hid (Below w5.heap.size w5 wq))
    case atStart=>exact⟨0,rfl,Nat.zero_le _,rfl,zh (Below.refl _ _)⟩
    case round=>
     obtain⟨i,hgi,hi,rfl,HQ⟩:=hrel
     by_cases hil:i<N
     ·obtain⟨y,hy⟩: ∃y,got[i]?=some y:=⟨_,List.getElem?_eq_getElem (by rw[<-HNN.out];exact hil)⟩
      obtain⟨g1,o1,rfl,hg1,hc1⟩:=HG.out (by omega)
      obtain⟨g2,o2,rfl,hg2,hc3⟩:=HG2.out (by omega)
      have d1:=(HQ.out.cell (p:=⟨g1,o1+i,none⟩) hg1).trans (hc1 i y hy)
      have d2:=(HQ.out.cell (p:=⟨g2,o2+i,none⟩) hg2).trans (hc3 i y hy)
      have z8:(i:Int)< (N:Int):=by omega
      have z9:i<=1048576:=by have:=hlen.out;omega
      clear hc1 hc3 hy
      go_wp2_with fail
      go_quiet (fail)
      go_wp2_with fail
      go_roundg (N- (i+1))
      case measure=>omega
      case rel=>exact⟨i+1,rfl,hil,by go_num,zh (HQ.out.trans ((qab _ _).mono HQ.out.size))⟩
     ·have z8: ¬(i:Int)< (N:Int):=by omega
      go_wp2_with fail
      refine(HT.out _).mono ?_
      rintro e w6 ⟨rfl,hb6⟩
      have B6:Hid (Below w.heap.size w w6):=zh ((B5.out.trans (HQ.out.mono B5.out.size)).trans (hb6.mono (Nat.le_trans B5.out.size HQ.out.size)))
      clear hb6
      go_wp2_with fail
      go_ret
      exact⟨rfl,B6.out⟩
theorem qq1(os:Os)(started:os.Started)(H:Type)(enc:TypeId×Value->H):
 ReturnsInHanded {} Tryz.checked os 8 .any (Rows.parseLitsSpec.pre6 enc Tryz.prog Tryz.f8 Rows.parseLitsRow.domain false) (Rows.parseLitsSpec.post enc Tryz.prog Tryz.f8 false true false false):=by
 refine returnsInHanded_of_change (C:=Tryz.checked) qgv started (by kernel_rfl) Tryz.func8
  (ChangeSpec.witness6 (enc:=enc) (C:=Tryz.checked) false ⟨#[],#[.string ByteArray.empty],[]⟩ 8 (by kernel_rfl) (by kernel_rfl) (by kernel_rfl) (by kernel_rfl)) ?_
 intro W base args ds gs before hval0 hW hcnd _
 have hval: ∀(j:Nat) t v,Tryz.f8.params[j]?=some t->args[j]?=some v->Value.okWide Tryz.prog W .any base t v:=hval0
 have hW':=hW
 obtain⟨p,q,hA0,hV,rfl,hfz,hnd⟩:=hW
 have hA:DataW.TrodAll enc Tryz.prog W 0 (fun _=>true) true Tryz.f8.params.toList args.toList ds p:=hA0
 rw[Tryz.params8]at hA hval
 obtain⟨v0,vs0,d0,ds0,p0,q0,hargs,rfl,rfl,h0,r0⟩:=trodAll_cons hA
 obtain⟨rfl,rfl,rfl⟩:=trodAll_nil r0
 obtain rfl:args= #[v0]:=by cases args;simp_all
 obtain⟨rfl,rfl⟩:=trodVars_none hV
 obtain⟨a0,rfl,rfl,rfl,w0⟩:=Go.ChangeMaps.open_string Tryz.underlying9 (hval 0 9 v0 rfl rfl) h0
 clear hA0 hval0
 simp only[List.append_nil]at hW'
 refine(walk a0 w0 W).mono fun e W' ⟨he,bel⟩=>?_
 subst he
 exact⟨_,rfl,_,_,_,[],_,[],hW',trodAll_mk1 (shut_bool Tryz.underlying4 _),(trodAll_cons_mk (Go.ChangeMaps.shut_string Tryz.underlying9 w0) trodAll_mk0),rfl,bel.frame _,fun h=>by cases h⟩
theorem over:Rows.ParseLitsSaid:=
 OpenClaim.holds_of_wide 8 Tryz.f8 rfl rfl rfl rfl rfl rfl rfl ⟨rfl,rfl,rfl,rfl,rfl⟩ rfl rfl rfl rfl rfl (by kernel_rfl) Tryz.func8 (by kernel_rfl)
  (of_decide_eq_true (by kernel_rfl)) (by unfold Func.isWrapper;first | (rw[if_pos (by decide+kernel)];kernel_rfl) | (rw[if_neg (by decide+kernel)];exact⟨rfl,rfl⟩))
  (fun os started H enc _=>qq1 os started H enc)
theorem proved:Rows.ParseLitsSaid:=over
#print axioms proved
end Go.Proofs.YtdhadeeajgoedaaGreat.parseLits
