import Derived.Test.YtdhadeeajgoedaaGreatL31
import Derived.Shelf.Strings.BuilderK
set_option maxRecDepth 100000
set_option maxHeartbeats 4000000
set_option linter.all false
namespace Go.Proofs.YtdhadeeajgoedaaGreat
open Go.RowKit Go.PlainAid
def snRen:Go.Shelf.Ren:=
 ⟨fun
  | 166=>204
  | 169=>205
  | 240=>218
  | 276=>222
  | n=>n,
  fun
   | 0=>0
   | 3=>3
   | 4=>4
   | 5=>5
   | 9=>9
   | 20=>20
   | 37=>52
   | 70=>137
   | 72=>139
   | 75=>141
   | 80=>101
   | 127=>132
   | 164=>148
   | n=>n,
  fun n=>n⟩
theorem sn166:Lays.n166 Tryz.prog snRen:= {
 mixed:=by kernel_rfl
 f166:=Tryz.func204
 f240:=Tryz.func218
 f276:=Tryz.func222
 t0:=Tryz.underlying0
 a0:=Tryz.isAgg0
 z0:=Tryz.sizeOf0
 v0:=Tryz.zeroValue0
 t3:=Tryz.underlying3
 a3:=Tryz.isAgg3
 z3:=Tryz.sizeOf3
 v3:=Tryz.zeroValue3
 t4:=Tryz.underlying4
 a4:=Tryz.isAgg4
 z4:=Tryz.sizeOf4
 v4:=Tryz.zeroValue4
 t9:=Tryz.underlying9
 a9:=Tryz.isAgg9
 z9:=Tryz.sizeOf9
 v9:=Tryz.zeroValue9
 t20:=Tryz.underlying20
 a20:=Tryz.isAgg20
 z20:=Tryz.sizeOf20
 v20:=Tryz.zeroValue20
 t37:=Tryz.underlying52
 a37:=Tryz.isAgg52
 z37:=Tryz.sizeOf52
 v37:=Tryz.zeroValue52
 t70:=Tryz.underlying137
 a70:=Tryz.isAgg137
 z70:=Tryz.sizeOf137
 v70:=Tryz.zeroValue137
 t72:=Tryz.underlying139
 a72:=Tryz.isAgg139
 z72:=Tryz.sizeOf139
 v72:=Tryz.zeroValue139
 t75:=Tryz.underlying141
 a75:=Tryz.isAgg141
 z75:=Tryz.sizeOf141
 v75:=Tryz.zeroValue141
 t164:=Tryz.underlying148
 a164:=Tryz.isAgg148
 z164:=Tryz.sizeOf148
 v164:=Tryz.zeroValue148
}
theorem sn169:Lays.n169 Tryz.prog snRen:= {
 mixed:=by kernel_rfl
 f169:=Tryz.func205
 t0:=Tryz.underlying0
 a0:=Tryz.isAgg0
 z0:=Tryz.sizeOf0
 v0:=Tryz.zeroValue0
 t3:=Tryz.underlying3
 a3:=Tryz.isAgg3
 z3:=Tryz.sizeOf3
 v3:=Tryz.zeroValue3
 t9:=Tryz.underlying9
 a9:=Tryz.isAgg9
 z9:=Tryz.sizeOf9
 v9:=Tryz.zeroValue9
 t37:=Tryz.underlying52
 a37:=Tryz.isAgg52
 z37:=Tryz.sizeOf52
 v37:=Tryz.zeroValue52
 t70:=Tryz.underlying137
 a70:=Tryz.isAgg137
 z70:=Tryz.sizeOf137
 v70:=Tryz.zeroValue137
 t72:=Tryz.underlying139
 a72:=Tryz.isAgg139
 z72:=Tryz.sizeOf139
 v72:=Tryz.zeroValue139
 t127:=Tryz.underlying132
 a127:=Tryz.isAgg132
 z127:=Tryz.sizeOf132
 v127:=Tryz.zeroValue132
}
theorem snX:Builder.Extra Tryz.prog snRen where
 sizeBuilder:=by kernel_rfl
 liesBuilder:=by kernel_rfl
 t5:=Tryz.underlying5
 a5:=Tryz.isAgg5
 z5:=Tryz.sizeOf5
 v5:=Tryz.zeroValue5
 infoByte:=by kernel_rfl
 cellsByte:=by kernel_rfl
 sizeByte:=by kernel_rfl
 neB5:=by decide
theorem qn4(E:Env)(hs: ∀k,(E.tk k).2.1.size<=1048576): ∀n a,(scE E n a).size<=n*1048576
 | 0,_=>Nat.zero_le _
 | n+1,a=>by
  have h1:=qn4 E hs n (a+1)
  have h2:=hs a
  simp only[scE,ByteArray.size_append]
  omega
theorem qn5(E:Env): ∀n a,scE E (n+1) a=scE E n a++(E.tk (a+n)).2.1
 | 0,a=>by
  show(E.tk a).2.1++(⟨#[]⟩:ByteArray)=(⟨#[]⟩:ByteArray)++(E.tk (a+0)).2.1
  rw[Nat.add_zero]
  apply ByteArray.ext
  simp
 | n+1,a=>by
  rw[scE,qn5 E n (a+1)]
  rw[show scE E (n+1) a=(E.tk a).2.1++scE E n (a+1)from rfl,ByteArray.append_assoc,show a+1+n=a+(n+1)by omega]
section
variable{W:World}{g:Nat}{s:ByteArray}{E:Env}{tv td np:Value}{i past:Nat}
theorem qo3(h:RdM W g s E tv td np i past)(f:Nat)(hf:f<=i):
 Calls Tryz.prog 180 #[.pointer (some ⟨g,0,none⟩),.int .i64 (f:Int)] W fun e W'=>e=.returned (.string (scE E (i-f) f))/\Below W.heap.size W W':=by
 have HR:=zh h
 have HF:=zh hf
 obtain⟨a,cap,rfl⟩:=h.sl
 have ecap:(i:Int)<=(cap:Int):=by have:=h.cp _ _ _ rfl;have:=h.il;omega
 have hc:=fun W' (hb:Below W.heap.size W W')=>(h.below hb).cells
 have HC:=zh hc
 have fi:(f:Int)<=(i:Int):=by omega
 have f0:(0:Int)<=(f:Int):=by omega
 have iE:(i:Int)<=(E.to:Int):=by have:=h.il;omega
 have hb1:=qa1 W (.cells #[.pointer none,.slice none 0 0] 139)
 have HB1:=zh hb1
 obtain⟨c0,c1,c2,c3,c4,c5⟩:=hc _ hb1
 have HBU:Hid (∀n,Lib.IsBuilderF 139 5 W.heap.size W.heap.size (Lib.byteCells []) ((W.alloc (.cells #[.pointer none,.slice none 0 0] 139)).drewN n)/\Below W.heap.size W ((W.alloc (.cells #[.pointer none,.slice none 0 0] 139)).drewN n)):=zh (fun n=>by
  refine⟨.inl (Lib.BuilderAtF.of ⟨Nat.le_refl _,.slice none 0 0,?_,?_,by simp[Value.ownBlock]⟩),hb1.trans ((qab _ n).mono hb1.size)⟩
  ·show(W.heap.push _)[W.heap.size]?=_
   rw[Array.getElem?_push,if_pos rfl]
  ·exact World.ownsRow_nil _ _ _ _)
 have HSZ:=zh (qn4 E h.sz)
 have HSZ1:=zh h.sz
 have HNF:=zh h.nf
 have HL6:=zh (⟨h.il,h.tl,h.len⟩:i<=E.to/\E.to<=E.T.length/\E.T.length<=1048576)
 have HW:=zh (fun(bs:List Value) (x:ByteArray) (w:World) hw hl hB=>Any.Builder_WriteString_k sn166 snX W.heap.size W.heap.size bs x w hw hl hB)
 have HST:=zh (fun(l:List UInt8) (w:World) hw hB=>Any.Builder_String_any_k sn169 snX W.heap.size W.heap.size l w hw hB)
 by_cases hlt:f<i
 ·have hne: ¬(cap=f):=by omega
  have HLT:=zh hlt
  have ei:((i-f:Nat):Int)=(i:Int)- (f:Int):=by omega
  have HTK:=zh (fun k (hk:k<E.to)=>h.tok hk)
  obtain⟨b,o,cap',hv,-⟩:=h.tok (k:=f) (by omega)
  simp only[Value.slice.injEq]at hv
  obtain⟨rfl,-,rfl⟩:=hv
  have hn6:i-f<=1048576:=by have:=HL6.out;omega
  clear h hf hc hb1 hlt ei
  go_enter Tryz.func180,Tryz.ntmps180
  go_wp2_with fail
  go_quiet (fail)
  go_wp2_with fail
  obtain⟨N,hN⟩: ∃N,N=i-f:=⟨_,rfl⟩
  have HNN:=zh hN
  rw[<-hN]at hn6⊢
  clear hN
  go_loopg [19] N (fun gn x wr=> ∃j:Nat,gn=N-j/\j<=N/\x=.int .i64 (j:Int)/\Hid (Lib.IsBuilderF 139 5 W.heap.size W.heap.size (Lib.byteCells (scE E j f).data.toList) wr)/\Hid (Below W.heap.size W wr))
  case atStart=>exact⟨0,rfl,Nat.zero_le _,rfl,zh (HBU.out nq).1,zh (HBU.out nq).2⟩
  case round=>
   obtain⟨j,hgn,hj,rfl,HBL,HBW⟩:=hrel
   by_cases hlt:j<N
   ·have hfj:f+j<E.to:=by have:=HNN.out;have:=HL6.out;omega
    obtain⟨b2,o2,cap2,e2,t0,t1,t2⟩:=HTK.out (f+j) hfj
    obtain⟨rfl,rfl⟩:b=b2/\o=o2:=by
     simp only[Value.slice.injEq,Option.some.injEq,Addr.mk.injEq]at e2
     exact⟨e2.1.1,e2.1.2.1⟩
    have hbl:b<W.heap.size:=HNF.out b rfl
    have u0:=(HBW.out.cell (p:=⟨b,o+(f+j)*3,none⟩) hbl).trans t0
    have u1:=(HBW.out.cell (p:=⟨b,o+(f+j)*3+1,none⟩) hbl).trans t1
    have u2:=(HBW.out.cell (p:=⟨b,o+(f+j)*3+2,none⟩) hbl).trans t2
    rw[show o+(f+j)*3=o+f*3+j*3 by omega]at u0 u1 u2
    have jn:(j:Int)< (N:Int):=by omega
    have j0:(0:Int)<=(j:Int):=by omega
    have HJ:=zh hlt
    have HSN:=zh (qn5 E j f)
    obtain⟨X,hX⟩: ∃X,X=(E.tk (f+j)).2.1:=⟨_,rfl⟩
    rw[<-hX]at u1 HSN
    have HX6:Hid (X.size<=1048576):=zh (by rw[hX];exact HSZ1.out _)
    obtain⟨o3,ho3⟩: ∃o3,o3=(E.tk (f+j)).1:=⟨_,rfl⟩
    obtain⟨o4,ho4⟩: ∃o4,o4=(E.tk (f+j)).2.2:=⟨_,rfl⟩
    rw[<-ho3]at u0
    rw[<-ho4]at u2
    have HAL:Hid (Lib.IsBuilderF 139 5 W.heap.size W.heap.size (Lib.byteCells (scE E j f).data.toList) (wr.alloc (.cells #[.int .i64 o3,.string X,.int .i64 o4] 34))/\Below W.heap.size W (wr.alloc (.cells #[.int .i64 o3,.string X,.int .i64 o4] 34))):=zh ⟨HBL.out.alloc _,HBW.out.alloc HBW.out.size _⟩
    clear hX ho3 ho4 t0 t1 t2 e2 hfj hbl hlt hj
    go_wp2_with fail
    refine(HW.out _ X _ HAL.out.1 (by
     rw[Lib.byteCells_length]
     have h1:=HSZ.out j f
     have h2:=HX6.out
     have h3:=HJ.out
     have h4:(scE E j f).data.toList.length=(scE E j f).size:=by simp
     rw[h4]
     have:j*1048576<=1048576*1048576:=Nat.mul_le_mul_right _ (by omega)
     omega) HAL.out.2.size).mono ?_
    rintro e w3 ⟨rfl,hbu,hb3,hok⟩
    have HB3:Hid (Lib.IsBuilderF 139 5 W.heap.size W.heap.size (Lib.byteCells (scE E (j+1) f).data.toList) w3):=zh (.inr (by
     rw[HSN.out]
     have e5:Lib.byteCells (scE E j f++X).data.toList=Lib.byteCells (scE E j f).data.toList++Lib.strCells X:=by
      rw[Lib.strCells_eq,<-Lib.byteCells_append];simp
     rw[e5];exact hbu))
    have HBW3:=zh (HAL.out.2.trans hb3)
    clear hbu hb3 hok
    go_wp2_with fail
    go_roundg (N- (j+1))
    case measure=>have:=HJ.out;omega
    case rel=>exact⟨j+1,rfl,HJ.out,by go_num,HB3,HBW3⟩
   ·have hjN:j=N:=by omega
    subst hjN
    have jn: ¬(j:Int)< (j:Int):=by omega
    have HBLN:=zh (HST.out _ _ HBL.out HBW.out.size)
    have e7:(⟨(scE E j f).data.toList.toArray⟩:ByteArray)=scE E j f:=by simp
    rw[e7]at HBLN
    clear hlt e7
    go_wp2_with fail
    refine HBLN.out.mono ?_
    rintro e w3 ⟨rfl,-,hb3,-⟩
    have HB3:=zh (HBW.out.trans hb3)
    clear hb3
    go_wp2_with fail
    go_ret
    exact⟨by rw[<-HNN.out];rfl,HB3.out⟩
 ·have hfi:f=i:=by omega
  subst hfi
  have HBLN:=zh (fun n=>HST.out _ _ (HBU.out n).1 (HBU.out n).2.size)
  have e0:f-f=0:=Nat.sub_self f
  rw[e0]
  have e7:scE E 0 f=(⟨([]:List UInt8).toArray⟩:ByteArray):=rfl
  rw[e7]
  clear h hc hb1 hlt e0 e7
  go_enter Tryz.func180,Tryz.ntmps180
  go_wp2_with fail
  go_quiet (fail)
  all_goals go_wp2_with fail
  all_goals go_loopg [19] 0 (fun gn x wr=>gn=0/\x=.int .i64 0/\wr=(W.alloc (.cells #[.pointer none,.slice none 0 0] 139)).drewN nq)
  all_goals first
   | exact⟨rfl,rfl,rfl⟩
   | (obtain⟨-,rfl,rfl⟩:=hrel
      have HB9:=zh (HBU.out nq).2
      go_wp2_with fail
      refine(HBLN.out nq).mono ?_
      rintro e w3 ⟨rfl,-,hb3,-⟩
      have HB3:=zh (HB9.out.trans hb3)
      clear hb3
      go_wp2_with fail
      go_ret
      exact⟨rfl,HB3.out⟩)
end
end Go.Proofs.YtdhadeeajgoedaaGreat
