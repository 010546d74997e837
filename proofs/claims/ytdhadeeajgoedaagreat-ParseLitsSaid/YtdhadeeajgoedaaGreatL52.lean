import Derived.Test.YtdhadeeajgoedaaGreatL26
import Derived.Test.YtdhadeeajgoedaaGreatL50
set_option maxRecDepth 100000
set_option maxHeartbeats 4000000
set_option linter.all false
open List renaming drop_eq_nil_of_le→zA,getElem?_cons_zero→zB,getElem?_eq_getElem→zC,length_append→zD
namespace Go.Proofs.YtdhadeeajgoedaaGreat
open Go.RowKit Go.PlainAid
theorem qwt: ∀ {l:List Nd} {i:Nat} {x:Nd},l[i]?=some x->(lts x).length<=(qdj l).length
 | [],_,_,h=>by simp at h
 | y::t,0,x,h=>by
  simp only[zB,Option.some.injEq]at h
  subst h
  simp only[qdj,zD];omega
 | y::t,i+1,x,h=>by
  simp only[List.getElem?_cons_succ]at h
  have:=qwt h
  simp only[qdj,zD];omega
theorem st_one(w:World)(t:ByteArray):StAt (w.alloc (.cells #[.string t] 9)) (.slice (some ⟨w.heap.size,0,none⟩) 1 1) [t]:=by
 refine⟨some ⟨w.heap.size,0,none⟩,1,rfl,fun _=>⟨w.heap.size,0,rfl,by simp,fun i x hx=>?_⟩⟩
 match i,hx with
 | 0,hx=>
  simp only[zB,Option.some.injEq]at hx
  subst hx
  rw[cell_of_row (w.alloc _) w.heap.size 0 _ 9 (0,0) (by show(w.heap.push _)[w.heap.size]?=_;rw[Array.getElem?_push,if_pos rfl])]
  rfl
 | i+1,hx=>simp at hx
theorem qkf: ∀(m:Nat),m<=1048576-> ∀(n:Nd),cnt n<=m->(lts n).length<=1048576-> ∀(c:List Value) (w:World),NdAt w c n->
 Calls Tryz.prog 29 #[.agg c.toArray] w fun e w'=>qm7 w (lts n) e w'
 | 0,_,n,hn,_,_,_,_=>by have:=qky n;omega
 | m+1,hm,.mk k t l br bl no ta,hn,hz,c,w,h=>by
  obtain⟨lv,nv,tv,cs,rfl,-,-,hl,hc⟩:=h.inv
  clear h
  simp only[cnt]at hn
  simp only[lts,zD]at hz
  simp only[lts]
  have hl':=hl
  obtain⟨a,cap,rfl,-⟩:=hl
  have HKID:=zh (kids hl' hc)
  have HI:Hid (∀i x c,l[i]?=some x->NdAt w c x-> ∀W,Below w.heap.size w W->Calls Tryz.prog 29 #[.agg c.toArray] W fun e w'=>qm7 W (lts x) e w'):=
   zh (fun i x c hx hc W hb=>qkf m (by omega) x (by have:=qou hx;omega) (by have:=qwt hx;omega) c W (hc.bel hb))
  have hlen:=qil l
  obtain⟨N,hN⟩: ∃N,N=l.length:=⟨_,rfl⟩
  rw[<-hN]at hlen⊢
  have HN:=zh hN
  clear hc hl' hN
  obtain⟨R,hR⟩: ∃R,R=(if k==1 then[t]else[])++qdj l:=⟨_,rfl⟩
  rw[<-hR]
  have HRR:=zh hR
  have HZR:Hid (R.length<=1048576):=zh (by rw[hR];simp only[zD];exact hz)
  obtain⟨Z,hZ⟩: ∃Z,Z=(w.alloc (.cells #[.int .i64 k,.string t,.slice a N cap,.bool br,.bool bl,nv,tv] 29)):=⟨_,rfl⟩
  have hs:Z.heap.size=w.heap.size+1:=by rw[hZ];simp
  have HU:Hid (Below w.heap.size w Z):=zh (by rw[hZ];exact qa1 _ _)
  have UP:=zh (fun W (h:Below Z.heap.size Z W)=>HU.out.trans (h.mono HU.out.size))
  have HC:=zh (fun W (hb:Below Z.heap.size Z W)=>qmr (by rw[hZ]at hb;exact hb))
  have HB1:Hid (Below Z.heap.size Z (w.alloc (.cells #[.int .i64 k,.string t,.slice a N cap,.bool br,.bool bl,nv,tv] 29))):=zh (by rw[<-hZ];exact Below.refl _ _)
  have HB7:Hid (Below Z.heap.size Z ((w.alloc (.cells #[.int .i64 k,.string t,.slice a N cap,.bool br,.bool bl,nv,tv] 29)).alloc (.cells #[.string t] 9))):=zh (by rw[<-hZ];exact qa1 _ _)
  have HST:Hid (StAt ((w.alloc (.cells #[.int .i64 k,.string t,.slice a N cap,.bool br,.bool bl,nv,tv] 29)).alloc (.cells #[.string t] 9)) (.slice (some ⟨w.heap.size+1,0,none⟩) 1 1) [t]):=zh (by
   have:=st_one (w.alloc (.cells #[.int .i64 k,.string t,.slice a N cap,.bool br,.bool bl,nv,tv] 29)) t
   rw[show(w.alloc (.cells #[.int .i64 k,.string t,.slice a N cap,.bool br,.bool bl,nv,tv] 29)).heap.size=w.heap.size+1 by simp]at this
   exact this)
  obtain⟨d0,d1,d2,d3,d4,d5,d6⟩:=HC.out _ HB1.out
  have HS:=zh hs
  clear hZ hR hz hs
  cases hk1:(k==1)
  ·have HRR:Hid (R=[]++qdj l):=zh (by rw[HRR.out,hk1];rfl)
   go_enter Tryz.func29,Tryz.ntmps29
   go_wp2_with fail
   go_loopg [3,4] N (fun gn z i wr=> ∃(q:Nat) (I:List ByteArray),gn=N-q/\q<=N/\i=.int .i64 (q:Int)/\Hid (Txs wr Z.heap.size z I)/\Hid (Below Z.heap.size Z wr)/\Hid (R=I++qdj (l.drop q)))
   case atStart=>exact⟨0,[],rfl,Nat.zero_le _,rfl,zh (qei _ _),HB1,zh (by rw[HRR.out,List.drop_zero])⟩
   case round=>
    obtain⟨q,I,hgn,hq,rfl,HSI,HB,HK⟩:=hrel
    clear d0 d1 d2 d3 d4 d5 d6
    obtain⟨d0,d1,d2,d3,d4,d5,d6⟩:=HC.out _ HB.out
    have HBw:Hid (Below w.heap.size w wr):=zh (UP.out _ HB.out)
    by_cases hlt:q<N
    ·obtain⟨x,hx⟩: ∃x,l[q]?=some x:=⟨_,zC (by rw[<-HN.out];exact hlt)⟩
     obtain⟨g,o,k',t',lv',br',bl',nv',tv',rfl,hnd,hcell⟩:=HKID.out q x hx
     obtain⟨e0,e1,e2,e3,e4,e5,e6⟩:=hcell wr HBw.out
     have HI1:=zh (HI.out q x _ hx hnd wr HBw.out)
     have qn:(q:Int)< (N:Int):=by omega
     have HK2:Hid (R=I++lts x++qdj (l.drop (q+1))):=zh (by rw[HK.out,qgo hx];simp)
     obtain⟨y,hy⟩: ∃y,y=lts x:=⟨_,rfl⟩
     rw[<-hy]at HI1 HK2
     have HLE:Hid (I.length+y.length<=1048576):=zh (by have:=HZR.out;rw[HK2.out]at this;simp only[zD]at this;omega)
     clear hcell hx hnd hy HK
     go_wp2_with fail
     refine HI1.out.mono ?_
     rintro e w1 ⟨vx,rfl,hsx,hb1⟩
     have HST:=zh (qfq hsx)
     have HOW:=zh (HSI.out.bel hb1)
     have HB3:=zh (HB.out.trans (hb1.mono HB.out.size))
     clear hsx hb1
     go_wp2_with (at_builtin;go_must (refine qbd rfl _ _ rfl Z.heap.size _ I rfl HOW.out _ y rfl HST.out HLE.out HB3.out.size ?_);intro v4 w4 hsk hgr;have HSK4:=zh hsk;have HB4:=zh (qd2 HB3.out HOW.out hgr);clear hsk hgr)
     go_roundg (N- (q+1))
     case measure=>omega
     case rel=>exact⟨q+1,I++y,rfl,hlt,by go_num,HSK4,HB4,HK2⟩
    ·obtain rfl:q=N:=by omega
     have HF:Hid (R=I):=zh (by rw[HK.out,zA (by rw[HN.out];exact Nat.le_refl _)];simp[qdj])
     go_wp2_with fail
     go_ret
     exact⟨_,rfl,qjd (by rw[HF.out];exact HSI.out) HU.out.size,UP.out _ HB.out⟩
  ·have HRR:Hid (R=[t]++qdj l):=zh (by rw[HRR.out,hk1];rfl)
   go_enter Tryz.func29,Tryz.ntmps29
   go_wp2_with (at_builtin;go_must (refine qbd rfl _ _ rfl Z.heap.size _ [] rfl (qei _ _) _ [t] rfl HST.out (by simp) HB7.out.size ?_);intro v1 w2 hsk hgr;have HSK:=zh hsk;have HB2:=zh (qd2 HB7.out (qei _ _) hgr);clear hsk hgr)
   go_loopg [3,4] N (fun gn z i wr=> ∃(q:Nat) (I:List ByteArray),gn=N-q/\q<=N/\i=.int .i64 (q:Int)/\Hid (Txs wr Z.heap.size z I)/\Hid (Below Z.heap.size Z wr)/\Hid (R=I++qdj (l.drop q)))
   case atStart=>exact⟨0,[t],rfl,Nat.zero_le _,rfl,by simpa using HSK,HB2,zh (by rw[HRR.out,List.drop_zero])⟩
   case round=>
    obtain⟨q,I,hgn,hq,rfl,HSI,HB,HK⟩:=hrel
    clear d0 d1 d2 d3 d4 d5 d6
    obtain⟨d0,d1,d2,d3,d4,d5,d6⟩:=HC.out _ HB.out
    have HBw:Hid (Below w.heap.size w wr):=zh (UP.out _ HB.out)
    by_cases hlt:q<N
    ·obtain⟨x,hx⟩: ∃x,l[q]?=some x:=⟨_,zC (by rw[<-HN.out];exact hlt)⟩
     obtain⟨g,o,k',t',lv',br',bl',nv',tv',rfl,hnd,hcell⟩:=HKID.out q x hx
     obtain⟨e0,e1,e2,e3,e4,e5,e6⟩:=hcell wr HBw.out
     have HI1:=zh (HI.out q x _ hx hnd wr HBw.out)
     have qn:(q:Int)< (N:Int):=by omega
     have HK2:Hid (R=I++lts x++qdj (l.drop (q+1))):=zh (by rw[HK.out,qgo hx];simp)
     obtain⟨y,hy⟩: ∃y,y=lts x:=⟨_,rfl⟩
     rw[<-hy]at HI1 HK2
     have HLE:Hid (I.length+y.length<=1048576):=zh (by have:=HZR.out;rw[HK2.out]at this;simp only[zD]at this;omega)
     clear hcell hx hnd hy HK
     go_wp2_with fail
     refine HI1.out.mono ?_
     rintro e w1 ⟨vx,rfl,hsx,hb1⟩
     have HST:=zh (qfq hsx)
     have HOW:=zh (HSI.out.bel hb1)
     have HB3:=zh (HB.out.trans (hb1.mono HB.out.size))
     clear hsx hb1
     go_wp2_with (at_builtin;go_must (refine qbd rfl _ _ rfl Z.heap.size _ I rfl HOW.out _ y rfl HST.out HLE.out HB3.out.size ?_);intro v4 w4 hsk hgr;have HSK4:=zh hsk;have HB4:=zh (qd2 HB3.out HOW.out hgr);clear hsk hgr)
     go_roundg (N- (q+1))
     case measure=>omega
     case rel=>exact⟨q+1,I++y,rfl,hlt,by go_num,HSK4,HB4,HK2⟩
    ·obtain rfl:q=N:=by omega
     have HF:Hid (R=I):=zh (by rw[HK.out,zA (by rw[HN.out];exact Nat.le_refl _)];simp[qdj])
     go_wp2_with fail
     go_ret
     exact⟨_,rfl,qjd (by rw[HF.out];exact HSI.out) HU.out.size,UP.out _ HB.out⟩
end Go.Proofs.YtdhadeeajgoedaaGreat
