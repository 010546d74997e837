import Derived.Test.YtdhadeeajgoedaaGreatL26
import Derived.Test.YtdhadeeajgoedaaGreatL46
set_option maxRecDepth 100000
set_option maxHeartbeats 4000000
set_option linter.all false
open List renaming length_append→zA
open Nat renaming le_refl→zB
namespace Go.Proofs.YtdhadeeajgoedaaGreat
open Go.RowKit Go.PlainAid
theorem txs_new(w:World)(t:TypeId)(ht:t=9):Txs (w.alloc (.cells #[] t)) w.heap.size (.slice (some ⟨w.heap.size,0,none⟩) 0 0) []:=by
 subst ht
 exact⟨rfl,.inr ⟨w.heap.size,0,#[],rfl,zB _,by show(w.heap.push _)[w.heap.size]?=_;rw[Array.getElem?_push,if_pos rfl],zB _,Nat.zero_le _,rfl,rfl⟩⟩
theorem qwy: ∀ {l:List Nd} {i:Nat} {x:Nd},l[i]?=some x->(nts x).length<=(qe0 l).length
 | [],_,_,h=>by simp at h
 | y::t,0,x,h=>by
  simp only[List.getElem?_cons_zero,Option.some.injEq]at h
  subst h
  simp only[qe0,zA];omega
 | y::t,i+1,x,h=>by
  simp only[List.getElem?_cons_succ]at h
  have:=qwy h
  simp only[qe0,zA];omega
theorem qhx: ∀(m:Nat),m<=1048576-> ∀(n:Nd),cnt n<=m->(nts n).length<=1048576-> ∀(c:List Value) (w:World),NdAt w c n->
 Calls Tryz.prog 30 #[.agg c.toArray] w fun e w'=>qm7 w (nts n) e w'
 | 0,_,n,hn,_,_,_,_=>by have:=qky n;omega
 | m+1,hm,.mk k t l br bl no ta,hn,hz,c,w,h=>by
  obtain⟨lv,nv,tv,cs,rfl,hno,hta,hl,hc⟩:=h.inv
  clear h
  simp only[cnt]at hn
  simp only[nts,zA]at hz
  simp only[nts]
  have hl':=hl
  obtain⟨a,cap,rfl,-⟩:=hl
  have HKID:=zh (kids hl' hc)
  have HI:Hid (∀i x c,l[i]?=some x->NdAt w c x-> ∀W,Below w.heap.size w W->Calls Tryz.prog 30 #[.agg c.toArray] W fun e w'=>qm7 W (nts x) e w'):=
   zh (fun i x c hx hc W hb=>qhx m (by omega) x (by have:=qou hx;omega) (by have:=qwy hx;omega) c W (hc.bel hb))
  have hlen:=qil l
  obtain⟨N,hN⟩: ∃N,N=l.length:=⟨_,rfl⟩
  rw[<-hN]at hlen⊢
  have HN:=zh hN
  clear hc hl' hN
  obtain⟨R,hR⟩: ∃R,R=no++qe0 l++ta:=⟨_,rfl⟩
  rw[<-hR]
  have HRR:=zh hR
  have HZR:Hid (R.length<=1048576):=zh (by rw[hR];simp only[zA];omega)
  obtain⟨Z,hZ⟩: ∃Z,Z=(w.alloc (.cells #[.int .i64 k,.string t,.slice a N cap,.bool br,.bool bl,nv,tv] 29)):=⟨_,rfl⟩
  have hs:Z.heap.size=w.heap.size+1:=by rw[hZ];simp
  have HU:Hid (Below w.heap.size w Z):=zh (by rw[hZ];exact qa1 _ _)
  have UP:=zh (fun W (h:Below Z.heap.size Z W)=>HU.out.trans (h.mono HU.out.size))
  have HC:=zh (fun W (hb:Below Z.heap.size Z W)=>qmr (by rw[hZ]at hb;exact hb))
  have HNO:=zh (fun W (h:Below Z.heap.size Z W)=>hno.below (UP.out W h))
  have HTA:=zh (fun W (h:Below Z.heap.size Z W)=>hta.below (UP.out W h))
  have HNEW:Hid (Txs ((w.alloc (.cells #[.int .i64 k,.string t,.slice a N cap,.bool br,.bool bl,nv,tv] 29)).alloc (.cells #[] 9)) Z.heap.size (.slice (some ⟨w.heap.size+1,0,none⟩) 0 0) []):=zh (by
   have:=txs_new (w.alloc (.cells #[.int .i64 k,.string t,.slice a N cap,.bool br,.bool bl,nv,tv] 29)) _ rfl
   rw[show(w.alloc (.cells #[.int .i64 k,.string t,.slice a N cap,.bool br,.bool bl,nv,tv] 29)).heap.size=w.heap.size+1 by simp]at this
   rw[hs];exact this)
  have HB1:Hid (Below Z.heap.size Z ((w.alloc (.cells #[.int .i64 k,.string t,.slice a N cap,.bool br,.bool bl,nv,tv] 29)).alloc (.cells #[] 9))):=zh (by rw[<-hZ];exact qa1 _ _)
  obtain⟨d0,d1,d2,d3,d4,d5,d6⟩:=HC.out _ HB1.out
  have HS:=zh hs
  have hno40:no.length<=1048576:=by omega
  clear hZ hR hz hs hno hta
  go_enter Tryz.func30,Tryz.ntmps30
  go_wp2_with (at_builtin;go_must (refine qbd rfl _ _ rfl Z.heap.size _ [] rfl HNEW.out _ no rfl (HNO.out _ HB1.out) (by simp;omega) HB1.out.size ?_);intro v1 w2 hsk hgr;have HSK:=zh hsk;have HB2:=zh (qd2 HB1.out HNEW.out hgr);clear hsk hgr)
  go_loopg [3,4] N (fun gn z i wr=> ∃(q:Nat) (I:List ByteArray),gn=N-q/\q<=N/\i=.int .i64 (q:Int)/\Hid (Txs wr Z.heap.size z I)/\Hid (Below Z.heap.size Z wr)/\Hid (R=I++qe0 (l.drop q)++ta))
  case atStart=>exact⟨0,no,rfl,Nat.zero_le _,rfl,by simpa using HSK,HB2,zh (by rw[HRR.out,List.drop_zero])⟩
  case round=>
   obtain⟨q,I,hgn,hq,rfl,HSI,HB,HK⟩:=hrel
   clear d0 d1 d2 d3 d4 d5 d6
   obtain⟨d0,d1,d2,d3,d4,d5,d6⟩:=HC.out _ HB.out
   have HBw:Hid (Below w.heap.size w wr):=zh (UP.out _ HB.out)
   by_cases hlt:q<N
   ·obtain⟨x,hx⟩: ∃x,l[q]?=some x:=⟨_,List.getElem?_eq_getElem (by rw[<-HN.out];exact hlt)⟩
    obtain⟨g,o,k',t',lv',br',bl',nv',tv',rfl,hnd,hcell⟩:=HKID.out q x hx
    obtain⟨e0,e1,e2,e3,e4,e5,e6⟩:=hcell wr HBw.out
    have HI1:=zh (HI.out q x _ hx hnd wr HBw.out)
    have qn:(q:Int)< (N:Int):=by omega
    have HK2:Hid (R=I++nts x++qe0 (l.drop (q+1))++ta):=zh (by rw[HK.out,qk1 hx];simp)
    obtain⟨y,hy⟩: ∃y,y=nts x:=⟨_,rfl⟩
    rw[<-hy]at HI1 HK2
    have HLE:Hid (I.length+y.length<=1048576):=zh (by have:=HZR.out;rw[HK2.out]at this;simp only[zA]at this;omega)
    clear hcell hx hnd hy HK
    go_wp2_with fail
    refine HI1.out.mono ?_
    rintro e w1 ⟨vx,rfl,hsx,hb1⟩
    have HST:=zh (qfq hsx)
    have HOW:=zh (HSI.out.bel hb1)
    have HB3:=zh (HB.out.trans (hb1.mono HB.out.size))
    clear hsx hb1
    go_wp2_with (at_builtin;go_must (refine qbd rfl _ _ rfl Z.heap.size _ I rfl HOW.out _ y rfl HST.out HLE.out HB3.out.size ?_);intro v4 w4 hsk hgr;have HSK4:=zh hsk;have HB4:=zh (qd2 HB3.out HOW.out hgr);clear hsk hgr)
    go_roundg (N- (q+1))
    case measure=>omega
    case rel=>exact⟨q+1,I++y,rfl,hlt,by go_num,HSK4,HB4,HK2⟩
   ·obtain rfl:q=N:=by omega
    have HF:Hid (R=I++ta):=zh (by rw[HK.out,List.drop_eq_nil_of_le (by rw[HN.out];exact zB _)];simp[qe0])
    have HLE:Hid (I.length+ta.length<=1048576):=zh (by have:=HZR.out;rw[HF.out]at this;simpa using this)
    go_wp2_with (at_builtin;go_must (refine qbd rfl _ _ rfl Z.heap.size _ I rfl HSI.out _ ta rfl (HTA.out _ HB.out) HLE.out HB.out.size ?_);intro v4 w4 hsk hgr;have HSK4:=zh hsk;have HB4:=zh (qd2 HB.out HSI.out hgr);clear hsk hgr)
    go_ret
    exact⟨_,rfl,qjd (by rw[HF.out];exact HSK4.out) HU.out.size,UP.out _ HB4.out⟩
end Go.Proofs.YtdhadeeajgoedaaGreat
