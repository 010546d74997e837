import Derived.Test.YtdhadeeajgoedaaGreatL24
import Derived.OneCell
set_option maxRecDepth 100000
set_option maxHeartbeats 4000000
set_option linter.all false
open Bool renaming false_eq_true→zA
open Int renaming le_refl→zB
open List renaming getElem?_eq_getElem→zC
open Nat renaming zero_add→zD
namespace Go.Proofs.YtdhadeeajgoedaaGreat
open Go.RowKit Go.PlainAid
def Cn(w W:World)(c:Int)(n:Nat):Prop:=
 W.heap[w.heap.size]?=some (.cells #[.int .u8 c] 5 (0,0))/\W.heap[w.heap.size+1]?=some (.cells #[.int .i64 (n:Int)] 3 (0,0))/\Below w.heap.size w W
theorem cn_new(w:World)(c:Int):Cn w ((w.alloc (.cells #[.int .u8 c] 5)).alloc (.cells #[.int .i64 0] 3)) c 0:=by
 refine⟨?_,?_,qfk _ _ _⟩
 ·show((w.heap.push _).push _)[w.heap.size]?=_
  rw[Array.getElem?_push_lt (by simp),Array.getElem_push_eq]
 ·show((w.heap.push _).push _)[w.heap.size+1]?=_
  rw[Array.getElem?_push,if_pos (by simp)]
  rfl
theorem qxq{w W:World}{c:Int}{n:Nat}(h:Cn w W c n):Cn w (W.setCell ⟨w.heap.size+1,0,none⟩ (.int .i64 ((n:Int)+1))) c (n+1):=by
 obtain⟨h1,h2,h3⟩:=h
 refine⟨?_,?_,h3.setCell (by show w.heap.size<=w.heap.size+1;omega) _⟩
 ·rw[Below.heap_setCell _ _ _ _ (by show w.heap.size≠w.heap.size+1;omega)];exact h1
 ·exact one_setCell h2
theorem qvt(b c:Int)(n:Nat)(hn:n<=1048576)(w W:World)(h:Cn w W c n):
 Calls Tryz.prog 187 #[.int .u8 b,.pointer (some ⟨w.heap.size,0,none⟩),.pointer (some ⟨w.heap.size+1,0,none⟩)] W fun e W'=>e=.returned (.int .i64 ((if b=c then n+1 else n:Nat):Int))/\Cn w W' c (if b=c then n+1 else n):=by
 have HC:=zh h
 have q0:=cell_of_row W _ 0 _ _ _ h.1
 have q1:=cell_of_row W _ 0 _ _ _ h.2.1
 simp only[List.getElem?_toArray,List.getElem?_cons_zero]at q0 q1
 have f1:=qaw h.2.1 0
 clear h
 by_cases hb:b=c
 ·rw[if_pos hb]
  have hb':(b==c)=true:=by simpa using hb
  clear hb
  go_enter Tryz.func187,Tryz.ntmps187
  go_wp2_with fail
  go_ret
  exact⟨qe7 (by omega),qxq HC.out⟩
 ·rw[if_neg hb]
  have hb':(b==c)=false:=by simpa using hb
  clear hb
  go_enter Tryz.func187,Tryz.ntmps187
  go_wp2_with fail
  go_ret
  exact⟨rfl,HC.out⟩
theorem qkz(c:Int)(w:World):
 Calls Tryz.prog 164 #[.int .u8 c] w fun e w'=>e=.returned (.func (.func 187) #[] #[.pointer (some ⟨w.heap.size,0,none⟩),.pointer (some ⟨w.heap.size+1,0,none⟩)])/\Cn w w' c 0:=by
 go_enter Tryz.func164,Tryz.ntmps164
 go_wp2
 go_ret
 exact⟨rfl,cn_new w c⟩
theorem qji(s X:ByteArray)(v:Value)(k:Int)(m:Nat)(hm:1<=m)(hm2:m<=100)(hX:X.size<=1048576)(w:World)
 (H:Calls Tryz.prog 163 #[.string s,v,.int .i64 k] w fun e w'=>e=.returned (.string X)/\Below w.heap.size w w'):
 Calls Tryz.prog 141 #[.string s,v,.int .i64 k,.int .i64 (m:Int)] w fun e w'=>e=.returned (.bool (decide (m<=nlr X 0 X.size)))/\Below w.heap.size w w':=by
 have HB:=zh H
 have HCN:=zh (fun W=>qkz 10 W)
 clear H
 have gb:=zh (get_bt X)
 obtain⟨R,hR⟩: ∃R,R=decide (m<=nlr X 0 X.size):=⟨_,rfl⟩
 rw[<-hR]
 have HR:=zh hR
 clear hR
 go_enter Tryz.func141,Tryz.ntmps141
 go_wp2_with fail
 refine HB.out.mono ?_
 rintro e w1 ⟨rfl,hb1⟩
 have B1:=zh hb1
 clear hb1
 go_wp2_with fail
 refine(HCN.out _).mono ?_
 rintro e w2 ⟨rfl,hc2⟩
 have C2:=zh hc2
 clear hc2
 go_wp2_with fail
 go_loopg [19] X.size (fun gn i wr=> ∃(j:Nat),gn=X.size-j/\j<=X.size/\i=.int .i64 j/\Hid (Cn w1 wr 10 (nlr X 0 j))/\Hid (nlr X 0 j<m))
 case atStart=>exact⟨0,rfl,Nat.zero_le _,rfl,C2,zh (by show 0<m;omega)⟩
 case round=>
  obtain⟨j,hgn,hj,rfl,HC,HL⟩:=hrel
  by_cases hlt:j<X.size
  ·have hS:=qvt (bt X j) 10 (nlr X 0 j) (by have:=qwv X 0 j;omega) w1 wr HC.out
   have hbj:=gb.out j hlt
   have jn:(j:Int)< (X.size:Int):=by omega
   obtain⟨b,hb⟩: ∃b,b=bt X j:=⟨_,rfl⟩
   rw[<-hb]at hS hbj
   have hn:(if b=10 then nlr X 0 j+1 else nlr X 0 j)=nlr X 0 (j+1):=by
    by_cases h:b=10
    ·rw[if_pos h,qz6 (by rw[zD,<-hb];exact h)]
    ·rw[if_neg h,qux (by rw[zD,<-hb];exact h)]
   rw[hn]at hS
   obtain⟨n,hnn⟩: ∃n,n=nlr X 0 (j+1):=⟨_,rfl⟩
   rw[<-hnn]at hS
   have hle:n<=m:=by
    have:=HL.out
    rw[hnn,<-hn];split<;>omega
   have HS:=zh hS
   have HNN:=zh hnn
   clear hS hn hnn HC HL hb
   by_cases hq:n=m
   ·have HF:Hid (true=R):=zh (by
     rw[HR.out]
     refine(decide_eq_true ?_).symm
     rw[<-hq,HNN.out]
     exact quy X 0 hlt)
    have hq':((n:Int)==(m:Int))=true:=by rw[hq];simp
    clear hq
    go_wp2_with fail
    refine HS.out.mono ?_
    rintro e w3 ⟨rfl,hc3⟩
    have B3:Hid (Below w.heap.size w w3):=zh (B1.out.trans (hc3.2.2.mono B1.out.size))
    clear hc3
    go_wp2_with fail
    go_ret
    exact⟨qdm HF.out,B3.out⟩
   ·have hq':((n:Int)==(m:Int))=false:=beq_false_of_ne (by omega)
    have HL2:Hid (nlr X 0 (j+1)<m):=zh (by rw[<-HNN.out];omega)
    clear hq
    go_wp2_with fail
    refine HS.out.mono ?_
    rintro e w3 ⟨rfl,hc3⟩
    have C3:Hid (Cn w1 w3 10 (nlr X 0 (j+1))):=zh (by rw[<-HNN.out];exact hc3)
    clear hc3
    go_wp2_with fail
    go_roundg (X.size- (j+1))
    case measure=>omega
    case rel=>exact⟨j+1,rfl,hlt,by go_num,C3,HL2⟩
  ·obtain rfl:j=X.size:=by omega
   have HF:Hid (false=R):=zh (by
    rw[HR.out]
    exact(decide_eq_false (by have:=HL.out;omega)).symm)
   have B3:Hid (Below w.heap.size w wr):=zh (B1.out.trans (HC.out.2.2.mono B1.out.size))
   go_wp2_with fail
   go_ret
   exact⟨qdm HF.out,B3.out⟩
theorem qqk{s:ByteArray}{e a:Nat}(he:a<=s.size): ∀n,n<=a-e->nlr (s.extract e a) 0 n=nlr s e n
 | 0,_=>rfl
 | n+1,h=>by
  simp only[nlr]
  rw[qqk he n (by omega),zD,qwg s e a n he (by omega)]
theorem qla{s:ByteArray}{e a:Nat}(he:a<=s.size):nlr (s.extract e a) 0 (s.extract e a).size=nlr s e (a-e):=by
 rw[qd0 s e a he]
 exact qqk he _ (Nat.le_refl _)
theorem nh_ops(x:Tok)(t:List Tok):nh x t=if(ops x.1 x.2.1||(x.1==8&&qjt x.2.1&&par t))=true then 1 else if cls x.1 x.2.1=true then-1 else 0:=by
 obtain⟨K,s,p⟩:=x
 unfold nh ops cls
 simp only[ByteArray.toList_eq]
 by_cases h9:K=9
 ·subst h9
  simp
 ·by_cases h8:K=8
  ·subst h8
   cases h1:opw s.data.toList
   ·cases h2:qjt s
    ·simp
    ·have e:s.data.toList=[102,117,110]:=by
      unfold qjt at h2
      rw[ByteArray.toList_eq]at h2
      simpa using h2
     have h3:clw s.data.toList=false:=by rw[e];rfl
     rw[h3]
     simp
   ·simp
  ·have g9:(K==9)=false:=beq_false_of_ne h9
   have g8:(K==8)=false:=beq_false_of_ne h8
   simp[h9,h8,g8]
def opn(x:Tok)(t:List Tok):Bool:=ops x.1 x.2.1||(x.1==8&&qjt x.2.1&&par t)
theorem qgy{a b:Bool}(h:a=b):Value.bool a=Value.bool b:=by rw[h]
theorem qkc(v:Value)(T:List Tok)(hT:T.length<=1048576)(w:World)(ht:TRow w v T):
 Calls Tryz.prog 19 #[v] w fun e w'=>e=.returned (.int .i64 (dl T 0 0))/\Below w.heap.size w w':=by
 have HT:=zh ht
 obtain⟨a,cap,rfl,hr⟩:=ht
 have HR0:=zh hr
 obtain⟨R,hR⟩: ∃R,R=dl T 0 0:=⟨_,rfl⟩
 rw[<-hR]
 have HR:=zh hR
 clear hR hr
 obtain⟨N,hN⟩: ∃N,N=T.length:=⟨_,rfl⟩
 rw[<-hN]at hT HT HR0⊢
 have HN:=zh hN
 clear hN
 go_enter Tryz.func19,Tryz.ntmps19
 go_wp2_with fail
 go_loopg [3,4,5] N (fun gn o m i wr=> ∃(k:Nat) (O M:Int),gn=N-k/\k<=N/\i=.int .i64 k/\o=.int .i64 O/\m=.int .i64 M/\0<=O/\O<=k/\0<=M/\M<=k/\Hid (R=dl (T.drop k) O M)/\Hid (Below w.heap.size w wr))
 case atStart=>exact⟨0,0,0,rfl,Nat.zero_le _,rfl,rfl,rfl,zB _,zB _,zB _,zB _,zh (by rw[HR.out];rfl),zh (Below.refl _ _)⟩
 case round=>
  obtain⟨k,O,M,hgn,hk,rfl,rfl,rfl,hO0,hOk,hM0,hMk,HD,HB⟩:=hrel
  by_cases hlt:k<N
  ·obtain⟨x,hx⟩: ∃x,T[k]?=some x:=⟨_,zC (by rw[<-HN.out];exact hlt)⟩
   have hd:=HD.out
   rw[qxx hx]at hd
   have hnh:=nh_ops x (T.drop (k+1))
   obtain⟨n,hn⟩: ∃n,n=nh x (T.drop (k+1)):=⟨_,rfl⟩
   rw[<-hn]at hd hnh
   obtain⟨g,o,rfl,hg,hc⟩:=HR0.out (by omega)
   have HC:=zh (fun W (hb:Below w.heap.size w W)=>(⟨(hb.cell (p:=⟨g,o+k*3,none⟩) hg).trans (hc k x hx).1,(hb.cell (p:=⟨g,o+k*3+1,none⟩) hg).trans (hc k x hx).2.1,(hb.cell (p:=⟨g,o+k*3+2,none⟩) hg).trans (hc k x hx).2.2⟩:W.cell? ⟨g,o+k*3,none⟩=some (.int .i64 x.1)/\W.cell? ⟨g,o+k*3+1,none⟩=some (.string x.2.1)/\W.cell? ⟨g,o+k*3+2,none⟩=some (.int .i64 x.2.2)))
   have HCN:=zh hc
   obtain⟨q,hq⟩: ∃q,q=opn x (T.drop (k+1)):=⟨_,rfl⟩
   have hnh2:n=if q=true then 1 else if cls x.1 x.2.1=true then-1 else 0:=by rw[hq];exact hnh
   have HQ:=zh hq
   obtain⟨K,s,p⟩:=x
   simp only at HC hnh2
   obtain⟨c,hcl⟩: ∃c,c=cls K s:=⟨_,rfl⟩
   have HO:=zh (fun W=>qo1 K p s W)
   have HL:=zh (fun W=>qlh K p s W)
   rw[<-hcl]at hnh2 HL
   have HD2:=zh hd
   have HNH:=zh hnh2
   have kn:(k:Int)< (N:Int):=by omega
   clear hd hn HD hnh hnh2 hq hcl hc
   go_upto_region 5 with fail
   go_cut [12]from 6 to 75 (fun z wx=>z=.bool q/\Hid (Below w.heap.size w wx))
   case first=>
    obtain⟨c1,c2,c3⟩:=HC.out _ HB.out
    clear HL HT HR0 HR HD2 HNH hgn hO0 hOk hM0 hMk
    cases ho:ops K s
    ·rw[ho]at HO
     have HQ1:Hid (q=(K==8&&qjt s&&par (T.drop (k+1)))):=zh (by rw[HQ.out];unfold opn;simp only;rw[ho];rfl)
     clear ho HQ
     cases h8:(K==8)
     ·have HF:Hid (false=q):=zh (by rw[HQ1.out,h8];rfl)
      clear HQ1 HCN
      go_wp2_with fail
      refine(HO.out _).mono ?_
      rintro e w1 ⟨rfl,hb1⟩
      have B1:Hid (Below w.heap.size w w1):=zh (HB.out.trans (hb1.mono HB.out.size))
      obtain⟨d1,d2,d3⟩:=HC.out _ B1.out
      clear hb1
      go_wp2_with fail
      go_meet
      exact⟨qgy HF.out,B1⟩
     ·cases hf:(s.toList==[102,117,110])
      ·have HF:Hid (false=q):=zh (by rw[HQ1.out,h8];unfold qjt;rw[hf];rfl)
       clear HQ1 HCN
       go_wp2_with fail
       refine(HO.out _).mono ?_
       rintro e w1 ⟨rfl,hb1⟩
       have B1:Hid (Below w.heap.size w w1):=zh (HB.out.trans (hb1.mono HB.out.size))
       obtain⟨d1,d2,d3⟩:=HC.out _ B1.out
       clear hb1
       go_wp2_with fail
       go_meet
       exact⟨qgy HF.out,B1⟩
      ·have HQ2:Hid (q=par (T.drop (k+1))):=zh (by rw[HQ1.out,h8];unfold qjt;rw[hf];rfl)
       clear HQ1
       by_cases hl:k+1<N
       ·obtain⟨y,hy⟩: ∃y,T[k+1]?=some y:=⟨_,zC (by rw[<-HN.out];exact hl)⟩
        have hp:=HQ2.out
        rw[qv7 hy]at hp
        have HY:=zh (fun W (hb:Below w.heap.size w W)=>(⟨(hb.cell (p:=⟨g,o+(k+1)*3,none⟩) hg).trans (HCN.out (k+1) y hy).1,(hb.cell (p:=⟨g,o+(k+1)*3+1,none⟩) hg).trans (HCN.out (k+1) y hy).2.1⟩:W.cell? ⟨g,o+(k+1)*3,none⟩=some (.int .i64 y.1)/\W.cell? ⟨g,o+(k+1)*3+1,none⟩=some (.string y.2.1)))
        obtain⟨K2,s2,p2⟩:=y
        simp only at HY hp
        have kl:(k:Int)+1< (N:Int):=by omega
        have kl2:k+1<N:=hl
        clear hy HCN HQ2
        cases hK:(K2==9)
        ·have HF:Hid (false=q):=zh (by rw[hp,hK];rfl)
         clear hp
         go_wp2_with fail
         refine(HO.out _).mono ?_
         rintro e w1 ⟨rfl,hb1⟩
         have B1:Hid (Below w.heap.size w w1):=zh (HB.out.trans (hb1.mono HB.out.size))
         obtain⟨d1,d2,d3⟩:=HC.out _ B1.out
         obtain⟨y1,y2⟩:=HY.out _ B1.out
         clear hb1
         go_wp2_with fail
         go_meet
         exact⟨qgy HF.out,B1⟩
        ·cases h4:(s2.toList==[40])
         ·have HF:Hid (false=q):=zh (by rw[hp,hK,h4];rfl)
          clear hp
          go_wp2_with fail
          refine(HO.out _).mono ?_
          rintro e w1 ⟨rfl,hb1⟩
          have B1:Hid (Below w.heap.size w w1):=zh (HB.out.trans (hb1.mono HB.out.size))
          obtain⟨d1,d2,d3⟩:=HC.out _ B1.out
          obtain⟨y1,y2⟩:=HY.out _ B1.out
          clear hb1
          go_wp2_with fail
          go_meet
          exact⟨qgy HF.out,B1⟩
         ·have HF:Hid (true=q):=zh (by rw[hp,hK,h4];rfl)
          clear hp
          go_wp2_with fail
          refine(HO.out _).mono ?_
          rintro e w1 ⟨rfl,hb1⟩
          have B1:Hid (Below w.heap.size w w1):=zh (HB.out.trans (hb1.mono HB.out.size))
          obtain⟨d1,d2,d3⟩:=HC.out _ B1.out
          obtain⟨y1,y2⟩:=HY.out _ B1.out
          clear hb1
          go_wp2_with fail
          go_meet
          exact⟨qgy HF.out,B1⟩
       ·have HF:Hid (false=q):=zh (by rw[HQ2.out,qv8 (by rw[<-HN.out];omega)])
        have kl: ¬(k:Int)+1< (N:Int):=by omega
        clear HQ2 HCN
        go_wp2_with fail
        refine(HO.out _).mono ?_
        rintro e w1 ⟨rfl,hb1⟩
        have B1:Hid (Below w.heap.size w w1):=zh (HB.out.trans (hb1.mono HB.out.size))
        obtain⟨d1,d2,d3⟩:=HC.out _ B1.out
        clear hb1
        go_wp2_with fail
        go_meet
        exact⟨qgy HF.out,B1⟩
    ·have HF:Hid (true=q):=zh (by rw[HQ.out];unfold opn;simp only;rw[ho];rfl)
     rw[ho]at HO
     clear ho HQ HCN
     go_wp2_with fail
     refine(HO.out _).mono ?_
     rintro e w1 ⟨rfl,hb1⟩
     have B1:Hid (Below w.heap.size w w1):=zh (HB.out.trans (hb1.mono HB.out.size))
     clear hb1
     go_wp2_with fail
     go_meet
     exact⟨qgy HF.out,B1⟩
   case rest=>
    obtain⟨rfl,HB2⟩:=hcut
    obtain⟨c1,c2,c3⟩:=HC.out _ HB2.out
    clear HO HCN HQ HT HR0 HR
    cases q
    ·cases c
     ·have HD3:Hid (R=dl (T.drop (k+1)) O (max M O)):=zh (by
       have e:=HNH.out
       simp only[zA,if_false]at e
       rw[HD2.out,e]
       congr 1<;>omega)
      clear HD2 HNH
      go_wp2_with fail
      refine(HL.out _).mono ?_
      rintro e w1 ⟨rfl,hb1⟩
      have B1:Hid (Below w.heap.size w w1):=zh (HB2.out.trans (hb1.mono HB2.out.size))
      clear hb1 c1 c2 c3
      go_wp2_with fail
      ·go_roundg (N- (k+1))
       case measure=>omega
       case rel=>exact⟨k+1,_,_,rfl,hlt,by go_num,rfl,rfl,by omega,by omega,by omega,by omega,zh (by rw[HD3.out];congr 1<;>omega),B1⟩
      ·go_roundg (N- (k+1))
       case measure=>omega
       case rel=>exact⟨k+1,_,_,rfl,hlt,by go_num,rfl,rfl,by omega,by omega,by omega,by omega,zh (by rw[HD3.out];congr 1<;>omega),B1⟩
     ·by_cases hO:0<O
      ·have HD3:Hid (R=dl (T.drop (k+1)) (O-1) (max M (O-1))):=zh (by
        have e:=HNH.out
        simp only[zA,if_false,if_true]at e
        rw[HD2.out,e]
        congr 1<;>omega)
       clear HD2 HNH
       go_wp2_with fail
       refine(HL.out _).mono ?_
       rintro e w1 ⟨rfl,hb1⟩
       have B1:Hid (Below w.heap.size w w1):=zh (HB2.out.trans (hb1.mono HB2.out.size))
       clear hb1 c1 c2 c3
       go_wp2_with fail
       ·go_roundg (N- (k+1))
        case measure=>omega
        case rel=>exact⟨k+1,_,_,rfl,hlt,by go_num,rfl,rfl,by omega,by omega,by omega,by omega,zh (by rw[HD3.out];congr 1<;>omega),B1⟩
       ·go_roundg (N- (k+1))
        case measure=>omega
        case rel=>exact⟨k+1,_,_,rfl,hlt,by go_num,rfl,rfl,by omega,by omega,by omega,by omega,zh (by rw[HD3.out];congr 1<;>omega),B1⟩
      ·have HD3:Hid (R=dl (T.drop (k+1)) O (max M O)):=zh (by
        have e:=HNH.out
        simp only[zA,if_false,if_true]at e
        rw[HD2.out,e]
        congr 1<;>omega)
       clear HD2 HNH
       go_wp2_with fail
       refine(HL.out _).mono ?_
       rintro e w1 ⟨rfl,hb1⟩
       have B1:Hid (Below w.heap.size w w1):=zh (HB2.out.trans (hb1.mono HB2.out.size))
       clear hb1 c1 c2 c3
       go_wp2_with fail
       ·go_roundg (N- (k+1))
        case measure=>omega
        case rel=>exact⟨k+1,_,_,rfl,hlt,by go_num,rfl,rfl,by omega,by omega,by omega,by omega,zh (by rw[HD3.out];congr 1<;>omega),B1⟩
    ·have HD3:Hid (R=dl (T.drop (k+1)) (O+1) (max M (O+1))):=zh (by
      have e:=HNH.out
      simp only[if_true]at e
      rw[HD2.out,e]
      congr 1<;>omega)
     clear HD2 HNH HL c1 c2 c3
     have B1:Hid (Below w.heap.size w wc):=HB2
     go_wp2_with fail
     ·go_roundg (N- (k+1))
      case measure=>omega
      case rel=>exact⟨k+1,_,_,rfl,hlt,by go_num,rfl,rfl,by omega,by omega,by omega,by omega,zh (by rw[HD3.out];congr 1<;>omega),B1⟩
     ·go_roundg (N- (k+1))
      case measure=>omega
      case rel=>exact⟨k+1,_,_,rfl,hlt,by go_num,rfl,rfl,by omega,by omega,by omega,by omega,zh (by rw[HD3.out];congr 1<;>omega),B1⟩
  ·obtain rfl:k=N:=by omega
   have HF:Hid (M=R):=zh (by rw[HD.out,List.drop_eq_nil_of_le (by rw[HN.out];exact Nat.le_refl _)];rfl)
   go_wp2_with fail
   go_ret
   exact⟨qe7 HF.out,HB.out⟩
end Go.Proofs.YtdhadeeajgoedaaGreat
