/-
  What the claims stand on: GapBroken.
-/
import Derived.Test.YtdhadeeajgoedaaGreatK27
import Derived.OneCell
set_option maxRecDepth 100000
set_option maxHeartbeats 4000000
set_option linter.unusedVariables false
set_option linter.unusedSimpArgs false
namespace Go.Proofs.YtdhadeeajgoedaaGreat
open Go.RowKit Go.PlainAid
def Cn(w W:World)(c:Int)(n:Nat):Prop:=
 W.heap[w.heap.size]?=some (.cells #[.int .u8 c] 5 (0,0))/\W.heap[w.heap.size+1]?=some (.cells #[.int .i64 (n:Int)] 3 (0,0))/\Below w.heap.size w W
theorem cn_new(w:World)(c:Int):Cn w ((w.alloc (.cells #[.int .u8 c] 5)).alloc (.cells #[.int .i64 0] 3)) c 0:=by
 refine⟨?_,?_,qmp _ _ _⟩
 ·show((w.heap.push _).push _)[w.heap.size]?=_
  rw[Array.getElem?_push_lt (by simp),Array.getElem_push_eq]
 ·show((w.heap.push _).push _)[w.heap.size+1]?=_
  rw[Array.getElem?_push,if_pos (by simp)]
  rfl
theorem qu5{w W:World}{c:Int}{n:Nat}(h:Cn w W c n):Cn w (W.setCell ⟨w.heap.size+1,0,none⟩ (.int .i64 ((n:Int)+1))) c (n+1):=by
 obtain⟨h1,h2,h3⟩:=h
 refine⟨?_,?_,h3.setCell (by show w.heap.size<=w.heap.size+1;omega) _⟩
 ·rw[Below.heap_setCell _ _ _ _ (by show w.heap.size≠w.heap.size+1;omega)];exact h1
 ·exact one_setCell h2
theorem qsh(b c:Int)(n:Nat)(hn:n<=1048576)(w W:World)(h:Cn w W c n):
 Calls Tryz.prog 187 #[.int .u8 b,.pointer (some ⟨w.heap.size,0,none⟩),.pointer (some ⟨w.heap.size+1,0,none⟩)] W fun e W'=>e=.returned (.int .i64 ((if b=c then n+1 else n:Nat):Int))/\Cn w W' c (if b=c then n+1 else n):=by
 have HC:=zh h
 have q0:=cell_of_row W _ 0 _ _ _ h.1
 have q1:=cell_of_row W _ 0 _ _ _ h.2.1
 simp only[List.getElem?_toArray,List.getElem?_cons_zero]at q0 q1
 have f1:=qav h.2.1 0
 clear h
 by_cases hb:b=c
 ·rw[if_pos hb]
  have hb':(b==c)=true:=by simpa using hb
  clear hb
  go_enter Tryz.func187,Tryz.ntmps187
  go_wp2_with fail
  go_ret
  exact⟨retI (by omega),qu5 HC.out⟩
 ·rw[if_neg hb]
  have hb':(b==c)=false:=by simpa using hb
  clear hb
  go_enter Tryz.func187,Tryz.ntmps187
  go_wp2_with fail
  go_ret
  exact⟨rfl,HC.out⟩
theorem qjj(c:Int)(w:World):
 Calls Tryz.prog 164 #[.int .u8 c] w fun e w'=>e=.returned (.func (.func 187) #[] #[.pointer (some ⟨w.heap.size,0,none⟩),.pointer (some ⟨w.heap.size+1,0,none⟩)])/\Cn w w' c 0:=by
 go_enter Tryz.func164,Tryz.ntmps164
 go_wp2
 go_ret
 exact⟨rfl,cn_new w c⟩
theorem qi9(s X:ByteArray)(v:Value)(k:Int)(m:Nat)(hm:1<=m)(hm2:m<=100)(hX:X.size<=1048576)(w:World)
 (H:Calls Tryz.prog 163 #[.string s,v,.int .i64 k] w fun e w'=>e=.returned (.string X)/\Below w.heap.size w w'):
 Calls Tryz.prog 141 #[.string s,v,.int .i64 k,.int .i64 (m:Int)] w fun e w'=>e=.returned (.bool (decide (m<=nlr X 0 X.size)))/\Below w.heap.size w w':=by
 have HB:=zh H
 have HCN:=zh (fun W=>qjj 10 W)
 clear H
 have gb:=zh (get_bt X)
 obtain⟨R,hR⟩: ∃R,R=decide (m<=nlr X 0 X.size):=⟨_,rfl⟩
 rw[<-hR]
 have HR:=zh hR
 clear hR
 go_enter Tryz.func141,Tryz.ntmps141
 go_wp2_with fail
 refine HB.out.mono ?_
 rintro e w1 ⟨rfl,hb1⟩
 have B1:=zh hb1
 clear hb1
 go_wp2_with fail
 refine(HCN.out _).mono ?_
 rintro e w2 ⟨rfl,hc2⟩
 have C2:=zh hc2
 clear hc2
 go_wp2_with fail
 go_loopg [19] X.size (fun gn i wr=> ∃(j:Nat),gn=X.size-j/\j<=X.size/\i=.int .i64 j/\Hid (Cn w1 wr 10 (nlr X 0 j))/\Hid (nlr X 0 j<m))
 case atStart=>exact⟨0,rfl,Nat.zero_le _,rfl,C2,zh (by show 0<m;omega)⟩
 case round=>
  obtain⟨j,hgn,hj,rfl,HC,HL⟩:=hrel
  by_cases hlt:j<X.size
  ·have hS:=qsh (bt X j) 10 (nlr X 0 j) (by have:=qtc X 0 j;omega) w1 wr HC.out
   have hbj:=gb.out j hlt
   have jn:(j:Int)< (X.size:Int):=by omega
   obtain⟨b,hb⟩: ∃b,b=bt X j:=⟨_,rfl⟩
   rw[<-hb]at hS hbj
   have hn:(if b=10 then nlr X 0 j+1 else nlr X 0 j)=nlr X 0 (j+1):=by
    by_cases h:b=10
    ·rw[if_pos h,qv4 (by rw[Nat.zero_add,<-hb];exact h)]
    ·rw[if_neg h,qrt (by rw[Nat.zero_add,<-hb];exact h)]
   rw[hn]at hS
   obtain⟨n,hnn⟩: ∃n,n=nlr X 0 (j+1):=⟨_,rfl⟩
   rw[<-hnn]at hS
   have hle:n<=m:=by
    have:=HL.out
    rw[hnn,<-hn];split<;>omega
   have HS:=zh hS
   have HNN:=zh hnn
   clear hS hn hnn HC HL hb
   by_cases hq:n=m
   ·have HF:Hid (true=R):=zh (by
     rw[HR.out]
     refine(decide_eq_true ?_).symm
     rw[<-hq,HNN.out]
     exact qru X 0 hlt)
    have hq':((n:Int)==(m:Int))=true:=by rw[hq];simp
    clear hq
    go_wp2_with fail
    refine HS.out.mono ?_
    rintro e w3 ⟨rfl,hc3⟩
    have B3:Hid (Below w.heap.size w w3):=zh (B1.out.trans (hc3.2.2.mono B1.out.size))
    clear hc3
    go_wp2_with fail
    go_ret
    exact⟨ql6 HF.out,B3.out⟩
   ·have hq':((n:Int)==(m:Int))=false:=beq_false_of_ne (by omega)
    have HL2:Hid (nlr X 0 (j+1)<m):=zh (by rw[<-HNN.out];omega)
    clear hq
    go_wp2_with fail
    refine HS.out.mono ?_
    rintro e w3 ⟨rfl,hc3⟩
    have C3:Hid (Cn w1 w3 10 (nlr X 0 (j+1))):=zh (by rw[<-HNN.out];exact hc3)
    clear hc3
    go_wp2_with fail
    go_roundg (X.size- (j+1))
    case measure=>omega
    case rel=>exact⟨j+1,rfl,hlt,by go_num,C3,HL2⟩
  ·obtain rfl:j=X.size:=by omega
   have HF:Hid (false=R):=zh (by
    rw[HR.out]
    exact(decide_eq_false (by have:=HL.out;omega)).symm)
   have B3:Hid (Below w.heap.size w wr):=zh (B1.out.trans (HC.out.2.2.mono B1.out.size))
   go_wp2_with fail
   go_ret
   exact⟨ql6 HF.out,B3.out⟩
theorem qo3{s:ByteArray}{e a:Nat}(he:a<=s.size): ∀n,n<=a-e->nlr (s.extract e a) 0 n=nlr s e n
 | 0,_=>rfl
 | n+1,h=>by
  simp only[nlr]
  rw[qo3 he n (by omega),Nat.zero_add,qt3 s e a n he (by omega)]
theorem qjq{s:ByteArray}{e a:Nat}(he:a<=s.size):nlr (s.extract e a) 0 (s.extract e a).size=nlr s e (a-e):=by
 rw[qcp s e a he]
 exact qo3 he _ (Nat.le_refl _)
end Go.Proofs.YtdhadeeajgoedaaGreat
