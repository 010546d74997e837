import Derived.Test.YtdhadeeajgoedaaGreatL06
import Derived.Test.YtdhadeeajgoedaaGreatL20
set_option maxRecDepth 100000
set_option maxHeartbeats 4000000
set_option linter.all false
open Array renaming length_toList→zA
open Bool renaming false_ne_true→zB,true_or→zC
open List renaming getElem?_cons_succ→zD,getElem?_cons_zero→zE,getElem?_toArray→zF
open Nat renaming le_refl→zG
namespace Go.Proofs.YtdhadeeajgoedaaGreat
open Go.RowKit Go.PlainAid
theorem qhy(s:ByteArray)(a:Nat)(b:Int)(un:Bool)(ha:a<=s.size)(hs:s.size<=1048576)(hb:0<=b): ∃l:Nat,ru s b a un a=a+l/\a+l<=s.size/\qem s (a:Nat) b un l:=by
 have hg:=qln s b a un s.size a (by omega)
 refine⟨ru s b a un a-a,by omega,by omega,fun W=>?_⟩
 have h:=qmz s a b un ha hs hb W
 rw[show((ru s b a un a-a:Nat):Int)=(ru s b a un a:Int)-a by omega]
 exact h
def isEA(s:ByteArray)(k:Nat):Bool:=bt s k==69||bt s k==101
def qm6(s:ByteArray)(a:Nat)(r:Int):Prop:= ∀W,Calls Tryz.prog 87 #[.string s,.int .i64 a] W fun e w'=>e=.returned (.int .i64 r)/\ ∃q,w'=W.drewN q
theorem qxo(s:ByteArray)(a:Nat)(l1:Int)(n:Nat)(hs:s.size<=1048576)(hn:n<=s.size)(han:a<=n)(H1:Hid (qem s (a:Nat) 10 true l1))(eL:(a:Int)+l1=(n:Int))(h: ¬(a<n/\n<s.size/\bt s n=46)):qm6 s a 0:=by
 intro w
 by_cases h0:a<n
 ·have g0:((n:Int)==(a:Int))=false:=beq_false_of_ne (by omega)
  by_cases h1:n<s.size
  ·have gx:=get_bt s n h1
   have g1:(bt s n !=46)=true:=by
    have:bt s n≠46:=fun h'=>h ⟨h0,h1,h'⟩
    simpa using this
   obtain⟨c,hc⟩: ∃c,c=bt s n:=⟨_,rfl⟩
   rw[<-hc]at gx g1
   clear hc h
   go_enter Tryz.func87,Tryz.ntmps87
   go_wp2_with fail
   refine(H1.out _).mono ?_
   rintro e w' ⟨rfl,q1,rfl⟩
   go_wp2_with fail
   go_ret
   exact⟨rfl,_,rfl⟩
  ·have g1:(s.size:Int)<=(n:Int):=by omega
   clear h
   go_enter Tryz.func87,Tryz.ntmps87
   go_wp2_with fail
   refine(H1.out _).mono ?_
   rintro e w' ⟨rfl,q1,rfl⟩
   go_wp2_with fail
   go_ret
   exact⟨rfl,_,rfl⟩
 ·obtain rfl:n=a:=by omega
  clear h
  go_enter Tryz.func87,Tryz.ntmps87
  go_wp2_with fail
  refine(H1.out _).mono ?_
  rintro e w' ⟨rfl,q1,rfl⟩
  go_wp2_with fail
  go_ret
  exact⟨rfl,_,rfl⟩
theorem qma(s:ByteArray)(a:Nat)(l1:Int)(n z:Nat)(R:Int)(hs:s.size<=1048576)(h0:a<n)(h1:n<s.size)(h46:bt s n=46)(hz:n+1+z<=s.size)(H1:Hid (qem s (a:Nat) 10 true l1))(eL:(a:Int)+l1=(n:Int))(H2:Hid (qem s ((n:Int)+1) 10 true z))(hR:Hid ((z=0->R=0)/\(0<z->R=(n:Int)+1+z-a)))
 (h:z=0\/(0<z/\n+1+z=s.size)\/(0<z/\n+1+z<s.size/\isEA s (n+1+z)=false)):qm6 s a R:=by
 intro w
 have g0:((n:Int)==(a:Int))=false:=beq_false_of_ne (by omega)
 have gx:=get_bt s n h1
 rw[h46]at gx
 clear h46
 rcases h with h | ⟨hz0,h⟩ | ⟨hz0,h,he⟩
 ·subst h
  have HF:=zh (hR.out.1 rfl)
  go_enter Tryz.func87,Tryz.ntmps87
  go_wp2_with fail
  refine(H1.out _).mono ?_
  rintro e w' ⟨rfl,q1,rfl⟩
  go_wp2_with fail
  refine(H2.out _).mono ?_
  rintro e w' ⟨rfl,q2,rfl⟩
  go_wp2_with fail
  go_ret
  exact⟨qe7 HF.out.symm,_,rfl⟩
 ·have HF:=zh (hR.out.2 hz0)
  have g1:((z:Int)==0)=false:=beq_false_of_ne (by omega)
  go_enter Tryz.func87,Tryz.ntmps87
  go_wp2_with fail
  refine(H1.out _).mono ?_
  rintro e w' ⟨rfl,q1,rfl⟩
  go_wp2_with fail
  refine(H2.out _).mono ?_
  rintro e w' ⟨rfl,q2,rfl⟩
  go_wp2_with fail
  go_ret
  exact⟨qe7 (by have:=HF.out;omega),_,rfl⟩
 ·have HF:=zh (hR.out.2 hz0)
  have g1:((z:Int)==0)=false:=beq_false_of_ne (by omega)
  have gy:=get_bt s (n+1+z) h
  unfold isEA at he
  obtain⟨c,hc⟩: ∃c,c=bt s (n+1+z):=⟨_,rfl⟩
  rw[<-hc]at gy he
  clear hc
  rw[Bool.or_eq_false_iff]at he
  obtain⟨e1,e2⟩:=he
  go_enter Tryz.func87,Tryz.ntmps87
  go_wp2_with fail
  refine(H1.out _).mono ?_
  rintro e w' ⟨rfl,q1,rfl⟩
  go_wp2_with fail
  refine(H2.out _).mono ?_
  rintro e w' ⟨rfl,q2,rfl⟩
  go_wp2_with fail
  go_ret
  exact⟨qe7 (by have:=HF.out;omega),_,rfl⟩
theorem qmg{s:ByteArray}{a m:Nat}(hd: ∀i,a<=i->i<m->dg (bt s i)<10): ∀n,a+n<=m->0<=dbe s a n/\dbe s a n<10 ^ n
 | 0,_=>⟨Int.le_refl _,by show(0:Int)<10 ^ 0;decide⟩
 | n+1,h=>by
  obtain⟨h1,h2⟩:=qmg hd n (by omega)
  obtain⟨d1,d2,-⟩:=qwj (hd (a+n) (by omega) (by omega))
  simp only[dbe]
  rw[Int.pow_succ]
  omega
theorem qkn(s:ByteArray)(a:Nat)(n l2:Int)(m:Nat)(K:Int)(R:Int)(hs:s.size<=1048576)(H1:Hid (qem s (a:Nat) 10 true n))(H2:Hid (qem s (a:Nat) 10 false l2))(eL:(a:Int)+l2=(m:Int))(h0:a<m)(h3:m<a+3)(hlt:m<s.size)(h35:bt s m=35)
 (hd:Hid (∀i,a<=i->i<m->dg (bt s i)<10)) (H3:Hid (qem s ((m:Int)+1) (dbe s a (m-a)) true (K- ((m:Int)+1)))) (hK:(m:Int)+1<=K) (hK':K<=s.size) (hgo:Hid (2<=dbe s a (m-a)/\dbe s a (m-a)<=36/\(m:Int)+1<K->R=K-a)) (hno:Hid (¬(2<=dbe s a (m-a)/\dbe s a (m-a)<=36/\(m:Int)+1<K)->R=n)) (w:World):
 Calls Tryz.prog 88 #[.string s,.int .i64 a] w fun e w'=>e=.returned (.int .i64 R)/\ ∃n,w'=w.drewN n:=by
 have gx:=get_bt s m hlt
 rw[h35]at gx
 clear h35
 have HG:=zh (get_bt s)
 have g0:(0:Int)<l2:=by omega
 have g3:l2<3:=by omega
 have g4:(m:Int)< (s.size:Int):=by omega
 obtain⟨B,hB⟩: ∃B,B=dbe s a (m-a):=⟨_,rfl⟩
 rw[<-hB]at H3 hgo hno
 have HB:=zh hB
 have hB0:0<=B:=by rw[hB];exact(qmg hd.out (m-a) (by omega)).1
 clear hB
 obtain⟨Z,hZ⟩: ∃Z:Int,Z=K- ((m:Int)+1):=⟨_,rfl⟩
 rw[<-hZ]at H3
 go_enter Tryz.func88,Tryz.ntmps88
 go_wp2_with fail
 refine(H1.out _).mono ?_
 rintro e w' ⟨rfl,q1,rfl⟩
 go_wp2_with fail
 refine(H2.out _).mono ?_
 rintro e w' ⟨rfl,q2,rfl⟩
 go_wp2_with fail
 go_loopg [7,8] (m-a) (fun gn v i wr=> ∃(k:Nat) (x:Int),gn=m-k/\a<=k/\k<=m/\v=.int .i64 x/\i=.int .i64 k/\0<=x/\x<100/\Hid (x=dbe s a (k-a))/\Hid (∃q,wr=w.drewN q))
 case atStart=>exact⟨a,0,rfl,zG _,by omega,rfl,rfl,Int.le_refl _,by omega,zh (by rw[Nat.sub_self];rfl),zh ⟨_,rfl⟩⟩
 case round=>
  obtain⟨k,x,hgn,hak,hk,rfl,rfl,x0,x1,HX,HW⟩:=hrel
  obtain⟨q0,rfl⟩:=HW.out
  by_cases hkm:k<m
  ·have g1:(k:Int)< (m:Int):=by omega
   have gk:=HG.out k (by omega)
   obtain⟨d1,d2,-⟩:=qwj (hd.out k hak hkm)
   have hdb:dbe s a (k+1-a)=dbe s a (k-a)*10+(bt s k-48):=by
    rw[show k+1-a=(k-a)+1 by omega]
    simp only[dbe]
    rw[show a+(k-a)=k by omega]
   have HN:=zh (show x*10+(bt s k-48)=dbe s a (k+1-a)by rw[HX.out,hdb])
   have hb:=qmg (s:=s) (m:=m) hd.out (k+1-a) (by omega)
   have hp:(10:Int) ^ (k+1-a)<=100:=by
    have h1:=qk9 10 (by omega) (k+1-a) 2 (by omega)
    have h2:(10:Int) ^ 2=100:=by decide
    omega
   have hb1:x*10+(bt s k-48)<100:=by rw[HN.out];omega
   obtain⟨c,hc⟩: ∃c,c=bt s k:=⟨_,rfl⟩
   rw[<-hc]at gk d1 d2 HN hb1
   clear hc hb hp hdb
   have wc:IntKind.u8.wrap (c-48)=c-48:=by rw[IntKind.wrap_u8];omega
   go_wp2_with fail
   go_roundg (m- (k+1))
   case measure=>omega
   case rel=>exact⟨k+1,x*10+(c-48),rfl,by omega,by omega,rfl,by go_num,by omega,hb1,HN,zh ⟨_,rfl⟩⟩
  ·obtain rfl:k=m:=by omega
   have hxB:x=B:=by rw[HX.out,HB.out]
   subst hxB
   go_wp2_with fail
   refine(H3.out _).mono ?_
   rintro e w' ⟨rfl,q1,rfl⟩
   by_cases c1:2<=x
   ·by_cases c2:x<=36
    ·by_cases c3:0<Z
     ·have HF:=zh (hgo.out ⟨c1,c2,by omega⟩)
      go_wp2_with fail
      go_ret
      exact⟨qe7 (by have:=HF.out;omega),_,rfl⟩
     ·have HF:=zh (hno.out (by omega))
      go_wp2_with fail
      go_ret
      exact⟨qe7 HF.out.symm,_,rfl⟩
    ·have HF:=zh (hno.out (by omega))
     go_wp2_with fail
     go_ret
     exact⟨qe7 HF.out.symm,_,rfl⟩
   ·have HF:=zh (hno.out (by omega))
    go_wp2_with fail
    go_ret
    exact⟨qe7 HF.out.symm,_,rfl⟩
theorem qko(s:ByteArray)(a:Nat)(n l2:Int)(m:Nat)(R:Int)(hs:s.size<=1048576)(H1:Hid (qem s (a:Nat) 10 true n))(H2:Hid (qem s (a:Nat) 10 false l2))(eL:(a:Int)+l2=(m:Int))(h:m=a\/(a<m/\a+3<=m)\/(a<m/\m<a+3/\m=s.size)\/(a<m/\m<a+3/\m<s.size/\bt s m≠35))(hR:Hid (n=R))(w:World):
 Calls Tryz.prog 88 #[.string s,.int .i64 a] w fun e w'=>e=.returned (.int .i64 R)/\ ∃n,w'=w.drewN n:=by
 rcases h with h | ⟨h0,h⟩ | ⟨h0,h1,h⟩ | ⟨h0,h1,h2,h⟩
 ·have g0: ¬(0:Int)<l2:=by omega
  go_enter Tryz.func88,Tryz.ntmps88
  go_wp2_with fail
  refine(H1.out _).mono ?_
  rintro e w' ⟨rfl,q1,rfl⟩
  go_wp2_with fail
  refine(H2.out _).mono ?_
  rintro e w' ⟨rfl,q2,rfl⟩
  go_wp2_with fail
  go_ret
  exact⟨qe7 hR.out,_,rfl⟩
 ·have g0:(0:Int)<l2:=by omega
  have g1: ¬l2<3:=by omega
  go_enter Tryz.func88,Tryz.ntmps88
  go_wp2_with fail
  refine(H1.out _).mono ?_
  rintro e w' ⟨rfl,q1,rfl⟩
  go_wp2_with fail
  refine(H2.out _).mono ?_
  rintro e w' ⟨rfl,q2,rfl⟩
  go_wp2_with fail
  go_ret
  exact⟨qe7 hR.out,_,rfl⟩
 ·have g0:(0:Int)<l2:=by omega
  have g1:l2<3:=by omega
  have g2: ¬(m:Int)< (s.size:Int):=by omega
  go_enter Tryz.func88,Tryz.ntmps88
  go_wp2_with fail
  refine(H1.out _).mono ?_
  rintro e w' ⟨rfl,q1,rfl⟩
  go_wp2_with fail
  refine(H2.out _).mono ?_
  rintro e w' ⟨rfl,q2,rfl⟩
  go_wp2_with fail
  go_ret
  exact⟨qe7 hR.out,_,rfl⟩
 ·have g0:(0:Int)<l2:=by omega
  have g1:l2<3:=by omega
  have g2:(m:Int)< (s.size:Int):=by omega
  have gx:=get_bt s m h2
  have g3:(bt s m==35)=false:=beq_false_of_ne h
  obtain⟨c,hc⟩: ∃c,c=bt s m:=⟨_,rfl⟩
  rw[<-hc]at gx g3
  clear hc h
  go_enter Tryz.func88,Tryz.ntmps88
  go_wp2_with fail
  refine(H1.out _).mono ?_
  rintro e w' ⟨rfl,q1,rfl⟩
  go_wp2_with fail
  refine(H2.out _).mono ?_
  rintro e w' ⟨rfl,q2,rfl⟩
  go_wp2_with fail
  go_ret
  exact⟨qe7 hR.out,_,rfl⟩
theorem qlg(s:ByteArray)(a:Nat)(ha:a<=s.size)(hs:s.size<=1048576)(w:World):
 Calls Tryz.prog 88 #[.string s,.int .i64 a] w fun e w'=>e=.returned (.int .i64 ((whe s a:Int)-a))/\ ∃n,w'=w.drewN n:=by
 obtain⟨n,hn,hns,H1⟩:=qhy s a 10 true ha hs (by omega)
 obtain⟨l2,hm,hms,H2⟩:=qhy s a 10 false ha hs (by omega)
 have hmd: ∀i,a<=i->i<a+l2->dg (bt s i)<10:=fun i h1 h2=>by
  have:=qn3 s 10 a false i h1 (by omega)
  rw[qdk (by omega)]at this
  rcases this with h | ⟨h,-⟩
  ·exact h
  ·cases h
 have hw:whe s a=if(a<a+l2/\a+l2<a+3/\a+l2<s.size/\bt s (a+l2)=35)/\2<=dbe s a l2/\dbe s a l2<=36/\a+l2+1<ru s (dbe s a l2) (a+l2+1) true (a+l2+1)then ru s (dbe s a l2) (a+l2+1) true (a+l2+1)else a+n:=by
  unfold whe;simp only;rw[hn,hm,show a+l2-a=l2 by omega]
 by_cases h:a<a+l2/\a+l2<a+3/\a+l2<s.size/\bt s (a+l2)=35
 ·obtain⟨h0,h3,hlt,h35⟩:=h
  have hd0:=(qmg hmd l2 (zG _)).1
  have H3:=run_at1 s (a+l2) (dbe s a l2) true hlt hs hd0
  have hg:=qln s (dbe s a l2) (a+l2+1) true s.size (a+l2+1) (by omega)
  have hg2:=hg.2 (by omega)
  refine qkn s a n l2 (a+l2) (ru s (dbe s a l2) (a+l2+1) true (a+l2+1):Nat) _ hs (zh H1) (zh H2) (by omega) h0 h3 hlt h35 (zh hmd) (zh (by rw[show a+l2-a=l2 by omega];exact H3)) (by omega) (by omega) (zh fun h=>?_) (zh fun h=>?_) w
  ·rw[show a+l2-a=l2 by omega]at h
   rw[hw,if_pos ⟨⟨h0,h3,hlt,h35⟩,h.1,h.2.1,by omega⟩]
  ·rw[show a+l2-a=l2 by omega]at h
   rw[hw,if_neg (by rintro⟨-,h1,h2,h3⟩;exact h ⟨h1,h2,by omega⟩)];omega
 ·refine qko s a n l2 (a+l2) _ hs (zh H1) (zh H2) (by omega) (by omega) (zh (by rw[hw,if_neg (fun h'=>h h'.1)];omega)) w
theorem qmb(s:ByteArray)(a:Nat)(l1:Int)(n z l:Nat)(R:Int)(hs:s.size<=1048576)(h0:a<n)(h1:n<s.size)(h46:bt s n=46)(hz0:0<z)(hz:n+1+z<s.size)(H1:Hid (qem s (a:Nat) 10 true l1))(eL:(a:Int)+l1=(n:Int))(H2:Hid (qem s ((n:Int)+1) 10 true z))
 (hE:isEA s (n+1+z)=true) (hl:n+1+z+2+l<=s.size+2)
 (h:(qem s ((n:Int)+1+z+1) 10 true l/\(n+1+z+1=s.size\/(n+1+z+1<s.size/\ ¬(bt s (n+1+z+1)=43\/bt s (n+1+z+1)=45)))/\(0<l->R=(n:Int)+1+z+1+l-a)/\(l=0->R=(n:Int)+1+z-a))\/
  (qem s ((n:Int)+1+z+1+1) 10 true l/\n+1+z+1<s.size/\(bt s (n+1+z+1)=43\/bt s (n+1+z+1)=45)/\(0<l->R=(n:Int)+1+z+1+1+l-a)/\(l=0->R=(n:Int)+1+z-a))):qm6 s a R:=by
 intro w
 have g0:((n:Int)==(a:Int))=false:=beq_false_of_ne (by omega)
 have gx:=get_bt s n h1
 rw[h46]at gx
 clear h46
 have g1:((z:Int)==0)=false:=beq_false_of_ne (by omega)
 have gy:=get_bt s (n+1+z) hz
 obtain⟨c,hc⟩: ∃c,c=bt s (n+1+z):=⟨_,rfl⟩
 have hE2:(c==101)=true\/((c==101)=false/\(c==69)=true):=by
  unfold isEA at hE
  rw[<-hc]at hE
  cases h1:(c==101)
  ·rw[h1,Bool.or_false]at hE;exact .inr ⟨rfl,hE⟩
  ·exact .inl rfl
 rw[<-hc]at gy
 clear hc hE
 rcases h with⟨H3,hs2,hR1,hR2⟩ | ⟨H3,hs2,hsg,hR1,hR2⟩
 ·have H3:=zh H3
  have hR1:=zh hR1
  have hR2:=zh hR2
  rcases hs2 with hs2 | ⟨hs2,hsg⟩
  ·rcases hE2 with e1 | ⟨e1,e2⟩
   all_goals
    by_cases hl0:0<l
    ·have HF:=zh (hR1.out hl0)
     go_enter Tryz.func87,Tryz.ntmps87
     go_wp2_with fail
     refine(H1.out _).mono ?_
     rintro e w' ⟨rfl,q1,rfl⟩
     go_wp2_with fail
     refine(H2.out _).mono ?_
     rintro e w' ⟨rfl,q2,rfl⟩
     go_wp2_with fail
     refine(H3.out _).mono ?_
     rintro e w' ⟨rfl,q3,rfl⟩
     go_wp2_with fail
     go_ret
     exact⟨qe7 (by have:=HF.out;omega),_,rfl⟩
    ·obtain rfl:l=0:=by omega
     have HF:=zh (hR2.out rfl)
     go_enter Tryz.func87,Tryz.ntmps87
     go_wp2_with fail
     refine(H1.out _).mono ?_
     rintro e w' ⟨rfl,q1,rfl⟩
     go_wp2_with fail
     refine(H2.out _).mono ?_
     rintro e w' ⟨rfl,q2,rfl⟩
     go_wp2_with fail
     refine(H3.out _).mono ?_
     rintro e w' ⟨rfl,q3,rfl⟩
     go_wp2_with fail
     go_ret
     exact⟨qe7 (by have:=HF.out;omega),_,rfl⟩
  ·have gd:=get_bt s (n+1+z+1) hs2
   have s1:(bt s (n+1+z+1)==43)=false:=beq_false_of_ne (fun h=>hsg (.inl h))
   have s2:(bt s (n+1+z+1)==45)=false:=beq_false_of_ne (fun h=>hsg (.inr h))
   obtain⟨d,hd⟩: ∃d,d=bt s (n+1+z+1):=⟨_,rfl⟩
   rw[<-hd]at gd s1 s2
   clear hd hsg
   rcases hE2 with e1 | ⟨e1,e2⟩
   all_goals
    by_cases hl0:0<l
    ·have HF:=zh (hR1.out hl0)
     go_enter Tryz.func87,Tryz.ntmps87
     go_wp2_with fail
     refine(H1.out _).mono ?_
     rintro e w' ⟨rfl,q1,rfl⟩
     go_wp2_with fail
     refine(H2.out _).mono ?_
     rintro e w' ⟨rfl,q2,rfl⟩
     go_wp2_with fail
     refine(H3.out _).mono ?_
     rintro e w' ⟨rfl,q3,rfl⟩
     go_wp2_with fail
     go_ret
     exact⟨qe7 (by have:=HF.out;omega),_,rfl⟩
    ·obtain rfl:l=0:=by omega
     have HF:=zh (hR2.out rfl)
     go_enter Tryz.func87,Tryz.ntmps87
     go_wp2_with fail
     refine(H1.out _).mono ?_
     rintro e w' ⟨rfl,q1,rfl⟩
     go_wp2_with fail
     refine(H2.out _).mono ?_
     rintro e w' ⟨rfl,q2,rfl⟩
     go_wp2_with fail
     refine(H3.out _).mono ?_
     rintro e w' ⟨rfl,q3,rfl⟩
     go_wp2_with fail
     go_ret
     exact⟨qe7 (by have:=HF.out;omega),_,rfl⟩
 ·have H3:=zh H3
  have hR1:=zh hR1
  have hR2:=zh hR2
  have gd:=get_bt s (n+1+z+1) hs2
  obtain⟨d,hd⟩: ∃d,d=bt s (n+1+z+1):=⟨_,rfl⟩
  have hS:(d==43)=true\/((d==43)=false/\(d==45)=true):=by
   rw[<-hd]at hsg
   rcases hsg with h | h
   ·rw[h];exact .inl rfl
   ·rw[h];exact .inr ⟨rfl,rfl⟩
  rw[<-hd]at gd
  clear hd hsg
  rcases hE2 with e1 | ⟨e1,e2⟩
  all_goals
   rcases hS with s1 | ⟨s1,s2⟩
   all_goals
    by_cases hl0:0<l
    ·have HF:=zh (hR1.out hl0)
     go_enter Tryz.func87,Tryz.ntmps87
     go_wp2_with fail
     refine(H1.out _).mono ?_
     rintro e w' ⟨rfl,q1,rfl⟩
     go_wp2_with fail
     refine(H2.out _).mono ?_
     rintro e w' ⟨rfl,q2,rfl⟩
     go_wp2_with fail
     refine(H3.out _).mono ?_
     rintro e w' ⟨rfl,q3,rfl⟩
     go_wp2_with fail
     go_ret
     exact⟨qe7 (by have:=HF.out;omega),_,rfl⟩
    ·obtain rfl:l=0:=by omega
     have HF:=zh (hR2.out rfl)
     go_enter Tryz.func87,Tryz.ntmps87
     go_wp2_with fail
     refine(H1.out _).mono ?_
     rintro e w' ⟨rfl,q1,rfl⟩
     go_wp2_with fail
     refine(H2.out _).mono ?_
     rintro e w' ⟨rfl,q2,rfl⟩
     go_wp2_with fail
     refine(H3.out _).mono ?_
     rintro e w' ⟨rfl,q3,rfl⟩
     go_wp2_with fail
     go_ret
     exact⟨qe7 (by have:=HF.out;omega),_,rfl⟩
theorem qfn(s:ByteArray)(a:Nat)(ha:a<=s.size)(hs:s.size<=1048576):qm6 s a ((bke s a:Int)-a):=by
 obtain⟨n,hn⟩: ∃n,n=ru s 10 a true a:=⟨_,rfl⟩
 obtain⟨K,hK⟩: ∃K,K=ru s 10 (n+1) true (n+1):=⟨_,rfl⟩
 obtain⟨j,hj⟩: ∃j,j=exb s (K+1):=⟨_,rfl⟩
 obtain⟨L,hL⟩: ∃L,L=ru s 10 j true j:=⟨_,rfl⟩
 have hb:=qhk hn hK hj hL
 obtain⟨l1,hl1,hl1s,H1⟩:=qhy s a 10 true ha hs (by omega)
 rw[<-hn]at hl1
 have eL:(a:Int)+(l1:Int)=(n:Int):=by omega
 have han:a<=n:=by omega
 have hns:n<=s.size:=by omega
 by_cases hp:a<n/\n<s.size/\bt s n=46
 ·rw[if_pos hp]at hb
  obtain⟨p0,p1,p2⟩:=hp
  obtain⟨z,hz1,hz2,H2⟩:=qhy s (n+1) 10 true p1 hs (by omega)
  rw[<-hK]at hz1
  rw[show((n+1:Nat):Int)=(n:Int)+1 from rfl]at H2
  by_cases c2:K<s.size/\ise (bt s K)=true
  ·by_cases hz0:z=0
   ·rw[if_pos (by omega)]at hb
    exact qma s a l1 n z _ hs p0 p1 p2 hz2 (zh H1) eL (zh H2) (zh ⟨fun _=>by rw[hb];omega,fun h=>by omega⟩) (.inl hz0)
   ·rw[if_neg (by omega),if_pos c2]at hb
    obtain⟨c3,c4⟩:=c2
    have hjs:j=K+1\/j=K+1+1:=by rw[hj];unfold exb;split<;>simp
    rw[hz1]at c3 c4 hb
    by_cases hsg:bt s (n+1+z+1)=43\/bt s (n+1+z+1)=45
    ·have hj2:j=n+1+z+1+1:=by rw[hj,hz1];unfold exb;rw[if_pos hsg]
     have hlt:n+1+z+1<s.size:=by
      apply Classical.byContradiction
      intro h'
      rw[bt_end s (by omega)]at hsg
      omega
     obtain⟨l,hl1',hl2,H3⟩:=qhy s j 10 true (by omega) hs (by omega)
     rw[<-hL]at hl1'
     have ej:((j:Nat):Int)=(n:Int)+1+z+1+1:=by omega
     rw[ej]at H3
     refine qmb s a l1 n z l _ hs p0 p1 p2 (by omega) c3 (zh H1) eL (zh H2) c4 (by omega) (.inr ⟨H3,hlt,hsg,fun h=>?_,fun h=>?_⟩)
     ·rw[hb,if_pos (by omega)];omega
     ·rw[hb,if_neg (by omega)];omega
    ·have hj2:j=n+1+z+1:=by rw[hj,hz1];unfold exb;rw[if_neg hsg]
     obtain⟨l,hl1',hl2,H3⟩:=qhy s j 10 true (by omega) hs (by omega)
     rw[<-hL]at hl1'
     have ej:((j:Nat):Int)=(n:Int)+1+z+1:=by omega
     rw[ej]at H3
     refine qmb s a l1 n z l _ hs p0 p1 p2 (by omega) c3 (zh H1) eL (zh H2) c4 (by omega) (.inl ⟨H3,?_,fun h=>?_,fun h=>?_⟩)
     ·by_cases h:n+1+z+1<s.size
      ·exact .inr ⟨h,hsg⟩
      ·exact .inl (by omega)
     ·rw[hb,if_pos (by omega)];omega
     ·rw[hb,if_neg (by omega)];omega
  ·refine qma s a l1 n z _ hs p0 p1 p2 hz2 (zh H1) eL (zh H2) (zh ⟨fun h=>?_,fun h=>?_⟩) ?_
   ·rw[hb,if_pos (by omega)];omega
   ·rw[hb,if_neg (by omega),if_neg c2];omega
   ·by_cases h:z=0
    ·exact .inl h
    ·by_cases h':n+1+z<s.size
     ·refine .inr (.inr ⟨by omega,h',?_⟩)
      cases he:isEA s (n+1+z)
      ·rfl
      ·exact absurd ⟨by omega,by rw[hz1];exact he⟩ c2
     ·exact .inr (.inl ⟨by omega,by omega⟩)
 ·rw[if_neg hp]at hb
  rw[hb,Int.sub_self]
  exact qxo s a l1 n hs hns han (zh H1) eL hp
theorem qj5(s:ByteArray)(p:Nat)(hp:p<s.size)(hs:s.size<=1048576)(hf:bke s p≠p)(w:World):
 Calls Tryz.prog 53 #[.string s,.int .i64 p] w fun e w'=>e=.returned (qel s p (num s p))/\Below w.heap.size w w':=by
 have hbd:=qwb s p (by omega)
 have H1:=zh (qfn s p (by omega) hs)
 have hnum:num s p=if bke s p<s.size/\inn (bt s (bke s p))=true then(0,0)else(4,bke s p):=by
  have hne:ne s p=bke s p:=by unfold ne;rw[if_neg hf]
  unfold num
  rw[hne]
  by_cases c:bke s p<s.size/\inn (bt s (bke s p))=true
  ·rw[if_pos (.inr c),if_pos c]
  ·rw[if_neg (by rintro(h | h);exact hf h;exact c h),if_neg (fun h=>hf h.1),if_neg hf,if_neg c]
 obtain⟨E,hE⟩: ∃E,E=bke s p:=⟨_,rfl⟩
 rw[<-hE]at hnum H1 hbd hf
 clear hE
 obtain⟨n,hn⟩: ∃n:Int,n=(E:Int)-p:=⟨_,rfl⟩
 rw[<-hn]at H1
 have eL:(p:Int)+n=(E:Int):=by omega
 have n0:(n==0)=false:=beq_false_of_ne (by omega)
 clear hn
 obtain⟨V,hV⟩: ∃V,V=qel s p (num s p):=⟨_,rfl⟩
 rw[<-hV]
 have HV:=zh (hV.trans (by rw[hnum]))
 clear hV hnum
 have hbd6:=fun(k:Int) (t:ByteArray) (a:Int) (W:World)=>qbc k t a W
 have hbd0:=fun(W:World)=>qbb W
 have k1:(p:Int)<=(E:Int):=by omega
 have k2:(E:Int)<=(s.size:Int):=by omega
 have hsd:=qbn
 by_cases h1:E<s.size
 ·have gx:=get_bt s E h1
  have HI:=zh (fun W=>qfg (bt s E) W)
  have g1:(E:Int)< (s.size:Int):=by omega
  cases hi:inn (bt s E)
  ·have HF:Hid (.tuple #[.agg #[.int .i64 4,.string (s.extract p E),.int .i64 p],.int .i64 0]=V):=zh (by rw[HV.out,if_neg (fun h=>by rw[hi]at h;cases h.2)];rfl)
   rw[hi]at HI
   obtain⟨c,hc⟩: ∃c,c=bt s E:=⟨_,rfl⟩
   rw[<-hc]at gx HI
   clear hc hi
   go_enter Tryz.func53,Tryz.ntmps53
   go_wp2_with fail
   refine(H1.out _).mono ?_
   rintro e w' ⟨rfl,q1,rfl⟩
   go_wp2_with fail
   refine(HI.out _).mono ?_
   rintro e w' ⟨rfl,rfl⟩
   go_wp2_with fail
   refine bodyPost_ret (v:=.tuple #[.agg #[.int .i64 4,.string (s.extract p E),.int .i64 p],.int .i64 0]) (by simp[results,Tryz.results53,go_sem]) rfl ⟨congrArg Ending.returned HF.out,qen _ _ _⟩
  ·have HF:Hid (.tuple #[.agg #[.int .i64 0,.string ⟨#[]⟩,.int .i64 0],.int .i64 4]=V):=zh (by rw[HV.out,if_pos ⟨h1,hi⟩];rfl)
   rw[hi]at HI
   obtain⟨c,hc⟩: ∃c,c=bt s E:=⟨_,rfl⟩
   rw[<-hc]at gx HI
   clear hc hi
   go_enter Tryz.func53,Tryz.ntmps53
   go_wp2_with fail
   refine(H1.out _).mono ?_
   rintro e w' ⟨rfl,q1,rfl⟩
   go_wp2_with fail
   refine(HI.out _).mono ?_
   rintro e w' ⟨rfl,rfl⟩
   go_wp2_with fail
   refine bodyPost_ret (v:=.tuple #[.agg #[.int .i64 0,.string ⟨#[]⟩,.int .i64 0],.int .i64 4]) (by simp[results,Tryz.results53,go_sem]) rfl ⟨congrArg Ending.returned HF.out,qen _ _ _⟩
 ·have HF:Hid (.tuple #[.agg #[.int .i64 4,.string (s.extract p E),.int .i64 p],.int .i64 0]=V):=zh (by rw[HV.out,if_neg (fun h=>h1 h.1)];rfl)
  have g1: ¬(E:Int)< (s.size:Int):=by omega
  go_enter Tryz.func53,Tryz.ntmps53
  go_wp2_with fail
  refine(H1.out _).mono ?_
  rintro e w' ⟨rfl,q1,rfl⟩
  go_wp2_with fail
  refine bodyPost_ret (v:=.tuple #[.agg #[.int .i64 4,.string (s.extract p E),.int .i64 p],.int .i64 0]) (by simp[results,Tryz.results53,go_sem]) rfl ⟨congrArg Ending.returned HF.out,qen _ _ _⟩
theorem qyl{s:ByteArray}{p k:Nat}(hp:p<=k)(hk:k<s.size):decide (ix s 35 p<k+1)=(decide (ix s 35 p<k)||(bt s k==35)):=by
 rw[Bool.eq_iff_iff,Bool.or_eq_true,decide_eq_true_iff,decide_eq_true_iff,beq_iff_eq,qyk (by omega) (by omega),qyk (by omega) (by omega)]
 constructor
 ·rintro⟨i,i1,i2,i3⟩
  by_cases h:i=k
  ·rw[<-h];exact .inr i3
  ·exact .inl ⟨i,i1,by omega,i3⟩
 ·rintro(⟨i,i1,i2,i3⟩ | h)
  ·exact⟨i,i1,by omega,i3⟩
  ·exact⟨k,hp,by omega,h⟩
theorem qlm(s:ByteArray)(p:Nat)(hp:p<s.size)(hs:s.size<=1048576)(hf:bke s p=p)(w:World):
 Calls Tryz.prog 53 #[.string s,.int .i64 p] w fun e w'=>e=.returned (qel s p (num s p))/\Below w.heap.size w w':=by
 have hbd:=qxi s p (by omega)
 have H1:=qfn s p (by omega) hs
 rw[hf,Int.sub_self]at H1
 have H1:=zh H1
 have H2:=zh (fun W=>qlg s p (by omega) hs W)
 have HG:=zh (get_bt s)
 have hnum:num s p=if whe s p=p\/(whe s p<s.size/\inn (bt s (whe s p))=true)then(0,0)else if whe s p<s.size/\bt s (whe s p)=35/\ ¬ix s 35 p<whe s p then(0,0)else(3,whe s p):=by
  have hne:ne s p=whe s p:=by unfold ne;rw[if_pos hf]
  unfold num
  rw[hne]
  by_cases c:whe s p=p\/(whe s p<s.size/\inn (bt s (whe s p))=true)
  ·rw[if_pos c,if_pos c]
  ·rw[if_neg c,if_neg c,if_pos hf]
   by_cases c2:whe s p<s.size/\bt s (whe s p)=35/\ ¬ix s 35 p<whe s p
   ·rw[if_pos ⟨hf,c2⟩,if_pos c2]
   ·rw[if_neg (fun h=>c2 h.2),if_neg c2]
 obtain⟨E,hE⟩: ∃E,E=whe s p:=⟨_,rfl⟩
 rw[<-hE]at hnum hbd
 have H2:Hid (∀W,Calls Tryz.prog 88 #[.string s,.int .i64 p] W fun e w'=>e=.returned (.int .i64 ((E:Int)-p))/\ ∃n,w'=W.drewN n):=zh fun W=>by rw[hE];exact H2.out W
 clear hE hf
 obtain⟨n,hn⟩: ∃n:Int,n=(E:Int)-p:=⟨_,rfl⟩
 rw[<-hn]at H2
 have eL:(p:Int)+n=(E:Int):=by omega
 obtain⟨V,hV⟩: ∃V,V=qel s p (num s p):=⟨_,rfl⟩
 rw[<-hV]
 have HV:=zh (hV.trans (by rw[hnum]))
 clear hV hnum
 have hbd6:=fun(k:Int) (t:ByteArray) (a:Int) (W:World)=>qbc k t a W
 have hbd0:=fun(W:World)=>qbb W
 have k1:(p:Int)<=(E:Int):=by omega
 have k2:(E:Int)<=(s.size:Int):=by omega
 have hsd:=qbn
 by_cases h0:E=p
 ·have HF:Hid (.tuple #[.agg #[.int .i64 0,.string ⟨#[]⟩,.int .i64 0],.int .i64 4]=V):=zh (by rw[HV.out,if_pos (.inl h0)];rfl)
  obtain rfl:n=0:=by omega
  clear hn
  go_enter Tryz.func53,Tryz.ntmps53
  go_wp2_with fail
  refine(H1.out _).mono ?_
  rintro e w' ⟨rfl,q1,rfl⟩
  go_wp2_with fail
  refine(H2.out _).mono ?_
  rintro e w' ⟨rfl,q2,rfl⟩
  go_wp2_with fail
  refine bodyPost_ret (v:=.tuple #[.agg #[.int .i64 0,.string ⟨#[]⟩,.int .i64 0],.int .i64 4]) (by simp[results,Tryz.results53,go_sem]) rfl ⟨congrArg Ending.returned HF.out,qen _ _ _⟩
 have n0:(n==0)=false:=beq_false_of_ne (by omega)
 clear hn
 by_cases h1:E<s.size
 ·have gx:=get_bt s E h1
  have HI:=zh (fun W=>qfg (bt s E) W)
  have g1:(E:Int)< (s.size:Int):=by omega
  cases hi:inn (bt s E)
  ·rw[hi]at HI
   by_cases h35:bt s E=35
   ·have HYES:Hid (true=decide (ix s 35 p<E)->.tuple #[.agg #[.int .i64 3,.string (s.extract p E),.int .i64 p],.int .i64 0]=V):=zh fun h=>by
     have h':=of_decide_eq_true h.symm
     rw[HV.out,if_neg (by rintro(g | g);exact h0 g;rw[hi]at g;cases g.2),if_neg (fun g=>g.2.2 h')];rfl
    have HNO:Hid (false=decide (ix s 35 p<E)->.tuple #[.agg #[.int .i64 0,.string ⟨#[]⟩,.int .i64 0],.int .i64 4]=V):=zh fun h=>by
     have h':=of_decide_eq_false h.symm
     rw[HV.out,if_neg (by rintro(g | g);exact h0 g;rw[hi]at g;cases g.2),if_pos ⟨h1,h35,h'⟩];rfl
    have HX0:Hid (false=decide (ix s 35 p<p)):=zh (by
     have:=(qf8 s 35 _ p (zG _) (by omega)).1
     rw[decide_eq_false (by omega)])
    rw[h35]at gx HI
    clear hi h35
    go_enter Tryz.func53,Tryz.ntmps53
    go_wp2_with fail
    refine(H1.out _).mono ?_
    rintro e w' ⟨rfl,q1,rfl⟩
    go_wp2_with fail
    refine(H2.out _).mono ?_
    rintro e w' ⟨rfl,q2,rfl⟩
    go_wp2_with fail
    refine(HI.out _).mono ?_
    rintro e w' ⟨rfl,rfl⟩
    go_wp2_with fail
    go_loopg [9,10] (E-p) (fun gn v i wr=> ∃(k:Nat) (b:Bool),gn=E-k/\p<=k/\k<=E/\v=.bool b/\i=.int .i64 k/\Hid (b=decide (ix s 35 p<k))/\wr=(w.alloc (.cells #[.int .i64 0,.string ⟨#[]⟩,.int .i64 0] 34)).drewN (q1+q2))
    case atStart=>exact⟨p,false,rfl,zG _,by omega,rfl,rfl,HX0,rfl⟩
    case round=>
     obtain⟨k,b,hgn,hpk,hk,rfl,rfl,HB,rfl⟩:=hrel
     by_cases hkE:k<E
     ·have gk:=HG.out k (by omega)
      have HN:=zh (qyl (s:=s) hpk (show k<s.size by omega))
      have kE:(k:Int)< (E:Int):=by omega
      obtain⟨d,hd⟩: ∃d,d=bt s k:=⟨_,rfl⟩
      rw[<-hd]at gk HN
      clear hd
      cases b
      ·cases hv:(d==35)
       ·have HF2:Hid (false=decide (ix s 35 p<k+1)):=zh (by rw[HN.out,<-HB.out,hv];rfl)
        go_wp2_with fail
        go_roundg (E- (k+1))
        case measure=>omega
        case rel=>exact⟨k+1,false,rfl,by omega,hkE,rfl,by go_num,HF2,rfl⟩
       ·have HF2:Hid (true=decide (ix s 35 p<k+1)):=zh (by rw[HN.out,hv,Bool.or_true])
        go_wp2_with fail
        go_roundg (E- (k+1))
        case measure=>omega
        case rel=>exact⟨k+1,true,rfl,by omega,hkE,rfl,by go_num,HF2,rfl⟩
      ·have HF2:Hid (true=decide (ix s 35 p<k+1)):=zh (by rw[HN.out,<-HB.out,zC])
       go_wp2_with fail
       go_roundg (E- (k+1))
       case measure=>omega
       case rel=>exact⟨k+1,true,rfl,by omega,hkE,rfl,by go_num,HF2,rfl⟩
     ·obtain rfl:E=k:=by omega
      cases b
      ·have HF:=zh (HNO.out HB.out)
       go_wp2_with fail
       refine bodyPost_ret (v:=.tuple #[.agg #[.int .i64 0,.string ⟨#[]⟩,.int .i64 0],.int .i64 4]) (by simp[results,Tryz.results53,go_sem]) rfl ⟨congrArg Ending.returned HF.out,qen _ _ _⟩
      ·have HF:=zh (HYES.out HB.out)
       go_wp2_with fail
       refine bodyPost_ret (v:=.tuple #[.agg #[.int .i64 3,.string (s.extract p E),.int .i64 p],.int .i64 0]) (by simp[results,Tryz.results53,go_sem]) rfl ⟨congrArg Ending.returned HF.out,qen _ _ _⟩
   ·have HF:Hid (.tuple #[.agg #[.int .i64 3,.string (s.extract p E),.int .i64 p],.int .i64 0]=V):=zh (by rw[HV.out,if_neg (by rintro(g | g);exact h0 g;rw[hi]at g;cases g.2),if_neg (fun g=>h35 g.2.1)];rfl)
    have c35:(bt s E==35)=false:=beq_false_of_ne h35
    obtain⟨c,hc⟩: ∃c,c=bt s E:=⟨_,rfl⟩
    rw[<-hc]at gx HI c35
    clear hc hi h35
    go_enter Tryz.func53,Tryz.ntmps53
    go_wp2_with fail
    refine(H1.out _).mono ?_
    rintro e w' ⟨rfl,q1,rfl⟩
    go_wp2_with fail
    refine(H2.out _).mono ?_
    rintro e w' ⟨rfl,q2,rfl⟩
    go_wp2_with fail
    refine(HI.out _).mono ?_
    rintro e w' ⟨rfl,rfl⟩
    go_wp2_with fail
    refine bodyPost_ret (v:=.tuple #[.agg #[.int .i64 3,.string (s.extract p E),.int .i64 p],.int .i64 0]) (by simp[results,Tryz.results53,go_sem]) rfl ⟨congrArg Ending.returned HF.out,qen _ _ _⟩
  ·have HF:Hid (.tuple #[.agg #[.int .i64 0,.string ⟨#[]⟩,.int .i64 0],.int .i64 4]=V):=zh (by rw[HV.out,if_pos (.inr ⟨h1,hi⟩)];rfl)
   rw[hi]at HI
   obtain⟨c,hc⟩: ∃c,c=bt s E:=⟨_,rfl⟩
   rw[<-hc]at gx HI
   clear hc hi
   go_enter Tryz.func53,Tryz.ntmps53
   go_wp2_with fail
   refine(H1.out _).mono ?_
   rintro e w' ⟨rfl,q1,rfl⟩
   go_wp2_with fail
   refine(H2.out _).mono ?_
   rintro e w' ⟨rfl,q2,rfl⟩
   go_wp2_with fail
   refine(HI.out _).mono ?_
   rintro e w' ⟨rfl,rfl⟩
   go_wp2_with fail
   refine bodyPost_ret (v:=.tuple #[.agg #[.int .i64 0,.string ⟨#[]⟩,.int .i64 0],.int .i64 4]) (by simp[results,Tryz.results53,go_sem]) rfl ⟨congrArg Ending.returned HF.out,qen _ _ _⟩
 ·have HF:Hid (.tuple #[.agg #[.int .i64 3,.string (s.extract p E),.int .i64 p],.int .i64 0]=V):=zh (by rw[HV.out,if_neg (by rintro(g | g);exact h0 g;exact h1 g.1),if_neg (fun g=>h1 g.1)];rfl)
  have g1: ¬(E:Int)< (s.size:Int):=by omega
  go_enter Tryz.func53,Tryz.ntmps53
  go_wp2_with fail
  refine(H1.out _).mono ?_
  rintro e w' ⟨rfl,q1,rfl⟩
  go_wp2_with fail
  refine(H2.out _).mono ?_
  rintro e w' ⟨rfl,q2,rfl⟩
  go_wp2_with fail
  refine bodyPost_ret (v:=.tuple #[.agg #[.int .i64 3,.string (s.extract p E),.int .i64 p],.int .i64 0]) (by simp[results,Tryz.results53,go_sem]) rfl ⟨congrArg Ending.returned HF.out,qen _ _ _⟩
theorem qll(s:ByteArray)(p:Nat)(hp:p<s.size)(hs:s.size<=1048576)(w:World):
 Calls Tryz.prog 53 #[.string s,.int .i64 p] w fun e w'=>e=.returned (qel s p (num s p))/\Below w.heap.size w w':=by
 by_cases hf:bke s p=p
 ·exact qlm s p hp hs hf w
 ·exact qj5 s p hp hs hf w
theorem qvi(s:ByteArray)(k:Nat)(hk:k<s.size)(hs:s.size<=1048576)(h:bt s k=37)(w:World):
 Calls Tryz.prog 33 #[.string s,.int .i64 k] w fun e w'=>e=.returned (qel s k (one s k))/\Below w.heap.size w w':=by
 obtain⟨V,hV⟩: ∃V,V=qel s k (one s k):=⟨_,rfl⟩
 rw[<-hV]
 have hbd6:=fun(k:Int) (t:ByteArray) (a:Int) (W:World)=>qbc k t a W
 have hbd0:=fun(W:World)=>qbb W
 have hsd:=qbn
 have g0: ¬(k:Int)<0:=by omega
 have g1: ¬(s.size:Int)<=(k:Int):=by omega
 have gx:=get_bt s k hk
 have hix:=qf8 s 10 _ k (zG _) (by omega)
 rw[one_37 h]at hV
 obtain⟨E,hE⟩: ∃E,E=ix s 10 k:=⟨_,rfl⟩
 rw[<-hE]at hV hix
 have hT:=qw4 (s:=s) (a:=k) (E:=E) hix.1 hix.2.1
 have HT:=zh (fun W=>qrt (s.extract k E) (by rw[qd0 s k E hix.2.1];omega) W)
 rw[hT]at HT
 have HF:Hid (.tuple #[.agg #[.int .i64 11,.string (s.extract k (tr s k E)),.int .i64 k],.int .i64 0]=V):=zh (by rw[hV];rfl)
 obtain⟨X,hX⟩: ∃X,X=s.extract k (tr s k E):=⟨_,rfl⟩
 rw[<-hX]at HF HT
 have HE:=zh hE
 have HG:=zh (get_bt s)
 have hEs:=hix.2.1
 have hkE:=hix.1
 rw[h]at gx
 clear hX hE hT hix hV h
 go_enter Tryz.func33,Tryz.ntmps33
 go_wp2_with fail
 go_loopg [9] (s.size-k) (fun gn i wr=> ∃j:Nat,gn=s.size-j/\k<=j/\j<=s.size/\i=.int .i64 j/\wr=(w.alloc (.cells #[.int .i64 0,.string ⟨#[]⟩,.int .i64 0] 34))/\Hid (E=ix s 10 j))
 case atStart=>exact⟨k,rfl,zG _,by omega,rfl,rfl,HE⟩
 case round=>
  obtain⟨j,hgn,hkj,hj,rfl,rfl,HJ⟩:=hrel
  by_cases hlt:j<s.size
  ·have gj:=HG.out j hlt
   have jl:(j:Int)< (s.size:Int):=by omega
   by_cases hc:bt s j=10
   ·obtain rfl:E=j:=by rw[HJ.out,ix,dif_pos hlt,if_pos hc]
    rw[hc]at gj
    clear hc
    have kj:(k:Int)<=(E:Int):=by omega
    have js:(E:Int)<=(s.size:Int):=by omega
    go_wp2_with fail
    refine(HT.out _).mono ?_
    rintro e w' ⟨rfl,rfl⟩
    go_wp2_with fail
    refine bodyPost_ret (v:=.tuple #[.agg #[.int .i64 11,.string (X),.int .i64 k],.int .i64 0]) (by simp[results,Tryz.results33,go_sem]) rfl ⟨congrArg Ending.returned HF.out,qa1 _ _⟩
   ·have HF2:Hid (E=ix s 10 (j+1)):=zh (by rw[HJ.out,ix,dif_pos hlt,if_neg hc])
    have hcn:(bt s j !=10)=true:=by simpa using hc
    obtain⟨d,hd⟩: ∃d,d=bt s j:=⟨_,rfl⟩
    rw[<-hd]at gj hcn
    clear hd hc
    go_wp2_with fail
    go_roundg (s.size- (j+1))
    case measure=>omega
    case rel=>exact⟨j+1,rfl,by omega,hlt,by go_num,rfl,HF2⟩
  ·obtain rfl:j=s.size:=by omega
   obtain rfl:E=s.size:=by rw[HJ.out,ix,dif_neg hlt]
   have kj:(k:Int)<=(s.size:Int):=by omega
   go_wp2_with fail
   refine(HT.out _).mono ?_
   rintro e w' ⟨rfl,rfl⟩
   go_wp2_with fail
   refine bodyPost_ret (v:=.tuple #[.agg #[.int .i64 11,.string (X),.int .i64 k],.int .i64 0]) (by simp[results,Tryz.results33,go_sem]) rfl ⟨congrArg Ending.returned HF.out,qa1 _ _⟩
theorem qvj(s:ByteArray)(k:Nat)(hk:k<s.size)(hs:s.size<=1048576)(h:bt s k=46)(h2:k+1=s.size\/bt s (k+1)=37\/k+1<fw bl s (k+1))(w:World):
 Calls Tryz.prog 33 #[.string s,.int .i64 k] w fun e w'=>e=.returned (qel s k (one s k))/\Below w.heap.size w w':=by
 obtain⟨V,hV⟩: ∃V,V=qel s k (one s k):=⟨_,rfl⟩
 rw[<-hV]
 have hbd6:=fun(k:Int) (t:ByteArray) (a:Int) (W:World)=>qbc k t a W
 have hbd0:=fun(W:World)=>qbb W
 have hsd:=qbn
 have g0: ¬(k:Int)<0:=by omega
 have g1: ¬(s.size:Int)<=(k:Int):=by omega
 have gx:=get_bt s k hk
 rw[qzf h h2]at hV
 have HF:Hid (.tuple #[.agg #[.int .i64 10,.string (s.extract k (k+1)),.int .i64 k],.int .i64 0]=V):=zh (by rw[hV];rfl)
 rw[h]at gx
 clear hV h
 have kl:(k:Int)+1<=(s.size:Int):=by omega
 by_cases c1:k+1=s.size
 ·have c1':((k:Int)+1==(s.size:Int))=true:=beq_iff_eq.2 (by omega)
  clear h2 c1
  go_enter Tryz.func33,Tryz.ntmps33
  go_wp2_with fail
  refine bodyPost_ret (v:=.tuple #[.agg #[.int .i64 10,.string (s.extract k (k+1)),.int .i64 k],.int .i64 0]) (by simp[results,Tryz.results33,go_sem]) rfl ⟨congrArg Ending.returned HF.out,qa1 _ _⟩
 have c1':((k:Int)+1==(s.size:Int))=false:=beq_false_of_ne (by omega)
 have kl3:k+1<s.size:=by omega
 have gy:=get_bt s (k+1) kl3
 have kl2:(k:Int)+1< (s.size:Int):=by omega
 by_cases c2:bt s (k+1)=37
 ·rw[c2]at gy
  clear h2 c2
  go_enter Tryz.func33,Tryz.ntmps33
  go_wp2_with fail
  refine bodyPost_ret (v:=.tuple #[.agg #[.int .i64 10,.string (s.extract k (k+1)),.int .i64 k],.int .i64 0]) (by simp[results,Tryz.results33,go_sem]) rfl ⟨congrArg Ending.returned HF.out,qa1 _ _⟩
 have h3:k+1<fw bl s (k+1):=by rcases h2 with g | g | g;exact absurd g c1;exact absurd g c2;exact g
 have HB:=zh (fun W=>qff s (k+1) (by omega) hs W)
 have c2':(bt s (k+1)==37)=false:=beq_false_of_ne c2
 rw[show((k+1:Nat):Int)=(k:Int)+1 by omega]at HB
 obtain⟨d,hd⟩: ∃d,d=bt s (k+1):=⟨_,rfl⟩
 rw[<-hd]at gy c2'
 obtain⟨E,hE⟩: ∃E,E=fw bl s (k+1):=⟨_,rfl⟩
 rw[<-hE]at HB h3
 have h3':(k:Int)+1< (E:Int):=by omega
 clear hd hE h2 c2 c1
 go_enter Tryz.func33,Tryz.ntmps33
 go_wp2_with fail
 refine(HB.out _).mono ?_
 rintro e w' ⟨rfl,rfl⟩
 go_wp2_with fail
 refine bodyPost_ret (v:=.tuple #[.agg #[.int .i64 10,.string (s.extract k (k+1)),.int .i64 k],.int .i64 0]) (by simp[results,Tryz.results33,go_sem]) rfl ⟨congrArg Ending.returned HF.out,qa1 _ _⟩
theorem qvk(s:ByteArray)(k:Nat)(hk:k<s.size)(hs:s.size<=1048576)(h:beg (bt s k)=3)(w:World):
 Calls Tryz.prog 33 #[.string s,.int .i64 k] w fun e w'=>e=.returned (qel s k (one s k))/\Below w.heap.size w w':=by
 obtain⟨V,hV⟩: ∃V,V=qel s k (one s k):=⟨_,rfl⟩
 rw[<-hV]
 have hbd6:=fun(k:Int) (t:ByteArray) (a:Int) (W:World)=>qbc k t a W
 have hbd0:=fun(W:World)=>qbb W
 have hsd:=qbn
 have g0: ¬(k:Int)<0:=by omega
 have g1: ¬(s.size:Int)<=(k:Int):=by omega
 have gx:=get_bt s k hk
 have HB:=zh (fun W=>qbs (bt s k) W)
 rw[h]at HB
 have HN:=zh (fun W=>qll s k hk hs W)
 rw[qzg h]at hV
 have c37:(bt s k==37)=false:=beq_false_of_ne (fun e=>by rw[e]at h;exact absurd h (by decide))
 have c46:(bt s k==46)=false:=beq_false_of_ne (fun e=>by rw[e]at h;exact absurd h (by decide))
 obtain⟨c,hc⟩: ∃c,c=bt s k:=⟨_,rfl⟩
 rw[<-hc]at gx c37 c46 HB
 clear hc h
 by_cases h0:(num s k).1=0
 ·rw[qly s k h0]at hV
  have HN2:Hid (∀W,Calls Tryz.prog 53 #[.string s,.int .i64 k] W fun e w'=>e=.returned (.tuple #[.agg #[.int .i64 0,.string ⟨#[]⟩,.int .i64 0],.int .i64 4])/\Below W.heap.size W w'):=zh fun W=>by have:=HN.out W;rw[qly s k h0]at this;exact this
  have HF:=zh hV.symm
  clear HN hV h0
  go_enter Tryz.func33,Tryz.ntmps33
  go_wp2_with fail
  refine(HB.out _).mono ?_
  rintro e w' ⟨rfl,rfl⟩
  go_wp2_with fail
  refine(HN2.out _).mono ?_
  rintro e w1 ⟨rfl,hb1⟩
  have HR:=zh (qe9 (hb1.mono (by simp)))
  have HB1:=zh ((qa1 w _).trans (hb1.mono (by simp)))
  clear hb1
  have q0:=cell_of_row w1 _ 0 _ _ _ HR.out
  have q1:=cell_of_row w1 _ 1 _ _ _ HR.out
  have q2:=cell_of_row w1 _ 2 _ _ _ HR.out
  simp only[zF,zE,zD]at q0 q1 q2
  have f0:=qaw HR.out 0
  have f1:=qaw HR.out 1
  have f2:=qaw HR.out 2
  go_wp2_with fail
  refine bodyPost_ret (v:=.tuple #[.agg #[.int .i64 0,.string ⟨#[]⟩,.int .i64 0],.int .i64 4]) (by simp[results,Tryz.results33,go_sem,q0,q1,q2]) rfl ⟨congrArg Ending.returned HF.out,qtc HB1.out _ _ _⟩
 ·rw[qcm s k h0]at hV
  have HN2:Hid (∀W,Calls Tryz.prog 53 #[.string s,.int .i64 k] W fun e w'=>e=.returned (.tuple #[.agg #[.int .i64 (num s k).1,.string (s.extract k (num s k).2),.int .i64 k],.int .i64 0])/\Below W.heap.size W w'):=zh fun W=>by have:=HN.out W;rw[qcm s k h0]at this;exact this
  have HF:=zh hV.symm
  obtain⟨kd,hkd⟩: ∃kd,kd=(num s k).1:=⟨_,rfl⟩
  obtain⟨X,hX⟩: ∃X,X=s.extract k (num s k).2:=⟨_,rfl⟩
  rw[<-hkd,<-hX]at HN2 HF
  clear HN hV h0 hkd hX
  go_enter Tryz.func33,Tryz.ntmps33
  go_wp2_with fail
  refine(HB.out _).mono ?_
  rintro e w' ⟨rfl,rfl⟩
  go_wp2_with fail
  refine(HN2.out _).mono ?_
  rintro e w1 ⟨rfl,hb1⟩
  have HR:=zh (qe9 (hb1.mono (by simp)))
  have HB1:=zh ((qa1 w _).trans (hb1.mono (by simp)))
  clear hb1
  have q0:=cell_of_row w1 _ 0 _ _ _ HR.out
  have q1:=cell_of_row w1 _ 1 _ _ _ HR.out
  have q2:=cell_of_row w1 _ 2 _ _ _ HR.out
  simp only[zF,zE,zD]at q0 q1 q2
  have f0:=qaw HR.out 0
  have f1:=qaw HR.out 1
  have f2:=qaw HR.out 2
  go_wp2_with fail
  refine bodyPost_ret (v:=.tuple #[.agg #[.int .i64 kd,.string (X),.int .i64 k],.int .i64 0]) (by simp[results,Tryz.results33,go_sem,q0,q1,q2]) rfl ⟨congrArg Ending.returned HF.out,qtc HB1.out _ _ _⟩
theorem qrq(s:ByteArray)(k:Nat)(hk:k<s.size)(hs:s.size<=1048576)(h3:beg (bt s k)≠3)(h0:0<beg (bt s k))(w:World):
 Calls Tryz.prog 33 #[.string s,.int .i64 k] w fun e w'=>e=.returned (qel s k (one s k))/\Below w.heap.size w w':=by
 obtain⟨V,hV⟩: ∃V,V=qel s k (one s k):=⟨_,rfl⟩
 rw[<-hV]
 have hbd6:=fun(k:Int) (t:ByteArray) (a:Int) (W:World)=>qbc k t a W
 have hbd0:=fun(W:World)=>qbb W
 have hsd:=qbn
 have g0: ¬(k:Int)<0:=by omega
 have g1: ¬(s.size:Int)<=(k:Int):=by omega
 have gx:=get_bt s k hk
 have HB:=zh (fun W=>qbs (bt s k) W)
 have HI:=zh (fun W=>qeg s k (by omega) hs W)
 rw[qv3 h3 h0]at hV
 have hlt:k<fw inn s k:=fw_lt.2 ⟨hk,qf7 h0⟩
 have hle:=qjp inn s k (by omega)
 obtain⟨N,hN⟩: ∃N,fw inn s k=k+N:=⟨fw inn s k-k,by omega⟩
 rw[hN]at hV HI hlt hle
 have HRS:=zh (fun W=>qj7 (s.extract k (k+N)) W)
 have c37:(bt s k==37)=false:=beq_false_of_ne (fun e=>by rw[e]at h0;exact absurd h0 (by decide))
 have c46:(bt s k==46)=false:=beq_false_of_ne (fun e=>by rw[e]at h0;exact absurd h0 (by decide))
 have hbr:=qg6 (bt s k)
 have b3:(beg (bt s k)==3)=false:=beq_false_of_ne h3
 obtain⟨v,hv⟩: ∃v,v=beg (bt s k):=⟨_,rfl⟩
 rw[<-hv]at HB hV b3 h0 hbr
 obtain⟨c,hc⟩: ∃c,c=bt s k:=⟨_,rfl⟩
 rw[<-hc]at gx c37 c46 HB
 rw[show((k+N:Nat):Int)=(k:Int)+(N:Int)by omega]at HI
 have N0:((N:Int)==0)=false:=beq_false_of_ne (by omega)
 have k2:(k:Int)<=(k:Int)+(N:Int):=by omega
 have k3:(k:Int)+(N:Int)<=(s.size:Int):=by omega
 clear hc hv hN hlt h3
 cases hr:rs (s.extract k (k+N))
 ·have HF:Hid (.tuple #[.agg #[.int .i64 v,.string (s.extract k (k+N)),.int .i64 k],.int .i64 0]=V):=zh (by rw[hV,hr,if_neg zB,qcm s k (by show v≠0;omega)])
  rw[hr]at HRS
  clear hV hr
  go_enter Tryz.func33,Tryz.ntmps33
  go_wp2_with fail
  refine(HB.out _).mono ?_
  rintro e w' ⟨rfl,rfl⟩
  go_wp2_with fail
  refine(HB.out _).mono ?_
  rintro e w' ⟨rfl,rfl⟩
  go_wp2_with fail
  refine(HB.out _).mono ?_
  rintro e w' ⟨rfl,rfl⟩
  go_wp2_with fail
  refine(HI.out _).mono ?_
  rintro e w' ⟨rfl,rfl⟩
  go_wp2_with fail
  refine(HRS.out _).mono ?_
  rintro e w1 ⟨rfl,hb1⟩
  have HR:=zh (qe9 (hb1.mono (by simp)))
  have HB1:=zh ((qa1 w _).trans (hb1.mono (by simp)))
  clear hb1
  have q0:=cell_of_row w1 _ 0 _ _ _ HR.out
  have q1:=cell_of_row w1 _ 1 _ _ _ HR.out
  have q2:=cell_of_row w1 _ 2 _ _ _ HR.out
  simp only[zF,zE,zD]at q0 q1 q2
  have f0:=qaw HR.out 0
  have f1:=qaw HR.out 1
  have f2:=qaw HR.out 2
  go_wp2_with fail
  refine bodyPost_ret (v:=.tuple #[.agg #[.int .i64 v,.string (s.extract k (k+N)),.int .i64 k],.int .i64 0]) (by simp[results,Tryz.results33,go_sem,q0,q1,q2]) rfl ⟨congrArg Ending.returned HF.out,qtc HB1.out _ _ _⟩
 ·have HF:Hid (.tuple #[.agg #[.int .i64 8,.string (s.extract k (k+N)),.int .i64 k],.int .i64 0]=V):=zh (by rw[hV,hr,if_pos rfl,qcm s k (by show(8:Int)≠0;omega)])
  rw[hr]at HRS
  clear hV hr
  go_enter Tryz.func33,Tryz.ntmps33
  go_wp2_with fail
  refine(HB.out _).mono ?_
  rintro e w' ⟨rfl,rfl⟩
  go_wp2_with fail
  refine(HB.out _).mono ?_
  rintro e w' ⟨rfl,rfl⟩
  go_wp2_with fail
  refine(HB.out _).mono ?_
  rintro e w' ⟨rfl,rfl⟩
  go_wp2_with fail
  refine(HI.out _).mono ?_
  rintro e w' ⟨rfl,rfl⟩
  go_wp2_with fail
  refine(HRS.out _).mono ?_
  rintro e w1 ⟨rfl,hb1⟩
  have HR:=zh (qe9 (hb1.mono (by simp)))
  have HB1:=zh ((qa1 w _).trans (hb1.mono (by simp)))
  clear hb1
  have q0:=cell_of_row w1 _ 0 _ _ _ HR.out
  have q1:=cell_of_row w1 _ 1 _ _ _ HR.out
  have q2:=cell_of_row w1 _ 2 _ _ _ HR.out
  simp only[zF,zE,zD]at q0 q1 q2
  have f0:=qaw HR.out 0
  have f1:=qaw HR.out 1
  have f2:=qaw HR.out 2
  go_wp2_with fail
  refine bodyPost_ret (v:=.tuple #[.agg #[.int .i64 8,.string (s.extract k (k+N)),.int .i64 k],.int .i64 0]) (by simp[results,Tryz.results33,go_sem,q0,q1,q2]) rfl ⟨congrArg Ending.returned HF.out,qtc HB1.out _ _ _⟩
theorem qzt(s:ByteArray)(k:Nat)(hk:k<s.size)(hs:s.size<=1048576)(h:bt s k=39)(w:World):
 Calls Tryz.prog 33 #[.string s,.int .i64 k] w fun e w'=>e=.returned (qel s k (one s k))/\Below w.heap.size w w':=by
 obtain⟨V,hV⟩: ∃V,V=qel s k (one s k):=⟨_,rfl⟩
 rw[<-hV]
 have hbd6:=fun(k:Int) (t:ByteArray) (a:Int) (W:World)=>qbc k t a W
 have hbd0:=fun(W:World)=>qbb W
 have hsd:=qbn
 have g0: ¬(k:Int)<0:=by omega
 have g1: ¬(s.size:Int)<=(k:Int):=by omega
 have gx:=get_bt s k hk
 have HQ:=zh (fun W=>qh0 s k hk hs W)
 have HB:=zh (fun W=>qbs 39 W)
 rw[show beg 39=0 by decide]at HB
 rw[one_39 h]at hV
 rw[h]at gx HQ
 have hbd:=qka s 39 _ (k+1) (zG _)
 clear h
 by_cases h0:qx s 39 (k+1)=0
 ·have HF:Hid (.tuple #[.agg #[.int .i64 0,.string ⟨#[]⟩,.int .i64 0],.int .i64 4]=V):=zh (by rw[hV,h0];rfl)
  have HQ2:Hid (∀W,Calls Tryz.prog 56 #[.string s,.int .i64 k] W fun e w'=>e=.returned (.int .i64 0)/\ ∃n,w'=W.drewN n):=zh fun W=>by have:=HQ.out W;rw[if_pos h0]at this;exact this
  clear HQ hV h0 hbd
  go_enter Tryz.func33,Tryz.ntmps33
  go_wp2_with fail
  refine(HB.out _).mono ?_
  rintro e w' ⟨rfl,rfl⟩
  go_wp2_with fail
  refine(HB.out _).mono ?_
  rintro e w' ⟨rfl,rfl⟩
  go_wp2_with fail
  refine(HQ2.out _).mono ?_
  rintro e w' ⟨rfl,q1,rfl⟩
  go_wp2_with fail
  refine bodyPost_ret (v:=.tuple #[.agg #[.int .i64 0,.string ⟨#[]⟩,.int .i64 0],.int .i64 4]) (by simp[results,Tryz.results33,go_sem]) rfl ⟨congrArg Ending.returned HF.out,qen _ _ _⟩
 ·obtain⟨N,hN⟩: ∃N,qx s 39 (k+1)=k+N:=⟨qx s 39 (k+1)-k,by omega⟩
  have HF:Hid (.tuple #[.agg #[.int .i64 1,.string (s.extract k (k+N)),.int .i64 k],.int .i64 0]=V):=zh (by rw[hV,hN];unfold tk;rw[if_neg (by omega),qcm s k (by show(1:Int)≠0;omega)])
  have HQ2:Hid (∀W,Calls Tryz.prog 56 #[.string s,.int .i64 k] W fun e w'=>e=.returned (.int .i64 N)/\ ∃n,w'=W.drewN n):=zh fun W=>by have:=HQ.out W;rw[if_neg h0,hN,show((k+N:Nat):Int)- (k:Int)=(N:Int)by omega]at this;exact this
  have N0:((N:Int)==0)=false:=beq_false_of_ne (by omega)
  have k2:(k:Int)<=(k:Int)+(N:Int):=by omega
  have k3:(k:Int)+(N:Int)<=(s.size:Int):=by omega
  clear HQ hV h0 hbd hN
  go_enter Tryz.func33,Tryz.ntmps33
  go_wp2_with fail
  refine(HB.out _).mono ?_
  rintro e w' ⟨rfl,rfl⟩
  go_wp2_with fail
  refine(HB.out _).mono ?_
  rintro e w' ⟨rfl,rfl⟩
  go_wp2_with fail
  refine(HQ2.out _).mono ?_
  rintro e w' ⟨rfl,q1,rfl⟩
  go_wp2_with fail
  refine bodyPost_ret (v:=.tuple #[.agg #[.int .i64 1,.string (s.extract k (k+N)),.int .i64 k],.int .i64 0]) (by simp[results,Tryz.results33,go_sem]) rfl ⟨congrArg Ending.returned HF.out,qen _ _ _⟩
theorem qzr(s:ByteArray)(k:Nat)(hk:k<s.size)(hs:s.size<=1048576)(h:bt s k=34)(w:World):
 Calls Tryz.prog 33 #[.string s,.int .i64 k] w fun e w'=>e=.returned (qel s k (one s k))/\Below w.heap.size w w':=by
 obtain⟨V,hV⟩: ∃V,V=qel s k (one s k):=⟨_,rfl⟩
 rw[<-hV]
 have hbd6:=fun(k:Int) (t:ByteArray) (a:Int) (W:World)=>qbc k t a W
 have hbd0:=fun(W:World)=>qbb W
 have hsd:=qbn
 have g0: ¬(k:Int)<0:=by omega
 have g1: ¬(s.size:Int)<=(k:Int):=by omega
 have gx:=get_bt s k hk
 have HQ:=zh (fun W=>qh0 s k hk hs W)
 have HB:=zh (fun W=>qbs 34 W)
 rw[show beg 34=0 by decide]at HB
 rw[one_34 h]at hV
 rw[h]at gx HQ
 have hbd:=qka s 34 _ (k+1) (zG _)
 clear h
 by_cases h0:qx s 34 (k+1)=0
 ·have HF:Hid (.tuple #[.agg #[.int .i64 0,.string ⟨#[]⟩,.int .i64 0],.int .i64 4]=V):=zh (by rw[hV,h0];rfl)
  have HQ2:Hid (∀W,Calls Tryz.prog 56 #[.string s,.int .i64 k] W fun e w'=>e=.returned (.int .i64 0)/\ ∃n,w'=W.drewN n):=zh fun W=>by have:=HQ.out W;rw[if_pos h0]at this;exact this
  clear HQ hV h0 hbd
  go_enter Tryz.func33,Tryz.ntmps33
  go_wp2_with fail
  refine(HB.out _).mono ?_
  rintro e w' ⟨rfl,rfl⟩
  go_wp2_with fail
  refine(HB.out _).mono ?_
  rintro e w' ⟨rfl,rfl⟩
  go_wp2_with fail
  refine(HQ2.out _).mono ?_
  rintro e w' ⟨rfl,q1,rfl⟩
  go_wp2_with fail
  refine bodyPost_ret (v:=.tuple #[.agg #[.int .i64 0,.string ⟨#[]⟩,.int .i64 0],.int .i64 4]) (by simp[results,Tryz.results33,go_sem]) rfl ⟨congrArg Ending.returned HF.out,qen _ _ _⟩
 ·obtain⟨N,hN⟩: ∃N,qx s 34 (k+1)=k+N:=⟨qx s 34 (k+1)-k,by omega⟩
  have HF:Hid (.tuple #[.agg #[.int .i64 6,.string (s.extract k (k+N)),.int .i64 k],.int .i64 0]=V):=zh (by rw[hV,hN];unfold tk;rw[if_neg (by omega),qcm s k (by show(6:Int)≠0;omega)])
  have HQ2:Hid (∀W,Calls Tryz.prog 56 #[.string s,.int .i64 k] W fun e w'=>e=.returned (.int .i64 N)/\ ∃n,w'=W.drewN n):=zh fun W=>by have:=HQ.out W;rw[if_neg h0,hN,show((k+N:Nat):Int)- (k:Int)=(N:Int)by omega]at this;exact this
  have N0:((N:Int)==0)=false:=beq_false_of_ne (by omega)
  have k2:(k:Int)<=(k:Int)+(N:Int):=by omega
  have k3:(k:Int)+(N:Int)<=(s.size:Int):=by omega
  clear HQ hV h0 hbd hN
  go_enter Tryz.func33,Tryz.ntmps33
  go_wp2_with fail
  refine(HB.out _).mono ?_
  rintro e w' ⟨rfl,rfl⟩
  go_wp2_with fail
  refine(HB.out _).mono ?_
  rintro e w' ⟨rfl,rfl⟩
  go_wp2_with fail
  refine(HQ2.out _).mono ?_
  rintro e w' ⟨rfl,q1,rfl⟩
  go_wp2_with fail
  refine bodyPost_ret (v:=.tuple #[.agg #[.int .i64 6,.string (s.extract k (k+N)),.int .i64 k],.int .i64 0]) (by simp[results,Tryz.results33,go_sem]) rfl ⟨congrArg Ending.returned HF.out,qen _ _ _⟩
theorem qzs(s:ByteArray)(k:Nat)(hk:k<s.size)(hs:s.size<=1048576)(h:bt s k=36)(w:World):
 Calls Tryz.prog 33 #[.string s,.int .i64 k] w fun e w'=>e=.returned (qel s k (one s k))/\Below w.heap.size w w':=by
 obtain⟨V,hV⟩: ∃V,V=qel s k (one s k):=⟨_,rfl⟩
 rw[<-hV]
 have hbd6:=fun(k:Int) (t:ByteArray) (a:Int) (W:World)=>qbc k t a W
 have hbd0:=fun(W:World)=>qbb W
 have hsd:=qbn
 have g0: ¬(k:Int)<0:=by omega
 have g1: ¬(s.size:Int)<=(k:Int):=by omega
 have gx:=get_bt s k hk
 have HQ:=zh (fun W=>qnz s k hk hs W)
 have HB:=zh (fun W=>qbs 36 W)
 rw[show beg 36=0 by decide]at HB
 have h1:(one s k).1≠0->k< (one s k).2/\(one s k).2<=s.size:=qk3 hk
 rw[one_36 h]at hV h1
 rw[h]at gx
 clear h
 by_cases h0:che s k=0
 ·have HF:Hid (.tuple #[.agg #[.int .i64 0,.string ⟨#[]⟩,.int .i64 0],.int .i64 4]=V):=zh (by rw[hV,h0];rfl)
  have HQ2:Hid (∀W,Calls Tryz.prog 57 #[.string s,.int .i64 k] W fun e w'=>e=.returned (.int .i64 0)/\Below W.heap.size W w'):=zh fun W=>by have:=HQ.out W;rw[if_pos h0]at this;exact this
  clear HQ hV h0 h1
  go_enter Tryz.func33,Tryz.ntmps33
  go_wp2_with fail
  refine(HB.out _).mono ?_
  rintro e w' ⟨rfl,rfl⟩
  go_wp2_with fail
  refine(HB.out _).mono ?_
  rintro e w' ⟨rfl,rfl⟩
  go_wp2_with fail
  refine(HQ2.out _).mono ?_
  rintro e w1 ⟨rfl,hb1⟩
  have HR:=zh (qe9 (hb1.mono (by simp)))
  have HB1:=zh ((qa1 w _).trans (hb1.mono (by simp)))
  clear hb1
  have q0:=cell_of_row w1 _ 0 _ _ _ HR.out
  have q1:=cell_of_row w1 _ 1 _ _ _ HR.out
  have q2:=cell_of_row w1 _ 2 _ _ _ HR.out
  simp only[zF,zE,zD]at q0 q1 q2
  have f0:=qaw HR.out 0
  have f1:=qaw HR.out 1
  have f2:=qaw HR.out 2
  go_wp2_with fail
  refine bodyPost_ret (v:=.tuple #[.agg #[.int .i64 0,.string ⟨#[]⟩,.int .i64 0],.int .i64 4]) (by simp[results,Tryz.results33,go_sem,q0,q1,q2]) rfl ⟨congrArg Ending.returned HF.out,qtc HB1.out _ _ _⟩
 ·have h2:k<che s k/\che s k<=s.size:=by
   have ht:tk 5 (che s k)=(5,che s k):=by unfold tk;rw[if_neg h0]
   rw[ht]at h1
   exact h1 (by show(5:Int)≠0;omega)
  obtain⟨N,hN⟩: ∃N,che s k=k+N:=⟨che s k-k,by omega⟩
  have HF:Hid (.tuple #[.agg #[.int .i64 5,.string (s.extract k (k+N)),.int .i64 k],.int .i64 0]=V):=zh (by rw[hV,hN];unfold tk;rw[if_neg (by omega),qcm s k (by show(5:Int)≠0;omega)])
  have HQ2:Hid (∀W,Calls Tryz.prog 57 #[.string s,.int .i64 k] W fun e w'=>e=.returned (.int .i64 N)/\Below W.heap.size W w'):=zh fun W=>by have:=HQ.out W;rw[if_neg h0,hN,show((k+N:Nat):Int)- (k:Int)=(N:Int)by omega]at this;exact this
  have N0:((N:Int)==0)=false:=beq_false_of_ne (by omega)
  have k2:(k:Int)<=(k:Int)+(N:Int):=by omega
  have k3:(k:Int)+(N:Int)<=(s.size:Int):=by omega
  clear HQ hV h0 h1 h2 hN
  go_enter Tryz.func33,Tryz.ntmps33
  go_wp2_with fail
  refine(HB.out _).mono ?_
  rintro e w' ⟨rfl,rfl⟩
  go_wp2_with fail
  refine(HB.out _).mono ?_
  rintro e w' ⟨rfl,rfl⟩
  go_wp2_with fail
  refine(HQ2.out _).mono ?_
  rintro e w1 ⟨rfl,hb1⟩
  have HR:=zh (qe9 (hb1.mono (by simp)))
  have HB1:=zh ((qa1 w _).trans (hb1.mono (by simp)))
  clear hb1
  have q0:=cell_of_row w1 _ 0 _ _ _ HR.out
  have q1:=cell_of_row w1 _ 1 _ _ _ HR.out
  have q2:=cell_of_row w1 _ 2 _ _ _ HR.out
  simp only[zF,zE,zD]at q0 q1 q2
  have f0:=qaw HR.out 0
  have f1:=qaw HR.out 1
  have f2:=qaw HR.out 2
  go_wp2_with fail
  refine bodyPost_ret (v:=.tuple #[.agg #[.int .i64 5,.string (s.extract k (k+N)),.int .i64 k],.int .i64 0]) (by simp[results,Tryz.results33,go_sem,q0,q1,q2]) rfl ⟨congrArg Ending.returned HF.out,qtc HB1.out _ _ _⟩
theorem qrr(s:ByteArray)(k:Nat)(hk:k<s.size)(hs:s.size<=1048576)(h1:bt s k≠37)(h2:bt s k≠46)(hbz:beg (bt s k)=0)(h4:bt s k≠39)(h5:bt s k≠34)(h6:bt s k≠36)(h7:bt s k≠63)(w:World):
 Calls Tryz.prog 33 #[.string s,.int .i64 k] w fun e w'=>e=.returned (qel s k (one s k))/\Below w.heap.size w w':=by
 obtain⟨V,hV⟩: ∃V,V=qel s k (one s k):=⟨_,rfl⟩
 rw[<-hV]
 have hbd6:=fun(k:Int) (t:ByteArray) (a:Int) (W:World)=>qbc k t a W
 have hbd0:=fun(W:World)=>qbb W
 have hsd:=qbn
 have g0: ¬(k:Int)<0:=by omega
 have g1: ¬(s.size:Int)<=(k:Int):=by omega
 have gx:=get_bt s k hk
 rw[qmt h1 (fun g=>h2 g.1) hbz h4 h5 h6 h7]at hV
 have c37:(bt s k==37)=false:=beq_false_of_ne h1
 have c46:(bt s k==46)=false:=beq_false_of_ne h2
 have c39:(bt s k==39)=false:=beq_false_of_ne h4
 have c34:(bt s k==34)=false:=beq_false_of_ne h5
 have c36:(bt s k==36)=false:=beq_false_of_ne h6
 have c63:(bt s k==63)=false:=beq_false_of_ne h7
 have HB:=zh (fun W=>qbs (bt s k) W)
 rw[hbz]at HB
 have HL:=fun W=>qfo s k hs W
 rw[qyq s k hk]at HL
 obtain⟨N,hN⟩: ∃N,N=lgL (s.data.toList.drop k):=⟨_,rfl⟩
 rw[<-hN]at HL hV
 have hN3:N<=3:=by rw[hN];exact qq0 _ 37 (by omega)
 have hNs:k+N<=s.size:=by
  have:=qim (s.data.toList.drop k) 37 (zG _)
  rw[List.length_drop,zA]at this
  have e:s.data.size=s.size:=rfl
  have h3:N<=s.size-k:=by rw[hN,<-e];exact this
  omega
 have HL:=zh HL
 obtain⟨c,hc⟩: ∃c,c=bt s k:=⟨_,rfl⟩
 rw[<-hc]at gx c37 c46 c39 c34 c36 c63 HB
 clear hc h1 h2 h4 h5 h6 h7 hbz
 clear hN
 by_cases h0:N=0
 ·have HF:Hid (.tuple #[.agg #[.int .i64 0,.string ⟨#[]⟩,.int .i64 0],.int .i64 4]=V):=zh (by rw[hV,if_pos h0];rfl)
  subst h0
  clear hV
  go_enter Tryz.func33,Tryz.ntmps33
  go_wp2_with fail
  refine(HB.out _).mono ?_
  rintro e w' ⟨rfl,rfl⟩
  go_wp2_with fail
  refine(HB.out _).mono ?_
  rintro e w' ⟨rfl,rfl⟩
  go_wp2_with fail
  refine(HL.out _).mono ?_
  rintro e w1 ⟨rfl,hb1⟩
  have HR:=zh (qe9 (hb1.mono (by simp)))
  have HB1:=zh ((qa1 w _).trans (hb1.mono (by simp)))
  clear hb1
  have q0:=cell_of_row w1 _ 0 _ _ _ HR.out
  have q1:=cell_of_row w1 _ 1 _ _ _ HR.out
  have q2:=cell_of_row w1 _ 2 _ _ _ HR.out
  simp only[zF,zE,zD]at q0 q1 q2
  have f0:=qaw HR.out 0
  have f1:=qaw HR.out 1
  have f2:=qaw HR.out 2
  go_wp2_with fail
  refine bodyPost_ret (v:=.tuple #[.agg #[.int .i64 0,.string ⟨#[]⟩,.int .i64 0],.int .i64 4]) (by simp[results,Tryz.results33,go_sem,q0,q1,q2]) rfl ⟨congrArg Ending.returned HF.out,qtc HB1.out _ _ _⟩
 ·have HF:Hid (.tuple #[.agg #[.int .i64 9,.string (s.extract k (k+N)),.int .i64 k],.int .i64 0]=V):=zh (by rw[hV,if_neg h0,qcm s k (by show(9:Int)≠0;omega)])
  have N0:((N:Int)==0)=false:=beq_false_of_ne (by omega)
  have k2:(k:Int)<=(k:Int)+(N:Int):=by omega
  have k3:(k:Int)+(N:Int)<=(s.size:Int):=by omega
  clear hV h0
  go_enter Tryz.func33,Tryz.ntmps33
  go_wp2_with fail
  refine(HB.out _).mono ?_
  rintro e w' ⟨rfl,rfl⟩
  go_wp2_with fail
  refine(HB.out _).mono ?_
  rintro e w' ⟨rfl,rfl⟩
  go_wp2_with fail
  refine(HL.out _).mono ?_
  rintro e w1 ⟨rfl,hb1⟩
  have HR:=zh (qe9 (hb1.mono (by simp)))
  have HB1:=zh ((qa1 w _).trans (hb1.mono (by simp)))
  clear hb1
  have q0:=cell_of_row w1 _ 0 _ _ _ HR.out
  have q1:=cell_of_row w1 _ 1 _ _ _ HR.out
  have q2:=cell_of_row w1 _ 2 _ _ _ HR.out
  simp only[zF,zE,zD]at q0 q1 q2
  have f0:=qaw HR.out 0
  have f1:=qaw HR.out 1
  have f2:=qaw HR.out 2
  go_wp2_with fail
  refine bodyPost_ret (v:=.tuple #[.agg #[.int .i64 9,.string (s.extract k (k+N)),.int .i64 k],.int .i64 0]) (by simp[results,Tryz.results33,go_sem,q0,q1,q2]) rfl ⟨congrArg Ending.returned HF.out,qtc HB1.out _ _ _⟩
theorem qzw(s:ByteArray)(k:Nat)(hk:k<s.size)(hs:s.size<=1048576)(h:bt s k=46)(h2: ¬(k+1=s.size\/bt s (k+1)=37\/k+1<fw bl s (k+1)))(w:World):
 Calls Tryz.prog 33 #[.string s,.int .i64 k] w fun e w'=>e=.returned (qel s k (one s k))/\Below w.heap.size w w':=by
 obtain⟨V,hV⟩: ∃V,V=qel s k (one s k):=⟨_,rfl⟩
 rw[<-hV]
 have hbd6:=fun(k:Int) (t:ByteArray) (a:Int) (W:World)=>qbc k t a W
 have hbd0:=fun(W:World)=>qbb W
 have hsd:=qbn
 have g0: ¬(k:Int)<0:=by omega
 have g1: ¬(s.size:Int)<=(k:Int):=by omega
 have gx:=get_bt s k hk
 have hbz:beg (bt s k)=0:=by rw[h];decide
 rw[qmt (by omega) (fun g=>h2 g.2) hbz (by omega) (by omega) (by omega) (by omega)]at hV
 have HB:=zh (fun W=>qbs (bt s k) W)
 rw[hbz]at HB
 have HL:=fun W=>qfo s k hs W
 rw[qyq s k hk]at HL
 obtain⟨N,hN⟩: ∃N,N=lgL (s.data.toList.drop k):=⟨_,rfl⟩
 rw[<-hN]at HL hV
 have hN3:N<=3:=by rw[hN];exact qq0 _ 37 (by omega)
 have hNs:k+N<=s.size:=by
  have:=qim (s.data.toList.drop k) 37 (zG _)
  rw[List.length_drop,zA]at this
  have e:s.data.size=s.size:=rfl
  have h3:N<=s.size-k:=by rw[hN,<-e];exact this
  omega
 have HL:=zh HL
 have HBL:=zh (fun W=>qff s (k+1) (by omega) hs W)
 have kl:k+1<s.size:=by omega
 have gy:=get_bt s (k+1) kl
 have hfw:fw bl s (k+1)=k+1:=by have:=qgh bl s (k+1);omega
 rw[hfw,show((k+1:Nat):Int)=(k:Int)+1 by omega]at HBL
 have c37:(bt s (k+1)==37)=false:=beq_false_of_ne (fun e=>h2 (.inr (.inl e)))
 have cs1:((k:Int)+1==(s.size:Int))=false:=beq_false_of_ne (by omega)
 have kl2:(k:Int)+1< (s.size:Int):=by omega
 obtain⟨d,hd⟩: ∃d,d=bt s (k+1):=⟨_,rfl⟩
 rw[<-hd]at gy c37
 rw[h]at gx HB
 clear hd h h2 hbz hfw
 clear hN
 by_cases h0:N=0
 ·have HF:Hid (.tuple #[.agg #[.int .i64 0,.string ⟨#[]⟩,.int .i64 0],.int .i64 4]=V):=zh (by rw[hV,if_pos h0];rfl)
  subst h0
  clear hV
  go_enter Tryz.func33,Tryz.ntmps33
  go_wp2_with fail
  refine(HBL.out _).mono ?_
  rintro e w' ⟨rfl,rfl⟩
  go_wp2_with fail
  refine(HB.out _).mono ?_
  rintro e w' ⟨rfl,rfl⟩
  go_wp2_with fail
  refine(HB.out _).mono ?_
  rintro e w' ⟨rfl,rfl⟩
  go_wp2_with fail
  refine(HL.out _).mono ?_
  rintro e w1 ⟨rfl,hb1⟩
  have HR:=zh (qe9 (hb1.mono (by simp)))
  have HB1:=zh ((qa1 w _).trans (hb1.mono (by simp)))
  clear hb1
  have q0:=cell_of_row w1 _ 0 _ _ _ HR.out
  have q1:=cell_of_row w1 _ 1 _ _ _ HR.out
  have q2:=cell_of_row w1 _ 2 _ _ _ HR.out
  simp only[zF,zE,zD]at q0 q1 q2
  have f0:=qaw HR.out 0
  have f1:=qaw HR.out 1
  have f2:=qaw HR.out 2
  go_wp2_with fail
  refine bodyPost_ret (v:=.tuple #[.agg #[.int .i64 0,.string ⟨#[]⟩,.int .i64 0],.int .i64 4]) (by simp[results,Tryz.results33,go_sem,q0,q1,q2]) rfl ⟨congrArg Ending.returned HF.out,qtc HB1.out _ _ _⟩
 ·have HF:Hid (.tuple #[.agg #[.int .i64 9,.string (s.extract k (k+N)),.int .i64 k],.int .i64 0]=V):=zh (by rw[hV,if_neg h0,qcm s k (by show(9:Int)≠0;omega)])
  have N0:((N:Int)==0)=false:=beq_false_of_ne (by omega)
  have k2:(k:Int)<=(k:Int)+(N:Int):=by omega
  have k3:(k:Int)+(N:Int)<=(s.size:Int):=by omega
  clear hV h0
  go_enter Tryz.func33,Tryz.ntmps33
  go_wp2_with fail
  refine(HBL.out _).mono ?_
  rintro e w' ⟨rfl,rfl⟩
  go_wp2_with fail
  refine(HB.out _).mono ?_
  rintro e w' ⟨rfl,rfl⟩
  go_wp2_with fail
  refine(HB.out _).mono ?_
  rintro e w' ⟨rfl,rfl⟩
  go_wp2_with fail
  refine(HL.out _).mono ?_
  rintro e w1 ⟨rfl,hb1⟩
  have HR:=zh (qe9 (hb1.mono (by simp)))
  have HB1:=zh ((qa1 w _).trans (hb1.mono (by simp)))
  clear hb1
  have q0:=cell_of_row w1 _ 0 _ _ _ HR.out
  have q1:=cell_of_row w1 _ 1 _ _ _ HR.out
  have q2:=cell_of_row w1 _ 2 _ _ _ HR.out
  simp only[zF,zE,zD]at q0 q1 q2
  have f0:=qaw HR.out 0
  have f1:=qaw HR.out 1
  have f2:=qaw HR.out 2
  go_wp2_with fail
  refine bodyPost_ret (v:=.tuple #[.agg #[.int .i64 9,.string (s.extract k (k+N)),.int .i64 k],.int .i64 0]) (by simp[results,Tryz.results33,go_sem,q0,q1,q2]) rfl ⟨congrArg Ending.returned HF.out,qtc HB1.out _ _ _⟩
theorem qpb(c:Int):fst c=(qul c||c==95):=by
 unfold fst qul
 generalize(decide (65<=c)&&decide (c<=90))=x
 generalize(decide (97<=c)&&decide (c<=122))=y
 generalize(c==95)=z
 cases x<;>cases y<;>cases z<;>rfl
theorem qzu(s:ByteArray)(k:Nat)(hk:k<s.size)(hs:s.size<=1048576)(h:bt s k=63)(w:World):
 Calls Tryz.prog 33 #[.string s,.int .i64 k] w fun e w'=>e=.returned (qel s k (one s k))/\Below w.heap.size w w':=by
 obtain⟨V,hV⟩: ∃V,V=qel s k (one s k):=⟨_,rfl⟩
 rw[<-hV]
 have hbd6:=fun(k:Int) (t:ByteArray) (a:Int) (W:World)=>qbc k t a W
 have hbd0:=fun(W:World)=>qbb W
 have hsd:=qbn
 have g0: ¬(k:Int)<0:=by omega
 have g1: ¬(s.size:Int)<=(k:Int):=by omega
 have gx:=get_bt s k hk
 have HB:=zh (fun W=>qbs 63 W)
 rw[show beg 63=0 by decide]at HB
 rw[one_63 h]at hV
 rw[h]at gx
 clear h
 by_cases h1:k+1<s.size
 ·have g1':(k:Int)+1< (s.size:Int):=by omega
  have g1:=get_bt s (k+1) h1
  by_cases h63:bt s (k+1)=63
  ·have hm:mcb s k=k+2:=by unfold mcb;rw[if_pos h63]
   rw[hm]at hV
   rw[h63]at g1
   clear hm h63
   by_cases h2:k+2<s.size
   ·have g2':(k:Int)+1+1< (s.size:Int):=by omega
    have g2:=get_bt s (k+2) h2
    have HLT:=zh (fun W=>qf9 (bt s (k+2)) W)
    have HI:=zh (fun W=>qeg s (k+2) (by omega) hs W)
    have hge:=qgh inn s (k+2)
    have hle:=qjp inn s (k+2) (by omega)
    obtain⟨N,hN⟩: ∃N,fw inn s (k+2)=k+N:=⟨fw inn s (k+2)-k,by omega⟩
    rw[hN]at hV HI hge hle
    rw[show((k+N:Nat):Int)=(k:Int)+(N:Int)by omega,show((k+2:Nat):Int)=(k:Int)+1+1 by omega]at HI
    have N0:((N:Int)==0)=false:=beq_false_of_ne (by omega)
    have k2:(k:Int)<=(k:Int)+(N:Int):=by omega
    have k3:(k:Int)+(N:Int)<=(s.size:Int):=by omega
    rw[qpb]at hV
    obtain⟨d,hd⟩: ∃d,d=bt s (k+2):=⟨_,rfl⟩
    rw[<-hd]at g2 hV HLT
    clear hd hN
    cases hl:qul d
    ·rw[hl,Bool.false_or]at hV
     rw[hl]at HLT
     cases h95:(d==95)
     ·have HF:Hid (.tuple #[.agg #[.int .i64 0,.string ⟨#[]⟩,.int .i64 0],.int .i64 4]=V):=zh (by rw[hV,h95,if_neg zB];rfl)
      clear hV hl
      go_enter Tryz.func33,Tryz.ntmps33
      go_wp2_with fail
      refine(HB.out _).mono ?_
      rintro e w' ⟨rfl,rfl⟩
      go_wp2_with fail
      refine(HB.out _).mono ?_
      rintro e w' ⟨rfl,rfl⟩
      go_wp2_with fail
      refine(HLT.out _).mono ?_
      rintro e w' ⟨rfl,rfl⟩
      go_wp2_with fail
      refine bodyPost_ret (v:=.tuple #[.agg #[.int .i64 0,.string ⟨#[]⟩,.int .i64 0],.int .i64 4]) (by simp[results,Tryz.results33,go_sem]) rfl ⟨congrArg Ending.returned HF.out,qa1 _ _⟩
     ·have HF:Hid (.tuple #[.agg #[.int .i64 7,.string (s.extract k (k+N)),.int .i64 k],.int .i64 0]=V):=zh (by rw[hV,h95,if_pos rfl,qcm s k (by show(7:Int)≠0;omega)])
      clear hV hl
      go_enter Tryz.func33,Tryz.ntmps33
      go_wp2_with fail
      refine(HB.out _).mono ?_
      rintro e w' ⟨rfl,rfl⟩
      go_wp2_with fail
      refine(HB.out _).mono ?_
      rintro e w' ⟨rfl,rfl⟩
      go_wp2_with fail
      refine(HLT.out _).mono ?_
      rintro e w' ⟨rfl,rfl⟩
      go_wp2_with fail
      refine(HI.out _).mono ?_
      rintro e w' ⟨rfl,rfl⟩
      go_wp2_with fail
      refine bodyPost_ret (v:=.tuple #[.agg #[.int .i64 7,.string (s.extract k (k+N)),.int .i64 k],.int .i64 0]) (by simp[results,Tryz.results33,go_sem]) rfl ⟨congrArg Ending.returned HF.out,qa1 _ _⟩
    ·have HF:Hid (.tuple #[.agg #[.int .i64 7,.string (s.extract k (k+N)),.int .i64 k],.int .i64 0]=V):=zh (by rw[hV,hl,zC,if_pos rfl,qcm s k (by show(7:Int)≠0;omega)])
     rw[hl]at HLT
     clear hV hl
     go_enter Tryz.func33,Tryz.ntmps33
     go_wp2_with fail
     refine(HB.out _).mono ?_
     rintro e w' ⟨rfl,rfl⟩
     go_wp2_with fail
     refine(HB.out _).mono ?_
     rintro e w' ⟨rfl,rfl⟩
     go_wp2_with fail
     refine(HLT.out _).mono ?_
     rintro e w' ⟨rfl,rfl⟩
     go_wp2_with fail
     refine(HI.out _).mono ?_
     rintro e w' ⟨rfl,rfl⟩
     go_wp2_with fail
     refine bodyPost_ret (v:=.tuple #[.agg #[.int .i64 7,.string (s.extract k (k+N)),.int .i64 k],.int .i64 0]) (by simp[results,Tryz.results33,go_sem]) rfl ⟨congrArg Ending.returned HF.out,qa1 _ _⟩
   ·have HF:Hid (.tuple #[.agg #[.int .i64 0,.string ⟨#[]⟩,.int .i64 0],.int .i64 4]=V):=zh (by rw[hV,bt_end s (by omega),if_neg (by decide)];rfl)
    have g2':decide ((k:Int)+1+1< (s.size:Int))=false:=by simp;omega
    clear hV
    go_enter Tryz.func33,Tryz.ntmps33
    go_wp2_with fail
    refine(HB.out _).mono ?_
    rintro e w' ⟨rfl,rfl⟩
    go_wp2_with fail
    refine(HB.out _).mono ?_
    rintro e w' ⟨rfl,rfl⟩
    go_wp2_with fail
    refine bodyPost_ret (v:=.tuple #[.agg #[.int .i64 0,.string ⟨#[]⟩,.int .i64 0],.int .i64 4]) (by simp[results,Tryz.results33,go_sem]) rfl ⟨congrArg Ending.returned HF.out,qa1 _ _⟩
  ·have hm:mcb s k=k+1:=by unfold mcb;rw[if_neg h63]
   rw[hm]at hV
   have n63:(bt s (k+1)==63)=false:=beq_false_of_ne h63
   clear hm h63
   have HLT:=zh (fun W=>qf9 (bt s (k+1)) W)
   have HI:=zh (fun W=>qeg s (k+1) (by omega) hs W)
   have hge:=qgh inn s (k+1)
   have hle:=qjp inn s (k+1) (by omega)
   obtain⟨N,hN⟩: ∃N,fw inn s (k+1)=k+N:=⟨fw inn s (k+1)-k,by omega⟩
   rw[hN]at hV HI hge hle
   rw[show((k+N:Nat):Int)=(k:Int)+(N:Int)by omega,show((k+1:Nat):Int)=(k:Int)+1 by omega]at HI
   have N0:((N:Int)==0)=false:=beq_false_of_ne (by omega)
   have k2:(k:Int)<=(k:Int)+(N:Int):=by omega
   have k3:(k:Int)+(N:Int)<=(s.size:Int):=by omega
   rw[qpb]at hV
   obtain⟨d,hd⟩: ∃d,d=bt s (k+1):=⟨_,rfl⟩
   rw[<-hd]at g1 hV HLT n63
   clear hd hN
   cases hl:qul d
   ·rw[hl,Bool.false_or]at hV
    rw[hl]at HLT
    cases h95:(d==95)
    ·have HF:Hid (.tuple #[.agg #[.int .i64 0,.string ⟨#[]⟩,.int .i64 0],.int .i64 4]=V):=zh (by rw[hV,h95,if_neg zB];rfl)
     clear hV hl
     go_enter Tryz.func33,Tryz.ntmps33
     go_wp2_with fail
     refine(HB.out _).mono ?_
     rintro e w' ⟨rfl,rfl⟩
     go_wp2_with fail
     refine(HB.out _).mono ?_
     rintro e w' ⟨rfl,rfl⟩
     go_wp2_with fail
     refine(HLT.out _).mono ?_
     rintro e w' ⟨rfl,rfl⟩
     go_wp2_with fail
     refine bodyPost_ret (v:=.tuple #[.agg #[.int .i64 0,.string ⟨#[]⟩,.int .i64 0],.int .i64 4]) (by simp[results,Tryz.results33,go_sem]) rfl ⟨congrArg Ending.returned HF.out,qa1 _ _⟩
    ·have HF:Hid (.tuple #[.agg #[.int .i64 7,.string (s.extract k (k+N)),.int .i64 k],.int .i64 0]=V):=zh (by rw[hV,h95,if_pos rfl,qcm s k (by show(7:Int)≠0;omega)])
     clear hV hl
     go_enter Tryz.func33,Tryz.ntmps33
     go_wp2_with fail
     refine(HB.out _).mono ?_
     rintro e w' ⟨rfl,rfl⟩
     go_wp2_with fail
     refine(HB.out _).mono ?_
     rintro e w' ⟨rfl,rfl⟩
     go_wp2_with fail
     refine(HLT.out _).mono ?_
     rintro e w' ⟨rfl,rfl⟩
     go_wp2_with fail
     refine(HI.out _).mono ?_
     rintro e w' ⟨rfl,rfl⟩
     go_wp2_with fail
     refine bodyPost_ret (v:=.tuple #[.agg #[.int .i64 7,.string (s.extract k (k+N)),.int .i64 k],.int .i64 0]) (by simp[results,Tryz.results33,go_sem]) rfl ⟨congrArg Ending.returned HF.out,qa1 _ _⟩
   ·have HF:Hid (.tuple #[.agg #[.int .i64 7,.string (s.extract k (k+N)),.int .i64 k],.int .i64 0]=V):=zh (by rw[hV,hl,zC,if_pos rfl,qcm s k (by show(7:Int)≠0;omega)])
    rw[hl]at HLT
    clear hV hl
    go_enter Tryz.func33,Tryz.ntmps33
    go_wp2_with fail
    refine(HB.out _).mono ?_
    rintro e w' ⟨rfl,rfl⟩
    go_wp2_with fail
    refine(HB.out _).mono ?_
    rintro e w' ⟨rfl,rfl⟩
    go_wp2_with fail
    refine(HLT.out _).mono ?_
    rintro e w' ⟨rfl,rfl⟩
    go_wp2_with fail
    refine(HI.out _).mono ?_
    rintro e w' ⟨rfl,rfl⟩
    go_wp2_with fail
    refine bodyPost_ret (v:=.tuple #[.agg #[.int .i64 7,.string (s.extract k (k+N)),.int .i64 k],.int .i64 0]) (by simp[results,Tryz.results33,go_sem]) rfl ⟨congrArg Ending.returned HF.out,qa1 _ _⟩
 ·have HF:Hid (.tuple #[.agg #[.int .i64 0,.string ⟨#[]⟩,.int .i64 0],.int .i64 4]=V):=zh (by
   have hm:fst (bt s (mcb s k))=false:=by rw[bt_end s (by unfold mcb;split<;>omega)];decide
   rw[hV,hm,if_neg zB];rfl)
  have g1':decide ((k:Int)+1< (s.size:Int))=false:=by simp;omega
  clear hV
  go_enter Tryz.func33,Tryz.ntmps33
  go_wp2_with fail
  refine(HB.out _).mono ?_
  rintro e w' ⟨rfl,rfl⟩
  go_wp2_with fail
  refine(HB.out _).mono ?_
  rintro e w' ⟨rfl,rfl⟩
  go_wp2_with fail
  refine bodyPost_ret (v:=.tuple #[.agg #[.int .i64 0,.string ⟨#[]⟩,.int .i64 0],.int .i64 4]) (by simp[results,Tryz.results33,go_sem]) rfl ⟨congrArg Ending.returned HF.out,qa1 _ _⟩
theorem qzv(s:ByteArray)(k:Nat)(hk:k<s.size)(hs:s.size<=1048576)(w:World):
 Calls Tryz.prog 33 #[.string s,.int .i64 k] w fun e w'=>e=.returned (qel s k (one s k))/\Below w.heap.size w w':=by
 by_cases c1:bt s k=37
 ·exact qvi s k hk hs c1 w
 by_cases c2:bt s k=46
 ·by_cases c3:k+1=s.size\/bt s (k+1)=37\/k+1<fw bl s (k+1)
  ·exact qvj s k hk hs c2 c3 w
  ·exact qzw s k hk hs c2 c3 w
 by_cases c3:beg (bt s k)=3
 ·exact qvk s k hk hs c3 w
 by_cases c4:0<beg (bt s k)
 ·exact qrq s k hk hs c3 c4 w
 have hb:beg (bt s k)=0:=by have:=qg6 (bt s k);omega
 by_cases c5:bt s k=39
 ·exact qzt s k hk hs c5 w
 by_cases c6:bt s k=34
 ·exact qzr s k hk hs c6 w
 by_cases c7:bt s k=36
 ·exact qzs s k hk hs c7 w
 by_cases c8:bt s k=63
 ·exact qzu s k hk hs c8 w
 ·exact qrr s k hk hs c1 c2 hb c5 c6 c7 c8 w
end Go.Proofs.YtdhadeeajgoedaaGreat
