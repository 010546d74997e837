import Derived.Test.YtdhadeeajgoedaaGreatL23
import Derived.Deep.CutRange
set_option maxRecDepth 100000
set_option maxHeartbeats 4000000
set_option linter.all false
open Go.RowKit.Below renaming drew→zA
open Nat renaming lt_of_lt_of_le→zB
open Go.World renaming cell?_alloc_at→zC
namespace Go.Proofs.YtdhadeeajgoedaaGreat
open Go.RowKit Go.PlainAid
theorem qhc(X P:ByteArray)(n:Nat)(hP:P.size=n)(hX:n<=X.size)(_:n<=1048576)(he:X.extract 0 n=P)(w:World):
 Calls Tryz.prog 219 #[.string X,.string P] w fun e w'=>e=.returned (.bool true)/\ ∃m,w'=w.drewN m:=by
 have h1:(n:Int)<=(X.size:Int):=by omega
 have h2:((X.extract 0 n).toList==P.toList)=true:=by rw[he];simp
 clear he
 go_enter Tryz.func219,Tryz.ntmps219
 go_wp2_with fail
 go_ret
 exact⟨rfl,0,rfl⟩
theorem qij(X P:ByteArray)(n:Nat)(hP:P.size=n)(hX:n<=X.size)(_:n<=1048576)(he:X.extract 0 n=P)(w:World):
 Calls Tryz.prog 207 #[.string X,.string P] w fun e w'=>e=.returned (.bool true)/\ ∃m,w'=w.drewN m:=by
 have H:=zh (fun W=>qhc X P n hP hX (by omega) he W)
 clear he hX hP
 go_enter Tryz.func207,Tryz.ntmps207
 go_wp2_with fail
 refine(H.out _).mono ?_
 rintro e w' ⟨rfl,m,rfl⟩
 go_wp2_with fail
 go_ret
 exact⟨rfl,_,rfl⟩
theorem qu3(s:ByteArray){a e:Nat}(h:a<=e)(he:e<=s.size):(s.extract a s.size).extract 0 (e-a)=s.extract a e:=by
 apply ByteArray.ext
 rw[ByteArray.data_extract,ByteArray.data_extract,ByteArray.data_extract,Array.extract_extract,Nat.add_zero]
 congr 1
 have:s.size=s.data.size:=rfl
 omega
theorem qi2(s P:ByteArray)(K:Int)(a e:Nat)(h:a<=e)(he:e<=s.size)(hs:s.size<=1048576)(hP:P=s.extract a e)(w:World):
 Calls Tryz.prog 185 #[.string s,.agg #[.int .i64 K,.string P,.int .i64 (a:Int)]] w fun e w'=>e=.returned (.bool true)/\Below w.heap.size w w':=by
 have hz:P.size=e-a:=by rw[hP,qd0 s a e he]
 have hX:=qd0 s a s.size (Nat.le_refl _)
 have H0:=zh (fun W=>qij (s.extract a s.size) P (e-a) hz (by omega) (by omega) (by rw[hP];exact qu3 s h he) W)
 have HX:Hid ((s.extract a s.size).size=s.size-a):=zh hX
 obtain⟨X,hX2⟩: ∃X,X=s.extract a s.size:=⟨_,rfl⟩
 have g0:(0:Int)<=(a:Int):=by omega
 have g1:(a:Int)<=(s.size:Int):=by omega
 clear hX hX2 hz hP
 have q1:(w.alloc (.cells #[.int .i64 K,.string P,.int .i64 (a:Int)] 34)).cell? ⟨w.heap.size,1,none⟩=some (.string P):=by rw[zC _ _ _ _ rfl];rfl
 have q2:(w.alloc (.cells #[.int .i64 K,.string P,.int .i64 (a:Int)] 34)).cell? ⟨w.heap.size,2,none⟩=some (.int .i64 (a:Int)):=by rw[zC _ _ _ _ rfl];rfl
 go_enter Tryz.func185,Tryz.ntmps185
 go_wp2_with fail
 go_quiet (first | (go_at_call 207;exact Calls.quiet_of (H0.out _)))
 go_wp2_with fail
 go_ret
 exact⟨rfl,qen _ _ _⟩
def HTwoW(w W:World)(g h:Nat)(x y:Tok):Prop:=
 (W.cell? ⟨g,0,none⟩=some (.int .i64 x.1)/\W.cell? ⟨g,1,none⟩=some (.string x.2.1)/\W.cell? ⟨g,2,none⟩=some (.int .i64 x.2.2))/\
 (W.cell? ⟨h,0,none⟩=some (.int .i64 y.1)/\W.cell? ⟨h,1,none⟩=some (.string y.2.1)/\W.cell? ⟨h,2,none⟩=some (.int .i64 y.2.2))/\g<W.heap.size/\h<W.heap.size/\Below w.heap.size w W
theorem HTwoW.below{w W W':World}{g h:Nat}{x y:Tok}(H:HTwoW w W g h x y)(hb:Below W.heap.size W W'):HTwoW w W' g h x y:=by
 obtain⟨⟨a1,a2,a3⟩,⟨b1,b2,b3⟩,hg,hh,h6⟩:=H
 exact⟨⟨(hb.cell (p:=⟨g,0,none⟩) hg).trans a1,(hb.cell (p:=⟨g,1,none⟩) hg).trans a2,(hb.cell (p:=⟨g,2,none⟩) hg).trans a3⟩,
  ⟨(hb.cell (p:=⟨h,0,none⟩) hh).trans b1,(hb.cell (p:=⟨h,1,none⟩) hh).trans b2,(hb.cell (p:=⟨h,2,none⟩) hh).trans b3⟩,zB hg hb.size,zB hh hb.size,h6.trans (hb.mono h6.size)⟩
theorem two_a(w:World)(t:TypeId)(A B C D E F:Value)(x y:Tok)(h1:A=.int .i64 x.1)(h2:B=.string x.2.1)(h3:C=.int .i64 x.2.2)(h4:D=.int .i64 y.1)(h5:E=.string y.2.1)(h6:F=.int .i64 y.2.2):
 HTwoW w ((w.alloc (.cells #[A,B,C] t)).alloc (.cells #[D,E,F] t)).drew w.heap.size (w.heap.size+1) x y:=by
 subst h1 h2 h3 h4 h5 h6
 refine HTwoW.below (W:=(w.alloc (.cells #[.int .i64 x.1,.string x.2.1,.int .i64 x.2.2] t)).alloc (.cells #[.int .i64 y.1,.string y.2.1,.int .i64 y.2.2] t)) ⟨⟨?_,?_,?_⟩,⟨?_,?_,?_⟩,by simp;omega,by simp,qfk _ _ _⟩ (zA (Below.refl _ _))<;>simp
theorem two_b(w:World)(t:TypeId)(A B C D E F:Value)(x y:Tok)(h1:A=.int .i64 x.1)(h2:B=.string x.2.1)(h3:C=.int .i64 x.2.2)(h4:D=.int .i64 y.1)(h5:E=.string y.2.1)(h6:F=.int .i64 y.2.2):
 HTwoW w ((w.alloc (.cells #[D,E,F] t)).alloc (.cells #[A,B,C] t)).drew (w.heap.size+1) w.heap.size x y:=by
 subst h1 h2 h3 h4 h5 h6
 refine HTwoW.below (W:=(w.alloc (.cells #[.int .i64 y.1,.string y.2.1,.int .i64 y.2.2] t)).alloc (.cells #[.int .i64 x.1,.string x.2.1,.int .i64 x.2.2] t)) ⟨⟨?_,?_,?_⟩,⟨?_,?_,?_⟩,by simp,by simp;omega,qfk _ _ _⟩ (zA (Below.refl _ _))<;>simp
abbrev T2(w:World)(x y:Nat)(K1 K2:Int)(P1 P2:ByteArray)(a1 a2:Int)(W:World):Prop:=
 W.cell? ⟨x,0,none⟩=some (.int .i64 K1)/\W.cell? ⟨x,1,none⟩=some (.string P1)/\W.cell? ⟨x,2,none⟩=some (.int .i64 a1)/\
 W.cell? ⟨y,0,none⟩=some (.int .i64 K2)/\W.cell? ⟨y,1,none⟩=some (.string P2)/\W.cell? ⟨y,2,none⟩=some (.int .i64 a2)/\Hid (HTwoW w W x y (K1,P1,a1) (K2,P2,a2))
theorem qti{w W:World}{x y:Nat}{K1 K2:Int}{P1 P2:ByteArray}{a1 a2:Int}(h:HTwoW w W x y (K1,P1,a1) (K2,P2,a2)):T2 w x y K1 K2 P1 P2 a1 a2 W:=
 ⟨h.1.1,h.1.2.1,h.1.2.2,h.2.1.1,h.2.1.2.1,h.2.1.2.2,zh h⟩
theorem qoe{w W:World}{x y:Nat}{K1 K2:Int}{P1 P2:ByteArray}{a1 a2:Int}(h:T2 w x y K1 K2 P1 P2 a1 a2 W):HTwoW w W x y (K1,P1,a1) (K2,P2,a2):=h.2.2.2.2.2.2.out
theorem qks(s:ByteArray)(v:Value)(T:List Tok)(k:Int)(h:k<1\/(T.length:Int)<=k)(w:World)(ht:TRow w v T):
 Calls Tryz.prog 163 #[.string s,v,.int .i64 k] w fun e w'=>e=.returned (.string { data:= #[] })/\Below w.heap.size w w':=by
 obtain⟨a,cap,rfl,-⟩:=ht
 rcases h with h | h
 ·go_enter Tryz.func163,Tryz.ntmps163
  go_wp2_with fail
  go_ret
  exact⟨rfl,Below.refl _ _⟩
 ·by_cases h1:k<1
  ·go_enter Tryz.func163,Tryz.ntmps163
   go_wp2_with fail
   go_ret
   exact⟨rfl,Below.refl _ _⟩
  ·go_enter Tryz.func163,Tryz.ntmps163
   go_wp2_with fail
   go_ret
   exact⟨rfl,Below.refl _ _⟩
theorem qnd(s:ByteArray)(hs:s.size<=1048576)(v:Value)(T:List Tok)(hT:T.length<=1048576)(k:Nat)(K1 K2:Int)(P1 P2:ByteArray)(a1 e1 a2 e2:Nat)
 (hx:T[k]?=some (K1,P1,(a1:Int))) (hy:T[k+1]?=some (K2,P2,(a2:Int))) (h1:a1<=e1) (h2:e1<=a2) (h3:a2<=e2) (h4:e2<=s.size) (hP1:P1=s.extract a1 e1) (hP2:P2=s.extract a2 e2) (w:World) (ht:TRow w v T):
 Calls Tryz.prog 163 #[.string s,v,.int .i64 ((k:Int)+1)] w fun e w'=>e=.returned (.string (s.extract e1 a2))/\Below w.heap.size w w':=by
 have hk:k+1<T.length:=(List.getElem?_eq_some_iff.1 hy).1
 obtain⟨a,cap,rfl,hr⟩:=ht
 obtain⟨g,o,rfl,hg,hc⟩:=hr (by omega)
 obtain⟨c1,c2,c3⟩:=hc k _ hx
 obtain⟨d1,d2,d3⟩:=hc (k+1) _ hy
 simp only at c1 c2 c3 d1 d2 d3
 have HS1:=zh (fun W=>qi2 s P1 K1 a1 e1 h1 (by omega) hs hP1 W)
 have HS2:=zh (fun W=>qi2 s P2 K2 a2 e2 h3 h4 hs hP2 W)
 have HE:=zh (fun W=>qty K1 a1 P1 e1 (by rw[hP1,qd0 s a1 e1 (by omega)];omega) (by omega) W)
 obtain⟨N,hN⟩: ∃N,N=T.length:=⟨_,rfl⟩
 rw[<-hN]at hk hT⊢
 have g0: ¬(k:Int)+1<1:=by omega
 have g1:(k:Int)+1< (N:Int):=by omega
 have g2: ¬(e1:Int)> (a2:Int):=by omega
 have g3:(e1:Int)<=(a2:Int):=by omega
 have g4:(a2:Int)<=(s.size:Int):=by omega
 have g5:(k:Int)< (N:Int):=by omega
 clear hc hr hx hy hP1 hP2 hN
 go_enter Tryz.func163,Tryz.ntmps163
 go_wp2_with fail
 go_cut [7,8]from 17 to 25 (fun p q wx=> ∃x y,p=.pointer (some ⟨x,0,none⟩)/\q=.pointer (some ⟨y,0,none⟩)/\Hid (HTwoW w wx x y (K1,P1,(a1:Int)) (K2,P2,(a2:Int))))
 case first=>
  go_region
  all_goals go_wp2_with fail
  all_goals go_meet
  all_goals first | exact⟨_,_,rfl,rfl,zh (two_a _ _ _ _ _ _ _ _ _ _ rfl rfl rfl rfl rfl rfl)⟩ | exact⟨_,_,rfl,rfl,zh (two_b _ _ _ _ _ _ _ _ _ _ rfl rfl rfl rfl rfl rfl)⟩
 case rest=>
  obtain⟨x,y,rfl,rfl,HP⟩:=hcut
  clear c1 c2 c3 d1 d2 d3
  have HW:Hid (HTwoW w wc.drew x y (K1,P1,(a1:Int)) (K2,P2,(a2:Int))):=zh (HP.out.below (zA (Below.refl _ _)))
  have D1:Hid (∀(K:Int) (P:ByteArray) (a:Int) W,((K=K1/\P=P1/\a=(a1:Int))\/(K=K2/\P=P2/\a=(a2:Int)))->HTwoW w W x y (K1,P1,(a1:Int)) (K2,P2,(a2:Int))->Calls Tryz.prog 185 #[.string s,.agg #[.int .i64 K,.string P,.int .i64 a]] W fun e w'=>e=.returned (.bool true)/\HTwoW w w' x y (K1,P1,(a1:Int)) (K2,P2,(a2:Int))):=zh fun K P a W hk h=>by
   rcases hk with⟨rfl,rfl,rfl⟩ | ⟨rfl,rfl,rfl⟩
   ·exact(HS1.out W).mono (by rintro e w' ⟨rfl,hb⟩;exact⟨rfl,h.below hb⟩)
   ·exact(HS2.out W).mono (by rintro e w' ⟨rfl,hb⟩;exact⟨rfl,h.below hb⟩)
  have D3:Hid (∀W,HTwoW w W x y (K1,P1,(a1:Int)) (K2,P2,(a2:Int))->Calls Tryz.prog 186 #[.agg #[.int .i64 K1,.string P1,.int .i64 (a1:Int)]] W fun e w'=>e=.returned (.int .i64 (e1:Int))/\HTwoW w w' x y (K1,P1,(a1:Int)) (K2,P2,(a2:Int))):=zh fun W h=>(HE.out W).mono (by rintro e w' ⟨rfl,hb⟩;exact⟨rfl,h.below hb⟩)
  clear HS1 HS2 HE HP
  have g6:decide ((a2:Int)< (e1:Int))=false:=decide_eq_false (by omega)
  go_wp2_with fail
  go_region_held3 (fun w'=>w'.cell? ⟨x,0,none⟩=some (.int .i64 K1)/\w'.cell? ⟨x,1,none⟩=some (.string P1)/\w'.cell? ⟨x,2,none⟩=some (.int .i64 (a1:Int))/\w'.cell? ⟨y,0,none⟩=some (.int .i64 K2)/\w'.cell? ⟨y,1,none⟩=some (.string P2)/\w'.cell? ⟨y,2,none⟩=some (.int .i64 (a2:Int))/\Hid (HTwoW w w' x y (K1,P1,(a1:Int)) (K2,P2,(a2:Int)))) (first | exact qti HW.out | exact qti ht1) (first
   | (go_at_call 185;refine(D1.out _ _ _ _ (by first | exact .inl ⟨rfl,rfl,rfl⟩ | exact .inr ⟨rfl,rfl,rfl⟩) (by first | (refine Hid.out ?_;assumption) | exact qoe (by assumption))).mono ?_;rintro e w1 ⟨rfl,ht1⟩)
   | (go_at_call 186;refine(D3.out _ (by first | (refine Hid.out ?_;assumption) | exact qoe (by assumption))).mono ?_;rintro e w1 ⟨rfl,ht1⟩))
  have HW2:Hid (HTwoW w w1.drew x y (K1,P1,(a1:Int)) (K2,P2,(a2:Int))):=zh (ht1.below (zA (Below.refl _ _)))
  clear ht1 HW
  have g7:decide (a2<e1)=false:=decide_eq_false (by omega)
  go_wp2_with fail
  go_region_held3 (fun w'=>w'.cell? ⟨x,0,none⟩=some (.int .i64 K1)/\w'.cell? ⟨x,1,none⟩=some (.string P1)/\w'.cell? ⟨x,2,none⟩=some (.int .i64 (a1:Int))/\w'.cell? ⟨y,0,none⟩=some (.int .i64 K2)/\w'.cell? ⟨y,1,none⟩=some (.string P2)/\w'.cell? ⟨y,2,none⟩=some (.int .i64 (a2:Int))/\Hid (HTwoW w w' x y (K1,P1,(a1:Int)) (K2,P2,(a2:Int)))) (first | exact qti HW2.out | exact qti ht2) (first
   | (go_at_call 186;refine(D3.out _ (by first | (refine Hid.out ?_;assumption) | exact qoe (by assumption))).mono ?_;rintro e w2 ⟨rfl,ht2⟩))
  go_wp2_with fail
  go_ret
  exact⟨rfl,ht2.2.2.2.2⟩
end Go.Proofs.YtdhadeeajgoedaaGreat
