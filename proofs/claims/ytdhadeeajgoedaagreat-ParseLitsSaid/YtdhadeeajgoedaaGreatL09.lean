import Derived.Test.YtdhadeeajgoedaaGreatL05
import Derived.Laws.IdiomStrings
import Derived.Lib.DecodeN
import Derived.Lib.SpaceUEq
set_option maxRecDepth 100000
set_option maxHeartbeats 4000000
set_option linter.all false
open Nat renaming add_sub_cancel→zA,le_refl→zB
namespace Go.Proofs.YtdhadeeajgoedaaGreat
open Go.RowKit Go.PlainAid
theorem Below.ofDrewN(w:World)(n:Nat):Below w.heap.size w (w.drewN n):=⟨rfl,rfl,rfl,zB _,fun _ _=>rfl⟩
theorem nc_of{s:ByteArray}{k n:Nat}{c:Int}(hl:ln (bt s k)=n)(hn:n≠0)(hs:k+n<=s.size)(ho:okn s k (n-1)=true)(hj:jp s k (qik n) (n-1)=c)(hlst:qjx n<=c)(hp:qgl c=true):nc s k=c:=by
 have hv:jv s k n=c:=by unfold jv;rw[if_pos ho,hj]
 unfold nc
 rw[hl,if_neg (by omega),hv,if_neg (by omega),if_pos hp]
theorem quw{s:ByteArray}{k n:Nat}{c:Int}(hl:ln (bt s k)=n)(hc:nc s k=c)(h0:0<=c):nl s k=n:=by
 unfold nl
 rw[hc,if_neg (by omega),hl]
end Go.Proofs.YtdhadeeajgoedaaGreat
namespace Go.Proofs.YtdhadeeajgoedaaGreat
open Go.PlainAid
end Go.Proofs.YtdhadeeajgoedaaGreat
namespace Go.Proofs.YtdhadeeajgoedaaGreat
open Go.RowKit Go.PlainAid
def vlr(c b:Int):Int:=if dg c<36/\dg c<b then dg c else-1
theorem vlr_bd(c b:Int): -1<=vlr c b/\vlr c b<36:=by
 have:=qtw c
 unfold vlr
 split<;>omega
theorem qm3{c b:Int}(hb:b<=36):0<=vlr c b↔dg c<b:=by
 have:=qtw c
 unfold vlr
 constructor
 ·intro h
  split at h
  ·rename_i h';exact h'.2
  ·omega
 ·intro h
  rw[if_pos ⟨by omega,h⟩]
  omega
theorem vlr_is{c b:Int}(hb:b<=36)(h:dg c<b):vlr c b=dg c:=by
 unfold vlr
 rw[if_pos ⟨by omega,h⟩]
def okk(s:ByteArray)(b:Int)(a:Nat)(un:Bool)(i:Nat):Bool:=
 decide (0<=vlr (bt s i) b)||(un&&(bt s i==95)&&decide (a<i)&&(bt s (i-1) !=95)&&decide (i+1<s.size)&&decide (0<=vlr (bt s (i+1)) b))
def ru(s:ByteArray)(b:Int)(a:Nat)(un:Bool)(i:Nat):Nat:=if _h:i<s.size then(if okk s b a un i=true then ru s b a un (i+1)else i)else i
termination_by s.size-i
theorem qh2{s:ByteArray}{b:Int}{a i:Nat}{un:Bool}(h: ¬i<s.size):ru s b a un i=i:=by rw[ru,dif_neg h]
theorem qlp{s:ByteArray}{b:Int}{a i:Nat}{un:Bool}(h:okk s b a un i=false):ru s b a un i=i:=by
 rw[ru]
 split
 ·rw[if_neg (by rw[h];decide)]
 ·rfl
theorem qzy{s:ByteArray}{b:Int}{a i:Nat}{un:Bool}(hi:i<s.size)(h:okk s b a un i=true):ru s b a un i=ru s b a un (i+1):=by rw[ru,dif_pos hi,if_pos h]
theorem qln(s:ByteArray)(b:Int)(a:Nat)(un:Bool): ∀m i,s.size-i<=m->i<=ru s b a un i/\(i<=s.size->ru s b a un i<=s.size):=by
 intro m
 induction m with
 | zero=>intro i h;rw[qh2 (by omega)];omega
 | succ m ih=>
  intro i h
  by_cases hi:i<s.size
  ·cases ho:okk s b a un i
   ·rw[qlp ho];omega
   ·rw[qzy hi ho]
    have:=ih (i+1) (by omega)
    omega
  ·rw[qh2 hi];omega
theorem qnu: ∀a:Fin 256,a.val &&& 192=a.val/64*64:=by decide+kernel
theorem qh5(x:Int)(h0:0<=x)(h1:x<256):bits .and .u8 x 192=x/64*64:=by
 have:=qnu ⟨x.toNat,by omega⟩
 simp only at this
 rw[u8_and x 192 h0 h1 (by decide) (by decide)]
 simp only[Int.reduceToNat]
 rw[this];omega
theorem qgk(x:Int)(h0:0<=x)(h1:x<256):bits .and .i64 x 31=x % 32:=bits_mask .i64 63 (by decide) qha 5 (by decide) x h0 (by omega)
theorem qpg(x:Int)(h0:0<=x)(h1:x<256):bits .and .i64 x 15=x % 16:=bits_mask .i64 63 (by decide) qha 4 (by decide) x h0 (by omega)
theorem qu9(x:Int)(h0:0<=x)(h1:x<256):bits .and .i64 x 7=x % 8:=bits_mask .i64 63 (by decide) qha 3 (by decide) x h0 (by omega)
theorem qe4(c:Int)(w:World)(h:qgl c=true):
 Calls Tryz.prog 85 #[.int .i64 c] w fun e w'=>e=.returned (.bool true)/\w=w':=by
 have h':=of_decide_eq_true h
 have h0:0<=c:=by omega
 have h1:c<=1114111:=by omega
 clear h
 by_cases h2:c<55296
 ·clear h'
  go_enter Tryz.func85,Tryz.ntmps85
  go_wp2
  go_ret
  exact⟨rfl,rfl⟩
 ·have h3:57343<c:=by omega
  have h2':decide (c<55296)=false:=by simp;omega
  clear h' h2
  go_enter Tryz.func85,Tryz.ntmps85
  go_wp2
  go_ret
  exact⟨rfl,rfl⟩
theorem qf0(c:Int)(w:World)(h:qgl c=false):
 Calls Tryz.prog 85 #[.int .i64 c] w fun e w'=>e=.returned (.bool false)/\w=w':=by
 have h':=of_decide_eq_false h
 clear h
 by_cases h0:0<=c
 ·by_cases h1:c<=1114111
  ·have h2:decide (c<55296)=false:=by simp;omega
   have h3:decide (57343<c)=false:=by simp;omega
   clear h'
   go_enter Tryz.func85,Tryz.ntmps85
   go_wp2
   go_ret
   exact⟨rfl,rfl⟩
  ·have h2:decide (c<=1114111)=false:=by simp;omega
   clear h' h1
   go_enter Tryz.func85,Tryz.ntmps85
   go_wp2
   go_ret
   exact⟨rfl,rfl⟩
 ·have h2:decide (0<=c)=false:=by simp;omega
  clear h' h0
  go_enter Tryz.func85,Tryz.ntmps85
  go_wp2
  go_ret
  exact⟨rfl,rfl⟩
theorem qkg(s:ByteArray)(i:Int)(w:World)(h:i<0\/(s.size:Int)<=i):
 Calls Tryz.prog 50 #[.string s,.int .i64 i] w fun e w'=>e=.returned (.tuple #[.int .i64 0,.int .i64 0])/\ ∃n,w'=w.drewN n:=by
 rcases h with h | h
 ·go_enter Tryz.func50,Tryz.ntmps50
  go_wp2
  go_ret2
  exact⟨rfl,0,rfl⟩
 ·have h0:0<=i:=by omega
  go_enter Tryz.func50,Tryz.ntmps50
  go_wp2
  go_ret2
  exact⟨rfl,0,rfl⟩
theorem qlk(s:ByteArray)(k:Nat)(w:World)(hk:k<s.size)(h:bt s k<128):
 Calls Tryz.prog 50 #[.string s,.int .i64 k] w fun e w'=>e=.returned (.tuple #[.int .i64 (bt s k),.int .i64 1])/\ ∃n,w'=w.drewN n:=by
 have gb:=get_bt s
 have x0:=bt_nonneg s k
 go_enter Tryz.func50,Tryz.ntmps50
 go_wp2
 go_ret2
 exact⟨rfl,0,rfl⟩
theorem qhw(s:ByteArray)(k:Nat)(w:World)(hk:k<s.size)(h:128<=bt s k/\bt s k<192\/248<=bt s k):
 Calls Tryz.prog 50 #[.string s,.int .i64 k] w fun e w'=>e=.returned (.tuple #[.int .i64 (-1),.int .i64 1])/\ ∃n,w'=w.drewN n:=by
 have gb:=get_bt s
 have x0:=bt_nonneg s k
 have x1:=bt_le s k
 rcases h with⟨h,h'⟩ | h
 ·go_enter Tryz.func50,Tryz.ntmps50
  go_wp2
  go_ret2
  exact⟨rfl,0,rfl⟩
 ·have d1:decide (bt s k<224)=false:=by simp;omega
  have d2:decide (bt s k<240)=false:=by simp;omega
  have d3:decide (bt s k<248)=false:=by simp;omega
  have d4:192<=bt s k:=by omega
  have d5:224<=bt s k:=by omega
  have d6:240<=bt s k:=by omega
  go_enter Tryz.func50,Tryz.ntmps50
  go_wp2
  go_ret2
  exact⟨rfl,0,rfl⟩
theorem qj1{s:ByteArray}{h j:Int}{k i:Nat}(h1:1<=i)(hj:j=jp s k h (i-1))(c1:128<=bt s (k+i))(c2:bt s (k+i)<192):j*64+bt s (k+i) % 64=jp s k h (i+1-1):=by
 obtain⟨m,rfl⟩: ∃m,i=m+1:=⟨i-1,by omega⟩
 simp only[zA]at hj⊢
 simp only[jp]
 rw[<-hj]
 omega
theorem qgz{s:ByteArray}{k i:Nat}(h1:1<=i)(ho:okn s k (i-1)=true)(c1:128<=bt s (k+i))(c2:bt s (k+i)<192):okn s k (i+1-1)=true:=by
 obtain⟨m,rfl⟩: ∃m,i=m+1:=⟨i-1,by omega⟩
 simp only[zA]at ho⊢
 simp only[okn,ho,Bool.true_and]
 exact decide_eq_true ⟨c1,c2⟩
theorem qj2{s:ByteArray}{n k i:Nat}(h1:1<=i)(h2:i<n)(hc: ¬(128<=bt s (k+i)/\bt s (k+i)<192)):jv s k n= -1:=by
 unfold jv
 rw[if_neg]
 intro h
 exact hc (qqp (n-1) h i h1 (by omega))
theorem ql8{s:ByteArray}{k n:Nat}(hl:ln (bt s k)=n)(h:jv s k n= -1):nc s k= -1:=by
 unfold nc
 rw[hl,h]
 split
 ·rfl
 ·split
  ·rfl
  ·rfl
theorem qd3{s:ByteArray}{k:Nat}(h:nc s k= -1):nl s k=1:=by
 unfold nl;rw[h];rfl
theorem qz5{s:ByteArray}{k n:Nat}(hl:ln (bt s k)=n)(hn:n≠0)(hs:k+n<=s.size):nc s k=if jv s k n<qjx n then-1 else if qgl (jv s k n)=true then jv s k n else-1:=by
 conv=>lhs;unfold nc
 rw[hl,if_neg (by omega)]
theorem qc5{a b c d:Int}(h:a=b)(h':c=d):Ending.returned (.tuple #[.int .i64 a,.int .i64 c])=.returned (.tuple #[.int .i64 b,.int .i64 d]):=by rw[h,h']
theorem qzo(s:ByteArray)(k:Nat)(w:World)(hk:k<s.size)(hs:s.size<=maxLen)(h0:192<=bt s k)(h1:bt s k<224):
 Calls Tryz.prog 50 #[.string s,.int .i64 k] w fun e w'=>e=.returned (.tuple #[.int .i64 (nc s k),.int .i64 (nl s k)])/\ ∃n,w'=w.drewN n:=by
 unfold maxLen at hs
 have hl:ln (bt s k)=2:=by unfold ln;rw[if_neg (by omega),if_neg (by omega),if_pos (by omega)]
 have gb:=get_bt s
 have x0:=bt_nonneg s k
 have hm:=qgk (bt s k) x0 (by omega)
 by_cases hend:s.size<k+2
 ·have e1:nc s k= -1:=by unfold nc;rw[hl,if_pos (.inr hend)]
  have e2:=qd3 e1
  rw[e1,e2]
  clear e1 e2 hl
  go_enter Tryz.func50,Tryz.ntmps50
  go_wp2
  go_ret2
  exact⟨rfl,0,rfl⟩
 ·have hin:k+2<=s.size:=by omega
  clear hend
  have HL:=zh hl
  have hj0:bt s k % 32=jp s k (qik 2) 0:=by simp only[jp,qik];omega
  have HJ0:=zh hj0
  clear hl hj0
  obtain⟨C,hC⟩: ∃C,C=nc s k:=⟨_,rfl⟩
  obtain⟨L,hL⟩: ∃L,L=nl s k:=⟨_,rfl⟩
  rw[<-hC,<-hL]
  have HC:=zh hC
  have HLL:=zh hL
  clear hC hL
  go_enter Tryz.func50,Tryz.ntmps50
  go_wp2
  go_loop [6,9] (fun c i=> ∃m:Nat,1<=m/\m<=2/\i=.int .i64 m/\c=.int .i64 (jp s k (qik 2) (m-1))/\okn s k (m-1)=true) (fun _ i=>2- (intOf i).toNat)
  case atStart=>exact⟨1,zB _,by omega,rfl,by rw[HJ0.out],rfl⟩
  case round=>
   obtain⟨m,hm1,hm2,rfl,rfl,hok⟩:=hrel
   have J:=qym s k 2 HL.out (by omega) (m-1) hok
   obtain⟨j,hj⟩: ∃j,j=jp s k (qik 2) (m-1):=⟨_,rfl⟩
   rw[<-hj]at J⊢
   have J0:=J.1
   clear hm
   have HO:=zh hok
   have HJ:=zh hj
   clear hok hj
   by_cases hlt:m<2
   ·have J1:j<1048576:=by
     have:(64:Int) ^ (m-1)<=4096:=by
      obtain h | h | h:m-1=0\/m-1=1\/m-1=2:=by omega
      all_goals (rw[h];decide)
     omega
    clear J
    have y0:=bt_nonneg s (k+m)
    have y1:=bt_le s (k+m)
    have e1:=u8_and63 (bt s (k+m)) y0 (by omega)
    have e2:=qh5 (bt s (k+m)) y0 (by omega)
    by_cases hco:128<=bt s (k+m)/\bt s (k+m)<192
    ·obtain⟨c1,c2⟩:=hco
     have e3:bt s (k+m)/64*64=128:=by omega
     rw[e3]at e2
     clear e3
     go_wp2
     go_round
     case rel=>exact⟨m+1,by omega,by omega,by go_num,by rw[qj1 hm1 HJ.out c1 c2],qgz hm1 HO.out c1 c2⟩
     case measure=>simp[intOf];omega
    ·have e3:(bt s (k+m)/64*64==128)=false:=by simp;omega
     have HN:=zh (ql8 HL.out (qj2 hm1 hlt hco))
     have HN2:=zh (qd3 HN.out)
     clear hco
     go_wp2
     go_ret2
     exact⟨qc5 (by rw[HC.out,HN.out]) (by rw[HLL.out,HN2.out];rfl),0,rfl⟩
   ·obtain rfl:m=2:=by omega
    have hv:jv s k 2=j:=by unfold jv;rw[if_pos HO.out,HJ.out]
    have hnc:=qz5 HL.out (by omega) hin
    rw[hv]at hnc
    simp only[qjx]at hnc
    have HV:=zh hv
    clear hv J
    by_cases hls:j<128
    ·rw[if_pos hls]at hnc
     have HN:=zh hnc
     have HN2:=zh (qd3 HN.out)
     clear hnc
     go_wp2
     go_ret2
     exact⟨qc5 (by rw[HC.out,HN.out]) (by rw[HLL.out,HN2.out];rfl),0,rfl⟩
    ·rw[if_neg hls]at hnc
     by_cases hp:qgl j=true
     ·rw[if_pos hp]at hnc
      have HN:=zh hnc
      have HN2:=zh (quw HL.out HN.out J0)
      have HP:=zh hp
      clear hnc hp
      go_wp2_with (go_at_call 85;refine(qe4 _ _ HP.out).mono ?_;rintro e w' ⟨rfl,rfl⟩)
      go_ret2
      exact⟨qc5 (by rw[HC.out,HN.out]) (by rw[HLL.out,HN2.out];rfl),0,rfl⟩
     ·rw[if_neg hp]at hnc
      have HN:=zh hnc
      have HN2:=zh (qd3 HN.out)
      have HP:=zh (Bool.eq_false_iff.2 hp)
      clear hnc hp
      go_wp2_with (go_at_call 85;refine(qf0 _ _ HP.out).mono ?_;rintro e w' ⟨rfl,rfl⟩)
      go_ret2
      exact⟨qc5 (by rw[HC.out,HN.out]) (by rw[HLL.out,HN2.out];rfl),0,rfl⟩
theorem qzp(s:ByteArray)(k:Nat)(w:World)(hk:k<s.size)(hs:s.size<=maxLen)(h0:224<=bt s k)(h1:bt s k<240):
 Calls Tryz.prog 50 #[.string s,.int .i64 k] w fun e w'=>e=.returned (.tuple #[.int .i64 (nc s k),.int .i64 (nl s k)])/\ ∃n,w'=w.drewN n:=by
 unfold maxLen at hs
 have hl:ln (bt s k)=3:=by unfold ln;rw[if_neg (by omega),if_neg (by omega),if_neg (by omega),if_pos (by omega)]
 have gb:=get_bt s
 have x0:=bt_nonneg s k
 have d1:decide (bt s k<224)=false:=by simp;omega
 have d4:192<=bt s k:=by omega
 have hm:=qpg (bt s k) x0 (by omega)
 by_cases hend:s.size<k+3
 ·have e1:nc s k= -1:=by unfold nc;rw[hl,if_pos (.inr hend)]
  have e2:=qd3 e1
  rw[e1,e2]
  clear e1 e2 hl
  go_enter Tryz.func50,Tryz.ntmps50
  go_wp2
  go_ret2
  exact⟨rfl,0,rfl⟩
 ·have hin:k+3<=s.size:=by omega
  clear hend
  have HL:=zh hl
  have hj0:bt s k % 16=jp s k (qik 3) 0:=by simp only[jp,qik];omega
  have HJ0:=zh hj0
  clear hl hj0
  obtain⟨C,hC⟩: ∃C,C=nc s k:=⟨_,rfl⟩
  obtain⟨L,hL⟩: ∃L,L=nl s k:=⟨_,rfl⟩
  rw[<-hC,<-hL]
  have HC:=zh hC
  have HLL:=zh hL
  clear hC hL
  go_enter Tryz.func50,Tryz.ntmps50
  go_wp2
  go_loop [6,9] (fun c i=> ∃m:Nat,1<=m/\m<=3/\i=.int .i64 m/\c=.int .i64 (jp s k (qik 3) (m-1))/\okn s k (m-1)=true) (fun _ i=>3- (intOf i).toNat)
  case atStart=>exact⟨1,zB _,by omega,rfl,by rw[HJ0.out],rfl⟩
  case round=>
   obtain⟨m,hm1,hm2,rfl,rfl,hok⟩:=hrel
   have J:=qym s k 3 HL.out (by omega) (m-1) hok
   obtain⟨j,hj⟩: ∃j,j=jp s k (qik 3) (m-1):=⟨_,rfl⟩
   rw[<-hj]at J⊢
   have J0:=J.1
   clear hm
   have HO:=zh hok
   have HJ:=zh hj
   clear hok hj
   by_cases hlt:m<3
   ·have J1:j<1048576:=by
     have:(64:Int) ^ (m-1)<=4096:=by
      obtain h | h | h:m-1=0\/m-1=1\/m-1=2:=by omega
      all_goals (rw[h];decide)
     omega
    clear J
    have y0:=bt_nonneg s (k+m)
    have y1:=bt_le s (k+m)
    have e1:=u8_and63 (bt s (k+m)) y0 (by omega)
    have e2:=qh5 (bt s (k+m)) y0 (by omega)
    by_cases hco:128<=bt s (k+m)/\bt s (k+m)<192
    ·obtain⟨c1,c2⟩:=hco
     have e3:bt s (k+m)/64*64=128:=by omega
     rw[e3]at e2
     clear e3
     go_wp2
     go_round
     case rel=>exact⟨m+1,by omega,by omega,by go_num,by rw[qj1 hm1 HJ.out c1 c2],qgz hm1 HO.out c1 c2⟩
     case measure=>simp[intOf];omega
    ·have e3:(bt s (k+m)/64*64==128)=false:=by simp;omega
     have HN:=zh (ql8 HL.out (qj2 hm1 hlt hco))
     have HN2:=zh (qd3 HN.out)
     clear hco
     go_wp2
     go_ret2
     exact⟨qc5 (by rw[HC.out,HN.out]) (by rw[HLL.out,HN2.out];rfl),0,rfl⟩
   ·obtain rfl:m=3:=by omega
    have hv:jv s k 3=j:=by unfold jv;rw[if_pos HO.out,HJ.out]
    have hnc:=qz5 HL.out (by omega) hin
    rw[hv]at hnc
    simp only[qjx]at hnc
    have HV:=zh hv
    clear hv J
    by_cases hls:j<2048
    ·rw[if_pos hls]at hnc
     have HN:=zh hnc
     have HN2:=zh (qd3 HN.out)
     clear hnc
     go_wp2
     go_ret2
     exact⟨qc5 (by rw[HC.out,HN.out]) (by rw[HLL.out,HN2.out];rfl),0,rfl⟩
    ·rw[if_neg hls]at hnc
     by_cases hp:qgl j=true
     ·rw[if_pos hp]at hnc
      have HN:=zh hnc
      have HN2:=zh (quw HL.out HN.out J0)
      have HP:=zh hp
      clear hnc hp
      go_wp2_with (go_at_call 85;refine(qe4 _ _ HP.out).mono ?_;rintro e w' ⟨rfl,rfl⟩)
      go_ret2
      exact⟨qc5 (by rw[HC.out,HN.out]) (by rw[HLL.out,HN2.out];rfl),0,rfl⟩
     ·rw[if_neg hp]at hnc
      have HN:=zh hnc
      have HN2:=zh (qd3 HN.out)
      have HP:=zh (Bool.eq_false_iff.2 hp)
      clear hnc hp
      go_wp2_with (go_at_call 85;refine(qf0 _ _ HP.out).mono ?_;rintro e w' ⟨rfl,rfl⟩)
      go_ret2
      exact⟨qc5 (by rw[HC.out,HN.out]) (by rw[HLL.out,HN2.out];rfl),0,rfl⟩
theorem qzq(s:ByteArray)(k:Nat)(w:World)(hk:k<s.size)(hs:s.size<=maxLen)(h0:240<=bt s k)(h1:bt s k<248):
 Calls Tryz.prog 50 #[.string s,.int .i64 k] w fun e w'=>e=.returned (.tuple #[.int .i64 (nc s k),.int .i64 (nl s k)])/\ ∃n,w'=w.drewN n:=by
 unfold maxLen at hs
 have hl:ln (bt s k)=4:=by unfold ln;rw[if_neg (by omega),if_neg (by omega),if_neg (by omega),if_neg (by omega),if_pos (by omega)]
 have gb:=get_bt s
 have x0:=bt_nonneg s k
 have d1:decide (bt s k<224)=false:=by simp;omega
 have d4:192<=bt s k:=by omega
 have d2:decide (bt s k<240)=false:=by simp;omega
 have d5:224<=bt s k:=by omega
 have hm:=qu9 (bt s k) x0 (by omega)
 by_cases hend:s.size<k+4
 ·have e1:nc s k= -1:=by unfold nc;rw[hl,if_pos (.inr hend)]
  have e2:=qd3 e1
  rw[e1,e2]
  clear e1 e2 hl
  go_enter Tryz.func50,Tryz.ntmps50
  go_wp2
  go_ret2
  exact⟨rfl,0,rfl⟩
 ·have hin:k+4<=s.size:=by omega
  clear hend
  have HL:=zh hl
  have hj0:bt s k % 8=jp s k (qik 4) 0:=by simp only[jp,qik];omega
  have HJ0:=zh hj0
  clear hl hj0
  obtain⟨C,hC⟩: ∃C,C=nc s k:=⟨_,rfl⟩
  obtain⟨L,hL⟩: ∃L,L=nl s k:=⟨_,rfl⟩
  rw[<-hC,<-hL]
  have HC:=zh hC
  have HLL:=zh hL
  clear hC hL
  go_enter Tryz.func50,Tryz.ntmps50
  go_wp2
  go_loop [6,9] (fun c i=> ∃m:Nat,1<=m/\m<=4/\i=.int .i64 m/\c=.int .i64 (jp s k (qik 4) (m-1))/\okn s k (m-1)=true) (fun _ i=>4- (intOf i).toNat)
  case atStart=>exact⟨1,zB _,by omega,rfl,by rw[HJ0.out],rfl⟩
  case round=>
   obtain⟨m,hm1,hm2,rfl,rfl,hok⟩:=hrel
   have J:=qym s k 4 HL.out (by omega) (m-1) hok
   obtain⟨j,hj⟩: ∃j,j=jp s k (qik 4) (m-1):=⟨_,rfl⟩
   rw[<-hj]at J⊢
   have J0:=J.1
   clear hm
   have HO:=zh hok
   have HJ:=zh hj
   clear hok hj
   by_cases hlt:m<4
   ·have J1:j<1048576:=by
     have:(64:Int) ^ (m-1)<=4096:=by
      obtain h | h | h:m-1=0\/m-1=1\/m-1=2:=by omega
      all_goals (rw[h];decide)
     omega
    clear J
    have y0:=bt_nonneg s (k+m)
    have y1:=bt_le s (k+m)
    have e1:=u8_and63 (bt s (k+m)) y0 (by omega)
    have e2:=qh5 (bt s (k+m)) y0 (by omega)
    by_cases hco:128<=bt s (k+m)/\bt s (k+m)<192
    ·obtain⟨c1,c2⟩:=hco
     have e3:bt s (k+m)/64*64=128:=by omega
     rw[e3]at e2
     clear e3
     go_wp2
     go_round
     case rel=>exact⟨m+1,by omega,by omega,by go_num,by rw[qj1 hm1 HJ.out c1 c2],qgz hm1 HO.out c1 c2⟩
     case measure=>simp[intOf];omega
    ·have e3:(bt s (k+m)/64*64==128)=false:=by simp;omega
     have HN:=zh (ql8 HL.out (qj2 hm1 hlt hco))
     have HN2:=zh (qd3 HN.out)
     clear hco
     go_wp2
     go_ret2
     exact⟨qc5 (by rw[HC.out,HN.out]) (by rw[HLL.out,HN2.out];rfl),0,rfl⟩
   ·obtain rfl:m=4:=by omega
    have hv:jv s k 4=j:=by unfold jv;rw[if_pos HO.out,HJ.out]
    have hnc:=qz5 HL.out (by omega) hin
    rw[hv]at hnc
    simp only[qjx]at hnc
    have HV:=zh hv
    clear hv J
    by_cases hls:j<65536
    ·rw[if_pos hls]at hnc
     have HN:=zh hnc
     have HN2:=zh (qd3 HN.out)
     clear hnc
     go_wp2
     go_ret2
     exact⟨qc5 (by rw[HC.out,HN.out]) (by rw[HLL.out,HN2.out];rfl),0,rfl⟩
    ·rw[if_neg hls]at hnc
     by_cases hp:qgl j=true
     ·rw[if_pos hp]at hnc
      have HN:=zh hnc
      have HN2:=zh (quw HL.out HN.out J0)
      have HP:=zh hp
      clear hnc hp
      go_wp2_with (go_at_call 85;refine(qe4 _ _ HP.out).mono ?_;rintro e w' ⟨rfl,rfl⟩)
      go_ret2
      exact⟨qc5 (by rw[HC.out,HN.out]) (by rw[HLL.out,HN2.out];rfl),0,rfl⟩
     ·rw[if_neg hp]at hnc
      have HN:=zh hnc
      have HN2:=zh (qd3 HN.out)
      have HP:=zh (Bool.eq_false_iff.2 hp)
      clear hnc hp
      go_wp2_with (go_at_call 85;refine(qf0 _ _ HP.out).mono ?_;rintro e w' ⟨rfl,rfl⟩)
      go_ret2
      exact⟨qc5 (by rw[HC.out,HN.out]) (by rw[HLL.out,HN2.out];rfl),0,rfl⟩
theorem qe3(s:ByteArray)(k:Nat)(w:World)(hk:k<s.size)(hs:s.size<=maxLen):
 Calls Tryz.prog 50 #[.string s,.int .i64 k] w fun e w'=>e=.returned (.tuple #[.int .i64 (nc s k),.int .i64 (nl s k)])/\ ∃n,w'=w.drewN n:=by
 have x0:=bt_nonneg s k
 by_cases h1:bt s k<128
 ·have hl:ln (bt s k)=1:=by unfold ln;rw[if_pos h1]
  have hc:nc s k=bt s k:=nc_of hl (by omega) (by omega) rfl (by simp only[jp,qik,Nat.sub_self];omega) (by simp only[qjx];omega) (decide_eq_true (by omega))
  rw[quw hl hc x0,hc]
  exact qlk s k w hk h1
 by_cases h2:bt s k<192
 ·have hl:ln (bt s k)=0:=by unfold ln;rw[if_neg h1,if_pos h2]
  have hc:nc s k= -1:=by unfold nc;rw[hl,if_pos (.inl rfl)]
  rw[qd3 hc,hc]
  exact qhw s k w hk (.inl ⟨by omega,h2⟩)
 by_cases h3:bt s k<224
 ·exact qzo s k w hk hs (by omega) h3
 by_cases h4:bt s k<240
 ·exact qzp s k w hk hs (by omega) h4
 by_cases h5:bt s k<248
 ·exact qzq s k w hk hs (by omega) h5
 ·have hl:ln (bt s k)=0:=by unfold ln;rw[if_neg h1,if_neg h2,if_neg h3,if_neg h4,if_neg h5]
  have hc:nc s k= -1:=by unfold nc;rw[hl,if_pos (.inl rfl)]
  rw[qd3 hc,hc]
  exact qhw s k w hk (.inr (by omega))
theorem qhz(s:ByteArray)(w:World)(hs:s.size<=maxLen):
 Calls Tryz.prog 31 #[.string s] w fun e w'=>e=.returned (.bool (vd s 0))/\ ∃n,w'=w.drewN n:=by
 have HS:=zh hs
 unfold maxLen at hs
 obtain⟨v,hv⟩: ∃v,v=vd s 0:=⟨_,rfl⟩
 rw[<-hv]
 have HV:=zh hv
 clear hv
 go_enter Tryz.func31,Tryz.ntmps31
 go_wp2
 go_loopw [3] (fun i wr=> ∃k:Nat,k<=s.size/\i=.int .i64 k/\Hid (v=vd s k)/\Hid (∃n,wr=w.drewN n)) (fun i _=>s.size- (intOf i).toNat)
 case atStart=>exact⟨0,Nat.zero_le _,rfl,HV,⟨0,rfl⟩⟩
 case round=>
  obtain⟨k,hk,rfl,HK,HW⟩:=hrel
  obtain⟨n0,rfl⟩:=HW.out
  by_cases hlt:k<s.size
  ·have l1:=quv s k hlt
   have l2:=qcj s k
   by_cases hn:nc s k<0
   ·have HF:=zh (HK.out.trans (qxh hlt hn))
    go_wp2_with (go_at_call 50;refine(qe3 s k _ hlt HS.out).mono ?_;rintro e w' ⟨rfl,m,rfl⟩)
    go_ret
    exact⟨by rw[HF.out];rfl,_,rfl⟩
   ·have HF:=zh (HK.out.trans (vd_go hlt hn))
    go_wp2_with (go_at_call 50;refine(qe3 s k _ hlt HS.out).mono ?_;rintro e w' ⟨rfl,m,rfl⟩)
    go_roundw
    case rel=>exact⟨k+nl s k,l1,by go_num,HF,⟨_,rfl⟩⟩
    case measure=>simp[intOf];omega
  ·have HF:=zh (HK.out.trans (qt7 hlt))
   go_wp2
   go_ret
   exact⟨by rw[HF.out];rfl,n0,rfl⟩
end Go.Proofs.YtdhadeeajgoedaaGreat
