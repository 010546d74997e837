/-
  What the claims stand on: RefNumber.
-/
import Derived.Test.YtdhadeeajgoedaaGreatK06
import Derived.Test.YtdhadeeajgoedaaGreatK23
set_option maxRecDepth 100000
set_option maxHeartbeats 4000000
set_option linter.unusedVariables false
set_option linter.unusedSimpArgs false
namespace Go.Proofs.YtdhadeeajgoedaaGreat
open Go.RowKit Go.PlainAid
theorem qf2(s:ByteArray)(a:Nat)(ha:a<=s.size)(hs:s.size<=1048576):qki s a ((bke s a:Int)-a):=by
 obtain⟨n,hn⟩: ∃n,n=ru s 10 a true a:=⟨_,rfl⟩
 obtain⟨K,hK⟩: ∃K,K=ru s 10 (n+1) true (n+1):=⟨_,rfl⟩
 obtain⟨j,hj⟩: ∃j,j=exb s (K+1):=⟨_,rfl⟩
 obtain⟨L,hL⟩: ∃L,L=ru s 10 j true j:=⟨_,rfl⟩
 have hb:=qgw hn hK hj hL
 obtain⟨l1,hl1,hl1s,H1⟩:=qh8 s a 10 true ha hs (by omega)
 rw[<-hn]at hl1
 have eL:(a:Int)+(l1:Int)=(n:Int):=by omega
 have han:a<=n:=by omega
 have hns:n<=s.size:=by omega
 by_cases hp:a<n/\n<s.size/\bt s n=46
 ·rw[if_pos hp]at hb
  obtain⟨p0,p1,p2⟩:=hp
  obtain⟨z,hz1,hz2,H2⟩:=qh8 s (n+1) 10 true p1 hs (by omega)
  rw[<-hK]at hz1
  rw[show((n+1:Nat):Int)=(n:Int)+1 from rfl]at H2
  by_cases c2:K<s.size/\ise (bt s K)=true
  ·by_cases hz0:z=0
   ·rw[if_pos (by omega)]at hb
    exact qkk s a l1 n z _ hs p0 p1 p2 hz2 (zh H1) eL (zh H2) (zh ⟨fun _=>by rw[hb];omega,fun h=>by omega⟩) (.inl hz0)
   ·rw[if_neg (by omega),if_pos c2]at hb
    obtain⟨c3,c4⟩:=c2
    have hjs:j=K+1\/j=K+1+1:=by rw[hj];unfold exb;split<;>simp
    rw[hz1]at c3 c4 hb
    by_cases hsg:bt s (n+1+z+1)=43\/bt s (n+1+z+1)=45
    ·have hj2:j=n+1+z+1+1:=by rw[hj,hz1];unfold exb;rw[if_pos hsg]
     have hlt:n+1+z+1<s.size:=by
      apply Classical.byContradiction
      intro h'
      rw[bt_end s (by omega)]at hsg
      omega
     obtain⟨l,hl1',hl2,H3⟩:=qh8 s j 10 true (by omega) hs (by omega)
     rw[<-hL]at hl1'
     have ej:((j:Nat):Int)=(n:Int)+1+z+1+1:=by omega
     rw[ej]at H3
     refine qkl s a l1 n z l _ hs p0 p1 p2 (by omega) c3 (zh H1) eL (zh H2) c4 (by omega) (.inr ⟨H3,hlt,hsg,fun h=>?_,fun h=>?_⟩)
     ·rw[hb,if_pos (by omega)];omega
     ·rw[hb,if_neg (by omega)];omega
    ·have hj2:j=n+1+z+1:=by rw[hj,hz1];unfold exb;rw[if_neg hsg]
     obtain⟨l,hl1',hl2,H3⟩:=qh8 s j 10 true (by omega) hs (by omega)
     rw[<-hL]at hl1'
     have ej:((j:Nat):Int)=(n:Int)+1+z+1:=by omega
     rw[ej]at H3
     refine qkl s a l1 n z l _ hs p0 p1 p2 (by omega) c3 (zh H1) eL (zh H2) c4 (by omega) (.inl ⟨H3,?_,fun h=>?_,fun h=>?_⟩)
     ·by_cases h:n+1+z+1<s.size
      ·exact .inr ⟨h,hsg⟩
      ·exact .inl (by omega)
     ·rw[hb,if_pos (by omega)];omega
     ·rw[hb,if_neg (by omega)];omega
  ·refine qkk s a l1 n z _ hs p0 p1 p2 hz2 (zh H1) eL (zh H2) (zh ⟨fun h=>?_,fun h=>?_⟩) ?_
   ·rw[hb,if_pos (by omega)];omega
   ·rw[hb,if_neg (by omega),if_neg c2];omega
   ·by_cases h:z=0
    ·exact .inl h
    ·by_cases h':n+1+z<s.size
     ·refine .inr (.inr ⟨by omega,h',?_⟩)
      cases he:isEA s (n+1+z)
      ·rfl
      ·exact absurd ⟨by omega,by rw[hz1];exact he⟩ c2
     ·exact .inr (.inl ⟨by omega,by omega⟩)
 ·rw[if_neg hp]at hb
  rw[hb,Int.sub_self]
  exact qu3 s a l1 n hs hns han (zh H1) eL hp
theorem qhz(s:ByteArray)(p:Nat)(hp:p<s.size)(hs:s.size<=1048576)(hf:bke s p≠p)(w:World):
 Calls Tryz.prog 53 #[.string s,.int .i64 p] w fun e w'=>e=.returned (tokV s p (num s p))/\Below w.heap.size w w':=by
 have hbd:=qsz s p (by omega)
 have H1:=zh (qf2 s p (by omega) hs)
 have hnum:num s p=if bke s p<s.size/\inn (bt s (bke s p))=true then(0,0)else(4,bke s p):=by
  have hne:ne s p=bke s p:=by unfold ne;rw[if_neg hf]
  unfold num
  rw[hne]
  by_cases c:bke s p<s.size/\inn (bt s (bke s p))=true
  ·rw[if_pos (.inr c),if_pos c]
  ·rw[if_neg (by rintro(h | h);exact hf h;exact c h),if_neg (fun h=>hf h.1),if_neg hf,if_neg c]
 obtain⟨E,hE⟩: ∃E,E=bke s p:=⟨_,rfl⟩
 rw[<-hE]at hnum H1 hbd hf
 clear hE
 obtain⟨n,hn⟩: ∃n:Int,n=(E:Int)-p:=⟨_,rfl⟩
 rw[<-hn]at H1
 have eL:(p:Int)+n=(E:Int):=by omega
 have n0:(n==0)=false:=beq_false_of_ne (by omega)
 clear hn
 obtain⟨V,hV⟩: ∃V,V=tokV s p (num s p):=⟨_,rfl⟩
 rw[<-hV]
 have HV:=zh (hV.trans (by rw[hnum]))
 clear hV hnum
 have hbd6:=fun(k:Int) (t:ByteArray) (a:Int) (W:World)=>qb8 k t a W
 have hbd0:=fun(W:World)=>qb7 W
 have k1:(p:Int)<=(E:Int):=by omega
 have k2:(E:Int)<=(s.size:Int):=by omega
 have hsd:=qbi
 by_cases h1:E<s.size
 ·have gx:=get_bt s E h1
  have HI:=zh (fun W=>qev (bt s E) W)
  have g1:(E:Int)< (s.size:Int):=by omega
  cases hi:inn (bt s E)
  ·have HF:Hid (.tuple #[.agg #[.int .i64 4,.string (s.extract p E),.int .i64 p],.int .i64 0]=V):=zh (by rw[HV.out,if_neg (fun h=>by rw[hi]at h;cases h.2)];rfl)
   rw[hi]at HI
   obtain⟨c,hc⟩: ∃c,c=bt s E:=⟨_,rfl⟩
   rw[<-hc]at gx HI
   clear hc hi
   go_enter Tryz.func53,Tryz.ntmps53
   go_wp2_with fail
   refine(H1.out _).mono ?_
   rintro e w' ⟨rfl,q1,rfl⟩
   go_wp2_with fail
   refine(HI.out _).mono ?_
   rintro e w' ⟨rfl,rfl⟩
   go_wp2_with fail
   refine bodyPost_ret (v:=.tuple #[.agg #[.int .i64 4,.string (s.extract p E),.int .i64 p],.int .i64 0]) (by simp[results,Tryz.results53,go_sem]) rfl ⟨congrArg Ending.returned HF.out,qe7 _ _ _⟩
  ·have HF:Hid (.tuple #[.agg #[.int .i64 0,.string ⟨#[]⟩,.int .i64 0],.int .i64 4]=V):=zh (by rw[HV.out,if_pos ⟨h1,hi⟩];rfl)
   rw[hi]at HI
   obtain⟨c,hc⟩: ∃c,c=bt s E:=⟨_,rfl⟩
   rw[<-hc]at gx HI
   clear hc hi
   go_enter Tryz.func53,Tryz.ntmps53
   go_wp2_with fail
   refine(H1.out _).mono ?_
   rintro e w' ⟨rfl,q1,rfl⟩
   go_wp2_with fail
   refine(HI.out _).mono ?_
   rintro e w' ⟨rfl,rfl⟩
   go_wp2_with fail
   refine bodyPost_ret (v:=.tuple #[.agg #[.int .i64 0,.string ⟨#[]⟩,.int .i64 0],.int .i64 4]) (by simp[results,Tryz.results53,go_sem]) rfl ⟨congrArg Ending.returned HF.out,qe7 _ _ _⟩
 ·have HF:Hid (.tuple #[.agg #[.int .i64 4,.string (s.extract p E),.int .i64 p],.int .i64 0]=V):=zh (by rw[HV.out,if_neg (fun h=>h1 h.1)];rfl)
  have g1: ¬(E:Int)< (s.size:Int):=by omega
  go_enter Tryz.func53,Tryz.ntmps53
  go_wp2_with fail
  refine(H1.out _).mono ?_
  rintro e w' ⟨rfl,q1,rfl⟩
  go_wp2_with fail
  refine bodyPost_ret (v:=.tuple #[.agg #[.int .i64 4,.string (s.extract p E),.int .i64 p],.int .i64 0]) (by simp[results,Tryz.results53,go_sem]) rfl ⟨congrArg Ending.returned HF.out,qe7 _ _ _⟩
theorem quu{s:ByteArray}{p k:Nat}(hp:p<=k)(hk:k<s.size):decide (ix s 35 p<k+1)=(decide (ix s 35 p<k)||(bt s k==35)):=by
 rw[Bool.eq_iff_iff,Bool.or_eq_true,decide_eq_true_iff,decide_eq_true_iff,beq_iff_eq,qut (by omega) (by omega),qut (by omega) (by omega)]
 constructor
 ·rintro⟨i,i1,i2,i3⟩
  by_cases h:i=k
  ·rw[<-h];exact .inr i3
  ·exact .inl ⟨i,i1,by omega,i3⟩
 ·rintro(⟨i,i1,i2,i3⟩ | h)
  ·exact⟨i,i1,by omega,i3⟩
  ·exact⟨k,hp,by omega,h⟩
theorem qjy(s:ByteArray)(p:Nat)(hp:p<s.size)(hs:s.size<=1048576)(hf:bke s p=p)(w:World):
 Calls Tryz.prog 53 #[.string s,.int .i64 p] w fun e w'=>e=.returned (tokV s p (num s p))/\Below w.heap.size w w':=by
 have hbd:=qtw s p (by omega)
 have H1:=qf2 s p (by omega) hs
 rw[hf,Int.sub_self]at H1
 have H1:=zh H1
 have H2:=zh (fun W=>qju s p (by omega) hs W)
 have HG:=zh (get_bt s)
 have hnum:num s p=if whe s p=p\/(whe s p<s.size/\inn (bt s (whe s p))=true)then(0,0)else if whe s p<s.size/\bt s (whe s p)=35/\ ¬ix s 35 p<whe s p then(0,0)else(3,whe s p):=by
  have hne:ne s p=whe s p:=by unfold ne;rw[if_pos hf]
  unfold num
  rw[hne]
  by_cases c:whe s p=p\/(whe s p<s.size/\inn (bt s (whe s p))=true)
  ·rw[if_pos c,if_pos c]
  ·rw[if_neg c,if_neg c,if_pos hf]
   by_cases c2:whe s p<s.size/\bt s (whe s p)=35/\ ¬ix s 35 p<whe s p
   ·rw[if_pos ⟨hf,c2⟩,if_pos c2]
   ·rw[if_neg (fun h=>c2 h.2),if_neg c2]
 obtain⟨E,hE⟩: ∃E,E=whe s p:=⟨_,rfl⟩
 rw[<-hE]at hnum hbd
 have H2:Hid (∀W,Calls Tryz.prog 88 #[.string s,.int .i64 p] W fun e w'=>e=.returned (.int .i64 ((E:Int)-p))/\ ∃n,w'=W.drewN n):=zh fun W=>by rw[hE];exact H2.out W
 clear hE hf
 obtain⟨n,hn⟩: ∃n:Int,n=(E:Int)-p:=⟨_,rfl⟩
 rw[<-hn]at H2
 have eL:(p:Int)+n=(E:Int):=by omega
 obtain⟨V,hV⟩: ∃V,V=tokV s p (num s p):=⟨_,rfl⟩
 rw[<-hV]
 have HV:=zh (hV.trans (by rw[hnum]))
 clear hV hnum
 have hbd6:=fun(k:Int) (t:ByteArray) (a:Int) (W:World)=>qb8 k t a W
 have hbd0:=fun(W:World)=>qb7 W
 have k1:(p:Int)<=(E:Int):=by omega
 have k2:(E:Int)<=(s.size:Int):=by omega
 have hsd:=qbi
 by_cases h0:E=p
 ·have HF:Hid (.tuple #[.agg #[.int .i64 0,.string ⟨#[]⟩,.int .i64 0],.int .i64 4]=V):=zh (by rw[HV.out,if_pos (.inl h0)];rfl)
  obtain rfl:n=0:=by omega
  clear hn
  go_enter Tryz.func53,Tryz.ntmps53
  go_wp2_with fail
  refine(H1.out _).mono ?_
  rintro e w' ⟨rfl,q1,rfl⟩
  go_wp2_with fail
  refine(H2.out _).mono ?_
  rintro e w' ⟨rfl,q2,rfl⟩
  go_wp2_with fail
  refine bodyPost_ret (v:=.tuple #[.agg #[.int .i64 0,.string ⟨#[]⟩,.int .i64 0],.int .i64 4]) (by simp[results,Tryz.results53,go_sem]) rfl ⟨congrArg Ending.returned HF.out,qe7 _ _ _⟩
 have n0:(n==0)=false:=beq_false_of_ne (by omega)
 clear hn
 by_cases h1:E<s.size
 ·have gx:=get_bt s E h1
  have HI:=zh (fun W=>qev (bt s E) W)
  have g1:(E:Int)< (s.size:Int):=by omega
  cases hi:inn (bt s E)
  ·rw[hi]at HI
   by_cases h35:bt s E=35
   ·have HYES:Hid (true=decide (ix s 35 p<E)->.tuple #[.agg #[.int .i64 3,.string (s.extract p E),.int .i64 p],.int .i64 0]=V):=zh fun h=>by
     have h':=of_decide_eq_true h.symm
     rw[HV.out,if_neg (by rintro(g | g);exact h0 g;rw[hi]at g;cases g.2),if_neg (fun g=>g.2.2 h')];rfl
    have HNO:Hid (false=decide (ix s 35 p<E)->.tuple #[.agg #[.int .i64 0,.string ⟨#[]⟩,.int .i64 0],.int .i64 4]=V):=zh fun h=>by
     have h':=of_decide_eq_false h.symm
     rw[HV.out,if_neg (by rintro(g | g);exact h0 g;rw[hi]at g;cases g.2),if_pos ⟨h1,h35,h'⟩];rfl
    have HX0:Hid (false=decide (ix s 35 p<p)):=zh (by
     have:=(qel s 35 _ p (Nat.le_refl _) (by omega)).1
     rw[decide_eq_false (by omega)])
    rw[h35]at gx HI
    clear hi h35
    go_enter Tryz.func53,Tryz.ntmps53
    go_wp2_with fail
    refine(H1.out _).mono ?_
    rintro e w' ⟨rfl,q1,rfl⟩
    go_wp2_with fail
    refine(H2.out _).mono ?_
    rintro e w' ⟨rfl,q2,rfl⟩
    go_wp2_with fail
    refine(HI.out _).mono ?_
    rintro e w' ⟨rfl,rfl⟩
    go_wp2_with fail
    go_loopg [9,10] (E-p) (fun gn v i wr=> ∃(k:Nat) (b:Bool),gn=E-k/\p<=k/\k<=E/\v=.bool b/\i=.int .i64 k/\Hid (b=decide (ix s 35 p<k))/\wr=(w.alloc (.cells #[.int .i64 0,.string ⟨#[]⟩,.int .i64 0] 34)).drewN (q1+q2))
    case atStart=>exact⟨p,false,rfl,Nat.le_refl _,by omega,rfl,rfl,HX0,rfl⟩
    case round=>
     obtain⟨k,b,hgn,hpk,hk,rfl,rfl,HB,rfl⟩:=hrel
     by_cases hkE:k<E
     ·have gk:=HG.out k (by omega)
      have HN:=zh (quu (s:=s) hpk (show k<s.size by omega))
      have kE:(k:Int)< (E:Int):=by omega
      obtain⟨d,hd⟩: ∃d,d=bt s k:=⟨_,rfl⟩
      rw[<-hd]at gk HN
      clear hd
      cases b
      ·cases hv:(d==35)
       ·have HF2:Hid (false=decide (ix s 35 p<k+1)):=zh (by rw[HN.out,<-HB.out,hv];rfl)
        go_wp2_with fail
        go_roundg (E- (k+1))
        case measure=>omega
        case rel=>exact⟨k+1,false,rfl,by omega,hkE,rfl,by go_num,HF2,rfl⟩
       ·have HF2:Hid (true=decide (ix s 35 p<k+1)):=zh (by rw[HN.out,hv,Bool.or_true])
        go_wp2_with fail
        go_roundg (E- (k+1))
        case measure=>omega
        case rel=>exact⟨k+1,true,rfl,by omega,hkE,rfl,by go_num,HF2,rfl⟩
      ·have HF2:Hid (true=decide (ix s 35 p<k+1)):=zh (by rw[HN.out,<-HB.out,Bool.true_or])
       go_wp2_with fail
       go_roundg (E- (k+1))
       case measure=>omega
       case rel=>exact⟨k+1,true,rfl,by omega,hkE,rfl,by go_num,HF2,rfl⟩
     ·obtain rfl:E=k:=by omega
      cases b
      ·have HF:=zh (HNO.out HB.out)
       go_wp2_with fail
       refine bodyPost_ret (v:=.tuple #[.agg #[.int .i64 0,.string ⟨#[]⟩,.int .i64 0],.int .i64 4]) (by simp[results,Tryz.results53,go_sem]) rfl ⟨congrArg Ending.returned HF.out,qe7 _ _ _⟩
      ·have HF:=zh (HYES.out HB.out)
       go_wp2_with fail
       refine bodyPost_ret (v:=.tuple #[.agg #[.int .i64 3,.string (s.extract p E),.int .i64 p],.int .i64 0]) (by simp[results,Tryz.results53,go_sem]) rfl ⟨congrArg Ending.returned HF.out,qe7 _ _ _⟩
   ·have HF:Hid (.tuple #[.agg #[.int .i64 3,.string (s.extract p E),.int .i64 p],.int .i64 0]=V):=zh (by rw[HV.out,if_neg (by rintro(g | g);exact h0 g;rw[hi]at g;cases g.2),if_neg (fun g=>h35 g.2.1)];rfl)
    have c35:(bt s E==35)=false:=beq_false_of_ne h35
    obtain⟨c,hc⟩: ∃c,c=bt s E:=⟨_,rfl⟩
    rw[<-hc]at gx HI c35
    clear hc hi h35
    go_enter Tryz.func53,Tryz.ntmps53
    go_wp2_with fail
    refine(H1.out _).mono ?_
    rintro e w' ⟨rfl,q1,rfl⟩
    go_wp2_with fail
    refine(H2.out _).mono ?_
    rintro e w' ⟨rfl,q2,rfl⟩
    go_wp2_with fail
    refine(HI.out _).mono ?_
    rintro e w' ⟨rfl,rfl⟩
    go_wp2_with fail
    refine bodyPost_ret (v:=.tuple #[.agg #[.int .i64 3,.string (s.extract p E),.int .i64 p],.int .i64 0]) (by simp[results,Tryz.results53,go_sem]) rfl ⟨congrArg Ending.returned HF.out,qe7 _ _ _⟩
  ·have HF:Hid (.tuple #[.agg #[.int .i64 0,.string ⟨#[]⟩,.int .i64 0],.int .i64 4]=V):=zh (by rw[HV.out,if_pos (.inr ⟨h1,hi⟩)];rfl)
   rw[hi]at HI
   obtain⟨c,hc⟩: ∃c,c=bt s E:=⟨_,rfl⟩
   rw[<-hc]at gx HI
   clear hc hi
   go_enter Tryz.func53,Tryz.ntmps53
   go_wp2_with fail
   refine(H1.out _).mono ?_
   rintro e w' ⟨rfl,q1,rfl⟩
   go_wp2_with fail
   refine(H2.out _).mono ?_
   rintro e w' ⟨rfl,q2,rfl⟩
   go_wp2_with fail
   refine(HI.out _).mono ?_
   rintro e w' ⟨rfl,rfl⟩
   go_wp2_with fail
   refine bodyPost_ret (v:=.tuple #[.agg #[.int .i64 0,.string ⟨#[]⟩,.int .i64 0],.int .i64 4]) (by simp[results,Tryz.results53,go_sem]) rfl ⟨congrArg Ending.returned HF.out,qe7 _ _ _⟩
 ·have HF:Hid (.tuple #[.agg #[.int .i64 3,.string (s.extract p E),.int .i64 p],.int .i64 0]=V):=zh (by rw[HV.out,if_neg (by rintro(g | g);exact h0 g;exact h1 g.1),if_neg (fun g=>h1 g.1)];rfl)
  have g1: ¬(E:Int)< (s.size:Int):=by omega
  go_enter Tryz.func53,Tryz.ntmps53
  go_wp2_with fail
  refine(H1.out _).mono ?_
  rintro e w' ⟨rfl,q1,rfl⟩
  go_wp2_with fail
  refine(H2.out _).mono ?_
  rintro e w' ⟨rfl,q2,rfl⟩
  go_wp2_with fail
  refine bodyPost_ret (v:=.tuple #[.agg #[.int .i64 3,.string (s.extract p E),.int .i64 p],.int .i64 0]) (by simp[results,Tryz.results53,go_sem]) rfl ⟨congrArg Ending.returned HF.out,qe7 _ _ _⟩
theorem qjx(s:ByteArray)(p:Nat)(hp:p<s.size)(hs:s.size<=1048576)(w:World):
 Calls Tryz.prog 53 #[.string s,.int .i64 p] w fun e w'=>e=.returned (tokV s p (num s p))/\Below w.heap.size w w':=by
 by_cases hf:bke s p=p
 ·exact qjy s p hp hs hf w
 ·exact qhz s p hp hs hf w
end Go.Proofs.YtdhadeeajgoedaaGreat
