import Derived.Test.YtdhadeeajgoedaaGreatL09
import Derived.Test.YtdhadeeajgoedaaGreatL10
import Derived.Deep.LoopGhost
set_option maxRecDepth 100000
set_option maxHeartbeats 4000000
set_option linter.all false
namespace Go.Proofs.YtdhadeeajgoedaaGreat
open Go.RowKit Go.PlainAid
theorem qfh(c b:Int)(h0:0<=c)(h1:c<=255)(hb:0<=b)(w:World):
 Calls Tryz.prog 145 #[.int .u8 c,.int .i64 b] w fun e w'=>e=.returned (.int .i64 (vlr c b))/\w=w':=by
 have HD:=zh (fun W=>qgb c W)
 unfold qmi at HD
 have key:(48<=c/\c<=57/\dg c=c-48)\/((decide (48<=c)&&decide (c<=57))=false/\decide (97<=c)=true/\decide (c<=122)=true/\dg c=c-97+10)\/
  ((decide (48<=c)&&decide (c<=57))=false/\decide (97<=c)=false/\decide (65<=c)=true/\decide (c<=90)=true/\dg c=c-65+10)\/
  (((decide (48<=c)&&decide (c<=57))=false/\decide (97<=c)=false/\decide (65<=c)=true/\decide (c<=90)=false/\dg c=36)\/
  ((decide (48<=c)&&decide (c<=57))=false/\decide (97<=c)=false/\decide (65<=c)=false/\dg c=36)\/
  ((decide (48<=c)&&decide (c<=57))=false/\decide (97<=c)=true/\decide (c<=122)=false/\decide (65<=c)=true/\decide (c<=90)=false/\dg c=36)):=by
  unfold dg
  by_cases a1:48<=c/\c<=57
  ·exact .inl ⟨a1.1,a1.2,by rw[if_pos a1]⟩
  have n1:(decide (48<=c)&&decide (c<=57))=false:=by rw[<-Bool.decide_and];exact decide_eq_false a1
  by_cases a2:97<=c
  ·by_cases a3:c<=122
   ·exact .inr (.inl ⟨n1,decide_eq_true a2,decide_eq_true a3,by rw[if_neg a1,if_neg (by omega),if_pos ⟨a2,a3⟩];omega⟩)
   ·exact .inr (.inr (.inr (.inr (.inr ⟨n1,decide_eq_true a2,decide_eq_false a3,decide_eq_true (by omega),decide_eq_false (by omega),by rw[if_neg a1,if_neg (by omega),if_neg (by omega)]⟩))))
  ·by_cases a4:65<=c
   ·by_cases a5:c<=90
    ·exact .inr (.inr (.inl ⟨n1,decide_eq_false a2,decide_eq_true a4,decide_eq_true a5,by rw[if_neg a1,if_pos ⟨a4,a5⟩];omega⟩))
    ·exact .inr (.inr (.inr (.inl ⟨n1,decide_eq_false a2,decide_eq_true a4,decide_eq_false a5,by rw[if_neg a1,if_neg (by omega),if_neg (by omega)]⟩)))
   ·exact .inr (.inr (.inr (.inr (.inl ⟨n1,decide_eq_false a2,decide_eq_false a4,by rw[if_neg a1,if_neg (by omega),if_neg (by omega)]⟩))))
 have hv: ∀d,dg c=d->vlr c b=if d<36/\d<b then d else-1:=fun d hd=>by unfold vlr;rw[hd]
 rcases key with⟨k1,k2,k3⟩ | ⟨k1,k2,k3,k4⟩ | ⟨k1,k2,k3,k4,k5⟩ | hbad
 ·rw[decide_eq_true k1,decide_eq_true k2]at HD
  rw[hv _ k3]
  clear hv k3
  by_cases hlt:c-48<b
  ·rw[if_pos (by omega)]
   go_enter Tryz.func145,Tryz.ntmps145
   go_wp2_with fail
   refine(HD.out _).mono ?_
   rintro e w' ⟨rfl,rfl⟩
   go_wp2_with fail
   go_ret
   exact⟨rfl,rfl⟩
  ·rw[if_neg (by omega)]
   go_enter Tryz.func145,Tryz.ntmps145
   go_wp2_with fail
   refine(HD.out _).mono ?_
   rintro e w' ⟨rfl,rfl⟩
   go_wp2_with fail
   go_ret
   exact⟨rfl,rfl⟩
 ·rw[k1]at HD
  rw[hv _ k4]
  have k2':=of_decide_eq_true k2
  have k3':=of_decide_eq_true k3
  clear hv k4
  by_cases hlt:c-97+10<b
  ·rw[if_pos (by omega)]
   go_enter Tryz.func145,Tryz.ntmps145
   go_wp2_with fail
   refine(HD.out _).mono ?_
   rintro e w' ⟨rfl,rfl⟩
   go_wp2_with fail
   go_ret
   exact⟨rfl,rfl⟩
  ·rw[if_neg (by omega)]
   go_enter Tryz.func145,Tryz.ntmps145
   go_wp2_with fail
   refine(HD.out _).mono ?_
   rintro e w' ⟨rfl,rfl⟩
   go_wp2_with fail
   go_ret
   exact⟨rfl,rfl⟩
 ·rw[k1]at HD
  rw[hv _ k5]
  have k3':=of_decide_eq_true k3
  have k4':=of_decide_eq_true k4
  clear hv k5
  by_cases hlt:c-65+10<b
  ·rw[if_pos (by omega)]
   go_enter Tryz.func145,Tryz.ntmps145
   go_wp2_with fail
   refine(HD.out _).mono ?_
   rintro e w' ⟨rfl,rfl⟩
   go_wp2_with fail
   go_ret
   exact⟨rfl,rfl⟩
  ·rw[if_neg (by omega)]
   go_enter Tryz.func145,Tryz.ntmps145
   go_wp2_with fail
   refine(HD.out _).mono ?_
   rintro e w' ⟨rfl,rfl⟩
   go_wp2_with fail
   go_ret
   exact⟨rfl,rfl⟩
 ·rcases hbad with⟨k1,k2,k3,k4,k5⟩ | ⟨k1,k2,k3,k5⟩ | ⟨k1,k2,k3,k4,k4',k5⟩
  all_goals
   rw[k1]at HD
   rw[hv _ k5,if_neg (by omega)]
   have hb': ¬b<= -1:=by omega
   clear hv k5 k1
   go_enter Tryz.func145,Tryz.ntmps145
   go_wp2_with fail
   refine(HD.out _).mono ?_
   rintro e w' ⟨rfl,rfl⟩
   go_wp2_with fail
   go_ret
   exact⟨rfl,rfl⟩
theorem qvl(s:ByteArray)(j:Nat)(b:Int)(m:Nat)(hj:j<=s.size)(hs:s.size<=1048576)(hb:0<=b)(hb':b<=16)(hm:m<=6)(w:World):
 Calls Tryz.prog 118 #[.string s,.int .i64 j,.int .i64 b,.int .i64 m] w fun e w'=>e=.returned (.tuple #[.int .i64 (rv s b m j 0),.int .i64 (rc s b m j)])/\ ∃n,w'=w.drewN n:=by
 have HG:=zh (get_bt s)
 obtain⟨A,hA⟩: ∃A,A=rv s b m j 0:=⟨_,rfl⟩
 obtain⟨N,hN⟩: ∃N,N=rc s b m j:=⟨_,rfl⟩
 rw[<-hA,<-hN]
 have HA:=zh hA
 have HN:=zh hN
 clear hA hN
 go_enter Tryz.func118,Tryz.ntmps118
 go_wp2_with fail
 go_loopg [10,11] m (fun gn v i wr=> ∃(k:Nat) (x:Int),gn=m-k/\k<=m/\j+k<=s.size/\v=.int .i64 x/\i=.int .i64 k/\0<=x/\x<16777216/\Hid (x<16 ^ k)/\Hid (∃q,wr=w.drewN q)/\Hid (A=rv s b (m-k) (j+k) x)/\Hid (N=k+rc s b (m-k) (j+k)))
 case atStart=>exact⟨0,0,rfl,Nat.zero_le _,by omega,rfl,rfl,Int.le_refl _,by omega,zh (by simp),zh ⟨0,rfl⟩,HA,zh (by rw[Nat.zero_add];exact HN.out)⟩
 case round=>
  obtain⟨k,x,hgn,hk,hjk,rfl,rfl,hx0,hx1,HX,HW,HK,HL⟩:=hrel
  obtain⟨q0,rfl⟩:=HW.out
  by_cases hkm:k=m
  ·subst hkm
   have HF:=zh (show A=x/\N=k from⟨by have:=HK.out;rw[Nat.sub_self]at this;exact this,by have:=HL.out;rw[Nat.sub_self]at this;exact this⟩)
   clear HX
   go_wp2_with fail
   go_ret2
   exact⟨qvg HF.out.1.symm (by rw[HF.out.2]),_,rfl⟩
  have g0:(k:Int)< (m:Int):=by omega
  obtain⟨i,hi⟩: ∃i,m-k=i+1:=⟨m-k-1,by omega⟩
  by_cases hlt:j+k<s.size
  ·have g1:(j:Int)+(k:Int)< (s.size:Int):=by omega
   have gx:=HG.out (j+k) hlt
   have x0:=bt_nonneg s (j+k)
   have x1:=bt_le s (j+k)
   have HV:=zh (fun W=>qfh (bt s (j+k)) b x0 x1 hb W)
   have hvb:=vlr_bd (bt s (j+k)) b
   obtain⟨hv0,hv1⟩:=hvb
   have HD:Hid (0<=vlr (bt s (j+k)) b->dg (bt s (j+k))<b/\vlr (bt s (j+k)) b=dg (bt s (j+k))):=fun h=>by
    have:=(qm3 (by omega)).1 h
    exact⟨this,vlr_is (by omega) this⟩
   have HD':Hid (¬0<=vlr (bt s (j+k)) b-> ¬dg (bt s (j+k))<b):=fun h h'=>h ((qm3 (by omega)).2 h')
   have d0:=(qtw (bt s (j+k))).1
   obtain⟨y,hy⟩: ∃y,y=vlr (bt s (j+k)) b:=⟨_,rfl⟩
   rw[<-hy]at HV hv0 hv1 HD HD'
   obtain⟨c,hc⟩: ∃c,c=bt s (j+k):=⟨_,rfl⟩
   rw[<-hc]at gx HV HD HD' d0
   have HCE:=zh hc
   clear hc hy x0 x1 d0
   by_cases hy0:0<=y
   ·obtain⟨hd1,hd2⟩:=HD.out hy0
    have HKN:=zh (show A=rv s b (m- (k+1)) (j+(k+1)) (x*b+y)by
     have:=HK.out
     rw[hi,rv,<-HCE.out,if_pos hd1,<-hd2,show i=m- (k+1)by omega,show j+k+1=j+(k+1)by omega]at this
     exact this)
    have HLN:=zh (show N=k+1+rc s b (m- (k+1)) (j+(k+1))by
     have:=HL.out
     rw[hi,rc,<-HCE.out,if_pos hd1,show i=m- (k+1)by omega,show j+k+1=j+(k+1)by omega]at this
     omega)
    have hxb:x*b<=x*16:=Int.mul_le_mul_of_nonneg_left hb' hx0
    have hxb0:0<=x*b:=Int.mul_nonneg hx0 hb
    have hy16:y<16:=by omega
    have hxN:=zh (show x*b+y<16 ^ (k+1)by
     have:=HX.out
     rw[Int.pow_succ]
     omega)
    have hxN2:x*b+y<16777216:=by
     have h1:=hxN.out
     have h2:=qk9 16 (by omega) (k+1) 6 (by omega)
     have h3:(16:Int) ^ 6=16777216:=by decide
     omega
    have w1:IntKind.i64.wrap (x*b)=x*b:=by rw[IntKind.wrap_i64];omega
    clear hd1 hd2 HD HD' HX
    go_wp2_with fail
    refine(HV.out _).mono ?_
    rintro e w' ⟨rfl,rfl⟩
    go_wp2_with fail
    refine(HV.out _).mono ?_
    rintro e w' ⟨rfl,rfl⟩
    go_wp2_with fail
    go_roundg (m- (k+1))
    case measure=>omega
    case rel=>exact⟨k+1,x*b+y,rfl,by omega,by omega,rfl,by go_num,by omega,hxN2,hxN,zh ⟨_,rfl⟩,HKN,HLN⟩
   ·have hd:=HD'.out hy0
    have HF:=zh (show A=x/\N=k by
     have h1:=HK.out
     have h2:=HL.out
     rw[hi,rv,<-HCE.out,if_neg hd]at h1
     rw[hi,rc,<-HCE.out,if_neg hd]at h2
     exact⟨h1,h2⟩)
    clear hd HD HD' HX
    go_wp2_with fail
    refine(HV.out _).mono ?_
    rintro e w' ⟨rfl,rfl⟩
    go_wp2_with fail
    go_ret2
    exact⟨qvg HF.out.1.symm (by rw[HF.out.2]),_,rfl⟩
  ·have g1: ¬(j:Int)+(k:Int)< (s.size:Int):=by omega
   have HF:=zh (show A=x/\N=k by
    have h1:=HK.out
    have h2:=HL.out
    have hd:=qwi (s:=s) (k:=j+k) (by omega)
    rw[hi,rv,hd,if_neg (by omega)]at h1
    rw[hi,rc,hd,if_neg (by omega)]at h2
    exact⟨h1,h2⟩)
   clear HX
   go_wp2_with fail
   go_ret2
   exact⟨qvg HF.out.1.symm (by rw[HF.out.2]),_,rfl⟩
theorem qmz(s:ByteArray)(a:Nat)(b:Int)(un:Bool)(ha:a<=s.size)(hs:s.size<=1048576)(hb:0<=b)(w:World):
 Calls Tryz.prog 117 #[.string s,.int .i64 a,.int .i64 b,.bool un] w fun e w'=>e=.returned (.int .i64 ((ru s b a un a:Int)-a))/\ ∃n,w'=w.drewN n:=by
 have HG:=zh (get_bt s)
 have hge:=(qln s b a un s.size a (by omega)).1
 obtain⟨R,hR⟩: ∃R,R=ru s b a un a:=⟨_,rfl⟩
 rw[<-hR]at hge⊢
 have hRs:R<=s.size:=by rw[hR];exact(qln s b a un s.size a (by omega)).2 ha
 have HR:=zh hR
 clear hR
 go_enter Tryz.func117,Tryz.ntmps117
 go_wp2_with fail
 go_loopg [9] (s.size-a) (fun gn i wr=> ∃k:Nat,gn=s.size-k/\a<=k/\k<=s.size/\i=.int .i64 k/\Hid (∃q,wr=w.drewN q)/\Hid (R=ru s b a un k))
 case atStart=>exact⟨a,rfl,Nat.le_refl _,ha,rfl,zh ⟨0,rfl⟩,HR⟩
 case round=>
  obtain⟨k,hgn,hak,hk,rfl,HW,HK⟩:=hrel
  obtain⟨q0,rfl⟩:=HW.out
  by_cases hlt:k<s.size
  ·have gx:=HG.out k hlt
   have x0:=bt_nonneg s k
   have x1:=bt_le s k
   have HV:=zh (fun W=>qfh (bt s k) b x0 x1 hb W)
   have HY:=zh (fun(hk1:k+1<s.size)=>HG.out (k+1) hk1)
   have HP:=zh (fun(hk1:k-1<s.size)=>HG.out (k-1) hk1)
   have HV2:=zh (fun W=>qfh (bt s (k+1)) b (bt_nonneg s _) (bt_le s _) hb W)
   have HOK:Hid (okk s b a un k=(decide (0<=vlr (bt s k) b)||(un&&(bt s k==95)&&decide (a<k)&&(bt s (k-1) !=95)&&decide (k+1<s.size)&&decide (0<=vlr (bt s (k+1)) b)))):=rfl
   have HGO:Hid (okk s b a un k=true->R=ru s b a un (k+1)):=fun h=>by rw[HK.out,qzy hlt h]
   have HST:Hid (okk s b a un k=false->R=k):=fun h=>by rw[HK.out,qlp h]
   obtain⟨y,hy⟩: ∃y,y=vlr (bt s k) b:=⟨_,rfl⟩
   obtain⟨z,hz⟩: ∃z,z=vlr (bt s (k+1)) b:=⟨_,rfl⟩
   obtain⟨ok,hok⟩: ∃ok,ok=okk s b a un k:=⟨_,rfl⟩
   rw[<-hy]at HV HOK
   rw[<-hz]at HV2 HOK
   rw[<-hok]at HOK HGO HST
   obtain⟨c,hc⟩: ∃c,c=bt s k:=⟨_,rfl⟩
   obtain⟨d,hd⟩: ∃d,d=bt s (k+1):=⟨_,rfl⟩
   obtain⟨p,hpp⟩: ∃p,p=bt s (k-1):=⟨_,rfl⟩
   rw[<-hc]at gx HV HOK
   rw[<-hd]at HV2 HY
   rw[<-hpp]at HP HOK
   clear hy hz hok hc hd hpp x0 x1
   by_cases hy0:0<=y
   ·have HF:=zh (HGO.out (by rw[HOK.out,decide_eq_true hy0];rfl))
    go_wp2_with fail
    refine(HV.out _).mono ?_
    rintro e w' ⟨rfl,rfl⟩
    go_wp2_with fail
    go_roundg (s.size- (k+1))
    case measure=>omega
    case rel=>exact⟨k+1,rfl,by omega,hlt,by go_num,zh ⟨_,rfl⟩,HF⟩
   ·cases un
    ·have g0:y<0:=by omega
     have HF:=zh (HST.out (by rw[HOK.out,decide_eq_false hy0];rfl))
     go_wp2_with fail
     refine(HV.out _).mono ?_
     rintro e w' ⟨rfl,rfl⟩
     go_wp2_with fail
     go_ret
     exact⟨qef (by rw[HF.out]),_,rfl⟩
    have g0:y<0:=by omega
    by_cases c95:c=95
    ·have g1:(c==95)=true:=by rw[c95];rfl
     clear c95
     by_cases hak2:a<k
     ·have g2:(a:Int)< (k:Int):=by omega
      have gp:=HP.out (by omega)
      have k1:(0:Int)<=(k:Int)-1:=by omega
      have k2:((k:Int)-1).toNat=k-1:=by omega
      have k3:(k:Int)-1< (s.size:Int):=by omega
      by_cases p95:p=95
      ·have g3:(p !=95)=false:=by rw[p95];rfl
       clear p95
       have HF:=zh (HST.out (by rw[HOK.out,decide_eq_false hy0];rw[g1,g3];simp))
       go_wp2_with fail
       refine(HV.out _).mono ?_
       rintro e w' ⟨rfl,rfl⟩
       go_wp2_with fail
       go_ret
       exact⟨qef (by rw[HF.out]),_,rfl⟩
      ·have g3:(p !=95)=true:=by simpa using p95
       clear p95
       by_cases hk1:k+1<s.size
       ·have g4:(k:Int)+1< (s.size:Int):=by omega
        have gd:=HY.out hk1
        by_cases hz0:0<=z
        ·have HF:=zh (HGO.out (by rw[HOK.out,decide_eq_false hy0];rw[g1,g3,decide_eq_true hak2,decide_eq_true hk1,decide_eq_true hz0];rfl))
         go_wp2_with fail
         refine(HV.out _).mono ?_
         rintro e w' ⟨rfl,rfl⟩
         go_wp2_with fail
         refine(HV2.out _).mono ?_
         rintro e w' ⟨rfl,rfl⟩
         go_wp2_with fail
         go_roundg (s.size- (k+1))
         case measure=>omega
         case rel=>exact⟨k+1,rfl,by omega,hlt,by go_num,zh ⟨_,rfl⟩,HF⟩
        ·have HF:=zh (HST.out (by rw[HOK.out,decide_eq_false hy0];rw[decide_eq_false hz0];simp))
         have gz:decide (0<=z)=false:=decide_eq_false hz0
         go_wp2_with fail
         refine(HV.out _).mono ?_
         rintro e w' ⟨rfl,rfl⟩
         go_wp2_with fail
         refine(HV2.out _).mono ?_
         rintro e w' ⟨rfl,rfl⟩
         go_wp2_with fail
         go_ret
         exact⟨qef (by rw[HF.out]),_,rfl⟩
       ·have g4: ¬(k:Int)+1< (s.size:Int):=by omega
        have HF:=zh (HST.out (by rw[HOK.out,decide_eq_false hy0];rw[decide_eq_false hk1];simp))
        go_wp2_with fail
        refine(HV.out _).mono ?_
        rintro e w' ⟨rfl,rfl⟩
        go_wp2_with fail
        go_ret
        exact⟨qef (by rw[HF.out]),_,rfl⟩
     ·have g2: ¬(a:Int)< (k:Int):=by omega
      have HF:=zh (HST.out (by rw[HOK.out,decide_eq_false hy0];rw[decide_eq_false hak2];simp))
      go_wp2_with fail
      refine(HV.out _).mono ?_
      rintro e w' ⟨rfl,rfl⟩
      go_wp2_with fail
      go_ret
      exact⟨qef (by rw[HF.out]),_,rfl⟩
    ·have g1:(c==95)=false:=beq_false_of_ne c95
     clear c95
     have HF:=zh (HST.out (by rw[HOK.out,decide_eq_false hy0];rw[g1];simp))
     go_wp2_with fail
     refine(HV.out _).mono ?_
     rintro e w' ⟨rfl,rfl⟩
     go_wp2_with fail
     go_ret
     exact⟨qef (by rw[HF.out]),_,rfl⟩
  ·obtain rfl:k=s.size:=by omega
   have HF:=zh (show R=s.size by rw[HK.out,qh2 (by omega)])
   go_wp2_with fail
   go_ret
   exact⟨qef (by rw[HF.out]),_,rfl⟩
end Go.Proofs.YtdhadeeajgoedaaGreat
