/-
  What the claims stand on: RefOnes, RefScans.
-/
import Derived.Test.YtdhadeeajgoedaaGreatK06
import Derived.Test.YtdhadeeajgoedaaGreatK13
import Derived.Test.YtdhadeeajgoedaaGreatK15
import Derived.Test.YtdhadeeajgoedaaGreatK23
import Derived.Test.YtdhadeeajgoedaaGreatK24
import Derived.OwnWalk
import Derived.WalkSpells
set_option maxRecDepth 100000
set_option maxHeartbeats 4000000
set_option linter.unusedVariables false
set_option linter.unusedSimpArgs false
open Bool renaming false_ne_true→zA
open List renaming getElem?_cons_succ→zB,getElem?_cons_zero→zC,getElem?_toArray→zD
namespace Go.Proofs.YtdhadeeajgoedaaGreat
open Go.RowKit Go.PlainAid
theorem qs7(s:ByteArray)(k:Nat)(hk:k<s.size)(hs:s.size<=1048576)(h:bt s k=37)(w:World):
 Calls Tryz.prog 33 #[.string s,.int .i64 k] w fun e w'=>e=.returned (tokV s k (one s k))/\Below w.heap.size w w':=by
 obtain⟨V,hV⟩: ∃V,V=tokV s k (one s k):=⟨_,rfl⟩
 rw[<-hV]
 have hbd6:=fun(k:Int) (t:ByteArray) (a:Int) (W:World)=>qb8 k t a W
 have hbd0:=fun(W:World)=>qb7 W
 have hsd:=qbi
 have g0: ¬(k:Int)<0:=by omega
 have g1: ¬(s.size:Int)<=(k:Int):=by omega
 have gx:=get_bt s k hk
 have hix:=qel s 10 _ k (Nat.le_refl _) (by omega)
 rw[one_37 h]at hV
 obtain⟨E,hE⟩: ∃E,E=ix s 10 k:=⟨_,rfl⟩
 rw[<-hE]at hV hix
 have hT:=qss (s:=s) (a:=k) (E:=E) hix.1 hix.2.1
 have HT:=zh (fun W=>qp8 (s.extract k E) (by rw[qcp s k E hix.2.1];omega) W)
 rw[hT]at HT
 have HF:Hid (.tuple #[.agg #[.int .i64 11,.string (s.extract k (tr s k E)),.int .i64 k],.int .i64 0]=V):=zh (by rw[hV];rfl)
 obtain⟨X,hX⟩: ∃X,X=s.extract k (tr s k E):=⟨_,rfl⟩
 rw[<-hX]at HF HT
 have HE:=zh hE
 have HG:=zh (get_bt s)
 have hEs:=hix.2.1
 have hkE:=hix.1
 rw[h]at gx
 clear hX hE hT hix hV h
 go_enter Tryz.func33,Tryz.ntmps33
 go_wp2_with fail
 go_loopg [9] (s.size-k) (fun gn i wr=> ∃j:Nat,gn=s.size-j/\k<=j/\j<=s.size/\i=.int .i64 j/\wr=(w.alloc (.cells #[.int .i64 0,.string ⟨#[]⟩,.int .i64 0] 34))/\Hid (E=ix s 10 j))
 case atStart=>exact⟨k,rfl,Nat.le_refl _,by omega,rfl,rfl,HE⟩
 case round=>
  obtain⟨j,hgn,hkj,hj,rfl,rfl,HJ⟩:=hrel
  by_cases hlt:j<s.size
  ·have gj:=HG.out j hlt
   have jl:(j:Int)< (s.size:Int):=by omega
   by_cases hc:bt s j=10
   ·obtain rfl:E=j:=by rw[HJ.out,ix,dif_pos hlt,if_pos hc]
    rw[hc]at gj
    clear hc
    have kj:(k:Int)<=(E:Int):=by omega
    have js:(E:Int)<=(s.size:Int):=by omega
    go_wp2_with fail
    refine(HT.out _).mono ?_
    rintro e w' ⟨rfl,rfl⟩
    go_wp2_with fail
    refine bodyPost_ret (v:=.tuple #[.agg #[.int .i64 11,.string (X),.int .i64 k],.int .i64 0]) (by simp[results,Tryz.results33,go_sem]) rfl ⟨congrArg Ending.returned HF.out,qa1 _ _⟩
   ·have HF2:Hid (E=ix s 10 (j+1)):=zh (by rw[HJ.out,ix,dif_pos hlt,if_neg hc])
    have hcn:(bt s j !=10)=true:=by simpa using hc
    obtain⟨d,hd⟩: ∃d,d=bt s j:=⟨_,rfl⟩
    rw[<-hd]at gj hcn
    clear hd hc
    go_wp2_with fail
    go_roundg (s.size- (j+1))
    case measure=>omega
    case rel=>exact⟨j+1,rfl,by omega,hlt,by go_num,rfl,HF2⟩
  ·obtain rfl:j=s.size:=by omega
   obtain rfl:E=s.size:=by rw[HJ.out,ix,dif_neg hlt]
   have kj:(k:Int)<=(s.size:Int):=by omega
   go_wp2_with fail
   refine(HT.out _).mono ?_
   rintro e w' ⟨rfl,rfl⟩
   go_wp2_with fail
   refine bodyPost_ret (v:=.tuple #[.agg #[.int .i64 11,.string (X),.int .i64 k],.int .i64 0]) (by simp[results,Tryz.results33,go_sem]) rfl ⟨congrArg Ending.returned HF.out,qa1 _ _⟩
theorem qs8(s:ByteArray)(k:Nat)(hk:k<s.size)(hs:s.size<=1048576)(h:bt s k=46)(h2:k+1=s.size\/bt s (k+1)=37\/k+1<fw bl s (k+1))(w:World):
 Calls Tryz.prog 33 #[.string s,.int .i64 k] w fun e w'=>e=.returned (tokV s k (one s k))/\Below w.heap.size w w':=by
 obtain⟨V,hV⟩: ∃V,V=tokV s k (one s k):=⟨_,rfl⟩
 rw[<-hV]
 have hbd6:=fun(k:Int) (t:ByteArray) (a:Int) (W:World)=>qb8 k t a W
 have hbd0:=fun(W:World)=>qb7 W
 have hsd:=qbi
 have g0: ¬(k:Int)<0:=by omega
 have g1: ¬(s.size:Int)<=(k:Int):=by omega
 have gx:=get_bt s k hk
 rw[qv9 h h2]at hV
 have HF:Hid (.tuple #[.agg #[.int .i64 10,.string (s.extract k (k+1)),.int .i64 k],.int .i64 0]=V):=zh (by rw[hV];rfl)
 rw[h]at gx
 clear hV h
 have kl:(k:Int)+1<=(s.size:Int):=by omega
 by_cases c1:k+1=s.size
 ·have c1':((k:Int)+1==(s.size:Int))=true:=beq_iff_eq.2 (by omega)
  clear h2 c1
  go_enter Tryz.func33,Tryz.ntmps33
  go_wp2_with fail
  refine bodyPost_ret (v:=.tuple #[.agg #[.int .i64 10,.string (s.extract k (k+1)),.int .i64 k],.int .i64 0]) (by simp[results,Tryz.results33,go_sem]) rfl ⟨congrArg Ending.returned HF.out,qa1 _ _⟩
 have c1':((k:Int)+1==(s.size:Int))=false:=beq_false_of_ne (by omega)
 have kl3:k+1<s.size:=by omega
 have gy:=get_bt s (k+1) kl3
 have kl2:(k:Int)+1< (s.size:Int):=by omega
 by_cases c2:bt s (k+1)=37
 ·rw[c2]at gy
  clear h2 c2
  go_enter Tryz.func33,Tryz.ntmps33
  go_wp2_with fail
  refine bodyPost_ret (v:=.tuple #[.agg #[.int .i64 10,.string (s.extract k (k+1)),.int .i64 k],.int .i64 0]) (by simp[results,Tryz.results33,go_sem]) rfl ⟨congrArg Ending.returned HF.out,qa1 _ _⟩
 have h3:k+1<fw bl s (k+1):=by rcases h2 with g | g | g;exact absurd g c1;exact absurd g c2;exact g
 have HB:=zh (fun W=>qeu s (k+1) (by omega) hs W)
 have c2':(bt s (k+1)==37)=false:=beq_false_of_ne c2
 rw[show((k+1:Nat):Int)=(k:Int)+1 by omega]at HB
 obtain⟨d,hd⟩: ∃d,d=bt s (k+1):=⟨_,rfl⟩
 rw[<-hd]at gy c2'
 obtain⟨E,hE⟩: ∃E,E=fw bl s (k+1):=⟨_,rfl⟩
 rw[<-hE]at HB h3
 have h3':(k:Int)+1< (E:Int):=by omega
 clear hd hE h2 c2 c1
 go_enter Tryz.func33,Tryz.ntmps33
 go_wp2_with fail
 refine(HB.out _).mono ?_
 rintro e w' ⟨rfl,rfl⟩
 go_wp2_with fail
 refine bodyPost_ret (v:=.tuple #[.agg #[.int .i64 10,.string (s.extract k (k+1)),.int .i64 k],.int .i64 0]) (by simp[results,Tryz.results33,go_sem]) rfl ⟨congrArg Ending.returned HF.out,qa1 _ _⟩
theorem qs9(s:ByteArray)(k:Nat)(hk:k<s.size)(hs:s.size<=1048576)(h:beg (bt s k)=3)(w:World):
 Calls Tryz.prog 33 #[.string s,.int .i64 k] w fun e w'=>e=.returned (tokV s k (one s k))/\Below w.heap.size w w':=by
 obtain⟨V,hV⟩: ∃V,V=tokV s k (one s k):=⟨_,rfl⟩
 rw[<-hV]
 have hbd6:=fun(k:Int) (t:ByteArray) (a:Int) (W:World)=>qb8 k t a W
 have hbd0:=fun(W:World)=>qb7 W
 have hsd:=qbi
 have g0: ¬(k:Int)<0:=by omega
 have g1: ¬(s.size:Int)<=(k:Int):=by omega
 have gx:=get_bt s k hk
 have HB:=zh (fun W=>qbn (bt s k) W)
 rw[h]at HB
 have HN:=zh (fun W=>qjx s k hk hs W)
 rw[qva h]at hV
 have c37:(bt s k==37)=false:=beq_false_of_ne (fun e=>by rw[e]at h;exact absurd h (by decide))
 have c46:(bt s k==46)=false:=beq_false_of_ne (fun e=>by rw[e]at h;exact absurd h (by decide))
 obtain⟨c,hc⟩: ∃c,c=bt s k:=⟨_,rfl⟩
 rw[<-hc]at gx c37 c46 HB
 clear hc h
 by_cases h0:(num s k).1=0
 ·rw[qka s k h0]at hV
  have HN2:Hid (∀W,Calls Tryz.prog 53 #[.string s,.int .i64 k] W fun e w'=>e=.returned (.tuple #[.agg #[.int .i64 0,.string ⟨#[]⟩,.int .i64 0],.int .i64 4])/\Below W.heap.size W w'):=zh fun W=>by have:=HN.out W;rw[qka s k h0]at this;exact this
  have HF:=zh hV.symm
  clear HN hV h0
  go_enter Tryz.func33,Tryz.ntmps33
  go_wp2_with fail
  refine(HB.out _).mono ?_
  rintro e w' ⟨rfl,rfl⟩
  go_wp2_with fail
  refine(HN2.out _).mono ?_
  rintro e w1 ⟨rfl,hb1⟩
  have HR:=zh (qdw (hb1.mono (by simp)))
  have HB1:=zh ((qa1 w _).trans (hb1.mono (by simp)))
  clear hb1
  have q0:=cell_of_row w1 _ 0 _ _ _ HR.out
  have q1:=cell_of_row w1 _ 1 _ _ _ HR.out
  have q2:=cell_of_row w1 _ 2 _ _ _ HR.out
  simp only[zD,zC,zB]at q0 q1 q2
  have f0:=qav HR.out 0
  have f1:=qav HR.out 1
  have f2:=qav HR.out 2
  go_wp2_with fail
  refine bodyPost_ret (v:=.tuple #[.agg #[.int .i64 0,.string ⟨#[]⟩,.int .i64 0],.int .i64 4]) (by simp[results,Tryz.results33,go_sem,q0,q1,q2]) rfl ⟨congrArg Ending.returned HF.out,bel3 HB1.out _ _ _⟩
 ·rw[qcc s k h0]at hV
  have HN2:Hid (∀W,Calls Tryz.prog 53 #[.string s,.int .i64 k] W fun e w'=>e=.returned (.tuple #[.agg #[.int .i64 (num s k).1,.string (s.extract k (num s k).2),.int .i64 k],.int .i64 0])/\Below W.heap.size W w'):=zh fun W=>by have:=HN.out W;rw[qcc s k h0]at this;exact this
  have HF:=zh hV.symm
  obtain⟨kd,hkd⟩: ∃kd,kd=(num s k).1:=⟨_,rfl⟩
  obtain⟨X,hX⟩: ∃X,X=s.extract k (num s k).2:=⟨_,rfl⟩
  rw[<-hkd,<-hX]at HN2 HF
  clear HN hV h0 hkd hX
  go_enter Tryz.func33,Tryz.ntmps33
  go_wp2_with fail
  refine(HB.out _).mono ?_
  rintro e w' ⟨rfl,rfl⟩
  go_wp2_with fail
  refine(HN2.out _).mono ?_
  rintro e w1 ⟨rfl,hb1⟩
  have HR:=zh (qdw (hb1.mono (by simp)))
  have HB1:=zh ((qa1 w _).trans (hb1.mono (by simp)))
  clear hb1
  have q0:=cell_of_row w1 _ 0 _ _ _ HR.out
  have q1:=cell_of_row w1 _ 1 _ _ _ HR.out
  have q2:=cell_of_row w1 _ 2 _ _ _ HR.out
  simp only[zD,zC,zB]at q0 q1 q2
  have f0:=qav HR.out 0
  have f1:=qav HR.out 1
  have f2:=qav HR.out 2
  go_wp2_with fail
  refine bodyPost_ret (v:=.tuple #[.agg #[.int .i64 kd,.string (X),.int .i64 k],.int .i64 0]) (by simp[results,Tryz.results33,go_sem,q0,q1,q2]) rfl ⟨congrArg Ending.returned HF.out,bel3 HB1.out _ _ _⟩
theorem qp4(s:ByteArray)(k:Nat)(hk:k<s.size)(hs:s.size<=1048576)(h3:beg (bt s k)≠3)(h0:0<beg (bt s k))(w:World):
 Calls Tryz.prog 33 #[.string s,.int .i64 k] w fun e w'=>e=.returned (tokV s k (one s k))/\Below w.heap.size w w':=by
 obtain⟨V,hV⟩: ∃V,V=tokV s k (one s k):=⟨_,rfl⟩
 rw[<-hV]
 have hbd6:=fun(k:Int) (t:ByteArray) (a:Int) (W:World)=>qb8 k t a W
 have hbd0:=fun(W:World)=>qb7 W
 have hsd:=qbi
 have g0: ¬(k:Int)<0:=by omega
 have g1: ¬(s.size:Int)<=(k:Int):=by omega
 have gx:=get_bt s k hk
 have HB:=zh (fun W=>qbn (bt s k) W)
 have HI:=zh (fun W=>qe3 s k (by omega) hs W)
 rw[qrv h3 h0]at hV
 have hlt:k<fw inn s k:=fw_lt.2 ⟨hk,qek h0⟩
 have hle:=qig inn s k (by omega)
 obtain⟨N,hN⟩: ∃N,fw inn s k=k+N:=⟨fw inn s k-k,by omega⟩
 rw[hN]at hV HI hlt hle
 have HRS:=zh (fun W=>qi0 (s.extract k (k+N)) W)
 have c37:(bt s k==37)=false:=beq_false_of_ne (fun e=>by rw[e]at h0;exact absurd h0 (by decide))
 have c46:(bt s k==46)=false:=beq_false_of_ne (fun e=>by rw[e]at h0;exact absurd h0 (by decide))
 have hbr:=qfk (bt s k)
 have b3:(beg (bt s k)==3)=false:=beq_false_of_ne h3
 obtain⟨v,hv⟩: ∃v,v=beg (bt s k):=⟨_,rfl⟩
 rw[<-hv]at HB hV b3 h0 hbr
 obtain⟨c,hc⟩: ∃c,c=bt s k:=⟨_,rfl⟩
 rw[<-hc]at gx c37 c46 HB
 rw[show((k+N:Nat):Int)=(k:Int)+(N:Int)by omega]at HI
 have N0:((N:Int)==0)=false:=beq_false_of_ne (by omega)
 have k2:(k:Int)<=(k:Int)+(N:Int):=by omega
 have k3:(k:Int)+(N:Int)<=(s.size:Int):=by omega
 clear hc hv hN hlt h3
 cases hr:rs (s.extract k (k+N))
 ·have HF:Hid (.tuple #[.agg #[.int .i64 v,.string (s.extract k (k+N)),.int .i64 k],.int .i64 0]=V):=zh (by rw[hV,hr,if_neg zA,qcc s k (by show v≠0;omega)])
  rw[hr]at HRS
  clear hV hr
  go_enter Tryz.func33,Tryz.ntmps33
  go_wp2_with fail
  refine(HB.out _).mono ?_
  rintro e w' ⟨rfl,rfl⟩
  go_wp2_with fail
  refine(HB.out _).mono ?_
  rintro e w' ⟨rfl,rfl⟩
  go_wp2_with fail
  refine(HB.out _).mono ?_
  rintro e w' ⟨rfl,rfl⟩
  go_wp2_with fail
  refine(HI.out _).mono ?_
  rintro e w' ⟨rfl,rfl⟩
  go_wp2_with fail
  refine(HRS.out _).mono ?_
  rintro e w1 ⟨rfl,hb1⟩
  have HR:=zh (qdw (hb1.mono (by simp)))
  have HB1:=zh ((qa1 w _).trans (hb1.mono (by simp)))
  clear hb1
  have q0:=cell_of_row w1 _ 0 _ _ _ HR.out
  have q1:=cell_of_row w1 _ 1 _ _ _ HR.out
  have q2:=cell_of_row w1 _ 2 _ _ _ HR.out
  simp only[zD,zC,zB]at q0 q1 q2
  have f0:=qav HR.out 0
  have f1:=qav HR.out 1
  have f2:=qav HR.out 2
  go_wp2_with fail
  refine bodyPost_ret (v:=.tuple #[.agg #[.int .i64 v,.string (s.extract k (k+N)),.int .i64 k],.int .i64 0]) (by simp[results,Tryz.results33,go_sem,q0,q1,q2]) rfl ⟨congrArg Ending.returned HF.out,bel3 HB1.out _ _ _⟩
 ·have HF:Hid (.tuple #[.agg #[.int .i64 8,.string (s.extract k (k+N)),.int .i64 k],.int .i64 0]=V):=zh (by rw[hV,hr,if_pos rfl,qcc s k (by show(8:Int)≠0;omega)])
  rw[hr]at HRS
  clear hV hr
  go_enter Tryz.func33,Tryz.ntmps33
  go_wp2_with fail
  refine(HB.out _).mono ?_
  rintro e w' ⟨rfl,rfl⟩
  go_wp2_with fail
  refine(HB.out _).mono ?_
  rintro e w' ⟨rfl,rfl⟩
  go_wp2_with fail
  refine(HB.out _).mono ?_
  rintro e w' ⟨rfl,rfl⟩
  go_wp2_with fail
  refine(HI.out _).mono ?_
  rintro e w' ⟨rfl,rfl⟩
  go_wp2_with fail
  refine(HRS.out _).mono ?_
  rintro e w1 ⟨rfl,hb1⟩
  have HR:=zh (qdw (hb1.mono (by simp)))
  have HB1:=zh ((qa1 w _).trans (hb1.mono (by simp)))
  clear hb1
  have q0:=cell_of_row w1 _ 0 _ _ _ HR.out
  have q1:=cell_of_row w1 _ 1 _ _ _ HR.out
  have q2:=cell_of_row w1 _ 2 _ _ _ HR.out
  simp only[zD,zC,zB]at q0 q1 q2
  have f0:=qav HR.out 0
  have f1:=qav HR.out 1
  have f2:=qav HR.out 2
  go_wp2_with fail
  refine bodyPost_ret (v:=.tuple #[.agg #[.int .i64 8,.string (s.extract k (k+N)),.int .i64 k],.int .i64 0]) (by simp[results,Tryz.results33,go_sem,q0,q1,q2]) rfl ⟨congrArg Ending.returned HF.out,bel3 HB1.out _ _ _⟩
theorem qvn(s:ByteArray)(k:Nat)(hk:k<s.size)(hs:s.size<=1048576)(h:bt s k=39)(w:World):
 Calls Tryz.prog 33 #[.string s,.int .i64 k] w fun e w'=>e=.returned (tokV s k (one s k))/\Below w.heap.size w w':=by
 obtain⟨V,hV⟩: ∃V,V=tokV s k (one s k):=⟨_,rfl⟩
 rw[<-hV]
 have hbd6:=fun(k:Int) (t:ByteArray) (a:Int) (W:World)=>qb8 k t a W
 have hbd0:=fun(W:World)=>qb7 W
 have hsd:=qbi
 have g0: ¬(k:Int)<0:=by omega
 have g1: ¬(s.size:Int)<=(k:Int):=by omega
 have gx:=get_bt s k hk
 have HQ:=zh (fun W=>qga s k hk hs W)
 have HB:=zh (fun W=>qbn 39 W)
 rw[show beg 39=0 by decide]at HB
 rw[one_39 h]at hV
 rw[h]at gx HQ
 have hbd:=qiy s 39 _ (k+1) (Nat.le_refl _)
 clear h
 by_cases h0:qx s 39 (k+1)=0
 ·have HF:Hid (.tuple #[.agg #[.int .i64 0,.string ⟨#[]⟩,.int .i64 0],.int .i64 4]=V):=zh (by rw[hV,h0];rfl)
  have HQ2:Hid (∀W,Calls Tryz.prog 56 #[.string s,.int .i64 k] W fun e w'=>e=.returned (.int .i64 0)/\ ∃n,w'=W.drewN n):=zh fun W=>by have:=HQ.out W;rw[if_pos h0]at this;exact this
  clear HQ hV h0 hbd
  go_enter Tryz.func33,Tryz.ntmps33
  go_wp2_with fail
  refine(HB.out _).mono ?_
  rintro e w' ⟨rfl,rfl⟩
  go_wp2_with fail
  refine(HB.out _).mono ?_
  rintro e w' ⟨rfl,rfl⟩
  go_wp2_with fail
  refine(HQ2.out _).mono ?_
  rintro e w' ⟨rfl,q1,rfl⟩
  go_wp2_with fail
  refine bodyPost_ret (v:=.tuple #[.agg #[.int .i64 0,.string ⟨#[]⟩,.int .i64 0],.int .i64 4]) (by simp[results,Tryz.results33,go_sem]) rfl ⟨congrArg Ending.returned HF.out,qe7 _ _ _⟩
 ·obtain⟨N,hN⟩: ∃N,qx s 39 (k+1)=k+N:=⟨qx s 39 (k+1)-k,by omega⟩
  have HF:Hid (.tuple #[.agg #[.int .i64 1,.string (s.extract k (k+N)),.int .i64 k],.int .i64 0]=V):=zh (by rw[hV,hN];unfold tk;rw[if_neg (by omega),qcc s k (by show(1:Int)≠0;omega)])
  have HQ2:Hid (∀W,Calls Tryz.prog 56 #[.string s,.int .i64 k] W fun e w'=>e=.returned (.int .i64 N)/\ ∃n,w'=W.drewN n):=zh fun W=>by have:=HQ.out W;rw[if_neg h0,hN,show((k+N:Nat):Int)- (k:Int)=(N:Int)by omega]at this;exact this
  have N0:((N:Int)==0)=false:=beq_false_of_ne (by omega)
  have k2:(k:Int)<=(k:Int)+(N:Int):=by omega
  have k3:(k:Int)+(N:Int)<=(s.size:Int):=by omega
  clear HQ hV h0 hbd hN
  go_enter Tryz.func33,Tryz.ntmps33
  go_wp2_with fail
  refine(HB.out _).mono ?_
  rintro e w' ⟨rfl,rfl⟩
  go_wp2_with fail
  refine(HB.out _).mono ?_
  rintro e w' ⟨rfl,rfl⟩
  go_wp2_with fail
  refine(HQ2.out _).mono ?_
  rintro e w' ⟨rfl,q1,rfl⟩
  go_wp2_with fail
  refine bodyPost_ret (v:=.tuple #[.agg #[.int .i64 1,.string (s.extract k (k+N)),.int .i64 k],.int .i64 0]) (by simp[results,Tryz.results33,go_sem]) rfl ⟨congrArg Ending.returned HF.out,qe7 _ _ _⟩
theorem qvl(s:ByteArray)(k:Nat)(hk:k<s.size)(hs:s.size<=1048576)(h:bt s k=34)(w:World):
 Calls Tryz.prog 33 #[.string s,.int .i64 k] w fun e w'=>e=.returned (tokV s k (one s k))/\Below w.heap.size w w':=by
 obtain⟨V,hV⟩: ∃V,V=tokV s k (one s k):=⟨_,rfl⟩
 rw[<-hV]
 have hbd6:=fun(k:Int) (t:ByteArray) (a:Int) (W:World)=>qb8 k t a W
 have hbd0:=fun(W:World)=>qb7 W
 have hsd:=qbi
 have g0: ¬(k:Int)<0:=by omega
 have g1: ¬(s.size:Int)<=(k:Int):=by omega
 have gx:=get_bt s k hk
 have HQ:=zh (fun W=>qga s k hk hs W)
 have HB:=zh (fun W=>qbn 34 W)
 rw[show beg 34=0 by decide]at HB
 rw[one_34 h]at hV
 rw[h]at gx HQ
 have hbd:=qiy s 34 _ (k+1) (Nat.le_refl _)
 clear h
 by_cases h0:qx s 34 (k+1)=0
 ·have HF:Hid (.tuple #[.agg #[.int .i64 0,.string ⟨#[]⟩,.int .i64 0],.int .i64 4]=V):=zh (by rw[hV,h0];rfl)
  have HQ2:Hid (∀W,Calls Tryz.prog 56 #[.string s,.int .i64 k] W fun e w'=>e=.returned (.int .i64 0)/\ ∃n,w'=W.drewN n):=zh fun W=>by have:=HQ.out W;rw[if_pos h0]at this;exact this
  clear HQ hV h0 hbd
  go_enter Tryz.func33,Tryz.ntmps33
  go_wp2_with fail
  refine(HB.out _).mono ?_
  rintro e w' ⟨rfl,rfl⟩
  go_wp2_with fail
  refine(HB.out _).mono ?_
  rintro e w' ⟨rfl,rfl⟩
  go_wp2_with fail
  refine(HQ2.out _).mono ?_
  rintro e w' ⟨rfl,q1,rfl⟩
  go_wp2_with fail
  refine bodyPost_ret (v:=.tuple #[.agg #[.int .i64 0,.string ⟨#[]⟩,.int .i64 0],.int .i64 4]) (by simp[results,Tryz.results33,go_sem]) rfl ⟨congrArg Ending.returned HF.out,qe7 _ _ _⟩
 ·obtain⟨N,hN⟩: ∃N,qx s 34 (k+1)=k+N:=⟨qx s 34 (k+1)-k,by omega⟩
  have HF:Hid (.tuple #[.agg #[.int .i64 6,.string (s.extract k (k+N)),.int .i64 k],.int .i64 0]=V):=zh (by rw[hV,hN];unfold tk;rw[if_neg (by omega),qcc s k (by show(6:Int)≠0;omega)])
  have HQ2:Hid (∀W,Calls Tryz.prog 56 #[.string s,.int .i64 k] W fun e w'=>e=.returned (.int .i64 N)/\ ∃n,w'=W.drewN n):=zh fun W=>by have:=HQ.out W;rw[if_neg h0,hN,show((k+N:Nat):Int)- (k:Int)=(N:Int)by omega]at this;exact this
  have N0:((N:Int)==0)=false:=beq_false_of_ne (by omega)
  have k2:(k:Int)<=(k:Int)+(N:Int):=by omega
  have k3:(k:Int)+(N:Int)<=(s.size:Int):=by omega
  clear HQ hV h0 hbd hN
  go_enter Tryz.func33,Tryz.ntmps33
  go_wp2_with fail
  refine(HB.out _).mono ?_
  rintro e w' ⟨rfl,rfl⟩
  go_wp2_with fail
  refine(HB.out _).mono ?_
  rintro e w' ⟨rfl,rfl⟩
  go_wp2_with fail
  refine(HQ2.out _).mono ?_
  rintro e w' ⟨rfl,q1,rfl⟩
  go_wp2_with fail
  refine bodyPost_ret (v:=.tuple #[.agg #[.int .i64 6,.string (s.extract k (k+N)),.int .i64 k],.int .i64 0]) (by simp[results,Tryz.results33,go_sem]) rfl ⟨congrArg Ending.returned HF.out,qe7 _ _ _⟩
theorem qvm(s:ByteArray)(k:Nat)(hk:k<s.size)(hs:s.size<=1048576)(h:bt s k=36)(w:World):
 Calls Tryz.prog 33 #[.string s,.int .i64 k] w fun e w'=>e=.returned (tokV s k (one s k))/\Below w.heap.size w w':=by
 obtain⟨V,hV⟩: ∃V,V=tokV s k (one s k):=⟨_,rfl⟩
 rw[<-hV]
 have hbd6:=fun(k:Int) (t:ByteArray) (a:Int) (W:World)=>qb8 k t a W
 have hbd0:=fun(W:World)=>qb7 W
 have hsd:=qbi
 have g0: ¬(k:Int)<0:=by omega
 have g1: ¬(s.size:Int)<=(k:Int):=by omega
 have gx:=get_bt s k hk
 have HQ:=zh (fun W=>qm3 s k hk hs W)
 have HB:=zh (fun W=>qbn 36 W)
 rw[show beg 36=0 by decide]at HB
 have h1:(one s k).1≠0->k< (one s k).2/\(one s k).2<=s.size:=qiq hk
 rw[one_36 h]at hV h1
 rw[h]at gx
 clear h
 by_cases h0:che s k=0
 ·have HF:Hid (.tuple #[.agg #[.int .i64 0,.string ⟨#[]⟩,.int .i64 0],.int .i64 4]=V):=zh (by rw[hV,h0];rfl)
  have HQ2:Hid (∀W,Calls Tryz.prog 57 #[.string s,.int .i64 k] W fun e w'=>e=.returned (.int .i64 0)/\Below W.heap.size W w'):=zh fun W=>by have:=HQ.out W;rw[if_pos h0]at this;exact this
  clear HQ hV h0 h1
  go_enter Tryz.func33,Tryz.ntmps33
  go_wp2_with fail
  refine(HB.out _).mono ?_
  rintro e w' ⟨rfl,rfl⟩
  go_wp2_with fail
  refine(HB.out _).mono ?_
  rintro e w' ⟨rfl,rfl⟩
  go_wp2_with fail
  refine(HQ2.out _).mono ?_
  rintro e w1 ⟨rfl,hb1⟩
  have HR:=zh (qdw (hb1.mono (by simp)))
  have HB1:=zh ((qa1 w _).trans (hb1.mono (by simp)))
  clear hb1
  have q0:=cell_of_row w1 _ 0 _ _ _ HR.out
  have q1:=cell_of_row w1 _ 1 _ _ _ HR.out
  have q2:=cell_of_row w1 _ 2 _ _ _ HR.out
  simp only[zD,zC,zB]at q0 q1 q2
  have f0:=qav HR.out 0
  have f1:=qav HR.out 1
  have f2:=qav HR.out 2
  go_wp2_with fail
  refine bodyPost_ret (v:=.tuple #[.agg #[.int .i64 0,.string ⟨#[]⟩,.int .i64 0],.int .i64 4]) (by simp[results,Tryz.results33,go_sem,q0,q1,q2]) rfl ⟨congrArg Ending.returned HF.out,bel3 HB1.out _ _ _⟩
 ·have h2:k<che s k/\che s k<=s.size:=by
   have ht:tk 5 (che s k)=(5,che s k):=by unfold tk;rw[if_neg h0]
   rw[ht]at h1
   exact h1 (by show(5:Int)≠0;omega)
  obtain⟨N,hN⟩: ∃N,che s k=k+N:=⟨che s k-k,by omega⟩
  have HF:Hid (.tuple #[.agg #[.int .i64 5,.string (s.extract k (k+N)),.int .i64 k],.int .i64 0]=V):=zh (by rw[hV,hN];unfold tk;rw[if_neg (by omega),qcc s k (by show(5:Int)≠0;omega)])
  have HQ2:Hid (∀W,Calls Tryz.prog 57 #[.string s,.int .i64 k] W fun e w'=>e=.returned (.int .i64 N)/\Below W.heap.size W w'):=zh fun W=>by have:=HQ.out W;rw[if_neg h0,hN,show((k+N:Nat):Int)- (k:Int)=(N:Int)by omega]at this;exact this
  have N0:((N:Int)==0)=false:=beq_false_of_ne (by omega)
  have k2:(k:Int)<=(k:Int)+(N:Int):=by omega
  have k3:(k:Int)+(N:Int)<=(s.size:Int):=by omega
  clear HQ hV h0 h1 h2 hN
  go_enter Tryz.func33,Tryz.ntmps33
  go_wp2_with fail
  refine(HB.out _).mono ?_
  rintro e w' ⟨rfl,rfl⟩
  go_wp2_with fail
  refine(HB.out _).mono ?_
  rintro e w' ⟨rfl,rfl⟩
  go_wp2_with fail
  refine(HQ2.out _).mono ?_
  rintro e w1 ⟨rfl,hb1⟩
  have HR:=zh (qdw (hb1.mono (by simp)))
  have HB1:=zh ((qa1 w _).trans (hb1.mono (by simp)))
  clear hb1
  have q0:=cell_of_row w1 _ 0 _ _ _ HR.out
  have q1:=cell_of_row w1 _ 1 _ _ _ HR.out
  have q2:=cell_of_row w1 _ 2 _ _ _ HR.out
  simp only[zD,zC,zB]at q0 q1 q2
  have f0:=qav HR.out 0
  have f1:=qav HR.out 1
  have f2:=qav HR.out 2
  go_wp2_with fail
  refine bodyPost_ret (v:=.tuple #[.agg #[.int .i64 5,.string (s.extract k (k+N)),.int .i64 k],.int .i64 0]) (by simp[results,Tryz.results33,go_sem,q0,q1,q2]) rfl ⟨congrArg Ending.returned HF.out,bel3 HB1.out _ _ _⟩
theorem qp5(s:ByteArray)(k:Nat)(hk:k<s.size)(hs:s.size<=1048576)(h1:bt s k≠37)(h2:bt s k≠46)(hbz:beg (bt s k)=0)(h4:bt s k≠39)(h5:bt s k≠34)(h6:bt s k≠36)(h7:bt s k≠63)(w:World):
 Calls Tryz.prog 33 #[.string s,.int .i64 k] w fun e w'=>e=.returned (tokV s k (one s k))/\Below w.heap.size w w':=by
 obtain⟨V,hV⟩: ∃V,V=tokV s k (one s k):=⟨_,rfl⟩
 rw[<-hV]
 have hbd6:=fun(k:Int) (t:ByteArray) (a:Int) (W:World)=>qb8 k t a W
 have hbd0:=fun(W:World)=>qb7 W
 have hsd:=qbi
 have g0: ¬(k:Int)<0:=by omega
 have g1: ¬(s.size:Int)<=(k:Int):=by omega
 have gx:=get_bt s k hk
 rw[qkx h1 (fun g=>h2 g.1) hbz h4 h5 h6 h7]at hV
 have c37:(bt s k==37)=false:=beq_false_of_ne h1
 have c46:(bt s k==46)=false:=beq_false_of_ne h2
 have c39:(bt s k==39)=false:=beq_false_of_ne h4
 have c34:(bt s k==34)=false:=beq_false_of_ne h5
 have c36:(bt s k==36)=false:=beq_false_of_ne h6
 have c63:(bt s k==63)=false:=beq_false_of_ne h7
 have HB:=zh (fun W=>qbn (bt s k) W)
 rw[hbz]at HB
 have HL:=fun W=>qf3 s k hs W
 rw[qux s k hk]at HL
 obtain⟨N,hN⟩: ∃N,N=lgL (s.data.toList.drop k):=⟨_,rfl⟩
 rw[<-hN]at HL hV
 have hN3:N<=3:=by rw[hN];exact qns _ 37 (by omega)
 have hNs:k+N<=s.size:=by
  have:=qhr (s.data.toList.drop k) 37 (Nat.le_refl _)
  rw[List.length_drop,Array.length_toList]at this
  have e:s.data.size=s.size:=rfl
  have h3:N<=s.size-k:=by rw[hN,<-e];exact this
  omega
 have HL:=zh HL
 obtain⟨c,hc⟩: ∃c,c=bt s k:=⟨_,rfl⟩
 rw[<-hc]at gx c37 c46 c39 c34 c36 c63 HB
 clear hc h1 h2 h4 h5 h6 h7 hbz
 clear hN
 by_cases h0:N=0
 ·have HF:Hid (.tuple #[.agg #[.int .i64 0,.string ⟨#[]⟩,.int .i64 0],.int .i64 4]=V):=zh (by rw[hV,if_pos h0];rfl)
  subst h0
  clear hV
  go_enter Tryz.func33,Tryz.ntmps33
  go_wp2_with fail
  refine(HB.out _).mono ?_
  rintro e w' ⟨rfl,rfl⟩
  go_wp2_with fail
  refine(HB.out _).mono ?_
  rintro e w' ⟨rfl,rfl⟩
  go_wp2_with fail
  refine(HL.out _).mono ?_
  rintro e w1 ⟨rfl,hb1⟩
  have HR:=zh (qdw (hb1.mono (by simp)))
  have HB1:=zh ((qa1 w _).trans (hb1.mono (by simp)))
  clear hb1
  have q0:=cell_of_row w1 _ 0 _ _ _ HR.out
  have q1:=cell_of_row w1 _ 1 _ _ _ HR.out
  have q2:=cell_of_row w1 _ 2 _ _ _ HR.out
  simp only[zD,zC,zB]at q0 q1 q2
  have f0:=qav HR.out 0
  have f1:=qav HR.out 1
  have f2:=qav HR.out 2
  go_wp2_with fail
  refine bodyPost_ret (v:=.tuple #[.agg #[.int .i64 0,.string ⟨#[]⟩,.int .i64 0],.int .i64 4]) (by simp[results,Tryz.results33,go_sem,q0,q1,q2]) rfl ⟨congrArg Ending.returned HF.out,bel3 HB1.out _ _ _⟩
 ·have HF:Hid (.tuple #[.agg #[.int .i64 9,.string (s.extract k (k+N)),.int .i64 k],.int .i64 0]=V):=zh (by rw[hV,if_neg h0,qcc s k (by show(9:Int)≠0;omega)])
  have N0:((N:Int)==0)=false:=beq_false_of_ne (by omega)
  have k2:(k:Int)<=(k:Int)+(N:Int):=by omega
  have k3:(k:Int)+(N:Int)<=(s.size:Int):=by omega
  clear hV h0
  go_enter Tryz.func33,Tryz.ntmps33
  go_wp2_with fail
  refine(HB.out _).mono ?_
  rintro e w' ⟨rfl,rfl⟩
  go_wp2_with fail
  refine(HB.out _).mono ?_
  rintro e w' ⟨rfl,rfl⟩
  go_wp2_with fail
  refine(HL.out _).mono ?_
  rintro e w1 ⟨rfl,hb1⟩
  have HR:=zh (qdw (hb1.mono (by simp)))
  have HB1:=zh ((qa1 w _).trans (hb1.mono (by simp)))
  clear hb1
  have q0:=cell_of_row w1 _ 0 _ _ _ HR.out
  have q1:=cell_of_row w1 _ 1 _ _ _ HR.out
  have q2:=cell_of_row w1 _ 2 _ _ _ HR.out
  simp only[zD,zC,zB]at q0 q1 q2
  have f0:=qav HR.out 0
  have f1:=qav HR.out 1
  have f2:=qav HR.out 2
  go_wp2_with fail
  refine bodyPost_ret (v:=.tuple #[.agg #[.int .i64 9,.string (s.extract k (k+N)),.int .i64 k],.int .i64 0]) (by simp[results,Tryz.results33,go_sem,q0,q1,q2]) rfl ⟨congrArg Ending.returned HF.out,bel3 HB1.out _ _ _⟩
theorem qvq(s:ByteArray)(k:Nat)(hk:k<s.size)(hs:s.size<=1048576)(h:bt s k=46)(h2: ¬(k+1=s.size\/bt s (k+1)=37\/k+1<fw bl s (k+1)))(w:World):
 Calls Tryz.prog 33 #[.string s,.int .i64 k] w fun e w'=>e=.returned (tokV s k (one s k))/\Below w.heap.size w w':=by
 obtain⟨V,hV⟩: ∃V,V=tokV s k (one s k):=⟨_,rfl⟩
 rw[<-hV]
 have hbd6:=fun(k:Int) (t:ByteArray) (a:Int) (W:World)=>qb8 k t a W
 have hbd0:=fun(W:World)=>qb7 W
 have hsd:=qbi
 have g0: ¬(k:Int)<0:=by omega
 have g1: ¬(s.size:Int)<=(k:Int):=by omega
 have gx:=get_bt s k hk
 have hbz:beg (bt s k)=0:=by rw[h];decide
 rw[qkx (by omega) (fun g=>h2 g.2) hbz (by omega) (by omega) (by omega) (by omega)]at hV
 have HB:=zh (fun W=>qbn (bt s k) W)
 rw[hbz]at HB
 have HL:=fun W=>qf3 s k hs W
 rw[qux s k hk]at HL
 obtain⟨N,hN⟩: ∃N,N=lgL (s.data.toList.drop k):=⟨_,rfl⟩
 rw[<-hN]at HL hV
 have hN3:N<=3:=by rw[hN];exact qns _ 37 (by omega)
 have hNs:k+N<=s.size:=by
  have:=qhr (s.data.toList.drop k) 37 (Nat.le_refl _)
  rw[List.length_drop,Array.length_toList]at this
  have e:s.data.size=s.size:=rfl
  have h3:N<=s.size-k:=by rw[hN,<-e];exact this
  omega
 have HL:=zh HL
 have HBL:=zh (fun W=>qeu s (k+1) (by omega) hs W)
 have kl:k+1<s.size:=by omega
 have gy:=get_bt s (k+1) kl
 have hfw:fw bl s (k+1)=k+1:=by have:=qfv bl s (k+1);omega
 rw[hfw,show((k+1:Nat):Int)=(k:Int)+1 by omega]at HBL
 have c37:(bt s (k+1)==37)=false:=beq_false_of_ne (fun e=>h2 (.inr (.inl e)))
 have cs1:((k:Int)+1==(s.size:Int))=false:=beq_false_of_ne (by omega)
 have kl2:(k:Int)+1< (s.size:Int):=by omega
 obtain⟨d,hd⟩: ∃d,d=bt s (k+1):=⟨_,rfl⟩
 rw[<-hd]at gy c37
 rw[h]at gx HB
 clear hd h h2 hbz hfw
 clear hN
 by_cases h0:N=0
 ·have HF:Hid (.tuple #[.agg #[.int .i64 0,.string ⟨#[]⟩,.int .i64 0],.int .i64 4]=V):=zh (by rw[hV,if_pos h0];rfl)
  subst h0
  clear hV
  go_enter Tryz.func33,Tryz.ntmps33
  go_wp2_with fail
  refine(HBL.out _).mono ?_
  rintro e w' ⟨rfl,rfl⟩
  go_wp2_with fail
  refine(HB.out _).mono ?_
  rintro e w' ⟨rfl,rfl⟩
  go_wp2_with fail
  refine(HB.out _).mono ?_
  rintro e w' ⟨rfl,rfl⟩
  go_wp2_with fail
  refine(HL.out _).mono ?_
  rintro e w1 ⟨rfl,hb1⟩
  have HR:=zh (qdw (hb1.mono (by simp)))
  have HB1:=zh ((qa1 w _).trans (hb1.mono (by simp)))
  clear hb1
  have q0:=cell_of_row w1 _ 0 _ _ _ HR.out
  have q1:=cell_of_row w1 _ 1 _ _ _ HR.out
  have q2:=cell_of_row w1 _ 2 _ _ _ HR.out
  simp only[zD,zC,zB]at q0 q1 q2
  have f0:=qav HR.out 0
  have f1:=qav HR.out 1
  have f2:=qav HR.out 2
  go_wp2_with fail
  refine bodyPost_ret (v:=.tuple #[.agg #[.int .i64 0,.string ⟨#[]⟩,.int .i64 0],.int .i64 4]) (by simp[results,Tryz.results33,go_sem,q0,q1,q2]) rfl ⟨congrArg Ending.returned HF.out,bel3 HB1.out _ _ _⟩
 ·have HF:Hid (.tuple #[.agg #[.int .i64 9,.string (s.extract k (k+N)),.int .i64 k],.int .i64 0]=V):=zh (by rw[hV,if_neg h0,qcc s k (by show(9:Int)≠0;omega)])
  have N0:((N:Int)==0)=false:=beq_false_of_ne (by omega)
  have k2:(k:Int)<=(k:Int)+(N:Int):=by omega
  have k3:(k:Int)+(N:Int)<=(s.size:Int):=by omega
  clear hV h0
  go_enter Tryz.func33,Tryz.ntmps33
  go_wp2_with fail
  refine(HBL.out _).mono ?_
  rintro e w' ⟨rfl,rfl⟩
  go_wp2_with fail
  refine(HB.out _).mono ?_
  rintro e w' ⟨rfl,rfl⟩
  go_wp2_with fail
  refine(HB.out _).mono ?_
  rintro e w' ⟨rfl,rfl⟩
  go_wp2_with fail
  refine(HL.out _).mono ?_
  rintro e w1 ⟨rfl,hb1⟩
  have HR:=zh (qdw (hb1.mono (by simp)))
  have HB1:=zh ((qa1 w _).trans (hb1.mono (by simp)))
  clear hb1
  have q0:=cell_of_row w1 _ 0 _ _ _ HR.out
  have q1:=cell_of_row w1 _ 1 _ _ _ HR.out
  have q2:=cell_of_row w1 _ 2 _ _ _ HR.out
  simp only[zD,zC,zB]at q0 q1 q2
  have f0:=qav HR.out 0
  have f1:=qav HR.out 1
  have f2:=qav HR.out 2
  go_wp2_with fail
  refine bodyPost_ret (v:=.tuple #[.agg #[.int .i64 9,.string (s.extract k (k+N)),.int .i64 k],.int .i64 0]) (by simp[results,Tryz.results33,go_sem,q0,q1,q2]) rfl ⟨congrArg Ending.returned HF.out,bel3 HB1.out _ _ _⟩
theorem qn8(c:Int):fst c=(letB c||c==95):=by
 unfold fst letB
 generalize(decide (65<=c)&&decide (c<=90))=x
 generalize(decide (97<=c)&&decide (c<=122))=y
 generalize(c==95)=z
 cases x<;>cases y<;>cases z<;>rfl
theorem qvo(s:ByteArray)(k:Nat)(hk:k<s.size)(hs:s.size<=1048576)(h:bt s k=63)(w:World):
 Calls Tryz.prog 33 #[.string s,.int .i64 k] w fun e w'=>e=.returned (tokV s k (one s k))/\Below w.heap.size w w':=by
 obtain⟨V,hV⟩: ∃V,V=tokV s k (one s k):=⟨_,rfl⟩
 rw[<-hV]
 have hbd6:=fun(k:Int) (t:ByteArray) (a:Int) (W:World)=>qb8 k t a W
 have hbd0:=fun(W:World)=>qb7 W
 have hsd:=qbi
 have g0: ¬(k:Int)<0:=by omega
 have g1: ¬(s.size:Int)<=(k:Int):=by omega
 have gx:=get_bt s k hk
 have HB:=zh (fun W=>qbn 63 W)
 rw[show beg 63=0 by decide]at HB
 rw[one_63 h]at hV
 rw[h]at gx
 clear h
 by_cases h1:k+1<s.size
 ·have g1':(k:Int)+1< (s.size:Int):=by omega
  have g1:=get_bt s (k+1) h1
  by_cases h63:bt s (k+1)=63
  ·have hm:mcb s k=k+2:=by unfold mcb;rw[if_pos h63]
   rw[hm]at hV
   rw[h63]at g1
   clear hm h63
   by_cases h2:k+2<s.size
   ·have g2':(k:Int)+1+1< (s.size:Int):=by omega
    have g2:=get_bt s (k+2) h2
    have HLT:=zh (fun W=>qem (bt s (k+2)) W)
    have HI:=zh (fun W=>qe3 s (k+2) (by omega) hs W)
    have hge:=qfv inn s (k+2)
    have hle:=qig inn s (k+2) (by omega)
    obtain⟨N,hN⟩: ∃N,fw inn s (k+2)=k+N:=⟨fw inn s (k+2)-k,by omega⟩
    rw[hN]at hV HI hge hle
    rw[show((k+N:Nat):Int)=(k:Int)+(N:Int)by omega,show((k+2:Nat):Int)=(k:Int)+1+1 by omega]at HI
    have N0:((N:Int)==0)=false:=beq_false_of_ne (by omega)
    have k2:(k:Int)<=(k:Int)+(N:Int):=by omega
    have k3:(k:Int)+(N:Int)<=(s.size:Int):=by omega
    rw[qn8]at hV
    obtain⟨d,hd⟩: ∃d,d=bt s (k+2):=⟨_,rfl⟩
    rw[<-hd]at g2 hV HLT
    clear hd hN
    cases hl:letB d
    ·rw[hl,Bool.false_or]at hV
     rw[hl]at HLT
     cases h95:(d==95)
     ·have HF:Hid (.tuple #[.agg #[.int .i64 0,.string ⟨#[]⟩,.int .i64 0],.int .i64 4]=V):=zh (by rw[hV,h95,if_neg zA];rfl)
      clear hV hl
      go_enter Tryz.func33,Tryz.ntmps33
      go_wp2_with fail
      refine(HB.out _).mono ?_
      rintro e w' ⟨rfl,rfl⟩
      go_wp2_with fail
      refine(HB.out _).mono ?_
      rintro e w' ⟨rfl,rfl⟩
      go_wp2_with fail
      refine(HLT.out _).mono ?_
      rintro e w' ⟨rfl,rfl⟩
      go_wp2_with fail
      refine bodyPost_ret (v:=.tuple #[.agg #[.int .i64 0,.string ⟨#[]⟩,.int .i64 0],.int .i64 4]) (by simp[results,Tryz.results33,go_sem]) rfl ⟨congrArg Ending.returned HF.out,qa1 _ _⟩
     ·have HF:Hid (.tuple #[.agg #[.int .i64 7,.string (s.extract k (k+N)),.int .i64 k],.int .i64 0]=V):=zh (by rw[hV,h95,if_pos rfl,qcc s k (by show(7:Int)≠0;omega)])
      clear hV hl
      go_enter Tryz.func33,Tryz.ntmps33
      go_wp2_with fail
      refine(HB.out _).mono ?_
      rintro e w' ⟨rfl,rfl⟩
      go_wp2_with fail
      refine(HB.out _).mono ?_
      rintro e w' ⟨rfl,rfl⟩
      go_wp2_with fail
      refine(HLT.out _).mono ?_
      rintro e w' ⟨rfl,rfl⟩
      go_wp2_with fail
      refine(HI.out _).mono ?_
      rintro e w' ⟨rfl,rfl⟩
      go_wp2_with fail
      refine bodyPost_ret (v:=.tuple #[.agg #[.int .i64 7,.string (s.extract k (k+N)),.int .i64 k],.int .i64 0]) (by simp[results,Tryz.results33,go_sem]) rfl ⟨congrArg Ending.returned HF.out,qa1 _ _⟩
    ·have HF:Hid (.tuple #[.agg #[.int .i64 7,.string (s.extract k (k+N)),.int .i64 k],.int .i64 0]=V):=zh (by rw[hV,hl,Bool.true_or,if_pos rfl,qcc s k (by show(7:Int)≠0;omega)])
     rw[hl]at HLT
     clear hV hl
     go_enter Tryz.func33,Tryz.ntmps33
     go_wp2_with fail
     refine(HB.out _).mono ?_
     rintro e w' ⟨rfl,rfl⟩
     go_wp2_with fail
     refine(HB.out _).mono ?_
     rintro e w' ⟨rfl,rfl⟩
     go_wp2_with fail
     refine(HLT.out _).mono ?_
     rintro e w' ⟨rfl,rfl⟩
     go_wp2_with fail
     refine(HI.out _).mono ?_
     rintro e w' ⟨rfl,rfl⟩
     go_wp2_with fail
     refine bodyPost_ret (v:=.tuple #[.agg #[.int .i64 7,.string (s.extract k (k+N)),.int .i64 k],.int .i64 0]) (by simp[results,Tryz.results33,go_sem]) rfl ⟨congrArg Ending.returned HF.out,qa1 _ _⟩
   ·have HF:Hid (.tuple #[.agg #[.int .i64 0,.string ⟨#[]⟩,.int .i64 0],.int .i64 4]=V):=zh (by rw[hV,bt_end s (by omega),if_neg (by decide)];rfl)
    have g2':decide ((k:Int)+1+1< (s.size:Int))=false:=by simp;omega
    clear hV
    go_enter Tryz.func33,Tryz.ntmps33
    go_wp2_with fail
    refine(HB.out _).mono ?_
    rintro e w' ⟨rfl,rfl⟩
    go_wp2_with fail
    refine(HB.out _).mono ?_
    rintro e w' ⟨rfl,rfl⟩
    go_wp2_with fail
    refine bodyPost_ret (v:=.tuple #[.agg #[.int .i64 0,.string ⟨#[]⟩,.int .i64 0],.int .i64 4]) (by simp[results,Tryz.results33,go_sem]) rfl ⟨congrArg Ending.returned HF.out,qa1 _ _⟩
  ·have hm:mcb s k=k+1:=by unfold mcb;rw[if_neg h63]
   rw[hm]at hV
   have n63:(bt s (k+1)==63)=false:=beq_false_of_ne h63
   clear hm h63
   have HLT:=zh (fun W=>qem (bt s (k+1)) W)
   have HI:=zh (fun W=>qe3 s (k+1) (by omega) hs W)
   have hge:=qfv inn s (k+1)
   have hle:=qig inn s (k+1) (by omega)
   obtain⟨N,hN⟩: ∃N,fw inn s (k+1)=k+N:=⟨fw inn s (k+1)-k,by omega⟩
   rw[hN]at hV HI hge hle
   rw[show((k+N:Nat):Int)=(k:Int)+(N:Int)by omega,show((k+1:Nat):Int)=(k:Int)+1 by omega]at HI
   have N0:((N:Int)==0)=false:=beq_false_of_ne (by omega)
   have k2:(k:Int)<=(k:Int)+(N:Int):=by omega
   have k3:(k:Int)+(N:Int)<=(s.size:Int):=by omega
   rw[qn8]at hV
   obtain⟨d,hd⟩: ∃d,d=bt s (k+1):=⟨_,rfl⟩
   rw[<-hd]at g1 hV HLT n63
   clear hd hN
   cases hl:letB d
   ·rw[hl,Bool.false_or]at hV
    rw[hl]at HLT
    cases h95:(d==95)
    ·have HF:Hid (.tuple #[.agg #[.int .i64 0,.string ⟨#[]⟩,.int .i64 0],.int .i64 4]=V):=zh (by rw[hV,h95,if_neg zA];rfl)
     clear hV hl
     go_enter Tryz.func33,Tryz.ntmps33
     go_wp2_with fail
     refine(HB.out _).mono ?_
     rintro e w' ⟨rfl,rfl⟩
     go_wp2_with fail
     refine(HB.out _).mono ?_
     rintro e w' ⟨rfl,rfl⟩
     go_wp2_with fail
     refine(HLT.out _).mono ?_
     rintro e w' ⟨rfl,rfl⟩
     go_wp2_with fail
     refine bodyPost_ret (v:=.tuple #[.agg #[.int .i64 0,.string ⟨#[]⟩,.int .i64 0],.int .i64 4]) (by simp[results,Tryz.results33,go_sem]) rfl ⟨congrArg Ending.returned HF.out,qa1 _ _⟩
    ·have HF:Hid (.tuple #[.agg #[.int .i64 7,.string (s.extract k (k+N)),.int .i64 k],.int .i64 0]=V):=zh (by rw[hV,h95,if_pos rfl,qcc s k (by show(7:Int)≠0;omega)])
     clear hV hl
     go_enter Tryz.func33,Tryz.ntmps33
     go_wp2_with fail
     refine(HB.out _).mono ?_
     rintro e w' ⟨rfl,rfl⟩
     go_wp2_with fail
     refine(HB.out _).mono ?_
     rintro e w' ⟨rfl,rfl⟩
     go_wp2_with fail
     refine(HLT.out _).mono ?_
     rintro e w' ⟨rfl,rfl⟩
     go_wp2_with fail
     refine(HI.out _).mono ?_
     rintro e w' ⟨rfl,rfl⟩
     go_wp2_with fail
     refine bodyPost_ret (v:=.tuple #[.agg #[.int .i64 7,.string (s.extract k (k+N)),.int .i64 k],.int .i64 0]) (by simp[results,Tryz.results33,go_sem]) rfl ⟨congrArg Ending.returned HF.out,qa1 _ _⟩
   ·have HF:Hid (.tuple #[.agg #[.int .i64 7,.string (s.extract k (k+N)),.int .i64 k],.int .i64 0]=V):=zh (by rw[hV,hl,Bool.true_or,if_pos rfl,qcc s k (by show(7:Int)≠0;omega)])
    rw[hl]at HLT
    clear hV hl
    go_enter Tryz.func33,Tryz.ntmps33
    go_wp2_with fail
    refine(HB.out _).mono ?_
    rintro e w' ⟨rfl,rfl⟩
    go_wp2_with fail
    refine(HB.out _).mono ?_
    rintro e w' ⟨rfl,rfl⟩
    go_wp2_with fail
    refine(HLT.out _).mono ?_
    rintro e w' ⟨rfl,rfl⟩
    go_wp2_with fail
    refine(HI.out _).mono ?_
    rintro e w' ⟨rfl,rfl⟩
    go_wp2_with fail
    refine bodyPost_ret (v:=.tuple #[.agg #[.int .i64 7,.string (s.extract k (k+N)),.int .i64 k],.int .i64 0]) (by simp[results,Tryz.results33,go_sem]) rfl ⟨congrArg Ending.returned HF.out,qa1 _ _⟩
 ·have HF:Hid (.tuple #[.agg #[.int .i64 0,.string ⟨#[]⟩,.int .i64 0],.int .i64 4]=V):=zh (by
   have hm:fst (bt s (mcb s k))=false:=by rw[bt_end s (by unfold mcb;split<;>omega)];decide
   rw[hV,hm,if_neg zA];rfl)
  have g1':decide ((k:Int)+1< (s.size:Int))=false:=by simp;omega
  clear hV
  go_enter Tryz.func33,Tryz.ntmps33
  go_wp2_with fail
  refine(HB.out _).mono ?_
  rintro e w' ⟨rfl,rfl⟩
  go_wp2_with fail
  refine(HB.out _).mono ?_
  rintro e w' ⟨rfl,rfl⟩
  go_wp2_with fail
  refine bodyPost_ret (v:=.tuple #[.agg #[.int .i64 0,.string ⟨#[]⟩,.int .i64 0],.int .i64 4]) (by simp[results,Tryz.results33,go_sem]) rfl ⟨congrArg Ending.returned HF.out,qa1 _ _⟩
theorem qvp(s:ByteArray)(k:Nat)(hk:k<s.size)(hs:s.size<=1048576)(w:World):
 Calls Tryz.prog 33 #[.string s,.int .i64 k] w fun e w'=>e=.returned (tokV s k (one s k))/\Below w.heap.size w w':=by
 by_cases c1:bt s k=37
 ·exact qs7 s k hk hs c1 w
 by_cases c2:bt s k=46
 ·by_cases c3:k+1=s.size\/bt s (k+1)=37\/k+1<fw bl s (k+1)
  ·exact qs8 s k hk hs c2 c3 w
  ·exact qvq s k hk hs c2 c3 w
 by_cases c3:beg (bt s k)=3
 ·exact qs9 s k hk hs c3 w
 by_cases c4:0<beg (bt s k)
 ·exact qp4 s k hk hs c3 c4 w
 have hb:beg (bt s k)=0:=by have:=qfk (bt s k);omega
 by_cases c5:bt s k=39
 ·exact qvn s k hk hs c5 w
 by_cases c6:bt s k=34
 ·exact qvl s k hk hs c6 w
 by_cases c7:bt s k=36
 ·exact qvm s k hk hs c7 w
 by_cases c8:bt s k=63
 ·exact qvo s k hk hs c8 w
 ·exact qp5 s k hk hs c1 c2 hb c5 c6 c7 c8 w
theorem qm5(s:ByteArray)(hs:s.size<=65536)(hv:vd s 0=true)(w:World):
 Calls Tryz.prog 15 #[.string s] w fun e w'=>ScanAre w s e w':=by
 have HVA:=zh (fun W=>qh9 s W (by unfold maxLen;omega))
 rw[hv]at HVA
 have HBL:=zh (fun(k:Nat) (hk:k<=s.size) W=>qeu s k hk (by omega) W)
 have HON:=zh (fun(k:Nat) (hk:k<s.size) W=>qvp s k hk (by omega) W)
 have hR:qch s=match sc s (fw bl s 0)with
  | none=>([],4)
  | some l=>(l,0):=by unfold qch;rw[if_neg (by omega),if_neg (by rw[hv];decide)];cases sc s (fw bl s 0)<;>rfl
 obtain⟨R,hRR⟩: ∃R,R=sc s (fw bl s 0):=⟨_,rfl⟩
 rw[<-hRR]at hR
 have HR:=zh hR
 have HB0:=HBL.out 0 (Nat.zero_le _)
 have h0le:=qig bl s 0 (Nat.zero_le _)
 obtain⟨k0,hk0⟩: ∃k0,k0=fw bl s 0:=⟨_,rfl⟩
 rw[<-hk0]at HB0 h0le hRR
 have HB0:Hid (∀W,Calls Tryz.prog 32 #[.string s,.int .i64 0] W fun e w'=>e=.returned (.int .i64 k0)/\W=w'):=zh HB0
 have HRR:=zh hRR
 obtain⟨i0,hi,hz0,hz1,hz2⟩:=info_parts quq
 have hz2':=zh hz2
 clear hv hR hRR hk0 hz2
 go_enter Tryz.func15,Tryz.ntmps15
 go_wp2_with fail
 refine(HVA.out _).mono ?_
 rintro e w' ⟨rfl,q0,rfl⟩
 go_wp2_with fail
 refine(HB0.out _).mono ?_
 rintro e w' ⟨rfl,rfl⟩
 go_wp2_with fail
 go_loopg [4,5] (s.size-k0) (fun gn v i wr=> ∃(k:Nat) (L:List Tk3),gn=s.size-k/\k<=s.size/\i=.int .i64 k/\L.length<=k/\Hid (Sk w s wr v L)/\Hid (R=(sc s k).map (L++ ·)))
 case atStart=>exact⟨k0,[],rfl,h0le,rfl,Nat.zero_le _,zh ⟨World.ownsRow_nil _ _ _ _,qac w _⟩,zh (by rw[HRR.out];cases sc s k0<;>rfl)⟩
 case round=>
  obtain⟨k,L,hgn,hk,rfl,hLk,HS,HK⟩:=hrel
  by_cases hlt:k<s.size
  ·have HO:=HON.out k hlt
   by_cases h0:(one s k).1=0
   ·rw[qka s k h0]at HO
    have HO:=zh HO
    have HF:Hid (qch s=([],4)):=zh (by rw[HR.out,HK.out,qpc hlt h0];rfl)
    clear h0
    go_wp2_with fail
    refine(HO.out _).mono ?_
    rintro e w1 ⟨rfl,hb1⟩
    have HS1:=zh (HS.out.below hb1)
    clear hb1
    go_wp2_with fail
    go_ret2
    exact ScanAre.no HF.out (HS1.out.2.alloc HS1.out.2.size _)
   ·have hbd:=qiq hlt h0
    rw[qcc s k h0]at HO
    have HK2:=HK.out
    rw[qvv hlt h0]at HK2
    obtain⟨kd,hkd⟩: ∃kd,kd=(one s k).1:=⟨_,rfl⟩
    obtain⟨N,hN⟩: ∃N,(one s k).2=k+N:=⟨(one s k).2-k,by omega⟩
    rw[hN]at HK2 HO hbd
    rw[<-hkd]at HK2 HO
    have HBe:=HBL.out (k+N) (by omega)
    have hEle:=qig bl s (k+N) (by omega)
    have hEge:=qfv bl s (k+N)
    obtain⟨E,hE⟩: ∃E,E=fw bl s (k+N):=⟨_,rfl⟩
    rw[<-hE]at HBe HK2 hEle hEge
    rw[show((k+N:Nat):Int)=(k:Int)+(N:Int)by omega]at HBe
    have HBe:=zh HBe
    have HX:=zh (show(s.extract k (k+N)).size=N by rw[qcp s k (k+N) (by omega)];omega)
    have HK3:Hid (R=(sc s E).map ((L++[(kd,k,k+N)])++ ·)):=zh (by rw[HK2];cases sc s E<;>simp)
    have HTC:Hid (tkc s (kd,k,k+N)=[.int .i64 kd,.string (s.extract k (k+N)),.int .i64 k]):=zh rfl
    obtain⟨X,hX⟩: ∃X,X=s.extract k (k+N):=⟨_,rfl⟩
    rw[<-hX]at HO HTC HX
    have xs:=HX.out
    have HO:=zh HO
    have hL1:L.length+1<=k+N:=by omega
    clear hX hE hN hkd h0 HK2 HX
    go_wp2_with fail
    refine(HO.out _).mono ?_
    rintro e w1 ⟨rfl,hb1⟩
    have HS1:=zh (HS.out.below hb1)
    clear hb1
    have HS2:=zh (HS1.out.below (qa1 w1 (.cells #[.int .i64 kd,.string X,.int .i64 k] 34)))
    have HOW:=HS2.out.1
    have hne:Hid (some w1.heap.size≠u4.ownBlock):=zh (fun h=>by
     have:=(HS1.out.1.lt w1.heap.size h.symm).2
     omega)
    have hrow:Hid ((w1.alloc (.cells #[.int .i64 kd,.string X,.int .i64 k] 34)).heap[w1.heap.size]?=some (.cells #[.int .i64 kd,.string X,.int .i64 k] 34 (0,0))):=zh (by
     show(w1.heap.push _)[w1.heap.size]?=_
     rw[Array.getElem?_push,if_pos rfl])
    have HNW:Hid (∀j u,[Value.int .i64 kd,.string X,.int .i64 k][j]?=some u->((w1.alloc (.cells #[.int .i64 kd,.string X,.int .i64 k] 34)).alloc (.cells #[.int .i64 kd,.string X,.int .i64 k] 34)).cell? ((⟨w1.heap.size+1,0,none⟩:Addr).add j)=some u):=zh (by
     have:=qfn (w1.alloc (.cells #[.int .i64 kd,.string X,.int .i64 k] 34)) (.int .i64 kd) (.string X) (.int .i64 k) 34
     rw[show(w1.alloc (.cells #[.int .i64 kd,.string X,.int .i64 k] 34)).heap.size=w1.heap.size+1 by simp]at this
     exact this)
    have zle:w.heap.size<=w1.heap.size:=HS1.out.2.size
    go_wp2_with (at_builtin;go_must (refine wpList_append_own _ rfl _ _ 24 rfl w.heap.size 34 i0 (.agg #[.int .i64 0,.string ⟨#[]⟩,.int .i64 0]) 3 32 Tryz.underlying24 hi hz0 hz1 hz2'.out rfl (by decide) _ _ _ rfl (HOW.alloc _) ⟨w1.heap.size+1,0,none⟩ 1 1 [.int .i64 kd,.string X,.int .i64 k] rfl rfl HNW.out (by intro u hu;simp at hu;rcases hu with rfl | rfl | rfl<;>rfl) (by unfold maxLen;omega) (by omega) (by simp;omega) ?_);intro v' w3 hown hgrow _;have q1:w3.cell? ⟨w1.heap.size,1,none⟩=some (.string X):=cell_of_row w3 _ 1 _ _ _ (qrk hne.out hrow.out _ hgrow);have HS3:=zh (HS2.out.put (x:=(kd,k,k+N)) _ (by rw[HTC.out];exact hown) hgrow);clear hown hgrow)
    refine(HBe.out _).mono ?_
    rintro e w4 ⟨rfl,rfl⟩
    go_wp2_with fail
    go_roundg (s.size-E)
    case measure=>omega
    case rel=>exact⟨E,L++[(kd,k,k+N)],rfl,hEle,rfl,by rw[List.length_append];simp;omega,HS3,HK3⟩
  ·obtain rfl:k=s.size:=by omega
   have HF:Hid (qch s=(L,0)):=zh (by rw[HR.out,HK.out,qlb (by omega)];simp)
   go_wp2_with fail
   go_ret2
   exact ScanAre.ok HF.out HS.out
theorem qp6(s:ByteArray)(hs:s.size<=1048576)(w:World):
 Calls Tryz.prog 15 #[.string s] w fun e w'=>ScanAre w s e w':=by
 by_cases h1:65536<s.size
 ·have HF:Hid (qch s=([],3)):=zh (by unfold qch;rw[if_pos h1])
  have g1:(65536:Int)< (s.size:Int):=by omega
  go_enter Tryz.func15,Tryz.ntmps15
  go_wp2_with fail
  go_ret2
  exact ScanAre.no HF.out (Below.refl _ _)
 ·cases hv:vd s 0
  ·have HF:Hid (qch s=([],2)):=zh (by unfold qch;rw[if_neg h1,if_pos hv])
   have HVA:=zh (fun W=>qh9 s W (by unfold maxLen;omega))
   rw[hv]at HVA
   have g1: ¬(65536:Int)< (s.size:Int):=by omega
   clear hv
   go_enter Tryz.func15,Tryz.ntmps15
   go_wp2_with fail
   refine(HVA.out _).mono ?_
   rintro e w' ⟨rfl,q0,rfl⟩
   go_wp2_with fail
   go_ret2
   exact ScanAre.no HF.out (qac w _)
  ·exact qm5 s (by omega) hv w
end Go.Proofs.YtdhadeeajgoedaaGreat
