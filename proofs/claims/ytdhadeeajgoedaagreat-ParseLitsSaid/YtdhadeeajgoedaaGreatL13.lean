import Derived.Test.YtdhadeeajgoedaaGreatL12
set_option maxRecDepth 100000
set_option maxHeartbeats 4000000
set_option linter.all false
open Nat renaming le_refl→zA,zero_le→zB
namespace Go.Proofs.YtdhadeeajgoedaaGreat
open Go.RowKit Go.PlainAid
theorem qrc(s:ByteArray)(a:Nat)(hs:s.size<=1048576)(hlt:a+1<s.size)(h92:bt s a=92)(V:Int)(HN:Hid (∀k,k<9->bt nmS k=bt s (a+1)->nmM.getD k 0=V))(K:Nat)(hK:K<9)(hKc:bt nmS K=bt s (a+1)):qi9 s a V 2:=by
 intro w
 have g0: ¬(s.size:Int)-1<=(a:Int):=by omega
 have gx:=get_bt s a (by omega)
 rw[h92]at gx
 clear h92
 have gc:=get_bt s (a+1) hlt
 have c0:=bt_nonneg s (a+1)
 have c1:=bt_le s (a+1)
 have HKC:=zh hKc
 clear hKc
 obtain⟨c,hc⟩: ∃c,c=bt s (a+1):=⟨_,rfl⟩
 rw[<-hc]at gc c0 c1 HN HKC
 clear hc
 go_enter Tryz.func90,Tryz.ntmps90
 go_wp2_with fail
 go_loopg [9] K (fun gn i wr=> ∃k:Nat,gn=K-k/\k<=K/\i=.int .i64 k/\Hid (qoc w wr))
 case atStart=>exact⟨0,rfl,zB _,rfl,zh (quq _ _ _ rfl)⟩
 case round=>
  obtain⟨k,hgn,hk,rfl,HW⟩:=hrel
  have h9:k<9:=by omega
  have gk:=get_bt ({ data:= #[98,100,101,102,110,114,115,116,118] } :ByteArray) k h9
  have hcell:=HW.out.1 k h9
  have HV:=zh (HN.out k h9)
  have HE:Hid (K=k->bt nmS k=c):=fun h=>by rw[<-h];exact HKC.out
  rw[show bt ({ data:= #[98,100,101,102,110,114,115,116,118] } :ByteArray) k=bt nmS k from rfl]at gk
  obtain⟨x,hx⟩: ∃x,x=bt nmS k:=⟨_,rfl⟩
  obtain⟨y,hy⟩: ∃y,y=nmM.getD k 0:=⟨_,rfl⟩
  rw[<-hx]at gk HV HE
  rw[<-hy]at hcell HV
  clear hx hy
  cases hv:(x==c)
  ·have hne:K≠k:=fun h=>by rw[HE.out h]at hv;simp at hv
   go_wp2_with fail
   go_roundg (K- (k+1))
   case measure=>omega
   case rel=>exact⟨k+1,rfl,by omega,by go_num,HW⟩
  ·have HF:Hid (y=V):=HV.out (eq_of_beq hv)
   go_wp2_with fail
   go_ret2
   exact⟨qvg HF.out rfl,HW.out.2⟩
theorem qvf(s:ByteArray)(a:Nat)(hs:s.size<=1048576)(hlt:a+1<s.size)(h92:bt s a=92)(hnm:Hid (∀k,k<9->bt nmS k≠bt s (a+1)))(h0:48<=bt s (a+1))(h1:bt s (a+1)<=55)(v:Int)(n:Nat)(hn:n<=3)(HR:Hid (qod s ((a:Int)+1) 8 3 v n)):qi9 s a v (1+n):=by
 intro w
 have g0: ¬(s.size:Int)-1<=(a:Int):=by omega
 have gx:=get_bt s a (by omega)
 rw[h92]at gx
 clear h92
 have gc:=get_bt s (a+1) hlt
 have c0:=bt_nonneg s (a+1)
 have c1:=bt_le s (a+1)
 obtain⟨c,hc⟩: ∃c,c=bt s (a+1):=⟨_,rfl⟩
 rw[<-hc]at gc c0 c1 hnm h0 h1
 clear hc
 go_enter Tryz.func90,Tryz.ntmps90
 go_wp2_with fail
 go_loopg [9] 9 (fun gn i wr=> ∃k:Nat,gn=9-k/\k<=9/\i=.int .i64 k/\Hid (Below w.heap.size w wr))
 case atStart=>exact⟨0,rfl,zB _,rfl,zh ((Below.refl _ _).alloc (zA _) _)⟩
 case round=>
  obtain⟨k,hgn,hk,rfl,HW⟩:=hrel
  by_cases hk9:k<9
  ·have gk:=get_bt ({ data:= #[98,100,101,102,110,114,115,116,118] } :ByteArray) k hk9
   have g1:=beq_false_of_ne (hnm.out k hk9)
   rw[show bt ({ data:= #[98,100,101,102,110,114,115,116,118] } :ByteArray) k=bt nmS k from rfl]at gk
   obtain⟨x,hx⟩: ∃x,x=bt nmS k:=⟨_,rfl⟩
   rw[<-hx]at gk g1
   clear hx
   go_wp2_with fail
   go_roundg (9- (k+1))
   case measure=>omega
   case rel=>exact⟨k+1,rfl,hk9,by go_num,HW⟩
  ·go_wp2_with fail
   refine(HR.out _).mono ?_
   rintro e w' ⟨rfl,q,rfl⟩
   go_wp2_with fail
   go_ret2
   exact⟨rfl,HW.out.trans ((Below.ofDrewN _ _).mono HW.out.size)⟩
theorem qre(s:ByteArray)(a:Nat)(hs:s.size<=1048576)(hlt:a+1<s.size)(h92:bt s a=92)(hnm:Hid (∀k,k<9->bt nmS k≠bt s (a+1)))(hx:bt s (a+1)=120)(hlt2:a+2<s.size)(hb:bt s (a+2)=123)(v:Int)(n:Nat)(hn:n<=6)(HR:Hid (qod s ((a:Int)+3) 16 6 v n))(h0:n=0):qi9 s a (-1) 0:=by
 subst h0
 intro w
 have g0: ¬(s.size:Int)-1<=(a:Int):=by omega
 have gx:=get_bt s a (by omega)
 rw[h92]at gx
 clear h92
 have gc:=get_bt s (a+1) hlt
 have c0:=bt_nonneg s (a+1)
 have c1:=bt_le s (a+1)
 rw[hx]at gc hnm
 clear hx c0 c1
 have gd:=get_bt s (a+2) hlt2
 rw[hb]at gd
 clear hb
 go_enter Tryz.func90,Tryz.ntmps90
 go_wp2_with fail
 go_loopg [9] 9 (fun gn i wr=> ∃k:Nat,gn=9-k/\k<=9/\i=.int .i64 k/\Hid (Below w.heap.size w wr))
 case atStart=>exact⟨0,rfl,zB _,rfl,zh ((Below.refl _ _).alloc (zA _) _)⟩
 case round=>
  obtain⟨k,hgn,hk,rfl,HW⟩:=hrel
  by_cases hk9:k<9
  ·have gk:=get_bt ({ data:= #[98,100,101,102,110,114,115,116,118] } :ByteArray) k hk9
   have g1:=beq_false_of_ne (hnm.out k hk9)
   rw[show bt ({ data:= #[98,100,101,102,110,114,115,116,118] } :ByteArray) k=bt nmS k from rfl]at gk
   obtain⟨x,hx⟩: ∃x,x=bt nmS k:=⟨_,rfl⟩
   rw[<-hx]at gk g1
   clear hx
   go_wp2_with fail
   go_roundg (9- (k+1))
   case measure=>omega
   case rel=>exact⟨k+1,rfl,hk9,by go_num,HW⟩
  ·go_wp2_with fail
   refine(HR.out _).mono ?_
   rintro e w' ⟨rfl,q,rfl⟩
   go_wp2_with fail
   go_ret2
   exact⟨rfl,HW.out.trans ((Below.ofDrewN _ _).mono HW.out.size)⟩
theorem qrf(s:ByteArray)(a:Nat)(hs:s.size<=1048576)(hlt:a+1<s.size)(h92:bt s a=92)(hnm:Hid (∀k,k<9->bt nmS k≠bt s (a+1)))(hx:bt s (a+1)=120)(hlt2:a+2<s.size)(hb:bt s (a+2)=123)(v:Int)(n:Nat)(hn:n<=6)(HR:Hid (qod s ((a:Int)+3) 16 6 v n))(h0:0<n)(h1:s.size<=a+3+n):qi9 s a (-1) 0:=by
 intro w
 have g0: ¬(s.size:Int)-1<=(a:Int):=by omega
 have gx:=get_bt s a (by omega)
 rw[h92]at gx
 clear h92
 have gc:=get_bt s (a+1) hlt
 have c0:=bt_nonneg s (a+1)
 have c1:=bt_le s (a+1)
 rw[hx]at gc hnm
 clear hx c0 c1
 have gd:=get_bt s (a+2) hlt2
 rw[hb]at gd
 clear hb
 have gn:((n:Int)==0)=false:=beq_false_of_ne (by omega)
 go_enter Tryz.func90,Tryz.ntmps90
 go_wp2_with fail
 go_loopg [9] 9 (fun gn i wr=> ∃k:Nat,gn=9-k/\k<=9/\i=.int .i64 k/\Hid (Below w.heap.size w wr))
 case atStart=>exact⟨0,rfl,zB _,rfl,zh ((Below.refl _ _).alloc (zA _) _)⟩
 case round=>
  obtain⟨k,hgn,hk,rfl,HW⟩:=hrel
  by_cases hk9:k<9
  ·have gk:=get_bt ({ data:= #[98,100,101,102,110,114,115,116,118] } :ByteArray) k hk9
   have g1:=beq_false_of_ne (hnm.out k hk9)
   rw[show bt ({ data:= #[98,100,101,102,110,114,115,116,118] } :ByteArray) k=bt nmS k from rfl]at gk
   obtain⟨x,hx⟩: ∃x,x=bt nmS k:=⟨_,rfl⟩
   rw[<-hx]at gk g1
   clear hx
   go_wp2_with fail
   go_roundg (9- (k+1))
   case measure=>omega
   case rel=>exact⟨k+1,rfl,hk9,by go_num,HW⟩
  ·go_wp2_with fail
   refine(HR.out _).mono ?_
   rintro e w' ⟨rfl,q,rfl⟩
   go_wp2_with fail
   go_ret2
   exact⟨rfl,HW.out.trans ((Below.ofDrewN _ _).mono HW.out.size)⟩
theorem qrg(s:ByteArray)(a:Nat)(hs:s.size<=1048576)(hlt:a+1<s.size)(h92:bt s a=92)(hnm:Hid (∀k,k<9->bt nmS k≠bt s (a+1)))(hx:bt s (a+1)=120)(hlt2:a+2<s.size)(hb:bt s (a+2)=123)(v:Int)(n:Nat)(hn:n<=6)(HR:Hid (qod s ((a:Int)+3) 16 6 v n))(h0:0<n)(h1:a+3+n<s.size)(h125:bt s (a+3+n)≠125):qi9 s a (-1) 0:=by
 intro w
 have g0: ¬(s.size:Int)-1<=(a:Int):=by omega
 have gx:=get_bt s a (by omega)
 rw[h92]at gx
 clear h92
 have gc:=get_bt s (a+1) hlt
 have c0:=bt_nonneg s (a+1)
 have c1:=bt_le s (a+1)
 rw[hx]at gc hnm
 clear hx c0 c1
 have gd:=get_bt s (a+2) hlt2
 rw[hb]at gd
 clear hb
 have gn:((n:Int)==0)=false:=beq_false_of_ne (by omega)
 have ge:=get_bt s (a+3+n) h1
 have g125:(bt s (a+3+n) !=125)=true:=by simpa using h125
 obtain⟨z,hz⟩: ∃z,z=bt s (a+3+n):=⟨_,rfl⟩
 rw[<-hz]at ge g125
 clear hz h125
 go_enter Tryz.func90,Tryz.ntmps90
 go_wp2_with fail
 go_loopg [9] 9 (fun gn i wr=> ∃k:Nat,gn=9-k/\k<=9/\i=.int .i64 k/\Hid (Below w.heap.size w wr))
 case atStart=>exact⟨0,rfl,zB _,rfl,zh ((Below.refl _ _).alloc (zA _) _)⟩
 case round=>
  obtain⟨k,hgn,hk,rfl,HW⟩:=hrel
  by_cases hk9:k<9
  ·have gk:=get_bt ({ data:= #[98,100,101,102,110,114,115,116,118] } :ByteArray) k hk9
   have g1:=beq_false_of_ne (hnm.out k hk9)
   rw[show bt ({ data:= #[98,100,101,102,110,114,115,116,118] } :ByteArray) k=bt nmS k from rfl]at gk
   obtain⟨x,hx⟩: ∃x,x=bt nmS k:=⟨_,rfl⟩
   rw[<-hx]at gk g1
   clear hx
   go_wp2_with fail
   go_roundg (9- (k+1))
   case measure=>omega
   case rel=>exact⟨k+1,rfl,hk9,by go_num,HW⟩
  ·go_wp2_with fail
   refine(HR.out _).mono ?_
   rintro e w' ⟨rfl,q,rfl⟩
   go_wp2_with fail
   go_ret2
   exact⟨rfl,HW.out.trans ((Below.ofDrewN _ _).mono HW.out.size)⟩
theorem qrh(s:ByteArray)(a:Nat)(hs:s.size<=1048576)(hlt:a+1<s.size)(h92:bt s a=92)(hnm:Hid (∀k,k<9->bt nmS k≠bt s (a+1)))(hx:bt s (a+1)=120)(hlt2:a+2<s.size)(hb:bt s (a+2)=123)(v:Int)(n:Nat)(hn:n<=6)(HR:Hid (qod s ((a:Int)+3) 16 6 v n))(h0:0<n)(h1:a+3+n<s.size)(h125:bt s (a+3+n)=125)(hp:qgl v=false):qi9 s a (-1) 0:=by
 intro w
 have g0: ¬(s.size:Int)-1<=(a:Int):=by omega
 have gx:=get_bt s a (by omega)
 rw[h92]at gx
 clear h92
 have gc:=get_bt s (a+1) hlt
 have c0:=bt_nonneg s (a+1)
 have c1:=bt_le s (a+1)
 rw[hx]at gc hnm
 clear hx c0 c1
 have gd:=get_bt s (a+2) hlt2
 rw[hb]at gd
 clear hb
 have gn:((n:Int)==0)=false:=beq_false_of_ne (by omega)
 have ge:=get_bt s (a+3+n) h1
 rw[h125]at ge
 clear h125
 have HP:=zh (fun W=>qf0 v W hp)
 clear hp
 go_enter Tryz.func90,Tryz.ntmps90
 go_wp2_with fail
 go_loopg [9] 9 (fun gn i wr=> ∃k:Nat,gn=9-k/\k<=9/\i=.int .i64 k/\Hid (Below w.heap.size w wr))
 case atStart=>exact⟨0,rfl,zB _,rfl,zh ((Below.refl _ _).alloc (zA _) _)⟩
 case round=>
  obtain⟨k,hgn,hk,rfl,HW⟩:=hrel
  by_cases hk9:k<9
  ·have gk:=get_bt ({ data:= #[98,100,101,102,110,114,115,116,118] } :ByteArray) k hk9
   have g1:=beq_false_of_ne (hnm.out k hk9)
   rw[show bt ({ data:= #[98,100,101,102,110,114,115,116,118] } :ByteArray) k=bt nmS k from rfl]at gk
   obtain⟨x,hx⟩: ∃x,x=bt nmS k:=⟨_,rfl⟩
   rw[<-hx]at gk g1
   clear hx
   go_wp2_with fail
   go_roundg (9- (k+1))
   case measure=>omega
   case rel=>exact⟨k+1,rfl,hk9,by go_num,HW⟩
  ·go_wp2_with fail
   refine(HR.out _).mono ?_
   rintro e w' ⟨rfl,q,rfl⟩
   go_wp2_with fail
   refine(HP.out _).mono ?_
   rintro e w' ⟨rfl,rfl⟩
   go_wp2_with fail
   go_ret2
   exact⟨rfl,HW.out.trans ((Below.ofDrewN _ _).mono HW.out.size)⟩
theorem qri(s:ByteArray)(a:Nat)(hs:s.size<=1048576)(hlt:a+1<s.size)(h92:bt s a=92)(hnm:Hid (∀k,k<9->bt nmS k≠bt s (a+1)))(hx:bt s (a+1)=120)(hlt2:a+2<s.size)(hb:bt s (a+2)=123)(v:Int)(n:Nat)(hn:n<=6)(HR:Hid (qod s ((a:Int)+3) 16 6 v n))(h0:0<n)(h1:a+3+n<s.size)(h125:bt s (a+3+n)=125)(hp:qgl v=true):qi9 s a v (4+n):=by
 intro w
 have g0: ¬(s.size:Int)-1<=(a:Int):=by omega
 have gx:=get_bt s a (by omega)
 rw[h92]at gx
 clear h92
 have gc:=get_bt s (a+1) hlt
 have c0:=bt_nonneg s (a+1)
 have c1:=bt_le s (a+1)
 rw[hx]at gc hnm
 clear hx c0 c1
 have gd:=get_bt s (a+2) hlt2
 rw[hb]at gd
 clear hb
 have gn:((n:Int)==0)=false:=beq_false_of_ne (by omega)
 have ge:=get_bt s (a+3+n) h1
 rw[h125]at ge
 clear h125
 have HP:=zh (fun W=>qe4 v W hp)
 clear hp
 go_enter Tryz.func90,Tryz.ntmps90
 go_wp2_with fail
 go_loopg [9] 9 (fun gn i wr=> ∃k:Nat,gn=9-k/\k<=9/\i=.int .i64 k/\Hid (Below w.heap.size w wr))
 case atStart=>exact⟨0,rfl,zB _,rfl,zh ((Below.refl _ _).alloc (zA _) _)⟩
 case round=>
  obtain⟨k,hgn,hk,rfl,HW⟩:=hrel
  by_cases hk9:k<9
  ·have gk:=get_bt ({ data:= #[98,100,101,102,110,114,115,116,118] } :ByteArray) k hk9
   have g1:=beq_false_of_ne (hnm.out k hk9)
   rw[show bt ({ data:= #[98,100,101,102,110,114,115,116,118] } :ByteArray) k=bt nmS k from rfl]at gk
   obtain⟨x,hx⟩: ∃x,x=bt nmS k:=⟨_,rfl⟩
   rw[<-hx]at gk g1
   clear hx
   go_wp2_with fail
   go_roundg (9- (k+1))
   case measure=>omega
   case rel=>exact⟨k+1,rfl,hk9,by go_num,HW⟩
  ·go_wp2_with fail
   refine(HR.out _).mono ?_
   rintro e w' ⟨rfl,q,rfl⟩
   go_wp2_with fail
   refine(HP.out _).mono ?_
   rintro e w' ⟨rfl,rfl⟩
   go_wp2_with fail
   go_ret2
   exact⟨rfl,HW.out.trans ((Below.ofDrewN _ _).mono HW.out.size)⟩
theorem qrj(s:ByteArray)(a:Nat)(hs:s.size<=1048576)(hlt:a+1<s.size)(h92:bt s a=92)(hnm:Hid (∀k,k<9->bt nmS k≠bt s (a+1)))(hx:bt s (a+1)=120)(v:Int)(n:Nat)(hn:n<=2)(HR:Hid (qod s ((a:Int)+2) 16 2 v n))(hb:s.size<=a+2)(h2:n<2):qi9 s a (-1) 0:=by
 intro w
 have g0: ¬(s.size:Int)-1<=(a:Int):=by omega
 have gx:=get_bt s a (by omega)
 rw[h92]at gx
 clear h92
 have gc:=get_bt s (a+1) hlt
 have c0:=bt_nonneg s (a+1)
 have c1:=bt_le s (a+1)
 rw[hx]at gc hnm
 clear hx c0 c1
 go_enter Tryz.func90,Tryz.ntmps90
 go_wp2_with fail
 go_loopg [9] 9 (fun gn i wr=> ∃k:Nat,gn=9-k/\k<=9/\i=.int .i64 k/\Hid (Below w.heap.size w wr))
 case atStart=>exact⟨0,rfl,zB _,rfl,zh ((Below.refl _ _).alloc (zA _) _)⟩
 case round=>
  obtain⟨k,hgn,hk,rfl,HW⟩:=hrel
  by_cases hk9:k<9
  ·have gk:=get_bt ({ data:= #[98,100,101,102,110,114,115,116,118] } :ByteArray) k hk9
   have g1:=beq_false_of_ne (hnm.out k hk9)
   rw[show bt ({ data:= #[98,100,101,102,110,114,115,116,118] } :ByteArray) k=bt nmS k from rfl]at gk
   obtain⟨x,hx⟩: ∃x,x=bt nmS k:=⟨_,rfl⟩
   rw[<-hx]at gk g1
   clear hx
   go_wp2_with fail
   go_roundg (9- (k+1))
   case measure=>omega
   case rel=>exact⟨k+1,rfl,hk9,by go_num,HW⟩
  ·go_wp2_with fail
   refine(HR.out _).mono ?_
   rintro e w' ⟨rfl,q,rfl⟩
   go_wp2_with fail
   go_ret2
   exact⟨rfl,HW.out.trans ((Below.ofDrewN _ _).mono HW.out.size)⟩
theorem qrl(s:ByteArray)(a:Nat)(hs:s.size<=1048576)(hlt:a+1<s.size)(h92:bt s a=92)(hnm:Hid (∀k,k<9->bt nmS k≠bt s (a+1)))(hx:bt s (a+1)=120)(v:Int)(n:Nat)(hn:n<=2)(HR:Hid (qod s ((a:Int)+2) 16 2 v n))(hlt2:a+2<s.size)(hb:bt s (a+2)≠123)(h2:n<2):qi9 s a (-1) 0:=by
 intro w
 have g0: ¬(s.size:Int)-1<=(a:Int):=by omega
 have gx:=get_bt s a (by omega)
 rw[h92]at gx
 clear h92
 have gc:=get_bt s (a+1) hlt
 have c0:=bt_nonneg s (a+1)
 have c1:=bt_le s (a+1)
 rw[hx]at gc hnm
 clear hx c0 c1
 have gd:=get_bt s (a+2) hlt2
 have gb:=beq_false_of_ne hb
 obtain⟨d,hd⟩: ∃d,d=bt s (a+2):=⟨_,rfl⟩
 rw[<-hd]at gd gb
 clear hd hb
 go_enter Tryz.func90,Tryz.ntmps90
 go_wp2_with fail
 go_loopg [9] 9 (fun gn i wr=> ∃k:Nat,gn=9-k/\k<=9/\i=.int .i64 k/\Hid (Below w.heap.size w wr))
 case atStart=>exact⟨0,rfl,zB _,rfl,zh ((Below.refl _ _).alloc (zA _) _)⟩
 case round=>
  obtain⟨k,hgn,hk,rfl,HW⟩:=hrel
  by_cases hk9:k<9
  ·have gk:=get_bt ({ data:= #[98,100,101,102,110,114,115,116,118] } :ByteArray) k hk9
   have g1:=beq_false_of_ne (hnm.out k hk9)
   rw[show bt ({ data:= #[98,100,101,102,110,114,115,116,118] } :ByteArray) k=bt nmS k from rfl]at gk
   obtain⟨x,hx⟩: ∃x,x=bt nmS k:=⟨_,rfl⟩
   rw[<-hx]at gk g1
   clear hx
   go_wp2_with fail
   go_roundg (9- (k+1))
   case measure=>omega
   case rel=>exact⟨k+1,rfl,hk9,by go_num,HW⟩
  ·go_wp2_with fail
   refine(HR.out _).mono ?_
   rintro e w' ⟨rfl,q,rfl⟩
   go_wp2_with fail
   go_ret2
   exact⟨rfl,HW.out.trans ((Below.ofDrewN _ _).mono HW.out.size)⟩
theorem qrk(s:ByteArray)(a:Nat)(hs:s.size<=1048576)(hlt:a+1<s.size)(h92:bt s a=92)(hnm:Hid (∀k,k<9->bt nmS k≠bt s (a+1)))(hx:bt s (a+1)=120)(v:Int)(n:Nat)(hn:n<=2)(HR:Hid (qod s ((a:Int)+2) 16 2 v n))(hb:s.size<=a+2)(h2:2<=n):qi9 s a v 4:=by
 intro w
 have g0: ¬(s.size:Int)-1<=(a:Int):=by omega
 have gx:=get_bt s a (by omega)
 rw[h92]at gx
 clear h92
 have gc:=get_bt s (a+1) hlt
 have c0:=bt_nonneg s (a+1)
 have c1:=bt_le s (a+1)
 rw[hx]at gc hnm
 clear hx c0 c1
 go_enter Tryz.func90,Tryz.ntmps90
 go_wp2_with fail
 go_loopg [9] 9 (fun gn i wr=> ∃k:Nat,gn=9-k/\k<=9/\i=.int .i64 k/\Hid (Below w.heap.size w wr))
 case atStart=>exact⟨0,rfl,zB _,rfl,zh ((Below.refl _ _).alloc (zA _) _)⟩
 case round=>
  obtain⟨k,hgn,hk,rfl,HW⟩:=hrel
  by_cases hk9:k<9
  ·have gk:=get_bt ({ data:= #[98,100,101,102,110,114,115,116,118] } :ByteArray) k hk9
   have g1:=beq_false_of_ne (hnm.out k hk9)
   rw[show bt ({ data:= #[98,100,101,102,110,114,115,116,118] } :ByteArray) k=bt nmS k from rfl]at gk
   obtain⟨x,hx⟩: ∃x,x=bt nmS k:=⟨_,rfl⟩
   rw[<-hx]at gk g1
   clear hx
   go_wp2_with fail
   go_roundg (9- (k+1))
   case measure=>omega
   case rel=>exact⟨k+1,rfl,hk9,by go_num,HW⟩
  ·go_wp2_with fail
   refine(HR.out _).mono ?_
   rintro e w' ⟨rfl,q,rfl⟩
   go_wp2_with fail
   go_ret2
   exact⟨rfl,HW.out.trans ((Below.ofDrewN _ _).mono HW.out.size)⟩
theorem qrm(s:ByteArray)(a:Nat)(hs:s.size<=1048576)(hlt:a+1<s.size)(h92:bt s a=92)(hnm:Hid (∀k,k<9->bt nmS k≠bt s (a+1)))(hx:bt s (a+1)=120)(v:Int)(n:Nat)(hn:n<=2)(HR:Hid (qod s ((a:Int)+2) 16 2 v n))(hlt2:a+2<s.size)(hb:bt s (a+2)≠123)(h2:2<=n):qi9 s a v 4:=by
 intro w
 have g0: ¬(s.size:Int)-1<=(a:Int):=by omega
 have gx:=get_bt s a (by omega)
 rw[h92]at gx
 clear h92
 have gc:=get_bt s (a+1) hlt
 have c0:=bt_nonneg s (a+1)
 have c1:=bt_le s (a+1)
 rw[hx]at gc hnm
 clear hx c0 c1
 have gd:=get_bt s (a+2) hlt2
 have gb:=beq_false_of_ne hb
 obtain⟨d,hd⟩: ∃d,d=bt s (a+2):=⟨_,rfl⟩
 rw[<-hd]at gd gb
 clear hd hb
 go_enter Tryz.func90,Tryz.ntmps90
 go_wp2_with fail
 go_loopg [9] 9 (fun gn i wr=> ∃k:Nat,gn=9-k/\k<=9/\i=.int .i64 k/\Hid (Below w.heap.size w wr))
 case atStart=>exact⟨0,rfl,zB _,rfl,zh ((Below.refl _ _).alloc (zA _) _)⟩
 case round=>
  obtain⟨k,hgn,hk,rfl,HW⟩:=hrel
  by_cases hk9:k<9
  ·have gk:=get_bt ({ data:= #[98,100,101,102,110,114,115,116,118] } :ByteArray) k hk9
   have g1:=beq_false_of_ne (hnm.out k hk9)
   rw[show bt ({ data:= #[98,100,101,102,110,114,115,116,118] } :ByteArray) k=bt nmS k from rfl]at gk
   obtain⟨x,hx⟩: ∃x,x=bt nmS k:=⟨_,rfl⟩
   rw[<-hx]at gk g1
   clear hx
   go_wp2_with fail
   go_roundg (9- (k+1))
   case measure=>omega
   case rel=>exact⟨k+1,rfl,hk9,by go_num,HW⟩
  ·go_wp2_with fail
   refine(HR.out _).mono ?_
   rintro e w' ⟨rfl,q,rfl⟩
   go_wp2_with fail
   go_ret2
   exact⟨rfl,HW.out.trans ((Below.ofDrewN _ _).mono HW.out.size)⟩
theorem qra(s:ByteArray)(a:Nat)(hs:s.size<=1048576)(hlt:a+1<s.size)(h92:bt s a=92)(hnm:Hid (∀k,k<9->bt nmS k≠bt s (a+1)))(h8: ¬(48<=bt s (a+1)/\bt s (a+1)<=55))(hx:bt s (a+1)≠120)(hu:bt s (a+1)≠94)(v:Int)(n:Nat)(_hn:n<=4)(HR:Hid (qxj s ((a:Int)+1) v n))(h2:v<32):qi9 s a (-1) 0:=by
 intro w
 have g0: ¬(s.size:Int)-1<=(a:Int):=by omega
 have gx:=get_bt s a (by omega)
 rw[h92]at gx
 clear h92
 have gc:=get_bt s (a+1) hlt
 have c0:=bt_nonneg s (a+1)
 have c1:=bt_le s (a+1)
 have gx2:=beq_false_of_ne hx
 have gu:=beq_false_of_ne hu
 obtain⟨c,hc⟩: ∃c,c=bt s (a+1):=⟨_,rfl⟩
 rw[<-hc]at gc c0 c1 hnm h8 gx2 gu
 clear hc hx hu
 by_cases h48:48<=c
 ·have h55: ¬c<=55:=by omega
  clear h8
  go_enter Tryz.func90,Tryz.ntmps90
  go_wp2_with fail
  go_loopg [9] 9 (fun gn i wr=> ∃k:Nat,gn=9-k/\k<=9/\i=.int .i64 k/\Hid (Below w.heap.size w wr))
  case atStart=>exact⟨0,rfl,zB _,rfl,zh ((Below.refl _ _).alloc (zA _) _)⟩
  case round=>
   obtain⟨k,hgn,hk,rfl,HW⟩:=hrel
   by_cases hk9:k<9
   ·have gk:=get_bt ({ data:= #[98,100,101,102,110,114,115,116,118] } :ByteArray) k hk9
    have g1:=beq_false_of_ne (hnm.out k hk9)
    rw[show bt ({ data:= #[98,100,101,102,110,114,115,116,118] } :ByteArray) k=bt nmS k from rfl]at gk
    obtain⟨x,hx⟩: ∃x,x=bt nmS k:=⟨_,rfl⟩
    rw[<-hx]at gk g1
    clear hx
    go_wp2_with fail
    go_roundg (9- (k+1))
    case measure=>omega
    case rel=>exact⟨k+1,rfl,hk9,by go_num,HW⟩
   ·go_wp2_with fail
    refine(HR.out _).mono ?_
    rintro e w' ⟨rfl,q,rfl⟩
    go_wp2_with fail
    go_ret2
    exact⟨rfl,HW.out.trans ((Below.ofDrewN _ _).mono HW.out.size)⟩
 ·clear h8
  go_enter Tryz.func90,Tryz.ntmps90
  go_wp2_with fail
  go_loopg [9] 9 (fun gn i wr=> ∃k:Nat,gn=9-k/\k<=9/\i=.int .i64 k/\Hid (Below w.heap.size w wr))
  case atStart=>exact⟨0,rfl,zB _,rfl,zh ((Below.refl _ _).alloc (zA _) _)⟩
  case round=>
   obtain⟨k,hgn,hk,rfl,HW⟩:=hrel
   by_cases hk9:k<9
   ·have gk:=get_bt ({ data:= #[98,100,101,102,110,114,115,116,118] } :ByteArray) k hk9
    have g1:=beq_false_of_ne (hnm.out k hk9)
    rw[show bt ({ data:= #[98,100,101,102,110,114,115,116,118] } :ByteArray) k=bt nmS k from rfl]at gk
    obtain⟨x,hx⟩: ∃x,x=bt nmS k:=⟨_,rfl⟩
    rw[<-hx]at gk g1
    clear hx
    go_wp2_with fail
    go_roundg (9- (k+1))
    case measure=>omega
    case rel=>exact⟨k+1,rfl,hk9,by go_num,HW⟩
   ·go_wp2_with fail
    refine(HR.out _).mono ?_
    rintro e w' ⟨rfl,q,rfl⟩
    go_wp2_with fail
    go_ret2
    exact⟨rfl,HW.out.trans ((Below.ofDrewN _ _).mono HW.out.size)⟩
theorem qrb(s:ByteArray)(a:Nat)(hs:s.size<=1048576)(hlt:a+1<s.size)(h92:bt s a=92)(hnm:Hid (∀k,k<9->bt nmS k≠bt s (a+1)))(h8: ¬(48<=bt s (a+1)/\bt s (a+1)<=55))(hx:bt s (a+1)≠120)(hu:bt s (a+1)≠94)(v:Int)(n:Nat)(hn:n<=4)(HR:Hid (qxj s ((a:Int)+1) v n))(h2:32<=v):qi9 s a v (1+n):=by
 intro w
 have g0: ¬(s.size:Int)-1<=(a:Int):=by omega
 have gx:=get_bt s a (by omega)
 rw[h92]at gx
 clear h92
 have gc:=get_bt s (a+1) hlt
 have c0:=bt_nonneg s (a+1)
 have c1:=bt_le s (a+1)
 have gx2:=beq_false_of_ne hx
 have gu:=beq_false_of_ne hu
 obtain⟨c,hc⟩: ∃c,c=bt s (a+1):=⟨_,rfl⟩
 rw[<-hc]at gc c0 c1 hnm h8 gx2 gu
 clear hc hx hu
 by_cases h48:48<=c
 ·have h55: ¬c<=55:=by omega
  clear h8
  go_enter Tryz.func90,Tryz.ntmps90
  go_wp2_with fail
  go_loopg [9] 9 (fun gn i wr=> ∃k:Nat,gn=9-k/\k<=9/\i=.int .i64 k/\Hid (Below w.heap.size w wr))
  case atStart=>exact⟨0,rfl,zB _,rfl,zh ((Below.refl _ _).alloc (zA _) _)⟩
  case round=>
   obtain⟨k,hgn,hk,rfl,HW⟩:=hrel
   by_cases hk9:k<9
   ·have gk:=get_bt ({ data:= #[98,100,101,102,110,114,115,116,118] } :ByteArray) k hk9
    have g1:=beq_false_of_ne (hnm.out k hk9)
    rw[show bt ({ data:= #[98,100,101,102,110,114,115,116,118] } :ByteArray) k=bt nmS k from rfl]at gk
    obtain⟨x,hx⟩: ∃x,x=bt nmS k:=⟨_,rfl⟩
    rw[<-hx]at gk g1
    clear hx
    go_wp2_with fail
    go_roundg (9- (k+1))
    case measure=>omega
    case rel=>exact⟨k+1,rfl,hk9,by go_num,HW⟩
   ·go_wp2_with fail
    refine(HR.out _).mono ?_
    rintro e w' ⟨rfl,q,rfl⟩
    go_wp2_with fail
    go_ret2
    exact⟨rfl,HW.out.trans ((Below.ofDrewN _ _).mono HW.out.size)⟩
 ·clear h8
  go_enter Tryz.func90,Tryz.ntmps90
  go_wp2_with fail
  go_loopg [9] 9 (fun gn i wr=> ∃k:Nat,gn=9-k/\k<=9/\i=.int .i64 k/\Hid (Below w.heap.size w wr))
  case atStart=>exact⟨0,rfl,zB _,rfl,zh ((Below.refl _ _).alloc (zA _) _)⟩
  case round=>
   obtain⟨k,hgn,hk,rfl,HW⟩:=hrel
   by_cases hk9:k<9
   ·have gk:=get_bt ({ data:= #[98,100,101,102,110,114,115,116,118] } :ByteArray) k hk9
    have g1:=beq_false_of_ne (hnm.out k hk9)
    rw[show bt ({ data:= #[98,100,101,102,110,114,115,116,118] } :ByteArray) k=bt nmS k from rfl]at gk
    obtain⟨x,hx⟩: ∃x,x=bt nmS k:=⟨_,rfl⟩
    rw[<-hx]at gk g1
    clear hx
    go_wp2_with fail
    go_roundg (9- (k+1))
    case measure=>omega
    case rel=>exact⟨k+1,rfl,hk9,by go_num,HW⟩
   ·go_wp2_with fail
    refine(HR.out _).mono ?_
    rintro e w' ⟨rfl,q,rfl⟩
    go_wp2_with fail
    go_ret2
    exact⟨rfl,HW.out.trans ((Below.ofDrewN _ _).mono HW.out.size)⟩
theorem qr7(s:ByteArray)(a:Nat)(hs:s.size<=1048576)(hlt:a+1<s.size)(h92:bt s a=92)(hnm:Hid (∀k,k<9->bt nmS k≠bt s (a+1)))(hx:bt s (a+1)=94)(hb:s.size<=a+2):qi9 s a (-1) 0:=by
 intro w
 have g0: ¬(s.size:Int)-1<=(a:Int):=by omega
 have gx:=get_bt s a (by omega)
 rw[h92]at gx
 clear h92
 have gc:=get_bt s (a+1) hlt
 have c0:=bt_nonneg s (a+1)
 have c1:=bt_le s (a+1)
 rw[hx]at gc hnm
 clear hx c0 c1
 go_enter Tryz.func90,Tryz.ntmps90
 go_wp2_with fail
 go_loopg [9] 9 (fun gn i wr=> ∃k:Nat,gn=9-k/\k<=9/\i=.int .i64 k/\Hid (Below w.heap.size w wr))
 case atStart=>exact⟨0,rfl,zB _,rfl,zh ((Below.refl _ _).alloc (zA _) _)⟩
 case round=>
  obtain⟨k,hgn,hk,rfl,HW⟩:=hrel
  by_cases hk9:k<9
  ·have gk:=get_bt ({ data:= #[98,100,101,102,110,114,115,116,118] } :ByteArray) k hk9
   have g1:=beq_false_of_ne (hnm.out k hk9)
   rw[show bt ({ data:= #[98,100,101,102,110,114,115,116,118] } :ByteArray) k=bt nmS k from rfl]at gk
   obtain⟨x,hx⟩: ∃x,x=bt nmS k:=⟨_,rfl⟩
   rw[<-hx]at gk g1
   clear hx
   go_wp2_with fail
   go_roundg (9- (k+1))
   case measure=>omega
   case rel=>exact⟨k+1,rfl,hk9,by go_num,HW⟩
  ·go_wp2_with fail
   go_ret2
   exact⟨rfl,HW.out⟩
theorem qr8(s:ByteArray)(a:Nat)(hs:s.size<=1048576)(hlt:a+1<s.size)(h92:bt s a=92)(hnm:Hid (∀k,k<9->bt nmS k≠bt s (a+1)))(hx:bt s (a+1)=94)(hlt2:a+2<s.size)(h:bt s (a+2)<64\/bt s (a+2)=96\/122<bt s (a+2)):qi9 s a (-1) 0:=by
 intro w
 have g0: ¬(s.size:Int)-1<=(a:Int):=by omega
 have gx:=get_bt s a (by omega)
 rw[h92]at gx
 clear h92
 have gc:=get_bt s (a+1) hlt
 have c0:=bt_nonneg s (a+1)
 have c1:=bt_le s (a+1)
 rw[hx]at gc hnm
 clear hx c0 c1
 have gd:=get_bt s (a+2) hlt2
 have d0:=bt_nonneg s (a+2)
 have d1:=bt_le s (a+2)
 have e31:=qgk (bt s (a+2)) d0 (by omega)
 obtain⟨d,hd⟩: ∃d,d=bt s (a+2):=⟨_,rfl⟩
 rw[<-hd]at gd d0 d1 e31 h
 clear hd
 rcases h with h | h | h
 ·have h1: ¬97<=d:=by omega
  go_enter Tryz.func90,Tryz.ntmps90
  go_wp2_with fail
  go_loopg [9] 9 (fun gn i wr=> ∃k:Nat,gn=9-k/\k<=9/\i=.int .i64 k/\Hid (Below w.heap.size w wr))
  case atStart=>exact⟨0,rfl,zB _,rfl,zh ((Below.refl _ _).alloc (zA _) _)⟩
  case round=>
   obtain⟨k,hgn,hk,rfl,HW⟩:=hrel
   by_cases hk9:k<9
   ·have gk:=get_bt ({ data:= #[98,100,101,102,110,114,115,116,118] } :ByteArray) k hk9
    have g1:=beq_false_of_ne (hnm.out k hk9)
    rw[show bt ({ data:= #[98,100,101,102,110,114,115,116,118] } :ByteArray) k=bt nmS k from rfl]at gk
    obtain⟨x,hx⟩: ∃x,x=bt nmS k:=⟨_,rfl⟩
    rw[<-hx]at gk g1
    clear hx
    go_wp2_with fail
    go_roundg (9- (k+1))
    case measure=>omega
    case rel=>exact⟨k+1,rfl,hk9,by go_num,HW⟩
   ·go_wp2_with fail
    go_ret2
    exact⟨rfl,HW.out⟩
 ·subst h
  go_enter Tryz.func90,Tryz.ntmps90
  go_wp2_with fail
  go_loopg [9] 9 (fun gn i wr=> ∃k:Nat,gn=9-k/\k<=9/\i=.int .i64 k/\Hid (Below w.heap.size w wr))
  case atStart=>exact⟨0,rfl,zB _,rfl,zh ((Below.refl _ _).alloc (zA _) _)⟩
  case round=>
   obtain⟨k,hgn,hk,rfl,HW⟩:=hrel
   by_cases hk9:k<9
   ·have gk:=get_bt ({ data:= #[98,100,101,102,110,114,115,116,118] } :ByteArray) k hk9
    have g1:=beq_false_of_ne (hnm.out k hk9)
    rw[show bt ({ data:= #[98,100,101,102,110,114,115,116,118] } :ByteArray) k=bt nmS k from rfl]at gk
    obtain⟨x,hx⟩: ∃x,x=bt nmS k:=⟨_,rfl⟩
    rw[<-hx]at gk g1
    clear hx
    go_wp2_with fail
    go_roundg (9- (k+1))
    case measure=>omega
    case rel=>exact⟨k+1,rfl,hk9,by go_num,HW⟩
   ·go_wp2_with fail
    go_ret2
    exact⟨rfl,HW.out⟩
 ·have h1: ¬d<=122:=by omega
  have h2: ¬d<=95:=by omega
  have h3:64<=d:=by omega
  have h4:97<=d:=by omega
  clear h
  go_enter Tryz.func90,Tryz.ntmps90
  go_wp2_with fail
  go_loopg [9] 9 (fun gn i wr=> ∃k:Nat,gn=9-k/\k<=9/\i=.int .i64 k/\Hid (Below w.heap.size w wr))
  case atStart=>exact⟨0,rfl,zB _,rfl,zh ((Below.refl _ _).alloc (zA _) _)⟩
  case round=>
   obtain⟨k,hgn,hk,rfl,HW⟩:=hrel
   by_cases hk9:k<9
   ·have gk:=get_bt ({ data:= #[98,100,101,102,110,114,115,116,118] } :ByteArray) k hk9
    have g1:=beq_false_of_ne (hnm.out k hk9)
    rw[show bt ({ data:= #[98,100,101,102,110,114,115,116,118] } :ByteArray) k=bt nmS k from rfl]at gk
    obtain⟨x,hx⟩: ∃x,x=bt nmS k:=⟨_,rfl⟩
    rw[<-hx]at gk g1
    clear hx
    go_wp2_with fail
    go_roundg (9- (k+1))
    case measure=>omega
    case rel=>exact⟨k+1,rfl,hk9,by go_num,HW⟩
   ·go_wp2_with fail
    go_ret2
    exact⟨rfl,HW.out⟩
    exfalso
    rename_i hh
    have h5:=hh.2
    simp at h5
    omega
theorem qr9(s:ByteArray)(a:Nat)(hs:s.size<=1048576)(hlt:a+1<s.size)(h92:bt s a=92)(hnm:Hid (∀k,k<9->bt nmS k≠bt s (a+1)))(hx:bt s (a+1)=94)(hlt2:a+2<s.size)(h:(64<=bt s (a+2)/\bt s (a+2)<=95)\/(97<=bt s (a+2)/\bt s (a+2)<=122)):qi9 s a (bt s (a+2) % 32) 3:=by
 intro w
 have g0: ¬(s.size:Int)-1<=(a:Int):=by omega
 have gx:=get_bt s a (by omega)
 rw[h92]at gx
 clear h92
 have gc:=get_bt s (a+1) hlt
 have c0:=bt_nonneg s (a+1)
 have c1:=bt_le s (a+1)
 rw[hx]at gc hnm
 clear hx c0 c1
 have gd:=get_bt s (a+2) hlt2
 have d0:=bt_nonneg s (a+2)
 have d1:=bt_le s (a+2)
 have e31:=qgk (bt s (a+2)) d0 (by omega)
 obtain⟨d,hd⟩: ∃d,d=bt s (a+2):=⟨_,rfl⟩
 rw[<-hd]at gd d0 d1 e31 h⊢
 clear hd
 rcases h with⟨h,h'⟩ | ⟨h,h'⟩
 ·have h1: ¬97<=d:=by omega
  go_enter Tryz.func90,Tryz.ntmps90
  go_wp2_with fail
  go_loopg [9] 9 (fun gn i wr=> ∃k:Nat,gn=9-k/\k<=9/\i=.int .i64 k/\Hid (Below w.heap.size w wr))
  case atStart=>exact⟨0,rfl,zB _,rfl,zh ((Below.refl _ _).alloc (zA _) _)⟩
  case round=>
   obtain⟨k,hgn,hk,rfl,HW⟩:=hrel
   by_cases hk9:k<9
   ·have gk:=get_bt ({ data:= #[98,100,101,102,110,114,115,116,118] } :ByteArray) k hk9
    have g1:=beq_false_of_ne (hnm.out k hk9)
    rw[show bt ({ data:= #[98,100,101,102,110,114,115,116,118] } :ByteArray) k=bt nmS k from rfl]at gk
    obtain⟨x,hx⟩: ∃x,x=bt nmS k:=⟨_,rfl⟩
    rw[<-hx]at gk g1
    clear hx
    go_wp2_with fail
    go_roundg (9- (k+1))
    case measure=>omega
    case rel=>exact⟨k+1,rfl,hk9,by go_num,HW⟩
   ·go_wp2_with fail
    go_ret2
    exact⟨rfl,HW.out⟩
 ·have h1: ¬d<=95:=by omega
  have h2:64<=d:=by omega
  go_enter Tryz.func90,Tryz.ntmps90
  go_wp2_with fail
  go_loopg [9] 9 (fun gn i wr=> ∃k:Nat,gn=9-k/\k<=9/\i=.int .i64 k/\Hid (Below w.heap.size w wr))
  case atStart=>exact⟨0,rfl,zB _,rfl,zh ((Below.refl _ _).alloc (zA _) _)⟩
  case round=>
   obtain⟨k,hgn,hk,rfl,HW⟩:=hrel
   by_cases hk9:k<9
   ·have gk:=get_bt ({ data:= #[98,100,101,102,110,114,115,116,118] } :ByteArray) k hk9
    have g1:=beq_false_of_ne (hnm.out k hk9)
    rw[show bt ({ data:= #[98,100,101,102,110,114,115,116,118] } :ByteArray) k=bt nmS k from rfl]at gk
    obtain⟨x,hx⟩: ∃x,x=bt nmS k:=⟨_,rfl⟩
    rw[<-hx]at gk g1
    clear hx
    go_wp2_with fail
    go_roundg (9- (k+1))
    case measure=>omega
    case rel=>exact⟨k+1,rfl,hk9,by go_num,HW⟩
   ·go_wp2_with fail
    go_ret2
    exact⟨rfl,HW.out⟩
theorem runm(s:ByteArray)(j:Nat)(b:Int)(m:Nat)(hj:j<=s.size)(hs:s.size<=1048576)(hb:0<=b)(hb':b<=16)(hm:m<=6):qod s j b m (rv s b m j 0) (rc s b m j):=fun W=>qvl s j b m hj hs hb hb' hm W
theorem bt_lt'{s:ByteArray}{k:Nat}(h:bt s k≠0):k<s.size:=by
 apply Classical.byContradiction
 intro h'
 exact h (bt_end s (by omega))
theorem qve(s:ByteArray)(a:Nat)(hs:s.size<=1048576):qi9 s a (esc s a).1 (esc s a).2:=by
 by_cases hin:a+1<s.size/\bt s a=92
 ·obtain⟨hlt,h92⟩:=hin
  by_cases hK: ∃K,K<9/\bt nmS K=bt s (a+1)
  ·obtain⟨K,hK,hKc⟩:=hK
   have e:=qmj hlt h92 hK hKc
   rw[e]
   exact qrc s a hs hlt h92 _ (fun k hk hkc=>by
    have e2:=qmj hlt h92 hk hkc
    rw[e]at e2
    exact(congrArg Prod.fst e2).symm) K hK hKc
  have hnm: ∀k,k<9->bt nmS k≠bt s (a+1):=fun k hk h=>hK ⟨k,hk,h⟩
  by_cases h8:48<=bt s (a+1)/\bt s (a+1)<=55
  ·rw[qu0 hlt h92 h8.1 h8.2]
   have h:=qvf s a hs hlt h92 hnm h8.1 h8.2 _ _ (qhe s 8 3 (a+1)) (runm s (a+1) 8 3 (by omega) hs (by omega) (by omega) (by omega))
   rw[show((1+rc s 8 3 (a+1):Nat):Int)=1+(rc s 8 3 (a+1):Nat)by omega]
   exact h
  by_cases hx:bt s (a+1)=120
  ·by_cases hb:bt s (a+2)=123
   ·have hlt2:a+2<s.size:=bt_lt' (by omega)
    rw[esc_xo hlt h92 hx hb]
    have HR:=zh (runm s (a+3) 16 6 hlt2 hs (by omega) (by omega) (by omega))
    have hn:=qhe s 16 6 (a+3)
    by_cases c1:rc s 16 6 (a+3)=0
    ·rw[if_pos (.inl c1)]
     exact qre s a hs hlt h92 hnm hx hlt2 hb _ _ hn HR c1
    by_cases c2:a+3+rc s 16 6 (a+3)<s.size
    ·by_cases c3:bt s (a+3+rc s 16 6 (a+3))=125
     ·cases hp:qgl (rv s 16 6 (a+3) 0)
      ·rw[if_pos (.inr (.inr rfl))]
       exact qrh s a hs hlt h92 hnm hx hlt2 hb _ _ hn HR (by omega) c2 c3 hp
      ·rw[if_neg (by
        rintro(h' | h' | h')
        ·exact c1 h'
        ·exact h' c3
        ·cases h')]
       have h:=qri s a hs hlt h92 hnm hx hlt2 hb _ _ hn HR (by omega) c2 c3 hp
       rw[show((4+rc s 16 6 (a+3):Nat):Int)=4+(rc s 16 6 (a+3):Nat)by omega]
       exact h
     ·rw[if_pos (.inr (.inl c3))]
      exact qrg s a hs hlt h92 hnm hx hlt2 hb _ _ hn HR (by omega) c2 c3
    ·rw[if_pos (.inr (.inl (by rw[bt_end s (by omega)];omega)))]
     exact qrf s a hs hlt h92 hnm hx hlt2 hb _ _ hn HR (by omega) (by omega)
   ·rw[esc_xx hlt h92 hx hb]
    have HR:=zh (runm s (a+2) 16 2 hlt hs (by omega) (by omega) (by omega))
    have hn:=qhe s 16 2 (a+2)
    by_cases c1:rc s 16 2 (a+2)<2
    ·rw[if_pos c1]
     by_cases hlt2:a+2<s.size
     ·exact qrl s a hs hlt h92 hnm hx _ _ hn HR hlt2 hb c1
     ·exact qrj s a hs hlt h92 hnm hx _ _ hn HR (by omega) c1
    ·rw[if_neg c1]
     by_cases hlt2:a+2<s.size
     ·exact qrm s a hs hlt h92 hnm hx _ _ hn HR hlt2 hb (by omega)
     ·exact qrk s a hs hlt h92 hnm hx _ _ hn HR (by omega) (by omega)
  by_cases hu:bt s (a+1)=94
  ·rw[qxy hlt h92 hu]
   by_cases hlt2:a+2<s.size
   ·by_cases c1:(64<=bt s (a+2)/\bt s (a+2)<=95)\/(97<=bt s (a+2)/\bt s (a+2)<=122)
    ·rw[if_pos c1]
     exact qr9 s a hs hlt h92 hnm hu hlt2 c1
    ·rw[if_neg c1]
     exact qr8 s a hs hlt h92 hnm hu hlt2 (by omega)
   ·rw[if_neg (by rw[bt_end s (by omega)];omega)]
    exact qr7 s a hs hlt h92 hnm hu (by omega)
  ·rw[qtz hlt h92 h8 hx hu (qz8 hnm)]
   have HR:qxj s ((a:Int)+1) (nc s (a+1)) (nl s (a+1)):=fun W=>qe3 s (a+1) W hlt (by unfold maxLen;omega)
   have hn:=qqj s (a+1)
   by_cases c1:nc s (a+1)<32
   ·rw[if_pos c1]
    exact qra s a hs hlt h92 hnm h8 hx hu _ _ hn HR c1
   ·rw[if_neg c1]
    have h:=qrb s a hs hlt h92 hnm h8 hx hu _ _ hn HR (by omega)
    rw[show((1+nl s (a+1):Nat):Int)=1+(nl s (a+1):Nat)by omega]
    exact h
 ·rw[qxz hin]
  by_cases h1:a+1<s.size
  ·exact qrd s a h1 (fun h=>hin ⟨h1,h⟩) hs
  ·exact qo0 s a (by omega) hs
end Go.Proofs.YtdhadeeajgoedaaGreat
