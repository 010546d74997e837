/-
  What the claims stand on: RefInt, RefEscX, RefEscY, RefEscZ, RefEscCc, RefEsc.
-/
import Derived.Test.YtdhadeeajgoedaaGreatK01
import Derived.Test.YtdhadeeajgoedaaGreatK05
import Derived.Test.YtdhadeeajgoedaaGreatK09
import Derived.Test.YtdhadeeajgoedaaGreatK10
import Derived.Test.YtdhadeeajgoedaaGreatK11
import Derived.Test.YtdhadeeajgoedaaGreatK12
import Derived.Deep.LoopGhost
import Derived.Lib.Bytealg
set_option maxRecDepth 100000
set_option maxHeartbeats 4000000
set_option linter.unusedVariables false
set_option linter.unusedSimpArgs false
open Nat renaming le_refl→zA,zero_le→zB
namespace Go.Proofs.YtdhadeeajgoedaaGreat
open Go.RowKit Go.PlainAid
def qe6(s:ByteArray)(a:Int)(b:Int)(un:Bool)(r:Int):Prop:= ∀W,Calls Tryz.prog 117 #[.string s,.int .i64 a,.int .i64 b,.bool un] W fun e w'=>e=.returned (.int .i64 r)/\ ∃n,w'=W.drewN n
theorem qvu(s:ByteArray)(a:Nat)(b:Int)(un:Bool)(ha:a<s.size)(hs:s.size<=1048576)(hb:0<=b):qe6 s ((a:Int)+1) b un ((ru s b (a+1) un (a+1):Nat)- ((a:Int)+1)):=fun W=>by
 have h:=ql4 s (a+1) b un ha hs hb W
 rw[show((a+1:Nat):Int)=(a:Int)+1 from rfl]at h
 exact h
def nmS:ByteArray:= { data:= #[98,100,101,102,110,114,115,116,118] }
def nmM:List Int:=[8,127,27,12,10,13,32,9,11]
theorem nm_all: ∀k:Fin 9,ltr (bt nmS k.val)=nmM.getD k.val 0/\nmM.getD k.val 0≠0/\0<=nmM.getD k.val 0/\nmM.getD k.val 0<128:=by decide+kernel
theorem qv6{c:Int}(h: ∀k,k<9->bt nmS k≠c):ltr c=0:=by
 have e0:=h 0 (by omega)
 have e1:=h 1 (by omega)
 have e2:=h 2 (by omega)
 have e3:=h 3 (by omega)
 have e4:=h 4 (by omega)
 have e5:=h 5 (by omega)
 have e6:=h 6 (by omega)
 have e7:=h 7 (by omega)
 have e8:=h 8 (by omega)
 rw[show bt nmS 0=98 by decide+kernel]at e0
 rw[show bt nmS 1=100 by decide+kernel]at e1
 rw[show bt nmS 2=101 by decide+kernel]at e2
 rw[show bt nmS 3=102 by decide+kernel]at e3
 rw[show bt nmS 4=110 by decide+kernel]at e4
 rw[show bt nmS 5=114 by decide+kernel]at e5
 rw[show bt nmS 6=115 by decide+kernel]at e6
 rw[show bt nmS 7=116 by decide+kernel]at e7
 rw[show bt nmS 8=118 by decide+kernel]at e8
 unfold ltr
 rw[if_neg (by omega),if_neg (by omega),if_neg (by omega),if_neg (by omega),if_neg (by omega),if_neg (by omega),if_neg (by omega),if_neg (by omega),if_neg (by omega)]
theorem qfc{v:Int}(h0:0<=v)(h1:v<55296):isPt v=true:=decide_eq_true (by omega)
theorem qfr{s:ByteArray}{a:Nat}(h:a<s.size)(h92:bt s a=92):esc s a=if isPt (mnt s (a+1)).1=true then((mnt s (a+1)).1,1+(mnt s (a+1)).2)else(-1,0):=by
 unfold esc
 rw[if_pos ⟨h,h92⟩]
theorem qg6{s:ByteArray}{b:Int}{m j:Nat}(h: ¬dg (bt s j)<b):rc s b (m+1) j=0:=by
 simp only[rc,if_neg h]
theorem qvf{s:ByteArray}{b:Int}{m j:Nat}(h:dg (bt s j)<b):0<rc s b (m+1) j:=by
 simp only[rc,if_pos h];omega
theorem qu9{s:ByteArray}{a:Nat}(h: ¬(a+1<s.size/\bt s a=92)):esc s a=(-1,0):=by
 by_cases h1:a<s.size/\bt s a=92
 ·have hz:a+1=s.size:=by
   by_cases h2:a+1<s.size
   ·exact absurd ⟨h2,h1.2⟩ h
   ·omega
  have h0:bt s (a+1)=0:=bt_end s (by omega)
  have hm:mnt s (a+1)=(-1,0):=by
   unfold mnt
   rw[qg6 (by rw[h0,qjk];omega),if_neg (by omega),h0,if_neg (by omega),if_neg (by omega),if_pos (.inl (by omega))]
  rw[qfr h1.1 h1.2,hm,if_neg (by decide)]
 ·unfold esc
  rw[if_neg h1]
theorem qkq{c:Int}(h:dg c<8):48<=c/\c<=55:=by
 unfold dg at h
 split at h
 ·omega
 ·split at h
  ·omega
  ·split at h
   ·omega
   ·omega
theorem oct_dg{c:Int}(h0:48<=c)(h1:c<=55):dg c<8:=by unfold dg;rw[if_pos (by omega)];omega
theorem qkr{s:ByteArray}{a:Nat}(h:a+1<s.size)(h92:bt s a=92){k:Nat}(hk:k<9)(hc:bt nmS k=bt s (a+1)):esc s a=(nmM.getD k 0,2):=by
 obtain⟨n1,n2,n3,n4⟩:=nm_all ⟨k,hk⟩
 simp only at n1 n2 n3 n4
 rw[hc]at n1
 have hl:ltr (bt s (a+1))≠0:=by rw[n1];exact n2
 have hr:98<=bt s (a+1)/\bt s (a+1)<=118:=by
  unfold ltr at hl
  repeat' split at hl
  all_goals omega
 have ha:=qro h (by omega)
 have hm:mnt s (a+1)=(nmM.getD k 0,1):=by
  unfold mnt
  rw[qg6 (fun h'=>by have:=qkq h';omega),if_neg (by omega),if_neg (by omega),if_neg (by omega),ha.1,if_neg (by omega),if_pos ⟨by omega,hl⟩,ha.2,n1]
 rw[qfr (by omega) h92,hm,if_pos (qfc n3 (by first | omega | (simp only;omega)))]
 all_goals rfl
theorem qr0{s:ByteArray}{a:Nat}(h:a+1<s.size)(h92:bt s a=92)(h0:48<=bt s (a+1))(h1:bt s (a+1)<=55):esc s a=(rv s 8 3 (a+1) 0,1+rc s 8 3 (a+1)):=by
 have hm:mnt s (a+1)=(rv s 8 3 (a+1) 0,rc s 8 3 (a+1)):=by
  unfold mnt
  rw[if_pos (qvf (oct_dg h0 h1))]
 have:=qtl s (a+1)
 rw[qfr (by omega) h92,hm,if_pos (qfc this.1 (by first | omega | (simp only;omega)))]
 all_goals rfl
theorem mnt_x{s:ByteArray}{j:Nat}(h:bt s j=120):mnt s j=hxd s j:=by
 unfold mnt
 rw[qg6 (fun h'=>by have:=qkq h';omega),if_neg (by omega),if_pos h]
theorem esc_xo{s:ByteArray}{a:Nat}(h:a+1<s.size)(h92:bt s a=92)(hx:bt s (a+1)=120)(hb:bt s (a+2)=123):
 esc s a=if rc s 16 6 (a+3)=0\/bt s (a+3+rc s 16 6 (a+3))≠125\/isPt (rv s 16 6 (a+3) 0)=false then(-1,0)else(rv s 16 6 (a+3) 0,4+rc s 16 6 (a+3)):=by
 rw[qfr (by omega) h92,mnt_x hx]
 unfold hxd
 rw[show a+1+1=a+2 by omega,show a+1+2=a+3 by omega,if_pos hb]
 by_cases c1:rc s 16 6 (a+3)=0\/bt s (a+3+rc s 16 6 (a+3))≠125
 ·rw[if_pos c1,if_neg (by decide),if_pos (c1.imp id .inl)]
 ·rw[if_neg c1]
  simp only
  cases hp:isPt (rv s 16 6 (a+3) 0)
  ·rw[if_neg (by decide),if_pos (.inr (.inr rfl))]
  ·rw[if_pos rfl,if_neg (by
    rintro(h' | h' | h')
    ·exact c1 (.inl h')
    ·exact c1 (.inr h')
    ·cases h')]
   rw[show 1+(rc s 16 6 (a+3)+3)=4+rc s 16 6 (a+3)by omega]
theorem esc_xx{s:ByteArray}{a:Nat}(h:a+1<s.size)(h92:bt s a=92)(hx:bt s (a+1)=120)(hb:bt s (a+2)≠123):
 esc s a=if rc s 16 2 (a+2)<2 then(-1,0)else(rv s 16 2 (a+2) 0,4):=by
 rw[qfr (by omega) h92,mnt_x hx]
 unfold hxd
 rw[show a+1+1=a+2 by omega,if_neg hb]
 by_cases c1:rc s 16 2 (a+2)<2
 ·rw[if_pos c1,if_pos c1,if_neg (by decide)]
 ·rw[if_neg c1,if_neg c1]
  have hv:=qsb s 16 (by omega) 2 (a+2) 0 (by omega)
  have h1:=qix 16 (by omega) (rc s 16 2 (a+2)) 2 (qgq s 16 2 (a+2))
  have h2:(16:Int) ^ 2=256:=by decide
  rw[if_pos (qfc hv.1 (by first | omega | (simp only;omega)))]
  all_goals rfl
theorem qu8{s:ByteArray}{a:Nat}(h:a+1<s.size)(h92:bt s a=92)(hx:bt s (a+1)=94):
 esc s a=if(64<=bt s (a+2)/\bt s (a+2)<=95)\/(97<=bt s (a+2)/\bt s (a+2)<=122)then(bt s (a+2) % 32,3)else(-1,0):=by
 have hm:mnt s (a+1)=ctl (bt s (a+2)):=by
  unfold mnt
  rw[qg6 (fun h'=>by have:=qkq h';omega),if_neg (by omega),if_neg (by omega),if_pos hx]
 rw[qfr (by omega) h92,hm]
 unfold ctl
 by_cases c1:(64<=bt s (a+2)/\bt s (a+2)<=95)\/(97<=bt s (a+2)/\bt s (a+2)<=122)
 ·rw[if_pos c1,if_pos c1,if_pos (qfc (by first | omega | (simp only;omega)) (by first | omega | (simp only;omega)))]
  all_goals rfl
 ·rw[if_neg c1,if_neg c1,if_neg (by decide)]
theorem qqz{s:ByteArray}{a:Nat}(h:a+1<s.size)(h92:bt s a=92)(h8: ¬(48<=bt s (a+1)/\bt s (a+1)<=55))(hx:bt s (a+1)≠120)(hu:bt s (a+1)≠94)(hl:ltr (bt s (a+1))=0):
 esc s a=if nc s (a+1)<32 then(-1,0)else(nc s (a+1),1+nl s (a+1)):=by
 have hm:mnt s (a+1)=if nc s (a+1)<32 then(-1,0)else(nc s (a+1),nl s (a+1)):=by
  unfold mnt
  rw[qg6 (fun h'=>h8 (qkq h')),if_neg (by omega),if_neg hx,if_neg hu]
  by_cases c1:nc s (a+1)<32
  ·rw[if_pos (.inr c1),if_pos c1]
  ·rw[if_neg (by omega),if_neg c1,if_neg (fun h'=>h'.2 hl)]
 rw[qfr (by omega) h92,hm]
 by_cases c1:nc s (a+1)<32
 ·rw[if_pos c1,if_pos c1,if_neg (by decide)]
 ·rw[if_neg c1,if_neg c1,if_pos (nc_pt (by omega))]
def RunM(s:ByteArray)(j b m v n:Int):Prop:= ∀W,Calls Tryz.prog 118 #[.string s,.int .i64 j,.int .i64 b,.int .i64 m] W fun e w'=>e=.returned (.tuple #[.int .i64 v,.int .i64 n])/\ ∃q,w'=W.drewN q
def qtx(s:ByteArray)(j v n:Int):Prop:= ∀W,Calls Tryz.prog 50 #[.string s,.int .i64 j] W fun e w'=>e=.returned (.tuple #[.int .i64 v,.int .i64 n])/\ ∃q,w'=W.drewN q
def EscR(s:ByteArray)(j v n:Int):Prop:= ∀W,Calls Tryz.prog 90 #[.string s,.int .i64 j] W fun e w'=>e=.returned (.tuple #[.int .i64 v,.int .i64 n])/\Below W.heap.size W w'
def qmf(w w':World):Prop:=(∀k,k<9->w'.cell? ⟨w.heap.size,k,none⟩=some (.int .i64 (nmM.getD k 0)))/\Below w.heap.size w w'
theorem qrm(w:World)(cs:Array Value)(t:TypeId)(h:cs=(nmM.map (Value.int .i64)).toArray):qmf w (w.alloc (.cells cs t)):=by
 refine⟨fun k hk=>?_,(Below.refl _ _).alloc (zA _) _⟩
 rw[World.cell?_alloc_new,h]
 have hk':k<nmM.length:=hk
 simp[List.getD_eq_getElem?_getD,List.getElem?_eq_getElem hk']
theorem qm4(s:ByteArray)(a:Nat)(h:s.size<=a+1)(hs:s.size<=1048576):EscR s a (-1) 0:=by
 intro w
 have g0:(s.size:Int)-1<=(a:Int):=by omega
 go_enter Tryz.func90,Tryz.ntmps90
 go_wp2_with fail
 go_ret2
 exact⟨rfl,Below.refl _ _⟩
theorem qot(s:ByteArray)(a:Nat)(h:a+1<s.size)(hn:bt s a≠92)(hs:s.size<=1048576):EscR s a (-1) 0:=by
 intro w
 have g0: ¬(s.size:Int)-1<=(a:Int):=by omega
 have gx:=get_bt s a (by omega)
 have g1:(bt s a !=92)=true:=by simpa using hn
 obtain⟨c,hc⟩: ∃c,c=bt s a:=⟨_,rfl⟩
 rw[<-hc]at gx g1
 clear hc hn
 go_enter Tryz.func90,Tryz.ntmps90
 go_wp2_with fail
 go_ret2
 exact⟨rfl,Below.refl _ _⟩
theorem qos(s:ByteArray)(a:Nat)(hs:s.size<=1048576)(hlt:a+1<s.size)(h92:bt s a=92)(V:Int)(HN:Hid (∀k,k<9->bt nmS k=bt s (a+1)->nmM.getD k 0=V))(K:Nat)(hK:K<9)(hKc:bt nmS K=bt s (a+1)):EscR s a V 2:=by
 intro w
 have g0: ¬(s.size:Int)-1<=(a:Int):=by omega
 have gx:=get_bt s a (by omega)
 rw[h92]at gx
 clear h92
 have gc:=get_bt s (a+1) hlt
 have c0:=bt_nonneg s (a+1)
 have c1:=bt_le s (a+1)
 have HKC:=zh hKc
 clear hKc
 obtain⟨c,hc⟩: ∃c,c=bt s (a+1):=⟨_,rfl⟩
 rw[<-hc]at gc c0 c1 HN HKC
 clear hc
 go_enter Tryz.func90,Tryz.ntmps90
 go_wp2_with fail
 go_loopg [9] K (fun gn i wr=> ∃k:Nat,gn=K-k/\k<=K/\i=.int .i64 k/\Hid (qmf w wr))
 case atStart=>exact⟨0,rfl,zB _,rfl,zh (qrm _ _ _ rfl)⟩
 case round=>
  obtain⟨k,hgn,hk,rfl,HW⟩:=hrel
  have h9:k<9:=by omega
  have gk:=get_bt ({ data:= #[98,100,101,102,110,114,115,116,118] } :ByteArray) k h9
  have hcell:=HW.out.1 k h9
  have HV:=zh (HN.out k h9)
  have HE:Hid (K=k->bt nmS k=c):=fun h=>by rw[<-h];exact HKC.out
  rw[show bt ({ data:= #[98,100,101,102,110,114,115,116,118] } :ByteArray) k=bt nmS k from rfl]at gk
  obtain⟨x,hx⟩: ∃x,x=bt nmS k:=⟨_,rfl⟩
  obtain⟨y,hy⟩: ∃y,y=nmM.getD k 0:=⟨_,rfl⟩
  rw[<-hx]at gk HV HE
  rw[<-hy]at hcell HV
  clear hx hy
  cases hv:(x==c)
  ·have hne:K≠k:=fun h=>by rw[HE.out h]at hv;simp at hv
   go_wp2_with fail
   go_roundg (K- (k+1))
   case measure=>omega
   case rel=>exact⟨k+1,rfl,by omega,by go_num,HW⟩
  ·have HF:Hid (y=V):=HV.out (eq_of_beq hv)
   go_wp2_with fail
   go_ret2
   exact⟨qs6 HF.out rfl,HW.out.2⟩
theorem qs5(s:ByteArray)(a:Nat)(hs:s.size<=1048576)(hlt:a+1<s.size)(h92:bt s a=92)(hnm:Hid (∀k,k<9->bt nmS k≠bt s (a+1)))(h0:48<=bt s (a+1))(h1:bt s (a+1)<=55)(v:Int)(n:Nat)(hn:n<=3)(HR:Hid (RunM s ((a:Int)+1) 8 3 v n)):EscR s a v (1+n):=by
 intro w
 have g0: ¬(s.size:Int)-1<=(a:Int):=by omega
 have gx:=get_bt s a (by omega)
 rw[h92]at gx
 clear h92
 have gc:=get_bt s (a+1) hlt
 have c0:=bt_nonneg s (a+1)
 have c1:=bt_le s (a+1)
 obtain⟨c,hc⟩: ∃c,c=bt s (a+1):=⟨_,rfl⟩
 rw[<-hc]at gc c0 c1 hnm h0 h1
 clear hc
 go_enter Tryz.func90,Tryz.ntmps90
 go_wp2_with fail
 go_loopg [9] 9 (fun gn i wr=> ∃k:Nat,gn=9-k/\k<=9/\i=.int .i64 k/\Hid (Below w.heap.size w wr))
 case atStart=>exact⟨0,rfl,zB _,rfl,zh ((Below.refl _ _).alloc (zA _) _)⟩
 case round=>
  obtain⟨k,hgn,hk,rfl,HW⟩:=hrel
  by_cases hk9:k<9
  ·have gk:=get_bt ({ data:= #[98,100,101,102,110,114,115,116,118] } :ByteArray) k hk9
   have g1:=beq_false_of_ne (hnm.out k hk9)
   rw[show bt ({ data:= #[98,100,101,102,110,114,115,116,118] } :ByteArray) k=bt nmS k from rfl]at gk
   obtain⟨x,hx⟩: ∃x,x=bt nmS k:=⟨_,rfl⟩
   rw[<-hx]at gk g1
   clear hx
   go_wp2_with fail
   go_roundg (9- (k+1))
   case measure=>omega
   case rel=>exact⟨k+1,rfl,hk9,by go_num,HW⟩
  ·go_wp2_with fail
   refine(HR.out _).mono ?_
   rintro e w' ⟨rfl,q,rfl⟩
   go_wp2_with fail
   go_ret2
   exact⟨rfl,HW.out.trans ((Below.ofDrewN _ _).mono HW.out.size)⟩
theorem qou(s:ByteArray)(a:Nat)(hs:s.size<=1048576)(hlt:a+1<s.size)(h92:bt s a=92)(hnm:Hid (∀k,k<9->bt nmS k≠bt s (a+1)))(hx:bt s (a+1)=120)(hlt2:a+2<s.size)(hb:bt s (a+2)=123)(v:Int)(n:Nat)(hn:n<=6)(HR:Hid (RunM s ((a:Int)+3) 16 6 v n))(h0:n=0):EscR s a (-1) 0:=by
 subst h0
 intro w
 have g0: ¬(s.size:Int)-1<=(a:Int):=by omega
 have gx:=get_bt s a (by omega)
 rw[h92]at gx
 clear h92
 have gc:=get_bt s (a+1) hlt
 have c0:=bt_nonneg s (a+1)
 have c1:=bt_le s (a+1)
 rw[hx]at gc hnm
 clear hx c0 c1
 have gd:=get_bt s (a+2) hlt2
 rw[hb]at gd
 clear hb
 go_enter Tryz.func90,Tryz.ntmps90
 go_wp2_with fail
 go_loopg [9] 9 (fun gn i wr=> ∃k:Nat,gn=9-k/\k<=9/\i=.int .i64 k/\Hid (Below w.heap.size w wr))
 case atStart=>exact⟨0,rfl,zB _,rfl,zh ((Below.refl _ _).alloc (zA _) _)⟩
 case round=>
  obtain⟨k,hgn,hk,rfl,HW⟩:=hrel
  by_cases hk9:k<9
  ·have gk:=get_bt ({ data:= #[98,100,101,102,110,114,115,116,118] } :ByteArray) k hk9
   have g1:=beq_false_of_ne (hnm.out k hk9)
   rw[show bt ({ data:= #[98,100,101,102,110,114,115,116,118] } :ByteArray) k=bt nmS k from rfl]at gk
   obtain⟨x,hx⟩: ∃x,x=bt nmS k:=⟨_,rfl⟩
   rw[<-hx]at gk g1
   clear hx
   go_wp2_with fail
   go_roundg (9- (k+1))
   case measure=>omega
   case rel=>exact⟨k+1,rfl,hk9,by go_num,HW⟩
  ·go_wp2_with fail
   refine(HR.out _).mono ?_
   rintro e w' ⟨rfl,q,rfl⟩
   go_wp2_with fail
   go_ret2
   exact⟨rfl,HW.out.trans ((Below.ofDrewN _ _).mono HW.out.size)⟩
theorem qov(s:ByteArray)(a:Nat)(hs:s.size<=1048576)(hlt:a+1<s.size)(h92:bt s a=92)(hnm:Hid (∀k,k<9->bt nmS k≠bt s (a+1)))(hx:bt s (a+1)=120)(hlt2:a+2<s.size)(hb:bt s (a+2)=123)(v:Int)(n:Nat)(hn:n<=6)(HR:Hid (RunM s ((a:Int)+3) 16 6 v n))(h0:0<n)(h1:s.size<=a+3+n):EscR s a (-1) 0:=by
 intro w
 have g0: ¬(s.size:Int)-1<=(a:Int):=by omega
 have gx:=get_bt s a (by omega)
 rw[h92]at gx
 clear h92
 have gc:=get_bt s (a+1) hlt
 have c0:=bt_nonneg s (a+1)
 have c1:=bt_le s (a+1)
 rw[hx]at gc hnm
 clear hx c0 c1
 have gd:=get_bt s (a+2) hlt2
 rw[hb]at gd
 clear hb
 have gn:((n:Int)==0)=false:=beq_false_of_ne (by omega)
 go_enter Tryz.func90,Tryz.ntmps90
 go_wp2_with fail
 go_loopg [9] 9 (fun gn i wr=> ∃k:Nat,gn=9-k/\k<=9/\i=.int .i64 k/\Hid (Below w.heap.size w wr))
 case atStart=>exact⟨0,rfl,zB _,rfl,zh ((Below.refl _ _).alloc (zA _) _)⟩
 case round=>
  obtain⟨k,hgn,hk,rfl,HW⟩:=hrel
  by_cases hk9:k<9
  ·have gk:=get_bt ({ data:= #[98,100,101,102,110,114,115,116,118] } :ByteArray) k hk9
   have g1:=beq_false_of_ne (hnm.out k hk9)
   rw[show bt ({ data:= #[98,100,101,102,110,114,115,116,118] } :ByteArray) k=bt nmS k from rfl]at gk
   obtain⟨x,hx⟩: ∃x,x=bt nmS k:=⟨_,rfl⟩
   rw[<-hx]at gk g1
   clear hx
   go_wp2_with fail
   go_roundg (9- (k+1))
   case measure=>omega
   case rel=>exact⟨k+1,rfl,hk9,by go_num,HW⟩
  ·go_wp2_with fail
   refine(HR.out _).mono ?_
   rintro e w' ⟨rfl,q,rfl⟩
   go_wp2_with fail
   go_ret2
   exact⟨rfl,HW.out.trans ((Below.ofDrewN _ _).mono HW.out.size)⟩
theorem qow(s:ByteArray)(a:Nat)(hs:s.size<=1048576)(hlt:a+1<s.size)(h92:bt s a=92)(hnm:Hid (∀k,k<9->bt nmS k≠bt s (a+1)))(hx:bt s (a+1)=120)(hlt2:a+2<s.size)(hb:bt s (a+2)=123)(v:Int)(n:Nat)(hn:n<=6)(HR:Hid (RunM s ((a:Int)+3) 16 6 v n))(h0:0<n)(h1:a+3+n<s.size)(h125:bt s (a+3+n)≠125):EscR s a (-1) 0:=by
 intro w
 have g0: ¬(s.size:Int)-1<=(a:Int):=by omega
 have gx:=get_bt s a (by omega)
 rw[h92]at gx
 clear h92
 have gc:=get_bt s (a+1) hlt
 have c0:=bt_nonneg s (a+1)
 have c1:=bt_le s (a+1)
 rw[hx]at gc hnm
 clear hx c0 c1
 have gd:=get_bt s (a+2) hlt2
 rw[hb]at gd
 clear hb
 have gn:((n:Int)==0)=false:=beq_false_of_ne (by omega)
 have ge:=get_bt s (a+3+n) h1
 have g125:(bt s (a+3+n) !=125)=true:=by simpa using h125
 obtain⟨z,hz⟩: ∃z,z=bt s (a+3+n):=⟨_,rfl⟩
 rw[<-hz]at ge g125
 clear hz h125
 go_enter Tryz.func90,Tryz.ntmps90
 go_wp2_with fail
 go_loopg [9] 9 (fun gn i wr=> ∃k:Nat,gn=9-k/\k<=9/\i=.int .i64 k/\Hid (Below w.heap.size w wr))
 case atStart=>exact⟨0,rfl,zB _,rfl,zh ((Below.refl _ _).alloc (zA _) _)⟩
 case round=>
  obtain⟨k,hgn,hk,rfl,HW⟩:=hrel
  by_cases hk9:k<9
  ·have gk:=get_bt ({ data:= #[98,100,101,102,110,114,115,116,118] } :ByteArray) k hk9
   have g1:=beq_false_of_ne (hnm.out k hk9)
   rw[show bt ({ data:= #[98,100,101,102,110,114,115,116,118] } :ByteArray) k=bt nmS k from rfl]at gk
   obtain⟨x,hx⟩: ∃x,x=bt nmS k:=⟨_,rfl⟩
   rw[<-hx]at gk g1
   clear hx
   go_wp2_with fail
   go_roundg (9- (k+1))
   case measure=>omega
   case rel=>exact⟨k+1,rfl,hk9,by go_num,HW⟩
  ·go_wp2_with fail
   refine(HR.out _).mono ?_
   rintro e w' ⟨rfl,q,rfl⟩
   go_wp2_with fail
   go_ret2
   exact⟨rfl,HW.out.trans ((Below.ofDrewN _ _).mono HW.out.size)⟩
theorem qox(s:ByteArray)(a:Nat)(hs:s.size<=1048576)(hlt:a+1<s.size)(h92:bt s a=92)(hnm:Hid (∀k,k<9->bt nmS k≠bt s (a+1)))(hx:bt s (a+1)=120)(hlt2:a+2<s.size)(hb:bt s (a+2)=123)(v:Int)(n:Nat)(hn:n<=6)(HR:Hid (RunM s ((a:Int)+3) 16 6 v n))(h0:0<n)(h1:a+3+n<s.size)(h125:bt s (a+3+n)=125)(hp:isPt v=false):EscR s a (-1) 0:=by
 intro w
 have g0: ¬(s.size:Int)-1<=(a:Int):=by omega
 have gx:=get_bt s a (by omega)
 rw[h92]at gx
 clear h92
 have gc:=get_bt s (a+1) hlt
 have c0:=bt_nonneg s (a+1)
 have c1:=bt_le s (a+1)
 rw[hx]at gc hnm
 clear hx c0 c1
 have gd:=get_bt s (a+2) hlt2
 rw[hb]at gd
 clear hb
 have gn:((n:Int)==0)=false:=beq_false_of_ne (by omega)
 have ge:=get_bt s (a+3+n) h1
 rw[h125]at ge
 clear h125
 have HP:=zh (fun W=>qef v W hp)
 clear hp
 go_enter Tryz.func90,Tryz.ntmps90
 go_wp2_with fail
 go_loopg [9] 9 (fun gn i wr=> ∃k:Nat,gn=9-k/\k<=9/\i=.int .i64 k/\Hid (Below w.heap.size w wr))
 case atStart=>exact⟨0,rfl,zB _,rfl,zh ((Below.refl _ _).alloc (zA _) _)⟩
 case round=>
  obtain⟨k,hgn,hk,rfl,HW⟩:=hrel
  by_cases hk9:k<9
  ·have gk:=get_bt ({ data:= #[98,100,101,102,110,114,115,116,118] } :ByteArray) k hk9
   have g1:=beq_false_of_ne (hnm.out k hk9)
   rw[show bt ({ data:= #[98,100,101,102,110,114,115,116,118] } :ByteArray) k=bt nmS k from rfl]at gk
   obtain⟨x,hx⟩: ∃x,x=bt nmS k:=⟨_,rfl⟩
   rw[<-hx]at gk g1
   clear hx
   go_wp2_with fail
   go_roundg (9- (k+1))
   case measure=>omega
   case rel=>exact⟨k+1,rfl,hk9,by go_num,HW⟩
  ·go_wp2_with fail
   refine(HR.out _).mono ?_
   rintro e w' ⟨rfl,q,rfl⟩
   go_wp2_with fail
   refine(HP.out _).mono ?_
   rintro e w' ⟨rfl,rfl⟩
   go_wp2_with fail
   go_ret2
   exact⟨rfl,HW.out.trans ((Below.ofDrewN _ _).mono HW.out.size)⟩
theorem qoy(s:ByteArray)(a:Nat)(hs:s.size<=1048576)(hlt:a+1<s.size)(h92:bt s a=92)(hnm:Hid (∀k,k<9->bt nmS k≠bt s (a+1)))(hx:bt s (a+1)=120)(hlt2:a+2<s.size)(hb:bt s (a+2)=123)(v:Int)(n:Nat)(hn:n<=6)(HR:Hid (RunM s ((a:Int)+3) 16 6 v n))(h0:0<n)(h1:a+3+n<s.size)(h125:bt s (a+3+n)=125)(hp:isPt v=true):EscR s a v (4+n):=by
 intro w
 have g0: ¬(s.size:Int)-1<=(a:Int):=by omega
 have gx:=get_bt s a (by omega)
 rw[h92]at gx
 clear h92
 have gc:=get_bt s (a+1) hlt
 have c0:=bt_nonneg s (a+1)
 have c1:=bt_le s (a+1)
 rw[hx]at gc hnm
 clear hx c0 c1
 have gd:=get_bt s (a+2) hlt2
 rw[hb]at gd
 clear hb
 have gn:((n:Int)==0)=false:=beq_false_of_ne (by omega)
 have ge:=get_bt s (a+3+n) h1
 rw[h125]at ge
 clear h125
 have HP:=zh (fun W=>qds v W hp)
 clear hp
 go_enter Tryz.func90,Tryz.ntmps90
 go_wp2_with fail
 go_loopg [9] 9 (fun gn i wr=> ∃k:Nat,gn=9-k/\k<=9/\i=.int .i64 k/\Hid (Below w.heap.size w wr))
 case atStart=>exact⟨0,rfl,zB _,rfl,zh ((Below.refl _ _).alloc (zA _) _)⟩
 case round=>
  obtain⟨k,hgn,hk,rfl,HW⟩:=hrel
  by_cases hk9:k<9
  ·have gk:=get_bt ({ data:= #[98,100,101,102,110,114,115,116,118] } :ByteArray) k hk9
   have g1:=beq_false_of_ne (hnm.out k hk9)
   rw[show bt ({ data:= #[98,100,101,102,110,114,115,116,118] } :ByteArray) k=bt nmS k from rfl]at gk
   obtain⟨x,hx⟩: ∃x,x=bt nmS k:=⟨_,rfl⟩
   rw[<-hx]at gk g1
   clear hx
   go_wp2_with fail
   go_roundg (9- (k+1))
   case measure=>omega
   case rel=>exact⟨k+1,rfl,hk9,by go_num,HW⟩
  ·go_wp2_with fail
   refine(HR.out _).mono ?_
   rintro e w' ⟨rfl,q,rfl⟩
   go_wp2_with fail
   refine(HP.out _).mono ?_
   rintro e w' ⟨rfl,rfl⟩
   go_wp2_with fail
   go_ret2
   exact⟨rfl,HW.out.trans ((Below.ofDrewN _ _).mono HW.out.size)⟩
theorem qoz(s:ByteArray)(a:Nat)(hs:s.size<=1048576)(hlt:a+1<s.size)(h92:bt s a=92)(hnm:Hid (∀k,k<9->bt nmS k≠bt s (a+1)))(hx:bt s (a+1)=120)(v:Int)(n:Nat)(hn:n<=2)(HR:Hid (RunM s ((a:Int)+2) 16 2 v n))(hb:s.size<=a+2)(h2:n<2):EscR s a (-1) 0:=by
 intro w
 have g0: ¬(s.size:Int)-1<=(a:Int):=by omega
 have gx:=get_bt s a (by omega)
 rw[h92]at gx
 clear h92
 have gc:=get_bt s (a+1) hlt
 have c0:=bt_nonneg s (a+1)
 have c1:=bt_le s (a+1)
 rw[hx]at gc hnm
 clear hx c0 c1
 go_enter Tryz.func90,Tryz.ntmps90
 go_wp2_with fail
 go_loopg [9] 9 (fun gn i wr=> ∃k:Nat,gn=9-k/\k<=9/\i=.int .i64 k/\Hid (Below w.heap.size w wr))
 case atStart=>exact⟨0,rfl,zB _,rfl,zh ((Below.refl _ _).alloc (zA _) _)⟩
 case round=>
  obtain⟨k,hgn,hk,rfl,HW⟩:=hrel
  by_cases hk9:k<9
  ·have gk:=get_bt ({ data:= #[98,100,101,102,110,114,115,116,118] } :ByteArray) k hk9
   have g1:=beq_false_of_ne (hnm.out k hk9)
   rw[show bt ({ data:= #[98,100,101,102,110,114,115,116,118] } :ByteArray) k=bt nmS k from rfl]at gk
   obtain⟨x,hx⟩: ∃x,x=bt nmS k:=⟨_,rfl⟩
   rw[<-hx]at gk g1
   clear hx
   go_wp2_with fail
   go_roundg (9- (k+1))
   case measure=>omega
   case rel=>exact⟨k+1,rfl,hk9,by go_num,HW⟩
  ·go_wp2_with fail
   refine(HR.out _).mono ?_
   rintro e w' ⟨rfl,q,rfl⟩
   go_wp2_with fail
   go_ret2
   exact⟨rfl,HW.out.trans ((Below.ofDrewN _ _).mono HW.out.size)⟩
theorem qp1(s:ByteArray)(a:Nat)(hs:s.size<=1048576)(hlt:a+1<s.size)(h92:bt s a=92)(hnm:Hid (∀k,k<9->bt nmS k≠bt s (a+1)))(hx:bt s (a+1)=120)(v:Int)(n:Nat)(hn:n<=2)(HR:Hid (RunM s ((a:Int)+2) 16 2 v n))(hlt2:a+2<s.size)(hb:bt s (a+2)≠123)(h2:n<2):EscR s a (-1) 0:=by
 intro w
 have g0: ¬(s.size:Int)-1<=(a:Int):=by omega
 have gx:=get_bt s a (by omega)
 rw[h92]at gx
 clear h92
 have gc:=get_bt s (a+1) hlt
 have c0:=bt_nonneg s (a+1)
 have c1:=bt_le s (a+1)
 rw[hx]at gc hnm
 clear hx c0 c1
 have gd:=get_bt s (a+2) hlt2
 have gb:=beq_false_of_ne hb
 obtain⟨d,hd⟩: ∃d,d=bt s (a+2):=⟨_,rfl⟩
 rw[<-hd]at gd gb
 clear hd hb
 go_enter Tryz.func90,Tryz.ntmps90
 go_wp2_with fail
 go_loopg [9] 9 (fun gn i wr=> ∃k:Nat,gn=9-k/\k<=9/\i=.int .i64 k/\Hid (Below w.heap.size w wr))
 case atStart=>exact⟨0,rfl,zB _,rfl,zh ((Below.refl _ _).alloc (zA _) _)⟩
 case round=>
  obtain⟨k,hgn,hk,rfl,HW⟩:=hrel
  by_cases hk9:k<9
  ·have gk:=get_bt ({ data:= #[98,100,101,102,110,114,115,116,118] } :ByteArray) k hk9
   have g1:=beq_false_of_ne (hnm.out k hk9)
   rw[show bt ({ data:= #[98,100,101,102,110,114,115,116,118] } :ByteArray) k=bt nmS k from rfl]at gk
   obtain⟨x,hx⟩: ∃x,x=bt nmS k:=⟨_,rfl⟩
   rw[<-hx]at gk g1
   clear hx
   go_wp2_with fail
   go_roundg (9- (k+1))
   case measure=>omega
   case rel=>exact⟨k+1,rfl,hk9,by go_num,HW⟩
  ·go_wp2_with fail
   refine(HR.out _).mono ?_
   rintro e w' ⟨rfl,q,rfl⟩
   go_wp2_with fail
   go_ret2
   exact⟨rfl,HW.out.trans ((Below.ofDrewN _ _).mono HW.out.size)⟩
theorem qp0(s:ByteArray)(a:Nat)(hs:s.size<=1048576)(hlt:a+1<s.size)(h92:bt s a=92)(hnm:Hid (∀k,k<9->bt nmS k≠bt s (a+1)))(hx:bt s (a+1)=120)(v:Int)(n:Nat)(hn:n<=2)(HR:Hid (RunM s ((a:Int)+2) 16 2 v n))(hb:s.size<=a+2)(h2:2<=n):EscR s a v 4:=by
 intro w
 have g0: ¬(s.size:Int)-1<=(a:Int):=by omega
 have gx:=get_bt s a (by omega)
 rw[h92]at gx
 clear h92
 have gc:=get_bt s (a+1) hlt
 have c0:=bt_nonneg s (a+1)
 have c1:=bt_le s (a+1)
 rw[hx]at gc hnm
 clear hx c0 c1
 go_enter Tryz.func90,Tryz.ntmps90
 go_wp2_with fail
 go_loopg [9] 9 (fun gn i wr=> ∃k:Nat,gn=9-k/\k<=9/\i=.int .i64 k/\Hid (Below w.heap.size w wr))
 case atStart=>exact⟨0,rfl,zB _,rfl,zh ((Below.refl _ _).alloc (zA _) _)⟩
 case round=>
  obtain⟨k,hgn,hk,rfl,HW⟩:=hrel
  by_cases hk9:k<9
  ·have gk:=get_bt ({ data:= #[98,100,101,102,110,114,115,116,118] } :ByteArray) k hk9
   have g1:=beq_false_of_ne (hnm.out k hk9)
   rw[show bt ({ data:= #[98,100,101,102,110,114,115,116,118] } :ByteArray) k=bt nmS k from rfl]at gk
   obtain⟨x,hx⟩: ∃x,x=bt nmS k:=⟨_,rfl⟩
   rw[<-hx]at gk g1
   clear hx
   go_wp2_with fail
   go_roundg (9- (k+1))
   case measure=>omega
   case rel=>exact⟨k+1,rfl,hk9,by go_num,HW⟩
  ·go_wp2_with fail
   refine(HR.out _).mono ?_
   rintro e w' ⟨rfl,q,rfl⟩
   go_wp2_with fail
   go_ret2
   exact⟨rfl,HW.out.trans ((Below.ofDrewN _ _).mono HW.out.size)⟩
theorem qp2(s:ByteArray)(a:Nat)(hs:s.size<=1048576)(hlt:a+1<s.size)(h92:bt s a=92)(hnm:Hid (∀k,k<9->bt nmS k≠bt s (a+1)))(hx:bt s (a+1)=120)(v:Int)(n:Nat)(hn:n<=2)(HR:Hid (RunM s ((a:Int)+2) 16 2 v n))(hlt2:a+2<s.size)(hb:bt s (a+2)≠123)(h2:2<=n):EscR s a v 4:=by
 intro w
 have g0: ¬(s.size:Int)-1<=(a:Int):=by omega
 have gx:=get_bt s a (by omega)
 rw[h92]at gx
 clear h92
 have gc:=get_bt s (a+1) hlt
 have c0:=bt_nonneg s (a+1)
 have c1:=bt_le s (a+1)
 rw[hx]at gc hnm
 clear hx c0 c1
 have gd:=get_bt s (a+2) hlt2
 have gb:=beq_false_of_ne hb
 obtain⟨d,hd⟩: ∃d,d=bt s (a+2):=⟨_,rfl⟩
 rw[<-hd]at gd gb
 clear hd hb
 go_enter Tryz.func90,Tryz.ntmps90
 go_wp2_with fail
 go_loopg [9] 9 (fun gn i wr=> ∃k:Nat,gn=9-k/\k<=9/\i=.int .i64 k/\Hid (Below w.heap.size w wr))
 case atStart=>exact⟨0,rfl,zB _,rfl,zh ((Below.refl _ _).alloc (zA _) _)⟩
 case round=>
  obtain⟨k,hgn,hk,rfl,HW⟩:=hrel
  by_cases hk9:k<9
  ·have gk:=get_bt ({ data:= #[98,100,101,102,110,114,115,116,118] } :ByteArray) k hk9
   have g1:=beq_false_of_ne (hnm.out k hk9)
   rw[show bt ({ data:= #[98,100,101,102,110,114,115,116,118] } :ByteArray) k=bt nmS k from rfl]at gk
   obtain⟨x,hx⟩: ∃x,x=bt nmS k:=⟨_,rfl⟩
   rw[<-hx]at gk g1
   clear hx
   go_wp2_with fail
   go_roundg (9- (k+1))
   case measure=>omega
   case rel=>exact⟨k+1,rfl,hk9,by go_num,HW⟩
  ·go_wp2_with fail
   refine(HR.out _).mono ?_
   rintro e w' ⟨rfl,q,rfl⟩
   go_wp2_with fail
   go_ret2
   exact⟨rfl,HW.out.trans ((Below.ofDrewN _ _).mono HW.out.size)⟩
theorem qoq(s:ByteArray)(a:Nat)(hs:s.size<=1048576)(hlt:a+1<s.size)(h92:bt s a=92)(hnm:Hid (∀k,k<9->bt nmS k≠bt s (a+1)))(h8: ¬(48<=bt s (a+1)/\bt s (a+1)<=55))(hx:bt s (a+1)≠120)(hu:bt s (a+1)≠94)(v:Int)(n:Nat)(_hn:n<=4)(HR:Hid (qtx s ((a:Int)+1) v n))(h2:v<32):EscR s a (-1) 0:=by
 intro w
 have g0: ¬(s.size:Int)-1<=(a:Int):=by omega
 have gx:=get_bt s a (by omega)
 rw[h92]at gx
 clear h92
 have gc:=get_bt s (a+1) hlt
 have c0:=bt_nonneg s (a+1)
 have c1:=bt_le s (a+1)
 have gx2:=beq_false_of_ne hx
 have gu:=beq_false_of_ne hu
 obtain⟨c,hc⟩: ∃c,c=bt s (a+1):=⟨_,rfl⟩
 rw[<-hc]at gc c0 c1 hnm h8 gx2 gu
 clear hc hx hu
 by_cases h48:48<=c
 ·have h55: ¬c<=55:=by omega
  clear h8
  go_enter Tryz.func90,Tryz.ntmps90
  go_wp2_with fail
  go_loopg [9] 9 (fun gn i wr=> ∃k:Nat,gn=9-k/\k<=9/\i=.int .i64 k/\Hid (Below w.heap.size w wr))
  case atStart=>exact⟨0,rfl,zB _,rfl,zh ((Below.refl _ _).alloc (zA _) _)⟩
  case round=>
   obtain⟨k,hgn,hk,rfl,HW⟩:=hrel
   by_cases hk9:k<9
   ·have gk:=get_bt ({ data:= #[98,100,101,102,110,114,115,116,118] } :ByteArray) k hk9
    have g1:=beq_false_of_ne (hnm.out k hk9)
    rw[show bt ({ data:= #[98,100,101,102,110,114,115,116,118] } :ByteArray) k=bt nmS k from rfl]at gk
    obtain⟨x,hx⟩: ∃x,x=bt nmS k:=⟨_,rfl⟩
    rw[<-hx]at gk g1
    clear hx
    go_wp2_with fail
    go_roundg (9- (k+1))
    case measure=>omega
    case rel=>exact⟨k+1,rfl,hk9,by go_num,HW⟩
   ·go_wp2_with fail
    refine(HR.out _).mono ?_
    rintro e w' ⟨rfl,q,rfl⟩
    go_wp2_with fail
    go_ret2
    exact⟨rfl,HW.out.trans ((Below.ofDrewN _ _).mono HW.out.size)⟩
 ·clear h8
  go_enter Tryz.func90,Tryz.ntmps90
  go_wp2_with fail
  go_loopg [9] 9 (fun gn i wr=> ∃k:Nat,gn=9-k/\k<=9/\i=.int .i64 k/\Hid (Below w.heap.size w wr))
  case atStart=>exact⟨0,rfl,zB _,rfl,zh ((Below.refl _ _).alloc (zA _) _)⟩
  case round=>
   obtain⟨k,hgn,hk,rfl,HW⟩:=hrel
   by_cases hk9:k<9
   ·have gk:=get_bt ({ data:= #[98,100,101,102,110,114,115,116,118] } :ByteArray) k hk9
    have g1:=beq_false_of_ne (hnm.out k hk9)
    rw[show bt ({ data:= #[98,100,101,102,110,114,115,116,118] } :ByteArray) k=bt nmS k from rfl]at gk
    obtain⟨x,hx⟩: ∃x,x=bt nmS k:=⟨_,rfl⟩
    rw[<-hx]at gk g1
    clear hx
    go_wp2_with fail
    go_roundg (9- (k+1))
    case measure=>omega
    case rel=>exact⟨k+1,rfl,hk9,by go_num,HW⟩
   ·go_wp2_with fail
    refine(HR.out _).mono ?_
    rintro e w' ⟨rfl,q,rfl⟩
    go_wp2_with fail
    go_ret2
    exact⟨rfl,HW.out.trans ((Below.ofDrewN _ _).mono HW.out.size)⟩
theorem qor(s:ByteArray)(a:Nat)(hs:s.size<=1048576)(hlt:a+1<s.size)(h92:bt s a=92)(hnm:Hid (∀k,k<9->bt nmS k≠bt s (a+1)))(h8: ¬(48<=bt s (a+1)/\bt s (a+1)<=55))(hx:bt s (a+1)≠120)(hu:bt s (a+1)≠94)(v:Int)(n:Nat)(hn:n<=4)(HR:Hid (qtx s ((a:Int)+1) v n))(h2:32<=v):EscR s a v (1+n):=by
 intro w
 have g0: ¬(s.size:Int)-1<=(a:Int):=by omega
 have gx:=get_bt s a (by omega)
 rw[h92]at gx
 clear h92
 have gc:=get_bt s (a+1) hlt
 have c0:=bt_nonneg s (a+1)
 have c1:=bt_le s (a+1)
 have gx2:=beq_false_of_ne hx
 have gu:=beq_false_of_ne hu
 obtain⟨c,hc⟩: ∃c,c=bt s (a+1):=⟨_,rfl⟩
 rw[<-hc]at gc c0 c1 hnm h8 gx2 gu
 clear hc hx hu
 by_cases h48:48<=c
 ·have h55: ¬c<=55:=by omega
  clear h8
  go_enter Tryz.func90,Tryz.ntmps90
  go_wp2_with fail
  go_loopg [9] 9 (fun gn i wr=> ∃k:Nat,gn=9-k/\k<=9/\i=.int .i64 k/\Hid (Below w.heap.size w wr))
  case atStart=>exact⟨0,rfl,zB _,rfl,zh ((Below.refl _ _).alloc (zA _) _)⟩
  case round=>
   obtain⟨k,hgn,hk,rfl,HW⟩:=hrel
   by_cases hk9:k<9
   ·have gk:=get_bt ({ data:= #[98,100,101,102,110,114,115,116,118] } :ByteArray) k hk9
    have g1:=beq_false_of_ne (hnm.out k hk9)
    rw[show bt ({ data:= #[98,100,101,102,110,114,115,116,118] } :ByteArray) k=bt nmS k from rfl]at gk
    obtain⟨x,hx⟩: ∃x,x=bt nmS k:=⟨_,rfl⟩
    rw[<-hx]at gk g1
    clear hx
    go_wp2_with fail
    go_roundg (9- (k+1))
    case measure=>omega
    case rel=>exact⟨k+1,rfl,hk9,by go_num,HW⟩
   ·go_wp2_with fail
    refine(HR.out _).mono ?_
    rintro e w' ⟨rfl,q,rfl⟩
    go_wp2_with fail
    go_ret2
    exact⟨rfl,HW.out.trans ((Below.ofDrewN _ _).mono HW.out.size)⟩
 ·clear h8
  go_enter Tryz.func90,Tryz.ntmps90
  go_wp2_with fail
  go_loopg [9] 9 (fun gn i wr=> ∃k:Nat,gn=9-k/\k<=9/\i=.int .i64 k/\Hid (Below w.heap.size w wr))
  case atStart=>exact⟨0,rfl,zB _,rfl,zh ((Below.refl _ _).alloc (zA _) _)⟩
  case round=>
   obtain⟨k,hgn,hk,rfl,HW⟩:=hrel
   by_cases hk9:k<9
   ·have gk:=get_bt ({ data:= #[98,100,101,102,110,114,115,116,118] } :ByteArray) k hk9
    have g1:=beq_false_of_ne (hnm.out k hk9)
    rw[show bt ({ data:= #[98,100,101,102,110,114,115,116,118] } :ByteArray) k=bt nmS k from rfl]at gk
    obtain⟨x,hx⟩: ∃x,x=bt nmS k:=⟨_,rfl⟩
    rw[<-hx]at gk g1
    clear hx
    go_wp2_with fail
    go_roundg (9- (k+1))
    case measure=>omega
    case rel=>exact⟨k+1,rfl,hk9,by go_num,HW⟩
   ·go_wp2_with fail
    refine(HR.out _).mono ?_
    rintro e w' ⟨rfl,q,rfl⟩
    go_wp2_with fail
    go_ret2
    exact⟨rfl,HW.out.trans ((Below.ofDrewN _ _).mono HW.out.size)⟩
theorem qon(s:ByteArray)(a:Nat)(hs:s.size<=1048576)(hlt:a+1<s.size)(h92:bt s a=92)(hnm:Hid (∀k,k<9->bt nmS k≠bt s (a+1)))(hx:bt s (a+1)=94)(hb:s.size<=a+2):EscR s a (-1) 0:=by
 intro w
 have g0: ¬(s.size:Int)-1<=(a:Int):=by omega
 have gx:=get_bt s a (by omega)
 rw[h92]at gx
 clear h92
 have gc:=get_bt s (a+1) hlt
 have c0:=bt_nonneg s (a+1)
 have c1:=bt_le s (a+1)
 rw[hx]at gc hnm
 clear hx c0 c1
 go_enter Tryz.func90,Tryz.ntmps90
 go_wp2_with fail
 go_loopg [9] 9 (fun gn i wr=> ∃k:Nat,gn=9-k/\k<=9/\i=.int .i64 k/\Hid (Below w.heap.size w wr))
 case atStart=>exact⟨0,rfl,zB _,rfl,zh ((Below.refl _ _).alloc (zA _) _)⟩
 case round=>
  obtain⟨k,hgn,hk,rfl,HW⟩:=hrel
  by_cases hk9:k<9
  ·have gk:=get_bt ({ data:= #[98,100,101,102,110,114,115,116,118] } :ByteArray) k hk9
   have g1:=beq_false_of_ne (hnm.out k hk9)
   rw[show bt ({ data:= #[98,100,101,102,110,114,115,116,118] } :ByteArray) k=bt nmS k from rfl]at gk
   obtain⟨x,hx⟩: ∃x,x=bt nmS k:=⟨_,rfl⟩
   rw[<-hx]at gk g1
   clear hx
   go_wp2_with fail
   go_roundg (9- (k+1))
   case measure=>omega
   case rel=>exact⟨k+1,rfl,hk9,by go_num,HW⟩
  ·go_wp2_with fail
   go_ret2
   exact⟨rfl,HW.out⟩
theorem qoo(s:ByteArray)(a:Nat)(hs:s.size<=1048576)(hlt:a+1<s.size)(h92:bt s a=92)(hnm:Hid (∀k,k<9->bt nmS k≠bt s (a+1)))(hx:bt s (a+1)=94)(hlt2:a+2<s.size)(h:bt s (a+2)<64\/bt s (a+2)=96\/122<bt s (a+2)):EscR s a (-1) 0:=by
 intro w
 have g0: ¬(s.size:Int)-1<=(a:Int):=by omega
 have gx:=get_bt s a (by omega)
 rw[h92]at gx
 clear h92
 have gc:=get_bt s (a+1) hlt
 have c0:=bt_nonneg s (a+1)
 have c1:=bt_le s (a+1)
 rw[hx]at gc hnm
 clear hx c0 c1
 have gd:=get_bt s (a+2) hlt2
 have d0:=bt_nonneg s (a+2)
 have d1:=bt_le s (a+2)
 have e31:=qfy (bt s (a+2)) d0 (by omega)
 obtain⟨d,hd⟩: ∃d,d=bt s (a+2):=⟨_,rfl⟩
 rw[<-hd]at gd d0 d1 e31 h
 clear hd
 rcases h with h | h | h
 ·have h1: ¬97<=d:=by omega
  go_enter Tryz.func90,Tryz.ntmps90
  go_wp2_with fail
  go_loopg [9] 9 (fun gn i wr=> ∃k:Nat,gn=9-k/\k<=9/\i=.int .i64 k/\Hid (Below w.heap.size w wr))
  case atStart=>exact⟨0,rfl,zB _,rfl,zh ((Below.refl _ _).alloc (zA _) _)⟩
  case round=>
   obtain⟨k,hgn,hk,rfl,HW⟩:=hrel
   by_cases hk9:k<9
   ·have gk:=get_bt ({ data:= #[98,100,101,102,110,114,115,116,118] } :ByteArray) k hk9
    have g1:=beq_false_of_ne (hnm.out k hk9)
    rw[show bt ({ data:= #[98,100,101,102,110,114,115,116,118] } :ByteArray) k=bt nmS k from rfl]at gk
    obtain⟨x,hx⟩: ∃x,x=bt nmS k:=⟨_,rfl⟩
    rw[<-hx]at gk g1
    clear hx
    go_wp2_with fail
    go_roundg (9- (k+1))
    case measure=>omega
    case rel=>exact⟨k+1,rfl,hk9,by go_num,HW⟩
   ·go_wp2_with fail
    go_ret2
    exact⟨rfl,HW.out⟩
 ·subst h
  go_enter Tryz.func90,Tryz.ntmps90
  go_wp2_with fail
  go_loopg [9] 9 (fun gn i wr=> ∃k:Nat,gn=9-k/\k<=9/\i=.int .i64 k/\Hid (Below w.heap.size w wr))
  case atStart=>exact⟨0,rfl,zB _,rfl,zh ((Below.refl _ _).alloc (zA _) _)⟩
  case round=>
   obtain⟨k,hgn,hk,rfl,HW⟩:=hrel
   by_cases hk9:k<9
   ·have gk:=get_bt ({ data:= #[98,100,101,102,110,114,115,116,118] } :ByteArray) k hk9
    have g1:=beq_false_of_ne (hnm.out k hk9)
    rw[show bt ({ data:= #[98,100,101,102,110,114,115,116,118] } :ByteArray) k=bt nmS k from rfl]at gk
    obtain⟨x,hx⟩: ∃x,x=bt nmS k:=⟨_,rfl⟩
    rw[<-hx]at gk g1
    clear hx
    go_wp2_with fail
    go_roundg (9- (k+1))
    case measure=>omega
    case rel=>exact⟨k+1,rfl,hk9,by go_num,HW⟩
   ·go_wp2_with fail
    go_ret2
    exact⟨rfl,HW.out⟩
 ·have h1: ¬d<=122:=by omega
  have h2: ¬d<=95:=by omega
  have h3:64<=d:=by omega
  have h4:97<=d:=by omega
  clear h
  go_enter Tryz.func90,Tryz.ntmps90
  go_wp2_with fail
  go_loopg [9] 9 (fun gn i wr=> ∃k:Nat,gn=9-k/\k<=9/\i=.int .i64 k/\Hid (Below w.heap.size w wr))
  case atStart=>exact⟨0,rfl,zB _,rfl,zh ((Below.refl _ _).alloc (zA _) _)⟩
  case round=>
   obtain⟨k,hgn,hk,rfl,HW⟩:=hrel
   by_cases hk9:k<9
   ·have gk:=get_bt ({ data:= #[98,100,101,102,110,114,115,116,118] } :ByteArray) k hk9
    have g1:=beq_false_of_ne (hnm.out k hk9)
    rw[show bt ({ data:= #[98,100,101,102,110,114,115,116,118] } :ByteArray) k=bt nmS k from rfl]at gk
    obtain⟨x,hx⟩: ∃x,x=bt nmS k:=⟨_,rfl⟩
    rw[<-hx]at gk g1
    clear hx
    go_wp2_with fail
    go_roundg (9- (k+1))
    case measure=>omega
    case rel=>exact⟨k+1,rfl,hk9,by go_num,HW⟩
   ·go_wp2_with fail
    go_ret2
    exact⟨rfl,HW.out⟩
    exfalso
    rename_i hh
    have h5:=hh.2
    simp at h5
    omega
theorem qop(s:ByteArray)(a:Nat)(hs:s.size<=1048576)(hlt:a+1<s.size)(h92:bt s a=92)(hnm:Hid (∀k,k<9->bt nmS k≠bt s (a+1)))(hx:bt s (a+1)=94)(hlt2:a+2<s.size)(h:(64<=bt s (a+2)/\bt s (a+2)<=95)\/(97<=bt s (a+2)/\bt s (a+2)<=122)):EscR s a (bt s (a+2) % 32) 3:=by
 intro w
 have g0: ¬(s.size:Int)-1<=(a:Int):=by omega
 have gx:=get_bt s a (by omega)
 rw[h92]at gx
 clear h92
 have gc:=get_bt s (a+1) hlt
 have c0:=bt_nonneg s (a+1)
 have c1:=bt_le s (a+1)
 rw[hx]at gc hnm
 clear hx c0 c1
 have gd:=get_bt s (a+2) hlt2
 have d0:=bt_nonneg s (a+2)
 have d1:=bt_le s (a+2)
 have e31:=qfy (bt s (a+2)) d0 (by omega)
 obtain⟨d,hd⟩: ∃d,d=bt s (a+2):=⟨_,rfl⟩
 rw[<-hd]at gd d0 d1 e31 h⊢
 clear hd
 rcases h with⟨h,h'⟩ | ⟨h,h'⟩
 ·have h1: ¬97<=d:=by omega
  go_enter Tryz.func90,Tryz.ntmps90
  go_wp2_with fail
  go_loopg [9] 9 (fun gn i wr=> ∃k:Nat,gn=9-k/\k<=9/\i=.int .i64 k/\Hid (Below w.heap.size w wr))
  case atStart=>exact⟨0,rfl,zB _,rfl,zh ((Below.refl _ _).alloc (zA _) _)⟩
  case round=>
   obtain⟨k,hgn,hk,rfl,HW⟩:=hrel
   by_cases hk9:k<9
   ·have gk:=get_bt ({ data:= #[98,100,101,102,110,114,115,116,118] } :ByteArray) k hk9
    have g1:=beq_false_of_ne (hnm.out k hk9)
    rw[show bt ({ data:= #[98,100,101,102,110,114,115,116,118] } :ByteArray) k=bt nmS k from rfl]at gk
    obtain⟨x,hx⟩: ∃x,x=bt nmS k:=⟨_,rfl⟩
    rw[<-hx]at gk g1
    clear hx
    go_wp2_with fail
    go_roundg (9- (k+1))
    case measure=>omega
    case rel=>exact⟨k+1,rfl,hk9,by go_num,HW⟩
   ·go_wp2_with fail
    go_ret2
    exact⟨rfl,HW.out⟩
 ·have h1: ¬d<=95:=by omega
  have h2:64<=d:=by omega
  go_enter Tryz.func90,Tryz.ntmps90
  go_wp2_with fail
  go_loopg [9] 9 (fun gn i wr=> ∃k:Nat,gn=9-k/\k<=9/\i=.int .i64 k/\Hid (Below w.heap.size w wr))
  case atStart=>exact⟨0,rfl,zB _,rfl,zh ((Below.refl _ _).alloc (zA _) _)⟩
  case round=>
   obtain⟨k,hgn,hk,rfl,HW⟩:=hrel
   by_cases hk9:k<9
   ·have gk:=get_bt ({ data:= #[98,100,101,102,110,114,115,116,118] } :ByteArray) k hk9
    have g1:=beq_false_of_ne (hnm.out k hk9)
    rw[show bt ({ data:= #[98,100,101,102,110,114,115,116,118] } :ByteArray) k=bt nmS k from rfl]at gk
    obtain⟨x,hx⟩: ∃x,x=bt nmS k:=⟨_,rfl⟩
    rw[<-hx]at gk g1
    clear hx
    go_wp2_with fail
    go_roundg (9- (k+1))
    case measure=>omega
    case rel=>exact⟨k+1,rfl,hk9,by go_num,HW⟩
   ·go_wp2_with fail
    go_ret2
    exact⟨rfl,HW.out⟩
theorem runm(s:ByteArray)(j:Nat)(b:Int)(m:Nat)(hj:j<=s.size)(hs:s.size<=1048576)(hb:0<=b)(hb':b<=16)(hm:m<=6):RunM s j b m (rv s b m j 0) (rc s b m j):=fun W=>qsa s j b m hj hs hb hb' hm W
theorem bt_lt'{s:ByteArray}{k:Nat}(h:bt s k≠0):k<s.size:=by
 apply Classical.byContradiction
 intro h'
 exact h (bt_end s (by omega))
theorem qs4(s:ByteArray)(a:Nat)(hs:s.size<=1048576):EscR s a (esc s a).1 (esc s a).2:=by
 by_cases hin:a+1<s.size/\bt s a=92
 ·obtain⟨hlt,h92⟩:=hin
  by_cases hK: ∃K,K<9/\bt nmS K=bt s (a+1)
  ·obtain⟨K,hK,hKc⟩:=hK
   have e:=qkr hlt h92 hK hKc
   rw[e]
   exact qos s a hs hlt h92 _ (fun k hk hkc=>by
    have e2:=qkr hlt h92 hk hkc
    rw[e]at e2
    exact(congrArg Prod.fst e2).symm) K hK hKc
  have hnm: ∀k,k<9->bt nmS k≠bt s (a+1):=fun k hk h=>hK ⟨k,hk,h⟩
  by_cases h8:48<=bt s (a+1)/\bt s (a+1)<=55
  ·rw[qr0 hlt h92 h8.1 h8.2]
   have h:=qs5 s a hs hlt h92 hnm h8.1 h8.2 _ _ (qgq s 8 3 (a+1)) (runm s (a+1) 8 3 (by omega) hs (by omega) (by omega) (by omega))
   rw[show((1+rc s 8 3 (a+1):Nat):Int)=1+(rc s 8 3 (a+1):Nat)by omega]
   exact h
  by_cases hx:bt s (a+1)=120
  ·by_cases hb:bt s (a+2)=123
   ·have hlt2:a+2<s.size:=bt_lt' (by omega)
    rw[esc_xo hlt h92 hx hb]
    have HR:=zh (runm s (a+3) 16 6 hlt2 hs (by omega) (by omega) (by omega))
    have hn:=qgq s 16 6 (a+3)
    by_cases c1:rc s 16 6 (a+3)=0
    ·rw[if_pos (.inl c1)]
     exact qou s a hs hlt h92 hnm hx hlt2 hb _ _ hn HR c1
    by_cases c2:a+3+rc s 16 6 (a+3)<s.size
    ·by_cases c3:bt s (a+3+rc s 16 6 (a+3))=125
     ·cases hp:isPt (rv s 16 6 (a+3) 0)
      ·rw[if_pos (.inr (.inr rfl))]
       exact qox s a hs hlt h92 hnm hx hlt2 hb _ _ hn HR (by omega) c2 c3 hp
      ·rw[if_neg (by
        rintro(h' | h' | h')
        ·exact c1 h'
        ·exact h' c3
        ·cases h')]
       have h:=qoy s a hs hlt h92 hnm hx hlt2 hb _ _ hn HR (by omega) c2 c3 hp
       rw[show((4+rc s 16 6 (a+3):Nat):Int)=4+(rc s 16 6 (a+3):Nat)by omega]
       exact h
     ·rw[if_pos (.inr (.inl c3))]
      exact qow s a hs hlt h92 hnm hx hlt2 hb _ _ hn HR (by omega) c2 c3
    ·rw[if_pos (.inr (.inl (by rw[bt_end s (by omega)];omega)))]
     exact qov s a hs hlt h92 hnm hx hlt2 hb _ _ hn HR (by omega) (by omega)
   ·rw[esc_xx hlt h92 hx hb]
    have HR:=zh (runm s (a+2) 16 2 hlt hs (by omega) (by omega) (by omega))
    have hn:=qgq s 16 2 (a+2)
    by_cases c1:rc s 16 2 (a+2)<2
    ·rw[if_pos c1]
     by_cases hlt2:a+2<s.size
     ·exact qp1 s a hs hlt h92 hnm hx _ _ hn HR hlt2 hb c1
     ·exact qoz s a hs hlt h92 hnm hx _ _ hn HR (by omega) c1
    ·rw[if_neg c1]
     by_cases hlt2:a+2<s.size
     ·exact qp2 s a hs hlt h92 hnm hx _ _ hn HR hlt2 hb (by omega)
     ·exact qp0 s a hs hlt h92 hnm hx _ _ hn HR (by omega) (by omega)
  by_cases hu:bt s (a+1)=94
  ·rw[qu8 hlt h92 hu]
   by_cases hlt2:a+2<s.size
   ·by_cases c1:(64<=bt s (a+2)/\bt s (a+2)<=95)\/(97<=bt s (a+2)/\bt s (a+2)<=122)
    ·rw[if_pos c1]
     exact qop s a hs hlt h92 hnm hu hlt2 c1
    ·rw[if_neg c1]
     exact qoo s a hs hlt h92 hnm hu hlt2 (by omega)
   ·rw[if_neg (by rw[bt_end s (by omega)];omega)]
    exact qon s a hs hlt h92 hnm hu (by omega)
  ·rw[qqz hlt h92 h8 hx hu (qv6 hnm)]
   have HR:qtx s ((a:Int)+1) (nc s (a+1)) (nl s (a+1)):=fun W=>qdr s (a+1) W hlt (by unfold maxLen;omega)
   have hn:=qo2 s (a+1)
   by_cases c1:nc s (a+1)<32
   ·rw[if_pos c1]
    exact qoq s a hs hlt h92 hnm h8 hx hu _ _ hn HR c1
   ·rw[if_neg c1]
    have h:=qor s a hs hlt h92 hnm h8 hx hu _ _ hn HR (by omega)
    rw[show((1+nl s (a+1):Nat):Int)=1+(nl s (a+1):Nat)by omega]
    exact h
 ·rw[qu9 hin]
  by_cases h1:a+1<s.size
  ·exact qot s a h1 (fun h=>hin ⟨h1,h⟩) hs
  ·exact qm4 s a (by omega) hs
end Go.Proofs.YtdhadeeajgoedaaGreat
