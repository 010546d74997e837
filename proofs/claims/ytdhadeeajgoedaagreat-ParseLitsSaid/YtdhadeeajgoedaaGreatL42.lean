import Derived.Test.YtdhadeeajgoedaaGreatL20
import Derived.Test.YtdhadeeajgoedaaGreatL41
set_option maxRecDepth 100000
set_option maxHeartbeats 4000000
set_option linter.all false
open Go.RowKit.Below renaming drew→zA
open List renaming getD_eq_getElem?_getD→zB,getElem?_eq_getElem→zC,setIfInBounds_toArray→zD,set_cons_succ→zE,set_cons_zero→zF,set_set→zG
open Nat renaming le_trans→zH,zero_le→zI
namespace Go.Proofs.YtdhadeeajgoedaaGreat
open Go.RowKit Go.PlainAid
def qbu(lv:Int)(k:Nat)(A:List ByteArray):Chn:= { lv:=lv,ct:=k,ah:=A,hs:=if A=[]then 11 else 10 }
def qb9(σ:PM)(c:Nat)(lv:Int)(i k:Nat)(A:List ByteArray):PM:= { σ.setC c (qbu lv k A)with i:=i }
def qm9(E:Env)(lv:Int)(c:Nat)(σ:PM):Rs PM:=do
 let a<-ctL E lv (E.to+2) σ.i 0
 let b<-pfL E (E.to+2) a.2 []
 .ok (({ σ.setC c { qbu lv a.1 b.1 with st:=E.sign (pz b.2) [40] } with i:=b.2 } :PM).plan [.prim,.folw c])
def begJ(W0:World)(g:Nat)(s:ByteArray)(E:Env)(tv:Value)(W:World)(L:PLay)(σ:PM)(c:Nat)(lv:Int)(l m:Nat)(a':Act)(w':World):Prop:=
 ∃(i k:Nat) (A:List ByteArray) (M:PLay),Hid (MM W0 g s E tv w' M (qb9 σ c lv i k A))/\Hid (MX W0.heap.size W L σ.N.length σ.C.length w' M (qb9 σ c lv i k A).N.length (qb9 σ c lv i k A).C.length)/\Hid (M.B c=L.B c)/\Hid (k<=i/\A.length<=i)/\
  ((l=0/\A=[]/\ ∃f,m=f+E.to+3/\Hid (ctL E lv f i k=ctL E lv (E.to+2) σ.i 0))\/(l=1/\ ∃f i0,m=f/\Hid (ctL E lv (E.to+2) σ.i 0=.ok (k,i0))/\Hid (pfL E f i A=pfL E (E.to+2) i0 [])))/\
  Hid (a'.tmps.size=71/\a'.tmps[0]?=some (.pointer (some ⟨L.B c,0,none⟩))/\a'.defers=[])
theorem qkb(l:List Value):l=(List.range l.length).map (fun i=>l.getD i undef):=List.ext_getElem (by simp) (fun i h1 h2=>by simp[zB,h1])
theorem qpa{a':Act}{p:Value}(h:a'.tmps.size=71/\a'.tmps[0]?=some p/\a'.defers=[]): ∃us:Nat->Value,a'= { tmps:= #[p,us 1,us 2,us 3,us 4,us 5,us 6,us 7,us 8,us 9,us 10,us 11,us 12,us 13,us 14,us 15,us 16,us 17,us 18,us 19,us 20,us 21,us 22,us 23,us 24,us 25,us 26,us 27,us 28,us 29,us 30,us 31,us 32,us 33,us 34,us 35,us 36,us 37,us 38,us 39,us 40,us 41,us 42,us 43,us 44,us 45,us 46,us 47,us 48,us 49,us 50,us 51,us 52,us 53,us 54,us 55,us 56,us 57,us 58,us 59,us 60,us 61,us 62,us 63,us 64,us 65,us 66,us 67,us 68,us 69,us 70],defers:=[] } :=by
 obtain⟨⟨l⟩,d⟩:=a'
 obtain⟨h1,h2,h3⟩:=h
 replace h1:l.length=71:=h1
 replace h3:d=[]:=h3
 subst h3
 have e:=qkb l
 rw[h1]at e
 refine⟨fun i=>l.getD i undef,?_⟩
 have h4:l[0]?=some p:=by simpa using h2
 have h5:l.getD 0 undef=p:=by rw[zB,h4];rfl
 rw[<-h5]
 show({ tmps:=⟨l⟩,defers:=[] } :Act)= { tmps:=⟨(List.range 71).map (fun i=>l.getD i undef)⟩,defers:=[] }
 rw[<-e]
section
variable{W0 W:World}{g:Nat}{s:ByteArray}{E:Env}{tv:Value}{L:PLay}{σ:PM}
theorem begJ_1{W':World}{c:Nat}{lv:Int}{m:Nat}{a':Act}(h:begJ W0 g s E tv W L σ c lv 1 m a' W'): ∃(i k:Nat) (A:List ByteArray) (M:PLay) (i0:Nat),Hid (MM W0 g s E tv W' M (qb9 σ c lv i k A))/\Hid (MX W0.heap.size W L σ.N.length σ.C.length W' M (qb9 σ c lv i k A).N.length (qb9 σ c lv i k A).C.length)/\Hid (M.B c=L.B c)/\Hid (k<=i/\A.length<=i)/\Hid (ctL E lv (E.to+2) σ.i 0=.ok (k,i0))/\Hid (pfL E m i A=pfL E (E.to+2) i0 [])/\
 ∃us:Nat->Value,a'= { tmps:= #[.pointer (some ⟨L.B c,0,none⟩),us 1,us 2,us 3,us 4,us 5,us 6,us 7,us 8,us 9,us 10,us 11,us 12,us 13,us 14,us 15,us 16,us 17,us 18,us 19,us 20,us 21,us 22,us 23,us 24,us 25,us 26,us 27,us 28,us 29,us 30,us 31,us 32,us 33,us 34,us 35,us 36,us 37,us 38,us 39,us 40,us 41,us 42,us 43,us 44,us 45,us 46,us 47,us 48,us 49,us 50,us 51,us 52,us 53,us 54,us 55,us 56,us 57,us 58,us 59,us 60,us 61,us 62,us 63,us 64,us 65,us 66,us 67,us 68,us 69,us 70],defers:=[] } :=by
 obtain⟨i,k,A,M,h1,h2,h3,h4,h | ⟨-,f,i0,e,h5,h6⟩,h9⟩:=h
 ·cases h.1
 ·subst e
  exact⟨i,k,A,M,i0,h1,h2,h3,h4,h5,h6,qpa h9.out⟩
theorem begJ_0{W':World}{c:Nat}{lv:Int}{m:Nat}{a':Act}(h:begJ W0 g s E tv W L σ c lv 0 m a' W'): ∃(i k:Nat) (M:PLay) (f:Nat),m=f+E.to+3/\Hid (MM W0 g s E tv W' M (qb9 σ c lv i k []))/\Hid (MX W0.heap.size W L σ.N.length σ.C.length W' M (qb9 σ c lv i k []).N.length (qb9 σ c lv i k []).C.length)/\Hid (M.B c=L.B c)/\Hid (k<=i)/\Hid (ctL E lv f i k=ctL E lv (E.to+2) σ.i 0)/\
 ∃us:Nat->Value,a'= { tmps:= #[.pointer (some ⟨L.B c,0,none⟩),us 1,us 2,us 3,us 4,us 5,us 6,us 7,us 8,us 9,us 10,us 11,us 12,us 13,us 14,us 15,us 16,us 17,us 18,us 19,us 20,us 21,us 22,us 23,us 24,us 25,us 26,us 27,us 28,us 29,us 30,us 31,us 32,us 33,us 34,us 35,us 36,us 37,us 38,us 39,us 40,us 41,us 42,us 43,us 44,us 45,us 46,us 47,us 48,us 49,us 50,us 51,us 52,us 53,us 54,us 55,us 56,us 57,us 58,us 59,us 60,us 61,us 62,us 63,us 64,us 65,us 66,us 67,us 68,us 69,us 70],defers:=[] } :=by
 obtain⟨i,k,A,M,h1,h2,h3,h4,⟨-,rfl,f,e,h5⟩ | h,h9⟩:=h
 ·exact⟨i,k,M,f,e,h1,h2,h3,zh h4.out.1,h5,qpa h9.out⟩
 ·cases h.1
theorem qom{c:Nat}{lv:Int}{i k:Nat}{A:List ByteArray}{x:Chn}(hc:σ.C[c]?=some x):(qb9 σ c lv i k A).C[c]?=some (qbu lv k A):=qb2 hc
theorem qw9{c:Nat}{lv:Int}(hc:σ.C[c]?=some { lv:=lv }):qb9 σ c lv σ.i 0 []=σ:=by
 obtain⟨hl,e⟩:=List.getElem?_eq_some_iff.1 hc
 show({ σ with C:=σ.C.set c _ } :PM)=σ
 have:σ.C.set c (qbu lv 0 [])=σ.C:=by
  show σ.C.set c ({ lv:=lv } :Chn)=σ.C
  rw[<-e];exact List.set_getElem_self hl
 rw[this]
theorem qon{c:Nat}{lv:Int}{i k j:Nat}:((qb9 σ c lv i k []).at_ j).setC c { qbu lv k []with ct:=k+1 } =qb9 σ c lv j (k+1) []:=by
 simp[qb9,qbu,PM.setC,PM.at_,zG]
theorem qf4{c:Nat}{lv:Int}{i k j:Nat}{A:List ByteArray}{t:ByteArray}:((qb9 σ c lv i k A).at_ j).setC c { qbu lv k A with ah:=A++[t],hs:=10 } =qb9 σ c lv j k (A++[t]):=by
 simp[qb9,qbu,PM.setC,PM.at_,zG]
theorem qkr{c:Nat}{lv:Int}{i k:Nat}{A:List ByteArray}{b:Bool}:(qb9 σ c lv i k A).setC c { qbu lv k A with st:=b } =({ σ.setC c { qbu lv k A with st:=b } with i:=i } :PM):=by
 simp[qb9,PM.setC,zG]
theorem ct_die{E:Env}{lv:Int}{f i k:Nat}{b:Bad}(h1:lv<=0)(h:sgE E 8 [99,97,116,99,104] i=.error b):ctL E lv (f+1) i k=.error .die:=by
 unfold sgE at h
 split at h
 ·rename_i hw
  unfold ctL
  rw[if_pos (by rw[decide_eq_true h1];exact hw)]
  cases ht:tkE E i with
  | error e=>rw[qsw ht];rfl
  | ok j=>rw[ht]at h;cases h
 ·cases h
theorem ct_no{E:Env}{lv:Int}{f i j k:Nat}(h:sgE E 8 [99,97,116,99,104] i=.ok (false,j)):ctL E lv (f+1) i k=.ok (k,i):=by
 unfold sgE at h
 split at h
 ·cases ht:tkE E i with
  | error e=>rw[ht]at h;cases h
  | ok j=>rw[ht]at h;cases h
 ·rename_i hw
  unfold ctL
  rw[if_neg (by rw[Bool.and_eq_true];exact fun e=>hw e.2)]
theorem ct_not{E:Env}{lv:Int}{f i k:Nat}(h: ¬lv<=0):ctL E lv (f+1) i k=.ok (k,i):=by
 unfold ctL
 rw[if_neg (by rw[decide_eq_false h];exact Bool.false_ne_true)]
theorem ct_yes{E:Env}{lv:Int}{f i j k:Nat}(h1:lv<=0)(h:sgE E 8 [99,97,116,99,104] i=.ok (true,j)):ctL E lv (f+1) i k=ctL E lv f j (k+1)/\j=i+1:=by
 unfold sgE at h
 split at h
 ·rename_i hw
  cases ht:tkE E i with
  | error e=>rw[ht]at h;cases h
  | ok q=>
   rw[ht]at h
   have hq:q=j:=by cases h;rfl
   subst hq
   refine⟨?_,?_⟩
   ·conv=>lhs;unfold ctL
    rw[if_pos (by rw[decide_eq_true h1];exact hw),ht];rfl
   ·unfold tkE at ht
    split at ht
    ·cases ht;rfl
    ·cases ht
 ·cases h
theorem qle{E:Env}{i:Nat}(h: ¬pf (opE E i).toList=0):E.pk i<E.to:=by
 have h1:(nxE E i).1=9\/(nxE E i).1=8:=by
  unfold opE at h
  by_cases e:(nxE E i).1=9\/(nxE E i).1=8
  ·exact e
  ·rw[if_neg e]at h
   exact absurd (by rw[ByteArray.toList_eq];decide) h
 by_cases e:E.pk i<E.to
 ·exact e
 ·rw[qht e]at h1
  rcases h1 with h1 | h1<;>cases h1
theorem qzh{E:Env}{f i:Nat}{A:List ByteArray}(h:pf (opE E i).toList=0):pfL E (f+1) i A=.ok (A,i):=by
 unfold pfL
 rw[if_neg (by omega)]
theorem qqy{E:Env}{f i j:Nat}{A:List ByteArray}(h: ¬pf (opE E i).toList=0)(ht:tkE E i=.ok j):pfL E (f+1) i A=pfL E f j (A++[opE E i])/\j=i+1:=by
 refine⟨?_,?_⟩
 ·conv=>lhs;unfold pfL
  rw[if_pos (by omega),ht];rfl
 ·unfold tkE at ht
  split at ht
  ·cases ht;rfl
  ·cases ht
theorem qqv{E:Env}{f i:Nat}{A:List ByteArray}{b:Bad}(h: ¬pf (opE E i).toList=0)(ht:tkE E i=.error b):pfL E (f+1) i A=.error .die:=by
 rw[qsw ht]at ht
 unfold pfL
 rw[if_pos (by omega),ht];rfl
theorem beginM(h:MM W0 g s E tv W L σ)(hk:σ.k.length<=274877906944)(c:Nat)(lv:Int)(hc:σ.C[c]?=some { lv:=lv })(hns:qm9 E lv c σ≠ .error .stuck):
 Calls Tryz.prog 64 #[.pointer (some ⟨L.B c,0,none⟩)] W (SO (qm9 E lv c σ) W0 g s E tv W L σ.N.length σ.C.length):=by
 obtain⟨R,hR⟩: ∃R:Rs PM,R=qm9 E lv c σ:=⟨_,rfl⟩
 rw[<-hR]at hns⊢
 have HNS:=zh hns
 have HR:=zh hR
 have HK:=zh hk
 have HCC:=zh hc
 have HI:Hid (begJ W0 g s E tv W L σ c lv 0 (E.to+2+E.to+3) { tmps:= #[.pointer (some ⟨L.B c,0,none⟩),undef,undef,undef,undef,undef,undef,undef,undef,undef,undef,undef,undef,undef,undef,undef,undef,undef,undef,undef,undef,undef,undef,undef,undef,undef,undef,undef,undef,undef,undef,undef,undef,undef,undef,undef,undef,undef,undef,undef,undef,undef,undef,undef,undef,undef,undef,undef,undef,undef,undef,undef,undef,undef,undef,undef,undef,undef,undef,undef,undef,undef,undef,undef,undef,undef,undef,undef,undef,undef,undef],defers:=[] } W):=zh ⟨σ.i,0,[],L,zh (by rw[qw9 hc];exact h),zh (by rw[qw9 hc];exact MX.refl _ _ _ _ _),zh rfl,zh ⟨zI _,zI _⟩,.inl ⟨rfl,rfl,E.to+2,rfl,zh rfl⟩,zh ⟨rfl,rfl,rfl⟩⟩
 clear h hk hc hns hR
 go_enter Tryz.func64,Tryz.ntmps64
 go_wp2_with fail
 refine qm5 (begJ W0 g s E tv W L σ c lv) rfl rfl ?_ ?_ ?_ ?_
 ·rintro l m a w ⟨_,_,_,_,_,_,_,_,h | h,_⟩
  ·exact .inl h.1
  ·exact .inr h.1
 ·intro m a' w' hj
  obtain⟨i,k,M,f,hm,H0,X0,HMB,HKJ,HCF,us,rfl⟩:=begJ_0 hj
  clear hj
  have HCX:Hid ((qb9 σ c lv i k []).C[c]?=some (qbu lv k [])):=zh (qom HCC.out)
  rcases f with _ | f
  ·exact absurd (by rw[HR.out];unfold qm9;rw[<-HCF.out];rfl) HNS.out
  obtain⟨caz,ccz,aaz,acz,⟨c0_z,c1_z,c2_z,c3_z⟩,hT2_z,hT3_z,hz_z,hP2_z,hP3_z⟩:=MM.caA (σ:=(qb9 σ c lv i k [])) H0.out HCX.out
  rw[HMB.out]at c0_z c1_z c2_z c3_z hP2_z hP3_z hz_z
  have HT2_z:=zh hT2_z
  have HT3_z:=zh hT3_z
  have HP2_z:=zh hP2_z
  have HP3_z:=zh hP3_z
  clear hT2_z hT3_z hP2_z hP3_z
  dsimp only[qbu]at c1_z c2_z c3_z
  by_cases hlv:lv<=0
  ·have hd:decide (lv<=0)=true:=decide_eq_true hlv
   have HLV:=zh hlv
   clear hlv
   go_wp2_with fail
   have q:=qjf (σ:=(qb9 σ c lv i k [])) H0.out [99,97,116,99,104]
   unfold ptr at q
   refine q.mono ?_
   clear q
   intro e w5 h9
   clear c0_z c1_z c2_z c3_z hz_z
   clear hd
   cases ht:sgE E 8 [99,97,116,99,104] i with
   | error b=>
    rw[show sgE E 8 [99,97,116,99,104] (qb9 σ c lv i k []).i=_ from ht]at h9
    obtain⟨⟨u,pv,rfl⟩,hb⟩:=h9
    have HB9:=zh hb
    have e9:R=.error .die:=by
     rw[HR.out];unfold qm9;rw[<-HCF.out,ct_die HLV.out ht];rfl
    subst e9
    clear hb ht
    go_wp2_with fail
    exact⟨rfl,⟨_,_,rfl⟩,HB9.out⟩
   | ok x=>
    obtain⟨b,j⟩:=x
    rw[show sgE E 8 [99,97,116,99,104] (qb9 σ c lv i k []).i=_ from ht]at h9
    obtain⟨rfl,hm5,hx5⟩:=h9
    have HT:=zh ht
    clear ht
    have H1:=zh hm5
    have Y1:=zh hx5
    have X1:=zh (X0.out.trans Y1.out)
    clear hm5 hx5
    cases b
    ·obtain rfl:i=j:=(qdu HT.out).symm
     go_wp2_with fail
     go_step3
     simp only[Exit.then]
     have HCX9:=HCX
     clear HCX
     obtain⟨A,i0,HKI,HCX,HCT,HPF,H9,X9⟩: ∃(A:List ByteArray) (i0:Nat),Hid (k<=i/\A.length<=i)/\Hid ((qb9 σ c lv i k A).C[c]?=some (qbu lv k A))/\Hid (ctL E lv (E.to+2) σ.i 0=.ok (k,i0))/\Hid (pfL E (E.to+1+1) i A=pfL E (E.to+2) i0 [])/\Hid (MM W0 g s E tv w5 M (qb9 σ c lv i k A))/\Hid (MX W0.heap.size W L σ.N.length σ.C.length w5 M (qb9 σ c lv i k A).N.length (qb9 σ c lv i k A).C.length):=⟨[],i,zh ⟨HKJ.out,zI _⟩,HCX9,zh (by rw[<-HCF.out];exact ct_no HT.out),zh rfl,H1,X1⟩
     clear HCX9
     obtain⟨caa,cca,aaa,aca,⟨c0_a,c1_a,c2_a,c3_a⟩,hT2_a,hT3_a,hz_a,hP2_a,hP3_a⟩:=MM.caA (σ:=(qb9 σ c lv i k A)) H9.out HCX.out
     rw[HMB.out]at c0_a c1_a c2_a c3_a hP2_a hP3_a hz_a
     have HT2_a:=zh hT2_a
     have HT3_a:=zh hT3_a
     have HP2_a:=zh hP2_a
     have HP3_a:=zh hP3_a
     clear hT2_a hT3_a hP2_a hP3_a
     dsimp only[qbu]at c1_a c2_a c3_a
     go_wp2_with fail
     have q2:=qv5 (σ:=(qb9 σ c lv i k A)) H9.out
     try unfold ptr at q2
     refine q2.mono ?_
     clear q2
     rintro e w2 ⟨rfl,hm,hx⟩
     have H2:=zh hm
     have Y2:=zh hx
     have X2:=zh (X9.out.trans Y2.out)
     clear hm hx
     clear c0_a c1_a c2_a c3_a hz_a
     go_wp2_with fail
     rw[show(qb9 σ c lv i k A).i=i from rfl]
     refine(qee _ _).mono ?_
     rintro e w3 ⟨rfl,hb⟩
     have H3:=zh (H2.out.below hb)
     have Y3:=zh (H2.out.mxb hb)
     have X3:=zh (X2.out.trans Y3.out)
     clear hb
     by_cases hp:pf (opE E i).toList=0
     ·have HR2:Hid (R=.ok ((({ σ.setC c { qbu lv k A with st:=E.sign (pz i) [40] } with i:=i } :PM)).plan [.prim,.folw c])):=zh (by
       rw[HR.out];unfold qm9;rw[HCT.out];show(pfL E (E.to+2) i0 [] >>= _)=_;rw[<-HPF.out,qzh hp];rfl)
      have e9:=HR2.out
      subst e9
      have hz1:(((pf (opE E i).toList:Nat):Int)==0)=true:=by rw[hp];rfl
      have hz2:((pf (opE E i).toList:Nat):Int)=0:=by rw[hp];rfl
      clear hp HR HR2
      obtain⟨cab,ccb,aab,acb,⟨c0_b,c1_b,c2_b,c3_b⟩,hT2_b,hT3_b,hz_b,hP2_b,hP3_b⟩:=MM.caA (σ:=(qb9 σ c lv i k A)) H3.out HCX.out
      rw[HMB.out]at c0_b c1_b c2_b c3_b hP2_b hP3_b hz_b
      have HT2_b:=zh hT2_b
      have HT3_b:=zh hT3_b
      have HP2_b:=zh hP2_b
      have HP3_b:=zh hP3_b
      clear hT2_b hT3_b hP2_b hP3_b
      dsimp only[qbu]at c1_b c2_b c3_b
      go_wp2_with fail
      have q4:=qcb (σ:=(qb9 σ c lv i k A)) H3.out [40]
      try unfold ptr at q4
      refine q4.mono ?_
      clear q4
      rintro e w4 ⟨rfl,hm,hx⟩
      have H4:=zh hm
      have Y4:=zh hx
      have X4:=zh (X3.out.trans Y4.out)
      clear hm hx
      clear c0_b c1_b c2_b c3_b hz_b
      obtain⟨cad,ccd,aad,acd,⟨c0_d,c1_d,c2_d,c3_d⟩,hT2_d,hT3_d,hz_d,hP2_d,hP3_d⟩:=MM.caA (σ:=(qb9 σ c lv i k A)) H4.out HCX.out
      rw[HMB.out]at c0_d c1_d c2_d c3_d hP2_d hP3_d hz_d
      have HT2_d:=zh hT2_d
      have HT3_d:=zh hT3_d
      have HP2_d:=zh hP2_d
      have HP3_d:=zh hP3_d
      clear hT2_d hT3_d hP2_d hP3_d
      dsimp only[qbu]at c1_d c2_d c3_d
      obtain⟨_,_,_,_,⟨-,-,-,-,c4_d,-,-⟩,-,-,-⟩:=MM.chall (σ:=(qb9 σ c lv i k A)) H4.out HCX.out
      rw[HMB.out]at c4_d
      dsimp only[qbu]at c4_d
      have hS:=MM.setSt (σ:=(qb9 σ c lv i k A)) H4.out HCX.out (E.sign (pz i) [40])
      rw[HMB.out,qkr]at hS
      have HS:=zh hS
      clear hS
      have hz4:=hz_d 4
      go_wp2_with fail
      rw[show(qb9 σ c lv i k A).i=i from rfl]
      clear c0_d c1_d c2_d c3_d hz_d
      clear c4_d hz4
      have H5:=zh HS.out.1
      have Y5:=zh HS.out.2
      have X5:=zh (X4.out.trans Y5.out)
      have HCY:Hid (({ σ.setC c { qbu lv k A with st:=E.sign (pz i) [40] } with i:=i } :PM).C[c]?=some { qbu lv k A with st:=E.sign (pz i) [40] }):=zh (qb2 HCC.out)
      have HCL:Hid (c< ({ σ.setC c { qbu lv k A with st:=E.sign (pz i) [40] } with i:=i } :PM).C.length):=zh (List.getElem?_eq_some_iff.1 HCY.out).1
      have HKP:Hid (∀(w':World) (M':PLay) (τ:PM),MM W0 g s E tv w' M' τ->M'.B c=L.B c->τ.C=({ σ.setC c { qbu lv k A with st:=E.sign (pz i) [40] } with i:=i } :PM).C->w'.cell? ⟨L.B c,0,none⟩=some (.pointer (some ⟨g,0,none⟩))):=zh (fun w' M' τ h e1 e2=>by
       obtain⟨_,_,_,_,⟨h1,-⟩,-⟩:=h.chall (c:=c) (by rw[e2];exact HCY.out)
       rw[e1]at h1;exact h1)
      have V6:=zh ((IsC.prim:IsC (w4.setCell ⟨L.B c,4,none⟩ (.bool (E.sign (pz i) [40]))) (M.P W0.heap.size) g M.A M.B ({ σ.setC c { qbu lv k A with st:=E.sign (pz i) [40] } with i:=i } :PM).N.length ({ σ.setC c { qbu lv k A with st:=E.sign (pz i) [40] } with i:=i } :PM).C.length _ .prim))
      have V7:=zh ((by have h9:=(IsC.folw c HCL.out:IsC (w4.setCell ⟨L.B c,4,none⟩ (.bool (E.sign (pz i) [40]))) (M.P W0.heap.size) g M.A M.B ({ σ.setC c { qbu lv k A with st:=E.sign (pz i) [40] } with i:=i } :PM).N.length ({ σ.setC c { qbu lv k A with st:=E.sign (pz i) [40] } with i:=i } :PM).C.length _ (.folw c));rw[HMB.out]at h9;exact h9:IsC (w4.setCell ⟨L.B c,4,none⟩ (.bool (E.sign (pz i) [40]))) (M.P W0.heap.size) g M.A M.B ({ σ.setC c { qbu lv k A with st:=E.sign (pz i) [40] } with i:=i } :PM).N.length ({ σ.setC c { qbu lv k A with st:=E.sign (pz i) [40] } with i:=i } :PM).C.length (.func (.func 97) #[ptr (L.B c)] #[]) (.folw c)))
      unfold ptr at*
      have hb:=zA (Below.refl (w4.setCell ⟨L.B c,4,none⟩ (.bool (E.sign (pz i) [40]))).heap.size (w4.setCell ⟨L.B c,4,none⟩ (.bool (E.sign (pz i) [40]))))
      have H8:=zh (H5.out.below hb)
      have Y8:=zh (H5.out.mxb hb)
      have X8:=zh (X5.out.trans Y8.out)
      have vp_8:=zh (Y8.out.isc V6.out)
      have vf_8:=zh (Y8.out.isc V7.out)
      clear hb
      go_region_held3 (fun w'=>w'.cell? ⟨L.B c,0,none⟩=some (.pointer (some ⟨g,0,none⟩))) (first | exact HKP.out _ _ _ H8.out HMB.out rfl | exact HKP.out _ _ _ (H8.out.below (qa1 _ _)) HMB.out rfl | exact HKP.out _ _ _ (H5.out.below (zA (qa1 _ _))) HMB.out rfl | exact HKP.out _ _ _ H9.out ((Y9.out.B c HCL.out).trans HMB.out) rfl) (first | (go_at_call 36;refine(qbh H8.out _ (by simp) [_,_] [.prim,.folw c] 2 rfl (zH HK.out (by decide)) (by decide) _ ⟨vp_8.out,⟨vf_8.out,trivial⟩⟩).mono ?_;rintro e w9 ⟨rfl,M9,hm,hx⟩;have H9:=zh hm;have Y9:=zh hx;have X9:=zh (X8.out.trans Y9.out);have vp_9:=zh (Y9.out.isc vp_8.out);have vf_9:=zh (Y9.out.isc vf_8.out);clear hm hx))
      all_goals (show qdf _ (bodyPost _ _ _) _ _ _;rw[qcv];go_end0;exact⟨rfl,M9,H9.out,X9.out⟩)
     ·have HPN:=zh hp
      have hz1:(((pf (opE E i).toList:Nat):Int)==0)=false:=by simpa using hp
      have hz2: ¬((pf (opE E i).toList:Nat):Int)=0:=by simpa using hp
      clear hp
      obtain⟨cab,ccb,aab,acb,⟨c0_b,c1_b,c2_b,c3_b⟩,hT2_b,hT3_b,hz_b,hP2_b,hP3_b⟩:=MM.caA (σ:=(qb9 σ c lv i k A)) H3.out HCX.out
      rw[HMB.out]at c0_b c1_b c2_b c3_b hP2_b hP3_b hz_b
      have HT2_b:=zh hT2_b
      have HT3_b:=zh hT3_b
      have HP2_b:=zh hP2_b
      have HP3_b:=zh hP3_b
      clear hT2_b hT3_b hP2_b hP3_b
      dsimp only[qbu]at c1_b c2_b c3_b
      have HLN:=zh (show A.length<=1048576/\i<=E.to from by
       have h1:=H3.out.toLe;have h2:=HKI.out.2;have h3:(qb9 σ c lv i k A).i=i:=rfl;omega)
      go_wp2_with fail
      have q:=qvy (σ:=(qb9 σ c lv i k A)) H3.out (qle HPN.out)
      unfold ptr at q
      refine q.mono ?_
      clear q
      intro e w5 h9
      clear c0_b c1_b c2_b c3_b hz_b
      cases ht:tkE E i with
      | error b=>
       rw[show tkE E (qb9 σ c lv i k A).i=_ from ht]at h9
       obtain⟨⟨u,pv,rfl⟩,hb⟩:=h9
       have HB9:=zh hb
       have e9:R=.error .die:=by
        rw[HR.out];unfold qm9;rw[HCT.out];show(pfL E (E.to+2) i0 [] >>= _)=_;rw[<-HPF.out,qqv HPN.out ht];rfl
       subst e9
       clear hb ht
       go_wp2_with fail
       exact⟨rfl,⟨_,_,rfl⟩,HB9.out⟩
      | ok j=>
       rw[show tkE E (qb9 σ c lv i k A).i=_ from ht]at h9
       obtain⟨rfl,hm,hx⟩:=h9
       have HY:=zh (qqy (f:=(E.to+1)) (A:=A) HPN.out ht)
       have H10:=zh hm
       have Y10:=zh hx
       have X10:=zh (X3.out.trans Y10.out)
       clear hm hx ht
       obtain⟨cae,cce,aae,ace,⟨c0_e,c1_e,c2_e,c3_e⟩,hT2_e,hT3_e,hz_e,hP2_e,hP3_e⟩:=MM.caA (σ:=((qb9 σ c lv i k A).at_ j)) H10.out HCX.out
       rw[HMB.out]at c0_e c1_e c2_e c3_e hP2_e hP3_e hz_e
       have HT2_e:=zh hT2_e
       have HT3_e:=zh hT3_e
       have HP2_e:=zh hP2_e
       have HP3_e:=zh hP3_e
       clear hT2_e hT3_e hP2_e hP3_e
       dsimp only[qbu]at c1_e c2_e c3_e
       have HBS:Hid (∀O,W0.heap.size<=(w5.alloc O).heap.size):=zh (fun O=>by have:=H10.out.bel.size;have e:(w5.alloc O).heap.size=w5.heap.size+1:=(by simp);omega)
       go_wp2_with (at_builtin;go_must (refine qbk rfl _ _ rfl W0.heap.size _ A rfl (qc9 HT3_e.out (qa1 _ _)) _ (opE E i) rfl (qaq (qaa _ _)).1 HLN.out.1 (HBS.out _) ?_);intro v4 w4 h1 h2 h3;obtain⟨a4,c4,rfl⟩:=qbj h1;have HP:=zh (HP3_e.out _ _ _ _ (qa1 _ _) h1 h2 h3);have k1:=HP.out.1;have k2:=HP.out.2.1;have k3:=HP.out.2.2.1;clear h1 h2 h3)
       clear c0_e c1_e c2_e c3_e hz_e
       obtain⟨-,-,-,M9,m1,m2,m4⟩:=HP.out
       have e:(A++[opE E i]).length=A.length+1:=by simp
       rw[e]at m1 m2
       have M1:Hid (MM W0 g s E tv _ M9 (qb9 σ c lv j k (A++[opE E i]))):=zh (by rw[<-qf4 (i:=i) (j:=j)];exact m1)
       have M2:Hid (MX W0.heap.size W L σ.N.length σ.C.length _ M9 (qb9 σ c lv j k (A++[opE E i])).N.length (qb9 σ c lv j k (A++[opE E i])).C.length):=zh (by rw[<-qf4 (i:=i) (j:=j)];exact X10.out.trans m2)
       have M4:=zh ((congrFun m4 c).trans HMB.out)
       clear m1 m2 m4 HP k1 k2 k3
       go_step3
       simp only[Exit.then]
       show qdf _ _ _ _ _
       rw[qdb]
       exact⟨(E.to+1),by omega,j,k,A++[opE E i],M9,M1,M2,M4,zh ⟨by have:=HKI.out;have:=HY.out.2;omega,by rw[e];have:=HKI.out;have:=HY.out.2;omega⟩,.inr ⟨rfl,_,i0,rfl,HCT,zh (HY.out.1.symm.trans HPF.out)⟩,zh ⟨rfl,rfl,rfl⟩⟩
    ·skip
     obtain⟨cae,cce,aae,ace,⟨c0_e,c1_e,c2_e,c3_e⟩,hT2_e,hT3_e,hz_e,hP2_e,hP3_e⟩:=MM.caA (σ:=((qb9 σ c lv i k []).at_ j)) H1.out HCX.out
     rw[HMB.out]at c0_e c1_e c2_e c3_e hP2_e hP3_e hz_e
     have HT2_e:=zh hT2_e
     have HT3_e:=zh hT3_e
     have HP2_e:=zh hP2_e
     have HP3_e:=zh hP3_e
     clear hT2_e hT3_e hP2_e hP3_e
     dsimp only[qbu]at c1_e c2_e c3_e
     have HY:=zh (ct_yes (f:=f) (k:=k) HLV.out HT.out)
     have HBS:Hid (∀O,W0.heap.size<=(w5.alloc O).heap.size):=zh (fun O=>by have:=H1.out.bel.size;have e:(w5.alloc O).heap.size=w5.heap.size+1:=(by simp);omega)
     have HLN:=zh (show(qf6 k).length<=1048576 from by
      have h1:=H0.out.toLe;have h2:=HKJ.out;have h3:(qb9 σ c lv i k []).i=i:=rfl
      have h4:(qf6 k).length=k:=List.length_replicate
      omega)
     go_wp2_with (at_builtin;go_must (refine qbk rfl _ _ rfl W0.heap.size _ (qf6 k) rfl (qc9 HT2_e.out (qa1 _ _)) _ ⟨#[99,97,116,99,104]⟩ rfl (qaq (qaa _ _)).1 HLN.out (HBS.out _) ?_);intro v4 w4 h1 h2 h3;obtain⟨a4,c4,rfl⟩:=qbj h1;have HP:=zh (HP2_e.out _ _ _ (qa1 _ _) h1 h2 h3);have k1:=HP.out.1;have k2:=HP.out.2.1;clear h1 h2 h3)
     clear c0_e c1_e c2_e c3_e hz_e
     obtain⟨-,-,M9,m1,m2,m4⟩:=HP.out
     have e:(qf6 k++[(⟨#[99,97,116,99,104]⟩:ByteArray)]).length=(qf6 k).length+1:=by rw[List.length_append];rfl
     simp only[e]at m1 m2
     have M1:Hid (MM W0 g s E tv _ M9 (qb9 σ c lv j (k+1) [])):=zh (by rw[<-qon (i:=i) (j:=j)];exact m1)
     have M2:Hid (MX W0.heap.size W L σ.N.length σ.C.length _ M9 (qb9 σ c lv j (k+1) []).N.length (qb9 σ c lv j (k+1) []).C.length):=zh (by rw[<-qon (i:=i) (j:=j)];exact X1.out.trans m2)
     have M4:=zh ((congrFun m4 c).trans HMB.out)
     clear m1 m2 m4 HP k1 k2
     go_step3
     simp only[Exit.then]
     show qdf _ _ _ _ _
     rw[qdb]
     exact⟨f+E.to+3,by omega,j,k+1,[],M9,M1,M2,M4,zh ⟨by have:=HKJ.out;have:=HY.out.2;omega,zI _⟩,.inl ⟨rfl,rfl,f,rfl,zh (HY.out.1.symm.trans HCF.out)⟩,zh ⟨rfl,rfl,rfl⟩⟩
  ·have hd:decide (lv<=0)=false:=decide_eq_false hlv
   have HLV:=zh hlv
   clear hlv
   go_wp2_with fail
   go_step3
   simp only[Exit.then]
   clear hd c0_z c1_z c2_z c3_z hz_z
   have HCX9:=HCX
   clear HCX
   obtain⟨A,i0,HKI,HCX,HCT,HPF,H9,X9⟩: ∃(A:List ByteArray) (i0:Nat),Hid (k<=i/\A.length<=i)/\Hid ((qb9 σ c lv i k A).C[c]?=some (qbu lv k A))/\Hid (ctL E lv (E.to+2) σ.i 0=.ok (k,i0))/\Hid (pfL E (E.to+1+1) i A=pfL E (E.to+2) i0 [])/\Hid (MM W0 g s E tv w' M (qb9 σ c lv i k A))/\Hid (MX W0.heap.size W L σ.N.length σ.C.length w' M (qb9 σ c lv i k A).N.length (qb9 σ c lv i k A).C.length):=⟨[],i,zh ⟨HKJ.out,zI _⟩,HCX9,zh (by rw[<-HCF.out];exact ct_not (by have:=HLV.out;omega)),zh rfl,H0,X0⟩
   clear HCX9
   obtain⟨caa,cca,aaa,aca,⟨c0_a,c1_a,c2_a,c3_a⟩,hT2_a,hT3_a,hz_a,hP2_a,hP3_a⟩:=MM.caA (σ:=(qb9 σ c lv i k A)) H9.out HCX.out
   rw[HMB.out]at c0_a c1_a c2_a c3_a hP2_a hP3_a hz_a
   have HT2_a:=zh hT2_a
   have HT3_a:=zh hT3_a
   have HP2_a:=zh hP2_a
   have HP3_a:=zh hP3_a
   clear hT2_a hT3_a hP2_a hP3_a
   dsimp only[qbu]at c1_a c2_a c3_a
   go_wp2_with fail
   have q11:=qv5 (σ:=(qb9 σ c lv i k A)) H9.out
   try unfold ptr at q11
   refine q11.mono ?_
   clear q11
   rintro e w11 ⟨rfl,hm,hx⟩
   have H11:=zh hm
   have Y11:=zh hx
   have X11:=zh (X9.out.trans Y11.out)
   clear hm hx
   clear c0_a c1_a c2_a c3_a hz_a
   go_wp2_with fail
   rw[show(qb9 σ c lv i k A).i=i from rfl]
   refine(qee _ _).mono ?_
   rintro e w12 ⟨rfl,hb⟩
   have H12:=zh (H11.out.below hb)
   have Y12:=zh (H11.out.mxb hb)
   have X12:=zh (X11.out.trans Y12.out)
   clear hb
   by_cases hp:pf (opE E i).toList=0
   ·have HR2:Hid (R=.ok ((({ σ.setC c { qbu lv k A with st:=E.sign (pz i) [40] } with i:=i } :PM)).plan [.prim,.folw c])):=zh (by
     rw[HR.out];unfold qm9;rw[HCT.out];show(pfL E (E.to+2) i0 [] >>= _)=_;rw[<-HPF.out,qzh hp];rfl)
    have e9:=HR2.out
    subst e9
    have hz1:(((pf (opE E i).toList:Nat):Int)==0)=true:=by rw[hp];rfl
    have hz2:((pf (opE E i).toList:Nat):Int)=0:=by rw[hp];rfl
    clear hp HR HR2
    obtain⟨cab,ccb,aab,acb,⟨c0_b,c1_b,c2_b,c3_b⟩,hT2_b,hT3_b,hz_b,hP2_b,hP3_b⟩:=MM.caA (σ:=(qb9 σ c lv i k A)) H12.out HCX.out
    rw[HMB.out]at c0_b c1_b c2_b c3_b hP2_b hP3_b hz_b
    have HT2_b:=zh hT2_b
    have HT3_b:=zh hT3_b
    have HP2_b:=zh hP2_b
    have HP3_b:=zh hP3_b
    clear hT2_b hT3_b hP2_b hP3_b
    dsimp only[qbu]at c1_b c2_b c3_b
    go_wp2_with fail
    have q13:=qcb (σ:=(qb9 σ c lv i k A)) H12.out [40]
    try unfold ptr at q13
    refine q13.mono ?_
    clear q13
    rintro e w13 ⟨rfl,hm,hx⟩
    have H13:=zh hm
    have Y13:=zh hx
    have X13:=zh (X12.out.trans Y13.out)
    clear hm hx
    clear c0_b c1_b c2_b c3_b hz_b
    obtain⟨cad,ccd,aad,acd,⟨c0_d,c1_d,c2_d,c3_d⟩,hT2_d,hT3_d,hz_d,hP2_d,hP3_d⟩:=MM.caA (σ:=(qb9 σ c lv i k A)) H13.out HCX.out
    rw[HMB.out]at c0_d c1_d c2_d c3_d hP2_d hP3_d hz_d
    have HT2_d:=zh hT2_d
    have HT3_d:=zh hT3_d
    have HP2_d:=zh hP2_d
    have HP3_d:=zh hP3_d
    clear hT2_d hT3_d hP2_d hP3_d
    dsimp only[qbu]at c1_d c2_d c3_d
    obtain⟨_,_,_,_,⟨-,-,-,-,c4_d,-,-⟩,-,-,-⟩:=MM.chall (σ:=(qb9 σ c lv i k A)) H13.out HCX.out
    rw[HMB.out]at c4_d
    dsimp only[qbu]at c4_d
    have hS:=MM.setSt (σ:=(qb9 σ c lv i k A)) H13.out HCX.out (E.sign (pz i) [40])
    rw[HMB.out,qkr]at hS
    have HS:=zh hS
    clear hS
    have hz4:=hz_d 4
    go_wp2_with fail
    rw[show(qb9 σ c lv i k A).i=i from rfl]
    clear c0_d c1_d c2_d c3_d hz_d
    clear c4_d hz4
    have H14:=zh HS.out.1
    have Y14:=zh HS.out.2
    have X14:=zh (X13.out.trans Y14.out)
    have HCY:Hid (({ σ.setC c { qbu lv k A with st:=E.sign (pz i) [40] } with i:=i } :PM).C[c]?=some { qbu lv k A with st:=E.sign (pz i) [40] }):=zh (qb2 HCC.out)
    have HCL:Hid (c< ({ σ.setC c { qbu lv k A with st:=E.sign (pz i) [40] } with i:=i } :PM).C.length):=zh (List.getElem?_eq_some_iff.1 HCY.out).1
    have HKP:Hid (∀(w':World) (M':PLay) (τ:PM),MM W0 g s E tv w' M' τ->M'.B c=L.B c->τ.C=({ σ.setC c { qbu lv k A with st:=E.sign (pz i) [40] } with i:=i } :PM).C->w'.cell? ⟨L.B c,0,none⟩=some (.pointer (some ⟨g,0,none⟩))):=zh (fun w' M' τ h e1 e2=>by
     obtain⟨_,_,_,_,⟨h1,-⟩,-⟩:=h.chall (c:=c) (by rw[e2];exact HCY.out)
     rw[e1]at h1;exact h1)
    have V15:=zh ((IsC.prim:IsC (w13.setCell ⟨L.B c,4,none⟩ (.bool (E.sign (pz i) [40]))) (M.P W0.heap.size) g M.A M.B ({ σ.setC c { qbu lv k A with st:=E.sign (pz i) [40] } with i:=i } :PM).N.length ({ σ.setC c { qbu lv k A with st:=E.sign (pz i) [40] } with i:=i } :PM).C.length _ .prim))
    have V16:=zh ((by have h9:=(IsC.folw c HCL.out:IsC (w13.setCell ⟨L.B c,4,none⟩ (.bool (E.sign (pz i) [40]))) (M.P W0.heap.size) g M.A M.B ({ σ.setC c { qbu lv k A with st:=E.sign (pz i) [40] } with i:=i } :PM).N.length ({ σ.setC c { qbu lv k A with st:=E.sign (pz i) [40] } with i:=i } :PM).C.length _ (.folw c));rw[HMB.out]at h9;exact h9:IsC (w13.setCell ⟨L.B c,4,none⟩ (.bool (E.sign (pz i) [40]))) (M.P W0.heap.size) g M.A M.B ({ σ.setC c { qbu lv k A with st:=E.sign (pz i) [40] } with i:=i } :PM).N.length ({ σ.setC c { qbu lv k A with st:=E.sign (pz i) [40] } with i:=i } :PM).C.length (.func (.func 97) #[ptr (L.B c)] #[]) (.folw c)))
    unfold ptr at*
    have hb:=zA (Below.refl (w13.setCell ⟨L.B c,4,none⟩ (.bool (E.sign (pz i) [40]))).heap.size (w13.setCell ⟨L.B c,4,none⟩ (.bool (E.sign (pz i) [40]))))
    have H17:=zh (H14.out.below hb)
    have Y17:=zh (H14.out.mxb hb)
    have X17:=zh (X14.out.trans Y17.out)
    have vp_17:=zh (Y17.out.isc V15.out)
    have vf_17:=zh (Y17.out.isc V16.out)
    clear hb
    go_region_held3 (fun w'=>w'.cell? ⟨L.B c,0,none⟩=some (.pointer (some ⟨g,0,none⟩))) (first | exact HKP.out _ _ _ H17.out HMB.out rfl | exact HKP.out _ _ _ (H17.out.below (qa1 _ _)) HMB.out rfl | exact HKP.out _ _ _ (H14.out.below (zA (qa1 _ _))) HMB.out rfl | exact HKP.out _ _ _ H18.out ((Y18.out.B c HCL.out).trans HMB.out) rfl) (first | (go_at_call 36;refine(qbh H17.out _ (by simp) [_,_] [.prim,.folw c] 2 rfl (zH HK.out (by decide)) (by decide) _ ⟨vp_17.out,⟨vf_17.out,trivial⟩⟩).mono ?_;rintro e w18 ⟨rfl,M18,hm,hx⟩;have H18:=zh hm;have Y18:=zh hx;have X18:=zh (X17.out.trans Y18.out);have vp_18:=zh (Y18.out.isc vp_17.out);have vf_18:=zh (Y18.out.isc vf_17.out);clear hm hx))
    all_goals (show qdf _ (bodyPost _ _ _) _ _ _;rw[qcv];go_end0;exact⟨rfl,M18,H18.out,X18.out⟩)
   ·have HPN:=zh hp
    have hz1:(((pf (opE E i).toList:Nat):Int)==0)=false:=by simpa using hp
    have hz2: ¬((pf (opE E i).toList:Nat):Int)=0:=by simpa using hp
    clear hp
    obtain⟨cab,ccb,aab,acb,⟨c0_b,c1_b,c2_b,c3_b⟩,hT2_b,hT3_b,hz_b,hP2_b,hP3_b⟩:=MM.caA (σ:=(qb9 σ c lv i k A)) H12.out HCX.out
    rw[HMB.out]at c0_b c1_b c2_b c3_b hP2_b hP3_b hz_b
    have HT2_b:=zh hT2_b
    have HT3_b:=zh hT3_b
    have HP2_b:=zh hP2_b
    have HP3_b:=zh hP3_b
    clear hT2_b hT3_b hP2_b hP3_b
    dsimp only[qbu]at c1_b c2_b c3_b
    have HLN:=zh (show A.length<=1048576/\i<=E.to from by
     have h1:=H12.out.toLe;have h2:=HKI.out.2;have h3:(qb9 σ c lv i k A).i=i:=rfl;omega)
    go_wp2_with fail
    have q:=qvy (σ:=(qb9 σ c lv i k A)) H12.out (qle HPN.out)
    unfold ptr at q
    refine q.mono ?_
    clear q
    intro e w5 h9
    clear c0_b c1_b c2_b c3_b hz_b
    cases ht:tkE E i with
    | error b=>
     rw[show tkE E (qb9 σ c lv i k A).i=_ from ht]at h9
     obtain⟨⟨u,pv,rfl⟩,hb⟩:=h9
     have HB9:=zh hb
     have e9:R=.error .die:=by
      rw[HR.out];unfold qm9;rw[HCT.out];show(pfL E (E.to+2) i0 [] >>= _)=_;rw[<-HPF.out,qqv HPN.out ht];rfl
     subst e9
     clear hb ht
     go_wp2_with fail
     exact⟨rfl,⟨_,_,rfl⟩,HB9.out⟩
    | ok j=>
     rw[show tkE E (qb9 σ c lv i k A).i=_ from ht]at h9
     obtain⟨rfl,hm,hx⟩:=h9
     have HY:=zh (qqy (f:=(E.to+1)) (A:=A) HPN.out ht)
     have H19:=zh hm
     have Y19:=zh hx
     have X19:=zh (X12.out.trans Y19.out)
     clear hm hx ht
     obtain⟨cae,cce,aae,ace,⟨c0_e,c1_e,c2_e,c3_e⟩,hT2_e,hT3_e,hz_e,hP2_e,hP3_e⟩:=MM.caA (σ:=((qb9 σ c lv i k A).at_ j)) H19.out HCX.out
     rw[HMB.out]at c0_e c1_e c2_e c3_e hP2_e hP3_e hz_e
     have HT2_e:=zh hT2_e
     have HT3_e:=zh hT3_e
     have HP2_e:=zh hP2_e
     have HP3_e:=zh hP3_e
     clear hT2_e hT3_e hP2_e hP3_e
     dsimp only[qbu]at c1_e c2_e c3_e
     have HBS:Hid (∀O,W0.heap.size<=(w5.alloc O).heap.size):=zh (fun O=>by have:=H19.out.bel.size;have e:(w5.alloc O).heap.size=w5.heap.size+1:=(by simp);omega)
     go_wp2_with (at_builtin;go_must (refine qbk rfl _ _ rfl W0.heap.size _ A rfl (qc9 HT3_e.out (qa1 _ _)) _ (opE E i) rfl (qaq (qaa _ _)).1 HLN.out.1 (HBS.out _) ?_);intro v4 w4 h1 h2 h3;obtain⟨a4,c4,rfl⟩:=qbj h1;have HP:=zh (HP3_e.out _ _ _ _ (qa1 _ _) h1 h2 h3);have k1:=HP.out.1;have k2:=HP.out.2.1;have k3:=HP.out.2.2.1;clear h1 h2 h3)
     clear c0_e c1_e c2_e c3_e hz_e
     obtain⟨-,-,-,M9,m1,m2,m4⟩:=HP.out
     have e:(A++[opE E i]).length=A.length+1:=by simp
     rw[e]at m1 m2
     have M1:Hid (MM W0 g s E tv _ M9 (qb9 σ c lv j k (A++[opE E i]))):=zh (by rw[<-qf4 (i:=i) (j:=j)];exact m1)
     have M2:Hid (MX W0.heap.size W L σ.N.length σ.C.length _ M9 (qb9 σ c lv j k (A++[opE E i])).N.length (qb9 σ c lv j k (A++[opE E i])).C.length):=zh (by rw[<-qf4 (i:=i) (j:=j)];exact X19.out.trans m2)
     have M4:=zh ((congrFun m4 c).trans HMB.out)
     clear m1 m2 m4 HP k1 k2 k3
     go_step3
     simp only[Exit.then]
     show qdf _ _ _ _ _
     rw[qdb]
     exact⟨(E.to+1),by omega,j,k,A++[opE E i],M9,M1,M2,M4,zh ⟨by have:=HKI.out;have:=HY.out.2;omega,by rw[e];have:=HKI.out;have:=HY.out.2;omega⟩,.inr ⟨rfl,_,i0,rfl,HCT,zh (HY.out.1.symm.trans HPF.out)⟩,zh ⟨rfl,rfl,rfl⟩⟩
 ·intro m a' w' hj
  obtain⟨i,k,A,M,i0,H0,X0,HMB,HKI,HCT,HPF,us,rfl⟩:=begJ_1 hj
  clear hj
  have HCX:Hid ((qb9 σ c lv i k A).C[c]?=some (qbu lv k A)):=zh (qom HCC.out)
  rcases m with _ | f
  ·exact absurd (by rw[HR.out];unfold qm9;rw[HCT.out];show(pfL E (E.to+2) i0 [] >>= _)=_;rw[<-HPF.out];rfl) HNS.out
  obtain⟨caa,cca,aaa,aca,⟨c0_a,c1_a,c2_a,c3_a⟩,hT2_a,hT3_a,hz_a,hP2_a,hP3_a⟩:=MM.caA (σ:=(qb9 σ c lv i k A)) H0.out HCX.out
  rw[HMB.out]at c0_a c1_a c2_a c3_a hP2_a hP3_a hz_a
  have HT2_a:=zh hT2_a
  have HT3_a:=zh hT3_a
  have HP2_a:=zh hP2_a
  have HP3_a:=zh hP3_a
  clear hT2_a hT3_a hP2_a hP3_a
  dsimp only[qbu]at c1_a c2_a c3_a
  go_wp2_with fail
  have q1:=qv5 (σ:=(qb9 σ c lv i k A)) H0.out
  try unfold ptr at q1
  refine q1.mono ?_
  clear q1
  rintro e w1 ⟨rfl,hm,hx⟩
  have H1:=zh hm
  have Y1:=zh hx
  have X1:=zh (X0.out.trans Y1.out)
  clear hm hx
  clear c0_a c1_a c2_a c3_a hz_a
  go_wp2_with fail
  rw[show(qb9 σ c lv i k A).i=i from rfl]
  refine(qee _ _).mono ?_
  rintro e w2 ⟨rfl,hb⟩
  have H2:=zh (H1.out.below hb)
  have Y2:=zh (H1.out.mxb hb)
  have X2:=zh (X1.out.trans Y2.out)
  clear hb
  by_cases hp:pf (opE E i).toList=0
  ·have HR2:Hid (R=.ok ((({ σ.setC c { qbu lv k A with st:=E.sign (pz i) [40] } with i:=i } :PM)).plan [.prim,.folw c])):=zh (by
    rw[HR.out];unfold qm9;rw[HCT.out];show(pfL E (E.to+2) i0 [] >>= _)=_;rw[<-HPF.out,qzh hp];rfl)
   have e9:=HR2.out
   subst e9
   have hz1:(((pf (opE E i).toList:Nat):Int)==0)=true:=by rw[hp];rfl
   have hz2:((pf (opE E i).toList:Nat):Int)=0:=by rw[hp];rfl
   clear hp HR HR2
   obtain⟨cab,ccb,aab,acb,⟨c0_b,c1_b,c2_b,c3_b⟩,hT2_b,hT3_b,hz_b,hP2_b,hP3_b⟩:=MM.caA (σ:=(qb9 σ c lv i k A)) H2.out HCX.out
   rw[HMB.out]at c0_b c1_b c2_b c3_b hP2_b hP3_b hz_b
   have HT2_b:=zh hT2_b
   have HT3_b:=zh hT3_b
   have HP2_b:=zh hP2_b
   have HP3_b:=zh hP3_b
   clear hT2_b hT3_b hP2_b hP3_b
   dsimp only[qbu]at c1_b c2_b c3_b
   go_wp2_with fail
   have q3:=qcb (σ:=(qb9 σ c lv i k A)) H2.out [40]
   try unfold ptr at q3
   refine q3.mono ?_
   clear q3
   rintro e w3 ⟨rfl,hm,hx⟩
   have H3:=zh hm
   have Y3:=zh hx
   have X3:=zh (X2.out.trans Y3.out)
   clear hm hx
   clear c0_b c1_b c2_b c3_b hz_b
   obtain⟨cad,ccd,aad,acd,⟨c0_d,c1_d,c2_d,c3_d⟩,hT2_d,hT3_d,hz_d,hP2_d,hP3_d⟩:=MM.caA (σ:=(qb9 σ c lv i k A)) H3.out HCX.out
   rw[HMB.out]at c0_d c1_d c2_d c3_d hP2_d hP3_d hz_d
   have HT2_d:=zh hT2_d
   have HT3_d:=zh hT3_d
   have HP2_d:=zh hP2_d
   have HP3_d:=zh hP3_d
   clear hT2_d hT3_d hP2_d hP3_d
   dsimp only[qbu]at c1_d c2_d c3_d
   obtain⟨_,_,_,_,⟨-,-,-,-,c4_d,-,-⟩,-,-,-⟩:=MM.chall (σ:=(qb9 σ c lv i k A)) H3.out HCX.out
   rw[HMB.out]at c4_d
   dsimp only[qbu]at c4_d
   have hS:=MM.setSt (σ:=(qb9 σ c lv i k A)) H3.out HCX.out (E.sign (pz i) [40])
   rw[HMB.out,qkr]at hS
   have HS:=zh hS
   clear hS
   have hz4:=hz_d 4
   go_wp2_with fail
   rw[show(qb9 σ c lv i k A).i=i from rfl]
   clear c0_d c1_d c2_d c3_d hz_d
   clear c4_d hz4
   have H4:=zh HS.out.1
   have Y4:=zh HS.out.2
   have X4:=zh (X3.out.trans Y4.out)
   have HCY:Hid (({ σ.setC c { qbu lv k A with st:=E.sign (pz i) [40] } with i:=i } :PM).C[c]?=some { qbu lv k A with st:=E.sign (pz i) [40] }):=zh (qb2 HCC.out)
   have HCL:Hid (c< ({ σ.setC c { qbu lv k A with st:=E.sign (pz i) [40] } with i:=i } :PM).C.length):=zh (List.getElem?_eq_some_iff.1 HCY.out).1
   have HKP:Hid (∀(w':World) (M':PLay) (τ:PM),MM W0 g s E tv w' M' τ->M'.B c=L.B c->τ.C=({ σ.setC c { qbu lv k A with st:=E.sign (pz i) [40] } with i:=i } :PM).C->w'.cell? ⟨L.B c,0,none⟩=some (.pointer (some ⟨g,0,none⟩))):=zh (fun w' M' τ h e1 e2=>by
    obtain⟨_,_,_,_,⟨h1,-⟩,-⟩:=h.chall (c:=c) (by rw[e2];exact HCY.out)
    rw[e1]at h1;exact h1)
   have V5:=zh ((IsC.prim:IsC (w3.setCell ⟨L.B c,4,none⟩ (.bool (E.sign (pz i) [40]))) (M.P W0.heap.size) g M.A M.B ({ σ.setC c { qbu lv k A with st:=E.sign (pz i) [40] } with i:=i } :PM).N.length ({ σ.setC c { qbu lv k A with st:=E.sign (pz i) [40] } with i:=i } :PM).C.length _ .prim))
   have V6:=zh ((by have h9:=(IsC.folw c HCL.out:IsC (w3.setCell ⟨L.B c,4,none⟩ (.bool (E.sign (pz i) [40]))) (M.P W0.heap.size) g M.A M.B ({ σ.setC c { qbu lv k A with st:=E.sign (pz i) [40] } with i:=i } :PM).N.length ({ σ.setC c { qbu lv k A with st:=E.sign (pz i) [40] } with i:=i } :PM).C.length _ (.folw c));rw[HMB.out]at h9;exact h9:IsC (w3.setCell ⟨L.B c,4,none⟩ (.bool (E.sign (pz i) [40]))) (M.P W0.heap.size) g M.A M.B ({ σ.setC c { qbu lv k A with st:=E.sign (pz i) [40] } with i:=i } :PM).N.length ({ σ.setC c { qbu lv k A with st:=E.sign (pz i) [40] } with i:=i } :PM).C.length (.func (.func 97) #[ptr (L.B c)] #[]) (.folw c)))
   unfold ptr at*
   have hb:=zA (Below.refl (w3.setCell ⟨L.B c,4,none⟩ (.bool (E.sign (pz i) [40]))).heap.size (w3.setCell ⟨L.B c,4,none⟩ (.bool (E.sign (pz i) [40]))))
   have H7:=zh (H4.out.below hb)
   have Y7:=zh (H4.out.mxb hb)
   have X7:=zh (X4.out.trans Y7.out)
   have vp_7:=zh (Y7.out.isc V5.out)
   have vf_7:=zh (Y7.out.isc V6.out)
   clear hb
   go_region_held3 (fun w'=>w'.cell? ⟨L.B c,0,none⟩=some (.pointer (some ⟨g,0,none⟩))) (first | exact HKP.out _ _ _ H7.out HMB.out rfl | exact HKP.out _ _ _ (H7.out.below (qa1 _ _)) HMB.out rfl | exact HKP.out _ _ _ (H4.out.below (zA (qa1 _ _))) HMB.out rfl | exact HKP.out _ _ _ H8.out ((Y8.out.B c HCL.out).trans HMB.out) rfl) (first | (go_at_call 36;refine(qbh H7.out _ (by simp) [_,_] [.prim,.folw c] 2 rfl (zH HK.out (by decide)) (by decide) _ ⟨vp_7.out,⟨vf_7.out,trivial⟩⟩).mono ?_;rintro e w8 ⟨rfl,M8,hm,hx⟩;have H8:=zh hm;have Y8:=zh hx;have X8:=zh (X7.out.trans Y8.out);have vp_8:=zh (Y8.out.isc vp_7.out);have vf_8:=zh (Y8.out.isc vf_7.out);clear hm hx))
   all_goals (show qdf _ (bodyPost _ _ _) _ _ _;rw[qcv];go_end0;exact⟨rfl,M8,H8.out,X8.out⟩)
  ·have HPN:=zh hp
   have hz1:(((pf (opE E i).toList:Nat):Int)==0)=false:=by simpa using hp
   have hz2: ¬((pf (opE E i).toList:Nat):Int)=0:=by simpa using hp
   clear hp
   obtain⟨cab,ccb,aab,acb,⟨c0_b,c1_b,c2_b,c3_b⟩,hT2_b,hT3_b,hz_b,hP2_b,hP3_b⟩:=MM.caA (σ:=(qb9 σ c lv i k A)) H2.out HCX.out
   rw[HMB.out]at c0_b c1_b c2_b c3_b hP2_b hP3_b hz_b
   have HT2_b:=zh hT2_b
   have HT3_b:=zh hT3_b
   have HP2_b:=zh hP2_b
   have HP3_b:=zh hP3_b
   clear hT2_b hT3_b hP2_b hP3_b
   dsimp only[qbu]at c1_b c2_b c3_b
   have HLN:=zh (show A.length<=1048576/\i<=E.to from by
    have h1:=H2.out.toLe;have h2:=HKI.out.2;have h3:(qb9 σ c lv i k A).i=i:=rfl;omega)
   go_wp2_with fail
   have q:=qvy (σ:=(qb9 σ c lv i k A)) H2.out (qle HPN.out)
   unfold ptr at q
   refine q.mono ?_
   clear q
   intro e w5 h9
   clear c0_b c1_b c2_b c3_b hz_b
   cases ht:tkE E i with
   | error b=>
    rw[show tkE E (qb9 σ c lv i k A).i=_ from ht]at h9
    obtain⟨⟨u,pv,rfl⟩,hb⟩:=h9
    have HB9:=zh hb
    have e9:R=.error .die:=by
     rw[HR.out];unfold qm9;rw[HCT.out];show(pfL E (E.to+2) i0 [] >>= _)=_;rw[<-HPF.out,qqv HPN.out ht];rfl
    subst e9
    clear hb ht
    go_wp2_with fail
    exact⟨rfl,⟨_,_,rfl⟩,HB9.out⟩
   | ok j=>
    rw[show tkE E (qb9 σ c lv i k A).i=_ from ht]at h9
    obtain⟨rfl,hm,hx⟩:=h9
    have HY:=zh (qqy (f:=f) (A:=A) HPN.out ht)
    have H9:=zh hm
    have Y9:=zh hx
    have X9:=zh (X2.out.trans Y9.out)
    clear hm hx ht
    obtain⟨cae,cce,aae,ace,⟨c0_e,c1_e,c2_e,c3_e⟩,hT2_e,hT3_e,hz_e,hP2_e,hP3_e⟩:=MM.caA (σ:=((qb9 σ c lv i k A).at_ j)) H9.out HCX.out
    rw[HMB.out]at c0_e c1_e c2_e c3_e hP2_e hP3_e hz_e
    have HT2_e:=zh hT2_e
    have HT3_e:=zh hT3_e
    have HP2_e:=zh hP2_e
    have HP3_e:=zh hP3_e
    clear hT2_e hT3_e hP2_e hP3_e
    dsimp only[qbu]at c1_e c2_e c3_e
    have HBS:Hid (∀O,W0.heap.size<=(w5.alloc O).heap.size):=zh (fun O=>by have:=H9.out.bel.size;have e:(w5.alloc O).heap.size=w5.heap.size+1:=(by simp);omega)
    go_wp2_with (at_builtin;go_must (refine qbk rfl _ _ rfl W0.heap.size _ A rfl (qc9 HT3_e.out (qa1 _ _)) _ (opE E i) rfl (qaq (qaa _ _)).1 HLN.out.1 (HBS.out _) ?_);intro v4 w4 h1 h2 h3;obtain⟨a4,c4,rfl⟩:=qbj h1;have HP:=zh (HP3_e.out _ _ _ _ (qa1 _ _) h1 h2 h3);have k1:=HP.out.1;have k2:=HP.out.2.1;have k3:=HP.out.2.2.1;clear h1 h2 h3)
    clear c0_e c1_e c2_e c3_e hz_e
    obtain⟨-,-,-,M9,m1,m2,m4⟩:=HP.out
    have e:(A++[opE E i]).length=A.length+1:=by simp
    rw[e]at m1 m2
    have M1:Hid (MM W0 g s E tv _ M9 (qb9 σ c lv j k (A++[opE E i]))):=zh (by rw[<-qf4 (i:=i) (j:=j)];exact m1)
    have M2:Hid (MX W0.heap.size W L σ.N.length σ.C.length _ M9 (qb9 σ c lv j k (A++[opE E i])).N.length (qb9 σ c lv j k (A++[opE E i])).C.length):=zh (by rw[<-qf4 (i:=i) (j:=j)];exact X9.out.trans m2)
    have M4:=zh ((congrFun m4 c).trans HMB.out)
    clear m1 m2 m4 HP k1 k2 k3
    go_step3
    simp only[Exit.then]
    show qdf _ _ _ _ _
    rw[qdb]
    exact⟨f,by omega,j,k,A++[opE E i],M9,M1,M2,M4,zh ⟨by have:=HKI.out;have:=HY.out.2;omega,by rw[e];have:=HKI.out;have:=HY.out.2;omega⟩,.inr ⟨rfl,_,i0,rfl,HCT,zh (HY.out.1.symm.trans HPF.out)⟩,zh ⟨rfl,rfl,rfl⟩⟩
 ·intro hp
  go_wp2_with fail
  go_step3
  rename_i hK
  exact hK _ _ (hp _ _ _ HI.out)
end
section
variable{W0 W:World}{g:Nat}{s:ByteArray}{E:Env}{tv:Value}{L:PLay}{σ:PM}
theorem qjk(E:Env)(lv:Int)(σ:PM):qm9 E lv σ.C.length { σ with C:=σ.C++[{ lv:=lv }] } =stp E (.expr lv) σ:=by
 have e: ∀y:Chn,(σ.C++[({ lv:=lv } :Chn)]).set σ.C.length y=σ.C++[y]:=fun y=>by
  rw[List.set_append_right _ _ (Nat.le_refl _),Nat.sub_self];rfl
 show(ctL E lv (E.to+2) σ.i 0 >>= fun a=>pfL E (E.to+2) a.2 [] >>= fun b=>_)=(ctL E lv (E.to+2) σ.i 0 >>= fun a=>pfL E (E.to+2) a.2 [] >>= fun b=>_)
 congr 1;funext a;congr 1;funext b
 show Except.ok (PM.plan { σ with i:=b.2,C:=(σ.C++[({ lv:=lv } :Chn)]).set σ.C.length _ } _)=_
 rw[e];rfl
theorem qs9(h:MM W0 g s E tv W L σ)(hk:σ.k.length<=274877906944)(lv:Int)(k1:Nat)(b1:BoxC W (L.P W0.heap.size) (.pointer (some ⟨k1,0,none⟩)) (ptr g))(k2:Nat)(b2:BoxC W (L.P W0.heap.size) (.pointer (some ⟨k2,0,none⟩)) (.int .i64 lv))(hns:stp E (.expr lv) σ≠ .error .stuck):
 Calls Tryz.prog 63 #[.pointer (some ⟨k1,0,none⟩),.pointer (some ⟨k2,0,none⟩)] W (SO (stp E (.expr lv) σ) W0 g s E tv W L σ.N.length σ.C.length):=by
 obtain⟨R,hR⟩: ∃R:Rs PM,R=stp E (.expr lv) σ:=⟨_,rfl⟩
 rw[<-hR]at hns⊢
 have HNS:=zh hns
 have HR:=zh hR
 have H0:=zh h
 have X0:=zh (MX.refl W0.heap.size W L σ.N.length σ.C.length)
 have HK:=zh hk
 have B_r:=zh b1
 have cr0:=b1.cellv
 unfold ptr at cr0
 have B_l:=zh b2
 have cl0:=b2.cellv
 clear h hR hk b1 b2 hns
 try unfold ptr
 go_enter Tryz.func63,Tryz.ntmps63
 obtain⟨M1,hm,hx,hB,-⟩:=H0.out.newC lv
 have HB:=zh hB
 have H1:=zh hm
 have Y1:=zh hx
 have X1:=zh (X0.out.trans Y1.out)
 have B_r_1:=zh (Y1.out.box B_r.out)
 have cr1:=B_r_1.out.cellv
 unfold ptr at cr1
 have B_l_1:=zh (Y1.out.box B_l.out)
 have cl1:=B_l_1.out.cellv
 clear hm hx hB
 have hcc:({ σ with C:=σ.C++[{ lv:=lv }] } :PM).C[σ.C.length]?=some { lv:=lv } :=by
  show(σ.C++[({ lv:=lv } :Chn)])[σ.C.length]?=_
  rw[List.getElem?_append_right (Nat.le_refl _),Nat.sub_self];rfl
 have hns2:qm9 E lv σ.C.length ({ σ with C:=σ.C++[{ lv:=lv }] } :PM)≠ .error .stuck:=by rw[qjk,<-HR.out];exact HNS.out
 have hq:=beginM (σ:=({ σ with C:=σ.C++[{ lv:=lv }] } :PM)) H1.out HK.out σ.C.length lv hcc hns2
 rw[HB.out,qjk]at hq
 have HQ:=zh hq
 clear hq hns2 hcc
 go_wp2_with fail
 refine HQ.out.mono ?_
 intro e w9 h9
 cases hres:stp E (.expr lv) σ with
 | error b=>
  cases b with
  | die=>
   have e9:R=.error .die:=HR.out.trans hres
   rw[hres]at h9
   obtain⟨⟨u,pv,rfl⟩,hb⟩:=h9
   have HB9:=zh hb
   subst e9
   clear hb hres
   go_wp2_with fail
   exact⟨rfl,⟨_,_,rfl⟩,HB9.out⟩
  | stuck=>exact absurd (HR.out.trans hres) HNS.out
 | ok τ=>
  have e9:R=.ok τ:=HR.out.trans hres
  rw[hres]at h9
  obtain⟨rfl,M9,hm,hx⟩:=h9
  have H9:=zh hm
  have X9:=zh (X1.out.trans hx)
  subst e9
  clear hm hx hres
  go_wp2_with fail
  go_end0
  exact⟨rfl,M9,H9.out,X9.out⟩
end
section
variable{W0 W:World}{g:Nat}{s:ByteArray}{E:Env}{tv:Value}{L:PLay}{σ:PM}
theorem qvp(τ:PM)(c:Nat)(x:Chn)(l:Nat)(k:Int):(τ.setC c { x with lf:=some l }).setC c { ({ x with lf:=some l } :Chn)with hs:=k } =τ.setC c { x with lf:=some l,hs:=k } :=qki τ c _ _
theorem qsf(h:MM W0 g s E tv W L σ)(hk:σ.k.length<=274877906944){c:Nat}{ch:Chn}(hc:σ.C[c]?=some ch)(op:ByteArray)(own:Int)(hop:op.size<=1048576)(hct:ch.ct<=1000000000)(k1:Nat)(b1:BoxC W (L.P W0.heap.size) (.pointer (some ⟨k1,0,none⟩)) (.string op))(k2:Nat)(b2:BoxC W (L.P W0.heap.size) (.pointer (some ⟨k2,0,none⟩)) (ptr (L.B c)))(k3:Nat)(b3:BoxC W (L.P W0.heap.size) (.pointer (some ⟨k3,0,none⟩)) (.int .i64 own))(hns:stp E (.join c op own) σ≠ .error .stuck):
 Calls Tryz.prog 156 #[.pointer (some ⟨k1,0,none⟩),.pointer (some ⟨k2,0,none⟩),.pointer (some ⟨k3,0,none⟩)] W (SO (stp E (.join c op own) σ) W0 g s E tv W L σ.N.length σ.C.length):=by
 obtain⟨R,hR⟩: ∃R:Rs PM,R=stp E (.join c op own) σ:=⟨_,rfl⟩
 rw[<-hR]at hns⊢
 have HR:=zh hR
 have HNS:=zh hns
 have H0:=zh h
 have HK:=zh hk
 have HC:=zh hc
 have HCT:=zh hct
 have HOP:=zh hop
 have X0:=zh (MX.refl W0.heap.size W L σ.N.length σ.C.length)
 have B_op:=zh b1
 have B_cp:=zh b2
 have B_own:=zh b3
 clear h hR hk hc hct hop hns b1 b2 b3
 rcases hcu:σ.cur with b9 | ⟨j,x⟩
 ·obtain rfl:=qcy hcu
  exact absurd (by rw[HR.out];show(σ.ch c >>= fun h=>_)=_;rw[qic HC.out];show(σ.cur >>= fun x=>_)=_;rw[hcu];rfl) HNS.out
 obtain⟨hn_j,hx_j⟩:=qdp hcu
 have HX_j:=zh hx_j
 have HN_j:=zh hn_j
 cases hlf:ch.lf with
 | none=>exact absurd (by rw[HR.out];show(σ.ch c >>= fun h=>_)=_;rw[qic HC.out];show(σ.cur >>= fun x=>_)=_;rw[hcu];show(match ch.lf with | none=>_ | some l=>_)=_;rw[hlf]) HNS.out
 | some l=>
 have HLF:=zh hlf
 have HRR:Hid (R=(qm0 op l j σ >>= fun τ=>qbr E c (τ.setC c { ch with lf:=some σ.N.length,hs:=own }))):=zh (by rw[HR.out];show(σ.ch c >>= fun h=>_)=_;rw[qic HC.out];show(σ.cur >>= fun x=>_)=_;rw[hcu];show(match ch.lf with | none=>_ | some l=>_)=_;rw[hlf])
 clear hcu hn_j hx_j hlf
 rcases hnl:σ.nd l with b9 | y
 ·obtain rfl:=qe8 hnl
  exact absurd (by rw[HRR.out];show((σ.nd l >>= fun x=>_) >>= fun τ=>_)=_;rw[hnl];rfl) HNS.out
 have HX_l:=zh (qgq hnl)
 have hnj:σ.nd j=.ok x:=by
  unfold PM.nd;rw[HX_j.out]
 by_cases hne:l=j
 ·exact absurd (by rw[HRR.out];show((σ.nd l >>= fun x=>σ.nd j >>= fun y=>if l=j then _ else _) >>= fun τ=>_)=_;rw[hnl,hnj];show((if l=j then _ else _) >>= fun τ=>_)=_;rw[if_pos hne];rfl) HNS.out
 have HRJ:Hid (R=qbr E c ((((σ.mv l).mv j).new (nkt 14 op [y,x])).setC c { ch with lf:=some σ.N.length,hs:=own })):=zh (by
  rw[HRR.out];show((σ.nd l >>= fun x=>σ.nd j >>= fun y=>if l=j then _ else _) >>= fun τ=>_)=_;rw[hnl,hnj];show((if l=j then _ else _) >>= fun τ=>_)=_;rw[if_neg hne];rfl)
 clear hnl hnj hne
 have cop0:=B_op.out.cellv
 have ccp0:=B_cp.out.cellv
 unfold ptr at ccp0
 have cown0:=B_own.out.cellv
 go_enter Tryz.func156,Tryz.ntmps156
 have HQ:Hid (∀ {w':World} {L':PLay} {τ:PM} {nN nC:Nat},MX W0.heap.size W L σ.N.length σ.C.length w' L' nN nC->MM W0 g s E tv w' L' τ->(∃y,τ.C[c]?=some y)->τ.n=σ.n->w'.cell? ⟨k1,0,none⟩=some (.string op)/\w'.cell? ⟨k2,0,none⟩=some (.pointer (some ⟨L.B c,0,none⟩))/\w'.cell? ⟨k3,0,none⟩=some (.int .i64 own)/\w'.cell? ⟨L.B c,0,none⟩=some (.pointer (some ⟨g,0,none⟩))/\w'.cell? ⟨g,5,none⟩=some (.pointer (some ⟨L.A j,0,none⟩))):=zh (fun hx hm hc hn=>by
  obtain⟨y,hc⟩:=hc
  obtain⟨_,_,_,_,⟨h9,-⟩,-⟩:=hm.chall hc
  rw[hx.B c (List.getElem?_eq_some_iff.1 HC.out).1]at h9
  have h8:=hm.gcur (hn.trans HN_j.out)
  rw[hx.A j (qqg HX_j.out)]at h8
  have h7:=hx.cell B_cp.out
  unfold ptr at h7
  exact⟨hx.cell B_op.out,h7,hx.cell B_own.out,h9,h8⟩)
 go_wp2_with fail
 have hb9:=zA (Below.refl W.heap.size W)
 have HD9:=zh hb9
 clear hb9
 have HMD:=zh (H0.out.below HD9.out)
 have HXD:=zh (X0.out.trans (H0.out.mxb HD9.out))
 obtain⟨ca9,cb9,aa9,ab9,⟨-,-,-,-,-,c5_9,-⟩,-,-,-⟩:=HMD.out.chall HC.out
 rw[HLF.out]at c5_9
 unfold lfV ptr at c5_9
 refine wp_region_noPanic ?_
 refine wp_region_held_drew (S:=(fun w'=>w'.cell? ⟨k1,0,none⟩=some (.string op)/\w'.cell? ⟨k2,0,none⟩=some (.pointer (some ⟨L.B c,0,none⟩))/\w'.cell? ⟨k3,0,none⟩=some (.int .i64 own)/\w'.cell? ⟨L.B c,0,none⟩=some (.pointer (some ⟨g,0,none⟩))/\w'.cell? ⟨g,5,none⟩=some (.pointer (some ⟨L.A j,0,none⟩)))) (by kernel_rfl) (by(try dsimp only);(first | exact HQ.out XQ9.out HT9.out.1 ⟨_,qb2 HC7.out⟩ rfl | exact HQ.out XQ8.out HS8.out ⟨_,qb2 HC7.out⟩ rfl | exact HQ.out XQ7.out H7.out ⟨_,HC7.out⟩ rfl | exact HQ.out HXD.out HMD.out ⟨_,HC.out⟩ rfl)) (fun hHeld=>?_)
 refine tkH (i:=0) (v:=?_) rfl (Or.inl ⟨by rfl,?_⟩) ?_
 rotate_left 1
 ·(intro w' hSw;(try dsimp only at hSw);go_simp;(first | done | with_reducible rfl))
 try simp only[Act.put,zD,zF,zE]
 refine tkH (i:=1) (v:=?_) rfl (Or.inl ⟨by rfl,?_⟩) ?_
 rotate_left 1
 ·(intro w' hSw;(try dsimp only at hSw);go_simp;(first | done | with_reducible rfl))
 try simp only[Act.put,zD,zF,zE]
 refine tkH (i:=2) (v:=?_) rfl (Or.inl ⟨by rfl,?_⟩) ?_
 rotate_left 1
 ·(intro w' hSw;(try dsimp only at hSw);go_simp;(first | done | with_reducible rfl))
 try simp only[Act.put,zD,zF,zE]
 refine tkH (i:=3) (v:=?_) rfl (Or.inl ⟨by rfl,?_⟩) ?_
 rotate_left 1
 ·(intro w' hSw;(try dsimp only at hSw);go_simp;(first | done | with_reducible rfl))
 try simp only[Act.put,zD,zF,zE]
 refine tkH (i:=4) (v:=?_) rfl (Or.inl ⟨by rfl,?_⟩) ?_
 rotate_left 1
 ·(intro w' hSw;(try dsimp only at hSw);go_simp;(first | done | with_reducible rfl))
 try simp only[Act.put,zD,zF,zE]
 refine tkH (i:=5) (v:=?_) rfl (Or.inl ⟨by rfl,?_⟩) ?_
 rotate_left 1
 ·(intro w' hSw;(try dsimp only at hSw);go_simp;(first | done | with_reducible rfl))
 try simp only[Act.put,zD,zF,zE]
 refine tkH (i:=7) (v:=?_) rfl (Or.inl ⟨by rfl,?_⟩) ?_
 rotate_left 1
 ·(intro w' hSw;(try dsimp only at hSw);go_simp;(first | done | with_reducible rfl))
 try simp only[Act.put,zD,zF,zE]
 refine tkH (i:=8) (v:=?_) rfl (Or.inl ⟨by rfl,?_⟩) ?_
 rotate_left 1
 ·(intro w' hSw;(try dsimp only at hSw);go_simp;(first | done | with_reducible rfl))
 try simp only[Act.put,zD,zF,zE]
 refine tkH (i:=9) (v:=?_) rfl (Or.inl ⟨by rfl,?_⟩) ?_
 rotate_left 1
 ·(intro w' hSw;(try dsimp only at hSw);go_simp;(first | done | with_reducible rfl))
 try simp only[Act.put,zD,zF,zE]
 refine tkH (i:=10) (v:=?_) rfl (Or.inl ⟨by rfl,?_⟩) ?_
 rotate_left 1
 ·(intro w' hSw;(try dsimp only at hSw);go_simp;(first | done | with_reducible rfl))
 try simp only[Act.put,zD,zF,zE]
 refine tkH (i:=11) (v:=?_) rfl (Or.inl ⟨by rfl,?_⟩) ?_
 rotate_left 1
 ·(intro w' hSw;(try dsimp only at hSw);go_simp;(first | done | with_reducible rfl))
 try simp only[Act.put,zD,zF,zE]
 refine tkH (i:=12) (v:=?_) rfl (Or.inl ⟨by rfl,?_⟩) ?_
 rotate_left 1
 ·(intro w' hSw;(try dsimp only at hSw);go_simp;(first | done | with_reducible rfl))
 try simp only[Act.put,zD,zF,zE]
 refine tkH (i:=13) (v:=?_) rfl (Or.inl ⟨by rfl,?_⟩) ?_
 rotate_left 1
 ·(intro w' hSw;(try dsimp only at hSw);go_simp;(first | done | with_reducible rfl))
 try simp only[Act.put,zD,zF,zE]
 refine tkH (i:=15) (v:=?_) rfl (Or.inl ⟨by rfl,?_⟩) ?_
 rotate_left 1
 ·(intro w' hSw;(try dsimp only at hSw);go_simp;(first | done | with_reducible rfl))
 try simp only[Act.put,zD,zF,zE]
 refine wpAnyH_ready (rs:=[6]) (by kernel_rfl) (by simp) ?_
 refine AllReadyH.cons rfl (fun K hK=>?_) AllReadyH.nil
 go_simp
 refine hK.out _ _ (by(try dsimp only);(first | exact HQ.out XQ9.out HT9.out.1 ⟨_,qb2 HC7.out⟩ rfl | exact HQ.out XQ8.out HS8.out ⟨_,qb2 HC7.out⟩ rfl | exact HQ.out XQ7.out H7.out ⟨_,HC7.out⟩ rfl | exact HQ.out HXD.out HMD.out ⟨_,HC.out⟩ rfl)) (fun hHeld=>?_)
 clear hK K
 try simp only[Act.put,zD,zF,zE]
 refine wpAnyH_ready (rs:=[14]) (by kernel_rfl) (by simp) ?_
 refine AllReadyH.cons rfl (fun K hK=>?_) AllReadyH.nil
 go_simp
 try (first | (go_at_call 157;have q7:=twoM (σ:=σ) HMD.out HX_l.out HX_j.out op HOP.out;refine q7.mono ?_;clear q7;rintro e w7 ⟨M7,rfl,hm,hx⟩;have HC7:=zh (show(((σ.mv l).mv j).new (nkt 14 op [y,x])).C[c]?=some ch from HC.out);have hB7:=(HXD.out.trans hx).B c (List.getElem?_eq_some_iff.1 HC.out).1;have hf5:=(hm.chall HC7.out).choose_spec.choose_spec.choose_spec.choose_spec.2.2.2 5;have hc5:=(hm.chall HC7.out).choose_spec.choose_spec.choose_spec.choose_spec.1.2.2.2.2.2.1;have hs9:=hm.setLf HC7.out (l:=σ.N.length) (by show _< (((σ.N.set _ _).set _ _)++[_]).length;simp);have HS9:=zh hs9;have hf6:=(hs9.1.chall (qb2 HC7.out)).choose_spec.choose_spec.choose_spec.choose_spec.2.2.2 6;have hc6:=(hs9.1.chall (qb2 HC7.out)).choose_spec.choose_spec.choose_spec.choose_spec.1.2.2.2.2.2.2;have ht9:=hs9.1.setHs (qb2 HC7.out) own;rw[qvp]at ht9;rw[hB7]at hf5 hc5 hf6 hc6 hs9 ht9;have HT9:=zh ht9;have H7:=zh hm;have XQ7:=zh (HXD.out.trans hx);have XQ8:=zh (XQ7.out.trans (by have h:=HS9.out.2;rw[hB7]at h;exact h));have XQ9:=zh (XQ8.out.trans HT9.out.2);have HS8:=zh hs9.1;clear hs9 ht9 hm hx))
 refine hK.out _ _ (by(try dsimp only);(first | exact HQ.out XQ9.out HT9.out.1 ⟨_,qb2 HC7.out⟩ rfl | exact HQ.out XQ8.out HS8.out ⟨_,qb2 HC7.out⟩ rfl | exact HQ.out XQ7.out H7.out ⟨_,HC7.out⟩ rfl | exact HQ.out HXD.out HMD.out ⟨_,HC.out⟩ rfl)) (fun hHeld=>?_)
 clear hK K
 try simp only[Act.put,zD,zF,zE]
 refine tkH (i:=16) (v:=?_) rfl (Or.inl ⟨by rfl,?_⟩) ?_
 rotate_left 1
 ·(intro w' hSw;(try dsimp only at hSw);go_simp;(first | done | with_reducible rfl))
 try simp only[Act.put,zD,zF,zE]
 refine tkH (i:=17) (v:=?_) rfl (Or.inl ⟨by rfl,?_⟩) ?_
 rotate_left 1
 ·(intro w' hSw;(try dsimp only at hSw);go_simp;(first | done | with_reducible rfl))
 try simp only[Act.put,zD,zF,zE]
 refine wpAnyH_ready (rs:=[18]) (by kernel_rfl) (by simp) ?_
 refine AllReadyH.cons rfl (fun K hK=>?_) AllReadyH.nil
 go_simp
 refine hK.out _ _ (by(try dsimp only);(first | exact HQ.out XQ9.out HT9.out.1 ⟨_,qb2 HC7.out⟩ rfl | exact HQ.out XQ8.out HS8.out ⟨_,qb2 HC7.out⟩ rfl | exact HQ.out XQ7.out H7.out ⟨_,HC7.out⟩ rfl | exact HQ.out HXD.out HMD.out ⟨_,HC.out⟩ rfl)) (fun hHeld=>?_)
 clear hK K
 try simp only[Act.put,zD,zF,zE]
 refine tkH (i:=19) (v:=?_) rfl (Or.inl ⟨by rfl,?_⟩) ?_
 rotate_left 1
 ·(intro w' hSw;(try dsimp only at hSw);go_simp;(first | done | with_reducible rfl))
 try simp only[Act.put,zD,zF,zE]
 refine tkH (i:=20) (v:=?_) rfl (Or.inl ⟨by rfl,?_⟩) ?_
 rotate_left 1
 ·(intro w' hSw;(try dsimp only at hSw);go_simp;(first | done | with_reducible rfl))
 try simp only[Act.put,zD,zF,zE]
 refine wpAnyH_ready (rs:=[21]) (by kernel_rfl) (by simp) ?_
 refine AllReadyH.cons rfl (fun K hK=>?_) AllReadyH.nil
 go_simp
 refine hK.out _ _ (by(try dsimp only);(first | exact HQ.out XQ9.out HT9.out.1 ⟨_,qb2 HC7.out⟩ rfl | exact HQ.out XQ8.out HS8.out ⟨_,qb2 HC7.out⟩ rfl | exact HQ.out XQ7.out H7.out ⟨_,HC7.out⟩ rfl | exact HQ.out HXD.out HMD.out ⟨_,HC.out⟩ rfl)) (fun hHeld=>?_)
 clear hK K
 try simp only[Act.put,zD,zF,zE]
 refine wpAnyH_done (by kernel_rfl) ?_ _
 refine NoPanic.normal ?_
 all_goals go_wp2_with fail
 all_goals
  have q9:=qps (c:=c) (ch:= { ch with lf:=some σ.N.length,hs:=own }) HT9.out.1 HK.out (qb2 HC7.out) HCT.out (by rw[<-HRJ.out];exact HNS.out)
  rw[hB7]at q9
  refine q9.mono ?_
  clear q9
  rw[<-HRJ.out]
  intro e w9 h9
  cases hres:R with
  | error b=>
   subst hres
   cases b with
   | die=>
    obtain⟨⟨u,pv,rfl⟩,hb⟩:=h9
    have HB9:=zh hb
    clear hb
    go_wp2_with fail
    exact⟨rfl,⟨_,_,rfl⟩,HB9.out⟩
   | stuck=>exact absurd rfl HNS.out
  | ok τ=>
   subst hres
   obtain⟨rfl,M9,hm,hx⟩:=h9
   have H9:=zh hm
   have X9:=zh (XQ9.out.trans hx)
   clear hm hx
   go_wp2_with fail
   go_end0
   exact⟨rfl,M9,H9.out,X9.out⟩
end
section
variable{W0 W:World}{g:Nat}{s:ByteArray}{E:Env}{tv:Value}{L:PLay}{σ:PM}
theorem qsp(h:MM W0 g s E tv W L σ)(hk:σ.k.length<=274877906944)(lv:Int)(ss:List Bs)(sa:Option Addr)(sc:Nat)(hl:ss.length<=100)(hst:StIn W (L.P W0.heap.size) (.slice sa ss.length sc) (ss.map (fun s=>⟨s.toArray⟩)))(k1:Nat)(b1:BoxC W (L.P W0.heap.size) (.pointer (some ⟨k1,0,none⟩)) (ptr g))(k2:Nat)(b2:BoxC W (L.P W0.heap.size) (.pointer (some ⟨k2,0,none⟩)) (.slice sa ss.length sc))(k3:Nat)(b3:BoxC W (L.P W0.heap.size) (.pointer (some ⟨k3,0,none⟩)) (.int .i64 lv))(hx: ∃j,σ.n=some j):
 Calls Tryz.prog 215 #[.pointer (some ⟨k1,0,none⟩),.pointer (some ⟨k2,0,none⟩),.pointer (some ⟨k3,0,none⟩)] W (SO (stp E (.perM lv ss) σ) W0 g s E tv W L σ.N.length σ.C.length):=by
 obtain⟨R,hR⟩: ∃R:Rs PM,R=stp E (.perM lv ss) σ:=⟨_,rfl⟩
 rw[<-hR]
 obtain⟨j,hn_j⟩:=hx
 have HRR:Hid (R=qct E lv j ss σ):=zh (by rw[hR];show(match σ.n with | some j=>_ | none=>_)=_;rw[hn_j])
 have H0:=zh h
 have HK:=zh hk
 have HSL:=zh hl
 have ST0:=zh hst
 have X0:=zh (MX.refl W0.heap.size W L σ.N.length σ.C.length)
 have B_r:=zh b1
 have B_ss:=zh b2
 have B_lv:=zh b3
 have HN_j:=zh hn_j
 have cr0:=b1.cellv
 unfold ptr at cr0
 have css0:=b2.cellv
 have clv0:=b3.cellv
 clear h hR hk hl hst b1 b2 b3 hn_j
 go_enter Tryz.func215,Tryz.ntmps215
 have g5_0:=H0.out.gcur HN_j.out
 have hb:=qa1 W (.cells #[ptr (L.A j)] 74)
 have B_left:=zh (H0.out.boxT (W.heap.size) (by simp) (ptr (L.A j)) 74)
 have H1:=zh (H0.out.below hb)
 have Y1:=zh (H0.out.mxb hb)
 have X1:=zh (X0.out.trans Y1.out)
 have B_r_1:=zh (Y1.out.box B_r.out)
 have cr1:=B_r_1.out.cellv
 unfold ptr at cr1
 have B_ss_1:=zh (Y1.out.box B_ss.out)
 have css1:=B_ss_1.out.cellv
 have B_lv_1:=zh (Y1.out.box B_lv.out)
 have clv1:=B_lv_1.out.cellv
 clear hb
 have ST1:=zh (Y1.out.st ST0.out)
 unfold ptr at*
 go_wp2_with fail
 go_loopg [12] ss.length (fun gn i wr=> ∃m:Nat,gn=ss.length-m/\m<=ss.length/\i=.int .i64 (m:Int)/\Hid (qct E lv j (ss.drop m) σ=R)/\Hid (MM W0 g s E tv wr L σ)/\Hid (MX W0.heap.size W L σ.N.length σ.C.length wr L σ.N.length σ.C.length)/\Hid (BoxC wr (L.P W0.heap.size) (.pointer (some ⟨W.heap.size,0,none⟩)) (.pointer (some ⟨L.A j,0,none⟩))))
 case atStart=>exact⟨0,by omega,zI _,rfl,zh (by rw[List.drop_zero];exact HRR.out.symm),H1,X1,B_left⟩
 case round=>
  obtain⟨m,hgn,hm,rfl,HP,HM,HX,HL⟩:=hrel
  have HGN:=zh hgn
  have HMM:=zh hm
  clear hgn
  have r0:=HX.out.cell B_r.out
  have l0:=HX.out.cell B_lv.out
  have f0:=HL.out.cellv
  unfold ptr at r0
  have st9:=HX.out.st ST0.out
  by_cases hlt:m<ss.length
  ·skip
   obtain⟨t,hts⟩: ∃t,ss[m]?=some t:=⟨_,zC hlt⟩
   have hdr:=qjn hts
   have HPP:=HP.out
   rw[hdr]at HPP
   have HPS:Hid (R=(sgE E 9 t σ.i >>= fun q=>if q.1=true then .ok ((σ.at_ q.2).plan [.expr lv,.per2 t j])else qct E lv j (ss.drop (m+1)) σ)):=zh HPP.symm
   clear HPP hdr
   obtain⟨sa',sc',e9,hcell⟩:=st9
   obtain⟨q9,o9,ha9,-,-,hc9⟩:=hcell (by simp;omega)
   have hc8:=hc9 m _ (by rw[List.getElem?_map,hts];rfl)
   obtain⟨rfl,rfl⟩:sa=sa'/\sc=sc':=by
    simp only[Value.slice.injEq]at e9
    exact⟨e9.1,e9.2.2⟩
   subst ha9
   have hm0:(0:Int)<=(m:Int):=by omega
   have hml:(m:Int)< (ss.length:Int):=by omega
   have hm100:(m:Int)<100:=by have:=HSL.out;omega
   clear hcell hc9 e9 hts hlt
   have hbB:=qa1 wr (.cells #[.string ⟨t.toArray⟩] 9)
   have HB1:=zh hbB
   have BB:=zh (HM.out.boxT wr.heap.size rfl (.string ⟨t.toArray⟩) 9)
   clear hbB
   have HM1:=zh (HM.out.below HB1.out)
   have HX1:=zh (HX.out.trans (HM.out.mxb HB1.out))
   have HL1:=zh ((HM.out.mxb HB1.out).box HL.out)
   have r1:=HX1.out.cell B_r.out
   have l1:=HX1.out.cell B_lv.out
   have f1:=HL1.out.cellv
   have b1:=BB.out.cellv
   unfold ptr at r1
   go_wp2_with fail
   have q2:=qdd HM1.out t
   try unfold ptr at q2
   refine q2.mono ?_
   clear q2
   intro e w2 h2
   rcases hr2:sgE E 9 t σ.i with x9 | ⟨b,i2⟩
   ·obtain rfl:=qax (qae hr2)
    rw[hr2]at h2
    obtain⟨⟨u,pv,rfl⟩,hb⟩:=h2
    have HB9:=zh hb
    obtain rfl:R=.error .die:=by rw[HPS.out,hr2];rfl
    clear hb hr2
    go_wp2_with fail
    exact⟨rfl,⟨_,_,rfl⟩,HB9.out⟩
   ·rw[hr2]at h2
    obtain⟨rfl,hm2,hx2⟩:=h2
    have HM2:=zh hm2
    have HY2:=zh hx2
    have HX2:=zh (HX1.out.trans HY2.out)
    have HL2:=zh (HY2.out.box HL1.out)
    have BB2:=zh (HY2.out.box BB.out)
    clear hm2 hx2
    cases b
    ·obtain rfl:=qdu hr2
     have HPN:=zh (show R=qct E lv j (ss.drop (m+1)) σ by rw[HPS.out,hr2];rfl)
     clear hr2
     go_wp2_with fail
     go_roundg (ss.length- (m+1))
     all_goals first
      | (have h9:=HGN.out;have h8:=HMM.out;omega)
      | exact⟨m+1,rfl,by omega,by simp,zh HPN.out.symm,HM2,HX2,HL2⟩
    ·have HPN:=zh (show R=.ok ((σ.at_ i2).plan [.expr lv,.per2 t j])by rw[HPS.out,hr2];rfl)
     obtain rfl:=HPN.out
     clear hr2
     have HQ:Hid (∀ {w':World} {L':PLay} {nN nC:Nat},MX W0.heap.size W L σ.N.length σ.C.length w' L' nN nC->w'.cell? ⟨k1,0,none⟩=some (.pointer (some ⟨g,0,none⟩))/\w'.cell? ⟨k3,0,none⟩=some (.int .i64 lv)):=zh (fun hx=>⟨hx.cell B_r.out,hx.cell B_lv.out⟩)
     go_wp2_with fail
     have hb:=zA (Below.refl w2.heap.size w2)
     have H3:=zh (HM2.out.below hb)
     have Y3:=zh (HM2.out.mxb hb)
     have X3:=zh (HX2.out.trans Y3.out)
     have B_bt_3:=zh (Y3.out.box BB2.out)
     have cbt3:=B_bt_3.out.cellv
     have B_left_3:=zh (Y3.out.box HL2.out)
     have cleft3:=B_left_3.out.cellv
     clear hb
     go_region_held3 (fun w'=>w'.cell? ⟨k1,0,none⟩=some (.pointer (some ⟨g,0,none⟩))/\w'.cell? ⟨k3,0,none⟩=some (.int .i64 lv)) (first | exact HQ.out X6.out | exact HQ.out X4.out | exact HQ.out X3.out | exact HQ.out (X4.out.trans (H4.out.mxb (qa1 _ _)))) (first | (go_at_call 37;have q4:=qds (σ:=σ.at_ i2) H3.out lv;try unfold ptr at q4;refine q4.mono ?_;clear q4;rintro e w4 ⟨ve,rfl,hv,hb⟩;obtain⟨fK4,fF4,fC4,rfl⟩:=hv.fn;have V4:=zh hv;have H4:=zh (H3.out.below hb);have Y4:=zh (H3.out.mxb hb);have X4:=zh (X3.out.trans Y4.out);have B_bt_4:=zh (Y4.out.box B_bt_3.out);have cbt4:=B_bt_4.out.cellv;have B_left_4:=zh (Y4.out.box B_left_3.out);have cleft4:=B_left_4.out.cellv;clear hv hb) | (go_at_call 36;have V5:=zh ((IsC.per2 t j _ _ _ B_bt_4.out B_left_4.out (X4.out.box B_r.out) (H0.out.nb j HN_j.out):IsC w4 (L.P W0.heap.size) g L.A L.B (σ.at_ i2).N.length (σ.at_ i2).C.length _ (.per2 t j)));refine(qbh H4.out _ (by simp) [_,_] [.expr lv,.per2 t j] 2 rfl (zH HK.out (by decide)) (by decide) _ ⟨V4.out,⟨V5.out,trivial⟩⟩).mono ?_;rintro e w6 ⟨rfl,M6,hm,hx⟩;have H6:=zh hm;have Y6:=zh hx;have X6:=zh (X4.out.trans Y6.out);have B_bt_6:=zh (Y6.out.box B_bt_4.out);have cbt6:=B_bt_6.out.cellv;have B_left_6:=zh (Y6.out.box B_left_4.out);have cleft6:=B_left_6.out.cellv;have ve_6:=zh (Y6.out.isc V4.out);have vp_6:=zh (Y6.out.isc V5.out);clear hm hx))
     all_goals go_wp2_with fail
     all_goals go_end0
     all_goals exact⟨rfl,M6,H6.out,X6.out⟩
  ·have hme:m=ss.length:=by omega
   subst hme
   have HPN:=zh (show R=.ok σ by rw[<-HP.out,List.drop_length];rfl)
   obtain rfl:=HPN.out
   clear hlt
   go_wp2_with fail
   go_end0
   exact⟨rfl,L,HM.out,HX.out⟩
end
section
variable{W0 W:World}{g:Nat}{s:ByteArray}{E:Env}{tv:Value}{L:PLay}{σ:PM}
theorem lens{t:Bs}:(⟨t.toArray⟩:ByteArray).size=t.length:=by show t.toArray.size=_;simp
theorem qtn(h:MM W0 g s E tv W L σ)(hk:σ.k.length<=274877906944){B:Nat}(hb:Bd E B σ)(hB:B<=1000000000000){K:FuncId}{fF fC:Array Value}{st:Stp}(hv:IsC W (L.P W0.heap.size) g L.A L.B σ.N.length σ.C.length (.func (.func K) fF fC) st)(hok:okS st)(hns:stp E st σ≠ .error .stuck):
 Calls Tryz.prog K (fF++fC) W (SO (stp E st σ) W0 g s E tv W L σ.N.length σ.C.length):=by
 have hto:=h.toLe.1
 cases hv with
 | expr lv p q h1 h2=>
  obtain⟨c1,rfl,r1⟩:=id h1
  obtain⟨c2,rfl,r2⟩:=id h2
  exact qs9 h hk lv c1 h1 c2 h2 hns
 | prim=>
  exact qsr h hk hns
 | folw c hc=>
  obtain⟨ch,hch⟩: ∃ch,σ.C[c]?=some ch:=⟨_,zC hc⟩
  obtain⟨q1,q2,q3⟩:=hb.C c ch hch
  exact qsa h hk hch (by omega) (by omega) q3 hns
 | join c op own p q r h1 h2 h3 hc=>
  obtain⟨c1,rfl,r1⟩:=id h1
  obtain⟨c2,rfl,r2⟩:=id h2
  obtain⟨c3,rfl,r3⟩:=id h3
  obtain⟨ch,hch⟩: ∃ch,σ.C[c]?=some ch:=⟨_,zC hc⟩
  obtain⟨q1,q2,q3⟩:=hb.C c ch hch
  exact qsf h hk hch op own hok (by omega) c1 h1 c2 h2 c3 h3 hns
 | call=>
  exact qs6 h hk hns
 | chgd=>
  exact chgdM h hk hns
 | remo=>
  exact qss h hk hns
 | clld=>
  exact qs7 h hk hns
 | into n p q h1 h2 hn=>
  obtain⟨c1,rfl,r1⟩:=id h1
  obtain⟨c2,rfl,r2⟩:=id h2
  exact qsd h n c1 h1 c2 h2 (fun y hy=>zH (hb.N n y hy) hB) hns
 | tail n k t p q r v h1 h2 h3 h4 hn=>
  obtain⟨c1,rfl,r1⟩:=id h1
  obtain⟨c2,rfl,r2⟩:=id h2
  obtain⟨c3,rfl,r3⟩:=id h3
  exact qkk h hk n k t v h4 c1 h1 c2 h2 c3 h3 hns
 | item o p q v h1 h2 h3=>
  obtain⟨c1,rfl,r1⟩:=id h1
  obtain⟨c2,rfl,r2⟩:=id h2
  exact qse h hk o v h3 c1 h1 c2 h2
 | nots T p q u h1 h2 h3=>
  obtain⟨c1,rfl,r1⟩:=id h1
  obtain⟨c2,rfl,r2⟩:=id h3
  obtain⟨ua,uc,rfl⟩:=qe5 h2
  exact qsk h T ua uc h2 c1 h1 c2 h3 hns
 | row n b o p q r t v1 v2 v3 h1 h2 h3 h4 h5 h6 h7=>
  obtain⟨c1,rfl,r1⟩:=id h1
  obtain⟨c2,rfl,r2⟩:=id h2
  obtain⟨c3,rfl,r3⟩:=id h4
  obtain⟨c4,rfl,r4⟩:=id h6
  exact qvv h hk n b o v1 v2 v3 h3 h5 h7 c1 h1 c2 h2 c3 h4 c4 h6
 | more n b o p x q r t v1 v2 h1 h2 h3 h4 h5 h6 h7=>
  obtain⟨c1,rfl,r1⟩:=id h1
  obtain⟨c2,rfl,r2⟩:=id h2
  obtain⟨c3,rfl,r3⟩:=id h3
  obtain⟨c4,rfl,r4⟩:=id h5
  obtain⟨c5,rfl,r5⟩:=id h7
  exact qsi h hk n b o c1 c2 c3 c4 c5 v1 v2 h4 h6 (.more n b o _ _ _ _ _ v1 v2 h1 h2 h3 h4 h5 h6 h7) h1 h2 h3 h5 h7
 | wantS t p q h1 h2=>
  obtain⟨c1,rfl,r1⟩:=id h1
  obtain⟨c2,rfl,r2⟩:=id h2
  exact qi3 h t c1 h1 c2 h2
 | wantW t p q h1 h2=>
  obtain⟨c1,rfl,r1⟩:=id h1
  obtain⟨c2,rfl,r2⟩:=id h2
  exact qi4 h t c1 h1 c2 h2
 | box n o one p x q r v h1 h2 h3 h4 h5 hn=>
  obtain⟨c1,rfl,r1⟩:=id h1
  obtain⟨c2,rfl,r2⟩:=id h2
  obtain⟨c3,rfl,r3⟩:=id h3
  obtain⟨c4,rfl,r4⟩:=id h4
  exact qvu h hk n o one v h5 c1 h1 c2 h2 c3 h3 c4 h4 hns
 | listK n p q r v h1 h2 h3 h4 hn=>
  obtain⟨c1,rfl,r1⟩:=id h1
  obtain⟨c2,rfl,r2⟩:=id h2
  obtain⟨c3,rfl,r3⟩:=id h3
  exact qo9 h hk n v h4 c1 h1 c2 h2 c3 h3 hns
 | perh lv ss p q r v h1 h2 h3 h4=>
  obtain⟨c1,rfl,r1⟩:=id h1
  obtain⟨c2,rfl,r2⟩:=id h2
  obtain⟨c3,rfl,r3⟩:=id h3
  exact qsq h hk lv ss v h4 c1 h1 c2 h2 c3 h3
 | perM lv ss p q r u h1 h2 h3 h4 h5=>
  obtain⟨c1,rfl,r1⟩:=id h1
  obtain⟨c2,rfl,r2⟩:=id h2
  obtain⟨c3,rfl,r3⟩:=id h4
  obtain⟨sa,sc,rfl⟩:=qe5 h3
  rw[List.length_map]at h2 h3
  exact qsp h hk lv ss sa sc h5 h3 c1 h1 c2 h2 c3 h4 (by
   cases hn:σ.n with
   | none=>exact absurd (by show(match σ.n with | some j=>qct E lv j ss σ | none=>.error .stuck)=_;rw[hn]) hns
   | some j=>exact⟨j,rfl⟩)
 | per2 op left p q r h1 h2 h3 hn=>
  obtain⟨c1,rfl,r1⟩:=id h1
  obtain⟨c2,rfl,r2⟩:=id h2
  obtain⟨c3,rfl,r3⟩:=id h3
  exact qso h hk op left (by rw[lens];exact hok) c1 h1 c2 h2 c3 h3 hns
 | bodyO n p q r v h1 h2 h3 h4 hn=>
  obtain⟨c1,rfl,r1⟩:=id h1
  obtain⟨c2,rfl,r2⟩:=id h2
  obtain⟨c3,rfl,r3⟩:=id h3
  exact qo8 h hk n v h4 c1 h1 c2 h2 c3 h3 hns
 | blnk b p q h1 h2=>
  obtain⟨c1,rfl,r1⟩:=id h1
  obtain⟨c2,rfl,r2⟩:=id h2
  exact qs4 h b c1 h1 c2 h2 hns
 | val=>
  exact qvw h hk hns
 | sized=>
  exact qoa h hk hns
 | segm=>
  exact qst h hk
 | pair=>
  exact qsl h hk
 | patC=>
  exact qsm h hk
 | funC=>
  exact qsb h hk
 | tstC=>
  exact qsu h hk
 | lstC=>
  exact qsh h hk
 | patt=>
  exact qsn h hk
 | guar=>
  exact qsc h hk
 | alts=>
  exact qkj h hk
 | cond=>
  exact qs8 h hk
 | body=>
  exact qs5 h hk
 | noth k p q h1 h2=>
  obtain⟨c1,rfl,r1⟩:=id h1
  obtain⟨c2,rfl,r2⟩:=id h2
  exact qsj h k c1 h1 c2 h2
 | arrow n p q h1 h2 hn=>
  obtain⟨c1,rfl,r1⟩:=id h1
  obtain⟨c2,rfl,r2⟩:=id h2
  exact qo7 h hk n c1 h1 c2 h2 hns
 | last n p q h1 h2 hn=>
  obtain⟨c1,rfl,r1⟩:=id h1
  obtain⟨c2,rfl,r2⟩:=id h2
  exact qsg h hk n c1 h1 c2 h2 hns
end
end Go.Proofs.YtdhadeeajgoedaaGreat
