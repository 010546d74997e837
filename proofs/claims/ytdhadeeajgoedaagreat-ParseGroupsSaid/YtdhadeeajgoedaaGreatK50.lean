/-
  What the claims stand on: PmStepZ, PmStepEx.
-/
import Derived.Test.YtdhadeeajgoedaaGreatK49
import Derived.Deep.RegionHeld3
set_option maxRecDepth 100000
set_option maxHeartbeats 4000000
set_option linter.unusedVariables false
set_option linter.unusedSimpArgs false
namespace Go.Proofs.YtdhadeeajgoedaaGreat
open Go.RowKit Go.PlainAid
def begX(lv:Int)(k:Nat)(A:List ByteArray):Chn:= { lv:=lv,ct:=k,ah:=A,hs:=if A=[]then 11 else 10 }
def begS(σ:PM)(c:Nat)(lv:Int)(i k:Nat)(A:List ByteArray):PM:= { σ.setC c (begX lv k A)with i:=i }
def begR(E:Env)(lv:Int)(c:Nat)(σ:PM):Rs PM:=do
 let a<-ctL E lv (E.to+2) σ.i 0
 let b<-pfL E (E.to+2) a.2 []
 .ok (({ σ.setC c { begX lv a.1 b.1 with st:=E.sign (pz b.2) [40] } with i:=b.2 } :PM).plan [.prim,.folw c])
def begJ(W0:World)(g:Nat)(s:ByteArray)(E:Env)(tv:Value)(W:World)(L:PLay)(σ:PM)(c:Nat)(lv:Int)(l m:Nat)(a':Act)(w':World):Prop:=
 ∃(i k:Nat) (A:List ByteArray) (M:PLay),Hid (MM W0 g s E tv w' M (begS σ c lv i k A))/\Hid (MX W0.heap.size W L σ.N.length σ.C.length w' M (begS σ c lv i k A).N.length (begS σ c lv i k A).C.length)/\Hid (M.B c=L.B c)/\Hid (k<=i/\A.length<=i)/\
  ((l=0/\A=[]/\ ∃f,m=f+E.to+3/\Hid (ctL E lv f i k=ctL E lv (E.to+2) σ.i 0))\/(l=1/\ ∃f i0,m=f/\Hid (ctL E lv (E.to+2) σ.i 0=.ok (k,i0))/\Hid (pfL E f i A=pfL E (E.to+2) i0 [])))/\
  Hid (a'.tmps.size=71/\a'.tmps[0]?=some (.pointer (some ⟨L.B c,0,none⟩))/\a'.defers=[])
theorem qiz(l:List Value):l=(List.range l.length).map (fun i=>l.getD i undef):=List.ext_getElem (by simp) (fun i h1 h2=>by simp[List.getD_eq_getElem?_getD,h1])
theorem qn7{a':Act}{p:Value}(h:a'.tmps.size=71/\a'.tmps[0]?=some p/\a'.defers=[]): ∃us:Nat->Value,a'= { tmps:= #[p,us 1,us 2,us 3,us 4,us 5,us 6,us 7,us 8,us 9,us 10,us 11,us 12,us 13,us 14,us 15,us 16,us 17,us 18,us 19,us 20,us 21,us 22,us 23,us 24,us 25,us 26,us 27,us 28,us 29,us 30,us 31,us 32,us 33,us 34,us 35,us 36,us 37,us 38,us 39,us 40,us 41,us 42,us 43,us 44,us 45,us 46,us 47,us 48,us 49,us 50,us 51,us 52,us 53,us 54,us 55,us 56,us 57,us 58,us 59,us 60,us 61,us 62,us 63,us 64,us 65,us 66,us 67,us 68,us 69,us 70],defers:=[] } :=by
 obtain⟨⟨l⟩,d⟩:=a'
 obtain⟨h1,h2,h3⟩:=h
 replace h1:l.length=71:=h1
 replace h3:d=[]:=h3
 subst h3
 have e:=qiz l
 rw[h1]at e
 refine⟨fun i=>l.getD i undef,?_⟩
 have h4:l[0]?=some p:=by simpa using h2
 have h5:l.getD 0 undef=p:=by rw[List.getD_eq_getElem?_getD,h4];rfl
 rw[<-h5]
 show({ tmps:=⟨l⟩,defers:=[] } :Act)= { tmps:=⟨(List.range 71).map (fun i=>l.getD i undef)⟩,defers:=[] }
 rw[<-e]
section
variable{W0 W:World}{g:Nat}{s:ByteArray}{E:Env}{tv:Value}{L:PLay}{σ:PM}
theorem begJ_1{W':World}{c:Nat}{lv:Int}{m:Nat}{a':Act}(h:begJ W0 g s E tv W L σ c lv 1 m a' W'): ∃(i k:Nat) (A:List ByteArray) (M:PLay) (i0:Nat),Hid (MM W0 g s E tv W' M (begS σ c lv i k A))/\Hid (MX W0.heap.size W L σ.N.length σ.C.length W' M (begS σ c lv i k A).N.length (begS σ c lv i k A).C.length)/\Hid (M.B c=L.B c)/\Hid (k<=i/\A.length<=i)/\Hid (ctL E lv (E.to+2) σ.i 0=.ok (k,i0))/\Hid (pfL E m i A=pfL E (E.to+2) i0 [])/\
 ∃us:Nat->Value,a'= { tmps:= #[.pointer (some ⟨L.B c,0,none⟩),us 1,us 2,us 3,us 4,us 5,us 6,us 7,us 8,us 9,us 10,us 11,us 12,us 13,us 14,us 15,us 16,us 17,us 18,us 19,us 20,us 21,us 22,us 23,us 24,us 25,us 26,us 27,us 28,us 29,us 30,us 31,us 32,us 33,us 34,us 35,us 36,us 37,us 38,us 39,us 40,us 41,us 42,us 43,us 44,us 45,us 46,us 47,us 48,us 49,us 50,us 51,us 52,us 53,us 54,us 55,us 56,us 57,us 58,us 59,us 60,us 61,us 62,us 63,us 64,us 65,us 66,us 67,us 68,us 69,us 70],defers:=[] } :=by
 obtain⟨i,k,A,M,h1,h2,h3,h4,h | ⟨-,f,i0,e,h5,h6⟩,h9⟩:=h
 ·cases h.1
 ·subst e
  exact⟨i,k,A,M,i0,h1,h2,h3,h4,h5,h6,qn7 h9.out⟩
theorem begJ_0{W':World}{c:Nat}{lv:Int}{m:Nat}{a':Act}(h:begJ W0 g s E tv W L σ c lv 0 m a' W'): ∃(i k:Nat) (M:PLay) (f:Nat),m=f+E.to+3/\Hid (MM W0 g s E tv W' M (begS σ c lv i k []))/\Hid (MX W0.heap.size W L σ.N.length σ.C.length W' M (begS σ c lv i k []).N.length (begS σ c lv i k []).C.length)/\Hid (M.B c=L.B c)/\Hid (k<=i)/\Hid (ctL E lv f i k=ctL E lv (E.to+2) σ.i 0)/\
 ∃us:Nat->Value,a'= { tmps:= #[.pointer (some ⟨L.B c,0,none⟩),us 1,us 2,us 3,us 4,us 5,us 6,us 7,us 8,us 9,us 10,us 11,us 12,us 13,us 14,us 15,us 16,us 17,us 18,us 19,us 20,us 21,us 22,us 23,us 24,us 25,us 26,us 27,us 28,us 29,us 30,us 31,us 32,us 33,us 34,us 35,us 36,us 37,us 38,us 39,us 40,us 41,us 42,us 43,us 44,us 45,us 46,us 47,us 48,us 49,us 50,us 51,us 52,us 53,us 54,us 55,us 56,us 57,us 58,us 59,us 60,us 61,us 62,us 63,us 64,us 65,us 66,us 67,us 68,us 69,us 70],defers:=[] } :=by
 obtain⟨i,k,A,M,h1,h2,h3,h4,⟨-,rfl,f,e,h5⟩ | h,h9⟩:=h
 ·exact⟨i,k,M,f,e,h1,h2,h3,zh h4.out.1,h5,qn7 h9.out⟩
 ·cases h.1
theorem qmn{c:Nat}{lv:Int}{i k:Nat}{A:List ByteArray}{x:Chn}(hc:σ.C[c]?=some x):(begS σ c lv i k A).C[c]?=some (begX lv k A):=qb1 hc
theorem qsx{c:Nat}{lv:Int}(hc:σ.C[c]?=some { lv:=lv }):begS σ c lv σ.i 0 []=σ:=by
 obtain⟨hl,e⟩:=List.getElem?_eq_some_iff.1 hc
 show({ σ with C:=σ.C.set c _ } :PM)=σ
 have:σ.C.set c (begX lv 0 [])=σ.C:=by
  show σ.C.set c ({ lv:=lv } :Chn)=σ.C
  rw[<-e];exact List.set_getElem_self hl
 rw[this]
theorem qmo{c:Nat}{lv:Int}{i k j:Nat}:((begS σ c lv i k []).at_ j).setC c { begX lv k []with ct:=k+1 } =begS σ c lv j (k+1) []:=by
 simp[begS,begX,PM.setC,PM.at_,List.set_set]
theorem qei{c:Nat}{lv:Int}{i k j:Nat}{A:List ByteArray}{t:ByteArray}:((begS σ c lv i k A).at_ j).setC c { begX lv k A with ah:=A++[t],hs:=10 } =begS σ c lv j k (A++[t]):=by
 simp[begS,begX,PM.setC,PM.at_,List.set_set]
theorem qjd{c:Nat}{lv:Int}{i k:Nat}{A:List ByteArray}{b:Bool}:(begS σ c lv i k A).setC c { begX lv k A with st:=b } =({ σ.setC c { begX lv k A with st:=b } with i:=i } :PM):=by
 simp[begS,PM.setC,List.set_set]
theorem ct_die{E:Env}{lv:Int}{f i k:Nat}{b:Bad}(h1:lv<=0)(h:sgE E 8 [99,97,116,99,104] i=.error b):ctL E lv (f+1) i k=.error .die:=by
 unfold sgE at h
 split at h
 ·rename_i hw
  unfold ctL
  rw[if_pos (by rw[decide_eq_true h1];exact hw)]
  cases ht:tkE E i with
  | error e=>rw[qqa ht];rfl
  | ok j=>rw[ht]at h;cases h
 ·cases h
theorem ct_no{E:Env}{lv:Int}{f i j k:Nat}(h:sgE E 8 [99,97,116,99,104] i=.ok (false,j)):ctL E lv (f+1) i k=.ok (k,i):=by
 unfold sgE at h
 split at h
 ·cases ht:tkE E i with
  | error e=>rw[ht]at h;cases h
  | ok j=>rw[ht]at h;cases h
 ·rename_i hw
  unfold ctL
  rw[if_neg (by rw[Bool.and_eq_true];exact fun e=>hw e.2)]
theorem ct_not{E:Env}{lv:Int}{f i k:Nat}(h: ¬lv<=0):ctL E lv (f+1) i k=.ok (k,i):=by
 unfold ctL
 rw[if_neg (by rw[decide_eq_false h];exact Bool.false_ne_true)]
theorem ct_yes{E:Env}{lv:Int}{f i j k:Nat}(h1:lv<=0)(h:sgE E 8 [99,97,116,99,104] i=.ok (true,j)):ctL E lv (f+1) i k=ctL E lv f j (k+1)/\j=i+1:=by
 unfold sgE at h
 split at h
 ·rename_i hw
  cases ht:tkE E i with
  | error e=>rw[ht]at h;cases h
  | ok q=>
   rw[ht]at h
   have hq:q=j:=by cases h;rfl
   subst hq
   refine⟨?_,?_⟩
   ·conv=>lhs;unfold ctL
    rw[if_pos (by rw[decide_eq_true h1];exact hw),ht];rfl
   ·unfold tkE at ht
    split at ht
    ·cases ht;rfl
    ·cases ht
 ·cases h
theorem qjs{E:Env}{i:Nat}(h: ¬pf (opE E i).toList=0):E.pk i<E.to:=by
 have h1:(nxE E i).1=9\/(nxE E i).1=8:=by
  unfold opE at h
  by_cases e:(nxE E i).1=9\/(nxE E i).1=8
  ·exact e
  ·rw[if_neg e]at h
   exact absurd (by rw[ByteArray.toList_eq];decide) h
 by_cases e:E.pk i<E.to
 ·exact e
 ·rw[qh4 e]at h1
  rcases h1 with h1 | h1<;>cases h1
theorem qvb{E:Env}{f i:Nat}{A:List ByteArray}(h:pf (opE E i).toList=0):pfL E (f+1) i A=.ok (A,i):=by
 unfold pfL
 rw[if_neg (by omega)]
theorem qoe{E:Env}{f i j:Nat}{A:List ByteArray}(h: ¬pf (opE E i).toList=0)(ht:tkE E i=.ok j):pfL E (f+1) i A=pfL E f j (A++[opE E i])/\j=i+1:=by
 refine⟨?_,?_⟩
 ·conv=>lhs;unfold pfL
  rw[if_pos (by omega),ht];rfl
 ·unfold tkE at ht
  split at ht
  ·cases ht;rfl
  ·cases ht
theorem qob{E:Env}{f i:Nat}{A:List ByteArray}{b:Bad}(h: ¬pf (opE E i).toList=0)(ht:tkE E i=.error b):pfL E (f+1) i A=.error .die:=by
 rw[qqa ht]at ht
 unfold pfL
 rw[if_pos (by omega),ht];rfl
theorem beginM(h:MM W0 g s E tv W L σ)(hk:σ.k.length<=274877906944)(c:Nat)(lv:Int)(hc:σ.C[c]?=some { lv:=lv })(hns:begR E lv c σ≠ .error .stuck):
 Calls Tryz.prog 64 #[.pointer (some ⟨L.B c,0,none⟩)] W (SO (begR E lv c σ) W0 g s E tv W L σ.N.length σ.C.length):=by
 obtain⟨R,hR⟩: ∃R:Rs PM,R=begR E lv c σ:=⟨_,rfl⟩
 rw[<-hR]at hns⊢
 have HNS:=zh hns
 have HR:=zh hR
 have HK:=zh hk
 have HCC:=zh hc
 have HI:Hid (begJ W0 g s E tv W L σ c lv 0 (E.to+2+E.to+3) { tmps:= #[.pointer (some ⟨L.B c,0,none⟩),undef,undef,undef,undef,undef,undef,undef,undef,undef,undef,undef,undef,undef,undef,undef,undef,undef,undef,undef,undef,undef,undef,undef,undef,undef,undef,undef,undef,undef,undef,undef,undef,undef,undef,undef,undef,undef,undef,undef,undef,undef,undef,undef,undef,undef,undef,undef,undef,undef,undef,undef,undef,undef,undef,undef,undef,undef,undef,undef,undef,undef,undef,undef,undef,undef,undef,undef,undef,undef,undef],defers:=[] } W):=zh ⟨σ.i,0,[],L,zh (by rw[qsx hc];exact h),zh (by rw[qsx hc];exact MX.refl _ _ _ _ _),zh rfl,zh ⟨Nat.zero_le _,Nat.zero_le _⟩,.inl ⟨rfl,rfl,E.to+2,rfl,zh rfl⟩,zh ⟨rfl,rfl,rfl⟩⟩
 clear h hk hc hns hR
 go_enter Tryz.func64,Tryz.ntmps64
 go_wp2_with fail
 refine qkh (begJ W0 g s E tv W L σ c lv) rfl rfl ?_ ?_ ?_ ?_
 ·rintro l m a w ⟨_,_,_,_,_,_,_,_,h | h,_⟩
  ·exact .inl h.1
  ·exact .inr h.1
 ·intro m a' w' hj
  obtain⟨i,k,M,f,hm,H0,X0,HMB,HKJ,HCF,us,rfl⟩:=begJ_0 hj
  clear hj
  have HCX:Hid ((begS σ c lv i k []).C[c]?=some (begX lv k [])):=zh (qmn HCC.out)
  rcases f with _ | f
  ·exact absurd (by rw[HR.out];unfold begR;rw[<-HCF.out];rfl) HNS.out
  obtain⟨caz,ccz,aaz,acz,⟨c0_z,c1_z,c2_z,c3_z⟩,hT2_z,hT3_z,hz_z,hP2_z,hP3_z⟩:=MM.caA (σ:=(begS σ c lv i k [])) H0.out HCX.out
  rw[HMB.out]at c0_z c1_z c2_z c3_z hP2_z hP3_z hz_z
  have HT2_z:=zh hT2_z
  have HT3_z:=zh hT3_z
  have HP2_z:=zh hP2_z
  have HP3_z:=zh hP3_z
  clear hT2_z hT3_z hP2_z hP3_z
  dsimp only[begX]at c1_z c2_z c3_z
  by_cases hlv:lv<=0
  ·have hd:decide (lv<=0)=true:=decide_eq_true hlv
   have HLV:=zh hlv
   clear hlv
   go_wp2_with fail
   have q:=qi6 (σ:=(begS σ c lv i k [])) H0.out [99,97,116,99,104]
   unfold ptr at q
   refine q.mono ?_
   clear q
   intro e w5 h9
   clear c0_z c1_z c2_z c3_z hz_z
   clear hd
   cases ht:sgE E 8 [99,97,116,99,104] i with
   | error b=>
    rw[show sgE E 8 [99,97,116,99,104] (begS σ c lv i k []).i=_ from ht]at h9
    obtain⟨⟨u,pv,rfl⟩,hb⟩:=h9
    have HB9:=zh hb
    have e9:R=.error .die:=by
     rw[HR.out];unfold begR;rw[<-HCF.out,ct_die HLV.out ht];rfl
    subst e9
    clear hb ht
    go_wp2_with fail
    exact⟨rfl,⟨_,_,rfl⟩,HB9.out⟩
   | ok x=>
    obtain⟨b,j⟩:=x
    rw[show sgE E 8 [99,97,116,99,104] (begS σ c lv i k []).i=_ from ht]at h9
    obtain⟨rfl,hm5,hx5⟩:=h9
    have HT:=zh ht
    clear ht
    have H1:=zh hm5
    have Y1:=zh hx5
    have X1:=zh (X0.out.trans Y1.out)
    clear hm5 hx5
    cases b
    ·obtain rfl:i=j:=(qdj HT.out).symm
     go_wp2_with fail
     go_step3
     simp only[Exit.then]
     have HCX9:=HCX
     clear HCX
     obtain⟨A,i0,HKI,HCX,HCT,HPF,H9,X9⟩: ∃(A:List ByteArray) (i0:Nat),Hid (k<=i/\A.length<=i)/\Hid ((begS σ c lv i k A).C[c]?=some (begX lv k A))/\Hid (ctL E lv (E.to+2) σ.i 0=.ok (k,i0))/\Hid (pfL E (E.to+1+1) i A=pfL E (E.to+2) i0 [])/\Hid (MM W0 g s E tv w5 M (begS σ c lv i k A))/\Hid (MX W0.heap.size W L σ.N.length σ.C.length w5 M (begS σ c lv i k A).N.length (begS σ c lv i k A).C.length):=⟨[],i,zh ⟨HKJ.out,Nat.zero_le _⟩,HCX9,zh (by rw[<-HCF.out];exact ct_no HT.out),zh rfl,H1,X1⟩
     clear HCX9
     obtain⟨caa,cca,aaa,aca,⟨c0_a,c1_a,c2_a,c3_a⟩,hT2_a,hT3_a,hz_a,hP2_a,hP3_a⟩:=MM.caA (σ:=(begS σ c lv i k A)) H9.out HCX.out
     rw[HMB.out]at c0_a c1_a c2_a c3_a hP2_a hP3_a hz_a
     have HT2_a:=zh hT2_a
     have HT3_a:=zh hT3_a
     have HP2_a:=zh hP2_a
     have HP3_a:=zh hP3_a
     clear hT2_a hT3_a hP2_a hP3_a
     dsimp only[begX]at c1_a c2_a c3_a
     go_wp2_with fail
     have q2:=qrx (σ:=(begS σ c lv i k A)) H9.out
     try unfold ptr at q2
     refine q2.mono ?_
     clear q2
     rintro e w2 ⟨rfl,hm,hx⟩
     have H2:=zh hm
     have Y2:=zh hx
     have X2:=zh (X9.out.trans Y2.out)
     clear hm hx
     clear c0_a c1_a c2_a c3_a hz_a
     go_wp2_with fail
     rw[show(begS σ c lv i k A).i=i from rfl]
     refine(qe1 _ _).mono ?_
     rintro e w3 ⟨rfl,hb⟩
     have H3:=zh (H2.out.below hb)
     have Y3:=zh (H2.out.mxb hb)
     have X3:=zh (X2.out.trans Y3.out)
     clear hb
     by_cases hp:pf (opE E i).toList=0
     ·have HR2:Hid (R=.ok ((({ σ.setC c { begX lv k A with st:=E.sign (pz i) [40] } with i:=i } :PM)).plan [.prim,.folw c])):=zh (by
       rw[HR.out];unfold begR;rw[HCT.out];show(pfL E (E.to+2) i0 [] >>= _)=_;rw[<-HPF.out,qvb hp];rfl)
      have e9:=HR2.out
      subst e9
      have hz1:(((pf (opE E i).toList:Nat):Int)==0)=true:=by rw[hp];rfl
      have hz2:((pf (opE E i).toList:Nat):Int)=0:=by rw[hp];rfl
      clear hp HR HR2
      obtain⟨cab,ccb,aab,acb,⟨c0_b,c1_b,c2_b,c3_b⟩,hT2_b,hT3_b,hz_b,hP2_b,hP3_b⟩:=MM.caA (σ:=(begS σ c lv i k A)) H3.out HCX.out
      rw[HMB.out]at c0_b c1_b c2_b c3_b hP2_b hP3_b hz_b
      have HT2_b:=zh hT2_b
      have HT3_b:=zh hT3_b
      have HP2_b:=zh hP2_b
      have HP3_b:=zh hP3_b
      clear hT2_b hT3_b hP2_b hP3_b
      dsimp only[begX]at c1_b c2_b c3_b
      go_wp2_with fail
      have q4:=qc2 (σ:=(begS σ c lv i k A)) H3.out [40]
      try unfold ptr at q4
      refine q4.mono ?_
      clear q4
      rintro e w4 ⟨rfl,hm,hx⟩
      have H4:=zh hm
      have Y4:=zh hx
      have X4:=zh (X3.out.trans Y4.out)
      clear hm hx
      clear c0_b c1_b c2_b c3_b hz_b
      obtain⟨cad,ccd,aad,acd,⟨c0_d,c1_d,c2_d,c3_d⟩,hT2_d,hT3_d,hz_d,hP2_d,hP3_d⟩:=MM.caA (σ:=(begS σ c lv i k A)) H4.out HCX.out
      rw[HMB.out]at c0_d c1_d c2_d c3_d hP2_d hP3_d hz_d
      have HT2_d:=zh hT2_d
      have HT3_d:=zh hT3_d
      have HP2_d:=zh hP2_d
      have HP3_d:=zh hP3_d
      clear hT2_d hT3_d hP2_d hP3_d
      dsimp only[begX]at c1_d c2_d c3_d
      obtain⟨_,_,_,_,⟨-,-,-,-,c4_d,-,-⟩,-,-,-⟩:=MM.chall (σ:=(begS σ c lv i k A)) H4.out HCX.out
      rw[HMB.out]at c4_d
      dsimp only[begX]at c4_d
      have hS:=MM.setSt (σ:=(begS σ c lv i k A)) H4.out HCX.out (E.sign (pz i) [40])
      rw[HMB.out,qjd]at hS
      have HS:=zh hS
      clear hS
      have hz4:=hz_d 4
      go_wp2_with fail
      rw[show(begS σ c lv i k A).i=i from rfl]
      clear c0_d c1_d c2_d c3_d hz_d
      clear c4_d hz4
      have H5:=zh HS.out.1
      have Y5:=zh HS.out.2
      have X5:=zh (X4.out.trans Y5.out)
      have HCY:Hid (({ σ.setC c { begX lv k A with st:=E.sign (pz i) [40] } with i:=i } :PM).C[c]?=some { begX lv k A with st:=E.sign (pz i) [40] }):=zh (qb1 HCC.out)
      have HCL:Hid (c< ({ σ.setC c { begX lv k A with st:=E.sign (pz i) [40] } with i:=i } :PM).C.length):=zh (List.getElem?_eq_some_iff.1 HCY.out).1
      have HKP:Hid (∀(w':World) (M':PLay) (τ:PM),MM W0 g s E tv w' M' τ->M'.B c=L.B c->τ.C=({ σ.setC c { begX lv k A with st:=E.sign (pz i) [40] } with i:=i } :PM).C->w'.cell? ⟨L.B c,0,none⟩=some (.pointer (some ⟨g,0,none⟩))):=zh (fun w' M' τ h e1 e2=>by
       obtain⟨_,_,_,_,⟨h1,-⟩,-⟩:=h.chall (c:=c) (by rw[e2];exact HCY.out)
       rw[e1]at h1;exact h1)
      have V6:=zh ((IsC.prim:IsC (w4.setCell ⟨L.B c,4,none⟩ (.bool (E.sign (pz i) [40]))) (M.P W0.heap.size) g M.A M.B ({ σ.setC c { begX lv k A with st:=E.sign (pz i) [40] } with i:=i } :PM).N.length ({ σ.setC c { begX lv k A with st:=E.sign (pz i) [40] } with i:=i } :PM).C.length _ .prim))
      have V7:=zh ((by have h9:=(IsC.folw c HCL.out:IsC (w4.setCell ⟨L.B c,4,none⟩ (.bool (E.sign (pz i) [40]))) (M.P W0.heap.size) g M.A M.B ({ σ.setC c { begX lv k A with st:=E.sign (pz i) [40] } with i:=i } :PM).N.length ({ σ.setC c { begX lv k A with st:=E.sign (pz i) [40] } with i:=i } :PM).C.length _ (.folw c));rw[HMB.out]at h9;exact h9:IsC (w4.setCell ⟨L.B c,4,none⟩ (.bool (E.sign (pz i) [40]))) (M.P W0.heap.size) g M.A M.B ({ σ.setC c { begX lv k A with st:=E.sign (pz i) [40] } with i:=i } :PM).N.length ({ σ.setC c { begX lv k A with st:=E.sign (pz i) [40] } with i:=i } :PM).C.length (.func (.func 97) #[ptr (L.B c)] #[]) (.folw c)))
      unfold ptr at*
      have hb:=Below.drew (Below.refl (w4.setCell ⟨L.B c,4,none⟩ (.bool (E.sign (pz i) [40]))).heap.size (w4.setCell ⟨L.B c,4,none⟩ (.bool (E.sign (pz i) [40]))))
      have H8:=zh (H5.out.below hb)
      have Y8:=zh (H5.out.mxb hb)
      have X8:=zh (X5.out.trans Y8.out)
      have vp_8:=zh (Y8.out.isc V6.out)
      have vf_8:=zh (Y8.out.isc V7.out)
      clear hb
      go_region_held3 (fun w'=>w'.cell? ⟨L.B c,0,none⟩=some (.pointer (some ⟨g,0,none⟩))) (first | exact HKP.out _ _ _ H8.out HMB.out rfl | exact HKP.out _ _ _ (H8.out.below (qa1 _ _)) HMB.out rfl | exact HKP.out _ _ _ (H5.out.below (Below.drew (qa1 _ _))) HMB.out rfl | exact HKP.out _ _ _ H9.out ((Y9.out.B c HCL.out).trans HMB.out) rfl) (first | (go_at_call 36;refine(qbd H8.out _ (by simp) [_,_] [.prim,.folw c] 2 rfl (Nat.le_trans HK.out (by decide)) (by decide) _ ⟨vp_8.out,⟨vf_8.out,trivial⟩⟩).mono ?_;rintro e w9 ⟨rfl,M9,hm,hx⟩;have H9:=zh hm;have Y9:=zh hx;have X9:=zh (X8.out.trans Y9.out);have vp_9:=zh (Y9.out.isc vp_8.out);have vf_9:=zh (Y9.out.isc vf_8.out);clear hm hx))
      all_goals (show qd3 _ (bodyPost _ _ _) _ _ _;rw[qcl];go_end0;exact⟨rfl,M9,H9.out,X9.out⟩)
     ·have HPN:=zh hp
      have hz1:(((pf (opE E i).toList:Nat):Int)==0)=false:=by simpa using hp
      have hz2: ¬((pf (opE E i).toList:Nat):Int)=0:=by simpa using hp
      clear hp
      obtain⟨cab,ccb,aab,acb,⟨c0_b,c1_b,c2_b,c3_b⟩,hT2_b,hT3_b,hz_b,hP2_b,hP3_b⟩:=MM.caA (σ:=(begS σ c lv i k A)) H3.out HCX.out
      rw[HMB.out]at c0_b c1_b c2_b c3_b hP2_b hP3_b hz_b
      have HT2_b:=zh hT2_b
      have HT3_b:=zh hT3_b
      have HP2_b:=zh hP2_b
      have HP3_b:=zh hP3_b
      clear hT2_b hT3_b hP2_b hP3_b
      dsimp only[begX]at c1_b c2_b c3_b
      have HLN:=zh (show A.length<=1048576/\i<=E.to from by
       have h1:=H3.out.toLe;have h2:=HKI.out.2;have h3:(begS σ c lv i k A).i=i:=rfl;omega)
      go_wp2_with fail
      have q:=qsm (σ:=(begS σ c lv i k A)) H3.out (qjs HPN.out)
      unfold ptr at q
      refine q.mono ?_
      clear q
      intro e w5 h9
      clear c0_b c1_b c2_b c3_b hz_b
      cases ht:tkE E i with
      | error b=>
       rw[show tkE E (begS σ c lv i k A).i=_ from ht]at h9
       obtain⟨⟨u,pv,rfl⟩,hb⟩:=h9
       have HB9:=zh hb
       have e9:R=.error .die:=by
        rw[HR.out];unfold begR;rw[HCT.out];show(pfL E (E.to+2) i0 [] >>= _)=_;rw[<-HPF.out,qob HPN.out ht];rfl
       subst e9
       clear hb ht
       go_wp2_with fail
       exact⟨rfl,⟨_,_,rfl⟩,HB9.out⟩
      | ok j=>
       rw[show tkE E (begS σ c lv i k A).i=_ from ht]at h9
       obtain⟨rfl,hm,hx⟩:=h9
       have HY:=zh (qoe (f:=(E.to+1)) (A:=A) HPN.out ht)
       have H10:=zh hm
       have Y10:=zh hx
       have X10:=zh (X3.out.trans Y10.out)
       clear hm hx ht
       obtain⟨cae,cce,aae,ace,⟨c0_e,c1_e,c2_e,c3_e⟩,hT2_e,hT3_e,hz_e,hP2_e,hP3_e⟩:=MM.caA (σ:=((begS σ c lv i k A).at_ j)) H10.out HCX.out
       rw[HMB.out]at c0_e c1_e c2_e c3_e hP2_e hP3_e hz_e
       have HT2_e:=zh hT2_e
       have HT3_e:=zh hT3_e
       have HP2_e:=zh hP2_e
       have HP3_e:=zh hP3_e
       clear hT2_e hT3_e hP2_e hP3_e
       dsimp only[begX]at c1_e c2_e c3_e
       have HBS:Hid (∀O,W0.heap.size<=(w5.alloc O).heap.size):=zh (fun O=>by have:=H10.out.bel.size;have e:(w5.alloc O).heap.size=w5.heap.size+1:=(by simp);omega)
       go_wp2_with (at_builtin;go_must (refine qbq rfl _ _ rfl W0.heap.size _ A rfl (qcf HT3_e.out (qa1 _ _)) _ (opE E i) rfl (qar (qa8 _ _)).1 HLN.out.1 (HBS.out _) ?_);intro v4 w4 h1 h2 h3;obtain⟨a4,c4,rfl⟩:=qbp h1;have HP:=zh (HP3_e.out _ _ _ _ (qa1 _ _) h1 h2 h3);have k1:=HP.out.1;have k2:=HP.out.2.1;have k3:=HP.out.2.2.1;clear h1 h2 h3)
       clear c0_e c1_e c2_e c3_e hz_e
       obtain⟨-,-,-,M9,m1,m2,m4⟩:=HP.out
       have e:(A++[opE E i]).length=A.length+1:=by simp
       rw[e]at m1 m2
       have M1:Hid (MM W0 g s E tv _ M9 (begS σ c lv j k (A++[opE E i]))):=zh (by rw[<-qei (i:=i) (j:=j)];exact m1)
       have M2:Hid (MX W0.heap.size W L σ.N.length σ.C.length _ M9 (begS σ c lv j k (A++[opE E i])).N.length (begS σ c lv j k (A++[opE E i])).C.length):=zh (by rw[<-qei (i:=i) (j:=j)];exact X10.out.trans m2)
       have M4:=zh ((congrFun m4 c).trans HMB.out)
       clear m1 m2 m4 HP k1 k2 k3
       go_step3
       simp only[Exit.then]
       show qd3 _ _ _ _ _
       rw[qcz]
       exact⟨(E.to+1),by omega,j,k,A++[opE E i],M9,M1,M2,M4,zh ⟨by have:=HKI.out;have:=HY.out.2;omega,by rw[e];have:=HKI.out;have:=HY.out.2;omega⟩,.inr ⟨rfl,_,i0,rfl,HCT,zh (HY.out.1.symm.trans HPF.out)⟩,zh ⟨rfl,rfl,rfl⟩⟩
    ·skip
     obtain⟨cae,cce,aae,ace,⟨c0_e,c1_e,c2_e,c3_e⟩,hT2_e,hT3_e,hz_e,hP2_e,hP3_e⟩:=MM.caA (σ:=((begS σ c lv i k []).at_ j)) H1.out HCX.out
     rw[HMB.out]at c0_e c1_e c2_e c3_e hP2_e hP3_e hz_e
     have HT2_e:=zh hT2_e
     have HT3_e:=zh hT3_e
     have HP2_e:=zh hP2_e
     have HP3_e:=zh hP3_e
     clear hT2_e hT3_e hP2_e hP3_e
     dsimp only[begX]at c1_e c2_e c3_e
     have HY:=zh (ct_yes (f:=f) (k:=k) HLV.out HT.out)
     have HBS:Hid (∀O,W0.heap.size<=(w5.alloc O).heap.size):=zh (fun O=>by have:=H1.out.bel.size;have e:(w5.alloc O).heap.size=w5.heap.size+1:=(by simp);omega)
     have HLN:=zh (show(ctLs k).length<=1048576 from by
      have h1:=H0.out.toLe;have h2:=HKJ.out;have h3:(begS σ c lv i k []).i=i:=rfl
      have h4:(ctLs k).length=k:=List.length_replicate
      omega)
     go_wp2_with (at_builtin;go_must (refine qbq rfl _ _ rfl W0.heap.size _ (ctLs k) rfl (qcf HT2_e.out (qa1 _ _)) _ ⟨#[99,97,116,99,104]⟩ rfl (qar (qa8 _ _)).1 HLN.out (HBS.out _) ?_);intro v4 w4 h1 h2 h3;obtain⟨a4,c4,rfl⟩:=qbp h1;have HP:=zh (HP2_e.out _ _ _ (qa1 _ _) h1 h2 h3);have k1:=HP.out.1;have k2:=HP.out.2.1;clear h1 h2 h3)
     clear c0_e c1_e c2_e c3_e hz_e
     obtain⟨-,-,M9,m1,m2,m4⟩:=HP.out
     have e:(ctLs k++[(⟨#[99,97,116,99,104]⟩:ByteArray)]).length=(ctLs k).length+1:=by rw[List.length_append];rfl
     simp only[e]at m1 m2
     have M1:Hid (MM W0 g s E tv _ M9 (begS σ c lv j (k+1) [])):=zh (by rw[<-qmo (i:=i) (j:=j)];exact m1)
     have M2:Hid (MX W0.heap.size W L σ.N.length σ.C.length _ M9 (begS σ c lv j (k+1) []).N.length (begS σ c lv j (k+1) []).C.length):=zh (by rw[<-qmo (i:=i) (j:=j)];exact X1.out.trans m2)
     have M4:=zh ((congrFun m4 c).trans HMB.out)
     clear m1 m2 m4 HP k1 k2
     go_step3
     simp only[Exit.then]
     show qd3 _ _ _ _ _
     rw[qcz]
     exact⟨f+E.to+3,by omega,j,k+1,[],M9,M1,M2,M4,zh ⟨by have:=HKJ.out;have:=HY.out.2;omega,Nat.zero_le _⟩,.inl ⟨rfl,rfl,f,rfl,zh (HY.out.1.symm.trans HCF.out)⟩,zh ⟨rfl,rfl,rfl⟩⟩
  ·have hd:decide (lv<=0)=false:=decide_eq_false hlv
   have HLV:=zh hlv
   clear hlv
   go_wp2_with fail
   go_step3
   simp only[Exit.then]
   clear hd c0_z c1_z c2_z c3_z hz_z
   have HCX9:=HCX
   clear HCX
   obtain⟨A,i0,HKI,HCX,HCT,HPF,H9,X9⟩: ∃(A:List ByteArray) (i0:Nat),Hid (k<=i/\A.length<=i)/\Hid ((begS σ c lv i k A).C[c]?=some (begX lv k A))/\Hid (ctL E lv (E.to+2) σ.i 0=.ok (k,i0))/\Hid (pfL E (E.to+1+1) i A=pfL E (E.to+2) i0 [])/\Hid (MM W0 g s E tv w' M (begS σ c lv i k A))/\Hid (MX W0.heap.size W L σ.N.length σ.C.length w' M (begS σ c lv i k A).N.length (begS σ c lv i k A).C.length):=⟨[],i,zh ⟨HKJ.out,Nat.zero_le _⟩,HCX9,zh (by rw[<-HCF.out];exact ct_not (by have:=HLV.out;omega)),zh rfl,H0,X0⟩
   clear HCX9
   obtain⟨caa,cca,aaa,aca,⟨c0_a,c1_a,c2_a,c3_a⟩,hT2_a,hT3_a,hz_a,hP2_a,hP3_a⟩:=MM.caA (σ:=(begS σ c lv i k A)) H9.out HCX.out
   rw[HMB.out]at c0_a c1_a c2_a c3_a hP2_a hP3_a hz_a
   have HT2_a:=zh hT2_a
   have HT3_a:=zh hT3_a
   have HP2_a:=zh hP2_a
   have HP3_a:=zh hP3_a
   clear hT2_a hT3_a hP2_a hP3_a
   dsimp only[begX]at c1_a c2_a c3_a
   go_wp2_with fail
   have q11:=qrx (σ:=(begS σ c lv i k A)) H9.out
   try unfold ptr at q11
   refine q11.mono ?_
   clear q11
   rintro e w11 ⟨rfl,hm,hx⟩
   have H11:=zh hm
   have Y11:=zh hx
   have X11:=zh (X9.out.trans Y11.out)
   clear hm hx
   clear c0_a c1_a c2_a c3_a hz_a
   go_wp2_with fail
   rw[show(begS σ c lv i k A).i=i from rfl]
   refine(qe1 _ _).mono ?_
   rintro e w12 ⟨rfl,hb⟩
   have H12:=zh (H11.out.below hb)
   have Y12:=zh (H11.out.mxb hb)
   have X12:=zh (X11.out.trans Y12.out)
   clear hb
   by_cases hp:pf (opE E i).toList=0
   ·have HR2:Hid (R=.ok ((({ σ.setC c { begX lv k A with st:=E.sign (pz i) [40] } with i:=i } :PM)).plan [.prim,.folw c])):=zh (by
     rw[HR.out];unfold begR;rw[HCT.out];show(pfL E (E.to+2) i0 [] >>= _)=_;rw[<-HPF.out,qvb hp];rfl)
    have e9:=HR2.out
    subst e9
    have hz1:(((pf (opE E i).toList:Nat):Int)==0)=true:=by rw[hp];rfl
    have hz2:((pf (opE E i).toList:Nat):Int)=0:=by rw[hp];rfl
    clear hp HR HR2
    obtain⟨cab,ccb,aab,acb,⟨c0_b,c1_b,c2_b,c3_b⟩,hT2_b,hT3_b,hz_b,hP2_b,hP3_b⟩:=MM.caA (σ:=(begS σ c lv i k A)) H12.out HCX.out
    rw[HMB.out]at c0_b c1_b c2_b c3_b hP2_b hP3_b hz_b
    have HT2_b:=zh hT2_b
    have HT3_b:=zh hT3_b
    have HP2_b:=zh hP2_b
    have HP3_b:=zh hP3_b
    clear hT2_b hT3_b hP2_b hP3_b
    dsimp only[begX]at c1_b c2_b c3_b
    go_wp2_with fail
    have q13:=qc2 (σ:=(begS σ c lv i k A)) H12.out [40]
    try unfold ptr at q13
    refine q13.mono ?_
    clear q13
    rintro e w13 ⟨rfl,hm,hx⟩
    have H13:=zh hm
    have Y13:=zh hx
    have X13:=zh (X12.out.trans Y13.out)
    clear hm hx
    clear c0_b c1_b c2_b c3_b hz_b
    obtain⟨cad,ccd,aad,acd,⟨c0_d,c1_d,c2_d,c3_d⟩,hT2_d,hT3_d,hz_d,hP2_d,hP3_d⟩:=MM.caA (σ:=(begS σ c lv i k A)) H13.out HCX.out
    rw[HMB.out]at c0_d c1_d c2_d c3_d hP2_d hP3_d hz_d
    have HT2_d:=zh hT2_d
    have HT3_d:=zh hT3_d
    have HP2_d:=zh hP2_d
    have HP3_d:=zh hP3_d
    clear hT2_d hT3_d hP2_d hP3_d
    dsimp only[begX]at c1_d c2_d c3_d
    obtain⟨_,_,_,_,⟨-,-,-,-,c4_d,-,-⟩,-,-,-⟩:=MM.chall (σ:=(begS σ c lv i k A)) H13.out HCX.out
    rw[HMB.out]at c4_d
    dsimp only[begX]at c4_d
    have hS:=MM.setSt (σ:=(begS σ c lv i k A)) H13.out HCX.out (E.sign (pz i) [40])
    rw[HMB.out,qjd]at hS
    have HS:=zh hS
    clear hS
    have hz4:=hz_d 4
    go_wp2_with fail
    rw[show(begS σ c lv i k A).i=i from rfl]
    clear c0_d c1_d c2_d c3_d hz_d
    clear c4_d hz4
    have H14:=zh HS.out.1
    have Y14:=zh HS.out.2
    have X14:=zh (X13.out.trans Y14.out)
    have HCY:Hid (({ σ.setC c { begX lv k A with st:=E.sign (pz i) [40] } with i:=i } :PM).C[c]?=some { begX lv k A with st:=E.sign (pz i) [40] }):=zh (qb1 HCC.out)
    have HCL:Hid (c< ({ σ.setC c { begX lv k A with st:=E.sign (pz i) [40] } with i:=i } :PM).C.length):=zh (List.getElem?_eq_some_iff.1 HCY.out).1
    have HKP:Hid (∀(w':World) (M':PLay) (τ:PM),MM W0 g s E tv w' M' τ->M'.B c=L.B c->τ.C=({ σ.setC c { begX lv k A with st:=E.sign (pz i) [40] } with i:=i } :PM).C->w'.cell? ⟨L.B c,0,none⟩=some (.pointer (some ⟨g,0,none⟩))):=zh (fun w' M' τ h e1 e2=>by
     obtain⟨_,_,_,_,⟨h1,-⟩,-⟩:=h.chall (c:=c) (by rw[e2];exact HCY.out)
     rw[e1]at h1;exact h1)
    have V15:=zh ((IsC.prim:IsC (w13.setCell ⟨L.B c,4,none⟩ (.bool (E.sign (pz i) [40]))) (M.P W0.heap.size) g M.A M.B ({ σ.setC c { begX lv k A with st:=E.sign (pz i) [40] } with i:=i } :PM).N.length ({ σ.setC c { begX lv k A with st:=E.sign (pz i) [40] } with i:=i } :PM).C.length _ .prim))
    have V16:=zh ((by have h9:=(IsC.folw c HCL.out:IsC (w13.setCell ⟨L.B c,4,none⟩ (.bool (E.sign (pz i) [40]))) (M.P W0.heap.size) g M.A M.B ({ σ.setC c { begX lv k A with st:=E.sign (pz i) [40] } with i:=i } :PM).N.length ({ σ.setC c { begX lv k A with st:=E.sign (pz i) [40] } with i:=i } :PM).C.length _ (.folw c));rw[HMB.out]at h9;exact h9:IsC (w13.setCell ⟨L.B c,4,none⟩ (.bool (E.sign (pz i) [40]))) (M.P W0.heap.size) g M.A M.B ({ σ.setC c { begX lv k A with st:=E.sign (pz i) [40] } with i:=i } :PM).N.length ({ σ.setC c { begX lv k A with st:=E.sign (pz i) [40] } with i:=i } :PM).C.length (.func (.func 97) #[ptr (L.B c)] #[]) (.folw c)))
    unfold ptr at*
    have hb:=Below.drew (Below.refl (w13.setCell ⟨L.B c,4,none⟩ (.bool (E.sign (pz i) [40]))).heap.size (w13.setCell ⟨L.B c,4,none⟩ (.bool (E.sign (pz i) [40]))))
    have H17:=zh (H14.out.below hb)
    have Y17:=zh (H14.out.mxb hb)
    have X17:=zh (X14.out.trans Y17.out)
    have vp_17:=zh (Y17.out.isc V15.out)
    have vf_17:=zh (Y17.out.isc V16.out)
    clear hb
    go_region_held3 (fun w'=>w'.cell? ⟨L.B c,0,none⟩=some (.pointer (some ⟨g,0,none⟩))) (first | exact HKP.out _ _ _ H17.out HMB.out rfl | exact HKP.out _ _ _ (H17.out.below (qa1 _ _)) HMB.out rfl | exact HKP.out _ _ _ (H14.out.below (Below.drew (qa1 _ _))) HMB.out rfl | exact HKP.out _ _ _ H18.out ((Y18.out.B c HCL.out).trans HMB.out) rfl) (first | (go_at_call 36;refine(qbd H17.out _ (by simp) [_,_] [.prim,.folw c] 2 rfl (Nat.le_trans HK.out (by decide)) (by decide) _ ⟨vp_17.out,⟨vf_17.out,trivial⟩⟩).mono ?_;rintro e w18 ⟨rfl,M18,hm,hx⟩;have H18:=zh hm;have Y18:=zh hx;have X18:=zh (X17.out.trans Y18.out);have vp_18:=zh (Y18.out.isc vp_17.out);have vf_18:=zh (Y18.out.isc vf_17.out);clear hm hx))
    all_goals (show qd3 _ (bodyPost _ _ _) _ _ _;rw[qcl];go_end0;exact⟨rfl,M18,H18.out,X18.out⟩)
   ·have HPN:=zh hp
    have hz1:(((pf (opE E i).toList:Nat):Int)==0)=false:=by simpa using hp
    have hz2: ¬((pf (opE E i).toList:Nat):Int)=0:=by simpa using hp
    clear hp
    obtain⟨cab,ccb,aab,acb,⟨c0_b,c1_b,c2_b,c3_b⟩,hT2_b,hT3_b,hz_b,hP2_b,hP3_b⟩:=MM.caA (σ:=(begS σ c lv i k A)) H12.out HCX.out
    rw[HMB.out]at c0_b c1_b c2_b c3_b hP2_b hP3_b hz_b
    have HT2_b:=zh hT2_b
    have HT3_b:=zh hT3_b
    have HP2_b:=zh hP2_b
    have HP3_b:=zh hP3_b
    clear hT2_b hT3_b hP2_b hP3_b
    dsimp only[begX]at c1_b c2_b c3_b
    have HLN:=zh (show A.length<=1048576/\i<=E.to from by
     have h1:=H12.out.toLe;have h2:=HKI.out.2;have h3:(begS σ c lv i k A).i=i:=rfl;omega)
    go_wp2_with fail
    have q:=qsm (σ:=(begS σ c lv i k A)) H12.out (qjs HPN.out)
    unfold ptr at q
    refine q.mono ?_
    clear q
    intro e w5 h9
    clear c0_b c1_b c2_b c3_b hz_b
    cases ht:tkE E i with
    | error b=>
     rw[show tkE E (begS σ c lv i k A).i=_ from ht]at h9
     obtain⟨⟨u,pv,rfl⟩,hb⟩:=h9
     have HB9:=zh hb
     have e9:R=.error .die:=by
      rw[HR.out];unfold begR;rw[HCT.out];show(pfL E (E.to+2) i0 [] >>= _)=_;rw[<-HPF.out,qob HPN.out ht];rfl
     subst e9
     clear hb ht
     go_wp2_with fail
     exact⟨rfl,⟨_,_,rfl⟩,HB9.out⟩
    | ok j=>
     rw[show tkE E (begS σ c lv i k A).i=_ from ht]at h9
     obtain⟨rfl,hm,hx⟩:=h9
     have HY:=zh (qoe (f:=(E.to+1)) (A:=A) HPN.out ht)
     have H19:=zh hm
     have Y19:=zh hx
     have X19:=zh (X12.out.trans Y19.out)
     clear hm hx ht
     obtain⟨cae,cce,aae,ace,⟨c0_e,c1_e,c2_e,c3_e⟩,hT2_e,hT3_e,hz_e,hP2_e,hP3_e⟩:=MM.caA (σ:=((begS σ c lv i k A).at_ j)) H19.out HCX.out
     rw[HMB.out]at c0_e c1_e c2_e c3_e hP2_e hP3_e hz_e
     have HT2_e:=zh hT2_e
     have HT3_e:=zh hT3_e
     have HP2_e:=zh hP2_e
     have HP3_e:=zh hP3_e
     clear hT2_e hT3_e hP2_e hP3_e
     dsimp only[begX]at c1_e c2_e c3_e
     have HBS:Hid (∀O,W0.heap.size<=(w5.alloc O).heap.size):=zh (fun O=>by have:=H19.out.bel.size;have e:(w5.alloc O).heap.size=w5.heap.size+1:=(by simp);omega)
     go_wp2_with (at_builtin;go_must (refine qbq rfl _ _ rfl W0.heap.size _ A rfl (qcf HT3_e.out (qa1 _ _)) _ (opE E i) rfl (qar (qa8 _ _)).1 HLN.out.1 (HBS.out _) ?_);intro v4 w4 h1 h2 h3;obtain⟨a4,c4,rfl⟩:=qbp h1;have HP:=zh (HP3_e.out _ _ _ _ (qa1 _ _) h1 h2 h3);have k1:=HP.out.1;have k2:=HP.out.2.1;have k3:=HP.out.2.2.1;clear h1 h2 h3)
     clear c0_e c1_e c2_e c3_e hz_e
     obtain⟨-,-,-,M9,m1,m2,m4⟩:=HP.out
     have e:(A++[opE E i]).length=A.length+1:=by simp
     rw[e]at m1 m2
     have M1:Hid (MM W0 g s E tv _ M9 (begS σ c lv j k (A++[opE E i]))):=zh (by rw[<-qei (i:=i) (j:=j)];exact m1)
     have M2:Hid (MX W0.heap.size W L σ.N.length σ.C.length _ M9 (begS σ c lv j k (A++[opE E i])).N.length (begS σ c lv j k (A++[opE E i])).C.length):=zh (by rw[<-qei (i:=i) (j:=j)];exact X19.out.trans m2)
     have M4:=zh ((congrFun m4 c).trans HMB.out)
     clear m1 m2 m4 HP k1 k2 k3
     go_step3
     simp only[Exit.then]
     show qd3 _ _ _ _ _
     rw[qcz]
     exact⟨(E.to+1),by omega,j,k,A++[opE E i],M9,M1,M2,M4,zh ⟨by have:=HKI.out;have:=HY.out.2;omega,by rw[e];have:=HKI.out;have:=HY.out.2;omega⟩,.inr ⟨rfl,_,i0,rfl,HCT,zh (HY.out.1.symm.trans HPF.out)⟩,zh ⟨rfl,rfl,rfl⟩⟩
 ·intro m a' w' hj
  obtain⟨i,k,A,M,i0,H0,X0,HMB,HKI,HCT,HPF,us,rfl⟩:=begJ_1 hj
  clear hj
  have HCX:Hid ((begS σ c lv i k A).C[c]?=some (begX lv k A)):=zh (qmn HCC.out)
  rcases m with _ | f
  ·exact absurd (by rw[HR.out];unfold begR;rw[HCT.out];show(pfL E (E.to+2) i0 [] >>= _)=_;rw[<-HPF.out];rfl) HNS.out
  obtain⟨caa,cca,aaa,aca,⟨c0_a,c1_a,c2_a,c3_a⟩,hT2_a,hT3_a,hz_a,hP2_a,hP3_a⟩:=MM.caA (σ:=(begS σ c lv i k A)) H0.out HCX.out
  rw[HMB.out]at c0_a c1_a c2_a c3_a hP2_a hP3_a hz_a
  have HT2_a:=zh hT2_a
  have HT3_a:=zh hT3_a
  have HP2_a:=zh hP2_a
  have HP3_a:=zh hP3_a
  clear hT2_a hT3_a hP2_a hP3_a
  dsimp only[begX]at c1_a c2_a c3_a
  go_wp2_with fail
  have q1:=qrx (σ:=(begS σ c lv i k A)) H0.out
  try unfold ptr at q1
  refine q1.mono ?_
  clear q1
  rintro e w1 ⟨rfl,hm,hx⟩
  have H1:=zh hm
  have Y1:=zh hx
  have X1:=zh (X0.out.trans Y1.out)
  clear hm hx
  clear c0_a c1_a c2_a c3_a hz_a
  go_wp2_with fail
  rw[show(begS σ c lv i k A).i=i from rfl]
  refine(qe1 _ _).mono ?_
  rintro e w2 ⟨rfl,hb⟩
  have H2:=zh (H1.out.below hb)
  have Y2:=zh (H1.out.mxb hb)
  have X2:=zh (X1.out.trans Y2.out)
  clear hb
  by_cases hp:pf (opE E i).toList=0
  ·have HR2:Hid (R=.ok ((({ σ.setC c { begX lv k A with st:=E.sign (pz i) [40] } with i:=i } :PM)).plan [.prim,.folw c])):=zh (by
    rw[HR.out];unfold begR;rw[HCT.out];show(pfL E (E.to+2) i0 [] >>= _)=_;rw[<-HPF.out,qvb hp];rfl)
   have e9:=HR2.out
   subst e9
   have hz1:(((pf (opE E i).toList:Nat):Int)==0)=true:=by rw[hp];rfl
   have hz2:((pf (opE E i).toList:Nat):Int)=0:=by rw[hp];rfl
   clear hp HR HR2
   obtain⟨cab,ccb,aab,acb,⟨c0_b,c1_b,c2_b,c3_b⟩,hT2_b,hT3_b,hz_b,hP2_b,hP3_b⟩:=MM.caA (σ:=(begS σ c lv i k A)) H2.out HCX.out
   rw[HMB.out]at c0_b c1_b c2_b c3_b hP2_b hP3_b hz_b
   have HT2_b:=zh hT2_b
   have HT3_b:=zh hT3_b
   have HP2_b:=zh hP2_b
   have HP3_b:=zh hP3_b
   clear hT2_b hT3_b hP2_b hP3_b
   dsimp only[begX]at c1_b c2_b c3_b
   go_wp2_with fail
   have q3:=qc2 (σ:=(begS σ c lv i k A)) H2.out [40]
   try unfold ptr at q3
   refine q3.mono ?_
   clear q3
   rintro e w3 ⟨rfl,hm,hx⟩
   have H3:=zh hm
   have Y3:=zh hx
   have X3:=zh (X2.out.trans Y3.out)
   clear hm hx
   clear c0_b c1_b c2_b c3_b hz_b
   obtain⟨cad,ccd,aad,acd,⟨c0_d,c1_d,c2_d,c3_d⟩,hT2_d,hT3_d,hz_d,hP2_d,hP3_d⟩:=MM.caA (σ:=(begS σ c lv i k A)) H3.out HCX.out
   rw[HMB.out]at c0_d c1_d c2_d c3_d hP2_d hP3_d hz_d
   have HT2_d:=zh hT2_d
   have HT3_d:=zh hT3_d
   have HP2_d:=zh hP2_d
   have HP3_d:=zh hP3_d
   clear hT2_d hT3_d hP2_d hP3_d
   dsimp only[begX]at c1_d c2_d c3_d
   obtain⟨_,_,_,_,⟨-,-,-,-,c4_d,-,-⟩,-,-,-⟩:=MM.chall (σ:=(begS σ c lv i k A)) H3.out HCX.out
   rw[HMB.out]at c4_d
   dsimp only[begX]at c4_d
   have hS:=MM.setSt (σ:=(begS σ c lv i k A)) H3.out HCX.out (E.sign (pz i) [40])
   rw[HMB.out,qjd]at hS
   have HS:=zh hS
   clear hS
   have hz4:=hz_d 4
   go_wp2_with fail
   rw[show(begS σ c lv i k A).i=i from rfl]
   clear c0_d c1_d c2_d c3_d hz_d
   clear c4_d hz4
   have H4:=zh HS.out.1
   have Y4:=zh HS.out.2
   have X4:=zh (X3.out.trans Y4.out)
   have HCY:Hid (({ σ.setC c { begX lv k A with st:=E.sign (pz i) [40] } with i:=i } :PM).C[c]?=some { begX lv k A with st:=E.sign (pz i) [40] }):=zh (qb1 HCC.out)
   have HCL:Hid (c< ({ σ.setC c { begX lv k A with st:=E.sign (pz i) [40] } with i:=i } :PM).C.length):=zh (List.getElem?_eq_some_iff.1 HCY.out).1
   have HKP:Hid (∀(w':World) (M':PLay) (τ:PM),MM W0 g s E tv w' M' τ->M'.B c=L.B c->τ.C=({ σ.setC c { begX lv k A with st:=E.sign (pz i) [40] } with i:=i } :PM).C->w'.cell? ⟨L.B c,0,none⟩=some (.pointer (some ⟨g,0,none⟩))):=zh (fun w' M' τ h e1 e2=>by
    obtain⟨_,_,_,_,⟨h1,-⟩,-⟩:=h.chall (c:=c) (by rw[e2];exact HCY.out)
    rw[e1]at h1;exact h1)
   have V5:=zh ((IsC.prim:IsC (w3.setCell ⟨L.B c,4,none⟩ (.bool (E.sign (pz i) [40]))) (M.P W0.heap.size) g M.A M.B ({ σ.setC c { begX lv k A with st:=E.sign (pz i) [40] } with i:=i } :PM).N.length ({ σ.setC c { begX lv k A with st:=E.sign (pz i) [40] } with i:=i } :PM).C.length _ .prim))
   have V6:=zh ((by have h9:=(IsC.folw c HCL.out:IsC (w3.setCell ⟨L.B c,4,none⟩ (.bool (E.sign (pz i) [40]))) (M.P W0.heap.size) g M.A M.B ({ σ.setC c { begX lv k A with st:=E.sign (pz i) [40] } with i:=i } :PM).N.length ({ σ.setC c { begX lv k A with st:=E.sign (pz i) [40] } with i:=i } :PM).C.length _ (.folw c));rw[HMB.out]at h9;exact h9:IsC (w3.setCell ⟨L.B c,4,none⟩ (.bool (E.sign (pz i) [40]))) (M.P W0.heap.size) g M.A M.B ({ σ.setC c { begX lv k A with st:=E.sign (pz i) [40] } with i:=i } :PM).N.length ({ σ.setC c { begX lv k A with st:=E.sign (pz i) [40] } with i:=i } :PM).C.length (.func (.func 97) #[ptr (L.B c)] #[]) (.folw c)))
   unfold ptr at*
   have hb:=Below.drew (Below.refl (w3.setCell ⟨L.B c,4,none⟩ (.bool (E.sign (pz i) [40]))).heap.size (w3.setCell ⟨L.B c,4,none⟩ (.bool (E.sign (pz i) [40]))))
   have H7:=zh (H4.out.below hb)
   have Y7:=zh (H4.out.mxb hb)
   have X7:=zh (X4.out.trans Y7.out)
   have vp_7:=zh (Y7.out.isc V5.out)
   have vf_7:=zh (Y7.out.isc V6.out)
   clear hb
   go_region_held3 (fun w'=>w'.cell? ⟨L.B c,0,none⟩=some (.pointer (some ⟨g,0,none⟩))) (first | exact HKP.out _ _ _ H7.out HMB.out rfl | exact HKP.out _ _ _ (H7.out.below (qa1 _ _)) HMB.out rfl | exact HKP.out _ _ _ (H4.out.below (Below.drew (qa1 _ _))) HMB.out rfl | exact HKP.out _ _ _ H8.out ((Y8.out.B c HCL.out).trans HMB.out) rfl) (first | (go_at_call 36;refine(qbd H7.out _ (by simp) [_,_] [.prim,.folw c] 2 rfl (Nat.le_trans HK.out (by decide)) (by decide) _ ⟨vp_7.out,⟨vf_7.out,trivial⟩⟩).mono ?_;rintro e w8 ⟨rfl,M8,hm,hx⟩;have H8:=zh hm;have Y8:=zh hx;have X8:=zh (X7.out.trans Y8.out);have vp_8:=zh (Y8.out.isc vp_7.out);have vf_8:=zh (Y8.out.isc vf_7.out);clear hm hx))
   all_goals (show qd3 _ (bodyPost _ _ _) _ _ _;rw[qcl];go_end0;exact⟨rfl,M8,H8.out,X8.out⟩)
  ·have HPN:=zh hp
   have hz1:(((pf (opE E i).toList:Nat):Int)==0)=false:=by simpa using hp
   have hz2: ¬((pf (opE E i).toList:Nat):Int)=0:=by simpa using hp
   clear hp
   obtain⟨cab,ccb,aab,acb,⟨c0_b,c1_b,c2_b,c3_b⟩,hT2_b,hT3_b,hz_b,hP2_b,hP3_b⟩:=MM.caA (σ:=(begS σ c lv i k A)) H2.out HCX.out
   rw[HMB.out]at c0_b c1_b c2_b c3_b hP2_b hP3_b hz_b
   have HT2_b:=zh hT2_b
   have HT3_b:=zh hT3_b
   have HP2_b:=zh hP2_b
   have HP3_b:=zh hP3_b
   clear hT2_b hT3_b hP2_b hP3_b
   dsimp only[begX]at c1_b c2_b c3_b
   have HLN:=zh (show A.length<=1048576/\i<=E.to from by
    have h1:=H2.out.toLe;have h2:=HKI.out.2;have h3:(begS σ c lv i k A).i=i:=rfl;omega)
   go_wp2_with fail
   have q:=qsm (σ:=(begS σ c lv i k A)) H2.out (qjs HPN.out)
   unfold ptr at q
   refine q.mono ?_
   clear q
   intro e w5 h9
   clear c0_b c1_b c2_b c3_b hz_b
   cases ht:tkE E i with
   | error b=>
    rw[show tkE E (begS σ c lv i k A).i=_ from ht]at h9
    obtain⟨⟨u,pv,rfl⟩,hb⟩:=h9
    have HB9:=zh hb
    have e9:R=.error .die:=by
     rw[HR.out];unfold begR;rw[HCT.out];show(pfL E (E.to+2) i0 [] >>= _)=_;rw[<-HPF.out,qob HPN.out ht];rfl
    subst e9
    clear hb ht
    go_wp2_with fail
    exact⟨rfl,⟨_,_,rfl⟩,HB9.out⟩
   | ok j=>
    rw[show tkE E (begS σ c lv i k A).i=_ from ht]at h9
    obtain⟨rfl,hm,hx⟩:=h9
    have HY:=zh (qoe (f:=f) (A:=A) HPN.out ht)
    have H9:=zh hm
    have Y9:=zh hx
    have X9:=zh (X2.out.trans Y9.out)
    clear hm hx ht
    obtain⟨cae,cce,aae,ace,⟨c0_e,c1_e,c2_e,c3_e⟩,hT2_e,hT3_e,hz_e,hP2_e,hP3_e⟩:=MM.caA (σ:=((begS σ c lv i k A).at_ j)) H9.out HCX.out
    rw[HMB.out]at c0_e c1_e c2_e c3_e hP2_e hP3_e hz_e
    have HT2_e:=zh hT2_e
    have HT3_e:=zh hT3_e
    have HP2_e:=zh hP2_e
    have HP3_e:=zh hP3_e
    clear hT2_e hT3_e hP2_e hP3_e
    dsimp only[begX]at c1_e c2_e c3_e
    have HBS:Hid (∀O,W0.heap.size<=(w5.alloc O).heap.size):=zh (fun O=>by have:=H9.out.bel.size;have e:(w5.alloc O).heap.size=w5.heap.size+1:=(by simp);omega)
    go_wp2_with (at_builtin;go_must (refine qbq rfl _ _ rfl W0.heap.size _ A rfl (qcf HT3_e.out (qa1 _ _)) _ (opE E i) rfl (qar (qa8 _ _)).1 HLN.out.1 (HBS.out _) ?_);intro v4 w4 h1 h2 h3;obtain⟨a4,c4,rfl⟩:=qbp h1;have HP:=zh (HP3_e.out _ _ _ _ (qa1 _ _) h1 h2 h3);have k1:=HP.out.1;have k2:=HP.out.2.1;have k3:=HP.out.2.2.1;clear h1 h2 h3)
    clear c0_e c1_e c2_e c3_e hz_e
    obtain⟨-,-,-,M9,m1,m2,m4⟩:=HP.out
    have e:(A++[opE E i]).length=A.length+1:=by simp
    rw[e]at m1 m2
    have M1:Hid (MM W0 g s E tv _ M9 (begS σ c lv j k (A++[opE E i]))):=zh (by rw[<-qei (i:=i) (j:=j)];exact m1)
    have M2:Hid (MX W0.heap.size W L σ.N.length σ.C.length _ M9 (begS σ c lv j k (A++[opE E i])).N.length (begS σ c lv j k (A++[opE E i])).C.length):=zh (by rw[<-qei (i:=i) (j:=j)];exact X9.out.trans m2)
    have M4:=zh ((congrFun m4 c).trans HMB.out)
    clear m1 m2 m4 HP k1 k2 k3
    go_step3
    simp only[Exit.then]
    show qd3 _ _ _ _ _
    rw[qcz]
    exact⟨f,by omega,j,k,A++[opE E i],M9,M1,M2,M4,zh ⟨by have:=HKI.out;have:=HY.out.2;omega,by rw[e];have:=HKI.out;have:=HY.out.2;omega⟩,.inr ⟨rfl,_,i0,rfl,HCT,zh (HY.out.1.symm.trans HPF.out)⟩,zh ⟨rfl,rfl,rfl⟩⟩
 ·intro hp
  go_wp2_with fail
  go_step3
  rename_i hK
  exact hK _ _ (hp _ _ _ HI.out)
end
section
variable{W0 W:World}{g:Nat}{s:ByteArray}{E:Env}{tv:Value}{L:PLay}{σ:PM}
theorem qib(E:Env)(lv:Int)(σ:PM):begR E lv σ.C.length { σ with C:=σ.C++[{ lv:=lv }] } =stp E (.expr lv) σ:=by
 have e: ∀y:Chn,(σ.C++[({ lv:=lv } :Chn)]).set σ.C.length y=σ.C++[y]:=fun y=>by
  rw[List.set_append_right _ _ (Nat.le_refl _),Nat.sub_self];rfl
 show(ctL E lv (E.to+2) σ.i 0 >>= fun a=>pfL E (E.to+2) a.2 [] >>= fun b=>_)=(ctL E lv (E.to+2) σ.i 0 >>= fun a=>pfL E (E.to+2) a.2 [] >>= fun b=>_)
 congr 1;funext a;congr 1;funext b
 show Except.ok (PM.plan { σ with i:=b.2,C:=(σ.C++[({ lv:=lv } :Chn)]).set σ.C.length _ } _)=_
 rw[e];rfl
theorem qpm(h:MM W0 g s E tv W L σ)(hk:σ.k.length<=274877906944)(lv:Int)(k1:Nat)(b1:BoxC W (L.P W0.heap.size) (.pointer (some ⟨k1,0,none⟩)) (ptr g))(k2:Nat)(b2:BoxC W (L.P W0.heap.size) (.pointer (some ⟨k2,0,none⟩)) (.int .i64 lv))(hns:stp E (.expr lv) σ≠ .error .stuck):
 Calls Tryz.prog 63 #[.pointer (some ⟨k1,0,none⟩),.pointer (some ⟨k2,0,none⟩)] W (SO (stp E (.expr lv) σ) W0 g s E tv W L σ.N.length σ.C.length):=by
 obtain⟨R,hR⟩: ∃R:Rs PM,R=stp E (.expr lv) σ:=⟨_,rfl⟩
 rw[<-hR]at hns⊢
 have HNS:=zh hns
 have HR:=zh hR
 have H0:=zh h
 have X0:=zh (MX.refl W0.heap.size W L σ.N.length σ.C.length)
 have HK:=zh hk
 have B_r:=zh b1
 have cr0:=b1.cellv
 unfold ptr at cr0
 have B_l:=zh b2
 have cl0:=b2.cellv
 clear h hR hk b1 b2 hns
 try unfold ptr
 go_enter Tryz.func63,Tryz.ntmps63
 obtain⟨M1,hm,hx,hB,-⟩:=H0.out.newC lv
 have HB:=zh hB
 have H1:=zh hm
 have Y1:=zh hx
 have X1:=zh (X0.out.trans Y1.out)
 have B_r_1:=zh (Y1.out.box B_r.out)
 have cr1:=B_r_1.out.cellv
 unfold ptr at cr1
 have B_l_1:=zh (Y1.out.box B_l.out)
 have cl1:=B_l_1.out.cellv
 clear hm hx hB
 have hcc:({ σ with C:=σ.C++[{ lv:=lv }] } :PM).C[σ.C.length]?=some { lv:=lv } :=by
  show(σ.C++[({ lv:=lv } :Chn)])[σ.C.length]?=_
  rw[List.getElem?_append_right (Nat.le_refl _),Nat.sub_self];rfl
 have hns2:begR E lv σ.C.length ({ σ with C:=σ.C++[{ lv:=lv }] } :PM)≠ .error .stuck:=by rw[qib,<-HR.out];exact HNS.out
 have hq:=beginM (σ:=({ σ with C:=σ.C++[{ lv:=lv }] } :PM)) H1.out HK.out σ.C.length lv hcc hns2
 rw[HB.out,qib]at hq
 have HQ:=zh hq
 clear hq hns2 hcc
 go_wp2_with fail
 refine HQ.out.mono ?_
 intro e w9 h9
 cases hres:stp E (.expr lv) σ with
 | error b=>
  cases b with
  | die=>
   have e9:R=.error .die:=HR.out.trans hres
   rw[hres]at h9
   obtain⟨⟨u,pv,rfl⟩,hb⟩:=h9
   have HB9:=zh hb
   subst e9
   clear hb hres
   go_wp2_with fail
   exact⟨rfl,⟨_,_,rfl⟩,HB9.out⟩
  | stuck=>exact absurd (HR.out.trans hres) HNS.out
 | ok τ=>
  have e9:R=.ok τ:=HR.out.trans hres
  rw[hres]at h9
  obtain⟨rfl,M9,hm,hx⟩:=h9
  have H9:=zh hm
  have X9:=zh (X1.out.trans hx)
  subst e9
  clear hm hx hres
  go_wp2_with fail
  go_end0
  exact⟨rfl,M9,H9.out,X9.out⟩
end
end Go.Proofs.YtdhadeeajgoedaaGreat
