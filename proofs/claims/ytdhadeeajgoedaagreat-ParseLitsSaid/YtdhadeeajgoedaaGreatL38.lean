import Derived.Test.YtdhadeeajgoedaaGreatL33
import Derived.Test.YtdhadeeajgoedaaGreatL36
import Derived.Test.YtdhadeeajgoedaaGreatL37
set_option maxRecDepth 100000
set_option maxHeartbeats 4000000
set_option linter.all false
open Go.RowKit.Below renaming drew→zA
open List renaming length_set→zB
open Nat renaming le_refl→zC,le_trans→zD,lt_of_lt_of_le→zE
namespace Go.Proofs.YtdhadeeajgoedaaGreat
open Go.RowKit Go.PlainAid
section
variable{W0 W:World}{g:Nat}{s:ByteArray}{E:Env}{tv:Value}{L:PLay}{σ:PM}
theorem qhs(σ:PM)(j:Nat):(σ.mv j).N.length=σ.N.length:=zB
theorem qs6(h:MM W0 g s E tv W L σ)(hk:σ.k.length<=274877906944)(hns:stp E .call σ≠ .error .stuck):
 Calls Tryz.prog 150 #[.pointer (some ⟨g,0,none⟩)] W (SO (stp E .call σ) W0 g s E tv W L σ.N.length σ.C.length):=by
 obtain⟨R,hR⟩: ∃R:Rs PM,R=stp E .call σ:=⟨_,rfl⟩
 rw[<-hR]at hns⊢
 have HNS:=zh hns
 have HR:=zh hR
 have H0:=zh h
 have X0:=zh (MX.refl W0.heap.size W L σ.N.length σ.C.length)
 have HK:=zh hk
 clear h hR hk hns
 try unfold ptr
 go_enter Tryz.func150,Tryz.ntmps150
 rcases hcu:σ.cur with b9 | ⟨j,x⟩
 ·obtain rfl:=qcy hcu
  exact absurd (by rw[HR.out];simp[stp,hcu,bind,Except.bind]) HNS.out
 have HCU:=zh hcu
 obtain⟨hn_j,hx_j⟩:=qdp hcu
 have HX_j:=zh hx_j
 have HN_j:=zh hn_j
 clear hcu hn_j hx_j
 obtain⟨ka,ta,la,ra,qa,na,va,hNd,⟨la1,la2,la3,rfl⟩,⟨na1,na2,na3,rfl⟩,⟨va1,va2,va3,rfl⟩⟩:=H0.out.ncellsA HX_j.out
 obtain⟨m0_1,m1_1,m2_1,m3_1,m4_1,m5_1,m6_1⟩:=hNd.cells
 have g5:=H0.out.gcur HN_j.out
 have HND9:=zh hNd
 clear hNd
 obtain⟨M1,hm,hx,ha,hl⟩:=H0.out.new1E HX_j.out _ HND9.out 2 ⟨#[]⟩
 have An:=zh (show M1.A σ.N.length=_ from ha)
 have Nbn:=zh (show σ.N.length<_ from hl)
 have H1:=zh hm
 have Y1:=zh hx
 have X1:=zh (X0.out.trans Y1.out)
 clear hm hx ha hl
 go_wp2_with fail
 have q2:=qds H1.out 0
 try unfold ptr at q2
 refine q2.mono ?_
 clear q2
 rintro e w2 ⟨v1,rfl,hv,hb⟩
 obtain⟨fK2,fF2,fC2,rfl⟩:=hv.fn
 have V2:=zh hv
 have H2:=zh (H1.out.below hb)
 have Y2:=zh (H1.out.mxb hb)
 have X2:=zh (X1.out.trans Y2.out)
 have An_2:=zh ((Y2.out.A _ Nbn.out).trans An.out)
 have Nbn_2:=zh (zE Nbn.out Y2.out.N)
 clear hv hb
 go_wp2_with fail
 have q3:=qwe H2.out σ.N.length [40] (.expr 0) _ V2.out Nbn_2.out
 rw[An_2.out]at q3
 try unfold ptr at q3
 refine q3.mono ?_
 clear q3
 rintro e w3 ⟨v2,rfl,hv,hb⟩
 obtain⟨fK3,fF3,fC3,rfl⟩:=hv.fn
 have V3:=zh hv
 have H3:=zh (H2.out.below hb)
 have Y3:=zh (H2.out.mxb hb)
 have X3:=zh (X2.out.trans Y3.out)
 have v1_3:=zh (Y3.out.isc V2.out)
 have An_3:=zh ((Y3.out.A _ Nbn_2.out).trans An_2.out)
 have Nbn_3:=zh (zE Nbn_2.out Y3.out.N)
 clear hv hb
 go_wp2_with fail
 refine(qbh H3.out _ (by simp) [_] [.box σ.N.length [40] (.expr 0)] 1 rfl (zD HK.out (by decide)) (by decide) _ ⟨V3.out,trivial⟩).mono ?_
 rintro e w4 ⟨rfl,M4,hm,hx⟩
 have H4:=zh hm
 have Y4:=zh hx
 have X4:=zh (X3.out.trans Y4.out)
 have v1_4:=zh (Y4.out.isc v1_3.out)
 have v2_4:=zh (Y4.out.isc V3.out)
 have An_4:=zh ((Y4.out.A _ Nbn_3.out).trans An_3.out)
 have Nbn_4:=zh (zE Nbn_3.out Y4.out.N)
 clear hm hx
 have e9:R=.ok (((σ.mv j).new (nk 2 [x])).plan [.box σ.N.length [40] (.expr 0)]):=by
  have hcu:=HCU.out;rw[HR.out];try simp[stp,hcu,bind,Except.bind,pure,Except.pure,Except.map,qib,qhs]
 subst e9
 go_wp2_with fail
 go_end0
 exact⟨rfl,M4,H4.out,X4.out⟩
theorem qss(h:MM W0 g s E tv W L σ)(hk:σ.k.length<=274877906944)(hns:stp E .remo σ≠ .error .stuck):
 Calls Tryz.prog 152 #[.pointer (some ⟨g,0,none⟩)] W (SO (stp E .remo σ) W0 g s E tv W L σ.N.length σ.C.length):=by
 obtain⟨R,hR⟩: ∃R:Rs PM,R=stp E .remo σ:=⟨_,rfl⟩
 rw[<-hR]at hns⊢
 have HNS:=zh hns
 have HR:=zh hR
 have H0:=zh h
 have X0:=zh (MX.refl W0.heap.size W L σ.N.length σ.C.length)
 have HK:=zh hk
 clear h hR hk hns
 try unfold ptr
 go_enter Tryz.func152,Tryz.ntmps152
 rcases hcu:σ.cur with b9 | ⟨j,x⟩
 ·obtain rfl:=qcy hcu
  exact absurd (by rw[HR.out];simp[stp,msE,hcu,bind,Except.bind]) HNS.out
 have HCU:=zh hcu
 obtain⟨hn_j,hx_j⟩:=qdp hcu
 have HX_j:=zh hx_j
 have HN_j:=zh hn_j
 clear hcu hn_j hx_j
 obtain⟨ka,ta,la,ra,qa,na,va,hNd,⟨la1,la2,la3,rfl⟩,⟨na1,na2,na3,rfl⟩,⟨va1,va2,va3,rfl⟩⟩:=H0.out.ncellsA HX_j.out
 obtain⟨m0_1,m1_1,m2_1,m3_1,m4_1,m5_1,m6_1⟩:=hNd.cells
 have g5:=H0.out.gcur HN_j.out
 have HND9:=zh hNd
 clear hNd
 obtain⟨M1,hm,hx,ha,hl⟩:=H0.out.new1E HX_j.out _ HND9.out 3 ⟨#[]⟩
 have An:=zh (show M1.A σ.N.length=_ from ha)
 have Nbn:=zh (show σ.N.length<_ from hl)
 have H1:=zh hm
 have Y1:=zh hx
 have X1:=zh (X0.out.trans Y1.out)
 clear hm hx ha hl
 go_wp2_with fail
 have q2:=qdd H1.out [58]
 try unfold ptr at q2
 refine q2.mono ?_
 clear q2
 intro e w2 h2
 rcases hr2:sgE E 9 [58] ((σ.mv j).new (nkt 3 ⟨#[]⟩ [x])).i with x9 | ⟨b,i2⟩
 ·obtain rfl:=qax (by first | exact qae hr2 | exact qag hr2 | exact qaf hr2)
  rw[hr2]at h2
  replace hr2:sgE E 9 [58] σ.i=_:=hr2
  obtain⟨⟨u,pv,rfl⟩,hb⟩:=h2
  have HB9:=zh hb
  have HR2:=zh hr2
  have e9:R=.error .die:=by
   have hcu:=HCU.out;have hr2:=HR2.out;rw[HR.out];try simp[stp,msE,hcu,hr2,bind,Except.bind,pure,Except.pure,Except.map]
  subst e9
  clear hb hr2
  go_wp2_with fail
  exact⟨rfl,⟨_,_,rfl⟩,HB9.out⟩
 ·rw[hr2]at h2
  replace hr2:sgE E 9 [58] σ.i=_:=hr2
  have HR2:=zh hr2
  obtain⟨rfl,hm,hx⟩:=h2
  have H2:=zh hm
  have Y2:=zh hx
  have X2:=zh (X1.out.trans Y2.out)
  have An_2:=zh ((Y2.out.A _ Nbn.out).trans An.out)
  have Nbn_2:=zh (zE Nbn.out Y2.out.N)
  clear hm hx hr2
  cases b
  ·have e9:R=.error .die:=by
    have hcu:=HCU.out;have hr2:=HR2.out;rw[HR.out];try simp[stp,msE,hcu,hr2,bind,Except.bind,pure,Except.pure,Except.map]
   subst e9
   go_wp2_with fail
   refine(qat _).mono ?_
   rintro e w9 ⟨⟨u,pv,rfl⟩,rfl⟩
   go_wp2_with fail
   exact⟨rfl,⟨_,_,rfl⟩,H2.out.bel⟩
  ·go_wp2_with fail
   refine(qas _).mono ?_
   rintro e w9 ⟨rfl,rfl⟩
   have V3:=zh ((IsC.clld:IsC w2 (M1.P W0.heap.size) g M1.A M1.B ((((σ.mv j).new (nkt 3 ⟨#[]⟩ [x])).at_ i2)).N.length ((((σ.mv j).new (nkt 3 ⟨#[]⟩ [x])).at_ i2)).C.length _ .clld))
   go_wp2_with fail
   have q4:=qjs H2.out σ.N.length Nbn_2.out
   rw[An_2.out]at q4
   try unfold ptr at q4
   refine q4.mono ?_
   clear q4
   rintro e w4 ⟨v2,rfl,hv,hb⟩
   obtain⟨fK4,fF4,fC4,rfl⟩:=hv.fn
   have V4:=zh hv
   have H4:=zh (H2.out.below hb)
   have Y4:=zh (H2.out.mxb hb)
   have X4:=zh (X2.out.trans Y4.out)
   have v1_4:=zh (Y4.out.isc V3.out)
   have An_4:=zh ((Y4.out.A _ Nbn_2.out).trans An_2.out)
   have Nbn_4:=zh (zE Nbn_2.out Y4.out.N)
   clear hv hb
   go_wp2_with fail
   refine(qbh H4.out _ (by simp) [_,_] [.clld,.into σ.N.length] 2 rfl (zD HK.out (by decide)) (by decide) _ ⟨v1_4.out,⟨V4.out,trivial⟩⟩).mono ?_
   rintro e w5 ⟨rfl,M5,hm,hx⟩
   have H5:=zh hm
   have Y5:=zh hx
   have X5:=zh (X4.out.trans Y5.out)
   have v1_5:=zh (Y5.out.isc v1_4.out)
   have v2_5:=zh (Y5.out.isc V4.out)
   have An_5:=zh ((Y5.out.A _ Nbn_4.out).trans An_4.out)
   have Nbn_5:=zh (zE Nbn_4.out Y5.out.N)
   clear hm hx
   have e9:R=.ok (((((σ.mv j).new (nk 3 [x])).at_ i2).plan [.clld,.into σ.N.length])):=by
    have hcu:=HCU.out;have hr2:=HR2.out;rw[HR.out];try simp[stp,msE,hcu,hr2,bind,Except.bind,pure,Except.pure,Except.map,qhs]
   subst e9
   go_wp2_with fail
   go_end0
   exact⟨rfl,M5,H5.out,X5.out⟩
theorem qxd{E:Env}{i j:Nat}(h:tkE E i=.ok j):i<=j:=by
 unfold tkE at h
 split at h
 ·have:=Except.ok.inj h;omega
 ·cases h
theorem qea{E:Env}{f:Int->Bool}{i:Nat}{x:ByteArray×Nat}(h:txE E f i=.ok x):i<=x.2:=by
 unfold txE at h
 split at h
 ·cases e:tkE E i with
  | error b=>rw[e]at h;cases h
  | ok j=>rw[e]at h;have h2:=Except.ok.inj h;subst h2;exact qxd e
 ·cases h
theorem qi0{E:Env}{k:Int}{s:Bs}{i:Nat}{x:Bool×Nat}(h:sgE E k s i=.ok x):i<=x.2:=by
 unfold sgE at h
 split at h
 ·cases e:tkE E i with
  | error b=>rw[e]at h;cases h
  | ok j=>rw[e]at h;have h2:=Except.ok.inj h;subst h2;exact qxd e
 ·have h2:=Except.ok.inj h;subst h2;exact zC _
theorem qi1(h:MM W0 g s E tv W L σ)(f i:Nat)(hi:σ.i=i)(hf:f<=i):
 Calls Tryz.prog 180 #[.pointer (some ⟨g,0,none⟩),.int .i64 (f:Int)] W fun e W'=>e=.returned (.string (scE E (i-f) f))/\Below W.heap.size W W':=by
 subst hi
 obtain⟨td,np,past,r1,-,-⟩:=h.open
 exact qo3 r1 f hf
theorem qis(τ:PM)(x:Nd)(i:Nat):((τ.new x).at_ i).N[τ.N.length]?=some (some x):=by
 show(τ.N++[some x])[τ.N.length]?=_
 simp
theorem qqh(τ:PM)(x y:Nd)(i:Nat):((τ.new x).at_ i).set τ.N.length y=(τ.at_ i).new y:=by
 simp[PM.new,PM.set,PM.at_]
theorem MM.reK{τ:PM}{i n B:Nat}{k:Int}{t:ByteArray}{l:List Nd}(h:MM W0 g s E tv W L ((τ.new (nkt k t l)).at_ i))(hn:n=τ.N.length)(hA:L.A n=B)(k':Int)(t':ByteArray):
 MM W0 g s E tv ((W.setCell ⟨B,0,none⟩ (.int .i64 k')).setCell ⟨B,1,none⟩ (.string t')) L ((τ.at_ i).new (nkt k' t' l))/\MX W0.heap.size W L (τ.new (nkt k t l)).N.length τ.C.length ((W.setCell ⟨B,0,none⟩ (.int .i64 k')).setCell ⟨B,1,none⟩ (.string t')) L (τ.new (nkt k' t' l)).N.length τ.C.length:=by
 subst hn
 subst hA
 obtain⟨h1,x1⟩:=h.setKd (k':=k') (qis τ _ i)
 rw[qqh]at h1 x1
 obtain⟨h2,x2⟩:=h1.setTxt (n:=τ.N.length) (qis τ _ i) t'
 have e:=qqh (τ.at_ i) (.mk k' t l false false [] []) (nkt k' t' l) i
 have e2:((τ.at_ i).new (.mk k' t l false false [] [])).set τ.N.length (nkt k' t' l)=(τ.at_ i).new (nkt k' t' l):=e
 have h3:MM W0 g s E tv _ L (((τ.at_ i).new (.mk k' t l false false [] [])).set τ.N.length (nkt k' t' l)):=h2
 rw[e2]at h3
 have h4:=x1.trans x2
 rw[show(((τ.at_ i).new (.mk k' t l false false [] [])).set τ.N.length ((Nd.mk k' t l false false [] []).txt' t')).N.length=(τ.new (nkt k' t' l)).N.length by simp[PM.set,PM.new,PM.at_]]at h4
 exact⟨h3,h4⟩
theorem one1(k:Int):([1]:List Int).contains k=(k==1):=by
 rw[Bool.eq_iff_iff]
 simp
theorem chgdM(h:MM W0 g s E tv W L σ)(hk:σ.k.length<=274877906944)(hns:qbp E σ≠ .error .stuck):
 Calls Tryz.prog 151 #[.pointer (some ⟨g,0,none⟩)] W (SO (qbp E σ) W0 g s E tv W L σ.N.length σ.C.length):=by
 obtain⟨R,hR⟩: ∃R:Rs PM,R=qbp E σ:=⟨_,rfl⟩
 rw[<-hR]at hns⊢
 have HNS:=zh hns
 have HR:=zh hR
 have H0:=zh h
 have X0:=zh (MX.refl W0.heap.size W L σ.N.length σ.C.length)
 have HK:=zh hk
 clear h hR hk hns
 try unfold ptr
 go_enter Tryz.func151,Tryz.ntmps151
 rcases hcu:σ.cur with b9 | ⟨j,x⟩
 ·obtain rfl:=qcy hcu
  exact absurd (by rw[HR.out];simp[qbp,msE,hcu,bind,Except.bind]) HNS.out
 have HCU:=zh hcu
 obtain⟨hn_j,hx_j⟩:=qdp hcu
 have HX_j:=zh hx_j
 have HN_j:=zh hn_j
 clear hcu hn_j hx_j
 obtain⟨ka,ta,la,ra,qa,na,va,hNd,⟨la1,la2,la3,rfl⟩,⟨na1,na2,na3,rfl⟩,⟨va1,va2,va3,rfl⟩⟩:=H0.out.ncellsA HX_j.out
 obtain⟨m0_1,m1_1,m2_1,m3_1,m4_1,m5_1,m6_1⟩:=hNd.cells
 have g5:=H0.out.gcur HN_j.out
 have HND9:=zh hNd
 clear hNd
 obtain⟨M1,hm,hx,ha,hl⟩:=H0.out.new1E HX_j.out _ HND9.out 9 ⟨#[]⟩
 have An:=zh (show M1.A σ.N.length=_ from ha)
 have Nbn:=zh (show σ.N.length<_ from hl)
 have H1:=zh hm
 have Y1:=zh hx
 have X1:=zh (X0.out.trans Y1.out)
 clear hm hx ha hl
 go_wp2_with fail
 have q2:=qdd H1.out [35]
 try unfold ptr at q2
 refine q2.mono ?_
 clear q2
 intro e w2 h2
 rcases hr2:sgE E 9 [35] ((σ.mv j).new (nkt 9 ⟨#[]⟩ [x])).i with x9 | ⟨b,i2⟩
 ·obtain rfl:=qax (by first | exact qae hr2 | exact qag hr2 | exact qaf hr2)
  rw[hr2]at h2
  replace hr2:sgE E 9 [35] σ.i=_:=hr2
  obtain⟨⟨u,pv,rfl⟩,hb⟩:=h2
  have HB9:=zh hb
  have HR2:=zh hr2
  have e9:R=.error .die:=by
   have hcu:=HCU.out;have hr2:=HR2.out;rw[HR.out];try simp[qbp,msE,hcu,hr2,bind,Except.bind,pure,Except.pure,Except.map]
  subst e9
  clear hb hr2
  go_wp2_with fail
  exact⟨rfl,⟨_,_,rfl⟩,HB9.out⟩
 ·rw[hr2]at h2
  replace hr2:sgE E 9 [35] σ.i=_:=hr2
  have HR2:=zh hr2
  obtain⟨rfl,hm,hx⟩:=h2
  have H2:=zh hm
  have Y2:=zh hx
  have X2:=zh (X1.out.trans Y2.out)
  have An_2:=zh ((Y2.out.A _ Nbn.out).trans An.out)
  have Nbn_2:=zh (zE Nbn.out Y2.out.N)
  clear hm hx hr2
  cases b
  ·have e9:R=.error .die:=by
    have hcu:=HCU.out;have hr2:=HR2.out;rw[HR.out];try simp[qbp,msE,hcu,hr2,bind,Except.bind,pure,Except.pure,Except.map]
   subst e9
   go_wp2_with fail
   refine(qat _).mono ?_
   rintro e w9 ⟨⟨u,pv,rfl⟩,rfl⟩
   go_wp2_with fail
   exact⟨rfl,⟨_,_,rfl⟩,H2.out.bel⟩
  ·go_wp2_with fail
   refine(qas _).mono ?_
   rintro e w9 ⟨rfl,rfl⟩
   cases hs2:E.sign (pz i2) [123]
   ·have HS2:=zh hs2
    go_wp2_with fail
    have q3:=qcb (σ:=(((σ.mv j).new (nkt 9 ⟨#[]⟩ [x])).at_ i2)) H2.out [123]
    rw[show E.sign (pz (((σ.mv j).new (nkt 9 ⟨#[]⟩ [x])).at_ i2).i) [123]=_ from HS2.out]at q3
    try unfold ptr at q3
    refine q3.mono ?_
    clear q3
    rintro e w3 ⟨rfl,hm,hx⟩
    have H3:=zh hm
    have Y3:=zh hx
    have X3:=zh (X2.out.trans Y3.out)
    have An_3:=zh ((Y3.out.A _ Nbn_2.out).trans An_2.out)
    have Nbn_3:=zh (zE Nbn_2.out Y3.out.N)
    clear hm hx
    obtain⟨-,-,g2⟩:=H3.out.gcell
    have g2':w3.cell? ⟨g,2,none⟩=some (.int .i64 (i2:Int)):=g2
    clear g2
    go_wp2_with fail
    have q4:=qqe (σ:=(((σ.mv j).new (nkt 9 ⟨#[]⟩ [x])).at_ i2)) H3.out
    try unfold ptr at q4
    refine q4.mono ?_
    clear q4
    intro e w4 h4
    rcases hr4:txE E nmk (((σ.mv j).new (nkt 9 ⟨#[]⟩ [x])).at_ i2).i with x9 | x2
    ·obtain rfl:=qax (by first | exact qae hr4 | exact qag hr4 | exact qaf hr4)
     rw[hr4]at h4
     replace hr4:txE E nmk i2=_:=hr4
     obtain⟨⟨u,pv,rfl⟩,hb⟩:=h4
     have HB9:=zh hb
     have HR4:=zh hr4
     have e9:R=.error .die:=by
      have hcu:=HCU.out;have hr2:=HR2.out;have hs2:=HS2.out;have hr4:=HR4.out;rw[HR.out];try simp[qbp,msE,hcu,hr2,hs2,hr4,bind,Except.bind,pure,Except.pure,Except.map]
     subst e9
     clear hb hr4
     go_wp2_with fail
     exact⟨rfl,⟨_,_,rfl⟩,HB9.out⟩
    ·rw[hr4]at h4
     replace hr4:txE E nmk i2=_:=hr4
     have HR4:=zh hr4
     obtain⟨rfl,hm,hx⟩:=h4
     have H4:=zh hm
     have Y4:=zh hx
     have X4:=zh (X3.out.trans Y4.out)
     have An_4:=zh ((Y4.out.A _ Nbn_3.out).trans An_3.out)
     have Nbn_4:=zh (zE Nbn_3.out Y4.out.N)
     clear hm hx hr4
     have hg4:=qis (σ.mv j) (nkt 9 ⟨#[]⟩ [x]) x2.2
     rw[qhs]at hg4
     obtain⟨ka4,ta4,la4,ra4,qa4,na4,va4,hNd4⟩:=H4.out.ncells hg4
     obtain⟨m0_4,m1_4,m2_4,m3_4,m4_4,m5_4,m6_4⟩:=hNd4.cells
     have mf0_4:=hNd4.frz 0
     have mf1_4:=hNd4.frz 1
     clear hNd4
     rw[An_4.out]at m0_4 m1_4 mf0_4 mf1_4
     have hr9:=MM.reK (τ:=σ.mv j) (i:=x2.2) (n:=σ.N.length) H4.out (qhs σ j).symm An_4.out 11 x2.1
     have HRK:=zh hr9
     clear hr9
     go_wp2_with fail
     have H5:=zh HRK.out.1
     have Y5:=zh HRK.out.2
     have X5:=zh (X4.out.trans Y5.out)
     have An_5:=zh ((Y5.out.A _ Nbn_4.out).trans An_4.out)
     have Nbn_5:=zh (zE Nbn_4.out Y5.out.N)
     have q6:=qdd (σ:=(((σ.mv j).at_ x2.2).new (nkt 11 x2.1 [x]))) H5.out [46]
     try unfold ptr at q6
     refine q6.mono ?_
     clear q6
     intro e w6 h6
     rcases hr6:sgE E 9 [46] (((σ.mv j).at_ x2.2).new (nkt 11 x2.1 [x])).i with x9 | ⟨b,i4⟩
     ·obtain rfl:=qax (by first | exact qae hr6 | exact qag hr6 | exact qaf hr6)
      rw[hr6]at h6
      replace hr6:sgE E 9 [46] x2.2=_:=hr6
      obtain⟨⟨u,pv,rfl⟩,hb⟩:=h6
      have HB9:=zh hb
      have HR6:=zh hr6
      have e9:R=.error .die:=by
       have hcu:=HCU.out;have hr2:=HR2.out;have hs2:=HS2.out;have hr4:=HR4.out;have hr6:=HR6.out;rw[HR.out];try simp[qbp,msE,hcu,hr2,hs2,hr4,hr6,bind,Except.bind,pure,Except.pure,Except.map]
      subst e9
      clear hb hr6
      go_wp2_with fail
      exact⟨rfl,⟨_,_,rfl⟩,HB9.out⟩
     ·rw[hr6]at h6
      replace hr6:sgE E 9 [46] x2.2=_:=hr6
      have HR6:=zh hr6
      obtain⟨rfl,hm,hx⟩:=h6
      have H6:=zh hm
      have Y6:=zh hx
      have X6:=zh (X5.out.trans Y6.out)
      have An_6:=zh ((Y6.out.A _ Nbn_5.out).trans An_5.out)
      have Nbn_6:=zh (zE Nbn_5.out Y6.out.N)
      clear hm hx hr6
      cases b
      ·obtain rfl:=qdu HR6.out
       go_wp2_with fail
       have q7:=qds (σ:=((((σ.mv j).at_ x2.2).new (nkt 11 x2.1 [x])).at_ x2.2)) H6.out 0
       try unfold ptr at q7
       refine q7.mono ?_
       clear q7
       rintro e w7 ⟨v1,rfl,hv,hb⟩
       obtain⟨fK7,fF7,fC7,rfl⟩:=hv.fn
       have V7:=zh hv
       have H7:=zh (H6.out.below hb)
       have Y7:=zh (H6.out.mxb hb)
       have X7:=zh (X6.out.trans Y7.out)
       have An_7:=zh ((Y7.out.A _ Nbn_6.out).trans An_6.out)
       have Nbn_7:=zh (zE Nbn_6.out Y7.out.N)
       clear hv hb
       go_wp2_with fail
       have q8:=qwe (σ:=((((σ.mv j).at_ x2.2).new (nkt 11 x2.1 [x])).at_ x2.2)) H7.out σ.N.length [123] (.expr 0) _ V7.out Nbn_7.out
       rw[An_7.out]at q8
       try unfold ptr at q8
       refine q8.mono ?_
       clear q8
       rintro e w8 ⟨v2,rfl,hv,hb⟩
       obtain⟨fK8,fF8,fC8,rfl⟩:=hv.fn
       have V8:=zh hv
       have H8:=zh (H7.out.below hb)
       have Y8:=zh (H7.out.mxb hb)
       have X8:=zh (X7.out.trans Y8.out)
       have v1_8:=zh (Y8.out.isc V7.out)
       have An_8:=zh ((Y8.out.A _ Nbn_7.out).trans An_7.out)
       have Nbn_8:=zh (zE Nbn_7.out Y8.out.N)
       clear hv hb
       go_wp2_with fail
       refine(qbh H8.out _ (by simp) [_] [.box σ.N.length [123] (.expr 0)] 1 rfl (zD HK.out (by decide)) (by decide) _ ⟨V8.out,trivial⟩).mono ?_
       rintro e w9 ⟨rfl,M9,hm,hx⟩
       have H9:=zh hm
       have Y9:=zh hx
       have X9:=zh (X8.out.trans Y9.out)
       have v1_9:=zh (Y9.out.isc v1_8.out)
       have v2_9:=zh (Y9.out.isc V8.out)
       have An_9:=zh ((Y9.out.A _ Nbn_8.out).trans An_8.out)
       have Nbn_9:=zh (zE Nbn_8.out Y9.out.N)
       clear hm hx
       have e9:R=.ok ((((σ.mv j).at_ x2.2).new (nkt 11 x2.1 [x])).plan [.box σ.N.length [123] (.expr 0)]):=by
        have hcu:=HCU.out;have hr2:=HR2.out;have hs2:=HS2.out;have hr4:=HR4.out;have hr6:=HR6.out;rw[HR.out];try simp[qbp,msE,hcu,hr2,hs2,hr4,hr6,bind,Except.bind,pure,Except.pure,Except.map,qib,PM.at_,PM.new,PM.mv,PM.plan,nk,nkt]
       subst e9
       go_wp2_with fail
       go_end0
       exact⟨rfl,M9,H9.out,X9.out⟩
      ·skip
       go_wp2_with fail
       have hb:=qa1 w6 (.cells #[.int .i64 1] 3)
       have Uk:=zh (qev w6 _ rfl [1] (by decide) 3)
       have Ugk:=zh (show w6.heap.size≠g from by have:=H6.out.glt;omega)
       have H10:=zh (H6.out.below hb)
       have Y10:=zh (H6.out.mxb hb)
       have X10:=zh (X6.out.trans Y10.out)
       have An_10:=zh ((Y10.out.A _ Nbn_6.out).trans An_6.out)
       have Nbn_10:=zh (zE Nbn_6.out Y10.out.N)
       clear hb
       have q11:=textM (σ:=((((σ.mv j).at_ x2.2).new (nkt 11 x2.1 [x])).at_ i4)) H10.out (· ==1) [1] one1 rfl w6.heap.size 1 rfl Uk.out (by simp) Ugk.out
       try unfold ptr at q11
       refine q11.mono ?_
       clear q11
       intro e w11 h11
       rcases hr11:txE E (· ==1) ((((σ.mv j).at_ x2.2).new (nkt 11 x2.1 [x])).at_ i4).i with x9 | x5
       ·obtain rfl:=qax (by first | exact qae hr11 | exact qag hr11 | exact qaf hr11)
        rw[hr11]at h11
        replace hr11:txE E (· ==1) i4=_:=hr11
        obtain⟨⟨u,pv,rfl⟩,hb⟩:=h11
        have HB9:=zh hb
        have HR11:=zh hr11
        have e9:R=.error .die:=by
         have hcu:=HCU.out;have hr2:=HR2.out;have hs2:=HS2.out;have hr4:=HR4.out;have hr6:=HR6.out;have hr11:=HR11.out;rw[HR.out];try simp[qbp,msE,hcu,hr2,hs2,hr4,hr6,hr11,bind,Except.bind,pure,Except.pure,Except.map]
        subst e9
        clear hb hr11
        go_wp2_with fail
        exact⟨rfl,⟨_,_,rfl⟩,HB9.out⟩
       ·rw[hr11]at h11
        replace hr11:txE E (· ==1) i4=_:=hr11
        have HR11:=zh hr11
        obtain⟨rfl,hm,hx⟩:=h11
        have H11:=zh hm
        have Y11:=zh hx
        have X11:=zh (X10.out.trans Y11.out)
        have An_11:=zh ((Y11.out.A _ Nbn_10.out).trans An_10.out)
        have Nbn_11:=zh (zE Nbn_10.out Y11.out.N)
        clear hm hx hr11
        go_wp2_with fail
        have hf9:i2<=x5.2:=zD (qea HR4.out) (zD (qi0 HR6.out) (qea HR11.out))
        have q12:=qi1 (σ:=((((σ.mv j).at_ x2.2).new (nkt 11 x2.1 [x])).at_ x5.2)) H11.out i2 x5.2 rfl hf9
        try unfold ptr at q12
        refine q12.mono ?_
        clear q12 hf9
        rintro e w12 ⟨rfl,hb⟩
        have H12:=zh (MM.below (σ:=((((σ.mv j).at_ x2.2).new (nkt 11 x2.1 [x])).at_ x5.2)) H11.out hb)
        have Y12:=zh (MM.mxb (σ:=((((σ.mv j).at_ x2.2).new (nkt 11 x2.1 [x])).at_ x5.2)) H11.out hb)
        have X12:=zh (X11.out.trans Y12.out)
        have An_12:=zh ((Y12.out.A _ Nbn_11.out).trans An_11.out)
        have Nbn_12:=zh (zE Nbn_11.out Y12.out.N)
        clear hb
        have hg9:=qis ((σ.mv j).at_ x2.2) (nkt 11 x2.1 [x]) x5.2
        rw[show((σ.mv j).at_ x2.2).N.length=σ.N.length from qhs σ j]at hg9
        obtain⟨ka12,ta12,la12,ra12,qa12,na12,va12,hNd12⟩:=H12.out.ncells hg9
        obtain⟨m0_12,m1_12,m2_12,m3_12,m4_12,m5_12,m6_12⟩:=hNd12.cells
        have mf0_12:=hNd12.frz 0
        have mf1_12:=hNd12.frz 1
        clear hNd12
        rw[An_12.out]at m0_12 m1_12 mf0_12 mf1_12
        have hr9:=MM.reK (τ:=(σ.mv j).at_ x2.2) (i:=x5.2) (n:=σ.N.length) H12.out (qhs σ j).symm An_12.out 12 (scE E (x5.2-i2) i2)
        have HRK2:=zh hr9
        clear hr9
        have gf9:=H12.out.gcell.2.1 5
        obtain⟨⟨np9,g59,-⟩,-,-⟩:=H12.out.gcell
        go_wp2_with fail
        have H13:=zh HRK2.out.1
        have Y13:=zh HRK2.out.2
        have X13:=zh (X12.out.trans Y13.out)
        have An_13:=zh ((Y13.out.A _ Nbn_12.out).trans An_12.out)
        have Nbn_13:=zh (zE Nbn_12.out Y13.out.N)
        have hs9:=MM.setIs (σ:=(((σ.mv j).at_ x5.2).new (nkt 12 (scE E (x5.2-i2) i2) [x]))) H13.out (n:=σ.N.length) (by have:=Nbn_13.out;exact this)
        rw[An_13.out]at hs9
        have HIS:=zh hs9
        clear hs9
        have H14:=zh HIS.out.1
        have Y14:=zh HIS.out.2
        have X14:=zh (X13.out.trans Y14.out)
        have An_14:=zh ((Y14.out.A _ Nbn_13.out).trans An_13.out)
        have Nbn_14:=zh (zE Nbn_13.out Y14.out.N)
        have e9:R=.ok (((((σ.mv j).at_ x5.2).new (nkt 12 (scE E (x5.2-i2) i2) [x])).is σ.N.length)):=by
         have hcu:=HCU.out;have hr2:=HR2.out;have hs2:=HS2.out;have hr4:=HR4.out;have hr6:=HR6.out;have hr11:=HR11.out;rw[HR.out];try simp[qbp,msE,hcu,hr2,hs2,hr4,hr6,hr11,bind,Except.bind,pure,Except.pure,Except.map]
        subst e9
        go_wp2_with fail
        go_end0
        exact⟨rfl,M1,H14.out,X14.out⟩
   ·have HS2:=zh hs2
    go_wp2_with fail
    have q15:=qcb (σ:=(((σ.mv j).new (nkt 9 ⟨#[]⟩ [x])).at_ i2)) H2.out [123]
    rw[show E.sign (pz (((σ.mv j).new (nkt 9 ⟨#[]⟩ [x])).at_ i2).i) [123]=_ from HS2.out]at q15
    try unfold ptr at q15
    refine q15.mono ?_
    clear q15
    rintro e w15 ⟨rfl,hm,hx⟩
    have H15:=zh hm
    have Y15:=zh hx
    have X15:=zh (X2.out.trans Y15.out)
    have An_15:=zh ((Y15.out.A _ Nbn_2.out).trans An_2.out)
    have Nbn_15:=zh (zE Nbn_2.out Y15.out.N)
    clear hm hx
    have V16:=zh ((IsC.pair:IsC w15 (M1.P W0.heap.size) g M1.A M1.B ((((σ.mv j).new (nkt 9 ⟨#[]⟩ [x])).at_ i2)).N.length ((((σ.mv j).new (nkt 9 ⟨#[]⟩ [x])).at_ i2)).C.length _ .pair))
    go_wp2_with fail
    have q17:=qwe H15.out σ.N.length [123] .pair _ V16.out Nbn_15.out
    rw[An_15.out]at q17
    try unfold ptr at q17
    refine q17.mono ?_
    clear q17
    rintro e w17 ⟨v2,rfl,hv,hb⟩
    obtain⟨fK17,fF17,fC17,rfl⟩:=hv.fn
    have V17:=zh hv
    have H17:=zh (H15.out.below hb)
    have Y17:=zh (H15.out.mxb hb)
    have X17:=zh (X15.out.trans Y17.out)
    have v1_17:=zh (Y17.out.isc V16.out)
    have An_17:=zh ((Y17.out.A _ Nbn_15.out).trans An_15.out)
    have Nbn_17:=zh (zE Nbn_15.out Y17.out.N)
    clear hv hb
    go_wp2_with fail
    refine(qbh H17.out _ (by simp) [_] [.box σ.N.length [123] .pair] 1 rfl (zD HK.out (by decide)) (by decide) _ ⟨V17.out,trivial⟩).mono ?_
    rintro e w18 ⟨rfl,M18,hm,hx⟩
    have H18:=zh hm
    have Y18:=zh hx
    have X18:=zh (X17.out.trans Y18.out)
    have v1_18:=zh (Y18.out.isc v1_17.out)
    have v2_18:=zh (Y18.out.isc V17.out)
    have An_18:=zh ((Y18.out.A _ Nbn_17.out).trans An_17.out)
    have Nbn_18:=zh (zE Nbn_17.out Y18.out.N)
    clear hm hx
    have e9:R=.ok ((((σ.mv j).new (nk 9 [x])).at_ i2).plan [.box σ.N.length [123] .pair]):=by
     have hcu:=HCU.out;have hr2:=HR2.out;have hs2:=HS2.out;rw[HR.out];try simp[qbp,msE,hcu,hr2,hs2,bind,Except.bind,pure,Except.pure,Except.map,qib,PM.at_,PM.new,PM.mv,PM.plan,nk,nkt]
    subst e9
    go_wp2_with fail
    go_end0
    exact⟨rfl,M18,H18.out,X18.out⟩
end
section
variable{W0 W:World}{g:Nat}{s:ByteArray}{E:Env}{tv:Value}{L:PLay}{σ:PM}
theorem qaq{W:World}{q:Nat}{u:Value}{T:TypeId}(h:W.heap[q]?=some (.cells #[u] T (0,0))):W.cell? ⟨q,0,none⟩=some u/\W.frozen? ⟨q,0,none⟩=false:=⟨by rw[cell_of_row W _ _ _ _ _ h];rfl,qaw h 0⟩
def PLay.mine(L:PLay)(q:Nat):PLay:= { A:=L.A,B:=L.B,own:=fun k=>if k=q then .ca 0 else L.own k }
theorem MM.spare{W':World}(h:MM W0 g s E tv W L σ)(hb:Below W.heap.size W W'){q:Nat}(h1:W.heap.size<=q)(h2:q<W'.heap.size):MM W0 g s E tv W' (L.mine q) σ:=by
 have hcr:=h.carry (L':=L.mine q) (fun _=>False) (fun e=>e) hb.size hb.os hb.tape hb.output (fun k hk _=>hb.block k hk) (fun k hk _=>if_neg (by omega)) (fun _ _=>rfl) (fun _ _=>rfl)
 obtain⟨td,np,past,r1,r2,r3⟩:=h.rd
 refine⟨hcr.bel,fun k hk=>?_,?_,h.tvb,⟨td,np,past,r1.below hb,hcr.td td _ _ (zC _) (zC _) (fun e=>e) r2,r3⟩,fun n x hx=>hcr.nds n x hx (fun e=>e) (fun e=>e),fun c x hx=>hcr.chs c x hx (fun e=>e) (fun e=>e) (fun e=>e),h.lfb,h.nb⟩
 ·have hk:(if k=q then PTg.ca 0 else L.own k)≠ .fz:=hk
  by_cases e:k=q
  ·subst e;exact⟨zD h.bel.size h1,h2⟩
  ·rw[if_neg e]at hk
   exact⟨(h.own k hk).1,zE (h.own k hk).2 hb.size⟩
 ·show(if g=q then PTg.ca 0 else L.own g)=.rd
  rw[if_neg (by have:=r1.lt;omega)];exact h.og
theorem IsC.mineUp{W W':World}{L:PLay}{b g nN nC q:Nat}{v:Value}{st:Stp}(h:IsC W (L.P b) g L.A L.B nN nC v st)(hb:Below W.heap.size W W')(hq:W.heap.size<=q):IsC W' ((L.mine q).P b) g (L.mine q).A (L.mine q).B nN nC v st:=
 h.keep (qay hb) (fun k a hl=>⟨(if_neg (by omega)).trans a.1,a.2⟩) (fun _ _=>rfl) (fun _ _=>rfl) (zC _) (zC _)
theorem PLay.mine_ne{L:PLay}{b q k:Nat}(h:(L.mine q).P b k):k≠q/\L.P b k:=by
 have h1:(if k=q then PTg.ca 0 else L.own k)=.fz:=h.1
 by_cases e:k=q
 ·rw[if_pos e]at h1;cases h1
 ·rw[if_neg e]at h1;exact⟨e,h1,h.2⟩
theorem IsC.mineDown{W:World}{L:PLay}{b g nN nC q:Nat}{v:Value}{st:Stp}(h:IsC W ((L.mine q).P b) g (L.mine q).A (L.mine q).B nN nC v st)(u:Value):IsC (W.setCell ⟨q,0,none⟩ u) (L.P b) g L.A L.B nN nC v st:=
 h.keep (A':=L.A) (B':=L.B) ⟨by rw[World.size_setCell];exact zC _,fun k a _=>Below.heap_setCell _ _ _ _ (PLay.mine_ne a).1⟩ (fun _ a _=>(PLay.mine_ne a).2) (fun _ _=>rfl) (fun _ _=>rfl) (zC _) (zC _)
theorem MM.laid{W':World}(h:MM W0 g s E tv W L σ)(hb:Below W.heap.size W W'){q:Nat}(hq:W.heap.size<=q){v u:Value}{T:TypeId}{st:Stp}{nN nC:Nat}(hv:IsC W' ((L.mine q).P W0.heap.size) g (L.mine q).A (L.mine q).B nN nC v st)(hc:W'.heap[q]?=some (.cells #[u] T (0,0))):
 BoxC (W'.setCell ⟨q,0,none⟩ v) (L.P W0.heap.size) (ptr q) v/\IsC (W'.setCell ⟨q,0,none⟩ v) (L.P W0.heap.size) g L.A L.B nN nC v st/\Below W.heap.size W (W'.setCell ⟨q,0,none⟩ v):=
 ⟨h.boxN (T:=T) hq (by simpa using Lib.heap_setCell_same (i:=0) hc v),hv.mineDown v,hb.setCell hq v⟩
theorem MM.laidB{W':World}(h:MM W0 g s E tv W L σ)(hb:Below W.heap.size W W'){v:Value}(T:TypeId){st:Stp}{nN nC:Nat}(hv:IsC W' (L.P W0.heap.size) g L.A L.B nN nC v st):
 BoxC (W'.alloc (.cells #[v] T)) (L.P W0.heap.size) (ptr W'.heap.size) v/\IsC (W'.alloc (.cells #[v] T)) (L.P W0.heap.size) g L.A L.B nN nC v st/\Below W.heap.size W (W'.alloc (.cells #[v] T)):=
 ⟨h.boxN (T:=T) hb.size (qaa _ _),hv.keep (qay (qa1 _ _)) (fun _ a _=>a) (fun _ _=>rfl) (fun _ _=>rfl) (zC _) (zC _),hb.alloc hb.size _⟩
theorem qlu(h:MM W0 g s E tv W L σ)(n:Nat)(k:Int)(t:Bs)(v:Value)(hv:IsC W (L.P W0.heap.size) g L.A L.B σ.N.length σ.C.length v (.want k t))(hn:n<σ.N.length){a:Nat}(ha:L.A n=a):
 Calls Tryz.prog 189 #[.pointer (some ⟨g,0,none⟩),.pointer (some ⟨a,0,none⟩),v] W (MkO W0 g W L σ.N.length σ.C.length (.tail n k t)):=by subst ha;exact qlv h n k t v hv hn
theorem qs5(h:MM W0 g s E tv W L σ)(hk:σ.k.length<=274877906944):
 Calls Tryz.prog 44 #[.pointer (some ⟨g,0,none⟩)] W (SO (stp E .body σ) W0 g s E tv W L σ.N.length σ.C.length):=by
 obtain⟨R,hR⟩: ∃R:Rs PM,R=stp E .body σ:=⟨_,rfl⟩
 rw[<-hR]
 have HR:=zh hR
 have H0:=zh h
 have X0:=zh (MX.refl W0.heap.size W L σ.N.length σ.C.length)
 have HK:=zh hk
 clear h hR hk
 try unfold ptr
 go_enter Tryz.func44,Tryz.ntmps44
 have hb:=qa1 W (.cells #[ptr g] 60)
 have B_r:=zh (H0.out.boxT (W.heap.size) (by simp) (ptr g) 60)
 have H1:=zh (H0.out.below hb)
 have Y1:=zh (H0.out.mxb hb)
 have X1:=zh (X0.out.trans Y1.out)
 clear hb
 obtain⟨M2,hm,hx,ha,hl⟩:=H1.out.new0E 25 ⟨#[]⟩
 have An:=zh (show M2.A σ.N.length=W.heap.size+1 from ha.trans (by simp))
 have Nbn:=zh (show σ.N.length<_ from hl)
 have H2:=zh hm
 have Y2:=zh hx
 have X2:=zh (X1.out.trans Y2.out)
 have B_r_2:=zh (Y2.out.box B_r.out)
 have cr2:=B_r_2.out.cellv
 unfold ptr at cr2
 clear hm hx ha hl
 have hb:=qa1 ((W.alloc (.cells #[ptr g] 60)).alloc (.cells #[.int .i64 25,.string ⟨#[]⟩,.slice none 0 0,.bool false,.bool false,.slice none 0 0,.slice none 0 0] 29)) (.cells #[.pointer (some ⟨W.heap.size+1,0,none⟩)] 74)
 have B_n:=zh (H2.out.boxT (W.heap.size+1+1) (by simp) (.pointer (some ⟨W.heap.size+1,0,none⟩)) 74)
 have H3:=zh (H2.out.below hb)
 have Y3:=zh (H2.out.mxb hb)
 have X3:=zh (X2.out.trans Y3.out)
 have B_r_3:=zh (Y3.out.box B_r_2.out)
 have cr3:=B_r_3.out.cellv
 unfold ptr at cr3
 have An_3:=zh ((Y3.out.A _ Nbn.out).trans An.out)
 have Nbn_3:=zh (zE Nbn.out Y3.out.N)
 clear hb
 go_upto_region 2 with fail
 unfold ptr at*
 generalize hW1:(((W.alloc (.cells #[.pointer (some ⟨g,0,none⟩)] 60)).alloc (.cells #[.int .i64 25,.string ⟨#[]⟩,.slice none 0 0,.bool false,.bool false,.slice none 0 0,.slice none 0 0] 29)).alloc (.cells #[.pointer (some ⟨W.heap.size+1,0,none⟩)] 74))=W1 at*
 have HSP:Hid (∀w',Below W1.heap.size W1 w'->W1.heap.size<w'.heap.size->MM W0 g s E tv w' (M2.mine W1.heap.size) (σ.new (nkt 25 ⟨#[]⟩ []))):=zh (fun w' hb h2=>H3.out.spare hb (zC _) h2)
 have HBL:Hid (∀w',Below W1.heap.size W1 w'->MM W0 g s E tv w' M2 (σ.new (nkt 25 ⟨#[]⟩ []))):=zh (fun w' hb=>H3.out.below hb)
 have HBX:Hid (∀ {w':World},Below W1.heap.size W1 w'->w'.cell? ⟨W.heap.size,0,none⟩=some (.pointer (some ⟨g,0,none⟩))/\w'.cell? ⟨W.heap.size+1+1,0,none⟩=some (.pointer (some ⟨W.heap.size+1,0,none⟩))):=zh (fun hb=>⟨(H3.out.mxb hb).cell B_r_3.out,(H3.out.mxb hb).cell B_n.out⟩)
 have D0:=zh (zA (Below.refl W1.heap.size W1))
 go_cut [3]from 3 to 9 (fun v wx=> ∃q fK fF fC,v=.pointer (some ⟨q,0,none⟩)/\Hid (BoxC wx (M2.P W0.heap.size) (.pointer (some ⟨q,0,none⟩)) (.func (.func fK) fF fC))/\Hid (IsC wx (M2.P W0.heap.size) g M2.A M2.B ((σ.new (nkt 25 ⟨#[]⟩ []))).N.length ((σ.new (nkt 25 ⟨#[]⟩ []))).C.length (.func (.func fK) fF fC) (.item (.expr 0)))/\Hid (Below W1.heap.size W1 wx))
 case first=>
  go_region_held3 (fun w'=>w'.cell? ⟨W.heap.size,0,none⟩=some (.pointer (some ⟨g,0,none⟩))/\w'.cell? ⟨W.heap.size+1+1,0,none⟩=some (.pointer (some ⟨W.heap.size+1,0,none⟩))) (first | exact HBX.out D0.out | exact HBX.out (zA (qa1 _ _)) | exact HBX.out (D0.out.trans (qa1 _ _)) | exact HBX.out B9.out | exact HBX.out F9.out.2.2 | exact HBX.out B8.out | exact HBX.out (B8.out.trans ((qa1 w8 _).mono B8.out.size)) | exact HBX.out (B9.out.trans ((qa1 w9 _).mono B9.out.size))) (first | (go_at_call 37;refine(qds (HSP.out _ (by first | exact zA (qa1 _ _) | exact D0.out.trans (qa1 _ _)) (by simp)) 0).mono ?_;rintro e w8 ⟨v8,rfl,hv,hb⟩;obtain⟨fK8,fF8,fC8,rfl⟩:=hv.fn;have V8:=zh hv;have S8:=zh (zE (by simp) hb.size:W1.heap.size<w8.heap.size);have Q8:Hid (∃u T,w8.heap[W1.heap.size]?=some (.cells #[u] T (0,0))):=zh ⟨_,_,by first | exact(hb.block _ (by simp)).trans (qaa W1 _) | exact(hb.block _ (by simp)).trans (qaa W1.drew _)⟩;have B8:Hid (Below W1.heap.size W1 w8):=zh (by first | exact(zA (qa1 W1 _)).trans (hb.mono (by simp)) | exact(D0.out.trans (qa1 W1.drew _)).trans (hb.mono (by simp)));clear hv hb) | (go_at_call 37;refine(qds (HBL.out _ D0.out) 0).mono ?_;rintro e w8 ⟨v8,rfl,hv,hb⟩;obtain⟨fK8,fF8,fC8,rfl⟩:=hv.fn;have V8:=zh hv;have B8:=zh (D0.out.trans hb);have HS9:Hid (∀w',Below w8.heap.size w8 w'->w8.heap.size<w'.heap.size->MM W0 g s E tv w' (M2.mine w8.heap.size) (σ.new (nkt 25 ⟨#[]⟩ []))):=zh (fun w' hb h2=>(HBL.out _ B8.out).spare hb (zC _) h2);clear hv hb) | (go_at_call 73;refine(ql4 (HSP.out _ B8.out S8.out) (.expr 0) _ V8.out).mono ?_;rintro e w9 ⟨v9,rfl,hv,hb⟩;obtain⟨fK9,fF9,fC9,rfl⟩:=hv.fn;have V9:=zh hv;have B9:=zh (B8.out.trans (hb.mono B8.out.size));have Q9:Hid (∃u T,w9.heap[W1.heap.size]?=some (.cells #[u] T (0,0))):=zh (by obtain⟨u,T,hq⟩:=Q8.out;exact⟨u,T,(hb.block _ S8.out).trans hq⟩);have F9:Hid (BoxC _ _ _ _/\_):=zh (by obtain⟨u,T,hq⟩:=Q9.out;exact MM.laid H3.out B9.out (zC _) V9.out hq);obtain⟨u9,T9,hq9⟩:=Q9.out;have hc9:=(qaq hq9).1;have hf9:=(qaq hq9).2;clear hq9;clear hv hb) | (go_at_call 73;refine(ql4 (HS9.out _ (qa1 w8 _) (by simp)) (.expr 0) _ (V8.out.mineUp (qa1 w8 _) (zC _))).mono ?_;rintro e w9 ⟨v9,rfl,hv,hb⟩;obtain⟨fK9,fF9,fC9,rfl⟩:=hv.fn;have V9:=zh hv;have B9:=zh (B8.out.trans ((qa1 w8 _).trans (hb.mono (by simp)) |>.mono B8.out.size));have Q9:Hid (∃u T,w9.heap[w8.heap.size]?=some (.cells #[u] T (0,0))):=zh ⟨_,_,(hb.block _ (by simp)).trans (qaa w8 _)⟩;have F9:Hid (BoxC _ _ _ _/\_):=zh (by obtain⟨u,T,hq⟩:=Q9.out;exact MM.laid H3.out B9.out B8.out.size V9.out hq);obtain⟨u9,T9,hq9⟩:=Q9.out;have hc9:=(qaq hq9).1;have hf9:=(qaq hq9).2;clear hq9;clear hv hb) | (go_at_call 73;refine(ql4 (HBL.out _ B8.out) (.expr 0) _ V8.out).mono ?_;rintro e w9 ⟨v9,rfl,hv,hb⟩;obtain⟨fK9,fF9,fC9,rfl⟩:=hv.fn;have V9:=zh hv;have B9:=zh (B8.out.trans (hb.mono B8.out.size));have F9:=zh (MM.laidB H3.out B9.out 1 V9.out);clear hv hb))
  all_goals go_wp2_with fail
  all_goals go_meet
  all_goals exact⟨_,_,_,_,rfl,zh F9.out.1,zh F9.out.2.1,zh F9.out.2.2⟩
 case rest=>
  obtain⟨kq,fKq,fFq,fCq,rfl,BQ,VQ,BB⟩:=hcut
  have H4:=zh (H3.out.below BB.out)
  have Y4:=zh (H3.out.mxb BB.out)
  have X4:=zh (X3.out.trans Y4.out)
  have B_r_4:=zh (Y4.out.box B_r_3.out)
  have cr4:=B_r_4.out.cellv
  unfold ptr at cr4
  have B_n_4:=zh (Y4.out.box B_n.out)
  have cn4:=B_n_4.out.cellv
  have An_4:=zh ((Y4.out.A _ Nbn_3.out).trans An_3.out)
  have Nbn_4:=zh (zE Nbn_3.out Y4.out.N)
  have cq:=BQ.out.cellv
  have V5:=zh (IsC.bodyO (W:=wc) (P:=M2.P W0.heap.size) (g:=g) (A:=M2.A) (B:=M2.B) (nN:=((σ.new (nkt 25 ⟨#[]⟩ []))).N.length) (nC:=σ.C.length) σ.N.length _ _ _ _ (by have h9:=B_n_4.out;rw[show ptr (M2.A σ.N.length)=_ from congrArg ptr An_4.out];exact h9) B_r_4.out BQ.out VQ.out Nbn_4.out)
  go_wp2_with fail
  have Z0:=zh (MX.refl W0.heap.size wc M2 ((σ.new (nkt 25 ⟨#[]⟩ []))).N.length ((σ.new (nkt 25 ⟨#[]⟩ []))).C.length)
  have HCrn:Hid (∀ {w':World} {L':PLay} {nN nC:Nat},MX W0.heap.size wc M2 ((σ.new (nkt 25 ⟨#[]⟩ []))).N.length ((σ.new (nkt 25 ⟨#[]⟩ []))).C.length w' L' nN nC->w'.cell? ⟨W.heap.size,0,none⟩=some (.pointer (some ⟨g,0,none⟩))/\w'.cell? ⟨W.heap.size+1+1,0,none⟩=some (.pointer (some ⟨W.heap.size+1,0,none⟩))):=zh (fun hx=>⟨hx.cell B_r_4.out,hx.cell B_n_4.out⟩)
  have hb:=zA (Below.refl wc.heap.size wc)
  have H6:=zh (H4.out.below hb)
  have Y6:=zh (H4.out.mxb hb)
  have X6:=zh (X4.out.trans Y6.out)
  have Z6:=zh (Z0.out.trans Y6.out)
  have B_r_6:=zh (Y6.out.box B_r_4.out)
  have cr6:=B_r_6.out.cellv
  unfold ptr at cr6
  have B_n_6:=zh (Y6.out.box B_n_4.out)
  have cn6:=B_n_6.out.cellv
  have B_q_6:=zh (Y6.out.box BQ.out)
  have cq6:=B_q_6.out.cellv
  have vq_6:=zh (Y6.out.isc VQ.out)
  have vb_6:=zh (Y6.out.isc V5.out)
  have An_6:=zh ((Y6.out.A _ Nbn_4.out).trans An_4.out)
  have Nbn_6:=zh (zE Nbn_4.out Y6.out.N)
  clear hb
  go_region_held3 (fun w'=>w'.cell? ⟨W.heap.size,0,none⟩=some (.pointer (some ⟨g,0,none⟩))/\w'.cell? ⟨W.heap.size+1+1,0,none⟩=some (.pointer (some ⟨W.heap.size+1,0,none⟩))) (first | exact HCrn.out Z8.out | exact HCrn.out Z7.out | exact HCrn.out Z6.out | exact HCrn.out (Z7.out.trans (H7.out.mxb (qa1 _ _))) | exact HCrn.out (Z8.out.trans (H8.out.mxb (qa1 _ _)))) (first | (go_at_call 74;have q7:=qzx H6.out σ.N.length [44] (.bodyO σ.N.length) _ vb_6.out Nbn_6.out;rw[An_6.out]at q7;try unfold ptr at q7;refine q7.mono ?_;clear q7;rintro e w7 ⟨v6,rfl,hv,hb⟩;obtain⟨fK7,fF7,fC7,rfl⟩:=hv.fn;have V7:=zh hv;have H7:=zh (H6.out.below hb);have Y7:=zh (H6.out.mxb hb);have X7:=zh (X6.out.trans Y7.out);have Z7:=zh (Z6.out.trans Y7.out);have B_r_7:=zh (Y7.out.box B_r_6.out);have cr7:=B_r_7.out.cellv;unfold ptr at cr7;have B_n_7:=zh (Y7.out.box B_n_6.out);have cn7:=B_n_7.out.cellv;have B_q_7:=zh (Y7.out.box B_q_6.out);have cq7:=B_q_7.out.cellv;have vq_7:=zh (Y7.out.isc vq_6.out);have vb_7:=zh (Y7.out.isc vb_6.out);have An_7:=zh ((Y7.out.A _ Nbn_6.out).trans An_6.out);have Nbn_7:=zh (zE Nbn_6.out Y7.out.N);clear hv hb) | (go_at_call 36;refine(qbh H7.out _ (by simp) [_] [.row σ.N.length [44] (.bodyO σ.N.length)] 1 rfl (zD HK.out (by decide)) (by decide) _ ⟨V7.out,trivial⟩).mono ?_;rintro e w8 ⟨rfl,M8,hm,hx⟩;have H8:=zh hm;have Y8:=zh hx;have X8:=zh (X7.out.trans Y8.out);have Z8:=zh (Z7.out.trans Y8.out);have B_r_8:=zh (Y8.out.box B_r_7.out);have cr8:=B_r_8.out.cellv;unfold ptr at cr8;have B_n_8:=zh (Y8.out.box B_n_7.out);have cn8:=B_n_8.out.cellv;have B_q_8:=zh (Y8.out.box B_q_7.out);have cq8:=B_q_8.out.cellv;have vq_8:=zh (Y8.out.isc vq_7.out);have vb_8:=zh (Y8.out.isc vb_7.out);have v6_8:=zh (Y8.out.isc V7.out);have An_8:=zh ((Y8.out.A _ Nbn_7.out).trans An_7.out);have Nbn_8:=zh (zE Nbn_7.out Y8.out.N);clear hm hx))
  have e9:R=.ok ((σ.new (nk 25 [])).plan [.row σ.N.length [44] (.bodyO σ.N.length)]):=by
   rw[HR.out];try simp[stp,bind,Except.bind,pure,Except.pure,Except.map]
  subst e9
  go_wp2_with fail
  go_end0
  exact⟨rfl,M8,H8.out,X8.out⟩
end
section
variable{W0 W:World}{g:Nat}{s:ByteArray}{E:Env}{tv:Value}{L:PLay}{σ:PM}
theorem MM.lsv(h:MM W0 g s E tv W L σ){n:Nat}{x:Nd}(hx:σ.N[n]?=some (some x)): ∃a c,W.cell? ⟨L.A n,2,none⟩=some (.slice a x.ls.length c):=by
 cases x with
 | mk k t l br bl no ta=>
  obtain⟨-,lv,nv,tv',a2,a3,-,a5,a6⟩:=h.node hx
  obtain⟨a,c,rfl⟩:=a3.slice
  exact⟨a,c,a2.cells.2.2.1⟩
theorem qo8(h:MM W0 g s E tv W L σ)(hk:σ.k.length<=274877906944)(n:Nat)(v1:Value)(hv1:IsC W (L.P W0.heap.size) g L.A L.B σ.N.length σ.C.length v1 (.item (.expr 0)))(k1:Nat)(b1:BoxC W (L.P W0.heap.size) (.pointer (some ⟨k1,0,none⟩)) (ptr (L.A n)))(k2:Nat)(b2:BoxC W (L.P W0.heap.size) (.pointer (some ⟨k2,0,none⟩)) (ptr g))(k3:Nat)(b3:BoxC W (L.P W0.heap.size) (.pointer (some ⟨k3,0,none⟩)) v1)(hns:stp E (.bodyO n) σ≠ .error .stuck):
 Calls Tryz.prog 75 #[.pointer (some ⟨k1,0,none⟩),.pointer (some ⟨k2,0,none⟩),.pointer (some ⟨k3,0,none⟩)] W (SO (stp E (.bodyO n) σ) W0 g s E tv W L σ.N.length σ.C.length):=by
 obtain⟨R,hR⟩: ∃R:Rs PM,R=stp E (.bodyO n) σ:=⟨_,rfl⟩
 rw[<-hR]at hns⊢
 have HNS:=zh hns
 have HR:=zh hR
 have H0:=zh h
 have X0:=zh (MX.refl W0.heap.size W L σ.N.length σ.C.length)
 have HK:=zh hk
 have B_n:=zh b1
 have cn0:=b1.cellv
 unfold ptr at cn0
 have B_r:=zh b2
 have cr0:=b2.cellv
 unfold ptr at cr0
 have B_rd:=zh b3
 have crd0:=b3.cellv
 obtain⟨fKv1,fFv1,fCv1,rfl⟩:=hv1.fn
 have Vv1:=zh hv1
 clear hv1
 clear h hR hk b1 b2 b3 hns
 try unfold ptr
 go_enter Tryz.func75,Tryz.ntmps75
 rcases hnd_n:σ.nd n with b9 | y
 ·obtain rfl:=qe8 hnd_n
  exact absurd (by rw[HR.out];simp[stp,hnd_n,bind,Except.bind]) HNS.out
 have HND_N:=zh hnd_n
 have HX_n:=zh (qgq hnd_n)
 clear hnd_n
 obtain⟨la,lc,m2_0⟩:=H0.out.lsv HX_n.out
 cases hl:y.ls with
 | nil=>
  have HL:=zh hl
  rw[hl]at m2_0
  simp only[List.length_nil]at m2_0
  clear hl
  have hb:=qa1 W (.cells #[.bool false] 4)
  have B_bk:=zh (H0.out.boxT (W.heap.size) (by simp) (.bool false) 4)
  have H1:=zh (H0.out.below hb)
  have Y1:=zh (H0.out.mxb hb)
  have X1:=zh (X0.out.trans Y1.out)
  have B_n_1:=zh (Y1.out.box B_n.out)
  have cn1:=B_n_1.out.cellv
  unfold ptr at cn1
  have B_r_1:=zh (Y1.out.box B_r.out)
  have cr1:=B_r_1.out.cellv
  unfold ptr at cr1
  have B_rd_1:=zh (Y1.out.box B_rd.out)
  have crd1:=B_rd_1.out.cellv
  have v1_1:=zh (Y1.out.isc Vv1.out)
  clear hb
  have V2:=zh ((IsC.blnk false _ _ B_bk.out B_r_1.out:IsC (W.alloc (.cells #[.bool false] 4)) (L.P W0.heap.size) g L.A L.B σ.N.length σ.C.length _ (.blnk false)))
  go_wp2_with fail
  refine(qbh H1.out _ (by simp) [_,_] [.item (.expr 0),.blnk false] 2 rfl (zD HK.out (by decide)) (by decide) _ ⟨v1_1.out,⟨V2.out,trivial⟩⟩).mono ?_
  rintro e w3 ⟨rfl,M3,hm,hx⟩
  have H3:=zh hm
  have Y3:=zh hx
  have X3:=zh (X1.out.trans Y3.out)
  have B_n_3:=zh (Y3.out.box B_n_1.out)
  have cn3:=B_n_3.out.cellv
  unfold ptr at cn3
  have B_r_3:=zh (Y3.out.box B_r_1.out)
  have cr3:=B_r_3.out.cellv
  unfold ptr at cr3
  have B_rd_3:=zh (Y3.out.box B_rd_1.out)
  have crd3:=B_rd_3.out.cellv
  have B_bk_3:=zh (Y3.out.box B_bk.out)
  have cbk3:=B_bk_3.out.cellv
  have v1_3:=zh (Y3.out.isc v1_1.out)
  have v2_3:=zh (Y3.out.isc V2.out)
  clear hm hx
  have e9:R=.ok (σ.plan [.item (.expr 0),.blnk false]):=by
   have hnd_n:=HND_N.out;have hl:=HL.out;rw[HR.out];try simp[stp,hnd_n,hl,bind,Except.bind,pure,Except.pure,Except.map]
  subst e9
  go_wp2_with fail
  go_end0
  exact⟨rfl,M3,H3.out,X3.out⟩
 | cons z l=>
  have HL:=zh hl
  rw[hl]at m2_0
  simp only[List.length_cons]at m2_0
  have hgt:decide ((0:Int)< ((l.length+1:Nat):Int))=true:=by simp
  have hgt2:decide ((0:Int)< (l.length:Int)+1)=true:=by simp
  clear hl
  go_wp2_with fail
  have q4:=blankM H0.out
  try unfold ptr at q4
  refine q4.mono ?_
  clear q4
  rintro e w4 ⟨rfl,hm,hx⟩
  have H4:=zh hm
  have Y4:=zh hx
  have X4:=zh (X0.out.trans Y4.out)
  have B_n_4:=zh (Y4.out.box B_n.out)
  have cn4:=B_n_4.out.cellv
  unfold ptr at cn4
  have B_r_4:=zh (Y4.out.box B_r.out)
  have cr4:=B_r_4.out.cellv
  unfold ptr at cr4
  have B_rd_4:=zh (Y4.out.box B_rd.out)
  have crd4:=B_rd_4.out.cellv
  have v1_4:=zh (Y4.out.isc Vv1.out)
  clear hm hx
  have hb:=qa1 w4 (.cells #[.bool (blE E σ.i)] 4)
  have B_bk:=zh (H4.out.boxT (w4.heap.size) (by simp) (.bool (blE E σ.i)) 4)
  have H5:=zh (H4.out.below hb)
  have Y5:=zh (H4.out.mxb hb)
  have X5:=zh (X4.out.trans Y5.out)
  have B_n_5:=zh (Y5.out.box B_n_4.out)
  have cn5:=B_n_5.out.cellv
  unfold ptr at cn5
  have B_r_5:=zh (Y5.out.box B_r_4.out)
  have cr5:=B_r_5.out.cellv
  unfold ptr at cr5
  have B_rd_5:=zh (Y5.out.box B_rd_4.out)
  have crd5:=B_rd_5.out.cellv
  have v1_5:=zh (Y5.out.isc v1_4.out)
  clear hb
  have V6:=zh ((IsC.blnk (blE E σ.i) _ _ B_bk.out B_r_5.out:IsC (w4.alloc (.cells #[.bool (blE E σ.i)] 4)) (L.P W0.heap.size) g L.A L.B σ.N.length σ.C.length _ (.blnk (blE E σ.i))))
  go_wp2_with fail
  refine(qbh H5.out _ (by simp) [_,_] [.item (.expr 0),.blnk (blE E σ.i)] 2 rfl (zD HK.out (by decide)) (by decide) _ ⟨v1_5.out,⟨V6.out,trivial⟩⟩).mono ?_
  rintro e w7 ⟨rfl,M7,hm,hx⟩
  have H7:=zh hm
  have Y7:=zh hx
  have X7:=zh (X5.out.trans Y7.out)
  have B_n_7:=zh (Y7.out.box B_n_5.out)
  have cn7:=B_n_7.out.cellv
  unfold ptr at cn7
  have B_r_7:=zh (Y7.out.box B_r_5.out)
  have cr7:=B_r_7.out.cellv
  unfold ptr at cr7
  have B_rd_7:=zh (Y7.out.box B_rd_5.out)
  have crd7:=B_rd_7.out.cellv
  have B_bk_7:=zh (Y7.out.box B_bk.out)
  have cbk7:=B_bk_7.out.cellv
  have v1_7:=zh (Y7.out.isc v1_5.out)
  have v2_7:=zh (Y7.out.isc V6.out)
  clear hm hx
  have e9:R=.ok (σ.plan [.item (.expr 0),.blnk (blE E σ.i)]):=by
   have hnd_n:=HND_N.out;have hl:=HL.out;rw[HR.out];try simp[stp,hnd_n,hl,bind,Except.bind,pure,Except.pure,Except.map]
  subst e9
  go_wp2_with fail
  go_end0
  exact⟨rfl,M7,H7.out,X7.out⟩
end
section
variable{W0 W:World}{g:Nat}{s:ByteArray}{E:Env}{tv:Value}{L:PLay}{σ:PM}
def qow(n:Nat)(x:Nd)(σ:PM):Rs PM:=
 match x with
 | .mk _ t [y] br bl no ta=>match y with
  | .mk _ _ _ _ _ [] _=>.ok ((σ.set n (.mk 15 t [y] br bl no ta)).plan [.row n [44] (.perh 3 [[60,45],[60,61]]),.want 9 [93]])
  | _=>.error .die
 | _=>.error .die
theorem MM.lsv1(h:MM W0 g s E tv W L σ){n:Nat}{k:Int}{t:ByteArray}{k2:Int}{t2:ByteArray}{l2:List Nd}{b1 b2 br bl:Bool}{no2 ta2 no ta:List ByteArray}(hx:σ.N[n]?=some (some (.mk k t [.mk k2 t2 l2 b1 b2 no2 ta2] br bl no ta))):
 ∃q o c na nc,W.cell? ⟨L.A n,2,none⟩=some (.slice (some ⟨q,o,none⟩) 1 c)/\W.cell? ⟨q,o+5,none⟩=some (.slice na no2.length nc):=by
 obtain⟨-,lv,nv,tv',a2,a3,-,a5,a6⟩:=h.node hx
 obtain⟨cs,⟨a,cap,rfl,h1⟩,h2⟩:=a3.row
 obtain⟨q,o,rfl,-,-,h3⟩:=h1 (by simp)
 have h4:=h2 0 _ rfl
 generalize hc:cs 0=c0 at h4
 cases h4 with
 | mk _ _ _ _ _ _ _ lv' nv' tv'' cs' hn ht hl hc'=>
  obtain⟨na,nc,rfl,-⟩:=hn
  refine⟨q,o,cap,na,nc,a2.cells.2.2.1,?_⟩
  have:=h3 0 (by simp) 5 (.slice na no2.length nc) (by rw[hc];rfl)
  simpa using this
theorem compM(h:MM W0 g s E tv W L σ)(hk:σ.k.length<=274877906944){n:Nat}{x:Nd}(hx:σ.N[n]?=some (some x)):
 Calls Tryz.prog 191 #[.pointer (some ⟨g,0,none⟩),.pointer (some ⟨L.A n,0,none⟩)] W (SO (qow n x σ) W0 g s E tv W L σ.N.length σ.C.length):=by
 obtain⟨R,hR⟩: ∃R:Rs PM,R=qow n x σ:=⟨_,rfl⟩
 rw[<-hR]
 have HR:=zh hR
 have H0:=zh h
 have HK:=zh hk
 have HX:=zh hx
 have X0:=zh (MX.refl W0.heap.size W L σ.N.length σ.C.length)
 clear h hR hk hx
 cases x with
 | mk k t l br bl no ta=>
 have HNB:=zh (qqg HX.out)
 obtain⟨la,lc,m2⟩:=H0.out.lsv HX.out
 cases l with
 | nil=>
  change _=some (Value.slice la 0 lc)at m2
  go_enter Tryz.func191,Tryz.ntmps191
  have e9:R=.error .die:=by
   rw[HR.out];rfl
  subst e9
  go_wp2_with fail
  refine(qat _).mono ?_
  rintro e w9 ⟨⟨u,pv,rfl⟩,rfl⟩
  go_wp2_with fail
  exact⟨rfl,⟨_,_,rfl⟩,H0.out.bel⟩
 | cons z l=>
  cases l with
  | cons z2 l=>
   change _=some (Value.slice la (l.length+2) lc)at m2
   have hq:(((l.length:Int)+2)==1)=false:=beq_false_of_ne (by omega)
   have hq2:((((l.length+2:Nat):Int))==1)=false:=beq_false_of_ne (by omega)
   go_enter Tryz.func191,Tryz.ntmps191
   have e9:R=.error .die:=by
    rw[HR.out];rfl
   subst e9
   go_wp2_with fail
   refine(qat _).mono ?_
   rintro e w9 ⟨⟨u,pv,rfl⟩,rfl⟩
   go_wp2_with fail
   exact⟨rfl,⟨_,_,rfl⟩,H0.out.bel⟩
  | nil=>
   cases z with
   | mk k2 t2 l2 b1 b2 no2 ta2=>
   clear m2
   obtain⟨q9,o9,c9,na,nc,m2,m5⟩:=H0.out.lsv1 HX.out
   cases no2 with
   | cons a9 no2=>
    change _=some (Value.slice na (no2.length+1) nc)at m5
    have hq:(((no2.length:Int)+1)==0)=false:=beq_false_of_ne (by omega)
    have hq2:((((no2.length+1:Nat):Int))==0)=false:=beq_false_of_ne (by omega)
    go_enter Tryz.func191,Tryz.ntmps191
    have e9:R=.error .die:=by
     rw[HR.out];rfl
    subst e9
    go_wp2_with fail
    refine(qat _).mono ?_
    rintro e w9 ⟨⟨u,pv,rfl⟩,rfl⟩
    go_wp2_with fail
    exact⟨rfl,⟨_,_,rfl⟩,H0.out.bel⟩
   | nil=>
    change _=some (Value.slice na 0 nc)at m5
    go_enter Tryz.func191,Tryz.ntmps191
    go_wp2_with fail
    refine(qas _).mono ?_
    rintro e w9 ⟨rfl,rfl⟩
    obtain⟨ka,ta9,la9,ra,qa,na9,va,hNd⟩:=H0.out.ncells HX.out
    have mf0:=hNd.frz 0
    have m0:=hNd.cells.1
    clear hNd
    have hs9:=MM.setKd (k':=15) H0.out HX.out
    have HS9:=zh hs9
    clear hs9
    go_wp2_with fail
    have H1:=zh HS9.out.1
    have Y1:=zh HS9.out.2
    have X1:=zh (X0.out.trans Y1.out)
    have HNL:=zh (show n< (σ.set n (.mk 15 t [.mk k2 t2 l2 b1 b2 [] ta2] br bl no ta)).N.length from by show n< (σ.N.set n _).length;rw[zB];exact HNB.out)
    have hb:=qa1 (W.setCell ⟨L.A n,0,none⟩ (.int .i64 15)) (.cells #[.string ⟨#[60,45]⟩,.string ⟨#[60,61]⟩] 9)
    have Us:=zh (H1.out.strsN [⟨#[60,45]⟩,⟨#[60,61]⟩])
    have H2:=zh (H1.out.below hb)
    have Y2:=zh (H1.out.mxb hb)
    have X2:=zh (X1.out.trans Y2.out)
    clear hb
    have q3:=qmv H2.out 3 [[60,45],[60,61]] (some ⟨W.heap.size,0,none⟩) 2 2 (by have h9:=Us.out;rw[show(W.setCell ⟨L.A n,0,none⟩ (.int .i64 15)).heap.size=W.heap.size by simp]at h9;exact h9) (by decide)
    try unfold ptr at q3
    refine q3.mono ?_
    clear q3
    rintro e w3 ⟨v1,rfl,hv,hb⟩
    obtain⟨fK3,fF3,fC3,rfl⟩:=hv.fn
    have V3:=zh hv
    have H3:=zh (H2.out.below hb)
    have Y3:=zh (H2.out.mxb hb)
    have X3:=zh (X2.out.trans Y3.out)
    clear hv hb
    go_wp2_with fail
    have q4:=qzx H3.out n [44] (.perh 3 [[60,45],[60,61]]) _ V3.out HNL.out
    try unfold ptr at q4
    refine q4.mono ?_
    clear q4
    rintro e w4 ⟨v2,rfl,hv,hb⟩
    obtain⟨fK4,fF4,fC4,rfl⟩:=hv.fn
    have V4:=zh hv
    have H4:=zh (H3.out.below hb)
    have Y4:=zh (H3.out.mxb hb)
    have X4:=zh (X3.out.trans Y4.out)
    have v1_4:=zh (Y4.out.isc V3.out)
    clear hv hb
    go_wp2_with fail
    have q5:=qkm H4.out [93]
    try unfold ptr at q5
    refine q5.mono ?_
    clear q5
    rintro e w5 ⟨v3,rfl,hv,hb⟩
    obtain⟨fK5,fF5,fC5,rfl⟩:=hv.fn
    have V5:=zh hv
    have H5:=zh (H4.out.below hb)
    have Y5:=zh (H4.out.mxb hb)
    have X5:=zh (X4.out.trans Y5.out)
    have v1_5:=zh (Y5.out.isc v1_4.out)
    have v2_5:=zh (Y5.out.isc V4.out)
    clear hv hb
    go_wp2_with fail
    refine(qbh H5.out _ (by simp) [_,_] [.row n [44] (.perh 3 [[60,45],[60,61]]),.want 9 [93]] 2 rfl (zD HK.out (by decide)) (by decide) _ ⟨v2_5.out,⟨V5.out,trivial⟩⟩).mono ?_
    rintro e w6 ⟨rfl,M6,hm,hx⟩
    have H6:=zh hm
    have Y6:=zh hx
    have X6:=zh (X5.out.trans Y6.out)
    have v1_6:=zh (Y6.out.isc v1_5.out)
    have v2_6:=zh (Y6.out.isc v2_5.out)
    have v3_6:=zh (Y6.out.isc V5.out)
    clear hm hx
    have e9:R=.ok ((σ.set n (.mk 15 t [.mk k2 t2 l2 b1 b2 [] ta2] br bl no ta)).plan [.row n [44] (.perh 3 [[60,45],[60,61]]),.want 9 [93]]):=by
     rw[HR.out];try simp[qow,bind,Except.bind,pure,Except.pure,Except.map]
    subst e9
    go_wp2_with fail
    go_end0
    exact⟨rfl,M6,H6.out,X6.out⟩
end
section
variable{W0 W:World}{g:Nat}{s:ByteArray}{E:Env}{tv:Value}{L:PLay}{σ:PM}
theorem qmc(h:MM W0 g s E tv W L σ)(hk:σ.k.length<=274877906944){n:Nat}{k:Int}{t:Bs}{K:FuncId}{fF fC:Array Value}(hv:IsC W (L.P W0.heap.size) g L.A L.B σ.N.length σ.C.length (.func (.func K) fF fC) (.tail n k t))(hns:qcw E n k t σ≠ .error .stuck):
 Calls Tryz.prog K (fF++fC) W (SO (qcw E n k t σ) W0 g s E tv W L σ.N.length σ.C.length):=by
 cases hv with
 | tail _ _ _ p q r v h1 h2 h3 h4 hn=>
  obtain⟨b1,rfl,r1⟩:=id h1
  obtain⟨b2,rfl,r2⟩:=id h2
  obtain⟨b3,rfl,r3⟩:=id h3
  exact qkk h hk n k t v h4 b1 h1 b2 h2 b3 h3 hns
theorem qo9(h:MM W0 g s E tv W L σ)(hk:σ.k.length<=274877906944)(n:Nat)(v1:Value)(hv1:IsC W (L.P W0.heap.size) g L.A L.B σ.N.length σ.C.length v1 (.tail n 9 [93]))(k1:Nat)(b1:BoxC W (L.P W0.heap.size) (.pointer (some ⟨k1,0,none⟩)) (ptr g))(k2:Nat)(b2:BoxC W (L.P W0.heap.size) (.pointer (some ⟨k2,0,none⟩)) (ptr (L.A n)))(k3:Nat)(b3:BoxC W (L.P W0.heap.size) (.pointer (some ⟨k3,0,none⟩)) v1)(hns:stp E (.listK n) σ≠ .error .stuck):
 Calls Tryz.prog 190 #[.pointer (some ⟨k1,0,none⟩),.pointer (some ⟨k2,0,none⟩),.pointer (some ⟨k3,0,none⟩)] W (SO (stp E (.listK n) σ) W0 g s E tv W L σ.N.length σ.C.length):=by
 obtain⟨R,hR⟩: ∃R:Rs PM,R=stp E (.listK n) σ:=⟨_,rfl⟩
 rw[<-hR]at hns⊢
 have HNS:=zh hns
 have HR:=zh hR
 have H0:=zh h
 have X0:=zh (MX.refl W0.heap.size W L σ.N.length σ.C.length)
 have HK:=zh hk
 have B_r:=zh b1
 have cr0:=b1.cellv
 unfold ptr at cr0
 have B_n:=zh b2
 have cn0:=b2.cellv
 unfold ptr at cn0
 have B_e:=zh b3
 have ce0:=b3.cellv
 obtain⟨fKv1,fFv1,fCv1,rfl⟩:=hv1.fn
 have Vv1:=zh hv1
 clear hv1
 clear h hR hk b1 b2 b3 hns
 try unfold ptr
 go_enter Tryz.func190,Tryz.ntmps190
 rcases hnd_n:σ.nd n with b9 | y
 ·obtain rfl:=qe8 hnd_n
  exact absurd (by rw[HR.out];simp[stp,hnd_n,bind,Except.bind]) HNS.out
 have HND_N:=zh hnd_n
 have HX_n:=zh (qgq hnd_n)
 clear hnd_n
 have HCrne:Hid (∀ {w':World} {L':PLay} {nN nC:Nat},MX W0.heap.size W L σ.N.length σ.C.length w' L' nN nC->w'.cell? ⟨k1,0,none⟩=some (.pointer (some ⟨g,0,none⟩))/\w'.cell? ⟨k2,0,none⟩=some (.pointer (some ⟨L.A n,0,none⟩))/\w'.cell? ⟨k3,0,none⟩=some (.func (.func fKv1) fFv1 fCv1)):=zh (fun hx=>⟨hx.cell B_r.out,hx.cell B_n.out,hx.cell B_e.out⟩)
 go_wp2_with fail
 have q1:=qdd H0.out [124,124]
 try unfold ptr at q1
 refine q1.mono ?_
 clear q1
 intro e w1 h1
 rcases hr1:sgE E 9 [124,124] σ.i with x9 | ⟨b,j⟩
 ·obtain rfl:=qax (by first | exact qae hr1 | exact qag hr1 | exact qaf hr1)
  rw[hr1]at h1
  obtain⟨⟨u,pv,rfl⟩,hb⟩:=h1
  have HB9:=zh hb
  have HR1:=zh hr1
  have e9:R=.error .die:=by
   have hnd_n:=HND_N.out;have hr1:=HR1.out;rw[HR.out];try simp[stp,hnd_n,hr1,bind,Except.bind,pure,Except.pure,Except.map]
  subst e9
  clear hb hr1
  go_wp2_with fail
  exact⟨rfl,⟨_,_,rfl⟩,HB9.out⟩
 ·rw[hr1]at h1
  have HR1:=zh hr1
  obtain⟨rfl,hm,hx⟩:=h1
  have H1:=zh hm
  have Y1:=zh hx
  have X1:=zh (X0.out.trans Y1.out)
  have B_r_1:=zh (Y1.out.box B_r.out)
  have cr1:=B_r_1.out.cellv
  unfold ptr at cr1
  have B_n_1:=zh (Y1.out.box B_n.out)
  have cn1:=B_n_1.out.cellv
  unfold ptr at cn1
  have B_e_1:=zh (Y1.out.box B_e.out)
  have ce1:=B_e_1.out.cellv
  have v1_1:=zh (Y1.out.isc Vv1.out)
  clear hm hx hr1
  cases b
  ·obtain rfl:=qdu HR1.out
   go_wp2_with fail
   have q2:=qdd (σ:=σ.at_ σ.i) H1.out [124]
   try unfold ptr at q2
   refine q2.mono ?_
   clear q2
   intro e w2 h2
   rcases hr2:sgE E 9 [124] (σ.at_ σ.i).i with x9 | ⟨b,j⟩
   ·obtain rfl:=qax (by first | exact qae hr2 | exact qag hr2 | exact qaf hr2)
    rw[hr2]at h2
    replace hr2:sgE E 9 [124] σ.i=_:=hr2
    obtain⟨⟨u,pv,rfl⟩,hb⟩:=h2
    have HB9:=zh hb
    have HR2:=zh hr2
    have e9:R=.error .die:=by
     have hnd_n:=HND_N.out;have hr1:=HR1.out;have hr2:=HR2.out;rw[HR.out];try simp[stp,hnd_n,hr1,hr2,bind,Except.bind,pure,Except.pure,Except.map]
    subst e9
    clear hb hr2
    go_wp2_with fail
    exact⟨rfl,⟨_,_,rfl⟩,HB9.out⟩
   ·rw[hr2]at h2
    replace hr2:sgE E 9 [124] σ.i=_:=hr2
    have HR2:=zh hr2
    obtain⟨rfl,hm,hx⟩:=h2
    have H2:=zh hm
    have Y2:=zh hx
    have X2:=zh (X1.out.trans Y2.out)
    have B_r_2:=zh (Y2.out.box B_r_1.out)
    have cr2:=B_r_2.out.cellv
    unfold ptr at cr2
    have B_n_2:=zh (Y2.out.box B_n_1.out)
    have cn2:=B_n_2.out.cellv
    unfold ptr at cn2
    have B_e_2:=zh (Y2.out.box B_e_1.out)
    have ce2:=B_e_2.out.cellv
    have v1_2:=zh (Y2.out.isc v1_1.out)
    clear hm hx hr2
    cases b
    ·obtain rfl:=qdu HR2.out
     have hen:=v1_2.out.enter
     go_wp2_with fail
     have hns9:qcw E n 9 [93] σ≠ .error .stuck:=by
      have e9:R=qcw E n 9 [93] σ:=by
       have hnd:=HND_N.out;have hr1:=HR1.out;rw[HR.out];show(σ.nd n >>= fun x=>_)=_;rw[hnd];show(sgE E 9 [124,124] σ.i >>= fun q=>_)=_;rw[hr1];show(sgE E 9 [124] σ.i >>= fun q=>_)=_;rw[HR2.out];rfl
      rw[<-e9];exact HNS.out
     have q3:=qmc (σ:=σ) H2.out HK.out v1_2.out hns9
     try unfold ptr at q3
     refine q3.mono ?_
     clear q3
     intro e w9 h9
     have e9:R=qcw E n 9 [93] σ:=by
      have hnd:=HND_N.out;have hr1:=HR1.out;rw[HR.out];show(σ.nd n >>= fun x=>_)=_;rw[hnd];show(sgE E 9 [124,124] σ.i >>= fun q=>_)=_;rw[hr1];show(sgE E 9 [124] σ.i >>= fun q=>_)=_;rw[HR2.out];rfl
     subst e9
     cases hres:(qcw E n 9 [93] σ)with
     | error b=>
      cases b with
      | die=>
       rw[hres]at h9
       obtain⟨⟨u,pv,rfl⟩,hb⟩:=h9
       have HB9:=zh hb
       have HRES:=zh hres
       clear hb hres
       go_wp2_with fail
       exact⟨rfl,⟨_,_,rfl⟩,HB9.out⟩
      | stuck=>exact absurd hres HNS.out
     | ok τ=>
      rw[hres]at h9
      obtain⟨rfl,M9,hm,hx⟩:=h9
      have H9:=zh hm
      have X9:=zh (X2.out.trans hx)
      have HRES:=zh hres
      clear hm hx hres
      go_wp2_with fail
      go_end0
      first
       | exact⟨rfl,M9,H9.out,X9.out⟩
       | (rw[HRES.out];exact⟨rfl,M9,H9.out,X9.out⟩)
    ·skip
     obtain⟨ka3,ta3,la3,ra3,qa3,na3,va3,hNd3⟩:=H2.out.ncells HX_n.out
     obtain⟨m0_3,m1_3,m2_3,m3_3,m4_3,m5_3,m6_3⟩:=hNd3.cells
     have mf1_3:=hNd3.frz 1
     clear hNd3
     have HS9:=zh (MM.setTxt (σ:=σ.at_ j) H2.out HX_n.out ⟨#[124]⟩)
     clear m0_3 m2_3 m3_3 m4_3 m5_3 m6_3
     go_wp2_with fail
     have H4:=zh HS9.out.1
     have Y4:=zh HS9.out.2
     have X4:=zh (X2.out.trans Y4.out)
     have B_r_4:=zh (Y4.out.box B_r_2.out)
     have cr4:=B_r_4.out.cellv
     unfold ptr at cr4
     have B_n_4:=zh (Y4.out.box B_n_2.out)
     have cn4:=B_n_4.out.cellv
     unfold ptr at cn4
     have B_e_4:=zh (Y4.out.box B_e_2.out)
     have ce4:=B_e_4.out.cellv
     have v1_4:=zh (Y4.out.isc v1_2.out)
     have HNL:=zh (show n< ((σ.at_ j).set n (y.txt' ⟨#[124]⟩)).N.length from by show n< (σ.N.set n _).length;rw[zB];exact qqg HX_n.out)
     have hb:=zA (Below.refl (w2.setCell ⟨L.A n,1,none⟩ (.string ⟨#[124]⟩)).heap.size (w2.setCell ⟨L.A n,1,none⟩ (.string ⟨#[124]⟩)))
     have H5:=zh (H4.out.below hb)
     have Y5:=zh (H4.out.mxb hb)
     have X5:=zh (X4.out.trans Y5.out)
     have B_r_5:=zh (Y5.out.box B_r_4.out)
     have cr5:=B_r_5.out.cellv
     unfold ptr at cr5
     have B_n_5:=zh (Y5.out.box B_n_4.out)
     have cn5:=B_n_5.out.cellv
     unfold ptr at cn5
     have B_e_5:=zh (Y5.out.box B_e_4.out)
     have ce5:=B_e_5.out.cellv
     have v1_5:=zh (Y5.out.isc v1_4.out)
     clear hb
     go_region_held3 (fun w'=>w'.cell? ⟨k1,0,none⟩=some (.pointer (some ⟨g,0,none⟩))/\w'.cell? ⟨k2,0,none⟩=some (.pointer (some ⟨L.A n,0,none⟩))/\w'.cell? ⟨k3,0,none⟩=some (.func (.func fKv1) fFv1 fCv1)) (first | exact HCrne.out X8.out | exact HCrne.out X7.out | exact HCrne.out X6.out | exact HCrne.out X5.out | exact HCrne.out (X6.out.trans (H6.out.mxb (qa1 _ _))) | exact HCrne.out (X7.out.trans (H7.out.mxb (qa1 _ _))) | exact HCrne.out (X8.out.trans (H8.out.mxb (qa1 _ _)))) (first | (go_at_call 37;have q6:=qds H5.out 3;try unfold ptr at q6;refine q6.mono ?_;clear q6;rintro e w6 ⟨ve,rfl,hv,hb⟩;obtain⟨fK6,fF6,fC6,rfl⟩:=hv.fn;have V6:=zh hv;have H6:=zh (H5.out.below hb);have Y6:=zh (H5.out.mxb hb);have X6:=zh (X5.out.trans Y6.out);have B_r_6:=zh (Y6.out.box B_r_5.out);have cr6:=B_r_6.out.cellv;unfold ptr at cr6;have B_n_6:=zh (Y6.out.box B_n_5.out);have cn6:=B_n_6.out.cellv;unfold ptr at cn6;have B_e_6:=zh (Y6.out.box B_e_5.out);have ce6:=B_e_6.out.cellv;have v1_6:=zh (Y6.out.isc v1_5.out);clear hv hb) | (go_at_call 106;have q7:=qjs H6.out n HNL.out;try unfold ptr at q7;refine q7.mono ?_;clear q7;rintro e w7 ⟨vi,rfl,hv,hb⟩;obtain⟨fK7,fF7,fC7,rfl⟩:=hv.fn;have V7:=zh hv;have H7:=zh (H6.out.below hb);have Y7:=zh (H6.out.mxb hb);have X7:=zh (X6.out.trans Y7.out);have B_r_7:=zh (Y7.out.box B_r_6.out);have cr7:=B_r_7.out.cellv;unfold ptr at cr7;have B_n_7:=zh (Y7.out.box B_n_6.out);have cn7:=B_n_7.out.cellv;unfold ptr at cn7;have B_e_7:=zh (Y7.out.box B_e_6.out);have ce7:=B_e_7.out.cellv;have v1_7:=zh (Y7.out.isc v1_6.out);have ve_7:=zh (Y7.out.isc V6.out);clear hv hb) | (go_at_call 36;refine(qbh H7.out _ (by simp) [_,_,_] [.expr 3,.into n,.tail n 9 [93]] 3 rfl (zD HK.out (by decide)) (by decide) _ ⟨ve_7.out,⟨V7.out,⟨v1_7.out,trivial⟩⟩⟩).mono ?_;rintro e w8 ⟨rfl,M8,hm,hx⟩;have H8:=zh hm;have Y8:=zh hx;have X8:=zh (X7.out.trans Y8.out);have B_r_8:=zh (Y8.out.box B_r_7.out);have cr8:=B_r_8.out.cellv;unfold ptr at cr8;have B_n_8:=zh (Y8.out.box B_n_7.out);have cn8:=B_n_8.out.cellv;unfold ptr at cn8;have B_e_8:=zh (Y8.out.box B_e_7.out);have ce8:=B_e_8.out.cellv;have v1_8:=zh (Y8.out.isc v1_7.out);have ve_8:=zh (Y8.out.isc ve_7.out);have vi_8:=zh (Y8.out.isc V7.out);clear hm hx))
     have e9:R=.ok (((σ.at_ j).set n (y.txt' ⟨#[124]⟩)).plan [.expr 3,.into n,.tail n 9 [93]]):=by
      have hnd:=HND_N.out;have hr1:=HR1.out;rw[HR.out];show(σ.nd n >>= fun x=>_)=_;rw[hnd];show(sgE E 9 [124,124] σ.i >>= fun q=>_)=_;rw[hr1];show(sgE E 9 [124] σ.i >>= fun q=>_)=_;rw[HR2.out];rfl
     subst e9
     go_wp2_with fail
     go_end0
     exact⟨rfl,M8,H8.out,X8.out⟩
  ·skip
   go_wp2_with fail
   have q9:=compM (σ:=σ.at_ j) H1.out HK.out HX_n.out
   try unfold ptr at q9
   refine q9.mono ?_
   clear q9
   intro e w9 h9
   have e9:R=qow n y (σ.at_ j):=by
    have hnd:=HND_N.out;have hr1:=HR1.out;rw[HR.out];show(σ.nd n >>= fun x=>_)=_;rw[hnd];show(sgE E 9 [124,124] σ.i >>= fun q=>_)=_;rw[hr1];rfl
   subst e9
   cases hres:(qow n y (σ.at_ j))with
   | error b=>
    cases b with
    | die=>
     rw[hres]at h9
     obtain⟨⟨u,pv,rfl⟩,hb⟩:=h9
     have HB9:=zh hb
     have HRES:=zh hres
     clear hb hres
     go_wp2_with fail
     exact⟨rfl,⟨_,_,rfl⟩,HB9.out⟩
    | stuck=>exact absurd hres HNS.out
   | ok τ=>
    rw[hres]at h9
    obtain⟨rfl,M9,hm,hx⟩:=h9
    have H9:=zh hm
    have X9:=zh (X1.out.trans hx)
    have HRES:=zh hres
    clear hm hx hres
    go_wp2_with fail
    go_end0
    first
     | exact⟨rfl,M9,H9.out,X9.out⟩
     | (rw[HRES.out];exact⟨rfl,M9,H9.out,X9.out⟩)
end
end Go.Proofs.YtdhadeeajgoedaaGreat
