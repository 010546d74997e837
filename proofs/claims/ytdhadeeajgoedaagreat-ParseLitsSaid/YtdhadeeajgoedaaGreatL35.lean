import Derived.Test.YtdhadeeajgoedaaGreatL34
set_option maxRecDepth 100000
set_option maxHeartbeats 4000000
set_option linter.all false
open Go.RowKit.Below renaming drew→zA
open Nat renaming le_trans→zB,lt_of_lt_of_le→zC
namespace Go.Proofs.YtdhadeeajgoedaaGreat
open Go.RowKit Go.PlainAid
section
variable{W0 W:World}{g:Nat}{s:ByteArray}{E:Env}{tv:Value}{L:PLay}{σ:PM}
theorem qsl(h:MM W0 g s E tv W L σ)(hk:σ.k.length<=274877906944):
 Calls Tryz.prog 178 #[.pointer (some ⟨g,0,none⟩)] W (SO (stp E .pair σ) W0 g s E tv W L σ.N.length σ.C.length):=by
 obtain⟨R,hR⟩: ∃R:Rs PM,R=stp E .pair σ:=⟨_,rfl⟩
 rw[<-hR]
 have HR:=zh hR
 have H0:=zh h
 have X0:=zh (MX.refl W0.heap.size W L σ.N.length σ.C.length)
 have HK:=zh hk
 clear h hR hk
 try unfold ptr
 go_enter Tryz.func178,Tryz.ntmps178
 have hb:=qa1 W (.cells #[.string ⟨#[61,62]⟩,.string ⟨#[58,61]⟩] 9)
 have Us:=zh (H0.out.strsN [⟨#[61,62]⟩,⟨#[58,61]⟩])
 have H1:=zh (H0.out.below hb)
 have Y1:=zh (H0.out.mxb hb)
 have X1:=zh (X0.out.trans Y1.out)
 clear hb
 go_wp2_with fail
 have q2:=qmv H1.out 1 [[61,62],[58,61]] _ _ _ Us.out (by decide)
 try unfold ptr at q2
 refine q2.mono ?_
 clear q2
 rintro e w2 ⟨v1,rfl,hv,hb⟩
 obtain⟨fK2,fF2,fC2,rfl⟩:=hv.fn
 have V2:=zh hv
 have H2:=zh (H1.out.below hb)
 have Y2:=zh (H1.out.mxb hb)
 have X2:=zh (X1.out.trans Y2.out)
 clear hv hb
 go_wp2_with fail
 refine(qbh H2.out _ (by simp) [_] [.perh 1 [[61,62],[58,61]]] 1 rfl (zB HK.out (by decide)) (by decide) _ ⟨V2.out,trivial⟩).mono ?_
 rintro e w3 ⟨rfl,M3,hm,hx⟩
 have H3:=zh hm
 have Y3:=zh hx
 have X3:=zh (X2.out.trans Y3.out)
 have v1_3:=zh (Y3.out.isc V2.out)
 clear hm hx
 have e9:R=.ok (σ.plan [.perh 1 [[61,62],[58,61]]]):=by
  rw[HR.out];try simp[stp,bind,Except.bind,pure,Except.pure,Except.map]
 subst e9
 go_wp2_with fail
 go_end0
 exact⟨rfl,M3,H3.out,X3.out⟩
theorem qid(h:MM W0 g s E tv W L σ)(hk:σ.k.length<=274877906944)(va vg:Value)(sa sg:Stp)(hva:IsC W (L.P W0.heap.size) g L.A L.B σ.N.length σ.C.length va sa)(hvg:IsC W (L.P W0.heap.size) g L.A L.B σ.N.length σ.C.length vg sg):
 Calls Tryz.prog 81 #[.pointer (some ⟨g,0,none⟩),va,vg] W (SO (.ok (qc8 σ sa sg)) W0 g s E tv W L σ.N.length σ.C.length):=by
 obtain⟨R,hR⟩: ∃R:Rs PM,R=.ok (qc8 σ sa sg):=⟨_,rfl⟩
 rw[<-hR]
 have HR:=zh hR
 have H0:=zh h
 have X0:=zh (MX.refl W0.heap.size W L σ.N.length σ.C.length)
 have HK:=zh hk
 obtain⟨fA,gA,hA,rfl⟩:=hva.fn
 obtain⟨fG,gG,hG,rfl⟩:=hvg.fn
 have VA:=zh hva
 have VG:=zh hvg
 clear hva hvg
 clear h hR hk
 try unfold ptr
 go_enter Tryz.func81,Tryz.ntmps81
 have hb:=qa1 W (.cells #[ptr g] 60)
 have B_r:=zh (H0.out.boxT (W.heap.size) (by simp) (ptr g) 60)
 have H1:=zh (H0.out.below hb)
 have Y1:=zh (H0.out.mxb hb)
 have X1:=zh (X0.out.trans Y1.out)
 have a1_1:=zh (Y1.out.isc VA.out)
 have a2_1:=zh (Y1.out.isc VG.out)
 clear hb
 obtain⟨M2,hm,hx,ha,hl⟩:=H1.out.new0E 22 ⟨#[]⟩
 have An:=zh (show M2.A σ.N.length=W.heap.size+1 from ha.trans (by simp))
 have Nbn:=zh (show σ.N.length<_ from hl)
 have H2:=zh hm
 have Y2:=zh hx
 have X2:=zh (X1.out.trans Y2.out)
 have B_r_2:=zh (Y2.out.box B_r.out)
 have cr2:=B_r_2.out.cellv
 unfold ptr at cr2
 have a1_2:=zh (Y2.out.isc a1_1.out)
 have a2_2:=zh (Y2.out.isc a2_1.out)
 clear hm hx ha hl
 have hb:=qa1 ((W.alloc (.cells #[ptr g] 60)).alloc (.cells #[.int .i64 22,.string ⟨#[]⟩,.slice none 0 0,.bool false,.bool false,.slice none 0 0,.slice none 0 0] 29)) (.cells #[.pointer (some ⟨W.heap.size+1,0,none⟩)] 74)
 have B_n:=zh (H2.out.boxT (W.heap.size+1+1) (by simp) (.pointer (some ⟨W.heap.size+1,0,none⟩)) 74)
 have H3:=zh (H2.out.below hb)
 have Y3:=zh (H2.out.mxb hb)
 have X3:=zh (X2.out.trans Y3.out)
 have B_r_3:=zh (Y3.out.box B_r_2.out)
 have cr3:=B_r_3.out.cellv
 unfold ptr at cr3
 have a1_3:=zh (Y3.out.isc a1_2.out)
 have a2_3:=zh (Y3.out.isc a2_2.out)
 have An_3:=zh ((Y3.out.A _ Nbn.out).trans An.out)
 have Nbn_3:=zh (zC Nbn.out Y3.out.N)
 clear hb
 go_wp2_with fail
 have q4:=qjs H3.out σ.N.length Nbn_3.out
 rw[An_3.out]at q4
 try unfold ptr at q4
 refine q4.mono ?_
 clear q4
 rintro e w4 ⟨v1,rfl,hv,hb⟩
 obtain⟨fK4,fF4,fC4,rfl⟩:=hv.fn
 have V4:=zh hv
 have H4:=zh (H3.out.below hb)
 have Y4:=zh (H3.out.mxb hb)
 have X4:=zh (X3.out.trans Y4.out)
 have B_r_4:=zh (Y4.out.box B_r_3.out)
 have cr4:=B_r_4.out.cellv
 unfold ptr at cr4
 have B_n_4:=zh (Y4.out.box B_n.out)
 have cn4:=B_n_4.out.cellv
 have a1_4:=zh (Y4.out.isc a1_3.out)
 have a2_4:=zh (Y4.out.isc a2_3.out)
 have An_4:=zh ((Y4.out.A _ Nbn_3.out).trans An_3.out)
 have Nbn_4:=zh (zC Nbn_3.out Y4.out.N)
 clear hv hb
 have V5:=zh (IsC.arrow (W:=w4) (P:=M2.P W0.heap.size) (g:=g) (A:=M2.A) (B:=M2.B) (nN:=(σ.new (nkt 22 ⟨#[]⟩ [])).N.length) (nC:=σ.C.length) σ.N.length _ _ B_r_4.out (by have h9:=B_n_4.out;rw[show ptr (M2.A σ.N.length)=_ from congrArg ptr An_4.out];exact h9) Nbn_4.out)
 have V6:=zh ((IsC.body:IsC w4 (M2.P W0.heap.size) g M2.A M2.B ((σ.new (nkt 22 ⟨#[]⟩ []))).N.length ((σ.new (nkt 22 ⟨#[]⟩ []))).C.length _ .body))
 go_wp2_with fail
 refine(qbh H4.out _ (by simp) [_,_,_,_,_,_,_] [sa,.into σ.N.length,sg,.into σ.N.length,.arrow σ.N.length,.body,.into σ.N.length] 7 rfl (zB HK.out (by decide)) (by decide) _ ⟨a1_4.out,⟨V4.out,⟨a2_4.out,⟨V4.out,⟨V5.out,⟨V6.out,⟨V4.out,trivial⟩⟩⟩⟩⟩⟩⟩).mono ?_
 rintro e w7 ⟨rfl,M7,hm,hx⟩
 have H7:=zh hm
 have Y7:=zh hx
 have X7:=zh (X4.out.trans Y7.out)
 have B_r_7:=zh (Y7.out.box B_r_4.out)
 have cr7:=B_r_7.out.cellv
 unfold ptr at cr7
 have B_n_7:=zh (Y7.out.box B_n_4.out)
 have cn7:=B_n_7.out.cellv
 have a1_7:=zh (Y7.out.isc a1_4.out)
 have a2_7:=zh (Y7.out.isc a2_4.out)
 have v1_7:=zh (Y7.out.isc V4.out)
 have v2_7:=zh (Y7.out.isc V5.out)
 have v3_7:=zh (Y7.out.isc V6.out)
 have An_7:=zh ((Y7.out.A _ Nbn_4.out).trans An_4.out)
 have Nbn_7:=zh (zC Nbn_4.out Y7.out.N)
 clear hm hx
 have e9:R=.ok (qc8 σ sa sg):=by
  rw[HR.out];try simp[qc8,bind,Except.bind,pure,Except.pure,Except.map]
 subst e9
 go_wp2_with fail
 go_end0
 exact⟨rfl,M7,H7.out,X7.out⟩
theorem qsm(h:MM W0 g s E tv W L σ)(hk:σ.k.length<=274877906944):
 Calls Tryz.prog 48 #[.pointer (some ⟨g,0,none⟩)] W (SO (stp E .patC σ) W0 g s E tv W L σ.N.length σ.C.length):=by
 obtain⟨R,hR⟩: ∃R:Rs PM,R=stp E .patC σ:=⟨_,rfl⟩
 rw[<-hR]
 have HR:=zh hR
 have H0:=zh h
 have X0:=zh (MX.refl W0.heap.size W L σ.N.length σ.C.length)
 have HK:=zh hk
 clear h hR hk
 try unfold ptr
 go_enter Tryz.func48,Tryz.ntmps48
 have V1:=zh ((IsC.patt:IsC W (L.P W0.heap.size) g L.A L.B σ.N.length σ.C.length _ .patt))
 have V2:=zh ((IsC.guar:IsC W (L.P W0.heap.size) g L.A L.B σ.N.length σ.C.length _ .guar))
 go_wp2_with fail
 have q3:=qid H0.out HK.out _ _ .patt .guar V1.out V2.out
 try unfold ptr at q3
 refine q3.mono ?_
 clear q3
 rintro e w9 ⟨rfl,M9,hm,hx⟩
 have H9:=zh hm
 have X9:=zh (X0.out.trans hx)
 clear hm hx
 have e9:R=.ok (qc8 σ .patt .guar):=by
  rw[HR.out];try simp[stp,bind,Except.bind,pure,Except.pure,Except.map]
 subst e9
 go_wp2_with fail
 go_end0
 exact⟨rfl,M9,H9.out,X9.out⟩
theorem qsu(h:MM W0 g s E tv W L σ)(hk:σ.k.length<=274877906944):
 Calls Tryz.prog 197 #[.pointer (some ⟨g,0,none⟩)] W (SO (stp E .tstC σ) W0 g s E tv W L σ.N.length σ.C.length):=by
 obtain⟨R,hR⟩: ∃R:Rs PM,R=stp E .tstC σ:=⟨_,rfl⟩
 rw[<-hR]
 have HR:=zh hR
 have H0:=zh h
 have X0:=zh (MX.refl W0.heap.size W L σ.N.length σ.C.length)
 have HK:=zh hk
 clear h hR hk
 try unfold ptr
 go_enter Tryz.func197,Tryz.ntmps197
 go_wp2_with fail
 have q1:=qms H0.out 23
 try unfold ptr at q1
 refine q1.mono ?_
 clear q1
 rintro e w1 ⟨v1,rfl,hv,hb⟩
 obtain⟨fK1,fF1,fC1,rfl⟩:=hv.fn
 have V1:=zh hv
 have H1:=zh (H0.out.below hb)
 have Y1:=zh (H0.out.mxb hb)
 have X1:=zh (X0.out.trans Y1.out)
 clear hv hb
 have V2:=zh ((IsC.alts:IsC w1 (L.P W0.heap.size) g L.A L.B σ.N.length σ.C.length _ .alts))
 go_wp2_with fail
 have q3:=qid H1.out HK.out _ _ (.noth 23) .alts V1.out V2.out
 try unfold ptr at q3
 refine q3.mono ?_
 clear q3
 rintro e w9 ⟨rfl,M9,hm,hx⟩
 have H9:=zh hm
 have X9:=zh (X1.out.trans hx)
 clear hm hx
 have e9:R=.ok (qc8 σ (.noth 23) .alts):=by
  rw[HR.out];try simp[stp,bind,Except.bind,pure,Except.pure,Except.map]
 subst e9
 go_wp2_with fail
 go_end0
 exact⟨rfl,M9,H9.out,X9.out⟩
theorem qsb(h:MM W0 g s E tv W L σ)(hk:σ.k.length<=274877906944):
 Calls Tryz.prog 193 #[.pointer (some ⟨g,0,none⟩)] W (SO (stp E .funC σ) W0 g s E tv W L σ.N.length σ.C.length):=by
 obtain⟨R,hR⟩: ∃R:Rs PM,R=stp E .funC σ:=⟨_,rfl⟩
 rw[<-hR]
 have HR:=zh hR
 have H0:=zh h
 have X0:=zh (MX.refl W0.heap.size W L σ.N.length σ.C.length)
 have HK:=zh hk
 clear h hR hk
 try unfold ptr
 go_enter Tryz.func193,Tryz.ntmps193
 obtain⟨M1,hm,hx,ha,hl⟩:=H0.out.new0E 23 ⟨#[]⟩
 have An:=zh (show M1.A σ.N.length=_ from ha)
 have Nbn:=zh (show σ.N.length<_ from hl)
 have H1:=zh hm
 have Y1:=zh hx
 have X1:=zh (X0.out.trans Y1.out)
 clear hm hx ha hl
 go_wp2_with fail
 have q2:=qds H1.out 0
 try unfold ptr at q2
 refine q2.mono ?_
 clear q2
 rintro e w2 ⟨v1,rfl,hv,hb⟩
 obtain⟨fK2,fF2,fC2,rfl⟩:=hv.fn
 have V2:=zh hv
 have H2:=zh (H1.out.below hb)
 have Y2:=zh (H1.out.mxb hb)
 have X2:=zh (X1.out.trans Y2.out)
 have An_2:=zh ((Y2.out.A _ Nbn.out).trans An.out)
 have Nbn_2:=zh (zC Nbn.out Y2.out.N)
 clear hv hb
 go_wp2_with fail
 have q3:=qwe H2.out σ.N.length [40] (.expr 0) _ V2.out Nbn_2.out
 rw[An_2.out]at q3
 try unfold ptr at q3
 refine q3.mono ?_
 clear q3
 rintro e w3 ⟨v2,rfl,hv,hb⟩
 obtain⟨fK3,fF3,fC3,rfl⟩:=hv.fn
 have V3:=zh hv
 have H3:=zh (H2.out.below hb)
 have Y3:=zh (H2.out.mxb hb)
 have X3:=zh (X2.out.trans Y3.out)
 have v1_3:=zh (Y3.out.isc V2.out)
 have An_3:=zh ((Y3.out.A _ Nbn_2.out).trans An_2.out)
 have Nbn_3:=zh (zC Nbn_2.out Y3.out.N)
 clear hv hb
 have V4:=zh ((IsC.guar:IsC w3 (M1.P W0.heap.size) g M1.A M1.B ((σ.new (nkt 23 ⟨#[]⟩ []))).N.length ((σ.new (nkt 23 ⟨#[]⟩ []))).C.length _ .guar))
 go_wp2_with fail
 have q5:=qid (σ:=σ.new (nk 23 [])) H3.out HK.out _ _ (.box σ.N.length [40] (.expr 0)) .guar V3.out V4.out
 try unfold ptr at q5
 refine q5.mono ?_
 clear q5
 rintro e w9 ⟨rfl,M9,hm,hx⟩
 have H9:=zh hm
 have X9:=zh (X3.out.trans hx)
 clear hm hx
 have e9:R=.ok (qc8 (σ.new (nk 23 [])) (.box σ.N.length [40] (.expr 0)) .guar):=by
  rw[HR.out];try simp[stp,bind,Except.bind,pure,Except.pure,Except.map]
 subst e9
 go_wp2_with fail
 go_end0
 exact⟨rfl,M9,H9.out,X9.out⟩
theorem qsh(h:MM W0 g s E tv W L σ)(hk:σ.k.length<=274877906944):
 Calls Tryz.prog 199 #[.pointer (some ⟨g,0,none⟩)] W (SO (stp E .lstC σ) W0 g s E tv W L σ.N.length σ.C.length):=by
 obtain⟨R,hR⟩: ∃R:Rs PM,R=stp E .lstC σ:=⟨_,rfl⟩
 rw[<-hR]
 have HR:=zh hR
 have H0:=zh h
 have X0:=zh (MX.refl W0.heap.size W L σ.N.length σ.C.length)
 have HK:=zh hk
 clear h hR hk
 try unfold ptr
 go_enter Tryz.func199,Tryz.ntmps199
 go_wp2_with fail
 have q1:=qjf H0.out [97,102,116,101,114]
 try unfold ptr at q1
 refine q1.mono ?_
 clear q1
 intro e w1 h1
 rcases hr1:sgE E 8 [97,102,116,101,114] σ.i with x9 | ⟨b,j⟩
 ·obtain rfl:=qax (by first | exact qae hr1 | exact qag hr1 | exact qaf hr1)
  rw[hr1]at h1
  obtain⟨⟨u,pv,rfl⟩,hb⟩:=h1
  have HB9:=zh hb
  have HR1:=zh hr1
  have e9:R=.error .die:=by
   have hr1:=HR1.out;rw[HR.out];try simp[stp,msE,hr1,bind,Except.bind,pure,Except.pure,Except.map]
  subst e9
  clear hb hr1
  go_wp2_with fail
  exact⟨rfl,⟨_,_,rfl⟩,HB9.out⟩
 ·rw[hr1]at h1
  have HR1:=zh hr1
  obtain⟨rfl,hm,hx⟩:=h1
  have H1:=zh hm
  have Y1:=zh hx
  have X1:=zh (X0.out.trans Y1.out)
  clear hm hx hr1
  cases b
  ·have e9:R=.error .die:=by
    have hr1:=HR1.out;rw[HR.out];try simp[stp,msE,hr1,bind,Except.bind,pure,Except.pure,Except.map]
   subst e9
   go_wp2_with fail
   refine(qat _).mono ?_
   rintro e w9 ⟨⟨u,pv,rfl⟩,rfl⟩
   go_wp2_with fail
   exact⟨rfl,⟨_,_,rfl⟩,H1.out.bel⟩
  ·go_wp2_with fail
   refine(qas _).mono ?_
   rintro e w9 ⟨rfl,rfl⟩
   have V2:=zh ((IsC.patt:IsC w1 (L.P W0.heap.size) g L.A L.B σ.N.length σ.C.length _ .patt))
   go_wp2_with fail
   have q3:=qms (σ:=σ.at_ j) H1.out 24
   try unfold ptr at q3
   refine q3.mono ?_
   clear q3
   rintro e w3 ⟨v2,rfl,hv,hb⟩
   obtain⟨fK3,fF3,fC3,rfl⟩:=hv.fn
   have V3:=zh hv
   have H3:=zh (H1.out.below hb)
   have Y3:=zh (H1.out.mxb hb)
   have X3:=zh (X1.out.trans Y3.out)
   have v1_3:=zh (Y3.out.isc V2.out)
   clear hv hb
   go_wp2_with fail
   have q4:=qid (σ:=σ.at_ j) H3.out HK.out _ _ .patt (.noth 24) v1_3.out V3.out
   try unfold ptr at q4
   refine q4.mono ?_
   clear q4
   rintro e w9 ⟨rfl,M9,hm,hx⟩
   have H9:=zh hm
   have X9:=zh (X3.out.trans hx)
   clear hm hx
   have e9:R=.ok (qc8 (σ.at_ j) .patt (.noth 24)):=by
    have hr1:=HR1.out;rw[HR.out];try simp[stp,msE,hr1,bind,Except.bind,pure,Except.pure,Except.map]
   subst e9
   go_wp2_with fail
   go_end0
   exact⟨rfl,M9,H9.out,X9.out⟩
theorem qsn(h:MM W0 g s E tv W L σ)(hk:σ.k.length<=274877906944):
 Calls Tryz.prog 82 #[.pointer (some ⟨g,0,none⟩)] W (SO (stp E .patt σ) W0 g s E tv W L σ.N.length σ.C.length):=by
 obtain⟨R,hR⟩: ∃R:Rs PM,R=stp E .patt σ:=⟨_,rfl⟩
 rw[<-hR]
 have HR:=zh hR
 have H0:=zh h
 have X0:=zh (MX.refl W0.heap.size W L σ.N.length σ.C.length)
 have HK:=zh hk
 clear h hR hk
 try unfold ptr
 go_enter Tryz.func82,Tryz.ntmps82
 go_wp2_with fail
 have q1:=qds H0.out 1
 try unfold ptr at q1
 refine q1.mono ?_
 clear q1
 rintro e w1 ⟨v1,rfl,hv,hb⟩
 obtain⟨fK1,fF1,fC1,rfl⟩:=hv.fn
 have V1:=zh hv
 have H1:=zh (H0.out.below hb)
 have Y1:=zh (H0.out.mxb hb)
 have X1:=zh (X0.out.trans Y1.out)
 clear hv hb
 obtain⟨M2,hm,hx,ha,hl⟩:=H1.out.new0E 23 ⟨#[]⟩
 have An:=zh (show M2.A σ.N.length=_ from ha)
 have Nbn:=zh (show σ.N.length<_ from hl)
 have H2:=zh hm
 have Y2:=zh hx
 have X2:=zh (X1.out.trans Y2.out)
 have v1_2:=zh (Y2.out.isc V1.out)
 clear hm hx ha hl
 go_wp2_with fail
 have q3:=qjs H2.out σ.N.length Nbn.out
 rw[An.out]at q3
 try unfold ptr at q3
 refine q3.mono ?_
 clear q3
 rintro e w3 ⟨v2,rfl,hv,hb⟩
 obtain⟨fK3,fF3,fC3,rfl⟩:=hv.fn
 have V3:=zh hv
 have H3:=zh (H2.out.below hb)
 have Y3:=zh (H2.out.mxb hb)
 have X3:=zh (X2.out.trans Y3.out)
 have v1_3:=zh (Y3.out.isc v1_2.out)
 have An_3:=zh ((Y3.out.A _ Nbn.out).trans An.out)
 have Nbn_3:=zh (zC Nbn.out Y3.out.N)
 clear hv hb
 go_wp2_with fail
 refine(qbh H3.out _ (by simp) [_,_] [.expr 1,.into σ.N.length] 2 rfl (zB HK.out (by decide)) (by decide) _ ⟨v1_3.out,⟨V3.out,trivial⟩⟩).mono ?_
 rintro e w4 ⟨rfl,M4,hm,hx⟩
 have H4:=zh hm
 have Y4:=zh hx
 have X4:=zh (X3.out.trans Y4.out)
 have v1_4:=zh (Y4.out.isc v1_3.out)
 have v2_4:=zh (Y4.out.isc V3.out)
 have An_4:=zh ((Y4.out.A _ Nbn_3.out).trans An_3.out)
 have Nbn_4:=zh (zC Nbn_3.out Y4.out.N)
 clear hm hx
 have e9:R=.ok ((σ.new (nk 23 [])).plan [.expr 1,.into σ.N.length]):=by
  rw[HR.out];try simp[stp,bind,Except.bind,pure,Except.pure,Except.map]
 subst e9
 go_wp2_with fail
 go_end0
 exact⟨rfl,M4,H4.out,X4.out⟩
theorem qkj(h:MM W0 g s E tv W L σ)(hk:σ.k.length<=274877906944):
 Calls Tryz.prog 114 #[.pointer (some ⟨g,0,none⟩)] W (SO (stp E .alts σ) W0 g s E tv W L σ.N.length σ.C.length):=by
 obtain⟨R,hR⟩: ∃R:Rs PM,R=stp E .alts σ:=⟨_,rfl⟩
 rw[<-hR]
 have HR:=zh hR
 have H0:=zh h
 have X0:=zh (MX.refl W0.heap.size W L σ.N.length σ.C.length)
 have HK:=zh hk
 clear h hR hk
 try unfold ptr
 go_enter Tryz.func114,Tryz.ntmps114
 obtain⟨M1,hm,hx,ha,hl⟩:=H0.out.new0E 24 ⟨#[]⟩
 have An:=zh (show M1.A σ.N.length=_ from ha)
 have Nbn:=zh (show σ.N.length<_ from hl)
 have H1:=zh hm
 have Y1:=zh hx
 have X1:=zh (X0.out.trans Y1.out)
 clear hm hx ha hl
 have V2:=zh ((IsC.cond:IsC (W.alloc (.cells #[.int .i64 24,.string ⟨#[]⟩,.slice none 0 0,.bool false,.bool false,.slice none 0 0,.slice none 0 0] 29)) (M1.P W0.heap.size) g M1.A M1.B ((σ.new (nkt 24 ⟨#[]⟩ []))).N.length ((σ.new (nkt 24 ⟨#[]⟩ []))).C.length _ .cond))
 go_wp2_with fail
 have q3:=qzx H1.out σ.N.length [59] .cond _ V2.out Nbn.out
 rw[An.out]at q3
 try unfold ptr at q3
 refine q3.mono ?_
 clear q3
 rintro e w3 ⟨v2,rfl,hv,hb⟩
 obtain⟨fK3,fF3,fC3,rfl⟩:=hv.fn
 have V3:=zh hv
 have H3:=zh (H1.out.below hb)
 have Y3:=zh (H1.out.mxb hb)
 have X3:=zh (X1.out.trans Y3.out)
 have v1_3:=zh (Y3.out.isc V2.out)
 have An_3:=zh ((Y3.out.A _ Nbn.out).trans An.out)
 have Nbn_3:=zh (zC Nbn.out Y3.out.N)
 clear hv hb
 go_wp2_with fail
 refine(qbh H3.out _ (by simp) [_] [.row σ.N.length [59] .cond] 1 rfl (zB HK.out (by decide)) (by decide) _ ⟨V3.out,trivial⟩).mono ?_
 rintro e w4 ⟨rfl,M4,hm,hx⟩
 have H4:=zh hm
 have Y4:=zh hx
 have X4:=zh (X3.out.trans Y4.out)
 have v1_4:=zh (Y4.out.isc v1_3.out)
 have v2_4:=zh (Y4.out.isc V3.out)
 have An_4:=zh ((Y4.out.A _ Nbn_3.out).trans An_3.out)
 have Nbn_4:=zh (zC Nbn_3.out Y4.out.N)
 clear hm hx
 have e9:R=.ok (qhb σ):=by
  rw[HR.out];try simp[stp,qhb,bind,Except.bind,pure,Except.pure,Except.map]
 subst e9
 go_wp2_with fail
 go_end0
 exact⟨rfl,M4,H4.out,X4.out⟩
theorem qm4(h:MM W0 g s E tv W L σ)(hk:σ.k.length<=274877906944):
 Calls Tryz.prog 165 #[.pointer (some ⟨g,0,none⟩)] W (SO (qbg E σ) W0 g s E tv W L σ.N.length σ.C.length):=by
 obtain⟨R,hR⟩: ∃R:Rs PM,R=qbg E σ:=⟨_,rfl⟩
 rw[<-hR]
 have HR:=zh hR
 have H0:=zh h
 have X0:=zh (MX.refl W0.heap.size W L σ.N.length σ.C.length)
 have HK:=zh hk
 clear h hR hk
 try unfold ptr
 go_enter Tryz.func165,Tryz.ntmps165
 go_wp2_with fail
 have q1:=qdd H0.out [40]
 try unfold ptr at q1
 refine q1.mono ?_
 clear q1
 intro e w1 h1
 rcases hr1:sgE E 9 [40] σ.i with x9 | ⟨b,j⟩
 ·obtain rfl:=qax (by first | exact qae hr1 | exact qag hr1 | exact qaf hr1)
  rw[hr1]at h1
  obtain⟨⟨u,pv,rfl⟩,hb⟩:=h1
  have HB9:=zh hb
  have HR1:=zh hr1
  have e9:R=.error .die:=by
   have hr1:=HR1.out;rw[HR.out];try simp[qbg,msE,hr1,bind,Except.bind,pure,Except.pure,Except.map]
  subst e9
  clear hb hr1
  go_wp2_with fail
  exact⟨rfl,⟨_,_,rfl⟩,HB9.out⟩
 ·rw[hr1]at h1
  have HR1:=zh hr1
  obtain⟨rfl,hm,hx⟩:=h1
  have H1:=zh hm
  have Y1:=zh hx
  have X1:=zh (X0.out.trans Y1.out)
  clear hm hx hr1
  cases b
  ·have e9:R=.error .die:=by
    have hr1:=HR1.out;rw[HR.out];try simp[qbg,msE,hr1,bind,Except.bind,pure,Except.pure,Except.map]
   subst e9
   go_wp2_with fail
   refine(qat _).mono ?_
   rintro e w9 ⟨⟨u,pv,rfl⟩,rfl⟩
   go_wp2_with fail
   exact⟨rfl,⟨_,_,rfl⟩,H1.out.bel⟩
  ·go_wp2_with fail
   refine(qas _).mono ?_
   rintro e w9 ⟨rfl,rfl⟩
   go_wp2_with fail
   have q2:=qds (σ:=σ.at_ j) H1.out 0
   try unfold ptr at q2
   refine q2.mono ?_
   clear q2
   rintro e w2 ⟨v1,rfl,hv,hb⟩
   obtain⟨fK2,fF2,fC2,rfl⟩:=hv.fn
   have V2:=zh hv
   have H2:=zh (H1.out.below hb)
   have Y2:=zh (H1.out.mxb hb)
   have X2:=zh (X1.out.trans Y2.out)
   clear hv hb
   go_wp2_with fail
   have q3:=qkm (σ:=σ.at_ j) H2.out [41]
   try unfold ptr at q3
   refine q3.mono ?_
   clear q3
   rintro e w3 ⟨v2,rfl,hv,hb⟩
   obtain⟨fK3,fF3,fC3,rfl⟩:=hv.fn
   have V3:=zh hv
   have H3:=zh (H2.out.below hb)
   have Y3:=zh (H2.out.mxb hb)
   have X3:=zh (X2.out.trans Y3.out)
   have v1_3:=zh (Y3.out.isc V2.out)
   clear hv hb
   go_wp2_with fail
   refine(qbh H3.out _ (by simp) [_,_] [.expr 0,.want 9 [41]] 2 rfl (zB HK.out (by decide)) (by decide) _ ⟨v1_3.out,⟨V3.out,trivial⟩⟩).mono ?_
   rintro e w4 ⟨rfl,M4,hm,hx⟩
   have H4:=zh hm
   have Y4:=zh hx
   have X4:=zh (X3.out.trans Y4.out)
   have v1_4:=zh (Y4.out.isc v1_3.out)
   have v2_4:=zh (Y4.out.isc V3.out)
   clear hm hx
   have e9:R=.ok ((σ.at_ j).plan [.expr 0,.want 9 [41]]):=by
    have hr1:=HR1.out;rw[HR.out];try simp[qbg,msE,hr1,bind,Except.bind,pure,Except.pure,Except.map]
   subst e9
   go_wp2_with fail
   go_end0
   exact⟨rfl,M4,H4.out,X4.out⟩
theorem tupleM(h:MM W0 g s E tv W L σ)(hk:σ.k.length<=274877906944):
 Calls Tryz.prog 166 #[.pointer (some ⟨g,0,none⟩)] W (SO (.ok (qib σ (nk 4 []) [123] (.expr 0))) W0 g s E tv W L σ.N.length σ.C.length):=by
 obtain⟨R,hR⟩: ∃R:Rs PM,R=.ok (qib σ (nk 4 []) [123] (.expr 0)):=⟨_,rfl⟩
 rw[<-hR]
 have HR:=zh hR
 have H0:=zh h
 have X0:=zh (MX.refl W0.heap.size W L σ.N.length σ.C.length)
 have HK:=zh hk
 clear h hR hk
 try unfold ptr
 go_enter Tryz.func166,Tryz.ntmps166
 obtain⟨M1,hm,hx,ha,hl⟩:=H0.out.new0E 4 ⟨#[]⟩
 have An:=zh (show M1.A σ.N.length=_ from ha)
 have Nbn:=zh (show σ.N.length<_ from hl)
 have H1:=zh hm
 have Y1:=zh hx
 have X1:=zh (X0.out.trans Y1.out)
 clear hm hx ha hl
 go_wp2_with fail
 have q2:=qds H1.out 0
 try unfold ptr at q2
 refine q2.mono ?_
 clear q2
 rintro e w2 ⟨v1,rfl,hv,hb⟩
 obtain⟨fK2,fF2,fC2,rfl⟩:=hv.fn
 have V2:=zh hv
 have H2:=zh (H1.out.below hb)
 have Y2:=zh (H1.out.mxb hb)
 have X2:=zh (X1.out.trans Y2.out)
 have An_2:=zh ((Y2.out.A _ Nbn.out).trans An.out)
 have Nbn_2:=zh (zC Nbn.out Y2.out.N)
 clear hv hb
 go_wp2_with fail
 have q3:=qwe H2.out σ.N.length [123] (.expr 0) _ V2.out Nbn_2.out
 rw[An_2.out]at q3
 try unfold ptr at q3
 refine q3.mono ?_
 clear q3
 rintro e w3 ⟨v2,rfl,hv,hb⟩
 obtain⟨fK3,fF3,fC3,rfl⟩:=hv.fn
 have V3:=zh hv
 have H3:=zh (H2.out.below hb)
 have Y3:=zh (H2.out.mxb hb)
 have X3:=zh (X2.out.trans Y3.out)
 have v1_3:=zh (Y3.out.isc V2.out)
 have An_3:=zh ((Y3.out.A _ Nbn_2.out).trans An_2.out)
 have Nbn_3:=zh (zC Nbn_2.out Y3.out.N)
 clear hv hb
 go_wp2_with fail
 refine(qbh H3.out _ (by simp) [_] [.box σ.N.length [123] (.expr 0)] 1 rfl (zB HK.out (by decide)) (by decide) _ ⟨V3.out,trivial⟩).mono ?_
 rintro e w4 ⟨rfl,M4,hm,hx⟩
 have H4:=zh hm
 have Y4:=zh hx
 have X4:=zh (X3.out.trans Y4.out)
 have v1_4:=zh (Y4.out.isc v1_3.out)
 have v2_4:=zh (Y4.out.isc V3.out)
 have An_4:=zh ((Y4.out.A _ Nbn_3.out).trans An_3.out)
 have Nbn_4:=zh (zC Nbn_3.out Y4.out.N)
 clear hm hx
 have e9:R=.ok (qib σ (nk 4 []) [123] (.expr 0)):=by
  rw[HR.out];try simp[qib,bind,Except.bind,pure,Except.pure,Except.map]
 subst e9
 go_wp2_with fail
 go_end0
 exact⟨rfl,M4,H4.out,X4.out⟩
theorem binM(h:MM W0 g s E tv W L σ)(hk:σ.k.length<=274877906944):
 Calls Tryz.prog 168 #[.pointer (some ⟨g,0,none⟩)] W (SO (.ok (qtd σ)) W0 g s E tv W L σ.N.length σ.C.length):=by
 obtain⟨R,hR⟩: ∃R:Rs PM,R=.ok (qtd σ):=⟨_,rfl⟩
 rw[<-hR]
 have HR:=zh hR
 have H0:=zh h
 have X0:=zh (MX.refl W0.heap.size W L σ.N.length σ.C.length)
 have HK:=zh hk
 clear h hR hk
 try unfold ptr
 go_enter Tryz.func168,Tryz.ntmps168
 obtain⟨M1,hm,hx,ha,hl⟩:=H0.out.new0E 6 ⟨#[]⟩
 have An:=zh (show M1.A σ.N.length=_ from ha)
 have Nbn:=zh (show σ.N.length<_ from hl)
 have H1:=zh hm
 have Y1:=zh hx
 have X1:=zh (X0.out.trans Y1.out)
 clear hm hx ha hl
 have V2:=zh ((IsC.segm:IsC (W.alloc (.cells #[.int .i64 6,.string ⟨#[]⟩,.slice none 0 0,.bool false,.bool false,.slice none 0 0,.slice none 0 0] 29)) (M1.P W0.heap.size) g M1.A M1.B ((σ.new (nkt 6 ⟨#[]⟩ []))).N.length ((σ.new (nkt 6 ⟨#[]⟩ []))).C.length _ .segm))
 go_wp2_with fail
 have q3:=qwe H1.out σ.N.length [60,60] .segm _ V2.out Nbn.out
 rw[An.out]at q3
 try unfold ptr at q3
 refine q3.mono ?_
 clear q3
 rintro e w3 ⟨v2,rfl,hv,hb⟩
 obtain⟨fK3,fF3,fC3,rfl⟩:=hv.fn
 have V3:=zh hv
 have H3:=zh (H1.out.below hb)
 have Y3:=zh (H1.out.mxb hb)
 have X3:=zh (X1.out.trans Y3.out)
 have v1_3:=zh (Y3.out.isc V2.out)
 have An_3:=zh ((Y3.out.A _ Nbn.out).trans An.out)
 have Nbn_3:=zh (zC Nbn.out Y3.out.N)
 clear hv hb
 go_wp2_with fail
 refine(qbh H3.out _ (by simp) [_] [.box σ.N.length [60,60] .segm] 1 rfl (zB HK.out (by decide)) (by decide) _ ⟨V3.out,trivial⟩).mono ?_
 rintro e w4 ⟨rfl,M4,hm,hx⟩
 have H4:=zh hm
 have Y4:=zh hx
 have X4:=zh (X3.out.trans Y4.out)
 have v1_4:=zh (Y4.out.isc v1_3.out)
 have v2_4:=zh (Y4.out.isc V3.out)
 have An_4:=zh ((Y4.out.A _ Nbn_3.out).trans An_3.out)
 have Nbn_4:=zh (zC Nbn_3.out Y4.out.N)
 clear hm hx
 have e9:R=.ok (qtd σ):=by
  rw[HR.out];try simp[qtd,qib,bind,Except.bind,pure,Except.pure,Except.map]
 subst e9
 go_wp2_with fail
 go_end0
 exact⟨rfl,M4,H4.out,X4.out⟩
end
section
variable{W0 W:World}{g:Nat}{s:ByteArray}{E:Env}{tv:Value}{L:PLay}{σ:PM}
theorem lt7(k:Int):([1,2,3,4,5,6,7]:List Int).contains k=ltk k:=by
 rw[Bool.eq_iff_iff]
 simp[ltk]
 omega
theorem litM(h:MM W0 g s E tv W L σ):
 Calls Tryz.prog 148 #[.pointer (some ⟨g,0,none⟩)] W (SO (qjw E σ) W0 g s E tv W L σ.N.length σ.C.length):=by
 obtain⟨R,hR⟩: ∃R:Rs PM,R=qjw E σ:=⟨_,rfl⟩
 rw[<-hR]
 have HR:=zh hR
 have H0:=zh h
 have X0:=zh (MX.refl W0.heap.size W L σ.N.length σ.C.length)
 clear h hR
 try unfold ptr
 go_enter Tryz.func148,Tryz.ntmps148
 have hb:=qa1 W (.cells #[.int .i64 1,.int .i64 2,.int .i64 3,.int .i64 4,.int .i64 5,.int .i64 6,.int .i64 7] 3)
 have Uk:=zh (qev W _ rfl [1,2,3,4,5,6,7] (by decide) 3)
 have Ugk:=zh (show W.heap.size≠g from by have:=H0.out.glt;omega)
 have H1:=zh (H0.out.below hb)
 have Y1:=zh (H0.out.mxb hb)
 have X1:=zh (X0.out.trans Y1.out)
 clear hb
 go_wp2_with fail
 have q2:=textM H1.out ltk [1,2,3,4,5,6,7] lt7 rfl W.heap.size 7 rfl Uk.out (by simp) Ugk.out
 try unfold ptr at q2
 refine q2.mono ?_
 clear q2
 intro e w2 h2
 rcases hr2:txE E ltk σ.i with x9 | x
 ·obtain rfl:=qax (by first | exact qae hr2 | exact qag hr2 | exact qaf hr2)
  rw[hr2]at h2
  obtain⟨⟨u,pv,rfl⟩,hb⟩:=h2
  have HB9:=zh hb
  have HR2:=zh hr2
  have e9:R=.error .die:=by
   have hr2:=HR2.out;rw[HR.out];try simp[qjw,hr2,bind,Except.bind,pure,Except.pure,Except.map]
  subst e9
  clear hb hr2
  go_wp2_with fail
  exact⟨rfl,⟨_,_,rfl⟩,HB9.out⟩
 ·rw[hr2]at h2
  have HR2:=zh hr2
  obtain⟨rfl,hm,hx⟩:=h2
  have H2:=zh hm
  have Y2:=zh hx
  have X2:=zh (X1.out.trans Y2.out)
  clear hm hx hr2
  obtain⟨⟨np3,g5_3,-⟩,gf_3,-⟩:=(H2.out.below (qa1 w2 (.cells #[.int .i64 1,.string x.1,.slice none 0 0,.bool false,.bool false,.slice none 0 0,.slice none 0 0] 29))).gcell
  have gf5_3:=gf_3 5
  clear gf_3
  obtain⟨M3,hm,hx⟩:=H2.out.got0 1 x.1
  have H3:=zh hm
  have Y3:=zh hx
  have X3:=zh (X2.out.trans Y3.out)
  clear hm hx
  have e9:R=.ok ((σ.at_ x.2).got (nkt 1 x.1 [])):=by
   have hr2:=HR2.out;rw[HR.out];try simp[qjw,hr2,bind,Except.bind,pure,Except.pure,Except.map]
  subst e9
  go_wp2_with fail
  go_end0
  exact⟨rfl,M3,H3.out,X3.out⟩
theorem qsj(h:MM W0 g s E tv W L σ)(k0:Int)(k1:Nat)(b1:BoxC W (L.P W0.heap.size) (.pointer (some ⟨k1,0,none⟩)) (.int .i64 k0))(k2:Nat)(b2:BoxC W (L.P W0.heap.size) (.pointer (some ⟨k2,0,none⟩)) (ptr g)):
 Calls Tryz.prog 221 #[.pointer (some ⟨k1,0,none⟩),.pointer (some ⟨k2,0,none⟩)] W (SO (stp E (.noth k0) σ) W0 g s E tv W L σ.N.length σ.C.length):=by
 obtain⟨R,hR⟩: ∃R:Rs PM,R=stp E (.noth k0) σ:=⟨_,rfl⟩
 rw[<-hR]
 have HR:=zh hR
 have H0:=zh h
 have X0:=zh (MX.refl W0.heap.size W L σ.N.length σ.C.length)
 have B_k:=zh b1
 have ck0:=b1.cellv
 have B_r:=zh b2
 have cr0:=b2.cellv
 unfold ptr at cr0
 clear h hR b1 b2
 try unfold ptr
 go_enter Tryz.func221,Tryz.ntmps221
 obtain⟨⟨np1,g5_1,-⟩,gf_1,-⟩:=(H0.out.below (qa1 W (.cells #[.int .i64 k0,.string ⟨#[]⟩,.slice none 0 0,.bool false,.bool false,.slice none 0 0,.slice none 0 0] 29))).gcell
 have gf5_1:=gf_1 5
 clear gf_1
 obtain⟨M1,hm,hx⟩:=H0.out.got0 k0 ⟨#[]⟩
 have H1:=zh hm
 have Y1:=zh hx
 have X1:=zh (X0.out.trans Y1.out)
 have B_k_1:=zh (Y1.out.box B_k.out)
 have ck1:=B_k_1.out.cellv
 have B_r_1:=zh (Y1.out.box B_r.out)
 have cr1:=B_r_1.out.cellv
 unfold ptr at cr1
 clear hm hx
 have e9:R=.ok (σ.got (nk k0 [])):=by
  rw[HR.out];try simp[stp,bind,Except.bind,pure,Except.pure,Except.map]
 subst e9
 go_wp2_with fail
 go_end0
 exact⟨rfl,M1,H1.out,X1.out⟩
theorem qs7(h:MM W0 g s E tv W L σ)(hk:σ.k.length<=274877906944)(hns:stp E .clld σ≠ .error .stuck):
 Calls Tryz.prog 181 #[.pointer (some ⟨g,0,none⟩)] W (SO (stp E .clld σ) W0 g s E tv W L σ.N.length σ.C.length):=by
 obtain⟨R,hR⟩: ∃R:Rs PM,R=stp E .clld σ:=⟨_,rfl⟩
 rw[<-hR]at hns⊢
 have HNS:=zh hns
 have HR:=zh hR
 have H0:=zh h
 have X0:=zh (MX.refl W0.heap.size W L σ.N.length σ.C.length)
 have HK:=zh hk
 clear h hR hk hns
 try unfold ptr
 go_enter Tryz.func181,Tryz.ntmps181
 cases hs1:E.sign (pz σ.i) [40]
 ·have HS1:=zh hs1
  go_wp2_with fail
  have q1:=qcb H0.out [40]
  rw[show E.sign (pz σ.i) [40]=_ from HS1.out]at q1
  try unfold ptr at q1
  refine q1.mono ?_
  clear q1
  rintro e w1 ⟨rfl,hm,hx⟩
  have H1:=zh hm
  have Y1:=zh hx
  have X1:=zh (X0.out.trans Y1.out)
  clear hm hx
  go_wp2_with fail
  have q2:=qqe H1.out
  try unfold ptr at q2
  refine q2.mono ?_
  clear q2
  intro e w2 h2
  rcases hr2:txE E nmk σ.i with x9 | x
  ·obtain rfl:=qax (by first | exact qae hr2 | exact qag hr2 | exact qaf hr2)
   rw[hr2]at h2
   obtain⟨⟨u,pv,rfl⟩,hb⟩:=h2
   have HB9:=zh hb
   have HR2:=zh hr2
   have e9:R=.error .die:=by
    have hs1:=HS1.out;have hr2:=HR2.out;rw[HR.out];try simp[stp,hs1,hr2,bind,Except.bind,pure,Except.pure,Except.map]
   subst e9
   clear hb hr2
   go_wp2_with fail
   exact⟨rfl,⟨_,_,rfl⟩,HB9.out⟩
  ·rw[hr2]at h2
   have HR2:=zh hr2
   obtain⟨rfl,hm,hx⟩:=h2
   have H2:=zh hm
   have Y2:=zh hx
   have X2:=zh (X1.out.trans Y2.out)
   clear hm hx hr2
   obtain⟨⟨np3,g5_3,-⟩,gf_3,-⟩:=(H2.out.below (qa1 w2 (.cells #[.int .i64 1,.string x.1,.slice none 0 0,.bool false,.bool false,.slice none 0 0,.slice none 0 0] 29))).gcell
   have gf5_3:=gf_3 5
   clear gf_3
   obtain⟨M3,hm,hx⟩:=H2.out.got0 1 x.1
   have H3:=zh hm
   have Y3:=zh hx
   have X3:=zh (X2.out.trans Y3.out)
   clear hm hx
   have e9:R=.ok ((σ.at_ x.2).got (nkt 1 x.1 [])):=by
    have hs1:=HS1.out;have hr2:=HR2.out;rw[HR.out];try simp[stp,hs1,hr2,bind,Except.bind,pure,Except.pure,Except.map]
   subst e9
   go_wp2_with fail
   go_end0
   exact⟨rfl,M3,H3.out,X3.out⟩
 ·have HS1:=zh hs1
  go_wp2_with fail
  have q4:=qcb H0.out [40]
  rw[show E.sign (pz σ.i) [40]=_ from HS1.out]at q4
  try unfold ptr at q4
  refine q4.mono ?_
  clear q4
  rintro e w4 ⟨rfl,hm,hx⟩
  have H4:=zh hm
  have Y4:=zh hx
  have X4:=zh (X0.out.trans Y4.out)
  clear hm hx
  go_wp2_with fail
  have q5:=qm4 H4.out HK.out
  try unfold ptr at q5
  refine q5.mono ?_
  clear q5
  intro e w9 h9
  have e9:R=qbg E σ:=by
   have hs1:=HS1.out;rw[HR.out];try simp[stp,hs1,bind,Except.bind,pure,Except.pure,Except.map]
  subst e9
  cases hres:(qbg E σ)with
  | error b=>
   cases b with
   | die=>
    rw[hres]at h9
    obtain⟨⟨u,pv,rfl⟩,hb⟩:=h9
    have HB9:=zh hb
    have HRES:=zh hres
    clear hb hres
    go_wp2_with fail
    exact⟨rfl,⟨_,_,rfl⟩,HB9.out⟩
   | stuck=>exact absurd hres HNS.out
  | ok τ=>
   rw[hres]at h9
   obtain⟨rfl,M9,hm,hx⟩:=h9
   have H9:=zh hm
   have X9:=zh (X4.out.trans hx)
   have HRES:=zh hres
   clear hm hx hres
   go_wp2_with fail
   go_end0
   first
    | exact⟨rfl,M9,H9.out,X9.out⟩
    | (rw[HRES.out];exact⟨rfl,M9,H9.out,X9.out⟩)
theorem qvw(h:MM W0 g s E tv W L σ)(hk:σ.k.length<=274877906944)(hns:stp E .val σ≠ .error .stuck):
 Calls Tryz.prog 210 #[.pointer (some ⟨g,0,none⟩)] W (SO (stp E .val σ) W0 g s E tv W L σ.N.length σ.C.length):=by
 obtain⟨R,hR⟩: ∃R:Rs PM,R=stp E .val σ:=⟨_,rfl⟩
 rw[<-hR]at hns⊢
 have HNS:=zh hns
 have HR:=zh hR
 have H0:=zh h
 have X0:=zh (MX.refl W0.heap.size W L σ.N.length σ.C.length)
 have HK:=zh hk
 clear h hR hk hns
 try unfold ptr
 go_enter Tryz.func210,Tryz.ntmps210
 cases hs1:E.sign (pz σ.i) [40]
 ·have HS1:=zh hs1
  go_wp2_with fail
  have q1:=qcb H0.out [40]
  rw[show E.sign (pz σ.i) [40]=_ from HS1.out]at q1
  try unfold ptr at q1
  refine q1.mono ?_
  clear q1
  rintro e w1 ⟨rfl,hm,hx⟩
  have H1:=zh hm
  have Y1:=zh hx
  have X1:=zh (X0.out.trans Y1.out)
  clear hm hx
  cases hs2:E.sign (pz σ.i) [60,60]
  ·have HS2:=zh hs2
   go_wp2_with fail
   have q2:=qcb H1.out [60,60]
   rw[show E.sign (pz σ.i) [60,60]=_ from HS2.out]at q2
   try unfold ptr at q2
   refine q2.mono ?_
   clear q2
   rintro e w2 ⟨rfl,hm,hx⟩
   have H2:=zh hm
   have Y2:=zh hx
   have X2:=zh (X1.out.trans Y2.out)
   clear hm hx
   go_wp2_with fail
   have q3:=litM H2.out
   try unfold ptr at q3
   refine q3.mono ?_
   clear q3
   intro e w9 h9
   have e9:R=qjw E σ:=by
    have hs1:=HS1.out;have hs2:=HS2.out;rw[HR.out];try simp[stp,hs1,hs2,bind,Except.bind,pure,Except.pure,Except.map]
   subst e9
   cases hres:(qjw E σ)with
   | error b=>
    cases b with
    | die=>
     rw[hres]at h9
     obtain⟨⟨u,pv,rfl⟩,hb⟩:=h9
     have HB9:=zh hb
     have HRES:=zh hres
     clear hb hres
     go_wp2_with fail
     exact⟨rfl,⟨_,_,rfl⟩,HB9.out⟩
    | stuck=>exact absurd hres HNS.out
   | ok τ=>
    rw[hres]at h9
    obtain⟨rfl,M9,hm,hx⟩:=h9
    have H9:=zh hm
    have X9:=zh (X2.out.trans hx)
    have HRES:=zh hres
    clear hm hx hres
    go_wp2_with fail
    go_end0
    first
     | exact⟨rfl,M9,H9.out,X9.out⟩
     | (rw[HRES.out];exact⟨rfl,M9,H9.out,X9.out⟩)
  ·have HS2:=zh hs2
   go_wp2_with fail
   have q4:=qcb H1.out [60,60]
   rw[show E.sign (pz σ.i) [60,60]=_ from HS2.out]at q4
   try unfold ptr at q4
   refine q4.mono ?_
   clear q4
   rintro e w4 ⟨rfl,hm,hx⟩
   have H4:=zh hm
   have Y4:=zh hx
   have X4:=zh (X1.out.trans Y4.out)
   clear hm hx
   go_wp2_with fail
   have q5:=binM H4.out HK.out
   try unfold ptr at q5
   refine q5.mono ?_
   clear q5
   rintro e w9 ⟨rfl,M9,hm,hx⟩
   have H9:=zh hm
   have X9:=zh (X4.out.trans hx)
   clear hm hx
   have e9:R=.ok (qtd σ):=by
    have hs1:=HS1.out;have hs2:=HS2.out;rw[HR.out];try simp[stp,hs1,hs2,bind,Except.bind,pure,Except.pure,Except.map]
   subst e9
   go_wp2_with fail
   go_end0
   exact⟨rfl,M9,H9.out,X9.out⟩
 ·have HS1:=zh hs1
  go_wp2_with fail
  have q6:=qcb H0.out [40]
  rw[show E.sign (pz σ.i) [40]=_ from HS1.out]at q6
  try unfold ptr at q6
  refine q6.mono ?_
  clear q6
  rintro e w6 ⟨rfl,hm,hx⟩
  have H6:=zh hm
  have Y6:=zh hx
  have X6:=zh (X0.out.trans Y6.out)
  clear hm hx
  go_wp2_with fail
  have q7:=qm4 H6.out HK.out
  try unfold ptr at q7
  refine q7.mono ?_
  clear q7
  intro e w9 h9
  have e9:R=qbg E σ:=by
   have hs1:=HS1.out;rw[HR.out];try simp[stp,hs1,bind,Except.bind,pure,Except.pure,Except.map]
  subst e9
  cases hres:(qbg E σ)with
  | error b=>
   cases b with
   | die=>
    rw[hres]at h9
    obtain⟨⟨u,pv,rfl⟩,hb⟩:=h9
    have HB9:=zh hb
    have HRES:=zh hres
    clear hb hres
    go_wp2_with fail
    exact⟨rfl,⟨_,_,rfl⟩,HB9.out⟩
   | stuck=>exact absurd hres HNS.out
  | ok τ=>
   rw[hres]at h9
   obtain⟨rfl,M9,hm,hx⟩:=h9
   have H9:=zh hm
   have X9:=zh (X6.out.trans hx)
   have HRES:=zh hres
   clear hm hx hres
   go_wp2_with fail
   go_end0
   first
    | exact⟨rfl,M9,H9.out,X9.out⟩
    | (rw[HRES.out];exact⟨rfl,M9,H9.out,X9.out⟩)
theorem madeM(h:MM W0 g s E tv W L σ)(hk:σ.k.length<=274877906944):
 Calls Tryz.prog 169 #[.pointer (some ⟨g,0,none⟩)] W (SO (qfa E σ) W0 g s E tv W L σ.N.length σ.C.length):=by
 obtain⟨R,hR⟩: ∃R:Rs PM,R=qfa E σ:=⟨_,rfl⟩
 rw[<-hR]
 have HR:=zh hR
 have H0:=zh h
 have X0:=zh (MX.refl W0.heap.size W L σ.N.length σ.C.length)
 have HK:=zh hk
 clear h hR hk
 try unfold ptr
 go_enter Tryz.func169,Tryz.ntmps169
 go_wp2_with fail
 have q1:=qdd H0.out [35]
 try unfold ptr at q1
 refine q1.mono ?_
 clear q1
 intro e w1 h1
 rcases hr1:sgE E 9 [35] σ.i with x9 | ⟨b,j⟩
 ·obtain rfl:=qax (by first | exact qae hr1 | exact qag hr1 | exact qaf hr1)
  rw[hr1]at h1
  obtain⟨⟨u,pv,rfl⟩,hb⟩:=h1
  have HB9:=zh hb
  have HR1:=zh hr1
  have e9:R=.error .die:=by
   have hr1:=HR1.out;rw[HR.out];try simp[qfa,msE,hr1,bind,Except.bind,pure,Except.pure,Except.map]
  subst e9
  clear hb hr1
  go_wp2_with fail
  exact⟨rfl,⟨_,_,rfl⟩,HB9.out⟩
 ·rw[hr1]at h1
  have HR1:=zh hr1
  obtain⟨rfl,hm,hx⟩:=h1
  have H1:=zh hm
  have Y1:=zh hx
  have X1:=zh (X0.out.trans Y1.out)
  clear hm hx hr1
  cases b
  ·have e9:R=.error .die:=by
    have hr1:=HR1.out;rw[HR.out];try simp[qfa,msE,hr1,bind,Except.bind,pure,Except.pure,Except.map]
   subst e9
   go_wp2_with fail
   refine(qat _).mono ?_
   rintro e w9 ⟨⟨u,pv,rfl⟩,rfl⟩
   go_wp2_with fail
   exact⟨rfl,⟨_,_,rfl⟩,H1.out.bel⟩
  ·go_wp2_with fail
   refine(qas _).mono ?_
   rintro e w9 ⟨rfl,rfl⟩
   cases hs2:E.sign (pz j) [123]
   ·have HS2:=zh hs2
    go_wp2_with fail
    have q2:=qcb (σ:=σ.at_ j) H1.out [123]
    rw[show E.sign (pz (σ.at_ j).i) [123]=_ from HS2.out]at q2
    try unfold ptr at q2
    refine q2.mono ?_
    clear q2
    rintro e w2 ⟨rfl,hm,hx⟩
    have H2:=zh hm
    have Y2:=zh hx
    have X2:=zh (X1.out.trans Y2.out)
    clear hm hx
    go_wp2_with fail
    have q3:=qqe (σ:=σ.at_ j) H2.out
    try unfold ptr at q3
    refine q3.mono ?_
    clear q3
    intro e w3 h3
    rcases hr3:txE E nmk (σ.at_ j).i with x9 | x
    ·obtain rfl:=qax (by first | exact qae hr3 | exact qag hr3 | exact qaf hr3)
     rw[hr3]at h3
     replace hr3:txE E nmk j=_:=hr3
     obtain⟨⟨u,pv,rfl⟩,hb⟩:=h3
     have HB9:=zh hb
     have HR3:=zh hr3
     have e9:R=.error .die:=by
      have hr1:=HR1.out;have hs2:=HS2.out;have hr3:=HR3.out;rw[HR.out];try simp[qfa,msE,hr1,hs2,hr3,bind,Except.bind,pure,Except.pure,Except.map]
     subst e9
     clear hb hr3
     go_wp2_with fail
     exact⟨rfl,⟨_,_,rfl⟩,HB9.out⟩
    ·rw[hr3]at h3
     replace hr3:txE E nmk j=_:=hr3
     have HR3:=zh hr3
     obtain⟨rfl,hm,hx⟩:=h3
     have H3:=zh hm
     have Y3:=zh hx
     have X3:=zh (X2.out.trans Y3.out)
     clear hm hx hr3
     obtain⟨M4,hm,hx,ha,hl⟩:=H3.out.new0E 10 x.1
     have An:=zh (show M4.A σ.N.length=_ from ha)
     have Nbn:=zh (show σ.N.length<_ from hl)
     have H4:=zh hm
     have Y4:=zh hx
     have X4:=zh (X3.out.trans Y4.out)
     clear hm hx ha hl
     go_wp2_with fail
     have q5:=qds H4.out 0
     try unfold ptr at q5
     refine q5.mono ?_
     clear q5
     rintro e w5 ⟨v1,rfl,hv,hb⟩
     obtain⟨fK5,fF5,fC5,rfl⟩:=hv.fn
     have V5:=zh hv
     have H5:=zh (H4.out.below hb)
     have Y5:=zh (H4.out.mxb hb)
     have X5:=zh (X4.out.trans Y5.out)
     have An_5:=zh ((Y5.out.A _ Nbn.out).trans An.out)
     have Nbn_5:=zh (zC Nbn.out Y5.out.N)
     clear hv hb
     go_wp2_with fail
     have q6:=qwe H5.out σ.N.length [123] (.expr 0) _ V5.out Nbn_5.out
     rw[An_5.out]at q6
     try unfold ptr at q6
     refine q6.mono ?_
     clear q6
     rintro e w6 ⟨v2,rfl,hv,hb⟩
     obtain⟨fK6,fF6,fC6,rfl⟩:=hv.fn
     have V6:=zh hv
     have H6:=zh (H5.out.below hb)
     have Y6:=zh (H5.out.mxb hb)
     have X6:=zh (X5.out.trans Y6.out)
     have v1_6:=zh (Y6.out.isc V5.out)
     have An_6:=zh ((Y6.out.A _ Nbn_5.out).trans An_5.out)
     have Nbn_6:=zh (zC Nbn_5.out Y6.out.N)
     clear hv hb
     go_wp2_with fail
     refine(qbh H6.out _ (by simp) [_] [.box σ.N.length [123] (.expr 0)] 1 rfl (zB HK.out (by decide)) (by decide) _ ⟨V6.out,trivial⟩).mono ?_
     rintro e w7 ⟨rfl,M7,hm,hx⟩
     have H7:=zh hm
     have Y7:=zh hx
     have X7:=zh (X6.out.trans Y7.out)
     have v1_7:=zh (Y7.out.isc v1_6.out)
     have v2_7:=zh (Y7.out.isc V6.out)
     have An_7:=zh ((Y7.out.A _ Nbn_6.out).trans An_6.out)
     have Nbn_7:=zh (zC Nbn_6.out Y7.out.N)
     clear hm hx
     have e9:R=.ok (qib (σ.at_ x.2) (nkt 10 x.1 []) [123] (.expr 0)):=by
      have hr1:=HR1.out;have hs2:=HS2.out;have hr3:=HR3.out;rw[HR.out];try simp[qfa,msE,hr1,hs2,hr3,bind,Except.bind,pure,Except.pure,Except.map]
     subst e9
     go_wp2_with fail
     go_end0
     exact⟨rfl,M7,H7.out,X7.out⟩
   ·have HS2:=zh hs2
    go_wp2_with fail
    have q8:=qcb (σ:=σ.at_ j) H1.out [123]
    rw[show E.sign (pz (σ.at_ j).i) [123]=_ from HS2.out]at q8
    try unfold ptr at q8
    refine q8.mono ?_
    clear q8
    rintro e w8 ⟨rfl,hm,hx⟩
    have H8:=zh hm
    have Y8:=zh hx
    have X8:=zh (X1.out.trans Y8.out)
    clear hm hx
    obtain⟨M9,hm,hx,ha,hl⟩:=H8.out.new0E 8 ⟨#[]⟩
    have An:=zh (show M9.A σ.N.length=_ from ha)
    have Nbn:=zh (show σ.N.length<_ from hl)
    have H9:=zh hm
    have Y9:=zh hx
    have X9:=zh (X8.out.trans Y9.out)
    clear hm hx ha hl
    have V10:=zh ((IsC.pair:IsC (w8.alloc (.cells #[.int .i64 8,.string ⟨#[]⟩,.slice none 0 0,.bool false,.bool false,.slice none 0 0,.slice none 0 0] 29)) (M9.P W0.heap.size) g M9.A M9.B (((σ.at_ j).new (nkt 8 ⟨#[]⟩ []))).N.length (((σ.at_ j).new (nkt 8 ⟨#[]⟩ []))).C.length _ .pair))
    go_wp2_with fail
    have q11:=qwe H9.out σ.N.length [123] .pair _ V10.out Nbn.out
    rw[An.out]at q11
    try unfold ptr at q11
    refine q11.mono ?_
    clear q11
    rintro e w11 ⟨v2,rfl,hv,hb⟩
    obtain⟨fK11,fF11,fC11,rfl⟩:=hv.fn
    have V11:=zh hv
    have H11:=zh (H9.out.below hb)
    have Y11:=zh (H9.out.mxb hb)
    have X11:=zh (X9.out.trans Y11.out)
    have v1_11:=zh (Y11.out.isc V10.out)
    have An_11:=zh ((Y11.out.A _ Nbn.out).trans An.out)
    have Nbn_11:=zh (zC Nbn.out Y11.out.N)
    clear hv hb
    go_wp2_with fail
    refine(qbh H11.out _ (by simp) [_] [.box σ.N.length [123] .pair] 1 rfl (zB HK.out (by decide)) (by decide) _ ⟨V11.out,trivial⟩).mono ?_
    rintro e w12 ⟨rfl,M12,hm,hx⟩
    have H12:=zh hm
    have Y12:=zh hx
    have X12:=zh (X11.out.trans Y12.out)
    have v1_12:=zh (Y12.out.isc v1_11.out)
    have v2_12:=zh (Y12.out.isc V11.out)
    have An_12:=zh ((Y12.out.A _ Nbn_11.out).trans An_11.out)
    have Nbn_12:=zh (zC Nbn_11.out Y12.out.N)
    clear hm hx
    have e9:R=.ok (qib (σ.at_ j) (nk 8 []) [123] .pair):=by
     have hr1:=HR1.out;have hs2:=HS2.out;rw[HR.out];try simp[qfa,msE,hr1,hs2,bind,Except.bind,pure,Except.pure,Except.map]
    subst e9
    go_wp2_with fail
    go_end0
    exact⟨rfl,M12,H12.out,X12.out⟩
theorem qsc(h:MM W0 g s E tv W L σ)(hk:σ.k.length<=274877906944):
 Calls Tryz.prog 83 #[.pointer (some ⟨g,0,none⟩)] W (SO (stp E .guar σ) W0 g s E tv W L σ.N.length σ.C.length):=by
 obtain⟨R,hR⟩: ∃R:Rs PM,R=stp E .guar σ:=⟨_,rfl⟩
 rw[<-hR]
 have HR:=zh hR
 have H0:=zh h
 have X0:=zh (MX.refl W0.heap.size W L σ.N.length σ.C.length)
 have HK:=zh hk
 clear h hR hk
 try unfold ptr
 go_enter Tryz.func83,Tryz.ntmps83
 obtain⟨⟨np1,g5_1,-⟩,gf_1,-⟩:=(H0.out.below (qa1 W (.cells #[.int .i64 24,.string ⟨#[]⟩,.slice none 0 0,.bool false,.bool false,.slice none 0 0,.slice none 0 0] 29))).gcell
 have gf5_1:=gf_1 5
 clear gf_1
 obtain⟨M1,hm,hx⟩:=H0.out.got0 24 ⟨#[]⟩
 have H1:=zh hm
 have Y1:=zh hx
 have X1:=zh (X0.out.trans Y1.out)
 clear hm hx
 go_wp2_with fail
 have q2:=qjf (σ:=σ.got (nk 24 [])) H1.out [119,104,101,110]
 try unfold ptr at q2
 refine q2.mono ?_
 clear q2
 intro e w2 h2
 rcases hr2:sgE E 8 [119,104,101,110] (σ.got (nk 24 [])).i with x9 | ⟨b,j⟩
 ·obtain rfl:=qax (by first | exact qae hr2 | exact qag hr2 | exact qaf hr2)
  rw[hr2]at h2
  replace hr2:sgE E 8 [119,104,101,110] σ.i=_:=hr2
  obtain⟨⟨u,pv,rfl⟩,hb⟩:=h2
  have HB9:=zh hb
  have HR2:=zh hr2
  have e9:R=.error .die:=by
   have hr2:=HR2.out;rw[HR.out];try simp[stp,hr2,bind,Except.bind,pure,Except.pure,Except.map]
  subst e9
  clear hb hr2
  go_wp2_with fail
  exact⟨rfl,⟨_,_,rfl⟩,HB9.out⟩
 ·rw[hr2]at h2
  replace hr2:sgE E 8 [119,104,101,110] σ.i=_:=hr2
  have HR2:=zh hr2
  obtain⟨rfl,hm,hx⟩:=h2
  have H2:=zh hm
  have Y2:=zh hx
  have X2:=zh (X1.out.trans Y2.out)
  clear hm hx hr2
  cases b
  ·obtain rfl:=qdu HR2.out
   have e9:R=.ok (σ.got (nk 24 [])):=by
    have hr2:=HR2.out;rw[HR.out];try simp[stp,hr2,bind,Except.bind,pure,Except.pure,Except.map]
   subst e9
   go_wp2_with fail
   go_end0
   exact⟨rfl,M1,H2.out,X2.out⟩
  ·skip
   go_wp2_with fail
   have q3:=qkj (σ:=(σ.got (nk 24 [])).at_ j) H2.out HK.out
   try unfold ptr at q3
   refine q3.mono ?_
   clear q3
   rintro e w9 ⟨rfl,M9,hm,hx⟩
   have H9:=zh hm
   have X9:=zh (X2.out.trans hx)
   clear hm hx
   have e9:R=.ok (qhb ((σ.got (nk 24 [])).at_ j)):=by
    have hr2:=HR2.out;rw[HR.out];try simp[stp,hr2,bind,Except.bind,pure,Except.pure,Except.map]
   subst e9
   go_wp2_with fail
   go_end0
   exact⟨rfl,M9,H9.out,X9.out⟩
end
section
variable{W0 W:World}{g:Nat}{s:ByteArray}{E:Env}{tv:Value}{L:PLay}{σ:PM}
theorem qvv(h:MM W0 g s E tv W L σ)(hk:σ.k.length<=274877906944)(n:Nat)(b:Bs)(o:Stp)(v1 v2 v3:Value)(hv1:IsC W (L.P W0.heap.size) g L.A L.B σ.N.length σ.C.length v1 (o))(hv2:IsC W (L.P W0.heap.size) g L.A L.B σ.N.length σ.C.length v2 (.into n))(hv3:IsC W (L.P W0.heap.size) g L.A L.B σ.N.length σ.C.length v3 (.more n b o))(k1:Nat)(b1:BoxC W (L.P W0.heap.size) (.pointer (some ⟨k1,0,none⟩)) (ptr g))(k2:Nat)(b2:BoxC W (L.P W0.heap.size) (.pointer (some ⟨k2,0,none⟩)) v1)(k3:Nat)(b3:BoxC W (L.P W0.heap.size) (.pointer (some ⟨k3,0,none⟩)) v2)(k4:Nat)(b4:BoxC W (L.P W0.heap.size) (.pointer (some ⟨k4,0,none⟩)) v3):
 Calls Tryz.prog 109 #[.pointer (some ⟨k1,0,none⟩),.pointer (some ⟨k2,0,none⟩),.pointer (some ⟨k3,0,none⟩),.pointer (some ⟨k4,0,none⟩)] W (SO (stp E (.row n b o) σ) W0 g s E tv W L σ.N.length σ.C.length):=by
 obtain⟨R,hR⟩: ∃R:Rs PM,R=stp E (.row n b o) σ:=⟨_,rfl⟩
 rw[<-hR]
 have HR:=zh hR
 have H0:=zh h
 have X0:=zh (MX.refl W0.heap.size W L σ.N.length σ.C.length)
 have HK:=zh hk
 have B_r:=zh b1
 have cr0:=b1.cellv
 unfold ptr at cr0
 have B_o:=zh b2
 have co0:=b2.cellv
 have B_a:=zh b3
 have ca0:=b3.cellv
 have B_m:=zh b4
 have cm0:=b4.cellv
 obtain⟨fKv1,fFv1,fCv1,rfl⟩:=hv1.fn
 have Vv1:=zh hv1
 clear hv1
 obtain⟨fKv2,fFv2,fCv2,rfl⟩:=hv2.fn
 have Vv2:=zh hv2
 clear hv2
 obtain⟨fKv3,fFv3,fCv3,rfl⟩:=hv3.fn
 have Vv3:=zh hv3
 clear hv3
 clear h hR hk b1 b2 b3 b4
 try unfold ptr
 go_enter Tryz.func109,Tryz.ntmps109
 go_wp2_with fail
 refine(qbh H0.out _ (by simp) [_,_,_] [o,.into n,.more n b o] 3 rfl (zB HK.out (by decide)) (by decide) _ ⟨Vv1.out,⟨Vv2.out,⟨Vv3.out,trivial⟩⟩⟩).mono ?_
 rintro e w1 ⟨rfl,M1,hm,hx⟩
 have H1:=zh hm
 have Y1:=zh hx
 have X1:=zh (X0.out.trans Y1.out)
 have B_r_1:=zh (Y1.out.box B_r.out)
 have cr1:=B_r_1.out.cellv
 unfold ptr at cr1
 have B_o_1:=zh (Y1.out.box B_o.out)
 have co1:=B_o_1.out.cellv
 have B_a_1:=zh (Y1.out.box B_a.out)
 have ca1:=B_a_1.out.cellv
 have B_m_1:=zh (Y1.out.box B_m.out)
 have cm1:=B_m_1.out.cellv
 have v1_1:=zh (Y1.out.isc Vv1.out)
 have v2_1:=zh (Y1.out.isc Vv2.out)
 have v3_1:=zh (Y1.out.isc Vv3.out)
 clear hm hx
 have e9:R=.ok (σ.plan [o,.into n,.more n b o]):=by
  rw[HR.out];try simp[stp,bind,Except.bind,pure,Except.pure,Except.map]
 subst e9
 go_wp2_with fail
 go_end0
 exact⟨rfl,M1,H1.out,X1.out⟩
theorem qsi(h:MM W0 g s E tv W L σ)(hk:σ.k.length<=274877906944)(n:Nat)(b:Bs)(o:Stp)(k1 k2 k3 k4 k5:Nat)(v1 v2:Value)(hv1:IsC W (L.P W0.heap.size) g L.A L.B σ.N.length σ.C.length v1 (o))(hv2:IsC W (L.P W0.heap.size) g L.A L.B σ.N.length σ.C.length v2 (.into n))(hv3:IsC W (L.P W0.heap.size) g L.A L.B σ.N.length σ.C.length (.func (.func 107) #[] #[.pointer (some ⟨k1,0,none⟩),.pointer (some ⟨k2,0,none⟩),.pointer (some ⟨k3,0,none⟩),.pointer (some ⟨k4,0,none⟩),.pointer (some ⟨k5,0,none⟩)]) (.more n b o))(b1:BoxC W (L.P W0.heap.size) (.pointer (some ⟨k1,0,none⟩)) (ptr g))(b2:BoxC W (L.P W0.heap.size) (.pointer (some ⟨k2,0,none⟩)) (.string ⟨b.toArray⟩))(b3:BoxC W (L.P W0.heap.size) (.pointer (some ⟨k3,0,none⟩)) v1)(b4:BoxC W (L.P W0.heap.size) (.pointer (some ⟨k4,0,none⟩)) v2)(b5:BoxC W (L.P W0.heap.size) (.pointer (some ⟨k5,0,none⟩)) (.func (.func 107) #[] #[.pointer (some ⟨k1,0,none⟩),.pointer (some ⟨k2,0,none⟩),.pointer (some ⟨k3,0,none⟩),.pointer (some ⟨k4,0,none⟩),.pointer (some ⟨k5,0,none⟩)])):
 Calls Tryz.prog 107 #[.pointer (some ⟨k1,0,none⟩),.pointer (some ⟨k2,0,none⟩),.pointer (some ⟨k3,0,none⟩),.pointer (some ⟨k4,0,none⟩),.pointer (some ⟨k5,0,none⟩)] W (SO (stp E (.more n b o) σ) W0 g s E tv W L σ.N.length σ.C.length):=by
 obtain⟨R,hR⟩: ∃R:Rs PM,R=stp E (.more n b o) σ:=⟨_,rfl⟩
 rw[<-hR]
 have HR:=zh hR
 have H0:=zh h
 have X0:=zh (MX.refl W0.heap.size W L σ.N.length σ.C.length)
 have HK:=zh hk
 have B_r:=zh b1
 have cr0:=b1.cellv
 unfold ptr at cr0
 have B_b:=zh b2
 have cb0:=b2.cellv
 have B_o:=zh b3
 have co0:=b3.cellv
 have B_a:=zh b4
 have ca0:=b4.cellv
 have B_m:=zh b5
 have cm0:=b5.cellv
 obtain⟨fKv1,fFv1,fCv1,rfl⟩:=hv1.fn
 have Vv1:=zh hv1
 clear hv1
 obtain⟨fKv2,fFv2,fCv2,rfl⟩:=hv2.fn
 have Vv2:=zh hv2
 clear hv2
 have Vv3:=zh hv3
 clear hv3
 clear h hR hk b1 b2 b3 b4 b5
 try unfold ptr
 go_enter Tryz.func107,Tryz.ntmps107
 go_wp2_with fail
 have q1:=qdd H0.out b
 try unfold ptr at q1
 refine q1.mono ?_
 clear q1
 intro e w1 h1
 rcases hr1:sgE E 9 b σ.i with x9 | ⟨b,j⟩
 ·obtain rfl:=qax (by first | exact qae hr1 | exact qag hr1 | exact qaf hr1)
  rw[hr1]at h1
  obtain⟨⟨u,pv,rfl⟩,hb⟩:=h1
  have HB9:=zh hb
  have HR1:=zh hr1
  have e9:R=.error .die:=by
   have hr1:=HR1.out;rw[HR.out];try simp[stp,hr1,bind,Except.bind,pure,Except.pure,Except.map]
  subst e9
  clear hb hr1
  go_wp2_with fail
  exact⟨rfl,⟨_,_,rfl⟩,HB9.out⟩
 ·rw[hr1]at h1
  have HR1:=zh hr1
  obtain⟨rfl,hm,hx⟩:=h1
  have H1:=zh hm
  have Y1:=zh hx
  have X1:=zh (X0.out.trans Y1.out)
  have B_r_1:=zh (Y1.out.box B_r.out)
  have cr1:=B_r_1.out.cellv
  unfold ptr at cr1
  have B_b_1:=zh (Y1.out.box B_b.out)
  have cb1:=B_b_1.out.cellv
  have B_o_1:=zh (Y1.out.box B_o.out)
  have co1:=B_o_1.out.cellv
  have B_a_1:=zh (Y1.out.box B_a.out)
  have ca1:=B_a_1.out.cellv
  have B_m_1:=zh (Y1.out.box B_m.out)
  have cm1:=B_m_1.out.cellv
  have v1_1:=zh (Y1.out.isc Vv1.out)
  have v2_1:=zh (Y1.out.isc Vv2.out)
  have v3_1:=zh (Y1.out.isc Vv3.out)
  clear hm hx hr1
  cases b
  ·obtain rfl:=qdu HR1.out
   have e9:R=.ok (σ):=by
    have hr1:=HR1.out;rw[HR.out];try simp[stp,hr1,bind,Except.bind,pure,Except.pure,Except.map]
   subst e9
   go_wp2_with fail
   go_end0
   exact⟨rfl,L,H1.out,X1.out⟩
  ·skip
   go_wp2_with fail
   refine(qbh H1.out _ (by simp) [_,_,_] [o,.into n,.more n b o] 3 rfl (zB HK.out (by decide)) (by decide) _ ⟨v1_1.out,⟨v2_1.out,⟨v3_1.out,trivial⟩⟩⟩).mono ?_
   rintro e w2 ⟨rfl,M2,hm,hx⟩
   have H2:=zh hm
   have Y2:=zh hx
   have X2:=zh (X1.out.trans Y2.out)
   have B_r_2:=zh (Y2.out.box B_r_1.out)
   have cr2:=B_r_2.out.cellv
   unfold ptr at cr2
   have B_b_2:=zh (Y2.out.box B_b_1.out)
   have cb2:=B_b_2.out.cellv
   have B_o_2:=zh (Y2.out.box B_o_1.out)
   have co2:=B_o_2.out.cellv
   have B_a_2:=zh (Y2.out.box B_a_1.out)
   have ca2:=B_a_2.out.cellv
   have B_m_2:=zh (Y2.out.box B_m_1.out)
   have cm2:=B_m_2.out.cellv
   have v1_2:=zh (Y2.out.isc v1_1.out)
   have v2_2:=zh (Y2.out.isc v2_1.out)
   have v3_2:=zh (Y2.out.isc v3_1.out)
   clear hm hx
   have e9:R=.ok ((σ.at_ j).plan [o,.into n,.more n b o]):=by
    have hr1:=HR1.out;rw[HR.out];try simp[stp,hr1,bind,Except.bind,pure,Except.pure,Except.map]
   subst e9
   go_wp2_with fail
   go_end0
   exact⟨rfl,M2,H2.out,X2.out⟩
theorem qe5{W:World}{P:Nat->Prop}{u:Value}{T:List ByteArray}(h:StIn W P u T): ∃a c,u=.slice a T.length c:=by
 obtain⟨a,c,e,-⟩:=h
 exact⟨a,c,e⟩
theorem qse(h:MM W0 g s E tv W L σ)(hk:σ.k.length<=274877906944)(o:Stp)(v1:Value)(hv1:IsC W (L.P W0.heap.size) g L.A L.B σ.N.length σ.C.length v1 (o))(k1:Nat)(b1:BoxC W (L.P W0.heap.size) (.pointer (some ⟨k1,0,none⟩)) (ptr g))(k2:Nat)(b2:BoxC W (L.P W0.heap.size) (.pointer (some ⟨k2,0,none⟩)) v1):
 Calls Tryz.prog 103 #[.pointer (some ⟨k1,0,none⟩),.pointer (some ⟨k2,0,none⟩)] W (SO (stp E (.item o) σ) W0 g s E tv W L σ.N.length σ.C.length):=by
 obtain⟨R,hR⟩: ∃R:Rs PM,R=stp E (.item o) σ:=⟨_,rfl⟩
 rw[<-hR]
 have HR:=zh hR
 have H0:=zh h
 have X0:=zh (MX.refl W0.heap.size W L σ.N.length σ.C.length)
 have HK:=zh hk
 have B_r:=zh b1
 have cr0:=b1.cellv
 unfold ptr at cr0
 have B_o:=zh b2
 have co0:=b2.cellv
 obtain⟨fKv1,fFv1,fCv1,rfl⟩:=hv1.fn
 have Vv1:=zh hv1
 clear hv1
 clear h hR hk b1 b2
 try unfold ptr
 go_enter Tryz.func103,Tryz.ntmps103
 obtain⟨⟨NT,NP⟩,hnt⟩: ∃x,ntE E σ.i=x:=⟨_,rfl⟩
 have HNT:=zh hnt
 clear hnt
 go_wp2_with fail
 have q1:=qwx H0.out
 rw[HNT.out]at q1
 try unfold ptr at q1
 refine q1.mono ?_
 clear q1
 rintro e w1 ⟨u,rfl,hs,hm,hx⟩
 obtain⟨ua,uc,rfl⟩:=qe5 hs
 have ST:=zh hs
 have H1:=zh hm
 have Y1:=zh hx
 have X1:=zh (X0.out.trans Y1.out)
 have B_r_1:=zh (Y1.out.box B_r.out)
 have cr1:=B_r_1.out.cellv
 unfold ptr at cr1
 have B_o_1:=zh (Y1.out.box B_o.out)
 have co1:=B_o_1.out.cellv
 have v1_1:=zh (Y1.out.isc Vv1.out)
 clear hm hx hs
 have hb:=qa1 w1 (.cells #[.slice ua NT.length uc] 22)
 have B_no:=zh (H1.out.boxT (w1.heap.size) (by simp) (.slice ua NT.length uc) 22)
 have H2:=zh (H1.out.below hb)
 have Y2:=zh (H1.out.mxb hb)
 have X2:=zh (X1.out.trans Y2.out)
 have B_r_2:=zh (Y2.out.box B_r_1.out)
 have cr2:=B_r_2.out.cellv
 unfold ptr at cr2
 have B_o_2:=zh (Y2.out.box B_o_1.out)
 have co2:=B_o_2.out.cellv
 have ST_2:=zh (Y2.out.st ST.out)
 have v1_2:=zh (Y2.out.isc v1_1.out)
 clear hb
 have V3:=zh (IsC.nots (W:=(w1.alloc (.cells #[.slice ua NT.length uc] 22))) (P:=L.P W0.heap.size) (g:=g) (A:=L.A) (B:=L.B) (nN:=σ.N.length) (nC:=σ.C.length) NT _ _ _ B_no.out ST_2.out B_r_2.out)
 go_wp2_with fail
 refine(qbh H2.out _ (by simp) [_,_] [o,.nots NT] 2 rfl (zB HK.out (by decide)) (by decide) _ ⟨v1_2.out,⟨V3.out,trivial⟩⟩).mono ?_
 rintro e w4 ⟨rfl,M4,hm,hx⟩
 have H4:=zh hm
 have Y4:=zh hx
 have X4:=zh (X2.out.trans Y4.out)
 have B_r_4:=zh (Y4.out.box B_r_2.out)
 have cr4:=B_r_4.out.cellv
 unfold ptr at cr4
 have B_o_4:=zh (Y4.out.box B_o_2.out)
 have co4:=B_o_4.out.cellv
 have B_no_4:=zh (Y4.out.box B_no.out)
 have cno4:=B_no_4.out.cellv
 have ST_4:=zh (Y4.out.st ST_2.out)
 have v1_4:=zh (Y4.out.isc v1_2.out)
 have v2_4:=zh (Y4.out.isc V3.out)
 clear hm hx
 have e9:R=.ok ((σ.at_ NP).plan [o,.nots NT]):=by
  have hnt:=HNT.out;rw[HR.out];try simp[stp,hnt,bind,Except.bind,pure,Except.pure,Except.map]
 subst e9
 go_wp2_with fail
 go_end0
 exact⟨rfl,M4,H4.out,X4.out⟩
theorem qo7(h:MM W0 g s E tv W L σ)(hk:σ.k.length<=274877906944)(n:Nat)(k1:Nat)(b1:BoxC W (L.P W0.heap.size) (.pointer (some ⟨k1,0,none⟩)) (ptr g))(k2:Nat)(b2:BoxC W (L.P W0.heap.size) (.pointer (some ⟨k2,0,none⟩)) (ptr (L.A n)))(hns:stp E (.arrow n) σ≠ .error .stuck):
 Calls Tryz.prog 112 #[.pointer (some ⟨k1,0,none⟩),.pointer (some ⟨k2,0,none⟩)] W (SO (stp E (.arrow n) σ) W0 g s E tv W L σ.N.length σ.C.length):=by
 obtain⟨R,hR⟩: ∃R:Rs PM,R=stp E (.arrow n) σ:=⟨_,rfl⟩
 rw[<-hR]at hns⊢
 have HNS:=zh hns
 have HR:=zh hR
 have H0:=zh h
 have X0:=zh (MX.refl W0.heap.size W L σ.N.length σ.C.length)
 have HK:=zh hk
 have B_r:=zh b1
 have cr0:=b1.cellv
 unfold ptr at cr0
 have B_n:=zh b2
 have cn0:=b2.cellv
 unfold ptr at cn0
 clear h hR hk b1 b2 hns
 try unfold ptr
 go_enter Tryz.func112,Tryz.ntmps112
 rcases hnd_n:σ.nd n with b9 | y
 ·obtain rfl:=qe8 hnd_n
  exact absurd (by rw[HR.out];simp[stp,msE,hnd_n,bind,Except.bind]) HNS.out
 have HND_N:=zh hnd_n
 have HX_n:=zh (qgq hnd_n)
 clear hnd_n
 have HCB:Hid (∀ {w':World} {L':PLay} {nN nC:Nat},MX W0.heap.size W L σ.N.length σ.C.length w' L' nN nC->w'.cell? ⟨k1,0,none⟩=some (.pointer (some ⟨g,0,none⟩))/\w'.cell? ⟨k2,0,none⟩=some (.pointer (some ⟨L.A n,0,none⟩))):=zh (fun hx=>⟨hx.cell B_r.out,hx.cell B_n.out⟩)
 go_wp2_with fail
 have q1:=qdd H0.out [45,62]
 try unfold ptr at q1
 refine q1.mono ?_
 clear q1
 intro e w1 h1
 rcases hr1:sgE E 9 [45,62] σ.i with x9 | ⟨b,j⟩
 ·obtain rfl:=qax (by first | exact qae hr1 | exact qag hr1 | exact qaf hr1)
  rw[hr1]at h1
  obtain⟨⟨u,pv,rfl⟩,hb⟩:=h1
  have HB9:=zh hb
  have HR1:=zh hr1
  have e9:R=.error .die:=by
   have hnd_n:=HND_N.out;have hr1:=HR1.out;rw[HR.out];try simp[stp,msE,hnd_n,hr1,bind,Except.bind,pure,Except.pure,Except.map]
  subst e9
  clear hb hr1
  go_wp2_with fail
  exact⟨rfl,⟨_,_,rfl⟩,HB9.out⟩
 ·rw[hr1]at h1
  have HR1:=zh hr1
  obtain⟨rfl,hm,hx⟩:=h1
  have H1:=zh hm
  have Y1:=zh hx
  have X1:=zh (X0.out.trans Y1.out)
  have B_r_1:=zh (Y1.out.box B_r.out)
  have cr1:=B_r_1.out.cellv
  unfold ptr at cr1
  have B_n_1:=zh (Y1.out.box B_n.out)
  have cn1:=B_n_1.out.cellv
  unfold ptr at cn1
  clear hm hx hr1
  cases b
  ·have e9:R=.error .die:=by
    have hnd_n:=HND_N.out;have hr1:=HR1.out;rw[HR.out];try simp[stp,msE,hnd_n,hr1,bind,Except.bind,pure,Except.pure,Except.map]
   subst e9
   go_wp2_with fail
   refine(qat _).mono ?_
   rintro e w9 ⟨⟨u,pv,rfl⟩,rfl⟩
   go_wp2_with fail
   exact⟨rfl,⟨_,_,rfl⟩,H1.out.bel⟩
  ·go_wp2_with fail
   refine(qas _).mono ?_
   rintro e w9 ⟨rfl,rfl⟩
   go_wp2_with fail
   have hb:=zA (Below.refl w1.heap.size w1)
   have H2:=zh (H1.out.below hb)
   have Y2:=zh (H1.out.mxb hb)
   have X2:=zh (X1.out.trans Y2.out)
   have B_r_2:=zh (Y2.out.box B_r_1.out)
   have cr2:=B_r_2.out.cellv
   unfold ptr at cr2
   have B_n_2:=zh (Y2.out.box B_n_1.out)
   have cn2:=B_n_2.out.cellv
   unfold ptr at cn2
   clear hb
   go_region_held3 (fun w'=>w'.cell? ⟨k1,0,none⟩=some (.pointer (some ⟨g,0,none⟩))/\w'.cell? ⟨k2,0,none⟩=some (.pointer (some ⟨L.A n,0,none⟩))) (first | exact HCB.out XS9.out | exact HCB.out X3.out | exact HCB.out X2.out) (first | (go_at_call 113;have q3:=qku (σ:=σ.at_ j) H2.out;try unfold ptr at q3;refine q3.mono ?_;clear q3;rintro e w3 ⟨rfl,hm,hx⟩;have H3:=zh hm;have Y3:=zh hx;have X3:=zh (X2.out.trans Y3.out);have B_r_3:=zh (Y3.out.box B_r_2.out);have cr3:=B_r_3.out.cellv;unfold ptr at cr3;have B_n_3:=zh (Y3.out.box B_n_2.out);have cn3:=B_n_3.out.cellv;unfold ptr at cn3;clear hm hx;obtain⟨ka3,ta3,la3,ra3,qa3,na3,va3,hNd3⟩:=H3.out.ncells HX_n.out;obtain⟨m0_3,m1_3,m2_3,m3_3,m4_3,m5_3,m6_3⟩:=hNd3.cells;have mf3_3:=hNd3.frz 3;clear hNd3;have HS9:=zh (MM.setBrk (σ:=σ.at_ j) H3.out HX_n.out (brE E j));have XS9:=zh (X3.out.trans HS9.out.2)))
   have H9:=zh HS9.out.1
   have e9:R=.ok ((σ.at_ j).set n (y.brk' (brE E j))):=by
    have hnd_n:=HND_N.out;have hr1:=HR1.out;rw[HR.out];try simp[stp,msE,hnd_n,hr1,bind,Except.bind,pure,Except.pure,Except.map]
   subst e9
   go_wp2_with fail
   go_end0
   exact⟨rfl,L,H9.out,XS9.out⟩
end
section
variable{W0 W:World}{g:Nat}{s:ByteArray}{E:Env}{tv:Value}{L:PLay}{σ:PM}
theorem qsk(h:MM W0 g s E tv W L σ)(T:List ByteArray)(ua:Option Addr)(uc:Nat)(hT:StIn W (L.P W0.heap.size) (.slice ua T.length uc) T)(k1:Nat)(b1:BoxC W (L.P W0.heap.size) (.pointer (some ⟨k1,0,none⟩)) (.slice ua T.length uc))(k2:Nat)(b2:BoxC W (L.P W0.heap.size) (.pointer (some ⟨k2,0,none⟩)) (ptr g))(hns:stp E (.nots T) σ≠ .error .stuck):
 Calls Tryz.prog 105 #[.pointer (some ⟨k1,0,none⟩),.pointer (some ⟨k2,0,none⟩)] W (SO (stp E (.nots T) σ) W0 g s E tv W L σ.N.length σ.C.length):=by
 obtain⟨R,hR⟩: ∃R:Rs PM,R=stp E (.nots T) σ:=⟨_,rfl⟩
 rw[<-hR]at hns⊢
 have HNS:=zh hns
 have HR:=zh hR
 have H0:=zh h
 have X0:=zh (MX.refl W0.heap.size W L σ.N.length σ.C.length)
 have B_u:=zh b1
 have cu0:=b1.cellv
 have B_r:=zh b2
 have cr0:=b2.cellv
 unfold ptr at cr0
 have HT:=zh hT
 clear hT
 clear h hR b1 b2 hns
 try unfold ptr
 go_enter Tryz.func105,Tryz.ntmps105
 rcases hcu:σ.cur with b9 | ⟨j,x⟩
 ·obtain rfl:=qcy hcu
  exact absurd (by rw[HR.out];simp[stp,hcu,bind,Except.bind]) HNS.out
 have HCU:=zh hcu
 obtain⟨hn_j,hx_j⟩:=qdp hcu
 have HX_j:=zh hx_j
 have HN_j:=zh hn_j
 clear hcu hn_j hx_j
 obtain⟨ka0,ta0,la0,ra0,qa0,na0,va0,hNd0⟩:=H0.out.ncells HX_j.out
 obtain⟨m0_0,m1_0,m2_0,m3_0,m4_0,m5_0,m6_0⟩:=hNd0.cells
 have mf5_0:=hNd0.frz 5
 clear hNd0
 have g5:=H0.out.gcur HN_j.out
 go_wp2_with fail
 go_region
 all_goals have hs9:=H0.out.setNot HX_j.out T _ HT.out
 all_goals have HS9:=zh (hs9.1.below (zA (Below.refl _ _)))
 all_goals have XS9:=zh (X0.out.trans (hs9.2.trans (hs9.1.mxb (zA (Below.refl _ _)))))
 all_goals clear hs9
 have e9:R=.ok (σ.set j (x.notes' T)):=by
  have hcu:=HCU.out;rw[HR.out];try simp[stp,hcu,bind,Except.bind,pure,Except.pure,Except.map]
 subst e9
 go_wp2_with fail
 go_end0
 exact⟨rfl,L,HS9.out,XS9.out⟩
theorem qs4(h:MM W0 g s E tv W L σ)(bb:Bool)(k1:Nat)(b1:BoxC W (L.P W0.heap.size) (.pointer (some ⟨k1,0,none⟩)) (.bool bb))(k2:Nat)(b2:BoxC W (L.P W0.heap.size) (.pointer (some ⟨k2,0,none⟩)) (ptr g))(hns:stp E (.blnk bb) σ≠ .error .stuck):
 Calls Tryz.prog 77 #[.pointer (some ⟨k1,0,none⟩),.pointer (some ⟨k2,0,none⟩)] W (SO (stp E (.blnk bb) σ) W0 g s E tv W L σ.N.length σ.C.length):=by
 obtain⟨R,hR⟩: ∃R:Rs PM,R=stp E (.blnk bb) σ:=⟨_,rfl⟩
 rw[<-hR]at hns⊢
 have HNS:=zh hns
 have HR:=zh hR
 have H0:=zh h
 have X0:=zh (MX.refl W0.heap.size W L σ.N.length σ.C.length)
 have B_u:=zh b1
 have cu0:=b1.cellv
 have B_r:=zh b2
 have cr0:=b2.cellv
 unfold ptr at cr0
 clear h hR b1 b2 hns
 try unfold ptr
 go_enter Tryz.func77,Tryz.ntmps77
 rcases hcu:σ.cur with b9 | ⟨j,x⟩
 ·obtain rfl:=qcy hcu
  exact absurd (by rw[HR.out];simp[stp,hcu,bind,Except.bind]) HNS.out
 have HCU:=zh hcu
 obtain⟨hn_j,hx_j⟩:=qdp hcu
 have HX_j:=zh hx_j
 have HN_j:=zh hn_j
 clear hcu hn_j hx_j
 obtain⟨ka0,ta0,la0,ra0,qa0,na0,va0,hNd0⟩:=H0.out.ncells HX_j.out
 obtain⟨m0_0,m1_0,m2_0,m3_0,m4_0,m5_0,m6_0⟩:=hNd0.cells
 have mf4_0:=hNd0.frz 4
 clear hNd0
 have g5:=H0.out.gcur HN_j.out
 go_wp2_with fail
 go_region
 all_goals have hs9:=H0.out.setBlk HX_j.out bb
 all_goals have HS9:=zh (hs9.1.below (zA (Below.refl _ _)))
 all_goals have XS9:=zh (X0.out.trans (hs9.2.trans (hs9.1.mxb (zA (Below.refl _ _)))))
 all_goals clear hs9
 have e9:R=.ok (σ.set j (x.blk' bb)):=by
  have hcu:=HCU.out;rw[HR.out];try simp[stp,hcu,bind,Except.bind,pure,Except.pure,Except.map]
 subst e9
 go_wp2_with fail
 go_end0
 exact⟨rfl,L,HS9.out,XS9.out⟩
theorem qkk(h:MM W0 g s E tv W L σ)(hk:σ.k.length<=274877906944)(n:Nat)(k:Int)(t:Bs)(v1:Value)(hv1:IsC W (L.P W0.heap.size) g L.A L.B σ.N.length σ.C.length v1 (.want k t))(k1:Nat)(b1:BoxC W (L.P W0.heap.size) (.pointer (some ⟨k1,0,none⟩)) (ptr g))(k2:Nat)(b2:BoxC W (L.P W0.heap.size) (.pointer (some ⟨k2,0,none⟩)) (ptr (L.A n)))(k3:Nat)(b3:BoxC W (L.P W0.heap.size) (.pointer (some ⟨k3,0,none⟩)) v1)(hns:stp E (.tail n k t) σ≠ .error .stuck):
 Calls Tryz.prog 209 #[.pointer (some ⟨k1,0,none⟩),.pointer (some ⟨k2,0,none⟩),.pointer (some ⟨k3,0,none⟩)] W (SO (stp E (.tail n k t) σ) W0 g s E tv W L σ.N.length σ.C.length):=by
 obtain⟨R,hR⟩: ∃R:Rs PM,R=stp E (.tail n k t) σ:=⟨_,rfl⟩
 rw[<-hR]at hns⊢
 have HNS:=zh hns
 have HR:=zh hR
 have H0:=zh h
 have X0:=zh (MX.refl W0.heap.size W L σ.N.length σ.C.length)
 have HK:=zh hk
 have B_r:=zh b1
 have cr0:=b1.cellv
 unfold ptr at cr0
 have B_n:=zh b2
 have cn0:=b2.cellv
 unfold ptr at cn0
 have B_e:=zh b3
 have ce0:=b3.cellv
 obtain⟨fKv1,fFv1,fCv1,rfl⟩:=hv1.fn
 have Vv1:=zh hv1
 clear hv1
 clear h hR hk b1 b2 b3 hns
 try unfold ptr
 go_enter Tryz.func209,Tryz.ntmps209
 obtain⟨⟨NT,NP⟩,hnt⟩: ∃x,ntE E σ.i=x:=⟨_,rfl⟩
 have HNT:=zh hnt
 clear hnt
 rcases hnd_n:σ.nd n with b9 | y
 ·obtain rfl:=qe8 hnd_n
  exact absurd (by have hnt:=HNT.out;rw[HR.out];simp[stp,qcw,msE,hnt,hnd_n,bind,Except.bind]) HNS.out
 have HND_N:=zh hnd_n
 have HX_n:=zh (qgq hnd_n)
 clear hnd_n
 have HCB:Hid (∀ {w':World} {L':PLay} {nN nC:Nat},MX W0.heap.size W L σ.N.length σ.C.length w' L' nN nC->w'.cell? ⟨k1,0,none⟩=some (.pointer (some ⟨g,0,none⟩))/\w'.cell? ⟨k2,0,none⟩=some (.pointer (some ⟨L.A n,0,none⟩))):=zh (fun hx=>⟨hx.cell B_r.out,hx.cell B_n.out⟩)
 go_wp2_with fail
 have hb:=zA (Below.refl W.heap.size W)
 have H1:=zh (H0.out.below hb)
 have Y1:=zh (H0.out.mxb hb)
 have X1:=zh (X0.out.trans Y1.out)
 have B_r_1:=zh (Y1.out.box B_r.out)
 have cr1:=B_r_1.out.cellv
 unfold ptr at cr1
 have B_n_1:=zh (Y1.out.box B_n.out)
 have cn1:=B_n_1.out.cellv
 unfold ptr at cn1
 have B_e_1:=zh (Y1.out.box B_e.out)
 have ce1:=B_e_1.out.cellv
 have ve_1:=zh (Y1.out.isc Vv1.out)
 clear hb
 go_region_held3 (fun w'=>w'.cell? ⟨k1,0,none⟩=some (.pointer (some ⟨g,0,none⟩))/\w'.cell? ⟨k2,0,none⟩=some (.pointer (some ⟨L.A n,0,none⟩))) (first | exact HCB.out XS9.out | exact HCB.out X2.out | exact HCB.out X1.out) (first | (go_at_call 104;have q2:=qwx H1.out;rw[HNT.out]at q2;try unfold ptr at q2;refine q2.mono ?_;clear q2;rintro e w2 ⟨u,rfl,hs,hm,hx⟩;obtain⟨ua,uc,rfl⟩:=qe5 hs;have ST:=zh hs;have H2:=zh hm;have Y2:=zh hx;have X2:=zh (X1.out.trans Y2.out);have B_r_2:=zh (Y2.out.box B_r_1.out);have cr2:=B_r_2.out.cellv;unfold ptr at cr2;have B_n_2:=zh (Y2.out.box B_n_1.out);have cn2:=B_n_2.out.cellv;unfold ptr at cn2;have B_e_2:=zh (Y2.out.box B_e_1.out);have ce2:=B_e_2.out.cellv;have ve_2:=zh (Y2.out.isc ve_1.out);clear hm hx hs;obtain⟨ka2,ta2,la2,ra2,qa2,na2,va2,hNd2⟩:=H2.out.ncells HX_n.out;obtain⟨m0_2,m1_2,m2_2,m3_2,m4_2,m5_2,m6_2⟩:=hNd2.cells;have mf6_2:=hNd2.frz 6;clear hNd2;have HS9:=zh (MM.setTail (σ:=σ.at_ NP) H2.out HX_n.out NT _ ST.out);have XS9:=zh (X2.out.trans HS9.out.2)))
 have H3:=zh HS9.out.1
 have Y3:=zh HS9.out.2
 have X3:=zh (X2.out.trans Y3.out)
 have B_r_3:=zh (Y3.out.box B_r_2.out)
 have cr3:=B_r_3.out.cellv
 unfold ptr at cr3
 have B_n_3:=zh (Y3.out.box B_n_2.out)
 have cn3:=B_n_3.out.cellv
 unfold ptr at cn3
 have B_e_3:=zh (Y3.out.box B_e_2.out)
 have ce3:=B_e_3.out.cellv
 have ST_3:=zh (Y3.out.st ST.out)
 have ve_3:=zh (Y3.out.isc ve_2.out)
 have hen:=ve_3.out.enter
 go_wp2_with fail
 have q5:=qto HS9.out.1 ve_3.out
 refine q5.mono ?_
 clear q5
 intro e w5 h5
 cases hms:msE E k t NP with
 | error b=>
  have hb:=qz3 hms
  subst hb
  have HMS:=zh hms
  have e8:stp E (.want k t) ((σ.at_ NP).set n (y.tail' NT))=.error .die:=by
   show(do let j<-msE E k t NP;_)=_
   rw[hms];rfl
  rw[e8]at h5
  obtain⟨⟨u,pv,rfl⟩,hb⟩:=h5
  have HB9:=zh hb
  have e9:R=.error .die:=by
   have hnt:=HNT.out;have hnd_n:=HND_N.out;have hms:=HMS.out;rw[HR.out];simp[stp,qcw,hnt,hnd_n,hms,bind,Except.bind]
  subst e9
  clear hb hms e8
  go_wp2_with fail
  exact⟨rfl,⟨_,_,rfl⟩,HB9.out⟩
 | ok j=>
  have HMS:=zh hms
  have e8:stp E (.want k t) ((σ.at_ NP).set n (y.tail' NT))=.ok (((σ.at_ NP).set n (y.tail' NT)).at_ j):=by
   show(do let j<-msE E k t NP;_)=_
   rw[hms];rfl
  rw[e8]at h5
  obtain⟨rfl,M5,hm,hx⟩:=h5
  have e9:R=.ok (((σ.set n (y.tail' NT)).at_ j).is n):=by
   have hnt:=HNT.out;have hnd_n:=HND_N.out;have hms:=HMS.out;rw[HR.out];simp[stp,qcw,hnt,hnd_n,hms,bind,Except.bind]
  subst e9
  have hl:n< ((σ.at_ NP).set n (y.tail' NT)).N.length:=by
   show n< (σ.N.set n _).length
   rw[List.length_set];exact qqg HX_n.out
  have H5:=zh hm
  have X5:=zh (X3.out.trans hx)
  have c1:=(X5.out.cell B_r.out)
  have c2:=(X5.out.cell B_n.out)
  obtain⟨⟨np5,g5,-⟩,gf,-⟩:=H5.out.gcell
  have gf5:=gf 5
  have hA:M5.A n=L.A n:=X5.out.A n (qqg HX_n.out)
  have hs:=hm.setIs (n:=n) (by exact hl)
  rw[hA]at hs
  have HS5:=zh hs
  unfold ptr at c1 c2
  clear hm hx hms e8 hl hs hA gf hen
  go_wp2_with fail
  go_end0
  exact⟨rfl,M5,HS5.out.1,X5.out.trans HS5.out.2⟩
end
end Go.Proofs.YtdhadeeajgoedaaGreat
