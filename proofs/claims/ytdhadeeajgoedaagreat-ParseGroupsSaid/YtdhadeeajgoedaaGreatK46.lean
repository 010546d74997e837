/-
  What the claims stand on: PmStepJ.
-/
import Derived.Test.YtdhadeeajgoedaaGreatK43
set_option maxRecDepth 100000
set_option maxHeartbeats 4000000
set_option linter.unusedVariables false
set_option linter.unusedSimpArgs false
open Nat renaming le_trans→zA
namespace Go.Proofs.YtdhadeeajgoedaaGreat
open Go.RowKit Go.PlainAid
section
variable{W0 W:World}{g:Nat}{s:ByteArray}{E:Env}{tv:Value}{L:PLay}{σ:PM}
theorem funM(h:MM W0 g s E tv W L σ)(hk:σ.k.length<=274877906944):
 Calls Tryz.prog 170 #[.pointer (some ⟨g,0,none⟩)] W (SO (funE E σ) W0 g s E tv W L σ.N.length σ.C.length):=by
 obtain⟨R,hR⟩: ∃R:Rs PM,R=funE E σ:=⟨_,rfl⟩
 rw[<-hR]
 have HR:=zh hR
 have H0:=zh h
 have X0:=zh (MX.refl W0.heap.size W L σ.N.length σ.C.length)
 have HK:=zh hk
 clear h hR hk
 try unfold ptr
 go_enter Tryz.func170,Tryz.ntmps170
 go_wp2_with fail
 have q1:=qi6 H0.out [102,117,110]
 try unfold ptr at q1
 refine q1.mono ?_
 clear q1
 intro e w1 h1
 rcases hr1:sgE E 8 [102,117,110] σ.i with x9 | ⟨b,j⟩
 ·obtain rfl:=qaw (by first | exact qae hr1 | exact qag hr1 | exact qaf hr1)
  rw[hr1]at h1
  obtain⟨⟨u,pv,rfl⟩,hb⟩:=h1
  have HB9:=zh hb
  have HR1:=zh hr1
  have e9:R=.error .die:=by
   have hr1:=HR1.out;rw[HR.out];try simp[funE,msE,qab,qa9,hr1,bind,Except.bind,pure,Except.pure,Except.map]
  subst e9
  clear hb hr1
  go_wp2_with fail
  exact⟨rfl,⟨_,_,rfl⟩,HB9.out⟩
 ·rw[hr1]at h1
  have HR1:=zh hr1
  obtain⟨rfl,hm,hx⟩:=h1
  have H1:=zh hm
  have Y1:=zh hx
  have X1:=zh (X0.out.trans Y1.out)
  clear hm hx hr1
  cases b
  ·have e9:R=.error .die:=by
    have hr1:=HR1.out;rw[HR.out];try simp[funE,msE,qab,qa9,hr1,bind,Except.bind,pure,Except.pure,Except.map]
   subst e9
   go_wp2_with fail
   refine(qaq _).mono ?_
   rintro e w9 ⟨⟨u,pv,rfl⟩,rfl⟩
   go_wp2_with fail
   exact⟨rfl,⟨_,_,rfl⟩,H1.out.bel⟩
  ·go_wp2_with fail
   refine(qap _).mono ?_
   rintro e w9 ⟨rfl,rfl⟩
   cases hs2:E.sign (pz j) [40]
   ·have HS2:=zh hs2
    go_wp2_with fail
    have q2:=qc2 (σ:=(σ.at_ j)) H1.out [40]
    rw[show E.sign (pz (σ.at_ j).i) [40]=_ from HS2.out]at q2
    try unfold ptr at q2
    refine q2.mono ?_
    clear q2
    rintro e w2 ⟨rfl,hm,hx⟩
    have H2:=zh hm
    have Y2:=zh hx
    have X2:=zh (X1.out.trans Y2.out)
    clear hm hx
    obtain⟨-,-,g29⟩:=H2.out.gcell
    have g2':w2.cell? ⟨g,2,none⟩=some (.int .i64 (j:Int)):=g29
    clear g29
    go_wp2_with fail
    have q3:=qnz (σ:=(σ.at_ j)) H2.out
    try unfold ptr at q3
    refine q3.mono ?_
    clear q3
    intro e w3 h3
    rcases hr3:txE E nmk (σ.at_ j).i with x9 | x2
    ·obtain rfl:=qaw (by first | exact qae hr3 | exact qag hr3 | exact qaf hr3)
     rw[hr3]at h3
     replace hr3:txE E nmk j=_:=hr3
     obtain⟨⟨u,pv,rfl⟩,hb⟩:=h3
     have HB9:=zh hb
     have HR3:=zh hr3
     have e9:R=.error .die:=by
      have hr1:=HR1.out;have hs2:=HS2.out;have hr3:=HR3.out;rw[HR.out];try simp[funE,msE,qab,qa9,hr1,hs2,hr3,bind,Except.bind,pure,Except.pure,Except.map]
     subst e9
     clear hb hr3
     go_wp2_with fail
     exact⟨rfl,⟨_,_,rfl⟩,HB9.out⟩
    ·rw[hr3]at h3
     replace hr3:txE E nmk j=_:=hr3
     have HR3:=zh hr3
     obtain⟨rfl,hm,hx⟩:=h3
     have H3:=zh hm
     have Y3:=zh hx
     have X3:=zh (X2.out.trans Y3.out)
     clear hm hx hr3
     go_wp2_with fail
     have q4:=qd1 (σ:=(σ.at_ x2.2)) H3.out [58]
     try unfold ptr at q4
     refine q4.mono ?_
     clear q4
     intro e w4 h4
     rcases hr4:sgE E 9 [58] (σ.at_ x2.2).i with x9 | ⟨b,j3⟩
     ·obtain rfl:=qaw (by first | exact qae hr4 | exact qag hr4 | exact qaf hr4)
      rw[hr4]at h4
      replace hr4:sgE E 9 [58] x2.2=_:=hr4
      obtain⟨⟨u,pv,rfl⟩,hb⟩:=h4
      have HB9:=zh hb
      have HR4:=zh hr4
      have e9:R=.error .die:=by
       have hr1:=HR1.out;have hs2:=HS2.out;have hr3:=HR3.out;have hr4:=HR4.out;rw[HR.out];try simp[funE,msE,qab,qa9,hr1,hs2,hr3,hr4,bind,Except.bind,pure,Except.pure,Except.map]
      subst e9
      clear hb hr4
      go_wp2_with fail
      exact⟨rfl,⟨_,_,rfl⟩,HB9.out⟩
     ·rw[hr4]at h4
      replace hr4:sgE E 9 [58] x2.2=_:=hr4
      have HR4:=zh hr4
      obtain⟨rfl,hm,hx⟩:=h4
      have H4:=zh hm
      have Y4:=zh hx
      have X4:=zh (X3.out.trans Y4.out)
      clear hm hx hr4
      cases b
      ·obtain rfl:=qdj HR4.out
       go_wp2_with fail
       have q5:=qd1 (σ:=(σ.at_ x2.2)) H4.out [47]
       try unfold ptr at q5
       refine q5.mono ?_
       clear q5
       intro e w5 h5
       rcases hr5:sgE E 9 [47] (σ.at_ x2.2).i with x9 | ⟨b,j4⟩
       ·obtain rfl:=qaw (by first | exact qae hr5 | exact qag hr5 | exact qaf hr5)
        rw[hr5]at h5
        replace hr5:sgE E 9 [47] x2.2=_:=hr5
        obtain⟨⟨u,pv,rfl⟩,hb⟩:=h5
        have HB9:=zh hb
        have HR5:=zh hr5
        have e9:R=.error .die:=by
         have hr1:=HR1.out;have hs2:=HS2.out;have hr3:=HR3.out;have hr4:=HR4.out;have hr5:=HR5.out;rw[HR.out];try simp[funE,msE,qab,qa9,hr1,hs2,hr3,hr4,hr5,bind,Except.bind,pure,Except.pure,Except.map]
        subst e9
        clear hb hr5
        go_wp2_with fail
        exact⟨rfl,⟨_,_,rfl⟩,HB9.out⟩
       ·rw[hr5]at h5
        replace hr5:sgE E 9 [47] x2.2=_:=hr5
        have HR5:=zh hr5
        obtain⟨rfl,hm,hx⟩:=h5
        have H5:=zh hm
        have Y5:=zh hx
        have X5:=zh (X4.out.trans Y5.out)
        clear hm hx hr5
        cases b
        ·have e9:R=.error .die:=by
          have hr1:=HR1.out;have hs2:=HS2.out;have hr3:=HR3.out;have hr4:=HR4.out;have hr5:=HR5.out;rw[HR.out];try simp[funE,msE,qab,qa9,hr1,hs2,hr3,hr4,hr5,bind,Except.bind,pure,Except.pure,Except.map]
         subst e9
         go_wp2_with fail
         refine(qaq _).mono ?_
         rintro e w9 ⟨⟨u,pv,rfl⟩,rfl⟩
         go_wp2_with fail
         exact⟨rfl,⟨_,_,rfl⟩,H5.out.bel⟩
        ·go_wp2_with fail
         refine(qap _).mono ?_
         rintro e w9 ⟨rfl,rfl⟩
         go_wp2_with fail
         have q6:=qjb (σ:=(σ.at_ j4)) H5.out
         try unfold ptr at q6
         refine q6.mono ?_
         clear q6
         intro e w6 h6
         rcases hr6:txE E szk (σ.at_ j4).i with x9 | x5
         ·obtain rfl:=qaw (by first | exact qae hr6 | exact qag hr6 | exact qaf hr6)
          rw[hr6]at h6
          replace hr6:txE E szk j4=_:=hr6
          obtain⟨⟨u,pv,rfl⟩,hb⟩:=h6
          have HB9:=zh hb
          have HR6:=zh hr6
          have e9:R=.error .die:=by
           have hr1:=HR1.out;have hs2:=HS2.out;have hr3:=HR3.out;have hr4:=HR4.out;have hr5:=HR5.out;have hr6:=HR6.out;rw[HR.out];try simp[funE,msE,qab,qa9,hr1,hs2,hr3,hr4,hr5,hr6,bind,Except.bind,pure,Except.pure,Except.map]
          subst e9
          clear hb hr6
          go_wp2_with fail
          exact⟨rfl,⟨_,_,rfl⟩,HB9.out⟩
         ·rw[hr6]at h6
          replace hr6:txE E szk j4=_:=hr6
          have HR6:=zh hr6
          obtain⟨rfl,hm,hx⟩:=h6
          have H6:=zh hm
          have Y6:=zh hx
          have X6:=zh (X5.out.trans Y6.out)
          clear hm hx hr6
          go_wp2_with fail
          have hf9:j<=x5.2:=zA (qdx HR3.out) (zA (qhb HR5.out) (qdx HR6.out))
          have q7:=qhc (σ:=(σ.at_ x5.2)) H6.out j x5.2 rfl hf9
          try unfold ptr at q7
          refine q7.mono ?_
          clear q7 hf9
          rintro e w7 ⟨rfl,hb⟩
          have H7:=zh (MM.below (σ:=(σ.at_ x5.2)) H6.out hb)
          have Y7:=zh (MM.mxb (σ:=(σ.at_ x5.2)) H6.out hb)
          have X7:=zh (X6.out.trans Y7.out)
          clear hb
          obtain⟨⟨np8,g5_8,-⟩,gf_8,-⟩:=(H7.out.below (qa1 w7 (.cells #[.int .i64 16,.string (scE E (x5.2-j) j),.slice none 0 0,.bool false,.bool false,.slice none 0 0,.slice none 0 0] 29))).gcell
          have gf5_8:=gf_8 5
          clear gf_8
          obtain⟨M8,hm,hx⟩:=H7.out.got0 16 (scE E (x5.2-j) j)
          have H8:=zh hm
          have Y8:=zh hx
          have X8:=zh (X7.out.trans Y8.out)
          clear hm hx
          have e9:R=.ok ((σ.at_ x5.2).got (nkt 16 (scE E (x5.2-j) j) [])):=by
           have hr1:=HR1.out;have hs2:=HS2.out;have hr3:=HR3.out;have hr4:=HR4.out;have hr5:=HR5.out;have hr6:=HR6.out;rw[HR.out];try simp[funE,msE,qab,qa9,hr1,hs2,hr3,hr4,hr5,hr6,bind,Except.bind,pure,Except.pure,Except.map]
          subst e9
          go_wp2_with fail
          go_end0
          exact⟨rfl,M8,H8.out,X8.out⟩
      ·skip
       go_wp2_with fail
       have q9:=qnz (σ:=(σ.at_ j3)) H4.out
       try unfold ptr at q9
       refine q9.mono ?_
       clear q9
       intro e w9 h9
       rcases hr9:txE E nmk (σ.at_ j3).i with x9 | x4
       ·obtain rfl:=qaw (by first | exact qae hr9 | exact qag hr9 | exact qaf hr9)
        rw[hr9]at h9
        replace hr9:txE E nmk j3=_:=hr9
        obtain⟨⟨u,pv,rfl⟩,hb⟩:=h9
        have HB9:=zh hb
        have HR9:=zh hr9
        have e9:R=.error .die:=by
         have hr1:=HR1.out;have hs2:=HS2.out;have hr3:=HR3.out;have hr4:=HR4.out;have hr9:=HR9.out;rw[HR.out];try simp[funE,msE,qab,qa9,hr1,hs2,hr3,hr4,hr9,bind,Except.bind,pure,Except.pure,Except.map]
        subst e9
        clear hb hr9
        go_wp2_with fail
        exact⟨rfl,⟨_,_,rfl⟩,HB9.out⟩
       ·rw[hr9]at h9
        replace hr9:txE E nmk j3=_:=hr9
        have HR9:=zh hr9
        obtain⟨rfl,hm,hx⟩:=h9
        have H9:=zh hm
        have Y9:=zh hx
        have X9:=zh (X4.out.trans Y9.out)
        clear hm hx hr9
        go_wp2_with fail
        have q10:=qd1 (σ:=(σ.at_ x4.2)) H9.out [47]
        try unfold ptr at q10
        refine q10.mono ?_
        clear q10
        intro e w10 h10
        rcases hr10:sgE E 9 [47] (σ.at_ x4.2).i with x9 | ⟨b,j4⟩
        ·obtain rfl:=qaw (by first | exact qae hr10 | exact qag hr10 | exact qaf hr10)
         rw[hr10]at h10
         replace hr10:sgE E 9 [47] x4.2=_:=hr10
         obtain⟨⟨u,pv,rfl⟩,hb⟩:=h10
         have HB9:=zh hb
         have HR10:=zh hr10
         have e9:R=.error .die:=by
          have hr1:=HR1.out;have hs2:=HS2.out;have hr3:=HR3.out;have hr4:=HR4.out;have hr9:=HR9.out;have hr10:=HR10.out;rw[HR.out];try simp[funE,msE,qab,qa9,hr1,hs2,hr3,hr4,hr9,hr10,bind,Except.bind,pure,Except.pure,Except.map]
         subst e9
         clear hb hr10
         go_wp2_with fail
         exact⟨rfl,⟨_,_,rfl⟩,HB9.out⟩
        ·rw[hr10]at h10
         replace hr10:sgE E 9 [47] x4.2=_:=hr10
         have HR10:=zh hr10
         obtain⟨rfl,hm,hx⟩:=h10
         have H10:=zh hm
         have Y10:=zh hx
         have X10:=zh (X9.out.trans Y10.out)
         clear hm hx hr10
         cases b
         ·have e9:R=.error .die:=by
           have hr1:=HR1.out;have hs2:=HS2.out;have hr3:=HR3.out;have hr4:=HR4.out;have hr9:=HR9.out;have hr10:=HR10.out;rw[HR.out];try simp[funE,msE,qab,qa9,hr1,hs2,hr3,hr4,hr9,hr10,bind,Except.bind,pure,Except.pure,Except.map]
          subst e9
          go_wp2_with fail
          refine(qaq _).mono ?_
          rintro e w9 ⟨⟨u,pv,rfl⟩,rfl⟩
          go_wp2_with fail
          exact⟨rfl,⟨_,_,rfl⟩,H10.out.bel⟩
         ·go_wp2_with fail
          refine(qap _).mono ?_
          rintro e w9 ⟨rfl,rfl⟩
          go_wp2_with fail
          have q11:=qjb (σ:=(σ.at_ j4)) H10.out
          try unfold ptr at q11
          refine q11.mono ?_
          clear q11
          intro e w11 h11
          rcases hr11:txE E szk (σ.at_ j4).i with x9 | x5
          ·obtain rfl:=qaw (by first | exact qae hr11 | exact qag hr11 | exact qaf hr11)
           rw[hr11]at h11
           replace hr11:txE E szk j4=_:=hr11
           obtain⟨⟨u,pv,rfl⟩,hb⟩:=h11
           have HB9:=zh hb
           have HR11:=zh hr11
           have e9:R=.error .die:=by
            have hr1:=HR1.out;have hs2:=HS2.out;have hr3:=HR3.out;have hr4:=HR4.out;have hr9:=HR9.out;have hr10:=HR10.out;have hr11:=HR11.out;rw[HR.out];try simp[funE,msE,qab,qa9,hr1,hs2,hr3,hr4,hr9,hr10,hr11,bind,Except.bind,pure,Except.pure,Except.map]
           subst e9
           clear hb hr11
           go_wp2_with fail
           exact⟨rfl,⟨_,_,rfl⟩,HB9.out⟩
          ·rw[hr11]at h11
           replace hr11:txE E szk j4=_:=hr11
           have HR11:=zh hr11
           obtain⟨rfl,hm,hx⟩:=h11
           have H11:=zh hm
           have Y11:=zh hx
           have X11:=zh (X10.out.trans Y11.out)
           clear hm hx hr11
           go_wp2_with fail
           have hf9:j<=x5.2:=zA (zA (qdx HR3.out) (zA (qhb HR4.out) (qdx HR9.out))) (zA (qhb HR10.out) (qdx HR11.out))
           have q12:=qhc (σ:=(σ.at_ x5.2)) H11.out j x5.2 rfl hf9
           try unfold ptr at q12
           refine q12.mono ?_
           clear q12 hf9
           rintro e w12 ⟨rfl,hb⟩
           have H12:=zh (MM.below (σ:=(σ.at_ x5.2)) H11.out hb)
           have Y12:=zh (MM.mxb (σ:=(σ.at_ x5.2)) H11.out hb)
           have X12:=zh (X11.out.trans Y12.out)
           clear hb
           obtain⟨⟨np13,g5_13,-⟩,gf_13,-⟩:=(H12.out.below (qa1 w12 (.cells #[.int .i64 16,.string (scE E (x5.2-j) j),.slice none 0 0,.bool false,.bool false,.slice none 0 0,.slice none 0 0] 29))).gcell
           have gf5_13:=gf_13 5
           clear gf_13
           obtain⟨M13,hm,hx⟩:=H12.out.got0 16 (scE E (x5.2-j) j)
           have H13:=zh hm
           have Y13:=zh hx
           have X13:=zh (X12.out.trans Y13.out)
           clear hm hx
           have e9:R=.ok ((σ.at_ x5.2).got (nkt 16 (scE E (x5.2-j) j) [])):=by
            have hr1:=HR1.out;have hs2:=HS2.out;have hr3:=HR3.out;have hr4:=HR4.out;have hr9:=HR9.out;have hr10:=HR10.out;have hr11:=HR11.out;rw[HR.out];try simp[funE,msE,qab,qa9,hr1,hs2,hr3,hr4,hr9,hr10,hr11,bind,Except.bind,pure,Except.pure,Except.map]
           subst e9
           go_wp2_with fail
           go_end0
           exact⟨rfl,M13,H13.out,X13.out⟩
   ·have HS2:=zh hs2
    go_wp2_with fail
    have q14:=qc2 (σ:=(σ.at_ j)) H1.out [40]
    rw[show E.sign (pz (σ.at_ j).i) [40]=_ from HS2.out]at q14
    try unfold ptr at q14
    refine q14.mono ?_
    clear q14
    rintro e w14 ⟨rfl,hm,hx⟩
    have H14:=zh hm
    have Y14:=zh hx
    have X14:=zh (X1.out.trans Y14.out)
    clear hm hx
    cases hs3:(E.pk j==j)
    ·have HS3:=zh hs3
     go_wp2_with fail
     have q15:=nearM (σ:=(σ.at_ j)) H14.out
     rw[show(E.pk (σ.at_ j).i==(σ.at_ j).i)=_ from HS3.out]at q15
     try unfold ptr at q15
     refine q15.mono ?_
     clear q15
     rintro e w15 ⟨rfl,hm,hx⟩
     have H15:=zh hm
     have Y15:=zh hx
     have X15:=zh (X14.out.trans Y15.out)
     clear hm hx
     have hne:E.pk j≠j:=by have:=HS3.out;simpa using this
     have HNE:=zh hne
     clear hne
     have e9:R=.error .die:=by
      have hr1:=HR1.out;have hs2:=HS2.out;have hs3:=HS3.out;have hne:=HNE.out;rw[HR.out];try simp[funE,msE,qab,qa9,hr1,hs2,hs3,hne,bind,Except.bind,pure,Except.pure,Except.map]
     subst e9
     go_wp2_with fail
     refine(qaq _).mono ?_
     rintro e w9 ⟨⟨u,pv,rfl⟩,rfl⟩
     go_wp2_with fail
     exact⟨rfl,⟨_,_,rfl⟩,H15.out.bel⟩
    ·have HS3:=zh hs3
     go_wp2_with fail
     have q16:=nearM (σ:=(σ.at_ j)) H14.out
     rw[show(E.pk (σ.at_ j).i==(σ.at_ j).i)=_ from HS3.out]at q16
     try unfold ptr at q16
     refine q16.mono ?_
     clear q16
     rintro e w16 ⟨rfl,hm,hx⟩
     have H16:=zh hm
     have Y16:=zh hx
     have X16:=zh (X14.out.trans Y16.out)
     clear hm hx
     have hne:E.pk j=j:=by have:=HS3.out;simpa using this
     have HNE:=zh hne
     clear hne
     go_wp2_with fail
     refine(qap _).mono ?_
     rintro e w9 ⟨rfl,rfl⟩
     obtain⟨M17,hm,hx,ha,hl⟩:=H16.out.new0E 17 ⟨#[]⟩
     have An:=zh (show M17.A σ.N.length=_ from ha)
     have Nbn:=zh (show σ.N.length<_ from hl)
     have H17:=zh hm
     have Y17:=zh hx
     have X17:=zh (X16.out.trans Y17.out)
     clear hm hx ha hl
     have V18:=zh ((IsC.funC:IsC (w16.alloc (.cells #[.int .i64 17,.string ⟨#[]⟩,.slice none 0 0,.bool false,.bool false,.slice none 0 0,.slice none 0 0] 29)) (M17.P W0.heap.size) g M17.A M17.B (((σ.at_ j).new (nkt 17 ⟨#[]⟩ []))).N.length (((σ.at_ j).new (nkt 17 ⟨#[]⟩ []))).C.length _ .funC))
     go_wp2_with fail
     have q19:=qf9 H17.out σ.N.length .funC _ V18.out Nbn.out
     rw[An.out]at q19
     try unfold ptr at q19
     refine q19.mono ?_
     clear q19
     rintro e w19 ⟨v5,rfl,hv,hb⟩
     obtain⟨fK19,fF19,fC19,rfl⟩:=hv.fn
     have V19:=zh hv
     have H19:=zh (H17.out.below hb)
     have Y19:=zh (H17.out.mxb hb)
     have X19:=zh (X17.out.trans Y19.out)
     have v4_19:=zh (Y19.out.isc V18.out)
     have An_19:=zh ((Y19.out.A _ Nbn.out).trans An.out)
     have Nbn_19:=zh (Nat.lt_of_lt_of_le Nbn.out Y19.out.N)
     clear hv hb
     go_wp2_with fail
     have q20:=qif H19.out σ.N.length Nbn_19.out
     rw[An_19.out]at q20
     try unfold ptr at q20
     refine q20.mono ?_
     clear q20
     rintro e w20 ⟨v6,rfl,hv,hb⟩
     obtain⟨fK20,fF20,fC20,rfl⟩:=hv.fn
     have V20:=zh hv
     have H20:=zh (H19.out.below hb)
     have Y20:=zh (H19.out.mxb hb)
     have X20:=zh (X19.out.trans Y20.out)
     have v4_20:=zh (Y20.out.isc v4_19.out)
     have v5_20:=zh (Y20.out.isc V19.out)
     have An_20:=zh ((Y20.out.A _ Nbn_19.out).trans An_19.out)
     have Nbn_20:=zh (Nat.lt_of_lt_of_le Nbn_19.out Y20.out.N)
     clear hv hb
     go_wp2_with fail
     refine(qbd H20.out _ (by simp) [_,_] [qab σ.N.length .funC,qa9 σ.N.length] 2 rfl (zA HK.out (by decide)) (by decide) _ ⟨v5_20.out,⟨V20.out,trivial⟩⟩).mono ?_
     rintro e w21 ⟨rfl,M21,hm,hx⟩
     have H21:=zh hm
     have Y21:=zh hx
     have X21:=zh (X20.out.trans Y21.out)
     have v4_21:=zh (Y21.out.isc v4_20.out)
     have v5_21:=zh (Y21.out.isc v5_20.out)
     have v6_21:=zh (Y21.out.isc V20.out)
     have An_21:=zh ((Y21.out.A _ Nbn_20.out).trans An_20.out)
     have Nbn_21:=zh (Nat.lt_of_lt_of_le Nbn_20.out Y21.out.N)
     clear hm hx
     have e9:R=.ok (((σ.at_ j).new (nk 17 [])).plan [qab σ.N.length .funC,qa9 σ.N.length]):=by
      have hr1:=HR1.out;have hs2:=HS2.out;have hs3:=HS3.out;have hne:=HNE.out;rw[HR.out];try simp[funE,msE,qab,qa9,hr1,hs2,hs3,hne,bind,Except.bind,pure,Except.pure,Except.map]
     subst e9
     go_wp2_with fail
     go_end0
     exact⟨rfl,M21,H21.out,X21.out⟩
end
end Go.Proofs.YtdhadeeajgoedaaGreat
