import Derived.Test.YtdhadeeajgoedaaGreatL38
set_option maxRecDepth 100000
set_option maxHeartbeats 4000000
set_option linter.all false
open Go.RowKit.Below renaming drew→zA,heap_setCell→zB
open List renaming getElem?_cons_zero→zC,length_set→zD,setIfInBounds_toArray→zE,set_cons_succ→zF,set_cons_zero→zG
open Nat renaming le_refl→zH,le_trans→zI,lt_of_lt_of_le→zJ
open Go.World renaming block_lt_of_cell?→zK,cell?_of_block→zL
namespace Go.Proofs.YtdhadeeajgoedaaGreat
open Go.RowKit Go.PlainAid
section
variable{W0 W:World}{g:Nat}{s:ByteArray}{E:Env}{tv:Value}{L:PLay}{σ:PM}
theorem funM(h:MM W0 g s E tv W L σ)(hk:σ.k.length<=274877906944):
 Calls Tryz.prog 170 #[.pointer (some ⟨g,0,none⟩)] W (SO (qfm E σ) W0 g s E tv W L σ.N.length σ.C.length):=by
 obtain⟨R,hR⟩: ∃R:Rs PM,R=qfm E σ:=⟨_,rfl⟩
 rw[<-hR]
 have HR:=zh hR
 have H0:=zh h
 have X0:=zh (MX.refl W0.heap.size W L σ.N.length σ.C.length)
 have HK:=zh hk
 clear h hR hk
 try unfold ptr
 go_enter Tryz.func170,Tryz.ntmps170
 go_wp2_with fail
 have q1:=qjf H0.out [102,117,110]
 try unfold ptr at q1
 refine q1.mono ?_
 clear q1
 intro e w1 h1
 rcases hr1:sgE E 8 [102,117,110] σ.i with x9 | ⟨b,j⟩
 ·obtain rfl:=qax (by first | exact qae hr1 | exact qag hr1 | exact qaf hr1)
  rw[hr1]at h1
  obtain⟨⟨u,pv,rfl⟩,hb⟩:=h1
  have HB9:=zh hb
  have HR1:=zh hr1
  have e9:R=.error .die:=by
   have hr1:=HR1.out;rw[HR.out];try simp[qfm,msE,qac,qa8,hr1,bind,Except.bind,pure,Except.pure,Except.map]
  subst e9
  clear hb hr1
  go_wp2_with fail
  exact⟨rfl,⟨_,_,rfl⟩,HB9.out⟩
 ·rw[hr1]at h1
  have HR1:=zh hr1
  obtain⟨rfl,hm,hx⟩:=h1
  have H1:=zh hm
  have Y1:=zh hx
  have X1:=zh (X0.out.trans Y1.out)
  clear hm hx hr1
  cases b
  ·have e9:R=.error .die:=by
    have hr1:=HR1.out;rw[HR.out];try simp[qfm,msE,qac,qa8,hr1,bind,Except.bind,pure,Except.pure,Except.map]
   subst e9
   go_wp2_with fail
   refine(qat _).mono ?_
   rintro e w9 ⟨⟨u,pv,rfl⟩,rfl⟩
   go_wp2_with fail
   exact⟨rfl,⟨_,_,rfl⟩,H1.out.bel⟩
  ·go_wp2_with fail
   refine(qas _).mono ?_
   rintro e w9 ⟨rfl,rfl⟩
   cases hs2:E.sign (pz j) [40]
   ·have HS2:=zh hs2
    go_wp2_with fail
    have q2:=qcb (σ:=(σ.at_ j)) H1.out [40]
    rw[show E.sign (pz (σ.at_ j).i) [40]=_ from HS2.out]at q2
    try unfold ptr at q2
    refine q2.mono ?_
    clear q2
    rintro e w2 ⟨rfl,hm,hx⟩
    have H2:=zh hm
    have Y2:=zh hx
    have X2:=zh (X1.out.trans Y2.out)
    clear hm hx
    obtain⟨-,-,g29⟩:=H2.out.gcell
    have g2':w2.cell? ⟨g,2,none⟩=some (.int .i64 (j:Int)):=g29
    clear g29
    go_wp2_with fail
    have q3:=qqe (σ:=(σ.at_ j)) H2.out
    try unfold ptr at q3
    refine q3.mono ?_
    clear q3
    intro e w3 h3
    rcases hr3:txE E nmk (σ.at_ j).i with x9 | x2
    ·obtain rfl:=qax (by first | exact qae hr3 | exact qag hr3 | exact qaf hr3)
     rw[hr3]at h3
     replace hr3:txE E nmk j=_:=hr3
     obtain⟨⟨u,pv,rfl⟩,hb⟩:=h3
     have HB9:=zh hb
     have HR3:=zh hr3
     have e9:R=.error .die:=by
      have hr1:=HR1.out;have hs2:=HS2.out;have hr3:=HR3.out;rw[HR.out];try simp[qfm,msE,qac,qa8,hr1,hs2,hr3,bind,Except.bind,pure,Except.pure,Except.map]
     subst e9
     clear hb hr3
     go_wp2_with fail
     exact⟨rfl,⟨_,_,rfl⟩,HB9.out⟩
    ·rw[hr3]at h3
     replace hr3:txE E nmk j=_:=hr3
     have HR3:=zh hr3
     obtain⟨rfl,hm,hx⟩:=h3
     have H3:=zh hm
     have Y3:=zh hx
     have X3:=zh (X2.out.trans Y3.out)
     clear hm hx hr3
     go_wp2_with fail
     have q4:=qdd (σ:=(σ.at_ x2.2)) H3.out [58]
     try unfold ptr at q4
     refine q4.mono ?_
     clear q4
     intro e w4 h4
     rcases hr4:sgE E 9 [58] (σ.at_ x2.2).i with x9 | ⟨b,j3⟩
     ·obtain rfl:=qax (by first | exact qae hr4 | exact qag hr4 | exact qaf hr4)
      rw[hr4]at h4
      replace hr4:sgE E 9 [58] x2.2=_:=hr4
      obtain⟨⟨u,pv,rfl⟩,hb⟩:=h4
      have HB9:=zh hb
      have HR4:=zh hr4
      have e9:R=.error .die:=by
       have hr1:=HR1.out;have hs2:=HS2.out;have hr3:=HR3.out;have hr4:=HR4.out;rw[HR.out];try simp[qfm,msE,qac,qa8,hr1,hs2,hr3,hr4,bind,Except.bind,pure,Except.pure,Except.map]
      subst e9
      clear hb hr4
      go_wp2_with fail
      exact⟨rfl,⟨_,_,rfl⟩,HB9.out⟩
     ·rw[hr4]at h4
      replace hr4:sgE E 9 [58] x2.2=_:=hr4
      have HR4:=zh hr4
      obtain⟨rfl,hm,hx⟩:=h4
      have H4:=zh hm
      have Y4:=zh hx
      have X4:=zh (X3.out.trans Y4.out)
      clear hm hx hr4
      cases b
      ·obtain rfl:=qdu HR4.out
       go_wp2_with fail
       have q5:=qdd (σ:=(σ.at_ x2.2)) H4.out [47]
       try unfold ptr at q5
       refine q5.mono ?_
       clear q5
       intro e w5 h5
       rcases hr5:sgE E 9 [47] (σ.at_ x2.2).i with x9 | ⟨b,j4⟩
       ·obtain rfl:=qax (by first | exact qae hr5 | exact qag hr5 | exact qaf hr5)
        rw[hr5]at h5
        replace hr5:sgE E 9 [47] x2.2=_:=hr5
        obtain⟨⟨u,pv,rfl⟩,hb⟩:=h5
        have HB9:=zh hb
        have HR5:=zh hr5
        have e9:R=.error .die:=by
         have hr1:=HR1.out;have hs2:=HS2.out;have hr3:=HR3.out;have hr4:=HR4.out;have hr5:=HR5.out;rw[HR.out];try simp[qfm,msE,qac,qa8,hr1,hs2,hr3,hr4,hr5,bind,Except.bind,pure,Except.pure,Except.map]
        subst e9
        clear hb hr5
        go_wp2_with fail
        exact⟨rfl,⟨_,_,rfl⟩,HB9.out⟩
       ·rw[hr5]at h5
        replace hr5:sgE E 9 [47] x2.2=_:=hr5
        have HR5:=zh hr5
        obtain⟨rfl,hm,hx⟩:=h5
        have H5:=zh hm
        have Y5:=zh hx
        have X5:=zh (X4.out.trans Y5.out)
        clear hm hx hr5
        cases b
        ·have e9:R=.error .die:=by
          have hr1:=HR1.out;have hs2:=HS2.out;have hr3:=HR3.out;have hr4:=HR4.out;have hr5:=HR5.out;rw[HR.out];try simp[qfm,msE,qac,qa8,hr1,hs2,hr3,hr4,hr5,bind,Except.bind,pure,Except.pure,Except.map]
         subst e9
         go_wp2_with fail
         refine(qat _).mono ?_
         rintro e w9 ⟨⟨u,pv,rfl⟩,rfl⟩
         go_wp2_with fail
         exact⟨rfl,⟨_,_,rfl⟩,H5.out.bel⟩
        ·go_wp2_with fail
         refine(qas _).mono ?_
         rintro e w9 ⟨rfl,rfl⟩
         go_wp2_with fail
         have q6:=qkp (σ:=(σ.at_ j4)) H5.out
         try unfold ptr at q6
         refine q6.mono ?_
         clear q6
         intro e w6 h6
         rcases hr6:txE E szk (σ.at_ j4).i with x9 | x5
         ·obtain rfl:=qax (by first | exact qae hr6 | exact qag hr6 | exact qaf hr6)
          rw[hr6]at h6
          replace hr6:txE E szk j4=_:=hr6
          obtain⟨⟨u,pv,rfl⟩,hb⟩:=h6
          have HB9:=zh hb
          have HR6:=zh hr6
          have e9:R=.error .die:=by
           have hr1:=HR1.out;have hs2:=HS2.out;have hr3:=HR3.out;have hr4:=HR4.out;have hr5:=HR5.out;have hr6:=HR6.out;rw[HR.out];try simp[qfm,msE,qac,qa8,hr1,hs2,hr3,hr4,hr5,hr6,bind,Except.bind,pure,Except.pure,Except.map]
          subst e9
          clear hb hr6
          go_wp2_with fail
          exact⟨rfl,⟨_,_,rfl⟩,HB9.out⟩
         ·rw[hr6]at h6
          replace hr6:txE E szk j4=_:=hr6
          have HR6:=zh hr6
          obtain⟨rfl,hm,hx⟩:=h6
          have H6:=zh hm
          have Y6:=zh hx
          have X6:=zh (X5.out.trans Y6.out)
          clear hm hx hr6
          go_wp2_with fail
          have hf9:j<=x5.2:=zI (qea HR3.out) (zI (qi0 HR5.out) (qea HR6.out))
          have q7:=qi1 (σ:=(σ.at_ x5.2)) H6.out j x5.2 rfl hf9
          try unfold ptr at q7
          refine q7.mono ?_
          clear q7 hf9
          rintro e w7 ⟨rfl,hb⟩
          have H7:=zh (MM.below (σ:=(σ.at_ x5.2)) H6.out hb)
          have Y7:=zh (MM.mxb (σ:=(σ.at_ x5.2)) H6.out hb)
          have X7:=zh (X6.out.trans Y7.out)
          clear hb
          obtain⟨⟨np8,g5_8,-⟩,gf_8,-⟩:=(H7.out.below (qa1 w7 (.cells #[.int .i64 16,.string (scE E (x5.2-j) j),.slice none 0 0,.bool false,.bool false,.slice none 0 0,.slice none 0 0] 29))).gcell
          have gf5_8:=gf_8 5
          clear gf_8
          obtain⟨M8,hm,hx⟩:=H7.out.got0 16 (scE E (x5.2-j) j)
          have H8:=zh hm
          have Y8:=zh hx
          have X8:=zh (X7.out.trans Y8.out)
          clear hm hx
          have e9:R=.ok ((σ.at_ x5.2).got (nkt 16 (scE E (x5.2-j) j) [])):=by
           have hr1:=HR1.out;have hs2:=HS2.out;have hr3:=HR3.out;have hr4:=HR4.out;have hr5:=HR5.out;have hr6:=HR6.out;rw[HR.out];try simp[qfm,msE,qac,qa8,hr1,hs2,hr3,hr4,hr5,hr6,bind,Except.bind,pure,Except.pure,Except.map]
          subst e9
          go_wp2_with fail
          go_end0
          exact⟨rfl,M8,H8.out,X8.out⟩
      ·skip
       go_wp2_with fail
       have q9:=qqe (σ:=(σ.at_ j3)) H4.out
       try unfold ptr at q9
       refine q9.mono ?_
       clear q9
       intro e w9 h9
       rcases hr9:txE E nmk (σ.at_ j3).i with x9 | x4
       ·obtain rfl:=qax (by first | exact qae hr9 | exact qag hr9 | exact qaf hr9)
        rw[hr9]at h9
        replace hr9:txE E nmk j3=_:=hr9
        obtain⟨⟨u,pv,rfl⟩,hb⟩:=h9
        have HB9:=zh hb
        have HR9:=zh hr9
        have e9:R=.error .die:=by
         have hr1:=HR1.out;have hs2:=HS2.out;have hr3:=HR3.out;have hr4:=HR4.out;have hr9:=HR9.out;rw[HR.out];try simp[qfm,msE,qac,qa8,hr1,hs2,hr3,hr4,hr9,bind,Except.bind,pure,Except.pure,Except.map]
        subst e9
        clear hb hr9
        go_wp2_with fail
        exact⟨rfl,⟨_,_,rfl⟩,HB9.out⟩
       ·rw[hr9]at h9
        replace hr9:txE E nmk j3=_:=hr9
        have HR9:=zh hr9
        obtain⟨rfl,hm,hx⟩:=h9
        have H9:=zh hm
        have Y9:=zh hx
        have X9:=zh (X4.out.trans Y9.out)
        clear hm hx hr9
        go_wp2_with fail
        have q10:=qdd (σ:=(σ.at_ x4.2)) H9.out [47]
        try unfold ptr at q10
        refine q10.mono ?_
        clear q10
        intro e w10 h10
        rcases hr10:sgE E 9 [47] (σ.at_ x4.2).i with x9 | ⟨b,j4⟩
        ·obtain rfl:=qax (by first | exact qae hr10 | exact qag hr10 | exact qaf hr10)
         rw[hr10]at h10
         replace hr10:sgE E 9 [47] x4.2=_:=hr10
         obtain⟨⟨u,pv,rfl⟩,hb⟩:=h10
         have HB9:=zh hb
         have HR10:=zh hr10
         have e9:R=.error .die:=by
          have hr1:=HR1.out;have hs2:=HS2.out;have hr3:=HR3.out;have hr4:=HR4.out;have hr9:=HR9.out;have hr10:=HR10.out;rw[HR.out];try simp[qfm,msE,qac,qa8,hr1,hs2,hr3,hr4,hr9,hr10,bind,Except.bind,pure,Except.pure,Except.map]
         subst e9
         clear hb hr10
         go_wp2_with fail
         exact⟨rfl,⟨_,_,rfl⟩,HB9.out⟩
        ·rw[hr10]at h10
         replace hr10:sgE E 9 [47] x4.2=_:=hr10
         have HR10:=zh hr10
         obtain⟨rfl,hm,hx⟩:=h10
         have H10:=zh hm
         have Y10:=zh hx
         have X10:=zh (X9.out.trans Y10.out)
         clear hm hx hr10
         cases b
         ·have e9:R=.error .die:=by
           have hr1:=HR1.out;have hs2:=HS2.out;have hr3:=HR3.out;have hr4:=HR4.out;have hr9:=HR9.out;have hr10:=HR10.out;rw[HR.out];try simp[qfm,msE,qac,qa8,hr1,hs2,hr3,hr4,hr9,hr10,bind,Except.bind,pure,Except.pure,Except.map]
          subst e9
          go_wp2_with fail
          refine(qat _).mono ?_
          rintro e w9 ⟨⟨u,pv,rfl⟩,rfl⟩
          go_wp2_with fail
          exact⟨rfl,⟨_,_,rfl⟩,H10.out.bel⟩
         ·go_wp2_with fail
          refine(qas _).mono ?_
          rintro e w9 ⟨rfl,rfl⟩
          go_wp2_with fail
          have q11:=qkp (σ:=(σ.at_ j4)) H10.out
          try unfold ptr at q11
          refine q11.mono ?_
          clear q11
          intro e w11 h11
          rcases hr11:txE E szk (σ.at_ j4).i with x9 | x5
          ·obtain rfl:=qax (by first | exact qae hr11 | exact qag hr11 | exact qaf hr11)
           rw[hr11]at h11
           replace hr11:txE E szk j4=_:=hr11
           obtain⟨⟨u,pv,rfl⟩,hb⟩:=h11
           have HB9:=zh hb
           have HR11:=zh hr11
           have e9:R=.error .die:=by
            have hr1:=HR1.out;have hs2:=HS2.out;have hr3:=HR3.out;have hr4:=HR4.out;have hr9:=HR9.out;have hr10:=HR10.out;have hr11:=HR11.out;rw[HR.out];try simp[qfm,msE,qac,qa8,hr1,hs2,hr3,hr4,hr9,hr10,hr11,bind,Except.bind,pure,Except.pure,Except.map]
           subst e9
           clear hb hr11
           go_wp2_with fail
           exact⟨rfl,⟨_,_,rfl⟩,HB9.out⟩
          ·rw[hr11]at h11
           replace hr11:txE E szk j4=_:=hr11
           have HR11:=zh hr11
           obtain⟨rfl,hm,hx⟩:=h11
           have H11:=zh hm
           have Y11:=zh hx
           have X11:=zh (X10.out.trans Y11.out)
           clear hm hx hr11
           go_wp2_with fail
           have hf9:j<=x5.2:=zI (zI (qea HR3.out) (zI (qi0 HR4.out) (qea HR9.out))) (zI (qi0 HR10.out) (qea HR11.out))
           have q12:=qi1 (σ:=(σ.at_ x5.2)) H11.out j x5.2 rfl hf9
           try unfold ptr at q12
           refine q12.mono ?_
           clear q12 hf9
           rintro e w12 ⟨rfl,hb⟩
           have H12:=zh (MM.below (σ:=(σ.at_ x5.2)) H11.out hb)
           have Y12:=zh (MM.mxb (σ:=(σ.at_ x5.2)) H11.out hb)
           have X12:=zh (X11.out.trans Y12.out)
           clear hb
           obtain⟨⟨np13,g5_13,-⟩,gf_13,-⟩:=(H12.out.below (qa1 w12 (.cells #[.int .i64 16,.string (scE E (x5.2-j) j),.slice none 0 0,.bool false,.bool false,.slice none 0 0,.slice none 0 0] 29))).gcell
           have gf5_13:=gf_13 5
           clear gf_13
           obtain⟨M13,hm,hx⟩:=H12.out.got0 16 (scE E (x5.2-j) j)
           have H13:=zh hm
           have Y13:=zh hx
           have X13:=zh (X12.out.trans Y13.out)
           clear hm hx
           have e9:R=.ok ((σ.at_ x5.2).got (nkt 16 (scE E (x5.2-j) j) [])):=by
            have hr1:=HR1.out;have hs2:=HS2.out;have hr3:=HR3.out;have hr4:=HR4.out;have hr9:=HR9.out;have hr10:=HR10.out;have hr11:=HR11.out;rw[HR.out];try simp[qfm,msE,qac,qa8,hr1,hs2,hr3,hr4,hr9,hr10,hr11,bind,Except.bind,pure,Except.pure,Except.map]
           subst e9
           go_wp2_with fail
           go_end0
           exact⟨rfl,M13,H13.out,X13.out⟩
   ·have HS2:=zh hs2
    go_wp2_with fail
    have q14:=qcb (σ:=(σ.at_ j)) H1.out [40]
    rw[show E.sign (pz (σ.at_ j).i) [40]=_ from HS2.out]at q14
    try unfold ptr at q14
    refine q14.mono ?_
    clear q14
    rintro e w14 ⟨rfl,hm,hx⟩
    have H14:=zh hm
    have Y14:=zh hx
    have X14:=zh (X1.out.trans Y14.out)
    clear hm hx
    cases hs3:(E.pk j==j)
    ·have HS3:=zh hs3
     go_wp2_with fail
     have q15:=nearM (σ:=(σ.at_ j)) H14.out
     rw[show(E.pk (σ.at_ j).i==(σ.at_ j).i)=_ from HS3.out]at q15
     try unfold ptr at q15
     refine q15.mono ?_
     clear q15
     rintro e w15 ⟨rfl,hm,hx⟩
     have H15:=zh hm
     have Y15:=zh hx
     have X15:=zh (X14.out.trans Y15.out)
     clear hm hx
     have hne:E.pk j≠j:=by have:=HS3.out;simpa using this
     have HNE:=zh hne
     clear hne
     have e9:R=.error .die:=by
      have hr1:=HR1.out;have hs2:=HS2.out;have hs3:=HS3.out;have hne:=HNE.out;rw[HR.out];try simp[qfm,msE,qac,qa8,hr1,hs2,hs3,hne,bind,Except.bind,pure,Except.pure,Except.map]
     subst e9
     go_wp2_with fail
     refine(qat _).mono ?_
     rintro e w9 ⟨⟨u,pv,rfl⟩,rfl⟩
     go_wp2_with fail
     exact⟨rfl,⟨_,_,rfl⟩,H15.out.bel⟩
    ·have HS3:=zh hs3
     go_wp2_with fail
     have q16:=nearM (σ:=(σ.at_ j)) H14.out
     rw[show(E.pk (σ.at_ j).i==(σ.at_ j).i)=_ from HS3.out]at q16
     try unfold ptr at q16
     refine q16.mono ?_
     clear q16
     rintro e w16 ⟨rfl,hm,hx⟩
     have H16:=zh hm
     have Y16:=zh hx
     have X16:=zh (X14.out.trans Y16.out)
     clear hm hx
     have hne:E.pk j=j:=by have:=HS3.out;simpa using this
     have HNE:=zh hne
     clear hne
     go_wp2_with fail
     refine(qas _).mono ?_
     rintro e w9 ⟨rfl,rfl⟩
     obtain⟨M17,hm,hx,ha,hl⟩:=H16.out.new0E 17 ⟨#[]⟩
     have An:=zh (show M17.A σ.N.length=_ from ha)
     have Nbn:=zh (show σ.N.length<_ from hl)
     have H17:=zh hm
     have Y17:=zh hx
     have X17:=zh (X16.out.trans Y17.out)
     clear hm hx ha hl
     have V18:=zh ((IsC.funC:IsC (w16.alloc (.cells #[.int .i64 17,.string ⟨#[]⟩,.slice none 0 0,.bool false,.bool false,.slice none 0 0,.slice none 0 0] 29)) (M17.P W0.heap.size) g M17.A M17.B (((σ.at_ j).new (nkt 17 ⟨#[]⟩ []))).N.length (((σ.at_ j).new (nkt 17 ⟨#[]⟩ []))).C.length _ .funC))
     go_wp2_with fail
     have q19:=qfw H17.out σ.N.length .funC _ V18.out Nbn.out
     rw[An.out]at q19
     try unfold ptr at q19
     refine q19.mono ?_
     clear q19
     rintro e w19 ⟨v5,rfl,hv,hb⟩
     obtain⟨fK19,fF19,fC19,rfl⟩:=hv.fn
     have V19:=zh hv
     have H19:=zh (H17.out.below hb)
     have Y19:=zh (H17.out.mxb hb)
     have X19:=zh (X17.out.trans Y19.out)
     have v4_19:=zh (Y19.out.isc V18.out)
     have An_19:=zh ((Y19.out.A _ Nbn.out).trans An.out)
     have Nbn_19:=zh (zJ Nbn.out Y19.out.N)
     clear hv hb
     go_wp2_with fail
     have q20:=qjo H19.out σ.N.length Nbn_19.out
     rw[An_19.out]at q20
     try unfold ptr at q20
     refine q20.mono ?_
     clear q20
     rintro e w20 ⟨v6,rfl,hv,hb⟩
     obtain⟨fK20,fF20,fC20,rfl⟩:=hv.fn
     have V20:=zh hv
     have H20:=zh (H19.out.below hb)
     have Y20:=zh (H19.out.mxb hb)
     have X20:=zh (X19.out.trans Y20.out)
     have v4_20:=zh (Y20.out.isc v4_19.out)
     have v5_20:=zh (Y20.out.isc V19.out)
     have An_20:=zh ((Y20.out.A _ Nbn_19.out).trans An_19.out)
     have Nbn_20:=zh (zJ Nbn_19.out Y20.out.N)
     clear hv hb
     go_wp2_with fail
     refine(qbh H20.out _ (by simp) [_,_] [qac σ.N.length .funC,qa8 σ.N.length] 2 rfl (zI HK.out (by decide)) (by decide) _ ⟨v5_20.out,⟨V20.out,trivial⟩⟩).mono ?_
     rintro e w21 ⟨rfl,M21,hm,hx⟩
     have H21:=zh hm
     have Y21:=zh hx
     have X21:=zh (X20.out.trans Y21.out)
     have v4_21:=zh (Y21.out.isc v4_20.out)
     have v5_21:=zh (Y21.out.isc v5_20.out)
     have v6_21:=zh (Y21.out.isc V20.out)
     have An_21:=zh ((Y21.out.A _ Nbn_20.out).trans An_20.out)
     have Nbn_21:=zh (zJ Nbn_20.out Y21.out.N)
     clear hm hx
     have e9:R=.ok (((σ.at_ j).new (nk 17 [])).plan [qac σ.N.length .funC,qa8 σ.N.length]):=by
      have hr1:=HR1.out;have hs2:=HS2.out;have hs3:=HS3.out;have hne:=HNE.out;rw[HR.out];try simp[qfm,msE,qac,qa8,hr1,hs2,hs3,hne,bind,Except.bind,pure,Except.pure,Except.map]
     subst e9
     go_wp2_with fail
     go_end0
     exact⟨rfl,M21,H21.out,X21.out⟩
end
section
variable{W0 W:World}{g:Nat}{s:ByteArray}{E:Env}{tv:Value}{L:PLay}{σ:PM}
theorem qsd(h:MM W0 g s E tv W L σ)(n:Nat)(k1:Nat)(b1:BoxC W (L.P W0.heap.size) (.pointer (some ⟨k1,0,none⟩)) (ptr (L.A n)))(k2:Nat)(b2:BoxC W (L.P W0.heap.size) (.pointer (some ⟨k2,0,none⟩)) (ptr g))(hrow: ∀y,σ.N[n]?=some (some y)->y.ls.length<=1000000000000)(hns:stp E (.into n) σ≠ .error .stuck):
 Calls Tryz.prog 140 #[.pointer (some ⟨k1,0,none⟩),.pointer (some ⟨k2,0,none⟩)] W (SO (stp E (.into n) σ) W0 g s E tv W L σ.N.length σ.C.length):=by
 obtain⟨R,hR⟩: ∃R:Rs PM,R=stp E (.into n) σ:=⟨_,rfl⟩
 rw[<-hR]at hns⊢
 have HR:=zh hR
 have HNS:=zh hns
 have H0:=zh h
 have X0:=zh (MX.refl W0.heap.size W L σ.N.length σ.C.length)
 have B_n:=zh b1
 have B_r:=zh b2
 rcases hcu:σ.cur with b9 | ⟨j,x⟩
 ·obtain rfl:=qcy hcu
  exact absurd (by rw[HR.out];show(σ.cur >>= fun x=>_)=_;rw[hcu];rfl) HNS.out
 obtain⟨hn_j,hx_j⟩:=qdp hcu
 have HX_j:=zh hx_j
 have HN_j:=zh hn_j
 rcases hnn:σ.nd n with b9 | y
 ·obtain rfl:=qe8 hnn
  exact absurd (by rw[HR.out];show(σ.cur >>= fun x=>_)=_;rw[hcu];show(σ.nd n >>= fun y=>_)=_;rw[hnn];rfl) HNS.out
 have HX_n:=zh (qgq hnn)
 by_cases hne:j=n
 ·exact absurd (by rw[HR.out];show(σ.cur >>= fun x=>_)=_;rw[hcu];show(σ.nd n >>= fun y=>_)=_;rw[hnn];show(if j=n then _ else _)=_;rw[if_pos hne]) HNS.out
 have HNE:=zh hne
 have HROW:=zh (hrow y HX_n.out)
 obtain rfl:R=.ok (((σ.mv j).set n (y.add [x])).is n):=by
  rw[HR.out];show(σ.cur >>= fun x=>_)=_;rw[hcu];show(σ.nd n >>= fun y=>_)=_;rw[hnn];show(if j=n then _ else _)=_;rw[if_neg hne]
 clear h hR hns b1 b2 hcu hn_j hx_j hnn hne hrow
 go_enter Tryz.func140,Tryz.ntmps140
 go_upto_region 0 with fail
 go_cut [3]from 2 to 3 (fun v wx=> ∃b,v=.bool b/\Hid (Below W.heap.size W wx))
 case first=>
  go_region
  all_goals go_wp2_with fail
  all_goals go_meet
  all_goals first | exact⟨_,rfl,zh (zA (qa1 W _))⟩ | exact⟨_,rfl,zh (qa1 W _)⟩
 case rest=>
  obtain⟨b9,rfl,HB9⟩:=hcut
  have H1:=zh (H0.out.below HB9.out)
  have Y1:=zh (H0.out.mxb HB9.out)
  have X1:=zh (X0.out.trans Y1.out)
  have B_n1:=zh (Y1.out.box B_n.out)
  have B_r1:=zh (Y1.out.box B_r.out)
  obtain⟨ka,ta,la,ra,qa,na,va,hNd,⟨la1,la2,la3,rfl⟩,⟨na1,na2,na3,rfl⟩,⟨va1,va2,va3,rfl⟩⟩:=H1.out.ncellsA HX_j.out
  have HND:=zh hNd
  clear hNd
  obtain⟨va9,vc9,hv9⟩:=H1.out.lsv HX_n.out
  have HV:=zh hv9
  clear hv9
  have hro:=H1.out.rowQ (j:=j) HX_n.out HV.out (Below.refl _ _)
  have HRO:=zh hro.1
  have HVO:=zh hro.2
  clear hro
  have hA1:L.own (L.A n)=.hd n:=by
   have h9:=H1.out.nds n y HX_n.out
   cases y;exact h9.1
  have HA1:=zh hA1
  clear hA1
  have hAj:L.own (L.A j)=.hd j:=by
   have h9:=H1.out.nds j x HX_j.out
   cases x;exact h9.1
  have HAJ:=zh hAj
  clear hAj
  have HF:Hid (∀w':World,(∀k,k<wc.heap.size->L.own k≠ .rw n->L.own k≠ .hd n->w'.heap[k]?=wc.heap[k]?)->w'.cell? ⟨k1,0,none⟩=some (.pointer (some ⟨L.A n,0,none⟩))/\w'.cell? ⟨k2,0,none⟩=some (.pointer (some ⟨g,0,none⟩))/\w'.cell? ⟨g,5,none⟩=some (.pointer (some ⟨L.A j,0,none⟩))/\w'.cell? ⟨L.A j,0,none⟩=some (.int .i64 ka)/\w'.cell? ⟨L.A j,1,none⟩=some (.string ta)/\w'.cell? ⟨L.A j,2,none⟩=some (.slice la1 la2 la3)/\w'.cell? ⟨L.A j,3,none⟩=some (.bool ra)/\w'.cell? ⟨L.A j,4,none⟩=some (.bool qa)/\w'.cell? ⟨L.A j,5,none⟩=some (.slice na1 na2 na3)/\w'.cell? ⟨L.A j,6,none⟩=some (.slice va1 va2 va3)):=zh (fun w' hs=>by
   have hbx: ∀ {p u:Value},BoxC wc (L.P W0.heap.size) p u-> ∀q,p=.pointer (some ⟨q,0,none⟩)->w'.cell? ⟨q,0,none⟩=some u:=fun hb q e=>by
    obtain⟨b,e1,e2,e3,e4⟩:=hb
    rw[e1]at e
    simp only[Value.pointer.injEq,Option.some.injEq,Addr.mk.injEq,and_true]at e
    subst e
    exact(zL (w:=wc) (hs b e3 (by rw[e2.1];exact fun h=>by cases h) (by rw[e2.1];exact fun h=>by cases h))).trans e4
   have hg9:=hs g H1.out.glt (by rw[H1.out.og];exact fun h=>by cases h) (by rw[H1.out.og];exact fun h=>by cases h)
   have hj9:=hs (L.A j) HND.out.lt (by rw[HAJ.out];exact fun h=>by cases h) (by rw[HAJ.out];exact fun h=>HNE.out (by cases h;rfl))
   have hnb:NdB w' (L.A j) ka ta (.slice la1 la2 la3) ra qa (.slice na1 na2 na3) (.slice va1 va2 va3):=hj9.trans HND.out
   have hnc:=hnb.cells
   have h1:=hbx B_n1.out k1 rfl
   have h2:=hbx B_r1.out k2 rfl
   unfold ptr at h1 h2
   exact⟨h1,h2,(zL (w:=wc) hg9).trans (H1.out.gcur HN_j.out),hnc⟩)
  have HD1:=zh (HF.out wc (fun _ _ _ _=>rfl))
  have HDO:=zh (fun O=>HF.out (wc.alloc O) (fun k hk _ _=>(qa1 wc O).block k hk))
  have kn:=(HD1.out).1
  have kr:=(HD1.out).2.1
  have kg:=(HD1.out).2.2.1
  have x0:=(HD1.out).2.2.2.1
  have x1:=(HD1.out).2.2.2.2.1
  have x2:=(HD1.out).2.2.2.2.2.1
  have x3:=(HD1.out).2.2.2.2.2.2.1
  have x4:=(HD1.out).2.2.2.2.2.2.2.1
  have x5:=(HD1.out).2.2.2.2.2.2.2.2.1
  have x6:=(HD1.out).2.2.2.2.2.2.2.2.2
  have knO:=fun O=>(HDO.out O).1
  have krO:=fun O=>(HDO.out O).2.1
  have kgO:=fun O=>(HDO.out O).2.2.1
  have x0O:=fun O=>(HDO.out O).2.2.2.1
  have x1O:=fun O=>(HDO.out O).2.2.2.2.1
  have x2O:=fun O=>(HDO.out O).2.2.2.2.2.1
  have x3O:=fun O=>(HDO.out O).2.2.2.2.2.2.1
  have x4O:=fun O=>(HDO.out O).2.2.2.2.2.2.2.1
  have x5O:=fun O=>(HDO.out O).2.2.2.2.2.2.2.2.1
  have x6O:=fun O=>(HDO.out O).2.2.2.2.2.2.2.2.2
  have hv:=HV.out
  have hvO:=fun O=>((qa1 wc O).cell (p:=⟨L.A n,2,none⟩) (zK _ _ HV.out)).trans HV.out
  have HLEN:=zh (show y.ls.length+1<=1099511627776 by have:=HROW.out;omega)
  have HFR:Hid (∀O q,(wc.alloc O).heap.size<=q->L.Q W0.heap.size n j wc.heap.size q):=zh (fun O q hq=>.inr (.inr (by have:(wc.alloc O).heap.size=wc.heap.size+1:=(by simp);omega)))
  have HBS:Hid (∀O,W0.heap.size<=(wc.alloc O).heap.size):=zh (fun O=>by have:=H1.out.bel.size;have:(wc.alloc O).heap.size=wc.heap.size+1:=(by simp);omega)
  have HBW:Hid (∀O,Below wc.heap.size wc (wc.alloc O).drew):=zh (fun O=>zA (qa1 wc O))
  have HAN:Hid (∀(w4:World) (O:Obj),(wc.alloc O).drew.grownBy w4 (Value.slice va9 y.ls.length vc9).ownBlock->(∀k,k<wc.heap.size->L.own k≠ .rw n->L.own k≠ .hd n->w4.heap[k]?=wc.heap[k]?)/\w4.heap[L.A n]?=wc.heap[L.A n]?):=zh (fun w4 O hg=>⟨fun k hk d1 d2=>(hg.block k (zJ hk (HBW.out O).size) (fun e=>d1 (HVO.out k e.symm).1)).trans ((HBW.out O).block k hk),(hg.block _ (zJ (zK _ _ HV.out) (HBW.out O).size) (fun e=>by have:=(HVO.out _ e.symm).1;rw[HA1.out]at this;cases this)).trans ((HBW.out O).block _ (zK _ _ HV.out))⟩)
  have HNB:Hid (∃k t br bl nv tv,NdB wc (L.A n) k t (.slice va9 y.ls.length vc9) br bl nv tv):=zh (by
   obtain⟨k,t,lv,br,bl,nv,tv,h9⟩:=H1.out.ncells HX_n.out
   have h8:=h9.cells.2.2.1
   rw[HV.out]at h8
   rw[<-Option.some.inj h8]at h9
   exact⟨_,_,_,_,_,_,h9⟩)
  have HAF:Hid (∀w4:World,w4.heap[L.A n]?=wc.heap[L.A n]?->w4.cell? ⟨L.A n,2,none⟩=some (.slice va9 y.ls.length vc9)/\w4.frozen? ⟨L.A n,2,none⟩=false):=zh (fun w4 he=>by
   obtain⟨k,t,br,bl,nv,tv,h9⟩:=HNB.out
   have h8:NdB _ (L.A n) k t (.slice va9 y.ls.length vc9) br bl nv tv:=he.trans h9
   exact⟨h8.cells.2.2.1,h8.frz 2⟩)
  cases b9 with
  | false=>
   have HST:Hid (RowIn (wc.alloc (.cells #[.int .i64 ka,.string ta,.slice la1 la2 la3,.bool ra,.bool qa,.slice na1 na2 na3,.slice va1 va2 va3] 29)).drew (fun q=>L.Q W0.heap.size n j wc.heap.size q/\(Value.slice va9 y.ls.length vc9).ownBlock≠some q) (.slice (some ⟨wc.heap.size,0,none⟩) 1 1) [x]):=zh (by
    have h1:=(H1.out.ndQ (W1:=wc) HX_j.out HNE.out HND.out (zH _) (fun _ _ _ _=>rfl) wc.heap.size ⟨fun _ _=>trivial,.inr (zH _)⟩).1
    have h2:NdIn wc (fun q=>L.Q W0.heap.size n j wc.heap.size q/\(Value.slice va9 y.ls.length vc9).ownBlock≠some q) [.int .i64 ka,.string ta,.slice la1 la2 la3,.bool ra,.bool qa,.slice na1 na2 na3,.slice va1 va2 va3] x:=by
     cases hvo:(Value.slice va9 y.ls.length vc9).ownBlock with
     | none=>exact h1.weak (fun q hq _=>⟨hq.1,fun e=>by cases e⟩)
     | some z=>exact(H1.out.ndQ (W1:=wc) HX_j.out HNE.out HND.out (zH _) (fun _ _ _ _=>rfl) z ⟨fun _ _=>trivial,.inl (HVO.out z hvo).1⟩).1.weak (fun q hq _=>⟨hq.1,fun e=>hq.2 (Option.some.inj e).symm⟩)
    have h3:=(OwnN.made (W:=wc) (P:=fun q=>L.Q W0.heap.size n j wc.heap.size q/\(Value.slice va9 y.ls.length vc9).ownBlock≠some q) (css:=[[.int .i64 ka,.string ta,.slice la1 la2 la3,.bool ra,.bool qa,.slice na1 na2 na3,.slice va1 va2 va3]]) (T:=[x]) rfl (by
     intro i c y9 g1 g2
     cases i with
     | zero=>simp only[zC,Option.some.injEq]at g1 g2;subst g1 g2;exact h2
     | succ i=>simp at g1) #[.int .i64 ka,.string ta,.slice la1 la2 la3,.bool ra,.bool qa,.slice na1 na2 na3,.slice va1 va2 va3] rfl ⟨.inr (.inr (zH _)),fun e=>by have:=(HVO.out _ e).2;omega⟩ (by show 1<=maxLen;decide) wc.heap.size rfl).row
    exact h3.keep (qay (zA (Below.refl _ _))))
   go_wp2_with fail
   go_cut []from 20 to 34 (fun wx=> ∃L',Hid (MM W0 g s E tv wx L' ((σ.mv j).set n (y.add [x])))/\Hid (MX W0.heap.size wc L σ.N.length σ.C.length wx L' ((σ.mv j).set n (y.add [x])).N.length ((σ.mv j).set n (y.add [x])).C.length)/\Hid (L'.A=L.A))
   case first=>
    refine wp_region_noPanic ?_
    refine wp_region_held_drew (S:=(fun w'=>w'.cell? ⟨k1,0,none⟩=some (.pointer (some ⟨L.A n,0,none⟩))/\w'.cell? ⟨k2,0,none⟩=some (.pointer (some ⟨g,0,none⟩))/\w'.cell? ⟨g,5,none⟩=some (.pointer (some ⟨L.A j,0,none⟩))/\w'.cell? ⟨L.A j,0,none⟩=some (.int .i64 ka)/\w'.cell? ⟨L.A j,1,none⟩=some (.string ta)/\w'.cell? ⟨L.A j,2,none⟩=some (.slice la1 la2 la3)/\w'.cell? ⟨L.A j,3,none⟩=some (.bool ra)/\w'.cell? ⟨L.A j,4,none⟩=some (.bool qa)/\w'.cell? ⟨L.A j,5,none⟩=some (.slice na1 na2 na3)/\w'.cell? ⟨L.A j,6,none⟩=some (.slice va1 va2 va3))) (by kernel_rfl) (by(try dsimp only);(first | exact HF.out _ (fun _ _ _ _=>rfl) | exact HF.out _ (fun k hk _ _=>(zA (qa1 wc _)).block k hk) | exact HF.out _ HG.out.1 | exact HF.out _ (fun k hk d1 d2=>(zB _ _ _ _ (fun e=>d2 (by have e:k=L.A n:=e;rw[e];exact HA1.out))).trans (HG.out.1 k hk d1 d2)))) (fun hHeld=>?_)
    refine tkH (i:=0) (v:=?_) rfl (Or.inl ⟨by rfl,?_⟩) ?_
    rotate_left 1
    ·(intro w' hSw;(try dsimp only at hSw);go_simp;(first | done | with_reducible rfl))
    try simp only[Act.put,zE,zG,zF]
    refine tkH (i:=1) (v:=?_) rfl (Or.inl ⟨by rfl,?_⟩) ?_
    rotate_left 1
    ·(intro w' hSw;(try dsimp only at hSw);go_simp;(first | done | with_reducible rfl))
    try simp only[Act.put,zE,zG,zF]
    refine tkH (i:=2) (v:=?_) rfl (Or.inl ⟨by rfl,?_⟩) ?_
    rotate_left 1
    ·(intro w' hSw;(try dsimp only at hSw);go_simp;(first | done | with_reducible rfl))
    try simp only[Act.put,zE,zG,zF]
    refine tkH (i:=3) (v:=?_) rfl (Or.inl ⟨by rfl,?_⟩) ?_
    rotate_left 1
    ·(intro w' hSw;(try dsimp only at hSw);go_simp;(first | done | with_reducible rfl))
    try simp only[Act.put,zE,zG,zF]
    refine tkH (i:=5) (v:=?_) rfl (Or.inl ⟨by rfl,?_⟩) ?_
    rotate_left 1
    ·(intro w' hSw;(try dsimp only at hSw);go_simp;(first | done | with_reducible rfl))
    try simp only[Act.put,zE,zG,zF]
    refine tkH (i:=6) (v:=?_) rfl (Or.inl ⟨by rfl,?_⟩) ?_
    rotate_left 1
    ·(intro w' hSw;(try dsimp only at hSw);go_simp;(first | done | with_reducible rfl))
    try simp only[Act.put,zE,zG,zF]
    refine tkH (i:=7) (v:=?_) rfl (Or.inl ⟨by rfl,?_⟩) ?_
    rotate_left 1
    ·(intro w' hSw;(try dsimp only at hSw);go_simp;(first | done | with_reducible rfl))
    try simp only[Act.put,zE,zG,zF]
    refine tkH (i:=8) (v:=?_) rfl (Or.inl ⟨by rfl,?_⟩) ?_
    rotate_left 1
    ·(intro w' hSw;(try dsimp only at hSw);go_simp;(first | done | with_reducible rfl))
    try simp only[Act.put,zE,zG,zF]
    refine tkH (i:=9) (v:=?_) rfl (Or.inl ⟨by rfl,?_⟩) ?_
    rotate_left 1
    ·(intro w' hSw;(try dsimp only at hSw);go_simp;(first | done | with_reducible rfl))
    try simp only[Act.put,zE,zG,zF]
    refine tkH (i:=10) (v:=?_) rfl (Or.inl ⟨by rfl,?_⟩) ?_
    rotate_left 1
    ·(intro w' hSw;(try dsimp only at hSw);go_simp;(first | done | with_reducible rfl))
    try simp only[Act.put,zE,zG,zF]
    refine wpAnyH_ready (rs:=[4,11]) (by kernel_rfl) (by simp) ?_
    refine(AllReadyH.cons rfl (fun K hK=>?_) (AllReadyH.cons rfl (fun K hK=>?_) AllReadyH.nil))
    go_simp
    refine hK.out _ _ (by(try dsimp only);(first | exact HF.out _ (fun _ _ _ _=>rfl) | exact HF.out _ (fun k hk _ _=>(zA (qa1 wc _)).block k hk) | exact HF.out _ HG.out.1 | exact HF.out _ (fun k hk d1 d2=>(zB _ _ _ _ (fun e=>d2 (by have e:k=L.A n:=e;rw[e];exact HA1.out))).trans (HG.out.1 k hk d1 d2)))) (fun hHeld=>?_)
    clear hK K
    try simp only[Act.put,zE,zG,zF]
    refine wpAnyH_ready (rs:=[11]) (by kernel_rfl) (by simp) ?_
    refine(AllReadyH.cons rfl (fun K hK=>?_) AllReadyH.nil)
    go_simp
    refine hK.out _ _ (by(try dsimp only);(first | exact HF.out _ (fun _ _ _ _=>rfl) | exact HF.out _ (fun k hk _ _=>(zA (qa1 wc _)).block k hk) | exact HF.out _ HG.out.1 | exact HF.out _ (fun k hk d1 d2=>(zB _ _ _ _ (fun e=>d2 (by have e:k=L.A n:=e;rw[e];exact HA1.out))).trans (HG.out.1 k hk d1 d2)))) (fun hHeld=>?_)
    clear hK K
    try simp only[Act.put,zE,zG,zF]
    refine wpAnyH_ready (rs:=[12]) (by kernel_rfl) (by simp) ?_
    refine(AllReadyH.cons rfl (fun K hK=>?_) AllReadyH.nil)
    (first | (refine qcl rfl _ _ rfl (L.Q W0.heap.size n j wc.heap.size) W0.heap.size _ y.ls rfl (HRO.out.below (HBW.out _)) _ [x] rfl HST.out HLEN.out (HBS.out _) (HFR.out _) ?_;intro v4 w4 hsk hgr hat;obtain⟨g4,c4,rfl⟩:=qe1 hsk;have HG:=zh (HAN.out _ _ hgr);have HT:=zh (H1.out.intoB HX_j.out HX_n.out HNE.out HV.out (HBW.out _) hsk hgr hat);have hf4:=HAF.out _ HG.out.2;have hf42:=hf4.2;have hf41:=hf4.1;clear hf4 hsk hgr hat))
    refine hK.out _ _ (by(try dsimp only);(first | exact HF.out _ (fun _ _ _ _=>rfl) | exact HF.out _ (fun k hk _ _=>(zA (qa1 wc _)).block k hk) | exact HF.out _ HG.out.1 | exact HF.out _ (fun k hk d1 d2=>(zB _ _ _ _ (fun e=>d2 (by have e:k=L.A n:=e;rw[e];exact HA1.out))).trans (HG.out.1 k hk d1 d2)))) (fun hHeld=>?_)
    clear hK K
    try simp only[Act.put,zE,zG,zF]
    refine tkH (i:=13) (v:=?_) rfl (Or.inl ⟨by rfl,?_⟩) ?_
    rotate_left 1
    ·(intro w' hSw;(try dsimp only at hSw);go_simp;(first | done | with_reducible rfl))
    try simp only[Act.put,zE,zG,zF]
    refine tkH (i:=14) (v:=?_) rfl (Or.inl ⟨by rfl,?_⟩) ?_
    rotate_left 1
    ·(intro w' hSw;(try dsimp only at hSw);go_simp;(first | done | with_reducible rfl))
    try simp only[Act.put,zE,zG,zF]
    refine wpAnyH_ready (rs:=[15]) (by kernel_rfl) (by simp) ?_
    refine(AllReadyH.cons rfl (fun K hK=>?_) AllReadyH.nil)
    go_simp
    refine hK.out _ _ (by(try dsimp only);(first | exact HF.out _ (fun _ _ _ _=>rfl) | exact HF.out _ (fun k hk _ _=>(zA (qa1 wc _)).block k hk) | exact HF.out _ HG.out.1 | exact HF.out _ (fun k hk d1 d2=>(zB _ _ _ _ (fun e=>d2 (by have e:k=L.A n:=e;rw[e];exact HA1.out))).trans (HG.out.1 k hk d1 d2)))) (fun hHeld=>?_)
    clear hK K
    try simp only[Act.put,zE,zG,zF]
    refine wpAnyH_done (by kernel_rfl) ?_ _
    refine NoPanic.normal ?_
    rotate_left 1
    go_simp
    refine hK.out _ _ (by(try dsimp only);(first | exact HF.out _ (fun _ _ _ _=>rfl) | exact HF.out _ (fun k hk _ _=>(zA (qa1 wc _)).block k hk) | exact HF.out _ HG.out.1 | exact HF.out _ (fun k hk d1 d2=>(zB _ _ _ _ (fun e=>d2 (by have e:k=L.A n:=e;rw[e];exact HA1.out))).trans (HG.out.1 k hk d1 d2)))) (fun hHeld=>?_)
    clear hK K
    try simp only[Act.put,zE,zG,zF]
    refine wpAnyH_ready (rs:=[4]) (by kernel_rfl) (by simp) ?_
    refine(AllReadyH.cons rfl (fun K hK=>?_) AllReadyH.nil)
    go_simp
    refine hK.out _ _ (by(try dsimp only);(first | exact HF.out _ (fun _ _ _ _=>rfl) | exact HF.out _ (fun k hk _ _=>(zA (qa1 wc _)).block k hk) | exact HF.out _ HG.out.1 | exact HF.out _ (fun k hk d1 d2=>(zB _ _ _ _ (fun e=>d2 (by have e:k=L.A n:=e;rw[e];exact HA1.out))).trans (HG.out.1 k hk d1 d2)))) (fun hHeld=>?_)
    clear hK K
    try simp only[Act.put,zE,zG,zF]
    refine wpAnyH_ready (rs:=[12]) (by kernel_rfl) (by simp) ?_
    refine(AllReadyH.cons rfl (fun K hK=>?_) AllReadyH.nil)
    (first | (refine qcl rfl _ _ rfl (L.Q W0.heap.size n j wc.heap.size) W0.heap.size _ y.ls rfl (HRO.out.below (HBW.out _)) _ [x] rfl HST.out HLEN.out (HBS.out _) (HFR.out _) ?_;intro v4 w4 hsk hgr hat;obtain⟨g4,c4,rfl⟩:=qe1 hsk;have HG:=zh (HAN.out _ _ hgr);have HT:=zh (H1.out.intoB HX_j.out HX_n.out HNE.out HV.out (HBW.out _) hsk hgr hat);have hf4:=HAF.out _ HG.out.2;have hf42:=hf4.2;have hf41:=hf4.1;clear hf4 hsk hgr hat))
    refine hK.out _ _ (by(try dsimp only);(first | exact HF.out _ (fun _ _ _ _=>rfl) | exact HF.out _ (fun k hk _ _=>(zA (qa1 wc _)).block k hk) | exact HF.out _ HG.out.1 | exact HF.out _ (fun k hk d1 d2=>(zB _ _ _ _ (fun e=>d2 (by have e:k=L.A n:=e;rw[e];exact HA1.out))).trans (HG.out.1 k hk d1 d2)))) (fun hHeld=>?_)
    clear hK K
    try simp only[Act.put,zE,zG,zF]
    refine tkH (i:=13) (v:=?_) rfl (Or.inl ⟨by rfl,?_⟩) ?_
    rotate_left 1
    ·(intro w' hSw;(try dsimp only at hSw);go_simp;(first | done | with_reducible rfl))
    try simp only[Act.put,zE,zG,zF]
    refine tkH (i:=14) (v:=?_) rfl (Or.inl ⟨by rfl,?_⟩) ?_
    rotate_left 1
    ·(intro w' hSw;(try dsimp only at hSw);go_simp;(first | done | with_reducible rfl))
    try simp only[Act.put,zE,zG,zF]
    refine wpAnyH_ready (rs:=[15]) (by kernel_rfl) (by simp) ?_
    refine(AllReadyH.cons rfl (fun K hK=>?_) AllReadyH.nil)
    go_simp
    refine hK.out _ _ (by(try dsimp only);(first | exact HF.out _ (fun _ _ _ _=>rfl) | exact HF.out _ (fun k hk _ _=>(zA (qa1 wc _)).block k hk) | exact HF.out _ HG.out.1 | exact HF.out _ (fun k hk d1 d2=>(zB _ _ _ _ (fun e=>d2 (by have e:k=L.A n:=e;rw[e];exact HA1.out))).trans (HG.out.1 k hk d1 d2)))) (fun hHeld=>?_)
    clear hK K
    try simp only[Act.put,zE,zG,zF]
    refine wpAnyH_done (by kernel_rfl) ?_ _
    refine NoPanic.normal ?_
    all_goals go_wp2_with fail
    all_goals go_meet
    all_goals (obtain⟨L',q1,q2,q3⟩:=HT.out;exact⟨L',zh q1,zh q2,zh q3⟩)
   case rest=>
    obtain⟨L',HM,HX,HA⟩:=hcut
    have XF:=zh (X1.out.trans HX.out)
    have kn9:=HX.out.cell B_n1.out
    have kr9:=HX.out.cell B_r1.out
    unfold ptr at kn9 kr9
    obtain⟨⟨np9,g59,-⟩,gf9,-⟩:=HM.out.gcell
    have gf5:=gf9 5
    have hs:=HM.out.setIs (n:=n) (by show n< ((σ.N.set j none).set n _).length;rw[zD,zD];exact qqg HX_n.out)
    rw[HA.out]at hs
    unfold ptr at hs
    have HS:=zh hs
    clear hs gf9
    go_wp2_with fail
    go_end0
    exact⟨rfl,L',HS.out.1,XF.out.trans HS.out.2⟩
  | true=>
   have HST:Hid (RowIn (wc.alloc (.cells #[.int .i64 0,.string ⟨#[]⟩,.slice none 0 0,.bool false,.bool false,.slice none 0 0,.slice none 0 0] 29)).drew (fun q=>L.Q W0.heap.size n j wc.heap.size q/\(Value.slice va9 y.ls.length vc9).ownBlock≠some q) (.slice (some ⟨wc.heap.size,0,none⟩) 1 1) [zN]):=zh (by
    have h3:=(OwnN.made (W:=wc) (P:=fun q=>L.Q W0.heap.size n j wc.heap.size q/\(Value.slice va9 y.ls.length vc9).ownBlock≠some q) (css:=[[.int .i64 0,.string ⟨#[]⟩,.slice none 0 0,.bool false,.bool false,.slice none 0 0,.slice none 0 0]]) (T:=[zN]) rfl (by
     intro i c y9 g1 g2
     cases i with
     | zero=>simp only[zC,Option.some.injEq]at g1 g2;subst g1 g2;exact NdIn.of_row _ _ _ _ ⟨none,0,rfl,fun h=>absurd h (by simp)⟩ ⟨none,0,rfl,fun h=>absurd h (by simp)⟩ (OwnN.nil wc _ 0).row
     | succ i=>simp at g1) #[.int .i64 0,.string ⟨#[]⟩,.slice none 0 0,.bool false,.bool false,.slice none 0 0,.slice none 0 0] rfl ⟨.inr (.inr (zH _)),fun e=>by have:=(HVO.out _ e).2;omega⟩ (by show 1<=maxLen;decide) wc.heap.size rfl).row
    exact h3.keep (qay (zA (Below.refl _ _))))
   go_wp2_with fail
   go_cut [13,14,16]from 4 to 18 (fun v13 v14 v16 wx=>v13=.agg #[.int .i64 ka,.string ta,.slice la1 la2 la3,.bool ra,.bool qa,.slice na1 na2 na3,.slice va1 va2 va3]/\v14=.int .i64 (y.ls.length:Int)/\ ∃g4 c4,v16=.slice (some ⟨g4,0,none⟩) (y.ls.length+1) c4/\Hid (wx.there g4 (y.ls.length*7) 7)/\Hid (∃L',MM W0 g s E tv (wx.setCells g4 (y.ls.length*7) #[.int .i64 ka,.string ta,.slice la1 la2 la3,.bool ra,.bool qa,.slice na1 na2 na3,.slice va1 va2 va3].toList) L' ((σ.mv j).set n (y.add [x]))/\MX W0.heap.size wc L σ.N.length σ.C.length (wx.setCells g4 (y.ls.length*7) #[.int .i64 ka,.string ta,.slice la1 la2 la3,.bool ra,.bool qa,.slice na1 na2 na3,.slice va1 va2 va3].toList) L' ((σ.mv j).set n (y.add [x])).N.length ((σ.mv j).set n (y.add [x])).C.length/\L'.A=L.A))
   case first=>
    refine wp_region_noPanic ?_
    refine wp_region_held_drew (S:=(fun w'=>w'.cell? ⟨k1,0,none⟩=some (.pointer (some ⟨L.A n,0,none⟩))/\w'.cell? ⟨k2,0,none⟩=some (.pointer (some ⟨g,0,none⟩))/\w'.cell? ⟨g,5,none⟩=some (.pointer (some ⟨L.A j,0,none⟩))/\w'.cell? ⟨L.A j,0,none⟩=some (.int .i64 ka)/\w'.cell? ⟨L.A j,1,none⟩=some (.string ta)/\w'.cell? ⟨L.A j,2,none⟩=some (.slice la1 la2 la3)/\w'.cell? ⟨L.A j,3,none⟩=some (.bool ra)/\w'.cell? ⟨L.A j,4,none⟩=some (.bool qa)/\w'.cell? ⟨L.A j,5,none⟩=some (.slice na1 na2 na3)/\w'.cell? ⟨L.A j,6,none⟩=some (.slice va1 va2 va3))) (by kernel_rfl) (by(try dsimp only);(first | exact HF.out _ (fun _ _ _ _=>rfl) | exact HF.out _ (fun k hk _ _=>(zA (qa1 wc _)).block k hk) | exact HF.out _ HG.out.1 | exact HF.out _ (fun k hk d1 d2=>(zB _ _ _ _ (fun e=>d2 (by have e:k=L.A n:=e;rw[e];exact HA1.out))).trans (HG.out.1 k hk d1 d2)))) (fun hHeld=>?_)
    refine tkH (i:=0) (v:=?_) rfl (Or.inl ⟨by rfl,?_⟩) ?_
    rotate_left 1
    ·(intro w' hSw;(try dsimp only at hSw);go_simp;(first | done | with_reducible rfl))
    try simp only[Act.put,zE,zG,zF]
    refine tkH (i:=1) (v:=?_) rfl (Or.inl ⟨by rfl,?_⟩) ?_
    rotate_left 1
    ·(intro w' hSw;(try dsimp only at hSw);go_simp;(first | done | with_reducible rfl))
    try simp only[Act.put,zE,zG,zF]
    refine tkH (i:=2) (v:=?_) rfl (Or.inl ⟨by rfl,?_⟩) ?_
    rotate_left 1
    ·(intro w' hSw;(try dsimp only at hSw);go_simp;(first | done | with_reducible rfl))
    try simp only[Act.put,zE,zG,zF]
    refine tkH (i:=4) (v:=?_) rfl (Or.inl ⟨by rfl,?_⟩) ?_
    rotate_left 1
    ·(intro w' hSw;(try dsimp only at hSw);go_simp;(first | done | with_reducible rfl))
    try simp only[Act.put,zE,zG,zF]
    refine tkH (i:=5) (v:=?_) rfl (Or.inl ⟨by rfl,?_⟩) ?_
    rotate_left 1
    ·(intro w' hSw;(try dsimp only at hSw);go_simp;(first | done | with_reducible rfl))
    try simp only[Act.put,zE,zG,zF]
    refine tkH (i:=6) (v:=?_) rfl (Or.inl ⟨by rfl,?_⟩) ?_
    rotate_left 1
    ·(intro w' hSw;(try dsimp only at hSw);go_simp;(first | done | with_reducible rfl))
    try simp only[Act.put,zE,zG,zF]
    refine tkH (i:=7) (v:=?_) rfl (Or.inl ⟨by rfl,?_⟩) ?_
    rotate_left 1
    ·(intro w' hSw;(try dsimp only at hSw);go_simp;(first | done | with_reducible rfl))
    try simp only[Act.put,zE,zG,zF]
    refine tkH (i:=8) (v:=?_) rfl (Or.inl ⟨by rfl,?_⟩) ?_
    rotate_left 1
    ·(intro w' hSw;(try dsimp only at hSw);go_simp;(first | done | with_reducible rfl))
    try simp only[Act.put,zE,zG,zF]
    refine tkH (i:=9) (v:=?_) rfl (Or.inl ⟨by rfl,?_⟩) ?_
    rotate_left 1
    ·(intro w' hSw;(try dsimp only at hSw);go_simp;(first | done | with_reducible rfl))
    try simp only[Act.put,zE,zG,zF]
    refine wpAnyH_ready (rs:=[3,11]) (by kernel_rfl) (by simp) ?_
    refine(AllReadyH.cons rfl (fun K hK=>?_) (AllReadyH.cons rfl (fun K hK=>?_) AllReadyH.nil))
    go_simp
    refine hK.out _ _ (by(try dsimp only);(first | exact HF.out _ (fun _ _ _ _=>rfl) | exact HF.out _ (fun k hk _ _=>(zA (qa1 wc _)).block k hk) | exact HF.out _ HG.out.1 | exact HF.out _ (fun k hk d1 d2=>(zB _ _ _ _ (fun e=>d2 (by have e:k=L.A n:=e;rw[e];exact HA1.out))).trans (HG.out.1 k hk d1 d2)))) (fun hHeld=>?_)
    clear hK K
    try simp only[Act.put,zE,zG,zF]
    refine tkH (i:=10) (v:=?_) rfl (Or.inl ⟨by rfl,?_⟩) ?_
    rotate_left 1
    ·(intro w' hSw;(try dsimp only at hSw);go_simp;(first | done | with_reducible rfl))
    try simp only[Act.put,zE,zG,zF]
    refine wpAnyH_ready (rs:=[11]) (by kernel_rfl) (by simp) ?_
    refine(AllReadyH.cons rfl (fun K hK=>?_) AllReadyH.nil)
    go_simp
    refine hK.out _ _ (by(try dsimp only);(first | exact HF.out _ (fun _ _ _ _=>rfl) | exact HF.out _ (fun k hk _ _=>(zA (qa1 wc _)).block k hk) | exact HF.out _ HG.out.1 | exact HF.out _ (fun k hk d1 d2=>(zB _ _ _ _ (fun e=>d2 (by have e:k=L.A n:=e;rw[e];exact HA1.out))).trans (HG.out.1 k hk d1 d2)))) (fun hHeld=>?_)
    clear hK K
    try simp only[Act.put,zE,zG,zF]
    refine wpAnyH_ready (rs:=[12]) (by kernel_rfl) (by simp) ?_
    refine(AllReadyH.cons rfl (fun K hK=>?_) AllReadyH.nil)
    (first | (refine qcl rfl _ _ rfl (L.Q W0.heap.size n j wc.heap.size) W0.heap.size _ y.ls rfl (HRO.out.below (HBW.out _)) _ [zN] rfl HST.out HLEN.out (HBS.out _) (HFR.out _) ?_;intro v4 w4 hsk hgr hat;obtain⟨g4,c4,rfl⟩:=qe1 hsk;have HG:=zh (HAN.out _ _ hgr);have HT:=zh (H1.out.intoA HX_j.out HX_n.out HNE.out HND.out HV.out (HBW.out _) hsk hgr (by rcases hat with h | h;exact .inl h;exact .inr (h g4 rfl)));have hf4:=HAF.out _ HG.out.2;have hf42:=hf4.2;have hf41:=hf4.1;clear hf4 hsk hgr hat))
    refine hK.out _ _ (by(try dsimp only);(first | exact HF.out _ (fun _ _ _ _=>rfl) | exact HF.out _ (fun k hk _ _=>(zA (qa1 wc _)).block k hk) | exact HF.out _ HG.out.1 | exact HF.out _ (fun k hk d1 d2=>(zB _ _ _ _ (fun e=>d2 (by have e:k=L.A n:=e;rw[e];exact HA1.out))).trans (HG.out.1 k hk d1 d2)))) (fun hHeld=>?_)
    clear hK K
    try simp only[Act.put,zE,zG,zF]
    refine tkH (i:=13) (v:=?_) rfl (Or.inl ⟨by rfl,?_⟩) ?_
    rotate_left 1
    ·(intro w' hSw;(try dsimp only at hSw);go_simp;(first | done | with_reducible rfl))
    try simp only[Act.put,zE,zG,zF]
    refine tkH (i:=14) (v:=?_) rfl (Or.inl ⟨by rfl,?_⟩) ?_
    rotate_left 1
    ·(intro w' hSw;(try dsimp only at hSw);go_simp;(first | done | with_reducible rfl))
    try simp only[Act.put,zE,zG,zF]
    refine wpAnyH_ready (rs:=[15]) (by kernel_rfl) (by simp) ?_
    refine(AllReadyH.cons rfl (fun K hK=>?_) AllReadyH.nil)
    go_simp
    refine hK.out _ _ (by(try dsimp only);(first | exact HF.out _ (fun _ _ _ _=>rfl) | exact HF.out _ (fun k hk _ _=>(zA (qa1 wc _)).block k hk) | exact HF.out _ HG.out.1 | exact HF.out _ (fun k hk d1 d2=>(zB _ _ _ _ (fun e=>d2 (by have e:k=L.A n:=e;rw[e];exact HA1.out))).trans (HG.out.1 k hk d1 d2)))) (fun hHeld=>?_)
    clear hK K
    try simp only[Act.put,zE,zG,zF]
    refine wpAnyH_done (by kernel_rfl) ?_ _
    refine NoPanic.normal ?_
    rotate_left 1
    go_simp
    refine hK.out _ _ (by(try dsimp only);(first | exact HF.out _ (fun _ _ _ _=>rfl) | exact HF.out _ (fun k hk _ _=>(zA (qa1 wc _)).block k hk) | exact HF.out _ HG.out.1 | exact HF.out _ (fun k hk d1 d2=>(zB _ _ _ _ (fun e=>d2 (by have e:k=L.A n:=e;rw[e];exact HA1.out))).trans (HG.out.1 k hk d1 d2)))) (fun hHeld=>?_)
    clear hK K
    try simp only[Act.put,zE,zG,zF]
    refine wpAnyH_ready (rs:=[3]) (by kernel_rfl) (by simp) ?_
    refine(AllReadyH.cons rfl (fun K hK=>?_) AllReadyH.nil)
    go_simp
    refine hK.out _ _ (by(try dsimp only);(first | exact HF.out _ (fun _ _ _ _=>rfl) | exact HF.out _ (fun k hk _ _=>(zA (qa1 wc _)).block k hk) | exact HF.out _ HG.out.1 | exact HF.out _ (fun k hk d1 d2=>(zB _ _ _ _ (fun e=>d2 (by have e:k=L.A n:=e;rw[e];exact HA1.out))).trans (HG.out.1 k hk d1 d2)))) (fun hHeld=>?_)
    clear hK K
    try simp only[Act.put,zE,zG,zF]
    refine tkH (i:=10) (v:=?_) rfl (Or.inl ⟨by rfl,?_⟩) ?_
    rotate_left 1
    ·(intro w' hSw;(try dsimp only at hSw);go_simp;(first | done | with_reducible rfl))
    try simp only[Act.put,zE,zG,zF]
    refine wpAnyH_ready (rs:=[12]) (by kernel_rfl) (by simp) ?_
    refine(AllReadyH.cons rfl (fun K hK=>?_) AllReadyH.nil)
    (first | (refine qcl rfl _ _ rfl (L.Q W0.heap.size n j wc.heap.size) W0.heap.size _ y.ls rfl (HRO.out.below (HBW.out _)) _ [zN] rfl HST.out HLEN.out (HBS.out _) (HFR.out _) ?_;intro v4 w4 hsk hgr hat;obtain⟨g4,c4,rfl⟩:=qe1 hsk;have HG:=zh (HAN.out _ _ hgr);have HT:=zh (H1.out.intoA HX_j.out HX_n.out HNE.out HND.out HV.out (HBW.out _) hsk hgr (by rcases hat with h | h;exact .inl h;exact .inr (h g4 rfl)));have hf4:=HAF.out _ HG.out.2;have hf42:=hf4.2;have hf41:=hf4.1;clear hf4 hsk hgr hat))
    refine hK.out _ _ (by(try dsimp only);(first | exact HF.out _ (fun _ _ _ _=>rfl) | exact HF.out _ (fun k hk _ _=>(zA (qa1 wc _)).block k hk) | exact HF.out _ HG.out.1 | exact HF.out _ (fun k hk d1 d2=>(zB _ _ _ _ (fun e=>d2 (by have e:k=L.A n:=e;rw[e];exact HA1.out))).trans (HG.out.1 k hk d1 d2)))) (fun hHeld=>?_)
    clear hK K
    try simp only[Act.put,zE,zG,zF]
    refine tkH (i:=13) (v:=?_) rfl (Or.inl ⟨by rfl,?_⟩) ?_
    rotate_left 1
    ·(intro w' hSw;(try dsimp only at hSw);go_simp;(first | done | with_reducible rfl))
    try simp only[Act.put,zE,zG,zF]
    refine tkH (i:=14) (v:=?_) rfl (Or.inl ⟨by rfl,?_⟩) ?_
    rotate_left 1
    ·(intro w' hSw;(try dsimp only at hSw);go_simp;(first | done | with_reducible rfl))
    try simp only[Act.put,zE,zG,zF]
    refine wpAnyH_ready (rs:=[15]) (by kernel_rfl) (by simp) ?_
    refine(AllReadyH.cons rfl (fun K hK=>?_) AllReadyH.nil)
    go_simp
    refine hK.out _ _ (by(try dsimp only);(first | exact HF.out _ (fun _ _ _ _=>rfl) | exact HF.out _ (fun k hk _ _=>(zA (qa1 wc _)).block k hk) | exact HF.out _ HG.out.1 | exact HF.out _ (fun k hk d1 d2=>(zB _ _ _ _ (fun e=>d2 (by have e:k=L.A n:=e;rw[e];exact HA1.out))).trans (HG.out.1 k hk d1 d2)))) (fun hHeld=>?_)
    clear hK K
    try simp only[Act.put,zE,zG,zF]
    refine wpAnyH_done (by kernel_rfl) ?_ _
    refine NoPanic.normal ?_
    all_goals go_wp2_with fail
    all_goals go_meet
    all_goals exact⟨rfl,rfl,g4,c4,rfl,zh HT.out.2,zh HT.out.1⟩
   case rest=>
    obtain⟨rfl,rfl,g4,c4,rfl,HTH,HTT⟩:=hcut
    have hi0:(0:Int)<=(y.ls.length:Int):=by omega
    have hi1:(y.ls.length:Int)< (y.ls.length:Int)+1:=by omega
    have hi2:(y.ls.length:Int)< ((y.ls.length+1:Nat):Int):=by omega
    go_upto_region 4 with(first | (refine qfv g4 (y.ls.length*7) #[.int .i64 ka,.string ta,.slice la1 la2 la3,.bool ra,.bool qa,.slice na1 na2 na3,.slice va1 va2 va3].toList rfl rfl HTH.out rfl (by intro u hu;simp at hu;rcases hu with rfl | rfl | rfl | rfl | rfl | rfl | rfl<;>rfl) ?_))
    obtain⟨L',hm9,hx9,ha9⟩:=HTT.out
    clear HTT
    simp only[List.toList_toArray]at hm9 hx9
    generalize hwx:wc.setCells g4 (y.ls.length*7) [.int .i64 ka,.string ta,.slice la1 la2 la3,.bool ra,.bool qa,.slice na1 na2 na3,.slice va1 va2 va3]=wx at hm9 hx9⊢
    have HM:=zh hm9
    have HX:=zh hx9
    have HA:=zh ha9
    clear hm9 hx9 ha9
    have XF:=zh (X1.out.trans HX.out)
    have kn9:=HX.out.cell B_n1.out
    have kr9:=HX.out.cell B_r1.out
    unfold ptr at kn9 kr9
    obtain⟨⟨np9,g59,-⟩,gf9,-⟩:=HM.out.gcell
    have gf5:=gf9 5
    have hs:=HM.out.setIs (n:=n) (by show n< ((σ.N.set j none).set n _).length;rw[zD,zD];exact qqg HX_n.out)
    rw[HA.out]at hs
    unfold ptr at hs
    have HS:=zh hs
    clear hs gf9
    go_wp2_with fail
    go_end0
    exact⟨rfl,L',HS.out.1,XF.out.trans HS.out.2⟩
end
section
variable{W0 W:World}{g:Nat}{s:ByteArray}{E:Env}{tv:Value}{L:PLay}{σ:PM}
theorem qsq(h:MM W0 g s E tv W L σ)(hk:σ.k.length<=274877906944)(lv:Int)(ss:List Bs)(v1:Value)(hv1:IsC W (L.P W0.heap.size) g L.A L.B σ.N.length σ.C.length v1 (.perM lv ss))(k1:Nat)(b1:BoxC W (L.P W0.heap.size) (.pointer (some ⟨k1,0,none⟩)) (ptr g))(k2:Nat)(b2:BoxC W (L.P W0.heap.size) (.pointer (some ⟨k2,0,none⟩)) (.int .i64 lv))(k3:Nat)(b3:BoxC W (L.P W0.heap.size) (.pointer (some ⟨k3,0,none⟩)) v1):
 Calls Tryz.prog 217 #[.pointer (some ⟨k1,0,none⟩),.pointer (some ⟨k2,0,none⟩),.pointer (some ⟨k3,0,none⟩)] W (SO (stp E (.perh lv ss) σ) W0 g s E tv W L σ.N.length σ.C.length):=by
 obtain⟨R,hR⟩: ∃R:Rs PM,R=stp E (.perh lv ss) σ:=⟨_,rfl⟩
 rw[<-hR]
 have HR:=zh hR
 have H0:=zh h
 have X0:=zh (MX.refl W0.heap.size W L σ.N.length σ.C.length)
 have HK:=zh hk
 have B_r:=zh b1
 have cr0:=b1.cellv
 unfold ptr at cr0
 have B_lv:=zh b2
 have clv0:=b2.cellv
 have B_m:=zh b3
 have cm0:=b3.cellv
 obtain⟨fKv1,fFv1,fCv1,rfl⟩:=hv1.fn
 have Vv1:=zh hv1
 clear hv1
 clear h hR hk b1 b2 b3
 try unfold ptr
 go_enter Tryz.func217,Tryz.ntmps217
 go_wp2_with fail
 have HCrlvm:Hid (∀ {w':World} {L':PLay} {nN nC:Nat},MX W0.heap.size W L σ.N.length σ.C.length w' L' nN nC->w'.cell? ⟨k1,0,none⟩=some (.pointer (some ⟨g,0,none⟩))/\w'.cell? ⟨k2,0,none⟩=some (.int .i64 lv)/\w'.cell? ⟨k3,0,none⟩=some (.func (.func fKv1) fFv1 fCv1)):=zh (fun hx=>⟨hx.cell B_r.out,hx.cell B_lv.out,hx.cell B_m.out⟩)
 have hb:=zA (Below.refl W.heap.size W)
 have H1:=zh (H0.out.below hb)
 have Y1:=zh (H0.out.mxb hb)
 have X1:=zh (X0.out.trans Y1.out)
 have B_r_1:=zh (Y1.out.box B_r.out)
 have cr1:=B_r_1.out.cellv
 unfold ptr at cr1
 have B_lv_1:=zh (Y1.out.box B_lv.out)
 have clv1:=B_lv_1.out.cellv
 have B_m_1:=zh (Y1.out.box B_m.out)
 have cm1:=B_m_1.out.cellv
 have v3_1:=zh (Y1.out.isc Vv1.out)
 clear hb
 go_region_held3 (fun w'=>w'.cell? ⟨k1,0,none⟩=some (.pointer (some ⟨g,0,none⟩))/\w'.cell? ⟨k2,0,none⟩=some (.int .i64 lv)/\w'.cell? ⟨k3,0,none⟩=some (.func (.func fKv1) fFv1 fCv1)) (first | exact HCrlvm.out X3.out | exact HCrlvm.out X2.out | exact HCrlvm.out X1.out | exact HCrlvm.out (X2.out.trans (H2.out.mxb (qa1 _ _))) | exact HCrlvm.out (X3.out.trans (H3.out.mxb (qa1 _ _)))) (first | (go_at_call 37;have q2:=qds H1.out lv;try unfold ptr at q2;refine q2.mono ?_;clear q2;rintro e w2 ⟨v1,rfl,hv,hb⟩;obtain⟨fK2,fF2,fC2,rfl⟩:=hv.fn;have V2:=zh hv;have H2:=zh (H1.out.below hb);have Y2:=zh (H1.out.mxb hb);have X2:=zh (X1.out.trans Y2.out);have B_r_2:=zh (Y2.out.box B_r_1.out);have cr2:=B_r_2.out.cellv;unfold ptr at cr2;have B_lv_2:=zh (Y2.out.box B_lv_1.out);have clv2:=B_lv_2.out.cellv;have B_m_2:=zh (Y2.out.box B_m_1.out);have cm2:=B_m_2.out.cellv;have v3_2:=zh (Y2.out.isc v3_1.out);clear hv hb) | (go_at_call 36;refine(qbh H2.out _ (by simp) [_,_] [.expr lv,.perM lv ss] 2 rfl (zI HK.out (by decide)) (by decide) _ ⟨V2.out,⟨v3_2.out,trivial⟩⟩).mono ?_;rintro e w3 ⟨rfl,M3,hm,hx⟩;have H3:=zh hm;have Y3:=zh hx;have X3:=zh (X2.out.trans Y3.out);have B_r_3:=zh (Y3.out.box B_r_2.out);have cr3:=B_r_3.out.cellv;unfold ptr at cr3;have B_lv_3:=zh (Y3.out.box B_lv_2.out);have clv3:=B_lv_3.out.cellv;have B_m_3:=zh (Y3.out.box B_m_2.out);have cm3:=B_m_3.out.cellv;have v3_3:=zh (Y3.out.isc v3_2.out);have v1_3:=zh (Y3.out.isc V2.out);clear hm hx))
 have e9:R=.ok (σ.plan [.expr lv,.perM lv ss]):=by
  rw[HR.out];try simp[stp,bind,Except.bind,pure,Except.pure,Except.map]
 subst e9
 go_wp2_with fail
 go_end0
 exact⟨rfl,M3,H3.out,X3.out⟩
theorem qso(h:MM W0 g s E tv W L σ)(hk:σ.k.length<=274877906944)(op:Bs)(left:Nat)(hop:(⟨op.toArray⟩:ByteArray).size<=1048576)(k1:Nat)(b1:BoxC W (L.P W0.heap.size) (.pointer (some ⟨k1,0,none⟩)) (.string ⟨op.toArray⟩))(k2:Nat)(b2:BoxC W (L.P W0.heap.size) (.pointer (some ⟨k2,0,none⟩)) (ptr (L.A left)))(k3:Nat)(b3:BoxC W (L.P W0.heap.size) (.pointer (some ⟨k3,0,none⟩)) (ptr g))(hns:stp E (.per2 op left) σ≠ .error .stuck):
 Calls Tryz.prog 216 #[.pointer (some ⟨k1,0,none⟩),.pointer (some ⟨k2,0,none⟩),.pointer (some ⟨k3,0,none⟩)] W (SO (stp E (.per2 op left) σ) W0 g s E tv W L σ.N.length σ.C.length):=by
 obtain⟨R,hR⟩: ∃R:Rs PM,R=stp E (.per2 op left) σ:=⟨_,rfl⟩
 rw[<-hR]at hns⊢
 have HNS:=zh hns
 have HR:=zh hR
 have H0:=zh h
 have X0:=zh (MX.refl W0.heap.size W L σ.N.length σ.C.length)
 have HK:=zh hk
 have B_op:=zh b1
 have cop0:=b1.cellv
 have B_left:=zh b2
 have cleft0:=b2.cellv
 unfold ptr at cleft0
 have B_r:=zh b3
 have cr0:=b3.cellv
 unfold ptr at cr0
 have HOP:=zh hop
 clear hop
 clear h hR hk b1 b2 b3 hns
 try unfold ptr
 go_enter Tryz.func216,Tryz.ntmps216
 rcases hcu:σ.cur with b9 | ⟨j,x⟩
 ·obtain rfl:=qcy hcu
  exact absurd (by rw[HR.out];simp[stp,qm0,hcu,bind,Except.bind]) HNS.out
 have HCU:=zh hcu
 obtain⟨hn_j,hx_j⟩:=qdp hcu
 have HX_j:=zh hx_j
 have HN_j:=zh hn_j
 clear hcu hn_j hx_j
 rcases hnd_left:σ.nd left with b9 | y
 ·obtain rfl:=qe8 hnd_left
  exact absurd (by have hcu:=HCU.out;rw[HR.out];simp[stp,qm0,hcu,hnd_left,bind,Except.bind]) HNS.out
 have HND_LEFT:=zh hnd_left
 have HX_left:=zh (qgq hnd_left)
 clear hnd_left
 have hnj:σ.nd j=.ok x:=by
  unfold PM.nd;rw[HX_j.out]
 have HNJ:=zh hnj
 clear hnj
 by_cases hne:left=j
 ·exact absurd (by have hcu:=HCU.out;have hnd_left:=HND_LEFT.out;have hnj:=HNJ.out;rw[HR.out];simp[stp,qm0,hcu,hnd_left,hnj,hne,bind,Except.bind]) HNS.out
 have HNE:=zh hne
 clear hne
 have HCB:Hid (∀ {w':World} {L':PLay} {nN nC:Nat},MX W0.heap.size W L σ.N.length σ.C.length w' L' nN nC->w'.cell? ⟨k1,0,none⟩=some (.string ⟨op.toArray⟩)/\w'.cell? ⟨k2,0,none⟩=some (.pointer (some ⟨L.A left,0,none⟩))/\w'.cell? ⟨k3,0,none⟩=some (.pointer (some ⟨g,0,none⟩))):=zh (fun hx=>⟨hx.cell B_op.out,hx.cell B_left.out,hx.cell B_r.out⟩)
 have g5:=H0.out.gcur HN_j.out
 go_wp2_with fail
 have hb:=zA (Below.refl W.heap.size W)
 have H1:=zh (H0.out.below hb)
 have Y1:=zh (H0.out.mxb hb)
 have X1:=zh (X0.out.trans Y1.out)
 have B_op_1:=zh (Y1.out.box B_op.out)
 have cop1:=B_op_1.out.cellv
 have B_left_1:=zh (Y1.out.box B_left.out)
 have cleft1:=B_left_1.out.cellv
 unfold ptr at cleft1
 have B_r_1:=zh (Y1.out.box B_r.out)
 have cr1:=B_r_1.out.cellv
 unfold ptr at cr1
 clear hb
 refine wp_region_noPanic ?_
 refine wp_region_held_drew (S:=(fun w'=>w'.cell? ⟨k1,0,none⟩=some (.string ⟨op.toArray⟩)/\w'.cell? ⟨k2,0,none⟩=some (.pointer (some ⟨L.A left,0,none⟩))/\w'.cell? ⟨k3,0,none⟩=some (.pointer (some ⟨g,0,none⟩)))) (by kernel_rfl) (by(try dsimp only);(first | exact HCB.out XS9.out | exact HCB.out X2.out | exact HCB.out X1.out)) (fun hHeld=>?_)
 refine tkH (i:=0) (v:=?_) rfl (Or.inl ⟨by rfl,?_⟩) ?_
 rotate_left 1
 ·(intro w' hSw;(try dsimp only at hSw);go_simp;(first | done | with_reducible rfl))
 try simp only[Act.put,zE,zG,zF]
 refine tkH (i:=1) (v:=?_) rfl (Or.inl ⟨by rfl,?_⟩) ?_
 rotate_left 1
 ·(intro w' hSw;(try dsimp only at hSw);go_simp;(first | done | with_reducible rfl))
 try simp only[Act.put,zE,zG,zF]
 refine tkH (i:=2) (v:=?_) rfl (Or.inl ⟨by rfl,?_⟩) ?_
 rotate_left 1
 ·(intro w' hSw;(try dsimp only at hSw);go_simp;(first | done | with_reducible rfl))
 try simp only[Act.put,zE,zG,zF]
 refine tkH (i:=3) (v:=?_) rfl (Or.inl ⟨by rfl,?_⟩) ?_
 rotate_left 1
 ·(intro w' hSw;(try dsimp only at hSw);go_simp;(first | done | with_reducible rfl))
 try simp only[Act.put,zE,zG,zF]
 refine tkH (i:=4) (v:=?_) rfl (Or.inl ⟨by rfl,?_⟩) ?_
 rotate_left 1
 ·(intro w' hSw;(try dsimp only at hSw);go_simp;(first | done | with_reducible rfl))
 try simp only[Act.put,zE,zG,zF]
 refine tkH (i:=5) (v:=?_) rfl (Or.inl ⟨by rfl,?_⟩) ?_
 rotate_left 1
 ·(intro w' hSw;(try dsimp only at hSw);go_simp;(first | done | with_reducible rfl))
 try simp only[Act.put,zE,zG,zF]
 refine wpAnyH_ready (rs:=[6]) (by kernel_rfl) (by simp) ?_
 refine AllReadyH.cons rfl (fun K hK=>?_) AllReadyH.nil
 go_simp
 refine hK.out _ _ (by(try dsimp only);(first | exact HCB.out XS9.out | exact HCB.out X2.out | exact HCB.out X1.out)) (fun hHeld=>?_)
 clear hK K
 try simp only[Act.put,zE,zG,zF]
 refine wpAnyH_ready (rs:=[7]) (by kernel_rfl) (by simp) ?_
 refine AllReadyH.cons rfl (fun K hK=>?_) AllReadyH.nil
 go_simp
 try (first | (go_at_call 157;have q2:=twoM (σ:=σ) H1.out HX_left.out HX_j.out ⟨op.toArray⟩ HOP.out;refine q2.mono ?_;clear q2;rintro e w2 ⟨M2,rfl,hm,hx⟩;have gf9:=hm.gcell.2.1 5;obtain⟨⟨np9,g59,-⟩,-,-⟩:=hm.gcell;have hs9:=hm.setIs (n:=σ.N.length) (by show _< (((σ.N.set _ _).set _ _)++[_]).length;simp);unfold ptr at hs9;have HS9:=zh hs9;clear hs9;have H2:=zh hm;have Y2:=zh hx;have X2:=zh (X1.out.trans Y2.out);have B_op_2:=zh (Y2.out.box B_op_1.out);have cop2:=B_op_2.out.cellv;have B_left_2:=zh (Y2.out.box B_left_1.out);have cleft2:=B_left_2.out.cellv;unfold ptr at cleft2;have B_r_2:=zh (Y2.out.box B_r_1.out);have cr2:=B_r_2.out.cellv;unfold ptr at cr2;clear hm hx;have XS9:=zh (X2.out.trans HS9.out.2)))
 refine hK.out _ _ (by(try dsimp only);(first | exact HCB.out XS9.out | exact HCB.out X2.out | exact HCB.out X1.out)) (fun hHeld=>?_)
 clear hK K
 try simp only[Act.put,zE,zG,zF]
 refine tkH (i:=8) (v:=?_) rfl (Or.inl ⟨by rfl,?_⟩) ?_
 rotate_left 1
 ·(intro w' hSw;(try dsimp only at hSw);go_simp;(first | done | with_reducible rfl))
 try simp only[Act.put,zE,zG,zF]
 refine tkH (i:=9) (v:=?_) rfl (Or.inl ⟨by rfl,?_⟩) ?_
 rotate_left 1
 ·(intro w' hSw;(try dsimp only at hSw);go_simp;(first | done | with_reducible rfl))
 try simp only[Act.put,zE,zG,zF]
 refine wpAnyH_ready (rs:=[10]) (by kernel_rfl) (by simp) ?_
 refine AllReadyH.cons rfl (fun K hK=>?_) AllReadyH.nil
 go_simp
 refine hK.out _ _ (by(try dsimp only);(first | exact HCB.out XS9.out | exact HCB.out X2.out | exact HCB.out X1.out)) (fun hHeld=>?_)
 clear hK K
 try simp only[Act.put,zE,zG,zF]
 refine wpAnyH_done (by kernel_rfl) ?_ _
 refine NoPanic.normal ?_
 have H3:=zh HS9.out.1
 have Y3:=zh HS9.out.2
 have X3:=zh (X2.out.trans Y3.out)
 have B_op_3:=zh (Y3.out.box B_op_2.out)
 have cop3:=B_op_3.out.cellv
 have B_left_3:=zh (Y3.out.box B_left_2.out)
 have cleft3:=B_left_3.out.cellv
 unfold ptr at cleft3
 have B_r_3:=zh (Y3.out.box B_r_2.out)
 have cr3:=B_r_3.out.cellv
 unfold ptr at cr3
 have e9:R=.ok (((((σ.mv left).mv j).new (nkt 14 ⟨op.toArray⟩ [y,x])).is σ.N.length)):=by
  have hcu:=HCU.out;have hnd_left:=HND_LEFT.out;have hnj:=HNJ.out;have hne:=HNE.out;rw[HR.out];try simp[stp,qm0,hcu,hnd_left,hnj,hne,bind,Except.bind,pure,Except.pure,Except.map]
 subst e9
 go_wp2_with fail
 go_end0
 exact⟨rfl,M2,H3.out,X3.out⟩
end
end Go.Proofs.YtdhadeeajgoedaaGreat
