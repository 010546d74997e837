import Derived.Test.YtdhadeeajgoedaaGreatL35
set_option maxRecDepth 100000
set_option maxHeartbeats 4000000
set_option linter.all false
open Go.RowKit.Below renaming drew→zA
open List renaming length_cons→zB,length_set→zC
open Nat renaming le_refl→zD,le_trans→zE,lt_of_lt_of_le→zF
namespace Go.Proofs.YtdhadeeajgoedaaGreat
open Go.RowKit Go.PlainAid
section
variable{W0 W:World}{g:Nat}{s:ByteArray}{E:Env}{tv:Value}{L:PLay}{σ:PM}
theorem qzi(o:Bs):pr ⟨o.toArray⟩=⟨(qfc o).toArray⟩:=by
 unfold pr
 simp[prL,qfc]
theorem qvu(h:MM W0 g s E tv W L σ)(hk:σ.k.length<=274877906944)(n:Nat)(o:Bs)(one:Stp)(v1:Value)(hv1:IsC W (L.P W0.heap.size) g L.A L.B σ.N.length σ.C.length v1 (one))(k1:Nat)(b1:BoxC W (L.P W0.heap.size) (.pointer (some ⟨k1,0,none⟩)) (ptr g))(k2:Nat)(b2:BoxC W (L.P W0.heap.size) (.pointer (some ⟨k2,0,none⟩)) (.string ⟨o.toArray⟩))(k3:Nat)(b3:BoxC W (L.P W0.heap.size) (.pointer (some ⟨k3,0,none⟩)) (ptr (L.A n)))(k4:Nat)(b4:BoxC W (L.P W0.heap.size) (.pointer (some ⟨k4,0,none⟩)) v1)(hns:stp E (.box n o one) σ≠ .error .stuck):
 Calls Tryz.prog 201 #[.pointer (some ⟨k1,0,none⟩),.pointer (some ⟨k2,0,none⟩),.pointer (some ⟨k3,0,none⟩),.pointer (some ⟨k4,0,none⟩)] W (SO (stp E (.box n o one) σ) W0 g s E tv W L σ.N.length σ.C.length):=by
 obtain⟨R,hR⟩: ∃R:Rs PM,R=stp E (.box n o one) σ:=⟨_,rfl⟩
 rw[<-hR]at hns⊢
 have HNS:=zh hns
 have HR:=zh hR
 have H0:=zh h
 have X0:=zh (MX.refl W0.heap.size W L σ.N.length σ.C.length)
 have HK:=zh hk
 have B_r:=zh b1
 have cr0:=b1.cellv
 unfold ptr at cr0
 have B_o:=zh b2
 have co0:=b2.cellv
 have B_n:=zh b3
 have cn0:=b3.cellv
 unfold ptr at cn0
 have B_v:=zh b4
 have cv0:=b4.cellv
 obtain⟨fKv1,fFv1,fCv1,rfl⟩:=hv1.fn
 have Vv1:=zh hv1
 clear hv1
 clear h hR hk b1 b2 b3 b4 hns
 try unfold ptr
 go_enter Tryz.func201,Tryz.ntmps201
 rcases hnd_n:σ.nd n with b9 | y
 ·obtain rfl:=qe8 hnd_n
  exact absurd (by rw[HR.out];simp[stp,msE,hnd_n,bind,Except.bind]) HNS.out
 have HND_N:=zh hnd_n
 have HX_n:=zh (qgq hnd_n)
 clear hnd_n
 have HCrn:Hid (∀ {w':World} {L':PLay} {nN nC:Nat},MX W0.heap.size W L σ.N.length σ.C.length w' L' nN nC->w'.cell? ⟨k1,0,none⟩=some (.pointer (some ⟨g,0,none⟩))/\w'.cell? ⟨k3,0,none⟩=some (.pointer (some ⟨L.A n,0,none⟩))):=zh (fun hx=>⟨hx.cell B_r.out,hx.cell B_n.out⟩)
 have HCrnv:Hid (∀ {w':World} {L':PLay} {nN nC:Nat},MX W0.heap.size W L σ.N.length σ.C.length w' L' nN nC->w'.cell? ⟨k1,0,none⟩=some (.pointer (some ⟨g,0,none⟩))/\w'.cell? ⟨k3,0,none⟩=some (.pointer (some ⟨L.A n,0,none⟩))/\w'.cell? ⟨k4,0,none⟩=some (.func (.func fKv1) fFv1 fCv1)):=zh (fun hx=>⟨hx.cell B_r.out,hx.cell B_n.out,hx.cell B_v.out⟩)
 go_wp2_with fail
 have q1:=qdd H0.out o
 try unfold ptr at q1
 refine q1.mono ?_
 clear q1
 intro e w1 h1
 rcases hr1:sgE E 9 o σ.i with x9 | ⟨b,j⟩
 ·obtain rfl:=qax (by first | exact qae hr1 | exact qag hr1 | exact qaf hr1)
  rw[hr1]at h1
  obtain⟨⟨u,pv,rfl⟩,hb⟩:=h1
  have HB9:=zh hb
  have HR1:=zh hr1
  have e9:R=.error .die:=by
   have hnd_n:=HND_N.out;have hr1:=HR1.out;rw[HR.out];try simp[stp,msE,hnd_n,hr1,bind,Except.bind,pure,Except.pure,Except.map]
  subst e9
  clear hb hr1
  go_wp2_with fail
  exact⟨rfl,⟨_,_,rfl⟩,HB9.out⟩
 ·rw[hr1]at h1
  have HR1:=zh hr1
  obtain⟨rfl,hm,hx⟩:=h1
  have H1:=zh hm
  have Y1:=zh hx
  have X1:=zh (X0.out.trans Y1.out)
  have B_r_1:=zh (Y1.out.box B_r.out)
  have cr1:=B_r_1.out.cellv
  unfold ptr at cr1
  have B_o_1:=zh (Y1.out.box B_o.out)
  have co1:=B_o_1.out.cellv
  have B_n_1:=zh (Y1.out.box B_n.out)
  have cn1:=B_n_1.out.cellv
  unfold ptr at cn1
  have B_v_1:=zh (Y1.out.box B_v.out)
  have cv1:=B_v_1.out.cellv
  have v1_1:=zh (Y1.out.isc Vv1.out)
  clear hm hx hr1
  cases b
  ·have e9:R=.error .die:=by
    have hnd_n:=HND_N.out;have hr1:=HR1.out;rw[HR.out];try simp[stp,msE,hnd_n,hr1,bind,Except.bind,pure,Except.pure,Except.map]
   subst e9
   go_wp2_with fail
   refine(qat _).mono ?_
   rintro e w9 ⟨⟨u,pv,rfl⟩,rfl⟩
   go_wp2_with fail
   exact⟨rfl,⟨_,_,rfl⟩,H1.out.bel⟩
  ·go_wp2_with fail
   refine(qas _).mono ?_
   rintro e w9 ⟨rfl,rfl⟩
   go_wp2_with fail
   have hb:=zA (Below.refl w1.heap.size w1)
   have H2:=zh (H1.out.below hb)
   have Y2:=zh (H1.out.mxb hb)
   have X2:=zh (X1.out.trans Y2.out)
   have B_r_2:=zh (Y2.out.box B_r_1.out)
   have cr2:=B_r_2.out.cellv
   unfold ptr at cr2
   have B_o_2:=zh (Y2.out.box B_o_1.out)
   have co2:=B_o_2.out.cellv
   have B_n_2:=zh (Y2.out.box B_n_1.out)
   have cn2:=B_n_2.out.cellv
   unfold ptr at cn2
   have B_v_2:=zh (Y2.out.box B_v_1.out)
   have cv2:=B_v_2.out.cellv
   have v1_2:=zh (Y2.out.isc v1_1.out)
   clear hb
   go_region_held3 (fun w'=>w'.cell? ⟨k1,0,none⟩=some (.pointer (some ⟨g,0,none⟩))/\w'.cell? ⟨k3,0,none⟩=some (.pointer (some ⟨L.A n,0,none⟩))) (first | exact HCrn.out XS9.out | exact HCrn.out X3.out | exact HCrn.out X2.out) (first | (go_at_call 113;have q3:=qku (σ:=σ.at_ j) H2.out;try unfold ptr at q3;refine q3.mono ?_;clear q3;rintro e w3 ⟨rfl,hm,hx⟩;have H3:=zh hm;have Y3:=zh hx;have X3:=zh (X2.out.trans Y3.out);have B_r_3:=zh (Y3.out.box B_r_2.out);have cr3:=B_r_3.out.cellv;unfold ptr at cr3;have B_o_3:=zh (Y3.out.box B_o_2.out);have co3:=B_o_3.out.cellv;have B_n_3:=zh (Y3.out.box B_n_2.out);have cn3:=B_n_3.out.cellv;unfold ptr at cn3;have B_v_3:=zh (Y3.out.box B_v_2.out);have cv3:=B_v_3.out.cellv;have v1_3:=zh (Y3.out.isc v1_2.out);clear hm hx;obtain⟨ka3,ta3,la3,ra3,qa3,na3,va3,hNd3⟩:=H3.out.ncells HX_n.out;obtain⟨m0_3,m1_3,m2_3,m3_3,m4_3,m5_3,m6_3⟩:=hNd3.cells;have mf3_3:=hNd3.frz 3;clear hNd3;have HS9:=zh (MM.setBrk (σ:=σ.at_ j) H3.out HX_n.out (brE E j));have XS9:=zh (X3.out.trans HS9.out.2)))
   have H4:=zh HS9.out.1
   have Y4:=zh HS9.out.2
   have X4:=zh (X3.out.trans Y4.out)
   have B_r_4:=zh (Y4.out.box B_r_3.out)
   have cr4:=B_r_4.out.cellv
   unfold ptr at cr4
   have B_o_4:=zh (Y4.out.box B_o_3.out)
   have co4:=B_o_4.out.cellv
   have B_n_4:=zh (Y4.out.box B_n_3.out)
   have cn4:=B_n_4.out.cellv
   unfold ptr at cn4
   have B_v_4:=zh (Y4.out.box B_v_3.out)
   have cv4:=B_v_4.out.cellv
   have v1_4:=zh (Y4.out.isc v1_3.out)
   have HNL:=zh (show n< ((σ.at_ j).set n (y.brk' (brE E j))).N.length from by show n< (σ.N.set n _).length;rw[zC];exact qqg HX_n.out)
   obtain⟨e,he⟩: ∃e,e=qfc o:=⟨_,rfl⟩
   have HPE:=zh he.symm
   have HPR:=zh (fun w=>qv6 ⟨o.toArray⟩ w)
   rw[qzi,<-he]at HPR
   clear he
   go_wp2_with fail
   refine(HPR.out _).mono ?_
   rintro e6 w6 ⟨rfl,rfl⟩
   go_wp2_with fail
   have hb:=zA (Below.refl (w3.setCell ⟨L.A n,3,none⟩ (.bool (brE E j))).heap.size (w3.setCell ⟨L.A n,3,none⟩ (.bool (brE E j))))
   have H5:=zh (H4.out.below hb)
   have Y5:=zh (H4.out.mxb hb)
   have X5:=zh (X4.out.trans Y5.out)
   have B_r_5:=zh (Y5.out.box B_r_4.out)
   have cr5:=B_r_5.out.cellv
   unfold ptr at cr5
   have B_o_5:=zh (Y5.out.box B_o_4.out)
   have co5:=B_o_5.out.cellv
   have B_n_5:=zh (Y5.out.box B_n_4.out)
   have cn5:=B_n_5.out.cellv
   unfold ptr at cn5
   have B_v_5:=zh (Y5.out.box B_v_4.out)
   have cv5:=B_v_5.out.cellv
   have v1_5:=zh (Y5.out.isc v1_4.out)
   clear hb
   go_region_held3 (fun w'=>w'.cell? ⟨k1,0,none⟩=some (.pointer (some ⟨g,0,none⟩))/\w'.cell? ⟨k3,0,none⟩=some (.pointer (some ⟨L.A n,0,none⟩))) (first | exact HCrn.out X8.out | exact HCrn.out X7.out | exact HCrn.out X6.out | exact HCrn.out X5.out | exact HCrn.out (X6.out.trans (H6.out.mxb (qa1 _ _))) | exact HCrn.out (X7.out.trans (H7.out.mxb (qa1 _ _))) | exact HCrn.out (X8.out.trans (H8.out.mxb (qa1 _ _)))) (first | (go_at_call 188;have q6:=qkm (σ:=((σ.at_ j).set n (y.brk' (brE E j)))) H5.out e;try unfold ptr at q6;refine q6.mono ?_;clear q6;rintro e w6 ⟨ve,rfl,hv,hb⟩;obtain⟨fK6,fF6,fC6,rfl⟩:=hv.fn;have V6:=zh hv;have H6:=zh (H5.out.below hb);have Y6:=zh (H5.out.mxb hb);have X6:=zh (X5.out.trans Y6.out);have B_r_6:=zh (Y6.out.box B_r_5.out);have cr6:=B_r_6.out.cellv;unfold ptr at cr6;have B_o_6:=zh (Y6.out.box B_o_5.out);have co6:=B_o_6.out.cellv;have B_n_6:=zh (Y6.out.box B_n_5.out);have cn6:=B_n_6.out.cellv;unfold ptr at cn6;have B_v_6:=zh (Y6.out.box B_v_5.out);have cv6:=B_v_6.out.cellv;have v1_6:=zh (Y6.out.isc v1_5.out);clear hv hb) | (go_at_call 189;have q7:=qlv (σ:=((σ.at_ j).set n (y.brk' (brE E j)))) H6.out n 9 e _ V6.out HNL.out;try unfold ptr at q7;refine q7.mono ?_;clear q7;rintro e w7 ⟨vt,rfl,hv,hb⟩;obtain⟨fK7,fF7,fC7,rfl⟩:=hv.fn;have V7:=zh hv;have H7:=zh (H6.out.below hb);have Y7:=zh (H6.out.mxb hb);have X7:=zh (X6.out.trans Y7.out);have B_r_7:=zh (Y7.out.box B_r_6.out);have cr7:=B_r_7.out.cellv;unfold ptr at cr7;have B_o_7:=zh (Y7.out.box B_o_6.out);have co7:=B_o_7.out.cellv;have B_n_7:=zh (Y7.out.box B_n_6.out);have cn7:=B_n_7.out.cellv;unfold ptr at cn7;have B_v_7:=zh (Y7.out.box B_v_6.out);have cv7:=B_v_7.out.cellv;have v1_7:=zh (Y7.out.isc v1_6.out);have ve_7:=zh (Y7.out.isc V6.out);clear hv hb) | (go_at_call 36;refine(qbh H7.out _ (by simp) [_] [.tail n 9 e] 1 rfl (zE HK.out (by decide)) (by decide) _ ⟨V7.out,trivial⟩).mono ?_;rintro e w8 ⟨rfl,M8,hm,hx⟩;have H8:=zh hm;have Y8:=zh hx;have X8:=zh (X7.out.trans Y8.out);have B_r_8:=zh (Y8.out.box B_r_7.out);have cr8:=B_r_8.out.cellv;unfold ptr at cr8;have B_o_8:=zh (Y8.out.box B_o_7.out);have co8:=B_o_8.out.cellv;have B_n_8:=zh (Y8.out.box B_n_7.out);have cn8:=B_n_8.out.cellv;unfold ptr at cn8;have B_v_8:=zh (Y8.out.box B_v_7.out);have cv8:=B_v_8.out.cellv;have v1_8:=zh (Y8.out.isc v1_7.out);have ve_8:=zh (Y8.out.isc ve_7.out);have vt_8:=zh (Y8.out.isc V7.out);clear hm hx))
   have An9:=zh (Y8.out.A n HNL.out)
   have Nb9:=zh (zF HNL.out Y8.out.N)
   cases hs8:E.sign (pz j) e
   ·have HS8:=zh hs8
    go_wp2_with fail
    have q9:=qcb (σ:=(((σ.at_ j).set n (y.brk' (brE E j))).plan [.tail n 9 e])) H8.out e
    rw[show E.sign (pz (((σ.at_ j).set n (y.brk' (brE E j))).plan [.tail n 9 e]).i) e=_ from HS8.out]at q9
    try unfold ptr at q9
    refine q9.mono ?_
    clear q9
    rintro e w9 ⟨rfl,hm,hx⟩
    have H9:=zh hm
    have Y9:=zh hx
    have X9:=zh (X8.out.trans Y9.out)
    have B_r_9:=zh (Y9.out.box B_r_8.out)
    have cr9:=B_r_9.out.cellv
    unfold ptr at cr9
    have B_o_9:=zh (Y9.out.box B_o_8.out)
    have co9:=B_o_9.out.cellv
    have B_n_9:=zh (Y9.out.box B_n_8.out)
    have cn9:=B_n_9.out.cellv
    unfold ptr at cn9
    have B_v_9:=zh (Y9.out.box B_v_8.out)
    have cv9:=B_v_9.out.cellv
    have v1_9:=zh (Y9.out.isc v1_8.out)
    have ve_9:=zh (Y9.out.isc ve_8.out)
    have vt_9:=zh (Y9.out.isc vt_8.out)
    have An_9:=zh ((Y9.out.A _ Nb9.out).trans An9.out)
    have Nbn_9:=zh (zF Nb9.out Y9.out.N)
    clear hm hx
    go_wp2_with fail
    have hb:=zA (Below.refl w9.heap.size w9)
    have H10:=zh (H9.out.below hb)
    have Y10:=zh (H9.out.mxb hb)
    have X10:=zh (X9.out.trans Y10.out)
    have B_r_10:=zh (Y10.out.box B_r_9.out)
    have cr10:=B_r_10.out.cellv
    unfold ptr at cr10
    have B_o_10:=zh (Y10.out.box B_o_9.out)
    have co10:=B_o_10.out.cellv
    have B_n_10:=zh (Y10.out.box B_n_9.out)
    have cn10:=B_n_10.out.cellv
    unfold ptr at cn10
    have B_v_10:=zh (Y10.out.box B_v_9.out)
    have cv10:=B_v_10.out.cellv
    have v1_10:=zh (Y10.out.isc v1_9.out)
    have ve_10:=zh (Y10.out.isc ve_9.out)
    have vt_10:=zh (Y10.out.isc vt_9.out)
    have An_10:=zh ((Y10.out.A _ Nbn_9.out).trans An_9.out)
    have Nbn_10:=zh (zF Nbn_9.out Y10.out.N)
    clear hb
    go_region_held3 (fun w'=>w'.cell? ⟨k1,0,none⟩=some (.pointer (some ⟨g,0,none⟩))/\w'.cell? ⟨k3,0,none⟩=some (.pointer (some ⟨L.A n,0,none⟩))/\w'.cell? ⟨k4,0,none⟩=some (.func (.func fKv1) fFv1 fCv1)) (first | exact HCrnv.out X13.out | exact HCrnv.out X12.out | exact HCrnv.out X11.out | exact HCrnv.out X10.out | exact HCrnv.out (X11.out.trans (H11.out.mxb (qa1 _ _))) | exact HCrnv.out (X12.out.trans (H12.out.mxb (qa1 _ _))) | exact HCrnv.out (X13.out.trans (H13.out.mxb (qa1 _ _)))) (first | (go_at_call 73;have q11:=ql4 (σ:=(((σ.at_ j).set n (y.brk' (brE E j))).plan [.tail n 9 e])) H10.out one _ v1_10.out;try unfold ptr at q11;refine q11.mono ?_;clear q11;rintro e w11 ⟨vi,rfl,hv,hb⟩;obtain⟨fK11,fF11,fC11,rfl⟩:=hv.fn;have V11:=zh hv;have H11:=zh (H10.out.below hb);have Y11:=zh (H10.out.mxb hb);have X11:=zh (X10.out.trans Y11.out);have B_r_11:=zh (Y11.out.box B_r_10.out);have cr11:=B_r_11.out.cellv;unfold ptr at cr11;have B_o_11:=zh (Y11.out.box B_o_10.out);have co11:=B_o_11.out.cellv;have B_n_11:=zh (Y11.out.box B_n_10.out);have cn11:=B_n_11.out.cellv;unfold ptr at cn11;have B_v_11:=zh (Y11.out.box B_v_10.out);have cv11:=B_v_11.out.cellv;have v1_11:=zh (Y11.out.isc v1_10.out);have ve_11:=zh (Y11.out.isc ve_10.out);have vt_11:=zh (Y11.out.isc vt_10.out);have An_11:=zh ((Y11.out.A _ Nbn_10.out).trans An_10.out);have Nbn_11:=zh (zF Nbn_10.out Y11.out.N);clear hv hb) | (go_at_call 74;have q12:=qzx (σ:=(((σ.at_ j).set n (y.brk' (brE E j))).plan [.tail n 9 e])) H11.out n [44] (.item one) _ V11.out Nbn_11.out;rw[An_11.out]at q12;try unfold ptr at q12;refine q12.mono ?_;clear q12;rintro e w12 ⟨vw,rfl,hv,hb⟩;obtain⟨fK12,fF12,fC12,rfl⟩:=hv.fn;have V12:=zh hv;have H12:=zh (H11.out.below hb);have Y12:=zh (H11.out.mxb hb);have X12:=zh (X11.out.trans Y12.out);have B_r_12:=zh (Y12.out.box B_r_11.out);have cr12:=B_r_12.out.cellv;unfold ptr at cr12;have B_o_12:=zh (Y12.out.box B_o_11.out);have co12:=B_o_12.out.cellv;have B_n_12:=zh (Y12.out.box B_n_11.out);have cn12:=B_n_12.out.cellv;unfold ptr at cn12;have B_v_12:=zh (Y12.out.box B_v_11.out);have cv12:=B_v_12.out.cellv;have v1_12:=zh (Y12.out.isc v1_11.out);have ve_12:=zh (Y12.out.isc ve_11.out);have vt_12:=zh (Y12.out.isc vt_11.out);have vi_12:=zh (Y12.out.isc V11.out);have An_12:=zh ((Y12.out.A _ Nbn_11.out).trans An_11.out);have Nbn_12:=zh (zF Nbn_11.out Y12.out.N);clear hv hb) | (go_at_call 36;refine(qbh H12.out _ (by simp) [_] [.row n [44] (.item one)] 1 rfl (by have:=HK.out;show(_::σ.k).length<=_;rw[zB];omega) (by decide) _ ⟨V12.out,trivial⟩).mono ?_;rintro e w13 ⟨rfl,M13,hm,hx⟩;have H13:=zh hm;have Y13:=zh hx;have X13:=zh (X12.out.trans Y13.out);have B_r_13:=zh (Y13.out.box B_r_12.out);have cr13:=B_r_13.out.cellv;unfold ptr at cr13;have B_o_13:=zh (Y13.out.box B_o_12.out);have co13:=B_o_13.out.cellv;have B_n_13:=zh (Y13.out.box B_n_12.out);have cn13:=B_n_13.out.cellv;unfold ptr at cn13;have B_v_13:=zh (Y13.out.box B_v_12.out);have cv13:=B_v_13.out.cellv;have v1_13:=zh (Y13.out.isc v1_12.out);have ve_13:=zh (Y13.out.isc ve_12.out);have vt_13:=zh (Y13.out.isc vt_12.out);have vi_13:=zh (Y13.out.isc vi_12.out);have vw_13:=zh (Y13.out.isc V12.out);have An_13:=zh ((Y13.out.A _ Nbn_12.out).trans An_12.out);have Nbn_13:=zh (zF Nbn_12.out Y13.out.N);clear hm hx))
    have e9:R=.ok ((((σ.at_ j).set n (y.brk' (brE E j))).plan [.tail n 9 e]).plan [.row n [44] (.item one)]):=by
     have hnd_n:=HND_N.out;have hr1:=HR1.out;have hpe:=HPE.out;have hs8:=HS8.out;rw[HR.out];try simp[stp,msE,hnd_n,hr1,hpe,hs8,bind,Except.bind,pure,Except.pure,Except.map]
    subst e9
    go_wp2_with fail
    go_end0
    exact⟨rfl,M13,H13.out,X13.out⟩
   ·have HS8:=zh hs8
    go_wp2_with fail
    have q14:=qcb (σ:=(((σ.at_ j).set n (y.brk' (brE E j))).plan [.tail n 9 e])) H8.out e
    rw[show E.sign (pz (((σ.at_ j).set n (y.brk' (brE E j))).plan [.tail n 9 e]).i) e=_ from HS8.out]at q14
    try unfold ptr at q14
    refine q14.mono ?_
    clear q14
    rintro e w14 ⟨rfl,hm,hx⟩
    have H14:=zh hm
    have Y14:=zh hx
    have X14:=zh (X8.out.trans Y14.out)
    have B_r_14:=zh (Y14.out.box B_r_8.out)
    have cr14:=B_r_14.out.cellv
    unfold ptr at cr14
    have B_o_14:=zh (Y14.out.box B_o_8.out)
    have co14:=B_o_14.out.cellv
    have B_n_14:=zh (Y14.out.box B_n_8.out)
    have cn14:=B_n_14.out.cellv
    unfold ptr at cn14
    have B_v_14:=zh (Y14.out.box B_v_8.out)
    have cv14:=B_v_14.out.cellv
    have v1_14:=zh (Y14.out.isc v1_8.out)
    have ve_14:=zh (Y14.out.isc ve_8.out)
    have vt_14:=zh (Y14.out.isc vt_8.out)
    have An_14:=zh ((Y14.out.A _ Nb9.out).trans An9.out)
    have Nbn_14:=zh (zF Nb9.out Y14.out.N)
    clear hm hx
    have e9:R=.ok ((((σ.at_ j).set n (y.brk' (brE E j))).plan [.tail n 9 e])):=by
     have hnd_n:=HND_N.out;have hr1:=HR1.out;have hpe:=HPE.out;have hs8:=HS8.out;rw[HR.out];try simp[stp,msE,hnd_n,hr1,hpe,hs8,bind,Except.bind,pure,Except.pure,Except.map]
    subst e9
    go_wp2_with fail
    go_end0
    exact⟨rfl,M8,H14.out,X14.out⟩
end
section
variable{W0 W:World}{g:Nat}{s:ByteArray}{E:Env}{tv:Value}{L:PLay}{σ:PM}
theorem qxp(h:MM W0 g s E tv W L σ)(hk:σ.k.length<=274877906944):
 Calls Tryz.prog 171 #[.pointer (some ⟨g,0,none⟩)] W (SO (qdg E σ) W0 g s E tv W L σ.N.length σ.C.length):=by
 obtain⟨R,hR⟩: ∃R:Rs PM,R=qdg E σ:=⟨_,rfl⟩
 rw[<-hR]
 have HR:=zh hR
 have H0:=zh h
 have X0:=zh (MX.refl W0.heap.size W L σ.N.length σ.C.length)
 have HK:=zh hk
 clear h hR hk
 try unfold ptr
 go_enter Tryz.func171,Tryz.ntmps171
 go_wp2_with fail
 have q1:=qjf H0.out [99,97,115,101]
 try unfold ptr at q1
 refine q1.mono ?_
 clear q1
 intro e w1 h1
 rcases hr1:sgE E 8 [99,97,115,101] σ.i with x9 | ⟨b,j⟩
 ·obtain rfl:=qax (by first | exact qae hr1 | exact qag hr1 | exact qaf hr1)
  rw[hr1]at h1
  obtain⟨⟨u,pv,rfl⟩,hb⟩:=h1
  have HB9:=zh hb
  have HR1:=zh hr1
  have e9:R=.error .die:=by
   have hr1:=HR1.out;rw[HR.out];try simp[qdg,msE,qac,qa8,hr1,bind,Except.bind,pure,Except.pure,Except.map]
  subst e9
  clear hb hr1
  go_wp2_with fail
  exact⟨rfl,⟨_,_,rfl⟩,HB9.out⟩
 ·rw[hr1]at h1
  have HR1:=zh hr1
  obtain⟨rfl,hm,hx⟩:=h1
  have H1:=zh hm
  have Y1:=zh hx
  have X1:=zh (X0.out.trans Y1.out)
  clear hm hx hr1
  cases b
  ·have e9:R=.error .die:=by
    have hr1:=HR1.out;rw[HR.out];try simp[qdg,msE,qac,qa8,hr1,bind,Except.bind,pure,Except.pure,Except.map]
   subst e9
   go_wp2_with fail
   refine(qat _).mono ?_
   rintro e w9 ⟨⟨u,pv,rfl⟩,rfl⟩
   go_wp2_with fail
   exact⟨rfl,⟨_,_,rfl⟩,H1.out.bel⟩
  ·go_wp2_with fail
   refine(qas _).mono ?_
   rintro e w9 ⟨rfl,rfl⟩
   obtain⟨M2,hm,hx,ha,hl⟩:=H1.out.new0E 18 ⟨#[]⟩
   have An:=zh (show M2.A σ.N.length=_ from ha)
   have Nbn:=zh (show σ.N.length<_ from hl)
   have H2:=zh hm
   have Y2:=zh hx
   have X2:=zh (X1.out.trans Y2.out)
   clear hm hx ha hl
   go_wp2_with fail
   have q3:=qds H2.out 0
   try unfold ptr at q3
   refine q3.mono ?_
   clear q3
   rintro e w3 ⟨v1,rfl,hv,hb⟩
   obtain⟨fK3,fF3,fC3,rfl⟩:=hv.fn
   have V3:=zh hv
   have H3:=zh (H2.out.below hb)
   have Y3:=zh (H2.out.mxb hb)
   have X3:=zh (X2.out.trans Y3.out)
   have An_3:=zh ((Y3.out.A _ Nbn.out).trans An.out)
   have Nbn_3:=zh (zF Nbn.out Y3.out.N)
   clear hv hb
   go_wp2_with fail
   have q4:=qjs H3.out σ.N.length Nbn_3.out
   rw[An_3.out]at q4
   try unfold ptr at q4
   refine q4.mono ?_
   clear q4
   rintro e w4 ⟨v2,rfl,hv,hb⟩
   obtain⟨fK4,fF4,fC4,rfl⟩:=hv.fn
   have V4:=zh hv
   have H4:=zh (H3.out.below hb)
   have Y4:=zh (H3.out.mxb hb)
   have X4:=zh (X3.out.trans Y4.out)
   have v1_4:=zh (Y4.out.isc V3.out)
   have An_4:=zh ((Y4.out.A _ Nbn_3.out).trans An_3.out)
   have Nbn_4:=zh (zF Nbn_3.out Y4.out.N)
   clear hv hb
   go_wp2_with fail
   have q5:=qi8 H4.out [111,102]
   try unfold ptr at q5
   refine q5.mono ?_
   clear q5
   rintro e w5 ⟨v3,rfl,hv,hb⟩
   obtain⟨fK5,fF5,fC5,rfl⟩:=hv.fn
   have V5:=zh hv
   have H5:=zh (H4.out.below hb)
   have Y5:=zh (H4.out.mxb hb)
   have X5:=zh (X4.out.trans Y5.out)
   have v1_5:=zh (Y5.out.isc v1_4.out)
   have v2_5:=zh (Y5.out.isc V4.out)
   have An_5:=zh ((Y5.out.A _ Nbn_4.out).trans An_4.out)
   have Nbn_5:=zh (zF Nbn_4.out Y5.out.N)
   clear hv hb
   have V6:=zh ((IsC.patC:IsC w5 (M2.P W0.heap.size) g M2.A M2.B (((σ.at_ j).new (nkt 18 ⟨#[]⟩ []))).N.length (((σ.at_ j).new (nkt 18 ⟨#[]⟩ []))).C.length _ .patC))
   go_wp2_with fail
   have q7:=qfw H5.out σ.N.length .patC _ V6.out Nbn_5.out
   rw[An_5.out]at q7
   try unfold ptr at q7
   refine q7.mono ?_
   clear q7
   rintro e w7 ⟨v5,rfl,hv,hb⟩
   obtain⟨fK7,fF7,fC7,rfl⟩:=hv.fn
   have V7:=zh hv
   have H7:=zh (H5.out.below hb)
   have Y7:=zh (H5.out.mxb hb)
   have X7:=zh (X5.out.trans Y7.out)
   have v1_7:=zh (Y7.out.isc v1_5.out)
   have v2_7:=zh (Y7.out.isc v2_5.out)
   have v3_7:=zh (Y7.out.isc V5.out)
   have v4_7:=zh (Y7.out.isc V6.out)
   have An_7:=zh ((Y7.out.A _ Nbn_5.out).trans An_5.out)
   have Nbn_7:=zh (zF Nbn_5.out Y7.out.N)
   clear hv hb
   go_wp2_with fail
   have q8:=qjo H7.out σ.N.length Nbn_7.out
   rw[An_7.out]at q8
   try unfold ptr at q8
   refine q8.mono ?_
   clear q8
   rintro e w8 ⟨v6,rfl,hv,hb⟩
   obtain⟨fK8,fF8,fC8,rfl⟩:=hv.fn
   have V8:=zh hv
   have H8:=zh (H7.out.below hb)
   have Y8:=zh (H7.out.mxb hb)
   have X8:=zh (X7.out.trans Y8.out)
   have v1_8:=zh (Y8.out.isc v1_7.out)
   have v2_8:=zh (Y8.out.isc v2_7.out)
   have v3_8:=zh (Y8.out.isc v3_7.out)
   have v4_8:=zh (Y8.out.isc v4_7.out)
   have v5_8:=zh (Y8.out.isc V7.out)
   have An_8:=zh ((Y8.out.A _ Nbn_7.out).trans An_7.out)
   have Nbn_8:=zh (zF Nbn_7.out Y8.out.N)
   clear hv hb
   go_wp2_with fail
   refine(qbh H8.out _ (by simp) [_,_,_,_,_] [.expr 0,.into σ.N.length,.want 8 [111,102],qac σ.N.length .patC,qa8 σ.N.length] 5 rfl (zE HK.out (by decide)) (by decide) _ ⟨v1_8.out,⟨v2_8.out,⟨v3_8.out,⟨v5_8.out,⟨V8.out,trivial⟩⟩⟩⟩⟩).mono ?_
   rintro e w9 ⟨rfl,M9,hm,hx⟩
   have H9:=zh hm
   have Y9:=zh hx
   have X9:=zh (X8.out.trans Y9.out)
   have v1_9:=zh (Y9.out.isc v1_8.out)
   have v2_9:=zh (Y9.out.isc v2_8.out)
   have v3_9:=zh (Y9.out.isc v3_8.out)
   have v4_9:=zh (Y9.out.isc v4_8.out)
   have v5_9:=zh (Y9.out.isc v5_8.out)
   have v6_9:=zh (Y9.out.isc V8.out)
   have An_9:=zh ((Y9.out.A _ Nbn_8.out).trans An_8.out)
   have Nbn_9:=zh (zF Nbn_8.out Y9.out.N)
   clear hm hx
   have e9:R=.ok (((σ.at_ j).new (nk 18 [])).plan [.expr 0,.into σ.N.length,.want 8 [111,102],qac σ.N.length .patC,qa8 σ.N.length]):=by
    have hr1:=HR1.out;rw[HR.out];try simp[qdg,msE,qac,qa8,hr1,bind,Except.bind,pure,Except.pure,Except.map]
   subst e9
   go_wp2_with fail
   go_end0
   exact⟨rfl,M9,H9.out,X9.out⟩
theorem testsM(h:MM W0 g s E tv W L σ)(hk:σ.k.length<=274877906944):
 Calls Tryz.prog 172 #[.pointer (some ⟨g,0,none⟩)] W (SO (qf2 E σ) W0 g s E tv W L σ.N.length σ.C.length):=by
 obtain⟨R,hR⟩: ∃R:Rs PM,R=qf2 E σ:=⟨_,rfl⟩
 rw[<-hR]
 have HR:=zh hR
 have H0:=zh h
 have X0:=zh (MX.refl W0.heap.size W L σ.N.length σ.C.length)
 have HK:=zh hk
 clear h hR hk
 try unfold ptr
 go_enter Tryz.func172,Tryz.ntmps172
 go_wp2_with fail
 have q1:=qjf H0.out [105,102]
 try unfold ptr at q1
 refine q1.mono ?_
 clear q1
 intro e w1 h1
 rcases hr1:sgE E 8 [105,102] σ.i with x9 | ⟨b,j⟩
 ·obtain rfl:=qax (by first | exact qae hr1 | exact qag hr1 | exact qaf hr1)
  rw[hr1]at h1
  obtain⟨⟨u,pv,rfl⟩,hb⟩:=h1
  have HB9:=zh hb
  have HR1:=zh hr1
  have e9:R=.error .die:=by
   have hr1:=HR1.out;rw[HR.out];try simp[qf2,msE,qac,qa8,hr1,bind,Except.bind,pure,Except.pure,Except.map]
  subst e9
  clear hb hr1
  go_wp2_with fail
  exact⟨rfl,⟨_,_,rfl⟩,HB9.out⟩
 ·rw[hr1]at h1
  have HR1:=zh hr1
  obtain⟨rfl,hm,hx⟩:=h1
  have H1:=zh hm
  have Y1:=zh hx
  have X1:=zh (X0.out.trans Y1.out)
  clear hm hx hr1
  cases b
  ·have e9:R=.error .die:=by
    have hr1:=HR1.out;rw[HR.out];try simp[qf2,msE,qac,qa8,hr1,bind,Except.bind,pure,Except.pure,Except.map]
   subst e9
   go_wp2_with fail
   refine(qat _).mono ?_
   rintro e w9 ⟨⟨u,pv,rfl⟩,rfl⟩
   go_wp2_with fail
   exact⟨rfl,⟨_,_,rfl⟩,H1.out.bel⟩
  ·go_wp2_with fail
   refine(qas _).mono ?_
   rintro e w9 ⟨rfl,rfl⟩
   obtain⟨M2,hm,hx,ha,hl⟩:=H1.out.new0E 19 ⟨#[]⟩
   have An:=zh (show M2.A σ.N.length=_ from ha)
   have Nbn:=zh (show σ.N.length<_ from hl)
   have H2:=zh hm
   have Y2:=zh hx
   have X2:=zh (X1.out.trans Y2.out)
   clear hm hx ha hl
   have V3:=zh ((IsC.tstC:IsC (w1.alloc (.cells #[.int .i64 19,.string ⟨#[]⟩,.slice none 0 0,.bool false,.bool false,.slice none 0 0,.slice none 0 0] 29)) (M2.P W0.heap.size) g M2.A M2.B (((σ.at_ j).new (nkt 19 ⟨#[]⟩ []))).N.length (((σ.at_ j).new (nkt 19 ⟨#[]⟩ []))).C.length _ .tstC))
   go_wp2_with fail
   have q4:=qfw H2.out σ.N.length .tstC _ V3.out Nbn.out
   rw[An.out]at q4
   try unfold ptr at q4
   refine q4.mono ?_
   clear q4
   rintro e w4 ⟨v5,rfl,hv,hb⟩
   obtain⟨fK4,fF4,fC4,rfl⟩:=hv.fn
   have V4:=zh hv
   have H4:=zh (H2.out.below hb)
   have Y4:=zh (H2.out.mxb hb)
   have X4:=zh (X2.out.trans Y4.out)
   have v4_4:=zh (Y4.out.isc V3.out)
   have An_4:=zh ((Y4.out.A _ Nbn.out).trans An.out)
   have Nbn_4:=zh (zF Nbn.out Y4.out.N)
   clear hv hb
   go_wp2_with fail
   have q5:=qjo H4.out σ.N.length Nbn_4.out
   rw[An_4.out]at q5
   try unfold ptr at q5
   refine q5.mono ?_
   clear q5
   rintro e w5 ⟨v6,rfl,hv,hb⟩
   obtain⟨fK5,fF5,fC5,rfl⟩:=hv.fn
   have V5:=zh hv
   have H5:=zh (H4.out.below hb)
   have Y5:=zh (H4.out.mxb hb)
   have X5:=zh (X4.out.trans Y5.out)
   have v4_5:=zh (Y5.out.isc v4_4.out)
   have v5_5:=zh (Y5.out.isc V4.out)
   have An_5:=zh ((Y5.out.A _ Nbn_4.out).trans An_4.out)
   have Nbn_5:=zh (zF Nbn_4.out Y5.out.N)
   clear hv hb
   go_wp2_with fail
   refine(qbh H5.out _ (by simp) [_,_] [qac σ.N.length .tstC,qa8 σ.N.length] 2 rfl (zE HK.out (by decide)) (by decide) _ ⟨v5_5.out,⟨V5.out,trivial⟩⟩).mono ?_
   rintro e w6 ⟨rfl,M6,hm,hx⟩
   have H6:=zh hm
   have Y6:=zh hx
   have X6:=zh (X5.out.trans Y6.out)
   have v4_6:=zh (Y6.out.isc v4_5.out)
   have v5_6:=zh (Y6.out.isc v5_5.out)
   have v6_6:=zh (Y6.out.isc V5.out)
   have An_6:=zh ((Y6.out.A _ Nbn_5.out).trans An_5.out)
   have Nbn_6:=zh (zF Nbn_5.out Y6.out.N)
   clear hm hx
   have e9:R=.ok (((σ.at_ j).new (nk 19 [])).plan [qac σ.N.length .tstC,qa8 σ.N.length]):=by
    have hr1:=HR1.out;rw[HR.out];try simp[qf2,msE,qac,qa8,hr1,bind,Except.bind,pure,Except.pure,Except.map]
   subst e9
   go_wp2_with fail
   go_end0
   exact⟨rfl,M6,H6.out,X6.out⟩
theorem blockM(h:MM W0 g s E tv W L σ)(hk:σ.k.length<=274877906944):
 Calls Tryz.prog 174 #[.pointer (some ⟨g,0,none⟩)] W (SO (qeo E σ) W0 g s E tv W L σ.N.length σ.C.length):=by
 obtain⟨R,hR⟩: ∃R:Rs PM,R=qeo E σ:=⟨_,rfl⟩
 rw[<-hR]
 have HR:=zh hR
 have H0:=zh h
 have X0:=zh (MX.refl W0.heap.size W L σ.N.length σ.C.length)
 have HK:=zh hk
 clear h hR hk
 try unfold ptr
 go_enter Tryz.func174,Tryz.ntmps174
 go_wp2_with fail
 have q1:=qjf H0.out [98,101,103,105,110]
 try unfold ptr at q1
 refine q1.mono ?_
 clear q1
 intro e w1 h1
 rcases hr1:sgE E 8 [98,101,103,105,110] σ.i with x9 | ⟨b,j⟩
 ·obtain rfl:=qax (by first | exact qae hr1 | exact qag hr1 | exact qaf hr1)
  rw[hr1]at h1
  obtain⟨⟨u,pv,rfl⟩,hb⟩:=h1
  have HB9:=zh hb
  have HR1:=zh hr1
  have e9:R=.error .die:=by
   have hr1:=HR1.out;rw[HR.out];try simp[qeo,msE,qac,qa8,hr1,bind,Except.bind,pure,Except.pure,Except.map]
  subst e9
  clear hb hr1
  go_wp2_with fail
  exact⟨rfl,⟨_,_,rfl⟩,HB9.out⟩
 ·rw[hr1]at h1
  have HR1:=zh hr1
  obtain⟨rfl,hm,hx⟩:=h1
  have H1:=zh hm
  have Y1:=zh hx
  have X1:=zh (X0.out.trans Y1.out)
  clear hm hx hr1
  cases b
  ·have e9:R=.error .die:=by
    have hr1:=HR1.out;rw[HR.out];try simp[qeo,msE,qac,qa8,hr1,bind,Except.bind,pure,Except.pure,Except.map]
   subst e9
   go_wp2_with fail
   refine(qat _).mono ?_
   rintro e w9 ⟨⟨u,pv,rfl⟩,rfl⟩
   go_wp2_with fail
   exact⟨rfl,⟨_,_,rfl⟩,H1.out.bel⟩
  ·go_wp2_with fail
   refine(qas _).mono ?_
   rintro e w9 ⟨rfl,rfl⟩
   obtain⟨M2,hm,hx,ha,hl⟩:=H1.out.new0E 21 ⟨#[]⟩
   have An:=zh (show M2.A σ.N.length=_ from ha)
   have Nbn:=zh (show σ.N.length<_ from hl)
   have H2:=zh hm
   have Y2:=zh hx
   have X2:=zh (X1.out.trans Y2.out)
   clear hm hx ha hl
   have V3:=zh ((IsC.body:IsC (w1.alloc (.cells #[.int .i64 21,.string ⟨#[]⟩,.slice none 0 0,.bool false,.bool false,.slice none 0 0,.slice none 0 0] 29)) (M2.P W0.heap.size) g M2.A M2.B (((σ.at_ j).new (nkt 21 ⟨#[]⟩ []))).N.length (((σ.at_ j).new (nkt 21 ⟨#[]⟩ []))).C.length _ .body))
   go_wp2_with fail
   have q4:=qjs H2.out σ.N.length Nbn.out
   rw[An.out]at q4
   try unfold ptr at q4
   refine q4.mono ?_
   clear q4
   rintro e w4 ⟨v2,rfl,hv,hb⟩
   obtain⟨fK4,fF4,fC4,rfl⟩:=hv.fn
   have V4:=zh hv
   have H4:=zh (H2.out.below hb)
   have Y4:=zh (H2.out.mxb hb)
   have X4:=zh (X2.out.trans Y4.out)
   have v1_4:=zh (Y4.out.isc V3.out)
   have An_4:=zh ((Y4.out.A _ Nbn.out).trans An.out)
   have Nbn_4:=zh (zF Nbn.out Y4.out.N)
   clear hv hb
   go_wp2_with fail
   have q5:=qjo H4.out σ.N.length Nbn_4.out
   rw[An_4.out]at q5
   try unfold ptr at q5
   refine q5.mono ?_
   clear q5
   rintro e w5 ⟨v6,rfl,hv,hb⟩
   obtain⟨fK5,fF5,fC5,rfl⟩:=hv.fn
   have V5:=zh hv
   have H5:=zh (H4.out.below hb)
   have Y5:=zh (H4.out.mxb hb)
   have X5:=zh (X4.out.trans Y5.out)
   have v1_5:=zh (Y5.out.isc v1_4.out)
   have v2_5:=zh (Y5.out.isc V4.out)
   have An_5:=zh ((Y5.out.A _ Nbn_4.out).trans An_4.out)
   have Nbn_5:=zh (zF Nbn_4.out Y5.out.N)
   clear hv hb
   go_wp2_with fail
   refine(qbh H5.out _ (by simp) [_,_,_] [.body,.into σ.N.length,qa8 σ.N.length] 3 rfl (zE HK.out (by decide)) (by decide) _ ⟨v1_5.out,⟨v2_5.out,⟨V5.out,trivial⟩⟩⟩).mono ?_
   rintro e w6 ⟨rfl,M6,hm,hx⟩
   have H6:=zh hm
   have Y6:=zh hx
   have X6:=zh (X5.out.trans Y6.out)
   have v1_6:=zh (Y6.out.isc v1_5.out)
   have v2_6:=zh (Y6.out.isc v2_5.out)
   have v6_6:=zh (Y6.out.isc V5.out)
   have An_6:=zh ((Y6.out.A _ Nbn_5.out).trans An_5.out)
   have Nbn_6:=zh (zF Nbn_5.out Y6.out.N)
   clear hm hx
   have e9:R=.ok (((σ.at_ j).new (nk 21 [])).plan [.body,.into σ.N.length,qa8 σ.N.length]):=by
    have hr1:=HR1.out;rw[HR.out];try simp[qeo,msE,qac,qa8,hr1,bind,Except.bind,pure,Except.pure,Except.map]
   subst e9
   go_wp2_with fail
   go_end0
   exact⟨rfl,M6,H6.out,X6.out⟩
theorem qsg(h:MM W0 g s E tv W L σ)(hk:σ.k.length<=274877906944)(n:Nat)(k1:Nat)(b1:BoxC W (L.P W0.heap.size) (.pointer (some ⟨k1,0,none⟩)) (ptr g))(k2:Nat)(b2:BoxC W (L.P W0.heap.size) (.pointer (some ⟨k2,0,none⟩)) (ptr (L.A n)))(hns:stp E (.last n) σ≠ .error .stuck):
 Calls Tryz.prog 198 #[.pointer (some ⟨k1,0,none⟩),.pointer (some ⟨k2,0,none⟩)] W (SO (stp E (.last n) σ) W0 g s E tv W L σ.N.length σ.C.length):=by
 obtain⟨R,hR⟩: ∃R:Rs PM,R=stp E (.last n) σ:=⟨_,rfl⟩
 rw[<-hR]at hns⊢
 have HNS:=zh hns
 have HR:=zh hR
 have H0:=zh h
 have X0:=zh (MX.refl W0.heap.size W L σ.N.length σ.C.length)
 have HK:=zh hk
 have B_r:=zh b1
 have cr0:=b1.cellv
 unfold ptr at cr0
 have B_n:=zh b2
 have cn0:=b2.cellv
 unfold ptr at cn0
 clear h hR hk b1 b2 hns
 try unfold ptr
 go_enter Tryz.func198,Tryz.ntmps198
 rcases hnd_n:σ.nd n with b9 | y
 ·obtain rfl:=qe8 hnd_n
  exact absurd (by rw[HR.out];simp[stp,hnd_n,bind,Except.bind]) HNS.out
 have HND_N:=zh hnd_n
 have HX_n:=zh (qgq hnd_n)
 clear hnd_n
 have HCrn:Hid (∀ {w':World} {L':PLay} {nN nC:Nat},MX W0.heap.size W L σ.N.length σ.C.length w' L' nN nC->w'.cell? ⟨k1,0,none⟩=some (.pointer (some ⟨g,0,none⟩))/\w'.cell? ⟨k2,0,none⟩=some (.pointer (some ⟨L.A n,0,none⟩))):=zh (fun hx=>⟨hx.cell B_r.out,hx.cell B_n.out⟩)
 cases hs1:E.word (pz σ.i) [97,102,116,101,114]
 ·have HS1:=zh hs1
  go_wp2_with fail
  have q1:=qme H0.out [97,102,116,101,114]
  rw[show E.word (pz σ.i) [97,102,116,101,114]=_ from HS1.out]at q1
  try unfold ptr at q1
  refine q1.mono ?_
  clear q1
  rintro e w1 ⟨rfl,hm,hx⟩
  have H1:=zh hm
  have Y1:=zh hx
  have X1:=zh (X0.out.trans Y1.out)
  have B_r_1:=zh (Y1.out.box B_r.out)
  have cr1:=B_r_1.out.cellv
  unfold ptr at cr1
  have B_n_1:=zh (Y1.out.box B_n.out)
  have cn1:=B_n_1.out.cellv
  unfold ptr at cn1
  clear hm hx
  have e9:R=.ok (σ):=by
   have hnd_n:=HND_N.out;have hs1:=HS1.out;rw[HR.out];try simp[stp,hnd_n,hs1,bind,Except.bind,pure,Except.pure,Except.map]
  subst e9
  go_wp2_with fail
  go_end0
  exact⟨rfl,L,H1.out,X1.out⟩
 ·have HS1:=zh hs1
  go_wp2_with fail
  have q2:=qme H0.out [97,102,116,101,114]
  rw[show E.word (pz σ.i) [97,102,116,101,114]=_ from HS1.out]at q2
  try unfold ptr at q2
  refine q2.mono ?_
  clear q2
  rintro e w2 ⟨rfl,hm,hx⟩
  have H2:=zh hm
  have Y2:=zh hx
  have X2:=zh (X0.out.trans Y2.out)
  have B_r_2:=zh (Y2.out.box B_r.out)
  have cr2:=B_r_2.out.cellv
  unfold ptr at cr2
  have B_n_2:=zh (Y2.out.box B_n.out)
  have cn2:=B_n_2.out.cellv
  unfold ptr at cn2
  clear hm hx
  obtain⟨ka2,ta2,la2,ra2,qa2,na2,va2,hNd2⟩:=H2.out.ncells HX_n.out
  obtain⟨m0_2,m1_2,m2_2,m3_2,m4_2,m5_2,m6_2⟩:=hNd2.cells
  have mf1_2:=hNd2.frz 1
  clear hNd2
  have HS9:=zh (H2.out.setTxt HX_n.out ⟨#[97,102,116,101,114]⟩)
  go_wp2_with fail
  have H3:=zh HS9.out.1
  have Y3:=zh HS9.out.2
  have X3:=zh (X2.out.trans Y3.out)
  have B_r_3:=zh (Y3.out.box B_r_2.out)
  have cr3:=B_r_3.out.cellv
  unfold ptr at cr3
  have B_n_3:=zh (Y3.out.box B_n_2.out)
  have cn3:=B_n_3.out.cellv
  unfold ptr at cn3
  have HNL:=zh (show n< (σ.set n (y.txt' ⟨#[97,102,116,101,114]⟩)).N.length from by show n< (σ.N.set n _).length;rw[zC];exact qqg HX_n.out)
  have hb:=zA (Below.refl (w2.setCell ⟨L.A n,1,none⟩ (.string ⟨#[97,102,116,101,114]⟩)).heap.size (w2.setCell ⟨L.A n,1,none⟩ (.string ⟨#[97,102,116,101,114]⟩)))
  have H4:=zh (H3.out.below hb)
  have Y4:=zh (H3.out.mxb hb)
  have X4:=zh (X3.out.trans Y4.out)
  have B_r_4:=zh (Y4.out.box B_r_3.out)
  have cr4:=B_r_4.out.cellv
  unfold ptr at cr4
  have B_n_4:=zh (Y4.out.box B_n_3.out)
  have cn4:=B_n_4.out.cellv
  unfold ptr at cn4
  clear hb
  go_region_held3 (fun w'=>w'.cell? ⟨k1,0,none⟩=some (.pointer (some ⟨g,0,none⟩))/\w'.cell? ⟨k2,0,none⟩=some (.pointer (some ⟨L.A n,0,none⟩))) (first | exact HCrn.out X8.out | exact HCrn.out X7.out | exact HCrn.out X6.out | exact HCrn.out X4.out | exact HCrn.out (X6.out.trans (H6.out.mxb (qa1 _ _))) | exact HCrn.out (X7.out.trans (H7.out.mxb (qa1 _ _))) | exact HCrn.out (X8.out.trans (H8.out.mxb (qa1 _ _)))) (first | (go_at_call 73;have V5:=zh ((IsC.lstC:IsC (w2.setCell ⟨L.A n,1,none⟩ (.string ⟨#[97,102,116,101,114]⟩)).drew (L.P W0.heap.size) g L.A L.B ((σ.set n (y.txt' ⟨#[97,102,116,101,114]⟩))).N.length ((σ.set n (y.txt' ⟨#[97,102,116,101,114]⟩))).C.length _ .lstC));have q6:=ql4 (σ:=(σ.set n (y.txt' ⟨#[97,102,116,101,114]⟩))) H4.out .lstC _ V5.out;try unfold ptr at q6;refine q6.mono ?_;clear q6;rintro e w6 ⟨v1,rfl,hv,hb⟩;obtain⟨fK6,fF6,fC6,rfl⟩:=hv.fn;have V6:=zh hv;have H6:=zh (H4.out.below hb);have Y6:=zh (H4.out.mxb hb);have X6:=zh (X4.out.trans Y6.out);have B_r_6:=zh (Y6.out.box B_r_4.out);have cr6:=B_r_6.out.cellv;unfold ptr at cr6;have B_n_6:=zh (Y6.out.box B_n_4.out);have cn6:=B_n_6.out.cellv;unfold ptr at cn6;have v0_6:=zh (Y6.out.isc V5.out);clear hv hb) | (go_at_call 106;have q7:=qjs (σ:=(σ.set n (y.txt' ⟨#[97,102,116,101,114]⟩))) H6.out n HNL.out;try unfold ptr at q7;refine q7.mono ?_;clear q7;rintro e w7 ⟨v2,rfl,hv,hb⟩;obtain⟨fK7,fF7,fC7,rfl⟩:=hv.fn;have V7:=zh hv;have H7:=zh (H6.out.below hb);have Y7:=zh (H6.out.mxb hb);have X7:=zh (X6.out.trans Y7.out);have B_r_7:=zh (Y7.out.box B_r_6.out);have cr7:=B_r_7.out.cellv;unfold ptr at cr7;have B_n_7:=zh (Y7.out.box B_n_6.out);have cn7:=B_n_7.out.cellv;unfold ptr at cn7;have v0_7:=zh (Y7.out.isc v0_6.out);have v1_7:=zh (Y7.out.isc V6.out);clear hv hb) | (go_at_call 36;refine(qbh H7.out _ (by simp) [_,_] [.item .lstC,.into n] 2 rfl (zE HK.out (by decide)) (by decide) _ ⟨v1_7.out,⟨V7.out,trivial⟩⟩).mono ?_;rintro e w8 ⟨rfl,M8,hm,hx⟩;have H8:=zh hm;have Y8:=zh hx;have X8:=zh (X7.out.trans Y8.out);have B_r_8:=zh (Y8.out.box B_r_7.out);have cr8:=B_r_8.out.cellv;unfold ptr at cr8;have B_n_8:=zh (Y8.out.box B_n_7.out);have cn8:=B_n_8.out.cellv;unfold ptr at cn8;have v0_8:=zh (Y8.out.isc v0_7.out);have v1_8:=zh (Y8.out.isc v1_7.out);have v2_8:=zh (Y8.out.isc V7.out);clear hm hx))
  have e9:R=.ok ((σ.set n (y.txt' ⟨#[97,102,116,101,114]⟩)).plan [.item .lstC,.into n]):=by
   have hnd_n:=HND_N.out;have hs1:=HS1.out;rw[HR.out];try simp[stp,hnd_n,hs1,bind,Except.bind,pure,Except.pure,Except.map]
  subst e9
  go_wp2_with fail
  go_end0
  exact⟨rfl,M8,H8.out,X8.out⟩
theorem qvd(h:MM W0 g s E tv W L σ)(hk:σ.k.length<=274877906944):
 Calls Tryz.prog 173 #[.pointer (some ⟨g,0,none⟩)] W (SO (qck E σ) W0 g s E tv W L σ.N.length σ.C.length):=by
 obtain⟨R,hR⟩: ∃R:Rs PM,R=qck E σ:=⟨_,rfl⟩
 rw[<-hR]
 have HR:=zh hR
 have H0:=zh h
 have X0:=zh (MX.refl W0.heap.size W L σ.N.length σ.C.length)
 have HK:=zh hk
 clear h hR hk
 try unfold ptr
 go_enter Tryz.func173,Tryz.ntmps173
 have hb:=qa1 W (.cells #[ptr g] 60)
 have B_r:=zh (H0.out.boxT (W.heap.size) (by simp) (ptr g) 60)
 have H1:=zh (H0.out.below hb)
 have Y1:=zh (H0.out.mxb hb)
 have X1:=zh (X0.out.trans Y1.out)
 clear hb
 go_wp2_with fail
 have q2:=qjf H1.out [114,101,99,101,105,118,101]
 try unfold ptr at q2
 refine q2.mono ?_
 clear q2
 intro e w2 h2
 rcases hr2:sgE E 8 [114,101,99,101,105,118,101] σ.i with x9 | ⟨b,j⟩
 ·obtain rfl:=qax (by first | exact qae hr2 | exact qag hr2 | exact qaf hr2)
  rw[hr2]at h2
  obtain⟨⟨u,pv,rfl⟩,hb⟩:=h2
  have HB9:=zh hb
  have HR2:=zh hr2
  have e9:R=.error .die:=by
   have hr2:=HR2.out;rw[HR.out];try simp[qck,msE,qac,qa8,hr2,bind,Except.bind,pure,Except.pure,Except.map]
  subst e9
  clear hb hr2
  go_wp2_with fail
  exact⟨rfl,⟨_,_,rfl⟩,HB9.out⟩
 ·rw[hr2]at h2
  have HR2:=zh hr2
  obtain⟨rfl,hm,hx⟩:=h2
  have H2:=zh hm
  have Y2:=zh hx
  have X2:=zh (X1.out.trans Y2.out)
  have B_r_2:=zh (Y2.out.box B_r.out)
  have cr2:=B_r_2.out.cellv
  unfold ptr at cr2
  clear hm hx hr2
  cases b
  ·have e9:R=.error .die:=by
    have hr2:=HR2.out;rw[HR.out];try simp[qck,msE,qac,qa8,hr2,bind,Except.bind,pure,Except.pure,Except.map]
   subst e9
   go_wp2_with fail
   refine(qat _).mono ?_
   rintro e w9 ⟨⟨u,pv,rfl⟩,rfl⟩
   go_wp2_with fail
   exact⟨rfl,⟨_,_,rfl⟩,H2.out.bel⟩
  ·go_wp2_with fail
   refine(qas _).mono ?_
   rintro e w9 ⟨rfl,rfl⟩
   obtain⟨M3,hm,hx,ha,hl⟩:=H2.out.new0E 20 ⟨#[]⟩
   have An:=zh (show M3.A σ.N.length=w2.heap.size from ha.trans (by simp))
   have Nbn:=zh (show σ.N.length<_ from hl)
   have H3:=zh hm
   have Y3:=zh hx
   have X3:=zh (X2.out.trans Y3.out)
   have B_r_3:=zh (Y3.out.box B_r_2.out)
   have cr3:=B_r_3.out.cellv
   unfold ptr at cr3
   clear hm hx ha hl
   have hb:=qa1 (w2.alloc (.cells #[.int .i64 20,.string ⟨#[]⟩,.slice none 0 0,.bool false,.bool false,.slice none 0 0,.slice none 0 0] 29)) (.cells #[.pointer (some ⟨w2.heap.size,0,none⟩)] 74)
   have B_n:=zh (H3.out.boxT (w2.heap.size+1) (by simp) (.pointer (some ⟨w2.heap.size,0,none⟩)) 74)
   have H4:=zh (H3.out.below hb)
   have Y4:=zh (H3.out.mxb hb)
   have X4:=zh (X3.out.trans Y4.out)
   have B_r_4:=zh (Y4.out.box B_r_3.out)
   have cr4:=B_r_4.out.cellv
   unfold ptr at cr4
   have An_4:=zh ((Y4.out.A _ Nbn.out).trans An.out)
   have Nbn_4:=zh (zF Nbn.out Y4.out.N)
   clear hb
   have V5:=zh (IsC.last (W:=((w2.alloc (.cells #[.int .i64 20,.string ⟨#[]⟩,.slice none 0 0,.bool false,.bool false,.slice none 0 0,.slice none 0 0] 29)).alloc (.cells #[.pointer (some ⟨w2.heap.size,0,none⟩)] 74))) (P:=M3.P W0.heap.size) (g:=g) (A:=M3.A) (B:=M3.B) (nN:=(((σ.at_ j).new (nkt 20 ⟨#[]⟩ []))).N.length) (nC:=σ.C.length) σ.N.length _ _ B_r_4.out (by have h9:=B_n.out;rw[show ptr (M3.A σ.N.length)=_ from congrArg ptr An_4.out];exact h9) Nbn_4.out)
   go_wp2_with fail
   have Z0:=zh (MX.refl W0.heap.size ((w2.alloc (.cells #[.int .i64 20,.string ⟨#[]⟩,.slice none 0 0,.bool false,.bool false,.slice none 0 0,.slice none 0 0] 29)).alloc (.cells #[.pointer (some ⟨w2.heap.size,0,none⟩)] 74)) M3 (((σ.at_ j).new (nkt 20 ⟨#[]⟩ []))).N.length (((σ.at_ j).new (nkt 20 ⟨#[]⟩ []))).C.length)
   have HCrn:Hid (∀ {w':World} {L':PLay} {nN nC:Nat},MX W0.heap.size ((w2.alloc (.cells #[.int .i64 20,.string ⟨#[]⟩,.slice none 0 0,.bool false,.bool false,.slice none 0 0,.slice none 0 0] 29)).alloc (.cells #[.pointer (some ⟨w2.heap.size,0,none⟩)] 74)) M3 (((σ.at_ j).new (nkt 20 ⟨#[]⟩ []))).N.length (((σ.at_ j).new (nkt 20 ⟨#[]⟩ []))).C.length w' L' nN nC->w'.cell? ⟨W.heap.size,0,none⟩=some (.pointer (some ⟨g,0,none⟩))/\w'.cell? ⟨w2.heap.size+1,0,none⟩=some (.pointer (some ⟨w2.heap.size,0,none⟩))):=zh (fun hx=>⟨hx.cell B_r_4.out,hx.cell B_n.out⟩)
   have hb:=zA (Below.refl ((w2.alloc (.cells #[.int .i64 20,.string ⟨#[]⟩,.slice none 0 0,.bool false,.bool false,.slice none 0 0,.slice none 0 0] 29)).alloc (.cells #[.pointer (some ⟨w2.heap.size,0,none⟩)] 74)).heap.size ((w2.alloc (.cells #[.int .i64 20,.string ⟨#[]⟩,.slice none 0 0,.bool false,.bool false,.slice none 0 0,.slice none 0 0] 29)).alloc (.cells #[.pointer (some ⟨w2.heap.size,0,none⟩)] 74)))
   have H6:=zh (H4.out.below hb)
   have Y6:=zh (H4.out.mxb hb)
   have X6:=zh (X4.out.trans Y6.out)
   have Z6:=zh (Z0.out.trans Y6.out)
   have B_r_6:=zh (Y6.out.box B_r_4.out)
   have cr6:=B_r_6.out.cellv
   unfold ptr at cr6
   have B_n_6:=zh (Y6.out.box B_n.out)
   have cn6:=B_n_6.out.cellv
   have vl_6:=zh (Y6.out.isc V5.out)
   have An_6:=zh ((Y6.out.A _ Nbn_4.out).trans An_4.out)
   have Nbn_6:=zh (zF Nbn_4.out Y6.out.N)
   clear hb
   go_region_held3 (fun w'=>w'.cell? ⟨W.heap.size,0,none⟩=some (.pointer (some ⟨g,0,none⟩))/\w'.cell? ⟨w2.heap.size+1,0,none⟩=some (.pointer (some ⟨w2.heap.size,0,none⟩))) (first | exact HCrn.out Z8.out | exact HCrn.out Z7.out | exact HCrn.out Z6.out | exact HCrn.out (Z7.out.trans (H7.out.mxb (qa1 _ _))) | exact HCrn.out (Z8.out.trans (H8.out.mxb (qa1 _ _)))) (first | (go_at_call 194;have q7:=qjo H6.out σ.N.length Nbn_6.out;rw[An_6.out]at q7;try unfold ptr at q7;refine q7.mono ?_;clear q7;rintro e w7 ⟨v6,rfl,hv,hb⟩;obtain⟨fK7,fF7,fC7,rfl⟩:=hv.fn;have V7:=zh hv;have H7:=zh (H6.out.below hb);have Y7:=zh (H6.out.mxb hb);have X7:=zh (X6.out.trans Y7.out);have Z7:=zh (Z6.out.trans Y7.out);have B_r_7:=zh (Y7.out.box B_r_6.out);have cr7:=B_r_7.out.cellv;unfold ptr at cr7;have B_n_7:=zh (Y7.out.box B_n_6.out);have cn7:=B_n_7.out.cellv;have vl_7:=zh (Y7.out.isc vl_6.out);have An_7:=zh ((Y7.out.A _ Nbn_6.out).trans An_6.out);have Nbn_7:=zh (zF Nbn_6.out Y7.out.N);clear hv hb) | (go_at_call 36;refine(qbh H7.out _ (by simp) [_,_] [.last σ.N.length,qa8 σ.N.length] 2 rfl (zE HK.out (by decide)) (by decide) _ ⟨vl_7.out,⟨V7.out,trivial⟩⟩).mono ?_;rintro e w8 ⟨rfl,M8,hm,hx⟩;have H8:=zh hm;have Y8:=zh hx;have X8:=zh (X7.out.trans Y8.out);have Z8:=zh (Z7.out.trans Y8.out);have B_r_8:=zh (Y8.out.box B_r_7.out);have cr8:=B_r_8.out.cellv;unfold ptr at cr8;have B_n_8:=zh (Y8.out.box B_n_7.out);have cn8:=B_n_8.out.cellv;have vl_8:=zh (Y8.out.isc vl_7.out);have v6_8:=zh (Y8.out.isc V7.out);have An_8:=zh ((Y8.out.A _ Nbn_7.out).trans An_7.out);have Nbn_8:=zh (zF Nbn_7.out Y8.out.N);clear hm hx))
   cases hs8:E.word (pz j) [97,102,116,101,114]
   ·have HS8:=zh hs8
    go_wp2_with fail
    have q9:=qme (σ:=(((σ.at_ j).new (nk 20 [])).plan [.last σ.N.length,qa8 σ.N.length])) H8.out [97,102,116,101,114]
    rw[show E.word (pz (((σ.at_ j).new (nk 20 [])).plan [.last σ.N.length,qa8 σ.N.length]).i) [97,102,116,101,114]=_ from HS8.out]at q9
    try unfold ptr at q9
    refine q9.mono ?_
    clear q9
    rintro e w9 ⟨rfl,hm,hx⟩
    have H9:=zh hm
    have Y9:=zh hx
    have X9:=zh (X8.out.trans Y9.out)
    have Z9:=zh (Z8.out.trans Y9.out)
    have B_r_9:=zh (Y9.out.box B_r_8.out)
    have cr9:=B_r_9.out.cellv
    unfold ptr at cr9
    have B_n_9:=zh (Y9.out.box B_n_8.out)
    have cn9:=B_n_9.out.cellv
    have vl_9:=zh (Y9.out.isc vl_8.out)
    have v6_9:=zh (Y9.out.isc v6_8.out)
    have An_9:=zh ((Y9.out.A _ Nbn_8.out).trans An_8.out)
    have Nbn_9:=zh (zF Nbn_8.out Y9.out.N)
    clear hm hx
    go_wp2_with fail
    have hb:=zA (Below.refl w9.heap.size w9)
    have H10:=zh (H9.out.below hb)
    have Y10:=zh (H9.out.mxb hb)
    have X10:=zh (X9.out.trans Y10.out)
    have Z10:=zh (Z9.out.trans Y10.out)
    have B_r_10:=zh (Y10.out.box B_r_9.out)
    have cr10:=B_r_10.out.cellv
    unfold ptr at cr10
    have B_n_10:=zh (Y10.out.box B_n_9.out)
    have cn10:=B_n_10.out.cellv
    have vl_10:=zh (Y10.out.isc vl_9.out)
    have v6_10:=zh (Y10.out.isc v6_9.out)
    have An_10:=zh ((Y10.out.A _ Nbn_9.out).trans An_9.out)
    have Nbn_10:=zh (zF Nbn_9.out Y10.out.N)
    clear hb
    go_region_held3 (fun w'=>w'.cell? ⟨W.heap.size,0,none⟩=some (.pointer (some ⟨g,0,none⟩))/\w'.cell? ⟨w2.heap.size+1,0,none⟩=some (.pointer (some ⟨w2.heap.size,0,none⟩))) (first | exact HCrn.out Z13.out | exact HCrn.out Z12.out | exact HCrn.out Z10.out | exact HCrn.out (Z12.out.trans (H12.out.mxb (qa1 _ _))) | exact HCrn.out (Z13.out.trans (H13.out.mxb (qa1 _ _)))) (first | (go_at_call 47;have V11:=zh ((IsC.patC:IsC w9.drew (M8.P W0.heap.size) g M8.A M8.B ((((σ.at_ j).new (nk 20 [])).plan [.last σ.N.length,qa8 σ.N.length])).N.length ((((σ.at_ j).new (nk 20 [])).plan [.last σ.N.length,qa8 σ.N.length])).C.length _ .patC));have q12:=qfw H10.out σ.N.length .patC _ V11.out Nbn_10.out;rw[An_10.out]at q12;try unfold ptr at q12;refine q12.mono ?_;clear q12;rintro e w12 ⟨v5,rfl,hv,hb⟩;obtain⟨fK12,fF12,fC12,rfl⟩:=hv.fn;have V12:=zh hv;have H12:=zh (H10.out.below hb);have Y12:=zh (H10.out.mxb hb);have X12:=zh (X10.out.trans Y12.out);have Z12:=zh (Z10.out.trans Y12.out);have B_r_12:=zh (Y12.out.box B_r_10.out);have cr12:=B_r_12.out.cellv;unfold ptr at cr12;have B_n_12:=zh (Y12.out.box B_n_10.out);have cn12:=B_n_12.out.cellv;have vl_12:=zh (Y12.out.isc vl_10.out);have v6_12:=zh (Y12.out.isc v6_10.out);have v4_12:=zh (Y12.out.isc V11.out);have An_12:=zh ((Y12.out.A _ Nbn_10.out).trans An_10.out);have Nbn_12:=zh (zF Nbn_10.out Y12.out.N);clear hv hb) | (go_at_call 36;refine(qbh H12.out _ (by simp) [_] [qac σ.N.length .patC] 1 rfl (by have:=HK.out;show(_::_::σ.k).length<=_;rw[zB,zB];omega) (by decide) _ ⟨V12.out,trivial⟩).mono ?_;rintro e w13 ⟨rfl,M13,hm,hx⟩;have H13:=zh hm;have Y13:=zh hx;have X13:=zh (X12.out.trans Y13.out);have Z13:=zh (Z12.out.trans Y13.out);have B_r_13:=zh (Y13.out.box B_r_12.out);have cr13:=B_r_13.out.cellv;unfold ptr at cr13;have B_n_13:=zh (Y13.out.box B_n_12.out);have cn13:=B_n_13.out.cellv;have vl_13:=zh (Y13.out.isc vl_12.out);have v6_13:=zh (Y13.out.isc v6_12.out);have v4_13:=zh (Y13.out.isc v4_12.out);have v5_13:=zh (Y13.out.isc V12.out);have An_13:=zh ((Y13.out.A _ Nbn_12.out).trans An_12.out);have Nbn_13:=zh (zF Nbn_12.out Y13.out.N);clear hm hx))
    have e9:R=.ok ((((σ.at_ j).new (nk 20 [])).plan [.last σ.N.length,qa8 σ.N.length]).plan [qac σ.N.length .patC]):=by
     have hr2:=HR2.out;have hs8:=HS8.out;rw[HR.out];try simp[qck,msE,qac,qa8,hr2,hs8,bind,Except.bind,pure,Except.pure,Except.map]
    subst e9
    go_wp2_with fail
    go_end0
    exact⟨rfl,M13,H13.out,X13.out⟩
   ·have HS8:=zh hs8
    go_wp2_with fail
    have q14:=qme (σ:=(((σ.at_ j).new (nk 20 [])).plan [.last σ.N.length,qa8 σ.N.length])) H8.out [97,102,116,101,114]
    rw[show E.word (pz (((σ.at_ j).new (nk 20 [])).plan [.last σ.N.length,qa8 σ.N.length]).i) [97,102,116,101,114]=_ from HS8.out]at q14
    try unfold ptr at q14
    refine q14.mono ?_
    clear q14
    rintro e w14 ⟨rfl,hm,hx⟩
    have H14:=zh hm
    have Y14:=zh hx
    have X14:=zh (X8.out.trans Y14.out)
    have Z14:=zh (Z8.out.trans Y14.out)
    have B_r_14:=zh (Y14.out.box B_r_8.out)
    have cr14:=B_r_14.out.cellv
    unfold ptr at cr14
    have B_n_14:=zh (Y14.out.box B_n_8.out)
    have cn14:=B_n_14.out.cellv
    have vl_14:=zh (Y14.out.isc vl_8.out)
    have v6_14:=zh (Y14.out.isc v6_8.out)
    have An_14:=zh ((Y14.out.A _ Nbn_8.out).trans An_8.out)
    have Nbn_14:=zh (zF Nbn_8.out Y14.out.N)
    clear hm hx
    have e9:R=.ok ((((σ.at_ j).new (nk 20 [])).plan [.last σ.N.length,qa8 σ.N.length])):=by
     have hr2:=HR2.out;have hs8:=HS8.out;rw[HR.out];try simp[qck,msE,qac,qa8,hr2,hs8,bind,Except.bind,pure,Except.pure,Except.map]
    subst e9
    go_wp2_with fail
    go_end0
    exact⟨rfl,M8,H14.out,X14.out⟩
end
section
variable{W0 W:World}{g:Nat}{s:ByteArray}{E:Env}{tv:Value}{L:PLay}{σ:PM}
theorem MM.ncellsA(h:MM W0 g s E tv W L σ){n:Nat}{x:Nd}(hx:σ.N[n]?=some (some x)): ∃k t lv br bl nv tv,NdB W (L.A n) k t lv br bl nv tv/\(∃a l c,lv=.slice a l c)/\(∃a l c,nv=.slice a l c)/\(∃a l c,tv=.slice a l c):=by
 cases x with
 | mk k t l br bl no ta=>
  obtain⟨-,lv,nv,tv',a2,a3,-,a5,a6⟩:=h.node hx
  obtain⟨a,c,rfl⟩:=a3.slice
  obtain⟨a',c',rfl,-⟩:=a5
  obtain⟨a'',c'',rfl,-⟩:=a6
  exact⟨_,_,_,_,_,_,_,a2,⟨_,_,_,rfl⟩,⟨_,_,_,rfl⟩,⟨_,_,_,rfl⟩⟩
theorem twoM(h:MM W0 g s E tv W L σ){a b:Nat}{x y:Nd}(hx:σ.N[a]?=some (some x))(hy:σ.N[b]?=some (some y))(op:ByteArray)(hop:op.size<=1048576):
 Calls Tryz.prog 157 #[.string op,.pointer (some ⟨L.A a,0,none⟩),.pointer (some ⟨L.A b,0,none⟩)] W fun e W'=> ∃M,e=.returned (.pointer (some ⟨M.A σ.N.length,0,none⟩))/\MM W0 g s E tv W' M (((σ.mv a).mv b).new (nkt 14 op [x,y]))/\MX W0.heap.size W L σ.N.length σ.C.length W' M (((σ.mv a).mv b).new (nkt 14 op [x,y])).N.length (((σ.mv a).mv b).new (nkt 14 op [x,y])).C.length:=by
 obtain⟨ka,ta,la,ra,qa,na,va,ha,⟨la1,la2,la3,rfl⟩,⟨na1,na2,na3,rfl⟩,⟨va1,va2,va3,rfl⟩⟩:=h.ncellsA hx
 obtain⟨kb,tb,lb,rb,qb,nb,vb,hb,⟨lb1,lb2,lb3,rfl⟩,⟨nb1,nb2,nb3,rfl⟩,⟨vb1,vb2,vb3,rfl⟩⟩:=h.ncellsA hy
 have HA:=zh ha
 have HB:=zh hb
 have HX:=zh hx
 have HY:=zh hy
 have H0:=zh h
 have HCL:=zh (fun w=>qep op hop w)
 have hal:=ha.lt
 have hbl:=hb.lt
 have HS:Hid (∀w',Below W.heap.size W w'->(w'.cell? ⟨L.A a,0,none⟩=some (.int .i64 ka)/\w'.cell? ⟨L.A a,1,none⟩=some (.string ta)/\w'.cell? ⟨L.A a,2,none⟩=some (.slice la1 la2 la3)/\w'.cell? ⟨L.A a,3,none⟩=some (.bool ra)/\w'.cell? ⟨L.A a,4,none⟩=some (.bool qa)/\w'.cell? ⟨L.A a,5,none⟩=some (.slice na1 na2 na3)/\w'.cell? ⟨L.A a,6,none⟩=some (.slice va1 va2 va3)/\w'.cell? ⟨L.A b,0,none⟩=some (.int .i64 kb)/\w'.cell? ⟨L.A b,1,none⟩=some (.string tb)/\w'.cell? ⟨L.A b,2,none⟩=some (.slice lb1 lb2 lb3)/\w'.cell? ⟨L.A b,3,none⟩=some (.bool rb)/\w'.cell? ⟨L.A b,4,none⟩=some (.bool qb)/\w'.cell? ⟨L.A b,5,none⟩=some (.slice nb1 nb2 nb3)/\w'.cell? ⟨L.A b,6,none⟩=some (.slice vb1 vb2 vb3))):=zh (fun w' hw=>by
  have h1:NdB w' (L.A a) ka ta (.slice la1 la2 la3) ra qa (.slice na1 na2 na3) (.slice va1 va2 va3):=(hw.block _ hal).trans ha
  have h2:NdB w' (L.A b) kb tb (.slice lb1 lb2 lb3) rb qb (.slice nb1 nb2 nb3) (.slice vb1 vb2 vb3):=(hw.block _ hbl).trans hb
  obtain⟨a0,a1,a2,a3,a4,a5,a6⟩:=h1.cells
  obtain⟨b0,b1,b2,b3,b4,b5,b6⟩:=h2.cells
  exact⟨a0,a1,a2,a3,a4,a5,a6,b0,b1,b2,b3,b4,b5,b6⟩)
 have HD:Hid (Below W.heap.size W W.drew):=zh (zA (Below.refl _ _))
 have HF:Hid (∀(w':World) (R B:Nat),Below W.heap.size W w'->W.heap.size<=R->W.heap.size<=B->B≠R->w'.heap[R]?=some (.cells #[.int .i64 ka,.string ta,.slice la1 la2 la3,.bool ra,.bool qa,.slice na1 na2 na3,.slice va1 va2 va3,.int .i64 kb,.string tb,.slice lb1 lb2 lb3,.bool rb,.bool qb,.slice nb1 nb2 nb3,.slice vb1 vb2 vb3] 29 (0,0))->
  NdB w' B 14 op (.slice (some ⟨R,0,none⟩) 2 2) false false (.slice none 0 0) (.slice none 0 0)-> ∃M,MM W0 g s E tv w' M (((σ.mv a).mv b).new (nkt 14 op [x,y]))/\MX W0.heap.size W L σ.N.length σ.C.length w' M (((σ.mv a).mv b).new (nkt 14 op [x,y])).N.length (((σ.mv a).mv b).new (nkt 14 op [x,y])).C.length/\M.A σ.N.length=B):=zh (fun w' R B h1 h2 h3 h4 h5 h6=>h.new2At hx hy _ _ _ ha hb rfl h1 14 op R B h2 h3 h4 h5 h6)
 clear h hx hy ha hb hal hbl hop
 go_enter Tryz.func157,Tryz.ntmps157
 go_wp2_with fail
 go_region_held3 (fun w'=>w'.cell? ⟨L.A a,0,none⟩=some (.int .i64 ka)/\w'.cell? ⟨L.A a,1,none⟩=some (.string ta)/\w'.cell? ⟨L.A a,2,none⟩=some (.slice la1 la2 la3)/\w'.cell? ⟨L.A a,3,none⟩=some (.bool ra)/\w'.cell? ⟨L.A a,4,none⟩=some (.bool qa)/\w'.cell? ⟨L.A a,5,none⟩=some (.slice na1 na2 na3)/\w'.cell? ⟨L.A a,6,none⟩=some (.slice va1 va2 va3)/\w'.cell? ⟨L.A b,0,none⟩=some (.int .i64 kb)/\w'.cell? ⟨L.A b,1,none⟩=some (.string tb)/\w'.cell? ⟨L.A b,2,none⟩=some (.slice lb1 lb2 lb3)/\w'.cell? ⟨L.A b,3,none⟩=some (.bool rb)/\w'.cell? ⟨L.A b,4,none⟩=some (.bool qb)/\w'.cell? ⟨L.A b,5,none⟩=some (.slice nb1 nb2 nb3)/\w'.cell? ⟨L.A b,6,none⟩=some (.slice vb1 vb2 vb3))
  (first | exact HS.out _ HB2.out | exact HS.out _ (HB2.out.alloc HB2.out.size _) | exact HS.out _ ((HB2.out.alloc HB2.out.size _).alloc (HB2.out.alloc HB2.out.size _).size _) | exact HS.out _ HD.out | exact HS.out _ (HD.out.alloc HD.out.size _))
  (first | (go_at_call 139;refine(HCL.out _).mono ?_;rintro e w2 ⟨rfl,hb2⟩;have HB2:=zh (by first | exact HD.out.trans (hb2.mono HD.out.size) | exact(HD.out.alloc HD.out.size _).trans (hb2.mono (HD.out.alloc HD.out.size _).size):Below W.heap.size W w2);have HBW:=zh hb2;clear hb2))
 all_goals go_wp2_with fail
 all_goals go_ret
 ·have hb9:=HB2.out.trans ((qaj w2 [.cells #[.int .i64 ka,.string ta,.slice la1 la2 la3,.bool ra,.bool qa,.slice na1 na2 na3,.slice va1 va2 va3,.int .i64 kb,.string tb,.slice lb1 lb2 lb3,.bool rb,.bool qb,.slice nb1 nb2 nb3,.slice vb1 vb2 vb3] 29,.cells #[.int .i64 14,.string op,.slice (some ⟨w2.heap.size,0,none⟩) 2 2,.bool false,.bool false,.slice none 0 0,.slice none 0 0] 29]).mono HB2.out.size)
  obtain⟨M,m1,m2,m3⟩:=HF.out _ w2.heap.size (w2.heap.size+1) hb9 HB2.out.size (Nat.le_succ_of_le HB2.out.size) (by omega) (qb5 w2 _ 0 _ rfl) (qb5 w2 _ 1 _ rfl)
  exact⟨M,by rw[m3];rfl,m1,m2⟩
 ·have hb9:Below W.heap.size W (w2.alloc (.cells #[.int .i64 14,.string op,.slice (some ⟨W.heap.size,0,none⟩) 2 2,.bool false,.bool false,.slice none 0 0,.slice none 0 0] 29)):=HB2.out.alloc HB2.out.size _
  have hsz:W.heap.size<w2.heap.size:=by
   have:=HBW.out.size
   simp at this;omega
  have hr:w2.heap[W.heap.size]?=some (.cells #[.int .i64 ka,.string ta,.slice la1 la2 la3,.bool ra,.bool qa,.slice na1 na2 na3,.slice va1 va2 va3,.int .i64 kb,.string tb,.slice lb1 lb2 lb3,.bool rb,.bool qb,.slice nb1 nb2 nb3,.slice vb1 vb2 vb3] 29 (0,0)):=(HBW.out.block W.heap.size (by simp)).trans (qbi W.drew _)
  obtain⟨M,m1,m2,m3⟩:=HF.out _ W.heap.size w2.heap.size hb9 (zD _) HB2.out.size (by omega) ((qog w2 _ hsz).trans hr) (qbi w2 _)
  exact⟨M,by rw[m3];rfl,m1,m2⟩
theorem qkl{a:ByteArray}{r:List ByteArray}{n:Nat}{σ:PM}{z:Nat×PM}(h:qfu (a::r) n σ=.ok z): ∃x,σ.N[n]?=some (some x)/\qfu r σ.N.length ((σ.mv n).new (nkt 13 a [x]))=.ok z:=by
 unfold qfu at h
 cases hd:σ.nd n with
 | error b=>rw[hd]at h;cases h
 | ok x=>
  rw[hd]at h
  exact⟨x,qgq hd,h⟩
theorem qvz{T:List ByteArray}{q:Nat}{X:ByteArray}(h:T[q]?=some X):(T.take (q+1)).reverse=X::(T.take q).reverse:=by
 rw[List.take_add_one,h]
 simp
theorem qna(h:MM W0 g s E tv W L σ)(a:Option Addr)(c:Nat)(T:List ByteArray)(hT:StAt W (.slice a T.length c) T)(hl:T.length<=1000000000)(hs: ∀X∈T,X.size<=1048576)(n:Nat)(r:Nat×PM)(hr:qfu T.reverse n σ=.ok r)(hn:n<σ.N.length):
 Calls Tryz.prog 124 #[.slice a T.length c,.pointer (some ⟨L.A n,0,none⟩)] W fun e W'=> ∃M,e=.returned (.pointer (some ⟨M.A r.1,0,none⟩))/\MM W0 g s E tv W' M r.2/\MX W0.heap.size W L σ.N.length σ.C.length W' M r.2.N.length r.2.C.length/\r.1<r.2.N.length:=by
 have H0:=zh h
 have HT:=zh hT
 have HS:=zh hs
 have HR:=zh hr
 have HN:=zh hn
 obtain⟨N,hN⟩: ∃N,N=T.length:=⟨_,rfl⟩
 have HNL:=zh hN
 rw[<-hN]at hl HT⊢
 clear h hT hs hr hn hN
 go_enter Tryz.func124,Tryz.ntmps124
 go_wp2_with fail
 go_loopg [1,5] N (fun gn p i wr=> ∃(j m:Nat) (τ:PM) (M:PLay),gn=j/\j<=N/\i=.int .i64 ((j:Int)-1)/\p=.pointer (some ⟨M.A m,0,none⟩)/\Hid (qfu (T.take j).reverse m τ=.ok r)/\Hid (MM W0 g s E tv wr M τ)/\Hid (MX W0.heap.size W L σ.N.length σ.C.length wr M τ.N.length τ.C.length)/\Hid (Below W.heap.size W wr)/\Hid (m<τ.N.length))
 case atStart=>exact⟨N,n,σ,L,rfl,zD _,rfl,rfl,zh (by rw[HNL.out,List.take_length];exact HR.out),H0,zh (MX.refl _ _ _ _ _),zh (Below.refl _ _),HN⟩
 case round=>
  obtain⟨j,m,τ,M,hgn,hj,rfl,rfl,HU,HM,HX,HBW,HML⟩:=hrel
  by_cases hlt:0<j
  ·obtain⟨q,rfl⟩: ∃q,j=q+1:=⟨j-1,by omega⟩
   obtain⟨X,hX⟩: ∃X,T[q]?=some X:=⟨_,List.getElem?_eq_getElem (by rw[<-HNL.out];omega)⟩
   have hu:=HU.out
   rw[qvz hX]at hu
   obtain⟨x,hx,hu2⟩:=qkl hu
   have HU2:=zh hu2
   have HCL:=zh (fun w=>qep X (HS.out X (List.mem_of_getElem? hX)) w)
   obtain⟨ka,ta,la,ra,qa,na,va,ha,⟨la1,la2,la3,rfl⟩,⟨na1,na2,na3,rfl⟩,⟨va1,va2,va3,rfl⟩⟩:=HM.out.ncellsA hx
   have hal:=ha.lt
   obtain⟨a',c',e',hcell⟩:=HT.out
   obtain⟨rfl,-,rfl⟩:a=a'/\N=T.length/\c=c':=by
    simp only[Value.slice.injEq]at e'
    exact e'
   obtain⟨bq,oq,rfl,hbq,hcq⟩:=hcell (by rw[<-HNL.out];omega)
   have hcX:=hcq q X hX
   have HCS:Hid (∀w',Below wr.heap.size wr w'->(w'.cell? ⟨M.A m,0,none⟩=some (.int .i64 ka)/\w'.cell? ⟨M.A m,1,none⟩=some (.string ta)/\w'.cell? ⟨M.A m,2,none⟩=some (.slice la1 la2 la3)/\w'.cell? ⟨M.A m,3,none⟩=some (.bool ra)/\w'.cell? ⟨M.A m,4,none⟩=some (.bool qa)/\w'.cell? ⟨M.A m,5,none⟩=some (.slice na1 na2 na3)/\w'.cell? ⟨M.A m,6,none⟩=some (.slice va1 va2 va3)/\w'.cell? ⟨bq,oq+q,none⟩=some (.string X))):=zh (fun w' hw=>by
    have h1:NdB w' (M.A m) ka ta (.slice la1 la2 la3) ra qa (.slice na1 na2 na3) (.slice va1 va2 va3):=(hw.block _ hal).trans ha
    obtain⟨a0,a1,a2,a3,a4,a5,a6⟩:=h1.cells
    exact⟨a0,a1,a2,a3,a4,a5,a6,((HBW.out.trans (hw.mono HBW.out.size)).cell (p:=⟨bq,oq+q,none⟩) hbq).trans hcX⟩)
   have HD:Hid (Below wr.heap.size wr wr.drew):=zh (zA (Below.refl _ _))
   have HF:Hid (∀(w':World) (R B:Nat),Below wr.heap.size wr w'->wr.heap.size<=R->wr.heap.size<=B->B≠R->w'.heap[R]?=some (.cells #[.int .i64 ka,.string ta,.slice la1 la2 la3,.bool ra,.bool qa,.slice na1 na2 na3,.slice va1 va2 va3] 29 (0,0))->
    NdB w' B 13 X (.slice (some ⟨R,0,none⟩) 1 1) false false (.slice none 0 0) (.slice none 0 0)-> ∃M',MM W0 g s E tv w' M' ((τ.mv m).new (nkt 13 X [x]))/\MX W0.heap.size W L σ.N.length σ.C.length w' M' ((τ.mv m).new (nkt 13 X [x])).N.length ((τ.mv m).new (nkt 13 X [x])).C.length/\M'.A τ.N.length=B/\Below W.heap.size W w'/\τ.N.length< ((τ.mv m).new (nkt 13 X [x])).N.length):=zh (fun w' R B h1 h2 h3 h4 h5 h6=>by
    obtain⟨M',m1,m2,m3⟩:=HM.out.new1At hx _ ha h1 13 X R B h2 h3 h4 h5 h6
    refine⟨M',m1,HX.out.trans m2,m3,HBW.out.trans (h1.mono HBW.out.size),?_⟩
    show τ.N.length< ((τ.N.set m none)++[_]).length
    rw[List.length_append,zC];exact Nat.lt_succ_self _)
   have e1:(((q+1:Nat):Int)-1)=(q:Int):=by omega
   have q0:(0:Int)<=(q:Int):=by omega
   have qN:(q:Int)< (N:Int):=by omega
   have HQ:=zh hj
   have HGN:=zh hgn
   rw[e1]
   clear hX hu hx hu2 ha hal hbq hcq hcX hcell e' hj hlt e1
   go_wp2_with fail
   go_region_held3 (fun w'=>w'.cell? ⟨M.A m,0,none⟩=some (.int .i64 ka)/\w'.cell? ⟨M.A m,1,none⟩=some (.string ta)/\w'.cell? ⟨M.A m,2,none⟩=some (.slice la1 la2 la3)/\w'.cell? ⟨M.A m,3,none⟩=some (.bool ra)/\w'.cell? ⟨M.A m,4,none⟩=some (.bool qa)/\w'.cell? ⟨M.A m,5,none⟩=some (.slice na1 na2 na3)/\w'.cell? ⟨M.A m,6,none⟩=some (.slice va1 va2 va3)/\w'.cell? ⟨bq,oq+q,none⟩=some (.string X))
    (first | exact HCS.out _ HB2.out | exact HCS.out _ (HB2.out.alloc HB2.out.size _) | exact HCS.out _ ((HB2.out.alloc HB2.out.size _).alloc (HB2.out.alloc HB2.out.size _).size _) | exact HCS.out _ HD.out | exact HCS.out _ (HD.out.alloc HD.out.size _))
    (first | (go_at_call 139;refine(HCL.out _).mono ?_;rintro e w2 ⟨rfl,hb2⟩;have HB2:=zh (by first | exact HD.out.trans (hb2.mono HD.out.size) | exact(HD.out.alloc HD.out.size _).trans (hb2.mono (HD.out.alloc HD.out.size _).size):Below wr.heap.size wr w2);have HBW2:=zh hb2;clear hb2))
   all_goals go_wp2_with fail
   all_goals go_roundg q
   all_goals first
    | (have h9:=HGN.out;omega)
    | (have hb9:=HB2.out.trans ((qaj w2 [.cells #[.int .i64 ka,.string ta,.slice la1 la2 la3,.bool ra,.bool qa,.slice na1 na2 na3,.slice va1 va2 va3] 29,.cells #[.int .i64 13,.string X,.slice (some ⟨w2.heap.size,0,none⟩) 1 1,.bool false,.bool false,.slice none 0 0,.slice none 0 0] 29]).mono HB2.out.size)
       obtain⟨M',m1,m2,m3,m4,m5⟩:=HF.out _ w2.heap.size (w2.heap.size+1) hb9 HB2.out.size (Nat.le_succ_of_le HB2.out.size) (by omega) (qb5 w2 _ 0 _ rfl) (qb5 w2 _ 1 _ rfl)
       exact⟨q,τ.N.length,_,M',rfl,by have:=HQ.out;omega,rfl,by rw[m3],HU2,zh m1,zh m2,zh m4,zh m5⟩)
    | (have hb9:Below wr.heap.size wr (w2.alloc (.cells #[.int .i64 13,.string X,.slice (some ⟨wr.heap.size,0,none⟩) 1 1,.bool false,.bool false,.slice none 0 0,.slice none 0 0] 29)):=HB2.out.alloc HB2.out.size _
       have hsz:wr.heap.size<w2.heap.size:=by
        have:=HBW2.out.size
        simp at this;omega
       have hr:w2.heap[wr.heap.size]?=some (.cells #[.int .i64 ka,.string ta,.slice la1 la2 la3,.bool ra,.bool qa,.slice na1 na2 na3,.slice va1 va2 va3] 29 (0,0)):=(HBW2.out.block wr.heap.size (by simp)).trans (qbi wr.drew _)
       obtain⟨M',m1,m2,m3,m4,m5⟩:=HF.out _ wr.heap.size w2.heap.size hb9 (zD _) HB2.out.size (by omega) ((qog w2 _ hsz).trans hr) (qbi w2 _)
       exact⟨q,τ.N.length,_,M',rfl,by have:=HQ.out;omega,rfl,by rw[m3],HU2,zh m1,zh m2,zh m4,zh m5⟩)
  ·have hj0:j=0:=by omega
   subst hj0
   have hu:=HU.out
   rw[List.take_zero,List.reverse_nil]at hu
   have hu:(Except.ok (m,τ):Rs (Nat×PM))=.ok r:=hu
   obtain rfl:=Except.ok.inj hu
   clear hlt hu
   go_wp2_with fail
   go_ret
   exact⟨M,rfl,HM.out,HX.out,HML.out⟩
end
end Go.Proofs.YtdhadeeajgoedaaGreat
