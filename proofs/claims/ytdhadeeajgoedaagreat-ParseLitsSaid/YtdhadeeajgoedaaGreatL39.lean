import Derived.Test.YtdhadeeajgoedaaGreatL38
set_option maxRecDepth 100000
set_option maxHeartbeats 4000000
set_option linter.all false
open Go.RowKit.Below renaming drew→zA
open List renaming length_append→zB
open Nat renaming le_of_lt→zC,le_refl→zD,le_succ_of_le→zE,le_trans→zF,lt_of_lt_of_le→zG
namespace Go.Proofs.YtdhadeeajgoedaaGreat
open Go.RowKit Go.PlainAid
section
variable{W0 W:World}{g:Nat}{s:ByteArray}{E:Env}{tv:Value}{L:PLay}{σ:PM}
theorem MM.new0B(h:MM W0 g s E tv W L σ)(k:Int)(b:Bool): ∃M,MM W0 g s E tv (W.alloc (.cells #[.int .i64 k,.string ⟨#[]⟩,.slice none 0 0,.bool b,.bool false,.slice none 0 0,.slice none 0 0] 29)) M (σ.new ((nk k []).brk' b))/\
 MX W0.heap.size W L σ.N.length σ.C.length (W.alloc (.cells #[.int .i64 k,.string ⟨#[]⟩,.slice none 0 0,.bool b,.bool false,.slice none 0 0,.slice none 0 0] 29)) M (σ.new ((nk k []).brk' b)).N.length (σ.new ((nk k []).brk' b)).C.length/\M.A σ.N.length=W.heap.size/\σ.N.length< (σ.new ((nk k []).brk' b)).N.length:=by
 obtain⟨M,hm,hx,ha,-⟩:=h.new0E k ⟨#[]⟩
 have hN:(σ.new (nkt k ⟨#[]⟩ [])).N[σ.N.length]?=some (some (nkt k ⟨#[]⟩ [])):=by
  show(σ.N++[some (nkt k ⟨#[]⟩ [])])[σ.N.length]?=_
  rw[List.getElem?_append_right (zD _),Nat.sub_self];rfl
 have e1:(σ.new (nkt k ⟨#[]⟩ [])).set σ.N.length ((nkt k ⟨#[]⟩ []).brk' b)=σ.new ((nk k []).brk' b):=by
  show({ σ with N:=(σ.N++[some (nkt k ⟨#[]⟩ [])]).set σ.N.length _ } :PM)= { σ with N:=σ.N++[_] }
  rw[List.set_append_right _ _ (zD _),Nat.sub_self];rfl
 have s:=hm.setBrk hN b
 rw[e1,ha,World.setCell_alloc_new]at s
 exact⟨M,s.1,hx.trans s.2,ha,by show _< (σ.N++[_]).length;rw[zB];exact Nat.lt_succ_self _⟩
theorem listM(h:MM W0 g s E tv W L σ)(hk:σ.k.length<=274877906944)(hns:qes E σ≠ .error .stuck):
 Calls Tryz.prog 167 #[.pointer (some ⟨g,0,none⟩)] W (SO (qes E σ) W0 g s E tv W L σ.N.length σ.C.length):=by
 obtain⟨R,hR⟩: ∃R:Rs PM,R=qes E σ:=⟨_,rfl⟩
 rw[<-hR]at hns⊢
 have HNS:=zh hns
 have HR:=zh hR
 have H0:=zh h
 have X0:=zh (MX.refl W0.heap.size W L σ.N.length σ.C.length)
 have HK:=zh hk
 clear h hR hk hns
 try unfold ptr
 go_enter Tryz.func167,Tryz.ntmps167
 have hb:=qa1 W (.cells #[ptr g] 60)
 have B_r:=zh (H0.out.boxT (W.heap.size) (by simp) (ptr g) 60)
 have H1:=zh (H0.out.below hb)
 have Y1:=zh (H0.out.mxb hb)
 have X1:=zh (X0.out.trans Y1.out)
 clear hb
 go_wp2_with fail
 have q2:=qdd H1.out [91]
 try unfold ptr at q2
 refine q2.mono ?_
 clear q2
 intro e w2 h2
 rcases hr2:sgE E 9 [91] σ.i with x9 | ⟨b,j⟩
 ·obtain rfl:=qax (by first | exact qae hr2 | exact qag hr2 | exact qaf hr2)
  rw[hr2]at h2
  obtain⟨⟨u,pv,rfl⟩,hb⟩:=h2
  have HB9:=zh hb
  have HR2:=zh hr2
  have e9:R=.error .die:=by
   have hr2:=HR2.out;rw[HR.out];try simp[qes,msE,hr2,bind,Except.bind,pure,Except.pure,Except.map]
  subst e9
  clear hb hr2
  go_wp2_with fail
  exact⟨rfl,⟨_,_,rfl⟩,HB9.out⟩
 ·rw[hr2]at h2
  have HR2:=zh hr2
  obtain⟨rfl,hm,hx⟩:=h2
  have H2:=zh hm
  have Y2:=zh hx
  have X2:=zh (X1.out.trans Y2.out)
  have B_r_2:=zh (Y2.out.box B_r.out)
  have cr2:=B_r_2.out.cellv
  unfold ptr at cr2
  clear hm hx hr2
  cases b
  ·have e9:R=.error .die:=by
    have hr2:=HR2.out;rw[HR.out];try simp[qes,msE,hr2,bind,Except.bind,pure,Except.pure,Except.map]
   subst e9
   go_wp2_with fail
   refine(qat _).mono ?_
   rintro e w9 ⟨⟨u,pv,rfl⟩,rfl⟩
   go_wp2_with fail
   exact⟨rfl,⟨_,_,rfl⟩,H2.out.bel⟩
  ·go_wp2_with fail
   refine(qas _).mono ?_
   rintro e w9 ⟨rfl,rfl⟩
   go_wp2_with fail
   have q3:=qku (σ:=σ.at_ j) H2.out
   try unfold ptr at q3
   refine q3.mono ?_
   clear q3
   rintro e w3 ⟨rfl,hm,hx⟩
   have H3:=zh hm
   have Y3:=zh hx
   have X3:=zh (X2.out.trans Y3.out)
   have B_r_3:=zh (Y3.out.box B_r_2.out)
   have cr3:=B_r_3.out.cellv
   unfold ptr at cr3
   clear hm hx
   obtain⟨M4,hm,hx,ha,hl⟩:=MM.new0B (σ:=σ.at_ j) H3.out 5 (brE E j)
   have An:=zh (show M4.A σ.N.length=w3.heap.size from ha)
   have Nbn:=zh (show σ.N.length<_ from hl)
   have H4:=zh hm
   have Y4:=zh hx
   have X4:=zh (X3.out.trans Y4.out)
   have B_r_4:=zh (Y4.out.box B_r_3.out)
   have cr4:=B_r_4.out.cellv
   unfold ptr at cr4
   clear hm hx ha hl
   have hb:=qa1 (w3.alloc (.cells #[.int .i64 5,.string ⟨#[]⟩,.slice none 0 0,.bool (brE E j),.bool false,.slice none 0 0,.slice none 0 0] 29)) (.cells #[.pointer (some ⟨w3.heap.size,0,none⟩)] 74)
   have B_n:=zh (H4.out.boxT (w3.heap.size+1) (by simp) (.pointer (some ⟨w3.heap.size,0,none⟩)) 74)
   have H5:=zh (H4.out.below hb)
   have Y5:=zh (H4.out.mxb hb)
   have X5:=zh (X4.out.trans Y5.out)
   have B_r_5:=zh (Y5.out.box B_r_4.out)
   have cr5:=B_r_5.out.cellv
   unfold ptr at cr5
   have An_5:=zh ((Y5.out.A _ Nbn.out).trans An.out)
   have Nbn_5:=zh (zG Nbn.out Y5.out.N)
   clear hb
   go_upto_region 3 with fail
   rw[show(σ.at_ j).i=j from rfl]
   unfold ptr at*
   generalize hW1:((w3.alloc (.cells #[.int .i64 5,.string ⟨#[]⟩,.slice none 0 0,.bool (brE E j),.bool false,.slice none 0 0,.slice none 0 0] 29)).alloc (.cells #[.pointer (some ⟨w3.heap.size,0,none⟩)] 74))=W1 at*
   have HSP:Hid (∀w',Below W1.heap.size W1 w'->W1.heap.size<w'.heap.size->MM W0 g s E tv w' (M4.mine W1.heap.size) ((σ.at_ j).new ((nk 5 []).brk' (brE E j)))):=zh (fun w' hb h2=>H5.out.spare hb (zD _) h2)
   have HBL:Hid (∀w',Below W1.heap.size W1 w'->MM W0 g s E tv w' M4 ((σ.at_ j).new ((nk 5 []).brk' (brE E j)))):=zh (fun w' hb=>H5.out.below hb)
   have HBX:Hid (∀ {w':World},Below W1.heap.size W1 w'->w'.cell? ⟨W.heap.size,0,none⟩=some (.pointer (some ⟨g,0,none⟩))/\w'.cell? ⟨w3.heap.size+1,0,none⟩=some (.pointer (some ⟨w3.heap.size,0,none⟩))):=zh (fun hb=>⟨(H5.out.mxb hb).cell B_r_5.out,(H5.out.mxb hb).cell B_n.out⟩)
   have D0:=zh (zA (Below.refl W1.heap.size W1))
   go_cut [3]from 3 to 15 (fun v wx=> ∃q fK fF fC,v=.pointer (some ⟨q,0,none⟩)/\Hid (BoxC wx (M4.P W0.heap.size) (.pointer (some ⟨q,0,none⟩)) (.func (.func fK) fF fC))/\Hid (IsC wx (M4.P W0.heap.size) g M4.A M4.B (((σ.at_ j).new ((nk 5 []).brk' (brE E j)))).N.length (((σ.at_ j).new ((nk 5 []).brk' (brE E j)))).C.length (.func (.func fK) fF fC) (.tail σ.N.length 9 [93]))/\Hid (Below W1.heap.size W1 wx))
   case first=>
    go_region_held3 (fun w'=>w'.cell? ⟨W.heap.size,0,none⟩=some (.pointer (some ⟨g,0,none⟩))/\w'.cell? ⟨w3.heap.size+1,0,none⟩=some (.pointer (some ⟨w3.heap.size,0,none⟩))) (first | exact HBX.out D0.out | exact HBX.out (zA (qa1 _ _)) | exact HBX.out (D0.out.trans (qa1 _ _)) | exact HBX.out B9.out | exact HBX.out F9.out.2.2 | exact HBX.out B8.out | exact HBX.out (B8.out.trans ((qa1 w8 _).mono B8.out.size)) | exact HBX.out (B9.out.trans ((qa1 w9 _).mono B9.out.size))) (first | (go_at_call 188;refine(qkm (HSP.out _ (by first | exact zA (qa1 _ _) | exact D0.out.trans (qa1 _ _)) (by simp)) [93]).mono ?_;rintro e w8 ⟨v8,rfl,hv,hb⟩;obtain⟨fK8,fF8,fC8,rfl⟩:=hv.fn;have V8:=zh hv;have S8:=zh (zG (by simp) hb.size:W1.heap.size<w8.heap.size);have Q8:Hid (∃u T,w8.heap[W1.heap.size]?=some (.cells #[u] T (0,0))):=zh ⟨_,_,by first | exact(hb.block _ (by simp)).trans (qaa W1 _) | exact(hb.block _ (by simp)).trans (qaa W1.drew _)⟩;have B8:Hid (Below W1.heap.size W1 w8):=zh (by first | exact(zA (qa1 W1 _)).trans (hb.mono (by simp)) | exact(D0.out.trans (qa1 W1.drew _)).trans (hb.mono (by simp)));clear hv hb) | (go_at_call 188;refine(qkm (HBL.out _ D0.out) [93]).mono ?_;rintro e w8 ⟨v8,rfl,hv,hb⟩;obtain⟨fK8,fF8,fC8,rfl⟩:=hv.fn;have V8:=zh hv;have B8:=zh (D0.out.trans hb);have HS9:Hid (∀w',Below w8.heap.size w8 w'->w8.heap.size<w'.heap.size->MM W0 g s E tv w' (M4.mine w8.heap.size) ((σ.at_ j).new ((nk 5 []).brk' (brE E j)))):=zh (fun w' hb h2=>(HBL.out _ B8.out).spare hb (zD _) h2);clear hv hb) | (go_at_call 189;refine(qlu (HSP.out _ B8.out S8.out) σ.N.length 9 [93] _ V8.out Nbn_5.out An_5.out).mono ?_;rintro e w9 ⟨v9,rfl,hv,hb⟩;obtain⟨fK9,fF9,fC9,rfl⟩:=hv.fn;have V9:=zh hv;have B9:=zh (B8.out.trans (hb.mono B8.out.size));have Q9:Hid (∃u T,w9.heap[W1.heap.size]?=some (.cells #[u] T (0,0))):=zh (by obtain⟨u,T,hq⟩:=Q8.out;exact⟨u,T,(hb.block _ S8.out).trans hq⟩);have F9:Hid (BoxC _ _ _ _/\_):=zh (by obtain⟨u,T,hq⟩:=Q9.out;exact MM.laid H5.out B9.out (zD _) V9.out hq);obtain⟨u9,T9,hq9⟩:=Q9.out;have hc9:=(qaq hq9).1;have hf9:=(qaq hq9).2;clear hq9;clear hv hb) | (go_at_call 189;refine(qlu (HS9.out _ (qa1 w8 _) (by simp)) σ.N.length 9 [93] _ (V8.out.mineUp (qa1 w8 _) (zD _)) Nbn_5.out An_5.out).mono ?_;rintro e w9 ⟨v9,rfl,hv,hb⟩;obtain⟨fK9,fF9,fC9,rfl⟩:=hv.fn;have V9:=zh hv;have B9:=zh (B8.out.trans ((qa1 w8 _).trans (hb.mono (by simp)) |>.mono B8.out.size));have Q9:Hid (∃u T,w9.heap[w8.heap.size]?=some (.cells #[u] T (0,0))):=zh ⟨_,_,(hb.block _ (by simp)).trans (qaa w8 _)⟩;have F9:Hid (BoxC _ _ _ _/\_):=zh (by obtain⟨u,T,hq⟩:=Q9.out;exact MM.laid H5.out B9.out B8.out.size V9.out hq);obtain⟨u9,T9,hq9⟩:=Q9.out;have hc9:=(qaq hq9).1;have hf9:=(qaq hq9).2;clear hq9;clear hv hb) | (go_at_call 189;refine(qlu (HBL.out _ B8.out) σ.N.length 9 [93] _ V8.out Nbn_5.out An_5.out).mono ?_;rintro e w9 ⟨v9,rfl,hv,hb⟩;obtain⟨fK9,fF9,fC9,rfl⟩:=hv.fn;have V9:=zh hv;have B9:=zh (B8.out.trans (hb.mono B8.out.size));have F9:=zh (MM.laidB H5.out B9.out 1 V9.out);clear hv hb))
    all_goals go_wp2_with fail
    all_goals go_meet
    all_goals exact⟨_,_,_,_,rfl,zh F9.out.1,zh F9.out.2.1,zh F9.out.2.2⟩
   case rest=>
    obtain⟨kq,fKq,fFq,fCq,rfl,BQ,VQ,BB⟩:=hcut
    have H6:=zh (H5.out.below BB.out)
    have Y6:=zh (H5.out.mxb BB.out)
    have X6:=zh (X5.out.trans Y6.out)
    have B_r_6:=zh (Y6.out.box B_r_5.out)
    have cr6:=B_r_6.out.cellv
    unfold ptr at cr6
    have B_n_6:=zh (Y6.out.box B_n.out)
    have cn6:=B_n_6.out.cellv
    have An_6:=zh ((Y6.out.A _ Nbn_5.out).trans An_5.out)
    have Nbn_6:=zh (zG Nbn_5.out Y6.out.N)
    have cq:=BQ.out.cellv
    have V7:=zh (IsC.listK (W:=wc) (P:=M4.P W0.heap.size) (g:=g) (A:=M4.A) (B:=M4.B) (nN:=(((σ.at_ j).new ((nk 5 []).brk' (brE E j)))).N.length) (nC:=σ.C.length) σ.N.length _ _ _ _ B_r_6.out (by have h9:=B_n_6.out;rw[show ptr (M4.A σ.N.length)=_ from congrArg ptr An_6.out];exact h9) BQ.out VQ.out Nbn_6.out)
    cases hs8:E.sign (pz j) [93]
    ·have HS8:=zh hs8
     go_wp2_with fail
     have q8:=qcb (σ:=((σ.at_ j).new ((nk 5 []).brk' (brE E j)))) H6.out [93]
     rw[show E.sign (pz ((σ.at_ j).new ((nk 5 []).brk' (brE E j))).i) [93]=_ from HS8.out]at q8
     try unfold ptr at q8
     refine q8.mono ?_
     clear q8
     rintro e w8 ⟨rfl,hm,hx⟩
     have H8:=zh hm
     have Y8:=zh hx
     have X8:=zh (X6.out.trans Y8.out)
     have B_r_8:=zh (Y8.out.box B_r_6.out)
     have cr8:=B_r_8.out.cellv
     unfold ptr at cr8
     have B_n_8:=zh (Y8.out.box B_n_6.out)
     have cn8:=B_n_8.out.cellv
     have B_q_8:=zh (Y8.out.box BQ.out)
     have cq8:=B_q_8.out.cellv
     have vq_8:=zh (Y8.out.isc VQ.out)
     have vl_8:=zh (Y8.out.isc V7.out)
     have An_8:=zh ((Y8.out.A _ Nbn_6.out).trans An_6.out)
     have Nbn_8:=zh (zG Nbn_6.out Y8.out.N)
     clear hm hx
     go_wp2_with fail
     have Z0:=zh (MX.refl W0.heap.size w8 M4 (((σ.at_ j).new ((nk 5 []).brk' (brE E j)))).N.length (((σ.at_ j).new ((nk 5 []).brk' (brE E j)))).C.length)
     have HCrn:Hid (∀ {w':World} {L':PLay} {nN nC:Nat},MX W0.heap.size w8 M4 (((σ.at_ j).new ((nk 5 []).brk' (brE E j)))).N.length (((σ.at_ j).new ((nk 5 []).brk' (brE E j)))).C.length w' L' nN nC->w'.cell? ⟨W.heap.size,0,none⟩=some (.pointer (some ⟨g,0,none⟩))/\w'.cell? ⟨w3.heap.size+1,0,none⟩=some (.pointer (some ⟨w3.heap.size,0,none⟩))):=zh (fun hx=>⟨hx.cell B_r_8.out,hx.cell B_n_8.out⟩)
     have hb:=zA (Below.refl w8.heap.size w8)
     have H9:=zh (H8.out.below hb)
     have Y9:=zh (H8.out.mxb hb)
     have X9:=zh (X8.out.trans Y9.out)
     have Z9:=zh (Z0.out.trans Y9.out)
     have B_r_9:=zh (Y9.out.box B_r_8.out)
     have cr9:=B_r_9.out.cellv
     unfold ptr at cr9
     have B_n_9:=zh (Y9.out.box B_n_8.out)
     have cn9:=B_n_9.out.cellv
     have B_q_9:=zh (Y9.out.box B_q_8.out)
     have cq9:=B_q_9.out.cellv
     have vq_9:=zh (Y9.out.isc vq_8.out)
     have vl_9:=zh (Y9.out.isc vl_8.out)
     have An_9:=zh ((Y9.out.A _ Nbn_8.out).trans An_8.out)
     have Nbn_9:=zh (zG Nbn_8.out Y9.out.N)
     clear hb
     go_region_held3 (fun w'=>w'.cell? ⟨W.heap.size,0,none⟩=some (.pointer (some ⟨g,0,none⟩))/\w'.cell? ⟨w3.heap.size+1,0,none⟩=some (.pointer (some ⟨w3.heap.size,0,none⟩))) (first | exact HCrn.out Z13.out | exact HCrn.out Z12.out | exact HCrn.out Z11.out | exact HCrn.out Z10.out | exact HCrn.out Z9.out | exact HCrn.out (Z10.out.trans (H10.out.mxb (qa1 _ _))) | exact HCrn.out (Z11.out.trans (H11.out.mxb (qa1 _ _))) | exact HCrn.out (Z12.out.trans (H12.out.mxb (qa1 _ _))) | exact HCrn.out (Z13.out.trans (H13.out.mxb (qa1 _ _)))) (first | (go_at_call 37;have q10:=qds H9.out 3;try unfold ptr at q10;refine q10.mono ?_;clear q10;rintro e w10 ⟨v4,rfl,hv,hb⟩;obtain⟨fK10,fF10,fC10,rfl⟩:=hv.fn;have V10:=zh hv;have H10:=zh (H9.out.below hb);have Y10:=zh (H9.out.mxb hb);have X10:=zh (X9.out.trans Y10.out);have Z10:=zh (Z9.out.trans Y10.out);have B_r_10:=zh (Y10.out.box B_r_9.out);have cr10:=B_r_10.out.cellv;unfold ptr at cr10;have B_n_10:=zh (Y10.out.box B_n_9.out);have cn10:=B_n_10.out.cellv;have B_q_10:=zh (Y10.out.box B_q_9.out);have cq10:=B_q_10.out.cellv;have vq_10:=zh (Y10.out.isc vq_9.out);have vl_10:=zh (Y10.out.isc vl_9.out);have An_10:=zh ((Y10.out.A _ Nbn_9.out).trans An_9.out);have Nbn_10:=zh (zG Nbn_9.out Y10.out.N);clear hv hb) | (go_at_call 73;have q11:=ql4 H10.out (.expr 3) _ V10.out;try unfold ptr at q11;refine q11.mono ?_;clear q11;rintro e w11 ⟨v5,rfl,hv,hb⟩;obtain⟨fK11,fF11,fC11,rfl⟩:=hv.fn;have V11:=zh hv;have H11:=zh (H10.out.below hb);have Y11:=zh (H10.out.mxb hb);have X11:=zh (X10.out.trans Y11.out);have Z11:=zh (Z10.out.trans Y11.out);have B_r_11:=zh (Y11.out.box B_r_10.out);have cr11:=B_r_11.out.cellv;unfold ptr at cr11;have B_n_11:=zh (Y11.out.box B_n_10.out);have cn11:=B_n_11.out.cellv;have B_q_11:=zh (Y11.out.box B_q_10.out);have cq11:=B_q_11.out.cellv;have vq_11:=zh (Y11.out.isc vq_10.out);have vl_11:=zh (Y11.out.isc vl_10.out);have v4_11:=zh (Y11.out.isc V10.out);have An_11:=zh ((Y11.out.A _ Nbn_10.out).trans An_10.out);have Nbn_11:=zh (zG Nbn_10.out Y11.out.N);clear hv hb) | (go_at_call 74;have q12:=qzx H11.out σ.N.length [44] (.item (.expr 3)) _ V11.out Nbn_11.out;rw[An_11.out]at q12;try unfold ptr at q12;refine q12.mono ?_;clear q12;rintro e w12 ⟨v6,rfl,hv,hb⟩;obtain⟨fK12,fF12,fC12,rfl⟩:=hv.fn;have V12:=zh hv;have H12:=zh (H11.out.below hb);have Y12:=zh (H11.out.mxb hb);have X12:=zh (X11.out.trans Y12.out);have Z12:=zh (Z11.out.trans Y12.out);have B_r_12:=zh (Y12.out.box B_r_11.out);have cr12:=B_r_12.out.cellv;unfold ptr at cr12;have B_n_12:=zh (Y12.out.box B_n_11.out);have cn12:=B_n_12.out.cellv;have B_q_12:=zh (Y12.out.box B_q_11.out);have cq12:=B_q_12.out.cellv;have vq_12:=zh (Y12.out.isc vq_11.out);have vl_12:=zh (Y12.out.isc vl_11.out);have v4_12:=zh (Y12.out.isc v4_11.out);have v5_12:=zh (Y12.out.isc V11.out);have An_12:=zh ((Y12.out.A _ Nbn_11.out).trans An_11.out);have Nbn_12:=zh (zG Nbn_11.out Y12.out.N);clear hv hb) | (go_at_call 36;refine(qbh H12.out _ (by simp) [_,_] [.row σ.N.length [44] (.item (.expr 3)),.listK σ.N.length] 2 rfl (zF HK.out (by decide)) (by decide) _ ⟨V12.out,⟨vl_12.out,trivial⟩⟩).mono ?_;rintro e w13 ⟨rfl,M13,hm,hx⟩;have H13:=zh hm;have Y13:=zh hx;have X13:=zh (X12.out.trans Y13.out);have Z13:=zh (Z12.out.trans Y13.out);have B_r_13:=zh (Y13.out.box B_r_12.out);have cr13:=B_r_13.out.cellv;unfold ptr at cr13;have B_n_13:=zh (Y13.out.box B_n_12.out);have cn13:=B_n_13.out.cellv;have B_q_13:=zh (Y13.out.box B_q_12.out);have cq13:=B_q_13.out.cellv;have vq_13:=zh (Y13.out.isc vq_12.out);have vl_13:=zh (Y13.out.isc vl_12.out);have v4_13:=zh (Y13.out.isc v4_12.out);have v5_13:=zh (Y13.out.isc v5_12.out);have v6_13:=zh (Y13.out.isc V12.out);have An_13:=zh ((Y13.out.A _ Nbn_12.out).trans An_12.out);have Nbn_13:=zh (zG Nbn_12.out Y13.out.N);clear hm hx))
     all_goals
      have e9:R=.ok (((σ.at_ j).new ((nk 5 []).brk' (brE E j))).plan [.row σ.N.length [44] (.item (.expr 3)),.listK σ.N.length]):=by
       have hr2:=HR2.out;have hs8:=HS8.out;rw[HR.out];try simp[qes,msE,hr2,hs8,bind,Except.bind,pure,Except.pure,Except.map]
      subst e9
      go_wp2_with fail
      go_end0
      exact⟨rfl,M13,H13.out,X13.out⟩
    ·have HS8:=zh hs8
     go_wp2_with fail
     have q14:=qcb (σ:=((σ.at_ j).new ((nk 5 []).brk' (brE E j)))) H6.out [93]
     rw[show E.sign (pz ((σ.at_ j).new ((nk 5 []).brk' (brE E j))).i) [93]=_ from HS8.out]at q14
     try unfold ptr at q14
     refine q14.mono ?_
     clear q14
     rintro e w14 ⟨rfl,hm,hx⟩
     have H14:=zh hm
     have Y14:=zh hx
     have X14:=zh (X6.out.trans Y14.out)
     have B_r_14:=zh (Y14.out.box B_r_6.out)
     have cr14:=B_r_14.out.cellv
     unfold ptr at cr14
     have B_n_14:=zh (Y14.out.box B_n_6.out)
     have cn14:=B_n_14.out.cellv
     have B_q_14:=zh (Y14.out.box BQ.out)
     have cq14:=B_q_14.out.cellv
     have vq_14:=zh (Y14.out.isc VQ.out)
     have vl_14:=zh (Y14.out.isc V7.out)
     have An_14:=zh ((Y14.out.A _ Nbn_6.out).trans An_6.out)
     have Nbn_14:=zh (zG Nbn_6.out Y14.out.N)
     clear hm hx
     have hen:=vq_14.out.enter
     go_wp2_with fail
     have hns9:qcw E σ.N.length 9 [93] ((σ.at_ j).new ((nk 5 []).brk' (brE E j)))≠ .error .stuck:=by
      have e9:R=qcw E σ.N.length 9 [93] ((σ.at_ j).new ((nk 5 []).brk' (brE E j))):=by
       have hr:=HR2.out;have hs8:=HS8.out;rw[HR.out];simp[qes,msE,hr,hs8,bind,Except.bind]
      rw[<-e9];exact HNS.out
     have q15:=qmc (σ:=((σ.at_ j).new ((nk 5 []).brk' (brE E j)))) H14.out HK.out vq_14.out hns9
     try unfold ptr at q15
     refine q15.mono ?_
     clear q15
     intro e w9 h9
     have e9:R=qcw E σ.N.length 9 [93] ((σ.at_ j).new ((nk 5 []).brk' (brE E j))):=by
      have hr2:=HR2.out;have hs8:=HS8.out;rw[HR.out];try simp[qes,msE,hr2,hs8,bind,Except.bind,pure,Except.pure,Except.map]
     subst e9
     cases hres:(qcw E σ.N.length 9 [93] ((σ.at_ j).new ((nk 5 []).brk' (brE E j))))with
     | error b=>
      cases b with
      | die=>
       rw[hres]at h9
       obtain⟨⟨u,pv,rfl⟩,hb⟩:=h9
       have HB9:=zh hb
       have HRES:=zh hres
       clear hb hres
       go_wp2_with fail
       exact⟨rfl,⟨_,_,rfl⟩,HB9.out⟩
      | stuck=>exact absurd hres HNS.out
     | ok τ=>
      rw[hres]at h9
      obtain⟨rfl,M9,hm,hx⟩:=h9
      have H9:=zh hm
      have X9:=zh (X14.out.trans hx)
      have HRES:=zh hres
      clear hm hx hres
      go_wp2_with fail
      go_end0
      first
       | exact⟨rfl,M9,H9.out,X9.out⟩
       | (rw[HRES.out];exact⟨rfl,M9,H9.out,X9.out⟩)
end
section
variable{W0 W:World}{g:Nat}{s:ByteArray}{E:Env}{tv:Value}{L:PLay}{σ:PM}
def FO(o:Option Stp)(W0:World)(g:Nat)(s:ByteArray)(E:Env)(tv:Value)(W:World)(L:PLay)(σ:PM)(e:Ending)(W':World):Prop:=
 ∃v,e=.returned v/\MM W0 g s E tv W' L σ/\MX W0.heap.size W L σ.N.length σ.C.length W' L σ.N.length σ.C.length/\match o with
  | none=>v=Value.nilFunc
  | some t=>IsC W' (L.P W0.heap.size) g L.A L.B σ.N.length σ.C.length v t
theorem qd6(k:Int)(t:ByteArray)(l:List Nd)(br bl:Bool)(no ta:List ByteArray):qtb (.mk k t l br bl no ta)=qjj k t:=rfl
theorem MM.chc(h:MM W0 g s E tv W L σ){c:Nat}{ch:Chn}(hc:σ.C[c]?=some ch):W.cell? ⟨L.B c,0,none⟩=some (.pointer (some ⟨g,0,none⟩))/\W.cell? ⟨L.B c,4,none⟩=some (.bool ch.st):=by
 obtain⟨-,cv,av,h1,-,-,-,-⟩:=h.chs c ch hc
 exact⟨by rw[cell_of_row W _ _ _ _ _ h1];rfl,by rw[cell_of_row W _ _ _ _ _ h1];rfl⟩
theorem qu6(h:MM W0 g s E tv W L σ){c j:Nat}{ch:Chn}{k:Int}{t:ByteArray}{l:List Nd}{br bl:Bool}{no ta:List ByteArray}(hc:σ.C[c]?=some ch)(hn:σ.n=some j)(hx:σ.N[j]?=some (some (.mk k t l br bl no ta))):
 Calls Tryz.prog 123 #[.pointer (some ⟨L.B c,0,none⟩)] W (FO (qav E ch (.mk k t l br bl no ta) σ.i) W0 g s E tv W L σ):=by
 obtain⟨R,hR⟩: ∃R:Option Stp,R=qav E ch (.mk k t l br bl no ta) σ.i:=⟨_,rfl⟩
 rw[<-hR]
 have HR:=zh hR
 have H0:=zh h
 have X0:=zh (MX.refl W0.heap.size W L σ.N.length σ.C.length)
 have HC:=zh hc
 have HN_j:=zh hn
 have HX_j:=zh hx
 clear h hR hc hn hx
 cases hst:ch.st
 rotate_left
 ·have HST:=zh hst
  obtain⟨c0,c4⟩:=H0.out.chc HC.out
  rw[HST.out]at c4
  go_enter Tryz.func123,Tryz.ntmps123
  obtain⟨c0,c4⟩:=H0.out.chc HC.out
  rw[HST.out]at c4
  cases hs1:E.sign (pz σ.i) [40]
  rotate_left
  ·have HS1:=zh hs1
   go_wp2_with fail
   have q1:=qcb (σ:=σ) H0.out [40]
   rw[show E.sign (pz σ.i) [40]=_ from HS1.out]at q1
   try unfold ptr at q1
   refine q1.mono ?_
   clear q1
   rintro e w1 ⟨rfl,hm,hx⟩
   have H1:=zh hm
   have Y1:=zh hx
   have X1:=zh (X0.out.trans Y1.out)
   clear hm hx
   obtain⟨c0,c4⟩:=H1.out.chc HC.out
   rw[HST.out]at c4
   have e9:R=some .call:=by
    have hst:=HST.out;have hs1:=HS1.out;rw[HR.out];try simp[qav,qd6,Nd.kd,hst,hs1,bind,Except.bind,pure,Except.pure,Except.map]
   subst e9
   go_wp2_with fail
   go_ret
   exact⟨_,rfl,H1.out,X1.out,IsC.call⟩
  have HS1:=zh hs1
  go_wp2_with fail
  have q2:=qcb (σ:=σ) H0.out [40]
  rw[show E.sign (pz σ.i) [40]=_ from HS1.out]at q2
  try unfold ptr at q2
  refine q2.mono ?_
  clear q2
  rintro e w2 ⟨rfl,hm,hx⟩
  have H2:=zh hm
  have Y2:=zh hx
  have X2:=zh (X0.out.trans Y2.out)
  clear hm hx
  obtain⟨c0,c4⟩:=H2.out.chc HC.out
  rw[HST.out]at c4
  cases hs2:E.sign (pz σ.i) [35]
  rotate_left
  ·have HS2:=zh hs2
   go_wp2_with fail
   have q3:=qcb (σ:=σ) H2.out [35]
   rw[show E.sign (pz σ.i) [35]=_ from HS2.out]at q3
   try unfold ptr at q3
   refine q3.mono ?_
   clear q3
   rintro e w3 ⟨rfl,hm,hx⟩
   have H3:=zh hm
   have Y3:=zh hx
   have X3:=zh (X2.out.trans Y3.out)
   clear hm hx
   obtain⟨c0,c4⟩:=H3.out.chc HC.out
   rw[HST.out]at c4
   have e9:R=some .chgd:=by
    have hst:=HST.out;have hs1:=HS1.out;have hs2:=HS2.out;rw[HR.out];try simp[qav,qd6,Nd.kd,hst,hs1,hs2,bind,Except.bind,pure,Except.pure,Except.map]
   subst e9
   go_wp2_with fail
   go_ret
   exact⟨_,rfl,H3.out,X3.out,IsC.chgd⟩
  have HS2:=zh hs2
  go_wp2_with fail
  have q4:=qcb (σ:=σ) H2.out [35]
  rw[show E.sign (pz σ.i) [35]=_ from HS2.out]at q4
  try unfold ptr at q4
  refine q4.mono ?_
  clear q4
  rintro e w4 ⟨rfl,hm,hx⟩
  have H4:=zh hm
  have Y4:=zh hx
  have X4:=zh (X2.out.trans Y4.out)
  clear hm hx
  cases hs3:E.sign (pz σ.i) [58]
  ·have HS3:=zh hs3
   obtain⟨c0,c4⟩:=H4.out.chc HC.out
   rw[HST.out]at c4
   go_wp2_with fail
   have q5:=qcb (σ:=σ) H4.out [58]
   rw[show E.sign (pz σ.i) [58]=_ from HS3.out]at q5
   try unfold ptr at q5
   refine q5.mono ?_
   clear q5
   rintro e w5 ⟨rfl,hm,hx⟩
   have H5:=zh hm
   have Y5:=zh hx
   have X5:=zh (X4.out.trans Y5.out)
   clear hm hx
   obtain⟨c0,c4⟩:=H5.out.chc HC.out
   rw[HST.out]at c4
   have e9:R=none:=by
    have hst:=HST.out;have hs1:=HS1.out;have hs2:=HS2.out;have hs3:=HS3.out;rw[HR.out];try simp[qav,qd6,Nd.kd,hst,hs1,hs2,hs3,bind,Except.bind,pure,Except.pure,Except.map]
   subst e9
   go_wp2_with fail
   go_ret
   exact⟨_,rfl,H5.out,X5.out,rfl⟩
  ·have HS3:=zh hs3
   obtain⟨c0,c4⟩:=H4.out.chc HC.out
   rw[HST.out]at c4
   go_wp2_with fail
   have q6:=qcb (σ:=σ) H4.out [58]
   rw[show E.sign (pz σ.i) [58]=_ from HS3.out]at q6
   try unfold ptr at q6
   refine q6.mono ?_
   clear q6
   rintro e w6 ⟨rfl,hm,hx⟩
   have H6:=zh hm
   have Y6:=zh hx
   have X6:=zh (X4.out.trans Y6.out)
   clear hm hx
   obtain⟨c0,c4⟩:=H6.out.chc HC.out
   rw[HST.out]at c4
   have e9:R=some .remo:=by
    have hst:=HST.out;have hs1:=HS1.out;have hs2:=HS2.out;have hs3:=HS3.out;rw[HR.out];try simp[qav,qd6,Nd.kd,hst,hs1,hs2,hs3,bind,Except.bind,pure,Except.pure,Except.map]
   subst e9
   go_wp2_with fail
   go_ret
   exact⟨_,rfl,H6.out,X6.out,IsC.remo⟩
 ·have HST:=zh hst
  obtain⟨c0,c4⟩:=H0.out.chc HC.out
  rw[HST.out]at c4
  obtain⟨-,lv,nv,tv9,hNd,-⟩:=H0.out.node HX_j.out
  have HND9:=zh hNd
  have g5:=H0.out.gcur HN_j.out
  have m0:=hNd.cells.1
  clear hNd
  go_enter Tryz.func123,Tryz.ntmps123
  go_wp2_with fail
  refine(bareM HND9.out).mono ?_
  rintro e w9 ⟨rfl,n9,rfl⟩
  have H7:=zh (H0.out.below (qab W n9))
  have Y7:=zh (H0.out.mxb (qab W n9))
  have X7:=zh (X0.out.trans Y7.out)
  cases hb9:qjj k t
  ·have HB9:=zh hb9
   have e9:R=none:=by
    have hst:=HST.out;have hb9:=HB9.out;rw[HR.out];try simp[qav,qd6,Nd.kd,hst,hb9,bind,Except.bind,pure,Except.pure,Except.map]
   subst e9
   go_wp2_with fail
   go_ret
   exact⟨_,rfl,H7.out,X7.out,rfl⟩
  ·have HB9:=zh hb9
   obtain⟨c0,c4⟩:=H7.out.chc HC.out
   rw[HST.out]at c4
   cases hs1:E.sign (pz σ.i) [40]
   rotate_left
   ·have HS1:=zh hs1
    go_wp2_with fail
    have q8:=qcb (σ:=σ) H7.out [40]
    rw[show E.sign (pz σ.i) [40]=_ from HS1.out]at q8
    try unfold ptr at q8
    refine q8.mono ?_
    clear q8
    rintro e w8 ⟨rfl,hm,hx⟩
    have H8:=zh hm
    have Y8:=zh hx
    have X8:=zh (X7.out.trans Y8.out)
    clear hm hx
    obtain⟨c0,c4⟩:=H8.out.chc HC.out
    rw[HST.out]at c4
    have e9:R=some .call:=by
     have hst:=HST.out;have hb9:=HB9.out;have hs1:=HS1.out;rw[HR.out];try simp[qav,qd6,Nd.kd,hst,hb9,hs1,bind,Except.bind,pure,Except.pure,Except.map]
    subst e9
    go_wp2_with fail
    go_ret
    exact⟨_,rfl,H8.out,X8.out,IsC.call⟩
   have HS1:=zh hs1
   go_wp2_with fail
   have q9:=qcb (σ:=σ) H7.out [40]
   rw[show E.sign (pz σ.i) [40]=_ from HS1.out]at q9
   try unfold ptr at q9
   refine q9.mono ?_
   clear q9
   rintro e w9 ⟨rfl,hm,hx⟩
   have H9:=zh hm
   have Y9:=zh hx
   have X9:=zh (X7.out.trans Y9.out)
   clear hm hx
   obtain⟨c0,c4⟩:=H9.out.chc HC.out
   rw[HST.out]at c4
   cases hs2:E.sign (pz σ.i) [35]
   rotate_left
   ·have HS2:=zh hs2
    go_wp2_with fail
    have q10:=qcb (σ:=σ) H9.out [35]
    rw[show E.sign (pz σ.i) [35]=_ from HS2.out]at q10
    try unfold ptr at q10
    refine q10.mono ?_
    clear q10
    rintro e w10 ⟨rfl,hm,hx⟩
    have H10:=zh hm
    have Y10:=zh hx
    have X10:=zh (X9.out.trans Y10.out)
    clear hm hx
    obtain⟨c0,c4⟩:=H10.out.chc HC.out
    rw[HST.out]at c4
    have e9:R=some .chgd:=by
     have hst:=HST.out;have hb9:=HB9.out;have hs1:=HS1.out;have hs2:=HS2.out;rw[HR.out];try simp[qav,qd6,Nd.kd,hst,hb9,hs1,hs2,bind,Except.bind,pure,Except.pure,Except.map]
    subst e9
    go_wp2_with fail
    go_ret
    exact⟨_,rfl,H10.out,X10.out,IsC.chgd⟩
   have HS2:=zh hs2
   go_wp2_with fail
   have q11:=qcb (σ:=σ) H9.out [35]
   rw[show E.sign (pz σ.i) [35]=_ from HS2.out]at q11
   try unfold ptr at q11
   refine q11.mono ?_
   clear q11
   rintro e w11 ⟨rfl,hm,hx⟩
   have H11:=zh hm
   have Y11:=zh hx
   have X11:=zh (X9.out.trans Y11.out)
   clear hm hx
   cases hs3:E.sign (pz σ.i) [58]
   ·have HS3:=zh hs3
    obtain⟨c0,c4⟩:=H11.out.chc HC.out
    rw[HST.out]at c4
    go_wp2_with fail
    have q12:=qcb (σ:=σ) H11.out [58]
    rw[show E.sign (pz σ.i) [58]=_ from HS3.out]at q12
    try unfold ptr at q12
    refine q12.mono ?_
    clear q12
    rintro e w12 ⟨rfl,hm,hx⟩
    have H12:=zh hm
    have Y12:=zh hx
    have X12:=zh (X11.out.trans Y12.out)
    clear hm hx
    obtain⟨c0,c4⟩:=H12.out.chc HC.out
    rw[HST.out]at c4
    have e9:R=none:=by
     have hst:=HST.out;have hb9:=HB9.out;have hs1:=HS1.out;have hs2:=HS2.out;have hs3:=HS3.out;rw[HR.out];try simp[qav,qd6,Nd.kd,hst,hb9,hs1,hs2,hs3,bind,Except.bind,pure,Except.pure,Except.map]
    subst e9
    go_wp2_with fail
    go_ret
    exact⟨_,rfl,H12.out,X12.out,rfl⟩
   ·have HS3:=zh hs3
    obtain⟨c0,c4⟩:=H11.out.chc HC.out
    rw[HST.out]at c4
    go_wp2_with fail
    have q13:=qcb (σ:=σ) H11.out [58]
    rw[show E.sign (pz σ.i) [58]=_ from HS3.out]at q13
    try unfold ptr at q13
    refine q13.mono ?_
    clear q13
    rintro e w13 ⟨rfl,hm,hx⟩
    have H13:=zh hm
    have Y13:=zh hx
    have X13:=zh (X11.out.trans Y13.out)
    clear hm hx
    obtain⟨c0,c4⟩:=H13.out.chc HC.out
    rw[HST.out]at c4
    obtain⟨-,lv,nv,tv9,hNd,-⟩:=H13.out.node HX_j.out
    have HND9:=zh hNd
    have g5:=H13.out.gcur HN_j.out
    have m0:=hNd.cells.1
    clear hNd
    by_cases k1:k=1
    ·subst k1
     have e9:R=some .remo:=by
      have hst:=HST.out;have hb9:=HB9.out;have hs1:=HS1.out;have hs2:=HS2.out;have hs3:=HS3.out;rw[HR.out];try simp[qav,qd6,Nd.kd,hst,hb9,hs1,hs2,hs3,bind,Except.bind,pure,Except.pure,Except.map]
     subst e9
     go_wp2_with fail
     go_ret
     exact⟨_,rfl,H13.out,X13.out,IsC.remo⟩
    ·have K1:=zh k1
     have e1:(k==1)=false:=beq_false_of_ne k1
     have e9:R=none:=by
      have hst:=HST.out;have hb9:=HB9.out;have hs1:=HS1.out;have hs2:=HS2.out;have hs3:=HS3.out;have k1:=K1.out;rw[HR.out];try simp[qav,qd6,Nd.kd,hst,hb9,hs1,hs2,hs3,k1,bind,Except.bind,pure,Except.pure,Except.map]
     subst e9
     go_wp2_with fail
     go_ret
     exact⟨_,rfl,H13.out,X13.out,rfl⟩
end
section
variable{W0 W:World}{g:Nat}{s:ByteArray}{E:Env}{tv:Value}{L:PLay}{σ:PM}
def tyJ(W0:World)(g:Nat)(s:ByteArray)(E:Env)(tv:Value)(W:World)(L:PLay)(σ:PM)(R:Rs Nat)(n:Nat)(a':Act)(w':World):Prop:=
 ∃q:Nat,Hid (tyL E n q=R)/\Hid (MM W0 g s E tv w' L (σ.at_ q))/\Hid (MX W0.heap.size W L σ.N.length σ.C.length w' L σ.N.length σ.C.length)/\ ∃u1 u2 u3 u4 u5 u6:Value,a'= { tmps:= #[.pointer (some ⟨g,0,none⟩),u1,u2,u3,u4,u5,u6],defers:=[] }
theorem qxg(h:MM W0 g s E tv W L σ)(f:Nat)(hns:tyL E f σ.i≠ .error .stuck):
 Calls Tryz.prog 220 #[.pointer (some ⟨g,0,none⟩)] W (MO (tyL E f σ.i) W0 g s E tv W L σ (fun _=>.tuple #[]) id):=by
 obtain⟨R,hR⟩: ∃R,R=tyL E f σ.i:=⟨_,rfl⟩
 rw[<-hR]at hns⊢
 have HR:=zh hR
 have HNS:=zh hns
 have H0:=zh h
 clear h hR hns
 go_enter Tryz.func220,Tryz.ntmps220
 go_wp2_with fail
 refine qd5 (tyJ W0 g s E tv W L σ R) rfl ?_ ?_
 ·rintro n a' w' ⟨q,HT,HM,HX,u1,u2,u3,u4,u5,u6,rfl⟩
  cases n with
  | zero=>exact absurd HT.out.symm HNS.out
  | succ m=>
   go_wp2_with fail
   have hb:=qa1 w' (.cells #[.int .i64 1] 3)
   have Uk:=zh (qev w' _ rfl [1] (by decide) 3)
   have Ugk:=zh (show w'.heap.size≠g from by have:=HM.out.glt;omega)
   have H1:=zh (HM.out.below hb)
   have X1:=zh (HX.out.trans (HM.out.mxb hb))
   clear hb
   have q1:=textM (σ:=σ.at_ q) H1.out (· ==1) [1] one1 rfl w'.heap.size 1 rfl Uk.out (by simp) Ugk.out
   try unfold ptr at q1
   refine q1.mono ?_
   clear q1
   intro e w2 h2
   rcases hr2:txE E (· ==1) (σ.at_ q).i with b9 | x2
   ·obtain rfl:=qax (qag hr2)
    rw[hr2]at h2
    replace hr2:txE E (· ==1) q=_:=hr2
    obtain⟨⟨u,pv,rfl⟩,hb⟩:=h2
    have HB9:=zh hb
    have e9:R=.error .die:=by
     rw[<-HT.out]
     show(do let r<-txE E (· ==1) q;_)=_
     rw[hr2];rfl
    subst e9
    clear hb hr2
    go_wp2_with fail
    exact⟨rfl,⟨_,_,rfl⟩,HB9.out⟩
   ·rw[hr2]at h2
    replace hr2:txE E (· ==1) q=_:=hr2
    have HR2:=zh hr2
    obtain⟨rfl,hm,hx⟩:=h2
    have H2:=zh hm
    have X2:=zh (X1.out.trans hx)
    clear hm hx hr2
    go_wp2_with fail
    have q3:=qdd (σ:=σ.at_ x2.2) H2.out [45]
    try unfold ptr at q3
    refine q3.mono ?_
    clear q3
    intro e w3 h3
    rcases hr3:sgE E 9 [45] (σ.at_ x2.2).i with b9 | ⟨b,j⟩
    ·obtain rfl:=qax (qae hr3)
     rw[hr3]at h3
     replace hr3:sgE E 9 [45] x2.2=_:=hr3
     obtain⟨⟨u,pv,rfl⟩,hb⟩:=h3
     have HB9:=zh hb
     have e9:R=.error .die:=by
      rw[<-HT.out]
      show(do let r<-txE E (· ==1) q;_)=_
      rw[HR2.out]
      show(do let z<-sgE E 9 [45] x2.2;_)=_
      rw[hr3];rfl
     subst e9
     clear hb hr3
     go_wp2_with fail
     exact⟨rfl,⟨_,_,rfl⟩,HB9.out⟩
    ·rw[hr3]at h3
     replace hr3:sgE E 9 [45] x2.2=_:=hr3
     have HR3:=zh hr3
     obtain⟨rfl,hm,hx⟩:=h3
     have H3:=zh hm
     have X3:=zh (X2.out.trans hx)
     clear hm hx hr3
     have e8:R=if b then tyL E m j else .ok j:=by
      rw[<-HT.out]
      show(do let r<-txE E (· ==1) q;_)=_
      rw[HR2.out]
      show(do let z<-sgE E 9 [45] x2.2;_)=_
      rw[HR3.out];rfl
     have HE8:=zh e8
     clear e8
     cases b
     ·have e9:R=.ok j:=HE8.out
      subst e9
      go_wp2_with fail
      rw[qcv]
      go_end0
      exact⟨rfl,H3.out,X3.out⟩
     ·have HE9:=zh (show tyL E m j=R from HE8.out.symm)
      go_wp2_with fail
      go_step3
      exact⟨rfl,m,Nat.lt_succ_self m,j,HE9,H3,X3,_,_,_,_,_,_,rfl⟩
 ·intro hp
  go_wp2_with fail
  go_step3
  rename_i hK
  exact hK _ _ (hp f _ _ ⟨σ.i,HR.out ▸ zh rfl,H0,zh (MX.refl _ _ _ _ _),_,_,_,_,_,_,rfl⟩)
theorem MM.got1At{W':World}(h:MM W0 g s E tv W L σ){j:Nat}{x:Nd}(hx:σ.N[j]?=some (some x))(c:Array Value)(hc:W.heap[L.A j]?=some (.cells c 29 (0,0)))(hb:Below W.heap.size W W')(k:Int)(t:ByteArray)(R B:Nat)(hR:W.heap.size<=R)(hB:W.heap.size<=B)(hne:B≠R)
 (hrow:W'.heap[R]?=some (.cells c 29 (0,0))) (hN:NdB W' B k t (.slice (some ⟨R,0,none⟩) 1 1) false false (.slice none 0 0) (.slice none 0 0)):
 ∃M,MM W0 g s E tv (W'.setCell ⟨g,5,none⟩ (.pointer (some ⟨B,0,none⟩))) M ((σ.mv j).got (nkt k t [x]))/\MX W0.heap.size W L σ.N.length σ.C.length (W'.setCell ⟨g,5,none⟩ (.pointer (some ⟨B,0,none⟩))) M ((σ.mv j).got (nkt k t [x])).N.length ((σ.mv j).got (nkt k t [x])).C.length:=by
 obtain⟨M,h1,h2,h3⟩:=h.new1At hx c hc hb k t R B hR hB hne hrow hN
 have hl:((σ.mv j).new (nkt k t [x])).N.length=σ.N.length+1:=by show((σ.N.set j none)++[_]).length=_;rw[zB,List.length_set];rfl
 obtain⟨h4,h5⟩:=h1.setIs (n:=σ.N.length) (by rw[hl];omega)
 rw[h3]at h4 h5
 have e:(((σ.mv j).new (nkt k t [x])).is σ.N.length)=(σ.mv j).got (nkt k t [x]):=by
  unfold PM.got
  rw[show(σ.mv j).N.length=σ.N.length from List.length_set]
 rw[e]at h4
 exact⟨M,h4,h2.trans h5⟩
theorem qs0{E:Env}{k:Int}{s:Bs}{i j:Nat}(h:sgE E k s i=.ok (true,j)):i<j:=by
 unfold sgE at h
 split at h
 ·cases e:tkE E i with
  | error b=>rw[e]at h;cases h
  | ok q=>
   rw[e]at h
   have h2:=Except.ok.inj h
   have h3:q=j:=congrArg Prod.snd h2
   subst h3
   unfold tkE at e
   split at e
   ·have:=Except.ok.inj e;omega
   ·cases e
 ·have h2:=Except.ok.inj h
  have:=congrArg Prod.fst h2
  cases this
theorem qt5(E:Env): ∀(f i j:Nat),tyL E f i=.ok j->i<=j
 | 0,_,_,h=>by cases h
 | f+1,i,j,h=>by
  have h0:(do let r<-txE E (· ==1) i;let q<-sgE E 9 [45] r.2;if q.1 then tyL E f q.2 else .ok q.2)=Except.ok j:=h
  cases h1:txE E (· ==1) i with
  | error b=>rw[h1]at h0;cases h0
  | ok r=>
   rw[h1]at h0
   have h2':(do let q<-sgE E 9 [45] r.2;if q.1 then tyL E f q.2 else .ok q.2)=Except.ok j:=h0
   cases h2:sgE E 9 [45] r.2 with
   | error b=>rw[h2]at h2';cases h2'
   | ok q=>
    rw[h2]at h2'
    have h3:(if q.1 then tyL E f q.2 else .ok q.2)=Except.ok j:=h2'
    have a1:=qea h1
    have a2:=qi0 h2
    split at h3
    ·have:=qt5 E f _ _ h3;omega
    ·have:=Except.ok.inj h3;omega
theorem qn9{E:Env}{f i:Nat}{e:Bad}(h:tyL E f i=.error e)(hn:tyL E f i≠ .error .stuck):tyL E f i=.error .die/\tyL E f i=.error e:=by
 cases e with
 | die=>exact⟨h,h⟩
 | stuck=>exact absurd h hn
theorem qoa(h:MM W0 g s E tv W L σ)(hk:σ.k.length<=274877906944)(hns:stp E .sized σ≠ .error .stuck):
 Calls Tryz.prog 211 #[.pointer (some ⟨g,0,none⟩)] W (SO (stp E .sized σ) W0 g s E tv W L σ.N.length σ.C.length):=by
 obtain⟨R,hR⟩: ∃R:Rs PM,R=stp E .sized σ:=⟨_,rfl⟩
 rw[<-hR]at hns⊢
 have HNS:=zh hns
 have HR:=zh hR
 have H0:=zh h
 have X0:=zh (MX.refl W0.heap.size W L σ.N.length σ.C.length)
 have HK:=zh hk
 clear h hR hk hns
 try unfold ptr
 go_enter Tryz.func211,Tryz.ntmps211
 obtain⟨-,-,g2⟩:=H0.out.gcell
 have g2':W.cell? ⟨g,2,none⟩=some (.int .i64 (σ.i:Int)):=g2
 clear g2
 go_wp2_with fail
 have q1:=qdd H0.out [58]
 try unfold ptr at q1
 refine q1.mono ?_
 clear q1
 intro e w1 h1
 rcases hr1:sgE E 9 [58] σ.i with x9 | ⟨b,j1⟩
 ·obtain rfl:=qax (by first | exact qae hr1 | exact qag hr1 | exact qaf hr1)
  rw[hr1]at h1
  obtain⟨⟨u,pv,rfl⟩,hb⟩:=h1
  have HB9:=zh hb
  have HR1:=zh hr1
  have e9:R=.error .die:=by
   have hr1:=HR1.out;rw[HR.out];try simp[stp,hr1,bind,Except.bind,pure,Except.pure,Except.map]
  subst e9
  clear hb hr1
  go_wp2_with fail
  exact⟨rfl,⟨_,_,rfl⟩,HB9.out⟩
 ·rw[hr1]at h1
  have HR1:=zh hr1
  obtain⟨rfl,hm,hx⟩:=h1
  have H1:=zh hm
  have Y1:=zh hx
  have X1:=zh (X0.out.trans Y1.out)
  clear hm hx hr1
  cases b
  ·obtain rfl:=qdu HR1.out
   go_wp2_with fail
   have q2:=qdd (σ:=σ) H1.out [47]
   try unfold ptr at q2
   refine q2.mono ?_
   clear q2
   intro e w2 h2
   rcases hr2:sgE E 9 [47] σ.i with x9 | ⟨b,j2⟩
   ·obtain rfl:=qax (by first | exact qae hr2 | exact qag hr2 | exact qaf hr2)
    rw[hr2]at h2
    obtain⟨⟨u,pv,rfl⟩,hb⟩:=h2
    have HB9:=zh hb
    have HR2:=zh hr2
    have e9:R=.error .die:=by
     have hr1:=HR1.out;have hr2:=HR2.out;rw[HR.out];try simp[stp,hr1,hr2,bind,Except.bind,pure,Except.pure,Except.map]
    subst e9
    clear hb hr2
    go_wp2_with fail
    exact⟨rfl,⟨_,_,rfl⟩,HB9.out⟩
   ·rw[hr2]at h2
    have HR2:=zh hr2
    obtain⟨rfl,hm,hx⟩:=h2
    have H2:=zh hm
    have Y2:=zh hx
    have X2:=zh (X1.out.trans Y2.out)
    clear hm hx hr2
    cases b
    ·obtain rfl:=qdu HR2.out
     obtain⟨-,-,g29⟩:=H2.out.gcell
     have g2':w2.cell? ⟨g,2,none⟩=some (.int .i64 (σ.i:Int)):=g29
     clear g29
     have hltI: ¬((σ.i:Nat):Int)> ((σ.i:Nat):Int):=by omega
     have e9:R=.ok (σ):=by
      have hr1:=HR1.out;have hr2:=HR2.out;rw[HR.out];try simp[stp,hr1,hr2,bind,Except.bind,pure,Except.pure,Except.map]
     subst e9
     go_wp2_with fail
     go_end0
     exact⟨rfl,L,H2.out,X2.out⟩
    ·skip
     have hty:tyL E (E.to+2) j2≠ .error .stuck:=fun h9=>absurd (by have hr1:=HR1.out;have hr2:=HR2.out;rw[HR.out];simp[stp,bind,Except.bind,pure,Except.pure,Except.map,hr1,hr2,h9]) HNS.out
     go_wp2_with fail
     have q3:=qxg (σ:=(σ.at_ j2)) H2.out (E.to+2) hty
     try unfold ptr at q3
     refine q3.mono ?_
     clear q3
     intro e w3 h3
     rcases hr3:tyL E (E.to+2) (σ.at_ j2).i with x9 | d
     ·obtain rfl:=qax (by first | exact qn9 hr3 hty | exact qae hr3 | exact qag hr3 | exact qaf hr3)
      rw[hr3]at h3
      replace hr3:tyL E (E.to+2) j2=_:=hr3
      obtain⟨⟨u,pv,rfl⟩,hb⟩:=h3
      have HB9:=zh hb
      have HR3:=zh hr3
      have e9:R=.error .die:=by
       have hr1:=HR1.out;have hr2:=HR2.out;have hr3:=HR3.out;rw[HR.out];try simp[stp,hr1,hr2,hr3,bind,Except.bind,pure,Except.pure,Except.map]
      subst e9
      clear hb hr3
      go_wp2_with fail
      exact⟨rfl,⟨_,_,rfl⟩,HB9.out⟩
     ·rw[hr3]at h3
      replace hr3:tyL E (E.to+2) j2=_:=hr3
      have HR3:=zh hr3
      obtain⟨rfl,hm,hx⟩:=h3
      have H3:=zh hm
      have Y3:=zh hx
      have X3:=zh (X2.out.trans Y3.out)
      clear hm hx hr3
      have hlt9:σ.i<d:=zG (qs0 HR2.out) (qt5 E _ _ _ HR3.out)
      have HLT:=zh hlt9
      have hltI:(d:Int)> ((σ.i:Nat):Int):=by omega
      obtain⟨-,-,g29⟩:=H3.out.gcell
      have g2':w3.cell? ⟨g,2,none⟩=some (.int .i64 (d:Int)):=g29
      clear g29
      rcases hcu:σ.cur with b9 | ⟨j,x⟩
      ·obtain rfl:=qcy hcu
       exact absurd (by have hr1:=HR1.out;have hr2:=HR2.out;have hr3:=HR3.out;have hlt9:=HLT.out;rw[HR.out];simp[stp,hcu,bind,Except.bind,pure,Except.pure,Except.map,hr1,hr2,hr3,hlt9]) HNS.out
      have HCU:=zh hcu
      obtain⟨hn_j,hx_j⟩:=qdp hcu
      have HX_j:=zh hx_j
      have HN_j:=zh hn_j
      clear hcu hn_j hx_j
      obtain⟨ka,ta,la,ra,qa,na,va,hNd,⟨la1,la2,la3,rfl⟩,⟨na1,na2,na3,rfl⟩,⟨va1,va2,va3,rfl⟩⟩:=H3.out.ncellsA (n:=j) (x:=x) HX_j.out
      have HND9:=zh hNd
      have hg5:w3.cell? ⟨g,5,none⟩=some (.pointer (some ⟨L.A j,0,none⟩)):=H3.out.gcur HN_j.out
      have hgl:=H3.out.glt
      have hnl:=hNd.lt
      have hgf:=H3.out.gcell.2.1 5
      have HS9:Hid (∀w',Below w3.heap.size w3 w'->(NdB w' (L.A j) ka ta (.slice la1 la2 la3) ra qa (.slice na1 na2 na3) (.slice va1 va2 va3)/\w'.cell? ⟨g,5,none⟩=some (.pointer (some ⟨L.A j,0,none⟩))/\w'.frozen? ⟨g,5,none⟩=false)):=zh (fun w' hw=>⟨(hw.block _ hnl).trans hNd,(hw.cell (p:=⟨g,5,none⟩) hgl).trans hg5,(hw.frozen (p:=⟨g,5,none⟩) hgl).trans hgf⟩)
      have HSN:Hid (∀w',Below w3.heap.size w3 w'->Calls Tryz.prog 180 #[.pointer (some ⟨g,0,none⟩),.int .i64 ((σ.i:Nat):Int)] w' fun e w2=>e=.returned (.string (scE E (d-σ.i) σ.i))/\Below w3.heap.size w3 w2/\Below w'.heap.size w' w2):=zh (fun w' hw=>(qi1 (σ:=(σ.at_ d)) (MM.below (σ:=(σ.at_ d)) H3.out hw) σ.i d rfl (zC HLT.out)).mono (fun e w2 h9=>⟨h9.1,hw.trans (h9.2.mono hw.size),h9.2⟩))
      have HF:=zh (fun w' R B h1 h2 h3 h4 h5 h6=>MM.got1At (W':=w') (σ:=(σ.at_ d)) H3.out HX_j.out _ HND9.out h1 7 (scE E (d-σ.i) σ.i) R B h2 h3 h4 h5 h6)
      obtain⟨m0_1,m1_1,m2_1,m3_1,m4_1,m5_1,m6_1⟩:=hNd.cells
      clear hNd hgl hnl hlt9
      have e9:R=.ok (((σ.mv j).at_ d).got (nkt 7 (scE E (d-σ.i) σ.i) [x])):=by
       have hr1:=HR1.out;have hr2:=HR2.out;have hr3:=HR3.out;have hlt9:=HLT.out;have hcu9:=HCU.out;rw[HR.out];try simp[stp,hcu9,bind,Except.bind,pure,Except.pure,Except.map,hr1,hr2,hr3,hlt9]
      subst e9
      go_wp2_with fail
      go_region_with (go_at_call 180;refine(HSN.out _ (by first | exact Below.refl _ _ | exact qab _ _ | exact zA (Below.refl _ _) | exact zA (qab _ _) | exact(qab _ _).alloc (qab _ _).size _ | exact(zA (Below.refl _ _)).alloc (zA (Below.refl _ _)).size _)).mono ?_;rintro e w9 ⟨rfl,hb2,hb3⟩;have HB2:=zh hb2;have HB3:=zh hb3;obtain⟨gA,fA⟩:=(HS9.out _ ((hb2.alloc hb2.size (.cells #[.int .i64 ka,.string ta,.slice la1 la2 la3,.bool ra,.bool qa,.slice na1 na2 na3,.slice va1 va2 va3] 29)).alloc (hb2.alloc hb2.size (.cells #[.int .i64 ka,.string ta,.slice la1 la2 la3,.bool ra,.bool qa,.slice na1 na2 na3,.slice va1 va2 va3] 29)).size (.cells #[.int .i64 7,.string (scE E (d-σ.i) σ.i),.slice (some ⟨w9.heap.size,0,none⟩) 1 1,.bool false,.bool false,.slice none 0 0,.slice none 0 0] 29))).2;obtain⟨gB,fB⟩:=(HS9.out _ (hb2.alloc hb2.size (.cells #[.int .i64 7,.string (scE E (d-σ.i) σ.i),.slice (some ⟨w3.heap.size,0,none⟩) 1 1,.bool false,.bool false,.slice none 0 0,.slice none 0 0] 29))).2;obtain⟨n9,g59,gf9⟩:=HS9.out _ hb2;obtain⟨z0,z1,z2,z3,z4,z5,z6⟩:=n9.cells;clear hb2 hb3 n9)
      all_goals go_end0
      ·have hb9:=HB2.out.trans ((qaj w9 [.cells #[.int .i64 ka,.string ta,.slice la1 la2 la3,.bool ra,.bool qa,.slice na1 na2 na3,.slice va1 va2 va3] 29,.cells #[.int .i64 7,.string (scE E (d-σ.i) σ.i),.slice (some ⟨w9.heap.size,0,none⟩) 1 1,.bool false,.bool false,.slice none 0 0,.slice none 0 0] 29]).mono HB2.out.size)
       obtain⟨M,m1,m2⟩:=HF.out _ w9.heap.size (w9.heap.size+1) hb9 HB2.out.size (zE HB2.out.size) (by omega) (qb5 w9 _ 0 _ rfl) (qb5 w9 _ 1 _ rfl)
       exact⟨rfl,M,m1,X3.out.trans m2⟩
      ·have hb9:=HB2.out.trans ((qaj w9 [.cells #[.int .i64 ka,.string ta,.slice la1 la2 la3,.bool ra,.bool qa,.slice na1 na2 na3,.slice va1 va2 va3] 29,.cells #[.int .i64 7,.string (scE E (d-σ.i) σ.i),.slice (some ⟨w9.heap.size,0,none⟩) 1 1,.bool false,.bool false,.slice none 0 0,.slice none 0 0] 29]).mono HB2.out.size)
       obtain⟨M,m1,m2⟩:=HF.out _ w9.heap.size (w9.heap.size+1) hb9 HB2.out.size (zE HB2.out.size) (by omega) (qb5 w9 _ 0 _ rfl) (qb5 w9 _ 1 _ rfl)
       exact⟨rfl,M,m1,X3.out.trans m2⟩
      ·have hb9:=HB2.out.trans ((qaj w9 [.cells #[.int .i64 ka,.string ta,.slice la1 la2 la3,.bool ra,.bool qa,.slice na1 na2 na3,.slice va1 va2 va3] 29,.cells #[.int .i64 7,.string (scE E (d-σ.i) σ.i),.slice (some ⟨w9.heap.size,0,none⟩) 1 1,.bool false,.bool false,.slice none 0 0,.slice none 0 0] 29]).mono HB2.out.size)
       obtain⟨M,m1,m2⟩:=HF.out _ w9.heap.size (w9.heap.size+1) hb9 HB2.out.size (zE HB2.out.size) (by omega) (qb5 w9 _ 0 _ rfl) (qb5 w9 _ 1 _ rfl)
       exact⟨rfl,M,m1,X3.out.trans m2⟩
      ·have hb9:=HB2.out.alloc HB2.out.size (.cells #[.int .i64 7,.string (scE E (d-σ.i) σ.i),.slice (some ⟨w3.heap.size,0,none⟩) 1 1,.bool false,.bool false,.slice none 0 0,.slice none 0 0] 29)
       have hsz:w3.heap.size<w9.heap.size:=by
        have:=HB3.out.size
        simp at this;omega
       have hr:w9.heap[w3.heap.size]?=some (.cells #[.int .i64 ka,.string ta,.slice la1 la2 la3,.bool ra,.bool qa,.slice na1 na2 na3,.slice va1 va2 va3] 29 (0,0)):=(HB3.out.block w3.heap.size (by simp)).trans (qbi w3.drew _)
       obtain⟨M,m1,m2⟩:=HF.out _ w3.heap.size w9.heap.size hb9 (zD _) HB2.out.size (by omega) ((qog w9 _ hsz).trans hr) (qbi w9 _)
       exact⟨rfl,M,m1,X3.out.trans m2⟩
  ·skip
   go_wp2_with fail
   have q4:=qkp (σ:=(σ.at_ j1)) H1.out
   try unfold ptr at q4
   refine q4.mono ?_
   clear q4
   intro e w4 h4
   rcases hr4:txE E szk (σ.at_ j1).i with x9 | x2
   ·obtain rfl:=qax (by first | exact qae hr4 | exact qag hr4 | exact qaf hr4)
    rw[hr4]at h4
    replace hr4:txE E szk j1=_:=hr4
    obtain⟨⟨u,pv,rfl⟩,hb⟩:=h4
    have HB9:=zh hb
    have HR4:=zh hr4
    have e9:R=.error .die:=by
     have hr1:=HR1.out;have hr4:=HR4.out;rw[HR.out];try simp[stp,hr1,hr4,bind,Except.bind,pure,Except.pure,Except.map]
    subst e9
    clear hb hr4
    go_wp2_with fail
    exact⟨rfl,⟨_,_,rfl⟩,HB9.out⟩
   ·rw[hr4]at h4
    replace hr4:txE E szk j1=_:=hr4
    have HR4:=zh hr4
    obtain⟨rfl,hm,hx⟩:=h4
    have H4:=zh hm
    have Y4:=zh hx
    have X4:=zh (X1.out.trans Y4.out)
    clear hm hx hr4
    go_wp2_with fail
    have q5:=qdd (σ:=(σ.at_ x2.2)) H4.out [47]
    try unfold ptr at q5
    refine q5.mono ?_
    clear q5
    intro e w5 h5
    rcases hr5:sgE E 9 [47] (σ.at_ x2.2).i with x9 | ⟨b,j2⟩
    ·obtain rfl:=qax (by first | exact qae hr5 | exact qag hr5 | exact qaf hr5)
     rw[hr5]at h5
     replace hr5:sgE E 9 [47] x2.2=_:=hr5
     obtain⟨⟨u,pv,rfl⟩,hb⟩:=h5
     have HB9:=zh hb
     have HR5:=zh hr5
     have e9:R=.error .die:=by
      have hr1:=HR1.out;have hr4:=HR4.out;have hr5:=HR5.out;rw[HR.out];try simp[stp,hr1,hr4,hr5,bind,Except.bind,pure,Except.pure,Except.map]
     subst e9
     clear hb hr5
     go_wp2_with fail
     exact⟨rfl,⟨_,_,rfl⟩,HB9.out⟩
    ·rw[hr5]at h5
     replace hr5:sgE E 9 [47] x2.2=_:=hr5
     have HR5:=zh hr5
     obtain⟨rfl,hm,hx⟩:=h5
     have H5:=zh hm
     have Y5:=zh hx
     have X5:=zh (X4.out.trans Y5.out)
     clear hm hx hr5
     cases b
     ·obtain rfl:=qdu HR5.out
      have hlt9:σ.i<x2.2:=zG (qs0 HR1.out) (qea HR4.out)
      have HLT:=zh hlt9
      have hltI:(x2.2:Int)> ((σ.i:Nat):Int):=by omega
      obtain⟨-,-,g29⟩:=H5.out.gcell
      have g2':w5.cell? ⟨g,2,none⟩=some (.int .i64 (x2.2:Int)):=g29
      clear g29
      rcases hcu:σ.cur with b9 | ⟨j,x⟩
      ·obtain rfl:=qcy hcu
       exact absurd (by have hr1:=HR1.out;have hr4:=HR4.out;have hr5:=HR5.out;have hlt9:=HLT.out;rw[HR.out];simp[stp,hcu,bind,Except.bind,pure,Except.pure,Except.map,hr1,hr4,hr5,hlt9]) HNS.out
      have HCU:=zh hcu
      obtain⟨hn_j,hx_j⟩:=qdp hcu
      have HX_j:=zh hx_j
      have HN_j:=zh hn_j
      clear hcu hn_j hx_j
      obtain⟨ka,ta,la,ra,qa,na,va,hNd,⟨la1,la2,la3,rfl⟩,⟨na1,na2,na3,rfl⟩,⟨va1,va2,va3,rfl⟩⟩:=H5.out.ncellsA (n:=j) (x:=x) HX_j.out
      have HND9:=zh hNd
      have hg5:w5.cell? ⟨g,5,none⟩=some (.pointer (some ⟨L.A j,0,none⟩)):=H5.out.gcur HN_j.out
      have hgl:=H5.out.glt
      have hnl:=hNd.lt
      have hgf:=H5.out.gcell.2.1 5
      have HS9:Hid (∀w',Below w5.heap.size w5 w'->(NdB w' (L.A j) ka ta (.slice la1 la2 la3) ra qa (.slice na1 na2 na3) (.slice va1 va2 va3)/\w'.cell? ⟨g,5,none⟩=some (.pointer (some ⟨L.A j,0,none⟩))/\w'.frozen? ⟨g,5,none⟩=false)):=zh (fun w' hw=>⟨(hw.block _ hnl).trans hNd,(hw.cell (p:=⟨g,5,none⟩) hgl).trans hg5,(hw.frozen (p:=⟨g,5,none⟩) hgl).trans hgf⟩)
      have HSN:Hid (∀w',Below w5.heap.size w5 w'->Calls Tryz.prog 180 #[.pointer (some ⟨g,0,none⟩),.int .i64 ((σ.i:Nat):Int)] w' fun e w2=>e=.returned (.string (scE E (x2.2-σ.i) σ.i))/\Below w5.heap.size w5 w2/\Below w'.heap.size w' w2):=zh (fun w' hw=>(qi1 (σ:=(σ.at_ x2.2)) (MM.below (σ:=(σ.at_ x2.2)) H5.out hw) σ.i x2.2 rfl (zC HLT.out)).mono (fun e w2 h9=>⟨h9.1,hw.trans (h9.2.mono hw.size),h9.2⟩))
      have HF:=zh (fun w' R B h1 h2 h3 h4 h5 h6=>MM.got1At (W':=w') (σ:=(σ.at_ x2.2)) H5.out HX_j.out _ HND9.out h1 7 (scE E (x2.2-σ.i) σ.i) R B h2 h3 h4 h5 h6)
      obtain⟨m0_1,m1_1,m2_1,m3_1,m4_1,m5_1,m6_1⟩:=hNd.cells
      clear hNd hgl hnl hlt9
      have e9:R=.ok (((σ.mv j).at_ x2.2).got (nkt 7 (scE E (x2.2-σ.i) σ.i) [x])):=by
       have hr1:=HR1.out;have hr4:=HR4.out;have hr5:=HR5.out;have hlt9:=HLT.out;have hcu9:=HCU.out;rw[HR.out];try simp[stp,hcu9,bind,Except.bind,pure,Except.pure,Except.map,hr1,hr4,hr5,hlt9]
      subst e9
      go_wp2_with fail
      go_region_with (go_at_call 180;refine(HSN.out _ (by first | exact Below.refl _ _ | exact qab _ _ | exact zA (Below.refl _ _) | exact zA (qab _ _) | exact(qab _ _).alloc (qab _ _).size _ | exact(zA (Below.refl _ _)).alloc (zA (Below.refl _ _)).size _)).mono ?_;rintro e w9 ⟨rfl,hb2,hb3⟩;have HB2:=zh hb2;have HB3:=zh hb3;obtain⟨gA,fA⟩:=(HS9.out _ ((hb2.alloc hb2.size (.cells #[.int .i64 ka,.string ta,.slice la1 la2 la3,.bool ra,.bool qa,.slice na1 na2 na3,.slice va1 va2 va3] 29)).alloc (hb2.alloc hb2.size (.cells #[.int .i64 ka,.string ta,.slice la1 la2 la3,.bool ra,.bool qa,.slice na1 na2 na3,.slice va1 va2 va3] 29)).size (.cells #[.int .i64 7,.string (scE E (x2.2-σ.i) σ.i),.slice (some ⟨w9.heap.size,0,none⟩) 1 1,.bool false,.bool false,.slice none 0 0,.slice none 0 0] 29))).2;obtain⟨gB,fB⟩:=(HS9.out _ (hb2.alloc hb2.size (.cells #[.int .i64 7,.string (scE E (x2.2-σ.i) σ.i),.slice (some ⟨w5.heap.size,0,none⟩) 1 1,.bool false,.bool false,.slice none 0 0,.slice none 0 0] 29))).2;obtain⟨n9,g59,gf9⟩:=HS9.out _ hb2;obtain⟨z0,z1,z2,z3,z4,z5,z6⟩:=n9.cells;clear hb2 hb3 n9)
      all_goals go_end0
      ·have hb9:=HB2.out.trans ((qaj w9 [.cells #[.int .i64 ka,.string ta,.slice la1 la2 la3,.bool ra,.bool qa,.slice na1 na2 na3,.slice va1 va2 va3] 29,.cells #[.int .i64 7,.string (scE E (x2.2-σ.i) σ.i),.slice (some ⟨w9.heap.size,0,none⟩) 1 1,.bool false,.bool false,.slice none 0 0,.slice none 0 0] 29]).mono HB2.out.size)
       obtain⟨M,m1,m2⟩:=HF.out _ w9.heap.size (w9.heap.size+1) hb9 HB2.out.size (zE HB2.out.size) (by omega) (qb5 w9 _ 0 _ rfl) (qb5 w9 _ 1 _ rfl)
       exact⟨rfl,M,m1,X5.out.trans m2⟩
      ·have hb9:=HB2.out.trans ((qaj w9 [.cells #[.int .i64 ka,.string ta,.slice la1 la2 la3,.bool ra,.bool qa,.slice na1 na2 na3,.slice va1 va2 va3] 29,.cells #[.int .i64 7,.string (scE E (x2.2-σ.i) σ.i),.slice (some ⟨w9.heap.size,0,none⟩) 1 1,.bool false,.bool false,.slice none 0 0,.slice none 0 0] 29]).mono HB2.out.size)
       obtain⟨M,m1,m2⟩:=HF.out _ w9.heap.size (w9.heap.size+1) hb9 HB2.out.size (zE HB2.out.size) (by omega) (qb5 w9 _ 0 _ rfl) (qb5 w9 _ 1 _ rfl)
       exact⟨rfl,M,m1,X5.out.trans m2⟩
      ·have hb9:=HB2.out.trans ((qaj w9 [.cells #[.int .i64 ka,.string ta,.slice la1 la2 la3,.bool ra,.bool qa,.slice na1 na2 na3,.slice va1 va2 va3] 29,.cells #[.int .i64 7,.string (scE E (x2.2-σ.i) σ.i),.slice (some ⟨w9.heap.size,0,none⟩) 1 1,.bool false,.bool false,.slice none 0 0,.slice none 0 0] 29]).mono HB2.out.size)
       obtain⟨M,m1,m2⟩:=HF.out _ w9.heap.size (w9.heap.size+1) hb9 HB2.out.size (zE HB2.out.size) (by omega) (qb5 w9 _ 0 _ rfl) (qb5 w9 _ 1 _ rfl)
       exact⟨rfl,M,m1,X5.out.trans m2⟩
      ·have hb9:=HB2.out.alloc HB2.out.size (.cells #[.int .i64 7,.string (scE E (x2.2-σ.i) σ.i),.slice (some ⟨w5.heap.size,0,none⟩) 1 1,.bool false,.bool false,.slice none 0 0,.slice none 0 0] 29)
       have hsz:w5.heap.size<w9.heap.size:=by
        have:=HB3.out.size
        simp at this;omega
       have hr:w9.heap[w5.heap.size]?=some (.cells #[.int .i64 ka,.string ta,.slice la1 la2 la3,.bool ra,.bool qa,.slice na1 na2 na3,.slice va1 va2 va3] 29 (0,0)):=(HB3.out.block w5.heap.size (by simp)).trans (qbi w5.drew _)
       obtain⟨M,m1,m2⟩:=HF.out _ w5.heap.size w9.heap.size hb9 (zD _) HB2.out.size (by omega) ((qog w9 _ hsz).trans hr) (qbi w9 _)
       exact⟨rfl,M,m1,X5.out.trans m2⟩
     ·skip
      have hty:tyL E (E.to+2) j2≠ .error .stuck:=fun h9=>absurd (by have hr1:=HR1.out;have hr4:=HR4.out;have hr5:=HR5.out;rw[HR.out];simp[stp,bind,Except.bind,pure,Except.pure,Except.map,hr1,hr4,hr5,h9]) HNS.out
      go_wp2_with fail
      have q6:=qxg (σ:=(σ.at_ j2)) H5.out (E.to+2) hty
      try unfold ptr at q6
      refine q6.mono ?_
      clear q6
      intro e w6 h6
      rcases hr6:tyL E (E.to+2) (σ.at_ j2).i with x9 | d
      ·obtain rfl:=qax (by first | exact qn9 hr6 hty | exact qae hr6 | exact qag hr6 | exact qaf hr6)
       rw[hr6]at h6
       replace hr6:tyL E (E.to+2) j2=_:=hr6
       obtain⟨⟨u,pv,rfl⟩,hb⟩:=h6
       have HB9:=zh hb
       have HR6:=zh hr6
       have e9:R=.error .die:=by
        have hr1:=HR1.out;have hr4:=HR4.out;have hr5:=HR5.out;have hr6:=HR6.out;rw[HR.out];try simp[stp,hr1,hr4,hr5,hr6,bind,Except.bind,pure,Except.pure,Except.map]
       subst e9
       clear hb hr6
       go_wp2_with fail
       exact⟨rfl,⟨_,_,rfl⟩,HB9.out⟩
      ·rw[hr6]at h6
       replace hr6:tyL E (E.to+2) j2=_:=hr6
       have HR6:=zh hr6
       obtain⟨rfl,hm,hx⟩:=h6
       have H6:=zh hm
       have Y6:=zh hx
       have X6:=zh (X5.out.trans Y6.out)
       clear hm hx hr6
       have hlt9:σ.i<d:=zG (qs0 HR1.out) (zF (qea HR4.out) (zF (qi0 HR5.out) (qt5 E _ _ _ HR6.out)))
       have HLT:=zh hlt9
       have hltI:(d:Int)> ((σ.i:Nat):Int):=by omega
       obtain⟨-,-,g29⟩:=H6.out.gcell
       have g2':w6.cell? ⟨g,2,none⟩=some (.int .i64 (d:Int)):=g29
       clear g29
       rcases hcu:σ.cur with b9 | ⟨j,x⟩
       ·obtain rfl:=qcy hcu
        exact absurd (by have hr1:=HR1.out;have hr4:=HR4.out;have hr5:=HR5.out;have hr6:=HR6.out;have hlt9:=HLT.out;rw[HR.out];simp[stp,hcu,bind,Except.bind,pure,Except.pure,Except.map,hr1,hr4,hr5,hr6,hlt9]) HNS.out
       have HCU:=zh hcu
       obtain⟨hn_j,hx_j⟩:=qdp hcu
       have HX_j:=zh hx_j
       have HN_j:=zh hn_j
       clear hcu hn_j hx_j
       obtain⟨ka,ta,la,ra,qa,na,va,hNd,⟨la1,la2,la3,rfl⟩,⟨na1,na2,na3,rfl⟩,⟨va1,va2,va3,rfl⟩⟩:=H6.out.ncellsA (n:=j) (x:=x) HX_j.out
       have HND9:=zh hNd
       have hg5:w6.cell? ⟨g,5,none⟩=some (.pointer (some ⟨L.A j,0,none⟩)):=H6.out.gcur HN_j.out
       have hgl:=H6.out.glt
       have hnl:=hNd.lt
       have hgf:=H6.out.gcell.2.1 5
       have HS9:Hid (∀w',Below w6.heap.size w6 w'->(NdB w' (L.A j) ka ta (.slice la1 la2 la3) ra qa (.slice na1 na2 na3) (.slice va1 va2 va3)/\w'.cell? ⟨g,5,none⟩=some (.pointer (some ⟨L.A j,0,none⟩))/\w'.frozen? ⟨g,5,none⟩=false)):=zh (fun w' hw=>⟨(hw.block _ hnl).trans hNd,(hw.cell (p:=⟨g,5,none⟩) hgl).trans hg5,(hw.frozen (p:=⟨g,5,none⟩) hgl).trans hgf⟩)
       have HSN:Hid (∀w',Below w6.heap.size w6 w'->Calls Tryz.prog 180 #[.pointer (some ⟨g,0,none⟩),.int .i64 ((σ.i:Nat):Int)] w' fun e w2=>e=.returned (.string (scE E (d-σ.i) σ.i))/\Below w6.heap.size w6 w2/\Below w'.heap.size w' w2):=zh (fun w' hw=>(qi1 (σ:=(σ.at_ d)) (MM.below (σ:=(σ.at_ d)) H6.out hw) σ.i d rfl (zC HLT.out)).mono (fun e w2 h9=>⟨h9.1,hw.trans (h9.2.mono hw.size),h9.2⟩))
       have HF:=zh (fun w' R B h1 h2 h3 h4 h5 h6=>MM.got1At (W':=w') (σ:=(σ.at_ d)) H6.out HX_j.out _ HND9.out h1 7 (scE E (d-σ.i) σ.i) R B h2 h3 h4 h5 h6)
       obtain⟨m0_1,m1_1,m2_1,m3_1,m4_1,m5_1,m6_1⟩:=hNd.cells
       clear hNd hgl hnl hlt9
       have e9:R=.ok (((σ.mv j).at_ d).got (nkt 7 (scE E (d-σ.i) σ.i) [x])):=by
        have hr1:=HR1.out;have hr4:=HR4.out;have hr5:=HR5.out;have hr6:=HR6.out;have hlt9:=HLT.out;have hcu9:=HCU.out;rw[HR.out];try simp[stp,hcu9,bind,Except.bind,pure,Except.pure,Except.map,hr1,hr4,hr5,hr6,hlt9]
       subst e9
       go_wp2_with fail
       go_region_with (go_at_call 180;refine(HSN.out _ (by first | exact Below.refl _ _ | exact qab _ _ | exact zA (Below.refl _ _) | exact zA (qab _ _) | exact(qab _ _).alloc (qab _ _).size _ | exact(zA (Below.refl _ _)).alloc (zA (Below.refl _ _)).size _)).mono ?_;rintro e w9 ⟨rfl,hb2,hb3⟩;have HB2:=zh hb2;have HB3:=zh hb3;obtain⟨gA,fA⟩:=(HS9.out _ ((hb2.alloc hb2.size (.cells #[.int .i64 ka,.string ta,.slice la1 la2 la3,.bool ra,.bool qa,.slice na1 na2 na3,.slice va1 va2 va3] 29)).alloc (hb2.alloc hb2.size (.cells #[.int .i64 ka,.string ta,.slice la1 la2 la3,.bool ra,.bool qa,.slice na1 na2 na3,.slice va1 va2 va3] 29)).size (.cells #[.int .i64 7,.string (scE E (d-σ.i) σ.i),.slice (some ⟨w9.heap.size,0,none⟩) 1 1,.bool false,.bool false,.slice none 0 0,.slice none 0 0] 29))).2;obtain⟨gB,fB⟩:=(HS9.out _ (hb2.alloc hb2.size (.cells #[.int .i64 7,.string (scE E (d-σ.i) σ.i),.slice (some ⟨w6.heap.size,0,none⟩) 1 1,.bool false,.bool false,.slice none 0 0,.slice none 0 0] 29))).2;obtain⟨n9,g59,gf9⟩:=HS9.out _ hb2;obtain⟨z0,z1,z2,z3,z4,z5,z6⟩:=n9.cells;clear hb2 hb3 n9)
       all_goals go_end0
       ·have hb9:=HB2.out.trans ((qaj w9 [.cells #[.int .i64 ka,.string ta,.slice la1 la2 la3,.bool ra,.bool qa,.slice na1 na2 na3,.slice va1 va2 va3] 29,.cells #[.int .i64 7,.string (scE E (d-σ.i) σ.i),.slice (some ⟨w9.heap.size,0,none⟩) 1 1,.bool false,.bool false,.slice none 0 0,.slice none 0 0] 29]).mono HB2.out.size)
        obtain⟨M,m1,m2⟩:=HF.out _ w9.heap.size (w9.heap.size+1) hb9 HB2.out.size (zE HB2.out.size) (by omega) (qb5 w9 _ 0 _ rfl) (qb5 w9 _ 1 _ rfl)
        exact⟨rfl,M,m1,X6.out.trans m2⟩
       ·have hb9:=HB2.out.trans ((qaj w9 [.cells #[.int .i64 ka,.string ta,.slice la1 la2 la3,.bool ra,.bool qa,.slice na1 na2 na3,.slice va1 va2 va3] 29,.cells #[.int .i64 7,.string (scE E (d-σ.i) σ.i),.slice (some ⟨w9.heap.size,0,none⟩) 1 1,.bool false,.bool false,.slice none 0 0,.slice none 0 0] 29]).mono HB2.out.size)
        obtain⟨M,m1,m2⟩:=HF.out _ w9.heap.size (w9.heap.size+1) hb9 HB2.out.size (zE HB2.out.size) (by omega) (qb5 w9 _ 0 _ rfl) (qb5 w9 _ 1 _ rfl)
        exact⟨rfl,M,m1,X6.out.trans m2⟩
       ·have hb9:=HB2.out.trans ((qaj w9 [.cells #[.int .i64 ka,.string ta,.slice la1 la2 la3,.bool ra,.bool qa,.slice na1 na2 na3,.slice va1 va2 va3] 29,.cells #[.int .i64 7,.string (scE E (d-σ.i) σ.i),.slice (some ⟨w9.heap.size,0,none⟩) 1 1,.bool false,.bool false,.slice none 0 0,.slice none 0 0] 29]).mono HB2.out.size)
        obtain⟨M,m1,m2⟩:=HF.out _ w9.heap.size (w9.heap.size+1) hb9 HB2.out.size (zE HB2.out.size) (by omega) (qb5 w9 _ 0 _ rfl) (qb5 w9 _ 1 _ rfl)
        exact⟨rfl,M,m1,X6.out.trans m2⟩
       ·have hb9:=HB2.out.alloc HB2.out.size (.cells #[.int .i64 7,.string (scE E (d-σ.i) σ.i),.slice (some ⟨w6.heap.size,0,none⟩) 1 1,.bool false,.bool false,.slice none 0 0,.slice none 0 0] 29)
        have hsz:w6.heap.size<w9.heap.size:=by
         have:=HB3.out.size
         simp at this;omega
        have hr:w9.heap[w6.heap.size]?=some (.cells #[.int .i64 ka,.string ta,.slice la1 la2 la3,.bool ra,.bool qa,.slice na1 na2 na3,.slice va1 va2 va3] 29 (0,0)):=(HB3.out.block w6.heap.size (by simp)).trans (qbi w6.drew _)
        obtain⟨M,m1,m2⟩:=HF.out _ w6.heap.size w9.heap.size hb9 (zD _) HB2.out.size (by omega) ((qog w9 _ hsz).trans hr) (qbi w9 _)
        exact⟨rfl,M,m1,X6.out.trans m2⟩
end
end Go.Proofs.YtdhadeeajgoedaaGreat
