/-
  What the claims stand on: PmStepO, PmStepP, PmStepW, PmStepK.
-/
import Derived.Test.YtdhadeeajgoedaaGreatK36
import Derived.Test.YtdhadeeajgoedaaGreatK42
import Derived.Test.YtdhadeeajgoedaaGreatK43
set_option maxRecDepth 100000
set_option maxHeartbeats 4000000
set_option linter.unusedVariables false
set_option linter.unusedSimpArgs false
open Nat renaming lt_of_lt_of_le→zA
namespace Go.Proofs.YtdhadeeajgoedaaGreat
open Go.RowKit Go.PlainAid
section
variable{W0 W:World}{g:Nat}{s:ByteArray}{E:Env}{tv:Value}{L:PLay}{σ:PM}
def qmv(n:Nat)(x:Nd)(σ:PM):Rs PM:=
 match x with
 | .mk _ t [y] br bl no ta=>match y with
  | .mk _ _ _ _ _ [] _=>.ok ((σ.set n (.mk 15 t [y] br bl no ta)).plan [.row n [44] (.perh 3 [[60,45],[60,61]]),.want 9 [93]])
  | _=>.error .die
 | _=>.error .die
theorem MM.lsv1(h:MM W0 g s E tv W L σ){n:Nat}{k:Int}{t:ByteArray}{k2:Int}{t2:ByteArray}{l2:List Nd}{b1 b2 br bl:Bool}{no2 ta2 no ta:List ByteArray}(hx:σ.N[n]?=some (some (.mk k t [.mk k2 t2 l2 b1 b2 no2 ta2] br bl no ta))):
 ∃q o c na nc,W.cell? ⟨L.A n,2,none⟩=some (.slice (some ⟨q,o,none⟩) 1 c)/\W.cell? ⟨q,o+5,none⟩=some (.slice na no2.length nc):=by
 obtain⟨-,lv,nv,tv',a2,a3,-,a5,a6⟩:=h.node hx
 obtain⟨cs,⟨a,cap,rfl,h1⟩,h2⟩:=a3.row
 obtain⟨q,o,rfl,-,-,h3⟩:=h1 (by simp)
 have h4:=h2 0 _ rfl
 generalize hc:cs 0=c0 at h4
 cases h4 with
 | mk _ _ _ _ _ _ _ lv' nv' tv'' cs' hn ht hl hc'=>
  obtain⟨na,nc,rfl,-⟩:=hn
  refine⟨q,o,cap,na,nc,a2.cells.2.2.1,?_⟩
  have:=h3 0 (by simp) 5 (.slice na no2.length nc) (by rw[hc];rfl)
  simpa using this
theorem compM(h:MM W0 g s E tv W L σ)(hk:σ.k.length<=274877906944){n:Nat}{x:Nd}(hx:σ.N[n]?=some (some x)):
 Calls Tryz.prog 191 #[.pointer (some ⟨g,0,none⟩),.pointer (some ⟨L.A n,0,none⟩)] W (SO (qmv n x σ) W0 g s E tv W L σ.N.length σ.C.length):=by
 obtain⟨R,hR⟩: ∃R:Rs PM,R=qmv n x σ:=⟨_,rfl⟩
 rw[<-hR]
 have HR:=zh hR
 have H0:=zh h
 have HK:=zh hk
 have HX:=zh hx
 have X0:=zh (MX.refl W0.heap.size W L σ.N.length σ.C.length)
 clear h hR hk hx
 cases x with
 | mk k t l br bl no ta=>
 have HNB:=zh (ndlt HX.out)
 obtain⟨la,lc,m2⟩:=H0.out.lsv HX.out
 cases l with
 | nil=>
  change _=some (Value.slice la 0 lc)at m2
  go_enter Tryz.func191,Tryz.ntmps191
  have e9:R=.error .die:=by
   rw[HR.out];rfl
  subst e9
  go_wp2_with fail
  refine(qaq _).mono ?_
  rintro e w9 ⟨⟨u,pv,rfl⟩,rfl⟩
  go_wp2_with fail
  exact⟨rfl,⟨_,_,rfl⟩,H0.out.bel⟩
 | cons z l=>
  cases l with
  | cons z2 l=>
   change _=some (Value.slice la (l.length+2) lc)at m2
   have hq:(((l.length:Int)+2)==1)=false:=beq_false_of_ne (by omega)
   have hq2:((((l.length+2:Nat):Int))==1)=false:=beq_false_of_ne (by omega)
   go_enter Tryz.func191,Tryz.ntmps191
   have e9:R=.error .die:=by
    rw[HR.out];rfl
   subst e9
   go_wp2_with fail
   refine(qaq _).mono ?_
   rintro e w9 ⟨⟨u,pv,rfl⟩,rfl⟩
   go_wp2_with fail
   exact⟨rfl,⟨_,_,rfl⟩,H0.out.bel⟩
  | nil=>
   cases z with
   | mk k2 t2 l2 b1 b2 no2 ta2=>
   clear m2
   obtain⟨q9,o9,c9,na,nc,m2,m5⟩:=H0.out.lsv1 HX.out
   cases no2 with
   | cons a9 no2=>
    change _=some (Value.slice na (no2.length+1) nc)at m5
    have hq:(((no2.length:Int)+1)==0)=false:=beq_false_of_ne (by omega)
    have hq2:((((no2.length+1:Nat):Int))==0)=false:=beq_false_of_ne (by omega)
    go_enter Tryz.func191,Tryz.ntmps191
    have e9:R=.error .die:=by
     rw[HR.out];rfl
    subst e9
    go_wp2_with fail
    refine(qaq _).mono ?_
    rintro e w9 ⟨⟨u,pv,rfl⟩,rfl⟩
    go_wp2_with fail
    exact⟨rfl,⟨_,_,rfl⟩,H0.out.bel⟩
   | nil=>
    change _=some (Value.slice na 0 nc)at m5
    go_enter Tryz.func191,Tryz.ntmps191
    go_wp2_with fail
    refine(qap _).mono ?_
    rintro e w9 ⟨rfl,rfl⟩
    obtain⟨ka,ta9,la9,ra,qa,na9,va,hNd⟩:=H0.out.ncells HX.out
    have mf0:=hNd.frz 0
    have m0:=hNd.cells.1
    clear hNd
    have hs9:=MM.setKd (k':=15) H0.out HX.out
    have HS9:=zh hs9
    clear hs9
    go_wp2_with fail
    have H1:=zh HS9.out.1
    have Y1:=zh HS9.out.2
    have X1:=zh (X0.out.trans Y1.out)
    have HNL:=zh (show n< (σ.set n (.mk 15 t [.mk k2 t2 l2 b1 b2 [] ta2] br bl no ta)).N.length from by show n< (σ.N.set n _).length;rw[List.length_set];exact HNB.out)
    have hb:=qa1 (W.setCell ⟨L.A n,0,none⟩ (.int .i64 15)) (.cells #[.string ⟨#[60,45]⟩,.string ⟨#[60,61]⟩] 9)
    have Us:=zh (H1.out.strsN [⟨#[60,45]⟩,⟨#[60,61]⟩])
    have H2:=zh (H1.out.below hb)
    have Y2:=zh (H1.out.mxb hb)
    have X2:=zh (X1.out.trans Y2.out)
    clear hb
    have q3:=qkz H2.out 3 [[60,45],[60,61]] (some ⟨W.heap.size,0,none⟩) 2 2 (by have h9:=Us.out;rw[show(W.setCell ⟨L.A n,0,none⟩ (.int .i64 15)).heap.size=W.heap.size by simp]at h9;exact h9) (by decide)
    try unfold ptr at q3
    refine q3.mono ?_
    clear q3
    rintro e w3 ⟨v1,rfl,hv,hb⟩
    obtain⟨fK3,fF3,fC3,rfl⟩:=hv.fn
    have V3:=zh hv
    have H3:=zh (H2.out.below hb)
    have Y3:=zh (H2.out.mxb hb)
    have X3:=zh (X2.out.trans Y3.out)
    clear hv hb
    go_wp2_with fail
    have q4:=rowM H3.out n [44] (.perh 3 [[60,45],[60,61]]) _ V3.out HNL.out
    try unfold ptr at q4
    refine q4.mono ?_
    clear q4
    rintro e w4 ⟨v2,rfl,hv,hb⟩
    obtain⟨fK4,fF4,fC4,rfl⟩:=hv.fn
    have V4:=zh hv
    have H4:=zh (H3.out.below hb)
    have Y4:=zh (H3.out.mxb hb)
    have X4:=zh (X3.out.trans Y4.out)
    have v1_4:=zh (Y4.out.isc V3.out)
    clear hv hb
    go_wp2_with fail
    have q5:=qj8 H4.out [93]
    try unfold ptr at q5
    refine q5.mono ?_
    clear q5
    rintro e w5 ⟨v3,rfl,hv,hb⟩
    obtain⟨fK5,fF5,fC5,rfl⟩:=hv.fn
    have V5:=zh hv
    have H5:=zh (H4.out.below hb)
    have Y5:=zh (H4.out.mxb hb)
    have X5:=zh (X4.out.trans Y5.out)
    have v1_5:=zh (Y5.out.isc v1_4.out)
    have v2_5:=zh (Y5.out.isc V4.out)
    clear hv hb
    go_wp2_with fail
    refine(qbd H5.out _ (by simp) [_,_] [.row n [44] (.perh 3 [[60,45],[60,61]]),.want 9 [93]] 2 rfl (Nat.le_trans HK.out (by decide)) (by decide) _ ⟨v2_5.out,⟨V5.out,trivial⟩⟩).mono ?_
    rintro e w6 ⟨rfl,M6,hm,hx⟩
    have H6:=zh hm
    have Y6:=zh hx
    have X6:=zh (X5.out.trans Y6.out)
    have v1_6:=zh (Y6.out.isc v1_5.out)
    have v2_6:=zh (Y6.out.isc v2_5.out)
    have v3_6:=zh (Y6.out.isc V5.out)
    clear hm hx
    have e9:R=.ok ((σ.set n (.mk 15 t [.mk k2 t2 l2 b1 b2 [] ta2] br bl no ta)).plan [.row n [44] (.perh 3 [[60,45],[60,61]]),.want 9 [93]]):=by
     rw[HR.out];try simp[qmv,bind,Except.bind,pure,Except.pure,Except.map]
    subst e9
    go_wp2_with fail
    go_end0
    exact⟨rfl,M6,H6.out,X6.out⟩
end
section
variable{W0 W:World}{g:Nat}{s:ByteArray}{E:Env}{tv:Value}{L:PLay}{σ:PM}
theorem qkm(h:MM W0 g s E tv W L σ)(hk:σ.k.length<=274877906944){n:Nat}{k:Int}{t:Bs}{K:FuncId}{fF fC:Array Value}(hv:IsC W (L.P W0.heap.size) g L.A L.B σ.N.length σ.C.length (.func (.func K) fF fC) (.tail n k t))(hns:qcm E n k t σ≠ .error .stuck):
 Calls Tryz.prog K (fF++fC) W (SO (qcm E n k t σ) W0 g s E tv W L σ.N.length σ.C.length):=by
 cases hv with
 | tail _ _ _ p q r v h1 h2 h3 h4 hn=>
  obtain⟨b1,rfl,r1⟩:=id h1
  obtain⟨b2,rfl,r2⟩:=id h2
  obtain⟨b3,rfl,r3⟩:=id h3
  exact qj6 h hk n k t v h4 b1 h1 b2 h2 b3 h3 hns
theorem qmc(h:MM W0 g s E tv W L σ)(hk:σ.k.length<=274877906944)(n:Nat)(v1:Value)(hv1:IsC W (L.P W0.heap.size) g L.A L.B σ.N.length σ.C.length v1 (.tail n 9 [93]))(k1:Nat)(b1:BoxC W (L.P W0.heap.size) (.pointer (some ⟨k1,0,none⟩)) (ptr g))(k2:Nat)(b2:BoxC W (L.P W0.heap.size) (.pointer (some ⟨k2,0,none⟩)) (ptr (L.A n)))(k3:Nat)(b3:BoxC W (L.P W0.heap.size) (.pointer (some ⟨k3,0,none⟩)) v1)(hns:stp E (.listK n) σ≠ .error .stuck):
 Calls Tryz.prog 190 #[.pointer (some ⟨k1,0,none⟩),.pointer (some ⟨k2,0,none⟩),.pointer (some ⟨k3,0,none⟩)] W (SO (stp E (.listK n) σ) W0 g s E tv W L σ.N.length σ.C.length):=by
 obtain⟨R,hR⟩: ∃R:Rs PM,R=stp E (.listK n) σ:=⟨_,rfl⟩
 rw[<-hR]at hns⊢
 have HNS:=zh hns
 have HR:=zh hR
 have H0:=zh h
 have X0:=zh (MX.refl W0.heap.size W L σ.N.length σ.C.length)
 have HK:=zh hk
 have B_r:=zh b1
 have cr0:=b1.cellv
 unfold ptr at cr0
 have B_n:=zh b2
 have cn0:=b2.cellv
 unfold ptr at cn0
 have B_e:=zh b3
 have ce0:=b3.cellv
 obtain⟨fKv1,fFv1,fCv1,rfl⟩:=hv1.fn
 have Vv1:=zh hv1
 clear hv1
 clear h hR hk b1 b2 b3 hns
 try unfold ptr
 go_enter Tryz.func190,Tryz.ntmps190
 rcases hnd_n:σ.nd n with b9 | y
 ·obtain rfl:=qdv hnd_n
  exact absurd (by rw[HR.out];simp[stp,hnd_n,bind,Except.bind]) HNS.out
 have HND_N:=zh hnd_n
 have HX_n:=zh (qg2 hnd_n)
 clear hnd_n
 have HCrne:Hid (∀ {w':World} {L':PLay} {nN nC:Nat},MX W0.heap.size W L σ.N.length σ.C.length w' L' nN nC->w'.cell? ⟨k1,0,none⟩=some (.pointer (some ⟨g,0,none⟩))/\w'.cell? ⟨k2,0,none⟩=some (.pointer (some ⟨L.A n,0,none⟩))/\w'.cell? ⟨k3,0,none⟩=some (.func (.func fKv1) fFv1 fCv1)):=zh (fun hx=>⟨hx.cell B_r.out,hx.cell B_n.out,hx.cell B_e.out⟩)
 go_wp2_with fail
 have q1:=qd1 H0.out [124,124]
 try unfold ptr at q1
 refine q1.mono ?_
 clear q1
 intro e w1 h1
 rcases hr1:sgE E 9 [124,124] σ.i with x9 | ⟨b,j⟩
 ·obtain rfl:=qaw (by first | exact qae hr1 | exact qag hr1 | exact qaf hr1)
  rw[hr1]at h1
  obtain⟨⟨u,pv,rfl⟩,hb⟩:=h1
  have HB9:=zh hb
  have HR1:=zh hr1
  have e9:R=.error .die:=by
   have hnd_n:=HND_N.out;have hr1:=HR1.out;rw[HR.out];try simp[stp,hnd_n,hr1,bind,Except.bind,pure,Except.pure,Except.map]
  subst e9
  clear hb hr1
  go_wp2_with fail
  exact⟨rfl,⟨_,_,rfl⟩,HB9.out⟩
 ·rw[hr1]at h1
  have HR1:=zh hr1
  obtain⟨rfl,hm,hx⟩:=h1
  have H1:=zh hm
  have Y1:=zh hx
  have X1:=zh (X0.out.trans Y1.out)
  have B_r_1:=zh (Y1.out.box B_r.out)
  have cr1:=B_r_1.out.cellv
  unfold ptr at cr1
  have B_n_1:=zh (Y1.out.box B_n.out)
  have cn1:=B_n_1.out.cellv
  unfold ptr at cn1
  have B_e_1:=zh (Y1.out.box B_e.out)
  have ce1:=B_e_1.out.cellv
  have v1_1:=zh (Y1.out.isc Vv1.out)
  clear hm hx hr1
  cases b
  ·obtain rfl:=qdj HR1.out
   go_wp2_with fail
   have q2:=qd1 (σ:=σ.at_ σ.i) H1.out [124]
   try unfold ptr at q2
   refine q2.mono ?_
   clear q2
   intro e w2 h2
   rcases hr2:sgE E 9 [124] (σ.at_ σ.i).i with x9 | ⟨b,j⟩
   ·obtain rfl:=qaw (by first | exact qae hr2 | exact qag hr2 | exact qaf hr2)
    rw[hr2]at h2
    replace hr2:sgE E 9 [124] σ.i=_:=hr2
    obtain⟨⟨u,pv,rfl⟩,hb⟩:=h2
    have HB9:=zh hb
    have HR2:=zh hr2
    have e9:R=.error .die:=by
     have hnd_n:=HND_N.out;have hr1:=HR1.out;have hr2:=HR2.out;rw[HR.out];try simp[stp,hnd_n,hr1,hr2,bind,Except.bind,pure,Except.pure,Except.map]
    subst e9
    clear hb hr2
    go_wp2_with fail
    exact⟨rfl,⟨_,_,rfl⟩,HB9.out⟩
   ·rw[hr2]at h2
    replace hr2:sgE E 9 [124] σ.i=_:=hr2
    have HR2:=zh hr2
    obtain⟨rfl,hm,hx⟩:=h2
    have H2:=zh hm
    have Y2:=zh hx
    have X2:=zh (X1.out.trans Y2.out)
    have B_r_2:=zh (Y2.out.box B_r_1.out)
    have cr2:=B_r_2.out.cellv
    unfold ptr at cr2
    have B_n_2:=zh (Y2.out.box B_n_1.out)
    have cn2:=B_n_2.out.cellv
    unfold ptr at cn2
    have B_e_2:=zh (Y2.out.box B_e_1.out)
    have ce2:=B_e_2.out.cellv
    have v1_2:=zh (Y2.out.isc v1_1.out)
    clear hm hx hr2
    cases b
    ·obtain rfl:=qdj HR2.out
     have hen:=v1_2.out.enter
     go_wp2_with fail
     have hns9:qcm E n 9 [93] σ≠ .error .stuck:=by
      have e9:R=qcm E n 9 [93] σ:=by
       have hnd:=HND_N.out;have hr1:=HR1.out;rw[HR.out];show(σ.nd n >>= fun x=>_)=_;rw[hnd];show(sgE E 9 [124,124] σ.i >>= fun q=>_)=_;rw[hr1];show(sgE E 9 [124] σ.i >>= fun q=>_)=_;rw[HR2.out];rfl
      rw[<-e9];exact HNS.out
     have q3:=qkm (σ:=σ) H2.out HK.out v1_2.out hns9
     try unfold ptr at q3
     refine q3.mono ?_
     clear q3
     intro e w9 h9
     have e9:R=qcm E n 9 [93] σ:=by
      have hnd:=HND_N.out;have hr1:=HR1.out;rw[HR.out];show(σ.nd n >>= fun x=>_)=_;rw[hnd];show(sgE E 9 [124,124] σ.i >>= fun q=>_)=_;rw[hr1];show(sgE E 9 [124] σ.i >>= fun q=>_)=_;rw[HR2.out];rfl
     subst e9
     cases hres:(qcm E n 9 [93] σ)with
     | error b=>
      cases b with
      | die=>
       rw[hres]at h9
       obtain⟨⟨u,pv,rfl⟩,hb⟩:=h9
       have HB9:=zh hb
       have HRES:=zh hres
       clear hb hres
       go_wp2_with fail
       exact⟨rfl,⟨_,_,rfl⟩,HB9.out⟩
      | stuck=>exact absurd hres HNS.out
     | ok τ=>
      rw[hres]at h9
      obtain⟨rfl,M9,hm,hx⟩:=h9
      have H9:=zh hm
      have X9:=zh (X2.out.trans hx)
      have HRES:=zh hres
      clear hm hx hres
      go_wp2_with fail
      go_end0
      first
       | exact⟨rfl,M9,H9.out,X9.out⟩
       | (rw[HRES.out];exact⟨rfl,M9,H9.out,X9.out⟩)
    ·skip
     obtain⟨ka3,ta3,la3,ra3,qa3,na3,va3,hNd3⟩:=H2.out.ncells HX_n.out
     obtain⟨m0_3,m1_3,m2_3,m3_3,m4_3,m5_3,m6_3⟩:=hNd3.cells
     have mf1_3:=hNd3.frz 1
     clear hNd3
     have HS9:=zh (MM.setTxt (σ:=σ.at_ j) H2.out HX_n.out ⟨#[124]⟩)
     clear m0_3 m2_3 m3_3 m4_3 m5_3 m6_3
     go_wp2_with fail
     have H4:=zh HS9.out.1
     have Y4:=zh HS9.out.2
     have X4:=zh (X2.out.trans Y4.out)
     have B_r_4:=zh (Y4.out.box B_r_2.out)
     have cr4:=B_r_4.out.cellv
     unfold ptr at cr4
     have B_n_4:=zh (Y4.out.box B_n_2.out)
     have cn4:=B_n_4.out.cellv
     unfold ptr at cn4
     have B_e_4:=zh (Y4.out.box B_e_2.out)
     have ce4:=B_e_4.out.cellv
     have v1_4:=zh (Y4.out.isc v1_2.out)
     have HNL:=zh (show n< ((σ.at_ j).set n (y.txt' ⟨#[124]⟩)).N.length from by show n< (σ.N.set n _).length;rw[List.length_set];exact ndlt HX_n.out)
     have hb:=Below.drew (Below.refl (w2.setCell ⟨L.A n,1,none⟩ (.string ⟨#[124]⟩)).heap.size (w2.setCell ⟨L.A n,1,none⟩ (.string ⟨#[124]⟩)))
     have H5:=zh (H4.out.below hb)
     have Y5:=zh (H4.out.mxb hb)
     have X5:=zh (X4.out.trans Y5.out)
     have B_r_5:=zh (Y5.out.box B_r_4.out)
     have cr5:=B_r_5.out.cellv
     unfold ptr at cr5
     have B_n_5:=zh (Y5.out.box B_n_4.out)
     have cn5:=B_n_5.out.cellv
     unfold ptr at cn5
     have B_e_5:=zh (Y5.out.box B_e_4.out)
     have ce5:=B_e_5.out.cellv
     have v1_5:=zh (Y5.out.isc v1_4.out)
     clear hb
     go_region_held3 (fun w'=>w'.cell? ⟨k1,0,none⟩=some (.pointer (some ⟨g,0,none⟩))/\w'.cell? ⟨k2,0,none⟩=some (.pointer (some ⟨L.A n,0,none⟩))/\w'.cell? ⟨k3,0,none⟩=some (.func (.func fKv1) fFv1 fCv1)) (first | exact HCrne.out X8.out | exact HCrne.out X7.out | exact HCrne.out X6.out | exact HCrne.out X5.out | exact HCrne.out (X6.out.trans (H6.out.mxb (qa1 _ _))) | exact HCrne.out (X7.out.trans (H7.out.mxb (qa1 _ _))) | exact HCrne.out (X8.out.trans (H8.out.mxb (qa1 _ _)))) (first | (go_at_call 37;have q6:=qdd H5.out 3;try unfold ptr at q6;refine q6.mono ?_;clear q6;rintro e w6 ⟨ve,rfl,hv,hb⟩;obtain⟨fK6,fF6,fC6,rfl⟩:=hv.fn;have V6:=zh hv;have H6:=zh (H5.out.below hb);have Y6:=zh (H5.out.mxb hb);have X6:=zh (X5.out.trans Y6.out);have B_r_6:=zh (Y6.out.box B_r_5.out);have cr6:=B_r_6.out.cellv;unfold ptr at cr6;have B_n_6:=zh (Y6.out.box B_n_5.out);have cn6:=B_n_6.out.cellv;unfold ptr at cn6;have B_e_6:=zh (Y6.out.box B_e_5.out);have ce6:=B_e_6.out.cellv;have v1_6:=zh (Y6.out.isc v1_5.out);clear hv hb) | (go_at_call 106;have q7:=qij H6.out n HNL.out;try unfold ptr at q7;refine q7.mono ?_;clear q7;rintro e w7 ⟨vi,rfl,hv,hb⟩;obtain⟨fK7,fF7,fC7,rfl⟩:=hv.fn;have V7:=zh hv;have H7:=zh (H6.out.below hb);have Y7:=zh (H6.out.mxb hb);have X7:=zh (X6.out.trans Y7.out);have B_r_7:=zh (Y7.out.box B_r_6.out);have cr7:=B_r_7.out.cellv;unfold ptr at cr7;have B_n_7:=zh (Y7.out.box B_n_6.out);have cn7:=B_n_7.out.cellv;unfold ptr at cn7;have B_e_7:=zh (Y7.out.box B_e_6.out);have ce7:=B_e_7.out.cellv;have v1_7:=zh (Y7.out.isc v1_6.out);have ve_7:=zh (Y7.out.isc V6.out);clear hv hb) | (go_at_call 36;refine(qbd H7.out _ (by simp) [_,_,_] [.expr 3,.into n,.tail n 9 [93]] 3 rfl (Nat.le_trans HK.out (by decide)) (by decide) _ ⟨ve_7.out,⟨V7.out,⟨v1_7.out,trivial⟩⟩⟩).mono ?_;rintro e w8 ⟨rfl,M8,hm,hx⟩;have H8:=zh hm;have Y8:=zh hx;have X8:=zh (X7.out.trans Y8.out);have B_r_8:=zh (Y8.out.box B_r_7.out);have cr8:=B_r_8.out.cellv;unfold ptr at cr8;have B_n_8:=zh (Y8.out.box B_n_7.out);have cn8:=B_n_8.out.cellv;unfold ptr at cn8;have B_e_8:=zh (Y8.out.box B_e_7.out);have ce8:=B_e_8.out.cellv;have v1_8:=zh (Y8.out.isc v1_7.out);have ve_8:=zh (Y8.out.isc ve_7.out);have vi_8:=zh (Y8.out.isc V7.out);clear hm hx))
     have e9:R=.ok (((σ.at_ j).set n (y.txt' ⟨#[124]⟩)).plan [.expr 3,.into n,.tail n 9 [93]]):=by
      have hnd:=HND_N.out;have hr1:=HR1.out;rw[HR.out];show(σ.nd n >>= fun x=>_)=_;rw[hnd];show(sgE E 9 [124,124] σ.i >>= fun q=>_)=_;rw[hr1];show(sgE E 9 [124] σ.i >>= fun q=>_)=_;rw[HR2.out];rfl
     subst e9
     go_wp2_with fail
     go_end0
     exact⟨rfl,M8,H8.out,X8.out⟩
  ·skip
   go_wp2_with fail
   have q9:=compM (σ:=σ.at_ j) H1.out HK.out HX_n.out
   try unfold ptr at q9
   refine q9.mono ?_
   clear q9
   intro e w9 h9
   have e9:R=qmv n y (σ.at_ j):=by
    have hnd:=HND_N.out;have hr1:=HR1.out;rw[HR.out];show(σ.nd n >>= fun x=>_)=_;rw[hnd];show(sgE E 9 [124,124] σ.i >>= fun q=>_)=_;rw[hr1];rfl
   subst e9
   cases hres:(qmv n y (σ.at_ j))with
   | error b=>
    cases b with
    | die=>
     rw[hres]at h9
     obtain⟨⟨u,pv,rfl⟩,hb⟩:=h9
     have HB9:=zh hb
     have HRES:=zh hres
     clear hb hres
     go_wp2_with fail
     exact⟨rfl,⟨_,_,rfl⟩,HB9.out⟩
    | stuck=>exact absurd hres HNS.out
   | ok τ=>
    rw[hres]at h9
    obtain⟨rfl,M9,hm,hx⟩:=h9
    have H9:=zh hm
    have X9:=zh (X1.out.trans hx)
    have HRES:=zh hres
    clear hm hx hres
    go_wp2_with fail
    go_end0
    first
     | exact⟨rfl,M9,H9.out,X9.out⟩
     | (rw[HRES.out];exact⟨rfl,M9,H9.out,X9.out⟩)
end
section
variable{W0 W:World}{g:Nat}{s:ByteArray}{E:Env}{tv:Value}{L:PLay}{σ:PM}
theorem MM.new0B(h:MM W0 g s E tv W L σ)(k:Int)(b:Bool): ∃M,MM W0 g s E tv (W.alloc (.cells #[.int .i64 k,.string ⟨#[]⟩,.slice none 0 0,.bool b,.bool false,.slice none 0 0,.slice none 0 0] 29)) M (σ.new ((nk k []).brk' b))/\
 MX W0.heap.size W L σ.N.length σ.C.length (W.alloc (.cells #[.int .i64 k,.string ⟨#[]⟩,.slice none 0 0,.bool b,.bool false,.slice none 0 0,.slice none 0 0] 29)) M (σ.new ((nk k []).brk' b)).N.length (σ.new ((nk k []).brk' b)).C.length/\M.A σ.N.length=W.heap.size/\σ.N.length< (σ.new ((nk k []).brk' b)).N.length:=by
 obtain⟨M,hm,hx,ha,-⟩:=h.new0E k ⟨#[]⟩
 have hN:(σ.new (nkt k ⟨#[]⟩ [])).N[σ.N.length]?=some (some (nkt k ⟨#[]⟩ [])):=by
  show(σ.N++[some (nkt k ⟨#[]⟩ [])])[σ.N.length]?=_
  rw[List.getElem?_append_right (Nat.le_refl _),Nat.sub_self];rfl
 have e1:(σ.new (nkt k ⟨#[]⟩ [])).set σ.N.length ((nkt k ⟨#[]⟩ []).brk' b)=σ.new ((nk k []).brk' b):=by
  show({ σ with N:=(σ.N++[some (nkt k ⟨#[]⟩ [])]).set σ.N.length _ } :PM)= { σ with N:=σ.N++[_] }
  rw[List.set_append_right _ _ (Nat.le_refl _),Nat.sub_self];rfl
 have s:=hm.setBrk hN b
 rw[e1,ha,World.setCell_alloc_new]at s
 exact⟨M,s.1,hx.trans s.2,ha,by show _< (σ.N++[_]).length;rw[List.length_append];exact Nat.lt_succ_self _⟩
theorem listM(h:MM W0 g s E tv W L σ)(hk:σ.k.length<=274877906944)(hns:qec E σ≠ .error .stuck):
 Calls Tryz.prog 167 #[.pointer (some ⟨g,0,none⟩)] W (SO (qec E σ) W0 g s E tv W L σ.N.length σ.C.length):=by
 obtain⟨R,hR⟩: ∃R:Rs PM,R=qec E σ:=⟨_,rfl⟩
 rw[<-hR]at hns⊢
 have HNS:=zh hns
 have HR:=zh hR
 have H0:=zh h
 have X0:=zh (MX.refl W0.heap.size W L σ.N.length σ.C.length)
 have HK:=zh hk
 clear h hR hk hns
 try unfold ptr
 go_enter Tryz.func167,Tryz.ntmps167
 have hb:=qa1 W (.cells #[ptr g] 60)
 have B_r:=zh (H0.out.boxT (W.heap.size) (by simp) (ptr g) 60)
 have H1:=zh (H0.out.below hb)
 have Y1:=zh (H0.out.mxb hb)
 have X1:=zh (X0.out.trans Y1.out)
 clear hb
 go_wp2_with fail
 have q2:=qd1 H1.out [91]
 try unfold ptr at q2
 refine q2.mono ?_
 clear q2
 intro e w2 h2
 rcases hr2:sgE E 9 [91] σ.i with x9 | ⟨b,j⟩
 ·obtain rfl:=qaw (by first | exact qae hr2 | exact qag hr2 | exact qaf hr2)
  rw[hr2]at h2
  obtain⟨⟨u,pv,rfl⟩,hb⟩:=h2
  have HB9:=zh hb
  have HR2:=zh hr2
  have e9:R=.error .die:=by
   have hr2:=HR2.out;rw[HR.out];try simp[qec,msE,hr2,bind,Except.bind,pure,Except.pure,Except.map]
  subst e9
  clear hb hr2
  go_wp2_with fail
  exact⟨rfl,⟨_,_,rfl⟩,HB9.out⟩
 ·rw[hr2]at h2
  have HR2:=zh hr2
  obtain⟨rfl,hm,hx⟩:=h2
  have H2:=zh hm
  have Y2:=zh hx
  have X2:=zh (X1.out.trans Y2.out)
  have B_r_2:=zh (Y2.out.box B_r.out)
  have cr2:=B_r_2.out.cellv
  unfold ptr at cr2
  clear hm hx hr2
  cases b
  ·have e9:R=.error .die:=by
    have hr2:=HR2.out;rw[HR.out];try simp[qec,msE,hr2,bind,Except.bind,pure,Except.pure,Except.map]
   subst e9
   go_wp2_with fail
   refine(qaq _).mono ?_
   rintro e w9 ⟨⟨u,pv,rfl⟩,rfl⟩
   go_wp2_with fail
   exact⟨rfl,⟨_,_,rfl⟩,H2.out.bel⟩
  ·go_wp2_with fail
   refine(qap _).mono ?_
   rintro e w9 ⟨rfl,rfl⟩
   go_wp2_with fail
   have q3:=qjg (σ:=σ.at_ j) H2.out
   try unfold ptr at q3
   refine q3.mono ?_
   clear q3
   rintro e w3 ⟨rfl,hm,hx⟩
   have H3:=zh hm
   have Y3:=zh hx
   have X3:=zh (X2.out.trans Y3.out)
   have B_r_3:=zh (Y3.out.box B_r_2.out)
   have cr3:=B_r_3.out.cellv
   unfold ptr at cr3
   clear hm hx
   obtain⟨M4,hm,hx,ha,hl⟩:=MM.new0B (σ:=σ.at_ j) H3.out 5 (brE E j)
   have An:=zh (show M4.A σ.N.length=w3.heap.size from ha)
   have Nbn:=zh (show σ.N.length<_ from hl)
   have H4:=zh hm
   have Y4:=zh hx
   have X4:=zh (X3.out.trans Y4.out)
   have B_r_4:=zh (Y4.out.box B_r_3.out)
   have cr4:=B_r_4.out.cellv
   unfold ptr at cr4
   clear hm hx ha hl
   have hb:=qa1 (w3.alloc (.cells #[.int .i64 5,.string ⟨#[]⟩,.slice none 0 0,.bool (brE E j),.bool false,.slice none 0 0,.slice none 0 0] 29)) (.cells #[.pointer (some ⟨w3.heap.size,0,none⟩)] 74)
   have B_n:=zh (H4.out.boxT (w3.heap.size+1) (by simp) (.pointer (some ⟨w3.heap.size,0,none⟩)) 74)
   have H5:=zh (H4.out.below hb)
   have Y5:=zh (H4.out.mxb hb)
   have X5:=zh (X4.out.trans Y5.out)
   have B_r_5:=zh (Y5.out.box B_r_4.out)
   have cr5:=B_r_5.out.cellv
   unfold ptr at cr5
   have An_5:=zh ((Y5.out.A _ Nbn.out).trans An.out)
   have Nbn_5:=zh (zA Nbn.out Y5.out.N)
   clear hb
   go_upto_region 3 with fail
   rw[show(σ.at_ j).i=j from rfl]
   unfold ptr at*
   generalize hW1:((w3.alloc (.cells #[.int .i64 5,.string ⟨#[]⟩,.slice none 0 0,.bool (brE E j),.bool false,.slice none 0 0,.slice none 0 0] 29)).alloc (.cells #[.pointer (some ⟨w3.heap.size,0,none⟩)] 74))=W1 at*
   have HSP:Hid (∀w',Below W1.heap.size W1 w'->W1.heap.size<w'.heap.size->MM W0 g s E tv w' (M4.mine W1.heap.size) ((σ.at_ j).new ((nk 5 []).brk' (brE E j)))):=zh (fun w' hb h2=>H5.out.spare hb (Nat.le_refl _) h2)
   have HBL:Hid (∀w',Below W1.heap.size W1 w'->MM W0 g s E tv w' M4 ((σ.at_ j).new ((nk 5 []).brk' (brE E j)))):=zh (fun w' hb=>H5.out.below hb)
   have HBX:Hid (∀ {w':World},Below W1.heap.size W1 w'->w'.cell? ⟨W.heap.size,0,none⟩=some (.pointer (some ⟨g,0,none⟩))/\w'.cell? ⟨w3.heap.size+1,0,none⟩=some (.pointer (some ⟨w3.heap.size,0,none⟩))):=zh (fun hb=>⟨(H5.out.mxb hb).cell B_r_5.out,(H5.out.mxb hb).cell B_n.out⟩)
   have D0:=zh (Below.drew (Below.refl W1.heap.size W1))
   go_cut [3]from 3 to 15 (fun v wx=> ∃q fK fF fC,v=.pointer (some ⟨q,0,none⟩)/\Hid (BoxC wx (M4.P W0.heap.size) (.pointer (some ⟨q,0,none⟩)) (.func (.func fK) fF fC))/\Hid (IsC wx (M4.P W0.heap.size) g M4.A M4.B (((σ.at_ j).new ((nk 5 []).brk' (brE E j)))).N.length (((σ.at_ j).new ((nk 5 []).brk' (brE E j)))).C.length (.func (.func fK) fF fC) (.tail σ.N.length 9 [93]))/\Hid (Below W1.heap.size W1 wx))
   case first=>
    go_region_held3 (fun w'=>w'.cell? ⟨W.heap.size,0,none⟩=some (.pointer (some ⟨g,0,none⟩))/\w'.cell? ⟨w3.heap.size+1,0,none⟩=some (.pointer (some ⟨w3.heap.size,0,none⟩))) (first | exact HBX.out D0.out | exact HBX.out (Below.drew (qa1 _ _)) | exact HBX.out (D0.out.trans (qa1 _ _)) | exact HBX.out B9.out | exact HBX.out F9.out.2.2 | exact HBX.out B8.out | exact HBX.out (B8.out.trans ((qa1 w8 _).mono B8.out.size)) | exact HBX.out (B9.out.trans ((qa1 w9 _).mono B9.out.size))) (first | (go_at_call 188;refine(qj8 (HSP.out _ (by first | exact Below.drew (qa1 _ _) | exact D0.out.trans (qa1 _ _)) (by simp)) [93]).mono ?_;rintro e w8 ⟨v8,rfl,hv,hb⟩;obtain⟨fK8,fF8,fC8,rfl⟩:=hv.fn;have V8:=zh hv;have S8:=zh (zA (by simp) hb.size:W1.heap.size<w8.heap.size);have Q8:Hid (∃u T,w8.heap[W1.heap.size]?=some (.cells #[u] T (0,0))):=zh ⟨_,_,by first | exact(hb.block _ (by simp)).trans (qa8 W1 _) | exact(hb.block _ (by simp)).trans (qa8 W1.drew _)⟩;have B8:Hid (Below W1.heap.size W1 w8):=zh (by first | exact(Below.drew (qa1 W1 _)).trans (hb.mono (by simp)) | exact(D0.out.trans (qa1 W1.drew _)).trans (hb.mono (by simp)));clear hv hb) | (go_at_call 188;refine(qj8 (HBL.out _ D0.out) [93]).mono ?_;rintro e w8 ⟨v8,rfl,hv,hb⟩;obtain⟨fK8,fF8,fC8,rfl⟩:=hv.fn;have V8:=zh hv;have B8:=zh (D0.out.trans hb);have HS9:Hid (∀w',Below w8.heap.size w8 w'->w8.heap.size<w'.heap.size->MM W0 g s E tv w' (M4.mine w8.heap.size) ((σ.at_ j).new ((nk 5 []).brk' (brE E j)))):=zh (fun w' hb h2=>(HBL.out _ B8.out).spare hb (Nat.le_refl _) h2);clear hv hb) | (go_at_call 189;refine(qk6 (HSP.out _ B8.out S8.out) σ.N.length 9 [93] _ V8.out Nbn_5.out An_5.out).mono ?_;rintro e w9 ⟨v9,rfl,hv,hb⟩;obtain⟨fK9,fF9,fC9,rfl⟩:=hv.fn;have V9:=zh hv;have B9:=zh (B8.out.trans (hb.mono B8.out.size));have Q9:Hid (∃u T,w9.heap[W1.heap.size]?=some (.cells #[u] T (0,0))):=zh (by obtain⟨u,T,hq⟩:=Q8.out;exact⟨u,T,(hb.block _ S8.out).trans hq⟩);have F9:Hid (BoxC _ _ _ _/\_):=zh (by obtain⟨u,T,hq⟩:=Q9.out;exact MM.laid H5.out B9.out (Nat.le_refl _) V9.out hq);obtain⟨u9,T9,hq9⟩:=Q9.out;have hc9:=(qar hq9).1;have hf9:=(qar hq9).2;clear hq9;clear hv hb) | (go_at_call 189;refine(qk6 (HS9.out _ (qa1 w8 _) (by simp)) σ.N.length 9 [93] _ (V8.out.mineUp (qa1 w8 _) (Nat.le_refl _)) Nbn_5.out An_5.out).mono ?_;rintro e w9 ⟨v9,rfl,hv,hb⟩;obtain⟨fK9,fF9,fC9,rfl⟩:=hv.fn;have V9:=zh hv;have B9:=zh (B8.out.trans ((qa1 w8 _).trans (hb.mono (by simp)) |>.mono B8.out.size));have Q9:Hid (∃u T,w9.heap[w8.heap.size]?=some (.cells #[u] T (0,0))):=zh ⟨_,_,(hb.block _ (by simp)).trans (qa8 w8 _)⟩;have F9:Hid (BoxC _ _ _ _/\_):=zh (by obtain⟨u,T,hq⟩:=Q9.out;exact MM.laid H5.out B9.out B8.out.size V9.out hq);obtain⟨u9,T9,hq9⟩:=Q9.out;have hc9:=(qar hq9).1;have hf9:=(qar hq9).2;clear hq9;clear hv hb) | (go_at_call 189;refine(qk6 (HBL.out _ B8.out) σ.N.length 9 [93] _ V8.out Nbn_5.out An_5.out).mono ?_;rintro e w9 ⟨v9,rfl,hv,hb⟩;obtain⟨fK9,fF9,fC9,rfl⟩:=hv.fn;have V9:=zh hv;have B9:=zh (B8.out.trans (hb.mono B8.out.size));have F9:=zh (MM.laidB H5.out B9.out 1 V9.out);clear hv hb))
    all_goals go_wp2_with fail
    all_goals go_meet
    all_goals exact⟨_,_,_,_,rfl,zh F9.out.1,zh F9.out.2.1,zh F9.out.2.2⟩
   case rest=>
    obtain⟨kq,fKq,fFq,fCq,rfl,BQ,VQ,BB⟩:=hcut
    have H6:=zh (H5.out.below BB.out)
    have Y6:=zh (H5.out.mxb BB.out)
    have X6:=zh (X5.out.trans Y6.out)
    have B_r_6:=zh (Y6.out.box B_r_5.out)
    have cr6:=B_r_6.out.cellv
    unfold ptr at cr6
    have B_n_6:=zh (Y6.out.box B_n.out)
    have cn6:=B_n_6.out.cellv
    have An_6:=zh ((Y6.out.A _ Nbn_5.out).trans An_5.out)
    have Nbn_6:=zh (zA Nbn_5.out Y6.out.N)
    have cq:=BQ.out.cellv
    have V7:=zh (IsC.listK (W:=wc) (P:=M4.P W0.heap.size) (g:=g) (A:=M4.A) (B:=M4.B) (nN:=(((σ.at_ j).new ((nk 5 []).brk' (brE E j)))).N.length) (nC:=σ.C.length) σ.N.length _ _ _ _ B_r_6.out (by have h9:=B_n_6.out;rw[show ptr (M4.A σ.N.length)=_ from congrArg ptr An_6.out];exact h9) BQ.out VQ.out Nbn_6.out)
    cases hs8:E.sign (pz j) [93]
    ·have HS8:=zh hs8
     go_wp2_with fail
     have q8:=qc2 (σ:=((σ.at_ j).new ((nk 5 []).brk' (brE E j)))) H6.out [93]
     rw[show E.sign (pz ((σ.at_ j).new ((nk 5 []).brk' (brE E j))).i) [93]=_ from HS8.out]at q8
     try unfold ptr at q8
     refine q8.mono ?_
     clear q8
     rintro e w8 ⟨rfl,hm,hx⟩
     have H8:=zh hm
     have Y8:=zh hx
     have X8:=zh (X6.out.trans Y8.out)
     have B_r_8:=zh (Y8.out.box B_r_6.out)
     have cr8:=B_r_8.out.cellv
     unfold ptr at cr8
     have B_n_8:=zh (Y8.out.box B_n_6.out)
     have cn8:=B_n_8.out.cellv
     have B_q_8:=zh (Y8.out.box BQ.out)
     have cq8:=B_q_8.out.cellv
     have vq_8:=zh (Y8.out.isc VQ.out)
     have vl_8:=zh (Y8.out.isc V7.out)
     have An_8:=zh ((Y8.out.A _ Nbn_6.out).trans An_6.out)
     have Nbn_8:=zh (zA Nbn_6.out Y8.out.N)
     clear hm hx
     go_wp2_with fail
     have Z0:=zh (MX.refl W0.heap.size w8 M4 (((σ.at_ j).new ((nk 5 []).brk' (brE E j)))).N.length (((σ.at_ j).new ((nk 5 []).brk' (brE E j)))).C.length)
     have HCrn:Hid (∀ {w':World} {L':PLay} {nN nC:Nat},MX W0.heap.size w8 M4 (((σ.at_ j).new ((nk 5 []).brk' (brE E j)))).N.length (((σ.at_ j).new ((nk 5 []).brk' (brE E j)))).C.length w' L' nN nC->w'.cell? ⟨W.heap.size,0,none⟩=some (.pointer (some ⟨g,0,none⟩))/\w'.cell? ⟨w3.heap.size+1,0,none⟩=some (.pointer (some ⟨w3.heap.size,0,none⟩))):=zh (fun hx=>⟨hx.cell B_r_8.out,hx.cell B_n_8.out⟩)
     have hb:=Below.drew (Below.refl w8.heap.size w8)
     have H9:=zh (H8.out.below hb)
     have Y9:=zh (H8.out.mxb hb)
     have X9:=zh (X8.out.trans Y9.out)
     have Z9:=zh (Z0.out.trans Y9.out)
     have B_r_9:=zh (Y9.out.box B_r_8.out)
     have cr9:=B_r_9.out.cellv
     unfold ptr at cr9
     have B_n_9:=zh (Y9.out.box B_n_8.out)
     have cn9:=B_n_9.out.cellv
     have B_q_9:=zh (Y9.out.box B_q_8.out)
     have cq9:=B_q_9.out.cellv
     have vq_9:=zh (Y9.out.isc vq_8.out)
     have vl_9:=zh (Y9.out.isc vl_8.out)
     have An_9:=zh ((Y9.out.A _ Nbn_8.out).trans An_8.out)
     have Nbn_9:=zh (zA Nbn_8.out Y9.out.N)
     clear hb
     go_region_held3 (fun w'=>w'.cell? ⟨W.heap.size,0,none⟩=some (.pointer (some ⟨g,0,none⟩))/\w'.cell? ⟨w3.heap.size+1,0,none⟩=some (.pointer (some ⟨w3.heap.size,0,none⟩))) (first | exact HCrn.out Z13.out | exact HCrn.out Z12.out | exact HCrn.out Z11.out | exact HCrn.out Z10.out | exact HCrn.out Z9.out | exact HCrn.out (Z10.out.trans (H10.out.mxb (qa1 _ _))) | exact HCrn.out (Z11.out.trans (H11.out.mxb (qa1 _ _))) | exact HCrn.out (Z12.out.trans (H12.out.mxb (qa1 _ _))) | exact HCrn.out (Z13.out.trans (H13.out.mxb (qa1 _ _)))) (first | (go_at_call 37;have q10:=qdd H9.out 3;try unfold ptr at q10;refine q10.mono ?_;clear q10;rintro e w10 ⟨v4,rfl,hv,hb⟩;obtain⟨fK10,fF10,fC10,rfl⟩:=hv.fn;have V10:=zh hv;have H10:=zh (H9.out.below hb);have Y10:=zh (H9.out.mxb hb);have X10:=zh (X9.out.trans Y10.out);have Z10:=zh (Z9.out.trans Y10.out);have B_r_10:=zh (Y10.out.box B_r_9.out);have cr10:=B_r_10.out.cellv;unfold ptr at cr10;have B_n_10:=zh (Y10.out.box B_n_9.out);have cn10:=B_n_10.out.cellv;have B_q_10:=zh (Y10.out.box B_q_9.out);have cq10:=B_q_10.out.cellv;have vq_10:=zh (Y10.out.isc vq_9.out);have vl_10:=zh (Y10.out.isc vl_9.out);have An_10:=zh ((Y10.out.A _ Nbn_9.out).trans An_9.out);have Nbn_10:=zh (zA Nbn_9.out Y10.out.N);clear hv hb) | (go_at_call 73;have q11:=qjn H10.out (.expr 3) _ V10.out;try unfold ptr at q11;refine q11.mono ?_;clear q11;rintro e w11 ⟨v5,rfl,hv,hb⟩;obtain⟨fK11,fF11,fC11,rfl⟩:=hv.fn;have V11:=zh hv;have H11:=zh (H10.out.below hb);have Y11:=zh (H10.out.mxb hb);have X11:=zh (X10.out.trans Y11.out);have Z11:=zh (Z10.out.trans Y11.out);have B_r_11:=zh (Y11.out.box B_r_10.out);have cr11:=B_r_11.out.cellv;unfold ptr at cr11;have B_n_11:=zh (Y11.out.box B_n_10.out);have cn11:=B_n_11.out.cellv;have B_q_11:=zh (Y11.out.box B_q_10.out);have cq11:=B_q_11.out.cellv;have vq_11:=zh (Y11.out.isc vq_10.out);have vl_11:=zh (Y11.out.isc vl_10.out);have v4_11:=zh (Y11.out.isc V10.out);have An_11:=zh ((Y11.out.A _ Nbn_10.out).trans An_10.out);have Nbn_11:=zh (zA Nbn_10.out Y11.out.N);clear hv hb) | (go_at_call 74;have q12:=rowM H11.out σ.N.length [44] (.item (.expr 3)) _ V11.out Nbn_11.out;rw[An_11.out]at q12;try unfold ptr at q12;refine q12.mono ?_;clear q12;rintro e w12 ⟨v6,rfl,hv,hb⟩;obtain⟨fK12,fF12,fC12,rfl⟩:=hv.fn;have V12:=zh hv;have H12:=zh (H11.out.below hb);have Y12:=zh (H11.out.mxb hb);have X12:=zh (X11.out.trans Y12.out);have Z12:=zh (Z11.out.trans Y12.out);have B_r_12:=zh (Y12.out.box B_r_11.out);have cr12:=B_r_12.out.cellv;unfold ptr at cr12;have B_n_12:=zh (Y12.out.box B_n_11.out);have cn12:=B_n_12.out.cellv;have B_q_12:=zh (Y12.out.box B_q_11.out);have cq12:=B_q_12.out.cellv;have vq_12:=zh (Y12.out.isc vq_11.out);have vl_12:=zh (Y12.out.isc vl_11.out);have v4_12:=zh (Y12.out.isc v4_11.out);have v5_12:=zh (Y12.out.isc V11.out);have An_12:=zh ((Y12.out.A _ Nbn_11.out).trans An_11.out);have Nbn_12:=zh (zA Nbn_11.out Y12.out.N);clear hv hb) | (go_at_call 36;refine(qbd H12.out _ (by simp) [_,_] [.row σ.N.length [44] (.item (.expr 3)),.listK σ.N.length] 2 rfl (Nat.le_trans HK.out (by decide)) (by decide) _ ⟨V12.out,⟨vl_12.out,trivial⟩⟩).mono ?_;rintro e w13 ⟨rfl,M13,hm,hx⟩;have H13:=zh hm;have Y13:=zh hx;have X13:=zh (X12.out.trans Y13.out);have Z13:=zh (Z12.out.trans Y13.out);have B_r_13:=zh (Y13.out.box B_r_12.out);have cr13:=B_r_13.out.cellv;unfold ptr at cr13;have B_n_13:=zh (Y13.out.box B_n_12.out);have cn13:=B_n_13.out.cellv;have B_q_13:=zh (Y13.out.box B_q_12.out);have cq13:=B_q_13.out.cellv;have vq_13:=zh (Y13.out.isc vq_12.out);have vl_13:=zh (Y13.out.isc vl_12.out);have v4_13:=zh (Y13.out.isc v4_12.out);have v5_13:=zh (Y13.out.isc v5_12.out);have v6_13:=zh (Y13.out.isc V12.out);have An_13:=zh ((Y13.out.A _ Nbn_12.out).trans An_12.out);have Nbn_13:=zh (zA Nbn_12.out Y13.out.N);clear hm hx))
     all_goals
      have e9:R=.ok (((σ.at_ j).new ((nk 5 []).brk' (brE E j))).plan [.row σ.N.length [44] (.item (.expr 3)),.listK σ.N.length]):=by
       have hr2:=HR2.out;have hs8:=HS8.out;rw[HR.out];try simp[qec,msE,hr2,hs8,bind,Except.bind,pure,Except.pure,Except.map]
      subst e9
      go_wp2_with fail
      go_end0
      exact⟨rfl,M13,H13.out,X13.out⟩
    ·have HS8:=zh hs8
     go_wp2_with fail
     have q14:=qc2 (σ:=((σ.at_ j).new ((nk 5 []).brk' (brE E j)))) H6.out [93]
     rw[show E.sign (pz ((σ.at_ j).new ((nk 5 []).brk' (brE E j))).i) [93]=_ from HS8.out]at q14
     try unfold ptr at q14
     refine q14.mono ?_
     clear q14
     rintro e w14 ⟨rfl,hm,hx⟩
     have H14:=zh hm
     have Y14:=zh hx
     have X14:=zh (X6.out.trans Y14.out)
     have B_r_14:=zh (Y14.out.box B_r_6.out)
     have cr14:=B_r_14.out.cellv
     unfold ptr at cr14
     have B_n_14:=zh (Y14.out.box B_n_6.out)
     have cn14:=B_n_14.out.cellv
     have B_q_14:=zh (Y14.out.box BQ.out)
     have cq14:=B_q_14.out.cellv
     have vq_14:=zh (Y14.out.isc VQ.out)
     have vl_14:=zh (Y14.out.isc V7.out)
     have An_14:=zh ((Y14.out.A _ Nbn_6.out).trans An_6.out)
     have Nbn_14:=zh (zA Nbn_6.out Y14.out.N)
     clear hm hx
     have hen:=vq_14.out.enter
     go_wp2_with fail
     have hns9:qcm E σ.N.length 9 [93] ((σ.at_ j).new ((nk 5 []).brk' (brE E j)))≠ .error .stuck:=by
      have e9:R=qcm E σ.N.length 9 [93] ((σ.at_ j).new ((nk 5 []).brk' (brE E j))):=by
       have hr:=HR2.out;have hs8:=HS8.out;rw[HR.out];simp[qec,msE,hr,hs8,bind,Except.bind]
      rw[<-e9];exact HNS.out
     have q15:=qkm (σ:=((σ.at_ j).new ((nk 5 []).brk' (brE E j)))) H14.out HK.out vq_14.out hns9
     try unfold ptr at q15
     refine q15.mono ?_
     clear q15
     intro e w9 h9
     have e9:R=qcm E σ.N.length 9 [93] ((σ.at_ j).new ((nk 5 []).brk' (brE E j))):=by
      have hr2:=HR2.out;have hs8:=HS8.out;rw[HR.out];try simp[qec,msE,hr2,hs8,bind,Except.bind,pure,Except.pure,Except.map]
     subst e9
     cases hres:(qcm E σ.N.length 9 [93] ((σ.at_ j).new ((nk 5 []).brk' (brE E j))))with
     | error b=>
      cases b with
      | die=>
       rw[hres]at h9
       obtain⟨⟨u,pv,rfl⟩,hb⟩:=h9
       have HB9:=zh hb
       have HRES:=zh hres
       clear hb hres
       go_wp2_with fail
       exact⟨rfl,⟨_,_,rfl⟩,HB9.out⟩
      | stuck=>exact absurd hres HNS.out
     | ok τ=>
      rw[hres]at h9
      obtain⟨rfl,M9,hm,hx⟩:=h9
      have H9:=zh hm
      have X9:=zh (X14.out.trans hx)
      have HRES:=zh hres
      clear hm hx hres
      go_wp2_with fail
      go_end0
      first
       | exact⟨rfl,M9,H9.out,X9.out⟩
       | (rw[HRES.out];exact⟨rfl,M9,H9.out,X9.out⟩)
end
section
variable{W0 W:World}{g:Nat}{s:ByteArray}{E:Env}{tv:Value}{L:PLay}{σ:PM}
def FO(o:Option Stp)(W0:World)(g:Nat)(s:ByteArray)(E:Env)(tv:Value)(W:World)(L:PLay)(σ:PM)(e:Ending)(W':World):Prop:=
 ∃v,e=.returned v/\MM W0 g s E tv W' L σ/\MX W0.heap.size W L σ.N.length σ.C.length W' L σ.N.length σ.C.length/\match o with
  | none=>v=Value.nilFunc
  | some t=>IsC W' (L.P W0.heap.size) g L.A L.B σ.N.length σ.C.length v t
theorem qcu(k:Int)(t:ByteArray)(l:List Nd)(br bl:Bool)(no ta:List ByteArray):bare (.mk k t l br bl no ta)=qia k t:=rfl
theorem MM.chc(h:MM W0 g s E tv W L σ){c:Nat}{ch:Chn}(hc:σ.C[c]?=some ch):W.cell? ⟨L.B c,0,none⟩=some (.pointer (some ⟨g,0,none⟩))/\W.cell? ⟨L.B c,4,none⟩=some (.bool ch.st):=by
 obtain⟨-,cv,av,h1,-,-,-,-⟩:=h.chs c ch hc
 exact⟨by rw[cell_of_row W _ _ _ _ _ h1];rfl,by rw[cell_of_row W _ _ _ _ _ h1];rfl⟩
theorem qr6(h:MM W0 g s E tv W L σ){c j:Nat}{ch:Chn}{k:Int}{t:ByteArray}{l:List Nd}{br bl:Bool}{no ta:List ByteArray}(hc:σ.C[c]?=some ch)(hn:σ.n=some j)(hx:σ.N[j]?=some (some (.mk k t l br bl no ta))):
 Calls Tryz.prog 123 #[.pointer (some ⟨L.B c,0,none⟩)] W (FO (qat E ch (.mk k t l br bl no ta) σ.i) W0 g s E tv W L σ):=by
 obtain⟨R,hR⟩: ∃R:Option Stp,R=qat E ch (.mk k t l br bl no ta) σ.i:=⟨_,rfl⟩
 rw[<-hR]
 have HR:=zh hR
 have H0:=zh h
 have X0:=zh (MX.refl W0.heap.size W L σ.N.length σ.C.length)
 have HC:=zh hc
 have HN_j:=zh hn
 have HX_j:=zh hx
 clear h hR hc hn hx
 cases hst:ch.st
 rotate_left
 ·have HST:=zh hst
  obtain⟨c0,c4⟩:=H0.out.chc HC.out
  rw[HST.out]at c4
  go_enter Tryz.func123,Tryz.ntmps123
  obtain⟨c0,c4⟩:=H0.out.chc HC.out
  rw[HST.out]at c4
  cases hs1:E.sign (pz σ.i) [40]
  rotate_left
  ·have HS1:=zh hs1
   go_wp2_with fail
   have q1:=qc2 (σ:=σ) H0.out [40]
   rw[show E.sign (pz σ.i) [40]=_ from HS1.out]at q1
   try unfold ptr at q1
   refine q1.mono ?_
   clear q1
   rintro e w1 ⟨rfl,hm,hx⟩
   have H1:=zh hm
   have Y1:=zh hx
   have X1:=zh (X0.out.trans Y1.out)
   clear hm hx
   obtain⟨c0,c4⟩:=H1.out.chc HC.out
   rw[HST.out]at c4
   have e9:R=some .call:=by
    have hst:=HST.out;have hs1:=HS1.out;rw[HR.out];try simp[qat,qcu,Nd.kd,hst,hs1,bind,Except.bind,pure,Except.pure,Except.map]
   subst e9
   go_wp2_with fail
   go_ret
   exact⟨_,rfl,H1.out,X1.out,IsC.call⟩
  have HS1:=zh hs1
  go_wp2_with fail
  have q2:=qc2 (σ:=σ) H0.out [40]
  rw[show E.sign (pz σ.i) [40]=_ from HS1.out]at q2
  try unfold ptr at q2
  refine q2.mono ?_
  clear q2
  rintro e w2 ⟨rfl,hm,hx⟩
  have H2:=zh hm
  have Y2:=zh hx
  have X2:=zh (X0.out.trans Y2.out)
  clear hm hx
  obtain⟨c0,c4⟩:=H2.out.chc HC.out
  rw[HST.out]at c4
  cases hs2:E.sign (pz σ.i) [35]
  rotate_left
  ·have HS2:=zh hs2
   go_wp2_with fail
   have q3:=qc2 (σ:=σ) H2.out [35]
   rw[show E.sign (pz σ.i) [35]=_ from HS2.out]at q3
   try unfold ptr at q3
   refine q3.mono ?_
   clear q3
   rintro e w3 ⟨rfl,hm,hx⟩
   have H3:=zh hm
   have Y3:=zh hx
   have X3:=zh (X2.out.trans Y3.out)
   clear hm hx
   obtain⟨c0,c4⟩:=H3.out.chc HC.out
   rw[HST.out]at c4
   have e9:R=some .chgd:=by
    have hst:=HST.out;have hs1:=HS1.out;have hs2:=HS2.out;rw[HR.out];try simp[qat,qcu,Nd.kd,hst,hs1,hs2,bind,Except.bind,pure,Except.pure,Except.map]
   subst e9
   go_wp2_with fail
   go_ret
   exact⟨_,rfl,H3.out,X3.out,IsC.chgd⟩
  have HS2:=zh hs2
  go_wp2_with fail
  have q4:=qc2 (σ:=σ) H2.out [35]
  rw[show E.sign (pz σ.i) [35]=_ from HS2.out]at q4
  try unfold ptr at q4
  refine q4.mono ?_
  clear q4
  rintro e w4 ⟨rfl,hm,hx⟩
  have H4:=zh hm
  have Y4:=zh hx
  have X4:=zh (X2.out.trans Y4.out)
  clear hm hx
  cases hs3:E.sign (pz σ.i) [58]
  ·have HS3:=zh hs3
   obtain⟨c0,c4⟩:=H4.out.chc HC.out
   rw[HST.out]at c4
   go_wp2_with fail
   have q5:=qc2 (σ:=σ) H4.out [58]
   rw[show E.sign (pz σ.i) [58]=_ from HS3.out]at q5
   try unfold ptr at q5
   refine q5.mono ?_
   clear q5
   rintro e w5 ⟨rfl,hm,hx⟩
   have H5:=zh hm
   have Y5:=zh hx
   have X5:=zh (X4.out.trans Y5.out)
   clear hm hx
   obtain⟨c0,c4⟩:=H5.out.chc HC.out
   rw[HST.out]at c4
   have e9:R=none:=by
    have hst:=HST.out;have hs1:=HS1.out;have hs2:=HS2.out;have hs3:=HS3.out;rw[HR.out];try simp[qat,qcu,Nd.kd,hst,hs1,hs2,hs3,bind,Except.bind,pure,Except.pure,Except.map]
   subst e9
   go_wp2_with fail
   go_ret
   exact⟨_,rfl,H5.out,X5.out,rfl⟩
  ·have HS3:=zh hs3
   obtain⟨c0,c4⟩:=H4.out.chc HC.out
   rw[HST.out]at c4
   go_wp2_with fail
   have q6:=qc2 (σ:=σ) H4.out [58]
   rw[show E.sign (pz σ.i) [58]=_ from HS3.out]at q6
   try unfold ptr at q6
   refine q6.mono ?_
   clear q6
   rintro e w6 ⟨rfl,hm,hx⟩
   have H6:=zh hm
   have Y6:=zh hx
   have X6:=zh (X4.out.trans Y6.out)
   clear hm hx
   obtain⟨c0,c4⟩:=H6.out.chc HC.out
   rw[HST.out]at c4
   have e9:R=some .remo:=by
    have hst:=HST.out;have hs1:=HS1.out;have hs2:=HS2.out;have hs3:=HS3.out;rw[HR.out];try simp[qat,qcu,Nd.kd,hst,hs1,hs2,hs3,bind,Except.bind,pure,Except.pure,Except.map]
   subst e9
   go_wp2_with fail
   go_ret
   exact⟨_,rfl,H6.out,X6.out,IsC.remo⟩
 ·have HST:=zh hst
  obtain⟨c0,c4⟩:=H0.out.chc HC.out
  rw[HST.out]at c4
  obtain⟨-,lv,nv,tv9,hNd,-⟩:=H0.out.node HX_j.out
  have HND9:=zh hNd
  have g5:=H0.out.gcur HN_j.out
  have m0:=hNd.cells.1
  clear hNd
  go_enter Tryz.func123,Tryz.ntmps123
  go_wp2_with fail
  refine(bareM HND9.out).mono ?_
  rintro e w9 ⟨rfl,n9,rfl⟩
  have H7:=zh (H0.out.below (qac W n9))
  have Y7:=zh (H0.out.mxb (qac W n9))
  have X7:=zh (X0.out.trans Y7.out)
  cases hb9:qia k t
  ·have HB9:=zh hb9
   have e9:R=none:=by
    have hst:=HST.out;have hb9:=HB9.out;rw[HR.out];try simp[qat,qcu,Nd.kd,hst,hb9,bind,Except.bind,pure,Except.pure,Except.map]
   subst e9
   go_wp2_with fail
   go_ret
   exact⟨_,rfl,H7.out,X7.out,rfl⟩
  ·have HB9:=zh hb9
   obtain⟨c0,c4⟩:=H7.out.chc HC.out
   rw[HST.out]at c4
   cases hs1:E.sign (pz σ.i) [40]
   rotate_left
   ·have HS1:=zh hs1
    go_wp2_with fail
    have q8:=qc2 (σ:=σ) H7.out [40]
    rw[show E.sign (pz σ.i) [40]=_ from HS1.out]at q8
    try unfold ptr at q8
    refine q8.mono ?_
    clear q8
    rintro e w8 ⟨rfl,hm,hx⟩
    have H8:=zh hm
    have Y8:=zh hx
    have X8:=zh (X7.out.trans Y8.out)
    clear hm hx
    obtain⟨c0,c4⟩:=H8.out.chc HC.out
    rw[HST.out]at c4
    have e9:R=some .call:=by
     have hst:=HST.out;have hb9:=HB9.out;have hs1:=HS1.out;rw[HR.out];try simp[qat,qcu,Nd.kd,hst,hb9,hs1,bind,Except.bind,pure,Except.pure,Except.map]
    subst e9
    go_wp2_with fail
    go_ret
    exact⟨_,rfl,H8.out,X8.out,IsC.call⟩
   have HS1:=zh hs1
   go_wp2_with fail
   have q9:=qc2 (σ:=σ) H7.out [40]
   rw[show E.sign (pz σ.i) [40]=_ from HS1.out]at q9
   try unfold ptr at q9
   refine q9.mono ?_
   clear q9
   rintro e w9 ⟨rfl,hm,hx⟩
   have H9:=zh hm
   have Y9:=zh hx
   have X9:=zh (X7.out.trans Y9.out)
   clear hm hx
   obtain⟨c0,c4⟩:=H9.out.chc HC.out
   rw[HST.out]at c4
   cases hs2:E.sign (pz σ.i) [35]
   rotate_left
   ·have HS2:=zh hs2
    go_wp2_with fail
    have q10:=qc2 (σ:=σ) H9.out [35]
    rw[show E.sign (pz σ.i) [35]=_ from HS2.out]at q10
    try unfold ptr at q10
    refine q10.mono ?_
    clear q10
    rintro e w10 ⟨rfl,hm,hx⟩
    have H10:=zh hm
    have Y10:=zh hx
    have X10:=zh (X9.out.trans Y10.out)
    clear hm hx
    obtain⟨c0,c4⟩:=H10.out.chc HC.out
    rw[HST.out]at c4
    have e9:R=some .chgd:=by
     have hst:=HST.out;have hb9:=HB9.out;have hs1:=HS1.out;have hs2:=HS2.out;rw[HR.out];try simp[qat,qcu,Nd.kd,hst,hb9,hs1,hs2,bind,Except.bind,pure,Except.pure,Except.map]
    subst e9
    go_wp2_with fail
    go_ret
    exact⟨_,rfl,H10.out,X10.out,IsC.chgd⟩
   have HS2:=zh hs2
   go_wp2_with fail
   have q11:=qc2 (σ:=σ) H9.out [35]
   rw[show E.sign (pz σ.i) [35]=_ from HS2.out]at q11
   try unfold ptr at q11
   refine q11.mono ?_
   clear q11
   rintro e w11 ⟨rfl,hm,hx⟩
   have H11:=zh hm
   have Y11:=zh hx
   have X11:=zh (X9.out.trans Y11.out)
   clear hm hx
   cases hs3:E.sign (pz σ.i) [58]
   ·have HS3:=zh hs3
    obtain⟨c0,c4⟩:=H11.out.chc HC.out
    rw[HST.out]at c4
    go_wp2_with fail
    have q12:=qc2 (σ:=σ) H11.out [58]
    rw[show E.sign (pz σ.i) [58]=_ from HS3.out]at q12
    try unfold ptr at q12
    refine q12.mono ?_
    clear q12
    rintro e w12 ⟨rfl,hm,hx⟩
    have H12:=zh hm
    have Y12:=zh hx
    have X12:=zh (X11.out.trans Y12.out)
    clear hm hx
    obtain⟨c0,c4⟩:=H12.out.chc HC.out
    rw[HST.out]at c4
    have e9:R=none:=by
     have hst:=HST.out;have hb9:=HB9.out;have hs1:=HS1.out;have hs2:=HS2.out;have hs3:=HS3.out;rw[HR.out];try simp[qat,qcu,Nd.kd,hst,hb9,hs1,hs2,hs3,bind,Except.bind,pure,Except.pure,Except.map]
    subst e9
    go_wp2_with fail
    go_ret
    exact⟨_,rfl,H12.out,X12.out,rfl⟩
   ·have HS3:=zh hs3
    obtain⟨c0,c4⟩:=H11.out.chc HC.out
    rw[HST.out]at c4
    go_wp2_with fail
    have q13:=qc2 (σ:=σ) H11.out [58]
    rw[show E.sign (pz σ.i) [58]=_ from HS3.out]at q13
    try unfold ptr at q13
    refine q13.mono ?_
    clear q13
    rintro e w13 ⟨rfl,hm,hx⟩
    have H13:=zh hm
    have Y13:=zh hx
    have X13:=zh (X11.out.trans Y13.out)
    clear hm hx
    obtain⟨c0,c4⟩:=H13.out.chc HC.out
    rw[HST.out]at c4
    obtain⟨-,lv,nv,tv9,hNd,-⟩:=H13.out.node HX_j.out
    have HND9:=zh hNd
    have g5:=H13.out.gcur HN_j.out
    have m0:=hNd.cells.1
    clear hNd
    by_cases k1:k=1
    ·subst k1
     have e9:R=some .remo:=by
      have hst:=HST.out;have hb9:=HB9.out;have hs1:=HS1.out;have hs2:=HS2.out;have hs3:=HS3.out;rw[HR.out];try simp[qat,qcu,Nd.kd,hst,hb9,hs1,hs2,hs3,bind,Except.bind,pure,Except.pure,Except.map]
     subst e9
     go_wp2_with fail
     go_ret
     exact⟨_,rfl,H13.out,X13.out,IsC.remo⟩
    ·have K1:=zh k1
     have e1:(k==1)=false:=beq_false_of_ne k1
     have e9:R=none:=by
      have hst:=HST.out;have hb9:=HB9.out;have hs1:=HS1.out;have hs2:=HS2.out;have hs3:=HS3.out;have k1:=K1.out;rw[HR.out];try simp[qat,qcu,Nd.kd,hst,hb9,hs1,hs2,hs3,k1,bind,Except.bind,pure,Except.pure,Except.map]
     subst e9
     go_wp2_with fail
     go_ret
     exact⟨_,rfl,H13.out,X13.out,rfl⟩
end
end Go.Proofs.YtdhadeeajgoedaaGreat
