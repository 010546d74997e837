/-
  What the claims stand on: PmStepI.
-/
import Derived.Test.YtdhadeeajgoedaaGreatK43
set_option maxRecDepth 100000
set_option maxHeartbeats 4000000
set_option linter.unusedVariables false
set_option linter.unusedSimpArgs false
open Go.RowKit.Below renaming drew→zA
open Nat renaming le_succ_of_le→zB
namespace Go.Proofs.YtdhadeeajgoedaaGreat
open Go.RowKit Go.PlainAid
section
variable{W0 W:World}{g:Nat}{s:ByteArray}{E:Env}{tv:Value}{L:PLay}{σ:PM}
def tyJ(W0:World)(g:Nat)(s:ByteArray)(E:Env)(tv:Value)(W:World)(L:PLay)(σ:PM)(R:Rs Nat)(n:Nat)(a':Act)(w':World):Prop:=
 ∃q:Nat,Hid (tyL E n q=R)/\Hid (MM W0 g s E tv w' L (σ.at_ q))/\Hid (MX W0.heap.size W L σ.N.length σ.C.length w' L σ.N.length σ.C.length)/\ ∃u1 u2 u3 u4 u5 u6:Value,a'= { tmps:= #[.pointer (some ⟨g,0,none⟩),u1,u2,u3,u4,u5,u6],defers:=[] }
theorem qtu(h:MM W0 g s E tv W L σ)(f:Nat)(hns:tyL E f σ.i≠ .error .stuck):
 Calls Tryz.prog 220 #[.pointer (some ⟨g,0,none⟩)] W (MO (tyL E f σ.i) W0 g s E tv W L σ (fun _=>.tuple #[]) id):=by
 obtain⟨R,hR⟩: ∃R,R=tyL E f σ.i:=⟨_,rfl⟩
 rw[<-hR]at hns⊢
 have HR:=zh hR
 have HNS:=zh hns
 have H0:=zh h
 clear h hR hns
 go_enter Tryz.func220,Tryz.ntmps220
 go_wp2_with fail
 refine qct (tyJ W0 g s E tv W L σ R) rfl ?_ ?_
 ·rintro n a' w' ⟨q,HT,HM,HX,u1,u2,u3,u4,u5,u6,rfl⟩
  cases n with
  | zero=>exact absurd HT.out.symm HNS.out
  | succ m=>
   go_wp2_with fail
   have hb:=qa1 w' (.cells #[.int .i64 1] 3)
   have Uk:=zh (qed w' _ rfl [1] (by decide) 3)
   have Ugk:=zh (show w'.heap.size≠g from by have:=HM.out.glt;omega)
   have H1:=zh (HM.out.below hb)
   have X1:=zh (HX.out.trans (HM.out.mxb hb))
   clear hb
   have q1:=qw1 (σ:=σ.at_ q) H1.out (· ==1) [1] one1 rfl w'.heap.size 1 rfl Uk.out (by simp) Ugk.out
   try unfold ptr at q1
   refine q1.mono ?_
   clear q1
   intro e w2 h2
   rcases hr2:txE E (· ==1) (σ.at_ q).i with b9 | x2
   ·obtain rfl:=qaw (qag hr2)
    rw[hr2]at h2
    replace hr2:txE E (· ==1) q=_:=hr2
    obtain⟨⟨u,pv,rfl⟩,hb⟩:=h2
    have HB9:=zh hb
    have e9:R=.error .die:=by
     rw[<-HT.out]
     show(do let r<-txE E (· ==1) q;_)=_
     rw[hr2];rfl
    subst e9
    clear hb hr2
    go_wp2_with fail
    exact⟨rfl,⟨_,_,rfl⟩,HB9.out⟩
   ·rw[hr2]at h2
    replace hr2:txE E (· ==1) q=_:=hr2
    have HR2:=zh hr2
    obtain⟨rfl,hm,hx⟩:=h2
    have H2:=zh hm
    have X2:=zh (X1.out.trans hx)
    clear hm hx hr2
    go_wp2_with fail
    have q3:=qd1 (σ:=σ.at_ x2.2) H2.out [45]
    try unfold ptr at q3
    refine q3.mono ?_
    clear q3
    intro e w3 h3
    rcases hr3:sgE E 9 [45] (σ.at_ x2.2).i with b9 | ⟨b,j⟩
    ·obtain rfl:=qaw (qae hr3)
     rw[hr3]at h3
     replace hr3:sgE E 9 [45] x2.2=_:=hr3
     obtain⟨⟨u,pv,rfl⟩,hb⟩:=h3
     have HB9:=zh hb
     have e9:R=.error .die:=by
      rw[<-HT.out]
      show(do let r<-txE E (· ==1) q;_)=_
      rw[HR2.out]
      show(do let z<-sgE E 9 [45] x2.2;_)=_
      rw[hr3];rfl
     subst e9
     clear hb hr3
     go_wp2_with fail
     exact⟨rfl,⟨_,_,rfl⟩,HB9.out⟩
    ·rw[hr3]at h3
     replace hr3:sgE E 9 [45] x2.2=_:=hr3
     have HR3:=zh hr3
     obtain⟨rfl,hm,hx⟩:=h3
     have H3:=zh hm
     have X3:=zh (X2.out.trans hx)
     clear hm hx hr3
     have e8:R=if b then tyL E m j else .ok j:=by
      rw[<-HT.out]
      show(do let r<-txE E (· ==1) q;_)=_
      rw[HR2.out]
      show(do let z<-sgE E 9 [45] x2.2;_)=_
      rw[HR3.out];rfl
     have HE8:=zh e8
     clear e8
     cases b
     ·have e9:R=.ok j:=HE8.out
      subst e9
      go_wp2_with fail
      rw[qcl]
      go_end0
      exact⟨rfl,H3.out,X3.out⟩
     ·have HE9:=zh (show tyL E m j=R from HE8.out.symm)
      go_wp2_with fail
      go_step3
      exact⟨rfl,m,Nat.lt_succ_self m,j,HE9,H3,X3,_,_,_,_,_,_,rfl⟩
 ·intro hp
  go_wp2_with fail
  go_step3
  rename_i hK
  exact hK _ _ (hp f _ _ ⟨σ.i,HR.out ▸ zh rfl,H0,zh (MX.refl _ _ _ _ _),_,_,_,_,_,_,rfl⟩)
theorem MM.got1At{W':World}(h:MM W0 g s E tv W L σ){j:Nat}{x:Nd}(hx:σ.N[j]?=some (some x))(c:Array Value)(hc:W.heap[L.A j]?=some (.cells c 29 (0,0)))(hb:Below W.heap.size W W')(k:Int)(t:ByteArray)(R B:Nat)(hR:W.heap.size<=R)(hB:W.heap.size<=B)(hne:B≠R)
 (hrow:W'.heap[R]?=some (.cells c 29 (0,0))) (hN:NdB W' B k t (.slice (some ⟨R,0,none⟩) 1 1) false false (.slice none 0 0) (.slice none 0 0)):
 ∃M,MM W0 g s E tv (W'.setCell ⟨g,5,none⟩ (.pointer (some ⟨B,0,none⟩))) M ((σ.mv j).got (nkt k t [x]))/\MX W0.heap.size W L σ.N.length σ.C.length (W'.setCell ⟨g,5,none⟩ (.pointer (some ⟨B,0,none⟩))) M ((σ.mv j).got (nkt k t [x])).N.length ((σ.mv j).got (nkt k t [x])).C.length:=by
 obtain⟨M,h1,h2,h3⟩:=h.new1At hx c hc hb k t R B hR hB hne hrow hN
 have hl:((σ.mv j).new (nkt k t [x])).N.length=σ.N.length+1:=by show((σ.N.set j none)++[_]).length=_;rw[List.length_append,List.length_set];rfl
 obtain⟨h4,h5⟩:=h1.setIs (n:=σ.N.length) (by rw[hl];omega)
 rw[h3]at h4 h5
 have e:(((σ.mv j).new (nkt k t [x])).is σ.N.length)=(σ.mv j).got (nkt k t [x]):=by
  unfold PM.got
  rw[show(σ.mv j).N.length=σ.N.length from List.length_set]
 rw[e]at h4
 exact⟨M,h4,h2.trans h5⟩
theorem qpf{E:Env}{k:Int}{s:Bs}{i j:Nat}(h:sgE E k s i=.ok (true,j)):i<j:=by
 unfold sgE at h
 split at h
 ·cases e:tkE E i with
  | error b=>rw[e]at h;cases h
  | ok q=>
   rw[e]at h
   have h2:=Except.ok.inj h
   have h3:q=j:=congrArg Prod.snd h2
   subst h3
   unfold tkE at e
   split at e
   ·have:=Except.ok.inj e;omega
   ·cases e
 ·have h2:=Except.ok.inj h
  have:=congrArg Prod.fst h2
  cases this
theorem qqg(E:Env): ∀(f i j:Nat),tyL E f i=.ok j->i<=j
 | 0,_,_,h=>by cases h
 | f+1,i,j,h=>by
  have h0:(do let r<-txE E (· ==1) i;let q<-sgE E 9 [45] r.2;if q.1 then tyL E f q.2 else .ok q.2)=Except.ok j:=h
  cases h1:txE E (· ==1) i with
  | error b=>rw[h1]at h0;cases h0
  | ok r=>
   rw[h1]at h0
   have h2':(do let q<-sgE E 9 [45] r.2;if q.1 then tyL E f q.2 else .ok q.2)=Except.ok j:=h0
   cases h2:sgE E 9 [45] r.2 with
   | error b=>rw[h2]at h2';cases h2'
   | ok q=>
    rw[h2]at h2'
    have h3:(if q.1 then tyL E f q.2 else .ok q.2)=Except.ok j:=h2'
    have a1:=qdx h1
    have a2:=qhb h2
    split at h3
    ·have:=qqg E f _ _ h3;omega
    ·have:=Except.ok.inj h3;omega
theorem qle{E:Env}{f i:Nat}{e:Bad}(h:tyL E f i=.error e)(hn:tyL E f i≠ .error .stuck):tyL E f i=.error .die/\tyL E f i=.error e:=by
 cases e with
 | die=>exact⟨h,h⟩
 | stuck=>exact absurd h hn
theorem qmd(h:MM W0 g s E tv W L σ)(hk:σ.k.length<=274877906944)(hns:stp E .sized σ≠ .error .stuck):
 Calls Tryz.prog 211 #[.pointer (some ⟨g,0,none⟩)] W (SO (stp E .sized σ) W0 g s E tv W L σ.N.length σ.C.length):=by
 obtain⟨R,hR⟩: ∃R:Rs PM,R=stp E .sized σ:=⟨_,rfl⟩
 rw[<-hR]at hns⊢
 have HNS:=zh hns
 have HR:=zh hR
 have H0:=zh h
 have X0:=zh (MX.refl W0.heap.size W L σ.N.length σ.C.length)
 have HK:=zh hk
 clear h hR hk hns
 try unfold ptr
 go_enter Tryz.func211,Tryz.ntmps211
 obtain⟨-,-,g2⟩:=H0.out.gcell
 have g2':W.cell? ⟨g,2,none⟩=some (.int .i64 (σ.i:Int)):=g2
 clear g2
 go_wp2_with fail
 have q1:=qd1 H0.out [58]
 try unfold ptr at q1
 refine q1.mono ?_
 clear q1
 intro e w1 h1
 rcases hr1:sgE E 9 [58] σ.i with x9 | ⟨b,j1⟩
 ·obtain rfl:=qaw (by first | exact qae hr1 | exact qag hr1 | exact qaf hr1)
  rw[hr1]at h1
  obtain⟨⟨u,pv,rfl⟩,hb⟩:=h1
  have HB9:=zh hb
  have HR1:=zh hr1
  have e9:R=.error .die:=by
   have hr1:=HR1.out;rw[HR.out];try simp[stp,hr1,bind,Except.bind,pure,Except.pure,Except.map]
  subst e9
  clear hb hr1
  go_wp2_with fail
  exact⟨rfl,⟨_,_,rfl⟩,HB9.out⟩
 ·rw[hr1]at h1
  have HR1:=zh hr1
  obtain⟨rfl,hm,hx⟩:=h1
  have H1:=zh hm
  have Y1:=zh hx
  have X1:=zh (X0.out.trans Y1.out)
  clear hm hx hr1
  cases b
  ·obtain rfl:=qdj HR1.out
   go_wp2_with fail
   have q2:=qd1 (σ:=σ) H1.out [47]
   try unfold ptr at q2
   refine q2.mono ?_
   clear q2
   intro e w2 h2
   rcases hr2:sgE E 9 [47] σ.i with x9 | ⟨b,j2⟩
   ·obtain rfl:=qaw (by first | exact qae hr2 | exact qag hr2 | exact qaf hr2)
    rw[hr2]at h2
    obtain⟨⟨u,pv,rfl⟩,hb⟩:=h2
    have HB9:=zh hb
    have HR2:=zh hr2
    have e9:R=.error .die:=by
     have hr1:=HR1.out;have hr2:=HR2.out;rw[HR.out];try simp[stp,hr1,hr2,bind,Except.bind,pure,Except.pure,Except.map]
    subst e9
    clear hb hr2
    go_wp2_with fail
    exact⟨rfl,⟨_,_,rfl⟩,HB9.out⟩
   ·rw[hr2]at h2
    have HR2:=zh hr2
    obtain⟨rfl,hm,hx⟩:=h2
    have H2:=zh hm
    have Y2:=zh hx
    have X2:=zh (X1.out.trans Y2.out)
    clear hm hx hr2
    cases b
    ·obtain rfl:=qdj HR2.out
     obtain⟨-,-,g29⟩:=H2.out.gcell
     have g2':w2.cell? ⟨g,2,none⟩=some (.int .i64 (σ.i:Int)):=g29
     clear g29
     have hltI: ¬((σ.i:Nat):Int)> ((σ.i:Nat):Int):=by omega
     have e9:R=.ok (σ):=by
      have hr1:=HR1.out;have hr2:=HR2.out;rw[HR.out];try simp[stp,hr1,hr2,bind,Except.bind,pure,Except.pure,Except.map]
     subst e9
     go_wp2_with fail
     go_end0
     exact⟨rfl,L,H2.out,X2.out⟩
    ·skip
     have hty:tyL E (E.to+2) j2≠ .error .stuck:=fun h9=>absurd (by have hr1:=HR1.out;have hr2:=HR2.out;rw[HR.out];simp[stp,bind,Except.bind,pure,Except.pure,Except.map,hr1,hr2,h9]) HNS.out
     go_wp2_with fail
     have q3:=qtu (σ:=(σ.at_ j2)) H2.out (E.to+2) hty
     try unfold ptr at q3
     refine q3.mono ?_
     clear q3
     intro e w3 h3
     rcases hr3:tyL E (E.to+2) (σ.at_ j2).i with x9 | d
     ·obtain rfl:=qaw (by first | exact qle hr3 hty | exact qae hr3 | exact qag hr3 | exact qaf hr3)
      rw[hr3]at h3
      replace hr3:tyL E (E.to+2) j2=_:=hr3
      obtain⟨⟨u,pv,rfl⟩,hb⟩:=h3
      have HB9:=zh hb
      have HR3:=zh hr3
      have e9:R=.error .die:=by
       have hr1:=HR1.out;have hr2:=HR2.out;have hr3:=HR3.out;rw[HR.out];try simp[stp,hr1,hr2,hr3,bind,Except.bind,pure,Except.pure,Except.map]
      subst e9
      clear hb hr3
      go_wp2_with fail
      exact⟨rfl,⟨_,_,rfl⟩,HB9.out⟩
     ·rw[hr3]at h3
      replace hr3:tyL E (E.to+2) j2=_:=hr3
      have HR3:=zh hr3
      obtain⟨rfl,hm,hx⟩:=h3
      have H3:=zh hm
      have Y3:=zh hx
      have X3:=zh (X2.out.trans Y3.out)
      clear hm hx hr3
      have hlt9:σ.i<d:=Nat.lt_of_lt_of_le (qpf HR2.out) (qqg E _ _ _ HR3.out)
      have HLT:=zh hlt9
      have hltI:(d:Int)> ((σ.i:Nat):Int):=by omega
      obtain⟨-,-,g29⟩:=H3.out.gcell
      have g2':w3.cell? ⟨g,2,none⟩=some (.int .i64 (d:Int)):=g29
      clear g29
      rcases hcu:σ.cur with b9 | ⟨j,x⟩
      ·obtain rfl:=qcn hcu
       exact absurd (by have hr1:=HR1.out;have hr2:=HR2.out;have hr3:=HR3.out;have hlt9:=HLT.out;rw[HR.out];simp[stp,hcu,bind,Except.bind,pure,Except.pure,Except.map,hr1,hr2,hr3,hlt9]) HNS.out
      have HCU:=zh hcu
      obtain⟨hn_j,hx_j⟩:=qda hcu
      have HX_j:=zh hx_j
      have HN_j:=zh hn_j
      clear hcu hn_j hx_j
      obtain⟨ka,ta,la,ra,qa,na,va,hNd,⟨la1,la2,la3,rfl⟩,⟨na1,na2,na3,rfl⟩,⟨va1,va2,va3,rfl⟩⟩:=H3.out.ncellsA (n:=j) (x:=x) HX_j.out
      have HND9:=zh hNd
      have hg5:w3.cell? ⟨g,5,none⟩=some (.pointer (some ⟨L.A j,0,none⟩)):=H3.out.gcur HN_j.out
      have hgl:=H3.out.glt
      have hnl:=hNd.lt
      have hgf:=H3.out.gcell.2.1 5
      have HS9:Hid (∀w',Below w3.heap.size w3 w'->(NdB w' (L.A j) ka ta (.slice la1 la2 la3) ra qa (.slice na1 na2 na3) (.slice va1 va2 va3)/\w'.cell? ⟨g,5,none⟩=some (.pointer (some ⟨L.A j,0,none⟩))/\w'.frozen? ⟨g,5,none⟩=false)):=zh (fun w' hw=>⟨(hw.block _ hnl).trans hNd,(hw.cell (p:=⟨g,5,none⟩) hgl).trans hg5,(hw.frozen (p:=⟨g,5,none⟩) hgl).trans hgf⟩)
      have HSN:Hid (∀w',Below w3.heap.size w3 w'->Calls Tryz.prog 180 #[.pointer (some ⟨g,0,none⟩),.int .i64 ((σ.i:Nat):Int)] w' fun e w2=>e=.returned (.string (scE E (d-σ.i) σ.i))/\Below w3.heap.size w3 w2/\Below w'.heap.size w' w2):=zh (fun w' hw=>(qhc (σ:=(σ.at_ d)) (MM.below (σ:=(σ.at_ d)) H3.out hw) σ.i d rfl (Nat.le_of_lt HLT.out)).mono (fun e w2 h9=>⟨h9.1,hw.trans (h9.2.mono hw.size),h9.2⟩))
      have HF:=zh (fun w' R B h1 h2 h3 h4 h5 h6=>MM.got1At (W':=w') (σ:=(σ.at_ d)) H3.out HX_j.out _ HND9.out h1 7 (scE E (d-σ.i) σ.i) R B h2 h3 h4 h5 h6)
      obtain⟨m0_1,m1_1,m2_1,m3_1,m4_1,m5_1,m6_1⟩:=hNd.cells
      clear hNd hgl hnl hlt9
      have e9:R=.ok (((σ.mv j).at_ d).got (nkt 7 (scE E (d-σ.i) σ.i) [x])):=by
       have hr1:=HR1.out;have hr2:=HR2.out;have hr3:=HR3.out;have hlt9:=HLT.out;have hcu9:=HCU.out;rw[HR.out];try simp[stp,hcu9,bind,Except.bind,pure,Except.pure,Except.map,hr1,hr2,hr3,hlt9]
      subst e9
      go_wp2_with fail
      go_region_with (go_at_call 180;refine(HSN.out _ (by first | exact Below.refl _ _ | exact qac _ _ | exact zA (Below.refl _ _) | exact zA (qac _ _) | exact(qac _ _).alloc (qac _ _).size _ | exact(zA (Below.refl _ _)).alloc (zA (Below.refl _ _)).size _)).mono ?_;rintro e w9 ⟨rfl,hb2,hb3⟩;have HB2:=zh hb2;have HB3:=zh hb3;obtain⟨gA,fA⟩:=(HS9.out _ ((hb2.alloc hb2.size (.cells #[.int .i64 ka,.string ta,.slice la1 la2 la3,.bool ra,.bool qa,.slice na1 na2 na3,.slice va1 va2 va3] 29)).alloc (hb2.alloc hb2.size (.cells #[.int .i64 ka,.string ta,.slice la1 la2 la3,.bool ra,.bool qa,.slice na1 na2 na3,.slice va1 va2 va3] 29)).size (.cells #[.int .i64 7,.string (scE E (d-σ.i) σ.i),.slice (some ⟨w9.heap.size,0,none⟩) 1 1,.bool false,.bool false,.slice none 0 0,.slice none 0 0] 29))).2;obtain⟨gB,fB⟩:=(HS9.out _ (hb2.alloc hb2.size (.cells #[.int .i64 7,.string (scE E (d-σ.i) σ.i),.slice (some ⟨w3.heap.size,0,none⟩) 1 1,.bool false,.bool false,.slice none 0 0,.slice none 0 0] 29))).2;obtain⟨n9,g59,gf9⟩:=HS9.out _ hb2;obtain⟨z0,z1,z2,z3,z4,z5,z6⟩:=n9.cells;clear hb2 hb3 n9)
      all_goals go_end0
      ·have hb9:=HB2.out.trans ((qai w9 [.cells #[.int .i64 ka,.string ta,.slice la1 la2 la3,.bool ra,.bool qa,.slice na1 na2 na3,.slice va1 va2 va3] 29,.cells #[.int .i64 7,.string (scE E (d-σ.i) σ.i),.slice (some ⟨w9.heap.size,0,none⟩) 1 1,.bool false,.bool false,.slice none 0 0,.slice none 0 0] 29]).mono HB2.out.size)
       obtain⟨M,m1,m2⟩:=HF.out _ w9.heap.size (w9.heap.size+1) hb9 HB2.out.size (zB HB2.out.size) (by omega) (qb4 w9 _ 0 _ rfl) (qb4 w9 _ 1 _ rfl)
       exact⟨rfl,M,m1,X3.out.trans m2⟩
      ·have hb9:=HB2.out.trans ((qai w9 [.cells #[.int .i64 ka,.string ta,.slice la1 la2 la3,.bool ra,.bool qa,.slice na1 na2 na3,.slice va1 va2 va3] 29,.cells #[.int .i64 7,.string (scE E (d-σ.i) σ.i),.slice (some ⟨w9.heap.size,0,none⟩) 1 1,.bool false,.bool false,.slice none 0 0,.slice none 0 0] 29]).mono HB2.out.size)
       obtain⟨M,m1,m2⟩:=HF.out _ w9.heap.size (w9.heap.size+1) hb9 HB2.out.size (zB HB2.out.size) (by omega) (qb4 w9 _ 0 _ rfl) (qb4 w9 _ 1 _ rfl)
       exact⟨rfl,M,m1,X3.out.trans m2⟩
      ·have hb9:=HB2.out.trans ((qai w9 [.cells #[.int .i64 ka,.string ta,.slice la1 la2 la3,.bool ra,.bool qa,.slice na1 na2 na3,.slice va1 va2 va3] 29,.cells #[.int .i64 7,.string (scE E (d-σ.i) σ.i),.slice (some ⟨w9.heap.size,0,none⟩) 1 1,.bool false,.bool false,.slice none 0 0,.slice none 0 0] 29]).mono HB2.out.size)
       obtain⟨M,m1,m2⟩:=HF.out _ w9.heap.size (w9.heap.size+1) hb9 HB2.out.size (zB HB2.out.size) (by omega) (qb4 w9 _ 0 _ rfl) (qb4 w9 _ 1 _ rfl)
       exact⟨rfl,M,m1,X3.out.trans m2⟩
      ·have hb9:=HB2.out.alloc HB2.out.size (.cells #[.int .i64 7,.string (scE E (d-σ.i) σ.i),.slice (some ⟨w3.heap.size,0,none⟩) 1 1,.bool false,.bool false,.slice none 0 0,.slice none 0 0] 29)
       have hsz:w3.heap.size<w9.heap.size:=by
        have:=HB3.out.size
        simp at this;omega
       have hr:w9.heap[w3.heap.size]?=some (.cells #[.int .i64 ka,.string ta,.slice la1 la2 la3,.bool ra,.bool qa,.slice na1 na2 na3,.slice va1 va2 va3] 29 (0,0)):=(HB3.out.block w3.heap.size (by simp)).trans (qbe w3.drew _)
       obtain⟨M,m1,m2⟩:=HF.out _ w3.heap.size w9.heap.size hb9 (Nat.le_refl _) HB2.out.size (by omega) ((qmi w9 _ hsz).trans hr) (qbe w9 _)
       exact⟨rfl,M,m1,X3.out.trans m2⟩
  ·skip
   go_wp2_with fail
   have q4:=qjb (σ:=(σ.at_ j1)) H1.out
   try unfold ptr at q4
   refine q4.mono ?_
   clear q4
   intro e w4 h4
   rcases hr4:txE E szk (σ.at_ j1).i with x9 | x2
   ·obtain rfl:=qaw (by first | exact qae hr4 | exact qag hr4 | exact qaf hr4)
    rw[hr4]at h4
    replace hr4:txE E szk j1=_:=hr4
    obtain⟨⟨u,pv,rfl⟩,hb⟩:=h4
    have HB9:=zh hb
    have HR4:=zh hr4
    have e9:R=.error .die:=by
     have hr1:=HR1.out;have hr4:=HR4.out;rw[HR.out];try simp[stp,hr1,hr4,bind,Except.bind,pure,Except.pure,Except.map]
    subst e9
    clear hb hr4
    go_wp2_with fail
    exact⟨rfl,⟨_,_,rfl⟩,HB9.out⟩
   ·rw[hr4]at h4
    replace hr4:txE E szk j1=_:=hr4
    have HR4:=zh hr4
    obtain⟨rfl,hm,hx⟩:=h4
    have H4:=zh hm
    have Y4:=zh hx
    have X4:=zh (X1.out.trans Y4.out)
    clear hm hx hr4
    go_wp2_with fail
    have q5:=qd1 (σ:=(σ.at_ x2.2)) H4.out [47]
    try unfold ptr at q5
    refine q5.mono ?_
    clear q5
    intro e w5 h5
    rcases hr5:sgE E 9 [47] (σ.at_ x2.2).i with x9 | ⟨b,j2⟩
    ·obtain rfl:=qaw (by first | exact qae hr5 | exact qag hr5 | exact qaf hr5)
     rw[hr5]at h5
     replace hr5:sgE E 9 [47] x2.2=_:=hr5
     obtain⟨⟨u,pv,rfl⟩,hb⟩:=h5
     have HB9:=zh hb
     have HR5:=zh hr5
     have e9:R=.error .die:=by
      have hr1:=HR1.out;have hr4:=HR4.out;have hr5:=HR5.out;rw[HR.out];try simp[stp,hr1,hr4,hr5,bind,Except.bind,pure,Except.pure,Except.map]
     subst e9
     clear hb hr5
     go_wp2_with fail
     exact⟨rfl,⟨_,_,rfl⟩,HB9.out⟩
    ·rw[hr5]at h5
     replace hr5:sgE E 9 [47] x2.2=_:=hr5
     have HR5:=zh hr5
     obtain⟨rfl,hm,hx⟩:=h5
     have H5:=zh hm
     have Y5:=zh hx
     have X5:=zh (X4.out.trans Y5.out)
     clear hm hx hr5
     cases b
     ·obtain rfl:=qdj HR5.out
      have hlt9:σ.i<x2.2:=Nat.lt_of_lt_of_le (qpf HR1.out) (qdx HR4.out)
      have HLT:=zh hlt9
      have hltI:(x2.2:Int)> ((σ.i:Nat):Int):=by omega
      obtain⟨-,-,g29⟩:=H5.out.gcell
      have g2':w5.cell? ⟨g,2,none⟩=some (.int .i64 (x2.2:Int)):=g29
      clear g29
      rcases hcu:σ.cur with b9 | ⟨j,x⟩
      ·obtain rfl:=qcn hcu
       exact absurd (by have hr1:=HR1.out;have hr4:=HR4.out;have hr5:=HR5.out;have hlt9:=HLT.out;rw[HR.out];simp[stp,hcu,bind,Except.bind,pure,Except.pure,Except.map,hr1,hr4,hr5,hlt9]) HNS.out
      have HCU:=zh hcu
      obtain⟨hn_j,hx_j⟩:=qda hcu
      have HX_j:=zh hx_j
      have HN_j:=zh hn_j
      clear hcu hn_j hx_j
      obtain⟨ka,ta,la,ra,qa,na,va,hNd,⟨la1,la2,la3,rfl⟩,⟨na1,na2,na3,rfl⟩,⟨va1,va2,va3,rfl⟩⟩:=H5.out.ncellsA (n:=j) (x:=x) HX_j.out
      have HND9:=zh hNd
      have hg5:w5.cell? ⟨g,5,none⟩=some (.pointer (some ⟨L.A j,0,none⟩)):=H5.out.gcur HN_j.out
      have hgl:=H5.out.glt
      have hnl:=hNd.lt
      have hgf:=H5.out.gcell.2.1 5
      have HS9:Hid (∀w',Below w5.heap.size w5 w'->(NdB w' (L.A j) ka ta (.slice la1 la2 la3) ra qa (.slice na1 na2 na3) (.slice va1 va2 va3)/\w'.cell? ⟨g,5,none⟩=some (.pointer (some ⟨L.A j,0,none⟩))/\w'.frozen? ⟨g,5,none⟩=false)):=zh (fun w' hw=>⟨(hw.block _ hnl).trans hNd,(hw.cell (p:=⟨g,5,none⟩) hgl).trans hg5,(hw.frozen (p:=⟨g,5,none⟩) hgl).trans hgf⟩)
      have HSN:Hid (∀w',Below w5.heap.size w5 w'->Calls Tryz.prog 180 #[.pointer (some ⟨g,0,none⟩),.int .i64 ((σ.i:Nat):Int)] w' fun e w2=>e=.returned (.string (scE E (x2.2-σ.i) σ.i))/\Below w5.heap.size w5 w2/\Below w'.heap.size w' w2):=zh (fun w' hw=>(qhc (σ:=(σ.at_ x2.2)) (MM.below (σ:=(σ.at_ x2.2)) H5.out hw) σ.i x2.2 rfl (Nat.le_of_lt HLT.out)).mono (fun e w2 h9=>⟨h9.1,hw.trans (h9.2.mono hw.size),h9.2⟩))
      have HF:=zh (fun w' R B h1 h2 h3 h4 h5 h6=>MM.got1At (W':=w') (σ:=(σ.at_ x2.2)) H5.out HX_j.out _ HND9.out h1 7 (scE E (x2.2-σ.i) σ.i) R B h2 h3 h4 h5 h6)
      obtain⟨m0_1,m1_1,m2_1,m3_1,m4_1,m5_1,m6_1⟩:=hNd.cells
      clear hNd hgl hnl hlt9
      have e9:R=.ok (((σ.mv j).at_ x2.2).got (nkt 7 (scE E (x2.2-σ.i) σ.i) [x])):=by
       have hr1:=HR1.out;have hr4:=HR4.out;have hr5:=HR5.out;have hlt9:=HLT.out;have hcu9:=HCU.out;rw[HR.out];try simp[stp,hcu9,bind,Except.bind,pure,Except.pure,Except.map,hr1,hr4,hr5,hlt9]
      subst e9
      go_wp2_with fail
      go_region_with (go_at_call 180;refine(HSN.out _ (by first | exact Below.refl _ _ | exact qac _ _ | exact zA (Below.refl _ _) | exact zA (qac _ _) | exact(qac _ _).alloc (qac _ _).size _ | exact(zA (Below.refl _ _)).alloc (zA (Below.refl _ _)).size _)).mono ?_;rintro e w9 ⟨rfl,hb2,hb3⟩;have HB2:=zh hb2;have HB3:=zh hb3;obtain⟨gA,fA⟩:=(HS9.out _ ((hb2.alloc hb2.size (.cells #[.int .i64 ka,.string ta,.slice la1 la2 la3,.bool ra,.bool qa,.slice na1 na2 na3,.slice va1 va2 va3] 29)).alloc (hb2.alloc hb2.size (.cells #[.int .i64 ka,.string ta,.slice la1 la2 la3,.bool ra,.bool qa,.slice na1 na2 na3,.slice va1 va2 va3] 29)).size (.cells #[.int .i64 7,.string (scE E (x2.2-σ.i) σ.i),.slice (some ⟨w9.heap.size,0,none⟩) 1 1,.bool false,.bool false,.slice none 0 0,.slice none 0 0] 29))).2;obtain⟨gB,fB⟩:=(HS9.out _ (hb2.alloc hb2.size (.cells #[.int .i64 7,.string (scE E (x2.2-σ.i) σ.i),.slice (some ⟨w5.heap.size,0,none⟩) 1 1,.bool false,.bool false,.slice none 0 0,.slice none 0 0] 29))).2;obtain⟨n9,g59,gf9⟩:=HS9.out _ hb2;obtain⟨z0,z1,z2,z3,z4,z5,z6⟩:=n9.cells;clear hb2 hb3 n9)
      all_goals go_end0
      ·have hb9:=HB2.out.trans ((qai w9 [.cells #[.int .i64 ka,.string ta,.slice la1 la2 la3,.bool ra,.bool qa,.slice na1 na2 na3,.slice va1 va2 va3] 29,.cells #[.int .i64 7,.string (scE E (x2.2-σ.i) σ.i),.slice (some ⟨w9.heap.size,0,none⟩) 1 1,.bool false,.bool false,.slice none 0 0,.slice none 0 0] 29]).mono HB2.out.size)
       obtain⟨M,m1,m2⟩:=HF.out _ w9.heap.size (w9.heap.size+1) hb9 HB2.out.size (zB HB2.out.size) (by omega) (qb4 w9 _ 0 _ rfl) (qb4 w9 _ 1 _ rfl)
       exact⟨rfl,M,m1,X5.out.trans m2⟩
      ·have hb9:=HB2.out.trans ((qai w9 [.cells #[.int .i64 ka,.string ta,.slice la1 la2 la3,.bool ra,.bool qa,.slice na1 na2 na3,.slice va1 va2 va3] 29,.cells #[.int .i64 7,.string (scE E (x2.2-σ.i) σ.i),.slice (some ⟨w9.heap.size,0,none⟩) 1 1,.bool false,.bool false,.slice none 0 0,.slice none 0 0] 29]).mono HB2.out.size)
       obtain⟨M,m1,m2⟩:=HF.out _ w9.heap.size (w9.heap.size+1) hb9 HB2.out.size (zB HB2.out.size) (by omega) (qb4 w9 _ 0 _ rfl) (qb4 w9 _ 1 _ rfl)
       exact⟨rfl,M,m1,X5.out.trans m2⟩
      ·have hb9:=HB2.out.trans ((qai w9 [.cells #[.int .i64 ka,.string ta,.slice la1 la2 la3,.bool ra,.bool qa,.slice na1 na2 na3,.slice va1 va2 va3] 29,.cells #[.int .i64 7,.string (scE E (x2.2-σ.i) σ.i),.slice (some ⟨w9.heap.size,0,none⟩) 1 1,.bool false,.bool false,.slice none 0 0,.slice none 0 0] 29]).mono HB2.out.size)
       obtain⟨M,m1,m2⟩:=HF.out _ w9.heap.size (w9.heap.size+1) hb9 HB2.out.size (zB HB2.out.size) (by omega) (qb4 w9 _ 0 _ rfl) (qb4 w9 _ 1 _ rfl)
       exact⟨rfl,M,m1,X5.out.trans m2⟩
      ·have hb9:=HB2.out.alloc HB2.out.size (.cells #[.int .i64 7,.string (scE E (x2.2-σ.i) σ.i),.slice (some ⟨w5.heap.size,0,none⟩) 1 1,.bool false,.bool false,.slice none 0 0,.slice none 0 0] 29)
       have hsz:w5.heap.size<w9.heap.size:=by
        have:=HB3.out.size
        simp at this;omega
       have hr:w9.heap[w5.heap.size]?=some (.cells #[.int .i64 ka,.string ta,.slice la1 la2 la3,.bool ra,.bool qa,.slice na1 na2 na3,.slice va1 va2 va3] 29 (0,0)):=(HB3.out.block w5.heap.size (by simp)).trans (qbe w5.drew _)
       obtain⟨M,m1,m2⟩:=HF.out _ w5.heap.size w9.heap.size hb9 (Nat.le_refl _) HB2.out.size (by omega) ((qmi w9 _ hsz).trans hr) (qbe w9 _)
       exact⟨rfl,M,m1,X5.out.trans m2⟩
     ·skip
      have hty:tyL E (E.to+2) j2≠ .error .stuck:=fun h9=>absurd (by have hr1:=HR1.out;have hr4:=HR4.out;have hr5:=HR5.out;rw[HR.out];simp[stp,bind,Except.bind,pure,Except.pure,Except.map,hr1,hr4,hr5,h9]) HNS.out
      go_wp2_with fail
      have q6:=qtu (σ:=(σ.at_ j2)) H5.out (E.to+2) hty
      try unfold ptr at q6
      refine q6.mono ?_
      clear q6
      intro e w6 h6
      rcases hr6:tyL E (E.to+2) (σ.at_ j2).i with x9 | d
      ·obtain rfl:=qaw (by first | exact qle hr6 hty | exact qae hr6 | exact qag hr6 | exact qaf hr6)
       rw[hr6]at h6
       replace hr6:tyL E (E.to+2) j2=_:=hr6
       obtain⟨⟨u,pv,rfl⟩,hb⟩:=h6
       have HB9:=zh hb
       have HR6:=zh hr6
       have e9:R=.error .die:=by
        have hr1:=HR1.out;have hr4:=HR4.out;have hr5:=HR5.out;have hr6:=HR6.out;rw[HR.out];try simp[stp,hr1,hr4,hr5,hr6,bind,Except.bind,pure,Except.pure,Except.map]
       subst e9
       clear hb hr6
       go_wp2_with fail
       exact⟨rfl,⟨_,_,rfl⟩,HB9.out⟩
      ·rw[hr6]at h6
       replace hr6:tyL E (E.to+2) j2=_:=hr6
       have HR6:=zh hr6
       obtain⟨rfl,hm,hx⟩:=h6
       have H6:=zh hm
       have Y6:=zh hx
       have X6:=zh (X5.out.trans Y6.out)
       clear hm hx hr6
       have hlt9:σ.i<d:=Nat.lt_of_lt_of_le (qpf HR1.out) (Nat.le_trans (qdx HR4.out) (Nat.le_trans (qhb HR5.out) (qqg E _ _ _ HR6.out)))
       have HLT:=zh hlt9
       have hltI:(d:Int)> ((σ.i:Nat):Int):=by omega
       obtain⟨-,-,g29⟩:=H6.out.gcell
       have g2':w6.cell? ⟨g,2,none⟩=some (.int .i64 (d:Int)):=g29
       clear g29
       rcases hcu:σ.cur with b9 | ⟨j,x⟩
       ·obtain rfl:=qcn hcu
        exact absurd (by have hr1:=HR1.out;have hr4:=HR4.out;have hr5:=HR5.out;have hr6:=HR6.out;have hlt9:=HLT.out;rw[HR.out];simp[stp,hcu,bind,Except.bind,pure,Except.pure,Except.map,hr1,hr4,hr5,hr6,hlt9]) HNS.out
       have HCU:=zh hcu
       obtain⟨hn_j,hx_j⟩:=qda hcu
       have HX_j:=zh hx_j
       have HN_j:=zh hn_j
       clear hcu hn_j hx_j
       obtain⟨ka,ta,la,ra,qa,na,va,hNd,⟨la1,la2,la3,rfl⟩,⟨na1,na2,na3,rfl⟩,⟨va1,va2,va3,rfl⟩⟩:=H6.out.ncellsA (n:=j) (x:=x) HX_j.out
       have HND9:=zh hNd
       have hg5:w6.cell? ⟨g,5,none⟩=some (.pointer (some ⟨L.A j,0,none⟩)):=H6.out.gcur HN_j.out
       have hgl:=H6.out.glt
       have hnl:=hNd.lt
       have hgf:=H6.out.gcell.2.1 5
       have HS9:Hid (∀w',Below w6.heap.size w6 w'->(NdB w' (L.A j) ka ta (.slice la1 la2 la3) ra qa (.slice na1 na2 na3) (.slice va1 va2 va3)/\w'.cell? ⟨g,5,none⟩=some (.pointer (some ⟨L.A j,0,none⟩))/\w'.frozen? ⟨g,5,none⟩=false)):=zh (fun w' hw=>⟨(hw.block _ hnl).trans hNd,(hw.cell (p:=⟨g,5,none⟩) hgl).trans hg5,(hw.frozen (p:=⟨g,5,none⟩) hgl).trans hgf⟩)
       have HSN:Hid (∀w',Below w6.heap.size w6 w'->Calls Tryz.prog 180 #[.pointer (some ⟨g,0,none⟩),.int .i64 ((σ.i:Nat):Int)] w' fun e w2=>e=.returned (.string (scE E (d-σ.i) σ.i))/\Below w6.heap.size w6 w2/\Below w'.heap.size w' w2):=zh (fun w' hw=>(qhc (σ:=(σ.at_ d)) (MM.below (σ:=(σ.at_ d)) H6.out hw) σ.i d rfl (Nat.le_of_lt HLT.out)).mono (fun e w2 h9=>⟨h9.1,hw.trans (h9.2.mono hw.size),h9.2⟩))
       have HF:=zh (fun w' R B h1 h2 h3 h4 h5 h6=>MM.got1At (W':=w') (σ:=(σ.at_ d)) H6.out HX_j.out _ HND9.out h1 7 (scE E (d-σ.i) σ.i) R B h2 h3 h4 h5 h6)
       obtain⟨m0_1,m1_1,m2_1,m3_1,m4_1,m5_1,m6_1⟩:=hNd.cells
       clear hNd hgl hnl hlt9
       have e9:R=.ok (((σ.mv j).at_ d).got (nkt 7 (scE E (d-σ.i) σ.i) [x])):=by
        have hr1:=HR1.out;have hr4:=HR4.out;have hr5:=HR5.out;have hr6:=HR6.out;have hlt9:=HLT.out;have hcu9:=HCU.out;rw[HR.out];try simp[stp,hcu9,bind,Except.bind,pure,Except.pure,Except.map,hr1,hr4,hr5,hr6,hlt9]
       subst e9
       go_wp2_with fail
       go_region_with (go_at_call 180;refine(HSN.out _ (by first | exact Below.refl _ _ | exact qac _ _ | exact zA (Below.refl _ _) | exact zA (qac _ _) | exact(qac _ _).alloc (qac _ _).size _ | exact(zA (Below.refl _ _)).alloc (zA (Below.refl _ _)).size _)).mono ?_;rintro e w9 ⟨rfl,hb2,hb3⟩;have HB2:=zh hb2;have HB3:=zh hb3;obtain⟨gA,fA⟩:=(HS9.out _ ((hb2.alloc hb2.size (.cells #[.int .i64 ka,.string ta,.slice la1 la2 la3,.bool ra,.bool qa,.slice na1 na2 na3,.slice va1 va2 va3] 29)).alloc (hb2.alloc hb2.size (.cells #[.int .i64 ka,.string ta,.slice la1 la2 la3,.bool ra,.bool qa,.slice na1 na2 na3,.slice va1 va2 va3] 29)).size (.cells #[.int .i64 7,.string (scE E (d-σ.i) σ.i),.slice (some ⟨w9.heap.size,0,none⟩) 1 1,.bool false,.bool false,.slice none 0 0,.slice none 0 0] 29))).2;obtain⟨gB,fB⟩:=(HS9.out _ (hb2.alloc hb2.size (.cells #[.int .i64 7,.string (scE E (d-σ.i) σ.i),.slice (some ⟨w6.heap.size,0,none⟩) 1 1,.bool false,.bool false,.slice none 0 0,.slice none 0 0] 29))).2;obtain⟨n9,g59,gf9⟩:=HS9.out _ hb2;obtain⟨z0,z1,z2,z3,z4,z5,z6⟩:=n9.cells;clear hb2 hb3 n9)
       all_goals go_end0
       ·have hb9:=HB2.out.trans ((qai w9 [.cells #[.int .i64 ka,.string ta,.slice la1 la2 la3,.bool ra,.bool qa,.slice na1 na2 na3,.slice va1 va2 va3] 29,.cells #[.int .i64 7,.string (scE E (d-σ.i) σ.i),.slice (some ⟨w9.heap.size,0,none⟩) 1 1,.bool false,.bool false,.slice none 0 0,.slice none 0 0] 29]).mono HB2.out.size)
        obtain⟨M,m1,m2⟩:=HF.out _ w9.heap.size (w9.heap.size+1) hb9 HB2.out.size (zB HB2.out.size) (by omega) (qb4 w9 _ 0 _ rfl) (qb4 w9 _ 1 _ rfl)
        exact⟨rfl,M,m1,X6.out.trans m2⟩
       ·have hb9:=HB2.out.trans ((qai w9 [.cells #[.int .i64 ka,.string ta,.slice la1 la2 la3,.bool ra,.bool qa,.slice na1 na2 na3,.slice va1 va2 va3] 29,.cells #[.int .i64 7,.string (scE E (d-σ.i) σ.i),.slice (some ⟨w9.heap.size,0,none⟩) 1 1,.bool false,.bool false,.slice none 0 0,.slice none 0 0] 29]).mono HB2.out.size)
        obtain⟨M,m1,m2⟩:=HF.out _ w9.heap.size (w9.heap.size+1) hb9 HB2.out.size (zB HB2.out.size) (by omega) (qb4 w9 _ 0 _ rfl) (qb4 w9 _ 1 _ rfl)
        exact⟨rfl,M,m1,X6.out.trans m2⟩
       ·have hb9:=HB2.out.trans ((qai w9 [.cells #[.int .i64 ka,.string ta,.slice la1 la2 la3,.bool ra,.bool qa,.slice na1 na2 na3,.slice va1 va2 va3] 29,.cells #[.int .i64 7,.string (scE E (d-σ.i) σ.i),.slice (some ⟨w9.heap.size,0,none⟩) 1 1,.bool false,.bool false,.slice none 0 0,.slice none 0 0] 29]).mono HB2.out.size)
        obtain⟨M,m1,m2⟩:=HF.out _ w9.heap.size (w9.heap.size+1) hb9 HB2.out.size (zB HB2.out.size) (by omega) (qb4 w9 _ 0 _ rfl) (qb4 w9 _ 1 _ rfl)
        exact⟨rfl,M,m1,X6.out.trans m2⟩
       ·have hb9:=HB2.out.alloc HB2.out.size (.cells #[.int .i64 7,.string (scE E (d-σ.i) σ.i),.slice (some ⟨w6.heap.size,0,none⟩) 1 1,.bool false,.bool false,.slice none 0 0,.slice none 0 0] 29)
        have hsz:w6.heap.size<w9.heap.size:=by
         have:=HB3.out.size
         simp at this;omega
        have hr:w9.heap[w6.heap.size]?=some (.cells #[.int .i64 ka,.string ta,.slice la1 la2 la3,.bool ra,.bool qa,.slice na1 na2 na3,.slice va1 va2 va3] 29 (0,0)):=(HB3.out.block w6.heap.size (by simp)).trans (qbe w6.drew _)
        obtain⟨M,m1,m2⟩:=HF.out _ w6.heap.size w9.heap.size hb9 (Nat.le_refl _) HB2.out.size (by omega) ((qmi w9 _ hsz).trans hr) (qbe w9 _)
        exact⟨rfl,M,m1,X6.out.trans m2⟩
end
end Go.Proofs.YtdhadeeajgoedaaGreat
