import Derived.Test.YtdhadeeajgoedaaGreatL08
import Derived.Test.YtdhadeeajgoedaaGreatL39
import Derived.Test.YtdhadeeajgoedaaGreatL40
set_option maxRecDepth 100000
set_option maxHeartbeats 4000000
set_option linter.all false
open Go.RowKit.Below renaming drew→zA
open List renaming getElem_cons_succ→zB,getElem_cons_zero→zC,getElem_toArray→zD,length_replicate→zE,replicate→zF,setIfInBounds_toArray→zG,set_cons_succ→zH,set_cons_zero→zI
open Nat renaming le_trans→zJ,lt_of_lt_of_le→zK
namespace Go.Proofs.YtdhadeeajgoedaaGreat
open Go.RowKit Go.PlainAid
section
variable{W0 W:World}{g:Nat}{s:ByteArray}{E:Env}{tv:Value}{L:PLay}{σ:PM}
theorem MM.chall(h:MM W0 g s E tv W L σ){c:Nat}{ch:Chn}(hc:σ.C[c]?=some ch): ∃ca cc aa ac,(W.cell? ⟨L.B c,0,none⟩=some (.pointer (some ⟨g,0,none⟩))/\W.cell? ⟨L.B c,1,none⟩=some (.int .i64 ch.lv)/\W.cell? ⟨L.B c,2,none⟩=some (.slice ca ch.ct cc)/\W.cell? ⟨L.B c,3,none⟩=some (.slice aa ch.ah.length ac)/\W.cell? ⟨L.B c,4,none⟩=some (.bool ch.st)/\W.cell? ⟨L.B c,5,none⟩=some (lfV L ch.lf)/\W.cell? ⟨L.B c,6,none⟩=some (.int .i64 ch.hs))/\StAt W (.slice ca ch.ct cc) (qf6 ch.ct)/\StAt W (.slice aa ch.ah.length ac) ch.ah/\ ∀j,W.frozen? ⟨L.B c,j,none⟩=false:=by
 obtain⟨-,cv,av,h1,h2,-,h4,-⟩:=h.chs c ch hc
 obtain⟨ca,cc,rfl⟩:=qbj h2
 obtain⟨aa,ac,rfl⟩:=qbj h4
 have e1:(qf6 ch.ct).length=ch.ct:=zE
 rw[e1]at h1 h2
 exact⟨ca,cc,aa,ac,⟨by rw[cell_of_row W _ _ _ _ _ h1];rfl,by rw[cell_of_row W _ _ _ _ _ h1];rfl,by rw[cell_of_row W _ _ _ _ _ h1];rfl,by rw[cell_of_row W _ _ _ _ _ h1];rfl,by rw[cell_of_row W _ _ _ _ _ h1];rfl,by rw[cell_of_row W _ _ _ _ _ h1];rfl,by rw[cell_of_row W _ _ _ _ _ h1];rfl⟩,qfq h2,qfq h4,qaw h1⟩
theorem qic{c:Nat}{x:Chn}(h:σ.C[c]?=some x):σ.ch c=.ok x:=by
 unfold PM.ch;rw[h]
theorem qmf(n:Nat):(qf6 n).reverse=zF n ⟨#[99,97,116,99,104]⟩:=List.reverse_replicate ..
theorem qoy{n:Nat}: ∀X∈qf6 n,X.size<=1048576:=fun X hX=>by
 rw[List.eq_of_mem_replicate hX];decide
theorem qt6: ∀(T:List ByteArray) (n:Nat) (σ:PM) (r:Nat×PM),qfu T n σ=.ok r->r.2.C=σ.C/\r.2.i=σ.i/\r.2.k=σ.k
 | [],_,_,_,h=>by cases h;exact⟨rfl,rfl,rfl⟩
 | a::T,n,σ,r,h=>by
  obtain⟨x,_,h2⟩:=qkl h
  obtain⟨q1,q2,q3⟩:=qt6 T _ _ r h2
  exact⟨q1,q2,q3⟩
theorem qje: ∀(T:List ByteArray) (n:Nat) (σ:PM) (e:Bad),qfu T n σ=.error e->e=.stuck
 | [],_,_,_,h=>by cases h
 | a::T,n,σ,e,h=>by
  have h:(σ.nd n >>= fun x=>qfu T σ.N.length ((σ.mv n).new (nkt 13 a [x])))=.error e:=h
  cases hn:σ.nd n with
  | error b=>rw[hn]at h;cases h;exact qe8 hn
  | ok x=>rw[hn]at h;exact qje T _ _ e h
theorem qsw{i:Nat}{e:Bad}(h:tkE E i=.error e):e=.die:=by
 unfold tkE at h
 split at h
 ·cases h
 ·cases h;rfl
theorem qv4{i:Nat}(h: ¬(bn (opE E i).toList:Int)<1):E.pk i<E.to:=by
 have h1:(nxE E i).1=9\/(nxE E i).1=8:=by
  unfold opE at h
  by_cases e:(nxE E i).1=9\/(nxE E i).1=8
  ·exact e
  ·rw[if_neg e]at h
   exact absurd (by rw[ByteArray.toList_eq];decide) h
 by_cases e:E.pk i<E.to
 ·exact e
 ·rw[qht e]at h1
  rcases h1 with h1 | h1<;>cases h1
theorem qps(h:MM W0 g s E tv W L σ)(hk:σ.k.length<=274877906944){c:Nat}{ch:Chn}(hc:σ.C[c]?=some ch)(hct:ch.ct<=1000000000)(hns:qbr E c σ≠ .error .stuck):
 Calls Tryz.prog 125 #[.pointer (some ⟨L.B c,0,none⟩)] W (SO (qbr E c σ) W0 g s E tv W L σ.N.length σ.C.length):=by
 obtain⟨R,hR⟩: ∃R:Rs PM,R=qbr E c σ:=⟨_,rfl⟩
 rw[<-hR]at hns⊢
 have HR:=zh hR
 have HNS:=zh hns
 have H0:=zh h
 have HK:=zh hk
 have HC:=zh hc
 have HCT:=zh hct
 have X0:=zh (MX.refl W0.heap.size W L σ.N.length σ.C.length)
 clear h hR hk hc hct hns
 cases hlf:ch.lf with
 | none=>exact absurd (by rw[HR.out];show(σ.ch c >>= fun h=>_)=_;rw[qic HC.out];show(match ch.lf with | none=>_ | some l=>_)=_;rw[hlf]) HNS.out
 | some l=>
 have HLF:=zh hlf
 clear hlf
 go_enter Tryz.func125,Tryz.ntmps125
 have hb:=qa1 W (.cells #[.pointer (some ⟨L.B c,0,none⟩)] 85)
 have B_cp:=zh (H0.out.boxT (W.heap.size) (by simp) (.pointer (some ⟨L.B c,0,none⟩)) 85)
 have H1:=zh (H0.out.below hb)
 have Y1:=zh (H0.out.mxb hb)
 have X1:=zh (X0.out.trans Y1.out)
 clear hb
 obtain⟨ca1,cb1,aa1,ab1,⟨c0_1,c1_1,c2_1,c3_1,c4_1,c5_1,c6_1⟩,hca1,hah1,hcf1⟩:=H1.out.chall HC.out
 have HCA1:=zh hca1
 clear hca1 hah1 hcf1 c3_1 c4_1
 rw[HLF.out]at c5_1
 unfold lfV ptr at c5_1
 go_wp2_with fail
 have q2:=qv5 H1.out
 try unfold ptr at q2
 refine q2.mono ?_
 clear q2
 rintro e w2 ⟨rfl,hm,hx⟩
 have H2:=zh hm
 have Y2:=zh hx
 have X2:=zh (X1.out.trans Y2.out)
 have B_cp_2:=zh (Y2.out.box B_cp.out)
 have ccp2:=B_cp_2.out.cellv
 clear hm hx
 clear c0_1 c1_1 c2_1 c5_1 c6_1
 have hb:=qa1 w2 (.cells #[.string (opE E σ.i)] 9)
 have B_op:=zh (H2.out.boxT (w2.heap.size) (by simp) (.string (opE E σ.i)) 9)
 have H3:=zh (H2.out.below hb)
 have Y3:=zh (H2.out.mxb hb)
 have X3:=zh (X2.out.trans Y3.out)
 have B_cp_3:=zh (Y3.out.box B_cp_2.out)
 have ccp3:=B_cp_3.out.cellv
 clear hb
 go_wp2_with fail
 refine(qmu _ _).mono ?_
 rintro e w4 ⟨rfl,hb⟩
 have H4:=zh (H3.out.below hb)
 have Y4:=zh (H3.out.mxb hb)
 have X4:=zh (X3.out.trans Y4.out)
 have B_cp_4:=zh (Y4.out.box B_cp_3.out)
 have ccp4:=B_cp_4.out.cellv
 have B_op_4:=zh (Y4.out.box B_op.out)
 have cop4:=B_op_4.out.cellv
 clear hb
 have hb:=qa1 w4 (.cells #[.int .i64 (bn (opE E σ.i).toList:Int)] 3)
 have B_own:=zh (H4.out.boxT (w4.heap.size) (by simp) (.int .i64 (bn (opE E σ.i).toList:Int)) 3)
 have H5:=zh (H4.out.below hb)
 have Y5:=zh (H4.out.mxb hb)
 have X5:=zh (X4.out.trans Y5.out)
 have B_cp_5:=zh (Y5.out.box B_cp_4.out)
 have ccp5:=B_cp_5.out.cellv
 have B_op_5:=zh (Y5.out.box B_op_4.out)
 have cop5:=B_op_5.out.cellv
 clear hb
 obtain⟨ca5,cb5,aa5,ab5,⟨c0_5,c1_5,c2_5,c3_5,c4_5,c5_5,c6_5⟩,hca5,hah5,hcf5⟩:=H5.out.chall HC.out
 have HCA5:=zh hca5
 clear hca5 hah5 hcf5 c3_5 c4_5
 rw[HLF.out]at c5_5
 unfold lfV ptr at c5_5
 have HQ:Hid (∀ {w':World} {L':PLay} {τ:PM} {nN nC:Nat},MX W0.heap.size (w4.alloc (.cells #[.int .i64 (bn (opE E σ.i).toList:Int)] 3)) L σ.N.length σ.C.length w' L' nN nC->MM W0 g s E tv w' L' τ->τ.C=σ.C->w'.cell? ⟨W.heap.size,0,none⟩=some (.pointer (some ⟨L.B c,0,none⟩))/\w'.cell? ⟨w2.heap.size,0,none⟩=some (.string (opE E σ.i))/\w'.cell? ⟨L.B c,0,none⟩=some (.pointer (some ⟨g,0,none⟩))):=zh (fun hx hm hc=>⟨hx.cell B_cp_5.out,hx.cell B_op_5.out,by have h9:=(hm.chall (c:=c) (ch:=ch) (by rw[hc];exact HC.out));obtain⟨_,_,_,_,⟨h9,-⟩,-⟩:=h9;rw[hx.B c (List.getElem?_eq_some_iff.1 HC.out).1]at h9;exact h9⟩)
 go_upto_region 3 with fail
 go_cut [26]from 11 to 26 (fun v wx=> ∃b,v=.bool b/\Hid (b=(decide ((bn (opE E σ.i).toList:Int)<max ch.lv 1)||decide (ch.hs< (lf (opE E σ.i).toList:Int))))/\Hid (Below ((w4.alloc (.cells #[.int .i64 (bn (opE E σ.i).toList:Int)] 3))).heap.size ((w4.alloc (.cells #[.int .i64 (bn (opE E σ.i).toList:Int)] 3))) wx))
 case first=>
  by_cases h1:(bn (opE E σ.i).toList:Int)<max ch.lv 1
  ·have hd1:decide ((bn (opE E σ.i).toList:Int)<max ch.lv 1)=true:=decide_eq_true h1
   have hd2:(decide ((bn (opE E σ.i).toList:Int)<max ch.lv 1)||decide (ch.hs< (lf (opE E σ.i).toList:Int)))=true:=by rw[hd1];rfl
   have HD2:=zh hd2
   clear h1 hd2
   go_quiet (fail)
   all_goals go_wp2_with fail
   all_goals go_meet
   all_goals exact⟨_,rfl,zh HD2.out.symm,zh (qab _ _)⟩
  ·have hd1:decide ((bn (opE E σ.i).toList:Int)<max ch.lv 1)=false:=decide_eq_false h1
   have hd2:(decide ((bn (opE E σ.i).toList:Int)<max ch.lv 1)||decide (ch.hs< (lf (opE E σ.i).toList:Int)))=decide (ch.hs< (lf (opE E σ.i).toList:Int)):=by rw[hd1];rfl
   have HD2:=zh hd2
   clear h1 hd2
   have hb9:=zA (Below.refl ((w4.alloc (.cells #[.int .i64 (bn (opE E σ.i).toList:Int)] 3))).heap.size ((w4.alloc (.cells #[.int .i64 (bn (opE E σ.i).toList:Int)] 3))))
   have HB9:=zh hb9
   clear hb9
   have HS2:Hid (∀ {w':World},Below ((w4.alloc (.cells #[.int .i64 (bn (opE E σ.i).toList:Int)] 3))).heap.size ((w4.alloc (.cells #[.int .i64 (bn (opE E σ.i).toList:Int)] 3))) w'->w'.cell? ⟨W.heap.size,0,none⟩=some (.pointer (some ⟨L.B c,0,none⟩))/\w'.cell? ⟨w2.heap.size,0,none⟩=some (.string (opE E σ.i))/\w'.cell? ⟨w4.heap.size,0,none⟩=some (.int .i64 (bn (opE E σ.i).toList:Int))/\w'.cell? ⟨L.B c,1,none⟩=some (.int .i64 ch.lv)/\w'.cell? ⟨L.B c,6,none⟩=some (.int .i64 ch.hs)):=zh (fun hb=>by
    have hx:=H5.out.mxb hb
    obtain⟨_,_,_,_,⟨-,h1,-,-,-,-,h6⟩,-⟩:=(H5.out.below hb).chall HC.out
    exact⟨hx.cell B_cp_5.out,hx.cell B_op_5.out,hx.cell B_own.out,h1,h6⟩)
   refine wp_region_noPanic ?_
   refine wp_region_held_drew (S:=(fun w'=>w'.cell? ⟨W.heap.size,0,none⟩=some (.pointer (some ⟨L.B c,0,none⟩))/\w'.cell? ⟨w2.heap.size,0,none⟩=some (.string (opE E σ.i))/\w'.cell? ⟨w4.heap.size,0,none⟩=some (.int .i64 (bn (opE E σ.i).toList:Int))/\w'.cell? ⟨L.B c,1,none⟩=some (.int .i64 ch.lv)/\w'.cell? ⟨L.B c,6,none⟩=some (.int .i64 ch.hs))) (by kernel_rfl) (by(try dsimp only);(first | exact HS2.out HB8.out | exact HS2.out HB9.out)) (fun hHeld=>?_)
   refine tkH (i:=0) (v:=?_) rfl (Or.inl ⟨by rfl,?_⟩) ?_
   rotate_left 1
   ·(intro w' hSw;(try dsimp only at hSw);go_simp;(first | done | with_reducible rfl))
   try simp only[Act.put,zG,zI,zH,zD,zC,zB]
   refine tkH (i:=1) (v:=?_) rfl (Or.inl ⟨by rfl,?_⟩) ?_
   rotate_left 1
   ·(intro w' hSw;(try dsimp only at hSw);go_simp;(first | done | with_reducible rfl))
   try simp only[Act.put,zG,zI,zH,zD,zC,zB]
   refine tkH (i:=2) (v:=?_) rfl (Or.inl ⟨by rfl,?_⟩) ?_
   rotate_left 1
   ·(intro w' hSw;(try dsimp only at hSw);go_simp;(first | done | with_reducible rfl))
   try simp only[Act.put,zG,zI,zH,zD,zC,zB]
   refine tkH (i:=3) (v:=?_) rfl (Or.inl ⟨by rfl,?_⟩) ?_
   rotate_left 1
   ·(intro w' hSw;(try dsimp only at hSw);go_simp;(first | done | with_reducible rfl))
   try simp only[Act.put,zG,zI,zH,zD,zC,zB]
   refine tkH (i:=4) (v:=?_) rfl (Or.inl ⟨by rfl,?_⟩) ?_
   rotate_left 1
   ·(intro w' hSw;(try dsimp only at hSw);go_simp;(first | done | with_reducible rfl))
   try simp only[Act.put,zG,zI,zH,zD,zC,zB]
   refine wpAnyH_ready (rs:=[5]) (by kernel_rfl) (by simp) ?_
   refine(AllReadyH.cons rfl (fun K hK=>?_) AllReadyH.nil)
   go_simp
   try (first | (go_at_call 154;refine(qk8 _ _).mono ?_;rintro e w8 ⟨rfl,hb⟩;have HB8:=zh (HB9.out.trans (hb.mono HB9.out.size));clear hb))
   refine hK.out _ _ (by(try dsimp only);(first | exact HS2.out HB8.out | exact HS2.out HB9.out)) (fun hHeld=>?_)
   clear hK K
   try simp only[Act.put,zG,zI,zH,zD,zC,zB]
   refine tkH (i:=6) (v:=?_) rfl (Or.inl ⟨by rfl,?_⟩) ?_
   rotate_left 1
   ·(intro w' hSw;(try dsimp only at hSw);go_simp;(first | done | with_reducible rfl))
   try simp only[Act.put,zG,zI,zH,zD,zC,zB]
   refine tkH (i:=7) (v:=?_) rfl (Or.inl ⟨by rfl,?_⟩) ?_
   rotate_left 1
   ·(intro w' hSw;(try dsimp only at hSw);go_simp;(first | done | with_reducible rfl))
   try simp only[Act.put,zG,zI,zH,zD,zC,zB]
   refine tkH (i:=8) (v:=?_) rfl (Or.inl ⟨by rfl,?_⟩) ?_
   rotate_left 1
   ·(intro w' hSw;(try dsimp only at hSw);go_simp;(first | done | with_reducible rfl))
   try simp only[Act.put,zG,zI,zH,zD,zC,zB]
   refine tkH (i:=9) (v:=?_) rfl (Or.inl ⟨by rfl,?_⟩) ?_
   rotate_left 1
   ·(intro w' hSw;(try dsimp only at hSw);go_simp;(first | done | with_reducible rfl))
   try simp only[Act.put,zG,zI,zH,zD,zC,zB]
   refine tkH (i:=10) (v:=?_) rfl (Or.inl ⟨by rfl,?_⟩) ?_
   rotate_left 1
   ·(intro w' hSw;(try dsimp only at hSw);go_simp;(first | done | with_reducible rfl))
   try simp only[Act.put,zG,zI,zH,zD,zC,zB]
   refine tkH (i:=11) (v:=?_) rfl (Or.inl ⟨by rfl,?_⟩) ?_
   rotate_left 1
   ·(intro w' hSw;(try dsimp only at hSw);go_simp;(first | done | with_reducible rfl))
   try simp only[Act.put,zG,zI,zH,zD,zC,zB]
   refine tkH (i:=12) (v:=?_) rfl (Or.inl ⟨by rfl,?_⟩) ?_
   rotate_left 1
   ·(intro w' hSw;(try dsimp only at hSw);go_simp;(first | done | with_reducible rfl))
   try simp only[Act.put,zG,zI,zH,zD,zC,zB]
   refine wpAnyH_ready (rs:=[13]) (by kernel_rfl) (by simp) ?_
   refine(AllReadyH.cons rfl (fun K hK=>?_) AllReadyH.nil)
   go_simp
   try (first | (go_at_call 154;refine(qk8 _ _).mono ?_;rintro e w8 ⟨rfl,hb⟩;have HB8:=zh (HB9.out.trans (hb.mono HB9.out.size));clear hb))
   refine hK.out _ _ (by(try dsimp only);(first | exact HS2.out HB8.out | exact HS2.out HB9.out)) (fun hHeld=>?_)
   clear hK K
   try simp only[Act.put,zG,zI,zH,zD,zC,zB]
   refine tkH (i:=14) (v:=?_) rfl (Or.inl ⟨by rfl,?_⟩) ?_
   rotate_left 1
   ·(intro w' hSw;(try dsimp only at hSw);go_simp;(first | done | with_reducible rfl))
   try simp only[Act.put,zG,zI,zH,zD,zC,zB]
   refine tkH (i:=15) (v:=?_) rfl (Or.inl ⟨by rfl,?_⟩) ?_
   rotate_left 1
   ·(intro w' hSw;(try dsimp only at hSw);go_simp;(first | done | with_reducible rfl))
   try simp only[Act.put,zG,zI,zH,zD,zC,zB]
   refine wpAnyH_done (by kernel_rfl) ?_ _
   refine NoPanic.normal ?_
   all_goals go_wp2_with fail
   all_goals go_meet
   all_goals exact⟨_,rfl,zh HD2.out.symm,zh HB8.out⟩
 case rest=>
  obtain⟨b9,rfl,HB9,HW9⟩:=hcut
  clear c0_5 c1_5 c2_5 c5_5 c6_5
  have H6:=zh (H5.out.below HW9.out)
  have Y6:=zh (H5.out.mxb HW9.out)
  have X6:=zh (X5.out.trans Y6.out)
  have B_cp_6:=zh (Y6.out.box B_cp_5.out)
  have ccp6:=B_cp_6.out.cellv
  have B_op_6:=zh (Y6.out.box B_op_5.out)
  have cop6:=B_op_6.out.cellv
  have B_own_6:=zh (Y6.out.box B_own.out)
  have cown6:=B_own_6.out.cellv
  have XQ:=zh (H5.out.mxb HW9.out)
  cases b9 with
  | true=>
   have hcnd:(bn (opE E σ.i).toList:Int)<max ch.lv 1\/ch.hs< (lf (opE E σ.i).toList:Int):=by
    have h9:=HB9.out
    rcases Decidable.em ((bn (opE E σ.i).toList:Int)<max ch.lv 1)with h | h
    ·exact .inl h
    ·rw[decide_eq_false h,Bool.false_or]at h9
     exact .inr (of_decide_eq_true h9.symm)
   have HRU:Hid (R=(qfu (zF ch.ct ⟨#[99,97,116,99,104]⟩) l σ >>= fun r=>.ok (r.2.is r.1))):=zh (by
    rw[HR.out];show(σ.ch c >>= fun h=>_)=_;rw[qic HC.out];show(match ch.lf with | none=>_ | some l=>_)=_;rw[HLF.out];show(if(bn (opE E σ.i).toList:Int)<max ch.lv 1\/ch.hs< (lf (opE E σ.i).toList:Int)then(qfu (zF ch.ct ⟨#[99,97,116,99,104]⟩) l σ >>= fun r=>.ok (r.2.is r.1))else(tkE E σ.i >>= fun j=>.ok ((σ.at_ j).plan [.expr (rt (opE E σ.i).toList:Int),.join c (opE E σ.i) (bn (opE E σ.i).toList)])))=_
    rw[if_pos hcnd])
   clear hcnd
   cases hun:qfu (zF ch.ct ⟨#[99,97,116,99,104]⟩) l σ with
   | error e9=>
    have:=qje _ _ _ _ hun
    subst this
    exact absurd (by rw[HRU.out,hun];rfl) HNS.out
   | ok r9=>
    have HUN:=zh hun
    have HUC:=zh (qt6 _ _ _ _ hun)
    clear hun
    obtain rfl:R=.ok (r9.2.is r9.1):=by
     rw[HRU.out,HUN.out];rfl
    obtain⟨ca6,cb6,aa6,ab6,⟨c0_6,c1_6,c2_6,c3_6,c4_6,c5_6,c6_6⟩,hca6,hah6,hcf6⟩:=H6.out.chall HC.out
    have HCA6:=zh hca6
    clear hca6 hah6 hcf6 c3_6 c4_6
    rw[HLF.out]at c5_6
    unfold lfV ptr at c5_6
    have HLL:=zh (show l<σ.N.length from H6.out.lfb c ch l HC.out HLF.out)
    have hb9:=zA (Below.refl wc.heap.size wc)
    have HD9:=zh hb9
    clear hb9
    have HMD:=zh (H6.out.below HD9.out)
    have HXD:=zh (XQ.out.trans (H6.out.mxb HD9.out))
    obtain⟨caD,cbD,aaD,abD,⟨d0,d1,d2,d3,d4,d5,d6⟩,hcaD,hahD,hcfD⟩:=HMD.out.chall HC.out
    obtain⟨rfl,rfl⟩:caD=ca6/\cbD=cb6:=by
     have h9:wc.drew.cell? ⟨L.B c,2,none⟩=some (.slice ca6 ch.ct cb6):=c2_6
     rw[h9]at d2
     simp only[Option.some.injEq,Value.slice.injEq]at d2
     exact⟨d2.1.symm,d2.2.2.symm⟩
    have HCAD:=zh hcaD
    clear d0 d1 d2 d3 d4 d5 d6 hcaD hahD hcfD
    go_wp2_with fail
    refine wp_region_noPanic ?_
    refine wp_region_held_drew (S:=(fun w'=>w'.cell? ⟨W.heap.size,0,none⟩=some (.pointer (some ⟨L.B c,0,none⟩))/\w'.cell? ⟨w2.heap.size,0,none⟩=some (.string (opE E σ.i))/\w'.cell? ⟨L.B c,0,none⟩=some (.pointer (some ⟨g,0,none⟩)))) (by kernel_rfl) (by(try dsimp only);(first | exact HQ.out XQ8.out HS9.out.1 HUC.out.1 | exact HQ.out XQ7.out H7.out HUC.out.1 | exact HQ.out HXD.out HMD.out rfl)) (fun hHeld=>?_)
    refine tkH (i:=0) (v:=?_) rfl (Or.inl ⟨by rfl,?_⟩) ?_
    rotate_left 1
    ·(intro w' hSw;(try dsimp only at hSw);go_simp;(first | done | with_reducible rfl))
    try simp only[Act.put,zG,zI,zH,zD,zC,zB]
    refine tkH (i:=1) (v:=?_) rfl (Or.inl ⟨by rfl,?_⟩) ?_
    rotate_left 1
    ·(intro w' hSw;(try dsimp only at hSw);go_simp;(first | done | with_reducible rfl))
    try simp only[Act.put,zG,zI,zH,zD,zC,zB]
    refine tkH (i:=2) (v:=?_) rfl (Or.inl ⟨by rfl,?_⟩) ?_
    rotate_left 1
    ·(intro w' hSw;(try dsimp only at hSw);go_simp;(first | done | with_reducible rfl))
    try simp only[Act.put,zG,zI,zH,zD,zC,zB]
    refine tkH (i:=3) (v:=?_) rfl (Or.inl ⟨by rfl,?_⟩) ?_
    rotate_left 1
    ·(intro w' hSw;(try dsimp only at hSw);go_simp;(first | done | with_reducible rfl))
    try simp only[Act.put,zG,zI,zH,zD,zC,zB]
    refine tkH (i:=4) (v:=?_) rfl (Or.inl ⟨by rfl,?_⟩) ?_
    rotate_left 1
    ·(intro w' hSw;(try dsimp only at hSw);go_simp;(first | done | with_reducible rfl))
    try simp only[Act.put,zG,zI,zH,zD,zC,zB]
    refine tkH (i:=5) (v:=?_) rfl (Or.inl ⟨by rfl,?_⟩) ?_
    rotate_left 1
    ·(intro w' hSw;(try dsimp only at hSw);go_simp;(first | done | with_reducible rfl))
    try simp only[Act.put,zG,zI,zH,zD,zC,zB]
    refine tkH (i:=6) (v:=?_) rfl (Or.inl ⟨by rfl,?_⟩) ?_
    rotate_left 1
    ·(intro w' hSw;(try dsimp only at hSw);go_simp;(first | done | with_reducible rfl))
    try simp only[Act.put,zG,zI,zH,zD,zC,zB]
    refine tkH (i:=8) (v:=?_) rfl (Or.inl ⟨by rfl,?_⟩) ?_
    rotate_left 1
    ·(intro w' hSw;(try dsimp only at hSw);go_simp;(first | done | with_reducible rfl))
    try simp only[Act.put,zG,zI,zH,zD,zC,zB]
    refine tkH (i:=9) (v:=?_) rfl (Or.inl ⟨by rfl,?_⟩) ?_
    rotate_left 1
    ·(intro w' hSw;(try dsimp only at hSw);go_simp;(first | done | with_reducible rfl))
    try simp only[Act.put,zG,zI,zH,zD,zC,zB]
    refine tkH (i:=10) (v:=?_) rfl (Or.inl ⟨by rfl,?_⟩) ?_
    rotate_left 1
    ·(intro w' hSw;(try dsimp only at hSw);go_simp;(first | done | with_reducible rfl))
    try simp only[Act.put,zG,zI,zH,zD,zC,zB]
    refine wpAnyH_ready (rs:=[7,11]) (by kernel_rfl) (by simp) ?_
    refine(AllReadyH.cons rfl (fun K hK=>?_) (AllReadyH.cons rfl (fun K hK=>?_) AllReadyH.nil))
    go_simp
    refine hK.out _ _ (by(try dsimp only);(first | exact HQ.out XQ8.out HS9.out.1 HUC.out.1 | exact HQ.out XQ7.out H7.out HUC.out.1 | exact HQ.out HXD.out HMD.out rfl)) (fun hHeld=>?_)
    clear hK K
    try simp only[Act.put,zG,zI,zH,zD,zC,zB]
    refine wpAnyH_ready (rs:=[11]) (by kernel_rfl) (by simp) ?_
    refine(AllReadyH.cons rfl (fun K hK=>?_) AllReadyH.nil)
    go_simp
    refine hK.out _ _ (by(try dsimp only);(first | exact HQ.out XQ8.out HS9.out.1 HUC.out.1 | exact HQ.out XQ7.out H7.out HUC.out.1 | exact HQ.out HXD.out HMD.out rfl)) (fun hHeld=>?_)
    clear hK K
    try simp only[Act.put,zG,zI,zH,zD,zC,zB]
    refine wpAnyH_ready (rs:=[12]) (by kernel_rfl) (by simp) ?_
    refine(AllReadyH.cons rfl (fun K hK=>?_) AllReadyH.nil)
    go_simp
    try (first | (go_at_call 124;have q7:=qna (σ:=σ) HMD.out caD cbD (qf6 ch.ct) (by rw[show(qf6 ch.ct).length=ch.ct from zE];exact HCAD.out) (by rw[show(qf6 ch.ct).length=ch.ct from zE];exact HCT.out) qoy l r9 (by rw[qmf];exact HUN.out) HLL.out;rw[show(qf6 ch.ct).length=ch.ct from zE]at q7;refine q7.mono ?_;clear q7;rintro e w7 ⟨M7,rfl,hm,hx,hl⟩;have gf9:=hm.gcell.2.1 5;obtain⟨⟨np9,g59,-⟩,-,-⟩:=hm.gcell;have hs9:=hm.setIs hl;unfold ptr at hs9;have HS9:=zh hs9;have H7:=zh hm;have XQ7:=zh (HXD.out.trans hx);have XQ8:=zh (XQ7.out.trans HS9.out.2);clear hs9 hm hx hl))
    refine hK.out _ _ (by(try dsimp only);(first | exact HQ.out XQ8.out HS9.out.1 HUC.out.1 | exact HQ.out XQ7.out H7.out HUC.out.1 | exact HQ.out HXD.out HMD.out rfl)) (fun hHeld=>?_)
    clear hK K
    try simp only[Act.put,zG,zI,zH,zD,zC,zB]
    refine tkH (i:=13) (v:=?_) rfl (Or.inl ⟨by rfl,?_⟩) ?_
    rotate_left 1
    ·(intro w' hSw;(try dsimp only at hSw);go_simp;(first | done | with_reducible rfl))
    try simp only[Act.put,zG,zI,zH,zD,zC,zB]
    refine tkH (i:=14) (v:=?_) rfl (Or.inl ⟨by rfl,?_⟩) ?_
    rotate_left 1
    ·(intro w' hSw;(try dsimp only at hSw);go_simp;(first | done | with_reducible rfl))
    try simp only[Act.put,zG,zI,zH,zD,zC,zB]
    refine wpAnyH_ready (rs:=[15]) (by kernel_rfl) (by simp) ?_
    refine(AllReadyH.cons rfl (fun K hK=>?_) AllReadyH.nil)
    go_simp
    refine hK.out _ _ (by(try dsimp only);(first | exact HQ.out XQ8.out HS9.out.1 HUC.out.1 | exact HQ.out XQ7.out H7.out HUC.out.1 | exact HQ.out HXD.out HMD.out rfl)) (fun hHeld=>?_)
    clear hK K
    try simp only[Act.put,zG,zI,zH,zD,zC,zB]
    refine wpAnyH_done (by kernel_rfl) ?_ _
    refine NoPanic.normal ?_
    rotate_left 1
    go_simp
    refine hK.out _ _ (by(try dsimp only);(first | exact HQ.out XQ8.out HS9.out.1 HUC.out.1 | exact HQ.out XQ7.out H7.out HUC.out.1 | exact HQ.out HXD.out HMD.out rfl)) (fun hHeld=>?_)
    clear hK K
    try simp only[Act.put,zG,zI,zH,zD,zC,zB]
    refine wpAnyH_ready (rs:=[7]) (by kernel_rfl) (by simp) ?_
    refine(AllReadyH.cons rfl (fun K hK=>?_) AllReadyH.nil)
    go_simp
    refine hK.out _ _ (by(try dsimp only);(first | exact HQ.out XQ8.out HS9.out.1 HUC.out.1 | exact HQ.out XQ7.out H7.out HUC.out.1 | exact HQ.out HXD.out HMD.out rfl)) (fun hHeld=>?_)
    clear hK K
    try simp only[Act.put,zG,zI,zH,zD,zC,zB]
    refine wpAnyH_ready (rs:=[12]) (by kernel_rfl) (by simp) ?_
    refine(AllReadyH.cons rfl (fun K hK=>?_) AllReadyH.nil)
    go_simp
    try (first | (go_at_call 124;have q7:=qna (σ:=σ) HMD.out caD cbD (qf6 ch.ct) (by rw[show(qf6 ch.ct).length=ch.ct from zE];exact HCAD.out) (by rw[show(qf6 ch.ct).length=ch.ct from zE];exact HCT.out) qoy l r9 (by rw[qmf];exact HUN.out) HLL.out;rw[show(qf6 ch.ct).length=ch.ct from zE]at q7;refine q7.mono ?_;clear q7;rintro e w7 ⟨M7,rfl,hm,hx,hl⟩;have gf9:=hm.gcell.2.1 5;obtain⟨⟨np9,g59,-⟩,-,-⟩:=hm.gcell;have hs9:=hm.setIs hl;unfold ptr at hs9;have HS9:=zh hs9;have H7:=zh hm;have XQ7:=zh (HXD.out.trans hx);have XQ8:=zh (XQ7.out.trans HS9.out.2);clear hs9 hm hx hl))
    refine hK.out _ _ (by(try dsimp only);(first | exact HQ.out XQ8.out HS9.out.1 HUC.out.1 | exact HQ.out XQ7.out H7.out HUC.out.1 | exact HQ.out HXD.out HMD.out rfl)) (fun hHeld=>?_)
    clear hK K
    try simp only[Act.put,zG,zI,zH,zD,zC,zB]
    refine tkH (i:=13) (v:=?_) rfl (Or.inl ⟨by rfl,?_⟩) ?_
    rotate_left 1
    ·(intro w' hSw;(try dsimp only at hSw);go_simp;(first | done | with_reducible rfl))
    try simp only[Act.put,zG,zI,zH,zD,zC,zB]
    refine tkH (i:=14) (v:=?_) rfl (Or.inl ⟨by rfl,?_⟩) ?_
    rotate_left 1
    ·(intro w' hSw;(try dsimp only at hSw);go_simp;(first | done | with_reducible rfl))
    try simp only[Act.put,zG,zI,zH,zD,zC,zB]
    refine wpAnyH_ready (rs:=[15]) (by kernel_rfl) (by simp) ?_
    refine(AllReadyH.cons rfl (fun K hK=>?_) AllReadyH.nil)
    go_simp
    refine hK.out _ _ (by(try dsimp only);(first | exact HQ.out XQ8.out HS9.out.1 HUC.out.1 | exact HQ.out XQ7.out H7.out HUC.out.1 | exact HQ.out HXD.out HMD.out rfl)) (fun hHeld=>?_)
    clear hK K
    try simp only[Act.put,zG,zI,zH,zD,zC,zB]
    refine wpAnyH_done (by kernel_rfl) ?_ _
    refine NoPanic.normal ?_
    all_goals go_wp2_with fail
    all_goals go_end0
    all_goals exact⟨rfl,M7,HS9.out.1,X5.out.trans XQ8.out⟩
  | false=>
   have hcnd: ¬((bn (opE E σ.i).toList:Int)<max ch.lv 1\/ch.hs< (lf (opE E σ.i).toList:Int)):=by
    have h9:=HB9.out
    have h9:=h9.symm
    rw[Bool.or_eq_false_iff]at h9
    exact fun h=>h.elim (of_decide_eq_false h9.1) (of_decide_eq_false h9.2)
   have HPK:=zh (qv4 (E:=E) (i:=σ.i) (fun e=>hcnd (.inl (by have:(1:Int)<=max ch.lv 1:=Int.le_max_right _ _;omega))))
   have HRU:Hid (R=(tkE E σ.i >>= fun j=>.ok ((σ.at_ j).plan [.expr (rt (opE E σ.i).toList:Int),.join c (opE E σ.i) (bn (opE E σ.i).toList)]))):=zh (by
    rw[HR.out];show(σ.ch c >>= fun h=>_)=_;rw[qic HC.out];show(match ch.lf with | none=>_ | some l=>_)=_;rw[HLF.out];show(if(bn (opE E σ.i).toList:Int)<max ch.lv 1\/ch.hs< (lf (opE E σ.i).toList:Int)then(qfu (zF ch.ct ⟨#[99,97,116,99,104]⟩) l σ >>= fun r=>.ok (r.2.is r.1))else(tkE E σ.i >>= fun j=>.ok ((σ.at_ j).plan [.expr (rt (opE E σ.i).toList:Int),.join c (opE E σ.i) (bn (opE E σ.i).toList)])))=_
    rw[if_neg hcnd])
   clear hcnd
   obtain⟨ca6,cb6,aa6,ab6,⟨c0_6,c1_6,c2_6,c3_6,c4_6,c5_6,c6_6⟩,hca6,hah6,hcf6⟩:=H6.out.chall HC.out
   have HCA6:=zh hca6
   clear hca6 hah6 hcf6 c3_6 c4_6
   rw[HLF.out]at c5_6
   unfold lfV ptr at c5_6
   go_wp2_with fail
   have q7:=qvy H6.out HPK.out
   try unfold ptr at q7
   refine q7.mono ?_
   clear q7
   intro e w7 h7
   cases htk:tkE E σ.i with
   | error e9=>
    have:=qsw htk
    subst this
    rw[htk]at h7
    obtain⟨⟨u,pv,rfl⟩,hb⟩:=h7
    have HB8:=zh hb
    obtain rfl:R=.error .die:=by rw[HRU.out,htk];rfl
    clear hb htk
    go_wp2_with fail
    exact⟨rfl,⟨_,_,rfl⟩,HB8.out⟩
   | ok j=>
    rw[htk]at h7
    obtain⟨rfl,hm,hx⟩:=h7
    obtain rfl:R=.ok ((σ.at_ j).plan [.expr (rt (opE E σ.i).toList:Int),.join c (opE E σ.i) (bn (opE E σ.i).toList)]):=by rw[HRU.out,htk];rfl
    clear htk
    clear c0_6 c1_6 c2_6 c5_6 c6_6
    have H7:=zh hm
    have Y7:=zh hx
    have X7:=zh (X6.out.trans Y7.out)
    have B_cp_7:=zh (Y7.out.box B_cp_6.out)
    have ccp7:=B_cp_7.out.cellv
    have B_op_7:=zh (Y7.out.box B_op_6.out)
    have cop7:=B_op_7.out.cellv
    have B_own_7:=zh (Y7.out.box B_own_6.out)
    have cown7:=B_own_7.out.cellv
    clear hm hx
    have XQ2:=zh (XQ.out.trans Y7.out)
    go_wp2_with fail
    have hb:=zA (Below.refl w7.heap.size w7)
    have H8:=zh (H7.out.below hb)
    have Y8:=zh (H7.out.mxb hb)
    have X8:=zh (X7.out.trans Y8.out)
    have B_cp_8:=zh (Y8.out.box B_cp_7.out)
    have ccp8:=B_cp_8.out.cellv
    have B_op_8:=zh (Y8.out.box B_op_7.out)
    have cop8:=B_op_8.out.cellv
    have B_own_8:=zh (Y8.out.box B_own_7.out)
    have cown8:=B_own_8.out.cellv
    clear hb
    have XQ3:=zh (XQ2.out.trans Y8.out)
    go_region_held3 (fun w'=>w'.cell? ⟨W.heap.size,0,none⟩=some (.pointer (some ⟨L.B c,0,none⟩))/\w'.cell? ⟨w2.heap.size,0,none⟩=some (.string (opE E σ.i))/\w'.cell? ⟨L.B c,0,none⟩=some (.pointer (some ⟨g,0,none⟩))) (first | exact HQ.out XQ6.out H12.out rfl | exact HQ.out XQ5.out H10.out rfl | exact HQ.out XQ4.out H9.out rfl | exact HQ.out XQ3.out H8.out rfl | exact HQ.out (XQ5.out.trans (H10.out.mxb (qa1 _ _))) (H10.out.below (qa1 _ _)) rfl) (first | (go_at_call 155;refine(qnx _ _).mono ?_;rintro e w9 ⟨rfl,hb⟩;have H9:=zh (H8.out.below hb);have Y9:=zh (H8.out.mxb hb);have X9:=zh (X8.out.trans Y9.out);have B_cp_9:=zh (Y9.out.box B_cp_8.out);have ccp9:=B_cp_9.out.cellv;have B_op_9:=zh (Y9.out.box B_op_8.out);have cop9:=B_op_9.out.cellv;have B_own_9:=zh (Y9.out.box B_own_8.out);have cown9:=B_own_9.out.cellv;have XQ4:=zh (XQ3.out.trans Y9.out);clear hb) | (go_at_call 37;have q10:=qds (σ:=σ.at_ j) H9.out (rt (opE E σ.i).toList:Int);try unfold ptr at q10;refine q10.mono ?_;clear q10;rintro e w10 ⟨ve,rfl,hv,hb⟩;obtain⟨fK10,fF10,fC10,rfl⟩:=hv.fn;have V10:=zh hv;have H10:=zh (H9.out.below hb);have Y10:=zh (H9.out.mxb hb);have X10:=zh (X9.out.trans Y10.out);have B_cp_10:=zh (Y10.out.box B_cp_9.out);have ccp10:=B_cp_10.out.cellv;have B_op_10:=zh (Y10.out.box B_op_9.out);have cop10:=B_op_10.out.cellv;have B_own_10:=zh (Y10.out.box B_own_9.out);have cown10:=B_own_10.out.cellv;clear hv hb;have XQ5:=zh (XQ4.out.trans Y10.out)) | (go_at_call 36;have V11:=zh ((IsC.join c (opE E σ.i) (bn (opE E σ.i).toList:Int) _ _ _ B_op_10.out B_cp_10.out B_own_10.out (List.getElem?_eq_some_iff.1 HC.out).1:IsC w10 (L.P W0.heap.size) g L.A L.B (σ.at_ j).N.length (σ.at_ j).C.length _ (.join c (opE E σ.i) (bn (opE E σ.i).toList:Int))));refine(qbh H10.out _ (by simp) [_,_] [.expr (rt (opE E σ.i).toList:Int),.join c (opE E σ.i) (bn (opE E σ.i).toList:Int)] 2 rfl (zJ HK.out (by decide)) (by decide) _ ⟨V10.out,⟨V11.out,trivial⟩⟩).mono ?_;rintro e w12 ⟨rfl,M12,hm,hx⟩;have H12:=zh hm;have Y12:=zh hx;have X12:=zh (X10.out.trans Y12.out);have B_cp_12:=zh (Y12.out.box B_cp_10.out);have ccp12:=B_cp_12.out.cellv;have B_op_12:=zh (Y12.out.box B_op_10.out);have cop12:=B_op_12.out.cellv;have B_own_12:=zh (Y12.out.box B_own_10.out);have cown12:=B_own_12.out.cellv;have ve_12:=zh (Y12.out.isc V10.out);have vj_12:=zh (Y12.out.isc V11.out);clear hm hx;have XQ6:=zh (XQ5.out.trans Y12.out)))
    all_goals go_wp2_with fail
    all_goals go_end0
    all_goals exact⟨rfl,M12,H12.out,X12.out⟩
end
section
variable{W0 W:World}{g:Nat}{s:ByteArray}{E:Env}{tv:Value}{L:PLay}{σ:PM}
theorem ChB.set{B g:Nat}{lv:Int}{cv av fv:Value}{st:Bool}{hs:Int}(h:ChB W B g lv cv av st fv hs)(j:Nat)(u:Value):(W.setCell ⟨B,j,none⟩ u).heap[B]?=some (.cells (#[ptr g,.int .i64 lv,cv,av,.bool st,fv,.int .i64 hs].setIfInBounds j u) 87 (0,0)):=Lib.heap_setCell_same (i:=j) h u
theorem MM.setSt(h:MM W0 g s E tv W L σ){c:Nat}{x:Chn}(hx:σ.C[c]?=some x)(b:Bool):MM W0 g s E tv (W.setCell ⟨L.B c,4,none⟩ (.bool b)) L (σ.setC c { x with st:=b })/\MX W0.heap.size W L σ.N.length σ.C.length (W.setCell ⟨L.B c,4,none⟩ (.bool b)) L σ.N.length (σ.setC c { x with st:=b }).C.length:=
 h.setCh hx b x.lf x.hs (fun l hl=>h.lfb c x l hx hl) (qb1 _ _ _ _) (fun cv av h1=>by have h9:=h1.set 4 (.bool b);unfold ChB;simpa using h9)
theorem MM.setLf(h:MM W0 g s E tv W L σ){c:Nat}{x:Chn}(hx:σ.C[c]?=some x){l:Nat}(hl:l<σ.N.length):MM W0 g s E tv (W.setCell ⟨L.B c,5,none⟩ (.pointer (some ⟨L.A l,0,none⟩))) L (σ.setC c { x with lf:=some l })/\MX W0.heap.size W L σ.N.length σ.C.length (W.setCell ⟨L.B c,5,none⟩ (.pointer (some ⟨L.A l,0,none⟩))) L σ.N.length (σ.setC c { x with lf:=some l }).C.length:=
 h.setCh hx x.st (some l) x.hs (fun l' hl'=>by rw[<-Option.some.inj hl'];exact hl) (qb1 _ _ _ _) (fun cv av h1=>by have h9:=h1.set 5 (.pointer (some ⟨L.A l,0,none⟩));unfold ChB lfV;simpa[ptr]using h9)
theorem MM.setHs(h:MM W0 g s E tv W L σ){c:Nat}{x:Chn}(hx:σ.C[c]?=some x)(k:Int):MM W0 g s E tv (W.setCell ⟨L.B c,6,none⟩ (.int .i64 k)) L (σ.setC c { x with hs:=k })/\MX W0.heap.size W L σ.N.length σ.C.length (W.setCell ⟨L.B c,6,none⟩ (.int .i64 k)) L σ.N.length (σ.setC c { x with hs:=k }).C.length:=
 h.setCh hx x.st x.lf k (fun l hl=>h.lfb c x l hx hl) (qb1 _ _ _ _) (fun cv av h1=>by have h9:=h1.set 6 (.int .i64 k);unfold ChB;simpa using h9)
theorem qb2{c:Nat}{x y:Chn}(hx:σ.C[c]?=some x):(σ.setC c y).C[c]?=some y:=List.getElem?_set_self (List.getElem?_eq_some_iff.1 hx).1
theorem qki(σ:PM)(c:Nat)(x y:Chn):(σ.setC c x).setC c y=σ.setC c y:=by
 simp[PM.setC,List.set_set]
theorem qni(w:World)(d:Nat)(t:TypeId)(K:FuncId)(f c:Array Value){ps rs:Array TypeId}{vd:Bool}(h:Tryz.prog.underlying t=some (.func ps rs vd)):(Op.equalIn (d+1) t (.func (.func K) f c) .nilFunc).run Tryz.prog w=.ok false w:=by
 simp[Op.equalIn,run_underlying h]
theorem qnj(w:World)(d:Nat)(t:TypeId){ps rs:Array TypeId}{vd:Bool}(h:Tryz.prog.underlying t=some (.func ps rs vd)):(Op.equalIn (d+1) t .nilFunc .nilFunc).run Tryz.prog w=.ok true w:=by
 simp[Op.equalIn,run_underlying h]
theorem qwk(K:FuncId)(f c:Array Value)(w:World):(binOp BinOp.neq 1 (Value.func (Fn.func K) f c) Value.nilFunc).run Tryz.prog w=.ok (.bool true) w:=by
 have h1:(Op.equal 1 (Value.func (Fn.func K) f c) Value.nilFunc).run Tryz.prog w=.ok false w:=qni w 9999 _ K f c Tryz.underlying1
 simp only[binOp]
 simp[h1]
theorem qwl(w:World):(binOp BinOp.neq 1 Value.nilFunc Value.nilFunc).run Tryz.prog w=.ok (.bool false) w:=by
 have h1:(Op.equal 1 Value.nilFunc Value.nilFunc).run Tryz.prog w=.ok true w:=qnj w 9999 _ Tryz.underlying1
 simp only[binOp]
 simp[h1]
theorem qp2{j:Nat}{x:Nd}(h1:σ.n=some j)(h2:σ.N[j]?=some (some x)):σ.cur=.ok (j,x):=by
 unfold PM.cur PM.nd
 rw[h1]
 show(match σ.N[j]? with | some (some x)=>(.ok x:Rs Nd) | _=>.error .stuck).map (fun x=>(j,x))=_
 rw[h2];rfl
theorem qsa(h:MM W0 g s E tv W L σ)(hk:σ.k.length<=274877906944){c:Nat}{ch:Chn}(hc:σ.C[c]?=some ch)(hct:ch.ct<=1000000000)(hal:ch.ah.length<=1000000000)(has: ∀X∈ch.ah,X.size<=1048576)(hns:stp E (.folw c) σ≠ .error .stuck):
 Calls Tryz.prog 97 #[.pointer (some ⟨L.B c,0,none⟩)] W (SO (stp E (.folw c) σ) W0 g s E tv W L σ.N.length σ.C.length):=by
 obtain⟨R,hR⟩: ∃R:Rs PM,R=stp E (.folw c) σ:=⟨_,rfl⟩
 rw[<-hR]at hns⊢
 have HR:=zh hR
 have HNS:=zh hns
 have H0:=zh h
 have HK:=zh hk
 have HC:=zh hc
 have HCT:=zh hct
 have HAL:=zh hal
 have HAS:=zh has
 have X0:=zh (MX.refl W0.heap.size W L σ.N.length σ.C.length)
 clear h hR hk hc hct hal has hns
 rcases hcu:σ.cur with b9 | ⟨j,x⟩
 ·obtain rfl:=qcy hcu
  exact absurd (by rw[HR.out];show(σ.ch c >>= fun h=>_)=_;rw[qic HC.out];show(σ.cur >>= fun x=>_)=_;rw[hcu];rfl) HNS.out
 obtain⟨hn_j,hx_j⟩:=qdp hcu
 clear hcu
 cases x with
 | mk k t l br bl no ta=>
 have HX_j:=zh hx_j
 have HN_j:=zh hn_j
 clear hn_j hx_j
 go_enter Tryz.func97,Tryz.ntmps97
 go_wp2_with fail
 refine(qu6 H0.out HC.out HN_j.out HX_j.out).mono ?_
 rintro e w1 ⟨v,rfl,hm,hx,hv⟩
 have H1:=zh hm
 have Y1:=zh hx
 have X1:=zh (X0.out.trans Y1.out)
 have HV:=zh hv
 clear hm hx hv
 cases hfo:qav E ch (.mk k t l br bl no ta) σ.i with
 | some t9=>
  have HFO:=zh hfo
  obtain rfl:R=.ok ((σ.setC c { ch with st:=false }).plan [t9,.folw c]):=by
   rw[HR.out];show(σ.ch c >>= fun h=>_)=_;rw[qic HC.out];show(σ.cur >>= fun x=>_)=_;rw[qp2 HN_j.out HX_j.out];show(match qav E ch (.mk k t l br bl no ta) σ.i with | some s=>_ | none=>_)=_;rw[HFO.out]
  have hv9:=HV.out
  rw[hfo]at hv9
  replace hv9:IsC _ _ _ _ _ _ _ v t9:=hv9
  obtain⟨fK9,fF9,fC9,rfl⟩:=hv9.fn
  have Vv:=zh hv9
  clear hfo hv9
  have hfn:=qwk fK9 fF9 fC9
  obtain⟨ca9,cb9,aa9,ab9,⟨c0_9,-,-,-,c4_9,-,-⟩,-,-,hcf9⟩:=H1.out.chall HC.out
  have cf4:=hcf9 4
  clear hcf9
  have HS9:=zh (MM.setSt H1.out HC.out false)
  go_upto_region 3 with fail
  have H2:=zh HS9.out.1
  have Y2:=zh HS9.out.2
  have X2:=zh (X1.out.trans Y2.out)
  have vv_2:=zh (Y2.out.isc Vv.out)
  have c0_9:=(H2.out.chall (qb2 HC.out)).choose_spec.choose_spec.choose_spec.choose_spec.1.1
  have HCL:=zh (show c< (σ.setC c { ch with st:=false }).C.length by show c< (σ.C.set c _).length;rw[List.length_set];exact(List.getElem?_eq_some_iff.1 HC.out).1)
  have V3:=zh ((IsC.folw c HCL.out:IsC (w1.setCell ⟨L.B c,4,none⟩ (.bool false)) (L.P W0.heap.size) g L.A L.B ((σ.setC c { ch with st:=false })).N.length ((σ.setC c { ch with st:=false })).C.length _ (.folw c)))
  go_wp2_with fail
  refine(qbh H2.out w1.heap.size (by simp) [_,_] [t9,.folw c] 2 rfl (zJ HK.out (by decide)) (by decide) _ ⟨vv_2.out,⟨V3.out,trivial⟩⟩).mono ?_
  rintro e w4 ⟨rfl,M4,hm,hx⟩
  have H4:=zh hm
  have Y4:=zh hx
  have X4:=zh (X2.out.trans Y4.out)
  have vv_4:=zh (Y4.out.isc vv_2.out)
  have vf_4:=zh (Y4.out.isc V3.out)
  clear hm hx
  go_wp2_with fail
  go_end0
  exact⟨rfl,M4,H4.out,X4.out⟩
 | none=>
  have HFO:=zh hfo
  have hv9:=HV.out
  rw[hfo]at hv9
  replace hv9:v=.nilFunc:=hv9
  subst hv9
  have hfn:=qwl
  have HRU:Hid (R=(qfu ch.ah.reverse j σ >>= fun r=>qbr E c (r.2.setC c { ch with lf:=some r.1 }))):=zh (by
   rw[HR.out];show(σ.ch c >>= fun h=>_)=_;rw[qic HC.out];show(σ.cur >>= fun x=>_)=_;rw[qp2 HN_j.out HX_j.out];show(match qav E ch (.mk k t l br bl no ta) σ.i with | some s=>_ | none=>_)=_;rw[HFO.out])
  clear hfo
  cases hun:qfu ch.ah.reverse j σ with
  | error e9=>
   have:=qje _ _ _ _ hun
   subst this
   exact absurd (by rw[HRU.out,hun];rfl) HNS.out
  | ok r9=>
   have HUN:=zh hun
   have HUC:=zh (qt6 _ _ _ _ hun)
   clear hun
   have HRJ:Hid (R=qbr E c (r9.2.setC c { ch with lf:=some r9.1 })):=zh (by rw[HRU.out,HUN.out];rfl)
   go_wp2_with fail
   have hb9:=zA (Below.refl w1.heap.size w1)
   have HD9:=zh hb9
   clear hb9
   have HMD:=zh (H1.out.below HD9.out)
   have HXD:=zh (X1.out.trans (H1.out.mxb HD9.out))
   obtain⟨ca9,cb9,aa9,ab9,⟨c0_9,-,-,c3_9,-,-,-⟩,-,hah9,-⟩:=HMD.out.chall HC.out
   have HAH:=zh hah9
   clear hah9
   have g5_9:=HMD.out.gcur HN_j.out
   have HQ:Hid (∀ {w':World} {L':PLay} {τ:PM} {nN nC:Nat},MX W0.heap.size W L σ.N.length σ.C.length w' L' nN nC->MM W0 g s E tv w' L' τ->(∃y,τ.C[c]?=some y)->w'.cell? ⟨L.B c,0,none⟩=some (.pointer (some ⟨g,0,none⟩))):=zh (fun hx hm hc=>by obtain⟨y,hc⟩:=hc;obtain⟨_,_,_,_,⟨h9,-⟩,-⟩:=hm.chall hc;rw[hx.B c (List.getElem?_eq_some_iff.1 HC.out).1]at h9;exact h9)
   refine wp_region_noPanic ?_
   refine wp_region_held_drew (S:=(fun w'=>w'.cell? ⟨L.B c,0,none⟩=some (.pointer (some ⟨g,0,none⟩)))) (by kernel_rfl) (by(try dsimp only);(first | exact HQ.out XQ8.out HS9.out.1 ⟨_,qb2 HC7.out⟩ | exact HQ.out XQ7.out H7.out ⟨_,HC7.out⟩ | exact HQ.out HXD.out HMD.out ⟨_,HC.out⟩)) (fun hHeld=>?_)
   refine tkH (i:=0) (v:=?_) rfl (Or.inl ⟨by rfl,?_⟩) ?_
   rotate_left 1
   ·(intro w' hSw;(try dsimp only at hSw);go_simp;(first | done | with_reducible rfl))
   try simp only[Act.put,zG,zI,zH]
   refine tkH (i:=1) (v:=?_) rfl (Or.inl ⟨by rfl,?_⟩) ?_
   rotate_left 1
   ·(intro w' hSw;(try dsimp only at hSw);go_simp;(first | done | with_reducible rfl))
   try simp only[Act.put,zG,zI,zH]
   refine tkH (i:=2) (v:=?_) rfl (Or.inl ⟨by rfl,?_⟩) ?_
   rotate_left 1
   ·(intro w' hSw;(try dsimp only at hSw);go_simp;(first | done | with_reducible rfl))
   try simp only[Act.put,zG,zI,zH]
   refine tkH (i:=3) (v:=?_) rfl (Or.inl ⟨by rfl,?_⟩) ?_
   rotate_left 1
   ·(intro w' hSw;(try dsimp only at hSw);go_simp;(first | done | with_reducible rfl))
   try simp only[Act.put,zG,zI,zH]
   refine tkH (i:=5) (v:=?_) rfl (Or.inl ⟨by rfl,?_⟩) ?_
   rotate_left 1
   ·(intro w' hSw;(try dsimp only at hSw);go_simp;(first | done | with_reducible rfl))
   try simp only[Act.put,zG,zI,zH]
   refine tkH (i:=6) (v:=?_) rfl (Or.inl ⟨by rfl,?_⟩) ?_
   rotate_left 1
   ·(intro w' hSw;(try dsimp only at hSw);go_simp;(first | done | with_reducible rfl))
   try simp only[Act.put,zG,zI,zH]
   refine tkH (i:=7) (v:=?_) rfl (Or.inl ⟨by rfl,?_⟩) ?_
   rotate_left 1
   ·(intro w' hSw;(try dsimp only at hSw);go_simp;(first | done | with_reducible rfl))
   try simp only[Act.put,zG,zI,zH]
   refine tkH (i:=8) (v:=?_) rfl (Or.inl ⟨by rfl,?_⟩) ?_
   rotate_left 1
   ·(intro w' hSw;(try dsimp only at hSw);go_simp;(first | done | with_reducible rfl))
   try simp only[Act.put,zG,zI,zH]
   refine tkH (i:=9) (v:=?_) rfl (Or.inl ⟨by rfl,?_⟩) ?_
   rotate_left 1
   ·(intro w' hSw;(try dsimp only at hSw);go_simp;(first | done | with_reducible rfl))
   try simp only[Act.put,zG,zI,zH]
   refine tkH (i:=10) (v:=?_) rfl (Or.inl ⟨by rfl,?_⟩) ?_
   rotate_left 1
   ·(intro w' hSw;(try dsimp only at hSw);go_simp;(first | done | with_reducible rfl))
   try simp only[Act.put,zG,zI,zH]
   refine wpAnyH_ready (rs:=[4,11]) (by kernel_rfl) (by simp) ?_
   refine(AllReadyH.cons rfl (fun K hK=>?_) (AllReadyH.cons rfl (fun K hK=>?_) AllReadyH.nil))
   go_simp
   refine hK.out _ _ (by(try dsimp only);(first | exact HQ.out XQ8.out HS9.out.1 ⟨_,qb2 HC7.out⟩ | exact HQ.out XQ7.out H7.out ⟨_,HC7.out⟩ | exact HQ.out HXD.out HMD.out ⟨_,HC.out⟩)) (fun hHeld=>?_)
   clear hK K
   try simp only[Act.put,zG,zI,zH]
   refine wpAnyH_ready (rs:=[11]) (by kernel_rfl) (by simp) ?_
   refine(AllReadyH.cons rfl (fun K hK=>?_) AllReadyH.nil)
   go_simp
   refine hK.out _ _ (by(try dsimp only);(first | exact HQ.out XQ8.out HS9.out.1 ⟨_,qb2 HC7.out⟩ | exact HQ.out XQ7.out H7.out ⟨_,HC7.out⟩ | exact HQ.out HXD.out HMD.out ⟨_,HC.out⟩)) (fun hHeld=>?_)
   clear hK K
   try simp only[Act.put,zG,zI,zH]
   refine wpAnyH_ready (rs:=[12]) (by kernel_rfl) (by simp) ?_
   refine(AllReadyH.cons rfl (fun K hK=>?_) AllReadyH.nil)
   go_simp
   try (first | (go_at_call 124;have q7:=qna (σ:=σ) HMD.out aa9 ab9 ch.ah HAH.out HAL.out HAS.out j r9 HUN.out (qqg HX_j.out);refine q7.mono ?_;clear q7;rintro e w7 ⟨M7,rfl,hm,hx,hl⟩;have HC7:=zh (show r9.2.C[c]?=some ch by rw[HUC.out.1];exact HC.out);have hB7:=(HXD.out.trans hx).B c (List.getElem?_eq_some_iff.1 HC.out).1;have hf5:=(hm.chall HC7.out).choose_spec.choose_spec.choose_spec.choose_spec.2.2.2 5;have hc5:=(hm.chall HC7.out).choose_spec.choose_spec.choose_spec.choose_spec.1.2.2.2.2.2.1;rw[hB7]at hf5 hc5;have hs9:=hm.setLf HC7.out hl;rw[hB7]at hs9;have HS9:=zh hs9;have H7:=zh hm;have XQ7:=zh (HXD.out.trans hx);have XQ8:=zh (XQ7.out.trans HS9.out.2);clear hs9 hm hx hl hB7))
   refine hK.out _ _ (by(try dsimp only);(first | exact HQ.out XQ8.out HS9.out.1 ⟨_,qb2 HC7.out⟩ | exact HQ.out XQ7.out H7.out ⟨_,HC7.out⟩ | exact HQ.out HXD.out HMD.out ⟨_,HC.out⟩)) (fun hHeld=>?_)
   clear hK K
   try simp only[Act.put,zG,zI,zH]
   refine tkH (i:=13) (v:=?_) rfl (Or.inl ⟨by rfl,?_⟩) ?_
   rotate_left 1
   ·(intro w' hSw;(try dsimp only at hSw);go_simp;(first | done | with_reducible rfl))
   try simp only[Act.put,zG,zI,zH]
   refine tkH (i:=14) (v:=?_) rfl (Or.inl ⟨by rfl,?_⟩) ?_
   rotate_left 1
   ·(intro w' hSw;(try dsimp only at hSw);go_simp;(first | done | with_reducible rfl))
   try simp only[Act.put,zG,zI,zH]
   refine wpAnyH_ready (rs:=[15]) (by kernel_rfl) (by simp) ?_
   refine(AllReadyH.cons rfl (fun K hK=>?_) AllReadyH.nil)
   go_simp
   refine hK.out _ _ (by(try dsimp only);(first | exact HQ.out XQ8.out HS9.out.1 ⟨_,qb2 HC7.out⟩ | exact HQ.out XQ7.out H7.out ⟨_,HC7.out⟩ | exact HQ.out HXD.out HMD.out ⟨_,HC.out⟩)) (fun hHeld=>?_)
   clear hK K
   try simp only[Act.put,zG,zI,zH]
   refine wpAnyH_done (by kernel_rfl) ?_ _
   refine NoPanic.normal ?_
   rotate_left 1
   go_simp
   refine hK.out _ _ (by(try dsimp only);(first | exact HQ.out XQ8.out HS9.out.1 ⟨_,qb2 HC7.out⟩ | exact HQ.out XQ7.out H7.out ⟨_,HC7.out⟩ | exact HQ.out HXD.out HMD.out ⟨_,HC.out⟩)) (fun hHeld=>?_)
   clear hK K
   try simp only[Act.put,zG,zI,zH]
   refine wpAnyH_ready (rs:=[4]) (by kernel_rfl) (by simp) ?_
   refine(AllReadyH.cons rfl (fun K hK=>?_) AllReadyH.nil)
   go_simp
   refine hK.out _ _ (by(try dsimp only);(first | exact HQ.out XQ8.out HS9.out.1 ⟨_,qb2 HC7.out⟩ | exact HQ.out XQ7.out H7.out ⟨_,HC7.out⟩ | exact HQ.out HXD.out HMD.out ⟨_,HC.out⟩)) (fun hHeld=>?_)
   clear hK K
   try simp only[Act.put,zG,zI,zH]
   refine wpAnyH_ready (rs:=[12]) (by kernel_rfl) (by simp) ?_
   refine(AllReadyH.cons rfl (fun K hK=>?_) AllReadyH.nil)
   go_simp
   try (first | (go_at_call 124;have q7:=qna (σ:=σ) HMD.out aa9 ab9 ch.ah HAH.out HAL.out HAS.out j r9 HUN.out (qqg HX_j.out);refine q7.mono ?_;clear q7;rintro e w7 ⟨M7,rfl,hm,hx,hl⟩;have HC7:=zh (show r9.2.C[c]?=some ch by rw[HUC.out.1];exact HC.out);have hB7:=(HXD.out.trans hx).B c (List.getElem?_eq_some_iff.1 HC.out).1;have hf5:=(hm.chall HC7.out).choose_spec.choose_spec.choose_spec.choose_spec.2.2.2 5;have hc5:=(hm.chall HC7.out).choose_spec.choose_spec.choose_spec.choose_spec.1.2.2.2.2.2.1;rw[hB7]at hf5 hc5;have hs9:=hm.setLf HC7.out hl;rw[hB7]at hs9;have HS9:=zh hs9;have H7:=zh hm;have XQ7:=zh (HXD.out.trans hx);have XQ8:=zh (XQ7.out.trans HS9.out.2);clear hs9 hm hx hl hB7))
   refine hK.out _ _ (by(try dsimp only);(first | exact HQ.out XQ8.out HS9.out.1 ⟨_,qb2 HC7.out⟩ | exact HQ.out XQ7.out H7.out ⟨_,HC7.out⟩ | exact HQ.out HXD.out HMD.out ⟨_,HC.out⟩)) (fun hHeld=>?_)
   clear hK K
   try simp only[Act.put,zG,zI,zH]
   refine tkH (i:=13) (v:=?_) rfl (Or.inl ⟨by rfl,?_⟩) ?_
   rotate_left 1
   ·(intro w' hSw;(try dsimp only at hSw);go_simp;(first | done | with_reducible rfl))
   try simp only[Act.put,zG,zI,zH]
   refine tkH (i:=14) (v:=?_) rfl (Or.inl ⟨by rfl,?_⟩) ?_
   rotate_left 1
   ·(intro w' hSw;(try dsimp only at hSw);go_simp;(first | done | with_reducible rfl))
   try simp only[Act.put,zG,zI,zH]
   refine wpAnyH_ready (rs:=[15]) (by kernel_rfl) (by simp) ?_
   refine(AllReadyH.cons rfl (fun K hK=>?_) AllReadyH.nil)
   go_simp
   refine hK.out _ _ (by(try dsimp only);(first | exact HQ.out XQ8.out HS9.out.1 ⟨_,qb2 HC7.out⟩ | exact HQ.out XQ7.out H7.out ⟨_,HC7.out⟩ | exact HQ.out HXD.out HMD.out ⟨_,HC.out⟩)) (fun hHeld=>?_)
   clear hK K
   try simp only[Act.put,zG,zI,zH]
   refine wpAnyH_done (by kernel_rfl) ?_ _
   refine NoPanic.normal ?_
   all_goals go_wp2_with fail
   all_goals
    have hBB:=XQ7.out.B c (List.getElem?_eq_some_iff.1 HC.out).1
    have q9:=qps (c:=c) (ch:= { ch with lf:=some r9.1 }) HS9.out.1 (by show r9.2.k.length<=_;rw[HUC.out.2.2];exact HK.out) (qb2 HC7.out) HCT.out (by rw[<-HRJ.out];exact HNS.out)
    rw[hBB]at q9
    refine q9.mono ?_
    clear q9 hBB
    rw[<-HRJ.out]
    intro e w9 h9
    cases hres:R with
    | error b=>
     subst hres
     cases b with
     | die=>
      obtain⟨⟨u,pv,rfl⟩,hb⟩:=h9
      have HB9:=zh hb
      clear hb
      go_wp2_with fail
      exact⟨rfl,⟨_,_,rfl⟩,HB9.out⟩
     | stuck=>exact absurd rfl HNS.out
    | ok τ=>
     subst hres
     obtain⟨rfl,M9,hm,hx⟩:=h9
     have H9:=zh hm
     have X9:=zh (XQ8.out.trans hx)
     clear hm hx
     go_wp2_with fail
     go_end0
     exact⟨rfl,M9,H9.out,X9.out⟩
end
section
variable{W0 W:World}{g:Nat}{s:ByteArray}{E:Env}{tv:Value}{L:PLay}{σ:PM}
theorem qr3(E:Env)(g:Nat)(σ:PM):(bgV E g σ.i=.nilFunc/\qbm E σ=.error .die)\/ ∃K:FuncId,bgV E g σ.i=.func (.func K) #[.pointer (some ⟨g,0,none⟩)] #[]/\(∀args w,(callFunc K args).run Tryz.prog w=.ok (.enter K args) w)/\
 ∀ {W0 W:World} {s:ByteArray} {tv:Value} {L:PLay},MM W0 g s E tv W L σ->σ.k.length<=274877906944->qbm E σ≠ .error .stuck->Calls Tryz.prog K #[.pointer (some ⟨g,0,none⟩)] W (SO (qbm E σ) W0 g s E tv W L σ.N.length σ.C.length):=by
 by_cases k9:(nxE E σ.i).1=9
 ·skip
  by_cases h0:(nxE E σ.i).2.1.toList=[40]
  ·skip
   have e:qbm E σ=qbg E σ:=by unfold qbm;simp only[if_pos k9,if_pos h0]
   exact .inr ⟨_,by unfold bgV bgS;rw[if_pos k9,if_pos h0],fun _ _=>by go_simp,fun h hk hns=>by rw[e]at hns⊢;exact qm4 h hk⟩
  by_cases h1:(nxE E σ.i).2.1.toList=[123]
  ·skip
   have e:qbm E σ=.ok (qib σ (nk 4 []) [123] (.expr 0)):=by unfold qbm;simp only[if_pos k9,if_neg h0,if_pos h1]
   exact .inr ⟨_,by unfold bgV bgS;rw[if_pos k9,if_neg h0,if_pos h1],fun _ _=>by go_simp,fun h hk hns=>by rw[e]at hns⊢;exact tupleM h hk⟩
  by_cases h2:(nxE E σ.i).2.1.toList=[91]
  ·skip
   have e:qbm E σ=qes E σ:=by unfold qbm;simp only[if_pos k9,if_neg h0,if_neg h1,if_pos h2]
   exact .inr ⟨_,by unfold bgV bgS;rw[if_pos k9,if_neg h0,if_neg h1,if_pos h2],fun _ _=>by go_simp,fun h hk hns=>by rw[e]at hns⊢;exact listM h hk hns⟩
  by_cases h3:(nxE E σ.i).2.1.toList=[60,60]
  ·skip
   have e:qbm E σ=.ok (qtd σ):=by unfold qbm;simp only[if_pos k9,if_neg h0,if_neg h1,if_neg h2,if_pos h3]
   exact .inr ⟨_,by unfold bgV bgS;rw[if_pos k9,if_neg h0,if_neg h1,if_neg h2,if_pos h3],fun _ _=>by go_simp,fun h hk hns=>by rw[e]at hns⊢;exact binM h hk⟩
  by_cases h4:(nxE E σ.i).2.1.toList=[35]
  ·skip
   have e:qbm E σ=qfa E σ:=by unfold qbm;simp only[if_pos k9,if_neg h0,if_neg h1,if_neg h2,if_neg h3,if_pos h4]
   exact .inr ⟨_,by unfold bgV bgS;rw[if_pos k9,if_neg h0,if_neg h1,if_neg h2,if_neg h3,if_pos h4],fun _ _=>by go_simp,fun h hk hns=>by rw[e]at hns⊢;exact madeM h hk⟩
  exact .inl ⟨by unfold bgV bgS;rw[if_pos k9,if_neg h0,if_neg h1,if_neg h2,if_neg h3,if_neg h4],by unfold qbm;simp only[if_pos k9,if_neg h0,if_neg h1,if_neg h2,if_neg h3,if_neg h4]⟩
 by_cases k8:(nxE E σ.i).1=8
 ·skip
  by_cases h0:(nxE E σ.i).2.1.toList=[102,117,110]
  ·skip
   have e:qbm E σ=qfm E σ:=by unfold qbm;simp only[if_neg k9,if_pos k8,if_pos h0]
   exact .inr ⟨_,by unfold bgV bgW;rw[if_neg k9,if_pos k8,if_pos h0],fun _ _=>by go_simp,fun h hk hns=>by rw[e]at hns⊢;exact funM h hk⟩
  by_cases h1:(nxE E σ.i).2.1.toList=[99,97,115,101]
  ·skip
   have e:qbm E σ=qdg E σ:=by unfold qbm;simp only[if_neg k9,if_pos k8,if_neg h0,if_pos h1]
   exact .inr ⟨_,by unfold bgV bgW;rw[if_neg k9,if_pos k8,if_neg h0,if_pos h1],fun _ _=>by go_simp,fun h hk hns=>by rw[e]at hns⊢;exact qxp h hk⟩
  by_cases h2:(nxE E σ.i).2.1.toList=[105,102]
  ·skip
   have e:qbm E σ=qf2 E σ:=by unfold qbm;simp only[if_neg k9,if_pos k8,if_neg h0,if_neg h1,if_pos h2]
   exact .inr ⟨_,by unfold bgV bgW;rw[if_neg k9,if_pos k8,if_neg h0,if_neg h1,if_pos h2],fun _ _=>by go_simp,fun h hk hns=>by rw[e]at hns⊢;exact testsM h hk⟩
  by_cases h3:(nxE E σ.i).2.1.toList=[114,101,99,101,105,118,101]
  ·skip
   have e:qbm E σ=qck E σ:=by unfold qbm;simp only[if_neg k9,if_pos k8,if_neg h0,if_neg h1,if_neg h2,if_pos h3]
   exact .inr ⟨_,by unfold bgV bgW;rw[if_neg k9,if_pos k8,if_neg h0,if_neg h1,if_neg h2,if_pos h3],fun _ _=>by go_simp,fun h hk hns=>by rw[e]at hns⊢;exact qvd h hk⟩
  by_cases h4:(nxE E σ.i).2.1.toList=[98,101,103,105,110]
  ·skip
   have e:qbm E σ=qeo E σ:=by unfold qbm;simp only[if_neg k9,if_pos k8,if_neg h0,if_neg h1,if_neg h2,if_neg h3,if_pos h4]
   exact .inr ⟨_,by unfold bgV bgW;rw[if_neg k9,if_pos k8,if_neg h0,if_neg h1,if_neg h2,if_neg h3,if_pos h4],fun _ _=>by go_simp,fun h hk hns=>by rw[e]at hns⊢;exact blockM h hk⟩
  exact .inl ⟨by unfold bgV bgW;rw[if_neg k9,if_pos k8,if_neg h0,if_neg h1,if_neg h2,if_neg h3,if_neg h4],by unfold qbm;simp only[if_neg k9,if_pos k8,if_neg h0,if_neg h1,if_neg h2,if_neg h3,if_neg h4]⟩
 have e:qbm E σ=qjw E σ:=by unfold qbm;simp only[if_neg k9,if_neg k8]
 exact .inr ⟨_,by unfold bgV;rw[if_neg k9,if_neg k8],fun _ _=>by go_simp,fun h hk hns=>by rw[e]at hns⊢;exact litM h⟩
theorem qsr(h:MM W0 g s E tv W L σ)(hk:σ.k.length<=274877906944)(hns:stp E .prim σ≠ .error .stuck):
 Calls Tryz.prog 96 #[.pointer (some ⟨g,0,none⟩)] W (SO (stp E .prim σ) W0 g s E tv W L σ.N.length σ.C.length):=by
 obtain⟨R,hR⟩: ∃R:Rs PM,R=stp E .prim σ:=⟨_,rfl⟩
 rw[<-hR]at hns⊢
 have HNS:=zh hns
 have HR:=zh hR
 have H0:=zh h
 have X0:=zh (MX.refl W0.heap.size W L σ.N.length σ.C.length)
 have HK:=zh hk
 clear h hR hk hns
 try unfold ptr
 go_enter Tryz.func96,Tryz.ntmps96
 rcases qr3 E g σ with⟨hv,he⟩ | ⟨K,hv,hen,hc⟩
 ·obtain rfl:R=.error .die:=by rw[HR.out];exact he
  have hq:=qwa H0.out
  rw[hv]at hq
  have HQ:=zh hq
  have hfn:=qwl
  clear hv he hq
  go_wp2_with fail
  refine HQ.out.mono ?_
  rintro e w1 ⟨rfl,hm,hx⟩
  have H1:=zh hm
  clear hm hx HQ
  go_wp2_with fail
  refine(qat _).mono ?_
  rintro e w9 ⟨⟨u,pv,rfl⟩,rfl⟩
  go_wp2_with fail
  exact⟨rfl,⟨_,_,rfl⟩,H1.out.bel⟩
 ·obtain rfl:R=qbm E σ:=HR.out
  have hq:=qwa H0.out
  rw[hv]at hq
  have HQ:=zh hq
  have HC:=zh (fun(W:World) (L:PLay) (h:MM W0 g s E tv W L σ)=>hc h HK.out HNS.out)
  have hfn:=qwk K #[.pointer (some ⟨g,0,none⟩)] #[]
  clear hv hc hq HR
  go_wp2_with fail
  refine HQ.out.mono ?_
  rintro e w1 ⟨rfl,hm,hx⟩
  have H1:=zh hm
  have X1:=zh (X0.out.trans hx)
  clear hm hx HQ
  go_wp2_with fail
  refine(qas _).mono ?_
  rintro e w9 ⟨rfl,rfl⟩
  go_wp2_with fail
  refine(HC.out _ _ H1.out).mono ?_
  intro e w9 h9
  cases hres:qbm E σ with
  | error b=>
   cases b with
   | die=>
    rw[hres]at h9
    obtain⟨⟨u,pv,rfl⟩,hb⟩:=h9
    have HB9:=zh hb
    have HRES:=zh hres
    clear hb hres
    go_wp2_with fail
    exact⟨rfl,⟨_,_,rfl⟩,HB9.out⟩
   | stuck=>exact absurd hres HNS.out
  | ok τ=>
   rw[hres]at h9
   obtain⟨rfl,M9,hm,hx⟩:=h9
   have H9:=zh hm
   have X9:=zh (X1.out.trans hx)
   have HRES:=zh hres
   clear hm hx hres
   go_wp2_with fail
   go_end0
   first
    | exact⟨rfl,M9,H9.out,X9.out⟩
    | (rw[HRES.out];exact⟨rfl,M9,H9.out,X9.out⟩)
end
theorem qm5{P:Program}{a:Act}{w:World}{Q:Exit->Act->World->Prop}{c r0 r1:Code}(J:Nat->Nat->Act->World->Prop)(h0:findLabel c 0=some (Code.skip.seq r0))(h1:findLabel c 1=some (Code.skip.seq r1))(hJ: ∀l m a w,J l m a w->l=0\/l=1)
 (pass0: ∀m a w,J 0 m a w->r0.wp P (qdf (fun l' a' w'=> ∃m',m'<m/\J l' m' a' w') Q) a w)
 (pass1: ∀m a w,J 1 m a w->r1.wp P (qdf (fun l' a' w'=> ∃m',m'<m/\J l' m' a' w') Q) a w)
 (first:(∀m a w,J 0 m a w->r0.wp P (qdf (fun l' a' w'=> ∃m',J l' m' a' w') Q) a w)->c.wp P (qdf (fun l' a' w'=> ∃m',J l' m' a' w') Q) a w):(Code.scope c).wp P Q a w:=by
 intro b k cs
 have key: ∀n l a w,J l n a w-> ∃e a' w',Q e a' w'/\Arrives P (lone (b.at a (.code (Code.skip.seq (if l=0 then r0 else r1)):: .inScope c::k)) cs w) b k cs e a' w':=by
  intro n
  induction n using Nat.strongRecOn with
  | _ n ih=>
   intro l a w hj
   have hp:(if l=0 then r0 else r1).wp P (qdf (fun l' a' w'=> ∃m',m'<n/\J l' m' a' w') Q) a w:=by
    rcases hJ l n a w hj with rfl | rfl
    ·exact pass0 n a w hj
    ·exact pass1 n a w hj
   obtain⟨e,a₁,w₁,hq,harr⟩:=(show(Code.skip.seq (if l=0 then r0 else r1)).wp P _ a w from wp_seq (wp_skip hp)) b (.inScope c::k) cs
   cases e with
   | normal=>exact⟨.normal,a₁,w₁,hq,Steps.trans harr (.one step_inScope)⟩
   | exit id=>exact⟨.exit id,a₁,w₁,hq,fun k' hk=>harr k' (by simp[exitTo,hk])⟩
   | goto l'=>
    obtain⟨m,hm,hj'⟩:=(show∃m,m<n/\J l' m a₁ w₁ from hq)
    obtain⟨e₂,a₂,w₂,hq₂,harr₂⟩:=ih m hm l' a₁ w₁ hj'
    have hf:findLabel c l'=some (Code.skip.seq (if l'=0 then r0 else r1)):=by
     rcases hJ l' m a₁ w₁ hj' with rfl | rfl
     ·exact h0
     ·exact h1
    have hg:gotoIn l' (.inScope c::k)=some (.code (Code.skip.seq (if l'=0 then r0 else r1)):: .inScope c::k):=by simp[gotoIn,hf]
    exact⟨e₂,a₂,w₂,hq₂,.of_steps (harr _ hg) harr₂⟩
   | ret=>exact⟨_,a₁,w₁,hq,harr⟩
   | panic ch=>exact⟨_,a₁,w₁,hq,harr⟩
   | outgrown=>exact⟨_,a₁,w₁,hq,harr⟩
 have hfirst:=first (fun n a w hj=>qt9 (fun e a' w' hq=>by
  cases e with
  | goto l'=>
   obtain⟨m,hm,hj'⟩:=(show∃m,m<n/\J l' m a' w' from hq)
   exact⟨m,hj'⟩
  | normal=>exact hq
  | exit id=>exact hq
  | ret=>exact hq
  | panic ch=>exact hq
  | outgrown=>exact hq) (pass0 n a w hj))
 obtain⟨e,a₁,w₁,hq,harr⟩:=hfirst b (.inScope c::k) cs
 cases e with
 | normal=>exact⟨.normal,a₁,w₁,hq,.head step_scope (Steps.trans harr (.one step_inScope))⟩
 | exit id=>exact⟨.exit id,a₁,w₁,hq,fun k' hk=>.head step_scope (harr k' (by simp[exitTo,hk]))⟩
 | goto l=>
  obtain⟨m,hj⟩:=(show∃m,J l m a₁ w₁ from hq)
  obtain⟨e₂,a₂,w₂,hq₂,harr₂⟩:=key m l a₁ w₁ hj
  have hf:findLabel c l=some (Code.skip.seq (if l=0 then r0 else r1)):=by
   rcases hJ l m a₁ w₁ hj with rfl | rfl
   ·exact h0
   ·exact h1
  have hg:gotoIn l (.inScope c::k)=some (.code (Code.skip.seq (if l=0 then r0 else r1)):: .inScope c::k):=by simp[gotoIn,hf]
  exact⟨e₂,a₂,w₂,hq₂,.of_steps (.head step_scope (harr _ hg)) harr₂⟩
 | ret=>exact⟨_,a₁,w₁,hq,.of_steps (.one step_scope) harr⟩
 | panic ch=>exact⟨_,a₁,w₁,hq,.of_steps (.one step_scope) harr⟩
 | outgrown=>exact⟨_,a₁,w₁,hq,.of_steps (.one step_scope) harr⟩
theorem qbk{w:World}{ops:Array Oper}{rest:List Oper}{o:Oper}{a:Act}{Q:Exit->Act->World->Prop}(hgd:o.guard=none)(s' x':Operand)
 (ho:o.op=.call { callee:=.builtin .append,args:= #[s',x'],argTypes:= #[22,22] }) (base:Nat) (v:Value) (I:List ByteArray) (hs:a.eval s'=v) (hown:Txs w base v I) (q:Nat) (x:ByteArray) (hx:a.eval x'=.slice (some ⟨q,0,none⟩) 1 1)
 (hc:w.cell? ⟨q,0,none⟩=some (.string x)) (hl:I.length<=1048576) (hbase:base<=w.heap.size)
 (h: ∀v' w',Txs w' base v' (I++[x])->w.grownBy w' v.ownBlock->(v'.ownBlock=v.ownBlock\/ ∀k,v'.ownBlock=some k->w.heap.size<=k)->wpList Tryz.prog ops Q rest (a.put o.dst v') w'):wpList Tryz.prog ops Q (o::rest) a w:=by
 obtain⟨i0,hi,hz0,hz1,hz2⟩:=info_parts ql3
 obtain⟨v',w',hrun,h1,h2,h3⟩:=qc6 (P:=Tryz.prog) w base 22 o.type 9 i0 _ 1 16 Tryz.underlying22 hi hz0 hz1 hz2 rfl (by decide) v I.length (I.map Value.string) hown ⟨q,0,none⟩ 1 1 [.string x] rfl
  (fun j y hj=>by
   match j,hj with
   | 0,hj=>simp only[List.getElem?_cons_zero,Option.some.injEq]at hj;subst hj;rw[show(⟨q,0,none⟩:Addr).add 0=⟨q,0,none⟩by simp[Addr.add]];exact hc
   | j+1,hj=>simp at hj)
  (by intro y hy;simp only[List.mem_cons,List.not_mem_nil,or_false]at hy;subst hy;rfl) (by unfold maxLen;omega) (by omega) hbase
 refine wpList_plain hgd fun K hK=>?_
 unfold Oper.wp
 simp[execOp,ho,resolve,invoke,builtin,hs,hx,hrun,Result.andThen]
 exact hK _ _ (h v' w' (by unfold Txs;rw[List.length_append,List.map_append];exact h1) h2 h3)
section
variable{W0 W:World}{g:Nat}{s:ByteArray}{E:Env}{tv:Value}{L:PLay}{σ:PM}
theorem MM.toLe(h:MM W0 g s E tv W L σ):E.to<=1048576/\σ.i<=E.to:=by
 obtain⟨td,np,past,r1,-⟩:=h.rd
 exact⟨zJ r1.tl r1.len,r1.il⟩
theorem MM.caA(h:MM W0 g s E tv W L σ){c:Nat}{x:Chn}(hx:σ.C[c]?=some x): ∃ca cc aa ac,(W.cell? ⟨L.B c,0,none⟩=some (.pointer (some ⟨g,0,none⟩))/\W.cell? ⟨L.B c,1,none⟩=some (.int .i64 x.lv)/\W.cell? ⟨L.B c,2,none⟩=some (.slice ca x.ct cc)/\W.cell? ⟨L.B c,3,none⟩=some (.slice aa x.ah.length ac))/\
 Txs W W0.heap.size (.slice ca x.ct cc) (qf6 x.ct)/\Txs W W0.heap.size (.slice aa x.ah.length ac) x.ah/\(∀j,W.frozen? ⟨L.B c,j,none⟩=false)/\
 (∀(W1 w4:World) (v':Value),Below W.heap.size W W1->Txs w4 W0.heap.size v' (qf6 x.ct++[⟨#[99,97,116,99,104]⟩])->W1.grownBy w4 (Value.slice ca x.ct cc).ownBlock->(v'.ownBlock=(Value.slice ca x.ct cc).ownBlock\/ ∀k,v'.ownBlock=some k->W1.heap.size<=k)->
  w4.cell? ⟨L.B c,2,none⟩=some (.slice ca x.ct cc)/\w4.frozen? ⟨L.B c,2,none⟩=false/\ ∃M,MM W0 g s E tv (w4.setCell ⟨L.B c,2,none⟩ v') M (σ.setC c { x with ct:=x.ct+1 })/\MX W0.heap.size W L σ.N.length σ.C.length (w4.setCell ⟨L.B c,2,none⟩ v') M σ.N.length (σ.setC c { x with ct:=x.ct+1 }).C.length/\M.B=L.B)/\
 (∀(W1 w4:World) (v':Value) (t:ByteArray),Below W.heap.size W W1->Txs w4 W0.heap.size v' (x.ah++[t])->W1.grownBy w4 (Value.slice aa x.ah.length ac).ownBlock->(v'.ownBlock=(Value.slice aa x.ah.length ac).ownBlock\/ ∀k,v'.ownBlock=some k->W1.heap.size<=k)->
  w4.cell? ⟨L.B c,3,none⟩=some (.slice aa x.ah.length ac)/\(∀j,w4.frozen? ⟨L.B c,j,none⟩=false)/\w4.cell? ⟨L.B c,6,none⟩=some (.int .i64 x.hs)/\ ∃M,MM W0 g s E tv ((w4.setCell ⟨L.B c,3,none⟩ v').setCell ⟨L.B c,6,none⟩ (.int .i64 10)) M (σ.setC c { x with ah:=x.ah++[t],hs:=10 })/\MX W0.heap.size W L σ.N.length σ.C.length ((w4.setCell ⟨L.B c,3,none⟩ v').setCell ⟨L.B c,6,none⟩ (.int .i64 10)) M σ.N.length (σ.setC c { x with ah:=x.ah++[t],hs:=10 }).C.length/\M.B=L.B):=by
 obtain⟨a1,cv,av,h1,h2,h2o,h4,h4o⟩:=h.chs c x hx
 obtain⟨ca,cc,rfl⟩:=qbj h2
 obtain⟨aa,ac,rfl⟩:=qbj h4
 have e1:(qf6 x.ct).length=x.ct:=zE
 rw[e1]at h1 h2 h2o
 have cells:=fun(W':World) (h1:ChB W' (L.B c) g x.lv (.slice ca x.ct cc) (.slice aa x.ah.length ac) x.st (lfV L x.lf) x.hs)=>(show W'.cell? ⟨L.B c,0,none⟩=some (.pointer (some ⟨g,0,none⟩))/\W'.cell? ⟨L.B c,1,none⟩=some (.int .i64 x.lv)/\W'.cell? ⟨L.B c,2,none⟩=some (.slice ca x.ct cc)/\W'.cell? ⟨L.B c,3,none⟩=some (.slice aa x.ah.length ac)/\W'.cell? ⟨L.B c,6,none⟩=some (.int .i64 x.hs)from⟨by rw[cell_of_row W' _ _ _ _ _ h1];rfl,by rw[cell_of_row W' _ _ _ _ _ h1];rfl,by rw[cell_of_row W' _ _ _ _ _ h1];rfl,by rw[cell_of_row W' _ _ _ _ _ h1];rfl,by rw[cell_of_row W' _ _ _ _ _ h1];rfl⟩)
 have hBl:L.B c<W.heap.size:=lt_of_block h1
 refine⟨ca,cc,aa,ac,⟨(cells W h1).1,(cells W h1).2.1,(cells W h1).2.2.1,(cells W h1).2.2.2.1⟩,h2,h4,qaw h1,fun W1 w4 v' hb k1 k2 k3=>?_,fun W1 w4 v' t hb k1 k2 k3=>?_⟩
 ·have h':=h.below hb
  have g1:ChB W1 (L.B c) g x.lv (.slice ca x.ct cc) (.slice aa x.ah.length ac) x.st (lfV L x.lf) x.hs:=(hb.block _ hBl).trans h1
  have g2:ChB w4 (L.B c) g x.lv (.slice ca x.ct cc) (.slice aa x.ah.length ac) x.st (lfV L x.lf) x.hs:=(k2.block _ (zK hBl hb.size) (fun e=>by have:=h2o _ e.symm;rw[a1]at this;cases this)).trans g1
  obtain⟨M,m1,m2,-,m4⟩:=h'.pushCa hx g1 (qc9 h2 hb) h2o (qc9 h4 hb) h4o _ rfl v' k1 k2 k3
  exact⟨(cells w4 g2).2.2.1,qaw g2 2,M,m1,(h.mxb hb).trans m2,m4⟩
 ·have h':=h.below hb
  have g1:ChB W1 (L.B c) g x.lv (.slice ca x.ct cc) (.slice aa x.ah.length ac) x.st (lfV L x.lf) x.hs:=(hb.block _ hBl).trans h1
  have g2:ChB w4 (L.B c) g x.lv (.slice ca x.ct cc) (.slice aa x.ah.length ac) x.st (lfV L x.lf) x.hs:=(k2.block _ (zK hBl hb.size) (fun e=>by have:=h4o _ e.symm;rw[a1]at this;cases this)).trans g1
  obtain⟨M,m1,m2,-,m4⟩:=h'.pushAh hx g1 (qc9 h2 hb) h2o (qc9 h4 hb) h4o t trivial v' k1 k2 k3
  have s1:=m1.setHs (qb2 hx) 10
  rw[qki,m4]at s1
  exact⟨(cells w4 g2).2.2.2.1,qaw g2,(cells w4 g2).2.2.2.2,M,s1.1,(h.mxb hb).trans (m2.trans s1.2),m4⟩
end
end Go.Proofs.YtdhadeeajgoedaaGreat
