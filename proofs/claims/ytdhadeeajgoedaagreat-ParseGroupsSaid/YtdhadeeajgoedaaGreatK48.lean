/-
  What the claims stand on: PmStepQ.
-/
import Derived.Test.YtdhadeeajgoedaaGreatK08
import Derived.Test.YtdhadeeajgoedaaGreatK42
import Derived.Test.YtdhadeeajgoedaaGreatK43
import Derived.Test.YtdhadeeajgoedaaGreatK44
set_option maxRecDepth 100000
set_option maxHeartbeats 4000000
set_option linter.unusedVariables false
set_option linter.unusedSimpArgs false
open List renaming getElem_cons_succ→zA,getElem_cons_zero→zB,getElem_toArray→zC,length_replicate→zD,replicate→zE,setIfInBounds_toArray→zF,set_cons_succ→zG,set_cons_zero→zH
namespace Go.Proofs.YtdhadeeajgoedaaGreat
open Go.RowKit Go.PlainAid
section
variable{W0 W:World}{g:Nat}{s:ByteArray}{E:Env}{tv:Value}{L:PLay}{σ:PM}
theorem MM.chall(h:MM W0 g s E tv W L σ){c:Nat}{ch:Chn}(hc:σ.C[c]?=some ch): ∃ca cc aa ac,(W.cell? ⟨L.B c,0,none⟩=some (.pointer (some ⟨g,0,none⟩))/\W.cell? ⟨L.B c,1,none⟩=some (.int .i64 ch.lv)/\W.cell? ⟨L.B c,2,none⟩=some (.slice ca ch.ct cc)/\W.cell? ⟨L.B c,3,none⟩=some (.slice aa ch.ah.length ac)/\W.cell? ⟨L.B c,4,none⟩=some (.bool ch.st)/\W.cell? ⟨L.B c,5,none⟩=some (lfV L ch.lf)/\W.cell? ⟨L.B c,6,none⟩=some (.int .i64 ch.hs))/\StAt W (.slice ca ch.ct cc) (ctLs ch.ct)/\StAt W (.slice aa ch.ah.length ac) ch.ah/\ ∀j,W.frozen? ⟨L.B c,j,none⟩=false:=by
 obtain⟨-,cv,av,h1,h2,-,h4,-⟩:=h.chs c ch hc
 obtain⟨ca,cc,rfl⟩:=qbp h2
 obtain⟨aa,ac,rfl⟩:=qbp h4
 have e1:(ctLs ch.ct).length=ch.ct:=zD
 rw[e1]at h1 h2
 exact⟨ca,cc,aa,ac,⟨by rw[cell_of_row W _ _ _ _ _ h1];rfl,by rw[cell_of_row W _ _ _ _ _ h1];rfl,by rw[cell_of_row W _ _ _ _ _ h1];rfl,by rw[cell_of_row W _ _ _ _ _ h1];rfl,by rw[cell_of_row W _ _ _ _ _ h1];rfl,by rw[cell_of_row W _ _ _ _ _ h1];rfl,by rw[cell_of_row W _ _ _ _ _ h1];rfl⟩,qts h2,qts h4,qav h1⟩
theorem qhk{c:Nat}{x:Chn}(h:σ.C[c]?=some x):σ.ch c=.ok x:=by
 unfold PM.ch;rw[h]
theorem qko(n:Nat):(ctLs n).reverse=zE n ⟨#[99,97,116,99,104]⟩:=List.reverse_replicate ..
theorem qmx{n:Nat}: ∀X∈ctLs n,X.size<=1048576:=fun X hX=>by
 rw[List.eq_of_mem_replicate hX];decide
theorem qqh: ∀(T:List ByteArray) (n:Nat) (σ:PM) (r:Nat×PM),undL T n σ=.ok r->r.2.C=σ.C/\r.2.i=σ.i/\r.2.k=σ.k
 | [],_,_,_,h=>by cases h;exact⟨rfl,rfl,rfl⟩
 | a::T,n,σ,r,h=>by
  obtain⟨x,_,h2⟩:=qj7 h
  obtain⟨q1,q2,q3⟩:=qqh T _ _ r h2
  exact⟨q1,q2,q3⟩
theorem qi5: ∀(T:List ByteArray) (n:Nat) (σ:PM) (e:Bad),undL T n σ=.error e->e=.stuck
 | [],_,_,_,h=>by cases h
 | a::T,n,σ,e,h=>by
  have h:(σ.nd n >>= fun x=>undL T σ.N.length ((σ.mv n).new (nkt 13 a [x])))=.error e:=h
  cases hn:σ.nd n with
  | error b=>rw[hn]at h;cases h;exact qdv hn
  | ok x=>rw[hn]at h;exact qi5 T _ _ e h
theorem qqa{i:Nat}{e:Bad}(h:tkE E i=.error e):e=.die:=by
 unfold tkE at h
 split at h
 ·cases h
 ·cases h;rfl
theorem qrw{i:Nat}(h: ¬(bn (opE E i).toList:Int)<1):E.pk i<E.to:=by
 have h1:(nxE E i).1=9\/(nxE E i).1=8:=by
  unfold opE at h
  by_cases e:(nxE E i).1=9\/(nxE E i).1=8
  ·exact e
  ·rw[if_neg e]at h
   exact absurd (by rw[ByteArray.toList_eq];decide) h
 by_cases e:E.pk i<E.to
 ·exact e
 ·rw[qh4 e]at h1
  rcases h1 with h1 | h1<;>cases h1
theorem qnn(h:MM W0 g s E tv W L σ)(hk:σ.k.length<=274877906944){c:Nat}{ch:Chn}(hc:σ.C[c]?=some ch)(hct:ch.ct<=1000000000)(hns:qbm E c σ≠ .error .stuck):
 Calls Tryz.prog 125 #[.pointer (some ⟨L.B c,0,none⟩)] W (SO (qbm E c σ) W0 g s E tv W L σ.N.length σ.C.length):=by
 obtain⟨R,hR⟩: ∃R:Rs PM,R=qbm E c σ:=⟨_,rfl⟩
 rw[<-hR]at hns⊢
 have HR:=zh hR
 have HNS:=zh hns
 have H0:=zh h
 have HK:=zh hk
 have HC:=zh hc
 have HCT:=zh hct
 have X0:=zh (MX.refl W0.heap.size W L σ.N.length σ.C.length)
 clear h hR hk hc hct hns
 cases hlf:ch.lf with
 | none=>exact absurd (by rw[HR.out];show(σ.ch c >>= fun h=>_)=_;rw[qhk HC.out];show(match ch.lf with | none=>_ | some l=>_)=_;rw[hlf]) HNS.out
 | some l=>
 have HLF:=zh hlf
 clear hlf
 go_enter Tryz.func125,Tryz.ntmps125
 have hb:=qa1 W (.cells #[.pointer (some ⟨L.B c,0,none⟩)] 85)
 have B_cp:=zh (H0.out.boxT (W.heap.size) (by simp) (.pointer (some ⟨L.B c,0,none⟩)) 85)
 have H1:=zh (H0.out.below hb)
 have Y1:=zh (H0.out.mxb hb)
 have X1:=zh (X0.out.trans Y1.out)
 clear hb
 obtain⟨ca1,cb1,aa1,ab1,⟨c0_1,c1_1,c2_1,c3_1,c4_1,c5_1,c6_1⟩,hca1,hah1,hcf1⟩:=H1.out.chall HC.out
 have HCA1:=zh hca1
 clear hca1 hah1 hcf1 c3_1 c4_1
 rw[HLF.out]at c5_1
 unfold lfV ptr at c5_1
 go_wp2_with fail
 have q2:=qrx H1.out
 try unfold ptr at q2
 refine q2.mono ?_
 clear q2
 rintro e w2 ⟨rfl,hm,hx⟩
 have H2:=zh hm
 have Y2:=zh hx
 have X2:=zh (X1.out.trans Y2.out)
 have B_cp_2:=zh (Y2.out.box B_cp.out)
 have ccp2:=B_cp_2.out.cellv
 clear hm hx
 clear c0_1 c1_1 c2_1 c5_1 c6_1
 have hb:=qa1 w2 (.cells #[.string (opE E σ.i)] 9)
 have B_op:=zh (H2.out.boxT (w2.heap.size) (by simp) (.string (opE E σ.i)) 9)
 have H3:=zh (H2.out.below hb)
 have Y3:=zh (H2.out.mxb hb)
 have X3:=zh (X2.out.trans Y3.out)
 have B_cp_3:=zh (Y3.out.box B_cp_2.out)
 have ccp3:=B_cp_3.out.cellv
 clear hb
 go_wp2_with fail
 refine(qky _ _).mono ?_
 rintro e w4 ⟨rfl,hb⟩
 have H4:=zh (H3.out.below hb)
 have Y4:=zh (H3.out.mxb hb)
 have X4:=zh (X3.out.trans Y4.out)
 have B_cp_4:=zh (Y4.out.box B_cp_3.out)
 have ccp4:=B_cp_4.out.cellv
 have B_op_4:=zh (Y4.out.box B_op.out)
 have cop4:=B_op_4.out.cellv
 clear hb
 have hb:=qa1 w4 (.cells #[.int .i64 (bn (opE E σ.i).toList:Int)] 3)
 have B_own:=zh (H4.out.boxT (w4.heap.size) (by simp) (.int .i64 (bn (opE E σ.i).toList:Int)) 3)
 have H5:=zh (H4.out.below hb)
 have Y5:=zh (H4.out.mxb hb)
 have X5:=zh (X4.out.trans Y5.out)
 have B_cp_5:=zh (Y5.out.box B_cp_4.out)
 have ccp5:=B_cp_5.out.cellv
 have B_op_5:=zh (Y5.out.box B_op_4.out)
 have cop5:=B_op_5.out.cellv
 clear hb
 obtain⟨ca5,cb5,aa5,ab5,⟨c0_5,c1_5,c2_5,c3_5,c4_5,c5_5,c6_5⟩,hca5,hah5,hcf5⟩:=H5.out.chall HC.out
 have HCA5:=zh hca5
 clear hca5 hah5 hcf5 c3_5 c4_5
 rw[HLF.out]at c5_5
 unfold lfV ptr at c5_5
 have HQ:Hid (∀ {w':World} {L':PLay} {τ:PM} {nN nC:Nat},MX W0.heap.size (w4.alloc (.cells #[.int .i64 (bn (opE E σ.i).toList:Int)] 3)) L σ.N.length σ.C.length w' L' nN nC->MM W0 g s E tv w' L' τ->τ.C=σ.C->w'.cell? ⟨W.heap.size,0,none⟩=some (.pointer (some ⟨L.B c,0,none⟩))/\w'.cell? ⟨w2.heap.size,0,none⟩=some (.string (opE E σ.i))/\w'.cell? ⟨L.B c,0,none⟩=some (.pointer (some ⟨g,0,none⟩))):=zh (fun hx hm hc=>⟨hx.cell B_cp_5.out,hx.cell B_op_5.out,by have h9:=(hm.chall (c:=c) (ch:=ch) (by rw[hc];exact HC.out));obtain⟨_,_,_,_,⟨h9,-⟩,-⟩:=h9;rw[hx.B c (List.getElem?_eq_some_iff.1 HC.out).1]at h9;exact h9⟩)
 go_upto_region 3 with fail
 go_cut [26]from 11 to 26 (fun v wx=> ∃b,v=.bool b/\Hid (b=(decide ((bn (opE E σ.i).toList:Int)<max ch.lv 1)||decide (ch.hs< (lf (opE E σ.i).toList:Int))))/\Hid (Below ((w4.alloc (.cells #[.int .i64 (bn (opE E σ.i).toList:Int)] 3))).heap.size ((w4.alloc (.cells #[.int .i64 (bn (opE E σ.i).toList:Int)] 3))) wx))
 case first=>
  by_cases h1:(bn (opE E σ.i).toList:Int)<max ch.lv 1
  ·have hd1:decide ((bn (opE E σ.i).toList:Int)<max ch.lv 1)=true:=decide_eq_true h1
   have hd2:(decide ((bn (opE E σ.i).toList:Int)<max ch.lv 1)||decide (ch.hs< (lf (opE E σ.i).toList:Int)))=true:=by rw[hd1];rfl
   have HD2:=zh hd2
   clear h1 hd2
   go_quiet (fail)
   all_goals go_wp2_with fail
   all_goals go_meet
   all_goals exact⟨_,rfl,zh HD2.out.symm,zh (qac _ _)⟩
  ·have hd1:decide ((bn (opE E σ.i).toList:Int)<max ch.lv 1)=false:=decide_eq_false h1
   have hd2:(decide ((bn (opE E σ.i).toList:Int)<max ch.lv 1)||decide (ch.hs< (lf (opE E σ.i).toList:Int)))=decide (ch.hs< (lf (opE E σ.i).toList:Int)):=by rw[hd1];rfl
   have HD2:=zh hd2
   clear h1 hd2
   have hb9:=Below.drew (Below.refl ((w4.alloc (.cells #[.int .i64 (bn (opE E σ.i).toList:Int)] 3))).heap.size ((w4.alloc (.cells #[.int .i64 (bn (opE E σ.i).toList:Int)] 3))))
   have HB9:=zh hb9
   clear hb9
   have HS2:Hid (∀ {w':World},Below ((w4.alloc (.cells #[.int .i64 (bn (opE E σ.i).toList:Int)] 3))).heap.size ((w4.alloc (.cells #[.int .i64 (bn (opE E σ.i).toList:Int)] 3))) w'->w'.cell? ⟨W.heap.size,0,none⟩=some (.pointer (some ⟨L.B c,0,none⟩))/\w'.cell? ⟨w2.heap.size,0,none⟩=some (.string (opE E σ.i))/\w'.cell? ⟨w4.heap.size,0,none⟩=some (.int .i64 (bn (opE E σ.i).toList:Int))/\w'.cell? ⟨L.B c,1,none⟩=some (.int .i64 ch.lv)/\w'.cell? ⟨L.B c,6,none⟩=some (.int .i64 ch.hs)):=zh (fun hb=>by
    have hx:=H5.out.mxb hb
    obtain⟨_,_,_,_,⟨-,h1,-,-,-,-,h6⟩,-⟩:=(H5.out.below hb).chall HC.out
    exact⟨hx.cell B_cp_5.out,hx.cell B_op_5.out,hx.cell B_own.out,h1,h6⟩)
   refine wp_region_noPanic ?_
   refine wp_region_held_drew (S:=(fun w'=>w'.cell? ⟨W.heap.size,0,none⟩=some (.pointer (some ⟨L.B c,0,none⟩))/\w'.cell? ⟨w2.heap.size,0,none⟩=some (.string (opE E σ.i))/\w'.cell? ⟨w4.heap.size,0,none⟩=some (.int .i64 (bn (opE E σ.i).toList:Int))/\w'.cell? ⟨L.B c,1,none⟩=some (.int .i64 ch.lv)/\w'.cell? ⟨L.B c,6,none⟩=some (.int .i64 ch.hs))) (by kernel_rfl) (by(try dsimp only);(first | exact HS2.out HB8.out | exact HS2.out HB9.out)) (fun hHeld=>?_)
   refine wpAnyH_take (i:=0) (v:=?_) rfl (by kernel_rfl) (by kernel_rfl) (by kernel_rfl) (fun _ _ _ h=>h) (Or.inl ⟨by rfl,?_⟩) (by assumption) ?_
   rotate_left 1
   ·(intro w' hSw;(try dsimp only at hSw);go_simp;(first | done | with_reducible rfl))
   try simp only[Act.put,zF,zH,zG,zC,zB,zA]
   refine wpAnyH_take (i:=1) (v:=?_) rfl (by kernel_rfl) (by kernel_rfl) (by kernel_rfl) (fun _ _ _ h=>h) (Or.inl ⟨by rfl,?_⟩) (by assumption) ?_
   rotate_left 1
   ·(intro w' hSw;(try dsimp only at hSw);go_simp;(first | done | with_reducible rfl))
   try simp only[Act.put,zF,zH,zG,zC,zB,zA]
   refine wpAnyH_take (i:=2) (v:=?_) rfl (by kernel_rfl) (by kernel_rfl) (by kernel_rfl) (fun _ _ _ h=>h) (Or.inl ⟨by rfl,?_⟩) (by assumption) ?_
   rotate_left 1
   ·(intro w' hSw;(try dsimp only at hSw);go_simp;(first | done | with_reducible rfl))
   try simp only[Act.put,zF,zH,zG,zC,zB,zA]
   refine wpAnyH_take (i:=3) (v:=?_) rfl (by kernel_rfl) (by kernel_rfl) (by kernel_rfl) (fun _ _ _ h=>h) (Or.inl ⟨by rfl,?_⟩) (by assumption) ?_
   rotate_left 1
   ·(intro w' hSw;(try dsimp only at hSw);go_simp;(first | done | with_reducible rfl))
   try simp only[Act.put,zF,zH,zG,zC,zB,zA]
   refine wpAnyH_take (i:=4) (v:=?_) rfl (by kernel_rfl) (by kernel_rfl) (by kernel_rfl) (fun _ _ _ h=>h) (Or.inl ⟨by rfl,?_⟩) (by assumption) ?_
   rotate_left 1
   ·(intro w' hSw;(try dsimp only at hSw);go_simp;(first | done | with_reducible rfl))
   try simp only[Act.put,zF,zH,zG,zC,zB,zA]
   refine wpAnyH_ready (rs:=[5]) (by kernel_rfl) (by simp) ?_
   refine(AllReadyH.cons rfl (fun K hK=>?_) AllReadyH.nil)
   go_simp
   try (first | (go_at_call 154;refine(qiw _ _).mono ?_;rintro e w8 ⟨rfl,hb⟩;have HB8:=zh (HB9.out.trans (hb.mono HB9.out.size));clear hb))
   refine hK.out _ _ (by(try dsimp only);(first | exact HS2.out HB8.out | exact HS2.out HB9.out)) (fun hHeld=>?_)
   clear hK K
   try simp only[Act.put,zF,zH,zG,zC,zB,zA]
   refine wpAnyH_take (i:=6) (v:=?_) rfl (by kernel_rfl) (by kernel_rfl) (by kernel_rfl) (fun _ _ _ h=>h) (Or.inl ⟨by rfl,?_⟩) (by assumption) ?_
   rotate_left 1
   ·(intro w' hSw;(try dsimp only at hSw);go_simp;(first | done | with_reducible rfl))
   try simp only[Act.put,zF,zH,zG,zC,zB,zA]
   refine wpAnyH_take (i:=7) (v:=?_) rfl (by kernel_rfl) (by kernel_rfl) (by kernel_rfl) (fun _ _ _ h=>h) (Or.inl ⟨by rfl,?_⟩) (by assumption) ?_
   rotate_left 1
   ·(intro w' hSw;(try dsimp only at hSw);go_simp;(first | done | with_reducible rfl))
   try simp only[Act.put,zF,zH,zG,zC,zB,zA]
   refine wpAnyH_take (i:=8) (v:=?_) rfl (by kernel_rfl) (by kernel_rfl) (by kernel_rfl) (fun _ _ _ h=>h) (Or.inl ⟨by rfl,?_⟩) (by assumption) ?_
   rotate_left 1
   ·(intro w' hSw;(try dsimp only at hSw);go_simp;(first | done | with_reducible rfl))
   try simp only[Act.put,zF,zH,zG,zC,zB,zA]
   refine wpAnyH_take (i:=9) (v:=?_) rfl (by kernel_rfl) (by kernel_rfl) (by kernel_rfl) (fun _ _ _ h=>h) (Or.inl ⟨by rfl,?_⟩) (by assumption) ?_
   rotate_left 1
   ·(intro w' hSw;(try dsimp only at hSw);go_simp;(first | done | with_reducible rfl))
   try simp only[Act.put,zF,zH,zG,zC,zB,zA]
   refine wpAnyH_take (i:=10) (v:=?_) rfl (by kernel_rfl) (by kernel_rfl) (by kernel_rfl) (fun _ _ _ h=>h) (Or.inl ⟨by rfl,?_⟩) (by assumption) ?_
   rotate_left 1
   ·(intro w' hSw;(try dsimp only at hSw);go_simp;(first | done | with_reducible rfl))
   try simp only[Act.put,zF,zH,zG,zC,zB,zA]
   refine wpAnyH_take (i:=11) (v:=?_) rfl (by kernel_rfl) (by kernel_rfl) (by kernel_rfl) (fun _ _ _ h=>h) (Or.inl ⟨by rfl,?_⟩) (by assumption) ?_
   rotate_left 1
   ·(intro w' hSw;(try dsimp only at hSw);go_simp;(first | done | with_reducible rfl))
   try simp only[Act.put,zF,zH,zG,zC,zB,zA]
   refine wpAnyH_take (i:=12) (v:=?_) rfl (by kernel_rfl) (by kernel_rfl) (by kernel_rfl) (fun _ _ _ h=>h) (Or.inl ⟨by rfl,?_⟩) (by assumption) ?_
   rotate_left 1
   ·(intro w' hSw;(try dsimp only at hSw);go_simp;(first | done | with_reducible rfl))
   try simp only[Act.put,zF,zH,zG,zC,zB,zA]
   refine wpAnyH_ready (rs:=[13]) (by kernel_rfl) (by simp) ?_
   refine(AllReadyH.cons rfl (fun K hK=>?_) AllReadyH.nil)
   go_simp
   try (first | (go_at_call 154;refine(qiw _ _).mono ?_;rintro e w8 ⟨rfl,hb⟩;have HB8:=zh (HB9.out.trans (hb.mono HB9.out.size));clear hb))
   refine hK.out _ _ (by(try dsimp only);(first | exact HS2.out HB8.out | exact HS2.out HB9.out)) (fun hHeld=>?_)
   clear hK K
   try simp only[Act.put,zF,zH,zG,zC,zB,zA]
   refine wpAnyH_take (i:=14) (v:=?_) rfl (by kernel_rfl) (by kernel_rfl) (by kernel_rfl) (fun _ _ _ h=>h) (Or.inl ⟨by rfl,?_⟩) (by assumption) ?_
   rotate_left 1
   ·(intro w' hSw;(try dsimp only at hSw);go_simp;(first | done | with_reducible rfl))
   try simp only[Act.put,zF,zH,zG,zC,zB,zA]
   refine wpAnyH_take (i:=15) (v:=?_) rfl (by kernel_rfl) (by kernel_rfl) (by kernel_rfl) (fun _ _ _ h=>h) (Or.inl ⟨by rfl,?_⟩) (by assumption) ?_
   rotate_left 1
   ·(intro w' hSw;(try dsimp only at hSw);go_simp;(first | done | with_reducible rfl))
   try simp only[Act.put,zF,zH,zG,zC,zB,zA]
   refine wpAnyH_done (by kernel_rfl) ?_ _
   refine NoPanic.normal ?_
   all_goals go_wp2_with fail
   all_goals go_meet
   all_goals exact⟨_,rfl,zh HD2.out.symm,zh HB8.out⟩
 case rest=>
  obtain⟨b9,rfl,HB9,HW9⟩:=hcut
  clear c0_5 c1_5 c2_5 c5_5 c6_5
  have H6:=zh (H5.out.below HW9.out)
  have Y6:=zh (H5.out.mxb HW9.out)
  have X6:=zh (X5.out.trans Y6.out)
  have B_cp_6:=zh (Y6.out.box B_cp_5.out)
  have ccp6:=B_cp_6.out.cellv
  have B_op_6:=zh (Y6.out.box B_op_5.out)
  have cop6:=B_op_6.out.cellv
  have B_own_6:=zh (Y6.out.box B_own.out)
  have cown6:=B_own_6.out.cellv
  have XQ:=zh (H5.out.mxb HW9.out)
  cases b9 with
  | true=>
   have hcnd:(bn (opE E σ.i).toList:Int)<max ch.lv 1\/ch.hs< (lf (opE E σ.i).toList:Int):=by
    have h9:=HB9.out
    rcases Decidable.em ((bn (opE E σ.i).toList:Int)<max ch.lv 1)with h | h
    ·exact .inl h
    ·rw[decide_eq_false h,Bool.false_or]at h9
     exact .inr (of_decide_eq_true h9.symm)
   have HRU:Hid (R=(undL (zE ch.ct ⟨#[99,97,116,99,104]⟩) l σ >>= fun r=>.ok (r.2.is r.1))):=zh (by
    rw[HR.out];show(σ.ch c >>= fun h=>_)=_;rw[qhk HC.out];show(match ch.lf with | none=>_ | some l=>_)=_;rw[HLF.out];show(if(bn (opE E σ.i).toList:Int)<max ch.lv 1\/ch.hs< (lf (opE E σ.i).toList:Int)then(undL (zE ch.ct ⟨#[99,97,116,99,104]⟩) l σ >>= fun r=>.ok (r.2.is r.1))else(tkE E σ.i >>= fun j=>.ok ((σ.at_ j).plan [.expr (rt (opE E σ.i).toList:Int),.join c (opE E σ.i) (bn (opE E σ.i).toList)])))=_
    rw[if_pos hcnd])
   clear hcnd
   cases hun:undL (zE ch.ct ⟨#[99,97,116,99,104]⟩) l σ with
   | error e9=>
    have:=qi5 _ _ _ _ hun
    subst this
    exact absurd (by rw[HRU.out,hun];rfl) HNS.out
   | ok r9=>
    have HUN:=zh hun
    have HUC:=zh (qqh _ _ _ _ hun)
    clear hun
    obtain rfl:R=.ok (r9.2.is r9.1):=by
     rw[HRU.out,HUN.out];rfl
    obtain⟨ca6,cb6,aa6,ab6,⟨c0_6,c1_6,c2_6,c3_6,c4_6,c5_6,c6_6⟩,hca6,hah6,hcf6⟩:=H6.out.chall HC.out
    have HCA6:=zh hca6
    clear hca6 hah6 hcf6 c3_6 c4_6
    rw[HLF.out]at c5_6
    unfold lfV ptr at c5_6
    have HLL:=zh (show l<σ.N.length from H6.out.lfb c ch l HC.out HLF.out)
    have hb9:=Below.drew (Below.refl wc.heap.size wc)
    have HD9:=zh hb9
    clear hb9
    have HMD:=zh (H6.out.below HD9.out)
    have HXD:=zh (XQ.out.trans (H6.out.mxb HD9.out))
    obtain⟨caD,cbD,aaD,abD,⟨d0,d1,d2,d3,d4,d5,d6⟩,hcaD,hahD,hcfD⟩:=HMD.out.chall HC.out
    obtain⟨rfl,rfl⟩:caD=ca6/\cbD=cb6:=by
     have h9:wc.drew.cell? ⟨L.B c,2,none⟩=some (.slice ca6 ch.ct cb6):=c2_6
     rw[h9]at d2
     simp only[Option.some.injEq,Value.slice.injEq]at d2
     exact⟨d2.1.symm,d2.2.2.symm⟩
    have HCAD:=zh hcaD
    clear d0 d1 d2 d3 d4 d5 d6 hcaD hahD hcfD
    go_wp2_with fail
    refine wp_region_noPanic ?_
    refine wp_region_held_drew (S:=(fun w'=>w'.cell? ⟨W.heap.size,0,none⟩=some (.pointer (some ⟨L.B c,0,none⟩))/\w'.cell? ⟨w2.heap.size,0,none⟩=some (.string (opE E σ.i))/\w'.cell? ⟨L.B c,0,none⟩=some (.pointer (some ⟨g,0,none⟩)))) (by kernel_rfl) (by(try dsimp only);(first | exact HQ.out XQ8.out HS9.out.1 HUC.out.1 | exact HQ.out XQ7.out H7.out HUC.out.1 | exact HQ.out HXD.out HMD.out rfl)) (fun hHeld=>?_)
    refine wpAnyH_take (i:=0) (v:=?_) rfl (by kernel_rfl) (by kernel_rfl) (by kernel_rfl) (fun _ _ _ h=>h) (Or.inl ⟨by rfl,?_⟩) (by assumption) ?_
    rotate_left 1
    ·(intro w' hSw;(try dsimp only at hSw);go_simp;(first | done | with_reducible rfl))
    try simp only[Act.put,zF,zH,zG,zC,zB,zA]
    refine wpAnyH_take (i:=1) (v:=?_) rfl (by kernel_rfl) (by kernel_rfl) (by kernel_rfl) (fun _ _ _ h=>h) (Or.inl ⟨by rfl,?_⟩) (by assumption) ?_
    rotate_left 1
    ·(intro w' hSw;(try dsimp only at hSw);go_simp;(first | done | with_reducible rfl))
    try simp only[Act.put,zF,zH,zG,zC,zB,zA]
    refine wpAnyH_take (i:=2) (v:=?_) rfl (by kernel_rfl) (by kernel_rfl) (by kernel_rfl) (fun _ _ _ h=>h) (Or.inl ⟨by rfl,?_⟩) (by assumption) ?_
    rotate_left 1
    ·(intro w' hSw;(try dsimp only at hSw);go_simp;(first | done | with_reducible rfl))
    try simp only[Act.put,zF,zH,zG,zC,zB,zA]
    refine wpAnyH_take (i:=3) (v:=?_) rfl (by kernel_rfl) (by kernel_rfl) (by kernel_rfl) (fun _ _ _ h=>h) (Or.inl ⟨by rfl,?_⟩) (by assumption) ?_
    rotate_left 1
    ·(intro w' hSw;(try dsimp only at hSw);go_simp;(first | done | with_reducible rfl))
    try simp only[Act.put,zF,zH,zG,zC,zB,zA]
    refine wpAnyH_take (i:=4) (v:=?_) rfl (by kernel_rfl) (by kernel_rfl) (by kernel_rfl) (fun _ _ _ h=>h) (Or.inl ⟨by rfl,?_⟩) (by assumption) ?_
    rotate_left 1
    ·(intro w' hSw;(try dsimp only at hSw);go_simp;(first | done | with_reducible rfl))
    try simp only[Act.put,zF,zH,zG,zC,zB,zA]
    refine wpAnyH_take (i:=5) (v:=?_) rfl (by kernel_rfl) (by kernel_rfl) (by kernel_rfl) (fun _ _ _ h=>h) (Or.inl ⟨by rfl,?_⟩) (by assumption) ?_
    rotate_left 1
    ·(intro w' hSw;(try dsimp only at hSw);go_simp;(first | done | with_reducible rfl))
    try simp only[Act.put,zF,zH,zG,zC,zB,zA]
    refine wpAnyH_take (i:=6) (v:=?_) rfl (by kernel_rfl) (by kernel_rfl) (by kernel_rfl) (fun _ _ _ h=>h) (Or.inl ⟨by rfl,?_⟩) (by assumption) ?_
    rotate_left 1
    ·(intro w' hSw;(try dsimp only at hSw);go_simp;(first | done | with_reducible rfl))
    try simp only[Act.put,zF,zH,zG,zC,zB,zA]
    refine wpAnyH_take (i:=8) (v:=?_) rfl (by kernel_rfl) (by kernel_rfl) (by kernel_rfl) (fun _ _ _ h=>h) (Or.inl ⟨by rfl,?_⟩) (by assumption) ?_
    rotate_left 1
    ·(intro w' hSw;(try dsimp only at hSw);go_simp;(first | done | with_reducible rfl))
    try simp only[Act.put,zF,zH,zG,zC,zB,zA]
    refine wpAnyH_take (i:=9) (v:=?_) rfl (by kernel_rfl) (by kernel_rfl) (by kernel_rfl) (fun _ _ _ h=>h) (Or.inl ⟨by rfl,?_⟩) (by assumption) ?_
    rotate_left 1
    ·(intro w' hSw;(try dsimp only at hSw);go_simp;(first | done | with_reducible rfl))
    try simp only[Act.put,zF,zH,zG,zC,zB,zA]
    refine wpAnyH_take (i:=10) (v:=?_) rfl (by kernel_rfl) (by kernel_rfl) (by kernel_rfl) (fun _ _ _ h=>h) (Or.inl ⟨by rfl,?_⟩) (by assumption) ?_
    rotate_left 1
    ·(intro w' hSw;(try dsimp only at hSw);go_simp;(first | done | with_reducible rfl))
    try simp only[Act.put,zF,zH,zG,zC,zB,zA]
    refine wpAnyH_ready (rs:=[7,11]) (by kernel_rfl) (by simp) ?_
    refine(AllReadyH.cons rfl (fun K hK=>?_) (AllReadyH.cons rfl (fun K hK=>?_) AllReadyH.nil))
    go_simp
    refine hK.out _ _ (by(try dsimp only);(first | exact HQ.out XQ8.out HS9.out.1 HUC.out.1 | exact HQ.out XQ7.out H7.out HUC.out.1 | exact HQ.out HXD.out HMD.out rfl)) (fun hHeld=>?_)
    clear hK K
    try simp only[Act.put,zF,zH,zG,zC,zB,zA]
    refine wpAnyH_ready (rs:=[11]) (by kernel_rfl) (by simp) ?_
    refine(AllReadyH.cons rfl (fun K hK=>?_) AllReadyH.nil)
    go_simp
    refine hK.out _ _ (by(try dsimp only);(first | exact HQ.out XQ8.out HS9.out.1 HUC.out.1 | exact HQ.out XQ7.out H7.out HUC.out.1 | exact HQ.out HXD.out HMD.out rfl)) (fun hHeld=>?_)
    clear hK K
    try simp only[Act.put,zF,zH,zG,zC,zB,zA]
    refine wpAnyH_ready (rs:=[12]) (by kernel_rfl) (by simp) ?_
    refine(AllReadyH.cons rfl (fun K hK=>?_) AllReadyH.nil)
    go_simp
    try (first | (go_at_call 124;have q7:=qlf (σ:=σ) HMD.out caD cbD (ctLs ch.ct) (by rw[show(ctLs ch.ct).length=ch.ct from zD];exact HCAD.out) (by rw[show(ctLs ch.ct).length=ch.ct from zD];exact HCT.out) qmx l r9 (by rw[qko];exact HUN.out) HLL.out;rw[show(ctLs ch.ct).length=ch.ct from zD]at q7;refine q7.mono ?_;clear q7;rintro e w7 ⟨M7,rfl,hm,hx,hl⟩;have gf9:=hm.gcell.2.1 5;obtain⟨⟨np9,g59,-⟩,-,-⟩:=hm.gcell;have hs9:=hm.setIs hl;unfold ptr at hs9;have HS9:=zh hs9;have H7:=zh hm;have XQ7:=zh (HXD.out.trans hx);have XQ8:=zh (XQ7.out.trans HS9.out.2);clear hs9 hm hx hl))
    refine hK.out _ _ (by(try dsimp only);(first | exact HQ.out XQ8.out HS9.out.1 HUC.out.1 | exact HQ.out XQ7.out H7.out HUC.out.1 | exact HQ.out HXD.out HMD.out rfl)) (fun hHeld=>?_)
    clear hK K
    try simp only[Act.put,zF,zH,zG,zC,zB,zA]
    refine wpAnyH_take (i:=13) (v:=?_) rfl (by kernel_rfl) (by kernel_rfl) (by kernel_rfl) (fun _ _ _ h=>h) (Or.inl ⟨by rfl,?_⟩) (by assumption) ?_
    rotate_left 1
    ·(intro w' hSw;(try dsimp only at hSw);go_simp;(first | done | with_reducible rfl))
    try simp only[Act.put,zF,zH,zG,zC,zB,zA]
    refine wpAnyH_take (i:=14) (v:=?_) rfl (by kernel_rfl) (by kernel_rfl) (by kernel_rfl) (fun _ _ _ h=>h) (Or.inl ⟨by rfl,?_⟩) (by assumption) ?_
    rotate_left 1
    ·(intro w' hSw;(try dsimp only at hSw);go_simp;(first | done | with_reducible rfl))
    try simp only[Act.put,zF,zH,zG,zC,zB,zA]
    refine wpAnyH_ready (rs:=[15]) (by kernel_rfl) (by simp) ?_
    refine(AllReadyH.cons rfl (fun K hK=>?_) AllReadyH.nil)
    go_simp
    refine hK.out _ _ (by(try dsimp only);(first | exact HQ.out XQ8.out HS9.out.1 HUC.out.1 | exact HQ.out XQ7.out H7.out HUC.out.1 | exact HQ.out HXD.out HMD.out rfl)) (fun hHeld=>?_)
    clear hK K
    try simp only[Act.put,zF,zH,zG,zC,zB,zA]
    refine wpAnyH_done (by kernel_rfl) ?_ _
    refine NoPanic.normal ?_
    rotate_left 1
    go_simp
    refine hK.out _ _ (by(try dsimp only);(first | exact HQ.out XQ8.out HS9.out.1 HUC.out.1 | exact HQ.out XQ7.out H7.out HUC.out.1 | exact HQ.out HXD.out HMD.out rfl)) (fun hHeld=>?_)
    clear hK K
    try simp only[Act.put,zF,zH,zG,zC,zB,zA]
    refine wpAnyH_ready (rs:=[7]) (by kernel_rfl) (by simp) ?_
    refine(AllReadyH.cons rfl (fun K hK=>?_) AllReadyH.nil)
    go_simp
    refine hK.out _ _ (by(try dsimp only);(first | exact HQ.out XQ8.out HS9.out.1 HUC.out.1 | exact HQ.out XQ7.out H7.out HUC.out.1 | exact HQ.out HXD.out HMD.out rfl)) (fun hHeld=>?_)
    clear hK K
    try simp only[Act.put,zF,zH,zG,zC,zB,zA]
    refine wpAnyH_ready (rs:=[12]) (by kernel_rfl) (by simp) ?_
    refine(AllReadyH.cons rfl (fun K hK=>?_) AllReadyH.nil)
    go_simp
    try (first | (go_at_call 124;have q7:=qlf (σ:=σ) HMD.out caD cbD (ctLs ch.ct) (by rw[show(ctLs ch.ct).length=ch.ct from zD];exact HCAD.out) (by rw[show(ctLs ch.ct).length=ch.ct from zD];exact HCT.out) qmx l r9 (by rw[qko];exact HUN.out) HLL.out;rw[show(ctLs ch.ct).length=ch.ct from zD]at q7;refine q7.mono ?_;clear q7;rintro e w7 ⟨M7,rfl,hm,hx,hl⟩;have gf9:=hm.gcell.2.1 5;obtain⟨⟨np9,g59,-⟩,-,-⟩:=hm.gcell;have hs9:=hm.setIs hl;unfold ptr at hs9;have HS9:=zh hs9;have H7:=zh hm;have XQ7:=zh (HXD.out.trans hx);have XQ8:=zh (XQ7.out.trans HS9.out.2);clear hs9 hm hx hl))
    refine hK.out _ _ (by(try dsimp only);(first | exact HQ.out XQ8.out HS9.out.1 HUC.out.1 | exact HQ.out XQ7.out H7.out HUC.out.1 | exact HQ.out HXD.out HMD.out rfl)) (fun hHeld=>?_)
    clear hK K
    try simp only[Act.put,zF,zH,zG,zC,zB,zA]
    refine wpAnyH_take (i:=13) (v:=?_) rfl (by kernel_rfl) (by kernel_rfl) (by kernel_rfl) (fun _ _ _ h=>h) (Or.inl ⟨by rfl,?_⟩) (by assumption) ?_
    rotate_left 1
    ·(intro w' hSw;(try dsimp only at hSw);go_simp;(first | done | with_reducible rfl))
    try simp only[Act.put,zF,zH,zG,zC,zB,zA]
    refine wpAnyH_take (i:=14) (v:=?_) rfl (by kernel_rfl) (by kernel_rfl) (by kernel_rfl) (fun _ _ _ h=>h) (Or.inl ⟨by rfl,?_⟩) (by assumption) ?_
    rotate_left 1
    ·(intro w' hSw;(try dsimp only at hSw);go_simp;(first | done | with_reducible rfl))
    try simp only[Act.put,zF,zH,zG,zC,zB,zA]
    refine wpAnyH_ready (rs:=[15]) (by kernel_rfl) (by simp) ?_
    refine(AllReadyH.cons rfl (fun K hK=>?_) AllReadyH.nil)
    go_simp
    refine hK.out _ _ (by(try dsimp only);(first | exact HQ.out XQ8.out HS9.out.1 HUC.out.1 | exact HQ.out XQ7.out H7.out HUC.out.1 | exact HQ.out HXD.out HMD.out rfl)) (fun hHeld=>?_)
    clear hK K
    try simp only[Act.put,zF,zH,zG,zC,zB,zA]
    refine wpAnyH_done (by kernel_rfl) ?_ _
    refine NoPanic.normal ?_
    all_goals go_wp2_with fail
    all_goals go_end0
    all_goals exact⟨rfl,M7,HS9.out.1,X5.out.trans XQ8.out⟩
  | false=>
   have hcnd: ¬((bn (opE E σ.i).toList:Int)<max ch.lv 1\/ch.hs< (lf (opE E σ.i).toList:Int)):=by
    have h9:=HB9.out
    have h9:=h9.symm
    rw[Bool.or_eq_false_iff]at h9
    exact fun h=>h.elim (of_decide_eq_false h9.1) (of_decide_eq_false h9.2)
   have HPK:=zh (qrw (E:=E) (i:=σ.i) (fun e=>hcnd (.inl (by have:(1:Int)<=max ch.lv 1:=Int.le_max_right _ _;omega))))
   have HRU:Hid (R=(tkE E σ.i >>= fun j=>.ok ((σ.at_ j).plan [.expr (rt (opE E σ.i).toList:Int),.join c (opE E σ.i) (bn (opE E σ.i).toList)]))):=zh (by
    rw[HR.out];show(σ.ch c >>= fun h=>_)=_;rw[qhk HC.out];show(match ch.lf with | none=>_ | some l=>_)=_;rw[HLF.out];show(if(bn (opE E σ.i).toList:Int)<max ch.lv 1\/ch.hs< (lf (opE E σ.i).toList:Int)then(undL (zE ch.ct ⟨#[99,97,116,99,104]⟩) l σ >>= fun r=>.ok (r.2.is r.1))else(tkE E σ.i >>= fun j=>.ok ((σ.at_ j).plan [.expr (rt (opE E σ.i).toList:Int),.join c (opE E σ.i) (bn (opE E σ.i).toList)])))=_
    rw[if_neg hcnd])
   clear hcnd
   obtain⟨ca6,cb6,aa6,ab6,⟨c0_6,c1_6,c2_6,c3_6,c4_6,c5_6,c6_6⟩,hca6,hah6,hcf6⟩:=H6.out.chall HC.out
   have HCA6:=zh hca6
   clear hca6 hah6 hcf6 c3_6 c4_6
   rw[HLF.out]at c5_6
   unfold lfV ptr at c5_6
   go_wp2_with fail
   have q7:=qsm H6.out HPK.out
   try unfold ptr at q7
   refine q7.mono ?_
   clear q7
   intro e w7 h7
   cases htk:tkE E σ.i with
   | error e9=>
    have:=qqa htk
    subst this
    rw[htk]at h7
    obtain⟨⟨u,pv,rfl⟩,hb⟩:=h7
    have HB8:=zh hb
    obtain rfl:R=.error .die:=by rw[HRU.out,htk];rfl
    clear hb htk
    go_wp2_with fail
    exact⟨rfl,⟨_,_,rfl⟩,HB8.out⟩
   | ok j=>
    rw[htk]at h7
    obtain⟨rfl,hm,hx⟩:=h7
    obtain rfl:R=.ok ((σ.at_ j).plan [.expr (rt (opE E σ.i).toList:Int),.join c (opE E σ.i) (bn (opE E σ.i).toList)]):=by rw[HRU.out,htk];rfl
    clear htk
    clear c0_6 c1_6 c2_6 c5_6 c6_6
    have H7:=zh hm
    have Y7:=zh hx
    have X7:=zh (X6.out.trans Y7.out)
    have B_cp_7:=zh (Y7.out.box B_cp_6.out)
    have ccp7:=B_cp_7.out.cellv
    have B_op_7:=zh (Y7.out.box B_op_6.out)
    have cop7:=B_op_7.out.cellv
    have B_own_7:=zh (Y7.out.box B_own_6.out)
    have cown7:=B_own_7.out.cellv
    clear hm hx
    have XQ2:=zh (XQ.out.trans Y7.out)
    go_wp2_with fail
    have hb:=Below.drew (Below.refl w7.heap.size w7)
    have H8:=zh (H7.out.below hb)
    have Y8:=zh (H7.out.mxb hb)
    have X8:=zh (X7.out.trans Y8.out)
    have B_cp_8:=zh (Y8.out.box B_cp_7.out)
    have ccp8:=B_cp_8.out.cellv
    have B_op_8:=zh (Y8.out.box B_op_7.out)
    have cop8:=B_op_8.out.cellv
    have B_own_8:=zh (Y8.out.box B_own_7.out)
    have cown8:=B_own_8.out.cellv
    clear hb
    have XQ3:=zh (XQ2.out.trans Y8.out)
    go_region_held3 (fun w'=>w'.cell? ⟨W.heap.size,0,none⟩=some (.pointer (some ⟨L.B c,0,none⟩))/\w'.cell? ⟨w2.heap.size,0,none⟩=some (.string (opE E σ.i))/\w'.cell? ⟨L.B c,0,none⟩=some (.pointer (some ⟨g,0,none⟩))) (first | exact HQ.out XQ6.out H12.out rfl | exact HQ.out XQ5.out H10.out rfl | exact HQ.out XQ4.out H9.out rfl | exact HQ.out XQ3.out H8.out rfl | exact HQ.out (XQ5.out.trans (H10.out.mxb (qa1 _ _))) (H10.out.below (qa1 _ _)) rfl) (first | (go_at_call 155;refine(qm1 _ _).mono ?_;rintro e w9 ⟨rfl,hb⟩;have H9:=zh (H8.out.below hb);have Y9:=zh (H8.out.mxb hb);have X9:=zh (X8.out.trans Y9.out);have B_cp_9:=zh (Y9.out.box B_cp_8.out);have ccp9:=B_cp_9.out.cellv;have B_op_9:=zh (Y9.out.box B_op_8.out);have cop9:=B_op_9.out.cellv;have B_own_9:=zh (Y9.out.box B_own_8.out);have cown9:=B_own_9.out.cellv;have XQ4:=zh (XQ3.out.trans Y9.out);clear hb) | (go_at_call 37;have q10:=qdd (σ:=σ.at_ j) H9.out (rt (opE E σ.i).toList:Int);try unfold ptr at q10;refine q10.mono ?_;clear q10;rintro e w10 ⟨ve,rfl,hv,hb⟩;obtain⟨fK10,fF10,fC10,rfl⟩:=hv.fn;have V10:=zh hv;have H10:=zh (H9.out.below hb);have Y10:=zh (H9.out.mxb hb);have X10:=zh (X9.out.trans Y10.out);have B_cp_10:=zh (Y10.out.box B_cp_9.out);have ccp10:=B_cp_10.out.cellv;have B_op_10:=zh (Y10.out.box B_op_9.out);have cop10:=B_op_10.out.cellv;have B_own_10:=zh (Y10.out.box B_own_9.out);have cown10:=B_own_10.out.cellv;clear hv hb;have XQ5:=zh (XQ4.out.trans Y10.out)) | (go_at_call 36;have V11:=zh ((IsC.join c (opE E σ.i) (bn (opE E σ.i).toList:Int) _ _ _ B_op_10.out B_cp_10.out B_own_10.out (List.getElem?_eq_some_iff.1 HC.out).1:IsC w10 (L.P W0.heap.size) g L.A L.B (σ.at_ j).N.length (σ.at_ j).C.length _ (.join c (opE E σ.i) (bn (opE E σ.i).toList:Int))));refine(qbd H10.out _ (by simp) [_,_] [.expr (rt (opE E σ.i).toList:Int),.join c (opE E σ.i) (bn (opE E σ.i).toList:Int)] 2 rfl (Nat.le_trans HK.out (by decide)) (by decide) _ ⟨V10.out,⟨V11.out,trivial⟩⟩).mono ?_;rintro e w12 ⟨rfl,M12,hm,hx⟩;have H12:=zh hm;have Y12:=zh hx;have X12:=zh (X10.out.trans Y12.out);have B_cp_12:=zh (Y12.out.box B_cp_10.out);have ccp12:=B_cp_12.out.cellv;have B_op_12:=zh (Y12.out.box B_op_10.out);have cop12:=B_op_12.out.cellv;have B_own_12:=zh (Y12.out.box B_own_10.out);have cown12:=B_own_12.out.cellv;have ve_12:=zh (Y12.out.isc V10.out);have vj_12:=zh (Y12.out.isc V11.out);clear hm hx;have XQ6:=zh (XQ5.out.trans Y12.out)))
    all_goals go_wp2_with fail
    all_goals go_end0
    all_goals exact⟨rfl,M12,H12.out,X12.out⟩
end
end Go.Proofs.YtdhadeeajgoedaaGreat
