/-
  What the claims stand on: PmStepS, PmStepT, PmCall, PmRun.
-/
import Derived.Test.YtdhadeeajgoedaaGreatK22
import Derived.Test.YtdhadeeajgoedaaGreatK43
import Derived.Test.YtdhadeeajgoedaaGreatK47
import Derived.Test.YtdhadeeajgoedaaGreatK49
import Derived.Test.YtdhadeeajgoedaaGreatK50
import Derived.Deep.LoopGhost
set_option maxRecDepth 100000
set_option maxHeartbeats 4000000
set_option linter.unusedVariables false
set_option linter.unusedSimpArgs false
open List renaming length_reverse→zA,setIfInBounds_toArray→zB,set_cons_succ→zC,set_cons_zero→zD
namespace Go.Proofs.YtdhadeeajgoedaaGreat
open Go.RowKit Go.PlainAid
section
variable{W0 W:World}{g:Nat}{s:ByteArray}{E:Env}{tv:Value}{L:PLay}{σ:PM}
theorem qsf(τ:PM)(c:Nat)(x:Chn)(l:Nat)(k:Int):(τ.setC c { x with lf:=some l }).setC c { ({ x with lf:=some l } :Chn)with hs:=k } =τ.setC c { x with lf:=some l,hs:=k } :=qj4 τ c _ _
theorem qps(h:MM W0 g s E tv W L σ)(hk:σ.k.length<=274877906944){c:Nat}{ch:Chn}(hc:σ.C[c]?=some ch)(op:ByteArray)(own:Int)(hop:op.size<=1048576)(hct:ch.ct<=1000000000)(k1:Nat)(b1:BoxC W (L.P W0.heap.size) (.pointer (some ⟨k1,0,none⟩)) (.string op))(k2:Nat)(b2:BoxC W (L.P W0.heap.size) (.pointer (some ⟨k2,0,none⟩)) (ptr (L.B c)))(k3:Nat)(b3:BoxC W (L.P W0.heap.size) (.pointer (some ⟨k3,0,none⟩)) (.int .i64 own))(hns:stp E (.join c op own) σ≠ .error .stuck):
 Calls Tryz.prog 156 #[.pointer (some ⟨k1,0,none⟩),.pointer (some ⟨k2,0,none⟩),.pointer (some ⟨k3,0,none⟩)] W (SO (stp E (.join c op own) σ) W0 g s E tv W L σ.N.length σ.C.length):=by
 obtain⟨R,hR⟩: ∃R:Rs PM,R=stp E (.join c op own) σ:=⟨_,rfl⟩
 rw[<-hR]at hns⊢
 have HR:=zh hR
 have HNS:=zh hns
 have H0:=zh h
 have HK:=zh hk
 have HC:=zh hc
 have HCT:=zh hct
 have HOP:=zh hop
 have X0:=zh (MX.refl W0.heap.size W L σ.N.length σ.C.length)
 have B_op:=zh b1
 have B_cp:=zh b2
 have B_own:=zh b3
 clear h hR hk hc hct hop hns b1 b2 b3
 rcases hcu:σ.cur with b9 | ⟨j,x⟩
 ·obtain rfl:=qcn hcu
  exact absurd (by rw[HR.out];show(σ.ch c >>= fun h=>_)=_;rw[qhk HC.out];show(σ.cur >>= fun x=>_)=_;rw[hcu];rfl) HNS.out
 obtain⟨hn_j,hx_j⟩:=qda hcu
 have HX_j:=zh hx_j
 have HN_j:=zh hn_j
 cases hlf:ch.lf with
 | none=>exact absurd (by rw[HR.out];show(σ.ch c >>= fun h=>_)=_;rw[qhk HC.out];show(σ.cur >>= fun x=>_)=_;rw[hcu];show(match ch.lf with | none=>_ | some l=>_)=_;rw[hlf]) HNS.out
 | some l=>
 have HLF:=zh hlf
 have HRR:Hid (R=(twoE op l j σ >>= fun τ=>qbm E c (τ.setC c { ch with lf:=some σ.N.length,hs:=own }))):=zh (by rw[HR.out];show(σ.ch c >>= fun h=>_)=_;rw[qhk HC.out];show(σ.cur >>= fun x=>_)=_;rw[hcu];show(match ch.lf with | none=>_ | some l=>_)=_;rw[hlf])
 clear hcu hn_j hx_j hlf
 rcases hnl:σ.nd l with b9 | y
 ·obtain rfl:=qdv hnl
  exact absurd (by rw[HRR.out];show((σ.nd l >>= fun x=>_) >>= fun τ=>_)=_;rw[hnl];rfl) HNS.out
 have HX_l:=zh (qg2 hnl)
 have hnj:σ.nd j=.ok x:=by
  unfold PM.nd;rw[HX_j.out]
 by_cases hne:l=j
 ·exact absurd (by rw[HRR.out];show((σ.nd l >>= fun x=>σ.nd j >>= fun y=>if l=j then _ else _) >>= fun τ=>_)=_;rw[hnl,hnj];show((if l=j then _ else _) >>= fun τ=>_)=_;rw[if_pos hne];rfl) HNS.out
 have HRJ:Hid (R=qbm E c ((((σ.mv l).mv j).new (nkt 14 op [y,x])).setC c { ch with lf:=some σ.N.length,hs:=own })):=zh (by
  rw[HRR.out];show((σ.nd l >>= fun x=>σ.nd j >>= fun y=>if l=j then _ else _) >>= fun τ=>_)=_;rw[hnl,hnj];show((if l=j then _ else _) >>= fun τ=>_)=_;rw[if_neg hne];rfl)
 clear hnl hnj hne
 have cop0:=B_op.out.cellv
 have ccp0:=B_cp.out.cellv
 unfold ptr at ccp0
 have cown0:=B_own.out.cellv
 go_enter Tryz.func156,Tryz.ntmps156
 have HQ:Hid (∀ {w':World} {L':PLay} {τ:PM} {nN nC:Nat},MX W0.heap.size W L σ.N.length σ.C.length w' L' nN nC->MM W0 g s E tv w' L' τ->(∃y,τ.C[c]?=some y)->τ.n=σ.n->w'.cell? ⟨k1,0,none⟩=some (.string op)/\w'.cell? ⟨k2,0,none⟩=some (.pointer (some ⟨L.B c,0,none⟩))/\w'.cell? ⟨k3,0,none⟩=some (.int .i64 own)/\w'.cell? ⟨L.B c,0,none⟩=some (.pointer (some ⟨g,0,none⟩))/\w'.cell? ⟨g,5,none⟩=some (.pointer (some ⟨L.A j,0,none⟩))):=zh (fun hx hm hc hn=>by
  obtain⟨y,hc⟩:=hc
  obtain⟨_,_,_,_,⟨h9,-⟩,-⟩:=hm.chall hc
  rw[hx.B c (List.getElem?_eq_some_iff.1 HC.out).1]at h9
  have h8:=hm.gcur (hn.trans HN_j.out)
  rw[hx.A j (ndlt HX_j.out)]at h8
  have h7:=hx.cell B_cp.out
  unfold ptr at h7
  exact⟨hx.cell B_op.out,h7,hx.cell B_own.out,h9,h8⟩)
 go_wp2_with fail
 have hb9:=Below.drew (Below.refl W.heap.size W)
 have HD9:=zh hb9
 clear hb9
 have HMD:=zh (H0.out.below HD9.out)
 have HXD:=zh (X0.out.trans (H0.out.mxb HD9.out))
 obtain⟨ca9,cb9,aa9,ab9,⟨-,-,-,-,-,c5_9,-⟩,-,-,-⟩:=HMD.out.chall HC.out
 rw[HLF.out]at c5_9
 unfold lfV ptr at c5_9
 refine wp_region_noPanic ?_
 refine wp_region_held_drew (S:=(fun w'=>w'.cell? ⟨k1,0,none⟩=some (.string op)/\w'.cell? ⟨k2,0,none⟩=some (.pointer (some ⟨L.B c,0,none⟩))/\w'.cell? ⟨k3,0,none⟩=some (.int .i64 own)/\w'.cell? ⟨L.B c,0,none⟩=some (.pointer (some ⟨g,0,none⟩))/\w'.cell? ⟨g,5,none⟩=some (.pointer (some ⟨L.A j,0,none⟩)))) (by kernel_rfl) (by(try dsimp only);(first | exact HQ.out XQ9.out HT9.out.1 ⟨_,qb1 HC7.out⟩ rfl | exact HQ.out XQ8.out HS8.out ⟨_,qb1 HC7.out⟩ rfl | exact HQ.out XQ7.out H7.out ⟨_,HC7.out⟩ rfl | exact HQ.out HXD.out HMD.out ⟨_,HC.out⟩ rfl)) (fun hHeld=>?_)
 refine wpAnyH_take (i:=0) (v:=?_) rfl (by kernel_rfl) (by kernel_rfl) (by kernel_rfl) (fun _ _ _ h=>h) (Or.inl ⟨by rfl,?_⟩) (by assumption) ?_
 rotate_left 1
 ·(intro w' hSw;(try dsimp only at hSw);go_simp;(first | done | with_reducible rfl))
 try simp only[Act.put,zB,zD,zC]
 refine wpAnyH_take (i:=1) (v:=?_) rfl (by kernel_rfl) (by kernel_rfl) (by kernel_rfl) (fun _ _ _ h=>h) (Or.inl ⟨by rfl,?_⟩) (by assumption) ?_
 rotate_left 1
 ·(intro w' hSw;(try dsimp only at hSw);go_simp;(first | done | with_reducible rfl))
 try simp only[Act.put,zB,zD,zC]
 refine wpAnyH_take (i:=2) (v:=?_) rfl (by kernel_rfl) (by kernel_rfl) (by kernel_rfl) (fun _ _ _ h=>h) (Or.inl ⟨by rfl,?_⟩) (by assumption) ?_
 rotate_left 1
 ·(intro w' hSw;(try dsimp only at hSw);go_simp;(first | done | with_reducible rfl))
 try simp only[Act.put,zB,zD,zC]
 refine wpAnyH_take (i:=3) (v:=?_) rfl (by kernel_rfl) (by kernel_rfl) (by kernel_rfl) (fun _ _ _ h=>h) (Or.inl ⟨by rfl,?_⟩) (by assumption) ?_
 rotate_left 1
 ·(intro w' hSw;(try dsimp only at hSw);go_simp;(first | done | with_reducible rfl))
 try simp only[Act.put,zB,zD,zC]
 refine wpAnyH_take (i:=4) (v:=?_) rfl (by kernel_rfl) (by kernel_rfl) (by kernel_rfl) (fun _ _ _ h=>h) (Or.inl ⟨by rfl,?_⟩) (by assumption) ?_
 rotate_left 1
 ·(intro w' hSw;(try dsimp only at hSw);go_simp;(first | done | with_reducible rfl))
 try simp only[Act.put,zB,zD,zC]
 refine wpAnyH_take (i:=5) (v:=?_) rfl (by kernel_rfl) (by kernel_rfl) (by kernel_rfl) (fun _ _ _ h=>h) (Or.inl ⟨by rfl,?_⟩) (by assumption) ?_
 rotate_left 1
 ·(intro w' hSw;(try dsimp only at hSw);go_simp;(first | done | with_reducible rfl))
 try simp only[Act.put,zB,zD,zC]
 refine wpAnyH_take (i:=7) (v:=?_) rfl (by kernel_rfl) (by kernel_rfl) (by kernel_rfl) (fun _ _ _ h=>h) (Or.inl ⟨by rfl,?_⟩) (by assumption) ?_
 rotate_left 1
 ·(intro w' hSw;(try dsimp only at hSw);go_simp;(first | done | with_reducible rfl))
 try simp only[Act.put,zB,zD,zC]
 refine wpAnyH_take (i:=8) (v:=?_) rfl (by kernel_rfl) (by kernel_rfl) (by kernel_rfl) (fun _ _ _ h=>h) (Or.inl ⟨by rfl,?_⟩) (by assumption) ?_
 rotate_left 1
 ·(intro w' hSw;(try dsimp only at hSw);go_simp;(first | done | with_reducible rfl))
 try simp only[Act.put,zB,zD,zC]
 refine wpAnyH_take (i:=9) (v:=?_) rfl (by kernel_rfl) (by kernel_rfl) (by kernel_rfl) (fun _ _ _ h=>h) (Or.inl ⟨by rfl,?_⟩) (by assumption) ?_
 rotate_left 1
 ·(intro w' hSw;(try dsimp only at hSw);go_simp;(first | done | with_reducible rfl))
 try simp only[Act.put,zB,zD,zC]
 refine wpAnyH_take (i:=10) (v:=?_) rfl (by kernel_rfl) (by kernel_rfl) (by kernel_rfl) (fun _ _ _ h=>h) (Or.inl ⟨by rfl,?_⟩) (by assumption) ?_
 rotate_left 1
 ·(intro w' hSw;(try dsimp only at hSw);go_simp;(first | done | with_reducible rfl))
 try simp only[Act.put,zB,zD,zC]
 refine wpAnyH_take (i:=11) (v:=?_) rfl (by kernel_rfl) (by kernel_rfl) (by kernel_rfl) (fun _ _ _ h=>h) (Or.inl ⟨by rfl,?_⟩) (by assumption) ?_
 rotate_left 1
 ·(intro w' hSw;(try dsimp only at hSw);go_simp;(first | done | with_reducible rfl))
 try simp only[Act.put,zB,zD,zC]
 refine wpAnyH_take (i:=12) (v:=?_) rfl (by kernel_rfl) (by kernel_rfl) (by kernel_rfl) (fun _ _ _ h=>h) (Or.inl ⟨by rfl,?_⟩) (by assumption) ?_
 rotate_left 1
 ·(intro w' hSw;(try dsimp only at hSw);go_simp;(first | done | with_reducible rfl))
 try simp only[Act.put,zB,zD,zC]
 refine wpAnyH_take (i:=13) (v:=?_) rfl (by kernel_rfl) (by kernel_rfl) (by kernel_rfl) (fun _ _ _ h=>h) (Or.inl ⟨by rfl,?_⟩) (by assumption) ?_
 rotate_left 1
 ·(intro w' hSw;(try dsimp only at hSw);go_simp;(first | done | with_reducible rfl))
 try simp only[Act.put,zB,zD,zC]
 refine wpAnyH_take (i:=15) (v:=?_) rfl (by kernel_rfl) (by kernel_rfl) (by kernel_rfl) (fun _ _ _ h=>h) (Or.inl ⟨by rfl,?_⟩) (by assumption) ?_
 rotate_left 1
 ·(intro w' hSw;(try dsimp only at hSw);go_simp;(first | done | with_reducible rfl))
 try simp only[Act.put,zB,zD,zC]
 refine wpAnyH_ready (rs:=[6]) (by kernel_rfl) (by simp) ?_
 refine AllReadyH.cons rfl (fun K hK=>?_) AllReadyH.nil
 go_simp
 refine hK.out _ _ (by(try dsimp only);(first | exact HQ.out XQ9.out HT9.out.1 ⟨_,qb1 HC7.out⟩ rfl | exact HQ.out XQ8.out HS8.out ⟨_,qb1 HC7.out⟩ rfl | exact HQ.out XQ7.out H7.out ⟨_,HC7.out⟩ rfl | exact HQ.out HXD.out HMD.out ⟨_,HC.out⟩ rfl)) (fun hHeld=>?_)
 clear hK K
 try simp only[Act.put,zB,zD,zC]
 refine wpAnyH_ready (rs:=[14]) (by kernel_rfl) (by simp) ?_
 refine AllReadyH.cons rfl (fun K hK=>?_) AllReadyH.nil
 go_simp
 try (first | (go_at_call 157;have q7:=twoM (σ:=σ) HMD.out HX_l.out HX_j.out op HOP.out;refine q7.mono ?_;clear q7;rintro e w7 ⟨M7,rfl,hm,hx⟩;have HC7:=zh (show(((σ.mv l).mv j).new (nkt 14 op [y,x])).C[c]?=some ch from HC.out);have hB7:=(HXD.out.trans hx).B c (List.getElem?_eq_some_iff.1 HC.out).1;have hf5:=(hm.chall HC7.out).choose_spec.choose_spec.choose_spec.choose_spec.2.2.2 5;have hc5:=(hm.chall HC7.out).choose_spec.choose_spec.choose_spec.choose_spec.1.2.2.2.2.2.1;have hs9:=hm.setLf HC7.out (l:=σ.N.length) (by show _< (((σ.N.set _ _).set _ _)++[_]).length;simp);have HS9:=zh hs9;have hf6:=(hs9.1.chall (qb1 HC7.out)).choose_spec.choose_spec.choose_spec.choose_spec.2.2.2 6;have hc6:=(hs9.1.chall (qb1 HC7.out)).choose_spec.choose_spec.choose_spec.choose_spec.1.2.2.2.2.2.2;have ht9:=hs9.1.setHs (qb1 HC7.out) own;rw[qsf]at ht9;rw[hB7]at hf5 hc5 hf6 hc6 hs9 ht9;have HT9:=zh ht9;have H7:=zh hm;have XQ7:=zh (HXD.out.trans hx);have XQ8:=zh (XQ7.out.trans (by have h:=HS9.out.2;rw[hB7]at h;exact h));have XQ9:=zh (XQ8.out.trans HT9.out.2);have HS8:=zh hs9.1;clear hs9 ht9 hm hx))
 refine hK.out _ _ (by(try dsimp only);(first | exact HQ.out XQ9.out HT9.out.1 ⟨_,qb1 HC7.out⟩ rfl | exact HQ.out XQ8.out HS8.out ⟨_,qb1 HC7.out⟩ rfl | exact HQ.out XQ7.out H7.out ⟨_,HC7.out⟩ rfl | exact HQ.out HXD.out HMD.out ⟨_,HC.out⟩ rfl)) (fun hHeld=>?_)
 clear hK K
 try simp only[Act.put,zB,zD,zC]
 refine wpAnyH_take (i:=16) (v:=?_) rfl (by kernel_rfl) (by kernel_rfl) (by kernel_rfl) (fun _ _ _ h=>h) (Or.inl ⟨by rfl,?_⟩) (by assumption) ?_
 rotate_left 1
 ·(intro w' hSw;(try dsimp only at hSw);go_simp;(first | done | with_reducible rfl))
 try simp only[Act.put,zB,zD,zC]
 refine wpAnyH_take (i:=17) (v:=?_) rfl (by kernel_rfl) (by kernel_rfl) (by kernel_rfl) (fun _ _ _ h=>h) (Or.inl ⟨by rfl,?_⟩) (by assumption) ?_
 rotate_left 1
 ·(intro w' hSw;(try dsimp only at hSw);go_simp;(first | done | with_reducible rfl))
 try simp only[Act.put,zB,zD,zC]
 refine wpAnyH_ready (rs:=[18]) (by kernel_rfl) (by simp) ?_
 refine AllReadyH.cons rfl (fun K hK=>?_) AllReadyH.nil
 go_simp
 refine hK.out _ _ (by(try dsimp only);(first | exact HQ.out XQ9.out HT9.out.1 ⟨_,qb1 HC7.out⟩ rfl | exact HQ.out XQ8.out HS8.out ⟨_,qb1 HC7.out⟩ rfl | exact HQ.out XQ7.out H7.out ⟨_,HC7.out⟩ rfl | exact HQ.out HXD.out HMD.out ⟨_,HC.out⟩ rfl)) (fun hHeld=>?_)
 clear hK K
 try simp only[Act.put,zB,zD,zC]
 refine wpAnyH_take (i:=19) (v:=?_) rfl (by kernel_rfl) (by kernel_rfl) (by kernel_rfl) (fun _ _ _ h=>h) (Or.inl ⟨by rfl,?_⟩) (by assumption) ?_
 rotate_left 1
 ·(intro w' hSw;(try dsimp only at hSw);go_simp;(first | done | with_reducible rfl))
 try simp only[Act.put,zB,zD,zC]
 refine wpAnyH_take (i:=20) (v:=?_) rfl (by kernel_rfl) (by kernel_rfl) (by kernel_rfl) (fun _ _ _ h=>h) (Or.inl ⟨by rfl,?_⟩) (by assumption) ?_
 rotate_left 1
 ·(intro w' hSw;(try dsimp only at hSw);go_simp;(first | done | with_reducible rfl))
 try simp only[Act.put,zB,zD,zC]
 refine wpAnyH_ready (rs:=[21]) (by kernel_rfl) (by simp) ?_
 refine AllReadyH.cons rfl (fun K hK=>?_) AllReadyH.nil
 go_simp
 refine hK.out _ _ (by(try dsimp only);(first | exact HQ.out XQ9.out HT9.out.1 ⟨_,qb1 HC7.out⟩ rfl | exact HQ.out XQ8.out HS8.out ⟨_,qb1 HC7.out⟩ rfl | exact HQ.out XQ7.out H7.out ⟨_,HC7.out⟩ rfl | exact HQ.out HXD.out HMD.out ⟨_,HC.out⟩ rfl)) (fun hHeld=>?_)
 clear hK K
 try simp only[Act.put,zB,zD,zC]
 refine wpAnyH_done (by kernel_rfl) ?_ _
 refine NoPanic.normal ?_
 all_goals go_wp2_with fail
 all_goals
  have q9:=qnn (c:=c) (ch:= { ch with lf:=some σ.N.length,hs:=own }) HT9.out.1 HK.out (qb1 HC7.out) HCT.out (by rw[<-HRJ.out];exact HNS.out)
  rw[hB7]at q9
  refine q9.mono ?_
  clear q9
  rw[<-HRJ.out]
  intro e w9 h9
  cases hres:R with
  | error b=>
   subst hres
   cases b with
   | die=>
    obtain⟨⟨u,pv,rfl⟩,hb⟩:=h9
    have HB9:=zh hb
    clear hb
    go_wp2_with fail
    exact⟨rfl,⟨_,_,rfl⟩,HB9.out⟩
   | stuck=>exact absurd rfl HNS.out
  | ok τ=>
   subst hres
   obtain⟨rfl,M9,hm,hx⟩:=h9
   have H9:=zh hm
   have X9:=zh (XQ9.out.trans hx)
   clear hm hx
   go_wp2_with fail
   go_end0
   exact⟨rfl,M9,H9.out,X9.out⟩
end
section
variable{W0 W:World}{g:Nat}{s:ByteArray}{E:Env}{tv:Value}{L:PLay}{σ:PM}
theorem qq2(h:MM W0 g s E tv W L σ)(hk:σ.k.length<=274877906944)(lv:Int)(ss:List Bs)(sa:Option Addr)(sc:Nat)(hl:ss.length<=100)(hst:StIn W (L.P W0.heap.size) (.slice sa ss.length sc) (ss.map (fun s=>⟨s.toArray⟩)))(k1:Nat)(b1:BoxC W (L.P W0.heap.size) (.pointer (some ⟨k1,0,none⟩)) (ptr g))(k2:Nat)(b2:BoxC W (L.P W0.heap.size) (.pointer (some ⟨k2,0,none⟩)) (.slice sa ss.length sc))(k3:Nat)(b3:BoxC W (L.P W0.heap.size) (.pointer (some ⟨k3,0,none⟩)) (.int .i64 lv))(hx: ∃j,σ.n=some j):
 Calls Tryz.prog 215 #[.pointer (some ⟨k1,0,none⟩),.pointer (some ⟨k2,0,none⟩),.pointer (some ⟨k3,0,none⟩)] W (SO (stp E (.perM lv ss) σ) W0 g s E tv W L σ.N.length σ.C.length):=by
 obtain⟨R,hR⟩: ∃R:Rs PM,R=stp E (.perM lv ss) σ:=⟨_,rfl⟩
 rw[<-hR]
 obtain⟨j,hn_j⟩:=hx
 have HRR:Hid (R=qcj E lv j ss σ):=zh (by rw[hR];show(match σ.n with | some j=>_ | none=>_)=_;rw[hn_j])
 have H0:=zh h
 have HK:=zh hk
 have HSL:=zh hl
 have ST0:=zh hst
 have X0:=zh (MX.refl W0.heap.size W L σ.N.length σ.C.length)
 have B_r:=zh b1
 have B_ss:=zh b2
 have B_lv:=zh b3
 have HN_j:=zh hn_j
 have cr0:=b1.cellv
 unfold ptr at cr0
 have css0:=b2.cellv
 have clv0:=b3.cellv
 clear h hR hk hl hst b1 b2 b3 hn_j
 go_enter Tryz.func215,Tryz.ntmps215
 have g5_0:=H0.out.gcur HN_j.out
 have hb:=qa1 W (.cells #[ptr (L.A j)] 74)
 have B_left:=zh (H0.out.boxT (W.heap.size) (by simp) (ptr (L.A j)) 74)
 have H1:=zh (H0.out.below hb)
 have Y1:=zh (H0.out.mxb hb)
 have X1:=zh (X0.out.trans Y1.out)
 have B_r_1:=zh (Y1.out.box B_r.out)
 have cr1:=B_r_1.out.cellv
 unfold ptr at cr1
 have B_ss_1:=zh (Y1.out.box B_ss.out)
 have css1:=B_ss_1.out.cellv
 have B_lv_1:=zh (Y1.out.box B_lv.out)
 have clv1:=B_lv_1.out.cellv
 clear hb
 have ST1:=zh (Y1.out.st ST0.out)
 unfold ptr at*
 go_wp2_with fail
 go_loopg [12] ss.length (fun gn i wr=> ∃m:Nat,gn=ss.length-m/\m<=ss.length/\i=.int .i64 (m:Int)/\Hid (qcj E lv j (ss.drop m) σ=R)/\Hid (MM W0 g s E tv wr L σ)/\Hid (MX W0.heap.size W L σ.N.length σ.C.length wr L σ.N.length σ.C.length)/\Hid (BoxC wr (L.P W0.heap.size) (.pointer (some ⟨W.heap.size,0,none⟩)) (.pointer (some ⟨L.A j,0,none⟩))))
 case atStart=>exact⟨0,by omega,Nat.zero_le _,rfl,zh (by rw[List.drop_zero];exact HRR.out.symm),H1,X1,B_left⟩
 case round=>
  obtain⟨m,hgn,hm,rfl,HP,HM,HX,HL⟩:=hrel
  have HGN:=zh hgn
  have HMM:=zh hm
  clear hgn
  have r0:=HX.out.cell B_r.out
  have l0:=HX.out.cell B_lv.out
  have f0:=HL.out.cellv
  unfold ptr at r0
  have st9:=HX.out.st ST0.out
  by_cases hlt:m<ss.length
  ·skip
   obtain⟨t,hts⟩: ∃t,ss[m]?=some t:=⟨_,List.getElem?_eq_getElem hlt⟩
   have hdr:=qie hts
   have HPP:=HP.out
   rw[hdr]at HPP
   have HPS:Hid (R=(sgE E 9 t σ.i >>= fun q=>if q.1=true then .ok ((σ.at_ q.2).plan [.expr lv,.per2 t j])else qcj E lv j (ss.drop (m+1)) σ)):=zh HPP.symm
   clear HPP hdr
   obtain⟨sa',sc',e9,hcell⟩:=st9
   obtain⟨q9,o9,ha9,-,-,hc9⟩:=hcell (by simp;omega)
   have hc8:=hc9 m _ (by rw[List.getElem?_map,hts];rfl)
   obtain⟨rfl,rfl⟩:sa=sa'/\sc=sc':=by
    simp only[Value.slice.injEq]at e9
    exact⟨e9.1,e9.2.2⟩
   subst ha9
   have hm0:(0:Int)<=(m:Int):=by omega
   have hml:(m:Int)< (ss.length:Int):=by omega
   have hm100:(m:Int)<100:=by have:=HSL.out;omega
   clear hcell hc9 e9 hts hlt
   have hbB:=qa1 wr (.cells #[.string ⟨t.toArray⟩] 9)
   have HB1:=zh hbB
   have BB:=zh (HM.out.boxT wr.heap.size rfl (.string ⟨t.toArray⟩) 9)
   clear hbB
   have HM1:=zh (HM.out.below HB1.out)
   have HX1:=zh (HX.out.trans (HM.out.mxb HB1.out))
   have HL1:=zh ((HM.out.mxb HB1.out).box HL.out)
   have r1:=HX1.out.cell B_r.out
   have l1:=HX1.out.cell B_lv.out
   have f1:=HL1.out.cellv
   have b1:=BB.out.cellv
   unfold ptr at r1
   go_wp2_with fail
   have q2:=qd1 HM1.out t
   try unfold ptr at q2
   refine q2.mono ?_
   clear q2
   intro e w2 h2
   rcases hr2:sgE E 9 t σ.i with x9 | ⟨b,i2⟩
   ·obtain rfl:=qaw (qae hr2)
    rw[hr2]at h2
    obtain⟨⟨u,pv,rfl⟩,hb⟩:=h2
    have HB9:=zh hb
    obtain rfl:R=.error .die:=by rw[HPS.out,hr2];rfl
    clear hb hr2
    go_wp2_with fail
    exact⟨rfl,⟨_,_,rfl⟩,HB9.out⟩
   ·rw[hr2]at h2
    obtain⟨rfl,hm2,hx2⟩:=h2
    have HM2:=zh hm2
    have HY2:=zh hx2
    have HX2:=zh (HX1.out.trans HY2.out)
    have HL2:=zh (HY2.out.box HL1.out)
    have BB2:=zh (HY2.out.box BB.out)
    clear hm2 hx2
    cases b
    ·obtain rfl:=qdj hr2
     have HPN:=zh (show R=qcj E lv j (ss.drop (m+1)) σ by rw[HPS.out,hr2];rfl)
     clear hr2
     go_wp2_with fail
     go_roundg (ss.length- (m+1))
     all_goals first
      | (have h9:=HGN.out;have h8:=HMM.out;omega)
      | exact⟨m+1,rfl,by omega,by simp,zh HPN.out.symm,HM2,HX2,HL2⟩
    ·have HPN:=zh (show R=.ok ((σ.at_ i2).plan [.expr lv,.per2 t j])by rw[HPS.out,hr2];rfl)
     obtain rfl:=HPN.out
     clear hr2
     have HQ:Hid (∀ {w':World} {L':PLay} {nN nC:Nat},MX W0.heap.size W L σ.N.length σ.C.length w' L' nN nC->w'.cell? ⟨k1,0,none⟩=some (.pointer (some ⟨g,0,none⟩))/\w'.cell? ⟨k3,0,none⟩=some (.int .i64 lv)):=zh (fun hx=>⟨hx.cell B_r.out,hx.cell B_lv.out⟩)
     go_wp2_with fail
     have hb:=Below.drew (Below.refl w2.heap.size w2)
     have H3:=zh (HM2.out.below hb)
     have Y3:=zh (HM2.out.mxb hb)
     have X3:=zh (HX2.out.trans Y3.out)
     have B_bt_3:=zh (Y3.out.box BB2.out)
     have cbt3:=B_bt_3.out.cellv
     have B_left_3:=zh (Y3.out.box HL2.out)
     have cleft3:=B_left_3.out.cellv
     clear hb
     go_region_held3 (fun w'=>w'.cell? ⟨k1,0,none⟩=some (.pointer (some ⟨g,0,none⟩))/\w'.cell? ⟨k3,0,none⟩=some (.int .i64 lv)) (first | exact HQ.out X6.out | exact HQ.out X4.out | exact HQ.out X3.out | exact HQ.out (X4.out.trans (H4.out.mxb (qa1 _ _)))) (first | (go_at_call 37;have q4:=qdd (σ:=σ.at_ i2) H3.out lv;try unfold ptr at q4;refine q4.mono ?_;clear q4;rintro e w4 ⟨ve,rfl,hv,hb⟩;obtain⟨fK4,fF4,fC4,rfl⟩:=hv.fn;have V4:=zh hv;have H4:=zh (H3.out.below hb);have Y4:=zh (H3.out.mxb hb);have X4:=zh (X3.out.trans Y4.out);have B_bt_4:=zh (Y4.out.box B_bt_3.out);have cbt4:=B_bt_4.out.cellv;have B_left_4:=zh (Y4.out.box B_left_3.out);have cleft4:=B_left_4.out.cellv;clear hv hb) | (go_at_call 36;have V5:=zh ((IsC.per2 t j _ _ _ B_bt_4.out B_left_4.out (X4.out.box B_r.out) (H0.out.nb j HN_j.out):IsC w4 (L.P W0.heap.size) g L.A L.B (σ.at_ i2).N.length (σ.at_ i2).C.length _ (.per2 t j)));refine(qbd H4.out _ (by simp) [_,_] [.expr lv,.per2 t j] 2 rfl (Nat.le_trans HK.out (by decide)) (by decide) _ ⟨V4.out,⟨V5.out,trivial⟩⟩).mono ?_;rintro e w6 ⟨rfl,M6,hm,hx⟩;have H6:=zh hm;have Y6:=zh hx;have X6:=zh (X4.out.trans Y6.out);have B_bt_6:=zh (Y6.out.box B_bt_4.out);have cbt6:=B_bt_6.out.cellv;have B_left_6:=zh (Y6.out.box B_left_4.out);have cleft6:=B_left_6.out.cellv;have ve_6:=zh (Y6.out.isc V4.out);have vp_6:=zh (Y6.out.isc V5.out);clear hm hx))
     all_goals go_wp2_with fail
     all_goals go_end0
     all_goals exact⟨rfl,M6,H6.out,X6.out⟩
  ·have hme:m=ss.length:=by omega
   subst hme
   have HPN:=zh (show R=.ok σ by rw[<-HP.out,List.drop_length];rfl)
   obtain rfl:=HPN.out
   clear hlt
   go_wp2_with fail
   go_end0
   exact⟨rfl,L,HM.out,HX.out⟩
end
section
variable{W0 W:World}{g:Nat}{s:ByteArray}{E:Env}{tv:Value}{L:PLay}{σ:PM}
theorem lens{t:Bs}:(⟨t.toArray⟩:ByteArray).size=t.length:=by show t.toArray.size=_;simp
theorem qqr(h:MM W0 g s E tv W L σ)(hk:σ.k.length<=274877906944){B:Nat}(hb:Bd E B σ)(hB:B<=1000000000000){K:FuncId}{fF fC:Array Value}{st:Stp}(hv:IsC W (L.P W0.heap.size) g L.A L.B σ.N.length σ.C.length (.func (.func K) fF fC) st)(hok:okS st)(hns:stp E st σ≠ .error .stuck):
 Calls Tryz.prog K (fF++fC) W (SO (stp E st σ) W0 g s E tv W L σ.N.length σ.C.length):=by
 have hto:=h.toLe.1
 cases hv with
 | expr lv p q h1 h2=>
  obtain⟨c1,rfl,r1⟩:=id h1
  obtain⟨c2,rfl,r2⟩:=id h2
  exact qpm h hk lv c1 h1 c2 h2 hns
 | prim=>
  exact qq4 h hk hns
 | folw c hc=>
  obtain⟨ch,hch⟩: ∃ch,σ.C[c]?=some ch:=⟨_,List.getElem?_eq_getElem hc⟩
  obtain⟨q1,q2,q3⟩:=hb.C c ch hch
  exact qpn h hk hch (by omega) (by omega) q3 hns
 | join c op own p q r h1 h2 h3 hc=>
  obtain⟨c1,rfl,r1⟩:=id h1
  obtain⟨c2,rfl,r2⟩:=id h2
  obtain⟨c3,rfl,r3⟩:=id h3
  obtain⟨ch,hch⟩: ∃ch,σ.C[c]?=some ch:=⟨_,List.getElem?_eq_getElem hc⟩
  obtain⟨q1,q2,q3⟩:=hb.C c ch hch
  exact qps h hk hch op own hok (by omega) c1 h1 c2 h2 c3 h3 hns
 | call=>
  exact qpj h hk hns
 | chgd=>
  exact chgdM h hk hns
 | remo=>
  exact qq5 h hk hns
 | clld=>
  exact qpk h hk hns
 | into n p q h1 h2 hn=>
  obtain⟨c1,rfl,r1⟩:=id h1
  obtain⟨c2,rfl,r2⟩:=id h2
  exact qpq h n c1 h1 c2 h2 (fun y hy=>Nat.le_trans (hb.N n y hy) hB) hns
 | tail n k t p q r v h1 h2 h3 h4 hn=>
  obtain⟨c1,rfl,r1⟩:=id h1
  obtain⟨c2,rfl,r2⟩:=id h2
  obtain⟨c3,rfl,r3⟩:=id h3
  exact qj6 h hk n k t v h4 c1 h1 c2 h2 c3 h3 hns
 | item o p q v h1 h2 h3=>
  obtain⟨c1,rfl,r1⟩:=id h1
  obtain⟨c2,rfl,r2⟩:=id h2
  exact qpr h hk o v h3 c1 h1 c2 h2
 | nots T p q u h1 h2 h3=>
  obtain⟨c1,rfl,r1⟩:=id h1
  obtain⟨c2,rfl,r2⟩:=id h3
  obtain⟨ua,uc,rfl⟩:=qdt h2
  exact qpx h T ua uc h2 c1 h1 c2 h3 hns
 | row n b o p q r t v1 v2 v3 h1 h2 h3 h4 h5 h6 h7=>
  obtain⟨c1,rfl,r1⟩:=id h1
  obtain⟨c2,rfl,r2⟩:=id h2
  obtain⟨c3,rfl,r3⟩:=id h4
  obtain⟨c4,rfl,r4⟩:=id h6
  exact qsj h hk n b o v1 v2 v3 h3 h5 h7 c1 h1 c2 h2 c3 h4 c4 h6
 | more n b o p x q r t v1 v2 h1 h2 h3 h4 h5 h6 h7=>
  obtain⟨c1,rfl,r1⟩:=id h1
  obtain⟨c2,rfl,r2⟩:=id h2
  obtain⟨c3,rfl,r3⟩:=id h3
  obtain⟨c4,rfl,r4⟩:=id h5
  obtain⟨c5,rfl,r5⟩:=id h7
  exact qpv h hk n b o c1 c2 c3 c4 c5 v1 v2 h4 h6 (.more n b o _ _ _ _ _ v1 v2 h1 h2 h3 h4 h5 h6 h7) h1 h2 h3 h5 h7
 | wantS t p q h1 h2=>
  obtain⟨c1,rfl,r1⟩:=id h1
  obtain⟨c2,rfl,r2⟩:=id h2
  exact qhe h t c1 h1 c2 h2
 | wantW t p q h1 h2=>
  obtain⟨c1,rfl,r1⟩:=id h1
  obtain⟨c2,rfl,r2⟩:=id h2
  exact qhf h t c1 h1 c2 h2
 | box n o one p x q r v h1 h2 h3 h4 h5 hn=>
  obtain⟨c1,rfl,r1⟩:=id h1
  obtain⟨c2,rfl,r2⟩:=id h2
  obtain⟨c3,rfl,r3⟩:=id h3
  obtain⟨c4,rfl,r4⟩:=id h4
  exact qsi h hk n o one v h5 c1 h1 c2 h2 c3 h3 c4 h4 hns
 | listK n p q r v h1 h2 h3 h4 hn=>
  obtain⟨c1,rfl,r1⟩:=id h1
  obtain⟨c2,rfl,r2⟩:=id h2
  obtain⟨c3,rfl,r3⟩:=id h3
  exact qmc h hk n v h4 c1 h1 c2 h2 c3 h3 hns
 | perh lv ss p q r v h1 h2 h3 h4=>
  obtain⟨c1,rfl,r1⟩:=id h1
  obtain⟨c2,rfl,r2⟩:=id h2
  obtain⟨c3,rfl,r3⟩:=id h3
  exact qq3 h hk lv ss v h4 c1 h1 c2 h2 c3 h3
 | perM lv ss p q r u h1 h2 h3 h4 h5=>
  obtain⟨c1,rfl,r1⟩:=id h1
  obtain⟨c2,rfl,r2⟩:=id h2
  obtain⟨c3,rfl,r3⟩:=id h4
  obtain⟨sa,sc,rfl⟩:=qdt h3
  rw[List.length_map]at h2 h3
  exact qq2 h hk lv ss sa sc h5 h3 c1 h1 c2 h2 c3 h4 (by
   cases hn:σ.n with
   | none=>exact absurd (by show(match σ.n with | some j=>qcj E lv j ss σ | none=>.error .stuck)=_;rw[hn]) hns
   | some j=>exact⟨j,rfl⟩)
 | per2 op left p q r h1 h2 h3 hn=>
  obtain⟨c1,rfl,r1⟩:=id h1
  obtain⟨c2,rfl,r2⟩:=id h2
  obtain⟨c3,rfl,r3⟩:=id h3
  exact qq1 h hk op left (by rw[lens];exact hok) c1 h1 c2 h2 c3 h3 hns
 | bodyO n p q r v h1 h2 h3 h4 hn=>
  obtain⟨c1,rfl,r1⟩:=id h1
  obtain⟨c2,rfl,r2⟩:=id h2
  obtain⟨c3,rfl,r3⟩:=id h3
  exact qmb h hk n v h4 c1 h1 c2 h2 c3 h3 hns
 | blnk b p q h1 h2=>
  obtain⟨c1,rfl,r1⟩:=id h1
  obtain⟨c2,rfl,r2⟩:=id h2
  exact qph h b c1 h1 c2 h2 hns
 | val=>
  exact qsk h hk hns
 | sized=>
  exact qmd h hk hns
 | segm=>
  exact qq6 h hk
 | pair=>
  exact qpy h hk
 | patC=>
  exact qpz h hk
 | funC=>
  exact qpo h hk
 | tstC=>
  exact qq7 h hk
 | lstC=>
  exact qpu h hk
 | patt=>
  exact qq0 h hk
 | guar=>
  exact qpp h hk
 | alts=>
  exact qj5 h hk
 | cond=>
  exact qpl h hk
 | body=>
  exact qpi h hk
 | noth k p q h1 h2=>
  obtain⟨c1,rfl,r1⟩:=id h1
  obtain⟨c2,rfl,r2⟩:=id h2
  exact qpw h k c1 h1 c2 h2
 | arrow n p q h1 h2 hn=>
  obtain⟨c1,rfl,r1⟩:=id h1
  obtain⟨c2,rfl,r2⟩:=id h2
  exact qma h hk n c1 h1 c2 h2 hns
 | last n p q h1 h2 hn=>
  obtain⟨c1,rfl,r1⟩:=id h1
  obtain⟨c2,rfl,r2⟩:=id h2
  exact qpt h hk n c1 h1 c2 h2 hns
end
theorem qua{a':Act}{p:Value}(h:a'.tmps.size=30/\a'.tmps[0]?=some p/\a'.defers=[]): ∃us:Nat->Value,a'= { tmps:= #[p,us 1,us 2,us 3,us 4,us 5,us 6,us 7,us 8,us 9,us 10,us 11,us 12,us 13,us 14,us 15,us 16,us 17,us 18,us 19,us 20,us 21,us 22,us 23,us 24,us 25,us 26,us 27,us 28,us 29],defers:=[] } :=by
 obtain⟨⟨l⟩,d⟩:=a'
 obtain⟨h1,h2,h3⟩:=h
 replace h1:l.length=30:=h1
 replace h3:d=[]:=h3
 subst h3
 have e:=qiz l
 rw[h1]at e
 refine⟨fun i=>l.getD i undef,?_⟩
 have h4:l[0]?=some p:=by simpa using h2
 have h5:l.getD 0 undef=p:=by rw[List.getD_eq_getElem?_getD,h4];rfl
 rw[<-h5]
 show({ tmps:=⟨l⟩,defers:=[] } :Act)= { tmps:=⟨(List.range 30).map (fun i=>l.getD i undef)⟩,defers:=[] }
 rw[<-e]
def runJ(W0:World)(g:Nat)(s:ByteArray)(E:Env)(tv:Value)(W:World)(L:PLay)(nN nC:Nat)(R:Rs PM)(n:Nat)(a':Act)(w':World):Prop:=
 ∃(τ:PM) (M:PLay) (B:Nat),Hid (MM W0 g s E tv w' M τ)/\Hid (MX W0.heap.size W L nN nC w' M τ.N.length τ.C.length)/\Hid (mach E n τ=R)/\Hid (Bd E B τ/\2<=B/\B+n<=1000000000000)/\Hid (pot E τ<=274877906944)/\
  Hid (a'.tmps.size=30/\a'.tmps[0]?=some (.pointer (some ⟨g,0,none⟩))/\a'.defers=[])
section
variable{W0 W:World}{g:Nat}{s:ByteArray}{E:Env}{tv:Value}{L:PLay}{σ:PM}
theorem MM.todo0(h:MM W0 g s E tv W L σ)(hk:σ.k=[]): ∃a c,W.cell? ⟨g,4,none⟩=some (.slice a 0 c):=by
 obtain⟨td,np,past,r1,⟨us,u1,u2,u3⟩,r3⟩:=h.rd
 rw[hk]at u1 u2
 obtain⟨-,⟨rfl,-⟩ | ⟨b,cap,cur,rfl,-⟩⟩:=u2
 ·exact⟨_,_,r1.cells.2.2.2.2.1⟩
 ·exact⟨_,_,r1.cells.2.2.2.2.1⟩
theorem MM.pop(h:MM W0 g s E tv W L σ){st:Stp}{r:List Stp}(hk:σ.k=st::r): ∃b cap K fF fC,W.cell? ⟨g,4,none⟩=some (.slice (some ⟨b,0,none⟩) (r.length+1) cap)/\(∀j,W.frozen? ⟨g,j,none⟩=false)/\r.length+1<=cap/\W.cell? ⟨b,r.length,none⟩=some (.func (.func K) fF fC)/\IsC W (L.P W0.heap.size) g L.A L.B σ.N.length σ.C.length (.func (.func K) fF fC) st/\
 MM W0 g s E tv (W.setCell ⟨g,4,none⟩ (.slice (some ⟨b,0,none⟩) r.length cap)) L { σ with k:=r } /\MX W0.heap.size W L σ.N.length σ.C.length (W.setCell ⟨g,4,none⟩ (.slice (some ⟨b,0,none⟩) r.length cap)) L σ.N.length σ.C.length:=by
 obtain⟨td,np,past,r1,⟨us,u1,u2,u3⟩,r3⟩:=h.rd
 rw[hk]at u1 u2
 match us,u1,u2 with
 | v::vs,⟨c1,c2⟩,u2=>
  obtain⟨K,fF,fC,rfl⟩:=c1.fn
  obtain⟨q1,⟨-,q2⟩ | ⟨b,cap,cur,rfl,q2,q3,q4,q5,q6,q7⟩⟩:=u2
  ·simp at q2
  have hvl:vs.length=r.length:=c2.len
  rw[List.reverse_cons,Nat.mul_one]at q7
  rw[List.length_cons]at q4
  have q8:cur.toList.take (r.length+1)=vs.reverse++[.func (.func K) fF fC]:=q7
  have hbt:L.own b=.td:=u3 b rfl
  have hbg:b≠g:=fun e=>by rw[e,h.og]at hbt;cases hbt
  have hcell:W.cell? ⟨b,r.length,none⟩=some (.func (.func K) fF fC):=by
   rw[cell_of_row W _ _ _ _ _ q3,<-Array.getElem?_toList]
   have h9:(cur.toList.take (r.length+1))[r.length]?=some (.func (.func K) fF fC):=by
    rw[q8,List.getElem?_append_right (by rw[zA];omega),zA,hvl,Nat.sub_self];rfl
   rw[List.getElem?_take_of_lt (Nat.lt_succ_self _)]at h9
   exact h9
  have hg:=qb0 W g 4 (.slice (some ⟨b,0,none⟩) r.length cap)
  have hcr:=h.carry (W':=W.setCell ⟨g,4,none⟩ (.slice (some ⟨b,0,none⟩) r.length cap)) (L':=L) (· =.rd) (by simp) hg.size hg.os hg.tape hg.output (fun q hq hd=>hg.block q hq (fun e=>hd (by rw[Option.some.inj e];exact h.og))) (fun _ _ _=>rfl) (fun _ _=>rfl) (fun _ _=>rfl)
  refine⟨b,cap,K,fF,fC,r1.cells.2.2.2.2.1,r1.frz,q4,hcell,c1,⟨hcr.bel,fun q hq=>⟨(h.own q hq).1,Nat.lt_of_lt_of_le (h.own q hq).2 hg.size⟩,h.og,h.tvb,⟨_,np,past,(r1.setT (.slice (some ⟨b,0,none⟩) r.length cap)).1,⟨vs,c2.mono (fun v s hv=>hv.keep hcr.kp hcr.fz (fun _ _=>rfl) (fun _ _=>rfl) (Nat.le_refl _) (Nat.le_refl _)),?_,u3⟩,r3⟩,fun n x hx=>hcr.nds n x hx (by simp) (by simp),fun c x hx=>hcr.chs c x hx (by simp) (by simp) (by simp),h.lfb,h.nb⟩,hcr.mx _ _ (Nat.le_refl _) (Nat.le_refl _)⟩
  refine⟨by rw[zA,Nat.mul_one];exact hvl,.inr ⟨b,cap,cur,rfl,q2,(hg.block _ (lt_of_block q3) (fun e=>hbg (Option.some.inj e))).trans q3,by show r.length<=cap;omega,q5,q6,?_⟩⟩
  show cur.toList.take (r.length*1)=vs.reverse
  rw[Nat.mul_one]
  have h9:(cur.toList.take (r.length+1)).take r.length=vs.reverse:=by
   rw[q8,List.take_append_of_le_length (by rw[zA];omega),List.take_of_length_le (by rw[zA];omega)]
  rw[List.take_take,Nat.min_eq_left (Nat.le_succ _)]at h9
  exact h9
theorem Bd.tl{B:Nat}{τ:PM}{st:Stp}{r:List Stp}(h:Bd E B τ)(hk:τ.k=st::r):Bd E B { τ with k:=r } /\okS st:=⟨⟨fun s hs=>h.ok s (by rw[hk];exact List.mem_cons_of_mem _ hs),h.i,h.N,h.C⟩,h.ok st (by rw[hk];exact List.mem_cons_self ..)⟩
theorem runM(h:MM W0 g s E tv W L σ)(n B:Nat)(hb:Bd E B σ)(hB:2<=B)(hn:B+n<=1000000000000)(hp:pot E σ<=274877906944)(hns:mach E n σ≠ .error .stuck):
 Calls Tryz.prog 62 #[.pointer (some ⟨g,0,none⟩)] W (SO (mach E n σ) W0 g s E tv W L σ.N.length σ.C.length):=by
 obtain⟨R,hR⟩: ∃R:Rs PM,R=mach E n σ:=⟨_,rfl⟩
 rw[<-hR]at hns⊢
 have HNS:=zh hns
 have HZ:Hid (∀k,(E.tk k).2.1.size<=1048576):=zh (by obtain⟨td,np,past,r1,-⟩:=h.rd;exact r1.sz)
 have HI:Hid (runJ W0 g s E tv W L σ.N.length σ.C.length R n { tmps:= #[.pointer (some ⟨g,0,none⟩),undef,undef,undef,undef,undef,undef,undef,undef,undef,undef,undef,undef,undef,undef,undef,undef,undef,undef,undef,undef,undef,undef,undef,undef,undef,undef,undef,undef,undef],defers:=[] } W):=zh ⟨σ,L,B,zh h,zh (MX.refl _ _ _ _ _),zh hR.symm,zh ⟨hb,hB,hn⟩,zh hp,zh ⟨rfl,rfl,rfl⟩⟩
 clear h hb hB hn hp hns hR
 go_enter Tryz.func62,Tryz.ntmps62
 go_wp2_with fail
 refine qct (runJ W0 g s E tv W L σ.N.length σ.C.length R) rfl ?_ ?_
 ·rintro n a' w' ⟨τ,M,B,H0,X0,HM,HB,HP,HF⟩
  obtain⟨us,rfl⟩:=qua HF.out
  clear HF
  rcases n with _ | n
  ·exact absurd HM.out.symm HNS.out
  cases hk:τ.k with
  | nil=>
   have e9:R=.ok τ:=by rw[<-HM.out];show(match τ.k with | []=>_ | s::r=>_)=_;rw[hk]
   subst e9
   obtain⟨ta,tc,g4⟩:=H0.out.todo0 hk
   clear hk
   go_wp2_with fail
   rw[qcl]
   go_end0
   exact⟨rfl,M,H0.out,X0.out⟩
  | cons st r=>
   obtain⟨b,cap,K,fF,fC,g4,gf,hcap,gv,hv,hm,hx⟩:=H0.out.pop hk
   have gf4:=gf 4
   have HV:=zh hv
   have H1:=zh hm
   have Y1:=zh hx
   have hen:=hv.enter
   have HS:Hid (R=(stp E st { τ with k:=r } >>= mach E n)):=zh (by rw[<-HM.out];show(match τ.k with | []=>_ | s::r=>_)=_;rw[hk])
   have HK:=zh hk
   have hi0:(0:Int)<=(r.length:Int):=by omega
   have hi1:(r.length:Int)< (r.length:Int)+1:=by omega
   have hi2:(r.length:Int)<=(cap:Int):=by omega
   have hlen:r.length<=274877906944:=by
    have h1:=qnp τ.k
    have h2:=HP.out
    unfold pot at h2
    rw[hk]at h1 h2
    rw[List.length_cons]at h1
    omega
   have HLEN:=zh hlen
   have hw:wrap64 (r.length:Int)=(r.length:Int):=by have:=IntKind.wrap_i64 (r.length:Int);unfold wrap64;omega
   have hw2:((r.length:Int)).toNat=r.length:=rfl
   clear hlen
   clear hv hm hx gf hk hcap
   go_wp2_with fail
   have hB:=HB.out
   have hns:stp E st { τ with k:=r } ≠ .error .stuck:=fun e=>HNS.out (by rw[HS.out,e];rfl)
   have hbd:=hB.1.tl HK.out
   refine(qqr (σ:= { τ with k:=r }) H1.out HLEN.out hbd.1 (by omega) (Y1.out.isc HV.out) hbd.2 hns).mono ?_
   clear hB hns hbd
   intro e w9 h9
   cases hres:stp E st { τ with k:=r } with
   | error b=>
    cases b with
    | stuck=>exact absurd (by rw[HS.out,hres];rfl) HNS.out
    | die=>
     rw[hres]at h9
     obtain⟨⟨u,pv,rfl⟩,hb⟩:=h9
     have HB9:=zh hb
     obtain rfl:R=.error .die:=by rw[HS.out,hres];rfl
     clear hb hres
     go_wp2_with fail
     exact⟨rfl,⟨_,_,rfl⟩,HB9.out⟩
   | ok τ'=>
    rw[hres]at h9
    obtain⟨rfl,M9,hm,hx⟩:=h9
    have h7:=qto (i:=τ.i) (K:=r) (u:=τ.n) (N:=τ.N) (C:=τ.C) HZ.out HB.out.2.1 (by rw[<-HK.out];exact HB.out.1) hres
    rw[<-HK.out]at h7
    have H7:=zh h7
    have H9:=zh hm
    have X9:=zh (X0.out.trans (Y1.out.trans hx))
    have HM9:=zh (show mach E n τ'=R by rw[HS.out,hres];rfl)
    clear hm hx hres h7
    go_wp2_with fail
    go_step3
    try simp only[Exit.then]
    show qd3 _ _ _ _ _
    rw[qcz]
    exact⟨rfl,n,Nat.lt_succ_self _,τ',M9,B+1,H9,X9,HM9,zh ⟨H7.out.1,by have:=HB.out.2.1;omega,by have:=HB.out.2.2;omega⟩,zh (by have h1:=H7.out.2;have h2:=HP.out;exact Nat.le_trans (Nat.le_of_lt h1) h2),zh ⟨rfl,rfl,rfl⟩⟩
 ·intro hp
  go_wp2_with fail
  go_step3
  rename_i hK
  exact hK _ _ (hp _ _ _ HI.out)
end
end Go.Proofs.YtdhadeeajgoedaaGreat
