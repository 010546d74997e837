/-
  What the claims stand on: PmStepU, PmStepL.
-/
import Derived.Test.YtdhadeeajgoedaaGreatK42
import Derived.Test.YtdhadeeajgoedaaGreatK43
import Derived.Deep.RegionLaw
set_option maxRecDepth 100000
set_option maxHeartbeats 4000000
set_option linter.unusedVariables false
set_option linter.unusedSimpArgs false
open Go.RowKit.Below renaming drew→zA,heap_setCell→zB
open List renaming setIfInBounds_toArray→zC,set_cons_succ→zD,set_cons_zero→zE
namespace Go.Proofs.YtdhadeeajgoedaaGreat
open Go.RowKit Go.PlainAid
section
variable{W0 W:World}{g:Nat}{s:ByteArray}{E:Env}{tv:Value}{L:PLay}{σ:PM}
theorem qpq(h:MM W0 g s E tv W L σ)(n:Nat)(k1:Nat)(b1:BoxC W (L.P W0.heap.size) (.pointer (some ⟨k1,0,none⟩)) (ptr (L.A n)))(k2:Nat)(b2:BoxC W (L.P W0.heap.size) (.pointer (some ⟨k2,0,none⟩)) (ptr g))(hrow: ∀y,σ.N[n]?=some (some y)->y.ls.length<=1000000000000)(hns:stp E (.into n) σ≠ .error .stuck):
 Calls Tryz.prog 140 #[.pointer (some ⟨k1,0,none⟩),.pointer (some ⟨k2,0,none⟩)] W (SO (stp E (.into n) σ) W0 g s E tv W L σ.N.length σ.C.length):=by
 obtain⟨R,hR⟩: ∃R:Rs PM,R=stp E (.into n) σ:=⟨_,rfl⟩
 rw[<-hR]at hns⊢
 have HR:=zh hR
 have HNS:=zh hns
 have H0:=zh h
 have X0:=zh (MX.refl W0.heap.size W L σ.N.length σ.C.length)
 have B_n:=zh b1
 have B_r:=zh b2
 rcases hcu:σ.cur with b9 | ⟨j,x⟩
 ·obtain rfl:=qcn hcu
  exact absurd (by rw[HR.out];show(σ.cur >>= fun x=>_)=_;rw[hcu];rfl) HNS.out
 obtain⟨hn_j,hx_j⟩:=qda hcu
 have HX_j:=zh hx_j
 have HN_j:=zh hn_j
 rcases hnn:σ.nd n with b9 | y
 ·obtain rfl:=qdv hnn
  exact absurd (by rw[HR.out];show(σ.cur >>= fun x=>_)=_;rw[hcu];show(σ.nd n >>= fun y=>_)=_;rw[hnn];rfl) HNS.out
 have HX_n:=zh (qg2 hnn)
 by_cases hne:j=n
 ·exact absurd (by rw[HR.out];show(σ.cur >>= fun x=>_)=_;rw[hcu];show(σ.nd n >>= fun y=>_)=_;rw[hnn];show(if j=n then _ else _)=_;rw[if_pos hne]) HNS.out
 have HNE:=zh hne
 have HROW:=zh (hrow y HX_n.out)
 obtain rfl:R=.ok (((σ.mv j).set n (y.add [x])).is n):=by
  rw[HR.out];show(σ.cur >>= fun x=>_)=_;rw[hcu];show(σ.nd n >>= fun y=>_)=_;rw[hnn];show(if j=n then _ else _)=_;rw[if_neg hne]
 clear h hR hns b1 b2 hcu hn_j hx_j hnn hne hrow
 go_enter Tryz.func140,Tryz.ntmps140
 go_upto_region 0 with fail
 go_cut [3]from 2 to 3 (fun v wx=> ∃b,v=.bool b/\Hid (Below W.heap.size W wx))
 case first=>
  go_region
  all_goals go_wp2_with fail
  all_goals go_meet
  all_goals first | exact⟨_,rfl,zh (zA (qa1 W _))⟩ | exact⟨_,rfl,zh (qa1 W _)⟩
 case rest=>
  obtain⟨b9,rfl,HB9⟩:=hcut
  have H1:=zh (H0.out.below HB9.out)
  have Y1:=zh (H0.out.mxb HB9.out)
  have X1:=zh (X0.out.trans Y1.out)
  have B_n1:=zh (Y1.out.box B_n.out)
  have B_r1:=zh (Y1.out.box B_r.out)
  obtain⟨ka,ta,la,ra,qa,na,va,hNd,⟨la1,la2,la3,rfl⟩,⟨na1,na2,na3,rfl⟩,⟨va1,va2,va3,rfl⟩⟩:=H1.out.ncellsA HX_j.out
  have HND:=zh hNd
  clear hNd
  obtain⟨va9,vc9,hv9⟩:=H1.out.lsv HX_n.out
  have HV:=zh hv9
  clear hv9
  have hro:=H1.out.rowQ (j:=j) HX_n.out HV.out (Below.refl _ _)
  have HRO:=zh hro.1
  have HVO:=zh hro.2
  clear hro
  have hA1:L.own (L.A n)=.hd n:=by
   have h9:=H1.out.nds n y HX_n.out
   cases y;exact h9.1
  have HA1:=zh hA1
  clear hA1
  have hAj:L.own (L.A j)=.hd j:=by
   have h9:=H1.out.nds j x HX_j.out
   cases x;exact h9.1
  have HAJ:=zh hAj
  clear hAj
  have HF:Hid (∀w':World,(∀k,k<wc.heap.size->L.own k≠ .rw n->L.own k≠ .hd n->w'.heap[k]?=wc.heap[k]?)->w'.cell? ⟨k1,0,none⟩=some (.pointer (some ⟨L.A n,0,none⟩))/\w'.cell? ⟨k2,0,none⟩=some (.pointer (some ⟨g,0,none⟩))/\w'.cell? ⟨g,5,none⟩=some (.pointer (some ⟨L.A j,0,none⟩))/\w'.cell? ⟨L.A j,0,none⟩=some (.int .i64 ka)/\w'.cell? ⟨L.A j,1,none⟩=some (.string ta)/\w'.cell? ⟨L.A j,2,none⟩=some (.slice la1 la2 la3)/\w'.cell? ⟨L.A j,3,none⟩=some (.bool ra)/\w'.cell? ⟨L.A j,4,none⟩=some (.bool qa)/\w'.cell? ⟨L.A j,5,none⟩=some (.slice na1 na2 na3)/\w'.cell? ⟨L.A j,6,none⟩=some (.slice va1 va2 va3)):=zh (fun w' hs=>by
   have hbx: ∀ {p u:Value},BoxC wc (L.P W0.heap.size) p u-> ∀q,p=.pointer (some ⟨q,0,none⟩)->w'.cell? ⟨q,0,none⟩=some u:=fun hb q e=>by
    obtain⟨b,e1,e2,e3,e4⟩:=hb
    rw[e1]at e
    simp only[Value.pointer.injEq,Option.some.injEq,Addr.mk.injEq,and_true]at e
    subst e
    exact(World.cell?_of_block (w:=wc) (hs b e3 (by rw[e2.1];exact fun h=>by cases h) (by rw[e2.1];exact fun h=>by cases h))).trans e4
   have hg9:=hs g H1.out.glt (by rw[H1.out.og];exact fun h=>by cases h) (by rw[H1.out.og];exact fun h=>by cases h)
   have hj9:=hs (L.A j) HND.out.lt (by rw[HAJ.out];exact fun h=>by cases h) (by rw[HAJ.out];exact fun h=>HNE.out (by cases h;rfl))
   have hnb:NdB w' (L.A j) ka ta (.slice la1 la2 la3) ra qa (.slice na1 na2 na3) (.slice va1 va2 va3):=hj9.trans HND.out
   have hnc:=hnb.cells
   have h1:=hbx B_n1.out k1 rfl
   have h2:=hbx B_r1.out k2 rfl
   unfold ptr at h1 h2
   exact⟨h1,h2,(World.cell?_of_block (w:=wc) hg9).trans (H1.out.gcur HN_j.out),hnc⟩)
  have HD1:=zh (HF.out wc (fun _ _ _ _=>rfl))
  have HDO:=zh (fun O=>HF.out (wc.alloc O) (fun k hk _ _=>(qa1 wc O).block k hk))
  have kn:=(HD1.out).1
  have kr:=(HD1.out).2.1
  have kg:=(HD1.out).2.2.1
  have x0:=(HD1.out).2.2.2.1
  have x1:=(HD1.out).2.2.2.2.1
  have x2:=(HD1.out).2.2.2.2.2.1
  have x3:=(HD1.out).2.2.2.2.2.2.1
  have x4:=(HD1.out).2.2.2.2.2.2.2.1
  have x5:=(HD1.out).2.2.2.2.2.2.2.2.1
  have x6:=(HD1.out).2.2.2.2.2.2.2.2.2
  have knO:=fun O=>(HDO.out O).1
  have krO:=fun O=>(HDO.out O).2.1
  have kgO:=fun O=>(HDO.out O).2.2.1
  have x0O:=fun O=>(HDO.out O).2.2.2.1
  have x1O:=fun O=>(HDO.out O).2.2.2.2.1
  have x2O:=fun O=>(HDO.out O).2.2.2.2.2.1
  have x3O:=fun O=>(HDO.out O).2.2.2.2.2.2.1
  have x4O:=fun O=>(HDO.out O).2.2.2.2.2.2.2.1
  have x5O:=fun O=>(HDO.out O).2.2.2.2.2.2.2.2.1
  have x6O:=fun O=>(HDO.out O).2.2.2.2.2.2.2.2.2
  have hv:=HV.out
  have hvO:=fun O=>((qa1 wc O).cell (p:=⟨L.A n,2,none⟩) (World.block_lt_of_cell? _ _ HV.out)).trans HV.out
  have HLEN:=zh (show y.ls.length+1<=1099511627776 by have:=HROW.out;omega)
  have HFR:Hid (∀O q,(wc.alloc O).heap.size<=q->L.Q W0.heap.size n j wc.heap.size q):=zh (fun O q hq=>.inr (.inr (by have:(wc.alloc O).heap.size=wc.heap.size+1:=(by simp);omega)))
  have HBS:Hid (∀O,W0.heap.size<=(wc.alloc O).heap.size):=zh (fun O=>by have:=H1.out.bel.size;have:(wc.alloc O).heap.size=wc.heap.size+1:=(by simp);omega)
  have HBW:Hid (∀O,Below wc.heap.size wc (wc.alloc O).drew):=zh (fun O=>zA (qa1 wc O))
  have HAN:Hid (∀(w4:World) (O:Obj),(wc.alloc O).drew.grownBy w4 (Value.slice va9 y.ls.length vc9).ownBlock->(∀k,k<wc.heap.size->L.own k≠ .rw n->L.own k≠ .hd n->w4.heap[k]?=wc.heap[k]?)/\w4.heap[L.A n]?=wc.heap[L.A n]?):=zh (fun w4 O hg=>⟨fun k hk d1 d2=>(hg.block k (Nat.lt_of_lt_of_le hk (HBW.out O).size) (fun e=>d1 (HVO.out k e.symm).1)).trans ((HBW.out O).block k hk),(hg.block _ (Nat.lt_of_lt_of_le (World.block_lt_of_cell? _ _ HV.out) (HBW.out O).size) (fun e=>by have:=(HVO.out _ e.symm).1;rw[HA1.out]at this;cases this)).trans ((HBW.out O).block _ (World.block_lt_of_cell? _ _ HV.out))⟩)
  have HNB:Hid (∃k t br bl nv tv,NdB wc (L.A n) k t (.slice va9 y.ls.length vc9) br bl nv tv):=zh (by
   obtain⟨k,t,lv,br,bl,nv,tv,h9⟩:=H1.out.ncells HX_n.out
   have h8:=h9.cells.2.2.1
   rw[HV.out]at h8
   rw[<-Option.some.inj h8]at h9
   exact⟨_,_,_,_,_,_,h9⟩)
  have HAF:Hid (∀w4:World,w4.heap[L.A n]?=wc.heap[L.A n]?->w4.cell? ⟨L.A n,2,none⟩=some (.slice va9 y.ls.length vc9)/\w4.frozen? ⟨L.A n,2,none⟩=false):=zh (fun w4 he=>by
   obtain⟨k,t,br,bl,nv,tv,h9⟩:=HNB.out
   have h8:NdB _ (L.A n) k t (.slice va9 y.ls.length vc9) br bl nv tv:=he.trans h9
   exact⟨h8.cells.2.2.1,h8.frz 2⟩)
  cases b9 with
  | false=>
   have HST:Hid (RowIn (wc.alloc (.cells #[.int .i64 ka,.string ta,.slice la1 la2 la3,.bool ra,.bool qa,.slice na1 na2 na3,.slice va1 va2 va3] 29)).drew (fun q=>L.Q W0.heap.size n j wc.heap.size q/\(Value.slice va9 y.ls.length vc9).ownBlock≠some q) (.slice (some ⟨wc.heap.size,0,none⟩) 1 1) [x]):=zh (by
    have h1:=(H1.out.ndQ (W1:=wc) HX_j.out HNE.out HND.out (Nat.le_refl _) (fun _ _ _ _=>rfl) wc.heap.size ⟨fun _ _=>trivial,.inr (Nat.le_refl _)⟩).1
    have h2:NdIn wc (fun q=>L.Q W0.heap.size n j wc.heap.size q/\(Value.slice va9 y.ls.length vc9).ownBlock≠some q) [.int .i64 ka,.string ta,.slice la1 la2 la3,.bool ra,.bool qa,.slice na1 na2 na3,.slice va1 va2 va3] x:=by
     cases hvo:(Value.slice va9 y.ls.length vc9).ownBlock with
     | none=>exact h1.weak (fun q hq _=>⟨hq.1,fun e=>by cases e⟩)
     | some z=>exact(H1.out.ndQ (W1:=wc) HX_j.out HNE.out HND.out (Nat.le_refl _) (fun _ _ _ _=>rfl) z ⟨fun _ _=>trivial,.inl (HVO.out z hvo).1⟩).1.weak (fun q hq _=>⟨hq.1,fun e=>hq.2 (Option.some.inj e).symm⟩)
    have h3:=(OwnN.made (W:=wc) (P:=fun q=>L.Q W0.heap.size n j wc.heap.size q/\(Value.slice va9 y.ls.length vc9).ownBlock≠some q) (css:=[[.int .i64 ka,.string ta,.slice la1 la2 la3,.bool ra,.bool qa,.slice na1 na2 na3,.slice va1 va2 va3]]) (T:=[x]) rfl (by
     intro i c y9 g1 g2
     cases i with
     | zero=>simp only[List.getElem?_cons_zero,Option.some.injEq]at g1 g2;subst g1 g2;exact h2
     | succ i=>simp at g1) #[.int .i64 ka,.string ta,.slice la1 la2 la3,.bool ra,.bool qa,.slice na1 na2 na3,.slice va1 va2 va3] rfl ⟨.inr (.inr (Nat.le_refl _)),fun e=>by have:=(HVO.out _ e).2;omega⟩ (by show 1<=maxLen;decide) wc.heap.size rfl).row
    exact h3.keep (qax (zA (Below.refl _ _))))
   go_wp2_with fail
   go_cut []from 20 to 34 (fun wx=> ∃L',Hid (MM W0 g s E tv wx L' ((σ.mv j).set n (y.add [x])))/\Hid (MX W0.heap.size wc L σ.N.length σ.C.length wx L' ((σ.mv j).set n (y.add [x])).N.length ((σ.mv j).set n (y.add [x])).C.length)/\Hid (L'.A=L.A))
   case first=>
    refine wp_region_noPanic ?_
    refine wp_region_held_drew (S:=(fun w'=>w'.cell? ⟨k1,0,none⟩=some (.pointer (some ⟨L.A n,0,none⟩))/\w'.cell? ⟨k2,0,none⟩=some (.pointer (some ⟨g,0,none⟩))/\w'.cell? ⟨g,5,none⟩=some (.pointer (some ⟨L.A j,0,none⟩))/\w'.cell? ⟨L.A j,0,none⟩=some (.int .i64 ka)/\w'.cell? ⟨L.A j,1,none⟩=some (.string ta)/\w'.cell? ⟨L.A j,2,none⟩=some (.slice la1 la2 la3)/\w'.cell? ⟨L.A j,3,none⟩=some (.bool ra)/\w'.cell? ⟨L.A j,4,none⟩=some (.bool qa)/\w'.cell? ⟨L.A j,5,none⟩=some (.slice na1 na2 na3)/\w'.cell? ⟨L.A j,6,none⟩=some (.slice va1 va2 va3))) (by kernel_rfl) (by(try dsimp only);(first | exact HF.out _ (fun _ _ _ _=>rfl) | exact HF.out _ (fun k hk _ _=>(zA (qa1 wc _)).block k hk) | exact HF.out _ HG.out.1 | exact HF.out _ (fun k hk d1 d2=>(zB _ _ _ _ (fun e=>d2 (by have e:k=L.A n:=e;rw[e];exact HA1.out))).trans (HG.out.1 k hk d1 d2)))) (fun hHeld=>?_)
    refine wpAnyH_take (i:=0) (v:=?_) rfl (by kernel_rfl) (by kernel_rfl) (by kernel_rfl) (fun _ _ _ h=>h) (Or.inl ⟨by rfl,?_⟩) (by assumption) ?_
    rotate_left 1
    ·(intro w' hSw;(try dsimp only at hSw);go_simp;(first | done | with_reducible rfl))
    try simp only[Act.put,zC,zE,zD]
    refine wpAnyH_take (i:=1) (v:=?_) rfl (by kernel_rfl) (by kernel_rfl) (by kernel_rfl) (fun _ _ _ h=>h) (Or.inl ⟨by rfl,?_⟩) (by assumption) ?_
    rotate_left 1
    ·(intro w' hSw;(try dsimp only at hSw);go_simp;(first | done | with_reducible rfl))
    try simp only[Act.put,zC,zE,zD]
    refine wpAnyH_take (i:=2) (v:=?_) rfl (by kernel_rfl) (by kernel_rfl) (by kernel_rfl) (fun _ _ _ h=>h) (Or.inl ⟨by rfl,?_⟩) (by assumption) ?_
    rotate_left 1
    ·(intro w' hSw;(try dsimp only at hSw);go_simp;(first | done | with_reducible rfl))
    try simp only[Act.put,zC,zE,zD]
    refine wpAnyH_take (i:=3) (v:=?_) rfl (by kernel_rfl) (by kernel_rfl) (by kernel_rfl) (fun _ _ _ h=>h) (Or.inl ⟨by rfl,?_⟩) (by assumption) ?_
    rotate_left 1
    ·(intro w' hSw;(try dsimp only at hSw);go_simp;(first | done | with_reducible rfl))
    try simp only[Act.put,zC,zE,zD]
    refine wpAnyH_take (i:=5) (v:=?_) rfl (by kernel_rfl) (by kernel_rfl) (by kernel_rfl) (fun _ _ _ h=>h) (Or.inl ⟨by rfl,?_⟩) (by assumption) ?_
    rotate_left 1
    ·(intro w' hSw;(try dsimp only at hSw);go_simp;(first | done | with_reducible rfl))
    try simp only[Act.put,zC,zE,zD]
    refine wpAnyH_take (i:=6) (v:=?_) rfl (by kernel_rfl) (by kernel_rfl) (by kernel_rfl) (fun _ _ _ h=>h) (Or.inl ⟨by rfl,?_⟩) (by assumption) ?_
    rotate_left 1
    ·(intro w' hSw;(try dsimp only at hSw);go_simp;(first | done | with_reducible rfl))
    try simp only[Act.put,zC,zE,zD]
    refine wpAnyH_take (i:=7) (v:=?_) rfl (by kernel_rfl) (by kernel_rfl) (by kernel_rfl) (fun _ _ _ h=>h) (Or.inl ⟨by rfl,?_⟩) (by assumption) ?_
    rotate_left 1
    ·(intro w' hSw;(try dsimp only at hSw);go_simp;(first | done | with_reducible rfl))
    try simp only[Act.put,zC,zE,zD]
    refine wpAnyH_take (i:=8) (v:=?_) rfl (by kernel_rfl) (by kernel_rfl) (by kernel_rfl) (fun _ _ _ h=>h) (Or.inl ⟨by rfl,?_⟩) (by assumption) ?_
    rotate_left 1
    ·(intro w' hSw;(try dsimp only at hSw);go_simp;(first | done | with_reducible rfl))
    try simp only[Act.put,zC,zE,zD]
    refine wpAnyH_take (i:=9) (v:=?_) rfl (by kernel_rfl) (by kernel_rfl) (by kernel_rfl) (fun _ _ _ h=>h) (Or.inl ⟨by rfl,?_⟩) (by assumption) ?_
    rotate_left 1
    ·(intro w' hSw;(try dsimp only at hSw);go_simp;(first | done | with_reducible rfl))
    try simp only[Act.put,zC,zE,zD]
    refine wpAnyH_take (i:=10) (v:=?_) rfl (by kernel_rfl) (by kernel_rfl) (by kernel_rfl) (fun _ _ _ h=>h) (Or.inl ⟨by rfl,?_⟩) (by assumption) ?_
    rotate_left 1
    ·(intro w' hSw;(try dsimp only at hSw);go_simp;(first | done | with_reducible rfl))
    try simp only[Act.put,zC,zE,zD]
    refine wpAnyH_ready (rs:=[4,11]) (by kernel_rfl) (by simp) ?_
    refine(AllReadyH.cons rfl (fun K hK=>?_) (AllReadyH.cons rfl (fun K hK=>?_) AllReadyH.nil))
    go_simp
    refine hK.out _ _ (by(try dsimp only);(first | exact HF.out _ (fun _ _ _ _=>rfl) | exact HF.out _ (fun k hk _ _=>(zA (qa1 wc _)).block k hk) | exact HF.out _ HG.out.1 | exact HF.out _ (fun k hk d1 d2=>(zB _ _ _ _ (fun e=>d2 (by have e:k=L.A n:=e;rw[e];exact HA1.out))).trans (HG.out.1 k hk d1 d2)))) (fun hHeld=>?_)
    clear hK K
    try simp only[Act.put,zC,zE,zD]
    refine wpAnyH_ready (rs:=[11]) (by kernel_rfl) (by simp) ?_
    refine(AllReadyH.cons rfl (fun K hK=>?_) AllReadyH.nil)
    go_simp
    refine hK.out _ _ (by(try dsimp only);(first | exact HF.out _ (fun _ _ _ _=>rfl) | exact HF.out _ (fun k hk _ _=>(zA (qa1 wc _)).block k hk) | exact HF.out _ HG.out.1 | exact HF.out _ (fun k hk d1 d2=>(zB _ _ _ _ (fun e=>d2 (by have e:k=L.A n:=e;rw[e];exact HA1.out))).trans (HG.out.1 k hk d1 d2)))) (fun hHeld=>?_)
    clear hK K
    try simp only[Act.put,zC,zE,zD]
    refine wpAnyH_ready (rs:=[12]) (by kernel_rfl) (by simp) ?_
    refine(AllReadyH.cons rfl (fun K hK=>?_) AllReadyH.nil)
    (first | (refine qcb rfl _ _ rfl (L.Q W0.heap.size n j wc.heap.size) W0.heap.size _ y.ls rfl (HRO.out.below (HBW.out _)) _ [x] rfl HST.out HLEN.out (HBS.out _) (HFR.out _) ?_;intro v4 w4 hsk hgr hat;obtain⟨g4,c4,rfl⟩:=qdp hsk;have HG:=zh (HAN.out _ _ hgr);have HT:=zh (H1.out.intoB HX_j.out HX_n.out HNE.out HV.out (HBW.out _) hsk hgr hat);have hf4:=HAF.out _ HG.out.2;have hf42:=hf4.2;have hf41:=hf4.1;clear hf4 hsk hgr hat))
    refine hK.out _ _ (by(try dsimp only);(first | exact HF.out _ (fun _ _ _ _=>rfl) | exact HF.out _ (fun k hk _ _=>(zA (qa1 wc _)).block k hk) | exact HF.out _ HG.out.1 | exact HF.out _ (fun k hk d1 d2=>(zB _ _ _ _ (fun e=>d2 (by have e:k=L.A n:=e;rw[e];exact HA1.out))).trans (HG.out.1 k hk d1 d2)))) (fun hHeld=>?_)
    clear hK K
    try simp only[Act.put,zC,zE,zD]
    refine wpAnyH_take (i:=13) (v:=?_) rfl (by kernel_rfl) (by kernel_rfl) (by kernel_rfl) (fun _ _ _ h=>h) (Or.inl ⟨by rfl,?_⟩) (by assumption) ?_
    rotate_left 1
    ·(intro w' hSw;(try dsimp only at hSw);go_simp;(first | done | with_reducible rfl))
    try simp only[Act.put,zC,zE,zD]
    refine wpAnyH_take (i:=14) (v:=?_) rfl (by kernel_rfl) (by kernel_rfl) (by kernel_rfl) (fun _ _ _ h=>h) (Or.inl ⟨by rfl,?_⟩) (by assumption) ?_
    rotate_left 1
    ·(intro w' hSw;(try dsimp only at hSw);go_simp;(first | done | with_reducible rfl))
    try simp only[Act.put,zC,zE,zD]
    refine wpAnyH_ready (rs:=[15]) (by kernel_rfl) (by simp) ?_
    refine(AllReadyH.cons rfl (fun K hK=>?_) AllReadyH.nil)
    go_simp
    refine hK.out _ _ (by(try dsimp only);(first | exact HF.out _ (fun _ _ _ _=>rfl) | exact HF.out _ (fun k hk _ _=>(zA (qa1 wc _)).block k hk) | exact HF.out _ HG.out.1 | exact HF.out _ (fun k hk d1 d2=>(zB _ _ _ _ (fun e=>d2 (by have e:k=L.A n:=e;rw[e];exact HA1.out))).trans (HG.out.1 k hk d1 d2)))) (fun hHeld=>?_)
    clear hK K
    try simp only[Act.put,zC,zE,zD]
    refine wpAnyH_done (by kernel_rfl) ?_ _
    refine NoPanic.normal ?_
    rotate_left 1
    go_simp
    refine hK.out _ _ (by(try dsimp only);(first | exact HF.out _ (fun _ _ _ _=>rfl) | exact HF.out _ (fun k hk _ _=>(zA (qa1 wc _)).block k hk) | exact HF.out _ HG.out.1 | exact HF.out _ (fun k hk d1 d2=>(zB _ _ _ _ (fun e=>d2 (by have e:k=L.A n:=e;rw[e];exact HA1.out))).trans (HG.out.1 k hk d1 d2)))) (fun hHeld=>?_)
    clear hK K
    try simp only[Act.put,zC,zE,zD]
    refine wpAnyH_ready (rs:=[4]) (by kernel_rfl) (by simp) ?_
    refine(AllReadyH.cons rfl (fun K hK=>?_) AllReadyH.nil)
    go_simp
    refine hK.out _ _ (by(try dsimp only);(first | exact HF.out _ (fun _ _ _ _=>rfl) | exact HF.out _ (fun k hk _ _=>(zA (qa1 wc _)).block k hk) | exact HF.out _ HG.out.1 | exact HF.out _ (fun k hk d1 d2=>(zB _ _ _ _ (fun e=>d2 (by have e:k=L.A n:=e;rw[e];exact HA1.out))).trans (HG.out.1 k hk d1 d2)))) (fun hHeld=>?_)
    clear hK K
    try simp only[Act.put,zC,zE,zD]
    refine wpAnyH_ready (rs:=[12]) (by kernel_rfl) (by simp) ?_
    refine(AllReadyH.cons rfl (fun K hK=>?_) AllReadyH.nil)
    (first | (refine qcb rfl _ _ rfl (L.Q W0.heap.size n j wc.heap.size) W0.heap.size _ y.ls rfl (HRO.out.below (HBW.out _)) _ [x] rfl HST.out HLEN.out (HBS.out _) (HFR.out _) ?_;intro v4 w4 hsk hgr hat;obtain⟨g4,c4,rfl⟩:=qdp hsk;have HG:=zh (HAN.out _ _ hgr);have HT:=zh (H1.out.intoB HX_j.out HX_n.out HNE.out HV.out (HBW.out _) hsk hgr hat);have hf4:=HAF.out _ HG.out.2;have hf42:=hf4.2;have hf41:=hf4.1;clear hf4 hsk hgr hat))
    refine hK.out _ _ (by(try dsimp only);(first | exact HF.out _ (fun _ _ _ _=>rfl) | exact HF.out _ (fun k hk _ _=>(zA (qa1 wc _)).block k hk) | exact HF.out _ HG.out.1 | exact HF.out _ (fun k hk d1 d2=>(zB _ _ _ _ (fun e=>d2 (by have e:k=L.A n:=e;rw[e];exact HA1.out))).trans (HG.out.1 k hk d1 d2)))) (fun hHeld=>?_)
    clear hK K
    try simp only[Act.put,zC,zE,zD]
    refine wpAnyH_take (i:=13) (v:=?_) rfl (by kernel_rfl) (by kernel_rfl) (by kernel_rfl) (fun _ _ _ h=>h) (Or.inl ⟨by rfl,?_⟩) (by assumption) ?_
    rotate_left 1
    ·(intro w' hSw;(try dsimp only at hSw);go_simp;(first | done | with_reducible rfl))
    try simp only[Act.put,zC,zE,zD]
    refine wpAnyH_take (i:=14) (v:=?_) rfl (by kernel_rfl) (by kernel_rfl) (by kernel_rfl) (fun _ _ _ h=>h) (Or.inl ⟨by rfl,?_⟩) (by assumption) ?_
    rotate_left 1
    ·(intro w' hSw;(try dsimp only at hSw);go_simp;(first | done | with_reducible rfl))
    try simp only[Act.put,zC,zE,zD]
    refine wpAnyH_ready (rs:=[15]) (by kernel_rfl) (by simp) ?_
    refine(AllReadyH.cons rfl (fun K hK=>?_) AllReadyH.nil)
    go_simp
    refine hK.out _ _ (by(try dsimp only);(first | exact HF.out _ (fun _ _ _ _=>rfl) | exact HF.out _ (fun k hk _ _=>(zA (qa1 wc _)).block k hk) | exact HF.out _ HG.out.1 | exact HF.out _ (fun k hk d1 d2=>(zB _ _ _ _ (fun e=>d2 (by have e:k=L.A n:=e;rw[e];exact HA1.out))).trans (HG.out.1 k hk d1 d2)))) (fun hHeld=>?_)
    clear hK K
    try simp only[Act.put,zC,zE,zD]
    refine wpAnyH_done (by kernel_rfl) ?_ _
    refine NoPanic.normal ?_
    all_goals go_wp2_with fail
    all_goals go_meet
    all_goals (obtain⟨L',q1,q2,q3⟩:=HT.out;exact⟨L',zh q1,zh q2,zh q3⟩)
   case rest=>
    obtain⟨L',HM,HX,HA⟩:=hcut
    have XF:=zh (X1.out.trans HX.out)
    have kn9:=HX.out.cell B_n1.out
    have kr9:=HX.out.cell B_r1.out
    unfold ptr at kn9 kr9
    obtain⟨⟨np9,g59,-⟩,gf9,-⟩:=HM.out.gcell
    have gf5:=gf9 5
    have hs:=HM.out.setIs (n:=n) (by show n< ((σ.N.set j none).set n _).length;rw[List.length_set,List.length_set];exact ndlt HX_n.out)
    rw[HA.out]at hs
    unfold ptr at hs
    have HS:=zh hs
    clear hs gf9
    go_wp2_with fail
    go_end0
    exact⟨rfl,L',HS.out.1,XF.out.trans HS.out.2⟩
  | true=>
   have HST:Hid (RowIn (wc.alloc (.cells #[.int .i64 0,.string ⟨#[]⟩,.slice none 0 0,.bool false,.bool false,.slice none 0 0,.slice none 0 0] 29)).drew (fun q=>L.Q W0.heap.size n j wc.heap.size q/\(Value.slice va9 y.ls.length vc9).ownBlock≠some q) (.slice (some ⟨wc.heap.size,0,none⟩) 1 1) [zN]):=zh (by
    have h3:=(OwnN.made (W:=wc) (P:=fun q=>L.Q W0.heap.size n j wc.heap.size q/\(Value.slice va9 y.ls.length vc9).ownBlock≠some q) (css:=[[.int .i64 0,.string ⟨#[]⟩,.slice none 0 0,.bool false,.bool false,.slice none 0 0,.slice none 0 0]]) (T:=[zN]) rfl (by
     intro i c y9 g1 g2
     cases i with
     | zero=>simp only[List.getElem?_cons_zero,Option.some.injEq]at g1 g2;subst g1 g2;exact NdIn.of_row _ _ _ _ ⟨none,0,rfl,fun h=>absurd h (by simp)⟩ ⟨none,0,rfl,fun h=>absurd h (by simp)⟩ (OwnN.nil wc _ 0).row
     | succ i=>simp at g1) #[.int .i64 0,.string ⟨#[]⟩,.slice none 0 0,.bool false,.bool false,.slice none 0 0,.slice none 0 0] rfl ⟨.inr (.inr (Nat.le_refl _)),fun e=>by have:=(HVO.out _ e).2;omega⟩ (by show 1<=maxLen;decide) wc.heap.size rfl).row
    exact h3.keep (qax (zA (Below.refl _ _))))
   go_wp2_with fail
   go_cut [13,14,16]from 4 to 18 (fun v13 v14 v16 wx=>v13=.agg #[.int .i64 ka,.string ta,.slice la1 la2 la3,.bool ra,.bool qa,.slice na1 na2 na3,.slice va1 va2 va3]/\v14=.int .i64 (y.ls.length:Int)/\ ∃g4 c4,v16=.slice (some ⟨g4,0,none⟩) (y.ls.length+1) c4/\Hid (wx.there g4 (y.ls.length*7) 7)/\Hid (∃L',MM W0 g s E tv (wx.setCells g4 (y.ls.length*7) #[.int .i64 ka,.string ta,.slice la1 la2 la3,.bool ra,.bool qa,.slice na1 na2 na3,.slice va1 va2 va3].toList) L' ((σ.mv j).set n (y.add [x]))/\MX W0.heap.size wc L σ.N.length σ.C.length (wx.setCells g4 (y.ls.length*7) #[.int .i64 ka,.string ta,.slice la1 la2 la3,.bool ra,.bool qa,.slice na1 na2 na3,.slice va1 va2 va3].toList) L' ((σ.mv j).set n (y.add [x])).N.length ((σ.mv j).set n (y.add [x])).C.length/\L'.A=L.A))
   case first=>
    refine wp_region_noPanic ?_
    refine wp_region_held_drew (S:=(fun w'=>w'.cell? ⟨k1,0,none⟩=some (.pointer (some ⟨L.A n,0,none⟩))/\w'.cell? ⟨k2,0,none⟩=some (.pointer (some ⟨g,0,none⟩))/\w'.cell? ⟨g,5,none⟩=some (.pointer (some ⟨L.A j,0,none⟩))/\w'.cell? ⟨L.A j,0,none⟩=some (.int .i64 ka)/\w'.cell? ⟨L.A j,1,none⟩=some (.string ta)/\w'.cell? ⟨L.A j,2,none⟩=some (.slice la1 la2 la3)/\w'.cell? ⟨L.A j,3,none⟩=some (.bool ra)/\w'.cell? ⟨L.A j,4,none⟩=some (.bool qa)/\w'.cell? ⟨L.A j,5,none⟩=some (.slice na1 na2 na3)/\w'.cell? ⟨L.A j,6,none⟩=some (.slice va1 va2 va3))) (by kernel_rfl) (by(try dsimp only);(first | exact HF.out _ (fun _ _ _ _=>rfl) | exact HF.out _ (fun k hk _ _=>(zA (qa1 wc _)).block k hk) | exact HF.out _ HG.out.1 | exact HF.out _ (fun k hk d1 d2=>(zB _ _ _ _ (fun e=>d2 (by have e:k=L.A n:=e;rw[e];exact HA1.out))).trans (HG.out.1 k hk d1 d2)))) (fun hHeld=>?_)
    refine wpAnyH_take (i:=0) (v:=?_) rfl (by kernel_rfl) (by kernel_rfl) (by kernel_rfl) (fun _ _ _ h=>h) (Or.inl ⟨by rfl,?_⟩) (by assumption) ?_
    rotate_left 1
    ·(intro w' hSw;(try dsimp only at hSw);go_simp;(first | done | with_reducible rfl))
    try simp only[Act.put,zC,zE,zD]
    refine wpAnyH_take (i:=1) (v:=?_) rfl (by kernel_rfl) (by kernel_rfl) (by kernel_rfl) (fun _ _ _ h=>h) (Or.inl ⟨by rfl,?_⟩) (by assumption) ?_
    rotate_left 1
    ·(intro w' hSw;(try dsimp only at hSw);go_simp;(first | done | with_reducible rfl))
    try simp only[Act.put,zC,zE,zD]
    refine wpAnyH_take (i:=2) (v:=?_) rfl (by kernel_rfl) (by kernel_rfl) (by kernel_rfl) (fun _ _ _ h=>h) (Or.inl ⟨by rfl,?_⟩) (by assumption) ?_
    rotate_left 1
    ·(intro w' hSw;(try dsimp only at hSw);go_simp;(first | done | with_reducible rfl))
    try simp only[Act.put,zC,zE,zD]
    refine wpAnyH_take (i:=4) (v:=?_) rfl (by kernel_rfl) (by kernel_rfl) (by kernel_rfl) (fun _ _ _ h=>h) (Or.inl ⟨by rfl,?_⟩) (by assumption) ?_
    rotate_left 1
    ·(intro w' hSw;(try dsimp only at hSw);go_simp;(first | done | with_reducible rfl))
    try simp only[Act.put,zC,zE,zD]
    refine wpAnyH_take (i:=5) (v:=?_) rfl (by kernel_rfl) (by kernel_rfl) (by kernel_rfl) (fun _ _ _ h=>h) (Or.inl ⟨by rfl,?_⟩) (by assumption) ?_
    rotate_left 1
    ·(intro w' hSw;(try dsimp only at hSw);go_simp;(first | done | with_reducible rfl))
    try simp only[Act.put,zC,zE,zD]
    refine wpAnyH_take (i:=6) (v:=?_) rfl (by kernel_rfl) (by kernel_rfl) (by kernel_rfl) (fun _ _ _ h=>h) (Or.inl ⟨by rfl,?_⟩) (by assumption) ?_
    rotate_left 1
    ·(intro w' hSw;(try dsimp only at hSw);go_simp;(first | done | with_reducible rfl))
    try simp only[Act.put,zC,zE,zD]
    refine wpAnyH_take (i:=7) (v:=?_) rfl (by kernel_rfl) (by kernel_rfl) (by kernel_rfl) (fun _ _ _ h=>h) (Or.inl ⟨by rfl,?_⟩) (by assumption) ?_
    rotate_left 1
    ·(intro w' hSw;(try dsimp only at hSw);go_simp;(first | done | with_reducible rfl))
    try simp only[Act.put,zC,zE,zD]
    refine wpAnyH_take (i:=8) (v:=?_) rfl (by kernel_rfl) (by kernel_rfl) (by kernel_rfl) (fun _ _ _ h=>h) (Or.inl ⟨by rfl,?_⟩) (by assumption) ?_
    rotate_left 1
    ·(intro w' hSw;(try dsimp only at hSw);go_simp;(first | done | with_reducible rfl))
    try simp only[Act.put,zC,zE,zD]
    refine wpAnyH_take (i:=9) (v:=?_) rfl (by kernel_rfl) (by kernel_rfl) (by kernel_rfl) (fun _ _ _ h=>h) (Or.inl ⟨by rfl,?_⟩) (by assumption) ?_
    rotate_left 1
    ·(intro w' hSw;(try dsimp only at hSw);go_simp;(first | done | with_reducible rfl))
    try simp only[Act.put,zC,zE,zD]
    refine wpAnyH_ready (rs:=[3,11]) (by kernel_rfl) (by simp) ?_
    refine(AllReadyH.cons rfl (fun K hK=>?_) (AllReadyH.cons rfl (fun K hK=>?_) AllReadyH.nil))
    go_simp
    refine hK.out _ _ (by(try dsimp only);(first | exact HF.out _ (fun _ _ _ _=>rfl) | exact HF.out _ (fun k hk _ _=>(zA (qa1 wc _)).block k hk) | exact HF.out _ HG.out.1 | exact HF.out _ (fun k hk d1 d2=>(zB _ _ _ _ (fun e=>d2 (by have e:k=L.A n:=e;rw[e];exact HA1.out))).trans (HG.out.1 k hk d1 d2)))) (fun hHeld=>?_)
    clear hK K
    try simp only[Act.put,zC,zE,zD]
    refine wpAnyH_take (i:=10) (v:=?_) rfl (by kernel_rfl) (by kernel_rfl) (by kernel_rfl) (fun _ _ _ h=>h) (Or.inl ⟨by rfl,?_⟩) (by assumption) ?_
    rotate_left 1
    ·(intro w' hSw;(try dsimp only at hSw);go_simp;(first | done | with_reducible rfl))
    try simp only[Act.put,zC,zE,zD]
    refine wpAnyH_ready (rs:=[11]) (by kernel_rfl) (by simp) ?_
    refine(AllReadyH.cons rfl (fun K hK=>?_) AllReadyH.nil)
    go_simp
    refine hK.out _ _ (by(try dsimp only);(first | exact HF.out _ (fun _ _ _ _=>rfl) | exact HF.out _ (fun k hk _ _=>(zA (qa1 wc _)).block k hk) | exact HF.out _ HG.out.1 | exact HF.out _ (fun k hk d1 d2=>(zB _ _ _ _ (fun e=>d2 (by have e:k=L.A n:=e;rw[e];exact HA1.out))).trans (HG.out.1 k hk d1 d2)))) (fun hHeld=>?_)
    clear hK K
    try simp only[Act.put,zC,zE,zD]
    refine wpAnyH_ready (rs:=[12]) (by kernel_rfl) (by simp) ?_
    refine(AllReadyH.cons rfl (fun K hK=>?_) AllReadyH.nil)
    (first | (refine qcb rfl _ _ rfl (L.Q W0.heap.size n j wc.heap.size) W0.heap.size _ y.ls rfl (HRO.out.below (HBW.out _)) _ [zN] rfl HST.out HLEN.out (HBS.out _) (HFR.out _) ?_;intro v4 w4 hsk hgr hat;obtain⟨g4,c4,rfl⟩:=qdp hsk;have HG:=zh (HAN.out _ _ hgr);have HT:=zh (H1.out.intoA HX_j.out HX_n.out HNE.out HND.out HV.out (HBW.out _) hsk hgr (by rcases hat with h | h;exact .inl h;exact .inr (h g4 rfl)));have hf4:=HAF.out _ HG.out.2;have hf42:=hf4.2;have hf41:=hf4.1;clear hf4 hsk hgr hat))
    refine hK.out _ _ (by(try dsimp only);(first | exact HF.out _ (fun _ _ _ _=>rfl) | exact HF.out _ (fun k hk _ _=>(zA (qa1 wc _)).block k hk) | exact HF.out _ HG.out.1 | exact HF.out _ (fun k hk d1 d2=>(zB _ _ _ _ (fun e=>d2 (by have e:k=L.A n:=e;rw[e];exact HA1.out))).trans (HG.out.1 k hk d1 d2)))) (fun hHeld=>?_)
    clear hK K
    try simp only[Act.put,zC,zE,zD]
    refine wpAnyH_take (i:=13) (v:=?_) rfl (by kernel_rfl) (by kernel_rfl) (by kernel_rfl) (fun _ _ _ h=>h) (Or.inl ⟨by rfl,?_⟩) (by assumption) ?_
    rotate_left 1
    ·(intro w' hSw;(try dsimp only at hSw);go_simp;(first | done | with_reducible rfl))
    try simp only[Act.put,zC,zE,zD]
    refine wpAnyH_take (i:=14) (v:=?_) rfl (by kernel_rfl) (by kernel_rfl) (by kernel_rfl) (fun _ _ _ h=>h) (Or.inl ⟨by rfl,?_⟩) (by assumption) ?_
    rotate_left 1
    ·(intro w' hSw;(try dsimp only at hSw);go_simp;(first | done | with_reducible rfl))
    try simp only[Act.put,zC,zE,zD]
    refine wpAnyH_ready (rs:=[15]) (by kernel_rfl) (by simp) ?_
    refine(AllReadyH.cons rfl (fun K hK=>?_) AllReadyH.nil)
    go_simp
    refine hK.out _ _ (by(try dsimp only);(first | exact HF.out _ (fun _ _ _ _=>rfl) | exact HF.out _ (fun k hk _ _=>(zA (qa1 wc _)).block k hk) | exact HF.out _ HG.out.1 | exact HF.out _ (fun k hk d1 d2=>(zB _ _ _ _ (fun e=>d2 (by have e:k=L.A n:=e;rw[e];exact HA1.out))).trans (HG.out.1 k hk d1 d2)))) (fun hHeld=>?_)
    clear hK K
    try simp only[Act.put,zC,zE,zD]
    refine wpAnyH_done (by kernel_rfl) ?_ _
    refine NoPanic.normal ?_
    rotate_left 1
    go_simp
    refine hK.out _ _ (by(try dsimp only);(first | exact HF.out _ (fun _ _ _ _=>rfl) | exact HF.out _ (fun k hk _ _=>(zA (qa1 wc _)).block k hk) | exact HF.out _ HG.out.1 | exact HF.out _ (fun k hk d1 d2=>(zB _ _ _ _ (fun e=>d2 (by have e:k=L.A n:=e;rw[e];exact HA1.out))).trans (HG.out.1 k hk d1 d2)))) (fun hHeld=>?_)
    clear hK K
    try simp only[Act.put,zC,zE,zD]
    refine wpAnyH_ready (rs:=[3]) (by kernel_rfl) (by simp) ?_
    refine(AllReadyH.cons rfl (fun K hK=>?_) AllReadyH.nil)
    go_simp
    refine hK.out _ _ (by(try dsimp only);(first | exact HF.out _ (fun _ _ _ _=>rfl) | exact HF.out _ (fun k hk _ _=>(zA (qa1 wc _)).block k hk) | exact HF.out _ HG.out.1 | exact HF.out _ (fun k hk d1 d2=>(zB _ _ _ _ (fun e=>d2 (by have e:k=L.A n:=e;rw[e];exact HA1.out))).trans (HG.out.1 k hk d1 d2)))) (fun hHeld=>?_)
    clear hK K
    try simp only[Act.put,zC,zE,zD]
    refine wpAnyH_take (i:=10) (v:=?_) rfl (by kernel_rfl) (by kernel_rfl) (by kernel_rfl) (fun _ _ _ h=>h) (Or.inl ⟨by rfl,?_⟩) (by assumption) ?_
    rotate_left 1
    ·(intro w' hSw;(try dsimp only at hSw);go_simp;(first | done | with_reducible rfl))
    try simp only[Act.put,zC,zE,zD]
    refine wpAnyH_ready (rs:=[12]) (by kernel_rfl) (by simp) ?_
    refine(AllReadyH.cons rfl (fun K hK=>?_) AllReadyH.nil)
    (first | (refine qcb rfl _ _ rfl (L.Q W0.heap.size n j wc.heap.size) W0.heap.size _ y.ls rfl (HRO.out.below (HBW.out _)) _ [zN] rfl HST.out HLEN.out (HBS.out _) (HFR.out _) ?_;intro v4 w4 hsk hgr hat;obtain⟨g4,c4,rfl⟩:=qdp hsk;have HG:=zh (HAN.out _ _ hgr);have HT:=zh (H1.out.intoA HX_j.out HX_n.out HNE.out HND.out HV.out (HBW.out _) hsk hgr (by rcases hat with h | h;exact .inl h;exact .inr (h g4 rfl)));have hf4:=HAF.out _ HG.out.2;have hf42:=hf4.2;have hf41:=hf4.1;clear hf4 hsk hgr hat))
    refine hK.out _ _ (by(try dsimp only);(first | exact HF.out _ (fun _ _ _ _=>rfl) | exact HF.out _ (fun k hk _ _=>(zA (qa1 wc _)).block k hk) | exact HF.out _ HG.out.1 | exact HF.out _ (fun k hk d1 d2=>(zB _ _ _ _ (fun e=>d2 (by have e:k=L.A n:=e;rw[e];exact HA1.out))).trans (HG.out.1 k hk d1 d2)))) (fun hHeld=>?_)
    clear hK K
    try simp only[Act.put,zC,zE,zD]
    refine wpAnyH_take (i:=13) (v:=?_) rfl (by kernel_rfl) (by kernel_rfl) (by kernel_rfl) (fun _ _ _ h=>h) (Or.inl ⟨by rfl,?_⟩) (by assumption) ?_
    rotate_left 1
    ·(intro w' hSw;(try dsimp only at hSw);go_simp;(first | done | with_reducible rfl))
    try simp only[Act.put,zC,zE,zD]
    refine wpAnyH_take (i:=14) (v:=?_) rfl (by kernel_rfl) (by kernel_rfl) (by kernel_rfl) (fun _ _ _ h=>h) (Or.inl ⟨by rfl,?_⟩) (by assumption) ?_
    rotate_left 1
    ·(intro w' hSw;(try dsimp only at hSw);go_simp;(first | done | with_reducible rfl))
    try simp only[Act.put,zC,zE,zD]
    refine wpAnyH_ready (rs:=[15]) (by kernel_rfl) (by simp) ?_
    refine(AllReadyH.cons rfl (fun K hK=>?_) AllReadyH.nil)
    go_simp
    refine hK.out _ _ (by(try dsimp only);(first | exact HF.out _ (fun _ _ _ _=>rfl) | exact HF.out _ (fun k hk _ _=>(zA (qa1 wc _)).block k hk) | exact HF.out _ HG.out.1 | exact HF.out _ (fun k hk d1 d2=>(zB _ _ _ _ (fun e=>d2 (by have e:k=L.A n:=e;rw[e];exact HA1.out))).trans (HG.out.1 k hk d1 d2)))) (fun hHeld=>?_)
    clear hK K
    try simp only[Act.put,zC,zE,zD]
    refine wpAnyH_done (by kernel_rfl) ?_ _
    refine NoPanic.normal ?_
    all_goals go_wp2_with fail
    all_goals go_meet
    all_goals exact⟨rfl,rfl,g4,c4,rfl,zh HT.out.2,zh HT.out.1⟩
   case rest=>
    obtain⟨rfl,rfl,g4,c4,rfl,HTH,HTT⟩:=hcut
    have hi0:(0:Int)<=(y.ls.length:Int):=by omega
    have hi1:(y.ls.length:Int)< (y.ls.length:Int)+1:=by omega
    have hi2:(y.ls.length:Int)< ((y.ls.length+1:Nat):Int):=by omega
    go_upto_region 4 with(first | (refine qf8 g4 (y.ls.length*7) #[.int .i64 ka,.string ta,.slice la1 la2 la3,.bool ra,.bool qa,.slice na1 na2 na3,.slice va1 va2 va3].toList rfl rfl HTH.out rfl (by intro u hu;simp at hu;rcases hu with rfl | rfl | rfl | rfl | rfl | rfl | rfl<;>rfl) ?_))
    obtain⟨L',hm9,hx9,ha9⟩:=HTT.out
    clear HTT
    simp only[List.toList_toArray]at hm9 hx9
    generalize hwx:wc.setCells g4 (y.ls.length*7) [.int .i64 ka,.string ta,.slice la1 la2 la3,.bool ra,.bool qa,.slice na1 na2 na3,.slice va1 va2 va3]=wx at hm9 hx9⊢
    have HM:=zh hm9
    have HX:=zh hx9
    have HA:=zh ha9
    clear hm9 hx9 ha9
    have XF:=zh (X1.out.trans HX.out)
    have kn9:=HX.out.cell B_n1.out
    have kr9:=HX.out.cell B_r1.out
    unfold ptr at kn9 kr9
    obtain⟨⟨np9,g59,-⟩,gf9,-⟩:=HM.out.gcell
    have gf5:=gf9 5
    have hs:=HM.out.setIs (n:=n) (by show n< ((σ.N.set j none).set n _).length;rw[List.length_set,List.length_set];exact ndlt HX_n.out)
    rw[HA.out]at hs
    unfold ptr at hs
    have HS:=zh hs
    clear hs gf9
    go_wp2_with fail
    go_end0
    exact⟨rfl,L',HS.out.1,XF.out.trans HS.out.2⟩
end
section
variable{W0 W:World}{g:Nat}{s:ByteArray}{E:Env}{tv:Value}{L:PLay}{σ:PM}
theorem qq3(h:MM W0 g s E tv W L σ)(hk:σ.k.length<=274877906944)(lv:Int)(ss:List Bs)(v1:Value)(hv1:IsC W (L.P W0.heap.size) g L.A L.B σ.N.length σ.C.length v1 (.perM lv ss))(k1:Nat)(b1:BoxC W (L.P W0.heap.size) (.pointer (some ⟨k1,0,none⟩)) (ptr g))(k2:Nat)(b2:BoxC W (L.P W0.heap.size) (.pointer (some ⟨k2,0,none⟩)) (.int .i64 lv))(k3:Nat)(b3:BoxC W (L.P W0.heap.size) (.pointer (some ⟨k3,0,none⟩)) v1):
 Calls Tryz.prog 217 #[.pointer (some ⟨k1,0,none⟩),.pointer (some ⟨k2,0,none⟩),.pointer (some ⟨k3,0,none⟩)] W (SO (stp E (.perh lv ss) σ) W0 g s E tv W L σ.N.length σ.C.length):=by
 obtain⟨R,hR⟩: ∃R:Rs PM,R=stp E (.perh lv ss) σ:=⟨_,rfl⟩
 rw[<-hR]
 have HR:=zh hR
 have H0:=zh h
 have X0:=zh (MX.refl W0.heap.size W L σ.N.length σ.C.length)
 have HK:=zh hk
 have B_r:=zh b1
 have cr0:=b1.cellv
 unfold ptr at cr0
 have B_lv:=zh b2
 have clv0:=b2.cellv
 have B_m:=zh b3
 have cm0:=b3.cellv
 obtain⟨fKv1,fFv1,fCv1,rfl⟩:=hv1.fn
 have Vv1:=zh hv1
 clear hv1
 clear h hR hk b1 b2 b3
 try unfold ptr
 go_enter Tryz.func217,Tryz.ntmps217
 go_wp2_with fail
 have HCrlvm:Hid (∀ {w':World} {L':PLay} {nN nC:Nat},MX W0.heap.size W L σ.N.length σ.C.length w' L' nN nC->w'.cell? ⟨k1,0,none⟩=some (.pointer (some ⟨g,0,none⟩))/\w'.cell? ⟨k2,0,none⟩=some (.int .i64 lv)/\w'.cell? ⟨k3,0,none⟩=some (.func (.func fKv1) fFv1 fCv1)):=zh (fun hx=>⟨hx.cell B_r.out,hx.cell B_lv.out,hx.cell B_m.out⟩)
 have hb:=zA (Below.refl W.heap.size W)
 have H1:=zh (H0.out.below hb)
 have Y1:=zh (H0.out.mxb hb)
 have X1:=zh (X0.out.trans Y1.out)
 have B_r_1:=zh (Y1.out.box B_r.out)
 have cr1:=B_r_1.out.cellv
 unfold ptr at cr1
 have B_lv_1:=zh (Y1.out.box B_lv.out)
 have clv1:=B_lv_1.out.cellv
 have B_m_1:=zh (Y1.out.box B_m.out)
 have cm1:=B_m_1.out.cellv
 have v3_1:=zh (Y1.out.isc Vv1.out)
 clear hb
 go_region_held3 (fun w'=>w'.cell? ⟨k1,0,none⟩=some (.pointer (some ⟨g,0,none⟩))/\w'.cell? ⟨k2,0,none⟩=some (.int .i64 lv)/\w'.cell? ⟨k3,0,none⟩=some (.func (.func fKv1) fFv1 fCv1)) (first | exact HCrlvm.out X3.out | exact HCrlvm.out X2.out | exact HCrlvm.out X1.out | exact HCrlvm.out (X2.out.trans (H2.out.mxb (qa1 _ _))) | exact HCrlvm.out (X3.out.trans (H3.out.mxb (qa1 _ _)))) (first | (go_at_call 37;have q2:=qdd H1.out lv;try unfold ptr at q2;refine q2.mono ?_;clear q2;rintro e w2 ⟨v1,rfl,hv,hb⟩;obtain⟨fK2,fF2,fC2,rfl⟩:=hv.fn;have V2:=zh hv;have H2:=zh (H1.out.below hb);have Y2:=zh (H1.out.mxb hb);have X2:=zh (X1.out.trans Y2.out);have B_r_2:=zh (Y2.out.box B_r_1.out);have cr2:=B_r_2.out.cellv;unfold ptr at cr2;have B_lv_2:=zh (Y2.out.box B_lv_1.out);have clv2:=B_lv_2.out.cellv;have B_m_2:=zh (Y2.out.box B_m_1.out);have cm2:=B_m_2.out.cellv;have v3_2:=zh (Y2.out.isc v3_1.out);clear hv hb) | (go_at_call 36;refine(qbd H2.out _ (by simp) [_,_] [.expr lv,.perM lv ss] 2 rfl (Nat.le_trans HK.out (by decide)) (by decide) _ ⟨V2.out,⟨v3_2.out,trivial⟩⟩).mono ?_;rintro e w3 ⟨rfl,M3,hm,hx⟩;have H3:=zh hm;have Y3:=zh hx;have X3:=zh (X2.out.trans Y3.out);have B_r_3:=zh (Y3.out.box B_r_2.out);have cr3:=B_r_3.out.cellv;unfold ptr at cr3;have B_lv_3:=zh (Y3.out.box B_lv_2.out);have clv3:=B_lv_3.out.cellv;have B_m_3:=zh (Y3.out.box B_m_2.out);have cm3:=B_m_3.out.cellv;have v3_3:=zh (Y3.out.isc v3_2.out);have v1_3:=zh (Y3.out.isc V2.out);clear hm hx))
 have e9:R=.ok (σ.plan [.expr lv,.perM lv ss]):=by
  rw[HR.out];try simp[stp,bind,Except.bind,pure,Except.pure,Except.map]
 subst e9
 go_wp2_with fail
 go_end0
 exact⟨rfl,M3,H3.out,X3.out⟩
theorem qq1(h:MM W0 g s E tv W L σ)(hk:σ.k.length<=274877906944)(op:Bs)(left:Nat)(hop:(⟨op.toArray⟩:ByteArray).size<=1048576)(k1:Nat)(b1:BoxC W (L.P W0.heap.size) (.pointer (some ⟨k1,0,none⟩)) (.string ⟨op.toArray⟩))(k2:Nat)(b2:BoxC W (L.P W0.heap.size) (.pointer (some ⟨k2,0,none⟩)) (ptr (L.A left)))(k3:Nat)(b3:BoxC W (L.P W0.heap.size) (.pointer (some ⟨k3,0,none⟩)) (ptr g))(hns:stp E (.per2 op left) σ≠ .error .stuck):
 Calls Tryz.prog 216 #[.pointer (some ⟨k1,0,none⟩),.pointer (some ⟨k2,0,none⟩),.pointer (some ⟨k3,0,none⟩)] W (SO (stp E (.per2 op left) σ) W0 g s E tv W L σ.N.length σ.C.length):=by
 obtain⟨R,hR⟩: ∃R:Rs PM,R=stp E (.per2 op left) σ:=⟨_,rfl⟩
 rw[<-hR]at hns⊢
 have HNS:=zh hns
 have HR:=zh hR
 have H0:=zh h
 have X0:=zh (MX.refl W0.heap.size W L σ.N.length σ.C.length)
 have HK:=zh hk
 have B_op:=zh b1
 have cop0:=b1.cellv
 have B_left:=zh b2
 have cleft0:=b2.cellv
 unfold ptr at cleft0
 have B_r:=zh b3
 have cr0:=b3.cellv
 unfold ptr at cr0
 have HOP:=zh hop
 clear hop
 clear h hR hk b1 b2 b3 hns
 try unfold ptr
 go_enter Tryz.func216,Tryz.ntmps216
 rcases hcu:σ.cur with b9 | ⟨j,x⟩
 ·obtain rfl:=qcn hcu
  exact absurd (by rw[HR.out];simp[stp,twoE,hcu,bind,Except.bind]) HNS.out
 have HCU:=zh hcu
 obtain⟨hn_j,hx_j⟩:=qda hcu
 have HX_j:=zh hx_j
 have HN_j:=zh hn_j
 clear hcu hn_j hx_j
 rcases hnd_left:σ.nd left with b9 | y
 ·obtain rfl:=qdv hnd_left
  exact absurd (by have hcu:=HCU.out;rw[HR.out];simp[stp,twoE,hcu,hnd_left,bind,Except.bind]) HNS.out
 have HND_LEFT:=zh hnd_left
 have HX_left:=zh (qg2 hnd_left)
 clear hnd_left
 have hnj:σ.nd j=.ok x:=by
  unfold PM.nd;rw[HX_j.out]
 have HNJ:=zh hnj
 clear hnj
 by_cases hne:left=j
 ·exact absurd (by have hcu:=HCU.out;have hnd_left:=HND_LEFT.out;have hnj:=HNJ.out;rw[HR.out];simp[stp,twoE,hcu,hnd_left,hnj,hne,bind,Except.bind]) HNS.out
 have HNE:=zh hne
 clear hne
 have HCB:Hid (∀ {w':World} {L':PLay} {nN nC:Nat},MX W0.heap.size W L σ.N.length σ.C.length w' L' nN nC->w'.cell? ⟨k1,0,none⟩=some (.string ⟨op.toArray⟩)/\w'.cell? ⟨k2,0,none⟩=some (.pointer (some ⟨L.A left,0,none⟩))/\w'.cell? ⟨k3,0,none⟩=some (.pointer (some ⟨g,0,none⟩))):=zh (fun hx=>⟨hx.cell B_op.out,hx.cell B_left.out,hx.cell B_r.out⟩)
 have g5:=H0.out.gcur HN_j.out
 go_wp2_with fail
 have hb:=zA (Below.refl W.heap.size W)
 have H1:=zh (H0.out.below hb)
 have Y1:=zh (H0.out.mxb hb)
 have X1:=zh (X0.out.trans Y1.out)
 have B_op_1:=zh (Y1.out.box B_op.out)
 have cop1:=B_op_1.out.cellv
 have B_left_1:=zh (Y1.out.box B_left.out)
 have cleft1:=B_left_1.out.cellv
 unfold ptr at cleft1
 have B_r_1:=zh (Y1.out.box B_r.out)
 have cr1:=B_r_1.out.cellv
 unfold ptr at cr1
 clear hb
 refine wp_region_noPanic ?_
 refine wp_region_held_drew (S:=(fun w'=>w'.cell? ⟨k1,0,none⟩=some (.string ⟨op.toArray⟩)/\w'.cell? ⟨k2,0,none⟩=some (.pointer (some ⟨L.A left,0,none⟩))/\w'.cell? ⟨k3,0,none⟩=some (.pointer (some ⟨g,0,none⟩)))) (by kernel_rfl) (by(try dsimp only);(first | exact HCB.out XS9.out | exact HCB.out X2.out | exact HCB.out X1.out)) (fun hHeld=>?_)
 refine wpAnyH_take (i:=0) (v:=?_) rfl (by kernel_rfl) (by kernel_rfl) (by kernel_rfl) (fun _ _ _ h=>h) (Or.inl ⟨by rfl,?_⟩) (by assumption) ?_
 rotate_left 1
 ·(intro w' hSw;(try dsimp only at hSw);go_simp;(first | done | with_reducible rfl))
 try simp only[Act.put,zC,zE,zD]
 refine wpAnyH_take (i:=1) (v:=?_) rfl (by kernel_rfl) (by kernel_rfl) (by kernel_rfl) (fun _ _ _ h=>h) (Or.inl ⟨by rfl,?_⟩) (by assumption) ?_
 rotate_left 1
 ·(intro w' hSw;(try dsimp only at hSw);go_simp;(first | done | with_reducible rfl))
 try simp only[Act.put,zC,zE,zD]
 refine wpAnyH_take (i:=2) (v:=?_) rfl (by kernel_rfl) (by kernel_rfl) (by kernel_rfl) (fun _ _ _ h=>h) (Or.inl ⟨by rfl,?_⟩) (by assumption) ?_
 rotate_left 1
 ·(intro w' hSw;(try dsimp only at hSw);go_simp;(first | done | with_reducible rfl))
 try simp only[Act.put,zC,zE,zD]
 refine wpAnyH_take (i:=3) (v:=?_) rfl (by kernel_rfl) (by kernel_rfl) (by kernel_rfl) (fun _ _ _ h=>h) (Or.inl ⟨by rfl,?_⟩) (by assumption) ?_
 rotate_left 1
 ·(intro w' hSw;(try dsimp only at hSw);go_simp;(first | done | with_reducible rfl))
 try simp only[Act.put,zC,zE,zD]
 refine wpAnyH_take (i:=4) (v:=?_) rfl (by kernel_rfl) (by kernel_rfl) (by kernel_rfl) (fun _ _ _ h=>h) (Or.inl ⟨by rfl,?_⟩) (by assumption) ?_
 rotate_left 1
 ·(intro w' hSw;(try dsimp only at hSw);go_simp;(first | done | with_reducible rfl))
 try simp only[Act.put,zC,zE,zD]
 refine wpAnyH_take (i:=5) (v:=?_) rfl (by kernel_rfl) (by kernel_rfl) (by kernel_rfl) (fun _ _ _ h=>h) (Or.inl ⟨by rfl,?_⟩) (by assumption) ?_
 rotate_left 1
 ·(intro w' hSw;(try dsimp only at hSw);go_simp;(first | done | with_reducible rfl))
 try simp only[Act.put,zC,zE,zD]
 refine wpAnyH_ready (rs:=[6]) (by kernel_rfl) (by simp) ?_
 refine AllReadyH.cons rfl (fun K hK=>?_) AllReadyH.nil
 go_simp
 refine hK.out _ _ (by(try dsimp only);(first | exact HCB.out XS9.out | exact HCB.out X2.out | exact HCB.out X1.out)) (fun hHeld=>?_)
 clear hK K
 try simp only[Act.put,zC,zE,zD]
 refine wpAnyH_ready (rs:=[7]) (by kernel_rfl) (by simp) ?_
 refine AllReadyH.cons rfl (fun K hK=>?_) AllReadyH.nil
 go_simp
 try (first | (go_at_call 157;have q2:=twoM (σ:=σ) H1.out HX_left.out HX_j.out ⟨op.toArray⟩ HOP.out;refine q2.mono ?_;clear q2;rintro e w2 ⟨M2,rfl,hm,hx⟩;have gf9:=hm.gcell.2.1 5;obtain⟨⟨np9,g59,-⟩,-,-⟩:=hm.gcell;have hs9:=hm.setIs (n:=σ.N.length) (by show _< (((σ.N.set _ _).set _ _)++[_]).length;simp);unfold ptr at hs9;have HS9:=zh hs9;clear hs9;have H2:=zh hm;have Y2:=zh hx;have X2:=zh (X1.out.trans Y2.out);have B_op_2:=zh (Y2.out.box B_op_1.out);have cop2:=B_op_2.out.cellv;have B_left_2:=zh (Y2.out.box B_left_1.out);have cleft2:=B_left_2.out.cellv;unfold ptr at cleft2;have B_r_2:=zh (Y2.out.box B_r_1.out);have cr2:=B_r_2.out.cellv;unfold ptr at cr2;clear hm hx;have XS9:=zh (X2.out.trans HS9.out.2)))
 refine hK.out _ _ (by(try dsimp only);(first | exact HCB.out XS9.out | exact HCB.out X2.out | exact HCB.out X1.out)) (fun hHeld=>?_)
 clear hK K
 try simp only[Act.put,zC,zE,zD]
 refine wpAnyH_take (i:=8) (v:=?_) rfl (by kernel_rfl) (by kernel_rfl) (by kernel_rfl) (fun _ _ _ h=>h) (Or.inl ⟨by rfl,?_⟩) (by assumption) ?_
 rotate_left 1
 ·(intro w' hSw;(try dsimp only at hSw);go_simp;(first | done | with_reducible rfl))
 try simp only[Act.put,zC,zE,zD]
 refine wpAnyH_take (i:=9) (v:=?_) rfl (by kernel_rfl) (by kernel_rfl) (by kernel_rfl) (fun _ _ _ h=>h) (Or.inl ⟨by rfl,?_⟩) (by assumption) ?_
 rotate_left 1
 ·(intro w' hSw;(try dsimp only at hSw);go_simp;(first | done | with_reducible rfl))
 try simp only[Act.put,zC,zE,zD]
 refine wpAnyH_ready (rs:=[10]) (by kernel_rfl) (by simp) ?_
 refine AllReadyH.cons rfl (fun K hK=>?_) AllReadyH.nil
 go_simp
 refine hK.out _ _ (by(try dsimp only);(first | exact HCB.out XS9.out | exact HCB.out X2.out | exact HCB.out X1.out)) (fun hHeld=>?_)
 clear hK K
 try simp only[Act.put,zC,zE,zD]
 refine wpAnyH_done (by kernel_rfl) ?_ _
 refine NoPanic.normal ?_
 have H3:=zh HS9.out.1
 have Y3:=zh HS9.out.2
 have X3:=zh (X2.out.trans Y3.out)
 have B_op_3:=zh (Y3.out.box B_op_2.out)
 have cop3:=B_op_3.out.cellv
 have B_left_3:=zh (Y3.out.box B_left_2.out)
 have cleft3:=B_left_3.out.cellv
 unfold ptr at cleft3
 have B_r_3:=zh (Y3.out.box B_r_2.out)
 have cr3:=B_r_3.out.cellv
 unfold ptr at cr3
 have e9:R=.ok (((((σ.mv left).mv j).new (nkt 14 ⟨op.toArray⟩ [y,x])).is σ.N.length)):=by
  have hcu:=HCU.out;have hnd_left:=HND_LEFT.out;have hnj:=HNJ.out;have hne:=HNE.out;rw[HR.out];try simp[stp,twoE,hcu,hnd_left,hnj,hne,bind,Except.bind,pure,Except.pure,Except.map]
 subst e9
 go_wp2_with fail
 go_end0
 exact⟨rfl,M2,H3.out,X3.out⟩
end
end Go.Proofs.YtdhadeeajgoedaaGreat
