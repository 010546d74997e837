import Derived.Test.YtdhadeeajgoedaaGreatL07
import Derived.Test.YtdhadeeajgoedaaGreatL29
import Derived.Deep.RegionLaw
set_option maxRecDepth 100000
set_option maxHeartbeats 4000000
set_option linter.all false
open Array renaming getElem?_push→zA
namespace Go.Proofs.YtdhadeeajgoedaaGreat
open Go.RowKit Go.PlainAid
def NumR(w:World)(b:Nat)(ks:List Int):Prop:=ks.length<=100/\ ∀j k,ks[j]?=some k->w.cell? ⟨b,j,none⟩=some (.int .i64 k)
theorem NumR.below{w w':World}{b:Nat}{ks:List Int}(h:NumR w b ks)(hb:Below w.heap.size w w')(hl:b<w.heap.size):NumR w' b ks:=⟨h.1,fun j k e=>(hb.cell (p:=⟨b,j,none⟩) hl).trans (h.2 j k e)⟩
theorem qev(w:World)(b:Nat)(hb:b=w.heap.size)(ks:List Int)(h:ks.length<=100)(T:TypeId):NumR (w.alloc (.cells (ks.map (Value.int .i64)).toArray T)) b ks:=by
 subst hb
 refine⟨h,fun j k e=>?_⟩
 have hr:(w.alloc (.cells (ks.map (Value.int .i64)).toArray T)).heap[w.heap.size]?=some (.cells (ks.map (Value.int .i64)).toArray T (0,0)):=by
  show(w.heap.push _)[w.heap.size]?=_
  rw[zA,if_pos rfl]
 rw[cell_of_row _ _ _ _ _ _ hr]
 simp[e]
theorem qnq(ks:List Int)(b:Nat)(n:Nat)(hn:n=ks.length)(k:Int)(w:World)(h:NumR w b ks):
 Calls Tryz.prog 214 #[.slice (some ⟨b,0,none⟩) n n,.int .i64 k] w fun e w'=>(∃r:Int,e=.returned (.int .i64 r)/\(0<=r↔ks.contains k=true))/\w=w':=by
 have HL:=zh hn
 have HN:=zh h
 have hn6:n<=100:=by rw[hn];exact h.1
 clear h hn
 go_enter Tryz.func214,Tryz.ntmps214
 go_wp2_with fail
 go_loopg [8] n (fun gn i wr=> ∃q:Nat,gn=n-q/\q<=n/\i=.int .i64 (q:Int)/\wr=w/\Hid (∀j,j<q->ks[j]?≠some k))
 case atStart=>exact⟨0,rfl,Nat.zero_le _,rfl,rfl,zh (fun j h=>by omega)⟩
 case round=>
  obtain⟨q,hgn,hq,rfl,rfl,HQ⟩:=hrel
  by_cases hlt:q<n
  ·have HLT:=zh hlt
   obtain⟨K,hK⟩: ∃K,ks[q]?=some K:=⟨_,List.getElem?_eq_getElem (by rw[<-HL.out];exact hlt)⟩
   have c0:=HN.out.2 q K hK
   have qn:(q:Int)< (n:Int):=Int.ofNat_lt.2 hlt
   have q0:(0:Int)<=(q:Int):=Int.natCast_nonneg q
   have HKK:=zh hK
   clear hK hlt
   by_cases hk:k=K
   ·have kc:(k==K)=true:=by rw[hk];simp
    have HF:=zh hk
    clear hk
    go_wp2_with fail
    go_ret
    exact⟨⟨_,rfl,⟨fun _=>by
     rw[List.contains_iff_mem,HF.out]
     exact List.mem_of_getElem? HKK.out,fun _=>q0⟩⟩,rfl⟩
   ·have kc:(k==K)=false:=beq_false_of_ne hk
    have HF:=zh hk
    clear hk
    go_wp2_with fail
    go_roundg (n- (q+1))
    case measure=>have:=HLT.out;omega
    case rel=>exact⟨q+1,rfl,HLT.out,by go_num,rfl,zh (fun j hj e=>by
     by_cases h:j=q
     ·rw[h,HKK.out]at e;exact HF.out (Option.some.inj e).symm
     ·exact HQ.out j (by omega) e)⟩
  ·have qn: ¬(q:Int)< (n:Int):=by omega
   have HE:Hid (q=n):=zh (by omega)
   clear hlt
   go_wp2_with fail
   go_ret
   exact⟨⟨_,rfl,⟨fun h=>absurd h (by omega),fun h=>by
    have h':k∈ks:=by simpa using h
    obtain⟨j,hj⟩:=List.getElem?_of_mem h'
    have hl:=(List.getElem?_eq_some_iff.1 hj).1
    exact absurd hj (HQ.out j (by rw[HE.out,HL.out];exact hl))⟩⟩,rfl⟩
theorem qif(ks:List Int)(b:Nat)(n:Nat)(hn:n=ks.length)(k:Int)(w:World)(h:NumR w b ks):
 Calls Tryz.prog 200 #[.slice (some ⟨b,0,none⟩) n n,.int .i64 k] w fun e w'=>e=.returned (.bool (ks.contains k))/\w=w':=by
 have HI:=zh (qnq ks b n hn k w h)
 clear h hn
 go_enter Tryz.func200,Tryz.ntmps200
 go_wp2_with fail
 refine HI.out.mono ?_
 rintro e w1 ⟨⟨r,rfl,hr⟩,rfl⟩
 have HR:=zh hr
 clear hr
 go_wp2_with fail
 go_ret
 have e9:decide (0<=r)=ks.contains k:=by
  cases hc:ks.contains k
  ·rw[hc]at HR
   exact decide_eq_false (fun e=>by have:=HR.out.1 e;simp at this)
  ·rw[hc]at HR
   exact decide_eq_true (HR.out.2 rfl)
 exact⟨by rw[<-e9];rfl,rfl⟩
section
variable{W:World}{g:Nat}{s:ByteArray}{E:Env}{tv td np:Value}{i past:Nat}
theorem qh4(f:Int->Bool)(ks:List Int)(hf: ∀k,ks.contains k=f k)(h0:f 0=false)(b n:Nat)(hn:n=ks.length)(hN:NumR W b ks)(hb:b<W.heap.size)(hbg:b≠g)(h:RdM W g s E tv td np i past):
 Calls Tryz.prog 175 #[.pointer (some ⟨g,0,none⟩),.slice (some ⟨b,0,none⟩) n n] W (RdO (txE E f i) W g s E tv td np (fun x=>.string x.1) (·.2)):=by
 have HA:=zh (qdc h)
 have HC:=zh (fun k w (hw:NumR w b ks)=>qif ks b n hn k w hw)
 have HMY:=zh (fun w=>qas w)
 have HMN:=zh (fun w=>qat w)
 have HCL:=zh (fun w=>qep (nxE E i).2.1 (by
  by_cases hlt:E.pk i<E.to
  ·rw[nx_in hlt];exact h.sz _
  ·rw[qht hlt];decide) w)
 have HPT:Hid (f (nxE E i).1=true->E.pk i<E.to):=zh (fun e=>by
  by_cases hlt:E.pk i<E.to
  ·exact hlt
  ·rw[qht hlt]at e
   have e:f 0=true:=e
   rw[h0]at e;cases e)
 have HR:Hid (txE E f i=if f (nxE E i).1 then(tkE E i).map (fun j=>((nxE E i).2.1,j))else .error .die):=zh rfl
 have HNR:Hid (∀w',W.grownBy w' (some g)->NumR (w'.alloc (.cells #[.int .i64 (nxE E i).1,.string (nxE E i).2.1,.int .i64 (nxE E i).2.2] 34)) b ks):=zh (fun w' hw=>by
  refine⟨hN.1,fun j k e=>?_⟩
  rw[(qa1 w' _).cell (p:=⟨b,j,none⟩) (Nat.lt_of_lt_of_le hb hw.size)]
  unfold World.cell?
  rw[show w'.heap[b]?=W.heap[b]? from hw.block b hb (fun e=>hbg (Option.some.inj e))]
  exact hN.2 j k e)
 obtain⟨K,hK⟩: ∃K,K=(nxE E i).1:=⟨_,rfl⟩
 obtain⟨X,hX⟩: ∃X,X=(nxE E i).2.1:=⟨_,rfl⟩
 obtain⟨A,hA⟩: ∃A,A=(nxE E i).2.2:=⟨_,rfl⟩
 rw[<-hK,<-hX,<-hA]at HA HNR
 rw[<-hK,<-hX]at HR
 rw[<-hK]at HPT
 rw[<-hX]at HCL
 clear h hK hX hA hn hN hb
 cases hc:f K
 ·have HCK:Hid (∀w,NumR w b ks->Calls Tryz.prog 200 #[.slice (some ⟨b,0,none⟩) n n,.int .i64 K] w fun e w'=>e=.returned (.bool false)/\w=w'):=zh (fun w hw=>by have h9:=HC.out K w hw;rw[hf,hc]at h9;exact h9)
  have HR:Hid (txE E f i=.error .die):=zh (by rw[HR.out,hc];rfl)
  clear hc HC hf h0
  go_enter Tryz.func175,Tryz.ntmps175
  go_wp2_with fail
  refine HA.out.mono ?_
  rintro e w2 ⟨rfl,h2,hg2⟩
  have HG:=zh hg2
  have HNN:=zh (HNR.out _ hg2)
  clear h2 hg2
  go_wp2_with fail
  refine(HCK.out _ HNN.out).mono ?_
  rintro e w3 ⟨rfl,rfl⟩
  go_wp2_with fail
  refine(HMN.out _).mono ?_
  rintro e w3 ⟨⟨u,pv,rfl⟩,rfl⟩
  go_wp2_with fail
  exact⟨rfl,qa9 HG.out (qau _ (qa1 _ _)),by rw[HR.out];exact⟨_,_,rfl⟩⟩
 ·have HCK:Hid (∀w,NumR w b ks->Calls Tryz.prog 200 #[.slice (some ⟨b,0,none⟩) n n,.int .i64 K] w fun e w'=>e=.returned (.bool true)/\w=w'):=zh (fun w hw=>by have h9:=HC.out K w hw;rw[hf,hc]at h9;exact h9)
  have HR:Hid (txE E f i=(tkE E i).map (fun j=>(X,j))):=zh (by rw[HR.out,hc];rfl)
  have HPT:=zh (HPT.out hc)
  clear hc HC hf h0
  cases ht:tkE E i with
  | ok j=>
   rw[ht]at HR
   go_enter Tryz.func175,Tryz.ntmps175
   go_wp2_with fail
   refine HA.out.mono ?_
   rintro e w2 ⟨rfl,h2,hg2⟩
   have h3:=h2.below (qa1 _ (.cells #[.int .i64 K,.string X,.int .i64 A] 34))
   have HG:=zh (qa9 hg2 (qau _ (qa1 _ (.cells #[.int .i64 K,.string X,.int .i64 A] 34))))
   have HNN:=zh (HNR.out _ hg2)
   have HTK:=zh (qdv h3 HPT.out)
   rw[ht]at HTK
   have hr3:(w2.alloc (.cells #[.int .i64 K,.string X,.int .i64 A] 34)).heap[w2.heap.size]?=some (.cells #[.int .i64 K,.string X,.int .i64 A] 34 (0,0)):=by
    show(w2.heap.push _)[w2.heap.size]?=_
    rw[zA,if_pos rfl]
   have HBG:Hid (w2.heap.size≠g):=zh (by have:=h2.lt;omega)
   have HR3:=zh hr3
   clear h2 h3 hg2 ht hr3
   go_wp2_with fail
   refine(HCK.out _ HNN.out).mono ?_
   rintro e w3 ⟨rfl,rfl⟩
   go_wp2_with fail
   refine(HMY.out _).mono ?_
   rintro e w3 ⟨rfl,rfl⟩
   go_wp2_with fail
   refine HTK.out.mono ?_
   rintro e w4 ⟨hg4,rfl,p4,h4⟩
   have hr4:w4.heap[w2.heap.size]?=some (.cells #[.int .i64 K,.string X,.int .i64 A] 34 (0,0)):=(hg4.block _ (lt_of_block HR3.out) (fun e=>HBG.out (Option.some.inj e))).trans HR3.out
   obtain⟨k0,k1,k2⟩:w4.cell? ⟨w2.heap.size,0,none⟩=some (.int .i64 K)/\w4.cell? ⟨w2.heap.size,1,none⟩=some (.string X)/\w4.cell? ⟨w2.heap.size,2,none⟩=some (.int .i64 A):=⟨by rw[cell_of_row w4 _ _ _ _ _ hr4];rfl,by rw[cell_of_row w4 _ _ _ _ _ hr4];rfl,by rw[cell_of_row w4 _ _ _ _ _ hr4];rfl⟩
   have HG4:=zh (qa9 HG.out hg4)
   have HR4:=zh h4
   clear hg4 h4 hr4
   go_wp2_with fail
   refine(HCL.out _).mono ?_
   rintro e w5 ⟨rfl,hb5⟩
   have HB5:=zh hb5
   clear hb5
   go_wp2_with fail
   go_ret
   exact⟨qa9 HG4.out (qau _ HB5.out),by rw[HR.out];exact⟨rfl,_,HR4.out.below HB5.out⟩⟩
  | error e9=>
   rw[ht]at HR
   go_enter Tryz.func175,Tryz.ntmps175
   go_wp2_with fail
   refine HA.out.mono ?_
   rintro e w2 ⟨rfl,h2,hg2⟩
   have h3:=h2.below (qa1 _ (.cells #[.int .i64 K,.string X,.int .i64 A] 34))
   have HG:=zh (qa9 hg2 (qau _ (qa1 _ (.cells #[.int .i64 K,.string X,.int .i64 A] 34))))
   have HNN:=zh (HNR.out _ hg2)
   have HTK:=zh (qdv h3 HPT.out)
   rw[ht]at HTK
   clear h2 h3 hg2 ht
   go_wp2_with fail
   refine(HCK.out _ HNN.out).mono ?_
   rintro e w3 ⟨rfl,rfl⟩
   go_wp2_with fail
   refine(HMY.out _).mono ?_
   rintro e w3 ⟨rfl,rfl⟩
   go_wp2_with fail
   refine HTK.out.mono ?_
   rintro e w4 ⟨hg4,u,pv,rfl⟩
   have HG4:=zh (qa9 HG.out hg4)
   clear hg4
   go_wp2_with fail
   exact⟨rfl,HG4.out,by rw[HR.out];exact⟨_,_,rfl⟩⟩
theorem qqf(h:RdM W g s E tv td np i past):
 Calls Tryz.prog 179 #[.pointer (some ⟨g,0,none⟩)] W (RdO (txE E nmk i) W g s E tv td np (fun x=>.string x.1) (·.2)):=by
 have HT:=zh (qh4 nmk [1,2,7] (fun k=>by rw[Bool.eq_iff_iff];simp[nmk,or_assoc]) rfl W.heap.size 3 rfl (qev W _ rfl [1,2,7] (by decide) 3) (by simp) (by have:=h.lt;omega) (h.below (qa1 _ _)))
 have HGB:=zh (qau (some g) (qa1 W (.cells #[.int .i64 1,.int .i64 2,.int .i64 7] 3)))
 clear h
 go_enter Tryz.func179,Tryz.ntmps179
 go_wp2_with fail
 refine HT.out.mono ?_
 rintro e w2 ⟨hg2,h2⟩
 have HG:=zh (qa9 HGB.out hg2)
 clear hg2
 cases hx:txE E nmk i with
 | ok x=>
  rw[hx]at h2
  obtain⟨rfl,p2,h3⟩:=h2
  have HR:=zh h3
  have HX:=zh hx
  clear h3 hx
  go_wp2_with fail
  go_ret
  exact⟨HG.out,by rw[HX.out];exact⟨rfl,_,HR.out⟩⟩
 | error b=>
  rw[hx]at h2
  obtain⟨u,pv,rfl⟩:=h2
  have HX:=zh hx
  clear hx
  go_wp2_with fail
  exact⟨rfl,HG.out,by rw[HX.out];exact⟨_,_,rfl⟩⟩
theorem qkq(h:RdM W g s E tv td np i past):
 Calls Tryz.prog 195 #[.pointer (some ⟨g,0,none⟩)] W (RdO (txE E szk i) W g s E tv td np (fun x=>.string x.1) (·.2)):=by
 have HT:=zh (qh4 szk [3,2,7] (fun k=>by rw[Bool.eq_iff_iff];simp[szk,or_assoc]) rfl W.heap.size 3 rfl (qev W _ rfl [3,2,7] (by decide) 3) (by simp) (by have:=h.lt;omega) (h.below (qa1 _ _)))
 have HGB:=zh (qau (some g) (qa1 W (.cells #[.int .i64 3,.int .i64 2,.int .i64 7] 3)))
 clear h
 go_enter Tryz.func195,Tryz.ntmps195
 go_wp2_with fail
 refine HT.out.mono ?_
 rintro e w2 ⟨hg2,h2⟩
 have HG:=zh (qa9 HGB.out hg2)
 clear hg2
 cases hx:txE E szk i with
 | ok x=>
  rw[hx]at h2
  obtain⟨rfl,p2,h3⟩:=h2
  have HR:=zh h3
  have HX:=zh hx
  clear h3 hx
  go_wp2_with fail
  go_ret
  exact⟨HG.out,by rw[HX.out];exact⟨rfl,_,HR.out⟩⟩
 | error b=>
  rw[hx]at h2
  obtain⟨u,pv,rfl⟩:=h2
  have HX:=zh hx
  clear hx
  go_wp2_with fail
  exact⟨rfl,HG.out,by rw[HX.out];exact⟨_,_,rfl⟩⟩
theorem qkv(h:RdM W g s E tv td np i past):
 Calls Tryz.prog 113 #[.pointer (some ⟨g,0,none⟩)] W fun e W'=>e=.returned (.bool (brE E i))/\Below W.heap.size W W':=by
 obtain⟨c0,c1,c2,c3,c4,c5⟩:=h.cells
 have HC:=zh (fun W2 (h2:Below W.heap.size W W2)=>((⟨(h.below h2).cells.1,(h.below h2).cells.2.1,(h.below h2).cells.2.2.1,zh h2⟩:W2.cell? ⟨g,0,none⟩=some (.string s)/\W2.cell? ⟨g,1,none⟩=some tv/\W2.cell? ⟨g,2,none⟩=some (.int .i64 (i:Int))/\Hid (Below W.heap.size W W2))))
 have HBd:Hid (Below W.heap.size W W.drew):=zh (Below.drew (Below.refl _ _))
 have HN:Hid (∀W2,Below W.heap.size W W2->Calls Tryz.prog 142 #[.string s,tv,.int .i64 (i:Int)] W2 fun e W'=>e=.returned (.bool (brE E i))/\Below W.heap.size W W'):=zh (fun W2 h2=>((h.gp W2 i h.il (h.row.below h2)).1).mono (fun e W' h3=>⟨h3.1,h2.trans (h3.2.mono h2.size)⟩))
 clear h
 go_enter Tryz.func113,Tryz.ntmps113
 go_wp2_with fail
 go_region_held3 (fun w'=>w'.cell? ⟨g,0,none⟩=some (.string s)/\w'.cell? ⟨g,1,none⟩=some tv/\w'.cell? ⟨g,2,none⟩=some (.int .i64 (i:Int))/\Hid (Below W.heap.size W w')) (first | exact HC.out _ h2 | exact HC.out _ HBd.out) (first | (go_at_call 142;refine(HN.out _ HBd.out).mono ?_;rintro e w2 ⟨rfl,h2⟩))
 go_wp2_with fail
 go_ret
 exact⟨rfl,h2⟩
theorem qne(h:RdM W g s E tv td np i past):
 Calls Tryz.prog 76 #[.pointer (some ⟨g,0,none⟩)] W fun e W'=>e=.returned (.bool (blE E i))/\Below W.heap.size W W':=by
 obtain⟨c0,c1,c2,c3,c4,c5⟩:=h.cells
 have HC:=zh (fun W2 (h2:Below W.heap.size W W2)=>((⟨(h.below h2).cells.1,(h.below h2).cells.2.1,(h.below h2).cells.2.2.1,zh h2⟩:W2.cell? ⟨g,0,none⟩=some (.string s)/\W2.cell? ⟨g,1,none⟩=some tv/\W2.cell? ⟨g,2,none⟩=some (.int .i64 (i:Int))/\Hid (Below W.heap.size W W2))))
 have HBd:Hid (Below W.heap.size W W.drew):=zh (Below.drew (Below.refl _ _))
 have HN:Hid (∀W2,Below W.heap.size W W2->Calls Tryz.prog 110 #[.string s,tv,.int .i64 (i:Int)] W2 fun e W'=>e=.returned (.bool (blE E i))/\Below W.heap.size W W'):=zh (fun W2 h2=>((h.gp W2 i h.il (h.row.below h2)).2).mono (fun e W' h3=>⟨h3.1,h2.trans (h3.2.mono h2.size)⟩))
 clear h
 go_enter Tryz.func76,Tryz.ntmps76
 go_wp2_with fail
 go_region_held3 (fun w'=>w'.cell? ⟨g,0,none⟩=some (.string s)/\w'.cell? ⟨g,1,none⟩=some tv/\w'.cell? ⟨g,2,none⟩=some (.int .i64 (i:Int))/\Hid (Below W.heap.size W w')) (first | exact HC.out _ h2 | exact HC.out _ HBd.out) (first | (go_at_call 110;refine(HN.out _ HBd.out).mono ?_;rintro e w2 ⟨rfl,h2⟩))
 go_wp2_with fail
 go_ret
 exact⟨rfl,h2⟩
end
theorem tkH{P:Program}{md:Region.Mode}{ops:Array Oper}{Q:Exit->Act->World->Prop}{S:World->Prop}{i:Nat}{oi:Oper}{v:Value}{fuel:Nat}{listed:Array Bool}{a:Act}{w:World}(hi:ops[i]?=some oi)(hy:YieldsIf P ops S oi v a)
 (h:wpAnyH P md ops Q S fuel (listed.setIfInBounds i true) (a.put oi.dst v) w) (hS:S w:=by assumption) (hs:Region.noSelect ops=true:=by kernel_rfl) (hf:Region.free md ops listed i=true:=by kernel_rfl) (hr:(Region.ready md ops listed).contains i=true:=by kernel_rfl)
 (hQ: ∀c a w,Q (.panic c) (a.put oi.dst v) w->Q (.panic c) a w:=by exact fun _ _ _ h=>h):wpAnyH P md ops Q S (fuel+1) listed a w:=wpAnyH_take hi hs hf hr hQ hy hS h
end Go.Proofs.YtdhadeeajgoedaaGreat
