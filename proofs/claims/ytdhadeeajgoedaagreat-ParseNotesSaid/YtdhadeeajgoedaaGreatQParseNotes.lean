/-
  The comments of an expression are those among its tokens, in their order (promise 13): for every text the statement ParseNotes returns true. No condition.
-/
import Derived.Test.YtdhadeeajgoedaaGreatL04
import Derived.Test.YtdhadeeajgoedaaGreatL49
set_option maxRecDepth 100000
set_option maxHeartbeats 4000000
set_option linter.all false
namespace Go.Proofs.YtdhadeeajgoedaaGreat.parseNotes
open Go.ChangeShapes Go.WideShapes Go.ChangeAt Go.RowKit Go.PlainAid
theorem qw8{α:Type}(A:List α)(x:α)(r:List α):((A++[x])++r)[A.length]?=some x:=by simp
theorem walk(s:ByteArray)(_:s.size<=maxLen)(w:World):
 Calls Tryz.prog 9 #[.string s] w fun e w'=>e=.returned (.bool true)/\Below w.heap.size w w':=by
 have HT:=zh qi6
 by_cases hbig:(400:Int)< (s.size:Int)
 ·go_enter Tryz.func9,Tryz.ntmps9
  go_wp2_with fail
  refine(HT.out _).mono ?_
  rintro e w1 ⟨rfl,hb1⟩
  have B1:=zh hb1
  clear hb1
  go_wp2_with fail
  go_ret
  exact⟨rfl,B1.out⟩
 have hs:s.size<=400:=by omega
 obtain⟨L,c,hR⟩: ∃L c,qco s=(L,c):=⟨_,_,rfl⟩
 have HS:=zh (fun W=>qh1 s L c hR (by omega) W)
 have hll:L.length<=1048576:=by
  have h:(qco s).1.length<=s.size:=qg1 s
  rw[hR]at h
  have h:L.length<=s.size:=h
  omega
 have HD:=zh (fun v W h=>qkc v (qcx s L) (by rw[qb8];exact hll) W h)
 by_cases hc:c=0
 rotate_left
 ·have hc1:(c !=0)=true:=by simpa using hc
  go_enter Tryz.func9,Tryz.ntmps9
  go_wp2_with fail
  refine(HS.out _).mono ?_
  rintro e w1 ⟨v1,rfl,-,hb1⟩
  have B1:=zh hb1
  clear hb1 HS
  go_wp2_with fail
  refine(HT.out _).mono ?_
  rintro e w2 ⟨rfl,hb2⟩
  have B2:Hid (Below w.heap.size w w2):=zh (B1.out.trans (hb2.mono B1.out.size))
  clear hb2
  go_wp2_with fail
  go_ret
  exact⟨rfl,B2.out⟩
 subst hc
 have h3:=qj6 (qf1 hR).2.2
 have HE:=zh (fun v W h=>qew h3 (by omega) hll v 0 (L.length:Nat) 0 W h)
 obtain⟨D,hD⟩: ∃D,D=dl (qcx s L) 0 0:=⟨_,rfl⟩
 rw[<-hD]at HD
 have HL:=zh hll
 obtain⟨n,hn⟩: ∃n,n=L.length:=⟨_,rfl⟩
 by_cases hdeep:(100:Int)<D
 ·rw[<-hn]at HL
  have HN:=zh hn
  clear hn hD hll hR h3 HE
  go_enter Tryz.func9,Tryz.ntmps9
  go_wp2_with fail
  refine(HS.out _).mono ?_
  rintro e w1 ⟨v1,rfl,ha1,hb1⟩
  have A1:=zh ha1
  have B1:=zh hb1
  clear ha1 hb1 HS
  go_wp2_with fail
  refine(HD.out _ _ A1.out.row).mono ?_
  rintro e w2 ⟨rfl,hb2⟩
  have B2:Hid (Below w.heap.size w w2):=zh (B1.out.trans (hb2.mono B1.out.size))
  clear hb2 HD
  go_wp2_with fail
  refine(HT.out _).mono ?_
  rintro e w3 ⟨rfl,hb3⟩
  have B3:Hid (Below w.heap.size w w3):=zh (B2.out.trans (hb3.mono B2.out.size))
  clear hb3
  go_wp2_with fail
  go_ret
  exact⟨rfl,B3.out⟩
 have hK: ∀o,pE s L (.expr 0) 0 (L.length:Nat)=some o->nts o.x=cmF (qcx s L) (min o.p.i n)/\o.p.i<=n/\cnt o.x<=1048576/\(nts o.x).length<=1048576:=fun o h=>by
  have h1:=qnr h
  have h2:=qpu (i:=0) h
  have h3:=qmm (i:=0) h
  have h4:=qkw (qcx s L) (min o.p.i L.length)
  rw[<-hn]at h1 h2 h4
  have h5:L.length<=s.size:=by
   have h:(qco s).1.length<=s.size:=qg1 s
   rw[hR]at h;exact h
  refine⟨h1,h2.2,by omega,by rw[h1];omega⟩
 have hTx: ∀i,i<n->(qcx s L)[i]?=some ((qcx s L).getD i tk0):=fun i hi=>by
  rw[List.getD_eq_getElem?_getD]
  have:i< (qcx s L).length:=by rw[qb8];omega
  rw[List.getElem?_eq_getElem this];rfl
 have hTl:(qcx s L).length=n:=by rw[qb8];exact hn.symm
 rw[<-hn]at HE HL hK
 clear hR h3 hD hn hll
 generalize qcx s L=T at*
 generalize pE s L (.expr 0) 0 (n:Nat)=R at HE hK
 have HTL:=zh hTl
 have HTX:=zh hTx
 clear hTl hTx
 go_enter Tryz.func9,Tryz.ntmps9
 go_wp2_with fail
 refine(HS.out _).mono ?_
 rintro e w1 ⟨v1,rfl,ha1,hb1⟩
 have A1:=zh ha1
 have B1:=zh hb1
 clear ha1 hb1 HS
 obtain⟨la,lc,rfl,-⟩:=A1.out.row
 rw[HTL.out]at A1⊢
 go_wp2_with fail
 refine(HD.out _ _ A1.out.row).mono ?_
 rintro e w2 ⟨rfl,hb2⟩
 have A2:=zh (A1.out.below hb2)
 have B2:Hid (Below w.heap.size w w2):=zh (B1.out.trans (hb2.mono B1.out.size))
 clear hb2 HD A1 B1
 go_wp2_with fail
 refine(HE.out _ _ A2.out).mono ?_
 rintro e w3 ⟨hb3,he⟩
 have A3:=zh (A2.out.below hb3)
 have B3:Hid (Below w.heap.size w w3):=zh (B2.out.trans (hb3.mono B2.out.size))
 clear hb3 HE A2 B2
 cases R with
 | none=>
  obtain rfl:=he
  unfold qta
  clear hK
  go_wp2_with fail
  refine(HT.out _).mono ?_
  rintro e w4 ⟨rfl,hb4⟩
  have B4:Hid (Below w.heap.size w w4):=zh ((B3.out.alloc B3.out.size _).trans (hb4.mono (by have:=B3.out.size;simp;omega)))
  clear hb4
  go_wp2_with fail
  go_ret
  exact⟨rfl,B4.out⟩
 | some o=>
  obtain⟨cc,rfl,hnd⟩:=he
  obtain⟨k1,k2,k3,k4⟩:=hK o rfl
  clear hK
  obtain⟨ka,kc,na,nc,va,vc,rfl,-,-,-⟩:=qgr hnd
  have HN:=zh (fun W (hb:Below w3.heap.size w3 W)=>qhx 1048576 (Nat.le_refl _) o.x k3 k4 _ W (hnd.nd.bel hb))
  have K1:=zh k1
  clear hnd k1 k3 k4
  obtain⟨at_,hat⟩: ∃m,m=o.p.i:=⟨_,rfl⟩
  rw[<-hat]at K1 k2⊢
  rw[Nat.min_eq_left k2]at K1
  generalize nts o.x=got at HN K1
  generalize o.x.kd=xk at*
  generalize o.x.tx=xt at*
  generalize o.x.ls.length=xn at*
  generalize o.x.bk=xb at*
  generalize o.x.bw=xw at*
  generalize o.x.nof.length=xo at*
  generalize o.x.tl'.length=xl at*
  clear hat
  go_wp2_with fail
  refine(HN.out _ (qa1 _ _)).mono ?_
  rintro e w4 ⟨v4,rfl,htx,hb4⟩
  have A4:=zh ((A3.out.below (qa1 _ _)).below hb4)
  have B4:Hid (Below w.heap.size w w4):=zh ((B3.out.alloc B3.out.size _).trans (hb4.mono (by have:=B3.out.size;simp;omega)))
  obtain⟨ga,gc,rfl,hgr⟩:=qfq htx
  have HG:=zh hgr
  clear htx hgr hb4 A3 B3 HN
  obtain⟨N,hN⟩: ∃N,N=got.length:=⟨_,rfl⟩
  rw[<-hN]at HG⊢
  have HNN:=zh hN
  clear hN
  go_wp2_with fail
  go_loopg [9,10] at_ (fun gn kv iv wr=> ∃(j k:Nat),gn=at_-j/\j<=at_/\iv=.int .i64 (j:Int)/\kv=.int .i64 (k:Int)/\Hid (k=(cmF T j).length)/\Hid (Below w4.heap.size w4 wr))
  case atStart=>exact⟨0,0,rfl,Nat.zero_le _,rfl,rfl,zh rfl,zh (Below.refl _ _)⟩
  case round=>
   obtain⟨j,k,hgn,hj,rfl,rfl,HKK,HW⟩:=hrel
   by_cases hlt:j<at_
   ·have z1:(j:Int)< (at_:Int):=by omega
    have hj9:j<=1048576:=by have:=HL.out;omega
    have z2:(j:Int)< (n:Int):=by omega
    have hx:=HTX.out j (by omega)
    obtain⟨aT,capT,eT,hrT⟩:=A4.out.row
    rw[HTL.out]at eT hrT
    simp only[Value.slice.injEq]at eT
    obtain⟨rfl,-,rfl⟩:=eT
    obtain⟨g,oo,rfl,hg,hcc⟩:=hrT (by omega)
    obtain⟨c1,c2,-⟩:=hcc j _ hx
    have c1:=(HW.out.cell (p:=⟨g,oo+j*3,none⟩) hg).trans c1
    have c2:=(HW.out.cell (p:=⟨g,oo+j*3+1,none⟩) hg).trans c2
    have hstep:cmF T (j+1)=cmF T j++(if(T.getD j tk0).1=11 then[(T.getD j tk0).2.1]else[]):=rfl
    generalize T.getD j tk0=x at c1 c2 hstep
    clear hx hcc hrT
    by_cases hx:x.1=11
    ·rw[if_pos hx]at hstep
     obtain⟨r,hr⟩:=qtq T (show j+1<=at_ by omega)
     rw[hstep,<-K1.out]at hr
     have hgk:got[k]?=some x.2.1:=by rw[HKK.out,hr];exact qw8 _ _ _
     have hkN:k<N:=by rw[HNN.out];exact(List.getElem?_eq_some_iff.1 hgk).1
     obtain⟨gg,go_,rfl,hgg,hgc⟩:=HG.out (by omega)
     have c3:=(HW.out.cell (p:=⟨gg,go_+k,none⟩) hgg).trans (hgc k _ hgk)
     have hk2:(cmF T (j+1)).length=k+1:=by rw[hstep,List.length_append,HKK.out];rfl
     have HK2:=zh hk2
     have z3:(k:Int)< (N:Int):=by omega
     have z4: ¬(N:Int)<=(k:Int):=by omega
     have z5:decide ((k:Int)≥(N:Int))=false:=decide_eq_false (by omega)
     have hbn:=Nat.le_trans (show k<=j by rw[HKK.out];exact qkw T j) (show j<=1048576 by have:=HL.out;omega)
     rw[hx]at c1
     generalize x.2.1=X at c2 c3
     clear hstep hr hgk hk2 hgc
     go_wp2_with fail
     go_quiet (fail)
     go_wp2_with fail
     go_roundg (at_- (j+1))
     case measure=>omega
     case rel=>exact⟨j+1,k+1,rfl,hlt,by go_num,by go_num,zh HK2.out.symm,zh (HW.out.trans ((qab _ _).mono HW.out.size))⟩
    ·rw[if_neg hx,List.append_nil]at hstep
     have hx2:(x.1==11)=false:=beq_false_of_ne hx
     have HK2:Hid (k=(cmF T (j+1)).length):=zh (by rw[hstep];exact HKK.out)
     clear hstep
     go_wp2_with fail
     go_roundg (at_- (j+1))
     case measure=>omega
     case rel=>exact⟨j+1,k,rfl,hlt,by go_num,rfl,HK2,HW⟩
   ·have z1: ¬(j:Int)< (at_:Int):=by omega
    obtain rfl:j=at_:=by omega
    have hkN:k=N:=by rw[HKK.out,HNN.out,K1.out]
    subst hkN
    go_wp2_with fail
    refine(HT.out _).mono ?_
    rintro e w5 ⟨rfl,hb5⟩
    have B5:Hid (Below w.heap.size w w5):=zh ((B4.out.trans (HW.out.mono B4.out.size)).trans (hb5.mono (Nat.le_trans B4.out.size HW.out.size)))
    clear hb5
    go_wp2_with fail
    go_ret
    exact⟨rfl,B5.out⟩
theorem qq1(os:Os)(started:os.Started)(H:Type)(enc:TypeId×Value->H):
 ReturnsInHanded {} Tryz.checked os 9 .any (Rows.parseNotesSpec.pre6 enc Tryz.prog Tryz.f9 Rows.parseNotesRow.domain false) (Rows.parseNotesSpec.post enc Tryz.prog Tryz.f9 false true false false):=by
 refine returnsInHanded_of_change (C:=Tryz.checked) qgv started (by kernel_rfl) Tryz.func9
  (ChangeSpec.witness6 (enc:=enc) (C:=Tryz.checked) false ⟨#[],#[.string ByteArray.empty],[]⟩ 8 (by kernel_rfl) (by kernel_rfl) (by kernel_rfl) (by kernel_rfl)) ?_
 intro W base args ds gs before hval0 hW hcnd _
 have hval: ∀(j:Nat) t v,Tryz.f9.params[j]?=some t->args[j]?=some v->Value.okWide Tryz.prog W .any base t v:=hval0
 have hW':=hW
 obtain⟨p,q,hA0,hV,rfl,hfz,hnd⟩:=hW
 have hA:DataW.TrodAll enc Tryz.prog W 0 (fun _=>true) true Tryz.f9.params.toList args.toList ds p:=hA0
 rw[Tryz.params9]at hA hval
 obtain⟨v0,vs0,d0,ds0,p0,q0,hargs,rfl,rfl,h0,r0⟩:=trodAll_cons hA
 obtain⟨rfl,rfl,rfl⟩:=trodAll_nil r0
 obtain rfl:args= #[v0]:=by cases args;simp_all
 obtain⟨rfl,rfl⟩:=trodVars_none hV
 obtain⟨a0,rfl,rfl,rfl,w0⟩:=Go.ChangeMaps.open_string Tryz.underlying9 (hval 0 9 v0 rfl rfl) h0
 clear hA0 hval0
 simp only[List.append_nil]at hW'
 refine(walk a0 w0 W).mono fun e W' ⟨he,bel⟩=>?_
 subst he
 exact⟨_,rfl,_,_,_,[],_,[],hW',trodAll_mk1 (shut_bool Tryz.underlying4 _),(trodAll_cons_mk (Go.ChangeMaps.shut_string Tryz.underlying9 w0) trodAll_mk0),rfl,bel.frame _,fun h=>by cases h⟩
theorem over:Rows.ParseNotesSaid:=
 OpenClaim.holds_of_wide 9 Tryz.f9 rfl rfl rfl rfl rfl rfl rfl ⟨rfl,rfl,rfl,rfl,rfl⟩ rfl rfl rfl rfl rfl (by kernel_rfl) Tryz.func9 (by kernel_rfl)
  (of_decide_eq_true (by kernel_rfl)) (by unfold Func.isWrapper;first | (rw[if_pos (by decide+kernel)];kernel_rfl) | (rw[if_neg (by decide+kernel)];exact⟨rfl,rfl⟩))
  (fun os started H enc _=>qq1 os started H enc)
theorem proved:Rows.ParseNotesSaid:=over
#print axioms proved
end Go.Proofs.YtdhadeeajgoedaaGreat.parseNotes
