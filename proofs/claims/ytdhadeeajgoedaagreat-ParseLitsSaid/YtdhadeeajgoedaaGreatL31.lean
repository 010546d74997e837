import Derived.Test.YtdhadeeajgoedaaGreatL27
import Derived.Test.YtdhadeeajgoedaaGreatL30
set_option maxRecDepth 100000
set_option maxHeartbeats 4000000
set_option linter.all false
open Nat renaming le_refl→zA,lt_of_lt_of_le→zB
open Go.World renaming cell?_of_block→zC
namespace Go.Proofs.YtdhadeeajgoedaaGreat
open Go.RowKit Go.PlainAid
theorem qlz{W W':World}{v:Value}{T:List Tok}{o:Option Nat}(h:TRow W v T)(hb:W.grownBy W' o)(hn: ∀k,v.ownBlock=some k->o≠some k):TRow W' v T:=by
 obtain⟨a,cap,rfl,h2⟩:=h
 refine⟨a,cap,rfl,fun h0=>?_⟩
 obtain⟨b,o',rfl,g2,g3⟩:=h2 h0
 have e:W'.heap[b]?=W.heap[b]?:=hb.block b g2 (fun e=>hn b rfl e.symm)
 refine⟨b,o',rfl,zB g2 hb.size,fun i x hx=>?_⟩
 obtain⟨c1,c2,c3⟩:=g3 i x hx
 exact⟨(zC (w:=W) e).trans c1,(zC (w:=W) e).trans c2,(zC (w:=W) e).trans c3⟩
theorem ql1(W:World)(g:Option Nat):W.grownBy W g:=⟨rfl,rfl,rfl,zA _,fun _ _ _=>rfl⟩
theorem qi7{W W':World}{B g:Nat}{v:Value}{L:List ByteArray}(h:Txs W B v L)(hb:W.grownBy W' (some g))(hg:g<B):Txs W' B v L:=by
 obtain⟨h1,h2 | ⟨k,cap,cur,rfl,h4,h5,h6⟩⟩:=h
 ·exact⟨h1,.inl h2⟩
 ·exact⟨h1,.inr ⟨k,cap,cur,rfl,h4,(hb.block k (lt_of_block h5) (fun e=>by have:=Option.some.inj e;omega)).trans h5,h6⟩⟩
section
variable{W:World}{g:Nat}{s:ByteArray}{E:Env}{tv td np:Value}{i past:Nat}
theorem RdM.grown{W':World}{o:Option Nat}(h:RdM W g s E tv td np i past)(hb:W.grownBy W' o)(h1:o≠some g)(h2: ∀k,tv.ownBlock=some k->o≠some k):RdM W' g s E tv td np i past:=
 ⟨(hb.block g h.lt (fun e=>h1 e.symm)).trans h.blk,qlz h.row hb h2,h.ne,h.tl,h.len,h.il,h.pt,h.pn,fun b e=>zB (h.nf b e) hb.size,h.sz,h.gp,h.cp⟩
theorem RdM.over{W' W0:World}{o:Option Nat}{B:Nat}(h:RdM W g s E tv td np i past)(hb:W.grownBy W' o)(hB: ∀k,o=some k->B<=k)(hg:g<B)(hv: ∀k,tv.ownBlock=some k->k<B)(h0:W0.grownBy W (some g))(hs:W0.heap.size<=B):RdM W' g s E tv td np i past/\W0.grownBy W' (some g):=
 ⟨h.grown hb (fun e=>by have:=hB _ e;omega) (fun k e1 e2=>by have:=hB _ e2;have:=hv _ e1;omega),⟨hb.os.trans h0.os,hb.tape.trans h0.tape,hb.output.trans h0.output,Nat.le_trans h0.size hb.size,fun j hj hne=>(hb.block j (zB hj h0.size) (fun e=>by have:=hB _ e.symm;omega)).trans (h0.block j hj hne)⟩⟩
def noteJ(W:World)(g:Nat)(s:ByteArray)(E:Env)(tv td np:Value)(i:Nat)(n:Nat)(a':Act)(w':World):Prop:=
 ∃(q p:Nat) (I:List ByteArray) (a:Option Addr) (c:Nat) (lv:Value),lv=.slice a I.length c/\n=E.to-q/\Hid (i<=q/\q<=E.pk i)/\Hid (RdM w' g s E tv td np q p)/\Hid (W.grownBy w' (some g))/\Hid (Txs w' W.heap.size (.slice a I.length c) I)/\Hid (I++cms E (E.pk i-q) q=cms E (E.pk i-i) i)/\
  ∃(u1 u4 u5 u6 u7 u8 u9 u10 u11 u12 u13 u14 u15 u16 u17 u18 u19 u20 u21 u22 u23 u24 u25 u26 u27 u28 u29:Value),a'= { tmps:= #[.pointer (some ⟨g,0,none⟩),u1,.slice none 0 0,lv,u4,u5,u6,u7,u8,u9,u10,u11,u12,u13,u14,u15,u16,u17,u18,u19,u20,u21,u22,u23,u24,u25,u26,u27,u28,u29],defers:=[] }
theorem nt_eq(E:Env){i:Nat}(h:i<=E.to):ntE E i=(cms E (E.pk i-i) i,E.pk i):=by
 unfold ntE
 rw[Nat.max_eq_right (qix E h).1]
theorem qnv(h:RdM W g s E tv td np i past):
 Calls Tryz.prog 104 #[.pointer (some ⟨g,0,none⟩)] W fun e W'=> ∃v,e=.returned v/\StIn W' (fun k=>W.heap.size<=k) v (ntE E i).1/\(∃p,RdM W' g s E tv td np (ntE E i).2 p)/\W.grownBy W' (some g):=by
 have HPK:=zh h.pk
 have HGL:=zh h.lt
 have HTV:=zh h.nf
 have HNT:=zh (nt_eq E h.il)
 have H0:=zh h
 have HLEN:=zh (⟨h.tl,h.len⟩:E.to<=E.T.length/\E.T.length<=1048576)
 clear h
 go_enter Tryz.func104,Tryz.ntmps104
 go_wp2_with fail
 refine qd5 (noteJ W g s E tv td np i) rfl ?_ ?_
 ·rintro n a' w' ⟨q,p,I,a,c,lv,hlv,hn,HQ1,HRD,HG,HTX,HC,u1,u4,u5,u6,u7,u8,u9,u10,u11,u12,u13,u14,u15,u16,u17,u18,u19,u20,u21,u22,u23,u24,u25,u26,u27,u28,u29,rfl⟩
  subst hlv
  have HNR:=zh (qgs HRD.out)
  have hpk:=qqz E q HQ1.out.1 (Nat.le_trans HQ1.out.2 HPK.out.2) (fun k a b=>qiy E _ i rfl k a (zB b HQ1.out.2))
  have HPQ:=zh hpk
  rw[hpk]at HNR
  by_cases hlt:q<E.pk i
  ·have hb:(E.pk i==q)=false:=beq_false_of_ne (by omega)
   rw[hb]at HNR
   have HLT:=zh hlt
   have HCM:=zh (qiy E _ i rfl q HQ1.out.1 hlt)
   have HX1:Hid (cms E (E.pk i-q) q=(E.tk q).2.1::cms E (E.pk i- (q+1)) (q+1)):=zh (qtr E hlt)
   have HCL:=zh (fun w=>qep (E.tk q).2.1 (H0.out.sz q) w)
   obtain⟨X,hX⟩: ∃X,X=(E.tk q).2.1:=⟨_,rfl⟩
   rw[<-hX]at HX1 HCL
   have HXK:=zh hX
   have hcl:=congrArg List.length HC.out
   rw[List.length_append,qkx,qkx]at hcl
   have HIL:Hid (I.length<=1048576):=zh (by have:=HLEN.out;have:=HPK.out;omega)
   clear hlt hb hX hcl hpk
   go_wp2_with fail
   refine HNR.out.mono ?_
   rintro e w2 ⟨rfl,h2,hg2⟩
   have HR2:=zh h2
   have HG2:=zh (qa9 HG.out hg2)
   have HT2:Hid (Txs w2 W.heap.size (.slice a I.length c) I):=zh (qi7 HTX.out hg2 HGL.out)
   have hq2:q<2000000:=by have:=HLT.out;have:=HPK.out;have:=HLEN.out;omega
   have hqE:q<E.to:=by have:=HLT.out;have:=HPK.out;omega
   obtain⟨b,o,cap,hv,t0,t1,t2⟩:=HR2.out.tok (k:=q) hqE
   rw[<-HXK.out]at t1
   obtain⟨c0,c1,c2,c3,c4,c5⟩:=HR2.out.cells
   have f2:=HR2.out.frz 2
   have qT:(q:Int)< (E.to:Int):=by omega
   have q0:(0:Int)<=(q:Int):=by omega
   subst hv
   clear h2 hg2 hqE
   go_wp2_with fail
   have HALL:Hid (∀w3,Below w2.heap.size w2 w3->Txs (w3.alloc (.cells #[.string X] 9)) W.heap.size (.slice a I.length c) I/\(w3.alloc (.cells #[.string X] 9)).cell? ⟨w3.heap.size,0,none⟩=some (.string X)/\W.heap.size<=(w3.alloc (.cells #[.string X] 9)).heap.size/\RdM (w3.alloc (.cells #[.string X] 9)) g s E (.slice (some ⟨b,o,none⟩) E.to cap) td np q (E.pk i)/\W.grownBy (w3.alloc (.cells #[.string X] 9)) (some g)):=zh (fun w3 hb=>by
    have hb4:Below w2.heap.size w2 (w3.alloc (.cells #[.string X] 9)):=hb.alloc hb.size _
    have hg4:=qa9 HG2.out (qau (some g) hb4)
    refine⟨HT2.out.bel hb4,?_,hg4.size,HR2.out.below hb4,hg4⟩
    rw[cell_of_row _ _ _ #[.string X] 9 (0,0) (by show(w3.heap.push _)[w3.heap.size]?=_;rw[Array.getElem?_push,if_pos rfl])]
    rfl)
   have HOV:Hid (∀w3 v4 w4,RdM w3 g s E (.slice (some ⟨b,o,none⟩) E.to cap) td np q (E.pk i)->W.grownBy w3 (some g)->Txs w3 W.heap.size (.slice a I.length c) I->Txs w4 W.heap.size v4 (I++[X])->w3.grownBy w4 (Value.slice a I.length c).ownBlock->RdM w4 g s E (.slice (some ⟨b,o,none⟩) E.to cap) td np q (E.pk i)/\W.grownBy w4 (some g)):=zh (fun w3 v4 w4 h1 h2 h3 h4 h5=>h1.over h5 (fun k e=>(qt4 h3 e).1) HGL.out HTV.out h2 (zA _))
   go_region_law (first | (go_simp;go_at_call 139;refine(HCL.out _).mono ?_;rintro e w3 ⟨rfl,hb3⟩;have HX3:=zh (HALL.out w3 ((Below.drew (Below.refl _ w2)).trans (hb3.mono (zA _))));clear hb3) | (refine qhh rfl _ _ rfl W.heap.size _ I rfl HX3.out.1 _ X rfl HX3.out.2.1 HIL.out HX3.out.2.2.1 ?_;intro v4 w4 h1 h2;obtain⟨a4,c4,rfl⟩:=qbj h1;have HR4:=zh (⟨h1,HOV.out _ _ w4 HX3.out.2.2.2.1 HX3.out.2.2.2.2 HX3.out.1 h1 h2⟩:Txs w4 W.heap.size (.slice a4 (I++[X]).length c4) (I++[X])/\RdM w4 g s E (.slice (some ⟨b,o,none⟩) E.to cap) td np q (E.pk i)/\W.grownBy w4 (some g));have e2:w4.cell? ⟨g,2,none⟩=some (.int .i64 (q:Int)):=HR4.out.2.1.cells.2.2.1;have ef:w4.frozen? ⟨g,2,none⟩=false:=HR4.out.2.1.frz 2;clear h1 h2))
   all_goals go_wp2_with fail
   all_goals go_step3
   all_goals simp only[Exit.then]
   all_goals have e1:((q+1:Nat):Int)=(q:Int)+1:=by omega
   all_goals have HSI:=HR4.out.2.1.setI (i':=q+1) (by omega) (by have:=HLT.out;have:=HPK.out;omega)
   all_goals rw[e1]at HSI
   all_goals refine⟨rfl,E.to- (q+1),by have:=HLT.out;have:=HPK.out;omega,q+1,E.pk i,I++[X],a4,c4,_,by simp,rfl,zh ⟨by have:=HQ1.out;omega,HLT.out⟩,zh HSI.1,zh (qa9 HR4.out.2.2 HSI.2),zh (qw5 HR4.out.1 HGL.out),zh (by rw[List.append_assoc,List.singleton_append,<-HX1.out];exact HC.out),_,_,_,_,_,_,_,_,_,_,_,_,_,_,_,_,_,_,_,_,_,_,_,_,_,_,_,rfl⟩
  ·have hb:(E.pk i==q)=true:=by rw[beq_iff_eq];have:=HQ1.out;omega
   rw[hb]at HNR
   have HE:Hid (E.pk i=q):=zh (beq_iff_eq.1 hb)
   clear hlt hb hpk
   go_wp2_with fail
   refine HNR.out.mono ?_
   rintro e w2 ⟨rfl,h2,hg2⟩
   have HR2:=zh h2
   have HG2:=zh (qa9 HG.out hg2)
   have HT2:Hid (Txs w2 W.heap.size (.slice a I.length c) I):=zh (qi7 HTX.out hg2 HGL.out)
   clear h2 hg2
   go_wp2_with fail
   rw[qgn]
   go_ret
   refine⟨_,rfl,?_,?_,HG2.out⟩
   ·rw[HNT.out]
    have h1:=HC.out
    rw[HE.out,Nat.sub_self]at h1
    simp only[cms,List.append_nil]at h1
    rw[HE.out]
    show StIn _ _ _ (cms E (q-i) i)
    rw[<-h1]
    exact txs_in HT2.out
   ·rw[HNT.out]
    exact⟨_,by rw[HE.out];exact HR2.out⟩
 ·intro hp
  go_wp2_with fail
  go_step3
  rename_i hK
  refine hK _ _ (hp _ _ _ ⟨i,past,[],none,0,_,rfl,rfl,zh ⟨zA _,HPK.out.1⟩,H0,zh (ql1 _ _),zh (qei _ _),zh rfl,_,_,_,_,_,_,_,_,_,_,_,_,_,_,_,_,_,_,_,_,_,_,_,_,_,_,_,rfl⟩)
end
end Go.Proofs.YtdhadeeajgoedaaGreat
