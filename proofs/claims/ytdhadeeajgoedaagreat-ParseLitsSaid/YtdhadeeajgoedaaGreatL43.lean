import Derived.Test.YtdhadeeajgoedaaGreatL42
set_option maxRecDepth 100000
set_option maxHeartbeats 4000000
set_option linter.all false
open List renaming length_reverse→zA
open Nat renaming le_refl→zB,mul_one→zC
namespace Go.Proofs.YtdhadeeajgoedaaGreat
open Go.RowKit Go.PlainAid
theorem qy0{a':Act}{p:Value}(h:a'.tmps.size=30/\a'.tmps[0]?=some p/\a'.defers=[]): ∃us:Nat->Value,a'= { tmps:= #[p,us 1,us 2,us 3,us 4,us 5,us 6,us 7,us 8,us 9,us 10,us 11,us 12,us 13,us 14,us 15,us 16,us 17,us 18,us 19,us 20,us 21,us 22,us 23,us 24,us 25,us 26,us 27,us 28,us 29],defers:=[] } :=by
 obtain⟨⟨l⟩,d⟩:=a'
 obtain⟨h1,h2,h3⟩:=h
 replace h1:l.length=30:=h1
 replace h3:d=[]:=h3
 subst h3
 have e:=qkb l
 rw[h1]at e
 refine⟨fun i=>l.getD i undef,?_⟩
 have h4:l[0]?=some p:=by simpa using h2
 have h5:l.getD 0 undef=p:=by rw[List.getD_eq_getElem?_getD,h4];rfl
 rw[<-h5]
 show({ tmps:=⟨l⟩,defers:=[] } :Act)= { tmps:=⟨(List.range 30).map (fun i=>l.getD i undef)⟩,defers:=[] }
 rw[<-e]
def runJ(W0:World)(g:Nat)(s:ByteArray)(E:Env)(tv:Value)(W:World)(L:PLay)(nN nC:Nat)(R:Rs PM)(n:Nat)(a':Act)(w':World):Prop:=
 ∃(τ:PM) (M:PLay) (B:Nat),Hid (MM W0 g s E tv w' M τ)/\Hid (MX W0.heap.size W L nN nC w' M τ.N.length τ.C.length)/\Hid (qet E n τ=R)/\Hid (Bd E B τ/\2<=B/\B+n<=1000000000000)/\Hid (pot E τ<=274877906944)/\
  Hid (a'.tmps.size=30/\a'.tmps[0]?=some (.pointer (some ⟨g,0,none⟩))/\a'.defers=[])
section
variable{W0 W:World}{g:Nat}{s:ByteArray}{E:Env}{tv:Value}{L:PLay}{σ:PM}
theorem MM.todo0(h:MM W0 g s E tv W L σ)(hk:σ.k=[]): ∃a c,W.cell? ⟨g,4,none⟩=some (.slice a 0 c):=by
 obtain⟨td,np,past,r1,⟨us,u1,u2,u3⟩,r3⟩:=h.rd
 rw[hk]at u1 u2
 obtain⟨-,⟨rfl,-⟩ | ⟨b,cap,cur,rfl,-⟩⟩:=u2
 ·exact⟨_,_,r1.cells.2.2.2.2.1⟩
 ·exact⟨_,_,r1.cells.2.2.2.2.1⟩
theorem MM.pop(h:MM W0 g s E tv W L σ){st:Stp}{r:List Stp}(hk:σ.k=st::r): ∃b cap K fF fC,W.cell? ⟨g,4,none⟩=some (.slice (some ⟨b,0,none⟩) (r.length+1) cap)/\(∀j,W.frozen? ⟨g,j,none⟩=false)/\r.length+1<=cap/\W.cell? ⟨b,r.length,none⟩=some (.func (.func K) fF fC)/\IsC W (L.P W0.heap.size) g L.A L.B σ.N.length σ.C.length (.func (.func K) fF fC) st/\
 MM W0 g s E tv (W.setCell ⟨g,4,none⟩ (.slice (some ⟨b,0,none⟩) r.length cap)) L { σ with k:=r } /\MX W0.heap.size W L σ.N.length σ.C.length (W.setCell ⟨g,4,none⟩ (.slice (some ⟨b,0,none⟩) r.length cap)) L σ.N.length σ.C.length:=by
 obtain⟨td,np,past,r1,⟨us,u1,u2,u3⟩,r3⟩:=h.rd
 rw[hk]at u1 u2
 match us,u1,u2 with
 | v::vs,⟨c1,c2⟩,u2=>
  obtain⟨K,fF,fC,rfl⟩:=c1.fn
  obtain⟨q1,⟨-,q2⟩ | ⟨b,cap,cur,rfl,q2,q3,q4,q5,q6,q7⟩⟩:=u2
  ·simp at q2
  have hvl:vs.length=r.length:=c2.len
  rw[List.reverse_cons,zC]at q7
  rw[List.length_cons]at q4
  have q8:cur.toList.take (r.length+1)=vs.reverse++[.func (.func K) fF fC]:=q7
  have hbt:L.own b=.td:=u3 b rfl
  have hbg:b≠g:=fun e=>by rw[e,h.og]at hbt;cases hbt
  have hcell:W.cell? ⟨b,r.length,none⟩=some (.func (.func K) fF fC):=by
   rw[cell_of_row W _ _ _ _ _ q3,<-Array.getElem?_toList]
   have h9:(cur.toList.take (r.length+1))[r.length]?=some (.func (.func K) fF fC):=by
    rw[q8,List.getElem?_append_right (by rw[zA];omega),zA,hvl,Nat.sub_self];rfl
   rw[List.getElem?_take_of_lt (Nat.lt_succ_self _)]at h9
   exact h9
  have hg:=qb1 W g 4 (.slice (some ⟨b,0,none⟩) r.length cap)
  have hcr:=h.carry (W':=W.setCell ⟨g,4,none⟩ (.slice (some ⟨b,0,none⟩) r.length cap)) (L':=L) (· =.rd) (by simp) hg.size hg.os hg.tape hg.output (fun q hq hd=>hg.block q hq (fun e=>hd (by rw[Option.some.inj e];exact h.og))) (fun _ _ _=>rfl) (fun _ _=>rfl) (fun _ _=>rfl)
  refine⟨b,cap,K,fF,fC,r1.cells.2.2.2.2.1,r1.frz,q4,hcell,c1,⟨hcr.bel,fun q hq=>⟨(h.own q hq).1,Nat.lt_of_lt_of_le (h.own q hq).2 hg.size⟩,h.og,h.tvb,⟨_,np,past,(r1.setT (.slice (some ⟨b,0,none⟩) r.length cap)).1,⟨vs,c2.mono (fun v s hv=>hv.keep hcr.kp hcr.fz (fun _ _=>rfl) (fun _ _=>rfl) (zB _) (zB _)),?_,u3⟩,r3⟩,fun n x hx=>hcr.nds n x hx (by simp) (by simp),fun c x hx=>hcr.chs c x hx (by simp) (by simp) (by simp),h.lfb,h.nb⟩,hcr.mx _ _ (zB _) (zB _)⟩
  refine⟨by rw[zA,zC];exact hvl,.inr ⟨b,cap,cur,rfl,q2,(hg.block _ (lt_of_block q3) (fun e=>hbg (Option.some.inj e))).trans q3,by show r.length<=cap;omega,q5,q6,?_⟩⟩
  show cur.toList.take (r.length*1)=vs.reverse
  rw[zC]
  have h9:(cur.toList.take (r.length+1)).take r.length=vs.reverse:=by
   rw[q8,List.take_append_of_le_length (by rw[zA];omega),List.take_of_length_le (by rw[zA];omega)]
  rw[List.take_take,Nat.min_eq_left (Nat.le_succ _)]at h9
  exact h9
theorem Bd.tl{B:Nat}{τ:PM}{st:Stp}{r:List Stp}(h:Bd E B τ)(hk:τ.k=st::r):Bd E B { τ with k:=r } /\okS st:=⟨⟨fun s hs=>h.ok s (by rw[hk];exact List.mem_cons_of_mem _ hs),h.i,h.N,h.C⟩,h.ok st (by rw[hk];exact List.mem_cons_self ..)⟩
theorem runM(h:MM W0 g s E tv W L σ)(n B:Nat)(hb:Bd E B σ)(hB:2<=B)(hn:B+n<=1000000000000)(hp:pot E σ<=274877906944)(hns:qet E n σ≠ .error .stuck):
 Calls Tryz.prog 62 #[.pointer (some ⟨g,0,none⟩)] W (SO (qet E n σ) W0 g s E tv W L σ.N.length σ.C.length):=by
 obtain⟨R,hR⟩: ∃R:Rs PM,R=qet E n σ:=⟨_,rfl⟩
 rw[<-hR]at hns⊢
 have HNS:=zh hns
 have HZ:Hid (∀k,(E.tk k).2.1.size<=1048576):=zh (by obtain⟨td,np,past,r1,-⟩:=h.rd;exact r1.sz)
 have HI:Hid (runJ W0 g s E tv W L σ.N.length σ.C.length R n { tmps:= #[.pointer (some ⟨g,0,none⟩),undef,undef,undef,undef,undef,undef,undef,undef,undef,undef,undef,undef,undef,undef,undef,undef,undef,undef,undef,undef,undef,undef,undef,undef,undef,undef,undef,undef,undef],defers:=[] } W):=zh ⟨σ,L,B,zh h,zh (MX.refl _ _ _ _ _),zh hR.symm,zh ⟨hb,hB,hn⟩,zh hp,zh ⟨rfl,rfl,rfl⟩⟩
 clear h hb hB hn hp hns hR
 go_enter Tryz.func62,Tryz.ntmps62
 go_wp2_with fail
 refine qd5 (runJ W0 g s E tv W L σ.N.length σ.C.length R) rfl ?_ ?_
 ·rintro n a' w' ⟨τ,M,B,H0,X0,HM,HB,HP,HF⟩
  obtain⟨us,rfl⟩:=qy0 HF.out
  clear HF
  rcases n with _ | n
  ·exact absurd HM.out.symm HNS.out
  cases hk:τ.k with
  | nil=>
   have e9:R=.ok τ:=by rw[<-HM.out];show(match τ.k with | []=>_ | s::r=>_)=_;rw[hk]
   subst e9
   obtain⟨ta,tc,g4⟩:=H0.out.todo0 hk
   clear hk
   go_wp2_with fail
   rw[qcv]
   go_end0
   exact⟨rfl,M,H0.out,X0.out⟩
  | cons st r=>
   obtain⟨b,cap,K,fF,fC,g4,gf,hcap,gv,hv,hm,hx⟩:=H0.out.pop hk
   have gf4:=gf 4
   have HV:=zh hv
   have H1:=zh hm
   have Y1:=zh hx
   have hen:=hv.enter
   have HS:Hid (R=(stp E st { τ with k:=r } >>= qet E n)):=zh (by rw[<-HM.out];show(match τ.k with | []=>_ | s::r=>_)=_;rw[hk])
   have HK:=zh hk
   have hi0:(0:Int)<=(r.length:Int):=by omega
   have hi1:(r.length:Int)< (r.length:Int)+1:=by omega
   have hi2:(r.length:Int)<=(cap:Int):=by omega
   have hlen:r.length<=274877906944:=by
    have h1:=qpx τ.k
    have h2:=HP.out
    unfold pot at h2
    rw[hk]at h1 h2
    rw[List.length_cons]at h1
    omega
   have HLEN:=zh hlen
   have hw:wrap64 (r.length:Int)=(r.length:Int):=by have:=IntKind.wrap_i64 (r.length:Int);unfold wrap64;omega
   have hw2:((r.length:Int)).toNat=r.length:=rfl
   clear hlen
   clear hv hm hx gf hk hcap
   go_wp2_with fail
   have hB:=HB.out
   have hns:stp E st { τ with k:=r } ≠ .error .stuck:=fun e=>HNS.out (by rw[HS.out,e];rfl)
   have hbd:=hB.1.tl HK.out
   refine(qtn (σ:= { τ with k:=r }) H1.out HLEN.out hbd.1 (by omega) (Y1.out.isc HV.out) hbd.2 hns).mono ?_
   clear hB hns hbd
   intro e w9 h9
   cases hres:stp E st { τ with k:=r } with
   | error b=>
    cases b with
    | stuck=>exact absurd (by rw[HS.out,hres];rfl) HNS.out
    | die=>
     rw[hres]at h9
     obtain⟨⟨u,pv,rfl⟩,hb⟩:=h9
     have HB9:=zh hb
     obtain rfl:R=.error .die:=by rw[HS.out,hres];rfl
     clear hb hres
     go_wp2_with fail
     exact⟨rfl,⟨_,_,rfl⟩,HB9.out⟩
   | ok τ'=>
    rw[hres]at h9
    obtain⟨rfl,M9,hm,hx⟩:=h9
    have h7:=qxb (i:=τ.i) (K:=r) (u:=τ.n) (N:=τ.N) (C:=τ.C) HZ.out HB.out.2.1 (by rw[<-HK.out];exact HB.out.1) hres
    rw[<-HK.out]at h7
    have H7:=zh h7
    have H9:=zh hm
    have X9:=zh (X0.out.trans (Y1.out.trans hx))
    have HM9:=zh (show qet E n τ'=R by rw[HS.out,hres];rfl)
    clear hm hx hres h7
    go_wp2_with fail
    go_step3
    try simp only[Exit.then]
    show qdf _ _ _ _ _
    rw[qdb]
    exact⟨rfl,n,Nat.lt_succ_self _,τ',M9,B+1,H9,X9,HM9,zh ⟨H7.out.1,by have:=HB.out.2.1;omega,by have:=HB.out.2.2;omega⟩,zh (by have h1:=H7.out.2;have h2:=HP.out;exact Nat.le_trans (Nat.le_of_lt h1) h2),zh ⟨rfl,rfl,rfl⟩⟩
 ·intro hp
  go_wp2_with fail
  go_step3
  rename_i hK
  exact hK _ _ (hp _ _ _ HI.out)
end
end Go.Proofs.YtdhadeeajgoedaaGreat
