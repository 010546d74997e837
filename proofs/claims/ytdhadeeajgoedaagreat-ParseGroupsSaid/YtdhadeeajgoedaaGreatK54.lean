/-
  What the claims stand on: ParseWhole, ParseOpl, ParseGroupsF.
-/
import Derived.Test.YtdhadeeajgoedaaGreatK06
import Derived.Test.YtdhadeeajgoedaaGreatK53
set_option maxRecDepth 100000
set_option maxHeartbeats 4000000
set_option linter.unusedVariables false
set_option linter.unusedSimpArgs false
namespace Go.Proofs.YtdhadeeajgoedaaGreat
open Go.RowKit Go.PlainAid
def whP(s:ByteArray):Nd×Int:=
 let r:=qch s
 if r.2≠0 then(zN,r.2)else match pE s r.1 (.expr 0) 0 r.1.length with
  | none=>(zN,8)
  | some o=>if o.p.i=r.1.length then(o.x,0)else(zN,8)
def whF(s:ByteArray):Nd×Int:=
 let r:=qgd s
 if r.2≠0 then(zN,r.2)else match pE s r.1 (.expr 0) 0 r.1.length with
  | none=>(zN,8)
  | some o=>if o.p.i=r.1.length then(o.x,0)else(zN,8)
theorem whP_F(s:ByteArray):whP s=whF s:=by unfold whP whF;rw[qha]
theorem qg1(W:World)(P:Nat->Prop):NdIn W P [.int .i64 0,.string ⟨#[]⟩,.slice none 0 0,.bool false,.bool false,.slice none 0 0,.slice none 0 0] zN:=
 .mk 0 ⟨#[]⟩ [] false false [] [] _ _ _ (fun _=>[]) ⟨none,0,rfl,fun h=>by simp at h⟩ ⟨none,0,rfl,fun h=>by simp at h⟩ ⟨none,0,rfl,fun h=>by simp at h⟩ (fun i x h=>by simp at h)
def WhA(r:Nd×Int)(W:World)(e:Ending)(W':World):Prop:=Below W.heap.size W W'/\ ∃c,e=.returned (.tuple #[.agg c,.int .i64 r.2])/\NdIn W' (fun q=>W.heap.size<=q) c.toList r.1
theorem qgi(s:ByteArray)(hs:s.size<=1048576)(w:World):Calls Tryz.prog 27 #[.string s] w (WhA (whP s) w):=by
 obtain⟨L,c,hR⟩: ∃L c,qch s=(L,c):=⟨_,_,rfl⟩
 have HS:=zh (fun W=>qgb s L c hR hs W)
 have HWA:Hid (Below w.heap.size w (w.alloc (.cells #[.int .i64 0,.string ⟨#[]⟩,.slice none 0 0,.bool false,.bool false,.slice none 0 0,.slice none 0 0] 29))):=zh (qa1 _ _)
 have HRA:Hid (NdB (w.alloc (.cells #[.int .i64 0,.string ⟨#[]⟩,.slice none 0 0,.bool false,.bool false,.slice none 0 0,.slice none 0 0] 29)) w.heap.size 0 ⟨#[]⟩ (.slice none 0 0) false false (.slice none 0 0) (.slice none 0 0)):=zh (qa8 w _)
 by_cases hc:c=0
 ·subst hc
  have h3:=qg9 (qdi hR).2.2
  have hl:L.length<=1048576:=by
   have:=qsd s
   rw[hR]at this
   have h4:L.length<=s.size:=this
   omega
  have HE:=zh (fun v W h=>qdg h3 hs hl v 0 L.length 0 W h)
  have HL:=zh hl
  have hW:whP s=match pE s L (.expr 0) 0 L.length with
   | none=>(zN,8)
   | some o=>if o.p.i=L.length then(o.x,0)else(zN,8):=by unfold whP;rw[hR];exact if_neg (by simp)
  generalize pE s L (.expr 0) 0 L.length=R at HE hW
  have HW:=zh hW
  clear hR h3 hl hs hW
  obtain⟨n,hn⟩: ∃n,n=L.length:=⟨_,rfl⟩
  rw[<-hn]at HE HL
  have HN:=zh hn
  clear hn
  go_enter Tryz.func27,Tryz.ntmps27
  go_wp2_with fail
  refine(HS.out _).mono ?_
  rintro e w1 ⟨v1,rfl,ha1,hb1⟩
  have A1:=zh ha1
  have RB:Hid (NdB w1 w.heap.size 0 ⟨#[]⟩ (.slice none 0 0) false false (.slice none 0 0) (.slice none 0 0)/\w.heap.size<w1.heap.size):=zh ⟨(hb1.block w.heap.size (by simp)).trans HRA.out,by have:=hb1.size;simp at this;omega⟩
  have B1:Hid (Below w.heap.size w w1):=zh (HWA.out.trans (hb1.mono (by simp)))
  clear ha1 hb1 HS
  obtain⟨la,lc,rfl,-⟩:=A1.out.row
  rw[show(toks s L).length=n by rw[qbb];exact HN.out.symm]at*
  go_wp2_with fail
  refine(HE.out _ _ A1.out).mono ?_
  rintro e w2 ⟨hb2,he⟩
  have B2:Hid (Below w.heap.size w w2):=zh (B1.out.trans (hb2.mono B1.out.size))
  have R2:Hid (w.heap.size<=w1.heap.size/\w.heap.size<w2.heap.size):=zh ⟨B1.out.size,by have:=hb2.size;have:=RB.out.2;omega⟩
  have RW:Hid (w.heap.size<w1.heap.size):=zh RB.out.2
  have RB:Hid (NdB w2 w.heap.size 0 ⟨#[]⟩ (.slice none 0 0) false false (.slice none 0 0) (.slice none 0 0)):=zh ((hb2.block w.heap.size RB.out.2).trans RB.out.1)
  clear hb2 HE A1
  cases R with
  | none=>
   obtain rfl:=he
   have HW1:Hid (whP s=(zN,8)):=zh HW.out
   unfold qme
   have NB:NdB (w2.alloc (.cells #[.int .i64 0,.string ⟨#[]⟩,.slice none 0 0,.bool false,.bool false,.slice none 0 0,.slice none 0 0] 29)) w.heap.size 0 ⟨#[]⟩ (.slice none 0 0) false false (.slice none 0 0) (.slice none 0 0):=((qa1 w2 _).block w.heap.size R2.out.2).trans RB.out
   obtain⟨m0,m1,m2,m3,m4,m5,m6⟩:=NB.cells
   have f0:=NB.frz 0
   have f1:=NB.frz 1
   have f2:=NB.frz 2
   have f3:=NB.frz 3
   have f4:=NB.frz 4
   have f5:=NB.frz 5
   have f6:=NB.frz 6
   have HNB:=zh NB
   clear NB
   go_wp2_with fail
   have hres:=res7 w.heap.size (w:=(w2.alloc (.cells #[.int .i64 0,.string ⟨#[]⟩,.slice none 0 0,.bool false,.bool false,.slice none 0 0,.slice none 0 0] 29))) (k:=0) (t:=⟨#[]⟩) (lv:=.slice none 0 0) (br:=false) (bl:=false) (nv:=.slice none 0 0) (tv:=.slice none 0 0) HNB.out
   generalize((((((((w2.alloc (.cells #[.int .i64 0,.string ⟨#[]⟩,.slice none 0 0,.bool false,.bool false,.slice none 0 0,.slice none 0 0] 29)).setCell ⟨w.heap.size,0,none⟩ (.int .i64 0)).setCell ⟨w.heap.size,1,none⟩ (.string ⟨#[]⟩)).setCell ⟨w.heap.size,2,none⟩ (.slice none 0 0)).setCell ⟨w.heap.size,3,none⟩ (.bool false)).setCell ⟨w.heap.size,4,none⟩ (.bool false)).setCell ⟨w.heap.size,5,none⟩ (.slice none 0 0)).setCell ⟨w.heap.size,6,none⟩ (.slice none 0 0))=wf at hres⊢
   clear m0 m1 m2 m3 m4 m5 m6 f0 f1 f2 f3 f4 f5 f6
   obtain⟨k1,k2,k3⟩:=hres
   obtain⟨m0,m1,m2,m3,m4,m5,m6⟩:=k1.cells
   refine bodyPost_ret (v:=.tuple #[.agg #[.int .i64 0,.string ⟨#[]⟩,.slice none 0 0,.bool false,.bool false,.slice none 0 0,.slice none 0 0],.int .i64 8]) (by simp[results,Tryz.results27,go_sem,m0,m1,m2,m3,m4,m5,m6]) rfl ⟨(B2.out.alloc B2.out.size _).trans k2,_,by rw[HW1.out],by rw[HW1.out];exact qg1 _ _⟩
  | some o=>
   obtain⟨cc,rfl,hnd⟩:=he
   have hW:whP s=if o.p.i=L.length then(o.x,0)else(zN,8):=HW.out
   obtain⟨ka,kc,na,nc,va,vc,rfl,-,-,-⟩:=qdf hnd
   have HND:=zh hnd
   clear hnd
   have NB:NdB (w2.alloc (.cells #[.int .i64 o.x.kd,.string o.x.tx,.slice ka o.x.ls.length kc,.bool o.x.bk,.bool o.x.bw,.slice na o.x.nof.length nc,.slice va o.x.tl'.length vc] 29)) w.heap.size 0 ⟨#[]⟩ (.slice none 0 0) false false (.slice none 0 0) (.slice none 0 0):=((qa1 w2 _).block w.heap.size R2.out.2).trans RB.out
   obtain⟨m0,m1,m2,m3,m4,m5,m6⟩:=NB.cells
   have f0:=NB.frz 0
   have f1:=NB.frz 1
   have f2:=NB.frz 2
   have f3:=NB.frz 3
   have f4:=NB.frz 4
   have f5:=NB.frz 5
   have f6:=NB.frz 6
   have HNB:=zh NB
   clear NB
   by_cases ho:o.p.i=n
   ·rw[if_pos (by rw[ho];exact HN.out)]at hW
    have HW1:=zh hW
    clear hW
    have ho':(o.p.i:Int)=(n:Int):=by omega
    go_wp2_with fail
    have hres:=res7 w.heap.size (w:=(w2.alloc (.cells #[.int .i64 o.x.kd,.string o.x.tx,.slice ka o.x.ls.length kc,.bool o.x.bk,.bool o.x.bw,.slice na o.x.nof.length nc,.slice va o.x.tl'.length vc] 29))) (k:=o.x.kd) (t:=o.x.tx) (lv:=.slice ka o.x.ls.length kc) (br:=o.x.bk) (bl:=o.x.bw) (nv:=.slice na o.x.nof.length nc) (tv:=.slice va o.x.tl'.length vc) HNB.out
    generalize((((((((w2.alloc (.cells #[.int .i64 o.x.kd,.string o.x.tx,.slice ka o.x.ls.length kc,.bool o.x.bk,.bool o.x.bw,.slice na o.x.nof.length nc,.slice va o.x.tl'.length vc] 29)).setCell ⟨w.heap.size,0,none⟩ (.int .i64 o.x.kd)).setCell ⟨w.heap.size,1,none⟩ (.string o.x.tx)).setCell ⟨w.heap.size,2,none⟩ (.slice ka o.x.ls.length kc)).setCell ⟨w.heap.size,3,none⟩ (.bool o.x.bk)).setCell ⟨w.heap.size,4,none⟩ (.bool o.x.bw)).setCell ⟨w.heap.size,5,none⟩ (.slice na o.x.nof.length nc)).setCell ⟨w.heap.size,6,none⟩ (.slice va o.x.tl'.length vc))=wf at hres⊢
    clear m0 m1 m2 m3 m4 m5 m6 f0 f1 f2 f3 f4 f5 f6
    obtain⟨k1,k2,k3⟩:=hres
    obtain⟨m0,m1,m2,m3,m4,m5,m6⟩:=k1.cells
    refine bodyPost_ret (v:=.tuple #[.agg #[.int .i64 o.x.kd,.string o.x.tx,.slice ka o.x.ls.length kc,.bool o.x.bk,.bool o.x.bw,.slice na o.x.nof.length nc,.slice va o.x.tl'.length vc],.int .i64 0]) (by simp[results,Tryz.results27,go_sem,m0,m1,m2,m3,m4,m5,m6]) rfl ⟨(B2.out.alloc B2.out.size _).trans k2,_,by rw[HW1.out],by rw[HW1.out];exact((HND.out.keep (W':=(w2.alloc (.cells #[.int .i64 o.x.kd,.string o.x.tx,.slice ka o.x.ls.length kc,.bool o.x.bk,.bool o.x.bw,.slice na o.x.nof.length nc,.slice va o.x.tl'.length vc] 29))) ⟨by simp,fun q _ hl=>(qa1 w2 _).block q hl⟩).keep (W':=wf) ⟨k2.size,fun q hq hl=>k3 q (by have:=RW.out;omega)⟩).weak (fun q hq _=>by have:=R2.out;omega)⟩
   ·rw[if_neg (by rw[<-HN.out];exact ho)]at hW
    have HW1:=zh hW
    clear hW
    have ho': ¬(o.p.i:Int)=(n:Int):=by omega
    go_wp2_with fail
    have hres:=res7 w.heap.size (w:=(w2.alloc (.cells #[.int .i64 o.x.kd,.string o.x.tx,.slice ka o.x.ls.length kc,.bool o.x.bk,.bool o.x.bw,.slice na o.x.nof.length nc,.slice va o.x.tl'.length vc] 29))) (k:=0) (t:=⟨#[]⟩) (lv:=.slice none 0 0) (br:=false) (bl:=false) (nv:=.slice none 0 0) (tv:=.slice none 0 0) HNB.out
    generalize((((((((w2.alloc (.cells #[.int .i64 o.x.kd,.string o.x.tx,.slice ka o.x.ls.length kc,.bool o.x.bk,.bool o.x.bw,.slice na o.x.nof.length nc,.slice va o.x.tl'.length vc] 29)).setCell ⟨w.heap.size,0,none⟩ (.int .i64 0)).setCell ⟨w.heap.size,1,none⟩ (.string ⟨#[]⟩)).setCell ⟨w.heap.size,2,none⟩ (.slice none 0 0)).setCell ⟨w.heap.size,3,none⟩ (.bool false)).setCell ⟨w.heap.size,4,none⟩ (.bool false)).setCell ⟨w.heap.size,5,none⟩ (.slice none 0 0)).setCell ⟨w.heap.size,6,none⟩ (.slice none 0 0))=wf at hres⊢
    clear m0 m1 m2 m3 m4 m5 m6 f0 f1 f2 f3 f4 f5 f6
    obtain⟨k1,k2,k3⟩:=hres
    obtain⟨m0,m1,m2,m3,m4,m5,m6⟩:=k1.cells
    refine bodyPost_ret (v:=.tuple #[.agg #[.int .i64 0,.string ⟨#[]⟩,.slice none 0 0,.bool false,.bool false,.slice none 0 0,.slice none 0 0],.int .i64 8]) (by simp[results,Tryz.results27,go_sem,m0,m1,m2,m3,m4,m5,m6]) rfl ⟨(B2.out.alloc B2.out.size _).trans k2,_,by rw[HW1.out],by rw[HW1.out];exact qg1 _ _⟩
 ·have hW:whP s=(zN,c):=by unfold whP;rw[hR];exact if_pos hc
  have hc':=decide_eq_false hc
  have HW1:=zh hW
  clear hR hs hW
  go_enter Tryz.func27,Tryz.ntmps27
  go_wp2_with fail
  refine(HS.out _).mono ?_
  rintro e w1 ⟨v1,rfl,-,hb1⟩
  have RB:Hid (NdB w1 w.heap.size 0 ⟨#[]⟩ (.slice none 0 0) false false (.slice none 0 0) (.slice none 0 0)):=zh ((hb1.block w.heap.size (by simp)).trans HRA.out)
  have B1:Hid (Below w.heap.size w w1):=zh (HWA.out.trans (hb1.mono (by simp)))
  clear hb1 HS
  have NB:NdB w1 w.heap.size 0 ⟨#[]⟩ (.slice none 0 0) false false (.slice none 0 0) (.slice none 0 0):=(rfl).trans RB.out
  obtain⟨m0,m1,m2,m3,m4,m5,m6⟩:=NB.cells
  have f0:=NB.frz 0
  have f1:=NB.frz 1
  have f2:=NB.frz 2
  have f3:=NB.frz 3
  have f4:=NB.frz 4
  have f5:=NB.frz 5
  have f6:=NB.frz 6
  have HNB:=zh NB
  clear NB
  go_wp2_with fail
  have hres:=res7 w.heap.size (w:=w1) (k:=0) (t:=⟨#[]⟩) (lv:=.slice none 0 0) (br:=false) (bl:=false) (nv:=.slice none 0 0) (tv:=.slice none 0 0) HNB.out
  generalize(((((((w1.setCell ⟨w.heap.size,0,none⟩ (.int .i64 0)).setCell ⟨w.heap.size,1,none⟩ (.string ⟨#[]⟩)).setCell ⟨w.heap.size,2,none⟩ (.slice none 0 0)).setCell ⟨w.heap.size,3,none⟩ (.bool false)).setCell ⟨w.heap.size,4,none⟩ (.bool false)).setCell ⟨w.heap.size,5,none⟩ (.slice none 0 0)).setCell ⟨w.heap.size,6,none⟩ (.slice none 0 0))=wf at hres⊢
  clear m0 m1 m2 m3 m4 m5 m6 f0 f1 f2 f3 f4 f5 f6
  obtain⟨k1,k2,k3⟩:=hres
  obtain⟨m0,m1,m2,m3,m4,m5,m6⟩:=k1.cells
  refine bodyPost_ret (v:=.tuple #[.agg #[.int .i64 0,.string ⟨#[]⟩,.slice none 0 0,.bool false,.bool false,.slice none 0 0,.slice none 0 0],.int .i64 c]) (by simp[results,Tryz.results27,go_sem,m0,m1,m2,m3,m4,m5,m6]) rfl ⟨(B1.out).trans k2,_,by rw[HW1.out],by rw[HW1.out];exact qg1 _ _⟩
def opl13:List (List UInt8):=[[58,58],[124],[61],[33],[111,114,101,108,115,101],[97,110,100,97,108,115,111],[61,61],[47,61],[61,60],[60],[62,61],[62],[61,58,61],[61,47,61],[43,43],[45,45],[43],[45],[98,111,114],[98,120,111,114],[98,115,108],[98,115,114],[111,114],[120,111,114],[42],[47],[100,105,118],[114,101,109],[98,97,110,100],[97,110,100]]
theorem qep(w:World)(t:TypeId)(cs:Array Value)(k:Nat)(hk:k<30)(h:cs=(opl13.map fun l=>Value.string ⟨l.toArray⟩).toArray):(w.alloc (.cells cs t)).cell? ⟨w.heap.size,k,none⟩=some (.string ⟨(opl13.getD k []).toArray⟩):=by
 rw[World.cell?_alloc_new,h,List.getElem?_toArray,List.getElem?_map]
 have:opl13[k]?=some (opl13.getD k []):=by
  rw[List.getD,List.getElem?_eq_getElem (by exact hk)];rfl
 rw[this];rfl
theorem qfa(x:Int)(n:Nat)(hn:0<n)(_:n<=1000): ∃r:Nat,r<n/\(IntKind.u64.wrap x).tmod (n:Int)=(r:Int):=by
 have:=IntKind.wrap_u64 x
 have h0:=Int.tmod_nonneg (a:=IntKind.u64.wrap x) (n:Int) (by omega)
 have h1:=Int.tmod_lt_of_pos (IntKind.u64.wrap x) (b:=(n:Int)) (by omega)
 have h2:=Int.toNat_of_nonneg h0
 exact⟨((IntKind.u64.wrap x).tmod n).toNat,by omega,h2.symm⟩
theorem qeq: ∀k:Fin 30,(opl13.getD k.val []).length<=7:=by decide+kernel
end Go.Proofs.YtdhadeeajgoedaaGreat
namespace Go.Proofs.YtdhadeeajgoedaaGreat.parseGroups
open Go.RowKit Go.PlainAid
def op(k:Nat):ByteArray:=⟨(opl13.getD k []).toArray⟩
def grS(k t:Nat):ByteArray:=((({ data:= #[97,32] } ++op k)++ { data:= #[32,98,32] })++op t)++ { data:= #[32,99] }
def same(a b:ByteArray):Bool:=a.data.toList==b.data.toList
theorem qex{a b:ByteArray}(h:same a b=true):a=b:=by
 have h:=eq_of_beq h
 cases a;cases b
 congr 1
 exact Array.toList_inj.1 h
def grK(k t:Nat):Nat:=let p:=bn (opl13.getD k []);let q:=bn (opl13.getD t []);let s:=sd (opl13.getD k [])
 if p=q/\s=3 then 1 else if p<q\/q=p/\s=2 then 2 else 3
def grC(k t:Nat):Bool:=let R:=whF (grS k t)
 if grK k t=1 then R.2==8 else R.2==0&&R.1.kd==14&&(match R.1.ls with
  | [y0,y1]=>if grK k t=2 then same R.1.tx (op k)&&y1.kd==14&&same y1.tx (op t)&&same y0.tx { data:= #[97] } else same R.1.tx (op t)&&y0.kd==14&&same y0.tx (op k)&&same y1.tx { data:= #[99] }
  | _=>false)
theorem gr_0: ∀t:Fin 30,grC 0 t.val=true:=by decide+kernel
theorem gr_1: ∀t:Fin 30,grC 1 t.val=true:=by decide+kernel
theorem gr_2: ∀t:Fin 30,grC 2 t.val=true:=by decide+kernel
theorem gr_3: ∀t:Fin 30,grC 3 t.val=true:=by decide+kernel
theorem gr_4: ∀t:Fin 30,grC 4 t.val=true:=by decide+kernel
theorem gr_5: ∀t:Fin 30,grC 5 t.val=true:=by decide+kernel
theorem gr_6: ∀t:Fin 30,grC 6 t.val=true:=by decide+kernel
theorem gr_7: ∀t:Fin 30,grC 7 t.val=true:=by decide+kernel
theorem gr_8: ∀t:Fin 30,grC 8 t.val=true:=by decide+kernel
theorem gr_9: ∀t:Fin 30,grC 9 t.val=true:=by decide+kernel
theorem gr_10: ∀t:Fin 30,grC 10 t.val=true:=by decide+kernel
theorem gr_11: ∀t:Fin 30,grC 11 t.val=true:=by decide+kernel
theorem gr_12: ∀t:Fin 30,grC 12 t.val=true:=by decide+kernel
theorem gr_13: ∀t:Fin 30,grC 13 t.val=true:=by decide+kernel
theorem gr_14: ∀t:Fin 30,grC 14 t.val=true:=by decide+kernel
theorem gr_15: ∀t:Fin 30,grC 15 t.val=true:=by decide+kernel
theorem gr_16: ∀t:Fin 30,grC 16 t.val=true:=by decide+kernel
theorem gr_17: ∀t:Fin 30,grC 17 t.val=true:=by decide+kernel
theorem gr_18: ∀t:Fin 30,grC 18 t.val=true:=by decide+kernel
theorem gr_19: ∀t:Fin 30,grC 19 t.val=true:=by decide+kernel
theorem gr_20: ∀t:Fin 30,grC 20 t.val=true:=by decide+kernel
theorem gr_21: ∀t:Fin 30,grC 21 t.val=true:=by decide+kernel
theorem gr_22: ∀t:Fin 30,grC 22 t.val=true:=by decide+kernel
theorem gr_23: ∀t:Fin 30,grC 23 t.val=true:=by decide+kernel
theorem gr_24: ∀t:Fin 30,grC 24 t.val=true:=by decide+kernel
theorem gr_25: ∀t:Fin 30,grC 25 t.val=true:=by decide+kernel
theorem gr_26: ∀t:Fin 30,grC 26 t.val=true:=by decide+kernel
theorem gr_27: ∀t:Fin 30,grC 27 t.val=true:=by decide+kernel
theorem gr_28: ∀t:Fin 30,grC 28 t.val=true:=by decide+kernel
theorem gr_29: ∀t:Fin 30,grC 29 t.val=true:=by decide+kernel
theorem gr_all(k:Fin 30)(t:Fin 30):grC k.val t.val=true:=match k with
 | ⟨0,_⟩=>gr_0 t
 | ⟨1,_⟩=>gr_1 t
 | ⟨2,_⟩=>gr_2 t
 | ⟨3,_⟩=>gr_3 t
 | ⟨4,_⟩=>gr_4 t
 | ⟨5,_⟩=>gr_5 t
 | ⟨6,_⟩=>gr_6 t
 | ⟨7,_⟩=>gr_7 t
 | ⟨8,_⟩=>gr_8 t
 | ⟨9,_⟩=>gr_9 t
 | ⟨10,_⟩=>gr_10 t
 | ⟨11,_⟩=>gr_11 t
 | ⟨12,_⟩=>gr_12 t
 | ⟨13,_⟩=>gr_13 t
 | ⟨14,_⟩=>gr_14 t
 | ⟨15,_⟩=>gr_15 t
 | ⟨16,_⟩=>gr_16 t
 | ⟨17,_⟩=>gr_17 t
 | ⟨18,_⟩=>gr_18 t
 | ⟨19,_⟩=>gr_19 t
 | ⟨20,_⟩=>gr_20 t
 | ⟨21,_⟩=>gr_21 t
 | ⟨22,_⟩=>gr_22 t
 | ⟨23,_⟩=>gr_23 t
 | ⟨24,_⟩=>gr_24 t
 | ⟨25,_⟩=>gr_25 t
 | ⟨26,_⟩=>gr_26 t
 | ⟨27,_⟩=>gr_27 t
 | ⟨28,_⟩=>gr_28 t
 | ⟨29,_⟩=>gr_29 t
 | ⟨n+30,h⟩=>absurd h (by omega)
end Go.Proofs.YtdhadeeajgoedaaGreat.parseGroups
