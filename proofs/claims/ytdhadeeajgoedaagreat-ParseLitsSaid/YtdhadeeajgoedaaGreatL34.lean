import Derived.Test.YtdhadeeajgoedaaGreatL32
import Derived.Laws.EntriesVeiled
set_option maxRecDepth 100000
set_option maxHeartbeats 4000000
set_option linter.all false
open Array renaming getElem?_push→zA
open List renaming getElem?_cons_succ→zB,getElem?_cons_zero→zC,getElem?_set_ne→zD,getElem?_set_self→zE,length_append→zF,length_set→zG
open Nat renaming le_refl→zH,le_succ→zI,le_trans→zJ,lt_of_lt_of_le→zK
namespace Go.Proofs.YtdhadeeajgoedaaGreat
open Go.RowKit Go.PlainAid
def alsB(W:World)(os:List Obj):World:=os.foldl World.alloc W
theorem qaj(W:World): ∀os:List Obj,Below W.heap.size W (alsB W os):=by
 intro os
 have h: ∀(os:List Obj) (w:World),Below W.heap.size W w->Below W.heap.size W (os.foldl World.alloc w):=by
  intro os
  induction os with
  | nil=>exact fun _ h=>h
  | cons o t ih=>exact fun w h=>ih _ (h.alloc h.size o)
 exact h os W (Below.refl _ _)
theorem qog(W:World)(o:Obj){k:Nat}(hk:k<W.heap.size):(W.alloc o).heap[k]?=W.heap[k]?:=(qa1 W o).block k hk
theorem qb5(W:World): ∀(os:List Obj) (i:Nat) (o:Obj),os[i]?=some o->(alsB W os).heap[W.heap.size+i]?=some o:=by
 intro os
 induction os generalizing W with
 | nil=>intro i o h;simp at h
 | cons a t ih=>
  intro i o h
  have hs:(W.alloc a).heap.size=W.heap.size+1:=by simp
  cases i with
  | zero=>
   simp only[zC,Option.some.injEq]at h
   subst h
   show(alsB (W.alloc a) t).heap[W.heap.size]?=some a
   rw[(qaj (W.alloc a) t).block _ (by rw[hs];omega)]
   show(W.heap.push _)[W.heap.size]?=_
   rw[zA,if_pos rfl]
  | succ i=>
   simp only[zB]at h
   have:=ih (W.alloc a) i o h
   rw[hs]at this
   rw[show W.heap.size+(i+1)=W.heap.size+1+i by omega]
   exact this
theorem qoh(W:World)(os:List Obj)(i k:Nat)(u:Value)(T:TypeId)(h:os[i]?=some (.cells #[u] T))(hk:k=W.heap.size+i):(alsB W os).cell? ⟨k,0,none⟩=some u:=by
 subst hk
 rw[cell_of_row _ _ _ _ _ _ (qb5 W os i _ h)];rfl
section
variable{W0 W:World}{g:Nat}{s:ByteArray}{E:Env}{tv:Value}{L:PLay}{σ:PM}
theorem MM.free(h:MM W0 g s E tv W L σ){k:Nat}(hk:W.heap.size<=k):L.P W0.heap.size k:=by
 refine⟨?_,zJ h.bel.size hk⟩
 by_cases e:L.own k=.fz
 ·exact e
 ·have:=(h.own k e).2;omega
theorem MM.boxN{W':World}(h:MM W0 g s E tv W L σ){k:Nat}{u:Value}{T:TypeId}(hk:W.heap.size<=k)(hb:W'.heap[k]?=some (.cells #[u] T (0,0))):BoxC W' (L.P W0.heap.size) (ptr k) u:=
 ⟨k,rfl,h.free hk,lt_of_block hb,by rw[cell_of_row _ _ _ _ _ _ hb];rfl⟩
theorem MM.boxA(h:MM W0 g s E tv W L σ)(os:List Obj)(i:Nat)(u:Value)(T:TypeId)(hi:os[i]?=some (.cells #[u] T)):BoxC (alsB W os) (L.P W0.heap.size) (ptr (W.heap.size+i)) u:=
 h.boxN (Nat.le_add_right _ _) (qb5 W os i _ hi)
def MkO(W0:World)(g:Nat)(W:World)(L:PLay)(nN nC:Nat)(st:Stp)(e:Ending)(W':World):Prop:=
 ∃v,e=.returned v/\IsC W' (L.P W0.heap.size) g L.A L.B nN nC v st/\Below W.heap.size W W'
theorem MM.isb{W':World}(_h:MM W0 g s E tv W L σ)(hb:Below W.heap.size W W'){v:Value}{st:Stp}(hv:IsC W (L.P W0.heap.size) g L.A L.B σ.N.length σ.C.length v st):IsC W' (L.P W0.heap.size) g L.A L.B σ.N.length σ.C.length v st:=
 hv.keep (qay hb) (fun _ a _=>a) (fun _ _=>rfl) (fun _ _=>rfl) (zH _) (zH _)
theorem qds(h:MM W0 g s E tv W L σ)(lv:Int):
 Calls Tryz.prog 37 #[ptr g,.int .i64 lv] W (MkO W0 g W L σ.N.length σ.C.length (.expr lv)):=by
 have HB:=zh (qaj W [.cells #[ptr g] 60,.cells #[.int .i64 lv] 3])
 have HX:=zh h
 clear h
 unfold ptr
 go_enter Tryz.func37,Tryz.ntmps37
 go_wp2
 go_ret
 exact⟨_,rfl,IsC.expr lv _ _ (HX.out.boxA [.cells #[ptr g] 60,.cells #[.int .i64 lv] 3] 0 _ _ rfl) (HX.out.boxA [.cells #[ptr g] 60,.cells #[.int .i64 lv] 3] 1 _ _ rfl),HB.out⟩
theorem qkm(h:MM W0 g s E tv W L σ)(t:Bs):
 Calls Tryz.prog 188 #[ptr g,.string ⟨t.toArray⟩] W (MkO W0 g W L σ.N.length σ.C.length (.want 9 t)):=by
 have HB:=zh (qaj W [.cells #[ptr g] 60,.cells #[.string ⟨t.toArray⟩] 9])
 have HX:=zh h
 clear h
 unfold ptr
 go_enter Tryz.func188,Tryz.ntmps188
 go_wp2
 go_ret
 exact⟨_,rfl,IsC.wantS t _ _ (HX.out.boxA [.cells #[ptr g] 60,.cells #[.string ⟨t.toArray⟩] 9] 0 _ _ rfl) (HX.out.boxA [.cells #[ptr g] 60,.cells #[.string ⟨t.toArray⟩] 9] 1 _ _ rfl),HB.out⟩
theorem qi8(h:MM W0 g s E tv W L σ)(t:Bs):
 Calls Tryz.prog 196 #[ptr g,.string ⟨t.toArray⟩] W (MkO W0 g W L σ.N.length σ.C.length (.want 8 t)):=by
 have HB:=zh (qaj W [.cells #[ptr g] 60,.cells #[.string ⟨t.toArray⟩] 9])
 have HX:=zh h
 clear h
 unfold ptr
 go_enter Tryz.func196,Tryz.ntmps196
 go_wp2
 go_ret
 exact⟨_,rfl,IsC.wantW t _ _ (HX.out.boxA [.cells #[ptr g] 60,.cells #[.string ⟨t.toArray⟩] 9] 0 _ _ rfl) (HX.out.boxA [.cells #[ptr g] 60,.cells #[.string ⟨t.toArray⟩] 9] 1 _ _ rfl),HB.out⟩
theorem qms(h:MM W0 g s E tv W L σ)(k:Int):
 Calls Tryz.prog 213 #[ptr g,.int .i64 k] W (MkO W0 g W L σ.N.length σ.C.length (.noth k)):=by
 have HB:=zh (qaj W [.cells #[ptr g] 60,.cells #[.int .i64 k] 3])
 have HX:=zh h
 clear h
 unfold ptr
 go_enter Tryz.func213,Tryz.ntmps213
 go_wp2
 go_ret
 exact⟨_,rfl,IsC.noth k _ _ (HX.out.boxA [.cells #[ptr g] 60,.cells #[.int .i64 k] 3] 1 _ _ rfl) (HX.out.boxA [.cells #[ptr g] 60,.cells #[.int .i64 k] 3] 0 _ _ rfl),HB.out⟩
theorem qjs(h:MM W0 g s E tv W L σ)(n:Nat)(hn:n<σ.N.length):
 Calls Tryz.prog 106 #[ptr g,ptr (L.A n)] W (MkO W0 g W L σ.N.length σ.C.length (.into n)):=by
 have HB:=zh (qaj W [.cells #[ptr g] 60,.cells #[ptr (L.A n)] 74])
 have HX:=zh h
 clear h
 unfold ptr
 go_enter Tryz.func106,Tryz.ntmps106
 go_wp2
 go_ret
 exact⟨_,rfl,IsC.into n _ _ (HX.out.boxA [.cells #[ptr g] 60,.cells #[ptr (L.A n)] 74] 1 _ _ rfl) (HX.out.boxA [.cells #[ptr g] 60,.cells #[ptr (L.A n)] 74] 0 _ _ rfl) hn,HB.out⟩
theorem ql4(h:MM W0 g s E tv W L σ)(o:Stp)(v:Value)(hv:IsC W (L.P W0.heap.size) g L.A L.B σ.N.length σ.C.length v o):
 Calls Tryz.prog 73 #[ptr g,v] W (MkO W0 g W L σ.N.length σ.C.length (.item o)):=by
 have HB:=zh (qaj W [.cells #[ptr g] 60,.cells #[v] 1])
 have HX:=zh h
 clear h
 unfold ptr
 go_enter Tryz.func73,Tryz.ntmps73
 go_wp2
 go_ret
 exact⟨_,rfl,IsC.item o _ _ v (HX.out.boxA [.cells #[ptr g] 60,.cells #[v] 1] 0 _ _ rfl) (HX.out.boxA [.cells #[ptr g] 60,.cells #[v] 1] 1 _ _ rfl) (HX.out.isb HB.out hv),HB.out⟩
theorem qlv(h:MM W0 g s E tv W L σ)(n:Nat)(k:Int)(t:Bs)(v:Value)(hv:IsC W (L.P W0.heap.size) g L.A L.B σ.N.length σ.C.length v (.want k t))(hn:n<σ.N.length):
 Calls Tryz.prog 189 #[ptr g,ptr (L.A n),v] W (MkO W0 g W L σ.N.length σ.C.length (.tail n k t)):=by
 have HB:=zh (qaj W [.cells #[ptr g] 60,.cells #[ptr (L.A n)] 74,.cells #[v] 1])
 have HX:=zh h
 clear h
 unfold ptr
 go_enter Tryz.func189,Tryz.ntmps189
 go_wp2
 go_ret
 exact⟨_,rfl,IsC.tail n k t _ _ _ v (HX.out.boxA [.cells #[ptr g] 60,.cells #[ptr (L.A n)] 74,.cells #[v] 1] 0 _ _ rfl) (HX.out.boxA [.cells #[ptr g] 60,.cells #[ptr (L.A n)] 74,.cells #[v] 1] 1 _ _ rfl) (HX.out.boxA [.cells #[ptr g] 60,.cells #[ptr (L.A n)] 74,.cells #[v] 1] 2 _ _ rfl) (HX.out.isb HB.out hv) hn,HB.out⟩
theorem qwe(h:MM W0 g s E tv W L σ)(n:Nat)(o:Bs)(one:Stp)(v:Value)(hv:IsC W (L.P W0.heap.size) g L.A L.B σ.N.length σ.C.length v one)(hn:n<σ.N.length):
 Calls Tryz.prog 177 #[ptr g,ptr (L.A n),.string ⟨o.toArray⟩,v] W (MkO W0 g W L σ.N.length σ.C.length (.box n o one)):=by
 have HB:=zh (qaj W [.cells #[ptr g] 60,.cells #[ptr (L.A n)] 74,.cells #[.string ⟨o.toArray⟩] 9,.cells #[v] 1])
 have HX:=zh h
 clear h
 unfold ptr
 go_enter Tryz.func177,Tryz.ntmps177
 go_wp2
 go_ret
 exact⟨_,rfl,IsC.box n o one _ _ _ _ v (HX.out.boxA [.cells #[ptr g] 60,.cells #[ptr (L.A n)] 74,.cells #[.string ⟨o.toArray⟩] 9,.cells #[v] 1] 0 _ _ rfl) (HX.out.boxA [.cells #[ptr g] 60,.cells #[ptr (L.A n)] 74,.cells #[.string ⟨o.toArray⟩] 9,.cells #[v] 1] 2 _ _ rfl) (HX.out.boxA [.cells #[ptr g] 60,.cells #[ptr (L.A n)] 74,.cells #[.string ⟨o.toArray⟩] 9,.cells #[v] 1] 1 _ _ rfl) (HX.out.boxA [.cells #[ptr g] 60,.cells #[ptr (L.A n)] 74,.cells #[.string ⟨o.toArray⟩] 9,.cells #[v] 1] 3 _ _ rfl) (HX.out.isb HB.out hv) hn,HB.out⟩
theorem qzx(h:MM W0 g s E tv W L σ)(n:Nat)(b:Bs)(o:Stp)(v:Value)(hv:IsC W (L.P W0.heap.size) g L.A L.B σ.N.length σ.C.length v o)(hn:n<σ.N.length):
 Calls Tryz.prog 74 #[ptr g,ptr (L.A n),.string ⟨b.toArray⟩,v] W (MkO W0 g W L σ.N.length σ.C.length (.row n b o)):=by
 obtain⟨fK0,fF0,fC0,rfl⟩:=hv.fn
 have HB:=zh (qaj W [.cells #[ptr g] 60,.cells #[.string ⟨b.toArray⟩] 9,.cells #[.func (.func fK0) fF0 fC0] 1])
 have HX:=zh h
 have HI:=zh (qjs (h.below HB.out) n hn)
 have c0:=qoh W [.cells #[ptr g] 60,.cells #[.string ⟨b.toArray⟩] 9,.cells #[.func (.func fK0) fF0 fC0] 1] 0 W.heap.size _ _ rfl rfl
 unfold alsB at c0 HI
 simp only[List.foldl_cons,List.foldl_nil]at c0 HI
 have HV:=zh hv
 clear h hv
 unfold ptr at c0 HI⊢
 go_enter Tryz.func74,Tryz.ntmps74
 go_wp2_with fail
 refine HI.out.mono ?_
 rintro e w2 ⟨v2,rfl,hv2,hb2⟩
 obtain⟨fK,fF,fC,rfl⟩:=hv2.fn
 have HV2:=zh hv2
 have HB2:=zh hb2
 clear hv2 hb2
 go_wp2_with fail
 go_ret
 have hm1:=HX.out.below HB.out
 have hb2:=HB2.out
 have hm2:=hm1.below hb2
 have hb5:=qaj w2 [.cells #[.func (.func fK) fF fC] 1,.cells #[.func (.func 107) #[] #[.pointer (some ⟨W.heap.size,0,none⟩),.pointer (some ⟨W.heap.size+1,0,none⟩),.pointer (some ⟨W.heap.size+1+1,0,none⟩),.pointer (some ⟨w2.heap.size,0,none⟩),.pointer (some ⟨w2.heap.size+1,0,none⟩)]] 1]
 have hb15:=hb2.trans (hb5.mono hb2.size)
 have hbt:=HB.out.trans (hb15.mono HB.out.size)
 have B0:=(HX.out.boxA [.cells #[ptr g] 60,.cells #[.string ⟨b.toArray⟩] 9,.cells #[.func (.func fK0) fF0 fC0] 1] 0 _ _ rfl).keep (qay hb15) (fun _ a _=>a)
 have B1:=(HX.out.boxA [.cells #[ptr g] 60,.cells #[.string ⟨b.toArray⟩] 9,.cells #[.func (.func fK0) fF0 fC0] 1] 1 _ _ rfl).keep (qay hb15) (fun _ a _=>a)
 have B2:=(HX.out.boxA [.cells #[ptr g] 60,.cells #[.string ⟨b.toArray⟩] 9,.cells #[.func (.func fK0) fF0 fC0] 1] 2 _ _ rfl).keep (qay hb15) (fun _ a _=>a)
 have B3:=hm2.boxA _ 0 _ _ (rfl:[Obj.cells #[.func (.func fK) fF fC] 1,.cells #[.func (.func 107) #[] #[.pointer (some ⟨W.heap.size,0,none⟩),.pointer (some ⟨W.heap.size+1,0,none⟩),.pointer (some ⟨W.heap.size+1+1,0,none⟩),.pointer (some ⟨w2.heap.size,0,none⟩),.pointer (some ⟨w2.heap.size+1,0,none⟩)]] 1][0]?=_)
 have B4:=hm2.boxA _ 1 _ _ (rfl:[Obj.cells #[.func (.func fK) fF fC] 1,.cells #[.func (.func 107) #[] #[.pointer (some ⟨W.heap.size,0,none⟩),.pointer (some ⟨W.heap.size+1,0,none⟩),.pointer (some ⟨W.heap.size+1+1,0,none⟩),.pointer (some ⟨w2.heap.size,0,none⟩),.pointer (some ⟨w2.heap.size+1,0,none⟩)]] 1][1]?=_)
 have V1:=HX.out.isb hbt HV.out
 have V2:=hm2.isb hb5 HV2.out
 exact⟨_,rfl,.row n b o _ _ _ _ _ _ _ B0 B2 V1 B3 V2 B4 (.more n b o _ _ _ _ _ _ _ B0 B1 B2 V1 B3 V2 B4),hbt⟩
theorem qjo(h:MM W0 g s E tv W L σ)(n:Nat)(hn:n<σ.N.length):
 Calls Tryz.prog 194 #[ptr g,ptr (L.A n)] W (MkO W0 g W L σ.N.length σ.C.length (.tail n 8 [101,110,100])):=by
 have H1:=zh (qi8 h [101,110,100])
 have H2:=zh (fun w (hb:Below W.heap.size W w) v hv=>qlv (h.below hb) n 8 [101,110,100] v hv hn)
 clear h
 unfold ptr at H1 H2⊢
 go_enter Tryz.func194,Tryz.ntmps194
 go_wp2_with fail
 refine H1.out.mono ?_
 rintro e w1 ⟨v1,rfl,hv1,hb1⟩
 have H3:=zh (H2.out w1 hb1 v1 hv1)
 have HB1:=zh hb1
 clear hv1 hb1
 go_wp2_with fail
 refine H3.out.mono ?_
 rintro e w2 ⟨v2,rfl,hv2,hb2⟩
 have HV2:=zh hv2
 have HB2:=zh (HB1.out.trans (hb2.mono HB1.out.size))
 clear hv2 hb2
 go_wp2_with fail
 go_ret
 exact⟨_,rfl,HV2.out,HB2.out⟩
theorem qfw(h:MM W0 g s E tv W L σ)(n:Nat)(one:Stp)(v:Value)(hv:IsC W (L.P W0.heap.size) g L.A L.B σ.N.length σ.C.length v one)(hn:n<σ.N.length):
 Calls Tryz.prog 47 #[ptr g,ptr (L.A n),v] W (MkO W0 g W L σ.N.length σ.C.length (qac n one)):=by
 have H1:=zh (ql4 h one v hv)
 have H2:=zh (fun w (hb:Below W.heap.size W w) u hu=>qzx (h.below hb) n [59] (.item one) u hu hn)
 clear h hv
 unfold ptr at H1 H2⊢
 go_enter Tryz.func47,Tryz.ntmps47
 go_wp2_with fail
 refine H1.out.mono ?_
 rintro e w1 ⟨v1,rfl,hv1,hb1⟩
 have H3:=zh (H2.out w1 hb1 v1 hv1)
 have HB1:=zh hb1
 clear hv1 hb1
 go_wp2_with fail
 refine H3.out.mono ?_
 rintro e w2 ⟨v2,rfl,hv2,hb2⟩
 have HV2:=zh hv2
 have HB2:=zh (HB1.out.trans (hb2.mono HB1.out.size))
 clear hv2 hb2
 go_wp2_with fail
 go_ret
 exact⟨_,rfl,HV2.out,HB2.out⟩
theorem qmv(h:MM W0 g s E tv W L σ)(lv:Int)(ss:List Bs)(a:Option Addr)(c d:Nat)(hu:StIn W (L.P W0.heap.size) (.slice a c d) (ss.map (fun s=>⟨s.toArray⟩)))(hl:ss.length<=100):
 Calls Tryz.prog 203 #[ptr g,.int .i64 lv,.slice a c d] W (MkO W0 g W L σ.N.length σ.C.length (.perh lv ss)):=by
 have HX:=zh h
 have HU:=zh hu
 clear h hu
 unfold ptr
 go_enter Tryz.func203,Tryz.ntmps203
 go_wp2_with fail
 go_ret
 have hb:=qaj W [.cells #[ptr g] 60,.cells #[.int .i64 lv] 3,.cells #[.slice a c d] 22,.cells #[.func (.func 215) #[] #[ptr W.heap.size,ptr (W.heap.size+1+1),ptr (W.heap.size+1)]] 1]
 have B0:=HX.out.boxA [.cells #[ptr g] 60,.cells #[.int .i64 lv] 3,.cells #[.slice a c d] 22,.cells #[.func (.func 215) #[] #[ptr W.heap.size,ptr (W.heap.size+1+1),ptr (W.heap.size+1)]] 1] 0 _ _ rfl
 have B1:=HX.out.boxA [.cells #[ptr g] 60,.cells #[.int .i64 lv] 3,.cells #[.slice a c d] 22,.cells #[.func (.func 215) #[] #[ptr W.heap.size,ptr (W.heap.size+1+1),ptr (W.heap.size+1)]] 1] 1 _ _ rfl
 have B2:=HX.out.boxA [.cells #[ptr g] 60,.cells #[.int .i64 lv] 3,.cells #[.slice a c d] 22,.cells #[.func (.func 215) #[] #[ptr W.heap.size,ptr (W.heap.size+1+1),ptr (W.heap.size+1)]] 1] 2 _ _ rfl
 have B3:=HX.out.boxA [.cells #[ptr g] 60,.cells #[.int .i64 lv] 3,.cells #[.slice a c d] 22,.cells #[.func (.func 215) #[] #[ptr W.heap.size,ptr (W.heap.size+1+1),ptr (W.heap.size+1)]] 1] 3 _ _ rfl
 exact⟨_,rfl,.perh lv ss _ _ _ _ B0 B1 B3 (.perM lv ss _ _ _ _ B0 B2 ((HU.out).keep (qay hb)) B1 hl),hb⟩
end
theorem OwnN.atB{W:World}{P:Nat->Prop}{b R:Nat}{css:List (List Value)}{T:List Nd}(hl:css.length=T.length)(hc: ∀(i:Nat) (c:List Value) (x:Nd),css[i]?=some c->T[i]?=some x->NdIn W (fun q=>P q/\q≠R) c x)(cur:Array Value)(hcur:cur.toList=css.flatten)(hR:W.heap[R]?=some (.cells cur 29 (0,0)))(hP:P R)(hb:b<=R)(hm:T.length<=maxLen):
 OwnN W P b (.slice (some ⟨R,0,none⟩) T.length T.length) T:=by
 have hsv:=OwnN.sevens hl (fun i c x h1 h2=>(hc i c x h1 h2))
 have hfl:=qdt css (fun c hc=>(hsv c hc).1)
 refine⟨css,hl,fun i c x h1 h2=>(hc i c x h1 h2).weak (fun q hq _=>⟨hq.1,?_⟩),⟨by rw[hfl,hl],.inr ⟨R,T.length,cur,rfl,hb,hR,zH _,hm,?_,?_⟩⟩,?_⟩
 ·simp only[Value.ownBlock,ne_eq,Option.some.injEq]
  exact fun e=>hq.2 e.symm
 ·rw[<-Array.length_toList,hcur,hfl,hl]
 ·rw[hcur,List.take_of_length_le (by rw[hfl,hl];exact zH _)]
 ·intro q hq
  simp only[Value.ownBlock,Option.some.injEq]at hq
  rw[<-hq];exact hP
theorem NdO.cells7{b:Nat}{W:World}{L:PLay}{n:Nat}{x:Nd}(h:NdO b W L n x): ∃c:List Value,c.length=7/\W.heap[L.A n]?=some (.cells c.toArray 29 (0,0))/\NdIn W (L.R b n) c x/\L.own (L.A n)=.hd n:=by
 cases x with
 | mk k t l br bl no ta=>
  obtain⟨a1,lv,nv,tv,a2,a3,a4,a5,a6⟩:=h
  exact⟨_,rfl,a2,NdIn.of_row k t br bl (a5.weak (fun _ e _=>.inl e)) (a6.weak (fun _ e _=>.inl e)) a3.row,a1⟩
def PM.mvs(σ:PM)(J:List Nat):PM:= { σ with N:=J.foldl (fun N j=>N.set j none) σ.N }
theorem qz4(J:List Nat): ∀N:List (Option Nd),(J.foldl (fun N j=>N.set j none) N).length=N.length:=by
 induction J with
 | nil=>exact fun _=>rfl
 | cons j t ih=>intro N;show(t.foldl _ (N.set j none)).length=_;rw[ih,zG]
theorem qur(J:List Nat): ∀(N:List (Option Nd)) (n:Nat) (x:Nd),(J.foldl (fun N j=>N.set j none) N)[n]?=some (some x)->N[n]?=some (some x)/\n ∉ J:=by
 induction J with
 | nil=>exact fun _ _ _ h=>⟨h,by simp⟩
 | cons j t ih=>
  intro N n x h
  obtain⟨h1,h2⟩:=ih (N.set j none) n x h
  by_cases e:j=n
  ·subst e
   by_cases hj:j<N.length
   ·rw[zE hj]at h1;cases h1
   ·rw[List.getElem?_eq_none (by rw[zG];omega)]at h1;cases h1
  ·rw[zD e]at h1
   exact⟨h1,by simp only[List.mem_cons,not_or];exact⟨fun h=>e h.symm,h2⟩⟩
open Classical in
noncomputable def PLay.with (L:PLay) (n B R:Nat) (J:List Nat):PLay:=
 { A:=fun m=>if m=n then B else L.A m
   B:=L.B
   own:=fun k=>if k=B then .hd n else if k=R/\J≠[]then .rw n else if∃j∈J,L.own k=.hd j\/L.own k=.rw j then .fz else L.own k }
section
variable{W0 W:World}{g:Nat}{s:ByteArray}{E:Env}{tv:Value}{L:PLay}{σ:PM}
open Classical in
theorem MM.newJ{W':World}(h:MM W0 g s E tv W L σ)(hb:Below W.heap.size W W')(J:List Nat)(T:List Nd)(css:List (List Value))(k:Int)(t:ByteArray)(B R:Nat)(hB:W.heap.size<=B)(hR:W.heap.size<=R)(hBR:B≠R)
 (hl:css.length=T.length) (hm:T.length<=maxLen) (hJT:J=[]↔T=[])
 (hx: ∀(i:Nat) (c:List Value) (x:Nd),css[i]?=some c->T[i]?=some x-> ∃j∈J,NdIn W (L.R W0.heap.size j) c x)
 (lv:Value) (hlv:lv=if J=[]then .slice none 0 0 else .slice (some ⟨R,0,none⟩) T.length T.length)
 (hN:NdB W' B k t lv false false (.slice none 0 0) (.slice none 0 0)) (cur:Array Value) (hcur:cur.toList=css.flatten) (hRB:J≠[]->W'.heap[R]?=some (.cells cur 29 (0,0))):
 MM W0 g s E tv W' (L.with σ.N.length B R J) ((σ.mvs J).new (nkt k t T))/\MX W0.heap.size W L σ.N.length σ.C.length W' (L.with σ.N.length B R J) (σ.N.length+1) σ.C.length/\(L.with σ.N.length B R J).A σ.N.length=B:=by
 have hBl:B<W'.heap.size:=lt_of_block hN
 have hold: ∀q,q<W.heap.size-> ¬(∃j∈J,L.own q=.hd j\/L.own q=.rw j)->(L.with σ.N.length B R J).own q=L.own q:=fun q hq hn=>by
  show(if q=B then _ else if q=R/\J≠[]then _ else if∃j∈J,L.own q=.hd j\/L.own q=.rw j then _ else _)=_
  rw[if_neg (by omega),if_neg (by omega),if_neg hn]
 have hmvd: ∀q,q<W.heap.size->(∃j∈J,L.own q=.hd j\/L.own q=.rw j)->(L.with σ.N.length B R J).own q=.fz:=fun q hq hn=>by
  show(if q=B then _ else if q=R/\J≠[]then _ else if∃j∈J,L.own q=.hd j\/L.own q=.rw j then _ else _)=_
  rw[if_neg (by omega),if_neg (by omega),if_pos hn]
 have hA: ∀n,n<σ.N.length->(L.with σ.N.length B R J).A n=L.A n:=fun n hn=>if_neg (Nat.ne_of_lt hn)
 have hAn:(L.with σ.N.length B R J).A σ.N.length=B:=if_pos rfl
 have hcr:=h.carry (W':=W') (L':=L.with σ.N.length B R J) (fun t=> ∃j∈J,t=.hd j\/t=.rw j) (by rintro⟨j,-,e | e⟩<;>cases e) hb.size hb.os hb.tape hb.output (fun q hq _=>hb.block q hq) (fun q hq hn=>hold q hq hn) hA (fun _ _=>rfl)
 have hlen:(σ.mvs J).N.length=σ.N.length:=qz4 J σ.N
 have hNN:((σ.mvs J).new (nkt k t T)).N.length=σ.N.length+1:=by
  show((σ.mvs J).N++[some (nkt k t T)]).length=_
  rw[zF,hlen];rfl
 obtain⟨td,np,past,r1,r2,r3⟩:=h.rd
 have hPR: ∀j∈J,∀q,L.R W0.heap.size j q->q<W.heap.size->(L.with σ.N.length B R J).P W0.heap.size q:=fun j hj q hq hl=>by
  rcases hq with hq | hq
  ·exact hcr.fz q hq hl
  ·exact⟨hmvd q hl ⟨j,hj,.inr hq.1⟩,hq.2⟩
 have hnew:NdO W0.heap.size W' (L.with σ.N.length B R J) σ.N.length (nkt k t T):=by
  refine⟨by rw[hAn];exact if_pos rfl,lv,_,_,by rw[hAn];exact hN,?_,?_,⟨none,0,rfl,fun h=>absurd h (by simp)⟩,⟨none,0,rfl,fun h=>absurd h (by simp)⟩⟩
  ·by_cases hJe:J=[]
   ·rw[hlv,if_pos hJe,hJT.1 hJe];exact OwnN.nil _ _ _
   ·rw[hlv,if_neg hJe]
    have hRw:(L.with σ.N.length B R J).own R=.rw σ.N.length:=by
     show(if R=B then _ else if R=R/\J≠[]then _ else _)=_
     rw[if_neg (fun e=>hBR e.symm),if_pos ⟨rfl,hJe⟩]
    refine OwnN.atB hl (fun i c x h1 h2=>?_) cur hcur (hRB hJe) (.inr ⟨hRw,zJ h.bel.size hR⟩) (zJ h.bel.size hR) hm
    obtain⟨j,hj,h3⟩:=hx i c x h1 h2
    exact((h3.weak (P':=fun q=>L.R W0.heap.size j q/\q<W.heap.size) (fun q hq hl=>⟨hq,hl⟩)).keep (qay hb)).weak (fun q hq _=>⟨.inl (hPR j hj q hq.1 hq.2),by have:=hq.2;omega⟩)
  ·intro q hq
   by_cases hJe:J=[]
   ·rw[hlv,if_pos hJe]at hq;simp[Value.ownBlock]at hq
   ·rw[hlv,if_neg hJe]at hq
    simp only[Value.ownBlock,Option.some.injEq]at hq
    subst hq
    show(if R=B then _ else if R=R/\J≠[]then _ else _)=_
    rw[if_neg (fun e=>hBR e.symm),if_pos ⟨rfl,hJe⟩]
 refine⟨⟨hcr.bel,fun q hq=>?_,?_,h.tvb,⟨td,np,past,r1.below hb,?_,fun j hj=>?_⟩,fun n x hx=>?_,fun c x hx=>?_,fun c x l hx hf=>?_,fun j hj=>?_⟩,?_,hAn⟩
 ·by_cases e:q=B
  ·subst e;exact⟨zJ h.bel.size hB,hBl⟩
  ·by_cases e2:q=R/\J≠[]
   ·obtain⟨rfl,hJe⟩:=e2
    exact⟨zJ h.bel.size hR,lt_of_block (hRB hJe)⟩
   ·have hq2:(if∃j∈J,L.own q=.hd j\/L.own q=.rw j then PTg.fz else L.own q)≠ .fz:=by
     have hq3:(if q=B then PTg.hd σ.N.length else if q=R/\J≠[]then .rw σ.N.length else if∃j∈J,L.own q=.hd j\/L.own q=.rw j then .fz else L.own q)≠ .fz:=hq
     rwa [if_neg e,if_neg e2]at hq3
    by_cases e3: ∃j∈J,L.own q=.hd j\/L.own q=.rw j
    ·rw[if_pos e3]at hq2;exact absurd rfl hq2
    ·rw[if_neg e3]at hq2
     exact⟨(h.own q hq2).1,zK (h.own q hq2).2 hb.size⟩
 ·rw[hold g (h.own g (by rw[h.og];exact fun e=>by cases e)).2 (by rintro⟨j,-,e | e⟩<;>rw[h.og]at e<;>cases e)];exact h.og
 ·rw[hNN]
  exact hcr.td td _ _ (zI _) (zH _) (by rintro⟨j,-,e | e⟩<;>cases e) r2
 ·rw[hA j (h.nb j hj)];exact r3 j hj
 ·have hx:((σ.mvs J).N++[some (nkt k t T)])[n]?=some (some x):=hx
  by_cases hn:n<σ.N.length
  ·rw[List.getElem?_append_left (by rw[hlen];exact hn)]at hx
   obtain⟨h1,h2⟩:=qur J σ.N n x hx
   exact hcr.nds n x h1 (by rintro⟨j,hj,e | e⟩<;>cases e;exact h2 hj) (by rintro⟨j,hj,e | e⟩<;>cases e;exact h2 hj)
  ·have hn2:n< ((σ.mvs J).N++[some (nkt k t T)]).length:=(List.getElem?_eq_some_iff.1 hx).1
   rw[zF,hlen]at hn2
   have hn3:n=σ.N.length:=by simp only[List.length_cons,List.length_nil]at hn2;omega
   subst hn3
   rw[List.getElem?_append_right (by rw[hlen];exact zH _),hlen,Nat.sub_self]at hx
   simp only[zC,Option.some.injEq]at hx
   rw[<-hx];exact hnew
 ·exact hcr.chs c x hx (by rintro⟨j,-,e | e⟩<;>cases e) (by rintro⟨j,-,e | e⟩<;>cases e) (by rintro⟨j,-,e | e⟩<;>cases e)
 ·rw[hNN];exact Nat.lt_succ_of_lt (h.lfb c x l hx hf)
 ·rw[hNN];exact Nat.lt_succ_of_lt (h.nb j hj)
 ·exact hcr.mx _ _ (zI _) (zH _)
theorem MM.node(h:MM W0 g s E tv W L σ){n:Nat}{k:Int}{t:ByteArray}{l:List Nd}{br bl:Bool}{no ta:List ByteArray}(hx:σ.N[n]?=some (some (.mk k t l br bl no ta))):
 L.own (L.A n)=.hd n/\ ∃lv nv tv,NdB W (L.A n) k t lv br bl nv tv/\OwnN W (L.R W0.heap.size n) W0.heap.size lv l/\(∀j,lv.ownBlock=some j->L.own j=.rw n)/\StIn W (L.P W0.heap.size) nv no/\StIn W (L.P W0.heap.size) tv ta:=h.nds n _ hx
theorem MM.setX{W':World}(h:MM W0 g s E tv W L σ){n:Nat}{k k':Int}{t t':ByteArray}{l:List Nd}{br bl br' bl':Bool}{no ta no' ta':List ByteArray}(hx:σ.N[n]?=some (some (.mk k t l br bl no ta)))(hg:W.grownBy W' (some (L.A n)))
 (hB: ∀lv nv tv,NdB W (L.A n) k t lv br bl nv tv->StIn W (L.P W0.heap.size) nv no->StIn W (L.P W0.heap.size) tv ta-> ∃nv' tv',NdB W' (L.A n) k' t' lv br' bl' nv' tv'/\StIn W (L.P W0.heap.size) nv' no'/\StIn W (L.P W0.heap.size) tv' ta'):
 MM W0 g s E tv W' L (σ.set n (.mk k' t' l br' bl' no' ta'))/\MX W0.heap.size W L σ.N.length σ.C.length W' L (σ.set n (.mk k' t' l br' bl' no' ta')).N.length σ.C.length:=by
 obtain⟨a1,lv,nv,tv',a2,a3,a4,a5,a6⟩:=h.nds n _ hx
 have hu: ∀q,q<W.heap.size-> ¬(L.own q=.hd n)->q≠L.A n:=fun q _ hd e=>hd (by rw[e];exact a1)
 have hcr:=h.carry (W':=W') (L':=L) (· =.hd n) (by simp) hg.size hg.os hg.tape hg.output (fun q hq hd=>hg.block q hq (fun e=>hu q hq hd (Option.some.inj e))) (fun _ _ _=>rfl) (fun _ _=>rfl) (fun _ _=>rfl)
 obtain⟨td,np,past,r1,r2,r3⟩:=h.rd
 have hgA:L.A n≠g:=fun e=>by
  have:=h.og
  rw[<-e,a1]at this;cases this
 have hNl:(σ.set n (.mk k' t' l br' bl' no' ta')).N.length=σ.N.length:=zG
 have hnl:n<σ.N.length:=(List.getElem?_eq_some_iff.1 hx).1
 have hrd:RdM W' g s E tv td np σ.i past:=r1.grown hg (fun e=>hgA (Option.some.inj e)) (fun q e1 e2=>by
  have h5:=h.tvb q e1
  have h6:=(h.own (L.A n) (by rw[a1];exact fun e=>by cases e)).1
  have:=Option.some.inj e2;omega)
 refine⟨⟨hcr.bel,fun q hq=>⟨(h.own q hq).1,zK (h.own q hq).2 hg.size⟩,h.og,h.tvb,⟨td,np,past,hrd,by rw[hNl];exact hcr.td td _ _ (zH _) (zH _) (by simp) r2,r3⟩,fun m x hm=>?_,fun c x hc=>hcr.chs c x hc (by simp) (by simp) (by simp),fun c x l hx hf=>by rw[hNl];exact h.lfb c x l hx hf,fun j hj=>by rw[hNl];exact h.nb j hj⟩,by rw[hNl];exact hcr.mx _ _ (zH _) (zH _)⟩
 have hm:(σ.N.set n (some (.mk k' t' l br' bl' no' ta')))[m]?=some (some x):=hm
 by_cases e:n=m
 ·subst e
  rw[zE hnl]at hm
  simp only[Option.some.injEq]at hm
  rw[<-hm]
  obtain⟨nv',tv'',b1,b2,b3⟩:=hB lv nv tv' a2 a5 a6
  have hkR:Keeps (L.R W0.heap.size n) W W':=⟨hg.size,fun q hq hl=>hg.block q hl (fun e=>by
   rw[Option.some.inj e]at hq
   rcases hq with hq | hq
   ·rw[hq.1]at a1;cases a1
   ·rw[hq.1]at a1;cases a1)⟩
  refine⟨a1,lv,nv',tv'',b1,?_,a4,b2.keep hcr.kp,b3.keep hcr.kp⟩
  obtain⟨css,q1,q2,q3,q4⟩:=a3
  exact⟨css,q1,fun i c x hc hx=>(q2 i c x hc hx).keep ⟨hg.size,fun j hj hl=>hkR.2 j hj.1 hl⟩,qc2 q3 (fun j hj=>hkR.2 j (q4 j hj) (q3.lt j hj).2),q4⟩
 ·rw[zD e]at hm
  exact hcr.nds m x hm (fun h=>e (by cases h;rfl)) (fun h=>by cases h)
theorem NdB.set{B:Nat}{k:Int}{t:ByteArray}{lv nv tv':Value}{br bl:Bool}(h:NdB W B k t lv br bl nv tv')(j:Nat)(u:Value):(W.setCell ⟨B,j,none⟩ u).heap[B]?=some (.cells (#[.int .i64 k,.string t,lv,.bool br,.bool bl,nv,tv'].setIfInBounds j u) 29 (0,0)):=Lib.heap_setCell_same (i:=j) h u
theorem MM.setBrk(h:MM W0 g s E tv W L σ){n:Nat}{x:Nd}(hx:σ.N[n]?=some (some x))(b:Bool):MM W0 g s E tv (W.setCell ⟨L.A n,3,none⟩ (.bool b)) L (σ.set n (x.brk' b))/\MX W0.heap.size W L σ.N.length σ.C.length (W.setCell ⟨L.A n,3,none⟩ (.bool b)) L (σ.set n (x.brk' b)).N.length σ.C.length:=by
 cases x with
 | mk k t l br bl no ta=>exact h.setX hx (qb1 _ _ _ _) (fun lv nv tv' h1 h2 h3=>⟨nv,tv',by unfold NdB;simpa using h1.set 3 (.bool b),h2,h3⟩)
theorem MM.setBlk(h:MM W0 g s E tv W L σ){n:Nat}{x:Nd}(hx:σ.N[n]?=some (some x))(b:Bool):MM W0 g s E tv (W.setCell ⟨L.A n,4,none⟩ (.bool b)) L (σ.set n (x.blk' b))/\MX W0.heap.size W L σ.N.length σ.C.length (W.setCell ⟨L.A n,4,none⟩ (.bool b)) L (σ.set n (x.blk' b)).N.length σ.C.length:=by
 cases x with
 | mk k t l br bl no ta=>exact h.setX hx (qb1 _ _ _ _) (fun lv nv tv' h1 h2 h3=>⟨nv,tv',by unfold NdB;simpa using h1.set 4 (.bool b),h2,h3⟩)
theorem MM.setTxt(h:MM W0 g s E tv W L σ){n:Nat}{x:Nd}(hx:σ.N[n]?=some (some x))(b:ByteArray):MM W0 g s E tv (W.setCell ⟨L.A n,1,none⟩ (.string b)) L (σ.set n (x.txt' b))/\MX W0.heap.size W L σ.N.length σ.C.length (W.setCell ⟨L.A n,1,none⟩ (.string b)) L (σ.set n (x.txt' b)).N.length σ.C.length:=by
 cases x with
 | mk k t l br bl no ta=>exact h.setX hx (qb1 _ _ _ _) (fun lv nv tv' h1 h2 h3=>⟨nv,tv',by unfold NdB;simpa using h1.set 1 (.string b),h2,h3⟩)
theorem MM.setKd(h:MM W0 g s E tv W L σ){n:Nat}{k k':Int}{t:ByteArray}{l:List Nd}{br bl:Bool}{no ta:List ByteArray}(hx:σ.N[n]?=some (some (.mk k t l br bl no ta))):MM W0 g s E tv (W.setCell ⟨L.A n,0,none⟩ (.int .i64 k')) L (σ.set n (.mk k' t l br bl no ta))/\MX W0.heap.size W L σ.N.length σ.C.length (W.setCell ⟨L.A n,0,none⟩ (.int .i64 k')) L (σ.set n (.mk k' t l br bl no ta)).N.length σ.C.length:=
 h.setX hx (qb1 _ _ _ _) (fun lv nv tv' h1 h2 h3=>⟨nv,tv',by unfold NdB;simpa using h1.set 0 (.int .i64 k'),h2,h3⟩)
theorem MM.setNot(h:MM W0 g s E tv W L σ){n:Nat}{x:Nd}(hx:σ.N[n]?=some (some x))(T:List ByteArray)(u:Value)(hu:StIn W (L.P W0.heap.size) u T):MM W0 g s E tv (W.setCell ⟨L.A n,5,none⟩ u) L (σ.set n (x.notes' T))/\MX W0.heap.size W L σ.N.length σ.C.length (W.setCell ⟨L.A n,5,none⟩ u) L (σ.set n (x.notes' T)).N.length σ.C.length:=by
 cases x with
 | mk k t l br bl no ta=>exact h.setX hx (qb1 _ _ _ _) (fun lv nv tv' h1 h2 h3=>⟨u,tv',by unfold NdB;simpa using h1.set 5 u,hu,h3⟩)
theorem MM.setTail(h:MM W0 g s E tv W L σ){n:Nat}{x:Nd}(hx:σ.N[n]?=some (some x))(T:List ByteArray)(u:Value)(hu:StIn W (L.P W0.heap.size) u T):MM W0 g s E tv (W.setCell ⟨L.A n,6,none⟩ u) L (σ.set n (x.tail' T))/\MX W0.heap.size W L σ.N.length σ.C.length (W.setCell ⟨L.A n,6,none⟩ u) L (σ.set n (x.tail' T)).N.length σ.C.length:=by
 cases x with
 | mk k t l br bl no ta=>exact h.setX hx (qb1 _ _ _ _) (fun lv nv tv' h1 h2 h3=>⟨nv,u,by unfold NdB;simpa using h1.set 6 u,h2,hu⟩)
theorem MM.setIs(h:MM W0 g s E tv W L σ){n:Nat}(hn:n<σ.N.length):MM W0 g s E tv (W.setCell ⟨g,5,none⟩ (ptr (L.A n))) L (σ.is n)/\MX W0.heap.size W L σ.N.length σ.C.length (W.setCell ⟨g,5,none⟩ (ptr (L.A n))) L σ.N.length σ.C.length:=by
 have hg:=qb1 W g 5 (ptr (L.A n))
 have hcr:=h.carry (W':=W.setCell ⟨g,5,none⟩ (ptr (L.A n))) (L':=L) (· =.rd) (by simp) hg.size hg.os hg.tape hg.output (fun q hq hd=>hg.block q hq (fun e=>hd (by rw[Option.some.inj e];exact h.og))) (fun _ _ _=>rfl) (fun _ _=>rfl) (fun _ _=>rfl)
 obtain⟨td,np,past,r1,r2,r3⟩:=h.rd
 exact⟨⟨hcr.bel,fun q hq=>⟨(h.own q hq).1,zK (h.own q hq).2 hg.size⟩,h.og,h.tvb,⟨td,_,past,(r1.setN (ptr (L.A n))).1,hcr.td td _ _ (zH _) (zH _) (by simp) r2,fun j hj=>by
  have hj:some n=some j:=hj
  rw[Option.some.inj hj]⟩,fun m x hm=>hcr.nds m x hm (by simp) (by simp),fun c x hc=>hcr.chs c x hc (by simp) (by simp) (by simp),h.lfb,fun j hj=>by
  have hj:some n=some j:=hj
  rw[<-Option.some.inj hj];exact hn⟩,hcr.mx _ _ (zH _) (zH _)⟩
end
section
variable{W0 W:World}{g:Nat}{s:ByteArray}{E:Env}{tv:Value}{L:PLay}{σ:PM}
theorem qbi(W:World)(o:Obj):(W.alloc o).heap[W.heap.size]?=some o:=by
 show(W.heap.push _)[W.heap.size]?=_
 rw[zA,if_pos rfl]
theorem MM.new0(h:MM W0 g s E tv W L σ)(k:Int)(t:ByteArray):
 MM W0 g s E tv (W.alloc (.cells #[.int .i64 k,.string t,.slice none 0 0,.bool false,.bool false,.slice none 0 0,.slice none 0 0] 29)) (L.with σ.N.length W.heap.size (W.heap.size+1) []) (σ.new (nkt k t []))/\
 MX W0.heap.size W L σ.N.length σ.C.length (W.alloc (.cells #[.int .i64 k,.string t,.slice none 0 0,.bool false,.bool false,.slice none 0 0,.slice none 0 0] 29)) (L.with σ.N.length W.heap.size (W.heap.size+1) []) (σ.N.length+1) σ.C.length/\(L.with σ.N.length W.heap.size (W.heap.size+1) []).A σ.N.length=W.heap.size:=
 h.newJ (qa1 W _) [] [] [] k t W.heap.size (W.heap.size+1) (zH _) (zI _) (by omega) rfl (Nat.zero_le _) (by simp) (fun i c x h=>by simp at h) _ (if_pos rfl).symm (qbi W _) #[] rfl (fun h=>absurd rfl h)
theorem MM.new1(h:MM W0 g s E tv W L σ){j:Nat}{x:Nd}(hx:σ.N[j]?=some (some x))(c:Array Value)(hc:W.heap[L.A j]?=some (.cells c 29 (0,0)))(k:Int)(t:ByteArray):
 MM W0 g s E tv ((W.alloc (.cells c 29)).alloc (.cells #[.int .i64 k,.string t,.slice (some ⟨W.heap.size,0,none⟩) 1 1,.bool false,.bool false,.slice none 0 0,.slice none 0 0] 29)) (L.with σ.N.length (W.heap.size+1) W.heap.size [j]) ((σ.mv j).new (nkt k t [x]))/\
 MX W0.heap.size W L σ.N.length σ.C.length ((W.alloc (.cells c 29)).alloc (.cells #[.int .i64 k,.string t,.slice (some ⟨W.heap.size,0,none⟩) 1 1,.bool false,.bool false,.slice none 0 0,.slice none 0 0] 29)) (L.with σ.N.length (W.heap.size+1) W.heap.size [j]) (σ.N.length+1) σ.C.length/\(L.with σ.N.length (W.heap.size+1) W.heap.size [j]).A σ.N.length=W.heap.size+1:=by
 obtain⟨c',h7,hc',hn,ho⟩:=(h.nds j x hx).cells7
 have e:c=c'.toArray:=by
  rw[hc]at hc'
  simp only[Option.some.injEq,Obj.cells.injEq,and_true]at hc'
  exact hc'
 subst e
 have hb:=qaj W [.cells c'.toArray 29,.cells #[.int .i64 k,.string t,.slice (some ⟨W.heap.size,0,none⟩) 1 1,.bool false,.bool false,.slice none 0 0,.slice none 0 0] 29]
 exact h.newJ hb [j] [x] [c'] k t (W.heap.size+1) W.heap.size (zI _) (zH _) (by omega) rfl (by show 1<=maxLen;unfold maxLen;omega) (by simp) (fun i c x' h1 h2=>by
  match i,h1,h2 with
  | 0,h1,h2=>
   simp only[zC,Option.some.injEq]at h1 h2
   rw[<-h1,<-h2];exact⟨j,by simp,hn⟩
  | i+1,h1,h2=>simp at h1) _ (if_neg (by simp)).symm (qb5 W _ 1 _ rfl) c'.toArray (by simp) (fun _=>qb5 W _ 0 _ rfl)
theorem MM.gcell(h:MM W0 g s E tv W L σ):(∃np,W.cell? ⟨g,5,none⟩=some np/\ ∀j,σ.n=some j->np=ptr (L.A j))/\(∀j,W.frozen? ⟨g,j,none⟩=false)/\W.cell? ⟨g,2,none⟩=some (.int .i64 (σ.i:Int)):=by
 obtain⟨td,np,past,r1,r2,r3⟩:=h.rd
 exact⟨⟨np,r1.cells.2.2.2.2.2,r3⟩,r1.frz,r1.cells.2.2.1⟩
theorem MM.gcur(h:MM W0 g s E tv W L σ){j:Nat}(hj:σ.n=some j):W.cell? ⟨g,5,none⟩=some (.pointer (some ⟨L.A j,0,none⟩)):=by
 obtain⟨⟨np,h1,h2⟩,-,-⟩:=h.gcell
 rw[h1,h2 j hj];rfl
theorem MM.got0(h:MM W0 g s E tv W L σ)(k:Int)(t:ByteArray):
 ∃L',MM W0 g s E tv ((W.alloc (.cells #[.int .i64 k,.string t,.slice none 0 0,.bool false,.bool false,.slice none 0 0,.slice none 0 0] 29)).setCell ⟨g,5,none⟩ (.pointer (some ⟨W.heap.size,0,none⟩))) L' (σ.got (nkt k t []))/\
 MX W0.heap.size W L σ.N.length σ.C.length ((W.alloc (.cells #[.int .i64 k,.string t,.slice none 0 0,.bool false,.bool false,.slice none 0 0,.slice none 0 0] 29)).setCell ⟨g,5,none⟩ (.pointer (some ⟨W.heap.size,0,none⟩))) L' (σ.got (nkt k t [])).N.length (σ.got (nkt k t [])).C.length:=by
 obtain⟨h1,h2,h3⟩:=h.new0 k t
 have hl:(σ.new (nkt k t [])).N.length=σ.N.length+1:=by show(σ.N++[_]).length=_;rw[zF];rfl
 obtain⟨h4,h5⟩:=h1.setIs (n:=σ.N.length) (by rw[hl];omega)
 rw[h3]at h4 h5
 rw[hl]at h5
 refine⟨_,h4,?_⟩
 rw[show(σ.got (nkt k t [])).N.length=σ.N.length+1 from hl]
 exact h2.trans h5
theorem MM.new0E(h:MM W0 g s E tv W L σ)(k:Int)(t:ByteArray): ∃M,MM W0 g s E tv (W.alloc (.cells #[.int .i64 k,.string t,.slice none 0 0,.bool false,.bool false,.slice none 0 0,.slice none 0 0] 29)) M (σ.new (nkt k t []))/\
 MX W0.heap.size W L σ.N.length σ.C.length (W.alloc (.cells #[.int .i64 k,.string t,.slice none 0 0,.bool false,.bool false,.slice none 0 0,.slice none 0 0] 29)) M (σ.new (nkt k t [])).N.length (σ.new (nkt k t [])).C.length/\M.A σ.N.length=W.heap.size/\σ.N.length< (σ.new (nkt k t [])).N.length:=by
 have hl:(σ.new (nkt k t [])).N.length=σ.N.length+1:=by show(σ.N++[_]).length=_;rw[zF];rfl
 refine⟨_,(h.new0 k t).1,?_,(h.new0 k t).2.2,by omega⟩
 rw[hl];exact(h.new0 k t).2.1
theorem qgq{n:Nat}{x:Nd}(h:σ.nd n=.ok x):σ.N[n]?=some (some x):=by
 unfold PM.nd at h
 split at h
 ·rename_i y hy
  rw[hy,Except.ok.inj h]
 ·cases h
theorem qdp{j:Nat}{x:Nd}(h:σ.cur=.ok (j,x)):σ.n=some j/\σ.N[j]?=some (some x):=by
 unfold PM.cur at h
 split at h
 ·rename_i i hi
  cases hd:σ.nd i with
  | error b=>rw[hd]at h;cases h
  | ok y=>
   rw[hd]at h
   have h2:(i,y)=(j,x):=Except.ok.inj h
   cases h2
   exact⟨hi,qgq hd⟩
 ·cases h
theorem qqg{n:Nat}{x:Option Nd}(h:σ.N[n]?=some x):n<σ.N.length:=(List.getElem?_eq_some_iff.1 h).1
theorem MM.new1E(h:MM W0 g s E tv W L σ){j:Nat}{x:Nd}(hx:σ.N[j]?=some (some x))(c:Array Value)(hc:W.heap[L.A j]?=some (.cells c 29 (0,0)))(k:Int)(t:ByteArray):
 ∃M,MM W0 g s E tv ((W.alloc (.cells c 29)).alloc (.cells #[.int .i64 k,.string t,.slice (some ⟨W.heap.size,0,none⟩) 1 1,.bool false,.bool false,.slice none 0 0,.slice none 0 0] 29)) M ((σ.mv j).new (nkt k t [x]))/\
 MX W0.heap.size W L σ.N.length σ.C.length ((W.alloc (.cells c 29)).alloc (.cells #[.int .i64 k,.string t,.slice (some ⟨W.heap.size,0,none⟩) 1 1,.bool false,.bool false,.slice none 0 0,.slice none 0 0] 29)) M ((σ.mv j).new (nkt k t [x])).N.length ((σ.mv j).new (nkt k t [x])).C.length/\M.A σ.N.length=W.heap.size+1/\σ.N.length< ((σ.mv j).new (nkt k t [x])).N.length:=by
 have hl:((σ.mv j).new (nkt k t [x])).N.length=σ.N.length+1:=by show((σ.N.set j none)++[_]).length=_;rw[zF,zG];rfl
 refine⟨_,(h.new1 hx c hc k t).1,?_,(h.new1 hx c hc k t).2.2,by omega⟩
 rw[hl];exact(h.new1 hx c hc k t).2.1
theorem MM.new1At{W':World}(h:MM W0 g s E tv W L σ){j:Nat}{x:Nd}(hx:σ.N[j]?=some (some x))(c:Array Value)(hc:W.heap[L.A j]?=some (.cells c 29 (0,0)))(hb:Below W.heap.size W W')(k:Int)(t:ByteArray)(R B:Nat)(hR:W.heap.size<=R)(hB:W.heap.size<=B)(hne:B≠R)
 (hrow:W'.heap[R]?=some (.cells c 29 (0,0))) (hN:NdB W' B k t (.slice (some ⟨R,0,none⟩) 1 1) false false (.slice none 0 0) (.slice none 0 0)):
 ∃M,MM W0 g s E tv W' M ((σ.mv j).new (nkt k t [x]))/\MX W0.heap.size W L σ.N.length σ.C.length W' M ((σ.mv j).new (nkt k t [x])).N.length ((σ.mv j).new (nkt k t [x])).C.length/\M.A σ.N.length=B:=by
 obtain⟨c',h7,hc',hn,ho⟩:=(h.nds j x hx).cells7
 have e:c=c'.toArray:=by
  rw[hc]at hc'
  simp only[Option.some.injEq,Obj.cells.injEq,and_true]at hc'
  exact hc'
 subst e
 have hl:((σ.mv j).new (nkt k t [x])).N.length=σ.N.length+1:=by show((σ.N.set j none)++[_]).length=_;rw[zF,zG];rfl
 have h9:=h.newJ hb [j] [x] [c'] k t B R hB hR hne rfl (by show 1<=maxLen;unfold maxLen;omega) (by simp) (fun i c x' h1 h2=>by
  match i,h1,h2 with
  | 0,h1,h2=>
   simp only[zC,Option.some.injEq]at h1 h2
   rw[<-h1,<-h2];exact⟨j,by simp,hn⟩
  | i+1,h1,h2=>simp at h1) _ (if_neg (by simp)).symm hN c'.toArray (by simp) (fun _=>hrow)
 refine⟨_,h9.1,?_,h9.2.2⟩
 rw[hl];exact h9.2.1
theorem MM.new2At{W':World}(h:MM W0 g s E tv W L σ){a b:Nat}{x y:Nd}(hx:σ.N[a]?=some (some x))(hy:σ.N[b]?=some (some y))(c d cur:Array Value)(hc:W.heap[L.A a]?=some (.cells c 29 (0,0)))(hd:W.heap[L.A b]?=some (.cells d 29 (0,0)))(hcur:cur.toList=c.toList++d.toList)(hb:Below W.heap.size W W')(k:Int)(t:ByteArray)(R B:Nat)(hR:W.heap.size<=R)(hB:W.heap.size<=B)(hne:B≠R)
 (hrow:W'.heap[R]?=some (.cells cur 29 (0,0))) (hN:NdB W' B k t (.slice (some ⟨R,0,none⟩) 2 2) false false (.slice none 0 0) (.slice none 0 0)):
 ∃M,MM W0 g s E tv W' M (((σ.mv a).mv b).new (nkt k t [x,y]))/\MX W0.heap.size W L σ.N.length σ.C.length W' M (((σ.mv a).mv b).new (nkt k t [x,y])).N.length (((σ.mv a).mv b).new (nkt k t [x,y])).C.length/\M.A σ.N.length=B:=by
 obtain⟨c',h7,hc',hn,ho⟩:=(h.nds a x hx).cells7
 obtain⟨d',g7,hd',hm,hp⟩:=(h.nds b y hy).cells7
 have e:c=c'.toArray:=by
  rw[hc]at hc'
  simp only[Option.some.injEq,Obj.cells.injEq,and_true]at hc'
  exact hc'
 have e2:d=d'.toArray:=by
  rw[hd]at hd'
  simp only[Option.some.injEq,Obj.cells.injEq,and_true]at hd'
  exact hd'
 subst e e2
 have hl:(((σ.mv a).mv b).new (nkt k t [x,y])).N.length=σ.N.length+1:=by show(((σ.N.set a none).set b none)++[_]).length=_;rw[zF,zG,zG];rfl
 have h9:=h.newJ hb [a,b] [x,y] [c',d'] k t B R hB hR hne rfl (by show 2<=maxLen;unfold maxLen;omega) (by simp) (fun i c x' h1 h2=>by
  match i,h1,h2 with
  | 0,h1,h2=>
   simp only[zC,Option.some.injEq]at h1 h2
   rw[<-h1,<-h2];exact⟨a,by simp,hn⟩
  | 1,h1,h2=>
   simp only[zB,zC,Option.some.injEq]at h1 h2
   rw[<-h1,<-h2];exact⟨b,by simp,hm⟩
  | i+2,h1,h2=>simp at h1) _ (if_neg (by simp)).symm hN cur (by rw[hcur];simp) (fun _=>hrow)
 refine⟨_,h9.1,?_,h9.2.2⟩
 rw[hl];exact h9.2.1
end
def SO(r:Rs PM)(W0:World)(g:Nat)(s:ByteArray)(E:Env)(tv:Value)(W:World)(L:PLay)(nN nC:Nat)(e:Ending)(W':World):Prop:=
 match r with
 | .ok τ=>e=.returned (.tuple #[])/\ ∃L',MM W0 g s E tv W' L' τ/\MX W0.heap.size W L nN nC W' L' τ.N.length τ.C.length
 | .error .die=>Died e/\Below W0.heap.size W0 W'
 | .error .stuck=>True
section
variable{W0 W:World}{g:Nat}{s:ByteArray}{E:Env}{tv:Value}{L:PLay}{σ:PM}
theorem qax{α:Type}{r:Rs α}{e:Bad}(h:r=.error .die/\r=.error e):e=.die:=by
 rw[h.1]at h
 exact(Except.error.inj h.2).symm
theorem qaf{i:Nat}{e:Bad}(h:tkE E i=.error e):tkE E i=.error .die/\tkE E i=.error e:=by
 unfold tkE at*
 split at h
 ·cases h
 ·rw[if_neg (by assumption)];exact⟨rfl,h⟩
theorem qae{k:Int}{t:Bs}{i:Nat}{e:Bad}(h:sgE E k t i=.error e):sgE E k t i=.error .die/\sgE E k t i=.error e:=by
 refine⟨?_,h⟩
 unfold sgE at*
 split at h
 ·rw[if_pos (by assumption)]
  cases ht:tkE E i with
  | ok j=>rw[ht]at h;cases h
  | error b=>
   have e1:=(qaf ht).1
   rw[ht]at e1
   rw[e1];rfl
 ·cases h
theorem qag{f:Int->Bool}{i:Nat}{e:Bad}(h:txE E f i=.error e):txE E f i=.error .die/\txE E f i=.error e:=by
 refine⟨?_,h⟩
 unfold txE at*
 split at h
 ·rw[if_pos (by assumption)]
  cases ht:tkE E i with
  | ok j=>rw[ht]at h;cases h
  | error b=>
   have e1:=(qaf ht).1
   rw[ht]at e1
   rw[e1];rfl
 ·rw[if_neg (by assumption)]
theorem MX.cell{b:Nat}{W W':World}{L L':PLay}{nN nC nN' nC':Nat}(h:MX b W L nN nC W' L' nN' nC'){k:Nat}{u:Value}(hb:BoxC W (L.P b) (.pointer (some ⟨k,0,none⟩)) u):W'.cell? ⟨k,0,none⟩=some u:=by
 obtain⟨k',e,-,-,c⟩:=h.box hb
 simp only[Value.pointer.injEq,Option.some.injEq,Addr.mk.injEq,and_true]at e
 subst e
 exact c
theorem BoxC.cellv{W:World}{P:Nat->Prop}{k:Nat}{u:Value}(h:BoxC W P (.pointer (some ⟨k,0,none⟩)) u):W.cell? ⟨k,0,none⟩=some u:=by
 obtain⟨k',e,-,-,c⟩:=h
 simp only[Value.pointer.injEq,Option.some.injEq,Addr.mk.injEq,and_true]at e
 subst e
 exact c
theorem MM.boxT(h:MM W0 g s E tv W L σ)(k:Nat)(hk:k=W.heap.size)(u:Value)(T:TypeId):BoxC (W.alloc (.cells #[u] T)) (L.P W0.heap.size) (ptr k) u:=by
 subst hk
 exact h.boxN (zH _) (qbi _ _)
theorem MM.strsN(h:MM W0 g s E tv W L σ)(T:List ByteArray):StIn (W.alloc (.cells (T.map Value.string).toArray 9)) (L.P W0.heap.size) (.slice (some ⟨W.heap.size,0,none⟩) T.length T.length) T:=by
 refine⟨_,_,rfl,fun _=>⟨W.heap.size,0,rfl,h.free (zH _),by simp,fun i x hx=>?_⟩⟩
 rw[cell_of_row _ _ _ _ _ _ (qbi _ _),Nat.zero_add]
 simp[hx]
theorem qdu{k:Int}{t:Bs}{i j:Nat}(h:sgE E k t i=.ok (false,j)):j=i:=by
 unfold sgE at h
 split at h
 ·cases ht:tkE E i with
  | ok q=>rw[ht]at h;cases h
  | error b=>rw[ht]at h;cases h
 ·cases h;rfl
theorem textM(h:MM W0 g s E tv W L σ)(f:Int->Bool)(ks:List Int)(hf: ∀k,ks.contains k=f k)(h0:f 0=false)(b n:Nat)(hn:n=ks.length)(hN:NumR W b ks)(hb:b<W.heap.size)(hbg:b≠g):
 Calls Tryz.prog 175 #[ptr g,.slice (some ⟨b,0,none⟩) n n] W (MO (txE E f σ.i) W0 g s E tv W L σ (fun x=>.string x.1) (·.2)):=h.mo (fun _ _ _ hr=>qh4 f ks hf h0 b n hn hN hb hbg hr)
theorem MM.glt(h:MM W0 g s E tv W L σ):g<W.heap.size:=by
 obtain⟨td,np,past,r1,r2,r3⟩:=h.rd
 exact r1.lt
theorem qcy{b:Bad}(h:σ.cur=.error b):b=.stuck:=by
 unfold PM.cur at h
 split at h
 ·rename_i i hi
  unfold PM.nd at h
  split at h
  ·cases h
  ·cases h;rfl
 ·cases h;rfl
theorem qe8{n:Nat}{b:Bad}(h:σ.nd n=.error b):b=.stuck:=by
 unfold PM.nd at h
 split at h
 ·cases h
 ·cases h;rfl
theorem MM.ncells(h:MM W0 g s E tv W L σ){n:Nat}{x:Nd}(hx:σ.N[n]?=some (some x)): ∃k t lv br bl nv tv,NdB W (L.A n) k t lv br bl nv tv:=by
 cases x with
 | mk k t l br bl no ta=>
  obtain⟨-,lv,nv,tv',a2,-⟩:=h.node hx
  exact⟨_,_,_,_,_,_,_,a2⟩
theorem qvx(h:MM W0 g s E tv W L σ)(vs:List Value)(ss:List Stp)(hc:AllC (IsC W (L.P W0.heap.size) g L.A L.B σ.N.length σ.C.length) vs ss)(T:TypeId):StpR (W.alloc (.cells vs.toArray T)) (L.P W0.heap.size) g L.A L.B σ.N.length σ.C.length W.heap.size vs ss:=by
 have hb:=qa1 W (.cells vs.toArray T)
 refine⟨hc.mono (fun v s hv=>h.isb hb hv),h.free (zH _),by simp,fun j u hj=>?_⟩
 rw[cell_of_row _ _ _ vs.toArray T (0,0) (by show(W.heap.push _)[W.heap.size]?=_;rw[zA,if_pos rfl])]
 simpa using hj
theorem qbh(h:MM W0 g s E tv W L σ)(q:Nat)(hq:q=W.heap.size)(vs:List Value)(ss:List Stp)(n:Nat)(hn:n=ss.length)(hl:σ.k.length<=549755813888)(hn6:n<=100)(T:TypeId)(hc:AllC (IsC W (L.P W0.heap.size) g L.A L.B σ.N.length σ.C.length) vs ss):
 Calls Tryz.prog 36 #[.pointer (some ⟨g,0,none⟩),.slice (some ⟨q,0,none⟩) n n] (W.alloc (.cells vs.toArray T)) fun e W'=>e=.returned (.tuple #[])/\ ∃L',MM W0 g s E tv W' L' (σ.plan ss)/\MX W0.heap.size W L σ.N.length σ.C.length W' L' σ.N.length σ.C.length:=by
 subst hq
 have hb:=qa1 W (.cells vs.toArray T)
 refine(planM (h.below hb) W.heap.size n vs ss hn hl hn6 (qvx h vs ss hc T)).mono ?_
 rintro e W' ⟨rfl,L',h1,h2⟩
 exact⟨rfl,L',h1,(h.mxb hb).trans h2⟩
theorem qi3(h:MM W0 g s E tv W L σ)(t:Bs)(k1:Nat)(b1:BoxC W (L.P W0.heap.size) (.pointer (some ⟨k1,0,none⟩)) (ptr g))(k2:Nat)(b2:BoxC W (L.P W0.heap.size) (.pointer (some ⟨k2,0,none⟩)) (.string ⟨t.toArray⟩)):
 Calls Tryz.prog 208 #[.pointer (some ⟨k1,0,none⟩),.pointer (some ⟨k2,0,none⟩)] W (SO (stp E (.want 9 t) σ) W0 g s E tv W L σ.N.length σ.C.length):=by
 obtain⟨R,hR⟩: ∃R:Rs PM,R=stp E (.want 9 t) σ:=⟨_,rfl⟩
 rw[<-hR]
 have HR:=zh hR
 have H0:=zh h
 have X0:=zh (MX.refl W0.heap.size W L σ.N.length σ.C.length)
 have B_r:=zh b1
 have cr0:=b1.cellv
 unfold ptr at cr0
 have B_t:=zh b2
 have ct0:=b2.cellv
 clear h hR b1 b2
 try unfold ptr
 go_enter Tryz.func208,Tryz.ntmps208
 go_wp2_with fail
 have q1:=qdd H0.out t
 try unfold ptr at q1
 refine q1.mono ?_
 clear q1
 intro e w1 h1
 rcases hr1:sgE E 9 t σ.i with x9 | ⟨b,j⟩
 ·obtain rfl:=qax (by first | exact qae hr1 | exact qag hr1 | exact qaf hr1)
  rw[hr1]at h1
  obtain⟨⟨u,pv,rfl⟩,hb⟩:=h1
  have HB9:=zh hb
  have HR1:=zh hr1
  have e9:R=.error .die:=by
   have hr1:=HR1.out;rw[HR.out];try simp[stp,msE,hr1,bind,Except.bind,pure,Except.pure,Except.map]
  subst e9
  clear hb hr1
  go_wp2_with fail
  exact⟨rfl,⟨_,_,rfl⟩,HB9.out⟩
 ·rw[hr1]at h1
  have HR1:=zh hr1
  obtain⟨rfl,hm,hx⟩:=h1
  have H1:=zh hm
  have Y1:=zh hx
  have X1:=zh (X0.out.trans Y1.out)
  have B_r_1:=zh (Y1.out.box B_r.out)
  have cr1:=B_r_1.out.cellv
  unfold ptr at cr1
  have B_t_1:=zh (Y1.out.box B_t.out)
  have ct1:=B_t_1.out.cellv
  clear hm hx hr1
  cases b
  ·have e9:R=.error .die:=by
    have hr1:=HR1.out;rw[HR.out];try simp[stp,msE,hr1,bind,Except.bind,pure,Except.pure,Except.map]
   subst e9
   go_wp2_with fail
   refine(qat _).mono ?_
   rintro e w9 ⟨⟨u,pv,rfl⟩,rfl⟩
   go_wp2_with fail
   exact⟨rfl,⟨_,_,rfl⟩,H1.out.bel⟩
  ·go_wp2_with fail
   refine(qas _).mono ?_
   rintro e w9 ⟨rfl,rfl⟩
   have e9:R=.ok (σ.at_ j):=by
    have hr1:=HR1.out;rw[HR.out];try simp[stp,msE,hr1,bind,Except.bind,pure,Except.pure,Except.map]
   subst e9
   go_wp2_with fail
   go_end0
   exact⟨rfl,L,H1.out,X1.out⟩
theorem qi4(h:MM W0 g s E tv W L σ)(t:Bs)(k1:Nat)(b1:BoxC W (L.P W0.heap.size) (.pointer (some ⟨k1,0,none⟩)) (ptr g))(k2:Nat)(b2:BoxC W (L.P W0.heap.size) (.pointer (some ⟨k2,0,none⟩)) (.string ⟨t.toArray⟩)):
 Calls Tryz.prog 212 #[.pointer (some ⟨k1,0,none⟩),.pointer (some ⟨k2,0,none⟩)] W (SO (stp E (.want 8 t) σ) W0 g s E tv W L σ.N.length σ.C.length):=by
 obtain⟨R,hR⟩: ∃R:Rs PM,R=stp E (.want 8 t) σ:=⟨_,rfl⟩
 rw[<-hR]
 have HR:=zh hR
 have H0:=zh h
 have X0:=zh (MX.refl W0.heap.size W L σ.N.length σ.C.length)
 have B_r:=zh b1
 have cr0:=b1.cellv
 unfold ptr at cr0
 have B_t:=zh b2
 have ct0:=b2.cellv
 clear h hR b1 b2
 try unfold ptr
 go_enter Tryz.func212,Tryz.ntmps212
 go_wp2_with fail
 have q1:=qjf H0.out t
 try unfold ptr at q1
 refine q1.mono ?_
 clear q1
 intro e w1 h1
 rcases hr1:sgE E 8 t σ.i with x9 | ⟨b,j⟩
 ·obtain rfl:=qax (by first | exact qae hr1 | exact qag hr1 | exact qaf hr1)
  rw[hr1]at h1
  obtain⟨⟨u,pv,rfl⟩,hb⟩:=h1
  have HB9:=zh hb
  have HR1:=zh hr1
  have e9:R=.error .die:=by
   have hr1:=HR1.out;rw[HR.out];try simp[stp,msE,hr1,bind,Except.bind,pure,Except.pure,Except.map]
  subst e9
  clear hb hr1
  go_wp2_with fail
  exact⟨rfl,⟨_,_,rfl⟩,HB9.out⟩
 ·rw[hr1]at h1
  have HR1:=zh hr1
  obtain⟨rfl,hm,hx⟩:=h1
  have H1:=zh hm
  have Y1:=zh hx
  have X1:=zh (X0.out.trans Y1.out)
  have B_r_1:=zh (Y1.out.box B_r.out)
  have cr1:=B_r_1.out.cellv
  unfold ptr at cr1
  have B_t_1:=zh (Y1.out.box B_t.out)
  have ct1:=B_t_1.out.cellv
  clear hm hx hr1
  cases b
  ·have e9:R=.error .die:=by
    have hr1:=HR1.out;rw[HR.out];try simp[stp,msE,hr1,bind,Except.bind,pure,Except.pure,Except.map]
   subst e9
   go_wp2_with fail
   refine(qat _).mono ?_
   rintro e w9 ⟨⟨u,pv,rfl⟩,rfl⟩
   go_wp2_with fail
   exact⟨rfl,⟨_,_,rfl⟩,H1.out.bel⟩
  ·go_wp2_with fail
   refine(qas _).mono ?_
   rintro e w9 ⟨rfl,rfl⟩
   have e9:R=.ok (σ.at_ j):=by
    have hr1:=HR1.out;rw[HR.out];try simp[stp,msE,hr1,bind,Except.bind,pure,Except.pure,Except.map]
   subst e9
   go_wp2_with fail
   go_end0
   exact⟨rfl,L,H1.out,X1.out⟩
theorem qst(h:MM W0 g s E tv W L σ)(hk:σ.k.length<=274877906944):
 Calls Tryz.prog 192 #[.pointer (some ⟨g,0,none⟩)] W (SO (stp E .segm σ) W0 g s E tv W L σ.N.length σ.C.length):=by
 obtain⟨R,hR⟩: ∃R:Rs PM,R=stp E .segm σ:=⟨_,rfl⟩
 rw[<-hR]
 have HR:=zh hR
 have H0:=zh h
 have X0:=zh (MX.refl W0.heap.size W L σ.N.length σ.C.length)
 have HK:=zh hk
 clear h hR hk
 try unfold ptr
 go_enter Tryz.func192,Tryz.ntmps192
 have V1:=zh ((IsC.val:IsC W (L.P W0.heap.size) g L.A L.B σ.N.length σ.C.length _ .val))
 have V2:=zh ((IsC.sized:IsC W (L.P W0.heap.size) g L.A L.B σ.N.length σ.C.length _ .sized))
 go_wp2_with fail
 refine(qbh H0.out _ (by simp) [_,_] [.val,.sized] 2 rfl (zJ HK.out (by decide)) (by decide) _ ⟨V1.out,⟨V2.out,trivial⟩⟩).mono ?_
 rintro e w3 ⟨rfl,M3,hm,hx⟩
 have H3:=zh hm
 have Y3:=zh hx
 have X3:=zh (X0.out.trans Y3.out)
 have v1_3:=zh (Y3.out.isc V1.out)
 have v2_3:=zh (Y3.out.isc V2.out)
 clear hm hx
 have e9:R=.ok (σ.plan [.val,.sized]):=by
  rw[HR.out];try simp[stp,bind,Except.bind,pure,Except.pure,Except.map]
 subst e9
 go_wp2_with fail
 go_end0
 exact⟨rfl,M3,H3.out,X3.out⟩
theorem qs8(h:MM W0 g s E tv W L σ)(hk:σ.k.length<=274877906944):
 Calls Tryz.prog 143 #[.pointer (some ⟨g,0,none⟩)] W (SO (stp E .cond σ) W0 g s E tv W L σ.N.length σ.C.length):=by
 obtain⟨R,hR⟩: ∃R:Rs PM,R=stp E .cond σ:=⟨_,rfl⟩
 rw[<-hR]
 have HR:=zh hR
 have H0:=zh h
 have X0:=zh (MX.refl W0.heap.size W L σ.N.length σ.C.length)
 have HK:=zh hk
 clear h hR hk
 try unfold ptr
 go_enter Tryz.func143,Tryz.ntmps143
 obtain⟨M1,hm,hx,ha,hl⟩:=H0.out.new0E 25 ⟨#[]⟩
 have An:=zh (show M1.A σ.N.length=_ from ha)
 have Nbn:=zh (show σ.N.length<_ from hl)
 have H1:=zh hm
 have Y1:=zh hx
 have X1:=zh (X0.out.trans Y1.out)
 clear hm hx ha hl
 go_wp2_with fail
 have q2:=qds H1.out 1
 try unfold ptr at q2
 refine q2.mono ?_
 clear q2
 rintro e w2 ⟨v1,rfl,hv,hb⟩
 obtain⟨fK2,fF2,fC2,rfl⟩:=hv.fn
 have V2:=zh hv
 have H2:=zh (H1.out.below hb)
 have Y2:=zh (H1.out.mxb hb)
 have X2:=zh (X1.out.trans Y2.out)
 have An_2:=zh ((Y2.out.A _ Nbn.out).trans An.out)
 have Nbn_2:=zh (zK Nbn.out Y2.out.N)
 clear hv hb
 go_wp2_with fail
 have q3:=qzx H2.out σ.N.length [44] (.expr 1) _ V2.out Nbn_2.out
 rw[An_2.out]at q3
 try unfold ptr at q3
 refine q3.mono ?_
 clear q3
 rintro e w3 ⟨v2,rfl,hv,hb⟩
 obtain⟨fK3,fF3,fC3,rfl⟩:=hv.fn
 have V3:=zh hv
 have H3:=zh (H2.out.below hb)
 have Y3:=zh (H2.out.mxb hb)
 have X3:=zh (X2.out.trans Y3.out)
 have v1_3:=zh (Y3.out.isc V2.out)
 have An_3:=zh ((Y3.out.A _ Nbn_2.out).trans An_2.out)
 have Nbn_3:=zh (zK Nbn_2.out Y3.out.N)
 clear hv hb
 go_wp2_with fail
 refine(qbh H3.out _ (by simp) [_] [.row σ.N.length [44] (.expr 1)] 1 rfl (zJ HK.out (by decide)) (by decide) _ ⟨V3.out,trivial⟩).mono ?_
 rintro e w4 ⟨rfl,M4,hm,hx⟩
 have H4:=zh hm
 have Y4:=zh hx
 have X4:=zh (X3.out.trans Y4.out)
 have v1_4:=zh (Y4.out.isc v1_3.out)
 have v2_4:=zh (Y4.out.isc V3.out)
 have An_4:=zh ((Y4.out.A _ Nbn_3.out).trans An_3.out)
 have Nbn_4:=zh (zK Nbn_3.out Y4.out.N)
 clear hm hx
 have e9:R=.ok ((σ.new (nk 25 [])).plan [.row σ.N.length [44] (.expr 1)]):=by
  rw[HR.out];try simp[stp,bind,Except.bind,pure,Except.pure,Except.map]
 subst e9
 go_wp2_with fail
 go_end0
 exact⟨rfl,M4,H4.out,X4.out⟩
theorem IsC.enter{P:Nat->Prop}{A B:Nat->Nat}{nN nC:Nat}{K:FuncId}{fF fC:Array Value}{st:Stp}(h:IsC W P g A B nN nC (.func (.func K) fF fC) st): ∀args w,(callFunc K args).run Tryz.prog w=.ok (.enter K args) w:=by
 intro args w
 cases h<;>go_simp
theorem qz3{k:Int}{t:Bs}{i:Nat}{b:Bad}(h:msE E k t i=.error b):b=.die:=by
 unfold msE at h
 cases hs:sgE E k t i with
 | error b'=>
  have e:=qax (qae hs)
  subst e
  rw[hs]at h
  exact(Except.error.inj h).symm
 | ok x=>
  rw[hs]at h
  have h2:(if x.1=true then(.ok x.2:Rs Nat)else .error .die)=.error b:=h
  split at h2
  ·cases h2
  ·exact(Except.error.inj h2).symm
theorem qto(h:MM W0 g s E tv W L σ){k:Int}{t:Bs}{K:FuncId}{fF fC:Array Value}(hv:IsC W (L.P W0.heap.size) g L.A L.B σ.N.length σ.C.length (.func (.func K) fF fC) (.want k t)):
 Calls Tryz.prog K (fF++fC) W (SO (stp E (.want k t) σ) W0 g s E tv W L σ.N.length σ.C.length):=by
 cases hv with
 | wantS _ p q h1 h2=>
  obtain⟨b1,rfl,r1⟩:=id h1
  obtain⟨b2,rfl,r2⟩:=id h2
  exact qi3 h t b1 h1 b2 h2
 | wantW _ p q h1 h2=>
  obtain⟨b1,rfl,r1⟩:=id h1
  obtain⟨b2,rfl,r2⟩:=id h2
  exact qi4 h t b1 h1 b2 h2
end
end Go.Proofs.YtdhadeeajgoedaaGreat
