import Derived.Test.YtdhadeeajgoedaaGreatL26
import Derived.Deep.MidRow
set_option maxRecDepth 100000
set_option maxHeartbeats 4000000
set_option linter.all false
open Array renaming length_toList→zA
open List renaming drop_of_length_le→zB,flatten_cons→zC,getElem?_set_self→zD,length_append→zE,length_cons→zF,length_set→zG,length_take→zH,nil_append→zI,size_toArray→zJ,take_of_length_le→zK
open Nat renaming le_refl→zL,mul_le_mul_right→zM
namespace Go.Proofs.YtdhadeeajgoedaaGreat
open Go.RowKit Go.PlainAid
theorem qfv{w:World}{ops:Array Oper}{rest:List Oper}{pos:String}{af:Array Edge}{a:Act}{Q:Exit->Act->World->Prop}{p q:Tmp}{ty:TypeId}(b o:Nat)(c:List Value)
 (hx:a.eval (.tmp p)=.pointer (some ⟨b,o,none⟩)) (hy:a.eval (.tmp q)=.agg c.toArray) (ht:w.there b o 7) (h7:c.length=7) (h1: ∀u∈c,u.oneCell'=true)
 (h:wpList Tryz.prog ops Q rest (a.put none undef) (w.setCells b o c)):wpList Tryz.prog ops Q ({ dst:=none,op:=.store 29 (.tmp p) (.tmp q),type:=ty,pos:=pos,after:=af,guard:=none } ::rest) a w:=
 wpList_store_mid rfl 29 (.tmp p) (.tmp q) rfl b o c.toArray hx hy (by rw[zJ,h7];exact ht) (by rw[zJ,h7];exact qye) (all_oneCell_toArray h1) h
theorem qdn(b:Nat): ∀(vs:List Value) (o:Nat) (W:World),(W.setCells b o vs).heap.size=W.heap.size
 | [],_,_=>rfl
 | v::t,o,W=>by
  show((W.setCell ⟨b,o,none⟩ v).setCells b (o+1) t).heap.size=_
  rw[qdn b t]
  simp
theorem qcu(b:Nat): ∀(vs:List Value) (o:Nat) (W:World) (k:Nat),k≠b->(W.setCells b o vs).heap[k]?=W.heap[k]?
 | [],_,_,_,_=>rfl
 | v::t,o,W,k,h=>by
  show((W.setCell ⟨b,o,none⟩ v).setCells b (o+1) t).heap[k]?=_
  rw[qcu b t _ _ k h]
  exact Below.heap_setCell _ _ _ _ h
theorem qhd{P:Nat->Prop}(W:World){B:Nat}(hB: ¬P B)(o:Nat)(vs:List Value):Keeps P W (W.setCells B o vs):=
 ⟨by rw[qdn];exact zL _,fun g hp _=>qcu _ _ _ _ _ (fun e=>hB (e ▸ hp))⟩
theorem qfp{b:Nat}{t:TypeId}: ∀(vs:List Value) (o:Nat) (W:World) (cur:Array Value),W.heap[b]?=some (.cells cur t (0,0))->o+vs.length<=cur.size->(W.setCells b o vs).heap[b]?=some (.cells (cur.toList.take o++vs++cur.toList.drop (o+vs.length)).toArray t (0,0))
 | [],o,W,cur,h,hl=>by
  show W.heap[b]?=_
  rw[h]
  simp
 | v::r,o,W,cur,h,hl=>by
  show((W.setCell ⟨b,o,none⟩ v).setCells b (o+1) r).heap[b]?=_
  have h1:=heap_setCell_same W b o cur t v h
  rw[qfp r (o+1) _ (cur.setIfInBounds o v) h1 (by rw[Array.size_setIfInBounds];simp only[zF]at hl;omega)]
  simp only[zF]at hl⊢
  have hs:(cur.setIfInBounds o v).toList=cur.toList.set o v:=by simp
  have e1:(cur.toList.set o v).take (o+1)=cur.toList.take o++[v]:=by
   rw[List.take_add_one,zD (by rw[zA];omega),List.take_set_of_le (zL o)]
   rfl
  have e2:(cur.toList.set o v).drop (o+1+r.length)=cur.toList.drop (o+(r.length+1)):=by
   rw[List.drop_set_of_lt (by omega)]
   congr 1
   omega
  rw[hs,e1,e2]
  simp
theorem qmk: ∀(css:List (List Value)) (_: ∀c∈css,c.length=7) (i:Nat) (c:List Value),i<css.length->(css.set i c).flatten=css.flatten.take (i*7)++c++css.flatten.drop (i*7+7)
 | [],_,_,_,h=>by simp at h
 | d::t,hs,0,c,_=>by
  have hd:=hs d (by simp)
  rw[List.set_cons_zero,zC,zC,Nat.zero_mul,List.take_zero,zI,Nat.zero_add,List.drop_append_of_le_length (by omega),zB (by omega),zI]
 | d::t,hs,i+1,c,h=>by
  have hd:=hs d (by simp)
  simp only[zF]at h
  rw[List.set_cons_succ,zC,zC,qmk t (fun c hc=>hs c (by simp[hc])) i c (by omega)]
  rw[List.take_append,zK (show d.length<=(i+1)*7 by omega),List.drop_append,zB (show d.length<=(i+1)*7+7 by omega),zI,hd]
  rw[show(i+1)*7-7=i*7 by omega,show(i+1)*7+7-7=i*7+7 by omega]
  simp
theorem qlw{L c:List Value}(o N:Nat)(hc:c.length=7)(ho:o+7<=N)(hN:N<=L.length):(L.take o++c++L.drop (o+7)).take N=(L.take N).take o++c++(L.take N).drop (o+7):=by
 have h1:(L.take o).length=o:=by rw[zH];omega
 have h2:((L.take N).take o).length=o:=by rw[zH,zH];omega
 have e1:(L.take N).take o=L.take o:=by rw[List.take_take,Nat.min_eq_left (show o<=N by omega)]
 have e2:(L.take N).drop (o+7)=(L.drop (o+7)).take (N- (o+7)):=by rw[List.drop_take]
 have e3:(L.take o++c).length=o+7:=by rw[zE,h1,hc]
 rw[e1,e2,List.take_append,zK (by omega),e3]
theorem OwnN.put{W:World}{P:Nat->Prop}{base g:Nat}{cap n:Nat}{T:List Nd}(h:OwnN W P base (.slice (some ⟨g,0,none⟩) n cap) T)(q:Nat)(hq:q<T.length){c':List Value}{x':Nd}(hn:NdIn W (fun b=>P b/\b≠g) c' x'):
 OwnN (W.setCells g (q*7) c') P base (.slice (some ⟨g,0,none⟩) n cap) (T.set q x'):=by
 obtain⟨css,hl,hc,⟨hx,h0 | ⟨g',cap',cur,hv,hb,hg,hn2,hcm,hz,ht⟩⟩,hp⟩:=h
 ·exact absurd h0.1 (by simp)
 ·simp only[Value.slice.injEq,Option.some.injEq,Addr.mk.injEq,and_true]at hv
  obtain⟨rfl,rfl,rfl⟩:=hv
  have hsv:=OwnN.sevens hl hc
  have hs7: ∀c∈css,c.length=7:=fun c hc=>(hsv c hc).1
  have h7:=hn.seven.1
  have hk: ∀P':Nat->Prop,(∀b,P' b->b≠g)->Keeps P' W (W.setCells g (q*7) c'):=fun P' hp'=>qhd W (fun h=>hp' g h rfl) _ _
  have hlen:q*7+7<=T.length*7:=by omega
  refine⟨css.set q c',by rw[zG,zG,hl],fun i c x hci hxi=>?_,?_,hp⟩
  ·by_cases he:i=q
   ·subst he
    rw[zD (by omega)]at hci
    rw[zD hq]at hxi
    simp only[Option.some.injEq]at hci hxi
    subst hci hxi
    exact(hn.keep (hk _ (fun b hb=>hb.2))).weak (fun b hb _=>⟨hb.1,by simp only[Value.ownBlock,ne_eq,Option.some.injEq];exact fun e=>hb.2 e.symm⟩)
   ·rw[List.getElem?_set_ne (fun e=>he e.symm)]at hci hxi
    exact(hc i c x hci hxi).keep (hk _ (fun b hb e=>hb.2 (by rw[e];rfl)))
  ·rw[zG]
   have hcs:cur.size=cap*7:=hz
   have hcap:T.length*7<=cap*7:=zM 7 hn2
   refine⟨?_,.inr ⟨g,cap,_,rfl,hb,qfp c' (q*7) W cur hg (by rw[h7];omega),hn2,hcm,?_,?_⟩⟩
   ·rw[qdt _ (fun c hm=>by
     rcases List.mem_or_eq_of_mem_set hm with h | h
     ·exact hs7 c h
     ·rw[h];exact h7),zG,hl]
   ·simp only[zJ,zE,zH,List.length_drop,zA,h7]
    omega
   ·rw[qmk css hs7 q c' (by omega),<-ht,h7]
    exact qlw (q*7) (T.length*7) h7 hlen (by
     have e:cur.toList.length=cap*7:=by rw[zA];exact hcs
     show T.length*7<=_
     rw[e];exact hcap)
theorem OwnN.last{W:World}{P:Nat->Prop}{base g:Nat}{cap n:Nat}{T:List Nd}{z:Nd}(h:OwnN W P base (.slice (some ⟨g,0,none⟩) n cap) (T++[z])){c':List Value}{x':Nd}(hn:NdIn W (fun b=>P b/\b≠g) c' x'):
 OwnN (W.setCells g (T.length*7) c') P base (.slice (some ⟨g,0,none⟩) n cap) (T++[x']):=by
 have:=h.put T.length (by simp) hn
 rw[List.set_append_right _ _ (zL _),Nat.sub_self]at this
 exact this
theorem OwnN.there{W:World}{P:Nat->Prop}{base g:Nat}{cap n:Nat}{T:List Nd}(h:OwnN W P base (.slice (some ⟨g,0,none⟩) n cap) T)(q:Nat)(hq:q<T.length):W.there g (q*7) 7:=by
 obtain⟨css,hl,hc,⟨hx,h0 | ⟨g',cap',cur,hv,hb,hg,hn2,hcm,hz,ht⟩⟩,hp⟩:=h
 ·exact absurd h0.1 (by simp)
 ·simp only[Value.slice.injEq,Option.some.injEq,Addr.mk.injEq,and_true]at hv
  obtain⟨rfl,rfl,rfl⟩:=hv
  have hcap:T.length*7<=cap*7:=zM 7 hn2
  intro j hj
  refine⟨?_,qaw hg _⟩
  rw[cell_of_row W g (q*7+j) _ _ _ hg,Array.getElem?_eq_getElem (by omega)]
  rfl
theorem OwnN.cells{W:World}{P:Nat->Prop}{base:Nat}{v:Value}{T:List Nd}(h:OwnN W P base v T)(q:Nat)(x:Nd)(hx:T[q]?=some x):
 ∃g cap c,v=.slice (some ⟨g,0,none⟩) T.length cap/\W.rangeAt g (q*7) c/\NdIn W (fun b=>P b/\b≠g) c x:=by
 have hq:q<T.length:=(List.getElem?_eq_some_iff.1 hx).1
 obtain⟨css,hl,hc,⟨hxl,⟨-,h0⟩ | ⟨g,cap,cur,rfl,hb,hg,hn2,hcm,hz,ht⟩⟩,hp⟩:=h
 ·omega
 ·have hsv:=OwnN.sevens hl hc
  have hci:css[q]?=some css[q]:=List.getElem?_eq_getElem (by omega)
  refine⟨g,cap,css[q],rfl,fun j y hj=>?_,(hc q css[q] x hci hx).weak (fun b hb _=>⟨hb.1,fun e=>hb.2 (by rw[e];rfl)⟩)⟩
  have h7:=(hsv css[q] (List.getElem_mem _)).1
  have hj7:j<7:=by have:=(List.getElem?_eq_some_iff.1 hj).1;omega
  have hf:=qu4 css (fun c hc=>(hsv c hc).1) q css[q] j hci hj7
  rw[hj,<-ht,List.getElem?_take_of_lt (by omega),Array.getElem?_toList]at hf
  rw[cell_of_row W g (q*7+j) _ _ _ hg]
  exact hf
end Go.Proofs.YtdhadeeajgoedaaGreat
