import Derived.Test.YtdhadeeajgoedaaGreatL26
import Derived.Deep.RegionLaw
set_option maxRecDepth 100000
set_option maxHeartbeats 4000000
set_option linter.all false
namespace Go.Proofs.YtdhadeeajgoedaaGreat
open Go.RowKit Go.PlainAid
theorem qhh{w:World}{ops:Array Oper}{o:Oper}{a:Act}{K:Act->World->Prop}{Q:Exit->Act->World->Prop}{F:Prop}(hgd:o.guard=none)(s' x':Operand)
 (ho:o.op=.call { callee:=.builtin .append,args:= #[s',x'],argTypes:= #[22,22] }) (base:Nat) (v:Value) (I:List ByteArray) (hs:a.eval s'=v) (hown:Txs w base v I) (q:Nat) (x:ByteArray) (hx:a.eval x'=.slice (some ⟨q,0,none⟩) 1 1)
 (hc:w.cell? ⟨q,0,none⟩=some (.string x)) (hl:I.length<=1048576) (hbase:base<=w.heap.size)
 (h: ∀v' w',Txs w' base v' (I++[x])->w.grownBy w' v.ownBlock->K (a.put o.dst v') w'):
 if Region.wanted o (yielded ops a.tmps)=true then Oper.wp Tryz.prog o a w K Q else F:=by
 obtain⟨i0,hi,hz0,hz1,hz2⟩:=info_parts ql3
 obtain⟨v',w',hrun,h1,h2,h3⟩:=qc6 (P:=Tryz.prog) w base 22 o.type 9 i0 _ 1 16 Tryz.underlying22 hi hz0 hz1 hz2 rfl (by decide) v I.length (I.map Value.string) hown ⟨q,0,none⟩ 1 1 [.string x] rfl
  (fun j y hj=>by
   match j,hj with
   | 0,hj=>simp only[List.getElem?_cons_zero,Option.some.injEq]at hj;subst hj;rw[show(⟨q,0,none⟩:Addr).add 0=⟨q,0,none⟩by simp[Addr.add]];exact hc
   | j+1,hj=>simp at hj)
  (by intro y hy;simp only[List.mem_cons,List.not_mem_nil,or_false]at hy;subst hy;rfl) (by unfold maxLen;omega) (by omega) hbase
 have hw:Region.wanted o (yielded ops a.tmps)=true:=by simp[Region.wanted,hgd]
 rw[if_pos hw]
 unfold Oper.wp
 simp[execOp,ho,resolve,invoke,builtin,hs,hx,hrun,Result.andThen]
 refine h v' w' ?_ h2
 unfold Txs
 rw[List.length_append,List.map_append]
 exact h1
theorem qtr(E:Env){q N:Nat}(h:q<N):cms E (N-q) q=(E.tk q).2.1::cms E (N- (q+1)) (q+1):=by
 rw[show N-q=(N- (q+1))+1 by omega]
 rfl
theorem qkx(E:Env): ∀n i,(cms E n i).length=n
 | 0,_=>rfl
 | n+1,i=>by simp only[cms,List.length_cons,qkx E n (i+1)]
theorem qt4{W:World}{b k:Nat}{v:Value}{L:List ByteArray}(h:Txs W b v L)(hk:v.ownBlock=some k):b<=k/\k<W.heap.size:=World.ownsRow.lt h k hk
theorem qw5{W:World}{b g:Nat}{v:Value}{L:List ByteArray}(h:Txs W b v L)(hg:g<b){j:Nat}{u:Value}:Txs (W.setCell ⟨g,j,none⟩ u) b v L:=
 ownsRow_setCell_other h (a:=⟨g,j,none⟩) (fun e=>by have:=(qt4 h e).1;have e2:g<b:=hg;simp only at this;omega) u
theorem qbj{W:World}{b:Nat}{v:Value}{L:List ByteArray}(h:Txs W b v L): ∃a c,v=.slice a L.length c:=by
 obtain⟨-,⟨rfl,h0⟩ | ⟨g,cap,cur,rfl,-⟩⟩:=h
 ·exact⟨_,_,by rw[h0]⟩
 ·exact⟨_,_,rfl⟩
theorem txs_in{W:World}{base:Nat}{v:Value}{L:List ByteArray}(h:Txs W base v L):StIn W (fun k=>base<=k) v L:=by
 obtain⟨h1,⟨rfl,h2⟩ | ⟨g,cap,cur,rfl,hb,hg,hn,hc,hz,ht⟩⟩:=h
 ·exact⟨none,0,by rw[h2],fun h0=>by omega⟩
 ·refine⟨some ⟨g,0,none⟩,cap,rfl,fun _=>⟨g,0,rfl,hb,lt_of_block hg,fun i x hx=>?_⟩⟩
  have hi:i<L.length:=(List.getElem?_eq_some_iff.1 hx).1
  rw[cell_of_row W g (0+i) _ _ _ hg]
  have e:(cur.toList.take (L.length*1))[i]?=(L.map Value.string)[i]?:=by rw[ht]
  rw[List.getElem?_take_of_lt (by omega),Array.getElem?_toList,List.getElem?_map,hx]at e
  rw[Nat.zero_add]
  exact e
end Go.Proofs.YtdhadeeajgoedaaGreat
