import Derived.Test.YtdhadeeajgoedaaGreatL45
import Derived.Test.YtdhadeeajgoedaaGreatL47
import Derived.Test.YtdhadeeajgoedaaGreatL48
set_option maxRecDepth 100000
set_option maxHeartbeats 4000000
set_option linter.all false
open List renaming append_assoc→zA,append_cancel_right→zB
namespace Go.Proofs.YtdhadeeajgoedaaGreat
open Go.RowKit Go.PlainAid
def cmF(T:List Tok):Nat->List ByteArray
 | 0=>[]
 | i+1=>cmF T i++(if(T.getD i tk0).1=11 then[(T.getD i tk0).2.1]else[])
theorem qtq(T:List Tok){a b:Nat}(h:a<=b): ∃r,cmF T b=cmF T a++r:=by
 induction b with
 | zero=>obtain rfl:a=0:=by omega
         exact⟨[],by simp⟩
 | succ b ih=>
  by_cases hb:a=b+1
  ·subst hb;exact⟨[],by simp⟩
  ·obtain⟨r,hr⟩:=ih (by omega)
   exact⟨r++_,by simp only[cmF];rw[hr,zA]⟩
theorem qkw(T:List Tok): ∀i,(cmF T i).length<=i
 | 0=>Nat.le_refl _
 | i+1=>by
  have:=qkw T i
  simp only[cmF,List.length_append]
  split
  ·show _+1<=_;omega
  ·show _+0<=_;omega
theorem qj3(E:Env): ∀i,i<=E.to->RN E 0=cmF E.T i++RN E i
 | 0,_=>by simp[cmF]
 | i+1,h=>by
  rw[qj3 E i (by omega),qlj (by omega)]
  simp only[cmF,zA]
  rfl
theorem rn_out(E:Env){i:Nat}(h:E.to<=i):RN E i=RN E E.to:=by
 unfold RN
 rw[show E.to-i=0 by omega,Nat.sub_self];rfl
section
variable{s:ByteArray}{L:List Tk3}
theorem qnr{lv:Int}{o:Out}(h:pE s L (.expr lv) 0 (L.length:Nat)=some o):nts o.x=cmF (qcx s L) (min o.p.i L.length):=by
 obtain⟨m,h1,h2,-,-⟩:=qiw (i:=0) h
 obtain⟨-,-,-,h3⟩:=(qs3 (qdq s L L.length) m).expr_ lv (pz 0) o h1 h2 trivial
 have h3:RN (qdq s L L.length) 0=nts o.x++RN (qdq s L L.length) o.p.i:=h3
 rcases Nat.le_total o.p.i L.length with h4 | h4
 ·rw[qj3 (qdq s L L.length) o.p.i h4]at h3
  rw[Nat.min_eq_left h4]
  exact(zB h3).symm
 ·rw[rn_out (qdq s L L.length) h4,qj3 (qdq s L L.length) L.length (Nat.le_refl _)]at h3
  rw[Nat.min_eq_right h4]
  exact(zB h3).symm
end
end Go.Proofs.YtdhadeeajgoedaaGreat
