import Derived.Test.YtdhadeeajgoedaaGreatL45
import Derived.Test.YtdhadeeajgoedaaGreatL51
import Derived.Test.YtdhadeeajgoedaaGreatL52
set_option maxRecDepth 100000
set_option maxHeartbeats 4000000
set_option linter.all false
namespace Go.Proofs.YtdhadeeajgoedaaGreat
open Go.RowKit Go.PlainAid
def ltF(T:List Tok):Nat->List ByteArray
 | 0=>[]
 | i+1=>ltF T i++(if ltk (T.getD i tk0).1=true then[(T.getD i tk0).2.1]else[])
theorem qio(T:List Tok): ∀i,(ltF T i).length<=i
 | 0=>Nat.le_refl _
 | i+1=>by
  have:=qio T i
  simp only[ltF,List.length_append]
  split
  ·show _+1<=_;omega
  ·show _+0<=_;omega
theorem qmo(E:Env): ∀i,i<=E.to->LR E 0=ltF E.T i++LR E i
 | 0,_=>by simp[ltF]
 | i+1,h=>by
  rw[qmo E i (by omega),qin (by omega)]
  simp only[ltF,List.append_assoc]
  rfl
section
variable{s:ByteArray}{L:List Tk3}
theorem qpv{lv:Int}{o:Out}(h:pE s L (.expr lv) 0 (L.length:Nat)=some o)(hH:NoH (qdq s L L.length) (min o.p.i L.length))(hi:o.p.i<=L.length):lts o.x=ltF (qcx s L) (min o.p.i L.length):=by
 obtain⟨m,h1,h2,-,-⟩:=qiw (i:=0) h
 rw[Nat.min_eq_left hi]at hH⊢
 have h3:=(qs2 hH m).expr_ lv (pz 0) o h1 h2 (Nat.le_refl _) trivial
 have h3:LR (qdq s L L.length) 0=lts o.x++LR (qdq s L L.length) o.p.i:=h3
 rw[qmo (qdq s L L.length) o.p.i hi]at h3
 exact(List.append_cancel_right h3).symm
end
end Go.Proofs.YtdhadeeajgoedaaGreat
