import Derived.Test.YtdhadeeajgoedaaGreatL03
set_option maxRecDepth 100000
set_option maxHeartbeats 4000000
set_option linter.all false
open List renaming drop_succ_cons→zA
namespace Go.Proofs.YtdhadeeajgoedaaGreat
open Go.RowKit Go.PlainAid
theorem qgo: ∀ {l:List Nd} {i:Nat} {x:Nd},l[i]?=some x->qdj (l.drop i)=lts x++qdj (l.drop (i+1))
 | [],_,_,h=>by simp at h
 | y::t,0,x,h=>by
  simp only[List.getElem?_cons_zero,Option.some.injEq]at h
  subst h
  simp only[List.drop_zero,qdj,zA]
 | y::t,i+1,x,h=>by
  simp only[List.getElem?_cons_succ]at h
  simp only[zA]
  exact qgo h
theorem qok(x:ByteArray):x.toList=x.data.toList:=by
 have h0: ∀X:List UInt8,(⟨X.toArray⟩:ByteArray).toList=X:=fun X=>by simp
 have h:=h0 x.data.toList
 have e:(⟨x.data.toList.toArray⟩:ByteArray)=x:=by simp
 rw[e]at h
 exact h
end Go.Proofs.YtdhadeeajgoedaaGreat
