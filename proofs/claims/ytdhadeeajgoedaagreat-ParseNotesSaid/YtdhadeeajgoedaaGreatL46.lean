import Derived.Test.YtdhadeeajgoedaaGreatL03
set_option maxRecDepth 100000
set_option maxHeartbeats 4000000
set_option linter.all false
open List renaming drop_succ_cons→zA
namespace Go.Proofs.YtdhadeeajgoedaaGreat
open Go.RowKit Go.PlainAid
theorem qk1: ∀ {l:List Nd} {i:Nat} {x:Nd},l[i]?=some x->qe0 (l.drop i)=nts x++qe0 (l.drop (i+1))
 | [],_,_,h=>by simp at h
 | y::t,0,x,h=>by
  simp only[List.getElem?_cons_zero,Option.some.injEq]at h
  subst h
  simp only[List.drop_zero,qe0,zA]
 | y::t,i+1,x,h=>by
  simp only[List.getElem?_cons_succ]at h
  simp only[zA]
  exact qk1 h
end Go.Proofs.YtdhadeeajgoedaaGreat
