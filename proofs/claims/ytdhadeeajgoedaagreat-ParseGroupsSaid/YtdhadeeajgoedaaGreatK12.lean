/-
  What the claims stand on: RefIntMath.
-/
import Derived.Test.YtdhadeeajgoedaaGreatK09
import Derived.Test.YtdhadeeajgoedaaGreatK10
import Derived.Deep.LoopGhost
import Derived.Lib.Bytealg
set_option maxRecDepth 100000
set_option maxHeartbeats 4000000
set_option linter.unusedVariables false
set_option linter.unusedSimpArgs false
namespace Go.Proofs.YtdhadeeajgoedaaGreat
open Go.RowKit Go.PlainAid
theorem qk0(s:ByteArray)(b:Int)(a:Nat)(un:Bool): ∀m i,s.size-i<=m->(∀x,i<=x->x<ru s b a un i->okk s b a un x=true)/\(ru s b a un i<s.size->okk s b a un (ru s b a un i)=false):=by
 intro m
 induction m with
 | zero=>intro i h;rw[qgc (by omega)];exact⟨fun x h1 h2=>by omega,fun h1=>by omega⟩
 | succ m ih=>
  intro i h
  by_cases hi:i<s.size
  ·cases ho:okk s b a un i
   ·rw[qk1 ho];exact⟨fun x h1 h2=>by omega,fun _=>ho⟩
   ·rw[qvr hi ho]
    obtain⟨h1,h2⟩:=ih (i+1) (by omega)
    refine⟨fun x hx1 hx2=>?_,h2⟩
    by_cases hx:x=i
    ·rw[hx];exact ho
    ·exact h1 x (by omega) hx2
  ·rw[qgc hi];exact⟨fun x h1 h2=>by omega,fun h1=>by omega⟩
theorem ru_is{s:ByteArray}{b:Int}{a:Nat}{un:Bool}{i p:Nat}(hi:i<=p)(hp:p<=s.size)(h: ∀x,i<=x->x<p->okk s b a un x=true)(he:p<s.size->okk s b a un p=false):ru s b a un i=p:=by
 obtain⟨h1,h2⟩:=qk0 s b a un s.size i (by omega)
 obtain⟨g1,g2⟩:=qjz s b a un s.size i (by omega)
 have g3:=g2 (by omega)
 by_cases c1:ru s b a un i<p
 ·have:=h _ g1 c1
  rw[h2 (by omega)]at this;cases this
 ·by_cases c2:p<ru s b a un i
  ·have:=h1 p hi c2
   rw[he (by omega)]at this;cases this
  ·omega
theorem qt6{c:Int}(h:dg c<10):48<=c/\c<=57/\dg c=c-48:=by
 unfold dg at h⊢
 split at h
 ·rename_i h';rw[if_pos h'];exact⟨h'.1,h'.2,rfl⟩
 ·split at h
  ·omega
  ·split at h
   ·omega
   ·omega
end Go.Proofs.YtdhadeeajgoedaaGreat
