import Derived.Tactics
import Derived.Tactics2
import Derived.Scope
import Derived.WalkMore
set_option maxRecDepth 100000
set_option maxHeartbeats 4000000
set_option linter.all false
namespace Go.Proofs.YtdhadeeajgoedaaGreat
open Go
def qdf(J:Nat->Act->World->Prop)(Q:Exit->Act->World->Prop):Exit->Act->World->Prop
 | .goto l,a,w=>J l a w
 | e,a,w=>Q e a w
section
variable{P:Program}{a:Act}{w:World}{Q:Exit->Act->World->Prop}{J:Nat->Act->World->Prop}
theorem qdb(l:Nat):qdf J Q (.goto l) a w=J l a w:=rfl
theorem qcv:qdf J Q .normal a w=Q .normal a w:=rfl
theorem qgn:qdf J Q .ret a w=Q .ret a w:=rfl
theorem qt9{c:Code}{Q R:Exit->Act->World->Prop}(h: ∀e a w,Q e a w->R e a w)(hc:c.wp P Q a w):c.wp P R a w:=by
 intro b k cs
 obtain⟨e,a₁,w₁,hq,harr⟩:=hc b k cs
 exact⟨e,a₁,w₁,h _ _ _ hq,harr⟩
end
end Go.Proofs.YtdhadeeajgoedaaGreat
