/-
  What the claims stand on: PmBare.
-/
import Derived.Test.YtdhadeeajgoedaaGreatK05
import Derived.Test.YtdhadeeajgoedaaGreatK35
set_option maxRecDepth 100000
set_option maxHeartbeats 4000000
set_option linter.unusedVariables false
set_option linter.unusedSimpArgs false
namespace Go.Proofs.YtdhadeeajgoedaaGreat
open Go.RowKit Go.PlainAid
def qia(k:Int)(t:ByteArray):Bool:=bare (nkt k t [])
theorem bare_t{k:Int}(t:ByteArray)(h:k=2\/k=3\/k=8\/k=9\/k=10\/k=11\/k=12):qia k t=true:=by
 rcases h with rfl | rfl | rfl | rfl | rfl | rfl | rfl<;>rfl
theorem bare_f{k:Int}(t:ByteArray)(h: ¬(k=2\/k=3\/k=8\/k=9\/k=10\/k=11\/k=12))(h1:k≠1):qia k t=false:=by
 have e1:(k==1)=false:=beq_false_of_ne h1
 simp only[not_or]at h
 simp[qia,bare,nkt,Nd.kd,h1,h]
theorem bare_1(t:ByteArray)(h:0<t.size):qia 1 t=(decide (beg (bt t 0)≠3)&&decide (bt t 0≠36)&&decide (bt t 0≠34)):=by
 obtain⟨⟨l⟩⟩:=t
 cases l with
 | nil=>exact absurd h (by decide)
 | cons c r=>
  show(match(ByteArray.mk ⟨c::r⟩).toList with | []=>false | c::_=>!(decide (48<=c.toNat)&&decide (c.toNat<=57))&&c !=36&&c !=34)=_
  rw[ByteArray.toList_eq]
  have hb:bt (ByteArray.mk ⟨c::r⟩) 0=(c.toNat:Int):=rfl
  rw[hb]
  show((!(decide (48<=c.toNat)&&decide (c.toNat<=57))&&c !=36)&&c !=34)=_
  have e36:(c !=36)=decide ((c.toNat:Int)≠36):=by
   by_cases h:c=36
   ·subst h;rfl
   ·have h2:c.toNat≠36:=fun e=>h (UInt8.toNat_inj.1 e)
    have h3:(c !=36)=true:=by simp[h]
    rw[h3]
    symm
    rw[decide_eq_true_eq]
    omega
  have e34:(c !=34)=decide ((c.toNat:Int)≠34):=by
   by_cases h:c=34
   ·subst h;rfl
   ·have h2:c.toNat≠34:=fun e=>h (UInt8.toNat_inj.1 e)
    have h3:(c !=34)=true:=by simp[h]
    rw[h3]
    symm
    rw[decide_eq_true_eq]
    omega
  have e3:(!(decide (48<=c.toNat)&&decide (c.toNat<=57)))=decide (beg (c.toNat:Int)≠3):=by
   have hi:beg (c.toNat:Int)=3↔48<=c.toNat/\c.toNat<=57:=by
    unfold beg
    constructor
    ·intro h
     split at h
     ·exact absurd h (by decide)
     ·split at h
      ·exact absurd h (by decide)
      ·split at h
       ·omega
       ·exact absurd h (by decide)
    ·intro h
     rw[if_neg (by omega),if_neg (by omega),if_pos (by omega)]
   rw[Bool.eq_iff_iff]
   simp only[Bool.not_eq_true',Bool.and_eq_false_iff,decide_eq_false_iff_not,decide_eq_true_eq,ne_eq,hi]
   omega
  rw[e36,e34,e3]
theorem bare_0:qia 1 ⟨#[]⟩=false:=by
 show(match(⟨#[]⟩:ByteArray).toList with | []=>false | c::_=>!(decide (48<=c.toNat)&&decide (c.toNat<=57))&&c !=36&&c !=34)=false
 rw[ByteArray.toList_eq]
theorem bareM{W:World}{B:Nat}{k:Int}{t:ByteArray}{lv nv tv:Value}{br bl:Bool}(h:NdB W B k t lv br bl nv tv):
 Calls Tryz.prog 149 #[.pointer (some ⟨B,0,none⟩)] W fun e w'=>e=.returned (.bool (qia k t))/\ ∃n,w'=W.drewN n:=by
 obtain⟨m0,m1,-,-,-,-,-⟩:=h.cells
 clear h
 by_cases h0:k=2\/k=3\/k=8\/k=9\/k=10\/k=11\/k=12
 ·have HB:=zh (bare_t t h0)
  rcases h0 with rfl | rfl | rfl | rfl | rfl | rfl | rfl
  all_goals go_enter Tryz.func149,Tryz.ntmps149
  all_goals go_wp2_with fail
  all_goals go_ret
  all_goals exact⟨by rw[HB.out];rfl,0,rfl⟩
 ·have h9:=h0
  simp only[not_or]at h9
  obtain⟨n2,n3,n8,n9,n10,n11,n12⟩:=h9
  have e2:(k==2)=false:=beq_false_of_ne n2
  have e3:(k==3)=false:=beq_false_of_ne n3
  have e8:(k==8)=false:=beq_false_of_ne n8
  have e9:(k==9)=false:=beq_false_of_ne n9
  have e10:(k==10)=false:=beq_false_of_ne n10
  have e11:(k==11)=false:=beq_false_of_ne n11
  have e12:(k==12)=false:=beq_false_of_ne n12
  by_cases h1:k=1
  ·subst h1
   clear n2 n3 n8 n9 n10 n11 n12 h0
   by_cases hz:t.size=0
   ·obtain rfl:=qqx hz
    clear hz
    go_enter Tryz.func149,Tryz.ntmps149
    go_wp2_with fail
    go_ret
    exact⟨by rw[bare_0];rfl,0,rfl⟩
   ·have g0:=qrq hz
    have hp:0<t.size:=by omega
    have HB:=zh (bare_1 t hp)
    have gb:=get_bt t
    have HBE:=zh (fun W=>qlh (bt t 0) W)
    clear hz
    by_cases c36:bt t 0=36
    ·have b36:(bt t 0==36)=true:=beq_iff_eq.2 c36
     have b36':(bt t 0 !=36)=false:=by rw[bne,b36];rfl
     have HC:=zh c36
     clear c36
     go_enter Tryz.func149,Tryz.ntmps149
     go_wp2_with fail
     go_ret
     exact⟨by rw[HB.out,HC.out];rfl,0,rfl⟩
    ·have b36:(bt t 0==36)=false:=beq_false_of_ne c36
     have b36':(bt t 0 !=36)=true:=by rw[bne,b36];rfl
     have d36:decide (bt t 0≠36)=true:=decide_eq_true c36
     rw[d36]at HB
     clear c36 d36
     by_cases c34:bt t 0=34
     ·have b34:(bt t 0==34)=true:=beq_iff_eq.2 c34
      have b34':(bt t 0 !=34)=false:=by rw[bne,b34];rfl
      have HC:=zh c34
      clear c34
      go_enter Tryz.func149,Tryz.ntmps149
      go_wp2_with fail
      go_ret
      exact⟨by rw[HB.out,HC.out];rfl,0,rfl⟩
     ·have b34:(bt t 0==34)=false:=beq_false_of_ne c34
      have b34':(bt t 0 !=34)=true:=by rw[bne,b34];rfl
      have d34:decide (bt t 0≠34)=true:=decide_eq_true c34
      rw[d34]at HB
      clear c34 d34
      obtain⟨c,hc⟩: ∃c,c=beg (bt t 0):=⟨_,rfl⟩
      rw[<-hc]at HB HBE
      clear hc
      by_cases c3:c=3
      ·subst c3
       go_enter Tryz.func149,Tryz.ntmps149
       go_wp2_with fail
       refine(HBE.out _).mono ?_
       rintro e w' ⟨rfl,rfl⟩
       go_wp2_with fail
       go_ret
       exact⟨by rw[HB.out];rfl,0,rfl⟩
      ·have f3:(c==3)=false:=beq_false_of_ne c3
       have f3':(c !=3)=true:=by rw[bne,f3];rfl
       have d3:decide (c≠3)=true:=decide_eq_true c3
       rw[d3]at HB
       clear c3 d3
       go_enter Tryz.func149,Tryz.ntmps149
       go_wp2_with fail
       refine(HBE.out _).mono ?_
       rintro e w' ⟨rfl,rfl⟩
       go_wp2_with fail
       go_ret
       exact⟨by rw[HB.out];rfl,0,rfl⟩
  ·have HB:=zh (bare_f t h0 h1)
   have e1:(k==1)=false:=beq_false_of_ne h1
   clear n2 n3 n8 n9 n10 n11 n12 h0 h1
   go_enter Tryz.func149,Tryz.ntmps149
   go_wp2_with fail
   go_ret
   exact⟨by rw[HB.out];rfl,0,rfl⟩
end Go.Proofs.YtdhadeeajgoedaaGreat
