import Derived.Test.YtdhadeeajgoedaaGreatL01
import Derived.Test.YtdhadeeajgoedaaGreatL03
import Derived.Test.YtdhadeeajgoedaaGreatProg
import Derived.Deep.QuietTactic
import Derived.BigQuiet
set_option maxRecDepth 100000
set_option maxHeartbeats 4000000
set_option linter.all false
open Bool renaming decide_and→zA
namespace Go.Proofs.YtdhadeeajgoedaaGreat
open Go.RowKit Go.PlainAid
def lenOf(c:Int):Nat:=if c<128 then 1 else if c<2048 then 2 else if c<65536 then 3 else 4
theorem qym(s:ByteArray)(k n:Nat)(hl:ln (bt s k)=n)(hn:n≠0): ∀i,okn s k i=true->0<=jp s k (qik n) i/\jp s k (qik n) i<256*64 ^ i:=by
 intro i
 induction i with
 | zero=>
  intro _
  have h0:=bt_nonneg s k
  have h1:=bt_le s k
  simp only[jp]
  unfold ln at hl
  repeat' split at hl
  all_goals (first | omega | (subst hl;simp only[qik];omega))
 | succ i ih=>
  intro h
  simp only[okn,Bool.and_eq_true]at h
  obtain⟨h1,h2⟩:=h
  have:=ih h1
  unfold isCo at h2
  have h3:=of_decide_eq_true h2
  simp only[jp]
  rw[Int.pow_succ]
  constructor
  ·omega
  ·omega
theorem qef{k:IntKind}{a b:Int}(h:a=b):Ending.returned (.int k a)=.returned (.int k b):=by rw[h]
theorem qqp{s:ByteArray}{b:Nat}: ∀i,okn s b i=true-> ∀x,1<=x->x<=i->128<=bt s (b+x)/\bt s (b+x)<192
 | 0,_,x,h1,h2=>by omega
 | i+1,h,x,h1,h2=>by
  simp only[okn,Bool.and_eq_true]at h
  by_cases hx:x=i+1
  ·subst hx;exact of_decide_eq_true h.2
  ·exact qqp i h.1 x h1 (by omega)
theorem qnc(c:Int)(w:World):Calls Tryz.prog 176 #[.int .u8 c] w fun e w'=>e=.returned (.int .i64 (beg c))/\w=w':=by
 by_cases h1:97<=c
 ·by_cases h2:c<=122
  ·have e:beg c=1:=by unfold beg;rw[if_pos ⟨h1,h2⟩]
   rw[e]
   go_enter Tryz.func176,Tryz.ntmps176
   go_wp2
   go_ret
   exact⟨rfl,rfl⟩
  ·have e:beg c=0:=by unfold beg;rw[if_neg (by omega),if_neg (by omega),if_neg (by omega)]
   rw[e]
   have g2:decide (c<=122)=false:=by simp;omega
   have g3:65<=c:=by omega
   have g4:decide (c<=90)=false:=by simp;omega
   have g5:(c==95)=false:=beq_false_of_ne (by omega)
   have g6:48<=c:=by omega
   have g7:decide (c<=57)=false:=by simp;omega
   go_enter Tryz.func176,Tryz.ntmps176
   go_wp2
   go_ret
   exact⟨rfl,rfl⟩
 have g1:decide (97<=c)=false:=by simp;omega
 by_cases h3:65<=c
 ·by_cases h4:c<=90
  ·have e:beg c=2:=by unfold beg;rw[if_neg (by omega),if_pos (by omega)]
   rw[e]
   go_enter Tryz.func176,Tryz.ntmps176
   go_wp2
   go_ret
   exact⟨rfl,rfl⟩
  ·have g4:decide (c<=90)=false:=by simp;omega
   by_cases h5:c=95
   ·have e:beg c=2:=by unfold beg;rw[if_neg (by omega),if_pos (by omega)]
    rw[e]
    have g5:(c==95)=true:=by rw[h5];rfl
    clear h5
    go_enter Tryz.func176,Tryz.ntmps176
    go_wp2
    go_ret
    exact⟨rfl,rfl⟩
   ·have e:beg c=0:=by unfold beg;rw[if_neg (by omega),if_neg (by omega),if_neg (by omega)]
    rw[e]
    have g5:(c==95)=false:=beq_false_of_ne h5
    have g6:48<=c:=by omega
    have g7:decide (c<=57)=false:=by simp;omega
    go_enter Tryz.func176,Tryz.ntmps176
    go_wp2
    go_ret
    exact⟨rfl,rfl⟩
 have g3:decide (65<=c)=false:=by simp;omega
 have g5:(c==95)=false:=beq_false_of_ne (by omega)
 by_cases h6:48<=c
 ·by_cases h7:c<=57
  ·have e:beg c=3:=by unfold beg;rw[if_neg (by omega),if_neg (by omega),if_pos (by omega)]
   rw[e]
   go_enter Tryz.func176,Tryz.ntmps176
   go_wp2
   go_ret
   exact⟨rfl,rfl⟩
  ·have e:beg c=0:=by unfold beg;rw[if_neg (by omega),if_neg (by omega),if_neg (by omega)]
   rw[e]
   have g7:decide (c<=57)=false:=by simp;omega
   go_enter Tryz.func176,Tryz.ntmps176
   go_wp2
   go_ret
   exact⟨rfl,rfl⟩
 ·have e:beg c=0:=by unfold beg;rw[if_neg (by omega),if_neg (by omega),if_neg (by omega)]
  rw[e]
  have g6:decide (48<=c)=false:=by simp;omega
  go_enter Tryz.func176,Tryz.ntmps176
  go_wp2
  go_ret
  exact⟨rfl,rfl⟩
theorem qtx{s:ByteArray}(h:s.size=0):s=⟨#[]⟩:=by
 cases s with | mk d=>cases d with | mk l=>cases l with
  | nil=>rfl
  | cons x l=>simp[ByteArray.size]at h
theorem quu{s:ByteArray}(h:s.size≠0):(s.toList==[])=false:=by
 rw[ByteArray.toList_eq]
 cases s with | mk d=>cases d with | mk l=>cases l with
  | nil=>exact absurd rfl h
  | cons x l=>rfl
def qul(c:Int):Bool:=decide (97<=c)&&decide (c<=122)||decide (65<=c)&&decide (c<=90)
def qmi(c:Int):Bool:=decide (48<=c)&&decide (c<=57)
theorem qgb(c:Int)(w:World):Calls Tryz.prog 86 #[.int .u8 c] w fun e w'=>e=.returned (.bool (qmi c))/\w=w':=by
 unfold qmi
 cases h1:decide (48<=c)
 ·go_enter Tryz.func86,Tryz.ntmps86
  go_wp2
  go_ret
  exact⟨rfl,rfl⟩
 ·have h1':=of_decide_eq_true h1
  clear h1
  go_enter Tryz.func86,Tryz.ntmps86
  go_wp2
  go_ret
  exact⟨rfl,rfl⟩
theorem qf9(c:Int)(w:World):Calls Tryz.prog 58 #[.int .u8 c] w fun e w'=>e=.returned (.bool (qul c))/\w=w':=by
 unfold qul
 by_cases h1:97<=c
 ·by_cases h2:c<=122
  ·go_enter Tryz.func58,Tryz.ntmps58
   go_wp2
   go_ret
   exact⟨by rw[decide_eq_true h1,decide_eq_true h2];rfl,rfl⟩
  ·have g2:decide (c<=122)=false:=decide_eq_false h2
   have h3:65<=c:=by omega
   have g4:decide (c<=90)=false:=by simp;omega
   go_enter Tryz.func58,Tryz.ntmps58
   go_wp2
   go_ret
   exact⟨rfl,rfl⟩
 ·have g1:decide (97<=c)=false:=decide_eq_false h1
  by_cases h3:65<=c
  ·go_enter Tryz.func58,Tryz.ntmps58
   go_wp2
   go_ret
   exact⟨rfl,rfl⟩
  ·have g3:decide (65<=c)=false:=decide_eq_false h3
   go_enter Tryz.func58,Tryz.ntmps58
   go_wp2
   go_ret
   exact⟨rfl,rfl⟩
theorem qyi(c:Int):inn c=(qul c||qmi c||c==95||c==64):=by
 unfold inn beg qul qmi
 split
 ·rename_i h;simp[h.1,h.2]
 ·rename_i h
  split
  ·rename_i h1
   rcases h1 with⟨h1,h2⟩ | h1
   ·simp[h1,h2]
   ·subst h1;rfl
  ·rename_i h1
   split
   ·rename_i h2;simp[h2.1,h2.2]
   ·rename_i h2
    have a1:(decide (97<=c)&&decide (c<=122))=false:=by rw[<-zA];exact decide_eq_false h
    have a2:(decide (65<=c)&&decide (c<=90))=false:=by rw[<-zA];exact decide_eq_false fun h=>h1 (.inl h)
    have a3:(decide (48<=c)&&decide (c<=57))=false:=by rw[<-zA];exact decide_eq_false h2
    have a4:(c==95)=false:=beq_false_of_ne fun h=>h1 (.inr h)
    rw[a1,a2,a3,a4];rfl
theorem qfg(c:Int)(w:World):Calls Tryz.prog 89 #[.int .u8 c] w fun e w'=>e=.returned (.bool (inn c))/\w=w':=by
 have HL:=zh (fun W=>qf9 c W)
 have HD:=zh (fun W=>qgb c W)
 rw[qyi]
 obtain⟨l,hl⟩: ∃l,l=qul c:=⟨_,rfl⟩
 obtain⟨d,hd⟩: ∃d,d=qmi c:=⟨_,rfl⟩
 rw[<-hl]at HL⊢
 rw[<-hd]at HD⊢
 clear hl hd
 go_enter Tryz.func89,Tryz.ntmps89
 go_wp2_with fail
 refine(HL.out _).mono ?_
 rintro e w' ⟨rfl,rfl⟩
 cases l
 ·go_wp2_with fail
  refine(HD.out _).mono ?_
  rintro e w' ⟨rfl,rfl⟩
  cases d
  ·by_cases h:c=95
   ·have g:(c==95)=true:=by rw[h];rfl
    clear h
    go_wp2
    go_ret
    exact⟨by rw[g];rfl,rfl⟩
   ·have g:(c==95)=false:=beq_false_of_ne h
    clear h
    go_wp2
    go_ret
    exact⟨by rw[g];rfl,rfl⟩
  ·go_wp2
   go_ret
   exact⟨rfl,rfl⟩
 ·go_wp2
  go_ret
  exact⟨rfl,rfl⟩
theorem qbs(c:Int)(w:World):Calls Tryz.prog 52 #[.int .u8 c] w fun e w'=>e=.returned (.int .i64 (beg c))/\w=w':=by
 have HD:=zh (fun W=>qgb c W)
 by_cases h1:97<=c
 ·by_cases h2:c<=122
  ·have e:beg c=1:=by unfold beg;rw[if_pos ⟨h1,h2⟩]
   rw[e]
   go_enter Tryz.func52,Tryz.ntmps52
   go_wp2
   go_ret
   exact⟨rfl,rfl⟩
  ·have e:beg c=0:=by unfold beg;rw[if_neg (by omega),if_neg (by omega),if_neg (by omega)]
   rw[e]
   have g2:decide (c<=122)=false:=by simp;omega
   have g3:65<=c:=by omega
   have g4:decide (c<=90)=false:=by simp;omega
   have g5:(c==95)=false:=beq_false_of_ne (by omega)
   have g7:qmi c=false:=by unfold qmi;rw[decide_eq_false (show¬c<=57 by omega)];simp
   rw[g7]at HD
   go_enter Tryz.func52,Tryz.ntmps52
   go_wp2_with fail
   refine(HD.out _).mono ?_
   rintro e w' ⟨rfl,rfl⟩
   go_wp2
   go_ret
   exact⟨rfl,rfl⟩
 have g1:decide (97<=c)=false:=by simp;omega
 by_cases h3:65<=c
 ·by_cases h4:c<=90
  ·have e:beg c=2:=by unfold beg;rw[if_neg (by omega),if_pos (by omega)]
   rw[e]
   go_enter Tryz.func52,Tryz.ntmps52
   go_wp2
   go_ret
   exact⟨rfl,rfl⟩
  ·have g4:decide (c<=90)=false:=by simp;omega
   by_cases h5:c=95
   ·have e:beg c=2:=by unfold beg;rw[if_neg (by omega),if_pos (by omega)]
    rw[e]
    have g5:(c==95)=true:=by rw[h5];rfl
    clear h5
    go_enter Tryz.func52,Tryz.ntmps52
    go_wp2
    go_ret
    exact⟨rfl,rfl⟩
   ·have e:beg c=0:=by unfold beg;rw[if_neg (by omega),if_neg (by omega),if_neg (by omega)]
    rw[e]
    have g5:(c==95)=false:=beq_false_of_ne h5
    have g7:qmi c=false:=by unfold qmi;rw[decide_eq_false (show¬c<=57 by omega)];simp
    rw[g7]at HD
    go_enter Tryz.func52,Tryz.ntmps52
    go_wp2_with fail
    refine(HD.out _).mono ?_
    rintro e w' ⟨rfl,rfl⟩
    go_wp2
    go_ret
    exact⟨rfl,rfl⟩
 have g3:decide (65<=c)=false:=by simp;omega
 have g5:(c==95)=false:=beq_false_of_ne (by omega)
 by_cases h6:48<=c/\c<=57
 ·have e:beg c=3:=by unfold beg;rw[if_neg (by omega),if_neg (by omega),if_pos (by omega)]
  rw[e]
  have g7:qmi c=true:=by unfold qmi;rw[decide_eq_true h6.1,decide_eq_true h6.2];rfl
  rw[g7]at HD
  go_enter Tryz.func52,Tryz.ntmps52
  go_wp2_with fail
  refine(HD.out _).mono ?_
  rintro e w' ⟨rfl,rfl⟩
  go_wp2
  go_ret
  exact⟨rfl,rfl⟩
 ·have e:beg c=0:=by unfold beg;rw[if_neg (by omega),if_neg (by omega),if_neg (by omega)]
  rw[e]
  have g7:qmi c=false:=by unfold qmi;rw[<-zA];exact decide_eq_false h6
  rw[g7]at HD
  go_enter Tryz.func52,Tryz.ntmps52
  go_wp2_with fail
  refine(HD.out _).mono ?_
  rintro e w' ⟨rfl,rfl⟩
  go_wp2
  go_ret
  exact⟨rfl,rfl⟩
def qof(w w':World):Prop:=(∀k,k<24->w'.cell? ⟨w.heap.size,k,none⟩=some (.string (wd k)))/\Below w.heap.size w w'
theorem qw7(w:World)(cs:Array Value)(t:TypeId)(h:cs=(ws.map fun l=>Value.string ⟨l.toArray⟩).toArray):qof w (w.alloc (.cells cs t)):=by
 refine⟨fun k hk=>?_,(Below.refl _ _).alloc (Nat.le_refl _) _⟩
 rw[World.cell?_alloc_new,h]
 unfold wd
 have hk':k<ws.length:=hk
 simp[List.getD_eq_getElem?_getD,List.getElem?_eq_getElem hk']
theorem qj7(s:ByteArray)(w:World):Calls Tryz.prog 55 #[.string s] w fun e w'=>e=.returned (.bool (rs s))/\Below w.heap.size w w':=by
 obtain⟨b,hb⟩: ∃b,b=rs s:=⟨_,rfl⟩
 rw[<-hb]
 have HB:=zh hb
 clear hb
 go_enter Tryz.func55,Tryz.ntmps55
 go_wp2_with fail
 go_loopw [4] (fun i wr=> ∃k:Nat,k<=24/\i=.int .i64 k/\Hid (∀j,j<k->s.data.toList≠ws.getD j [])/\Hid (qof w wr)) (fun i _=>24- (intOf i).toNat)
 case atStart=>exact⟨0,Nat.zero_le _,rfl,fun j hj=>absurd hj (Nat.not_lt_zero _),qw7 _ _ _ rfl⟩
 case round=>
  obtain⟨k,hk,rfl,HK,HW⟩:=hrel
  by_cases hlt:k<24
  ·have hcell:=HW.out.1 k hlt
   have HX:Hid (((wd k).toList==s.toList)=(s.data.toList==ws.getD k [])):=by
    rw[ByteArray.toList_eq,ByteArray.toList_eq]
    unfold wd
    show((ws.getD k []:List UInt8)==s.data.toList)=(s.data.toList==ws.getD k [])
    exact BEq.comm
   obtain⟨x,hx⟩: ∃x,x=wd k:=⟨_,rfl⟩
   rw[<-hx]at hcell HX
   clear hx
   cases hv:(x.toList==s.toList)
   ·have HF:Hid (∀j,j<k+1->s.data.toList≠ws.getD j []):=fun j hj=>by
     by_cases hjk:j<k
     ·exact HK.out j hjk
     ·obtain rfl:j=k:=by omega
      have:=HX.out
      rw[hv]at this
      exact ne_of_beq_false this.symm
    go_wp2_with fail
    go_roundw
    case rel=>exact⟨k+1,hlt,by go_num,HF,HW⟩
    case measure=>simp[intOf];omega
   ·have HF:Hid (b=true):=by
     have:=HX.out
     rw[hv]at this
     rw[HB.out]
     exact rs_yes hlt (eq_of_beq this.symm)
    go_wp2_with fail
    go_ret
    exact⟨by rw[HF.out];rfl,HW.out.2⟩
  ·have HF:Hid (b=false):=by
    rw[HB.out]
    exact rs_no fun j hj=>HK.out j (by omega)
   go_wp2_with fail
   go_ret
   exact⟨by rw[HF.out];rfl,HW.out.2⟩
end Go.Proofs.YtdhadeeajgoedaaGreat
