import Derived.Test.YtdhadeeajgoedaaGreatL01
import Derived.Test.YtdhadeeajgoedaaGreatL03
import Derived.Test.YtdhadeeajgoedaaGreatProg
import Derived.Deep.QuietTactic
import Derived.BigQuiet
import Derived.Deep.LoopGhost
set_option maxRecDepth 100000
set_option maxHeartbeats 4000000
set_option linter.all false
open Array renaming length_toList→zA
open List renaming contains_iff_mem→zB,getD_eq_getElem?_getD→zC,getElem?_eq_getElem→zD
namespace Go.Proofs.YtdhadeeajgoedaaGreat
open Go.RowKit Go.PlainAid
theorem qdm{b c:Bool}(h:b=c):Ending.returned (Value.bool b)=Ending.returned (Value.bool c):=by rw[h]
theorem qig{s:ByteArray}{l:List UInt8}(h:(s.toList==l)=true):s.data.toList=l:=by
 rw[ByteArray.toList_eq]at h;exact eq_of_beq h
theorem qd7{s:ByteArray}{l:List UInt8}(h:(s.toList==l)=false):s.data.toList≠l:=by
 rw[ByteArray.toList_eq]at h;exact ne_of_beq_false h
theorem qv6(s:ByteArray)(w:World):Calls Tryz.prog 202 #[.string s] w fun e w'=>e=.returned (.string (pr s))/\w=w':=by
 have hP:pr s=⟨(prL s.data.toList).toArray⟩:=rfl
 obtain⟨p,hp⟩: ∃p,p=pr s:=⟨_,rfl⟩
 rw[<-hp]at hP⊢
 have HP:=zh hP
 clear hp hP
 cases h1:(s.toList==[40])
 ·cases h2:(s.toList==[123])
  ·cases h3:(s.toList==[91])
   ·cases h4:(s.toList==[60,60])
    ·have HF:Hid (p= { data:= #[] }):=zh (by rw[HP.out];unfold prL;rw[if_neg (qd7 h1),if_neg (qd7 h2),if_neg (qd7 h3),if_neg (qd7 h4)])
     go_enter Tryz.func202,Tryz.ntmps202
     go_wp2
     go_ret
     exact⟨by rw[HF.out];rfl,rfl⟩
    ·have HF:Hid (p= { data:= #[62,62] }):=zh (by rw[HP.out];unfold prL;rw[if_neg (qd7 h1),if_neg (qd7 h2),if_neg (qd7 h3),if_pos (qig h4)])
     go_enter Tryz.func202,Tryz.ntmps202
     go_wp2
     go_ret
     exact⟨by rw[HF.out];rfl,rfl⟩
   ·have HF:Hid (p= { data:= #[93] }):=zh (by rw[HP.out];unfold prL;rw[if_neg (qd7 h1),if_neg (qd7 h2),if_pos (qig h3)])
    go_enter Tryz.func202,Tryz.ntmps202
    go_wp2
    go_ret
    exact⟨by rw[HF.out];rfl,rfl⟩
  ·have HF:Hid (p= { data:= #[125] }):=zh (by rw[HP.out];unfold prL;rw[if_neg (qd7 h1),if_pos (qig h2)])
   go_enter Tryz.func202,Tryz.ntmps202
   go_wp2
   go_ret
   exact⟨by rw[HF.out];rfl,rfl⟩
 ·have HF:Hid (p= { data:= #[41] }):=zh (by rw[HP.out];unfold prL;rw[if_pos (qig h1)])
  go_enter Tryz.func202,Tryz.ntmps202
  go_wp2
  go_ret
  exact⟨by rw[HF.out];rfl,rfl⟩
theorem sd_cell(n m:Nat)(h:sdt[n]?=some m):(#[Value.int .i64 0,.int .i64 2,.int .i64 1,.int .i64 2,.int .i64 2,.int .i64 2,.int .i64 3,.int .i64 2,.int .i64 1,.int .i64 1]:Array Value)[n]?=some (Value.int .i64 (m:Int)):=by
 match n,h with
 | 0,h=>cases h;rfl
 | 1,h=>cases h;rfl
 | 2,h=>cases h;rfl
 | 3,h=>cases h;rfl
 | 4,h=>cases h;rfl
 | 5,h=>cases h;rfl
 | 6,h=>cases h;rfl
 | 7,h=>cases h;rfl
 | 8,h=>cases h;rfl
 | 9,h=>cases h;rfl
 | n+10,h=>cases h
theorem qy1{L:List (List UInt8)}{x:List UInt8}{k:Nat}(hk:k<L.length)(h:L.getD k []=x):L.contains x=true:=by
 rw[zB,<-h,zC,zD hk]
 exact List.getElem_mem hk
theorem has_no{L:List (List UInt8)}{x:List UInt8}(h: ∀j,j<L.length->L.getD j []≠x):L.contains x=false:=by
 rw[<-Bool.not_eq_true,zB]
 intro hm
 obtain⟨j,hj,hx⟩:=List.getElem_of_mem hm
 exact h j hj (by rw[zC,zD hj];exact hx)
theorem qg4(g m:Nat)(L:List (List UInt8))(hm:L.length=m)(hm1:m<=1000)(s:ByteArray)(w:World)(hc:LsAt w g L):
 Calls Tryz.prog 65 #[.slice (some ⟨g,0,none⟩) m m,.string s] w fun e w'=>e=.returned (.bool (L.contains s.data.toList))/\w=w':=by
 obtain⟨b,hb⟩: ∃b,b=L.contains s.data.toList:=⟨_,rfl⟩
 rw[<-hb]
 have HB:=zh hb
 have HC:=zh hc
 have HM:=zh hm
 clear hb hc hm
 go_enter Tryz.func65,Tryz.ntmps65
 go_wp2_with fail
 go_loopg [5] m (fun gn i wr=> ∃k:Nat,gn=m-k/\k<=m/\i=.int .i64 k/\Hid (∀j,j<k->L.getD j []≠s.data.toList)/\wr=w)
 case atStart=>exact⟨0,rfl,Nat.zero_le _,rfl,zh (fun j hj=>absurd hj (Nat.not_lt_zero _)),rfl⟩
 case round=>
  obtain⟨k,hgn,hk,rfl,HK,rfl⟩:=hrel
  by_cases hlt:k<m
  ·have hcell:=HC.out k (by rw[HM.out];exact hlt)
   have HX:Hid (((⟨(L.getD k []).toArray⟩:ByteArray).toList==s.toList)=(L.getD k []==s.data.toList)):=by
    rw[ByteArray.toList_eq,ByteArray.toList_eq]
    exact zh rfl
   obtain⟨x,hx⟩: ∃x:ByteArray,x=⟨(L.getD k []).toArray⟩:=⟨_,rfl⟩
   rw[<-hx]at hcell HX
   clear hx
   cases hv:(x.toList==s.toList)
   ·have HF:Hid (∀j,j<k+1->L.getD j []≠s.data.toList):=zh fun j hj=>by
     by_cases hjk:j<k
     ·exact HK.out j hjk
     ·obtain rfl:j=k:=by omega
      have:=HX.out
      rw[hv]at this
      exact ne_of_beq_false this.symm
    go_wp2_with fail
    go_roundg (m- (k+1))
    case measure=>omega
    case rel=>exact⟨k+1,rfl,hlt,by go_num,HF,rfl⟩
   ·have HF:Hid (true=b):=zh (by
     have:=HX.out
     rw[hv]at this
     rw[HB.out]
     exact(qy1 (by rw[HM.out];exact hlt) (eq_of_beq this.symm)).symm)
    go_wp2_with fail
    go_ret
    exact⟨qdm HF.out,rfl⟩
  ·have HF:Hid (false=b):=zh (by
    rw[HB.out]
    exact(has_no fun j hj=>HK.out j (by rw[HM.out]at hj;omega)).symm)
   go_wp2_with fail
   go_ret
   exact⟨qdm HF.out,rfl⟩
def oq:List (List UInt8):=[[40],[123],[91],[60,60]]
def ow:List (List UInt8):=[[98,101,103,105,110],[99,97,115,101],[105,102],[114,101,99,101,105,118,101]]
def cq:List (List UInt8):=[[41],[125],[93],[62,62]]
theorem four(a b c d x:List UInt8):[a,b,c,d].contains x=(x==a||x==b||x==c||x==d):=by
 simp[List.contains,List.elem]
 cases(x==a)<;>cases(x==b)<;>cases(x==c)<;>cases(x==d)<;>rfl
theorem oq_is(x:List UInt8):oq.contains x=opq x:=four _ _ _ _ x
theorem ow_is(x:List UInt8):ow.contains x=opw x:=four _ _ _ _ x
theorem cq_is(x:List UInt8):cq.contains x=clq x:=four _ _ _ _ x
theorem qo1(k a:Int)(s:ByteArray)(w:World):Calls Tryz.prog 38 #[.agg #[.int .i64 k,.string s,.int .i64 a]] w fun e w'=>e=.returned (.bool (ops k s))/\Below w.heap.size w w':=by
 by_cases h9:k=9
 ·have HA:Hid (∀W,LsAt W (w.heap.size+1) oq->Calls Tryz.prog 65 #[.slice (some ⟨w.heap.size+1,0,none⟩) 4 4,.string s] W fun e w'=>e=.returned (.bool (ops k s))/\W=w'):=zh fun W h=>by
   have:=qg4 (w.heap.size+1) 4 oq rfl (by omega) s W h
   rw[oq_is]at this
   unfold ops;rw[if_pos h9]
   exact this
  obtain⟨v,hv⟩: ∃v,v=ops k s:=⟨_,rfl⟩
  rw[<-hv]at HA⊢
  clear hv
  subst h9
  go_enter Tryz.func38,Tryz.ntmps38
  go_wp2_with fail
  refine(HA.out _ (qq5 _ _ _ _ _ (by simp) rfl)).mono ?_
  rintro e w' ⟨rfl,rfl⟩
  cases v
  ·go_wp2_with fail
   go_ret
   exact⟨rfl,qfk _ _ _⟩
  ·go_wp2_with fail
   go_ret
   exact⟨rfl,qfk _ _ _⟩
 ·by_cases h8:k=8
  ·have HA:Hid (∀W,LsAt W (w.heap.size+1) ow->Calls Tryz.prog 65 #[.slice (some ⟨w.heap.size+1,0,none⟩) 4 4,.string s] W fun e w'=>e=.returned (.bool (ops k s))/\W=w'):=zh fun W h=>by
    have:=qg4 (w.heap.size+1) 4 ow rfl (by omega) s W h
    rw[ow_is]at this
    unfold ops;rw[if_neg h9,if_pos h8]
    exact this
   obtain⟨v,hv⟩: ∃v,v=ops k s:=⟨_,rfl⟩
   rw[<-hv]at HA⊢
   clear hv h9
   subst h8
   go_enter Tryz.func38,Tryz.ntmps38
   go_wp2_with fail
   refine(HA.out _ (qq5 _ _ _ _ _ (by simp) rfl)).mono ?_
   rintro e w' ⟨rfl,rfl⟩
   go_wp2_with fail
   go_ret
   exact⟨rfl,qfk _ _ _⟩
  ·have HF:Hid (false=ops k s):=zh (by unfold ops;rw[if_neg h9,if_neg h8])
   have g9:(k==9)=false:=beq_false_of_ne h9
   have g8:(k==8)=false:=beq_false_of_ne h8
   clear h9 h8
   go_enter Tryz.func38,Tryz.ntmps38
   go_wp2_with fail
   go_ret
   exact⟨qdm HF.out,qa1 _ _⟩
theorem qlh(k a:Int)(s:ByteArray)(w:World):Calls Tryz.prog 39 #[.agg #[.int .i64 k,.string s,.int .i64 a]] w fun e w'=>e=.returned (.bool (cls k s))/\Below w.heap.size w w':=by
 by_cases h9:k=9
 ·have HA:Hid (∀W,LsAt W (w.heap.size+1) cq->Calls Tryz.prog 65 #[.slice (some ⟨w.heap.size+1,0,none⟩) 4 4,.string s] W fun e w'=>e=.returned (.bool (cls k s))/\W=w'):=zh fun W h=>by
   have:=qg4 (w.heap.size+1) 4 cq rfl (by omega) s W h
   rw[cq_is]at this
   unfold cls;rw[if_pos h9]
   exact this
  obtain⟨v,hv⟩: ∃v,v=cls k s:=⟨_,rfl⟩
  rw[<-hv]at HA⊢
  clear hv
  subst h9
  go_enter Tryz.func39,Tryz.ntmps39
  go_wp2_with fail
  refine(HA.out _ (qq5 _ _ _ _ _ (by simp) rfl)).mono ?_
  rintro e w' ⟨rfl,rfl⟩
  cases v
  ·go_wp2_with fail
   go_ret
   exact⟨rfl,qfk _ _ _⟩
  ·go_wp2_with fail
   go_ret
   exact⟨rfl,qfk _ _ _⟩
 ·by_cases h8:k=8
  ·have HF:Hid ((s.toList==[101,110,100])=cls k s):=zh (by unfold cls clw;rw[if_neg h9,if_pos h8,ByteArray.toList_eq])
   subst h8
   go_enter Tryz.func39,Tryz.ntmps39
   go_wp2_with fail
   go_ret
   exact⟨qdm HF.out,qa1 _ _⟩
  ·have HF:Hid (false=cls k s):=zh (by unfold cls;rw[if_neg h9,if_neg h8])
   have g9:(k==9)=false:=beq_false_of_ne h9
   have g8:(k==8)=false:=beq_false_of_ne h8
   clear h9 h8
   go_enter Tryz.func39,Tryz.ntmps39
   go_wp2_with fail
   go_ret
   exact⟨qdm HF.out,qa1 _ _⟩
theorem qn1{k:IntKind}{a b:Nat}(h:a=b):Ending.returned (Value.int k (a:Int))=Ending.returned (Value.int k (b:Int)):=by rw[h]
theorem qlf{g l:List UInt8}:(l.take g.length==g)=g.isPrefixOf l:=by
 rw[Bool.eq_iff_iff,beq_iff_eq,List.isPrefixOf_iff_prefix,List.prefix_iff_eq_take]
 exact eq_comm
def SgsAt(w w':World):Prop:=(∀k,k<37->w'.cell? ⟨w.heap.size,k,none⟩=some (.string ⟨(sg k).toArray⟩))/\Below w.heap.size w w'
theorem sgs_at(w:World)(cs:Array Value)(t:TypeId)(h:cs=(sgs.map fun l=>Value.string ⟨l.toArray⟩).toArray):SgsAt w (w.alloc (.cells cs t)):=⟨ls_at w cs t sgs h,qa1 _ _⟩
theorem SgsAt.drewN{w w':World}(h:SgsAt w w')(n:Nat):SgsAt w (w'.drewN n):=⟨h.1,h.2.trans ⟨rfl,rfl,rfl,Nat.le_refl _,fun _ _=>rfl⟩⟩
theorem qli(s:ByteArray)(at_:Nat)(hs:s.size<=1048576)(hat:at_<=s.size)(w:World):
 Calls Tryz.prog 59 #[.string s,.int .i64 at_] w fun e w'=>e=.returned (.int .i64 (lgL (s.data.toList.drop at_)))/\Below w.heap.size w w':=by
 obtain⟨N,hN⟩: ∃N,N=lgL (s.data.toList.drop at_):=⟨_,rfl⟩
 rw[<-hN]
 have HN:=zh hN
 clear hN
 have g0: ¬(at_:Int)<0:=by omega
 have g1: ¬(s.size:Int)< (at_:Int):=by omega
 go_enter Tryz.func59,Tryz.ntmps59
 go_wp2_with fail
 go_loopg [6] 37 (fun gn i wr=> ∃k:Nat,gn=37-k/\k<=37/\i=.int .i64 k/\Hid (SgsAt w wr)/\Hid (N=lgf (s.data.toList.drop at_) (37-k)))
 case atStart=>exact⟨0,rfl,by omega,rfl,zh (sgs_at _ _ _ rfl),HN⟩
 case round=>
  obtain⟨k,hgn,hk,rfl,HW,HK⟩:=hrel
  by_cases hlt:k<37
  ·have hcell:=HW.out.1 k hlt
   have f1:=(qg2 ⟨k,hlt⟩).1
   have f2:=(qg2 ⟨k,hlt⟩).2.1
   simp only at f1 f2
   have hstep:=qum (s.data.toList.drop at_) k hlt
   obtain⟨n,hn⟩: ∃n,n=(sg k).length:=⟨_,rfl⟩
   rw[<-hn]at f1 f2 hstep
   have hpl:(sg k).isPrefixOf (s.data.toList.drop at_)=true->at_+n<=s.size:=fun h=>by
    have:=qhu h
    rw[<-hn,List.length_drop,zA]at this
    have e:s.data.size=s.size:=rfl
    omega
   obtain⟨x,hx⟩: ∃x:ByteArray,x=⟨(sg k).toArray⟩:=⟨_,rfl⟩
   have hxs:x.size=n:=by rw[hx,hn];rfl
   have hxl:x.toList=sg k:=by rw[hx,ByteArray.toList_eq]
   have hsl:(s.extract at_ (at_+n)).toList=(s.data.toList.drop at_).take n:=by
    rw[ByteArray.toList_eq,ByteArray.data_extract,Array.toList_extract,List.extract_eq_take_drop,Nat.add_sub_cancel_left]
   have hpt:((s.extract at_ (at_+n)).toList==x.toList)=(sg k).isPrefixOf (s.data.toList.drop at_):=by
    rw[hsl,hxl,hn]
    exact qlf
   rw[<-hx]at hcell
   have HPT:=zh hpt
   have HPL:=zh hpl
   have HST:=zh hstep
   clear hx hn hxl hsl hpt hpl hstep
   by_cases hle:at_+n<=s.size
   ·have hpt:=HPT.out
    have q1:(n:Int)<=(s.size:Int)- (at_:Int):=by omega
    have q2:(at_:Int)+(n:Int)<=(s.size:Int):=by omega
    cases hv:((s.extract at_ (at_+n)).toList==x.toList)
    ·have HF:Hid (N=lgf (s.data.toList.drop at_) (37- (k+1))):=zh (by rw[HK.out,HST.out,<-hpt,hv,if_neg Bool.false_ne_true])
     clear hpt
     go_wp2_with fail
     go_quiet (fail)
     go_wp2_with fail
     go_roundg (37- (k+1))
     case measure=>omega
     case rel=>exact⟨k+1,rfl,hlt,by go_num,zh (HW.out.drewN _),HF⟩
    ·have HF:Hid (n=N):=zh (by rw[HK.out,HST.out,<-hpt,hv,if_pos rfl])
     clear hpt
     go_wp2_with fail
     go_quiet (fail)
     go_wp2_with fail
     go_ret
     exact⟨qn1 HF.out,(HW.out.drewN _).2⟩
   ·have HF:Hid (N=lgf (s.data.toList.drop at_) (37- (k+1))):=zh (by rw[HK.out,HST.out,if_neg (fun h=>hle (HPL.out h))])
    have q1:decide ((n:Int)<=(s.size:Int)- (at_:Int))=false:=by simp;omega
    clear hle
    go_wp2_with fail
    go_quiet (fail)
    go_wp2_with fail
    go_roundg (37- (k+1))
    case measure=>omega
    case rel=>exact⟨k+1,rfl,hlt,by go_num,zh (HW.out.drewN _),HF⟩
  ·obtain rfl:k=37:=by omega
   have HF:Hid (0=N):=zh (by rw[HK.out];rfl)
   go_wp2_with fail
   go_ret
   exact⟨qn1 HF.out,HW.out.2⟩
theorem qfo(s:ByteArray)(a:Int)(hs:s.size<=1048576)(w:World):
 Calls Tryz.prog 59 #[.string s,.int .i64 a] w fun e w'=>e=.returned (.int .i64 (lg s a))/\Below w.heap.size w w':=by
 by_cases h0:a<0
 ·rw[qpy s a (.inl h0)]
  go_enter Tryz.func59,Tryz.ntmps59
  go_wp2_with fail
  go_ret
  exact⟨rfl,qa1 _ _⟩
 ·by_cases h1:(s.size:Int)<a
  ·rw[qpy s a (.inr (by omega))]
   go_enter Tryz.func59,Tryz.ntmps59
   go_wp2_with fail
   go_ret
   exact⟨rfl,qa1 _ _⟩
  ·obtain⟨k,rfl⟩: ∃k:Nat,a=(k:Int):=⟨a.toNat,by omega⟩
   have h:=qli s k hs (by omega) w
   by_cases h2:k<s.size
   ·rw[qyq s k h2];exact h
   ·rw[qpy s k (.inr (by omega))]
    rw[List.drop_of_length_le (by rw[zA];show s.size<=k;omega),qyp]at h
    exact h
end Go.Proofs.YtdhadeeajgoedaaGreat
