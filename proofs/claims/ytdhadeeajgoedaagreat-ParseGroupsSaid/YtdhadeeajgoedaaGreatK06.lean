/-
  What the claims stand on: SignWalks, RefOps, RefSigns.
-/
import Derived.Test.YtdhadeeajgoedaaGreatK01
import Derived.Test.YtdhadeeajgoedaaGreatK03
import Derived.Test.YtdhadeeajgoedaaGreatProg
import Derived.WalkKit
import Derived.WalkSpells
import Derived.WalkLawsBesides
import Derived.Deep.QuietTactic
import Derived.BigQuiet
import Derived.Deep.LoopGhost
import Derived.Lib.Hide
set_option maxRecDepth 100000
set_option maxHeartbeats 4000000
set_option linter.unusedVariables false
set_option linter.unusedSimpArgs false
namespace Go.Proofs.YtdhadeeajgoedaaGreat
open Go.RowKit Go.PlainAid
theorem ql6{b c:Bool}(h:b=c):Ending.returned (Value.bool b)=Ending.returned (Value.bool c):=by rw[h]
theorem qhn{s:ByteArray}{l:List UInt8}(h:(s.toList==l)=true):s.data.toList=l:=by
 rw[ByteArray.toList_eq]at h;exact eq_of_beq h
theorem qcv{s:ByteArray}{l:List UInt8}(h:(s.toList==l)=false):s.data.toList≠l:=by
 rw[ByteArray.toList_eq]at h;exact ne_of_beq_false h
theorem qry(s:ByteArray)(w:World):Calls Tryz.prog 202 #[.string s] w fun e w'=>e=.returned (.string (pr s))/\w=w':=by
 have hP:pr s=⟨(prL s.data.toList).toArray⟩:=rfl
 obtain⟨p,hp⟩: ∃p,p=pr s:=⟨_,rfl⟩
 rw[<-hp]at hP⊢
 have HP:=zh hP
 clear hp hP
 cases h1:(s.toList==[40])
 ·cases h2:(s.toList==[123])
  ·cases h3:(s.toList==[91])
   ·cases h4:(s.toList==[60,60])
    ·have HF:Hid (p= { data:= #[] }):=zh (by rw[HP.out];unfold prL;rw[if_neg (qcv h1),if_neg (qcv h2),if_neg (qcv h3),if_neg (qcv h4)])
     go_enter Tryz.func202,Tryz.ntmps202
     go_wp2
     go_ret
     exact⟨by rw[HF.out];rfl,rfl⟩
    ·have HF:Hid (p= { data:= #[62,62] }):=zh (by rw[HP.out];unfold prL;rw[if_neg (qcv h1),if_neg (qcv h2),if_neg (qcv h3),if_pos (qhn h4)])
     go_enter Tryz.func202,Tryz.ntmps202
     go_wp2
     go_ret
     exact⟨by rw[HF.out];rfl,rfl⟩
   ·have HF:Hid (p= { data:= #[93] }):=zh (by rw[HP.out];unfold prL;rw[if_neg (qcv h1),if_neg (qcv h2),if_pos (qhn h3)])
    go_enter Tryz.func202,Tryz.ntmps202
    go_wp2
    go_ret
    exact⟨by rw[HF.out];rfl,rfl⟩
  ·have HF:Hid (p= { data:= #[125] }):=zh (by rw[HP.out];unfold prL;rw[if_neg (qcv h1),if_pos (qhn h2)])
   go_enter Tryz.func202,Tryz.ntmps202
   go_wp2
   go_ret
   exact⟨by rw[HF.out];rfl,rfl⟩
 ·have HF:Hid (p= { data:= #[41] }):=zh (by rw[HP.out];unfold prL;rw[if_pos (qhn h1)])
  go_enter Tryz.func202,Tryz.ntmps202
  go_wp2
  go_ret
  exact⟨by rw[HF.out];rfl,rfl⟩
theorem qdb: ∀(os:List Obj) (w:World),Below w.heap.size w (os.foldl World.alloc w)
 | [],w=>Below.refl _ w
 | o::t,w=>(qa1 w o).trans ((qdb t (w.alloc o)).mono (by simp))
theorem qfi: ∀(os:List Obj) (w:World) (i:Nat) (o:Obj),os[i]?=some o->(os.foldl World.alloc w).heap[w.heap.size+i]?=some o
 | [],_,_,_,h=>by simp at h
 | p::t,w,0,o,h=>by
  simp only[List.getElem?_cons_zero,Option.some.injEq]at h
  subst h
  show(t.foldl World.alloc (w.alloc p)).heap[w.heap.size]?=_
  rw[(qdb t (w.alloc p)).block _ (by simp)]
  show(w.heap.push p)[w.heap.size]?=_
  rw[Array.getElem?_push,if_pos rfl]
 | p::t,w,i+1,o,h=>by
  simp only[List.getElem?_cons_succ]at h
  have:=qfi t (w.alloc p) i o h
  rw[show(w.alloc p).heap.size+i=w.heap.size+(i+1)by simp;omega]at this
  exact this
def rowO(r:List (List UInt8)):Obj:=.cells (r.map fun x=>Value.string ⟨x.toArray⟩).toArray 9
def outO(g:Nat):Obj:=.cells #[.slice (some ⟨g,0,none⟩) 0 0,.slice (some ⟨g+1,0,none⟩) 1 1,.slice (some ⟨g+2,0,none⟩) 1 1,.slice (some ⟨g+3,0,none⟩) 2 2,.slice (some ⟨g+4,0,none⟩) 1 1,.slice (some ⟨g+5,0,none⟩) 1 1,.slice (some ⟨g+6,0,none⟩) 8 8,.slice (some ⟨g+7,0,none⟩) 2 2,.slice (some ⟨g+8,0,none⟩) 8 8,.slice (some ⟨g+9,0,none⟩) 6 6] 22
theorem out_at(g:Nat): ∀i r,opTab[i]?=some r->(#[Value.slice (some ⟨g,0,none⟩) 0 0,.slice (some ⟨g+1,0,none⟩) 1 1,.slice (some ⟨g+2,0,none⟩) 1 1,.slice (some ⟨g+3,0,none⟩) 2 2,.slice (some ⟨g+4,0,none⟩) 1 1,.slice (some ⟨g+5,0,none⟩) 1 1,.slice (some ⟨g+6,0,none⟩) 8 8,.slice (some ⟨g+7,0,none⟩) 2 2,.slice (some ⟨g+8,0,none⟩) 8 8,.slice (some ⟨g+9,0,none⟩) 6 6]:Array Value)[i]?=some (Value.slice (some ⟨g+i,0,none⟩) r.length r.length):=by
 intro i r h
 match i,h with
 | 0,h=>cases h;rfl
 | 1,h=>cases h;rfl
 | 2,h=>cases h;rfl
 | 3,h=>cases h;rfl
 | 4,h=>cases h;rfl
 | 5,h=>cases h;rfl
 | 6,h=>cases h;rfl
 | 7,h=>cases h;rfl
 | 8,h=>cases h;rfl
 | 9,h=>cases h;rfl
 | n+10,h=>cases h
theorem tb_new(w:World):TbAt ((opTab.map rowO++[outO w.heap.size]).foldl World.alloc w) w.heap.size:=by
 intro i r h
 have hi:i<10:=(List.getElem?_eq_some_iff.1 h).1
 have hl:(opTab.map rowO).length=10:=rfl
 refine⟨?_,fun k x hx=>?_⟩
 ·have h10:=qfi (opTab.map rowO++[outO w.heap.size]) w 10 (outO w.heap.size) (by rw[List.getElem?_append_right (by omega),hl];rfl)
  rw[cell_of_row _ _ _ _ _ _ h10]
  exact out_at _ i r h
 ·have hr:=qfi (opTab.map rowO++[outO w.heap.size]) w i (rowO r) (by rw[List.getElem?_append_left (by omega),List.getElem?_map,h];rfl)
  rw[cell_of_row _ _ _ _ _ _ hr]
  simp[hx]
theorem tb_lt{i:Nat}{r:List (List UInt8)}(h:opTab[i]?=some r):i<10/\r.length<=8:=by
 have key: ∀n:Fin 10,∀r,opTab[n.val]?=some r->r.length<=8:=by decide+kernel
 have hi:i<10:=(List.getElem?_eq_some_iff.1 h).1
 exact⟨hi,key ⟨i,hi⟩ r h⟩
theorem qu7{r:List (List UInt8)}{k:Nat}{x y:List UInt8}(h:r[k]?=some x):(r.drop k).contains y=(x==y||(r.drop (k+1)).contains y):=by
 have hi:k<r.length:=(List.getElem?_eq_some_iff.1 h).1
 have h2:r[k]=x:=(List.getElem?_eq_some_iff.1 h).2
 rw[List.drop_eq_getElem_cons hi,h2,List.contains_cons]
 rw[BEq.comm (a:=y)]
theorem qfd(s:ByteArray)(w:World):
 Calls Tryz.prog 17 #[.string s] w fun e w'=>e=.returned (.int .i64 (bn s.toList:Int))/\Below w.heap.size w w':=by
 obtain⟨R,hR⟩: ∃R,R=bn s.toList:=⟨_,rfl⟩
 rw[<-hR]
 have HR:=zh hR
 clear hR
 obtain⟨g,hg⟩: ∃g,g=w.heap.size:=⟨_,rfl⟩
 have HG:=zh hg
 clear hg
 go_enter Tryz.func17,Tryz.ntmps17
 go_wp2_with fail
 go_loopg [4] 10 (fun gn i wr=> ∃(k:Nat),gn=10-k/\k<=10/\i=.int .i64 (k:Int)/\Hid (R=bnr (opTab.drop k) k s.toList)/\Hid (TbAt wr w.heap.size)/\Hid (Below w.heap.size w wr))
 case atStart=>
  refine⟨0,rfl,Nat.zero_le _,rfl,zh (by rw[HR.out];rfl),zh ?_,zh ?_⟩
  ·exact tb_new w
  ·exact qdb (opTab.map rowO++[outO w.heap.size]) w
 case round=>
  obtain⟨i,hgn,hi,rfl,HK,HT,HB⟩:=hrel
  by_cases hlt:i<10
  ·obtain⟨r,hr⟩: ∃r,opTab[i]?=some r:=⟨_,List.getElem?_eq_getElem (show i<opTab.length from hlt)⟩
   obtain⟨-,hr8⟩:=tb_lt hr
   obtain⟨c1,c2⟩:=HT.out i r hr
   have HC2:=zh c2
   have HK2:Hid (R=if r.contains s.toList then i else bnr (opTab.drop (i+1)) (i+1) s.toList):=zh (by rw[HK.out,qqp hr])
   have i10:(i:Int)<10:=by omega
   obtain⟨m,hm⟩: ∃m,m=r.length:=⟨_,rfl⟩
   rw[<-hm]at c1 hr8
   have HM:=zh hm
   clear c2 hr hm
   go_wp2_with fail
   go_loopg [5] m (fun gn j wq=> ∃(k:Nat),gn=m-k/\k<=m/\j=.int .i64 (k:Int)/\wq=wr/\Hid (R=if(r.drop k).contains s.toList then i else bnr (opTab.drop (i+1)) (i+1) s.toList))
   case atStart=>exact⟨0,rfl,Nat.zero_le _,rfl,rfl,zh (by rw[HK2.out];rfl)⟩
   case round=>
    obtain⟨k,hgn2,hk,rfl,rfl,HI⟩:=hrel
    by_cases hlt2:k<m
    ·obtain⟨x,hx⟩: ∃x,r[k]?=some x:=⟨_,List.getElem?_eq_getElem (by rw[<-HM.out];exact hlt2)⟩
     have d1:=HC2.out k x hx
     have km:(k:Int)< (m:Int):=by omega
     have HI2:Hid (R=if(x==s.toList||(r.drop (k+1)).contains s.toList)then i else bnr (opTab.drop (i+1)) (i+1) s.toList):=zh (by rw[HI.out,qu7 hx])
     clear hx
     cases he:(x==s.toList)
     ·have HI3:Hid (R=if(r.drop (k+1)).contains s.toList then i else bnr (opTab.drop (i+1)) (i+1) s.toList):=zh (by rw[HI2.out,he,Bool.false_or])
      go_wp2_with fail
      go_roundg (m- (k+1))
      case measure=>omega
      case rel=>exact⟨k+1,rfl,hlt2,by go_num,rfl,HI3⟩
     ·have HI3:Hid (i=R):=zh (by rw[HI2.out,he,Bool.true_or,if_pos rfl])
      go_wp2_with fail
      go_ret
      exact⟨retN HI3.out,HB.out⟩
    ·obtain rfl:k=m:=by omega
     have HI3:Hid (R=bnr (opTab.drop (i+1)) (i+1) s.toList):=zh (by rw[HI.out,List.drop_eq_nil_of_le (by rw[HM.out];exact Nat.le_refl _)];rfl)
     go_wp2_with fail
     go_roundg (10- (i+1))
     case measure=>omega
     case rel=>exact⟨i+1,rfl,hlt,by go_num,HI3,HT,HB⟩
  ·obtain rfl:i=10:=by omega
   have HF:Hid (0=R):=zh (by rw[HK.out];rfl)
   go_wp2_with fail
   go_ret
   exact⟨retN HF.out,HB.out⟩
theorem qpe(n m:Nat)(h:sdt[n]?=some m):(#[Value.int .i64 0,.int .i64 2,.int .i64 1,.int .i64 2,.int .i64 2,.int .i64 2,.int .i64 3,.int .i64 2,.int .i64 1,.int .i64 1]:Array Value)[n]?=some (Value.int .i64 (m:Int)):=by
 match n,h with
 | 0,h=>cases h;rfl
 | 1,h=>cases h;rfl
 | 2,h=>cases h;rfl
 | 3,h=>cases h;rfl
 | 4,h=>cases h;rfl
 | 5,h=>cases h;rfl
 | 6,h=>cases h;rfl
 | 7,h=>cases h;rfl
 | 8,h=>cases h;rfl
 | 9,h=>cases h;rfl
 | n+10,h=>cases h
theorem qp7(s:ByteArray)(w:World):
 Calls Tryz.prog 28 #[.string s] w fun e w'=>e=.returned (.int .i64 (sd s.toList:Int))/\Below w.heap.size w w':=by
 have H:=zh (fun W=>qfd s W)
 have h9:=qu0 s.toList
 have hs:=qpe _ _ (sd_at s.toList)
 obtain⟨n,hn⟩: ∃n,n=bn s.toList:=⟨_,rfl⟩
 rw[<-hn]at h9 hs H
 obtain⟨m,hm⟩: ∃m,m=sd s.toList:=⟨_,rfl⟩
 rw[<-hm]at hs⊢
 have HC:=zh (fun(W:World) (hb:Below (w.alloc (.cells #[.int .i64 0,.int .i64 2,.int .i64 1,.int .i64 2,.int .i64 2,.int .i64 2,.int .i64 3,.int .i64 2,.int .i64 1,.int .i64 1] 3)).heap.size (w.alloc (.cells #[.int .i64 0,.int .i64 2,.int .i64 1,.int .i64 2,.int .i64 2,.int .i64 2,.int .i64 3,.int .i64 2,.int .i64 1,.int .i64 1] 3)) W)=>
  (show W.cell? ⟨w.heap.size,n,none⟩=some (.int .i64 (m:Int))from(hb.cell (p:=⟨w.heap.size,n,none⟩) (by show w.heap.size< (w.alloc _).heap.size;simp)).trans (by
   rw[cell_of_row (w.alloc _) w.heap.size n _ 3 (0,0) (by show(w.heap.push _)[w.heap.size]?=_;rw[Array.getElem?_push,if_pos rfl])]
   exact hs)))
 have n10:(n:Int)<10:=by omega
 clear hs hn hm
 go_enter Tryz.func28,Tryz.ntmps28
 go_wp2_with fail
 refine(H.out _).mono ?_
 rintro e w1 ⟨rfl,hb1⟩
 have B1:Hid (Below w.heap.size w w1):=zh ((qa1 _ _).trans (hb1.mono (by simp)))
 have c:=HC.out _ hb1
 clear hb1
 go_wp2_with fail
 go_ret
 exact⟨rfl,B1.out⟩
def oq:List (List UInt8):=[[40],[123],[91],[60,60]]
def cq:List (List UInt8):=[[41],[125],[93],[62,62]]
theorem ql7{k:IntKind}{a b:Nat}(h:a=b):Ending.returned (Value.int k (a:Int))=Ending.returned (Value.int k (b:Int)):=by rw[h]
theorem qjt{g l:List UInt8}:(l.take g.length==g)=g.isPrefixOf l:=by
 rw[Bool.eq_iff_iff,beq_iff_eq,List.isPrefixOf_iff_prefix,List.prefix_iff_eq_take]
 exact eq_comm
def SgsAt(w w':World):Prop:=(∀k,k<37->w'.cell? ⟨w.heap.size,k,none⟩=some (.string ⟨(sg k).toArray⟩))/\Below w.heap.size w w'
theorem sgs_at(w:World)(cs:Array Value)(t:TypeId)(h:cs=(sgs.map fun l=>Value.string ⟨l.toArray⟩).toArray):SgsAt w (w.alloc (.cells cs t)):=⟨ls_at w cs t sgs h,qa1 _ _⟩
theorem SgsAt.drewN{w w':World}(h:SgsAt w w')(n:Nat):SgsAt w (w'.drewN n):=⟨h.1,h.2.trans ⟨rfl,rfl,rfl,Nat.le_refl _,fun _ _=>rfl⟩⟩
theorem qjv(s:ByteArray)(at_:Nat)(hs:s.size<=1048576)(hat:at_<=s.size)(w:World):
 Calls Tryz.prog 59 #[.string s,.int .i64 at_] w fun e w'=>e=.returned (.int .i64 (lgL (s.data.toList.drop at_)))/\Below w.heap.size w w':=by
 obtain⟨N,hN⟩: ∃N,N=lgL (s.data.toList.drop at_):=⟨_,rfl⟩
 rw[<-hN]
 have HN:=zh hN
 clear hN
 have g0: ¬(at_:Int)<0:=by omega
 have g1: ¬(s.size:Int)< (at_:Int):=by omega
 go_enter Tryz.func59,Tryz.ntmps59
 go_wp2_with fail
 go_loopg [6] 37 (fun gn i wr=> ∃k:Nat,gn=37-k/\k<=37/\i=.int .i64 k/\Hid (SgsAt w wr)/\Hid (N=lgf (s.data.toList.drop at_) (37-k)))
 case atStart=>exact⟨0,rfl,by omega,rfl,zh (sgs_at _ _ _ rfl),HN⟩
 case round=>
  obtain⟨k,hgn,hk,rfl,HW,HK⟩:=hrel
  by_cases hlt:k<37
  ·have hcell:=HW.out.1 k hlt
   have f1:=(qfg ⟨k,hlt⟩).1
   have f2:=(qfg ⟨k,hlt⟩).2.1
   simp only at f1 f2
   have hstep:=qrl (s.data.toList.drop at_) k hlt
   obtain⟨n,hn⟩: ∃n,n=(sg k).length:=⟨_,rfl⟩
   rw[<-hn]at f1 f2 hstep
   have hpl:(sg k).isPrefixOf (s.data.toList.drop at_)=true->at_+n<=s.size:=fun h=>by
    have:=qh5 h
    rw[<-hn,List.length_drop,Array.length_toList]at this
    have e:s.data.size=s.size:=rfl
    omega
   obtain⟨x,hx⟩: ∃x:ByteArray,x=⟨(sg k).toArray⟩:=⟨_,rfl⟩
   have hxs:x.size=n:=by rw[hx,hn];rfl
   have hxl:x.toList=sg k:=by rw[hx,ByteArray.toList_eq]
   have hsl:(s.extract at_ (at_+n)).toList=(s.data.toList.drop at_).take n:=by
    rw[ByteArray.toList_eq,ByteArray.data_extract,Array.toList_extract,List.extract_eq_take_drop,Nat.add_sub_cancel_left]
   have hpt:((s.extract at_ (at_+n)).toList==x.toList)=(sg k).isPrefixOf (s.data.toList.drop at_):=by
    rw[hsl,hxl,hn]
    exact qjt
   rw[<-hx]at hcell
   have HPT:=zh hpt
   have HPL:=zh hpl
   have HST:=zh hstep
   clear hx hn hxl hsl hpt hpl hstep
   by_cases hle:at_+n<=s.size
   ·have hpt:=HPT.out
    have q1:(n:Int)<=(s.size:Int)- (at_:Int):=by omega
    have q2:(at_:Int)+(n:Int)<=(s.size:Int):=by omega
    cases hv:((s.extract at_ (at_+n)).toList==x.toList)
    ·have HF:Hid (N=lgf (s.data.toList.drop at_) (37- (k+1))):=zh (by rw[HK.out,HST.out,<-hpt,hv,if_neg Bool.false_ne_true])
     clear hpt
     go_wp2_with fail
     go_quiet (fail)
     go_wp2_with fail
     go_roundg (37- (k+1))
     case measure=>omega
     case rel=>exact⟨k+1,rfl,hlt,by go_num,zh (HW.out.drewN _),HF⟩
    ·have HF:Hid (n=N):=zh (by rw[HK.out,HST.out,<-hpt,hv,if_pos rfl])
     clear hpt
     go_wp2_with fail
     go_quiet (fail)
     go_wp2_with fail
     go_ret
     exact⟨ql7 HF.out,(HW.out.drewN _).2⟩
   ·have HF:Hid (N=lgf (s.data.toList.drop at_) (37- (k+1))):=zh (by rw[HK.out,HST.out,if_neg (fun h=>hle (HPL.out h))])
    have q1:decide ((n:Int)<=(s.size:Int)- (at_:Int))=false:=by simp;omega
    clear hle
    go_wp2_with fail
    go_quiet (fail)
    go_wp2_with fail
    go_roundg (37- (k+1))
    case measure=>omega
    case rel=>exact⟨k+1,rfl,hlt,by go_num,zh (HW.out.drewN _),HF⟩
  ·obtain rfl:k=37:=by omega
   have HF:Hid (0=N):=zh (by rw[HK.out];rfl)
   go_wp2_with fail
   go_ret
   exact⟨ql7 HF.out,HW.out.2⟩
theorem qf3(s:ByteArray)(a:Int)(hs:s.size<=1048576)(w:World):
 Calls Tryz.prog 59 #[.string s,.int .i64 a] w fun e w'=>e=.returned (.int .i64 (lg s a))/\Below w.heap.size w w':=by
 by_cases h0:a<0
 ·rw[qnq s a (.inl h0)]
  go_enter Tryz.func59,Tryz.ntmps59
  go_wp2_with fail
  go_ret
  exact⟨rfl,qa1 _ _⟩
 ·by_cases h1:(s.size:Int)<a
  ·rw[qnq s a (.inr (by omega))]
   go_enter Tryz.func59,Tryz.ntmps59
   go_wp2_with fail
   go_ret
   exact⟨rfl,qa1 _ _⟩
  ·obtain⟨k,rfl⟩: ∃k:Nat,a=(k:Int):=⟨a.toNat,by omega⟩
   have h:=qjv s k hs (by omega) w
   by_cases h2:k<s.size
   ·rw[qux s k h2];exact h
   ·rw[qnq s k (.inr (by omega))]
    rw[List.drop_of_length_le (by rw[Array.length_toList];show s.size<=k;omega),quw]at h
    exact h
end Go.Proofs.YtdhadeeajgoedaaGreat
