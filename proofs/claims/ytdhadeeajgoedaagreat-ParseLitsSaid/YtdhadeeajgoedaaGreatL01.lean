import Derived.PlainAid
import Derived.Laws.BitsLemmas
import Derived.Laws.BitsAllLaws
import Derived.Laws.RangeAny
set_option maxRecDepth 100000
set_option maxHeartbeats 4000000
set_option linter.all false
namespace Go.Proofs.YtdhadeeajgoedaaGreat
theorem zh {p : Prop} (h : p) : Go.RowKit.Hid p := h
end Go.Proofs.YtdhadeeajgoedaaGreat
open List renaming getD_eq_getElem?_getD→zA,getElem?_eq_getElem→zB
open Nat renaming le_refl→zC
namespace Go.Proofs.YtdhadeeajgoedaaGreat
open Go.PlainAid
def qgl(c:Int):Bool:=decide (0<=c/\c<55296\/57344<=c/\c<1114112)
def isCo(x:Int):Bool:=decide (128<=x/\x<192)
def ln(x:Int):Nat:=if x<128 then 1 else if x<192 then 0 else if x<224 then 2 else if x<240 then 3 else if x<248 then 4 else 0
def qik:Nat->Int
 | 2=>192
 | 3=>224
 | 4=>240
 | _=>0
def qjx:Nat->Int
 | 2=>128
 | 3=>2048
 | 4=>65536
 | _=>0
def jp(s:ByteArray)(k:Nat)(h:Int):Nat->Int
 | 0=>bt s k-h
 | i+1=>jp s k h i*64+(bt s (k+(i+1))-128)
def okn(s:ByteArray)(k:Nat):Nat->Bool
 | 0=>true
 | i+1=>okn s k i&&isCo (bt s (k+(i+1)))
def jv(s:ByteArray)(k n:Nat):Int:=if okn s k (n-1)=true then jp s k (qik n) (n-1)else-1
def nc(s:ByteArray)(k:Nat):Int:=
 if ln (bt s k)=0\/s.size<k+ln (bt s k)then-1
 else if jv s k (ln (bt s k))<qjx (ln (bt s k))then-1
 else if qgl (jv s k (ln (bt s k)))=true then jv s k (ln (bt s k))else-1
def nl(s:ByteArray)(k:Nat):Nat:=if nc s k<0 then 1 else ln (bt s k)
theorem nc_pt{s:ByteArray}{k:Nat}(h: ¬nc s k<0):qgl (nc s k)=true:=by
 unfold nc at h⊢
 split
 ·simp_all
 ·split
  ·simp_all
  ·split
   ·assumption
   ·simp_all
theorem qcj(s:ByteArray)(k:Nat):1<=nl s k:=by
 unfold nl
 split
 ·omega
 ·rename_i h
  unfold nc at h
  split at h
  ·omega
  ·omega
theorem nc_in{s:ByteArray}{k:Nat}(h: ¬nc s k<0):ln (bt s k)≠0/\k+ln (bt s k)<=s.size:=by
 unfold nc at h
 split at h
 ·omega
 ·omega
theorem quv(s:ByteArray)(k:Nat)(hk:k<s.size):k+nl s k<=s.size:=by
 unfold nl
 split
 ·omega
 ·rename_i h;exact(nc_in h).2
theorem ln_le(x:Int):ln x<=4:=by
 unfold ln
 repeat' split
 all_goals omega
theorem qqj(s:ByteArray)(k:Nat):nl s k<=4:=by unfold nl;split;omega;exact ln_le _
def vd(s:ByteArray)(k:Nat):Bool:=if _h:k<s.size then(if nc s k<0 then false else vd s (k+nl s k))else true
termination_by s.size-k
decreasing_by have:=qcj s k;omega
def ct(s:ByteArray)(k:Nat):Nat:=if _h:k<s.size then 1+ct s (k+nl s k)else 0
termination_by s.size-k
decreasing_by have:=qcj s k;omega
theorem qt7{s:ByteArray}{k:Nat}(h: ¬k<s.size):vd s k=true:=by rw[vd];simp[h]
theorem qxh{s:ByteArray}{k:Nat}(h:k<s.size)(hn:nc s k<0):vd s k=false:=by rw[vd];simp[h,hn]
theorem vd_go{s:ByteArray}{k:Nat}(h:k<s.size)(hn: ¬nc s k<0):vd s k=vd s (k+nl s k):=by rw[vd];simp[h,hn]
theorem qml{s t:ByteArray}{k j:Nat}{h:Int}: ∀i:Nat,(∀x,x<=i->bt s (k+x)=bt t (j+x))->jp s k h i=jp t j h i
 | 0,e=>by have:=e 0 (zC _);simp only[Nat.add_zero]at this;simp only[jp,this]
 | i+1,e=>by simp only[jp];rw[qml i (fun x hx=>e x (by omega)),e (i+1) (zC _)]
theorem qk2{s t:ByteArray}{k j:Nat}: ∀i:Nat,(∀x,x<=i->bt s (k+x)=bt t (j+x))->okn s k i=okn t j i
 | 0,_=>rfl
 | i+1,e=>by simp only[okn];rw[qk2 i (fun x hx=>e x (by omega)),e (i+1) (zC _)]
theorem quj{s t:ByteArray}{k j n:Nat}(e: ∀x,x<n->bt s (k+x)=bt t (j+x))(hn:n≠0):jv s k n=jv t j n:=by
 unfold jv
 rw[qml (n-1) (fun x hx=>e x (by omega)),qk2 (n-1) (fun x hx=>e x (by omega))]
theorem qut{s t:ByteArray}{k j:Nat}(h0:bt s k=bt t j)(hs:k+ln (bt t j)<=s.size)(ht:j+ln (bt t j)<=t.size)(e: ∀x,x<ln (bt t j)->bt s (k+x)=bt t (j+x)):nc s k=nc t j:=by
 unfold nc
 rw[h0]
 by_cases hz:ln (bt t j)=0
 ·simp[hz]
 ·have n1: ¬(ln (bt t j)=0\/s.size<k+ln (bt t j)):=by omega
  have n2: ¬(ln (bt t j)=0\/t.size<j+ln (bt t j)):=by omega
  simp only[if_neg n1,if_neg n2,quj e hz]
theorem qd0(s:ByteArray)(a b:Nat)(hb:b<=s.size):(s.extract a b).size=b-a:=by
 rw[ByteArray.size_extract];omega
theorem qwg(s:ByteArray)(a b i:Nat)(hb:b<=s.size)(hi:a+i<b):bt (s.extract a b) i=bt s (a+i):=by
 unfold bt
 rw[dif_pos (by rw[qd0 s a b hb];omega),dif_pos (by omega)]
 simp[ByteArray.getElem_extract]
theorem qha(n:Int)(h0:0<=n)(h1:n<2 ^ 63):IntKind.i64.wrap n=n:=by rw[IntKind.wrap_i64];omega
end Go.Proofs.YtdhadeeajgoedaaGreat
namespace Go.Proofs.YtdhadeeajgoedaaGreat
open Go.PlainAid
def dg(c:Int):Int:=if 48<=c/\c<=57 then c-48 else if 65<=c/\c<=90 then c-55 else if 97<=c/\c<=122 then c-87 else 36
theorem qtw(c:Int):0<=dg c/\dg c<=36:=by unfold dg;repeat' split
                                         all_goals omega
theorem ql0:dg 0=36:=by decide
theorem qwi{s:ByteArray}{k:Nat}(h:s.size<=k):dg (bt s k)=36:=by rw[bt_end s h];exact ql0
def vn(s:ByteArray)(b:Nat)(e k:Nat)(v:Nat):Nat:=
 if _h:k<e then(if bt s k=95 then vn s b e (k+1) v else vn s b e (k+1) (v*b+(dg (bt s k)).toNat))else v
termination_by e-k
def rc(s:ByteArray)(b:Int):Nat->Nat->Nat
 | 0,_=>0
 | m+1,j=>if dg (bt s j)<b then 1+rc s b m (j+1)else 0
def rv(s:ByteArray)(b:Int):Nat->Nat->Int->Int
 | 0,_,v=>v
 | m+1,j,v=>if dg (bt s j)<b then rv s b m (j+1) (v*b+dg (bt s j))else v
theorem qhe(s:ByteArray)(b:Int): ∀m j,rc s b m j<=m
 | 0,_=>zC _
 | m+1,j=>by
  simp only[rc]
  split
  ·have:=qhe s b m (j+1);omega
  ·omega
theorem qzk(s:ByteArray)(b:Int)(hb:b<=36): ∀m j,j<=s.size->j+rc s b m j<=s.size
 | 0,_,h=>h
 | m+1,j,h=>by
  simp only[rc]
  split
  ·rename_i hd
   have hj:j<s.size:=by
    apply Classical.byContradiction
    intro hn
    rw[qwi (by omega)]at hd
    omega
   have:=qzk s b hb m (j+1) hj
   omega
  ·omega
theorem qvm(s:ByteArray)(b:Int)(hb:1<=b): ∀m j v,0<=v->0<=rv s b m j v/\rv s b m j v< (v+1)*b ^ rc s b m j
 | 0,_,v,h=>by simp only[rv,rc,Int.pow_zero];omega
 | m+1,j,v,h=>by
  simp only[rv,rc]
  split
  ·rename_i hd
   have d0:=(qtw (bt s j)).1
   have hv:0<=v*b:=Int.mul_nonneg h (by omega)
   have:=qvm s b hb m (j+1) (v*b+dg (bt s j)) (by omega)
   refine⟨this.1,Int.lt_of_lt_of_le this.2 ?_⟩
   have e:(v+1)*b ^ (1+rc s b m (j+1))=((v+1)*b)*b ^ rc s b m (j+1):=by rw[Nat.add_comm,Int.pow_succ,Int.mul_comm (b ^ _) b,Int.mul_assoc]
   rw[e]
   refine Int.mul_le_mul_of_nonneg_right ?_ (Int.pow_nonneg (by omega))
   have e2:(v+1)*b=v*b+b:=by rw[Int.add_mul,Int.one_mul]
   omega
  ·simp only[Int.pow_zero];omega
def ix(s:ByteArray)(c:Int)(k:Nat):Nat:=if _h:k<s.size then(if bt s k=c then k else ix s c (k+1))else s.size
termination_by s.size-k
theorem qf8(s:ByteArray)(c:Int): ∀m k:Nat,s.size-k<=m->k<=s.size->k<=ix s c k/\ix s c k<=s.size/\(∀i,k<=i->i<ix s c k->bt s i≠c)/\(ix s c k<s.size->bt s (ix s c k)=c):=by
 intro m
 induction m with
 | zero=>
  intro k h hk
  have e:ix s c k=s.size:=by rw[ix,dif_neg (by omega)]
  rw[e]
  exact⟨hk,zC _,fun i h1 h2=>by omega,fun h=>by omega⟩
 | succ m ih=>
  intro k h hk
  by_cases hlt:k<s.size
  ·by_cases hc:bt s k=c
   ·have e:ix s c k=k:=by rw[ix,dif_pos hlt,if_pos hc]
    rw[e]
    exact⟨zC _,hk,fun i h1 h2=>by omega,fun _=>hc⟩
   ·have e:ix s c k=ix s c (k+1):=by rw[ix,dif_pos hlt,if_neg hc]
    rw[e]
    obtain⟨h1,h2,h3,h4⟩:=ih (k+1) (by omega) hlt
    refine⟨by omega,h2,fun i i1 i2=>?_,h4⟩
    by_cases hi:i=k
    ·rw[hi];exact hc
    ·exact h3 i (by omega) i2
  ·have e:ix s c k=s.size:=by rw[ix,dif_neg hlt]
   rw[e]
   exact⟨hk,zC _,fun i h1 h2=>by omega,fun h=>by omega⟩
theorem ix_is{s:ByteArray}{c:Int}{k p:Nat}(hk:k<=p)(hp:p<=s.size)(h: ∀i,k<=i->i<p->bt s i≠c)(he:p<s.size->bt s p=c):ix s c k=p:=by
 obtain⟨h1,h2,h3,h4⟩:=qf8 s c (s.size-k) k (zC _) (by omega)
 by_cases a:ix s c k<p
 ·exact absurd (h4 (by omega)) (h _ h1 a)
 ·by_cases b:p<ix s c k
  ·exact absurd (he (by omega)) (h3 _ hk b)
  ·omega
end Go.Proofs.YtdhadeeajgoedaaGreat
namespace Go.Proofs.YtdhadeeajgoedaaGreat
open Go.PlainAid
def beg(c:Int):Int:=if 97<=c/\c<=122 then 1 else if(65<=c/\c<=90)\/c=95 then 2 else if 48<=c/\c<=57 then 3 else 0
def inn(c:Int):Bool:=beg c !=0||c==64
def ws:List (List UInt8):=[
 [97,102,116,101,114],[97,110,100],[97,110,100,97,108,115,111],[98,97,110,100],[98,101,103,105,110],[98,110,111,116],
 [98,111,114],[98,115,108],[98,115,114],[98,120,111,114],[99,97,115,101],[99,97,116,99,104],
 [100,105,118],[101,110,100],[102,117,110],[105,102],[110,111,116],[111,102],
 [111,114],[111,114,101,108,115,101],[114,101,99,101,105,118,101],[114,101,109],[119,104,101,110],[120,111,114]]
def wd(j:Nat):ByteArray:=⟨(ws.getD j []).toArray⟩
def rs(s:ByteArray):Bool:=ws.any fun l=>s.data.toList==l
theorem rs_yes{s:ByteArray}{j:Nat}(hj:j<24)(h:s.data.toList=ws.getD j []):rs s=true:=by
 unfold rs
 rw[List.any_eq_true]
 refine⟨ws.getD j [],?_,by rw[h];exact beq_self_eq_true _⟩
 rw[zA,zB (show j<ws.length from hj)]
 exact List.getElem_mem _
theorem rs_no{s:ByteArray}(h: ∀j,j<24->s.data.toList≠ws.getD j []):rs s=false:=by
 unfold rs
 rw[List.any_eq_false]
 intro x hx
 obtain⟨j,hj,rfl⟩:=List.getElem_of_mem hx
 have:=h j hj
 rw[zA,zB hj]at this
 simpa using this
theorem qg6(c:Int):0<=beg c/\beg c<=3:=by
 unfold beg
 repeat' split
 all_goals omega
theorem qf7{c:Int}(h:0<beg c):inn c=true:=by
 unfold inn
 have:(beg c !=0)=true:=by simp;omega
 rw[this];rfl
end Go.Proofs.YtdhadeeajgoedaaGreat
namespace Go.Proofs.YtdhadeeajgoedaaGreat
open Go.PlainAid
theorem qus{s:ByteArray}{k:Nat}(hk:k<s.size)(h:bt s k<128):nc s k=bt s k/\nl s k=1:=by
 have h0:=bt_nonneg s k
 have e:ln (bt s k)=1:=by unfold ln;rw[if_pos h]
 have hj:jv s k 1=bt s k:=by
  unfold jv
  rw[if_pos (by rfl)]
  simp only[Nat.sub_self,jp,qik]
  omega
 have hc:nc s k=bt s k:=by
  unfold nc
  rw[e,if_neg (by omega),hj,if_neg (by simp only[qjx];omega),if_pos (show qgl (bt s k)=true from decide_eq_true (by omega))]
 exact⟨hc,by unfold nl;rw[hc,if_neg (by omega),e]⟩
def ltr(c:Int):Int:=
 if c=98 then 8 else if c=100 then 127 else if c=101 then 27 else if c=102 then 12 else if c=110 then 10 else if c=114 then 13 else if c=115 then 32 else if c=116 then 9 else if c=118 then 11 else 0
def ctl(c:Int):Int×Nat:=if(64<=c/\c<=95)\/(97<=c/\c<=122)then(c % 32,2)else(-1,0)
def hxd(s:ByteArray)(j:Nat):Int×Nat:=
 if bt s (j+1)=123 then(if rc s 16 6 (j+2)=0\/bt s (j+2+rc s 16 6 (j+2))≠125 then(-1,0)else(rv s 16 6 (j+2) 0,rc s 16 6 (j+2)+3))
 else if rc s 16 2 (j+1)<2 then(-1,0)else(rv s 16 2 (j+1) 0,3)
def mnt(s:ByteArray)(j:Nat):Int×Nat:=
 if 0<rc s 8 3 j then(rv s 8 3 j 0,rc s 8 3 j)
 else if bt s j=120 then hxd s j
 else if bt s j=94 then ctl (bt s (j+1))
 else if s.size<=j\/nc s j<32 then(-1,0)
 else if(97<=bt s j/\bt s j<=122)/\ltr (bt s j)≠0 then(ltr (bt s j),nl s j)
 else(nc s j,nl s j)
def esc(s:ByteArray)(k:Nat):Int×Nat:=
 if k<s.size/\bt s k=92 then(if qgl (mnt s (k+1)).1=true then((mnt s (k+1)).1,1+(mnt s (k+1)).2)else(-1,0))else(-1,0)
theorem qk9(b:Int)(hb:1<=b): ∀n m:Nat,n<=m->b ^ n<=b ^ m:=by
 intro n m h
 induction m with
 | zero=>obtain rfl:n=0:=by omega
         exact Int.le_refl _
 | succ m ih=>
  by_cases e:n=m+1
  ·rw[e];exact Int.le_refl _
  ·have:=ih (by omega)
   have h0:0<=b ^ m:=Int.pow_nonneg (by omega)
   have:b ^ m*1<=b ^ m*b:=Int.mul_le_mul_of_nonneg_left hb h0
   rw[Int.pow_succ]
   omega
theorem qx6(s:ByteArray)(m j:Nat)(hm:m<=6):0<=rv s 16 m j 0/\rv s 16 m j 0<16777216:=by
 have h:=qvm s 16 (by omega) m j 0 (by omega)
 have h1:=qk9 16 (by omega) (rc s 16 m j) 6 (by have:=qhe s 16 m j;omega)
 have h2:(16:Int) ^ 6=16777216:=by decide
 omega
theorem qx7(s:ByteArray)(j:Nat):0<=rv s 8 3 j 0/\rv s 8 3 j 0<512:=by
 have h:=qvm s 8 (by omega) 3 j 0 (by omega)
 have h1:=qk9 8 (by omega) (rc s 8 3 j) 3 (qhe s 8 3 j)
 have h2:(8:Int) ^ 3=512:=by decide
 omega
theorem ctl_bd(c:Int): -1<=(ctl c).1/\(ctl c).1<32/\(ctl c).2<=2:=by
 unfold ctl
 split<;> (simp only;omega)
theorem hxd_bd(s:ByteArray)(j:Nat): -1<=(hxd s j).1/\(hxd s j).1<16777216/\(hxd s j).2<=9:=by
 have h1:=qx6 s 6 (j+2) (by omega)
 have h2:=qx6 s 2 (j+1) (by omega)
 have h3:=qhe s 16 6 (j+2)
 unfold hxd
 split
 ·split<;> (simp only;omega)
 ·split<;> (simp only;omega)
theorem nc_bd(s:ByteArray)(k:Nat): -1<=nc s k/\nc s k<1114112:=by
 by_cases h:nc s k<0
 ·refine⟨?_,by omega⟩
  unfold nc at h⊢
  split
  ·omega
  ·split
   ·omega
   ·split
    ·rename_i h1;have:=of_decide_eq_true h1;omega
    ·omega
 ·have:=of_decide_eq_true (nc_pt h);omega
theorem ltr_bd(c:Int):0<=ltr c/\ltr c<=127:=by
 unfold ltr
 repeat' split
 all_goals omega
theorem mnt_bd(s:ByteArray)(j:Nat): -1<=(mnt s j).1/\(mnt s j).1<16777216/\(mnt s j).2<=9:=by
 have h1:=qx7 s j
 have h2:=qhe s 8 3 j
 have h3:=hxd_bd s j
 have h4:=ctl_bd (bt s (j+1))
 have h5:=nc_bd s j
 have h6:=qqj s j
 have h7:=ltr_bd (bt s j)
 unfold mnt
 split
 ·simp only;omega
 ·split
  ·exact h3
  ·split
   ·omega
   ·split
    ·simp only;omega
    ·split<;> (simp only;omega)
theorem esc_bd(s:ByteArray)(k:Nat): -1<=(esc s k).1/\(esc s k).1<16777216/\(esc s k).2<=10:=by
 have:=mnt_bd s (k+1)
 unfold esc
 split
 ·split<;> (simp only;omega)
 ·simp only;omega
end Go.Proofs.YtdhadeeajgoedaaGreat
namespace Go.Proofs.YtdhadeeajgoedaaGreat
open Go.RowKit Go.PlainAid
def sgs:List (List UInt8):=[[61,58,61],[61,47,61],[60,60],[62,62],[45,62],[60,45],[60,61],[61,62],[58,61],[58,58],[61,61],[47,61],[61,60],[62,61],[124,124],[43,43],[45,45],[40],[41],[123],[125],[91],[93],[44],[59],[58],[61],[124],[33],[35],[43],[45],[42],[47],[60],[62],[46]]
def sg(k:Nat):List UInt8:=sgs.getD k []
def lgf(l:List UInt8):Nat->Nat
 | 0=>0
 | m+1=>if(sg (36-m)).isPrefixOf l=true then(sg (36-m)).length else lgf l m
def lgL(l:List UInt8):Nat:=lgf l 37
def lg(s:ByteArray)(a:Int):Nat:=if 0<=a/\a<s.size then lgL (s.data.toList.drop a.toNat)else 0
theorem qum(l:List UInt8)(k:Nat)(h:k<37):lgf l (37-k)=if(sg k).isPrefixOf l=true then(sg k).length else lgf l (37- (k+1)):=by
 obtain⟨m,hm⟩: ∃m,37-k=m+1:=⟨36-k,by omega⟩
 rw[hm]
 have e1:36-m=k:=by omega
 have e2:37- (k+1)=m:=by omega
 rw[e2]
 show(if(sg (36-m)).isPrefixOf l=true then(sg (36-m)).length else lgf l m)=_
 rw[e1]
theorem qg2: ∀k:Fin 37,1<=(sg k.val).length/\(sg k.val).length<=3/\(sg k.val).all (· !=0)=true:=by decide+kernel
theorem qq0(l:List UInt8): ∀m,m<=37->lgf l m<=3
 | 0,_=>Nat.zero_le _
 | m+1,h=>by
  have f:=(qg2 ⟨36-m,by omega⟩).2.1
  unfold lgf
  split
  ·exact f
  ·exact qq0 l m (by omega)
theorem qyp:lgL []=0:=by decide+kernel
theorem qyq(s:ByteArray)(k:Nat)(h:k<s.size):lg s k=lgL (s.data.toList.drop k):=by
 unfold lg;rw[if_pos (by omega)];rfl
theorem qpy(s:ByteArray)(a:Int)(h:a<0\/s.size<=a):lg s a=0:=by
 unfold lg;rw[if_neg (by omega)]
def ga(k:Nat):Int:=(((sg k).getD 0 0).toNat:Int)
def gb(k:Nat):Int:=(((sg k).getD 1 0).toNat:Int)
def gc(k:Nat):Int:=(((sg k).getD 2 0).toNat:Int)
theorem n0{a:UInt8}(h:(a !=0)=true): ¬(a.toNat:Int)=0:=by
 intro e
 have:a.toNat=0:=by omega
 have:a=0:=UInt8.toNat_inj.1 this
 simp[this]at h
theorem qhu{g l:List UInt8}(h:g.isPrefixOf l=true):g.length<=l.length:=by
 have:=List.isPrefixOf_iff_prefix.1 h
 exact this.length_le
def opq(l:List UInt8):Bool:=l==[40]||l==[123]||l==[91]||l==[60,60]
def opw(l:List UInt8):Bool:=l==[98,101,103,105,110]||l==[99,97,115,101]||l==[105,102]||l==[114,101,99,101,105,118,101]
def clq(l:List UInt8):Bool:=l==[41]||l==[125]||l==[93]||l==[62,62]
def clw(l:List UInt8):Bool:=l==[101,110,100]
def prL(l:List UInt8):List UInt8:=if l=[40]then[41]else if l=[123]then[125]else if l=[91]then[93]else if l=[60,60]then[62,62]else[]
def pr(s:ByteArray):ByteArray:=⟨(prL s.data.toList).toArray⟩
def ops(k:Int)(s:ByteArray):Bool:=if k=9 then opq s.data.toList else if k=8 then opw s.data.toList else false
def cls(k:Int)(s:ByteArray):Bool:=if k=9 then clq s.data.toList else if k=8 then clw s.data.toList else false
end Go.Proofs.YtdhadeeajgoedaaGreat
