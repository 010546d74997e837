import Derived.Test.YtdhadeeajgoedaaGreatL21
set_option maxRecDepth 100000
set_option maxHeartbeats 4000000
set_option linter.all false
open Nat renaming zero_le→zA
namespace Go.Proofs.YtdhadeeajgoedaaGreat
open Go.RowKit Go.PlainAid
theorem qo2(s:ByteArray)(hs:s.size<=65536)(hv:vd s 0=true)(w:World):
 Calls Tryz.prog 15 #[.string s] w fun e w'=>ScanAre w s e w':=by
 have HVA:=zh (fun W=>qhz s W (by unfold maxLen;omega))
 rw[hv]at HVA
 have HBL:=zh (fun(k:Nat) (hk:k<=s.size) W=>qff s k hk (by omega) W)
 have HON:=zh (fun(k:Nat) (hk:k<s.size) W=>qzv s k hk (by omega) W)
 have hR:qco s=match sc s (fw bl s 0)with
  | none=>([],4)
  | some l=>(l,0):=by unfold qco;rw[if_neg (by omega),if_neg (by rw[hv];decide)];cases sc s (fw bl s 0)<;>rfl
 obtain⟨R,hRR⟩: ∃R,R=sc s (fw bl s 0):=⟨_,rfl⟩
 rw[<-hRR]at hR
 have HR:=zh hR
 have HB0:=HBL.out 0 (zA _)
 have h0le:=qjp bl s 0 (zA _)
 obtain⟨k0,hk0⟩: ∃k0,k0=fw bl s 0:=⟨_,rfl⟩
 rw[<-hk0]at HB0 h0le hRR
 have HB0:Hid (∀W,Calls Tryz.prog 32 #[.string s,.int .i64 0] W fun e w'=>e=.returned (.int .i64 k0)/\W=w'):=zh HB0
 have HRR:=zh hRR
 obtain⟨i0,hi,hz0,hz1,hz2⟩:=info_parts qyg
 have hz2':=zh hz2
 clear hv hR hRR hk0 hz2
 go_enter Tryz.func15,Tryz.ntmps15
 go_wp2_with fail
 refine(HVA.out _).mono ?_
 rintro e w' ⟨rfl,q0,rfl⟩
 go_wp2_with fail
 refine(HB0.out _).mono ?_
 rintro e w' ⟨rfl,rfl⟩
 go_wp2_with fail
 go_loopg [4,5] (s.size-k0) (fun gn v i wr=> ∃(k:Nat) (L:List Tk3),gn=s.size-k/\k<=s.size/\i=.int .i64 k/\L.length<=k/\Hid (Sk w s wr v L)/\Hid (R=(sc s k).map (L++ ·)))
 case atStart=>exact⟨k0,[],rfl,h0le,rfl,zA _,zh ⟨World.ownsRow_nil _ _ _ _,qab w _⟩,zh (by rw[HRR.out];cases sc s k0<;>rfl)⟩
 case round=>
  obtain⟨k,L,hgn,hk,rfl,hLk,HS,HK⟩:=hrel
  by_cases hlt:k<s.size
  ·have HO:=HON.out k hlt
   by_cases h0:(one s k).1=0
   ·rw[qly s k h0]at HO
    have HO:=zh HO
    have HF:Hid (qco s=([],4)):=zh (by rw[HR.out,HK.out,qrx hlt h0];rfl)
    clear h0
    go_wp2_with fail
    refine(HO.out _).mono ?_
    rintro e w1 ⟨rfl,hb1⟩
    have HS1:=zh (HS.out.below hb1)
    clear hb1
    go_wp2_with fail
    go_ret2
    exact ScanAre.no HF.out (HS1.out.2.alloc HS1.out.2.size _)
   ·have hbd:=qk3 hlt h0
    rw[qcm s k h0]at HO
    have HK2:=HK.out
    rw[sc_go hlt h0]at HK2
    obtain⟨kd,hkd⟩: ∃kd,kd=(one s k).1:=⟨_,rfl⟩
    obtain⟨N,hN⟩: ∃N,(one s k).2=k+N:=⟨(one s k).2-k,by omega⟩
    rw[hN]at HK2 HO hbd
    rw[<-hkd]at HK2 HO
    have HBe:=HBL.out (k+N) (by omega)
    have hEle:=qjp bl s (k+N) (by omega)
    have hEge:=qgh bl s (k+N)
    obtain⟨E,hE⟩: ∃E,E=fw bl s (k+N):=⟨_,rfl⟩
    rw[<-hE]at HBe HK2 hEle hEge
    rw[show((k+N:Nat):Int)=(k:Int)+(N:Int)by omega]at HBe
    have HBe:=zh HBe
    have HX:=zh (show(s.extract k (k+N)).size=N by rw[qd0 s k (k+N) (by omega)];omega)
    have HK3:Hid (R=(sc s E).map ((L++[(kd,k,k+N)])++ ·)):=zh (by rw[HK2];cases sc s E<;>simp)
    have HTC:Hid (tkc s (kd,k,k+N)=[.int .i64 kd,.string (s.extract k (k+N)),.int .i64 k]):=zh rfl
    obtain⟨X,hX⟩: ∃X,X=s.extract k (k+N):=⟨_,rfl⟩
    rw[<-hX]at HO HTC HX
    have xs:=HX.out
    have HO:=zh HO
    have hL1:L.length+1<=k+N:=by omega
    clear hX hE hN hkd h0 HK2 HX
    go_wp2_with fail
    refine(HO.out _).mono ?_
    rintro e w1 ⟨rfl,hb1⟩
    have HS1:=zh (HS.out.below hb1)
    clear hb1
    have HS2:=zh (HS1.out.below (qa1 w1 (.cells #[.int .i64 kd,.string X,.int .i64 k] 34)))
    have HOW:=HS2.out.1
    have hne:Hid (some w1.heap.size≠u4.ownBlock):=zh (fun h=>by
     have:=(HS1.out.1.lt w1.heap.size h.symm).2
     omega)
    have hrow:Hid ((w1.alloc (.cells #[.int .i64 kd,.string X,.int .i64 k] 34)).heap[w1.heap.size]?=some (.cells #[.int .i64 kd,.string X,.int .i64 k] 34 (0,0))):=zh (by
     show(w1.heap.push _)[w1.heap.size]?=_
     rw[Array.getElem?_push,if_pos rfl])
    have HNW:Hid (∀j u,[Value.int .i64 kd,.string X,.int .i64 k][j]?=some u->((w1.alloc (.cells #[.int .i64 kd,.string X,.int .i64 k] 34)).alloc (.cells #[.int .i64 kd,.string X,.int .i64 k] 34)).cell? ((⟨w1.heap.size+1,0,none⟩:Addr).add j)=some u):=zh (by
     have:=qg9 (w1.alloc (.cells #[.int .i64 kd,.string X,.int .i64 k] 34)) (.int .i64 kd) (.string X) (.int .i64 k) 34
     rw[show(w1.alloc (.cells #[.int .i64 kd,.string X,.int .i64 k] 34)).heap.size=w1.heap.size+1 by simp]at this
     exact this)
    have zle:w.heap.size<=w1.heap.size:=HS1.out.2.size
    go_wp2_with (at_builtin;go_must (refine wpList_append_own _ rfl _ _ 24 rfl w.heap.size 34 i0 (.agg #[.int .i64 0,.string ⟨#[]⟩,.int .i64 0]) 3 32 Tryz.underlying24 hi hz0 hz1 hz2'.out rfl (by decide) _ _ _ rfl (HOW.alloc _) ⟨w1.heap.size+1,0,none⟩ 1 1 [.int .i64 kd,.string X,.int .i64 k] rfl rfl HNW.out (by intro u hu;simp at hu;rcases hu with rfl | rfl | rfl<;>rfl) (by unfold maxLen;omega) (by omega) (by simp;omega) ?_);intro v' w3 hown hgrow _;have q1:w3.cell? ⟨w1.heap.size,1,none⟩=some (.string X):=cell_of_row w3 _ 1 _ _ _ (quk hne.out hrow.out _ hgrow);have HS3:=zh (HS2.out.put (x:=(kd,k,k+N)) _ (by rw[HTC.out];exact hown) hgrow);clear hown hgrow)
    refine(HBe.out _).mono ?_
    rintro e w4 ⟨rfl,rfl⟩
    go_wp2_with fail
    go_roundg (s.size-E)
    case measure=>omega
    case rel=>exact⟨E,L++[(kd,k,k+N)],rfl,hEle,rfl,by rw[List.length_append];simp;omega,HS3,HK3⟩
  ·obtain rfl:k=s.size:=by omega
   have HF:Hid (qco s=(L,0)):=zh (by rw[HR.out,HK.out,qn6 (by omega)];simp)
   go_wp2_with fail
   go_ret2
   exact ScanAre.ok HF.out HS.out
theorem qrs(s:ByteArray)(hs:s.size<=1048576)(w:World):
 Calls Tryz.prog 15 #[.string s] w fun e w'=>ScanAre w s e w':=by
 by_cases h1:65536<s.size
 ·have HF:Hid (qco s=([],3)):=zh (by unfold qco;rw[if_pos h1])
  have g1:(65536:Int)< (s.size:Int):=by omega
  go_enter Tryz.func15,Tryz.ntmps15
  go_wp2_with fail
  go_ret2
  exact ScanAre.no HF.out (Below.refl _ _)
 ·cases hv:vd s 0
  ·have HF:Hid (qco s=([],2)):=zh (by unfold qco;rw[if_neg h1,if_pos hv])
   have HVA:=zh (fun W=>qhz s W (by unfold maxLen;omega))
   rw[hv]at HVA
   have g1: ¬(65536:Int)< (s.size:Int):=by omega
   clear hv
   go_enter Tryz.func15,Tryz.ntmps15
   go_wp2_with fail
   refine(HVA.out _).mono ?_
   rintro e w' ⟨rfl,q0,rfl⟩
   go_wp2_with fail
   go_ret2
   exact ScanAre.no HF.out (qab w _)
  ·exact qo2 s (by omega) hv w
end Go.Proofs.YtdhadeeajgoedaaGreat
