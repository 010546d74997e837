/-
  THE PROGRAM's cell: widths and blanks.
-/
import Derived.Test.YtbjgoigdhijbgaaDoorCellMath
import Derived.Test.YtbjgoigdhijbgaaDoorAid
import Derived.Test.YtbjgoigdhijbgaaDoorUtfs
import Derived.Shelf.Strings.Repeat
namespace Go.Proofs.YtbjgoigdhijbgaaDoor
open Go.RowKit Go.PlainAid

def repRen : Go.Shelf.Ren :=
  ⟨fun
    | 99 => 61
    | 105 => 54
    | 165 => 62
    | 166 => 26
    | 169 => 29
    | 170 => 63
    | 206 => 69
    | 212 => 60
    | 240 => 43
    | 241 => 70
    | 263 => 67
    | 264 => 68
    | 276 => 53
    | 277 => 72
    | n => n,
   fun
    | 0 => 0
    | 3 => 3
    | 4 => 4
    | 5 => 5
    | 9 => 9
    | 20 => 20
    | 37 => 35
    | 46 => 27
    | 51 => 101
    | 53 => 104
    | 70 => 49
    | 72 => 51
    | 75 => 58
    | 76 => 59
    | 80 => 61
    | 109 => 95
    | 127 => 77
    | 146 => 102
    | 148 => 105
    | 164 => 88
    | n => n,
   fun n => n⟩
theorem repLays : Lays.n105 Tryd.prog repRen := {
  mixed := by kernel_rfl
  f99 := Tryd.func61
  f105 := Tryd.func54
  f165 := Tryd.func62
  f166 := Tryd.func26
  f169 := Tryd.func29
  f170 := Tryd.func63
  f206 := Tryd.func69
  f212 := Tryd.func60
  f240 := Tryd.func43
  f241 := Tryd.func70
  f263 := Tryd.func67
  f264 := Tryd.func68
  f276 := Tryd.func53
  f277 := Tryd.func72
  t0 := Tryd.underlying0
  a0 := Tryd.isAgg0
  z0 := Tryd.sizeOf0
  v0 := Tryd.zeroValue0
  t3 := Tryd.underlying3
  a3 := Tryd.isAgg3
  z3 := Tryd.sizeOf3
  v3 := Tryd.zeroValue3
  t4 := Tryd.underlying4
  a4 := Tryd.isAgg4
  z4 := Tryd.sizeOf4
  v4 := Tryd.zeroValue4
  t5 := Tryd.underlying5
  a5 := Tryd.isAgg5
  z5 := Tryd.sizeOf5
  v5 := Tryd.zeroValue5
  t9 := Tryd.underlying9
  a9 := Tryd.isAgg9
  z9 := Tryd.sizeOf9
  v9 := Tryd.zeroValue9
  t20 := Tryd.underlying20
  a20 := Tryd.isAgg20
  z20 := Tryd.sizeOf20
  v20 := Tryd.zeroValue20
  t37 := Tryd.underlying35
  a37 := Tryd.isAgg35
  z37 := Tryd.sizeOf35
  v37 := Tryd.zeroValue35
  t46 := Tryd.underlying27
  a46 := Tryd.isAgg27
  z46 := Tryd.sizeOf27
  v46 := Tryd.zeroValue27
  t51 := Tryd.underlying101
  a51 := Tryd.isAgg101
  z51 := Tryd.sizeOf101
  v51 := Tryd.zeroValue101
  t53 := Tryd.underlying104
  a53 := Tryd.isAgg104
  z53 := Tryd.sizeOf104
  v53 := Tryd.zeroValue104
  t70 := Tryd.underlying49
  a70 := Tryd.isAgg49
  z70 := Tryd.sizeOf49
  v70 := Tryd.zeroValue49
  t72 := Tryd.underlying51
  a72 := Tryd.isAgg51
  z72 := Tryd.sizeOf51
  v72 := Tryd.zeroValue51
  t75 := Tryd.underlying58
  a75 := Tryd.isAgg58
  z75 := Tryd.sizeOf58
  v75 := Tryd.zeroValue58
  t76 := Tryd.underlying59
  a76 := Tryd.isAgg59
  z76 := Tryd.sizeOf59
  v76 := Tryd.zeroValue59
  t109 := Tryd.underlying95
  a109 := Tryd.isAgg95
  z109 := Tryd.sizeOf95
  v109 := Tryd.zeroValue95
  t127 := Tryd.underlying77
  a127 := Tryd.isAgg77
  z127 := Tryd.sizeOf77
  v127 := Tryd.zeroValue77
  t146 := Tryd.underlying102
  a146 := Tryd.isAgg102
  z146 := Tryd.sizeOf102
  v146 := Tryd.zeroValue102
  t148 := Tryd.underlying105
  a148 := Tryd.isAgg105
  z148 := Tryd.sizeOf105
  v148 := Tryd.zeroValue105
  t164 := Tryd.underlying88
  a164 := Tryd.isAgg88
  z164 := Tryd.sizeOf88
  v164 := Tryd.zeroValue88
}
theorem repX : Builder.Extra Tryd.prog repRen where
  sizeBuilder := by kernel_rfl
  liesBuilder := by kernel_rfl
  t5 := Tryd.underlying5
  a5 := Tryd.isAgg5
  z5 := Tryd.sizeOf5
  v5 := Tryd.zeroValue5
  infoByte := by kernel_rfl
  cellsByte := by kernel_rfl
  sizeByte := by kernel_rfl
  neB5 := by decide
theorem rep_blks (c : Nat) : (⟨(Lib.repeatL (ByteArray.mk #[32]).data.toList c).toArray⟩ : ByteArray) = blks c := by
  have e := Lib.repeatL_replicate 32 1 c
  rw [Nat.mul_one] at e
  show (⟨(Lib.repeatL (List.replicate 1 (32 : UInt8)) c).toArray⟩ : ByteArray) = _
  rw [e]
  rfl
theorem repeat_any (c : Nat) (w : World) (hc : c ≤ 20000) : Calls Tryd.prog 54 #[.string ⟨#[32]⟩, .int .i64 (c : Int)] w fun e w' => e = .returned (.string (blks c)) ∧ Below w.heap.size w w' := by
  have h := Any.strings_Repeat repLays repX ⟨#[32]⟩ c w (by omega) (by show 1 * c ≤ _; omega)
  rw [rep_blks] at h
  exact h
set_option maxRecDepth 100000 in
theorem cwidth_any (s : ByteArray) (w : World) (hs : s.size ≤ 1048576) (ht : Tabs w) : Calls Tryd.prog 40 #[.string s] w fun e w' => e = .returned (.int .i64 (ct s 0 : Int)) ∧ Below w.heap.size w w' := by
  have HC := Lib.hid (count_any s w ht (by unfold maxLen; omega))
  clear ht
  go_enter Tryd.func40, Tryd.ntmps40
  go_wp2_with fail
  refine HC.out.mono ?_
  rintro e w1 ⟨rfl, n, rfl⟩
  go_wp2_with fail
  go_ret
  exact ⟨rfl, Below.ofDrewN _ _⟩
set_option maxRecDepth 100000 in
theorem cindent_any (n : Int) (w : World) : Calls Tryd.prog 44 #[.int .i64 n] w fun e w' => e = .returned (.string (indt n)) ∧ Below w.heap.size w w' := by
  obtain ⟨M, hM⟩ : ∃ M, M = min n.toNat 20000 := ⟨_, rfl⟩
  obtain ⟨V, hV⟩ : ∃ V, V = blks M := ⟨_, rfl⟩
  have hI : indt n = V := by rw [hV, hM]; rfl
  rw [hI]
  have HR := Lib.hid (repeat_any M w (by omega))
  rw [← hV, show (M : Int) = min (max n 0) 20000 by omega] at HR
  clear hI hV hM
  go_enter Tryd.func44, Tryd.ntmps44
  go_wp2_with fail
  refine HR.out.mono ?_
  rintro e w1 ⟨rfl, K⟩
  go_wp2_with fail
  go_ret
  exact ⟨rfl, K⟩
end Go.Proofs.YtbjgoigdhijbgaaDoor
