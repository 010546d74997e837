/-
  THE PROGRAM's cell: widths and blanks.
-/
import Derived.Test.YtnmpapmjkihfcaaDoorCellMath
import Derived.Test.YtnmpapmjkihfcaaDoorAid
import Derived.Test.YtnmpapmjkihfcaaDoorUtfs
import Derived.Shelf.Strings.Repeat
namespace Go.Proofs.YtnmpapmjkihfcaaDoor
open Go.RowKit Go.PlainAid

def repRen : Go.Shelf.Ren :=
  ⟨fun
    | 99 => 78
    | 105 => 72
    | 165 => 79
    | 166 => 38
    | 169 => 40
    | 170 => 80
    | 206 => 84
    | 212 => 77
    | 240 => 55
    | 241 => 85
    | 263 => 82
    | 264 => 83
    | 276 => 68
    | 277 => 87
    | n => n,
   fun
    | 0 => 0
    | 3 => 3
    | 4 => 4
    | 5 => 5
    | 9 => 9
    | 20 => 20
    | 37 => 42
    | 46 => 34
    | 51 => 107
    | 53 => 110
    | 70 => 52
    | 72 => 54
    | 75 => 58
    | 76 => 59
    | 80 => 63
    | 109 => 102
    | 127 => 81
    | 146 => 108
    | 148 => 111
    | 164 => 95
    | n => n,
   fun n => n⟩
theorem repLays : Lays.n105 Tryd.prog repRen := {
  mixed := by kernel_rfl
  f99 := Tryd.func78
  f105 := Tryd.func72
  f165 := Tryd.func79
  f166 := Tryd.func38
  f169 := Tryd.func40
  f170 := Tryd.func80
  f206 := Tryd.func84
  f212 := Tryd.func77
  f240 := Tryd.func55
  f241 := Tryd.func85
  f263 := Tryd.func82
  f264 := Tryd.func83
  f276 := Tryd.func68
  f277 := Tryd.func87
  t0 := Tryd.underlying0
  a0 := Tryd.isAgg0
  z0 := Tryd.sizeOf0
  v0 := Tryd.zeroValue0
  t3 := Tryd.underlying3
  a3 := Tryd.isAgg3
  z3 := Tryd.sizeOf3
  v3 := Tryd.zeroValue3
  t4 := Tryd.underlying4
  a4 := Tryd.isAgg4
  z4 := Tryd.sizeOf4
  v4 := Tryd.zeroValue4
  t5 := Tryd.underlying5
  a5 := Tryd.isAgg5
  z5 := Tryd.sizeOf5
  v5 := Tryd.zeroValue5
  t9 := Tryd.underlying9
  a9 := Tryd.isAgg9
  z9 := Tryd.sizeOf9
  v9 := Tryd.zeroValue9
  t20 := Tryd.underlying20
  a20 := Tryd.isAgg20
  z20 := Tryd.sizeOf20
  v20 := Tryd.zeroValue20
  t37 := Tryd.underlying42
  a37 := Tryd.isAgg42
  z37 := Tryd.sizeOf42
  v37 := Tryd.zeroValue42
  t46 := Tryd.underlying34
  a46 := Tryd.isAgg34
  z46 := Tryd.sizeOf34
  v46 := Tryd.zeroValue34
  t51 := Tryd.underlying107
  a51 := Tryd.isAgg107
  z51 := Tryd.sizeOf107
  v51 := Tryd.zeroValue107
  t53 := Tryd.underlying110
  a53 := Tryd.isAgg110
  z53 := Tryd.sizeOf110
  v53 := Tryd.zeroValue110
  t70 := Tryd.underlying52
  a70 := Tryd.isAgg52
  z70 := Tryd.sizeOf52
  v70 := Tryd.zeroValue52
  t72 := Tryd.underlying54
  a72 := Tryd.isAgg54
  z72 := Tryd.sizeOf54
  v72 := Tryd.zeroValue54
  t75 := Tryd.underlying58
  a75 := Tryd.isAgg58
  z75 := Tryd.sizeOf58
  v75 := Tryd.zeroValue58
  t76 := Tryd.underlying59
  a76 := Tryd.isAgg59
  z76 := Tryd.sizeOf59
  v76 := Tryd.zeroValue59
  t109 := Tryd.underlying102
  a109 := Tryd.isAgg102
  z109 := Tryd.sizeOf102
  v109 := Tryd.zeroValue102
  t127 := Tryd.underlying81
  a127 := Tryd.isAgg81
  z127 := Tryd.sizeOf81
  v127 := Tryd.zeroValue81
  t146 := Tryd.underlying108
  a146 := Tryd.isAgg108
  z146 := Tryd.sizeOf108
  v146 := Tryd.zeroValue108
  t148 := Tryd.underlying111
  a148 := Tryd.isAgg111
  z148 := Tryd.sizeOf111
  v148 := Tryd.zeroValue111
  t164 := Tryd.underlying95
  a164 := Tryd.isAgg95
  z164 := Tryd.sizeOf95
  v164 := Tryd.zeroValue95
}
theorem repX : Builder.Extra Tryd.prog repRen where
  sizeBuilder := by kernel_rfl
  liesBuilder := by kernel_rfl
  t5 := Tryd.underlying5
  a5 := Tryd.isAgg5
  z5 := Tryd.sizeOf5
  v5 := Tryd.zeroValue5
  infoByte := by kernel_rfl
  cellsByte := by kernel_rfl
  sizeByte := by kernel_rfl
  neB5 := by decide
theorem rep_blks (c : Nat) : (⟨(Lib.repeatL (ByteArray.mk #[32]).data.toList c).toArray⟩ : ByteArray) = blks c := by
  have e := Lib.repeatL_replicate 32 1 c
  rw [Nat.mul_one] at e
  show (⟨(Lib.repeatL (List.replicate 1 (32 : UInt8)) c).toArray⟩ : ByteArray) = _
  rw [e]
  rfl
theorem repeat_any (c : Nat) (w : World) (hc : c ≤ 20000) : Calls Tryd.prog 72 #[.string ⟨#[32]⟩, .int .i64 (c : Int)] w fun e w' => e = .returned (.string (blks c)) ∧ Below w.heap.size w w' := by
  have h := Any.strings_Repeat repLays repX ⟨#[32]⟩ c w (by omega) (by show 1 * c ≤ _; omega)
  rw [rep_blks] at h
  exact h
set_option maxRecDepth 100000 in
theorem cwidth_any (s : ByteArray) (w : World) (hs : s.size ≤ 1048576) (ht : Tabs w) : Calls Tryd.prog 43 #[.string s] w fun e w' => e = .returned (.int .i64 (ct s 0 : Int)) ∧ Below w.heap.size w w' := by
  have HC := Lib.hid (count_any s w ht (by unfold maxLen; omega))
  clear ht
  go_enter Tryd.func43, Tryd.ntmps43
  go_wp2_with fail
  refine HC.out.mono ?_
  rintro e w1 ⟨rfl, n, rfl⟩
  go_wp2_with fail
  go_ret
  exact ⟨rfl, Below.ofDrewN _ _⟩
set_option maxRecDepth 100000 in
theorem cindent_any (n : Int) (w : World) : Calls Tryd.prog 63 #[.int .i64 n] w fun e w' => e = .returned (.string (indt n)) ∧ Below w.heap.size w w' := by
  obtain ⟨M, hM⟩ : ∃ M, M = min n.toNat 20000 := ⟨_, rfl⟩
  obtain ⟨V, hV⟩ : ∃ V, V = blks M := ⟨_, rfl⟩
  have hI : indt n = V := by rw [hV, hM]; rfl
  rw [hI]
  have HR := Lib.hid (repeat_any M w (by omega))
  rw [← hV, show (M : Int) = min (max n 0) 20000 by omega] at HR
  clear hI hV hM
  go_enter Tryd.func63, Tryd.ntmps63
  go_wp2_with fail
  refine HR.out.mono ?_
  rintro e w1 ⟨rfl, K⟩
  go_wp2_with fail
  go_ret
  exact ⟨rfl, K⟩
end Go.Proofs.YtnmpapmjkihfcaaDoor
