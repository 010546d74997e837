/-
  What package strings gives where package scan asks it: TrimRight of a comment's blanks, Clone, Cut at a newline, IndexByte among the blanks.
-/
import Derived.Test.YtajjhhodpohfpaaDoorScanCut
import Derived.Test.YtajjhhodpohfpaaDoorLitAny
import Derived.Test.YtajjhhodpohfpaaDoorLitEscs
import Derived.Test.YtajjhhodpohfpaaDoorScanDefs
import Derived.Shelf.Strings.SlTrimAscii
import Derived.Shelf.Strconv.Clone
namespace Go.Proofs.YtajjhhodpohfpaaDoor
open Go.RowKit Go.PlainAid

def trimRen : Go.Shelf.Ren :=
  ⟨fun
    | 119 => 102
    | 120 => 99
    | 137 => 49
    | 151 => 86
    | 152 => 94
    | 162 => 54
    | 197 => 100
    | 217 => 67
    | 224 => 97
    | 225 => 96
    | 227 => 70
    | 228 => 84
    | 232 => 69
    | 234 => 71
    | 236 => 72
    | 260 => 104
    | 266 => 82
    | 271 => 85
    | n => n,
   fun
    | 0 => 0
    | 3 => 3
    | 4 => 4
    | 5 => 5
    | 9 => 9
    | 21 => 21
    | 46 => 27
    | 105 => 77
    | 116 => 67
    | 117 => 68
    | 119 => 95
    | 124 => 71
    | 138 => 97
    | 139 => 98
    | n => n,
   fun
    | 3 => 6
    | 4 => 7
    | n => n⟩
theorem trimLays : Lays.n162 Tryd.prog trimRen := {
  mixed := by kernel_rfl
  f119 := Tryd.func102
  f120 := Tryd.func99
  f137 := Tryd.func49
  f151 := Tryd.func86
  f152 := Tryd.func94
  f162 := Tryd.func54
  f197 := Tryd.func100
  f217 := Tryd.func67
  f224 := Tryd.func97
  f225 := Tryd.func96
  f227 := Tryd.func70
  f228 := Tryd.func84
  f232 := Tryd.func69
  f234 := Tryd.func71
  f236 := Tryd.func72
  f260 := Tryd.func104
  f266 := Tryd.func82
  f271 := Tryd.func85
  t0 := Tryd.underlying0
  a0 := Tryd.isAgg0
  z0 := Tryd.sizeOf0
  v0 := Tryd.zeroValue0
  t3 := Tryd.underlying3
  a3 := Tryd.isAgg3
  z3 := Tryd.sizeOf3
  v3 := Tryd.zeroValue3
  t4 := Tryd.underlying4
  a4 := Tryd.isAgg4
  z4 := Tryd.sizeOf4
  v4 := Tryd.zeroValue4
  t5 := Tryd.underlying5
  a5 := Tryd.isAgg5
  z5 := Tryd.sizeOf5
  v5 := Tryd.zeroValue5
  t9 := Tryd.underlying9
  a9 := Tryd.isAgg9
  z9 := Tryd.sizeOf9
  v9 := Tryd.zeroValue9
  t21 := Tryd.underlying21
  a21 := Tryd.isAgg21
  z21 := Tryd.sizeOf21
  v21 := Tryd.zeroValue21
  t46 := Tryd.underlying27
  a46 := Tryd.isAgg27
  z46 := Tryd.sizeOf27
  v46 := Tryd.zeroValue27
  t105 := Tryd.underlying77
  a105 := Tryd.isAgg77
  z105 := Tryd.sizeOf77
  v105 := Tryd.zeroValue77
  t116 := Tryd.underlying67
  a116 := Tryd.isAgg67
  z116 := Tryd.sizeOf67
  t117 := Tryd.underlying68
  a117 := Tryd.isAgg68
  z117 := Tryd.sizeOf68
  v117 := Tryd.zeroValue68
  t119 := Tryd.underlying95
  a119 := Tryd.isAgg95
  z119 := Tryd.sizeOf95
  t124 := Tryd.underlying71
  a124 := Tryd.isAgg71
  z124 := Tryd.sizeOf71
  v124 := Tryd.zeroValue71
  t138 := Tryd.underlying97
  a138 := Tryd.isAgg97
  z138 := Tryd.sizeOf97
  v138 := Tryd.zeroValue97
  t139 := Tryd.underlying98
  a139 := Tryd.isAgg98
  z139 := Tryd.sizeOf98
  v139 := Tryd.zeroValue98
  g3 := by kernel_rfl
  g4 := by kernel_rfl
}
def cloneRen : Go.Shelf.Ren :=
  ⟨fun
    | 316 => 43
    | n => n,
   fun
    | 0 => 0
    | 3 => 3
    | 4 => 4
    | 5 => 5
    | 9 => 9
    | 37 => 59
    | 127 => 61
    | n => n,
   fun n => n⟩
theorem cloneLays : LaysM.n316 Tryd.prog cloneRen := {
  mixed := by kernel_rfl
  f316 := Tryd.func43
  t0 := Tryd.underlying0
  a0 := Tryd.isAgg0
  z0 := Tryd.sizeOf0
  v0 := Tryd.zeroValue0
  t3 := Tryd.underlying3
  a3 := Tryd.isAgg3
  z3 := Tryd.sizeOf3
  v3 := Tryd.zeroValue3
  t4 := Tryd.underlying4
  a4 := Tryd.isAgg4
  z4 := Tryd.sizeOf4
  v4 := Tryd.zeroValue4
  t9 := Tryd.underlying9
  a9 := Tryd.isAgg9
  z9 := Tryd.sizeOf9
  v9 := Tryd.zeroValue9
  t37 := Tryd.underlying59
  a37 := Tryd.isAgg59
  z37 := Tryd.sizeOf59
  v37 := Tryd.zeroValue59
  t127 := Tryd.underlying61
  a127 := Tryd.isAgg61
  z127 := Tryd.sizeOf61
  v127 := Tryd.zeroValue61
  t5 := Tryd.underlying5
  a5 := Tryd.isAgg5
  z5 := Tryd.sizeOf5
  v5 := Tryd.zeroValue5
  i0 := by kernel_rfl
  i3 := by kernel_rfl
  i4 := by kernel_rfl
  i5 := by kernel_rfl
  i9 := by kernel_rfl
  i37 := by kernel_rfl
  i127 := by kernel_rfl
}

theorem trimInfo : (Tryd.prog.info? (trimRen.t 116)).map (fun i => (i.zero, i.size)) = some (some (.agg (Array.replicate 256 (.bool false))), 256) := by kernel_rfl
theorem tb_contains (b : UInt8) : ([32, 9, 13] : List UInt8).contains b = tb (b.toNat : Int) := by
  have key : ∀ n : Fin 256, ([32, 9, 13] : List UInt8).contains (UInt8.ofNat n.val) = tb (n.val : Int) := by decide +kernel
  have := key ⟨b.toNat, b.toNat_lt⟩
  simpa using this
/-- TrimRight at blank, tab, CR. -/
theorem trimR_any (s : ByteArray) (hs : s.size ≤ 1048576) (w : World) :
    Calls Tryd.prog 54 #[.string s, .string { data := #[32, 9, 13] }] w fun e w' => e = .returned (.string (s.extract 0 (tr s 0 s.size))) ∧ Below w.heap.size w w' := by
  have h := Any.strings_TrimRight_laid trimLays trimInfo s ⟨#[32, 9, 13]⟩ w (by omega) (by decide) (fun j b hb => by
    have hm : b ∈ ([32, 9, 13] : List UInt8) := List.mem_of_getElem? hb
    simp at hm
    rcases hm with rfl | rfl | rfl <;> decide)
  have hl : s.data.toList.length = s.size := by rw [Array.length_toList]; rfl
  have gb : ∀ (j : Nat) b, s.data.toList[j]? = some b → j < s.size ∧ (b.toNat : Int) = bt s j := fun j b hb => by
    have hj : j < s.size := by
      apply Classical.byContradiction
      intro h'
      rw [List.getElem?_eq_none (by omega)] at hb
      cases hb
    have e : s.data.toList[j]? = some (s[j]'hj) := Lib.data_getElem? s j hj
    rw [e] at hb
    obtain rfl := Option.some.inj hb
    exact ⟨hj, get_bt s j hj⟩
  obtain ⟨t1, -, t3, t4⟩ := tr_spec s 0 s.size
  have ht : Lib.trimRightS s.data.toList [32, 9, 13] = s.data.toList.take (tr s 0 s.size) := by
    refine Lib.trimRightS_take _ _ _ (by omega) (fun j b hj hb => ?_) (fun b h0 hb => ?_)
    · obtain ⟨g1, g2⟩ := gb j b hb
      rw [tb_contains, g2]
      exact t3 j hj g1
    · obtain ⟨g1, g2⟩ := gb _ b hb
      rw [tb_contains, g2]
      exact t4 h0
  refine h.mono fun e w' ⟨h1, h2⟩ => ⟨?_, h2⟩
  rw [h1]
  congr 2
  show (⟨(Lib.trimRightS s.data.toList [32, 9, 13]).toArray⟩ : ByteArray) = _
  rw [ht]
  apply ByteArray.ext
  rw [ByteArray.data_extract]
  apply Array.toList_inj.1
  rw [Array.toList_extract]
  simp [List.extract]
/-- Clone: the same bytes. -/
theorem lclone_any (s : ByteArray) (hs : s.size ≤ 1048576) (w : World) :
    Calls Tryd.prog 43 #[.string s] w fun e w' => e = .returned (.string s) ∧ Below w.heap.size w w' := Any.stringslite_Clone cloneLays s w (by omega)
set_option maxRecDepth 100000 in
theorem clone_any (s : ByteArray) (hs : s.size ≤ 1048576) (w : World) :
    Calls Tryd.prog 21 #[.string s] w fun e w' => e = .returned (.string s) ∧ Below w.heap.size w w' := by
  have H := Lib.hid (fun W => lclone_any s hs W)
  go_enter Tryd.func21, Tryd.ntmps21
  go_wp2_with fail
  refine (H.out _).mono ?_
  rintro e w' ⟨rfl, hb⟩
  go_wp2_with fail
  go_ret
  exact ⟨rfl, hb⟩
set_option maxRecDepth 100000 in
theorem index_10 (s : ByteArray) (w : World) :
    Calls Tryd.prog 83 #[.string s, .string { data := #[10] }] w fun e w' => e = .returned (.int .i64 (ixr s 10)) ∧ w = w' := by
  have H := Lib.hid (fun W => indexByte_any s 10 W)
  have g0 : ((({ data := #[10] } : ByteArray)[0]'(by decide)).toNat : Int) = 10 := rfl
  have gc : (((10 : UInt8).toNat : Nat) : Int) = 10 := rfl
  rw [gc] at H
  have HA : Hid ((([10] : List UInt8) == s.toList) = true → ixr s 10 = 0) := fun h => ixr_alone (c := 10) (by rw [ByteArray.toList_eq] at h; exact h)
  obtain ⟨x, hx⟩ : ∃ x, x = ixr s 10 := ⟨_, rfl⟩
  rw [← hx] at H HA ⊢
  clear hx gc
  cases he : (([10] : List UInt8) == s.toList)
  · go_enter Tryd.func83, Tryd.ntmps83
    go_wp2_with fail
    refine (H.out _).mono ?_
    rintro e w' ⟨rfl, rfl⟩
    go_wp2_with fail
    go_ret
    exact ⟨rfl, rfl⟩
  · have HF := Lib.hid (HA.out he)
    go_enter Tryd.func83, Tryd.ntmps83
    go_wp2_with fail
    go_ret
    exact ⟨ret_int HF.out.symm, rfl⟩
set_option maxRecDepth 100000 in
/-- What Cut gives at this byte. -/
theorem lcut_10 (s : ByteArray) (hs : s.size ≤ maxLen) (w : World) :
    Calls Tryd.prog 68 #[.string s, .string { data := #[10] }] w fun e w' => e = .returned (if ix s 10 0 < s.size then .tuple #[.string (s.extract 0 (ix s 10 0)), .string (s.extract (ix s 10 0 + 1) s.size), .bool true] else .tuple #[.string s, .string { data := #[] }, .bool false]) ∧ ∃ n, w' = w.drewN n := by
  unfold maxLen at hs
  have H := Lib.hid (fun W => index_10 s W)
  by_cases h : ix s 10 0 < s.size
  · rw [if_pos h]
    have e : ixr s 10 = (ix s 10 0 : Nat) := by unfold ixr; rw [if_pos h]
    rw [e] at H
    obtain ⟨p, hp⟩ : ∃ p, p = ix s 10 0 := ⟨_, rfl⟩
    rw [← hp] at h H ⊢
    clear hp e
    go_enter Tryd.func68, Tryd.ntmps68
    go_wp2_with fail
    refine (H.out _).mono ?_
    rintro e w' ⟨rfl, rfl⟩
    go_wp2_with fail
    go_quiet (fail)
    go_wp2_with fail
    go_ret3
    exact ⟨rfl, _, rfl⟩
  · rw [if_neg h]
    have e : ixr s 10 = -1 := by unfold ixr; rw [if_neg h]
    rw [e] at H
    clear h e
    go_enter Tryd.func68, Tryd.ntmps68
    go_wp2_with fail
    refine (H.out _).mono ?_
    rintro e w' ⟨rfl, rfl⟩
    go_wp2_with fail
    go_ret3
    exact ⟨rfl, 0, rfl⟩
set_option maxRecDepth 100000 in
theorem cut_10 (s : ByteArray) (hs : s.size ≤ maxLen) (w : World) :
    Calls Tryd.prog 53 #[.string s, .string { data := #[10] }] w fun e w' => e = .returned (if ix s 10 0 < s.size then .tuple #[.string (s.extract 0 (ix s 10 0)), .string (s.extract (ix s 10 0 + 1) s.size), .bool true] else .tuple #[.string s, .string { data := #[] }, .bool false]) ∧ ∃ n, w' = w.drewN n := by
  have H := Lib.hid (fun W => lcut_10 s hs W)
  by_cases h : ix s 10 0 < s.size
  · rw [if_pos h] at H ⊢
    go_enter Tryd.func53, Tryd.ntmps53
    go_wp2_with fail
    refine (H.out _).mono ?_
    rintro e w' ⟨rfl, n, rfl⟩
    go_wp2_with fail
    go_ret3
    exact ⟨rfl, _, rfl⟩
  · rw [if_neg h] at H ⊢
    go_enter Tryd.func53, Tryd.ntmps53
    go_wp2_with fail
    refine (H.out _).mono ?_
    rintro e w' ⟨rfl, n, rfl⟩
    go_wp2_with fail
    go_ret3
    exact ⟨rfl, _, rfl⟩

theorem bl_ix (x : Int) (h0 : 0 ≤ x) (h1 : x ≤ 255) : decide (0 ≤ Lib.indexByte [32, 9, 13, 10] x.toNat.toUInt8) = bl x := by
  have key : ∀ n : Fin 256, decide (0 ≤ Lib.indexByte [32, 9, 13, 10] n.val.toUInt8) = bl (n.val : Int) := by decide +kernel
  have := key ⟨x.toNat, by omega⟩
  simp only at this
  have e : ((x.toNat : Nat) : Int) = x := Int.toNat_of_nonneg h0
  rw [e] at this
  exact this
set_option maxRecDepth 100000 in
/-- blank. -/
theorem blankc_any (c : Int) (h0 : 0 ≤ c) (h1 : c ≤ 255) (w : World) : Calls Tryd.prog 31 #[.int .u8 c] w fun e w' => e = .returned (.bool (bl c)) ∧ w = w' := by
  have hb := bl_ix c h0 h1
  have H := fun W => sindexByte_any ⟨#[32, 9, 13, 10]⟩ c.toNat.toUInt8 W
  have ec : ((c.toNat.toUInt8.toNat : Nat) : Int) = c := by
    have : c.toNat < 256 := by omega
    simp [Nat.mod_eq_of_lt this]
    omega
  rw [← ixr_list, ec] at H
  have H := Lib.hid H
  have hx : ixr ⟨#[32, 9, 13, 10]⟩ c = Lib.indexByte [32, 9, 13, 10] c.toNat.toUInt8 := by
    have := ixr_list ⟨#[32, 9, 13, 10]⟩ c.toNat.toUInt8
    rw [ec] at this
    exact this.symm
  obtain ⟨x, hx'⟩ : ∃ x, x = Lib.indexByte [32, 9, 13, 10] c.toNat.toUInt8 := ⟨_, rfl⟩
  have H2 : Hid (∀ W, Calls Tryd.prog 49 #[.string ⟨#[32, 9, 13, 10]⟩, .int .u8 c] W fun e w' => e = .returned (.int .i64 x) ∧ W = w') := Lib.hid fun W => by
    have := H.out W
    rw [hx']
    exact this
  rw [← hx'] at hb
  rw [← hb]
  clear hx hx' H hb ec
  go_enter Tryd.func31, Tryd.ntmps31
  go_wp2_with fail
  refine (H2.out _).mono ?_
  rintro e w' ⟨rfl, rfl⟩
  go_wp2_with fail
  go_ret
  exact ⟨rfl, rfl⟩
end Go.Proofs.YtajjhhodpohfpaaDoor
