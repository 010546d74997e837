/-
  The contract of package utf's Put: a code point's bytes are the language's own, and nothing that was there is written; what is no code point has none.
-/
import Derived.Test.YtnejkdaiopjchaaDoorUtfWalks
import Derived.Laws.IdiomStrings
namespace Go.Proofs.YtnejkdaiopjchaaDoor
open Go.RowKit Go.PlainAid

theorem u8_or0 (x : Int) (h0 : 0 ≤ x) (h1 : x < 256) : bits .or .u8 0 x = x := by
  have := bits_join .u8 8 (by decide) wraps_u8 8 0 x (by decide) (by decide) (by decide) h0 (by omega) (by omega)
  rw [this]; omega
theorem conv_row (w : World) (l : List UInt8) (cells : Array Value) (n : Nat) (hn : l.length = n) (hc : ∀ j (hj : j < l.length), cells[j]? = some (.int .u8 (l[j].toNat : Int))) :
    (convert 65 9 (.slice (some ⟨w.heap.size, 0, none⟩) n 4)).run Tryd.prog (w.alloc (.cells cells 63)) = .ok (.string ⟨l.toArray⟩) (w.alloc (.cells cells 63)) := by
  subst hn
  refine run_convert_bytes_back (P := Tryd.prog) _ 65 9 5 ⟨w.heap.size, 0, none⟩ 4 l Tryd.underlying65 Tryd.underlying5 Tryd.underlying9 ?_
  intro j hj
  have := hc j hj
  have e : (⟨w.heap.size, 0, none⟩ : Addr).add j = ⟨w.heap.size, j, none⟩ := by simp [Addr.add]; exact fun h => h.symm
  rw [e, World.cell?_alloc_new]
  exact this
theorem pt_valid {c : Int} (h : isPt c = true) : Utf8.valid c = true := by
  have := of_decide_eq_true h
  unfold Utf8.valid
  simp only [Bool.or_eq_true, Bool.and_eq_true, decide_eq_true_eq]
  omega
theorem enc1 {c : Int} (h : isPt c = true) (h1 : c < 128) : Utf8.encode c = ⟨[UInt8.ofNat c.toNat].toArray⟩ := by
  unfold Utf8.encode
  simp only [pt_valid h, if_true]
  rw [if_pos (by omega)]
theorem enc2 {c : Int} (h : isPt c = true) (h0 : 128 ≤ c) (h1 : c < 2048) : Utf8.encode c = ⟨[UInt8.ofNat (192 + c.toNat / 64), UInt8.ofNat (128 + c.toNat % 64)].toArray⟩ := by
  unfold Utf8.encode
  simp only [pt_valid h, if_true]
  rw [if_neg (by omega), if_pos (by omega)]
theorem enc3 {c : Int} (h : isPt c = true) (h0 : 2048 ≤ c) (h1 : c < 65536) : Utf8.encode c = ⟨[UInt8.ofNat (224 + c.toNat / 4096), UInt8.ofNat (128 + c.toNat / 64 % 64), UInt8.ofNat (128 + c.toNat % 64)].toArray⟩ := by
  unfold Utf8.encode
  simp only [pt_valid h, if_true]
  rw [if_neg (by omega), if_neg (by omega), if_pos (by omega)]
theorem enc4 {c : Int} (h : isPt c = true) (h0 : 65536 ≤ c) : Utf8.encode c = ⟨[UInt8.ofNat (240 + c.toNat / 262144), UInt8.ofNat (128 + c.toNat / 4096 % 64), UInt8.ofNat (128 + c.toNat / 64 % 64), UInt8.ofNat (128 + c.toNat % 64)].toArray⟩ := by
  unfold Utf8.encode
  simp only [pt_valid h, if_true]
  rw [if_neg (by omega), if_neg (by omega), if_neg (by omega)]
theorem pt_bd {c : Int} (h : isPt c = true) : 0 ≤ c ∧ c < 1114112 := by
  have := of_decide_eq_true h
  omega
theorem byte_is {x : Int} {n : Nat} (h : x = n) (hn : n < 256) : x = ((UInt8.ofNat n).toNat : Int) := by
  rw [h, UInt8.toNat_ofNat']
  omega

/-- The bytes of a code point; none of what is none. -/
def pu (c : Int) : ByteArray := if isPt c = true then Utf8.encode c else ⟨#[]⟩

theorem put_1 (c : Int) (w : World) (ht : Tabs w) (hp : isPt c = true) (h1 : c < 128) :
    Calls Tryd.prog 31 #[.int .i64 c] w fun e w' => e = .returned (.string (Utf8.encode c)) ∧ Below w.heap.size w w' := by
  have h0 := (pt_bd hp).1
  have e : ((lenOf c : Nat) : Int) = 1 := by unfold lenOf; rw [if_pos h1]; rfl
  have HL := length_any c w ht
  rw [e] at HL
  have HL' := Lib.hid HL
  have hd := ht.2.2 1 (by decide)
  simp only [hdOf] at hd
  have hz := World.block_lt_of_cell? _ _ hd
  simp only at hz
  have HP := Lib.hid hp
  have f1 := u8_or0 c h0 (by omega)
  have hcv := conv_row w [UInt8.ofNat c.toNat] #[.int .u8 c, .int .u8 0, .int .u8 0, .int .u8 0] 1 rfl (fun j hj => by
    obtain rfl : j = 0 := by simpa using hj
    have b1 := byte_is (x := c) (n := c.toNat) (by omega) (by omega)
    simpa using b1)
  rw [← enc1 hp h1] at hcv
  clear e hp ht HL
  obtain ⟨E, hE⟩ : ∃ E, E = Utf8.encode c := ⟨_, rfl⟩
  rw [← hE] at hcv ⊢
  clear hE
  go_enter Tryd.func31, Tryd.ntmps31
  go_wp2_with (first | (go_at_call 53; refine (HL'.out).mono ?_; rintro e w' ⟨rfl, rfl⟩) | (go_at_call 48; refine (point_yes _ _ HP.out).mono ?_; rintro e w' ⟨rfl, rfl⟩))
  refine wp_loop_rounds 1 ?_
  rw [rounds_succ]
  go_wp2
  go_ret
  exact ⟨rfl, (Below.refl _ _).alloc (Nat.le_refl _) _⟩
theorem put_2 (c : Int) (w : World) (ht : Tabs w) (hp : isPt c = true) (h0 : 128 ≤ c) (h1 : c < 2048) :
    Calls Tryd.prog 31 #[.int .i64 c] w fun e w' => e = .returned (.string (Utf8.encode c)) ∧ Below w.heap.size w w' := by
  have e : ((lenOf c : Nat) : Int) = 2 := by unfold lenOf; rw [if_neg (by omega), if_pos h1]; rfl
  have HL := length_any c w ht
  rw [e] at HL
  have HL' := Lib.hid HL
  have hd := ht.2.2 2 (by decide)
  simp only [hdOf] at hd
  have hz := World.block_lt_of_cell? _ _ hd
  simp only at hz
  have HP := Lib.hid hp
  have f1 := i64_and63 c (by omega) (by omega)
  have f2 := u8_or128 (c % 64) (by omega) (by omega)
  have f3 := u8_or192 (c / 64) (by omega) (by omega)
  have hcv := conv_row w [UInt8.ofNat (192 + c.toNat / 64), UInt8.ofNat (128 + c.toNat % 64)] #[.int .u8 (192 + c / 64), .int .u8 (128 + c % 64), .int .u8 0, .int .u8 0] 2 rfl (fun j hj => by
    have b1 := byte_is (x := 192 + c / 64) (n := 192 + c.toNat / 64) (by omega) (by omega)
    have b2 := byte_is (x := 128 + c % 64) (n := 128 + c.toNat % 64) (by omega) (by omega)
    obtain rfl | rfl : j = 0 ∨ j = 1 := by simp at hj; omega
    · simpa using b1
    · simpa using b2)
  rw [← enc2 hp h0 h1] at hcv
  clear e hp ht HL
  obtain ⟨E, hE⟩ : ∃ E, E = Utf8.encode c := ⟨_, rfl⟩
  rw [← hE] at hcv ⊢
  clear hE
  go_enter Tryd.func31, Tryd.ntmps31
  go_wp2_with (first | (go_at_call 53; refine (HL'.out).mono ?_; rintro e w' ⟨rfl, rfl⟩) | (go_at_call 48; refine (point_yes _ _ HP.out).mono ?_; rintro e w' ⟨rfl, rfl⟩))
  refine wp_loop_rounds 2 ?_
  rw [rounds_succ]
  go_wp2
  rw [rounds_succ]
  go_wp2
  go_ret
  exact ⟨rfl, (Below.refl _ _).alloc (Nat.le_refl _) _⟩
theorem put_3 (c : Int) (w : World) (ht : Tabs w) (hp : isPt c = true) (h0 : 2048 ≤ c) (h1 : c < 65536) :
    Calls Tryd.prog 31 #[.int .i64 c] w fun e w' => e = .returned (.string (Utf8.encode c)) ∧ Below w.heap.size w w' := by
  have e : ((lenOf c : Nat) : Int) = 3 := by unfold lenOf; rw [if_neg (by omega), if_neg (by omega), if_pos h1]; rfl
  have HL := length_any c w ht
  rw [e] at HL
  have HL' := Lib.hid HL
  have hd := ht.2.2 3 (by decide)
  simp only [hdOf] at hd
  have hz := World.block_lt_of_cell? _ _ hd
  simp only at hz
  have HP := Lib.hid hp
  have f1 := i64_and63 c (by omega) (by omega)
  have f2 := u8_or128 (c % 64) (by omega) (by omega)
  have f3 := i64_and63 (c / 64) (by omega) (by omega)
  have f4 := u8_or128 (c / 64 % 64) (by omega) (by omega)
  have f5 := u8_or224 (c / 64 / 64) (by omega) (by omega)
  have hcv := conv_row w [UInt8.ofNat (224 + c.toNat / 4096), UInt8.ofNat (128 + c.toNat / 64 % 64), UInt8.ofNat (128 + c.toNat % 64)] #[.int .u8 (224 + c / 64 / 64), .int .u8 (128 + c / 64 % 64), .int .u8 (128 + c % 64), .int .u8 0] 3 rfl (fun j hj => by
    have b1 := byte_is (x := 224 + c / 64 / 64) (n := 224 + c.toNat / 4096) (by omega) (by omega)
    have b2 := byte_is (x := 128 + c / 64 % 64) (n := 128 + c.toNat / 64 % 64) (by omega) (by omega)
    have b3 := byte_is (x := 128 + c % 64) (n := 128 + c.toNat % 64) (by omega) (by omega)
    obtain rfl | rfl | rfl : j = 0 ∨ j = 1 ∨ j = 2 := by simp at hj; omega
    · simpa using b1
    · simpa using b2
    · simpa using b3)
  rw [← enc3 hp h0 h1] at hcv
  clear e hp ht HL
  obtain ⟨E, hE⟩ : ∃ E, E = Utf8.encode c := ⟨_, rfl⟩
  rw [← hE] at hcv ⊢
  clear hE
  go_enter Tryd.func31, Tryd.ntmps31
  go_wp2_with (first | (go_at_call 53; refine (HL'.out).mono ?_; rintro e w' ⟨rfl, rfl⟩) | (go_at_call 48; refine (point_yes _ _ HP.out).mono ?_; rintro e w' ⟨rfl, rfl⟩))
  refine wp_loop_rounds 3 ?_
  rw [rounds_succ]
  go_wp2
  rw [rounds_succ]
  go_wp2
  rw [rounds_succ]
  go_wp2
  go_ret
  exact ⟨rfl, (Below.refl _ _).alloc (Nat.le_refl _) _⟩
theorem put_4 (c : Int) (w : World) (ht : Tabs w) (hp : isPt c = true) (h0 : 65536 ≤ c) :
    Calls Tryd.prog 31 #[.int .i64 c] w fun e w' => e = .returned (.string (Utf8.encode c)) ∧ Below w.heap.size w w' := by
  have h1 := (pt_bd hp).2
  have e : ((lenOf c : Nat) : Int) = 4 := by unfold lenOf; rw [if_neg (by omega), if_neg (by omega), if_neg (by omega)]; rfl
  have HL := length_any c w ht
  rw [e] at HL
  have HL' := Lib.hid HL
  have hd := ht.2.2 4 (by decide)
  simp only [hdOf] at hd
  have hz := World.block_lt_of_cell? _ _ hd
  simp only at hz
  have HP := Lib.hid hp
  have f1 := i64_and63 c (by omega) (by omega)
  have f2 := u8_or128 (c % 64) (by omega) (by omega)
  have f3 := i64_and63 (c / 64) (by omega) (by omega)
  have f4 := u8_or128 (c / 64 % 64) (by omega) (by omega)
  have f5 := i64_and63 (c / 64 / 64) (by omega) (by omega)
  have f6 := u8_or128 (c / 64 / 64 % 64) (by omega) (by omega)
  have f7 := u8_or240 (c / 64 / 64 / 64) (by omega) (by omega)
  have hcv := conv_row w [UInt8.ofNat (240 + c.toNat / 262144), UInt8.ofNat (128 + c.toNat / 4096 % 64), UInt8.ofNat (128 + c.toNat / 64 % 64), UInt8.ofNat (128 + c.toNat % 64)] #[.int .u8 (240 + c / 64 / 64 / 64), .int .u8 (128 + c / 64 / 64 % 64), .int .u8 (128 + c / 64 % 64), .int .u8 (128 + c % 64)] 4 rfl (fun j hj => by
    have b1 := byte_is (x := 240 + c / 64 / 64 / 64) (n := 240 + c.toNat / 262144) (by omega) (by omega)
    have b2 := byte_is (x := 128 + c / 64 / 64 % 64) (n := 128 + c.toNat / 4096 % 64) (by omega) (by omega)
    have b3 := byte_is (x := 128 + c / 64 % 64) (n := 128 + c.toNat / 64 % 64) (by omega) (by omega)
    have b4 := byte_is (x := 128 + c % 64) (n := 128 + c.toNat % 64) (by omega) (by omega)
    obtain rfl | rfl | rfl | rfl : j = 0 ∨ j = 1 ∨ j = 2 ∨ j = 3 := by simp at hj; omega
    · simpa using b1
    · simpa using b2
    · simpa using b3
    · simpa using b4)
  rw [← enc4 hp h0] at hcv
  clear e hp ht HL
  obtain ⟨E, hE⟩ : ∃ E, E = Utf8.encode c := ⟨_, rfl⟩
  rw [← hE] at hcv ⊢
  clear hE
  go_enter Tryd.func31, Tryd.ntmps31
  go_wp2_with (first | (go_at_call 53; refine (HL'.out).mono ?_; rintro e w' ⟨rfl, rfl⟩) | (go_at_call 48; refine (point_yes _ _ HP.out).mono ?_; rintro e w' ⟨rfl, rfl⟩))
  refine wp_loop_rounds 4 ?_
  rw [rounds_succ]
  go_wp2
  rw [rounds_succ]
  go_wp2
  rw [rounds_succ]
  go_wp2
  rw [rounds_succ]
  go_wp2
  go_ret
  exact ⟨rfl, (Below.refl _ _).alloc (Nat.le_refl _) _⟩
/-- PUT. -/
theorem put_any (c : Int) (w : World) (ht : Tabs w) :
    Calls Tryd.prog 31 #[.int .i64 c] w fun e w' => e = .returned (.string (pu c)) ∧ Below w.heap.size w w' := by
  unfold pu
  by_cases hp : isPt c = true
  · rw [if_pos hp]
    by_cases h1 : c < 128
    · exact put_1 c w ht hp h1
    by_cases h2 : c < 2048
    · exact put_2 c w ht hp (by omega) h2
    by_cases h3 : c < 65536
    · exact put_3 c w ht hp (by omega) h3
    · exact put_4 c w ht hp (by omega)
  · rw [if_neg hp]
    have HP := Lib.hid (Bool.eq_false_iff.2 hp)
    clear hp ht
    go_enter Tryd.func31, Tryd.ntmps31
    go_wp2_with (go_at_call 48; refine (point_no _ _ HP.out).mono ?_; rintro e w' ⟨rfl, rfl⟩)
    go_ret
    exact ⟨rfl, Below.refl _ _⟩
end Go.Proofs.YtnejkdaiopjchaaDoor
