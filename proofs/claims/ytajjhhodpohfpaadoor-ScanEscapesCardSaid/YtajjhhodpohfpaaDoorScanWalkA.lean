/-
  The program's own way to tokens: Blank, inner, unseen, comment, stops, digit, signed.
-/
import Derived.Test.YtajjhhodpohfpaaDoorScanLib
import Derived.Test.YtajjhhodpohfpaaDoorLitEscs
import Derived.Test.YtajjhhodpohfpaaDoorLitFloat
import Derived.Test.YtajjhhodpohfpaaDoorSignLongest
import Derived.Deep.LoopGhost
namespace Go.Proofs.YtajjhhodpohfpaaDoor
open Go.RowKit Go.PlainAid

theorem bt_rng (s : ByteArray) (k : Nat) : 0 ≤ bt s k ∧ bt s k ≤ 255 := ⟨bt_nonneg s k, bt_le s k⟩
set_option maxRecDepth 100000 in
/-- Blank. -/
theorem blankp_any (s : ByteArray) (k : Nat) (hk : k ≤ s.size) (hs : s.size ≤ 1048576) (w : World) :
    Calls Tryd.prog 16 #[.string s, .int .i64 k] w fun e w' => e = .returned (.int .i64 (fw bl s k : Nat)) ∧ w = w' := by
  obtain ⟨R, hR⟩ : ∃ R, R = fw bl s k := ⟨_, rfl⟩
  rw [← hR]
  have HR := Lib.hid hR
  have HG := Lib.hid (get_bt s)
  have HB := Lib.hid (fun (c : Int) h0 h1 W => blankc_any c h0 h1 W)
  have k0 : (0 : Int) ≤ (k : Int) := by omega
  have k1 : (k : Int) ≤ (s.size : Int) := by omega
  clear hR
  go_enter Tryd.func16, Tryd.ntmps16
  go_wp2_with fail
  go_loopg [1] (s.size - k) (fun gn i wr => ∃ j : Nat, gn = s.size - j ∧ j ≤ s.size ∧ i = .int .i64 j ∧ wr = w ∧ Hid (R = fw bl s j))
  case atStart => exact ⟨k, rfl, hk, congrArg _ (Int.min_eq_left k1), rfl, HR⟩
  case round =>
    obtain ⟨j, hgn, hj, rfl, rfl, HJ⟩ := hrel
    by_cases hlt : j < s.size
    · have gx := HG.out j hlt
      have HGO : Hid (bl (bt s j) = true → R = fw bl s (j + 1)) := Lib.hid fun h => by rw [HJ.out, fw_go hlt h]
      have HST : Hid (bl (bt s j) = false → j = R) := Lib.hid fun h => by rw [HJ.out, fw_stop h]
      have HC := Lib.hid (fun W => HB.out (bt s j) (bt_rng s j).1 (bt_rng s j).2 W)
      obtain ⟨c, hc⟩ : ∃ c, c = bt s j := ⟨_, rfl⟩
      rw [← hc] at gx HGO HST HC
      clear hc
      cases hb : bl c
      · have HF := Lib.hid (HST.out hb)
        rw [hb] at HC
        clear hb
        go_wp2_with fail
        refine (HC.out _).mono ?_
        rintro e w' ⟨rfl, rfl⟩
        go_wp2_with fail
        go_ret
        exact ⟨retN HF.out, rfl⟩
      · have HF := Lib.hid (HGO.out hb)
        rw [hb] at HC
        clear hb
        go_wp2_with fail
        refine (HC.out _).mono ?_
        rintro e w' ⟨rfl, rfl⟩
        go_wp2_with fail
        go_roundg (s.size - (j + 1))
        case measure => omega
        case rel => exact ⟨j + 1, rfl, hlt, by go_num, rfl, HF⟩
    · have HF : Hid (j = R) := Lib.hid (by rw [HJ.out, fw_end hlt])
      go_wp2_with fail
      go_ret
      exact ⟨retN HF.out, rfl⟩
set_option maxRecDepth 100000 in
/-- inner. -/
theorem pinner_any (s : ByteArray) (k : Nat) (hk : k ≤ s.size) (hs : s.size ≤ 1048576) (w : World) :
    Calls Tryd.prog 58 #[.string s, .int .i64 k] w fun e w' => e = .returned (.int .i64 (fw inn s k : Nat)) ∧ w = w' := by
  obtain ⟨R, hR⟩ : ∃ R, R = fw inn s k := ⟨_, rfl⟩
  rw [← hR]
  have HR := Lib.hid hR
  have HG := Lib.hid (get_bt s)
  have HB := Lib.hid (fun (c : Int) W => inner_any c W)
  clear hR
  go_enter Tryd.func58, Tryd.ntmps58
  go_wp2_with fail
  go_loopg [1] (s.size - k) (fun gn i wr => ∃ j : Nat, gn = s.size - j ∧ j ≤ s.size ∧ i = .int .i64 j ∧ wr = w ∧ Hid (R = fw inn s j))
  case atStart => exact ⟨k, rfl, hk, rfl, rfl, HR⟩
  case round =>
    obtain ⟨j, hgn, hj, rfl, rfl, HJ⟩ := hrel
    by_cases hlt : j < s.size
    · have gx := HG.out j hlt
      have HGO : Hid (inn (bt s j) = true → R = fw inn s (j + 1)) := Lib.hid fun h => by rw [HJ.out, fw_go hlt h]
      have HST : Hid (inn (bt s j) = false → j = R) := Lib.hid fun h => by rw [HJ.out, fw_stop h]
      have HC := Lib.hid (fun W => HB.out (bt s j) W)
      obtain ⟨c, hc⟩ : ∃ c, c = bt s j := ⟨_, rfl⟩
      rw [← hc] at gx HGO HST HC
      clear hc
      cases hb : inn c
      · have HF := Lib.hid (HST.out hb)
        rw [hb] at HC
        clear hb
        go_wp2_with fail
        refine (HC.out _).mono ?_
        rintro e w' ⟨rfl, rfl⟩
        go_wp2_with fail
        go_ret
        exact ⟨retN HF.out, rfl⟩
      · have HF := Lib.hid (HGO.out hb)
        rw [hb] at HC
        clear hb
        go_wp2_with fail
        refine (HC.out _).mono ?_
        rintro e w' ⟨rfl, rfl⟩
        go_wp2_with fail
        go_roundg (s.size - (j + 1))
        case measure => omega
        case rel => exact ⟨j + 1, rfl, hlt, by go_num, rfl, HF⟩
    · have HF : Hid (j = R) := Lib.hid (by rw [HJ.out, fw_end hlt])
      go_wp2_with fail
      go_ret
      exact ⟨retN HF.out, rfl⟩
/-- unseen. -/
def uns (c : Int) : Bool := decide (c < 32) || c == 127
theorem unseen_any (c : Int) (w : World) : Calls Tryd.prog 55 #[.int .i64 c] w fun e w' => e = .returned (.bool (uns c)) ∧ w = w' := by
  by_cases h : c < 32
  · have e : uns c = true := by unfold uns; rw [decide_eq_true h]; rfl
    rw [e]
    go_enter Tryd.func55, Tryd.ntmps55
    go_wp2_with fail
    go_ret
    exact ⟨rfl, rfl⟩
  · have e : uns c = (c == 127) := by unfold uns; rw [decide_eq_false h]; rfl
    rw [e]
    go_enter Tryd.func55, Tryd.ntmps55
    go_wp2_with fail
    go_ret
    exact ⟨rfl, rfl⟩
set_option maxRecDepth 100000 in
/-- stops. -/
theorem stops_any (s : ByteArray) (k : Nat) (hk : k ≤ s.size) (w : World) :
    Calls Tryd.prog 35 #[.string s, .int .i64 k] w fun e w' => e = .returned (.bool (decide (k = s.size) || (bt s k == 37 || bl (bt s k)))) ∧ w = w' := by
  have HB := Lib.hid (fun (c : Int) h0 h1 W => blankc_any c h0 h1 W)
  by_cases h : k = s.size
  · subst h
    have e : (decide (s.size = s.size) || (bt s s.size == 37 || bl (bt s s.size))) = true := by simp
    rw [e]
    clear e
    go_enter Tryd.func35, Tryd.ntmps35
    go_wp2_with fail
    go_ret
    exact ⟨rfl, rfl⟩
  · have gx := get_bt s k (by omega)
    have HC := Lib.hid (fun W => HB.out (bt s k) (bt_rng s k).1 (bt_rng s k).2 W)
    rw [decide_eq_false h, Bool.false_or]
    have h2 : ((k : Int) == (s.size : Int)) = false := beq_false_of_ne (by omega)
    have h3 : (k : Int) < (s.size : Int) := by omega
    obtain ⟨c, hc⟩ : ∃ c, c = bt s k := ⟨_, rfl⟩
    rw [← hc] at gx HC ⊢
    clear hc
    by_cases h37 : c = 37
    · subst h37
      go_enter Tryd.func35, Tryd.ntmps35
      go_wp2_with fail
      go_ret
      exact ⟨rfl, rfl⟩
    · have h38 : (c == 37) = false := beq_false_of_ne h37
      rw [h38, Bool.false_or]
      clear h37
      go_enter Tryd.func35, Tryd.ntmps35
      go_wp2_with fail
      refine (HC.out _).mono ?_
      rintro e w' ⟨rfl, rfl⟩
      go_wp2_with fail
      go_ret
      exact ⟨rfl, rfl⟩
set_option maxRecDepth 100000 in
/-- comment. -/
theorem comment_any (s : ByteArray) (k : Nat) (hk : k < s.size) (hs : s.size ≤ 1048576) (w : World) :
    Calls Tryd.prog 34 #[.string s, .int .i64 k] w fun e w' => e = .returned (.int .i64 (tr s k (ix s 10 k) : Nat)) ∧ Below w.heap.size w w' := by
  have hix := ix_spec s 10 _ k (Nat.le_refl _) (by omega)
  obtain ⟨E, hE⟩ : ∃ E, E = ix s 10 k := ⟨_, rfl⟩
  rw [← hE] at hix ⊢
  have hz := size_ext s k s.size (Nat.le_refl _)
  have hxe : ix (s.extract k s.size) 10 0 = E - k := by
    refine ix_is (Nat.zero_le _) (by omega) (fun i _ hi => ?_) (fun hlt => ?_)
    · rw [bt_tail s k i (by omega)]; exact hix.2.2.1 _ (by omega) (by omega)
    · rw [bt_tail s k _ (by omega), show k + (E - k) = E by omega]; exact hix.2.2.2 (by omega)
  have HC := Lib.hid (fun W => cut_10 (s.extract k s.size) (by unfold maxLen; omega) W)
  have hzE := size_ext s k E hix.2.1
  have HT := Lib.hid (fun W => trimR_any (s.extract k E) (by omega) W)
  rw [trim_ext hix.1 hix.2.1] at HT
  have hxx : (s.extract k s.size).extract 0 (E - k) = s.extract k E := by
    apply ByteArray.ext
    rw [ByteArray.data_extract, ByteArray.data_extract, ByteArray.data_extract, Array.extract_extract]
    congr 1; omega
  have htr := tr_spec s k E
  have hzT := size_ext s k (tr s k E) (by omega)
  obtain ⟨t, ht⟩ : ∃ t, t = tr s k E := ⟨_, rfl⟩
  rw [← ht] at HT hzT htr ⊢
  have h1 := htr.1
  have h2 := htr.2.1 hix.1
  have HZ : Hid (((s.extract k t).size : Int) = (t : Int) - (k : Int)) := Lib.hid (by omega)
  obtain ⟨X, hX⟩ : ∃ X, X = s.extract k t := ⟨_, rfl⟩
  rw [← hX] at HT HZ
  have hEs := hix.2.1
  have hkE := hix.1
  rw [hxe, hxx, hz] at HC
  obtain ⟨Y, hY⟩ : ∃ Y, Y = s.extract k E := ⟨_, rfl⟩
  rw [← hY] at HC HT
  have hsk : s.extract k s.size = if E - k < s.size - k then s.extract k s.size else Y := by
    by_cases c : E - k < s.size - k
    · rw [if_pos c]
    · rw [if_neg c, hY]; congr 1; omega
  have HC2 : ∀ W, Calls Tryd.prog 53 #[.string (s.extract k s.size), .string { data := #[10] }] W fun e w' => (∃ r b, e = .returned (.tuple #[.string Y, .string r, .bool b])) ∧ ∃ n, w' = W.drewN n := fun W => by
    refine (HC.out W).mono fun e w' ⟨h1, h2⟩ => ⟨?_, h2⟩
    by_cases c : E - k < s.size - k
    · rw [if_pos c] at h1; exact ⟨_, _, h1⟩
    · rw [if_neg c] at h1 hsk; rw [hsk] at h1; exact ⟨_, _, h1⟩
  have HC2 := Lib.hid HC2
  clear HC hsk hxx hxe hX hY ht hE htr hix hz hzE hzT
  go_enter Tryd.func34, Tryd.ntmps34
  go_wp2_with fail
  refine (HC2.out _).mono ?_
  rintro e w' ⟨⟨r, b, rfl⟩, n, rfl⟩
  go_wp2_with fail
  refine (HT.out _).mono ?_
  rintro e w' ⟨rfl, hb⟩
  have HZ2 := HZ.out
  go_wp2_with fail
  go_ret
  exact ⟨retI (a := (k : Int) + ((t : Int) - k)) (by omega), (drew_below _ _).trans hb⟩
end Go.Proofs.YtajjhhodpohfpaaDoor
