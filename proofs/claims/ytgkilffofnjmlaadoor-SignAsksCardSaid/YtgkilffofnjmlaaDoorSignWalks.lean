/-
  The contracts of package sign but Longest: how many bytes a sign has, Pair, Opens, Closes.
-/
import Derived.Test.YtgkilffofnjmlaaDoorProg
import Derived.Test.YtgkilffofnjmlaaDoorSignMath
import Derived.WalkKit
import Derived.WalkSpells
import Derived.WalkLawsBesides
import Derived.Deep.QuietTactic
import Derived.BigQuiet
import Derived.Deep.LoopGhost
import Derived.Lib.Hide
namespace Go.Proofs.YtgkilffofnjmlaaDoor
open Go.RowKit Go.PlainAid

theorem ret_bool {b c : Bool} (h : b = c) : Ending.returned (Value.bool b) = Ending.returned (Value.bool c) := by rw [h]
set_option maxRecDepth 100000 in
theorem size_any (a b c : Int) (w : World) : Calls Tryd.prog 14 #[.agg #[.int .u8 a, .int .u8 b, .int .u8 c]] w fun e w' => e = .returned (.int .i64 (sz3 a b c)) ∧ Below w.heap.size w w' := by
  have i0 : ∀ w : World, (Instr.index 34 (.agg #[.int .u8 a, .int .u8 b, .int .u8 c]) (.int .i64 0)).run Tryd.prog w = .ok (.int .u8 a) w := fun _ => by kernel_rfl
  have i1 : ∀ w : World, (Instr.index 34 (.agg #[.int .u8 a, .int .u8 b, .int .u8 c]) (.int .i64 1)).run Tryd.prog w = .ok (.int .u8 b) w := fun _ => by kernel_rfl
  have i2 : ∀ w : World, (Instr.index 34 (.agg #[.int .u8 a, .int .u8 b, .int .u8 c]) (.int .i64 2)).run Tryd.prog w = .ok (.int .u8 c) w := fun _ => by kernel_rfl
  obtain ⟨N, hN⟩ : ∃ N, N = sz3 a b c := ⟨_, rfl⟩
  rw [← hN]
  have HN := Lib.hid hN
  clear hN
  go_enter Tryd.func14, Tryd.ntmps14
  go_wp2_with fail
  go_loopg [6] 3 (fun gn i wr => ∃ k : Nat, gn = 3 - k ∧ k ≤ 3 ∧ i = .int .i64 k ∧ Hid (Below w.heap.size w wr) ∧ Hid (0 < k → a ≠ 0) ∧ Hid (1 < k → b ≠ 0) ∧ Hid (2 < k → c ≠ 0))
  case atStart => exact ⟨0, rfl, by omega, rfl, Lib.hid ((Below.refl _ _).alloc (Nat.le_refl _) _), Lib.hid (by omega), Lib.hid (by omega), Lib.hid (by omega)⟩
  case round =>
    obtain ⟨k, hgn, hk, rfl, HW, HA, HB, HC⟩ := hrel
    have hk4 : k = 0 ∨ k = 1 ∨ k = 2 ∨ k = 3 := by omega
    rcases hk4 with rfl | rfl | rfl | rfl
    · by_cases ha : a = 0
      · have HF : Hid (0 = N) := Lib.hid (by rw [HN.out]; unfold sz3; rw [if_pos ha])
        have hv : (a == 0) = true := by rw [ha]; rfl
        clear ha
        go_wp2_with fail
        go_ret
        exact ⟨by rw [← HF.out]; rfl, HW.out⟩
      · have HF := Lib.hid ha
        have hv : (a == 0) = false := beq_false_of_ne ha
        clear ha
        go_wp2_with fail
        go_roundg 2
        case measure => omega
        case rel => exact ⟨1, rfl, by omega, by go_num, HW, Lib.hid (fun _ => HF.out), Lib.hid (by omega), Lib.hid (by omega)⟩
    · by_cases ha : b = 0
      · have HF : Hid (1 = N) := Lib.hid (by rw [HN.out]; unfold sz3; rw [if_neg (HA.out (by omega)), if_pos ha])
        have hv : (b == 0) = true := by rw [ha]; rfl
        clear ha
        go_wp2_with fail
        go_ret
        exact ⟨by rw [← HF.out]; rfl, HW.out⟩
      · have HF := Lib.hid ha
        have hv : (b == 0) = false := beq_false_of_ne ha
        clear ha
        go_wp2_with fail
        go_roundg 1
        case measure => omega
        case rel => exact ⟨2, rfl, by omega, by go_num, HW, HA.out (by omega) |> fun h => Lib.hid (fun _ => h), Lib.hid (fun _ => HF.out), Lib.hid (by omega)⟩
    · by_cases ha : c = 0
      · have HF : Hid (2 = N) := Lib.hid (by rw [HN.out]; unfold sz3; rw [if_neg (HA.out (by omega)), if_neg (HB.out (by omega)), if_pos ha])
        have hv : (c == 0) = true := by rw [ha]; rfl
        clear ha
        go_wp2_with fail
        go_ret
        exact ⟨by rw [← HF.out]; rfl, HW.out⟩
      · have HF := Lib.hid ha
        have hv : (c == 0) = false := beq_false_of_ne ha
        clear ha
        go_wp2_with fail
        go_roundg 0
        case measure => omega
        case rel => exact ⟨3, rfl, by omega, by go_num, HW, HA.out (by omega) |> fun h => Lib.hid (fun _ => h), HB.out (by omega) |> fun h => Lib.hid (fun _ => h), Lib.hid (fun _ => HF.out)⟩
    · have HF : Hid (3 = N) := Lib.hid (by rw [HN.out]; unfold sz3; rw [if_neg (HA.out (by omega)), if_neg (HB.out (by omega)), if_neg (HC.out (by omega))])
      go_wp2_with fail
      go_ret
      exact ⟨by rw [← HF.out]; rfl, HW.out⟩

theorem data_of {s : ByteArray} {l : List UInt8} (h : (s.toList == l) = true) : s.data.toList = l := by
  rw [ByteArray.toList_eq] at h; exact eq_of_beq h
theorem data_ne {s : ByteArray} {l : List UInt8} (h : (s.toList == l) = false) : s.data.toList ≠ l := by
  rw [ByteArray.toList_eq] at h; exact ne_of_beq_false h
theorem data_beq {s : ByteArray} {l : List UInt8} : (s.data.toList == l) = (s.toList == l) := by rw [ByteArray.toList_eq]
theorem pair_any (s : ByteArray) (w : World) : Calls Tryd.prog 13 #[.string s] w fun e w' => e = .returned (.string (pr s)) ∧ w = w' := by
  have hP : pr s = ⟨(prL s.data.toList).toArray⟩ := rfl
  obtain ⟨p, hp⟩ : ∃ p, p = pr s := ⟨_, rfl⟩
  rw [← hp] at hP ⊢
  have HP := Lib.hid hP
  clear hp hP
  cases h1 : (s.toList == [40])
  · cases h2 : (s.toList == [123])
    · cases h3 : (s.toList == [91])
      · cases h4 : (s.toList == [60, 60])
        · have HF : Hid (p = { data := #[] }) := Lib.hid (by rw [HP.out]; unfold prL; rw [if_neg (data_ne h1), if_neg (data_ne h2), if_neg (data_ne h3), if_neg (data_ne h4)])
          go_enter Tryd.func13, Tryd.ntmps13
          go_wp2
          go_ret
          exact ⟨by rw [HF.out]; rfl, rfl⟩
        · have HF : Hid (p = { data := #[62, 62] }) := Lib.hid (by rw [HP.out]; unfold prL; rw [if_neg (data_ne h1), if_neg (data_ne h2), if_neg (data_ne h3), if_pos (data_of h4)])
          go_enter Tryd.func13, Tryd.ntmps13
          go_wp2
          go_ret
          exact ⟨by rw [HF.out]; rfl, rfl⟩
      · have HF : Hid (p = { data := #[93] }) := Lib.hid (by rw [HP.out]; unfold prL; rw [if_neg (data_ne h1), if_neg (data_ne h2), if_pos (data_of h3)])
        go_enter Tryd.func13, Tryd.ntmps13
        go_wp2
        go_ret
        exact ⟨by rw [HF.out]; rfl, rfl⟩
    · have HF : Hid (p = { data := #[125] }) := Lib.hid (by rw [HP.out]; unfold prL; rw [if_neg (data_ne h1), if_pos (data_of h2)])
      go_enter Tryd.func13, Tryd.ntmps13
      go_wp2
      go_ret
      exact ⟨by rw [HF.out]; rfl, rfl⟩
  · have HF : Hid (p = { data := #[41] }) := Lib.hid (by rw [HP.out]; unfold prL; rw [if_pos (data_of h1)])
    go_enter Tryd.func13, Tryd.ntmps13
    go_wp2
    go_ret
    exact ⟨by rw [HF.out]; rfl, rfl⟩
/-- A text has a pair just if it opens. -/
theorem pr_opq (s : ByteArray) : (!(pr s).toList.isEmpty) = opq s.data.toList := by
  rw [ByteArray.toList_eq]
  unfold pr prL opq
  split
  · rename_i h; rw [h]; rfl
  split
  · rename_i h; rw [h]; rfl
  split
  · rename_i h; rw [h]; rfl
  split
  · rename_i h; rw [h]; rfl
  · rename_i h1 h2 h3 h4
    rw [beq_false_of_ne h1, beq_false_of_ne h2, beq_false_of_ne h3, beq_false_of_ne h4]; rfl
set_option maxRecDepth 100000 in
theorem opens_any (k a : Int) (s : ByteArray) (w : World) : Calls Tryd.prog 9 #[.agg #[.int .i64 k, .string s, .int .i64 a]] w fun e w' => e = .returned (.bool (ops k s)) ∧ Below w.heap.size w w' := by
  have HP := Lib.hid (fun W => pair_any s W)
  have hq := pr_opq s
  obtain ⟨o, ho⟩ : ∃ o, o = ops k s := ⟨_, rfl⟩
  rw [← ho]
  have HO := Lib.hid ho
  clear ho
  by_cases h9 : k = 9
  · have HF : Hid ((!(pr s).toList.isEmpty) = o) := Lib.hid (by rw [hq, HO.out]; unfold ops; rw [if_pos h9])
    clear hq
    subst h9
    go_enter Tryd.func9, Tryd.ntmps9
    go_wp2_with fail
    refine (HP.out _).mono ?_
    rintro e w' ⟨rfl, rfl⟩
    go_wp2_with fail
    go_ret
    exact ⟨ret_bool HF.out, (Below.refl _ _).alloc (Nat.le_refl _) _⟩
  · clear hq
    by_cases h8 : k = 8
    · have HF : Hid (o = (s.toList == [98, 101, 103, 105, 110] || s.toList == [99, 97, 115, 101] || s.toList == [105, 102] || s.toList == [114, 101, 99, 101, 105, 118, 101])) := Lib.hid (by rw [HO.out]; unfold ops opw; rw [if_neg h9, if_pos h8, ByteArray.toList_eq])
      subst h8
      go_enter Tryd.func9, Tryd.ntmps9
      go_wp2_with fail
      all_goals
        go_ret
        refine ⟨ret_bool ?_, (Below.refl _ _).alloc (Nat.le_refl _) _⟩
        rw [HF.out]
        simp_all
    · have HF : Hid (false = o) := Lib.hid (by rw [HO.out]; unfold ops; rw [if_neg h9, if_neg h8])
      have g9 : (k == 9) = false := beq_false_of_ne h9
      have g8 : (k == 8) = false := beq_false_of_ne h8
      clear h9 h8
      go_enter Tryd.func9, Tryd.ntmps9
      go_wp2_with fail
      go_ret
      exact ⟨ret_bool HF.out, (Below.refl _ _).alloc (Nat.le_refl _) _⟩
set_option maxRecDepth 100000 in
theorem closes_any (k a : Int) (s : ByteArray) (w : World) : Calls Tryd.prog 11 #[.agg #[.int .i64 k, .string s, .int .i64 a]] w fun e w' => e = .returned (.bool (cls k s)) ∧ Below w.heap.size w w' := by
  obtain ⟨o, ho⟩ : ∃ o, o = cls k s := ⟨_, rfl⟩
  rw [← ho]
  have HO := Lib.hid ho
  clear ho
  by_cases h9 : k = 9
  · have HF : Hid (o = (s.toList == [41] || s.toList == [125] || s.toList == [93] || s.toList == [62, 62])) := Lib.hid (by rw [HO.out]; unfold cls clq; rw [if_pos h9, ByteArray.toList_eq])
    subst h9
    go_enter Tryd.func11, Tryd.ntmps11
    go_wp2_with fail
    all_goals
      go_ret
      refine ⟨ret_bool ?_, (Below.refl _ _).alloc (Nat.le_refl _) _⟩
      rw [HF.out]
      simp_all
  · by_cases h8 : k = 8
    · have HF : Hid ((s.toList == [101, 110, 100]) = o) := Lib.hid (by rw [HO.out]; unfold cls clw; rw [if_neg h9, if_pos h8, ByteArray.toList_eq])
      subst h8
      go_enter Tryd.func11, Tryd.ntmps11
      go_wp2_with fail
      go_ret
      exact ⟨ret_bool HF.out, (Below.refl _ _).alloc (Nat.le_refl _) _⟩
    · have HF : Hid (false = o) := Lib.hid (by rw [HO.out]; unfold cls; rw [if_neg h9, if_neg h8])
      have g9 : (k == 9) = false := beq_false_of_ne h9
      have g8 : (k == 8) = false := beq_false_of_ne h8
      clear h9 h8
      go_enter Tryd.func11, Tryd.ntmps11
      go_wp2_with fail
      go_ret
      exact ⟨ret_bool HF.out, (Below.refl _ _).alloc (Nat.le_refl _) _⟩
end Go.Proofs.YtgkilffofnjmlaaDoor
