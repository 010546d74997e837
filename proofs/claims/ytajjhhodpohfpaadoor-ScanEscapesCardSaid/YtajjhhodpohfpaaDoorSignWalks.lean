/-
  The contracts of package sign but Longest: how many bytes a sign has, Pair, Opens, Closes.
-/
import Derived.Test.YtajjhhodpohfpaaDoorProg
import Derived.Test.YtajjhhodpohfpaaDoorMath
import Derived.WalkKit
import Derived.WalkSpells
import Derived.WalkLawsBesides
import Derived.Deep.QuietTactic
import Derived.BigQuiet
import Derived.Deep.LoopGhost
import Derived.Lib.Hide
namespace Go.Proofs.YtajjhhodpohfpaaDoor
open Go.RowKit Go.PlainAid

theorem ret_bool {b c : Bool} (h : b = c) : Ending.returned (Value.bool b) = Ending.returned (Value.bool c) := by rw [h]
set_option maxRecDepth 100000 in
theorem size_any (a b c : Int) (w : World) : Calls Tryd.prog 64 #[.agg #[.int .u8 a, .int .u8 b, .int .u8 c]] w fun e w' => e = .returned (.int .i64 (sz3 a b c)) ∧ Below w.heap.size w w' := by
  have i0 : ∀ w : World, (Instr.index 57 (.agg #[.int .u8 a, .int .u8 b, .int .u8 c]) (.int .i64 0)).run Tryd.prog w = .ok (.int .u8 a) w := fun _ => by kernel_rfl
  have i1 : ∀ w : World, (Instr.index 57 (.agg #[.int .u8 a, .int .u8 b, .int .u8 c]) (.int .i64 1)).run Tryd.prog w = .ok (.int .u8 b) w := fun _ => by kernel_rfl
  have i2 : ∀ w : World, (Instr.index 57 (.agg #[.int .u8 a, .int .u8 b, .int .u8 c]) (.int .i64 2)).run Tryd.prog w = .ok (.int .u8 c) w := fun _ => by kernel_rfl
  obtain ⟨N, hN⟩ : ∃ N, N = sz3 a b c := ⟨_, rfl⟩
  rw [← hN]
  have HN := Lib.hid hN
  clear hN
  go_enter Tryd.func64, Tryd.ntmps64
  go_wp2_with fail
  go_loopg [6] 3 (fun gn i wr => ∃ k : Nat, gn = 3 - k ∧ k ≤ 3 ∧ i = .int .i64 k ∧ Hid (Below w.heap.size w wr) ∧ Hid (0 < k → a ≠ 0) ∧ Hid (1 < k → b ≠ 0) ∧ Hid (2 < k → c ≠ 0))
  case atStart => exact ⟨0, rfl, by omega, rfl, Lib.hid ((Below.refl _ _).alloc (Nat.le_refl _) _), Lib.hid (by omega), Lib.hid (by omega), Lib.hid (by omega)⟩
  case round =>
    obtain ⟨k, hgn, hk, rfl, HW, HA, HB, HC⟩ := hrel
    have hk4 : k = 0 ∨ k = 1 ∨ k = 2 ∨ k = 3 := by omega
    rcases hk4 with rfl | rfl | rfl | rfl
    · by_cases ha : a = 0
      · have HF : Hid (0 = N) := Lib.hid (by rw [HN.out]; unfold sz3; rw [if_pos ha])
        have hv : (a == 0) = true := by rw [ha]; rfl
        clear ha
        go_wp2_with fail
        go_ret
        exact ⟨by rw [← HF.out]; rfl, HW.out⟩
      · have HF := Lib.hid ha
        have hv : (a == 0) = false := beq_false_of_ne ha
        clear ha
        go_wp2_with fail
        go_roundg 2
        case measure => omega
        case rel => exact ⟨1, rfl, by omega, by go_num, HW, Lib.hid (fun _ => HF.out), Lib.hid (by omega), Lib.hid (by omega)⟩
    · by_cases ha : b = 0
      · have HF : Hid (1 = N) := Lib.hid (by rw [HN.out]; unfold sz3; rw [if_neg (HA.out (by omega)), if_pos ha])
        have hv : (b == 0) = true := by rw [ha]; rfl
        clear ha
        go_wp2_with fail
        go_ret
        exact ⟨by rw [← HF.out]; rfl, HW.out⟩
      · have HF := Lib.hid ha
        have hv : (b == 0) = false := beq_false_of_ne ha
        clear ha
        go_wp2_with fail
        go_roundg 1
        case measure => omega
        case rel => exact ⟨2, rfl, by omega, by go_num, HW, HA.out (by omega) |> fun h => Lib.hid (fun _ => h), Lib.hid (fun _ => HF.out), Lib.hid (by omega)⟩
    · by_cases ha : c = 0
      · have HF : Hid (2 = N) := Lib.hid (by rw [HN.out]; unfold sz3; rw [if_neg (HA.out (by omega)), if_neg (HB.out (by omega)), if_pos ha])
        have hv : (c == 0) = true := by rw [ha]; rfl
        clear ha
        go_wp2_with fail
        go_ret
        exact ⟨by rw [← HF.out]; rfl, HW.out⟩
      · have HF := Lib.hid ha
        have hv : (c == 0) = false := beq_false_of_ne ha
        clear ha
        go_wp2_with fail
        go_roundg 0
        case measure => omega
        case rel => exact ⟨3, rfl, by omega, by go_num, HW, HA.out (by omega) |> fun h => Lib.hid (fun _ => h), HB.out (by omega) |> fun h => Lib.hid (fun _ => h), Lib.hid (fun _ => HF.out)⟩
    · have HF : Hid (3 = N) := Lib.hid (by rw [HN.out]; unfold sz3; rw [if_neg (HA.out (by omega)), if_neg (HB.out (by omega)), if_neg (HC.out (by omega))])
      go_wp2_with fail
      go_ret
      exact ⟨by rw [← HF.out]; rfl, HW.out⟩

theorem data_of {s : ByteArray} {l : List UInt8} (h : (s.toList == l) = true) : s.data.toList = l := by
  rw [ByteArray.toList_eq] at h; exact eq_of_beq h
theorem data_ne {s : ByteArray} {l : List UInt8} (h : (s.toList == l) = false) : s.data.toList ≠ l := by
  rw [ByteArray.toList_eq] at h; exact ne_of_beq_false h
theorem data_beq {s : ByteArray} {l : List UInt8} : (s.data.toList == l) = (s.toList == l) := by rw [ByteArray.toList_eq]
/-- A text has a pair just if it opens. -/
theorem pr_opq (s : ByteArray) : (!(pr s).toList.isEmpty) = opq s.data.toList := by
  rw [ByteArray.toList_eq]
  unfold pr prL opq
  split
  · rename_i h; rw [h]; rfl
  split
  · rename_i h; rw [h]; rfl
  split
  · rename_i h; rw [h]; rfl
  split
  · rename_i h; rw [h]; rfl
  · rename_i h1 h2 h3 h4
    rw [beq_false_of_ne h1, beq_false_of_ne h2, beq_false_of_ne h3, beq_false_of_ne h4]; rfl
end Go.Proofs.YtajjhhodpohfpaaDoor
