/-
  The walks through the document's own Escape: letters, octal digits.
-/
import Derived.Test.YtnejkdaiopjchaaDoorRefEscDef
namespace Go.Proofs.YtnejkdaiopjchaaDoor
open Go.RowKit Go.PlainAid

set_option maxRecDepth 100000 in
set_option maxHeartbeats 4000000 in
theorem resc_name (s : ByteArray) (a : Nat) (hs : s.size ≤ 1048576) (hlt : a + 1 < s.size) (h92 : bt s a = 92) (V : Int) (HN : Hid (∀ k, k < 9 → bt nmS k = bt s (a + 1) → nmM.getD k 0 = V)) (K : Nat) (hK : K < 9) (hKc : bt nmS K = bt s (a + 1)) : EscR s a V 2 := by
  intro w
  have g0 : ¬ (s.size : Int) - 1 ≤ (a : Int) := by omega
  have gx := get_bt s a (by omega)
  rw [h92] at gx
  clear h92
  have gc := get_bt s (a + 1) hlt
  have c0 := bt_nonneg s (a + 1)
  have c1 := bt_le s (a + 1)
  have HKC := Lib.hid hKc
  clear hKc
  obtain ⟨c, hc⟩ : ∃ c, c = bt s (a + 1) := ⟨_, rfl⟩
  rw [← hc] at gc c0 c1 HN HKC
  clear hc
  go_enter Tryd.func14, Tryd.ntmps14
  go_wp2_with fail
  go_loopg [9] K (fun gn i wr => ∃ k : Nat, gn = K - k ∧ k ≤ K ∧ i = .int .i64 k ∧ Hid (MeansAt w wr))
  case atStart => exact ⟨0, rfl, Nat.zero_le _, rfl, Lib.hid (means_at _ _ _ rfl)⟩
  case round =>
    obtain ⟨k, hgn, hk, rfl, HW⟩ := hrel
    have h9 : k < 9 := by omega
    have gk := get_bt ({ data := #[98, 100, 101, 102, 110, 114, 115, 116, 118] } : ByteArray) k h9
    have hcell := HW.out.1 k h9
    have HV := Lib.hid (HN.out k h9)
    have HE : Hid (K = k → bt nmS k = c) := fun h => by rw [← h]; exact HKC.out
    rw [show bt ({ data := #[98, 100, 101, 102, 110, 114, 115, 116, 118] } : ByteArray) k = bt nmS k from rfl] at gk
    obtain ⟨x, hx⟩ : ∃ x, x = bt nmS k := ⟨_, rfl⟩
    obtain ⟨y, hy⟩ : ∃ y, y = nmM.getD k 0 := ⟨_, rfl⟩
    rw [← hx] at gk HV HE
    rw [← hy] at hcell HV
    clear hx hy
    cases hv : (x == c)
    · have hne : K ≠ k := fun h => by rw [HE.out h] at hv; simp at hv
      go_wp2_with fail
      go_roundg (K - (k + 1))
      case measure => omega
      case rel => exact ⟨k + 1, rfl, by omega, by go_num, HW⟩
    · have HF : Hid (y = V) := HV.out (eq_of_beq hv)
      go_wp2_with fail
      go_ret2
      exact ⟨ret2I HF.out rfl, HW.out.2⟩
set_option maxRecDepth 100000 in
set_option maxHeartbeats 4000000 in
theorem resc_oct (s : ByteArray) (a : Nat) (hs : s.size ≤ 1048576) (hlt : a + 1 < s.size) (h92 : bt s a = 92) (hnm : Hid (∀ k, k < 9 → bt nmS k ≠ bt s (a + 1))) (h0 : 48 ≤ bt s (a + 1)) (h1 : bt s (a + 1) ≤ 55) (v : Int) (n : Nat) (hn : n ≤ 3) (HR : Hid (RunM s ((a : Int) + 1) 8 3 v n)) : EscR s a v (1 + n) := by
  intro w
  have g0 : ¬ (s.size : Int) - 1 ≤ (a : Int) := by omega
  have gx := get_bt s a (by omega)
  rw [h92] at gx
  clear h92
  have gc := get_bt s (a + 1) hlt
  have c0 := bt_nonneg s (a + 1)
  have c1 := bt_le s (a + 1)
  obtain ⟨c, hc⟩ : ∃ c, c = bt s (a + 1) := ⟨_, rfl⟩
  rw [← hc] at gc c0 c1 hnm h0 h1
  clear hc
  go_enter Tryd.func14, Tryd.ntmps14
  go_wp2_with fail
  go_loopg [9] 9 (fun gn i wr => ∃ k : Nat, gn = 9 - k ∧ k ≤ 9 ∧ i = .int .i64 k ∧ Hid (Below w.heap.size w wr))
  case atStart => exact ⟨0, rfl, Nat.zero_le _, rfl, Lib.hid ((Below.refl _ _).alloc (Nat.le_refl _) _)⟩
  case round =>
    obtain ⟨k, hgn, hk, rfl, HW⟩ := hrel
    by_cases hk9 : k < 9
    · have gk := get_bt ({ data := #[98, 100, 101, 102, 110, 114, 115, 116, 118] } : ByteArray) k hk9
      have g1 := beq_false_of_ne (hnm.out k hk9)
      rw [show bt ({ data := #[98, 100, 101, 102, 110, 114, 115, 116, 118] } : ByteArray) k = bt nmS k from rfl] at gk
      obtain ⟨x, hx⟩ : ∃ x, x = bt nmS k := ⟨_, rfl⟩
      rw [← hx] at gk g1
      clear hx
      go_wp2_with fail
      go_roundg (9 - (k + 1))
      case measure => omega
      case rel => exact ⟨k + 1, rfl, hk9, by go_num, HW⟩
    · go_wp2_with fail
      refine (HR.out _).mono ?_
      rintro e w' ⟨rfl, q, rfl⟩
      go_wp2_with fail
      go_ret2
      exact ⟨rfl, HW.out.trans ((Below.ofDrewN _ _).mono HW.out.size)⟩
end Go.Proofs.YtnejkdaiopjchaaDoor
