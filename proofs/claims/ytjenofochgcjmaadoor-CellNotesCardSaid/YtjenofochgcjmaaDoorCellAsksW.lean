/-
  CellAsks, over the five calls.
-/
import Derived.Test.YtjenofochgcjmaaDoorCellDefs
import Derived.Test.YtjenofochgcjmaaDoorRefCell
namespace Go.Proofs.YtjenofochgcjmaaDoor
open Go.RowKit Go.PlainAid

theorem mod_in (x : Int) (C : Nat) (hC : 1 ≤ C) : ∃ r : Nat, r < C ∧ (IntKind.u64.wrap x).tmod (C : Int) = (r : Int) := by
  have h2 : 0 ≤ IntKind.u64.wrap x := by rw [IntKind.wrap_u64]; omega
  have h0 := Int.tmod_nonneg (a := IntKind.u64.wrap x) (C : Int) h2
  have h1 := Int.tmod_lt_of_pos (IntKind.u64.wrap x) (b := (C : Int)) (by omega)
  exact ⟨((IntKind.u64.wrap x).tmod (C : Int)).toNat, by omega, (Int.toNat_of_nonneg h0).symm⟩
set_option maxRecDepth 100000 in
set_option maxHeartbeats 4000000 in
theorem cellAsks_walk {TT : World → Prop} (C : CellI TT) (s : ByteArray) (x n : Int) (w : World) (ht : TT w) :
    Calls Tryd.prog 3 #[.string s, .int .i64 x, .int .i64 n] w fun e w' => e = .returned (.bool true) ∧ Below w.heap.size w w' := by
  have H0 : Hid (Cq TT w w) := Lib.hid ⟨ht, Below.refl _ _⟩
  have HT := Lib.hid (told12_any C w ht)
  by_cases h4 : 400 < s.size
  · have d4 : decide ((400 : Int) < (s.size : Int)) = true := decide_eq_true (by omega)
    clear ht
    go_enter Tryd.func3, Tryd.ntmps3
    go_wp2_with fail
    refine HT.out.mono ?_
    rintro e w1 ⟨rfl, K1⟩
    go_wp2_with fail
    go_ret
    exact ⟨rfl, K1.out.2⟩
  · have d4 : decide ((400 : Int) < (s.size : Int)) = false := decide_eq_false (by omega)
    obtain ⟨k, hk, ek⟩ := mod_in x 100000 (by omega)
    have ek : (IntKind.u64.wrap x).tmod 100000 = (k : Int) := ek
    have hq : ∀ {W : World}, Cq TT w W → ∀ m, Cq TT w (W.drewN m) := fun h m => h.go C (drew_below _ m)
    have P1 := Lib.hid (fun W (h : Cq TT w W) => C.w h s (by omega))
    have P2 := Lib.hid (fun W (h : Cq TT w W) => C.l h s k (by omega) (by omega))
    have P3 := Lib.hid (fun W (h : Cq TT w W) => C.i h n)
    have P4 := Lib.hid (fun W (h : Cq TT w W) => C.t h s (by omega))
    have P5 := Lib.hid (fun W (h : Cq TT w W) => C.n h s (by omega))
    have D1 : Hid (∀ W, Cq TT w W → Calls Tryd.prog 9 #[.string s] W fun e w' => e = .returned (.int .i64 (ct s 0 : Int)) ∧ Hid (Cq TT w w')) := Lib.hid (fun W h => (rcount_any s W (by unfold maxLen; omega)).mono fun _ _ ⟨h1, m, h2⟩ => ⟨h1, Lib.hid (by rw [h2]; exact hq h m)⟩)
    have D2 : Hid (∀ W, Cq TT w W → Calls Tryd.prog 11 #[.string s, .int .i64 (k : Int)] W fun e w' => e = .returned (.int .i64 (lcol s k : Int)) ∧ Hid (Cq TT w w')) := Lib.hid (fun W h => (rlast_any s (by omega) k (by omega) W).mono fun _ _ ⟨h1, m, h2⟩ => ⟨h1, Lib.hid (by rw [h2]; exact hq h m)⟩)
    have D3 : Hid (∀ W, Cq TT w W → Calls Tryd.prog 13 #[.int .i64 n] W fun e w' => e = .returned (.string (indt n)) ∧ Hid (Cq TT w w')) := Lib.hid (fun W h => (rindent_any n W).mono fun _ _ ⟨h1, h2⟩ => ⟨h1, Lib.hid (h.go C h2)⟩)
    have D4 : Hid (∀ W, Cq TT w W → Calls Tryd.prog 15 #[.string s] W fun e w' => e = .returned (.string (s.extract 0 (tr s 0 s.size))) ∧ Hid (Cq TT w w')) := Lib.hid (fun W h => (rtrim_any s (by omega) W).mono fun _ _ ⟨h1, h2⟩ => ⟨h1, Lib.hid (by rw [← h2]; exact h)⟩)
    have D5 : Hid (∀ W, Cq TT w W → Calls Tryd.prog 17 #[.string s] W fun e w' => e = .returned (.bool (ntb s)) ∧ Hid (Cq TT w w')) := Lib.hid (fun W h => (rnote_any1 s (by omega) W).mono fun _ _ ⟨h1, h2⟩ => ⟨h1, Lib.hid (by rw [← h2]; exact h)⟩)
    obtain ⟨v1, hv1⟩ : ∃ v, v = ct s 0 := ⟨_, rfl⟩
    rw [← hv1] at P1 D1
    obtain ⟨v2, hv2⟩ : ∃ v, v = lcol s k := ⟨_, rfl⟩
    rw [← hv2] at P2 D2
    obtain ⟨v3, hv3⟩ : ∃ v, v = indt n := ⟨_, rfl⟩
    rw [← hv3] at P3 D3
    obtain ⟨v4, hv4⟩ : ∃ v, v = s.extract 0 (tr s 0 s.size) := ⟨_, rfl⟩
    rw [← hv4] at P4 D4
    obtain ⟨v5, hv5⟩ : ∃ v, v = ntb s := ⟨_, rfl⟩
    rw [← hv5] at P5 D5
    clear hv1 hv2 hv3 hv4 hv5 hq ht C
    go_enter Tryd.func3, Tryd.ntmps3
    go_wp2_with fail
    refine HT.out.mono ?_
    rintro e w1 ⟨rfl, K0⟩
    go_wp2_with fail
    refine (P1.out _ K0.out).mono ?_
    rintro e w2 ⟨rfl, K1⟩
    go_wp2_with fail
    refine (D1.out _ K1.out).mono ?_
    rintro e w3 ⟨rfl, K2⟩
    go_wp2_with fail
    refine (P2.out _ K2.out).mono ?_
    rintro e w4 ⟨rfl, K3⟩
    go_wp2_with fail
    refine (D2.out _ K3.out).mono ?_
    rintro e w5 ⟨rfl, K4⟩
    go_wp2_with fail
    refine (P3.out _ K4.out).mono ?_
    rintro e w6 ⟨rfl, K5⟩
    go_wp2_with fail
    refine (D3.out _ K5.out).mono ?_
    rintro e w7 ⟨rfl, K6⟩
    go_wp2_with fail
    refine (P4.out _ K6.out).mono ?_
    rintro e w8 ⟨rfl, K7⟩
    go_wp2_with fail
    refine (D4.out _ K7.out).mono ?_
    rintro e w9 ⟨rfl, K8⟩
    go_wp2_with fail
    refine (P5.out _ K8.out).mono ?_
    rintro e wA ⟨rfl, K9⟩
    go_wp2_with fail
    refine (D5.out _ K9.out).mono ?_
    rintro e wB ⟨rfl, KA⟩
    go_wp2_with fail
    go_ret
    exact ⟨by simp, KA.out.2⟩
end Go.Proofs.YtjenofochgcjmaaDoor
