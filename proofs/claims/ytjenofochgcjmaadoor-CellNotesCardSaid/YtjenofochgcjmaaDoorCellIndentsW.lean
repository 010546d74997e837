/-
  CellIndents, over the five calls.
-/
import Derived.Test.YtjenofochgcjmaaDoorCellJoinsW
namespace Go.Proofs.YtjenofochgcjmaaDoor
open Go.RowKit Go.PlainAid

theorem ext_self (s : ByteArray) : s.extract 0 s.size = s := by apply ByteArray.ext; simp
set_option maxRecDepth 100000 in
set_option maxHeartbeats 4000000 in
theorem cellIndents_walk {TT : World → Prop} (C : CellI TT) (x : Int) (w : World) (ht : TT w) :
    Calls Tryd.prog 5 #[.int .i64 x] w fun e w' => e = .returned (.bool true) ∧ Below w.heap.size w w' := by
  have H0 : Hid (Cq TT w w) := Lib.hid ⟨ht, Below.refl _ _⟩
  have HT : Hid (∀ W, Cq TT w W → Calls Tryd.prog 7 #[] W fun e w' => e = .returned (.bool true) ∧ Hid (Cq TT w w')) := Lib.hid (fun W h => (told12_any C W h.1).mono fun _ _ ⟨h1, h2⟩ => ⟨h1, Lib.hid (h.go C h2.out.2)⟩)
  obtain ⟨r, hr, er⟩ := mod_in x 20100 (by omega)
  have er : (IntKind.u64.wrap x).tmod 20100 = (r : Int) := er
  obtain ⟨M, hM⟩ : ∃ M : Nat, M = min ((r : Int) - 50).toNat 20000 := ⟨_, rfl⟩
  have hM2 : M ≤ 20000 := by omega
  have hMw : min (max ((r : Int) - 50) 0) 20000 = (M : Int) := by omega
  have hT : indt ((r : Int) - 50) = blks M := by unfold indt; rw [hM]
  have hz := blks_size M
  have P1 := Lib.hid (fun W (h : Cq TT w W) => C.i h ((r : Int) - 50))
  rw [hT] at P1
  have P2 := Lib.hid (fun W (h : Cq TT w W) => C.w h (blks M) (by omega))
  rw [ct_blks] at P2
  have P3 := Lib.hid (fun W (h : Cq TT w W) => C.t h (blks M) (by omega))
  rw [tr_blks, show (blks M).extract 0 0 = ⟨#[]⟩ by apply ByteArray.ext; simp] at P3
  have hs2 : ((blks M ++ ⟨#[120]⟩) ++ blks M : ByteArray).size = M + 1 + M := by rw [ByteArray.size_append, ByteArray.size_append, hz]; rfl
  have P4 := Lib.hid (fun W (h : Cq TT w W) => C.t h ((blks M ++ ⟨#[120]⟩) ++ blks M) (by omega))
  rw [trim_app (blks M ++ ⟨#[120]⟩) (blks M) (fun i hi => by rw [hz] at hi; rw [bt_blks hi]; decide)] at P4
  have hs1 : (blks M ++ ⟨#[120]⟩ : ByteArray).size = M + 1 := by rw [ByteArray.size_append, hz]; rfl
  rw [show tr (blks M ++ ⟨#[120]⟩) 0 (blks M ++ ⟨#[120]⟩ : ByteArray).size = (blks M ++ ⟨#[120]⟩ : ByteArray).size from
    tr_blank _ (Nat.le_refl _) (fun i h1 h2 => by omega) (.inr (by
      rw [hs1, Nat.add_sub_cancel]
      have := bt_app_r (blks M) ⟨#[120]⟩ 0
      rw [hz, Nat.add_zero] at this
      rw [this]; decide +kernel)), ext_self (blks M ++ ⟨#[120]⟩)] at P4
  have P5 := Lib.hid (fun W (h : Cq TT w W) => C.l h (blks M) 7 (by omega) (by omega))
  rw [lcol_blks] at P5
  have HG := Lib.hid (get_bt (blks M))
  have HB := Lib.hid (fun i (h : i < M) => bt_blks h)
  obtain ⟨T, hTT⟩ : ∃ T, T = blks M := ⟨_, rfl⟩
  rw [← hTT] at P1 P2 P3 P4 P5 HG HB hz
  have hzz : (T.size : Int) = (M : Int) := by rw [hz]
  have HZ := Lib.hid hz
  have HM := Lib.hid hM
  clear hM hT hTT hs1 hs2 ht C hz hMw
  rcases (show (r : Int) - 50 < 0 ∨ (20000 < (r : Int) - 50) ∨ (¬ ((r : Int) - 50 < 0) ∧ ¬ (20000 < (r : Int) - 50)) by omega) with k1 | k2 | ⟨k3, k4⟩
  · obtain rfl : M = 0 := by have := HM.out; omega
    have mm : ((0 : Int) != (0 : Int)) = false := bne_self_eq_false _
    go_enter Tryd.func5, Tryd.ntmps5
    go_wp2_with fail
    refine (P1.out _ H0.out).mono ?_
    rintro e w1 ⟨rfl, K1⟩
    go_wp2_with fail
    refine (P2.out _ K1.out).mono ?_
    rintro e w2 ⟨rfl, K2⟩
    go_wp2_with fail
    go_loopg [6] (0 + 97) (fun gn i wr => ∃ q : Nat, gn = 0 + 97 - q ∧ q ≤ 0 + 96 ∧ i = .int .i64 (q : Int) ∧ wr = w2)
    case atStart => exact ⟨0, rfl, by omega, rfl, rfl⟩
    case round =>
      obtain ⟨q, hgn, hq, rfl, rfl⟩ := hrel
      by_cases hlt : q < 0
      · have gx := HG.out q (by rw [HZ.out]; exact hlt)
        rw [HB.out q hlt] at gx
        have qn : (q : Int) < (0 : Int) := by omega
        have qz : q < T.size := by rw [HZ.out]; exact hlt
        go_wp2_with fail
        go_roundg (0 + 97 - (q + 97))
        case measure => omega
        case rel => exact ⟨q + 97, rfl, by omega, by go_num, rfl⟩
      · have qn : ¬ ((q : Int) < (0 : Int)) := by omega
        have G2 : wrap64 (7 + (0 : Int)) = 7 + (0 : Int) := by have := IntKind.wrap_i64 (7 + (0 : Int)); unfold wrap64; omega
        go_wp2_with fail
        refine (HT.out _ K2.out).mono ?_
        rintro e w3 ⟨rfl, K3⟩
        go_wp2_with fail
        refine (P3.out _ K3.out).mono ?_
        rintro e w4 ⟨rfl, K4⟩
        go_wp2_with fail
        refine (P4.out _ K4.out).mono ?_
        rintro e w5 ⟨rfl, K5⟩
        go_wp2_with fail
        refine (P5.out _ K5.out).mono ?_
        rintro e w6 ⟨rfl, K6⟩
        go_wp2_with fail
        go_ret
        exact ⟨by simp, K6.out.2⟩
  · obtain rfl : M = 20000 := by have := HM.out; omega
    have k5 : ¬ ((r : Int) - 50 < 0) := by omega
    have mm : ((20000 : Int) != (20000 : Int)) = false := bne_self_eq_false _
    go_enter Tryd.func5, Tryd.ntmps5
    go_wp2_with fail
    refine (P1.out _ H0.out).mono ?_
    rintro e w1 ⟨rfl, K1⟩
    go_wp2_with fail
    refine (P2.out _ K1.out).mono ?_
    rintro e w2 ⟨rfl, K2⟩
    go_wp2_with fail
    go_loopg [6] (20000 + 97) (fun gn i wr => ∃ q : Nat, gn = 20000 + 97 - q ∧ q ≤ 20000 + 96 ∧ i = .int .i64 (q : Int) ∧ wr = w2)
    case atStart => exact ⟨0, rfl, by omega, rfl, rfl⟩
    case round =>
      obtain ⟨q, hgn, hq, rfl, rfl⟩ := hrel
      by_cases hlt : q < 20000
      · have gx := HG.out q (by rw [HZ.out]; exact hlt)
        rw [HB.out q hlt] at gx
        have qn : (q : Int) < (20000 : Int) := by omega
        have qz : q < T.size := by rw [HZ.out]; exact hlt
        go_wp2_with fail
        go_roundg (20000 + 97 - (q + 97))
        case measure => omega
        case rel => exact ⟨q + 97, rfl, by omega, by go_num, rfl⟩
      · have qn : ¬ ((q : Int) < (20000 : Int)) := by omega
        have G2 : wrap64 (7 + (20000 : Int)) = 7 + (20000 : Int) := by have := IntKind.wrap_i64 (7 + (20000 : Int)); unfold wrap64; omega
        go_wp2_with fail
        refine (HT.out _ K2.out).mono ?_
        rintro e w3 ⟨rfl, K3⟩
        go_wp2_with fail
        refine (P3.out _ K3.out).mono ?_
        rintro e w4 ⟨rfl, K4⟩
        go_wp2_with fail
        refine (P4.out _ K4.out).mono ?_
        rintro e w5 ⟨rfl, K5⟩
        go_wp2_with fail
        refine (P5.out _ K5.out).mono ?_
        rintro e w6 ⟨rfl, K6⟩
        go_wp2_with fail
        go_ret
        exact ⟨by simp, K6.out.2⟩
  · have hrm : (r : Int) - 50 = (M : Int) := by have := HM.out; omega
    rw [hrm] at P1 k3 k4
    have mm : ((M : Int) != (M : Int)) = false := bne_self_eq_false _
    go_enter Tryd.func5, Tryd.ntmps5
    go_wp2_with fail
    refine (P1.out _ H0.out).mono ?_
    rintro e w1 ⟨rfl, K1⟩
    go_wp2_with fail
    refine (P2.out _ K1.out).mono ?_
    rintro e w2 ⟨rfl, K2⟩
    go_wp2_with fail
    go_loopg [6] (M + 97) (fun gn i wr => ∃ q : Nat, gn = M + 97 - q ∧ q ≤ M + 96 ∧ i = .int .i64 (q : Int) ∧ wr = w2)
    case atStart => exact ⟨0, rfl, by omega, rfl, rfl⟩
    case round =>
      obtain ⟨q, hgn, hq, rfl, rfl⟩ := hrel
      by_cases hlt : q < M
      · have gx := HG.out q (by rw [HZ.out]; exact hlt)
        rw [HB.out q hlt] at gx
        have qn : (q : Int) < (M : Int) := by omega
        have qz : q < T.size := by rw [HZ.out]; exact hlt
        go_wp2_with fail
        go_roundg (M + 97 - (q + 97))
        case measure => omega
        case rel => exact ⟨q + 97, rfl, by omega, by go_num, rfl⟩
      · have qn : ¬ ((q : Int) < (M : Int)) := by omega
        have G2 : wrap64 (7 + (M : Int)) = 7 + (M : Int) := by have := IntKind.wrap_i64 (7 + (M : Int)); unfold wrap64; omega
        go_wp2_with fail
        refine (HT.out _ K2.out).mono ?_
        rintro e w3 ⟨rfl, K3⟩
        go_wp2_with fail
        refine (P3.out _ K3.out).mono ?_
        rintro e w4 ⟨rfl, K4⟩
        go_wp2_with fail
        refine (P4.out _ K4.out).mono ?_
        rintro e w5 ⟨rfl, K5⟩
        go_wp2_with fail
        refine (P5.out _ K5.out).mono ?_
        rintro e w6 ⟨rfl, K6⟩
        go_wp2_with fail
        go_ret
        exact ⟨by simp, K6.out.2⟩
end Go.Proofs.YtjenofochgcjmaaDoor
