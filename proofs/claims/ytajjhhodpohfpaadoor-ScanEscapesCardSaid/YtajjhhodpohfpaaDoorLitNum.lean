/-
  The contract of package lit's number.
-/
import Derived.Test.YtajjhhodpohfpaaDoorLitWalks
import Derived.Deep.LoopGhost
namespace Go.Proofs.YtajjhhodpohfpaaDoor
open Go.RowKit Go.PlainAid

/-- NUMBER. -/
theorem number_any (s : ByteArray) (b : Nat) (hb : 2 ≤ b) (hb' : b ≤ 36) (w : World) :
    Calls Tryd.prog 77 #[.string s, .int .u64 b] w fun e w' => e = .returned (.tuple #[.int .u64 (nm s b s.size 0).1, .int .i64 (nm s b s.size 0).2]) ∧ ∃ p, w' = w.iter s p := by
  obtain ⟨V, hV⟩ : ∃ V, V = (nm s b s.size 0).1 := ⟨_, rfl⟩
  obtain ⟨N, hN⟩ : ∃ N, N = (nm s b s.size 0).2 := ⟨_, rfl⟩
  rw [← hV, ← hN]
  have H0 : Hid (∀ F, fm s b s.size 0 false = F → (F = false → V = 0 ∧ N = 8) ∧ (F = true → (vn s b s.size 0 0 < 18446744073709551616 → V = (vn s b s.size 0 0 : Nat) ∧ N = 0) ∧ (¬ vn s b s.size 0 0 < 18446744073709551616 → V = 0 ∧ N = 6))) := fun F hF => by
    rw [hV, hN]
    unfold nm
    constructor
    · intro h; rw [hF, h]; exact ⟨rfl, rfl⟩
    · intro h
      rw [hF, h, if_pos rfl]
      constructor
      · intro h'; rw [if_pos h']; exact ⟨rfl, rfl⟩
      · intro h'; rw [if_neg h']; exact ⟨rfl, rfl⟩
  clear hV hN
  obtain ⟨F, hF⟩ : ∃ F, fm s b s.size 0 false = F := ⟨_, rfl⟩
  have HF0 := Lib.hid hF
  obtain ⟨U, hU⟩ : ∃ U, vn s b s.size 0 0 = U := ⟨_, rfl⟩
  have HU0 := Lib.hid hU
  have HR : Hid ((F = false → V = 0 ∧ N = 8) ∧ (F = true → (U < 18446744073709551616 → V = (U : Nat) ∧ N = 0) ∧ (¬ U < 18446744073709551616 → V = 0 ∧ N = 6))) := by
    have := H0.out F hF
    rw [hU] at this
    exact this
  clear hF hU H0
  go_enter Tryd.func77, Tryd.ntmps77
  go_wp2_with fail
  go_loopg [6, 7, 8] s.size (fun gn v g h wr => ∃ (k x X : Nat) (gg hh : Bool), gn = s.size - k ∧ k ≤ s.size ∧ x < 18446744073709551616 ∧ v = .int .u64 x ∧ g = .bool gg ∧ h = .bool hh ∧ wr = w.iter s k ∧ Hid (gg = true → 18446744073709551616 ≤ X) ∧ Hid (gg = false → x = X) ∧ Hid (fm s b s.size k hh = F) ∧ Hid (vn s b s.size k X = U))
  case atStart => exact ⟨0, 0, 0, false, false, rfl, Nat.zero_le _, by omega, rfl, rfl, rfl, rfl, Lib.hid (fun h => by cases h), Lib.hid (fun _ => rfl), HF0, HU0⟩
  case round =>
    obtain ⟨k, x, X, gg, hh, hgn, hks, hx, rfl, rfl, rfl, rfl, HG, HX, HK, HL⟩ := hrel
    by_cases hlt : k < s.size
    · obtain ⟨r0, r1, r2, r3, r4⟩ := rune_at hlt
      obtain ⟨r, hr⟩ : ∃ r : Int, ((Utf8.decode s k).1 : Int) = r := ⟨_, rfl⟩
      obtain ⟨d, hd⟩ : ∃ d, (Utf8.decode s k).2 = d := ⟨_, rfl⟩
      have hnx := fun ty => decode_iter w s k ty hlt r d hr hd
      rw [hr] at r0 r1 r2 r3 r4
      rw [hd] at r3 r4
      have HD := Lib.hid (fun W => ldigit_any r W r0 r1)
      rw [r2] at HD
      have y1 := dg_bd (bt s k)
      obtain ⟨y, hy⟩ : ∃ y : Nat, dg (bt s k) = y := ⟨(dg (bt s k)).toNat, by omega⟩
      have HY := Lib.hid hy
      rw [hy] at HD y1
      have R3 := Lib.hid r3
      have R4 := Lib.hid r4
      have H128 : Hid (y < 36 → bt s k < 128) := fun h => by
        apply Classical.byContradiction
        intro h'
        have := dg_high (c := bt s k) (by omega)
        omega
      clear hy r2 r3 r4 hr hd y1
      have wy : IntKind.u64.wrap (y : Int) = y := by
        have := dg_bd (bt s k)
        have := HY.out
        rw [IntKind.wrap_u64]; omega
      by_cases hyb : (y : Int) < (b : Int)
      · obtain ⟨hr8, rfl⟩ := R3.out (H128.out (by omega))
        have hu : bt s k ≠ 95 := fun h => by
          have := HY.out
          rw [h, dg_under] at this
          omega
        have g95 : (r == 95) = false := beq_false_of_ne (by omega)
        have hxb : x * b < 18446744073709551616 * 36 := by
          calc x * b ≤ x * 36 := Nat.mul_le_mul_left x hb'
            _ < 18446744073709551616 * 36 := by omega
        have FK : Hid (fm s b s.size (k + 1) true = F) := by
          have := HK.out
          rw [fm_digit hlt (by omega) (by rw [HY.out]; exact hyb)] at this
          exact this
        have FL : Hid (vn s b s.size (k + 1) (X * b + y) = U) := by
          have := HL.out
          rw [vn_digit hlt hu, HY.out] at this
          exact this
        have HM := Lib.hid (fun W => mul64_any x b hx (by omega) W)
        obtain ⟨hi, hhi⟩ : ∃ hi, x * b / 18446744073709551616 = hi := ⟨_, rfl⟩
        obtain ⟨lo, hlo⟩ : ∃ lo, x * b % 18446744073709551616 = lo := ⟨_, rfl⟩
        rw [hhi, hlo] at HM
        have hA := fun W => add64_run lo y W
        obtain ⟨su, hsu⟩ : ∃ su, (lo + y) % 18446744073709551616 = su := ⟨_, rfl⟩
        obtain ⟨ca, hca⟩ : ∃ ca, (lo + y) / 18446744073709551616 = ca := ⟨_, rfl⟩
        rw [hsu, hca] at hA
        have hsu' : su < 18446744073709551616 := by omega
        have hXb : Hid (x = X → (hi = 0 ∧ ca = 0 → su = X * b + y) ∧ (¬ (hi = 0 ∧ ca = 0) → 18446744073709551616 ≤ X * b + y)) := fun h => by
          subst h
          constructor
          · intro h; omega
          · intro h; omega
        have hXg : Hid (18446744073709551616 ≤ X → 18446744073709551616 ≤ X * b + y) := fun h => by
          have : X * 1 ≤ X * b := Nat.mul_le_mul_left X (by omega)
          omega
        clear hhi hlo hsu hca hxb hu hr8
        go_wp2_with fail
        refine (HD.out _).mono ?_
        rintro e w' ⟨rfl, rfl⟩
        go_wp2_with fail
        refine (HM.out _).mono ?_
        rintro e w' ⟨rfl, rfl⟩
        cases gg
        · have hX := HX.out rfl
          have hXc := hXb.out hX
          by_cases hh0 : hi = 0
          · by_cases hc0 : ca = 0
            · have hfin := Lib.hid (hXc.1 ⟨hh0, hc0⟩)
              clear hX hXc hXb
              subst hh0 hc0
              go_wp2
              go_roundg (s.size - (k + 1))
              case rel => exact ⟨k + 1, su, X * b + y, false, true, rfl, hlt, hsu', rfl, rfl, rfl, rfl, Lib.hid (fun h => by cases h), Lib.hid (fun _ => hfin.out), FK, FL⟩
              case measure => omega
            · have g2 : ((ca : Int) != 0) = true := by simp; omega
              have hfin := Lib.hid (hXc.2 (by omega))
              clear hX hXc hXb
              subst hh0
              go_wp2
              go_roundg (s.size - (k + 1))
              case rel => exact ⟨k + 1, su, X * b + y, true, true, rfl, hlt, hsu', rfl, rfl, rfl, rfl, Lib.hid (fun _ => hfin.out), Lib.hid (fun h => by cases h), FK, FL⟩
              case measure => omega
          · have g1 : ((hi : Int) != 0) = true := by simp; omega
            have hfin := Lib.hid (hXc.2 (by omega))
            clear hX hXc hXb
            go_wp2
            go_roundg (s.size - (k + 1))
            case rel => exact ⟨k + 1, su, X * b + y, true, true, rfl, hlt, hsu', rfl, rfl, rfl, rfl, Lib.hid (fun _ => hfin.out), Lib.hid (fun h => by cases h), FK, FL⟩
            case measure => omega
        · have hfin := Lib.hid (hXg.out (HG.out rfl))
          go_wp2
          go_roundg (s.size - (k + 1))
          case rel => exact ⟨k + 1, su, X * b + y, true, true, rfl, hlt, hsu', rfl, rfl, rfl, rfl, Lib.hid (fun _ => hfin.out), Lib.hid (fun h => by cases h), FK, FL⟩
          case measure => omega
      · have hyb' : (b : Int) ≤ (y : Int) := by omega
        by_cases hu : r = 95
        · subst hu
          have h8 : bt s k < 128 := by
            apply Classical.byContradiction
            intro h'
            have := R4.out (by omega)
            omega
          obtain ⟨hr8, rfl⟩ := R3.out h8
          cases hh
          · have FK : Hid (F = false) := by
              have := HK.out
              rw [fm_bad hlt (by rintro ⟨-, h⟩; cases h) (by rw [HY.out]; exact hyb)] at this
              exact this.symm
            have hz := Lib.hid (HR.out.1 FK.out)
            clear hr8 h8
            go_wp2_with fail
            refine (HD.out _).mono ?_
            rintro e w' ⟨rfl, rfl⟩
            go_wp2_with fail
            go_ret2
            exact ⟨ret2I hz.out.1.symm hz.out.2.symm, _, rfl⟩
          · have FK : Hid (fm s b s.size (k + 1) false = F) := by
              have := HK.out
              rw [fm_under hlt hr8.symm] at this
              exact this
            have FL : Hid (vn s b s.size (k + 1) X = U) := by
              have := HL.out
              rw [vn_under hlt hr8.symm] at this
              exact this
            clear hr8 h8
            go_wp2
            go_roundg (s.size - (k + 1))
            case rel => exact ⟨k + 1, x, X, gg, false, rfl, hlt, hx, rfl, rfl, rfl, rfl, HG, HX, FK, FL⟩
            case measure => omega
        · have g95 : (r == 95) = false := beq_false_of_ne hu
          have FK : Hid (F = false) := by
            have := HK.out
            rw [fm_bad hlt (by rintro ⟨h, -⟩; exact hu (by rw [(R3.out (by omega)).1, h])) (by rw [HY.out]; exact hyb)] at this
            exact this.symm
          have hz := Lib.hid (HR.out.1 FK.out)
          clear hu
          go_wp2_with fail
          refine (HD.out _).mono ?_
          rintro e w' ⟨rfl, rfl⟩
          go_wp2_with fail
          go_ret2
          exact ⟨ret2I hz.out.1.symm hz.out.2.symm, _, rfl⟩
    · obtain rfl : k = s.size := by omega
      have hnx := fun ty => run_next_end (P := Tryd.prog) w s s.size ty (by omega)
      have FK : Hid (F = hh) := by have := HK.out; rw [fm_end (by omega)] at this; exact this.symm
      have FL : Hid (X = U) := by have := HL.out; rw [vn_end (by omega)] at this; exact this
      cases hh
      · have hz := Lib.hid (HR.out.1 FK.out)
        go_wp2
        go_ret2
        exact ⟨ret2I hz.out.1.symm hz.out.2.symm, _, rfl⟩
      · have hz := Lib.hid (HR.out.2 FK.out)
        cases gg
        · have hf : Hid (V = x ∧ N = 0) := by
            have h1 := HX.out rfl
            have h2 := FL.out
            have := hz.out.1 (by omega)
            exact ⟨by omega, this.2⟩
          go_wp2
          go_ret2
          exact ⟨ret2I hf.out.1.symm hf.out.2.symm, _, rfl⟩
        · have hf : Hid (V = 0 ∧ N = 6) := by
            have h1 := HG.out rfl
            have h2 := FL.out
            exact hz.out.2 (by omega)
          go_wp2
          go_ret2
          exact ⟨ret2I hf.out.1.symm hf.out.2.symm, _, rfl⟩
end Go.Proofs.YtajjhhodpohfpaaDoor
