/-
  The contract of the document's own Integer.
-/
import Derived.Test.YtnejkdaiopjchaaDoorRefInt
namespace Go.Proofs.YtnejkdaiopjchaaDoor
open Go.RowKit Go.PlainAid

def WholeAt (s : ByteArray) (n : Nat) : Prop := ∀ W, Calls Tryd.prog 25 #[.string s, .int .i64 0] W fun e w' => e = .returned (.int .i64 n) ∧ ∃ q, w' = W.drewN q
theorem over_iff {x d B : Nat} (hB : 1 ≤ B) (_hd : d ≤ 18446744073709551615) : (18446744073709551615 - (d : Int)) / (B : Int) < x ↔ 18446744073709551616 ≤ x * B + d := by
  rw [Int.ediv_lt_iff_lt_mul (by omega)]
  have : ((x * B : Nat) : Int) = (x : Int) * (B : Int) := by push_cast; rfl
  omega
set_option maxRecDepth 100000 in
set_option maxHeartbeats 4000000 in
theorem rint_good (s : ByteArray) (P a B : Nat) (V N : Int) (hs : s.size ≤ 1048576) (h0 : s.size ≠ 0) (HW : Hid (WholeAt s s.size)) (hB : 2 ≤ B) (hB' : B ≤ 36) (ha : a ≤ s.size) (hP : P ≤ s.size)
    (H35 : Hid (∀ i, i < s.size → (bt s i = 35 ↔ i = P))) (hin : Hid (P < s.size → (B : Int) = db s P ∧ a = P + 1 ∧ P ≤ 2 ∧ ∀ i, i < P → dg (bt s i) < 10)) (hout : Hid (¬ P < s.size → B = 10 ∧ a = 0))
    (hels : Hid (∀ x, a ≤ x → x < s.size → bt s x = 95 ∨ dg (bt s x) < B)) (U : Nat) (hU : Hid (vn s B s.size a 0 = U)) (hok : Hid (U < 18446744073709551616 → V = U ∧ N = 0)) (hbig : Hid (¬ U < 18446744073709551616 → V = 0 ∧ N = 6)) (w : World) :
    Calls Tryd.prog 10 #[.string s] w fun e w' => e = .returned (.tuple #[.int .u64 V, .int .i64 N]) ∧ ∃ n, w' = w.drewN n := by
  have HG := Lib.hid (get_bt s)
  have g0 := ne_empty h0
  go_enter Tryd.func10, Tryd.ntmps10
  go_wp2_with fail
  refine (HW.out _).mono ?_
  rintro e w' ⟨rfl, q1, rfl⟩
  go_wp2_with fail
  go_loopg [4, 5, 6] s.size (fun gn v y i wr => ∃ (k : Nat) (x : Int) (f : Nat), gn = s.size - k ∧ k ≤ s.size ∧ v = .int .i64 x ∧ y = .int .i64 f ∧ i = .int .i64 k ∧ 0 ≤ x ∧ x < 100 ∧ f ≤ s.size ∧ Hid ((k ≤ P → x = 10 ∧ f = 0) ∧ (P < k → x = B ∧ f = a)) ∧ Hid (∃ q, wr = w.drewN q))
  case atStart => exact ⟨0, 10, 0, rfl, Nat.zero_le _, rfl, rfl, rfl, by omega, by omega, Nat.zero_le _, Lib.hid ⟨fun _ => ⟨rfl, rfl⟩, fun h => absurd h (Nat.not_lt_zero _)⟩, Lib.hid ⟨_, rfl⟩⟩
  case round =>
    obtain ⟨k, x, f, hgn, hk, rfl, rfl, rfl, x0, x1, hf, HX, HQ⟩ := hrel
    obtain ⟨q0, rfl⟩ := HQ.out
    by_cases hlt : k < s.size
    · have gk := HG.out k hlt
      by_cases hkP : k = P
      · subst hkP
        obtain ⟨i1, i2, i3, i4⟩ := hin.out hlt
        have I1 := Lib.hid i1
        have I4 := Lib.hid i4
        rw [(H35.out k hlt).2 rfl] at gk
        clear i1 i4
        go_wp2_with fail
        go_loopg [4, 7] k (fun gm v j wr => ∃ (j' : Nat) (z : Int), gm = k - j' ∧ j' ≤ k ∧ v = .int .i64 z ∧ j = .int .i64 j' ∧ 0 ≤ z ∧ z < 100 ∧ Hid (z = db s j') ∧ Hid (∃ q, wr = w.drewN q))
        case atStart => exact ⟨0, 0, rfl, Nat.zero_le _, rfl, rfl, Int.le_refl _, by omega, Lib.hid rfl, Lib.hid ⟨_, rfl⟩⟩
        case round =>
          obtain ⟨j, z, hgm, hj, rfl, rfl, z0, z1, HZ, HQ2⟩ := hrel
          obtain ⟨q2, rfl⟩ := HQ2.out
          by_cases hjk : j < k
          · have g1 : (j : Int) < (k : Int) := by omega
            have gj := HG.out j (by omega)
            obtain ⟨d1, d2, -⟩ := dg_ten (I4.out j hjk)
            have HN := Lib.hid (show z * 10 + (bt s j - 48) = db s (j + 1) by rw [HZ.out]; rfl)
            have hb := db_bd (s := s) (m := k) I4.out (j + 1) (by omega)
            have hp : (10 : Int) ^ (j + 1) ≤ 100 := by
              have h1 := pow_bd 10 (by omega) (j + 1) 2 (by omega)
              have h2 : (10 : Int) ^ 2 = 100 := by decide
              omega
            have hb1 : z * 10 + (bt s j - 48) < 100 := by rw [HN.out]; omega
            obtain ⟨c, hc⟩ : ∃ c, c = bt s j := ⟨_, rfl⟩
            rw [← hc] at gj d1 d2 HN hb1
            clear hc hb hp
            have wc : IntKind.u8.wrap (c - 48) = c - 48 := by rw [IntKind.wrap_u8]; omega
            go_wp2_with fail
            go_roundg (k - (j + 1))
            case measure => omega
            case rel => exact ⟨j + 1, z * 10 + (c - 48), rfl, by omega, rfl, by go_num, by omega, hb1, HN, Lib.hid ⟨_, rfl⟩⟩
          · obtain rfl : j = k := by omega
            have hzB := Lib.hid (show z = B by rw [HZ.out, I1.out])
            go_wp2_with fail
            go_roundg (s.size - (j + 1))
            case measure => omega
            case rel => exact ⟨j + 1, z, a, rfl, by omega, rfl, by rw [i2]; go_num, by go_num, z0, z1, ha, Lib.hid ⟨fun h => by omega, fun _ => ⟨hzB.out, rfl⟩⟩, Lib.hid ⟨_, rfl⟩⟩
      · have h35 : bt s k ≠ 35 := fun h => hkP ((H35.out k hlt).1 h)
        have g1 : (bt s k == 35) = false := beq_false_of_ne h35
        obtain ⟨c, hc⟩ : ∃ c, c = bt s k := ⟨_, rfl⟩
        rw [← hc] at gk g1
        clear hc h35
        have HX2 : Hid ((k + 1 ≤ P → x = 10 ∧ f = 0) ∧ (P < k + 1 → x = B ∧ f = a)) := ⟨fun h => HX.out.1 (by omega), fun h => HX.out.2 (by omega)⟩
        go_wp2_with fail
        go_roundg (s.size - (k + 1))
        case measure => omega
        case rel => exact ⟨k + 1, x, f, rfl, hlt, rfl, rfl, by go_num, x0, x1, hf, HX2, Lib.hid ⟨_, rfl⟩⟩
    · have hfin : x = B ∧ f = a := by
        by_cases h : P < k
        · exact HX.out.2 h
        · obtain ⟨e1, e2⟩ := HX.out.1 (by omega)
          obtain ⟨f1, f2⟩ := hout.out (by omega)
          exact ⟨by rw [e1, f1]; rfl, by rw [e2, f2]⟩
      obtain ⟨rfl, rfl⟩ := hfin
      obtain rfl : k = s.size := by omega
      have HVR := Lib.hid (fun c c0 c1 W => rvalue_any c (B : Int) c0 c1 (by omega) W)
      clear HX
      go_wp2_with fail
      go_loopg [8, 9] (s.size - f) (fun gn v i wr => ∃ (k x : Nat), gn = s.size - k ∧ f ≤ k ∧ k ≤ s.size ∧ v = .int .u64 x ∧ i = .int .i64 k ∧ x < 18446744073709551616 ∧ Hid (vn s B s.size k x = U) ∧ Hid (∃ q, wr = w.drewN q))
      case atStart => exact ⟨f, 0, rfl, Nat.le_refl _, hf, rfl, rfl, by omega, hU, Lib.hid ⟨_, rfl⟩⟩
      case round =>
        obtain ⟨k, x, hgn, hfk, hk, rfl, rfl, hx, HK, HQ2⟩ := hrel
        obtain ⟨q2, rfl⟩ := HQ2.out
        by_cases hlt : k < s.size
        · have gk := HG.out k hlt
          by_cases h95 : bt s k = 95
          · have HK2 : Hid (vn s B s.size (k + 1) x = U) := by rw [← vn_under hlt h95]; exact HK.out
            rw [h95] at gk
            clear h95
            go_wp2_with fail
            go_roundg (s.size - (k + 1))
            case measure => omega
            case rel => exact ⟨k + 1, x, rfl, by omega, hlt, rfl, by go_num, hx, HK2, Lib.hid ⟨_, rfl⟩⟩
          · have hd : dg (bt s k) < B := (hels.out k hfk hlt).resolve_left h95
            have g1 : (bt s k == 95) = false := beq_false_of_ne h95
            have HV := Lib.hid (fun W => HVR.out (bt s k) (bt_nonneg s k) (bt_le s k) W)
            rw [vlr_is (by omega) hd] at HV
            have d0 := (dg_bd (bt s k)).1
            have HK2 := Lib.hid (vn_digit (b := B) (v := x) hlt h95)
            obtain ⟨d, hdd⟩ : ∃ d : Nat, d = (dg (bt s k)).toNat := ⟨_, rfl⟩
            have ed : dg (bt s k) = d := by omega
            rw [← hdd] at HK2
            rw [ed] at HV hd d0
            have hov := over_iff (x := x) (d := d) (B := B) (by omega) (by omega)
            obtain ⟨c, hc⟩ : ∃ c, c = bt s k := ⟨_, rfl⟩
            rw [← hc] at gk g1 HV
            clear hc ed hdd h95
            have wd : IntKind.u64.wrap (d : Int) = d := by rw [IntKind.wrap_u64]; omega
            have wB : IntKind.u64.wrap (B : Int) = B := by rw [IntKind.wrap_u64]; omega
            have wm : IntKind.u64.wrap (18446744073709551615 - (d : Int)) = 18446744073709551615 - (d : Int) := by rw [IntKind.wrap_u64]; omega
            by_cases ho : 18446744073709551616 ≤ x * B + d
            · have g2 := hov.2 ho
              have HF := Lib.hid (hbig.out (by
                have h1 := vn_ge (s := s) (b := B) (e := s.size) (by omega) (s.size - (k + 1)) (k + 1) (x * B + d) (Nat.le_refl _)
                have h2 := HK.out
                rw [HK2.out] at h2
                omega))
              clear hov ho
              go_wp2_with fail
              refine (HV.out _).mono ?_
              rintro e w' ⟨rfl, rfl⟩
              go_wp2_with fail
              go_ret2
              exact ⟨ret2I HF.out.1.symm HF.out.2.symm, _, rfl⟩
            · have g2 : ¬ (18446744073709551615 - (d : Int)) / (B : Int) < (x : Int) := fun h => ho (hov.1 h)
              have hxn : x * B + d < 18446744073709551616 := by omega
              have ec : ((x * B : Nat) : Int) = (x : Int) * (B : Int) := by push_cast; rfl
              have w1 : IntKind.u64.wrap ((x : Int) * (B : Int)) = (x : Int) * (B : Int) := by rw [IntKind.wrap_u64]; omega
              have w2 : IntKind.u64.wrap ((x : Int) * (B : Int) + (d : Int)) = (x : Int) * (B : Int) + (d : Int) := by rw [IntKind.wrap_u64]; omega
              have HKN := Lib.hid (HK2.out.symm.trans HK.out)
              clear hov ho ec
              go_wp2_with fail
              refine (HV.out _).mono ?_
              rintro e w' ⟨rfl, rfl⟩
              go_wp2_with fail
              go_roundg (s.size - (k + 1))
              case measure => omega
              case rel => exact ⟨k + 1, x * B + d, rfl, by omega, hlt, by push_cast; rfl, by go_num, hxn, HKN, Lib.hid ⟨_, rfl⟩⟩
        · have HF := Lib.hid (hok.out (by have := HK.out; rw [vn_end (by omega)] at this; omega))
          have HU2 := Lib.hid (show x = U by have := HK.out; rw [vn_end (by omega)] at this; exact this)
          go_wp2_with fail
          go_ret2
          exact ⟨ret2I (by rw [HF.out.1, HU2.out]) HF.out.2.symm, _, rfl⟩
theorem nm_parts {s : ByteArray} {b e k : Nat} (h : fm s b e k false = true) : (vn s b e k 0 < 18446744073709551616 → (nm s b e k).1 = (vn s b e k 0 : Nat) ∧ (nm s b e k).2 = 0) ∧ (¬ vn s b e k 0 < 18446744073709551616 → (nm s b e k).1 = 0 ∧ (nm s b e k).2 = 6) := by
  unfold nm
  rw [if_pos h]
  constructor
  · intro h'; rw [if_pos h']; exact ⟨rfl, rfl⟩
  · intro h'; rw [if_neg h']; exact ⟨rfl, rfl⟩
theorem rint_empty (w : World) : Calls Tryd.prog 10 #[.string ⟨#[]⟩] w fun e w' => e = .returned (.tuple #[.int .u64 0, .int .i64 8]) ∧ ∃ n, w' = w.drewN n := by
  go_enter Tryd.func10, Tryd.ntmps10
  go_wp2_with fail
  go_ret2
  exact ⟨rfl, 0, rfl⟩
theorem rint_bad (s : ByteArray) (n : Nat) (h0 : s.size ≠ 0) (hn : ((n : Int) != (s.size : Int)) = true) (HW : Hid (WholeAt s n)) (w : World) : Calls Tryd.prog 10 #[.string s] w fun e w' => e = .returned (.tuple #[.int .u64 0, .int .i64 8]) ∧ ∃ n, w' = w.drewN n := by
  have g0 := ne_empty h0
  go_enter Tryd.func10, Tryd.ntmps10
  go_wp2_with fail
  refine (HW.out _).mono ?_
  rintro e w' ⟨rfl, q1, rfl⟩
  go_wp2_with fail
  go_ret2
  exact ⟨rfl, _, rfl⟩
/-- INTEGER, the document's way: the same. -/
theorem rInteger_any (s : ByteArray) (hs : s.size ≤ 1048576) (w : World) :
    Calls Tryd.prog 10 #[.string s] w fun e w' => e = .returned (.tuple #[.int .u64 (igr s).1, .int .i64 (igr s).2]) ∧ ∃ n, w' = w.drewN n := by
  obtain ⟨g1, g2⟩ := igr_whl s
  have HW : WholeAt s (whl s) := fun W => rWhole_any s hs W
  by_cases h : s.size ≠ 0 ∧ whl s = s.size
  · have h0 := h.1
    rw [h.2] at HW
    rcases g1 h with ⟨e, hf, hn⟩ | ⟨p, p0, p2, p3, p35, pd, b1, b2, e, hf, hn⟩
    · rw [e]
      have hp := nm_parts (b := 10) hf
      exact rint_good s s.size 0 10 _ _ hs h0 HW (by omega) (by omega) (Nat.zero_le _) (Nat.le_refl _) (fun i hi => ⟨fun h' => absurd h' (hn i hi), fun h' => by omega⟩) (fun h' => absurd h' (Nat.lt_irrefl _)) (fun _ => ⟨rfl, rfl⟩)
        (fun x h1 h2 => fm_els _ _ _ (Nat.le_refl _) hf x h1 h2) _ (Lib.hid rfl) hp.1 hp.2 w
    · rw [e]
      have eB : ((db s p).toNat : Int) = db s p := Int.toNat_of_nonneg (by omega)
      rw [← eB] at hf
      have hp := nm_parts hf
      refine rint_good s p (p + 1) (db s p).toNat _ _ hs h0 HW (by omega) (by omega) (by omega) (by omega) (fun i hi => ⟨fun h' => ?_, fun h' => by rw [h']; exact p35⟩) (fun h' => ⟨eB, rfl, p2, pd⟩) (fun h' => by omega)
        (fun x h1 h2 => fm_els _ _ _ (Nat.le_refl _) hf x h1 h2) _ (Lib.hid rfl) hp.1 hp.2 w
      by_cases c1 : i < p
      · have d1 := pd i c1
        rw [h', show dg 35 = 36 by decide] at d1
        omega
      · by_cases c2 : p < i
        · exact absurd h' (hn i c2 hi)
        · omega
  · rw [g2 h]
    by_cases h0 : s.size = 0
    · obtain rfl := empty_of h0
      exact rint_empty w
    · exact rint_bad s (whl s) h0 (by simp; omega) HW w
end Go.Proofs.YtnejkdaiopjchaaDoor
