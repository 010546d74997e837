/-
  The document's own answers on tokens: Blank, inner, Trim, quoted, char.
-/
import Derived.Test.YtjenofochgcjmaaDoorScanDefs
import Derived.Test.YtjenofochgcjmaaDoorRefEsc
import Derived.Deep.LoopGhost
/- The document's own answers on tokens: Blank, inner, Trim, quoted, char. -/
namespace Go.Proofs.YtjenofochgcjmaaDoor
open Go.RowKit Go.PlainAid

set_option maxRecDepth 100000 in
/-- TRIM. -/
theorem rtrim_any (s : ByteArray) (hs : s.size ≤ 1048576) (w : World) :
    Calls Tryd.prog 15 #[.string s] w fun e w' => e = .returned (.string (s.extract 0 (tr s 0 s.size))) ∧ w = w' := by
  obtain ⟨R, hR⟩ : ∃ R, R = tr s 0 s.size := ⟨_, rfl⟩
  rw [← hR]
  have HR := Lib.hid hR
  have HG := Lib.hid (get_bt s)
  clear hR
  go_enter Tryd.func15, Tryd.ntmps15
  go_wp2_with fail
  go_loopg [3] s.size (fun gn i wr => ∃ j : Nat, gn = j ∧ j ≤ s.size ∧ i = .int .i64 j ∧ wr = w ∧ Hid (R = tr s 0 j))
  case atStart => exact ⟨s.size, rfl, Nat.le_refl _, rfl, rfl, HR⟩
  case round =>
    obtain ⟨j, hgn, hj, rfl, rfl, HJ⟩ := hrel
    by_cases h0 : 0 < j
    · obtain ⟨n, rfl⟩ : ∃ n, j = n + 1 := ⟨j - 1, by omega⟩
      have gx := HG.out n (by omega)
      have k1 : ((n : Int) + 1 - 1).toNat = n := by omega
      have hstep := tr_step (s := s) (n := n)
      rw [← HJ.out] at hstep
      have HGO : Hid (tb (bt s n) = true → R = tr s 0 n) := Lib.hid fun h => by rw [hstep, if_pos h]
      have HST : Hid (tb (bt s n) = false → n + 1 = R) := Lib.hid fun h => by rw [hstep, if_neg (by rw [h]; decide)]
      obtain ⟨c, hc⟩ : ∃ c, c = bt s n := ⟨_, rfl⟩
      rw [← hc] at gx HGO HST
      clear hc hstep
      cases hb : tb c
      · have HF := Lib.hid (HST.out hb)
        obtain ⟨b1, b2, b3⟩ := tb_none hb
        clear hb
        go_wp2_with fail
        go_ret
        exact ⟨ret_s (by rw [← HF.out]), rfl⟩
      · have HF := Lib.hid (HGO.out hb)
        rcases tb_cases hb with b1 | ⟨b1, b2⟩ | ⟨b1, b2, b3⟩
        all_goals
          clear hb
          go_wp2_with fail
          go_roundg n
          case measure => omega
          case rel => exact ⟨n, rfl, by omega, by go_num, rfl, HF⟩
    · obtain rfl : j = 0 := by omega
      have HF : Hid (0 = R) := Lib.hid (by rw [HJ.out]; rfl)
      go_wp2_with fail
      go_ret
      exact ⟨ret_s (by rw [← HF.out]; apply ByteArray.ext; simp), rfl⟩
end Go.Proofs.YtjenofochgcjmaaDoor
/- The document's own answers on tokens: quoted ones, chars. -/
namespace Go.Proofs.YtjenofochgcjmaaDoor
open Go.RowKit Go.PlainAid

end Go.Proofs.YtjenofochgcjmaaDoor
