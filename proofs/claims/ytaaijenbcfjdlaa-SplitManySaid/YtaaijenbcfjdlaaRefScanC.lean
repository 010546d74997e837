/-
  The document's own answers on tokens: Blank, inner, Trim, quoted, char.
-/
import Derived.Test.YtaaijenbcfjdlaaScanDefs
import Derived.Test.YtaaijenbcfjdlaaRefEsc
import Derived.Deep.LoopGhost
/- The document's own answers on tokens: Blank, inner, Trim, quoted, char. -/
namespace Go.Proofs.Ytaaijenbcfjdlaa
open Go.RowKit Go.PlainAid

set_option maxRecDepth 100000 in
/-- BLANK. -/
theorem rblank_any (s : ByteArray) (k : Nat) (hk : k ≤ s.size) (hs : s.size ≤ 1048576) (w : World) :
    Calls Try.prog 15 #[.string s, .int .i64 k] w fun e w' => e = .returned (.int .i64 (fw bl s k : Nat)) ∧ w = w' := by
  obtain ⟨R, hR⟩ : ∃ R, R = fw bl s k := ⟨_, rfl⟩
  rw [← hR]
  have HR := Lib.hid hR
  have HG := Lib.hid (get_bt s)
  clear hR
  go_enter Try.func15, Try.ntmps15
  go_wp2_with fail
  go_loopg [1] (s.size - k) (fun gn i wr => ∃ j : Nat, gn = s.size - j ∧ j ≤ s.size ∧ i = .int .i64 j ∧ wr = w ∧ Hid (R = fw bl s j))
  case atStart => exact ⟨k, rfl, hk, rfl, rfl, HR⟩
  case round =>
    obtain ⟨j, hgn, hj, rfl, rfl, HJ⟩ := hrel
    by_cases hlt : j < s.size
    · have gx := HG.out j hlt
      have HGO : Hid (bl (bt s j) = true → R = fw bl s (j + 1)) := Lib.hid fun h => by rw [HJ.out, fw_go hlt h]
      have HST : Hid (bl (bt s j) = false → j = R) := Lib.hid fun h => by rw [HJ.out, fw_stop h]
      obtain ⟨c, hc⟩ : ∃ c, c = bt s j := ⟨_, rfl⟩
      rw [← hc] at gx HGO HST
      clear hc
      cases hb : bl c
      · have HF := Lib.hid (HST.out hb)
        obtain ⟨b1, b2, b3, b4⟩ := bl_none hb
        clear hb
        go_wp2_with fail
        go_ret
        exact ⟨retN HF.out, rfl⟩
      · have HF := Lib.hid (HGO.out hb)
        rcases bl_cases hb with b1 | ⟨b1, b2⟩ | ⟨b1, b2, b3⟩ | ⟨b1, b2, b3, b4⟩
        all_goals
          clear hb
          go_wp2_with fail
          go_roundg (s.size - (j + 1))
          case measure => omega
          case rel => exact ⟨j + 1, rfl, hlt, by go_num, rfl, HF⟩
    · have HF : Hid (j = R) := Lib.hid (by rw [HJ.out, fw_end hlt])
      go_wp2_with fail
      go_ret
      exact ⟨retN HF.out, rfl⟩
set_option maxRecDepth 100000 in
/-- inner. -/
theorem rinner6_any (s : ByteArray) (k : Nat) (hk : k ≤ s.size) (hs : s.size ≤ 1048576) (w : World) :
    Calls Try.prog 26 #[.string s, .int .i64 k] w fun e w' => e = .returned (.int .i64 (fw inn s k : Nat)) ∧ w = w' := by
  obtain ⟨R, hR⟩ : ∃ R, R = fw inn s k := ⟨_, rfl⟩
  rw [← hR]
  have HR := Lib.hid hR
  have HG := Lib.hid (get_bt s)
  clear hR
  go_enter Try.func26, Try.ntmps26
  go_wp2_with fail
  go_loopg [1] (s.size - k) (fun gn i wr => ∃ j : Nat, gn = s.size - j ∧ j ≤ s.size ∧ i = .int .i64 j ∧ wr = w ∧ Hid (R = fw inn s j))
  case atStart => exact ⟨k, rfl, hk, rfl, rfl, HR⟩
  case round =>
    obtain ⟨j, hgn, hj, rfl, rfl, HJ⟩ := hrel
    by_cases hlt : j < s.size
    · have gx := HG.out j hlt
      have HGO : Hid (inn (bt s j) = true → R = fw inn s (j + 1)) := Lib.hid fun h => by rw [HJ.out, fw_go hlt h]
      have HST : Hid (inn (bt s j) = false → j = R) := Lib.hid fun h => by rw [HJ.out, fw_stop h]
      have HI := Lib.hid (fun W => rinner_any (bt s j) W)
      obtain ⟨v, hv⟩ : ∃ v, v = inn (bt s j) := ⟨_, rfl⟩
      rw [← hv] at HGO HST HI
      obtain ⟨c, hc⟩ : ∃ c, c = bt s j := ⟨_, rfl⟩
      rw [← hc] at gx HI
      clear hc hv
      cases v
      · have HF := Lib.hid (HST.out rfl)
        go_wp2_with fail
        refine (HI.out _).mono ?_
        rintro e w' ⟨rfl, rfl⟩
        go_wp2_with fail
        go_ret
        exact ⟨retN HF.out, rfl⟩
      · have HF := Lib.hid (HGO.out rfl)
        go_wp2_with fail
        refine (HI.out _).mono ?_
        rintro e w' ⟨rfl, rfl⟩
        go_wp2_with fail
        go_roundg (s.size - (j + 1))
        case measure => omega
        case rel => exact ⟨j + 1, rfl, hlt, by go_num, rfl, HF⟩
    · have HF : Hid (j = R) := Lib.hid (by rw [HJ.out, fw_end hlt])
      go_wp2_with fail
      go_ret
      exact ⟨retN HF.out, rfl⟩
set_option maxRecDepth 100000 in
/-- TRIM. -/
theorem rtrim_any (s : ByteArray) (hs : s.size ≤ 1048576) (w : World) :
    Calls Try.prog 23 #[.string s] w fun e w' => e = .returned (.string (s.extract 0 (tr s 0 s.size))) ∧ w = w' := by
  obtain ⟨R, hR⟩ : ∃ R, R = tr s 0 s.size := ⟨_, rfl⟩
  rw [← hR]
  have HR := Lib.hid hR
  have HG := Lib.hid (get_bt s)
  clear hR
  go_enter Try.func23, Try.ntmps23
  go_wp2_with fail
  go_loopg [3] s.size (fun gn i wr => ∃ j : Nat, gn = j ∧ j ≤ s.size ∧ i = .int .i64 j ∧ wr = w ∧ Hid (R = tr s 0 j))
  case atStart => exact ⟨s.size, rfl, Nat.le_refl _, rfl, rfl, HR⟩
  case round =>
    obtain ⟨j, hgn, hj, rfl, rfl, HJ⟩ := hrel
    by_cases h0 : 0 < j
    · obtain ⟨n, rfl⟩ : ∃ n, j = n + 1 := ⟨j - 1, by omega⟩
      have gx := HG.out n (by omega)
      have k1 : ((n : Int) + 1 - 1).toNat = n := by omega
      have hstep := tr_step (s := s) (n := n)
      rw [← HJ.out] at hstep
      have HGO : Hid (tb (bt s n) = true → R = tr s 0 n) := Lib.hid fun h => by rw [hstep, if_pos h]
      have HST : Hid (tb (bt s n) = false → n + 1 = R) := Lib.hid fun h => by rw [hstep, if_neg (by rw [h]; decide)]
      obtain ⟨c, hc⟩ : ∃ c, c = bt s n := ⟨_, rfl⟩
      rw [← hc] at gx HGO HST
      clear hc hstep
      cases hb : tb c
      · have HF := Lib.hid (HST.out hb)
        obtain ⟨b1, b2, b3⟩ := tb_none hb
        clear hb
        go_wp2_with fail
        go_ret
        exact ⟨ret_s (by rw [← HF.out]), rfl⟩
      · have HF := Lib.hid (HGO.out hb)
        rcases tb_cases hb with b1 | ⟨b1, b2⟩ | ⟨b1, b2, b3⟩
        all_goals
          clear hb
          go_wp2_with fail
          go_roundg n
          case measure => omega
          case rel => exact ⟨n, rfl, by omega, by go_num, rfl, HF⟩
    · obtain rfl : j = 0 := by omega
      have HF : Hid (0 = R) := Lib.hid (by rw [HJ.out]; rfl)
      go_wp2_with fail
      go_ret
      exact ⟨ret_s (by rw [← HF.out]; apply ByteArray.ext; simp), rfl⟩
end Go.Proofs.Ytaaijenbcfjdlaa
/- The document's own answers on tokens: quoted ones, chars. -/
namespace Go.Proofs.Ytaaijenbcfjdlaa
open Go.RowKit Go.PlainAid

set_option maxRecDepth 100000 in
set_option maxHeartbeats 1000000 in
/-- quoted: how many bytes; 0: none. -/
theorem rquoted_any (s : ByteArray) (p : Nat) (hp : p < s.size) (hs : s.size ≤ 1048576) (w : World) :
    Calls Try.prog 28 #[.string s, .int .i64 p] w fun e w' => e = .returned (.int .i64 (if qx s (bt s p) (p + 1) = 0 then 0 else (qx s (bt s p) (p + 1) : Int) - p)) ∧ ∃ n, w' = w.drewN n := by
  obtain ⟨q, hq⟩ : ∃ q, q = bt s p := ⟨_, rfl⟩
  rw [← hq]
  have gq := get_bt s p hp
  rw [← hq] at gq
  clear hq
  obtain ⟨Q, hQ⟩ : ∃ Q, Q = qx s q (p + 1) := ⟨_, rfl⟩
  rw [← hQ]
  have HQ := Lib.hid hQ
  have HG := Lib.hid (get_bt s)
  clear hQ
  obtain ⟨V, hV⟩ : ∃ V : Int, V = if Q = 0 then 0 else (Q : Int) - p := ⟨_, rfl⟩
  rw [← hV]
  have HQ0 : Hid (Q = 0 → 0 = V) := Lib.hid fun h => by rw [hV, if_pos h]
  have HV := Lib.hid hV
  clear hV
  go_enter Try.func28, Try.ntmps28
  go_wp2_with fail
  go_loopg [5] (s.size - (p + 1)) (fun gn i wr => ∃ k : Nat, gn = s.size - k ∧ p < k ∧ k ≤ s.size ∧ i = .int .i64 k ∧ Hid (Q = qx s q k) ∧ Hid (∃ n, wr = w.drewN n))
  case atStart => exact ⟨p + 1, rfl, by omega, by omega, by go_num, HQ, Lib.hid ⟨0, rfl⟩⟩
  case round =>
    obtain ⟨k, hgn, hpk, hk, rfl, HK, HW⟩ := hrel
    obtain ⟨m0, rfl⟩ := HW.out
    by_cases hlt : k < s.size
    · have gk := HG.out k hlt
      have k0 : (k : Int) < (s.size : Int) := by omega
      by_cases hc : bt s k = q
      · have HF : Hid ((k : Int) + 1 - p = V) := Lib.hid (by rw [HV.out, HK.out, qx_hit hlt hc, if_neg (by omega)]; omega)
        rw [hc] at gk
        have hqq : (q != q) = false := by simp
        have k1 : ¬ (s.size : Int) ≤ (k : Int) := by omega
        clear hc
        go_wp2_with fail
        go_quiet (fail)
        go_wp2_with fail
        go_ret
        exact ⟨retI HF.out, _, rfl⟩
      · have hcq : (bt s k != q) = true := by simpa using hc
        by_cases h9 : bt s k = 92
        · have HE := Lib.hid (HK.out.trans (qx_esc hlt hc h9))
          rw [h9] at gk hcq
          clear hc h9
          by_cases hl2 : k + 1 < s.size
          · have HN := Lib.hid (fun W => rnext_in s (k + 1) W hl2 (by unfold maxLen; omega))
            have l1 := nl_pos s (k + 1)
            have l2 := nl_in s (k + 1) hl2
            have l3 := nl_le s (k + 1)
            obtain ⟨c, hc⟩ : ∃ c, c = nc s (k + 1) := ⟨_, rfl⟩
            obtain ⟨l, hl⟩ : ∃ l, l = nl s (k + 1) := ⟨_, rfl⟩
            rw [← hc, ← hl] at HN HE
            rw [← hl] at l1 l2 l3
            have e1 : ((k + 1 : Nat) : Int) = (k : Int) + 1 := by omega
            rw [e1] at HN
            clear hc hl e1
            by_cases c1 : c < 32
            · have HF : Hid (0 = V) := Lib.hid (HQ0.out (by rw [HE.out, if_pos (.inl c1)]))
              go_wp2_with fail
              go_quiet (fail)
              go_wp2_with fail
              refine (HN.out _).mono ?_
              rintro e w' ⟨rfl, m1, rfl⟩
              go_wp2_with fail
              go_ret
              exact ⟨retI HF.out, _, rfl⟩
            · by_cases c2 : c = 127
              · have HF : Hid (0 = V) := Lib.hid (HQ0.out (by rw [HE.out, if_pos (.inr c2)]))
                subst c2
                go_wp2_with fail
                go_quiet (fail)
                go_wp2_with fail
                refine (HN.out _).mono ?_
                rintro e w' ⟨rfl, m1, rfl⟩
                go_wp2_with fail
                go_ret
                exact ⟨retI HF.out, _, rfl⟩
              · have HF : Hid (Q = qx s q (k + 1 + l)) := Lib.hid (by rw [HE.out, if_neg (by omega)])
                have c3 : (c == 127) = false := beq_false_of_ne c2
                clear c2
                go_wp2_with fail
                go_quiet (fail)
                go_wp2_with fail
                refine (HN.out _).mono ?_
                rintro e w' ⟨rfl, m1, rfl⟩
                go_wp2_with fail
                go_roundg (s.size - (k + 1 + l))
                case measure => omega
                case rel => exact ⟨k + 1 + l, rfl, by omega, by omega, by go_num, HF, Lib.hid ⟨_, rfl⟩⟩
          · have HN := Lib.hid (fun W => rnext_out s ((k : Int) + 1) W (.inr (by omega)))
            have HF : Hid (0 = V) := Lib.hid (by
              have : nc s (k + 1) = -1 := by
                unfold nc
                rw [bt_end s (by omega), if_pos]
                exact .inr (by show s.size < k + 1 + 1; omega)
              exact HQ0.out (by rw [HE.out, if_pos (.inl (by rw [this]; decide))]))
            go_wp2_with fail
            go_quiet (fail)
            go_wp2_with fail
            refine (HN.out _).mono ?_
            rintro e w' ⟨rfl, m1, rfl⟩
            go_wp2_with fail
            go_ret
            exact ⟨retI HF.out, _, rfl⟩
        · have HE := Lib.hid (HK.out.trans (qx_pt hlt hc h9))
          have h92 : (bt s k == 92) = false := beq_false_of_ne h9
          have HN := Lib.hid (fun W => rnext_in s k W hlt (by unfold maxLen; omega))
          have l1 := nl_pos s k
          have l2 := nl_in s k hlt
          have l3 := nl_le s k
          obtain ⟨c, hc'⟩ : ∃ c, c = nc s k := ⟨_, rfl⟩
          obtain ⟨l, hl⟩ : ∃ l, l = nl s k := ⟨_, rfl⟩
          rw [← hc', ← hl] at HN HE
          rw [← hl] at l1 l2 l3
          clear hc' hl hc h9
          obtain ⟨d, hd⟩ : ∃ d, d = bt s k := ⟨_, rfl⟩
          rw [← hd] at gk hcq h92
          clear hd
          by_cases c1 : c < 32
          · have HF : Hid (0 = V) := Lib.hid (HQ0.out (by rw [HE.out, if_pos (.inl c1)]))
            go_wp2_with fail
            go_quiet (fail)
            go_wp2_with fail
            refine (HN.out _).mono ?_
            rintro e w' ⟨rfl, m1, rfl⟩
            go_wp2_with fail
            go_ret
            exact ⟨retI HF.out, _, rfl⟩
          · by_cases c2 : c = 127
            · have HF : Hid (0 = V) := Lib.hid (HQ0.out (by rw [HE.out, if_pos (.inr c2)]))
              subst c2
              go_wp2_with fail
              go_quiet (fail)
              go_wp2_with fail
              refine (HN.out _).mono ?_
              rintro e w' ⟨rfl, m1, rfl⟩
              go_wp2_with fail
              go_ret
              exact ⟨retI HF.out, _, rfl⟩
            · have HF : Hid (Q = qx s q (k + l)) := Lib.hid (by rw [HE.out, if_neg (by omega)])
              have c3 : (c == 127) = false := beq_false_of_ne c2
              clear c2
              go_wp2_with fail
              go_quiet (fail)
              go_wp2_with fail
              refine (HN.out _).mono ?_
              rintro e w' ⟨rfl, m1, rfl⟩
              go_wp2_with fail
              go_roundg (s.size - (k + l))
              case measure => omega
              case rel => exact ⟨k + l, rfl, by omega, by omega, by go_num, HF, Lib.hid ⟨_, rfl⟩⟩
    · obtain rfl : k = s.size := by omega
      have HF : Hid (0 = V) := Lib.hid (HQ0.out (by rw [HK.out, qx_end (by omega)]))
      go_wp2_with fail
      go_quiet (fail)
      go_wp2_with fail
      go_ret
      exact ⟨retI HF.out, _, rfl⟩
set_option maxRecDepth 100000 in
set_option maxHeartbeats 1000000 in
/-- char: how many bytes; 0: none. -/
theorem rchar6_any (s : ByteArray) (p : Nat) (hp : p < s.size) (hs : s.size ≤ 1048576) (w : World) :
    Calls Try.prog 29 #[.string s, .int .i64 p] w fun e w' => e = .returned (.int .i64 (if che s p = 0 then 0 else (che s p : Int) - p)) ∧ Below w.heap.size w w' := by
  obtain ⟨V, hV⟩ : ∃ V : Int, V = if che s p = 0 then 0 else (che s p : Int) - p := ⟨_, rfl⟩
  rw [← hV]
  have HV := Lib.hid hV
  clear hV
  have HG := Lib.hid (get_bt s)
  by_cases h1 : p + 1 < s.size
  · have gx := HG.out (p + 1) h1
    have g1 : (p : Int) + 1 < (s.size : Int) := by omega
    by_cases h9 : bt s (p + 1) = 92
    · have HE := Lib.hid (fun W => resc_any s (p + 1) (by omega) W)
      have e1 : ((p + 1 : Nat) : Int) = (p : Int) + 1 := by omega
      rw [e1] at HE
      have hch : che s p = if 0 ≤ (esc s (p + 1)).1 then p + 1 + (esc s (p + 1)).2 else 0 := by unfold che; rw [if_pos ⟨h1, h9⟩]
      have hbd := esc_bd s (p + 1)
      obtain ⟨v, hv⟩ : ∃ v, v = (esc s (p + 1)).1 := ⟨_, rfl⟩
      obtain ⟨l, hl⟩ : ∃ l, l = (esc s (p + 1)).2 := ⟨_, rfl⟩
      rw [← hv, ← hl] at hch HE
      rw [← hl, ← hv] at hbd
      rw [h9] at gx
      clear hv hl h9 e1
      by_cases c1 : 0 ≤ v
      · rw [if_pos c1] at hch
        have HF : Hid ((l : Int) + 1 = V) := Lib.hid (by rw [HV.out, hch, if_neg (by omega)]; omega)
        clear hch
        go_enter Try.func29, Try.ntmps29
        go_wp2_with fail
        refine (HE.out _).mono ?_
        rintro e w' ⟨rfl, hb⟩
        have HB := Lib.hid hb
        clear hb
        go_wp2_with fail
        go_ret
        exact ⟨retI HF.out, HB.out⟩
      · rw [if_neg c1] at hch
        have HF : Hid (0 = V) := Lib.hid (by rw [HV.out, hch, if_pos rfl])
        clear hch
        go_enter Try.func29, Try.ntmps29
        go_wp2_with fail
        refine (HE.out _).mono ?_
        rintro e w' ⟨rfl, hb⟩
        have HB := Lib.hid hb
        clear hb
        go_wp2_with fail
        go_ret
        exact ⟨retI HF.out, HB.out⟩
    · have h92 : (bt s (p + 1) == 92) = false := beq_false_of_ne h9
      have HN := Lib.hid (fun W => rnext_in s (p + 1) W h1 (by unfold maxLen; omega))
      have e1 : ((p + 1 : Nat) : Int) = (p : Int) + 1 := by omega
      rw [e1] at HN
      have hch : che s p = if nc s (p + 1) ≤ 32 ∨ nc s (p + 1) = 127 then 0 else p + 1 + nl s (p + 1) := by unfold che; rw [if_neg (fun g => h9 g.2)]
      have l3 := nl_le s (p + 1)
      obtain ⟨v, hv⟩ : ∃ v, v = nc s (p + 1) := ⟨_, rfl⟩
      obtain ⟨l, hl⟩ : ∃ l, l = nl s (p + 1) := ⟨_, rfl⟩
      rw [← hv, ← hl] at hch HN
      rw [← hl] at l3
      clear hv hl h9 e1
      obtain ⟨d, hd⟩ : ∃ d, d = bt s (p + 1) := ⟨_, rfl⟩
      rw [← hd] at gx h92
      clear hd
      by_cases c1 : v ≤ 32
      · rw [if_pos (.inl c1)] at hch
        have HF : Hid (0 = V) := Lib.hid (by rw [HV.out, hch, if_pos rfl])
        clear hch
        go_enter Try.func29, Try.ntmps29
        go_wp2_with fail
        refine (HN.out _).mono ?_
        rintro e w' ⟨rfl, m, rfl⟩
        go_wp2_with fail
        go_ret
        exact ⟨retI HF.out, drew_below _ _⟩
      · by_cases c2 : v = 127
        · rw [if_pos (.inr c2)] at hch
          have HF : Hid (0 = V) := Lib.hid (by rw [HV.out, hch, if_pos rfl])
          clear hch
          subst c2
          go_enter Try.func29, Try.ntmps29
          go_wp2_with fail
          refine (HN.out _).mono ?_
          rintro e w' ⟨rfl, m, rfl⟩
          go_wp2_with fail
          go_ret
          exact ⟨retI HF.out, drew_below _ _⟩
        · rw [if_neg (by omega)] at hch
          have HF : Hid ((l : Int) + 1 = V) := Lib.hid (by rw [HV.out, hch, if_neg (by omega)]; omega)
          have c3 : (v == 127) = false := beq_false_of_ne c2
          clear hch c2
          go_enter Try.func29, Try.ntmps29
          go_wp2_with fail
          refine (HN.out _).mono ?_
          rintro e w' ⟨rfl, m, rfl⟩
          go_wp2_with fail
          go_ret
          exact ⟨retI HF.out, drew_below _ _⟩
  · have HN := Lib.hid (fun W => rnext_out s ((p : Int) + 1) W (.inr (by omega)))
    have g1 : decide ((p : Int) + 1 < (s.size : Int)) = false := by simp; omega
    have HF : Hid (0 = V) := Lib.hid (by
      have h2 : nc s (p + 1) = -1 := by
        unfold nc
        rw [bt_end s (by omega), if_pos]
        exact .inr (by show s.size < p + 1 + 1; omega)
      have : che s p = 0 := by unfold che; rw [if_neg (fun g => h1 g.1), h2, if_pos (.inl (by decide))]
      rw [HV.out, this, if_pos rfl])
    go_enter Try.func29, Try.ntmps29
    go_wp2_with fail
    refine (HN.out _).mono ?_
    rintro e w' ⟨rfl, m, rfl⟩
    go_wp2_with fail
    go_ret
    exact ⟨retI HF.out, drew_below _ _⟩
end Go.Proofs.Ytaaijenbcfjdlaa
