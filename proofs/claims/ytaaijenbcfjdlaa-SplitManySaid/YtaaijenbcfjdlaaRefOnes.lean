/-
  The document's own One.
-/
import Derived.Test.YtaaijenbcfjdlaaRefNumber
import Derived.Test.YtaaijenbcfjdlaaRefSigns
import Derived.Test.YtaaijenbcfjdlaaRefScanC
/- The walks through the document's own One: comments, points, numbers. -/
namespace Go.Proofs.Ytaaijenbcfjdlaa
open Go.RowKit Go.PlainAid

set_option maxRecDepth 100000 in
set_option maxHeartbeats 1000000 in
theorem rone_com (s : ByteArray) (k : Nat) (hk : k < s.size) (hs : s.size ≤ 1048576) (h : bt s k = 37) (w : World) :
    Calls Try.prog 16 #[.string s, .int .i64 k] w fun e w' => e = .returned (tokV s k (one s k)) ∧ Below w.heap.size w w' := by
  obtain ⟨V, hV⟩ : ∃ V, V = tokV s k (one s k) := ⟨_, rfl⟩
  rw [← hV]
  have hbd6 := fun (k : Int) (t : ByteArray) (a : Int) (W : World) => build_tok6 k t a W
  have hbd0 := fun (W : World) => build_tok0 W
  have hsd := set_drewN
  have g0 : ¬ (k : Int) < 0 := by omega
  have g1 : ¬ (s.size : Int) ≤ (k : Int) := by omega
  have gx := get_bt s k hk
  have hix := ix_spec s 10 _ k (Nat.le_refl _) (by omega)
  rw [one_37 h] at hV
  obtain ⟨E, hE⟩ : ∃ E, E = ix s 10 k := ⟨_, rfl⟩
  rw [← hE] at hV hix
  have hT := trim_ext (s := s) (a := k) (E := E) hix.1 hix.2.1
  have HT := Lib.hid (fun W => rtrim_any (s.extract k E) (by rw [size_ext s k E hix.2.1]; omega) W)
  rw [hT] at HT
  have HF : Hid (.tuple #[.agg #[.int .i64 11, .string (s.extract k (tr s k E)), .int .i64 k], .int .i64 0] = V) := Lib.hid (by rw [hV]; rfl)
  obtain ⟨X, hX⟩ : ∃ X, X = s.extract k (tr s k E) := ⟨_, rfl⟩
  rw [← hX] at HF HT
  have HE := Lib.hid hE
  have HG := Lib.hid (get_bt s)
  have hEs := hix.2.1
  have hkE := hix.1
  rw [h] at gx
  clear hX hE hT hix hV h
  go_enter Try.func16, Try.ntmps16
  go_wp2_with fail
  go_loopg [9] (s.size - k) (fun gn i wr => ∃ j : Nat, gn = s.size - j ∧ k ≤ j ∧ j ≤ s.size ∧ i = .int .i64 j ∧ wr = (w.alloc (.cells #[.int .i64 0, .string ⟨#[]⟩, .int .i64 0] 34)) ∧ Hid (E = ix s 10 j))
  case atStart => exact ⟨k, rfl, Nat.le_refl _, by omega, rfl, rfl, HE⟩
  case round =>
    obtain ⟨j, hgn, hkj, hj, rfl, rfl, HJ⟩ := hrel
    by_cases hlt : j < s.size
    · have gj := HG.out j hlt
      have jl : (j : Int) < (s.size : Int) := by omega
      by_cases hc : bt s j = 10
      · obtain rfl : E = j := by rw [HJ.out, ix, dif_pos hlt, if_pos hc]
        rw [hc] at gj
        clear hc
        have kj : (k : Int) ≤ (E : Int) := by omega
        have js : (E : Int) ≤ (s.size : Int) := by omega
        go_wp2_with fail
        refine (HT.out _).mono ?_
        rintro e w' ⟨rfl, rfl⟩
        go_wp2_with fail
        refine bodyPost_ret (v := .tuple #[.agg #[.int .i64 11, .string (X), .int .i64 k], .int .i64 0]) (by simp [results, Try.results16, go_sem]) rfl ⟨congrArg Ending.returned HF.out, below1 _ _⟩
      · have HF2 : Hid (E = ix s 10 (j + 1)) := Lib.hid (by rw [HJ.out, ix, dif_pos hlt, if_neg hc])
        have hcn : (bt s j != 10) = true := by simpa using hc
        obtain ⟨d, hd⟩ : ∃ d, d = bt s j := ⟨_, rfl⟩
        rw [← hd] at gj hcn
        clear hd hc
        go_wp2_with fail
        go_roundg (s.size - (j + 1))
        case measure => omega
        case rel => exact ⟨j + 1, rfl, by omega, hlt, by go_num, rfl, HF2⟩
    · obtain rfl : j = s.size := by omega
      obtain rfl : E = s.size := by rw [HJ.out, ix, dif_neg hlt]
      have kj : (k : Int) ≤ (s.size : Int) := by omega
      go_wp2_with fail
      refine (HT.out _).mono ?_
      rintro e w' ⟨rfl, rfl⟩
      go_wp2_with fail
      refine bodyPost_ret (v := .tuple #[.agg #[.int .i64 11, .string (X), .int .i64 k], .int .i64 0]) (by simp [results, Try.results16, go_sem]) rfl ⟨congrArg Ending.returned HF.out, below1 _ _⟩
set_option maxRecDepth 100000 in
set_option maxHeartbeats 1000000 in
theorem rone_dot (s : ByteArray) (k : Nat) (hk : k < s.size) (hs : s.size ≤ 1048576) (h : bt s k = 46) (h2 : k + 1 = s.size ∨ bt s (k + 1) = 37 ∨ k + 1 < fw bl s (k + 1)) (w : World) :
    Calls Try.prog 16 #[.string s, .int .i64 k] w fun e w' => e = .returned (tokV s k (one s k)) ∧ Below w.heap.size w w' := by
  obtain ⟨V, hV⟩ : ∃ V, V = tokV s k (one s k) := ⟨_, rfl⟩
  rw [← hV]
  have hbd6 := fun (k : Int) (t : ByteArray) (a : Int) (W : World) => build_tok6 k t a W
  have hbd0 := fun (W : World) => build_tok0 W
  have hsd := set_drewN
  have g0 : ¬ (k : Int) < 0 := by omega
  have g1 : ¬ (s.size : Int) ≤ (k : Int) := by omega
  have gx := get_bt s k hk
  rw [one_dot h h2] at hV
  have HF : Hid (.tuple #[.agg #[.int .i64 10, .string (s.extract k (k + 1)), .int .i64 k], .int .i64 0] = V) := Lib.hid (by rw [hV]; rfl)
  rw [h] at gx
  clear hV h
  have kl : (k : Int) + 1 ≤ (s.size : Int) := by omega
  by_cases c1 : k + 1 = s.size
  · have c1' : ((k : Int) + 1 == (s.size : Int)) = true := beq_iff_eq.2 (by omega)
    clear h2 c1
    go_enter Try.func16, Try.ntmps16
    go_wp2_with fail
    refine bodyPost_ret (v := .tuple #[.agg #[.int .i64 10, .string (s.extract k (k + 1)), .int .i64 k], .int .i64 0]) (by simp [results, Try.results16, go_sem]) rfl ⟨congrArg Ending.returned HF.out, below1 _ _⟩
  have c1' : ((k : Int) + 1 == (s.size : Int)) = false := beq_false_of_ne (by omega)
  have kl3 : k + 1 < s.size := by omega
  have gy := get_bt s (k + 1) kl3
  have kl2 : (k : Int) + 1 < (s.size : Int) := by omega
  by_cases c2 : bt s (k + 1) = 37
  · rw [c2] at gy
    clear h2 c2
    go_enter Try.func16, Try.ntmps16
    go_wp2_with fail
    refine bodyPost_ret (v := .tuple #[.agg #[.int .i64 10, .string (s.extract k (k + 1)), .int .i64 k], .int .i64 0]) (by simp [results, Try.results16, go_sem]) rfl ⟨congrArg Ending.returned HF.out, below1 _ _⟩
  have h3 : k + 1 < fw bl s (k + 1) := by rcases h2 with g | g | g; exact absurd g c1; exact absurd g c2; exact g
  have HB := Lib.hid (fun W => rblank_any s (k + 1) (by omega) hs W)
  have c2' : (bt s (k + 1) == 37) = false := beq_false_of_ne c2
  rw [show ((k + 1 : Nat) : Int) = (k : Int) + 1 by omega] at HB
  obtain ⟨d, hd⟩ : ∃ d, d = bt s (k + 1) := ⟨_, rfl⟩
  rw [← hd] at gy c2'
  obtain ⟨E, hE⟩ : ∃ E, E = fw bl s (k + 1) := ⟨_, rfl⟩
  rw [← hE] at HB h3
  have h3' : (k : Int) + 1 < (E : Int) := by omega
  clear hd hE h2 c2 c1
  go_enter Try.func16, Try.ntmps16
  go_wp2_with fail
  refine (HB.out _).mono ?_
  rintro e w' ⟨rfl, rfl⟩
  go_wp2_with fail
  refine bodyPost_ret (v := .tuple #[.agg #[.int .i64 10, .string (s.extract k (k + 1)), .int .i64 k], .int .i64 0]) (by simp [results, Try.results16, go_sem]) rfl ⟨congrArg Ending.returned HF.out, below1 _ _⟩
set_option maxRecDepth 100000 in
set_option maxHeartbeats 1000000 in
theorem rone_num (s : ByteArray) (k : Nat) (hk : k < s.size) (hs : s.size ≤ 1048576) (h : beg (bt s k) = 3) (w : World) :
    Calls Try.prog 16 #[.string s, .int .i64 k] w fun e w' => e = .returned (tokV s k (one s k)) ∧ Below w.heap.size w w' := by
  obtain ⟨V, hV⟩ : ∃ V, V = tokV s k (one s k) := ⟨_, rfl⟩
  rw [← hV]
  have hbd6 := fun (k : Int) (t : ByteArray) (a : Int) (W : World) => build_tok6 k t a W
  have hbd0 := fun (W : World) => build_tok0 W
  have hsd := set_drewN
  have g0 : ¬ (k : Int) < 0 := by omega
  have g1 : ¬ (s.size : Int) ≤ (k : Int) := by omega
  have gx := get_bt s k hk
  have HB := Lib.hid (fun W => rbegins_any (bt s k) W)
  rw [h] at HB
  have HN := Lib.hid (fun W => rnumber_any s k hk hs W)
  rw [one_num h] at hV
  have c37 : (bt s k == 37) = false := beq_false_of_ne (fun e => by rw [e] at h; exact absurd h (by decide))
  have c46 : (bt s k == 46) = false := beq_false_of_ne (fun e => by rw [e] at h; exact absurd h (by decide))
  obtain ⟨c, hc⟩ : ∃ c, c = bt s k := ⟨_, rfl⟩
  rw [← hc] at gx c37 c46 HB
  clear hc h
  by_cases h0 : (num s k).1 = 0
  · rw [tokV_no s k h0] at hV
    have HN2 : Hid (∀ W, Calls Try.prog 25 #[.string s, .int .i64 k] W fun e w' => e = .returned (.tuple #[.agg #[.int .i64 0, .string ⟨#[]⟩, .int .i64 0], .int .i64 4]) ∧ Below W.heap.size W w') := Lib.hid fun W => by have := HN.out W; rw [tokV_no s k h0] at this; exact this
    have HF := Lib.hid hV.symm
    clear HN hV h0
    go_enter Try.func16, Try.ntmps16
    go_wp2_with fail
    refine (HB.out _).mono ?_
    rintro e w' ⟨rfl, rfl⟩
    go_wp2_with fail
    refine (HN2.out _).mono ?_
    rintro e w1 ⟨rfl, hb1⟩
    have HR := Lib.hid (row_of (hb1.mono (by simp)))
    have HB1 := Lib.hid ((below1 w _).trans (hb1.mono (by simp)))
    clear hb1
    have q0 := cell_of_row w1 _ 0 _ _ _ HR.out
    have q1 := cell_of_row w1 _ 1 _ _ _ HR.out
    have q2 := cell_of_row w1 _ 2 _ _ _ HR.out
    simp only [List.getElem?_toArray, List.getElem?_cons_zero, List.getElem?_cons_succ] at q0 q1 q2
    have f0 := frz_of HR.out 0
    have f1 := frz_of HR.out 1
    have f2 := frz_of HR.out 2
    go_wp2_with fail
    refine bodyPost_ret (v := .tuple #[.agg #[.int .i64 0, .string ⟨#[]⟩, .int .i64 0], .int .i64 4]) (by simp [results, Try.results16, go_sem, q0, q1, q2]) rfl ⟨congrArg Ending.returned HF.out, bel3 HB1.out _ _ _⟩
  · rw [tokV_ok s k h0] at hV
    have HN2 : Hid (∀ W, Calls Try.prog 25 #[.string s, .int .i64 k] W fun e w' => e = .returned (.tuple #[.agg #[.int .i64 (num s k).1, .string (s.extract k (num s k).2), .int .i64 k], .int .i64 0]) ∧ Below W.heap.size W w') := Lib.hid fun W => by have := HN.out W; rw [tokV_ok s k h0] at this; exact this
    have HF := Lib.hid hV.symm
    obtain ⟨kd, hkd⟩ : ∃ kd, kd = (num s k).1 := ⟨_, rfl⟩
    obtain ⟨X, hX⟩ : ∃ X, X = s.extract k (num s k).2 := ⟨_, rfl⟩
    rw [← hkd, ← hX] at HN2 HF
    clear HN hV h0 hkd hX
    go_enter Try.func16, Try.ntmps16
    go_wp2_with fail
    refine (HB.out _).mono ?_
    rintro e w' ⟨rfl, rfl⟩
    go_wp2_with fail
    refine (HN2.out _).mono ?_
    rintro e w1 ⟨rfl, hb1⟩
    have HR := Lib.hid (row_of (hb1.mono (by simp)))
    have HB1 := Lib.hid ((below1 w _).trans (hb1.mono (by simp)))
    clear hb1
    have q0 := cell_of_row w1 _ 0 _ _ _ HR.out
    have q1 := cell_of_row w1 _ 1 _ _ _ HR.out
    have q2 := cell_of_row w1 _ 2 _ _ _ HR.out
    simp only [List.getElem?_toArray, List.getElem?_cons_zero, List.getElem?_cons_succ] at q0 q1 q2
    have f0 := frz_of HR.out 0
    have f1 := frz_of HR.out 1
    have f2 := frz_of HR.out 2
    go_wp2_with fail
    refine bodyPost_ret (v := .tuple #[.agg #[.int .i64 kd, .string (X), .int .i64 k], .int .i64 0]) (by simp [results, Try.results16, go_sem, q0, q1, q2]) rfl ⟨congrArg Ending.returned HF.out, bel3 HB1.out _ _ _⟩
end Go.Proofs.Ytaaijenbcfjdlaa
/- The walks through the document's own One: names, quoted ones, chars. -/
namespace Go.Proofs.Ytaaijenbcfjdlaa
open Go.RowKit Go.PlainAid

set_option maxRecDepth 100000 in
set_option maxHeartbeats 1000000 in
theorem rone_name (s : ByteArray) (k : Nat) (hk : k < s.size) (hs : s.size ≤ 1048576) (h3 : beg (bt s k) ≠ 3) (h0 : 0 < beg (bt s k)) (w : World) :
    Calls Try.prog 16 #[.string s, .int .i64 k] w fun e w' => e = .returned (tokV s k (one s k)) ∧ Below w.heap.size w w' := by
  obtain ⟨V, hV⟩ : ∃ V, V = tokV s k (one s k) := ⟨_, rfl⟩
  rw [← hV]
  have hbd6 := fun (k : Int) (t : ByteArray) (a : Int) (W : World) => build_tok6 k t a W
  have hbd0 := fun (W : World) => build_tok0 W
  have hsd := set_drewN
  have g0 : ¬ (k : Int) < 0 := by omega
  have g1 : ¬ (s.size : Int) ≤ (k : Int) := by omega
  have gx := get_bt s k hk
  have HB := Lib.hid (fun W => rbegins_any (bt s k) W)
  have HI := Lib.hid (fun W => rinner6_any s k (by omega) hs W)
  rw [one_name h3 h0] at hV
  have hlt : k < fw inn s k := fw_lt.2 ⟨hk, inn_of_beg h0⟩
  have hle := fw_le inn s k (by omega)
  obtain ⟨N, hN⟩ : ∃ N, fw inn s k = k + N := ⟨fw inn s k - k, by omega⟩
  rw [hN] at hV HI hlt hle
  have HRS := Lib.hid (fun W => rreserved_any (s.extract k (k + N)) W)
  have c37 : (bt s k == 37) = false := beq_false_of_ne (fun e => by rw [e] at h0; exact absurd h0 (by decide))
  have c46 : (bt s k == 46) = false := beq_false_of_ne (fun e => by rw [e] at h0; exact absurd h0 (by decide))
  have hbr := beg_range (bt s k)
  have b3 : (beg (bt s k) == 3) = false := beq_false_of_ne h3
  obtain ⟨v, hv⟩ : ∃ v, v = beg (bt s k) := ⟨_, rfl⟩
  rw [← hv] at HB hV b3 h0 hbr
  obtain ⟨c, hc⟩ : ∃ c, c = bt s k := ⟨_, rfl⟩
  rw [← hc] at gx c37 c46 HB
  rw [show ((k + N : Nat) : Int) = (k : Int) + (N : Int) by omega] at HI
  have N0 : ((N : Int) == 0) = false := beq_false_of_ne (by omega)
  have k2 : (k : Int) ≤ (k : Int) + (N : Int) := by omega
  have k3 : (k : Int) + (N : Int) ≤ (s.size : Int) := by omega
  clear hc hv hN hlt h3
  cases hr : rs (s.extract k (k + N))
  · have HF : Hid (.tuple #[.agg #[.int .i64 v, .string (s.extract k (k + N)), .int .i64 k], .int .i64 0] = V) := Lib.hid (by rw [hV, hr, if_neg Bool.false_ne_true, tokV_ok s k (by show v ≠ 0; omega)])
    rw [hr] at HRS
    clear hV hr
    go_enter Try.func16, Try.ntmps16
    go_wp2_with fail
    refine (HB.out _).mono ?_
    rintro e w' ⟨rfl, rfl⟩
    go_wp2_with fail
    refine (HB.out _).mono ?_
    rintro e w' ⟨rfl, rfl⟩
    go_wp2_with fail
    refine (HB.out _).mono ?_
    rintro e w' ⟨rfl, rfl⟩
    go_wp2_with fail
    refine (HI.out _).mono ?_
    rintro e w' ⟨rfl, rfl⟩
    go_wp2_with fail
    refine (HRS.out _).mono ?_
    rintro e w1 ⟨rfl, hb1⟩
    have HR := Lib.hid (row_of (hb1.mono (by simp)))
    have HB1 := Lib.hid ((below1 w _).trans (hb1.mono (by simp)))
    clear hb1
    have q0 := cell_of_row w1 _ 0 _ _ _ HR.out
    have q1 := cell_of_row w1 _ 1 _ _ _ HR.out
    have q2 := cell_of_row w1 _ 2 _ _ _ HR.out
    simp only [List.getElem?_toArray, List.getElem?_cons_zero, List.getElem?_cons_succ] at q0 q1 q2
    have f0 := frz_of HR.out 0
    have f1 := frz_of HR.out 1
    have f2 := frz_of HR.out 2
    go_wp2_with fail
    refine bodyPost_ret (v := .tuple #[.agg #[.int .i64 v, .string (s.extract k (k + N)), .int .i64 k], .int .i64 0]) (by simp [results, Try.results16, go_sem, q0, q1, q2]) rfl ⟨congrArg Ending.returned HF.out, bel3 HB1.out _ _ _⟩
  · have HF : Hid (.tuple #[.agg #[.int .i64 8, .string (s.extract k (k + N)), .int .i64 k], .int .i64 0] = V) := Lib.hid (by rw [hV, hr, if_pos rfl, tokV_ok s k (by show (8 : Int) ≠ 0; omega)])
    rw [hr] at HRS
    clear hV hr
    go_enter Try.func16, Try.ntmps16
    go_wp2_with fail
    refine (HB.out _).mono ?_
    rintro e w' ⟨rfl, rfl⟩
    go_wp2_with fail
    refine (HB.out _).mono ?_
    rintro e w' ⟨rfl, rfl⟩
    go_wp2_with fail
    refine (HB.out _).mono ?_
    rintro e w' ⟨rfl, rfl⟩
    go_wp2_with fail
    refine (HI.out _).mono ?_
    rintro e w' ⟨rfl, rfl⟩
    go_wp2_with fail
    refine (HRS.out _).mono ?_
    rintro e w1 ⟨rfl, hb1⟩
    have HR := Lib.hid (row_of (hb1.mono (by simp)))
    have HB1 := Lib.hid ((below1 w _).trans (hb1.mono (by simp)))
    clear hb1
    have q0 := cell_of_row w1 _ 0 _ _ _ HR.out
    have q1 := cell_of_row w1 _ 1 _ _ _ HR.out
    have q2 := cell_of_row w1 _ 2 _ _ _ HR.out
    simp only [List.getElem?_toArray, List.getElem?_cons_zero, List.getElem?_cons_succ] at q0 q1 q2
    have f0 := frz_of HR.out 0
    have f1 := frz_of HR.out 1
    have f2 := frz_of HR.out 2
    go_wp2_with fail
    refine bodyPost_ret (v := .tuple #[.agg #[.int .i64 8, .string (s.extract k (k + N)), .int .i64 k], .int .i64 0]) (by simp [results, Try.results16, go_sem, q0, q1, q2]) rfl ⟨congrArg Ending.returned HF.out, bel3 HB1.out _ _ _⟩
set_option maxRecDepth 100000 in
set_option maxHeartbeats 1000000 in
theorem rone_39 (s : ByteArray) (k : Nat) (hk : k < s.size) (hs : s.size ≤ 1048576) (h : bt s k = 39) (w : World) :
    Calls Try.prog 16 #[.string s, .int .i64 k] w fun e w' => e = .returned (tokV s k (one s k)) ∧ Below w.heap.size w w' := by
  obtain ⟨V, hV⟩ : ∃ V, V = tokV s k (one s k) := ⟨_, rfl⟩
  rw [← hV]
  have hbd6 := fun (k : Int) (t : ByteArray) (a : Int) (W : World) => build_tok6 k t a W
  have hbd0 := fun (W : World) => build_tok0 W
  have hsd := set_drewN
  have g0 : ¬ (k : Int) < 0 := by omega
  have g1 : ¬ (s.size : Int) ≤ (k : Int) := by omega
  have gx := get_bt s k hk
  have HQ := Lib.hid (fun W => rquoted_any s k hk hs W)
  have HB := Lib.hid (fun W => rbegins_any 39 W)
  rw [show beg 39 = 0 by decide] at HB
  rw [one_39 h] at hV
  rw [h] at gx HQ
  have hbd := qx_bd s 39 _ (k + 1) (Nat.le_refl _)
  clear h
  by_cases h0 : qx s 39 (k + 1) = 0
  · have HF : Hid (.tuple #[.agg #[.int .i64 0, .string ⟨#[]⟩, .int .i64 0], .int .i64 4] = V) := Lib.hid (by rw [hV, h0]; rfl)
    have HQ2 : Hid (∀ W, Calls Try.prog 28 #[.string s, .int .i64 k] W fun e w' => e = .returned (.int .i64 0) ∧ ∃ n, w' = W.drewN n) := Lib.hid fun W => by have := HQ.out W; rw [if_pos h0] at this; exact this
    clear HQ hV h0 hbd
    go_enter Try.func16, Try.ntmps16
    go_wp2_with fail
    refine (HB.out _).mono ?_
    rintro e w' ⟨rfl, rfl⟩
    go_wp2_with fail
    refine (HB.out _).mono ?_
    rintro e w' ⟨rfl, rfl⟩
    go_wp2_with fail
    refine (HQ2.out _).mono ?_
    rintro e w' ⟨rfl, q1, rfl⟩
    go_wp2_with fail
    refine bodyPost_ret (v := .tuple #[.agg #[.int .i64 0, .string ⟨#[]⟩, .int .i64 0], .int .i64 4]) (by simp [results, Try.results16, go_sem]) rfl ⟨congrArg Ending.returned HF.out, bel1q _ _ _⟩
  · obtain ⟨N, hN⟩ : ∃ N, qx s 39 (k + 1) = k + N := ⟨qx s 39 (k + 1) - k, by omega⟩
    have HF : Hid (.tuple #[.agg #[.int .i64 1, .string (s.extract k (k + N)), .int .i64 k], .int .i64 0] = V) := Lib.hid (by rw [hV, hN]; unfold tk; rw [if_neg (by omega), tokV_ok s k (by show (1 : Int) ≠ 0; omega)])
    have HQ2 : Hid (∀ W, Calls Try.prog 28 #[.string s, .int .i64 k] W fun e w' => e = .returned (.int .i64 N) ∧ ∃ n, w' = W.drewN n) := Lib.hid fun W => by have := HQ.out W; rw [if_neg h0, hN, show ((k + N : Nat) : Int) - (k : Int) = (N : Int) by omega] at this; exact this
    have N0 : ((N : Int) == 0) = false := beq_false_of_ne (by omega)
    have k2 : (k : Int) ≤ (k : Int) + (N : Int) := by omega
    have k3 : (k : Int) + (N : Int) ≤ (s.size : Int) := by omega
    clear HQ hV h0 hbd hN
    go_enter Try.func16, Try.ntmps16
    go_wp2_with fail
    refine (HB.out _).mono ?_
    rintro e w' ⟨rfl, rfl⟩
    go_wp2_with fail
    refine (HB.out _).mono ?_
    rintro e w' ⟨rfl, rfl⟩
    go_wp2_with fail
    refine (HQ2.out _).mono ?_
    rintro e w' ⟨rfl, q1, rfl⟩
    go_wp2_with fail
    refine bodyPost_ret (v := .tuple #[.agg #[.int .i64 1, .string (s.extract k (k + N)), .int .i64 k], .int .i64 0]) (by simp [results, Try.results16, go_sem]) rfl ⟨congrArg Ending.returned HF.out, bel1q _ _ _⟩
set_option maxRecDepth 100000 in
set_option maxHeartbeats 1000000 in
theorem rone_34 (s : ByteArray) (k : Nat) (hk : k < s.size) (hs : s.size ≤ 1048576) (h : bt s k = 34) (w : World) :
    Calls Try.prog 16 #[.string s, .int .i64 k] w fun e w' => e = .returned (tokV s k (one s k)) ∧ Below w.heap.size w w' := by
  obtain ⟨V, hV⟩ : ∃ V, V = tokV s k (one s k) := ⟨_, rfl⟩
  rw [← hV]
  have hbd6 := fun (k : Int) (t : ByteArray) (a : Int) (W : World) => build_tok6 k t a W
  have hbd0 := fun (W : World) => build_tok0 W
  have hsd := set_drewN
  have g0 : ¬ (k : Int) < 0 := by omega
  have g1 : ¬ (s.size : Int) ≤ (k : Int) := by omega
  have gx := get_bt s k hk
  have HQ := Lib.hid (fun W => rquoted_any s k hk hs W)
  have HB := Lib.hid (fun W => rbegins_any 34 W)
  rw [show beg 34 = 0 by decide] at HB
  rw [one_34 h] at hV
  rw [h] at gx HQ
  have hbd := qx_bd s 34 _ (k + 1) (Nat.le_refl _)
  clear h
  by_cases h0 : qx s 34 (k + 1) = 0
  · have HF : Hid (.tuple #[.agg #[.int .i64 0, .string ⟨#[]⟩, .int .i64 0], .int .i64 4] = V) := Lib.hid (by rw [hV, h0]; rfl)
    have HQ2 : Hid (∀ W, Calls Try.prog 28 #[.string s, .int .i64 k] W fun e w' => e = .returned (.int .i64 0) ∧ ∃ n, w' = W.drewN n) := Lib.hid fun W => by have := HQ.out W; rw [if_pos h0] at this; exact this
    clear HQ hV h0 hbd
    go_enter Try.func16, Try.ntmps16
    go_wp2_with fail
    refine (HB.out _).mono ?_
    rintro e w' ⟨rfl, rfl⟩
    go_wp2_with fail
    refine (HB.out _).mono ?_
    rintro e w' ⟨rfl, rfl⟩
    go_wp2_with fail
    refine (HQ2.out _).mono ?_
    rintro e w' ⟨rfl, q1, rfl⟩
    go_wp2_with fail
    refine bodyPost_ret (v := .tuple #[.agg #[.int .i64 0, .string ⟨#[]⟩, .int .i64 0], .int .i64 4]) (by simp [results, Try.results16, go_sem]) rfl ⟨congrArg Ending.returned HF.out, bel1q _ _ _⟩
  · obtain ⟨N, hN⟩ : ∃ N, qx s 34 (k + 1) = k + N := ⟨qx s 34 (k + 1) - k, by omega⟩
    have HF : Hid (.tuple #[.agg #[.int .i64 6, .string (s.extract k (k + N)), .int .i64 k], .int .i64 0] = V) := Lib.hid (by rw [hV, hN]; unfold tk; rw [if_neg (by omega), tokV_ok s k (by show (6 : Int) ≠ 0; omega)])
    have HQ2 : Hid (∀ W, Calls Try.prog 28 #[.string s, .int .i64 k] W fun e w' => e = .returned (.int .i64 N) ∧ ∃ n, w' = W.drewN n) := Lib.hid fun W => by have := HQ.out W; rw [if_neg h0, hN, show ((k + N : Nat) : Int) - (k : Int) = (N : Int) by omega] at this; exact this
    have N0 : ((N : Int) == 0) = false := beq_false_of_ne (by omega)
    have k2 : (k : Int) ≤ (k : Int) + (N : Int) := by omega
    have k3 : (k : Int) + (N : Int) ≤ (s.size : Int) := by omega
    clear HQ hV h0 hbd hN
    go_enter Try.func16, Try.ntmps16
    go_wp2_with fail
    refine (HB.out _).mono ?_
    rintro e w' ⟨rfl, rfl⟩
    go_wp2_with fail
    refine (HB.out _).mono ?_
    rintro e w' ⟨rfl, rfl⟩
    go_wp2_with fail
    refine (HQ2.out _).mono ?_
    rintro e w' ⟨rfl, q1, rfl⟩
    go_wp2_with fail
    refine bodyPost_ret (v := .tuple #[.agg #[.int .i64 6, .string (s.extract k (k + N)), .int .i64 k], .int .i64 0]) (by simp [results, Try.results16, go_sem]) rfl ⟨congrArg Ending.returned HF.out, bel1q _ _ _⟩
set_option maxRecDepth 100000 in
set_option maxHeartbeats 1000000 in
theorem rone_36 (s : ByteArray) (k : Nat) (hk : k < s.size) (hs : s.size ≤ 1048576) (h : bt s k = 36) (w : World) :
    Calls Try.prog 16 #[.string s, .int .i64 k] w fun e w' => e = .returned (tokV s k (one s k)) ∧ Below w.heap.size w w' := by
  obtain ⟨V, hV⟩ : ∃ V, V = tokV s k (one s k) := ⟨_, rfl⟩
  rw [← hV]
  have hbd6 := fun (k : Int) (t : ByteArray) (a : Int) (W : World) => build_tok6 k t a W
  have hbd0 := fun (W : World) => build_tok0 W
  have hsd := set_drewN
  have g0 : ¬ (k : Int) < 0 := by omega
  have g1 : ¬ (s.size : Int) ≤ (k : Int) := by omega
  have gx := get_bt s k hk
  have HQ := Lib.hid (fun W => rchar6_any s k hk hs W)
  have HB := Lib.hid (fun W => rbegins_any 36 W)
  rw [show beg 36 = 0 by decide] at HB
  have h1 : (one s k).1 ≠ 0 → k < (one s k).2 ∧ (one s k).2 ≤ s.size := one_bd hk
  rw [one_36 h] at hV h1
  rw [h] at gx
  clear h
  by_cases h0 : che s k = 0
  · have HF : Hid (.tuple #[.agg #[.int .i64 0, .string ⟨#[]⟩, .int .i64 0], .int .i64 4] = V) := Lib.hid (by rw [hV, h0]; rfl)
    have HQ2 : Hid (∀ W, Calls Try.prog 29 #[.string s, .int .i64 k] W fun e w' => e = .returned (.int .i64 0) ∧ Below W.heap.size W w') := Lib.hid fun W => by have := HQ.out W; rw [if_pos h0] at this; exact this
    clear HQ hV h0 h1
    go_enter Try.func16, Try.ntmps16
    go_wp2_with fail
    refine (HB.out _).mono ?_
    rintro e w' ⟨rfl, rfl⟩
    go_wp2_with fail
    refine (HB.out _).mono ?_
    rintro e w' ⟨rfl, rfl⟩
    go_wp2_with fail
    refine (HQ2.out _).mono ?_
    rintro e w1 ⟨rfl, hb1⟩
    have HR := Lib.hid (row_of (hb1.mono (by simp)))
    have HB1 := Lib.hid ((below1 w _).trans (hb1.mono (by simp)))
    clear hb1
    have q0 := cell_of_row w1 _ 0 _ _ _ HR.out
    have q1 := cell_of_row w1 _ 1 _ _ _ HR.out
    have q2 := cell_of_row w1 _ 2 _ _ _ HR.out
    simp only [List.getElem?_toArray, List.getElem?_cons_zero, List.getElem?_cons_succ] at q0 q1 q2
    have f0 := frz_of HR.out 0
    have f1 := frz_of HR.out 1
    have f2 := frz_of HR.out 2
    go_wp2_with fail
    refine bodyPost_ret (v := .tuple #[.agg #[.int .i64 0, .string ⟨#[]⟩, .int .i64 0], .int .i64 4]) (by simp [results, Try.results16, go_sem, q0, q1, q2]) rfl ⟨congrArg Ending.returned HF.out, bel3 HB1.out _ _ _⟩
  · have h2 : k < che s k ∧ che s k ≤ s.size := by
      have ht : tk 5 (che s k) = (5, che s k) := by unfold tk; rw [if_neg h0]
      rw [ht] at h1
      exact h1 (by show (5 : Int) ≠ 0; omega)
    obtain ⟨N, hN⟩ : ∃ N, che s k = k + N := ⟨che s k - k, by omega⟩
    have HF : Hid (.tuple #[.agg #[.int .i64 5, .string (s.extract k (k + N)), .int .i64 k], .int .i64 0] = V) := Lib.hid (by rw [hV, hN]; unfold tk; rw [if_neg (by omega), tokV_ok s k (by show (5 : Int) ≠ 0; omega)])
    have HQ2 : Hid (∀ W, Calls Try.prog 29 #[.string s, .int .i64 k] W fun e w' => e = .returned (.int .i64 N) ∧ Below W.heap.size W w') := Lib.hid fun W => by have := HQ.out W; rw [if_neg h0, hN, show ((k + N : Nat) : Int) - (k : Int) = (N : Int) by omega] at this; exact this
    have N0 : ((N : Int) == 0) = false := beq_false_of_ne (by omega)
    have k2 : (k : Int) ≤ (k : Int) + (N : Int) := by omega
    have k3 : (k : Int) + (N : Int) ≤ (s.size : Int) := by omega
    clear HQ hV h0 h1 h2 hN
    go_enter Try.func16, Try.ntmps16
    go_wp2_with fail
    refine (HB.out _).mono ?_
    rintro e w' ⟨rfl, rfl⟩
    go_wp2_with fail
    refine (HB.out _).mono ?_
    rintro e w' ⟨rfl, rfl⟩
    go_wp2_with fail
    refine (HQ2.out _).mono ?_
    rintro e w1 ⟨rfl, hb1⟩
    have HR := Lib.hid (row_of (hb1.mono (by simp)))
    have HB1 := Lib.hid ((below1 w _).trans (hb1.mono (by simp)))
    clear hb1
    have q0 := cell_of_row w1 _ 0 _ _ _ HR.out
    have q1 := cell_of_row w1 _ 1 _ _ _ HR.out
    have q2 := cell_of_row w1 _ 2 _ _ _ HR.out
    simp only [List.getElem?_toArray, List.getElem?_cons_zero, List.getElem?_cons_succ] at q0 q1 q2
    have f0 := frz_of HR.out 0
    have f1 := frz_of HR.out 1
    have f2 := frz_of HR.out 2
    go_wp2_with fail
    refine bodyPost_ret (v := .tuple #[.agg #[.int .i64 5, .string (s.extract k (k + N)), .int .i64 k], .int .i64 0]) (by simp [results, Try.results16, go_sem, q0, q1, q2]) rfl ⟨congrArg Ending.returned HF.out, bel3 HB1.out _ _ _⟩
end Go.Proofs.Ytaaijenbcfjdlaa
/- The walks through the document's own One: macros, signs. -/
namespace Go.Proofs.Ytaaijenbcfjdlaa
open Go.RowKit Go.PlainAid

set_option maxRecDepth 100000 in
set_option maxHeartbeats 1000000 in
theorem rone_sign (s : ByteArray) (k : Nat) (hk : k < s.size) (hs : s.size ≤ 1048576) (h1 : bt s k ≠ 37) (h2 : bt s k ≠ 46) (hbz : beg (bt s k) = 0) (h4 : bt s k ≠ 39) (h5 : bt s k ≠ 34) (h6 : bt s k ≠ 36) (h7 : bt s k ≠ 63) (w : World) :
    Calls Try.prog 16 #[.string s, .int .i64 k] w fun e w' => e = .returned (tokV s k (one s k)) ∧ Below w.heap.size w w' := by
  obtain ⟨V, hV⟩ : ∃ V, V = tokV s k (one s k) := ⟨_, rfl⟩
  rw [← hV]
  have hbd6 := fun (k : Int) (t : ByteArray) (a : Int) (W : World) => build_tok6 k t a W
  have hbd0 := fun (W : World) => build_tok0 W
  have hsd := set_drewN
  have g0 : ¬ (k : Int) < 0 := by omega
  have g1 : ¬ (s.size : Int) ≤ (k : Int) := by omega
  have gx := get_bt s k hk
  rw [one_sign h1 (fun g => h2 g.1) hbz h4 h5 h6 h7] at hV
  have c37 : (bt s k == 37) = false := beq_false_of_ne h1
  have c46 : (bt s k == 46) = false := beq_false_of_ne h2
  have c39 : (bt s k == 39) = false := beq_false_of_ne h4
  have c34 : (bt s k == 34) = false := beq_false_of_ne h5
  have c36 : (bt s k == 36) = false := beq_false_of_ne h6
  have c63 : (bt s k == 63) = false := beq_false_of_ne h7
  have HB := Lib.hid (fun W => rbegins_any (bt s k) W)
  rw [hbz] at HB
  have HL := fun W => rlongest_any s k hs W
  rw [lg_at s k hk] at HL
  obtain ⟨N, hN⟩ : ∃ N, N = lgL (s.data.toList.drop k) := ⟨_, rfl⟩
  rw [← hN] at HL hV
  have hN3 : N ≤ 3 := by rw [hN]; exact lgf_le _ 37 (by omega)
  have hNs : k + N ≤ s.size := by
    have := lgf_len (s.data.toList.drop k) 37 (Nat.le_refl _)
    rw [List.length_drop, Array.length_toList] at this
    have e : s.data.size = s.size := rfl
    have h3 : N ≤ s.size - k := by rw [hN, ← e]; exact this
    omega
  have HL := Lib.hid HL
  obtain ⟨c, hc⟩ : ∃ c, c = bt s k := ⟨_, rfl⟩
  rw [← hc] at gx c37 c46 c39 c34 c36 c63 HB
  clear hc h1 h2 h4 h5 h6 h7 hbz
  clear hN
  by_cases h0 : N = 0
  · have HF : Hid (.tuple #[.agg #[.int .i64 0, .string ⟨#[]⟩, .int .i64 0], .int .i64 4] = V) := Lib.hid (by rw [hV, if_pos h0]; rfl)
    subst h0
    clear hV
    go_enter Try.func16, Try.ntmps16
    go_wp2_with fail
    refine (HB.out _).mono ?_
    rintro e w' ⟨rfl, rfl⟩
    go_wp2_with fail
    refine (HB.out _).mono ?_
    rintro e w' ⟨rfl, rfl⟩
    go_wp2_with fail
    refine (HL.out _).mono ?_
    rintro e w1 ⟨rfl, hb1⟩
    have HR := Lib.hid (row_of (hb1.mono (by simp)))
    have HB1 := Lib.hid ((below1 w _).trans (hb1.mono (by simp)))
    clear hb1
    have q0 := cell_of_row w1 _ 0 _ _ _ HR.out
    have q1 := cell_of_row w1 _ 1 _ _ _ HR.out
    have q2 := cell_of_row w1 _ 2 _ _ _ HR.out
    simp only [List.getElem?_toArray, List.getElem?_cons_zero, List.getElem?_cons_succ] at q0 q1 q2
    have f0 := frz_of HR.out 0
    have f1 := frz_of HR.out 1
    have f2 := frz_of HR.out 2
    go_wp2_with fail
    refine bodyPost_ret (v := .tuple #[.agg #[.int .i64 0, .string ⟨#[]⟩, .int .i64 0], .int .i64 4]) (by simp [results, Try.results16, go_sem, q0, q1, q2]) rfl ⟨congrArg Ending.returned HF.out, bel3 HB1.out _ _ _⟩
  · have HF : Hid (.tuple #[.agg #[.int .i64 9, .string (s.extract k (k + N)), .int .i64 k], .int .i64 0] = V) := Lib.hid (by rw [hV, if_neg h0, tokV_ok s k (by show (9 : Int) ≠ 0; omega)])
    have N0 : ((N : Int) == 0) = false := beq_false_of_ne (by omega)
    have k2 : (k : Int) ≤ (k : Int) + (N : Int) := by omega
    have k3 : (k : Int) + (N : Int) ≤ (s.size : Int) := by omega
    clear hV h0
    go_enter Try.func16, Try.ntmps16
    go_wp2_with fail
    refine (HB.out _).mono ?_
    rintro e w' ⟨rfl, rfl⟩
    go_wp2_with fail
    refine (HB.out _).mono ?_
    rintro e w' ⟨rfl, rfl⟩
    go_wp2_with fail
    refine (HL.out _).mono ?_
    rintro e w1 ⟨rfl, hb1⟩
    have HR := Lib.hid (row_of (hb1.mono (by simp)))
    have HB1 := Lib.hid ((below1 w _).trans (hb1.mono (by simp)))
    clear hb1
    have q0 := cell_of_row w1 _ 0 _ _ _ HR.out
    have q1 := cell_of_row w1 _ 1 _ _ _ HR.out
    have q2 := cell_of_row w1 _ 2 _ _ _ HR.out
    simp only [List.getElem?_toArray, List.getElem?_cons_zero, List.getElem?_cons_succ] at q0 q1 q2
    have f0 := frz_of HR.out 0
    have f1 := frz_of HR.out 1
    have f2 := frz_of HR.out 2
    go_wp2_with fail
    refine bodyPost_ret (v := .tuple #[.agg #[.int .i64 9, .string (s.extract k (k + N)), .int .i64 k], .int .i64 0]) (by simp [results, Try.results16, go_sem, q0, q1, q2]) rfl ⟨congrArg Ending.returned HF.out, bel3 HB1.out _ _ _⟩
set_option maxRecDepth 100000 in
set_option maxHeartbeats 1000000 in
theorem rone_pt (s : ByteArray) (k : Nat) (hk : k < s.size) (hs : s.size ≤ 1048576) (h : bt s k = 46) (h2 : ¬ (k + 1 = s.size ∨ bt s (k + 1) = 37 ∨ k + 1 < fw bl s (k + 1))) (w : World) :
    Calls Try.prog 16 #[.string s, .int .i64 k] w fun e w' => e = .returned (tokV s k (one s k)) ∧ Below w.heap.size w w' := by
  obtain ⟨V, hV⟩ : ∃ V, V = tokV s k (one s k) := ⟨_, rfl⟩
  rw [← hV]
  have hbd6 := fun (k : Int) (t : ByteArray) (a : Int) (W : World) => build_tok6 k t a W
  have hbd0 := fun (W : World) => build_tok0 W
  have hsd := set_drewN
  have g0 : ¬ (k : Int) < 0 := by omega
  have g1 : ¬ (s.size : Int) ≤ (k : Int) := by omega
  have gx := get_bt s k hk
  have hbz : beg (bt s k) = 0 := by rw [h]; decide
  rw [one_sign (by omega) (fun g => h2 g.2) hbz (by omega) (by omega) (by omega) (by omega)] at hV
  have HB := Lib.hid (fun W => rbegins_any (bt s k) W)
  rw [hbz] at HB
  have HL := fun W => rlongest_any s k hs W
  rw [lg_at s k hk] at HL
  obtain ⟨N, hN⟩ : ∃ N, N = lgL (s.data.toList.drop k) := ⟨_, rfl⟩
  rw [← hN] at HL hV
  have hN3 : N ≤ 3 := by rw [hN]; exact lgf_le _ 37 (by omega)
  have hNs : k + N ≤ s.size := by
    have := lgf_len (s.data.toList.drop k) 37 (Nat.le_refl _)
    rw [List.length_drop, Array.length_toList] at this
    have e : s.data.size = s.size := rfl
    have h3 : N ≤ s.size - k := by rw [hN, ← e]; exact this
    omega
  have HL := Lib.hid HL
  have HBL := Lib.hid (fun W => rblank_any s (k + 1) (by omega) hs W)
  have kl : k + 1 < s.size := by omega
  have gy := get_bt s (k + 1) kl
  have hfw : fw bl s (k + 1) = k + 1 := by have := fw_ge bl s (k + 1); omega
  rw [hfw, show ((k + 1 : Nat) : Int) = (k : Int) + 1 by omega] at HBL
  have c37 : (bt s (k + 1) == 37) = false := beq_false_of_ne (fun e => h2 (.inr (.inl e)))
  have cs1 : ((k : Int) + 1 == (s.size : Int)) = false := beq_false_of_ne (by omega)
  have kl2 : (k : Int) + 1 < (s.size : Int) := by omega
  obtain ⟨d, hd⟩ : ∃ d, d = bt s (k + 1) := ⟨_, rfl⟩
  rw [← hd] at gy c37
  rw [h] at gx HB
  clear hd h h2 hbz hfw
  clear hN
  by_cases h0 : N = 0
  · have HF : Hid (.tuple #[.agg #[.int .i64 0, .string ⟨#[]⟩, .int .i64 0], .int .i64 4] = V) := Lib.hid (by rw [hV, if_pos h0]; rfl)
    subst h0
    clear hV
    go_enter Try.func16, Try.ntmps16
    go_wp2_with fail
    refine (HBL.out _).mono ?_
    rintro e w' ⟨rfl, rfl⟩
    go_wp2_with fail
    refine (HB.out _).mono ?_
    rintro e w' ⟨rfl, rfl⟩
    go_wp2_with fail
    refine (HB.out _).mono ?_
    rintro e w' ⟨rfl, rfl⟩
    go_wp2_with fail
    refine (HL.out _).mono ?_
    rintro e w1 ⟨rfl, hb1⟩
    have HR := Lib.hid (row_of (hb1.mono (by simp)))
    have HB1 := Lib.hid ((below1 w _).trans (hb1.mono (by simp)))
    clear hb1
    have q0 := cell_of_row w1 _ 0 _ _ _ HR.out
    have q1 := cell_of_row w1 _ 1 _ _ _ HR.out
    have q2 := cell_of_row w1 _ 2 _ _ _ HR.out
    simp only [List.getElem?_toArray, List.getElem?_cons_zero, List.getElem?_cons_succ] at q0 q1 q2
    have f0 := frz_of HR.out 0
    have f1 := frz_of HR.out 1
    have f2 := frz_of HR.out 2
    go_wp2_with fail
    refine bodyPost_ret (v := .tuple #[.agg #[.int .i64 0, .string ⟨#[]⟩, .int .i64 0], .int .i64 4]) (by simp [results, Try.results16, go_sem, q0, q1, q2]) rfl ⟨congrArg Ending.returned HF.out, bel3 HB1.out _ _ _⟩
  · have HF : Hid (.tuple #[.agg #[.int .i64 9, .string (s.extract k (k + N)), .int .i64 k], .int .i64 0] = V) := Lib.hid (by rw [hV, if_neg h0, tokV_ok s k (by show (9 : Int) ≠ 0; omega)])
    have N0 : ((N : Int) == 0) = false := beq_false_of_ne (by omega)
    have k2 : (k : Int) ≤ (k : Int) + (N : Int) := by omega
    have k3 : (k : Int) + (N : Int) ≤ (s.size : Int) := by omega
    clear hV h0
    go_enter Try.func16, Try.ntmps16
    go_wp2_with fail
    refine (HBL.out _).mono ?_
    rintro e w' ⟨rfl, rfl⟩
    go_wp2_with fail
    refine (HB.out _).mono ?_
    rintro e w' ⟨rfl, rfl⟩
    go_wp2_with fail
    refine (HB.out _).mono ?_
    rintro e w' ⟨rfl, rfl⟩
    go_wp2_with fail
    refine (HL.out _).mono ?_
    rintro e w1 ⟨rfl, hb1⟩
    have HR := Lib.hid (row_of (hb1.mono (by simp)))
    have HB1 := Lib.hid ((below1 w _).trans (hb1.mono (by simp)))
    clear hb1
    have q0 := cell_of_row w1 _ 0 _ _ _ HR.out
    have q1 := cell_of_row w1 _ 1 _ _ _ HR.out
    have q2 := cell_of_row w1 _ 2 _ _ _ HR.out
    simp only [List.getElem?_toArray, List.getElem?_cons_zero, List.getElem?_cons_succ] at q0 q1 q2
    have f0 := frz_of HR.out 0
    have f1 := frz_of HR.out 1
    have f2 := frz_of HR.out 2
    go_wp2_with fail
    refine bodyPost_ret (v := .tuple #[.agg #[.int .i64 9, .string (s.extract k (k + N)), .int .i64 k], .int .i64 0]) (by simp [results, Try.results16, go_sem, q0, q1, q2]) rfl ⟨congrArg Ending.returned HF.out, bel3 HB1.out _ _ _⟩
theorem fst_let (c : Int) : fst c = (letB c || c == 95) := by
  unfold fst letB
  generalize (decide (65 ≤ c) && decide (c ≤ 90)) = x
  generalize (decide (97 ≤ c) && decide (c ≤ 122)) = y
  generalize (c == 95) = z
  cases x <;> cases y <;> cases z <;> rfl
set_option maxRecDepth 100000 in
set_option maxHeartbeats 1000000 in
theorem rone_63 (s : ByteArray) (k : Nat) (hk : k < s.size) (hs : s.size ≤ 1048576) (h : bt s k = 63) (w : World) :
    Calls Try.prog 16 #[.string s, .int .i64 k] w fun e w' => e = .returned (tokV s k (one s k)) ∧ Below w.heap.size w w' := by
  obtain ⟨V, hV⟩ : ∃ V, V = tokV s k (one s k) := ⟨_, rfl⟩
  rw [← hV]
  have hbd6 := fun (k : Int) (t : ByteArray) (a : Int) (W : World) => build_tok6 k t a W
  have hbd0 := fun (W : World) => build_tok0 W
  have hsd := set_drewN
  have g0 : ¬ (k : Int) < 0 := by omega
  have g1 : ¬ (s.size : Int) ≤ (k : Int) := by omega
  have gx := get_bt s k hk
  have HB := Lib.hid (fun W => rbegins_any 63 W)
  rw [show beg 63 = 0 by decide] at HB
  rw [one_63 h] at hV
  rw [h] at gx
  clear h
  by_cases h1 : k + 1 < s.size
  · have g1' : (k : Int) + 1 < (s.size : Int) := by omega
    have g1 := get_bt s (k + 1) h1
    by_cases h63 : bt s (k + 1) = 63
    · have hm : mcb s k = k + 2 := by unfold mcb; rw [if_pos h63]
      rw [hm] at hV
      rw [h63] at g1
      clear hm h63
      by_cases h2 : k + 2 < s.size
      · have g2' : (k : Int) + 1 + 1 < (s.size : Int) := by omega
        have g2 := get_bt s (k + 2) h2
        have HLT := Lib.hid (fun W => letter_any (bt s (k + 2)) W)
        have HI := Lib.hid (fun W => rinner6_any s (k + 2) (by omega) hs W)
        have hge := fw_ge inn s (k + 2)
        have hle := fw_le inn s (k + 2) (by omega)
        obtain ⟨N, hN⟩ : ∃ N, fw inn s (k + 2) = k + N := ⟨fw inn s (k + 2) - k, by omega⟩
        rw [hN] at hV HI hge hle
        rw [show ((k + N : Nat) : Int) = (k : Int) + (N : Int) by omega, show ((k + 2 : Nat) : Int) = (k : Int) + 1 + 1 by omega] at HI
        have N0 : ((N : Int) == 0) = false := beq_false_of_ne (by omega)
        have k2 : (k : Int) ≤ (k : Int) + (N : Int) := by omega
        have k3 : (k : Int) + (N : Int) ≤ (s.size : Int) := by omega
        rw [fst_let] at hV
        obtain ⟨d, hd⟩ : ∃ d, d = bt s (k + 2) := ⟨_, rfl⟩
        rw [← hd] at g2 hV HLT
        clear hd hN
        cases hl : letB d
        · rw [hl, Bool.false_or] at hV
          rw [hl] at HLT
          cases h95 : (d == 95)
          · have HF : Hid (.tuple #[.agg #[.int .i64 0, .string ⟨#[]⟩, .int .i64 0], .int .i64 4] = V) := Lib.hid (by rw [hV, h95, if_neg Bool.false_ne_true]; rfl)
            clear hV hl
            go_enter Try.func16, Try.ntmps16
            go_wp2_with fail
            refine (HB.out _).mono ?_
            rintro e w' ⟨rfl, rfl⟩
            go_wp2_with fail
            refine (HB.out _).mono ?_
            rintro e w' ⟨rfl, rfl⟩
            go_wp2_with fail
            refine (HLT.out _).mono ?_
            rintro e w' ⟨rfl, rfl⟩
            go_wp2_with fail
            refine bodyPost_ret (v := .tuple #[.agg #[.int .i64 0, .string ⟨#[]⟩, .int .i64 0], .int .i64 4]) (by simp [results, Try.results16, go_sem]) rfl ⟨congrArg Ending.returned HF.out, below1 _ _⟩
          · have HF : Hid (.tuple #[.agg #[.int .i64 7, .string (s.extract k (k + N)), .int .i64 k], .int .i64 0] = V) := Lib.hid (by rw [hV, h95, if_pos rfl, tokV_ok s k (by show (7 : Int) ≠ 0; omega)])
            clear hV hl
            go_enter Try.func16, Try.ntmps16
            go_wp2_with fail
            refine (HB.out _).mono ?_
            rintro e w' ⟨rfl, rfl⟩
            go_wp2_with fail
            refine (HB.out _).mono ?_
            rintro e w' ⟨rfl, rfl⟩
            go_wp2_with fail
            refine (HLT.out _).mono ?_
            rintro e w' ⟨rfl, rfl⟩
            go_wp2_with fail
            refine (HI.out _).mono ?_
            rintro e w' ⟨rfl, rfl⟩
            go_wp2_with fail
            refine bodyPost_ret (v := .tuple #[.agg #[.int .i64 7, .string (s.extract k (k + N)), .int .i64 k], .int .i64 0]) (by simp [results, Try.results16, go_sem]) rfl ⟨congrArg Ending.returned HF.out, below1 _ _⟩
        · have HF : Hid (.tuple #[.agg #[.int .i64 7, .string (s.extract k (k + N)), .int .i64 k], .int .i64 0] = V) := Lib.hid (by rw [hV, hl, Bool.true_or, if_pos rfl, tokV_ok s k (by show (7 : Int) ≠ 0; omega)])
          rw [hl] at HLT
          clear hV hl
          go_enter Try.func16, Try.ntmps16
          go_wp2_with fail
          refine (HB.out _).mono ?_
          rintro e w' ⟨rfl, rfl⟩
          go_wp2_with fail
          refine (HB.out _).mono ?_
          rintro e w' ⟨rfl, rfl⟩
          go_wp2_with fail
          refine (HLT.out _).mono ?_
          rintro e w' ⟨rfl, rfl⟩
          go_wp2_with fail
          refine (HI.out _).mono ?_
          rintro e w' ⟨rfl, rfl⟩
          go_wp2_with fail
          refine bodyPost_ret (v := .tuple #[.agg #[.int .i64 7, .string (s.extract k (k + N)), .int .i64 k], .int .i64 0]) (by simp [results, Try.results16, go_sem]) rfl ⟨congrArg Ending.returned HF.out, below1 _ _⟩
      · have HF : Hid (.tuple #[.agg #[.int .i64 0, .string ⟨#[]⟩, .int .i64 0], .int .i64 4] = V) := Lib.hid (by rw [hV, bt_end s (by omega), if_neg (by decide)]; rfl)
        have g2' : decide ((k : Int) + 1 + 1 < (s.size : Int)) = false := by simp; omega
        clear hV
        go_enter Try.func16, Try.ntmps16
        go_wp2_with fail
        refine (HB.out _).mono ?_
        rintro e w' ⟨rfl, rfl⟩
        go_wp2_with fail
        refine (HB.out _).mono ?_
        rintro e w' ⟨rfl, rfl⟩
        go_wp2_with fail
        refine bodyPost_ret (v := .tuple #[.agg #[.int .i64 0, .string ⟨#[]⟩, .int .i64 0], .int .i64 4]) (by simp [results, Try.results16, go_sem]) rfl ⟨congrArg Ending.returned HF.out, below1 _ _⟩
    · have hm : mcb s k = k + 1 := by unfold mcb; rw [if_neg h63]
      rw [hm] at hV
      have n63 : (bt s (k + 1) == 63) = false := beq_false_of_ne h63
      clear hm h63
      have HLT := Lib.hid (fun W => letter_any (bt s (k + 1)) W)
      have HI := Lib.hid (fun W => rinner6_any s (k + 1) (by omega) hs W)
      have hge := fw_ge inn s (k + 1)
      have hle := fw_le inn s (k + 1) (by omega)
      obtain ⟨N, hN⟩ : ∃ N, fw inn s (k + 1) = k + N := ⟨fw inn s (k + 1) - k, by omega⟩
      rw [hN] at hV HI hge hle
      rw [show ((k + N : Nat) : Int) = (k : Int) + (N : Int) by omega, show ((k + 1 : Nat) : Int) = (k : Int) + 1 by omega] at HI
      have N0 : ((N : Int) == 0) = false := beq_false_of_ne (by omega)
      have k2 : (k : Int) ≤ (k : Int) + (N : Int) := by omega
      have k3 : (k : Int) + (N : Int) ≤ (s.size : Int) := by omega
      rw [fst_let] at hV
      obtain ⟨d, hd⟩ : ∃ d, d = bt s (k + 1) := ⟨_, rfl⟩
      rw [← hd] at g1 hV HLT n63
      clear hd hN
      cases hl : letB d
      · rw [hl, Bool.false_or] at hV
        rw [hl] at HLT
        cases h95 : (d == 95)
        · have HF : Hid (.tuple #[.agg #[.int .i64 0, .string ⟨#[]⟩, .int .i64 0], .int .i64 4] = V) := Lib.hid (by rw [hV, h95, if_neg Bool.false_ne_true]; rfl)
          clear hV hl
          go_enter Try.func16, Try.ntmps16
          go_wp2_with fail
          refine (HB.out _).mono ?_
          rintro e w' ⟨rfl, rfl⟩
          go_wp2_with fail
          refine (HB.out _).mono ?_
          rintro e w' ⟨rfl, rfl⟩
          go_wp2_with fail
          refine (HLT.out _).mono ?_
          rintro e w' ⟨rfl, rfl⟩
          go_wp2_with fail
          refine bodyPost_ret (v := .tuple #[.agg #[.int .i64 0, .string ⟨#[]⟩, .int .i64 0], .int .i64 4]) (by simp [results, Try.results16, go_sem]) rfl ⟨congrArg Ending.returned HF.out, below1 _ _⟩
        · have HF : Hid (.tuple #[.agg #[.int .i64 7, .string (s.extract k (k + N)), .int .i64 k], .int .i64 0] = V) := Lib.hid (by rw [hV, h95, if_pos rfl, tokV_ok s k (by show (7 : Int) ≠ 0; omega)])
          clear hV hl
          go_enter Try.func16, Try.ntmps16
          go_wp2_with fail
          refine (HB.out _).mono ?_
          rintro e w' ⟨rfl, rfl⟩
          go_wp2_with fail
          refine (HB.out _).mono ?_
          rintro e w' ⟨rfl, rfl⟩
          go_wp2_with fail
          refine (HLT.out _).mono ?_
          rintro e w' ⟨rfl, rfl⟩
          go_wp2_with fail
          refine (HI.out _).mono ?_
          rintro e w' ⟨rfl, rfl⟩
          go_wp2_with fail
          refine bodyPost_ret (v := .tuple #[.agg #[.int .i64 7, .string (s.extract k (k + N)), .int .i64 k], .int .i64 0]) (by simp [results, Try.results16, go_sem]) rfl ⟨congrArg Ending.returned HF.out, below1 _ _⟩
      · have HF : Hid (.tuple #[.agg #[.int .i64 7, .string (s.extract k (k + N)), .int .i64 k], .int .i64 0] = V) := Lib.hid (by rw [hV, hl, Bool.true_or, if_pos rfl, tokV_ok s k (by show (7 : Int) ≠ 0; omega)])
        rw [hl] at HLT
        clear hV hl
        go_enter Try.func16, Try.ntmps16
        go_wp2_with fail
        refine (HB.out _).mono ?_
        rintro e w' ⟨rfl, rfl⟩
        go_wp2_with fail
        refine (HB.out _).mono ?_
        rintro e w' ⟨rfl, rfl⟩
        go_wp2_with fail
        refine (HLT.out _).mono ?_
        rintro e w' ⟨rfl, rfl⟩
        go_wp2_with fail
        refine (HI.out _).mono ?_
        rintro e w' ⟨rfl, rfl⟩
        go_wp2_with fail
        refine bodyPost_ret (v := .tuple #[.agg #[.int .i64 7, .string (s.extract k (k + N)), .int .i64 k], .int .i64 0]) (by simp [results, Try.results16, go_sem]) rfl ⟨congrArg Ending.returned HF.out, below1 _ _⟩
  · have HF : Hid (.tuple #[.agg #[.int .i64 0, .string ⟨#[]⟩, .int .i64 0], .int .i64 4] = V) := Lib.hid (by
      have hm : fst (bt s (mcb s k)) = false := by rw [bt_end s (by unfold mcb; split <;> omega)]; decide
      rw [hV, hm, if_neg Bool.false_ne_true]; rfl)
    have g1' : decide ((k : Int) + 1 < (s.size : Int)) = false := by simp; omega
    clear hV
    go_enter Try.func16, Try.ntmps16
    go_wp2_with fail
    refine (HB.out _).mono ?_
    rintro e w' ⟨rfl, rfl⟩
    go_wp2_with fail
    refine (HB.out _).mono ?_
    rintro e w' ⟨rfl, rfl⟩
    go_wp2_with fail
    refine bodyPost_ret (v := .tuple #[.agg #[.int .i64 0, .string ⟨#[]⟩, .int .i64 0], .int .i64 4]) (by simp [results, Try.results16, go_sem]) rfl ⟨congrArg Ending.returned HF.out, below1 _ _⟩
end Go.Proofs.Ytaaijenbcfjdlaa
/- The document's own One, whole. -/
namespace Go.Proofs.Ytaaijenbcfjdlaa
open Go.RowKit Go.PlainAid

/-- ONE, within the text. -/
theorem rone_in (s : ByteArray) (k : Nat) (hk : k < s.size) (hs : s.size ≤ 1048576) (w : World) :
    Calls Try.prog 16 #[.string s, .int .i64 k] w fun e w' => e = .returned (tokV s k (one s k)) ∧ Below w.heap.size w w' := by
  by_cases c1 : bt s k = 37
  · exact rone_com s k hk hs c1 w
  by_cases c2 : bt s k = 46
  · by_cases c3 : k + 1 = s.size ∨ bt s (k + 1) = 37 ∨ k + 1 < fw bl s (k + 1)
    · exact rone_dot s k hk hs c2 c3 w
    · exact rone_pt s k hk hs c2 c3 w
  by_cases c3 : beg (bt s k) = 3
  · exact rone_num s k hk hs c3 w
  by_cases c4 : 0 < beg (bt s k)
  · exact rone_name s k hk hs c3 c4 w
  have hb : beg (bt s k) = 0 := by have := beg_range (bt s k); omega
  by_cases c5 : bt s k = 39
  · exact rone_39 s k hk hs c5 w
  by_cases c6 : bt s k = 34
  · exact rone_34 s k hk hs c6 w
  by_cases c7 : bt s k = 36
  · exact rone_36 s k hk hs c7 w
  by_cases c8 : bt s k = 63
  · exact rone_63 s k hk hs c8 w
  · exact rone_sign s k hk hs c1 c2 hb c5 c6 c7 c8 w
set_option maxRecDepth 100000 in
/-- ONE, elsewhere. -/
theorem rone_out (s : ByteArray) (k : Int) (h : k < 0 ∨ (s.size : Int) ≤ k) (w : World) :
    Calls Try.prog 16 #[.string s, .int .i64 k] w fun e w' => e = .returned (.tuple #[.agg #[.int .i64 0, .string ⟨#[]⟩, .int .i64 0], .int .i64 4]) ∧ Below w.heap.size w w' := by
  have hbd0 := fun (W : World) => build_tok0 W
  rcases h with h | h
  · go_enter Try.func16, Try.ntmps16
    go_wp2_with fail
    refine bodyPost_ret (v := .tuple #[.agg #[.int .i64 0, .string ⟨#[]⟩, .int .i64 0], .int .i64 4]) (by simp [results, Try.results16, go_sem]) rfl ⟨rfl, below1 _ _⟩
  · have h0 : ¬ k < 0 := by omega
    go_enter Try.func16, Try.ntmps16
    go_wp2_with fail
    refine bodyPost_ret (v := .tuple #[.agg #[.int .i64 0, .string ⟨#[]⟩, .int .i64 0], .int .i64 4]) (by simp [results, Try.results16, go_sem]) rfl ⟨rfl, below1 _ _⟩
end Go.Proofs.Ytaaijenbcfjdlaa
