/-
  THE DOCUMENT's Split and Bytes.
-/
import Derived.Test.YtaaijenbcfjdlaaRefGap
import Derived.Test.YtaaijenbcfjdlaaSplitDefs
namespace Go.Proofs.Ytaaijenbcfjdlaa
open Go.RowKit Go.PlainAid

set_option maxRecDepth 100000 in
set_option maxHeartbeats 4000000 in
theorem rsplit_any {s : ByteArray} {L : List Tk3} {j0 : Nat} (hsc : sc s j0 = some L) (hs : s.size ≤ 1048576) (hl : L.length ≤ 1048576) (v : Value) (w : World) (ht : TRow w v (toks s L)) :
    Calls Try.prog 10 #[.string s, v] w fun e w' => ItsAre w (sp s L 0) e w' := by
  have HT := Lib.hid ht
  have HNL := Lib.hid (fun (k : Int) W h => rnewlines_any hsc hs hl v k W h)
  obtain ⟨a, cap, rfl, hr⟩ := ht
  have hr2 : 0 < L.length → ∃ g o, a = some ⟨g, o, none⟩ ∧ g < w.heap.size ∧ ∀ (i : Nat) (x : Tk3), L[i]? = some x → w.cell? ⟨g, o + i * 3, none⟩ = some (.int .i64 x.1) := fun h0 => by
    obtain ⟨g, o, h1, h2, h3⟩ := hr (by rw [toks_len]; exact h0)
    exact ⟨g, o, h1, h2, fun i x hx => (h3 i _ (toks_at hx)).1⟩
  have HR := Lib.hid hr2
  rw [toks_len] at HT HNL ⊢
  clear hr hr2 hsc
  obtain ⟨R, hR⟩ : ∃ R, R = sp s L 0 := ⟨_, rfl⟩
  rw [← hR]
  have HRR := Lib.hid hR
  clear hR
  obtain ⟨N, hN⟩ : ∃ N, N = L.length := ⟨_, rfl⟩
  rw [← hN] at HT HNL HR hl ⊢
  have HN := Lib.hid hN
  clear hN
  have hbd := fun (a b : Int) (c : Bool) (W : World) => build_it a b c W
  obtain ⟨i0, hi, hz0, hz1, hz2⟩ := info_parts infoIt
  have hz2' := Lib.hid hz2
  clear hz2
  go_enter Try.func10, Try.ntmps10
  go_wp2_with fail
  go_loopg [5, 6] N (fun gn z i wr => ∃ (k : Nat) (I : List It), gn = N - k ∧ k ≤ N ∧ i = .int .i64 (k : Int) ∧ I.length ≤ k ∧ Hid (Ik w wr z I) ∧ Hid (R = I ++ sp s L k))
  case atStart => exact ⟨0, [], rfl, Nat.zero_le _, rfl, Nat.zero_le _, Lib.hid ⟨World.ownsRow_nil _ _ _ _, Below.refl _ _⟩, Lib.hid (by rw [HRR.out]; rfl)⟩
  case round =>
    obtain ⟨k, I, hgn, hk, rfl, hIk, HI, HK⟩ := hrel
    by_cases hlt : k < N
    · obtain ⟨x, hx⟩ : ∃ x, L[k]? = some x := ⟨_, List.getElem?_eq_getElem (by rw [← HN.out]; exact hlt)⟩
      obtain ⟨g, o, rfl, hg, hcc⟩ := HR.out (by omega)
      have kn : (k : Int) < (N : Int) := by omega
      have hstep := HK.out
      rw [sp_go hx] at hstep
      have hin := itn_in (L := L) (i := k) (by rw [← HN.out]; exact hlt)
      rw [← HN.out] at hin
      have hpos := itn_pos (L.drop k)
      obtain ⟨n, hn⟩ : ∃ n, n = itn (L.drop k) := ⟨_, rfl⟩
      rw [← hn] at hstep hin hpos
      have HNI := Lib.hid hn
      obtain ⟨m, hm⟩ : ∃ m : Nat, m = nls s L k := ⟨_, rfl⟩
      have N1 := HNL.out (k : Int) wr (HT.out.below HI.out.2)
      rw [← hm] at N1 hstep
      have N1 := Lib.hid N1
      obtain ⟨b, hb⟩ : ∃ b, b = decide (2 ≤ (m : Int)) := ⟨_, rfl⟩
      have hb2 : decide (2 ≤ m) = b := by rw [hb]; exact decide_eq_decide.2 (by omega)
      rw [hb2] at hstep
      have HST := Lib.hid hstep
      have hcells := fun (W : World) (h : Below w.heap.size w W) (i : Nat) (x : Tk3) (hx : L[i]? = some x) => (h.cell (p := ⟨g, o + i * 3, none⟩) hg).trans (hcc i x hx)
      have HC := Lib.hid hcells
      clear hn hm hb2 hstep hcells hcc HK
      go_wp2_with fail
      refine N1.out.mono ?_
      rintro e w1 ⟨rfl, hb1⟩
      have HI1 := Lib.hid (HI.out.below hb1)
      clear hb1 N1
      have hb' : decide ((2 : Int) ≤ (m : Int)) = b := hb.symm
      have zle : w.heap.size ≤ w1.heap.size := HI1.out.2.size
      have hne : Hid (some w1.heap.size ≠ u5.ownBlock) := Lib.hid (fun h => by
        have := (HI1.out.1.lt w1.heap.size h.symm).2
        omega)
      obtain ⟨K, xa, xe⟩ := x
      simp only at HST
      have HI1a := Lib.hid (HI1.out.below (below1 w1 (.cells #[.int .i64 (k : Int), .int .i64 ((k : Int) + 1), .bool false, .bool b] 23)))
      have ck := HC.out _ HI1a.out.2 k _ hx
      have f1 := frz_of (mk_new w1 (k : Int) ((k : Int) + 1) false b) 1
      have f2 := frz_of (mk_new w1 (k : Int) ((k : Int) + 1) false b) 2
      have HX := Lib.hid hx
      clear hb hx
      cases h11 : (K == 11)
      · rw [h11] at HST
        have hk11 : K ≠ 11 := by simpa using h11
        have hfe := itn_form (t := L.drop (k + 1)) (y := (K, xa, xe)) hk11
        rw [← drop_cons HX.out, ← HNI.out] at hfe
        have HFE := Lib.hid hfe
        clear hfe hk11
        go_wp2_with fail
        go_loopg [8] (N - k) (fun gn z wr => ∃ (q e : Nat), gn = N - q ∧ k ≤ q ∧ q ≤ N ∧ z = .int .i64 (q : Int) ∧ 1 ≤ e ∧ k + e ≤ N ∧ Hid (fe (L.drop q) (q - k) e = n) ∧ Hid (Ik w wr u5 I) ∧ Hid (Mk wr w1.heap.size (k : Int) ((k : Int) + (e : Int)) false b))
        case atStart => exact ⟨k, 1, rfl, Nat.le_refl _, by omega, rfl, Nat.le_refl _, by omega, Lib.hid (by rw [Nat.sub_self]; exact HFE.out.symm), HI1a, Lib.hid (mk_new w1 (k : Int) ((k : Int) + 1) false b)⟩
        case round =>
          obtain ⟨q, e, hgn2, hkq, hq, rfl, he1, heN, HF, HI9, HM⟩ := hrel
          have hsz : Hid (w.heap.size ≤ w1.heap.size) := Lib.hid zle
          by_cases hlt2 : q < N
          · obtain ⟨y, hy⟩ : ∃ y, L[q]? = some y := ⟨_, List.getElem?_eq_getElem (by rw [← HN.out]; exact hlt2)⟩
            have cq := HC.out _ HI9.out.2 q _ hy
            have hfe := HF.out
            rw [drop_cons hy] at hfe
            simp only [fe] at hfe
            obtain ⟨K2, ya, ye⟩ := y
            simp only at cq hfe
            have qn : (q : Int) < (N : Int) := by omega
            obtain ⟨m0, m1, m2, m3⟩ := HM.out.cells
            have fr1 := frz_of HM.out 1
            have z9 : w.heap.size ≤ wr.heap.size := HI9.out.2.size
            clear hy
            cases h10 : (K2 == 10)
            · have hk10 : K2 ≠ 10 := by simpa using h10
              rw [if_neg hk10] at hfe
              cases hc : (K2 == 11)
              · have hk11 : K2 ≠ 11 := by simpa using hc
                rw [if_neg hk11] at hfe
                have hcn : (K2 != 11) = true := by simpa using hk11
                have HF2 : Hid (fe (L.drop (q + 1)) (q + 1 - k) (q + 1 - k) = n) := Lib.hid (by rw [show q + 1 - k = q - k + 1 by omega]; exact hfe)
                have HM2 : Hid (Mk (wr.setCell ⟨w1.heap.size, 1, none⟩ (.int .i64 ((q : Int) + 1))) w1.heap.size (k : Int) ((k : Int) + ((q + 1 - k : Nat) : Int)) false b) := Lib.hid (by
                  rw [show (k : Int) + ((q + 1 - k : Nat) : Int) = (q : Int) + 1 by omega]; exact HM.out.to _)
                have HI10 : Hid (Ik w (wr.setCell ⟨w1.heap.size, 1, none⟩ (.int .i64 ((q : Int) + 1))) u5 I) := Lib.hid (HI9.out.set zle hne.out _)
                clear hfe hk10 hk11
                go_wp2_with fail
                go_roundg (N - (q + 1))
                case measure => omega
                case rel => exact ⟨q + 1, q + 1 - k, rfl, by omega, hlt2, by go_num, by omega, by omega, HF2, HI10, HM2⟩
              · have hk11 : K2 = 11 := by simpa using hc
                rw [if_pos hk11] at hfe
                have hcn : (K2 != 11) = false := by simpa using hk11
                have HF2 : Hid (fe (L.drop (q + 1)) (q + 1 - k) e = n) := Lib.hid (by rw [show q + 1 - k = q - k + 1 by omega]; exact hfe)
                clear hfe hk10 hk11
                go_wp2_with fail
                go_roundg (N - (q + 1))
                case measure => omega
                case rel => exact ⟨q + 1, e, rfl, by omega, hlt2, by go_num, he1, heN, HF2, HI9, HM⟩
            · have hk10 : K2 = 10 := by simpa using h10
              rw [if_pos hk10] at hfe
              have hcn : (K2 != 11) = true := by rw [hk10]; rfl
              have hqn : q + 1 = k + n := by omega
              have HK3 : Hid (R = (I ++ [(k, q + 1, false, b)]) ++ sp s L (q + 1)) := Lib.hid (by rw [HST.out, hqn]; simp)
              have HI2 : Hid (Ik w (wr.setCell ⟨w1.heap.size, 1, none⟩ (.int .i64 ((q : Int) + 1))) u5 I) := Lib.hid (HI9.out.set zle hne.out _)
              have hrow := Lib.hid (HM.out.to ((q : Int) + 1))
              obtain ⟨r0, r1, r2, r3⟩ := (HM.out.to ((q : Int) + 1)).cells
              clear hfe hk10
              have HOW := HI2.out.1
              have HNW : Hid (∀ j u, [Value.int .i64 (k : Int), .int .i64 ((q : Int) + 1), .bool false, .bool b][j]? = some u → ((wr.setCell ⟨w1.heap.size, 1, none⟩ (.int .i64 ((q : Int) + 1))).alloc (.cells #[.int .i64 (k : Int), .int .i64 ((q : Int) + 1), .bool false, .bool b] 23)).cell? ((⟨wr.heap.size, 0, none⟩ : Addr).add j) = some u) := Lib.hid (by
                have := cells_four_new (wr.setCell ⟨w1.heap.size, 1, none⟩ (.int .i64 ((q : Int) + 1))) (.int .i64 (k : Int)) (.int .i64 ((q : Int) + 1)) (.bool false) (.bool b) 23
                first | exact this | (rw [show (wr.setCell ⟨w1.heap.size, 1, none⟩ (.int .i64 ((q : Int) + 1))).heap.size = wr.heap.size by simp] at this; exact this))
              go_wp2_with (at_builtin; go_must (refine wpList_append_own _ rfl _ _ 28 rfl w.heap.size 23 i0 (.agg #[.int .i64 0, .int .i64 0, .bool false, .bool false]) 4 24 Try.underlying28 hi hz0 hz1 hz2'.out rfl (by decide) _ _ _ rfl (HOW.alloc _) ⟨wr.heap.size, 0, none⟩ 1 1 [.int .i64 (k : Int), .int .i64 ((q : Int) + 1), .bool false, .bool b] rfl rfl HNW.out (by intro u hu; simp at hu; rcases hu with rfl | rfl | rfl | rfl <;> rfl) (by unfold maxLen; omega) (by omega) (by simp; omega) ?_); intro v' w3 hown hgrow _; have q1 : w3.cell? ⟨w1.heap.size, 1, none⟩ = some (.int .i64 ((q : Int) + 1)) := cell_of_row w3 _ 1 _ _ _ (keep_tok hne.out hrow.out _ hgrow); have HI3 := Lib.hid (HI2.out.put (x := (k, q + 1, false, b)) _ hown hgrow); clear hown hgrow)
              go_roundg (N - (q + 1))
              case measure => omega
              case rel => exact ⟨q + 1, I ++ [(k, q + 1, false, b)], rfl, by omega, by go_num, by rw [List.length_append]; simp; omega, HI3, HK3⟩
          · obtain rfl : q = N := by omega
            have hen : e = n := by have := HF.out; rw [List.drop_eq_nil_of_le (by rw [HN.out]; exact Nat.le_refl _)] at this; exact this
            subst hen
            have HK3 : Hid (R = (I ++ [(k, k + e, false, b)]) ++ sp s L (k + e)) := Lib.hid (by rw [HST.out]; simp)
            have HI2 := HI9
            have hrow := HM
            obtain ⟨m0, m1, m2, m3⟩ := HM.out.cells
            have z9 : w.heap.size ≤ wr.heap.size := HI9.out.2.size
            have HOW := HI2.out.1
            have HNW : Hid (∀ j u, [Value.int .i64 (k : Int), .int .i64 ((k : Int) + (e : Int)), .bool false, .bool b][j]? = some u → (wr.alloc (.cells #[.int .i64 (k : Int), .int .i64 ((k : Int) + (e : Int)), .bool false, .bool b] 23)).cell? ((⟨wr.heap.size, 0, none⟩ : Addr).add j) = some u) := Lib.hid (by
              have := cells_four_new wr (.int .i64 (k : Int)) (.int .i64 ((k : Int) + (e : Int))) (.bool false) (.bool b) 23
              first | exact this | (rw [show wr.heap.size = wr.heap.size by simp] at this; exact this))
            go_wp2_with (at_builtin; go_must (refine wpList_append_own _ rfl _ _ 28 rfl w.heap.size 23 i0 (.agg #[.int .i64 0, .int .i64 0, .bool false, .bool false]) 4 24 Try.underlying28 hi hz0 hz1 hz2'.out rfl (by decide) _ _ _ rfl (HOW.alloc _) ⟨wr.heap.size, 0, none⟩ 1 1 [.int .i64 (k : Int), .int .i64 ((k : Int) + (e : Int)), .bool false, .bool b] rfl rfl HNW.out (by intro u hu; simp at hu; rcases hu with rfl | rfl | rfl | rfl <;> rfl) (by unfold maxLen; omega) (by omega) (by simp; omega) ?_); intro v' w3 hown hgrow _; have q1 : w3.cell? ⟨w1.heap.size, 1, none⟩ = some (.int .i64 ((k : Int) + (e : Int))) := cell_of_row w3 _ 1 _ _ _ (keep_tok hne.out hrow.out _ hgrow); have HI3 := Lib.hid (HI2.out.put (x := (k, k + e, false, b)) _ hown hgrow); clear hown hgrow)
            go_roundg (q - (k + e))
            case measure => omega
            case rel => exact ⟨k + e, I ++ [(k, k + e, false, b)], rfl, by omega, by go_num, by rw [List.length_append]; simp; omega, HI3, HK3⟩
      · rw [h11] at HST
        have hn1 : n = 1 := by
          rw [HNI.out, drop_cons HX.out, itn_note (by simpa using h11)]
        subst hn1
        have HK3 : Hid (R = (I ++ [(k, k + 1, true, b)]) ++ sp s L (k + 1)) := Lib.hid (by rw [HST.out]; simp)
        have HI2 := Lib.hid (HI1.out.below (below1 w1 (.cells #[.int .i64 (k : Int), .int .i64 ((k : Int) + 1), .bool true, .bool b] 23)))
        have hrow := Lib.hid (mk_new w1 (k : Int) ((k : Int) + 1) true b)
        have HOW := HI2.out.1
        have HNW : Hid (∀ j u, [Value.int .i64 (k : Int), .int .i64 ((k : Int) + 1), .bool true, .bool b][j]? = some u → ((w1.alloc (.cells #[.int .i64 (k : Int), .int .i64 ((k : Int) + 1), .bool true, .bool b] 23)).alloc (.cells #[.int .i64 (k : Int), .int .i64 ((k : Int) + 1), .bool true, .bool b] 23)).cell? ((⟨w1.heap.size + 1, 0, none⟩ : Addr).add j) = some u) := Lib.hid (by
          have := cells_four_new (w1.alloc (.cells #[.int .i64 (k : Int), .int .i64 ((k : Int) + 1), .bool true, .bool b] 23)) (.int .i64 (k : Int)) (.int .i64 ((k : Int) + 1)) (.bool true) (.bool b) 23
          first | exact this | (rw [show (w1.alloc (.cells #[.int .i64 (k : Int), .int .i64 ((k : Int) + 1), .bool true, .bool b] 23)).heap.size = w1.heap.size + 1 by simp] at this; exact this))
        go_wp2_with (at_builtin; go_must (refine wpList_append_own _ rfl _ _ 28 rfl w.heap.size 23 i0 (.agg #[.int .i64 0, .int .i64 0, .bool false, .bool false]) 4 24 Try.underlying28 hi hz0 hz1 hz2'.out rfl (by decide) _ _ _ rfl (HOW.alloc _) ⟨w1.heap.size + 1, 0, none⟩ 1 1 [.int .i64 (k : Int), .int .i64 ((k : Int) + 1), .bool true, .bool b] rfl rfl HNW.out (by intro u hu; simp at hu; rcases hu with rfl | rfl | rfl | rfl <;> rfl) (by unfold maxLen; omega) (by omega) (by simp; omega) ?_); intro v' w3 hown hgrow _; have q1 : w3.cell? ⟨w1.heap.size, 1, none⟩ = some (.int .i64 ((k : Int) + 1)) := cell_of_row w3 _ 1 _ _ _ (keep_tok hne.out hrow.out _ hgrow); have HI3 := Lib.hid (HI2.out.put (x := (k, k + 1, true, b)) _ hown hgrow); clear hown hgrow)
        go_roundg (N - (k + 1))
        case measure => omega
        case rel => exact ⟨k + 1, I ++ [(k, k + 1, true, b)], rfl, by omega, by go_num, by rw [List.length_append]; simp; omega, HI3, HK3⟩
    · obtain rfl : k = N := by omega
      have HF : Hid (R = I) := Lib.hid (by rw [HK.out, sp_end (by rw [← HN.out]; omega), List.append_nil])
      go_wp2_with fail
      go_ret
      exact ⟨_, rfl, by rw [HF.out]; exact HI.out⟩
set_option maxRecDepth 100000 in
set_option maxHeartbeats 4000000 in
/-- THE DOCUMENT's Bytes. -/
theorem rbytes_any {s : ByteArray} {L : List Tk3} {j0 : Nat} (hsc : sc s j0 = some L) (hs : s.size ≤ 1048576) (hl : L.length ≤ 1048576) (v : Value) (f t : Int) (nt b : Bool) (w : World) (ht : TRow w v (toks s L)) :
    Calls Try.prog 13 #[.string s, v, .agg #[.int .i64 f, .int .i64 t, .bool nt, .bool b]] w fun e w' => e = .returned (.string (bytI s L f t)) ∧ Below w.heap.size w w' := by
  obtain ⟨a, cap, rfl, hr⟩ := ht
  rw [toks_len] at hr ⊢
  by_cases h1 : f < 0
  · rw [bytI_out (.inl h1)]
    clear hr
    go_enter Try.func13, Try.ntmps13
    go_wp2_with fail
    go_ret
    exact ⟨rfl, below1 _ _⟩
  by_cases h2 : t ≤ f
  · rw [bytI_out (.inr (.inl h2))]
    clear hr
    go_enter Try.func13, Try.ntmps13
    go_wp2_with fail
    go_ret
    exact ⟨rfl, below1 _ _⟩
  by_cases h3 : (L.length : Int) < t
  · rw [bytI_out (.inr (.inr h3))]
    clear hr
    go_enter Try.func13, Try.ntmps13
    go_wp2_with fail
    go_ret
    exact ⟨rfl, below1 _ _⟩
  obtain ⟨p, rfl⟩ : ∃ p : Nat, f = (p : Int) := ⟨f.toNat, by omega⟩
  obtain ⟨q, rfl⟩ : ∃ q : Nat, t = (q : Int) + 1 := ⟨(t - 1).toNat, by omega⟩
  obtain ⟨x, hx⟩ : ∃ x, L[p]? = some x := ⟨_, List.getElem?_eq_getElem (by omega)⟩
  obtain ⟨y, hy⟩ : ∃ y, L[q]? = some y := ⟨_, List.getElem?_eq_getElem (by omega)⟩
  have e1 : bytI s L (p : Int) ((q : Int) + 1) = s.extract x.2.1 y.2.2 := by
    have := bytI_in (s := s) (L := L) (f := p) (t := q + 1) (by omega) (by omega)
    rw [byt_at hx hy] at this
    exact this
  rw [e1]
  have hxy : x.2.1 ≤ y.2.1 := sc_le hsc p x hx (q - p) y (by rw [show p + (q - p) = q by omega]; exact hy)
  obtain ⟨hy1, hy2⟩ := sc_bd L j0 hsc q y hy
  obtain ⟨g, o, rfl, hg, hc⟩ := hr (by omega)
  obtain ⟨-, -, c3⟩ := hc p _ (toks_at hx)
  obtain ⟨d1, d2, d3⟩ := hc q _ (toks_at hy)
  obtain ⟨K1, a1, e1'⟩ := x
  obtain ⟨K2, a2, e2⟩ := y
  simp only [tok3] at c3 d1 d2 d3 hxy hy1 hy2 ⊢
  have HE := Lib.hid (fun W => rend_any7 K2 a2 (s.extract a2 e2) e2 (by rw [size_ext s a2 e2 hy2]; omega) (by omega) W)
  obtain ⟨P, hP⟩ : ∃ P, P = s.extract a2 e2 := ⟨_, rfl⟩
  rw [← hP] at d2 HE
  obtain ⟨N, hN⟩ : ∃ N, N = L.length := ⟨_, rfl⟩
  rw [← hN] at h3 hl ⊢
  have g1 : (q : Int) < (N : Int) := by omega
  have g2 : (p : Int) < (N : Int) := by omega
  have g3 : (a1 : Int) ≤ (e2 : Int) := by omega
  have g4 : (e2 : Int) ≤ (s.size : Int) := by omega
  have g5 : ¬ (q : Int) + 1 ≤ (p : Int) := by omega
  have g6 : decide ((p : Int) < 0) = false := decide_eq_false (by omega)
  have g7 : IntKind.i64.wrap ((q : Int) + 1 - 1) = (q : Int) := by rw [IntKind.wrap_i64]; omega
  have g8 : IntKind.i64.wrap (q : Int) = (q : Int) := by rw [IntKind.wrap_i64]; omega
  have g9 : (0 : Int) ≤ (q : Int) := by omega
  have g10 : (0 : Int) ≤ (p : Int) := by omega
  obtain ⟨WB, hWB⟩ : ∃ WB, WB = (w.alloc (.cells #[.int .i64 (p : Int), .int .i64 ((q : Int) + 1), .bool nt, .bool b] 23)) := ⟨_, rfl⟩
  have C := Lib.hid (fun W (hb : Below WB.heap.size WB W) => (⟨by
      have h := hb.cell (p := ⟨w.heap.size, 0, none⟩) (by rw [hWB]; simp)
      rw [h, hWB]; simp, by
      have h := hb.cell (p := ⟨w.heap.size, 1, none⟩) (by rw [hWB]; simp)
      rw [h, hWB]; simp, by
      have h := hb.cell (p := ⟨g, o + p * 3 + 2, none⟩) (by rw [hWB]; simp; omega)
      rw [h, hWB, World.cell?_alloc_past _ _ _ hg]; exact c3, by
      have h := hb.cell (p := ⟨g, o + q * 3, none⟩) (by rw [hWB]; simp; omega)
      rw [h, hWB, World.cell?_alloc_past _ _ _ hg]; exact d1, by
      have h := hb.cell (p := ⟨g, o + q * 3 + 1, none⟩) (by rw [hWB]; simp; omega)
      rw [h, hWB, World.cell?_alloc_past _ _ _ hg]; exact d2, by
      have h := hb.cell (p := ⟨g, o + q * 3 + 2, none⟩) (by rw [hWB]; simp; omega)
      rw [h, hWB, World.cell?_alloc_past _ _ _ hg]; exact d3, Lib.hid hb⟩ :
    W.cell? ⟨w.heap.size, 0, none⟩ = some (.int .i64 (p : Int)) ∧ W.cell? ⟨w.heap.size, 1, none⟩ = some (.int .i64 ((q : Int) + 1)) ∧ W.cell? ⟨g, o + p * 3 + 2, none⟩ = some (.int .i64 (a1 : Int)) ∧
    W.cell? ⟨g, o + q * 3, none⟩ = some (.int .i64 K2) ∧ W.cell? ⟨g, o + q * 3 + 1, none⟩ = some (.string P) ∧ W.cell? ⟨g, o + q * 3 + 2, none⟩ = some (.int .i64 (a2 : Int)) ∧ Hid (Below WB.heap.size WB W)))
  have D1 : Hid (∀ W, Below WB.heap.size WB W → Calls Try.prog 21 #[.agg #[.int .i64 K2, .string P, .int .i64 (a2 : Int)]] W fun x w' => x = .returned (.int .i64 (e2 : Int)) ∧ Below WB.heap.size WB w') := Lib.hid fun W h => (HE.out W).mono (by rintro e w' ⟨rfl, hb⟩; exact ⟨rfl, h.trans (hb.mono h.size)⟩)
  have HW : Hid (Below WB.heap.size WB (w.alloc (.cells #[.int .i64 (p : Int), .int .i64 ((q : Int) + 1), .bool nt, .bool b] 23)).drew) := Lib.hid (by rw [hWB]; exact Below.drew (Below.refl _ _))
  have HF : Hid (Below w.heap.size w WB) := Lib.hid (by rw [hWB]; exact below1 _ _)
  have HZ : Hid (w.heap.size ≤ WB.heap.size) := Lib.hid (by rw [hWB]; simp)
  clear hc hx hy hP hN hsc HE c3 d1 d2 d3 e1 h1 h2 hWB
  go_enter Try.func13, Try.ntmps13
  go_wp2_with fail
  go_region_held3 (fun w' => w'.cell? ⟨w.heap.size, 0, none⟩ = some (.int .i64 (p : Int)) ∧ w'.cell? ⟨w.heap.size, 1, none⟩ = some (.int .i64 ((q : Int) + 1)) ∧ w'.cell? ⟨g, o + p * 3 + 2, none⟩ = some (.int .i64 (a1 : Int)) ∧
    w'.cell? ⟨g, o + q * 3, none⟩ = some (.int .i64 K2) ∧ w'.cell? ⟨g, o + q * 3 + 1, none⟩ = some (.string P) ∧ w'.cell? ⟨g, o + q * 3 + 2, none⟩ = some (.int .i64 (a2 : Int)) ∧ Hid (Below WB.heap.size WB w')) (first | exact C.out _ HW.out | exact C.out _ ht1) (first
    | (go_at_call 21; refine (D1.out _ (by first | exact HW.out | (refine Hid.out ?_; assumption) | assumption)).mono ?_; rintro e w2 ⟨rfl, ht1⟩))
  go_wp2_with fail
  go_ret
  exact ⟨rfl, HF.out.trans (ht1.mono HZ.out)⟩
end Go.Proofs.Ytaaijenbcfjdlaa
