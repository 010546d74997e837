/-
  THE DOCUMENT's texts, Forced.
-/
import Derived.Test.YtkdaombcbcegfaaRefTree
namespace Go.Proofs.Ytkdaombcbcegfaa
open Go.RowKit Go.PlainAid

set_option maxRecDepth 100000 in
theorem rtexts_any (A B : List ByteArray) (hA : A.length ≤ 1048576) (u v : Value) (w : World) (h1 : StAt w u A) (h2 : StAt w v B) :
    Calls Try.prog 36 #[u, v] w fun e w' => e = .returned (.bool (decide (A = B))) ∧ Below w.heap.size w w' := by
  obtain ⟨a, ca, rfl, hr⟩ := h1
  obtain ⟨b, cb, rfl, hs⟩ := h2
  by_cases hl : A.length = B.length
  · have HR := Lib.hid hr
    have HS := Lib.hid hs
    obtain ⟨R, hR⟩ : ∃ R, R = decide (A = B) := ⟨_, rfl⟩
    rw [← hR]
    have HRR := Lib.hid hR
    rw [← hl] at HS ⊢
    have HL := Lib.hid hl
    obtain ⟨N, hN⟩ : ∃ N, N = A.length := ⟨_, rfl⟩
    rw [← hN] at HR HS hA ⊢
    have HN := Lib.hid hN
    have nn : ((N : Int) != (N : Int)) = false := bne_self_eq_false _
    clear hr hs hR hl hN
    go_enter Try.func36, Try.ntmps36
    go_wp2_with fail
    go_loopg [5] N (fun gn i wr => ∃ (q : Nat), gn = N - q ∧ q ≤ N ∧ i = .int .i64 (q : Int) ∧ Hid (R = decide (A.drop q = B.drop q)) ∧ Hid (Below w.heap.size w wr))
    case atStart => exact ⟨0, rfl, Nat.zero_le _, rfl, Lib.hid (by rw [HRR.out]; rfl), Lib.hid (Below.refl _ _)⟩
    case round =>
      obtain ⟨q, hgn, hq, rfl, HK, HB⟩ := hrel
      by_cases hlt : q < N
      · obtain ⟨x, hx⟩ : ∃ x, A[q]? = some x := ⟨_, List.getElem?_eq_getElem (by rw [← HN.out]; exact hlt)⟩
        obtain ⟨y, hy⟩ : ∃ x, B[q]? = some x := ⟨_, List.getElem?_eq_getElem (by rw [← HL.out, ← HN.out]; exact hlt)⟩
        obtain ⟨g, o, rfl, hg, hcx⟩ := HR.out (by omega)
        obtain ⟨g2, o2, rfl, hg2, hcy⟩ := HS.out (by omega)
        have c1 := (HB.out.cell (p := ⟨g, o + q, none⟩) hg).trans (hcx q x hx)
        have c2 := (HB.out.cell (p := ⟨g2, o2 + q, none⟩) hg2).trans (hcy q y hy)
        have qn : (q : Int) < (N : Int) := by omega
        have HK2 : Hid (R = decide (x :: A.drop (q + 1) = y :: B.drop (q + 1))) := Lib.hid (by rw [HK.out, drop_cons' hx, drop_cons' hy])
        clear hcx hcy hx hy HK
        cases he : (x.toList == y.toList)
        · have HF : Hid (false = R) := Lib.hid (by rw [HK2.out]; exact (decide_eq_false (fun e => ba_ne he (List.cons.inj e).1)).symm)
          have he' : (x.toList != y.toList) = true := by simp only [bne, he, Bool.not_false]
          go_wp2_with fail
          go_quiet (fail)
          have HB9 : Hid (Below w.heap.size w (wr.drewN nq)) := Lib.hid (HB.out.trans ((drew_below wr nq).mono HB.out.size))
          go_wp2_with fail
          go_ret
          exact ⟨ret_bool HF.out, HB9.out⟩
        · obtain rfl := ba_eq he
          have HF : Hid (R = decide (A.drop (q + 1) = B.drop (q + 1))) := Lib.hid (by rw [HK2.out]; simp)
          have he' : (x.toList != x.toList) = false := by simp only [bne, he, Bool.not_true]
          go_wp2_with fail
          go_quiet (fail)
          have HB9 : Hid (Below w.heap.size w (wr.drewN nq)) := Lib.hid (HB.out.trans ((drew_below wr nq).mono HB.out.size))
          go_wp2_with fail
          go_roundg (N - (q + 1))
          case measure => omega
          case rel => exact ⟨q + 1, rfl, hlt, by go_num, HF, HB9⟩
      · obtain rfl : q = N := by omega
        have HF : Hid (true = R) := Lib.hid (by rw [HK.out, List.drop_eq_nil_of_le (by rw [HN.out]; exact Nat.le_refl _), List.drop_eq_nil_of_le (by rw [← HL.out, HN.out]; exact Nat.le_refl _)]; rfl)
        go_wp2_with fail
        go_ret
        exact ⟨ret_bool HF.out, HB.out⟩
  · have hd : decide (A = B) = false := decide_eq_false (fun e => hl (by rw [e]))
    rw [hd]
    have ne : ((A.length : Int) != (B.length : Int)) = true := by simp; omega
    clear hr hs hd
    go_enter Try.func36, Try.ntmps36
    go_wp2_with fail
    go_ret
    exact ⟨rfl, Below.refl _ _⟩
set_option maxRecDepth 100000 in
set_option maxHeartbeats 4000000 in
theorem rforced_any : ∀ (m : Nat), m ≤ 1048576 → ∀ (n : Nd), cnt n ≤ m → ∀ (c : List Value) (w : World), NdAt w c n →
    Calls Try.prog 21 #[.agg c.toArray] w fun e w' => e = .returned (.bool (frc n)) ∧ Below w.heap.size w w'
  | 0, _, n, hn, _, _, _ => by have := cnt_pos n; omega
  | m + 1, hm, .mk k t l br bl no ta, hn, c, w, h => by
    obtain ⟨lv, nv, tv, cs, rfl, hno, hta, hl, hc⟩ := h.inv
    clear h
    simp only [cnt, frc] at hn ⊢
    obtain ⟨nva, nvc, rfl, -⟩ := hno
    obtain ⟨tva, tvc, rfl, -⟩ := hta
    have hl' := hl
    obtain ⟨a, cap, rfl, -⟩ := hl
    have HKID := Lib.hid (kids hl' hc)
    have HI : Hid (∀ i x c, l[i]? = some x → NdAt w c x → ∀ W, Below w.heap.size w W → Calls Try.prog 21 #[.agg c.toArray] W fun e w' => e = .returned (.bool (frc x)) ∧ Below W.heap.size W w') :=
      Lib.hid (fun i x c hx hc W hb => rforced_any m (by omega) x (by have := cnt_at hx; omega) c W (hc.bel hb))
    have hlen := len_cntL l
    obtain ⟨N, hN⟩ : ∃ N, N = l.length := ⟨_, rfl⟩
    rw [← hN] at hlen ⊢
    have HN := Lib.hid hN
    clear hc hl' hN
    by_cases hbr : br = true
    · subst hbr
      go_enter Try.func21, Try.ntmps21
      go_wp2_with fail
      go_ret
      exact ⟨by simp, below1 _ _⟩
    obtain rfl : br = false := by simpa using hbr
    clear hbr
    by_cases hnn : 0 < no.length
    · have d1 : decide (0 < no.length) = true := decide_eq_true hnn
      have hne : no.isEmpty = false := by cases no with | nil => simp at hnn | cons _ _ => rfl
      rw [hne]
      go_enter Try.func21, Try.ntmps21
      go_wp2_with fail
      go_ret
      exact ⟨by simp, below1 _ _⟩
    obtain rfl : no = [] := by cases no with | nil => rfl | cons _ _ => simp at hnn
    clear hnn
    by_cases htt : 0 < ta.length
    · have d1 : decide (0 < ta.length) = true := decide_eq_true htt
      have hne : ta.isEmpty = false := by cases ta with | nil => simp at htt | cons _ _ => rfl
      rw [hne]
      go_enter Try.func21, Try.ntmps21
      go_wp2_with fail
      go_ret
      exact ⟨by simp, below1 _ _⟩
    obtain rfl : ta = [] := by cases ta with | nil => rfl | cons _ _ => simp at htt
    clear htt
    obtain ⟨R, hR⟩ : ∃ R, R = frcL l := ⟨_, rfl⟩
    rw [← hR]
    have HRR := Lib.hid hR
    clear hR
    simp only [List.length_nil, List.isEmpty_nil, Bool.not_true, Bool.or_false, Bool.false_or]
    have HB0 : Hid (Below (w.alloc (.cells #[.int .i64 k, .string t, .slice a N cap, .bool false, .bool bl, .slice nva 0 nvc, .slice tva 0 tvc] 26)).heap.size (w.alloc (.cells #[.int .i64 k, .string t, .slice a N cap, .bool false, .bool bl, .slice nva 0 nvc, .slice tva 0 tvc] 26)) (w.alloc (.cells #[.int .i64 k, .string t, .slice a N cap, .bool false, .bool bl, .slice nva 0 nvc, .slice tva 0 tvc] 26))) := Lib.hid (Below.refl _ _)
    go_enter Try.func21, Try.ntmps21
    go_wp2_with fail
    go_loopg [3] N (fun gn i wr => ∃ (q : Nat), gn = N - q ∧ q ≤ N ∧ i = .int .i64 (q : Int) ∧ Hid (R = frcL (l.drop q)) ∧
      Hid (Below (w.alloc (.cells #[.int .i64 k, .string t, .slice a N cap, .bool false, .bool bl, .slice nva 0 nvc, .slice tva 0 tvc] 26)).heap.size (w.alloc (.cells #[.int .i64 k, .string t, .slice a N cap, .bool false, .bool bl, .slice nva 0 nvc, .slice tva 0 tvc] 26)) wr))
    case atStart => exact ⟨0, rfl, Nat.zero_le _, rfl, Lib.hid (by rw [List.drop_zero, HRR.out]), HB0⟩
    case round =>
      obtain ⟨q, hgn, hq, rfl, HK, HB⟩ := hrel
      obtain ⟨d0, d1, d2, d3, d4, d5, d6⟩ := nd_cells HB.out
      have HBw : Hid (Below w.heap.size w wr) := Lib.hid ((below1 w _).trans (HB.out.mono (by simp)))
      by_cases hlt : q < N
      · obtain ⟨x, hx⟩ : ∃ x, l[q]? = some x := ⟨_, List.getElem?_eq_getElem (by rw [← HN.out]; exact hlt)⟩
        obtain ⟨g, o, k', t', lv', br', bl', nv', tv', rfl, hnd, hcell⟩ := HKID.out q x hx
        obtain ⟨e0, e1, e2, e3, e4, e5, e6⟩ := hcell wr HBw.out
        have HI1 := Lib.hid (HI.out q x _ hx hnd wr HBw.out)
        have qn : (q : Int) < (N : Int) := by omega
        have HK2 : Hid (R = (frc x || frcL (l.drop (q + 1)))) := Lib.hid (by rw [HK.out, frcL_drop hx])
        obtain ⟨y, hy⟩ : ∃ y, y = frc x := ⟨_, rfl⟩
        rw [← hy] at HI1 HK2
        clear hcell hx hnd hy HK
        cases y
        · have HK3 : Hid (R = frcL (l.drop (q + 1))) := Lib.hid (by rw [HK2.out, Bool.false_or])
          go_wp2_with fail
          refine HI1.out.mono ?_
          rintro e w1 ⟨rfl, hb1⟩
          have HB1 := Lib.hid (HB.out.trans (hb1.mono HB.out.size))
          clear hb1
          go_wp2_with fail
          go_roundg (N - (q + 1))
          case measure => omega
          case rel => exact ⟨q + 1, rfl, hlt, by go_num, HK3, HB1⟩
        · have HF : Hid (true = R) := Lib.hid (by rw [HK2.out, Bool.true_or])
          go_wp2_with fail
          refine HI1.out.mono ?_
          rintro e w1 ⟨rfl, hb1⟩
          have HB1 := Lib.hid (HBw.out.trans (hb1.mono HBw.out.size))
          clear hb1
          go_wp2_with fail
          go_ret
          exact ⟨ret_bool HF.out, HB1.out⟩
      · obtain rfl : q = N := by omega
        have HF : Hid (false = R) := Lib.hid (by rw [HK.out, List.drop_eq_nil_of_le (by rw [HN.out]; exact Nat.le_refl _)]; simp only [frcL])
        go_wp2_with fail
        go_ret
        exact ⟨ret_bool HF.out, HBw.out⟩
end Go.Proofs.Ytkdaombcbcegfaa
