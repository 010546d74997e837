/-
  THE DOCUMENT's Lits.
-/
import Derived.Test.YtkdaombcbcegfaaRefNotes
namespace Go.Proofs.Ytkdaombcbcegfaa
open Go.RowKit Go.PlainAid

theorem st_one (w : World) (t : ByteArray) : StAt (w.alloc (.cells #[.string t] 9)) (.slice (some ⟨w.heap.size, 0, none⟩) 1 1) [t] := by
  refine ⟨some ⟨w.heap.size, 0, none⟩, 1, rfl, fun _ => ⟨w.heap.size, 0, rfl, by simp, fun i x hx => ?_⟩⟩
  match i, hx with
  | 0, hx =>
    simp only [List.getElem?_cons_zero, Option.some.injEq] at hx
    subst hx
    rw [cell_of_row (w.alloc _) w.heap.size 0 _ 9 (0, 0) (by show (w.heap.push _)[w.heap.size]? = _; rw [Array.getElem?_push, if_pos rfl])]
    rfl
  | i + 1, hx => simp at hx
set_option maxRecDepth 100000 in
set_option maxHeartbeats 4000000 in
theorem rlits_any : ∀ (m : Nat), m ≤ 1048576 → ∀ (n : Nd), cnt n ≤ m → (lts n).length ≤ 1048576 → ∀ (c : List Value) (w : World), NdAt w c n →
    Calls Try.prog 19 #[.agg c.toArray] w fun e w' => StsAre w (lts n) e w'
  | 0, _, n, hn, _, _, _, _ => by have := cnt_pos n; omega
  | m + 1, hm, .mk k t l br bl no ta, hn, hz, c, w, h => by
    obtain ⟨lv, nv, tv, cs, rfl, -, -, hl, hc⟩ := h.inv
    clear h
    simp only [cnt] at hn
    simp only [lts, List.length_append] at hz
    simp only [lts]
    have hl' := hl
    obtain ⟨a, cap, rfl, -⟩ := hl
    have HKID := Lib.hid (kids hl' hc)
    have HI : Hid (∀ i x c, l[i]? = some x → NdAt w c x → ∀ W, Below w.heap.size w W → Calls Try.prog 19 #[.agg c.toArray] W fun e w' => StsAre W (lts x) e w') :=
      Lib.hid (fun i x c hx hc W hb => rlits_any m (by omega) x (by have := cnt_at hx; omega) (by have := lts_at hx; omega) c W (hc.bel hb))
    have hlen := len_cntL l
    obtain ⟨N, hN⟩ : ∃ N, N = l.length := ⟨_, rfl⟩
    rw [← hN] at hlen ⊢
    have HN := Lib.hid hN
    clear hc hl' hN
    obtain ⟨R, hR⟩ : ∃ R, R = (if k == 1 then [t] else []) ++ ltsL l := ⟨_, rfl⟩
    rw [← hR]
    have HRR := Lib.hid hR
    have HZR : Hid (R.length ≤ 1048576) := Lib.hid (by rw [hR]; simp only [List.length_append]; exact hz)
    obtain ⟨Z, hZ⟩ : ∃ Z, Z = (w.alloc (.cells #[.int .i64 k, .string t, .slice a N cap, .bool br, .bool bl, nv, tv] 26)) := ⟨_, rfl⟩
    have hs : Z.heap.size = w.heap.size + 1 := by rw [hZ]; simp
    have HU : Hid (Below w.heap.size w Z) := Lib.hid (by rw [hZ]; exact below1 _ _)
    have UP := Lib.hid (fun W (h : Below Z.heap.size Z W) => HU.out.trans (h.mono HU.out.size))
    have HC := Lib.hid (fun W (hb : Below Z.heap.size Z W) => nd_cells (by rw [hZ] at hb; exact hb))
    have HB1 : Hid (Below Z.heap.size Z (w.alloc (.cells #[.int .i64 k, .string t, .slice a N cap, .bool br, .bool bl, nv, tv] 26))) := Lib.hid (by rw [← hZ]; exact Below.refl _ _)
    have HB7 : Hid (Below Z.heap.size Z ((w.alloc (.cells #[.int .i64 k, .string t, .slice a N cap, .bool br, .bool bl, nv, tv] 26)).alloc (.cells #[.string t] 9))) := Lib.hid (by rw [← hZ]; exact below1 _ _)
    have HST : Hid (StAt ((w.alloc (.cells #[.int .i64 k, .string t, .slice a N cap, .bool br, .bool bl, nv, tv] 26)).alloc (.cells #[.string t] 9)) (.slice (some ⟨w.heap.size + 1, 0, none⟩) 1 1) [t]) := Lib.hid (by
      have := st_one (w.alloc (.cells #[.int .i64 k, .string t, .slice a N cap, .bool br, .bool bl, nv, tv] 26)) t
      rw [show (w.alloc (.cells #[.int .i64 k, .string t, .slice a N cap, .bool br, .bool bl, nv, tv] 26)).heap.size = w.heap.size + 1 by simp] at this
      exact this)
    obtain ⟨d0, d1, d2, d3, d4, d5, d6⟩ := HC.out _ HB1.out
    have HS := Lib.hid hs
    clear hZ hR hz hs
    cases hk1 : (k == 1)
    · have HRR : Hid (R = [] ++ ltsL l) := Lib.hid (by rw [HRR.out, hk1]; rfl)
      go_enter Try.func19, Try.ntmps19
      go_wp2_with fail
      go_loopg [3, 4] N (fun gn z i wr => ∃ (q : Nat) (I : List ByteArray), gn = N - q ∧ q ≤ N ∧ i = .int .i64 (q : Int) ∧ Hid (Txs wr Z.heap.size z I) ∧ Hid (Below Z.heap.size Z wr) ∧ Hid (R = I ++ ltsL (l.drop q)))
      case atStart => exact ⟨0, [], rfl, Nat.zero_le _, rfl, Lib.hid (txs_nil _ _), HB1, Lib.hid (by rw [HRR.out, List.drop_zero])⟩
      case round =>
        obtain ⟨q, I, hgn, hq, rfl, HSI, HB, HK⟩ := hrel
        clear d0 d1 d2 d3 d4 d5 d6
        obtain ⟨d0, d1, d2, d3, d4, d5, d6⟩ := HC.out _ HB.out
        have HBw : Hid (Below w.heap.size w wr) := Lib.hid (UP.out _ HB.out)
        by_cases hlt : q < N
        · obtain ⟨x, hx⟩ : ∃ x, l[q]? = some x := ⟨_, List.getElem?_eq_getElem (by rw [← HN.out]; exact hlt)⟩
          obtain ⟨g, o, k', t', lv', br', bl', nv', tv', rfl, hnd, hcell⟩ := HKID.out q x hx
          obtain ⟨e0, e1, e2, e3, e4, e5, e6⟩ := hcell wr HBw.out
          have HI1 := Lib.hid (HI.out q x _ hx hnd wr HBw.out)
          have qn : (q : Int) < (N : Int) := by omega
          have HK2 : Hid (R = I ++ lts x ++ ltsL (l.drop (q + 1))) := Lib.hid (by rw [HK.out, ltsL_drop hx]; simp)
          obtain ⟨y, hy⟩ : ∃ y, y = lts x := ⟨_, rfl⟩
          rw [← hy] at HI1 HK2
          have HLE : Hid (I.length + y.length ≤ 1048576) := Lib.hid (by have := HZR.out; rw [HK2.out] at this; simp only [List.length_append] at this; omega)
          clear hcell hx hnd hy HK
          go_wp2_with fail
          refine HI1.out.mono ?_
          rintro e w1 ⟨vx, rfl, hsx, hb1⟩
          have HST := Lib.hid (txs_st hsx)
          have HOW := Lib.hid (HSI.out.bel hb1)
          have HB3 := Lib.hid (HB.out.trans (hb1.mono HB.out.size))
          clear hsx hb1
          go_wp2_with (at_builtin; go_must (refine wpList_append_st rfl _ _ rfl Z.heap.size _ I rfl HOW.out _ y rfl HST.out HLE.out HB3.out.size ?_); intro v4 w4 hsk hgr; have HSK4 := Lib.hid hsk; have HB4 := Lib.hid (txs_grown HB3.out HOW.out hgr); clear hsk hgr)
          go_roundg (N - (q + 1))
          case measure => omega
          case rel => exact ⟨q + 1, I ++ y, rfl, hlt, by go_num, HSK4, HB4, HK2⟩
        · obtain rfl : q = N := by omega
          have HF : Hid (R = I) := Lib.hid (by rw [HK.out, List.drop_eq_nil_of_le (by rw [HN.out]; exact Nat.le_refl _)]; simp [ltsL])
          go_wp2_with fail
          go_ret
          exact ⟨_, rfl, txs_weak (by rw [HF.out]; exact HSI.out) HU.out.size, UP.out _ HB.out⟩
    · have HRR : Hid (R = [t] ++ ltsL l) := Lib.hid (by rw [HRR.out, hk1]; rfl)
      go_enter Try.func19, Try.ntmps19
      go_wp2_with (at_builtin; go_must (refine wpList_append_st rfl _ _ rfl Z.heap.size _ [] rfl (txs_nil _ _) _ [t] rfl HST.out (by simp) HB7.out.size ?_); intro v1 w2 hsk hgr; have HSK := Lib.hid hsk; have HB2 := Lib.hid (txs_grown HB7.out (txs_nil _ _) hgr); clear hsk hgr)
      go_loopg [3, 4] N (fun gn z i wr => ∃ (q : Nat) (I : List ByteArray), gn = N - q ∧ q ≤ N ∧ i = .int .i64 (q : Int) ∧ Hid (Txs wr Z.heap.size z I) ∧ Hid (Below Z.heap.size Z wr) ∧ Hid (R = I ++ ltsL (l.drop q)))
      case atStart => exact ⟨0, [t], rfl, Nat.zero_le _, rfl, by simpa using HSK, HB2, Lib.hid (by rw [HRR.out, List.drop_zero])⟩
      case round =>
        obtain ⟨q, I, hgn, hq, rfl, HSI, HB, HK⟩ := hrel
        clear d0 d1 d2 d3 d4 d5 d6
        obtain ⟨d0, d1, d2, d3, d4, d5, d6⟩ := HC.out _ HB.out
        have HBw : Hid (Below w.heap.size w wr) := Lib.hid (UP.out _ HB.out)
        by_cases hlt : q < N
        · obtain ⟨x, hx⟩ : ∃ x, l[q]? = some x := ⟨_, List.getElem?_eq_getElem (by rw [← HN.out]; exact hlt)⟩
          obtain ⟨g, o, k', t', lv', br', bl', nv', tv', rfl, hnd, hcell⟩ := HKID.out q x hx
          obtain ⟨e0, e1, e2, e3, e4, e5, e6⟩ := hcell wr HBw.out
          have HI1 := Lib.hid (HI.out q x _ hx hnd wr HBw.out)
          have qn : (q : Int) < (N : Int) := by omega
          have HK2 : Hid (R = I ++ lts x ++ ltsL (l.drop (q + 1))) := Lib.hid (by rw [HK.out, ltsL_drop hx]; simp)
          obtain ⟨y, hy⟩ : ∃ y, y = lts x := ⟨_, rfl⟩
          rw [← hy] at HI1 HK2
          have HLE : Hid (I.length + y.length ≤ 1048576) := Lib.hid (by have := HZR.out; rw [HK2.out] at this; simp only [List.length_append] at this; omega)
          clear hcell hx hnd hy HK
          go_wp2_with fail
          refine HI1.out.mono ?_
          rintro e w1 ⟨vx, rfl, hsx, hb1⟩
          have HST := Lib.hid (txs_st hsx)
          have HOW := Lib.hid (HSI.out.bel hb1)
          have HB3 := Lib.hid (HB.out.trans (hb1.mono HB.out.size))
          clear hsx hb1
          go_wp2_with (at_builtin; go_must (refine wpList_append_st rfl _ _ rfl Z.heap.size _ I rfl HOW.out _ y rfl HST.out HLE.out HB3.out.size ?_); intro v4 w4 hsk hgr; have HSK4 := Lib.hid hsk; have HB4 := Lib.hid (txs_grown HB3.out HOW.out hgr); clear hsk hgr)
          go_roundg (N - (q + 1))
          case measure => omega
          case rel => exact ⟨q + 1, I ++ y, rfl, hlt, by go_num, HSK4, HB4, HK2⟩
        · obtain rfl : q = N := by omega
          have HF : Hid (R = I) := Lib.hid (by rw [HK.out, List.drop_eq_nil_of_le (by rw [HN.out]; exact Nat.le_refl _)]; simp [ltsL])
          go_wp2_with fail
          go_ret
          exact ⟨_, rfl, txs_weak (by rw [HF.out]; exact HSI.out) HU.out.size, UP.out _ HB.out⟩
end Go.Proofs.Ytkdaombcbcegfaa
