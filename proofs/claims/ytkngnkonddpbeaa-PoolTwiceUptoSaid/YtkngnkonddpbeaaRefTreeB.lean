/-
  THE DOCUMENT's texts, Forced.
-/
import Derived.Test.YtkngnkonddpbeaaRefTree
namespace Go.Proofs.Ytkngnkonddpbeaa
open Go.RowKit Go.PlainAid

set_option maxRecDepth 100000 in
theorem rtexts_any (A B : List ByteArray) (hA : A.length ≤ 1048576) (u v : Value) (w : World) (h1 : StAt w u A) (h2 : StAt w v B) :
    Calls Try.prog 20 #[u, v] w fun e w' => e = .returned (.bool (decide (A = B))) ∧ Below w.heap.size w w' := by
  obtain ⟨a, ca, rfl, hr⟩ := h1
  obtain ⟨b, cb, rfl, hs⟩ := h2
  by_cases hl : A.length = B.length
  · have HR := Lib.hid hr
    have HS := Lib.hid hs
    obtain ⟨R, hR⟩ : ∃ R, R = decide (A = B) := ⟨_, rfl⟩
    rw [← hR]
    have HRR := Lib.hid hR
    rw [← hl] at HS ⊢
    have HL := Lib.hid hl
    obtain ⟨N, hN⟩ : ∃ N, N = A.length := ⟨_, rfl⟩
    rw [← hN] at HR HS hA ⊢
    have HN := Lib.hid hN
    have nn : ((N : Int) != (N : Int)) = false := bne_self_eq_false _
    clear hr hs hR hl hN
    go_enter Try.func20, Try.ntmps20
    go_wp2_with fail
    go_loopg [5] N (fun gn i wr => ∃ (q : Nat), gn = N - q ∧ q ≤ N ∧ i = .int .i64 (q : Int) ∧ Hid (R = decide (A.drop q = B.drop q)) ∧ Hid (Below w.heap.size w wr))
    case atStart => exact ⟨0, rfl, Nat.zero_le _, rfl, Lib.hid (by rw [HRR.out]; rfl), Lib.hid (Below.refl _ _)⟩
    case round =>
      obtain ⟨q, hgn, hq, rfl, HK, HB⟩ := hrel
      by_cases hlt : q < N
      · obtain ⟨x, hx⟩ : ∃ x, A[q]? = some x := ⟨_, List.getElem?_eq_getElem (by rw [← HN.out]; exact hlt)⟩
        obtain ⟨y, hy⟩ : ∃ x, B[q]? = some x := ⟨_, List.getElem?_eq_getElem (by rw [← HL.out, ← HN.out]; exact hlt)⟩
        obtain ⟨g, o, rfl, hg, hcx⟩ := HR.out (by omega)
        obtain ⟨g2, o2, rfl, hg2, hcy⟩ := HS.out (by omega)
        have c1 := (HB.out.cell (p := ⟨g, o + q, none⟩) hg).trans (hcx q x hx)
        have c2 := (HB.out.cell (p := ⟨g2, o2 + q, none⟩) hg2).trans (hcy q y hy)
        have qn : (q : Int) < (N : Int) := by omega
        have HK2 : Hid (R = decide (x :: A.drop (q + 1) = y :: B.drop (q + 1))) := Lib.hid (by rw [HK.out, drop_cons' hx, drop_cons' hy])
        clear hcx hcy hx hy HK
        cases he : (x.toList == y.toList)
        · have HF : Hid (false = R) := Lib.hid (by rw [HK2.out]; exact (decide_eq_false (fun e => ba_ne he (List.cons.inj e).1)).symm)
          have he' : (x.toList != y.toList) = true := by simp only [bne, he, Bool.not_false]
          go_wp2_with fail
          go_quiet (fail)
          have HB9 : Hid (Below w.heap.size w (wr.drewN nq)) := Lib.hid (HB.out.trans ((drew_below wr nq).mono HB.out.size))
          go_wp2_with fail
          go_ret
          exact ⟨ret_bool HF.out, HB9.out⟩
        · obtain rfl := ba_eq he
          have HF : Hid (R = decide (A.drop (q + 1) = B.drop (q + 1))) := Lib.hid (by rw [HK2.out]; simp)
          have he' : (x.toList != x.toList) = false := by simp only [bne, he, Bool.not_true]
          go_wp2_with fail
          go_quiet (fail)
          have HB9 : Hid (Below w.heap.size w (wr.drewN nq)) := Lib.hid (HB.out.trans ((drew_below wr nq).mono HB.out.size))
          go_wp2_with fail
          go_roundg (N - (q + 1))
          case measure => omega
          case rel => exact ⟨q + 1, rfl, hlt, by go_num, HF, HB9⟩
      · obtain rfl : q = N := by omega
        have HF : Hid (true = R) := Lib.hid (by rw [HK.out, List.drop_eq_nil_of_le (by rw [HN.out]; exact Nat.le_refl _), List.drop_eq_nil_of_le (by rw [← HL.out, HN.out]; exact Nat.le_refl _)]; rfl)
        go_wp2_with fail
        go_ret
        exact ⟨ret_bool HF.out, HB.out⟩
  · have hd : decide (A = B) = false := decide_eq_false (fun e => hl (by rw [e]))
    rw [hd]
    have ne : ((A.length : Int) != (B.length : Int)) = true := by simp; omega
    clear hr hs hd
    go_enter Try.func20, Try.ntmps20
    go_wp2_with fail
    go_ret
    exact ⟨rfl, Below.refl _ _⟩
end Go.Proofs.Ytkngnkonddpbeaa
