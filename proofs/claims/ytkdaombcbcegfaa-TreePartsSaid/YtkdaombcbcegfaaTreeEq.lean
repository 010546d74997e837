/-
  THE PROGRAM's slices.Equal, like: what two nodes have of their own.
-/
import Derived.Test.YtkdaombcbcegfaaTreeUse
import Derived.Test.YtkdaombcbcegfaaRefTreeB
namespace Go.Proofs.Ytkdaombcbcegfaa
open Go.RowKit Go.PlainAid

theorem drewN_add (w : World) (m n : Nat) : (w.drewN m).drewN n = w.drewN (m + n) := World.drewN_drewN w m n
set_option maxRecDepth 100000 in
theorem sequal_any (A B : List ByteArray) (hA : A.length ≤ 1048576) (u v : Value) (w : World) (h1 : StAt w u A) (h2 : StAt w v B) :
    Calls Try.prog 35 #[u, v] w fun e w' => e = .returned (.bool (decide (A = B))) ∧ ∃ m, w' = w.drewN m := by
  obtain ⟨a, ca, rfl, hr⟩ := h1
  obtain ⟨b, cb, rfl, hs⟩ := h2
  by_cases hl : A.length = B.length
  · have HR := Lib.hid hr
    have HS := Lib.hid hs
    obtain ⟨R, hR⟩ : ∃ R, R = decide (A = B) := ⟨_, rfl⟩
    rw [← hR]
    have HRR := Lib.hid hR
    rw [← hl] at HS ⊢
    have HL := Lib.hid hl
    obtain ⟨N, hN⟩ : ∃ N, N = A.length := ⟨_, rfl⟩
    rw [← hN] at HR HS hA ⊢
    have HN := Lib.hid hN
    have nn : ((N : Int) != (N : Int)) = false := bne_self_eq_false _
    clear hr hs hR hl hN
    go_enter Try.func35, Try.ntmps35
    go_wp2_with fail
    go_loopg [5, 13] N (fun gn z i wr => ∃ (q : Nat), gn = N - q ∧ q ≤ N ∧ i = .int .i64 (q : Int) ∧ Hid (R = decide (A.drop q = B.drop q)) ∧ Hid (∃ m, wr = w.drewN m))
    case atStart => exact ⟨0, rfl, Nat.zero_le _, rfl, Lib.hid (by rw [HRR.out]; rfl), Lib.hid ⟨0, rfl⟩⟩
    case round =>
      obtain ⟨q, hgn, hq, rfl, HK, HB⟩ := hrel
      by_cases hlt : q < N
      · obtain ⟨x, hx⟩ : ∃ x, A[q]? = some x := ⟨_, List.getElem?_eq_getElem (by rw [← HN.out]; exact hlt)⟩
        obtain ⟨y, hy⟩ : ∃ x, B[q]? = some x := ⟨_, List.getElem?_eq_getElem (by rw [← HL.out, ← HN.out]; exact hlt)⟩
        obtain ⟨g, o, rfl, hg, hcx⟩ := HR.out (by omega)
        obtain ⟨g2, o2, rfl, hg2, hcy⟩ := HS.out (by omega)
        obtain ⟨m0, hm0⟩ := HB.out
        have c1 : wr.cell? ⟨g, o + q, none⟩ = some (.string x) := by rw [hm0]; exact hcx q x hx
        have c2 : wr.cell? ⟨g2, o2 + q, none⟩ = some (.string y) := by rw [hm0]; exact hcy q y hy
        have qn : (q : Int) < (N : Int) := by omega
        have HK2 : Hid (R = decide (x :: A.drop (q + 1) = y :: B.drop (q + 1))) := Lib.hid (by rw [HK.out, drop_cons' hx, drop_cons' hy])
        clear hcx hcy hx hy HK hm0
        cases he : (x.toList == y.toList)
        · have HF : Hid (false = R) := Lib.hid (by rw [HK2.out]; exact (decide_eq_false (fun e => ba_ne he (List.cons.inj e).1)).symm)
          have he' : (x.toList != y.toList) = true := by simp only [bne, he, Bool.not_false]
          go_wp2_with fail
          go_quiet (fail)
          have HB9 : Hid (∃ m, wr.drewN nq = w.drewN m) := Lib.hid (by obtain ⟨m, hm⟩ := HB.out; exact ⟨m + nq, by rw [hm]; exact drewN_add w m nq⟩)
          go_wp2_with fail
          go_ret
          exact ⟨ret_bool HF.out, HB9.out⟩
        · obtain rfl := ba_eq he
          have HF : Hid (R = decide (A.drop (q + 1) = B.drop (q + 1))) := Lib.hid (by rw [HK2.out]; simp)
          have he' : (x.toList != x.toList) = false := by simp only [bne, he, Bool.not_true]
          go_wp2_with fail
          go_quiet (fail)
          have HB9 : Hid (∃ m, wr.drewN nq = w.drewN m) := Lib.hid (by obtain ⟨m, hm⟩ := HB.out; exact ⟨m + nq, by rw [hm]; exact drewN_add w m nq⟩)
          go_wp2_with fail
          go_roundg (N - (q + 1))
          case measure => omega
          case rel => exact ⟨q + 1, rfl, hlt, by go_num, HF, HB9⟩
      · obtain rfl : q = N := by omega
        have HF : Hid (true = R) := Lib.hid (by rw [HK.out, List.drop_eq_nil_of_le (by rw [HN.out]; exact Nat.le_refl _), List.drop_eq_nil_of_le (by rw [← HL.out, HN.out]; exact Nat.le_refl _)]; rfl)
        go_wp2_with fail
        go_ret
        exact ⟨ret_bool HF.out, HB.out⟩
  · have hd : decide (A = B) = false := decide_eq_false (fun e => hl (by rw [e]))
    rw [hd]
    have ne : ((A.length : Int) != (B.length : Int)) = true := by simp; omega
    clear hr hs hd
    go_enter Try.func35, Try.ntmps35
    go_wp2_with fail
    go_ret
    exact ⟨rfl, 0, rfl⟩
/-- What two nodes have of their own. -/
def lkw (all : Bool) : Nd → Nd → Bool
  | .mk k t _ br bl no ta, .mk k' t' _ br' bl' no' ta' => k == k' && t.toList == t'.toList && bl == bl' && (!all || br == br') && decide (no = no') && decide (ta = ta')
theorem lk_own (all : Bool) (x y : Nd) : lk all x y = (lkw all x y && lkL all (pts x) (pts y)) := by cases x; cases y; rfl
theorem stq {w : World} {v : Value} {L : List ByteArray} (h : StAt w v L) (n : Nat) : StAt (w.drewN n) v L := h
set_option maxRecDepth 100000 in
set_option maxHeartbeats 4000000 in
theorem likep_any {P P2 : Nat → Prop} (x y : Nd) (g o g2 o2 : Nat) (w : World) (h1 : NIn w P g o x) (h2 : NIn w P2 g2 o2 y) (hs1 : (noa x).length ≤ 1048576) (hs2 : (tla x).length ≤ 1048576) :
    Calls Try.prog 31 #[.pointer (some ⟨g, o, none⟩), .pointer (some ⟨g2, o2, none⟩)] w fun e w' => e = .returned (.bool (lkw false x y)) ∧ ∃ m, w' = w.drewN m := by
  cases x with
  | mk k t l br bl no ta =>
  cases y with
  | mk k' t' l' br' bl' no' ta' =>
    obtain ⟨a, cap, nv, tv, ⟨c0, c1, -, -, c4, c5, c6⟩, sn, st, -⟩ := h1.open
    obtain ⟨a', cap', nv', tv', ⟨d0, d1, -, -, d4, d5, d6⟩, sn', st', -⟩ := h2.open
    simp only [noa] at hs1
    simp only [tla] at hs2
    simp only [lkw]
    obtain ⟨bn, hbn⟩ : ∃ b, b = decide (no = no') := ⟨_, rfl⟩
    obtain ⟨bt, hbt⟩ : ∃ b, b = decide (ta = ta') := ⟨_, rfl⟩
    rw [← hbn, ← hbt]
    have EN := Lib.hid (fun n => sequal_any no no' hs1 nv nv' (w.drewN n) (stq sn.at n) (stq sn'.at n))
    have ET := Lib.hid (fun n => sequal_any ta ta' hs2 tv tv' (w.drewN n) (stq st.at n) (stq st'.at n))
    rw [← hbn] at EN
    rw [← hbt] at ET
    obtain ⟨na, nc, rfl, -⟩ := sn
    obtain ⟨na', nc', rfl, -⟩ := sn'
    obtain ⟨ta2, tc, rfl, -⟩ := st
    obtain ⟨ta2', tc', rfl, -⟩ := st'
    clear h1 h2 hs1 hs2 hbn hbt
    cases hk : (k == k')
    · go_enter Try.func31, Try.ntmps31
      go_wp2_with fail
      go_quiet (fail)
      go_wp2_with fail
      go_ret
      exact ⟨rfl, _, rfl⟩
    · cases ht : (t.toList == t'.toList)
      · go_enter Try.func31, Try.ntmps31
        go_wp2_with fail
        go_quiet (fail)
        go_wp2_with fail
        go_ret
        exact ⟨rfl, _, rfl⟩
      · cases hb : (bl == bl')
        · go_enter Try.func31, Try.ntmps31
          go_wp2_with fail
          go_quiet (fail)
          go_wp2_with fail
          go_ret
          exact ⟨rfl, _, rfl⟩
        · cases bn
          · go_enter Try.func31, Try.ntmps31
            go_wp2_with fail
            go_quiet (first | (go_at_call 35; exact Calls.quiet_of (EN.out _)))
            go_wp2_with fail
            go_ret
            exact ⟨rfl, _, rfl⟩
          · go_enter Try.func31, Try.ntmps31
            go_wp2_with fail
            go_quiet (first | (go_at_call 35; with_reducible exact Calls.quiet_of (EN.out _)) | (go_at_call 35; with_reducible exact Calls.quiet_of (ET.out _)))
            go_wp2_with fail
            go_ret
            exact ⟨rfl, _, rfl⟩
end Go.Proofs.Ytkdaombcbcegfaa
