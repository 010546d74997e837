/-
  THE DOCUMENT's right of documents.
-/
import Derived.Test.YtbjgoigdhijbgaaDoorRefDocB
set_option linter.all false
namespace Go.Proofs.YtbjgoigdhijbgaaDoor
open Go.RowKit Go.PlainAid

theorem has10 (t : ByteArray) : t.data.toList.contains 10 = true ↔ ∃ j, j < t.size ∧ bt t j = 10 := by
  rw [List.contains_iff_mem, Array.mem_toList_iff, Array.mem_iff_getElem]
  constructor
  · rintro ⟨j, hj, e⟩
    refine ⟨j, hj, ?_⟩
    have hj' : j < t.size := hj
    unfold bt
    rw [dif_pos hj']
    have : t[j]'hj' = 10 := e
    rw [this]; rfl
  · rintro ⟨j, hj, e⟩
    refine ⟨j, hj, ?_⟩
    unfold bt at e
    rw [dif_pos hj] at e
    have e2 : (t[j]'hj).toNat = 10 := by omega
    exact UInt8.toNat_inj.1 e2
theorem has10_no {t : ByteArray} (h : ∀ j, j < t.size → bt t j ≠ 10) : t.data.toList.contains 10 = false := by
  cases e : t.data.toList.contains 10
  · rfl
  · obtain ⟨j, hj, h10⟩ := (has10 t).1 e
    exact absurd h10 (h j hj)
set_option maxRecDepth 100000 in
set_option maxHeartbeats 4000000 in
theorem right_text (n : Int) (t : ByteArray) (a : Option Addr) (N cap : Nat) (w : World) (ht : t.size ≤ 1048576) (hN : N ≤ 1048576) :
    Calls Tryd.prog 32 #[.agg #[.int .i64 1, .int .i64 n, .string t, .slice a N cap]] w fun e w' => e = .returned (.bool (n == 0 && decide (N = 0) && !t.data.toList.contains 10)) ∧ Below w.heap.size w w' := by
  obtain ⟨R, hR⟩ : ∃ R, R = (n == 0 && decide (N = 0) && !t.data.toList.contains 10) := ⟨_, rfl⟩
  rw [← hR]
  have HR := Lib.hid hR
  clear hR
  have gb := Lib.hid (get_bt t)
  have eN : ((N : Int) == 0) = decide (N = 0) := by by_cases h : N = 0 <;> simp [h] <;> omega
  obtain ⟨T, hT⟩ : ∃ T, T = t.size := ⟨_, rfl⟩
  have HT := Lib.hid hT
  rw [← hT] at ht
  obtain ⟨Z, hZ⟩ : ∃ Z, Z = w.alloc (.cells #[.int .i64 1, .int .i64 n, .string t, .slice a N cap] 24) := ⟨_, rfl⟩
  have hbW : Below w.heap.size w Z := by rw [hZ]; exact below1 _ _
  have HB0 : Hid (Below Z.heap.size Z (w.alloc (.cells #[.int .i64 1, .int .i64 n, .string t, .slice a N cap] 24))) := Lib.hid (by rw [← hZ]; exact Below.refl _ _)
  have HC := Lib.hid (fun W (hb : Below Z.heap.size Z W) => dc_cells (by rw [hZ] at hb; exact hb))
  have UP := Lib.hid (fun W (h : Below Z.heap.size Z W) => hbW.trans (h.mono hbW.size))
  obtain ⟨d0, d1, d2, d3⟩ := HC.out _ HB0.out
  clear hZ hbW
  clear hT d0 d1 d2 d3
  have CC := Lib.hid (fun W (hb : Below Z.heap.size Z W) => HC.out W hb)
  obtain ⟨d0, d1, d2, d3⟩ := HC.out _ HB0.out
  go_enter Tryd.func32, Tryd.ntmps32
  go_wp2_with fail
  go_loopg [3] T (fun gn i wr => ∃ (q : Nat), gn = T - q ∧ q ≤ T ∧ i = .int .i64 (q : Int) ∧ Hid (∀ j, j < q → bt t j ≠ 10) ∧ Hid (Below Z.heap.size Z wr))
  case atStart => exact ⟨0, rfl, Nat.zero_le _, rfl, Lib.hid (fun j hj => absurd hj (by omega)), HB0⟩
  case round =>
    obtain ⟨q, hgn, hq, rfl, HS, HB⟩ := hrel
    obtain ⟨d0, d1, d2, d3⟩ := CC.out _ HB.out
    have HBw : Hid (Below w.heap.size w wr) := Lib.hid (UP.out _ HB.out)
    by_cases hlt : q < T
    · have qn : (q : Int) < (t.size : Int) := by rw [← HT.out]; omega
      have qs : q < t.size := by omega
      have hb := gb.out q qs
      by_cases h10 : bt t q = 10
      · have HF : Hid (false = R) := Lib.hid (by rw [HR.out, (has10 t).2 ⟨q, qs, h10⟩]; simp)
        rw [h10] at hb
        go_wp2_with fail
        go_ret
        exact ⟨retB HF.out, HBw.out⟩
      · have HS2 : Hid (∀ j, j < q + 1 → bt t j ≠ 10) := Lib.hid (fun j hj => by by_cases e : j = q; · rw [e]; exact h10
                                                                                 · exact HS.out j (by omega))
        have h10' : ((((t[q]'qs).toNat : Nat) : Int) == 10) = false := beq_false_of_ne (by rw [hb]; exact h10)
        clear hb
        go_wp2_with fail
        go_roundg (T - (q + 1))
        case measure => omega
        case rel => exact ⟨q + 1, rfl, hlt, by go_num, HS2, HB⟩
    · obtain rfl : q = T := by omega
      have qn : ¬ (q : Int) < (t.size : Int) := by rw [← HT.out]; omega
      have HF : Hid ((decide (N = 0) && n == 0) = R) := Lib.hid (by rw [HR.out, has10_no (fun j hj => HS.out j (by rw [HT.out]; exact hj))]; cases (n == 0) <;> cases decide (N = 0) <;> rfl)
      cases h0 : decide (N = 0)
      · rw [h0] at eN
        rw [h0] at HF
        go_wp2_with fail
        go_ret
        exact ⟨retB HF.out, HBw.out⟩
      · rw [h0] at eN
        rw [h0] at HF
        go_wp2_with fail
        go_ret
        exact ⟨retB HF.out, HBw.out⟩
set_option maxRecDepth 100000 in
set_option maxHeartbeats 4000000 in
theorem right_leaf2 (n : Int) (t : ByteArray) (a : Option Addr) (N cap : Nat) (w : World) (hN : N ≤ 1048576) :
    Calls Tryd.prog 32 #[.agg #[.int .i64 2, .int .i64 n, .string t, .slice a N cap]] w fun e w' => e = .returned (.bool (n == 0 && decide (N = 0) && t.toList == [])) ∧ Below w.heap.size w w' := by
  have eN : ((N : Int) == 0) = decide (N = 0) := by by_cases h : N = 0 <;> simp [h] <;> omega
  obtain ⟨Z, hZ⟩ : ∃ Z, Z = w.alloc (.cells #[.int .i64 2, .int .i64 n, .string t, .slice a N cap] 24) := ⟨_, rfl⟩
  have hbW : Below w.heap.size w Z := by rw [hZ]; exact below1 _ _
  have HB0 : Hid (Below Z.heap.size Z (w.alloc (.cells #[.int .i64 2, .int .i64 n, .string t, .slice a N cap] 24))) := Lib.hid (by rw [← hZ]; exact Below.refl _ _)
  have HC := Lib.hid (fun W (hb : Below Z.heap.size Z W) => dc_cells (by rw [hZ] at hb; exact hb))
  have UP := Lib.hid (fun W (h : Below Z.heap.size Z W) => hbW.trans (h.mono hbW.size))
  obtain ⟨d0, d1, d2, d3⟩ := HC.out _ HB0.out
  clear hZ hbW
  cases ht : (t.toList == [])
  · rw [Bool.and_false]
    go_enter Tryd.func32, Tryd.ntmps32
    go_wp2_with fail
    go_ret
    exact ⟨rfl, UP.out _ HB0.out⟩
  · cases h0 : decide (N = 0)
    · rw [h0] at eN
      rw [Bool.and_false, Bool.false_and]
      go_enter Tryd.func32, Tryd.ntmps32
      go_wp2_with fail
      go_ret
      exact ⟨rfl, UP.out _ HB0.out⟩
    · rw [h0] at eN
      rw [Bool.and_true, Bool.and_true]
      go_enter Tryd.func32, Tryd.ntmps32
      go_wp2_with fail
      go_ret
      exact ⟨rfl, UP.out _ HB0.out⟩
set_option maxRecDepth 100000 in
set_option maxHeartbeats 4000000 in
theorem right_leaf3 (n : Int) (t : ByteArray) (a : Option Addr) (N cap : Nat) (w : World) (hN : N ≤ 1048576) :
    Calls Tryd.prog 32 #[.agg #[.int .i64 3, .int .i64 n, .string t, .slice a N cap]] w fun e w' => e = .returned (.bool (n == 0 && decide (N = 0) && t.toList == [])) ∧ Below w.heap.size w w' := by
  have eN : ((N : Int) == 0) = decide (N = 0) := by by_cases h : N = 0 <;> simp [h] <;> omega
  obtain ⟨Z, hZ⟩ : ∃ Z, Z = w.alloc (.cells #[.int .i64 3, .int .i64 n, .string t, .slice a N cap] 24) := ⟨_, rfl⟩
  have hbW : Below w.heap.size w Z := by rw [hZ]; exact below1 _ _
  have HB0 : Hid (Below Z.heap.size Z (w.alloc (.cells #[.int .i64 3, .int .i64 n, .string t, .slice a N cap] 24))) := Lib.hid (by rw [← hZ]; exact Below.refl _ _)
  have HC := Lib.hid (fun W (hb : Below Z.heap.size Z W) => dc_cells (by rw [hZ] at hb; exact hb))
  have UP := Lib.hid (fun W (h : Below Z.heap.size Z W) => hbW.trans (h.mono hbW.size))
  obtain ⟨d0, d1, d2, d3⟩ := HC.out _ HB0.out
  clear hZ hbW
  cases ht : (t.toList == [])
  · rw [Bool.and_false]
    go_enter Tryd.func32, Tryd.ntmps32
    go_wp2_with fail
    go_ret
    exact ⟨rfl, UP.out _ HB0.out⟩
  · cases h0 : decide (N = 0)
    · rw [h0] at eN
      rw [Bool.and_false, Bool.false_and]
      go_enter Tryd.func32, Tryd.ntmps32
      go_wp2_with fail
      go_ret
      exact ⟨rfl, UP.out _ HB0.out⟩
    · rw [h0] at eN
      rw [Bool.and_true, Bool.and_true]
      go_enter Tryd.func32, Tryd.ntmps32
      go_wp2_with fail
      go_ret
      exact ⟨rfl, UP.out _ HB0.out⟩
set_option maxRecDepth 100000 in
set_option maxHeartbeats 4000000 in
theorem right_leaf4 (n : Int) (t : ByteArray) (a : Option Addr) (N cap : Nat) (w : World) (hN : N ≤ 1048576) :
    Calls Tryd.prog 32 #[.agg #[.int .i64 4, .int .i64 n, .string t, .slice a N cap]] w fun e w' => e = .returned (.bool (n == 0 && decide (N = 0) && t.toList == [])) ∧ Below w.heap.size w w' := by
  have eN : ((N : Int) == 0) = decide (N = 0) := by by_cases h : N = 0 <;> simp [h] <;> omega
  obtain ⟨Z, hZ⟩ : ∃ Z, Z = w.alloc (.cells #[.int .i64 4, .int .i64 n, .string t, .slice a N cap] 24) := ⟨_, rfl⟩
  have hbW : Below w.heap.size w Z := by rw [hZ]; exact below1 _ _
  have HB0 : Hid (Below Z.heap.size Z (w.alloc (.cells #[.int .i64 4, .int .i64 n, .string t, .slice a N cap] 24))) := Lib.hid (by rw [← hZ]; exact Below.refl _ _)
  have HC := Lib.hid (fun W (hb : Below Z.heap.size Z W) => dc_cells (by rw [hZ] at hb; exact hb))
  have UP := Lib.hid (fun W (h : Below Z.heap.size Z W) => hbW.trans (h.mono hbW.size))
  obtain ⟨d0, d1, d2, d3⟩ := HC.out _ HB0.out
  clear hZ hbW
  cases ht : (t.toList == [])
  · rw [Bool.and_false]
    go_enter Tryd.func32, Tryd.ntmps32
    go_wp2_with fail
    go_ret
    exact ⟨rfl, UP.out _ HB0.out⟩
  · cases h0 : decide (N = 0)
    · rw [h0] at eN
      rw [Bool.and_false, Bool.false_and]
      go_enter Tryd.func32, Tryd.ntmps32
      go_wp2_with fail
      go_ret
      exact ⟨rfl, UP.out _ HB0.out⟩
    · rw [h0] at eN
      rw [Bool.and_true, Bool.and_true]
      go_enter Tryd.func32, Tryd.ntmps32
      go_wp2_with fail
      go_ret
      exact ⟨rfl, UP.out _ HB0.out⟩
/-- What the walks over a document's parts ask. -/
def RI (w : World) (l : List Dc) : Prop := ∀ x ∈ l, ∀ c, DcAt w c x → ∀ W, Below w.heap.size w W → Calls Tryd.prog 32 #[.agg c.toArray] W fun e w' => e = .returned (.bool (drt x)) ∧ Below W.heap.size W w'
set_option maxRecDepth 100000 in
set_option maxHeartbeats 4000000 in
theorem right_cat (n : Int) (t : ByteArray) (a : Option Addr) (cap : Nat) (w : World) (l : List Dc) (cs : Nat → List Value) (hl : DsIn w (fun g => g < w.heap.size) (.slice a l.length cap) l.length cs) (hc : ∀ i x, l[i]? = some x → DcIn w (fun g => g < w.heap.size) (cs i) x) (hlen : l.length ≤ 1048576) (h0 : (n != 0) = false) (HI : Hid (RI w l)) :
    Calls Tryd.prog 32 #[.agg #[.int .i64 5, .int .i64 n, .string t, .slice a l.length cap]] w fun e w' => e = .returned (.bool ((t.toList == []) && drtL l)) ∧ Below w.heap.size w w' := by
  obtain ⟨S, hS⟩ : ∃ S, (t.toList == []) = S := ⟨_, rfl⟩
  rw [hS]
  have HK := Lib.hid (kidsD hl hc)
  obtain ⟨N, hN⟩ : ∃ N, N = l.length := ⟨_, rfl⟩
  rw [← hN] at hlen ⊢
  have HN := Lib.hid hN
  obtain ⟨B, hB⟩ : ∃ B, B = drtL l := ⟨_, rfl⟩
  rw [← hB]
  have HBB := Lib.hid hB
  clear hN hl hc hB
  obtain ⟨Z, hZ⟩ : ∃ Z, Z = w.alloc (.cells #[.int .i64 5, .int .i64 n, .string t, .slice a N cap] 24) := ⟨_, rfl⟩
  have hbW : Below w.heap.size w Z := by rw [hZ]; exact below1 _ _
  have HB0 : Hid (Below Z.heap.size Z (w.alloc (.cells #[.int .i64 5, .int .i64 n, .string t, .slice a N cap] 24))) := Lib.hid (by rw [← hZ]; exact Below.refl _ _)
  have HC := Lib.hid (fun W (hb : Below Z.heap.size Z W) => dc_cells (by rw [hZ] at hb; exact hb))
  have UP := Lib.hid (fun W (h : Below Z.heap.size Z W) => hbW.trans (h.mono hbW.size))
  obtain ⟨d0, d1, d2, d3⟩ := HC.out _ HB0.out
  clear hZ hbW
  go_enter Tryd.func32, Tryd.ntmps32
  go_wp2_with fail
  go_loopg [4] N (fun gn i wr => ∃ (q : Nat), gn = N - q ∧ q ≤ N ∧ i = .int .i64 (q : Int) ∧ Hid (B = drtL (l.drop q)) ∧ Hid (Below Z.heap.size Z wr))
  case atStart => exact ⟨0, rfl, Nat.zero_le _, rfl, Lib.hid HBB.out, HB0⟩
  case round =>
    obtain ⟨q, hgn, hq, rfl, HS, HB⟩ := hrel
    obtain ⟨d0, d1, d2, d3⟩ := HC.out _ HB.out
    have HBw : Hid (Below w.heap.size w wr) := Lib.hid (UP.out _ HB.out)
    by_cases hlt : q < N
    · obtain ⟨x, hx⟩ : ∃ x, l[q]? = some x := ⟨_, List.getElem?_eq_getElem (by rw [← HN.out]; exact hlt)⟩
      obtain ⟨g, o, k', n', t', lv', rfl, hxc, hce⟩ := HK.out q x hx
      obtain ⟨e0, e1, e2, e3⟩ := hce wr HBw.out
      have HI1 := Lib.hid (HI.out x (List.mem_of_getElem? hx) _ hxc wr HBw.out)
      have HK2 : Hid (B = (drt x && drtL (l.drop (q + 1)))) := Lib.hid (by rw [HS.out, drtL_drop hx])
      have qn : (q : Int) < (N : Int) := by omega
      obtain ⟨y, hy⟩ : ∃ y, y = drt x := ⟨_, rfl⟩
      rw [← hy] at HI1 HK2
      clear hce hx hy hxc HS
      go_wp2_with fail
      refine HI1.out.mono ?_
      rintro e w1 ⟨rfl, hb1⟩
      have HB1 := Lib.hid (HB.out.trans (hb1.mono HB.out.size))
      clear hb1 HI1
      cases y
      · have HK3 : Hid (false = (S && B)) := Lib.hid (by rw [HK2.out, Bool.false_and, Bool.and_false])
        go_wp2_with fail
        go_ret
        exact ⟨retB HK3.out, UP.out _ HB1.out⟩
      · have HK3 : Hid (B = drtL (l.drop (q + 1))) := Lib.hid (by rw [HK2.out, Bool.true_and])
        go_wp2_with fail
        go_roundg (N - (q + 1))
        case measure => omega
        case rel => exact ⟨q + 1, rfl, hlt, by go_num, HK3, HB1⟩
    · obtain rfl : q = N := by omega
      have HF : Hid (S = (S && B)) := Lib.hid (by have := HS.out; rw [List.drop_eq_nil_of_le (by rw [HN.out]; exact Nat.le_refl _)] at this; rw [this]; simp [drtL])
      go_wp2_with fail
      go_ret
      exact ⟨retB HF.out, HBw.out⟩
set_option maxRecDepth 100000 in
set_option maxHeartbeats 4000000 in
theorem right_nest (n : Int) (t : ByteArray) (a : Option Addr) (cap : Nat) (w : World) (l : List Dc) (cs : Nat → List Value) (hl : DsIn w (fun g => g < w.heap.size) (.slice a l.length cap) l.length cs) (hc : ∀ i x, l[i]? = some x → DcIn w (fun g => g < w.heap.size) (cs i) x) (hlen : l.length ≤ 1048576) (h0 : (decide (n < 0)) = false) (h1 : (decide (1000 < n)) = false) (HI : Hid (RI w l)) :
    Calls Tryd.prog 32 #[.agg #[.int .i64 6, .int .i64 n, .string t, .slice a l.length cap]] w fun e w' => e = .returned (.bool ((t.toList == []) && drtL l)) ∧ Below w.heap.size w w' := by
  obtain ⟨S, hS⟩ : ∃ S, (t.toList == []) = S := ⟨_, rfl⟩
  rw [hS]
  have HK := Lib.hid (kidsD hl hc)
  obtain ⟨N, hN⟩ : ∃ N, N = l.length := ⟨_, rfl⟩
  rw [← hN] at hlen ⊢
  have HN := Lib.hid hN
  obtain ⟨B, hB⟩ : ∃ B, B = drtL l := ⟨_, rfl⟩
  rw [← hB]
  have HBB := Lib.hid hB
  clear hN hl hc hB
  obtain ⟨Z, hZ⟩ : ∃ Z, Z = w.alloc (.cells #[.int .i64 6, .int .i64 n, .string t, .slice a N cap] 24) := ⟨_, rfl⟩
  have hbW : Below w.heap.size w Z := by rw [hZ]; exact below1 _ _
  have HB0 : Hid (Below Z.heap.size Z (w.alloc (.cells #[.int .i64 6, .int .i64 n, .string t, .slice a N cap] 24))) := Lib.hid (by rw [← hZ]; exact Below.refl _ _)
  have HC := Lib.hid (fun W (hb : Below Z.heap.size Z W) => dc_cells (by rw [hZ] at hb; exact hb))
  have UP := Lib.hid (fun W (h : Below Z.heap.size Z W) => hbW.trans (h.mono hbW.size))
  obtain ⟨d0, d1, d2, d3⟩ := HC.out _ HB0.out
  clear hZ hbW
  go_enter Tryd.func32, Tryd.ntmps32
  go_wp2_with fail
  go_loopg [4] N (fun gn i wr => ∃ (q : Nat), gn = N - q ∧ q ≤ N ∧ i = .int .i64 (q : Int) ∧ Hid (B = drtL (l.drop q)) ∧ Hid (Below Z.heap.size Z wr))
  case atStart => exact ⟨0, rfl, Nat.zero_le _, rfl, Lib.hid HBB.out, HB0⟩
  case round =>
    obtain ⟨q, hgn, hq, rfl, HS, HB⟩ := hrel
    obtain ⟨d0, d1, d2, d3⟩ := HC.out _ HB.out
    have HBw : Hid (Below w.heap.size w wr) := Lib.hid (UP.out _ HB.out)
    by_cases hlt : q < N
    · obtain ⟨x, hx⟩ : ∃ x, l[q]? = some x := ⟨_, List.getElem?_eq_getElem (by rw [← HN.out]; exact hlt)⟩
      obtain ⟨g, o, k', n', t', lv', rfl, hxc, hce⟩ := HK.out q x hx
      obtain ⟨e0, e1, e2, e3⟩ := hce wr HBw.out
      have HI1 := Lib.hid (HI.out x (List.mem_of_getElem? hx) _ hxc wr HBw.out)
      have HK2 : Hid (B = (drt x && drtL (l.drop (q + 1)))) := Lib.hid (by rw [HS.out, drtL_drop hx])
      have qn : (q : Int) < (N : Int) := by omega
      obtain ⟨y, hy⟩ : ∃ y, y = drt x := ⟨_, rfl⟩
      rw [← hy] at HI1 HK2
      clear hce hx hy hxc HS
      go_wp2_with fail
      refine HI1.out.mono ?_
      rintro e w1 ⟨rfl, hb1⟩
      have HB1 := Lib.hid (HB.out.trans (hb1.mono HB.out.size))
      clear hb1 HI1
      cases y
      · have HK3 : Hid (false = (S && B)) := Lib.hid (by rw [HK2.out, Bool.false_and, Bool.and_false])
        go_wp2_with fail
        go_ret
        exact ⟨retB HK3.out, UP.out _ HB1.out⟩
      · have HK3 : Hid (B = drtL (l.drop (q + 1))) := Lib.hid (by rw [HK2.out, Bool.true_and])
        go_wp2_with fail
        go_roundg (N - (q + 1))
        case measure => omega
        case rel => exact ⟨q + 1, rfl, hlt, by go_num, HK3, HB1⟩
    · obtain rfl : q = N := by omega
      have HF : Hid (S = (S && B)) := Lib.hid (by have := HS.out; rw [List.drop_eq_nil_of_le (by rw [HN.out]; exact Nat.le_refl _)] at this; rw [this]; simp [drtL])
      go_wp2_with fail
      go_ret
      exact ⟨retB HF.out, HBw.out⟩
set_option maxRecDepth 100000 in
set_option maxHeartbeats 4000000 in
theorem right_grp0 (n : Int) (t : ByteArray) (a : Option Addr) (cap : Nat) (w : World) (l : List Dc) (cs : Nat → List Value) (hl : DsIn w (fun g => g < w.heap.size) (.slice a l.length cap) l.length cs) (hc : ∀ i x, l[i]? = some x → DcIn w (fun g => g < w.heap.size) (cs i) x) (hlen : l.length ≤ 1048576) (h0 : (n != 0) = false) (HI : Hid (RI w l)) :
    Calls Tryd.prog 32 #[.agg #[.int .i64 7, .int .i64 n, .string t, .slice a l.length cap]] w fun e w' => e = .returned (.bool ((t.toList == []) && drtL l)) ∧ Below w.heap.size w w' := by
  obtain ⟨S, hS⟩ : ∃ S, (t.toList == []) = S := ⟨_, rfl⟩
  rw [hS]
  have HK := Lib.hid (kidsD hl hc)
  obtain ⟨N, hN⟩ : ∃ N, N = l.length := ⟨_, rfl⟩
  rw [← hN] at hlen ⊢
  have HN := Lib.hid hN
  obtain ⟨B, hB⟩ : ∃ B, B = drtL l := ⟨_, rfl⟩
  rw [← hB]
  have HBB := Lib.hid hB
  clear hN hl hc hB
  obtain ⟨Z, hZ⟩ : ∃ Z, Z = w.alloc (.cells #[.int .i64 7, .int .i64 n, .string t, .slice a N cap] 24) := ⟨_, rfl⟩
  have hbW : Below w.heap.size w Z := by rw [hZ]; exact below1 _ _
  have HB0 : Hid (Below Z.heap.size Z (w.alloc (.cells #[.int .i64 7, .int .i64 n, .string t, .slice a N cap] 24))) := Lib.hid (by rw [← hZ]; exact Below.refl _ _)
  have HC := Lib.hid (fun W (hb : Below Z.heap.size Z W) => dc_cells (by rw [hZ] at hb; exact hb))
  have UP := Lib.hid (fun W (h : Below Z.heap.size Z W) => hbW.trans (h.mono hbW.size))
  obtain ⟨d0, d1, d2, d3⟩ := HC.out _ HB0.out
  clear hZ hbW
  go_enter Tryd.func32, Tryd.ntmps32
  go_wp2_with fail
  go_loopg [4] N (fun gn i wr => ∃ (q : Nat), gn = N - q ∧ q ≤ N ∧ i = .int .i64 (q : Int) ∧ Hid (B = drtL (l.drop q)) ∧ Hid (Below Z.heap.size Z wr))
  case atStart => exact ⟨0, rfl, Nat.zero_le _, rfl, Lib.hid HBB.out, HB0⟩
  case round =>
    obtain ⟨q, hgn, hq, rfl, HS, HB⟩ := hrel
    obtain ⟨d0, d1, d2, d3⟩ := HC.out _ HB.out
    have HBw : Hid (Below w.heap.size w wr) := Lib.hid (UP.out _ HB.out)
    by_cases hlt : q < N
    · obtain ⟨x, hx⟩ : ∃ x, l[q]? = some x := ⟨_, List.getElem?_eq_getElem (by rw [← HN.out]; exact hlt)⟩
      obtain ⟨g, o, k', n', t', lv', rfl, hxc, hce⟩ := HK.out q x hx
      obtain ⟨e0, e1, e2, e3⟩ := hce wr HBw.out
      have HI1 := Lib.hid (HI.out x (List.mem_of_getElem? hx) _ hxc wr HBw.out)
      have HK2 : Hid (B = (drt x && drtL (l.drop (q + 1)))) := Lib.hid (by rw [HS.out, drtL_drop hx])
      have qn : (q : Int) < (N : Int) := by omega
      obtain ⟨y, hy⟩ : ∃ y, y = drt x := ⟨_, rfl⟩
      rw [← hy] at HI1 HK2
      clear hce hx hy hxc HS
      go_wp2_with fail
      refine HI1.out.mono ?_
      rintro e w1 ⟨rfl, hb1⟩
      have HB1 := Lib.hid (HB.out.trans (hb1.mono HB.out.size))
      clear hb1 HI1
      cases y
      · have HK3 : Hid (false = (S && B)) := Lib.hid (by rw [HK2.out, Bool.false_and, Bool.and_false])
        go_wp2_with fail
        go_ret
        exact ⟨retB HK3.out, UP.out _ HB1.out⟩
      · have HK3 : Hid (B = drtL (l.drop (q + 1))) := Lib.hid (by rw [HK2.out, Bool.true_and])
        go_wp2_with fail
        go_roundg (N - (q + 1))
        case measure => omega
        case rel => exact ⟨q + 1, rfl, hlt, by go_num, HK3, HB1⟩
    · obtain rfl : q = N := by omega
      have HF : Hid (S = (S && B)) := Lib.hid (by have := HS.out; rw [List.drop_eq_nil_of_le (by rw [HN.out]; exact Nat.le_refl _)] at this; rw [this]; simp [drtL])
      go_wp2_with fail
      go_ret
      exact ⟨retB HF.out, HBw.out⟩
set_option maxRecDepth 100000 in
set_option maxHeartbeats 4000000 in
theorem right_grp1 (n : Int) (t : ByteArray) (a : Option Addr) (cap : Nat) (w : World) (l : List Dc) (cs : Nat → List Value) (hl : DsIn w (fun g => g < w.heap.size) (.slice a l.length cap) l.length cs) (hc : ∀ i x, l[i]? = some x → DcIn w (fun g => g < w.heap.size) (cs i) x) (hlen : l.length ≤ 1048576) (h0 : (n != 0) = true) (h1 : (n != 1) = false) (HI : Hid (RI w l)) :
    Calls Tryd.prog 32 #[.agg #[.int .i64 7, .int .i64 n, .string t, .slice a l.length cap]] w fun e w' => e = .returned (.bool ((t.toList == []) && drtL l)) ∧ Below w.heap.size w w' := by
  obtain ⟨S, hS⟩ : ∃ S, (t.toList == []) = S := ⟨_, rfl⟩
  rw [hS]
  have HK := Lib.hid (kidsD hl hc)
  obtain ⟨N, hN⟩ : ∃ N, N = l.length := ⟨_, rfl⟩
  rw [← hN] at hlen ⊢
  have HN := Lib.hid hN
  obtain ⟨B, hB⟩ : ∃ B, B = drtL l := ⟨_, rfl⟩
  rw [← hB]
  have HBB := Lib.hid hB
  clear hN hl hc hB
  obtain ⟨Z, hZ⟩ : ∃ Z, Z = w.alloc (.cells #[.int .i64 7, .int .i64 n, .string t, .slice a N cap] 24) := ⟨_, rfl⟩
  have hbW : Below w.heap.size w Z := by rw [hZ]; exact below1 _ _
  have HB0 : Hid (Below Z.heap.size Z (w.alloc (.cells #[.int .i64 7, .int .i64 n, .string t, .slice a N cap] 24))) := Lib.hid (by rw [← hZ]; exact Below.refl _ _)
  have HC := Lib.hid (fun W (hb : Below Z.heap.size Z W) => dc_cells (by rw [hZ] at hb; exact hb))
  have UP := Lib.hid (fun W (h : Below Z.heap.size Z W) => hbW.trans (h.mono hbW.size))
  obtain ⟨d0, d1, d2, d3⟩ := HC.out _ HB0.out
  clear hZ hbW
  go_enter Tryd.func32, Tryd.ntmps32
  go_wp2_with fail
  go_loopg [4] N (fun gn i wr => ∃ (q : Nat), gn = N - q ∧ q ≤ N ∧ i = .int .i64 (q : Int) ∧ Hid (B = drtL (l.drop q)) ∧ Hid (Below Z.heap.size Z wr))
  case atStart => exact ⟨0, rfl, Nat.zero_le _, rfl, Lib.hid HBB.out, HB0⟩
  case round =>
    obtain ⟨q, hgn, hq, rfl, HS, HB⟩ := hrel
    obtain ⟨d0, d1, d2, d3⟩ := HC.out _ HB.out
    have HBw : Hid (Below w.heap.size w wr) := Lib.hid (UP.out _ HB.out)
    by_cases hlt : q < N
    · obtain ⟨x, hx⟩ : ∃ x, l[q]? = some x := ⟨_, List.getElem?_eq_getElem (by rw [← HN.out]; exact hlt)⟩
      obtain ⟨g, o, k', n', t', lv', rfl, hxc, hce⟩ := HK.out q x hx
      obtain ⟨e0, e1, e2, e3⟩ := hce wr HBw.out
      have HI1 := Lib.hid (HI.out x (List.mem_of_getElem? hx) _ hxc wr HBw.out)
      have HK2 : Hid (B = (drt x && drtL (l.drop (q + 1)))) := Lib.hid (by rw [HS.out, drtL_drop hx])
      have qn : (q : Int) < (N : Int) := by omega
      obtain ⟨y, hy⟩ : ∃ y, y = drt x := ⟨_, rfl⟩
      rw [← hy] at HI1 HK2
      clear hce hx hy hxc HS
      go_wp2_with fail
      refine HI1.out.mono ?_
      rintro e w1 ⟨rfl, hb1⟩
      have HB1 := Lib.hid (HB.out.trans (hb1.mono HB.out.size))
      clear hb1 HI1
      cases y
      · have HK3 : Hid (false = (S && B)) := Lib.hid (by rw [HK2.out, Bool.false_and, Bool.and_false])
        go_wp2_with fail
        go_ret
        exact ⟨retB HK3.out, UP.out _ HB1.out⟩
      · have HK3 : Hid (B = drtL (l.drop (q + 1))) := Lib.hid (by rw [HK2.out, Bool.true_and])
        go_wp2_with fail
        go_roundg (N - (q + 1))
        case measure => omega
        case rel => exact ⟨q + 1, rfl, hlt, by go_num, HK3, HB1⟩
    · obtain rfl : q = N := by omega
      have HF : Hid (S = (S && B)) := Lib.hid (by have := HS.out; rw [List.drop_eq_nil_of_le (by rw [HN.out]; exact Nat.le_refl _)] at this; rw [this]; simp [drtL])
      go_wp2_with fail
      go_ret
      exact ⟨retB HF.out, HBw.out⟩
set_option maxRecDepth 100000 in
theorem rbad_cat (n : Int) (t : ByteArray) (a : Option Addr) (N cap : Nat) (w : World) (h0 : (n != 0) = true) :
    Calls Tryd.prog 32 #[.agg #[.int .i64 5, .int .i64 n, .string t, .slice a N cap]] w fun e w' => e = .returned (.bool false) ∧ Below w.heap.size w w' := by
  obtain ⟨Z, hZ⟩ : ∃ Z, Z = w.alloc (.cells #[.int .i64 5, .int .i64 n, .string t, .slice a N cap] 24) := ⟨_, rfl⟩
  have hbW : Below w.heap.size w Z := by rw [hZ]; exact below1 _ _
  have HB0 : Hid (Below Z.heap.size Z (w.alloc (.cells #[.int .i64 5, .int .i64 n, .string t, .slice a N cap] 24))) := Lib.hid (by rw [← hZ]; exact Below.refl _ _)
  have HC := Lib.hid (fun W (hb : Below Z.heap.size Z W) => dc_cells (by rw [hZ] at hb; exact hb))
  have UP := Lib.hid (fun W (h : Below Z.heap.size Z W) => hbW.trans (h.mono hbW.size))
  obtain ⟨d0, d1, d2, d3⟩ := HC.out _ HB0.out
  clear hZ hbW
  go_enter Tryd.func32, Tryd.ntmps32
  go_wp2_with fail
  go_ret
  exact ⟨rfl, UP.out _ HB0.out⟩
set_option maxRecDepth 100000 in
theorem rbad_nestA (n : Int) (t : ByteArray) (a : Option Addr) (N cap : Nat) (w : World) (h0 : (decide (n < 0)) = true) :
    Calls Tryd.prog 32 #[.agg #[.int .i64 6, .int .i64 n, .string t, .slice a N cap]] w fun e w' => e = .returned (.bool false) ∧ Below w.heap.size w w' := by
  obtain ⟨Z, hZ⟩ : ∃ Z, Z = w.alloc (.cells #[.int .i64 6, .int .i64 n, .string t, .slice a N cap] 24) := ⟨_, rfl⟩
  have hbW : Below w.heap.size w Z := by rw [hZ]; exact below1 _ _
  have HB0 : Hid (Below Z.heap.size Z (w.alloc (.cells #[.int .i64 6, .int .i64 n, .string t, .slice a N cap] 24))) := Lib.hid (by rw [← hZ]; exact Below.refl _ _)
  have HC := Lib.hid (fun W (hb : Below Z.heap.size Z W) => dc_cells (by rw [hZ] at hb; exact hb))
  have UP := Lib.hid (fun W (h : Below Z.heap.size Z W) => hbW.trans (h.mono hbW.size))
  obtain ⟨d0, d1, d2, d3⟩ := HC.out _ HB0.out
  clear hZ hbW
  go_enter Tryd.func32, Tryd.ntmps32
  go_wp2_with fail
  go_ret
  exact ⟨rfl, UP.out _ HB0.out⟩
set_option maxRecDepth 100000 in
theorem rbad_nestB (n : Int) (t : ByteArray) (a : Option Addr) (N cap : Nat) (w : World) (h0 : (decide (n < 0)) = false) (h1 : (decide (1000 < n)) = true) :
    Calls Tryd.prog 32 #[.agg #[.int .i64 6, .int .i64 n, .string t, .slice a N cap]] w fun e w' => e = .returned (.bool false) ∧ Below w.heap.size w w' := by
  obtain ⟨Z, hZ⟩ : ∃ Z, Z = w.alloc (.cells #[.int .i64 6, .int .i64 n, .string t, .slice a N cap] 24) := ⟨_, rfl⟩
  have hbW : Below w.heap.size w Z := by rw [hZ]; exact below1 _ _
  have HB0 : Hid (Below Z.heap.size Z (w.alloc (.cells #[.int .i64 6, .int .i64 n, .string t, .slice a N cap] 24))) := Lib.hid (by rw [← hZ]; exact Below.refl _ _)
  have HC := Lib.hid (fun W (hb : Below Z.heap.size Z W) => dc_cells (by rw [hZ] at hb; exact hb))
  have UP := Lib.hid (fun W (h : Below Z.heap.size Z W) => hbW.trans (h.mono hbW.size))
  obtain ⟨d0, d1, d2, d3⟩ := HC.out _ HB0.out
  clear hZ hbW
  go_enter Tryd.func32, Tryd.ntmps32
  go_wp2_with fail
  go_ret
  exact ⟨rfl, UP.out _ HB0.out⟩
set_option maxRecDepth 100000 in
theorem rbad_grp (n : Int) (t : ByteArray) (a : Option Addr) (N cap : Nat) (w : World) (h0 : (n != 0) = true) (h1 : (n != 1) = true) :
    Calls Tryd.prog 32 #[.agg #[.int .i64 7, .int .i64 n, .string t, .slice a N cap]] w fun e w' => e = .returned (.bool false) ∧ Below w.heap.size w w' := by
  obtain ⟨Z, hZ⟩ : ∃ Z, Z = w.alloc (.cells #[.int .i64 7, .int .i64 n, .string t, .slice a N cap] 24) := ⟨_, rfl⟩
  have hbW : Below w.heap.size w Z := by rw [hZ]; exact below1 _ _
  have HB0 : Hid (Below Z.heap.size Z (w.alloc (.cells #[.int .i64 7, .int .i64 n, .string t, .slice a N cap] 24))) := Lib.hid (by rw [← hZ]; exact Below.refl _ _)
  have HC := Lib.hid (fun W (hb : Below Z.heap.size Z W) => dc_cells (by rw [hZ] at hb; exact hb))
  have UP := Lib.hid (fun W (h : Below Z.heap.size Z W) => hbW.trans (h.mono hbW.size))
  obtain ⟨d0, d1, d2, d3⟩ := HC.out _ HB0.out
  clear hZ hbW
  go_enter Tryd.func32, Tryd.ntmps32
  go_wp2_with fail
  go_ret
  exact ⟨rfl, UP.out _ HB0.out⟩
set_option maxRecDepth 100000 in
theorem rbad_kind (k n : Int) (t : ByteArray) (a : Option Addr) (N cap : Nat) (w : World) (h1 : (k == 1) = false) (h2 : (k == 2) = false) (h3 : (k == 3) = false) (h4 : (k == 4) = false) (h5 : (k == 5) = false) (h6 : (k == 6) = false) (h7 : (k == 7) = false) :
    Calls Tryd.prog 32 #[.agg #[.int .i64 k, .int .i64 n, .string t, .slice a N cap]] w fun e w' => e = .returned (.bool false) ∧ Below w.heap.size w w' := by
  obtain ⟨Z, hZ⟩ : ∃ Z, Z = w.alloc (.cells #[.int .i64 k, .int .i64 n, .string t, .slice a N cap] 24) := ⟨_, rfl⟩
  have hbW : Below w.heap.size w Z := by rw [hZ]; exact below1 _ _
  have HB0 : Hid (Below Z.heap.size Z (w.alloc (.cells #[.int .i64 k, .int .i64 n, .string t, .slice a N cap] 24))) := Lib.hid (by rw [← hZ]; exact Below.refl _ _)
  have HC := Lib.hid (fun W (hb : Below Z.heap.size Z W) => dc_cells (by rw [hZ] at hb; exact hb))
  have UP := Lib.hid (fun W (h : Below Z.heap.size Z W) => hbW.trans (h.mono hbW.size))
  obtain ⟨d0, d1, d2, d3⟩ := HC.out _ HB0.out
  clear hZ hbW
  go_enter Tryd.func32, Tryd.ntmps32
  go_wp2_with fail
  go_ret
  exact ⟨rfl, UP.out _ HB0.out⟩
end Go.Proofs.YtbjgoigdhijbgaaDoor
