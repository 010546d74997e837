/-
  THE DOCUMENT's like (Same): the parts, where the tops are like.
-/
import Derived.Test.YtkngnkonddpbeaaRefLikeA
namespace Go.Proofs.Ytkngnkonddpbeaa
open Go.RowKit Go.PlainAid

set_option maxRecDepth 100000 in
set_option maxHeartbeats 4000000 in
theorem rlike_mt (k : Int) (t : ByteArray) (a : Option Addr) (N cap : Nat) (br bl : Bool) (nv tv : Value) (a2 : Option Addr) (cap2 : Nat) (nv2 tv2 : Value) (w : World) (l l2 : List Nd) (cs cs2 : Nat → List Value) (hN1 : N ≤ 1048576)
    (TX1 : Hid (∀ W, Below w.heap.size w W → Calls Try.prog 20 #[nv, nv2] W fun e w' => e = .returned (.bool true) ∧ Below W.heap.size W w'))
    (TX2 : Hid (∀ W, Below w.heap.size w W → Calls Try.prog 20 #[tv, tv2] W fun e w' => e = .returned (.bool true) ∧ Below W.heap.size W w'))
    (HI : Hid (∀ (i : Nat) (x : Nd) (c : List Value) (y : Nd) (c2 : List Value), l[i]? = some x → NdAt w c x → NdAt w c2 y → ∀ W, Below w.heap.size w W → Calls Try.prog 17 #[.agg c.toArray, .agg c2.toArray, .bool true] W fun e w' => e = .returned (.bool (lk true x y)) ∧ Below W.heap.size W w'))
    (HN : Hid (N = l.length)) (HN2 : Hid (N = l2.length)) (hl : SlAt w (.slice a l.length cap) l.length cs) (hc : ∀ i x, l[i]? = some x → NdAt w (cs i) x) (hl2 : SlAt w (.slice a2 l2.length cap2) l2.length cs2) (hc2 : ∀ i x, l2[i]? = some x → NdAt w (cs2 i) x) :
    Calls Try.prog 17 #[.agg #[.int .i64 k, .string t, .slice a N cap, .bool br, .bool bl, nv, tv], .agg #[.int .i64 k, .string t, .slice a2 N cap2, .bool br, .bool bl, nv2, tv2], .bool true] w fun e w' => e = .returned (.bool (lkL true l l2)) ∧ Below w.heap.size w w' := by
  have HK1 := Lib.hid (kids hl hc)
  have HK2 := Lib.hid (kids hl2 hc2)
  obtain ⟨R, hR⟩ : ∃ R, R = lkL true l l2 := ⟨_, rfl⟩
  rw [← hR]
  have HRR := Lib.hid hR
  clear hl hc hl2 hc2 hR
  have gk : (k != k) = false := bne_self_eq_false _
  have gt : (t.toList != t.toList) = false := bne_self_eq_false _
  have gb : (bl != bl) = false := bne_self_eq_false _
  have gl : ((N : Int) != (N : Int)) = false := bne_self_eq_false _
  have gr : (br != br) = false := bne_self_eq_false _
  obtain ⟨Z, hZ⟩ : ∃ Z, Z = (w.alloc (.cells #[.int .i64 k, .string t, .slice a N cap, .bool br, .bool bl, nv, tv] 32)).alloc (.cells #[.int .i64 k, .string t, .slice a2 N cap2, .bool br, .bool bl, nv2, tv2] 32) := ⟨_, rfl⟩
  have hbW : Below w.heap.size w Z := by rw [hZ]; exact below2 _ _ _
  have HB0 : Hid (Below Z.heap.size Z ((w.alloc (.cells #[.int .i64 k, .string t, .slice a N cap, .bool br, .bool bl, nv, tv] 32)).alloc (.cells #[.int .i64 k, .string t, .slice a2 N cap2, .bool br, .bool bl, nv2, tv2] 32))) := Lib.hid (by rw [← hZ]; exact Below.refl _ _)
  have HC := Lib.hid (fun W (hb : Below Z.heap.size Z W) => nd2_cells (by rw [hZ] at hb; exact hb))
  have UP := Lib.hid (fun W (h : Below Z.heap.size Z W) => hbW.trans (h.mono hbW.size))
  clear hZ hbW
  obtain ⟨⟨p0, p1, p2, p3, p4, p5, p6⟩, ⟨q0, q1, q2, q3, q4, q5, q6⟩⟩ := HC.out _ HB0.out
  go_enter Try.func17, Try.ntmps17
  go_wp2_with fail
  refine (TX1.out _ (UP.out _ HB0.out)).mono ?_
  rintro e w1 ⟨rfl, hb1⟩
  have HB1 : Hid (Below Z.heap.size Z w1) := Lib.hid (HB0.out.trans (hb1.mono HB0.out.size))
  obtain ⟨⟨p0, p1, p2, p3, p4, p5, p6⟩, ⟨q0, q1, q2, q3, q4, q5, q6⟩⟩ := HC.out _ HB1.out
  clear hb1
  go_wp2_with fail
  refine (TX2.out _ (UP.out _ HB1.out)).mono ?_
  rintro e w2 ⟨rfl, hb2⟩
  have HB2 : Hid (Below Z.heap.size Z w2) := Lib.hid (HB1.out.trans (hb2.mono HB1.out.size))
  obtain ⟨⟨p0, p1, p2, p3, p4, p5, p6⟩, ⟨q0, q1, q2, q3, q4, q5, q6⟩⟩ := HC.out _ HB2.out
  clear hb2
  go_wp2_with fail
  go_loopg [7] N (fun gn i wr => ∃ (q : Nat), gn = N - q ∧ q ≤ N ∧ i = .int .i64 (q : Int) ∧ Hid (R = lkL true (l.drop q) (l2.drop q)) ∧ Hid (Below Z.heap.size Z wr))
  case atStart => exact ⟨0, rfl, Nat.zero_le _, rfl, Lib.hid (by rw [HRR.out]; rfl), HB2⟩
  case round =>
    obtain ⟨q, hgn, hq, rfl, HK, HB⟩ := hrel
    clear p0 p1 p2 p3 p4 p5 p6 q0 q1 q2 q3 q4 q5 q6
    obtain ⟨⟨p0, p1, p2, p3, p4, p5, p6⟩, ⟨q0, q1, q2, q3, q4, q5, q6⟩⟩ := HC.out _ HB.out
    by_cases hlt : q < N
    · obtain ⟨x, hx⟩ : ∃ x, l[q]? = some x := ⟨_, List.getElem?_eq_getElem (by rw [← HN.out]; exact hlt)⟩
      obtain ⟨y, hy⟩ : ∃ x, l2[q]? = some x := ⟨_, List.getElem?_eq_getElem (by rw [← HN2.out]; exact hlt)⟩
      obtain ⟨g, o, k', t', lv', br', bl', nv', tv', rfl, hnd, hcell⟩ := HK1.out q x hx
      obtain ⟨g2, o2, k3, t3, lv3, br3, bl3, nv3, tv3, rfl, hnd2, hcell2⟩ := HK2.out q y hy
      have C := Lib.hid (fun W (hb : Below Z.heap.size Z W) => (⟨(HC.out _ hb).1.2.2.1, (HC.out _ hb).2.2.2.1, hcell W (UP.out _ hb), hcell2 W (UP.out _ hb), Lib.hid hb⟩ :
        W.cell? ⟨w.heap.size, 2, none⟩ = some (.slice (some ⟨g, o, none⟩) N cap) ∧ W.cell? ⟨w.heap.size + 1, 2, none⟩ = some (.slice (some ⟨g2, o2, none⟩) N cap2) ∧
        (W.cell? ⟨g, o + q * 7, none⟩ = some (.int .i64 k') ∧ W.cell? ⟨g, o + q * 7 + 1, none⟩ = some (.string t') ∧ W.cell? ⟨g, o + q * 7 + 2, none⟩ = some lv' ∧ W.cell? ⟨g, o + q * 7 + 3, none⟩ = some (.bool br') ∧ W.cell? ⟨g, o + q * 7 + 4, none⟩ = some (.bool bl') ∧ W.cell? ⟨g, o + q * 7 + 5, none⟩ = some nv' ∧ W.cell? ⟨g, o + q * 7 + 6, none⟩ = some tv') ∧
        (W.cell? ⟨g2, o2 + q * 7, none⟩ = some (.int .i64 k3) ∧ W.cell? ⟨g2, o2 + q * 7 + 1, none⟩ = some (.string t3) ∧ W.cell? ⟨g2, o2 + q * 7 + 2, none⟩ = some lv3 ∧ W.cell? ⟨g2, o2 + q * 7 + 3, none⟩ = some (.bool br3) ∧ W.cell? ⟨g2, o2 + q * 7 + 4, none⟩ = some (.bool bl3) ∧ W.cell? ⟨g2, o2 + q * 7 + 5, none⟩ = some nv3 ∧ W.cell? ⟨g2, o2 + q * 7 + 6, none⟩ = some tv3) ∧ Hid (Below Z.heap.size Z W)))
      have HIW : Hid (∀ W, Below Z.heap.size Z W → Calls Try.prog 17 #[.agg #[.int .i64 k', .string t', lv', .bool br', .bool bl', nv', tv'], .agg #[.int .i64 k3, .string t3, lv3, .bool br3, .bool bl3, nv3, tv3], .bool true] W fun e w' => e = .returned (.bool (lk true x y)) ∧ Below Z.heap.size Z w') :=
        Lib.hid (fun W hb => (HI.out q x _ y _ hx hnd hnd2 W (UP.out _ hb)).mono fun e w' ⟨h1, h2⟩ => ⟨h1, hb.trans (h2.mono hb.size)⟩)
      have qn : (q : Int) < (N : Int) := by omega
      have HKR : Hid (R = (lk true x y && lkL true (l.drop (q + 1)) (l2.drop (q + 1)))) := Lib.hid (by rw [HK.out, lkL_drop true hx hy])
      obtain ⟨z, hz⟩ : ∃ z, z = lk true x y := ⟨_, rfl⟩
      rw [← hz] at HIW HKR
      have HBd : Hid (Below Z.heap.size Z wr.drew) := Lib.hid (Below.drew HB.out)
      clear hcell hcell2 hx hy hnd hnd2 hz HK
      go_wp2_with fail
      go_region_held3 (fun w' => w'.cell? ⟨w.heap.size, 2, none⟩ = some (.slice (some ⟨g, o, none⟩) N cap) ∧ w'.cell? ⟨w.heap.size + 1, 2, none⟩ = some (.slice (some ⟨g2, o2, none⟩) N cap2) ∧
        (w'.cell? ⟨g, o + q * 7, none⟩ = some (.int .i64 k') ∧ w'.cell? ⟨g, o + q * 7 + 1, none⟩ = some (.string t') ∧ w'.cell? ⟨g, o + q * 7 + 2, none⟩ = some lv' ∧ w'.cell? ⟨g, o + q * 7 + 3, none⟩ = some (.bool br') ∧ w'.cell? ⟨g, o + q * 7 + 4, none⟩ = some (.bool bl') ∧ w'.cell? ⟨g, o + q * 7 + 5, none⟩ = some nv' ∧ w'.cell? ⟨g, o + q * 7 + 6, none⟩ = some tv') ∧
        (w'.cell? ⟨g2, o2 + q * 7, none⟩ = some (.int .i64 k3) ∧ w'.cell? ⟨g2, o2 + q * 7 + 1, none⟩ = some (.string t3) ∧ w'.cell? ⟨g2, o2 + q * 7 + 2, none⟩ = some lv3 ∧ w'.cell? ⟨g2, o2 + q * 7 + 3, none⟩ = some (.bool br3) ∧ w'.cell? ⟨g2, o2 + q * 7 + 4, none⟩ = some (.bool bl3) ∧ w'.cell? ⟨g2, o2 + q * 7 + 5, none⟩ = some nv3 ∧ w'.cell? ⟨g2, o2 + q * 7 + 6, none⟩ = some tv3) ∧ Hid (Below Z.heap.size Z w')) (first | exact C.out _ HBd.out | exact C.out _ ht1) (first
        | (go_at_call 17; refine (HIW.out _ HBd.out).mono ?_; rintro e w5 ⟨rfl, ht1⟩))
      have HB5 := Lib.hid ht1
      clear ht1
      cases z
      · have HF : Hid (false = R) := Lib.hid (by rw [HKR.out, Bool.false_and])
        go_wp2_with fail
        go_ret
        exact ⟨ret_bool HF.out, UP.out _ HB5.out⟩
      · have HF : Hid (R = lkL true (l.drop (q + 1)) (l2.drop (q + 1))) := Lib.hid (by rw [HKR.out, Bool.true_and])
        go_wp2_with fail
        go_roundg (N - (q + 1))
        case measure => omega
        case rel => exact ⟨q + 1, rfl, hlt, by go_num, HF, HB5⟩
    · obtain rfl : q = N := by omega
      have HF : Hid (true = R) := Lib.hid (by rw [HK.out, List.drop_eq_nil_of_le (by rw [HN.out]; exact Nat.le_refl _), List.drop_eq_nil_of_le (by rw [HN2.out]; exact Nat.le_refl _)]; simp only [lkL])
      go_wp2_with fail
      go_ret
      exact ⟨ret_bool HF.out, UP.out _ HB.out⟩
end Go.Proofs.Ytkngnkonddpbeaa
