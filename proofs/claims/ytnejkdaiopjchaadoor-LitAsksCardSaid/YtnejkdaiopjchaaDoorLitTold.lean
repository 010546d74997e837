/-
  What the statements of layer 4 ask of a few texts each time: it holds.
-/
import Derived.Test.YtnejkdaiopjchaaDoorLitLists
import Derived.Test.YtnejkdaiopjchaaDoorLitQuo
namespace Go.Proofs.YtnejkdaiopjchaaDoor
open Go.RowKit Go.PlainAid

theorem integer_is (s : ByteArray) (v e : Int) (hs : s.size ≤ 1000) (h : igr s = (v, e)) (w : World) :
    Calls Tryd.prog 9 #[.string s] w fun x w' => x = .returned (.tuple #[.int .u64 v, .int .i64 e]) ∧ Below w.heap.size w w' := by
  have := integer_any s (by unfold maxLen; omega) w
  rw [h] at this
  exact this
theorem char_is4 (s : ByteArray) (v e : Int) (hs : s.size ≤ 1000) (h : chr s = (v, e)) (w : World) (ht : LTabs w) :
    Calls Tryd.prog 11 #[.string s] w fun x w' => x = .returned (.tuple #[.int .i64 v, .int .i64 e]) ∧ Below w.heap.size w w' := by
  have := char_any s (by unfold maxLen; omega) w ht
  rw [h] at this
  exact this
theorem escape_is (s : ByteArray) (k : Nat) (v : Int) (n : Nat) (hs : s.size ≤ 1000) (h : esc s k = (v, n)) (w : World) (ht : LTabs w) :
    Calls Tryd.prog 13 #[.string s, .int .i64 k] w fun x w' => x = .returned (.tuple #[.int .i64 v, .int .i64 n]) ∧ Below w.heap.size w w' := by
  have := escape_any s k (by unfold maxLen; omega) w ht
  rw [h] at this
  exact this
theorem float_is4 (s : ByteArray) (v : Bool) (hs : s.size ≤ 1000) (h : flt s = v) (w : World) :
    Calls Tryd.prog 17 #[.string s] w fun x w' => x = .returned (.bool v) ∧ Below w.heap.size w w' := by
  have := float_any s (by omega) w
  rw [h] at this
  exact this
def k1 : ByteArray := { data := #[49, 54, 35, 70, 70] }
def k2 : ByteArray := { data := #[49, 56, 52, 52, 54, 55, 52, 52, 48, 55, 51, 55, 48, 57, 53, 53, 49, 54, 49, 54] }
def k3 : ByteArray := { data := #[36, 92, 110] }
def k4 : ByteArray := { data := #[34, 97, 92, 120, 123, 101, 57, 125, 34] }
def k5 : ByteArray := { data := #[92, 49, 48, 49] }
def k6 : ByteArray := { data := #[49, 46, 53, 101, 45, 51] }
def k7 : ByteArray := { data := #[49, 46] }
theorem k1_is : igr k1 = (255, 0) := by
  have e0 : nm k1 10 2 0 = (((16 : Nat) : Int), (0 : Int)) := by
    have h := nm_ext k1 10 0 2 (by decide) (by decide)
    rw [← h, nm_of (by decide +kernel) (by decide +kernel)]
    have : vnL 10 0 (List.drop 0 (k1.extract 0 2).data.toList) = 16 := by decide +kernel
    rw [this]
  rw [igr_based (p := 2) (B := 16) (by decide +kernel) (by decide) e0 (by decide) (by decide), nm_of (by decide +kernel) (by decide +kernel)]
  have : vnL 16 0 (List.drop (2 + 1) k1.data.toList) = 255 := by decide +kernel
  rw [this]; rfl
theorem k2_is : igr k2 = (0, 6) := by
  rw [igr_plain (by decide +kernel), nm_list, if_pos (by decide +kernel), if_neg (by decide +kernel)]
theorem k3_is : chr k3 = (10, 0) := by decide +kernel
theorem k5_is : esc k5 0 = (65, 4) := by decide +kernel
theorem k4_is : quo k4 = some [97, 233] := by
  have e0 : k4.extract 1 (k4.size - 1) = { data := #[97, 92, 120, 123, 101, 57, 125] } := by decide +kernel
  have hv : vd k4 0 = true := by
    rw [vd_btw (by decide) (by decide +kernel) (by decide +kernel), e0]
    rw [vd_go (by decide) (by decide +kernel), show nl { data := #[97, 92, 120, 123, 101, 57, 125] } 0 = 1 by decide +kernel]
    rw [vd_ascii 6 (by decide +kernel) (by decide)]
    exact vd_end (by decide)
  have hb : btw k4 = true := by decide +kernel
  have hq : bt k4 0 = 34 := by decide +kernel
  unfold quo
  rw [if_pos ⟨hv, hb⟩, e0, hq]
  rw [qi_go (by decide) (by decide +kernel), show step1 { data := #[97, 92, 120, 123, 101, 57, 125] } 0 = 1 by decide +kernel]
  rw [qi_go (by decide) (by decide +kernel), show step1 { data := #[97, 92, 120, 123, 101, 57, 125] } (0 + 1) = 6 by decide +kernel]
  rw [qi_end (by decide)]
  have c0 : cell1 { data := #[97, 92, 120, 123, 101, 57, 125] } 34 0 = 97 := by decide +kernel
  have c1 : cell1 { data := #[97, 92, 120, 123, 101, 57, 125] } 34 (0 + 1) = 233 := by decide +kernel
  rw [c0, c1]
  rfl
theorem fmL_at {s : ByteArray} {b : Int} {k : Nat} {h : Bool} : fm s b s.size k h = fmL b h (s.data.toList.drop k) := fm_list s b _ k h (Nat.le_refl _)
theorem k6_is : flt k6 = true := by
  obtain ⟨e1, h1⟩ := ix_hit (s := k6) (c := 46) (p := 1) (by decide +kernel)
  have e1' : ix k6 46 0 = 1 := e1
  unfold flt
  rw [e1', if_pos h1, ← fm_ext k6 10 0 1 (by decide) (by decide), fmL_at]
  have a : fmL 10 false (List.drop 0 (k6.extract 0 1).data.toList) = true := by decide +kernel
  rw [a, Bool.true_and]
  have e0 : k6.extract (1 + 1) k6.size = { data := #[53, 101, 45, 51] } := by decide +kernel
  rw [e0]
  obtain ⟨e2, h2⟩ := ixe_hit (s := { data := #[53, 101, 45, 51] }) (p := 1) (by decide +kernel)
  unfold flr
  rw [e2, if_pos h2, ← fm_ext _ 10 0 1 (by decide) (by decide), fmL_at]
  have b : fmL 10 false (List.drop 0 (({ data := #[53, 101, 45, 51] } : ByteArray).extract 0 1).data.toList) = true := by decide +kernel
  rw [b, Bool.true_and]
  unfold exq
  rw [if_pos (by decide +kernel), fmL_at]
  decide +kernel
theorem k7_is : flt k7 = false := by
  obtain ⟨e1, h1⟩ := ix_hit (s := k7) (c := 46) (p := 1) (by decide +kernel)
  have e1' : ix k7 46 0 = 1 := e1
  unfold flt
  rw [e1', if_pos h1]
  have e0 : k7.extract (1 + 1) k7.size = { data := #[] } := by decide +kernel
  rw [e0]
  have h2 := ixe_miss (s := { data := #[] }) (by decide +kernel)
  unfold flr
  rw [if_neg h2, fmL_at]
  have b : fmL 10 false (List.drop 0 ({ data := #[] } : ByteArray).data.toList) = false := by decide +kernel
  rw [b, Bool.and_false]
theorem own_two {w : World} {B : Nat} {v : Value} {a b : Int} (h : w.ownsRow B 3 1 v 2 [.int .i64 a, .int .i64 b]) :
    ∃ g cap, v = .slice (some ⟨g, 0, none⟩) 2 cap ∧ w.cell? ⟨g, 0, none⟩ = some (.int .i64 a) ∧ w.cell? ⟨g, 1, none⟩ = some (.int .i64 b) := by
  obtain ⟨-, ⟨-, h0⟩ | ⟨g, cap, cur, rfl, -, hblk, -, -, -, htk⟩⟩ := h
  · cases h0
  · have c0 : cur.toList[0]? = some (.int .i64 a) := by
      have : (cur.toList.take 2)[0]? = some (Value.int .i64 a) := by rw [show (2 : Nat) = 2 * 1 from rfl, htk]; rfl
      rwa [List.getElem?_take_of_lt (by omega)] at this
    have c1 : cur.toList[1]? = some (.int .i64 b) := by
      have : (cur.toList.take 2)[1]? = some (Value.int .i64 b) := by rw [show (2 : Nat) = 2 * 1 from rfl, htk]; rfl
      rwa [List.getElem?_take_of_lt (by omega)] at this
    refine ⟨g, cap, rfl, ?_, ?_⟩
    · simp only [World.cell?, hblk]; simpa using c0
    · simp only [World.cell?, hblk]; simpa using c1
theorem told4_any (w : World) (ht : LTabs w) : Calls Tryd.prog 8 #[] w fun e w' => e = .returned (.bool true) ∧ Below w.heap.size w w' := by
  have HT := Lib.hid ht
  clear ht
  have F6 : Hid (∀ W, Calls Tryd.prog 17 #[.string { data := #[49, 46, 53, 101, 45, 51] }] W fun x w' => x = .returned (.bool true) ∧ Below W.heap.size W w') := fun W => float_is4 k6 true (by decide) k6_is W
  have F7 : Hid (∀ W, Calls Tryd.prog 17 #[.string { data := #[49, 46] }] W fun x w' => x = .returned (.bool false) ∧ Below W.heap.size W w') := fun W => float_is4 k7 false (by decide) k7_is W
  go_enter Tryd.func8, Tryd.ntmps8
  go_wp2_with fail
  refine (integer_is k1 255 0 (by decide) k1_is _).mono ?_
  rintro e w1 ⟨rfl, hb1⟩
  have HB1 := Lib.hid hb1
  clear hb1
  go_wp2_with fail
  refine (integer_is k2 0 6 (by decide) k2_is _).mono ?_
  rintro e w2 ⟨rfl, hb2⟩
  have HB2 := Lib.hid (HB1.out.trans (hb2.mono HB1.out.size))
  clear hb2 HB1
  go_wp2_with fail
  refine (char_is4 k3 10 0 (by decide) k3_is _ (HT.out.below HB2.out)).mono ?_
  rintro e w3 ⟨rfl, hb3⟩
  have HB3 := Lib.hid (HB2.out.trans (hb3.mono HB2.out.size))
  clear hb3 HB2
  go_wp2_with fail
  refine (quoted_any k4 (by decide) _ (HT.out.below HB3.out)).mono ?_
  rintro e w4 ⟨v, he, ho, hb4⟩
  rw [k4_is] at he ho
  rw [show qe (some [97, 233]) = 0 from rfl] at he
  have HO := Lib.hid (own_two ho)
  have HB4 := Lib.hid (HB3.out.trans (hb4.mono HB3.out.size))
  clear hb4 HB3 ho
  subst he
  obtain ⟨g, cap, rfl, hc0, hc1⟩ := HO.out
  have hg := World.block_lt_of_cell? _ _ hc1
  simp only at hg
  clear HO hc0
  go_wp2_with fail
  refine (escape_is k5 0 65 4 (by decide) k5_is _ (HT.out.below HB4.out)).mono ?_
  rintro e w5 ⟨rfl, hb5⟩
  have hc2 := (hb5.cell (p := ⟨g, 1, none⟩) hg).trans hc1
  have HB5 := Lib.hid (HB4.out.trans (hb5.mono HB4.out.size))
  clear hb5 HB4 hc1 hg
  go_wp2_with fail
  refine (F6.out _).mono ?_
  rintro e w6 ⟨rfl, hb6⟩
  have HB6 := Lib.hid (HB5.out.trans (hb6.mono HB5.out.size))
  clear hb6 HB5
  go_wp2_with fail
  refine (F7.out _).mono ?_
  rintro e w7 ⟨rfl, hb7⟩
  have HB7 := Lib.hid (HB6.out.trans (hb7.mono HB6.out.size))
  clear hb7 HB6
  go_wp2_with fail
  go_ret
  exact ⟨rfl, HB7.out⟩
end Go.Proofs.YtnejkdaiopjchaaDoor
