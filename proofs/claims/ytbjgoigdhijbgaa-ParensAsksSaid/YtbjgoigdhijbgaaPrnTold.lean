/-
  What the law's own question answers.
-/
import Derived.Test.YtbjgoigdhijbgaaPrnRef
import Derived.Test.YtbjgoigdhijbgaaPrnHug
set_option linter.all false
namespace Go.Proofs.Ytbjgoigdhijbgaa
open Go.RowKit Go.PlainAid

theorem nd7_of {W : World} {g : Nat} {a b c d e f k : Value} {ty : TypeId} (h : W.heap[g]? = some (.cells #[a, b, c, d, e, f, k] ty (0, 0))) :
    W.cell? ⟨g, 0, none⟩ = some a ∧ W.cell? ⟨g, 1, none⟩ = some b ∧ W.cell? ⟨g, 2, none⟩ = some c ∧ W.cell? ⟨g, 3, none⟩ = some d ∧ W.cell? ⟨g, 4, none⟩ = some e ∧ W.cell? ⟨g, 5, none⟩ = some f ∧ W.cell? ⟨g, 6, none⟩ = some k :=
  ⟨cell_of_row W g 0 _ _ _ h, cell_of_row W g 1 _ _ _ h, cell_of_row W g 2 _ _ _ h, cell_of_row W g 3 _ _ _ h, cell_of_row W g 4 _ _ _ h, cell_of_row W g 5 _ _ _ h, cell_of_row W g 6 _ _ _ h⟩
theorem plevel_is (k : Int) (t : ByteArray) (n : Nat) (h : lvlI k t = n) (v2 v3 v4 v5 v6 : Value) (w : World) :
    Calls Try.prog 11 #[.agg #[.int .i64 k, .string t, v2, v3, v4, v5, v6]] w fun e w' => e = .returned (.int .i64 (n : Int)) ∧ Below w.heap.size w w' := by rw [← h]; exact plevel_any k t v2 v3 v4 v5 v6 w
theorem pneed_is (k : Int) (t : ByteArray) (l : Int) (b : Bool) (h : decide ((lvlI k t : Int) < l) = b) (v2 v3 v4 v5 v6 : Value) (w : World) :
    Calls Try.prog 13 #[.agg #[.int .i64 k, .string t, v2, v3, v4, v5, v6], .int .i64 l] w fun e w' => e = .returned (.bool b) ∧ Below w.heap.size w w' := by rw [← h]; exact pneed_any k t v2 v3 v4 v5 v6 l w
theorem pbare_is (k : Int) (t : ByteArray) (b : Bool) (h : barI k t = b) (hk : -9223372036854775808 ≤ k ∧ k ≤ 9223372036854775807) (v2 v3 v4 v5 v6 : Value) (w : World) :
    Calls Try.prog 9 #[.agg #[.int .i64 k, .string t, v2, v3, v4, v5, v6]] w fun e w' => e = .returned (.bool b) ∧ Below w.heap.size w w' := by rw [← h]; exact pbare_any k t v2 v3 v4 v5 v6 w hk
theorem phugs_is (op : ByteArray) (k : Int) (t : ByteArray) (b : Bool) (h : hugI op k = b) (hk : -9223372036854775808 ≤ k ∧ k ≤ 9223372036854775807) (v2 v3 v4 v5 v6 : Value) (w : World) :
    Calls Try.prog 7 #[.string op, .agg #[.int .i64 k, .string t, v2, v3, v4, v5, v6]] w fun e w' => e = .returned (.bool b) ∧ Below w.heap.size w w' := by rw [← h]; exact phugs_any op k t v2 v3 v4 v5 v6 w hk
theorem at_old9 {W : World} {g : Nat} {o : Obj} (h : g < W.heap.size) : (W.alloc o).heap[g]? = W.heap[g]? := by show (W.heap.push o)[g]? = _; rw [Array.getElem?_push, if_neg (by omega)]
theorem at_new8 {W : World} {g : Nat} {o : Obj} (h : g = W.heap.size) : (W.alloc o).heap[g]? = some o := by rw [h]; exact alloc_at9 W o
theorem nm_97 : nmB ⟨#[97]⟩ = true := by decide +kernel
theorem nm_49 : nmB ⟨#[49]⟩ = false := by decide +kernel
set_option maxRecDepth 100000 in
set_option maxHeartbeats 8000000 in
theorem told18_any (w : World) : Calls Try.prog 6 #[] w fun e w' => e = .returned (.bool true) ∧ Below w.heap.size w w' := by
  go_enter Try.func6, Try.ntmps6
  go_upto_region 3 with fail
  obtain ⟨V, hV⟩ : ∃ V, V = ((w.alloc (.cells #[.int .i64 1, .string ⟨#[97]⟩, .slice none 0 0, .bool false, .bool false, .slice none 0 0, .slice none 0 0] 25)).alloc (.cells #[.int .i64 1, .string ⟨#[97]⟩, .slice none 0 0, .bool false, .bool false, .slice none 0 0, .slice none 0 0, .int .i64 1, .string ⟨#[97]⟩, .slice none 0 0, .bool false, .bool false, .slice none 0 0, .slice none 0 0] 25)).alloc (.cells #[.int .i64 14, .string ⟨#[43]⟩, .slice (some ⟨w.heap.size + 1, 0, none⟩) 2 2, .bool false, .bool false, .slice none 0 0, .slice none 0 0] 25) := ⟨_, rfl⟩
  have hbV : Below w.heap.size w V := by rw [hV]; exact ((below1 _ _).alloc (by simp) _).alloc (by simp; omega) _
  have ha : V.heap[w.heap.size]? = some (.cells #[.int .i64 1, .string ⟨#[97]⟩, .slice none 0 0, .bool false, .bool false, .slice none 0 0, .slice none 0 0] 25) := by rw [hV, at_old9 (by simp; omega), at_old9 (by simp)]; exact alloc_at9 w _
  have hn : V.heap[w.heap.size + 1 + 1]? = some (.cells #[.int .i64 14, .string ⟨#[43]⟩, .slice (some ⟨w.heap.size + 1, 0, none⟩) 2 2, .bool false, .bool false, .slice none 0 0, .slice none 0 0] 25) := by rw [hV]; exact at_new8 (by simp)
  have CC := Lib.hid (fun W (hb : Below V.heap.size V W) => (⟨nd7_of ((hb.block _ (lt_of_block ha)).trans ha), nd7_of ((hb.block _ (lt_of_block hn)).trans hn), Lib.hid hb⟩ : _ ∧ _ ∧ Hid (Below V.heap.size V W)))
  have HBV := Lib.hid hbV
  have HV := Lib.hid hV
  clear hbV ha hn
  rw [← hV]
  clear hV
  obtain ⟨⟨a0, a1, a2, a3, a4, a5, a6⟩, ⟨n0, n1, n2, n3, n4, n5, n6⟩, HB⟩ := CC.out V (Below.refl _ _)
  go_wp2_with fail
  refine (plevel_is 14 ⟨#[43]⟩ 8 (by decide +kernel) _ _ _ _ _ _).mono ?_
  rintro e w1 ⟨rfl, hb⟩
  have hb1 := HB.out.trans (hb.mono HB.out.size)
  clear a0 a1 a2 a3 a4 a5 a6 n0 n1 n2 n3 n4 n5 n6 HB hb
  obtain ⟨⟨a0, a1, a2, a3, a4, a5, a6⟩, ⟨n0, n1, n2, n3, n4, n5, n6⟩, HB⟩ := CC.out w1 hb1
  clear hb1
  go_wp2_with fail
  refine (pneed_is 14 ⟨#[43]⟩ 9 true (by decide +kernel) _ _ _ _ _ _).mono ?_
  rintro e w1 ⟨rfl, hb⟩
  have hb1 := HB.out.trans (hb.mono HB.out.size)
  clear a0 a1 a2 a3 a4 a5 a6 n0 n1 n2 n3 n4 n5 n6 HB hb
  obtain ⟨⟨a0, a1, a2, a3, a4, a5, a6⟩, ⟨n0, n1, n2, n3, n4, n5, n6⟩, HB⟩ := CC.out w1 hb1
  clear hb1
  go_wp2_with fail
  refine (pneed_is 14 ⟨#[43]⟩ 8 false (by decide +kernel) _ _ _ _ _ _).mono ?_
  rintro e w1 ⟨rfl, hb⟩
  have hb1 := HB.out.trans (hb.mono HB.out.size)
  clear a0 a1 a2 a3 a4 a5 a6 n0 n1 n2 n3 n4 n5 n6 HB hb
  obtain ⟨⟨a0, a1, a2, a3, a4, a5, a6⟩, ⟨n0, n1, n2, n3, n4, n5, n6⟩, HB⟩ := CC.out w1 hb1
  clear hb1
  go_wp2_with fail
  refine (plevel_is 13 ⟨#[99, 97, 116, 99, 104]⟩ 0 (by decide +kernel) _ _ _ _ _ _).mono ?_
  rintro e w1 ⟨rfl, hb⟩
  have hb1 := HB.out.trans (hb.mono HB.out.size)
  clear a0 a1 a2 a3 a4 a5 a6 n0 n1 n2 n3 n4 n5 n6 HB hb
  obtain ⟨⟨a0, a1, a2, a3, a4, a5, a6⟩, ⟨n0, n1, n2, n3, n4, n5, n6⟩, HB⟩ := CC.out w1 hb1
  clear hb1
  go_wp2_with fail
  refine (pbare_is 1 ⟨#[97]⟩ true nm_97 (by decide) _ _ _ _ _ _).mono ?_
  rintro e w1 ⟨rfl, hb⟩
  have hb1 := HB.out.trans (hb.mono HB.out.size)
  clear a0 a1 a2 a3 a4 a5 a6 n0 n1 n2 n3 n4 n5 n6 HB hb
  obtain ⟨⟨a0, a1, a2, a3, a4, a5, a6⟩, ⟨n0, n1, n2, n3, n4, n5, n6⟩, HB⟩ := CC.out w1 hb1
  clear hb1
  go_wp2_with fail
  refine (pbare_is 1 ⟨#[49]⟩ false nm_49 (by decide) _ _ _ _ _ _).mono ?_
  rintro e w1 ⟨rfl, hb⟩
  have hb1 := HB.out.trans (hb.mono HB.out.size)
  clear a0 a1 a2 a3 a4 a5 a6 n0 n1 n2 n3 n4 n5 n6 HB hb
  obtain ⟨⟨a0, a1, a2, a3, a4, a5, a6⟩, ⟨n0, n1, n2, n3, n4, n5, n6⟩, HB⟩ := CC.out w1 hb1
  clear hb1
  go_wp2_with fail
  refine (phugs_is ⟨#[61]⟩ 4 ⟨#[]⟩ true (by decide +kernel) (by decide) _ _ _ _ _ _).mono ?_
  rintro e w1 ⟨rfl, hb⟩
  have hb1 := HB.out.trans (hb.mono HB.out.size)
  clear a0 a1 a2 a3 a4 a5 a6 n0 n1 n2 n3 n4 n5 n6 HB hb
  obtain ⟨⟨a0, a1, a2, a3, a4, a5, a6⟩, ⟨n0, n1, n2, n3, n4, n5, n6⟩, HB⟩ := CC.out w1 hb1
  clear hb1
  go_wp2_with fail
  refine (phugs_is ⟨#[43]⟩ 4 ⟨#[]⟩ false (by decide +kernel) (by decide) _ _ _ _ _ _).mono ?_
  rintro e w1 ⟨rfl, hb⟩
  have hb1 := HB.out.trans (hb.mono HB.out.size)
  clear a0 a1 a2 a3 a4 a5 a6 n0 n1 n2 n3 n4 n5 n6 HB hb
  obtain ⟨⟨a0, a1, a2, a3, a4, a5, a6⟩, ⟨n0, n1, n2, n3, n4, n5, n6⟩, HB⟩ := CC.out w1 hb1
  clear hb1
  go_wp2_with fail
  go_ret
  exact ⟨rfl, HBV.out.trans (HB.out.mono HBV.out.size)⟩
end Go.Proofs.Ytbjgoigdhijbgaa
