/-
  What is no operator never needs parentheses but as what is followed; numbers, chars and texts are not bare (promise 18.1): for every three integers the statement ParensKinds returns true. No condition.
-/
import Derived.Test.YtbjgoigdhijbgaaBase
import Derived.Test.YtbjgoigdhijbgaaPrnTold
namespace Go.Proofs.Ytbjgoigdhijbgaa.parensKinds
open Go.ChangeShapes Go.WideShapes Go.ChangeAt Go.RowKit Go.PlainAid

/-- The literals. -/
def lits : List (List UInt8) := [[97], [39, 97, 32, 98, 39], [88], [95], [63, 77], [49], [49, 54, 35, 102], [49, 46, 53], [36, 97], [34, 115, 34]]
theorem lits_all : ∀ k : Fin 10, nmB ⟨(lits.getD k.val []).toArray⟩ = decide (k.val < 5) := by decide +kernel
theorem lits_cell (w : World) (t : TypeId) (cs : Array Value) (k : Nat) (hk : k < 10) (h : cs = (lits.map fun l => Value.string ⟨l.toArray⟩).toArray) : (w.alloc (.cells cs t)).cell? ⟨w.heap.size, k, none⟩ = some (.string ⟨(lits.getD k []).toArray⟩) := by
  rw [World.cell?_alloc_new, h, List.getElem?_toArray, List.getElem?_map]
  have : lits[k]? = some (lits.getD k []) := by
    rw [List.getD, List.getElem?_eq_getElem (by exact hk)]; rfl
  rw [this]; rfl
theorem mod_lt (n : Nat) (hn : 0 < n) (x : Int) : ∃ r : Nat, r < n ∧ (IntKind.u64.wrap x).tmod n = (r : Int) := by
  have := IntKind.wrap_u64 x
  have h0 := Int.tmod_nonneg (a := IntKind.u64.wrap x) n (by omega)
  have h1 := Int.tmod_lt_of_pos (IntKind.u64.wrap x) (b := n) (by omega)
  have h2 := Int.toNat_of_nonneg h0
  exact ⟨((IntKind.u64.wrap x).tmod n).toNat, by omega, h2.symm⟩
theorem hug_no {op : ByteArray} (k : Int) (h : hgO op = false) : hugI op k = false := by rw [hugI, h, Bool.false_and]
set_option maxRecDepth 100000 in
set_option maxHeartbeats 8000000 in
theorem walk (x y z : Int) (w : World) :
    Calls Try.prog 5 #[.int .i64 x, .int .i64 y, .int .i64 z] w fun e w' => e = .returned (.bool true) ∧ Below w.heap.size w w' := by
  obtain ⟨r, hr, er⟩ := mod_lt 30 (by decide) x
  obtain ⟨v, hv, ev⟩ := mod_lt 12 (by decide) y
  obtain ⟨q, hq, eq⟩ := mod_lt 10 (by decide) z
  have hn := lits_all ⟨q, hq⟩
  simp only at hn
  have CX := Lib.hid (fun (W : World) t cs h => lits_cell W t cs q hq h)
  obtain ⟨S, hS⟩ : ∃ S : ByteArray, S = ⟨(lits.getD q []).toArray⟩ := ⟨_, rfl⟩
  rw [← hS] at CX hn
  clear hS
  have r0 : (0 : Int) ≤ (r : Int) := by omega
  have r1 : (r : Int) < 30 := by omega
  have v0 : (0 : Int) ≤ (v : Int) := by omega
  have v1 : (v : Int) < 12 := by omega
  have q0 : (0 : Int) ≤ (q : Int) := by omega
  have q1 : (q : Int) < 10 := by omega
  have er' : (IntKind.u64.wrap x).tmod 30 = (r : Int) := er
  have ev' : (IntKind.u64.wrap y).tmod 12 = (v : Int) := ev
  have eq' : (IntKind.u64.wrap z).tmod 10 = (q : Int) := eq
  clear er ev eq
  have hk : ∃ k : Int, k = 1 + (r : Int) ∧ 1 ≤ k ∧ k ≤ 30 := ⟨_, rfl, by omega, by omega⟩
  obtain ⟨k, hk, k1, k2⟩ := hk
  have HK := Lib.hid hk
  have hw : IntKind.i64.wrap (1 + (r : Int)) = k := by rw [IntKind.wrap_i64]; omega
  have BL := Lib.hid (fun W => pbare_is 1 S (decide ((q : Int) < 5)) (by rw [barI, if_pos rfl, hn]; exact decide_eq_decide.2 (by omega)) (by decide) (.slice none 0 0) (.bool false) (.bool false) (.slice none 0 0) (.slice none 0 0) W)
  clear hn
  go_enter Try.func5, Try.ntmps5
  go_upto_region 4 with fail
  rw [← HK.out]
  obtain ⟨V, hV⟩ : ∃ V, V = w.alloc (.cells #[.int .i64 k, .string ⟨#[120]⟩, .slice none 0 0, .bool false, .bool false, .slice none 0 0, .slice none 0 0] 25) := ⟨_, rfl⟩
  have hbV : Below w.heap.size w V := by rw [hV]; exact below1 _ _
  have ha : V.heap[w.heap.size]? = some (.cells #[.int .i64 k, .string ⟨#[120]⟩, .slice none 0 0, .bool false, .bool false, .slice none 0 0, .slice none 0 0] 25) := by rw [hV]; exact alloc_at9 w _
  have CC := Lib.hid (fun W (hb : Below V.heap.size V W) => (⟨nd7_of ((hb.block _ (lt_of_block ha)).trans ha), Lib.hid hb⟩ : _ ∧ Hid (Below V.heap.size V W)))
  have HBV := Lib.hid hbV
  rw [← hV]
  clear hV hbV ha hk
  obtain ⟨⟨n0, n1, n2, n3, n4, n5, n6⟩, HB⟩ := CC.out V (Below.refl _ _)
  by_cases h13 : k = 13
  · have e13 : (k != 13) = false := by simp [h13]
    clear h13
    obtain ⟨WW, hWW⟩ : ∃ W, W = V := ⟨_, rfl⟩
    rw [← hWW]
    rw [← hWW] at n0 n1 n2 n3 n4 n5 n6
    have HB0 : Hid (Below V.heap.size V WW) := Lib.hid (by rw [hWW]; exact HB.out)
    clear HB hWW
    rename Hid (Below V.heap.size V WW) => HB
    go_upto_region 7 with fail
    obtain ⟨U, hU⟩ : ∃ U, U = WW.alloc (.cells #[.string ⟨#[97]⟩, .string ⟨#[39, 97, 32, 98, 39]⟩, .string ⟨#[88]⟩, .string ⟨#[95]⟩, .string ⟨#[63, 77]⟩, .string ⟨#[49]⟩, .string ⟨#[49, 54, 35, 102]⟩, .string ⟨#[49, 46, 53]⟩, .string ⟨#[36, 97]⟩, .string ⟨#[34, 115, 34]⟩] 9) := ⟨_, rfl⟩
    have c1 : U.cell? ⟨WW.heap.size, q, none⟩ = some (.string S) := by rw [hU]; exact CX.out _ _ _ rfl
    have hs : WW.heap.size < U.heap.size := by rw [hU]; simp
    have hbu : Below V.heap.size V U := by rw [hU]; exact HB.out.trans ((below1 _ _).mono HB.out.size)
    rw [← hU]
    obtain ⟨sb, hsb⟩ : ∃ n, n = WW.heap.size := ⟨_, rfl⟩
    rw [← hsb] at c1 hs ⊢
    have C1 := Lib.hid (fun W (hb : Below U.heap.size U W) => (hb.cell (p := ⟨sb, q, none⟩) hs).trans c1)
    have HBU := Lib.hid hbu
    clear hU hsb n0 n1 n2 n3 n4 n5 n6 HB CX c1 hs hbu hw
    have CU := Lib.hid (fun W (hb : Below U.heap.size U W) => (⟨(CC.out W (HBU.out.trans (hb.mono HBU.out.size))).1, Lib.hid hb⟩ : _ ∧ Hid (Below U.heap.size U W)))
    obtain ⟨⟨n0, n1, n2, n3, n4, n5, n6⟩, HB⟩ := CU.out U (Below.refl _ _)
    go_wp2_with fail
    refine (told18_any _).mono ?_
    rintro e w1 ⟨rfl, hb⟩
    have hb1 := HB.out.trans (hb.mono HB.out.size)
    clear n0 n1 n2 n3 n4 n5 n6 HB hb
    obtain ⟨⟨n0, n1, n2, n3, n4, n5, n6⟩, HB⟩ := CU.out w1 hb1
    clear hb1
    have c1 := C1.out w1 HB.out
    go_wp2_with fail
    refine (BL.out _).mono ?_
    rintro e w2 ⟨rfl, hb⟩
    have hb1 := HB.out.trans (hb.mono HB.out.size)
    clear n0 n1 n2 n3 n4 n5 n6 HB hb
    obtain ⟨⟨n0, n1, n2, n3, n4, n5, n6⟩, HB⟩ := CU.out w2 hb1
    clear hb1
    go_wp2_with fail
    refine (pbare_is 17 ⟨#[]⟩ false (by decide +kernel) (by decide) _ _ _ _ _ _).mono ?_
    rintro e w3 ⟨rfl, hb⟩
    have hb1 := HB.out.trans (hb.mono HB.out.size)
    clear n0 n1 n2 n3 n4 n5 n6 HB hb
    obtain ⟨⟨n0, n1, n2, n3, n4, n5, n6⟩, HB⟩ := CU.out w3 hb1
    clear hb1
    go_wp2_with fail
    refine (pbare_is 4 ⟨#[]⟩ false (by decide +kernel) (by decide) _ _ _ _ _ _).mono ?_
    rintro e w4 ⟨rfl, hb⟩
    have hb1 := HB.out.trans (hb.mono HB.out.size)
    clear n0 n1 n2 n3 n4 n5 n6 HB hb
    obtain ⟨⟨n0, n1, n2, n3, n4, n5, n6⟩, HB⟩ := CU.out w4 hb1
    clear hb1
    go_wp2_with fail
    refine (pbare_is 2 ⟨#[]⟩ true (by decide +kernel) (by decide) _ _ _ _ _ _).mono ?_
    rintro e w5 ⟨rfl, hb⟩
    have hb1 := HB.out.trans (hb.mono HB.out.size)
    clear n0 n1 n2 n3 n4 n5 n6 HB hb
    obtain ⟨⟨n0, n1, n2, n3, n4, n5, n6⟩, HB⟩ := CU.out w5 hb1
    clear hb1
    go_wp2_with fail
    refine (phugs_is ⟨#[43]⟩ k ⟨#[120]⟩ false (hug_no _ (by decide +kernel)) (by omega) _ _ _ _ _ _).mono ?_
    rintro e w6 ⟨rfl, hb⟩
    have hb1 := HB.out.trans (hb.mono HB.out.size)
    clear n0 n1 n2 n3 n4 n5 n6 HB hb
    obtain ⟨⟨n0, n1, n2, n3, n4, n5, n6⟩, HB⟩ := CU.out w6 hb1
    clear hb1
    go_wp2_with fail
    refine (phugs_is ⟨#[61, 61]⟩ k ⟨#[120]⟩ false (hug_no _ (by decide +kernel)) (by omega) _ _ _ _ _ _).mono ?_
    rintro e w7 ⟨rfl, hb⟩
    have hb1 := HB.out.trans (hb.mono HB.out.size)
    clear n0 n1 n2 n3 n4 n5 n6 HB hb
    obtain ⟨⟨n0, n1, n2, n3, n4, n5, n6⟩, HB⟩ := CU.out w7 hb1
    clear hb1
    go_wp2_with fail
    go_ret
    exact ⟨rfl, HBV.out.trans (HBU.out.trans (HB.out.mono HBU.out.size) |>.mono HBV.out.size)⟩

  · have e13 : (k == 13) = false := by simpa using h13
    have e13' : (k != 13) = true := by simpa using h13
    by_cases h14 : k = 14
    · have e14 : (k != 14) = false := by simp [h14]
      clear h13 h14
      obtain ⟨WW, hWW⟩ : ∃ W, W = V := ⟨_, rfl⟩
      rw [← hWW]
      rw [← hWW] at n0 n1 n2 n3 n4 n5 n6
      have HB0 : Hid (Below V.heap.size V WW) := Lib.hid (by rw [hWW]; exact HB.out)
      clear HB hWW
      rename Hid (Below V.heap.size V WW) => HB
      go_upto_region 7 with fail
      obtain ⟨U, hU⟩ : ∃ U, U = WW.alloc (.cells #[.string ⟨#[97]⟩, .string ⟨#[39, 97, 32, 98, 39]⟩, .string ⟨#[88]⟩, .string ⟨#[95]⟩, .string ⟨#[63, 77]⟩, .string ⟨#[49]⟩, .string ⟨#[49, 54, 35, 102]⟩, .string ⟨#[49, 46, 53]⟩, .string ⟨#[36, 97]⟩, .string ⟨#[34, 115, 34]⟩] 9) := ⟨_, rfl⟩
      have c1 : U.cell? ⟨WW.heap.size, q, none⟩ = some (.string S) := by rw [hU]; exact CX.out _ _ _ rfl
      have hs : WW.heap.size < U.heap.size := by rw [hU]; simp
      have hbu : Below V.heap.size V U := by rw [hU]; exact HB.out.trans ((below1 _ _).mono HB.out.size)
      rw [← hU]
      obtain ⟨sb, hsb⟩ : ∃ n, n = WW.heap.size := ⟨_, rfl⟩
      rw [← hsb] at c1 hs ⊢
      have C1 := Lib.hid (fun W (hb : Below U.heap.size U W) => (hb.cell (p := ⟨sb, q, none⟩) hs).trans c1)
      have HBU := Lib.hid hbu
      clear hU hsb n0 n1 n2 n3 n4 n5 n6 HB CX c1 hs hbu hw
      have CU := Lib.hid (fun W (hb : Below U.heap.size U W) => (⟨(CC.out W (HBU.out.trans (hb.mono HBU.out.size))).1, Lib.hid hb⟩ : _ ∧ Hid (Below U.heap.size U W)))
      obtain ⟨⟨n0, n1, n2, n3, n4, n5, n6⟩, HB⟩ := CU.out U (Below.refl _ _)
      go_wp2_with fail
      refine (told18_any _).mono ?_
      rintro e w1 ⟨rfl, hb⟩
      have hb1 := HB.out.trans (hb.mono HB.out.size)
      clear n0 n1 n2 n3 n4 n5 n6 HB hb
      obtain ⟨⟨n0, n1, n2, n3, n4, n5, n6⟩, HB⟩ := CU.out w1 hb1
      clear hb1
      have c1 := C1.out w1 HB.out
      go_wp2_with fail
      refine (BL.out _).mono ?_
      rintro e w2 ⟨rfl, hb⟩
      have hb1 := HB.out.trans (hb.mono HB.out.size)
      clear n0 n1 n2 n3 n4 n5 n6 HB hb
      obtain ⟨⟨n0, n1, n2, n3, n4, n5, n6⟩, HB⟩ := CU.out w2 hb1
      clear hb1
      go_wp2_with fail
      refine (pbare_is 17 ⟨#[]⟩ false (by decide +kernel) (by decide) _ _ _ _ _ _).mono ?_
      rintro e w3 ⟨rfl, hb⟩
      have hb1 := HB.out.trans (hb.mono HB.out.size)
      clear n0 n1 n2 n3 n4 n5 n6 HB hb
      obtain ⟨⟨n0, n1, n2, n3, n4, n5, n6⟩, HB⟩ := CU.out w3 hb1
      clear hb1
      go_wp2_with fail
      refine (pbare_is 4 ⟨#[]⟩ false (by decide +kernel) (by decide) _ _ _ _ _ _).mono ?_
      rintro e w4 ⟨rfl, hb⟩
      have hb1 := HB.out.trans (hb.mono HB.out.size)
      clear n0 n1 n2 n3 n4 n5 n6 HB hb
      obtain ⟨⟨n0, n1, n2, n3, n4, n5, n6⟩, HB⟩ := CU.out w4 hb1
      clear hb1
      go_wp2_with fail
      refine (pbare_is 2 ⟨#[]⟩ true (by decide +kernel) (by decide) _ _ _ _ _ _).mono ?_
      rintro e w5 ⟨rfl, hb⟩
      have hb1 := HB.out.trans (hb.mono HB.out.size)
      clear n0 n1 n2 n3 n4 n5 n6 HB hb
      obtain ⟨⟨n0, n1, n2, n3, n4, n5, n6⟩, HB⟩ := CU.out w5 hb1
      clear hb1
      go_wp2_with fail
      refine (phugs_is ⟨#[43]⟩ k ⟨#[120]⟩ false (hug_no _ (by decide +kernel)) (by omega) _ _ _ _ _ _).mono ?_
      rintro e w6 ⟨rfl, hb⟩
      have hb1 := HB.out.trans (hb.mono HB.out.size)
      clear n0 n1 n2 n3 n4 n5 n6 HB hb
      obtain ⟨⟨n0, n1, n2, n3, n4, n5, n6⟩, HB⟩ := CU.out w6 hb1
      clear hb1
      go_wp2_with fail
      refine (phugs_is ⟨#[61, 61]⟩ k ⟨#[120]⟩ false (hug_no _ (by decide +kernel)) (by omega) _ _ _ _ _ _).mono ?_
      rintro e w7 ⟨rfl, hb⟩
      have hb1 := HB.out.trans (hb.mono HB.out.size)
      clear n0 n1 n2 n3 n4 n5 n6 HB hb
      obtain ⟨⟨n0, n1, n2, n3, n4, n5, n6⟩, HB⟩ := CU.out w7 hb1
      clear hb1
      go_wp2_with fail
      go_ret
      exact ⟨rfl, HBV.out.trans (HBU.out.trans (HB.out.mono HBU.out.size) |>.mono HBV.out.size)⟩

    · have e14' : (k != 14) = true := by simpa using h14
      have hl : lvlI k ⟨#[120]⟩ = 11 := (if_neg h13).trans (if_neg h14)
      clear h13 h14
      go_wp2_with fail
      refine (pneed_is k ⟨#[120]⟩ (v : Int) false (by rw [hl]; exact decide_eq_false (by omega)) _ _ _ _ _ _).mono ?_
      rintro e w8 ⟨rfl, hb⟩
      have hb1 := HB.out.trans (hb.mono HB.out.size)
      clear n0 n1 n2 n3 n4 n5 n6 HB hb
      obtain ⟨⟨n0, n1, n2, n3, n4, n5, n6⟩, HB⟩ := CC.out w8 hb1
      clear hb1
      go_wp2_with fail
      refine (plevel_is k ⟨#[120]⟩ 11 hl _ _ _ _ _ _).mono ?_
      rintro e w9 ⟨rfl, hb⟩
      have hb1 := HB.out.trans (hb.mono HB.out.size)
      clear n0 n1 n2 n3 n4 n5 n6 HB hb
      obtain ⟨⟨n0, n1, n2, n3, n4, n5, n6⟩, HB⟩ := CC.out w9 hb1
      clear hb1
      obtain ⟨WW, hWW⟩ : ∃ W, W = w9 := ⟨_, rfl⟩
      rw [← hWW]
      rw [← hWW] at n0 n1 n2 n3 n4 n5 n6
      have HB0 : Hid (Below V.heap.size V WW) := Lib.hid (by rw [hWW]; exact HB.out)
      clear HB hWW
      rename Hid (Below V.heap.size V WW) => HB
      go_upto_region 7 with fail
      obtain ⟨U, hU⟩ : ∃ U, U = WW.alloc (.cells #[.string ⟨#[97]⟩, .string ⟨#[39, 97, 32, 98, 39]⟩, .string ⟨#[88]⟩, .string ⟨#[95]⟩, .string ⟨#[63, 77]⟩, .string ⟨#[49]⟩, .string ⟨#[49, 54, 35, 102]⟩, .string ⟨#[49, 46, 53]⟩, .string ⟨#[36, 97]⟩, .string ⟨#[34, 115, 34]⟩] 9) := ⟨_, rfl⟩
      have c1 : U.cell? ⟨WW.heap.size, q, none⟩ = some (.string S) := by rw [hU]; exact CX.out _ _ _ rfl
      have hs : WW.heap.size < U.heap.size := by rw [hU]; simp
      have hbu : Below V.heap.size V U := by rw [hU]; exact HB.out.trans ((below1 _ _).mono HB.out.size)
      rw [← hU]
      obtain ⟨sb, hsb⟩ : ∃ n, n = WW.heap.size := ⟨_, rfl⟩
      rw [← hsb] at c1 hs ⊢
      have C1 := Lib.hid (fun W (hb : Below U.heap.size U W) => (hb.cell (p := ⟨sb, q, none⟩) hs).trans c1)
      have HBU := Lib.hid hbu
      clear hU hsb n0 n1 n2 n3 n4 n5 n6 HB CX c1 hs hbu hw
      have CU := Lib.hid (fun W (hb : Below U.heap.size U W) => (⟨(CC.out W (HBU.out.trans (hb.mono HBU.out.size))).1, Lib.hid hb⟩ : _ ∧ Hid (Below U.heap.size U W)))
      obtain ⟨⟨n0, n1, n2, n3, n4, n5, n6⟩, HB⟩ := CU.out U (Below.refl _ _)
      go_wp2_with fail
      refine (told18_any _).mono ?_
      rintro e w1 ⟨rfl, hb⟩
      have hb1 := HB.out.trans (hb.mono HB.out.size)
      clear n0 n1 n2 n3 n4 n5 n6 HB hb
      obtain ⟨⟨n0, n1, n2, n3, n4, n5, n6⟩, HB⟩ := CU.out w1 hb1
      clear hb1
      have c1 := C1.out w1 HB.out
      go_wp2_with fail
      refine (BL.out _).mono ?_
      rintro e w2 ⟨rfl, hb⟩
      have hb1 := HB.out.trans (hb.mono HB.out.size)
      clear n0 n1 n2 n3 n4 n5 n6 HB hb
      obtain ⟨⟨n0, n1, n2, n3, n4, n5, n6⟩, HB⟩ := CU.out w2 hb1
      clear hb1
      go_wp2_with fail
      refine (pbare_is 17 ⟨#[]⟩ false (by decide +kernel) (by decide) _ _ _ _ _ _).mono ?_
      rintro e w3 ⟨rfl, hb⟩
      have hb1 := HB.out.trans (hb.mono HB.out.size)
      clear n0 n1 n2 n3 n4 n5 n6 HB hb
      obtain ⟨⟨n0, n1, n2, n3, n4, n5, n6⟩, HB⟩ := CU.out w3 hb1
      clear hb1
      go_wp2_with fail
      refine (pbare_is 4 ⟨#[]⟩ false (by decide +kernel) (by decide) _ _ _ _ _ _).mono ?_
      rintro e w4 ⟨rfl, hb⟩
      have hb1 := HB.out.trans (hb.mono HB.out.size)
      clear n0 n1 n2 n3 n4 n5 n6 HB hb
      obtain ⟨⟨n0, n1, n2, n3, n4, n5, n6⟩, HB⟩ := CU.out w4 hb1
      clear hb1
      go_wp2_with fail
      refine (pbare_is 2 ⟨#[]⟩ true (by decide +kernel) (by decide) _ _ _ _ _ _).mono ?_
      rintro e w5 ⟨rfl, hb⟩
      have hb1 := HB.out.trans (hb.mono HB.out.size)
      clear n0 n1 n2 n3 n4 n5 n6 HB hb
      obtain ⟨⟨n0, n1, n2, n3, n4, n5, n6⟩, HB⟩ := CU.out w5 hb1
      clear hb1
      go_wp2_with fail
      refine (phugs_is ⟨#[43]⟩ k ⟨#[120]⟩ false (hug_no _ (by decide +kernel)) (by omega) _ _ _ _ _ _).mono ?_
      rintro e w6 ⟨rfl, hb⟩
      have hb1 := HB.out.trans (hb.mono HB.out.size)
      clear n0 n1 n2 n3 n4 n5 n6 HB hb
      obtain ⟨⟨n0, n1, n2, n3, n4, n5, n6⟩, HB⟩ := CU.out w6 hb1
      clear hb1
      go_wp2_with fail
      refine (phugs_is ⟨#[61, 61]⟩ k ⟨#[120]⟩ false (hug_no _ (by decide +kernel)) (by omega) _ _ _ _ _ _).mono ?_
      rintro e w7 ⟨rfl, hb⟩
      have hb1 := HB.out.trans (hb.mono HB.out.size)
      clear n0 n1 n2 n3 n4 n5 n6 HB hb
      obtain ⟨⟨n0, n1, n2, n3, n4, n5, n6⟩, HB⟩ := CU.out w7 hb1
      clear hb1
      go_wp2_with fail
      go_ret
      exact ⟨rfl, HBV.out.trans (HBU.out.trans (HB.out.mono HBU.out.size) |>.mono HBV.out.size)⟩

set_option maxRecDepth 100000 in
theorem lifted (os : Os) (started : os.Started) (H : Type) (enc : TypeId × Value → H) :
    ReturnsInHanded {} Try.checked os 5 .any (Rows.parensKindsSpec.pre6 enc Try.prog Try.f5 Rows.parensKindsRow.domain false) (Rows.parensKindsSpec.post enc Try.prog Try.f5 false true false false) := by
  refine returnsInHanded_of_change (C := Try.checked) ownKnobNone started (by kernel_rfl) Try.func5
    (ChangeSpec.witness6 (enc := enc) (C := Try.checked) false ⟨#[], #[.int .i64 0, .int .i64 0, .int .i64 0], []⟩ 8 (by kernel_rfl) (by kernel_rfl) (by kernel_rfl) (by kernel_rfl)) ?_
  intro W base args ds gs before hval0 hW hcnd _
  have hval : ∀ (j : Nat) t v, Try.f5.params[j]? = some t → args[j]? = some v → Value.okWide Try.prog W .any base t v := hval0
  have hW' := hW
  obtain ⟨p, q, hA0, hV, rfl, hfz, hnd⟩ := hW
  have hA : DataW.TrodAll enc Try.prog W 0 (fun _ => true) true Try.f5.params.toList args.toList ds p := hA0
  rw [Try.params5] at hA hval
  obtain ⟨v0, vs0, d0, ds0, p0, q0, hargs, rfl, rfl, h0, r0⟩ := trodAll_cons hA
  obtain ⟨v1, vs1, d1, ds1, p1, q1, rfl, rfl, rfl, h1, r1⟩ := trodAll_cons r0
  obtain ⟨v2, vs2, d2, ds2, p2, q2, rfl, rfl, rfl, h2, r2⟩ := trodAll_cons r1
  obtain ⟨rfl, rfl, rfl⟩ := trodAll_nil r2
  obtain rfl : args = #[v0, v1, v2] := by cases args; simp_all
  obtain ⟨rfl, rfl⟩ := trodVars_none hV
  obtain ⟨a0, rfl, rfl, rfl, w0⟩ := open_int Try.underlying3 (hval 0 3 v0 rfl rfl) h0
  obtain ⟨a1, rfl, rfl, rfl, w1⟩ := open_int Try.underlying3 (hval 1 3 v1 rfl rfl) h1
  obtain ⟨a2, rfl, rfl, rfl, w2⟩ := open_int Try.underlying3 (hval 2 3 v2 rfl rfl) h2
  clear hA0 hval0
  simp only [List.append_nil] at hW'
  refine (walk a0 a1 a2 W).mono fun e W' ⟨he, bel⟩ => ?_
  subst he
  exact ⟨_, rfl, _, _, _, [], _, [], hW', trodAll_mk1 (shut_bool Try.underlying4 _), (trodAll_cons_mk (shut_int Try.underlying3 w0) (trodAll_cons_mk (shut_int Try.underlying3 w1) (trodAll_cons_mk (shut_int Try.underlying3 w2) trodAll_mk0))), rfl, bel.frame _, fun h => by cases h⟩
theorem over : Rows.ParensKindsSaid :=
  OpenClaim.holds_of_wide 5 Try.f5 rfl rfl rfl rfl rfl rfl rfl ⟨rfl, rfl, rfl, rfl, rfl⟩ rfl rfl rfl rfl rfl (by kernel_rfl) Try.func5 (by kernel_rfl)
    (of_decide_eq_true (by kernel_rfl)) (by unfold Func.isWrapper; first | (rw [if_pos (by decide +kernel)]; kernel_rfl) | (rw [if_neg (by decide +kernel)]; exact ⟨rfl, rfl⟩))
    (fun os started H enc _ => lifted os started H enc)
/-- THE STATEMENT. -/
theorem proved : Rows.ParensKindsSaid := over
#print axioms proved
end Go.Proofs.Ytbjgoigdhijbgaa.parensKinds
