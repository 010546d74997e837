/-
  What the law's own question answers, of layouts.
-/
import Derived.Test.YtbjgoigdhijbgaaDoorRendOut
import Derived.Test.YtbjgoigdhijbgaaDoorFlatTold
set_option linter.all false
namespace Go.Proofs.YtbjgoigdhijbgaaDoor
open Go.RowKit Go.PlainAid

theorem BlR.at {W : World} {b N cap : Nat} {a : Option Addr} {M : List Bool} {i : Nat} {f : Bool} (h : BlR W b (.slice a N cap) M) (hi : M[i]? = some f) : ∃ g, a = some ⟨g, 0, none⟩ ∧ b ≤ g ∧ g < W.heap.size ∧ W.cell? ⟨g, i, none⟩ = some (.bool f) := by
  have hlt := (List.getElem?_eq_some_iff.1 hi).1
  obtain ⟨h0, ⟨hv, h1⟩ | ⟨g, cap', cur, hv, hb, hg, hn, hcm, hz, ht⟩⟩ := h
  · omega
  · simp only [Value.slice.injEq] at hv
    obtain ⟨rfl, -, rfl⟩ := hv
    refine ⟨g, rfl, hb, lt_of_block hg, ?_⟩
    rw [cell_of_row W _ _ _ _ _ hg, ← Array.getElem?_toList]
    have h3 : (M.map Value.bool)[i]? = some (.bool f) := by rw [List.getElem?_map, hi]; rfl
    rw [← ht, List.getElem?_take_of_lt (by omega)] at h3
    exact h3
def t7A : Dc := .mk 1 0 ⟨#[97]⟩ []
def t7L : Dc := .mk 2 0 ⟨#[]⟩ []
def t7B : Dc := .mk 1 0 ⟨#[98]⟩ []
def t7D : Dc := .mk 7 0 ⟨#[]⟩ [t7A, t7L, t7B]
theorem t7_ok : okR 3 t7D = true ∧ okR 2 t7D = true ∧ okR 0 t7D = false ∧ dcnt t7D ≤ 90000 := by decide +kernel
theorem t7_z : dtz 1048576 t7D := ⟨by show (0 : Nat) ≤ 1048576; omega, ⟨by show (1 : Nat) ≤ 1048576; omega, trivial⟩, ⟨by show (0 : Nat) ≤ 1048576; omega, trivial⟩, ⟨by show (1 : Nat) ≤ 1048576; omega, trivial⟩, trivial⟩
theorem t7_3c : (txtD 3 t7D).data.toList = [97, 32, 98] := by decide +kernel
theorem t7_2c : (txtD 2 t7D).data.toList = [97, 10, 98] := by decide +kernel
theorem t7_3 : txtD 3 t7D = ⟨#[97, 32, 98]⟩ := by apply ByteArray.ext; exact Array.ext' t7_3c
theorem t7_2 : txtD 2 t7D = ⟨#[97, 10, 98]⟩ := by apply ByteArray.ext; exact Array.ext' t7_2c
theorem t7_m : mdsD 3 t7D = [true] := by decide +kernel
set_option maxRecDepth 100000 in
set_option maxHeartbeats 8000000 in
theorem told17_any (w : World) (ht : Tabs w) : Calls Tryd.prog 10 #[] w fun e w' => e = .returned (.bool true) ∧ Below w.heap.size w w' := by
  have HTB := Lib.hid ht
  clear ht
  go_enter Tryd.func10, Tryd.ntmps10
  go_upto_region 3 with fail
  obtain ⟨V, hV⟩ : ∃ V, V = ((((w.alloc (.cells #[.int .i64 1, .int .i64 0, .string ⟨#[97]⟩, .slice none 0 0] 24)).alloc (.cells #[.int .i64 1, .int .i64 0, .string ⟨#[98]⟩, .slice none 0 0] 24)).alloc (.cells #[.int .i64 2, .int .i64 0, .string ⟨#[]⟩, .slice none 0 0] 24)).alloc (.cells #[.int .i64 1, .int .i64 0, .string ⟨#[97]⟩, .slice none 0 0, .int .i64 2, .int .i64 0, .string ⟨#[]⟩, .slice none 0 0, .int .i64 1, .int .i64 0, .string ⟨#[98]⟩, .slice none 0 0] 24)).alloc (.cells #[.int .i64 7, .int .i64 0, .string ⟨#[]⟩, .slice (some ⟨w.heap.size + 1 + 1 + 1, 0, none⟩) 3 3] 24) := ⟨_, rfl⟩
  have hVW : Below w.heap.size w V := by rw [hV]; exact ((((below1 _ _).alloc (by simp) _).alloc (by simp; omega) _).alloc (by simp; omega) _).alloc (by simp; omega) _
  have hvr : V.heap[w.heap.size + 1 + 1 + 1]? = some (.cells #[.int .i64 1, .int .i64 0, .string ⟨#[97]⟩, .slice none 0 0, .int .i64 2, .int .i64 0, .string ⟨#[]⟩, .slice none 0 0, .int .i64 1, .int .i64 0, .string ⟨#[98]⟩, .slice none 0 0] 24) := by rw [hV, old_at9 (by simp)]; exact new_at8 (by simp)
  have hvd : V.heap[w.heap.size + 1 + 1 + 1 + 1]? = some (.cells #[.int .i64 7, .int .i64 0, .string ⟨#[]⟩, .slice (some ⟨w.heap.size + 1 + 1 + 1, 0, none⟩) 3 3] 24) := by rw [hV]; exact new_at8 (by simp)
  have hdd : DcAt V #[.int .i64 7, .int .i64 0, .string ⟨#[]⟩, .slice (some ⟨w.heap.size + 1 + 1 + 1, 0, none⟩) 3 3].toList t7D := (rowThree (P := fun g => g < V.heap.size) (lt_of_block hvr) hvr (leaf9 _ _ _ _ _) (leaf9 _ _ _ _ _) (leaf9 _ _ _ _ _)).dc9 7 0 ⟨#[]⟩
  rw [← hV]
  have CV := Lib.hid (fun W (hb : Below V.heap.size V W) => four_of0 ((hb.block _ (lt_of_block hvd)).trans hvd))
  have HVW := Lib.hid hVW
  have HTV : Hid (∀ W, Below V.heap.size V W → Tabs W) := Lib.hid fun W h => (HTB.out.below hVW).below h
  have HDD := Lib.hid hdd
  have H3 : Hid (∀ W, Below V.heap.size V W → Calls Tryd.prog 11 #[.agg #[.int .i64 7, .int .i64 0, .string ⟨#[]⟩, .slice (some ⟨w.heap.size + 1 + 1 + 1, 0, none⟩) 3 3], .int .i64 3] W fun e w' => e = .returned (.tuple #[.string ⟨#[97, 32, 98]⟩, .int .i64 0]) ∧ Below W.heap.size W w') := Lib.hid fun W h => by
    have := prender_any t7D t7_ok.2.2.2 t7_z _ 3 W (HDD.out.bel h) (HTV.out W h)
    rw [t7_ok.1, t7_3] at this
    exact this
  have H2 : Hid (∀ W, Below V.heap.size V W → Calls Tryd.prog 11 #[.agg #[.int .i64 7, .int .i64 0, .string ⟨#[]⟩, .slice (some ⟨w.heap.size + 1 + 1 + 1, 0, none⟩) 3 3], .int .i64 2] W fun e w' => e = .returned (.tuple #[.string ⟨#[97, 10, 98]⟩, .int .i64 0]) ∧ Below W.heap.size W w') := Lib.hid fun W h => by
    have := prender_any t7D t7_ok.2.2.2 t7_z _ 2 W (HDD.out.bel h) (HTV.out W h)
    rw [t7_ok.2.1, t7_2] at this
    exact this
  have H0 : Hid (∀ W, Below V.heap.size V W → Calls Tryd.prog 11 #[.agg #[.int .i64 7, .int .i64 0, .string ⟨#[]⟩, .slice (some ⟨w.heap.size + 1 + 1 + 1, 0, none⟩) 3 3], .int .i64 0] W fun e w' => e = .returned (.tuple #[.string ⟨#[]⟩, .int .i64 1]) ∧ Below W.heap.size W w') := Lib.hid fun W h => by
    have := prender_any t7D t7_ok.2.2.2 t7_z _ 0 W (HDD.out.bel h) (HTV.out W h)
    rw [t7_ok.2.2.1] at this
    exact this
  have HM : Hid (∀ W, Below V.heap.size V W → Calls Tryd.prog 13 #[.agg #[.int .i64 7, .int .i64 0, .string ⟨#[]⟩, .slice (some ⟨w.heap.size + 1 + 1 + 1, 0, none⟩) 3 3], .int .i64 3] W fun e w' => ∃ v, e = .returned v ∧ BlR w' W.heap.size v [true] ∧ Below W.heap.size W w') := Lib.hid fun W h => by
    have := pmodes_any t7D t7_ok.2.2.2 t7_z _ 3 W (HDD.out.bel h) (HTV.out W h)
    rw [t7_ok.1, t7_m] at this
    exact this
  obtain ⟨d0, d1, d2, d3⟩ := CV.out V (Below.refl _ _)
  have HB0 : Hid (Below V.heap.size V V) := Lib.hid (Below.refl _ _)
  clear hV hVW hvr hvd hdd HDD HTB HTV
  go_wp2_with fail
  refine (H3.out _ HB0.out).mono ?_
  rintro e w1 ⟨rfl, hb⟩
  have HB1 := Lib.hid (HB0.out.trans (hb.mono HB0.out.size))
  clear hb d0 d1 d2 d3
  obtain ⟨d0, d1, d2, d3⟩ := CV.out _ HB1.out
  go_wp2_with fail
  refine (H2.out _ HB1.out).mono ?_
  rintro e w2 ⟨rfl, hb⟩
  have HB2 := Lib.hid (HB1.out.trans (hb.mono HB1.out.size))
  clear hb d0 d1 d2 d3
  obtain ⟨d0, d1, d2, d3⟩ := CV.out _ HB2.out
  go_wp2_with fail
  refine (H0.out _ HB2.out).mono ?_
  rintro e w3 ⟨rfl, hb⟩
  have HB3 := Lib.hid (HB2.out.trans (hb.mono HB2.out.size))
  clear hb d0 d1 d2 d3
  obtain ⟨d0, d1, d2, d3⟩ := CV.out _ HB3.out
  go_wp2_with fail
  refine (HM.out _ HB3.out).mono ?_
  rintro e w4 ⟨v, rfl, hbl, hb⟩
  have HB4 : Hid (Below w.heap.size w w4) := Lib.hid (HVW.out.trans ((HB3.out.trans (hb.mono HB3.out.size)).mono HVW.out.size))
  obtain ⟨a, cp, rfl, -, -⟩ := hbl.slice
  obtain ⟨g, rfl, -, -, c0⟩ := hbl.at (i := 0) (f := true) rfl
  clear hb hbl d0 d1 d2 d3
  go_wp2_with fail
  go_ret
  exact ⟨rfl, HB4.out⟩
end Go.Proofs.YtbjgoigdhijbgaaDoor
