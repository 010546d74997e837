/-
  THE DOCUMENT's First and Flat; which texts are valid; what the statements of layer 16 ask each time: it holds.
-/
import Derived.Test.YtbjgoigdhijbgaaDoorRefFlat
import Derived.Deep.CutRange
set_option linter.all false
namespace Go.Proofs.YtbjgoigdhijbgaaDoor
open Go.RowKit Go.PlainAid

set_option maxRecDepth 100000 in
set_option maxHeartbeats 4000000 in
theorem rfirst_any (l : List Dc) (hd : dcntL l ≤ 80000) (hr : drtL l = true) (hz : dtzL 1048576 l) (v : Value) (w : World) (h : DrIn w (fun g => g < w.heap.size) v l) :
    Calls Tryd.prog 21 #[v] w fun e w' => e = .returned (.int .i64 (fsum (lvsL l) : Int)) ∧ Below w.heap.size w w' := by
  obtain ⟨a, N, cap, rfl⟩ : ∃ a N cap, v = .slice a N cap := by
    obtain ⟨cs, ⟨a, cap, rfl, -⟩, -⟩ := h
    exact ⟨_, _, _, rfl⟩
  obtain ⟨cs, h1, h2⟩ := h
  have HF := Lib.hid (rfront_any 90000 (Nat.le_refl _) (.mk 5 0 ⟨#[]⟩ l) (by simp only [dcnt]; omega) (by
    have h0 : ((⟨#[]⟩ : ByteArray).toList == ([] : List UInt8)) = true := by decide +kernel
    simp only [drt, dal, hr, h0]; simp) ⟨by show (0 : Nat) ≤ 1048576; omega, hz⟩ [.int .i64 5, .int .i64 0, .string ⟨#[]⟩, .slice a N cap] w (.mk _ _ _ _ _ cs h1 h2))
  rw [lvs_other (show lfk 5 = false by decide)] at HF
  clear h1 h2 hr hd hz
  go_enter Tryd.func21, Tryd.ntmps21
  go_wp2_with fail
  refine HF.out.mono ?_
  rintro e w1 ⟨rfl, hb⟩
  have HB := Lib.hid hb
  clear hb HF
  go_wp2_with fail
  go_ret
  exact ⟨rfl, HB.out⟩
set_option maxRecDepth 100000 in
set_option maxHeartbeats 4000000 in
theorem rFlat_any (d : Dc) (hd : dcnt d ≤ 80000) (hr : drt d = true) (hz : dtz 1048576 d) (c : List Value) (w : World) (h : DcAt w c d) :
    Calls Tryd.prog 18 #[.agg c.toArray] w fun e w' => e = .returned (.tuple #[.string (if dfrc d = true then ⟨#[]⟩ else ctx (lvs d)), .bool (!dfrc d)]) ∧ Below w.heap.size w w' := by
  have HF := Lib.hid (fun W hb => rdforced_any 90000 (by omega) d (by omega) c W (h.bel (w := w) hb))
  have HL := Lib.hid (fun W hb => rflat_any 90000 (by omega) d (by omega) hr hz c W (h.bel (w := w) hb))
  obtain ⟨k, n, t, lv, rfl⟩ : ∃ k n t lv, c = [.int .i64 k, .int .i64 n, .string t, lv] := by
    cases d with
    | mk k n t l => obtain ⟨lv, cs, rfl, -⟩ := h.inv; exact ⟨_, _, _, _, rfl⟩
  obtain ⟨b0, hb0⟩ : ∃ b, b = dfrc d := ⟨_, rfl⟩
  obtain ⟨S, hS⟩ : ∃ S, S = ctx (lvs d) := ⟨_, rfl⟩
  rw [← hb0, ← hS]
  rw [← hb0] at HF
  rw [← hS] at HL
  obtain ⟨d0, d1, d2, d3⟩ := four_of0 (new_at9 (W := w) (ob := .cells #[.int .i64 k, .int .i64 n, .string t, lv] 24))
  have HB0 : Hid (Below w.heap.size w (w.alloc (.cells #[.int .i64 k, .int .i64 n, .string t, lv] 24))) := Lib.hid (below1 _ _)
  clear h hd hr hz hb0 hS
  go_enter Tryd.func18, Tryd.ntmps18
  go_wp2_with fail
  refine (HF.out _ HB0.out).mono ?_
  rintro e w1 ⟨rfl, hb1⟩
  obtain ⟨q0, q1, q2, q3⟩ := four_of0 ((hb1.block _ (by simp)).trans (new_at9 (W := w) (ob := .cells #[.int .i64 k, .int .i64 n, .string t, lv] 24)))
  have HB1 : Hid (Below w.heap.size w w1) := Lib.hid (HB0.out.trans (hb1.mono HB0.out.size))
  clear hb1 d0 d1 d2 d3
  cases b0
  · go_wp2_with fail
    refine (HL.out _ HB1.out).mono ?_
    rintro e w2 ⟨rfl, hb2⟩
    have HB2 : Hid (Below w.heap.size w w2) := Lib.hid (HB1.out.trans (hb2.mono HB1.out.size))
    clear hb2
    go_wp2_with fail
    go_ret2
    exact ⟨ret_sb (by simp) (by simp), HB2.out⟩
  · go_wp2_with fail
    go_ret2
    exact ⟨ret_sb (by simp) (by simp), HB1.out⟩
/-! ### rows that were just made -/
theorem rowTwo {W : World} {g : Nat} {k n : Int} {t : ByteArray} {lv : Value} {x : Dc} {k2 n2 : Int} {t2 : ByteArray} {lv2 : Value} {x2 : Dc} {ty : TypeId} {fr : Nat × Nat} {P : Nat → Prop} (hp : P g) (h : W.heap[g]? = some (.cells #[.int .i64 k, .int .i64 n, .string t, lv, .int .i64 k2, .int .i64 n2, .string t2, lv2] ty fr)) (hd : DcIn W P [.int .i64 k, .int .i64 n, .string t, lv] x) (hd2 : DcIn W P [.int .i64 k2, .int .i64 n2, .string t2, lv2] x2) :
    DrIn W P (.slice (some ⟨g, 0, none⟩) 2 2) [x, x2] := by
  refine ⟨fun i => if i = 0 then [.int .i64 k, .int .i64 n, .string t, lv] else [.int .i64 k2, .int .i64 n2, .string t2, lv2], ⟨_, _, rfl, Nat.le_refl _, by decide, fun _ => ⟨g, 0, rfl, hp, lt_of_block h, fun i hi j u hj => ?_⟩⟩, fun i y hy => ?_⟩
  · rw [Nat.zero_add, cell_of_row W g _ _ _ _ h]
    match i, hi with
    | 0, _ =>
      have hj7 : j < 4 := (List.getElem?_eq_some_iff.1 hj).1
      match j, hj7, hj with
      | 0, _, hj | 1, _, hj | 2, _, hj | 3, _, hj => exact hj
    | 1, _ =>
      have hj7 : j < 4 := (List.getElem?_eq_some_iff.1 hj).1
      match j, hj7, hj with
      | 0, _, hj | 1, _, hj | 2, _, hj | 3, _, hj => exact hj
  · match i, hy with
    | 0, hy => cases hy; exact hd
    | 1, hy => cases hy; exact hd2
    | i + 2, hy => simp at hy
theorem rowThree {W : World} {g : Nat} {k n : Int} {t : ByteArray} {lv : Value} {x : Dc} {k2 n2 : Int} {t2 : ByteArray} {lv2 : Value} {x2 : Dc} {k3 n3 : Int} {t3 : ByteArray} {lv3 : Value} {x3 : Dc} {ty : TypeId} {fr : Nat × Nat} {P : Nat → Prop} (hp : P g) (h : W.heap[g]? = some (.cells #[.int .i64 k, .int .i64 n, .string t, lv, .int .i64 k2, .int .i64 n2, .string t2, lv2, .int .i64 k3, .int .i64 n3, .string t3, lv3] ty fr)) (hd : DcIn W P [.int .i64 k, .int .i64 n, .string t, lv] x) (hd2 : DcIn W P [.int .i64 k2, .int .i64 n2, .string t2, lv2] x2) (hd3 : DcIn W P [.int .i64 k3, .int .i64 n3, .string t3, lv3] x3) :
    DrIn W P (.slice (some ⟨g, 0, none⟩) 3 3) [x, x2, x3] := by
  refine ⟨fun i => if i = 0 then [.int .i64 k, .int .i64 n, .string t, lv] else if i = 1 then [.int .i64 k2, .int .i64 n2, .string t2, lv2] else [.int .i64 k3, .int .i64 n3, .string t3, lv3], ⟨_, _, rfl, Nat.le_refl _, by decide, fun _ => ⟨g, 0, rfl, hp, lt_of_block h, fun i hi j u hj => ?_⟩⟩, fun i y hy => ?_⟩
  · rw [Nat.zero_add, cell_of_row W g _ _ _ _ h]
    match i, hi with
    | 0, _ =>
      have hj7 : j < 4 := (List.getElem?_eq_some_iff.1 hj).1
      match j, hj7, hj with
      | 0, _, hj | 1, _, hj | 2, _, hj | 3, _, hj => exact hj
    | 1, _ =>
      have hj7 : j < 4 := (List.getElem?_eq_some_iff.1 hj).1
      match j, hj7, hj with
      | 0, _, hj | 1, _, hj | 2, _, hj | 3, _, hj => exact hj
    | 2, _ =>
      have hj7 : j < 4 := (List.getElem?_eq_some_iff.1 hj).1
      match j, hj7, hj with
      | 0, _, hj | 1, _, hj | 2, _, hj | 3, _, hj => exact hj
  · match i, hy with
    | 0, hy => cases hy; exact hd
    | 1, hy => cases hy; exact hd2
    | 2, hy => cases hy; exact hd3
    | i + 3, hy => simp at hy
/-- No parts: of every kind, in every world. -/
theorem leaf9 (W : World) (P : Nat → Prop) (k n : Int) (t : ByteArray) : DcIn W P [.int .i64 k, .int .i64 n, .string t, .slice none 0 0] (.mk k n t []) :=
  .mk k n t [] _ (fun _ => []) ⟨none, 0, rfl, Nat.le_refl _, Nat.zero_le _, fun h => absurd h (by simp)⟩ (fun i x hx => by simp at hx)
theorem DrIn.dc9 {W : World} {P : Nat → Prop} {v : Value} {l : List Dc} (h : DrIn W P v l) (k n : Int) (t : ByteArray) : DcIn W P [.int .i64 k, .int .i64 n, .string t, v] (.mk k n t l) := by
  obtain ⟨cs, h1, h2⟩ := h
  exact .mk k n t l v cs h1 h2
/-! ### told -/
def tX : Dc := .mk 1 0 ⟨#[97, 195, 169]⟩ []
def tL9 : Dc := .mk 2 0 ⟨#[]⟩ []
def tD9 : Dc := .mk 7 0 ⟨#[]⟩ [tX, tL9, tX]
def tT9 : ByteArray := ⟨#[97, 195, 169, 32, 97, 195, 169]⟩
theorem told_f : dfrc tD9 = false ∧ dcnt tD9 ≤ 4 ∧ dcntL [tX, tD9, tX] ≤ 6 := by decide +kernel
theorem told_c : (ctx (lvs tD9)).data.toList = tT9.data.toList := by decide +kernel
theorem told_c' : ctx (lvs tD9) = tT9 := by
  have := told_c
  apply ByteArray.ext
  exact Array.ext' this
theorem told_w : wsum (lvs tD9) = 5 := by decide +kernel
theorem told_1 : fsum (lvsL [tX, tD9, tX]) = 4 := by decide +kernel
theorem told_z : dtz 1048576 tD9 ∧ dtzL 1048576 [tX, tD9, tX] := by
  have h1 : dtz 1048576 tX := ⟨by show (3 : Nat) ≤ 1048576; omega, trivial⟩
  have h2 : dtz 1048576 tL9 := ⟨by show (0 : Nat) ≤ 1048576; omega, trivial⟩
  have h3 : dtz 1048576 tD9 := ⟨by show (0 : Nat) ≤ 1048576; omega, h1, h2, h1, trivial⟩
  exact ⟨h3, h1, h3, h1, trivial⟩
end Go.Proofs.YtbjgoigdhijbgaaDoor
