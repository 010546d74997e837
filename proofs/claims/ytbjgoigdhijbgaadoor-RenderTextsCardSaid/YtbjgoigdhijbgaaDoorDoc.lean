/-
  A document that came in: what it is.
-/
import Derived.Test.YtbjgoigdhijbgaaDoorBase
import Derived.Test.YtbjgoigdhijbgaaDoorDocMath
import Derived.SizedLaws
import Derived.Deep.Strs
import Derived.Deep.Slices
set_option linter.all false
namespace Go.Proofs.YtbjgoigdhijbgaaDoor
open Go.ChangeShapes Go.WideShapes Go.ChangeAt Go.WideMaps Go.WideElems Go.RowKit Go.Deep

theorem cDc : Tryd.prog.cellsOf 24 = 4 := by kernel_rfl
theorem cDcs : Tryd.prog.cellsOf 22 = 1 := by kernel_rfl
theorem cDi : Tryd.prog.cellsOf 3 = 1 := by kernel_rfl
theorem cDs : Tryd.prog.cellsOf 9 = 1 := by kernel_rfl
section
variable {H : Type} {enc : TypeId × Value → H} {W : World}
theorem list4 {α : Type} (l : List α) (h : l.length = 4) : ∃ a b c d, l = [a, b, c, d] := by
  match l, h with
  | [a, b, c, d], _ => exact ⟨a, b, c, d, rfl⟩
/-- A row of what a walk of its elements gives. -/
theorem row_dc {a : Addr} {len cap : Nat} {elems : List (DataW H × List MemPlace)} (hlc : len ≤ cap) (hm : cap ≤ maxLen)
    (each : ∀ i, i < len → ∃ p : List Value × Dc, (p.1.length = 4 ∧ ∀ j, j < 4 → W.cell? ((a.add (i * 4)).add j) = p.1[j]?) ∧ DcAt W p.1 p.2) :
    ∃ T : List Dc, DrIn W (fun g => g < W.heap.size) (.slice (some a) len cap) T ∧ T.length = len := by
  have : Inhabited (List Value × Dc) := ⟨([], .mk 0 0 ⟨#[]⟩ [])⟩
  obtain ⟨q, hq⟩ := choose_lt each
  have hT : ((List.range len).map fun i => (q i).2).length = len := by simp
  refine ⟨(List.range len).map fun i => (q i).2, ⟨fun i => (q i).1, ?_, ?_⟩, hT⟩
  · refine ⟨some a, cap, by rw [hT], by rw [hT]; exact hlc, hm, fun h0 => ?_⟩
    rw [hT] at h0
    obtain ⟨b, off, spot⟩ := a
    have c00 : ∃ v, W.cell? ((((⟨b, off, spot⟩ : Addr).add (0 * 4)).add 0)) = some v := by
      have h7 := (hq 0 h0).1.1
      have := (hq 0 h0).1.2 0 (by omega)
      rw [List.getElem?_eq_getElem (by omega)] at this
      exact ⟨_, this⟩
    obtain ⟨v, hv⟩ := c00
    have hspot : spot = none := by
      have := World.cell?_spot hv
      simpa [Addr.add] using this
    subst hspot
    have hv' : W.cell? ⟨b, off, none⟩ = some v := by simpa [Addr.add] using hv
    have hlt := World.block_lt_of_cell? _ _ hv'
    refine ⟨b, off, rfl, hlt, hlt, fun i hi j x hj => ?_⟩
    rw [hT] at hi
    have hj : (q i).1[j]? = some x := hj
    have hj7 : j < 4 := by have := (List.getElem?_eq_some_iff.1 hj).1; have := (hq i hi).1.1; omega
    have := (hq i hi).1.2 j hj7
    rw [Go.WideShapes.add_plain, Go.WideShapes.add_plain, hj] at this
    exact this
  · intro i x hx
    have hi : i < ((List.range len).map fun i => (q i).2).length := (List.getElem?_eq_some_iff.1 hx).1
    rw [hT] at hi
    rw [List.getElem?_map, List.getElem?_range hi] at hx
    have hx : (q i).2 = x := by simpa using hx
    rw [← hx]
    exact (hq i hi).2
set_option maxRecDepth 100000 in
theorem open_dc {b1 : Nat} {sp : Nat → Bool} {held : Bool} : ∀ (fuel : Nat) (cs : List Value) (x : DataW H × List MemPlace), DataW.trod enc Tryd.prog W b1 sp held fuel 24 cs = some x → ∃ n : Dc, DcAt W cs n := by
  intro fuel
  induction fuel using Nat.strongRecOn with
  | ind fuel ih =>
    intro cs x h
    obtain ⟨xs, n, rfl, hxe0, hl, hlen, hf⟩ := DataW.trod_struct Tryd.underlying24 h
    rw [cDc] at hl
    obtain ⟨c0, c1, c2, c3, rfl⟩ := list4 cs hl
    obtain ⟨y0, y1, y2, y3, rfl⟩ := list4 xs hlen
    have h0 := hf 0 _ rfl
    have h1 := hf 1 _ rfl
    have h2 := hf 2 _ rfl
    have h3 := hf 3 _ rfl
    simp [cDi, cDs, cDcs] at h0 h1 h2 h3
    obtain ⟨k, e0, -, kw⟩ := DataW.trod_int Tryd.underlying3 h0
    obtain ⟨nn, e1, -, nw⟩ := DataW.trod_int Tryd.underlying3 h1
    obtain ⟨t, e2, e2x, -⟩ := DataW.trod_string Tryd.underlying9 h2
    simp only [List.cons.injEq, and_true] at e0 e1 e2
    subst e0 e1 e2
    rcases DataW.trod_slice Tryd.underlying22 h3 with ⟨hc, -⟩ | ⟨a, len, cap, elems, rest, n', hn', hc, hxe, hb, hlc, hm, hlen', hel, -, -⟩
    · simp only [List.cons.injEq, and_true] at hc
      subst hc
      exact ⟨.mk k nn t [], .mk k nn t [] _ (fun _ => []) ⟨none, 0, rfl, Nat.le_refl _, Nat.zero_le _, fun h0 => absurd h0 (by simp)⟩ (fun i x hx => by simp at hx)⟩
    · simp only [List.cons.injEq, and_true] at hc
      subst hc
      have each : ∀ i, i < len → ∃ p : List Value × Dc, (p.1.length = 4 ∧ ∀ j, j < 4 → W.cell? ((a.add (i * 4)).add j) = p.1[j]?) ∧ DcAt W p.1 p.2 := fun i hi => by
        have hi' : i < elems.length := by omega
        have h := hel i hi
        rw [cDc, List.getElem?_eq_getElem hi'] at h
        obtain ⟨cs', hc', hx'⟩ := Option.bind_eq_some_iff.1 h
        obtain ⟨-, hlen7, hcell⟩ := World.cells?_some hc'
        obtain ⟨nd, hnd⟩ := ih n' (by omega) cs' _ hx'
        exact ⟨(cs', nd), ⟨hlen7, hcell⟩, hnd⟩
      obtain ⟨T, ⟨cs', hT1, hT2⟩, hT3⟩ := row_dc (elems := elems) hlc (by omega) each
      exact ⟨.mk k nn t T, .mk k nn t T _ cs' hT1 hT2⟩
set_option maxRecDepth 100000 in
theorem open_dcs {b1 : Nat} {sp : Nat → Bool} {held : Bool} {fuel : Nat} {v : Value} {x : DataW H × List MemPlace} (h2 : DataW.trod enc Tryd.prog W b1 sp held fuel 22 [v] = some x) : ∃ T : List Dc, DrIn W (fun g => g < W.heap.size) v T := by
  rcases DataW.trod_slice Tryd.underlying22 h2 with ⟨hc, -⟩ | ⟨a, len, cap, elems, rest, n', hn', hc, hxe, hb, hlc, hm, hlen', hel, -, -⟩
  · simp only [List.cons.injEq, and_true] at hc
    subst hc
    exact ⟨[], ⟨fun _ => [], ⟨none, 0, rfl, Nat.le_refl _, Nat.zero_le _, fun h0 => absurd h0 (by simp)⟩, fun i x hx => by simp at hx⟩⟩
  · simp only [List.cons.injEq, and_true] at hc
    subst hc
    have each : ∀ i, i < len → ∃ p : List Value × Dc, (p.1.length = 4 ∧ ∀ j, j < 4 → W.cell? ((a.add (i * 4)).add j) = p.1[j]?) ∧ DcAt W p.1 p.2 := fun i hi => by
      have hi' : i < elems.length := by omega
      have h := hel i hi
      rw [cDc, List.getElem?_eq_getElem hi'] at h
      obtain ⟨cs', hc', hx'⟩ := Option.bind_eq_some_iff.1 h
      obtain ⟨-, hlen7, hcell⟩ := World.cells?_some hc'
      obtain ⟨nd, hnd⟩ := open_dc n' cs' _ hx'
      exact ⟨(cs', nd), ⟨hlen7, hcell⟩, hnd⟩
    obtain ⟨T, hT1, hT3⟩ := row_dc (elems := elems) hlc (by omega) each
    exact ⟨T, hT1⟩
set_option maxRecDepth 100000 in
theorem open_doc {b0 b1 : Nat} {r : Reach} {sp : Nat → Bool} {held : Bool} {v : Value} {d : DataW H} {ps : List MemPlace} (hval : Value.okWide Tryd.prog W r b0 24 v) (hd : DataW.Trod enc Tryd.prog W b1 sp held 24 v d ps) :
    ∃ (c : List Value) (n : Dc), v = .agg c.toArray ∧ DcAt W c n := by
  obtain ⟨cs, rfl, hsz⟩ := okWide_struct Tryd.underlying24 hval
  obtain ⟨l⟩ := cs
  obtain ⟨fuel, hf⟩ := hd
  obtain ⟨n, hn⟩ := open_dc fuel _ _ hf
  exact ⟨l, n, rfl, by simpa [Value.cells] using hn⟩
end
end Go.Proofs.YtbjgoigdhijbgaaDoor
