/-
  A tree that came in: what it is.
-/
import Derived.Test.YtbjgoigdhijbgaaBase
import Derived.Test.YtbjgoigdhijbgaaTreeSz
import Derived.SizedLaws
import Derived.Deep.Strs
import Derived.Deep.Slices
namespace Go.Proofs.Ytbjgoigdhijbgaa
open Go.ChangeShapes Go.WideShapes Go.ChangeAt Go.WideMaps Go.WideElems Go.RowKit Go.Deep

theorem cNd : Try.prog.cellsOf 25 = 7 := by kernel_rfl
theorem cNds : Try.prog.cellsOf 22 = 1 := by kernel_rfl
theorem cNi : Try.prog.cellsOf 3 = 1 := by kernel_rfl
theorem cNs : Try.prog.cellsOf 9 = 1 := by kernel_rfl
theorem cNb : Try.prog.cellsOf 4 = 1 := by kernel_rfl
theorem cNss : Try.prog.cellsOf 23 = 1 := by kernel_rfl
section
variable {H : Type} {enc : TypeId × Value → H} {W : World}
theorem sz_reach {t : ByteArray} (h : t.data.toList.length ≤ reachBytes) : Sr t := by
  have h2 : reachBytes = 140737488351232 := by decide
  have h3 : t.data.toList.length = t.size := by simp
  unfold Sr
  omega
theorem weightsAll_mem {H : Type} {P : Program} {e : TypeId} : ∀ {l : List (DataW H)} {d : DataW H}, d ∈ l → ∀ n ∈ d.weights P e, n ∈ DataW.weightsAll P e l
  | d0 :: r, d, hd, n, hn => by
    simp only [DataW.weightsAll, List.mem_append]
    rcases List.mem_cons.1 hd with e | e
    · rw [← e]; exact .inl hn
    · exact .inr (weightsAll_mem e n hn)
  | [], _, hd, _, _ => by simp at hd
theorem strs_st {b1 : Nat} {sp : Nat → Bool} {held : Bool} {fuel : Nat} {v : Value} {x : DataW H × List MemPlace} (h : DataW.trod enc Try.prog W b1 sp held fuel 23 [v] = some x) (hz : ∀ m ∈ x.1.weights Try.prog 23, m ≤ reachBytes) : ∃ L : List ByteArray, StAt W v L ∧ ∀ t ∈ L, Sr t := by
  rcases open_strs Try.underlying23 Try.underlying9 cNs h with ⟨hc, -⟩ | ⟨a, len, cap, m, Sx, hc, hb, hl, hm, hmm, hxe, hx⟩
  · simp only [List.cons.injEq, and_true] at hc
    subst hc
    exact ⟨[], ⟨none, 0, rfl, fun h0 => absurd h0 (by simp)⟩, fun t h => by simp at h⟩
  · simp only [List.cons.injEq, and_true] at hc
    subst hc
    have hlm : len ≤ m := by rw [hmm]; split <;> omega
    have hT : ((List.range len).map Sx).length = len := by simp
    have hsz : ∀ t ∈ (List.range len).map Sx, Sr t := fun t ht => by
      obtain ⟨i, hi, rfl⟩ := List.mem_map.1 ht
      refine sz_reach (hz _ ?_)
      rw [hxe]
      simp only [DataW.weights, Try.underlying23, List.mem_cons, List.mem_append]
      exact .inr (.inl (weightsAll_mem (List.mem_map_of_mem hi) _ (by simp [DataW.weights])))
    refine ⟨(List.range len).map Sx, ⟨some a, cap, by rw [hT], fun h0 => ?_⟩, hsz⟩
    rw [hT] at h0
    obtain ⟨b, off, spot⟩ := a
    have hspot : spot = none := by
      have := World.cell?_spot (hx 0 (by omega)).1
      simpa [Addr.add] using this
    subst hspot
    refine ⟨b, off, rfl, ?_, fun i t ht => ?_⟩
    · have := (hx 0 (by omega)).1
      rw [Go.WideShapes.add_plain] at this
      exact World.block_lt_of_cell? _ _ this
    · have hi : i < ((List.range len).map Sx).length := (List.getElem?_eq_some_iff.1 ht).1
      rw [hT] at hi
      rw [List.getElem?_map, List.getElem?_range hi] at ht
      have ht : Sx i = t := by simpa using ht
      have := (hx i (by omega)).1
      rw [Go.WideShapes.add_plain, ht] at this
      exact this
theorem list7 {α : Type} (l : List α) (h : l.length = 7) : ∃ a b c d e f g, l = [a, b, c, d, e, f, g] := by
  match l, h with
  | [a, b, c, d, e, f, g], _ => exact ⟨a, b, c, d, e, f, g, rfl⟩
theorem open_nd {b1 : Nat} {sp : Nat → Bool} {held : Bool} : ∀ (fuel : Nat) (cs : List Value) (x : DataW H × List MemPlace), DataW.trod enc Try.prog W b1 sp held fuel 25 cs = some x → (∀ m ∈ x.1.weights Try.prog 25, m ≤ reachBytes) → ∃ n : Nd, NdAt W cs n ∧ Sza n := by
  intro fuel
  induction fuel using Nat.strongRecOn with
  | ind fuel ih =>
    intro cs x h hz
    obtain ⟨xs, n, rfl, hxe0, hl, hlen, hf⟩ := DataW.trod_struct Try.underlying25 h
    rw [hxe0] at hz
    rw [cNd] at hl
    obtain ⟨c0, c1, c2, c3, c4, c5, c6, rfl⟩ := list7 cs hl
    obtain ⟨y0, y1, y2, y3, y4, y5, y6, rfl⟩ := list7 xs hlen
    have h0 := hf 0 _ rfl
    have h1 := hf 1 _ rfl
    have h2 := hf 2 _ rfl
    have h3 := hf 3 _ rfl
    have h4 := hf 4 _ rfl
    have h5 := hf 5 _ rfl
    have h6 := hf 6 _ rfl
    have hzj : ∀ (j : Nat) (t : TypeId) (d : DataW H), ([3, 9, 22, 4, 4, 23, 23] : List TypeId)[j]? = some t → ([y0.1, y1.1, y2.1, y3.1, y4.1, y5.1, y6.1] : List (DataW H))[j]? = some d → ∀ m ∈ d.weights Try.prog t, m ≤ reachBytes := fun j t d ht hd m hm => hz m (by
      simp only [DataW.weights, Try.underlying25]
      exact DataW.weights_mem_each ht hd m hm)
    have z1 := hzj 1 _ _ rfl rfl
    have z2 := hzj 2 _ _ rfl rfl
    have z5 := hzj 5 _ _ rfl rfl
    have z6 := hzj 6 _ _ rfl rfl
    simp [cNi, cNs, cNb, cNss, cNds] at h0 h1 h2 h3 h4 h5 h6
    obtain ⟨k, e0, -, kw⟩ := DataW.trod_int Try.underlying3 h0
    obtain ⟨t, e1, e1x, -⟩ := DataW.trod_string Try.underlying9 h1
    have zt : Sr t := sz_reach (z1 _ (by rw [e1x]; simp [DataW.weights]))
    obtain ⟨br, e3, -⟩ := DataW.trod_bool Try.underlying4 h3
    obtain ⟨bl, e4, -⟩ := DataW.trod_bool Try.underlying4 h4
    obtain ⟨no, hno, zn⟩ := strs_st h5 z5
    obtain ⟨ta, hta, zta⟩ := strs_st h6 z6
    simp only [List.cons.injEq, and_true] at e0 e1 e3 e4
    subst e0 e1 e3 e4
    rcases DataW.trod_slice Try.underlying22 h2 with ⟨hc, -⟩ | ⟨a, len, cap, elems, rest, n', hn', hc, hxe, hb, hlc, hm, hlen', hel, -, -⟩
    · simp only [List.cons.injEq, and_true] at hc
      subst hc
      exact ⟨.mk k t [] br bl no ta, .mk k t [] br bl no ta _ _ _ (fun _ => []) hno hta ⟨none, 0, rfl, fun h0 => absurd h0 (by simp)⟩ (fun i x hx => by simp at hx), sza_mk kw zt.sz (fun x hx => (zn x hx).sz) (fun x hx => (zta x hx).sz) (fun x hx => by simp at hx)⟩
    · simp only [List.cons.injEq, and_true] at hc
      subst hc
      have each : ∀ i, i < len → ∃ p : List Value × Nd, (p.1.length = 7 ∧ ∀ j, j < 7 → W.cell? ((a.add (i * 7)).add j) = p.1[j]?) ∧ NdAt W p.1 p.2 ∧ Sza p.2 := fun i hi => by
        have hi' : i < elems.length := by omega
        have hze : ∀ m ∈ (elems[i].1).weights Try.prog 25, m ≤ reachBytes := fun m hm => z2 m (by
          rw [hxe]
          simp only [DataW.weights, Try.underlying22, List.mem_cons, List.mem_append]
          exact .inr (.inl (weightsAll_mem (List.mem_map_of_mem (List.getElem_mem hi')) _ hm)))
        have h := hel i hi
        rw [cNd, List.getElem?_eq_getElem hi'] at h
        obtain ⟨cs', hc', hx'⟩ := Option.bind_eq_some_iff.1 h
        obtain ⟨-, hlen7, hcell⟩ := World.cells?_some hc'
        obtain ⟨nd, hnd, hsn⟩ := ih n' (by omega) cs' _ hx' hze
        exact ⟨(cs', nd), ⟨hlen7, hcell⟩, hnd, hsn⟩
      have : Inhabited (List Value × Nd) := ⟨([], .mk 0 ⟨#[]⟩ [] false false [] [])⟩
      obtain ⟨q, hq⟩ := choose_lt each
      have hT : ((List.range len).map fun i => (q i).2).length = len := by simp
      refine ⟨.mk k t ((List.range len).map fun i => (q i).2) br bl no ta, .mk k t _ br bl no ta _ _ _ (fun i => (q i).1) hno hta ?_ ?_, sza_mk kw zt.sz (fun x hx => (zn x hx).sz) (fun x hx => (zta x hx).sz) (fun x hx => by
        obtain ⟨i, hi, rfl⟩ := List.mem_map.1 hx
        exact (hq i (List.mem_range.1 hi)).2.2)⟩
      · refine ⟨some a, cap, by rw [hT], fun h0 => ?_⟩
        rw [hT] at h0
        obtain ⟨b, off, spot⟩ := a
        have c00 : ∃ v, W.cell? ((((⟨b, off, spot⟩ : Addr).add (0 * 7)).add 0)) = some v := by
          have h7 := (hq 0 h0).1.1
          have := (hq 0 h0).1.2 0 (by omega)
          rw [List.getElem?_eq_getElem (by omega)] at this
          exact ⟨_, this⟩
        obtain ⟨v, hv⟩ := c00
        have hspot : spot = none := by
          have := World.cell?_spot hv
          simpa [Addr.add] using this
        subst hspot
        have hv' : W.cell? ⟨b, off, none⟩ = some v := by simpa [Addr.add] using hv
        refine ⟨b, off, rfl, World.block_lt_of_cell? _ _ hv', fun i hi j x hj => ?_⟩
        rw [hT] at hi
        have hj : (q i).1[j]? = some x := hj
        have hj7 : j < 7 := by have := (List.getElem?_eq_some_iff.1 hj).1; have := (hq i hi).1.1; omega
        have := (hq i hi).1.2 j hj7
        rw [Go.WideShapes.add_plain, Go.WideShapes.add_plain, hj] at this
        exact this
      · intro i x hx
        have hi : i < ((List.range len).map fun i => (q i).2).length := (List.getElem?_eq_some_iff.1 hx).1
        rw [hT] at hi
        rw [List.getElem?_map, List.getElem?_range hi] at hx
        have hx : (q i).2 = x := by simpa using hx
        rw [← hx]
        exact (hq i hi).2.1
/-- A row of trees. -/
def RowN (W : World) (v : Value) (T : List Nd) : Prop := ∃ cs, SlAt W v T.length cs ∧ ∀ i x, T[i]? = some x → NdAt W (cs i) x
theorem open_nds {b1 : Nat} {sp : Nat → Bool} {held : Bool} {fuel : Nat} {v : Value} {x : DataW H × List MemPlace} (h2 : DataW.trod enc Try.prog W b1 sp held fuel 22 [v] = some x) (hz : ∀ m ∈ x.1.weights Try.prog 22, m ≤ reachBytes) : ∃ T : List Nd, RowN W v T ∧ ∀ x ∈ T, Sza x := by
  rcases DataW.trod_slice Try.underlying22 h2 with ⟨hc, -⟩ | ⟨a, len, cap, elems, rest, n', hn', hc, hxe, hb, hlc, hm, hlen', hel, -, -⟩
  · simp only [List.cons.injEq, and_true] at hc
    subst hc
    exact ⟨[], ⟨fun _ => [], ⟨none, 0, rfl, fun h0 => absurd h0 (by simp)⟩, fun i x hx => by simp at hx⟩, fun x hx => by simp at hx⟩
  · simp only [List.cons.injEq, and_true] at hc
    subst hc
    have each : ∀ i, i < len → ∃ p : List Value × Nd, (p.1.length = 7 ∧ ∀ j, j < 7 → W.cell? ((a.add (i * 7)).add j) = p.1[j]?) ∧ NdAt W p.1 p.2 ∧ Sza p.2 := fun i hi => by
      have hi' : i < elems.length := by omega
      have hze : ∀ m ∈ (elems[i].1).weights Try.prog 25, m ≤ reachBytes := fun m hm => hz m (by
        rw [hxe]
        simp only [DataW.weights, Try.underlying22, List.mem_cons, List.mem_append]
        exact .inr (.inl (weightsAll_mem (List.mem_map_of_mem (List.getElem_mem hi')) _ hm)))
      have h := hel i hi
      rw [cNd, List.getElem?_eq_getElem hi'] at h
      obtain ⟨cs', hc', hx'⟩ := Option.bind_eq_some_iff.1 h
      obtain ⟨-, hlen7, hcell⟩ := World.cells?_some hc'
      obtain ⟨nd, hnd, hsn⟩ := open_nd n' cs' _ hx' hze
      exact ⟨(cs', nd), ⟨hlen7, hcell⟩, hnd, hsn⟩
    have : Inhabited (List Value × Nd) := ⟨([], .mk 0 ⟨#[]⟩ [] false false [] [])⟩
    obtain ⟨q, hq⟩ := choose_lt each
    have hT : ((List.range len).map fun i => (q i).2).length = len := by simp
    refine ⟨(List.range len).map fun i => (q i).2, ⟨fun i => (q i).1, ?_, ?_⟩, fun x hx => by
      obtain ⟨i, hi, rfl⟩ := List.mem_map.1 hx
      exact (hq i (List.mem_range.1 hi)).2.2⟩
    · refine ⟨some a, cap, by rw [hT], fun h0 => ?_⟩
      rw [hT] at h0
      obtain ⟨b, off, spot⟩ := a
      have c00 : ∃ v, W.cell? ((((⟨b, off, spot⟩ : Addr).add (0 * 7)).add 0)) = some v := by
        have h7 := (hq 0 h0).1.1
        have := (hq 0 h0).1.2 0 (by omega)
        rw [List.getElem?_eq_getElem (by omega)] at this
        exact ⟨_, this⟩
      obtain ⟨v, hv⟩ := c00
      have hspot : spot = none := by
        have := World.cell?_spot hv
        simpa [Addr.add] using this
      subst hspot
      have hv' : W.cell? ⟨b, off, none⟩ = some v := by simpa [Addr.add] using hv
      refine ⟨b, off, rfl, World.block_lt_of_cell? _ _ hv', fun i hi j x hj => ?_⟩
      rw [hT] at hi
      have hj : (q i).1[j]? = some x := hj
      have hj7 : j < 7 := by have := (List.getElem?_eq_some_iff.1 hj).1; have := (hq i hi).1.1; omega
      have := (hq i hi).1.2 j hj7
      rw [Go.WideShapes.add_plain, Go.WideShapes.add_plain, hj] at this
      exact this
    · intro i x hx
      have hi : i < ((List.range len).map fun i => (q i).2).length := (List.getElem?_eq_some_iff.1 hx).1
      rw [hT] at hi
      rw [List.getElem?_map, List.getElem?_range hi] at hx
      have hx : (q i).2 = x := by simpa using hx
      rw [← hx]
      exact (hq i hi).2.1
theorem open_node {b0 b1 : Nat} {r : Reach} {sp : Nat → Bool} {held : Bool} {v : Value} {d : DataW H} {ps : List MemPlace} (hval : Value.okWide Try.prog W r b0 25 v) (hd : DataW.Trod enc Try.prog W b1 sp held 25 v d ps) (hz : ∀ m ∈ d.weights Try.prog 25, m ≤ reachBytes) :
    ∃ (c : List Value) (n : Nd), v = .agg c.toArray ∧ NdAt W c n ∧ Sza n := by
  obtain ⟨cs, rfl, hsz⟩ := okWide_struct Try.underlying25 hval
  obtain ⟨l⟩ := cs
  obtain ⟨fuel, hf⟩ := hd
  obtain ⟨n, hn, hsn⟩ := open_nd fuel _ _ hf hz
  exact ⟨l, n, rfl, by simpa [Value.cells] using hn, hsn⟩
end
end Go.Proofs.Ytbjgoigdhijbgaa
