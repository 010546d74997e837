/-
  Literals of a tree, in their order, whatever stands between; comments likewise (promise 10.1): for every row of texts, nested or in a row, the statement TreeLits returns true. No condition.
-/
import Derived.Test.YtkdaombcbcegfaaBase
import Derived.Test.YtkdaombcbcegfaaNode
import Derived.Test.YtkdaombcbcegfaaTreeTold
import Derived.Test.YtkdaombcbcegfaaNdRow
import Derived.Deep.CutRange
import Derived.Deep.RegionHeld3
namespace Go.Proofs.Ytkdaombcbcegfaa.treeLits
open Go.ChangeShapes Go.WideShapes Go.ChangeAt Go.RowKit Go.PlainAid

/-- A text behind %. -/
def pct (x : ByteArray) : ByteArray := { data := #[37] } ++ x
theorem below_setRow9' {B g : Nat} {w0 w : World} (hb : Below B w0 w) (hBg : B ≤ g) (cs : Array Value) : Below B w0 (w.setRow g cs) := by
  obtain ⟨h1, h2, h3, h4, h5⟩ := hb
  exact ⟨h1, h2, h3, by rw [setRow_size]; exact h4, fun b hb => by rw [setRow_other _ _ _ _ (by omega)]; exact h5 b hb⟩
/-- The node with a literal and a comment, new. -/
def litN (x : ByteArray) : Nd := .mk 1 x [] false false [pct x] []
def nodeC (k : Int) (t : ByteArray) (lv nv : Value) : Array Value := #[.int .i64 k, .string t, lv, .bool false, .bool false, nv, .slice none 0 0]
/-- Behind the statement that makes it: its own block (X), its row of comments (S). -/
def Xk (w0 : World) (X : Nat) (x y : ByteArray) (w : World) : Prop :=
  ∃ S, w.heap[X]? = some (.cells (nodeC 1 x (.slice none 0 0) (.slice (some ⟨S, 0, none⟩) 1 1)) 26) ∧ w.heap[S]? = some (.cells #[.string y] 9) ∧ w0.heap.size ≤ X ∧ w0.heap.size ≤ S ∧ Below w0.heap.size w0 w
theorem xk_a (w : World) (x y : ByteArray) (n : Nat) : Xk w (w.heap.size + 1) x y (((w.alloc (.cells #[.string y] 9)).alloc (.cells (nodeC 1 x (.slice none 0 0) (.slice (some ⟨w.heap.size, 0, none⟩) 1 1)) 26)).drewN n) := by
  obtain ⟨b1, b2, b3, b4, b5⟩ := below2 w (.cells #[.string y] 9) (.cells (nodeC 1 x (.slice none 0 0) (.slice (some ⟨w.heap.size, 0, none⟩) 1 1)) 26)
  refine ⟨w.heap.size, ?_, ?_, by omega, by omega, ⟨b1, b2, b3, b4, b5⟩⟩
  · show ((w.heap.push _).push _)[w.heap.size + 1]? = _
    rw [Array.getElem?_push, if_pos (by simp)]
  · show ((w.heap.push _).push _)[w.heap.size]? = _
    rw [Array.getElem?_push_lt (by simp), Array.getElem_push_eq]
theorem xk_b (w : World) (x y : ByteArray) (n : Nat) : Xk w w.heap.size x y (((w.alloc (.cells (nodeC 1 x (.slice none 0 0) (.slice (some ⟨w.heap.size + 1, 0, none⟩) 1 1)) 26)).alloc (.cells #[.string y] 9)).drewN n) := by
  obtain ⟨b1, b2, b3, b4, b5⟩ := below2 w (.cells (nodeC 1 x (.slice none 0 0) (.slice (some ⟨w.heap.size + 1, 0, none⟩) 1 1)) 26) (.cells #[.string y] 9)
  refine ⟨w.heap.size + 1, ?_, ?_, by omega, by omega, ⟨b1, b2, b3, b4, b5⟩⟩
  · show ((w.heap.push _).push _)[w.heap.size]? = _
    rw [Array.getElem?_push_lt (by simp), Array.getElem_push_eq]
  · show ((w.heap.push _).push _)[w.heap.size + 1]? = _
    rw [Array.getElem?_push, if_pos (by simp)]
theorem litN_in {W : World} {P : Nat → Prop} {S : Nat} {x : ByteArray} (hS : W.heap[S]? = some (.cells #[.string (pct x)] 9)) (hp : P S) :
    NdIn W P [.int .i64 1, .string x, .slice none 0 0, .bool false, .bool false, .slice (some ⟨S, 0, none⟩) 1 1, .slice none 0 0] (litN x) := by
  refine NdIn.of_row 1 x false false ⟨some ⟨S, 0, none⟩, 1, rfl, fun _ => ⟨S, 0, rfl, hp, lt_of_block hS, fun i y hy => ?_⟩⟩ ⟨none, 0, rfl, fun h => absurd h (by simp)⟩ (RowIn.nil W P)
  cases i with
  | zero =>
    simp only [List.getElem?_cons_zero, Option.some.injEq] at hy
    rw [cell_of_row W S _ _ _ _ hS, ← hy]
    rfl
  | succ i => simp at hy
theorem row_in_new {W : World} {B : Nat} {k : Int} {t : ByteArray} {L : List Nd} {br bl : Bool} {no ta : List ByteArray} {lv nv tv : Value} (h : NdIn W (fun g => g ≠ B) [.int .i64 k, .string t, lv, .bool br, .bool bl, nv, tv] (.mk k t L br bl no ta)) (O : Obj) :
    RowIn (W.alloc O) (fun g => g ≠ B ∧ (Value.slice (some ⟨W.heap.size, 0, none⟩) 1 1).ownBlock ≠ some g) lv L := by
  cases h with
  | mk _ _ _ _ _ _ _ _ _ _ cs hn ht hl hc =>
    have hw : ∀ g, g ≠ B → g < W.heap.size → g ≠ B ∧ (Value.slice (some ⟨W.heap.size, 0, none⟩) 1 1).ownBlock ≠ some g := fun g hg hlt => ⟨hg, by simp only [Value.ownBlock, ne_eq, Option.some.injEq]; omega⟩
    exact ⟨cs, (hl.weak hw).keep (keeps_below (below1 _ _)), fun i x hx => ((hc i x hx).weak hw).keep (keeps_below (below1 _ _))⟩
/-- What the loop keeps: node n lies in block B, its tree's rows do not; its literals and comments are those from r on. -/
def Lt (w0 : World) (B : Nat) (l : List ByteArray) (nested : Bool) (r : Nat) (w : World) : Prop :=
  ∃ (k : Int) (t : ByteArray) (L : List Nd) (no ta : List ByteArray) (lv nv tv : Value),
    w.heap[B]? = some (.cells #[.int .i64 k, .string t, lv, .bool false, .bool false, nv, tv] 26) ∧
    NdIn w (fun g => g ≠ B) [.int .i64 k, .string t, lv, .bool false, .bool false, nv, tv] (.mk k t L false false no ta) ∧
    lts (.mk k t L false false no ta) = l.drop r ∧ nts (.mk k t L false false no ta) = (l.drop r).map (fun x => pct x) ∧ cnt (.mk k t L false false no ta) ≤ 2 * (l.length - r) + 1 ∧ smk 2 (.mk k t L false false no ta) ∧
    (nested = false → k = 4 ∧ t = ⟨#[]⟩ ∧ no = [] ∧ ta = [] ∧ nv = .slice none 0 0 ∧ tv = .slice none 0 0) ∧ Below w0.heap.size w0 w ∧ w0.heap.size = B
theorem keeps_setRow {P : Nat → Prop} (W : World) {B : Nat} (hB : ¬ P B) (cs : Array Value) : Keeps P W (W.setRow B cs) :=
  ⟨by rw [setRow_size]; exact Nat.le_refl _, fun g hp _ => setRow_other _ _ _ _ (fun e => hB (e ▸ hp))⟩
theorem st_in_nil (W : World) (P : Nat → Prop) : StIn W P (.slice none 0 0) [] := ⟨none, 0, rfl, fun h => absurd h (by simp)⟩
theorem lts_row (x : ByteArray) (k : Int) (hk : (k == 1) = false) (t : ByteArray) (L : List Nd) : lts (.mk k t (litN x :: L) false false [] []) = x :: ltsL L := by simp [lts, ltsL, litN, hk]
theorem nts_row (x : ByteArray) (k : Int) (t : ByteArray) (L : List Nd) : nts (.mk k t (litN x :: L) false false [] []) = pct x :: ntsL L := by simp [nts, ntsL, litN]
theorem lt_row {w0 W w4 : World} {l : List ByteArray} {r : Nat} {x : ByteArray} {L : List Nd} {v4 : Value} {lv : Value} (hx : l[r]? = some x)
    (h1 : lts (.mk 4 ⟨#[]⟩ L false false [] []) = l.drop (r + 1)) (h2 : nts (.mk 4 ⟨#[]⟩ L false false [] []) = (l.drop (r + 1)).map pct) (h3 : cnt (.mk 4 ⟨#[]⟩ L false false [] []) ≤ 2 * (l.length - (r + 1)) + 1) (h4 : smk 2 (.mk 4 ⟨#[]⟩ L false false [] []))
    (hB : w4.heap[w0.heap.size]? = some (.cells #[.int .i64 4, .string ⟨#[]⟩, lv, .bool false, .bool false, .slice none 0 0, .slice none 0 0] 26))
    (hown : OwnN w4 (fun g => g ≠ w0.heap.size) W.heap.size v4 ([litN x] ++ L)) (hb : Below w0.heap.size w0 w4) : Lt w0 w0.heap.size l false r (w4.setCell ⟨w0.heap.size, 2, none⟩ v4) := by
  have hr : r < l.length := (List.getElem?_eq_some_iff.1 hx).1
  refine ⟨4, ⟨#[]⟩, [litN x] ++ L, [], [], v4, .slice none 0 0, .slice none 0 0, ?_, NdIn.of_row 4 ⟨#[]⟩ false false (st_in_nil _ _) (st_in_nil _ _) ((hown.set (by simp) 2 v4).row), ?_, ?_, ?_, ?_, fun _ => ⟨rfl, rfl, rfl, rfl, rfl, rfl⟩, hb.setCell (Nat.le_refl _) v4, rfl⟩
  · exact heap_setCell_same _ _ 2 _ _ v4 hB
  · rw [List.singleton_append, lts_row x 4 rfl, drop_cons' hx, ← h1]; simp [lts]
  · rw [List.singleton_append, nts_row, drop_cons' hx, List.map_cons, ← h2]; simp [nts]
  · simp only [cnt, List.singleton_append, cntL, litN] at h3 ⊢
    omega
  · simp only [smk, List.singleton_append, smkL, litN] at h4 ⊢
    exact ⟨h4.1, h4.2.1, ⟨by simp, by simp, trivial⟩, h4.2.2⟩
theorem lt_nest {w0 W : World} {l : List ByteArray} {r : Nat} {x : ByteArray} {S : Nat} {k : Int} {t : ByteArray} {L : List Nd} {no ta : List ByteArray} {lv nv tv : Value} (hx : l[r]? = some x)
    (h1 : lts (.mk k t L false false no ta) = l.drop (r + 1)) (h2 : nts (.mk k t L false false no ta) = (l.drop (r + 1)).map pct) (h3 : cnt (.mk k t L false false no ta) ≤ 2 * (l.length - (r + 1)) + 1) (h4 : smk 2 (.mk k t L false false no ta))
    (hB : W.heap[w0.heap.size]? = some (.cells #[.int .i64 k, .string t, lv, .bool false, .bool false, nv, tv] 26))
    (hX : NdIn W (fun g => g ≠ w0.heap.size) [.int .i64 1, .string x, .slice none 0 0, .bool false, .bool false, .slice (some ⟨S, 0, none⟩) 1 1, .slice none 0 0] (litN x))
    (hN : NdIn W (fun g => g ≠ w0.heap.size) [.int .i64 k, .string t, lv, .bool false, .bool false, nv, tv] (.mk k t L false false no ta)) (hb : Below w0.heap.size w0 W) :
    Lt w0 w0.heap.size l true r ((W.alloc (.cells #[.int .i64 1, .string x, .slice none 0 0, .bool false, .bool false, .slice (some ⟨S, 0, none⟩) 1 1, .slice none 0 0, .int .i64 k, .string t, lv, .bool false, .bool false, nv, tv] 26)).setRow w0.heap.size #[.int .i64 5, .string ⟨#[]⟩, .slice (some ⟨W.heap.size, 0, none⟩) 2 2, .bool false, .bool false, .slice none 0 0, .slice none 0 0]) := by
  have hr : r < l.length := (List.getElem?_eq_some_iff.1 hx).1
  have hlt : w0.heap.size < W.heap.size := lt_of_block hB
  have hown := OwnN.made (W := W) (P := fun g => g ≠ w0.heap.size) (css := [[.int .i64 1, .string x, .slice none 0 0, .bool false, .bool false, .slice (some ⟨S, 0, none⟩) 1 1, .slice none 0 0], [.int .i64 k, .string t, lv, .bool false, .bool false, nv, tv]]) (T := [litN x, .mk k t L false false no ta]) rfl (by
    intro i c y h1 h2
    match i with
    | 0 => simp at h1 h2; subst h1 h2; exact hX
    | 1 => simp at h1 h2; subst h1 h2; exact hN
    | n + 2 => simp at h1) #[.int .i64 1, .string x, .slice none 0 0, .bool false, .bool false, .slice (some ⟨S, 0, none⟩) 1 1, .slice none 0 0, .int .i64 k, .string t, lv, .bool false, .bool false, nv, tv] rfl (by omega) (by show 2 ≤ maxLen; decide) _ rfl
  have hBa : (W.alloc (.cells #[.int .i64 1, .string x, .slice none 0 0, .bool false, .bool false, .slice (some ⟨S, 0, none⟩) 1 1, .slice none 0 0, .int .i64 k, .string t, lv, .bool false, .bool false, nv, tv] 26)).heap[w0.heap.size]? = some (.cells #[.int .i64 k, .string t, lv, .bool false, .bool false, nv, tv] 26) := ((below1 W _).block _ hlt).trans hB
  refine ⟨5, ⟨#[]⟩, [litN x, .mk k t L false false no ta], [], [], .slice (some ⟨W.heap.size, 0, none⟩) 2 2, .slice none 0 0, .slice none 0 0, setRow_heap _ _ _ _ _ _ hBa, NdIn.of_row 5 ⟨#[]⟩ false false (st_in_nil _ _) (st_in_nil _ _) (hown.row.keep (keeps_setRow _ (by simp) _)), ?_, ?_, ?_, ?_, (fun h => by cases h), below_setRow9' ((hb.trans ((below1 W _).mono (by omega)))) (Nat.le_refl _) _, rfl⟩
  · rw [lts_row x 5 rfl, drop_cons' hx, ← h1]; simp [ltsL]
  · rw [nts_row, drop_cons' hx, List.map_cons, ← h2]; simp [ntsL]
  · have : cnt (.mk 5 ⟨#[]⟩ [litN x, .mk k t L false false no ta] false false [] []) = 2 + cnt (.mk k t L false false no ta) := by
      show 1 + (cnt (litN x) + (cnt (.mk k t L false false no ta) + 0)) = _
      have : cnt (litN x) = 1 := by simp [litN, cnt, cntL]
      omega
    omega
  · refine ⟨by simp, by simp, ?_⟩
    simp only [smkL, litN, smk]
    refine ⟨⟨by simp, by simp, trivial⟩, ?_, trivial⟩
    simpa only [smk] using h4
theorem txs_slice {W : World} {b : Nat} {v : Value} {L : List ByteArray} (h : Txs W b v L) : ∃ a c, v = .slice a L.length c := by
  obtain ⟨-, ⟨rfl, h0⟩ | ⟨g, cap, cur, rfl, -⟩⟩ := h
  · exact ⟨none, 0, by rw [h0]⟩
  · exact ⟨_, _, rfl⟩
theorem lt_start (w : World) (l : List ByteArray) (nested : Bool) : Lt w w.heap.size l nested l.length (w.alloc (.cells #[.int .i64 4, .string ⟨#[]⟩, .slice none 0 0, .bool false, .bool false, .slice none 0 0, .slice none 0 0] 26)) := by
  refine ⟨4, ⟨#[]⟩, [], [], [], .slice none 0 0, .slice none 0 0, .slice none 0 0, ?_, NdIn.of_row 4 ⟨#[]⟩ false false (st_in_nil _ _) (st_in_nil _ _) (RowIn.nil _ _), ?_, ?_, ?_, ?_, fun _ => ⟨rfl, rfl, rfl, rfl, rfl, rfl⟩, below1 _ _, rfl⟩
  · show (w.heap.push _)[w.heap.size]? = _
    rw [Array.getElem?_push, if_pos rfl]
  · simp [lts, ltsL]
  · simp [nts, ntsL]
  · simp [cnt, cntL]
  · simp [smk, smkL]
set_option maxRecDepth 100000 in
set_option maxHeartbeats 16000000 in
theorem walk (v : Value) (l : List ByteArray) (nested : Bool) (w : World) (h : StAt w v l) (hs : ∀ t ∈ l, Sr t) :
    Calls Try.prog 3 #[v, .bool nested] w fun e w' => e = .returned (.bool true) ∧ Below w.heap.size w w' := by
  have HSW : Hid ((∀ t ∈ l, Sz t) ∧ ∀ t ∈ l.map pct, Sz t) := Lib.hid ⟨fun t ht => (hs t ht).sz, fun t ht => by
    obtain ⟨u, hu, rfl⟩ := List.mem_map.1 ht
    have h1 := hs u hu
    have h2 : (pct u).size = u.size + 1 := by unfold pct; rw [ByteArray.size_append, Nat.add_comm]; rfl
    unfold Sz; unfold Sr at h1; omega⟩
  clear hs
  obtain ⟨a, cap, rfl, hc⟩ := h
  by_cases g5 : 12 < l.length
  · have d1 : decide ((12 : Int) < (l.length : Int)) = true := decide_eq_true (by omega)
    clear hc
    go_enter Try.func3, Try.ntmps3
    go_wp2_with fail
    refine (told10_any _).mono ?_
    rintro e w9 ⟨rfl, hb9⟩
    have HB9 : Hid (Below w.heap.size w w9) := Lib.hid hb9
    clear hb9
    go_wp2_with fail
    go_ret
    exact ⟨rfl, HB9.out⟩
  have d1 : decide ((12 : Int) < (l.length : Int)) = false := decide_eq_false (by omega)
  have HC := Lib.hid hc
  clear hc
  go_enter Try.func3, Try.ntmps3
  go_wp2_with fail
  have NN : (l.length : Int) - 1 = (l.length : Int) - 1 := rfl
  clear NN
  go_loopg [6] l.length (fun gn i wr => ∃ (r : Nat), gn = r ∧ r ≤ l.length ∧ i = .int .i64 ((r : Int) - 1) ∧ Hid (Lt w w.heap.size l nested r wr) ∧ Hid (∀ (j : Nat) (y : ByteArray), r ≤ j → l[j]? = some y → y.size ≤ 50))
  case atStart => exact ⟨l.length, rfl, Nat.le_refl _, rfl, Lib.hid (lt_start w l nested), Lib.hid (fun j y h1 h2 => by have := (List.getElem?_eq_some_iff.1 h2).1; omega)⟩
  case round =>
    obtain ⟨r, hgn, hr, rfl, HK, HSZ⟩ := hrel
    by_cases hlt : 0 < r
    · obtain ⟨r, rfl⟩ : ∃ q, r = q + 1 := ⟨r - 1, by omega⟩
      obtain ⟨x, hx⟩ : ∃ x, l[r]? = some x := ⟨_, List.getElem?_eq_getElem (by omega)⟩
      obtain ⟨g, o, rfl, hg, hcx⟩ := HC.out (by omega)
      have c1 : Hid (∀ W, Below wr.heap.size wr W → W.cell? ⟨g, o + r, none⟩ = some (.string x)) := Lib.hid (by
        obtain ⟨_, _, _, _, _, _, _, _, -, -, -, -, -, -, -, hb, -⟩ := HK.out
        exact fun W hb2 => ((hb.trans (hb2.mono hb.size)).cell (p := ⟨g, o + r, none⟩) hg).trans (hcx r x hx))
      have d0 := c1.out wr (Below.refl _ _)
      have ri : ((r + 1 : Nat) : Int) - 1 = (r : Int) := by omega
      have rn : (r : Int) < (l.length : Int) := by omega
      have HX := Lib.hid hx
      rw [ri]
      clear hcx hx ri
      by_cases g50 : 50 < x.size
      · have e1 : decide ((50 : Int) < (x.size : Int)) = true := decide_eq_true (by omega)
        go_wp2_with fail
        refine (told10_any _).mono ?_
        rintro e w9 ⟨rfl, hb9⟩
        have HB9 : Hid (Below w.heap.size w w9) := Lib.hid (by
          obtain ⟨_, _, _, _, _, _, _, _, -, -, -, -, -, -, -, hb, -⟩ := HK.out
          exact hb.trans (hb9.mono hb.size))
        clear hb9
        go_wp2_with fail
        go_ret
        exact ⟨rfl, HB9.out⟩
      have e1 : decide ((50 : Int) < (x.size : Int)) = false := decide_eq_false (by omega)
      have x50 : x.size ≤ 50 := by omega
      have HSZ2 : Hid (∀ (j : Nat) (y : ByteArray), r ≤ j → l[j]? = some y → y.size ≤ 50) := Lib.hid (fun j y h1 h2 => by
        rcases Nat.eq_or_lt_of_le h1 with rfl | h1
        · rw [HX.out] at h2; cases h2; exact x50
        · exact HSZ.out j y h1 h2)
      clear g50 HSZ
      go_wp2_with fail
      go_cut [7] from 30 to 40 (fun t wx => ∃ X, t = .pointer (some ⟨X, 0, none⟩) ∧ Hid (Xk wr X x (pct x) wx))
      case first =>
        have d2 := fun O => c1.out (wr.alloc O) (below1 _ _)
        have d3 := fun O U => c1.out ((wr.alloc O).alloc U) (below2 _ _ _)
        go_region
        all_goals go_wp2_with fail
        all_goals go_meet
        all_goals first | exact ⟨_, rfl, Lib.hid (xk_a wr x (pct x) 1)⟩ | exact ⟨_, rfl, Lib.hid (xk_b wr x (pct x) 1)⟩
      case rest =>
        obtain ⟨X, rfl, HP⟩ := hcut
        obtain ⟨k, t, L, no, ta, lv, nv, tv, hB, hN, hlt1, hnt, hcn, hsm, hne, hbw, -⟩ := HK.out
        obtain ⟨S, hX, hS, hX0, hS0, hbc⟩ := HP.out
        obtain ⟨la, lc, rfl⟩ : ∃ a c, lv = .slice a L.length c := by cases hN with | mk _ _ _ _ _ _ _ _ _ _ cs _ _ hl _ => obtain ⟨a, c, e, -⟩ := hl; exact ⟨a, c, e⟩
        obtain ⟨na, nc, rfl⟩ : ∃ a c, nv = .slice a no.length c := by cases hN with | mk _ _ _ _ _ _ _ _ _ _ cs hl _ _ _ => obtain ⟨a, c, e, -⟩ := hl; exact ⟨a, c, e⟩
        obtain ⟨ta2, tc, rfl⟩ : ∃ a c, tv = .slice a ta.length c := by cases hN with | mk _ _ _ _ _ _ _ _ _ _ cs _ hl _ _ => obtain ⟨a, c, e, -⟩ := hl; exact ⟨a, c, e⟩
        have hBl : w.heap.size < wr.heap.size := lt_of_block hB
        have hBc := (hbc.block _ hBl).trans hB
        have b0 : wc.cell? ⟨w.heap.size, 0, none⟩ = some (.int .i64 k) := by rw [cell_of_row wc _ _ _ _ _ hBc]; rfl
        have b1 : wc.cell? ⟨w.heap.size, 1, none⟩ = some (.string t) := by rw [cell_of_row wc _ _ _ _ _ hBc]; rfl
        have b2 : wc.cell? ⟨w.heap.size, 2, none⟩ = some (.slice la L.length lc) := by rw [cell_of_row wc _ _ _ _ _ hBc]; rfl
        have b3 : wc.cell? ⟨w.heap.size, 3, none⟩ = some (.bool false) := by rw [cell_of_row wc _ _ _ _ _ hBc]; rfl
        have b4 : wc.cell? ⟨w.heap.size, 4, none⟩ = some (.bool false) := by rw [cell_of_row wc _ _ _ _ _ hBc]; rfl
        have b5 : wc.cell? ⟨w.heap.size, 5, none⟩ = some (.slice na no.length nc) := by rw [cell_of_row wc _ _ _ _ _ hBc]; rfl
        have b6 : wc.cell? ⟨w.heap.size, 6, none⟩ = some (.slice ta2 ta.length tc) := by rw [cell_of_row wc _ _ _ _ _ hBc]; rfl
        have x0 : wc.cell? ⟨X, 0, none⟩ = some (.int .i64 1) := by rw [cell_of_row wc _ _ _ _ _ hX]; rfl
        have x1 : wc.cell? ⟨X, 1, none⟩ = some (.string x) := by rw [cell_of_row wc _ _ _ _ _ hX]; rfl
        have x2 : wc.cell? ⟨X, 2, none⟩ = some (.slice none 0 0) := by rw [cell_of_row wc _ _ _ _ _ hX]; rfl
        have x3 : wc.cell? ⟨X, 3, none⟩ = some (.bool false) := by rw [cell_of_row wc _ _ _ _ _ hX]; rfl
        have x4 : wc.cell? ⟨X, 4, none⟩ = some (.bool false) := by rw [cell_of_row wc _ _ _ _ _ hX]; rfl
        have x5 : wc.cell? ⟨X, 5, none⟩ = some (.slice (some ⟨S, 0, none⟩) 1 1) := by rw [cell_of_row wc _ _ _ _ _ hX]; rfl
        have x6 : wc.cell? ⟨X, 6, none⟩ = some (.slice none 0 0) := by rw [cell_of_row wc _ _ _ _ _ hX]; rfl
        have fB := fun j => frz_of hBc j
        have HN := Lib.hid hN
        have HBC := Lib.hid hBc
        have HXC := Lib.hid hX
        have HSC := Lib.hid hS
        have HH := Lib.hid (And.intro hlt1 (And.intro hnt (And.intro hcn (And.intro hsm (And.intro hne hbw)))))
        clear hlt1 hnt hcn hsm hne hbw hN hBc hX hS hB
        have HXN : Hid (NdIn wc (fun g => g ≠ w.heap.size) [.int .i64 1, .string x, .slice none 0 0, .bool false, .bool false, .slice (some ⟨S, 0, none⟩) 1 1, .slice none 0 0] (litN x)) := Lib.hid (litN_in HSC.out (by omega))
        have HN2 := Lib.hid (HN.out.keep (keeps_below hbc))
        cases nested
        · obtain ⟨h1, h2, h3, h4, h5, h6⟩ := HH.out
          obtain ⟨rfl, rfl, rfl, rfl, h7, h8⟩ := h5 rfl
          simp only [Value.slice.injEq] at h7 h8
          obtain ⟨rfl, -, rfl⟩ := h7
          obtain ⟨rfl, -, rfl⟩ := h8
          clear h5
          have c2 := fun O => ((below1 wc O).cell (p := ⟨w.heap.size, 2, none⟩) (by show w.heap.size < wc.heap.size; have := hbc.size; omega)).trans b2
          have HOWN : Hid (∀ cur, cur = #[Value.int .i64 1, .string x, .slice none 0 0, .bool false, .bool false, .slice (some ⟨S, 0, none⟩) 1 1, .slice none 0 0] → OwnN (wc.alloc (.cells cur 26)) (fun g => g ≠ w.heap.size) wc.heap.size (.slice (some ⟨wc.heap.size, 0, none⟩) 1 1) [litN x]) := Lib.hid (by
            rintro _ rfl
            exact OwnN.made (css := [[Value.int .i64 1, .string x, .slice none 0 0, .bool false, .bool false, .slice (some ⟨S, 0, none⟩) 1 1, .slice none 0 0]]) (T := [litN x]) rfl (by
              intro i c y h1 h2
              cases i with
              | zero => simp at h1 h2; subst h1 h2; exact HXN.out
              | succ i => simp at h1) _ rfl (by have := hbc.size; omega) (by show 1 ≤ maxLen; decide) _ rfl)
          have HROW : Hid (∀ O, RowIn (wc.alloc O) (fun g => g ≠ w.heap.size ∧ (Value.slice (some ⟨wc.heap.size, 0, none⟩) 1 1).ownBlock ≠ some g) (.slice la L.length lc) L) := Lib.hid (fun O => row_in_new HN2.out O)
          have HLE : Hid (([litN x] : List Nd).length + L.length ≤ 1048576) := Lib.hid (by
            have := len_cntL L
            have h9 := h3
            simp only [cnt] at h9
            simp only [List.length_cons, List.length_nil]
            omega)
          have HFR : Hid (∀ O g, (wc.alloc O).heap.size ≤ g → g ≠ w.heap.size) := Lib.hid (fun O g hg => by
            have := hbc.size
            have hz : (wc.alloc O).heap.size = wc.heap.size + 1 := by simp
            have := lt_of_block HBC.out
            omega)
          have HBS : Hid (∀ O, wc.heap.size ≤ (wc.alloc O).heap.size) := Lib.hid (fun O => by
            have hz : (wc.alloc O).heap.size = wc.heap.size + 1 := by simp
            omega)
          have HF : Hid (∀ v4 w4, OwnN w4 (fun g => g ≠ w.heap.size) wc.heap.size v4 ([litN x] ++ L) → (wc.alloc (.cells #[Value.int .i64 1, .string x, .slice none 0 0, .bool false, .bool false, .slice (some ⟨S, 0, none⟩) 1 1, .slice none 0 0] 26)).grownBy w4 (some wc.heap.size) → Lt w w.heap.size l false r (w4.setCell ⟨w.heap.size, 2, none⟩ v4)) := Lib.hid (by
            intro v4 w4 hown hgr
            have hlt9 := lt_of_block HBC.out
            refine lt_row HX.out h1 h2 h3 h4 ((hgr.block _ (by simp; omega) (by simp; omega)).trans (((below1 wc _).block _ hlt9).trans HBC.out)) hown ?_
            exact Below.grown ((h6.trans (hbc.mono h6.size)).trans ((below1 wc _).mono (Nat.le_of_lt hlt9))) hgr (by have := h6.size; have := hbc.size; simp; omega) (fun j e => by simp only [Option.some.injEq] at e; omega))
          have HG : Hid (∀ (v4 : Value) w4, (wc.alloc (.cells #[Value.int .i64 1, .string x, .slice none 0 0, .bool false, .bool false, .slice (some ⟨S, 0, none⟩) 1 1, .slice none 0 0] 26)).grownBy w4 (some wc.heap.size) → w4.cell? ⟨w.heap.size, 2, none⟩ = some (.slice la L.length lc) ∧ w4.frozen? ⟨w.heap.size, 2, none⟩ = false) := Lib.hid (by
            intro v4 w4 hgr
            have hlt9 := lt_of_block HBC.out
            have hb4 := (hgr.block _ (by simp; omega) (by simp; omega)).trans (((below1 wc _).block _ hlt9).trans HBC.out)
            exact ⟨by rw [cell_of_row w4 _ _ _ _ _ hb4]; rfl, frz_of hb4 2⟩)
          clear h1 h2 h3 h4 h6
          go_wp2_with (at_builtin; go_must (refine wpList_append_nd rfl _ _ rfl (fun g => g ≠ w.heap.size) wc.heap.size _ [litN x] rfl (HOWN.out _ rfl) _ L rfl (HROW.out _) HLE.out (HBS.out _) (HFR.out _) ?_); intro v4 w4 hown hgr hat; have HO4 := Lib.hid hown; have HG4 := Lib.hid hgr; have q4 := HG.out v4 w4 hgr; clear hown hgr hat; obtain ⟨q5, q6⟩ := q4; obtain ⟨a4, c4, rfl⟩ := HO4.out.slice)
          go_roundg r
          case measure => omega
          case rel => exact ⟨r, rfl, by omega, by go_num, Lib.hid (HF.out _ _ HO4.out HG4.out), HSZ2⟩
        · have HBA : Hid (∀ O, (wc.alloc O).heap[w.heap.size]? = some (.cells #[.int .i64 k, .string t, .slice la L.length lc, .bool false, .bool false, .slice na no.length nc, .slice ta2 ta.length tc] 26)) := Lib.hid (fun O => ((below1 wc O).block _ (lt_of_block HBC.out)).trans HBC.out)
          go_wp2_with (refine wpList_store_nd w.heap.size _ _ rfl rfl (HBA.out _) rfl rfl rfl ?_)
          go_roundg r
          case measure => omega
          case rel =>
            obtain ⟨h1, h2, h3, h4, h5, h6⟩ := HH.out
            exact ⟨r, rfl, by omega, by go_num, Lib.hid (lt_nest HX.out h1 h2 h3 h4 HBC.out HXN.out HN2.out (h6.trans (hbc.mono h6.size))), HSZ2⟩
    · obtain rfl : r = 0 := by omega
      obtain ⟨k, t, L, no, ta, lv, nv, tv, hB, hN, hlt1, hnt, hcn, hsm, -, hbw, -⟩ := HK.out
      obtain ⟨la, lc, rfl⟩ : ∃ a c, lv = .slice a L.length c := by cases hN with | mk _ _ _ _ _ _ _ _ _ _ cs _ _ hl _ => obtain ⟨a, c, e, -⟩ := hl; exact ⟨a, c, e⟩
      obtain ⟨na, nc, rfl⟩ : ∃ a c, nv = .slice a no.length c := by cases hN with | mk _ _ _ _ _ _ _ _ _ _ cs hl _ _ _ => obtain ⟨a, c, e, -⟩ := hl; exact ⟨a, c, e⟩
      obtain ⟨ta2, tc, rfl⟩ : ∃ a c, tv = .slice a ta.length c := by cases hN with | mk _ _ _ _ _ _ _ _ _ _ cs _ hl _ _ => obtain ⟨a, c, e, -⟩ := hl; exact ⟨a, c, e⟩
      rw [List.drop_zero] at hlt1 hnt
      have hszd : Szd (.mk k t L false false no ta) := ⟨by rw [hnt]; exact HSW.out.2, by rw [hlt1]; exact HSW.out.1⟩
      have hok : OkT (.mk k t L false false no ta) := ⟨by omega, smk_mono (by omega) _ hsm⟩
      have hBl : w.heap.size < wr.heap.size := lt_of_block hB
      have HCELL : Hid (∀ w', Below wr.heap.size wr w' → (w'.cell? ⟨w.heap.size, 0, none⟩ = some (.int .i64 k) ∧ w'.cell? ⟨w.heap.size, 1, none⟩ = some (.string t) ∧ w'.cell? ⟨w.heap.size, 2, none⟩ = some (.slice la L.length lc) ∧ w'.cell? ⟨w.heap.size, 3, none⟩ = some (.bool false) ∧ w'.cell? ⟨w.heap.size, 4, none⟩ = some (.bool false) ∧ w'.cell? ⟨w.heap.size, 5, none⟩ = some (.slice na no.length nc) ∧ w'.cell? ⟨w.heap.size, 6, none⟩ = some (.slice ta2 ta.length tc))) := Lib.hid (fun w' hb => by
        have hb2 := (hb.block _ hBl).trans hB
        refine ⟨?_, ?_, ?_, ?_, ?_, ?_, ?_⟩ <;> rw [cell_of_row w' _ _ _ _ _ hb2] <;> rfl)
      have PL : Hid (∀ W, Below wr.heap.size wr W → Calls Try.prog 8 #[.agg #[.int .i64 k, .string t, .slice la L.length lc, .bool false, .bool false, .slice na no.length nc, .slice ta2 ta.length tc]] W fun e w' => ∃ a c, e = .returned (.slice a l.length c) ∧ Hid (Txs w' wr.heap.size (.slice a l.length c) l) ∧ Below wr.heap.size wr w') := Lib.hid (fun W hb => by
        refine (plits_any (.mk k t L false false no ta) [.int .i64 k, .string t, .slice la L.length lc, .bool false, .bool false, .slice na no.length nc, .slice ta2 ta.length tc] W (hN.nd.bel hb) hok hszd).mono ?_
        rintro e w' ⟨v, rfl, h1, h2⟩
        rw [hlt1] at h1
        obtain ⟨a, c, rfl⟩ := txs_slice h1
        exact ⟨a, c, rfl, Lib.hid (txs_weak h1 hb.size), hb.trans (h2.mono hb.size)⟩)
      have PN : Hid (∀ W, Below wr.heap.size wr W → Calls Try.prog 9 #[.agg #[.int .i64 k, .string t, .slice la L.length lc, .bool false, .bool false, .slice na no.length nc, .slice ta2 ta.length tc]] W fun e w' => ∃ a c, e = .returned (.slice a l.length c) ∧ Hid (Txs w' wr.heap.size (.slice a l.length c) (l.map pct)) ∧ Hid (Below W.heap.size W w') ∧ Below wr.heap.size wr w') := Lib.hid (fun W hb => by
        refine (pnotes_any (.mk k t L false false no ta) [.int .i64 k, .string t, .slice la L.length lc, .bool false, .bool false, .slice na no.length nc, .slice ta2 ta.length tc] W (hN.nd.bel hb) hok hszd).mono ?_
        rintro e w' ⟨v, rfl, h1, h2⟩
        rw [hnt] at h1
        obtain ⟨a, c, rfl⟩ := txs_slice h1
        rw [List.length_map] at h1 ⊢
        exact ⟨a, c, rfl, Lib.hid (txs_weak h1 hb.size), Lib.hid h2, hb.trans (h2.mono hb.size)⟩)
      have HBW := Lib.hid hbw
      have HBd : Hid (Below wr.heap.size wr wr.drew) := Lib.hid (Below.drew (Below.refl _ _))
      have CC := Lib.hid (fun w' (hb : Below wr.heap.size wr w') => (⟨HCELL.out w' hb, Lib.hid hb⟩ : (w'.cell? ⟨w.heap.size, 0, none⟩ = some (.int .i64 k) ∧ w'.cell? ⟨w.heap.size, 1, none⟩ = some (.string t) ∧ w'.cell? ⟨w.heap.size, 2, none⟩ = some (.slice la L.length lc) ∧ w'.cell? ⟨w.heap.size, 3, none⟩ = some (.bool false) ∧ w'.cell? ⟨w.heap.size, 4, none⟩ = some (.bool false) ∧ w'.cell? ⟨w.heap.size, 5, none⟩ = some (.slice na no.length nc) ∧ w'.cell? ⟨w.heap.size, 6, none⟩ = some (.slice ta2 ta.length tc)) ∧ Hid (Below wr.heap.size wr w')))
      obtain ⟨b0, b1, b2, b3, b4, b5, b6⟩ := HCELL.out wr (Below.refl _ _)
      have z1 : ((0 : Nat) : Int) - 1 = -1 := by omega
      rw [z1]
      clear hB hN hlt1 hnt hcn hsm hbw hok hszd z1
      go_wp2_with fail
      go_region_held3 (fun w' => (w'.cell? ⟨w.heap.size, 0, none⟩ = some (.int .i64 k) ∧ w'.cell? ⟨w.heap.size, 1, none⟩ = some (.string t) ∧ w'.cell? ⟨w.heap.size, 2, none⟩ = some (.slice la L.length lc) ∧ w'.cell? ⟨w.heap.size, 3, none⟩ = some (.bool false) ∧ w'.cell? ⟨w.heap.size, 4, none⟩ = some (.bool false) ∧ w'.cell? ⟨w.heap.size, 5, none⟩ = some (.slice na no.length nc) ∧ w'.cell? ⟨w.heap.size, 6, none⟩ = some (.slice ta2 ta.length tc)) ∧ Hid (Below wr.heap.size wr w')) (first | exact CC.out _ ht | exact CC.out _ HBd.out) (first
        | (go_at_call 8; refine (PL.out _ (by first | exact ht | exact HBd.out)).mono ?_; rintro e w4 ⟨aL, cL, rfl, HTL, ht⟩)
        | (go_at_call 9; refine (PN.out _ (by first | exact ht | exact HBd.out)).mono ?_; rintro e w5 ⟨aN, cN, rfl, HTN, HW5, ht⟩))
      have SL : Hid (∀ W, Below w5.heap.size w5 W → StAt W (.slice aL l.length cL) l) := Lib.hid (fun W hb => (txs_st (HTL.out.bel HW5.out)).below hb)
      have SN : Hid (∀ W, Below w5.heap.size w5 W → StAt W (.slice aN l.length cN) (l.map pct)) := Lib.hid (fun W hb => (txs_st HTN.out).below hb)
      have HB5 : Hid (∀ W, Below w5.heap.size w5 W → Below w.heap.size w W) := Lib.hid (fun W hb => (HBW.out.trans (ht.mono HBW.out.size)).trans (hb.mono (Nat.le_trans HBW.out.size ht.size)))
      clear ht HTL HTN HW5 b0 b1 b2 b3 b4 b5 b6 CC HBd PN PL HCELL HBW HK
      have nn : ((l.length : Int) != (l.length : Int)) = false := bne_self_eq_false _
      have l12 : l.length ≤ 12 := by omega
      clear d1 g5
      go_wp2_with fail
      go_loopg [10] l.length (fun gn i wq => ∃ (q : Nat), gn = l.length - q ∧ q ≤ l.length ∧ i = .int .i64 (q : Int) ∧ Hid (Below w5.heap.size w5 wq))
      case atStart => exact ⟨0, rfl, Nat.zero_le _, rfl, Lib.hid (Below.refl _ _)⟩
      case round =>
        obtain ⟨q, hgn, hq, rfl, HB⟩ := hrel
        by_cases hlt : q < l.length
        · obtain ⟨x, hx⟩ : ∃ x, l[q]? = some x := ⟨_, List.getElem?_eq_getElem hlt⟩
          obtain ⟨g, o, rfl, hg, hcx⟩ := HC.out (by omega)
          obtain ⟨aL', cL', eL, hL⟩ := SL.out _ HB.out
          simp only [Value.slice.injEq] at eL
          obtain ⟨rfl, -, rfl⟩ := eL
          obtain ⟨gl, ol, rfl, -, hcl⟩ := hL (by omega)
          obtain ⟨aN', cN', eN, hN⟩ := SN.out _ HB.out
          simp only [Value.slice.injEq] at eN
          obtain ⟨rfl, -, rfl⟩ := eN
          obtain ⟨gn2, on2, rfl, -, hcn⟩ := hN (by simp; omega)
          have c1 := ((HB5.out _ HB.out).cell (p := ⟨g, o + q, none⟩) hg).trans (hcx q x hx)
          have c2 := hcl q x hx
          have c3 := hcn q (pct x) (by rw [List.getElem?_map, hx]; rfl)
          have qn : (q : Int) < (l.length : Int) := by omega
          have hx50 : x.size ≤ 50 := HSZ.out q x (Nat.zero_le _) hx
          have e1 : (x.toList != x.toList) = false := bne_self_eq_false _
          have e2 : ((pct x).toList == ({ data := #[37] } ++ x).toList) = true := beq_self_eq_true (pct x).toList
          clear hcx hcl hcn hL hN hx
          go_wp2_with fail
          go_quiet (fail)
          have HB9 : Hid (Below w5.heap.size w5 (wr.drewN nq)) := Lib.hid (HB.out.trans ((drew_below wr nq).mono HB.out.size))
          go_wp2_with fail
          go_roundg (l.length - (q + 1))
          case measure => omega
          case rel => exact ⟨q + 1, rfl, hlt, by go_num, HB9⟩
        · obtain rfl : q = l.length := by omega
          go_wp2_with fail
          refine (told10_any _).mono ?_
          rintro e w9 ⟨rfl, hb9⟩
          have HB9 : Hid (Below w.heap.size w w9) := Lib.hid ((HB5.out _ HB.out).trans (hb9.mono (HB5.out _ HB.out).size))
          clear hb9
          go_wp2_with fail
          go_ret
          exact ⟨rfl, HB9.out⟩
set_option maxRecDepth 100000 in
theorem lifted (os : Os) (started : os.Started) (H : Type) (enc : TypeId × Value → H) :
    ReturnsInHanded {} Try.checked os 3 .any (Rows.treeLitsSpec.pre6 enc Try.prog Try.f3 Rows.treeLitsRow.domain false) (Rows.treeLitsSpec.post enc Try.prog Try.f3 false true false false) := by
  refine returnsInHanded_of_change_sized (C := Try.checked) ownKnobNone started (by kernel_rfl) Try.func3
    (ChangeSpec.witness6 (enc := enc) (C := Try.checked) false ⟨#[], #[.slice none 0 0, .bool false], []⟩ 8 (by kernel_rfl) (by kernel_rfl) (by kernel_rfl) (by kernel_rfl)) ?_
  intro W base args ds gs before hval0 hW _ hz0 _
  have hval : ∀ (j : Nat) t v, Try.f3.params[j]? = some t → args[j]? = some v → Value.okWide Try.prog W .any base t v := hval0
  have hW' := hW
  obtain ⟨p, q, hA0, hV, rfl, hfz, hnd⟩ := hW
  have hA : DataW.TrodAll enc Try.prog W 0 (fun _ => true) true Try.f3.params.toList args.toList ds p := hA0
  rw [Try.params3] at hA hval
  obtain ⟨v0, vs0, d0, ds0, p0, q0, hargs, rfl, rfl, h0, r0⟩ := trodAll_cons hA
  obtain ⟨v1, vs1, d1, ds1, p1, q1, rfl, rfl, rfl, h1, r1⟩ := trodAll_cons r0
  obtain ⟨rfl, rfl, rfl⟩ := trodAll_nil r1
  obtain rfl : args = #[v0, v1] := by cases args; simp_all
  obtain ⟨rfl, rfl⟩ := trodVars_none hV
  have hz0' : ∀ m ∈ d0.weights Try.prog 22, m ≤ reachBytes := fun m hm => by simpa using List.all_eq_true.1 hz0 m (DataW.weights_mem_each (j := 0) (by rw [Try.params3]; rfl) rfl m hm)
  have hz1' : ∀ m ∈ d1.weights Try.prog 4, m ≤ reachBytes := fun m hm => by simpa using List.all_eq_true.1 hz0 m (DataW.weights_mem_each (j := 1) (by rw [Try.params3]; rfl) rfl m hm)
  obtain ⟨a0, len0, cap0, rfl⟩ := okWide_slice Try.underlying22 (hval 0 22 v0 rfl rfl)
  have k0 := h0
  have lt0 : ∀ x ∈ p0, x.block < W.heap.size := by obtain ⟨m, hm⟩ := k0; exact DataW.trod_lt m _ _ _ hm
  obtain ⟨z0, w0, s0⟩ : ∃ T : List ByteArray, StAt W (.slice a0 len0 cap0) T ∧ ∀ x ∈ T, Sr x := by
    obtain ⟨fuel, hf⟩ := h0
    exact strs_st hf hz0'
  obtain ⟨a1, rfl, rfl, rfl⟩ := open_bool Try.underlying4 (hval 1 4 v1 rfl rfl) h1
  clear hA0 hval0
  refine (walk (.slice a0 len0 cap0) z0 a1 W w0 s0).mono fun e W' ⟨he, bel⟩ => ?_
  subst he
  exact ⟨_, rfl, _, _, _, [], _, [], hW', trodAll_mk1 (shut_bool Try.underlying4 _), (trodAll_cons_mk (Below.trod laidOutP (by kernel_rfl) (of_decide_eq_true (by kernel_rfl)) k0 bel lt0) (trodAll_cons_mk (shut_bool Try.underlying4 _) trodAll_mk0)), rfl, bel.frame _, fun h => by cases h⟩
theorem over : Rows.TreeLitsSaid :=
  OpenClaim.holds_of_wide 3 Try.f3 rfl rfl rfl rfl rfl rfl rfl ⟨rfl, rfl, rfl, rfl, rfl⟩ rfl rfl rfl rfl rfl (by kernel_rfl) Try.func3 (by kernel_rfl)
    (of_decide_eq_true (by kernel_rfl)) (by unfold Func.isWrapper; first | (rw [if_pos (by decide +kernel)]; kernel_rfl) | (rw [if_neg (by decide +kernel)]; exact ⟨rfl, rfl⟩))
    (fun os started H enc _ => lifted os started H enc)
/-- THE STATEMENT. -/
theorem proved : Rows.TreeLitsSaid := over
#print axioms proved
end Go.Proofs.Ytkdaombcbcegfaa.treeLits
