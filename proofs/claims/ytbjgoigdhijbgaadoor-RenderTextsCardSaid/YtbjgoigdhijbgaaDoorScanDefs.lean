/-
  What the walks to tokens speak of: a token as a value, the row of tokens that a call owns.
-/
import Derived.Test.YtbjgoigdhijbgaaDoorScanPure
import Derived.Test.YtbjgoigdhijbgaaDoorAid
import Derived.OwnWalk
import Derived.WalkSpells
set_option linter.all false
namespace Go.Proofs.YtbjgoigdhijbgaaDoor
open Go.RowKit Go.PlainAid

theorem bl_cases {c : Int} (h : bl c = true) : (c == 32) = true ∨ ((c == 32) = false ∧ (c == 9) = true) ∨ ((c == 32) = false ∧ (c == 9) = false ∧ (c == 10) = true) ∨ ((c == 32) = false ∧ (c == 9) = false ∧ (c == 10) = false ∧ (c == 13) = true) := by
  unfold bl at h
  cases h1 : (c == 32) <;> cases h2 : (c == 9) <;> cases h3 : (c == 10) <;> cases h4 : (c == 13) <;> simp_all
theorem bl_none {c : Int} (h : bl c = false) : (c == 32) = false ∧ (c == 9) = false ∧ (c == 10) = false ∧ (c == 13) = false := by
  unfold bl at h
  cases h1 : (c == 32) <;> cases h2 : (c == 9) <;> cases h3 : (c == 10) <;> cases h4 : (c == 13) <;> simp_all
theorem tb_cases {c : Int} (h : tb c = true) : (c == 32) = true ∨ ((c == 32) = false ∧ (c == 9) = true) ∨ ((c == 32) = false ∧ (c == 9) = false ∧ (c == 13) = true) := by
  unfold tb at h
  cases h1 : (c == 32) <;> cases h2 : (c == 9) <;> cases h4 : (c == 13) <;> simp_all
theorem tb_none {c : Int} (h : tb c = false) : (c == 32) = false ∧ (c == 9) = false ∧ (c == 13) = false := by
  unfold tb at h
  cases h1 : (c == 32) <;> cases h2 : (c == 9) <;> cases h4 : (c == 13) <;> simp_all
theorem tr_step {s : ByteArray} {n : Nat} : tr s 0 (n + 1) = if tb (bt s n) = true then tr s 0 n else n + 1 := by
  simp only [tr]
  by_cases h : tb (bt s n) = true
  · rw [if_pos ⟨by omega, h⟩, if_pos h]
  · rw [if_neg (fun h' => h h'.2), if_neg h]
/-- What a call that asks for a token answers. -/
def tokV (s : ByteArray) (p : Nat) (x : Int × Nat) : Value :=
  if x.1 = 0 then .tuple #[.agg #[.int .i64 0, .string ⟨#[]⟩, .int .i64 0], .int .i64 4] else .tuple #[.agg #[.int .i64 x.1, .string (s.extract p x.2), .int .i64 p], .int .i64 0]
theorem tr_ext {s : ByteArray} {a : Nat} : ∀ n, a + n ≤ s.size → ∀ E, a + n ≤ E → E ≤ s.size → tr (s.extract a E) 0 n + a = tr s a (a + n)
  | 0, _, _, _, _ => by
    have := tr_spec s a a
    have h1 := this.1
    have h2 := this.2.1 (Nat.le_refl _)
    show 0 + a = tr s a a
    omega
  | n + 1, h, E, h1, h2 => by
    have ih := tr_ext (s := s) (a := a) n (by omega) E (by omega) h2
    have hb := bt_ext s a E n h2 (by omega)
    rw [tr_step, hb, show a + (n + 1) = (a + n) + 1 by omega]
    show _ = if a < a + n + 1 ∧ tb (bt s (a + n)) = true then tr s a (a + n) else a + n + 1
    by_cases c : tb (bt s (a + n)) = true
    · rw [if_pos c, if_pos ⟨by omega, c⟩]; exact ih
    · rw [if_neg c, if_neg (fun h => c h.2)]; omega
theorem trim_ext {s : ByteArray} {a E : Nat} (h : a ≤ E) (hE : E ≤ s.size) : (s.extract a E).extract 0 (tr (s.extract a E) 0 (s.extract a E).size) = s.extract a (tr s a E) := by
  have hz := size_ext s a E hE
  have ht := tr_ext (s := s) (a := a) (E - a) (by omega) E (by omega) hE
  rw [show a + (E - a) = E by omega] at ht
  have h1 := (tr_spec s a E).1
  rw [hz]
  apply ByteArray.ext
  rw [ByteArray.data_extract, ByteArray.data_extract, ByteArray.data_extract, Array.extract_extract, Nat.add_zero]
  congr 1
  rw [← ht]
  omega
/-- What a call that asks for a token answers, by cases. -/
theorem tokV_no (s : ByteArray) (p : Nat) {x : Int × Nat} (h : x.1 = 0) : tokV s p x = .tuple #[.agg #[.int .i64 0, .string ⟨#[]⟩, .int .i64 0], .int .i64 4] := by unfold tokV; rw [if_pos h]
theorem tokV_ok (s : ByteArray) (p : Nat) {x : Int × Nat} (h : x.1 ≠ 0) : tokV s p x = .tuple #[.agg #[.int .i64 x.1, .string (s.extract p x.2), .int .i64 p], .int .i64 0] := by unfold tokV; rw [if_neg h]
theorem one_37 {s : ByteArray} {k : Nat} (h : bt s k = 37) : one s k = (11, tr s k (ix s 10 k)) := by unfold one; rw [if_pos h]
theorem one_dot {s : ByteArray} {k : Nat} (h : bt s k = 46) (h2 : k + 1 = s.size ∨ bt s (k + 1) = 37 ∨ k + 1 < fw bl s (k + 1)) : one s k = (10, k + 1) := by unfold one; rw [if_neg (by omega), if_pos ⟨h, h2⟩]
theorem one_num {s : ByteArray} {k : Nat} (h : beg (bt s k) = 3) : one s k = num s k := by
  have h0 : bt s k ≠ 37 := fun e => by rw [e] at h; exact absurd h (by decide)
  have h1 : bt s k ≠ 46 := fun e => by rw [e] at h; exact absurd h (by decide)
  unfold one; rw [if_neg h0, if_neg (fun g => h1 g.1), if_pos h]
theorem one_name {s : ByteArray} {k : Nat} (h : beg (bt s k) ≠ 3) (h2 : 0 < beg (bt s k)) : one s k = (if rs (s.extract k (fw inn s k)) = true then 8 else beg (bt s k), fw inn s k) := by
  have h0 : bt s k ≠ 37 := fun e => by rw [e] at h2; exact absurd h2 (by decide)
  have h1 : bt s k ≠ 46 := fun e => by rw [e] at h2; exact absurd h2 (by decide)
  unfold one; rw [if_neg h0, if_neg (fun g => h1 g.1), if_neg h, if_pos h2]
theorem one_39 {s : ByteArray} {k : Nat} (h : bt s k = 39) : one s k = tk 1 (qx s 39 (k + 1)) := by
  unfold one; rw [if_neg (by omega), if_neg (by omega), if_neg (by rw [h]; decide), if_neg (by rw [h]; decide), if_pos h]
theorem one_34 {s : ByteArray} {k : Nat} (h : bt s k = 34) : one s k = tk 6 (qx s 34 (k + 1)) := by
  unfold one; rw [if_neg (by omega), if_neg (by omega), if_neg (by rw [h]; decide), if_neg (by rw [h]; decide), if_neg (by omega), if_pos h]
theorem one_36 {s : ByteArray} {k : Nat} (h : bt s k = 36) : one s k = tk 5 (che s k) := by
  unfold one; rw [if_neg (by omega), if_neg (by omega), if_neg (by rw [h]; decide), if_neg (by rw [h]; decide), if_neg (by omega), if_neg (by omega), if_pos h]
theorem one_63 {s : ByteArray} {k : Nat} (h : bt s k = 63) : one s k = if fst (bt s (mcb s k)) = true then (7, fw inn s (mcb s k)) else (0, 0) := by
  unfold one; rw [if_neg (by omega), if_neg (by omega), if_neg (by rw [h]; decide), if_neg (by rw [h]; decide), if_neg (by omega), if_neg (by omega), if_neg (by omega), if_pos h]
theorem one_sign {s : ByteArray} {k : Nat} (h1 : bt s k ≠ 37) (h2 : ¬ (bt s k = 46 ∧ (k + 1 = s.size ∨ bt s (k + 1) = 37 ∨ k + 1 < fw bl s (k + 1)))) (h3 : beg (bt s k) = 0) (h4 : bt s k ≠ 39) (h5 : bt s k ≠ 34) (h6 : bt s k ≠ 36) (h7 : bt s k ≠ 63) :
    one s k = if lgL (s.data.toList.drop k) = 0 then (0, 0) else (9, k + lgL (s.data.toList.drop k)) := by
  unfold one; rw [if_neg h1, if_neg h2, if_neg (by omega), if_neg (by omega), if_neg h4, if_neg h5, if_neg h6, if_neg h7]
/-- A token's cells. -/
def tkc (s : ByteArray) (x : Tk3) : List Value := [.int .i64 x.1, .string (s.extract x.2.1 x.2.2), .int .i64 x.2.1]
def tkcs (s : ByteArray) (l : List Tk3) : List Value := l.flatMap (tkc s)
/-- What Scan answers: its tokens, and its error. -/
def scanR (s : ByteArray) : List Tk3 × Int :=
  if 65536 < s.size then ([], 3) else if vd s 0 = false then ([], 2) else match sc s (fw bl s 0) with
    | none => ([], 4)
    | some l => (l, 0)
theorem own_bel {w w' : World} {base : Nat} {e : TypeId} {size : Nat} {v : Value} {n : Nat} {xs : List Value} (h : w.ownsRow base e size v n xs) (hb : Below w.heap.size w w') : w'.ownsRow base e size v n xs := by
  obtain ⟨h1, h2 | ⟨g, cap, cur, h3, h4, h5, h6⟩⟩ := h
  · exact ⟨h1, .inl h2⟩
  · refine ⟨h1, .inr ⟨g, cap, cur, h3, h4, ?_, h6⟩⟩
    rw [hb.block g (by have := (Array.getElem?_eq_some_iff.1 h5).1; exact this)]
    exact h5
theorem tkcs_app (s : ByteArray) (L : List Tk3) (x : Tk3) : tkcs s (L ++ [x]) = tkcs s L ++ tkc s x := by unfold tkcs; rw [List.flatMap_append]; simp
/-- The token's own block behind an append. -/
theorem keep_tok {w1 w2 : World} {v : Value} {T : Nat} {cs : Array Value} {t : TypeId} (hT : some T ≠ v.ownBlock) (h : w1.heap[T]? = some (.cells cs t (0, 0))) (o : Obj) (hg : (w1.alloc o).grownBy w2 v.ownBlock) : w2.heap[T]? = some (.cells cs t (0, 0)) := by
  have hlt := (Array.getElem?_eq_some_iff.1 h).1
  rw [hg.block T (by simp; omega) hT, ← h]
  show (w1.heap.push o)[T]? = w1.heap[T]?
  rw [Array.getElem?_push_lt hlt]
  simp [hlt]
theorem cells_three_new (w : World) (x y z : Value) (t : TypeId) : ∀ j u, [x, y, z][j]? = some u → (w.alloc (.cells #[x, y, z] t)).cell? ((⟨w.heap.size, 0, none⟩ : Addr).add j) = some u := by
  intro j u hj
  match j, hj with
  | 0, hj => simp at hj; subst hj; simp [Addr.add]
  | 1, hj => simp at hj; subst hj; simp [Addr.add]
  | 2, hj => simp at hj; subst hj; simp [Addr.add]
  | j + 3, hj => simp at hj
end Go.Proofs.YtbjgoigdhijbgaaDoor
