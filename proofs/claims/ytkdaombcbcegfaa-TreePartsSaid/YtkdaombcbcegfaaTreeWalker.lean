/-
  THE PROGRAM's walker: the closure that it makes.
-/
import Derived.Test.YtkdaombcbcegfaaTreeWk
namespace Go.Proofs.Ytkdaombcbcegfaa
open Go.RowKit Go.PlainAid

/-- What holds the root alone. -/
def dum (n : Nd) : Nd := .mk 0 ⟨#[]⟩ [n] false false [] []
/-- Where a walk's nodes lie: in old blocks, or in the two that it makes. -/
def Pk (B s g : Nat) : Prop := g < B ∨ g = s + 2 ∨ g = s + 3
theorem wk_new (w : World) (B : Nat) (hB : B ≤ w.heap.size) (n : Nd) (c : List Value) (hn : NdIn w (fun g => g < B) c n) (hc : cnt n ≤ 1000000) (hs : smk 100 n) (lf : Value) (W : World)
    (hW : W = ((((((w.alloc (.cells c.toArray 26)).alloc (.cells #[lf] 40)).alloc (.cells c.toArray 26)).alloc (.cells #[.int .i64 0, .string { data := #[] }, .slice (some ⟨w.heap.size + 1 + 1, 0, none⟩) 1 1, .bool false, .bool false, .slice none 0 0, .slice none 0 0] 26)).alloc (.cells #[.pointer (some ⟨w.heap.size + 1 + 1 + 1, 0, none⟩), .int .i64 0] 49)).alloc (.cells #[.slice (some ⟨w.heap.size + 1 + 1 + 1 + 1, 0, none⟩) 1 1] 50))) :
    Below w.heap.size w W ∧ Wk W (Pk B w.heap.size) w.heap.size lf (.slice (some ⟨w.heap.size + 1 + 1 + 1 + 1, 0, none⟩) 1 1) [⟨dum n, 0, w.heap.size + 3, 0⟩] := by
  have hb : Below w.heap.size w W := by
    rw [hW]
    repeat' (first | exact Below.refl _ _ | refine Below.alloc ?_ ?_ _ | (simp; omega) | simp)
  have hsz : W.heap.size = w.heap.size + 6 := by rw [hW]; simp
  have e1 : W.heap[w.heap.size + 1]? = some (.cells #[lf] 40 (0, 0)) := by
    rw [hW]; show ((((((w.heap.push _).push _).push _).push _).push _).push _)[w.heap.size + 1]? = _
    rw [Array.getElem?_push, if_neg (by simp), Array.getElem?_push, if_neg (by simp), Array.getElem?_push, if_neg (by simp), Array.getElem?_push, if_neg (by simp), Array.getElem?_push, if_pos (by simp)]
  have e2 : W.heap[w.heap.size + 2]? = some (.cells c.toArray 26 (0, 0)) := by
    rw [hW]; show ((((((w.heap.push _).push _).push _).push _).push _).push _)[w.heap.size + 2]? = _
    rw [Array.getElem?_push, if_neg (by simp), Array.getElem?_push, if_neg (by simp), Array.getElem?_push, if_neg (by simp), Array.getElem?_push, if_pos (by simp)]
  have e3 : W.heap[w.heap.size + 3]? = some (.cells #[.int .i64 0, .string { data := #[] }, .slice (some ⟨w.heap.size + 1 + 1, 0, none⟩) 1 1, .bool false, .bool false, .slice none 0 0, .slice none 0 0] 26 (0, 0)) := by
    rw [hW]; show ((((((w.heap.push _).push _).push _).push _).push _).push _)[w.heap.size + 3]? = _
    rw [Array.getElem?_push, if_neg (by simp), Array.getElem?_push, if_neg (by simp), Array.getElem?_push, if_pos (by simp)]
  have e4 : W.heap[w.heap.size + 4]? = some (.cells #[.pointer (some ⟨w.heap.size + 1 + 1 + 1, 0, none⟩), .int .i64 0] 49 (0, 0)) := by
    rw [hW]; show ((((((w.heap.push _).push _).push _).push _).push _).push _)[w.heap.size + 4]? = _
    rw [Array.getElem?_push, if_neg (by simp), Array.getElem?_push, if_pos (by simp)]
  have e5 : W.heap[w.heap.size + 5]? = some (.cells #[.slice (some ⟨w.heap.size + 1 + 1 + 1 + 1, 0, none⟩) 1 1] 50 (0, 0)) := by
    rw [hW]; show ((((((w.heap.push _).push _).push _).push _).push _).push _)[w.heap.size + 5]? = _
    rw [Array.getElem?_push, if_pos (by simp)]
  have hnW : NdIn W (Pk B w.heap.size) c n := (hn.keep (keeps_below hb)).weak (fun g hg _ => .inl hg)
  have hd : NIn W (Pk B w.heap.size) (w.heap.size + 3) 0 (dum n) := by
    refine ⟨.inr (.inr rfl), by omega, _, .mk 0 ⟨#[]⟩ [n] false false [] [] (.slice (some ⟨w.heap.size + 1 + 1, 0, none⟩) 1 1) (.slice none 0 0) (.slice none 0 0) (fun _ => c) ⟨none, 0, rfl, fun h => absurd h (by simp)⟩ ⟨none, 0, rfl, fun h => absurd h (by simp)⟩ ⟨_, 1, rfl, fun _ => ⟨w.heap.size + 2, 0, rfl, .inr (.inl rfl), by omega, fun i hi j x hx => ?_⟩⟩ (fun i x hx => ?_), fun j u hj => ?_⟩
    · have : i = 0 := by simp at hi; exact hi
      subst this
      rw [cell_of_row W _ _ _ _ _ e2, Nat.zero_mul, Nat.add_zero, Nat.zero_add]
      simpa using hx
    · match i, hx with
      | 0, hx => cases hx; exact hnW
      | i + 1, hx => simp at hx
    · rw [cell_of_row W _ _ _ _ _ e3, Nat.zero_add]
      simpa using hj
  refine ⟨hb, e5, e1, ⟨rfl, .inr ⟨w.heap.size + 4, 1, _, rfl, Nat.le_refl _, e4, Nat.le_refl _, by unfold maxLen; omega, rfl, rfl⟩⟩, ?_, ?_, ?_, ?_, ?_⟩
  · simp only [Value.ownBlock, ne_eq, Option.some.injEq]; omega
  · intro f hf
    simp only [List.mem_cons, List.not_mem_nil, or_false] at hf
    subst hf
    exact hd
  · intro f hf
    simp only [List.mem_cons, List.not_mem_nil, or_false] at hf
    subst hf
    simp only [dum, cnt, cntL, smk, smkL]
    exact ⟨by omega, by simp, by simp, hs, trivial⟩
  · simp only [remC, todo_zero, dum, pts, cntL, List.length_cons, List.length_nil]
    omega
  · intro g hg
    rcases hg with h | h | h <;> omega
set_option maxRecDepth 100000 in
theorem walker_any (n : Nd) (c : List Value) (w : World) (B : Nat) (hB : B ≤ w.heap.size) (hn : NdIn w (fun g => g < B) c n) (hc : cnt n ≤ 1000000) (hs : smk 100 n) (fn : Fn) (fst cap : Array Value) :
    Calls Try.prog 23 #[.agg c.toArray, .func fn fst cap] w fun e w' => e = .returned (.func (.func 33) #[] #[.pointer (some ⟨w.heap.size + 5, 0, none⟩), .pointer (some ⟨w.heap.size + 1, 0, none⟩)]) ∧ Below w.heap.size w w' ∧ ∃ v, Wk w' (Pk B w.heap.size) w.heap.size (.func fn fst cap) v [⟨dum n, 0, w.heap.size + 3, 0⟩] := by
  have HN := Lib.hid (fun W hW => wk_new w B hB n c hn hc hs (.func fn fst cap) W hW)
  cases n with
  | mk k t l br bl no ta =>
    cases hn with
    | mk _ _ _ _ _ _ _ lv nv tv cs h1 h2 h3 h4 =>
      go_enter Try.func23, Try.ntmps23
      go_wp2_with fail
      go_ret
      obtain ⟨k1, k2⟩ := HN.out _ rfl
      exact ⟨rfl, k1, _, k2⟩
end Go.Proofs.Ytkdaombcbcegfaa
