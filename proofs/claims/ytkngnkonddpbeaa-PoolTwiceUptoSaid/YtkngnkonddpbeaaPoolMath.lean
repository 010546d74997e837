/-
  A pool of trees, plainly: what has the numbers from 1 on; what is put twice; who is like whom.
-/
import Derived.Test.YtkngnkonddpbeaaTreeMath
namespace Go.Proofs.Ytkngnkonddpbeaa
open Go.RowKit Go.PlainAid

mutual
/-- Put: what the pool holds behind it. -/
def pad : Nd → List Nd → List Nd
  | .mk k t l br bl no ta, xs => if (padL l xs).any (fun x => lk false x (.mk k t l br bl no ta)) then padL l xs else padL l xs ++ [.mk k t l br bl no ta]
def padL : List Nd → List Nd → List Nd
  | [], xs => xs
  | x :: t, xs => padL t (pad x xs)
end
def kds' : Nd → List Nd
  | .mk _ _ l _ _ _ _ => l
/-- The number. -/
def pidx (n : Nd) (xs : List Nd) : Nat := (padL (kds' n) xs).findIdx (fun x => lk false x n) + 1
mutual
theorem lk_refl' (all : Bool) : ∀ n : Nd, lk all n n = true
  | .mk k t l br bl no ta => by
    simp only [lk, beq_self_eq_true, decide_true, Bool.and_true, Bool.true_and, lkL_refl' all l]
    cases all <;> rfl
theorem lkL_refl' (all : Bool) : ∀ l : List Nd, lkL all l l = true
  | [] => by simp only [lkL]
  | x :: t => by simp only [lkL, lk_refl' all x, lkL_refl' all t, Bool.and_self]
end
mutual
theorem lk_comm' (all : Bool) : ∀ n m : Nd, lk all n m = lk all m n
  | .mk k t l br bl no ta, .mk k' t' l' br' bl' no' ta' => by
    simp only [lk]
    rw [lkL_comm' all l l', BEq.comm (a := k), BEq.comm (a := t.toList), BEq.comm (a := bl), BEq.comm (a := br), decide_eq_decide.2 (show no = no' ↔ no' = no from ⟨Eq.symm, Eq.symm⟩), decide_eq_decide.2 (show ta = ta' ↔ ta' = ta from ⟨Eq.symm, Eq.symm⟩)]
theorem lkL_comm' (all : Bool) : ∀ l m : List Nd, lkL all l m = lkL all m l
  | [], [] => rfl
  | [], _ :: _ => by simp only [lkL]
  | _ :: _, [] => by simp only [lkL]
  | x :: t, y :: u => by
    simp only [lkL]
    rw [lk_comm' all x y, lkL_comm' all t u]
end
mutual
theorem lk_trans : ∀ a b c : Nd, lk false a b = true → lk false b c = true → lk false a c = true
  | .mk k t l br bl no ta, .mk k' t' l' br' bl' no' ta', .mk k2 t2 l2 br2 bl2 no2 ta2, h1, h2 => by
    simp only [lk, Bool.and_eq_true, Bool.not_false, Bool.true_or, and_true, beq_iff_eq, decide_eq_true_eq] at h1 h2 ⊢
    obtain ⟨⟨⟨⟨⟨a1, a2⟩, a3⟩, a4⟩, a5⟩, a6⟩ := h1
    obtain ⟨⟨⟨⟨⟨b1, b2⟩, b3⟩, b4⟩, b5⟩, b6⟩ := h2
    exact ⟨⟨⟨⟨⟨a1.trans b1, a2.trans b2⟩, a3.trans b3⟩, a4.trans b4⟩, a5.trans b5⟩, lkL_trans l l' l2 a6 b6⟩
theorem lkL_trans : ∀ a b c : List Nd, lkL false a b = true → lkL false b c = true → lkL false a c = true
  | [], [], [], _, _ => by simp only [lkL]
  | [], [], _ :: _, _, h => by simp only [lkL] at h; cases h
  | [], _ :: _, _, h, _ => by simp only [lkL] at h; cases h
  | _ :: _, [], _, h, _ => by simp only [lkL] at h; cases h
  | _ :: _, _ :: _, [], _, h => by simp only [lkL] at h; cases h
  | x :: t, y :: u, z :: v, h1, h2 => by
    simp only [lkL, Bool.and_eq_true] at h1 h2 ⊢
    exact ⟨lk_trans x y z h1.1 h2.1, lkL_trans t u v h1.2 h2.2⟩
end
theorem lk_cong {a b : Nd} (h : lk false a b = true) (c : Nd) : lk false c a = lk false c b := by
  cases h1 : lk false c a <;> cases h2 : lk false c b
  · rfl
  · have := lk_trans c b a h2 (by rw [lk_comm']; exact h)
    rw [h1] at this; cases this
  · have := lk_trans c a b h1 h
    rw [h2] at this; cases this
  · rfl
theorem lk_kids {a b : Nd} (h : lk false a b = true) : lkL false (kds' a) (kds' b) = true := by
  cases a; cases b
  simp only [lk, Bool.and_eq_true] at h
  exact h.2
mutual
theorem lk_cnt : ∀ a b : Nd, lk false a b = true → cnt a = cnt b
  | .mk _ _ l _ _ _ _, .mk _ _ l' _ _ _ _, h => by
    simp only [lk, Bool.and_eq_true] at h
    simp only [cnt]
    rw [lkL_cnt l l' h.2]
theorem lkL_cnt : ∀ a b : List Nd, lkL false a b = true → cntL a = cntL b
  | [], [], _ => rfl
  | [], _ :: _, h => by simp only [lkL] at h; cases h
  | _ :: _, [], h => by simp only [lkL] at h; cases h
  | x :: t, y :: u, h => by
    simp only [lkL, Bool.and_eq_true] at h
    simp only [cntL]
    rw [lk_cnt x y h.1, lkL_cnt t u h.2]
end
/-- There is one like it. -/
def has (xs : List Nd) (n : Nd) : Bool := xs.any (fun x => lk false x n)
theorem has_iff {xs : List Nd} {n : Nd} : has xs n = true ↔ ∃ (i : Nat) (x : Nd), xs[i]? = some x ∧ lk false x n = true := by
  unfold has
  rw [List.any_eq_true]
  constructor
  · rintro ⟨x, hm, h⟩
    obtain ⟨i, hi, rfl⟩ := List.getElem_of_mem hm
    exact ⟨i, _, List.getElem?_eq_getElem hi, h⟩
  · rintro ⟨i, x, hx, h⟩
    exact ⟨x, List.mem_of_getElem? hx, h⟩
theorem has_cong {a b : Nd} (h : lk false a b = true) (xs : List Nd) : has xs a = has xs b := by
  unfold has
  congr 1
  funext c
  exact lk_cong h c
theorem has_app (xs ys : List Nd) (n : Nd) : has (xs ++ ys) n = (has xs n || has ys n) := List.any_append
theorem pad_eq (n : Nd) (xs : List Nd) : pad n xs = if has (padL (kds' n) xs) n then padL (kds' n) xs else padL (kds' n) xs ++ [n] := by
  cases n with
  | mk k t l br bl no ta =>
    simp only [pad, kds', has]
    rfl
mutual
theorem pad_pre : ∀ (n : Nd) (xs : List Nd), ∃ ys, pad n xs = xs ++ ys
  | .mk k t l br bl no ta, xs => by
    obtain ⟨ys, h⟩ := padL_pre l xs
    simp only [pad]
    split
    · exact ⟨ys, h⟩
    · exact ⟨ys ++ [_], by rw [h, List.append_assoc]⟩
theorem padL_pre : ∀ (l xs : List Nd), ∃ ys, padL l xs = xs ++ ys
  | [], xs => ⟨[], by simp only [padL, List.append_nil]⟩
  | x :: t, xs => by
    obtain ⟨y1, h1⟩ := pad_pre x xs
    obtain ⟨y2, h2⟩ := padL_pre t (pad x xs)
    exact ⟨y1 ++ y2, by simp only [padL]; rw [h2, h1, List.append_assoc]⟩
end
mutual
theorem pad_len : ∀ (n : Nd) (xs : List Nd), (pad n xs).length ≤ xs.length + cnt n
  | .mk k t l br bl no ta, xs => by
    have h := padL_len l xs
    simp only [pad, cnt]
    split
    · omega
    · simp only [List.length_append, List.length_cons, List.length_nil]; omega
theorem padL_len : ∀ (l xs : List Nd), (padL l xs).length ≤ xs.length + cntL l
  | [], xs => by simp only [padL, cntL]; omega
  | x :: t, xs => by
    have h1 := pad_len x xs
    have h2 := padL_len t (pad x xs)
    simp only [padL, cntL]; omega
end
/-- The parts of what it holds are in it, ahead; no two are like. -/
def Pk (xs : List Nd) : Prop :=
  (∀ (i : Nat) (x : Nd), xs[i]? = some x → ∀ y ∈ kds' x, has (xs.take i) y = true) ∧ (∀ (i j : Nat) (x y : Nd), i < j → xs[i]? = some x → xs[j]? = some y → lk false x y = false)
theorem pk_nil : Pk [] := ⟨fun i x h => by simp at h, fun i j x y _ h => by simp at h⟩
theorem has_pre {xs ys : List Nd} {n : Nd} (h : has xs n = true) : has (xs ++ ys) n = true := by rw [has_app, h, Bool.true_or]
theorem has_last (xs : List Nd) (n : Nd) : has (xs ++ [n]) n = true := by rw [has_app]; unfold has; simp [lk_refl']
theorem pad_has (n : Nd) (xs : List Nd) : has (pad n xs) n = true := by
  rw [pad_eq]
  split
  · assumption
  · exact has_last _ _
theorem has_pad {xs : List Nd} {y : Nd} (n : Nd) (h : has xs y = true) : has (pad n xs) y = true := by
  obtain ⟨ys, e⟩ := pad_pre n xs
  rw [e]; exact has_pre h
theorem has_padL {xs : List Nd} {y : Nd} (l : List Nd) (h : has xs y = true) : has (padL l xs) y = true := by
  obtain ⟨ys, e⟩ := padL_pre l xs
  rw [e]; exact has_pre h
theorem padL_has : ∀ (l xs : List Nd) (y : Nd), y ∈ l → has (padL l xs) y = true
  | x :: t, xs, y, h => by
    simp only [padL]
    rcases List.mem_cons.1 h with rfl | h
    · exact has_padL t (pad_has y xs)
    · exact padL_has t (pad x xs) y h
mutual
theorem pk_pad : ∀ (n : Nd) (xs : List Nd), Pk xs → Pk (pad n xs)
  | .mk k t l br bl no ta, xs, h => by
    have h1 := pk_padL l xs h
    have hh := padL_has l xs
    simp only [pad]
    split
    · exact h1
    · rename_i hn
      have hn : has (padL l xs) (.mk k t l br bl no ta) = false := by
        unfold has
        simpa using hn
      obtain ⟨g1, g2⟩ := h1
      refine ⟨fun i x hx y hy => ?_, fun i j x y hij hx hy => ?_⟩
      · by_cases hi : i < (padL l xs).length
        · rw [List.getElem?_append_left hi] at hx
          rw [List.take_append_of_le_length (by omega)]
          exact g1 i x hx y hy
        · have hlt : i < (padL l xs ++ [Nd.mk k t l br bl no ta]).length := (List.getElem?_eq_some_iff.1 hx).1
          simp only [List.length_append, List.length_cons, List.length_nil] at hlt
          obtain rfl : i = (padL l xs).length := by omega
          rw [List.getElem?_append_right (Nat.le_refl _), Nat.sub_self] at hx
          simp only [List.getElem?_cons_zero, Option.some.injEq] at hx
          subst hx
          rw [List.take_append_of_le_length (Nat.le_refl _), List.take_length]
          exact hh y hy
      · have hlt : j < (padL l xs ++ [Nd.mk k t l br bl no ta]).length := (List.getElem?_eq_some_iff.1 hy).1
        simp only [List.length_append, List.length_cons, List.length_nil] at hlt
        have hi : i < (padL l xs).length := by omega
        rw [List.getElem?_append_left hi] at hx
        by_cases hj : j < (padL l xs).length
        · rw [List.getElem?_append_left hj] at hy
          exact g2 i j x y hij hx hy
        · obtain rfl : j = (padL l xs).length := by omega
          rw [List.getElem?_append_right (Nat.le_refl _), Nat.sub_self] at hy
          simp only [List.getElem?_cons_zero, Option.some.injEq] at hy
          subst hy
          cases hc : lk false x (.mk k t l br bl no ta) with
          | false => rfl
          | true =>
            have := has_iff.2 ⟨i, x, hx, hc⟩
            rw [hn] at this; cases this
theorem pk_padL : ∀ (l xs : List Nd), Pk xs → Pk (padL l xs)
  | [], xs, h => by simp only [padL]; exact h
  | x :: t, xs, h => by simp only [padL]; exact pk_padL t _ (pk_pad x xs h)
end
theorem lkL_mem : ∀ {a b : List Nd}, lkL false a b = true → ∀ y ∈ b, ∃ x ∈ a, lk false x y = true
  | [], [], _, y, h => by simp at h
  | [], _ :: _, h, _, _ => by simp only [lkL] at h; cases h
  | _ :: _, [], h, _, _ => by simp only [lkL] at h; cases h
  | p :: t, q :: u, h, y, hy => by
    simp only [lkL, Bool.and_eq_true] at h
    rcases List.mem_cons.1 hy with rfl | hy
    · exact ⟨p, by simp, h.1⟩
    · obtain ⟨x, hx, hl⟩ := lkL_mem h.2 y hy
      exact ⟨x, by simp [hx], hl⟩
theorem has_kids {xs : List Nd} (h : Pk xs) {n : Nd} (hn : has xs n = true) : ∀ y ∈ kds' n, has xs y = true := by
  intro y hy
  obtain ⟨i, x, hx, hl⟩ := has_iff.1 hn
  obtain ⟨z, hz, hzy⟩ := lkL_mem (lk_kids hl) y hy
  have h1 := h.1 i x hx z hz
  obtain ⟨j, u, hu, hl2⟩ := has_iff.1 h1
  have hj : xs[j]? = some u := by
    rw [List.getElem?_take] at hu
    split at hu
    · exact hu
    · cases hu
  exact has_iff.2 ⟨j, u, hj, lk_trans _ _ _ hl2 hzy⟩
mutual
/-- WHAT IT HAS IT TAKES NOT AGAIN. -/
theorem pad_same : ∀ (n : Nd) (xs : List Nd), Pk xs → has xs n = true → pad n xs = xs
  | .mk k t l br bl no ta, xs, h, hn => by
    have hk := padL_same l xs h (has_kids h hn)
    have hn' : xs.any (fun x => lk false x (.mk k t l br bl no ta)) = true := hn
    simp only [pad, hk]
    rw [if_pos hn']
theorem padL_same : ∀ (l xs : List Nd), Pk xs → (∀ y ∈ l, has xs y = true) → padL l xs = xs
  | [], xs, _, _ => by simp only [padL]
  | x :: t, xs, h, hl => by
    simp only [padL]
    rw [pad_same x xs h (hl x (by simp))]
    exact padL_same t xs h (fun y hy => hl y (by simp [hy]))
end
theorem idx_at {xs : List Nd} (h : Pk xs) {i : Nat} {x n : Nd} (hx : xs[i]? = some x) (hl : lk false x n = true) : xs.findIdx (fun x => lk false x n) = i := by
  have hi : i < xs.length := (List.getElem?_eq_some_iff.1 hx).1
  have he : xs[i] = x := (List.getElem?_eq_some_iff.1 hx).2
  refine (List.findIdx_eq hi).2 ⟨by rw [he]; exact hl, fun j hj => ?_⟩
  cases hc : lk false xs[j] n with
  | false => rfl
  | true =>
    have h1 := h.2 j i xs[j] x hj (List.getElem?_eq_getElem (by omega)) hx
    have := lk_trans _ _ _ hc (by rw [lk_comm']; exact hl)
    rw [h1] at this; cases this
/-- The number of what it has is its place. -/
theorem pidx_has {xs : List Nd} (h : Pk xs) {i : Nat} {x n : Nd} (hx : xs[i]? = some x) (hl : lk false x n = true) : pidx n xs = i + 1 := by
  have hn := has_iff.2 ⟨i, x, hx, hl⟩
  unfold pidx
  rw [padL_same (kds' n) xs h (has_kids h hn), idx_at h hx hl]
/-- The number that it gives is the place of one that is like it. -/
theorem pidx_at {xs : List Nd} (h : Pk xs) (n : Nd) : ∃ (i : Nat) (x : Nd), (pad n xs)[i]? = some x ∧ lk false x n = true ∧ pidx n xs = i + 1 := by
  have h1 := pk_padL (kds' n) xs h
  rw [pad_eq]
  split
  · rename_i hn
    obtain ⟨i, x, hx, hl⟩ := has_iff.1 hn
    exact ⟨i, x, hx, hl, by unfold pidx; rw [idx_at h1 hx hl]⟩
  · rename_i hn
    have hn : has (padL (kds' n) xs) n = false := by simpa using hn
    refine ⟨(padL (kds' n) xs).length, n, by rw [List.getElem?_append_right (Nat.le_refl _), Nat.sub_self]; rfl, lk_refl' false n, ?_⟩
    unfold pidx
    congr 1
    rw [List.findIdx_eq_length]
    intro x hm
    cases hc : lk false x n with
    | false => rfl
    | true =>
      have : has (padL (kds' n) xs) n = true := by
        unfold has
        rw [List.any_eq_true]
        exact ⟨x, hm, hc⟩
      rw [hn] at this; cases this
theorem pidx_le {xs : List Nd} (h : Pk xs) (n : Nd) : 1 ≤ pidx n xs ∧ pidx n xs ≤ (pad n xs).length := by
  obtain ⟨i, x, hx, -, he⟩ := pidx_at h n
  have := (List.getElem?_eq_some_iff.1 hx).1
  omega
end Go.Proofs.Ytkngnkonddpbeaa
