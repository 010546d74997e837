/-
  A tree with one part of one node turned, plainly: it is another one; with one Break turned it is like it.
-/
import Derived.Test.YtkdaombcbcegfaaTurned
import Derived.Test.YtkdaombcbcegfaaTreeFew
namespace Go.Proofs.Ytkdaombcbcegfaa
open Go.RowKit Go.PlainAid

def trz (p : Nat) : Nd → Nd
  | .mk k t l br bl no ta =>
    if p = 0 then .mk (kx k) t l br bl no ta
    else if p = 1 then .mk k (t ++ { data := #[120] }) l br bl no ta
    else if p = 2 then .mk k t l br (!bl) no ta
    else if p = 3 then .mk k t l br bl (no ++ [⟨#[37]⟩]) ta
    else if p = 4 then .mk k t l br bl no (ta ++ [⟨#[37]⟩])
    else if p = 5 then .mk k t (l ++ [nul]) br bl no ta
    else .mk k t l (!br) bl no ta
mutual
/-- The node at place K, by the order of L, is turned in its part p. -/
def trn (K p : Nat) : Nd → Nd
  | .mk k t l br bl no ta => if K = 0 then trz p (.mk k t l br bl no ta) else .mk k t (trnL K p 1 l) br bl no ta
def trnL (K p : Nat) (n : Nat) : List Nd → List Nd
  | [] => []
  | x :: t => (if n ≤ K ∧ K < n + cnt x then trn (K - n) p x else x) :: trnL K p (n + cnt x) t
end
theorem trnL_past (K p : Nat) : ∀ (n : Nat) (l : List Nd), K < n → trnL K p n l = l
  | _, [], _ => by simp only [trnL]
  | n, x :: t, h => by
    simp only [trnL]
    rw [if_neg (by omega), trnL_past K p _ t (by omega)]
theorem trnL_len (K p : Nat) : ∀ (n : Nat) (l : List Nd), (trnL K p n l).length = l.length
  | _, [] => by simp only [trnL]
  | n, x :: t => by
    simp only [trnL, List.length_cons]
    rw [trnL_len K p _ t]
theorem ba_ne_app (t : ByteArray) : (t.toList == (t ++ { data := #[120] } : ByteArray).toList) = false := by
  cases h : (t.toList == (t ++ { data := #[120] } : ByteArray).toList) with
  | false => rfl
  | true =>
    have := congrArg ByteArray.size (ba_eq h)
    simp [ByteArray.size_append] at this
    exact absurd this (by decide)
mutual
theorem lk_refl (all : Bool) : ∀ n : Nd, lk all n n = true
  | .mk k t l br bl no ta => by
    simp only [lk, beq_self_eq_true, decide_true, Bool.and_true, Bool.true_and, lkL_refl all l]
    cases all <;> rfl
theorem lkL_refl (all : Bool) : ∀ l : List Nd, lkL all l l = true
  | [] => by simp only [lkL]
  | x :: t => by simp only [lkL, lk_refl all x, lkL_refl all t, Bool.and_self]
end
mutual
theorem lk_comm (all : Bool) : ∀ n m : Nd, lk all n m = lk all m n
  | .mk k t l br bl no ta, .mk k' t' l' br' bl' no' ta' => by
    simp only [lk]
    rw [lkL_comm all l l', BEq.comm (a := k), BEq.comm (a := t.toList), BEq.comm (a := bl), BEq.comm (a := br), decide_eq_decide.2 (show no = no' ↔ no' = no from ⟨Eq.symm, Eq.symm⟩), decide_eq_decide.2 (show ta = ta' ↔ ta' = ta from ⟨Eq.symm, Eq.symm⟩)]
theorem lkL_comm (all : Bool) : ∀ l m : List Nd, lkL all l m = lkL all m l
  | [], [] => rfl
  | [], _ :: _ => by simp only [lkL]
  | _ :: _, [] => by simp only [lkL]
  | x :: t, y :: u => by
    simp only [lkL]
    rw [lk_comm all x y, lkL_comm all t u]
end
theorem lk_trz (all : Bool) (p : Nat) (n : Nd) : lk all n (trz p n) = (!all && decide (6 ≤ p)) := by
  cases n with
  | mk k t l br bl no ta =>
    simp only [trz]
    split
    · rename_i h; subst h
      simp only [lk]
      rw [show (k == kx k) = false from beq_false_of_ne (fun e => kx_ne k e.symm)]
      simp
    · split
      · rename_i h; subst h
        simp only [lk, ba_ne_app]
        simp
      · split
        · rename_i h; subst h
          simp only [lk]
          cases bl <;> simp
        · split
          · rename_i h; subst h
            simp only [lk]
            simp
          · split
            · rename_i h; subst h
              simp only [lk]
              simp
            · split
              · rename_i h; subst h
                simp only [lk]
                rw [lkL_len all (by simp)]
                simp
              · simp only [lk, lkL_refl, beq_self_eq_true, decide_true]
                rw [decide_eq_true (show 6 ≤ p by omega)]
                cases all <;> cases br <;> rfl
mutual
theorem lk_trn (all : Bool) (p : Nat) : ∀ (n : Nd) (K : Nat), K < cnt n → lk all n (trn K p n) = (!all && decide (6 ≤ p))
  | .mk k t l br bl no ta, K, h => by
    simp only [trn]
    split
    · exact lk_trz all p _
    · simp only [cnt] at h
      simp only [lk, beq_self_eq_true, decide_true, Bool.and_true, Bool.true_and, Bool.or_true]
      exact lkL_trn all p l K 1 (by omega) (by omega)
theorem lkL_trn (all : Bool) (p : Nat) : ∀ (l : List Nd) (K n : Nat), n ≤ K → K < n + cntL l → lkL all l (trnL K p n l) = (!all && decide (6 ≤ p))
  | [], K, n, h1, h2 => by simp only [cntL] at h2; omega
  | x :: t, K, n, h1, h2 => by
    simp only [cntL] at h2
    simp only [trnL, lkL]
    by_cases h3 : K < n + cnt x
    · rw [if_pos ⟨h1, h3⟩, trnL_past K p _ t h3, lkL_refl, Bool.and_true]
      exact lk_trn all p x (K - n) (by omega)
    · rw [if_neg (fun h => h3 h.2), lk_refl, Bool.true_and]
      exact lkL_trn all p t K (n + cnt x) (by omega) (by omega)
end
mutual
/-- No text is too long. -/
def txk : Nd → Prop
  | .mk _ t l _ _ _ _ => t.size ≤ 1000 ∧ txkL l
def txkL : List Nd → Prop
  | [] => True
  | x :: t => txk x ∧ txkL t
end
theorem txk_at : ∀ {l : List Nd} {i : Nat} {x : Nd}, txkL l → l[i]? = some x → txk x
  | [], _, _, _, h => by simp at h
  | y :: t, 0, x, hs, h => by
    simp only [List.getElem?_cons_zero, Option.some.injEq] at h
    simp only [txkL] at hs
    exact h ▸ hs.1
  | y :: t, i + 1, x, hs, h => by
    simp only [List.getElem?_cons_succ] at h
    simp only [txkL] at hs
    exact txk_at hs.2 h
theorem smk_kid {b : Nat} : ∀ {l : List Nd} {i : Nat} {x : Nd}, smkL b l → l[i]? = some x → smk b x
  | [], _, _, _, h => by simp at h
  | y :: t, 0, x, hs, h => by
    simp only [List.getElem?_cons_zero, Option.some.injEq] at h
    simp only [smkL] at hs
    exact h ▸ hs.1
  | y :: t, i + 1, x, hs, h => by
    simp only [List.getElem?_cons_succ] at h
    simp only [smkL] at hs
    exact smk_kid hs.2 h
mutual
theorem trn_cnt (p : Nat) : ∀ (n : Nd) (K : Nat), cnt (trn K p n) ≤ cnt n + 1
  | .mk k t l br bl no ta, K => by
    simp only [trn]
    split
    · simp only [trz]
      have h5 : cntL (l ++ [nul]) = cntL l + 1 := by
        have : ∀ l : List Nd, cntL (l ++ [nul]) = cntL l + 1 := by
          intro l
          induction l with
          | nil => rfl
          | cons x t ih => simp only [List.cons_append, cntL, ih]; omega
        exact this l
      split
      · simp only [cnt]; omega
      · split
        · simp only [cnt]; omega
        · split
          · simp only [cnt]; omega
          · split
            · simp only [cnt]; omega
            · split
              · simp only [cnt]; omega
              · split
                · simp only [cnt, h5]; omega
                · simp only [cnt]; omega
    · have := trnL_cnt p l K 1
      simp only [cnt]; omega
theorem trnL_cnt (p : Nat) : ∀ (l : List Nd) (K n : Nat), cntL (trnL K p n l) ≤ cntL l + 1
  | [], K, n => by simp only [trnL, cntL]; omega
  | x :: t, K, n => by
    simp only [trnL, cntL]
    by_cases h : n ≤ K ∧ K < n + cnt x
    · rw [if_pos h, trnL_past K p _ t h.2]
      have := trn_cnt p x (K - n)
      omega
    · rw [if_neg h]
      have := trnL_cnt p t K (n + cnt x)
      omega
end
mutual
theorem trn_smk (p b : Nat) : ∀ (n : Nd) (K : Nat), smk b n → smk (b + 1) (trn K p n)
  | .mk k t l br bl no ta, K, h => by
    simp only [trn]
    have hm : smkL (b + 1) l := smkL_up l (by simp only [smk] at h; exact h.2.2)
    have h' := h
    simp only [smk] at h'
    split
    · simp only [trz]
      have h5 : smkL (b + 1) (l ++ [nul]) := by
        have : ∀ l : List Nd, smkL (b + 1) l → smkL (b + 1) (l ++ [nul]) := by
          intro l
          induction l with
          | nil => intro _; simp only [List.nil_append, smkL, nul, smk]; exact ⟨⟨by simp, by simp, trivial⟩, trivial⟩
          | cons x t ih =>
            intro h
            simp only [smkL] at h
            simp only [List.cons_append, smkL]
            exact ⟨h.1, ih h.2⟩
        exact this l hm
      split
      · simp only [smk]; exact ⟨by omega, by omega, hm⟩
      · split
        · simp only [smk]; exact ⟨by omega, by omega, hm⟩
        · split
          · simp only [smk]; exact ⟨by omega, by omega, hm⟩
          · split
            · simp only [smk, List.length_append, List.length_cons, List.length_nil]; exact ⟨by omega, by omega, hm⟩
            · split
              · simp only [smk, List.length_append, List.length_cons, List.length_nil]; exact ⟨by omega, by omega, hm⟩
              · split
                · simp only [smk]; exact ⟨by omega, by omega, h5⟩
                · simp only [smk]; exact ⟨by omega, by omega, hm⟩
    · simp only [smk]
      exact ⟨by omega, by omega, trnL_smk p b l K 1 h'.2.2⟩
theorem trnL_smk (p b : Nat) : ∀ (l : List Nd) (K n : Nat), smkL b l → smkL (b + 1) (trnL K p n l)
  | [], K, n, _ => by simp only [trnL, smkL]
  | x :: t, K, n, h => by
    simp only [smkL] at h
    simp only [trnL, smkL]
    refine ⟨?_, trnL_smk p b t K (n + cnt x) h.2⟩
    split
    · exact trn_smk p b x (K - n) h.1
    · exact smk_up x h.1
theorem smk_up {b : Nat} : ∀ (n : Nd), smk b n → smk (b + 1) n
  | .mk k t l br bl no ta, h => by
    simp only [smk] at h ⊢
    exact ⟨by omega, by omega, smkL_up l h.2.2⟩
theorem smkL_up {b : Nat} : ∀ (l : List Nd), smkL b l → smkL (b + 1) l
  | [], _ => by simp only [smkL]
  | x :: t, h => by
    simp only [smkL] at h ⊢
    exact ⟨smk_up x h.1, smkL_up t h.2⟩
end
end Go.Proofs.Ytkdaombcbcegfaa
