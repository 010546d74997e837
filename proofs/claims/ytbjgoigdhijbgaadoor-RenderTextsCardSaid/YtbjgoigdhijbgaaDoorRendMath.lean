/-
  Layouts, plainly.
-/
import Derived.Test.YtbjgoigdhijbgaaDoorRendIn
set_option linter.all false
/- Layouts, plainly: the sums of all that comes behind; where a part's subtree ends. -/
namespace Go.Proofs.YtbjgoigdhijbgaaDoor
open Go.RowKit Go.PlainAid

/-- The sums of these, one behind the other. -/
def sfx : List (Dc × Int) → Sm
  | [] => ⟨0, 0, 0, 0⟩
  | e :: t => (sfx t).add e.1
mutual
/-- How many force what they stand in. -/
def frn : Dc → Nat
  | .mk k n _ l => frnL l + if dfr k n = true then 1 else 0
def frnL : List Dc → Nat
  | [] => 0
  | x :: t => frn x + frnL t
end
mutual
theorem frn_frc : ∀ x : Dc, dfrc x = decide (0 < frn x)
  | .mk k n t l => by
    have e := frnL_frc l
    by_cases h : dfr k n = true
    · rw [Bool.eq_iff_iff]
      simp [dfrc, frn, e, h]
    · rw [Bool.eq_iff_iff]
      simp [dfrc, frn, e, h]
theorem frnL_frc : ∀ l : List Dc, dfrcL l = decide (0 < frnL l)
  | [] => rfl
  | x :: t => by
    have e1 := frn_frc x
    have e2 := frnL_frc t
    have e3 : dfrcL (x :: t) = (decide (0 < frn x) || decide (0 < frnL t)) := by simp only [dfrcL]; rw [e1, e2]
    have e4 : frnL (x :: t) = frn x + frnL t := by simp only [frnL]
    rw [e3, e4, Bool.eq_iff_iff, Bool.or_eq_true, decide_eq_true_iff, decide_eq_true_iff, decide_eq_true_iff]
    omega
end
theorem wrt_no {k n : Int} {t : ByteArray} {l : List Dc} (h : lfk k = false) : ct (wrt (.mk k n t l)) 0 = 0 ∧ med k = false := by
  unfold lfk at h
  simp only [Bool.or_eq_false_iff] at h
  obtain ⟨⟨⟨h1, h2⟩, h3⟩, h4⟩ := h
  have e1 : ¬ k = 1 := by simpa using h1
  have e2 : ¬ k = 2 := by simpa using h2
  exact ⟨by rw [show wrt (.mk k n t l) = ⟨#[]⟩ from (if_neg e1).trans (if_neg e2)]; exact ct_0, by unfold med; simp [h2, h3, h4]⟩
mutual
theorem sfx_pr : ∀ (x : Dc), drt x = true → ∀ (r : Int) (t : List (Dc × Int)),
    (sfx (prO r x ++ t)).wd = wsum (lvs x) + (sfx t).wd ∧ (sfx (prO r x ++ t)).fs = fsum (lvs x) + (if stp9 (lvs x) = true then 0 else (sfx t).fs) ∧ (sfx (prO r x ++ t)).fc = frn x + (sfx t).fc
  | .mk k n s l, h, r, t => by
    have hk := drt_kids h
    have hp : prO r (.mk k n s l) = (.mk k n s l, r) :: prOL (rgt r (.mk k n s l)) l := prO_eq r _
    rw [hp, List.cons_append]
    simp only [sfx, Sm.add]
    obtain ⟨i1, i2, i3⟩ := sfx_prL l hk (rgt r (.mk k n s l)) t
    cases hlf : lfk k
    · obtain ⟨c1, c2⟩ := wrt_no (n := n) (t := s) (l := l) hlf
      rw [lvs_other hlf, c1, i1, i2, i3]
      have cm : med (dkd (.mk k n s l)) = false := c2
      refine ⟨by omega, ?_, ?_⟩
      · rw [if_neg (by rw [cm]; simp)]; omega
      · simp only [frn]
        show _ + (if dfr k n = true then 1 else 0) = _
        omega
    · have hl := drt_leaf h hlf
      subst hl
      rw [lvs_lf hlf]
      simp only [prOL, List.nil_append, wsum, frn, frnL]
      refine ⟨by omega, ?_, ?_⟩
      rotate_left
      · show _ + (if dfr k n = true then 1 else 0) = _
        omega
      have hk4 : k = 1 ∨ k = 2 ∨ k = 3 ∨ k = 4 := by unfold lfk at hlf; simp only [Bool.or_eq_true, beq_iff_eq] at hlf; omega
      rcases hk4 with e | e | e | e
      · subst e
        show (sfx t).fs + ct s 0 = (ct s 0 + 0) + (sfx t).fs
        omega
      · subst e; rfl
      · subst e; rfl
      · subst e; rfl
theorem sfx_prL : ∀ (l : List Dc), drtL l = true → ∀ (r : Int) (t : List (Dc × Int)),
    (sfx (prOL r l ++ t)).wd = wsum (lvsL l) + (sfx t).wd ∧ (sfx (prOL r l ++ t)).fs = fsum (lvsL l) + (if stp9 (lvsL l) = true then 0 else (sfx t).fs) ∧ (sfx (prOL r l ++ t)).fc = frnL l + (sfx t).fc
  | [], _, r, t => by simp [prOL, lvsL, wsum, fsum, stp9, frnL]
  | x :: u, h, r, t => by
    simp only [drtL, Bool.and_eq_true] at h
    obtain ⟨a1, a2, a3⟩ := sfx_pr x h.1 r (prOL r u ++ t)
    obtain ⟨b1, b2, b3⟩ := sfx_prL u h.2 r t
    simp only [prOL, List.append_assoc, lvsL, frnL]
    rw [a1, a2, a3, b1, b2, b3, wsum_app, fsum_app]
    refine ⟨by omega, ?_, by omega⟩
    by_cases hs : stp9 (lvs x) = true
    · simp [stp9_app, hs]
    · by_cases hs2 : stp9 (lvsL u) = true
      · simp [stp9_app, hs, hs2]
      · simp [stp9_app, hs, hs2]; omega
end
/-- Behind each part of what is in order, its own subtree begins there. -/
def SubO (L : List (Dc × Int)) : Prop := ∀ k x r, L[k]? = some (x, r) → ∃ rest, L.drop k = prO r x ++ rest
theorem SubO.app {A B : List (Dc × Int)} (ha : SubO A) (hb : SubO B) : SubO (A ++ B) := by
  intro k x r h
  rcases Nat.lt_or_ge k A.length with hk | hk
  · rw [List.getElem?_append_left hk] at h
    obtain ⟨rest, h1⟩ := ha k x r h
    exact ⟨rest ++ B, by rw [List.drop_append_of_le_length (by omega), h1, List.append_assoc]⟩
  · rw [List.getElem?_append_right hk] at h
    obtain ⟨rest, h1⟩ := hb _ x r h
    exact ⟨rest, by rw [List.drop_append, List.drop_eq_nil_of_le hk, List.nil_append]; exact h1⟩
mutual
theorem subO_pr : ∀ (x : Dc) (r : Int), SubO (prO r x)
  | .mk k n s l, r => by
    have hp : prO r (.mk k n s l) = (.mk k n s l, r) :: prOL (rgt r (.mk k n s l)) l := prO_eq r _
    intro i y q h
    match i with
    | 0 =>
      rw [hp] at h
      simp only [List.getElem?_cons_zero, Option.some.injEq, Prod.mk.injEq] at h
      obtain ⟨rfl, rfl⟩ := h
      exact ⟨[], by simp⟩
    | i + 1 =>
      rw [hp] at h ⊢
      simp only [List.getElem?_cons_succ] at h
      obtain ⟨rest, h1⟩ := subO_prL l _ i y q h
      exact ⟨rest, by simpa using h1⟩
theorem subO_prL : ∀ (l : List Dc) (r : Int), SubO (prOL r l)
  | [], r => by intro k x q h; simp [prOL] at h
  | x :: t, r => by simp only [prOL]; exact (subO_pr x r).app (subO_prL t r)
end
end Go.Proofs.YtbjgoigdhijbgaaDoor
/- Layouts, plainly: the sums of each part's suffix, and where its subtree ends. -/
namespace Go.Proofs.YtbjgoigdhijbgaaDoor
open Go.RowKit Go.PlainAid

theorem prOL_at : ∀ (l : List Dc) (r : Int) (j : Nat) (x : Dc), l[j]? = some x → (prOL r l)[dcntL (l.take j)]? = some (x, r)
  | [], r, j, x, h => by simp at h
  | a :: t, r, 0, x, h => by
    simp only [List.getElem?_cons_zero, Option.some.injEq] at h
    subst h
    simp only [List.take_zero, dcntL, prOL]
    rw [prO_eq, List.cons_append]
    rfl
  | a :: t, r, j + 1, x, h => by
    simp only [List.getElem?_cons_succ] at h
    have h1 := prOL_at t r j x h
    have hl := prO_len r a
    simp only [List.take_succ_cons, dcntL, prOL]
    rw [List.getElem?_append_right (by omega), hl, show dcnt a + dcntL (t.take j) - dcnt a = dcntL (t.take j) by omega]
    exact h1
/-- Where the parts of a part stand. -/
theorem kid_at {L : List (Dc × Int)} (h : SubO L) {k : Nat} {x : Dc} {r : Int} (hk : L[k]? = some (x, r)) {j : Nat} {y : Dc} (hj : (dks x)[j]? = some y) : L[k + 1 + dcntL ((dks x).take j)]? = some (y, rgt r x) := by
  obtain ⟨rest, h1⟩ := h k x r hk
  have h2 := prOL_at (dks x) (rgt r x) j y hj
  have h3 : (L.drop k)[1 + dcntL ((dks x).take j)]? = some (y, rgt r x) := by
    rw [h1, prO_eq, List.cons_append, Nat.add_comm 1, List.getElem?_cons_succ, List.getElem?_append_left (List.getElem?_eq_some_iff.1 h2).1]
    exact h2
  rw [List.getElem?_drop] at h3
  rw [← h3, Nat.add_assoc]
theorem sub_len {L : List (Dc × Int)} (h : SubO L) {k : Nat} {x : Dc} {r : Int} (hk : L[k]? = some (x, r)) : k + dcnt x ≤ L.length := by
  obtain ⟨rest, h1⟩ := h k x r hk
  have h2 := congrArg List.length h1
  have h3 := (List.getElem?_eq_some_iff.1 hk).1
  rw [List.length_drop, List.length_append, prO_len] at h2
  omega
theorem take_cnt : ∀ (l : List Dc) (j : Nat) (y : Dc), l[j]? = some y → dcntL (l.take (j + 1)) = dcntL (l.take j) + dcnt y
  | [], j, y, h => by simp at h
  | a :: t, 0, y, h => by
    simp only [List.getElem?_cons_zero, Option.some.injEq] at h
    subst h; simp [dcntL]
  | a :: t, j + 1, y, h => by
    simp only [List.getElem?_cons_succ] at h
    have := take_cnt t j y h
    simp only [List.take_succ_cons, dcntL] at this ⊢
    omega
/-- The sums that stand at k. -/
def smOf (L : List (Dc × Int)) (k : Nat) : Sm := ⟨((L[k]?).map fun e => k + dcnt e.1).getD 0, (sfx (L.drop k)).wd, (sfx (L.drop k)).fs, (sfx (L.drop k)).fc⟩
theorem smOf_end (L : List (Dc × Int)) : smOf L L.length = ⟨0, 0, 0, 0⟩ := by simp [smOf, sfx]
theorem smOf_at {L : List (Dc × Int)} {k : Nat} {x : Dc} {r : Int} (hk : L[k]? = some (x, r)) : smOf L k = { (smOf L (k + 1)).add x with nx := k + dcnt x } := by
  have hlt := (List.getElem?_eq_some_iff.1 hk).1
  have he := (List.getElem?_eq_some_iff.1 hk).2
  have hd : L.drop k = (x, r) :: L.drop (k + 1) := by rw [List.drop_eq_getElem_cons hlt, he]
  simp only [smOf, hk, hd, sfx, Sm.add, Option.map_some, Option.getD_some]
/-- What fits asks, of a part and what comes behind it. -/
theorem smOf_sub {L : List (Dc × Int)} (h : SubO L) {k : Nat} {x : Dc} {r : Int} (hx : drt x = true) (hk : L[k]? = some (x, r)) :
    (smOf L k).nx = k + dcnt x ∧ (smOf L k).wd = wsum (lvs x) + (smOf L (k + dcnt x)).wd ∧ (smOf L k).fc = frn x + (smOf L (k + dcnt x)).fc ∧ (smOf L k).fs = fsum (lvs x) + (if stp9 (lvs x) = true then 0 else (smOf L (k + dcnt x)).fs) := by
  obtain ⟨rest, h1⟩ := h k x r hk
  have h2 : L.drop (k + dcnt x) = rest := by rw [← List.drop_drop, h1, ← prO_len r x, List.drop_left]
  obtain ⟨a, b, c⟩ := sfx_pr x hx r rest
  refine ⟨by simp [smOf, hk], ?_, ?_, ?_⟩
  · simp only [smOf, h1, h2]; exact a
  · simp only [smOf, h1, h2]; exact c
  · simp only [smOf, h1, h2]; exact b
theorem smOf_frc {L : List (Dc × Int)} (h : SubO L) {k : Nat} {x : Dc} {r : Int} (hx : drt x = true) (hk : L[k]? = some (x, r)) :
    ((smOf L k).fc == (smOf L (k + dcnt x)).fc) = !dfrc x := by
  obtain ⟨-, -, c, -⟩ := smOf_sub h hx hk
  rw [frn_frc x, c, Bool.eq_iff_iff]
  simp only [beq_iff_eq, Bool.not_eq_true', decide_eq_false_iff_not]
  omega
/-! ### no sum is large -/
theorem sfx_le {B : Nat} : ∀ (L : List (Dc × Int)), (∀ e ∈ L, ct (wrt e.1) 0 ≤ B) → (sfx L).wd ≤ L.length * B ∧ (sfx L).fs ≤ L.length * B ∧ (sfx L).fc ≤ L.length
  | [], _ => by simp [sfx]
  | e :: t, h => by
    obtain ⟨h1, h2, h3⟩ := sfx_le t fun a ha => h a (List.mem_cons_of_mem _ ha)
    have h0 := h e (List.mem_cons_self ..)
    simp only [sfx, Sm.add, List.length_cons, Nat.succ_mul]
    refine ⟨by omega, ?_, ?_⟩
    · by_cases hm : med (dkd e.1) = true
      · rw [if_pos hm]; omega
      · rw [if_neg hm]; omega
    · by_cases hm : dfr (dkd e.1) (dnn e.1) = true
      · rw [if_pos hm]; omega
      · rw [if_neg hm]; omega
theorem smOf_le {B : Nat} {L : List (Dc × Int)} (h : ∀ e ∈ L, ct (wrt e.1) 0 ≤ B) (k : Nat) : (smOf L k).wd ≤ L.length * B ∧ (smOf L k).fs ≤ L.length * B ∧ (smOf L k).fc ≤ L.length := by
  obtain ⟨h1, h2, h3⟩ := sfx_le (L.drop k) fun e he => h e (List.mem_of_mem_drop he)
  have hl : (L.drop k).length ≤ L.length := by rw [List.length_drop]; omega
  have hb : (L.drop k).length * B ≤ L.length * B := Nat.mul_le_mul_right _ hl
  exact ⟨Nat.le_trans h1 hb, Nat.le_trans h2 hb, Nat.le_trans h3 hl⟩
end Go.Proofs.YtbjgoigdhijbgaaDoor
/- Layouts, plainly: the document's row of parts to come, and the program's one row, are laid out the same. -/
namespace Go.Proofs.YtbjgoigdhijbgaaDoor
open Go.RowKit Go.PlainAid

/-- A part, how far right it is nested, and whether it is flat. -/
abbrev Prt := Dc × Int × Bool
def endD (x : Dc) (f : Bool) : Bool := dkd x == 4 || ((dkd x == 2 || dkd x == 3) && !f)
def cnC (x : Dc) (r col : Int) (f : Bool) : Int := if endD x f = true then r else col + (ct (wrt x) 0 : Int)
def dec (W : Int) (x : Dc) (f : Bool) (col : Int) (rest : Nat) : Bool := f || (dkd x == 7 && (!dfrc x && decide (col + (wsum (lvs x) : Int) + (rest : Int) ≤ W)))
def kdS (x : Dc) (r : Int) (g : Bool) : List Prt := (dks x).map fun y => (y, rgt r x, g)
/-- So many steps of the document's: what is taken, and whether it is flat. -/
def runS (W : Int) : Nat → List Prt → Int → List Prt
  | 0, _, _ => []
  | _ + 1, [], _ => []
  | n + 1, (x, r, f) :: S, col => (x, r, dec W x f col (fsum (lvsL (S.map (·.1))))) :: runS W n (kdS x r (dec W x f col (fsum (lvsL (S.map (·.1))))) ++ S) (cnC x r col (dec W x f col (fsum (lvsL (S.map (·.1))))))
/-- There is room for the part at k, and it need not be broken. -/
def fitS (L : List (Dc × Int)) (k : Nat) (cols : Int) : Bool := ((smOf L k).fc == (smOf L (smOf L k).nx).fc) && decide (((smOf L k).wd : Int) - ((smOf L (smOf L k).nx).wd : Int) + ((smOf L (smOf L k).nx).fs : Int) ≤ cols)
/-- So many rounds of the program's. -/
def layd (W : Int) (L : List (Dc × Int)) : Nat → Nat → Int → Nat → List Prt
  | 0, _, _, _ => []
  | n + 1, k, col, up => match L[k]? with
    | none => []
    | some (x, r) =>
      if (med (dkd x) && !decide (k < up)) = true then (x, r, decide (k < up)) :: layd W L n (k + 1) r up
      else if dkd x ≠ 7 then (x, r, decide (k < up)) :: layd W L n (k + 1) (col + (ct (wrt x) 0 : Int)) up
      else if (!decide (k < up) && fitS L k (W - col)) = true then (x, r, true) :: layd W L n (k + 1) col (smOf L k).nx
      else (x, r, decide (k < up)) :: layd W L n (k + 1) col up
def prS : List Prt → List (Dc × Int)
  | [] => []
  | p :: t => prO p.2.1 p.1 ++ prS t
def cntS : List Prt → Nat
  | [] => 0
  | p :: t => dcnt p.1 + cntS t
theorem prS_kids (r : Int) (g : Bool) (S : List Prt) : ∀ l : List Dc, prS ((l.map fun y => ((y, r, g) : Prt)) ++ S) = prOL r l ++ prS S
  | [] => rfl
  | a :: t => by simp only [List.map_cons, List.cons_append, prS, prOL, List.append_assoc, prS_kids r g S t]
theorem cntS_kids (r : Int) (g : Bool) (S : List Prt) : ∀ l : List Dc, cntS ((l.map fun y => ((y, r, g) : Prt)) ++ S) = dcntL l + cntS S
  | [] => by simp [cntS, dcntL]
  | a :: t => by simp only [List.map_cons, List.cons_append, cntS, dcntL, cntS_kids r g S t]; omega
theorem sfx_prS : ∀ S : List Prt, (∀ p ∈ S, drt p.1 = true) → (sfx (prS S)).fs = fsum (lvsL (S.map (·.1)))
  | [], _ => rfl
  | p :: t, h => by
    obtain ⟨-, h1, -⟩ := sfx_pr p.1 (h p (List.mem_cons_self ..)) p.2.1 (prS t)
    simp only [prS, List.map_cons, lvsL, fsum_app]
    rw [h1, sfx_prS t fun q hq => h q (List.mem_cons_of_mem _ hq)]
theorem wrt_7 {x : Dc} (h : dkd x = 7) : ct (wrt x) 0 = 0 := by
  obtain ⟨k, n, t, l⟩ := x
  simp only [dkd] at h
  subst h
  exact (wrt_no (by decide)).1
theorem frc_kids {x : Dc} (h : dfrc x = false) : dkd x ≠ 4 ∧ ∀ y ∈ dks x, dfrc y = false := by
  obtain ⟨k, n, t, l⟩ := x
  simp only [dfrc, Bool.or_eq_false_iff] at h
  obtain ⟨h1, h2⟩ := h
  refine ⟨fun e => ?_, ?_⟩
  · simp only [dkd] at e
    subst e
    simp [dfr] at h1
  · simp only [dks]
    clear h1
    induction l with
    | nil => intro y hy; cases hy
    | cons a u ih =>
      simp only [dfrcL, Bool.or_eq_false_iff] at h2
      intro y hy
      rcases List.mem_cons.1 hy with rfl | hy
      · exact h2.1
      · exact ih h2.2 y hy
theorem run_lay (W : Int) (L : List (Dc × Int)) (hL : SubO L) (hd : ∀ e ∈ L, drt e.1 = true) : ∀ (n k : Nat) (col : Int) (up : Nat) (A B : List Prt),
    (∀ p ∈ A, p.2.2 = true ∧ dfrc p.1 = false) → (∀ p ∈ B, p.2.2 = false) → up - k = cntS A → L.drop k = prS (A ++ B) → (∀ p ∈ A ++ B, drt p.1 = true) → runS W n (A ++ B) col = layd W L n k col up
  | 0, _, _, _, _, _, _, _, _, _, _ => by simp [runS, layd]
  | n + 1, k, col, up, [], [], hA, hB, hu, hp, hr => by
    have : L[k]? = none := by
      have h1 := congrArg List.length hp
      simp only [List.nil_append, prS, List.length_nil, List.length_drop] at h1
      exact List.getElem?_eq_none (by omega)
    simp only [List.nil_append, runS, layd, this]
  | n + 1, k, col, up, (x, r, f) :: A, B, hA, hB, hu, hp, hr => by
    obtain ⟨hf, hx⟩ := hA _ (List.mem_cons_self ..)
    simp only at hf hx
    subst hf
    rw [List.cons_append] at hp hr ⊢
    rw [prS, prO_eq, List.cons_append] at hp
    have hk : L[k]? = some (x, r) := by rw [← Nat.add_zero k, ← List.getElem?_drop, hp]; rfl
    have hp1 : L.drop (k + 1) = prS (kdS x r true ++ A ++ B) := by
      rw [← List.drop_drop, hp, List.append_assoc, kdS, prS_kids]; rfl
    have hdx := dcnt_pos x
    simp only [cntS] at hu
    have hlt : k < up := by omega
    obtain ⟨h4, hks⟩ := frc_kids hx
    have hrx := hr _ (List.mem_cons_self ..)
    have hrec := run_lay W L hL hd n (k + 1) (col + (ct (wrt x) 0 : Int)) up (kdS x r true ++ A) B
      (fun p hp => by
        rcases List.mem_append.1 hp with hp | hp
        · obtain ⟨y, hy, rfl⟩ := List.mem_map.1 hp; exact ⟨rfl, hks y hy⟩
        · exact hA p (List.mem_cons_of_mem _ hp)) hB
      (by rw [kdS, cntS_kids]; obtain ⟨a, b, c, d⟩ := x; simp only [dcnt, dks] at hu ⊢; omega) hp1
      (fun p hp => by
        rw [List.append_assoc] at hp
        rcases List.mem_append.1 hp with hp | hp
        · obtain ⟨y, hy, rfl⟩ := List.mem_map.1 hp
          obtain ⟨a, b, c, d⟩ := x
          exact drt_at (drt_kids hrx) hy
        · exact hr p (List.mem_cons_of_mem _ hp))
    have hc : cnC x r col true = col + (ct (wrt x) 0 : Int) := if_neg (by simp [endD, h4])
    simp only [runS, dec, Bool.true_or, layd, hk, hlt, decide_true, Bool.not_true, Bool.and_false, Bool.false_and, Bool.false_eq_true, if_false]
    rw [hc, ← List.append_assoc, hrec]
    by_cases h7 : dkd x = 7
    · rw [if_neg (by simpa using h7), wrt_7 h7]; simp
    · rw [if_pos h7]
  | n + 1, k, col, up, [], (x, r, f) :: B, hA, hB, hu, hp, hr => by
    have hf := hB _ (List.mem_cons_self ..)
    simp only at hf
    subst hf
    rw [List.nil_append] at hp hr ⊢
    have hpw := hp
    rw [prS, prO_eq, List.cons_append] at hp
    have hk : L[k]? = some (x, r) := by rw [← Nat.add_zero k, ← List.getElem?_drop, hp]; rfl
    have hp1 : ∀ g, L.drop (k + 1) = prS (kdS x r g ++ B) := fun g => by
      rw [← List.drop_drop, hp, kdS, prS_kids]; rfl
    simp only [cntS] at hu
    have hlt : ¬ k < up := by omega
    have hrx := hr _ (List.mem_cons_self ..)
    simp only at hrx
    have hkr : ∀ g, ∀ p ∈ kdS x r g ++ B, drt p.1 = true := fun g p hp => by
      rcases List.mem_append.1 hp with hp | hp
      · obtain ⟨y, hy, rfl⟩ := List.mem_map.1 hp
        obtain ⟨a, b, c, d⟩ := x
        exact drt_at (drt_kids hrx) hy
      · exact hr p (List.mem_cons_of_mem _ hp)
    obtain ⟨s1, s2, s3, s4⟩ := smOf_sub hL hrx hk
    have s5 := smOf_frc hL hrx hk
    have hdr : L.drop (k + dcnt x) = prS B := by
      rw [← List.drop_drop, hpw, prS]
      simp only
      rw [← prO_len r x, List.drop_left]
    have s6 : (smOf L (k + dcnt x)).fs = fsum (lvsL (B.map (·.1))) := by
      rw [← sfx_prS B fun p hp => hr p (List.mem_cons_of_mem _ hp), ← hdr]; rfl
    have hfit : fitS L k (W - col) = (!dfrc x && decide (col + (wsum (lvs x) : Int) + (fsum (lvsL (B.map (·.1))) : Int) ≤ W)) := by
      unfold fitS
      rw [s1, s5, s2, s6]
      congr 1
      rw [decide_eq_decide]
      omega
    simp only [runS, dec, Bool.false_or, layd, hk, hlt, decide_false, Bool.not_false, Bool.and_true, Bool.true_and]
    rw [hfit, s1]
    obtain ⟨b, hb⟩ : ∃ b, b = (!dfrc x && decide (col + (wsum (lvs x) : Int) + (fsum (lvsL (B.map (·.1))) : Int) ≤ W)) := ⟨_, rfl⟩
    rw [← hb]
    by_cases h7 : dkd x = 7
    · have hm : med (dkd x) = false := by rw [h7]; rfl
      have hc : ∀ g, cnC x r col g = col := fun g => by rw [cnC, if_neg (by simp [endD, h7]), wrt_7 h7]; simp
      rw [hm, if_neg (by simp), if_neg (by simpa using h7), hc]
      have h7b : (dkd x == 7) = true := by simpa using h7
      rw [h7b, Bool.true_and]
      cases b
      · simp only [Bool.false_eq_true, if_false]
        exact congrArg _ (run_lay W L hL hd n (k + 1) col up [] (kdS x r false ++ B) (fun p hp => by cases hp)
          (fun p hp => by
            rcases List.mem_append.1 hp with hp | hp
            · obtain ⟨y, hy, rfl⟩ := List.mem_map.1 hp; rfl
            · exact hB p (List.mem_cons_of_mem _ hp)) (by simp only [cntS]; omega) (hp1 false) (hkr false))
      · have hx : dfrc x = false := by have := hb.symm; simp only [Bool.and_eq_true, Bool.not_eq_true'] at this; exact this.1
        obtain ⟨h4, hks⟩ := frc_kids hx
        simp only [if_true]
        have := run_lay W L hL hd n (k + 1) col (k + dcnt x) (kdS x r true) B
          (fun p hp => by obtain ⟨y, hy, rfl⟩ := List.mem_map.1 hp; exact ⟨rfl, hks y hy⟩)
          (fun p hp => hB p (List.mem_cons_of_mem _ hp))
          (by have h9 := cntS_kids (rgt r x) true [] (dks x); rw [List.append_nil] at h9; rw [kdS, h9]; obtain ⟨a, b, c, d⟩ := x; simp only [dcnt, dks, cntS]; omega) (hp1 true) (hkr true)
        exact congrArg _ this
    · have h7b : (dkd x == 7) = false := by simpa using h7
      rw [h7b, Bool.false_and]
      have hrec := fun c' => run_lay W L hL hd n (k + 1) c' up [] (kdS x r false ++ B) (fun p hp => by cases hp)
          (fun p hp => by
            rcases List.mem_append.1 hp with hp | hp
            · obtain ⟨y, hy, rfl⟩ := List.mem_map.1 hp; rfl
            · exact hB p (List.mem_cons_of_mem _ hp)) (by simp only [cntS]; omega) (hp1 false) (hkr false)
      simp only [List.nil_append] at hrec
      rw [hrec]
      have he : endD x false = med (dkd x) := by unfold endD med; rw [Bool.eq_iff_iff]; simp; omega
      cases hm : med (dkd x)
      · rw [if_neg (by simp), if_pos h7, cnC, if_neg (by rw [he, hm]; simp)]
      · rw [if_pos rfl, cnC, if_pos (by rw [he, hm])]
end Go.Proofs.YtbjgoigdhijbgaaDoor
/- Layouts, plainly: what is laid out, as a text. -/
namespace Go.Proofs.YtbjgoigdhijbgaaDoor
open Go.RowKit Go.PlainAid

def blk9 (n : Int) : ByteArray := ⟨Array.replicate n.toNat 32⟩
/-- As the document says: a newline ends a line. -/
def emD : List Prt → ByteArray → Int → ByteArray
  | [], o, _ => o
  | p :: t, o, w => if endD p.1 p.2.2 = true then emD t (o ++ ⟨#[10]⟩) p.2.1 else if (wrt p.1).size = 0 then emD t o w else emD t (o ++ blk9 w ++ wrt p.1) 0
/-- As the program says. -/
def emP : List Prt → ByteArray → Int → ByteArray
  | [], o, _ => o
  | p :: t, o, w => if (med (dkd p.1) && !p.2.2) = true then emP t (o ++ ⟨#[10]⟩) p.2.1 else if (wrt p.1).size = 0 then emP t o w else emP t (o ++ blk9 w ++ wrt p.1) 0
theorem em_eq : ∀ (l : List Prt) (o : ByteArray) (w : Int), (∀ p ∈ l, p.2.2 = true → dkd p.1 ≠ 4) → emD l o w = emP l o w
  | [], _, _, _ => rfl
  | p :: t, o, w, h => by
    have h0 := h p (List.mem_cons_self ..)
    have hi := fun o w => em_eq t o w fun q hq => h q (List.mem_cons_of_mem _ hq)
    have he : endD p.1 p.2.2 = (med (dkd p.1) && !p.2.2) := by
      cases hf : p.2.2
      · unfold endD med; rw [Bool.eq_iff_iff]; simp; omega
      · have h4 := h0 hf; unfold endD; simp [h4]
    simp only [emD, emP, he, hi]
/-- Nothing that must be broken is flat. -/
theorem run_free (W : Int) : ∀ (n : Nat) (S : List Prt) (col : Int), (∀ p ∈ S, p.2.2 = true → dfrc p.1 = false) → ∀ p ∈ runS W n S col, p.2.2 = true → dfrc p.1 = false
  | 0, _, _, _, p, hp, _ => by cases hp
  | n + 1, [], _, _, p, hp, _ => by cases hp
  | n + 1, (x, r, f) :: S, col, h, p, hp, hf => by
    obtain ⟨g, hg⟩ : ∃ g, g = dec W x f col (fsum (lvsL (S.map (·.1)))) := ⟨_, rfl⟩
    have hx : g = true → dfrc x = false := fun e => by
      rw [e] at hg
      cases hff : f
      · rw [hff, dec, Bool.false_or] at hg
        have := hg.symm
        simp only [Bool.and_eq_true, Bool.not_eq_true'] at this
        exact this.2.1
      · exact h (x, r, f) (List.mem_cons_self ..) hff
    simp only [runS, ← hg] at hp
    rcases List.mem_cons.1 hp with rfl | hp
    · exact hx hf
    · refine run_free W n _ _ (fun q hq hqf => ?_) p hp hf
      rcases List.mem_append.1 hq with hq | hq
      · obtain ⟨y, hy, rfl⟩ := List.mem_map.1 hq
        exact (frc_kids (hx hqf)).2 y hy
      · exact h q (List.mem_cons_of_mem _ hq) hqf
theorem run_hard {W : Int} {n : Nat} {S : List Prt} {col : Int} (h : ∀ p ∈ S, p.2.2 = true → dfrc p.1 = false) : ∀ p ∈ runS W n S col, p.2.2 = true → dkd p.1 ≠ 4 :=
  fun p hp hf => (frc_kids (run_free W n S col h p hp hf)).1
/-- All is taken, in its order. -/
theorem run_all (W : Int) : ∀ (n : Nat) (S : List Prt) (col : Int), cntS S ≤ n → (runS W n S col).map (fun p => (p.1, p.2.1)) = prS S
  | 0, [], _, _ => rfl
  | 0, p :: S, _, h => by have := dcnt_pos p.1; simp only [cntS] at h; omega
  | n + 1, [], _, _ => rfl
  | n + 1, (x, r, f) :: S, col, h => by
    obtain ⟨g, hg⟩ : ∃ g, g = dec W x f col (fsum (lvsL (S.map (·.1)))) := ⟨_, rfl⟩
    have hc : cntS (kdS x r g ++ S) ≤ n := by
      rw [kdS, cntS_kids]; obtain ⟨a, b, c, d⟩ := x; simp only [cntS, dcnt, dks] at h ⊢; omega
    simp only [runS, ← hg, List.map_cons]
    rw [run_all W n _ _ hc, kdS, prS_kids, prS]
    simp only
    rw [prO_eq, List.cons_append]
/-- More steps than there are parts: none of them is taken. -/
theorem run_more (W : Int) : ∀ (n m : Nat) (S : List Prt) (col : Int), cntS S ≤ n → n ≤ m → runS W m S col = runS W n S col
  | 0, m, [], _, _, _ => by cases m <;> rfl
  | 0, m, p :: S, _, h, _ => by have := dcnt_pos p.1; simp only [cntS] at h; omega
  | n + 1, 0, _, _, _, h => by omega
  | n + 1, m + 1, [], _, _, _ => rfl
  | n + 1, m + 1, (x, r, f) :: S, col, h, hm => by
    obtain ⟨g, hg⟩ : ∃ g, g = dec W x f col (fsum (lvsL (S.map (·.1)))) := ⟨_, rfl⟩
    have hc : cntS (kdS x r g ++ S) ≤ n := by
      rw [kdS, cntS_kids]; obtain ⟨a, b, c, d⟩ := x; simp only [cntS, dcnt, dks] at h ⊢; omega
    simp only [runS, ← hg]
    rw [run_more W n m _ _ hc (by omega)]
/-- A document as it is laid out. -/
def laidD (W : Int) (d : Dc) : List Prt := runS W (dcnt d) [(d, 0, false)] 0
theorem laidD_prog (W : Int) {d : Dc} (hd : ∀ e ∈ prO 0 d, drt e.1 = true) : laidD W d = layd W (prO 0 d) (dcnt d) 0 0 0 := by
  have hr : drt d = true := hd (d, 0) (by rw [prO_eq]; exact List.mem_cons_self ..)
  exact run_lay W (prO 0 d) (subO_pr d 0) hd (dcnt d) 0 0 0 [] [(d, 0, false)] (fun p hp => by cases hp) (fun p hp => by simp only [List.mem_cons, List.not_mem_nil, or_false] at hp; subst hp; rfl) rfl (by simp [prS]) (fun p hp => by simp only [List.nil_append, List.mem_cons, List.not_mem_nil, or_false] at hp; subst hp; exact hr)
theorem laidD_all (W : Int) (d : Dc) : (laidD W d).map (fun p => (p.1, p.2.1)) = prO 0 d := by
  rw [laidD, run_all W _ _ _ (by simp [cntS])]; simp [prS]
theorem laidD_hard (W : Int) (d : Dc) : ∀ p ∈ laidD W d, p.2.2 = true → dkd p.1 ≠ 4 := run_hard fun p hp hf => by
  simp only [List.mem_cons, List.not_mem_nil, or_false] at hp; subst hp; simp at hf
/-- The text of a document at a width, and which of its groups are flat. -/
def txtD (W : Int) (d : Dc) : ByteArray := emD (laidD W d) ⟨#[]⟩ 0
def mdsD (W : Int) (d : Dc) : List Bool := ((laidD W d).filter fun p => dkd p.1 == 7).map (·.2.2)
theorem txtD_prog (W : Int) (d : Dc) : txtD W d = emP (laidD W d) ⟨#[]⟩ 0 := em_eq _ _ _ (laidD_hard W d)
mutual
theorem prO_drt : ∀ (x : Dc) (r : Int), drt x = true → ∀ e ∈ prO r x, drt e.1 = true
  | .mk k n t l, r, h, e, he => by
    have hp : prO r (.mk k n t l) = (.mk k n t l, r) :: prOL (rgt r (.mk k n t l)) l := prO_eq r _
    rw [hp] at he
    rcases List.mem_cons.1 he with rfl | he
    · exact h
    · exact prOL_drt l _ (drt_kids h) e he
theorem prOL_drt : ∀ (l : List Dc) (r : Int), drtL l = true → ∀ e ∈ prOL r l, drt e.1 = true
  | [], r, h, e, he => by cases he
  | x :: t, r, h, e, he => by
    simp only [drtL, Bool.and_eq_true] at h
    simp only [prOL] at he
    rcases List.mem_append.1 he with he | he
    · exact prO_drt x r h.1 e he
    · exact prOL_drt t r h.2 e he
end
end Go.Proofs.YtbjgoigdhijbgaaDoor
/- Layouts, plainly: what is flat; a group by itself; a group with something ahead and behind. -/
namespace Go.Proofs.YtbjgoigdhijbgaaDoor
open Go.RowKit Go.PlainAid

theorem wrt_none {x : Dc} (h : lfk (dkd x) = false) : (wrt x).size = 0 := by
  unfold lfk at h
  simp only [Bool.or_eq_false_iff, beq_eq_false_iff_ne] at h
  rw [wrt, if_neg h.1.1.1, if_neg h.1.1.2]; rfl
theorem lvs_kids {x : Dc} (hx : drt x = true) : lvs x = (if lfk (dkd x) = true then [x] else []) ++ lvsL (dks x) := by
  obtain ⟨k, n, t, l⟩ := x
  cases h : lfk k
  · rw [lvs_other h]; simp [dkd, dks, h]
  · have := drt_leaf hx h
    subst this
    rw [lvs_lf h]; simp [dkd, dks, h, lvsL]
theorem ba_size0 {a b : ByteArray} (h : b.size = 0) : a ++ b = a := by
  have : b = ⟨#[]⟩ := by apply ByteArray.ext; exact Array.eq_empty_of_size_eq_zero h
  rw [this]; exact ba_empty_r a
theorem blk9_0 : blk9 0 = ⟨#[]⟩ := rfl
/-- What is flat stays so, and is on one line. -/
theorem flat_run (W : Int) : ∀ (n : Nat) (S : List Prt) (col : Int), cntS S ≤ n → (∀ p ∈ S, p.2.2 = true ∧ dfrc p.1 = false ∧ drt p.1 = true) →
    (∀ p ∈ runS W n S col, p.2.2 = true) ∧ ∀ o, emD (runS W n S col) o 0 = o ++ ctx (lvsL (S.map (·.1)))
  | 0, [], _, _, _ => ⟨fun p hp => (by cases hp), fun o => (ba_empty_r o).symm⟩
  | 0, p :: S, _, h, _ => by have := dcnt_pos p.1; simp only [cntS] at h; omega
  | n + 1, [], _, _, _ => ⟨fun p hp => (by cases hp), fun o => (ba_empty_r o).symm⟩
  | n + 1, (x, r, f) :: S, col, h, hS => by
    obtain ⟨hf, hx, hr⟩ := hS _ (List.mem_cons_self ..)
    simp only at hf hx hr
    subst hf
    obtain ⟨h4, hks⟩ := frc_kids hx
    have hc : cntS (kdS x r true ++ S) ≤ n := by
      rw [kdS, cntS_kids]; obtain ⟨a, b, c, d⟩ := x; simp only [cntS, dcnt, dks] at h ⊢; omega
    obtain ⟨i1, i2⟩ := flat_run W n (kdS x r true ++ S) (cnC x r col true) hc fun p hp => by
      rcases List.mem_append.1 hp with hp | hp
      · obtain ⟨y, hy, rfl⟩ := List.mem_map.1 hp
        obtain ⟨a, b, c, d⟩ := x
        exact ⟨rfl, hks y hy, drt_at (drt_kids hr) hy⟩
      · exact hS p (List.mem_cons_of_mem _ hp)
    simp only [runS, dec, Bool.true_or]
    refine ⟨fun p hp => ?_, fun o => ?_⟩
    · rcases List.mem_cons.1 hp with rfl | hp
      · rfl
      · exact i1 p hp
    · have he : endD x true = false := by simp [endD, h4]
      have hm : (kdS x r true ++ S).map (·.1) = dks x ++ S.map (·.1) := by simp [kdS, Function.comp_def]
      have hL : ∀ a b : List Dc, lvsL (a ++ b) = lvsL a ++ lvsL b := fun a b => by
        induction a with
        | nil => rfl
        | cons y t ih => simp only [List.cons_append, lvsL, ih, List.append_assoc]
      simp only [emD, he, Bool.false_eq_true, if_false, List.map_cons, lvsL]
      rw [lvs_kids hr, ctx_app, ctx_app]
      by_cases hz : (wrt x).size = 0
      · rw [if_pos hz, i2, hm, hL, ctx_app]
        cases hl : lfk (dkd x)
        · simp only [Bool.false_eq_true, if_false]
          show _ = o ++ ((⟨#[]⟩ : ByteArray) ++ _ ++ _)
          apply ByteArray.ext; simp
        · simp only [if_true, ctx]
          have e0 : wrt x = ⟨#[]⟩ := by apply ByteArray.ext; exact Array.eq_empty_of_size_eq_zero hz
          rw [e0]
          apply ByteArray.ext; simp
      · rw [if_neg hz, i2, hm, hL, ctx_app, blk9_0, ba_empty_r]
        cases hl : lfk (dkd x)
        · exact absurd (wrt_none hl) hz
        · simp only [if_true, ctx]
          rw [ba_empty_r]
          simp only [ByteArray.append_assoc]
/-- A group by itself, first. -/
def grp (d : Dc) : Dc := .mk 7 0 ⟨#[]⟩ [d]
theorem grp_frc (d : Dc) : dfrc (grp d) = dfrc d := by simp [grp, dfrc, dfrcL, dfr]
theorem grp_lvs (d : Dc) : lvs (grp d) = lvs d := by rw [grp, lvs_other (by decide)]; simp [lvsL]
theorem ex_head {α : Type} {l : List α} {h : α} (e : l.head? = some h) : ∃ t, l = h :: t := by
  cases l with
  | nil => cases e
  | cons a t => simp only [List.head?_cons, Option.some.injEq] at e; exact ⟨t, by rw [e]⟩
theorem laid_grp (W : Int) (d : Dc) : ∃ t, laidD W (grp d) = (grp d, 0, !dfrc d && decide ((wsum (lvs d) : Int) ≤ W)) :: t := by
  have : ∃ n, dcnt (grp d) = n + 1 := ⟨dcnt d, by simp [grp, dcnt, dcntL]; omega⟩
  obtain ⟨n, hn⟩ := this
  apply ex_head
  rw [laidD, hn, runS, List.head?_cons, dec, grp_frc, grp_lvs]
  simp [dkd, grp, lvsL, fsum]
theorem mds_grp (W : Int) (d : Dc) : ∃ t, mdsD W (grp d) = (!dfrc d && decide ((wsum (lvs d) : Int) ≤ W)) :: t := by
  obtain ⟨t, ht⟩ := laid_grp W d
  apply ex_head
  rw [mdsD, ht, List.filter_cons, if_pos (by rfl), List.map_cons, List.head?_cons]
theorem grp_flat {W : Int} {d : Dc} (hd : drt (grp d) = true) (hf : dfrc d = false) (hw : (wsum (lvs d) : Int) ≤ W) : txtD W (grp d) = ctx (lvs d) ∧ ∀ b ∈ mdsD W (grp d), b = true := by
  have hn : dcnt (grp d) = dcnt d + 1 := by simp [grp, dcnt, dcntL]; omega
  have hg : dec W (grp d) false 0 (fsum (lvsL (([] : List Prt).map (·.1)))) = true := by
    rw [dec, grp_frc, grp_lvs, hf]
    simp [hw, dkd, grp, lvsL, fsum]
  have hl : laidD W (grp d) = (grp d, 0, true) :: runS W (dcnt d) (kdS (grp d) 0 true ++ []) 0 := by
    have hc : cnC (grp d) 0 0 true = 0 := by rw [cnC, if_neg (by simp [endD, dkd, grp]), wrt_7 rfl]; rfl
    rw [laidD, hn, runS, hg, hc]
  obtain ⟨h1, h2⟩ := flat_run W (dcnt d) (kdS (grp d) 0 true ++ []) 0 (by rw [kdS, cntS_kids]; simp [grp, dks, dcntL, cntS]) fun p hp => by
    rw [List.append_nil] at hp
    obtain ⟨y, hy, rfl⟩ := List.mem_map.1 hp
    simp only [grp, dks, List.mem_cons, List.not_mem_nil, or_false] at hy
    subst hy
    exact ⟨rfl, hf, drt_at (drt_kids hd) (List.mem_cons_self ..)⟩
  refine ⟨?_, fun b hb => ?_⟩
  · rw [txtD, hl]
    show emD (runS W (dcnt d) (kdS (grp d) 0 true ++ []) 0) ⟨#[]⟩ 0 = _
    rw [h2]
    have : (kdS (grp d) 0 true ++ []).map (fun p : Prt => p.1) = [d] := rfl
    rw [this]
    apply ByteArray.ext
    simp [lvsL]
  · rw [mdsD, hl] at hb
    obtain ⟨p, hp, rfl⟩ := List.mem_map.1 hb
    rcases List.mem_cons.1 (List.mem_filter.1 hp).1 with rfl | hp
    · rfl
    · exact h1 p hp
/-- A text, a group, and something behind. -/
theorem mds_fits (W : Int) (s : ByteArray) (a b : Dc) : ∃ t, mdsD W (.mk 5 0 ⟨#[]⟩ [.mk 1 0 s [], grp a, b]) = (!dfrc a && decide ((ct s 0 : Int) + (wsum (lvs a) : Int) + (fsum (lvsL [b]) : Int) ≤ W)) :: t := by
  obtain ⟨n, hn⟩ : ∃ n, dcnt (.mk 5 0 ⟨#[]⟩ [.mk 1 0 s [], grp a, b]) = n + 3 := ⟨dcnt a + dcnt b, by simp [grp, dcnt, dcntL]; omega⟩
  apply ex_head
  · have e5 : ct (wrt (.mk 5 0 ⟨#[]⟩ [.mk 1 0 s [], grp a, b])) 0 = 0 := (wrt_no (by decide)).1
    have hc : cnC (.mk 5 0 ⟨#[]⟩ [.mk 1 0 s [], grp a, b]) 0 0 false = 0 := by rw [cnC, if_neg (by simp [endD, dkd]), e5]; rfl
    have hc1 : cnC (.mk 1 0 s []) 0 0 false = (ct s 0 : Int) := by rw [cnC, if_neg (by simp [endD, dkd])]; show (0 : Int) + (ct s 0 : Int) = _; omega
    have d5 : ∀ q, dec W (.mk 5 0 ⟨#[]⟩ [.mk 1 0 s [], grp a, b]) false 0 q = false := fun q => rfl
    have d1 : ∀ q, dec W (.mk 1 0 s []) false 0 q = false := fun q => rfl
    have k5 : kdS (.mk 5 0 ⟨#[]⟩ [.mk 1 0 s [], grp a, b]) 0 false ++ [] = [(.mk 1 0 s [], 0, false), (grp a, 0, false), (b, 0, false)] := rfl
    have hg : dec W (grp a) false (ct s 0 : Int) (fsum (lvsL ([((b, 0, false) : Prt)].map (·.1)))) = (!dfrc a && decide ((ct s 0 : Int) + (wsum (lvs a) : Int) + (fsum (lvsL [b]) : Int) ≤ W)) := by
      rw [dec, grp_frc, grp_lvs]; rfl
    rw [mdsD, laidD, hn, runS, d5, hc, k5, runS, d1, hc1]
    have k1 : kdS (.mk 1 0 s []) 0 false ++ [((grp a, 0, false) : Prt), (b, 0, false)] = (grp a, 0, false) :: [(b, 0, false)] := rfl
    rw [k1, runS, hg, List.filter_cons, if_neg (by simp [dkd]), List.filter_cons, if_neg (by simp [dkd]), List.filter_cons, if_pos (by rfl), List.map_cons, List.head?_cons]
end Go.Proofs.YtbjgoigdhijbgaaDoor
/- Layouts, plainly: what holds nothing turns nothing; all texts, in their order. -/
namespace Go.Proofs.YtbjgoigdhijbgaaDoor
open Go.RowKit Go.PlainAid

def nul9 : Dc := .mk 5 0 ⟨#[]⟩ []
theorem lvsL_nul : ∀ S : List Dc, lvsL (S ++ [nul9]) = lvsL S
  | [] => by simp only [List.nil_append, lvsL, nul9, lvs_other (show lfk 5 = false by decide), List.append_nil]
  | x :: t => by simp only [List.cons_append, lvsL, lvsL_nul t]
theorem run_tail (W : Int) : ∀ (n : Nat) (S : List Prt) (col : Int), cntS S ≤ n → runS W (n + 1) (S ++ [((nul9, 0, false) : Prt)]) col = runS W n S col ++ [((nul9, 0, false) : Prt)]
  | 0, [], col, _ => rfl
  | 0, p :: S, _, h => by have := dcnt_pos p.1; simp only [cntS] at h; omega
  | n + 1, [], col, _ => rfl
  | n + 1, (x, r, f) :: S, col, h => by
    have hm : (S ++ [((nul9, 0, false) : Prt)]).map (·.1) = S.map (·.1) ++ [nul9] := by simp
    obtain ⟨g, hg⟩ : ∃ g, g = dec W x f col (fsum (lvsL (S.map (·.1)))) := ⟨_, rfl⟩
    have hc : cntS (kdS x r g ++ S) ≤ n := by
      rw [kdS, cntS_kids]; obtain ⟨a, b, c, d⟩ := x; simp only [cntS, dcnt, dks] at h ⊢; omega
    rw [List.cons_append, runS, hm, lvsL_nul, ← hg, ← List.append_assoc, run_tail W n _ _ hc, runS, ← hg, List.cons_append]
theorem em_skip {p : Prt} (h1 : endD p.1 p.2.2 = false) (h2 : (wrt p.1).size = 0) (t : List Prt) (o : ByteArray) (w : Int) : emD (p :: t) o w = emD t o w := by
  rw [emD, h1, if_neg (by simp), if_pos h2]
theorem em_tail {p : Prt} (h1 : endD p.1 p.2.2 = false) (h2 : (wrt p.1).size = 0) : ∀ (l : List Prt) (o : ByteArray) (w : Int), emD (l ++ [p]) o w = emD l o w
  | [], o, w => by rw [List.nil_append, em_skip h1 h2]
  | q :: t, o, w => by
    rw [List.cons_append, emD, emD, em_tail h1 h2 t, em_tail h1 h2 t, em_tail h1 h2 t]
def same9 (d : Dc) : Dc := .mk 5 0 ⟨#[]⟩ [.mk 1 0 ⟨#[]⟩ [], .mk 6 0 ⟨#[]⟩ [d], nul9]
theorem same_txt (W : Int) (d : Dc) : txtD W (same9 d) = txtD W d := by
  have hn : dcnt (same9 d) = (dcnt d + 1) + 3 := by simp [same9, nul9, dcnt, dcntL]; omega
  have k5 : ∀ g, kdS (same9 d) 0 g ++ [] = [(.mk 1 0 ⟨#[]⟩ [], 0, g), (.mk 6 0 ⟨#[]⟩ [d], 0, g), (nul9, 0, g)] := fun g => rfl
  have k1 : ∀ S : List Prt, kdS (.mk 1 0 ⟨#[]⟩ []) 0 false ++ S = S := fun S => rfl
  have k6 : kdS (.mk 6 0 ⟨#[]⟩ [d]) 0 false ++ [((nul9, 0, false) : Prt)] = [((d, 0, false) : Prt)] ++ [((nul9, 0, false) : Prt)] := rfl
  have d5 : ∀ q c, dec W (same9 d) false c q = false := fun q c => rfl
  have d1 : ∀ q c, dec W (.mk 1 0 ⟨#[]⟩ []) false c q = false := fun q c => rfl
  have d6 : ∀ q c, dec W (.mk 6 0 ⟨#[]⟩ [d]) false c q = false := fun q c => rfl
  have c5 : cnC (same9 d) 0 0 false = 0 := by rw [cnC, if_neg (by simp [endD, dkd, same9])]; rw [show ct (wrt (same9 d)) 0 = 0 from (wrt_no (by decide)).1]; rfl
  have c1 : cnC (.mk 1 0 ⟨#[]⟩ []) 0 0 false = 0 := by rw [cnC, if_neg (by simp [endD, dkd])]; rw [show ct (wrt (.mk 1 0 ⟨#[]⟩ [])) 0 = 0 from ct_0]; rfl
  have c6 : cnC (.mk 6 0 ⟨#[]⟩ [d]) 0 0 false = 0 := by rw [cnC, if_neg (by simp [endD, dkd])]; rw [show ct (wrt (.mk 6 0 ⟨#[]⟩ [d])) 0 = 0 from (wrt_no (by decide)).1]; rfl
  have hl : laidD W (same9 d) = (same9 d, 0, false) :: (.mk 1 0 ⟨#[]⟩ [], 0, false) :: (.mk 6 0 ⟨#[]⟩ [d], 0, false) :: (laidD W d ++ [((nul9, 0, false) : Prt)]) := by
    rw [laidD, hn, runS, d5, c5, k5, runS, d1, c1, k1, runS, d6, c6, k6, run_tail W _ _ _ (by simp [cntS])]
    rfl
  rw [txtD, hl, em_skip (by rfl) (by rfl), em_skip (by rfl) (by rfl), em_skip (by rfl) (by rfl), em_tail (by rfl) (by rfl)]
  rfl
/-! ### all texts -/
/-- All of these but blanks and newlines. -/
def nb9 (s : ByteArray) : List UInt8 := s.data.toList.filter fun c => c != 32 && c != 10
theorem nb_app (a b : ByteArray) : nb9 (a ++ b) = nb9 a ++ nb9 b := by simp [nb9]
theorem nb_blk (n : Int) : nb9 (blk9 n) = [] := by
  rw [nb9, List.filter_eq_nil_iff]
  intro c hc
  simp only [blk9] at hc
  have := (List.mem_replicate.1 (by simpa using hc : c ∈ List.replicate n.toNat (32 : UInt8))).2
  subst this; simp
theorem nb_end {x : Dc} {f : Bool} (h : endD x f = true) : nb9 (wrt x) = [] := by
  have hk : dkd x ≠ 1 := by intro e; simp [endD, e] at h
  rw [wrt, if_neg hk]
  by_cases h2 : dkd x = 2
  · rw [if_pos h2]; rfl
  · rw [if_neg h2]; rfl
theorem nb_0 {s : ByteArray} (h : s.size = 0) : nb9 s = [] := by
  have : s = ⟨#[]⟩ := by apply ByteArray.ext; exact Array.eq_empty_of_size_eq_zero h
  rw [this]; rfl
theorem nb_em : ∀ (l : List Prt) (o : ByteArray) (w : Int), nb9 (emD l o w) = nb9 o ++ l.flatMap fun p => nb9 (wrt p.1)
  | [], o, w => by simp [emD]
  | p :: t, o, w => by
    rw [emD, List.flatMap_cons]
    by_cases h1 : endD p.1 p.2.2 = true
    · rw [if_pos h1, nb_em t, nb_app, nb_end h1]; simp [nb9]
    · rw [if_neg h1]
      by_cases h2 : (wrt p.1).size = 0
      · rw [if_pos h2, nb_em t, nb_0 h2]; simp
      · rw [if_neg h2, nb_em t, nb_app, nb_app, nb_blk]; simp
theorem nb_txt (W : Int) (d : Dc) : nb9 (txtD W d) = (prO 0 d).flatMap fun e => nb9 (wrt e.1) := by
  rw [txtD, nb_em, ← laidD_all W d, List.flatMap_map]
  rfl
mutual
/-- All texts of a document. -/
def wds : Dc → ByteArray
  | .mk _ _ t l => t ++ wdsL l
def wdsL : List Dc → ByteArray
  | [] => ⟨#[]⟩
  | x :: t => wds x ++ wdsL t
end
theorem nb_wrt {k n : Int} {t : ByteArray} {l : List Dc} (h : drt (.mk k n t l) = true) : nb9 (wrt (.mk k n t l)) = nb9 t := by
  simp only [drt, Bool.and_eq_true] at h
  have h1 := h.1
  by_cases hk : k = 1
  · subst hk; rfl
  · have hs : t.toList == [] := by
      unfold dal at h1
      rw [if_neg hk] at h1
      by_cases h2 : k = 2 ∨ k = 3 ∨ k = 4
      · rw [if_pos h2] at h1; simp only [Bool.and_eq_true] at h1; exact h1.2
      · rw [if_neg h2] at h1
        by_cases h5 : k = 5
        · rw [if_pos h5] at h1; simp only [Bool.and_eq_true] at h1; exact h1.2
        · rw [if_neg h5] at h1
          by_cases h6 : k = 6
          · rw [if_pos h6] at h1; simp only [Bool.and_eq_true] at h1; exact h1.2
          · rw [if_neg h6] at h1
            by_cases h7 : k = 7
            · rw [if_pos h7] at h1; simp only [Bool.and_eq_true] at h1; exact h1.2
            · rw [if_neg h7] at h1; cases h1
    have ht : t.data.toList = [] := by
      have : t.toList = [] := by simpa using hs
      rw [← ByteArray.toList_eq t]; exact this
    have hw : nb9 (wrt (.mk k n t l)) = [] := by
      rw [wrt, if_neg (show ¬ dkd (.mk k n t l) = 1 from hk)]
      by_cases h2 : dkd (.mk k n t l) = 2
      · rw [if_pos h2]; rfl
      · rw [if_neg h2]; rfl
    rw [hw, nb9, ht]; rfl
mutual
theorem prO_nb : ∀ (x : Dc) (r : Int), drt x = true → ((prO r x).flatMap fun e => nb9 (wrt e.1)) = nb9 (wds x)
  | .mk k n t l, r, h => by
    have hp : prO r (.mk k n t l) = (.mk k n t l, r) :: prOL (rgt r (.mk k n t l)) l := prO_eq r _
    rw [hp, List.flatMap_cons, nb_wrt h, prOL_nb l _ (drt_kids h), wds, nb_app]
theorem prOL_nb : ∀ (l : List Dc) (r : Int), drtL l = true → ((prOL r l).flatMap fun e => nb9 (wrt e.1)) = nb9 (wdsL l)
  | [], r, h => rfl
  | x :: t, r, h => by
    simp only [drtL, Bool.and_eq_true] at h
    rw [prOL, List.flatMap_append, prO_nb x r h.1, prOL_nb t r h.2, wdsL, nb_app]
end
/-- A layout has all texts, in their order. -/
theorem txt_all (W : Int) {d : Dc} (h : drt d = true) : nb9 (txtD W d) = nb9 (wds d) := by rw [nb_txt, prO_nb d 0 h]
end Go.Proofs.YtbjgoigdhijbgaaDoor
