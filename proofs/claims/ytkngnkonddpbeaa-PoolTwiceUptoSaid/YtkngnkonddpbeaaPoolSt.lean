/-
  The program's pool, plainly: what its two maps hold, how a tree is put, and that the numbers are the document's.
-/
import Derived.Test.YtkngnkonddpbeaaPoolDefs
namespace Go.Proofs.Ytkngnkonddpbeaa
open Go.RowKit Go.PlainAid

/-- An entry of a list: a part's number, or a comment. A list's key: the number of the list ahead, the entry. A node's key. -/
abbrev En := Nat × ByteArray
abbrev LK := Nat × En
abbrev NK := (Int × ByteArray × Bool) × Nat × Nat × Nat
structure Sto where
  ls : List LK
  ks : List NK
  zs : List Nat
instance decMem11 {α : Type} [DecidableEq α] (x : α) (l : List α) : Decidable (x ∈ l) := decidable_of_iff (l.any (fun y => decide (y = x)) = true) (by simp)
/-- The list with the number k is L. -/
inductive Dn (ls : List LK) : Nat → List En → Prop where
  | nil : Dn ls 0 []
  | cons (a : Nat) (L : List En) (k : Nat) (e : En) (h : Dn ls a L) (hk : ls[k]? = some (a, e)) : Dn ls (k + 1) (L ++ [e])
theorem Dn.more {ls : List LK} {k : Nat} {L : List En} (h : Dn ls k L) (m : List LK) : Dn (ls ++ m) k L := by
  induction h with
  | nil => exact .nil
  | cons a L k e _ hk ih => exact .cons a L k e ih (by rw [List.getElem?_append_left (List.getElem?_eq_some_iff.1 hk).1]; exact hk)
theorem Dn.le {ls : List LK} {k : Nat} {L : List En} (h : Dn ls k L) : k ≤ ls.length := by
  cases h with
  | nil => omega
  | cons a L k e _ hk => have := (List.getElem?_eq_some_iff.1 hk).1; omega
theorem Dn.func {ls : List LK} {k : Nat} {L : List En} (h : Dn ls k L) : ∀ {L' : List En}, Dn ls k L' → L = L' := by
  induction h with
  | nil => intro L' h'; cases h'; rfl
  | cons a L k e _ hk ih =>
    intro L' h'
    cases h' with
    | cons a' L2 _ e' h2 hk' =>
      rw [hk] at hk'
      simp only [Option.some.injEq, Prod.mk.injEq] at hk'
      obtain ⟨rfl, rfl⟩ := hk'
      rw [ih h2]
theorem Dn.inj {ls : List LK} (hn : ls.Nodup) {k : Nat} {L : List En} (h : Dn ls k L) : ∀ {k' : Nat} {L' : List En}, Dn ls k' L' → L = L' → k = k' := by
  induction h with
  | nil =>
    intro k' L' h' e
    cases h' with
    | nil => rfl
    | cons a' L2 k2 e' h2 hk' => simp at e
  | cons a L k e _ hk ih =>
    intro k' L' h' hl
    cases h' with
    | nil => simp at hl
    | cons a' L2 k2 e' h2 hk' =>
      obtain ⟨h3, h4⟩ := List.append_inj' hl rfl
      simp only [List.cons.injEq, and_true] at h4
      subst h4
      have := ih h2 h3
      subst this
      have hi := (List.getElem?_eq_some_iff.1 hk).1
      rw [← hk'] at hk
      rw [(List.getElem?_inj hi hn).1 hk]
/-- A list's number, and what the map holds then. -/
def lnum (x : LK) (ls : List LK) : Nat := ls.findIdx (fun y => decide (y = x)) + 1
def ladd (x : LK) (ls : List LK) : List LK := if x ∈ ls then ls else ls ++ [x]
theorem find_mem {α : Type} [DecidableEq α] {x : α} {l : List α} (h : x ∈ l) : l[l.findIdx (fun y => decide (y = x))]? = some x := by
  have hlt : l.findIdx (fun y => decide (y = x)) < l.length := List.findIdx_lt_length_of_exists ⟨x, h, by simp⟩
  have := List.findIdx_getElem (w := hlt)
  rw [List.getElem?_eq_getElem hlt]
  simpa using this
theorem find_not {α : Type} [DecidableEq α] {x : α} {l : List α} (h : x ∉ l) : l.findIdx (fun y => decide (y = x)) = l.length := by
  rw [List.findIdx_eq_length]
  intro y hy
  simp only [decide_eq_false_iff_not]
  rintro rfl
  exact h hy
theorem ladd_pre (x : LK) (ls : List LK) : ∃ m, ladd x ls = ls ++ m := by
  unfold ladd
  split
  · exact ⟨[], by simp⟩
  · exact ⟨[x], rfl⟩
theorem ladd_nodup {x : LK} {ls : List LK} (h : ls.Nodup) : (ladd x ls).Nodup := by
  unfold ladd
  split
  · exact h
  · rename_i hx
    rw [List.nodup_append]
    exact ⟨h, by simp, fun a ha b hb => by simp only [List.mem_cons, List.not_mem_nil, or_false] at hb; rintro rfl; exact hx (hb ▸ ha)⟩
theorem ladd_at (x : LK) (ls : List LK) : (ladd x ls)[lnum x ls - 1]? = some x := by
  unfold ladd lnum
  rw [Nat.add_sub_cancel]
  split
  · rename_i h
    exact find_mem h
  · rename_i h
    rw [find_not h, List.getElem?_append_right (Nat.le_refl _), Nat.sub_self]
    rfl
theorem lnum_pos (x : LK) (ls : List LK) : 1 ≤ lnum x ls := Nat.le_add_left _ _
theorem ladd_len (x : LK) (ls : List LK) : (ladd x ls).length ≤ ls.length + 1 := by
  unfold ladd
  split
  · omega
  · simp
theorem ladd_dn {ls : List LK} {a : Nat} {L : List En} (h : Dn ls a L) (e : En) : Dn (ladd (a, e) ls) (lnum (a, e) ls) (L ++ [e]) := by
  obtain ⟨m, hm⟩ := ladd_pre (a, e) ls
  have h1 := ladd_at (a, e) ls
  have h2 := lnum_pos (a, e) ls
  obtain ⟨k, hk⟩ : ∃ k, lnum (a, e) ls = k + 1 := ⟨lnum (a, e) ls - 1, by omega⟩
  rw [hk, Nat.add_sub_cancel] at h1
  rw [hk]
  exact .cons a L k e (by rw [hm]; exact h.more m) h1
/-- A row of comments. -/
def cnum : List ByteArray → Nat → List LK → Nat
  | [], a, _ => a
  | t :: r, a, ls => cnum r (lnum (a, 0, t) ls) (ladd (a, 0, t) ls)
def cadd : List ByteArray → Nat → List LK → List LK
  | [], _, ls => ls
  | t :: r, a, ls => cadd r (lnum (a, 0, t) ls) (ladd (a, 0, t) ls)
theorem cadd_pre : ∀ (l : List ByteArray) (a : Nat) (ls : List LK), ∃ m, cadd l a ls = ls ++ m
  | [], _, ls => ⟨[], by simp [cadd]⟩
  | t :: r, a, ls => by
    obtain ⟨m, h⟩ := ladd_pre (a, 0, t) ls
    obtain ⟨m2, h2⟩ := cadd_pre r (lnum (a, 0, t) ls) (ladd (a, 0, t) ls)
    exact ⟨m ++ m2, by simp only [cadd]; rw [h2, h, List.append_assoc]⟩
theorem cadd_len : ∀ (l : List ByteArray) (a : Nat) (ls : List LK), (cadd l a ls).length ≤ ls.length + l.length
  | [], _, ls => by simp [cadd]
  | t :: r, a, ls => by
    have h1 := ladd_len (a, 0, t) ls
    have h2 := cadd_len r (lnum (a, 0, t) ls) (ladd (a, 0, t) ls)
    simp only [cadd, List.length_cons]
    omega
/-- A node's number, and what the map holds then. -/
def nnum (x : NK) (ks : List NK) : Nat := ks.findIdx (fun y => decide (y = x)) + 1
def nadd (x : NK) (z : Nat) (S : Sto) : Sto := if x ∈ S.ks then S else { S with ks := S.ks ++ [x], zs := S.zs ++ [z] }
/-- A part is in: the list's number, the size, what is kept. -/
def kid (p : Nat × Sto) (it sz : Nat) : Nat × Nat × Sto := (lnum (it, p.1, ⟨#[]⟩) p.2.ls, sz + (p.2.zs[p.1 - 1]?).getD 0, { p.2 with ls := ladd (it, p.1, ⟨#[]⟩) p.2.ls })
/-- A node all of whose parts are in. -/
def ndone (k : Int) (t : ByteArray) (bl : Bool) (no ta : List ByteArray) (r : Nat × Nat × Sto) : Nat × Sto :=
  (nnum ((k, t, bl), r.1, cnum no 0 r.2.2.ls, cnum ta 0 (cadd no 0 r.2.2.ls)) r.2.2.ks,
   nadd ((k, t, bl), r.1, cnum no 0 r.2.2.ls, cnum ta 0 (cadd no 0 r.2.2.ls)) r.2.1 { r.2.2 with ls := cadd ta 0 (cadd no 0 r.2.2.ls) })
mutual
/-- A tree is put: its number, what is kept then. -/
def pt : Nd → Sto → Nat × Sto
  | .mk k t l _ bl no ta, S => ndone k t bl no ta (ptL l (0, 1, S))
def ptL : List Nd → Nat × Nat × Sto → Nat × Nat × Sto
  | [], r => r
  | x :: u, r => ptL u (kid (pt x r.2.2) r.1 r.2.1)
end
/-- What is kept is kept. -/
def Sto.pre (S S' : Sto) : Prop := (∃ m, S'.ls = S.ls ++ m) ∧ (∃ m, S'.ks = S.ks ++ m) ∧ ∃ m, S'.zs = S.zs ++ m
theorem Sto.pre.refl (S : Sto) : S.pre S := ⟨⟨[], by simp⟩, ⟨[], by simp⟩, ⟨[], by simp⟩⟩
theorem Sto.pre.trans {S T U : Sto} (h : S.pre T) (k : T.pre U) : S.pre U := by
  obtain ⟨⟨a, h1⟩, ⟨b, h2⟩, ⟨c, h3⟩⟩ := h
  obtain ⟨⟨a', k1⟩, ⟨b', k2⟩, ⟨c', k3⟩⟩ := k
  exact ⟨⟨a ++ a', by rw [k1, h1, List.append_assoc]⟩, ⟨b ++ b', by rw [k2, h2, List.append_assoc]⟩, ⟨c ++ c', by rw [k3, h3, List.append_assoc]⟩⟩
theorem pre_ls (S : Sto) {ls' : List LK} {m : List LK} (h : ls' = S.ls ++ m) : S.pre { S with ls := ls' } := ⟨⟨m, h⟩, ⟨[], by simp⟩, ⟨[], by simp⟩⟩
theorem nadd_pre (x : NK) (z : Nat) (S : Sto) : S.pre (nadd x z S) := by
  unfold nadd
  split
  · exact .refl S
  · exact ⟨⟨[], by simp⟩, ⟨[x], rfl⟩, ⟨[z], rfl⟩⟩
theorem kid_pre (p : Nat × Sto) (it sz : Nat) : p.2.pre (kid p it sz).2.2 := by
  obtain ⟨m, h⟩ := ladd_pre (it, p.1, ⟨#[]⟩) p.2.ls
  exact pre_ls p.2 h
theorem ndone_pre (k : Int) (t : ByteArray) (bl : Bool) (no ta : List ByteArray) (r : Nat × Nat × Sto) : r.2.2.pre (ndone k t bl no ta r).2 := by
  obtain ⟨m, h⟩ := cadd_pre no 0 r.2.2.ls
  obtain ⟨m2, h2⟩ := cadd_pre ta 0 (cadd no 0 r.2.2.ls)
  refine (pre_ls r.2.2 (ls' := cadd ta 0 (cadd no 0 r.2.2.ls)) (m := m ++ m2) (by rw [h2, h, List.append_assoc])).trans ?_
  exact nadd_pre ((k, t, bl), r.1, cnum no 0 r.2.2.ls, cnum ta 0 (cadd no 0 r.2.2.ls)) r.2.1 { r.2.2 with ls := cadd ta 0 (cadd no 0 r.2.2.ls) }
mutual
theorem pt_pre : ∀ (n : Nd) (S : Sto), S.pre (pt n S).2
  | .mk k t l br bl no ta, S => by
    simp only [pt]
    exact (ptL_pre l (0, 1, S)).trans (ndone_pre k t bl no ta _)
theorem ptL_pre : ∀ (l : List Nd) (r : Nat × Nat × Sto), r.2.2.pre (ptL l r).2.2
  | [], r => by simp only [ptL]; exact .refl _
  | x :: u, r => by
    simp only [ptL]
    exact (pt_pre x r.2.2).trans ((kid_pre _ _ _).trans (ptL_pre u _))
end
/-! ### what is kept is right -/
def kE (i : Nat) : En := (i, ⟨#[]⟩)
def cE (t : ByteArray) : En := (0, t)
def kdt : Nd → Int × ByteArray × Bool | .mk k t _ _ bl _ _ => (k, t, bl)
def noc : Nd → List ByteArray | .mk _ _ _ _ _ no _ => no
def tac : Nd → List ByteArray | .mk _ _ _ _ _ _ ta => ta
theorem map_kE {a b : List Nat} (h : a.map kE = b.map kE) : a = b := by
  have := congrArg (List.map Prod.fst) h
  simpa [kE, Function.comp_def] using this
theorem map_cE {a b : List ByteArray} (h : a.map cE = b.map cE) : a = b := by
  have := congrArg (List.map Prod.snd) h
  simpa [cE, Function.comp_def] using this
/-- These are the parts' numbers. -/
inductive Kids (xs : List Nd) : List Nat → List Nd → Prop where
  | nil : Kids xs [] []
  | cons (i : Nat) (z y : Nd) (ids : List Nat) (l : List Nd) (hz : xs[i]? = some z) (hl : lk false z y = true) (h : Kids xs ids l) : Kids xs ((i + 1) :: ids) (y :: l)
theorem Kids.more {xs : List Nd} {ids : List Nat} {l : List Nd} (h : Kids xs ids l) (ys : List Nd) : Kids (xs ++ ys) ids l := by
  induction h with
  | nil => exact .nil
  | cons i z y ids l hz hl _ ih => exact .cons i z y ids l (by rw [List.getElem?_append_left (List.getElem?_eq_some_iff.1 hz).1]; exact hz) hl ih
theorem Kids.snoc {xs : List Nd} {ids : List Nat} {l : List Nd} (h : Kids xs ids l) {i : Nat} {z y : Nd} (hz : xs[i]? = some z) (hl : lk false z y = true) : Kids xs (ids ++ [i + 1]) (l ++ [y]) := by
  induction h with
  | nil => exact .cons i z y [] [] hz hl .nil
  | cons j z2 y2 ids l hz2 hl2 _ ih => exact .cons j z2 y2 _ _ hz2 hl2 ih
theorem Kids.like {xs : List Nd} {ids : List Nat} {l : List Nd} (h : Kids xs ids l) : ∀ {l' : List Nd}, Kids xs ids l' → lkL false l l' = true := by
  induction h with
  | nil => intro l' h'; cases h'; simp only [lkL]
  | cons i z y ids l hz hl _ ih =>
    intro l' h'
    cases h' with
    | cons _ z' y' _ l2 hz' hl' h2 =>
      rw [hz] at hz'
      simp only [Option.some.injEq] at hz'
      subst hz'
      simp only [lkL, Bool.and_eq_true]
      exact ⟨lk_trans y z y' (by rw [lk_comm']; exact hl) hl', ih h2⟩
theorem Kids.same {xs : List Nd} (hp : Pk xs) {ids : List Nat} {l : List Nd} (h : Kids xs ids l) : ∀ {ids' : List Nat} {l' : List Nd}, Kids xs ids' l' → lkL false l l' = true → ids = ids' := by
  induction h with
  | nil =>
    intro ids' l' h' hl'
    cases h' with
    | nil => rfl
    | cons => simp only [lkL] at hl'; cases hl'
  | cons i z y ids l hz hl _ ih =>
    intro ids' l' h' hl'
    cases h' with
    | nil => simp only [lkL] at hl'; cases hl'
    | cons i' z' y' ids2 l2 hz' hl2 h2 =>
      simp only [lkL, Bool.and_eq_true] at hl'
      have hzz : lk false z z' = true := lk_trans z y z' hl (lk_trans y y' z' hl'.1 (by rw [lk_comm']; exact hl2))
      have : i = i' := by
        rcases Nat.lt_trichotomy i i' with hlt | he | hlt
        · have := hp.2 i i' z z' hlt hz hz'
          rw [hzz] at this; cases this
        · exact he
        · have := hp.2 i' i z' z hlt hz' hz
          rw [lk_comm', hzz] at this; cases this
      subst this
      rw [ih h2 hl'.2]
theorem Kids.len {xs : List Nd} {ids : List Nat} {l : List Nd} (h : Kids xs ids l) : ids.length = l.length := by
  induction h with
  | nil => rfl
  | cons _ _ _ _ _ _ _ _ ih => simp only [List.length_cons, ih]
/-- What is kept is right: the trees xs; A: the lists that are being read. -/
structure Inv (S : Sto) (xs : List Nd) (A : List (List En)) : Prop where
  nd : S.ls.Nodup
  zs : S.zs = xs.map cnt
  kl : S.ks.length = xs.length
  key : ∀ (i : Nat) (x : Nd), xs[i]? = some x → ∃ (ids : List Nat) (it no ta : Nat), S.ks[i]? = some (kdt x, it, no, ta) ∧ Dn S.ls it (ids.map kE) ∧ Kids xs ids (kds' x) ∧ Dn S.ls no ((noc x).map cE) ∧ Dn S.ls ta ((tac x).map cE)
  own : ∀ j, j < S.ls.length → ∃ P, Dn S.ls (j + 1) P ∧ ((∃ L ∈ A, P <+: L) ∨ ∃ (i : Nat) (k : NK) (h : Nat) (L : List En), S.ks[i]? = some k ∧ Dn S.ls h L ∧ (h = k.2.1 ∨ h = k.2.2.1 ∨ h = k.2.2.2) ∧ P <+: L)
theorem inv_nil : Inv ⟨[], [], []⟩ [] [] := ⟨by simp, rfl, rfl, fun i x h => by simp at h, fun j h => by simp at h⟩
theorem Inv.weak {S : Sto} {xs : List Nd} {A : List (List En)} (h : Inv S xs A) (L : List En) : Inv S xs (L :: A) :=
  ⟨h.nd, h.zs, h.kl, h.key, fun j hj => by
    obtain ⟨P, h1, h2⟩ := h.own j hj
    refine ⟨P, h1, h2.imp (fun ⟨L', hm, hp⟩ => ⟨L', List.mem_cons_of_mem _ hm, hp⟩) id⟩⟩
/-- A list grows by an entry. -/
theorem Inv.list {S : Sto} {xs : List Nd} {A : List (List En)} {L : List En} (h : Inv S xs (L :: A)) {a : Nat} (hd : Dn S.ls a L) (e : En) : Inv { S with ls := ladd (a, e) S.ls } xs ((L ++ [e]) :: A) := by
  obtain ⟨m, hm⟩ := ladd_pre (a, e) S.ls
  refine ⟨(ladd_nodup h.nd : (ladd (a, e) S.ls).Nodup), h.zs, h.kl, fun i x hx => ?_, fun j hj => ?_⟩
  · obtain ⟨ids, it, no, ta, h1, h2, h3, h4, h5⟩ := h.key i x hx
    exact ⟨ids, it, no, ta, h1, by rw [hm]; exact h2.more m, h3, by rw [hm]; exact h4.more m, by rw [hm]; exact h5.more m⟩
  · by_cases hlt : j < S.ls.length
    · obtain ⟨P, h1, h2⟩ := h.own j hlt
      refine ⟨P, by show Dn (ladd (a, e) S.ls) _ _; rw [hm]; exact h1.more m, ?_⟩
      rcases h2 with ⟨L', hL, hp⟩ | ⟨i, k, q, L', h3, h4, h5, h6⟩
      · rcases List.mem_cons.1 hL with rfl | hL
        · exact .inl ⟨_, List.mem_cons_self, hp.trans (List.prefix_append _ _)⟩
        · exact .inl ⟨L', List.mem_cons_of_mem _ hL, hp⟩
      · exact .inr ⟨i, k, q, L', h3, by show Dn (ladd (a, e) S.ls) _ _; rw [hm]; exact h4.more m, h5, h6⟩
    · have hl := ladd_len (a, e) S.ls
      have hj : j < (ladd (a, e) S.ls).length := hj
      have hx : (a, e) ∉ S.ls := by
        intro hx
        unfold ladd at hj
        rw [if_pos hx] at hj
        exact hlt hj
      have hn : lnum (a, e) S.ls = j + 1 := by unfold lnum; rw [find_not hx]; omega
      have := ladd_dn hd e
      rw [hn] at this
      exact ⟨L ++ [e], this, .inl ⟨_, List.mem_cons_self, List.prefix_rfl⟩⟩
/-- A list grows by comments. -/
theorem Inv.notes {xs : List Nd} {A : List (List En)} : ∀ (l : List ByteArray) (S : Sto) (L : List En) (a : Nat), Inv S xs (L :: A) → Dn S.ls a L →
    Inv { S with ls := cadd l a S.ls } xs ((L ++ l.map cE) :: A) ∧ Dn (cadd l a S.ls) (cnum l a S.ls) (L ++ l.map cE)
  | [], S, L, a, h, hd => by
    simp only [cadd, cnum, List.map_nil, List.append_nil]
    exact ⟨h, hd⟩
  | t :: r, S, L, a, h, hd => by
    have h1 := h.list hd (cE t)
    have h2 := ladd_dn hd (cE t)
    have h3 := Inv.notes r { S with ls := ladd (a, cE t) S.ls } (L ++ [cE t]) (lnum (a, cE t) S.ls) h1 h2
    simp only [cadd, cnum, List.map_cons]
    rw [show L ++ cE t :: r.map cE = (L ++ [cE t]) ++ r.map cE by simp]
    exact h3
theorem findIdx_two {α β : Type} {p : α → Bool} {q : β → Bool} : ∀ {l : List α} {m : List β}, l.length = m.length → (∀ (i : Nat) (a : α) (b : β), l[i]? = some a → m[i]? = some b → p a = q b) → l.findIdx p = m.findIdx q
  | [], [], _, _ => rfl
  | [], _ :: _, h, _ => by simp at h
  | _ :: _, [], h, _ => by simp at h
  | a :: l, b :: m, h, hp => by
    rw [List.findIdx_cons, List.findIdx_cons, hp 0 a b rfl rfl, findIdx_two (l := l) (m := m) (by simpa using h) (fun i x y hx hy => hp (i + 1) x y (by simpa using hx) (by simpa using hy))]
/-- A node all of whose parts are in: its number, and what is kept then. -/
theorem Inv.done {S : Sto} {xs : List Nd} {A : List (List En)} {ids : List Nat} {it : Nat} {k : Int} {t : ByteArray} {l : List Nd} (br bl : Bool) (no ta : List ByteArray) (h : Inv S xs (ids.map kE :: A)) (hp : Pk xs) (hd : Dn S.ls it (ids.map kE)) (hk : Kids xs ids l) :
    (ndone k t bl no ta (it, 1 + cntL l, S)).1 = xs.findIdx (fun x => lk false x (.mk k t l br bl no ta)) + 1 ∧
    Inv (ndone k t bl no ta (it, 1 + cntL l, S)).2 (if has xs (.mk k t l br bl no ta) then xs else xs ++ [.mk k t l br bl no ta]) A := by
  obtain ⟨g1, g2⟩ := Inv.notes no S [] 0 (h.weak []) .nil
  obtain ⟨g3, g4⟩ := Inv.notes ta { S with ls := cadd no 0 S.ls } [] 0 (g1.weak []) .nil
  simp only [List.nil_append] at g1 g2 g3 g4
  obtain ⟨m1, hm1⟩ := cadd_pre no 0 S.ls
  obtain ⟨m2, hm2⟩ := cadd_pre ta 0 (cadd no 0 S.ls)
  have e1 : Dn (cadd ta 0 (cadd no 0 S.ls)) it (ids.map kE) := by rw [hm2, hm1]; exact (hd.more m1).more m2
  have e2 : Dn (cadd ta 0 (cadd no 0 S.ls)) (cnum no 0 S.ls) (no.map cE) := by rw [hm2]; exact g2.more m2
  unfold ndone
  obtain ⟨N1, hN1⟩ : ∃ N1, N1 = cnum no 0 S.ls := ⟨_, rfl⟩
  obtain ⟨N2, hN2⟩ : ∃ N2, N2 = cnum ta 0 (cadd no 0 S.ls) := ⟨_, rfl⟩
  obtain ⟨LS, hLS⟩ : ∃ LS, LS = cadd ta 0 (cadd no 0 S.ls) := ⟨_, rfl⟩
  simp only
  rw [← hN1] at e2 ⊢
  rw [← hN2] at g4 ⊢
  rw [← hLS] at e1 e2 g3 g4 ⊢
  have hkl : S.ks.length = xs.length := g3.kl
  have hcong : ∀ (i : Nat) (a : NK) (x : Nd), S.ks[i]? = some a → xs[i]? = some x → (a = ((k, t, bl), it, N1, N2) ↔ lk false x (.mk k t l br bl no ta) = true) := by
    intro i a x ha hx
    obtain ⟨ids', it', no', ta', f1, f2, f3, f4, f5⟩ := g3.key i x hx
    have f1 : S.ks[i]? = some (kdt x, it', no', ta') := f1
    rw [ha] at f1
    simp only [Option.some.injEq] at f1
    subst f1
    cases x with
    | mk k' t' l' br' bl' no2 ta2 =>
      simp only [kdt, kds', noc, tac] at f3 f4 f5 ⊢
      simp only [lk, Bool.and_eq_true, Bool.not_false, Bool.true_or, and_true, beq_iff_eq, decide_eq_true_eq, Prod.mk.injEq]
      constructor
      · rintro ⟨⟨rfl, rfl, rfl⟩, rfl, rfl, rfl⟩
        have i1 := map_kE (f2.func e1)
        subst i1
        exact ⟨⟨⟨⟨⟨rfl, rfl⟩, rfl⟩, map_cE (f4.func e2)⟩, map_cE (f5.func g4)⟩, f3.like hk⟩
      · rintro ⟨⟨⟨⟨⟨rfl, ht⟩, rfl⟩, rfl⟩, rfl⟩, hl⟩
        have i1 := f3.same hp hk hl
        subst i1
        have ht : t' = t := by
          cases t'; cases t
          simp only [ByteArray.toList_eq] at ht
          simp only [ByteArray.mk.injEq]
          exact Array.toList_inj.1 (by simpa using ht)
        exact ⟨⟨rfl, ht, rfl⟩, f2.inj g3.nd e1 rfl, f4.inj g3.nd e2 rfl, f5.inj g3.nd g4 rfl⟩
  have hfi : S.ks.findIdx (fun y => decide (y = ((k, t, bl), it, N1, N2))) = xs.findIdx (fun x => lk false x (.mk k t l br bl no ta)) := findIdx_two hkl (fun i a x ha hx => by rw [Bool.eq_iff_iff, decide_eq_true_iff]; exact hcong i a x ha hx)
  refine ⟨by show S.ks.findIdx _ + 1 = _; rw [hfi], ?_⟩
  have hmem : ((k, t, bl), it, N1, N2) ∈ S.ks ↔ has xs (.mk k t l br bl no ta) = true := by
    constructor
    · intro hm
      obtain ⟨i, hi, he⟩ := List.getElem_of_mem hm
      have hx := List.getElem?_eq_getElem (l := xs) (i := i) (by omega)
      exact has_iff.2 ⟨i, _, hx, (hcong i _ _ (List.getElem?_eq_getElem hi) hx).1 he⟩
    · intro hh
      obtain ⟨i, x, hx, hl⟩ := has_iff.1 hh
      have hi : i < S.ks.length := by have := (List.getElem?_eq_some_iff.1 hx).1; omega
      rw [← (hcong i _ _ (List.getElem?_eq_getElem hi) hx).2 hl]
      exact List.getElem_mem hi
  unfold nadd
  by_cases hh : has xs (.mk k t l br bl no ta) = true
  · have hm := hmem.2 hh
    simp only
    rw [if_pos hh, if_pos hm]
    obtain ⟨i, hi, he⟩ := List.getElem_of_mem hm
    have hki : S.ks[i]? = some ((k, t, bl), it, N1, N2) := by rw [List.getElem?_eq_getElem hi, he]
    refine ⟨g3.nd, g3.zs, g3.kl, g3.key, fun j hj => ?_⟩
    obtain ⟨P, p1, p2⟩ := g3.own j hj
    refine ⟨P, p1, ?_⟩
    rcases p2 with ⟨L, hL, hpx⟩ | p2
    · simp only [List.mem_cons] at hL
      rcases hL with rfl | rfl | rfl | hL
      · exact .inr ⟨i, _, N2, _, hki, g4, .inr (.inr rfl), hpx⟩
      · exact .inr ⟨i, _, N1, _, hki, e2, .inr (.inl rfl), hpx⟩
      · exact .inr ⟨i, _, it, _, hki, e1, .inl rfl, hpx⟩
      · exact .inl ⟨L, hL, hpx⟩
    · exact .inr p2
  · have hm : ((k, t, bl), it, N1, N2) ∉ S.ks := fun hm => hh (hmem.1 hm)
    simp only
    rw [if_neg hh, if_neg hm]
    have hki : (S.ks ++ [((k, t, bl), it, N1, N2)])[S.ks.length]? = some ((k, t, bl), it, N1, N2) := by
      rw [List.getElem?_append_right (Nat.le_refl _), Nat.sub_self]; rfl
    refine ⟨g3.nd, ?_, ?_, fun i x hx => ?_, fun j hj => ?_⟩
    · show S.zs ++ [1 + cntL l] = _
      have := g3.zs
      simp only at this
      rw [this, List.map_append]
      simp only [List.map_cons, List.map_nil, cnt]
    · show (S.ks ++ [_]).length = _
      simp only [List.length_append, List.length_cons, List.length_nil]
      have := g3.kl
      simp only at this
      omega
    · by_cases hi : i < xs.length
      · rw [List.getElem?_append_left hi] at hx
        obtain ⟨ids', it', no', ta', f1, f2, f3, f4, f5⟩ := g3.key i x hx
        refine ⟨ids', it', no', ta', ?_, f2, f3.more _, f4, f5⟩
        have f1 : S.ks[i]? = some (kdt x, it', no', ta') := f1
        show (S.ks ++ [_])[i]? = _
        rw [List.getElem?_append_left (List.getElem?_eq_some_iff.1 f1).1]
        exact f1
      · have hlt := (List.getElem?_eq_some_iff.1 hx).1
        simp only [List.length_append, List.length_cons, List.length_nil] at hlt
        obtain rfl : i = xs.length := by omega
        rw [List.getElem?_append_right (Nat.le_refl _), Nat.sub_self] at hx
        simp only [List.getElem?_cons_zero, Option.some.injEq] at hx
        subst hx
        refine ⟨ids, it, N1, N2, ?_, e1, hk.more _, e2, g4⟩
        rw [← hkl]
        exact hki
    · obtain ⟨P, p1, p2⟩ := g3.own j hj
      refine ⟨P, p1, ?_⟩
      rcases p2 with ⟨L, hL, hpx⟩ | ⟨i, k9, q, L, h3, h4, h5, h6⟩
      · simp only [List.mem_cons] at hL
        rcases hL with rfl | rfl | rfl | hL
        · exact .inr ⟨_, _, N2, _, hki, g4, .inr (.inr rfl), hpx⟩
        · exact .inr ⟨_, _, N1, _, hki, e2, .inr (.inl rfl), hpx⟩
        · exact .inr ⟨_, _, it, _, hki, e1, .inl rfl, hpx⟩
        · exact .inl ⟨L, hL, hpx⟩
      · refine .inr ⟨i, k9, q, L, ?_, h4, h5, h6⟩
        have h3 : S.ks[i]? = some k9 := h3
        show (S.ks ++ [_])[i]? = _
        rw [List.getElem?_append_left (List.getElem?_eq_some_iff.1 h3).1]
        exact h3
/-- A TREE IS PUT: the number is the document's, and what is kept is right. -/
theorem pt_ok : ∀ (m : Nat) (n : Nd), cnt n ≤ m → ∀ (S : Sto) (xs : List Nd) (A : List (List En)), Inv S xs A → Pk xs → (pt n S).1 = pidx n xs ∧ Inv (pt n S).2 (pad n xs) A := by
  intro m
  induction m with
  | zero => intro n hn; have := cnt_pos n; omega
  | succ m ih =>
    intro n hn S xs A h hp
    cases n with
    | mk k t l br bl no ta =>
      simp only [cnt] at hn
      have hl : ∀ (l : List Nd), cntL l ≤ m → ∀ (S : Sto) (xs : List Nd) (ids : List Nat) (l0 : List Nd) (it sz : Nat), Inv S xs (ids.map kE :: A) → Pk xs → Dn S.ls it (ids.map kE) → Kids xs ids l0 →
          ∃ ids', Inv (ptL l (it, sz, S)).2.2 (padL l xs) (ids'.map kE :: A) ∧ Dn (ptL l (it, sz, S)).2.2.ls (ptL l (it, sz, S)).1 (ids'.map kE) ∧ Kids (padL l xs) ids' (l0 ++ l) ∧ (ptL l (it, sz, S)).2.1 = sz + cntL l := by
        intro l
        induction l with
        | nil =>
          intro _ S xs ids l0 it sz h hp hd hk
          simp only [ptL, padL, cntL, List.append_nil]
          exact ⟨ids, h, hd, hk, by omega⟩
        | cons y u ihl =>
          intro hc S xs ids l0 it sz h hp hd hk
          simp only [cntL] at hc
          obtain ⟨a1, a2⟩ := ih y (by omega) S xs _ h hp
          obtain ⟨⟨m1, b1⟩, -, -⟩ := pt_pre y S
          obtain ⟨i, x, hx, hlx, hi⟩ := pidx_at hp y
          obtain ⟨ys, hys⟩ := pad_pre y xs
          have hd1 : Dn (pt y S).2.ls it (ids.map kE) := by rw [b1]; exact hd.more m1
          have hp1 := pk_pad y xs hp
          have hk1 : Kids (pad y xs) (ids ++ [i + 1]) (l0 ++ [y]) := Kids.snoc (by rw [hys]; exact hk.more ys) hx hlx
          rw [hi] at a1
          have c1 := a2.list hd1 (kE (i + 1))
          have c2 := ladd_dn hd1 (kE (i + 1))
          rw [show ids.map kE ++ [kE (i + 1)] = (ids ++ [i + 1]).map kE by simp] at c1 c2
          have hz : ((pt y S).2.zs[i + 1 - 1]?).getD 0 = cnt y := by
            rw [a2.zs, List.getElem?_map, Nat.add_sub_cancel, hx]
            simp only [Option.map_some, Option.getD_some]
            exact lk_cnt x y hlx
          obtain ⟨ids', d1, d2, d3, d4⟩ := ihl (by omega) { (pt y S).2 with ls := ladd (it, kE (i + 1)) (pt y S).2.ls } (pad y xs) (ids ++ [i + 1]) (l0 ++ [y]) (lnum (it, kE (i + 1)) (pt y S).2.ls) (sz + cnt y) c1 hp1 c2 hk1
          simp only [ptL, padL, kid, a1, hz, cntL]
          rw [show l0 ++ y :: u = l0 ++ [y] ++ u by simp]
          exact ⟨ids', d1, d2, d3, by rw [show sz + (cnt y + cntL u) = sz + cnt y + cntL u by omega]; exact d4⟩
      obtain ⟨ids, d1, d2, d3, d4⟩ := hl l (by omega) S xs [] [] 0 1 (h.weak []) hp .nil .nil
      have hp1 := pk_padL l xs hp
      simp only [List.nil_append] at d3
      obtain ⟨f1, f2⟩ := Inv.done (k := k) (t := t) br bl no ta d1 hp1 d2 d3
      have hr : ptL l (0, 1, S) = ((ptL l (0, 1, S)).1, 1 + cntL l, (ptL l (0, 1, S)).2.2) := by rw [← d4]
      have hpt : pt (.mk k t l br bl no ta) S = ndone k t bl no ta ((ptL l (0, 1, S)).1, 1 + cntL l, (ptL l (0, 1, S)).2.2) := by
        rw [← hr]; simp only [pt]
      rw [hpt, f1, pad_eq]
      exact ⟨rfl, f2⟩
/-! ### how many lists there can be -/
theorem pigeon : ∀ (n m : Nat) (f : Nat → Nat), (∀ i, i < n → f i < m) → (∀ i j, i < n → j < n → f i = f j → i = j) → n ≤ m
  | 0, _, _, _, _ => Nat.zero_le _
  | n + 1, m, f, h1, h2 => by
    have h0 := h1 n (by omega)
    have := pigeon n (m - 1) (fun i => if f i = m - 1 then f n else f i) (fun i hi => by
      have h3 := h1 i (by omega)
      have h4 : f i ≠ f n := fun e => by have := h2 i n (by omega) (by omega) e; omega
      show (if f i = m - 1 then f n else f i) < m - 1
      split <;> omega) (fun i j hi hj e => by
      have hi4 : f i ≠ f n := fun e => by have := h2 i n (by omega) (by omega) e; omega
      have hj4 : f j ≠ f n := fun e => by have := h2 j n (by omega) (by omega) e; omega
      have e : (if f i = m - 1 then f n else f i) = (if f j = m - 1 then f n else f j) := e
      apply h2 i j (by omega) (by omega)
      split at e <;> split at e <;> omega)
    omega
theorem len_cntP : ∀ l : List Nd, l.length ≤ cntL l
  | [] => by simp
  | x :: u => by simp only [cntL, List.length_cons]; have := cnt_pos x; have := len_cntP u; omega
/-- There are not many lists. -/
theorem Inv.few {S : Sto} {xs : List Nd} (h : Inv S xs []) (hx : ∀ x ∈ xs, OkP x) : S.ls.length ≤ xs.length * 3 * 1048577 := by
  have hex : ∀ j, ∃ c, j < S.ls.length → c < xs.length * 3 * 1048577 ∧ ∃ (i : Nat) (k : NK) (q : Nat) (w : Nat) (L P : List En), c = (i * 3 + w) * 1048577 + P.length ∧ P.length ≤ 1048576 ∧ w < 3 ∧ S.ks[i]? = some k ∧ (w = 0 → q = k.2.1) ∧ (w = 1 → q = k.2.2.1) ∧ (w = 2 → q = k.2.2.2) ∧ Dn S.ls q L ∧ P <+: L ∧ Dn S.ls (j + 1) P := by
    intro j
    by_cases hj : j < S.ls.length
    · obtain ⟨P, p1, p2⟩ := h.own j hj
      rcases p2 with ⟨L, hL, -⟩ | ⟨i, k, q, L, h3, h4, h5, h6⟩
      · simp at hL
      · have hi : i < xs.length := by rw [← h.kl]; exact (List.getElem?_eq_some_iff.1 h3).1
        have hxi := List.getElem?_eq_getElem hi
        obtain ⟨ids, it, no, ta, f1, f2, f3, f4, f5⟩ := h.key i _ hxi
        have hok := hx _ (List.getElem_mem hi)
        rw [h3] at f1
        simp only [Option.some.injEq] at f1
        subst f1
        have hpl := h6.length_le
        have hlen : L.length ≤ 1048576 := by
          obtain ⟨o1, o2, -⟩ := hok
          have hkl := f3.len
          cases hxx : xs[i] with
          | mk k' t' l' br' bl' no2 ta2 =>
            rw [hxx] at f3 f4 f5 o1 o2 hkl
            simp only [smk] at o2
            simp only [cnt] at o1
            have hcl := len_cntP l'
            rcases h5 with e | e | e
            · simp only at e; subst e
              have := h4.func f2
              rw [this, List.length_map, hkl]
              simp only [kds']
              omega
            · simp only at e; subst e
              have := h4.func f4
              rw [this, List.length_map]
              exact o2.1
            · simp only at e; subst e
              have := h4.func f5
              rw [this, List.length_map]
              exact o2.2.1
        have fin : ∀ w, w < 3 → (w = 0 → q = it) → (w = 1 → q = no) → (w = 2 → q = ta) → _ := fun w hw w0 w1 w2 => (⟨(i * 3 + w) * 1048577 + P.length, fun _ => ⟨by
            have : (i * 3 + w + 1) * 1048577 ≤ xs.length * 3 * 1048577 := Nat.mul_le_mul_right _ (by omega)
            omega, i, _, q, w, L, P, rfl, by omega, hw, h3, w0, w1, w2, h4, h6, p1⟩⟩ : ∃ c, j < S.ls.length → c < xs.length * 3 * 1048577 ∧ ∃ (i : Nat) (k : NK) (q : Nat) (w : Nat) (L P : List En), c = (i * 3 + w) * 1048577 + P.length ∧ P.length ≤ 1048576 ∧ w < 3 ∧ S.ks[i]? = some k ∧ (w = 0 → q = k.2.1) ∧ (w = 1 → q = k.2.2.1) ∧ (w = 2 → q = k.2.2.2) ∧ Dn S.ls q L ∧ P <+: L ∧ Dn S.ls (j + 1) P)
        rcases h5 with e | e | e
        · exact fin 0 (by omega) (fun _ => e) (fun h => by omega) (fun h => by omega)
        · exact fin 1 (by omega) (fun h => by omega) (fun _ => e) (fun h => by omega)
        · exact fin 2 (by omega) (fun h => by omega) (fun h => by omega) (fun _ => e)
    · exact ⟨0, fun h => absurd h hj⟩
  refine pigeon _ _ (fun j => Classical.choose (hex j)) (fun j hj => (Classical.choose_spec (hex j) hj).1) (fun a b ha hb e => ?_)
  obtain ⟨-, i, k, q, w, L, P, c1, c2, c3, c4, c5, c6, c7, c8, c9, c10⟩ := Classical.choose_spec (hex a) ha
  obtain ⟨-, i', k', q', w', L', P', d1, d2, d3, d4, d5, d6, d7, d8, d9, d10⟩ := Classical.choose_spec (hex b) hb
  have e : Classical.choose (hex a) = Classical.choose (hex b) := e
  rw [c1, d1] at e
  have e1 : i * 3 + w = i' * 3 + w' := by omega
  have e2 : P.length = P'.length := by omega
  obtain rfl : i = i' := by omega
  obtain rfl : w = w' := by omega
  rw [c4] at d4
  simp only [Option.some.injEq] at d4
  subst d4
  have hq : q = q' := by
    rcases (by omega : w = 0 ∨ w = 1 ∨ w = 2) with h | h | h
    · rw [c5 h, d5 h]
    · rw [c6 h, d6 h]
    · rw [c7 h, d7 h]
  subst hq
  have hL := c8.func d8
  subst hL
  have hP : P = P' := by rw [List.prefix_iff_eq_take.1 c9, List.prefix_iff_eq_take.1 d9, e2]
  subst hP
  have := c10.inj h.nd d10 rfl
  omega
end Go.Proofs.Ytkngnkonddpbeaa
