/-
  Trees, plainly: what they are, how they lie in memory, what is counted, noted, literal, forced, like.
-/
import Derived.Test.YtbjgoigdhijbgaaDoorAid
set_option linter.all false
namespace Go.Proofs.YtbjgoigdhijbgaaDoor
open Go.RowKit Go.PlainAid

/-- A node: Kind, Text, L, Break, Blank, Notes, Tail. -/
inductive Nd where
  | mk (k : Int) (t : ByteArray) (l : List Nd) (br bl : Bool) (no ta : List ByteArray)
mutual
/-- How many nodes. -/
def cnt : Nd → Nat
  | .mk _ _ l _ _ _ _ => 1 + cntL l
def cntL : List Nd → Nat
  | [] => 0
  | x :: t => cnt x + cntL t
end
mutual
/-- All comments. -/
def nts : Nd → List ByteArray
  | .mk _ _ l _ _ no ta => no ++ ntsL l ++ ta
def ntsL : List Nd → List ByteArray
  | [] => []
  | x :: t => nts x ++ ntsL t
end
mutual
/-- All literals. -/
def lts : Nd → List ByteArray
  | .mk k t l _ _ _ _ => (if k == 1 then [t] else []) ++ ltsL l
def ltsL : List Nd → List ByteArray
  | [] => []
  | x :: t => lts x ++ ltsL t
end
mutual
/-- Forced. -/
def frc : Nd → Bool
  | .mk _ _ l br _ no ta => br || !no.isEmpty || !ta.isEmpty || frcL l
def frcL : List Nd → Bool
  | [] => false
  | x :: t => frc x || frcL t
end
mutual
/-- Like; Same: all. -/
def lk (all : Bool) : Nd → Nd → Bool
  | .mk k t l br bl no ta, .mk k' t' l' br' bl' no' ta' => k == k' && t.toList == t'.toList && bl == bl' && (!all || br == br') && decide (no = no') && decide (ta = ta') && lkL all l l'
def lkL (all : Bool) : List Nd → List Nd → Bool
  | [], [] => true
  | x :: t, y :: u => lk all x y && lkL all t u
  | _, _ => false
end
theorem cnt_pos (n : Nd) : 1 ≤ cnt n := by cases n; simp only [cnt]; omega
theorem cntL_drop : ∀ {l : List Nd} {i : Nat} {x : Nd}, l[i]? = some x → cntL (l.drop i) = cnt x + cntL (l.drop (i + 1))
  | [], _, _, h => by simp at h
  | y :: t, 0, x, h => by
    simp only [List.getElem?_cons_zero, Option.some.injEq] at h
    subst h
    simp only [List.drop_zero, cntL, List.drop_succ_cons]
  | y :: t, i + 1, x, h => by
    simp only [List.getElem?_cons_succ] at h
    simp only [List.drop_succ_cons]
    exact cntL_drop h
theorem ntsL_drop : ∀ {l : List Nd} {i : Nat} {x : Nd}, l[i]? = some x → ntsL (l.drop i) = nts x ++ ntsL (l.drop (i + 1))
  | [], _, _, h => by simp at h
  | y :: t, 0, x, h => by
    simp only [List.getElem?_cons_zero, Option.some.injEq] at h
    subst h
    simp only [List.drop_zero, ntsL, List.drop_succ_cons]
  | y :: t, i + 1, x, h => by
    simp only [List.getElem?_cons_succ] at h
    simp only [List.drop_succ_cons]
    exact ntsL_drop h
theorem ltsL_drop : ∀ {l : List Nd} {i : Nat} {x : Nd}, l[i]? = some x → ltsL (l.drop i) = lts x ++ ltsL (l.drop (i + 1))
  | [], _, _, h => by simp at h
  | y :: t, 0, x, h => by
    simp only [List.getElem?_cons_zero, Option.some.injEq] at h
    subst h
    simp only [List.drop_zero, ltsL, List.drop_succ_cons]
  | y :: t, i + 1, x, h => by
    simp only [List.getElem?_cons_succ] at h
    simp only [List.drop_succ_cons]
    exact ltsL_drop h
theorem frcL_drop : ∀ {l : List Nd} {i : Nat} {x : Nd}, l[i]? = some x → frcL (l.drop i) = (frc x || frcL (l.drop (i + 1)))
  | [], _, _, h => by simp at h
  | y :: t, 0, x, h => by
    simp only [List.getElem?_cons_zero, Option.some.injEq] at h
    subst h
    simp only [List.drop_zero, frcL, List.drop_succ_cons]
  | y :: t, i + 1, x, h => by
    simp only [List.getElem?_cons_succ] at h
    simp only [List.drop_succ_cons]
    exact frcL_drop h
theorem lkL_drop (all : Bool) : ∀ {l m : List Nd} {i : Nat} {x y : Nd}, l[i]? = some x → m[i]? = some y → lkL all (l.drop i) (m.drop i) = (lk all x y && lkL all (l.drop (i + 1)) (m.drop (i + 1)))
  | [], _, _, _, _, h, _ => by simp at h
  | _ :: _, [], _, _, _, _, h => by simp at h
  | p :: t, q :: u, 0, x, y, h, g => by
    simp only [List.getElem?_cons_zero, Option.some.injEq] at h g
    subst h g
    simp only [List.drop_zero, lkL, List.drop_succ_cons]
  | p :: t, q :: u, i + 1, x, y, h, g => by
    simp only [List.getElem?_cons_succ] at h g
    simp only [List.drop_succ_cons]
    exact lkL_drop all h g
theorem lkL_len (all : Bool) : ∀ {l m : List Nd}, l.length ≠ m.length → lkL all l m = false
  | [], [], h => absurd rfl h
  | [], _ :: _, _ => by simp only [lkL]
  | _ :: _, [], _ => by simp only [lkL]
  | x :: t, y :: u, h => by
    simp only [lkL]
    rw [lkL_len all (by intro e; exact h (by simp [e])), Bool.and_false]
theorem len_cntL : ∀ l : List Nd, l.length ≤ cntL l
  | [] => Nat.le_refl _
  | x :: t => by have := cnt_pos x; have := len_cntL t; simp only [cntL, List.length_cons]; omega
theorem cnt_at : ∀ {l : List Nd} {i : Nat} {x : Nd}, l[i]? = some x → cnt x ≤ cntL l
  | [], _, _, h => by simp at h
  | y :: t, 0, x, h => by
    simp only [List.getElem?_cons_zero, Option.some.injEq] at h
    subst h
    simp only [cntL]; omega
  | y :: t, i + 1, x, h => by
    simp only [List.getElem?_cons_succ] at h
    have := cnt_at h
    simp only [cntL]; omega
/-! ### how they lie -/
/-- A row of texts. -/
def StAt (W : World) (v : Value) (L : List ByteArray) : Prop :=
  ∃ a cap, v = .slice a L.length cap ∧ (0 < L.length → ∃ g o, a = some ⟨g, o, none⟩ ∧ g < W.heap.size ∧ ∀ i x, L[i]? = some x → W.cell? ⟨g, o + i, none⟩ = some (.string x))
theorem StAt.below {W W' : World} {v : Value} {L : List ByteArray} (h : StAt W v L) (hb : Below W.heap.size W W') : StAt W' v L := by
  obtain ⟨a, cap, h1, h2⟩ := h
  refine ⟨a, cap, h1, fun h0 => ?_⟩
  obtain ⟨g, o, g1, g2, g3⟩ := h2 h0
  exact ⟨g, o, g1, Nat.lt_of_lt_of_le g2 hb.size, fun i x hx => (hb.cell (p := ⟨g, o + i, none⟩) g2).trans (g3 i x hx)⟩
/-- A row of nodes, whose cells are these. -/
def SlAt (W : World) (v : Value) (n : Nat) (cs : Nat → List Value) : Prop :=
  ∃ a cap, v = .slice a n cap ∧ (0 < n → ∃ g o, a = some ⟨g, o, none⟩ ∧ g < W.heap.size ∧ ∀ i, i < n → ∀ j x, (cs i)[j]? = some x → W.cell? ⟨g, o + i * 7 + j, none⟩ = some x)
theorem SlAt.below {W W' : World} {v : Value} {n : Nat} {cs : Nat → List Value} (h : SlAt W v n cs) (hb : Below W.heap.size W W') : SlAt W' v n cs := by
  obtain ⟨a, cap, h1, h2⟩ := h
  refine ⟨a, cap, h1, fun h0 => ?_⟩
  obtain ⟨g, o, g1, g2, g3⟩ := h2 h0
  exact ⟨g, o, g1, Nat.lt_of_lt_of_le g2 hb.size, fun i hi j x hx => (hb.cell (p := ⟨g, o + i * 7 + j, none⟩) g2).trans (g3 i hi j x hx)⟩
/-- THESE CELLS ARE THAT TREE. -/
inductive NdAt (W : World) : List Value → Nd → Prop where
  | mk (k : Int) (t : ByteArray) (l : List Nd) (br bl : Bool) (no ta : List ByteArray) (lv nv tv : Value) (cs : Nat → List Value) (hn : StAt W nv no) (ht : StAt W tv ta) (hl : SlAt W lv l.length cs) (hc : ∀ i x, l[i]? = some x → NdAt W (cs i) x) :
    NdAt W [.int .i64 k, .string t, lv, .bool br, .bool bl, nv, tv] (.mk k t l br bl no ta)
theorem NdAt.bel {W W' : World} (hb : Below W.heap.size W W') {c : List Value} {n : Nd} (h : NdAt W c n) : NdAt W' c n := by
  induction h with
  | mk k t l br bl no ta lv nv tv cs hn ht hl hc ih => exact .mk k t l br bl no ta lv nv tv cs (hn.below hb) (ht.below hb) (hl.below hb) ih
theorem NdAt.inv {W : World} {c : List Value} {k : Int} {t : ByteArray} {l : List Nd} {br bl : Bool} {no ta : List ByteArray} (h : NdAt W c (.mk k t l br bl no ta)) :
    ∃ lv nv tv cs, c = [.int .i64 k, .string t, lv, .bool br, .bool bl, nv, tv] ∧ StAt W nv no ∧ StAt W tv ta ∧ SlAt W lv l.length cs ∧ ∀ i x, l[i]? = some x → NdAt W (cs i) x := by
  cases h with
  | mk _ _ _ _ _ _ _ lv nv tv cs hn ht hl hc => exact ⟨lv, nv, tv, cs, rfl, hn, ht, hl, hc⟩
theorem ba_list (x : ByteArray) : x.toList = x.data.toList := by
  have h0 : ∀ X : List UInt8, (⟨X.toArray⟩ : ByteArray).toList = X := fun X => by simp
  have h := h0 x.data.toList
  have e : (⟨x.data.toList.toArray⟩ : ByteArray) = x := by simp
  rw [e] at h
  exact h
theorem ba_eq {x y : ByteArray} (h : (x.toList == y.toList) = true) : x = y := by
  have h : x.toList = y.toList := by simpa using h
  rw [ba_list, ba_list] at h
  exact ByteArray.ext (Array.toList_inj.1 h)
theorem ba_ne {x y : ByteArray} (h : (x.toList == y.toList) = false) : x ≠ y := by
  intro e; subst e; simp at h
theorem drop_cons' {α : Type} {L : List α} {i : Nat} {x : α} (h : L[i]? = some x) : L.drop i = x :: L.drop (i + 1) := by
  have hi : i < L.length := (List.getElem?_eq_some_iff.1 h).1
  have h2 : L[i] = x := (List.getElem?_eq_some_iff.1 h).2
  rw [List.drop_eq_getElem_cons hi, h2]
/-- A node's part: its cells, wherever one has got. -/
theorem kids {w : World} {l : List Nd} {cs : Nat → List Value} {a : Option Addr} {cap : Nat} (hl : SlAt w (.slice a l.length cap) l.length cs) (hc : ∀ i x, l[i]? = some x → NdAt w (cs i) x) (i : Nat) (x : Nd) (hx : l[i]? = some x) :
    ∃ g o k t lv br bl nv tv, a = some ⟨g, o, none⟩ ∧ NdAt w [.int .i64 k, .string t, lv, .bool br, .bool bl, nv, tv] x ∧ ∀ W, Below w.heap.size w W →
      W.cell? ⟨g, o + i * 7, none⟩ = some (.int .i64 k) ∧ W.cell? ⟨g, o + i * 7 + 1, none⟩ = some (.string t) ∧ W.cell? ⟨g, o + i * 7 + 2, none⟩ = some lv ∧ W.cell? ⟨g, o + i * 7 + 3, none⟩ = some (.bool br) ∧ W.cell? ⟨g, o + i * 7 + 4, none⟩ = some (.bool bl) ∧ W.cell? ⟨g, o + i * 7 + 5, none⟩ = some nv ∧ W.cell? ⟨g, o + i * 7 + 6, none⟩ = some tv := by
  have hi : i < l.length := (List.getElem?_eq_some_iff.1 hx).1
  obtain ⟨a', cap', e, hr⟩ := hl
  simp only [Value.slice.injEq] at e
  obtain ⟨rfl, -, rfl⟩ := e
  obtain ⟨g, o, rfl, hg, hcell⟩ := hr (by omega)
  have hn := hc i x hx
  cases x with
  | mk k t l' br bl no ta =>
    obtain ⟨lv, nv, tv, cs', h, -⟩ := hn.inv
    have hce := hcell i hi
    rw [h] at hn hce
    exact ⟨g, o, k, t, lv, br, bl, nv, tv, rfl, hn, fun W hb => ⟨(hb.cell (p := ⟨g, o + i * 7, none⟩) hg).trans (hce 0 _ rfl), (hb.cell (p := ⟨g, o + i * 7 + 1, none⟩) hg).trans (hce 1 _ rfl), (hb.cell (p := ⟨g, o + i * 7 + 2, none⟩) hg).trans (hce 2 _ rfl), (hb.cell (p := ⟨g, o + i * 7 + 3, none⟩) hg).trans (hce 3 _ rfl), (hb.cell (p := ⟨g, o + i * 7 + 4, none⟩) hg).trans (hce 4 _ rfl), (hb.cell (p := ⟨g, o + i * 7 + 5, none⟩) hg).trans (hce 5 _ rfl), (hb.cell (p := ⟨g, o + i * 7 + 6, none⟩) hg).trans (hce 6 _ rfl)⟩⟩
end Go.Proofs.YtbjgoigdhijbgaaDoor
