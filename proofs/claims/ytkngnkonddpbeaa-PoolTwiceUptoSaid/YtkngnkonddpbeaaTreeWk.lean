/-
  THE PROGRAM's walk over a tree: what its open nodes are, plainly and in memory.
-/
import Derived.Test.YtkngnkonddpbeaaNdRow
import Derived.Test.YtkngnkonddpbeaaRefTop
namespace Go.Proofs.Ytkngnkonddpbeaa
open Go.RowKit Go.PlainAid

/-! ### plainly -/
def pts : Nd → List Nd | .mk _ _ l _ _ _ _ => l
def noa : Nd → List ByteArray | .mk _ _ _ _ _ no _ => no
def tla : Nd → List ByteArray | .mk _ _ _ _ _ _ ta => ta
def olt : Nd → List ByteArray | .mk k t _ _ _ _ _ => if k == 1 then [t] else []
def ofr : Nd → Bool | .mk _ _ _ br _ no ta => br || !no.isEmpty || !ta.isEmpty
theorem cnt_pts (x : Nd) : cnt x = 1 + cntL (pts x) := by cases x; simp only [cnt, pts]
theorem lts_pts (x : Nd) : lts x = olt x ++ ltsL (pts x) := by cases x; simp only [lts, pts, olt]
theorem nts_pts (x : Nd) : nts x = noa x ++ ntsL (pts x) ++ tla x := by cases x; simp only [nts, pts, noa, tla]
theorem frc_pts (x : Nd) : frc x = (ofr x || frcL (pts x)) := by cases x; simp only [frc, pts, ofr]
/-- An open node: the node, how many of its parts have been come to, where its cells lie. -/
structure Fr where
  x : Nd
  i : Nat
  g : Nat
  o : Nat
def todo (f : Fr) : List Nd := (pts f.x).drop f.i
def remC : List Fr → Nat
  | [] => 0
  | f :: r => cntL (todo f) + remC r
def remL : List Fr → List ByteArray
  | [] => []
  | f :: r => ltsL (todo f) ++ remL r
def remF : List Fr → Bool
  | [] => false
  | f :: r => frcL (todo f) || remF r
def remN : List Fr → List ByteArray
  | [] => []
  | f :: r => ntsL (todo f) ++ tla f.x ++ remN r
def tls : List Nd → List ByteArray
  | [] => []
  | x :: t => tla x ++ tls t
theorem tls_app : ∀ (a : List Nd) (x : Nd), tls (a ++ [x]) = tls a ++ tla x
  | [], x => by simp only [List.nil_append, tls, List.append_nil]
  | y :: t, x => by simp only [List.cons_append, tls, tls_app t x, List.append_assoc]
/-- One call: which nodes are left, what is open then (nothing, or the node that was come to and what it stands in). -/
inductive Nx : List Fr → List Nd → List Fr → Prop where
  | stop : Nx [] [] []
  | go (f : Fr) (r : List Fr) (x : Nd) (g o : Nat) (h : (pts f.x)[f.i]? = some x) : Nx (f :: r) [] (⟨x, 0, g, o⟩ :: ⟨f.x, f.i + 1, f.g, f.o⟩ :: r)
  | up (f : Fr) (r : List Fr) (ls : List Nd) (st : List Fr) (h : (pts f.x).length ≤ f.i) (k : Nx r ls st) : Nx (f :: r) (f.x :: ls) st
theorem todo_nil {f : Fr} (h : (pts f.x).length ≤ f.i) : todo f = [] := List.drop_eq_nil_of_le h
theorem todo_zero (x : Nd) (g o : Nat) : todo ⟨x, 0, g, o⟩ = pts x := rfl
theorem Nx.len {st st' : List Fr} {ls : List Nd} (h : Nx st ls st') : (st' = [] → remC st = 0) ∧ (st' ≠ [] → remC st = remC st' + 1) ∧ st'.length ≤ st.length + 1 := by
  induction h with
  | stop => exact ⟨fun _ => rfl, fun h => absurd rfl h, by simp⟩
  | go f r x g o h =>
    refine ⟨fun e => by simp at e, fun _ => ?_, by simp⟩
    simp only [remC, todo_zero]
    rw [show todo f = (pts f.x).drop f.i from rfl, cntL_drop h, cnt_pts]
    simp only [todo]
    omega
  | up f r ls st h k ih =>
    obtain ⟨h1, h2, h3⟩ := ih
    simp only [remC, todo_nil h, cntL, List.length_cons, Nat.zero_add]
    exact ⟨h1, h2, by omega⟩
theorem Nx.lits {st st' : List Fr} {ls : List Nd} (h : Nx st ls st') : (st' = [] → remL st = []) ∧ ∀ f r, st' = f :: r → remL st = olt f.x ++ remL st' := by
  induction h with
  | stop => exact ⟨fun _ => rfl, fun f r h => by simp at h⟩
  | go f r x g o h =>
    refine ⟨fun e => by simp at e, fun f' r' e => ?_⟩
    simp only [List.cons.injEq] at e
    obtain ⟨rfl, rfl⟩ := e
    simp only [remL, todo_zero]
    rw [show todo f = (pts f.x).drop f.i from rfl, ltsL_drop h, lts_pts]
    simp only [todo, List.append_assoc]
  | up f r ls st h k ih =>
    simp only [remL, todo_nil h, ltsL, List.nil_append]
    exact ih
theorem Nx.notes {st st' : List Fr} {ls : List Nd} (h : Nx st ls st') : (st' = [] → remN st = tls ls) ∧ ∀ f r, st' = f :: r → remN st = tls ls ++ noa f.x ++ remN st' := by
  induction h with
  | stop => exact ⟨fun _ => rfl, fun f r h => by simp at h⟩
  | go f r x g o h =>
    refine ⟨fun e => by simp at e, fun f' r' e => ?_⟩
    simp only [List.cons.injEq] at e
    obtain ⟨rfl, rfl⟩ := e
    simp only [remN, todo_zero, tls, List.nil_append]
    rw [show todo f = (pts f.x).drop f.i from rfl, ntsL_drop h, nts_pts]
    simp only [todo, List.append_assoc]
  | up f r ls st h k ih =>
    obtain ⟨h1, h2⟩ := ih
    simp only [remN, todo_nil h, ntsL, List.nil_append, tls]
    exact ⟨fun e => by rw [h1 e], fun f' r' e => by rw [h2 f' r' e]; simp only [List.append_assoc]⟩
theorem Nx.force {st st' : List Fr} {ls : List Nd} (h : Nx st ls st') : (st' = [] → remF st = false) ∧ ∀ f r, st' = f :: r → remF st = (ofr f.x || remF st') := by
  induction h with
  | stop => exact ⟨fun _ => rfl, fun f r h => by simp at h⟩
  | go f r x g o h =>
    refine ⟨fun e => by simp at e, fun f' r' e => ?_⟩
    simp only [List.cons.injEq] at e
    obtain ⟨rfl, rfl⟩ := e
    simp only [remF, todo_zero]
    rw [show todo f = (pts f.x).drop f.i from rfl, frcL_drop h, frc_pts]
    simp only [todo, Bool.or_assoc]
  | up f r ls st h k ih =>
    simp only [remF, todo_nil h, frcL, Bool.false_or]
    exact ih
theorem smk_at {b : Nat} : ∀ {l : List Nd} {i : Nat} {x : Nd}, l[i]? = some x → smkL b l → smk b x
  | [], _, _, h, _ => by simp at h
  | y :: t, 0, x, h, hs => by
    simp only [List.getElem?_cons_zero, Option.some.injEq] at h
    subst h
    simp only [smkL] at hs
    exact hs.1
  | y :: t, i + 1, x, h, hs => by
    simp only [List.getElem?_cons_succ] at h
    simp only [smkL] at hs
    exact smk_at h hs.2
/-! ### in memory -/
theorem StAt.to {w : World} {v : Value} {L : List ByteArray} (h : StAt w v L) : StIn w (fun g => g < w.heap.size) v L := by
  obtain ⟨a, cap, h1, h2⟩ := h
  refine ⟨a, cap, h1, fun h0 => ?_⟩
  obtain ⟨g, o, g1, g3, g4⟩ := h2 h0
  exact ⟨g, o, g1, g3, g3, g4⟩
theorem SlAt.to {w : World} {v : Value} {n : Nat} {cs : Nat → List Value} (h : SlAt w v n cs) : SlIn w (fun g => g < w.heap.size) v n cs := by
  obtain ⟨a, cap, h1, h2⟩ := h
  refine ⟨a, cap, h1, fun h0 => ?_⟩
  obtain ⟨g, o, g1, g3, g4⟩ := h2 h0
  exact ⟨g, o, g1, g3, g3, g4⟩
theorem NdAt.to {w : World} {c : List Value} {n : Nd} (h : NdAt w c n) : NdIn w (fun g => g < w.heap.size) c n := by
  induction h with
  | mk k t l br bl no ta lv nv tv cs hn ht hl hc ih => exact .mk k t l br bl no ta lv nv tv cs hn.to ht.to hl.to ih
/-- A node, whose cells lie here, in a block of the kind. -/
def NIn (W : World) (P : Nat → Prop) (g o : Nat) (x : Nd) : Prop := P g ∧ g < W.heap.size ∧ ∃ c, NdIn W P c x ∧ ∀ j u, c[j]? = some u → W.cell? ⟨g, o + j, none⟩ = some u
theorem NIn.keep {W W' : World} {P : Nat → Prop} (hk : Keeps P W W') {g o : Nat} {x : Nd} (h : NIn W P g o x) : NIn W' P g o x := by
  obtain ⟨h1, h2, c, h3, h4⟩ := h
  exact ⟨h1, Nat.lt_of_lt_of_le h2 hk.1, c, h3.keep hk, fun j u hj => (keeps_cell hk h1 h2).trans (h4 j u hj)⟩
theorem NIn.open {W : World} {P : Nat → Prop} {g o : Nat} {k : Int} {t : ByteArray} {l : List Nd} {br bl : Bool} {no ta : List ByteArray} (h : NIn W P g o (.mk k t l br bl no ta)) :
    ∃ a cap nv tv, (W.cell? ⟨g, o, none⟩ = some (.int .i64 k) ∧ W.cell? ⟨g, o + 1, none⟩ = some (.string t) ∧ W.cell? ⟨g, o + 2, none⟩ = some (.slice a l.length cap) ∧ W.cell? ⟨g, o + 3, none⟩ = some (.bool br) ∧ W.cell? ⟨g, o + 4, none⟩ = some (.bool bl) ∧ W.cell? ⟨g, o + 5, none⟩ = some nv ∧ W.cell? ⟨g, o + 6, none⟩ = some tv) ∧
      StIn W P nv no ∧ StIn W P tv ta ∧ ∀ i x, l[i]? = some x → ∃ g' o', a = some ⟨g', o', none⟩ ∧ NIn W P g' (o' + i * 7) x := by
  obtain ⟨h1, h2, c, h3, h4⟩ := h
  cases h3 with
  | mk _ _ _ _ _ _ _ lv nv tv cs hn ht hl hc =>
    obtain ⟨a, cap, rfl, hr⟩ := hl
    refine ⟨a, cap, nv, tv, ⟨h4 0 _ rfl, h4 1 _ rfl, h4 2 _ rfl, h4 3 _ rfl, h4 4 _ rfl, h4 5 _ rfl, h4 6 _ rfl⟩, hn, ht, fun i x hx => ?_⟩
    have hi : i < l.length := (List.getElem?_eq_some_iff.1 hx).1
    obtain ⟨g', o', e, p1, p2, p3⟩ := hr (by omega)
    exact ⟨g', o', e, p1, p2, cs i, hc i x hx, p3 i hi⟩
/-- From W to W' no block has turned that was there, but those that are owned; what is owned then was, or is new. -/
structure Mv (O : Nat → Prop) (W : World) (O' : Nat → Prop) (W' : World) : Prop where
  os : W'.os = W.os
  tape : W'.tape = W.tape
  output : W'.output = W.output
  size : W.heap.size ≤ W'.heap.size
  block : ∀ g, g < W.heap.size → ¬ O g → W'.heap[g]? = W.heap[g]?
  own : ∀ g, O' g → O g ∨ W.heap.size ≤ g
theorem Mv.refl (O : Nat → Prop) (W : World) : Mv O W O W := ⟨rfl, rfl, rfl, Nat.le_refl _, fun _ _ _ => rfl, fun _ h => .inl h⟩
theorem Mv.trans {O O' O'' : Nat → Prop} {A B C : World} (h : Mv O A O' B) (k : Mv O' B O'' C) : Mv O A O'' C :=
  ⟨k.os.trans h.os, k.tape.trans h.tape, k.output.trans h.output, Nat.le_trans h.size k.size,
   fun g hg hn => (k.block g (Nat.lt_of_lt_of_le hg h.size) (fun h' => (h.own g h').elim hn (fun h2 => by omega))).trans (h.block g hg hn),
   fun g hg => (k.own g hg).elim (h.own g) (fun h2 => .inr (Nat.le_trans h.size h2))⟩
theorem Mv.below {O O' : Nat → Prop} {W W' : World} (h : Mv O W O' W') {B : Nat} (hB : B ≤ W.heap.size) (ho : ∀ g, O g → B ≤ g) : Below B W W' :=
  ⟨h.os, h.tape, h.output, h.size, fun g hg => h.block g (by omega) (fun h' => by have := ho g h'; omega)⟩
theorem mv_below {W W' : World} (O : Nat → Prop) (h : Below W.heap.size W W') : Mv O W O W' := ⟨h.os, h.tape, h.output, h.size, fun g hg _ => h.block g hg, fun _ h => .inl h⟩
theorem Mv.keeps {O O' : Nat → Prop} {W W' : World} (h : Mv O W O' W') {P : Nat → Prop} (hp : ∀ g, P g → ¬ O g) : Keeps P W W' := ⟨h.size, fun g hg hl => h.block g hl (hp g hg)⟩
theorem Mv.set {O O' : Nat → Prop} {A W : World} (h : Mv O A O' W) {b : Nat} (hb : O' b) (j : Nat) (u : Value) : Mv O A O' (W.setCell ⟨b, j, none⟩ u) :=
  h.trans ⟨rfl, rfl, rfl, by simp, fun g _ hn => Below.heap_setCell _ _ _ _ (fun e => hn (by have e : g = b := e; rw [e]; exact hb)), fun _ h => .inl h⟩
theorem Mv.weak {O O' N : Nat → Prop} {W W' : World} (h : Mv O W O' W') : Mv (fun g => O g ∨ N g) W (fun g => O' g ∨ N g) W' :=
  ⟨h.os, h.tape, h.output, h.size, fun g hg hn => h.block g hg (fun h' => hn (.inl h')), fun g hg => hg.elim (fun h' => (h.own g h').elim (fun a => .inl (.inl a)) .inr) (fun h' => .inl (.inr h'))⟩
theorem Mv.weak2 {O O' N : Nat → Prop} {W W' : World} (h : Mv O W O' W') : Mv (fun g => N g ∨ O g) W (fun g => N g ∨ O' g) W' :=
  ⟨h.os, h.tape, h.output, h.size, fun g hg hn => h.block g hg (fun h' => hn (.inr h')), fun g hg => hg.elim (fun h' => .inl (.inl h')) (fun h' => (h.own g h').elim (fun a => .inl (.inr a)) .inr)⟩
/-- The open nodes' cells, the last one's last. -/
def rowF : List Fr → List Value
  | [] => []
  | f :: r => rowF r ++ [.pointer (some ⟨f.g, f.o, none⟩), .int .i64 (f.i : Int)]
theorem rowF_len : ∀ st : List Fr, (rowF st).length = st.length * 2
  | [] => rfl
  | f :: r => by rw [rowF, List.length_append, rowF_len r]; simp only [List.length_cons, List.length_nil]; omega
/-- What a walk owns: the block of its variable, the block of the other one, its row. -/
def Og (s : Nat) (v : Value) (g : Nat) : Prop := g = s + 1 ∨ g = s + 5 ∨ v.ownBlock = some g
theorem row_block {W W' : World} {base : Nat} {e : TypeId} {size : Nat} {v : Value} {n : Nat} {xs : List Value} (h : W.ownsRow base e size v n xs) (hb : ∀ g, v.ownBlock = some g → W'.heap[g]? = W.heap[g]?) : W'.ownsRow base e size v n xs := by
  obtain ⟨h1, h2 | ⟨g, cap, cur, rfl, h4, h5, h6⟩⟩ := h
  · exact ⟨h1, .inl h2⟩
  · exact ⟨h1, .inr ⟨g, cap, cur, rfl, h4, by rw [hb g rfl]; exact h5, h6⟩⟩
theorem remC_seen {f : Fr} {r : List Fr} {x : Nd} (h : (pts f.x)[f.i]? = some x) : remC (f :: r) = cnt x + remC (⟨f.x, f.i + 1, f.g, f.o⟩ :: r) := by
  simp only [remC]
  rw [show todo f = (pts f.x).drop f.i from rfl, cntL_drop h]
  simp only [todo]
  omega
end Go.Proofs.Ytkngnkonddpbeaa
