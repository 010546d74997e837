/-
  THE PROGRAM's walk over a tree: what its open nodes are, plainly and in memory.
-/
import Derived.Test.YtkdaombcbcegfaaNdRow
import Derived.Test.YtkdaombcbcegfaaRefTop
namespace Go.Proofs.Ytkdaombcbcegfaa
open Go.RowKit Go.PlainAid

/-! ### plainly -/
def pts : Nd → List Nd | .mk _ _ l _ _ _ _ => l
def noa : Nd → List ByteArray | .mk _ _ _ _ _ no _ => no
def tla : Nd → List ByteArray | .mk _ _ _ _ _ _ ta => ta
def olt : Nd → List ByteArray | .mk k t _ _ _ _ _ => if k == 1 then [t] else []
def ofr : Nd → Bool | .mk _ _ _ br _ no ta => br || !no.isEmpty || !ta.isEmpty
theorem cnt_pts (x : Nd) : cnt x = 1 + cntL (pts x) := by cases x; simp only [cnt, pts]
theorem lts_pts (x : Nd) : lts x = olt x ++ ltsL (pts x) := by cases x; simp only [lts, pts, olt]
theorem nts_pts (x : Nd) : nts x = noa x ++ ntsL (pts x) ++ tla x := by cases x; simp only [nts, pts, noa, tla]
theorem frc_pts (x : Nd) : frc x = (ofr x || frcL (pts x)) := by cases x; simp only [frc, pts, ofr]
/-- An open node: the node, how many of its parts have been come to, where its cells lie. -/
structure Fr where
  x : Nd
  i : Nat
  g : Nat
  o : Nat
def todo (f : Fr) : List Nd := (pts f.x).drop f.i
def remC : List Fr → Nat
  | [] => 0
  | f :: r => cntL (todo f) + remC r
def remL : List Fr → List ByteArray
  | [] => []
  | f :: r => ltsL (todo f) ++ remL r
def remF : List Fr → Bool
  | [] => false
  | f :: r => frcL (todo f) || remF r
def remN : List Fr → List ByteArray
  | [] => []
  | f :: r => ntsL (todo f) ++ tla f.x ++ remN r
def tls : List Nd → List ByteArray
  | [] => []
  | x :: t => tla x ++ tls t
theorem tls_app : ∀ (a : List Nd) (x : Nd), tls (a ++ [x]) = tls a ++ tla x
  | [], x => by simp only [List.nil_append, tls, List.append_nil]
  | y :: t, x => by simp only [List.cons_append, tls, tls_app t x, List.append_assoc]
/-- One call: which nodes are left, what is open then (nothing, or the node that was come to and what it stands in). -/
inductive Nx : List Fr → List Nd → List Fr → Prop where
  | stop : Nx [] [] []
  | go (f : Fr) (r : List Fr) (x : Nd) (g o : Nat) (h : (pts f.x)[f.i]? = some x) : Nx (f :: r) [] (⟨x, 0, g, o⟩ :: ⟨f.x, f.i + 1, f.g, f.o⟩ :: r)
  | up (f : Fr) (r : List Fr) (ls : List Nd) (st : List Fr) (h : (pts f.x).length ≤ f.i) (k : Nx r ls st) : Nx (f :: r) (f.x :: ls) st
theorem todo_nil {f : Fr} (h : (pts f.x).length ≤ f.i) : todo f = [] := List.drop_eq_nil_of_le h
theorem todo_zero (x : Nd) (g o : Nat) : todo ⟨x, 0, g, o⟩ = pts x := rfl
theorem Nx.len {st st' : List Fr} {ls : List Nd} (h : Nx st ls st') : (st' = [] → remC st = 0) ∧ (st' ≠ [] → remC st = remC st' + 1) ∧ st'.length ≤ st.length + 1 := by
  induction h with
  | stop => exact ⟨fun _ => rfl, fun h => absurd rfl h, by simp⟩
  | go f r x g o h =>
    refine ⟨fun e => by simp at e, fun _ => ?_, by simp⟩
    simp only [remC, todo_zero]
    rw [show todo f = (pts f.x).drop f.i from rfl, cntL_drop h, cnt_pts]
    simp only [todo]
    omega
  | up f r ls st h k ih =>
    obtain ⟨h1, h2, h3⟩ := ih
    simp only [remC, todo_nil h, cntL, List.length_cons, Nat.zero_add]
    exact ⟨h1, h2, by omega⟩
theorem Nx.lits {st st' : List Fr} {ls : List Nd} (h : Nx st ls st') : (st' = [] → remL st = []) ∧ ∀ f r, st' = f :: r → remL st = olt f.x ++ remL st' := by
  induction h with
  | stop => exact ⟨fun _ => rfl, fun f r h => by simp at h⟩
  | go f r x g o h =>
    refine ⟨fun e => by simp at e, fun f' r' e => ?_⟩
    simp only [List.cons.injEq] at e
    obtain ⟨rfl, rfl⟩ := e
    simp only [remL, todo_zero]
    rw [show todo f = (pts f.x).drop f.i from rfl, ltsL_drop h, lts_pts]
    simp only [todo, List.append_assoc]
  | up f r ls st h k ih =>
    simp only [remL, todo_nil h, ltsL, List.nil_append]
    exact ih
theorem Nx.notes {st st' : List Fr} {ls : List Nd} (h : Nx st ls st') : (st' = [] → remN st = tls ls) ∧ ∀ f r, st' = f :: r → remN st = tls ls ++ noa f.x ++ remN st' := by
  induction h with
  | stop => exact ⟨fun _ => rfl, fun f r h => by simp at h⟩
  | go f r x g o h =>
    refine ⟨fun e => by simp at e, fun f' r' e => ?_⟩
    simp only [List.cons.injEq] at e
    obtain ⟨rfl, rfl⟩ := e
    simp only [remN, todo_zero, tls, List.nil_append]
    rw [show todo f = (pts f.x).drop f.i from rfl, ntsL_drop h, nts_pts]
    simp only [todo, List.append_assoc]
  | up f r ls st h k ih =>
    obtain ⟨h1, h2⟩ := ih
    simp only [remN, todo_nil h, ntsL, List.nil_append, tls]
    exact ⟨fun e => by rw [h1 e], fun f' r' e => by rw [h2 f' r' e]; simp only [List.append_assoc]⟩
theorem Nx.force {st st' : List Fr} {ls : List Nd} (h : Nx st ls st') : (st' = [] → remF st = false) ∧ ∀ f r, st' = f :: r → remF st = (ofr f.x || remF st') := by
  induction h with
  | stop => exact ⟨fun _ => rfl, fun f r h => by simp at h⟩
  | go f r x g o h =>
    refine ⟨fun e => by simp at e, fun f' r' e => ?_⟩
    simp only [List.cons.injEq] at e
    obtain ⟨rfl, rfl⟩ := e
    simp only [remF, todo_zero]
    rw [show todo f = (pts f.x).drop f.i from rfl, frcL_drop h, frc_pts]
    simp only [todo, Bool.or_assoc]
  | up f r ls st h k ih =>
    simp only [remF, todo_nil h, frcL, Bool.false_or]
    exact ih
theorem smk_at {b : Nat} : ∀ {l : List Nd} {i : Nat} {x : Nd}, l[i]? = some x → smkL b l → smk b x
  | [], _, _, h, _ => by simp at h
  | y :: t, 0, x, h, hs => by
    simp only [List.getElem?_cons_zero, Option.some.injEq] at h
    subst h
    simp only [smkL] at hs
    exact hs.1
  | y :: t, i + 1, x, h, hs => by
    simp only [List.getElem?_cons_succ] at h
    simp only [smkL] at hs
    exact smk_at h hs.2
/-! ### in memory -/
theorem StAt.to {w : World} {v : Value} {L : List ByteArray} (h : StAt w v L) : StIn w (fun g => g < w.heap.size) v L := by
  obtain ⟨a, cap, h1, h2⟩ := h
  refine ⟨a, cap, h1, fun h0 => ?_⟩
  obtain ⟨g, o, g1, g3, g4⟩ := h2 h0
  exact ⟨g, o, g1, g3, g3, g4⟩
theorem SlAt.to {w : World} {v : Value} {n : Nat} {cs : Nat → List Value} (h : SlAt w v n cs) : SlIn w (fun g => g < w.heap.size) v n cs := by
  obtain ⟨a, cap, h1, h2⟩ := h
  refine ⟨a, cap, h1, fun h0 => ?_⟩
  obtain ⟨g, o, g1, g3, g4⟩ := h2 h0
  exact ⟨g, o, g1, g3, g3, g4⟩
theorem NdAt.to {w : World} {c : List Value} {n : Nd} (h : NdAt w c n) : NdIn w (fun g => g < w.heap.size) c n := by
  induction h with
  | mk k t l br bl no ta lv nv tv cs hn ht hl hc ih => exact .mk k t l br bl no ta lv nv tv cs hn.to ht.to hl.to ih
/-- A node, whose cells lie here, in a block of the kind. -/
def NIn (W : World) (P : Nat → Prop) (g o : Nat) (x : Nd) : Prop := P g ∧ g < W.heap.size ∧ ∃ c, NdIn W P c x ∧ ∀ j u, c[j]? = some u → W.cell? ⟨g, o + j, none⟩ = some u
theorem NIn.keep {W W' : World} {P : Nat → Prop} (hk : Keeps P W W') {g o : Nat} {x : Nd} (h : NIn W P g o x) : NIn W' P g o x := by
  obtain ⟨h1, h2, c, h3, h4⟩ := h
  exact ⟨h1, Nat.lt_of_lt_of_le h2 hk.1, c, h3.keep hk, fun j u hj => (keeps_cell hk h1 h2).trans (h4 j u hj)⟩
theorem NIn.open {W : World} {P : Nat → Prop} {g o : Nat} {k : Int} {t : ByteArray} {l : List Nd} {br bl : Bool} {no ta : List ByteArray} (h : NIn W P g o (.mk k t l br bl no ta)) :
    ∃ a cap nv tv, (W.cell? ⟨g, o, none⟩ = some (.int .i64 k) ∧ W.cell? ⟨g, o + 1, none⟩ = some (.string t) ∧ W.cell? ⟨g, o + 2, none⟩ = some (.slice a l.length cap) ∧ W.cell? ⟨g, o + 3, none⟩ = some (.bool br) ∧ W.cell? ⟨g, o + 4, none⟩ = some (.bool bl) ∧ W.cell? ⟨g, o + 5, none⟩ = some nv ∧ W.cell? ⟨g, o + 6, none⟩ = some tv) ∧
      StIn W P nv no ∧ StIn W P tv ta ∧ ∀ i x, l[i]? = some x → ∃ g' o', a = some ⟨g', o', none⟩ ∧ NIn W P g' (o' + i * 7) x := by
  obtain ⟨h1, h2, c, h3, h4⟩ := h
  cases h3 with
  | mk _ _ _ _ _ _ _ lv nv tv cs hn ht hl hc =>
    obtain ⟨a, cap, rfl, hr⟩ := hl
    refine ⟨a, cap, nv, tv, ⟨h4 0 _ rfl, h4 1 _ rfl, h4 2 _ rfl, h4 3 _ rfl, h4 4 _ rfl, h4 5 _ rfl, h4 6 _ rfl⟩, hn, ht, fun i x hx => ?_⟩
    have hi : i < l.length := (List.getElem?_eq_some_iff.1 hx).1
    obtain ⟨g', o', e, p1, p2, p3⟩ := hr (by omega)
    exact ⟨g', o', e, p1, p2, cs i, hc i x hx, p3 i hi⟩
/-- From W to W' no block has turned that was there, but those that are owned; what is owned then was, or is new. -/
structure Mv (O : Nat → Prop) (W : World) (O' : Nat → Prop) (W' : World) : Prop where
  os : W'.os = W.os
  tape : W'.tape = W.tape
  output : W'.output = W.output
  size : W.heap.size ≤ W'.heap.size
  block : ∀ g, g < W.heap.size → ¬ O g → W'.heap[g]? = W.heap[g]?
  own : ∀ g, O' g → O g ∨ W.heap.size ≤ g
theorem Mv.refl (O : Nat → Prop) (W : World) : Mv O W O W := ⟨rfl, rfl, rfl, Nat.le_refl _, fun _ _ _ => rfl, fun _ h => .inl h⟩
theorem Mv.trans {O O' O'' : Nat → Prop} {A B C : World} (h : Mv O A O' B) (k : Mv O' B O'' C) : Mv O A O'' C :=
  ⟨k.os.trans h.os, k.tape.trans h.tape, k.output.trans h.output, Nat.le_trans h.size k.size,
   fun g hg hn => (k.block g (Nat.lt_of_lt_of_le hg h.size) (fun h' => (h.own g h').elim hn (fun h2 => by omega))).trans (h.block g hg hn),
   fun g hg => (k.own g hg).elim (h.own g) (fun h2 => .inr (Nat.le_trans h.size h2))⟩
theorem Mv.below {O O' : Nat → Prop} {W W' : World} (h : Mv O W O' W') {B : Nat} (hB : B ≤ W.heap.size) (ho : ∀ g, O g → B ≤ g) : Below B W W' :=
  ⟨h.os, h.tape, h.output, h.size, fun g hg => h.block g (by omega) (fun h' => by have := ho g h'; omega)⟩
theorem mv_below {W W' : World} (O : Nat → Prop) (h : Below W.heap.size W W') : Mv O W O W' := ⟨h.os, h.tape, h.output, h.size, fun g hg _ => h.block g hg, fun _ h => .inl h⟩
theorem Mv.keeps {O O' : Nat → Prop} {W W' : World} (h : Mv O W O' W') {P : Nat → Prop} (hp : ∀ g, P g → ¬ O g) : Keeps P W W' := ⟨h.size, fun g hg hl => h.block g hl (hp g hg)⟩
theorem Mv.set {O O' : Nat → Prop} {A W : World} (h : Mv O A O' W) {b : Nat} (hb : O' b) (j : Nat) (u : Value) : Mv O A O' (W.setCell ⟨b, j, none⟩ u) :=
  h.trans ⟨rfl, rfl, rfl, by simp, fun g _ hn => Below.heap_setCell _ _ _ _ (fun e => hn (by have e : g = b := e; rw [e]; exact hb)), fun _ h => .inl h⟩
theorem Mv.weak {O O' N : Nat → Prop} {W W' : World} (h : Mv O W O' W') : Mv (fun g => O g ∨ N g) W (fun g => O' g ∨ N g) W' :=
  ⟨h.os, h.tape, h.output, h.size, fun g hg hn => h.block g hg (fun h' => hn (.inl h')), fun g hg => hg.elim (fun h' => (h.own g h').elim (fun a => .inl (.inl a)) .inr) (fun h' => .inl (.inr h'))⟩
theorem Mv.weak2 {O O' N : Nat → Prop} {W W' : World} (h : Mv O W O' W') : Mv (fun g => N g ∨ O g) W (fun g => N g ∨ O' g) W' :=
  ⟨h.os, h.tape, h.output, h.size, fun g hg hn => h.block g hg (fun h' => hn (.inr h')), fun g hg => hg.elim (fun h' => .inl (.inl h')) (fun h' => (h.own g h').elim (fun a => .inl (.inr a)) .inr)⟩
/-- The open nodes' cells, the last one's last. -/
def rowF : List Fr → List Value
  | [] => []
  | f :: r => rowF r ++ [.pointer (some ⟨f.g, f.o, none⟩), .int .i64 (f.i : Int)]
theorem rowF_len : ∀ st : List Fr, (rowF st).length = st.length * 2
  | [] => rfl
  | f :: r => by rw [rowF, List.length_append, rowF_len r]; simp only [List.length_cons, List.length_nil]; omega
/-- What a walk owns: the block of its variable, the block of the other one, its row. -/
def Og (s : Nat) (v : Value) (g : Nat) : Prop := g = s + 1 ∨ g = s + 5 ∨ v.ownBlock = some g
/-- A WALK: its closure's two variables and the row of what is open. -/
structure Wk (W : World) (P : Nat → Prop) (s : Nat) (lf v : Value) (st : List Fr) : Prop where
  var : W.heap[s + 5]? = some (.cells #[v] 50 (0, 0))
  lv : W.heap[s + 1]? = some (.cells #[lf] 40 (0, 0))
  row : W.ownsRow (s + 4) 49 2 v st.length (rowF st)
  ne : v.ownBlock ≠ some (s + 5)
  ok : ∀ f ∈ st, NIn W P f.g f.o f.x
  sm : ∀ f ∈ st, cnt f.x ≤ 1048570 ∧ smk 100 f.x
  few : st.length + remC st ≤ 1048570
  pp : ∀ g, P g → g < s + 4 ∧ g ≠ s + 1
theorem Wk.size {W : World} {P : Nat → Prop} {s : Nat} {lf v : Value} {st : List Fr} (h : Wk W P s lf v st) : s + 5 < W.heap.size := lt_of_block h.var
theorem Wk.apart {W : World} {P : Nat → Prop} {s : Nat} {lf v : Value} {st : List Fr} (h : Wk W P s lf v st) : ∀ g, P g → ¬ Og s v g := by
  intro g hg ho
  have hp := h.pp g hg
  rcases ho with e | e | e
  · exact hp.2 e
  · omega
  · have := (h.row.lt g e).1; omega
theorem Wk.in {W : World} {P : Nat → Prop} {s : Nat} {lf v : Value} {st : List Fr} (h : Wk W P s lf v st) : ∀ g, Og s v g → s < g ∧ g < W.heap.size := by
  intro g ho
  have hs := h.size
  rcases ho with e | e | e
  · omega
  · omega
  · have := h.row.lt g e; omega
theorem row_block {W W' : World} {base : Nat} {e : TypeId} {size : Nat} {v : Value} {n : Nat} {xs : List Value} (h : W.ownsRow base e size v n xs) (hb : ∀ g, v.ownBlock = some g → W'.heap[g]? = W.heap[g]?) : W'.ownsRow base e size v n xs := by
  obtain ⟨h1, h2 | ⟨g, cap, cur, rfl, h4, h5, h6⟩⟩ := h
  · exact ⟨h1, .inl h2⟩
  · exact ⟨h1, .inr ⟨g, cap, cur, rfl, h4, by rw [hb g rfl]; exact h5, h6⟩⟩
theorem Wk.keep {W W' : World} {P : Nat → Prop} {s : Nat} {lf v : Value} {st : List Fr} (h : Wk W P s lf v st) {M M' : Nat → Prop} (hm : Mv M W M' W') (hp : ∀ g, P g → ¬ M g) (ho : ∀ g, Og s v g → ¬ M g) : Wk W' P s lf v st := by
  have hb : ∀ g, Og s v g → W'.heap[g]? = W.heap[g]? := fun g hg => hm.block g (h.in g hg).2 (ho g hg)
  exact ⟨by rw [hb _ (.inr (.inl rfl))]; exact h.var, by rw [hb _ (.inl rfl)]; exact h.lv, row_block h.row (fun g e => hb g (.inr (.inr e))), h.ne, fun f hf => (h.ok f hf).keep (hm.keeps hp), h.sm, h.few, h.pp⟩
theorem Wk.below {W W' : World} {P : Nat → Prop} {s : Nat} {lf v : Value} {st : List Fr} (h : Wk W P s lf v st) (hb : Below W.heap.size W W') : Wk W' P s lf v st :=
  h.keep (mv_below (fun _ => False) hb) (fun _ _ h => h) (fun _ _ h => h)
theorem Wk.slice {W : World} {P : Nat → Prop} {s : Nat} {lf v : Value} {st : List Fr} (h : Wk W P s lf v st) : ∃ a n c, v = .slice a n c := by
  obtain ⟨-, ⟨rfl, -⟩ | ⟨g, cap, cur, rfl, -⟩⟩ := h.row
  · exact ⟨_, _, _, rfl⟩
  · exact ⟨_, _, _, rfl⟩
theorem Wk.nil {W : World} {P : Nat → Prop} {s : Nat} {lf v : Value} (h : Wk W P s lf v []) : ∃ a cap, v = .slice a 0 cap ∧ W.cell? ⟨s + 5, 0, none⟩ = some (.slice a 0 cap) := by
  have hc : W.cell? ⟨s + 5, 0, none⟩ = some v := by rw [cell_of_row W _ 0 _ _ _ h.var]; rfl
  obtain ⟨-, ⟨rfl, -⟩ | ⟨g, cap, cur, rfl, -⟩⟩ := h.row
  · exact ⟨_, _, rfl, hc⟩
  · exact ⟨_, _, rfl, hc⟩
theorem Wk.top {W : World} {P : Nat → Prop} {s : Nat} {lf v : Value} {f : Fr} {r : List Fr} (h : Wk W P s lf v (f :: r)) :
    ∃ b cap, v = .slice (some ⟨b, 0, none⟩) (r.length + 1) cap ∧ W.cell? ⟨s + 5, 0, none⟩ = some (.slice (some ⟨b, 0, none⟩) (r.length + 1) cap) ∧ W.cell? ⟨b, r.length * 2, none⟩ = some (.pointer (some ⟨f.g, f.o, none⟩)) ∧ W.cell? ⟨b, r.length * 2 + 1, none⟩ = some (.int .i64 (f.i : Int)) ∧ W.cell? ⟨s + 1, 0, none⟩ = some lf ∧ r.length + 1 ≤ cap ∧ r.length + 1 ≤ 1048570 ∧ W.frozen? ⟨b, r.length * 2 + 1, none⟩ = false ∧ W.frozen? ⟨s + 5, 0, none⟩ = false := by
  have hc : W.cell? ⟨s + 5, 0, none⟩ = some v := by rw [cell_of_row W _ 0 _ _ _ h.var]; rfl
  have hf := h.few
  obtain ⟨-, ⟨rfl, h0⟩ | ⟨b, cap, cur, rfl, hb, hg, hn, hcm, hz, ht⟩⟩ := h.row
  · simp at h0
  · have hl := rowF_len r
    simp only [List.length_cons] at hn hz ht hf
    have e0 : (rowF (f :: r))[r.length * 2]? = some (.pointer (some ⟨f.g, f.o, none⟩)) := by
      rw [rowF, List.getElem?_append_right (by omega), hl, Nat.sub_self]; rfl
    have e1 : (rowF (f :: r))[r.length * 2 + 1]? = some (.int .i64 (f.i : Int)) := by
      rw [rowF, List.getElem?_append_right (by omega), hl, show r.length * 2 + 1 - r.length * 2 = 1 by omega]; rfl
    rw [← ht, List.getElem?_take_of_lt (by omega), Array.getElem?_toList] at e0 e1
    exact ⟨b, cap, rfl, hc, by rw [cell_of_row W _ _ _ _ _ hg]; exact e0, by rw [cell_of_row W _ _ _ _ _ hg]; exact e1, by rw [cell_of_row W _ 0 _ _ _ h.lv]; rfl, hn, by omega, frz_of hg _, frz_of h.var _⟩
theorem remC_seen {f : Fr} {r : List Fr} {x : Nd} (h : (pts f.x)[f.i]? = some x) : remC (f :: r) = cnt x + remC (⟨f.x, f.i + 1, f.g, f.o⟩ :: r) := by
  simp only [remC]
  rw [show todo f = (pts f.x).drop f.i from rfl, cntL_drop h]
  simp only [todo]
  omega
/-- One part more has been come to. -/
theorem Wk.seen {W : World} {P : Nat → Prop} {s b cap : Nat} {lf : Value} {f : Fr} {r : List Fr} {x : Nd} (h : Wk W P s lf (.slice (some ⟨b, 0, none⟩) (r.length + 1) cap) (f :: r)) (hx : (pts f.x)[f.i]? = some x) :
    Wk (W.setCell ⟨b, r.length * 2 + 1, none⟩ (.int .i64 ((f.i + 1 : Nat) : Int))) P s lf (.slice (some ⟨b, 0, none⟩) (r.length + 1) cap) (⟨f.x, f.i + 1, f.g, f.o⟩ :: r) := by
  have hap := h.apart
  obtain ⟨hl, ⟨h0, -⟩ | ⟨b', cap', cur, hv, hb, hg, hn, hcm, hz, ht⟩⟩ := h.row
  · simp at h0
  · simp only [Value.slice.injEq, Option.some.injEq, Addr.mk.injEq, and_true] at hv
    obtain ⟨rfl, -, rfl⟩ := hv
    have hne : s + 5 ≠ b := fun e => h.ne (by rw [e]; rfl)
    have hm : Mv (fun g => g = b) W (fun g => g = b) (W.setCell ⟨b, r.length * 2 + 1, none⟩ (.int .i64 ((f.i + 1 : Nat) : Int))) := (Mv.refl (fun g => g = b) W).set (b := b) rfl _ _
    have hne1 : s + 1 ≠ b := by omega
    have hlr := rowF_len r
    refine ⟨?_, ?_, ⟨by rw [rowF_len], .inr ⟨b, cap, cur.setIfInBounds (r.length * 2 + 1) (.int .i64 ((f.i + 1 : Nat) : Int)), rfl, hb, heap_setCell_same W b _ cur _ _ hg, hn, hcm, by rw [Array.size_setIfInBounds]; exact hz, ?_⟩⟩, h.ne, ?_, ?_, ?_, h.pp⟩
    · rw [Below.heap_setCell _ _ _ _ hne]; exact h.var
    · rw [Below.heap_setCell _ _ _ _ hne1]; exact h.lv
    · rw [show (cur.setIfInBounds (r.length * 2 + 1) (.int .i64 ((f.i + 1 : Nat) : Int))).toList = cur.toList.set (r.length * 2 + 1) (.int .i64 ((f.i + 1 : Nat) : Int)) by simp, List.take_set]
      rw [show (⟨f.x, f.i + 1, f.g, f.o⟩ :: r : List Fr).length = (f :: r).length from rfl, ht]
      simp only [rowF]
      rw [List.set_append_right _ _ (by omega), hlr, show r.length * 2 + 1 - r.length * 2 = 1 by omega]
      rfl
    · intro f' hf'
      have hk : Keeps P W (W.setCell ⟨b, r.length * 2 + 1, none⟩ (.int .i64 ((f.i + 1 : Nat) : Int))) := hm.keeps (fun g hg e => hap g hg (.inr (.inr (by rw [e]; rfl))))
      rcases List.mem_cons.1 hf' with e | e
      · subst e; exact (h.ok f (by simp)).keep hk
      · exact (h.ok f' (by simp [e])).keep hk
    · intro f' hf'
      rcases List.mem_cons.1 hf' with e | e
      · subst e; exact h.sm f (by simp)
      · exact h.sm f' (by simp [e])
    · have := h.few
      have hc := cnt_pos x
      rw [remC_seen hx] at this
      simp only [List.length_cons] at this ⊢
      omega
/-- The last one is left. -/
theorem Wk.pop {W : World} {P : Nat → Prop} {s b cap : Nat} {lf : Value} {f : Fr} {r : List Fr} (h : Wk W P s lf (.slice (some ⟨b, 0, none⟩) (r.length + 1) cap) (f :: r)) :
    Wk (W.setCell ⟨s + 5, 0, none⟩ (.slice (some ⟨b, 0, none⟩) r.length cap)) P s lf (.slice (some ⟨b, 0, none⟩) r.length cap) r := by
  have hap := h.apart
  obtain ⟨hl, ⟨h0, -⟩ | ⟨b', cap', cur, hv, hb, hg, hn, hcm, hz, ht⟩⟩ := h.row
  · simp at h0
  · simp only [Value.slice.injEq, Option.some.injEq, Addr.mk.injEq, and_true] at hv
    obtain ⟨rfl, -, rfl⟩ := hv
    have hne : b ≠ s + 5 := fun e => h.ne (by rw [← e]; rfl)
    have hm : Mv (fun g => g = s + 5) W (fun g => g = s + 5) (W.setCell ⟨s + 5, 0, none⟩ (.slice (some ⟨b, 0, none⟩) r.length cap)) := (Mv.refl (fun g => g = s + 5) W).set (b := s + 5) rfl _ _
    have hlr := rowF_len r
    simp only [List.length_cons] at hn
    refine ⟨one_setCell h.var, ?_, ⟨hlr, .inr ⟨b, cap, cur, rfl, hb, ?_, by omega, hcm, hz, ?_⟩⟩, h.ne, ?_, fun f' hf' => h.sm f' (by simp [hf']), ?_, h.pp⟩
    · rw [Below.heap_setCell _ _ _ _ (by show s + 1 ≠ s + 5; omega)]; exact h.lv
    · rw [Below.heap_setCell _ _ _ _ hne]; exact hg
    · have h2 := congrArg (List.take (r.length * 2)) ht
      rw [List.take_take, Nat.min_eq_left (by simp only [List.length_cons]; omega)] at h2
      rw [h2, rowF, List.take_append_of_le_length (by omega), List.take_of_length_le (by omega)]
    · intro f' hf'
      exact (h.ok f' (by simp [hf'])).keep (hm.keeps (fun g hg e => hap g hg (.inr (.inl e))))
    · have := h.few
      simp only [List.length_cons, remC] at this
      omega
theorem infoVis : (Try.prog.info? 49).map (fun i => (i.zero, i.size, i.bytes)) = some (some (.agg #[.pointer none, .int .i64 0]), 2, 16) := by kernel_rfl
/-- One is put: the run of append, and the store behind it. -/
theorem run_push {W : World} {P : Nat → Prop} {s : Nat} {lf v : Value} {st : List Fr} (ty : TypeId) (h : Wk W P s lf v st) (x : Nd) (g o : Nat) (hn : NIn W P g o x) (hsm : cnt x ≤ 1048570 ∧ smk 100 x) (hfew : st.length + 1 + (cntL (pts x) + remC st) ≤ 1048570) :
    ∃ v' w', (Builtin.append_ #[50, 50] ty #[v, .slice (some ⟨W.heap.size, 0, none⟩) 1 1]).run Try.prog (W.alloc (.cells #[.pointer (some ⟨g, o, none⟩), .int .i64 0] 49)) = .ok v' w' ∧
      Wk (w'.setCell ⟨s + 5, 0, none⟩ v') P s lf v' (⟨x, 0, g, o⟩ :: st) ∧ Mv (Og s v) W (Og s v') (w'.setCell ⟨s + 5, 0, none⟩ v') ∧ w'.heap[s + 5]? = some (.cells #[v] 50 (0, 0)) := by
  obtain ⟨i0, hi, hz0, hz1, hz2⟩ := info_parts infoVis
  have hap := h.apart
  have hsz := h.size
  obtain ⟨w1, hw1⟩ : ∃ w1, w1 = W.alloc (.cells #[.pointer (some ⟨g, o, none⟩), .int .i64 0] 49) := ⟨_, rfl⟩
  have hb1 : Below W.heap.size W w1 := by rw [hw1]; exact below1 _ _
  have h1 := h.below hb1
  have hnb : w1.heap[W.heap.size]? = some (.cells #[.pointer (some ⟨g, o, none⟩), .int .i64 0] 49 (0, 0)) := by
    rw [hw1]; show (W.heap.push _)[W.heap.size]? = _; rw [Array.getElem?_push, if_pos rfl]
  rw [← hw1]
  have hnews : ∀ (j : Nat) (u : Value), ([.pointer (some ⟨g, o, none⟩), .int .i64 0] : List Value)[j]? = some u → w1.cell? ((⟨W.heap.size, 0, none⟩ : Addr).add j) = some u := by
    intro j u hj
    match j, hj with
    | 0, hj => rw [show (⟨W.heap.size, 0, none⟩ : Addr).add 0 = ⟨W.heap.size, 0, none⟩ by simp [Addr.add], cell_of_row w1 _ _ _ _ _ hnb]; exact hj
    | 1, hj => rw [show (⟨W.heap.size, 0, none⟩ : Addr).add 1 = ⟨W.heap.size, 1, none⟩ by simp [Addr.add], cell_of_row w1 _ _ _ _ _ hnb]; exact hj
    | j + 2, hj => simp at hj
  obtain ⟨v', w', hrun, hown, hgr, hwh⟩ := run_append_where (P := Try.prog) w1 (s + 4) 50 ty 49 i0 _ 2 16 Try.underlying50 hi hz0 hz1 hz2 rfl (by decide) v st.length (rowF st) h1.row ⟨W.heap.size, 0, none⟩ 1 1 [.pointer (some ⟨g, o, none⟩), .int .i64 0] rfl hnews (by intro u hu; simp only [List.mem_cons, List.not_mem_nil, or_false] at hu; rcases hu with rfl | rfl <;> rfl) (by unfold maxLen; omega) (by omega) (by have := h1.size; omega)
  have hmv1 : Mv (Og s v) w1 (Og s v') w' := by
    refine ⟨hgr.os, hgr.tape, hgr.output, hgr.size, fun k hk hno => hgr.block k hk (fun e => hno (.inr (.inr e.symm))), fun k hk => ?_⟩
    rcases hk with e | e | e
    · exact .inl (.inl e)
    · exact .inl (.inr (.inl e))
    · rcases hwh with h2 | h2
      · exact .inl (.inr (.inr (by rw [← h2]; exact e)))
      · exact .inr (h2 k e)
  have hmv : Mv (Og s v) W (Og s v') w' := (mv_below (Og s v) hb1).trans hmv1
  have hvne : v'.ownBlock ≠ some (s + 5) := by
    rcases hwh with h2 | h2
    · rw [h2]; exact h.ne
    · intro e; have := h2 _ e; have := h1.size; omega
  have hvar : w'.heap[s + 5]? = some (.cells #[v] 50 (0, 0)) := by rw [hgr.block _ h1.size (fun e => h.ne e.symm)]; exact h1.var
  have hlv : w'.heap[s + 1]? = some (.cells #[lf] 40 (0, 0)) := by
    rw [hgr.block _ (by have := h1.size; omega) (fun e => by have := (h1.row.lt _ e.symm).1; omega)]; exact h1.lv
  have hmv2 : Mv (Og s v) W (Og s v') (w'.setCell ⟨s + 5, 0, none⟩ v') := hmv.set (.inr (.inl rfl)) _ _
  have hk : Keeps P W (w'.setCell ⟨s + 5, 0, none⟩ v') := hmv2.keeps hap
  refine ⟨v', w', hrun, ⟨one_setCell hvar, ?_, ?_, hvne, ?_, ?_, ?_, h.pp⟩, hmv2, hvar⟩
  · rw [Below.heap_setCell _ _ _ _ (by show s + 1 ≠ s + 5; omega)]; exact hlv
  · exact ownsRow_setCell_other (n := st.length + 1) (xs := rowF (⟨x, 0, g, o⟩ :: st)) hown hvne _
  · intro f hf
    rcases List.mem_cons.1 hf with e | e
    · subst e; exact hn.keep hk
    · exact (h.ok f e).keep hk
  · intro f hf
    rcases List.mem_cons.1 hf with e | e
    · subst e; exact hsm
    · exact h.sm f e
  · simp only [List.length_cons, remC, todo_zero]
    exact hfew
theorem wpList_push {W W1 : World} {P : Nat → Prop} {s : Nat} {lf v : Value} {st : List Fr} {ops : Array Oper} {rest : List Oper} {op : Oper} {a : Act} {Q : Exit → Act → World → Prop} (hgd : op.guard = none) (s' x' : Operand)
    (ho : op.op = .call { callee := .builtin .append, args := #[s', x'], argTypes := #[50, 50] }) (g o : Nat) (hW : W1 = W.alloc (.cells #[.pointer (some ⟨g, o, none⟩), .int .i64 0] 49)) (h : Wk W P s lf v st) (hs : a.eval s' = v) (q : Nat) (hx : a.eval x' = .slice (some ⟨q, 0, none⟩) 1 1) (hq : q = W.heap.size)
    (x : Nd) (hn : NIn W P g o x) (hsm : cnt x ≤ 1048570 ∧ smk 100 x) (hfew : st.length + 1 + (cntL (pts x) + remC st) ≤ 1048570)
    (hk : ∀ v' w', Wk (w'.setCell ⟨s + 5, 0, none⟩ v') P s lf v' (⟨x, 0, g, o⟩ :: st) → Mv (Og s v) W (Og s v') (w'.setCell ⟨s + 5, 0, none⟩ v') → w'.heap[s + 5]? = some (.cells #[v] 50 (0, 0)) → wpList Try.prog ops Q rest (a.put op.dst v') w') : wpList Try.prog ops Q (op :: rest) a W1 := by
  subst hq hW
  obtain ⟨v', w', hrun, h1, h2, h3⟩ := run_push op.type h x g o hn hsm hfew
  refine wpList_plain hgd fun K hK => ?_
  unfold Oper.wp
  simp [execOp, ho, resolve, invoke, builtin, hs, hx, hrun, Result.andThen]
  exact hK _ _ (hk v' w' h1 h2 h3)
end Go.Proofs.Ytkdaombcbcegfaa
