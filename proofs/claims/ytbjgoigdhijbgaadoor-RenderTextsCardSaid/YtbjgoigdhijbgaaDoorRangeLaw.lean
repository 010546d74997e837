/-
  A range over a function, at the wide fence: the iterator may own blocks of cells, the body may turn its own ones alone.
-/
import Derived.RangeFuncIn
import Derived.RangeFuncRecord
import Derived.RangeFuncSeq
import Derived.RangeFuncLeaves
import Derived.RangeFuncCalls
import Derived.Below
import Derived.Lib.Hide
set_option linter.all false
namespace Go.Proofs.YtbjgoigdhijbgaaDoor
open Go.RowKit

/-- From W to W' no block has turned that was there, but these. -/
structure Tn (M : Nat → Prop) (W W' : World) : Prop where
  os : W'.os = W.os
  tape : W'.tape = W.tape
  output : W'.output = W.output
  size : W.heap.size ≤ W'.heap.size
  block : ∀ g, g < W.heap.size → ¬ M g → W'.heap[g]? = W.heap[g]?
theorem Tn.refl (M : Nat → Prop) (W : World) : Tn M W W := ⟨rfl, rfl, rfl, Nat.le_refl _, fun _ _ _ => rfl⟩
theorem Tn.trans {M : Nat → Prop} {A B C : World} (h : Tn M A B) (k : Tn M B C) : Tn M A C :=
  ⟨k.os.trans h.os, k.tape.trans h.tape, k.output.trans h.output, Nat.le_trans h.size k.size, fun g hg hm => (k.block g (Nat.lt_of_lt_of_le hg h.size) hm).trans (h.block g hg hm)⟩
theorem Tn.wide {M M' : Nat → Prop} {A B : World} (h : Tn M A B) (hm : ∀ g, g < A.heap.size → M g → M' g) : Tn M' A B :=
  ⟨h.os, h.tape, h.output, h.size, fun g hg hn => h.block g hg (fun k => hn (hm g hg k))⟩
theorem tn_of_below {M : Nat → Prop} {W W' : World} (h : Below W.heap.size W W') : Tn M W W' := ⟨h.os, h.tape, h.output, h.size, fun g hg _ => h.block g hg⟩
theorem Tn.below {M : Nat → Prop} {W W' : World} (h : Tn M W W') {B : Nat} (hB : B ≤ W.heap.size) (hm : ∀ g, M g → B ≤ g) : Below B W W' :=
  ⟨h.os, h.tape, h.output, h.size, fun g hg => h.block g (by omega) (fun k => by have := hm g k; omega)⟩
theorem Tn.set {M : Nat → Prop} {A W : World} (h : Tn M A W) {b : Nat} (hb : M b) (j : Nat) (u : Value) : Tn M A (W.setCell ⟨b, j, none⟩ u) :=
  h.trans ⟨rfl, rfl, rfl, by simp, fun g _ hn => Below.heap_setCell _ _ _ _ (fun e => hn (by have e : g = b := e; rw [e]; exact hb))⟩
theorem Tn.alloc {M : Nat → Prop} {A W : World} (h : Tn M A W) (o : Obj) : Tn M A (W.alloc o) := h.trans (tn_of_below ((Below.refl _ _).alloc (Nat.le_refl _) _))
theorem Tn.put {M : Nat → Prop} {A W : World} (h : Tn M A W) {b : Nat} (hb : M b) (o : Obj) : Tn M A (W.putObj b o) :=
  h.trans ⟨rfl, rfl, rfl, by simp, fun g _ hn => World.putObj_heap_other (fun e => hn (by rw [e]; exact hb))⟩
/-- What an iterator promises: M: the blocks that the body may turn; D: what is so of an element that is handed over; S: what all of them are. -/
def ItS {α : Type} (P : Program) (gf : Nat) (lb : Array Value) (encs : α → Array Value) (M : Nat → Prop) (D : World → α → Prop) (S : List α → Prop) (N : Nat) (w : World) : Prop :=
  ∀ (l : Nat) (J Jx : List α → World → Prop) (W : World), Below w.heap.size w W → w.heap.size ≤ l → l < W.heap.size →
    (∀ xs A B, J xs A → (∀ k, k < W.heap.size → B.heap[k]? = A.heap[k]?) → J xs B) → (∀ xs A B, Jx xs A → (∀ k, k < W.heap.size → B.heap[k]? = A.heap[k]?) → Jx xs B) →
    (∀ pre x W1, J pre W1 → (∀ B, Tn (fun k => k = l) W1 B → D B x) → pre.length < N → YieldAt Fence.wide 0 P l (encs x) W1 fun e W' =>
      (e = .returned (.bool true) ∧ J (pre ++ [x]) W' ∧ Tn (fun k => M k ∨ k = l) W1 W') ∨ (e = .returned (.bool false) ∧ Jx (pre ++ [x]) W' ∧ Tn (fun k => M k ∨ k = l) W1 W')) →
    J [] W →
    CallsIn Fence.wide 0 P gf (#[.func (.yield l) #[] #[]] ++ lb) W fun e W' => (∃ v, e = .returned v) ∧ Tn (fun k => M k ∨ k = l) W W' ∧
      ((∃ xs, S xs ∧ J xs W') ∨ ∃ pre x rest, S (pre ++ x :: rest) ∧ Jx (pre ++ [x]) W')
/-- How a round's body may end. -/
def rndQ {α : Type} (M : Nat → Prop) (I : List α → World → Prop) (Ix : Code → List α → World → Prop) (xs : List α) (W : World) : Exit → Act → World → Prop
  | .normal, _, W' => Tn M W W' ∧ I xs W'
  | .ret, _, W' => Tn M W W' ∧ Ix .ret xs W'
  | _, _, _ => False
section
variable {P : Program}
theorem rf_walk {α : Type} {g : Operand} {ps : Array Tmp} {assign body : Code} {Q : Exit → Act → World → Prop} {a : Act} {w : World}
    {gf : Nat} {lb : Array Value} (hg : a.eval g = .func (.func gf) #[] lb) (eg : ∀ args w, (callFunc gf args).run P w = .ok (.enter gf args) w)
    {encs : α → Array Value} {M : Nat → Prop} {D : World → α → Prop} {S : List α → Prop} {N : Nat} (hseq : ItS P gf lb encs M D S N w) (hps : ∀ x, (encs x).size = ps.size) (hM : ∀ k, M k → k < w.heap.size)
    (I : List α → World → Prop) (Ix : Code → List α → World → Prop) (hI : ∀ xs A B, I xs A → (∀ k, M k → B.heap[k]? = A.heap[k]?) → I xs B) (hIx : ∀ c xs A B, Ix c xs A → (∀ k, M k → B.heap[k]? = A.heap[k]?) → Ix c xs B)
    (h0 : I [] w) (a₁ : α → Act)
    (hassign : ∀ (l : Nat) (x : α) (W : World) (K : Act → World → Prop), K (a₁ x) W →
      assign.wpIn (Fence.wide.inRound l) 0 P (Exit.then K (fun _ _ _ => False)) { tmps := (ps.zip (encs x)).foldl (fun t (p, v) => t.setIfInBounds p v) a.tmps, defers := [] } W)
    (hbody : ∀ (l : Nat) (pre : List α) (x : α) (W : World), I pre W → D W x → pre.length < N → body.wpIn (Fence.wide.inRound l) 0 P (rndQ M I Ix (pre ++ [x]) W) (a₁ x) W)
    (hdone : ∀ (K : Nat) (xs : List α) (W : World), S xs → I xs W → W.heap[K]? = some (.deferred (some [])) → w.heap.size ≤ K → Tn M w W → Q .normal { a with defers := { target := .collected K, args := #[] } :: a.defers } W)
    (hstop : ∀ (K : Nat) (c : Code) (pre : List α) (x : α) (rest : List α) (W : World), S (pre ++ x :: rest) → Ix c (pre ++ [x]) W → W.heap[K]? = some (.deferred (some [])) → w.heap.size ≤ K → Tn M w W → c.wpIn Fence.wide 0 P Q { a with defers := { target := .collected K, args := #[] } :: a.defers } W) :
    (Code.rangeFunc g ps assign body).wpIn Fence.wide 0 P Q a w := by
  refine wpIn_rangeFunc ?_
  intro fn _
  obtain ⟨rec, hrec⟩ : ∃ rec : LoopState → Option Code → Loop, rec = fun st pe => { state := st, pending := pe, fn, tmps := a.tmps, params := ps, assign, body, defers := w.heap.size } := ⟨_, rfl⟩
  obtain ⟨l, hl⟩ : ∃ l, l = w.heap.size + 1 := ⟨_, rfl⟩
  obtain ⟨W1, hW1⟩ : ∃ W1, W1 = (w.alloc (.deferred (some []))).alloc (.loop (rec .ready none)) := ⟨_, rfl⟩
  have hb1 : Below w.heap.size w W1 := by rw [hW1]; exact ((Below.refl _ w).alloc (Nat.le_refl _) _).alloc (by simp) _
  have hs1 : W1.heap.size = w.heap.size + 2 := by rw [hW1]; simp
  have hL1 : W1.heap[l]? = some (.loop (rec .ready none)) := by
    have h := World.alloc_heap_new (w.alloc (.deferred (some []))) (.loop (rec .ready none))
    rw [World.size_alloc] at h
    rw [hW1, hl]; exact h
  have hK1 : W1.heap[w.heap.size]? = some (.deferred (some [])) := by
    rw [hW1]; exact (Below.heap_alloc _ _ _ (by simp)).trans (World.alloc_heap_new w _)
  have hMl : ∀ k, M k → k ≠ l ∧ k ≠ w.heap.size := fun k hk => by have := hM k hk; omega
  have keepM : ∀ {A B : World}, (∀ k, k < W1.heap.size → B.heap[k]? = A.heap[k]?) → ∀ k, M k → B.heap[k]? = A.heap[k]? := fun h k hk => h k (by have := hM k hk; omega)
  have putM : ∀ (A : World) (o : Obj), ∀ k, M k → (A.putObj l o).heap[k]? = A.heap[k]? := fun A o k hk => World.putObj_heap_other (hMl k hk).1
  refine ⟨l, [{ target := .collected w.heap.size, args := #[] }], W1, { target := .fn (.func gf) lb, args := #[.func (.yield l) #[] #[]] }, W1, gf, #[.func (.yield l) #[] #[]] ++ lb, W1, ?_, ?_, fun _ _ => trivial, ?_, (fun h => by cases h), ?_⟩
  · rw [hW1, hl, hrec]; exact run_enterLoop_outer _ _ _ _ _
  · simp only [resolve, hg]
    simp [go_sem]
  · simp [invoke, go_sem, eg]
  · refine (hseq l
      (fun xs W => I xs W ∧ W.heap[l]? = some (.loop (rec .ready none)) ∧ W.heap[w.heap.size]? = some (.deferred (some [])))
      (fun xs W => ∃ c, Ix c xs W ∧ W.heap[l]? = some (.loop (rec .done (some c))) ∧ W.heap[w.heap.size]? = some (.deferred (some [])))
      W1 hb1 (by omega) (by omega)
      (fun xs A B h k => ⟨hI xs A B h.1 (keepM k), (k l (by omega)).trans h.2.1, (k _ (by omega)).trans h.2.2⟩)
      (fun xs A B h k => by obtain ⟨c, h1, h2, h3⟩ := h; exact ⟨c, hIx c xs A B h1 (keepM k), (k l (by omega)).trans h2, (k _ (by omega)).trans h3⟩)
      ?_ ⟨hI _ w W1 h0 (fun k hk => hb1.block k (hM k hk)), hL1, hK1⟩).mono ?_
    · rintro pre x W ⟨hi, hlo, hk⟩ hD hlen
      have hlt : l < W.heap.size := (Array.getElem?_eq_some_iff.1 hlo).1
      have hy := run_yield (P := P) (args := encs x) hlo (by rw [hrec]; exact hps x)
      rw [hrec] at hy
      have t2 : Tn (fun k => k = l) W (W.putObj l (.loop { rec .ready none with state := .busy })) := (Tn.refl (fun k => k = l) W).put (b := l) rfl _
      have hl2 : (W.putObj l (.loop { rec .ready none with state := .busy })).heap[l]? = some (.loop { rec .ready none with state := .busy }) := World.putObj_heap_same hlt
      have hk2 : (W.putObj l (.loop { rec .ready none with state := .busy })).heap[w.heap.size]? = some (.deferred (some [])) := (World.putObj_heap_other (by omega)).trans hk
      refine ⟨fn, _, assign, body, hy, roundIn_of_wpIn trivial (hassign _ x W _ ⟨_, run_beginRound hlo (by rw [hrec]), ?_⟩)⟩
      refine wpIn_mono (hbody l pre x _ (hI _ W _ hi (putM W _)) (hD _ t2) hlen) ?_
      have fin : ∀ (jump : Option Code) (W3 : World), Tn M (W.putObj l (.loop { rec .ready none with state := .busy })) W3 →
          (Instr.endRound l jump).run P W3 = .ok (.bool jump.isNone) (W3.putObj l (.loop (rec (if jump.isNone then .ready else .done) jump))) ∧
          (W3.putObj l (.loop (rec (if jump.isNone then .ready else .done) jump))).heap[l]? = some (.loop (rec (if jump.isNone then .ready else .done) jump)) ∧
          (W3.putObj l (.loop (rec (if jump.isNone then .ready else .done) jump))).heap[w.heap.size]? = some (.deferred (some [])) ∧
          Tn (fun k => M k ∨ k = l) W (W3.putObj l (.loop (rec (if jump.isNone then .ready else .done) jump))) := fun jump W3 t3 => by
        have hl3 := (t3.block l (by simpa using hlt) (fun h => (hMl l h).1 rfl)).trans hl2
        have hk3 := (t3.block w.heap.size (by simp; omega) (fun h => (hMl _ h).2 rfl)).trans hk2
        have := run_endRound (P := P) jump hl3
        rw [hrec] at this ⊢
        exact ⟨this, World.putObj_heap_same (Array.getElem?_eq_some_iff.1 hl3).1, (World.putObj_heap_other (by omega)).trans hk3,
          ((t2.wide (fun _ _ h => .inr h)).trans (t3.wide (fun _ _ h => .inl h))).put (b := l) (.inr rfl) _⟩
      rintro e a3 W3 hp
      cases e with
      | normal =>
        obtain ⟨t3, hi3⟩ := hp
        obtain ⟨hr, hl4, hk4, t4⟩ := fin none W3 t3
        exact ⟨_, _, hr, .inl ⟨rfl, ⟨hI _ W3 _ hi3 (putM W3 _), hl4, hk4⟩, t4⟩⟩
      | ret =>
        obtain ⟨t3, hi3⟩ := hp
        obtain ⟨hr, hl4, hk4, t4⟩ := fin (some .ret) W3 t3
        exact ⟨_, _, hr, .inr ⟨rfl, ⟨.ret, hIx _ _ W3 _ hi3 (putM W3 _), hl4, hk4⟩, t4⟩⟩
      | exit id => exact hp.elim
      | goto t => exact hp.elim
      | panic ch => exact hp.elim
      | outgrown => exact hp.elim
    · rintro e W2 ⟨⟨v, rfl⟩, t2, h⟩
      have tM : ∀ o : Obj, Tn M w (W2.putObj l o) := fun o => by
        refine ⟨t2.os.trans hb1.os, t2.tape.trans hb1.tape, t2.output.trans hb1.output, ?_, fun k hk hm => ?_⟩
        · have := t2.size; simp; omega
        · rw [World.putObj_heap_other (by omega), t2.block k (by omega) (fun h => h.elim hm (by omega)), hb1.block k hk]
      rcases h with ⟨xs, hS, hi, hlo, hk⟩ | ⟨pre, x, rest, hS, c, hi, hlo, hk⟩
      · exact ⟨none, _, by have := run_endLoop (P := P) hlo (by rw [hrec]; simp); rw [hrec] at this; exact this, hdone _ xs _ hS (hI _ W2 _ hi (putM W2 _)) ((World.putObj_heap_other (by omega)).trans hk) (Nat.le_refl _) (tM _)⟩
      · exact ⟨some c, _, by have := run_endLoop (P := P) hlo (by rw [hrec]; simp); rw [hrec] at this; exact this, hstop _ c pre x rest _ hS (hIx c _ W2 _ hi (putM W2 _)) ((World.putObj_heap_other (by omega)).trans hk) (Nat.le_refl _) (tM _)⟩
end
end Go.Proofs.YtbjgoigdhijbgaaDoor
