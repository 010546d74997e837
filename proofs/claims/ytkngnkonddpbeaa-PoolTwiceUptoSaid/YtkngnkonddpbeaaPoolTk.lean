/-
  The landed pool's ofTree: what is open, plainly and in memory.
-/
import Derived.Test.YtkngnkonddpbeaaPoolMem
namespace Go.Proofs.Ytkngnkonddpbeaa
open Go.RowKit Go.PlainAid

/-! ### plainly -/
/-- An open node: the node, how many of its parts are in, their list's number, the size so far, where its cells lie. -/
structure Fv where
  x : Nd
  i : Nat
  it : Nat
  sz : Nat
  g : Nat
  o : Nat
def ndn (x : Nd) (r : Nat × Nat × Sto) : Nat × Sto := match x with | .mk k t _ _ bl no ta => ndone k t bl no ta r
def fdone (f : Fv) (S : Sto) : Nat × Sto := ndn f.x (ptL ((kds' f.x).drop f.i) (f.it, f.sz, S))
/-- What comes of all that is open. -/
def fin11 : Fv → List Fv → Sto → Nat × Sto
  | f, [], S => fdone f S
  | f, f2 :: r, S => fin11 { f2 with it := (kid (fdone f S) f2.it f2.sz).1, sz := (kid (fdone f S) f2.it f2.sz).2.1 } r (kid (fdone f S) f2.it f2.sz).2.2
theorem fdone_zero (x : Nd) (g o : Nat) (S : Sto) : fdone ⟨x, 0, 0, 1, g, o⟩ S = pt x S := by
  cases x with
  | mk k t l br bl no ta => simp only [fdone, ndn, kds', List.drop_zero, pt]
theorem fin_of {f f' : Fv} {r : List Fv} {S S' : Sto} (h : fdone f S = fdone f' S') : fin11 f r S = fin11 f' r S' := by
  cases r with
  | nil => simpa only [fin11] using h
  | cons f2 r => simp only [fin11, h]
theorem fin_push {f : Fv} {r : List Fv} {S : Sto} {x : Nd} (hx : (kds' f.x)[f.i]? = some x) (g o : Nat) : fin11 ⟨x, 0, 0, 1, g, o⟩ ({ f with i := f.i + 1 } :: r) S = fin11 f r S := by
  have hlt := (List.getElem?_eq_some_iff.1 hx).1
  have hd : (kds' f.x).drop f.i = x :: (kds' f.x).drop (f.i + 1) := by
    rw [List.drop_eq_getElem_cons hlt]
    congr 1
    exact (List.getElem?_eq_some_iff.1 hx).2
  simp only [fin11, fdone_zero]
  refine fin_of ?_
  unfold fdone
  rw [hd]
  simp only [ptL]
theorem fdone_end {f : Fv} (h : (kds' f.x).length ≤ f.i) (S : Sto) : fdone f S = ndn f.x (f.it, f.sz, S) := by
  unfold fdone
  rw [List.drop_eq_nil_of_le h]
  simp only [ptL]
theorem ndn_pre (x : Nd) (r : Nat × Nat × Sto) : r.2.2.pre (ndn x r).2 := by
  cases x with
  | mk k t l br bl no ta => exact ndone_pre k t bl no ta r
theorem fdone_pre (f : Fv) (S : Sto) : S.pre (fdone f S).2 := (ptL_pre _ (f.it, f.sz, S)).trans (ndn_pre _ _)
theorem fin_pre : ∀ (r : List Fv) (f : Fv) (S : Sto), S.pre (fin11 f r S).2
  | [], f, S => by simp only [fin11]; exact fdone_pre f S
  | f2 :: r, f, S => by
    simp only [fin11]
    exact (fdone_pre f S).trans ((kid_pre _ _ _).trans (fin_pre r _ _))
theorem Sto.pre.len {S T : Sto} (h : S.pre T) : S.ls.length ≤ T.ls.length ∧ S.ks.length ≤ T.ks.length ∧ S.zs.length ≤ T.zs.length ∧ ∀ z ∈ S.zs, z ∈ T.zs := by
  obtain ⟨⟨a, h1⟩, ⟨b, h2⟩, ⟨c, h3⟩⟩ := h
  rw [h1, h2, h3]
  simp only [List.length_append, List.mem_append]
  exact ⟨by omega, by omega, by omega, fun z hz => .inl hz⟩  -- pre_len
def remV : List Fv → Nat
  | [] => 0
  | f :: r => cntL ((kds' f.x).drop f.i) + remV r
theorem drop_at11 {l : List Nd} {i : Nat} {x : Nd} (h : l[i]? = some x) : l.drop i = x :: l.drop (i + 1) := by
  have hlt := (List.getElem?_eq_some_iff.1 h).1
  rw [List.drop_eq_getElem_cons hlt]
  congr 1
  exact (List.getElem?_eq_some_iff.1 h).2
theorem cnt_kds (x : Nd) : cnt x = 1 + cntL (kds' x) := by cases x; simp only [cnt, kds']
theorem remV_seen {f : Fv} {r : List Fv} {x : Nd} (h : (kds' f.x)[f.i]? = some x) : remV (f :: r) = cnt x + remV ({ f with i := f.i + 1 } :: r) := by
  simp only [remV]
  rw [drop_at11 h]
  simp only [cntL]
  omega
theorem rem_pop11 (f : Fv) (x : Nd) (i it sz it' sz' g o : Nat) (r : List Fv) : 2 * remV (⟨x, i, it', sz', g, o⟩ :: r) + r.length < 2 * remV (f :: ⟨x, i, it, sz, g, o⟩ :: r) + (⟨x, i, it, sz, g, o⟩ :: r : List Fv).length := by
  simp only [remV, List.length_cons]
  omega
/-! ### in memory -/
def celV (f : Fv) : List Value := [.pointer (some ⟨f.g, f.o, none⟩), .int .i64 (f.i : Int), .int .i64 (f.it : Int), .int .i64 (f.sz : Int)]
def rowV : List Fv → List Value
  | [] => []
  | f :: r => rowV r ++ celV f
theorem rowV_len : ∀ st : List Fv, (rowV st).length = st.length * 4
  | [] => rfl
  | f :: r => by rw [rowV, List.length_append, rowV_len r]; simp only [celV, List.length_cons, List.length_nil]; omega
/-- The row of what is open. -/
structure Tk (W : World) (P : Nat → Prop) (base : Nat) (v : Value) (st : List Fv) : Prop where
  row : W.ownsRow base 50 4 v st.length (rowV st)
  ok : ∀ f ∈ st, NIn W P f.g f.o f.x
  sm : ∀ f ∈ st, OkP f.x ∧ f.i ≤ (kds' f.x).length ∧ f.it ≤ 1099511627776 ∧ f.sz ≤ 1 + 5000 * f.i
  tl : ∀ f ∈ st.tail, f.sz + 5000 ≤ 1 + 5000 * f.i
  few : st.length + remV st ≤ 6000
  pp : ∀ k, P k → k < base
theorem Tk.apart {W : World} {P : Nat → Prop} {base : Nat} {v : Value} {st : List Fv} (h : Tk W P base v st) : ∀ k, P k → v.ownBlock ≠ some k := fun k hk e => by
  have := h.pp k hk
  have := (h.row.lt k e).1
  omega
theorem Tk.keep {W W' : World} {P : Nat → Prop} {base : Nat} {v : Value} {st : List Fv} (h : Tk W P base v st) (hk : Keeps P W W') (hb : ∀ k, v.ownBlock = some k → W'.heap[k]? = W.heap[k]?) : Tk W' P base v st :=
  ⟨row_block h.row hb, fun f hf => (h.ok f hf).keep hk, h.sm, h.tl, h.few, h.pp⟩
theorem Tk.below {W W' : World} {P : Nat → Prop} {base : Nat} {v : Value} {st : List Fv} (h : Tk W P base v st) (hb : Below W.heap.size W W') : Tk W' P base v st :=
  h.keep (keeps_below hb) (fun k e => hb.block k (h.row.lt k e).2)
theorem Tk.top {W : World} {P : Nat → Prop} {base : Nat} {v : Value} {f : Fv} {r : List Fv} (h : Tk W P base v (f :: r)) :
    ∃ b cap, v = .slice (some ⟨b, 0, none⟩) (r.length + 1) cap ∧ W.cell? ⟨b, r.length * 4, none⟩ = some (.pointer (some ⟨f.g, f.o, none⟩)) ∧ W.cell? ⟨b, r.length * 4 + 1, none⟩ = some (.int .i64 (f.i : Int)) ∧ W.cell? ⟨b, r.length * 4 + 2, none⟩ = some (.int .i64 (f.it : Int)) ∧ W.cell? ⟨b, r.length * 4 + 3, none⟩ = some (.int .i64 (f.sz : Int)) ∧ r.length + 1 ≤ cap ∧ r.length + 1 ≤ 6000 ∧ base ≤ b ∧ b < W.heap.size ∧ ∀ j, W.frozen? ⟨b, j, none⟩ = false := by
  have hf := h.few
  obtain ⟨-, ⟨rfl, h0⟩ | ⟨b, cap, cur, rfl, hb, hg, hn, hcm, hz, ht⟩⟩ := h.row
  · simp at h0
  · have hl := rowV_len r
    simp only [List.length_cons] at hn hz ht hf
    have e : ∀ j, j < 4 → (cur[r.length * 4 + j]? : Option Value) = (celV f)[j]? := fun j hj => by
      have e0 : (rowV (f :: r))[r.length * 4 + j]? = (celV f)[j]? := by
        rw [rowV, List.getElem?_append_right (by omega), hl, show r.length * 4 + j - r.length * 4 = j by omega]
      rw [← ht, List.getElem?_take_of_lt (by omega), Array.getElem?_toList] at e0
      exact e0
    exact ⟨b, cap, rfl, by rw [cell_of_row W _ _ _ _ _ hg]; exact e 0 (by omega), by rw [cell_of_row W _ _ _ _ _ hg]; exact e 1 (by omega), by rw [cell_of_row W _ _ _ _ _ hg]; exact e 2 (by omega), by rw [cell_of_row W _ _ _ _ _ hg]; exact e 3 (by omega), hn, by omega, hb, lt_of_block hg, fun j => frz_of hg _⟩
/-- A cell of the last one is set. -/
theorem Tk.setTop {W : World} {P : Nat → Prop} {base b cap : Nat} {f : Fv} {r : List Fv} (h : Tk W P base (.slice (some ⟨b, 0, none⟩) (r.length + 1) cap) (f :: r)) (f' : Fv) (hx : f'.x = f.x ∧ f'.g = f.g ∧ f'.o = f.o) (j : Nat) (u : Value) (hu : (celV f).set j u = celV f')
    (hsz : f'.i ≤ (kds' f'.x).length ∧ f'.it ≤ 1099511627776 ∧ f'.sz ≤ 1 + 5000 * f'.i) (hfew : r.length + 1 + remV (f' :: r) ≤ 6000) : Tk (W.setCell ⟨b, r.length * 4 + j, none⟩ u) P base (.slice (some ⟨b, 0, none⟩) (r.length + 1) cap) (f' :: r) := by
  have hap := h.apart
  have hk : Keeps P W (W.setCell ⟨b, r.length * 4 + j, none⟩ u) := ⟨by simp, fun k hk _ => Below.heap_setCell _ _ _ _ (fun e => hap k hk (by have e : k = b := e; rw [e]; rfl))⟩
  obtain ⟨hl, ⟨h0, -⟩ | ⟨b', cap', cur, hv, hb, hg, hn, hcm, hz, ht⟩⟩ := h.row
  · simp at h0
  · simp only [Value.slice.injEq, Option.some.injEq, Addr.mk.injEq, and_true] at hv
    obtain ⟨rfl, -, rfl⟩ := hv
    have hlr := rowV_len r
    refine ⟨⟨by rw [rowV_len], .inr ⟨b, cap, cur.setIfInBounds (r.length * 4 + j) u, rfl, hb, Lib.heap_setCell_same hg u, hn, hcm, by rw [Array.size_setIfInBounds]; exact hz, ?_⟩⟩, ?_, ?_, h.tl, hfew, h.pp⟩
    · rw [show (cur.setIfInBounds (r.length * 4 + j) u).toList = cur.toList.set (r.length * 4 + j) u by simp, List.take_set]
      rw [show (f' :: r : List Fv).length = (f :: r).length from rfl, ht]
      simp only [rowV]
      rw [List.set_append_right _ _ (by omega), hlr, show r.length * 4 + j - r.length * 4 = j by omega, hu]
    · intro f2 hf2
      rcases List.mem_cons.1 hf2 with e | e
      · subst e
        rw [hx.1, hx.2.1, hx.2.2]
        exact (h.ok f (by simp)).keep hk
      · exact (h.ok f2 (by simp [e])).keep hk
    · intro f2 hf2
      rcases List.mem_cons.1 hf2 with e | e
      · subst e
        refine ⟨?_, hsz⟩
        rw [hx.1]
        exact (h.sm f (by simp)).1
      · exact h.sm f2 (by simp [e])
theorem smk_at11 {b : Nat} : ∀ {l : List Nd} {i : Nat} {x : Nd}, l[i]? = some x → smkL b l → smk b x
  | [], _, _, h, _ => by simp at h
  | y :: t, 0, x, h, hs => by
    simp only [List.getElem?_cons_zero, Option.some.injEq] at h
    subst h
    simp only [smkL] at hs
    exact hs.1
  | y :: t, i + 1, x, h, hs => by
    simp only [List.getElem?_cons_succ] at h
    simp only [smkL] at hs
    exact smk_at11 h hs.2
theorem cntL_at11 {l : List Nd} {i : Nat} {x : Nd} (h : l[i]? = some x) : cnt x ≤ cntL l := by
  induction l generalizing i with
  | nil => simp at h
  | cons y t ih =>
    simp only [cntL]
    cases i with
    | zero => simp only [List.getElem?_cons_zero, Option.some.injEq] at h; subst h; omega
    | succ i => have := ih (i := i) (by simpa using h); omega
theorem okP_kid {x y : Nd} {i : Nat} (h : OkP x) (hy : (kds' x)[i]? = some y) : OkP y := by
  cases x with
  | mk k t l br bl no ta =>
    obtain ⟨h1, h2, h3⟩ := h
    simp only [cnt, smk] at h1 h2
    simp only [kds'] at hy
    have := cntL_at11 hy
    exact ⟨by omega, smk_at11 hy h2.2.2, h3.inv.2.2.2 y (List.mem_of_getElem? hy)⟩
/-- One part more has been come to. -/
theorem Tk.seen {W : World} {P : Nat → Prop} {base b cap : Nat} {x y : Nd} {i it sz g0 o0 : Nat} {r : List Fv} (h : Tk W P base (.slice (some ⟨b, 0, none⟩) (r.length + 1) cap) (⟨x, i, it, sz, g0, o0⟩ :: r)) (hy : (kds' x)[i]? = some y) :
    Tk (W.setCell ⟨b, r.length * 4 + 1, none⟩ (.int .i64 ((i : Int) + 1))) P base (.slice (some ⟨b, 0, none⟩) (r.length + 1) cap) (⟨x, i + 1, it, sz, g0, o0⟩ :: r) ∧ OkP y ∧ (∀ f ∈ (⟨x, i + 1, it, sz, g0, o0⟩ :: r : List Fv), f.sz + 5000 ≤ 1 + 5000 * f.i) ∧
    (⟨x, i + 1, it, sz, g0, o0⟩ :: r : List Fv).length + 1 + (cntL (kds' y) + remV (⟨x, i + 1, it, sz, g0, o0⟩ :: r)) ≤ 6000 ∧
    ∀ g' o', 2 * remV (⟨y, 0, 0, 1, g', o'⟩ :: ⟨x, i + 1, it, sz, g0, o0⟩ :: r) + (⟨x, i + 1, it, sz, g0, o0⟩ :: r : List Fv).length < 2 * remV (⟨x, i, it, sz, g0, o0⟩ :: r) + r.length := by
  obtain ⟨s1, s4, s5, s6⟩ := h.sm _ (List.mem_cons_self ..)
  have hlt := (List.getElem?_eq_some_iff.1 hy).1
  have hfew := h.few
  have hrv := remV_seen (f := ⟨x, i, it, sz, g0, o0⟩) (r := r) (x := y) hy
  have hcy := cnt_kds y
  have htl := h.tl
  simp only at s1 s4 s5 s6 hrv
  rw [hrv] at hfew
  simp only [List.length_cons, List.tail_cons] at hfew htl
  refine ⟨h.setTop ⟨x, i + 1, it, sz, g0, o0⟩ ⟨rfl, rfl, rfl⟩ 1 (.int .i64 ((i : Int) + 1)) rfl ⟨hlt, s5, ?_⟩ ?_, okP_kid s1 hy, ?_, ?_, ?_⟩
  · simp only
    omega
  · omega
  · intro f hf
    rcases List.mem_cons.1 hf with e | e
    · subst e
      simp only
      omega
    · exact htl f e
  · simp only [List.length_cons]
    omega
  · intro g' o'
    rw [hrv]
    have e : ∀ q : List Fv, remV (⟨y, 0, 0, 1, g', o'⟩ :: q) = cntL (kds' y) + remV q := fun q => by simp only [remV, List.drop_zero]
    rw [e]
    simp only [List.length_cons]
    omega
/-- The last one is left. -/
theorem Tk.pop {W : World} {P : Nat → Prop} {base b cap : Nat} {f : Fv} {r : List Fv} (h : Tk W P base (.slice (some ⟨b, 0, none⟩) (r.length + 1) cap) (f :: r)) : Tk W P base (.slice (some ⟨b, 0, none⟩) r.length cap) r := by
  obtain ⟨hl, ⟨h0, -⟩ | ⟨b', cap', cur, hv, hb, hg, hn, hcm, hz, ht⟩⟩ := h.row
  · simp at h0
  · simp only [Value.slice.injEq, Option.some.injEq, Addr.mk.injEq, and_true] at hv
    obtain ⟨rfl, -, rfl⟩ := hv
    have hlr := rowV_len r
    simp only [List.length_cons] at hn
    refine ⟨⟨hlr, .inr ⟨b, cap, cur, rfl, hb, hg, by omega, hcm, hz, ?_⟩⟩, fun f2 hf2 => h.ok f2 (by simp [hf2]), fun f2 hf2 => h.sm f2 (by simp [hf2]), fun f2 hf2 => h.tl f2 (List.mem_of_mem_tail hf2), ?_, h.pp⟩
    · have h2 := congrArg (List.take (r.length * 4)) ht
      rw [List.take_take, Nat.min_eq_left (by simp only [List.length_cons]; omega)] at h2
      rw [h2, rowV, List.take_append_of_le_length (by omega), List.take_of_length_le (by omega)]
    · have := h.few
      simp only [List.length_cons, remV] at this
      omega
theorem infoVisit11 : (Try.prog.info? 50).map (fun i => (i.zero, i.size, i.bytes)) = some (some (.agg #[.pointer none, .int .i64 0, .int .i64 0, .int .i64 0]), 4, 32) := by kernel_rfl
/-- One is put. -/
theorem wpList_push11 {W W1 : World} {P : Nat → Prop} {base : Nat} {v : Value} {st : List Fv} {ops : Array Oper} {rest : List Oper} {op : Oper} {a : Act} {Q : Exit → Act → World → Prop} (hgd : op.guard = none) (s' x' : Operand)
    (ho : op.op = .call { callee := .builtin .append, args := #[s', x'], argTypes := #[51, 51] }) (g o : Nat) (hW : W1 = W.alloc (.cells #[.pointer (some ⟨g, o, none⟩), .int .i64 0, .int .i64 0, .int .i64 1] 50)) (h : Tk W P base v st) (hbase : base ≤ W.heap.size) (hs : a.eval s' = v) (q : Nat) (hx : a.eval x' = .slice (some ⟨q, 0, none⟩) 1 1) (hq : q = W.heap.size)
    (x : Nd) (hn : NIn W P g o x) (hsm : OkP x) (htl : ∀ f ∈ st, f.sz + 5000 ≤ 1 + 5000 * f.i) (hfew : st.length + 1 + (cntL (kds' x) + remV st) ≤ 6000)
    (hk : ∀ v' w', Tk w' P base v' (⟨x, 0, 0, 1, g, o⟩ :: st) → W1.grownBy w' v.ownBlock → (v'.ownBlock = v.ownBlock ∨ ∀ k, v'.ownBlock = some k → W1.heap.size ≤ k) → wpList Try.prog ops Q rest (a.put op.dst v') w') : wpList Try.prog ops Q (op :: rest) a W1 := by
  subst hq
  obtain ⟨i0, hi, hz0, hz1, hz2⟩ := info_parts infoVisit11
  have hap := h.apart
  have hb1 : Below W.heap.size W W1 := by rw [hW]; exact below1 _ _
  have h1 := h.below hb1
  have hnb : W1.heap[W.heap.size]? = some (.cells #[.pointer (some ⟨g, o, none⟩), .int .i64 0, .int .i64 0, .int .i64 1] 50 (0, 0)) := by
    rw [hW]; show (W.heap.push _)[W.heap.size]? = _; rw [Array.getElem?_push, if_pos rfl]
  have hnews : ∀ (j : Nat) (u : Value), (celV ⟨x, 0, 0, 1, g, o⟩)[j]? = some u → W1.cell? ((⟨W.heap.size, 0, none⟩ : Addr).add j) = some u := by
    intro j u hj
    rw [show (⟨W.heap.size, 0, none⟩ : Addr).add j = ⟨W.heap.size, j, none⟩ by (simp [Addr.add]; try omega), cell_of_row W1 _ _ _ _ _ hnb]
    have : (#[.pointer (some ⟨g, o, none⟩), .int .i64 0, .int .i64 0, .int .i64 1] : Array Value) = (celV ⟨x, 0, 0, 1, g, o⟩).toArray := rfl
    rw [this]
    simpa using hj
  obtain ⟨v', w', hrun, hown, hgr, hwh⟩ := run_append_where (P := Try.prog) W1 base 51 op.type 50 i0 _ 4 32 Try.underlying51 hi hz0 hz1 hz2 rfl (by decide) v st.length (rowV st) h1.row ⟨W.heap.size, 0, none⟩ 1 1 (celV ⟨x, 0, 0, 1, g, o⟩) rfl hnews (by intro u hu; simp only [celV, List.mem_cons, List.not_mem_nil, or_false] at hu; rcases hu with rfl | rfl | rfl | rfl <;> rfl) (by unfold maxLen; omega) (by omega) (by have := hb1.size; omega)
  have hkp : Keeps P W w' := ⟨Nat.le_trans hb1.size hgr.size, fun k hk hl => (hgr.block k (Nat.lt_of_lt_of_le hl hb1.size) (fun e => hap k hk e.symm)).trans (hb1.block k hl)⟩
  have hT : Tk w' P base v' (⟨x, 0, 0, 1, g, o⟩ :: st) := by
    refine ⟨hown, ?_, ?_, htl, ?_, h.pp⟩
    · intro f hf
      rcases List.mem_cons.1 hf with e | e
      · subst e; exact hn.keep hkp
      · exact (h.ok f e).keep hkp
    · intro f hf
      rcases List.mem_cons.1 hf with e | e
      · subst e; exact ⟨hsm, Nat.zero_le _, Nat.zero_le _, by show 1 ≤ 1 + 5000 * 0; omega⟩
      · exact h.sm f e
    · simp only [List.length_cons, remV, List.drop_zero]
      exact hfew
  refine wpList_plain hgd fun K hK => ?_
  unfold Oper.wp
  simp [execOp, ho, resolve, invoke, builtin, hs, hx, hrun, Result.andThen]
  exact hK _ _ (hk v' w' hT hgr hwh)
end Go.Proofs.Ytkngnkonddpbeaa
