/-
  THE PROGRAM's layouts: does a group fit; the sums behind each part.
-/
import Derived.Test.YtbjgoigdhijbgaaDoorRendMay
set_option linter.all false
/- THE PROGRAM's layouts: does a group fit? -/
namespace Go.Proofs.YtbjgoigdhijbgaaDoor
open Go.RowKit Go.PlainAid

/-- A row of sums in memory. -/
def SmAt (w : World) (lb m : Nat) (F : Nat → Sm) : Prop := lb < w.heap.size ∧ ∀ i, i < m → w.cell? ⟨lb, i * 4, none⟩ = some (.int .i64 ((F i).nx : Int)) ∧ w.cell? ⟨lb, i * 4 + 1, none⟩ = some (.int .i64 ((F i).wd : Int)) ∧ w.cell? ⟨lb, i * 4 + 2, none⟩ = some (.int .i64 ((F i).fs : Int)) ∧ w.cell? ⟨lb, i * 4 + 3, none⟩ = some (.int .i64 ((F i).fc : Int))
theorem SmAt.down {w w' : World} {lb m : Nat} {F : Nat → Sm} (h : SmAt w lb m F) (hb : Below w.heap.size w w') : SmAt w' lb m F :=
  ⟨Nat.lt_of_lt_of_le h.1 hb.size, fun i hi => ⟨(hb.cell (p := ⟨lb, _, none⟩) h.1).trans (h.2 i hi).1, (hb.cell (p := ⟨lb, _, none⟩) h.1).trans (h.2 i hi).2.1, (hb.cell (p := ⟨lb, _, none⟩) h.1).trans (h.2 i hi).2.2.1, (hb.cell (p := ⟨lb, _, none⟩) h.1).trans (h.2 i hi).2.2.2⟩⟩
set_option maxRecDepth 100000 in
set_option maxHeartbeats 4000000 in
theorem fits_any (F : Nat → Sm) (lb m cap k : Nat) (cols : Int) (w : World) (h : SmAt w lb m F) (hk : k < m) (hm : m ≤ 1000000) (hnx : (F k).nx < m) (hB : ∀ i, (F i).wd ≤ 1000000000000 ∧ (F i).fs ≤ 1000000000000 ∧ (F i).fc ≤ 1000000) :
    Calls Tryd.prog 41 #[.slice (some ⟨lb, 0, none⟩) m cap, .int .i64 (k : Int), .int .i64 cols] w fun e W' => e = .returned (.bool (((F k).fc == (F (F k).nx).fc) && decide (((F k).wd : Int) - ((F (F k).nx).wd : Int) + ((F (F k).nx).fs : Int) ≤ cols))) ∧ Below w.heap.size w W' := by
  obtain ⟨p, hp⟩ : ∃ p, p = (F k).nx := ⟨_, rfl⟩
  rw [← hp] at hnx ⊢
  obtain ⟨a0, a1, a2, a3⟩ := h.2 k hk
  obtain ⟨b0, b1, b2, b3⟩ := h.2 p hnx
  rw [← hp] at a0
  obtain ⟨e1, e2, e3⟩ := hB k
  obtain ⟨f1, f2, f3⟩ := hB p
  have hlb := h.1
  obtain ⟨P, hP⟩ : ∃ s, s = F k := ⟨_, rfl⟩
  obtain ⟨Q, hQ⟩ : ∃ s, s = F p := ⟨_, rfl⟩
  rw [← hP] at a1 a2 a3 e1 e2 e3 ⊢
  rw [← hQ] at b0 b1 b2 b3 f1 f2 f3 ⊢
  obtain ⟨kn, kw, kf, kc⟩ := P
  obtain ⟨pn, pw, pf, pc⟩ := Q
  simp only at a0 a1 a2 a3 b0 b1 b2 b3 e1 e2 e3 f1 f2 f3 ⊢
  clear h hB hp hP hQ
  have hw1 : IntKind.i64.wrap ((kw : Int) - (pw : Int)) = (kw : Int) - (pw : Int) := by rw [IntKind.wrap_i64]; omega
  have hw2 : IntKind.i64.wrap ((kw : Int) - (pw : Int) + (pf : Int)) = (kw : Int) - (pw : Int) + (pf : Int) := by rw [IntKind.wrap_i64]; omega
  obtain ⟨S, hS⟩ : ∃ S : World → Prop, S = fun W => (W.cell? ⟨lb, k * 4, none⟩ = some (.int .i64 (p : Int)) ∧ W.cell? ⟨lb, k * 4 + 1, none⟩ = some (.int .i64 (kw : Int)) ∧ W.cell? ⟨lb, k * 4 + 2, none⟩ = some (.int .i64 (kf : Int)) ∧ W.cell? ⟨lb, k * 4 + 3, none⟩ = some (.int .i64 (kc : Int))) ∧ (W.cell? ⟨lb, p * 4, none⟩ = some (.int .i64 (pn : Int)) ∧ W.cell? ⟨lb, p * 4 + 1, none⟩ = some (.int .i64 (pw : Int)) ∧ W.cell? ⟨lb, p * 4 + 2, none⟩ = some (.int .i64 (pf : Int)) ∧ W.cell? ⟨lb, p * 4 + 3, none⟩ = some (.int .i64 (pc : Int))) := ⟨_, rfl⟩
  have SB : Hid (∀ W, Below w.heap.size w W → S W) := Lib.hid fun W hb => by
    rw [hS]
    exact ⟨⟨(hb.cell (p := ⟨lb, _, none⟩) hlb).trans a0, (hb.cell (p := ⟨lb, _, none⟩) hlb).trans a1, (hb.cell (p := ⟨lb, _, none⟩) hlb).trans a2, (hb.cell (p := ⟨lb, _, none⟩) hlb).trans a3⟩, (hb.cell (p := ⟨lb, _, none⟩) hlb).trans b0, (hb.cell (p := ⟨lb, _, none⟩) hlb).trans b1, (hb.cell (p := ⟨lb, _, none⟩) hlb).trans b2, (hb.cell (p := ⟨lb, _, none⟩) hlb).trans b3⟩
  have hd := SB.out w.drew (Below.drew (Below.refl _ _))
  rw [hS] at hd
  clear SB hS
  by_cases hc : kc = pc
  · subst hc
    have hR : ((kc == kc) && decide ((kw : Int) - (pw : Int) + (pf : Int) ≤ cols)) = decide ((kw : Int) - (pw : Int) + (pf : Int) ≤ cols) := by simp
    rw [hR]
    clear hR
    go_enter Tryd.func41, Tryd.ntmps41
    go_wp2_with fail
    go_region_held3 (fun W => (W.cell? ⟨lb, k * 4, none⟩ = some (.int .i64 (p : Int)) ∧ W.cell? ⟨lb, k * 4 + 1, none⟩ = some (.int .i64 (kw : Int)) ∧ W.cell? ⟨lb, k * 4 + 2, none⟩ = some (.int .i64 (kf : Int)) ∧ W.cell? ⟨lb, k * 4 + 3, none⟩ = some (.int .i64 (kc : Int))) ∧ (W.cell? ⟨lb, p * 4, none⟩ = some (.int .i64 (pn : Int)) ∧ W.cell? ⟨lb, p * 4 + 1, none⟩ = some (.int .i64 (pw : Int)) ∧ W.cell? ⟨lb, p * 4 + 2, none⟩ = some (.int .i64 (pf : Int)) ∧ W.cell? ⟨lb, p * 4 + 3, none⟩ = some (.int .i64 (kc : Int)))) (first | exact hd | go_keep) (first | fail)
    all_goals
      go_wp2_with fail
      go_ret
      exact ⟨rfl, Below.drew (below2 _ _ _)⟩
  · have hR : ((kc == pc) && decide ((kw : Int) - (pw : Int) + (pf : Int) ≤ cols)) = false := by simp [hc]
    rw [hR]
    clear hR
    have hq : ((kc : Int) == (pc : Int)) = false := beq_false_of_ne (by omega)
    go_enter Tryd.func41, Tryd.ntmps41
    go_wp2_with fail
    go_region_held3 (fun W => (W.cell? ⟨lb, k * 4, none⟩ = some (.int .i64 (p : Int)) ∧ W.cell? ⟨lb, k * 4 + 1, none⟩ = some (.int .i64 (kw : Int)) ∧ W.cell? ⟨lb, k * 4 + 2, none⟩ = some (.int .i64 (kf : Int)) ∧ W.cell? ⟨lb, k * 4 + 3, none⟩ = some (.int .i64 (kc : Int))) ∧ (W.cell? ⟨lb, p * 4, none⟩ = some (.int .i64 (pn : Int)) ∧ W.cell? ⟨lb, p * 4 + 1, none⟩ = some (.int .i64 (pw : Int)) ∧ W.cell? ⟨lb, p * 4 + 2, none⟩ = some (.int .i64 (pf : Int)) ∧ W.cell? ⟨lb, p * 4 + 3, none⟩ = some (.int .i64 (pc : Int)))) (first | exact hd | go_keep) (first | fail)
    all_goals
      go_wp2_with fail
      go_ret
      exact ⟨rfl, Below.drew (below2 _ _ _)⟩
end Go.Proofs.YtbjgoigdhijbgaaDoor
/- Layouts: a row of sums in memory, from some place on. -/
namespace Go.Proofs.YtbjgoigdhijbgaaDoor
open Go.RowKit Go.PlainAid

theorem gs_ne {cs : Array Value} {p q : Nat} {v : Value} (h : p ≠ q) : (cs.setIfInBounds p v)[q]? = cs[q]? := Array.getElem?_setIfInBounds_ne h
theorem gs_eq {cs : Array Value} {p : Nat} {v : Value} (h : p < cs.size) : (cs.setIfInBounds p v)[p]? = some v := Array.getElem?_setIfInBounds_self_of_lt h
def smC (cs : Array Value) (i : Nat) (s : Sm) : Prop := cs[i * 4]? = some (.int .i64 (s.nx : Int)) ∧ cs[i * 4 + 1]? = some (.int .i64 (s.wd : Int)) ∧ cs[i * 4 + 2]? = some (.int .i64 (s.fs : Int)) ∧ cs[i * 4 + 3]? = some (.int .i64 (s.fc : Int))
theorem smC.ne {cs : Array Value} {i p : Nat} {s : Sm} {v : Value} (h : smC cs i s) (hp : ∀ j, j < 4 → p ≠ i * 4 + j) : smC (cs.setIfInBounds p v) i s :=
  ⟨(gs_ne (hp 0 (by omega))).trans h.1, (gs_ne (hp 1 (by omega))).trans h.2.1, (gs_ne (hp 2 (by omega))).trans h.2.2.1, (gs_ne (hp 3 (by omega))).trans h.2.2.2⟩
/-- The sums from place k on lie in block lb, a row of n. -/
def SmR (W : World) (lb n k : Nat) (F : Nat → Sm) : Prop := ∃ cs, W.heap[lb]? = some (.cells cs 75 (0, 0)) ∧ cs.size = n * 4 ∧ ∀ i, k ≤ i → i < n → smC cs i (F i)
theorem SmR.lt {W : World} {lb n k : Nat} {F : Nat → Sm} (h : SmR W lb n k F) : lb < W.heap.size ∧ ∀ j, W.frozen? ⟨lb, j, none⟩ = false := by
  obtain ⟨cs, h1, -⟩ := h
  exact ⟨lt_of_block h1, fun j => frz_of h1 j⟩
theorem SmR.cells {W : World} {lb n k i : Nat} {F : Nat → Sm} (h : SmR W lb n k F) (hk : k ≤ i) (hi : i < n) :
    W.cell? ⟨lb, i * 4, none⟩ = some (.int .i64 ((F i).nx : Int)) ∧ W.cell? ⟨lb, i * 4 + 1, none⟩ = some (.int .i64 ((F i).wd : Int)) ∧ W.cell? ⟨lb, i * 4 + 2, none⟩ = some (.int .i64 ((F i).fs : Int)) ∧ W.cell? ⟨lb, i * 4 + 3, none⟩ = some (.int .i64 ((F i).fc : Int)) := by
  obtain ⟨cs, h1, -, h3⟩ := h
  obtain ⟨a, b, c, d⟩ := h3 i hk hi
  exact ⟨(cell_of_row W lb _ _ _ _ h1).trans a, (cell_of_row W lb _ _ _ _ h1).trans b, (cell_of_row W lb _ _ _ _ h1).trans c, (cell_of_row W lb _ _ _ _ h1).trans d⟩
theorem SmR.some {W : World} {lb n k i : Nat} {F : Nat → Sm} (h : SmR W lb n k F) (hi : i < n * 4) : ∃ v, W.cell? ⟨lb, i, none⟩ = some v := by
  obtain ⟨cs, h1, h2, -⟩ := h
  exact ⟨cs[i]'(by omega), (cell_of_row W lb _ _ _ _ h1).trans (Array.getElem?_eq_getElem (by omega))⟩
theorem SmR.keep {W W' : World} {lb n k : Nat} {F : Nat → Sm} (h : SmR W lb n k F) (hb : W'.heap[lb]? = W.heap[lb]?) : SmR W' lb n k F := by
  obtain ⟨cs, h1, h2⟩ := h
  exact ⟨cs, hb.trans h1, h2⟩
theorem SmR.cong {W : World} {lb n k : Nat} {F G : Nat → Sm} (h : SmR W lb n k F) (he : ∀ i, k ≤ i → i < n → F i = G i) : SmR W lb n k G := by
  obtain ⟨cs, h1, h2, h3⟩ := h
  exact ⟨cs, h1, h2, fun i hk hi => by rw [← he i hk hi]; exact h3 i hk hi⟩
def updS (F : Nat → Sm) (k : Nat) (s : Sm) : Nat → Sm := fun i => if i = k then s else F i
theorem updS_eq (F : Nat → Sm) (k : Nat) (s : Sm) : updS F k s k = s := if_pos rfl
theorem updS_ne (F : Nat → Sm) {k i : Nat} (s : Sm) (h : i ≠ k) : updS F k s i = F i := if_neg h
theorem SmR.put {W : World} {lb n k : Nat} {F : Nat → Sm} (h : SmR W lb n (k + 1) F) (hk : k < n) (s : Sm) :
    SmR ((((W.setCell ⟨lb, k * 4, none⟩ (.int .i64 (s.nx : Int))).setCell ⟨lb, k * 4 + 1, none⟩ (.int .i64 (s.wd : Int))).setCell ⟨lb, k * 4 + 2, none⟩ (.int .i64 (s.fs : Int))).setCell ⟨lb, k * 4 + 3, none⟩ (.int .i64 (s.fc : Int))) lb n k (updS F k s) := by
  obtain ⟨cs, h1, h2, h3⟩ := h
  have e1 := heap_setCell_same W lb (k * 4) _ _ (.int .i64 (s.nx : Int)) h1
  have e2 := heap_setCell_same _ lb (k * 4 + 1) _ _ (.int .i64 (s.wd : Int)) e1
  have e3 := heap_setCell_same _ lb (k * 4 + 2) _ _ (.int .i64 (s.fs : Int)) e2
  have e4 := heap_setCell_same _ lb (k * 4 + 3) _ _ (.int .i64 (s.fc : Int)) e3
  refine ⟨_, e4, by simp [h2], fun i hki hi => ?_⟩
  by_cases hik : i = k
  · subst hik
    rw [updS_eq]
    refine ⟨?_, ?_, ?_, ?_⟩
    · rw [gs_ne (by omega), gs_ne (by omega), gs_ne (by omega), gs_eq (by omega)]
    · rw [gs_ne (by omega), gs_ne (by omega), gs_eq (by simp; omega)]
    · rw [gs_ne (by omega), gs_eq (by simp; omega)]
    · rw [gs_eq (by simp; omega)]
  · rw [updS_ne F s hik]
    exact (((( h3 i (by omega) hi).ne fun j hj => by omega).ne fun j hj => by omega).ne fun j hj => by omega).ne fun j hj => by omega
theorem SmR.nxt {W : World} {lb n k : Nat} {F : Nat → Sm} {s : Sm} (h : SmR W lb n k (updS F k s)) (hk : k < n) (v : Nat) :
    SmR (W.setCell ⟨lb, k * 4, none⟩ (.int .i64 (v : Int))) lb n k (updS F k { s with nx := v }) := by
  obtain ⟨cs, h1, h2, h3⟩ := h
  have e1 := heap_setCell_same W lb (k * 4) _ _ (.int .i64 (v : Int)) h1
  refine ⟨_, e1, by simp [h2], fun i hki hi => ?_⟩
  by_cases hik : i = k
  · subst hik
    have h4 := h3 i (Nat.le_refl _) hi
    rw [updS_eq] at h4 ⊢
    exact ⟨gs_eq (by omega), (gs_ne (by omega)).trans h4.2.1, (gs_ne (by omega)).trans h4.2.2.1, (gs_ne (by omega)).trans h4.2.2.2⟩
  · have h4 := h3 i hki hi
    rw [updS_ne F s hik] at h4
    rw [updS_ne F _ hik]
    exact h4.ne fun j hj => by omega
theorem infoSm : (Tryd.prog.info? 75).map (fun i => (i.zero, i.size, i.bytes)) = some (some (.agg #[.int .i64 0, .int .i64 0, .int .i64 0, .int .i64 0]), 4, 32) := by kernel_rfl
/-- Made, all of it nothing. -/
theorem smr_made (w : World) (N : Nat) (F : Nat → Sm) (hF : F N = ⟨0, 0, 0, 0⟩) : SmR (w.alloc (.cells (madeCells #[.int .i64 0, .int .i64 0, .int .i64 0, .int .i64 0] ((N + 1) * 4)) 75)) w.heap.size (N + 1) N F := by
  refine ⟨_, new_at9, size_madeCells _ _, fun i h1 h2 => ?_⟩
  obtain rfl : i = N := by omega
  rw [hF]
  have hz : ∀ j, j < 4 → (madeCells #[.int .i64 0, .int .i64 0, .int .i64 0, .int .i64 0] ((i + 1) * 4))[i * 4 + j]? = some (Value.int .i64 0) := fun j hj => by
    unfold madeCells
    rw [Array.getElem?_map, Array.getElem?_range, if_pos (by omega)]
    have hm : (i * 4 + j) % 4 = j := by omega
    match j, hj with
    | 0, _ => simp [hm]
    | 1, _ => simp [hm]
    | 2, _ => simp [hm]
    | 3, _ => simp [hm]
  exact ⟨hz 0 (by omega), hz 1 (by omega), hz 2 (by omega), hz 3 (by omega)⟩
theorem SmR.all {W : World} {lb n : Nat} {F : Nat → Sm} (h : SmR W lb n 0 F) : SmAt W lb n F := ⟨h.lt.1, fun i hi => h.cells (Nat.zero_le _) hi⟩
end Go.Proofs.YtbjgoigdhijbgaaDoor
/- THE PROGRAM's layouts: the sums of each part and of all that comes behind it. -/
namespace Go.Proofs.YtbjgoigdhijbgaaDoor
open Go.RowKit Go.PlainAid

/-- A row of parts whose documents lie where they are told. -/
structure RowP (w : World) (a : Option Addr) (cap : Nat) (R : List Ent) : Prop where
  cells : ∀ (k : Nat) (e : Ent), R[k]? = some e → ∃ g, a = some ⟨g, 0, none⟩ ∧ g < w.heap.size ∧ w.cell? ⟨g, k * 3, none⟩ = some (.pointer (some ⟨e.g, e.o, none⟩)) ∧ w.cell? ⟨g, k * 3 + 1, none⟩ = some (.int .i64 e.r) ∧ w.cell? ⟨g, k * 3 + 2, none⟩ = some (.bool e.f)
  lf : ∀ (k : Nat) (e : Ent), R[k]? = some e → LfC w e.x e.g e.o
  sz : ∀ (k : Nat) (e : Ent), R[k]? = some e → (dtx e.x).size ≤ 1048576
  cap : R.length ≤ cap ∧ cap ≤ maxLen
/-- What a round reads: the sums behind, and the part. -/
abbrev S7 (lb rg k k1 eg eo : Nat) (s0 : Sm) (er : Int) (ef : Bool) (W : World) : Prop := ((W.cell? ⟨lb, k1 * 4, none⟩ = some (.int .i64 (s0.nx : Int)) ∧ W.cell? ⟨lb, k1 * 4 + 1, none⟩ = some (.int .i64 (s0.wd : Int)) ∧ W.cell? ⟨lb, k1 * 4 + 2, none⟩ = some (.int .i64 (s0.fs : Int)) ∧ W.cell? ⟨lb, k1 * 4 + 3, none⟩ = some (.int .i64 (s0.fc : Int))) ∧ (W.cell? ⟨rg, k * 3, none⟩ = some (.pointer (some ⟨eg, eo, none⟩)) ∧ W.cell? ⟨rg, k * 3 + 1, none⟩ = some (.int .i64 er) ∧ W.cell? ⟨rg, k * 3 + 2, none⟩ = some (.bool ef)))
theorem s7_put {lb rg k k1 eg eo : Nat} {s0 : Sm} {er : Int} {ef : Bool} {W : World} (hr : rg ≠ lb) (hk : k1 = k + 1) (h : S7 lb rg k k1 eg eo s0 er ef W) (a b c d : Value) :
    S7 lb rg k k1 eg eo s0 er ef ((((W.setCell ⟨lb, k * 4, none⟩ a).setCell ⟨lb, k * 4 + 1, none⟩ b).setCell ⟨lb, k * 4 + 2, none⟩ c).setCell ⟨lb, k * 4 + 3, none⟩ d) := by
  have hn : ∀ (W : World) (i j : Nat) (v : Value), i ≠ j → (W.setCell ⟨lb, i, none⟩ v).cell? ⟨lb, j, none⟩ = W.cell? ⟨lb, j, none⟩ := fun W i j v h => by
    rw [World.cell?_setCell_other]
    intro e
    simp only [Addr.mk.injEq, true_and, and_true] at e
    exact h e
  have hf : ∀ (W : World) (i j : Nat) (v : Value), (W.setCell ⟨lb, i, none⟩ v).cell? ⟨rg, j, none⟩ = W.cell? ⟨rg, j, none⟩ := fun W i j v => World.cell?_setCell_far W _ _ v (fun e => hr e.symm)
  obtain ⟨⟨h0, h1, h2, h3⟩, h4, h5, h6⟩ := h
  refine ⟨⟨?_, ?_, ?_, ?_⟩, ?_, ?_, ?_⟩
  · rw [hn _ _ _ _ (by omega), hn _ _ _ _ (by omega), hn _ _ _ _ (by omega), hn _ _ _ _ (by omega), h0]
  · rw [hn _ _ _ _ (by omega), hn _ _ _ _ (by omega), hn _ _ _ _ (by omega), hn _ _ _ _ (by omega), h1]
  · rw [hn _ _ _ _ (by omega), hn _ _ _ _ (by omega), hn _ _ _ _ (by omega), hn _ _ _ _ (by omega), h2]
  · rw [hn _ _ _ _ (by omega), hn _ _ _ _ (by omega), hn _ _ _ _ (by omega), hn _ _ _ _ (by omega), h3]
  · rw [hf, hf, hf, hf, h4]
  · rw [hf, hf, hf, hf, h5]
  · rw [hf, hf, hf, hf, h6]
set_option maxRecDepth 100000 in
set_option maxHeartbeats 8000000 in
theorem behind_any (R : List Ent) (L : List (Dc × Int)) (hL : R.map xr = L) (hS : SubO L) (hN : R.length ≤ 90000) (a : Option Addr) (cap : Nat) (w : World) (h : RowP w a cap R) (ht : Tabs w) :
    Calls Tryd.prog 39 #[.slice a R.length cap] w fun e W' => ∃ lb, e = .returned (.slice (some ⟨lb, 0, none⟩) (R.length + 1) (R.length + 1)) ∧ w.heap.size ≤ lb ∧ SmAt W' lb (R.length + 1) (smOf L) ∧ Below w.heap.size w W' := by
  obtain ⟨N, hNe⟩ : ∃ N, N = R.length := ⟨_, rfl⟩
  have hLl : L.length = N := by rw [← hL, List.length_map, hNe]
  have hF0 : smOf L N = ⟨0, 0, 0, 0⟩ := by rw [← hLl]; exact smOf_end L
  have hct : ∀ e ∈ L, ct (wrt e.1) 0 ≤ 1048576 := fun e he => by
    rw [← hL] at he
    obtain ⟨x, hx, rfl⟩ := List.mem_map.1 he
    obtain ⟨i, hi⟩ := List.mem_iff_getElem?.1 hx
    have h1 := ct_le (wrt x.x) (wrt x.x).size 0 (by omega)
    have h2 := wrt_sz (h.sz i x hi)
    show ct (wrt x.x) 0 ≤ _
    omega
  have hle := fun k => smOf_le hct k
  rw [hLl] at hle
  rw [← hNe] at hN ⊢
  have hcap := h.cap
  rw [← hNe] at hcap
  obtain ⟨i0, hi, hz0, hz1, hz2⟩ := info_parts infoSm
  have hmk : ∀ W : World, (Instr.makeSlice 70 (.int .i64 ((N : Int) + 1)) (.int .i64 ((N : Int) + 1))).run Tryd.prog W = .ok (.slice (some ⟨W.heap.size, 0, none⟩) (N + 1) (N + 1)) (W.alloc (.cells (madeCells #[.int .i64 0, .int .i64 0, .int .i64 0, .int .i64 0] ((N + 1) * 4)) 75)) := fun W => by
    have hb : (i0.bytes : Int) * ((N : Int) + 1) ≤ 281474976710656 := by rw [hz2]; omega
    have hr := run_make (P := Tryd.prog) W 70 75 i0 _ Tryd.underlying70 hi hz0 .i64 .i64 ((N : Int) + 1) ((N : Int) + 1) (by omega) (Int.le_refl _) hb (by omega)
    have en : ((N : Int) + 1).toNat = N + 1 := by omega
    rw [en, hz1] at hr
    exact hr
  have HMK := Lib.hid hmk
  have HSM := Lib.hid (smr_made w N (smOf L) hF0)
  have HLE := Lib.hid hle
  have HNE := Lib.hid hNe
  have HLL := Lib.hid hLl
  have HRL := Lib.hid hL
  have HH := Lib.hid h
  clear hz0 hz1 hz2 hi hF0 hct hle hNe hLl hL h
  have hm := hmk w
  clear hmk
  go_enter Tryd.func39, Tryd.ntmps39
  go_wp2_with fail
  obtain ⟨lb, hlb⟩ : ∃ lb, lb = w.heap.size := ⟨_, rfl⟩
  obtain ⟨V, hV⟩ : ∃ V, V = w.alloc (.cells (madeCells #[.int .i64 0, .int .i64 0, .int .i64 0, .int .i64 0] ((N + 1) * 4)) 75) := ⟨_, rfl⟩
  have hbV : Below w.heap.size w V := by rw [hV]; exact below1 _ _
  have HBV := Lib.hid hbV
  rw [← hlb] at HSM ⊢
  rw [← hV] at HSM ⊢
  have HLB := Lib.hid hlb
  clear hlb hV hbV hm HMK
  go_loopg [12] N (fun gn c wi => ∃ (j : Nat), gn = N - j ∧ j ≤ N ∧ c = .int .i64 (j : Int) ∧ Hid (SmR wi lb (N + 1) (N - j) (smOf L)) ∧ Hid (Below w.heap.size w wi))
  case atStart => exact ⟨0, rfl, Nat.zero_le _, rfl, HSM, HBV⟩
  case round =>
    obtain ⟨j, hgn, hj, rfl, HSi, HBi⟩ := hrel
    clear HSM HBV
    by_cases hlt : j < N
    · obtain ⟨k, hk⟩ : ∃ k, k = N - 1 - j := ⟨_, rfl⟩
      have hkN : k < N := by omega
      have hkf : N - j = k + 1 := by omega
      have hkf2 : N - (j + 1) = k := by omega
      obtain ⟨k1, hk1⟩ : ∃ k1, k1 = k + 1 := ⟨_, rfl⟩
      have kb0 : (0 : Int) ≤ (k1 : Int) := by omega
      have kb1 : (k1 : Int) < (N : Int) + 1 := by omega
      have kb2 : (0 : Int) ≤ (k : Int) := by omega
      have kb3 : (k : Int) < (N : Int) + 1 := by omega
      have kb4 : (k : Int) < (N : Int) := by omega
      have hAB : (N : Int) - 1 - (j : Int) = (k : Int) := by omega
      have hwA : IntKind.i64.wrap ((N : Int) - 1) = (N : Int) - 1 := by rw [IntKind.wrap_i64]; omega
      have hwB : IntKind.i64.wrap ((N : Int) - 1 - (j : Int)) = (k : Int) := by rw [IntKind.wrap_i64]; omega
      have hwC : wrap64 ((N : Int) - 1) = (N : Int) - 1 := by unfold wrap64; omega
      have hwD : wrap64 ((N : Int) - 1 - (j : Int)) = (k : Int) := by unfold wrap64; omega
      have jn : (j : Int) < (N : Int) := by omega
      rw [hkf] at HSi
      obtain ⟨en, hen⟩ : ∃ en, R[k]? = some en := ⟨_, List.getElem?_eq_getElem (by rw [← HNE.out]; exact hkN)⟩
      obtain ⟨rg, hra, hrl, r0, r1, r2⟩ := HH.out.cells k en hen
      have hlf := HH.out.lf k en hen
      have hsz := HH.out.sz k en hen
      subst hra
      have hLk : L[k]? = some (en.x, en.r) := by rw [← HRL.out, List.getElem?_map, hen]; rfl
      obtain ⟨x, eg, eo, er, ef⟩ := en
      simp only at r0 r1 r2 hlf hsz hLk
      have hm1 := smOf_at hLk
      obtain ⟨q0, q1, q2, q3⟩ := HSi.out.cells (i := k + 1) (Nat.le_refl _) (by omega)
      obtain ⟨s0, hs0⟩ : ∃ s, s = smOf L (k + 1) := ⟨_, rfl⟩
      have hle := HLE.out (k + 1)
      have hwE : IntKind.i64.wrap ((k : Int) + 1) = (k1 : Int) := by rw [IntKind.wrap_i64]; omega
      have hwF : wrap64 ((k : Int) + 1) = (k1 : Int) := by unfold wrap64; omega
      have K1 := Lib.hid hk1
      rw [← hs0] at q0 q1 q2 q3 hm1 hle
      rw [← hk1] at q0 q1 q2 q3
      have HW := Lib.hid (fun V hl hT => with_any s0 x eg eo er ef V hl hT hsz (by omega) (by omega) (by omega))
      obtain ⟨s1, hs1⟩ : ∃ s, s = s0.add x := ⟨_, rfl⟩
      rw [← hs1] at HW hm1
      have p0 := (HBi.out.cell (p := ⟨rg, k * 3, none⟩) hrl).trans r0
      have p1 := (HBi.out.cell (p := ⟨rg, k * 3 + 1, none⟩) hrl).trans r1
      have p2 := (HBi.out.cell (p := ⟨rg, k * 3 + 2, none⟩) hrl).trans r2
      have HEN := Lib.hid hen
      have HLK := Lib.hid hLk
      have HM1 := Lib.hid hm1
      have HKF := Lib.hid hkf2
      have HLF := Lib.hid hlf
      have HR := Lib.hid (⟨r0, r1, r2⟩ : _ ∧ _ ∧ _)
      unfold smV cmV at HW
      clear hk1 hAB hen hLk hm1 hs0 hs1 hkf hkf2 hk hlf r0 r1 r2 hle
      obtain ⟨lN, lfz⟩ := HSi.out.lt
      obtain ⟨o0, oo0⟩ := HSi.out.some (i := k * 4) (by omega)
      obtain ⟨o1, oo1⟩ := HSi.out.some (i := k * 4 + 1) (by omega)
      obtain ⟨o2, oo2⟩ := HSi.out.some (i := k * 4 + 2) (by omega)
      obtain ⟨o3, oo3⟩ := HSi.out.some (i := k * 4 + 3) (by omega)
      have lN' : lb < wr.drew.heap.size := lN
      have CS : Hid (∀ W, Below wr.heap.size wr W → S7 lb rg k k1 eg eo s0 er ef W) := Lib.hid fun W hb => by
        have hrr : rg < wr.heap.size := Nat.lt_of_lt_of_le hrl HBi.out.size
        exact ⟨⟨(hb.cell (p := ⟨lb, _, none⟩) lN).trans q0, (hb.cell (p := ⟨lb, _, none⟩) lN).trans q1, (hb.cell (p := ⟨lb, _, none⟩) lN).trans q2, (hb.cell (p := ⟨lb, _, none⟩) lN).trans q3⟩, (hb.cell (p := ⟨rg, _, none⟩) hrr).trans p0, (hb.cell (p := ⟨rg, _, none⟩) hrr).trans p1, (hb.cell (p := ⟨rg, _, none⟩) hrr).trans p2⟩
      have hrb : rg ≠ lb := fun e => Nat.lt_irrefl _ (Nat.lt_of_lt_of_le hrl (by rw [e, HLB.out]; exact Nat.le_refl _))
      have hbd : Below wr.heap.size wr wr.drew := Below.drew (Below.refl _ _)
      have hd := CS.out _ hbd
      have CO : Hid (∀ W, Below wr.heap.size wr W → (∀ j, W.frozen? ⟨lb, j, none⟩ = false) ∧ W.cell? ⟨lb, k * 4, none⟩ = some o0 ∧ W.cell? ⟨lb, k * 4 + 1, none⟩ = some o1 ∧ W.cell? ⟨lb, k * 4 + 2, none⟩ = some o2 ∧ W.cell? ⟨lb, k * 4 + 3, none⟩ = some o3) := Lib.hid fun W hb =>
        ⟨fun j => (HSi.out.keep (hb.block _ lN)).lt.2 j, (hb.cell (p := ⟨lb, _, none⟩) lN).trans oo0, (hb.cell (p := ⟨lb, _, none⟩) lN).trans oo1, (hb.cell (p := ⟨lb, _, none⟩) lN).trans oo2, (hb.cell (p := ⟨lb, _, none⟩) lN).trans oo3⟩
      have hlf6 := lf_box HLF.out (HBi.out.trans (hbd.mono HBi.out.size))
      have ht6 := ht.below (HBi.out.trans (hbd.mono HBi.out.size))
      clear q0 q1 q2 q3 p0 p1 p2 oo0 oo1 oo2 oo3
      go_upto_region 6 with fail
      go_region_held3 (fun W => ((W.cell? ⟨lb, k1 * 4, none⟩ = some (.int .i64 (s0.nx : Int)) ∧ W.cell? ⟨lb, k1 * 4 + 1, none⟩ = some (.int .i64 (s0.wd : Int)) ∧ W.cell? ⟨lb, k1 * 4 + 2, none⟩ = some (.int .i64 (s0.fs : Int)) ∧ W.cell? ⟨lb, k1 * 4 + 3, none⟩ = some (.int .i64 (s0.fc : Int))) ∧ (W.cell? ⟨rg, k * 3, none⟩ = some (.pointer (some ⟨eg, eo, none⟩)) ∧ W.cell? ⟨rg, k * 3 + 1, none⟩ = some (.int .i64 er) ∧ W.cell? ⟨rg, k * 3 + 2, none⟩ = some (.bool ef)))) (first | exact hd | exact CS.out _ ht9 | exact s7_put hrb K1.out (CS.out _ ht9) _ _ _ _) (first
        | (go_at_call 51; refine (HW.out _ hlf6 ht6).mono ?_; rintro e w9 ⟨rfl, hb9⟩; have ht9 := hbd.trans (hb9.mono hbd.size); obtain ⟨fz, z0, z1, z2, z3⟩ := CO.out _ ht9))
      have hkN' : k < N + 1 := Nat.lt_succ_of_lt hkN
      have HS9 : SmR ((((w9.setCell ⟨lb, k * 4, none⟩ (.int .i64 (s1.nx : Int))).setCell ⟨lb, k * 4 + 1, none⟩ (.int .i64 (s1.wd : Int))).setCell ⟨lb, k * 4 + 2, none⟩ (.int .i64 (s1.fs : Int))).setCell ⟨lb, k * 4 + 3, none⟩ (.int .i64 (s1.fc : Int))) lb (N + 1) k (updS (smOf L) k s1) := (HSi.out.keep (ht9.block _ lN)).put hkN' s1
      obtain ⟨V9, hV9⟩ : ∃ V9, V9 = ((((w9.setCell ⟨lb, k * 4, none⟩ (.int .i64 (s1.nx : Int))).setCell ⟨lb, k * 4 + 1, none⟩ (.int .i64 (s1.wd : Int))).setCell ⟨lb, k * 4 + 2, none⟩ (.int .i64 (s1.fs : Int))).setCell ⟨lb, k * 4 + 3, none⟩ (.int .i64 (s1.fc : Int))) := ⟨_, rfl⟩
      have hlbw : w.heap.size ≤ lb := by rw [HLB.out]; exact Nat.le_refl _
      have HB9 : Hid (Below w.heap.size w V9) := Lib.hid (by
        rw [hV9]
        exact ((((HBi.out.trans (ht9.mono HBi.out.size)).setCell (p := ⟨lb, k * 4, none⟩) hlbw _).setCell (p := ⟨lb, k * 4 + 1, none⟩) hlbw _).setCell (p := ⟨lb, k * 4 + 2, none⟩) hlbw _).setCell (p := ⟨lb, k * 4 + 3, none⟩) hlbw _)
      rw [← hV9] at HS9 ⊢
      have HS9 := Lib.hid HS9
      have HLW := Lib.hid hlbw
      clear hV9 ht9 hb9 fz z0 z1 z2 z3 hd hbd hlf6 ht6 lN' lN lfz CS CO HW hlbw
      obtain ⟨c0, c1, c2, c3⟩ := HS9.out.cells (i := k) (Nat.le_refl _) hkN'
      have cfz := HS9.out.lt.2
      go_upto_region 8 with fail
      have HS10 := Lib.hid (HS9.out.nxt hkN' k1)
      obtain ⟨U, hU⟩ : ∃ U, U = V9.setCell ⟨lb, k * 4, none⟩ (.int .i64 (k1 : Int)) := ⟨_, rfl⟩
      have HBU : Hid (Below w.heap.size w U) := Lib.hid (by rw [hU]; exact HB9.out.setCell (p := ⟨lb, k * 4, none⟩) HLW.out _)
      rw [← hU] at HS10 ⊢
      clear hU HS9 HB9 c0 c1 c2 c3 cfz hwA hwB hwC hwD hwE hwF
      obtain ⟨al, cl, y0, y1, y2, y3⟩ := (lf_box HLF.out HBU.out).2
      have p0 := (HBU.out.cell (p := ⟨rg, k * 3, none⟩) hrl).trans HR.out.1
      obtain ⟨M, hM⟩ : ∃ M, M = (dks x).length := ⟨_, rfl⟩
      rw [← hM] at y3
      have HMM := Lib.hid hM
      have hMb : M ≤ 90000 := by
        have h1 := sub_len hS HLK.out
        have h2 := len_dcntL (dks x)
        have h3 : dcnt x = 1 + dcntL (dks x) := by cases x; rfl
        rw [HLL.out] at h1
        omega
      clear hM y0 y1 y2
      go_wp2_with fail
      clear y3 p0
      go_loopg [48] M (fun gn c wi => ∃ (i : Nat), gn = M - i ∧ i ≤ M ∧ c = .int .i64 (i : Int) ∧ Hid (SmR wi lb (N + 1) k (updS (smOf L) k { s1 with nx := k1 + dcntL ((dks x).take i) })) ∧ Hid (Below w.heap.size w wi))
      case atStart => exact ⟨0, rfl, Nat.zero_le _, rfl, by simpa [dcntL] using HS10, HBU⟩
      case round =>
        obtain ⟨i, hgi, hi, rfl, HSq, HBq⟩ := hrel
        clear HS10 HBU
        by_cases hil : i < M
        · obtain ⟨y, hy⟩ : ∃ y, (dks x)[i]? = some y := ⟨_, List.getElem?_eq_getElem (by rw [← HMM.out]; exact hil)⟩
          have hka := kid_at hS HLK.out hy
          have htc := take_cnt (dks x) i y hy
          obtain ⟨v, hv⟩ : ∃ v, v = k1 + dcntL ((dks x).take i) := ⟨_, rfl⟩
          obtain ⟨v2, hv2⟩ : ∃ v2, v2 = v + dcnt y := ⟨_, rfl⟩
          rw [← K1.out, ← hv] at hka
          have hvN : v < N := by rw [← HLL.out]; exact (List.getElem?_eq_some_iff.1 hka).1
          have hvk : k < v := by have := K1.out; omega
          have hnx : (smOf L v).nx = v2 := by rw [smOf_at hka, hv2]
          have hend : v2 = k1 + dcntL ((dks x).take (i + 1)) := by rw [htc, hv2, hv]; omega
          have il : (i : Int) < (M : Int) := by omega
          have vb0 : (0 : Int) ≤ (v : Int) := by omega
          have vb1 : (v : Int) < (N : Int) + 1 := by omega
          rw [← hv] at HSq
          have HE := Lib.hid hend
          obtain ⟨c0, -, -, -⟩ := HSq.out.cells (i := k) (Nat.le_refl _) hkN'
          obtain ⟨d0, -, -, -⟩ := HSq.out.cells (i := v) (by omega) (by omega)
          rw [updS_eq] at c0
          rw [updS_ne _ _ (by omega), hnx] at d0
          simp only at c0
          have cfz := HSq.out.lt.2
          clear hka hy htc hv hv2 hvN hnx hend hvk
          go_upto_region 11 with fail
          have HSr : SmR (wr.setCell ⟨lb, k * 4, none⟩ (.int .i64 (v2 : Int))) lb (N + 1) k (updS (smOf L) k { s1 with nx := k1 + dcntL ((dks x).take (i + 1)) }) := by
            have h := HSq.out.nxt hkN' v2
            simp only at h
            rw [← HE.out]
            exact h
          have HBr : Hid (Below w.heap.size w (wr.setCell ⟨lb, k * 4, none⟩ (.int .i64 (v2 : Int)))) := Lib.hid (HBq.out.setCell (p := ⟨lb, k * 4, none⟩) HLW.out _)
          have HSr := Lib.hid HSr
          clear HSq HBq c0 d0 cfz HE
          go_wp2_with fail
          go_roundg (M - (i + 1))
          case measure => omega
          case rel => exact ⟨i + 1, rfl, hil, by go_num, HSr, HBr⟩
        · obtain rfl : i = M := by omega
          have il : ¬ (i : Int) < (i : Int) := by omega
          have HSk : Hid (SmR wr lb (N + 1) k (smOf L)) := Lib.hid (HSq.out.cong fun i2 _ _ => by
            by_cases h2 : i2 = k
            · subst h2
              have h3 : dcnt x = 1 + dcntL (dks x) := by cases x; rfl
              have h4 : k1 + dcntL ((dks x).take i) = i2 + dcnt x := by
                have := K1.out
                rw [List.take_of_length_le (by rw [← HMM.out]; exact Nat.le_refl _), h3]
                omega
              rw [updS_eq, HM1.out, h4]
            · rw [updS_ne _ _ h2])
          clear HSq
          go_wp2_with fail
          go_roundg (N - (j + 1))
          case measure => omega
          case rel => exact ⟨j + 1, rfl, hlt, by go_num, by rw [HKF.out]; exact HSk, HBq⟩
    · obtain rfl : j = N := by omega
      have jn : ¬ (j : Int) < (j : Int) := by omega
      go_wp2_with fail
      go_ret
      have h0 := HSi.out
      rw [Nat.sub_self] at h0
      exact ⟨lb, rfl, by rw [HLB.out]; exact Nat.le_refl _, h0.all, HBi.out⟩
end Go.Proofs.YtbjgoigdhijbgaaDoor
