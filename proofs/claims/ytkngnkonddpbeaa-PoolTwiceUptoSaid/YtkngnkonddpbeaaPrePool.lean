/-
  The landed pool: its five calls keep what the statements of layer 11 ask of a pool.
-/
import Derived.Test.YtkngnkonddpbeaaPoolTree
import Derived.Deep.RegionWith
namespace Go.Proofs.Ytkngnkonddpbeaa
open Go.RowKit Go.PlainAid

/-- A pool in block gp that holds the trees xs; what it is made of lies in F. -/
def PAl (W : World) (gp : Nat) (xs : List Nd) (F : Nat → Prop) : Prop :=
  (xs = [] ∧ W.heap[gp]? = some (.cells #[.pointer none] 40 (0, 0)) ∧ F = fun k => k = gp) ∨
  ∃ (g bm bl : Nat) (zv : Value) (S : Sto), W.heap[gp]? = some (.cells #[.pointer (some ⟨g, 0, none⟩)] 40 (0, 0)) ∧ StM W g bm bl zv S ∧ Inv S xs [] ∧ ¬ Fs g bm bl zv gp ∧ F = fun k => k = gp ∨ Fs g bm bl zv k
def PAx (W : World) (_ : Nat → Prop) (F : Nat → Prop) (p : Value) (xs : List Nd) : Prop := ∃ gp, p = .pointer (some ⟨gp, 0, none⟩) ∧ PAl W gp xs F
theorem PAl.live {W : World} {gp : Nat} {xs : List Nd} {F : Nat → Prop} (h : PAl W gp xs F) : ∀ k, F k → k < W.heap.size := by
  rcases h with ⟨rfl, h1, rfl⟩ | ⟨g, bm, bl, zv, S, h1, h2, h3, h4, rfl⟩
  · rintro k rfl; exact lt_of_block h1
  · intro k hk
    rcases hk with rfl | hk
    · exact lt_of_block h1
    · exact h2.live k hk
theorem PAl.keep {W W' : World} {gp : Nat} {xs : List Nd} {F : Nat → Prop} (h : PAl W gp xs F) (hk : ∀ k, F k → W'.heap[k]? = W.heap[k]?) : PAl W' gp xs F := by
  rcases h with ⟨rfl, h1, rfl⟩ | ⟨g, bm, bl, zv, S, h1, h2, h3, h4, rfl⟩
  · exact .inl ⟨rfl, (hk gp rfl).trans h1, rfl⟩
  · exact .inr ⟨g, bm, bl, zv, S, (hk gp (.inl rfl)).trans h1, h2.keep (fun k hf => hk k (.inr hf)), h3, h4, rfl⟩
theorem PAl.below {W W' : World} {gp : Nat} {xs : List Nd} {F : Nat → Prop} (h : PAl W gp xs F) (hb : Below W.heap.size W W') : PAl W' gp xs F := h.keep (fun k hk => hb.block k (h.live k hk))
/-- A tree is put into what is kept. -/
theorem put_core {g bm bl : Nat} {zv : Value} {S : Sto} {G : Nat → Prop} {xs : List Nd} {n : Nd} {c : List Value} {w : World} (hs : StM w g bm bl zv S) (hi : Inv S xs []) (hp : Pk xs) (hx : ∀ y ∈ xs, OkP y) (hn : NdIn w G c n) (hG : ∀ k, G k → ¬ Fs g bm bl zv k ∧ k < w.heap.size) (ho : OkP n) (hl : xs.length + cnt n ≤ 50000) :
    Calls Try.prog 16 #[.pointer (some ⟨g, 0, none⟩), .agg c.toArray] w fun e w' => e = .returned (.int .i64 (pidx n xs : Int)) ∧ ∃ zv' S', StM w' g bm bl zv' S' ∧ Inv S' (pad n xs) [] ∧ Mv (Fs g bm bl zv) w (Fs g bm bl zv') w' := by
  obtain ⟨h1, h2⟩ := pt_ok (cnt n) n (Nat.le_refl _) S xs [] hi hp
  have hok := okP_pad hx n ho
  have hpl := pad_len n xs
  have hf := h2.few hok
  have hlen : S.zs.length = S.ks.length := by rw [hi.zs, hi.kl, List.length_map]
  refine (ofTree_any g bm bl zv S G n c w hs hlen hn hG ho (by omega) (by rw [h2.kl]; omega) (fun z hz => ?_)).mono ?_
  · rw [h2.zs] at hz
    obtain ⟨y, hy, rfl⟩ := List.mem_map.1 hz
    exact (hok y hy).1
  · rintro e w' ⟨rfl, zv', k1, -, k3⟩
    exact ⟨by rw [h1], zv', _, k1, h2, k3⟩
set_option maxRecDepth 100000 in
theorem pnew_any (w : World) (G : Nat → Prop) : Calls Try.prog 6 #[] w fun e w' => ∃ (g : Nat) (F : Nat → Prop), e = .returned (.pointer (some ⟨g, 0, none⟩)) ∧ PAx w' G F (.pointer (some ⟨g, 0, none⟩)) [] ∧ (∀ k, F k → w.heap.size ≤ k) ∧ Below w.heap.size w w' := by
  go_enter Try.func6, Try.ntmps6
  go_wp2_with fail
  go_ret
  refine ⟨w.heap.size, fun k => k = w.heap.size, rfl, ⟨_, rfl, .inl ⟨rfl, ?_, rfl⟩⟩, fun k hk => Nat.le_of_eq hk.symm, below1 _ _⟩
  show (w.heap.push _)[w.heap.size]? = _
  rw [Array.getElem?_push, if_pos rfl]
set_option maxRecDepth 100000 in
theorem plen_any (w : World) (gp : Nat) (xs : List Nd) (F : Nat → Prop) (h : PAl w gp xs F) : Calls Try.prog 12 #[.pointer (some ⟨gp, 0, none⟩)] w fun e w' => e = .returned (.int .i64 (xs.length : Int)) ∧ Below w.heap.size w w' := by
  rcases h with ⟨rfl, h1, rfl⟩ | ⟨g, bm, bl, zv, S, h1, h2, h3, h4, rfl⟩
  · have c0 : w.cell? ⟨gp, 0, none⟩ = some (.pointer none) := by rw [cell_of_row w _ _ _ _ _ h1]; rfl
    clear h1
    go_enter Try.func12, Try.ntmps12
    go_wp2_with fail
    go_ret
    exact ⟨rfl, Below.refl _ _⟩
  · have c0 : w.cell? ⟨gp, 0, none⟩ = some (.pointer (some ⟨g, 0, none⟩)) := by rw [cell_of_row w _ _ _ _ _ h1]; rfl
    obtain ⟨-, -, c2⟩ := h2.cells
    have hz : S.zs.length = xs.length := by rw [h3.zs, List.length_map]
    obtain ⟨-, ⟨rfl, e0⟩ | ⟨b, cap, cur, rfl, -⟩⟩ := h2.row
    · have HE : Hid (xs.length = 0) := Lib.hid (by omega)
      clear h1 h2 h3 h4 hz e0
      go_enter Try.func12, Try.ntmps12
      go_wp2_with fail
      go_ret
      exact ⟨by rw [HE.out]; rfl, Below.refl _ _⟩
    · rw [hz] at c2
      clear h1 h2 h3 h4 hz
      go_enter Try.func12, Try.ntmps12
      go_wp2_with fail
      go_ret
      exact ⟨rfl, Below.refl _ _⟩
set_option maxRecDepth 100000 in
theorem plen0_any (w : World) : Calls Try.prog 12 #[.pointer none] w fun e w' => e = .returned (.int .i64 0) ∧ Below w.heap.size w w' := by
  go_enter Try.func12, Try.ntmps12
  go_wp2_with fail
  go_ret
  exact ⟨rfl, Below.refl _ _⟩
set_option maxRecDepth 100000 in
theorem pput0_any (w : World) (c : List Value) (n : Nd) (h : NdAt w c n) : Calls Try.prog 10 #[.pointer none, .agg c.toArray] w fun e w' => e = .returned (.int .i64 0) ∧ Below w.heap.size w w' := by
  obtain ⟨k0, t0, l0, br0, b0, no0, ta0, lv0, nv0, tv0, cs0, ⟨na0, nc0, rfl, -⟩, ⟨tb0, tc0, rfl, -⟩, ⟨la0, lc0, rfl, -⟩, -⟩ := h
  go_enter Try.func10, Try.ntmps10
  go_wp2_with fail
  go_ret
  exact ⟨rfl, below1 _ _⟩
set_option maxRecDepth 100000 in
theorem psize0_any (w : World) (id : Int) : Calls Try.prog 13 #[.pointer none, .int .i64 id] w fun e w' => e = .returned (.int .i64 0) ∧ Below w.heap.size w w' := by
  have HL := Lib.hid (fun W => plen0_any W)
  by_cases h1 : id < 1
  · have d1 : decide (id < 1) = true := decide_eq_true h1
    go_enter Try.func13, Try.ntmps13
    go_wp2_with fail
    go_ret
    exact ⟨rfl, Below.refl _ _⟩
  · have d1 : decide (id < 1) = false := decide_eq_false h1
    have d2 : decide (0 < id) = true := decide_eq_true (by omega)
    go_enter Try.func13, Try.ntmps13
    go_wp2_with fail
    refine (HL.out _).mono ?_
    rintro e w1 ⟨rfl, hb⟩
    have HB := Lib.hid hb
    clear hb
    go_wp2_with fail
    go_ret
    exact ⟨rfl, HB.out⟩
theorem psz_in {xs : List Nd} {id : Int} (h1 : 1 ≤ id) {y : Nd} (hy : xs[id.toNat - 1]? = some y) : psz xs id = cnt y := by
  have := (List.getElem?_eq_some_iff.1 hy).1
  unfold psz
  rw [if_pos ⟨h1, by omega⟩, hy]
  rfl
set_option maxRecDepth 100000 in
theorem psize_any (w : World) (gp : Nat) (xs : List Nd) (F : Nat → Prop) (id : Int) (h : PAl w gp xs F) : Calls Try.prog 13 #[.pointer (some ⟨gp, 0, none⟩), .int .i64 id] w fun e w' => e = .returned (.int .i64 (psz xs id : Int)) ∧ Below w.heap.size w w' := by
  have HL := Lib.hid (fun W (hb : Below w.heap.size w W) => plen_any W gp xs F (h.below hb))
  by_cases h1 : id < 1
  · have d1 : decide (id < 1) = true := decide_eq_true h1
    have HZ : Hid (psz xs id = 0) := Lib.hid (by unfold psz; rw [if_neg (by omega)])
    clear h
    go_enter Try.func13, Try.ntmps13
    go_wp2_with fail
    go_ret
    exact ⟨by rw [HZ.out]; rfl, Below.refl _ _⟩
  · have d1 : decide (id < 1) = false := decide_eq_false h1
    by_cases h2 : (xs.length : Int) < id
    · have d2 : decide ((xs.length : Int) < id) = true := decide_eq_true h2
      have HZ : Hid (psz xs id = 0) := Lib.hid (by unfold psz; rw [if_neg (by omega)])
      clear h
      go_enter Try.func13, Try.ntmps13
      go_wp2_with fail
      refine (HL.out _ (Below.refl _ _)).mono ?_
      rintro e w1 ⟨rfl, hb⟩
      have HB := Lib.hid hb
      clear hb
      go_wp2_with fail
      go_ret
      exact ⟨by rw [HZ.out]; rfl, HB.out⟩
    · have d2 : decide ((xs.length : Int) < id) = false := decide_eq_false h2
      obtain ⟨j, hj⟩ : ∃ j : Nat, id = (j : Int) + 1 := ⟨(id - 1).toNat, by omega⟩
      have hjl : j < xs.length := by omega
      obtain ⟨y, hy⟩ : ∃ y, xs[j]? = some y := ⟨_, List.getElem?_eq_getElem hjl⟩
      have HZ : Hid (psz xs id = cnt y) := Lib.hid (psz_in (by omega) (by rw [hj]; rw [show ((j : Int) + 1).toNat - 1 = j by omega]; exact hy))
      rcases h with ⟨rfl, -, -⟩ | ⟨g, bm, bl, zv, S, g1, g2, g3, g4, rfl⟩
      · simp at hjl
      · have hzs : S.zs[j]? = some (cnt y) := by rw [g3.zs, List.getElem?_map, hy]; rfl
        have hzl : S.zs.length = xs.length := by rw [g3.zs, List.length_map]
        obtain ⟨zb, zc, hzv, hzc, -⟩ := g2.size hzs
        have hmx : xs.length ≤ 9223372036854775807 := by
          rw [← hzl]
          obtain ⟨-, ⟨-, e0⟩ | ⟨b, cap, cur, -, -, -, e1, e2, -⟩⟩ := g2.row
          · omega
          · unfold maxLen at e2; omega
        have HC : Hid (∀ W, Below w.heap.size w W → W.cell? ⟨gp, 0, none⟩ = some (.pointer (some ⟨g, 0, none⟩)) ∧ W.cell? ⟨g, 2, none⟩ = some (.slice (some ⟨zb, 0, none⟩) xs.length zc) ∧ W.cell? ⟨zb, j, none⟩ = some (.int .i64 (cnt y : Int))) := Lib.hid (fun W hb => by
          have k1 := (hb.block _ (lt_of_block g1)).trans g1
          have k2 := g2.below hb
          obtain ⟨zb2, zc2, e2, hc2, -⟩ := k2.size hzs
          rw [hzv] at e2
          simp only [Value.slice.injEq, Option.some.injEq, Addr.mk.injEq, and_true, true_and] at e2
          obtain ⟨rfl, rfl⟩ := e2
          refine ⟨by rw [cell_of_row W _ _ _ _ _ k1]; rfl, ?_, hc2⟩
          rw [k2.cells.2.2, hzv, hzl])
        rw [hj] at d1 d2 HZ ⊢
        have gw : IntKind.i64.wrap (((j : Int) + 1) - 1) = (j : Int) := by rw [IntKind.wrap_i64]; omega
        have gw2 : wrap64 (j : Int) = (j : Int) := by have := IntKind.wrap_i64 (j : Int); unfold wrap64; omega
        have j0 : (0 : Int) ≤ (j : Int) := Int.natCast_nonneg j
        have j1 : (j : Int) < (xs.length : Int) := Int.ofNat_lt.2 hjl
        clear h1 h2 hj hy g1 g2 g3 g4 hzs hzl hzv hzc hmx hjl
        go_enter Try.func13, Try.ntmps13
        go_wp2_with fail
        refine (HL.out _ (Below.refl _ _)).mono ?_
        rintro e w1 ⟨rfl, hb⟩
        have HB := Lib.hid hb
        obtain ⟨c0, c2, c3⟩ := HC.out _ hb
        clear hb
        go_wp2_with fail
        go_ret
        exact ⟨by rw [HZ.out]; rfl, HB.out⟩
/-- What Put leaves. -/
def PutR (w : World) (gp : Nat) (F : Nat → Prop) (xs : List Nd) (w' : World) : Prop := ∃ F' : Nat → Prop, PAl w' gp xs F' ∧ Mv F w F' w'
set_option maxRecDepth 100000 in
set_option maxHeartbeats 1000000 in
theorem pput_any (w : World) (G F : Nat → Prop) (gp : Nat) (xs : List Nd) (n : Nd) (c : List Value) (h : PAl w gp xs F) (hp : Pk xs) (hx : ∀ y ∈ xs, OkP y) (hn : NdIn w G c n) (hG : ∀ k, G k → ¬ F k ∧ k < w.heap.size) (ho : OkP n) (hl : xs.length + cnt n ≤ 50000) :
    Calls Try.prog 10 #[.pointer (some ⟨gp, 0, none⟩), .agg c.toArray] w fun e w' => e = .returned (.int .i64 (pidx n xs : Int)) ∧ PutR w gp F (pad n xs) w' := by
  have hlv := h.live
  have HN := Lib.hid hn
  obtain ⟨k0, t0, l0, br0, b0, no0, ta0, lv0, nv0, tv0, cs0, ⟨na0, nc0, rfl, -⟩, ⟨tb0, tc0, rfl, -⟩, ⟨la0, lc0, rfl, -⟩, -⟩ := hn
  obtain ⟨NT, hNT⟩ : ∃ NT : Nd, NT = Nd.mk k0 t0 l0 br0 b0 no0 ta0 := ⟨_, rfl⟩
  rw [← hNT] at HN ho hl ⊢
  clear hNT
  have hb1 := below1 w (.cells #[.int .i64 k0, .string t0, .slice la0 l0.length lc0, .bool br0, .bool b0, .slice na0 no0.length nc0, .slice tb0 ta0.length tc0] 32)
  have HB1 := Lib.hid hb1
  rcases h with ⟨rfl, h1, rfl⟩ | ⟨g, bm, bl, zv, S, h1, h2, h3, h4, rfl⟩
  · have hgl := lt_of_block h1
    have c0 : w.cell? ⟨gp, 0, none⟩ = some (.pointer none) := by rw [cell_of_row w _ _ _ _ _ h1]; rfl
    have c1 : ∀ O, (w.alloc O).cell? ⟨gp, 0, none⟩ = some (.pointer none) := fun O => by rw [cell_of_row _ _ _ _ _ _ (((below1 w O).block _ hgl).trans h1)]; rfl
    have hmm := @run_makeMap Try.prog
    obtain ⟨Z, hZ⟩ : ∃ Z, Z = ((((w.alloc (.cells #[.int .i64 k0, .string t0, .slice la0 l0.length lc0, .bool br0, .bool b0, .slice na0 no0.length nc0, .slice tb0 ta0.length tc0] 32)).alloc (.map #[] 0)).alloc (.map #[] 0)).alloc (.cells #[.map (some (w.heap.size + 1)), .map (some (w.heap.size + 1 + 1)), .slice none 0 0] 46)) := ⟨_, rfl⟩
    have hbZ : Below w.heap.size w Z := by
      rw [hZ]
      repeat' (first | exact Below.refl _ _ | refine Below.alloc ?_ ?_ _ | (simp; omega) | simp)
    have z1 : Z.heap[gp]? = some (.cells #[.pointer none] 40 (0, 0)) := (hbZ.block _ hgl).trans h1
    have hzs : Z.heap.size = w.heap.size + 4 := by rw [hZ]; simp
    have zm : Z.heap[w.heap.size + 1]? = some (.map #[] 0) := by
      rw [hZ]; show ((((w.heap.push _).push _).push _).push _)[w.heap.size + 1]? = _
      rw [Array.getElem?_push, if_neg (by simp), Array.getElem?_push, if_neg (by simp), Array.getElem?_push, if_pos (by simp)]
    have zl : Z.heap[w.heap.size + 1 + 1]? = some (.map #[] 0) := by
      rw [hZ]; show ((((w.heap.push _).push _).push _).push _)[w.heap.size + 1 + 1]? = _
      rw [Array.getElem?_push, if_neg (by simp), Array.getElem?_push, if_pos (by simp)]
    have zg : Z.heap[w.heap.size + 1 + 1 + 1]? = some (.cells #[.map (some (w.heap.size + 1)), .map (some (w.heap.size + 1 + 1)), .slice none 0 0] 46 (0, 0)) := by
      rw [hZ]; show ((((w.heap.push _).push _).push _).push _)[w.heap.size + 1 + 1 + 1]? = _
      rw [Array.getElem?_push, if_pos (by simp)]
    have sg : ∀ k, k ≠ gp → (Z.setCell ⟨gp, 0, none⟩ (.pointer (some ⟨w.heap.size + 1 + 1 + 1, 0, none⟩))).heap[k]? = Z.heap[k]? := fun k hk => Below.heap_setCell _ _ _ _ hk
    have s5 : StM (Z.setCell ⟨gp, 0, none⟩ (.pointer (some ⟨w.heap.size + 1 + 1 + 1, 0, none⟩))) (w.heap.size + 1 + 1 + 1) (w.heap.size + 1) (w.heap.size + 1 + 1) (.slice none 0 0) ⟨[], [], []⟩ :=
      ⟨(sg _ (by omega)).trans zg, NumM.new _ _ _ ((sg _ (by omega)).trans zm), NumM.new _ _ _ ((sg _ (by omega)).trans zl), ⟨rfl, .inl ⟨rfl, rfl⟩⟩, ⟨by omega, by omega, by omega, by simp [Value.ownBlock], by simp [Value.ownBlock], by simp [Value.ownBlock]⟩, by simp, by simp⟩
    have g5 : (Z.setCell ⟨gp, 0, none⟩ (.pointer (some ⟨w.heap.size + 1 + 1 + 1, 0, none⟩))).heap[gp]? = some (.cells #[.pointer (some ⟨w.heap.size + 1 + 1 + 1, 0, none⟩)] 40 (0, 0)) := by
      have := Lib.heap_setCell_same (i := 0) z1 (.pointer (some ⟨w.heap.size + 1 + 1 + 1, 0, none⟩))
      simpa using this
    have hgf : ¬ Fs (w.heap.size + 1 + 1 + 1) (w.heap.size + 1) (w.heap.size + 1 + 1) (.slice none 0 0) gp := fun hf => by
      rcases hf with e | e | e | e
      · omega
      · omega
      · omega
      · simp [Value.ownBlock] at e
    have m5 : Mv (fun k => k = gp) w (fun k => k = gp ∨ Fs (w.heap.size + 1 + 1 + 1) (w.heap.size + 1) (w.heap.size + 1 + 1) (.slice none 0 0) k) (Z.setCell ⟨gp, 0, none⟩ (.pointer (some ⟨w.heap.size + 1 + 1 + 1, 0, none⟩))) := by
      have h9 := Mv.set (O := fun k => k = gp) (O' := fun k => k = gp) (mv_below _ hbZ) (b := gp) rfl 0 (.pointer (some ⟨w.heap.size + 1 + 1 + 1, 0, none⟩))
      refine ⟨h9.os, h9.tape, h9.output, h9.size, h9.block, fun k hk => ?_⟩
      rcases hk with e | e | e | e | e
      · exact .inl e
      · exact .inr (by omega)
      · exact .inr (by omega)
      · exact .inr (by omega)
      · simp [Value.ownBlock] at e
    have HO : Hid (∀ W, Below (Z.setCell ⟨gp, 0, none⟩ (.pointer (some ⟨w.heap.size + 1 + 1 + 1, 0, none⟩))).heap.size (Z.setCell ⟨gp, 0, none⟩ (.pointer (some ⟨w.heap.size + 1 + 1 + 1, 0, none⟩))) W → Calls Try.prog 16 #[.pointer (some ⟨w.heap.size + 1 + 1 + 1, 0, none⟩), .agg #[.int .i64 k0, .string t0, .slice la0 l0.length lc0, .bool br0, .bool b0, .slice na0 no0.length nc0, .slice tb0 ta0.length tc0]] W fun e w' => e = .returned (.int .i64 (pidx NT [] : Int)) ∧ Hid (PutR w gp (fun k => k = gp) (pad NT []) w')) := Lib.hid (fun W hb => by
      have hGl : ∀ k, G k → k < w.heap.size := fun k hk => (hG k hk).2
      have hk5 : Keeps G w W := ⟨Nat.le_trans m5.size hb.size, fun k hk hl => (hb.block k (Nat.lt_of_lt_of_le hl m5.size)).trans (m5.block k hl (hG k hk).1)⟩
      refine (put_core (s5.below hb) inv_nil hp hx (HN.out.keep hk5) (fun k hk => ⟨fun hf => ?_, Nat.lt_of_lt_of_le (hGl k hk) (Nat.le_trans m5.size hb.size)⟩) ho hl).mono ?_
      · have := hGl k hk
        rcases hf with e | e | e | e
        · omega
        · omega
        · omega
        · simp [Value.ownBlock] at e
      · rintro e w' ⟨rfl, zv', S', k1, k2, k3⟩
        have hW := (hb.block _ (lt_of_block g5)).trans g5
        have hgf2 : ¬ Fs (w.heap.size + 1 + 1 + 1) (w.heap.size + 1) (w.heap.size + 1 + 1) zv' gp := fun hf => by
          rcases k3.own gp hf with e | e
          · exact hgf e
          · have := hb.size
            have := lt_of_block g5
            omega
        exact ⟨rfl, Lib.hid ⟨fun k => k = gp ∨ Fs (w.heap.size + 1 + 1 + 1) (w.heap.size + 1) (w.heap.size + 1 + 1) zv' k, .inr ⟨_, _, _, zv', S', (k3.block gp (lt_of_block hW) hgf).trans hW, k1, k2, hgf2, rfl⟩, (m5.trans (mv_below _ hb)).trans k3.weak2⟩⟩)
    have zc : Z.cell? ⟨gp, 0, none⟩ = some (.pointer none) := by rw [cell_of_row Z _ _ _ _ _ z1]; rfl
    have zf : Z.frozen? ⟨gp, 0, none⟩ = false := frz_of z1 0
    have y0 : (Z.setCell ⟨gp, 0, none⟩ (.pointer (some ⟨w.heap.size + 1 + 1 + 1, 0, none⟩))).cell? ⟨gp, 0, none⟩ = some (.pointer (some ⟨w.heap.size + 1 + 1 + 1, 0, none⟩)) := by rw [cell_of_row _ _ _ _ _ _ g5]; rfl
    have hgne : ¬ gp = w.heap.size := by omega
    have hnc : ∀ j, Z.cell? ⟨w.heap.size, j, none⟩ = (#[.int .i64 k0, .string t0, .slice la0 l0.length lc0, .bool br0, .bool b0, .slice na0 no0.length nc0, .slice tb0 ta0.length tc0] : Array Value)[j]? := fun j => by
      have e : Z.heap[w.heap.size]? = some (.cells #[.int .i64 k0, .string t0, .slice la0 l0.length lc0, .bool br0, .bool b0, .slice na0 no0.length nc0, .slice tb0 ta0.length tc0] 32 (0, 0)) := by
        rw [hZ]; show ((((w.heap.push _).push _).push _).push _)[w.heap.size]? = _
        rw [Array.getElem?_push, if_neg (by simp; omega), Array.getElem?_push, if_neg (by simp; omega), Array.getElem?_push, if_neg (by simp), Array.getElem?_push, if_pos (by simp)]
      rw [cell_of_row Z _ _ _ _ _ e]
    obtain ⟨W5, hW5⟩ : ∃ W5, W5 = Z.setCell ⟨gp, 0, none⟩ (.pointer (some ⟨w.heap.size + 1 + 1 + 1, 0, none⟩)) := ⟨_, rfl⟩
    have hnc5 : ∀ j, W5.cell? ⟨w.heap.size, j, none⟩ = (#[.int .i64 k0, .string t0, .slice la0 l0.length lc0, .bool br0, .bool b0, .slice na0 no0.length nc0, .slice tb0 ta0.length tc0] : Array Value)[j]? := fun j => by
      rw [← hnc j, hW5]
      exact World.cell?_of_block (w := Z) (sg w.heap.size (fun e => hgne e.symm))
    rw [← hW5] at HO y0
    have n0 := hnc5 0
    have n1 := hnc5 1
    have n2 := hnc5 2
    have n3 := hnc5 3
    have n4 := hnc5 4
    have n5 := hnc5 5
    have n6 := hnc5 6
    simp only [List.getElem?_toArray, List.getElem?_cons_zero, List.getElem?_cons_succ] at n0 n1 n2 n3 n4 n5 n6
    have HZ := Lib.hid hZ
    have HW5 := Lib.hid hW5
    have HD : Hid (Below W5.heap.size W5 W5.drew) := Lib.hid (Below.drew (Below.refl _ _))
    have zc' := zc
    have zf' := zf
    rw [hZ] at zc' zf'
    clear h1 hp hx hG ho hl hlv hb1 hbZ z1 hzs zm zl zg sg s5 g5 hgf m5 zc zf hnc hnc5 hgl hZ hW5
    go_enter Try.func10, Try.ntmps10
    go_wp2_with fail
    rw [← HZ.out, ← HW5.out]
    clear zc' zf' c0 c1 hmm hgne
    go_region_with (go_at_call 16; refine (HO.out _ ?_).mono ?_; exact HD.out; rintro e w2 ⟨rfl, HPR⟩)
    all_goals go_wp2_with fail
    all_goals go_ret
    all_goals exact ⟨rfl, HPR.out⟩
  · have c0 : w.cell? ⟨gp, 0, none⟩ = some (.pointer (some ⟨g, 0, none⟩)) := by rw [cell_of_row w _ _ _ _ _ h1]; rfl
    have c1 : ∀ O, (w.alloc O).cell? ⟨gp, 0, none⟩ = some (.pointer (some ⟨g, 0, none⟩)) := fun O => by rw [cell_of_row _ _ _ _ _ _ (((below1 w O).block _ (lt_of_block h1)).trans h1)]; rfl
    have HO : Hid (∀ W, Below w.heap.size w W → Calls Try.prog 16 #[.pointer (some ⟨g, 0, none⟩), .agg #[.int .i64 k0, .string t0, .slice la0 l0.length lc0, .bool br0, .bool b0, .slice na0 no0.length nc0, .slice tb0 ta0.length tc0]] W fun e w' => e = .returned (.int .i64 (pidx NT xs : Int)) ∧ Hid (PutR w gp (fun k => k = gp ∨ Fs g bm bl zv k) (pad NT xs) w')) := Lib.hid (fun W hb => by
      refine (put_core (h2.below hb) h3 hp hx (HN.out.keep (keeps_below hb)) (fun k hk => ⟨fun hf => (hG k hk).1 (.inr hf), Nat.lt_of_lt_of_le (hG k hk).2 hb.size⟩) ho hl).mono ?_
      rintro e w' ⟨rfl, zv', S', k1, k2, k3⟩
      have hgl := lt_of_block h1
      have hW := (hb.block _ hgl).trans h1
      have hgf : ¬ Fs g bm bl zv' gp := fun hf => by
        rcases k3.own gp hf with e | e
        · exact h4 e
        · have := hb.size; omega
      refine ⟨rfl, Lib.hid ⟨fun k => k = gp ∨ Fs g bm bl zv' k, .inr ⟨g, bm, bl, zv', S', (k3.block gp (lt_of_block hW) h4).trans hW, k1, k2, hgf, rfl⟩, (mv_below _ hb).trans k3.weak2⟩⟩)
    clear h1 h2 h3 h4 hp hx hG ho hl hlv hb1
    go_enter Try.func10, Try.ntmps10
    go_wp2_with fail
    go_region_with (go_at_call 16; refine (HO.out _ ?_).mono ?_; exact Below.drew HB1.out; rintro e w2 ⟨rfl, HPR⟩)
    all_goals go_wp2_with fail
    all_goals go_ret
    all_goals exact ⟨rfl, HPR.out⟩
theorem PutR.to {w w' : World} {gp : Nat} {F : Nat → Prop} {xs : List Nd} (h : PutR w gp F xs w') (G : Nat → Prop) :
    ∃ F' : Nat → Prop, PAx w' G F' (.pointer (some ⟨gp, 0, none⟩)) xs ∧ (∀ k, F' k → F k ∨ w.heap.size ≤ k) ∧ Keeps (fun k => ¬ F k) w w' ∧ ∀ B, (∀ k, F k → B ≤ k) → B ≤ w.heap.size → Below B w w' := by
  obtain ⟨F', h1, h2⟩ := h
  exact ⟨F', ⟨gp, rfl, h1⟩, h2.own, h2.keeps (fun k hk => hk), fun B hB hl => h2.below hl hB⟩
/-- THE LANDED POOL IS A POOL. -/
theorem poolI : PoolI PAx where
  keep := by
    rintro W W' G F p xs ⟨gp, rfl, h⟩ hk
    exact ⟨gp, rfl, h.keep (fun k hf => hk.2 k (.inl hf) (h.live k hf))⟩
  more := by
    rintro W G G' F p xs h -
    exact h
  lt := by
    rintro W G F p xs ⟨gp, rfl, h⟩
    exact h.live
  new := pnew_any
  put := by
    rintro w G F p xs n c ⟨gp, rfl, h⟩ hp hx hn hG ho hl
    exact (pput_any w G F gp xs n c h hp hx hn hG ho hl).mono fun e w' ⟨h1, h2⟩ => ⟨h1, h2.to G⟩
  len := by
    rintro w G F p xs ⟨gp, rfl, h⟩
    exact plen_any w gp xs F h
  size := by
    rintro w G F p xs id ⟨gp, rfl, h⟩
    exact psize_any w gp xs F id h
  put0 := pput0_any
  len0 := plen0_any
  size0 := psize0_any
end Go.Proofs.Ytkngnkonddpbeaa
