/-
  The landed pool's store in memory.
-/
import Derived.Test.YtkngnkonddpbeaaPoolKey
import Derived.Test.YtkngnkonddpbeaaTreeWk
import Derived.Test.YtkngnkonddpbeaaStrClone
namespace Go.Proofs.Ytkngnkonddpbeaa
open Go.RowKit Go.PlainAid

/-- What the store keeps, in memory: its block g, its two maps, its row of sizes. -/
structure StM (W : World) (g bm bl : Nat) (zv : Value) (S : Sto) : Prop where
  cell : W.heap[g]? = some (.cells #[.map (some bm), .map (some bl), zv] 46 (0, 0))
  nodes : NumM 60 W bm (S.ks.map nkv)
  lists : NumM 56 W bl (S.ls.map lkv)
  row : W.ownsRow 0 3 1 zv S.zs.length (S.zs.map fun (z : Nat) => Value.int .i64 (z : Int))
  ne : g ≠ bm ∧ g ≠ bl ∧ bm ≠ bl ∧ zv.ownBlock ≠ some g ∧ zv.ownBlock ≠ some bm ∧ zv.ownBlock ≠ some bl
  nd : S.ls.Nodup ∧ S.ks.Nodup
/-- The blocks that it owns. -/
def Fs (g bm bl : Nat) (zv : Value) (k : Nat) : Prop := k = g ∨ k = bm ∨ k = bl ∨ zv.ownBlock = some k
theorem StM.keep {W W' : World} {g bm bl : Nat} {zv : Value} {S : Sto} (h : StM W g bm bl zv S) (hk : ∀ k, Fs g bm bl zv k → W'.heap[k]? = W.heap[k]?) : StM W' g bm bl zv S :=
  ⟨(hk g (.inl rfl)).trans h.cell, h.nodes.keep (hk bm (.inr (.inl rfl))), h.lists.keep (hk bl (.inr (.inr (.inl rfl)))), row_block h.row (fun k e => hk k (.inr (.inr (.inr e)))), h.ne, h.nd⟩
theorem StM.live {W : World} {g bm bl : Nat} {zv : Value} {S : Sto} (h : StM W g bm bl zv S) : ∀ k, Fs g bm bl zv k → k < W.heap.size := by
  intro k hk
  rcases hk with rfl | rfl | rfl | e
  · exact lt_of_block h.cell
  · exact h.nodes.lt
  · exact h.lists.lt
  · exact (h.row.lt k e).2
theorem StM.below {W W' : World} {g bm bl : Nat} {zv : Value} {S : Sto} (h : StM W g bm bl zv S) (hb : Below W.heap.size W W') : StM W' g bm bl zv S := h.keep (fun k hk => hb.block k (h.live k hk))
theorem StM.cells {W : World} {g bm bl : Nat} {zv : Value} {S : Sto} (h : StM W g bm bl zv S) : W.cell? ⟨g, 0, none⟩ = some (.map (some bm)) ∧ W.cell? ⟨g, 1, none⟩ = some (.map (some bl)) ∧ W.cell? ⟨g, 2, none⟩ = some zv :=
  ⟨by rw [cell_of_row W _ _ _ _ _ h.cell]; rfl, by rw [cell_of_row W _ _ _ _ _ h.cell]; rfl, by rw [cell_of_row W _ _ _ _ _ h.cell]; rfl⟩
theorem mem_at {α : Type} {x : α} {l : List α} (h : l.Nodup) {i j : Nat} (hi : l[i]? = some x) (hj : l[j]? = some x) : j = i := by
  have h1 := (List.getElem?_eq_some_iff.1 hj).1
  exact (List.getElem?_inj h1 h).1 (hj.trans hi.symm)
/-- A list's key is looked up. -/
theorem StM.lookL {W : World} {g bm bl : Nat} {zv : Value} {S : Sto} (h : StM W g bm bl zv S) (a i : Nat) (t : ByteArray) (ha : a ≤ 4611686018427387904) (hi : i ≤ 4611686018427387904) (ht : t.size ≤ 281474976710656) :
    ((a, i, t) ∈ S.ls → (Instr.lookup 43 (.map (some bl)) (.agg #[.int .i64 (a : Int), .int .i64 (i : Int), .string t]) true).run Try.prog W = .ok (.tuple #[.int .i64 (lnum (a, i, t) S.ls : Int), .bool true]) W) ∧
    ((a, i, t) ∉ S.ls → (Instr.lookup 43 (.map (some bl)) (.agg #[.int .i64 (a : Int), .int .i64 (i : Int), .string t]) true).run Try.prog W = .ok (.tuple #[.int .i64 0, .bool false]) W) := by
  obtain ⟨h1, h2⟩ := h.lists.look lkLaw Try.underlying43 zeroInt11 (lk_key a i t ha hi ht)
  constructor
  · intro hm
    have h3 := find_mem hm
    exact h1 _ (by rw [List.getElem?_map, h3]; rfl) (fun j hj => by
      rw [List.getElem?_map] at hj
      obtain ⟨y, hy, e⟩ := Option.map_eq_some_iff.1 hj
      have : y = (a, i, t) := lkv_inj e
      subst this
      exact mem_at h.nd.1 h3 hy)
  · intro hm
    refine h2 (fun hm2 => hm ?_)
    obtain ⟨y, hy, e⟩ := List.mem_map.1 hm2
    have : y = (a, i, t) := lkv_inj e
    rw [← this]; exact hy
/-- A new list's key. -/
theorem StM.putL {W : World} {g bm bl : Nat} {zv : Value} {S : Sto} (h : StM W g bm bl zv S) (a i : Nat) (t : ByteArray) (ha : a ≤ 4611686018427387904) (hi : i ≤ 4611686018427387904) (ht : t.size ≤ 281474976710656) (hm : (a, i, t) ∉ S.ls) :
    ∃ es clock, (∀ W' : World, W'.heap[bl]? = W.heap[bl]? → (Instr.mapUpdate 43 (.map (some bl)) (.agg #[.int .i64 (a : Int), .int .i64 (i : Int), .string t]) (.int .i64 ((S.ls.length : Int) + 1))).run Try.prog W' = .ok () (putK W' bl es clock)) ∧
      ∀ W' : World, StM W' g bm bl zv S → StM (putK W' bl es clock) g bm bl zv { S with ls := ladd (a, i, t) S.ls } := by
  obtain ⟨es, clock, h1, h2⟩ := h.lists.put lkLaw Try.underlying43 (lk_key a i t ha hi ht) (fun hm2 => hm (by
    obtain ⟨y, hy, e⟩ := List.mem_map.1 hm2
    have : y = (a, i, t) := lkv_inj e
    rw [← this]; exact hy))
  refine ⟨es, clock, fun W' hW => ?_, fun W' hW => ?_⟩
  · have := h1 W' hW
    rw [List.length_map] at this
    exact this
  · have hne := hW.ne
    have hla : ladd (a, i, t) S.ls = S.ls ++ [(a, i, t)] := by unfold ladd; rw [if_neg hm]
    refine ⟨(putK_other W' hne.2.1 es clock).trans hW.cell, hW.nodes.keep (putK_other W' hne.2.2.1 es clock), ?_, row_block hW.row (fun k e => putK_other W' (fun e2 => hne.2.2.2.2.2 (by rw [e, e2])) es clock), hne, by rw [hla]; have := ladd_nodup (x := (a, i, t)) hW.nd.1; rw [hla] at this; exact this, hW.nd.2⟩
    have := h2 (putK W' bl es clock) (putK_same hW.lists.lt es clock)
    show NumM _ _ bl ((ladd (a, i, t) S.ls).map lkv)
    rw [hla, List.map_append]
    exact this
/-- A node's key is looked up. -/
theorem StM.lookN {W : World} {g bm bl : Nat} {zv : Value} {S : Sto} (h : StM W g bm bl zv S) (k : Int) (t : ByteArray) (b : Bool) (it no ta : Nat) (hk : Kw k) (ht : t.size ≤ 281474976710656) (h1 : it ≤ 4611686018427387904) (h2 : no ≤ 4611686018427387904) (h3 : ta ≤ 4611686018427387904) :
    (((k, t, b), it, no, ta) ∈ S.ks → (Instr.lookup 42 (.map (some bm)) (.agg #[.int .i64 k, .string t, .bool b, .int .i64 (it : Int), .int .i64 (no : Int), .int .i64 (ta : Int)]) true).run Try.prog W = .ok (.tuple #[.int .i64 (nnum ((k, t, b), it, no, ta) S.ks : Int), .bool true]) W) ∧
    (((k, t, b), it, no, ta) ∉ S.ks → (Instr.lookup 42 (.map (some bm)) (.agg #[.int .i64 k, .string t, .bool b, .int .i64 (it : Int), .int .i64 (no : Int), .int .i64 (ta : Int)]) true).run Try.prog W = .ok (.tuple #[.int .i64 0, .bool false]) W) := by
  obtain ⟨g1, g2⟩ := h.nodes.look nkLaw Try.underlying42 zeroInt11 (nk_key k t b it no ta hk ht h1 h2 h3)
  constructor
  · intro hm
    have h3 := find_mem hm
    exact g1 _ (by rw [List.getElem?_map, h3]; rfl) (fun j hj => by
      rw [List.getElem?_map] at hj
      obtain ⟨y, hy, e⟩ := Option.map_eq_some_iff.1 hj
      have : y = ((k, t, b), it, no, ta) := nkv_inj e
      subst this
      exact mem_at h.nd.2 h3 hy)
  · intro hm
    refine g2 (fun hm2 => hm ?_)
    obtain ⟨y, hy, e⟩ := List.mem_map.1 hm2
    have : y = ((k, t, b), it, no, ta) := nkv_inj e
    rw [← this]; exact hy
/-- A new node's key. -/
theorem StM.putN {W : World} {g bm bl : Nat} {zv : Value} {S : Sto} (h : StM W g bm bl zv S) (k : Int) (t : ByteArray) (b : Bool) (it no ta : Nat) (hk : Kw k) (ht : t.size ≤ 281474976710656) (h1 : it ≤ 4611686018427387904) (h2 : no ≤ 4611686018427387904) (h3 : ta ≤ 4611686018427387904) (hm : ((k, t, b), it, no, ta) ∉ S.ks) :
    ∃ es clock, (∀ W' : World, W'.heap[bm]? = W.heap[bm]? → (Instr.mapUpdate 42 (.map (some bm)) (.agg #[.int .i64 k, .string t, .bool b, .int .i64 (it : Int), .int .i64 (no : Int), .int .i64 (ta : Int)]) (.int .i64 ((S.ks.length + 1 : Nat) : Int))).run Try.prog W' = .ok () (putK W' bm es clock)) ∧
      ∀ (W' : World) (zv' : Value) (zs' : List Nat), StM W' g bm bl zv' { S with zs := zs' } → StM (putK W' bm es clock) g bm bl zv' { S with ks := S.ks ++ [((k, t, b), it, no, ta)], zs := zs' } := by
  obtain ⟨es, clock, g1, g2⟩ := h.nodes.put nkLaw Try.underlying42 (nk_key k t b it no ta hk ht h1 h2 h3) (fun hm2 => hm (by
    obtain ⟨y, hy, e⟩ := List.mem_map.1 hm2
    have : y = ((k, t, b), it, no, ta) := nkv_inj e
    rw [← this]; exact hy))
  refine ⟨es, clock, fun W' hW => ?_, fun W' zv' zs' hW => ?_⟩
  · have := g1 W' hW
    rw [List.length_map] at this
    exact this
  · have hne := hW.ne
    refine ⟨(putK_other W' hne.1 es clock).trans hW.cell, ?_, hW.lists.keep (putK_other W' (Ne.symm hne.2.2.1) es clock), row_block hW.row (fun k e => putK_other W' (fun e2 => hne.2.2.2.2.1 (by rw [e, e2])) es clock), hne, hW.nd.1, ?_⟩
    · have := g2 (putK W' bm es clock) (putK_same hW.nodes.lt es clock)
      show NumM _ _ bm ((S.ks ++ [((k, t, b), it, no, ta)]).map nkv)
      rw [List.map_append]
      exact this
    · show (S.ks ++ [_]).Nodup
      rw [List.nodup_append]
      exact ⟨h.nd.2, by simp, fun a ha b hb => by simp only [List.mem_cons, List.not_mem_nil, or_false] at hb; rintro rfl; exact hm (hb ▸ ha)⟩
theorem mv_putK {O : Nat → Prop} (W : World) {b : Nat} (hb : O b) (es : Array MapEntry) (clock : Nat) : Mv O W O (putK W b es clock) :=
  ⟨rfl, rfl, rfl, Nat.le_of_eq (putK_size W b es clock).symm, fun k _ hn => putK_other W (fun e => hn (by rw [e]; exact hb)) es clock, fun _ h => .inl h⟩
set_option maxRecDepth 100000 in
theorem ofList_any (g bm bl : Nat) (zv : Value) (S : Sto) (a i : Nat) (t : ByteArray) (W : World) (h : StM W g bm bl zv S) (ha : a ≤ 4611686018427387904) (hi : i ≤ 4611686018427387904) (ht : t.size ≤ 281474976710656) (hl : S.ls.length ≤ 4611686018427387904) :
    Calls Try.prog 19 #[.pointer (some ⟨g, 0, none⟩), .agg #[.int .i64 (a : Int), .int .i64 (i : Int), .string t]] W fun e W' => e = .returned (.int .i64 (lnum (a, i, t) S.ls : Int)) ∧ StM W' g bm bl zv { S with ls := ladd (a, i, t) S.ls } ∧ Mv (fun k => k = bl) W (fun k => k = bl) W' := by
  have hb1 := below1 W (.cells #[.int .i64 (a : Int), .int .i64 (i : Int), .string t] 56)
  have h1 : StM (W.alloc (.cells #[.int .i64 (a : Int), .int .i64 (i : Int), .string t] 56)).drew g bm bl zv S := h.below (Below.drew hb1)
  obtain ⟨c0, c1, c2⟩ := h1.cells
  obtain ⟨k1, k2⟩ := h1.lookL a i t ha hi ht
  by_cases hm : (a, i, t) ∈ S.ls
  · have hlk := k1 hm
    obtain ⟨N, hN⟩ : ∃ N, N = lnum (a, i, t) S.ls := ⟨_, rfl⟩
    rw [← hN] at hlk ⊢
    clear k1 k2 hN
    go_enter Try.func19, Try.ntmps19
    go_wp2_with fail
    have hS : ladd (a, i, t) S.ls = S.ls := by unfold ladd; rw [if_pos hm]
    have HF : Hid (StM (W.alloc (.cells #[.int .i64 (a : Int), .int .i64 (i : Int), .string t] 56)).drew g bm bl zv { S with ls := ladd (a, i, t) S.ls } ∧ Mv (fun k => k = bl) W (fun k => k = bl) (W.alloc (.cells #[.int .i64 (a : Int), .int .i64 (i : Int), .string t] 56)).drew) := Lib.hid ⟨by rw [hS]; exact h1, mv_below _ (Below.drew hb1)⟩
    clear h h1 hb1 hS
    go_region
    all_goals go_wp2_with fail
    all_goals go_ret
    all_goals exact ⟨rfl, HF.out⟩
  · have hlk := k2 hm
    have hN : lnum (a, i, t) S.ls = S.ls.length + 1 := by unfold lnum; rw [find_not hm]
    rw [hN]
    obtain ⟨M, hM⟩ : ∃ M, M = S.ls.length := ⟨_, rfl⟩
    rw [← hM] at hl ⊢
    rw [show ((M + 1 : Nat) : Int) = (M : Int) + 1 by omega]
    have HC := Lib.hid (fun W2 => clonew_any t ht W2)
    obtain ⟨es, clock, hu, hput⟩ := h.putL a i t ha hi ht hm
    have HU := Lib.hid hu
    have HP := Lib.hid hput
    have HH := Lib.hid h
    have HB1 := Lib.hid hb1
    have gw : IntKind.i64.wrap ((M : Int) + 1) = (M : Int) + 1 := by rw [IntKind.wrap_i64]; omega
    have HML : Hid (((S.ls.map lkv).length : Int) = (M : Int)) := Lib.hid (by rw [List.length_map, hM])
    have HM := Lib.hid hM
    clear k1 k2 hN hu hput h h1 hb1 hM
    go_enter Try.func19, Try.ntmps19
    go_wp2_with fail
    go_region
    go_wp2_with fail
    refine (HC.out _).mono ?_
    rintro e w2 ⟨rfl, hb2⟩
    have hx1 : (W.alloc (.cells #[.int .i64 (a : Int), .int .i64 (i : Int), .string t] 56)).drew.heap[W.heap.size]? = some (.cells #[.int .i64 (a : Int), .int .i64 (i : Int), .string t] 56 (0, 0)) := by
      show (W.heap.push _)[W.heap.size]? = _
      rw [Array.getElem?_push, if_pos rfl]
    have hx2 := (hb2.block _ (lt_of_block hx1)).trans hx1
    have hB2 : Below W.heap.size W w2 := (Below.drew HB1.out).trans (hb2.mono (by show _ ≤ (W.alloc _).heap.size; simp))
    have hx3 : (w2.setCell ⟨W.heap.size, 2, none⟩ (.string t)).heap[W.heap.size]? = some (.cells #[.int .i64 (a : Int), .int .i64 (i : Int), .string t] 56 (0, 0)) := by
      have := Lib.heap_setCell_same (i := 2) hx2 (.string t)
      simpa using this
    have hB3 : Below W.heap.size W (w2.setCell ⟨W.heap.size, 2, none⟩ (.string t)) := hB2.setCell (Nat.le_refl _) _
    have f2 := frz_of hx2 2
    have d2 : w2.cell? ⟨W.heap.size, 2, none⟩ = some (.string t) := by rw [cell_of_row w2 _ _ _ _ _ hx2]; rfl
    have d0 : w2.cell? ⟨W.heap.size, 0, none⟩ = some (.int .i64 (a : Int)) := by rw [cell_of_row w2 _ _ _ _ _ hx2]; rfl
    have d1 : w2.cell? ⟨W.heap.size, 1, none⟩ = some (.int .i64 (i : Int)) := by rw [cell_of_row w2 _ _ _ _ _ hx2]; rfl
    obtain ⟨a0, a1, a2⟩ := (HH.out.below hB2).cells
    have hS3 := HH.out.below hB3
    have hlen := hS3.lists.len Try.underlying43 3
    rw [HML.out] at hlen
    have hup := HU.out (w2.setCell ⟨W.heap.size, 2, none⟩ (.string t)).drew (hB3.block _ HH.out.lists.lt)
    rw [← HM.out] at hup
    have HR : Hid (StM (putK (w2.setCell ⟨W.heap.size, 2, none⟩ (.string t)).drew bl es clock) g bm bl zv { S with ls := ladd (a, i, t) S.ls } ∧ Mv (fun k => k = bl) W (fun k => k = bl) (putK (w2.setCell ⟨W.heap.size, 2, none⟩ (.string t)).drew bl es clock)) := Lib.hid ⟨HP.out _ (hS3.keep (fun k _ => rfl)), (mv_below (fun k => k = bl) (Below.drew hB3)).trans (mv_putK (O := fun k => k = bl) _ rfl es clock)⟩
    clear hx1 hx2 hx3 hB2 hB3 hb2 hS3
    go_wp2_with fail
    go_region
    all_goals go_wp2_with fail
    all_goals go_ret
    all_goals exact ⟨rfl, HR.out⟩
theorem lnum_le (x : LK) (ls : List LK) : lnum x ls ≤ (ladd x ls).length := by
  have h := (List.getElem?_eq_some_iff.1 (ladd_at x ls)).1
  have := lnum_pos x ls
  omega
set_option maxRecDepth 100000 in
theorem ofComments_any (g bm bl : Nat) (zv : Value) (S : Sto) (P : Nat → Prop) (L : List ByteArray) (v : Value) (W : World) (h : StM W g bm bl zv S) (hst : StIn W P v L) (hP : ∀ k, P k → k ≠ bl) (hz : ∀ t ∈ L, Sz t) (hl : S.ls.length ≤ 1125899906842624) (hL : L.length ≤ 1048576) :
    Calls Try.prog 21 #[.pointer (some ⟨g, 0, none⟩), v] W fun e W' => e = .returned (.int .i64 (cnum L 0 S.ls : Int)) ∧ StM W' g bm bl zv { S with ls := cadd L 0 S.ls } ∧ Mv (fun k => k = bl) W (fun k => k = bl) W' := by
  obtain ⟨a, cap, rfl, hr⟩ := hst
  have HR : Hid (∀ (q : Nat) (t : ByteArray) (W' : World), L[q]? = some t → Mv (fun k => k = bl) W (fun k => k = bl) W' → ∃ g0 o0, a = some ⟨g0, o0, none⟩ ∧ W'.cell? ⟨g0, o0 + q, none⟩ = some (.string t)) := Lib.hid (fun q t W' ht hm => by
    have hq : q < L.length := (List.getElem?_eq_some_iff.1 ht).1
    obtain ⟨g0, o0, e, p1, p2, p3⟩ := hr (by omega)
    exact ⟨g0, o0, e, (keeps_cell (hm.keeps hP) p1 p2).trans (p3 q t ht)⟩)
  have HS := Lib.hid h
  have HZ := Lib.hid hz
  have HLS := Lib.hid hl
  clear hr h hz hP hl
  go_enter Try.func21, Try.ntmps21
  go_wp2_with fail
  go_loopg [5, 10] L.length (fun gn n i wr => ∃ (q m : Nat) (ls : List LK), gn = L.length - q ∧ q ≤ L.length ∧ i = .int .i64 (q : Int) ∧ n = .int .i64 (m : Int) ∧ Hid (StM wr g bm bl zv { S with ls := ls } ∧ Mv (fun k => k = bl) W (fun k => k = bl) wr) ∧ Hid (ls.length ≤ S.ls.length + q ∧ m ≤ ls.length) ∧ Hid (cnum (L.drop q) m ls = cnum L 0 S.ls ∧ cadd (L.drop q) m ls = cadd L 0 S.ls))
  case atStart => exact ⟨0, 0, S.ls, rfl, Nat.zero_le _, rfl, rfl, Lib.hid ⟨HS.out, Mv.refl _ _⟩, Lib.hid ⟨by omega, by omega⟩, Lib.hid ⟨by rw [List.drop_zero], by rw [List.drop_zero]⟩⟩
  case round =>
    obtain ⟨q, m, ls, hgn, hq, rfl, rfl, HW, HB, HC⟩ := hrel
    by_cases hlt : q < L.length
    · obtain ⟨t, ht⟩ : ∃ t, L[q]? = some t := ⟨_, List.getElem?_eq_getElem hlt⟩
      obtain ⟨g0, o0, rfl, ht0⟩ := HR.out q t wr ht HW.out.2
      have qn : (q : Int) < (L.length : Int) := by omega
      have q0 : (0 : Int) ≤ (q : Int) := by omega
      have HD : Hid (L.drop q = t :: L.drop (q + 1)) := Lib.hid (by rw [List.drop_eq_getElem_cons hlt]; congr 1; rw [List.getElem?_eq_getElem hlt] at ht; simpa using ht)
      have HTS := Lib.hid (HZ.out t (List.mem_of_getElem? ht))
      have hbm := HB.out
      have HO := Lib.hid (ofList_any g bm bl zv { S with ls := ls } m 0 t wr HW.out.1 (by have := HLS.out; omega) (by omega) HTS.out (by have := HLS.out; show ls.length ≤ _; omega))
      clear ht hbm
      go_wp2_with fail
      refine HO.out.mono ?_
      rintro e w2 ⟨rfl, h2, m2⟩
      have HW2 := Lib.hid (⟨h2, HW.out.2.trans m2⟩ : StM w2 g bm bl zv { S with ls := ladd (m, 0, t) ls } ∧ Mv (fun k => k = bl) W (fun k => k = bl) w2)
      clear h2 m2 ht0
      go_wp2_with fail
      go_roundg (L.length - (q + 1))
      case measure => omega
      case rel =>
        refine ⟨q + 1, lnum (m, 0, t) ls, ladd (m, 0, t) ls, rfl, hlt, by go_num, rfl, HW2, Lib.hid ⟨?_, lnum_le _ _⟩, Lib.hid ⟨?_, ?_⟩⟩
        · have := ladd_len (m, 0, t) ls
          have := HB.out
          omega
        · have := HC.out.1
          rw [HD.out] at this
          exact this
        · have := HC.out.2
          rw [HD.out] at this
          exact this
    · obtain rfl : q = L.length := by omega
      have HC2 : Hid (m = cnum L 0 S.ls ∧ ls = cadd L 0 S.ls) := Lib.hid (by have := HC.out; rw [List.drop_length] at this; exact this)
      clear HC HB hlt hq hgn
      go_wp2_with fail
      go_ret
      refine ⟨by rw [HC2.out.1]; rfl, ?_, HW.out.2⟩
      rw [← HC2.out.2]
      exact HW.out.1
theorem cnum_le : ∀ (l : List ByteArray) (a : Nat) (ls : List LK), a ≤ ls.length → cnum l a ls ≤ (cadd l a ls).length
  | [], a, ls, h => by simpa only [cnum, cadd] using h
  | t :: r, a, ls, h => by
    simp only [cnum, cadd]
    exact cnum_le r _ _ (lnum_le _ _)
theorem infoInt11 : (Try.prog.info? 3).map (fun i => (i.zero, i.size, i.bytes)) = some (some (.int .i64 0), 1, 8) := by kernel_rfl
/-- A size is appended, as one step of a region that draws. -/
theorem step_append_zs {w : World} {ops : Array Oper} {o : Oper} {a : Act} {K : Act → World → Prop} {Q : Exit → Act → World → Prop} {E : Prop} (hgd : o.guard = none) (s x : Operand)
    (ho : o.op = .call { callee := .builtin .append, args := #[s, x], argTypes := #[44, 44] }) (v : Value) (n : Nat) (xs : List Value) (hs : a.eval s = v) (hown : w.ownsRow 0 3 1 v n xs) (q : Nat) (u : Int) (hx : a.eval x = .slice (some ⟨q, 0, none⟩) 1 1)
    (hc : w.cell? ⟨q, 0, none⟩ = some (.int .i64 u)) (hn : n ≤ 1048576)
    (h : ∀ v' w', w'.ownsRow 0 3 1 v' (n + 1) (xs ++ [.int .i64 u]) → w.grownBy w' v.ownBlock → (v'.ownBlock = v.ownBlock ∨ ∀ g, v'.ownBlock = some g → w.heap.size ≤ g) → K (a.put o.dst v') w') :
    if Region.wanted o (yielded ops a.tmps) = true then Oper.wp Try.prog o a w K Q else E := by
  obtain ⟨i0, hi, hz0, hz1, hz2⟩ := info_parts infoInt11
  obtain ⟨v', w', hrun, h1, h2, h3⟩ := run_append_where (P := Try.prog) w 0 44 o.type 3 i0 _ 1 8 Try.underlying44 hi hz0 hz1 hz2 rfl (by decide) v n xs hown ⟨q, 0, none⟩ 1 1 [.int .i64 u] rfl
    (fun j y hj => by
      match j, hj with
      | 0, hj => simp only [List.getElem?_cons_zero, Option.some.injEq] at hj; subst hj; rw [show (⟨q, 0, none⟩ : Addr).add 0 = ⟨q, 0, none⟩ by simp [Addr.add]]; exact hc
      | j + 1, hj => simp at hj)
    (by intro y hy; simp only [List.mem_cons, List.not_mem_nil, or_false] at hy; subst hy; rfl) (by unfold maxLen; omega) (by omega) (Nat.zero_le _)
  have hw : Region.wanted o (yielded ops a.tmps) = true := by simp [Region.wanted, hgd]
  rw [if_pos hw]
  unfold Oper.wp
  simp [execOp, ho, resolve, invoke, builtin, hs, hx, hrun, Result.andThen]
  exact h v' w' h1 h2 h3
/-- The row of sizes has grown and is stored. -/
theorem StM.grow {W2 W3 w4 : World} {g bm bl : Nat} {zv v4 : Value} {S : Sto} (h : StM W2 g bm bl zv S) (hb : Below W2.heap.size W2 W3) (z : Nat) (hown : w4.ownsRow 0 3 1 v4 (S.zs.length + 1) ((S.zs.map fun (z : Nat) => Value.int .i64 (z : Int)) ++ [.int .i64 (z : Int)])) (hgr : W3.grownBy w4 zv.ownBlock)
    (hwh : v4.ownBlock = zv.ownBlock ∨ ∀ g, v4.ownBlock = some g → W3.heap.size ≤ g) :
    (w4.cell? ⟨g, 2, none⟩ = some zv ∧ w4.frozen? ⟨g, 2, none⟩ = false) ∧ StM (w4.setCell ⟨g, 2, none⟩ v4) g bm bl v4 { S with zs := S.zs ++ [z] } ∧ Mv (Fs g bm bl zv) W2 (Fs g bm bl v4) (w4.setCell ⟨g, 2, none⟩ v4) ∧ ∃ a c, v4 = .slice a (S.zs.length + 1) c := by
  have hl := h.live
  have hne := h.ne
  have bk : ∀ k, k < W2.heap.size → zv.ownBlock ≠ some k → w4.heap[k]? = W2.heap[k]? := fun k hk hn => (hgr.block k (Nat.lt_of_lt_of_le hk hb.size) (fun e => hn e.symm)).trans (hb.block k hk)
  have hg4 : w4.heap[g]? = some (.cells #[.map (some bm), .map (some bl), zv] 46 (0, 0)) := (bk g (hl g (.inl rfl)) hne.2.2.2.1).trans h.cell
  have h4 : ∀ k, v4.ownBlock = some k → zv.ownBlock = some k ∨ W2.heap.size ≤ k := fun k hk => by
    rcases hwh with e | e
    · exact .inl (by rw [← e]; exact hk)
    · exact .inr (Nat.le_trans hb.size (e k hk))
  have nw : ∀ k, k < W2.heap.size → zv.ownBlock ≠ some k → v4.ownBlock ≠ some k := fun k hk hn e => by
    rcases h4 k e with e2 | e2
    · exact hn e2
    · omega
  have sg : ∀ k, k ≠ g → (w4.setCell ⟨g, 2, none⟩ v4).heap[k]? = w4.heap[k]? := fun k hk => Below.heap_setCell _ _ _ _ hk
  have hm1 : bm ≠ g := fun e => hne.1 e.symm
  have hm2 : bl ≠ g := fun e => hne.2.1 e.symm
  refine ⟨⟨by rw [cell_of_row w4 _ _ _ _ _ hg4]; rfl, frz_of hg4 2⟩, ⟨?_, ?_, ?_, ?_, ⟨hne.1, hne.2.1, hne.2.2.1, nw g (hl g (.inl rfl)) hne.2.2.2.1, nw bm (hl bm (.inr (.inl rfl))) hne.2.2.2.2.1, nw bl (hl bl (.inr (.inr (.inl rfl)))) hne.2.2.2.2.2⟩, h.nd⟩, ⟨?_, ?_, ?_, ?_, ?_, ?_⟩, ?_⟩
  · have := Lib.heap_setCell_same (i := 2) hg4 v4
    simpa using this
  · exact h.nodes.keep ((sg bm hm1).trans (bk bm (hl bm (.inr (.inl rfl))) hne.2.2.2.2.1))
  · exact h.lists.keep ((sg bl hm2).trans (bk bl (hl bl (.inr (.inr (.inl rfl)))) hne.2.2.2.2.2))
  · show (w4.setCell ⟨g, 2, none⟩ v4).ownsRow 0 3 1 v4 (S.zs ++ [z]).length ((S.zs ++ [z]).map fun (z : Nat) => Value.int .i64 (z : Int))
    rw [List.length_append, List.map_append]
    exact ownsRow_setCell_other hown (a := ⟨g, 2, none⟩) (nw g (hl g (.inl rfl)) hne.2.2.2.1) v4
  · exact hgr.os.trans hb.os
  · exact hgr.tape.trans hb.tape
  · exact hgr.output.trans hb.output
  · have := hgr.size
    have := hb.size
    simp
    omega
  · intro k hk hn
    exact (sg k (fun e => hn (.inl e))).trans (bk k hk (fun e => hn (.inr (.inr (.inr e)))))
  · intro k hk
    rcases hk with e | e | e | e
    · exact .inl (.inl e)
    · exact .inl (.inr (.inl e))
    · exact .inl (.inr (.inr (.inl e)))
    · exact (h4 k e).imp (fun e2 => .inr (.inr (.inr e2))) id
  · obtain ⟨-, ⟨rfl, h0⟩ | ⟨b, cap, cur, rfl, -⟩⟩ := hown
    · omega
    · exact ⟨_, _, rfl⟩
end Go.Proofs.Ytkngnkonddpbeaa
