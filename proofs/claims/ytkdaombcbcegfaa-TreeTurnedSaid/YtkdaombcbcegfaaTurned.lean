/-
  The statement's own function at the node itself: a node with one part turned.
-/
import Derived.Test.YtkdaombcbcegfaaNdRow
import Derived.Test.YtkdaombcbcegfaaRefTop
import Derived.Laws.ResultCell
namespace Go.Proofs.Ytkdaombcbcegfaa
open Go.RowKit Go.PlainAid

theorem results_row_tmp {P : Program} {fn : Func} {p u : Tmp} {ty : TypeId} (h : fn.results = #[.cell p ty, .tmp u]) (tmps : Array Value) (w : World) (g : Nat) (t : TypeId) (cs : Array Value) (fr : Nat × Nat) (d : TypeDesc)
    (hp : tmps.getD p undef = .pointer (some ⟨g, 0, none⟩)) (hg : w.heap[g]? = some (.cells cs t fr))
    (hu : P.underlying ty = some d) (hd : (match d with | .struct _ | .array _ _ => true | _ => false) = true) (hi : (P.info? ty).map (·.size) = some cs.size) (x : Value) (hx : tmps.getD u undef = x) :
    (results fn tmps).run P w = .ok (.tuple #[.agg cs, x]) w := by
  subst hx
  rw [results_cell_tmp h, hp]
  simp [asAddr, run_loadVar_row w g t ty cs fr d hg hu hd hi, Result.andThen]
theorem alloc2_at (w : World) (o u : Obj) : ((w.alloc o).alloc u).heap[w.heap.size + 1]? = some u := by
  show ((w.heap.push o).push u)[w.heap.size + 1]? = _
  rw [Array.getElem?_push, if_pos (by simp)]
theorem alloc2_at0 (w : World) (o u : Obj) : ((w.alloc o).alloc u).heap[w.heap.size]? = some o := by
  show ((w.heap.push o).push u)[w.heap.size]? = _
  rw [Array.getElem?_push_lt (by simp), Array.getElem_push_eq]
/-- k ^ 1. -/
def kx (k : Int) : Int := bits .xor .i64 k 1
theorem kx_ne (k : Int) : kx k ≠ k := by
  have h : kx k = IntKind.i64.wrap (((BitVec.ofInt 64 k).toNat ^^^ 1 : Nat) : Int) := by
    show IntKind.i64.wrap ((BitVec.ofInt 64 k ^^^ BitVec.ofInt 64 1).toNat : Int) = _
    rw [BitVec.toNat_xor]
    rfl
  rw [h, IntKind.wrap_i64, BitVec.toNat_ofInt]
  have h2 : ∀ a : Nat, (a ^^^ 1) % 2 ≠ a % 2 := fun a e => by
    have h3 := Nat.testBit_xor a 1 0
    rw [Nat.testBit_zero, Nat.testBit_zero, Nat.testBit_zero, e] at h3
    cases h4 : decide (a % 2 = 1) <;> rw [h4] at h3 <;> simp at h3
  have h5 := h2 (k % ((2 ^ 64 : Nat) : Int)).toNat
  omega
theorem st_one9 (w : World) (x : ByteArray) : StAt (w.alloc (.cells #[.string x] 9)) (.slice (some ⟨w.heap.size, 0, none⟩) 1 1) [x] := by
  refine ⟨some ⟨w.heap.size, 0, none⟩, 1, rfl, fun _ => ⟨w.heap.size, 0, rfl, by simp, fun i y hy => ?_⟩⟩
  cases i with
  | zero =>
    simp only [List.getElem?_cons_zero, Option.some.injEq] at hy
    rw [World.cell?_alloc_new, ← hy]
    rfl
  | succ i => simp at hy
def zN : Array Value := #[.int .i64 0, .string ⟨#[]⟩, .slice none 0 0, .bool false, .bool false, .slice none 0 0, .slice none 0 0]
def nul : Nd := .mk 0 ⟨#[]⟩ [] false false [] []
theorem nul_in (W : World) (P : Nat → Prop) : NdIn W P zN.toList nul := NdIn.of_row 0 ⟨#[]⟩ false false ⟨none, 0, rfl, fun h => absurd h (by simp)⟩ ⟨none, 0, rfl, fun h => absurd h (by simp)⟩ (RowIn.nil _ _)
theorem row_one (w : World) (P : Nat → Prop) (hP : P w.heap.size) : RowIn (w.alloc (.cells zN 26)) P (.slice (some ⟨w.heap.size, 0, none⟩) 1 1) [nul] :=
  (OwnN.made (css := [zN.toList]) (T := [nul]) rfl (by
    intro i c y h1 h2
    cases i with
    | zero => simp at h1 h2; subst h1 h2; exact nul_in w P
    | succ i => simp at h1) zN (by simp) hP (by show 1 ≤ maxLen; decide) _ rfl).row
set_option maxRecDepth 100000 in
set_option maxHeartbeats 4000000 in
theorem turned_0_0 (k : Int) (t : ByteArray) (nl nn nt : Nat) (br bl : Bool) (la na ta2 : Option Addr) (lc nc tc : Nat) (w : World) :
    Calls Try.prog 22 #[.agg #[.int .i64 k, .string t, .slice la nl lc, .bool br, .bool bl, .slice na nn nc, .slice ta2 nt tc], .int .i64 0, .int .i64 0] w fun e w' => e = .returned (.tuple #[.agg #[.int .i64 (kx k), .string t, .slice la nl lc, .bool br, .bool bl, .slice na nn nc, .slice ta2 nt tc], .int .i64 1]) ∧ Below w.heap.size w w' := by
  go_enter Try.func22, Try.ntmps22
  go_wp2_with fail
  exact bodyPost_ret (results_row_tmp (p := 6) (u := 7) (ty := 26) rfl _ _ (w.heap.size + 1) 26 #[.int .i64 (kx k), .string t, .slice la nl lc, .bool br, .bool bl, .slice na nn nc, .slice ta2 nt tc] (0, 0) _ rfl (alloc2_at _ _ _) Try.underlying26 rfl infoNd7 _ rfl) rfl ⟨rfl, below2 _ _ _⟩
set_option maxRecDepth 100000 in
set_option maxHeartbeats 4000000 in
theorem turned_0_1 (k : Int) (t : ByteArray) (nl nn nt : Nat) (br bl : Bool) (la na ta2 : Option Addr) (lc nc tc : Nat) (h : t.size ≤ 1000) (w : World) :
    Calls Try.prog 22 #[.agg #[.int .i64 k, .string t, .slice la nl lc, .bool br, .bool bl, .slice na nn nc, .slice ta2 nt tc], .int .i64 0, .int .i64 1] w fun e w' => e = .returned (.tuple #[.agg #[.int .i64 k, .string (t ++ { data := #[120] }), .slice la nl lc, .bool br, .bool bl, .slice na nn nc, .slice ta2 nt tc], .int .i64 1]) ∧ Below w.heap.size w w' := by
  go_enter Try.func22, Try.ntmps22
  go_wp2_with fail
  exact bodyPost_ret (results_row_tmp (p := 6) (u := 7) (ty := 26) rfl _ _ (w.heap.size + 1) 26 #[.int .i64 k, .string (t ++ { data := #[120] }), .slice la nl lc, .bool br, .bool bl, .slice na nn nc, .slice ta2 nt tc] (0, 0) _ rfl (alloc2_at _ _ _) Try.underlying26 rfl infoNd7 _ rfl) rfl ⟨rfl, below2 _ _ _⟩
set_option maxRecDepth 100000 in
set_option maxHeartbeats 4000000 in
theorem turned_0_2 (k : Int) (t : ByteArray) (nl nn nt : Nat) (br bl : Bool) (la na ta2 : Option Addr) (lc nc tc : Nat) (w : World) :
    Calls Try.prog 22 #[.agg #[.int .i64 k, .string t, .slice la nl lc, .bool br, .bool bl, .slice na nn nc, .slice ta2 nt tc], .int .i64 0, .int .i64 2] w fun e w' => e = .returned (.tuple #[.agg #[.int .i64 k, .string t, .slice la nl lc, .bool br, .bool (!bl), .slice na nn nc, .slice ta2 nt tc], .int .i64 1]) ∧ Below w.heap.size w w' := by
  go_enter Try.func22, Try.ntmps22
  go_wp2_with fail
  exact bodyPost_ret (results_row_tmp (p := 6) (u := 7) (ty := 26) rfl _ _ (w.heap.size + 1) 26 #[.int .i64 k, .string t, .slice la nl lc, .bool br, .bool (!bl), .slice na nn nc, .slice ta2 nt tc] (0, 0) _ rfl (alloc2_at _ _ _) Try.underlying26 rfl infoNd7 _ rfl) rfl ⟨rfl, below2 _ _ _⟩
set_option maxRecDepth 100000 in
set_option maxHeartbeats 4000000 in
theorem turned_0_6 (k : Int) (t : ByteArray) (nl nn nt : Nat) (br bl : Bool) (la na ta2 : Option Addr) (lc nc tc : Nat) (w : World) :
    Calls Try.prog 22 #[.agg #[.int .i64 k, .string t, .slice la nl lc, .bool br, .bool bl, .slice na nn nc, .slice ta2 nt tc], .int .i64 0, .int .i64 6] w fun e w' => e = .returned (.tuple #[.agg #[.int .i64 k, .string t, .slice la nl lc, .bool (!br), .bool bl, .slice na nn nc, .slice ta2 nt tc], .int .i64 1]) ∧ Below w.heap.size w w' := by
  go_enter Try.func22, Try.ntmps22
  go_wp2_with fail
  exact bodyPost_ret (results_row_tmp (p := 6) (u := 7) (ty := 26) rfl _ _ (w.heap.size + 1) 26 #[.int .i64 k, .string t, .slice la nl lc, .bool (!br), .bool bl, .slice na nn nc, .slice ta2 nt tc] (0, 0) _ rfl (alloc2_at _ _ _) Try.underlying26 rfl infoNd7 _ rfl) rfl ⟨rfl, below2 _ _ _⟩
/-- What stands while rows are made: the node's own block, the result's block. -/
def Ab (w : World) (ca : Array Value) (W : World) : Prop := W.heap[w.heap.size]? = some (.cells ca 26) ∧ W.heap[w.heap.size + 1]? = some (.cells zN 26) ∧ w.heap.size + 2 ≤ W.heap.size ∧ Below w.heap.size w W
theorem ab_new (w : World) (ca : Array Value) : Ab w ca ((w.alloc (.cells ca 26)).alloc (.cells zN 26)) := ⟨alloc2_at0 _ _ _, alloc2_at _ _ _, by simp, below2 _ _ _⟩
theorem Ab.new {w : World} {ca : Array Value} {W : World} (h : Ab w ca W) (o : Obj) : Ab w ca (W.alloc o) := by
  obtain ⟨h1, h2, h3, h4⟩ := h
  have hb := below1 W o
  exact ⟨(hb.block _ (by omega)).trans h1, (hb.block _ (by omega)).trans h2, by simp; omega, h4.trans (hb.mono (by omega))⟩
theorem Ab.grown {w : World} {ca : Array Value} {W W' : World} (h : Ab w ca W) {row : Option Nat} (hg : W.grownBy W' row) (hr : ∀ k, row = some k → w.heap.size + 2 ≤ k) : Ab w ca W' := by
  obtain ⟨h1, h2, h3, h4⟩ := h
  have ne : ∀ k, k < w.heap.size + 2 → some k ≠ row := fun k hk e => by have := hr k e.symm; omega
  exact ⟨(hg.block _ (by omega) (ne _ (by omega))).trans h1, (hg.block _ (by omega) (ne _ (by omega))).trans h2, Nat.le_trans h3 hg.size, h4.grown hg (by omega) (fun k hk => by have := hr k hk; omega)⟩
theorem Ab.cells {w : World} {c0 c1 c2 c3 c4 c5 c6 : Value} {W : World} (h : Ab w #[c0, c1, c2, c3, c4, c5, c6] W) : (W.cell? ⟨w.heap.size, 0, none⟩ = some c0 ∧ W.cell? ⟨w.heap.size, 1, none⟩ = some c1 ∧ W.cell? ⟨w.heap.size, 2, none⟩ = some c2 ∧ W.cell? ⟨w.heap.size, 3, none⟩ = some c3 ∧ W.cell? ⟨w.heap.size, 4, none⟩ = some c4 ∧ W.cell? ⟨w.heap.size, 5, none⟩ = some c5 ∧ W.cell? ⟨w.heap.size, 6, none⟩ = some c6) ∧ ∀ j, W.frozen? ⟨w.heap.size, j, none⟩ = false := by
  refine ⟨⟨?_, ?_, ?_, ?_, ?_, ?_, ?_⟩, fun j => frz_of h.1 j⟩ <;> rw [cell_of_row W _ _ _ _ _ h.1] <;> rfl
theorem Ab.res {w : World} {ca : Array Value} {W : World} (h : Ab w ca W) (j : Nat) (v : Value) : (W.setCell ⟨w.heap.size, j, none⟩ v).heap[w.heap.size + 1]? = some (.cells zN 26) :=
  (Below.heap_setCell _ _ _ _ (by show w.heap.size + 1 ≠ w.heap.size; omega)).trans h.2.1
theorem txs_sl {W : World} {b : Nat} {v : Value} {L : List ByteArray} (h : Txs W b v L) : ∃ a c, v = .slice a L.length c := by
  obtain ⟨-, ⟨rfl, h0⟩ | ⟨g, cap, cur, rfl, -⟩⟩ := h
  · exact ⟨none, 0, by rw [h0]⟩
  · exact ⟨_, _, rfl⟩
theorem own_new (W : World) (P : Nat → Prop) (hP : P W.heap.size) : OwnN (W.alloc (.cells #[] 26)) P W.heap.size (.slice (some ⟨W.heap.size, 0, none⟩) 0 0) [] :=
  OwnN.made (css := []) (T := []) rfl (fun i c y h => by simp at h) #[] rfl hP (Nat.zero_le _) _ rfl
theorem Txs.set {W : World} {b : Nat} {v : Value} {L : List ByteArray} (h : Txs W b v L) {g : Nat} (hg : g < b) (j : Nat) (u : Value) : Txs (W.setCell ⟨g, j, none⟩ u) b v L :=
  ownsRow_setCell_other h (fun e => by have := (h.lt _ e).1; simp only at this; omega) u
theorem Txs.row {W : World} {b : Nat} {v : Value} {L : List ByteArray} (h : Txs W b v L) {g : Nat} (hg : g < b) (cs : Array Value) : Txs (W.setRow g cs) b v L :=
  h.kept (row := some g) ⟨rfl, rfl, rfl, by rw [setRow_size]; exact Nat.le_refl _, fun k _ hk => setRow_other _ _ _ _ (fun e => hk (by rw [e]))⟩ (by
    rcases hv : v.ownBlock with _ | k
    · exact .inl rfl
    · right; intro e; simp only [Option.some.injEq] at e; have := (h.lt _ hv).1; omega)
theorem below_row9 {B g : Nat} {w0 w : World} (hb : Below B w0 w) (hBg : B ≤ g) (cs : Array Value) : Below B w0 (w.setRow g cs) := by
  obtain ⟨h1, h2, h3, h4, h5⟩ := hb
  exact ⟨h1, h2, h3, by rw [setRow_size]; exact h4, fun b hb => by rw [setRow_other _ _ _ _ (by omega)]; exact h5 b hb⟩
theorem OwnN.setRow {W : World} {P : Nat → Prop} {base : Nat} {v : Value} {T : List Nd} (h : OwnN W P base v T) {b : Nat} (hb : ¬ P b) (cs : Array Value) : OwnN (W.setRow b cs) P base v T := by
  obtain ⟨css, h1, h2, h3, h4⟩ := h
  have hk : ∀ P' : Nat → Prop, (∀ g, P' g → P g) → Keeps P' W (W.setRow b cs) := fun P' hp => ⟨by rw [setRow_size]; exact Nat.le_refl _, fun g hg _ => setRow_other _ _ _ _ (fun e => hb (hp b (e ▸ hg)))⟩
  refine ⟨css, h1, fun i c x hc hx => (h2 i c x hc hx).keep (hk _ (fun g hg => hg.1)), h3.kept (row := some b) ⟨rfl, rfl, rfl, by rw [setRow_size]; exact Nat.le_refl _, fun k _ hk => setRow_other _ _ _ _ (fun e => hk (by rw [e]))⟩ (by
    rcases hv : v.ownBlock with _ | k
    · exact .inl rfl
    · right; intro e; simp only [Option.some.injEq] at e; subst e; exact hb (h4 _ hv)), h4⟩
set_option maxRecDepth 100000 in
set_option maxHeartbeats 4000000 in
theorem turned_0_3 (k : Int) (t : ByteArray) (nl nt : Nat) (br bl : Bool) (la na ta2 : Option Addr) (lc nc tc : Nat) (no : List ByteArray) (hl : no.length ≤ 1000) (w : World) (hs : StAt w (.slice na no.length nc) no) :
    Calls Try.prog 22 #[.agg #[.int .i64 k, .string t, .slice la nl lc, .bool br, .bool bl, .slice na no.length nc, .slice ta2 nt tc], .int .i64 0, .int .i64 3] w fun e w' => ∃ a c, e = .returned (.tuple #[.agg #[.int .i64 k, .string t, .slice la nl lc, .bool br, .bool bl, .slice a (no.length + 1) c, .slice ta2 nt tc], .int .i64 1]) ∧ Txs w' w.heap.size (.slice a (no.length + 1) c) (no ++ [⟨#[37]⟩]) ∧ Below w.heap.size w w' := by
  have HS := Lib.hid (fun W (hb : Below w.heap.size w W) => hs.below hb)
  have HA := Lib.hid (ab_new w #[.int .i64 k, .string t, .slice la nl lc, .bool br, .bool bl, .slice na no.length nc, .slice ta2 nt tc])
  have HA2 := Lib.hid (HA.out.new (.cells #[] 9))
  have HE : Hid (Txs (((w.alloc (.cells #[.int .i64 k, .string t, .slice la nl lc, .bool br, .bool bl, .slice na no.length nc, .slice ta2 nt tc] 26)).alloc (.cells zN 26)).alloc (.cells #[] 9)) (w.heap.size + 2) (.slice (some ⟨w.heap.size + 2, 0, none⟩) 0 0) []) := Lib.hid (by
    have h := txs_new ((w.alloc (.cells #[.int .i64 k, .string t, .slice la nl lc, .bool br, .bool bl, .slice na no.length nc, .slice ta2 nt tc] 26)).alloc (.cells zN 26)) 9 rfl
    rw [show ((w.alloc (.cells #[.int .i64 k, .string t, .slice la nl lc, .bool br, .bool bl, .slice na no.length nc, .slice ta2 nt tc] 26)).alloc (.cells zN 26)).heap.size = w.heap.size + 2 by simp] at h
    exact h)
  have HL1 : Hid (([] : List ByteArray).length + no.length ≤ 1048576) := Lib.hid (by simp; omega)
  have HL2 : Hid (([] ++ no : List ByteArray).length + ([⟨#[37]⟩] : List ByteArray).length ≤ 1048576) := Lib.hid (by simp; omega)
  clear hs hl
  go_enter Try.func22, Try.ntmps22
  go_wp2_with (first
    | (at_builtin; refine wpList_append_st rfl _ _ rfl (w.heap.size + 2) _ [] rfl HE.out _ no rfl (HS.out _ HA2.out.2.2.2) HL1.out HA2.out.2.2.1 ?_; intro v3 w3 hsk hgr; have HT3 := Lib.hid hsk; have HA3 := Lib.hid (HA2.out.grown hgr (fun k hk => (HE.out.lt k hk).1)); clear hsk hgr)
    | (at_builtin; refine wpList_append_st rfl _ _ rfl (w.heap.size + 2) _ ([] ++ no) rfl (HT3.out.bel (below1 _ _)) _ [⟨#[37]⟩] rfl (st_one9 _ _) HL2.out (HA3.out.new _).2.2.1 ?_; intro v4 w4 hsk hgr; have HT4 := Lib.hid hsk; have HA4 := Lib.hid ((HA3.out.new _).grown hgr (fun k hk => (HT3.out.lt k hk).1)); clear hsk hgr; obtain ⟨a4, c4, rfl⟩ := txs_sl HT4.out; obtain ⟨⟨b0, b1, b2, b3, b4, b5, b6⟩, bf⟩ := HA4.out.cells)
    | (refine wpList_store_nd (w.heap.size + 1) _ _ rfl rfl (HA4.out.res _ _) rfl rfl rfl ?_))
  have e1 : ([] ++ no ++ [⟨#[37]⟩] : List ByteArray).length = no.length + 1 := by simp
  try rw [e1]
  have HT5 := HT4.out
  rw [e1, List.nil_append] at HT5
  exact bodyPost_ret (results_row_tmp (p := 6) (u := 7) (ty := 26) rfl _ _ (w.heap.size + 1) 26 #[.int .i64 k, .string t, .slice la nl lc, .bool br, .bool bl, .slice a4 (no.length + 1) c4, .slice ta2 nt tc] (0, 0) _ rfl (setRow_heap _ _ _ _ _ _ (HA4.out.res _ _)) Try.underlying26 rfl infoNd7 _ rfl) rfl ⟨a4, c4, rfl, txs_weak ((HT5.set (by omega) _ _).row (by omega) _) (by omega), below_row9 (HA4.out.2.2.2.setCell (Nat.le_refl _) _) (by omega) _⟩
set_option maxRecDepth 100000 in
set_option maxHeartbeats 4000000 in
theorem turned_0_4 (k : Int) (t : ByteArray) (nl nn : Nat) (br bl : Bool) (la na ta2 : Option Addr) (lc nc tc : Nat) (ta : List ByteArray) (hl : ta.length ≤ 1000) (w : World) (hs : StAt w (.slice ta2 ta.length tc) ta) :
    Calls Try.prog 22 #[.agg #[.int .i64 k, .string t, .slice la nl lc, .bool br, .bool bl, .slice na nn nc, .slice ta2 ta.length tc], .int .i64 0, .int .i64 4] w fun e w' => ∃ a c, e = .returned (.tuple #[.agg #[.int .i64 k, .string t, .slice la nl lc, .bool br, .bool bl, .slice na nn nc, .slice a (ta.length + 1) c], .int .i64 1]) ∧ Txs w' w.heap.size (.slice a (ta.length + 1) c) (ta ++ [⟨#[37]⟩]) ∧ Below w.heap.size w w' := by
  have HS := Lib.hid (fun W (hb : Below w.heap.size w W) => hs.below hb)
  have HA := Lib.hid (ab_new w #[.int .i64 k, .string t, .slice la nl lc, .bool br, .bool bl, .slice na nn nc, .slice ta2 ta.length tc])
  have HA2 := Lib.hid (HA.out.new (.cells #[] 9))
  have HE : Hid (Txs (((w.alloc (.cells #[.int .i64 k, .string t, .slice la nl lc, .bool br, .bool bl, .slice na nn nc, .slice ta2 ta.length tc] 26)).alloc (.cells zN 26)).alloc (.cells #[] 9)) (w.heap.size + 2) (.slice (some ⟨w.heap.size + 2, 0, none⟩) 0 0) []) := Lib.hid (by
    have h := txs_new ((w.alloc (.cells #[.int .i64 k, .string t, .slice la nl lc, .bool br, .bool bl, .slice na nn nc, .slice ta2 ta.length tc] 26)).alloc (.cells zN 26)) 9 rfl
    rw [show ((w.alloc (.cells #[.int .i64 k, .string t, .slice la nl lc, .bool br, .bool bl, .slice na nn nc, .slice ta2 ta.length tc] 26)).alloc (.cells zN 26)).heap.size = w.heap.size + 2 by simp] at h
    exact h)
  have HL1 : Hid (([] : List ByteArray).length + ta.length ≤ 1048576) := Lib.hid (by simp; omega)
  have HL2 : Hid (([] ++ ta : List ByteArray).length + ([⟨#[37]⟩] : List ByteArray).length ≤ 1048576) := Lib.hid (by simp; omega)
  clear hs hl
  go_enter Try.func22, Try.ntmps22
  go_wp2_with (first
    | (at_builtin; refine wpList_append_st rfl _ _ rfl (w.heap.size + 2) _ [] rfl HE.out _ ta rfl (HS.out _ HA2.out.2.2.2) HL1.out HA2.out.2.2.1 ?_; intro v3 w3 hsk hgr; have HT3 := Lib.hid hsk; have HA3 := Lib.hid (HA2.out.grown hgr (fun k hk => (HE.out.lt k hk).1)); clear hsk hgr)
    | (at_builtin; refine wpList_append_st rfl _ _ rfl (w.heap.size + 2) _ ([] ++ ta) rfl (HT3.out.bel (below1 _ _)) _ [⟨#[37]⟩] rfl (st_one9 _ _) HL2.out (HA3.out.new _).2.2.1 ?_; intro v4 w4 hsk hgr; have HT4 := Lib.hid hsk; have HA4 := Lib.hid ((HA3.out.new _).grown hgr (fun k hk => (HT3.out.lt k hk).1)); clear hsk hgr; obtain ⟨a4, c4, rfl⟩ := txs_sl HT4.out; obtain ⟨⟨b0, b1, b2, b3, b4, b5, b6⟩, bf⟩ := HA4.out.cells)
    | (refine wpList_store_nd (w.heap.size + 1) _ _ rfl rfl (HA4.out.res _ _) rfl rfl rfl ?_))
  have e1 : ([] ++ ta ++ [⟨#[37]⟩] : List ByteArray).length = ta.length + 1 := by simp
  try rw [e1]
  have HT5 := HT4.out
  rw [e1, List.nil_append] at HT5
  exact bodyPost_ret (results_row_tmp (p := 6) (u := 7) (ty := 26) rfl _ _ (w.heap.size + 1) 26 #[.int .i64 k, .string t, .slice la nl lc, .bool br, .bool bl, .slice na nn nc, .slice a4 (ta.length + 1) c4] (0, 0) _ rfl (setRow_heap _ _ _ _ _ _ (HA4.out.res _ _)) Try.underlying26 rfl infoNd7 _ rfl) rfl ⟨a4, c4, rfl, txs_weak ((HT5.set (by omega) _ _).row (by omega) _) (by omega), below_row9 (HA4.out.2.2.2.setCell (Nat.le_refl _) _) (by omega) _⟩
set_option maxRecDepth 100000 in
set_option maxHeartbeats 4000000 in
theorem turned_0_5 (P : Nat → Prop) (k : Int) (t : ByteArray) (nn nt : Nat) (br bl : Bool) (la na ta2 : Option Addr) (lc nc tc : Nat) (l : List Nd) (hl : l.length ≤ 5000) (w : World) (hs : RowIn w P (.slice la l.length lc) l) (hP : ∀ g, w.heap.size + 2 ≤ g → P g) (hP0 : ¬ P w.heap.size) (hP1 : ¬ P (w.heap.size + 1)) :
    Calls Try.prog 22 #[.agg #[.int .i64 k, .string t, .slice la l.length lc, .bool br, .bool bl, .slice na nn nc, .slice ta2 nt tc], .int .i64 0, .int .i64 5] w fun e w' => ∃ a c, e = .returned (.tuple #[.agg #[.int .i64 k, .string t, .slice a (l.length + 1) c, .bool br, .bool bl, .slice na nn nc, .slice ta2 nt tc], .int .i64 1]) ∧ RowIn w' P (.slice a (l.length + 1) c) (l ++ [nul]) ∧ Below w.heap.size w w' := by
  have HS : Hid (∀ W, Below w.heap.size w W → RowIn W (fun g => P g ∧ (Value.slice (some ⟨w.heap.size + 2, 0, none⟩) 0 0).ownBlock ≠ some g) (.slice la l.length lc) l) := Lib.hid (fun W hb => by
    obtain ⟨cs, h1, h2⟩ := hs
    have hw : ∀ g, P g → g < w.heap.size → P g ∧ (Value.slice (some ⟨w.heap.size + 2, 0, none⟩) 0 0).ownBlock ≠ some g := fun g hg hlt => ⟨hg, by simp only [Value.ownBlock, ne_eq, Option.some.injEq]; omega⟩
    exact ⟨cs, (h1.weak hw).keep (keeps_below hb), fun i x hx => ((h2 i x hx).weak hw).keep (keeps_below hb)⟩)
  have HP := Lib.hid hP
  have HA := Lib.hid (ab_new w #[.int .i64 k, .string t, .slice la l.length lc, .bool br, .bool bl, .slice na nn nc, .slice ta2 nt tc])
  have HA2 := Lib.hid (HA.out.new (.cells #[] 26))
  have HE : Hid (OwnN (((w.alloc (.cells #[.int .i64 k, .string t, .slice la l.length lc, .bool br, .bool bl, .slice na nn nc, .slice ta2 nt tc] 26)).alloc (.cells zN 26)).alloc (.cells #[] 26)) P (w.heap.size + 2) (.slice (some ⟨w.heap.size + 2, 0, none⟩) 0 0) []) := Lib.hid (by
    have h := own_new ((w.alloc (.cells #[.int .i64 k, .string t, .slice la l.length lc, .bool br, .bool bl, .slice na nn nc, .slice ta2 nt tc] 26)).alloc (.cells zN 26)) P (hP _ (by simp))
    rw [show ((w.alloc (.cells #[.int .i64 k, .string t, .slice la l.length lc, .bool br, .bool bl, .slice na nn nc, .slice ta2 nt tc] 26)).alloc (.cells zN 26)).heap.size = w.heap.size + 2 by simp] at h
    exact h)
  have HL1 : Hid (([] : List Nd).length + l.length ≤ 1048576) := Lib.hid (by simp; omega)
  have HL2 : Hid (([] ++ l : List Nd).length + ([nul] : List Nd).length ≤ 1048576) := Lib.hid (by simp; omega)
  have HP0 := Lib.hid hP0
  have HP1 := Lib.hid hP1
  clear hs hl hP hP0 hP1
  go_enter Try.func22, Try.ntmps22
  go_wp2_with (first
    | (at_builtin; refine wpList_append_nd rfl _ _ rfl P (w.heap.size + 2) _ [] rfl HE.out _ l rfl (HS.out _ HA2.out.2.2.2) HL1.out HA2.out.2.2.1 (fun g hg => HP.out g (Nat.le_trans HA2.out.2.2.1 hg)) ?_; intro v3 w3 hsk hgr hat; have HT3 := Lib.hid hsk; have HA3 := Lib.hid (HA2.out.grown hgr (fun k hk => (HE.out.lt k hk).1)); clear hsk hgr hat)
    | (at_builtin; refine wpList_append_nd rfl _ _ rfl P (w.heap.size + 2) _ ([] ++ l) rfl (HT3.out.below (below1 _ _)) _ [nul] rfl (row_one _ _ ⟨HP.out _ HA3.out.2.2.1, fun e => by have := (HT3.out.lt _ e).2; omega⟩) HL2.out (HA3.out.new _).2.2.1 (fun g hg => HP.out g (Nat.le_trans (HA3.out.new _).2.2.1 hg)) ?_; intro v4 w4 hsk hgr hat; have HT4 := Lib.hid hsk; have HA4 := Lib.hid ((HA3.out.new _).grown hgr (fun k hk => (HT3.out.lt k hk).1)); clear hsk hgr hat; obtain ⟨a4, c4, rfl⟩ := HT4.out.slice; obtain ⟨⟨b0, b1, b2, b3, b4, b5, b6⟩, bf⟩ := HA4.out.cells)
    | (refine wpList_store_nd (w.heap.size + 1) _ _ rfl rfl (HA4.out.res _ _) rfl rfl rfl ?_))
  have e1 : ([] ++ l ++ [nul] : List Nd).length = l.length + 1 := by simp
  try rw [e1]
  have HT5 := HT4.out
  rw [e1, List.nil_append] at HT5
  exact bodyPost_ret (results_row_tmp (p := 6) (u := 7) (ty := 26) rfl _ _ (w.heap.size + 1) 26 #[.int .i64 k, .string t, .slice a4 (l.length + 1) c4, .bool br, .bool bl, .slice na nn nc, .slice ta2 nt tc] (0, 0) _ rfl (setRow_heap _ _ _ _ _ _ (HA4.out.res _ _)) Try.underlying26 rfl infoNd7 _ rfl) rfl ⟨a4, c4, rfl, ((HT5.set HP0.out _ _).setRow HP1.out _).row, below_row9 (HA4.out.2.2.2.setCell (Nat.le_refl _) _) (by omega) _⟩
end Go.Proofs.Ytkdaombcbcegfaa
