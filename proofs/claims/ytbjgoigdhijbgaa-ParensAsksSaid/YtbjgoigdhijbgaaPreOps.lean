/-
  THE PROGRAM's Binary, Side, Prefix, Left, Right.
-/
import Derived.Test.YtbjgoigdhijbgaaRefOps
import Derived.Great.BuildSlice
namespace Go.Proofs.Ytbjgoigdhijbgaa
open Go.RowKit Go.PlainAid

/-- The program's operators, in its own order, with their levels. -/
def opL : List (List UInt8 × Nat) :=
  [([58, 58], 1), ([124], 2), ([61], 3), ([33], 3), ([111, 114, 101, 108, 115, 101], 4), ([97, 110, 100, 97, 108, 115, 111], 5), ([61, 61], 6), ([47, 61], 6),
   ([61, 60], 6), ([60], 6), ([62, 61], 6), ([62], 6), ([61, 58, 61], 6), ([61, 47, 61], 6), ([43, 43], 7), ([45, 45], 7),
   ([43], 8), ([45], 8), ([98, 111, 114], 8), ([98, 120, 111, 114], 8), ([98, 115, 108], 8), ([98, 115, 114], 8), ([111, 114], 8), ([120, 111, 114], 8),
   ([42], 9), ([47], 9), ([100, 105, 118], 9), ([114, 101, 109], 9), ([98, 97, 110, 100], 9), ([97, 110, 100], 9)]
theorem opL_len : opL.length = 30 := rfl
def opC : Array Value := (opL.flatMap fun p => [Value.string ⟨p.1.toArray⟩, Value.int .i64 (p.2 : Int)]).toArray
theorem fm_at {α : Type} (g : α → List Value) (hg : ∀ p, (g p).length = 2) : ∀ (L : List α) (k : Nat) (p : α), L[k]? = some p → ((L.flatMap g).drop (k * 2)).take 2 = g p
  | [], _, _, h => by simp at h
  | q :: t, 0, p, h => by
    simp only [List.getElem?_cons_zero, Option.some.injEq] at h
    subst h
    rw [Nat.zero_mul, List.drop_zero, List.flatMap_cons, List.take_append_of_le_length (by rw [hg]; exact Nat.le_refl _), List.take_of_length_le (by rw [hg]; exact Nat.le_refl _)]
  | q :: t, k + 1, p, h => by
    simp only [List.getElem?_cons_succ] at h
    have hd : ((g q) ++ t.flatMap g).drop ((k + 1) * 2) = (t.flatMap g).drop (k * 2) := by
      have := List.drop_append (l₁ := g q) (l₂ := t.flatMap g) (i := (k + 1) * 2)
      rw [this, List.drop_of_length_le (by rw [hg]; omega), List.nil_append, hg]
      congr 1
      omega
    rw [List.flatMap_cons, hd]
    exact fm_at g hg t k p h
theorem opC_at (k : Nat) (x : List UInt8) (n : Nat) (h : opL[k]? = some (x, n)) : opC.extract (k * 2) (k * 2 + 2) = #[.string ⟨x.toArray⟩, .int .i64 (n : Int)] := by
  have := fm_at (fun p : List UInt8 × Nat => [Value.string ⟨p.1.toArray⟩, Value.int .i64 (p.2 : Int)]) (fun _ => rfl) opL k (x, n) h
  unfold opC
  rw [← Array.toList_inj, Array.toList_extract, List.extract_eq_take_drop, show k * 2 + 2 - k * 2 = 2 by omega]
  exact this
/-- The first of those rows that has this text. -/
def bq : List (List UInt8 × Nat) → List UInt8 → Nat
  | [], _ => 0
  | p :: t, x => if p.1 == x then p.2 else bq t x
theorem bq_drop {k : Nat} {x : List UInt8} {n : Nat} (h : opL[k]? = some (x, n)) (y : List UInt8) : bq (opL.drop k) y = if x == y then n else bq (opL.drop (k + 1)) y := by
  have hi : k < opL.length := (List.getElem?_eq_some_iff.1 h).1
  have h2 : opL[k] = (x, n) := (List.getElem?_eq_some_iff.1 h).2
  rw [List.drop_eq_getElem_cons hi, h2]
  rfl
theorem bq_app (L M : List (List UInt8 × Nat)) (x : List UInt8) : bq (L ++ M) x = if (L.map Prod.fst).contains x then bq L x else bq M x := by
  induction L with
  | nil => rfl
  | cons p t ih =>
    simp only [List.cons_append, bq, List.map_cons, List.contains_cons]
    rw [ih, BEq.comm (a := x)]
    cases p.1 == x
    · rw [Bool.false_or]; simp only [Bool.false_eq_true, if_false]
    · rw [Bool.true_or]; rfl
theorem bq_row (r : List (List UInt8)) (n : Nat) (x : List UInt8) : r.contains x = true → bq (r.map fun y => (y, n)) x = n := by
  induction r with
  | nil => intro h; simp at h
  | cons y t ih =>
    intro h
    simp only [List.map_cons, bq]
    cases hc : (y == x)
    · simp only [Bool.false_eq_true, if_false]
      refine ih ?_
      rw [List.contains_cons, BEq.comm (a := x), hc, Bool.false_or] at h
      exact h
    · rfl
/-- Row by row. -/
def opR : List (List (List UInt8)) → Nat → List (List UInt8 × Nat)
  | [], _ => []
  | r :: t, i => r.map (fun y => (y, i)) ++ opR t (i + 1)
theorem bq_bnr : ∀ (T : List (List (List UInt8))) (i : Nat) (x : List UInt8), bq (opR T i) x = bnr T i x
  | [], _, _ => rfl
  | r :: t, i, x => by
    have hm : (r.map (fun y => (y, i))).map Prod.fst = r := by rw [List.map_map]; exact List.map_id' r
    simp only [opR, bnr]
    rw [bq_app, hm, bq_bnr t (i + 1) x]
    cases hc : r.contains x
    · rfl
    · rw [if_pos rfl, if_pos rfl]; exact bq_row r i x hc
theorem opR_is : opR opTab 0 = opL := rfl
theorem bq_is (x : List UInt8) : bq opL x = bn x := by rw [← opR_is]; exact bq_bnr opTab 0 x
theorem infoOp : (Try.prog.info? 45).map (·.size) = some 2 := by kernel_rfl
theorem infoOps : (Try.prog.info? 46).map (·.size) = some opC.size := by kernel_rfl
theorem run_index_ag2 {P : Program} (w : World) (t e : TypeId) (n k : Nat) (cs : Array Value) (h : P.underlying t = some (.array n e)) (he : (isAgg e).run P w = .ok true w) (hi : (P.info? e).map (·.size) = some 2) (hk : k < n) :
    (Instr.index t (.agg cs) (.int .i64 k)).run P w = .ok (.agg (cs.extract (k * 2) (k * 2 + 2))) w := by
  have hk' : (0 : Int) ≤ (k : Int) ∧ (k : Int) < (n : Int) := by omega
  cases hq : P.info? e with
  | none => simp [hq] at hi
  | some i =>
    have hs : i.size = 2 := by simpa [hq] using hi
    simp [Instr.index, run_underlying h, asIntOf, part, he, sizeOf, typeInfo, hq, hs, hk]
theorem isAgg_op (w : World) : (isAgg 45).run Try.prog w = .ok true w := by simp [isAgg, run_underlying Try.underlying45]
theorem alloc_at9 (w : World) (o : Obj) : (w.alloc o).heap[w.heap.size]? = some o := by show (w.heap.push o)[w.heap.size]? = _; rw [Array.getElem?_push, if_pos rfl]
theorem below_setRow9 {B g : Nat} {w0 w : World} (hb : Below B w0 w) (hBg : B ≤ g) (cs : Array Value) : Below B w0 (w.setRow g cs) := by
  obtain ⟨h1, h2, h3, h4, h5⟩ := hb
  exact ⟨h1, h2, h3, by rw [setRow_size]; exact h4, fun b hb => by rw [setRow_other _ _ _ _ (by omega)]; exact h5 b hb⟩
def opZ : Array Value := ((List.replicate 30 [Value.string ⟨#[]⟩, Value.int .i64 0]).flatten).toArray
theorem wpList_runTo9 {P : Program} {ops : Array Oper} {rest : List Oper} {o : Oper} {a : Act} {w : World} {Q : Exit → Act → World → Prop} (hg : o.guard = none) (dst : Option Tmp) (hdst : o.dst = dst)
    (v : Value) (w' : World) (hrun : (execOp a.eval o).run P w = .ok (.value v) w')
    (h : wpList P ops Q rest (a.put dst v) w') : wpList P ops Q (o :: rest) a w := by
  subst hdst
  refine wpList_plain hg fun K hK => ?_
  unfold Oper.wp
  rw [hrun, Oper.upon_value]
  exact hK _ _ h
set_option maxRecDepth 100000 in
theorem pops_any (w : World) :
    Calls Try.prog 24 #[] w fun e w' => e = .returned (.agg opC) ∧ Below w.heap.size w w' := by
  go_enter Try.func24, Try.ntmps24
  apply wp_seq_k; intro K1 hK1
  apply wp_region_lit
  refine wpList_runTo9 rfl (some 0) rfl (.pointer (some ⟨w.heap.size, 0, none⟩)) (w.alloc (.cells opZ 46)) (by kernel_rfl) ?_
  apply wpList_nil
  apply hK1
  apply wp_seq_k; intro K2 hK2
  apply wp_region_lit
  refine wpList_buildTo rfl _ _ rfl (some 1) rfl #[.string ⟨#[58, 58]⟩, .int .i64 1] (by as_aux_lemma => kernel_rfl) ?_
  refine wpList_buildTo rfl _ _ rfl (some 2) rfl #[.string ⟨#[124]⟩, .int .i64 2] (by as_aux_lemma => kernel_rfl) ?_
  refine wpList_buildTo rfl _ _ rfl (some 3) rfl #[.string ⟨#[61]⟩, .int .i64 3] (by as_aux_lemma => kernel_rfl) ?_
  refine wpList_buildTo rfl _ _ rfl (some 4) rfl #[.string ⟨#[33]⟩, .int .i64 3] (by as_aux_lemma => kernel_rfl) ?_
  refine wpList_buildTo rfl _ _ rfl (some 5) rfl #[.string ⟨#[111, 114, 101, 108, 115, 101]⟩, .int .i64 4] (by as_aux_lemma => kernel_rfl) ?_
  refine wpList_buildTo rfl _ _ rfl (some 6) rfl #[.string ⟨#[97, 110, 100, 97, 108, 115, 111]⟩, .int .i64 5] (by as_aux_lemma => kernel_rfl) ?_
  refine wpList_buildTo rfl _ _ rfl (some 7) rfl #[.string ⟨#[61, 61]⟩, .int .i64 6] (by as_aux_lemma => kernel_rfl) ?_
  refine wpList_buildTo rfl _ _ rfl (some 8) rfl #[.string ⟨#[47, 61]⟩, .int .i64 6] (by as_aux_lemma => kernel_rfl) ?_
  refine wpList_buildTo rfl _ _ rfl (some 9) rfl #[.string ⟨#[61, 60]⟩, .int .i64 6] (by as_aux_lemma => kernel_rfl) ?_
  refine wpList_buildTo rfl _ _ rfl (some 10) rfl #[.string ⟨#[60]⟩, .int .i64 6] (by as_aux_lemma => kernel_rfl) ?_
  refine wpList_buildTo rfl _ _ rfl (some 11) rfl #[.string ⟨#[62, 61]⟩, .int .i64 6] (by as_aux_lemma => kernel_rfl) ?_
  refine wpList_buildTo rfl _ _ rfl (some 12) rfl #[.string ⟨#[62]⟩, .int .i64 6] (by as_aux_lemma => kernel_rfl) ?_
  refine wpList_buildTo rfl _ _ rfl (some 13) rfl #[.string ⟨#[61, 58, 61]⟩, .int .i64 6] (by as_aux_lemma => kernel_rfl) ?_
  refine wpList_buildTo rfl _ _ rfl (some 14) rfl #[.string ⟨#[61, 47, 61]⟩, .int .i64 6] (by as_aux_lemma => kernel_rfl) ?_
  refine wpList_buildTo rfl _ _ rfl (some 15) rfl #[.string ⟨#[43, 43]⟩, .int .i64 7] (by as_aux_lemma => kernel_rfl) ?_
  refine wpList_buildTo rfl _ _ rfl (some 16) rfl #[.string ⟨#[45, 45]⟩, .int .i64 7] (by as_aux_lemma => kernel_rfl) ?_
  refine wpList_buildTo rfl _ _ rfl (some 17) rfl #[.string ⟨#[43]⟩, .int .i64 8] (by as_aux_lemma => kernel_rfl) ?_
  refine wpList_buildTo rfl _ _ rfl (some 18) rfl #[.string ⟨#[45]⟩, .int .i64 8] (by as_aux_lemma => kernel_rfl) ?_
  refine wpList_buildTo rfl _ _ rfl (some 19) rfl #[.string ⟨#[98, 111, 114]⟩, .int .i64 8] (by as_aux_lemma => kernel_rfl) ?_
  refine wpList_buildTo rfl _ _ rfl (some 20) rfl #[.string ⟨#[98, 120, 111, 114]⟩, .int .i64 8] (by as_aux_lemma => kernel_rfl) ?_
  refine wpList_buildTo rfl _ _ rfl (some 21) rfl #[.string ⟨#[98, 115, 108]⟩, .int .i64 8] (by as_aux_lemma => kernel_rfl) ?_
  refine wpList_buildTo rfl _ _ rfl (some 22) rfl #[.string ⟨#[98, 115, 114]⟩, .int .i64 8] (by as_aux_lemma => kernel_rfl) ?_
  refine wpList_buildTo rfl _ _ rfl (some 23) rfl #[.string ⟨#[111, 114]⟩, .int .i64 8] (by as_aux_lemma => kernel_rfl) ?_
  refine wpList_buildTo rfl _ _ rfl (some 24) rfl #[.string ⟨#[120, 111, 114]⟩, .int .i64 8] (by as_aux_lemma => kernel_rfl) ?_
  refine wpList_buildTo rfl _ _ rfl (some 25) rfl #[.string ⟨#[42]⟩, .int .i64 9] (by as_aux_lemma => kernel_rfl) ?_
  refine wpList_buildTo rfl _ _ rfl (some 26) rfl #[.string ⟨#[47]⟩, .int .i64 9] (by as_aux_lemma => kernel_rfl) ?_
  refine wpList_buildTo rfl _ _ rfl (some 27) rfl #[.string ⟨#[100, 105, 118]⟩, .int .i64 9] (by as_aux_lemma => kernel_rfl) ?_
  refine wpList_buildTo rfl _ _ rfl (some 28) rfl #[.string ⟨#[114, 101, 109]⟩, .int .i64 9] (by as_aux_lemma => kernel_rfl) ?_
  refine wpList_buildTo rfl _ _ rfl (some 29) rfl #[.string ⟨#[98, 97, 110, 100]⟩, .int .i64 9] (by as_aux_lemma => kernel_rfl) ?_
  refine wpList_buildTo rfl _ _ rfl (some 30) rfl #[.string ⟨#[97, 110, 100]⟩, .int .i64 9] (by as_aux_lemma => kernel_rfl) ?_
  refine wpList_buildTo rfl _ _ rfl (some 31) rfl opC (by as_aux_lemma => kernel_rfl) ?_
  refine wpList_store_rowTo rfl _ _ _ rfl rfl w.heap.size opC (by as_aux_lemma => kernel_rfl) (by as_aux_lemma => kernel_rfl) 46 opZ (alloc_at9 w _) infoOps rfl (by kernel_rfl) ?_
  apply wpList_nil
  apply hK2
  apply wp_ret
  exact bodyPost_ret (v := .agg opC) (results_cell_row (p := 0) (ty := 46) rfl _ _ w.heap.size 46 opC (0, 0) _ (by as_aux_lemma => kernel_rfl) (setRow_heap _ _ _ _ _ _ (alloc_at9 w _)) Try.underlying46 rfl infoOps) rfl ⟨rfl, below_setRow9 (below1 w _) (Nat.le_refl _) _⟩
def sdC : Array Value := #[Value.int .i64 0, .int .i64 2, .int .i64 1, .int .i64 2, .int .i64 2, .int .i64 2, .int .i64 3, .int .i64 2, .int .i64 1, .int .i64 1]
set_option maxRecDepth 100000 in
theorem pbin_any (s : ByteArray) (w : World) :
    Calls Try.prog 22 #[.string s] w fun e w' => e = .returned (.int .i64 (bn s.toList : Int)) ∧ Below w.heap.size w w' := by
  have H := Lib.hid (fun W => pops_any W)
  obtain ⟨R, hR⟩ : ∃ R, R = bn s.toList := ⟨_, rfl⟩
  rw [← hR]
  have HR := Lib.hid hR
  clear hR
  obtain ⟨C, hC⟩ : ∃ C, C = opC := ⟨_, rfl⟩
  rw [← hC] at H
  have HC := Lib.hid hC
  clear hC
  go_enter Try.func22, Try.ntmps22
  go_wp2_with fail
  refine (H.out _).mono ?_
  rintro e w1 ⟨rfl, hb1⟩
  have B1 := Lib.hid hb1
  clear hb1
  go_wp2_with fail
  go_loopg [6] 30 (fun gn i wr => ∃ (k : Nat), gn = 30 - k ∧ k ≤ 30 ∧ i = .int .i64 (k : Int) ∧ Hid (R = bq (opL.drop k) s.toList) ∧ Hid (Below w.heap.size w wr))
  case atStart => exact ⟨0, rfl, Nat.zero_le _, rfl, Lib.hid (by rw [HR.out, List.drop_zero, bq_is]), B1⟩
  case round =>
    obtain ⟨k, hgn, hk, rfl, HK, HB⟩ := hrel
    by_cases hlt : k < 30
    · obtain ⟨⟨x, n⟩, hx⟩ : ∃ p, opL[k]? = some p := ⟨_, List.getElem?_eq_getElem (show k < opL.length from hlt)⟩
      have hix := fun W : World => run_index_ag2 (P := Try.prog) W 46 45 30 k C Try.underlying46 (isAgg_op W) infoOp hlt
      rw [HC.out, opC_at k x n hx, ← HC.out] at hix
      have k30 : (k : Int) < 30 := by omega
      have HK2 : Hid (R = if x == s.toList then n else bq (opL.drop (k + 1)) s.toList) := Lib.hid (by rw [HK.out, bq_drop hx])
      clear hx
      cases he : (x == s.toList)
      · have HK3 : Hid (R = bq (opL.drop (k + 1)) s.toList) := Lib.hid (by rw [HK2.out, he]; rfl)
        go_wp2_with fail
        go_roundg (30 - (k + 1))
        case measure => omega
        case rel => exact ⟨k + 1, rfl, hlt, by go_num, HK3, Lib.hid (HB.out.trans ((below1 _ _).mono HB.out.size))⟩
      · have HK3 : Hid (n = R) := Lib.hid (by rw [HK2.out, he]; rfl)
        go_wp2_with fail
        go_ret
        exact ⟨retN HK3.out, HB.out.trans ((below1 _ _).mono HB.out.size)⟩
    · obtain rfl : k = 30 := by omega
      have HF : Hid (0 = R) := Lib.hid (by rw [HK.out]; rfl)
      go_wp2_with fail
      go_ret
      exact ⟨retN HF.out, HB.out⟩
theorem lf_is (x : List UInt8) : (if bn x = 0 ∨ sd x = 1 then bn x else bn x + 1) = lf x := by
  unfold lf
  by_cases h0 : bn x = 0 <;> by_cases h1 : sd x = 1 <;> simp [h0, h1] <;> omega
theorem rt_is (x : List UInt8) : (if bn x = 0 ∨ sd x = 2 then bn x else bn x + 1) = rt x := by
  unfold rt
  by_cases h0 : bn x = 0 <;> by_cases h1 : sd x = 2 <;> simp [h0, h1] <;> omega
end Go.Proofs.Ytbjgoigdhijbgaa
