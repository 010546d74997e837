/-
  A map that numbers its keys from 1 on, in the order in which they came; the two kinds of keys of the landed pool.
-/
import Derived.Test.YtkngnkonddpbeaaPoolSt
import Derived.Maps.Own
import Derived.DeepKeys4
import Derived.MapViews
namespace Go.Proofs.Ytkngnkonddpbeaa
open Go.RowKit Go.PlainAid
open Go.Maps (Keyed)

/-- Block b is a map of these keys, each with its number. -/
def NumM (K : TypeId) (W : World) (b : Nat) (kv : List Value) : Prop :=
  ∃ (es : Array MapEntry) (clock : Nat), W.heap[b]? = some (.map es clock) ∧ es.toList.map (·.key) = kv ∧ (∀ (i : Nat) (e : MapEntry), es.toList[i]? = some e → e.val = .int .i64 ((i + 1 : Nat) : Int)) ∧ ∀ v ∈ kv, ∃ l, keyOf Try.prog K v = some l
theorem NumM.keep {K : TypeId} {W W' : World} {b : Nat} {kv : List Value} (h : NumM K W b kv) (hb : W'.heap[b]? = W.heap[b]?) : NumM K W' b kv := by
  obtain ⟨es, clock, h1, h2⟩ := h
  exact ⟨es, clock, hb.trans h1, h2⟩
theorem NumM.lt {K : TypeId} {W : World} {b : Nat} {kv : List Value} (h : NumM K W b kv) : b < W.heap.size := by
  obtain ⟨es, clock, h1, h2⟩ := h
  exact (Array.getElem?_eq_some_iff.1 h1).1
theorem NumM.new (K : TypeId) (W : World) (b : Nat) (h : W.heap[b]? = some (.map #[] 0)) : NumM K W b [] := ⟨#[], 0, h, rfl, fun i e h => by simp at h, fun v h => by simp at h⟩
/-- The look-up. -/
theorem NumM.look {K T E : TypeId} (L : Keyed Try.prog K) (ht : Try.prog.underlying T = some (.map K E)) (hz : ∀ w, (zeroValue E).run Try.prog w = .ok (.int .i64 0) w) {W : World} {b : Nat} {kv : List Value} (h : NumM K W b kv) {x : Value} (hx : ∃ l, keyOf Try.prog K x = some l) :
    (∀ i : Nat, kv[i]? = some x → (∀ j : Nat, kv[j]? = some x → j = i) → (Instr.lookup T (.map (some b)) x true).run Try.prog W = .ok (.tuple #[.int .i64 ((i + 1 : Nat) : Int), .bool true]) W) ∧
    (x ∉ kv → (Instr.lookup T (.map (some b)) x true).run Try.prog W = .ok (.tuple #[.int .i64 0, .bool false]) W) := by
  obtain ⟨es, clock, h1, h2, h3, h4⟩ := h
  obtain ⟨l, hl⟩ := hx
  have hes : ∀ e ∈ es.toList, ∃ l, keyOf Try.prog K e.key = some l := fun e he => h4 e.key (by rw [← h2]; exact List.mem_map_of_mem he)
  rcases L.find W hl es.toList hes with ⟨k1, k2⟩ | ⟨j, e, k1, k2, k3⟩
  · have hno : x ∉ kv := by
      intro hm
      rw [← h2] at hm
      obtain ⟨e, he, hk⟩ := List.mem_map.1 hm
      exact k2 e he hk
    refine ⟨fun i hi _ => absurd (List.mem_of_getElem? hi) hno, fun _ => ?_⟩
    simp [Instr.lookup, run_underlying ht, MapKept.run_getObj_map h1, L.check W _ hl, k1, hz, Result.andThen]
  · have hj : kv[j]? = some x := by rw [← h2, List.getElem?_map, k2, ← k3]; rfl
    refine ⟨fun i hi hu => ?_, fun hn => absurd (List.mem_of_getElem? hj) hn⟩
    have := hu j hj
    subst this
    have hv := h3 j e k2
    rw [hv] at k1
    simp [Instr.lookup, run_underlying ht, MapKept.run_getObj_map h1, L.check W _ hl, k1, Result.andThen]
/-- The world behind a new key. -/
def putK (W : World) (b : Nat) (es : Array MapEntry) (clock : Nat) : World := { W with heap := W.heap.setIfInBounds b (.map es clock) }
/-- A new key. -/
theorem NumM.put {K T E : TypeId} (L : Keyed Try.prog K) (ht : Try.prog.underlying T = some (.map K E)) {W : World} {b : Nat} {kv : List Value} (h : NumM K W b kv) {x : Value} (hx : ∃ l, keyOf Try.prog K x = some l) (hn : x ∉ kv) :
    ∃ es clock, (∀ W' : World, W'.heap[b]? = W.heap[b]? → (Instr.mapUpdate T (.map (some b)) x (.int .i64 ((kv.length + 1 : Nat) : Int))).run Try.prog W' = .ok () (putK W' b es clock)) ∧ ∀ W' : World, W'.heap[b]? = some (.map es clock) → NumM K W' b (kv ++ [x]) := by
  obtain ⟨es, clock, h1, h2, h3, h4⟩ := h
  obtain ⟨l, hl⟩ := hx
  have hes : ∀ e ∈ es.toList, ∃ l, keyOf Try.prog K e.key = some l := fun e he => h4 e.key (by rw [← h2]; exact List.mem_map_of_mem he)
  refine ⟨es.push ⟨x, .int .i64 ((kv.length + 1 : Nat) : Int), clock⟩, clock + 1, fun W' hW => ?_, fun W' hW => ⟨_, _, hW, ?_, ?_, ?_⟩⟩
  · have hb := hW.trans h1
    rcases L.find W' hl es.toList hes with ⟨k1, k2⟩ | ⟨j, e, k1, k2, k3⟩
    · simp [Instr.mapUpdate, run_underlying ht, MapKept.run_getObj_map hb, L.check W' false hl, k1, MapKept.run_setObj_map _ hb, Result.andThen, putK]
    · exfalso
      apply hn
      rw [← h2, ← k3]
      exact List.mem_map_of_mem (List.mem_of_getElem? k2)
  · rw [Array.toList_push, List.map_append, h2]
    rfl
  · intro i e he
    rw [Array.toList_push] at he
    have hlen : es.toList.length = kv.length := by rw [← h2, List.length_map]
    by_cases hi : i < es.toList.length
    · rw [List.getElem?_append_left hi] at he
      exact h3 i e he
    · have hlt := (List.getElem?_eq_some_iff.1 he).1
      simp only [List.length_append, List.length_cons, List.length_nil] at hlt
      obtain rfl : i = es.toList.length := by omega
      rw [List.getElem?_append_right (Nat.le_refl _), Nat.sub_self] at he
      simp only [List.getElem?_cons_zero, Option.some.injEq] at he
      subst he
      rw [hlen]
  · intro v hv
    rcases List.mem_append.1 hv with hv | hv
    · exact h4 v hv
    · simp only [List.mem_cons, List.not_mem_nil, or_false] at hv
      subst hv
      exact ⟨l, hl⟩
theorem putK_same {W : World} {b : Nat} (hb : b < W.heap.size) (es : Array MapEntry) (clock : Nat) : (putK W b es clock).heap[b]? = some (.map es clock) := by
  show (W.heap.setIfInBounds b _)[b]? = _
  rw [Array.getElem?_setIfInBounds, if_pos rfl, if_pos hb]
theorem putK_other (W : World) {b k : Nat} (hk : k ≠ b) (es : Array MapEntry) (clock : Nat) : (putK W b es clock).heap[k]? = W.heap[k]? := by
  show (W.heap.setIfInBounds b _)[k]? = _
  rw [Array.getElem?_setIfInBounds, if_neg (Ne.symm hk)]
theorem putK_size (W : World) (b : Nat) (es : Array MapEntry) (clock : Nat) : (putK W b es clock).heap.size = W.heap.size := by
  show (W.heap.setIfInBounds b _).size = _
  rw [Array.size_setIfInBounds]
/-- Its length. -/
theorem NumM.len {K T E : TypeId} (ht : Try.prog.underlying T = some (.map K E)) {W : World} {b : Nat} {kv : List Value} (h : NumM K W b kv) (ty : TypeId) : (Builtin.len_ #[T] ty #[.map (some b)]).run Try.prog W = .ok (.int .i64 (kv.length : Int)) W := by
  obtain ⟨es, clock, h1, h2, h3, h4⟩ := h
  have : es.size = kv.length := by rw [← h2, List.length_map]; simp
  simp [Builtin.len_, run_underlying ht, MapKept.run_getObj_map h1, goInt, Result.andThen, this]
theorem wpList_len_num {w : World} {ops : Array Oper} {rest : List Oper} {o : Oper} {a : Act} {Q : Exit → Act → World → Prop} (hg : o.guard = none) (m : Operand) (t : TypeId) (hop : o.op = Op.call { callee := Callee.builtin Builtin.len, args := #[m], argTypes := #[t] })
    (k e : TypeId) (ht : Try.prog.underlying t = some (.map k e)) (b : Nat) (kv : List Value) (hm : a.eval m = .map (some b)) (h : NumM k w b kv)
    (hK : wpList Try.prog ops Q rest (a.put o.dst (.int .i64 (kv.length : Int))) w) : wpList Try.prog ops Q (o :: rest) a w := by
  refine wpList_plain hg fun K' hK' => ?_
  unfold Oper.wp
  simp [execOp, hop, resolve, invoke, builtin, hm, h.len ht o.type, Result.andThen]
  exact hK' _ _ hK
/-! ### the two kinds -/
theorem laid11 : laidOutB Try.prog = true := by kernel_rfl
theorem nkRow : (60 : TypeId) < Try.prog.types.size := of_decide_eq_true (by kernel_rfl)
theorem lkRow : (56 : TypeId) < Try.prog.types.size := of_decide_eq_true (by kernel_rfl)
theorem nkLaw : Keyed Try.prog 60 := Keyed.of_law (deep_law_laid laid11 (m := 2) (by omega) nkRow (by kernel_rfl) (by rw [Try.underlying60]))
theorem lkLaw : Keyed Try.prog 56 := Keyed.of_law (deep_law_laid laid11 (m := 2) (by omega) lkRow (by kernel_rfl) (by rw [Try.underlying56]))
theorem nkType : Try.prog.keyType 60 = true := by kernel_rfl
theorem lkType : Try.prog.keyType 56 = true := by kernel_rfl
theorem nkCells : Try.prog.cellsOf 60 = 6 := by kernel_rfl
theorem lkCells : Try.prog.cellsOf 56 = 3 := by kernel_rfl
theorem intCells11 : Try.prog.cellsOf 3 = 1 := by kernel_rfl
theorem strCells11 : Try.prog.cellsOf 9 = 1 := by kernel_rfl
theorem boolCells11 : Try.prog.cellsOf 4 = 1 := by kernel_rfl
theorem wf11 {n : Int} (h : -9223372036854775808 ≤ n ∧ n ≤ 9223372036854775807) : (Lit.int .i64 n).wf = true := WalkArith.wf_i64 h
theorem zeroInt11 (w : World) : (zeroValue 3).run Try.prog w = .ok (.int .i64 0) w := by kernel_rfl
def nkv (x : NK) : Value := .agg #[.int .i64 x.1.1, .string x.1.2.1, .bool x.1.2.2, .int .i64 (x.2.1 : Int), .int .i64 (x.2.2.1 : Int), .int .i64 (x.2.2.2 : Int)]
def lkv (x : LK) : Value := .agg #[.int .i64 (x.1 : Int), .int .i64 (x.2.1 : Int), .string x.2.2]
theorem nkDeep : Try.prog.keyTypeAt (Try.prog.types.size + 1) 60 = true := by kernel_rfl
theorem lkDeep : Try.prog.keyTypeAt (Try.prog.types.size + 1) 56 = true := by kernel_rfl
theorem nk_key (k : Int) (t : ByteArray) (bl : Bool) (it no ta : Nat) (w0 : (Lit.int .i64 k).wf = true) (ht : t.size ≤ 281474976710656) (h1 : it ≤ 4611686018427387904) (h2 : no ≤ 4611686018427387904) (h3 : ta ≤ 4611686018427387904) :
    ∃ l, keyOf Try.prog 60 (.agg #[.int .i64 k, .string t, .bool bl, .int .i64 (it : Int), .int .i64 (no : Int), .int .i64 (ta : Int)]) = some l := by
  have w1 : (Lit.int .i64 (it : Int)).wf = true := wf11 (by omega)
  have w2 : (Lit.int .i64 (no : Int)).wf = true := wf11 (by omega)
  have w3 : (Lit.int .i64 (ta : Int)).wf = true := wf11 (by omega)
  have hm : t.size ≤ maxLen := by unfold maxLen; omega
  generalize (it : Int) = I at w1 ⊢
  generalize (no : Int) = J at w2 ⊢
  generalize (ta : Int) = L at w3 ⊢
  clear ht h1 h2 h3
  have hf : (Value.agg #[.int .i64 k, .string t, .bool bl, .int .i64 I, .int .i64 J, .int .i64 L]).formed Try.prog 60 = true := by simp [Value.formed, Try.underlying60, nkCells]
  have hd : DataW.trod (H := Unit) (fun _ => ()) Try.prog default 0 (fun _ => true) true 2 60 [.int .i64 k, .string t, .bool bl, .int .i64 I, .int .i64 J, .int .i64 L] = some (.agg [.lit (.int .i64 k), .lit (.string t.data.toList), .lit (.bool bl), .lit (.int .i64 I), .lit (.int .i64 J), .lit (.int .i64 L)], []) := by
    simp [DataW.trod, Try.underlying60, nkCells, Try.underlying3, Try.underlying9, Try.underlying4, intCells11, strCells11, boolCells11, w0, w1, w2, w3, hm]
  exact ⟨_, (keyOf_asKey nkDeep (by rw [Try.underlying60]) hf ⟨2, hd⟩).1⟩
theorem lk_key (a i : Nat) (t : ByteArray) (ha : a ≤ 4611686018427387904) (hi : i ≤ 4611686018427387904) (ht : t.size ≤ 281474976710656) :
    ∃ l, keyOf Try.prog 56 (.agg #[.int .i64 (a : Int), .int .i64 (i : Int), .string t]) = some l := by
  have w1 : (Lit.int .i64 (a : Int)).wf = true := wf11 (by omega)
  have w2 : (Lit.int .i64 (i : Int)).wf = true := wf11 (by omega)
  have hm : t.size ≤ maxLen := by unfold maxLen; omega
  generalize (a : Int) = I at w1 ⊢
  generalize (i : Int) = J at w2 ⊢
  clear ht ha hi
  have hf : (Value.agg #[.int .i64 I, .int .i64 J, .string t]).formed Try.prog 56 = true := by simp [Value.formed, Try.underlying56, lkCells]
  have hd : DataW.trod (H := Unit) (fun _ => ()) Try.prog default 0 (fun _ => true) true 2 56 [.int .i64 I, .int .i64 J, .string t] = some (.agg [.lit (.int .i64 I), .lit (.int .i64 J), .lit (.string t.data.toList)], []) := by
    simp [DataW.trod, Try.underlying56, lkCells, Try.underlying3, Try.underlying9, intCells11, strCells11, w1, w2, hm]
  exact ⟨_, (keyOf_asKey lkDeep (by rw [Try.underlying56]) hf ⟨2, hd⟩).1⟩
theorem nkv_inj {a b : NK} (h : nkv a = nkv b) : a = b := by
  obtain ⟨⟨k, t, bl⟩, i, n, m⟩ := a
  obtain ⟨⟨k', t', bl'⟩, i', n', m'⟩ := b
  simp only [nkv, Value.agg.injEq, Array.mk.injEq, List.cons.injEq, Value.int.injEq, true_and, Value.string.injEq, Value.bool.injEq, and_true] at h
  obtain ⟨rfl, rfl, rfl, h1, h2, h3⟩ := h
  have h1 : i = i' := by omega
  have h2 : n = n' := by omega
  have h3 : m = m' := by omega
  subst h1 h2 h3
  rfl
theorem lkv_inj {a b : LK} (h : lkv a = lkv b) : a = b := by
  obtain ⟨k, i, t⟩ := a
  obtain ⟨k', i', t'⟩ := b
  simp only [lkv, Value.agg.injEq, Array.mk.injEq, List.cons.injEq, Value.int.injEq, true_and, Value.string.injEq, and_true] at h
  obtain ⟨h1, h2, rfl⟩ := h
  have h1 : k = k' := by omega
  have h2 : i = i' := by omega
  subst h1 h2
  rfl
end Go.Proofs.Ytkngnkonddpbeaa
