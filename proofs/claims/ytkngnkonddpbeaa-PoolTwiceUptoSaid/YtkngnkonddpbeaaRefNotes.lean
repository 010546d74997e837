/-
  THE DOCUMENT's Notes and Lits: rows of texts, appended.
-/
import Derived.Test.YtkngnkonddpbeaaRefTree
import Derived.OneCell
import Derived.Laws.AppendOwnNone
namespace Go.Proofs.Ytkngnkonddpbeaa
open Go.RowKit Go.PlainAid

theorem infoStr : (Try.prog.info? 9).map (fun i => (i.zero, i.size, i.bytes)) = some (some (.string { data := #[] }), 1, 16) := by kernel_rfl
/-- A row of texts of one's own. -/
def Txs (W : World) (base : Nat) (v : Value) (L : List ByteArray) : Prop := W.ownsRow base 9 1 v L.length (L.map Value.string)
theorem txs_st {W : World} {base : Nat} {v : Value} {L : List ByteArray} (h : Txs W base v L) : StAt W v L := by
  obtain ⟨h1, ⟨rfl, h2⟩ | ⟨g, cap, cur, rfl, hb, hg, hn, hc, hz, ht⟩⟩ := h
  · exact ⟨none, 0, by rw [h2], fun h0 => by omega⟩
  · refine ⟨some ⟨g, 0, none⟩, cap, rfl, fun _ => ⟨g, 0, rfl, lt_of_block hg, fun i x hx => ?_⟩⟩
    have hi : i < L.length := (List.getElem?_eq_some_iff.1 hx).1
    rw [cell_of_row W g (0 + i) _ _ _ hg]
    have h3 : (L.map Value.string)[i]? = some (.string x) := by rw [List.getElem?_map, hx]; rfl
    rw [← ht, List.getElem?_take_of_lt (by omega), Array.getElem?_toList] at h3
    rw [Nat.zero_add]; exact h3
theorem txs_weak {W : World} {b b' : Nat} {v : Value} {L : List ByteArray} (h : Txs W b v L) (hb : b' ≤ b) : Txs W b' v L := by
  obtain ⟨h1, h2 | ⟨g, cap, cur, h3, h4, h5, h6⟩⟩ := h
  · exact ⟨h1, .inl h2⟩
  · exact ⟨h1, .inr ⟨g, cap, cur, h3, Nat.le_trans hb h4, h5, h6⟩⟩
theorem Txs.bel {W W' : World} {b : Nat} {v : Value} {L : List ByteArray} (h : Txs W b v L) (hb : Below W.heap.size W W') : Txs W' b v L := own_bel h hb
theorem txs_new (w : World) (t : TypeId) (ht : t = 9) : Txs (w.alloc (.cells #[] t)) w.heap.size (.slice (some ⟨w.heap.size, 0, none⟩) 0 0) [] := by
  subst ht
  exact ⟨rfl, .inr ⟨w.heap.size, 0, #[], rfl, Nat.le_refl _, by show (w.heap.push _)[w.heap.size]? = _; rw [Array.getElem?_push, if_pos rfl], Nat.le_refl _, Nat.zero_le _, rfl, rfl⟩⟩
theorem txs_nil (w : World) (b : Nat) : Txs w b (.slice none 0 0) [] := World.ownsRow_nil _ _ _ _
/-- A row of texts is appended to one of one's own, whatever the row is (nil, empty or not). -/
theorem wpList_append_st {w : World} {ops : Array Oper} {rest : List Oper} {o : Oper} {a : Act} {Q : Exit → Act → World → Prop} (hgd : o.guard = none) (s x : Operand)
    (ho : o.op = .call { callee := .builtin .append, args := #[s, x], argTypes := #[30, 30] })
    (base : Nat) (v : Value) (I : List ByteArray) (hs : a.eval s = v) (hown : Txs w base v I) (sv : Value) (L : List ByteArray) (hx : a.eval x = sv) (hst : StAt w sv L)
    (h63 : I.length + L.length ≤ 1048576) (hbase : base ≤ w.heap.size)
    (h : ∀ v' w', Txs w' base v' (I ++ L) → w.grownBy w' v.ownBlock → wpList Try.prog ops Q rest (a.put o.dst v') w') : wpList Try.prog ops Q (o :: rest) a w := by
  obtain ⟨i0, hi, hz0, hz1, hz2⟩ := info_parts infoStr
  obtain ⟨ao, cap, rfl, hr⟩ := hst
  cases ao with
  | some ad =>
    refine wpList_append_own w hgd s x 30 ho base 9 i0 (.string { data := #[] }) 1 16 Try.underlying30 hi hz0 hz1 hz2 rfl (by decide) v I.length (I.map Value.string) hs hown ad L.length cap (L.map Value.string) hx (by simp) ?_ (by intro u hu; simp only [List.mem_map] at hu; obtain ⟨y, -, rfl⟩ := hu; rfl) (by unfold maxLen; omega) (by omega) hbase ?_
    · intro j u hj
      rw [List.getElem?_map] at hj
      obtain ⟨y, hy, rfl⟩ := Option.map_eq_some_iff.1 hj
      have hl : j < L.length := (List.getElem?_eq_some_iff.1 hy).1
      obtain ⟨g, o', e, -, hc⟩ := hr (by omega)
      cases e
      have := hc j y hy
      rcases Nat.eq_zero_or_pos j with h0 | h0
      · subst h0
        simpa [Addr.add] using this
      · have h1 : ¬ j = 0 := by omega
        simpa [Addr.add, h1] using this
    · intro v' w' h1 h2 _
      refine h v' w' ?_ h2
      unfold Txs
      rw [List.length_append, List.map_append]
      exact h1
  | none =>
    have h0 : L = [] := by
      cases L with
      | nil => rfl
      | cons y t => obtain ⟨g, o', e, -⟩ := hr (by simp); cases e
    subst h0
    refine wpList_plain hgd fun K hK => ?_
    have hrun : (Builtin.append_ #[30, 30] o.type #[v, .slice none 0 cap]).run Try.prog w = .ok v w := by
      rcases hown.2 with ⟨rfl, _⟩ | ⟨g, c, cur, rfl, _, _, hnc, _⟩
      · simp [Builtin.append_, run_underlying Try.underlying30, sizeOf, typeInfo, hi, Builtin.lenOf, Builtin.firstCells]
      · simp [Builtin.append_, run_underlying Try.underlying30, sizeOf, typeInfo, hi, Builtin.lenOf, Builtin.firstCells, hnc, storeCells]
    unfold Oper.wp
    simp [execOp, ho, resolve, invoke, builtin, hs, hx, hrun, Result.andThen]
    exact hK _ _ (h v w (by rw [List.append_nil]; exact hown) (World.grownBy.refl w _))
/-- What a call that answers texts gives. -/
def StsAre (w0 : World) (L : List ByteArray) (e : Ending) (w' : World) : Prop := ∃ v, e = .returned v ∧ Txs w' w0.heap.size v L ∧ Below w0.heap.size w0 w'
theorem txs_grown {Z W W' : World} {v : Value} {L : List ByteArray} (hb : Below Z.heap.size Z W) (h : Txs W Z.heap.size v L) (hg : W.grownBy W' v.ownBlock) : Below Z.heap.size Z W' :=
  hb.grown hg hb.size (fun j e => (h.lt j e).1)
theorem nts_at : ∀ {l : List Nd} {i : Nat} {x : Nd}, l[i]? = some x → (nts x).length ≤ (ntsL l).length
  | [], _, _, h => by simp at h
  | y :: t, 0, x, h => by
    simp only [List.getElem?_cons_zero, Option.some.injEq] at h
    subst h
    simp only [ntsL, List.length_append]; omega
  | y :: t, i + 1, x, h => by
    simp only [List.getElem?_cons_succ] at h
    have := nts_at h
    simp only [ntsL, List.length_append]; omega
theorem lts_at : ∀ {l : List Nd} {i : Nat} {x : Nd}, l[i]? = some x → (lts x).length ≤ (ltsL l).length
  | [], _, _, h => by simp at h
  | y :: t, 0, x, h => by
    simp only [List.getElem?_cons_zero, Option.some.injEq] at h
    subst h
    simp only [ltsL, List.length_append]; omega
  | y :: t, i + 1, x, h => by
    simp only [List.getElem?_cons_succ] at h
    have := lts_at h
    simp only [ltsL, List.length_append]; omega
end Go.Proofs.Ytkngnkonddpbeaa
