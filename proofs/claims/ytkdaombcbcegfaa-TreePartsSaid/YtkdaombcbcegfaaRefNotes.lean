/-
  THE DOCUMENT's Notes and Lits: rows of texts, appended.
-/
import Derived.Test.YtkdaombcbcegfaaRefTree
import Derived.OneCell
import Derived.Laws.AppendOwnNone
namespace Go.Proofs.Ytkdaombcbcegfaa
open Go.RowKit Go.PlainAid

theorem infoStr : (Try.prog.info? 9).map (fun i => (i.zero, i.size, i.bytes)) = some (some (.string { data := #[] }), 1, 16) := by kernel_rfl
/-- A row of texts of one's own. -/
def Txs (W : World) (base : Nat) (v : Value) (L : List ByteArray) : Prop := W.ownsRow base 9 1 v L.length (L.map Value.string)
theorem txs_st {W : World} {base : Nat} {v : Value} {L : List ByteArray} (h : Txs W base v L) : StAt W v L := by
  obtain ⟨h1, ⟨rfl, h2⟩ | ⟨g, cap, cur, rfl, hb, hg, hn, hc, hz, ht⟩⟩ := h
  · exact ⟨none, 0, by rw [h2], fun h0 => by omega⟩
  · refine ⟨some ⟨g, 0, none⟩, cap, rfl, fun _ => ⟨g, 0, rfl, lt_of_block hg, fun i x hx => ?_⟩⟩
    have hi : i < L.length := (List.getElem?_eq_some_iff.1 hx).1
    rw [cell_of_row W g (0 + i) _ _ _ hg]
    have h3 : (L.map Value.string)[i]? = some (.string x) := by rw [List.getElem?_map, hx]; rfl
    rw [← ht, List.getElem?_take_of_lt (by omega), Array.getElem?_toList] at h3
    rw [Nat.zero_add]; exact h3
theorem txs_weak {W : World} {b b' : Nat} {v : Value} {L : List ByteArray} (h : Txs W b v L) (hb : b' ≤ b) : Txs W b' v L := by
  obtain ⟨h1, h2 | ⟨g, cap, cur, h3, h4, h5, h6⟩⟩ := h
  · exact ⟨h1, .inl h2⟩
  · exact ⟨h1, .inr ⟨g, cap, cur, h3, Nat.le_trans hb h4, h5, h6⟩⟩
theorem Txs.bel {W W' : World} {b : Nat} {v : Value} {L : List ByteArray} (h : Txs W b v L) (hb : Below W.heap.size W W') : Txs W' b v L := own_bel h hb
theorem txs_new (w : World) (t : TypeId) (ht : t = 9) : Txs (w.alloc (.cells #[] t)) w.heap.size (.slice (some ⟨w.heap.size, 0, none⟩) 0 0) [] := by
  subst ht
  exact ⟨rfl, .inr ⟨w.heap.size, 0, #[], rfl, Nat.le_refl _, by show (w.heap.push _)[w.heap.size]? = _; rw [Array.getElem?_push, if_pos rfl], Nat.le_refl _, Nat.zero_le _, rfl, rfl⟩⟩
theorem txs_nil (w : World) (b : Nat) : Txs w b (.slice none 0 0) [] := World.ownsRow_nil _ _ _ _
/-- A row of texts is appended to one of one's own, whatever the row is (nil, empty or not). -/
theorem wpList_append_st {w : World} {ops : Array Oper} {rest : List Oper} {o : Oper} {a : Act} {Q : Exit → Act → World → Prop} (hgd : o.guard = none) (s x : Operand)
    (ho : o.op = .call { callee := .builtin .append, args := #[s, x], argTypes := #[22, 22] })
    (base : Nat) (v : Value) (I : List ByteArray) (hs : a.eval s = v) (hown : Txs w base v I) (sv : Value) (L : List ByteArray) (hx : a.eval x = sv) (hst : StAt w sv L)
    (h63 : I.length + L.length ≤ 1048576) (hbase : base ≤ w.heap.size)
    (h : ∀ v' w', Txs w' base v' (I ++ L) → w.grownBy w' v.ownBlock → wpList Try.prog ops Q rest (a.put o.dst v') w') : wpList Try.prog ops Q (o :: rest) a w := by
  obtain ⟨i0, hi, hz0, hz1, hz2⟩ := info_parts infoStr
  obtain ⟨ao, cap, rfl, hr⟩ := hst
  cases ao with
  | some ad =>
    refine wpList_append_own w hgd s x 22 ho base 9 i0 (.string { data := #[] }) 1 16 Try.underlying22 hi hz0 hz1 hz2 rfl (by decide) v I.length (I.map Value.string) hs hown ad L.length cap (L.map Value.string) hx (by simp) ?_ (by intro u hu; simp only [List.mem_map] at hu; obtain ⟨y, -, rfl⟩ := hu; rfl) (by unfold maxLen; omega) (by omega) hbase ?_
    · intro j u hj
      rw [List.getElem?_map] at hj
      obtain ⟨y, hy, rfl⟩ := Option.map_eq_some_iff.1 hj
      have hl : j < L.length := (List.getElem?_eq_some_iff.1 hy).1
      obtain ⟨g, o', e, -, hc⟩ := hr (by omega)
      cases e
      have := hc j y hy
      rcases Nat.eq_zero_or_pos j with h0 | h0
      · subst h0
        simpa [Addr.add] using this
      · have h1 : ¬ j = 0 := by omega
        simpa [Addr.add, h1] using this
    · intro v' w' h1 h2 _
      refine h v' w' ?_ h2
      unfold Txs
      rw [List.length_append, List.map_append]
      exact h1
  | none =>
    have h0 : L = [] := by
      cases L with
      | nil => rfl
      | cons y t => obtain ⟨g, o', e, -⟩ := hr (by simp); cases e
    subst h0
    refine wpList_plain hgd fun K hK => ?_
    have hrun : (Builtin.append_ #[22, 22] o.type #[v, .slice none 0 cap]).run Try.prog w = .ok v w := by
      rcases hown.2 with ⟨rfl, _⟩ | ⟨g, c, cur, rfl, _, _, hnc, _⟩
      · simp [Builtin.append_, run_underlying Try.underlying22, sizeOf, typeInfo, hi, Builtin.lenOf, Builtin.firstCells]
      · simp [Builtin.append_, run_underlying Try.underlying22, sizeOf, typeInfo, hi, Builtin.lenOf, Builtin.firstCells, hnc, storeCells]
    unfold Oper.wp
    simp [execOp, ho, resolve, invoke, builtin, hs, hx, hrun, Result.andThen]
    exact hK _ _ (h v w (by rw [List.append_nil]; exact hown) (World.grownBy.refl w _))
/-- What a call that answers texts gives. -/
def StsAre (w0 : World) (L : List ByteArray) (e : Ending) (w' : World) : Prop := ∃ v, e = .returned v ∧ Txs w' w0.heap.size v L ∧ Below w0.heap.size w0 w'
theorem txs_grown {Z W W' : World} {v : Value} {L : List ByteArray} (hb : Below Z.heap.size Z W) (h : Txs W Z.heap.size v L) (hg : W.grownBy W' v.ownBlock) : Below Z.heap.size Z W' :=
  hb.grown hg hb.size (fun j e => (h.lt j e).1)
theorem nts_at : ∀ {l : List Nd} {i : Nat} {x : Nd}, l[i]? = some x → (nts x).length ≤ (ntsL l).length
  | [], _, _, h => by simp at h
  | y :: t, 0, x, h => by
    simp only [List.getElem?_cons_zero, Option.some.injEq] at h
    subst h
    simp only [ntsL, List.length_append]; omega
  | y :: t, i + 1, x, h => by
    simp only [List.getElem?_cons_succ] at h
    have := nts_at h
    simp only [ntsL, List.length_append]; omega
theorem lts_at : ∀ {l : List Nd} {i : Nat} {x : Nd}, l[i]? = some x → (lts x).length ≤ (ltsL l).length
  | [], _, _, h => by simp at h
  | y :: t, 0, x, h => by
    simp only [List.getElem?_cons_zero, Option.some.injEq] at h
    subst h
    simp only [ltsL, List.length_append]; omega
  | y :: t, i + 1, x, h => by
    simp only [List.getElem?_cons_succ] at h
    have := lts_at h
    simp only [ltsL, List.length_append]; omega
set_option maxRecDepth 100000 in
set_option maxHeartbeats 4000000 in
theorem rnotes_any : ∀ (m : Nat), m ≤ 1048576 → ∀ (n : Nd), cnt n ≤ m → (nts n).length ≤ 1048576 → ∀ (c : List Value) (w : World), NdAt w c n →
    Calls Try.prog 18 #[.agg c.toArray] w fun e w' => StsAre w (nts n) e w'
  | 0, _, n, hn, _, _, _, _ => by have := cnt_pos n; omega
  | m + 1, hm, .mk k t l br bl no ta, hn, hz, c, w, h => by
    obtain ⟨lv, nv, tv, cs, rfl, hno, hta, hl, hc⟩ := h.inv
    clear h
    simp only [cnt] at hn
    simp only [nts, List.length_append] at hz
    simp only [nts]
    have hl' := hl
    obtain ⟨a, cap, rfl, -⟩ := hl
    have HKID := Lib.hid (kids hl' hc)
    have HI : Hid (∀ i x c, l[i]? = some x → NdAt w c x → ∀ W, Below w.heap.size w W → Calls Try.prog 18 #[.agg c.toArray] W fun e w' => StsAre W (nts x) e w') :=
      Lib.hid (fun i x c hx hc W hb => rnotes_any m (by omega) x (by have := cnt_at hx; omega) (by have := nts_at hx; omega) c W (hc.bel hb))
    have hlen := len_cntL l
    obtain ⟨N, hN⟩ : ∃ N, N = l.length := ⟨_, rfl⟩
    rw [← hN] at hlen ⊢
    have HN := Lib.hid hN
    clear hc hl' hN
    obtain ⟨R, hR⟩ : ∃ R, R = no ++ ntsL l ++ ta := ⟨_, rfl⟩
    rw [← hR]
    have HRR := Lib.hid hR
    have HZR : Hid (R.length ≤ 1048576) := Lib.hid (by rw [hR]; simp only [List.length_append]; omega)
    obtain ⟨Z, hZ⟩ : ∃ Z, Z = (w.alloc (.cells #[.int .i64 k, .string t, .slice a N cap, .bool br, .bool bl, nv, tv] 26)) := ⟨_, rfl⟩
    have hs : Z.heap.size = w.heap.size + 1 := by rw [hZ]; simp
    have HU : Hid (Below w.heap.size w Z) := Lib.hid (by rw [hZ]; exact below1 _ _)
    have UP := Lib.hid (fun W (h : Below Z.heap.size Z W) => HU.out.trans (h.mono HU.out.size))
    have HC := Lib.hid (fun W (hb : Below Z.heap.size Z W) => nd_cells (by rw [hZ] at hb; exact hb))
    have HNO := Lib.hid (fun W (h : Below Z.heap.size Z W) => hno.below (UP.out W h))
    have HTA := Lib.hid (fun W (h : Below Z.heap.size Z W) => hta.below (UP.out W h))
    have HNEW : Hid (Txs ((w.alloc (.cells #[.int .i64 k, .string t, .slice a N cap, .bool br, .bool bl, nv, tv] 26)).alloc (.cells #[] 9)) Z.heap.size (.slice (some ⟨w.heap.size + 1, 0, none⟩) 0 0) []) := Lib.hid (by
      have := txs_new (w.alloc (.cells #[.int .i64 k, .string t, .slice a N cap, .bool br, .bool bl, nv, tv] 26)) _ rfl
      rw [show (w.alloc (.cells #[.int .i64 k, .string t, .slice a N cap, .bool br, .bool bl, nv, tv] 26)).heap.size = w.heap.size + 1 by simp] at this
      rw [hs]; exact this)
    have HB1 : Hid (Below Z.heap.size Z ((w.alloc (.cells #[.int .i64 k, .string t, .slice a N cap, .bool br, .bool bl, nv, tv] 26)).alloc (.cells #[] 9))) := Lib.hid (by rw [← hZ]; exact below1 _ _)
    obtain ⟨d0, d1, d2, d3, d4, d5, d6⟩ := HC.out _ HB1.out
    have HS := Lib.hid hs
    have hno40 : no.length ≤ 1048576 := by omega
    clear hZ hR hz hs hno hta
    go_enter Try.func18, Try.ntmps18
    go_wp2_with (at_builtin; go_must (refine wpList_append_st rfl _ _ rfl Z.heap.size _ [] rfl HNEW.out _ no rfl (HNO.out _ HB1.out) (by simp; omega) HB1.out.size ?_); intro v1 w2 hsk hgr; have HSK := Lib.hid hsk; have HB2 := Lib.hid (txs_grown HB1.out HNEW.out hgr); clear hsk hgr)
    go_loopg [3, 4] N (fun gn z i wr => ∃ (q : Nat) (I : List ByteArray), gn = N - q ∧ q ≤ N ∧ i = .int .i64 (q : Int) ∧ Hid (Txs wr Z.heap.size z I) ∧ Hid (Below Z.heap.size Z wr) ∧ Hid (R = I ++ ntsL (l.drop q) ++ ta))
    case atStart => exact ⟨0, no, rfl, Nat.zero_le _, rfl, by simpa using HSK, HB2, Lib.hid (by rw [HRR.out, List.drop_zero])⟩
    case round =>
      obtain ⟨q, I, hgn, hq, rfl, HSI, HB, HK⟩ := hrel
      clear d0 d1 d2 d3 d4 d5 d6
      obtain ⟨d0, d1, d2, d3, d4, d5, d6⟩ := HC.out _ HB.out
      have HBw : Hid (Below w.heap.size w wr) := Lib.hid (UP.out _ HB.out)
      by_cases hlt : q < N
      · obtain ⟨x, hx⟩ : ∃ x, l[q]? = some x := ⟨_, List.getElem?_eq_getElem (by rw [← HN.out]; exact hlt)⟩
        obtain ⟨g, o, k', t', lv', br', bl', nv', tv', rfl, hnd, hcell⟩ := HKID.out q x hx
        obtain ⟨e0, e1, e2, e3, e4, e5, e6⟩ := hcell wr HBw.out
        have HI1 := Lib.hid (HI.out q x _ hx hnd wr HBw.out)
        have qn : (q : Int) < (N : Int) := by omega
        have HK2 : Hid (R = I ++ nts x ++ ntsL (l.drop (q + 1)) ++ ta) := Lib.hid (by rw [HK.out, ntsL_drop hx]; simp)
        obtain ⟨y, hy⟩ : ∃ y, y = nts x := ⟨_, rfl⟩
        rw [← hy] at HI1 HK2
        have HLE : Hid (I.length + y.length ≤ 1048576) := Lib.hid (by have := HZR.out; rw [HK2.out] at this; simp only [List.length_append] at this; omega)
        clear hcell hx hnd hy HK
        go_wp2_with fail
        refine HI1.out.mono ?_
        rintro e w1 ⟨vx, rfl, hsx, hb1⟩
        have HST := Lib.hid (txs_st hsx)
        have HOW := Lib.hid (HSI.out.bel hb1)
        have HB3 := Lib.hid (HB.out.trans (hb1.mono HB.out.size))
        clear hsx hb1
        go_wp2_with (at_builtin; go_must (refine wpList_append_st rfl _ _ rfl Z.heap.size _ I rfl HOW.out _ y rfl HST.out HLE.out HB3.out.size ?_); intro v4 w4 hsk hgr; have HSK4 := Lib.hid hsk; have HB4 := Lib.hid (txs_grown HB3.out HOW.out hgr); clear hsk hgr)
        go_roundg (N - (q + 1))
        case measure => omega
        case rel => exact ⟨q + 1, I ++ y, rfl, hlt, by go_num, HSK4, HB4, HK2⟩
      · obtain rfl : q = N := by omega
        have HF : Hid (R = I ++ ta) := Lib.hid (by rw [HK.out, List.drop_eq_nil_of_le (by rw [HN.out]; exact Nat.le_refl _)]; simp [ntsL])
        have HLE : Hid (I.length + ta.length ≤ 1048576) := Lib.hid (by have := HZR.out; rw [HF.out] at this; simpa using this)
        go_wp2_with (at_builtin; go_must (refine wpList_append_st rfl _ _ rfl Z.heap.size _ I rfl HSI.out _ ta rfl (HTA.out _ HB.out) HLE.out HB.out.size ?_); intro v4 w4 hsk hgr; have HSK4 := Lib.hid hsk; have HB4 := Lib.hid (txs_grown HB.out HSI.out hgr); clear hsk hgr)
        go_ret
        exact ⟨_, rfl, txs_weak (by rw [HF.out]; exact HSK4.out) HU.out.size, UP.out _ HB4.out⟩
end Go.Proofs.Ytkdaombcbcegfaa
