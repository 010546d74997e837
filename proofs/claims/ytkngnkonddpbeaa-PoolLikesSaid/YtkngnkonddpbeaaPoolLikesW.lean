/-
  PoolLikes, over the pool's five calls.
-/
import Derived.Test.YtkngnkonddpbeaaPoolTold
import Derived.Test.YtkngnkonddpbeaaTreeFewW
import Derived.Test.YtkngnkonddpbeaaRefLike
namespace Go.Proofs.Ytkngnkonddpbeaa
open Go.RowKit Go.PlainAid

/-- With Break turned. -/
def brkN : Nd → Nd
  | .mk k t l br bl no ta => .mk k t l (!br) bl no ta
theorem lk_brk (n : Nd) : lk false n (brkN n) = true := by
  cases n with
  | mk k t l br bl no ta =>
    simp only [brkN, lk, beq_self_eq_true, decide_true, Bool.and_true, lkL_refl', Bool.not_false, Bool.true_or]
theorem pool_two (a b : Nd) : ((pidx a [] : Int) == (pidx b (pad a []) : Int)) = lk false a b := by
  have hp1 := pk_pad a [] pk_nil
  have hp2 := pk_pad b _ hp1
  obtain ⟨i, x, hx, hl, hX⟩ := pidx_at pk_nil a
  obtain ⟨j, y, hy, hm, hY⟩ := pidx_at hp1 b
  obtain ⟨ys, he⟩ := pad_pre b (pad a [])
  have hx2 : (pad b (pad a []))[i]? = some x := by rw [he, List.getElem?_append_left (List.getElem?_eq_some_iff.1 hx).1]; exact hx
  rw [hX, hY]
  cases hc : lk false a b
  · refine beq_false_of_ne (fun e => ?_)
    obtain rfl : i = j := by omega
    rw [hx2] at hy
    cases hy
    have := lk_trans a x b (by rw [lk_comm']; exact hl) hm
    rw [hc] at this; cases this
  · have h1 := idx_at hp2 hx2 (lk_trans _ _ _ hl hc)
    have h2 := idx_at hp2 hy hm
    have : i = j := by rw [← h1, ← h2]
    subst this
    exact beq_self_eq_true _
theorem pool_brk (a b : Nd) : pad (brkN a) (pad b (pad a [])) = pad b (pad a []) ∧ pidx (brkN a) (pad b (pad a [])) = pidx a [] := by
  have hp1 := pk_pad a [] pk_nil
  have hp2 := pk_pad b _ hp1
  obtain ⟨i, x, hx, hl, hX⟩ := pidx_at pk_nil a
  obtain ⟨ys, he⟩ := pad_pre b (pad a [])
  have hx2 : (pad b (pad a []))[i]? = some x := by rw [he, List.getElem?_append_left (List.getElem?_eq_some_iff.1 hx).1]; exact hx
  have hl2 := lk_trans _ _ _ hl (lk_brk a)
  exact ⟨pad_same _ _ hp2 (has_iff.2 ⟨i, x, hx2, hl2⟩), by rw [pidx_has hp2 hx2 hl2, hX]⟩
theorem pool_in (a b : Nd) : 1 ≤ pidx a [] ∧ pidx a [] ≤ (pad b (pad a [])).length := by
  obtain ⟨h1, h2⟩ := pidx_le pk_nil a
  obtain ⟨ys, he⟩ := pad_pre b (pad a [])
  rw [he, List.length_append]
  omega
theorem nd_below {W : World} {c : List Value} {n : Nd} (h : NdAt W c n) : NdIn W (fun k => k < W.heap.size) c n := by
  induction h with
  | mk k t l br bl no ta lv nv tv cs hn ht hl hc ih =>
    obtain ⟨a1, c1, e1, g1⟩ := hn
    obtain ⟨a2, c2, e2, g2⟩ := ht
    obtain ⟨a3, c3, e3, g3⟩ := hl
    exact .mk k t l br bl no ta lv nv tv cs ⟨a1, c1, e1, fun h0 => by obtain ⟨g, o, k1, k2, k3⟩ := g1 h0; exact ⟨g, o, k1, k2, k2, k3⟩⟩ ⟨a2, c2, e2, fun h0 => by obtain ⟨g, o, k1, k2, k3⟩ := g2 h0; exact ⟨g, o, k1, k2, k2, k3⟩⟩ ⟨a3, c3, e3, fun h0 => by obtain ⟨g, o, k1, k2, k3⟩ := g3 h0; exact ⟨g, o, k1, k2, k2, k3⟩⟩ ih
theorem brk_ok {n : Nd} (h : OkP n) : OkP (brkN n) := by
  cases n with
  | mk k t l br bl no ta =>
    obtain ⟨h1, h2, h3⟩ := h
    exact ⟨by simpa only [brkN, cnt] using h1, by simpa only [brkN, smk] using h2, szt_mk h3.kw h3.inv.1 h3.inv.2.1 h3.inv.2.2.1 h3.inv.2.2.2⟩
set_option maxRecDepth 100000 in
set_option maxHeartbeats 8000000 in
theorem poolLikes_few {PA : World → (Nat → Prop) → (Nat → Prop) → Value → List Nd → Prop} (I : PoolI PA) (k : Int) (t : ByteArray) (l : List Nd) (br bl : Bool) (no ta : List ByteArray) (k2 : Int) (t2 : ByteArray) (l2 : List Nd) (br2 bl2 : Bool) (no2 tl2 : List ByteArray) (la na ta2 la2 na2 ta3 : Option Addr) (lc nc tc lc2 nc2 tc2 : Nat) (w : World)
    (hA : NdAt w [.int .i64 k, .string t, .slice la l.length lc, .bool br, .bool bl, .slice na no.length nc, .slice ta2 ta.length tc] (.mk k t l br bl no ta)) (hB : NdAt w [.int .i64 k2, .string t2, .slice la2 l2.length lc2, .bool br2, .bool bl2, .slice na2 no2.length nc2, .slice ta3 tl2.length tc2] (.mk k2 t2 l2 br2 bl2 no2 tl2)) (HZA : Hid (Szt (.mk k t l br bl no ta))) (HZB : Hid (Szt (.mk k2 t2 l2 br2 bl2 no2 tl2))) :
    Calls Try.prog 4 #[.agg #[.int .i64 k, .string t, .slice la l.length lc, .bool br, .bool bl, .slice na no.length nc, .slice ta2 ta.length tc], .agg #[.int .i64 k2, .string t2, .slice la2 l2.length lc2, .bool br2, .bool bl2, .slice na2 no2.length nc2, .slice ta3 tl2.length tc2]] w fun e w' => e = .returned (.bool true) ∧ Below w.heap.size w w' := by
  obtain ⟨Z, hZ⟩ : ∃ Z, Z = (w.alloc (.cells #[.int .i64 k, .string t, .slice la l.length lc, .bool br, .bool bl, .slice na no.length nc, .slice ta2 ta.length tc] 32)).alloc (.cells #[.int .i64 k2, .string t2, .slice la2 l2.length lc2, .bool br2, .bool bl2, .slice na2 no2.length nc2, .slice ta3 tl2.length tc2] 32) := ⟨_, rfl⟩
  have hZs : Z.heap.size = w.heap.size + 2 := by rw [hZ]; simp
  have hbZ : Below w.heap.size w Z := by rw [hZ]; exact below2 _ _ _
  have h0 : Z.heap[w.heap.size]? = some (.cells #[.int .i64 k, .string t, .slice la l.length lc, .bool br, .bool bl, .slice na no.length nc, .slice ta2 ta.length tc] 32) := by
    rw [hZ]; show ((w.heap.push _).push _)[w.heap.size]? = _
    rw [Array.getElem?_push_lt (by simp), Array.getElem_push_eq]
  have h1 : Z.heap[w.heap.size + 1]? = some (.cells #[.int .i64 k2, .string t2, .slice la2 l2.length lc2, .bool br2, .bool bl2, .slice na2 no2.length nc2, .slice ta3 tl2.length tc2] 32) := by
    rw [hZ]; show ((w.heap.push _).push _)[w.heap.size + 1]? = _
    rw [Array.getElem?_push, if_pos (by simp)]
  have HC : Hid (∀ W, Below Z.heap.size Z W → (W.cell? ⟨w.heap.size, 0, none⟩ = some (.int .i64 k) ∧ W.cell? ⟨w.heap.size, 1, none⟩ = some (.string t) ∧ W.cell? ⟨w.heap.size, 2, none⟩ = some (.slice la l.length lc) ∧ W.cell? ⟨w.heap.size, 3, none⟩ = some (.bool br) ∧ W.cell? ⟨w.heap.size, 4, none⟩ = some (.bool bl) ∧ W.cell? ⟨w.heap.size, 5, none⟩ = some (.slice na no.length nc) ∧ W.cell? ⟨w.heap.size, 6, none⟩ = some (.slice ta2 ta.length tc)) ∧ (W.cell? ⟨w.heap.size + 1, 0, none⟩ = some (.int .i64 k2) ∧ W.cell? ⟨w.heap.size + 1, 1, none⟩ = some (.string t2) ∧ W.cell? ⟨w.heap.size + 1, 2, none⟩ = some (.slice la2 l2.length lc2) ∧ W.cell? ⟨w.heap.size + 1, 3, none⟩ = some (.bool br2) ∧ W.cell? ⟨w.heap.size + 1, 4, none⟩ = some (.bool bl2) ∧ W.cell? ⟨w.heap.size + 1, 5, none⟩ = some (.slice na2 no2.length nc2) ∧ W.cell? ⟨w.heap.size + 1, 6, none⟩ = some (.slice ta3 tl2.length tc2))) := Lib.hid (fun W hb => by
    have e0 := (hb.block _ (by omega)).trans h0
    have e1 := (hb.block _ (by omega)).trans h1
    refine ⟨⟨?_, ?_, ?_, ?_, ?_, ?_, ?_⟩, ?_, ?_, ?_, ?_, ?_, ?_, ?_⟩ <;> first | (rw [cell_of_row W _ _ _ _ _ e0]; rfl) | (rw [cell_of_row W _ _ _ _ _ e1]; rfl))
  have HH : Hid (∀ W, Below Z.heap.size Z W → W.heap[w.heap.size]? = some (.cells #[.int .i64 k, .string t, .slice la l.length lc, .bool br, .bool bl, .slice na no.length nc, .slice ta2 ta.length tc] 32) ∧ W.heap[w.heap.size + 1]? = some (.cells #[.int .i64 k2, .string t2, .slice la2 l2.length lc2, .bool br2, .bool bl2, .slice na2 no2.length nc2, .slice ta3 tl2.length tc2] 32)) := Lib.hid (fun W hb => ⟨(hb.block _ (by omega)).trans h0, (hb.block _ (by omega)).trans h1⟩)
  have HNW : Hid (Calls Try.prog 6 #[] ((w.alloc (.cells #[.int .i64 k, .string t, .slice la l.length lc, .bool br, .bool bl, .slice na no.length nc, .slice ta2 ta.length tc] 32)).alloc (.cells #[.int .i64 k2, .string t2, .slice la2 l2.length lc2, .bool br2, .bool bl2, .slice na2 no2.length nc2, .slice ta3 tl2.length tc2] 32)) fun e w' => ∃ g : Nat, e = .returned (.pointer (some ⟨g, 0, none⟩)) ∧ PAt PA (fun k => k < w.heap.size) Z.heap.size (.pointer (some ⟨g, 0, none⟩)) [] w' ∧ Below Z.heap.size Z w') := Lib.hid (by rw [← hZ]; exact pat_new I Z _)
  have UP : Hid (∀ W, Below Z.heap.size Z W → Below w.heap.size w W) := Lib.hid (fun W hb => hbZ.trans (hb.mono hbZ.size))
  have HFA : Hid (∀ W, Below Z.heap.size Z W → Calls Try.prog 8 #[.agg #[.int .i64 k, .string t, .slice la l.length lc, .bool br, .bool bl, .slice na no.length nc, .slice ta2 ta.length tc]] W fun e w' => e = .returned (.bool (fewB (.mk k t l br bl no ta))) ∧ Below W.heap.size W w') := Lib.hid (fun W hb => fewB_any _ _ W (hA.bel (UP.out W hb)))
  have HFB : Hid (∀ W, Below Z.heap.size Z W → Calls Try.prog 8 #[.agg #[.int .i64 k2, .string t2, .slice la2 l2.length lc2, .bool br2, .bool bl2, .slice na2 no2.length nc2, .slice ta3 tl2.length tc2]] W fun e w' => e = .returned (.bool (fewB (.mk k2 t2 l2 br2 bl2 no2 tl2))) ∧ Below W.heap.size W w') := Lib.hid (fun W hb => fewB_any _ _ W (hB.bel (UP.out W hb)))
  have HA := Lib.hid hA
  have HB := Lib.hid hB
  have HI := Lib.hid I
  have HTD : Hid (∀ W, Calls Try.prog 7 #[] W fun e w' => e = .returned (.bool true) ∧ Below W.heap.size W w') := Lib.hid (fun W => told11_any I W)
  clear hA hB I
  go_enter Try.func4, Try.ntmps4
  go_wp2_with fail
  refine HNW.out.mono ?_
  rintro e w1 ⟨g, rfl, hp1, hb1⟩
  have HP1 := Lib.hid hp1
  have HB1 := Lib.hid hb1
  obtain ⟨⟨c0, c1, c2, c3, c4, c5, c6⟩, ⟨e0, e1, e2, e3, e4, e5, e6⟩⟩ := HC.out _ hb1
  clear hp1 hb1 h0 h1
  cases hfa : fewB (.mk k t l br bl no ta)
  · rw [hfa] at HFA
    go_wp2_with fail
    refine (HFA.out _ HB1.out).mono ?_
    rintro e w2 ⟨rfl, hb2⟩
    have HB2 := Lib.hid (HB1.out.trans (hb2.mono HB1.out.size))
    clear hb2
    obtain ⟨⟨c0, c1, c2, c3, c4, c5, c6⟩, ⟨e0, e1, e2, e3, e4, e5, e6⟩⟩ := HC.out _ HB2.out
    go_wp2_with fail
    refine (HTD.out _).mono ?_
    rintro e w9 ⟨rfl, hb9⟩
    have HB9 := Lib.hid (UP.out _ (HB2.out.trans (hb9.mono HB2.out.size)))
    clear hb9
    go_wp2_with fail
    go_ret
    exact ⟨rfl, HB9.out⟩
  rw [hfa] at HFA
  cases hfb : fewB (.mk k2 t2 l2 br2 bl2 no2 tl2)
  · rw [hfb] at HFB
    go_wp2_with fail
    refine (HFA.out _ HB1.out).mono ?_
    rintro e w2 ⟨rfl, hb2⟩
    have HB2 := Lib.hid (HB1.out.trans (hb2.mono HB1.out.size))
    clear hb2
    obtain ⟨⟨c0, c1, c2, c3, c4, c5, c6⟩, ⟨e0, e1, e2, e3, e4, e5, e6⟩⟩ := HC.out _ HB2.out
    go_wp2_with fail
    refine (HFB.out _ HB2.out).mono ?_
    rintro e w3 ⟨rfl, hb3⟩
    have HB3 := Lib.hid (HB2.out.trans (hb3.mono HB2.out.size))
    clear hb3
    go_wp2_with fail
    refine (HTD.out _).mono ?_
    rintro e w9 ⟨rfl, hb9⟩
    have HB9 := Lib.hid (UP.out _ (HB3.out.trans (hb9.mono HB3.out.size)))
    clear hb9
    go_wp2_with fail
    go_ret
    exact ⟨rfl, HB9.out⟩
  rw [hfb] at HFB
  have oka := OkQ.p ⟨fewB_okT hfa, HZA.out⟩
  have okb := OkQ.p ⟨fewB_okT hfb, HZB.out⟩
  have okta := fewB_okT hfa
  have fca := (fewB_ok hfa).1
  have fcb := (fewB_ok hfb).1
  have hlen1 := pad_len (.mk k t l br bl no ta) []
  go_wp2_with fail
  refine (HFA.out _ HB1.out).mono ?_
  rintro e w2 ⟨rfl, hb2⟩
  have HB2 := Lib.hid (HB1.out.trans (hb2.mono HB1.out.size))
  have HP2 := Lib.hid (HP1.out.below HI.out hb2)
  clear hb2
  obtain ⟨⟨c0, c1, c2, c3, c4, c5, c6⟩, ⟨e0, e1, e2, e3, e4, e5, e6⟩⟩ := HC.out _ HB2.out
  go_wp2_with fail
  refine (HFB.out _ HB2.out).mono ?_
  rintro e w3 ⟨rfl, hb3⟩
  have HB3 := Lib.hid (HB2.out.trans (hb3.mono HB2.out.size))
  have HP3 := Lib.hid (HP2.out.below HI.out hb3)
  clear hb3
  obtain ⟨⟨c0, c1, c2, c3, c4, c5, c6⟩, ⟨e0, e1, e2, e3, e4, e5, e6⟩⟩ := HC.out _ HB3.out
  have hG : ∀ q, q < w.heap.size → q < Z.heap.size := fun q hq => by omega
  have QA : Hid (∀ W, Below w3.heap.size w3 W → Calls Try.prog 10 #[.pointer (some ⟨g, 0, none⟩), .agg #[.int .i64 k, .string t, .slice la l.length lc, .bool br, .bool bl, .slice na no.length nc, .slice ta2 ta.length tc]] W fun e w' => e = .returned (.int .i64 (pidx (.mk k t l br bl no ta) [] : Int)) ∧ Hid (PAt PA (fun q => q < w.heap.size) Z.heap.size (.pointer (some ⟨g, 0, none⟩)) (pad (.mk k t l br bl no ta) []) w') ∧ Below Z.heap.size Z w') := Lib.hid (fun W hb => by
    have hbw := HB3.out.trans (hb.mono HB3.out.size)
    refine ((HP3.out.below HI.out hb).put HI.out hG ((nd_below HA.out).keep (keeps_below (UP.out _ hbw))) oka (by simp; omega)).mono ?_
    rintro e w' ⟨h1, h2, h3⟩
    exact ⟨h1, Lib.hid h2, hbw.trans h3⟩)
  have QB : Hid (∀ W, PAt PA (fun q => q < w.heap.size) Z.heap.size (.pointer (some ⟨g, 0, none⟩)) (pad (.mk k t l br bl no ta) []) W → Below Z.heap.size Z W → Calls Try.prog 10 #[.pointer (some ⟨g, 0, none⟩), .agg #[.int .i64 k2, .string t2, .slice la2 l2.length lc2, .bool br2, .bool bl2, .slice na2 no2.length nc2, .slice ta3 tl2.length tc2]] W fun e w' => e = .returned (.int .i64 (pidx (.mk k2 t2 l2 br2 bl2 no2 tl2) (pad (.mk k t l br bl no ta) []) : Int)) ∧ Hid (PAt PA (fun q => q < w.heap.size) Z.heap.size (.pointer (some ⟨g, 0, none⟩)) (pad (.mk k2 t2 l2 br2 bl2 no2 tl2) (pad (.mk k t l br bl no ta) [])) w') ∧ Below Z.heap.size Z w') := Lib.hid (fun W hp hbw => by
    refine (hp.put HI.out hG ((nd_below HB.out).keep (keeps_below (UP.out _ hbw))) okb (by simp at hlen1; omega)).mono ?_
    rintro e w' ⟨h1, h2, h3⟩
    exact ⟨h1, Lib.hid h2, hbw.trans h3⟩)
  have HBd : Hid (Below w3.heap.size w3 w3.drew) := Lib.hid (Below.drew (Below.refl _ _))
  have HBz : Hid (Below Z.heap.size Z w3.drew) := Lib.hid (HB3.out.trans (HBd.out.mono HB3.out.size))
  have CC := Lib.hid (fun w' (hb : Below Z.heap.size Z w') => (⟨(HC.out w' hb).1, (HC.out w' hb).2, Lib.hid hb⟩ : (w'.cell? ⟨w.heap.size, 0, none⟩ = some (.int .i64 k) ∧ w'.cell? ⟨w.heap.size, 1, none⟩ = some (.string t) ∧ w'.cell? ⟨w.heap.size, 2, none⟩ = some (.slice la l.length lc) ∧ w'.cell? ⟨w.heap.size, 3, none⟩ = some (.bool br) ∧ w'.cell? ⟨w.heap.size, 4, none⟩ = some (.bool bl) ∧ w'.cell? ⟨w.heap.size, 5, none⟩ = some (.slice na no.length nc) ∧ w'.cell? ⟨w.heap.size, 6, none⟩ = some (.slice ta2 ta.length tc)) ∧ (w'.cell? ⟨w.heap.size + 1, 0, none⟩ = some (.int .i64 k2) ∧ w'.cell? ⟨w.heap.size + 1, 1, none⟩ = some (.string t2) ∧ w'.cell? ⟨w.heap.size + 1, 2, none⟩ = some (.slice la2 l2.length lc2) ∧ w'.cell? ⟨w.heap.size + 1, 3, none⟩ = some (.bool br2) ∧ w'.cell? ⟨w.heap.size + 1, 4, none⟩ = some (.bool bl2) ∧ w'.cell? ⟨w.heap.size + 1, 5, none⟩ = some (.slice na2 no2.length nc2) ∧ w'.cell? ⟨w.heap.size + 1, 6, none⟩ = some (.slice ta3 tl2.length tc2)) ∧ Hid (Below Z.heap.size Z w')))
  have htwo := pool_two (.mk k t l br bl no ta) (.mk k2 t2 l2 br2 bl2 no2 tl2)
  have hbrk := pool_brk (.mk k t l br bl no ta) (.mk k2 t2 l2 br2 bl2 no2 tl2)
  have hin := pool_in (.mk k t l br bl no ta) (.mk k2 t2 l2 br2 bl2 no2 tl2)
  have hlen2 := pad_len (.mk k2 t2 l2 br2 bl2 no2 tl2) (pad (.mk k t l br bl no ta) [])
  obtain ⟨X, hX⟩ : ∃ X, X = pidx (.mk k t l br bl no ta) [] := ⟨_, rfl⟩
  obtain ⟨xs, hxs⟩ : ∃ xs, xs = pad (.mk k t l br bl no ta) [] := ⟨_, rfl⟩
  rw [← hX, ← hxs] at QA
  rw [← hxs] at QB hlen1 hlen2
  rw [← hX, ← hxs] at htwo hbrk hin
  obtain ⟨Y, hY⟩ : ∃ Y, Y = pidx (.mk k2 t2 l2 br2 bl2 no2 tl2) xs := ⟨_, rfl⟩
  obtain ⟨ys, hys⟩ : ∃ ys, ys = pad (.mk k2 t2 l2 br2 bl2 no2 tl2) xs := ⟨_, rfl⟩
  rw [← hY, ← hys] at QB
  rw [← hY] at htwo
  rw [← hys] at hbrk hin hlen2
  clear hX hxs hY hys hfa hfb
  go_wp2_with fail
  go_region_held3 (fun w' => (w'.cell? ⟨w.heap.size, 0, none⟩ = some (.int .i64 k) ∧ w'.cell? ⟨w.heap.size, 1, none⟩ = some (.string t) ∧ w'.cell? ⟨w.heap.size, 2, none⟩ = some (.slice la l.length lc) ∧ w'.cell? ⟨w.heap.size, 3, none⟩ = some (.bool br) ∧ w'.cell? ⟨w.heap.size, 4, none⟩ = some (.bool bl) ∧ w'.cell? ⟨w.heap.size, 5, none⟩ = some (.slice na no.length nc) ∧ w'.cell? ⟨w.heap.size, 6, none⟩ = some (.slice ta2 ta.length tc)) ∧ (w'.cell? ⟨w.heap.size + 1, 0, none⟩ = some (.int .i64 k2) ∧ w'.cell? ⟨w.heap.size + 1, 1, none⟩ = some (.string t2) ∧ w'.cell? ⟨w.heap.size + 1, 2, none⟩ = some (.slice la2 l2.length lc2) ∧ w'.cell? ⟨w.heap.size + 1, 3, none⟩ = some (.bool br2) ∧ w'.cell? ⟨w.heap.size + 1, 4, none⟩ = some (.bool bl2) ∧ w'.cell? ⟨w.heap.size + 1, 5, none⟩ = some (.slice na2 no2.length nc2) ∧ w'.cell? ⟨w.heap.size + 1, 6, none⟩ = some (.slice ta3 tl2.length tc2)) ∧ Hid (Below Z.heap.size Z w')) (first | exact CC.out _ ht | exact CC.out _ HBz.out) (first
    | (go_at_call 10; refine (QA.out _ HBd.out).mono ?_; clear QA; rintro e w4 ⟨rfl, HP4, ht⟩)
    | (go_at_call 10; refine (QB.out _ HP4.out ht).mono ?_; rintro e w5 ⟨rfl, HP5, ht⟩))
  have HB5 := Lib.hid ht
  have HP5' := Lib.hid HP5.out
  obtain ⟨⟨c0, c1, c2, c3, c4, c5, c6⟩, ⟨e0, e1, e2, e3, e4, e5, e6⟩⟩ := HC.out _ ht
  have HLN := Lib.hid (HP5.out.len HI.out)
  clear ht HBd HBz CC QB HP4 HP1 HP2 HP3
  go_wp2_with fail
  refine HLN.out.mono ?_
  rintro e w6 ⟨rfl, hp6, hb6⟩
  have HB6 := Lib.hid (HB5.out.trans (hb6.mono HB5.out.size))
  have HP6 := Lib.hid hp6
  clear hp6 hb6
  obtain ⟨⟨c0, c1, c2, c3, c4, c5, c6⟩, ⟨e0, e1, e2, e3, e4, e5, e6⟩⟩ := HC.out _ HB6.out
  have f3 := frz_of (HH.out _ HB6.out).1 3
  have hks : w6.heap.size ≤ (w6.setCell ⟨w.heap.size, 3, none⟩ (.bool (!br))).heap.size := (keeps_set (P := fun _ => False) w6 (fun h => h) 3 _).1
  have hu0 : (w6.setCell ⟨w.heap.size, 3, none⟩ (.bool (!br))).heap[w.heap.size]? = some (.cells #[.int .i64 k, .string t, .slice la l.length lc, .bool (!br), .bool bl, .slice na no.length nc, .slice ta2 ta.length tc] 32) := heap_setCell_same _ _ 3 _ _ _ (HH.out _ HB6.out).1
  have hu1 : (w6.setCell ⟨w.heap.size, 3, none⟩ (.bool (!br))).heap[w.heap.size + 1]? = some (.cells #[.int .i64 k2, .string t2, .slice la2 l2.length lc2, .bool br2, .bool bl2, .slice na2 no2.length nc2, .slice ta3 tl2.length tc2] 32) := (Below.heap_setCell _ _ _ _ (by show w.heap.size + 1 ≠ w.heap.size; omega)).trans (HH.out _ HB6.out).2
  have hbu : Below w.heap.size w (w6.setCell ⟨w.heap.size, 3, none⟩ (.bool (!br))) := (UP.out _ HB6.out).setCell (Nat.le_refl _) _
  have hpu : PAt PA (fun q => q < w.heap.size) Z.heap.size (.pointer (some ⟨g, 0, none⟩)) ys (w6.setCell ⟨w.heap.size, 3, none⟩ (.bool (!br))) := by
    obtain ⟨F, g1, g2, g3, g4⟩ := HP6.out
    refine ⟨F, HI.out.keep g1 ⟨hks, fun q hq _ => Below.heap_setCell _ _ _ _ ?_⟩, g2, Nat.le_trans g3 hks, g4⟩
    show q ≠ w.heap.size
    rcases hq with h | h
    · have := g2 q h; omega
    · have : q < w.heap.size := h; omega
  obtain ⟨u, hu⟩ : ∃ u, u = w6.setCell ⟨w.heap.size, 3, none⟩ (.bool (!br)) := ⟨_, rfl⟩
  rw [← hu] at hu0 hu1 hbu hpu
  have hzu : Z.heap.size ≤ u.heap.size := by rw [hu]; exact Nat.le_trans HB6.out.size hks
  have HEU := Lib.hid hu
  have HZU := Lib.hid hzu
  have HPU := Lib.hid hpu
  have UP2 : Hid (∀ W, Below Z.heap.size u W → Below w.heap.size w W) := Lib.hid (fun W hb => hbu.trans (hb.mono (by omega)))
  have HC2 : Hid (∀ W, Below Z.heap.size u W → (W.cell? ⟨w.heap.size, 0, none⟩ = some (.int .i64 k) ∧ W.cell? ⟨w.heap.size, 1, none⟩ = some (.string t) ∧ W.cell? ⟨w.heap.size, 2, none⟩ = some (.slice la l.length lc) ∧ W.cell? ⟨w.heap.size, 3, none⟩ = some (.bool (!br)) ∧ W.cell? ⟨w.heap.size, 4, none⟩ = some (.bool bl) ∧ W.cell? ⟨w.heap.size, 5, none⟩ = some (.slice na no.length nc) ∧ W.cell? ⟨w.heap.size, 6, none⟩ = some (.slice ta2 ta.length tc)) ∧ (W.cell? ⟨w.heap.size + 1, 0, none⟩ = some (.int .i64 k2) ∧ W.cell? ⟨w.heap.size + 1, 1, none⟩ = some (.string t2) ∧ W.cell? ⟨w.heap.size + 1, 2, none⟩ = some (.slice la2 l2.length lc2) ∧ W.cell? ⟨w.heap.size + 1, 3, none⟩ = some (.bool br2) ∧ W.cell? ⟨w.heap.size + 1, 4, none⟩ = some (.bool bl2) ∧ W.cell? ⟨w.heap.size + 1, 5, none⟩ = some (.slice na2 no2.length nc2) ∧ W.cell? ⟨w.heap.size + 1, 6, none⟩ = some (.slice ta3 tl2.length tc2))) := Lib.hid (fun W hb => by
    have e0 := (hb.block _ (by omega)).trans hu0
    have e1 := (hb.block _ (by omega)).trans hu1
    refine ⟨⟨?_, ?_, ?_, ?_, ?_, ?_, ?_⟩, ?_, ?_, ?_, ?_, ?_, ?_, ?_⟩ <;> first | (rw [cell_of_row W _ _ _ _ _ e0]; rfl) | (rw [cell_of_row W _ _ _ _ _ e1]; rfl))
  have HA2 : Hid (∀ W, Below Z.heap.size u W → NdIn W (fun q => q < w.heap.size) [.int .i64 k, .string t, .slice la l.length lc, .bool (!br), .bool bl, .slice na no.length nc, .slice ta2 ta.length tc] (brkN (.mk k t l br bl no ta))) := Lib.hid (fun W hb => by
    have h9 := (nd_below HA.out).keep (keeps_below (UP2.out W hb))
    cases h9 with
    | mk _ _ _ _ _ _ _ _ _ _ cs hn2 ht2 hl2 hc2 => exact .mk k t l (!br) bl no ta _ _ _ cs hn2 ht2 hl2 hc2)
  have HLK : Hid (∀ W, Below Z.heap.size u W → Calls Try.prog 14 #[.agg #[.int .i64 k, .string t, .slice la l.length lc, .bool (!br), .bool bl, .slice na no.length nc, .slice ta2 ta.length tc], .agg #[.int .i64 k2, .string t2, .slice la2 l2.length lc2, .bool br2, .bool bl2, .slice na2 no2.length nc2, .slice ta3 tl2.length tc2]] W fun e w' => e = .returned (.bool (lk false (.mk k t l br bl no ta) (.mk k2 t2 l2 br2 bl2 no2 tl2))) ∧ Below W.heap.size W w') := Lib.hid (fun W hb => by
    have hokb : OkT (brkN (.mk k t l br bl no ta)) := ⟨by simpa only [brkN, cnt] using okta.1, by simpa only [brkN, smk] using okta.2⟩
    have h9 := rlikes_any _ _ _ _ W (HA2.out W hb).nd (HB.out.bel (UP2.out W hb)) hokb
    rw [lk_comm' false (brkN _), ← lk_cong (lk_brk _), lk_comm'] at h9
    exact h9)
  have HPT : Hid (∀ W, Below Z.heap.size u W → PAt PA (fun q => q < w.heap.size) Z.heap.size (.pointer (some ⟨g, 0, none⟩)) ys W → Calls Try.prog 10 #[.pointer (some ⟨g, 0, none⟩), .agg #[.int .i64 k, .string t, .slice la l.length lc, .bool (!br), .bool bl, .slice na no.length nc, .slice ta2 ta.length tc]] W fun e w' => e = .returned (.int .i64 (X : Int)) ∧ PAt PA (fun q => q < w.heap.size) Z.heap.size (.pointer (some ⟨g, 0, none⟩)) ys w' ∧ Below Z.heap.size W w') := Lib.hid (fun W hb hp => by
    have hcb : cnt (brkN (.mk k t l br bl no ta)) = cnt (.mk k t l br bl no ta) := by simp only [brkN, cnt]
    have h9 := hp.put HI.out hG (HA2.out W hb) (brk_ok oka) (by rw [hcb]; simp at hlen1; omega)
    rw [hbrk.1, hbrk.2] at h9
    exact h9)
  have HP0 : Hid (∀ W, Below Z.heap.size u W → Calls Try.prog 10 #[.pointer none, .agg #[.int .i64 k, .string t, .slice la l.length lc, .bool (!br), .bool bl, .slice na no.length nc, .slice ta2 ta.length tc]] W fun e w' => e = .returned (.int .i64 0) ∧ Below W.heap.size W w') := Lib.hid (fun W hb => HI.out.put0 W _ _ (HA2.out W hb).nd)
  have HBU : Hid (∀ W, W = w6.setCell ⟨w.heap.size, 3, none⟩ (.bool (!br)) → Below u.heap.size u W) := Lib.hid (fun W e => by rw [e, ← hu]; exact Below.refl _ _)
  obtain ⟨R, hR⟩ : ∃ R, R = lk false (.mk k t l br bl no ta) (.mk k2 t2 l2 br2 bl2 no2 tl2) := ⟨_, rfl⟩
  rw [← hR] at HLK htwo
  have rr : (R == R) = true := beq_self_eq_true R
  have xx : ((X : Int) == (X : Int)) = true := beq_self_eq_true _
  have yy : ((ys.length : Int) == (ys.length : Int)) = true := beq_self_eq_true _
  have x1 : (1 : Int) ≤ (X : Int) := by omega
  have x2 : (X : Int) ≤ (ys.length : Int) := by omega
  clear hu0 hu1 hbu hpu hzu hu hks hR hbrk hin hlen1 hlen2 oka okb okta fca fcb hG hZs hbZ
  go_wp2_with fail
  refine (HTD.out _).mono ?_
  rintro e v1 ⟨rfl, hd⟩
  have hd := (HBU.out _ rfl).trans (hd.mono (HBU.out _ rfl).size)
  have D1 : Hid (Below Z.heap.size u v1) := Lib.hid (hd.mono HZU.out)
  have P1 := Lib.hid (HPU.out.below HI.out hd)
  clear hd
  obtain ⟨⟨c0, c1, c2, c3, c4, c5, c6⟩, ⟨e0, e1, e2, e3, e4, e5, e6⟩⟩ := HC2.out _ D1.out
  go_wp2_with fail
  refine (HLK.out _ D1.out).mono ?_
  rintro e v2 ⟨rfl, hd⟩
  have D2 := Lib.hid (D1.out.trans (hd.mono (Nat.le_trans HZU.out D1.out.size)))
  have P2 := Lib.hid (P1.out.below HI.out hd)
  clear hd
  obtain ⟨⟨c0, c1, c2, c3, c4, c5, c6⟩, ⟨e0, e1, e2, e3, e4, e5, e6⟩⟩ := HC2.out _ D2.out
  go_wp2_with fail
  refine (HPT.out _ D2.out P2.out).mono ?_
  rintro e v3 ⟨rfl, hp, hd⟩
  have D3 := Lib.hid (D2.out.trans hd)
  have P3 := Lib.hid hp
  clear hd hp
  obtain ⟨⟨c0, c1, c2, c3, c4, c5, c6⟩, ⟨e0, e1, e2, e3, e4, e5, e6⟩⟩ := HC2.out _ D3.out
  have HLN3 := Lib.hid (P3.out.len HI.out)
  go_wp2_with fail
  refine HLN3.out.mono ?_
  rintro e v4 ⟨rfl, -, hd⟩
  have D4 := Lib.hid (D3.out.trans (hd.mono (Nat.le_trans HZU.out D3.out.size)))
  clear hd
  obtain ⟨⟨c0, c1, c2, c3, c4, c5, c6⟩, ⟨e0, e1, e2, e3, e4, e5, e6⟩⟩ := HC2.out _ D4.out
  go_wp2_with fail
  refine (HP0.out _ D4.out).mono ?_
  rintro e v5 ⟨rfl, hd⟩
  have D5 := Lib.hid (D4.out.trans (hd.mono (Nat.le_trans HZU.out D4.out.size)))
  clear hd
  have HL0 := Lib.hid (HI.out.len0 v5)
  go_wp2_with fail
  refine HL0.out.mono ?_
  rintro e v6 ⟨rfl, hd⟩
  have D6 := Lib.hid (D5.out.trans (hd.mono (Nat.le_trans HZU.out D5.out.size)))
  clear hd
  have HS0 := Lib.hid (HI.out.size0 v6 1)
  go_wp2_with fail
  refine HS0.out.mono ?_
  rintro e v7 ⟨rfl, hd⟩
  have D7 := Lib.hid (UP2.out _ (D6.out.trans (hd.mono (Nat.le_trans HZU.out D6.out.size))))
  clear hd
  go_wp2_with fail
  go_ret
  exact ⟨rfl, D7.out⟩
theorem poolLikes_walk {PA : World → (Nat → Prop) → (Nat → Prop) → Value → List Nd → Prop} (I : PoolI PA) (ca : List Value) (na : Nd) (cb : List Value) (nb : Nd) (w : World) (ha : NdAt w ca na) (hb : NdAt w cb nb) (sa : Szt na) (sb : Szt nb) :
    Calls Try.prog 4 #[.agg ca.toArray, .agg cb.toArray] w fun e w' => e = .returned (.bool true) ∧ Below w.heap.size w w' := by
  have ha' := ha
  have hb' := hb
  obtain ⟨k, t, l, br, bl, no, ta, lv, nv, tv, cs, ⟨na, nc, rfl, -⟩, ⟨ta2, tc, rfl, -⟩, ⟨la, lc, rfl, -⟩, -⟩ := ha
  obtain ⟨k2, t2, l2, br2, bl2, no2, tl2, lv2, nv2, tv2, cs2, ⟨na2, nc2, rfl, -⟩, ⟨ta3, tc2, rfl, -⟩, ⟨la2, lc2, rfl, -⟩, -⟩ := hb
  exact poolLikes_few I k t l br bl no ta k2 t2 l2 br2 bl2 no2 tl2 la na ta2 la2 na2 ta3 lc nc tc lc2 nc2 tc2 w ha' hb' (Lib.hid sa) (Lib.hid sb)
end Go.Proofs.Ytkngnkonddpbeaa
