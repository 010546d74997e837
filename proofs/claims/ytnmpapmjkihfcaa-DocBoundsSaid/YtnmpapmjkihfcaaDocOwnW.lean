/-
  THE PROGRAM's copies of documents: own, walked.
-/
import Derived.Test.YtnmpapmjkihfcaaDocOwn
import Derived.Test.YtnmpapmjkihfcaaRefDocD
set_option linter.all false
namespace Go.Proofs.Ytnmpapmjkihfcaa
open Go.RowKit Go.PlainAid

theorem dtz_ks {b : Nat} {k n : Int} {t : ByteArray} {l : List Dc} (h : dtz b (.mk k n t l)) : t.size ≤ b ∧ dtzL b l := by simpa only [dtz] using h
/-- The two stores: a text's cell as it was, a row's cell a row that says the same. -/
theorem Ow.stores {W W5 : World} {B : Nat} {N : Nat → Prop} {rv v : Value} {l : List Dc} {S : List (Value × List Dc)} {g o : Nat} {t : ByteArray} {a0 : Option Addr} {c0 : Nat} {v2 : Value} {lx : List Dc} {f1 : Value} {q : List Dc}
    (h : Ow W B N rv l v S) (hb : Below W.heap.size W W5) (hq : DrIn W N f1 q) (hg : N g) (hgB : B ≤ g) (ht : W.cell? ⟨g, o + 2, none⟩ = some (.string t)) (hl : W.cell? ⟨g, o + 3, none⟩ = some (.slice a0 lx.length c0)) (hlx : DrIn W N (.slice a0 lx.length c0) lx) (hn : Nw W W5 N v2 lx) :
    ∃ N' : Nat → Prop, Ow ((W5.setCell ⟨g, o + 2, none⟩ (.string t)).setCell ⟨g, o + 3, none⟩ v2) B N' rv l v S ∧ DrIn ((W5.setCell ⟨g, o + 2, none⟩ (.string t)).setCell ⟨g, o + 3, none⟩ v2) N' f1 q ∧ DrIn ((W5.setCell ⟨g, o + 2, none⟩ (.string t)).setCell ⟨g, o + 3, none⟩ v2) N' v2 lx ∧
      ((W5.setCell ⟨g, o + 2, none⟩ (.string t)).setCell ⟨g, o + 3, none⟩ v2).cell? ⟨g, o + 3, none⟩ = some v2 ∧ N' g ∧ (∀ k, N' k → N k ∨ W.heap.size ≤ k) ∧ Below B W ((W5.setCell ⟨g, o + 2, none⟩ (.string t)).setCell ⟨g, o + 3, none⟩ v2) := by
  obtain ⟨a2, c2, e2, hnew, N', h1, h2, h3⟩ := hn
  have hk : Keeps N W W5 := ⟨hb.size, fun g _ hl => hb.block g hl⟩
  have hlt := h.lt g hg
  have ht5 := (hb.cell (p := ⟨g, o + 2, none⟩) hlt).trans ht
  have hl5 := (hb.cell (p := ⟨g, o + 3, none⟩) hlt).trans hl
  have h5 := h.grow hb h1 h2
  have hq5 := (hq.keep hk).wide (fun g _ => h1 g)
  have hx5 := (hlx.keep hk).wide (fun g _ => h1 g)
  have hs6 : W5.heap.size ≤ (W5.setCell ⟨g, o + 2, none⟩ (.string t)).heap.size := by simp
  have hc6 := fun g' j => set_same ht5 g' j
  have h6 := h5.text (h1 g hg) ht5
  have hl6 := (hc6 g (o + 3)).trans hl5
  have hx6 := hx5.same hs6 hc6
  have h36 := h3.same hs6 hc6
  refine ⟨N', h6.repl (h1 g hg) hl6 hx6 h36, DrIn.repl hl6 hx6 h36 _ _ _ (Nat.le_refl _) (hq5.same hs6 hc6), DrIn.repl hl6 hx6 h36 _ _ _ (Nat.le_refl _) h36, World.cell?_setCell_same' _ _ _ (by rw [hl6]; rfl), h1 g hg, fun k hk => (h2 k hk).imp id (fun h => h.1), ?_⟩
  have hbw : B ≤ W.heap.size := Nat.le_of_lt (Nat.lt_of_le_of_lt hgB hlt)
  exact ((hb.mono hbw).setCell (p := ⟨g, o + 2, none⟩) hgB _).setCell (p := ⟨g, o + 3, none⟩) hgB _
theorem DrIn.at {W : World} {P : Nat → Prop} {a : Option Addr} {n c : Nat} {q : List Dc} (h : DrIn W P (.slice a n c) q) {j : Nat} {x : Dc} (hx : q[j]? = some x) : ∃ g o, a = some ⟨g, o, none⟩ ∧ DIn W P g (o + j * 4) x := by
  obtain ⟨cs, ⟨a', c', e, h1, h2, h3⟩, h4⟩ := h
  simp only [Value.slice.injEq] at e
  obtain ⟨rfl, -, rfl⟩ := e
  have hj : j < q.length := (List.getElem?_eq_some_iff.1 hx).1
  obtain ⟨g, o, rfl, g2, g3, g4⟩ := h3 (by omega)
  exact ⟨g, o, rfl, g2, g3, cs j, h4 j x hx, fun i u hu => g4 j hj i u hu⟩
theorem Nw.ahead {W w3 w4 : World} {N : Nat → Prop} {v2 : Value} {lx : List Dc} (h : Nw w3 w4 N v2 lx) (hw : W.heap.size ≤ w3.heap.size) : Nw W w4 N v2 lx := by
  obtain ⟨a2, c2, e2, hnew, N', h1, h2, h3⟩ := h
  exact ⟨a2, c2, e2, fun hl => by obtain ⟨g, e, hg, hf⟩ := hnew hl; exact ⟨g, e, Nat.le_trans hw hg, hf⟩, N', h1, fun g hg => (h2 g hg).imp id (fun ⟨x, y⟩ => ⟨Nat.le_trans hw x, y⟩), h3⟩
set_option maxRecDepth 100000 in
set_option maxHeartbeats 4000000 in
theorem own_any (l : List Dc) (hl : dcntL l ≤ 100000) (hz : dtzL 1048576 l) (v : Value) (w : World) (P : Nat → Prop) (hP : ∀ g, P g → g < w.heap.size) (h : DrIn w P v l) :
    Calls Try.prog 27 #[v] w fun e w' => ∃ v2, e = .returned v2 ∧ Below w.heap.size w w' ∧ (∃ a c, v2 = .slice a l.length c) ∧ DrIn w' (fun g => P g ∨ w.heap.size ≤ g) v2 l := by
  have hll := len_dcntL l
  have HC0 := Lib.hid (dclone_any l (by omega) v w P hP h)
  have HP := Lib.hid hP
  obtain ⟨B, hB⟩ : ∃ B, B = w.heap.size := ⟨_, rfl⟩
  have HB := Lib.hid hB
  have hrow := Try.underlying46
  obtain ⟨i0, hi, hz0, hz1, hz2⟩ := info_parts infoDs
  have HZ0 := Lib.hid hz
  clear h hz hB hP
  go_enter Try.func27, Try.ntmps27
  go_wp2_with fail
  refine HC0.out.mono ?_
  rintro e w1 ⟨rv, rfl, hb1, hn1⟩
  obtain ⟨a1, c1, rfl, hnew1, N1, p1, p2, p3⟩ := hn1
  have O0 : Ow (w1.alloc (.cells #[.slice a1 l.length c1] 22)) B N1 (.slice a1 l.length c1) l (.slice (some ⟨w1.heap.size, 0, none⟩) 1 1) [(.slice a1 l.length c1, l)] := by
    have hk : Keeps N1 w1 (w1.alloc (.cells #[.slice a1 l.length c1] 22)) := keeps_below (below1 _ _)
    have hlt : ∀ g, N1 g → g < w1.heap.size := fun g hg => by
      rcases p2 g hg with h | h
      · have := HP.out g h; have := hb1.size; omega
      · exact h.2
    refine ⟨p3.keep hk, ⟨rfl, .inr ⟨w1.heap.size, 1, _, rfl, by have := HB.out; have := hb1.size; omega, by show (w1.heap.push _)[w1.heap.size]? = _; rw [Array.getElem?_push, if_pos rfl], Nat.le_refl _, by decide, rfl, rfl⟩⟩, ?_, ?_, ?_, ?_⟩
    · intro f hf
      simp only [List.mem_cons, List.not_mem_nil, or_false] at hf
      subst hf
      exact p3.keep hk
    · intro f hf hne
      simp only [List.mem_cons, List.not_mem_nil, or_false] at hf
      subst hf
      obtain ⟨g, e, hg, hf⟩ := hnew1 hne
      have hgl := ((e ▸ p3 : DrIn w1 N1 (.slice (some ⟨g, 0, none⟩) _ _) l).blk hne).2
      exact ⟨g, 0, _, _, by rw [e], by rw [HB.out]; exact hg, fun i => (World.frozen?_of_block ((below1 w1 _).block g hgl)).trans (hf i)⟩
    · intro g e hn
      have e2 : w1.heap.size = g := by cases e; rfl
      have := hlt _ hn
      omega
    · intro g hn
      have := hlt _ hn
      simp; omega
  have HO0 := Lib.hid O0
  have HBB : Hid (Below B w (w1.alloc (.cells #[.slice a1 l.length c1] 22))) := Lib.hid (by rw [HB.out]; exact hb1.trans ((below1 _ _).mono hb1.size))
  have HZ1 : Hid (∀ f ∈ [((.slice a1 l.length c1 : Value), l)], dtzL 1048576 f.2) := Lib.hid (fun f hf => by simp only [List.mem_cons, List.not_mem_nil, or_false] at hf; subst hf; exact HZ0.out)
  have HPN : Hid (∀ g, N1 g → P g ∨ B ≤ g) := Lib.hid (fun g hg => (p2 g hg).imp id (fun h => by rw [HB.out]; exact h.1))
  clear O0 hb1 p1 p2 p3 hnew1
  go_wp2_with fail
  go_loopg [3] (2 * tS [((.slice a1 l.length c1 : Value), l)] + 1) (fun gn v wr => ∃ (S : List (Value × List Dc)) (N : Nat → Prop), gn = 2 * tS S + S.length ∧ gn ≤ 200001 ∧ Hid (Ow wr B N (.slice a1 l.length c1) l v S) ∧ Hid (Below B w wr) ∧ Hid (∀ f ∈ S, dtzL 1048576 f.2) ∧ Hid (∀ g, N g → P g ∨ B ≤ g))
  case atStart => exact ⟨_, N1, rfl, by simp only [tS]; omega, HO0, HBB, HZ1, HPN⟩
  case round =>
    obtain ⟨S, N, hgn, hgm, HO, HBw, HZ, HPN⟩ := hrel
    cases S with
    | nil =>
      obtain ⟨a, c, rfl, -, -⟩ := HO.out.slice
      go_wp2_with fail
      go_ret
      refine ⟨_, rfl, by rw [← HB.out]; exact HBw.out, ⟨_, _, rfl⟩, HO.out.res.wide (fun g _ hg => by rw [← HB.out]; exact HPN.out g hg)⟩
    | cons f s =>
      obtain ⟨g, cap, rfl, hbg, ct, hcap, hcm⟩ := HO.out.top
      obtain ⟨fv, q⟩ := f
      have hok := HO.out.ok (fv, q) (by simp)
      have hnw := HO.out.nw (fv, q) (by simp)
      have hzq := HZ.out (fv, q) (by simp)
      simp only at ct hok hnw hzq
      simp only [tS, List.length_cons] at hgn
      have hzs : ∀ f ∈ s, dtzL 1048576 f.2 := fun f hf => HZ.out f (by simp [hf])
      obtain ⟨ms, hms⟩ : ∃ ms, ms = s.length := ⟨_, rfl⟩
      rw [← hms] at ct hcap hgn HO ⊢
      have HMS := Lib.hid hms
      have hms2 : ms ≤ 200001 := by omega
      obtain ⟨csq, ⟨fa, fc, rfl, hfc, hfm, -⟩, -⟩ := id hok
      obtain ⟨n, hn⟩ : ∃ n, n = q.length := ⟨_, rfl⟩
      have hqn := len_dcntL q
      rw [← hn] at hok hnw ct hfc hqn HO
      have HN := Lib.hid hn
      have HO2 : Hid (Ow wr B N (.slice a1 l.length c1) l (.slice (some ⟨g, 0, none⟩) ms cap) s) := Lib.hid (by have h := HO.out; rw [HMS.out] at h ⊢; exact h.pop)
      have HQ := Lib.hid hok
      have HNW := Lib.hid hnw
      have HZQ := Lib.hid hzq
      have HZS := Lib.hid hzs
      obtain ⟨C, hC⟩ : ∃ C, C = 2 * tS s + ms + 2 * dcntL q := ⟨_, rfl⟩
      have hgC : gk = C + 1 := by omega
      have HCC := Lib.hid hC
      have HGC := Lib.hid hgC
      have hC2 : C ≤ 200000 := by omega
      have hn2 : n ≤ 200000 := by omega
      clear hok hnw hzq hzs hms hn hqn hC hgC hgn hgm HO HZ
      go_wp2_with fail
      go_loopg [3, 27] n (fun gn v i wr => ∃ (S2 : List (Value × List Dc)) (N2 : Nat → Prop) (j : Nat), gn = n - j ∧ j ≤ n ∧ i = .int .i64 (j : Int) ∧ S2.length ≤ 200001 ∧ Hid (∀ g o, fa = some ⟨g, o, none⟩ → q ≠ [] → B ≤ g ∧ ∀ i, wr.frozen? ⟨g, i, none⟩ = false) ∧ Hid (Ow wr B N2 (.slice a1 l.length c1) l v S2) ∧ Hid (DrIn wr N2 (.slice fa n fc) q) ∧ Hid (Below B w wr) ∧ Hid (∀ f ∈ S2, dtzL 1048576 f.2) ∧ Hid (2 * tS S2 + S2.length + 2 * dcntL (q.drop j) + j = C) ∧ Hid (∀ g, N2 g → P g ∨ B ≤ g))
      case atStart => exact ⟨s, N, 0, rfl, Nat.zero_le _, rfl, by have := HMS.out; omega, Lib.hid (fun g o e hne => by
        obtain ⟨g', o', n', c', e2, h1, h2⟩ := HNW.out hne
        simp only [Value.slice.injEq] at e2
        rw [e] at e2
        simp only [Option.some.injEq, Addr.mk.injEq, and_true] at e2
        rw [e2.1.1]
        exact ⟨h1, h2⟩), HO2, HQ, HBw, HZS, Lib.hid (by rw [HCC.out, HMS.out, List.drop_zero]; omega), HPN⟩
      case round =>
        obtain ⟨S2, N2, j, hgj, hjn, rfl, hs2, HNW3, HO3, HQ3, HB3, HZ3, HC3, HPN3⟩ := hrel
        obtain ⟨av, cv, rfl, hsc, hcv⟩ := HO3.out.slice
        by_cases hlt : j < n
        · obtain ⟨x, hx⟩ : ∃ x, q[j]? = some x := ⟨_, List.getElem?_eq_getElem (by rw [← HN.out]; exact hlt)⟩
          obtain ⟨g2, o2, rfl, hdx⟩ := HQ3.out.at hx
          obtain ⟨k', n', t', lx⟩ := x
          have hg2 := hdx.1
          have hg2s := hdx.2.1
          obtain ⟨ax, cx, d0, d1, d2, d3, hlx⟩ := hdx.open
          obtain ⟨hg2B, hfz2⟩ : B ≤ g2 ∧ ∀ i, wr.frozen? ⟨g2, i, none⟩ = false := HNW3.out g2 o2 rfl (by intro e; rw [e] at hx; simp at hx)
          have hxm : (.mk k' n' t' lx : Dc) ∈ q := List.mem_of_getElem? hx
          obtain ⟨ht', hzx⟩ := dtz_ks (dtz_at HZQ.out hxm)
          have hdr := dcntL_drop hx
          simp only [dcnt] at hdr
          have hqd := dcnt_at hx
          simp only [dcnt] at hqd
          have hllx := len_dcntL lx
          have HC4 : Hid (2 * (dcntL lx + tS S2) + (S2.length + 1) + 2 * dcntL (q.drop (j + 1)) + (j + 1) = C) := Lib.hid (by have := HC3.out; omega)
          have hs3 : S2.length + 1 ≤ 200001 := by have := HC4.out; omega
          have hwB := HB3.out.size
          have HT : Hid (∀ W, Below wr.heap.size wr W → Calls Try.prog 26 #[.string t'] W fun e w' => e = .returned (.string t') ∧ Hid (Below wr.heap.size wr w') ∧ Hid (Below W.heap.size W w')) := Lib.hid (fun W hb => (clone_any t' ht' W).mono fun e w' ⟨h1, h2⟩ => ⟨h1, Lib.hid (hb.trans (h2.mono hb.size)), Lib.hid h2⟩)
          have HL : Hid (∀ W, Below wr.heap.size wr W → Calls Try.prog 31 #[.slice ax lx.length cx] W fun e w' => ∃ a2 c2, e = .returned (.slice a2 lx.length c2) ∧ Hid (Below wr.heap.size wr w') ∧ Hid (Nw wr w' N2 (.slice a2 lx.length c2) lx)) := Lib.hid (fun W hb => (dclone_any lx (by have := HCC.out; omega) _ W N2 (fun g hg => by have := HO3.out.lt g hg; have := hb.size; omega) (hlx.keep ⟨hb.size, fun g hg hl => hb.block g hl⟩)).mono fun e w' ⟨v2, h1, h2, h3⟩ => by
            obtain ⟨a2, c2, e2, -⟩ := id h3
            subst e2
            exact ⟨a2, c2, h1, Lib.hid (hb.trans (h2.mono hb.size)), Lib.hid (h3.ahead hb.size)⟩)
          have HST := Lib.hid (fun w5 (hb : Below wr.heap.size wr w5) v2 (hn : Nw wr w5 N2 v2 lx) => HO3.out.stores (o := o2 + j * 4) (t := t') hb HQ3.out hg2 hg2B d2 d3 hlx hn)
          have HX := Lib.hid hx
          have HZX := Lib.hid hzx
          have HG2 := Lib.hid hg2s
          have HW0 : Hid (Below wr.heap.size wr wr) := Lib.hid (Below.refl _ _)
          have FZ : Hid (∀ w', Below wr.heap.size wr w' → ∀ i, w'.frozen? ⟨g2, i, none⟩ = false) := Lib.hid (fun w' hb i => (World.frozen?_of_block (hb.block g2 hg2s)).trans (hfz2 i))
          have KP : Hid (∀ w', Below wr.heap.size wr w' → w'.cell? ⟨g2, o2 + j * 4 + 2, none⟩ = some (.string t') ∧ w'.cell? ⟨g2, o2 + j * 4 + 3, none⟩ = some (.slice ax lx.length cx)) := Lib.hid (fun w' hb => ⟨(hb.cell (p := ⟨g2, o2 + j * 4 + 2, none⟩) hg2s).trans d2, (hb.cell (p := ⟨g2, o2 + j * 4 + 3, none⟩) hg2s).trans d3⟩)
          clear hdx hlx hg2 hg2s hfz2 hx hzx hdr hqd hllx hxm ht'
          go_wp2_with fail
          go_cut [] from 33 to 48 (fun wx => ∃ a2 c2 N3, Hid (Ow wx B N3 (.slice a1 l.length c1) l (.slice av S2.length cv) S2) ∧ Hid (DrIn wx N3 (.slice (some ⟨g2, o2, none⟩) n fc) q) ∧ Hid (DrIn wx N3 (.slice a2 lx.length c2) lx) ∧ wx.cell? ⟨g2, o2 + j * 4 + 3, none⟩ = some (.slice a2 lx.length c2) ∧ Hid (Below B w wx) ∧ Hid (lx ≠ [] → ∃ g o n c, (.slice a2 lx.length c2 : Value) = .slice (some ⟨g, o, none⟩) n c ∧ B ≤ g ∧ ∀ i, wx.frozen? ⟨g, i, none⟩ = false) ∧ Hid (∀ i, wx.frozen? ⟨g2, i, none⟩ = false) ∧ Hid (N3 g2) ∧ Hid (∀ g, N3 g → P g ∨ B ≤ g))
          case first =>
            go_region_with (first
              | (go_at_call 26; with_reducible refine (HT.out _ ?_).mono ?_; (first | exact drew_below wr _ | exact Below.drew HW0.out | exact HW0.out); rintro e w4 ⟨rfl, hb4, -⟩; obtain ⟨f3, f4⟩ := KP.out _ hb4.out)
              | (go_at_call 31; with_reducible refine (HL.out _ hb4.out).mono ?_; rintro e w5 ⟨a2, c2, rfl, hb5, hn5⟩; obtain ⟨f5, f6⟩ := KP.out _ hb5.out; have f7 := FZ.out _ hb5.out))
            all_goals go_wp2_with fail
            all_goals go_meet
            all_goals
              obtain ⟨N3, q1, q2, q3, q4, q5, q7, q6⟩ := HST.out w5 hb5.out _ hn5.out
              refine ⟨a2, c2, N3, Lib.hid q1, Lib.hid q2, Lib.hid q3, q4, Lib.hid (HB3.out.trans q6), Lib.hid (fun hne => ?_), Lib.hid (fun i => by rw [World.frozen?_setCell, World.frozen?_setCell]; exact f7 i), Lib.hid q5, Lib.hid (fun k hk => (q7 k hk).elim (HPN3.out k) (fun h => .inr (Nat.le_trans (by rw [HB.out]; exact hwB) h)))⟩
              obtain ⟨a3, c3, e3, hnew, -⟩ := hn5.out
              obtain ⟨g3, e4, h5, h6⟩ := hnew hne
              simp only [Value.slice.injEq, true_and] at e3
              exact ⟨g3, 0, _, _, by rw [e3.1, e4], by rw [HB.out]; exact Nat.le_trans hwB h5, fun i => by rw [World.frozen?_setCell, World.frozen?_setCell]; exact h6 i⟩
          case rest =>
            obtain ⟨a2, c2, N3, HO4, HQ4, HL4, d9, HB4, HN4, HF4, HG4, HPN4⟩ := hcut
            have hrw := HO4.out.row
            have hsz4 : B ≤ wc.heap.size := by have := HO4.out.lt g2 HG4.out; omega
            clear KP HST FZ HT HL HW0 d0 d1 d2 d3
            go_wp2_with (at_builtin; go_must (refine wpList_append_own_at _ rfl _ _ _ rfl B 22 i0 _ 1 24 hrow hi hz0 hz1 hz2 rfl (by decide) _ _ _ rfl (hrw.alloc _) ⟨wc.heap.size, 0, none⟩ 1 1 [.slice a2 lx.length c2] rfl rfl (by have := cell_one_new wc (.slice a2 lx.length c2) 22; simpa using this) (by intro u hu; simp only [List.mem_cons, List.not_mem_nil, or_false] at hu; subst hu; rfl) (by unfold maxLen; omega) (by omega) (by simp; omega) ?_); intro v5 w5 hown hgrow _ hat; obtain ⟨a5, n5, c5, rfl⟩ := row_slice hown)
            obtain ⟨o5, b5, k5⟩ := HO4.out.push HL4.out HN4.out hown hgrow (hat.imp id (fun h => by simpa using h)) hsz4
            go_roundg (n - (j + 1))
            case measure => omega
            case rel =>
              refine ⟨(.slice a2 lx.length c2, lx) :: S2, N3, j + 1, rfl, hlt, by go_num, by simpa using hs3, Lib.hid (fun g o e hne => ?_), Lib.hid o5, Lib.hid (HQ4.out.keep k5), Lib.hid (HB4.out.trans b5), Lib.hid (fun f hf => ?_), Lib.hid (by simpa only [tS, List.length_cons] using HC4.out), HPN4⟩
              · simp only [Option.some.injEq, Addr.mk.injEq, and_true] at e
                obtain ⟨rfl, rfl⟩ := e
                exact ⟨hg2B, fun i => (World.frozen?_of_block (k5.2 g2 HG4.out (HO4.out.lt g2 HG4.out))).trans (HF4.out i)⟩
              · rcases List.mem_cons.1 hf with e | e
                · rw [e]; exact HZX.out
                · exact HZ3.out f e
        · obtain rfl : j = n := by omega
          have HE : Hid (2 * tS S2 + S2.length + j = C) := Lib.hid (by have := HC3.out; rw [List.drop_eq_nil_of_le (by rw [HN.out]; exact Nat.le_refl _)] at this; simp only [dcntL] at this; omega)
          go_wp2_with fail
          go_roundg (2 * tS S2 + S2.length)
          case measure => have := HE.out; have := HGC.out; omega
          case rel => exact ⟨S2, N2, rfl, by have := HE.out; have := HGC.out; omega, HO3, HB3, HZ3, HPN3⟩
end Go.Proofs.Ytnmpapmjkihfcaa
