/-
  THE PROGRAM's Split and Bytes.
-/
import Derived.Test.YtaaijenbcfjdlaaSplitStep
import Derived.Test.YtaaijenbcfjdlaaStrClone
import Derived.Test.YtaaijenbcfjdlaaRefGap
namespace Go.Proofs.Ytaaijenbcfjdlaa
open Go.RowKit Go.PlainAid

theorem own_weak {w : World} {b b' : Nat} {e : TypeId} {size : Nat} {v : Value} {n : Nat} {xs : List Value} (h : w.ownsRow b e size v n xs) (hb : b' ≤ b) : w.ownsRow b' e size v n xs := by
  obtain ⟨h1, h2 | ⟨g, cap, cur, h3, h4, h5, h6⟩⟩ := h
  · exact ⟨h1, .inl h2⟩
  · exact ⟨h1, .inr ⟨g, cap, cur, h3, Nat.le_trans hb h4, h5, h6⟩⟩
theorem own_grown {w w' : World} {b : Nat} {e : TypeId} {size : Nat} {v : Value} {n : Nat} {xs : List Value} (h : w.ownsRow b e size v n xs) {r : Nat} (hg : w.grownBy w' (some r)) (hr : r < b) : w'.ownsRow b e size v n xs := by
  obtain ⟨h1, h2 | ⟨g, cap, cur, h3, h4, h5, h6⟩⟩ := h
  · exact ⟨h1, .inl h2⟩
  · refine ⟨h1, .inr ⟨g, cap, cur, h3, h4, ?_, h6⟩⟩
    rw [hg.block g (lt_of_block h5) (by intro e; simp only [Option.some.injEq] at e; omega)]; exact h5
theorem Mk.grown {W W' : World} {B : Nat} {a b : Int} {n c : Bool} (h : Mk W B a b n c) {r : Option Nat} (hg : W.grownBy W' r) (hr : some B ≠ r) : Mk W' B a b n c := by
  unfold Mk at h ⊢; rw [hg.block B (lt_of_block h) hr]; exact h
theorem Cw.grown {w W W' : World} {s : ByteArray} {v : Value} {k : Nat} (h : Cw w W s v k) {r : Option Nat} (hg : W.grownBy W' r) (hr : ∀ j, r = some j → w.heap.size + 3 ≤ j) : Cw w W' s v k := by
  obtain ⟨h1, h2, h3, h4⟩ := h
  have hne : ∀ j, j < w.heap.size + 3 → some j ≠ r := fun j hj e => by have := hr j e.symm; omega
  exact ⟨by rw [hg.block _ (lt_of_block h1) (hne _ (by omega))]; exact h1, by rw [hg.block _ (lt_of_block h2) (hne _ (by omega))]; exact h2, by rw [hg.block _ (lt_of_block h3) (hne _ (by omega))]; exact h3,
    h4.grown hg h4.size (fun j e => by have := hr j e; omega)⟩
/-- What the closure answers, and where it stands then. -/
theorem cut_any {s : ByteArray} {L : List Tk3} {j0 : Nat} (hsc : sc s j0 = some L) (hs : s.size ≤ 1048576) (hl : L.length ≤ 1048576) (v : Value) (w : World) (ht : TRow w v (toks s L)) (k : Nat) (hk : k ≤ L.length) :
    ∃ (y : It) (bk : Bool) (k' : Nat), k' ≤ L.length ∧ k ≤ k' ∧ ((bk = true ∧ k < k' ∧ sp s L k = y :: sp s L k') ∨ (bk = false ∧ sp s L k = [])) ∧
      ∀ W, Cw w W s v k → Calls Try.prog 32 #[.pointer (some ⟨w.heap.size + 2, 0, none⟩), .pointer (some ⟨w.heap.size + 1, 0, none⟩), .pointer (some ⟨w.heap.size, 0, none⟩)] W fun e W' =>
        e = .returned (.tuple #[.agg #[.int .i64 (y.1 : Int), .int .i64 (y.2.1 : Int), .bool y.2.2.1, .bool y.2.2.2], .bool bk]) ∧ Cw w W' s v k' ∧ W.grownBy W' (some (w.heap.size + 2)) := by
  by_cases h : k < L.length
  · obtain ⟨x, hx⟩ : ∃ x, L[k]? = some x := ⟨_, List.getElem?_eq_getElem h⟩
    have hp := itn_pos (L.drop k)
    exact ⟨(k, k + itn (L.drop k), x.1 == 11, decide (2 ≤ nls s L k)), true, k + itn (L.drop k), itn_in h, by omega, .inl ⟨rfl, by omega, sp_go hx⟩, fun W hW => cut_go hsc hs hl v k x hx w W ht hW⟩
  · obtain rfl : k = L.length := by omega
    refine ⟨(0, 0, false, false), false, L.length, Nat.le_refl _, Nat.le_refl _, .inr ⟨rfl, sp_end h⟩, fun W hW => ?_⟩
    obtain ⟨a, cap, rfl, -⟩ := ht
    rw [toks_len] at hW ⊢
    exact (cut_end s a L.length cap w W hW).mono fun e W' ⟨h1, h2⟩ => ⟨h1, hW.below h2, grown_bel (World.grownBy.refl _ _) h2⟩
set_option maxRecDepth 100000 in
set_option maxHeartbeats 4000000 in
theorem split_any8 {s : ByteArray} {L : List Tk3} {j0 : Nat} (hsc : sc s j0 = some L) (hs : s.size ≤ 1048576) (hl : L.length ≤ 1048576) (v : Value) (w : World) (ht : TRow w v (toks s L)) :
    Calls Try.prog 9 #[.string s, v] w fun e w' => ItsAre w (sp s L 0) e w' := by
  have HCU := Lib.hid (cutter_any s v (by obtain ⟨a, cap, rfl, -⟩ := ht; exact ⟨_, _, _, rfl⟩) w)
  have HST := Lib.hid (fun k hk => cut_any hsc hs hl v w ht k hk)
  obtain ⟨R, hR⟩ : ∃ R, R = sp s L 0 := ⟨_, rfl⟩
  rw [← hR]
  have HRR := Lib.hid hR
  obtain ⟨N, hN⟩ : ∃ N, N = L.length := ⟨_, rfl⟩
  obtain ⟨a, cap, rfl, -⟩ := ht
  rw [toks_len] at HCU HST ⊢
  rw [← hN] at HCU HST hl ⊢
  obtain ⟨i0, hi, hz0, hz1, hz2⟩ := info_parts infoIt
  have hz2' := Lib.hid hz2
  clear hz2 hR hN hsc
  obtain ⟨y0, b0, k0, hk0, -, hor0, hc0⟩ := HST.out 0 (Nat.zero_le _)
  have H0 := Lib.hid hc0
  have HO0 := Lib.hid hor0
  clear hc0 hor0
  obtain ⟨ya, yb, yc, yd⟩ := y0
  simp only at H0
  go_enter Try.func9, Try.ntmps9
  go_wp2_with fail
  refine HCU.out.mono ?_
  rintro e w1 ⟨rfl, hc1⟩
  have HS1 := Lib.hid (H0.out w1 hc1)
  have zz : w.heap.size + 3 ≤ w1.heap.size := lt_of_block hc1.2.2.1
  clear hc1
  go_wp2_with fail
  refine HS1.out.mono ?_
  rintro e w2 ⟨rfl, hc2, hg2⟩
  have C2 := Lib.hid hc2
  have zz2 : w.heap.size + 3 ≤ w2.heap.size := Nat.le_trans zz hg2.size
  clear hc2 hg2
  go_wp2_with fail
  go_loopg [5, 7, 8] (bif b0 then N - k0 + 1 else 0) (fun gn z p o wr => ∃ (k : Nat) (I : List It) (B : Nat) (ya yb : Nat) (yc yd bk : Bool), gn = (bif bk then N - k + 1 else 0) ∧ k ≤ N ∧ I.length ≤ N ∧ (bk = true → I.length < k) ∧ p = .pointer (some ⟨B, 0, none⟩) ∧ o = .bool bk ∧
    Hid (wr.ownsRow (w.heap.size + 3) 23 4 z I.length (itcs I)) ∧ Hid (Cw w wr s (.slice a N cap) k) ∧ Hid (Mk wr B (ya : Int) (yb : Int) yc yd) ∧ w.heap.size + 3 ≤ B ∧ Hid (some B ≠ z.ownBlock) ∧ Hid (R = I ++ (bif bk then (ya, yb, yc, yd) :: sp s L k else [])))
  case atStart =>
    refine ⟨k0, [], w2.heap.size, ya, yb, yc, yd, b0, rfl, hk0, Nat.zero_le _, fun e => ?_, rfl, rfl, Lib.hid (World.ownsRow_nil _ _ _ _), Lib.hid (C2.out.below (below1 _ _)), Lib.hid (mk_new w2 _ _ _ _), zz2, Lib.hid (fun e => by simp [Value.ownBlock] at e), Lib.hid ?_⟩
    · rcases HO0.out with ⟨-, h, -⟩ | ⟨h, -⟩
      · exact h
      · rw [h] at e; cases e
    · rw [HRR.out]
      rcases HO0.out with ⟨h, -, h2⟩ | ⟨h, h2⟩
      · rw [h, h2]; rfl
      · rw [h, h2]; rfl
  case round =>
    obtain ⟨k, I, B, ya, yb, yc, yd, bk, hgn, hk, hIN, hIk, rfl, rfl, HOW, HC, HM, hB, HNE, HK⟩ := hrel
    cases bk
    · have HF : Hid (R = I) := Lib.hid (by have := HK.out; rw [this]; simp)
      go_wp2_with fail
      go_ret
      exact ⟨_, rfl, by rw [HF.out]; exact ⟨own_weak HOW.out (by omega), HC.out.2.2.2⟩⟩
    · have hIk := hIk rfl
      obtain ⟨⟨za, zb, zc, zd⟩, b1, k1, hk1, hkk, hor1, hcall⟩ := HST.out k hk
      have H1 := Lib.hid hcall
      have HO1 := Lib.hid hor1
      simp only at H1
      clear hcall hor1
      obtain ⟨m0, m1, m2, m3⟩ := HM.out.cells
      have zle : w.heap.size + 3 ≤ wr.heap.size := lt_of_block HC.out.2.2.1
      have HOWo := HOW.out
      simp only [cond_true] at hgn
      have HNW : Hid (∀ j u, [Value.int .i64 (ya : Int), .int .i64 (yb : Int), .bool yc, .bool yd][j]? = some u → (wr.alloc (.cells #[.int .i64 (ya : Int), .int .i64 (yb : Int), .bool yc, .bool yd] 23)).cell? ((⟨wr.heap.size, 0, none⟩ : Addr).add j) = some u) := Lib.hid (cells_four_new wr (.int .i64 (ya : Int)) (.int .i64 (yb : Int)) (.bool yc) (.bool yd) 23)
      go_wp2_with (at_builtin; go_must (refine wpList_append_own _ rfl _ _ 28 rfl (w.heap.size + 3) 23 i0 (.agg #[.int .i64 0, .int .i64 0, .bool false, .bool false]) 4 24 Try.underlying28 hi hz0 hz1 hz2'.out rfl (by decide) _ _ _ rfl (HOWo.alloc _) ⟨wr.heap.size, 0, none⟩ 1 1 [.int .i64 (ya : Int), .int .i64 (yb : Int), .bool yc, .bool yd] rfl rfl HNW.out (by intro u hu; simp at hu; rcases hu with rfl | rfl | rfl | rfl <;> rfl) (by unfold maxLen; omega) (by omega) (by simp; omega) ?_); intro v' w3 hown hgrow _; have HM3 := Lib.hid (show Mk w3 B (ya : Int) (yb : Int) yc yd from keep_tok HNE.out HM.out _ hgrow); have HC3 := Lib.hid ((HC.out.below (below1 wr (.cells #[.int .i64 (ya : Int), .int .i64 (yb : Int), .bool yc, .bool yd] 23))).grown hgrow (fun j e => (HOWo.lt j e).1)); have HO3 := Lib.hid hown; obtain ⟨q0, q1, q2, q3⟩ := HM3.out.cells; clear hown hgrow)
      have HW4 : Hid (Cw w (w3.alloc (.cells #[.int .i64 (ya : Int), .int .i64 (yb : Int), .bool yc, .bool yd] 23)) s (.slice a N cap) k) := Lib.hid (HC3.out.below (below1 _ _))
      refine (H1.out _ HW4.out).mono ?_
      rintro e w5 ⟨rfl, hc5, hg5⟩
      have C5 := Lib.hid hc5
      have z3 : w.heap.size + 3 ≤ w3.heap.size := lt_of_block HC3.out.2.2.1
      have O5 := Lib.hid (own_grown (own_bel HO3.out (below1 w3 (.cells #[.int .i64 (ya : Int), .int .i64 (yb : Int), .bool yc, .bool yd] 23))) hg5 (by omega))
      have M5 : Hid (Mk w5 w3.heap.size (ya : Int) (yb : Int) yc yd) := Lib.hid (Mk.grown (mk_new w3 _ _ _ _) hg5 (by intro e; simp only [Option.some.injEq] at e; omega))
      have N5 : Hid (some w3.heap.size ≠ v'.ownBlock) := Lib.hid (fun h => by
        have := (HO3.out.lt w3.heap.size h.symm).2
        omega)
      obtain ⟨s0, s1, s2, s3⟩ := M5.out.cells
      have f0 := frz_of M5.out 0
      have f1 := frz_of M5.out 1
      have f2 := frz_of M5.out 2
      have f3 := frz_of M5.out 3
      clear hc5 hg5 q0 q1 q2 q3 m0 m1 m2 m3
      go_wp2_with fail
      go_roundg (bif b1 then N - k1 + 1 else 0)
      case measure =>
        rcases HO1.out with ⟨h, h2, -⟩ | ⟨h, -⟩
        · rw [h, cond_true]; omega
        · rw [h, cond_false]; omega
      case rel =>
        have hn : ∀ u : Nat, v'.ownBlock ≠ some w3.heap.size := fun _ e => N5.out e.symm
        have hlt : b1 = true → (I ++ [(ya, yb, yc, yd)]).length < k1 := fun e => by
          rcases HO1.out with ⟨-, h, -⟩ | ⟨h, -⟩
          · simp; omega
          · rw [h] at e; cases e
        refine ⟨k1, I ++ [(ya, yb, yc, yd)], w3.heap.size, za, zb, zc, zd, b1, rfl, hk1, by simp; omega, hlt, rfl, rfl, Lib.hid ?_, Lib.hid ((((C5.out.set (by omega) _ _).set (by omega) _ _).set (by omega) _ _).set (by omega) _ _), Lib.hid (M5.out.put4 _ _ _ _), z3, N5, Lib.hid ?_⟩
        · rw [List.length_append, itcs_app]
          exact ownsRow_setCell_other (ownsRow_setCell_other (ownsRow_setCell_other (ownsRow_setCell_other O5.out (hn 0) _) (hn 0) _) (hn 0) _) (hn 0) _
        · rw [HK.out, cond_true]
          rcases HO1.out with ⟨h, -, h2⟩ | ⟨h, h2⟩
          · rw [h, h2]; simp
          · rw [h, h2]; simp
set_option maxRecDepth 100000 in
set_option maxHeartbeats 4000000 in
/-- THE PROGRAM's Bytes. -/
theorem bytes_any8 {s : ByteArray} {L : List Tk3} {j0 : Nat} (hsc : sc s j0 = some L) (hs : s.size ≤ 1048576) (hl : L.length ≤ 1048576) (v : Value) (f t : Int) (nt b : Bool) (w : World) (ht : TRow w v (toks s L)) :
    Calls Try.prog 12 #[.string s, v, .agg #[.int .i64 f, .int .i64 t, .bool nt, .bool b]] w fun e w' => e = .returned (.string (bytI s L f t)) ∧ Below w.heap.size w w' := by
  obtain ⟨a, cap, rfl, hr⟩ := ht
  rw [toks_len] at hr ⊢
  by_cases h1 : f < 0
  · rw [bytI_out (.inl h1)]
    clear hr
    go_enter Try.func12, Try.ntmps12
    go_wp2_with fail
    go_ret
    exact ⟨rfl, below1 _ _⟩
  by_cases h2 : t ≤ f
  · rw [bytI_out (.inr (.inl h2))]
    clear hr
    go_enter Try.func12, Try.ntmps12
    go_wp2_with fail
    go_ret
    exact ⟨rfl, below1 _ _⟩
  by_cases h3 : (L.length : Int) < t
  · rw [bytI_out (.inr (.inr h3))]
    clear hr
    go_enter Try.func12, Try.ntmps12
    go_wp2_with fail
    go_ret
    exact ⟨rfl, below1 _ _⟩
  obtain ⟨p, rfl⟩ : ∃ p : Nat, f = (p : Int) := ⟨f.toNat, by omega⟩
  obtain ⟨q, rfl⟩ : ∃ q : Nat, t = (q : Int) + 1 := ⟨(t - 1).toNat, by omega⟩
  obtain ⟨x, hx⟩ : ∃ x, L[p]? = some x := ⟨_, List.getElem?_eq_getElem (by omega)⟩
  obtain ⟨y, hy⟩ : ∃ y, L[q]? = some y := ⟨_, List.getElem?_eq_getElem (by omega)⟩
  have e1 : bytI s L (p : Int) ((q : Int) + 1) = s.extract x.2.1 y.2.2 := by
    have := bytI_in (s := s) (L := L) (f := p) (t := q + 1) (by omega) (by omega)
    rw [byt_at hx hy] at this
    exact this
  rw [e1]
  have hxy : x.2.1 ≤ y.2.1 := sc_le hsc p x hx (q - p) y (by rw [show p + (q - p) = q by omega]; exact hy)
  obtain ⟨hy1, hy2⟩ := sc_bd L j0 hsc q y hy
  obtain ⟨g, o, rfl, hg, hc⟩ := hr (by omega)
  obtain ⟨-, -, c3⟩ := hc p _ (toks_at hx)
  obtain ⟨d1, d2, d3⟩ := hc q _ (toks_at hy)
  obtain ⟨K1, a1, e1'⟩ := x
  obtain ⟨K2, a2, e2⟩ := y
  simp only [tok3] at c3 d1 d2 d3 hxy hy1 hy2 ⊢
  have HE := Lib.hid (fun W => end_any7 K2 a2 (s.extract a2 e2) e2 (by rw [size_ext s a2 e2 hy2]; omega) (by omega) W)
  obtain ⟨P, hP⟩ : ∃ P, P = s.extract a2 e2 := ⟨_, rfl⟩
  rw [← hP] at d2 HE
  obtain ⟨N, hN⟩ : ∃ N, N = L.length := ⟨_, rfl⟩
  rw [← hN] at h3 hl ⊢
  have g1 : (q : Int) < (N : Int) := by omega
  have g2 : (p : Int) < (N : Int) := by omega
  have g3 : (a1 : Int) ≤ (e2 : Int) := by omega
  have g4 : (e2 : Int) ≤ (s.size : Int) := by omega
  have g5 : ¬ (q : Int) + 1 ≤ (p : Int) := by omega
  have g6 : decide ((p : Int) < 0) = false := decide_eq_false (by omega)
  have g7 : IntKind.i64.wrap ((q : Int) + 1 - 1) = (q : Int) := by rw [IntKind.wrap_i64]; omega
  have g8 : IntKind.i64.wrap (q : Int) = (q : Int) := by rw [IntKind.wrap_i64]; omega
  have g9 : (0 : Int) ≤ (q : Int) := by omega
  have g10 : (0 : Int) ≤ (p : Int) := by omega
  obtain ⟨WB, hWB⟩ : ∃ WB, WB = (w.alloc (.cells #[.int .i64 (p : Int), .int .i64 ((q : Int) + 1), .bool nt, .bool b] 23)) := ⟨_, rfl⟩
  have C := Lib.hid (fun W (hb : Below WB.heap.size WB W) => (⟨by
      have h := hb.cell (p := ⟨w.heap.size, 0, none⟩) (by rw [hWB]; simp)
      rw [h, hWB]; simp, by
      have h := hb.cell (p := ⟨w.heap.size, 1, none⟩) (by rw [hWB]; simp)
      rw [h, hWB]; simp, by
      have h := hb.cell (p := ⟨g, o + p * 3 + 2, none⟩) (by rw [hWB]; simp; omega)
      rw [h, hWB, World.cell?_alloc_past _ _ _ hg]; exact c3, by
      have h := hb.cell (p := ⟨g, o + q * 3, none⟩) (by rw [hWB]; simp; omega)
      rw [h, hWB, World.cell?_alloc_past _ _ _ hg]; exact d1, by
      have h := hb.cell (p := ⟨g, o + q * 3 + 1, none⟩) (by rw [hWB]; simp; omega)
      rw [h, hWB, World.cell?_alloc_past _ _ _ hg]; exact d2, by
      have h := hb.cell (p := ⟨g, o + q * 3 + 2, none⟩) (by rw [hWB]; simp; omega)
      rw [h, hWB, World.cell?_alloc_past _ _ _ hg]; exact d3, Lib.hid hb⟩ :
    W.cell? ⟨w.heap.size, 0, none⟩ = some (.int .i64 (p : Int)) ∧ W.cell? ⟨w.heap.size, 1, none⟩ = some (.int .i64 ((q : Int) + 1)) ∧ W.cell? ⟨g, o + p * 3 + 2, none⟩ = some (.int .i64 (a1 : Int)) ∧
    W.cell? ⟨g, o + q * 3, none⟩ = some (.int .i64 K2) ∧ W.cell? ⟨g, o + q * 3 + 1, none⟩ = some (.string P) ∧ W.cell? ⟨g, o + q * 3 + 2, none⟩ = some (.int .i64 (a2 : Int)) ∧ Hid (Below WB.heap.size WB W)))
  have D1 : Hid (∀ W, Below WB.heap.size WB W → Calls Try.prog 19 #[.agg #[.int .i64 K2, .string P, .int .i64 (a2 : Int)]] W fun x w' => x = .returned (.int .i64 (e2 : Int)) ∧ Below WB.heap.size WB w') := Lib.hid fun W h => (HE.out W).mono (by rintro e w' ⟨rfl, hb⟩; exact ⟨rfl, h.trans (hb.mono h.size)⟩)
  have HW : Hid (Below WB.heap.size WB (w.alloc (.cells #[.int .i64 (p : Int), .int .i64 ((q : Int) + 1), .bool nt, .bool b] 23)).drew) := Lib.hid (by rw [hWB]; exact Below.drew (Below.refl _ _))
  have HCL : Hid (∀ W, Calls Try.prog 20 #[.string (s.extract a1 e2)] W fun e w' => e = .returned (.string (s.extract a1 e2)) ∧ Below W.heap.size W w') := Lib.hid (fun W => clone_any _ (by rw [size_ext s _ _ (by omega)]; omega) W)
  have HF : Hid (Below w.heap.size w WB) := Lib.hid (by rw [hWB]; exact below1 _ _)
  have HZ : Hid (w.heap.size ≤ WB.heap.size) := Lib.hid (by rw [hWB]; simp)
  clear hc hx hy hP hN hsc HE c3 d1 d2 d3 e1 h1 h2 hWB
  go_enter Try.func12, Try.ntmps12
  go_wp2_with fail
  go_region_held3 (fun w' => w'.cell? ⟨w.heap.size, 0, none⟩ = some (.int .i64 (p : Int)) ∧ w'.cell? ⟨w.heap.size, 1, none⟩ = some (.int .i64 ((q : Int) + 1)) ∧ w'.cell? ⟨g, o + p * 3 + 2, none⟩ = some (.int .i64 (a1 : Int)) ∧
    w'.cell? ⟨g, o + q * 3, none⟩ = some (.int .i64 K2) ∧ w'.cell? ⟨g, o + q * 3 + 1, none⟩ = some (.string P) ∧ w'.cell? ⟨g, o + q * 3 + 2, none⟩ = some (.int .i64 (a2 : Int)) ∧ Hid (Below WB.heap.size WB w')) (first | exact C.out _ HW.out | exact C.out _ ht1) (first
    | (go_at_call 19; refine (D1.out _ (by first | exact HW.out | (refine Hid.out ?_; assumption) | assumption)).mono ?_; rintro e w2 ⟨rfl, ht1⟩))
  have g11 : ¬ (a1 : Int) < 0 := by omega
  go_wp2_with fail
  refine (HCL.out _).mono ?_
  rintro e w3 ⟨rfl, hb3⟩
  have HB3 : Hid (Below w.heap.size w w3) := Lib.hid (HF.out.trans ((ht1.trans (hb3.mono ht1.size)).mono HZ.out))
  clear hb3
  go_wp2_with fail
  go_ret
  exact ⟨rfl, HB3.out⟩
end Go.Proofs.Ytaaijenbcfjdlaa
