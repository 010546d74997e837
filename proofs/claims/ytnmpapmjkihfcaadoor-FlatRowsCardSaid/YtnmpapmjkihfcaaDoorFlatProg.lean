/-
  THE PROGRAM's Flat, Width and First: what they answer.
-/
import Derived.Test.YtnmpapmjkihfcaaDoorFlatUse
set_option linter.all false
namespace Go.Proofs.YtnmpapmjkihfcaaDoor
open Go.RowKit Go.PlainAid Go.Shelf

theorem fsum_le : ∀ (L : List Dc), (∀ x ∈ L, (dtx x).size ≤ 1048576) → fsum L ≤ L.length * 1048576
  | [], _ => Nat.zero_le _
  | x :: t, h => by
    have h1 := fsum_le t (fun y hy => h y (List.mem_cons_of_mem _ hy))
    have h2 := h x (List.mem_cons_self ..)
    have h3 := ct_le (dtx x) (dtx x).size 0 (by omega)
    simp only [fsum, List.length_cons]
    split <;> omega
set_option maxRecDepth 100000 in
set_option maxHeartbeats 4000000 in
theorem fclo_any (w0 : World) (b s : Nat) (Ls : List Dc) (ht : Tabs w0) (hs : w0.heap.size ≤ s) (hz : ∀ x ∈ Ls, (dtx x).size ≤ 1048576) (hn : Ls.length ≤ 100000) :
    DoC 44 b s (SfC b) (JW w0 b fsum) (JS w0 b fsum) Ls where
  en := enters_of Tryd.func44 (by kernel_rfl) rfl
  loc := fun A B g h _ => h
  ty := jw_ty
  st := jw_st hs
  call := by
    intro pre x rest W g o hp hJ hg hlf
    obtain ⟨hb0, hbel, c, hbx, hc⟩ := hJ
    obtain ⟨hgl, ax, cx, k0, k1, k2, k3⟩ := hlf
    have HBX := Lib.hid hbx
    have hbl : b < W.heap.size := lt_of_block hbx
    have HBE := Lib.hid hbel
    have HB0 := Lib.hid hb0
    have hxs := hz x (by rw [← hp]; simp)
    have hk1 := hc (x :: rest)
    obtain ⟨kx, hkx⟩ : ∃ kx, kx = dkd x := ⟨_, rfl⟩
    obtain ⟨T, hT⟩ : ∃ T, T = dtx x := ⟨_, rfl⟩
    rw [← hkx] at k0
    rw [← hT] at k2
    by_cases h1 : kx = 1
    · obtain ⟨M, hM⟩ : ∃ M, M = ct (dtx x) 0 := ⟨_, rfl⟩
      have hf : ∀ r, fsum (x :: r) = M + fsum r := fun r => by rw [hM]; exact if_pos (by rw [← hkx]; exact h1)
      have hcM : c + M ≤ 100000 * 1048576 := by
        have h2 := fsum_le (pre ++ x :: rest) (fun y hy => hz y (by rw [← hp]; exact hy))
        have h3 : (pre ++ x :: rest).length * 1048576 ≤ 100000 * 1048576 := Nat.mul_le_mul_right _ (by rw [hp]; exact hn)
        have h4 := hf rest
        omega
      have htw : Tabs W := ht.below hbel
      have HWd := Lib.hid (cwidth_any T W.drew (by rw [hT]; exact hxs) htw)
      rw [hT, ← hM, ← hT] at HWd
      have b0 : W.drew.cell? ⟨b, 0, none⟩ = some (.int .i64 (c : Int)) := hbx.cell
      have m2 : W.drew.cell? ⟨g, o + 2, none⟩ = some (.string T) := k2
      have HN : Hid (∀ rest, fsum ((pre ++ [x]) ++ rest) = (c + M) + fsum rest) := Lib.hid (fun rest => by rw [List.append_assoc, hc]; show c + fsum (x :: rest) = _; rw [hf]; omega)
      subst h1
      have HG2 : Hid (∀ B, Below W.drew.heap.size W.drew B → B.cell? ⟨g, o + 2, none⟩ = some (.string T)) := Lib.hid (fun B hB => (hB.cell (p := ⟨g, o + 2, none⟩) hgl).trans m2)
      clear hbx hc hM hT hxs htw ht hz hn hp hbel hb0 hkx hf hk1
      go_enter Tryd.func44, Tryd.ntmps44
      go_wp2_with fail
      go_region_with (first
        | (go_at_call 43; refine HWd.out.mono ?_; rintro e w2 ⟨rfl, hb2⟩; have hx2 : Bx w2 b 3 (.int .i64 (c : Int)) := (hb2.block b hbl).trans HBX.out; have c2 := hx2.cell; have f2 := hx2.frz))
      all_goals
        have HX2 := Lib.hid hx2
        have HB2 := Lib.hid hb2
        clear hx2 hb2 b0
        go_wp2_with fail
        go_ret
        have hw : IntKind.i64.wrap ((c : Int) + (M : Int)) = (c : Int) + (M : Int) := by rw [IntKind.wrap_i64]; omega
        try rw [hw]
        refine ⟨true, rfl, ?_, tn_one (Below.drew2 HB2.out) hbl _⟩
        refine ⟨HB0.out, (HBE.out.trans ((Below.drew2 HB2.out).mono HBE.out.size)).setCell (p := ⟨b, 0, none⟩) HB0.out _, c + M, ?_, HN.out⟩
        have := HX2.out.set (.int .i64 ((c : Int) + (M : Int)))
        rwa [show ((c + M : Nat) : Int) = (c : Int) + (M : Int) by omega]
    · have hf : ∀ r, fsum (x :: r) = 0 := fun r => if_neg (by rw [← hkx]; exact h1)
      have HN : Hid (∀ rest, fsum ((pre ++ [x]) ++ rest) = c) := Lib.hid (fun rest => by rw [List.append_assoc, hc]; show c + fsum (x :: rest) = _; rw [hf]; rfl)
      have f1 : (kx != 1) = true := by simp [h1]
      clear hbx hc hT hxs ht hz hn hp hbel hb0 hkx hf hk1
      go_enter Tryd.func44, Tryd.ntmps44
      go_wp2_with fail
      go_ret
      exact ⟨false, rfl, ⟨HBE.out, c, HBX.out, HN.out⟩, Tn.refl _ _⟩
/-! ### Flat's builder -/
/-- What its calls never turn. -/
def SfB (B b : Nat) (W : World) (g : Nat) : Prop := g ≠ b ∧ (g < B ∨ ∃ o, W.heap[g]? = some o ∧ ∀ c fz, o ≠ .cells c 5 fz)
structure JB (w0 : World) (B b : Nat) (pre : List Dc) (W : World) : Prop where
  hi : w0.heap.size ≤ B
  bel : Below w0.heap.size w0 W
  lt : B ≤ W.heap.size
  bld : Lib.IsBuilderF 54 5 B b (Lib.byteCells (ctx pre).data.toList) W
theorem bld_block {T e : TypeId} {B b : Nat} {bs : List Value} {W : World} (h : Lib.IsBuilderF T e B b bs W) : ∃ p v, W.heap[b]? = some (.cells #[p, v] T (0, 0)) := by
  rcases h with ⟨_, v, hb, _⟩ | ⟨_, v, hb, _⟩
  · exact ⟨_, v, hb⟩
  · exact ⟨_, v, hb⟩
theorem bld_keep1 {T : TypeId} {B b : Nat} {p : Value} {bs : List Value} {A C : World} (h : Lib.BuilderAtF T 5 B b p bs A) (hk : ∀ g, g < A.heap.size → ¬ SfB B b A g → C.heap[g]? = A.heap[g]?) : Lib.BuilderAtF T 5 B b p bs C := by
  obtain ⟨hB, v, hb, ⟨h1, h2⟩, hne⟩ := h
  refine ⟨hB, v, (hk b (lt_of_block hb) (fun k => k.1 rfl)).trans hb, ⟨h1, ?_⟩, hne⟩
  rcases h2 with h2 | ⟨g, cap, cur, fz, rfl, h3, h4, h5⟩
  · exact .inl h2
  · refine .inr ⟨g, cap, cur, fz, rfl, h3, ?_, h5⟩
    rw [hk g (lt_of_block h4) (fun k => by
      rcases k.2 with k | ⟨o, ho, hn⟩
      · omega
      · rw [h4] at ho
        cases ho
        exact hn _ _ rfl)]
    exact h4
theorem bld_keep {T : TypeId} {B b : Nat} {bs : List Value} {A C : World} (h : Lib.IsBuilderF T 5 B b bs A) (hk : ∀ g, g < A.heap.size → ¬ SfB B b A g → C.heap[g]? = A.heap[g]?) : Lib.IsBuilderF T 5 B b bs C :=
  h.elim (fun h => .inl (bld_keep1 h hk)) (fun h => .inr (bld_keep1 h hk))
theorem tn_bld {B b : Nat} {A C : World} (hb : Below B A C) (ho : Lib.OthersKept 5 (some b) A C) : Tn (fun g => ¬ SfB B b A g) A C :=
  ⟨hb.os, hb.tape, hb.output, hb.size, fun g hg hm => by
    have hm := Classical.not_not.1 hm
    rcases hm.2 with h | ⟨o, h1, h2⟩
    · exact hb.block g h
    · rw [h1]
      exact ho g o h1 (fun e => hm.1 (by cases e; rfl)) h2⟩
theorem ctx_snoc : ∀ (L : List Dc) (x : Dc), ctx (L ++ [x]) = ctx L ++ wrt x
  | [], x => by show wrt x ++ (⟨#[]⟩ : ByteArray) = (⟨#[]⟩ : ByteArray) ++ wrt x; apply ByteArray.ext; simp
  | y :: t, x => by show wrt y ++ ctx (t ++ [x]) = (wrt y ++ ctx t) ++ wrt x; rw [ctx_snoc t x, ByteArray.append_assoc]
theorem ctx_le : ∀ (L : List Dc), (∀ x ∈ L, (wrt x).size ≤ 1048576) → (ctx L).size ≤ L.length * 1048576
  | [], _ => Nat.zero_le _
  | x :: t, h => by
    have h1 := ctx_le t (fun y hy => h y (List.mem_cons_of_mem _ hy))
    have h2 := h x (List.mem_cons_self ..)
    simp only [ctx, List.length_cons, ByteArray.size_append]
    omega
set_option maxRecDepth 100000 in
set_option maxHeartbeats 4000000 in
theorem bclo_any (w0 : World) (B b s : Nat) (Ls : List Dc) (hs : w0.heap.size ≤ s) (hz : ∀ x ∈ Ls, (dtx x).size ≤ 1048576) (hn : Ls.length ≤ 100000) :
    DoC 37 b s (SfB B b) (JB w0 B b) (fun _ _ => False) Ls where
  en := enters_of Tryd.func37 (by kernel_rfl) rfl
  loc := fun A C g h e => ⟨h.1, h.2.imp id (fun ⟨o, h1, h2⟩ => ⟨o, e.trans h1, h2⟩)⟩
  ty := fun pre W g cs fr h hg => by
    obtain ⟨p, v, hb⟩ := bld_block h.bld
    refine ⟨fun e => ?_, .inr ⟨_, hg, fun c fz e => ?_⟩⟩
    · subst e
      rw [hb] at hg
      injection hg with hg
      injection hg with _ h2 _
      exact absurd h2 (by decide)
    · injection e with _ h2 _
      exact absurd h2 (by decide)
  st := fun pre A C h hk hb => ⟨h.hi, h.bel.trans (hb.mono hs), Nat.le_trans h.lt hb.size, bld_keep h.bld hk⟩
  call := by
    intro pre x rest W g o hp hJ hg hlf
    obtain ⟨hi, hbel, hlt, hbld⟩ := hJ
    have HWr := Lib.hid (written_any x g o W hlf)
    obtain ⟨T, hT⟩ : ∃ T, T = wrt x := ⟨_, rfl⟩
    have hTs : T.size ≤ 1048576 := by rw [hT]; exact wrt_sz (hz x (by rw [← hp]; simp))
    have hcs : (ctx pre).size ≤ 100000 * 1048576 := by
      have h2 := ctx_le pre (fun y hy => wrt_sz (hz y (by rw [← hp]; simp [hy])))
      have h3 : pre.length * 1048576 ≤ 100000 * 1048576 := Nat.mul_le_mul_right _ (by have := congrArg List.length hp; simp only [List.length_append, List.length_cons] at this; omega)
      exact Nat.le_trans h2 h3
    have HW := Lib.hid (Any.Builder_WriteString_k bl166 blX B b (Lib.byteCells (ctx pre).data.toList) T W hbld (by
      rw [Lib.byteCells_length]
      have h4 : (ctx pre).data.toList.length = (ctx pre).size := by simp
      rw [h4]
      clear hbld hlf hp hz hn hg HWr hT
      omega) hlt)
    have HN : Hid (Lib.byteCells (ctx (pre ++ [x])).data.toList = Lib.byteCells (ctx pre).data.toList ++ Lib.strCells T) := Lib.hid (by rw [ctx_snoc, ← hT, Lib.strCells_eq, ← Lib.byteCells_append]; simp)
    rw [← hT] at HWr
    have HH := Lib.hid (⟨hi, hbel, hlt⟩ : w0.heap.size ≤ B ∧ Below w0.heap.size w0 W ∧ B ≤ W.heap.size)
    clear hT hlf hp hz hn hbel hbld hcs hTs
    go_enter Tryd.func37, Tryd.ntmps37
    go_wp2_with fail
    refine HWr.out.mono ?_
    rintro e w1 ⟨rfl, rfl⟩
    go_wp2_with fail
    refine HW.out.mono ?_
    rintro e w2 ⟨rfl, hbu, hb2, hok⟩
    have HB2 := Lib.hid hb2
    have HOK := Lib.hid hok
    have HBU := Lib.hid hbu
    clear hbu hb2 hok
    go_wp2_with fail
    go_ret
    obtain ⟨h1, h2, h3⟩ := HH.out
    refine ⟨true, rfl, ⟨h1, h2.trans (HB2.out.mono h1), Nat.le_trans h3 HB2.out.size, ?_⟩, tn_bld HB2.out HOK.out⟩
    rw [HN.out]
    exact .inr HBU.out
end Go.Proofs.YtnmpapmjkihfcaaDoor
