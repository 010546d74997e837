/-
  THE PROGRAM's layouts: leaves, sums, rows of parts.
-/
import Derived.Test.YtbjgoigdhijbgaaDoorFlatFns
import Derived.Deep.RegionLaw
import Derived.Deep.LoopGhost
import Derived.Deep.RegionHeld3
set_option linter.all false
/- THE PROGRAM's layouts: what is asked of a part by itself. -/
namespace Go.Proofs.YtbjgoigdhijbgaaDoor
open Go.RowKit Go.PlainAid

/-- May a line end with it? -/
def med (k : Int) : Bool := k == 2 || k == 3 || k == 4
/-- A part that is to come, as a value. -/
def cmV (g o : Nat) (r : Int) (f : Bool) : Value := .agg #[.pointer (some ⟨g, o, none⟩), .int .i64 r, .bool f]
theorem lf_box {W W' : World} {x : Dc} {g o : Nat} (h : LfC W x g o) (hb : Below W.heap.size W W') : LfC W' x g o := by
  obtain ⟨h1, a, cap, h2, h3, h4, h5⟩ := h
  exact ⟨Nat.lt_of_lt_of_le h1 hb.size, a, cap, (hb.cell (p := ⟨g, o, none⟩) h1).trans h2, (hb.cell (p := ⟨g, o + 1, none⟩) h1).trans h3, (hb.cell (p := ⟨g, o + 2, none⟩) h1).trans h4, (hb.cell (p := ⟨g, o + 3, none⟩) h1).trans h5⟩
theorem three_of {W : World} {g : Nat} {a b c : Value} {ty : TypeId} (h : W.heap[g]? = some (.cells #[a, b, c] ty (0, 0))) :
    (W.cell? ⟨g, 0, none⟩ = some a ∧ W.cell? ⟨g, 1, none⟩ = some b ∧ W.cell? ⟨g, 2, none⟩ = some c) ∧ ∀ i, W.frozen? ⟨g, i, none⟩ = false :=
  ⟨⟨cell_of_row W g 0 _ _ _ h, cell_of_row W g 1 _ _ _ h, cell_of_row W g 2 _ _ _ h⟩, fun i => frz_of h i⟩
set_option maxRecDepth 100000 in
set_option maxHeartbeats 4000000 in
theorem mayEnd_any (x : Dc) (g o : Nat) (r : Int) (f : Bool) (W : World) (h : LfC W x g o) :
    Calls Tryd.prog 42 #[cmV g o r f] W fun e W' => e = .returned (.bool (med (dkd x))) ∧ Below W.heap.size W W' := by
  obtain ⟨h1, a, cap, y0, y1, y2, y3⟩ := lf_box h (below1 W (.cells #[.pointer (some ⟨g, o, none⟩), .int .i64 r, .bool f] 56))
  obtain ⟨⟨c0, c1, c2⟩, -⟩ := three_of (new_at9 (W := W) (ob := .cells #[.pointer (some ⟨g, o, none⟩), .int .i64 r, .bool f] 56))
  have HB := Lib.hid (below1 W (.cells #[.pointer (some ⟨g, o, none⟩), .int .i64 r, .bool f] 56))
  obtain ⟨k, hk⟩ : ∃ k, k = dkd x := ⟨_, rfl⟩
  rw [← hk] at y0 ⊢
  unfold med cmV
  clear h hk y1 y2 y3 h1
  cases e2 : (k == 2)
  · cases e3 : (k == 3)
    · cases e4 : (k == 4)
      all_goals
        go_enter Tryd.func42, Tryd.ntmps42
        go_wp2_with fail
        go_ret
        exact ⟨rfl, HB.out⟩
    · go_enter Tryd.func42, Tryd.ntmps42
      go_wp2_with fail
      go_ret
      exact ⟨rfl, HB.out⟩
  · go_enter Tryd.func42, Tryd.ntmps42
    go_wp2_with fail
    go_ret
    exact ⟨rfl, HB.out⟩
set_option maxRecDepth 100000 in
set_option maxHeartbeats 4000000 in
theorem forces_any (x : Dc) (g o : Nat) (r : Int) (f : Bool) (W : World) (h : LfC W x g o) :
    Calls Tryd.prog 58 #[cmV g o r f] W fun e W' => e = .returned (.bool (dfr (dkd x) (dnn x))) ∧ Below W.heap.size W W' := by
  obtain ⟨h1, a, cap, y0, y1, y2, y3⟩ := lf_box h (below1 W (.cells #[.pointer (some ⟨g, o, none⟩), .int .i64 r, .bool f] 56))
  obtain ⟨⟨c0, c1, c2⟩, -⟩ := three_of (new_at9 (W := W) (ob := .cells #[.pointer (some ⟨g, o, none⟩), .int .i64 r, .bool f] 56))
  have HB := Lib.hid (below1 W (.cells #[.pointer (some ⟨g, o, none⟩), .int .i64 r, .bool f] 56))
  obtain ⟨k, hk⟩ : ∃ k, k = dkd x := ⟨_, rfl⟩
  obtain ⟨n, hn⟩ : ∃ n, n = dnn x := ⟨_, rfl⟩
  rw [← hk] at y0 ⊢
  rw [← hn] at y1 ⊢
  unfold dfr cmV
  clear h hk hn y2 y3 h1
  cases e2 : (k == 4)
  · cases e3 : (k == 7)
    · go_enter Tryd.func58, Tryd.ntmps58
      go_wp2_with fail
      go_ret
      exact ⟨rfl, HB.out⟩
    · cases e4 : (n == 1)
      all_goals
        go_enter Tryd.func58, Tryd.ntmps58
        go_wp2_with fail
        go_ret
        exact ⟨rfl, HB.out⟩
  · go_enter Tryd.func58, Tryd.ntmps58
    go_wp2_with fail
    go_ret
    exact ⟨rfl, HB.out⟩
set_option maxRecDepth 100000 in
set_option maxHeartbeats 4000000 in
theorem rwritten_any (x : Dc) (g o : Nat) (r : Int) (f : Bool) (W : World) (h : LfC W x g o) :
    Calls Tryd.prog 27 #[cmV g o r f] W fun e W' => e = .returned (.string (wrt x)) ∧ Below W.heap.size W W' := by
  obtain ⟨h1, a, cap, y0, y1, y2, y3⟩ := lf_box h (below1 W (.cells #[.pointer (some ⟨g, o, none⟩), .int .i64 r, .bool f] 56))
  obtain ⟨⟨c0, c1, c2⟩, -⟩ := three_of (new_at9 (W := W) (ob := .cells #[.pointer (some ⟨g, o, none⟩), .int .i64 r, .bool f] 56))
  have HB := Lib.hid (below1 W (.cells #[.pointer (some ⟨g, o, none⟩), .int .i64 r, .bool f] 56))
  obtain ⟨k, n, t, l⟩ := x
  simp only [dkd, dnn, dtx, dks] at y0 y1 y2 y3
  unfold cmV
  clear h h1
  by_cases e1 : k = 1
  · rw [show wrt (.mk k n t l) = t from if_pos e1]
    subst e1
    go_enter Tryd.func27, Tryd.ntmps27
    go_wp2_with fail
    go_ret
    exact ⟨rfl, HB.out⟩
  · have f1 : (k == 1) = false := by simp [e1]
    by_cases e2 : k = 2
    · rw [show wrt (.mk k n t l) = ⟨#[32]⟩ from (if_neg e1).trans (if_pos e2)]
      clear e1
      subst e2
      go_enter Tryd.func27, Tryd.ntmps27
      go_wp2_with fail
      go_ret
      exact ⟨rfl, HB.out⟩
    · have f2 : (k == 2) = false := by simp [e2]
      rw [show wrt (.mk k n t l) = ⟨#[]⟩ from (if_neg e1).trans (if_neg e2)]
      clear e1 e2
      go_enter Tryd.func27, Tryd.ntmps27
      go_wp2_with fail
      go_ret
      exact ⟨rfl, HB.out⟩
set_option maxRecDepth 100000 in
set_option maxHeartbeats 4000000 in
theorem rends_any (x : Dc) (g o : Nat) (r : Int) (f : Bool) (W : World) (h : LfC W x g o) :
    Calls Tryd.prog 25 #[cmV g o r f] W fun e W' => e = .returned (.bool (med (dkd x) && !f)) ∧ Below W.heap.size W W' := by
  have HB := Lib.hid (below1 W (.cells #[.pointer (some ⟨g, o, none⟩), .int .i64 r, .bool f] 56))
  have HM := Lib.hid (mayEnd_any x g o r f _ (lf_box h HB.out))
  obtain ⟨⟨c0, c1, c2⟩, -⟩ := three_of (new_at9 (W := W) (ob := .cells #[.pointer (some ⟨g, o, none⟩), .int .i64 r, .bool f] 56))
  obtain ⟨b, hb⟩ : ∃ b, b = med (dkd x) := ⟨_, rfl⟩
  rw [← hb] at HM ⊢
  unfold cmV at HM ⊢
  clear h hb
  go_enter Tryd.func25, Tryd.ntmps25
  go_wp2_with fail
  refine HM.out.mono ?_
  rintro e w1 ⟨rfl, hb1⟩
  obtain ⟨⟨z0, z1, z2⟩, -⟩ := three_of ((hb1.block _ (by simp)).trans (new_at9 (W := W) (ob := .cells #[.pointer (some ⟨g, o, none⟩), .int .i64 r, .bool f] 56)))
  have HB1 : Hid (Below W.heap.size W w1) := Lib.hid (HB.out.trans (hb1.mono HB.out.size))
  clear hb1 c0 c1 c2
  cases b
  all_goals
    go_wp2_with fail
    go_ret
    exact ⟨by simp, HB1.out⟩
end Go.Proofs.YtbjgoigdhijbgaaDoor
/- THE PROGRAM's layouts: the sums with a part ahead. -/
namespace Go.Proofs.YtbjgoigdhijbgaaDoor
open Go.RowKit Go.PlainAid

theorem four_of7 {W : World} {g : Nat} {a b c d : Value} {ty : TypeId} (h : W.heap[g]? = some (.cells #[a, b, c, d] ty (0, 0))) :
    (W.cell? ⟨g, 0, none⟩ = some a ∧ W.cell? ⟨g, 1, none⟩ = some b ∧ W.cell? ⟨g, 2, none⟩ = some c ∧ W.cell? ⟨g, 3, none⟩ = some d) ∧ ∀ i, W.frozen? ⟨g, i, none⟩ = false :=
  ⟨⟨cell_of_row W g 0 _ _ _ h, cell_of_row W g 1 _ _ _ h, cell_of_row W g 2 _ _ _ h, cell_of_row W g 3 _ _ _ h⟩, fun i => frz_of h i⟩
theorem put4_1 {W : World} {g : Nat} {a b c d : Value} {ty : TypeId} (h : W.heap[g]? = some (.cells #[a, b, c, d] ty (0, 0))) (u : Value) : (W.setCell ⟨g, 1, none⟩ u).heap[g]? = some (.cells #[a, u, c, d] ty (0, 0)) := by simpa using heap_setCell_same W g 1 _ _ u h
theorem put4_2 {W : World} {g : Nat} {a b c d : Value} {ty : TypeId} (h : W.heap[g]? = some (.cells #[a, b, c, d] ty (0, 0))) (u : Value) : (W.setCell ⟨g, 2, none⟩ u).heap[g]? = some (.cells #[a, b, u, d] ty (0, 0)) := by simpa using heap_setCell_same W g 2 _ _ u h
theorem put4_3 {W : World} {g : Nat} {a b c d : Value} {ty : TypeId} (h : W.heap[g]? = some (.cells #[a, b, c, d] ty (0, 0))) (u : Value) : (W.setCell ⟨g, 3, none⟩ u).heap[g]? = some (.cells #[a, b, c, u] ty (0, 0)) := by simpa using heap_setCell_same W g 3 _ _ u h
theorem put4_0 {W : World} {g : Nat} {a b c d : Value} {ty : TypeId} (h : W.heap[g]? = some (.cells #[a, b, c, d] ty (0, 0))) (u : Value) : (W.setCell ⟨g, 0, none⟩ u).heap[g]? = some (.cells #[u, b, c, d] ty (0, 0)) := by simpa using heap_setCell_same W g 0 _ _ u h
theorem put_other {W : World} {g g' i : Nat} {o : Obj} (h : W.heap[g]? = some o) (hne : g ≠ g') (u : Value) : (W.setCell ⟨g', i, none⟩ u).heap[g]? = some o := (Below.heap_setCell _ _ _ _ hne).trans h
theorem set_four7 {W : World} {g : Nat} {a b c d : Value} {ty : TypeId} (h : W.heap[g]? = some (.cells #[a, b, c, d] ty (0, 0))) (a' b' c' d' : Value) :
    ((((W.setCell ⟨g, 0, none⟩ a').setCell ⟨g, 1, none⟩ b').setCell ⟨g, 2, none⟩ c').setCell ⟨g, 3, none⟩ d').heap[g]? = some (.cells #[a', b', c', d'] ty (0, 0)) := put4_3 (put4_2 (put4_1 (put4_0 h _) _) _) _
theorem set_fourB7 {W : World} {g B : Nat} (hg : B ≤ g) (a' b' c' d' : Value) : Below B W ((((W.setCell ⟨g, 0, none⟩ a').setCell ⟨g, 1, none⟩ b').setCell ⟨g, 2, none⟩ c').setCell ⟨g, 3, none⟩ d') :=
  ((((Below.refl B W).setCell (p := ⟨g, 0, none⟩) hg _).setCell (p := ⟨g, 1, none⟩) hg _).setCell (p := ⟨g, 2, none⟩) hg _).setCell (p := ⟨g, 3, none⟩) hg _
/-- Sums of a part and of all that comes behind it. -/
structure Sm where
  nx : Nat
  wd : Nat
  fs : Nat
  fc : Nat
def Sm.add (s : Sm) (x : Dc) : Sm := ⟨s.nx, s.wd + ct (wrt x) 0, if med (dkd x) = true then 0 else s.fs + ct (wrt x) 0, s.fc + if dfr (dkd x) (dnn x) = true then 1 else 0⟩
def smV (s : Sm) : Value := .agg #[.int .i64 (s.nx : Int), .int .i64 (s.wd : Int), .int .i64 (s.fs : Int), .int .i64 (s.fc : Int)]
set_option maxRecDepth 100000 in
set_option maxHeartbeats 4000000 in
theorem with_any (s : Sm) (x : Dc) (g o : Nat) (r : Int) (f : Bool) (W : World) (h : LfC W x g o) (ht : Tabs W) (hx : (dtx x).size ≤ 1048576) (h1 : s.wd ≤ 1000000000000) (h2 : s.fs ≤ 1000000000000) (h3 : s.fc ≤ 1000000000000) :
    Calls Tryd.prog 51 #[smV s, cmV g o r f] W fun e W' => e = .returned (smV (s.add x)) ∧ Below W.heap.size W W' := by
  obtain ⟨nx, wd, fs, fc⟩ := s
  simp only at h1 h2 h3
  obtain ⟨sb, hsb⟩ : ∃ sb, sb = W.heap.size := ⟨_, rfl⟩
  obtain ⟨Z, hZ⟩ : ∃ Z, Z = ((W.alloc (.cells #[.int .i64 (nx : Int), .int .i64 (wd : Int), .int .i64 (fs : Int), .int .i64 (fc : Int)] 75)).alloc (.cells #[.pointer (some ⟨g, o, none⟩), .int .i64 r, .bool f] 56)).alloc (.cells #[.int .i64 0, .int .i64 0, .int .i64 0, .int .i64 0] 75) := ⟨_, rfl⟩
  have hbZ : Below W.heap.size W Z := by rw [hZ]; exact ((below1 _ _).alloc (by simp) _).alloc (by simp; omega) _
  have hz0 : Z.heap[sb]? = some (.cells #[.int .i64 (nx : Int), .int .i64 (wd : Int), .int .i64 (fs : Int), .int .i64 (fc : Int)] 75) := by rw [hZ, hsb, old_at9 (by simp; omega), old_at9 (by simp)]; exact new_at9
  have hz1 : Z.heap[sb + 1]? = some (.cells #[.pointer (some ⟨g, o, none⟩), .int .i64 r, .bool f] 56) := by rw [hZ, hsb, old_at9 (by simp)]; exact new_at8 (by simp)
  have hz2 : Z.heap[sb + 1 + 1]? = some (.cells #[.int .i64 0, .int .i64 0, .int .i64 0, .int .i64 0] 75) := by rw [hZ, hsb]; exact new_at8 (by simp)
  have HW := Lib.hid (fun V (hb : Below Z.heap.size Z V) => rwritten_any x g o r f V (lf_box h (hbZ.trans (hb.mono hbZ.size))))
  have HE := Lib.hid (fun V (hb : Below W.heap.size W V) => mayEnd_any x g o r f V (lf_box h hb))
  have HF := Lib.hid (fun V (hb : Below W.heap.size W V) => forces_any x g o r f V (lf_box h hb))
  have HC := Lib.hid (fun V (hb : Below W.heap.size W V) => cwidth_any (wrt x) V (wrt_sz hx) (ht.below hb))
  have hM := ct_le (wrt x) (wrt x).size 0 (by omega)
  have hM2 := wrt_sz hx
  simp only [Sm.add]
  obtain ⟨T, hT⟩ : ∃ T, T = wrt x := ⟨_, rfl⟩
  rw [← hT] at HW HC hM hM2
  rw [← hT]
  obtain ⟨M, hMM⟩ : ∃ M, M = ct T 0 := ⟨_, rfl⟩
  rw [← hMM] at HC hM ⊢
  obtain ⟨b1, hb1⟩ : ∃ b, b = med (dkd x) := ⟨_, rfl⟩
  obtain ⟨b2, hb2⟩ : ∃ b, b = dfr (dkd x) (dnn x) := ⟨_, rfl⟩
  rw [← hb1] at HE ⊢
  rw [← hb2] at HF ⊢
  unfold cmV smV at *
  have HZ := Lib.hid hbZ
  have HZR : Hid (Below Z.heap.size Z Z) := Lib.hid (Below.refl _ _)
  obtain ⟨⟨c0, c1, c2⟩, -⟩ := three_of hz1
  have HZ0 := Lib.hid hz0
  have HZ1 := Lib.hid hz1
  have HZ2 := Lib.hid hz2
  have HSB := Lib.hid hsb
  have HZE := Lib.hid hZ
  have hMb : M ≤ 1048576 := by omega
  clear h ht hx hbZ hz0 hz1 hz2 hT hMM hb1 hb2 hZ hM hM2
  go_enter Tryd.func51, Tryd.ntmps51
  go_upto_region 1 with fail
  rw [← hsb]
  try rw [← hsb] at HZE
  rw [← HZE.out]
  clear hsb
  go_wp2_with fail
  refine (HW.out _ HZR.out).mono ?_
  rintro e w1 ⟨rfl, hb1⟩
  have HB1 := Lib.hid hb1
  clear hb1 c0 c1 c2
  go_wp2_with fail
  refine (HC.out _ (HZ.out.trans (HB1.out.mono HZ.out.size))).mono ?_
  rintro e w2 ⟨rfl, hb2⟩
  have hb2 : Below Z.heap.size Z w2 := HB1.out.trans (hb2.mono HB1.out.size)
  have hx0 := (hb2.block _ (lt_of_block HZ0.out)).trans HZ0.out
  have hx1 := (hb2.block _ (lt_of_block HZ1.out)).trans HZ1.out
  have hx2 := (hb2.block _ (lt_of_block HZ2.out)).trans HZ2.out
  have HX0 := Lib.hid hx0
  have HX1 := Lib.hid hx1
  have HX2 := Lib.hid hx2
  have HB2 : Hid (Below W.heap.size W w2) := Lib.hid (HZ.out.trans (hb2.mono HZ.out.size))
  obtain ⟨⟨a0, a1, a2, a3⟩, af⟩ := four_of7 hx0
  obtain ⟨⟨b0, b1', b2'⟩, -⟩ := three_of hx1
  have hsbW : W.heap.size ≤ sb := by rw [HSB.out]; exact Nat.le_refl _
  have HSW := Lib.hid hsbW
  have hw1 : IntKind.i64.wrap ((wd : Int) + (M : Int)) = (wd : Int) + (M : Int) := by rw [IntKind.wrap_i64]; omega
  have hw2 : IntKind.i64.wrap ((fs : Int) + (M : Int)) = (fs : Int) + (M : Int) := by rw [IntKind.wrap_i64]; omega
  have hw3 : IntKind.i64.wrap ((fc : Int) + 1) = (fc : Int) + 1 := by rw [IntKind.wrap_i64]; omega
  clear hb2 hx0 hx1 hx2 HZ0 HZ1 HZ2 HB1 hsbW HW HC
  go_wp2_with fail
  obtain ⟨V, hV⟩ : ∃ V, V = (w2.setCell ⟨sb, 1, none⟩ (.int .i64 ((wd : Int) + (M : Int)))).setCell ⟨sb, 2, none⟩ (.int .i64 ((fs : Int) + (M : Int))) := ⟨_, rfl⟩
  have HV : Hid (Below W.heap.size W V) := Lib.hid (by rw [hV]; exact (HB2.out.setCell (p := ⟨sb, 1, none⟩) HSW.out _).setCell (p := ⟨sb, 2, none⟩) HSW.out _)
  have hv0 : V.heap[sb]? = some (.cells #[.int .i64 (nx : Int), .int .i64 ((wd : Int) + (M : Int)), .int .i64 ((fs : Int) + (M : Int)), .int .i64 (fc : Int)] 75) := by rw [hV]; exact put4_2 (put4_1 HX0.out _) _
  have hv1 : V.heap[sb + 1]? = some (.cells #[.pointer (some ⟨g, o, none⟩), .int .i64 r, .bool f] 56) := by rw [hV]; exact put_other (put_other HX1.out (by omega) _) (by omega) _
  have hv2 : V.heap[sb + 1 + 1]? = some (.cells #[.int .i64 0, .int .i64 0, .int .i64 0, .int .i64 0] 75) := by rw [hV]; exact put_other (put_other HX2.out (by omega) _) (by omega) _
  rw [← hV]
  have HV0 := Lib.hid hv0
  have HV1 := Lib.hid hv1
  have HV2 := Lib.hid hv2
  clear a0 a1 a2 a3 af b0 b1' b2' hV hv0 hv1 hv2 HX0 HX1 HX2
  refine (HE.out _ HV.out).mono ?_
  rintro e w3 ⟨rfl, hb3⟩
  have HW0 := Lib.hid ((hb3.block _ (lt_of_block HV0.out)).trans HV0.out)
  have HW1 := Lib.hid ((hb3.block _ (lt_of_block HV1.out)).trans HV1.out)
  have HW2 := Lib.hid ((hb3.block _ (lt_of_block HV2.out)).trans HV2.out)
  have HB3 : Hid (Below W.heap.size W w3) := Lib.hid (HV.out.trans (hb3.mono HV.out.size))
  clear hb3 HV0 HV1 HV2 HV
  obtain ⟨⟨a0, a1, a2, a3⟩, af⟩ := four_of7 HW0.out
  obtain ⟨⟨b0, b1', b2'⟩, -⟩ := three_of HW1.out
  have hq1 : sb + 1 ≠ sb := by omega
  cases b1
  · go_wp2_with fail
    have HB4 : Hid (Below W.heap.size W w3) := Lib.hid (HB3.out)
    have hu0 : w3.heap[sb]? = some (.cells #[.int .i64 (nx : Int), .int .i64 ((wd : Int) + (M : Int)), (.int .i64 ((fs : Int) + (M : Int))), .int .i64 (fc : Int)] 75) := HW0.out
    have hu1 : w3.heap[sb + 1]? = some (.cells #[.pointer (some ⟨g, o, none⟩), .int .i64 r, .bool f] 56) := HW1.out
    have hu2 : w3.heap[sb + 1 + 1]? = some (.cells #[.int .i64 0, .int .i64 0, .int .i64 0, .int .i64 0] 75) := HW2.out
    refine (HF.out _ HB4.out).mono ?_
    rintro e w4 ⟨rfl, hb4⟩
    have HY0 := Lib.hid ((hb4.block _ (lt_of_block hu0)).trans hu0)
    have HY1 := Lib.hid ((hb4.block _ (lt_of_block hu1)).trans hu1)
    have HY2 := Lib.hid ((hb4.block _ (lt_of_block hu2)).trans hu2)
    have HB5 : Hid (Below W.heap.size W w4) := Lib.hid (HB4.out.trans (hb4.mono HB4.out.size))
    clear hu0 hu1 hu2 hb4 a0 a1 a2 a3 af b0 b1' b2'
    obtain ⟨⟨a0, a1, a2, a3⟩, af⟩ := four_of7 HY0.out
    obtain ⟨⟨z0, z1, z2, z3⟩, zf⟩ := four_of7 HY2.out
    have hne : sb ≠ sb + 1 + 1 := by omega
    have hne2 : sb + 1 + 1 ≠ sb := by omega
    cases b2
    · clear hw3
      go_wp2_with fail
      have hr := set_four7 HY2.out (.int .i64 (nx : Int)) (.int .i64 ((wd : Int) + (M : Int))) (.int .i64 ((fs : Int) + (M : Int))) (.int .i64 (fc : Int))
      refine bodyPost_ret (v := .agg #[.int .i64 (nx : Int), .int .i64 ((wd : Int) + (M : Int)), (.int .i64 ((fs : Int) + (M : Int))), .int .i64 (fc : Int)]) (results_cell_row rfl _ _ (sb + 1 + 1) _ _ _ _ rfl hr Tryd.underlying75 rfl (by kernel_rfl)) rfl ?_
      refine ⟨by simp, ?_⟩
      have := HSW.out
      exact HB5.out.trans ((set_fourB7 (W := w4) (show W.heap.size ≤ sb + 1 + 1 by omega) _ _ _ _))
    · go_wp2_with fail
      have hy2 : (w4.setCell ⟨sb, 3, none⟩ (.int .i64 ((fc : Int) + 1))).heap[sb + 1 + 1]? = some (.cells #[.int .i64 0, .int .i64 0, .int .i64 0, .int .i64 0] 75) := put_other HY2.out hne2 _
      have hr := set_four7 hy2 (.int .i64 (nx : Int)) (.int .i64 ((wd : Int) + (M : Int))) (.int .i64 ((fs : Int) + (M : Int))) (.int .i64 ((fc : Int) + 1))
      refine bodyPost_ret (v := .agg #[.int .i64 (nx : Int), .int .i64 ((wd : Int) + (M : Int)), (.int .i64 ((fs : Int) + (M : Int))), .int .i64 ((fc : Int) + 1)]) (results_cell_row rfl _ _ (sb + 1 + 1) _ _ _ _ rfl hr Tryd.underlying75 rfl (by kernel_rfl)) rfl ?_
      refine ⟨by simp, ?_⟩
      have := HSW.out
      exact (HB5.out.setCell (p := ⟨sb, 3, none⟩) HSW.out _).trans ((set_fourB7 (show W.heap.size ≤ sb + 1 + 1 by omega) _ _ _ _))
  · go_wp2_with fail
    have HB4 : Hid (Below W.heap.size W (w3.setCell ⟨sb, 2, none⟩ (.int .i64 0))) := Lib.hid (HB3.out.setCell (p := ⟨sb, 2, none⟩) HSW.out _)
    have hu0 : (w3.setCell ⟨sb, 2, none⟩ (.int .i64 0)).heap[sb]? = some (.cells #[.int .i64 (nx : Int), .int .i64 ((wd : Int) + (M : Int)), (.int .i64 0), .int .i64 (fc : Int)] 75) := put4_2 HW0.out _
    have hu1 : (w3.setCell ⟨sb, 2, none⟩ (.int .i64 0)).heap[sb + 1]? = some (.cells #[.pointer (some ⟨g, o, none⟩), .int .i64 r, .bool f] 56) := put_other HW1.out (by omega) _
    have hu2 : (w3.setCell ⟨sb, 2, none⟩ (.int .i64 0)).heap[sb + 1 + 1]? = some (.cells #[.int .i64 0, .int .i64 0, .int .i64 0, .int .i64 0] 75) := put_other HW2.out (by omega) _
    refine (HF.out _ HB4.out).mono ?_
    rintro e w4 ⟨rfl, hb4⟩
    have HY0 := Lib.hid ((hb4.block _ (lt_of_block hu0)).trans hu0)
    have HY1 := Lib.hid ((hb4.block _ (lt_of_block hu1)).trans hu1)
    have HY2 := Lib.hid ((hb4.block _ (lt_of_block hu2)).trans hu2)
    have HB5 : Hid (Below W.heap.size W w4) := Lib.hid (HB4.out.trans (hb4.mono HB4.out.size))
    clear hu0 hu1 hu2 hb4 a0 a1 a2 a3 af b0 b1' b2'
    obtain ⟨⟨a0, a1, a2, a3⟩, af⟩ := four_of7 HY0.out
    obtain ⟨⟨z0, z1, z2, z3⟩, zf⟩ := four_of7 HY2.out
    have hne : sb ≠ sb + 1 + 1 := by omega
    have hne2 : sb + 1 + 1 ≠ sb := by omega
    cases b2
    · clear hw3
      go_wp2_with fail
      have hr := set_four7 HY2.out (.int .i64 (nx : Int)) (.int .i64 ((wd : Int) + (M : Int))) (.int .i64 0) (.int .i64 (fc : Int))
      refine bodyPost_ret (v := .agg #[.int .i64 (nx : Int), .int .i64 ((wd : Int) + (M : Int)), (.int .i64 0), .int .i64 (fc : Int)]) (results_cell_row rfl _ _ (sb + 1 + 1) _ _ _ _ rfl hr Tryd.underlying75 rfl (by kernel_rfl)) rfl ?_
      refine ⟨by simp, ?_⟩
      have := HSW.out
      exact HB5.out.trans ((set_fourB7 (W := w4) (show W.heap.size ≤ sb + 1 + 1 by omega) _ _ _ _))
    · go_wp2_with fail
      have hy2 : (w4.setCell ⟨sb, 3, none⟩ (.int .i64 ((fc : Int) + 1))).heap[sb + 1 + 1]? = some (.cells #[.int .i64 0, .int .i64 0, .int .i64 0, .int .i64 0] 75) := put_other HY2.out hne2 _
      have hr := set_four7 hy2 (.int .i64 (nx : Int)) (.int .i64 ((wd : Int) + (M : Int))) (.int .i64 0) (.int .i64 ((fc : Int) + 1))
      refine bodyPost_ret (v := .agg #[.int .i64 (nx : Int), .int .i64 ((wd : Int) + (M : Int)), (.int .i64 0), .int .i64 ((fc : Int) + 1)]) (results_cell_row rfl _ _ (sb + 1 + 1) _ _ _ _ rfl hr Tryd.underlying75 rfl (by kernel_rfl)) rfl ?_
      refine ⟨by simp, ?_⟩
      have := HSW.out
      exact (HB5.out.setCell (p := ⟨sb, 3, none⟩) HSW.out _).trans ((set_fourB7 (show W.heap.size ≤ sb + 1 + 1 by omega) _ _ _ _))
end Go.Proofs.YtbjgoigdhijbgaaDoor
/- Layouts: rows of parts that are to come, plainly and in memory. -/
namespace Go.Proofs.YtbjgoigdhijbgaaDoor
open Go.RowKit Go.PlainAid Go.Shelf

/-! ### plainly -/
mutual
/-- A document and all that is in it, each ahead of what is in it, with how far right it is nested. -/
def prO : Int → Dc → List (Dc × Int)
  | r, .mk k n t l => (.mk k n t l, r) :: prOL (if k = 6 then r + n else r) l
def prOL : Int → List Dc → List (Dc × Int)
  | _, [] => []
  | r, x :: t => prO r x ++ prOL r t
end
def rgt (r : Int) (x : Dc) : Int := if dkd x = 6 then r + dnn x else r
theorem prO_eq (r : Int) (x : Dc) : prO r x = (x, r) :: prOL (rgt r x) (dks x) := by cases x; rfl
mutual
theorem prO_len : ∀ (r : Int) (x : Dc), (prO r x).length = dcnt x
  | r, .mk k n t l => by simp only [prO, dcnt, List.length_cons, prOL_len _ l]; omega
theorem prOL_len : ∀ (r : Int) (l : List Dc), (prOL r l).length = dcntL l
  | _, [] => rfl
  | r, x :: t => by simp only [prOL, dcntL, List.length_append, prO_len r x, prOL_len r t]
end
/-- A part that is to come. -/
structure Ent where
  x : Dc
  g : Nat
  o : Nat
  r : Int
  f : Bool
def entV (e : Ent) : List Value := [.pointer (some ⟨e.g, e.o, none⟩), .int .i64 e.r, .bool e.f]
def flE : List Ent → List Value
  | [] => []
  | e :: t => entV e ++ flE t
theorem flE_len : ∀ E : List Ent, (flE E).length = E.length * 3
  | [] => rfl
  | e :: t => by simp only [flE, entV, List.length_append, List.length_cons, List.length_nil, flE_len t]; omega
theorem flE_app : ∀ A B : List Ent, flE (A ++ B) = flE A ++ flE B
  | [], B => rfl
  | e :: t, B => by simp only [List.cons_append, flE, flE_app t B, List.append_assoc]
theorem flE_at : ∀ {E : List Ent} {i : Nat} {e : Ent} {j : Nat}, E[i]? = some e → j < 3 → (flE E)[i * 3 + j]? = (entV e)[j]?
  | [], _, _, _, h, _ => by simp at h
  | a :: t, 0, e, j, h, hj => by
    simp only [List.getElem?_cons_zero, Option.some.injEq] at h
    subst h
    rw [Nat.zero_mul, Nat.zero_add, flE, List.getElem?_append_left (by simp [entV]; omega)]
  | a :: t, i + 1, e, j, h, hj => by
    simp only [List.getElem?_cons_succ] at h
    have := flE_at (j := j) h hj
    rw [flE, List.getElem?_append_right (by simp [entV]; omega), show (i + 1) * 3 + j - (entV a).length = i * 3 + j by simp [entV]; omega]
    exact this
/-- What is still to come of these, the last one first. -/
def prE : List Ent → List (Dc × Int)
  | [] => []
  | e :: t => prE t ++ prO e.r e.x
theorem prE_snoc : ∀ (E : List Ent) (e : Ent), prE (E ++ [e]) = prO e.r e.x ++ prE E
  | [], e => by simp [prE]
  | a :: t, e => by simp only [List.cons_append, prE, prE_snoc t e, List.append_assoc]
/-! ### in memory -/
abbrev CmR (W : World) (b : Nat) (v : Value) (E : List Ent) : Prop := W.ownsRow b 56 3 v E.length (flE E)
theorem CmR.slice {W : World} {b : Nat} {v : Value} {E : List Ent} (h : CmR W b v E) : ∃ a c, v = .slice a E.length c ∧ E.length ≤ c ∧ c ≤ maxLen := by
  obtain ⟨-, ⟨rfl, e⟩ | ⟨g, cap, cur, rfl, -, -, h5, h6, -⟩⟩ := h
  · exact ⟨_, _, by rw [e], by omega, Nat.zero_le _⟩
  · exact ⟨_, _, rfl, h5, h6⟩
theorem CmR.nil (W : World) (b : Nat) : CmR W b (.slice none 0 0) [] := World.ownsRow_nil _ _ _ _
/-- Its block is one's own, and a row of parts. -/
theorem CmR.own {W : World} {b : Nat} {v : Value} {E : List Ent} {k : Nat} (h : CmR W b v E) (hk : v.ownBlock = some k) : b ≤ k ∧ ∃ cs, W.heap[k]? = some (.cells cs 56 (0, 0)) := by
  obtain ⟨-, ⟨rfl, -⟩ | ⟨g, cap, cur, rfl, hb, hg, -⟩⟩ := h
  · cases hk
  · cases hk; exact ⟨hb, _, hg⟩
theorem CmR.at {W : World} {b : Nat} {a : Option Addr} {N cap : Nat} {E : List Ent} {i : Nat} {e : Ent} (h : CmR W b (.slice a N cap) E) (hi : E[i]? = some e) :
    ∃ g, a = some ⟨g, 0, none⟩ ∧ b ≤ g ∧ g < W.heap.size ∧ (∀ j, W.frozen? ⟨g, j, none⟩ = false) ∧ W.cell? ⟨g, i * 3, none⟩ = some (.pointer (some ⟨e.g, e.o, none⟩)) ∧ W.cell? ⟨g, i * 3 + 1, none⟩ = some (.int .i64 e.r) ∧ W.cell? ⟨g, i * 3 + 2, none⟩ = some (.bool e.f) := by
  have hlt := (List.getElem?_eq_some_iff.1 hi).1
  obtain ⟨h0, ⟨-, h1⟩ | ⟨g, cap', cur, hv, hb, hg, hn, hcm, hz, ht⟩⟩ := h
  · omega
  · simp only [Value.slice.injEq] at hv
    obtain ⟨rfl, rfl, rfl⟩ := hv
    have hc : ∀ j, j < 3 → W.cell? ⟨g, i * 3 + j, none⟩ = (entV e)[j]? := fun j hj => by
      have h3 := flE_at hi hj
      rw [← ht, List.getElem?_take_of_lt (by omega), Array.getElem?_toList] at h3
      rw [cell_of_row W _ _ _ _ _ hg]
      exact h3
    exact ⟨g, rfl, hb, lt_of_block hg, fun j => frz_of hg j, hc 0 (by omega), hc 1 (by omega), hc 2 (by omega)⟩
theorem CmR.pop {W : World} {b g cap : Nat} {E : List Ent} {e : Ent} (h : CmR W b (.slice (some ⟨g, 0, none⟩) (E.length + 1) cap) (E ++ [e])) : CmR W b (.slice (some ⟨g, 0, none⟩) E.length cap) E := by
  obtain ⟨h0, ⟨h1, -⟩ | ⟨g', cap', cur, hv, hb, hg, hn, hcm, hz, ht⟩⟩ := h
  · simp at h1
  · simp only [Value.slice.injEq, Option.some.injEq, Addr.mk.injEq, and_true] at hv
    obtain ⟨rfl, -, rfl⟩ := hv
    simp only [List.length_append, List.length_cons, List.length_nil] at hn ht
    refine ⟨flE_len E, .inr ⟨g, cap, cur, rfl, hb, hg, by omega, hcm, hz, ?_⟩⟩
    have h2 := congrArg (List.take (E.length * 3)) ht
    rw [List.take_take, Nat.min_eq_left (by omega), flE_app, List.take_append_of_le_length (by rw [flE_len]; exact Nat.le_refl _)] at h2
    exact h2.trans (List.take_of_length_le (by rw [flE_len]; exact Nat.le_refl _))
theorem CmR.keep {W W' : World} {b : Nat} {v : Value} {E : List Ent} (h : CmR W b v E) (hk : ∀ k, v.ownBlock = some k → W'.heap[k]? = W.heap[k]?) : CmR W' b v E := by
  obtain ⟨h0, h1 | ⟨g, cap, cur, rfl, hb, hg, h2⟩⟩ := h
  · exact ⟨h0, .inl h1⟩
  · exact ⟨h0, .inr ⟨g, cap, cur, rfl, hb, (hk g rfl).trans hg, h2⟩⟩
theorem infoCm : (Tryd.prog.info? 56).map (fun i => (i.zero, i.size, i.bytes)) = some (some (.agg #[.pointer none, .int .i64 0, .bool false]), 3, 24) := by kernel_rfl
/-- One more is put behind. -/
theorem run_append_cm {w : World} (ty : TypeId) (base : Nat) (v : Value) (E : List Ent) (hown : CmR w base v E) (q : Nat) (e : Ent)
    (hc : w.heap[q]? = some (.cells #[.pointer (some ⟨e.g, e.o, none⟩), .int .i64 e.r, .bool e.f] 56)) (hl : E.length ≤ 1099511627776) (hbase : base ≤ w.heap.size) :
    ∃ v' w', (Builtin.append_ #[52, 52] ty #[v, .slice (some ⟨q, 0, none⟩) 1 1]).run Tryd.prog w = .ok v' w' ∧ CmR w' base v' (E ++ [e]) ∧ w.grownBy w' v.ownBlock ∧ (v'.ownBlock = v.ownBlock ∨ v'.ownBlock = some w.heap.size) := by
  obtain ⟨i0, hi, hz0, hz1, hz2⟩ := info_parts infoCm
  obtain ⟨⟨c0, c1, c2⟩, -⟩ := three_of hc
  obtain ⟨v', w', hr, h2, h3, -, h5⟩ := run_append_own_at (P := Tryd.prog) w base 52 ty 56 i0 _ 3 24 Tryd.underlying52 hi hz0 hz1 hz2 rfl (by decide) v E.length (flE E) hown ⟨q, 0, none⟩ 1 1 (entV e) rfl
    (fun j y hj => by
      match j, hj with
      | 0, hj => simp only [entV, List.getElem?_cons_zero, Option.some.injEq] at hj; subst hj; simpa [Addr.add] using c0
      | 1, hj => simp only [entV, List.getElem?_cons_succ, List.getElem?_cons_zero, Option.some.injEq] at hj; subst hj; simpa [Addr.add] using c1
      | 2, hj => simp only [entV, List.getElem?_cons_succ, List.getElem?_cons_zero, Option.some.injEq] at hj; subst hj; simpa [Addr.add] using c2
      | j + 3, hj => simp [entV] at hj)
    (by intro y hy; simp only [entV, List.mem_cons, List.not_mem_nil, or_false] at hy; rcases hy with rfl | rfl | rfl <;> rfl) (by unfold maxLen; omega) (by omega) hbase
  refine ⟨v', w', hr, ?_, h3, h5⟩
  show w'.ownsRow base _ 3 v' (E ++ [e]).length (flE (E ++ [e]))
  rw [flE_app]
  simp only [List.length_append, List.length_cons, List.length_nil, flE, List.append_nil]
  exact h2
theorem step_append_cm {w : World} {ops : Array Oper} {o : Oper} {a : Act} {K : Act → World → Prop} {Q : Exit → Act → World → Prop} {F : Prop} (hgd : o.guard = none) (s' x' : Operand)
    (ho : o.op = .call { callee := .builtin .append, args := #[s', x'], argTypes := #[52, 52] }) (base : Nat) (v : Value) (E : List Ent) (hs : a.eval s' = v) (hown : CmR w base v E) (q : Nat) (e : Ent) (hx : a.eval x' = .slice (some ⟨q, 0, none⟩) 1 1)
    (hc : w.heap[q]? = some (.cells #[.pointer (some ⟨e.g, e.o, none⟩), .int .i64 e.r, .bool e.f] 56)) (hl : E.length ≤ 1099511627776) (hbase : base ≤ w.heap.size)
    (h : ∀ v' w', CmR w' base v' (E ++ [e]) → w.grownBy w' v.ownBlock → (v'.ownBlock = v.ownBlock ∨ v'.ownBlock = some w.heap.size) → K (a.put o.dst v') w') :
    if Region.wanted o (yielded ops a.tmps) = true then Oper.wp Tryd.prog o a w K Q else F := by
  obtain ⟨v', w', hrun, h1, h2, h3⟩ := run_append_cm o.type base v E hown q e hc hl hbase
  have hw : Region.wanted o (yielded ops a.tmps) = true := by simp [Region.wanted, hgd]
  rw [if_pos hw]
  unfold Oper.wp
  simp [execOp, ho, resolve, invoke, builtin, hs, hx, hrun, Result.andThen]
  exact h v' w' h1 h2 h3
theorem wpList_append_cm {w : World} {ops : Array Oper} {rest : List Oper} {o : Oper} {a : Act} {Q : Exit → Act → World → Prop} (hgd : o.guard = none) (s' x' : Operand)
    (ho : o.op = .call { callee := .builtin .append, args := #[s', x'], argTypes := #[52, 52] }) (base : Nat) (v : Value) (E : List Ent) (hs : a.eval s' = v) (hown : CmR w base v E) (q : Nat) (e : Ent) (hx : a.eval x' = .slice (some ⟨q, 0, none⟩) 1 1)
    (hc : w.heap[q]? = some (.cells #[.pointer (some ⟨e.g, e.o, none⟩), .int .i64 e.r, .bool e.f] 56)) (hl : E.length ≤ 1099511627776) (hbase : base ≤ w.heap.size)
    (h : ∀ v' w', CmR w' base v' (E ++ [e]) → w.grownBy w' v.ownBlock → (v'.ownBlock = v.ownBlock ∨ v'.ownBlock = some w.heap.size) → wpList Tryd.prog ops Q rest (a.put o.dst v') w') :
    wpList Tryd.prog ops Q (o :: rest) a w := by
  refine wpList_plain hgd fun K hK => ?_
  obtain ⟨v', w', hr, h2, h3, h4⟩ := run_append_cm o.type base v E hown q e hc hl hbase
  unfold Oper.wp execOp
  simp only [ho, resolve, invoke, builtin, Sem.run_bind, Sem.run_pure, Result.andThen_ok, List.map_toArray, List.map_cons, List.map_nil, hs, hx, hr]
  exact hK _ _ (h v' w' h2 h3 h4)
end Go.Proofs.YtbjgoigdhijbgaaDoor
/- THE PROGRAM's layouts: a document and all that is in it, in their order. -/
namespace Go.Proofs.YtbjgoigdhijbgaaDoor
open Go.RowKit Go.PlainAid Go.Shelf

def xr (e : Ent) : Dc × Int := (e.x, e.r)
def cntE : List Ent → Nat
  | [] => 0
  | e :: t => dcnt e.x + cntE t
theorem cntE_snoc : ∀ (E : List Ent) (e : Ent), cntE (E ++ [e]) = cntE E + dcnt e.x
  | [], e => by simp [cntE]
  | a :: t, e => by simp only [List.cons_append, cntE, cntE_snoc t e]; omega
/-- The parts of a document that came in, from the last one on: the j-th from behind. -/
def kidE (g o : Nat) (l : List Dc) (r : Int) (j : Nat) : Ent := ⟨l.getD (l.length - 1 - j) (.mk 0 0 ⟨#[]⟩ []), g, o + (l.length - 1 - j) * 4, r, false⟩
def kidsE (g o : Nat) (l : List Dc) (r : Int) : Nat → List Ent
  | 0 => []
  | j + 1 => kidsE g o l r j ++ [kidE g o l r j]
theorem kidsE_len (g o : Nat) (l : List Dc) (r : Int) : ∀ j, (kidsE g o l r j).length = j
  | 0 => rfl
  | j + 1 => by simp only [kidsE, List.length_append, List.length_cons, List.length_nil, kidsE_len g o l r j]
theorem kids_pr (g o : Nat) (l : List Dc) (r : Int) (E : List Ent) : ∀ j, j ≤ l.length → prE (E ++ kidsE g o l r j) = prOL r (l.drop (l.length - j)) ++ prE E
  | 0, _ => by simp [kidsE, prOL]
  | j + 1, h => by
    rw [kidsE, ← List.append_assoc, prE_snoc, kids_pr g o l r E j (by omega)]
    have hi : l.length - (j + 1) < l.length := by omega
    rw [List.drop_eq_getElem_cons hi, show l.length - (j + 1) + 1 = l.length - j by omega]
    simp only [prOL, kidE, List.append_assoc]
    congr 2
    rw [show l.length - 1 - j = l.length - (j + 1) by omega]
    rw [List.getD_eq_getElem?_getD, List.getElem?_eq_getElem hi]
    rfl
theorem kids_cnt (g o : Nat) (l : List Dc) (r : Int) (E : List Ent) : ∀ j, j ≤ l.length → cntE (E ++ kidsE g o l r j) = dcntL (l.drop (l.length - j)) + cntE E
  | 0, _ => by simp [kidsE, dcntL]
  | j + 1, h => by
    rw [kidsE, ← List.append_assoc, cntE_snoc, kids_cnt g o l r E j (by omega)]
    have hi : l.length - (j + 1) < l.length := by omega
    rw [List.drop_eq_getElem_cons hi, show l.length - (j + 1) + 1 = l.length - j by omega]
    simp only [dcntL, kidE]
    rw [show l.length - 1 - j = l.length - (j + 1) by omega]
    rw [List.getD_eq_getElem?_getD, List.getElem?_eq_getElem hi]
    simp only [Option.getD_some]
    omega
theorem lenE_cnt : ∀ E : List Ent, E.length ≤ cntE E
  | [] => Nat.le_refl _
  | e :: t => by have := lenE_cnt t; have := dcnt_pos e.x; simp only [cntE, List.length_cons]; omega
/-- The i-th of a row of documents that came in. -/
theorem DrIn.nth {W : World} {P : Nat → Prop} {g o cap n : Nat} {l : List Dc} (h : DrIn W P (.slice (some ⟨g, o, none⟩) n cap) l) {i : Nat} {x : Dc} (hi : l[i]? = some x) : DIn W P g (o + i * 4) x := by
  obtain ⟨cs, ⟨a', cap', e, -, -, h2⟩, h3⟩ := h
  have hlt := (List.getElem?_eq_some_iff.1 hi).1
  obtain ⟨g', o', e2, hp, hg, hc⟩ := h2 (by omega)
  simp only [Value.slice.injEq] at e
  obtain ⟨rfl, -, -⟩ := e
  simp only [Option.some.injEq, Addr.mk.injEq, and_true] at e2
  obtain ⟨rfl, rfl⟩ := e2
  exact ⟨hp, hg, cs i, h3 i x hi, fun j u hj => hc i hlt j u hj⟩
/-- All that is to come lies where it did. -/
def OkE (W : World) (P : Nat → Prop) (E : List Ent) : Prop := ∀ e ∈ E, DIn W P e.g e.o e.x
theorem OkE.keep {W W' : World} {P : Nat → Prop} (hk : Keeps P W W') {E : List Ent} (h : OkE W P E) : OkE W' P E := fun e he => (h e he).keep hk
/-- Ro2 rows of one's own, apart. -/
structure Ro2 (W : World) (P : Nat → Prop) (s : Nat) (v : Value) (R : List Ent) (u : Value) (E : List Ent) : Prop where
  row : CmR W s v R
  rst : CmR W s u E
  ne : ∀ k, v.ownBlock = some k → u.ownBlock ≠ some k
  okR : OkE W P R
  ok : OkE W P E
  lt : s ≤ W.heap.size
  pp : ∀ g, P g → g < s
theorem own_lt {W : World} {b : Nat} {v : Value} {E : List Ent} {k : Nat} (h : CmR W b v E) (hk : v.ownBlock = some k) : k < W.heap.size := by
  obtain ⟨-, cs, h⟩ := h.own hk; exact lt_of_block h
/-- Blocks of one's own that are no rows may have come, or turned. -/
theorem Ro2.keep {W W' : World} {P : Nat → Prop} {s : Nat} {v u : Value} {R E : List Ent} (h : Ro2 W P s v R u E) (hb : Below W.heap.size W W') : Ro2 W' P s v R u E :=
  ⟨h.row.keep (fun k hk => hb.block k (own_lt h.row hk)), h.rst.keep (fun k hk => hb.block k (own_lt h.rst hk)), h.ne,
    h.okR.keep ⟨hb.size, fun g hg hl => hb.block g hl⟩, h.ok.keep ⟨hb.size, fun g hg hl => hb.block g hl⟩, Nat.le_trans h.lt hb.size, h.pp⟩
/-- One more in the first row. -/
theorem Ro2.put {W V w' : World} {P : Nat → Prop} {s : Nat} {v u v' : Value} {R E : List Ent} {e : Ent} (h : Ro2 W P s v R u E) (hV : Below W.heap.size W V) (ho : CmR w' s v' (R ++ [e])) (hg : V.grownBy w' v.ownBlock) (hw : v'.ownBlock = v.ownBlock ∨ v'.ownBlock = some V.heap.size) (he : DIn W P e.g e.o e.x) :
    Ro2 w' P s v' (R ++ [e]) u E ∧ Below s W w' := by
  have hB : Below s V w' := (Below.refl s V).grown hg (Nat.le_trans h.lt hV.size) (fun k hk => (h.row.own hk).1)
  have hB2 : Below s W w' := (hV.mono h.lt).trans hB
  have hk : Keeps P W w' := ⟨hB2.size, fun g hp _ => hB2.block g (h.pp g hp)⟩
  refine ⟨⟨ho, h.rst.keep (fun k hk => ?_), fun k hk => ?_, fun a ha => ?_, h.ok.keep hk, Nat.le_trans h.lt hB2.size, h.pp⟩, hB2⟩
  · have hlt := own_lt h.rst hk
    rw [hg.block k (Nat.lt_of_lt_of_le hlt hV.size) (fun e => h.ne k e.symm hk), hV.block k hlt]
  · rcases hw with hw | hw
    · exact h.ne k (hw ▸ hk)
    · rw [hw] at hk
      cases hk
      intro h2
      have := own_lt h.rst h2
      have := hV.size
      omega
  · rcases List.mem_append.1 ha with ha | ha
    · exact (h.okR a ha).keep hk
    · simp only [List.mem_cons, List.not_mem_nil, or_false] at ha
      subst ha
      exact he.keep hk
/-- One more in the second row. -/
theorem Ro2.push {W V w' : World} {P : Nat → Prop} {s : Nat} {v u u' : Value} {R E : List Ent} {e : Ent} (h : Ro2 W P s v R u E) (hV : Below W.heap.size W V) (ho : CmR w' s u' (E ++ [e])) (hg : V.grownBy w' u.ownBlock) (hw : u'.ownBlock = u.ownBlock ∨ u'.ownBlock = some V.heap.size) (he : DIn W P e.g e.o e.x) :
    Ro2 w' P s v R u' (E ++ [e]) ∧ Below s W w' := by
  have hB : Below s V w' := (Below.refl s V).grown hg (Nat.le_trans h.lt hV.size) (fun k hk => (h.rst.own hk).1)
  have hB2 : Below s W w' := (hV.mono h.lt).trans hB
  have hk : Keeps P W w' := ⟨hB2.size, fun g hp _ => hB2.block g (h.pp g hp)⟩
  refine ⟨⟨h.row.keep (fun k hk => ?_), ho, fun k hk => ?_, h.okR.keep hk, fun a ha => ?_, Nat.le_trans h.lt hB2.size, h.pp⟩, hB2⟩
  · have hlt := own_lt h.row hk
    rw [hg.block k (Nat.lt_of_lt_of_le hlt hV.size) (fun e => h.ne k hk e.symm), hV.block k hlt]
  · rcases hw with hw | hw
    · rw [hw]; exact h.ne k hk
    · rw [hw]
      intro h2
      cases h2
      have := own_lt h.row hk
      have := hV.size
      omega
  · rcases List.mem_append.1 ha with ha | ha
    · exact (h.ok a ha).keep hk
    · simp only [List.mem_cons, List.not_mem_nil, or_false] at ha
      subst ha
      exact he.keep hk
theorem Ro2.pop {W : World} {P : Nat → Prop} {s g cap : Nat} {v : Value} {R E : List Ent} {e : Ent} (h : Ro2 W P s v R (.slice (some ⟨g, 0, none⟩) (E.length + 1) cap) (E ++ [e])) : Ro2 W P s v R (.slice (some ⟨g, 0, none⟩) E.length cap) E :=
  ⟨h.row, h.rst.pop, h.ne, h.okR, fun a ha => h.ok a (List.mem_append_left _ ha), h.lt, h.pp⟩
end Go.Proofs.YtbjgoigdhijbgaaDoor
