/-
  THE PROGRAM's Notes.
-/
import Derived.Test.YtkdaombcbcegfaaTreeNotes
namespace Go.Proofs.Ytkdaombcbcegfaa
open Go.RowKit Go.PlainAid

theorem wl_new {w W : World} {n : Nd} {lf v : Value} {O : Obj} (hb : Below ((w.alloc O).alloc (.cells #[.slice none 0 0] 22)).heap.size ((w.alloc O).alloc (.cells #[.slice none 0 0] 22)) W) (hk : Wk W (Pk w.heap.size (w.heap.size + 2)) (w.heap.size + 2) lf v [⟨dum n, 0, w.heap.size + 2 + 3, 0⟩]) :
    Wl w.heap.size w W (w.heap.size + 1) w.heap.size (w.heap.size + 2) lf v [⟨dum n, 0, w.heap.size + 2 + 3, 0⟩] (fun g => g = w.heap.size + 1 ∨ Ob (.slice none 0 0) g) [] := by
  have h1 : W.heap[w.heap.size + 1]? = some (.cells #[.slice none 0 0] 22 (0, 0)) := by
    rw [hb.block _ (by simp)]
    show ((w.heap.push _).push _)[w.heap.size + 1]? = _
    rw [Array.getElem?_push, if_pos (by simp)]
  have hin := hk.in
  have hsz := hk.size
  have ho : ∀ g, ¬ Ob (.slice none 0 0) g := fun g h => by simp [Ob, Value.ownBlock] at h
  refine ⟨hk, ⟨_, h1, txs_nil _ _, by simp [Value.ownBlock], by omega, by omega, fun g => Iff.rfl⟩, (below2 _ _ _).trans (hb.mono (by simp; omega)), by omega, fun g hg => ?_, fun g hp hg => ?_, fun g hp hg => ?_⟩
  · rcases hg with h | h
    · omega
    · exact absurd h (ho g)
  · rcases hg with h | h
    · rcases hp with hp | hp | hp <;> omega
    · exact absurd h (ho g)
  · rcases hg with h | h
    · have := hin g hp; omega
    · exact absurd h (ho g)
set_option maxRecDepth 100000 in
set_option maxHeartbeats 4000000 in
theorem pnotes_any (n : Nd) (c : List Value) (w : World) (h1 : NdAt w c n) (h : OkT n) (hsz : Szd n) :
    Calls Try.prog 9 #[.agg c.toArray] w fun e w' => StsAre w (nts n) e w' := by
  obtain ⟨Z, hZ⟩ : ∃ Z, Z = (w.alloc (.cells c.toArray 26)).alloc (.cells #[.slice none 0 0] 22) := ⟨_, rfl⟩
  have hb0 : Below w.heap.size w Z := by rw [hZ]; exact below2 _ _ _
  have HST := Lib.hid (start_any n c w Z h1 h hb0 (.func 26) #[] #[.pointer (some ⟨w.heap.size + 1, 0, none⟩)] (w.heap.size + 2) (by rw [hZ]; simp))
  have HNEW := Lib.hid (fun W v (hb : Below Z.heap.size Z W) hk => wl_new (w := w) (W := W) (n := n) (lf := .func (.func 26) #[] #[.pointer (some ⟨w.heap.size + 1, 0, none⟩)]) (v := v) (O := .cells c.toArray 26) (by rw [← hZ]; exact hb) hk)
  obtain ⟨N, hN⟩ : ∃ N, N = nts n := ⟨_, rfl⟩
  have HN : Hid (∀ g o, remN [⟨dum n, 0, g, o⟩] = N) := Lib.hid (fun g o => by rw [remN_dum, hN])
  have HN5 : Hid (N.length ≤ 1048576) := Lib.hid (by rw [hN]; exact h.nts)
  have HSZ : Hid (∀ t ∈ N, Sz t) := Lib.hid (by rw [hN]; exact hsz.1)
  obtain ⟨B, hB⟩ : ∃ B, B = w.heap.size := ⟨_, rfl⟩
  have HBB := Lib.hid hB
  obtain ⟨n0, hn0⟩ : ∃ x, x = n := ⟨_, rfl⟩
  rw [← hn0] at HST HNEW HN
  rw [hZ] at HST HNEW
  rw [← hN]
  cases n; obtain ⟨_, _, _, _, rfl, -⟩ := h1.inv; clear h1 h hsz hb0 hZ hN hn0
  go_enter Try.func9, Try.ntmps9
  go_wp2_with fail
  refine HST.out.mono ?_
  rintro e w1 ⟨rfl, hb1, v1, hk1⟩
  have HW1 := Lib.hid (HNEW.out w1 v1 hb1 hk1)
  have HL1 : Hid (([] : List ByteArray).length + (remN [⟨dum n0, 0, w.heap.size + 2 + 3, 0⟩]).length ≤ 1048576) := Lib.hid (by rw [HN.out]; have := HN5.out; simpa using this)
  have HS1 : Hid (∀ t ∈ remN [⟨dum n0, 0, w.heap.size + 2 + 3, 0⟩], Sz t) := Lib.hid (by rw [HN.out]; exact HSZ.out)
  clear hb1 hk1 HST HNEW
  go_wp2_with fail
  refine (HW1.out.next HL1.out HS1.out).mono ?_
  rintro e w2 ⟨ls, st, v2, M2, hx, rfl, hw2⟩
  have HW2 : Hid (Wl w.heap.size w w2 (w.heap.size + 1) w.heap.size (w.heap.size + 2) (.func (.func 26) #[] #[.pointer (some ⟨w.heap.size + 1, 0, none⟩)]) v2 st M2 (tls ls)) := Lib.hid (by simpa using hw2)
  have HR : Hid (tls ls ++ remNX st = N) := Lib.hid (by rw [← hx.note, HN.out])
  obtain ⟨p, hp⟩ : ∃ p, p = hd st := ⟨_, rfl⟩
  rw [← hp]
  have HP := Lib.hid hp
  clear hx hw2 hp HW1 HL1 HS1 HN
  go_wp2_with fail
  go_loopg [5] (remX st) (fun gn x wr => ∃ (st0 : List Fr) (v0 : Value) (M0 : Nat → Prop) (p0 : Option Addr) (I : List ByteArray), gn = remX st0 ∧ x = .pointer p0 ∧ Hid (p0 = hd st0) ∧ Hid (Wl w.heap.size w wr (w.heap.size + 1) w.heap.size (w.heap.size + 2) (.func (.func 26) #[] #[.pointer (some ⟨w.heap.size + 1, 0, none⟩)]) v0 st0 M0 I) ∧ Hid (I ++ remNX st0 = N))
  case atStart => exact ⟨st, v2, M2, p, tls ls, rfl, rfl, HP, HW2, HR⟩
  case round =>
    clear HW2 HR HP
    obtain ⟨st0, v0, M0, p0, I, hgn, rfl, HP0, HW, HRR⟩ := hrel
    cases st0 with
    | nil =>
      obtain rfl : p0 = none := HP0.out
      obtain ⟨vl, k1, k2, -, -, -, -⟩ := HW.out.lj
      obtain ⟨va, vn, vc, rfl⟩ := txs_cut k2
      have c0 : wr.cell? ⟨w.heap.size + 1, 0, none⟩ = some (.slice va vn vc) := (cell_of_row wr _ 0 _ _ _ k1).trans rfl
      have HK2 := Lib.hid k2
      have HF : Hid (I = N) := Lib.hid (by have := HRR.out; simpa [remNX] using this)
      clear k1 k2
      go_wp2_with fail
      go_ret
      exact ⟨_, rfl, by rw [← HF.out]; exact HK2.out, HW.out.bel⟩
    | cons f r =>
      obtain rfl : p0 = some ⟨f.g, f.o, none⟩ := HP0.out
      have hRR := HRR.out
      simp only [remNX] at hRR
      have hlv := HW.out.wk.live
      obtain ⟨x, i, g, o⟩ := f
      cases x with
      | mk k t l br bl no ta =>
        obtain ⟨a, cap, nv, tv, ⟨-, -, -, -, -, c5, -⟩, sn, -, -⟩ := hlv.open
        simp only [noa] at hRR
        simp only at c5
        obtain ⟨vl, k1, k2, k3, k4, k5, k6⟩ := HW.out.lj
        have hl := congrArg List.length hRR
        simp only [List.length_append] at hl
        have hN5 := HN5.out
        have hso : ∀ u ∈ no, Sz u := fun u hu => HSZ.out u (by rw [← hRR]; exact List.mem_append_right _ (List.mem_append_left _ hu))
        have HAP := Lib.hid (fun W2 hb => apc_list (q0 := w.heap.size + 1) k2 k4 (fun g hg => Nat.lt_of_lt_of_le (HW.out.wk.pp g hg).1 k5) (fun g hg e => HW.out.pm g hg ((k6 g).2 (.inr e))) sn (by omega) hso k1 k3 W2 hb)
        have HPUT := Lib.hid (fun W' v' ht hm => HW.out.put (LJ.put (W' := W') (v' := v') (I := I) (L := no) k1 k3 k4 k5 k6 ht hm).1 (LJ.put (W' := W') (v' := v') (I := I) (L := no) k1 k3 k4 k5 k6 ht hm).2)
        have HL2 : Hid ((I ++ no).length + (remN (⟨.mk k t l br bl no ta, i, g, o⟩ :: r)).length ≤ 1048576) := Lib.hid (by rw [List.length_append]; omega)
        have HS2 : Hid (∀ u ∈ remN (⟨.mk k t l br bl no ta, i, g, o⟩ :: r), Sz u) := Lib.hid (fun u hu => HSZ.out u (by rw [← hRR]; exact List.mem_append_right _ (List.mem_append_right _ hu)))
        have HR2 : Hid ((I ++ no) ++ remN (⟨.mk k t l br bl no ta, i, g, o⟩ :: r) = N) := Lib.hid (by rw [← hRR, List.append_assoc])
        have HG := Lib.hid hgn
        obtain ⟨na, nc, rfl, -⟩ := sn
        obtain ⟨va, vn, vc, rfl⟩ := txs_cut k2
        have c0 : wr.cell? ⟨w.heap.size + 1, 0, none⟩ = some (.slice va vn vc) := (cell_of_row wr _ 0 _ _ _ k1).trans rfl
        clear k1 k2 k3 k4 k5 k6 hl hN5 hso hlv hRR hgn HW HRR
        go_wp2_with fail
        go_region_with (go_at_call 27; refine (HAP.out _ (by first | exact Below.refl _ _ | exact drew_below _ _ | exact Below.drew (Below.refl _ _) | exact Below.drew (drew_below _ _))).mono ?_; rintro e w1 ⟨a1, n1, c1, rfl, HT1, HM1, c9, f9⟩)
        all_goals
          have HW2 := Lib.hid (HPUT.out _ _ HT1.out HM1.out)
          clear HAP HPUT c0 c5
          go_wp2_with fail
          refine (HW2.out.next HL2.out HS2.out).mono ?_
          rintro e w4 ⟨ls4, st4, v4, M4, hx, rfl, hw4⟩
          have HW4 := Lib.hid hw4
          have HR4 : Hid (((I ++ no) ++ tls ls4) ++ remNX st4 = N) := Lib.hid (by rw [List.append_assoc, ← hx.note, HR2.out])
          have HGN : Hid (remX st4 < gk) := Lib.hid (by rw [HG.out, ← hx.cnt]; simp only [remX]; omega)
          obtain ⟨p4, hp4⟩ : ∃ p, p = hd st4 := ⟨_, rfl⟩
          rw [← hp4]
          have HP4 := Lib.hid hp4
          clear hx hw4 hp4 HW2 HL2 HS2 HR2 HG
          go_wp2_with fail
          go_roundg (remX st4)
          case measure => exact HGN.out
          case rel => exact ⟨st4, v4, M4, p4, (I ++ no) ++ tls ls4, rfl, rfl, HP4, HW4, HR4⟩
end Go.Proofs.Ytkdaombcbcegfaa
