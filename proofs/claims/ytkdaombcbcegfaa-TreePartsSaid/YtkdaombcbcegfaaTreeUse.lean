/-
  THE PROGRAM's Count, Forced, Lits: they go from node to node.
-/
import Derived.Test.YtkdaombcbcegfaaTreeNext
namespace Go.Proofs.Ytkdaombcbcegfaa
open Go.RowKit Go.PlainAid

set_option maxRecDepth 100000 in
theorem pass_any (a : Option Addr) (w : World) : Calls Try.prog 24 #[.pointer a] w fun e w' => e = .returned (.tuple #[]) ∧ w' = w := by
  go_enter Try.func24, Try.ntmps24
  go_wp2_with fail
  go_end0
  exact ⟨rfl, rfl⟩
/-- Where nothing is asked of a node that is left. -/
theorem lv_pass (P : Nat → Prop) (Q : List ByteArray) : Lv P 24 #[] Q (fun _ M _ => ∀ g, ¬ M g) where
  keep := fun _ _ _ _ h _ _ => h
  lt := fun _ _ _ h g hg => absurd hg (h g)
  go := fun W M T g o x h _ _ _ => by
    rw [show (#[.pointer (some ⟨g, o, none⟩)] ++ #[] : Array Value) = #[.pointer (some ⟨g, o, none⟩)] by simp]
    exact (pass_any _ W).mono fun e w' ⟨h1, h2⟩ => ⟨h1, M, h, by rw [h2]; exact Mv.refl _ _⟩
theorem mv_or {O O' M M' : Nat → Prop} {W W' : World} (h : Mv (fun g => O g ∨ M g) W (fun g => O' g ∨ M' g) W') (hm : ∀ g, ¬ M g) : Mv O W O' W' :=
  ⟨h.os, h.tape, h.output, h.size, fun g hg hn => h.block g hg (fun h' => h'.elim hn (hm g)), fun g hg => (h.own g (.inl hg)).elim (fun h' => .inl (h'.elim id (fun a => absurd a (hm g)))) .inr⟩
/-- What is to come, where one is at a node, or at none. -/
def remX : List Fr → Nat
  | [] => 0
  | f :: r => remC (f :: r) + 1
theorem Nx.cnt {st st' : List Fr} {ls : List Nd} (h : Nx st ls st') : remC st = remX st' := by
  cases st' with
  | nil => exact h.len.1 rfl
  | cons f r => exact h.len.2.1 (by simp)
theorem nextp_any {P : Nat → Prop} {s : Nat} {v : Value} {st : List Fr} {W : World} (hw : Wk W P s (.func (.func 24) #[] #[]) v st) :
    Calls Try.prog 33 #[.pointer (some ⟨s + 5, 0, none⟩), .pointer (some ⟨s + 1, 0, none⟩)] W fun e W' => ∃ ls st' v', Nx st ls st' ∧ e = .returned (.pointer (hd st')) ∧ Wk W' P s (.func (.func 24) #[] #[]) v' st' ∧ Mv (Og s v) W (Og s v') W' := by
  refine (next_any (lv_pass P (remN st)) hw (M := fun _ => False) (fun _ h => h) (fun _ _ h => h) (fun _ _ h => h)).mono ?_
  rintro e W' ⟨ls, st', v', M', h1, h2, h3, -, h5, -, -⟩
  exact ⟨ls, st', v', h1, h2, h3, mv_or h5 (fun _ h => h)⟩
theorem Wk.live {W : World} {P : Nat → Prop} {s : Nat} {lf v : Value} {f : Fr} {r : List Fr} (h : Wk W P s lf v (f :: r)) : NIn W P f.g f.o f.x := h.ok f (by simp)
theorem Wk.mvb {W W' : World} {P : Nat → Prop} {s : Nat} {lf v v' : Value} {st : List Fr} (h : Wk W P s lf v st) (hm : Mv (Og s v) W (Og s v') W') {B : Nat} (hB : B ≤ s) : Below B W W' :=
  hm.below (by have := h.size; omega) (fun g hg => by have := h.in g hg; omega)
/-- How a walk begins: n's copy is laid, the walker is called. -/
theorem start_any (n : Nd) (c : List Value) (w W : World) (h1 : NdAt w c n) (hn : OkT n) (hb : Below w.heap.size w W) (fn : Fn) (fst cap : Array Value) (s : Nat) (hs : s = W.heap.size) :
    Calls Try.prog 23 #[.agg c.toArray, .func fn fst cap] W fun e w' => e = .returned (.func (.func 33) #[] #[.pointer (some ⟨s + 5, 0, none⟩), .pointer (some ⟨s + 1, 0, none⟩)]) ∧ Below W.heap.size W w' ∧ ∃ v, Wk w' (Pk w.heap.size s) s (.func fn fst cap) v [⟨dum n, 0, s + 3, 0⟩] := by
  subst hs
  exact walker_any n c W w.heap.size hb.size (h1.to.keep (keeps_below hb)) (by have := hn.1; omega) hn.2 fn fst cap
theorem remC_dum (n : Nd) (g o : Nat) : remC [⟨dum n, 0, g, o⟩] = cnt n := by simp only [remC, todo_zero, dum, pts, cntL, Nat.add_zero]
set_option maxRecDepth 100000 in
set_option maxHeartbeats 4000000 in
theorem ptcount_any (n : Nd) (c : List Value) (w : World) (h1 : NdAt w c n) (h : OkT n) :
    Calls Try.prog 15 #[.agg c.toArray] w fun e w' => e = .returned (.int .i64 (cnt n : Int)) ∧ Below w.heap.size w w' := by
  obtain ⟨Z, hZ⟩ : ∃ Z, Z = w.alloc (.cells c.toArray 26) := ⟨_, rfl⟩
  have hb0 : Below w.heap.size w Z := by rw [hZ]; exact below1 _ _
  obtain ⟨s, hs⟩ : ∃ s, s = Z.heap.size := ⟨_, rfl⟩
  have hws : w.heap.size ≤ s := by rw [hs]; exact hb0.size
  have HST := Lib.hid (start_any n c w Z h1 h hb0 (.func 24) #[] #[] s hs)
  have HUP := Lib.hid (fun W hb => (hb0.trans (Below.mono (B' := w.heap.size) (B := Z.heap.size) (w := Z) (w' := W) hb hb0.size) : Below w.heap.size w W))
  have HWS := Lib.hid hws
  obtain ⟨N, hN⟩ : ∃ N, N = cnt n := ⟨_, rfl⟩
  have HN : Hid (∀ g o, remC [⟨dum n, 0, g, o⟩] = N) := Lib.hid (fun g o => by rw [remC_dum, hN])
  have hN5 : N ≤ 5000 := by rw [hN]; exact h.1
  obtain ⟨P, hP⟩ : ∃ P, P = Pk w.heap.size s := ⟨_, rfl⟩
  rw [← hP] at HST
  rw [hZ] at HST HUP
  rw [← hN]
  cases n; obtain ⟨_, _, _, _, rfl, -⟩ := h1.inv; clear h1 h hb0 hZ hs hws hN hP
  go_enter Try.func15, Try.ntmps15
  go_wp2_with fail
  refine HST.out.mono ?_
  rintro e w1 ⟨rfl, hb1, v1, hk1⟩
  have HB1 := Lib.hid (HUP.out w1 hb1)
  have HK1 := Lib.hid hk1
  clear hb1 hk1 HST HUP
  go_wp2_with fail
  refine (nextp_any HK1.out).mono ?_
  rintro e w2 ⟨ls, st, v2, hx, rfl, hk2, hm2⟩
  have HB2 : Hid (Below w.heap.size w w2) := Lib.hid (HB1.out.trans (HK1.out.mvb hm2 HWS.out))
  have HK2 := Lib.hid hk2
  have HR : Hid (0 + remX st = N) := Lib.hid (by rw [← hx.cnt, HN.out, Nat.zero_add])
  obtain ⟨p, hp⟩ : ∃ p, p = hd st := ⟨_, rfl⟩
  rw [← hp]
  have HP := Lib.hid hp
  clear hx hk2 hm2 HK1 HB1 HN hp
  go_wp2_with fail
  go_loopg [3, 5] (remX st) (fun gn q x wr => ∃ (st0 : List Fr) (v0 : Value) (p0 : Option Addr) (k : Nat), gn = remX st0 ∧ q = .int .i64 (k : Int) ∧ x = .pointer p0 ∧ Hid (p0 = hd st0) ∧ Hid (Wk wr P s (.func (.func 24) #[] #[]) v0 st0) ∧ Hid (Below w.heap.size w wr) ∧ Hid (k + remX st0 = N))
  case atStart => exact ⟨st, v2, p, 0, rfl, rfl, rfl, HP, HK2, HB2, HR⟩
  case round =>
    obtain ⟨st0, v0, p0, k, hgn, rfl, rfl, HP0, HK, HB, HRR⟩ := hrel
    cases st0 with
    | nil =>
      have HF : Hid (k = N) := Lib.hid HRR.out
      obtain rfl : p0 = none := HP0.out
      go_wp2_with fail
      go_ret
      exact ⟨retN HF.out, HB.out⟩
    | cons f r =>
      obtain rfl : p0 = some ⟨f.g, f.o, none⟩ := HP0.out
      have HRR2 : Hid (k + 1 + remC (f :: r) = N) := Lib.hid (by have := HRR.out; simp only [remX] at this; omega)
      have hk1 : k + 1 ≤ 5000 := by have := HRR2.out; omega
      go_wp2_with fail
      refine (nextp_any HK.out).mono ?_
      rintro e w4 ⟨ls4, st4, v4, hx, rfl, hk4, hm4⟩
      have HB4 : Hid (Below w.heap.size w w4) := Lib.hid (HB.out.trans (HK.out.mvb hm4 HWS.out))
      have HK4 := Lib.hid hk4
      have HR4 : Hid (k + 1 + remX st4 = N) := Lib.hid (by rw [← hx.cnt, HRR2.out])
      have HGN : Hid (remX st4 < gk) := Lib.hid (by rw [hgn, ← hx.cnt]; simp only [remX]; omega)
      obtain ⟨p4, hp4⟩ : ∃ p, p = hd st4 := ⟨_, rfl⟩
      rw [← hp4]
      have HP4 := Lib.hid hp4
      clear hx hk4 hm4 HK HB HRR HRR2 hgn hp4
      go_wp2_with fail
      go_roundg (remX st4)
      case measure => exact HGN.out
      case rel => exact ⟨st4, v4, p4, k + 1, rfl, by go_num, rfl, HP4, HK4, HB4, HR4⟩
end Go.Proofs.Ytkdaombcbcegfaa
