/-
  The landed pool's ofNode: a node all of whose parts are in.
-/
import Derived.Test.YtkngnkonddpbeaaPoolMem
import Derived.Deep.CutRange
import Derived.Deep.RegionHeld3
import Derived.Deep.RegionLaw
namespace Go.Proofs.Ytkngnkonddpbeaa
open Go.RowKit Go.PlainAid

/-- A node's key in its block, and a new block for one. -/
def Kk (W : World) (B : Nat) (k : Int) (t : ByteArray) (b : Bool) (it no ta : Int) : Prop := W.heap[B]? = some (.cells #[.int .i64 k, .string t, .bool b, .int .i64 it, .int .i64 no, .int .i64 ta] 60 (0, 0))
theorem Kk.cells {W : World} {B : Nat} {k : Int} {t : ByteArray} {b : Bool} {it no ta : Int} (h : Kk W B k t b it no ta) : W.cell? ⟨B, 0, none⟩ = some (.int .i64 k) ∧ W.cell? ⟨B, 1, none⟩ = some (.string t) ∧ W.cell? ⟨B, 2, none⟩ = some (.bool b) ∧ W.cell? ⟨B, 3, none⟩ = some (.int .i64 it) ∧ W.cell? ⟨B, 4, none⟩ = some (.int .i64 no) ∧ W.cell? ⟨B, 5, none⟩ = some (.int .i64 ta) :=
  ⟨by rw [cell_of_row W _ _ _ _ _ h]; rfl, by rw [cell_of_row W _ _ _ _ _ h]; rfl, by rw [cell_of_row W _ _ _ _ _ h]; rfl, by rw [cell_of_row W _ _ _ _ _ h]; rfl, by rw [cell_of_row W _ _ _ _ _ h]; rfl, by rw [cell_of_row W _ _ _ _ _ h]; rfl⟩
theorem Kk.frz {W : World} {B : Nat} {k : Int} {t : ByteArray} {b : Bool} {it no ta : Int} (h : Kk W B k t b it no ta) (j : Nat) : W.frozen? ⟨B, j, none⟩ = false := frz_of h j
theorem kk_new (w : World) (k : Int) (t : ByteArray) (b : Bool) (it no ta : Int) : Kk (w.alloc (.cells #[.int .i64 k, .string t, .bool b, .int .i64 it, .int .i64 no, .int .i64 ta] 60)) w.heap.size k t b it no ta := by
  show (w.heap.push _)[w.heap.size]? = _
  rw [Array.getElem?_push, if_pos rfl]
theorem kk_new_d (w : World) (k : Int) (t : ByteArray) (b : Bool) (it no ta : Int) : Kk (w.alloc (.cells #[.int .i64 k, .string t, .bool b, .int .i64 it, .int .i64 no, .int .i64 ta] 60)).drew w.heap.size k t b it no ta := kk_new w k t b it no ta
theorem Kk.put6 {W : World} {B : Nat} {k : Int} {t : ByteArray} {b : Bool} {it no ta : Int} (h : Kk W B k t b it no ta) (k' : Int) (t' : ByteArray) (b' : Bool) (it' no' ta' : Int) :
    Kk ((((((W.setCell ⟨B, 0, none⟩ (.int .i64 k')).setCell ⟨B, 1, none⟩ (.string t')).setCell ⟨B, 2, none⟩ (.bool b')).setCell ⟨B, 3, none⟩ (.int .i64 it')).setCell ⟨B, 4, none⟩ (.int .i64 no')).setCell ⟨B, 5, none⟩ (.int .i64 ta')) B k' t' b' it' no' ta' := by
  have h1 := Lib.heap_setCell_same (i := 0) h (.int .i64 k')
  have h2 := Lib.heap_setCell_same (i := 1) h1 (.string t')
  have h3 := Lib.heap_setCell_same (i := 2) h2 (.bool b')
  have h4 := Lib.heap_setCell_same (i := 3) h3 (.int .i64 it')
  have h5 := Lib.heap_setCell_same (i := 4) h4 (.int .i64 no')
  have h6 := Lib.heap_setCell_same (i := 5) h5 (.int .i64 ta')
  unfold Kk
  simpa using h6
theorem Mv.up {O N : Nat → Prop} {W W' : World} (h : Mv O W O W') (hs : ∀ g, O g → N g) : Mv N W N W' := ⟨h.os, h.tape, h.output, h.size, fun g hg hn => h.block g hg (fun ho => hn (hs g ho)), fun _ hg => .inl hg⟩
theorem Mv.alloc {O O' : Nat → Prop} {A W : World} (h : Mv O A O' W) (o : Obj) : Mv O A O' (W.alloc o) := h.trans (mv_below O' (below1 W o))
theorem Mv.new {O O' : Nat → Prop} {A W : World} (h : Mv O A O' W) {b : Nat} (hb : A.heap.size ≤ b) (j : Nat) (u : Value) : Mv O A O' (W.setCell ⟨b, j, none⟩ u) :=
  ⟨h.os, h.tape, h.output, by simpa using h.size, fun g hg hn => (Below.heap_setCell _ _ _ _ (fun e => by have e : g = b := e; omega)).trans (h.block g hg hn), h.own⟩
theorem StM.set {W : World} {g bm bl : Nat} {zv : Value} {S : Sto} (h : StM W g bm bl zv S) {B : Nat} (hB : ¬ Fs g bm bl zv B) (j : Nat) (u : Value) : StM (W.setCell ⟨B, j, none⟩ u) g bm bl zv S :=
  h.keep (fun k hk => Below.heap_setCell _ _ _ _ (fun e => hB (by have e : k = B := e; rw [← e]; exact hk)))
def KM11 (W w' : World) : Prop := ∀ B, Kk W B 0 ⟨#[]⟩ false 0 0 0 → Kk w' B 0 ⟨#[]⟩ false 0 0 0
theorem km_use {W w' : World} (h : KM11 W w') {B : Nat} (hk : Kk W B 0 ⟨#[]⟩ false 0 0 0) : Kk w' B 0 ⟨#[]⟩ false 0 0 0 := h B hk
theorem km11 {bl : Nat} {g bm : Nat} {zv : Value} {S : Sto} {W w' : World} (h : StM W g bm bl zv S) (hm : Mv (fun k => k = bl) W (fun k => k = bl) w') : KM11 W w' := fun B hk => by
  have hne : B ≠ bl := by
    rintro rfl
    obtain ⟨es, clock, h1, -⟩ := h.lists
    unfold Kk at hk
    rw [h1] at hk
    cases hk
  exact (hm.block B (lt_of_block hk) hne).trans hk
theorem own_slice {w : World} {e : TypeId} {size : Nat} {v : Value} {n : Nat} {xs : List Value} (h : w.ownsRow 0 e size v (n + 1) xs) : ∃ a c, v = .slice a (n + 1) c := by
  obtain ⟨-, ⟨rfl, h0⟩ | ⟨b, cap, cur, rfl, -⟩⟩ := h
  · omega
  · exact ⟨_, _, rfl⟩
set_option maxRecDepth 100000 in
set_option maxHeartbeats 4000000 in
theorem ofNode_a (g bm bl : Nat) (zv : Value) (S : Sto) (P : Nat → Prop) (k : Int) (t : ByteArray) (l : List Nd) (br b : Bool) (no ta : List ByteArray) (g0 o0 : Nat) (seen : Int) (it sz : Nat) (W : World) (h : StM W g bm bl zv S) (hn : NIn W P g0 o0 (.mk k t l br b no ta)) (hP : ∀ k, P k → ¬ Fs g bm bl zv k)
    (hz : Szt (.mk k t l br b no ta)) (hno : no.length ≤ 1048576) (hta : ta.length ≤ 1048576) (hl : S.ls.length ≤ 1099511627776) (hit : it ≤ 4611686018427387904) (hlen : S.zs.length = S.ks.length) (hks : S.ks.length ≤ 1000000) :
    Calls Try.prog 18 #[.pointer (some ⟨g, 0, none⟩), .agg #[.pointer (some ⟨g0, o0, none⟩), .int .i64 seen, .int .i64 (it : Int), .int .i64 (sz : Int)]] W fun e W' => e = .returned (.int .i64 ((ndone k t b no ta (it, sz, S)).1 : Int)) ∧ ∃ zv', StM W' g bm bl zv' (ndone k t b no ta (it, sz, S)).2 ∧ Mv (Fs g bm bl zv) W (Fs g bm bl zv') W' := by
  obtain ⟨N1, hN1⟩ : ∃ N1, N1 = cnum no 0 S.ls := ⟨_, rfl⟩
  obtain ⟨N2, hN2⟩ : ∃ N2, N2 = cnum ta 0 (cadd no 0 S.ls) := ⟨_, rfl⟩
  obtain ⟨W1, hW1⟩ : ∃ W1, W1 = W.alloc (.cells #[.pointer (some ⟨g0, o0, none⟩), .int .i64 seen, .int .i64 (it : Int), .int .i64 (sz : Int)] 50) := ⟨_, rfl⟩
  have hb1 : Below W.heap.size W W1 := by rw [hW1]; exact below1 _ _
  have hv1 : W1.heap[W.heap.size]? = some (.cells #[.pointer (some ⟨g0, o0, none⟩), .int .i64 seen, .int .i64 (it : Int), .int .i64 (sz : Int)] 50 (0, 0)) := by
    rw [hW1]; show (W.heap.push _)[W.heap.size]? = _; rw [Array.getElem?_push, if_pos rfl]
  have h1 := h.below hb1
  have hn1 := hn.keep (keeps_below hb1)
  have hPl : ∀ k, P k → k ≠ bl := fun k hk e => hP k hk (.inr (.inr (.inl e)))
  obtain ⟨la, lc, nv, tv, ⟨e0, e1, -, -, e4, e5, e6⟩, hnv, htv, -⟩ := hn1.open
  have QA : Hid (∀ W2, StM W2 g bm bl zv S → Mv (fun k => k = bl) W1 (fun k => k = bl) W2 → Calls Try.prog 21 #[.pointer (some ⟨g, 0, none⟩), nv] W2 fun e w' => e = .returned (.int .i64 (N1 : Int)) ∧ StM w' g bm bl zv { S with ls := cadd no 0 S.ls } ∧ Mv (fun k => k = bl) W1 (fun k => k = bl) w' ∧ KM11 W2 w') := Lib.hid (fun W2 hs hm => by
    rw [hN1]
    exact (ofComments_any g bm bl zv S P no nv W2 hs (hnv.keep (hm.keeps hPl)) hPl hz.inv.2.1 (by omega) hno).mono fun e w' ⟨a1, a2, a3⟩ => ⟨a1, a2, hm.trans a3, km11 hs a3⟩)
  have QB : Hid (∀ W2, StM W2 g bm bl zv { S with ls := cadd no 0 S.ls } → Mv (fun k => k = bl) W1 (fun k => k = bl) W2 → Calls Try.prog 21 #[.pointer (some ⟨g, 0, none⟩), tv] W2 fun e w' => e = .returned (.int .i64 (N2 : Int)) ∧ StM w' g bm bl zv { S with ls := cadd ta 0 (cadd no 0 S.ls) } ∧ Mv (fun k => k = bl) W1 (fun k => k = bl) w' ∧ KM11 W2 w') := Lib.hid (fun W2 hs hm => by
    rw [hN2]
    exact (ofComments_any g bm bl zv { S with ls := cadd no 0 S.ls } P ta tv W2 hs (htv.keep (hm.keeps hPl)) hPl hz.inv.2.2.1 (by have := cadd_len no 0 S.ls; show (cadd no 0 S.ls).length ≤ _; omega) hta).mono fun e w' ⟨a1, a2, a3⟩ => ⟨a1, a2, hm.trans a3, km11 hs a3⟩)
  have hbl : W.heap.size ≠ bl := fun e => by have := h.lists.lt; omega
  have C : Hid (∀ w', Mv (fun k => k = bl) W1 (fun k => k = bl) w' → w'.cell? ⟨W.heap.size, 0, none⟩ = some (.pointer (some ⟨g0, o0, none⟩)) ∧ w'.cell? ⟨W.heap.size, 2, none⟩ = some (.int .i64 (it : Int)) ∧ w'.cell? ⟨g0, o0, none⟩ = some (.int .i64 k) ∧ w'.cell? ⟨g0, o0 + 1, none⟩ = some (.string t) ∧ w'.cell? ⟨g0, o0 + 4, none⟩ = some (.bool b) ∧ w'.cell? ⟨g0, o0 + 5, none⟩ = some nv ∧ w'.cell? ⟨g0, o0 + 6, none⟩ = some tv ∧ Hid (Mv (fun k => k = bl) W1 (fun k => k = bl) w')) := Lib.hid (fun w' hm => by
    have hv2 := (hm.block _ (lt_of_block hv1) hbl).trans hv1
    have hn2 := hn1.keep (hm.keeps hPl)
    have hg := hn1.1
    have hgl := hn1.2.1
    have kp : ∀ j, w'.cell? ⟨g0, j, none⟩ = W1.cell? ⟨g0, j, none⟩ := fun j => keeps_cell (hm.keeps hPl) hg hgl
    refine ⟨by rw [cell_of_row w' _ _ _ _ _ hv2]; rfl, by rw [cell_of_row w' _ _ _ _ _ hv2]; rfl, (kp _).trans e0, (kp _).trans e1, (kp _).trans e4, (kp _).trans e5, (kp _).trans e6, Lib.hid hm⟩)
  obtain ⟨y0, y2, x0, x1, x4, x5, x6, -⟩ := C.out _ (Mv.refl _ _)
  rw [hW1] at y0 y2 x0 x1 x4 x5 x6
  have M0 : Hid (StM (W.alloc (.cells #[.pointer (some ⟨g0, o0, none⟩), .int .i64 seen, .int .i64 (it : Int), .int .i64 (sz : Int)] 50)).drew g bm bl zv S ∧ Mv (fun k => k = bl) W1 (fun k => k = bl) (W.alloc (.cells #[.pointer (some ⟨g0, o0, none⟩), .int .i64 seen, .int .i64 (it : Int), .int .i64 (sz : Int)] 50)).drew) := Lib.hid (by rw [← hW1]; exact ⟨h1.keep (fun _ _ => rfl), mv_below _ (Below.drew (Below.refl _ _))⟩)
  have M1 : Hid (∀ O, StM ((W.alloc (.cells #[.pointer (some ⟨g0, o0, none⟩), .int .i64 seen, .int .i64 (it : Int), .int .i64 (sz : Int)] 50)).alloc O).drew g bm bl zv S ∧ Mv (fun k => k = bl) W1 (fun k => k = bl) ((W.alloc (.cells #[.pointer (some ⟨g0, o0, none⟩), .int .i64 seen, .int .i64 (it : Int), .int .i64 (sz : Int)] 50)).alloc O).drew) := Lib.hid (fun O => by rw [← hW1]; exact ⟨(h1.below (below1 W1 O)).keep (fun _ _ => rfl), mv_below _ (Below.drew (below1 _ _))⟩)
  have HNL : Hid (N1 ≤ 4611686018427387904 ∧ N2 ≤ 4611686018427387904) := Lib.hid ⟨by have := cnum_le no 0 S.ls (Nat.zero_le _); have := cadd_len no 0 S.ls; omega, by have := cnum_le ta 0 (cadd no 0 S.ls) (Nat.zero_le _); have := cadd_len no 0 S.ls; have := cadd_len ta 0 (cadd no 0 S.ls); omega⟩
  have HF : Hid (∀ B, W1.heap.size ≤ B → ¬ Fs g bm bl zv B) := Lib.hid (fun B hB hf => by have := h1.live B hf; omega)
  obtain ⟨R1, hR1⟩ : ∃ R1, R1 = (ndone k t b no ta (it, sz, S)).1 := ⟨_, rfl⟩
  obtain ⟨R2, hR2⟩ : ∃ R2, R2 = (ndone k t b no ta (it, sz, S)).2 := ⟨_, rfl⟩
  rw [← hR1, ← hR2]
  have HR1 : Hid (R1 = nnum ((k, t, b), it, N1, N2) S.ks) := Lib.hid (by rw [hR1, hN1, hN2]; rfl)
  have HR2 : Hid (R2 = nadd ((k, t, b), it, N1, N2) sz { S with ls := cadd ta 0 (cadd no 0 S.ls) }) := Lib.hid (by rw [hR2, hN1, hN2]; rfl)
  obtain ⟨S2, hS2⟩ : ∃ S2 : Sto, S2 = { S with ls := cadd ta 0 (cadd no 0 S.ls) } := ⟨_, rfl⟩
  have HSK : Hid (S2.ks = S.ks ∧ S2.zs = S.zs) := Lib.hid (by rw [hS2]; exact ⟨rfl, rfl⟩)
  rw [← hS2] at HR2
  have HS2 := Lib.hid hS2
  have HKB := Lib.hid (⟨hit, hlen, hks⟩ : it ≤ 4611686018427387904 ∧ S.zs.length = S.ks.length ∧ S.ks.length ≤ 1000000)
  have HSZ : Hid (W1.heap.size = W.heap.size + 1) := Lib.hid (by rw [hW1]; simp)
  have HN1 := Lib.hid hN1
  have HN2 := Lib.hid hN2
  have HW1 := Lib.hid hW1
  have HV1 := Lib.hid hv1
  have HB1 := Lib.hid hb1
  have HH := Lib.hid h
  have HP := Lib.hid hP
  have HZ := Lib.hid hz
  clear hn hn1 hnv htv e0 e1 e4 e5 e6 hN1 hN2 hW1 hv1 hb1 h h1 hP hz hPl hbl hl hR1 hR2 hS2 hit hlen hks
  go_enter Try.func18, Try.ntmps18
  go_wp2_with fail
  go_cut [5] from 8 to 39 (fun p wx => ∃ B, p = .pointer (some ⟨B, 0, none⟩) ∧ Hid (W1.heap.size ≤ B) ∧ Hid (Kk wx B k t b it N1 N2) ∧ Hid (StM wx g bm bl zv { S with ls := cadd ta 0 (cadd no 0 S.ls) } ∧ Mv (fun k => k = bl) W1 (fun k => k = bl) wx))
  case first =>
    go_region_held3 (fun w' => w'.cell? ⟨W.heap.size, 0, none⟩ = some (.pointer (some ⟨g0, o0, none⟩)) ∧ w'.cell? ⟨W.heap.size, 2, none⟩ = some (.int .i64 (it : Int)) ∧ w'.cell? ⟨g0, o0, none⟩ = some (.int .i64 k) ∧ w'.cell? ⟨g0, o0 + 1, none⟩ = some (.string t) ∧ w'.cell? ⟨g0, o0 + 4, none⟩ = some (.bool b) ∧ w'.cell? ⟨g0, o0 + 5, none⟩ = some nv ∧ w'.cell? ⟨g0, o0 + 6, none⟩ = some tv ∧ Hid (Mv (fun k => k = bl) W1 (fun k => k = bl) w'))
      (first | (refine C.out _ ?_; repeat' (first | with_reducible exact m5 | with_reducible exact m4 | with_reducible exact M0.out.2 | with_reducible exact (M1.out _).2 | with_reducible exact m4.size | with_reducible exact m5.size | with_reducible exact Nat.le_of_eq HSZ.out | with_reducible refine Mv.alloc ?_ _ | with_reducible refine Mv.new ?_ ?_ _ _)))
      (first
      | (go_at_call 21; with_reducible refine (QA.out _ ?_ ?_).mono ?_; with_reducible exact M0.out.1; with_reducible exact M0.out.2; rintro e w4 ⟨rfl, s4, m4, -⟩)
      | (go_at_call 21; with_reducible refine (QA.out _ ?_ ?_).mono ?_; with_reducible exact (M1.out _).1; with_reducible exact (M1.out _).2; rintro e w4 ⟨rfl, s4, m4, k4⟩; have z4 := km_use k4 (kk_new_d _ 0 ⟨#[]⟩ false 0 0 0); simp at z4)
      | (go_at_call 21; with_reducible refine (QB.out _ ?_ ?_).mono ?_; with_reducible exact s4.below (below1 _ _); with_reducible exact m4.alloc _; rintro e w5 ⟨rfl, s5, m5, k5⟩; have z5 := km_use k5 (kk_new w4 0 ⟨#[]⟩ false 0 0 0); obtain ⟨q0, q1, q2, q3, q4, q5⟩ := z5.cells; have f0 := z5.frz 0; have f1 := z5.frz 1; have f2 := z5.frz 2; have f3 := z5.frz 3; have f4 := z5.frz 4; have f5 := z5.frz 5)
      | (go_at_call 21; with_reducible refine (QB.out _ ?_ ?_).mono ?_; with_reducible exact s4; with_reducible exact m4; rintro e w5 ⟨rfl, s5, m5, k5⟩; have z5 := km_use k5 z4; obtain ⟨q0, q1, q2, q3, q4, q5⟩ := z5.cells; have f0 := z5.frz 0; have f1 := z5.frz 1; have f2 := z5.frz 2; have f3 := z5.frz 3; have f4 := z5.frz 4; have f5 := z5.frz 5)
      | (go_at_call 21; with_reducible refine (QB.out _ ?_ ?_).mono ?_; with_reducible exact s4; with_reducible exact m4; rintro e w5 ⟨rfl, s5, m5, -⟩))
    all_goals go_wp2_with fail
    all_goals go_meet
    · exact ⟨_, rfl, Lib.hid m5.size, Lib.hid (kk_new w5 _ _ _ _ _ _), Lib.hid ⟨s5.below (below1 _ _), m5.alloc _⟩⟩
    · have hf := HF.out _ m4.size
      exact ⟨_, rfl, Lib.hid m4.size, Lib.hid (z5.put6 _ _ _ _ _ _), Lib.hid ⟨(((((s5.set hf _ _).set hf _ _).set hf _ _).set hf _ _).set hf _ _).set hf _ _, (((((m5.new m4.size _ _).new m4.size _ _).new m4.size _ _).new m4.size _ _).new m4.size _ _).new m4.size _ _⟩⟩
    · have hs := Nat.le_of_eq HSZ.out
      have hf := HF.out _ hs
      exact ⟨_, rfl, Lib.hid hs, Lib.hid (z5.put6 _ _ _ _ _ _), Lib.hid ⟨(((((s5.set hf _ _).set hf _ _).set hf _ _).set hf _ _).set hf _ _).set hf _ _, (((((m5.new hs _ _).new hs _ _).new hs _ _).new hs _ _).new hs _ _).new hs _ _⟩⟩
  case rest =>
    obtain ⟨B, rfl, HLE, HK, HM⟩ := hcut
    clear y0 y2 x0 x1 x4 x5 x6 C QA QB M0 M1
    rw [← HS2.out] at HM
    have hsm := HM.out.1.keep (W' := wc.drew) (fun _ _ => rfl)
    obtain ⟨a0, a1, a2⟩ := HM.out.1.cells
    obtain ⟨q0, q1, q2, q3, q4, q5⟩ := HK.out.cells
    obtain ⟨k1, k2⟩ := hsm.lookN k t b it N1 N2 HZ.out.kw HZ.out.inv.1 HKB.out.1 HNL.out.1 HNL.out.2
    rw [HSK.out.1] at k1 k2
    have HMW : Hid (Mv (fun k => k = bl) W (fun k => k = bl) wc) := Lib.hid ((mv_below _ HB1.out).trans HM.out.2)
    by_cases hm : ((k, t, b), it, N1, N2) ∈ S.ks
    · have hlk := k1 hm
      rw [← HR1.out] at hlk
      have HE : Hid (R2 = S2) := Lib.hid (by rw [HR2.out]; unfold nadd; rw [if_pos (by rw [HSK.out.1]; exact hm)])
      have HFN : Hid (∃ zv', StM wc.drew g bm bl zv' R2 ∧ Mv (Fs g bm bl zv) W (Fs g bm bl zv') wc.drew) := Lib.hid ⟨zv, by rw [HE.out]; exact hsm, (HMW.out.trans (mv_below _ (Below.drew (Below.refl _ _)))).up (fun k hk => .inr (.inr (.inl hk)))⟩
      clear k1 k2 hm hsm
      go_wp2_with fail
      go_region
      all_goals go_wp2_with fail
      all_goals go_ret
      all_goals exact ⟨rfl, HFN.out⟩
    · have hlk := k2 hm
      have HC := Lib.hid (fun W2 => clonew_any t HZ.out.inv.1 W2)
      have HMM := Lib.hid hm
      clear k1 k2 hm hsm
      go_wp2_with fail
      go_region
      go_wp2_with fail
      refine (HC.out _).mono ?_
      rintro e w2 ⟨rfl, hb2⟩
      have hb2' : Below wc.heap.size wc w2 := (Below.drew (Below.refl _ _)).trans hb2
      have hk2 : Kk w2 B k t b it N1 N2 := (hb2'.block _ (lt_of_block HK.out)).trans HK.out
      have hB2 : W.heap.size < B := by have := HLE.out; have := HSZ.out; omega
      have hnf := HF.out B HLE.out
      have hs2 := HM.out.1.below hb2'
      have f1 := hk2.frz 1
      have d1 := hk2.cells.2.1
      have hk3 : Kk (w2.setCell ⟨B, 1, none⟩ (.string t)) B k t b it N1 N2 := by
        have := Lib.heap_setCell_same (i := 1) hk2 (.string t)
        unfold Kk
        simpa using this
      have hs3 : StM (w2.setCell ⟨B, 1, none⟩ (.string t)) g bm bl zv S2 := hs2.set hnf _ _
      have hm3 : Mv (Fs g bm bl zv) W (Fs g bm bl zv) (w2.setCell ⟨B, 1, none⟩ (.string t)) := ((HMW.out.up (fun k hk => .inr (.inr (.inl hk)))).trans (mv_below _ hb2')).new (by omega) _ _
      have hv3 : (w2.setCell ⟨B, 1, none⟩ (.string t)).cell? ⟨W.heap.size, 3, none⟩ = some (.int .i64 (sz : Int)) := by
        have hvc : wc.heap[W.heap.size]? = some (.cells #[.pointer (some ⟨g0, o0, none⟩), .int .i64 seen, .int .i64 (it : Int), .int .i64 (sz : Int)] 50 (0, 0)) :=
          (HM.out.2.block _ (by have := HSZ.out; omega) (fun e => HF.out W.heap.size (by have := HM.out.2.size; have := HSZ.out; exact absurd (HH.out.live bl (.inr (.inr (.inl rfl)))) (by omega)) (.inr (.inr (.inl e))))).trans HV1.out
        have : (w2.setCell ⟨B, 1, none⟩ (.string t)).heap[W.heap.size]? = _ := (Below.heap_setCell _ _ _ _ (by show W.heap.size ≠ B; omega)).trans ((hb2'.block _ (lt_of_block hvc)).trans hvc)
        rw [cell_of_row _ _ _ _ _ _ this]; rfl
      obtain ⟨w3, hw3⟩ : ∃ w3, w3 = w2.setCell ⟨B, 1, none⟩ (.string t) := ⟨_, rfl⟩
      rw [← hw3] at hk3 hs3 hm3 hv3
      have HK3 := Lib.hid hk3
      have HS3 := Lib.hid hs3
      have HM3 := Lib.hid hm3
      have HV3 := Lib.hid hv3
      have HW3 := Lib.hid hw3
      clear hb2 hb2' hk2 hs2 hk3 hs3 hm3 hv3 a0 a1 a2 q0 q1 q2 q3 q4 q5 hlk hw3
      go_wp2_with fail
      rw [← HW3.out]
      clear f1 d1
      have hle3 : w3.heap.size ≤ (w3.alloc (.cells #[.int .i64 (sz : Int)] 3)).drew.heap.size := by show _ ≤ (w3.heap.push _).size; simp
      have hb3 : Below w3.heap.size w3 (w3.alloc (.cells #[.int .i64 (sz : Int)] 3)).drew := Below.drew (below1 _ _)
      have HGR : Hid (∀ v4 w4, w4.ownsRow 0 3 1 v4 (S2.zs.length + 1) ((S2.zs.map fun (z : Nat) => Value.int .i64 (z : Int)) ++ [.int .i64 (sz : Int)]) → (w3.alloc (.cells #[.int .i64 (sz : Int)] 3)).drew.grownBy w4 zv.ownBlock → (v4.ownBlock = zv.ownBlock ∨ ∀ g, v4.ownBlock = some g → (w3.alloc (.cells #[.int .i64 (sz : Int)] 3)).drew.heap.size ≤ g) → _) := Lib.hid (fun v4 w4 h1 h2 h3 => HS3.out.grow hb3 sz h1 h2 h3)
      have HRW : Hid ((w3.alloc (.cells #[.int .i64 (sz : Int)] 3)).drew.ownsRow 0 3 1 zv S2.zs.length (S2.zs.map fun (z : Nat) => Value.int .i64 (z : Int))) := Lib.hid (HS3.out.below hb3).row
      have HCC : Hid ((w3.alloc (.cells #[.int .i64 (sz : Int)] 3)).drew.cell? ⟨w3.heap.size, 0, none⟩ = some (.int .i64 (sz : Int))) := Lib.hid (by rw [cell_of_row _ _ _ #[.int .i64 (sz : Int)] 3 (0, 0) (by show (w3.heap.push _)[w3.heap.size]? = _; rw [Array.getElem?_push, if_pos rfl])]; rfl)
      have HZL : Hid (S2.zs.length ≤ 1048576) := Lib.hid (by rw [HSK.out.2]; have := HKB.out; omega)
      have a2 := HS3.out.cells.2.2
      have v3 := HV3.out
      have a2' : ∀ O, (w3.alloc O).cell? ⟨g, 2, none⟩ = some zv := fun O => (HS3.out.below (below1 w3 O)).cells.2.2
      have HKL : Hid (∀ v4 w4, (w3.alloc (.cells #[.int .i64 (sz : Int)] 3)).drew.grownBy w4 zv.ownBlock → Kk (w4.setCell ⟨g, 2, none⟩ v4) B k t b it N1 N2) := Lib.hid (fun v4 w4 h2 => by
        have hnf := HF.out B HLE.out
        have h1 : (w4.setCell ⟨g, 2, none⟩ v4).heap[B]? = w4.heap[B]? := Below.heap_setCell _ _ _ _ (fun e => hnf (.inl e))
        exact h1.trans ((h2.block B (Nat.lt_of_lt_of_le (lt_of_block HK3.out) hle3) (fun e => hnf (.inr (.inr (.inr e.symm))))).trans ((hb3.block B (lt_of_block HK3.out)).trans HK3.out)))
      clear hle3 hb3
      go_cut [] from 55 to 65 (fun wx => ∃ zv', Hid (StM wx g bm bl zv' { S2 with zs := S2.zs ++ [sz] } ∧ Mv (Fs g bm bl zv) W (Fs g bm bl zv') wx ∧ Kk wx B k t b it N1 N2 ∧ ∃ a c, zv' = .slice a (S2.zs.length + 1) c))
      case first =>
        go_region_law (refine step_append_zs rfl _ _ rfl zv S2.zs.length _ rfl HRW.out _ (sz : Int) rfl HCC.out HZL.out ?_; intro v4 w4 h1 h2 h3; obtain ⟨a4, p4, rfl⟩ := own_slice h1; have HG := Lib.hid (HGR.out _ w4 h1 h2 h3); have HKW := Lib.hid (HKL.out (.slice a4 (S2.zs.length + 1) p4) w4 h2); have c4 : w4.cell? ⟨g, 2, none⟩ = some zv := HG.out.1.1; have f4 : w4.frozen? ⟨g, 2, none⟩ = false := HG.out.1.2; clear h1 h2 h3)
        all_goals go_wp2_with fail
        all_goals go_meet
        all_goals exact ⟨_, Lib.hid ⟨HG.out.2.1, HM3.out.trans HG.out.2.2.1, HKW.out, HG.out.2.2.2⟩⟩
      case rest =>
        obtain ⟨zv', HQ⟩ := hcut
        obtain ⟨hq1, hq2, hq3, a, c, rfl⟩ := HQ.out
        have hmm : ((k, t, b), it, N1, N2) ∉ S2.ks := by rw [HSK.out.1]; exact HMM.out
        obtain ⟨es, clock, hu, hput⟩ := hq1.putN k t b it N1 N2 HZ.out.kw HZ.out.inv.1 HKB.out.1 HNL.out.1 HNL.out.2 hmm
        have hup := hu wc.drew rfl
        have hst := hput wc.drew _ (S2.zs ++ [sz]) (hq1.keep (fun _ _ => rfl))
        have hr2 : R2 = { S2 with ks := S2.ks ++ [((k, t, b), it, N1, N2)], zs := S2.zs ++ [sz] } := by rw [HR2.out]; unfold nadd; rw [if_neg hmm]
        have hst2 : StM (putK wc.drew bm es clock) g bm bl (.slice a (S2.zs.length + 1) c) R2 := by rw [hr2]; exact hst
        have hll : S2.ks.length + 1 = S2.zs.length + 1 := by rw [HSK.out.1, HSK.out.2, HKB.out.2.1]
        have hr1 : R1 = S2.zs.length + 1 := by rw [HR1.out]; unfold nnum; rw [find_not HMM.out, HSK.out.2, HKB.out.2.1]
        have hup : (Instr.mapUpdate 42 (.map (some bm)) (.agg #[.int .i64 k, .string t, .bool b, .int .i64 (it : Int), .int .i64 (N1 : Int), .int .i64 (N2 : Int)]) (.int .i64 ((S2.ks.length + 1 : Nat) : Int))).run Try.prog wc.drew = .ok () (putK wc.drew bm es clock) := hup
        rw [hll] at hup
        rw [← hr1] at hup hst2 hq1 hq2
        have HFN : Hid (∃ zv', StM (putK wc.drew bm es clock) g bm bl zv' R2 ∧ Mv (Fs g bm bl zv) W (Fs g bm bl zv') (putK wc.drew bm es clock)) := Lib.hid ⟨_, hst2, (hq2.trans (mv_below _ (Below.drew (Below.refl _ _)))).trans (mv_putK _ (.inr (.inl rfl)) es clock)⟩
        have e2 := hst2.cells.2.2
        obtain ⟨a0, a1, a2⟩ := hq1.cells
        obtain ⟨q0, q1, q2, q3, q4, q5⟩ := hq3.cells
        clear HQ HGR HRW HCC HZL HKL hq1 hq2 hq3 hu hput hst hr2 hst2 hll hr1 hmm v3 a2'
        go_wp2_with fail
        go_region
        all_goals go_wp2_with fail
        all_goals go_ret
        all_goals exact ⟨rfl, HFN.out⟩
end Go.Proofs.Ytkngnkonddpbeaa
