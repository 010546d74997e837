/-
  THE PROGRAM's Notes: what it appends.
-/
import Derived.Test.YtkdaombcbcegfaaTreeUse2
import Derived.Test.YtkdaombcbcegfaaTreeNextN
import Derived.Deep.RegionHeld3
import Derived.Deep.CutRange
namespace Go.Proofs.Ytkdaombcbcegfaa
open Go.RowKit Go.PlainAid

theorem txs_cut {W : World} {base : Nat} {v : Value} {I : List ByteArray} (h : Txs W base v I) : ∃ a n c, v = .slice a n c := by
  obtain ⟨-, ⟨rfl, -⟩ | ⟨g, cap, cur, rfl, -⟩⟩ := h
  · exact ⟨_, _, _, rfl⟩
  · exact ⟨_, _, _, rfl⟩
set_option maxRecDepth 100000 in
set_option maxHeartbeats 4000000 in
theorem apc_any (P : Nat → Prop) (base : Nat) (v : Value) (I : List ByteArray) (sv : Value) (L : List ByteArray) (w : World) (hown : Txs w base v I) (hst : StIn w P sv L) (hpo : ∀ g, P g → v.ownBlock ≠ some g) (hbase : base ≤ w.heap.size) (hpl : ∀ g, P g → g < w.heap.size) (hlen : I.length + L.length ≤ 1048576) (hsz : ∀ t ∈ L, Sz t) :
    Calls Try.prog 27 #[v, sv] w fun e w' => ∃ v', e = .returned v' ∧ Txs w' base v' (I ++ L) ∧ Mv (Ob v) w (Ob v') w' := by
  obtain ⟨N, hN⟩ : ∃ N, N = L.length := ⟨_, rfl⟩
  obtain ⟨a, cap, rfl, hr⟩ := hst
  rw [← hN] at hr hlen ⊢
  obtain ⟨va, vn, vc, rfl⟩ := txs_cut hown
  have HST := Lib.hid hr
  have HN := Lib.hid hN
  have HPL := Lib.hid hpl
  have HPO := Lib.hid hpo
  have HSZ := Lib.hid hsz
  have HB := Lib.hid hbase
  have HW0 := Lib.hid hown
  clear hr hN hpl hpo hsz hbase hown
  go_enter Try.func27, Try.ntmps27
  go_wp2_with fail
  go_loopg [0, 6, 9] N (fun gn z y i wr => ∃ (q : Nat), gn = N - q ∧ q ≤ N ∧ i = .int .i64 (q : Int) ∧ Hid (Txs wr base z (I ++ L.take q)) ∧ Hid (Mv (Ob (.slice va vn vc)) w (Ob z) wr))
  case atStart => exact ⟨0, rfl, Nat.zero_le _, rfl, Lib.hid (by simpa using HW0.out), Lib.hid (Mv.refl _ _)⟩
  case round =>
    obtain ⟨q, hgn, hq, rfl, HTX, HM⟩ := hrel
    by_cases hlt : q < N
    · obtain ⟨t, ht⟩ : ∃ x, L[q]? = some x := ⟨_, List.getElem?_eq_getElem (by rw [← HN.out]; exact hlt)⟩
      obtain ⟨g, o, rfl, hpg, hg, hcx⟩ := HST.out (by omega)
      have hc1 : wr.cell? ⟨g, o + q, none⟩ = some (.string t) := by
        have hb : wr.heap[g]? = w.heap[g]? := HM.out.block g hg (fun h => HPO.out g hpg h)
        rw [World.cell?_of_block (w := w) (a := ⟨g, o + q, none⟩) hb]
        exact hcx q t ht
      have hs1 := HSZ.out t (List.mem_of_getElem? ht)
      have HCL := Lib.hid (fun W => cloned_any t hs1 W)
      have qn : (q : Int) < (N : Int) := by omega
      have HTK : Hid (I ++ L.take q ++ [t] = I ++ L.take (q + 1)) := Lib.hid (by rw [List.take_add_one, ht, List.append_assoc]; rfl)
      have HLE : Hid ((I ++ L.take q).length + [t].length ≤ 1048576) := Lib.hid (by
        rw [List.length_append, List.length_take, ← HN.out]
        simp only [List.length_cons, List.length_nil]
        omega)
      have HSO : Hid (∀ w4 : World, StAt (w4.alloc (.cells #[.string t] 9)) (.slice (some ⟨w4.heap.size, 0, none⟩) 1 1) [t]) := Lib.hid (fun w4 => st_one w4 t)
      clear ht hcx hs1
      go_wp2_with fail
      refine (HCL.out _).mono ?_
      rintro e w4 ⟨rfl, hb4⟩
      have hb5 : Below wr.heap.size wr (w4.alloc (.cells #[.string t] 9)) := hb4.alloc hb4.size _
      have HT5 := Lib.hid (HTX.out.bel hb5)
      have HS5 : Hid (base ≤ (w4.alloc (.cells #[.string t] 9)).heap.size) := Lib.hid (by have := HM.out.size; have := HB.out; have := hb5.size; omega)
      have HB5 := Lib.hid hb5
      clear hb4 hb5 hc1
      go_wp2_with (at_builtin; go_must (refine wpList_append_stw rfl _ _ rfl base _ (I ++ L.take q) rfl HT5.out _ [t] rfl (HSO.out _) HLE.out HS5.out ?_); intro z6 w6 h1 h2 h3; have HM6 := Lib.hid (HM.out.trans ((mv_below _ HB5.out).trans (grown_mv h2 h3))); have HT6 : Hid (Txs w6 base z6 (I ++ L.take (q + 1))) := Lib.hid (by rw [← HTK.out]; exact h1); clear h1 h2 h3)
      go_roundg (N - (q + 1))
      case measure => omega
      case rel => exact ⟨q + 1, rfl, hlt, by go_num, HT6, HM6⟩
    · obtain rfl : q = N := by omega
      have HF : Hid (I ++ L.take q = I ++ L) := Lib.hid (by rw [List.take_of_length_le (by rw [HN.out]; exact Nat.le_refl _)])
      go_wp2_with fail
      go_ret
      exact ⟨_, rfl, by rw [← HF.out]; exact HTX.out, HM.out⟩
theorem Mv.iff {O O1 O' : Nat → Prop} {W W' : World} (h : Mv O W O' W') (he : ∀ g, O1 g ↔ O g) : Mv O1 W O' W' :=
  ⟨h.os, h.tape, h.output, h.size, fun g hg hn => h.block g hg (fun h' => hn ((he g).2 h')), fun g hg => (h.own g hg).elim (fun h' => .inl ((he g).2 h')) .inr⟩
/-- The list that is written: its variable, its row. -/
def LJ (q0 base bd : Nat) (W : World) (M : Nat → Prop) (I : List ByteArray) : Prop :=
  ∃ v, W.heap[q0]? = some (.cells #[v] 22 (0, 0)) ∧ Txs W base v I ∧ v.ownBlock ≠ some q0 ∧ base ≤ W.heap.size ∧ bd ≤ W.heap.size ∧ ∀ g, M g ↔ (g = q0 ∨ Ob v g)
theorem LJ.keep {q0 base bd : Nat} {W W' : World} {M : Nat → Prop} {I : List ByteArray} (h : LJ q0 base bd W M I) (hs : W.heap.size ≤ W'.heap.size) (hb : ∀ g, M g → W'.heap[g]? = W.heap[g]?) : LJ q0 base bd W' M I := by
  obtain ⟨v, h1, h2, h3, h4, h5, h6⟩ := h
  exact ⟨v, by rw [hb q0 ((h6 q0).2 (.inl rfl))]; exact h1, row_block h2 (fun g e => hb g ((h6 g).2 (.inr e))), h3, by omega, by omega, h6⟩
theorem LJ.lt {q0 base bd : Nat} {W : World} {M : Nat → Prop} {I : List ByteArray} (h : LJ q0 base bd W M I) (g : Nat) (hg : M g) : g < W.heap.size := by
  obtain ⟨v, h1, h2, h3, h4, h5, h6⟩ := h
  rcases (h6 g).1 hg with e | e
  · rw [e]; exact lt_of_block h1
  · exact (h2.lt g e).2
theorem LJ.below {q0 base bd : Nat} {W W' : World} {M : Nat → Prop} {I : List ByteArray} (h : LJ q0 base bd W M I) (hb : Below W.heap.size W W') : LJ q0 base bd W' M I :=
  h.keep hb.size (fun g hg => hb.block g (h.lt g hg))
/-- What is appended to the list, and stored. -/
theorem LJ.put {q0 base bd : Nat} {W W' : World} {M : Nat → Prop} {I L : List ByteArray} {v v' : Value} (h1 : W.heap[q0]? = some (.cells #[v] 22 (0, 0))) (h3 : v.ownBlock ≠ some q0) (h4 : base ≤ W.heap.size) (h5 : bd ≤ W.heap.size) (h6 : ∀ g, M g ↔ (g = q0 ∨ Ob v g)) (ht : Txs W' base v' (I ++ L)) (hm : Mv (Ob v) W (Ob v') W') :
    LJ q0 base bd (W'.setCell ⟨q0, 0, none⟩ v') (fun g => g = q0 ∨ Ob v' g) (I ++ L) ∧ Mv M W (fun g => g = q0 ∨ Ob v' g) (W'.setCell ⟨q0, 0, none⟩ v') := by
  have hq : W'.heap[q0]? = some (.cells #[v] 22 (0, 0)) := by rw [hm.block q0 (lt_of_block h1) h3]; exact h1
  have hv : v'.ownBlock ≠ some q0 := fun e => by
    rcases hm.own q0 e with h | h
    · exact h3 h
    · have := lt_of_block h1; omega
  have hs := hm.size
  refine ⟨⟨v', one_setCell hq, ownsRow_setCell_other ht hv _, hv, by simp; omega, by simp; omega, fun g => Iff.rfl⟩, ?_⟩
  exact Mv.iff ((hm.weak2 (N := fun g => g = q0)).set (.inl rfl) _ _) h6
/-- The tail of a node, or its notes, appended to the list: in whatever world the call finds. -/
theorem apc_list {P : Nat → Prop} {q0 base : Nat} {W : World} {v : Value} {I L : List ByteArray} {sv : Value} (h2 : Txs W base v I) (h4 : base ≤ W.heap.size) (hbd : ∀ g, P g → g < W.heap.size) (hpo : ∀ g, P g → v.ownBlock ≠ some g) (hst : StIn W P sv L) (hlen : I.length + L.length ≤ 1048576) (hsz : ∀ t ∈ L, Sz t) (h1 : W.heap[q0]? = some (.cells #[v] 22 (0, 0))) (h3 : v.ownBlock ≠ some q0) (W2 : World) (hb : Below W.heap.size W W2) :
    Calls Try.prog 27 #[v, sv] W2 fun e w' => ∃ a n c, e = .returned (.slice a n c) ∧ Hid (Txs w' base (.slice a n c) (I ++ L)) ∧ Hid (Mv (Ob v) W (Ob (.slice a n c)) w') ∧ w'.cell? ⟨q0, 0, none⟩ = some v ∧ w'.frozen? ⟨q0, 0, none⟩ = false := by
  refine (apc_any P base v I sv L W2 (h2.bel hb) (hst.keep (keeps_below hb)) hpo (Nat.le_trans h4 hb.size) (fun g hg => Nat.lt_of_lt_of_le (hbd g hg) hb.size) hlen hsz).mono ?_
  rintro e w' ⟨v', rfl, k1, k2⟩
  obtain ⟨a, n, c, rfl⟩ := txs_cut k1
  have hm := (mv_below (Ob v) hb).trans k2
  have hq : w'.heap[q0]? = some (.cells #[v] 22 (0, 0)) := by rw [hm.block q0 (lt_of_block h1) h3]; exact h1
  exact ⟨a, n, c, rfl, Lib.hid k1, Lib.hid hm, (cell_of_row w' _ 0 _ _ _ hq).trans rfl, frz_of hq 0⟩
set_option maxRecDepth 100000 in
set_option maxHeartbeats 4000000 in
theorem leave_any {P : Nat → Prop} {q0 base bd : Nat} (hbd : ∀ g, P g → g < bd) {W : World} {M : Nat → Prop} {I : List ByteArray} (h : LJ q0 base bd W M I) {g o : Nat} {x : Nd} (hn : NIn W P g o x) (hpm : ∀ g, P g → ¬ M g) (hlen : I.length + (tla x).length ≤ 1048576) (hsz : ∀ t ∈ tla x, Sz t) :
    Calls Try.prog 26 #[.pointer (some ⟨g, o, none⟩), .pointer (some ⟨q0, 0, none⟩)] W fun e W' => e = .returned (.tuple #[]) ∧ ∃ M', LJ q0 base bd W' M' (I ++ tla x) ∧ Mv M W M' W' := by
  obtain ⟨v, h1, h2, h3, h4, h5, h6⟩ := h
  cases x with
  | mk k t l br bl no ta =>
    obtain ⟨a, cap, nv, tv, ⟨-, -, -, -, -, -, c6⟩, -, st, -⟩ := hn.open
    simp only [tla] at hlen hsz ⊢
    have HAP := Lib.hid (fun W2 hb => apc_list h2 h4 (fun g hg => Nat.lt_of_lt_of_le (hbd g hg) h5) (fun g hg e => hpm g hg ((h6 g).2 (.inr e))) st hlen hsz h1 h3 W2 hb)
    have HPUT := Lib.hid (fun W' v' ht hm => LJ.put (W' := W') (v' := v') (bd := bd) (I := I) (L := ta) h1 h3 h4 h5 h6 ht hm)
    obtain ⟨ta2, tc, rfl, -⟩ := st
    obtain ⟨va, vn, vc, rfl⟩ := txs_cut h2
    have c0 : W.cell? ⟨q0, 0, none⟩ = some (.slice va vn vc) := (cell_of_row W _ 0 _ _ _ h1).trans rfl
    clear hn hpm hlen hsz h1 h2 h3 h4 h5 h6 hbd
    go_enter Try.func26, Try.ntmps26
    go_wp2_with fail
    go_region_with (go_at_call 27; refine (HAP.out _ (by first | exact Below.refl _ _ | exact drew_below _ _ | exact Below.drew (Below.refl _ _) | exact Below.drew (drew_below _ _))).mono ?_; rintro e w1 ⟨a1, n1, c1, rfl, HT1, HM1, c9, f9⟩)
    all_goals go_wp2_with fail
    all_goals go_end0
    all_goals exact ⟨rfl, _, (HPUT.out _ _ HT1.out HM1.out).1, (HPUT.out _ _ HT1.out HM1.out).2⟩
theorem lv_notes {P : Nat → Prop} {q0 base bd : Nat} (hbd : ∀ g, P g → g < bd) (I0 Q : List ByteArray) (hlen : I0.length + Q.length ≤ 1048576) (hsz : ∀ t ∈ Q, Sz t) : Lv P 26 #[.pointer (some ⟨q0, 0, none⟩)] Q (fun W M T => LJ q0 base bd W M (I0 ++ T)) where
  keep := fun _ _ _ _ h hs hb => h.keep hs hb
  lt := fun _ _ _ h g hg => h.lt g hg
  go := fun W M T g o x h hn hpm ⟨Z, hZ⟩ => by
    have hl := congrArg List.length hZ
    simp only [List.length_append] at hl
    have := leave_any hbd h hn hpm (by rw [List.length_append]; omega) (fun t ht => hsz t (by rw [← hZ]; simp [ht]))
    rw [List.append_assoc] at this
    exact this
def remNX : List Fr → List ByteArray
  | [] => []
  | f :: r => noa f.x ++ remN (f :: r)
theorem Nx.note {st st' : List Fr} {ls : List Nd} (h : Nx st ls st') : remN st = tls ls ++ remNX st' := by
  cases st' with
  | nil => rw [h.notes.1 rfl]; simp only [remNX, List.append_nil]
  | cons f r => rw [h.notes.2 f r rfl]; simp only [remNX, List.append_assoc]
theorem remN_dum (n : Nd) (g o : Nat) : remN [⟨dum n, 0, g, o⟩] = nts n := by simp only [remN, todo_zero, dum, pts, tla, ntsL, List.append_nil]
/-- A walk and the list, beside one another. -/
structure Wl (B : Nat) (w W : World) (q0 base s : Nat) (lf v : Value) (st : List Fr) (M : Nat → Prop) (I : List ByteArray) : Prop where
  wk : Wk W (Pk B s) s lf v st
  lj : LJ q0 base (s + 4) W M I
  bel : Below B w W
  ba : B ≤ s
  mb : ∀ g, M g → B ≤ g
  pm : ∀ g, Pk B s g → ¬ M g
  om : ∀ g, Og s v g → ¬ M g
theorem Wl.next {B : Nat} {w W : World} {q0 base s : Nat} {v : Value} {st : List Fr} {M : Nat → Prop} {I : List ByteArray} (h : Wl B w W q0 base s (.func (.func 26) #[] #[.pointer (some ⟨q0, 0, none⟩)]) v st M I) (hlen : I.length + (remN st).length ≤ 1048576) (hsz : ∀ t ∈ remN st, Sz t) :
    Calls Try.prog 33 #[.pointer (some ⟨s + 5, 0, none⟩), .pointer (some ⟨s + 1, 0, none⟩)] W fun e W' => ∃ ls st' v' M', Nx st ls st' ∧ e = .returned (.pointer (hd st')) ∧ Wl B w W' q0 base s (.func (.func 26) #[] #[.pointer (some ⟨q0, 0, none⟩)]) v' st' M' (I ++ tls ls) := by
  have hpp : ∀ g, Pk B s g → g < s + 4 := fun g hg => (h.wk.pp g hg).1
  refine (nextn_any (lv_notes hpp I (remN st) hlen hsz) h.wk (M := M) (by rw [List.append_nil]; exact h.lj) h.pm h.om).mono ?_
  rintro e W' ⟨ls, st', v', M', h1, h2, h3, h4, h5, h6, h7⟩
  have hin := h.wk.in
  have hba := h.ba
  have hsz' := h.wk.size
  refine ⟨ls, st', v', M', h1, h2, h3, h4, h.bel.trans (h5.below (by omega) (fun g hg => ?_)), hba, fun g hg => ?_, h6, h7⟩
  · rcases hg with hg | hg
    · have := hin g hg; omega
    · exact h.mb g hg
  · rcases h5.own g (.inr hg) with h8 | h8
    · rcases h8 with h8 | h8
      · have := hin g h8; omega
      · exact h.mb g h8
    · omega
theorem Wl.put {B : Nat} {w W W' : World} {q0 base s : Nat} {lf v : Value} {st : List Fr} {M M' : Nat → Prop} {I I' : List ByteArray} (h : Wl B w W q0 base s lf v st M I) (hj : LJ q0 base (s + 4) W' M' I') (hm : Mv M W M' W') : Wl B w W' q0 base s lf v st M' I' := by
  have hin := h.wk.in
  have hsz' := h.wk.size
  have hba := h.ba
  refine ⟨h.wk.keep hm h.pm h.om, hj, h.bel.trans (hm.below (by omega) h.mb), h.ba, fun g hg => ?_, fun g hp hg => ?_, fun g ho hg => ?_⟩
  · rcases hm.own g hg with h8 | h8
    · exact h.mb g h8
    · omega
  · rcases hm.own g hg with h8 | h8
    · exact h.pm g hp h8
    · have := (h.wk.pp g hp).1; omega
  · rcases hm.own g hg with h8 | h8
    · exact h.om g ho h8
    · have := hin g ho; omega
end Go.Proofs.Ytkdaombcbcegfaa
