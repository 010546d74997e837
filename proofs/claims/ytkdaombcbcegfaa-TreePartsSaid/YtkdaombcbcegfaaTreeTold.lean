/-
  What the statements of layer 10 ask of one tree each time: it holds.
-/
import Derived.Test.YtkdaombcbcegfaaPreTree
namespace Go.Proofs.Ytkdaombcbcegfaa
open Go.RowKit Go.PlainAid

/-- f(1) with a comment, Break or not. -/
def tF : Nd := .mk 1 ⟨#[102]⟩ [] false false [] []
def tO : Nd := .mk 1 ⟨#[49]⟩ [] false false [⟨#[37, 120]⟩] []
def tN (br : Bool) : Nd := .mk 2 ⟨#[]⟩ [tF, tO] br false [] []
theorem tN_ok (br : Bool) : OkT (tN br) := ⟨by simp [tN, tF, tO, cnt, cntL], by simp [tN, tF, tO, smk, smkL]⟩
theorem tN_sz (br : Bool) : Szd (tN br) := by
  have h0 : Sz ⟨#[]⟩ := by show (0 : Nat) ≤ 281474976710656; omega
  have h1 : Sz ⟨#[102]⟩ := by show (1 : Nat) ≤ 281474976710656; omega
  have h2 : Sz ⟨#[49]⟩ := by show (1 : Nat) ≤ 281474976710656; omega
  have h3 : Sz ⟨#[37, 120]⟩ := by show (2 : Nat) ≤ 281474976710656; omega
  refine szd_mk h0 (fun x hx => by simp at hx) (fun x hx => by simp at hx) (fun x hx => ?_)
  simp only [List.mem_cons, List.not_mem_nil, or_false] at hx
  rcases hx with rfl | rfl
  · exact szd_mk h1 (fun x hx => by simp at hx) (fun x hx => by simp at hx) (fun x hx => by simp at hx)
  · exact szd_mk h2 (fun x hx => by simp only [List.mem_cons, List.not_mem_nil, or_false] at hx; rw [hx]; exact h3) (fun x hx => by simp at hx) (fun x hx => by simp at hx)
theorem tF_ok : OkT tF := ⟨by simp [tF, cnt, cntL], by simp [tF, smk, smkL]⟩
theorem st_nil (W : World) : StAt W (.slice none 0 0) [] := ⟨none, 0, rfl, fun h => absurd h (by simp)⟩
theorem sl_nil (W : World) (cs : Nat → List Value) : SlAt W (.slice none 0 0) 0 cs := ⟨none, 0, rfl, fun h => absurd h (by omega)⟩
theorem told_nd (w W : World) (hb : Below ((w.alloc (.cells #[.string { data := #[37, 120] }] 9)).alloc (.cells #[.int .i64 1, .string { data := #[102] }, .slice none 0 0, .bool false, .bool false, .slice none 0 0, .slice none 0 0, .int .i64 1, .string { data := #[49] }, .slice none 0 0, .bool false, .bool false, .slice (some ⟨w.heap.size, 0, none⟩) 1 1, .slice none 0 0] 26)).heap.size ((w.alloc (.cells #[.string { data := #[37, 120] }] 9)).alloc (.cells #[.int .i64 1, .string { data := #[102] }, .slice none 0 0, .bool false, .bool false, .slice none 0 0, .slice none 0 0, .int .i64 1, .string { data := #[49] }, .slice none 0 0, .bool false, .bool false, .slice (some ⟨w.heap.size, 0, none⟩) 1 1, .slice none 0 0] 26)) W) (br : Bool) : NdAt W [.int .i64 2, .string { data := #[] }, .slice (some ⟨w.heap.size + 1, 0, none⟩) 2 2, .bool br, .bool false, .slice none 0 0, .slice none 0 0] (tN br) ∧ NdAt W [.int .i64 1, .string { data := #[102] }, .slice none 0 0, .bool false, .bool false, .slice none 0 0, .slice none 0 0] tF ∧
    (W.cell? ⟨w.heap.size + 1, 0, none⟩ = some (.int .i64 1) ∧ W.cell? ⟨w.heap.size + 1, 1, none⟩ = some (.string { data := #[102] }) ∧ W.cell? ⟨w.heap.size + 1, 2, none⟩ = some (.slice none 0 0) ∧ W.cell? ⟨w.heap.size + 1, 3, none⟩ = some (.bool false) ∧ W.cell? ⟨w.heap.size + 1, 4, none⟩ = some (.bool false) ∧ W.cell? ⟨w.heap.size + 1, 5, none⟩ = some (.slice none 0 0) ∧ W.cell? ⟨w.heap.size + 1, 6, none⟩ = some (.slice none 0 0)) := by
  have z1 : (w.alloc (.cells #[.string { data := #[37, 120] }] 9)).heap.size = w.heap.size + 1 := by simp
  have h0 : W.heap[w.heap.size]? = some (.cells #[.string { data := #[37, 120] }] 9) := by
    rw [hb.block _ (by simp; omega)]
    show ((w.heap.push _).push _)[w.heap.size]? = _
    rw [Array.getElem?_push_lt (by simp), Array.getElem_push_eq]
  have h1 : W.heap[w.heap.size + 1]? = some (.cells #[.int .i64 1, .string { data := #[102] }, .slice none 0 0, .bool false, .bool false, .slice none 0 0, .slice none 0 0, .int .i64 1, .string { data := #[49] }, .slice none 0 0, .bool false, .bool false, .slice (some ⟨w.heap.size, 0, none⟩) 1 1, .slice none 0 0] 26) := by
    rw [hb.block _ (by simp)]
    show ((w.heap.push _).push _)[w.heap.size + 1]? = _
    rw [Array.getElem?_push, if_pos (by simp)]
  have g0 : w.heap.size < W.heap.size := lt_of_block h0
  have g1 : w.heap.size + 1 < W.heap.size := lt_of_block h1
  have hF : NdAt W [.int .i64 1, .string { data := #[102] }, .slice none 0 0, .bool false, .bool false, .slice none 0 0, .slice none 0 0] tF :=
    .mk 1 _ [] false false [] [] _ _ _ (fun _ => []) (st_nil W) (st_nil W) (sl_nil W _) (fun i x hx => by simp at hx)
  have hs : StAt W (.slice (some ⟨w.heap.size, 0, none⟩) 1 1) [(⟨#[37, 120]⟩ : ByteArray)] := by
    refine ⟨some ⟨w.heap.size, 0, none⟩, 1, rfl, fun _ => ⟨w.heap.size, 0, rfl, g0, fun i x hx => ?_⟩⟩
    match i, hx with
    | 0, hx => cases hx; rw [cell_of_row W _ _ _ _ _ h0]; rfl
    | i + 1, hx => simp at hx
  have hO : NdAt W [.int .i64 1, .string { data := #[49] }, .slice none 0 0, .bool false, .bool false, .slice (some ⟨w.heap.size, 0, none⟩) 1 1, .slice none 0 0] tO :=
    .mk 1 _ [] false false _ [] _ _ _ (fun _ => []) hs (st_nil W) (sl_nil W _) (fun i x hx => by simp at hx)
  refine ⟨.mk 2 _ [tF, tO] br false [] [] _ _ _ (fun i => if i = 0 then [.int .i64 1, .string { data := #[102] }, .slice none 0 0, .bool false, .bool false, .slice none 0 0, .slice none 0 0] else [.int .i64 1, .string { data := #[49] }, .slice none 0 0, .bool false, .bool false, .slice (some ⟨w.heap.size, 0, none⟩) 1 1, .slice none 0 0]) (st_nil W) (st_nil W) ⟨_, 2, rfl, fun _ => ⟨w.heap.size + 1, 0, rfl, g1, fun i hi j x hj => ?_⟩⟩ (fun i x hx => ?_), hF, ?_⟩
  · rw [cell_of_row W _ _ _ _ _ h1]
    match i, hi with
    | 0, _ =>
      have hj7 : j < 7 := (List.getElem?_eq_some_iff.1 hj).1
      match j, hj7, hj with
      | 0, _, hj | 1, _, hj | 2, _, hj | 3, _, hj | 4, _, hj | 5, _, hj | 6, _, hj => exact hj
    | 1, _ =>
      have hj7 : j < 7 := (List.getElem?_eq_some_iff.1 hj).1
      match j, hj7, hj with
      | 0, _, hj | 1, _, hj | 2, _, hj | 3, _, hj | 4, _, hj | 5, _, hj | 6, _, hj => exact hj
  · match i, hx with
    | 0, hx => cases hx; exact hF
    | 1, hx => cases hx; exact hO
    | i + 2, hx => simp at hx
  · refine ⟨?_, ?_, ?_, ?_, ?_, ?_, ?_⟩ <;> rw [cell_of_row W _ _ _ _ _ h1] <;> rfl
set_option maxRecDepth 100000 in
set_option maxHeartbeats 4000000 in
theorem told10_any (w : World) : Calls Try.prog 7 #[] w fun e w' => e = .returned (.bool true) ∧ Below w.heap.size w w' := by
  obtain ⟨Z2, hZ2⟩ : ∃ Z, Z = ((w.alloc (.cells #[.string { data := #[37, 120] }] 9)).alloc (.cells #[.int .i64 1, .string { data := #[102] }, .slice none 0 0, .bool false, .bool false, .slice none 0 0, .slice none 0 0, .int .i64 1, .string { data := #[49] }, .slice none 0 0, .bool false, .bool false, .slice (some ⟨w.heap.size, 0, none⟩) 1 1, .slice none 0 0] 26)) := ⟨_, rfl⟩
  have s2 : Z2.heap.size = w.heap.size + 1 + 1 := by rw [hZ2]; simp
  obtain ⟨Z, hZ⟩ : ∃ Z, Z = ((((w.alloc (.cells #[.string { data := #[37, 120] }] 9)).alloc (.cells #[.int .i64 1, .string { data := #[102] }, .slice none 0 0, .bool false, .bool false, .slice none 0 0, .slice none 0 0, .int .i64 1, .string { data := #[49] }, .slice none 0 0, .bool false, .bool false, .slice (some ⟨w.heap.size, 0, none⟩) 1 1, .slice none 0 0] 26)).alloc (.cells #[.int .i64 2, .string { data := #[] }, .slice (some ⟨w.heap.size + 1, 0, none⟩) 2 2, .bool false, .bool false, .slice none 0 0, .slice none 0 0] 26)).alloc (.cells #[.int .i64 2, .string { data := #[] }, .slice (some ⟨w.heap.size + 1, 0, none⟩) 2 2, .bool true, .bool false, .slice none 0 0, .slice none 0 0] 26)) := ⟨_, rfl⟩
  have hZ' : Z = (Z2.alloc (.cells #[.int .i64 2, .string { data := #[] }, .slice (some ⟨w.heap.size + 1, 0, none⟩) 2 2, .bool false, .bool false, .slice none 0 0, .slice none 0 0] 26)).alloc (.cells #[.int .i64 2, .string { data := #[] }, .slice (some ⟨w.heap.size + 1, 0, none⟩) 2 2, .bool true, .bool false, .slice none 0 0, .slice none 0 0] 26) := by rw [hZ, hZ2]
  have b24 : Below Z2.heap.size Z2 Z := by rw [hZ']; exact below2 _ _ _
  have b02 : Below w.heap.size w Z2 := by rw [hZ2]; exact below2 _ _ _
  have HUP := Lib.hid (fun W (hb : Below Z.heap.size Z W) => b02.trans ((b24.trans (hb.mono b24.size)).mono b02.size))
  have HND := Lib.hid (fun br W (hb : Below Z.heap.size Z W) => told_nd w W (by have h := b24.trans (hb.mono b24.size); rw [hZ2] at h; exact h) br)
  have HC := Lib.hid (fun W (hb : Below Z.heap.size Z W) => nd2_cells (w := Z2) (by rw [hZ'] at hb; exact hb))
  rw [s2] at HC
  have HB0 : Hid (Below Z.heap.size Z ((((w.alloc (.cells #[.string { data := #[37, 120] }] 9)).alloc (.cells #[.int .i64 1, .string { data := #[102] }, .slice none 0 0, .bool false, .bool false, .slice none 0 0, .slice none 0 0, .int .i64 1, .string { data := #[49] }, .slice none 0 0, .bool false, .bool false, .slice (some ⟨w.heap.size, 0, none⟩) 1 1, .slice none 0 0] 26)).alloc (.cells #[.int .i64 2, .string { data := #[] }, .slice (some ⟨w.heap.size + 1, 0, none⟩) 2 2, .bool false, .bool false, .slice none 0 0, .slice none 0 0] 26)).alloc (.cells #[.int .i64 2, .string { data := #[] }, .slice (some ⟨w.heap.size + 1, 0, none⟩) 2 2, .bool true, .bool false, .slice none 0 0, .slice none 0 0] 26))) := Lib.hid (by rw [← hZ]; exact Below.refl _ _)
  have LI : Hid (∀ W, Below Z.heap.size Z W → Calls Try.prog 8 #[.agg #[.int .i64 2, .string { data := #[] }, .slice (some ⟨w.heap.size + 1, 0, none⟩) 2 2, .bool false, .bool false, .slice none 0 0, .slice none 0 0]] W fun e w' => StsAre W [⟨#[102]⟩, ⟨#[49]⟩] e w') := Lib.hid fun W hb => by
    have := plits_any (tN false) _ W (HND.out false W hb).1 (tN_ok false) (tN_sz false)
    rw [show lts (tN false) = [⟨#[102]⟩, ⟨#[49]⟩] by simp [tN, tF, tO, lts, ltsL]] at this
    exact this
  have NO : Hid (∀ W, Below Z.heap.size Z W → Calls Try.prog 9 #[.agg #[.int .i64 2, .string { data := #[] }, .slice (some ⟨w.heap.size + 1, 0, none⟩) 2 2, .bool false, .bool false, .slice none 0 0, .slice none 0 0]] W fun e w' => StsAre W [⟨#[37, 120]⟩] e w') := Lib.hid fun W hb => by
    have := pnotes_any (tN false) _ W (HND.out false W hb).1 (tN_ok false) (tN_sz false)
    rw [show nts (tN false) = [⟨#[37, 120]⟩] by simp [tN, tF, tO, nts, ntsL]] at this
    exact this
  have CO : Hid (∀ W, Below Z.heap.size Z W → Calls Try.prog 15 #[.agg #[.int .i64 2, .string { data := #[] }, .slice (some ⟨w.heap.size + 1, 0, none⟩) 2 2, .bool false, .bool false, .slice none 0 0, .slice none 0 0]] W fun e w' => e = .returned (.int .i64 3) ∧ Below W.heap.size W w') := Lib.hid fun W hb => by
    have := ptcount_any (tN false) _ W (HND.out false W hb).1 (tN_ok false)
    rw [show cnt (tN false) = 3 by simp [tN, tF, tO, cnt, cntL]] at this
    exact this
  have FO : Hid (∀ W, Below Z.heap.size Z W → Calls Try.prog 20 #[.agg #[.int .i64 2, .string { data := #[] }, .slice (some ⟨w.heap.size + 1, 0, none⟩) 2 2, .bool false, .bool false, .slice none 0 0, .slice none 0 0]] W fun e w' => e = .returned (.bool true) ∧ Below W.heap.size W w') := Lib.hid fun W hb => by
    have := pforced_any (tN false) _ W (HND.out false W hb).1 (tN_ok false)
    rw [show frc (tN false) = true by simp [tN, tF, tO, frc, frcL]] at this
    exact this
  have FF : Hid (∀ W, Below Z.heap.size Z W → Calls Try.prog 20 #[.agg #[.int .i64 1, .string { data := #[102] }, .slice none 0 0, .bool false, .bool false, .slice none 0 0, .slice none 0 0]] W fun e w' => e = .returned (.bool false) ∧ Below W.heap.size W w') := Lib.hid fun W hb => by
    have := pforced_any tF _ W (HND.out false W hb).2.1 tF_ok
    rw [show frc tF = false by simp [tF, frc, frcL]] at this
    exact this
  have LK : Hid (∀ W, Below Z.heap.size Z W → Calls Try.prog 13 #[.agg #[.int .i64 2, .string { data := #[] }, .slice (some ⟨w.heap.size + 1, 0, none⟩) 2 2, .bool false, .bool false, .slice none 0 0, .slice none 0 0], .agg #[.int .i64 2, .string { data := #[] }, .slice (some ⟨w.heap.size + 1, 0, none⟩) 2 2, .bool true, .bool false, .slice none 0 0, .slice none 0 0]] W fun e w' => e = .returned (.bool true) ∧ Below W.heap.size W w') := Lib.hid fun W hb => by
    have := plike_any (tN false) (tN true) _ _ W (HND.out false W hb).1 (HND.out true W hb).1 (tN_ok false) (tN_ok true)
    rw [show lk false (tN false) (tN true) = true by simp [tN, tF, tO, lk, lkL]] at this
    exact this
  have SM : Hid (∀ W, Below Z.heap.size Z W → Calls Try.prog 11 #[.agg #[.int .i64 2, .string { data := #[] }, .slice (some ⟨w.heap.size + 1, 0, none⟩) 2 2, .bool false, .bool false, .slice none 0 0, .slice none 0 0], .agg #[.int .i64 2, .string { data := #[] }, .slice (some ⟨w.heap.size + 1, 0, none⟩) 2 2, .bool true, .bool false, .slice none 0 0, .slice none 0 0]] W fun e w' => e = .returned (.bool false) ∧ Below W.heap.size W w') := Lib.hid fun W hb => by
    have := psame_any (tN false) (tN true) _ _ W (HND.out false W hb).1 (HND.out true W hb).1 (tN_ok false) (tN_ok true)
    rw [show lk true (tN false) (tN true) = false by simp [tN, tF, tO, lk, lkL]] at this
    exact this
  have HL := Lib.hid (fun W hb => (HND.out false W hb).2.2)
  clear hZ hZ' hZ2 b24 b02 s2 HND
  go_enter Try.func7, Try.ntmps7
  go_wp2_with fail
  refine (LI.out _ HB0.out).mono ?_
  rintro e w1 ⟨v1, rfl, hs1, hb1⟩
  have HB1 : Hid (Below Z.heap.size Z w1) := Lib.hid (HB0.out.trans (hb1.mono HB0.out.size))
  obtain ⟨a1, cap1, rfl, hr1⟩ := txs_st hs1
  obtain ⟨g1, o1, rfl, hg1, hc1⟩ := hr1 (by simp)
  have C1 := Lib.hid (fun W (hb : Below w1.heap.size w1 W) => (hb.cell (p := ⟨g1, o1 + 1, none⟩) hg1).trans (hc1 1 _ rfl))
  obtain ⟨⟨d0, d1, d2, d3, d4, d5, d6⟩, ⟨e0, e1, e2, e3, e4, e5, e6⟩⟩ := HC.out _ HB1.out
  clear hs1 hb1 hr1 hc1
  go_wp2_with fail
  refine (CO.out _ HB1.out).mono ?_
  rintro e w2 ⟨rfl, hb2⟩
  have HB2 : Hid (Below Z.heap.size Z w2) := Lib.hid (HB1.out.trans (hb2.mono HB1.out.size))
  obtain ⟨⟨d0, d1, d2, d3, d4, d5, d6⟩, ⟨e0, e1, e2, e3, e4, e5, e6⟩⟩ := HC.out _ HB2.out
  have c1 := C1.out _ hb2
  clear hb2
  go_wp2_with fail
  refine (NO.out _ HB2.out).mono ?_
  rintro e w3 ⟨v3, rfl, hs3, hb3⟩
  have HB3 : Hid (Below Z.heap.size Z w3) := Lib.hid (HB2.out.trans (hb3.mono HB2.out.size))
  obtain ⟨a3, cap3, rfl, -⟩ := txs_st hs3
  obtain ⟨⟨d0, d1, d2, d3, d4, d5, d6⟩, ⟨e0, e1, e2, e3, e4, e5, e6⟩⟩ := HC.out _ HB3.out
  clear hs3 hb3 c1
  go_wp2_with fail
  refine (FO.out _ HB3.out).mono ?_
  rintro e w4 ⟨rfl, hb4⟩
  have HB4 : Hid (Below Z.heap.size Z w4) := Lib.hid (HB3.out.trans (hb4.mono HB3.out.size))
  obtain ⟨⟨d0, d1, d2, d3, d4, d5, d6⟩, ⟨e0, e1, e2, e3, e4, e5, e6⟩⟩ := HC.out _ HB4.out
  clear hb4
  go_wp2_with fail
  refine (LK.out _ HB4.out).mono ?_
  rintro e w5 ⟨rfl, hb5⟩
  have HB5 : Hid (Below Z.heap.size Z w5) := Lib.hid (HB4.out.trans (hb5.mono HB4.out.size))
  obtain ⟨⟨d0, d1, d2, d3, d4, d5, d6⟩, ⟨e0, e1, e2, e3, e4, e5, e6⟩⟩ := HC.out _ HB5.out
  clear hb5
  go_wp2_with fail
  refine (SM.out _ HB5.out).mono ?_
  rintro e w6 ⟨rfl, hb6⟩
  have HB6 : Hid (Below Z.heap.size Z w6) := Lib.hid (HB5.out.trans (hb6.mono HB5.out.size))
  obtain ⟨⟨d0, d1, d2, d3, d4, d5, d6⟩, ⟨e0, e1, e2, e3, e4, e5, e6⟩⟩ := HC.out _ HB6.out
  obtain ⟨l0, l1, l2, l3, l4, l5, l6⟩ := HL.out _ HB6.out
  clear hb6
  go_wp2_with fail
  refine (FF.out _ HB6.out).mono ?_
  rintro e w7 ⟨rfl, hb7⟩
  have HB7 : Hid (Below w.heap.size w w7) := Lib.hid (HUP.out _ (HB6.out.trans (hb7.mono HB6.out.size)))
  clear hb7
  go_wp2_with fail
  go_ret
  exact ⟨rfl, HB7.out⟩
end Go.Proofs.Ytkdaombcbcegfaa
