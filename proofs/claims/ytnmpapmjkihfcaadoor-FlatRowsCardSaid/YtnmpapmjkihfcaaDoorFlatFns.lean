/-
  THE PROGRAM's Flat, Width and First: what they answer.
-/
import Derived.Test.YtnmpapmjkihfcaaDoorFlatProg
import Derived.Test.YtnmpapmjkihfcaaDoorDocProg
set_option linter.all false
namespace Go.Proofs.YtnmpapmjkihfcaaDoor
open Go.RowKit Go.PlainAid Go.Shelf

/-- A row of one document that was just made. -/
theorem rowOne {W : World} {g : Nat} {k n : Int} {t : ByteArray} {lv : Value} {x : Dc} {ty : TypeId} {fr : Nat × Nat} {P : Nat → Prop} (hp : P g) (h : W.heap[g]? = some (.cells #[.int .i64 k, .int .i64 n, .string t, lv] ty fr)) (hd : DcIn W P [.int .i64 k, .int .i64 n, .string t, lv] x) :
    DrIn W P (.slice (some ⟨g, 0, none⟩) 1 1) [x] := by
  refine ⟨fun _ => [.int .i64 k, .int .i64 n, .string t, lv], ⟨_, _, rfl, Nat.le_refl _, by decide, fun _ => ⟨g, 0, rfl, hp, lt_of_block h, fun i hi j u hj => ?_⟩⟩, fun i y hy => ?_⟩
  · obtain rfl : i = 0 := by simpa using hi
    rw [show 0 + 0 * 4 + j = j by omega, cell_of_row W g j _ _ _ h]
    simpa using hj
  · match i, hy with
    | 0, hy => cases hy; exact hd
    | i + 1, hy => simp at hy
theorem four_of0 {W : World} {g : Nat} {a b c d : Value} {ty : TypeId} (h : W.heap[g]? = some (.cells #[a, b, c, d] ty (0, 0))) :
    W.cell? ⟨g, 0, none⟩ = some a ∧ W.cell? ⟨g, 1, none⟩ = some b ∧ W.cell? ⟨g, 2, none⟩ = some c ∧ W.cell? ⟨g, 3, none⟩ = some d :=
  ⟨cell_of_row W g 0 _ _ _ h, cell_of_row W g 1 _ _ _ h, cell_of_row W g 2 _ _ _ h, cell_of_row W g 3 _ _ _ h⟩
theorem lvsL_one (d : Dc) : lvsL [d] = lvs d := by simp [lvsL]
set_option maxRecDepth 100000 in
set_option maxHeartbeats 4000000 in
theorem pfwidth_any (d : Dc) (hd : dcnt d ≤ 90000) (hz : dtz 1048576 d) (c : List Value) (w : World) (h : DcAt w c d) (ht : Tabs w) :
    Calls Tryd.prog 17 #[.agg c.toArray] w fun e w' => e = .returned (.int .i64 (wsum (lvs d) : Int)) ∧ Below w.heap.size w w' := by
  obtain ⟨k, n, t, lv, rfl⟩ : ∃ k n t lv, c = [.int .i64 k, .int .i64 n, .string t, lv] := by
    cases d with
    | mk k n t l => obtain ⟨lv, cs, rfl, -⟩ := h.inv; exact ⟨_, _, _, _, rfl⟩
  obtain ⟨b, hb⟩ : ∃ b, b = w.heap.size + 1 := ⟨_, rfl⟩
  obtain ⟨WE, hWE⟩ : ∃ WE, WE = (((w.alloc (.cells #[.int .i64 k, .int .i64 n, .string t, lv] 26)).alloc (.cells #[.int .i64 0] 3)).alloc (.cells #[.int .i64 k, .int .i64 n, .string t, lv] 26)) := ⟨_, rfl⟩
  have sWE : WE.heap.size = w.heap.size + 3 := by rw [hWE]; simp
  have bWE : Below w.heap.size w WE := by rw [hWE]; exact (((Below.refl _ w).alloc (Nat.le_refl _) _).alloc (by simp) _).alloc (by simp; omega) _
  have box0 : Bx WE b 3 (.int .i64 0) := by
    unfold Bx
    rw [hWE, hb, old_at9 (by simp)]
    exact new_at8 (by simp)
  have hrow : WE.heap[b + 1]? = some (.cells #[.int .i64 k, .int .i64 n, .string t, lv] 26) := by rw [hWE, hb]; exact new_at8 (by simp)
  have hin : DcIn WE (fun g => g < WE.heap.size ∧ g ≠ b) [.int .i64 k, .int .i64 n, .string t, lv] d := (h.keep (keeps_below bWE)).wide (fun g h1 h2 => ⟨h1, by have h2 : g < w.heap.size := h2; omega⟩)
  have hdr := rowOne (P := fun g => g < WE.heap.size ∧ g ≠ b) ⟨by omega, by omega⟩ hrow hin
  have HE := Lib.hid (each_any 42 b WE.heap.size (SfC b) (JW w b wsum) (fun _ _ => False) (lvs d) (wclo_any w b WE.heap.size (lvs d) ht (by omega) (lvs_sz d hz) (by have := lvs_len d; omega)) [d] (by simp only [dcntL]; omega) (lvsL_one d) (some ⟨b + 1, 0, none⟩) 1 1 WE rfl
    ⟨by omega, bWE, 0, box0, fun rest => by rw [List.nil_append, Nat.zero_add]⟩ (fun g => g < WE.heap.size ∧ g ≠ b) hdr (fun g hg => hg))
  have HEQ := Lib.hid hWE
  have HBB := Lib.hid hb
  clear hWE hb sWE bWE box0 hrow hin hdr h ht hz hd
  go_enter Tryd.func17, Tryd.ntmps17
  go_wp2_with fail
  rw [← HBB.out, ← HEQ.out]
  refine HE.out.mono ?_
  rintro e w1 ⟨rfl, hj | ⟨pre, rest, _, hf⟩, ht1⟩
  · obtain ⟨h1, h2, c, h3, h4⟩ := hj
    have e4 : wsum (lvs d) = c := by have := h4 []; rw [List.append_nil] at this; rw [this]; rfl
    have E4 := Lib.hid e4
    have c3 := h3.cell
    have H2 := Lib.hid h2
    clear h1 h2 h4 e4 ht1 h3
    go_wp2_with fail
    go_ret
    exact ⟨by rw [E4.out]; rfl, H2.out⟩
  · exact hf.elim
set_option maxRecDepth 100000 in
set_option maxHeartbeats 4000000 in
theorem pffirst_any (l : List Dc) (hd : dcntL l ≤ 90000) (hz : dtzL 1048576 l) (v : Value) (w : World) (h : DrIn w (fun g => g < w.heap.size) v l) (ht : Tabs w) :
    Calls Tryd.prog 19 #[v] w fun e w' => e = .returned (.int .i64 (fsum (lvsL l) : Int)) ∧ Below w.heap.size w w' := by
  obtain ⟨a, N, cap, rfl⟩ : ∃ a N cap, v = .slice a N cap := by
    obtain ⟨cs, ⟨a, cap, rfl, -⟩, -⟩ := h
    exact ⟨_, _, _, rfl⟩
  obtain ⟨b, hb⟩ : ∃ b, b = w.heap.size := ⟨_, rfl⟩
  obtain ⟨WE, hWE⟩ : ∃ WE, WE = w.alloc (.cells #[.int .i64 0] 3) := ⟨_, rfl⟩
  have sWE : WE.heap.size = w.heap.size + 1 := by rw [hWE]; simp
  have bWE : Below w.heap.size w WE := by rw [hWE]; exact below1 _ _
  have box0 : Bx WE b 3 (.int .i64 0) := by
    unfold Bx
    rw [hWE, hb]
    exact new_at9
  have hdr : DrIn WE (fun g => g < WE.heap.size ∧ g ≠ b) (.slice a N cap) l := (h.keep (keeps_below bWE)).wide (fun g h1 h2 => ⟨h1, by have h2 : g < w.heap.size := h2; omega⟩)
  have HE := Lib.hid (each_any 44 b WE.heap.size (SfC b) (JW w b fsum) (JS w b fsum) (lvsL l) (fclo_any w b WE.heap.size (lvsL l) ht (by omega) (lvsL_sz l hz) (by have := lvsL_len l; omega)) l (by omega) rfl a N cap WE rfl
    ⟨by omega, bWE, 0, box0, fun rest => by rw [List.nil_append, Nat.zero_add]⟩ (fun g => g < WE.heap.size ∧ g ≠ b) hdr (fun g hg => hg))
  have HEQ := Lib.hid hWE
  have HBB := Lib.hid hb
  clear hWE hb sWE bWE box0 hdr h ht hz hd
  go_enter Tryd.func19, Tryd.ntmps19
  go_wp2_with fail
  rw [← HEQ.out, ← HBB.out]
  refine HE.out.mono ?_
  rintro e w1 ⟨rfl, hj, ht1⟩
  obtain ⟨c, h3, h2, e4⟩ : ∃ c : Nat, Bx w1 b 3 (.int .i64 (c : Int)) ∧ Below w.heap.size w w1 ∧ fsum (lvsL l) = c := by
    rcases hj with ⟨h1, h2, c, h3, h4⟩ | ⟨pre, rest, hp, h2, c, h3, h4⟩
    · exact ⟨c, h3, h2, by have := h4 []; rw [List.append_nil] at this; rw [this]; rfl⟩
    · exact ⟨c, h3, h2, by rw [← hp]; exact h4 rest⟩
  have E4 := Lib.hid e4
  have c3 := h3.cell
  have H2 := Lib.hid h2
  clear h2 e4 ht1 h3 hj
  go_wp2_with fail
  go_ret
  exact ⟨by rw [E4.out]; rfl, H2.out⟩
theorem ret_sb {a b : ByteArray} {c d : Bool} (h : a = b) (h' : c = d) : Ending.returned (.tuple #[.string a, .bool c]) = .returned (.tuple #[.string b, .bool d]) := by rw [h, h']
set_option maxRecDepth 100000 in
set_option maxHeartbeats 4000000 in
theorem pfflat_any (d : Dc) (hd : dcnt d ≤ 90000) (hz : dtz 1048576 d) (c : List Value) (w : World) (h : DcAt w c d) :
    Calls Tryd.prog 15 #[.agg c.toArray] w fun e w' => e = .returned (.tuple #[.string (if dfrc d = true then ⟨#[]⟩ else ctx (lvs d)), .bool (!dfrc d)]) ∧ Below w.heap.size w w' := by
  obtain ⟨k, n, t, lv, rfl⟩ : ∃ k n t lv, c = [.int .i64 k, .int .i64 n, .string t, lv] := by
    cases d with
    | mk k n t l => obtain ⟨lv, cs, rfl, -⟩ := h.inv; exact ⟨_, _, _, _, rfl⟩
  have HF := Lib.hid (pdforced_any d (by omega) _ (w.alloc (.cells #[.int .i64 k, .int .i64 n, .string t, lv] 26)) (h.bel (below1 _ _)))
  obtain ⟨b0, hb0⟩ : ∃ b, b = dfrc d := ⟨_, rfl⟩
  rw [← hb0] at HF ⊢
  have d0 := (four_of0 (new_at9 (W := w) (ob := .cells #[.int .i64 k, .int .i64 n, .string t, lv] 26)))
  obtain ⟨d0, d1, d2, d3⟩ := d0
  have HX := Lib.hid h
  have HD := Lib.hid hd
  have HZ := Lib.hid hz
  clear h hd hz hb0
  go_enter Tryd.func15, Tryd.ntmps15
  go_wp2_with fail
  refine HF.out.mono ?_
  rintro e w1 ⟨rfl, hb1⟩
  have hx1 : w1.heap[w.heap.size]? = some (.cells #[.int .i64 k, .int .i64 n, .string t, lv] 26) := (hb1.block _ (by simp)).trans new_at9
  have HB1 : Hid (Below w.heap.size w w1) := Lib.hid ((below1 _ _).trans (hb1.mono (by simp)))
  have hs1 : w.heap.size < w1.heap.size := lt_of_block hx1
  have HX1 := Lib.hid hx1
  clear hb1 d0 d1 d2 d3 HF hx1
  cases b0
  · obtain ⟨B, hB⟩ : ∃ B, B = w1.heap.size := ⟨_, rfl⟩
    obtain ⟨WE, hWE⟩ : ∃ WE, WE = ((w1.alloc (.cells #[.pointer none, .slice none 0 0] 54)).alloc (.cells #[.int .i64 k, .int .i64 n, .string t, lv] 26)) := ⟨_, rfl⟩
    have sWE : WE.heap.size = w1.heap.size + 2 := by rw [hWE]; simp
    have bWE : Below w1.heap.size w1 WE := by rw [hWE]; exact (below1 _ _).alloc (by simp) _
    have hrow : WE.heap[B + 1]? = some (.cells #[.int .i64 k, .int .i64 n, .string t, lv] 26) := by rw [hWE, hB]; exact new_at8 (by simp)
    have hbb : WE.heap[B]? = some (.cells #[.pointer none, .slice none 0 0] 54) := by rw [hWE, hB, old_at9 (by simp)]; exact new_at9
    have bW : Below w.heap.size w WE := HB1.out.trans (bWE.mono HB1.out.size)
    have hin : DcIn WE (fun g => g < B ∨ g = B + 1) [.int .i64 k, .int .i64 n, .string t, lv] d := (HX.out.keep (keeps_below bW)).wide (fun g h1 h2 => .inl (by have h2 : g < w.heap.size := h2; omega))
    have hdr := rowOne (P := fun g => g < B ∨ g = B + 1) (.inr rfl) hrow hin
    have HE := Lib.hid (each_any 37 B WE.heap.size (SfB B B) (JB w B B) (fun _ _ => False) (lvs d) (bclo_any w B B WE.heap.size (lvs d) (by omega) (lvs_sz d HZ.out) (by have := lvs_len d; have := HD.out; omega)) [d] (by have := HD.out; simp only [dcntL]; omega) (lvsL_one d) (some ⟨B + 1, 0, none⟩) 1 1 WE rfl
      ⟨by omega, bW, by omega, .inl (Lib.BuilderAtF.of ⟨Nat.le_refl _, .slice none 0 0, hbb, World.ownsRow_nil _ _ _ _, by simp [Value.ownBlock]⟩)⟩ (fun g => g < B ∨ g = B + 1) hdr (fun g hg => by
        rcases hg with hg | hg
        · exact ⟨by omega, by omega, .inl hg⟩
        · subst hg
          exact ⟨by omega, by omega, .inr ⟨_, hrow, fun c fz e => by injection e with _ h2 _; exact absurd h2 (by decide)⟩⟩))
    have HEQ := Lib.hid hWE
    have HBB := Lib.hid hB
    have HST := Lib.hid (fun (l : List UInt8) (w : World) hw hB => Any.Builder_String_any_k bl169 blX B B l w hw hB)
    obtain ⟨q0, q1, q2, q3⟩ := four_of0 (((below1 w1 (.cells #[.pointer none, .slice none 0 0] 54)).block _ hs1).trans HX1.out)
    clear hWE hB sWE bWE hrow hbb bW hin hdr hs1
    go_wp2_with fail
    rw [← HBB.out, ← HEQ.out]
    refine HE.out.mono ?_
    rintro e w2 ⟨rfl, hj | ⟨pre, rest, _, hf⟩, ht1⟩
    · obtain ⟨h1, h2, h3, h4⟩ := hj
      have HS := Lib.hid (HST.out _ _ h4 h3)
      have e7 : (⟨(ctx (lvs d)).data.toList.toArray⟩ : ByteArray) = ctx (lvs d) := by simp
      rw [e7] at HS
      have H2 := Lib.hid (⟨h1, h2⟩ : w.heap.size ≤ B ∧ Below w.heap.size w w2)
      clear h1 h2 h3 h4 ht1 e7
      go_wp2_with fail
      refine HS.out.mono ?_
      rintro e w3 ⟨rfl, -, hb3, -⟩
      have HB3 : Hid (Below w.heap.size w w3) := Lib.hid (H2.out.2.trans (hb3.mono H2.out.1))
      clear hb3
      go_wp2_with fail
      go_ret2
      exact ⟨ret_sb (by simp) (by simp), HB3.out⟩
    · exact hf.elim
  · go_wp2_with fail
    go_ret2
    exact ⟨ret_sb (by simp) (by simp), HB1.out⟩
end Go.Proofs.YtnmpapmjkihfcaaDoor
