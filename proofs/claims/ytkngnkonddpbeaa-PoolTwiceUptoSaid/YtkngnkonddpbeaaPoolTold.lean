/-
  What the statements of layer 11 ask of one pool each time: it holds.
-/
import Derived.Test.YtkngnkonddpbeaaPoolDefs
import Derived.Deep.QuietTactic
import Derived.Deep.RegionHeld3
import Derived.Deep.CutRange
namespace Go.Proofs.Ytkngnkonddpbeaa
open Go.RowKit Go.PlainAid

def lF : Nd := .mk 1 ⟨#[102]⟩ [] false false [] []
def lA : Nd := .mk 1 ⟨#[97]⟩ [] false false [] []
def lC : Nd := .mk 2 ⟨#[]⟩ [lF, lA, lA] false false [] []
theorem lk_FF : lk false lF lF = true := lk_refl' _ _
theorem lk_AA : lk false lA lA = true := lk_refl' _ _
theorem lk_CC : lk false lC lC = true := lk_refl' _ _
theorem lk_FA : lk false lF lA = false := by simp [lF, lA, lk, ba_list]
theorem lk_FC : lk false lF lC = false := by simp [lF, lC, lk]
theorem lk_AC : lk false lA lC = false := by simp [lA, lC, lk]
theorem pad_F (xs : List Nd) : pad lF xs = if has xs lF then xs else xs ++ [lF] := pad_eq lF xs
theorem pad_A (xs : List Nd) : pad lA xs = if has xs lA then xs else xs ++ [lA] := pad_eq lA xs
theorem kids_C (xs : List Nd) : padL (kds' lC) xs = pad lA (pad lA (pad lF xs)) := by simp only [lC, kds', padL]
theorem kids_lC : padL (kds' lC) [] = [lF, lA] := by rw [kids_C, pad_F, pad_A, pad_A]; simp [has, lk_FA, lk_AA]
theorem pad_lC : pad lC [] = [lF, lA, lC] := by rw [pad_eq, kids_lC]; simp [has, lk_FC, lk_AC]
theorem pidx_lC : pidx lC [] = 3 := by unfold pidx; rw [kids_lC]; simp [List.findIdx_cons, lk_FC, lk_AC]
theorem pad_lA : pad lA [lF, lA, lC] = [lF, lA, lC] := by rw [pad_A]; simp [has, lk_AA]
theorem pidx_lA : pidx lA [lF, lA, lC] = 2 := by
  unfold pidx
  rw [show padL (kds' lA) [lF, lA, lC] = [lF, lA, lC] by simp only [lA, kds', padL]]
  simp [List.findIdx_cons, lk_FA, lk_AA]
theorem lA_sz : Szt lA := szt_mk (by show (Lit.int .i64 1).wf = true; decide) (by show (1 : Nat) ≤ _; omega) (fun x hx => by simp at hx) (fun x hx => by simp at hx) (fun x hx => by simp at hx)
theorem lF_sz : Szt lF := szt_mk (by show (Lit.int .i64 1).wf = true; decide) (by show (1 : Nat) ≤ _; omega) (fun x hx => by simp at hx) (fun x hx => by simp at hx) (fun x hx => by simp at hx)
theorem lA_ok : OkP lA := ⟨by simp [lA, cnt, cntL], by simp [lA, smk, smkL], lA_sz⟩
theorem lF_ok : OkP lF := ⟨by simp [lF, cnt, cntL], by simp [lF, smk, smkL], lF_sz⟩
theorem lC_ok : OkP lC := ⟨by simp [lC, lF, lA, cnt, cntL], by simp [lC, lF, lA, smk, smkL], szt_mk (by show (Lit.int .i64 _).wf = true; decide) (by show (0 : Nat) ≤ _; omega) (fun x hx => by simp at hx) (fun x hx => by simp at hx) (fun x hx => by simp only [List.mem_cons, List.not_mem_nil, or_false] at hx; rcases hx with rfl | rfl | rfl <;> first | exact lF_sz | exact lA_sz)⟩
theorem lit_in (W : World) (P : Nat → Prop) (t : ByteArray) : NdIn W P [.int .i64 1, .string t, .slice none 0 0, .bool false, .bool false, .slice none 0 0, .slice none 0 0] (.mk 1 t [] false false [] []) :=
  NdIn.of_row 1 t false false ⟨none, 0, rfl, fun h => absurd h (by simp)⟩ ⟨none, 0, rfl, fun h => absurd h (by simp)⟩ (RowIn.nil _ _)
def cells21 : Array Value := #[.int .i64 1, .string ⟨#[102]⟩, .slice none 0 0, .bool false, .bool false, .slice none 0 0, .slice none 0 0, .int .i64 1, .string ⟨#[97]⟩, .slice none 0 0, .bool false, .bool false, .slice none 0 0, .slice none 0 0, .int .i64 1, .string ⟨#[97]⟩, .slice none 0 0, .bool false, .bool false, .slice none 0 0, .slice none 0 0]
theorem lC_in (W : World) : NdIn (W.alloc (.cells cells21 32)) (fun k => k = W.heap.size) [.int .i64 2, .string ⟨#[]⟩, .slice (some ⟨W.heap.size, 0, none⟩) 3 3, .bool false, .bool false, .slice none 0 0, .slice none 0 0] lC := by
  refine NdIn.of_row 2 ⟨#[]⟩ false false ⟨none, 0, rfl, fun h => absurd h (by simp)⟩ ⟨none, 0, rfl, fun h => absurd h (by simp)⟩ ?_
  have h := OwnN.made (W := W) (P := fun k => k = W.heap.size) (css := [[.int .i64 1, .string ⟨#[102]⟩, .slice none 0 0, .bool false, .bool false, .slice none 0 0, .slice none 0 0], [.int .i64 1, .string ⟨#[97]⟩, .slice none 0 0, .bool false, .bool false, .slice none 0 0, .slice none 0 0], [.int .i64 1, .string ⟨#[97]⟩, .slice none 0 0, .bool false, .bool false, .slice none 0 0, .slice none 0 0]]) (T := [lF, lA, lA]) rfl (by
    intro i c y h1 h2
    match i with
    | 0 => simp at h1 h2; subst h1 h2; exact lit_in _ _ _
    | 1 => simp at h1 h2; subst h1 h2; exact lit_in _ _ _
    | 2 => simp at h1 h2; subst h1 h2; exact lit_in _ _ _
    | n + 3 => simp at h1) cells21 rfl rfl (by show 3 ≤ maxLen; decide) _ rfl
  exact h.row
theorem psz_3 : psz [lF, lA, lC] 3 = 4 := by rfl
theorem psz_9 : psz [lF, lA, lC] 9 = 0 := by rfl
set_option maxRecDepth 100000 in
set_option maxHeartbeats 4000000 in
theorem told11_any {PA : World → (Nat → Prop) → (Nat → Prop) → Value → List Nd → Prop} (I : PoolI PA) (w : World) :
    Calls Try.prog 7 #[] w fun e w' => e = .returned (.bool true) ∧ Below w.heap.size w w' := by
  have HI := Lib.hid I
  clear I
  go_enter Try.func7, Try.ntmps7
  go_wp2_with fail
  refine (HI.out.new w (fun _ => False)).mono ?_
  rintro e w1 ⟨g, F, rfl, h1, h2, h3⟩
  have HP := Lib.hid h1
  have HF := Lib.hid h2
  have HB := Lib.hid h3
  clear h1 h2 h3
  go_wp2_with fail
  obtain ⟨Z, hZ⟩ : ∃ Z, Z = (w1.alloc (.cells #[.int .i64 1, .string ⟨#[102]⟩, .slice none 0 0, .bool false, .bool false, .slice none 0 0, .slice none 0 0] 32)).alloc (.cells #[.int .i64 1, .string ⟨#[97]⟩, .slice none 0 0, .bool false, .bool false, .slice none 0 0, .slice none 0 0] 32) := ⟨_, rfl⟩
  have hZs : Z.heap.size = w1.heap.size + 2 := by rw [hZ]; simp
  have hbZ : Below w1.heap.size w1 Z := by rw [hZ]; exact below2 _ _ _
  have hA : Z.heap[w1.heap.size + 1]? = some (.cells #[.int .i64 1, .string ⟨#[97]⟩, .slice none 0 0, .bool false, .bool false, .slice none 0 0, .slice none 0 0] 32) := by
    rw [hZ]
    show ((w1.heap.push _).push _)[w1.heap.size + 1]? = _
    rw [Array.getElem?_push, if_pos (by simp)]
  have hFl : ∀ k, F k → k < w1.heap.size := HI.out.lt HP.out
  have hP2 : PA (Z.alloc (.cells cells21 32)) (fun k => k = Z.heap.size) F (.pointer (some ⟨g, 0, none⟩)) [] := HI.out.more (HI.out.keep HP.out ⟨by have := (below1 Z (.cells cells21 32)).size; omega, fun k hk hl => ((below1 Z _).block k (by omega)).trans (hbZ.block k hl)⟩) (fun k h => h.elim)
  have hput := HI.out.put _ _ _ _ [] lC _ hP2 pk_nil (fun y h => by simp at h) (lC_in Z) (fun k hk => ⟨fun hf => by have := hFl k hf; omega, by rw [show k = Z.heap.size from hk]; simp⟩) lC_ok (by simp [lC, lF, lA, cnt, cntL])
  rw [pidx_lC, pad_lC] at hput
  have hbW : Below w.heap.size w (Z.alloc (.cells cells21 32)) := (HB.out.trans (hbZ.mono HB.out.size)).trans ((below1 Z _).mono (by have := HB.out.size; omega))
  have HPUT := Lib.hid hput
  have HCA : Hid (∀ W, Keeps (fun k => ¬ F k) (Z.alloc (.cells cells21 32)) W → W.cell? ⟨w1.heap.size + 1, 0, none⟩ = some (.int .i64 1) ∧ W.cell? ⟨w1.heap.size + 1, 1, none⟩ = some (.string { data := #[97] }) ∧ W.cell? ⟨w1.heap.size + 1, 2, none⟩ = some (.slice none 0 0) ∧ W.cell? ⟨w1.heap.size + 1, 3, none⟩ = some (.bool false) ∧ W.cell? ⟨w1.heap.size + 1, 4, none⟩ = some (.bool false) ∧ W.cell? ⟨w1.heap.size + 1, 5, none⟩ = some (.slice none 0 0) ∧ W.cell? ⟨w1.heap.size + 1, 6, none⟩ = some (.slice none 0 0)) := Lib.hid (fun W hk => by
    have h1 : W.heap[w1.heap.size + 1]? = _ := (hk.2 _ (fun hf => by have := hFl _ hf; omega) (by simp; omega)).trans (((below1 Z _).block _ (by omega)).trans hA)
    refine ⟨?_, ?_, ?_, ?_, ?_, ?_, ?_⟩ <;> rw [cell_of_row W _ _ _ _ _ h1] <;> rfl)
  have HW0 : Hid (∀ W, W = ((w1.alloc (.cells #[.int .i64 1, .string ⟨#[102]⟩, .slice none 0 0, .bool false, .bool false, .slice none 0 0, .slice none 0 0] 32)).alloc (.cells #[.int .i64 1, .string ⟨#[97]⟩, .slice none 0 0, .bool false, .bool false, .slice none 0 0, .slice none 0 0] 32)).alloc (.cells cells21 32) → Calls Try.prog 10 #[.pointer (some ⟨g, 0, none⟩), .agg #[.int .i64 2, .string ⟨#[]⟩, .slice (some ⟨w1.heap.size + 2, 0, none⟩) 3 3, .bool false, .bool false, .slice none 0 0, .slice none 0 0]] W fun e w' => e = .returned (.int .i64 3) ∧ Hid (∃ F' : Nat → Prop, PA w' (fun k => k = Z.heap.size) F' (.pointer (some ⟨g, 0, none⟩)) [lF, lA, lC] ∧ (∀ k, F' k → F k ∨ (Z.alloc (.cells cells21 32)).heap.size ≤ k) ∧ Keeps (fun k => ¬ F k) (Z.alloc (.cells cells21 32)) w' ∧ Below w.heap.size w w')) := Lib.hid (fun W e => by
    rw [e, ← hZ, ← hZs]
    exact hput.mono fun e w' ⟨h1, F', h2, h3, h4, h5⟩ => ⟨h1, Lib.hid ⟨F', h2, h3, h4, hbW.trans (h5 _ HF.out hbW.size)⟩⟩)
  refine (HW0.out _ rfl).mono ?_
  rintro e w2 ⟨rfl, H2⟩
  obtain ⟨F2, q1, q2, q3, q4⟩ := H2.out
  obtain ⟨c0, c1, c2, c3, c4, c5, c6⟩ := HCA.out w2 q3
  have hpk : Pk [lF, lA, lC] := by rw [← pad_lC]; exact pk_pad lC [] pk_nil
  have hoks : ∀ y ∈ [lF, lA, lC], OkP y := by
    intro y hy
    simp only [List.mem_cons, List.not_mem_nil, or_false] at hy
    rcases hy with rfl | rfl | rfl
    · exact lF_ok
    · exact lA_ok
    · exact lC_ok
  have hF2 : ∀ k, F2 k → w.heap.size ≤ k := fun k hk => by
    rcases q2 k hk with h | h
    · exact HF.out k h
    · exact Nat.le_trans hbW.size h
  have hput2 := HI.out.put w2 _ _ _ _ lA _ q1 hpk hoks (lit_in w2 _ ⟨#[97]⟩) (fun k hk => ⟨fun hf => by
    have hk : k = Z.heap.size := hk
    rcases q2 k hf with h | h
    · have := hFl k h; omega
    · simp at h; omega, by rw [show k = Z.heap.size from hk]; have := q3.1; simp at this; omega⟩) lA_ok (by simp [lA, cnt, cntL])
  rw [pidx_lA, pad_lA] at hput2
  have HP2 : Hid (Calls Try.prog 10 #[.pointer (some ⟨g, 0, none⟩), .agg #[.int .i64 1, .string ⟨#[97]⟩, .slice none 0 0, .bool false, .bool false, .slice none 0 0, .slice none 0 0]] w2 fun e w' => e = .returned (.int .i64 2) ∧ Hid (∃ F' : Nat → Prop, PA w' (fun k => k = Z.heap.size) F' (.pointer (some ⟨g, 0, none⟩)) [lF, lA, lC] ∧ Below w.heap.size w w')) := Lib.hid (hput2.mono fun e w' ⟨h1, F', h2, h3, h4, h5⟩ => ⟨h1, Lib.hid ⟨F', h2, q4.trans (h5 _ hF2 q4.size)⟩⟩)
  clear hput hput2 hpk hoks hF2 q1 q2 q3 q4 hbW hP2 hFl hA hbZ HW0 HCA HPUT
  go_wp2_with fail
  refine HP2.out.mono ?_
  rintro e w3 ⟨rfl, H3⟩
  obtain ⟨F3, r1, r2⟩ := H3.out
  have HL := Lib.hid (HI.out.len w3 _ _ _ _ r1)
  have R1 := Lib.hid r1
  have R2 := Lib.hid r2
  clear r1 r2
  go_wp2_with fail
  refine HL.out.mono ?_
  rintro e w4 ⟨rfl, hb4⟩
  have R4 := Lib.hid (HI.out.keep R1.out ⟨hb4.size, fun k _ hl => hb4.block k hl⟩)
  have B4 := Lib.hid (R2.out.trans (hb4.mono R2.out.size))
  have HS3 := Lib.hid (HI.out.size w4 _ _ _ _ 3 R4.out)
  rw [psz_3] at HS3
  clear hb4
  go_wp2_with fail
  refine HS3.out.mono ?_
  rintro e w5 ⟨rfl, hb5⟩
  have R5 := Lib.hid (HI.out.keep R4.out ⟨hb5.size, fun k _ hl => hb5.block k hl⟩)
  have B5 := Lib.hid (B4.out.trans (hb5.mono B4.out.size))
  have HS9 := Lib.hid (HI.out.size w5 _ _ _ _ 9 R5.out)
  rw [psz_9] at HS9
  clear hb5
  go_wp2_with fail
  refine HS9.out.mono ?_
  rintro e w6 ⟨rfl, hb6⟩
  have B6 := Lib.hid (B5.out.trans (hb6.mono B5.out.size))
  clear hb6
  go_wp2_with fail
  go_ret
  exact ⟨rfl, B6.out⟩
end Go.Proofs.Ytkngnkonddpbeaa
