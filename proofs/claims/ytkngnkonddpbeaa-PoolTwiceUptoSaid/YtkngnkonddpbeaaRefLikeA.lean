/-
  THE DOCUMENT's like: what differs at the top, by what no call tells.
-/
import Derived.Test.YtkngnkonddpbeaaRefTreeB
namespace Go.Proofs.Ytkngnkonddpbeaa
open Go.RowKit Go.PlainAid

/-- Two nodes' cells, behind one another. -/
theorem nd2_cells {w W : World} {k : Int} {t : ByteArray} {lv nv tv : Value} {br bl : Bool} {k2 : Int} {t2 : ByteArray} {lv2 nv2 tv2 : Value} {br2 bl2 : Bool}
    (hb : Below ((w.alloc (.cells #[.int .i64 k, .string t, lv, .bool br, .bool bl, nv, tv] 32)).alloc (.cells #[.int .i64 k2, .string t2, lv2, .bool br2, .bool bl2, nv2, tv2] 32)).heap.size ((w.alloc (.cells #[.int .i64 k, .string t, lv, .bool br, .bool bl, nv, tv] 32)).alloc (.cells #[.int .i64 k2, .string t2, lv2, .bool br2, .bool bl2, nv2, tv2] 32)) W) :
    (W.cell? ⟨w.heap.size, 0, none⟩ = some (.int .i64 k) ∧ W.cell? ⟨w.heap.size, 1, none⟩ = some (.string t) ∧ W.cell? ⟨w.heap.size, 2, none⟩ = some lv ∧ W.cell? ⟨w.heap.size, 3, none⟩ = some (.bool br) ∧ W.cell? ⟨w.heap.size, 4, none⟩ = some (.bool bl) ∧ W.cell? ⟨w.heap.size, 5, none⟩ = some nv ∧ W.cell? ⟨w.heap.size, 6, none⟩ = some tv) ∧
    (W.cell? ⟨w.heap.size + 1, 0, none⟩ = some (.int .i64 k2) ∧ W.cell? ⟨w.heap.size + 1, 1, none⟩ = some (.string t2) ∧ W.cell? ⟨w.heap.size + 1, 2, none⟩ = some lv2 ∧ W.cell? ⟨w.heap.size + 1, 3, none⟩ = some (.bool br2) ∧ W.cell? ⟨w.heap.size + 1, 4, none⟩ = some (.bool bl2) ∧ W.cell? ⟨w.heap.size + 1, 5, none⟩ = some nv2 ∧ W.cell? ⟨w.heap.size + 1, 6, none⟩ = some tv2) := by
  refine ⟨nd_cells ((below1 _ _).trans (hb.mono (by simp))), ?_⟩
  have := nd_cells (w := w.alloc (.cells #[.int .i64 k, .string t, lv, .bool br, .bool bl, nv, tv] 32)) hb
  rw [show (w.alloc (.cells #[.int .i64 k, .string t, lv, .bool br, .bool bl, nv, tv] 32)).heap.size = w.heap.size + 1 by simp] at this
  exact this
mutual
/-- No node has more than so many comments, or texts that are longer than can be. -/
def sml : Nd → Prop
  | .mk _ _ l _ _ no ta => no.length ≤ 1000 ∧ ta.length ≤ 1000 ∧ smlL l
def smlL : List Nd → Prop
  | [] => True
  | x :: t => sml x ∧ smlL t
end
theorem sml_at : ∀ {l : List Nd} {i : Nat} {x : Nd}, smlL l → l[i]? = some x → sml x
  | [], _, _, _, h => by simp at h
  | y :: t, 0, x, hs, h => by
    simp only [List.getElem?_cons_zero, Option.some.injEq] at h
    subst h
    simp only [smlL] at hs
    exact hs.1
  | y :: t, i + 1, x, hs, h => by
    simp only [List.getElem?_cons_succ] at h
    simp only [smlL] at hs
    exact sml_at hs.2 h
set_option maxRecDepth 100000 in
set_option maxHeartbeats 4000000 in
theorem rlike_d1 (all : Bool) (k : Int) (t : ByteArray) (a : Option Addr) (N cap : Nat) (br bl : Bool) (nv tv : Value) (k2 : Int) (t2 : ByteArray) (a2 : Option Addr) (N2 cap2 : Nat) (br2 bl2 : Bool) (nv2 tv2 : Value) (w : World)
    (h : (k == k2 && t.toList == t2.toList && bl == bl2 && (!all || br == br2)) = false) :
    Calls Try.prog 17 #[.agg #[.int .i64 k, .string t, .slice a N cap, .bool br, .bool bl, nv, tv], .agg #[.int .i64 k2, .string t2, .slice a2 N2 cap2, .bool br2, .bool bl2, nv2, tv2], .bool all] w fun e w' => e = .returned (.bool false) ∧ Below w.heap.size w w' := by
  obtain ⟨Z, hZ⟩ : ∃ Z, Z = (w.alloc (.cells #[.int .i64 k, .string t, .slice a N cap, .bool br, .bool bl, nv, tv] 32)).alloc (.cells #[.int .i64 k2, .string t2, .slice a2 N2 cap2, .bool br2, .bool bl2, nv2, tv2] 32) := ⟨_, rfl⟩
  have hbW : Below w.heap.size w Z := by rw [hZ]; exact below2 _ _ _
  have HB0 : Hid (Below Z.heap.size Z ((w.alloc (.cells #[.int .i64 k, .string t, .slice a N cap, .bool br, .bool bl, nv, tv] 32)).alloc (.cells #[.int .i64 k2, .string t2, .slice a2 N2 cap2, .bool br2, .bool bl2, nv2, tv2] 32))) := Lib.hid (by rw [← hZ]; exact Below.refl _ _)
  have HC := Lib.hid (fun W (hb : Below Z.heap.size Z W) => nd2_cells (by rw [hZ] at hb; exact hb))
  have UP := Lib.hid (fun W (h : Below Z.heap.size Z W) => hbW.trans (h.mono hbW.size))
  clear hZ hbW
  obtain ⟨⟨p0, p1, p2, p3, p4, p5, p6⟩, ⟨q0, q1, q2, q3, q4, q5, q6⟩⟩ := HC.out _ HB0.out
  cases hk : (k == k2)
  · have g : (k != k2) = true := by simp only [bne, hk, Bool.not_false]
    go_enter Try.func17, Try.ntmps17
    go_wp2_with fail
    go_ret
    exact ⟨by rfl, UP.out _ HB0.out⟩
  obtain rfl : k = k2 := by simpa using hk
  have gk : (k != k) = false := bne_self_eq_false _
  cases ht : (t.toList == t2.toList)
  · have g : (t.toList != t2.toList) = true := by simp only [bne, ht, Bool.not_false]
    go_enter Try.func17, Try.ntmps17
    go_wp2_with fail
    go_ret
    exact ⟨by rfl, UP.out _ HB0.out⟩
  obtain rfl : t = t2 := ba_eq ht
  have gt : (t.toList != t.toList) = false := bne_self_eq_false _
  cases hbl : (bl == bl2)
  · have g : (bl != bl2) = true := by simp only [bne, hbl, Bool.not_false]
    go_enter Try.func17, Try.ntmps17
    go_wp2_with fail
    go_ret
    exact ⟨by rfl, UP.out _ HB0.out⟩
  obtain rfl : bl = bl2 := by simpa using hbl
  have gb : (bl != bl) = false := bne_self_eq_false _
  have hall : all = true := by cases all <;> simp_all
  have hbr : (br == br2) = false := by cases all <;> simp_all
  have g : (br != br2) = true := by simp only [bne, hbr, Bool.not_false]
  subst hall
  clear h hk ht hbl
  go_enter Try.func17, Try.ntmps17
  go_wp2_with fail
  go_ret
  exact ⟨by rfl, UP.out _ HB0.out⟩
end Go.Proofs.Ytkngnkonddpbeaa
