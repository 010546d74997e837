/-
  The document's own answers on signs: among, Opens, Closes, Longest.
-/
import Derived.Test.YtgkilffofnjmlaaDoorSignWalks
namespace Go.Proofs.YtgkilffofnjmlaaDoor
open Go.RowKit Go.PlainAid

theorem toList_data (s : ByteArray) : s.toList = s.data.toList := ByteArray.toList_eq s
def LsAt (w : World) (g : Nat) (L : List (List UInt8)) : Prop := ∀ k, k < L.length → w.cell? ⟨g, k, none⟩ = some (.string ⟨(L.getD k []).toArray⟩)
theorem ls_at (w : World) (cs : Array Value) (t : TypeId) (L : List (List UInt8)) (h : cs = (L.map fun l => Value.string ⟨l.toArray⟩).toArray) : LsAt (w.alloc (.cells cs t)) w.heap.size L := by
  intro k hk
  rw [World.cell?_alloc_new, h]
  simp [List.getD_eq_getElem?_getD, List.getElem?_eq_getElem hk]
theorem has_yes {L : List (List UInt8)} {x : List UInt8} {k : Nat} (hk : k < L.length) (h : L.getD k [] = x) : L.contains x = true := by
  rw [List.contains_iff_mem, ← h, List.getD_eq_getElem?_getD, List.getElem?_eq_getElem hk]
  exact List.getElem_mem hk
theorem has_no {L : List (List UInt8)} {x : List UInt8} (h : ∀ j, j < L.length → L.getD j [] ≠ x) : L.contains x = false := by
  rw [← Bool.not_eq_true, List.contains_iff_mem]
  intro hm
  obtain ⟨j, hj, hx⟩ := List.getElem_of_mem hm
  exact h j hj (by rw [List.getD_eq_getElem?_getD, List.getElem?_eq_getElem hj]; exact hx)
set_option maxRecDepth 100000 in
theorem among_any (g m : Nat) (L : List (List UInt8)) (hm : L.length = m) (hm1 : m ≤ 1000) (s : ByteArray) (w : World) (hc : LsAt w g L) :
    Calls Tryd.prog 15 #[.slice (some ⟨g, 0, none⟩) m m, .string s] w fun e w' => e = .returned (.bool (L.contains s.data.toList)) ∧ w = w' := by
  obtain ⟨b, hb⟩ : ∃ b, b = L.contains s.data.toList := ⟨_, rfl⟩
  rw [← hb]
  have HB := Lib.hid hb
  have HC := Lib.hid hc
  have HM := Lib.hid hm
  clear hb hc hm
  go_enter Tryd.func15, Tryd.ntmps15
  go_wp2_with fail
  go_loopg [5] m (fun gn i wr => ∃ k : Nat, gn = m - k ∧ k ≤ m ∧ i = .int .i64 k ∧ Hid (∀ j, j < k → L.getD j [] ≠ s.data.toList) ∧ wr = w)
  case atStart => exact ⟨0, rfl, Nat.zero_le _, rfl, Lib.hid (fun j hj => absurd hj (Nat.not_lt_zero _)), rfl⟩
  case round =>
    obtain ⟨k, hgn, hk, rfl, HK, rfl⟩ := hrel
    by_cases hlt : k < m
    · have hcell := HC.out k (by rw [HM.out]; exact hlt)
      have HX : Hid (((⟨(L.getD k []).toArray⟩ : ByteArray).toList == s.toList) = (L.getD k [] == s.data.toList)) := by
        rw [ByteArray.toList_eq, ByteArray.toList_eq]
        exact Lib.hid rfl
      obtain ⟨x, hx⟩ : ∃ x : ByteArray, x = ⟨(L.getD k []).toArray⟩ := ⟨_, rfl⟩
      rw [← hx] at hcell HX
      clear hx
      cases hv : (x.toList == s.toList)
      · have HF : Hid (∀ j, j < k + 1 → L.getD j [] ≠ s.data.toList) := Lib.hid fun j hj => by
          by_cases hjk : j < k
          · exact HK.out j hjk
          · obtain rfl : j = k := by omega
            have := HX.out
            rw [hv] at this
            exact ne_of_beq_false this.symm
        go_wp2_with fail
        go_roundg (m - (k + 1))
        case measure => omega
        case rel => exact ⟨k + 1, rfl, hlt, by go_num, HF, rfl⟩
      · have HF : Hid (true = b) := Lib.hid (by
          have := HX.out
          rw [hv] at this
          rw [HB.out]
          exact (has_yes (by rw [HM.out]; exact hlt) (eq_of_beq this.symm)).symm)
        go_wp2_with fail
        go_ret
        exact ⟨ret_bool HF.out, rfl⟩
    · have HF : Hid (false = b) := Lib.hid (by
        rw [HB.out]
        exact (has_no fun j hj => HK.out j (by rw [HM.out] at hj; omega)).symm)
      go_wp2_with fail
      go_ret
      exact ⟨ret_bool HF.out, rfl⟩

def oq : List (List UInt8) := [[40], [123], [91], [60, 60]]
def ow : List (List UInt8) := [[98, 101, 103, 105, 110], [99, 97, 115, 101], [105, 102], [114, 101, 99, 101, 105, 118, 101]]
def cq : List (List UInt8) := [[41], [125], [93], [62, 62]]
theorem four (a b c d x : List UInt8) : [a, b, c, d].contains x = (x == a || x == b || x == c || x == d) := by
  simp [List.contains, List.elem]
  cases (x == a) <;> cases (x == b) <;> cases (x == c) <;> cases (x == d) <;> rfl
theorem oq_is (x : List UInt8) : oq.contains x = opq x := four _ _ _ _ x
theorem ow_is (x : List UInt8) : ow.contains x = opw x := four _ _ _ _ x
theorem cq_is (x : List UInt8) : cq.contains x = clq x := four _ _ _ _ x
theorem ls_at' (w : World) (cs : Array Value) (t : TypeId) (L : List (List UInt8)) (n : Nat) (hn : w.heap.size = n) (h : cs = (L.map fun l => Value.string ⟨l.toArray⟩).toArray) : LsAt (w.alloc (.cells cs t)) n L := by
  rw [← hn]; exact ls_at w cs t L h
theorem below2 (w : World) (o p : Obj) : Below w.heap.size w ((w.alloc o).alloc p) := ((Below.refl _ _).alloc (Nat.le_refl _) _).alloc (by simp) _
theorem below1 (w : World) (o : Obj) : Below w.heap.size w (w.alloc o) := (Below.refl _ _).alloc (Nat.le_refl _) _
set_option maxRecDepth 100000 in
theorem ropens_any (k a : Int) (s : ByteArray) (w : World) : Calls Tryd.prog 10 #[.agg #[.int .i64 k, .string s, .int .i64 a]] w fun e w' => e = .returned (.bool (ops k s)) ∧ Below w.heap.size w w' := by
  by_cases h9 : k = 9
  · have HA : Hid (∀ W, LsAt W (w.heap.size + 1) oq → Calls Tryd.prog 15 #[.slice (some ⟨w.heap.size + 1, 0, none⟩) 4 4, .string s] W fun e w' => e = .returned (.bool (ops k s)) ∧ W = w') := Lib.hid fun W h => by
      have := among_any (w.heap.size + 1) 4 oq rfl (by omega) s W h
      rw [oq_is] at this
      unfold ops; rw [if_pos h9]
      exact this
    obtain ⟨v, hv⟩ : ∃ v, v = ops k s := ⟨_, rfl⟩
    rw [← hv] at HA ⊢
    clear hv
    subst h9
    go_enter Tryd.func10, Tryd.ntmps10
    go_wp2_with fail
    refine (HA.out _ (ls_at' _ _ _ _ _ (by simp) rfl)).mono ?_
    rintro e w' ⟨rfl, rfl⟩
    cases v
    · go_wp2_with fail
      go_ret
      exact ⟨rfl, below2 _ _ _⟩
    · go_wp2_with fail
      go_ret
      exact ⟨rfl, below2 _ _ _⟩
  · by_cases h8 : k = 8
    · have HA : Hid (∀ W, LsAt W (w.heap.size + 1) ow → Calls Tryd.prog 15 #[.slice (some ⟨w.heap.size + 1, 0, none⟩) 4 4, .string s] W fun e w' => e = .returned (.bool (ops k s)) ∧ W = w') := Lib.hid fun W h => by
        have := among_any (w.heap.size + 1) 4 ow rfl (by omega) s W h
        rw [ow_is] at this
        unfold ops; rw [if_neg h9, if_pos h8]
        exact this
      obtain ⟨v, hv⟩ : ∃ v, v = ops k s := ⟨_, rfl⟩
      rw [← hv] at HA ⊢
      clear hv h9
      subst h8
      go_enter Tryd.func10, Tryd.ntmps10
      go_wp2_with fail
      refine (HA.out _ (ls_at' _ _ _ _ _ (by simp) rfl)).mono ?_
      rintro e w' ⟨rfl, rfl⟩
      go_wp2_with fail
      go_ret
      exact ⟨rfl, below2 _ _ _⟩
    · have HF : Hid (false = ops k s) := Lib.hid (by unfold ops; rw [if_neg h9, if_neg h8])
      have g9 : (k == 9) = false := beq_false_of_ne h9
      have g8 : (k == 8) = false := beq_false_of_ne h8
      clear h9 h8
      go_enter Tryd.func10, Tryd.ntmps10
      go_wp2_with fail
      go_ret
      exact ⟨ret_bool HF.out, below1 _ _⟩
set_option maxRecDepth 100000 in
theorem rcloses_any (k a : Int) (s : ByteArray) (w : World) : Calls Tryd.prog 12 #[.agg #[.int .i64 k, .string s, .int .i64 a]] w fun e w' => e = .returned (.bool (cls k s)) ∧ Below w.heap.size w w' := by
  by_cases h9 : k = 9
  · have HA : Hid (∀ W, LsAt W (w.heap.size + 1) cq → Calls Tryd.prog 15 #[.slice (some ⟨w.heap.size + 1, 0, none⟩) 4 4, .string s] W fun e w' => e = .returned (.bool (cls k s)) ∧ W = w') := Lib.hid fun W h => by
      have := among_any (w.heap.size + 1) 4 cq rfl (by omega) s W h
      rw [cq_is] at this
      unfold cls; rw [if_pos h9]
      exact this
    obtain ⟨v, hv⟩ : ∃ v, v = cls k s := ⟨_, rfl⟩
    rw [← hv] at HA ⊢
    clear hv
    subst h9
    go_enter Tryd.func12, Tryd.ntmps12
    go_wp2_with fail
    refine (HA.out _ (ls_at' _ _ _ _ _ (by simp) rfl)).mono ?_
    rintro e w' ⟨rfl, rfl⟩
    cases v
    · go_wp2_with fail
      go_ret
      exact ⟨rfl, below2 _ _ _⟩
    · go_wp2_with fail
      go_ret
      exact ⟨rfl, below2 _ _ _⟩
  · by_cases h8 : k = 8
    · have HF : Hid ((s.toList == [101, 110, 100]) = cls k s) := Lib.hid (by unfold cls clw; rw [if_neg h9, if_pos h8, ByteArray.toList_eq])
      subst h8
      go_enter Tryd.func12, Tryd.ntmps12
      go_wp2_with fail
      go_ret
      exact ⟨ret_bool HF.out, below1 _ _⟩
    · have HF : Hid (false = cls k s) := Lib.hid (by unfold cls; rw [if_neg h9, if_neg h8])
      have g9 : (k == 9) = false := beq_false_of_ne h9
      have g8 : (k == 8) = false := beq_false_of_ne h8
      clear h9 h8
      go_enter Tryd.func12, Tryd.ntmps12
      go_wp2_with fail
      go_ret
      exact ⟨ret_bool HF.out, below1 _ _⟩
end Go.Proofs.YtgkilffofnjmlaaDoor
