/-
  The document's own answers on signs.
-/
import Derived.Test.YtaaijenbcfjdlaaSignWalks
import Derived.Test.YtaaijenbcfjdlaaAid
/- The document's own answers on signs: among, Opens, Closes, Longest. -/
namespace Go.Proofs.Ytaaijenbcfjdlaa
open Go.RowKit Go.PlainAid

theorem toList_data (s : ByteArray) : s.toList = s.data.toList := ByteArray.toList_eq s
theorem has_yes {L : List (List UInt8)} {x : List UInt8} {k : Nat} (hk : k < L.length) (h : L.getD k [] = x) : L.contains x = true := by
  rw [List.contains_iff_mem, ← h, List.getD_eq_getElem?_getD, List.getElem?_eq_getElem hk]
  exact List.getElem_mem hk
theorem has_no {L : List (List UInt8)} {x : List UInt8} (h : ∀ j, j < L.length → L.getD j [] ≠ x) : L.contains x = false := by
  rw [← Bool.not_eq_true, List.contains_iff_mem]
  intro hm
  obtain ⟨j, hj, hx⟩ := List.getElem_of_mem hm
  exact h j hj (by rw [List.getD_eq_getElem?_getD, List.getElem?_eq_getElem hj]; exact hx)
def oq : List (List UInt8) := [[40], [123], [91], [60, 60]]
def ow : List (List UInt8) := [[98, 101, 103, 105, 110], [99, 97, 115, 101], [105, 102], [114, 101, 99, 101, 105, 118, 101]]
def cq : List (List UInt8) := [[41], [125], [93], [62, 62]]
theorem four (a b c d x : List UInt8) : [a, b, c, d].contains x = (x == a || x == b || x == c || x == d) := by
  simp [List.contains, List.elem]
  cases (x == a) <;> cases (x == b) <;> cases (x == c) <;> cases (x == d) <;> rfl
theorem oq_is (x : List UInt8) : oq.contains x = opq x := four _ _ _ _ x
theorem ow_is (x : List UInt8) : ow.contains x = opw x := four _ _ _ _ x
theorem cq_is (x : List UInt8) : cq.contains x = clq x := four _ _ _ _ x
end Go.Proofs.Ytaaijenbcfjdlaa
/- The document's own answer on signs: Longest. -/
namespace Go.Proofs.Ytaaijenbcfjdlaa
open Go.RowKit Go.PlainAid

theorem ret_nat' {k : IntKind} {a b : Nat} (h : a = b) : Ending.returned (Value.int k (a : Int)) = Ending.returned (Value.int k (b : Int)) := by rw [h]
theorem prefix_take {g l : List UInt8} : (l.take g.length == g) = g.isPrefixOf l := by
  rw [Bool.eq_iff_iff, beq_iff_eq, List.isPrefixOf_iff_prefix, List.prefix_iff_eq_take]
  exact eq_comm
def SgsAt (w w' : World) : Prop := (∀ k, k < 37 → w'.cell? ⟨w.heap.size, k, none⟩ = some (.string ⟨(sg k).toArray⟩)) ∧ Below w.heap.size w w'
theorem sgs_at (w : World) (cs : Array Value) (t : TypeId) (h : cs = (sgs.map fun l => Value.string ⟨l.toArray⟩).toArray) : SgsAt w (w.alloc (.cells cs t)) := ⟨ls_at w cs t sgs h, below1 _ _⟩
theorem SgsAt.drewN {w w' : World} (h : SgsAt w w') (n : Nat) : SgsAt w (w'.drewN n) := ⟨h.1, h.2.trans ⟨rfl, rfl, rfl, Nat.le_refl _, fun _ _ => rfl⟩⟩
set_option maxRecDepth 100000 in
set_option maxHeartbeats 1000000 in
theorem rlongest_in (s : ByteArray) (at_ : Nat) (hs : s.size ≤ 1048576) (hat : at_ ≤ s.size) (w : World) :
    Calls Try.prog 31 #[.string s, .int .i64 at_] w fun e w' => e = .returned (.int .i64 (lgL (s.data.toList.drop at_))) ∧ Below w.heap.size w w' := by
  obtain ⟨N, hN⟩ : ∃ N, N = lgL (s.data.toList.drop at_) := ⟨_, rfl⟩
  rw [← hN]
  have HN := Lib.hid hN
  clear hN
  have g0 : ¬ (at_ : Int) < 0 := by omega
  have g1 : ¬ (s.size : Int) < (at_ : Int) := by omega
  go_enter Try.func31, Try.ntmps31
  go_wp2_with fail
  go_loopg [6] 37 (fun gn i wr => ∃ k : Nat, gn = 37 - k ∧ k ≤ 37 ∧ i = .int .i64 k ∧ Hid (SgsAt w wr) ∧ Hid (N = lgf (s.data.toList.drop at_) (37 - k)))
  case atStart => exact ⟨0, rfl, by omega, rfl, Lib.hid (sgs_at _ _ _ rfl), HN⟩
  case round =>
    obtain ⟨k, hgn, hk, rfl, HW, HK⟩ := hrel
    by_cases hlt : k < 37
    · have hcell := HW.out.1 k hlt
      have f1 := (sg_facts ⟨k, hlt⟩).1
      have f2 := (sg_facts ⟨k, hlt⟩).2.1
      simp only at f1 f2
      have hstep := lgf_step (s.data.toList.drop at_) k hlt
      obtain ⟨n, hn⟩ : ∃ n, n = (sg k).length := ⟨_, rfl⟩
      rw [← hn] at f1 f2 hstep
      have hpl : (sg k).isPrefixOf (s.data.toList.drop at_) = true → at_ + n ≤ s.size := fun h => by
        have := prefix_len h
        rw [← hn, List.length_drop, Array.length_toList] at this
        have e : s.data.size = s.size := rfl
        omega
      obtain ⟨x, hx⟩ : ∃ x : ByteArray, x = ⟨(sg k).toArray⟩ := ⟨_, rfl⟩
      have hxs : x.size = n := by rw [hx, hn]; rfl
      have hxl : x.toList = sg k := by rw [hx, ByteArray.toList_eq]
      have hsl : (s.extract at_ (at_ + n)).toList = (s.data.toList.drop at_).take n := by
        rw [ByteArray.toList_eq, ByteArray.data_extract, Array.toList_extract, List.extract_eq_take_drop, Nat.add_sub_cancel_left]
      have hpt : ((s.extract at_ (at_ + n)).toList == x.toList) = (sg k).isPrefixOf (s.data.toList.drop at_) := by
        rw [hsl, hxl, hn]
        exact prefix_take
      rw [← hx] at hcell
      have HPT := Lib.hid hpt
      have HPL := Lib.hid hpl
      have HST := Lib.hid hstep
      clear hx hn hxl hsl hpt hpl hstep
      by_cases hle : at_ + n ≤ s.size
      · have hpt := HPT.out
        have q1 : (n : Int) ≤ (s.size : Int) - (at_ : Int) := by omega
        have q2 : (at_ : Int) + (n : Int) ≤ (s.size : Int) := by omega
        cases hv : ((s.extract at_ (at_ + n)).toList == x.toList)
        · have HF : Hid (N = lgf (s.data.toList.drop at_) (37 - (k + 1))) := Lib.hid (by rw [HK.out, HST.out, ← hpt, hv, if_neg Bool.false_ne_true])
          clear hpt
          go_wp2_with fail
          go_quiet (fail)
          go_wp2_with fail
          go_roundg (37 - (k + 1))
          case measure => omega
          case rel => exact ⟨k + 1, rfl, hlt, by go_num, Lib.hid (HW.out.drewN _), HF⟩
        · have HF : Hid (n = N) := Lib.hid (by rw [HK.out, HST.out, ← hpt, hv, if_pos rfl])
          clear hpt
          go_wp2_with fail
          go_quiet (fail)
          go_wp2_with fail
          go_ret
          exact ⟨ret_nat' HF.out, (HW.out.drewN _).2⟩
      · have HF : Hid (N = lgf (s.data.toList.drop at_) (37 - (k + 1))) := Lib.hid (by rw [HK.out, HST.out, if_neg (fun h => hle (HPL.out h))])
        have q1 : decide ((n : Int) ≤ (s.size : Int) - (at_ : Int)) = false := by simp; omega
        clear hle
        go_wp2_with fail
        go_quiet (fail)
        go_wp2_with fail
        go_roundg (37 - (k + 1))
        case measure => omega
        case rel => exact ⟨k + 1, rfl, hlt, by go_num, Lib.hid (HW.out.drewN _), HF⟩
    · obtain rfl : k = 37 := by omega
      have HF : Hid (0 = N) := Lib.hid (by rw [HK.out]; rfl)
      go_wp2_with fail
      go_ret
      exact ⟨ret_nat' HF.out, HW.out.2⟩
set_option maxRecDepth 100000 in
/-- The document's own Longest. -/
theorem rlongest_any (s : ByteArray) (a : Int) (hs : s.size ≤ 1048576) (w : World) :
    Calls Try.prog 31 #[.string s, .int .i64 a] w fun e w' => e = .returned (.int .i64 (lg s a)) ∧ Below w.heap.size w w' := by
  by_cases h0 : a < 0
  · rw [lg_out s a (.inl h0)]
    go_enter Try.func31, Try.ntmps31
    go_wp2_with fail
    go_ret
    exact ⟨rfl, below1 _ _⟩
  · by_cases h1 : (s.size : Int) < a
    · rw [lg_out s a (.inr (by omega))]
      go_enter Try.func31, Try.ntmps31
      go_wp2_with fail
      go_ret
      exact ⟨rfl, below1 _ _⟩
    · obtain ⟨k, rfl⟩ : ∃ k : Nat, a = (k : Int) := ⟨a.toNat, by omega⟩
      have h := rlongest_in s k hs (by omega) w
      by_cases h2 : k < s.size
      · rw [lg_at s k h2]; exact h
      · rw [lg_out s k (.inr (by omega))]
        rw [List.drop_of_length_le (by rw [Array.length_toList]; show s.size ≤ k; omega), lgL_nil] at h
        exact h
end Go.Proofs.Ytaaijenbcfjdlaa
