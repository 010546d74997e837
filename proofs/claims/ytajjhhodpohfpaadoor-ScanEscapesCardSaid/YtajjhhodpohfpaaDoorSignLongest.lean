/-
  The contract of Longest: the walk.
-/
import Derived.Test.YtajjhhodpohfpaaDoorSignLong
namespace Go.Proofs.YtajjhhodpohfpaaDoor
open Go.RowKit Go.PlainAid

theorem ret_nat {k : IntKind} {a b : Nat} (h : a = b) : Ending.returned (Value.int k (a : Int)) = Ending.returned (Value.int k (b : Int)) := by rw [h]
theorem infoMarks : (Tryd.prog.info? 58).map (·.size) = some 111 := by kernel_rfl
theorem infoMark : (Tryd.prog.info? 57).map (·.size) = some 3 := by kernel_rfl
theorem infoByte : (Tryd.prog.info? 5).map (·.size) = some 1 := by kernel_rfl
theorem eq3 (p0 p1 p2 a b c : Int) (w : World) : (Op.equalIn 10000 57 (.agg #[.int .u8 p0, .int .u8 p1, .int .u8 p2]) (.agg #[.int .u8 a, .int .u8 b, .int .u8 c])).run Tryd.prog w = .ok (p0 == a && p1 == b && p2 == c) w := by
  have u3 := Tryd.underlying5
  have a3 := Tryd.isAgg5
  have z3 := Tryd.sizeOf5
  rw [show (10000 : Nat) = 9999 + 1 from rfl, Op.equalIn]
  simp only [Sem.run_bind, run_underlying Tryd.underlying57, Result.andThen_ok]
  simp only [Std.Legacy.Range.forIn_eq_forIn_range', Std.Legacy.Range.size, Nat.sub_zero, Nat.add_sub_cancel, Nat.div_one, List.range'_succ, List.range'_zero, List.forIn_cons, List.forIn_nil]
  go_simp
  by_cases h1 : p0 = a <;> by_cases h2 : p1 = b <;> by_cases h3 : p2 = c <;> simp [h1, h2, h3]
set_option maxRecDepth 100000 in
theorem longest_in (s : ByteArray) (at_ : Nat) (hat : at_ < s.size) (w : World) (ht : TabM w) :
    Calls Tryd.prog 42 #[.string s, .int .i64 at_] w fun e w' => e = .returned (.int .i64 (lgL (s.data.toList.drop at_))) ∧ Below w.heap.size w w' := by
  obtain ⟨N, hN⟩ : ∃ N, N = lgL (s.data.toList.drop at_) := ⟨_, rfl⟩
  rw [← hN]
  have HN := Lib.hid hN
  clear hN
  obtain ⟨cs, T, fr, hT, hcs, hix⟩ := ht
  have HT := Lib.hid hT
  have HX := Lib.hid hix
  have HC := Lib.hid hcs
  clear hT hix hcs
  have g0 : ¬ (at_ : Int) < 0 := by omega
  have g1 : ¬ (s.size : Int) ≤ (at_ : Int) := by omega
  go_enter Tryd.func42, Tryd.ntmps42
  go_wp2_with (refine wpList_load_row rfl 58 (.global 2) rfl 2 rfl T cs fr _ HT.out Tryd.underlying58 rfl (by rw [HC.out]; exact infoMarks) ?_)
  go_loopg [18] 37 (fun gn i wr => ∃ k : Nat, gn = 37 - k ∧ k ≤ 37 ∧ i = .int .i64 k ∧ Hid (Below w.heap.size w wr) ∧ Hid (N = lgf (s.data.toList.drop at_) (37 - k)))
  case atStart => exact ⟨0, rfl, by omega, rfl, Lib.hid (Below.refl _ _), HN⟩
  case round =>
    obtain ⟨k, hgn, hk, rfl, HW, HK⟩ := hrel
    by_cases hlt : k < 37
    · have hix := fun W : World => run_index_agg (P := Tryd.prog) W 58 57 37 3 k cs 5 Tryd.underlying58 Tryd.underlying57 infoMark hlt
      rw [HX.out k hlt] at hix
      obtain ⟨f1, f2, f3⟩ := sg_facts ⟨k, hlt⟩
      have hpi := piece_is (sg k) (s.data.toList.drop at_) f1 f2 f3
      have hstep := lgf_step (s.data.toList.drop at_) k hlt
      have HS := Lib.hid (fun W => size_any (ga k) (gb k) (gc k) W)
      rw [sz_sg ⟨k, hlt⟩] at HS
      rw [show (((sg k).getD 0 0).toNat : Int) = ga k from rfl, show (((sg k).getD 1 0).toNat : Int) = gb k from rfl, show (((sg k).getD 2 0).toNat : Int) = gc k from rfl] at hpi
      obtain ⟨a, ha⟩ : ∃ a, a = ga k := ⟨_, rfl⟩
      obtain ⟨b, hb⟩ : ∃ b, b = gb k := ⟨_, rfl⟩
      obtain ⟨c, hc⟩ : ∃ c, c = gc k := ⟨_, rfl⟩
      obtain ⟨n, hn⟩ : ∃ n, n = (sg k).length := ⟨_, rfl⟩
      simp only at f1 f2 HS
      rw [← ha, ← hb, ← hc] at hix HS hpi
      rw [← hn] at HS hpi f1 f2 hstep
      have hl : (s.extract at_ s.size).data.toList = s.data.toList.drop at_ := by
        rw [ByteArray.data_extract, Array.toList_extract, List.extract_eq_take_drop, List.take_of_length_le (by rw [List.length_drop, Array.length_toList]; exact Nat.le_refl _)]
      have hm : (sg k).isPrefixOf (s.data.toList.drop at_) = true → Nat.min (s.size - at_) n = n := fun h => by
        have := prefix_len h
        rw [← hn, List.length_drop, Array.length_toList] at this
        exact Nat.min_eq_right this
      have HL := Lib.hid hl
      have HP := Lib.hid hpi
      have HM := Lib.hid hm
      have HST := Lib.hid hstep
      clear ha hb hc hn hpi hm hstep f3 hl
      have n3 : (n : Int) ≤ 3 := by omega
      have hat' : (at_ : Int) ≤ (s.size : Int) := by omega
      go_wp2_with fail
      have H2 : Hid (∀ w3, Below (wr.heap.size + 2) ((wr.alloc (Obj.cells #[Value.int IntKind.u8 a, Value.int IntKind.u8 b, Value.int IntKind.u8 c] 57)).alloc (Obj.cells #[Value.int IntKind.u8 0, Value.int IntKind.u8 0, Value.int IntKind.u8 0] 57)) w3 →
          w3.heap[wr.heap.size + 1]? = some (.cells #[Value.int IntKind.u8 0, Value.int IntKind.u8 0, Value.int IntKind.u8 0] 57 (0, 0)) ∧ w3.heap[wr.heap.size]? = some (.cells #[Value.int IntKind.u8 a, Value.int IntKind.u8 b, Value.int IntKind.u8 c] 57 (0, 0))) := Lib.hid (by
        intro w3 h
        constructor
        · rw [h.block _ (by omega)]
          show ((wr.heap.push _).push _)[wr.heap.size + 1]? = _
          rw [Array.getElem?_push, if_pos (by simp)]
        · rw [h.block _ (by omega)]
          show ((wr.heap.push _).push _)[wr.heap.size]? = _
          rw [Array.getElem?_push, if_neg (by simp), Array.getElem?_push, if_pos rfl])
      go_region_law (first | (refine step_copy_cut rfl (.tmp 23) (.tmp 26) 59 9 rfl 5 Tryd.underlying59 infoByte (wr.heap.size + 1) n 3 (by simp [Act.eval, Act.put]) (s.extract at_ s.size) (by simp [Act.eval, Act.put]) 57 ?_ f2 ?_; exact h3.out.1; intro w4 hg4 hk4 hb4) | (go_simp; go_at_call 64; refine (HS.out _).mono ?_; rintro e w3 ⟨rfl, hb3⟩; have h3 := Lib.hid (H2.out w3 ((Below.drew (Below.refl _ _)).trans (hb3.mono (by simp)))); have hb5 := Lib.hid hb3; clear hb3))
      obtain ⟨M, hM⟩ : ∃ M, M = Nat.min (s.size - at_) n := ⟨_, rfl⟩
      rw [← hM] at HM ⊢
      clear hM
      rw [HL.out] at hg4
      obtain ⟨p0, hp0⟩ : ∃ p0, p0 = pc (s.data.toList.drop at_) n 0 := ⟨_, rfl⟩
      obtain ⟨p1, hp1⟩ : ∃ p1, p1 = pc (s.data.toList.drop at_) n 1 := ⟨_, rfl⟩
      obtain ⟨p2, hp2⟩ : ∃ p2, p2 = pc (s.data.toList.drop at_) n 2 := ⟨_, rfl⟩
      rw [← hp0, ← hp1, ← hp2] at hg4 HP
      clear hp0 hp1 hp2
      have hq4 : w4.heap[wr.heap.size]? = _ := (hk4.out wr.heap.size (by omega)).trans h3.out.2
      have c0 : w4.cell? ⟨wr.heap.size + 1, 0, none⟩ = some (.int .u8 p0) := cell_of_row _ _ _ _ _ _ hg4.out
      have c1 : w4.cell? ⟨wr.heap.size + 1, 1, none⟩ = some (.int .u8 p1) := cell_of_row _ _ _ _ _ _ hg4.out
      have c2 : w4.cell? ⟨wr.heap.size + 1, 2, none⟩ = some (.int .u8 p2) := cell_of_row _ _ _ _ _ _ hg4.out
      have d0 : w4.cell? ⟨wr.heap.size, 0, none⟩ = some (.int .u8 a) := cell_of_row _ _ _ _ _ _ hq4
      have d1 : w4.cell? ⟨wr.heap.size, 1, none⟩ = some (.int .u8 b) := cell_of_row _ _ _ _ _ _ hq4
      have d2 : w4.cell? ⟨wr.heap.size, 2, none⟩ = some (.int .u8 c) := cell_of_row _ _ _ _ _ _ hq4
      have HW4 : Hid (Below w.heap.size w w4) := Lib.hid (by
        have b1 := ((Below.refl wr.heap.size wr).alloc (Nat.le_refl _) (Obj.cells #[Value.int IntKind.u8 a, Value.int IntKind.u8 b, Value.int IntKind.u8 c] 57)).alloc (by simp) (Obj.cells #[Value.int IntKind.u8 0, Value.int IntKind.u8 0, Value.int IntKind.u8 0] 57)
        have b2 := b1.trans ((Below.drew (Below.refl _ _)).trans (hb5.out.mono (by simp; omega)))
        exact HW.out.trans ((b2.trans (hb4.out.mono (by omega))).mono HW.out.size))
      clear hq4 hg4 hk4 hb4 hb5 h3 H2
      have heq := eq3 p0 p1 p2 a b c
      cases hv : (p0 == a && p1 == b && p2 == c)
      · have hpre : ¬ (sg k).isPrefixOf (s.data.toList.drop at_) = true := fun h => by
          obtain ⟨rfl, rfl, rfl⟩ := HP.out.1 h
          simp at hv
        have HF : Hid (N = lgf (s.data.toList.drop at_) (37 - (k + 1))) := Lib.hid (by rw [HK.out, HST.out, if_neg hpre])
        rw [hv] at heq
        clear hv hpre
        go_wp2_with fail
        go_roundg (37 - (k + 1))
        case measure => omega
        case rel => exact ⟨k + 1, rfl, hlt, by go_num, HW4, HF⟩
      · have hpre : (sg k).isPrefixOf (s.data.toList.drop at_) = true := HP.out.2 (by simpa [and_assoc] using hv)
        have HF : Hid (M = N) := Lib.hid (by rw [HK.out, HST.out, if_pos hpre, HM.out hpre])
        rw [hv] at heq
        clear hv hpre
        go_wp2_with fail
        go_ret
        exact ⟨ret_nat HF.out, HW4.out⟩
    · obtain rfl : k = 37 := by omega
      have HF : Hid (0 = N) := Lib.hid (by rw [HK.out]; rfl)
      go_wp2_with fail
      go_ret
      exact ⟨ret_nat HF.out, HW.out⟩
set_option maxRecDepth 100000 in
/-- Longest. -/
theorem longest_any (s : ByteArray) (a : Int) (w : World) (ht : TabM w) :
    Calls Tryd.prog 42 #[.string s, .int .i64 a] w fun e w' => e = .returned (.int .i64 (lg s a)) ∧ Below w.heap.size w w' := by
  by_cases h0 : a < 0
  · rw [lg_out s a (.inl h0)]
    go_enter Tryd.func42, Tryd.ntmps42
    go_wp2_with fail
    go_ret
    exact ⟨rfl, Below.refl _ _⟩
  · by_cases h1 : (s.size : Int) ≤ a
    · rw [lg_out s a (.inr h1)]
      go_enter Tryd.func42, Tryd.ntmps42
      go_wp2_with fail
      go_ret
      exact ⟨rfl, Below.refl _ _⟩
    · obtain ⟨k, rfl⟩ : ∃ k : Nat, a = (k : Int) := ⟨a.toNat, by omega⟩
      rw [lg_at s k (by omega)]
      exact longest_in s k (by omega) w ht
end Go.Proofs.YtajjhhodpohfpaaDoor
