/-
  A layout has all texts, in their order, but blanks and newlines (promise 17.1): for every document and every integer the statement RenderTexts returns true. The three tables are tied to the program's text by the given ties; no further condition.
-/
import Derived.Test.YtbjgoigdhijbgaaDoorUtfLaid
import Derived.Test.YtbjgoigdhijbgaaDoorCards
import Derived.Test.YtbjgoigdhijbgaaDoorTie
import Derived.Test.YtbjgoigdhijbgaaDoorBase
import Derived.Test.YtbjgoigdhijbgaaDoorDoc
import Derived.Test.YtbjgoigdhijbgaaDoorRendWords
set_option linter.all false
namespace Go.Proofs.YtbjgoigdhijbgaaDoor.renderTexts
open Go.ChangeShapes Go.WideShapes Go.ChangeAt Go.RowKit Go.PlainAid Go.Proofs.YtbjgoigdhijbgaaDoor

theorem mod_lt (n : Nat) (hn : 0 < n) (x : Int) : ∃ r : Nat, r < n ∧ (IntKind.u64.wrap x).tmod n = (r : Int) := by
  have := IntKind.wrap_u64 x
  have h0 := Int.tmod_nonneg (a := IntKind.u64.wrap x) n (by omega)
  have h1 := Int.tmod_lt_of_pos (IntKind.u64.wrap x) (b := n) (by omega)
  have h2 := Int.toNat_of_nonneg h0
  exact ⟨((IntKind.u64.wrap x).tmod n).toNat, by omega, h2.symm⟩
theorem b0_nil : ((⟨#[]⟩ : ByteArray).toList == ([] : List UInt8)) = true := by decide +kernel
theorem c0_nil : (⟨#[]⟩ : ByteArray).data.toList.contains 10 = false := by decide +kernel
theorem drt_same {d : Dc} (h : drt d = true) : drt (same9 d) = true := by
  simp [same9, nul9, drt, drtL, dal, h, b0_nil, c0_nil]
theorem drt_grp {d : Dc} (h : drt d = true) : drt (grp d) = true := by
  simp [grp, drt, drtL, dal, h, b0_nil]
theorem dtz_grp {d : Dc} (h : dtz 1048576 d) : dtz 1048576 (grp d) := ⟨by show (0 : Nat) ≤ 1048576; omega, h, trivial⟩
theorem dtz_same {d : Dc} (h : dtz 1048576 d) : dtz 1048576 (same9 d) :=
  ⟨by show (0 : Nat) ≤ 1048576; omega, ⟨by show (0 : Nat) ≤ 1048576; omega, trivial⟩, ⟨by show (0 : Nat) ≤ 1048576; omega, h, trivial⟩, ⟨by show (0 : Nat) ≤ 1048576; omega, trivial⟩, trivial⟩
theorem render_is {d : Dc} {c : List Value} {W : Int} {w : World} (hd : dcnt d ≤ 90000) (hz : dtz 1048576 d) (hr : drt d = true) (h0 : 1 ≤ W) (h1 : W ≤ 10000) (h : DcAt w c d) (ht : Tabs w) (T : ByteArray) (hT : txtD W d = T) :
    Calls Tryd.prog 11 #[.agg c.toArray, .int .i64 W] w fun e w' => e = .returned (.tuple #[.string T, .int .i64 0]) ∧ Below w.heap.size w w' := by
  have := prender_any d hd hz c W w h ht
  have ho : okR W d = true := by simp [okR, hr, h0, h1]
  rw [ho, if_pos rfl, if_pos rfl, hT] at this
  exact this
theorem modes_is {d : Dc} {c : List Value} {W : Int} {w : World} (hd : dcnt d ≤ 90000) (hz : dtz 1048576 d) (hr : drt d = true) (h0 : 1 ≤ W) (h1 : W ≤ 10000) (h : DcAt w c d) (ht : Tabs w) (M : List Bool) (hM : mdsD W d = M) :
    Calls Tryd.prog 13 #[.agg c.toArray, .int .i64 W] w fun e w' => ∃ v, e = .returned v ∧ BlR w' w.heap.size v M ∧ Below w.heap.size w w' := by
  have := pmodes_any d hd hz c W w h ht
  have ho : okR W d = true := by simp [okR, hr, h0, h1]
  rw [ho, if_pos rfl, hM] at this
  exact this
theorem mds_len (W : Int) (d : Dc) : (mdsD W d).length ≤ dcnt d := by
  have h1 := mdsL_le (laidD W d)
  have h2 := congrArg List.length (laidD_all W d)
  rw [List.length_map, prO_len] at h2
  rw [h2] at h1
  exact h1
/-- All but blanks and newlines, as a text. -/
def nbT (s : ByteArray) : ByteArray := ⟨(nb9 s).toArray⟩
theorem nbT_all {t : ByteArray} (h : ∀ c ∈ t.data.toList, c ≠ 32 ∧ c ≠ 10) : nbT t = t := by
  have h1 : nb9 t = t.data.toList := by
    rw [nb9, List.filter_eq_self]
    intro c hc
    obtain ⟨h2, h3⟩ := h c hc
    simp [h2, h3]
  rw [nbT, h1]
mutual
theorem wds_nb : ∀ x : Dc, nbD x = true → drt x = true → ∀ c ∈ (wds x).data.toList, c ≠ 32 ∧ c ≠ 10
  | .mk k n t l, h, hr, c, hc => by
    simp only [nbD, Bool.and_eq_true, Bool.not_eq_true'] at h
    simp only [wds, ByteArray.data_append, Array.toList_append, List.mem_append] at hc
    rcases hc with hc | hc
    · refine ⟨fun e => ?_, fun e => ?_⟩
      · subst e
        rw [List.contains_iff_mem.2 hc] at h
        cases h.1
      · subst e
        have hd : dal k n t l.isEmpty = true := by
          simp only [drt, Bool.and_eq_true] at hr
          exact hr.1
        have h10 : t.data.toList.contains 10 = true := List.contains_iff_mem.2 hc
        have hne : ¬ (t.toList == []) = true := by
          intro e
          have e2 : t.toList = [] := by simpa using e
          rw [ByteArray.toList_eq] at e2
          rw [e2] at hc
          cases hc
        have hne2 : (t.toList == []) = false := by simpa using hne
        unfold dal at hd
        rw [h10, hne2] at hd
        simp only [Bool.and_false, Bool.not_true] at hd
        split at hd
        · cases hd
        split at hd
        · cases hd
        split at hd
        · cases hd
        split at hd
        · cases hd
        split at hd
        · cases hd
        · cases hd
    · exact wdsL_nb l h.2 (drt_kids hr) c hc
theorem wdsL_nb : ∀ l : List Dc, nbL l = true → drtL l = true → ∀ c ∈ (wdsL l).data.toList, c ≠ 32 ∧ c ≠ 10
  | [], _, _, c, hc => by simp [wdsL] at hc
  | x :: t, h, hr, c, hc => by
    simp only [nbL, Bool.and_eq_true] at h
    simp only [drtL, Bool.and_eq_true] at hr
    simp only [wdsL, ByteArray.data_append, Array.toList_append, List.mem_append] at hc
    rcases hc with hc | hc
    · exact wds_nb x h.1 hr.1 c hc
    · exact wdsL_nb t h.2 hr.2 c hc
end
/-- The first j bytes of a text, but blanks and newlines. -/
def nbP (s : ByteArray) (j : Nat) : ByteArray := ⟨((s.data.toList.take j).filter fun c => c != 32 && c != 10).toArray⟩
theorem nbP_0 (s : ByteArray) : nbP s 0 = ⟨#[]⟩ := rfl
theorem nbP_all (s : ByteArray) : nbP s s.size = nbT s := by
  rw [nbP, List.take_of_length_le (by simp), nbT, nb9]
theorem nbP_no {s : ByteArray} {j : Nat} (hj : j < s.size) (h : bt s j = 32 ∨ bt s j = 10) : nbP s (j + 1) = nbP s j := by
  have hj' : j < s.data.toList.length := by simpa using hj
  rw [nbP, nbP, List.take_add_one, List.getElem?_eq_getElem hj', Option.toList_some, List.filter_append]
  have hc : (s.data.toList[j] != 32 && s.data.toList[j] != 10) = false := by
    have e : (s[j]'hj) = s.data.toList[j] := by simp [ByteArray.getElem_eq_getElem_data]
    rw [← e]
    unfold bt at h
    rw [dif_pos hj] at h
    rcases h with h | h
    · have : s[j]'hj = 32 := UInt8.toNat_inj.1 (by show (s[j]'hj).toNat = 32; omega)
      rw [this]; rfl
    · have : s[j]'hj = 10 := UInt8.toNat_inj.1 (by show (s[j]'hj).toNat = 10; omega)
      rw [this]; rfl
  rw [List.filter_cons, if_neg (by rw [hc]; simp), List.filter_nil, List.append_nil]
theorem nbP_yes {s : ByteArray} {j : Nat} (hj : j < s.size) (h1 : bt s j ≠ 32) (h2 : bt s j ≠ 10) : nbP s (j + 1) = nbP s j ++ s.extract j (j + 1) := by
  have hj' : j < s.data.toList.length := by simpa using hj
  rw [nbP, nbP, List.take_add_one, List.getElem?_eq_getElem hj', Option.toList_some, List.filter_append]
  have e : (s[j]'hj) = s.data.toList[j] := by simp [ByteArray.getElem_eq_getElem_data]
  have hc : (s.data.toList[j] != 32 && s.data.toList[j] != 10) = true := by
    rw [← e]
    unfold bt at h1 h2
    rw [dif_pos hj] at h1 h2
    have n1 : s[j]'hj ≠ 32 := fun e => h1 (by rw [e]; rfl)
    have n2 : s[j]'hj ≠ 10 := fun e => h2 (by rw [e]; rfl)
    simp [n1, n2]
  rw [List.filter_cons, if_pos hc, List.filter_nil]
  apply ByteArray.ext
  rw [ByteArray.data_append, ByteArray.data_extract]
  apply Array.ext'
  simp only [Array.toList_append, Array.toList_extract, List.append_cancel_left_eq]
  rw [List.extract_eq_take_drop, List.drop_eq_getElem_cons hj']
  simp
theorem nbP_size (s : ByteArray) (j : Nat) (hj : j ≤ s.size) : (nbP s j).size ≤ j := by
  show ((s.data.toList.take j).filter _).toArray.size ≤ j
  rw [List.size_toArray]
  have h1 := List.length_filter_le (fun c => c != 32 && c != 10) (s.data.toList.take j)
  rw [List.length_take] at h1
  omega
set_option maxRecDepth 100000 in
theorem em_size : ∀ (l : List Prt) (o : ByteArray) (w : Int), (∀ p ∈ l, p.2.1 ≤ 500000 ∧ (wrt p.1).size ≤ 1048576) → w ≤ 500000 → (emD l o w).size ≤ o.size + l.length * 2000000
  | [], o, w, _, _ => by show o.size ≤ _; omega
  | p :: t, o, w, h, hw => by
    obtain ⟨h1, h2⟩ := h p (List.mem_cons_self ..)
    have ih := fun o w => em_size t o w fun q hq => h q (List.mem_cons_of_mem _ hq)
    rw [emD]
    simp only [List.length_cons, Nat.add_mul, Nat.one_mul]
    generalize t.length * 2000000 = L at ih ⊢
    split
    · have h3 := ih (o ++ ⟨#[10]⟩) p.2.1 h1
      rw [ByteArray.size_append] at h3
      have h4 : (⟨#[10]⟩ : ByteArray).size = 1 := rfl
      omega
    split
    · have h3 := ih o w hw
      omega
    · have h3 := ih (o ++ blk9 w ++ wrt p.1) 0 (by omega)
      rw [ByteArray.size_append, ByteArray.size_append, blk9_size] at h3
      omega
set_option maxRecDepth 100000 in
theorem txt_size {W : Int} {d : Dc} (hd : dcnt d ≤ 500) (hr : drt d = true) (hz : dtz 1048576 d) : (txtD W d).size ≤ 1000000000 := by
  have h1 := em_size (laidD W d) ⟨#[]⟩ 0 (fun p hp => by
    have h2 : (p.1, p.2.1) ∈ prO 0 d := by rw [← laidD_all W d]; exact List.mem_map_of_mem hp
    obtain ⟨-, h3⟩ := prO_rgt d 0 hr _ h2
    have h4 := wrt_sz (prO_sz d 0 hz _ h2)
    simp only at h3 h4
    exact ⟨by omega, h4⟩) (by decide)
  have h2 := congrArg List.length (laidD_all W d)
  rw [List.length_map, prO_len] at h2
  have h3 : (⟨#[]⟩ : ByteArray).size = 0 := rfl
  rw [txtD]
  rw [h2, h3] at h1
  have h4 : dcnt d * 2000000 ≤ 500 * 2000000 := Nat.mul_le_mul_right _ hd
  omega
set_option maxRecDepth 100000 in
set_option maxHeartbeats 8000000 in
theorem walk (c : List Value) (d : Dc) (x : Int) (w : World) (g : DcAt w c d) (htb : Tabs w) :
    Calls Tryd.prog 4 #[.agg c.toArray, .int .i64 x] w fun e w' => e = .returned (.bool true) ∧ Below w.heap.size w w' := by
  obtain ⟨k, n, t, lv, rfl⟩ : ∃ k n t lv, c = [.int .i64 k, .int .i64 n, .string t, lv] := by
    cases d with
    | mk k n t l => obtain ⟨lv, cs, rfl, -⟩ := g.inv; exact ⟨_, _, _, _, rfl⟩
  obtain ⟨Z, hZ⟩ : ∃ Z, Z = w.alloc (.cells #[.int .i64 k, .int .i64 n, .string t, lv] 24) := ⟨_, rfl⟩
  have hbW : Below w.heap.size w Z := by rw [hZ]; exact below1 _ _
  obtain ⟨xa, hxa⟩ : ∃ q, q = w.heap.size := ⟨_, rfl⟩
  have z1 : Z.heap[xa]? = some (.cells #[.int .i64 k, .int .i64 n, .string t, lv] 24) := by rw [hxa, hZ]; exact new_at9
  have HC := Lib.hid (fun W (hb : Below Z.heap.size Z W) => four_of0 ((hb.block _ (lt_of_block z1)).trans z1))
  have UP := Lib.hid (fun W (h : Below Z.heap.size Z W) => hbW.trans (h.mono hbW.size))
  have G := Lib.hid (fun W (h : Below Z.heap.size Z W) => g.bel (UP.out W h))
  have HTZ : Hid (∀ W, Below Z.heap.size Z W → Tabs W) := Lib.hid fun W h => htb.below (UP.out W h)
  have HB0 : Hid (Below Z.heap.size Z Z) := Lib.hid (Below.refl _ _)
  have HZE := Lib.hid (⟨hZ, hxa⟩ : _ ∧ _)
  have HT : Hid (∀ W, Below Z.heap.size Z W → Calls Tryd.prog 10 #[] W fun e w' => e = .returned (.bool true) ∧ Below Z.heap.size Z w') := Lib.hid fun W hb => (told17_any W (HTZ.out W hb)).mono fun e w' ⟨h1, h2⟩ => ⟨h1, hb.trans (h2.mono hb.size)⟩
  have HF0 : Hid (∀ W, Below Z.heap.size Z W → Calls Tryd.prog 9 #[.agg #[.int .i64 k, .int .i64 n, .string t, lv]] W fun e w' => e = .returned (.bool (fwD d)) ∧ Below Z.heap.size Z w') := Lib.hid fun W hb => (fwD_any d _ W (G.out W hb)).mono fun e w' ⟨h1, h2⟩ => ⟨h1, hb.trans (h2.mono hb.size)⟩
  obtain ⟨d0, d1, d2, d3⟩ := HC.out _ HB0.out
  clear g hZ hbW htb z1 hxa
  cases hf : fwD d
  · rw [hf] at HF0
    go_enter Tryd.func4, Tryd.ntmps4
    go_upto_region 1 with fail
    rw [← HZE.out.1, ← HZE.out.2]
    go_wp2_with fail
    refine (HF0.out _ HB0.out).mono ?_
    rintro e w1 ⟨rfl, ht⟩
    have HB1 := Lib.hid ht
    clear ht d0 d1 d2 d3
    obtain ⟨d0, d1, d2, d3⟩ := HC.out _ HB1.out
    go_wp2_with fail
    refine (HT.out _ HB1.out).mono ?_
    rintro e w2 ⟨rfl, ht⟩
    have HB2 := Lib.hid ht
    clear ht
    go_wp2_with fail
    go_ret
    exact ⟨rfl, UP.out _ HB2.out⟩
  rw [hf] at HF0
  obtain ⟨o1, o2⟩ := fwD_ok hf
  have o3 := dtz_mono (show 100 ≤ 1048576 by omega) _ o2
  have HM0 : Hid (∀ W, Below Z.heap.size Z W → Calls Tryd.prog 15 #[.agg #[.int .i64 k, .int .i64 n, .string t, lv]] W fun e w' => e = .returned (.bool (drt d)) ∧ Below Z.heap.size Z w') := Lib.hid fun W hb => (rdmay_any d (by omega) o3 _ W (G.out W hb)).mono fun e w' ⟨h1, h2⟩ => ⟨h1, hb.trans (h2.mono hb.size)⟩
  have HW0 : Hid (∀ W, Below Z.heap.size Z W → Calls Tryd.prog 16 #[.agg #[.int .i64 k, .int .i64 n, .string t, lv]] W fun e w' => e = .returned (.tuple #[.string (wdA d), .bool (nbD d)]) ∧ Below Z.heap.size Z w') := Lib.hid fun W hb => (words_any 500 (Nat.le_refl _) d o1 o3 _ W (G.out W hb)).mono fun e w' ⟨h1, h2⟩ => ⟨h1, hb.trans (h2.mono hb.size)⟩
  cases hr : drt d
  · rw [hr] at HM0
    clear o1 o2 o3
    go_enter Tryd.func4, Tryd.ntmps4
    go_upto_region 1 with fail
    rw [← HZE.out.1, ← HZE.out.2]
    go_wp2_with fail
    refine (HF0.out _ HB0.out).mono ?_
    rintro e w1 ⟨rfl, ht⟩
    have HB1 := Lib.hid ht
    clear ht d0 d1 d2 d3
    obtain ⟨d0, d1, d2, d3⟩ := HC.out _ HB1.out
    go_wp2_with fail
    refine (HM0.out _ HB1.out).mono ?_
    rintro e w2 ⟨rfl, ht⟩
    have HB2 := Lib.hid ht
    clear ht d0 d1 d2 d3
    obtain ⟨d0, d1, d2, d3⟩ := HC.out _ HB2.out
    go_wp2_with fail
    refine (HT.out _ HB2.out).mono ?_
    rintro e w3 ⟨rfl, ht⟩
    have HB3 := Lib.hid ht
    clear ht
    go_wp2_with fail
    go_ret
    exact ⟨rfl, UP.out _ HB3.out⟩
  rw [hr] at HM0
  cases hn : nbD d
  · rw [hn] at HW0
    clear o1 o2 o3
    go_enter Tryd.func4, Tryd.ntmps4
    go_upto_region 1 with fail
    rw [← HZE.out.1, ← HZE.out.2]
    go_wp2_with fail
    refine (HF0.out _ HB0.out).mono ?_
    rintro e w1 ⟨rfl, ht⟩
    have HB1 := Lib.hid ht
    clear ht d0 d1 d2 d3
    obtain ⟨d0, d1, d2, d3⟩ := HC.out _ HB1.out
    go_wp2_with fail
    refine (HM0.out _ HB1.out).mono ?_
    rintro e w2 ⟨rfl, ht⟩
    have HB2 := Lib.hid ht
    clear ht d0 d1 d2 d3
    obtain ⟨d0, d1, d2, d3⟩ := HC.out _ HB2.out
    go_wp2_with fail
    refine (HW0.out _ HB2.out).mono ?_
    rintro e w3 ⟨rfl, ht⟩
    have HB3 := Lib.hid ht
    clear ht d0 d1 d2 d3
    obtain ⟨d0, d1, d2, d3⟩ := HC.out _ HB3.out
    go_wp2_with fail
    refine (HT.out _ HB3.out).mono ?_
    rintro e w4 ⟨rfl, ht⟩
    have HB4 := Lib.hid ht
    clear ht
    go_wp2_with fail
    go_ret
    exact ⟨rfl, UP.out _ HB4.out⟩
  rw [hn, show wdA d = wds d from if_pos hn] at HW0
  obtain ⟨r, hrr, er⟩ := mod_lt 100 (by decide) x
  have er' : (IntKind.u64.wrap x).tmod 100 = (r : Int) := er
  have r0 : (0 : Int) ≤ (r : Int) := by omega
  have r1 : (r : Int) < 100 := by omega
  obtain ⟨Q, hQ⟩ : ∃ Q : Int, Q = 1 + (r : Int) := ⟨_, rfl⟩
  have hQ0 : 1 ≤ Q := by omega
  have hQ1 : Q ≤ 10000 := by omega
  have HQ := Lib.hid hQ
  obtain ⟨T, hT⟩ : ∃ T, T = txtD Q d := ⟨_, rfl⟩
  have RD : Hid (∀ W, Below Z.heap.size Z W → Calls Tryd.prog 11 #[.agg #[.int .i64 k, .int .i64 n, .string t, lv], .int .i64 Q] W fun e w' => e = .returned (.tuple #[.string T, .int .i64 0]) ∧ Below Z.heap.size Z w') := Lib.hid fun W hb => (render_is (by omega) o3 hr hQ0 hQ1 (G.out W hb) (HTZ.out W hb) T hT.symm).mono fun e w' ⟨h1, h2⟩ => ⟨h1, hb.trans (h2.mono hb.size)⟩
  have hfin : nbT T = wds d := by
    have h1 := txt_all Q hr
    rw [← hT] at h1
    have h2 := nbT_all (wds_nb d hn hr)
    rw [nbT, h1]
    exact h2
  obtain ⟨N, hN⟩ : ∃ N, N = T.size := ⟨_, rfl⟩
  have hNb : N ≤ 1000000000 := by rw [hN, hT]; exact txt_size o1 hr o3
  have gb := Lib.hid (get_bt T)
  have HFI := Lib.hid hfin
  have HN := Lib.hid hN
  obtain ⟨U, hU⟩ : ∃ U, U = wds d := ⟨_, rfl⟩
  rw [← hU] at HW0 HFI
  have uu : (U.toList == U.toList) = true := beq_self_eq_true _
  clear hQ hT hfin hN o1 o2 o3 hr hf hn hrr er hU
  go_enter Tryd.func4, Tryd.ntmps4
  go_upto_region 1 with fail
  rw [← HZE.out.1, ← HZE.out.2]
  go_wp2_with fail
  refine (HF0.out _ HB0.out).mono ?_
  rintro e w1 ⟨rfl, ht⟩
  have HB1 := Lib.hid ht
  clear ht d0 d1 d2 d3
  obtain ⟨d0, d1, d2, d3⟩ := HC.out _ HB1.out
  go_wp2_with fail
  refine (HM0.out _ HB1.out).mono ?_
  rintro e w2 ⟨rfl, ht⟩
  have HB2 := Lib.hid ht
  clear ht d0 d1 d2 d3
  obtain ⟨d0, d1, d2, d3⟩ := HC.out _ HB2.out
  go_wp2_with fail
  refine (HW0.out _ HB2.out).mono ?_
  rintro e w3 ⟨rfl, ht⟩
  have HB3 := Lib.hid ht
  clear ht d0 d1 d2 d3
  obtain ⟨d0, d1, d2, d3⟩ := HC.out _ HB3.out
  have hq := HQ.out.symm
  go_wp2_with fail
  refine (RD.out _ HB3.out).mono ?_
  rintro e w4 ⟨rfl, ht⟩
  have HB4 := Lib.hid ht
  clear ht d0 d1 d2 d3
  obtain ⟨d0, d1, d2, d3⟩ := HC.out _ HB4.out
  clear hq er' r0 r1 d0 d1 d2 d3
  go_wp2_with fail
  go_loopg [9, 10] N (fun gn s i wi => ∃ (j : Nat), gn = N - j ∧ j ≤ N ∧ i = .int .i64 (j : Int) ∧ s = .string (nbP T j) ∧ wi = w4)
  case atStart => exact ⟨0, rfl, Nat.zero_le _, rfl, rfl, rfl⟩
  case round =>
    obtain ⟨j, hgn, hj, rfl, rfl, rfl⟩ := hrel
    by_cases hlt : j < N
    · have qs : j < T.size := by rw [← HN.out]; exact hlt
      have qn : (j : Int) < (T.size : Int) := by omega
      have q0 : (0 : Int) ≤ (j : Int) := Int.natCast_nonneg _
      have hb := gb.out j qs
      by_cases h32 : bt T j = 32
      · have HP := Lib.hid (nbP_no qs (.inl h32))
        rw [h32] at hb
        go_wp2_with fail
        go_roundg (N - (j + 1))
        case measure => omega
        case rel => exact ⟨j + 1, rfl, hlt, by go_num, by rw [HP.out], rfl⟩
      · have h32' : ((((T[j]'qs).toNat : Nat) : Int) != 32) = true := by rw [hb]; simpa [bne] using h32
        by_cases h10 : bt T j = 10
        · have HP := Lib.hid (nbP_no qs (.inr h10))
          have h10' : ((((T[j]'qs).toNat : Nat) : Int) != 10) = false := by rw [hb, h10]; rfl
          clear hb
          go_wp2_with fail
          go_roundg (N - (j + 1))
          case measure => omega
          case rel => exact ⟨j + 1, rfl, hlt, by go_num, by rw [HP.out], rfl⟩
        · have h10' : ((((T[j]'qs).toNat : Nat) : Int) != 10) = true := by rw [hb]; simpa [bne] using h10
          have HP := Lib.hid (nbP_yes qs h32 h10)
          have hps := nbP_size T j (by omega)
          have hcat : ∀ W : World, (Op.stringOp .add (nbP T j) (T.extract j (j + 1))).run Tryd.prog W = .ok (.string (nbP T j ++ T.extract j (j + 1))) W := fun W => by
            apply run_string_add_sum
            have h1 : (T.extract j (j + 1)).size ≤ 1 := by rw [ByteArray.size_extract]; omega
            omega
          have qn1 : (j : Int) + 1 ≤ (T.size : Int) := by omega
          have q01 : (0 : Int) ≤ (j : Int) + 1 := by omega
          have qw : IntKind.i64.wrap ((j : Int) + 1) = (j : Int) + 1 := by rw [IntKind.wrap_i64]; omega
          clear hb hps
          go_wp2_with fail
          go_roundg (N - (j + 1))
          case measure => omega
          case rel => exact ⟨j + 1, rfl, hlt, by go_num, by rw [HP.out], rfl⟩
    · obtain rfl : N = j := by omega
      have qn : ¬ (N : Int) < (T.size : Int) := by rw [← HN.out]; omega
      have HU : Hid (nbP T N = U) := Lib.hid (by rw [HN.out, nbP_all]; exact HFI.out)
      go_wp2_with fail
      rw [HU.out]
      refine (HT.out _ HB4.out).mono ?_
      rintro e w5 ⟨rfl, ht⟩
      have HB5 := Lib.hid ht
      clear ht
      go_wp2_with fail
      go_ret
      exact ⟨rfl, UP.out _ HB5.out⟩
set_option maxRecDepth 100000 in
theorem lifted (os : Os) (started : os.Started) (H : Type) (enc : TypeId × Value → H) :
    ReturnsInHanded {} Tryd.checked os 4 .any (fun w args => (Rows.renderTextsSpec.pre enc Tryd.prog Tryd.f4 [] false w args ∧ laidMetH Tryd.prog utfLaid w) ∧ sizedMet enc Tryd.prog Tryd.f4 (OpenSpec.ofChange Rows.renderTextsSpec) false w args)
      (Rows.renderTextsSpec.post enc Tryd.prog Tryd.f4 false true false false) := by
  refine returnsInHanded_of_change_and (C := Tryd.checked) (X := fun w _ => laidMetH Tryd.prog utfLaid w) (fun _ _ _ hh h => h.of_heap hh) own started (by kernel_rfl) Tryd.func4
    (ChangeSpec.witness_shaped (enc := enc) (C := Tryd.checked) (os := os) (X := fun w _ => laidMetH Tryd.prog utfLaid w) false (World.doorLaid Tryd.prog 400 os) #[.agg #[.int .i64 0, .int .i64 0, .string ByteArray.empty, .slice none 0 0], .int .i64 0] 8 rfl (World.shaped_of_RefB (by kernel_rfl) (by kernel_rfl)) (by kernel_rfl) (by kernel_rfl) (by kernel_rfl) (door_met os _)) ?_
  intro W base args ds gs before hval0 hW _ _ hL _
  have hval : ∀ (j : Nat) t v, Tryd.f4.params[j]? = some t → args[j]? = some v → Value.okWide Tryd.prog W .any base t v := hval0
  have hW' := hW
  obtain ⟨p, q, hA0, hV, rfl, hfz, hnd⟩ := hW
  have hA : DataW.TrodAll enc Tryd.prog W 0 (fun _ => true) true Tryd.f4.params.toList args.toList ds p := hA0
  rw [Tryd.params4] at hA hval
  obtain ⟨v0, vs0, d0, ds0, p0, q0, hargs, rfl, rfl, h0, r0⟩ := trodAll_cons hA
  obtain ⟨v1, vs1, d1, ds1, p1, q1, rfl, rfl, rfl, h1, r1⟩ := trodAll_cons r0
  obtain ⟨rfl, rfl, rfl⟩ := trodAll_nil r1
  obtain rfl : args = #[v0, v1] := by cases args; simp_all
  obtain ⟨rfl, rfl⟩ := trodVars_none hV
  have k0 := h0
  have lt0 : ∀ x ∈ p0, x.block < W.heap.size := by obtain ⟨m, hm⟩ := k0; exact DataW.trod_lt m _ _ _ hm
  obtain ⟨c0, n0, rfl, g0⟩ := open_doc (hval 0 24 v0 rfl rfl) h0
  obtain ⟨a1, rfl, rfl, rfl, w1⟩ := open_int Tryd.underlying3 (hval 1 3 v1 rfl rfl) h1
  clear hA0 hval0
  refine (walk c0 n0 a1 W g0 (tabs_of_laid hL)).mono fun e W' ⟨he, bel⟩ => ?_
  subst he
  exact ⟨_, rfl, _, _, _, [], _, [], hW', trodAll_mk1 (shut_bool Tryd.underlying4 _), (trodAll_cons_mk (Below.trod laidOut (by kernel_rfl) (of_decide_eq_true (by kernel_rfl)) k0 bel lt0) (trodAll_cons_mk (shut_int Tryd.underlying3 w1) trodAll_mk0)), rfl, bel.frame _, fun h => by cases h⟩
theorem over : Rows.RenderTextsSaid :=
  OpenClaim.holds_of_wide 4 Tryd.f4 rfl rfl rfl rfl rfl rfl rfl ⟨rfl, rfl, rfl, rfl, rfl⟩ rfl rfl rfl rfl rfl (by kernel_rfl) Tryd.func4 (by kernel_rfl)
    (of_decide_eq_true (by kernel_rfl)) (by unfold Func.isWrapper; first | (rw [if_pos (by decide +kernel)]; kernel_rfl) | (rw [if_neg (by decide +kernel)]; exact ⟨rfl, rfl⟩))
    (fun os started H enc _ => lifted os started H enc)
/-- THE TIED CARD. -/
theorem proved : Rows.RenderTextsCardSaid :=
  Claim7.holds_tied_plain_at .later [] [.data, .data, .data] true Rows.renderTextsCard.stood.harness false
    over (fun _ h => by cases h) (by kernel_rfl) (fun _ h => by cases h) renderTexts_row_tie rfl ⟨rfl, rfl⟩ (by kernel_rfl) rfl
    (fun f fn hf hfn => by
      obtain rfl : f = 4 := Option.some.inj ((show Tryd.prog.funcNamed "galley/galleylaw17.RenderTexts" = some 4 by kernel_rfl).symm.trans hf) |>.symm
      obtain rfl : fn = Tryd.f4 := (Option.some.inj (Tryd.func4.symm.trans hfn)).symm
      exact ⟨by kernel_rfl, fun j t ht => by
        rw [Tryd.params4] at ht
        have hm : t ∈ [24, 3] := by
          have := Array.mem_of_getElem? ht
          simpa using this
        have hall : ([24, 3].all fun u => !Tryd.prog.wantsStandIn u) = true := by kernel_rfl
        exact (show Tryd.prog.wantsStandIn t = false by simpa using List.all_eq_true.1 hall t hm)⟩)
    (by kernel_rfl)
#print axioms proved
end Go.Proofs.YtbjgoigdhijbgaaDoor.renderTexts
