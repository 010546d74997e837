/-
  No token ends with a newline; two texts of which the first one ends with a newline: both's tokens.
-/
import Derived.Test.YtaaijenbcfjdlaaScanRow
namespace Go.Proofs.Ytaaijenbcfjdlaa
open Go.RowKit Go.PlainAid

theorem ru_last {s : ByteArray} {B : Int} {a : Nat} {un : Bool} (hB : B ≤ 36) (h : a < ru s B a un a) : bt s (ru s B a un a - 1) ≠ 10 := by
  have h1 := ru_all s B a un (ru s B a un a - 1) (by omega) (by omega)
  rw [okk_iff hB] at h1
  intro e
  rw [e] at h1
  rcases h1 with h1 | ⟨-, h1, -⟩
  · exact not10 hB h1
  · omega
theorem whe_last {s : ByteArray} {a : Nat} (h : a < whe s a) : bt s (whe s a - 1) ≠ 10 := by
  rcases whe_cases s a with ⟨m, B, r, h1, h2, h3, h4, h5, h6, h7, h8, h9, h10, h11⟩ | ⟨h1, -⟩
  · rw [h11, h3]; exact ru_last h9 (by rw [← h3]; exact h10)
  · rw [h1]; exact ru_last (by omega) (by rw [← h1]; exact h)
theorem bke_last {s : ByteArray} {a : Nat} (h : bke s a ≠ a) : bt s (bke s a - 1) ≠ 10 := by
  obtain ⟨n, hn⟩ : ∃ n, n = ru s 10 a true a := ⟨_, rfl⟩
  obtain ⟨K, hK⟩ : ∃ K, K = ru s 10 (n + 1) true (n + 1) := ⟨_, rfl⟩
  obtain ⟨j, hj⟩ : ∃ j, j = exb s (K + 1) := ⟨_, rfl⟩
  obtain ⟨L, hL⟩ : ∃ L, L = ru s 10 j true j := ⟨_, rfl⟩
  have e := bke_is hn hK hj hL
  rw [e] at h ⊢
  by_cases c1 : a < n ∧ n < s.size ∧ bt s n = 46
  · rw [if_pos c1] at h ⊢
    by_cases c2 : K = n + 1
    · rw [if_pos c2] at h; exact absurd rfl h
    · rw [if_neg c2]
      have hKl : bt s (K - 1) ≠ 10 := by
        rw [hK]; exact ru_last (by omega) (by have := ru_lo s 10 (n + 1) true; rw [← hK] at this ⊢; omega)
      by_cases c3 : K < s.size ∧ ise (bt s K) = true
      · rw [if_pos c3]
        by_cases c4 : j < L
        · rw [if_pos c4, hL]; exact ru_last (by omega) (by rw [← hL]; exact c4)
        · rw [if_neg c4]; exact hKl
      · rw [if_neg c3]; exact hKl
  · rw [if_neg c1] at h; exact absurd rfl h
theorem qx_last {s : ByteArray} {q : Int} : ∀ m k, s.size - k ≤ m → qx s q k ≠ 0 → bt s (qx s q k - 1) = q := by
  intro m
  induction m with
  | zero => intro k h h0; exact absurd (qx_end (by omega)) h0
  | succ m ih =>
    intro k h h0
    by_cases hk : k < s.size
    · by_cases hq : bt s k = q
      · rw [qx_hit hk hq, Nat.add_sub_cancel]; exact hq
      · by_cases h9 : bt s k = 92
        · rw [qx_esc hk hq h9] at h0 ⊢
          split at h0
          · exact absurd rfl h0
          · rename_i c; rw [if_neg c]; have := nl_pos s (k + 1); exact ih _ (by omega) h0
        · rw [qx_pt hk hq h9] at h0 ⊢
          split at h0
          · exact absurd rfl h0
          · rename_i c; rw [if_neg c]; have := nl_pos s k; exact ih _ (by omega) h0
    · exact absurd (qx_end hk) h0
/-- A code point's last byte is a newline just if it is the newline. -/
theorem nl_last {s : ByteArray} {k : Nat} (h : ¬ nc s k < 32) : bt s (k + nl s k - 1) ≠ 10 := by
  have h1 := nl_pos s k
  intro e
  by_cases h2 : nl s k = 1
  · rw [h2, Nat.add_sub_cancel] at e
    have hk : k < s.size := by
      apply Classical.byContradiction
      intro h'
      rw [bt_end s (by omega)] at e; omega
    have := (nc_ascii hk (by omega)).1
    omega
  · have := nc_cont (s := s) (k := k) (x := nl s k - 1) (by omega) (by omega) (by omega)
    rw [show k + (nl s k - 1) = k + nl s k - 1 by omega] at this
    omega
theorem rc_last {s : ByteArray} {b : Int} (hb : b ≤ 36) : ∀ m j, 0 < rc s b m j → bt s (j + rc s b m j - 1) ≠ 10
  | 0, j, h => by simp [rc] at h
  | m + 1, j, h => by
    simp only [rc] at h ⊢
    split at h
    · rename_i c
      rw [if_pos c]
      by_cases h0 : rc s b m (j + 1) = 0
      · rw [h0, Nat.add_zero, Nat.add_sub_cancel]
        intro e; rw [e] at c; exact not10 hb c
      · have := rc_last (s := s) hb m (j + 1) (by omega)
        rw [show j + (1 + rc s b m (j + 1)) - 1 = j + 1 + rc s b m (j + 1) - 1 by omega]
        exact this
    · omega
theorem mnt_last {s : ByteArray} {j : Nat} (h : 0 ≤ (mnt s j).1) : bt s (j + (mnt s j).2 - 1) ≠ 10 := by
  unfold mnt at h ⊢
  by_cases c1 : 0 < rc s 8 3 j
  · rw [if_pos c1]; exact rc_last (by omega) 3 j c1
  rw [if_neg c1] at h ⊢
  by_cases c2 : bt s j = 120
  · rw [if_pos c2] at h ⊢
    unfold hxd at h ⊢
    by_cases d1 : bt s (j + 1) = 123
    · rw [if_pos d1] at h ⊢
      by_cases d2 : rc s 16 6 (j + 2) = 0 ∨ bt s (j + 2 + rc s 16 6 (j + 2)) ≠ 125
      · rw [if_pos d2] at h; exact absurd h (by decide)
      · rw [if_neg d2]
        simp only
        rw [show j + (rc s 16 6 (j + 2) + 3) - 1 = j + 2 + rc s 16 6 (j + 2) by omega]
        intro e
        exact d2 (.inr (by omega))
    · rw [if_neg d1] at h ⊢
      by_cases d2 : rc s 16 2 (j + 1) < 2
      · rw [if_pos d2] at h; exact absurd h (by decide)
      · rw [if_neg d2]
        have h1 := rc_le s 16 2 (j + 1)
        have := rc_last (s := s) (b := 16) (by omega) 2 (j + 1) (by omega)
        simp only
        rw [show j + 1 + rc s 16 2 (j + 1) - 1 = j + 3 - 1 by omega] at this
        exact this
  rw [if_neg c2] at h ⊢
  by_cases c3 : bt s j = 94
  · rw [if_pos c3] at h ⊢
    unfold ctl at h ⊢
    split at h
    · rename_i d; rw [if_pos d]
      simp only
      rw [show j + 2 - 1 = j + 1 by omega]
      omega
    · exact absurd h (by decide)
  rw [if_neg c3] at h ⊢
  by_cases c4 : s.size ≤ j ∨ nc s j < 32
  · rw [if_pos c4] at h; exact absurd h (by decide)
  rw [if_neg c4] at h ⊢
  have := nl_last (s := s) (k := j) (by omega)
  split <;> exact this
theorem che_last {s : ByteArray} {k : Nat} (h : che s k ≠ 0) : bt s (che s k - 1) ≠ 10 := by
  unfold che at h ⊢
  by_cases c1 : k + 1 < s.size ∧ bt s (k + 1) = 92
  · rw [if_pos c1] at h ⊢
    by_cases c2 : 0 ≤ (esc s (k + 1)).1
    · rw [if_pos c2]
      have hz := (esc_size c2).1
      unfold esc at c2 hz ⊢
      rw [if_pos c1] at c2 hz ⊢
      by_cases c3 : isPt (mnt s (k + 1 + 1)).1 = true
      · rw [if_pos c3] at hz ⊢
        have h0 : 0 ≤ (mnt s (k + 1 + 1)).1 := by unfold isPt at c3; simp at c3; omega
        have := mnt_last h0
        simp only at hz ⊢
        rw [show k + 1 + (1 + (mnt s (k + 1 + 1)).2) - 1 = k + 1 + 1 + (mnt s (k + 1 + 1)).2 - 1 by omega]
        exact this
      · rw [if_neg c3] at c2; exact absurd c2 (by decide)
    · rw [if_neg c2] at h; exact absurd rfl h
  · rw [if_neg c1] at h ⊢
    split at h
    · exact absurd rfl h
    · rename_i c2
      rw [if_neg c2]
      exact nl_last (by omega)
theorem lgf_pre (l : List UInt8) : ∀ m, m ≤ 37 → lgf l m ≠ 0 → ∃ i : Fin 37, (sg i.val).isPrefixOf l = true ∧ lgf l m = (sg i.val).length
  | 0, _, h => absurd rfl h
  | m + 1, hm, h => by
    simp only [lgf] at h ⊢
    split at h
    · rename_i c; rw [if_pos c]; exact ⟨⟨36 - m, by omega⟩, c, rfl⟩
    · rename_i c; rw [if_neg c]; exact lgf_pre l m (by omega) h
theorem lg_last {s : ByteArray} {k : Nat} (h : lgL (s.data.toList.drop k) ≠ 0) : bt s (k + lgL (s.data.toList.drop k) - 1) ≠ 10 := by
  obtain ⟨i, h1, h2⟩ := lgf_pre _ 37 (Nat.le_refl _) h
  have h3 : lgL (s.data.toList.drop k) = (sg i.val).length := h2
  have hne : (sg i.val).length ≠ 0 := by omega
  rw [h3]
  rw [List.isPrefixOf_iff_prefix] at h1
  obtain ⟨r, hr⟩ := h1
  have hlen := congrArg List.length hr
  rw [List.length_append, List.length_drop] at hlen
  have hsz : s.data.toList.length = s.size := by rw [Array.length_toList]; rfl
  have hk : k + (sg i.val).length - 1 < s.size := by omega
  have hg : s.data.toList[k + (sg i.val).length - 1]? = (sg i.val)[(sg i.val).length - 1]? := by
    have : (sg i.val ++ r)[(sg i.val).length - 1]? = (s.data.toList.drop k)[(sg i.val).length - 1]? := by rw [hr]
    rw [List.getElem?_append_left (by omega), List.getElem?_drop, show k + ((sg i.val).length - 1) = k + (sg i.val).length - 1 by omega] at this
    exact this.symm
  intro e
  have hb := get_bt s (k + (sg i.val).length - 1) hk
  rw [e] at hb
  have hx : (s[k + (sg i.val).length - 1]'hk) = 10 := UInt8.toNat_inj.1 (by have : (10 : UInt8).toNat = 10 := rfl; omega)
  have h4 : s.data.toList[k + (sg i.val).length - 1]? = some 10 := by
    rw [List.getElem?_eq_getElem (by rw [Array.length_toList]; exact hk), Array.getElem_toList]
    exact congrArg some hx
  rw [hg] at h4
  have hm : (10 : UInt8) ∈ sg i.val := List.mem_of_getElem? h4
  have := List.all_eq_true.1 (sg_no10 i) 10 hm
  simp at this
/-- NO TOKEN ENDS WITH A NEWLINE. -/
theorem one_last {s : ByteArray} {k : Nat} (hk : k < s.size) (h : (one s k).1 ≠ 0) : bt s ((one s k).2 - 1) ≠ 10 := by
  have hbd := one_bd hk h
  have tkb : ∀ {kd : Int} {x : Nat}, (tk kd x).1 ≠ 0 → (x ≠ 0 ∧ (tk kd x).2 = x) := fun {kd x} hx => by
    unfold tk at hx ⊢
    split
    · rename_i h'; rw [if_pos h'] at hx; exact absurd rfl hx
    · exact ⟨by assumption, rfl⟩
  have hin : ∀ {j e : Nat}, j < e → fw inn s j = e → bt s (e - 1) ≠ 10 := fun {j e} h1 h2 h3 => by
    have := fw_all inn s j (e - 1) (by omega) (by omega)
    rw [h3] at this; exact absurd this (by decide)
  unfold one at h hbd ⊢
  by_cases c1 : bt s k = 37
  · rw [if_pos c1] at hbd ⊢
    simp only at hbd ⊢
    obtain ⟨i1, i2, i3, i4⟩ := ix_spec s 10 _ k (Nat.le_refl _) (by omega)
    obtain ⟨g1, g2, g3, g4⟩ := tr_spec s k (ix s 10 k)
    exact i3 _ (by omega) (by omega)
  rw [if_neg c1] at h hbd ⊢
  by_cases c2 : bt s k = 46 ∧ (k + 1 = s.size ∨ bt s (k + 1) = 37 ∨ k + 1 < fw bl s (k + 1))
  · rw [if_pos c2]; simp only [Nat.add_sub_cancel]; omega
  rw [if_neg c2] at h hbd ⊢
  by_cases c3 : beg (bt s k) = 3
  · rw [if_pos c3] at h hbd ⊢
    unfold num at h hbd ⊢
    by_cases d1 : ne s k = k ∨ (ne s k < s.size ∧ inn (bt s (ne s k)) = true)
    · rw [if_pos d1] at h; exact absurd rfl h
    rw [if_neg d1] at h hbd ⊢
    by_cases d2 : bke s k = k ∧ ne s k < s.size ∧ bt s (ne s k) = 35 ∧ ¬ ix s 35 k < ne s k
    · rw [if_pos d2] at h; exact absurd rfl h
    rw [if_neg d2] at hbd ⊢
    simp only at hbd ⊢
    unfold ne at hbd ⊢
    by_cases d3 : bke s k = k
    · rw [if_pos d3] at hbd ⊢; exact whe_last hbd.1
    · rw [if_neg d3]; exact bke_last d3
  rw [if_neg c3] at h hbd ⊢
  by_cases c4 : 0 < beg (bt s k)
  · rw [if_pos c4] at hbd ⊢
    simp only at hbd ⊢
    exact hin hbd.1 rfl
  rw [if_neg c4] at h hbd ⊢
  by_cases c5 : bt s k = 39
  · rw [if_pos c5] at h ⊢
    obtain ⟨t1, t2⟩ := tkb h
    rw [t2, qx_last _ (k + 1) (Nat.le_refl _) t1]
    decide
  rw [if_neg c5] at h hbd ⊢
  by_cases c6 : bt s k = 34
  · rw [if_pos c6] at h ⊢
    obtain ⟨t1, t2⟩ := tkb h
    rw [t2, qx_last _ (k + 1) (Nat.le_refl _) t1]
    decide
  rw [if_neg c6] at h hbd ⊢
  by_cases c7 : bt s k = 36
  · rw [if_pos c7] at h ⊢
    obtain ⟨t1, t2⟩ := tkb h
    rw [t2]
    exact che_last t1
  rw [if_neg c7] at h hbd ⊢
  by_cases c8 : bt s k = 63
  · rw [if_pos c8] at h hbd ⊢
    by_cases c9 : fst (bt s (mcb s k)) = true
    · rw [if_pos c9] at hbd ⊢
      simp only at hbd ⊢
      have hb : inn (bt s (mcb s k)) = true := by
        unfold fst at c9
        simp only [Bool.or_eq_true, Bool.and_eq_true, decide_eq_true_eq, beq_iff_eq] at c9
        apply inn_of_beg
        unfold beg
        split
        · decide
        · rw [if_pos (by omega)]; decide
      have hm : mcb s k < s.size := by
        apply Classical.byContradiction
        intro h'
        rw [bt_end s (by omega)] at hb; exact absurd hb (by decide)
      exact hin (fw_lt.2 ⟨hm, hb⟩) rfl
    · rw [if_neg c9] at h; exact absurd rfl h
  rw [if_neg c8] at h hbd ⊢
  by_cases c0 : lgL (s.data.toList.drop k) = 0
  · rw [if_pos c0] at h; exact absurd rfl h
  rw [if_neg c0]
  exact lg_last c0
/-- TWO TEXTS, THE FIRST ONE WITH A NEWLINE AT ITS END. -/
theorem joinN_sc (A c : ByteArray) (hA : 0 < A.size) (hn : bt A (A.size - 1) = 10) (lc : List Tk3) (hc : sc c (fw bl c 0) = some lc) : ∀ (l : List Tk3) (p : Nat), p ≤ A.size → sc A (fw bl A p) = some l → sc (A ++ c) (fw bl (A ++ c) p) = some (l ++ shf A.size lc) := by
  have hsz : (A ++ c).size = A.size + c.size := ByteArray.size_append
  have hl : ∀ i, i < A.size → bt (A ++ c) i = bt A i := fun i hi => bt_app_l _ _ _ hi
  intro l
  induction l with
  | nil =>
    intro p hp h
    have hx := sc_nil h
    have g0 := fw_le bl A p hp
    have g1 := fw_ge bl c 0
    have g2 := fw_le bl c 0 (Nat.zero_le _)
    have hf : fw bl (A ++ c) p = A.size + fw bl c 0 := by
      refine fw_is (by omega) (by omega) (fun i i1 i2 => ?_) (fun i1 => ?_)
      · by_cases c1 : i < A.size
        · rw [hl i c1]; exact fw_all bl A p i i1 (by omega)
        · rw [show i = A.size + (i - A.size) by omega, bt_app_r]
          exact fw_all bl c 0 _ (Nat.zero_le _) (by omega)
      · rw [bt_app_r]; exact fw_not bl c 0 (by omega)
    rw [hf]
    exact right_sc A c lc (fw bl c 0) g2 hc
  | cons x l ih =>
    intro p hp h
    obtain ⟨h1, h2, h3, h4, h5, h6, h7⟩ := sc_cons h
    have hf : fw bl (A ++ c) p = fw bl A p := by
      refine fw_is (fw_ge bl A p) (by omega) (fun i i1 i2 => ?_) (fun i1 => ?_)
      · rw [hl i (by omega)]; exact fw_all bl A p i i1 i2
      · rw [hl _ h1]; exact fw_not bl A p h1
    obtain ⟨q, hq⟩ : ∃ q, q = fw bl A p := ⟨_, rfl⟩
    rw [hf]
    rw [← hq] at h1 h2 h3 h5 ⊢
    have hlast := one_last h1 (by rw [h2]; exact h4)
    rw [h2] at hlast
    simp only at hlast
    have he : x.2.2 ≤ A.size - 1 := by
      apply Classical.byContradiction
      intro h'
      have e : x.2.2 = A.size := by omega
      rw [e] at hlast; exact hlast hn
    have hS : Sim A q (A ++ c) q (A.size - 1 - q) := by
      refine ⟨fun j hj => (hl (q + j) (by omega)).symm, by omega, by omega, .inl ⟨by omega, ?_⟩⟩
      rw [show q + (A.size - 1 - q) = A.size - 1 by omega, hl _ (by omega)]; exact hn
    have o1 := hS.one (e := x.2.2 - q) (K := x.1) (by omega) (by omega) h4 (by rw [h2, show q + (x.2.2 - q) = x.2.2 by omega])
    have hkd : kd2 A q (A.size - 1 - q) x.1 = x.1 := by
      unfold kd2
      split
      · rename_i g
        obtain ⟨g1, g2, g3⟩ := g
        have hfw : q + 1 < fw bl A (q + 1) := fw_lt.2 ⟨by omega, by rw [show q + 1 = A.size - 1 by omega, hn]; rfl⟩
        have := one_dot g2 (.inr (.inr hfw))
        rw [h2] at this
        exact (congrArg Prod.fst this).symm
      · rfl
    rw [hkd, show q + (x.2.2 - q) = x.2.2 by omega] at o1
    rw [sc_go (by omega) (by rw [o1]; exact h4), o1]
    simp only
    rw [ih x.2.2 h6 h7]
    simp only [Option.map_some, List.cons_append, ← h3]
theorem joinN_is {A c : ByteArray} {l m : List Tk3} (hA : 0 < A.size) (hn : bt A (A.size - 1) = 10) (ha : scanR A = (l, 0)) (hc : scanR c = (m, 0)) (hz : A.size + c.size ≤ 65536) : scanR (A ++ c) = (l ++ shf A.size m, 0) := by
  obtain ⟨-, va, sa⟩ := scan_good ha
  obtain ⟨-, vc, sc'⟩ := scan_good hc
  exact scan_of (by rw [ByteArray.size_append]; exact hz) (vd_both va vc) (joinN_sc A c hA hn m sc' l 0 (Nat.zero_le _) sa)
end Go.Proofs.Ytaaijenbcfjdlaa
