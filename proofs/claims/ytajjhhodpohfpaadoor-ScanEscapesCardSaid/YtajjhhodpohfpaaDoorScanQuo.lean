/-
  The program's quoted texts: a state goes on by goto.
-/
import Derived.Test.YtajjhhodpohfpaaDoorScanWalkA
import Derived.Test.YtajjhhodpohfpaaDoorLabels
namespace Go.Proofs.YtajjhhodpohfpaaDoor
open Go.RowKit Go.PlainAid

def quoJ (s : ByteArray) (p : Nat) (q : Int) (Q : Nat) (w : World) (l : Nat) (a' : Act) (w' : World) : Prop :=
  ∃ k : Nat, (p < k ∧ k ≤ s.size ∧ Hid (∃ n, w' = w.drewN n)) ∧ ((l = 0 ∧ Hid (Q = qx s q k)) ∨ (l = 1 ∧ Hid (Q = if nc s k < 32 ∨ nc s k = 127 then 0 else qx s q (k + nl s k)))) ∧ ∃ (u6 u7 u8 u9 u10 u11 u12 u13 u14 u15 u16 u17 u18 u19 u20 u21 u22 u23 u24 u25 u26 u27 u28 u29 u30 u31 u32 u33 u34 u35 u36 u37 u38 u39 u40 u41 u42 u43 u44 u45 : Value), a' = { tmps := #[.string s, .int .i64 p, undef, undef, .int .i64 0, .int .i64 k, u6, u7, u8, u9, u10, u11, u12, u13, u14, u15, u16, u17, u18, u19, u20, u21, u22, u23, u24, u25, u26, u27, u28, u29, u30, u31, u32, u33, u34, u35, u36, u37, u38, u39, u40, u41, u42, u43, u44, u45], defers := [] }
def quoM (s : ByteArray) (_ : Nat) (a' : Act) (_ : World) : Nat := match a'.tmps.getD 5 undef with
  | .int _ k => s.size - k.toNat
  | _ => 0
theorem uns_t {c : Int} (h : uns c = true) : c < 32 ∨ c = 127 := by
  unfold uns at h
  rw [Bool.or_eq_true] at h
  exact h.imp of_decide_eq_true eq_of_beq
theorem uns_f {c : Int} (h : uns c = false) : ¬ c < 32 ∧ c ≠ 127 := by
  unfold uns at h
  rw [Bool.or_eq_false_iff] at h
  exact ⟨of_decide_eq_false h.1, ne_of_beq_false h.2⟩
theorem nc_over {s : ByteArray} {k : Nat} (h : s.size ≤ k) : nc s k = -1 := by
  unfold nc
  rw [bt_end s h, if_pos]
  exact .inr (by show s.size < k + 1; omega)
theorem uns_m : uns (-1) = true := by decide
theorem uns_0 : uns 0 = true := by decide

/-- Next at any byte up to the end: what it gives counts as the code point there. -/
def NxAt (s : ByteArray) (k : Nat) (c : Int) (l : Nat) : Prop := ∀ W, Tabs W → Calls Tryd.prog 32 #[.string s, .int .i64 k] W fun e w' => e = .returned (.tuple #[.int .i64 c, .int .i64 l]) ∧ ∃ n, w' = W.drewN n
theorem nx_at (s : ByteArray) (k : Nat) (hk : k ≤ s.size) (hs : s.size ≤ 1048576) : ∃ c l, NxAt s k c l ∧ k + l ≤ s.size ∧ ((uns c = true ∧ (nc s k < 32 ∨ nc s k = 127)) ∨ (uns c = false ∧ c = nc s k ∧ l = nl s k ∧ k < s.size ∧ 1 ≤ l)) := by
  by_cases h : k < s.size
  · refine ⟨nc s k, nl s k, fun W hW => next_in s k W hW h (by unfold maxLen; omega), nl_in s k h, ?_⟩
    cases hu : uns (nc s k)
    · exact .inr ⟨rfl, rfl, rfl, h, nl_pos s k⟩
    · exact .inl ⟨rfl, uns_t hu⟩
  · exact ⟨0, 0, fun W _ => next_out s (k : Nat) W (.inr (by omega)), by omega, .inl ⟨uns_0, .inl (by rw [nc_over (by omega)]; decide)⟩⟩
set_option maxRecDepth 100000 in
set_option maxHeartbeats 4000000 in
/-- quoted: where it ends; where it begins: nowhere. -/
theorem quotedp_any (s : ByteArray) (p : Nat) (q : Int) (hp : p < s.size) (hq : bt s p = q) (hq2 : q = 34 ∨ q = 39) (hs : s.size ≤ 1048576) (w : World) (ht : Tabs w) :
    Calls Tryd.prog 36 #[.string s, .int .i64 p] w fun e w' => e = .returned (.int .i64 (if qx s q (p + 1) = 0 then p else qx s q (p + 1) : Nat)) ∧ ∃ n, w' = w.drewN n := by
  obtain ⟨Q, hQ⟩ : ∃ Q, Q = qx s q (p + 1) := ⟨_, rfl⟩
  rw [← hQ]
  have HQ := Lib.hid hQ
  have HT := Lib.hid ht
  have gq := get_bt s p hp
  rw [hq] at gq
  have HV : Hid (Q = 0 → (p : Nat) = if Q = 0 then p else Q) := Lib.hid fun h => by rw [if_pos h]
  have HV2 : Hid (∀ k, Q = k → k ≠ 0 → k = if Q = 0 then p else Q) := Lib.hid fun k h h' => by rw [if_neg (by omega)]; exact h.symm
  obtain ⟨V, hV⟩ : ∃ V : Nat, V = if Q = 0 then p else Q := ⟨_, rfl⟩
  rw [← hV] at HV HV2 ⊢
  have HU := Lib.hid (fun (c : Int) W => unseen_any c W)
  clear hQ hV ht hq
  go_enter Tryd.func36, Tryd.ntmps36
  go_wp2_with fail
  refine wp_scope_two (quoJ s p q Q w) (quoM s) rfl rfl ?_ ?_ ?_ ?_
  · rintro l a' w' ⟨k, -, h, -⟩
    exact h.imp (·.1) (·.1)
  · rintro a' w' ⟨k, ⟨hpk, hks, HW⟩, h, u6, u7, u8, u9, u10, u11, u12, u13, u14, u15, u16, u17, u18, u19, u20, u21, u22, u23, u24, u25, u26, u27, u28, u29, u30, u31, u32, u33, u34, u35, u36, u37, u38, u39, u40, u41, u42, u43, u44, u45, rfl⟩
    obtain ⟨n0, rfl⟩ := HW.out
    have HK : Hid (Q = qx s q k) := by
      rcases h with ⟨-, h⟩ | ⟨h, -⟩
      · exact h
      · cases h
    clear h
    obtain ⟨c, l, HN, hkl, hc⟩ := nx_at s k hks hs
    have HN := Lib.hid HN
    have HUc := Lib.hid (fun W => HU.out c W)
    rcases hc with ⟨hu, hc⟩ | ⟨hu, rfl, rfl, hlt, hl1⟩
    · have HF : Hid (p = V) := HV.out (by
        rw [HK.out]
        by_cases hlt : k < s.size
        · have h1 : bt s k ≠ q := fun e => by
            have := nc_ascii (s := s) (k := k) hlt (by rcases hq2 with h | h <;> omega)
            rcases hq2 with h | h <;> omega
          have h2 : bt s k ≠ 92 := fun e => by
            have := nc_ascii (s := s) (k := k) hlt (by omega)
            omega
          rw [qx_pt hlt h1 h2, if_pos hc]
        · exact qx_end hlt)
      rw [hu] at HUc
      clear hc hu
      go_wp2_with fail
      refine (HN.out _ (HT.out.drewN _)).mono ?_
      rintro e w' ⟨rfl, n1, rfl⟩
      go_wp2_with fail
      refine (HUc.out _).mono ?_
      rintro e w' ⟨rfl, rfl⟩
      go_wp2_with fail
      rw [jumps_ret]
      go_ret
      exact ⟨retN HF.out, _, rfl⟩
    · have HLT := Lib.hid hlt
      rw [hu] at HUc
      obtain ⟨hu1, hu2⟩ := uns_f hu
      obtain ⟨c, hcc⟩ : ∃ c, c = nc s k := ⟨_, rfl⟩
      rw [← hcc] at HN HUc hu1 hu2
      by_cases cq : c = q
      · have hb : bt s k = q := by
          rw [← cq]; exact nc_small hcc.symm (by omega) (by rcases hq2 with h | h <;> omega)
        have hl := (nc_ascii (s := s) (k := k) hlt (by rcases hq2 with h | h <;> omega)).2
        rw [hl] at HN
        have HF : Hid (k + 1 = V) := HV2.out _ (by rw [HK.out, qx_hit hlt hb]) (by omega)
        subst cq
        clear hb hl hcc hl1 hkl hlt hu1 hu2 HLT hu
        go_wp2_with fail
        refine (HN.out _ (HT.out.drewN _)).mono ?_
        rintro e w' ⟨rfl, n1, rfl⟩
        go_wp2_with fail
        refine (HUc.out _).mono ?_
        rintro e w' ⟨rfl, rfl⟩
        go_wp2_with fail
        rw [jumps_ret]
        go_ret
        exact ⟨retI (a := (k : Int) + 1) (by have := HF.out; omega), _, rfl⟩
      · have cq2 : (c == q) = false := beq_false_of_ne cq
        by_cases c9 : c = 92
        · have hb : bt s k = 92 := by
            rw [← c9]; exact nc_small hcc.symm (by omega) (by omega)
          have hl := (nc_ascii (s := s) (k := k) hlt (by omega)).2
          rw [hl] at HN
          have HF : Hid (Q = if nc s (k + 1) < 32 ∨ nc s (k + 1) = 127 then 0 else qx s q (k + 1 + nl s (k + 1))) := HK.out.trans (qx_esc hlt (by rcases hq2 with h | h <;> omega) hb)
          subst c9
          clear hb hl hcc hl1 hkl hu1 hu2 HLT hu
          go_wp2_with fail
          refine (HN.out _ (HT.out.drewN _)).mono ?_
          rintro e w' ⟨rfl, n1, rfl⟩
          go_wp2_with fail
          refine (HUc.out _).mono ?_
          rintro e w' ⟨rfl, rfl⟩
          go_wp2_with fail
          go_step3
          simp only [Exit.inBlock, Exit.then]
          exact ⟨⟨k + 1, ⟨by omega, by omega, Lib.hid ⟨_, rfl⟩⟩, .inr ⟨rfl, HF⟩, _, _, _, _, _, _, _, _, _, _, _, _, _, _, _, _, _, _, _, _, _, _, _, _, _, _, _, _, _, _, _, _, _, _, _, _, _, _, _, _, rfl⟩, by show s.size - (k + 1) < s.size - k; omega⟩
        · have c92 : (c == 92) = false := beq_false_of_ne c9
          have HF : Hid (Q = qx s q (k + nl s k)) := Lib.hid (by
            have h1 : bt s k ≠ q := fun e => cq (by
              rw [hcc, ← e]; exact (nc_ascii (s := s) (k := k) hlt (by rcases hq2 with h | h <;> omega)).1)
            have h2 : bt s k ≠ 92 := fun e => c9 (by
              rw [hcc, ← e]; exact (nc_ascii (s := s) (k := k) hlt (by omega)).1)
            rw [HK.out, qx_pt hlt h1 h2, if_neg (by rw [← hcc]; omega)])
          obtain ⟨l, hl⟩ : ∃ l, l = nl s k := ⟨_, rfl⟩
          rw [← hl] at HN HF hl1 hkl
          clear hcc cq c9 hu1 hu2 HLT hu hl
          go_wp2_with fail
          refine (HN.out _ (HT.out.drewN _)).mono ?_
          rintro e w' ⟨rfl, n1, rfl⟩
          go_wp2_with fail
          refine (HUc.out _).mono ?_
          rintro e w' ⟨rfl, rfl⟩
          go_wp2_with fail
          go_step3
          simp only [Exit.then]
          exact ⟨⟨k + l, ⟨by omega, by omega, Lib.hid ⟨_, rfl⟩⟩, .inl ⟨rfl, HF⟩, _, _, _, _, _, _, _, _, _, _, _, _, _, _, _, _, _, _, _, _, _, _, _, _, _, _, _, _, _, _, _, _, _, _, _, _, _, _, _, _, rfl⟩, by show s.size - (k + l) < s.size - k; omega⟩
  · rintro a' w' ⟨k, ⟨hpk, hks, HW⟩, h, u6, u7, u8, u9, u10, u11, u12, u13, u14, u15, u16, u17, u18, u19, u20, u21, u22, u23, u24, u25, u26, u27, u28, u29, u30, u31, u32, u33, u34, u35, u36, u37, u38, u39, u40, u41, u42, u43, u44, u45, rfl⟩
    obtain ⟨n0, rfl⟩ := HW.out
    have HK : Hid (Q = if nc s k < 32 ∨ nc s k = 127 then 0 else qx s q (k + nl s k)) := by
      rcases h with ⟨h, -⟩ | ⟨-, h⟩
      · cases h
      · exact h
    clear h
    obtain ⟨c, l, HN, hkl, hc⟩ := nx_at s k hks hs
    have HN := Lib.hid HN
    have HUc := Lib.hid (fun W => HU.out c W)
    rcases hc with ⟨hu, hc⟩ | ⟨hu, rfl, rfl, hlt, hl1⟩
    · have HF : Hid (p = V) := HV.out (by rw [HK.out, if_pos hc])
      rw [hu] at HUc
      clear hc hu
      go_wp2_with fail
      refine (HN.out _ (HT.out.drewN _)).mono ?_
      rintro e w' ⟨rfl, n1, rfl⟩
      go_wp2_with fail
      refine (HUc.out _).mono ?_
      rintro e w' ⟨rfl, rfl⟩
      go_wp2_with fail
      rw [jumps_ret]
      go_ret
      exact ⟨retN HF.out, _, rfl⟩
    · rw [hu] at HUc
      obtain ⟨hu1, hu2⟩ := uns_f hu
      have HF : Hid (Q = qx s q (k + nl s k)) := Lib.hid (by rw [HK.out, if_neg (by omega)])
      obtain ⟨c, hcc⟩ : ∃ c, c = nc s k := ⟨_, rfl⟩
      obtain ⟨l, hl⟩ : ∃ l, l = nl s k := ⟨_, rfl⟩
      rw [← hcc] at HN HUc
      rw [← hl] at HN HF hl1 hkl
      clear hcc hl hu1 hu2 hu
      go_wp2_with fail
      refine (HN.out _ (HT.out.drewN _)).mono ?_
      rintro e w' ⟨rfl, n1, rfl⟩
      go_wp2_with fail
      refine (HUc.out _).mono ?_
      rintro e w' ⟨rfl, rfl⟩
      go_wp2_with fail
      go_step3
      try simp only [Exit.then]
      exact ⟨⟨k + l, ⟨by omega, by omega, Lib.hid ⟨_, rfl⟩⟩, .inl ⟨rfl, HF⟩, _, _, _, _, _, _, _, _, _, _, _, _, _, _, _, _, _, _, _, _, _, _, _, _, _, _, _, _, _, _, _, _, _, _, _, _, _, _, _, _, rfl⟩, by show s.size - (k + l) < s.size - k; omega⟩
  · intro h0
    go_wp2_with fail
    go_step3
    rename_i hK
    refine hK _ _ (h0 _ _ ?_)
    exact ⟨p + 1, ⟨by omega, by omega, Lib.hid ⟨0, rfl⟩⟩, .inl ⟨rfl, HQ⟩, _, _, _, _, _, _, _, _, _, _, _, _, _, _, _, _, _, _, _, _, _, _, _, _, _, _, _, _, _, _, _, _, _, _, _, _, _, _, _, _, rfl⟩
end Go.Proofs.YtajjhhodpohfpaaDoor
