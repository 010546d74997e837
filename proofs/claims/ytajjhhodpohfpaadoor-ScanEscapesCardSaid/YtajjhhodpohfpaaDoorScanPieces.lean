/-
  Quoted ones that are built piece by piece: all that is put between the quotes is one token.
-/
import Derived.Test.YtajjhhodpohfpaaDoorScanTolds
import Derived.Test.YtajjhhodpohfpaaDoorUtfs
namespace Go.Proofs.YtajjhhodpohfpaaDoor
open Go.RowKit Go.PlainAid

/-- S begins with the quote q, and the reading goes through all of it, whatever stands behind. -/
def Qd (q : Int) (S : ByteArray) : Prop := 1 ≤ S.size ∧ bt S 0 = q ∧ vd S 0 = true ∧ ∀ Y, qx (S ++ Y) q 1 = qx (S ++ Y) q S.size
theorem qd_start (P : ByteArray) (q : Int) (h1 : P.size = 1) (h2 : bt P 0 = q) (h3 : vd P 0 = true) : Qd q P := ⟨by omega, h2, h3, fun Y => by rw [h1]⟩
theorem enc_at {c : Int} (hp : isPt c = true) (S Y : ByteArray) : nc (S ++ (Utf8.encode c ++ Y)) S.size = c ∧ nl (S ++ (Utf8.encode c ++ Y)) S.size = (Utf8.encode c).size := by
  obtain ⟨r1, r2, r3, r4⟩ := reads_enc hp
  have h0 := (pt_bd hp).1
  have hn := nc_app_r S (Utf8.encode c ++ Y) 0
  have hn2 := nl_app_r S (Utf8.encode c ++ Y) 0
  rw [nc_app_l Y (by omega), r2, Nat.add_zero] at hn
  rw [nl_app_l Y (by omega), r3, Nat.add_zero] at hn2
  exact ⟨hn, by rw [hn2, r1]⟩
theorem enc_bt {c : Int} (hp : isPt c = true) {b : Int} (hb : b < 128) (hb0 : b ≠ 0) (hne : c ≠ b) (S Y : ByteArray) : bt (S ++ (Utf8.encode c ++ Y)) S.size ≠ b := fun h => by
  have hlt : S.size < (S ++ (Utf8.encode c ++ Y)).size := bt_lt (by omega)
  have := (nc_ascii hlt (by omega)).1
  rw [(enc_at hp S Y).1, h] at this
  exact hne this
theorem Qd.self {q : Int} {S : ByteArray} (h : Qd q S) {c : Int} (hp : isPt c = true) (h32 : 32 ≤ c) (h127 : c ≠ 127) (hq : c ≠ q) (h92 : c ≠ 92) (hq0 : 32 ≤ q) (hq1 : q < 128) : Qd q (S ++ Utf8.encode c) := by
  obtain ⟨h1, h2, h3, h4⟩ := h
  have hz : (S ++ Utf8.encode c).size = S.size + (Utf8.encode c).size := ByteArray.size_append
  refine ⟨by omega, by rw [bt_app_l _ _ _ (by omega)]; exact h2, vd_both h3 (vd_enc hp), fun Y => ?_⟩
  have e1 := h4 (Utf8.encode c ++ Y)
  obtain ⟨a1, a2⟩ := enc_at hp S Y
  have b1 := enc_bt hp hq1 (by omega) hq S Y
  have b2 := enc_bt hp (b := 92) (by decide) (by decide) h92 S Y
  have hl := lenOf_pos c
  have hE : 1 ≤ (Utf8.encode c).size := by rw [(reads_enc hp).1]; exact hl.1
  rw [ByteArray.append_assoc, e1, qx_pt (by rw [ByteArray.size_append, ByteArray.size_append]; omega) b1 b2, a1, a2, if_neg (by omega), hz]
theorem Qd.back {q : Int} {S : ByteArray} (h : Qd q S) {c : Int} (hp : isPt c = true) (h32 : 32 ≤ c) (h127 : c ≠ 127) (hq92 : q ≠ 92) : Qd q (S ++ { data := #[92] } ++ Utf8.encode c) := by
  obtain ⟨h1, h2, h3, h4⟩ := h
  have hA : ({ data := #[92] } : ByteArray).size = 1 := rfl
  have hz1 : (S ++ ({ data := #[92] } : ByteArray)).size = S.size + 1 := by rw [ByteArray.size_append, hA]
  have hz : (S ++ ({ data := #[92] } : ByteArray) ++ Utf8.encode c).size = S.size + 1 + (Utf8.encode c).size := by rw [ByteArray.size_append, hz1]
  have v92 : vd { data := #[92] } 0 = true := by
    rw [vd_go (by decide) (by decide +kernel)]
    exact vd_end (by decide +kernel)
  refine ⟨by omega, by rw [bt_app_l _ _ _ (by omega), bt_app_l _ _ _ (by omega)]; exact h2, vd_both (vd_both h3 v92) (vd_enc hp), fun Y => ?_⟩
  have e1 := h4 ({ data := #[92] } ++ (Utf8.encode c ++ Y))
  have e2 : S ++ ({ data := #[92] } ++ (Utf8.encode c ++ Y)) = S ++ { data := #[92] } ++ Utf8.encode c ++ Y := by rw [ByteArray.append_assoc, ByteArray.append_assoc]
  rw [e2] at e1
  obtain ⟨a1, a2⟩ := enc_at hp (S ++ { data := #[92] }) Y
  rw [← ByteArray.append_assoc, hz1] at a1 a2
  have b1 : bt (S ++ { data := #[92] } ++ Utf8.encode c ++ Y) S.size = 92 := by
    rw [bt_app_l _ _ _ (by omega), bt_app_l _ _ _ (by omega)]
    have := bt_app_r S { data := #[92] } 0
    rw [Nat.add_zero] at this
    rw [this]; rfl
  rw [e1, qx_esc (by rw [ByteArray.size_append]; omega) (by rw [b1]; exact fun h => hq92 h.symm) b1, a1, a2, if_neg (by omega), hz]
/-- With its closing quote it is one token. -/
theorem Qd.one {q : Int} {S P : ByteArray} {kd : Int} (h : Qd q S) (hP : P.size = 1) (hb : bt P 0 = q) (hq : (q = 39 ∧ kd = 1) ∨ (q = 34 ∧ kd = 6)) (Z : ByteArray) : one (S ++ P ++ Z) 0 = (kd, S.size + 1) := by
  obtain ⟨h1, h2, h3, h4⟩ := h
  have hz : (S ++ P ++ Z).size = S.size + 1 + Z.size := by rw [ByteArray.size_append, ByteArray.size_append, hP]
  have b0 : bt (S ++ P ++ Z) 0 = q := by rw [bt_app_l _ _ _ (by rw [ByteArray.size_append]; omega), bt_app_l _ _ _ (by omega)]; exact h2
  have b1 : bt (S ++ P ++ Z) S.size = q := by
    rw [bt_app_l _ _ _ (by rw [ByteArray.size_append]; omega)]
    have := bt_app_r S P 0
    rw [Nat.add_zero] at this
    rw [this]; exact hb
  have hx : qx (S ++ P ++ Z) q 1 = S.size + 1 := by
    have := h4 (P ++ Z)
    rw [← ByteArray.append_assoc] at this
    rw [this, qx_hit (by omega) b1]
  have ht : tk kd (S.size + 1) = (kd, S.size + 1) := by unfold tk; rw [if_neg (by omega)]
  unfold Go.Proofs.YtajjhhodpohfpaaDoor.one
  rcases hq with ⟨rfl, rfl⟩ | ⟨rfl, rfl⟩
  · rw [b0, if_neg (by decide), if_neg (fun g => absurd g.1 (by decide)), if_neg (by decide), if_neg (by decide), if_pos rfl, hx, ht]
  · rw [b0, if_neg (by decide), if_neg (fun g => absurd g.1 (by decide)), if_neg (by decide), if_neg (by decide), if_neg (by decide), if_pos rfl, hx, ht]
theorem Qd.scan {q : Int} {S P : ByteArray} {kd : Int} (h : Qd q S) (hP : P.size = 1) (hb : bt P 0 = q) (hv : vd P 0 = true) (hq : (q = 39 ∧ kd = 1) ∨ (q = 34 ∧ kd = 6)) (hz : S.size ≤ 10000) :
    scanR (S ++ P) = ([(kd, 0, (S ++ P).size)], 0) ∧ scanR (S ++ P ++ { data := #[32] } ++ (S ++ P)) = ([(kd, 0, (S ++ P).size), (kd, (S ++ P).size + 1, (S ++ P).size + 1 + (S ++ P).size)], 0) := by
  have hk0 : kd ≠ 0 := by omega
  have hT : (S ++ P).size = S.size + 1 := by rw [ByteArray.size_append, hP]
  have o1 := h.one hP hb hq ByteArray.empty
  rw [ByteArray.append_empty] at o1
  have o2 := h.one hP hb hq ({ data := #[32] } ++ (S ++ P))
  rw [← ByteArray.append_assoc] at o2
  have hvT : vd (S ++ P) 0 = true := vd_both h.2.2.1 hv
  have bT : bt (S ++ P) 0 = q := by rw [bt_app_l _ _ _ (by have := h.1; omega)]; exact h.2.1
  obtain ⟨T, hTT⟩ : ∃ T, T = S ++ P := ⟨_, rfl⟩
  rw [← hTT] at hT o1 o2 hvT bT ⊢
  rw [← hT] at o1 o2
  have hblq : bl q = false := by rcases hq with ⟨rfl, -⟩ | ⟨rfl, -⟩ <;> decide
  have f1 : fw bl T 0 = 0 := fw_stop (by rw [bT]; exact hblq)
  have fe : fw bl T T.size = T.size := by
    have h1 := fw_ge bl T T.size
    have h2 := fw_le bl T T.size (Nat.le_refl _)
    omega
  have s1 : sc T 0 = some [(kd, 0, T.size)] := by
    rw [sc_go (by omega) (by rw [o1]; exact hk0), o1]
    simp only
    rw [fe, sc_end (by omega)]
    rfl
  have h32 : ({ data := #[32] } : ByteArray).size = 1 := rfl
  have hy : (T ++ ({ data := #[32] } : ByteArray)).size = T.size + 1 := by rw [ByteArray.size_append, h32]
  have hU : (T ++ ({ data := #[32] } : ByteArray) ++ T).size = T.size + 1 + T.size := by rw [ByteArray.size_append, hy]
  have v32 : vd { data := #[32] } 0 = true := by
    rw [vd_go (by decide) (by decide +kernel)]
    exact vd_end (by decide +kernel)
  have r1 := right_sc (T ++ { data := #[32] }) T _ 0 (Nat.zero_le _) s1
  rw [Nat.add_zero, hy] at r1
  have bU : bt (T ++ { data := #[32] } ++ T) 0 = q := by rw [bt_app_l _ _ _ (by omega), bt_app_l _ _ _ (by omega)]; exact bT
  have f2 : fw bl (T ++ { data := #[32] } ++ T) 0 = 0 := fw_stop (by rw [bU]; exact hblq)
  have f3 : fw bl (T ++ { data := #[32] } ++ T) T.size = T.size + 1 := by
    refine fw_is (by omega) (by omega) (fun i h2 h3 => ?_) (fun _ => ?_)
    · rw [show i = T.size + 0 by omega, bt_app_l _ _ _ (by omega), bt_app_r]; decide
    · have := bt_app_r (T ++ { data := #[32] }) T 0
      rw [Nat.add_zero, hy] at this
      rw [this, bT]; exact hblq
  refine ⟨scan_of (by omega) hvT (by rw [f1]; exact s1), scan_of (by omega) (vd_both (vd_both hvT v32) hvT) ?_⟩
  rw [f2, sc_go (by omega) (by rw [o2]; exact hk0), o2]
  simp only
  rw [f3, r1]
  rfl
end Go.Proofs.YtajjhhodpohfpaaDoor
