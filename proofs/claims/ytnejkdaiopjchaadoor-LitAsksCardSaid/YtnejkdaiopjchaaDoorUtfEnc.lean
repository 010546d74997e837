/-
  What the bytes of a code point read as.
-/
import Derived.Test.YtnejkdaiopjchaaDoorUtfPut
namespace Go.Proofs.YtnejkdaiopjchaaDoor
open Go.RowKit Go.PlainAid

theorem bt_lit (l : List UInt8) (i : Nat) (h : i < l.length) : bt ⟨l.toArray⟩ i = ((l[i]).toNat : Int) := by
  unfold bt
  rw [dif_pos (show i < (⟨l.toArray⟩ : ByteArray).size from by simpa [ByteArray.size] using h)]
  rfl
theorem ofNat_val (n : Nat) (h : n < 256) : ((UInt8.ofNat n).toNat : Int) = n := by
  rw [UInt8.toNat_ofNat']; omega
theorem isCo_yes {x : Int} (h : 128 ≤ x) (h1 : x < 192) : isCo x = true := decide_eq_true ⟨h, h1⟩
/-- Reading what a head and its followers say. -/
theorem nc_of {s : ByteArray} {k n : Nat} {c : Int} (hl : ln (bt s k) = n) (hn : n ≠ 0) (hs : k + n ≤ s.size) (ho : okn s k (n - 1) = true) (hj : jp s k (hdOf n) (n - 1) = c) (hlst : lstOf n ≤ c) (hp : isPt c = true) : nc s k = c := by
  have hv : jv s k n = c := by unfold jv; rw [if_pos ho, hj]
  unfold nc
  rw [hl, if_neg (by omega), hv, if_neg (by omega), if_pos hp]
theorem nl_of {s : ByteArray} {k n : Nat} {c : Int} (hl : ln (bt s k) = n) (hc : nc s k = c) (h0 : 0 ≤ c) : nl s k = n := by
  unfold nl
  rw [hc, if_neg (by omega), hl]

/-- A CODE POINT's BYTES: so many; they read as it; none of them can't stand in a text. -/
def Reads (s : ByteArray) (c : Int) : Prop := s.size = lenOf c ∧ nc s 0 = c ∧ nl s 0 = lenOf c ∧ ln (bt s 0) = lenOf c
theorem reads_enc {c : Int} (hp : isPt c = true) : Reads (Utf8.encode c) c := by
  have hb := pt_bd hp
  by_cases h1 : c < 128
  · have e : lenOf c = 1 := by unfold lenOf; rw [if_pos h1]
    have hs : (Utf8.encode c).size = 1 := by rw [enc1 hp h1]; rfl
    have b0 : bt (Utf8.encode c) 0 = c := by
      rw [enc1 hp h1, bt_lit _ 0 (by simp)]
      have := ofNat_val c.toNat (by omega)
      simp only [List.getElem_cons_zero]; omega
    have hl : ln (bt (Utf8.encode c) 0) = 1 := by rw [b0]; unfold ln; rw [if_pos h1]
    have hc : nc (Utf8.encode c) 0 = c := nc_of hl (by omega) (by omega) rfl (by simp only [jp, hdOf, Nat.sub_self]; omega) (by simp only [lstOf]; omega) hp
    unfold Reads
    rw [e]
    exact ⟨hs, hc, nl_of hl hc hb.1, hl⟩
  by_cases h2 : c < 2048
  · have e : lenOf c = 2 := by unfold lenOf; rw [if_neg h1, if_pos h2]
    have hs : (Utf8.encode c).size = 2 := by rw [enc2 hp (by omega) h2]; rfl
    have b0 : bt (Utf8.encode c) 0 = 192 + c / 64 := by
      rw [enc2 hp (by omega) h2, bt_lit _ 0 (by simp)]
      have := ofNat_val (192 + c.toNat / 64) (by omega)
      simp only [List.getElem_cons_zero]; omega
    have b1 : bt (Utf8.encode c) 1 = 128 + c % 64 := by
      rw [enc2 hp (by omega) h2, bt_lit _ 1 (by simp)]
      have := ofNat_val (128 + c.toNat % 64) (by omega)
      simp only [List.getElem_cons_zero, List.getElem_cons_succ]; omega
    have hl : ln (bt (Utf8.encode c) 0) = 2 := by rw [b0]; unfold ln; rw [if_neg (by omega), if_neg (by omega), if_pos (by omega)]
    have hc : nc (Utf8.encode c) 0 = c := nc_of hl (by omega) (by omega) (by simp only [okn, Nat.zero_add, b1, Nat.reduceSub, Bool.true_and]; exact isCo_yes (by omega) (by omega)) (by simp only [jp, hdOf, Nat.zero_add, Nat.reduceSub, b0, b1]; omega) (by simp only [lstOf]; omega) hp
    unfold Reads
    rw [e]
    exact ⟨hs, hc, nl_of hl hc hb.1, hl⟩
  by_cases h3 : c < 65536
  · have e : lenOf c = 3 := by unfold lenOf; rw [if_neg h1, if_neg h2, if_pos h3]
    have hs : (Utf8.encode c).size = 3 := by rw [enc3 hp (by omega) h3]; rfl
    have b0 : bt (Utf8.encode c) 0 = 224 + c / 4096 := by
      rw [enc3 hp (by omega) h3, bt_lit _ 0 (by simp)]
      have := ofNat_val (224 + c.toNat / 4096) (by omega)
      simp only [List.getElem_cons_zero]; omega
    have b1 : bt (Utf8.encode c) 1 = 128 + c / 64 % 64 := by
      rw [enc3 hp (by omega) h3, bt_lit _ 1 (by simp)]
      have := ofNat_val (128 + c.toNat / 64 % 64) (by omega)
      simp only [List.getElem_cons_zero, List.getElem_cons_succ]; omega
    have b2 : bt (Utf8.encode c) 2 = 128 + c % 64 := by
      rw [enc3 hp (by omega) h3, bt_lit _ 2 (by simp)]
      have := ofNat_val (128 + c.toNat % 64) (by omega)
      simp only [List.getElem_cons_zero, List.getElem_cons_succ]; omega
    have hl : ln (bt (Utf8.encode c) 0) = 3 := by rw [b0]; unfold ln; rw [if_neg (by omega), if_neg (by omega), if_neg (by omega), if_pos (by omega)]
    have hc : nc (Utf8.encode c) 0 = c := nc_of hl (by omega) (by omega) (by simp only [okn, Nat.zero_add, b1, b2, Nat.reduceSub, Nat.reduceAdd, Bool.true_and, Bool.and_eq_true]; exact ⟨isCo_yes (by omega) (by omega), isCo_yes (by omega) (by omega)⟩) (by simp only [jp, hdOf, Nat.zero_add, Nat.reduceSub, Nat.reduceAdd, b0, b1, b2]; omega) (by simp only [lstOf]; omega) hp
    unfold Reads
    rw [e]
    exact ⟨hs, hc, nl_of hl hc hb.1, hl⟩
  · have e : lenOf c = 4 := by unfold lenOf; rw [if_neg h1, if_neg h2, if_neg h3]
    have hs : (Utf8.encode c).size = 4 := by rw [enc4 hp (by omega)]; rfl
    have b0 : bt (Utf8.encode c) 0 = 240 + c / 262144 := by
      rw [enc4 hp (by omega), bt_lit _ 0 (by simp)]
      have := ofNat_val (240 + c.toNat / 262144) (by omega)
      simp only [List.getElem_cons_zero]; omega
    have b1 : bt (Utf8.encode c) 1 = 128 + c / 4096 % 64 := by
      rw [enc4 hp (by omega), bt_lit _ 1 (by simp)]
      have := ofNat_val (128 + c.toNat / 4096 % 64) (by omega)
      simp only [List.getElem_cons_zero, List.getElem_cons_succ]; omega
    have b2 : bt (Utf8.encode c) 2 = 128 + c / 64 % 64 := by
      rw [enc4 hp (by omega), bt_lit _ 2 (by simp)]
      have := ofNat_val (128 + c.toNat / 64 % 64) (by omega)
      simp only [List.getElem_cons_zero, List.getElem_cons_succ]; omega
    have b3 : bt (Utf8.encode c) 3 = 128 + c % 64 := by
      rw [enc4 hp (by omega), bt_lit _ 3 (by simp)]
      have := ofNat_val (128 + c.toNat % 64) (by omega)
      simp only [List.getElem_cons_zero, List.getElem_cons_succ]; omega
    have hl : ln (bt (Utf8.encode c) 0) = 4 := by rw [b0]; unfold ln; rw [if_neg (by omega), if_neg (by omega), if_neg (by omega), if_neg (by omega), if_pos (by omega)]
    have hc : nc (Utf8.encode c) 0 = c := nc_of hl (by omega) (by omega) (by simp only [okn, Nat.zero_add, b1, b2, b3, Nat.reduceSub, Nat.reduceAdd, Bool.true_and, Bool.and_eq_true]; exact ⟨⟨isCo_yes (by omega) (by omega), isCo_yes (by omega) (by omega)⟩, isCo_yes (by omega) (by omega)⟩) (by simp only [jp, hdOf, Nat.zero_add, Nat.reduceSub, Nat.reduceAdd, b0, b1, b2, b3]; omega) (by simp only [lstOf]; omega) hp
    unfold Reads
    rw [e]
    exact ⟨hs, hc, nl_of hl hc hb.1, hl⟩
theorem lenOf_pos (c : Int) : 1 ≤ lenOf c ∧ lenOf c ≤ 4 := by
  unfold lenOf
  repeat' split
  all_goals omega
/-- It is one valid text of one code point. -/
theorem vd_enc {c : Int} (hp : isPt c = true) : vd (Utf8.encode c) 0 = true := by
  obtain ⟨h1, h2, h3, -⟩ := reads_enc hp
  have hb := pt_bd hp
  have := lenOf_pos c
  rw [vd_go (by omega) (by omega), h3]
  exact vd_end (by omega)
theorem ct_enc {c : Int} (hp : isPt c = true) : ct (Utf8.encode c) 0 = 1 := by
  obtain ⟨h1, h2, h3, -⟩ := reads_enc hp
  have := lenOf_pos c
  rw [ct_go (by omega), h3, ct_end (by omega)]
end Go.Proofs.YtnejkdaiopjchaaDoor
