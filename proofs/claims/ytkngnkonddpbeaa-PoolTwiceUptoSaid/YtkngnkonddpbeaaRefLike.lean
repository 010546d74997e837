/-
  THE DOCUMENT's like: Same and Like.
-/
import Derived.Test.YtkngnkonddpbeaaRefLikeF
import Derived.Test.YtkngnkonddpbeaaRefLikeT
import Derived.Test.YtkngnkonddpbeaaRefLikeMF
import Derived.Test.YtkngnkonddpbeaaRefLikeMT
namespace Go.Proofs.Ytkngnkonddpbeaa
open Go.RowKit Go.PlainAid

theorem rlike_any (all : Bool) : ∀ (m : Nat), m ≤ 1048576 → ∀ (n : Nd), cnt n ≤ m → sml n → ∀ (n2 : Nd) (c c2 : List Value) (w : World), NdAt w c n → NdAt w c2 n2 →
    Calls Try.prog 17 #[.agg c.toArray, .agg c2.toArray, .bool all] w fun e w' => e = .returned (.bool (lk all n n2)) ∧ Below w.heap.size w w'
  | 0, _, n, hn, _, _, _, _, _, _, _ => by have := cnt_pos n; omega
  | m + 1, hm, .mk k t l br bl no ta, hn, hsm, .mk k2 t2 l2 br2 bl2 no2 ta2, c, c2, w, h, h2 => by
    obtain ⟨lv, nv, tv, cs, rfl, hno, hta, hl, hc⟩ := h.inv
    obtain ⟨lv2, nv2, tv2, cs2, rfl, hno2, hta2, hl2, hc2⟩ := h2.inv
    clear h h2
    simp only [cnt] at hn
    simp only [sml] at hsm
    obtain ⟨zn, zt, hsm⟩ := hsm
    simp only [lk]
    have TX1 := Lib.hid (fun W (hb : Below w.heap.size w W) => rtexts_any no no2 (by omega) nv nv2 W (hno.below hb) (hno2.below hb))
    have TX2 := Lib.hid (fun W (hb : Below w.heap.size w W) => rtexts_any ta ta2 (by omega) tv tv2 W (hta.below hb) (hta2.below hb))
    have hlen := len_cntL l
    have hl' := hl
    have hl2' := hl2
    obtain ⟨a, cap, rfl, -⟩ := hl
    obtain ⟨a2, cap2, rfl, -⟩ := hl2
    cases hd : (k == k2 && t.toList == t2.toList && bl == bl2 && (!all || br == br2))
    · simp only [Bool.false_and]
      exact rlike_d1 all k t a _ cap br bl nv tv k2 t2 a2 _ cap2 br2 bl2 nv2 tv2 w hd
    simp only [Bool.and_eq_true] at hd
    obtain ⟨⟨⟨hk, ht⟩, hbl⟩, hbr⟩ := hd
    obtain rfl : k = k2 := by simpa using hk
    obtain rfl : t = t2 := ba_eq ht
    obtain rfl : bl = bl2 := by simpa using hbl
    simp only [Bool.true_and]
    have HI : ∀ al, al = all → Hid (∀ (i : Nat) (x : Nd) (c : List Value) (y : Nd) (c2 : List Value), l[i]? = some x → NdAt w c x → NdAt w c2 y → ∀ W, Below w.heap.size w W → Calls Try.prog 17 #[.agg c.toArray, .agg c2.toArray, .bool al] W fun e w' => e = .returned (.bool (lk al x y)) ∧ Below W.heap.size W w') :=
      fun al e => Lib.hid (fun i x c y c2 hx hc hc2 W hb => by subst e; exact rlike_any al m (by omega) x (by have := cnt_at hx; omega) (sml_at hsm hx) y c c2 W (hc.bel hb) (hc2.bel hb))
    cases hd2 : (decide (no = no2) && decide (ta = ta2) && decide (l.length = l2.length))
    · have hf : (decide (no = no2) && decide (ta = ta2) && lkL all l l2) = false := by
        by_cases hL : l.length = l2.length
        · rw [decide_eq_true hL, Bool.and_true] at hd2
          rw [hd2, Bool.false_and]
        · rw [lkL_len all hL, Bool.and_false]
      rw [hf]
      cases all
      · exact rlike_d2f k t a _ cap br bl nv tv a2 _ cap2 br2 nv2 tv2 w _ _ TX1 TX2 hd2
      · obtain rfl : br = br2 := by simpa using hbr
        exact rlike_d2t k t a _ cap br bl nv tv a2 _ cap2 nv2 tv2 w _ _ TX1 TX2 hd2
    · simp only [Bool.and_eq_true] at hd2
      obtain ⟨⟨h1, h2⟩, h3⟩ := hd2
      rw [h1] at TX1 ⊢
      rw [h2] at TX2 ⊢
      have h3 : l.length = l2.length := of_decide_eq_true h3
      simp only [Bool.true_and]
      cases all
      · have := rlike_mf k t a l.length cap br bl nv tv a2 cap2 br2 nv2 tv2 w l l2 cs cs2 (by omega) TX1 TX2 (HI false rfl) (Lib.hid rfl) (Lib.hid h3) hl' hc hl2' hc2
        rw [← h3]; exact this
      · obtain rfl : br = br2 := by simpa using hbr
        have := rlike_mt k t a l.length cap br bl nv tv a2 cap2 nv2 tv2 w l l2 cs cs2 (by omega) TX1 TX2 (HI true rfl) (Lib.hid rfl) (Lib.hid h3) hl' hc hl2' hc2
        rw [← h3]; exact this
end Go.Proofs.Ytkngnkonddpbeaa
