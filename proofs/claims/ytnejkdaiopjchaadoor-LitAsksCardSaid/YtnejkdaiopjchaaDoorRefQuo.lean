/-
  The contract of the document's own Quoted.
-/
import Derived.Test.YtnejkdaiopjchaaDoorRefEscDef
import Derived.Test.YtnejkdaiopjchaaDoorRefQuoBad
import Derived.Deep.LoopGhost
import Derived.OwnWalk
namespace Go.Proofs.YtnejkdaiopjchaaDoor
open Go.RowKit Go.PlainAid

/-- Midway: the numbers so far. -/
def Rk (w0 wr : World) (v : Value) (L : List Int) : Prop :=
  wr.ownsRow w0.heap.size 3 1 v L.length (L.map (Value.int .i64)) ∧ Below w0.heap.size w0 wr
theorem rk_start (w0 : World) (n : Nat) : Rk w0 (w0.drewN n) (.slice none 0 0) [] := ⟨World.ownsRow_nil _ _ _ _, Below.ofDrewN _ _⟩
theorem Rk.below {w0 wr w1 : World} {v : Value} {L : List Int} (h : Rk w0 wr v L) (hb : Below wr.heap.size wr w1) : Rk w0 w1 v L :=
  ⟨ownBelow h.1 hb, h.2.trans (hb.mono h.2.size)⟩
theorem Rk.put {w0 w1 w2 : World} {v v' : Value} {L : List Int} {c : Int} (h : Rk w0 w1 v L) (o : Obj)
    (hown : w2.ownsRow w0.heap.size 3 1 v' (L.length + 1) (L.map (Value.int .i64) ++ [.int .i64 c])) (hg : (w1.alloc o).grownBy w2 v.ownBlock) : Rk w0 w2 v' (L ++ [c]) := by
  refine ⟨by rw [List.length_append, List.map_append]; exact hown, ?_⟩
  refine (h.2.alloc h.2.size o).grown hg (Nat.le_trans h.2.size (by simp)) ?_
  intro j hj
  exact (h.1.lt j hj).1
theorem Rk.fin {w0 wB : World} {v : Value} {Q : Option (List Int)} {L : List Int} (hQ : Q = some L) (hk : Rk w0 wB v L) : QuoAre w0 Q (.returned (.tuple #[v, .int .i64 0])) wB := by
  subst hQ
  exact ⟨v, rfl, hk.1, hk.2⟩
/-- Between two quotes, it is what stands between that decides. -/
theorem quo_btw {s : ByteArray} (hb : btw s = true) : quo s = qi (s.extract 1 (s.size - 1)) (bt s 0) 0 := by
  obtain ⟨b1, b2, b3⟩ := btw_parts hb
  unfold quo
  cases hq : qi (s.extract 1 (s.size - 1)) (bt s 0) 0 with
  | none => split <;> rfl
  | some L =>
    have hv := qi_vd (t := s.extract 1 (s.size - 1)) (q := bt s 0) (s.extract 1 (s.size - 1)).size 0 (by omega) (Nat.zero_le _) (by rw [hq]; rfl)
    have hvd : vd s 0 = true := by
      rw [vd_btw b1 (by omega) (by omega), hv]
      try exact vd_end (by omega)
    rw [if_pos ⟨hvd, hb⟩]
set_option maxRecDepth 100000 in
set_option maxHeartbeats 4000000 in
theorem rquo_in (s : ByteArray) (hs : s.size ≤ 1048576) (h2 : 2 ≤ s.size) (h34 : bt s 0 = 34 ∨ bt s 0 = 39) (hsame : bt s (s.size - 1) = bt s 0) (HE : Hid (∀ k : Nat, EscR (s.extract 0 (s.size - 1)) ((k : Int) + 1) (esc (s.extract 0 (s.size - 1)) (k + 1)).1 (esc (s.extract 0 (s.size - 1)) (k + 1)).2)) (w : World) :
    Calls Tryd.prog 16 #[.string s] w fun e w' => QuoAre w (qi (s.extract 1 (s.size - 1)) (bt s 0) 0) e w' := by
  obtain ⟨i0, hi, hz0, hz1, hz2⟩ := info_parts infoInt
  have hz2' := Lib.hid hz2
  clear hz2
  have hz : (s.extract 1 (s.size - 1)).size = s.size - 2 := by rw [size_ext _ _ _ (by omega)]; omega
  have HX : Hid (∀ k, k < s.size - 2 → nc (s.extract 1 (s.size - 1)) k = nc s (k + 1) ∧ nl (s.extract 1 (s.size - 1)) k = nl s (k + 1)) := fun k hk => by
    have := nc_ext (s := s) (a := 1) (e := s.size - 1) (k := k) (by omega) (by omega) (by omega)
    rw [show k + 1 = 1 + k by omega]
    exact this
  have HS : Hid (∀ k, esc (s.extract 0 (s.size - 1)) (k + 1) = esc (s.extract 1 (s.size - 1)) k) := fun k => by
    have hz' : (s.extract 0 (s.size - 1)).size = s.size - 1 := by rw [size_ext _ _ _ (by omega)]; omega
    have := esc_tail (s.extract 0 (s.size - 1)) 1 k (by omega)
    rw [hz', ByteArray.extract_extract] at this
    rw [show k + 1 = 1 + k by omega, ← this]
    congr 2 <;> omega
  have HN : Hid (∀ k, k + 1 < s.size → RNext s ((k : Int) + 1) (nc s (k + 1)) (nl s (k + 1))) := fun k hk W => rnext_in s (k + 1) W hk (by unfold maxLen; omega)
  have h1 : decide ((s.size : Int) < 2) = false := decide_eq_false (by omega)
  have hp0 : (0 : Int) < (s.size : Int) := by omega
  have h3 : (0 : Int) ≤ (s.size : Int) - 1 := by omega
  have h4 : (s.size : Int) - 1 < (s.size : Int) := by omega
  have h5 : (s.size : Int) - 1 ≤ (s.size : Int) := by omega
  have e1 : ((s.size : Int) - 1).toNat = s.size - 1 := by omega
  have g0 := get_bt s 0 (by omega)
  have g1 := get_bt s (s.size - 1) (by omega)
  rw [hsame] at g1
  have q0 := bt_nonneg s 0
  have q1 := bt_le s 0
  obtain ⟨q, hq⟩ : ∃ q, q = bt s 0 := ⟨_, rfl⟩
  rw [← hq] at g0 g1 q0 q1 h34 ⊢
  clear hq hsame
  have hqq : (q != q) = false := by simp
  obtain ⟨t, ht⟩ : ∃ t, t = s.extract 1 (s.size - 1) := ⟨_, rfl⟩
  rw [← ht] at hz HX HS ⊢
  clear ht
  obtain ⟨Q, hQ⟩ : ∃ Q, Q = qi t q 0 := ⟨_, rfl⟩
  have HQ : Hid (Qm t q Q [] 0) := by rw [hQ]; exact Qm.start t q
  rw [← hQ]
  clear hQ
  have hcase : ((q != 34) = false) ∨ ((q != 34) = true ∧ (q != 39) = false) := by
    rcases h34 with h | h
    · rw [h]; exact .inl rfl
    · rw [h]; exact .inr ⟨rfl, rfl⟩
  clear h34
  rcases hcase with b34 | ⟨b34, b39⟩
  all_goals
    go_enter Tryd.func16, Tryd.ntmps16
    go_wp2_with fail
    go_quiet (fail)
    go_wp2_with fail
    clear b34
    go_loopg [4, 5] t.size (fun gn v i wr => ∃ (p : Nat) (L : List Int), gn = t.size - p ∧ p ≤ t.size ∧ i = .int .i64 ((p : Int) + 1) ∧ L.length ≤ p ∧ Hid (Rk w wr v L) ∧ Hid (Qm t q Q L p))
    case atStart => exact ⟨0, [], rfl, Nat.zero_le _, rfl, Nat.le_refl _, Lib.hid (rk_start w _), HQ⟩
    case round =>
      obtain ⟨p, L, hgn, hp, rfl, hL, HK, HM⟩ := hrel
      obtain ⟨wB, rfl⟩ : ∃ wB : World, wB = wr := ⟨_, rfl⟩
      by_cases hlt : p < t.size
      · have g3 : (p : Int) + 1 < (s.size : Int) - 1 := by omega
        have HN1 := Lib.hid (HN.out p (by omega))
        obtain ⟨x1, x2⟩ := HX.out p (by omega)
        rw [← x1, ← x2] at HN1
        clear x1 x2
        have hin := nl_in t p hlt
        have hps := nl_pos t p
        have hbd := nc_bd t p
        have hl4 := nl_le t p
        have HC : Hid ((bt t p = 92 → cell1 t q p = (esc t p).1 ∧ step1 t p = max 1 (esc t p).2) ∧ (bt t p ≠ 92 → cell1 t q p = (if nc t p < 32 ∨ nc t p = q then -1 else nc t p) ∧ step1 t p = nl t p)) := by
          constructor
          · intro h; exact ⟨by unfold cell1; rw [if_pos h], by unfold step1; rw [if_pos h]⟩
          · intro h; exact ⟨by unfold cell1; rw [if_neg h], by unfold step1; rw [if_neg h]⟩
        have H92 : Hid (nc t p = 92 ↔ bt t p = 92) := ⟨fun h => nc_small h (by omega) (by omega), fun h => by rw [(nc_ascii hlt (by omega)).1, h]⟩
        obtain ⟨r, hr⟩ : ∃ r : Int, r = nc t p := ⟨_, rfl⟩
        obtain ⟨d, hd⟩ : ∃ d, d = nl t p := ⟨_, rfl⟩
        rw [← hr] at HC H92 hbd HN1
        rw [← hd] at hin hps HC HN1 hl4
        clear hr hd
        by_cases h92 : bt t p = 92
        · obtain ⟨c1, c2⟩ := HC.out.1 h92
          have r92 : r = 92 := H92.out.2 h92
          subst r92
          have HE1 := Lib.hid (HE.out p)
          rw [HS.out p] at HE1
          have eb := esc_bd t p
          have HEV : Hid ((esc t p).1 ≠ -1 → 2 ≤ (esc t p).2 ∧ p + (esc t p).2 ≤ t.size) := fun h => by
            obtain ⟨-, -, e3, e4, -, -⟩ := esc_vd (s := t) (k := p) h
            exact ⟨e3, e4⟩
          obtain ⟨c, hc⟩ : ∃ c, c = (esc t p).1 := ⟨_, rfl⟩
          obtain ⟨n, hn⟩ : ∃ n, n = (esc t p).2 := ⟨_, rfl⟩
          rw [← hc] at c1 HE1 eb HEV
          rw [← hn] at c2 HE1 eb HEV
          have C1 := Lib.hid c1
          have C2 := Lib.hid c2
          clear hc hn c1 c2 HC H92 h92
          by_cases hc1 : c = -1
          · subst hc1
            have HF : Hid (Q = none) := HM.out.bad hlt (by rw [C1.out]; omega)
            go_wp2_with fail
            refine (HN1.out _).mono ?_
            rintro e w1 ⟨rfl, m1, rfl⟩
            go_wp2_with fail
            refine (HE1.out _).mono ?_
            rintro e w2 ⟨rfl, hb2⟩
            have HB2 : Hid (Rk w w2 _ L) := (HK.out.below (Below.ofDrewN _ _)).below hb2
            clear hb2
            go_wp2_with fail
            go_ret2
            exact QuoAre.bad HF.out HB2.out.2
          · have c0 : 0 ≤ c := by omega
            obtain ⟨n2, np⟩ := HEV.out hc1
            have HM1 : Hid (Qm t q Q (L ++ [c]) (p + n)) := by
              have := HM.out.go hlt (by rw [C1.out]; omega)
              rw [C1.out, C2.out, show max 1 n = n by omega] at this
              exact this
            clear hc1
            go_wp2_with fail
            refine (HN1.out _).mono ?_
            rintro e w1 ⟨rfl, m1, rfl⟩
            go_wp2_with fail
            refine (HE1.out _).mono ?_
            rintro e w2 ⟨rfl, hb2⟩
            have HK2 : Hid (Rk w w2 _ L) := (HK.out.below (Below.ofDrewN _ _)).below hb2
            have HO := HK2.out.1
            have zle : w.heap.size ≤ w2.heap.size := HK2.out.2.size
            clear hb2
            go_wp2_with (at_builtin; go_must (refine wpList_append_own _ rfl _ _ 29 rfl w.heap.size 3 i0 (.int .i64 0) 1 8 Tryd.underlying29 hi hz0 hz1 hz2'.out rfl (by decide) _ _ _ rfl (HO.alloc _) ⟨w2.heap.size, 0, none⟩ 1 1 [.int .i64 c] rfl rfl (cell_one_new _ _ _) (by intro u hu; simp at hu; subst hu; rfl) (by unfold maxLen; omega) (by omega) (by simp; omega) ?_); intro v' w3 hown hgrow _)
            have HK3 := Lib.hid (HK2.out.put _ hown hgrow)
            clear hown hgrow
            go_wp2_with fail
            go_roundg (t.size - (p + n))
            case measure => omega
            case rel => exact ⟨p + n, L ++ [c], rfl, np, by go_num, by rw [List.length_append]; simp; omega, HK3, HM1⟩
        · obtain ⟨c1, c2⟩ := HC.out.2 h92
          have r92 : (r == 92) = false := beq_false_of_ne (fun h => h92 (H92.out.1 h))
          have C1 := Lib.hid c1
          have C2 := Lib.hid c2
          clear c1 c2 HC H92 h92
          by_cases hrq : r = q
          · have HF : Hid (Q = none) := HM.out.bad hlt (by rw [C1.out, if_pos (.inr hrq)]; omega)
            have gq : (r == q) = true := by rw [hrq]; exact beq_self_eq_true q
            clear hrq
            go_wp2_with fail
            refine (HN1.out _).mono ?_
            rintro e w1 ⟨rfl, m1, rfl⟩
            go_wp2_with fail
            go_ret2
            exact QuoAre.bad HF.out (HK.out.below (Below.ofDrewN _ _)).2
          · have gq : (r == q) = false := beq_false_of_ne hrq
            by_cases hr32 : r < 32
            · have HF : Hid (Q = none) := HM.out.bad hlt (by rw [C1.out, if_pos (.inl hr32)]; omega)
              clear hrq
              go_wp2_with fail
              refine (HN1.out _).mono ?_
              rintro e w1 ⟨rfl, m1, rfl⟩
              go_wp2_with fail
              go_ret2
              exact QuoAre.bad HF.out (HK.out.below (Below.ofDrewN _ _)).2
            · have HM1 : Hid (Qm t q Q (L ++ [r]) (p + d)) := by
                have := HM.out.go hlt (by rw [C1.out, if_neg (by omega)]; omega)
                rw [C1.out, C2.out, if_neg (by omega)] at this
                exact this
              have r0 : 0 ≤ r := by omega
              clear hrq
              go_wp2_with fail
              refine (HN1.out _).mono ?_
              rintro e w1 ⟨rfl, m1, rfl⟩
              have HK2 : Hid (Rk w (wB.drewN m1) _ L) := HK.out.below (Below.ofDrewN _ _)
              obtain ⟨w2, hw2⟩ : ∃ w2, w2 = wB.drewN m1 := ⟨_, rfl⟩
              rw [← hw2] at HK2 ⊢
              clear hw2
              have HO := HK2.out.1
              have zle : w.heap.size ≤ w2.heap.size := HK2.out.2.size
              go_wp2_with (at_builtin; go_must (refine wpList_append_own _ rfl _ _ 29 rfl w.heap.size 3 i0 (.int .i64 0) 1 8 Tryd.underlying29 hi hz0 hz1 hz2'.out rfl (by decide) _ _ _ rfl (HO.alloc _) ⟨w2.heap.size, 0, none⟩ 1 1 [.int .i64 r] rfl rfl (cell_one_new _ _ _) (by intro u hu; simp at hu; subst hu; rfl) (by unfold maxLen; omega) (by omega) (by simp; omega) ?_); intro v' w3 hown hgrow _)
              have HK3 := Lib.hid (HK2.out.put _ hown hgrow)
              clear hown hgrow
              go_wp2_with fail
              go_roundg (t.size - (p + d))
              case measure => omega
              case rel => exact ⟨p + d, L ++ [r], rfl, hin, by go_num, by rw [List.length_append]; simp; omega, HK3, HM1⟩
      · obtain rfl : p = t.size := by omega
        have g3 : ¬ (t.size : Int) + 1 < (s.size : Int) - 1 := by omega
        have HF : Hid (Q = some L) := HM.out.fin (by omega)
        go_wp2_with fail
        go_ret2
        exact Rk.fin HF.out HK.out
/-- QUOTED, the document's way: the same. -/
theorem rQuoted_any (s : ByteArray) (hs : s.size ≤ 1048576) (HE : ∀ (t : ByteArray) (k : Nat), t.size ≤ 1048576 → EscR t k (esc t k).1 (esc t k).2) (w : World) :
    Calls Tryd.prog 16 #[.string s] w fun e w' => QuoAre w (quo s) e w' := by
  cases hb : btw s
  · exact rquo_bad s hs hb w
  · obtain ⟨b1, b2, b3⟩ := btw_parts hb
    rw [quo_btw hb]
    refine rquo_in s hs b1 b3 b2.symm (fun k => ?_) w
    have hz : (s.extract 0 (s.size - 1)).size = s.size - 1 := by rw [size_ext _ _ _ (by omega)]; omega
    exact HE _ (k + 1) (by omega)
end Go.Proofs.YtnejkdaiopjchaaDoor
