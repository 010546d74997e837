/-
  The contract of package lit's Quoted.
-/
import Derived.Test.YtnejkdaiopjchaaDoorLitChar
import Derived.Test.YtnejkdaiopjchaaDoorQuoMath
import Derived.Test.YtnejkdaiopjchaaDoorUtfDec
import Derived.Deep.LoopGhost
import Derived.Lib.OthersKept
import Derived.OwnWalk
namespace Go.Proofs.YtnejkdaiopjchaaDoor
open Go.RowKit Go.PlainAid

theorem infoInt : (Tryd.prog.info? 3).map (fun i => (i.zero, i.size, i.bytes)) = some (some (.int .i64 0), 1, 8) := by kernel_rfl
/-- The code points of a quoted text. -/
def quo (s : ByteArray) : Option (List Int) := if vd s 0 = true ∧ btw s = true then qi (s.extract 1 (s.size - 1)) (bt s 0) 0 else none
def qe (o : Option (List Int)) : Int := if o.isSome = true then 0 else 8
/-- What Quoted's end is. -/
def QuoAre (w0 : World) (o : Option (List Int)) (e : Ending) (w' : World) : Prop :=
  ∃ v, e = .returned (.tuple #[v, .int .i64 (qe o)]) ∧ w'.ownsRow w0.heap.size 3 1 v (o.getD []).length ((o.getD []).map (Value.int .i64)) ∧ Below w0.heap.size w0 w'
/-- Midway: the numbers so far, the iterator at byte p. -/
def Qk (w0 : World) (t : ByteArray) (wr : World) (p : Nat) (v : Value) (L : List Int) : Prop :=
  wr.ownsRow w0.heap.size 3 1 v L.length (L.map (Value.int .i64)) ∧ Below w0.heap.size w0 wr ∧ wr.heap[w0.heap.size]? = some (.stringIter t p)
theorem ownBelow {w w' : World} {base : Nat} {e : TypeId} {size : Nat} {v : Value} {n : Nat} {xs : List Value} (h : w.ownsRow base e size v n xs) (hb : Below w.heap.size w w') : w'.ownsRow base e size v n xs := by
  obtain ⟨h1, h2 | ⟨g, cap, cur, h3, h4, h5, h6⟩⟩ := h
  · exact ⟨h1, .inl h2⟩
  · refine ⟨h1, .inr ⟨g, cap, cur, h3, h4, ?_, h6⟩⟩
    rw [hb.block g (by have := (Array.getElem?_eq_some_iff.1 h5).1; exact this)]
    exact h5
theorem ownIterAt {w : World} {B e size n : Nat} {v : Value} {xs : List Value} {k : Nat} {s : ByteArray} {pos : Nat} (h : w.ownsRow B e size v n xs) (hk : w.heap[k]? = some (.stringIter s pos)) (pos' : Nat) : (w.iterAt k s pos').ownsRow B e size v n xs := by
  refine ⟨h.1, ?_⟩
  rcases h.2 with h0 | ⟨g, cap, cur, hv, hb, hg, rest⟩
  · exact .inl h0
  · refine .inr ⟨g, cap, cur, hv, hb, ?_, rest⟩
    rw [Lib.iterAt_other _ _ _ _ _ (fun e => by subst e; rw [hk] at hg; cases hg)]
    exact hg
theorem ownNeIter {w : World} {B e size n : Nat} {v : Value} {xs : List Value} {k : Nat} {s : ByteArray} {pos : Nat} (h : w.ownsRow B e size v n xs) (hk : w.heap[k]? = some (.stringIter s pos)) : some k ≠ v.ownBlock := by
  rcases h.2 with ⟨rfl, _⟩ | ⟨g, cap, cur, rfl, hb, hg, rest⟩
  · simp [Value.ownBlock]
  · intro e
    simp only [Value.ownBlock, Option.some.injEq] at e
    subst e
    rw [hk] at hg
    cases hg
theorem qk_start (w0 : World) (t : ByteArray) : Qk w0 t (w0.iter t 0) 0 (.slice none 0 0) [] := ⟨World.ownsRow_nil _ _ _ _, below_iter w0 t 0, World.iter_heap w0 t 0⟩
theorem Qk.lt {w0 wr : World} {t : ByteArray} {p : Nat} {v : Value} {L : List Int} (h : Qk w0 t wr p v L) : w0.heap.size < wr.heap.size := (Array.getElem?_eq_some_iff.1 h.2.2).1
theorem Qk.next {w0 wr : World} {t : ByteArray} {p : Nat} {v : Value} {L : List Int} (h : Qk w0 t wr p v L) (p' : Nat) : Qk w0 t (wr.iterAt w0.heap.size t p') p' v L :=
  ⟨ownIterAt h.1 h.2.2 p', Lib.below_iterAt h.2.1 (Nat.le_refl _) t p', Lib.iterAt_heap wr w0.heap.size t p p' h.2.2⟩
theorem Qk.below {w0 wr w1 : World} {t : ByteArray} {p : Nat} {v : Value} {L : List Int} (h : Qk w0 t wr p v L) (hb : Below wr.heap.size wr w1) : Qk w0 t w1 p v L :=
  ⟨ownBelow h.1 hb, h.2.1.trans (hb.mono h.2.1.size), (hb.block _ h.lt).trans h.2.2⟩
theorem Qk.put {w0 w1 w2 : World} {t : ByteArray} {p : Nat} {v v' : Value} {L : List Int} {c : Int} (h : Qk w0 t w1 p v L) (o : Obj)
    (hown : w2.ownsRow w0.heap.size 3 1 v' (L.length + 1) (L.map (Value.int .i64) ++ [.int .i64 c])) (hg : (w1.alloc o).grownBy w2 v.ownBlock) : Qk w0 t w2 p v' (L ++ [c]) := by
  refine ⟨by rw [List.length_append, List.map_append]; exact hown, ?_, ?_⟩
  · refine (h.2.1.alloc h.2.1.size o).grown hg (Nat.le_trans h.2.1.size (by simp)) ?_
    intro j hj
    exact (h.1.lt j hj).1
  · have hlt := h.lt
    rw [hg.block w0.heap.size (by simp; omega) (ownNeIter h.1 h.2.2), ← h.2.2]
    show (w1.heap.push o)[w0.heap.size]? = w1.heap[w0.heap.size]?
    rw [Array.getElem?_push_lt hlt]
    simp [hlt]
theorem QuoAre.fin {w0 wB : World} {t : ByteArray} {p : Nat} {v : Value} {Q : Option (List Int)} {L : List Int} (hQ : Q = some L) (hk : Qk w0 t wB p v L) : QuoAre w0 Q (.returned (.tuple #[v, .int .i64 0])) wB := by
  subst hQ
  exact ⟨v, rfl, hk.1, hk.2.1⟩
theorem QuoAre.bad {w0 wB : World} {Q : Option (List Int)} (hQ : Q = none) (hb : Below w0.heap.size w0 wB) : QuoAre w0 Q (.returned (.tuple #[.slice none 0 0, .int .i64 8])) wB := by
  subst hQ
  exact ⟨_, rfl, World.ownsRow_nil _ _ _ _, hb⟩
/-- What has been read, and what there is to read: from byte m on. -/
def Qm (t : ByteArray) (q : Int) (Q : Option (List Int)) (L : List Int) (m : Nat) : Prop := Q = (qi t q m).map (L ++ ·)
theorem Qm.bad {t : ByteArray} {q : Int} {Q : Option (List Int)} {L : List Int} {m : Nat} (h : Qm t q Q L m) (hm : m < t.size) (hc : cell1 t q m < 0) : Q = none := by
  unfold Qm at h
  rw [h, qi_bad hm hc]; rfl
theorem Qm.go {t : ByteArray} {q : Int} {Q : Option (List Int)} {L : List Int} {m : Nat} (h : Qm t q Q L m) (hm : m < t.size) (hc : ¬ cell1 t q m < 0) : Qm t q Q (L ++ [cell1 t q m]) (m + step1 t m) := by
  unfold Qm at h ⊢
  rw [h, qi_go hm hc]
  cases qi t q (m + step1 t m) with
  | none => rfl
  | some M => simp
theorem Qm.fin {t : ByteArray} {q : Int} {Q : Option (List Int)} {L : List Int} {m : Nat} (h : Qm t q Q L m) (hm : ¬ m < t.size) : Q = some L := by
  unfold Qm at h
  rw [h, qi_end hm]; simp
theorem Qm.start (t : ByteArray) (q : Int) : Qm t q (qi t q 0) [] 0 := by
  unfold Qm
  cases qi t q 0 <;> rfl

set_option maxRecDepth 100000 in
set_option maxHeartbeats 4000000 in
/-- THE LOOP's WAY: a valid text between quotes. -/
theorem quoted_in (s : ByteArray) (hs : s.size ≤ 1048576) (h2 : 2 ≤ s.size) (hv : vd (s.extract 1 (s.size - 1)) 0 = true) (HV : Hid (∀ W, LTabs W → Calls Tryd.prog 34 #[.string s] W fun e w' => e = .returned (.bool true) ∧ ∃ n, w' = W.drewN n))
    (HB : Hid (∀ W, Calls Tryd.prog 35 #[.string s] W fun e w' => e = .returned (.bool true) ∧ ∃ n, w' = W.drewN n)) (w : World) (HT : Hid (LTabs w)) :
    Calls Tryd.prog 15 #[.string s] w fun e w' => QuoAre w (qi (s.extract 1 (s.size - 1)) (bt s 0) 0) e w' := by
  obtain ⟨i0, hi, hz0, hz1, hz2⟩ := info_parts infoInt
  have hz2' := Lib.hid hz2
  clear hz2
  have hz : (s.extract 1 (s.size - 1)).size = s.size - 2 := by rw [size_ext _ _ _ (by omega)]; omega
  have gb := get_bt s 0 (by omega)
  have q0 := bt_nonneg s 0
  have q1 := bt_le s 0
  obtain ⟨q, hq⟩ : ∃ q, q = bt s 0 := ⟨_, rfl⟩
  rw [← hq] at gb q0 q1 ⊢
  clear hq
  obtain ⟨t, ht⟩ : ∃ t, t = s.extract 1 (s.size - 1) := ⟨_, rfl⟩
  rw [← ht] at hz hv ⊢
  have HE := Lib.hid (fun k W hT => escape_any t k (by unfold maxLen; omega) W hT)
  obtain ⟨Q, hQ⟩ : ∃ Q, Q = qi t q 0 := ⟨_, rfl⟩
  have HQ : Hid (Qm t q Q [] 0) := by rw [hQ]; exact Qm.start t q
  rw [← hQ]
  clear hQ
  have hs1 : (1 : Int) ≤ (s.size : Int) - 1 := by omega
  have hs2 : (s.size : Int) - 1 ≤ (s.size : Int) := by omega
  have hs3 : ((s.size : Int) - 1).toNat = s.size - 1 := by omega
  have hss := hs
  go_enter Tryd.func15, Tryd.ntmps15
  go_wp2_with fail
  refine (HV.out _ HT.out).mono ?_
  rintro e w' ⟨rfl, n1, rfl⟩
  go_wp2_with fail
  refine (HB.out _).mono ?_
  rintro e w' ⟨rfl, n2, rfl⟩
  go_wp2_with fail
  rw [← ht]
  clear ht
  go_loopg [5, 6] t.size (fun gn v nx wr => ∃ (p m : Nat) (L : List Int), gn = t.size - p ∧ p ≤ t.size ∧ m ≤ t.size ∧ nx = .int .i64 m ∧ L.length ≤ max p m ∧ Hid (Qk w t wr p v L) ∧ Hid (Qm t q Q L (max p m)) ∧ Hid (vd t p = true) ∧ Hid (vd t m = true))
  case atStart => exact ⟨0, 0, [], rfl, Nat.zero_le _, Nat.zero_le _, rfl, Nat.le_refl _, ⟨World.ownsRow_nil _ _ _ _, (Below.ofDrewN w _).trans (below_iter (w.drewN _) t 0), World.iter_heap _ t 0⟩, HQ, hv, hv⟩
  case round =>
    obtain ⟨p, m, L, hgn, hp, hm, rfl, hL, HK, HM, VP, VM⟩ := hrel
    obtain ⟨wB, rfl⟩ : ∃ wB : World, wB = wr := ⟨_, rfl⟩
    by_cases hlt : p < t.size
    · have hn0 : ¬ nc t p < 0 := fun h => by have := VP.out; rw [vd_bad hlt h] at this; cases this
      obtain ⟨d1, d2⟩ := dec_nc hn0
      have hin := nl_in t p hlt
      have hps := nl_pos t p
      have hbd := nc_bd t p
      have VN : Hid (vd t (p + nl t p) = true) := by rw [← vd_go hlt hn0]; exact VP.out
      have HJ : Hid (p < m → p + nl t p ≤ m) := fun h => vd_jump VP.out VM.out h hm
      have HC : Hid ((bt t p = 92 → cell1 t q p = (esc t p).1 ∧ step1 t p = max 1 (esc t p).2 ∧ nl t p = 1) ∧ (bt t p ≠ 92 → cell1 t q p = (if nc t p < 32 ∨ nc t p = q then -1 else nc t p) ∧ step1 t p = nl t p)) := by
        constructor
        · intro h; exact ⟨by unfold cell1; rw [if_pos h], by unfold step1; rw [if_pos h], (nc_ascii hlt (by omega)).2⟩
        · intro h; exact ⟨by unfold cell1; rw [if_neg h], by unfold step1; rw [if_neg h]⟩
      have H92 : Hid (nc t p = 92 ↔ bt t p = 92) := ⟨fun h => nc_small h (by omega) (by omega), fun h => by rw [(nc_ascii hlt (by omega)).1, h]⟩
      obtain ⟨r, hr⟩ : ∃ r : Int, r = nc t p := ⟨_, rfl⟩
      obtain ⟨d, hd⟩ : ∃ d, d = nl t p := ⟨_, rfl⟩
      rw [← hr] at d1 HC H92 hn0 hbd
      rw [← hd] at d2 hin hps VN HJ HC
      have hnx : ∀ ty, (Instr.next (.pointer (some ⟨w.heap.size, 0, none⟩)) true ty).run Tryd.prog wB = .ok (.tuple #[.bool true, .int .i64 p, .int .i32 r]) (wB.iterAt w.heap.size t (p + d)) := fun ty => by
        rw [Lib.run_next_any_at wB w.heap.size t p ty HK.out.2.2 hlt, d1, d2]
      have HK1 : Hid (Qk w t (wB.iterAt w.heap.size t (p + d)) (p + d) _ L) := HK.out.next (p + d)
      obtain ⟨W1, hW1⟩ : ∃ W1, W1 = wB.iterAt w.heap.size t (p + d) := ⟨_, rfl⟩
      rw [← hW1] at hnx HK1
      clear hW1 hr hd d1 d2
      by_cases hpm : p < m
      · have hj := HJ.out hpm
        have HM1 : Hid (Qm t q Q L (max (p + d) m)) := by rw [show max (p + d) m = max p m by omega]; exact HM.out
        clear hn0 hbd
        go_wp2_with fail
        go_roundg (t.size - (p + d))
        case measure => omega
        case rel => exact ⟨p + d, m, L, rfl, hin, hm, rfl, by omega, HK1, HM1, VN, VM⟩
      · have g1 : ¬ (p : Int) < (m : Int) := by omega
        have e1 : max p m = p := by omega
        rw [e1] at HM hL
        clear e1 HJ
        by_cases h92 : bt t p = 92
        · obtain ⟨c1, c2, c3⟩ := HC.out.1 h92
          have r92 : r = 92 := H92.out.2 h92
          subst r92
          have hd1 := Lib.hid (show d ≤ 2 by omega)
          have HE1 := Lib.hid (fun W hT => HE.out p W hT)
          have eb := esc_bd t p
          have HEV : Hid ((esc t p).1 ≠ -1 → 2 ≤ (esc t p).2 ∧ p + (esc t p).2 ≤ t.size ∧ vd t (p + (esc t p).2) = true) := fun h => by
            obtain ⟨-, -, e3, e4, e5, -⟩ := esc_vd (s := t) (k := p) h
            exact ⟨e3, e4, by rw [← e5]; exact VP.out⟩
          obtain ⟨c, hc⟩ : ∃ c, c = (esc t p).1 := ⟨_, rfl⟩
          obtain ⟨n, hn⟩ : ∃ n, n = (esc t p).2 := ⟨_, rfl⟩
          rw [← hc] at c1 HE1 eb HEV
          rw [← hn] at c2 HE1 eb HEV
          have C1 := Lib.hid c1
          have C2 := Lib.hid c2
          clear hc hn c1 c2 c3 HC H92 h92 hn0 hbd HK
          by_cases hc1 : c = -1
          · subst hc1
            have HF : Hid (Q = none) := HM.out.bad hlt (by rw [C1.out]; omega)
            go_wp2_with fail
            refine (HE1.out _ (HT.out.below HK1.out.2.1)).mono ?_
            rintro e w2 ⟨rfl, hb2⟩
            have HB2 : Hid (Below w.heap.size w w2) := HK1.out.2.1.trans (hb2.mono HK1.out.2.1.size)
            clear hb2
            go_wp2_with fail
            go_ret2
            exact QuoAre.bad HF.out HB2.out
          · have gc : (c == -1) = false := beq_false_of_ne hc1
            obtain ⟨n2, np, nv⟩ := HEV.out hc1
            have NV := Lib.hid nv
            have HM1 : Hid (Qm t q Q (L ++ [c]) (p + n)) := by
              have := HM.out.go hlt (by rw [C1.out]; omega)
              rw [C1.out, C2.out, show max 1 n = n by omega] at this
              exact this
            clear nv hc1
            go_wp2_with fail
            refine (HE1.out _ (HT.out.below HK1.out.2.1)).mono ?_
            rintro e w2 ⟨rfl, hb2⟩
            have HK2 := Lib.hid (HK1.out.below hb2)
            have HO := HK2.out.1
            have zle : w.heap.size ≤ w2.heap.size := HK2.out.2.1.size
            clear hb2
            go_wp2_with (at_builtin; go_must (refine wpList_append_own _ rfl _ _ 29 rfl w.heap.size 3 i0 (.int .i64 0) 1 8 Tryd.underlying29 hi hz0 hz1 hz2'.out rfl (by decide) _ _ _ rfl (HO.alloc _) ⟨w2.heap.size, 0, none⟩ 1 1 [.int .i64 c] rfl rfl (cell_one_new _ _ _) (by intro u hu; simp at hu; subst hu; rfl) (by unfold maxLen; omega) (by omega) (by simp; omega) ?_); intro v' w3 hown hgrow _)
            have HK3 := Lib.hid (HK2.out.put _ hown hgrow)
            clear hown hgrow
            go_wp2_with fail
            go_roundg (t.size - (p + d))
            case measure => omega
            case rel => exact ⟨p + d, p + n, L ++ [c], rfl, hin, np, by go_num, by have := hd1.out; rw [List.length_append]; simp; omega, HK3, by have := hd1.out; rw [show max (p + d) (p + n) = p + n by omega]; exact HM1, VN, NV⟩
        · obtain ⟨c1, c2⟩ := HC.out.2 h92
          have r92 : (r == 92) = false := beq_false_of_ne (fun h => h92 (H92.out.1 h))
          have C1 := Lib.hid c1
          have C2 := Lib.hid c2
          clear c1 c2 HC H92 h92 HK
          have hr0 : 0 ≤ r := by omega
          obtain ⟨-, hr1⟩ := hbd
          by_cases hr32 : r < 32
          · have HF : Hid (Q = none) := HM.out.bad hlt (by rw [C1.out, if_pos (.inl hr32)]; omega)
            clear hn0
            go_wp2_with fail
            go_ret2
            exact QuoAre.bad HF.out HK1.out.2.1
          · by_cases hrq : r = q
            · have HF : Hid (Q = none) := HM.out.bad hlt (by rw [C1.out, if_pos (.inr hrq)]; omega)
              have gq : (r == q) = true := by rw [hrq]; exact beq_self_eq_true q
              clear hn0 hrq
              go_wp2_with fail
              go_ret2
              exact QuoAre.bad HF.out HK1.out.2.1
            · have gq : (r == q) = false := beq_false_of_ne hrq
              have HM1 : Hid (Qm t q Q (L ++ [r]) (p + d)) := by
                have := HM.out.go hlt (by rw [C1.out, if_neg (by omega)]; omega)
                rw [C1.out, C2.out, if_neg (by omega)] at this
                exact this
              have HO := HK1.out.1
              have zle : w.heap.size ≤ W1.heap.size := HK1.out.2.1.size
              clear hn0 hrq
              go_wp2_with (at_builtin; go_must (refine wpList_append_own _ rfl _ _ 29 rfl w.heap.size 3 i0 (.int .i64 0) 1 8 Tryd.underlying29 hi hz0 hz1 hz2'.out rfl (by decide) _ _ _ rfl (HO.alloc _) ⟨W1.heap.size, 0, none⟩ 1 1 [.int .i64 r] rfl rfl (cell_one_new _ _ _) (by intro u hu; simp at hu; subst hu; rfl) (by unfold maxLen; omega) (by omega) (by simp; omega) ?_); intro v' w3 hown hgrow _)
              have HK3 := Lib.hid (HK1.out.put _ hown hgrow)
              clear hown hgrow
              go_wp2_with fail
              go_roundg (t.size - (p + d))
              case measure => omega
              case rel => exact ⟨p + d, m, L ++ [r], rfl, hin, hm, rfl, by rw [List.length_append]; simp; omega, HK3, by rw [show max (p + d) m = p + d by omega]; exact HM1, VN, VM⟩
    · obtain rfl : p = t.size := by omega
      have hnx : ∀ ty, (Instr.next (.pointer (some ⟨w.heap.size, 0, none⟩)) true ty).run Tryd.prog wB = .ok (.tuple #[.bool false]) wB := fun ty => Lib.run_next_end_at wB w.heap.size t t.size ty HK.out.2.2 (by omega)
      have HF : Hid (Q = some L) := HM.out.fin (by omega)
      go_wp2_with fail
      go_ret2
      exact QuoAre.fin HF.out HK.out
theorem btw_parts {s : ByteArray} (h : btw s = true) : 2 ≤ s.size ∧ bt s 0 = bt s (s.size - 1) ∧ (bt s 0 = 34 ∨ bt s 0 = 39) := by
  unfold btw at h
  simp only [Bool.and_eq_true, decide_eq_true_eq, Bool.or_eq_true, beq_iff_eq] at h
  exact ⟨h.1.1, h.1.2, h.2⟩
/-- QUOTED. -/
theorem quoted_any (s : ByteArray) (hs : s.size ≤ 1048576) (w : World) (ht : LTabs w) :
    Calls Tryd.prog 15 #[.string s] w fun e w' => QuoAre w (quo s) e w' := by
  have HT := Lib.hid ht
  clear ht
  have HV := Lib.hid (fun W (hT : LTabs W) => valid_any s W hT.1 (by unfold maxLen; omega))
  have HB := Lib.hid (fun W => between_any s (by unfold maxLen; omega) W)
  cases hv : vd s 0
  · rw [hv] at HV
    have e : quo s = none := by unfold quo; rw [if_neg (by rw [hv]; rintro ⟨h, -⟩; cases h)]
    rw [e]
    clear e hv HB hs
    go_enter Tryd.func15, Tryd.ntmps15
    go_wp2_with fail
    refine (HV.out _ HT.out).mono ?_
    rintro e w' ⟨rfl, n1, rfl⟩
    go_wp2_with fail
    go_ret2
    exact QuoAre.bad rfl (Below.ofDrewN _ _)
  · rw [hv] at HV
    cases hb : btw s
    · rw [hb] at HB
      have e : quo s = none := by unfold quo; rw [if_neg (by rw [hb]; rintro ⟨-, h⟩; cases h)]
      rw [e]
      clear e hv hb hs
      go_enter Tryd.func15, Tryd.ntmps15
      go_wp2_with fail
      refine (HV.out _ HT.out).mono ?_
      rintro e w' ⟨rfl, n1, rfl⟩
      go_wp2_with fail
      refine (HB.out _).mono ?_
      rintro e w' ⟨rfl, n2, rfl⟩
      go_wp2_with fail
      go_ret2
      exact QuoAre.bad rfl (Below.ofDrewN _ _)
    · rw [hb] at HB
      have e : quo s = qi (s.extract 1 (s.size - 1)) (bt s 0) 0 := by unfold quo; rw [if_pos ⟨hv, hb⟩]
      obtain ⟨b1, b2, b3⟩ := btw_parts hb
      rw [e]
      exact quoted_in s hs b1 (by rw [← vd_btw b1 (by omega) (by omega)]; exact hv) HV HB w HT
end Go.Proofs.YtnejkdaiopjchaaDoor
