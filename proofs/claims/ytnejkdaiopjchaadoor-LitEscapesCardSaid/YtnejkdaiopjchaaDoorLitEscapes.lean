/-
  Each code point can be said in a text, as itself or by an escape, and is read as it (promises 4.2 and 4.3): for every two lists of integers (of at most 40 those that are code points are said, each in the way that the other list tells) the statement LitEscapes returns true. The four tables (utf's three, lit's letters) are tied to the program's text by the given ties; no further condition.
-/
import Derived.Test.YtnejkdaiopjchaaDoorIsRow
import Derived.Test.YtnejkdaiopjchaaDoorLitPieces
import Derived.Test.YtnejkdaiopjchaaDoorLitLaid
import Derived.Test.YtnejkdaiopjchaaDoorCards
import Derived.Test.YtnejkdaiopjchaaDoorTie
namespace Go.Proofs.YtnejkdaiopjchaaDoor.litEscapes
open Go.ChangeShapes Go.WideShapes Go.ChangeAt Go.RowKit Go.PlainAid

/-- So far: what the text says, and the slice that holds it. -/
def Ek (w wr : World) (X : ByteArray) (v : Value) (L : List Int) : Prop :=
  wr.ownsRow w.heap.size 3 1 v L.length (L.map (Value.int .i64)) ∧ Below w.heap.size w wr ∧ Rd X L
theorem ek_start (w : World) : Ek w w ⟨#[]⟩ (.slice none 0 0) [] := ⟨World.ownsRow_nil _ _ _ _, Below.refl _ _, rd_start⟩
theorem Ek.put {w w1 w2 : World} {X p : ByteArray} {v v' : Value} {L : List Int} {c : Int} (h : Ek w w1 X v L) (hp : Says p c) (o : Obj)
    (hown : w2.ownsRow w.heap.size 3 1 v' (L.length + 1) (L.map (Value.int .i64) ++ [.int .i64 c])) (hg : (w1.alloc o).grownBy w2 v.ownBlock) : Ek w w2 (X ++ p) v' (L ++ [c]) := by
  refine ⟨by rw [List.length_append, List.map_append]; exact hown, ?_, h.2.2.snoc hp⟩
  refine (h.2.1.alloc h.2.1.size o).grown hg (Nat.le_trans h.2.1.size (by simp)) ?_
  intro j hj
  exact (h.1.lt j hj).1
theorem Ek.grown {w w1 w2 : World} {X : ByteArray} {v : Value} {L : List Int} (h : Ek w w1 X v L) (o : Obj) (hg : (w1.alloc o).grownBy w2 v.ownBlock) : Below w.heap.size w w2 :=
  (h.2.1.alloc h.2.1.size o).grown hg (Nat.le_trans h.2.1.size (by simp)) (fun j hj => (h.1.lt j hj).1)

set_option maxRecDepth 100000 in
set_option maxHeartbeats 4000000 in
theorem walk (a : Option Addr) (len cap : Nat) (zs : List Int) (a' : Option Addr) (len' cap' : Nat) (zs' : List Int) (w : World) (hr : IsRow w a len cap zs) (hr' : IsRow w a' len' cap' zs') (ht : LTabs w) :
    Calls Tryd.prog 5 #[.slice a len cap, .slice a' len' cap'] w fun e w' => e = .returned (.bool true) ∧ Below w.heap.size w w' := by
  have HT := Lib.hid ht
  clear ht
  have H := Lib.hid (fun W hT => told4_any W hT)
  by_cases hbad : (40 < len) ∨ (¬ 40 < len ∧ len' < len)
  · rcases hbad with g1 | ⟨g1, g2⟩
    · have g1' : decide ((40 : Int) < (len : Int)) = true := decide_eq_true (by omega)
      clear hr hr'
      go_enter Tryd.func5, Tryd.ntmps5
      go_wp2_with fail
      refine (H.out _ HT.out).mono ?_
      rintro e w1 ⟨rfl, hb1⟩
      have HB1 := Lib.hid hb1
      clear hb1
      go_wp2_with fail
      go_ret
      exact ⟨rfl, HB1.out⟩
    · have g1' : decide ((40 : Int) < (len : Int)) = false := decide_eq_false (by omega)
      have g2' : (len' : Int) < (len : Int) := by omega
      clear hr hr'
      go_enter Tryd.func5, Tryd.ntmps5
      go_wp2_with fail
      refine (H.out _ HT.out).mono ?_
      rintro e w1 ⟨rfl, hb1⟩
      have HB1 := Lib.hid hb1
      clear hb1
      go_wp2_with fail
      go_ret
      exact ⟨rfl, HB1.out⟩
  obtain ⟨i0, hi, hz0, hz1, hz2⟩ := info_parts infoInt
  have hz2' := Lib.hid hz2
  clear hz2
  have HR := Lib.hid hr
  have HR' := Lib.hid hr'
  clear hr hr'
  have l1 : len ≤ 40 := by omega
  have l2 : len ≤ len' := by omega
  have g1' : decide ((40 : Int) < (len : Int)) = false := decide_eq_false (by omega)
  have g2' : ¬ (len' : Int) < (len : Int) := by omega
  clear hbad
  go_enter Tryd.func5, Tryd.ntmps5
  go_wp2_with fail
  go_loopg [5, 6, 7] len (fun gn s v i wr => ∃ (k : Nat) (S X : ByteArray) (L : List Int), gn = len - k ∧ k ≤ len ∧ s = .string S ∧ i = .int .i64 k ∧ L.length ≤ k ∧ S.size ≤ 1 + 10 * k ∧ Hid (S = { data := #[34] } ++ X) ∧ Hid (Ek w wr X v L))
  case atStart => exact ⟨0, { data := #[34] }, ⟨#[]⟩, [], rfl, Nat.zero_le _, rfl, rfl, Nat.le_refl _, by decide, Lib.hid rfl, ek_start w⟩
  case round =>
    obtain ⟨k, S, X, L, hgn, hk, rfl, rfl, hL, hSz, HS, HE⟩ := hrel
    obtain ⟨wB, rfl⟩ : ∃ wB : World, wB = wr := ⟨_, rfl⟩
    by_cases hlt : k < len
    · obtain ⟨b, off, rfl, hb, hc⟩ := HR.out.at (by omega)
      obtain ⟨b', off', rfl, hb', hc'⟩ := HR'.out.at (by omega)
      have hcell := (HE.out.2.1.cell (p := ⟨b, off + k, none⟩) hb).trans (hc k hlt)
      have HCELL' : Hid (∀ W, Below w.heap.size w W → W.cell? ⟨b', off' + k, none⟩ = some (.int .i64 (zs'.getD k 0))) := fun W hW => (hW.cell (p := ⟨b', off' + k, none⟩) hb').trans (hc' k (by omega))
      obtain ⟨z, hz⟩ : ∃ z, z = zs.getD k 0 := ⟨_, rfl⟩
      obtain ⟨z', hz'⟩ : ∃ z', z' = zs'.getD k 0 := ⟨_, rfl⟩
      rw [← hz] at hcell
      rw [← hz'] at HCELL'
      clear hz hz' hc hc'
      obtain ⟨c, hc0, hc1, er⟩ : ∃ c : Int, 0 ≤ c ∧ c < 1114112 ∧ (IntKind.u64.wrap z).tmod 1114112 = c := by
        have := IntKind.wrap_u64 z
        exact ⟨_, Int.tmod_nonneg _ (by omega), Int.tmod_lt_of_pos _ (by omega), rfl⟩
      obtain ⟨r, hr0, hr4, er'⟩ : ∃ r : Int, 0 ≤ r ∧ r < 4 ∧ (IntKind.u64.wrap z').tmod 4 = r := by
        have := IntKind.wrap_u64 z'
        exact ⟨_, Int.tmod_nonneg _ (by omega), Int.tmod_lt_of_pos _ (by omega), rfl⟩
      by_cases hgap : 55296 ≤ c ∧ c ≤ 57343
      · have q1 : 55296 ≤ c := by omega
        have q2 : c ≤ 57343 := by omega
        clear hgap er'
        go_wp2_with fail
        go_roundg (len - (k + 1))
        case measure => omega
        case rel => exact ⟨k + 1, S, X, L, rfl, by omega, rfl, by go_num, by omega, by omega, HS, HE⟩
      · have hp : isPt c = true := decide_eq_true (by omega)
        have hg : (c < 55296) ∨ ((55296 : Int) ≤ c ∧ decide (c ≤ 57343) = false) := by
          by_cases h : c < 55296
          · exact .inl (by omega)
          · exact .inr ⟨by omega, decide_eq_false (by omega)⟩
        have HO := HE.out.1
        have zle : w.heap.size ≤ wB.heap.size := HE.out.2.1.size
        have hclass : (r = 0 ∧ decide ((32 : Int) ≤ c) = true ∧ (c != 34) = true ∧ (c != 92) = true) ∨ (r = 1 ∧ decide (c < 256) = true) ∨ (r = 2 ∧ decide (c < 512) = true) ∨
            ((r = 0 ∧ decide ((32 : Int) ≤ c) = false) ∨ (r = 0 ∧ decide ((32 : Int) ≤ c) = true ∧ (c != 34) = false) ∨ (r = 0 ∧ decide ((32 : Int) ≤ c) = true ∧ (c != 34) = true ∧ (c != 92) = false) ∨ (r = 1 ∧ decide (c < 256) = false) ∨ (r = 2 ∧ decide (c < 512) = false) ∨ r = 3) := by
          obtain rfl | rfl | rfl | rfl : r = 0 ∨ r = 1 ∨ r = 2 ∨ r = 3 := by omega
          · by_cases a1 : 32 ≤ c
            · by_cases a2 : c = 34
              · exact .inr (.inr (.inr (.inr (.inl ⟨rfl, decide_eq_true (by omega), by rw [a2]; rfl⟩))))
              · by_cases a3 : c = 92
                · exact .inr (.inr (.inr (.inr (.inr (.inl ⟨rfl, decide_eq_true (by omega), by rw [a3]; rfl, by rw [a3]; rfl⟩)))))
                · exact .inl ⟨rfl, decide_eq_true (by omega), by simp; omega, by simp; omega⟩
            · exact .inr (.inr (.inr (.inl ⟨rfl, decide_eq_false (by omega)⟩)))
          · by_cases a1 : c < 256
            · exact .inr (.inl ⟨rfl, decide_eq_true (by omega)⟩)
            · exact .inr (.inr (.inr (.inr (.inr (.inr (.inl ⟨rfl, decide_eq_false (by omega)⟩))))))
          · by_cases a1 : c < 512
            · exact .inr (.inr (.inl ⟨rfl, decide_eq_true (by omega)⟩))
            · exact .inr (.inr (.inr (.inr (.inr (.inr (.inr (.inl ⟨rfl, decide_eq_false (by omega)⟩)))))))
          · exact .inr (.inr (.inr (.inr (.inr (.inr (.inr (.inr rfl)))))))
        clear hgap
        have ecn : ((c.toNat : Nat) : Int) = c := Int.toNat_of_nonneg hc0
        have HEC := Lib.hid ecn
        have HP := Lib.hid hp
        have HSN : Hid (∀ p : ByteArray, S ++ p = { data := #[34] } ++ (X ++ p)) := fun p => by rw [HS.out, ByteArray.append_assoc]
        rcases hclass with ⟨rfl, e1, e2, e3⟩ | ⟨rfl, e1⟩ | ⟨rfl, e1⟩ | hdef
        · have HSay : Hid (Says (Utf8.encode c) c) := says_self hp (by simpa using e1) (by simpa using e2) (by simpa using e3)
          have s1 := (reads_enc hp).1
          have s2 := lenOf_pos c
          obtain ⟨E, hE⟩ : ∃ E, E = Utf8.encode c := ⟨_, rfl⟩
          have hE' := hE.symm
          rw [← hE] at HSay s1
          have sE : E.size ≤ 4 := by omega
          clear hE s1 s2 hp ecn
          rcases hg with hg | ⟨hg, hg'⟩
          all_goals
            go_wp2_with (at_builtin; go_must (refine wpList_append_own _ rfl _ _ 29 rfl w.heap.size 3 i0 (.int .i64 0) 1 8 Tryd.underlying29 hi hz0 hz1 hz2'.out rfl (by decide) _ _ _ rfl (HO.alloc _) ⟨wB.heap.size, 0, none⟩ 1 1 [.int .i64 c] rfl rfl (cell_one_new _ _ _) (by intro u hu; simp at hu; subst hu; rfl) (by unfold maxLen; omega) (by omega) (by simp; omega) ?_); intro v' w2 hown hgrow _; have hc2 := HCELL'.out w2 (HE.out.grown _ hgrow))
            have HN := Lib.hid (HE.out.put HSay.out _ hown hgrow)
            go_roundg (len - (k + 1))
            case measure => omega
            case rel => exact ⟨k + 1, S ++ E, X ++ E, L ++ [c], rfl, by omega, rfl, by go_num, by rw [List.length_append]; simp; omega, by rw [ByteArray.size_append]; omega, Lib.hid (HSN.out E), HN⟩
        · have HX := Lib.hid (fun W => hex_any c.toNat 2 (by omega) (by omega) W)
          rw [ecn] at HX
          have hc256 : c < 256 := by simpa using e1
          have g1 : c < 55296 := by omega
          have kA : ({ data := #[92, 120] } : ByteArray).size = 2 := rfl
          clear hp ecn hg hc256
          go_wp2_with (at_builtin; go_must (refine wpList_append_own _ rfl _ _ 29 rfl w.heap.size 3 i0 (.int .i64 0) 1 8 Tryd.underlying29 hi hz0 hz1 hz2'.out rfl (by decide) _ _ _ rfl (HO.alloc _) ⟨wB.heap.size, 0, none⟩ 1 1 [.int .i64 c] rfl rfl (cell_one_new _ _ _) (by intro u hu; simp at hu; subst hu; rfl) (by unfold maxLen; omega) (by omega) (by simp; omega) ?_); intro v' w2 hown hgrow _; have hc2 := HCELL'.out w2 (HE.out.grown _ hgrow))
          refine (HX.out _).mono ?_
          rintro e w' ⟨⟨Hx, rfl, hH⟩, rfl⟩
          have hHz := hH.1
          have HSay : Hid (Says ({ data := #[92, 120] } ++ Hx) c) := by
            have := says_hex2 hH (by have : c < 256 := by simpa using e1
                                     omega)
            rw [HEC.out] at this
            exact this
          have HN := Lib.hid (HE.out.put HSay.out _ hown hgrow)
          clear hH hown hgrow
          go_wp2_with fail
          go_roundg (len - (k + 1))
          case measure => omega
          case rel => exact ⟨k + 1, _, X ++ ({ data := #[92, 120] } ++ Hx), L ++ [c], rfl, by omega, rfl, by go_num, by rw [List.length_append]; simp; omega, by rw [ByteArray.size_append, ByteArray.size_append]; omega, Lib.hid (by rw [ByteArray.append_assoc]; exact HSN.out _), HN⟩
        · have HX := Lib.hid (fun W => octal_any c.toNat (by omega) W)
          rw [ecn] at HX
          have hc512 : c < 512 := by simpa using e1
          have g1 : c < 55296 := by omega
          have kA : ({ data := #[92] } : ByteArray).size = 1 := rfl
          clear hp ecn hg hc512
          go_wp2_with (at_builtin; go_must (refine wpList_append_own _ rfl _ _ 29 rfl w.heap.size 3 i0 (.int .i64 0) 1 8 Tryd.underlying29 hi hz0 hz1 hz2'.out rfl (by decide) _ _ _ rfl (HO.alloc _) ⟨wB.heap.size, 0, none⟩ 1 1 [.int .i64 c] rfl rfl (cell_one_new _ _ _) (by intro u hu; simp at hu; subst hu; rfl) (by unfold maxLen; omega) (by omega) (by simp; omega) ?_); intro v' w2 hown hgrow _; have hc2 := HCELL'.out w2 (HE.out.grown _ hgrow))
          refine (HX.out _).mono ?_
          rintro e w' ⟨⟨Hx, rfl, hH⟩, rfl⟩
          have hHz := hH.1
          have HSay : Hid (Says ({ data := #[92] } ++ Hx) c) := by
            have := says_oct hH (by have : c < 512 := by simpa using e1
                                    omega)
            rw [HEC.out] at this
            exact this
          have HN := Lib.hid (HE.out.put HSay.out _ hown hgrow)
          clear hH hown hgrow
          go_wp2_with fail
          go_roundg (len - (k + 1))
          case measure => omega
          case rel => exact ⟨k + 1, _, X ++ ({ data := #[92] } ++ Hx), L ++ [c], rfl, by omega, rfl, by go_num, by rw [List.length_append]; simp; omega, by rw [ByteArray.size_append, ByteArray.size_append]; omega, Lib.hid (by rw [ByteArray.append_assoc]; exact HSN.out _), HN⟩
        · have HX := Lib.hid (fun W => hex_any c.toNat 6 (by omega) (by omega) W)
          rw [ecn] at HX
          have kA : ({ data := #[92, 120, 123] } : ByteArray).size = 3 := rfl
          have kB : ({ data := #[125] } : ByteArray).size = 1 := rfl
          clear hp ecn
          rcases hdef with ⟨rfl, e1⟩ | ⟨rfl, e1, e2⟩ | ⟨rfl, e1, e2, e3⟩ | ⟨rfl, e1⟩ | ⟨rfl, e1⟩ | rfl
          all_goals
            rcases hg with hg | ⟨hg, hg'⟩
            all_goals
              go_wp2_with (at_builtin; go_must (refine wpList_append_own _ rfl _ _ 29 rfl w.heap.size 3 i0 (.int .i64 0) 1 8 Tryd.underlying29 hi hz0 hz1 hz2'.out rfl (by decide) _ _ _ rfl (HO.alloc _) ⟨wB.heap.size, 0, none⟩ 1 1 [.int .i64 c] rfl rfl (cell_one_new _ _ _) (by intro u hu; simp at hu; subst hu; rfl) (by unfold maxLen; omega) (by omega) (by simp; omega) ?_); intro v' w2 hown hgrow _; have hc2 := HCELL'.out w2 (HE.out.grown _ hgrow))
              refine (HX.out _).mono ?_
              rintro e w' ⟨⟨Hx, rfl, hH⟩, rfl⟩
              have hHz := hH.1
              have HSay : Hid (Says ({ data := #[92, 120, 123] } ++ Hx ++ { data := #[125] }) c) := by
                have := says_hex6 hH (by rw [HEC.out]; exact HP.out)
                rw [HEC.out] at this
                exact this
              have HN := Lib.hid (HE.out.put HSay.out _ hown hgrow)
              clear hH hown hgrow
              go_wp2_with fail
              go_roundg (len - (k + 1))
              case measure => omega
              case rel => exact ⟨k + 1, _, X ++ ({ data := #[92, 120, 123] } ++ Hx ++ { data := #[125] }), L ++ [c], rfl, by omega, rfl, by go_num, by rw [List.length_append]; simp; omega, by simp only [ByteArray.size_append]; omega, Lib.hid (by rw [ByteArray.append_assoc, ByteArray.append_assoc, ← ByteArray.append_assoc (a := { data := #[92, 120, 123] })]; exact HSN.out _), HN⟩
    · obtain rfl : k = len := by omega
      have hq : quo (S ++ { data := #[34] }) = some L := by rw [HS.out]; exact quo_of HE.out.2.2
      have k34 : ({ data := #[34] } : ByteArray).size = 1 := rfl
      have HQ := Lib.hid (fun W hT => quoted_any (S ++ { data := #[34] }) (by rw [ByteArray.size_append]; omega) W hT)
      obtain ⟨a1, cap1, hv1, hread1⟩ := own_read HE.out.1
      have hread1' := Lib.hid hread1
      have HB0 := Lib.hid HE.out.2.1
      have hQ := Lib.hid hq
      clear HE HS hread1 hq
      subst hv1
      go_wp2_with fail
      refine (HQ.out _ (HT.out.below HB0.out)).mono ?_
      rintro e w2 ⟨v2, he, ho, hb2⟩
      rw [hQ.out] at he ho
      rw [show qe (some L) = 0 from rfl] at he
      simp only [Option.getD_some] at ho
      obtain ⟨a2, cap2, hv2, hread2⟩ := own_read ho
      have HB2 : Hid (Below w.heap.size w w2) := HB0.out.trans (hb2.mono HB0.out.size)
      have HR1 : Hid (0 < L.length → ∃ g, a1 = some ⟨g, 0, none⟩ ∧ ∀ j, j < L.length → w2.cell? ⟨g, j, none⟩ = some (.int .i64 (L.getD j 0))) := fun h => by
        obtain ⟨g, h1, h2, h3⟩ := hread1'.out h
        exact ⟨g, h1, fun j hj => (hb2.cell (p := ⟨g, j, none⟩) h2).trans (h3 j hj)⟩
      have HR2 := Lib.hid hread2
      clear hread1' hread2 ho hb2
      subst he
      subst hv2
      go_wp2_with fail
      go_loopg [12] L.length (fun gn i wr => ∃ j : Nat, gn = L.length - j ∧ j ≤ L.length ∧ i = .int .i64 j ∧ Hid (∃ m, wr = w2.drewN m))
      case atStart => exact ⟨0, rfl, Nat.zero_le _, rfl, ⟨0, rfl⟩⟩
      case round =>
        obtain ⟨j, hgj, hj, rfl, HW⟩ := hrel
        obtain ⟨m0, rfl⟩ := HW.out
        by_cases hjl : j < L.length
        · obtain ⟨g1, rfl, hc1⟩ := HR1.out (by omega)
          obtain ⟨g2, rfl, -, hc2⟩ := HR2.out (by omega)
          have q1 := hc1 j hjl
          have q2 := hc2 j hjl
          obtain ⟨x, hx⟩ : ∃ x, x = L.getD j 0 := ⟨_, rfl⟩
          rw [← hx] at q1 q2
          have b0 : (j : Int) < (L.length : Int) := by omega
          have bx : (x != x) = false := by simp
          clear hx hc1 hc2
          go_wp2_with fail
          go_quiet (fail)
          go_wp2_with fail
          go_roundg (L.length - (j + 1))
          case measure => omega
          case rel => exact ⟨j + 1, rfl, by omega, by go_num, Lib.hid ⟨_, rfl⟩⟩
        · obtain rfl : j = L.length := by omega
          go_wp2_with fail
          refine (H.out _ ((HT.out.below HB2.out).drewN m0)).mono ?_
          rintro e w3 ⟨rfl, hb3⟩
          have HB3 : Hid (Below w.heap.size w w3) := HB2.out.trans (((Below.ofDrewN w2 _).trans hb3).mono HB2.out.size)
          clear hb3
          go_wp2_with fail
          go_ret
          exact ⟨rfl, HB3.out⟩
set_option maxRecDepth 100000 in
theorem lifted (os : Os) (started : os.Started) (H : Type) (enc : TypeId × Value → H) :
    ReturnsInHanded {} Tryd.checked os 5 .any (fun w args => (Rows.litEscapesSpec.pre enc Tryd.prog Tryd.f5 [] false w args ∧ laidMetH Tryd.prog litLaid w) ∧ sizedMet enc Tryd.prog Tryd.f5 (OpenSpec.ofChange Rows.litEscapesSpec) false w args)
      (Rows.litEscapesSpec.post enc Tryd.prog Tryd.f5 false true false false) := by
  refine returnsInHanded_of_change_and (C := Tryd.checked) (X := fun w _ => laidMetH Tryd.prog litLaid w) (fun _ _ _ hh h => h.of_heap hh) own4 started (by kernel_rfl) Tryd.func5
    (ChangeSpec.witness_shaped (enc := enc) (C := Tryd.checked) (os := os) (X := fun w _ => laidMetH Tryd.prog litLaid w) false (World.doorLaid Tryd.prog 400 os) #[.slice none 0 0, .slice none 0 0] 8 rfl (World.shaped_of_RefB (by kernel_rfl) (by kernel_rfl)) (by kernel_rfl) (by kernel_rfl) (by kernel_rfl) (door_met4 os _)) ?_
  intro W base args ds gs before hval0 hW _ _ hL _
  have hval : ∀ (j : Nat) t v, Tryd.f5.params[j]? = some t → args[j]? = some v → Value.okWide Tryd.prog W .any base t v := hval0
  have hW' := hW
  obtain ⟨p, q, hA0, hV, rfl, hfz, hnd⟩ := hW
  have hA : DataW.TrodAll enc Tryd.prog W 0 (fun _ => true) true Tryd.f5.params.toList args.toList ds p := hA0
  rw [Tryd.params5] at hA hval
  obtain ⟨v0, vs0, d0, ds0, p0, q0, hargs, rfl, rfl, h0, r0⟩ := trodAll_cons hA
  obtain ⟨v1, vs1, d1, ds1, p1, q1, rfl, rfl, rfl, h1, r1⟩ := trodAll_cons r0
  obtain ⟨rfl, rfl, rfl⟩ := trodAll_nil r1
  obtain rfl : args = #[v0, v1] := by cases args; simp_all
  obtain ⟨rfl, rfl⟩ := trodVars_none hV
  obtain ⟨a0, len0, cap0, rfl⟩ := okWide_slice Tryd.underlying29 (hval 0 29 v0 rfl rfl)
  have k0 := h0
  have lt0 : ∀ x ∈ p0, x.block < W.heap.size := by obtain ⟨m, hm⟩ := k0; exact DataW.trod_lt m _ _ _ hm
  obtain ⟨z0, w0⟩ : ∃ zs, IsRow W a0 len0 cap0 zs := by
    obtain ⟨fuel, hf⟩ := h0
    rcases open_ints Tryd.underlying29 Tryd.underlying3 (by kernel_rfl) hf with ⟨hcs, _⟩ | ⟨x, l, c, zs, hcs, _, hl, hm, hz, _, hcell, hwz⟩
    · simp [Value.cells] at hcs
      obtain ⟨rfl, rfl, rfl⟩ := hcs
      exact ⟨[], .inl ⟨rfl, rfl, rfl, rfl⟩⟩
    · simp [Value.cells] at hcs
      obtain ⟨rfl, rfl, rfl⟩ := hcs
      exact ⟨zs, .inr ⟨_, rfl, hl, hm, by simpa using hz, hcell, hwz⟩⟩
  obtain ⟨a1, len1, cap1, rfl⟩ := okWide_slice Tryd.underlying29 (hval 1 29 v1 rfl rfl)
  have k1 := h1
  have lt1 : ∀ x ∈ p1, x.block < W.heap.size := by obtain ⟨m, hm⟩ := k1; exact DataW.trod_lt m _ _ _ hm
  obtain ⟨z1, w1⟩ : ∃ zs, IsRow W a1 len1 cap1 zs := by
    obtain ⟨fuel, hf⟩ := h1
    rcases open_ints Tryd.underlying29 Tryd.underlying3 (by kernel_rfl) hf with ⟨hcs, _⟩ | ⟨x, l, c, zs, hcs, _, hl, hm, hz, _, hcell, hwz⟩
    · simp [Value.cells] at hcs
      obtain ⟨rfl, rfl, rfl⟩ := hcs
      exact ⟨[], .inl ⟨rfl, rfl, rfl, rfl⟩⟩
    · simp [Value.cells] at hcs
      obtain ⟨rfl, rfl, rfl⟩ := hcs
      exact ⟨zs, .inr ⟨_, rfl, hl, hm, by simpa using hz, hcell, hwz⟩⟩
  clear hA0 hval0
  refine (walk a0 len0 cap0 z0 a1 len1 cap1 z1 W w0 w1 (ltabs_of_laid hL)).mono fun e W' ⟨he, bel⟩ => ?_
  subst he
  exact ⟨_, rfl, _, _, _, [], _, [], hW', trodAll_mk1 (shut_bool Tryd.underlying4 _), (trodAll_cons_mk (Below.trod laidOut4 (by kernel_rfl) (of_decide_eq_true (by kernel_rfl)) k0 bel lt0) (trodAll_cons_mk (Below.trod laidOut4 (by kernel_rfl) (of_decide_eq_true (by kernel_rfl)) k1 bel lt1) trodAll_mk0)), rfl, bel.frame _, fun h => by cases h⟩
theorem over : Rows.LitEscapesSaid :=
  OpenClaim.holds_of_wide 5 Tryd.f5 rfl rfl rfl rfl rfl rfl rfl ⟨rfl, rfl, rfl, rfl, rfl⟩ rfl rfl rfl rfl rfl (by kernel_rfl) Tryd.func5 (by kernel_rfl)
    (of_decide_eq_true (by kernel_rfl)) (by unfold Func.isWrapper; first | (rw [if_pos (by decide +kernel)]; kernel_rfl) | (rw [if_neg (by decide +kernel)]; exact ⟨rfl, rfl⟩))
    (fun os started H enc _ => lifted os started H enc)
/-- THE TIED CARD. -/
theorem proved : Rows.LitEscapesCardSaid :=
  Claim7.holds_tied_plain_at .later [] [.data, .data, .data, .data] true Rows.litEscapesCard.stood.harness false
    over (fun _ h => by cases h) (by kernel_rfl) (fun _ h => by cases h) litEscapes_row_tie rfl ⟨rfl, rfl⟩ (by kernel_rfl) rfl
    (fun f fn hf hfn => by
      obtain rfl : f = 5 := Option.some.inj ((show Tryd.prog.funcNamed "galley/galleylaw4.LitEscapes" = some 5 by kernel_rfl).symm.trans hf) |>.symm
      obtain rfl : fn = Tryd.f5 := (Option.some.inj (Tryd.func5.symm.trans hfn)).symm
      exact ⟨by kernel_rfl, fun j t ht => by
        rw [Tryd.params5] at ht
        have hm : t ∈ [29] := by
          have := Array.mem_of_getElem? ht
          simpa using this
        have hall : ([29].all fun u => !Tryd.prog.wantsStandIn u) = true := by kernel_rfl
        exact (show Tryd.prog.wantsStandIn t = false by simpa using List.all_eq_true.1 hall t hm)⟩)
    (by kernel_rfl)
#print axioms proved
end Go.Proofs.YtnejkdaiopjchaaDoor.litEscapes
