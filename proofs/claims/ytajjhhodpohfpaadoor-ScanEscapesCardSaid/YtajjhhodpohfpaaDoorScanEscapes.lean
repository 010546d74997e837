/-
  Within quotes all but the quote, the backslash and what is below 32 or 127 stands for itself; behind a backslash these, too (promise 6.2): for every list of integers and either way of quoting the statement ScanEscapes returns true.
-/
import Derived.Test.YtajjhhodpohfpaaDoorScanLaid
import Derived.Test.YtajjhhodpohfpaaDoorCards
import Derived.Test.YtajjhhodpohfpaaDoorTie
import Derived.Test.YtajjhhodpohfpaaDoorIsRow
import Derived.Test.YtajjhhodpohfpaaDoorScanPieces
import Derived.Test.YtajjhhodpohfpaaDoorRefScans
import Derived.Deep.LoopGhost
import Derived.Deep.QuietTactic
import Derived.BigQuiet
namespace Go.Proofs.YtajjhhodpohfpaaDoor.scanEscapes
open Go.ChangeShapes Go.WideShapes Go.ChangeAt Go.RowKit Go.PlainAid

theorem alone_is {T : ByteArray} {x : Tk3} (h : scanR T = ([x], 0)) (hz : T.size ≤ 1048576) (w : World) :
    Calls Tryd.prog 12 #[.string T] w fun e w' => ∃ a cap, e = .returned (.tuple #[.slice a 1 cap, .int .i64 0]) ∧ Below w.heap.size w w' := by
  refine (rscan_is T [x] 0 h hz w).mono ?_
  rintro e w' ⟨v, rfl, ⟨a, cap, rfl, -⟩, hb⟩
  exact ⟨a, cap, rfl, hb⟩
set_option maxRecDepth 100000 in
set_option maxHeartbeats 4000000 in
theorem walk_s (a : Option Addr) (len cap : Nat) (zs : List Int) (hl : len ≤ 30) (w : World) (hr : IsRow w a len cap zs) (ht : STabs w) :
    Calls Tryd.prog 9 #[.slice a len cap, .bool false] w fun e w' => e = .returned (.bool true) ∧ Below w.heap.size w w' := by
  have HT := Lib.hid ht
  have HR := Lib.hid hr
  clear ht hr
  have h1 : ¬ (30 : Int) < (len : Int) := by omega
  go_enter Tryd.func9, Tryd.ntmps9
  go_wp2_with fail
  go_loopg [7, 8] len (fun gn s i wr => ∃ (k : Nat) (S : ByteArray), gn = len - k ∧ k ≤ len ∧ s = .string S ∧ i = .int .i64 k ∧ S.size ≤ 1 + 5 * k ∧ Hid (Qd 39 S) ∧ Hid (Below w.heap.size w wr))
  case atStart => exact ⟨0, { data := #[39] }, rfl, Nat.zero_le _, rfl, rfl, by decide, Lib.hid (qd_start _ _ rfl (by decide) (by rw [vd_go (by decide) (by decide +kernel)]; exact vd_end (by decide +kernel))), Lib.hid (Below.refl _ _)⟩
  case round =>
    obtain ⟨k, S, hgn, hk, rfl, rfl, hSz, HS, HB⟩ := hrel
    by_cases hlt : k < len
    · obtain ⟨bk, off, rfl, hb, hc⟩ := HR.out.at (by omega)
      have hcell := (HB.out.cell (p := ⟨bk, off + k, none⟩) hb).trans (hc k hlt)
      obtain ⟨z, hz⟩ : ∃ z, z = zs.getD k 0 := ⟨_, rfl⟩
      rw [← hz] at hcell
      clear hz hc
      obtain ⟨c, hd0, hd1, er⟩ : ∃ c : Int, 32 ≤ c ∧ c < 53280 ∧ (IntKind.u64.wrap z).tmod 53248 = c - 32 := by
        have := IntKind.wrap_u64 z
        have h0 := Int.tmod_nonneg (a := IntKind.u64.wrap z) 53248 (by omega)
        have h1 := Int.tmod_lt_of_pos (IntKind.u64.wrap z) (b := 53248) (by omega)
        exact ⟨32 + (IntKind.u64.wrap z).tmod 53248, by omega, by omega, by omega⟩
      have kn : (k : Int) < (len : Int) := by omega
      have gb : ((({ data := #[39] } : ByteArray)[0]'(by decide)).toNat : Int) = 39 := rfl
      by_cases h127 : c = 127
      · subst h127
        go_wp2_with fail
        go_roundg (len - (k + 1))
        case measure => omega
        case rel => exact ⟨k + 1, S, rfl, hlt, rfl, by go_num, by omega, HS, HB⟩
      · have hp : isPt c = true := decide_eq_true (by omega)
        obtain ⟨E, hE⟩ : ∃ E, E = Utf8.encode c := ⟨_, rfl⟩
        have sE : E.size ≤ 4 := by rw [hE, (reads_enc hp).1]; exact (lenOf_pos _).2
        have HBK : Hid (Qd 39 (S ++ { data := #[92] } ++ E)) := Lib.hid (by rw [hE]; exact HS.out.back hp (by omega) (by omega) (by decide))
        have HSE : Hid (c ≠ 39 → c ≠ 92 → Qd 39 (S ++ E)) := Lib.hid (fun g1 g2 => by rw [hE]; exact HS.out.self hp (by omega) (by omega) g1 g2 (by decide) (by decide))
        have hE' := hE.symm
        have sB : (S ++ { data := #[92] } ++ E).size ≤ 1 + 5 * (k + 1) := by
          have h92 : ({ data := #[92] } : ByteArray).size = 1 := rfl
          rw [ByteArray.size_append, ByteArray.size_append, h92]; omega
        have sS : (S ++ E).size ≤ 1 + 5 * (k + 1) := by rw [ByteArray.size_append]; omega
        have HsB := Lib.hid sB
        have HsS := Lib.hid sS
        have hSk : S.size ≤ 151 := by omega
        clear hE hp sB sS
        by_cases hq : c = 39
        · subst hq
          go_wp2_with fail
          go_roundg (len - (k + 1))
          case measure => omega
          case rel => exact ⟨k + 1, _, rfl, hlt, rfl, by go_num, HsB.out, HBK, HB⟩
        · by_cases h92 : c = 92
          · subst h92
            go_wp2_with fail
            go_roundg (len - (k + 1))
            case measure => omega
            case rel => exact ⟨k + 1, _, rfl, hlt, rfl, by go_num, HsB.out, HBK, HB⟩
          · have n127 : (c == 127) = false := beq_false_of_ne h127
            have gq : (c == 39) = false := beq_false_of_ne hq
            have g92 : (c == 92) = false := beq_false_of_ne h92
            have HSE2 := Lib.hid (HSE.out hq h92)
            have e32 : 32 + (c - 32) = c := by omega
            clear hq h92 h127
            cases hb3 : (bits .and .i64 (k : Int) 3 == 3)
            · go_wp2_with fail
              go_roundg (len - (k + 1))
              case measure => omega
              case rel => exact ⟨k + 1, _, rfl, hlt, rfl, by go_num, HsS.out, HSE2, HB⟩
            · go_wp2_with fail
              go_roundg (len - (k + 1))
              case measure => omega
              case rel => exact ⟨k + 1, _, rfl, hlt, rfl, by go_num, HsB.out, HBK, HB⟩
    · obtain rfl : k = len := by omega
      clear hgn
      have hsc := HS.out.scan (P := { data := #[39] }) (kd := 1) rfl (by decide) (by rw [vd_go (by decide) (by decide +kernel)]; exact vd_end (by decide +kernel)) (by decide) (by omega)
      have hT : (S ++ ({ data := #[39] } : ByteArray)).size ≤ 200 := by
        have hA : ({ data := #[39] } : ByteArray).size = 1 := rfl
        rw [ByteArray.size_append, hA]; omega
      have HSC := Lib.hid (fun W h => two_of hsc.2 (by omega) (by omega) W h)
      have HRS := Lib.hid (fun W => alone_is hsc.1 (by omega) W)
      obtain ⟨U, hU⟩ : ∃ U, U = S ++ ({ data := #[39] } : ByteArray) := ⟨_, rfl⟩
      rw [← hU] at HSC HRS hT
      have hU' := hU.symm
      clear hsc hU
      go_wp2_with fail
      refine (HSC.out _ (HT.out.below HB.out)).mono ?_
      rintro e w1 ⟨g, cap1, rfl, hk1, hb1⟩
      have K1 := Lib.hid hk1
      have B1 : Hid (Below w.heap.size w w1) := Lib.hid (HB.out.trans (hb1.mono HB.out.size))
      clear hk1 hb1
      go_wp2_with fail
      refine (HRS.out _).mono ?_
      rintro e w2 ⟨ga, cap2, rfl, hb2⟩
      have K2 := Lib.hid (K1.out.below hb2)
      have B2 : Hid (Below w.heap.size w w2) := Lib.hid (B1.out.trans (hb2.mono B1.out.size))
      clear hb2
      go_wp2_with fail
      refine (told6_any _ (HT.out.below B2.out)).mono ?_
      rintro e w3 ⟨rfl, hb3⟩
      have K3 := Lib.hid (K2.out.below hb3)
      have B3 : Hid (Below w.heap.size w w3) := Lib.hid (B2.out.trans (hb3.mono B2.out.size))
      obtain ⟨⟨c1, c2, -, c4, -⟩, -⟩ := K3.out
      clear hb3 K1 K2
      go_wp2_with fail
      go_ret
      exact ⟨rfl, B3.out⟩
set_option maxRecDepth 100000 in
set_option maxHeartbeats 4000000 in
theorem walk_d (a : Option Addr) (len cap : Nat) (zs : List Int) (hl : len ≤ 30) (w : World) (hr : IsRow w a len cap zs) (ht : STabs w) :
    Calls Tryd.prog 9 #[.slice a len cap, .bool true] w fun e w' => e = .returned (.bool true) ∧ Below w.heap.size w w' := by
  have HT := Lib.hid ht
  have HR := Lib.hid hr
  clear ht hr
  have h1 : ¬ (30 : Int) < (len : Int) := by omega
  go_enter Tryd.func9, Tryd.ntmps9
  go_wp2_with fail
  go_loopg [7, 8] len (fun gn s i wr => ∃ (k : Nat) (S : ByteArray), gn = len - k ∧ k ≤ len ∧ s = .string S ∧ i = .int .i64 k ∧ S.size ≤ 1 + 5 * k ∧ Hid (Qd 34 S) ∧ Hid (Below w.heap.size w wr))
  case atStart => exact ⟨0, { data := #[34] }, rfl, Nat.zero_le _, rfl, rfl, by decide, Lib.hid (qd_start _ _ rfl (by decide) (by rw [vd_go (by decide) (by decide +kernel)]; exact vd_end (by decide +kernel))), Lib.hid (Below.refl _ _)⟩
  case round =>
    obtain ⟨k, S, hgn, hk, rfl, rfl, hSz, HS, HB⟩ := hrel
    by_cases hlt : k < len
    · obtain ⟨bk, off, rfl, hb, hc⟩ := HR.out.at (by omega)
      have hcell := (HB.out.cell (p := ⟨bk, off + k, none⟩) hb).trans (hc k hlt)
      obtain ⟨z, hz⟩ : ∃ z, z = zs.getD k 0 := ⟨_, rfl⟩
      rw [← hz] at hcell
      clear hz hc
      obtain ⟨c, hd0, hd1, er⟩ : ∃ c : Int, 32 ≤ c ∧ c < 53280 ∧ (IntKind.u64.wrap z).tmod 53248 = c - 32 := by
        have := IntKind.wrap_u64 z
        have h0 := Int.tmod_nonneg (a := IntKind.u64.wrap z) 53248 (by omega)
        have h1 := Int.tmod_lt_of_pos (IntKind.u64.wrap z) (b := 53248) (by omega)
        exact ⟨32 + (IntKind.u64.wrap z).tmod 53248, by omega, by omega, by omega⟩
      have kn : (k : Int) < (len : Int) := by omega
      have gb : ((({ data := #[34] } : ByteArray)[0]'(by decide)).toNat : Int) = 34 := rfl
      by_cases h127 : c = 127
      · subst h127
        go_wp2_with fail
        go_roundg (len - (k + 1))
        case measure => omega
        case rel => exact ⟨k + 1, S, rfl, hlt, rfl, by go_num, by omega, HS, HB⟩
      · have hp : isPt c = true := decide_eq_true (by omega)
        obtain ⟨E, hE⟩ : ∃ E, E = Utf8.encode c := ⟨_, rfl⟩
        have sE : E.size ≤ 4 := by rw [hE, (reads_enc hp).1]; exact (lenOf_pos _).2
        have HBK : Hid (Qd 34 (S ++ { data := #[92] } ++ E)) := Lib.hid (by rw [hE]; exact HS.out.back hp (by omega) (by omega) (by decide))
        have HSE : Hid (c ≠ 34 → c ≠ 92 → Qd 34 (S ++ E)) := Lib.hid (fun g1 g2 => by rw [hE]; exact HS.out.self hp (by omega) (by omega) g1 g2 (by decide) (by decide))
        have hE' := hE.symm
        have sB : (S ++ { data := #[92] } ++ E).size ≤ 1 + 5 * (k + 1) := by
          have h92 : ({ data := #[92] } : ByteArray).size = 1 := rfl
          rw [ByteArray.size_append, ByteArray.size_append, h92]; omega
        have sS : (S ++ E).size ≤ 1 + 5 * (k + 1) := by rw [ByteArray.size_append]; omega
        have HsB := Lib.hid sB
        have HsS := Lib.hid sS
        have hSk : S.size ≤ 151 := by omega
        clear hE hp sB sS
        by_cases hq : c = 34
        · subst hq
          go_wp2_with fail
          go_roundg (len - (k + 1))
          case measure => omega
          case rel => exact ⟨k + 1, _, rfl, hlt, rfl, by go_num, HsB.out, HBK, HB⟩
        · by_cases h92 : c = 92
          · subst h92
            go_wp2_with fail
            go_roundg (len - (k + 1))
            case measure => omega
            case rel => exact ⟨k + 1, _, rfl, hlt, rfl, by go_num, HsB.out, HBK, HB⟩
          · have n127 : (c == 127) = false := beq_false_of_ne h127
            have gq : (c == 34) = false := beq_false_of_ne hq
            have g92 : (c == 92) = false := beq_false_of_ne h92
            have HSE2 := Lib.hid (HSE.out hq h92)
            have e32 : 32 + (c - 32) = c := by omega
            clear hq h92 h127
            cases hb3 : (bits .and .i64 (k : Int) 3 == 3)
            · go_wp2_with fail
              go_roundg (len - (k + 1))
              case measure => omega
              case rel => exact ⟨k + 1, _, rfl, hlt, rfl, by go_num, HsS.out, HSE2, HB⟩
            · go_wp2_with fail
              go_roundg (len - (k + 1))
              case measure => omega
              case rel => exact ⟨k + 1, _, rfl, hlt, rfl, by go_num, HsB.out, HBK, HB⟩
    · obtain rfl : k = len := by omega
      clear hgn
      have hsc := HS.out.scan (P := { data := #[34] }) (kd := 6) rfl (by decide) (by rw [vd_go (by decide) (by decide +kernel)]; exact vd_end (by decide +kernel)) (by decide) (by omega)
      have hT : (S ++ ({ data := #[34] } : ByteArray)).size ≤ 200 := by
        have hA : ({ data := #[34] } : ByteArray).size = 1 := rfl
        rw [ByteArray.size_append, hA]; omega
      have HSC := Lib.hid (fun W h => two_of hsc.2 (by omega) (by omega) W h)
      have HRS := Lib.hid (fun W => alone_is hsc.1 (by omega) W)
      obtain ⟨U, hU⟩ : ∃ U, U = S ++ ({ data := #[34] } : ByteArray) := ⟨_, rfl⟩
      rw [← hU] at HSC HRS hT
      have hU' := hU.symm
      clear hsc hU
      go_wp2_with fail
      refine (HSC.out _ (HT.out.below HB.out)).mono ?_
      rintro e w1 ⟨g, cap1, rfl, hk1, hb1⟩
      have K1 := Lib.hid hk1
      have B1 : Hid (Below w.heap.size w w1) := Lib.hid (HB.out.trans (hb1.mono HB.out.size))
      clear hk1 hb1
      go_wp2_with fail
      refine (HRS.out _).mono ?_
      rintro e w2 ⟨ga, cap2, rfl, hb2⟩
      have K2 := Lib.hid (K1.out.below hb2)
      have B2 : Hid (Below w.heap.size w w2) := Lib.hid (B1.out.trans (hb2.mono B1.out.size))
      clear hb2
      go_wp2_with fail
      refine (told6_any _ (HT.out.below B2.out)).mono ?_
      rintro e w3 ⟨rfl, hb3⟩
      have K3 := Lib.hid (K2.out.below hb3)
      have B3 : Hid (Below w.heap.size w w3) := Lib.hid (B2.out.trans (hb3.mono B2.out.size))
      obtain ⟨⟨c1, c2, -, c4, -⟩, -⟩ := K3.out
      clear hb3 K1 K2
      go_wp2_with fail
      go_ret
      exact ⟨rfl, B3.out⟩
set_option maxRecDepth 100000 in
theorem walk (a : Option Addr) (len cap : Nat) (zs : List Int) (d : Bool) (w : World) (hr : IsRow w a len cap zs) (ht : STabs w) :
    Calls Tryd.prog 9 #[.slice a len cap, .bool d] w fun e w' => e = .returned (.bool true) ∧ Below w.heap.size w w' := by
  by_cases h1 : (30 : Int) < (len : Int)
  · go_enter Tryd.func9, Tryd.ntmps9
    go_wp2_with fail
    refine (told6_any _ ht).mono ?_
    rintro e w1 ⟨rfl, hb1⟩
    have HB := Lib.hid hb1
    clear hb1
    go_wp2_with fail
    go_ret
    exact ⟨rfl, HB.out⟩
  · cases d
    · exact walk_s a len cap zs (by omega) w hr ht
    · exact walk_d a len cap zs (by omega) w hr ht
set_option maxRecDepth 100000 in
theorem lifted (os : Os) (started : os.Started) (H : Type) (enc : TypeId × Value → H) :
    ReturnsInHanded {} Tryd.checked os 9 .any (fun w args => (Rows.scanEscapesSpec.pre enc Tryd.prog Tryd.f9 [] false w args ∧ laidMetH Tryd.prog scanLaid w) ∧ sizedMet enc Tryd.prog Tryd.f9 (OpenSpec.ofChange Rows.scanEscapesSpec) false w args)
      (Rows.scanEscapesSpec.post enc Tryd.prog Tryd.f9 false true false false) := by
  refine returnsInHanded_of_change_and (C := Tryd.checked) (X := fun w _ => laidMetH Tryd.prog scanLaid w) (fun _ _ _ hh h => h.of_heap hh) own6 started (by kernel_rfl) Tryd.func9
    (ChangeSpec.witness_shaped (enc := enc) (C := Tryd.checked) (os := os) (X := fun w _ => laidMetH Tryd.prog scanLaid w) false (World.laidAll Tryd.prog os scanLaid) #[.slice none 0 0, .bool false] 8 (World.laidAll_os _ _ _) (World.shaped_of_ZipB (by kernel_rfl) (by kernel_rfl)) (by kernel_rfl) (by kernel_rfl) (by kernel_rfl) (laid_met6 os _)) ?_
  intro W base args ds gs before hval0 hW _ _ hL _
  have hval : ∀ (j : Nat) t v, Tryd.f9.params[j]? = some t → args[j]? = some v → Value.okWide Tryd.prog W .any base t v := hval0
  have hW' := hW
  obtain ⟨p, q, hA0, hV, rfl, hfz, hnd⟩ := hW
  have hA : DataW.TrodAll enc Tryd.prog W 0 (fun _ => true) true Tryd.f9.params.toList args.toList ds p := hA0
  rw [Tryd.params9] at hA hval
  obtain ⟨v0, vs0, d0, ds0, p0, q0, hargs, rfl, rfl, h0, r0⟩ := trodAll_cons hA
  obtain ⟨v1, vs1, d1, ds1, p1, q1, rfl, rfl, rfl, h1, r1⟩ := trodAll_cons r0
  obtain ⟨rfl, rfl, rfl⟩ := trodAll_nil r1
  obtain rfl : args = #[v0, v1] := by cases args; simp_all
  obtain ⟨rfl, rfl⟩ := trodVars_none hV
  obtain ⟨a0, len0, cap0, rfl⟩ := okWide_slice Tryd.underlying36 (hval 0 36 v0 rfl rfl)
  have k0 := h0
  have lt0 : ∀ x ∈ p0, x.block < W.heap.size := by obtain ⟨m, hm⟩ := k0; exact DataW.trod_lt m _ _ _ hm
  obtain ⟨z0, w0⟩ : ∃ zs, IsRow W a0 len0 cap0 zs := by
    obtain ⟨fuel, hf⟩ := h0
    rcases open_ints Tryd.underlying36 Tryd.underlying3 (by kernel_rfl) hf with ⟨hcs, _⟩ | ⟨x, l, c, zs, hcs, _, hl, hm, hz, _, hcell, hwz⟩
    · simp [Value.cells] at hcs
      obtain ⟨rfl, rfl, rfl⟩ := hcs
      exact ⟨[], .inl ⟨rfl, rfl, rfl, rfl⟩⟩
    · simp [Value.cells] at hcs
      obtain ⟨rfl, rfl, rfl⟩ := hcs
      exact ⟨zs, .inr ⟨_, rfl, hl, hm, by simpa using hz, hcell, hwz⟩⟩
  obtain ⟨a1, rfl, rfl, rfl⟩ := open_bool Tryd.underlying4 (hval 1 4 v1 rfl rfl) h1
  clear hA0 hval0
  refine (walk a0 len0 cap0 z0 a1 W w0 (stabs_of_laid hL)).mono fun e W' ⟨he, bel⟩ => ?_
  subst he
  exact ⟨_, rfl, _, _, _, [], _, [], hW', trodAll_mk1 (shut_bool Tryd.underlying4 _), (trodAll_cons_mk (Below.trod laidOut6 (by kernel_rfl) (of_decide_eq_true (by kernel_rfl)) k0 bel lt0) (trodAll_cons_mk (shut_bool Tryd.underlying4 _) trodAll_mk0)), rfl, bel.frame _, fun h => by cases h⟩
theorem over : Rows.ScanEscapesSaid :=
  OpenClaim.holds_of_wide 9 Tryd.f9 rfl rfl rfl rfl rfl rfl rfl ⟨rfl, rfl, rfl, rfl, rfl⟩ rfl rfl rfl rfl rfl (by kernel_rfl) Tryd.func9 (by kernel_rfl)
    (of_decide_eq_true (by kernel_rfl)) (by unfold Func.isWrapper; first | (rw [if_pos (by decide +kernel)]; kernel_rfl) | (rw [if_neg (by decide +kernel)]; exact ⟨rfl, rfl⟩))
    (fun os started H enc _ => lifted os started H enc)
/-- THE TIED CARD. -/
theorem proved : Rows.ScanEscapesCardSaid :=
  Claim7.holds_tied_plain_at .later [] [.data, .data, .data, .data, .data, .data, .pinned] true Rows.scanEscapesCard.stood.harness false
    over (fun _ h => by cases h) (by kernel_rfl) (fun _ h => by cases h) scanEscapes_row_tie rfl ⟨rfl, rfl⟩ (by kernel_rfl) rfl
    (fun f fn hf hfn => by
      obtain rfl : f = 9 := Option.some.inj ((show Tryd.prog.funcNamed "galley/galleylaw6.ScanEscapes" = some 9 by kernel_rfl).symm.trans hf) |>.symm
      obtain rfl : fn = Tryd.f9 := (Option.some.inj (Tryd.func9.symm.trans hfn)).symm
      exact ⟨by kernel_rfl, fun j t ht => by
        rw [Tryd.params9] at ht
        have hm : t ∈ [36, 4] := by
          have := Array.mem_of_getElem? ht
          simpa using this
        have hall : ([36, 4].all fun u => !Tryd.prog.wantsStandIn u) = true := by kernel_rfl
        exact (show Tryd.prog.wantsStandIn t = false by simpa using List.all_eq_true.1 hall t hm)⟩)
    (by kernel_rfl)
#print axioms proved
end Go.Proofs.YtajjhhodpohfpaaDoor.scanEscapes
