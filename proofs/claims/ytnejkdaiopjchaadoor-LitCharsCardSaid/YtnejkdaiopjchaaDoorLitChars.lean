/-
  Each code point above the blank is a char by itself, but \ and 127; each by an escape (promise 4.3): for every number the statement LitChars returns true. The four tables (utf's three, lit's letters) are tied to the program's text by the given ties; no further condition.
-/
import Derived.Test.YtnejkdaiopjchaaDoorLitForms
import Derived.Test.YtnejkdaiopjchaaDoorLitLaid
import Derived.Test.YtnejkdaiopjchaaDoorCards
import Derived.Test.YtnejkdaiopjchaaDoorTie
namespace Go.Proofs.YtnejkdaiopjchaaDoor.litChars
open Go.ChangeShapes Go.WideShapes Go.ChangeAt Go.RowKit Go.PlainAid

theorem chr_hex6 {X : ByteArray} {c : Nat} (h : HexIs c 6 X) (hp : isPt (c : Int) = true) : chr (({ data := #[36, 92, 120, 123] } ++ X) ++ { data := #[125] }) = ((c : Int), 0) := by
  have hA : ({ data := #[36, 92, 120, 123] } : ByteArray).size = 4 := rfl
  have hAX : ({ data := #[36, 92, 120, 123] } ++ X).size = 10 := by rw [ByteArray.size_append, hA, h.1]
  have hz : (({ data := #[36, 92, 120, 123] } ++ X) ++ { data := #[125] }).size = 11 := by rw [ByteArray.size_append, hAX]; rfl
  have l : ∀ i, i < 4 → bt (({ data := #[36, 92, 120, 123] } ++ X) ++ { data := #[125] }) i = bt { data := #[36, 92, 120, 123] } i := fun i hi => by
    rw [bt_app_l _ _ _ (by omega), bt_app_l _ _ _ (by omega)]
  have e : esc (({ data := #[36, 92, 120, 123] } ++ X) ++ { data := #[125] }) 1 = ((c : Int), 10) := by
    refine esc_hex6 (by rw [l 1 (by omega)]; rfl) (by rw [l 2 (by omega)]; rfl) (by rw [l 3 (by omega)]; rfl) (fun i hi => ?_) ?_ hp
    · rw [bt_app_l _ _ _ (by omega), show 1 + 3 + i = ({ data := #[36, 92, 120, 123] } : ByteArray).size + i by rw [hA], bt_app_r, h.2 i hi]
    · have := bt_app_r ({ data := #[36, 92, 120, 123] } ++ X) { data := #[125] } 0
      rw [hAX] at this
      rw [show 1 + 9 = 10 + 0 by omega, this]
      rfl
  have hb := pt_bd hp
  unfold chr
  rw [if_pos (by rw [l 0 (by omega)]; rfl), e, hz, if_neg (by show ¬ (c : Int) = -1; omega)]
  rfl
/-- A code point behind a $, and perhaps an a. -/
theorem chr_self {c : Int} (hp : isPt c = true) (h92 : c ≠ 92) (Y : ByteArray) : bt (({ data := #[36] } ++ Utf8.encode c) ++ Y) 0 = 36 ∧ (esc (({ data := #[36] } ++ Utf8.encode c) ++ Y) 1).1 = -1 ∧ nc (({ data := #[36] } ++ Utf8.encode c) ++ Y) 1 = c ∧ nl (({ data := #[36] } ++ Utf8.encode c) ++ Y) 1 = lenOf c ∧ (({ data := #[36] } ++ Utf8.encode c) ++ Y).size = 1 + lenOf c + Y.size := by
  obtain ⟨r1, r2, r3, r4⟩ := reads_enc hp
  have hl := lenOf_pos c
  have hb := pt_bd hp
  have hA : ({ data := #[36] } : ByteArray).size = 1 := rfl
  have e : ({ data := #[36] } ++ Utf8.encode c) ++ Y = { data := #[36] } ++ (Utf8.encode c ++ Y) := ByteArray.append_assoc
  have hn := nc_app_r { data := #[36] } (Utf8.encode c ++ Y) 0
  have hn2 := nl_app_r { data := #[36] } (Utf8.encode c ++ Y) 0
  rw [nc_app_l Y (by omega), r2] at hn
  rw [nl_app_l Y (by omega), r3] at hn2
  rw [e]
  have b0 : bt ({ data := #[36] } ++ (Utf8.encode c ++ Y)) 0 = 36 := by rw [bt_app_l _ _ _ (by omega)]; rfl
  have b1 : bt ({ data := #[36] } ++ (Utf8.encode c ++ Y)) 1 ≠ 92 := fun h => by
    have hlt : 1 < ({ data := #[36] } ++ (Utf8.encode c ++ Y)).size := bt_lt (by omega)
    have := (nc_ascii hlt (by omega)).1
    rw [h] at this
    exact h92 (hn.symm.trans this)
  refine ⟨b0, ?_, hn, hn2, by rw [ByteArray.size_append, ByteArray.size_append, r1, hA]; omega⟩
  unfold esc
  rw [if_neg (fun h => b1 h.2)]
theorem chr_self1 {c : Int} (hp : isPt c = true) (h92 : c ≠ 92) : chr ({ data := #[36] } ++ Utf8.encode c) = if c ≤ 32 ∨ c = 127 then (0, 8) else (c, 0) := by
  obtain ⟨h1, h2, h3, h4, h5⟩ := chr_self hp h92 ByteArray.empty
  rw [ByteArray.append_empty] at h1 h2 h3 h4 h5
  have hl := lenOf_pos c
  have hz : ByteArray.empty.size = 0 := rfl
  unfold chr
  rw [if_pos h1, if_pos h2, h3, h4, h5]
  by_cases h : c ≤ 32 ∨ c = 127
  · rw [if_pos h, if_pos (by omega)]
  · rw [if_neg h, if_neg (by omega), if_pos (by omega)]
theorem chr_selfa {c : Int} (hp : isPt c = true) (h92 : c ≠ 92) : chr (({ data := #[36] } ++ Utf8.encode c) ++ { data := #[97] }) = (0, 8) := by
  obtain ⟨h1, h2, h3, h4, h5⟩ := chr_self hp h92 { data := #[97] }
  have hl := lenOf_pos c
  have hz : ({ data := #[97] } : ByteArray).size = 1 := rfl
  unfold chr
  rw [if_pos h1, if_pos h2, h3, h4, h5]
  split
  · rfl
  · rw [if_neg (by omega)]
theorem chr_92 : chr ({ data := #[36] } ++ Utf8.encode 92) = (0, 8) := by decide +kernel
theorem char_of {s : ByteArray} {v e : Int} (hs : s.size ≤ 1000) (h : chr s = (v, e)) {w : World} (ht : LTabs w) :
    Calls Tryd.prog 11 #[.string s] w fun x w' => x = .returned (.tuple #[.int .i64 v, .int .i64 e]) ∧ Below w.heap.size w w' := char_is4 s v e hs h w ht

def CharAt (s : ByteArray) (v e : Int) : Prop := ∀ W, LTabs W → Calls Tryd.prog 11 #[.string s] W fun x w' => x = .returned (.tuple #[.int .i64 v, .int .i64 e]) ∧ Below W.heap.size W w'
set_option maxRecDepth 100000 in
set_option maxHeartbeats 4000000 in
theorem walk_ok (a c v1 e1 v3 e3 : Int) (E : ByteArray) (hc0 : 0 ≤ c) (hc1 : c < 1114112) (er : (IntKind.u64.wrap a).tmod 1114112 = c) (hE' : Utf8.encode c = E) (sE : E.size ≤ 4)
    (HC1 : Hid (CharAt ({ data := #[36] } ++ E) v1 e1)) (HC2 : Hid (CharAt (({ data := #[36] } ++ E) ++ { data := #[97] }) v3 e3))
    (H : Hid (∀ W, LTabs W → Calls Tryd.prog 8 #[] W fun e w' => e = .returned (.bool true) ∧ Below W.heap.size W w'))
    (HX : Hid (∀ W, Calls Tryd.prog 20 #[.int .i64 c, .int .i64 6] W fun e w' => (∃ S, e = .returned (.string S) ∧ HexIs c.toNat 6 S) ∧ W = w'))
    (HPX : Hid (∀ X, HexIs c.toNat 6 X → CharAt (({ data := #[36, 92, 120, 123] } ++ X) ++ { data := #[125] }) c 0))
    (hcase : (c < 55296 ∧ decide (32 < c) = false ∧ e1 = 8 ∧ e3 = 8) ∨ (c < 55296 ∧ decide (32 < c) = true ∧ (c != 127) = false ∧ e1 = 8 ∧ e3 = 8) ∨ (c < 55296 ∧ decide (32 < c) = true ∧ (c != 127) = true ∧ (c != 92) = false ∧ (c == 92) = true ∧ e1 = 8 ∧ e3 = 0) ∨
      (c < 55296 ∧ decide (32 < c) = true ∧ (c != 127) = true ∧ (c != 92) = true ∧ v1 = c ∧ e1 = 0 ∧ e3 = 8) ∨ (55296 ≤ c ∧ decide (c ≤ 57343) = false ∧ decide (32 < c) = true ∧ (c != 127) = true ∧ (c != 92) = true ∧ v1 = c ∧ e1 = 0 ∧ e3 = 8)) (w : World) (HT : Hid (LTabs w)) :
    Calls Tryd.prog 6 #[.int .i64 a] w fun e w' => e = .returned (.bool true) ∧ Below w.heap.size w w' := by
  rcases hcase with ⟨g1, g2, rfl, rfl⟩ | ⟨g1, g2, g3, rfl, rfl⟩ | ⟨g1, g2, g3, g4, g5, rfl, rfl⟩ | ⟨g1, g2, g3, g4, rfl, rfl, rfl⟩ | ⟨g0, g1, g2, g3, g4, rfl, rfl, rfl⟩
  all_goals
    go_enter Tryd.func6, Tryd.ntmps6
    go_wp2_with fail
    refine (HC1.out _ HT.out).mono ?_
    rintro e w1 ⟨rfl, hb1⟩
    have HB1 := Lib.hid hb1
    clear hb1
    go_wp2_with fail
    refine (HX.out _).mono ?_
    rintro e w' ⟨⟨X, rfl, hX⟩, rfl⟩
    have sX := hX.1
    have HCX := Lib.hid (HPX.out X hX)
    clear hX
    go_wp2_with fail
    refine (HCX.out _ (HT.out.below HB1.out)).mono ?_
    rintro e w2 ⟨rfl, hb2⟩
    have HB2 : Hid (Below w.heap.size w w2) := HB1.out.trans (hb2.mono HB1.out.size)
    clear hb2
    go_wp2_with fail
    refine (HC2.out _ (HT.out.below HB2.out)).mono ?_
    rintro e w3 ⟨rfl, hb3⟩
    have HB3 : Hid (Below w.heap.size w w3) := HB2.out.trans (hb3.mono HB2.out.size)
    clear hb3
    go_wp2_with fail
    refine (H.out _ (HT.out.below HB3.out)).mono ?_
    rintro e w4 ⟨rfl, hb4⟩
    have HB4 : Hid (Below w.heap.size w w4) := HB3.out.trans (hb4.mono HB3.out.size)
    clear hb4
    go_wp2_with fail
    go_ret
    exact ⟨rfl, HB4.out⟩
theorem walk (a : Int) (w : World) (ht : LTabs w) :
    Calls Tryd.prog 6 #[.int .i64 a] w fun e w' => e = .returned (.bool true) ∧ Below w.heap.size w w' := by
  have HT := Lib.hid ht
  clear ht
  obtain ⟨c, hc0, hc1, er⟩ : ∃ c : Int, 0 ≤ c ∧ c < 1114112 ∧ (IntKind.u64.wrap a).tmod 1114112 = c := by
    have := IntKind.wrap_u64 a
    exact ⟨_, Int.tmod_nonneg _ (by omega), Int.tmod_lt_of_pos _ (by omega), rfl⟩
  have H := Lib.hid (fun W hT => told4_any W hT)
  by_cases hgap : 55296 ≤ c ∧ c ≤ 57343
  · obtain ⟨g1, g2⟩ := hgap
    go_enter Tryd.func6, Tryd.ntmps6
    go_wp2_with fail
    refine (H.out _ HT.out).mono ?_
    rintro e w1 ⟨rfl, hb1⟩
    have HB1 := Lib.hid hb1
    clear hb1
    go_wp2_with fail
    go_ret
    exact ⟨rfl, HB1.out⟩
  · have hp : isPt c = true := decide_eq_true (by omega)
    have HX := Lib.hid (fun W => hex_any c.toNat 6 (by omega) (by omega) W)
    have ecn : ((c.toNat : Nat) : Int) = c := Int.toNat_of_nonneg hc0
    rw [ecn] at HX
    have s1 := (reads_enc hp).1
    have s2 := lenOf_pos c
    have HPX : Hid (∀ X, HexIs c.toNat 6 X → CharAt (({ data := #[36, 92, 120, 123] } ++ X) ++ { data := #[125] }) c 0) := fun X hX W hT =>
      char_of (by rw [ByteArray.size_append, ByteArray.size_append, hX.1]; decide) (by rw [chr_hex6 hX (by rw [ecn]; exact hp), ecn]) hT
    have z1 : ({ data := #[36] } ++ Utf8.encode c).size ≤ 1000 := by rw [ByteArray.size_append, s1]; show 1 + lenOf c ≤ 1000; omega
    have z2 : (({ data := #[36] } ++ Utf8.encode c) ++ { data := #[97] }).size ≤ 1000 := by rw [ByteArray.size_append, ByteArray.size_append, s1]; show 1 + lenOf c + 1 ≤ 1000; omega
    by_cases h92 : c = 92
    · subst h92
      have k2 : chr (({ data := #[36] } ++ Utf8.encode 92) ++ { data := #[97] }) = (97, 0) := by decide +kernel
      exact walk_ok a 92 0 8 97 0 _ hc0 hc1 er rfl (by omega) (fun W hT => char_of z1 chr_92 hT) (fun W hT => char_of z2 k2 hT) H HX HPX (.inr (.inr (.inl ⟨by omega, by decide, by decide, by decide, by decide, rfl, rfl⟩))) w HT
    · have HC2 : CharAt (({ data := #[36] } ++ Utf8.encode c) ++ { data := #[97] }) 0 8 := fun W hT => char_of z2 (chr_selfa hp h92) hT
      have k1 := chr_self1 hp h92
      by_cases h32 : c ≤ 32
      · rw [if_pos (.inl h32)] at k1
        exact walk_ok a c 0 8 0 8 _ hc0 hc1 er rfl (by omega) (fun W hT => char_of z1 k1 hT) HC2 H HX HPX (.inl ⟨by omega, decide_eq_false (by omega), rfl, rfl⟩) w HT
      by_cases h127 : c = 127
      · rw [if_pos (.inr h127)] at k1
        exact walk_ok a c 0 8 0 8 _ hc0 hc1 er rfl (by omega) (fun W hT => char_of z1 k1 hT) HC2 H HX HPX (.inr (.inl ⟨by omega, decide_eq_true (by omega), by rw [h127]; rfl, rfl, rfl⟩)) w HT
      rw [if_neg (by omega)] at k1
      by_cases hg : c < 55296
      · exact walk_ok a c c 0 0 8 _ hc0 hc1 er rfl (by omega) (fun W hT => char_of z1 k1 hT) HC2 H HX HPX (.inr (.inr (.inr (.inl ⟨hg, decide_eq_true (by omega), by simpa using h127, by simpa using h92, rfl, rfl, rfl⟩)))) w HT
      · exact walk_ok a c c 0 0 8 _ hc0 hc1 er rfl (by omega) (fun W hT => char_of z1 k1 hT) HC2 H HX HPX (.inr (.inr (.inr (.inr ⟨by omega, decide_eq_false (by omega), decide_eq_true (by omega), by simpa using h127, by simpa using h92, rfl, rfl, rfl⟩)))) w HT
set_option maxRecDepth 100000 in
theorem lifted (os : Os) (started : os.Started) (H : Type) (enc : TypeId × Value → H) :
    ReturnsInHanded {} Tryd.checked os 6 .any (fun w args => (Rows.litCharsSpec.pre enc Tryd.prog Tryd.f6 [] false w args ∧ laidMetH Tryd.prog litLaid w) ∧ sizedMet enc Tryd.prog Tryd.f6 (OpenSpec.ofChange Rows.litCharsSpec) false w args)
      (Rows.litCharsSpec.post enc Tryd.prog Tryd.f6 false true false false) := by
  refine returnsInHanded_of_change_and (C := Tryd.checked) (X := fun w _ => laidMetH Tryd.prog litLaid w) (fun _ _ _ hh h => h.of_heap hh) own4 started (by kernel_rfl) Tryd.func6
    (ChangeSpec.witness_shaped (enc := enc) (C := Tryd.checked) (os := os) (X := fun w _ => laidMetH Tryd.prog litLaid w) false (World.doorLaid Tryd.prog 400 os) #[.int .i64 0] 8 rfl (World.shaped_of_RefB (by kernel_rfl) (by kernel_rfl)) (by kernel_rfl) (by kernel_rfl) (by kernel_rfl) (door_met4 os _)) ?_
  intro W base args ds gs before hval0 hW _ _ hL _
  have hval : ∀ (j : Nat) t v, Tryd.f6.params[j]? = some t → args[j]? = some v → Value.okWide Tryd.prog W .any base t v := hval0
  have hW' := hW
  obtain ⟨p, q, hA0, hV, rfl, hfz, hnd⟩ := hW
  have hA : DataW.TrodAll enc Tryd.prog W 0 (fun _ => true) true Tryd.f6.params.toList args.toList ds p := hA0
  rw [Tryd.params6] at hA hval
  obtain ⟨v0, vs0, d0, ds0, p0, q0, hargs, rfl, rfl, h0, r0⟩ := trodAll_cons hA
  obtain ⟨rfl, rfl, rfl⟩ := trodAll_nil r0
  obtain rfl : args = #[v0] := by cases args; simp_all
  obtain ⟨rfl, rfl⟩ := trodVars_none hV
  obtain ⟨a0, rfl, rfl, rfl, w0⟩ := open_int Tryd.underlying3 (hval 0 3 v0 rfl rfl) h0
  clear hA0 hval0
  simp only [List.append_nil] at hW'
  refine (walk a0 W (ltabs_of_laid hL)).mono fun e W' ⟨he, bel⟩ => ?_
  subst he
  exact ⟨_, rfl, _, _, _, [], _, [], hW', trodAll_mk1 (shut_bool Tryd.underlying4 _), (trodAll_cons_mk (shut_int Tryd.underlying3 w0) trodAll_mk0), rfl, bel.frame _, fun h => by cases h⟩
theorem over : Rows.LitCharsSaid :=
  OpenClaim.holds_of_wide 6 Tryd.f6 rfl rfl rfl rfl rfl rfl rfl ⟨rfl, rfl, rfl, rfl, rfl⟩ rfl rfl rfl rfl rfl (by kernel_rfl) Tryd.func6 (by kernel_rfl)
    (of_decide_eq_true (by kernel_rfl)) (by unfold Func.isWrapper; first | (rw [if_pos (by decide +kernel)]; kernel_rfl) | (rw [if_neg (by decide +kernel)]; exact ⟨rfl, rfl⟩))
    (fun os started H enc _ => lifted os started H enc)
/-- THE TIED CARD. -/
theorem proved : Rows.LitCharsCardSaid :=
  Claim7.holds_tied_plain_at .later [] [.data, .data, .data, .data] true Rows.litCharsCard.stood.harness false
    over (fun _ h => by cases h) (by kernel_rfl) (fun _ h => by cases h) litChars_row_tie rfl ⟨rfl, rfl⟩ (by kernel_rfl) rfl
    (fun f fn hf hfn => by
      obtain rfl : f = 6 := Option.some.inj ((show Tryd.prog.funcNamed "galley/galleylaw4.LitChars" = some 6 by kernel_rfl).symm.trans hf) |>.symm
      obtain rfl : fn = Tryd.f6 := (Option.some.inj (Tryd.func6.symm.trans hfn)).symm
      exact ⟨by kernel_rfl, fun j t ht => by
        rw [Tryd.params6] at ht
        have hm : t ∈ [3] := by
          have := Array.mem_of_getElem? ht
          simpa using this
        have hall : ([3].all fun u => !Tryd.prog.wantsStandIn u) = true := by kernel_rfl
        exact (show Tryd.prog.wantsStandIn t = false by simpa using List.all_eq_true.1 hall t hm)⟩)
    (by kernel_rfl)
#print axioms proved
end Go.Proofs.YtnejkdaiopjchaaDoor.litChars
