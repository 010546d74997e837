/-
  Signs, what opens, what closes, and pairs are what the document says (promises 5.1, 5.2): for every text, integer and token the statement SignAsks returns true, where sign's table lies as the text lays it.
-/
import Derived.Test.YtgkilffofnjmlaaDoorSignLaid
import Derived.Test.YtgkilffofnjmlaaDoorRefSignLong
import Derived.Test.YtgkilffofnjmlaaDoorTok
import Derived.BigRegion
import Derived.Deep.RegionHeld3
import Derived.Deep.CutRange
import Derived.Test.YtgkilffofnjmlaaDoorCards
import Derived.Test.YtgkilffofnjmlaaDoorTie
namespace Go.Proofs.YtgkilffofnjmlaaDoor.signAsks
open Go.ChangeShapes Go.WideShapes Go.ChangeAt Go.RowKit Go.PlainAid

/-- The token lies where the walk laid it. -/
def Tk (w W : World) (K : Int) (S : ByteArray) (A : Int) : Prop :=
  (W.cell? ⟨w.heap.size, 0, none⟩ = some (.int .i64 K) ∧ W.cell? ⟨w.heap.size, 1, none⟩ = some (.string S) ∧ W.cell? ⟨w.heap.size, 2, none⟩ = some (.int .i64 A)) ∧ w.heap.size < W.heap.size ∧ Below w.heap.size w W
theorem Tk.below {w W W' : World} {K A : Int} {S : ByteArray} (h : Tk w W K S A) (hb : Below W.heap.size W W') : Tk w W' K S A := by
  obtain ⟨⟨h2, h3, h4⟩, h6, h7⟩ := h
  exact ⟨⟨(hb.cell (p := ⟨w.heap.size, 0, none⟩) h6).trans h2, (hb.cell (p := ⟨w.heap.size, 1, none⟩) h6).trans h3, (hb.cell (p := ⟨w.heap.size, 2, none⟩) h6).trans h4⟩, Nat.lt_of_lt_of_le h6 hb.size, h7.trans (hb.mono h7.size)⟩
theorem tk_mk (w : World) (K A : Int) (S : ByteArray) (t : TypeId) : Tk w (w.alloc (.cells #[.int .i64 K, .string S, .int .i64 A] t)) K S A :=
  ⟨⟨World.cell?_alloc_new _ _ _ _, World.cell?_alloc_new _ _ _ _, World.cell?_alloc_new _ _ _ _⟩, by simp, below1 _ _⟩
theorem S_of {w W : World} {K A : Int} {S : ByteArray} (h : Tk w W K S A) : W.cell? ⟨w.heap.size, 0, none⟩ = some (.int .i64 K) ∧ W.cell? ⟨w.heap.size, 1, none⟩ = some (.string S) ∧ W.cell? ⟨w.heap.size, 2, none⟩ = some (.int .i64 A) ∧ Hid (Tk w W K S A) := ⟨h.1.1, h.1.2.1, h.1.2.2, Lib.hid h⟩
theorem S_tk {w W : World} {K A : Int} {S : ByteArray} (h : W.cell? ⟨w.heap.size, 0, none⟩ = some (.int .i64 K) ∧ W.cell? ⟨w.heap.size, 1, none⟩ = some (.string S) ∧ W.cell? ⟨w.heap.size, 2, none⟩ = some (.int .i64 A) ∧ Hid (Tk w W K S A)) : Tk w W K S A := h.2.2.2.out
set_option maxRecDepth 100000 in
set_option maxHeartbeats 1000000 in
theorem walk (s : ByteArray) (hs : s.size ≤ maxLen) (a : Int) (K : Int) (S : ByteArray) (A : Int) (_ : S.size ≤ maxLen) (w : World) (ht : TabM w) :
    Calls Tryd.prog 3 #[.string s, .int .i64 a, .agg #[.int .i64 K, .string S, .int .i64 A]] w fun e w' => e = .returned (.bool true) ∧ Below w.heap.size w w' := by
  have HT := Lib.hid ht
  have hpos := Lib.hid ht.pos
  clear ht
  unfold maxLen at hs
  by_cases h1 : (100 : Int) < (s.size : Int)
  · go_enter Tryd.func3, Tryd.ntmps3
    go_wp2_with fail
    refine (told5_any _ (HT.out.below (below1 _ _) hpos.out)).mono ?_
    rintro e w1 ⟨rfl, hb1⟩
    have HB := Lib.hid ((tk_mk w K A S 23).below hb1).2.2
    clear hb1
    go_wp2_with fail
    go_ret
    exact ⟨rfl, HB.out⟩
  by_cases h2 : (100 : Int) < (S.size : Int)
  · go_enter Tryd.func3, Tryd.ntmps3
    go_wp2_with fail
    refine (told5_any _ (HT.out.below (below1 _ _) hpos.out)).mono ?_
    rintro e w1 ⟨rfl, hb1⟩
    have HB := Lib.hid ((tk_mk w K A S 23).below hb1).2.2
    clear hb1
    go_wp2_with fail
    go_ret
    exact ⟨rfl, HB.out⟩
  have hs1 : s.size ≤ 1048576 := by omega
  have CL := Lib.hid (fun (i : Int) (n : Int) (h : n = (lg s i : Int)) (W : World) (ht : TabM W) => show Calls Tryd.prog 7 #[.string s, .int .i64 i] W fun e w' => e = .returned (.int .i64 n) ∧ Below W.heap.size W w' by rw [h]; exact longest_any s i W ht)
  have CR := Lib.hid (fun (i : Int) (n : Int) (h : n = (lg s i : Int)) (W : World) => show Calls Tryd.prog 8 #[.string s, .int .i64 i] W fun e w' => e = .returned (.int .i64 n) ∧ Below W.heap.size W w' by rw [h]; exact rlongest_any s i hs1 W)
  obtain ⟨o, ho⟩ : ∃ o, o = ops K S := ⟨_, rfl⟩
  obtain ⟨c, hc⟩ : ∃ c, c = cls K S := ⟨_, rfl⟩
  obtain ⟨p, hp⟩ : ∃ p, p = pr S := ⟨_, rfl⟩
  have CO := Lib.hid (fun W => opens_is K A S o ho.symm W)
  have CC := Lib.hid (fun W => closes_is K A S c hc.symm W)
  have RO := Lib.hid (fun W => ropens_any K A S W)
  have RC := Lib.hid (fun W => rcloses_any K A S W)
  have CP := Lib.hid (fun W => pair_is S p hp.symm W)
  rw [← ho] at RO
  rw [← hc] at RC
  have HP : Hid (p = ⟨(prL S.data.toList).toArray⟩) := Lib.hid hp
  clear ho hc hp
  have hoo : (o == o) = true := by simp
  have hcc : (c == c) = true := by simp
  have hpp : (p.toList == p.toList) = true := beq_self_eq_true _
  go_enter Tryd.func3, Tryd.ntmps3
  go_wp2_with fail
  go_loopg [7] s.size (fun gn i wr => ∃ k : Nat, gn = s.size - k ∧ k ≤ s.size ∧ i = .int .i64 k ∧ Hid (Tk w wr K S A))
  case atStart => exact ⟨0, rfl, Nat.zero_le _, rfl, Lib.hid (tk_mk _ _ _ _ _)⟩
  case round =>
    obtain ⟨k, hgn, hk, rfl, HW⟩ := hrel
    by_cases hlt : k < s.size
    · have h3 := lg_le s k
      obtain ⟨n, hn⟩ : ∃ n : Int, n = (lg s k : Int) := ⟨_, rfl⟩
      have CL1 := Lib.hid (CL.out k n hn)
      have CR1 := Lib.hid (CR.out k n hn)
      have hnn : (n != n) = false := by simp
      clear hn h3
      go_wp2_with fail
      refine (CL1.out _ (HT.out.below HW.out.2.2 hpos.out)).mono ?_
      rintro e w1 ⟨rfl, hb1⟩
      have T1 := Lib.hid (HW.out.below hb1)
      clear hb1
      go_wp2_with fail
      refine (CR1.out _).mono ?_
      rintro e w2 ⟨rfl, hb2⟩
      have T2 := Lib.hid (T1.out.below hb2)
      clear hb2
      go_wp2_with fail
      go_roundg (s.size - (k + 1))
      case measure => omega
      case rel => exact ⟨k + 1, rfl, hlt, by go_num, T2⟩
    · obtain rfl : k = s.size := by omega
      obtain ⟨n, hn⟩ : ∃ n : Int, n = (lg s a : Int) := ⟨_, rfl⟩
      have CL1 := Lib.hid (CL.out a n hn)
      have CR1 := Lib.hid (CR.out a n hn)
      have hnn : (n == n) = true := by simp
      obtain ⟨c0, c1, c2⟩ := HW.out.1
      clear hn
      go_upto_region 9 with fail
      go_cut [33] from 32 to 33 (fun v wx => v = .string S ∧ wx = wr)
      case first =>
        go_wp2_with fail
        go_meet
        exact ⟨rfl, rfl⟩
      case rest =>
        obtain ⟨rfl, rfl⟩ := hcut
        rename_i hk9
        refine hk9 _ _ ?_
        clear hk9
        go_cut [8] from 34 to 41 (fun v wx => v = .string p ∧ wx = wc)
        case first =>
          cases h1 : (S.toList == [40])
          · cases h2 : (S.toList == [123])
            · cases h3 : (S.toList == [91])
              · cases h4 : (S.toList == [60, 60])
                · have HF : Hid (p = { data := #[] }) := Lib.hid (by rw [HP.out]; unfold prL; rw [if_neg (data_ne h1), if_neg (data_ne h2), if_neg (data_ne h3), if_neg (data_ne h4)])
                  go_wp2_with fail
                  go_meet
                  exact ⟨by rw [HF.out], rfl⟩
                · have HF : Hid (p = { data := #[62, 62] }) := Lib.hid (by rw [HP.out]; unfold prL; rw [if_neg (data_ne h1), if_neg (data_ne h2), if_neg (data_ne h3), if_pos (data_of h4)])
                  go_wp2_with fail
                  go_meet
                  exact ⟨by rw [HF.out], rfl⟩
              · have HF : Hid (p = { data := #[93] }) := Lib.hid (by rw [HP.out]; unfold prL; rw [if_neg (data_ne h1), if_neg (data_ne h2), if_pos (data_of h3)])
                go_wp2_with fail
                go_meet
                exact ⟨by rw [HF.out], rfl⟩
            · have HF : Hid (p = { data := #[125] }) := Lib.hid (by rw [HP.out]; unfold prL; rw [if_neg (data_ne h1), if_pos (data_of h2)])
              go_wp2_with fail
              go_meet
              exact ⟨by rw [HF.out], rfl⟩
          · have HF : Hid (p = { data := #[41] }) := Lib.hid (by rw [HP.out]; unfold prL; rw [if_pos (data_of h1)])
            go_wp2_with fail
            go_meet
            exact ⟨by rw [HF.out], rfl⟩
        case rest =>
          obtain ⟨rfl, rfl⟩ := hcut
          rename_i hk18 _
          refine hk18 _ _ ?_
          clear hk18
          obtain ⟨W, hW⟩ : ∃ W, W = wc := ⟨_, rfl⟩
          have D0 : Hid (∀ W, Tk w W K S A → Calls Tryd.prog 6 #[] W fun e w' => e = .returned (.bool true) ∧ Tk w w' K S A) := Lib.hid fun W h => (told5_any W (HT.out.below h.2.2 hpos.out)).mono (by rintro e w' ⟨rfl, hb⟩; exact ⟨rfl, h.below hb⟩)
          have D1 : Hid (∀ W, Tk w W K S A → Calls Tryd.prog 7 #[.string s, .int .i64 a] W fun e w' => e = .returned (.int .i64 n) ∧ Tk w w' K S A) := Lib.hid fun W h => (CL1.out W (HT.out.below h.2.2 hpos.out)).mono (by rintro e w' ⟨rfl, hb⟩; exact ⟨rfl, h.below hb⟩)
          have D2 : Hid (∀ W, Tk w W K S A → Calls Tryd.prog 8 #[.string s, .int .i64 a] W fun e w' => e = .returned (.int .i64 n) ∧ Tk w w' K S A) := Lib.hid fun W h => (CR1.out W).mono (by rintro e w' ⟨rfl, hb⟩; exact ⟨rfl, h.below hb⟩)
          have D3 : Hid (∀ W, Tk w W K S A → Calls Tryd.prog 9 #[.agg #[.int .i64 K, .string S, .int .i64 A]] W fun e w' => e = .returned (.bool o) ∧ Tk w w' K S A) := Lib.hid fun W h => (CO.out W).mono (by rintro e w' ⟨rfl, hb⟩; exact ⟨rfl, h.below hb⟩)
          have D4 : Hid (∀ W, Tk w W K S A → Calls Tryd.prog 10 #[.agg #[.int .i64 K, .string S, .int .i64 A]] W fun e w' => e = .returned (.bool o) ∧ Tk w w' K S A) := Lib.hid fun W h => (RO.out W).mono (by rintro e w' ⟨rfl, hb⟩; exact ⟨rfl, h.below hb⟩)
          have D5 : Hid (∀ W, Tk w W K S A → Calls Tryd.prog 11 #[.agg #[.int .i64 K, .string S, .int .i64 A]] W fun e w' => e = .returned (.bool c) ∧ Tk w w' K S A) := Lib.hid fun W h => (CC.out W).mono (by rintro e w' ⟨rfl, hb⟩; exact ⟨rfl, h.below hb⟩)
          have D6 : Hid (∀ W, Tk w W K S A → Calls Tryd.prog 12 #[.agg #[.int .i64 K, .string S, .int .i64 A]] W fun e w' => e = .returned (.bool c) ∧ Tk w w' K S A) := Lib.hid fun W h => (RC.out W).mono (by rintro e w' ⟨rfl, hb⟩; exact ⟨rfl, h.below hb⟩)
          have HW' : Hid (Tk w wc.drew K S A) := Lib.hid (HW.out.below (Below.drew (Below.refl _ _)))
          clear CL1 CR1 CO RO CC RC CL CR HP hW
          go_wp2_with fail
          go_region_held3 (fun w' => w'.cell? ⟨w.heap.size, 0, none⟩ = some (.int .i64 K) ∧ w'.cell? ⟨w.heap.size, 1, none⟩ = some (.string S) ∧ w'.cell? ⟨w.heap.size, 2, none⟩ = some (.int .i64 A) ∧ Hid (Tk w w' K S A)) (first | exact S_of HW'.out | exact S_of ht1) (first
            | (go_at_call 6; refine (D0.out _ (by first | (refine Hid.out ?_; assumption) | exact S_tk (by assumption))).mono ?_; rintro e w1 ⟨rfl, ht1⟩)
            | (go_at_call 7; refine (D1.out _ (by first | (refine Hid.out ?_; assumption) | exact S_tk (by assumption))).mono ?_; rintro e w1 ⟨rfl, ht1⟩)
            | (go_at_call 8; refine (D2.out _ (by first | (refine Hid.out ?_; assumption) | exact S_tk (by assumption))).mono ?_; rintro e w1 ⟨rfl, ht1⟩)
            | (go_at_call 9; refine (D3.out _ (by first | (refine Hid.out ?_; assumption) | exact S_tk (by assumption))).mono ?_; rintro e w1 ⟨rfl, ht1⟩)
            | (go_at_call 10; refine (D4.out _ (by first | (refine Hid.out ?_; assumption) | exact S_tk (by assumption))).mono ?_; rintro e w1 ⟨rfl, ht1⟩)
            | (go_at_call 11; refine (D5.out _ (by first | (refine Hid.out ?_; assumption) | exact S_tk (by assumption))).mono ?_; rintro e w1 ⟨rfl, ht1⟩)
            | (go_at_call 12; refine (D6.out _ (by first | (refine Hid.out ?_; assumption) | exact S_tk (by assumption))).mono ?_; rintro e w1 ⟨rfl, ht1⟩)
            | (go_at_call 13; refine (CP.out _).mono ?_; rintro e w1 ⟨rfl, rfl⟩))
          go_wp2_with fail
          go_ret
          exact ⟨rfl, ht1.2.2⟩
set_option maxRecDepth 100000 in
theorem lifted (os : Os) (started : os.Started) (H : Type) (enc : TypeId × Value → H) :
    ReturnsInHanded {} Tryd.checked os 3 .any (fun w args => (Rows.signAsksSpec.pre enc Tryd.prog Tryd.f3 [] false w args ∧ laidMetH Tryd.prog signLaid w) ∧ sizedMet enc Tryd.prog Tryd.f3 (OpenSpec.ofChange Rows.signAsksSpec) false w args)
      (Rows.signAsksSpec.post enc Tryd.prog Tryd.f3 false true false false) := by
  refine returnsInHanded_of_change_and (C := Tryd.checked) (X := fun w _ => laidMetH Tryd.prog signLaid w) (fun _ _ _ hh h => h.of_heap hh) own5 started (by kernel_rfl) Tryd.func3
    (ChangeSpec.witness_shaped (enc := enc) (C := Tryd.checked) (os := os) (X := fun w _ => laidMetH Tryd.prog signLaid w) false (World.doorLaid Tryd.prog 400 os) #[.string ByteArray.empty, .int .i64 0, .agg #[.int .i64 0, .string ByteArray.empty, .int .i64 0]] 8 rfl (World.shaped_of_RefB (by kernel_rfl) (by kernel_rfl)) (by kernel_rfl) (by kernel_rfl) (by kernel_rfl) (door_met5 os _)) ?_
  intro W base args ds gs before hval0 hW _ _ hL _
  have hval : ∀ (j : Nat) t v, Tryd.f3.params[j]? = some t → args[j]? = some v → Value.okWide Tryd.prog W .any base t v := hval0
  have hW' := hW
  obtain ⟨p, q, hA0, hV, rfl, hfz, hnd⟩ := hW
  have hA : DataW.TrodAll enc Tryd.prog W 0 (fun _ => true) true Tryd.f3.params.toList args.toList ds p := hA0
  rw [Tryd.params3] at hA hval
  obtain ⟨v0, vs0, d0, ds0, p0, q0, hargs, rfl, rfl, h0, r0⟩ := trodAll_cons hA
  obtain ⟨v1, vs1, d1, ds1, p1, q1, rfl, rfl, rfl, h1, r1⟩ := trodAll_cons r0
  obtain ⟨v2, vs2, d2, ds2, p2, q2, rfl, rfl, rfl, h2, r2⟩ := trodAll_cons r1
  obtain ⟨rfl, rfl, rfl⟩ := trodAll_nil r2
  obtain rfl : args = #[v0, v1, v2] := by cases args; simp_all
  obtain ⟨rfl, rfl⟩ := trodVars_none hV
  obtain ⟨a0, rfl, rfl, rfl, w0⟩ := Go.ChangeMaps.open_string Tryd.underlying9 (hval 0 9 v0 rfl rfl) h0
  obtain ⟨a1, rfl, rfl, rfl, w1⟩ := open_int Tryd.underlying3 (hval 1 3 v1 rfl rfl) h1
  obtain ⟨k2, s2, p2', rfl, rfl, rfl, wk2, ws2, wp2⟩ := open_tok (hval 2 23 v2 rfl rfl) h2
  clear hA0 hval0
  simp only [List.append_nil] at hW'
  refine (walk a0 w0 a1 k2 s2 p2' ws2 W (mtab_of_laid hL)).mono fun e W' ⟨he, bel⟩ => ?_
  subst he
  exact ⟨_, rfl, _, _, _, [], _, [], hW', trodAll_mk1 (shut_bool Tryd.underlying4 _), (trodAll_cons_mk (Go.ChangeMaps.shut_string Tryd.underlying9 w0) (trodAll_cons_mk (shut_int Tryd.underlying3 w1) (trodAll_cons_mk (shut_tok wk2 ws2 wp2) trodAll_mk0))), rfl, bel.frame _, fun h => by cases h⟩
theorem over : Rows.SignAsksSaid :=
  OpenClaim.holds_of_wide 3 Tryd.f3 rfl rfl rfl rfl rfl rfl rfl ⟨rfl, rfl, rfl, rfl, rfl⟩ rfl rfl rfl rfl rfl (by kernel_rfl) Tryd.func3 (by kernel_rfl)
    (of_decide_eq_true (by kernel_rfl)) (by unfold Func.isWrapper; first | (rw [if_pos (by decide +kernel)]; kernel_rfl) | (rw [if_neg (by decide +kernel)]; exact ⟨rfl, rfl⟩))
    (fun os started H enc _ => lifted os started H enc)
/-- THE TIED CARD. -/
theorem proved : Rows.SignAsksCardSaid :=
  Claim7.holds_tied_plain_at .later [] [.data] true Rows.signAsksCard.stood.harness false
    over (fun _ h => by cases h) (by kernel_rfl) (fun _ h => by cases h) signAsks_row_tie rfl ⟨rfl, rfl⟩ (by kernel_rfl) rfl
    (fun f fn hf hfn => by
      obtain rfl : f = 3 := Option.some.inj ((show Tryd.prog.funcNamed "galley/galleylaw5.SignAsks" = some 3 by kernel_rfl).symm.trans hf) |>.symm
      obtain rfl : fn = Tryd.f3 := (Option.some.inj (Tryd.func3.symm.trans hfn)).symm
      exact ⟨by kernel_rfl, fun j t ht => by
        rw [Tryd.params3] at ht
        have hm : t ∈ [9, 3, 23] := by
          have := Array.mem_of_getElem? ht
          simpa using this
        have hall : ([9, 3, 23].all fun u => !Tryd.prog.wantsStandIn u) = true := by kernel_rfl
        exact (show Tryd.prog.wantsStandIn t = false by simpa using List.all_eq_true.1 hall t hm)⟩)
    (by kernel_rfl)
#print axioms proved
end Go.Proofs.YtgkilffofnjmlaaDoor.signAsks
