/-
  THE PROGRAM's walker: what its closure answers (where it is asked its Tail).
-/
import Derived.Test.YtkdaombcbcegfaaTreeLv
import Derived.Deep.RegionHeld3
import Derived.BigQuiet
import Derived.Deep.CutRange
namespace Go.Proofs.Ytkdaombcbcegfaa
open Go.RowKit Go.PlainAid

set_option maxRecDepth 100000 in
set_option maxHeartbeats 4000000 in
theorem nextn_any {P : Nat → Prop}  {q0 : Nat} {J : World → (Nat → Prop) → List ByteArray → Prop} {s : Nat} {v : Value} {st : List Fr} (L : Lv P 26 #[.pointer (some ⟨q0, 0, none⟩)] (remN st) J) {W : World} {M : Nat → Prop} (hw : Wk W P s (.func (.func 26) #[] #[.pointer (some ⟨q0, 0, none⟩)]) v st) (hj : J W M []) (hd1 : ∀ g, P g → ¬ M g) (hd2 : ∀ g, Og s v g → ¬ M g) :
    Calls Try.prog 33 #[.pointer (some ⟨s + 5, 0, none⟩), .pointer (some ⟨s + 1, 0, none⟩)] W fun e W' => ∃ ls st' v' M', Nx st ls st' ∧ e = .returned (.pointer (hd st')) ∧ Wk W' P s (.func (.func 26) #[] #[.pointer (some ⟨q0, 0, none⟩)]) v' st' ∧ J W' M' (tls ls) ∧ Mv (fun g => Og s v g ∨ M g) W (fun g => Og s v' g ∨ M' g) W' ∧ (∀ g, P g → ¬ M' g) ∧ (∀ g, Og s v' g → ¬ M' g) := by
  go_enter Try.func33, Try.ntmps33
  go_wp2_with fail
  go_loopg [3, 4] st.length (fun gn t x wr => ∃ (st0 : List Fr) (ls0 : List Nd) (v0 : Value) (M0 : Nat → Prop), gn = st0.length ∧ Hid (Wk wr P s (.func (.func 26) #[] #[.pointer (some ⟨q0, 0, none⟩)]) v0 st0) ∧ Hid (J wr M0 (tls ls0)) ∧ Hid (Mv (fun g => Og s v g ∨ M g) W (fun g => Og s v0 g ∨ M0 g) wr) ∧ Hid (∀ g, P g → ¬ M0 g) ∧ Hid (∀ g, Og s v0 g → ¬ M0 g) ∧ Hid (tls ls0 ++ remN st0 = remN st) ∧ Hid (∀ ls st', Nx st0 ls st' → Nx st (ls0 ++ ls) st'))
  case atStart => exact ⟨st, [], v, M, rfl, Lib.hid hw, Lib.hid hj, Lib.hid (Mv.refl _ _), Lib.hid hd1, Lib.hid hd2, Lib.hid rfl, Lib.hid (fun _ _ h => h)⟩
  case round =>
    obtain ⟨st0, ls0, v0, M0, hgn, HW, HJ, HM, HD1, HD2, HT, HX⟩ := hrel
    cases st0 with
    | nil =>
      obtain ⟨a, cap, rfl, c0⟩ := HW.out.nil
      go_wp2_with fail
      go_ret
      exact ⟨ls0, [], _, M0, by simpa using HX.out [] [] .stop, rfl, HW.out, HJ.out, HM.out, HD1.out, HD2.out⟩
    | cons f r =>
      obtain ⟨b, cap, rfl, c0, c1, c2, c3, hcap, hfew, z0, z1⟩ := HW.out.top
      obtain ⟨x, i, g, o⟩ := f
      have hin := HW.out.ok ⟨x, i, g, o⟩ (by simp)
      have HIN := Lib.hid hin
      cases x with
      | mk k t l br bl no ta =>
        obtain ⟨a, cap', nv, tv, ⟨-, -, d2, -, -, -, -⟩, -, -, hk⟩ := hin.open
        simp only at c1 c2 d2
        obtain ⟨m, hmm⟩ : ∃ m, m = r.length := ⟨_, rfl⟩
        rw [← hmm] at c0 c1 c2 hcap hfew z0
        obtain ⟨N, hN⟩ : ∃ N, N = l.length := ⟨_, rfl⟩
        rw [← hN] at d2
        have HN := Lib.hid hN
        have HMM := Lib.hid hmm
        clear hN hmm hin
        by_cases hlt : i < N
        · obtain ⟨y, hy⟩ : ∃ y, l[i]? = some y := ⟨_, List.getElem?_eq_getElem (by rw [← HN.out]; exact hlt)⟩
          obtain ⟨g', o', rfl, hny⟩ := hk i y hy
          have HNY := Lib.hid hny
          have HY := Lib.hid hy
          have qn : (i : Int) < (N : Int) := by omega
          have hsm := HW.out.sm _ (List.mem_cons_self ..)
          have hsk := hsm.2
          simp only [cnt, smk] at hsm hsk
          have hlc := len_cntL l
          have hN2 := HN.out
          have hw1 : wrap64 ((i : Int) + 1) = (i : Int) + 1 := by have := IntKind.wrap_i64 ((i : Int) + 1); unfold wrap64; omega
          have hcy := cnt_at hy
          have hcy2 := cnt_pts y
          have HSM : Hid (cnt y ≤ 1048570 ∧ smk 100 y) := Lib.hid ⟨by omega, smk_at hy hsk.2.2⟩
          have HFE : Hid ((⟨.mk k t l br bl no ta, i + 1, g, o⟩ :: r : List Fr).length + 1 + (cntL (pts y) + remC (⟨.mk k t l br bl no ta, i + 1, g, o⟩ :: r)) ≤ 1048570) := Lib.hid (by
            have h1 := HW.out.few
            rw [remC_seen (f := ⟨.mk k t l br bl no ta, i, g, o⟩) (x := y) hy] at h1
            simp only [List.length_cons] at h1 ⊢
            omega)
          have HSN : Hid (∀ q, Wk ((wr.drewN q).setCell ⟨b, m * 2 + 1, none⟩ (.int .i64 ((i : Int) + 1))) P s (.func (.func 26) #[] #[.pointer (some ⟨q0, 0, none⟩)]) (.slice (some ⟨b, 0, none⟩) (m + 1) cap) (⟨.mk k t l br bl no ta, i + 1, g, o⟩ :: r)) := Lib.hid (fun q => by
            have h1 := HW.out.below (drew_below wr q)
            rw [HMM.out]
            exact h1.seen hy)
          have HMS : Hid (∀ q, Mv (Og s (.slice (some ⟨b, 0, none⟩) (m + 1) cap)) wr (Og s (.slice (some ⟨b, 0, none⟩) (m + 1) cap)) ((wr.drewN q).setCell ⟨b, m * 2 + 1, none⟩ (.int .i64 ((i : Int) + 1)))) := Lib.hid (fun q => (mv_below _ (drew_below wr q)).set (.inr (.inr rfl)) _ _)
          have HNS : Hid (∀ q, NIn ((wr.drewN q).setCell ⟨b, m * 2 + 1, none⟩ (.int .i64 ((i : Int) + 1))) P g' (o' + i * 7) y) := Lib.hid (fun q => HNY.out.keep ((HMS.out q).keeps HW.out.apart))
          clear hk hny hy hsm hsk hlc hN2 hcy hcy2
          go_wp2_with fail
          go_quiet (fail)
          go_wp2_with fail
          go_quiet (fail)
          go_wp2_with (at_builtin; go_must (refine wpList_push rfl _ _ rfl g' (o' + i * 7) rfl (HSN.out _) rfl _ rfl (by simp) y (HNS.out _) HSM.out HFE.out ?_); intro v1 w1 hk1 hm1 hv1; obtain ⟨va, vn, vc, rfl⟩ := hk1.slice; have HK1 := Lib.hid hk1; have HM1 := Lib.hid hm1; have c9 : w1.cell? ⟨s + 5, 0, none⟩ = some (.slice (some ⟨b, 0, none⟩) (m + 1) cap) := (cell_of_row w1 _ 0 _ _ _ hv1).trans rfl; have f9 := frz_of hv1 0; clear hk1 hm1 hv1)
          go_ret
          have hmv := (HMS.out _).trans HM1.out
          have hlt0 := L.lt _ _ _ HJ.out
          rw [← HMM.out] at HM HD2
          have hx2 := HX.out [] _ (.go ⟨.mk k t l br bl no ta, i, g, o⟩ r y g' (o' + i * 7) HY.out)
          have hd3 : ∀ x, Og s (.slice va vn vc) x → ¬ M0 x := fun x hx hm0 => by
            rcases ((HMS.out _).trans HM1.out).own x hx with h | h
            · exact HD2.out x h hm0
            · have := hlt0 x hm0; omega
          refine ⟨ls0, _, .slice va vn vc, M0, by simpa using hx2, rfl, HK1.out, ?_, HM.out.trans hmv.weak, HD1.out, hd3⟩
          exact L.keep _ _ _ _ HJ.out hmv.size (fun x hx => hmv.block x (hlt0 x hx) (fun h => HD2.out x h hx))
        · have HU : Hid (l.length ≤ i) := Lib.hid (by rw [← HN.out]; omega)
          have qn : ¬ ((i : Int) < (N : Int)) := by omega
          have hlt0 := L.lt _ _ _ HJ.out
          have hwlt := HW.out.size
          have htle : ∃ Z, tls ls0 ++ ta ++ Z = remN st := ⟨remN r, by
            have h1 := HT.out
            rw [show remN (⟨.mk k t l br bl no ta, i, g, o⟩ :: r) = ntsL (todo ⟨.mk k t l br bl no ta, i, g, o⟩) ++ ta ++ remN r from rfl, todo_nil (f := ⟨.mk k t l br bl no ta, i, g, o⟩) HU.out] at h1
            simp only [ntsL, List.nil_append] at h1
            rw [← h1, List.append_assoc]⟩
          have HLV : Hid (∀ W2, Below wr.heap.size wr W2 → Calls Try.prog 26 #[.pointer (some ⟨g, o, none⟩), .pointer (some ⟨q0, 0, none⟩)] W2 fun e W' => e = .returned (.tuple #[]) ∧ ∃ M2, Hid (J W' M2 (tls ls0 ++ ta)) ∧ Hid (Mv M0 wr M2 W')) := Lib.hid fun W2 hb => by
            have h := L.go W2 M0 (tls ls0) g o _ (L.keep _ _ _ _ HJ.out hb.size (fun x hx => hb.block x (hlt0 x hx))) (HIN.out.keep (keeps_below hb)) HD1.out htle
            rw [show (#[.pointer (some ⟨g, o, none⟩)] ++ #[.pointer (some ⟨q0, 0, none⟩)] : Array Value) = #[.pointer (some ⟨g, o, none⟩), .pointer (some ⟨q0, 0, none⟩)] by simp] at h
            exact h.mono fun e w' ⟨h1, M2, h2, h3⟩ => ⟨h1, M2, Lib.hid h2, Lib.hid ((mv_below M0 hb).trans h3)⟩
          clear hk hlt0 hwlt htle
          go_wp2_with fail
          go_quiet (fail)
          go_wp2_with fail
          go_cut [] from 51 to 56 (fun wx => ∃ M2, Hid (J wx M2 (tls ls0 ++ ta)) ∧ Hid (Mv M0 wr M2 wx))
          case first =>
            go_region_with (go_at_call 26; refine (HLV.out _ (by first | exact drew_below _ _ | exact Below.drew (drew_below _ _))).mono ?_; rintro e w1 ⟨rfl, M2, HJ2, HM2⟩)
            all_goals go_wp2_with fail
            all_goals go_meet
            all_goals exact ⟨M2, HJ2, HM2⟩
          case rest =>
            obtain ⟨M2, HJ2, HM2⟩ := hcut
            rw [← HMM.out] at HW HM HD2
            have hsz := HW.out.size
            have hin := HW.out.in
            have HW2 : Hid (Wk wc P s (.func (.func 26) #[] #[.pointer (some ⟨q0, 0, none⟩)]) (.slice (some ⟨b, 0, none⟩) (m + 1) cap) (⟨.mk k t l br bl no ta, i, g, o⟩ :: r)) := Lib.hid (HW.out.keep HM2.out HD1.out HD2.out)
            have hm5 : ∀ x, M2 x → x ≠ s + 5 := fun x hx e => by
              rcases HM2.out.own x hx with h | h
              · exact HD2.out x (.inr (.inl e)) h
              · omega
            have HP1 : Hid (∀ x, P x → ¬ M2 x) := Lib.hid fun x hx h => by
              rcases HM2.out.own x h with h | h
              · exact HD1.out x hx h
              · have := HW.out.pp x hx; omega
            have HP2 : Hid (∀ x, Og s (.slice (some ⟨b, 0, none⟩) m cap) x → ¬ M2 x) := Lib.hid fun x hx h => by
              have hx : Og s (.slice (some ⟨b, 0, none⟩) (m + 1) cap) x := hx
              rcases HM2.out.own x h with h | h
              · exact HD2.out x hx h
              · have := hin x hx; omega
            have HWP : Hid (Wk (wc.setCell ⟨s + 5, 0, none⟩ (.slice (some ⟨b, 0, none⟩) m cap)) P s (.func (.func 26) #[] #[.pointer (some ⟨q0, 0, none⟩)]) (.slice (some ⟨b, 0, none⟩) m cap) r) := Lib.hid (by
              have h := HW2.out
              rw [HMM.out] at h ⊢
              exact h.pop)
            have HJP : Hid (J (wc.setCell ⟨s + 5, 0, none⟩ (.slice (some ⟨b, 0, none⟩) m cap)) M2 (tls (ls0 ++ [.mk k t l br bl no ta]))) := Lib.hid (by
              rw [tls_app]
              exact L.keep _ _ _ _ HJ2.out (by simp) (fun x hx => Below.heap_setCell _ _ _ _ (hm5 x hx)))
            have HMP : Hid (Mv (fun x => Og s v x ∨ M x) W (fun x => Og s (.slice (some ⟨b, 0, none⟩) m cap) x ∨ M2 x) (wc.setCell ⟨s + 5, 0, none⟩ (.slice (some ⟨b, 0, none⟩) m cap))) := Lib.hid ((HM.out.trans HM2.out.weak2).set (.inl (.inr (.inl rfl))) _ _)
            have HTP : Hid (tls (ls0 ++ [.mk k t l br bl no ta]) ++ remN r = remN st) := Lib.hid (by
              rw [← HT.out, tls_app, show remN (⟨.mk k t l br bl no ta, i, g, o⟩ :: r) = ntsL (todo ⟨.mk k t l br bl no ta, i, g, o⟩) ++ ta ++ remN r from rfl, todo_nil (f := ⟨.mk k t l br bl no ta, i, g, o⟩) HU.out]
              simp only [ntsL, List.nil_append, List.append_assoc, tla])
            have HXP : Hid (∀ ls st', Nx r ls st' → Nx st ((ls0 ++ [.mk k t l br bl no ta]) ++ ls) st') := Lib.hid fun ls st' h => by
              have := HX.out _ _ (.up ⟨.mk k t l br bl no ta, i, g, o⟩ r ls st' HU.out h)
              simpa using this
            have hgn' : gk = m + 1 := by rw [hgn, HMM.out]; rfl
            have HG := Lib.hid hgn'
            obtain ⟨b', cap'', e, y0, -, -, -, -, -, -, y1⟩ := HW2.out.top
            rw [← HMM.out] at y0 e
            cases e
            clear hsz hin hm5 hgn hgn' HW HM HD2 HT HX HJ HJ2 HM2 HW2 HLV HIN
            go_wp2_with fail
            go_roundg m
            case measure => have := HG.out; omega
            case rel => exact ⟨r, ls0 ++ [.mk k t l br bl no ta], .slice (some ⟨b, 0, none⟩) m cap, M2, HMM.out, HWP, HJP, HMP, HP1, HP2, HTP, HXP⟩
end Go.Proofs.Ytkdaombcbcegfaa
