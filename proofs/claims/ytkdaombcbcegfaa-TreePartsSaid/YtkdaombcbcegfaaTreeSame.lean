/-
  THE PROGRAM's Same.
-/
import Derived.Test.YtkdaombcbcegfaaTreeLike
namespace Go.Proofs.Ytkdaombcbcegfaa
open Go.RowKit Go.PlainAid

theorem lkw_same (x y : Nd) : lkw true x y = ((match x, y with | .mk _ _ _ br _ _ _, .mk _ _ _ br' _ _ _ => br == br') && lkw false x y) := by
  cases x; cases y
  rename_i k t l br bl no ta k' t' l' br' bl' no' ta'
  simp only [lkw, Bool.not_true, Bool.not_false, Bool.false_or, Bool.true_or, Bool.and_true]
  cases (br == br') <;> simp
set_option maxRecDepth 100000 in
set_option maxHeartbeats 4000000 in
theorem same1_any {P P2 : Nat → Prop} (x y : Nd) (g o g2 o2 : Nat) (w : World) (h1 : NIn w P g o x) (h2 : NIn w P2 g2 o2 y) (hs1 : (noa x).length ≤ 1048576) (hs2 : (tla x).length ≤ 1048576) :
    Calls Try.prog 30 #[.pointer (some ⟨g, o, none⟩), .pointer (some ⟨g2, o2, none⟩)] w fun e w' => e = .returned (.bool (lkw true x y)) ∧ ∃ m, w' = w.drewN m := by
  have H := Lib.hid (fun m => likep_any x y g o g2 o2 (w.drewN m) (h1.keep (keeps_below (drew_below w m))) (h2.keep (keeps_below (drew_below w m))) hs1 hs2)
  rw [lkw_same]
  obtain ⟨z, hz⟩ : ∃ z, z = lkw false x y := ⟨_, rfl⟩
  rw [← hz] at H ⊢
  clear hz hs1 hs2
  cases x with
  | mk k t l br bl no ta =>
  cases y with
  | mk k' t' l' br' bl' no' ta' =>
    obtain ⟨a, cap, nv, tv, ⟨-, -, -, c3, -, -, -⟩, -, -, -⟩ := h1.open
    obtain ⟨a', cap', nv', tv', ⟨-, -, -, d3, -, -, -⟩, -, -, -⟩ := h2.open
    simp only
    clear h1 h2
    cases hb : (br == br')
    · go_enter Try.func30, Try.ntmps30
      go_wp2_with fail
      go_quiet (fail)
      go_wp2_with fail
      go_ret
      exact ⟨rfl, _, rfl⟩
    · rw [Bool.true_and]
      go_enter Try.func30, Try.ntmps30
      go_wp2_with fail
      go_quiet (first | (go_at_call 31; exact Calls.quiet_of (H.out _)))
      go_wp2_with fail
      go_ret
      exact ⟨rfl, _, rfl⟩
set_option maxRecDepth 100000 in
set_option maxHeartbeats 8000000 in
theorem thrs_any (n n2 : Nd) (c c2 : List Value) (w : World) (h1 : NdAt w c n) (h2 : NdAt w c2 n2) (h : OkT n) (h' : OkT n2) :
    Calls Try.prog 29 #[.agg c.toArray, .agg c2.toArray, .func (.func 30) #[] #[]] w fun e w' => e = .returned (.bool (lk true n n2)) ∧ Below w.heap.size w w' := by
  obtain ⟨Z, hZ⟩ : ∃ Z, Z = (w.alloc (.cells c.toArray 26)).alloc (.cells c2.toArray 26) := ⟨_, rfl⟩
  have hbZ : Below w.heap.size w Z := by rw [hZ]; exact below2 _ _ _
  have HA := Lib.hid (fun W (hb : Below Z.heap.size Z W) s hs => start_any n c w W h1 h (hbZ.trans (hb.mono hbZ.size)) (.func 24) #[] #[] s hs)
  have HB := Lib.hid (fun W (hb : Below Z.heap.size Z W) s hs => start_any n2 c2 w W h2 h' (hbZ.trans (hb.mono hbZ.size)) (.func 24) #[] #[] s hs)
  obtain ⟨R, hR⟩ : ∃ R, R = lk true n n2 := ⟨_, rfl⟩
  rw [← hR]
  obtain ⟨x0, hx0⟩ : ∃ x, x = n := ⟨_, rfl⟩
  obtain ⟨y0, hy0⟩ : ∃ x, x = n2 := ⟨_, rfl⟩
  have HR : Hid (∀ g o g' o', lkS true [⟨dum x0, 0, g, o⟩] [⟨dum y0, 0, g', o'⟩] = R) := Lib.hid (fun g o g' o' => by rw [lkS_dum, hR, hx0, hy0])
  have HUP := Lib.hid (fun W hb => (hbZ.trans (Below.mono (B' := w.heap.size) (B := Z.heap.size) (w := Z) (w' := W) hb hbZ.size) : Below w.heap.size w W))
  have HZS := Lib.hid hbZ.size
  rw [← hx0] at HA h
  rw [← hy0] at HB
  cases n; cases n2
  obtain ⟨lv, nv, tv, _, rfl, -⟩ := h1.inv
  obtain ⟨lv2, nv2, tv2, _, rfl, -⟩ := h2.inv
  rename_i k t _ br bl _ _ k2 t2 _ br2 bl2 _ _ _ _
  have HC := Lib.hid (fun W (hb : Below Z.heap.size Z W) => nd2_cells (w := w) (by rw [hZ] at hb; exact hb))
  have HC2 := Lib.hid (fun w' (hb : Below Z.heap.size Z w') => (⟨(HC.out w' hb).1, (HC.out w' hb).2, Lib.hid hb⟩ : (w'.cell? ⟨w.heap.size, 0, none⟩ = some (.int .i64 k) ∧ w'.cell? ⟨w.heap.size, 1, none⟩ = some (.string t) ∧ w'.cell? ⟨w.heap.size, 2, none⟩ = some lv ∧ w'.cell? ⟨w.heap.size, 3, none⟩ = some (.bool br) ∧ w'.cell? ⟨w.heap.size, 4, none⟩ = some (.bool bl) ∧ w'.cell? ⟨w.heap.size, 5, none⟩ = some nv ∧ w'.cell? ⟨w.heap.size, 6, none⟩ = some tv) ∧ (w'.cell? ⟨w.heap.size + 1, 0, none⟩ = some (.int .i64 k2) ∧ w'.cell? ⟨w.heap.size + 1, 1, none⟩ = some (.string t2) ∧ w'.cell? ⟨w.heap.size + 1, 2, none⟩ = some lv2 ∧ w'.cell? ⟨w.heap.size + 1, 3, none⟩ = some (.bool br2) ∧ w'.cell? ⟨w.heap.size + 1, 4, none⟩ = some (.bool bl2) ∧ w'.cell? ⟨w.heap.size + 1, 5, none⟩ = some nv2 ∧ w'.cell? ⟨w.heap.size + 1, 6, none⟩ = some tv2) ∧ Hid (Below Z.heap.size Z w')))
  have HB0 : Hid (Below Z.heap.size Z ((w.alloc (.cells #[.int .i64 k, .string t, lv, .bool br, .bool bl, nv, tv] 26)).alloc (.cells #[.int .i64 k2, .string t2, lv2, .bool br2, .bool bl2, nv2, tv2] 26))) := Lib.hid (by rw [hZ]; exact Below.refl _ _)
  have HBd : Hid (Below Z.heap.size Z ((w.alloc (.cells #[.int .i64 k, .string t, lv, .bool br, .bool bl, nv, tv] 26)).alloc (.cells #[.int .i64 k2, .string t2, lv2, .bool br2, .bool bl2, nv2, tv2] 26)).drew) := Lib.hid (Below.drew HB0.out)
  have HSM : Hid (∀ (P : Nat → Prop) (W : World) (s : Nat) (lf v : Value) (f : Fr) (r : List Fr), Wk W P s lf v (f :: r) → True) := Lib.hid (fun _ _ _ _ _ _ _ _ => trivial)
  clear h1 h2 h h' hZ hbZ hR hx0 hy0 HC HSM
  go_enter Try.func29, Try.ntmps29
  go_wp2_with fail
  go_cut [7, 8] from 11 to 14 (fun p q wx => ∃ (sA sB : Nat) (vA vB : Value), p = .func (.func 33) #[] #[.pointer (some ⟨sA + 5, 0, none⟩), .pointer (some ⟨sA + 1, 0, none⟩)] ∧ q = .func (.func 33) #[] #[.pointer (some ⟨sB + 5, 0, none⟩), .pointer (some ⟨sB + 1, 0, none⟩)] ∧ Hid (Two w.heap.size w wx (.func (.func 24) #[] #[]) sA vA [⟨dum x0, 0, sA + 3, 0⟩] sB vB [⟨dum y0, 0, sB + 3, 0⟩]))
  case first =>
    go_region_held3 (fun w' => (w'.cell? ⟨w.heap.size, 0, none⟩ = some (.int .i64 k) ∧ w'.cell? ⟨w.heap.size, 1, none⟩ = some (.string t) ∧ w'.cell? ⟨w.heap.size, 2, none⟩ = some lv ∧ w'.cell? ⟨w.heap.size, 3, none⟩ = some (.bool br) ∧ w'.cell? ⟨w.heap.size, 4, none⟩ = some (.bool bl) ∧ w'.cell? ⟨w.heap.size, 5, none⟩ = some nv ∧ w'.cell? ⟨w.heap.size, 6, none⟩ = some tv) ∧ (w'.cell? ⟨w.heap.size + 1, 0, none⟩ = some (.int .i64 k2) ∧ w'.cell? ⟨w.heap.size + 1, 1, none⟩ = some (.string t2) ∧ w'.cell? ⟨w.heap.size + 1, 2, none⟩ = some lv2 ∧ w'.cell? ⟨w.heap.size + 1, 3, none⟩ = some (.bool br2) ∧ w'.cell? ⟨w.heap.size + 1, 4, none⟩ = some (.bool bl2) ∧ w'.cell? ⟨w.heap.size + 1, 5, none⟩ = some nv2 ∧ w'.cell? ⟨w.heap.size + 1, 6, none⟩ = some tv2) ∧ Hid (Below Z.heap.size Z w')) (first | exact HC2.out _ ht3 | exact HC2.out _ ht | exact HC2.out _ (Below.drew ht) | exact HC2.out _ HBd.out | exact HC2.out _ HB0.out) (first
      | (go_at_call 23; with_reducible refine (HB.out _ (by first | exact ht | exact Below.drew ht) w1.heap.size rfl).mono ?_; rintro e w3 ⟨rfl, hb3, vB, hkB⟩; have ht3 := ht.trans (hb3.mono ht.size); have HK3 := Lib.hid hkB; have HB3 := Lib.hid hb3; clear hkB hb3)
      | (go_at_call 23; with_reducible refine (HA.out _ (by first | exact HBd.out | exact HB0.out) (w.heap.size + 1 + 1) (by simp)).mono ?_; rintro e w1 ⟨rfl, hb1, vA, hkA⟩; have ht := HBd.out.trans (hb1.mono HBd.out.size); have HK1 := Lib.hid hkA; clear hkA hb1))
    all_goals go_wp2_with fail
    all_goals go_meet
    all_goals exact ⟨w.heap.size + 1 + 1, w1.heap.size, vA, vB, rfl, rfl, Lib.hid (two_new HK1.out (by omega) rfl (by first | exact HB3.out | exact (Below.drew (Below.refl _ _)).trans HB3.out) HK3.out (HUP.out _ ht3))⟩
  case rest =>
    obtain ⟨sA, sB, vA, vB, rfl, rfl, HT⟩ := hcut
    have HRR := Lib.hid (HR.out (sA + 3) 0 (sB + 3) 0)
    clear HA HB HC2 HB0 HBd HR HUP HZS
    go_wp2_with fail
    refine (nextp_any HT.out.a).mono ?_
    rintro e w1 ⟨la, sa, va, hxa, rfl, hka, hma⟩
    have HT1 := Lib.hid (HT.out.nextA hka hma)
    have HXA := Lib.hid hxa
    obtain ⟨p, hp⟩ : ∃ p, p = hd sa := ⟨_, rfl⟩
    rw [← hp]
    have HPA := Lib.hid hp
    clear hxa hka hma HT hp
    go_wp2_with fail
    refine (nextp_any HT1.out.b).mono ?_
    rintro e w2 ⟨lb, sb, vb, hxb, rfl, hkb, hmb⟩
    have HT2 := Lib.hid (HT1.out.nextB hkb hmb)
    have HJ : Hid (Jn true R sa sb) := Lib.hid (by
      have h := HXA.out.two true hxb (.cons _ _ _ _ rfl rfl .nil)
      rw [HRR.out] at h
      exact h)
    obtain ⟨p2, hp2⟩ : ∃ p, p = hd sb := ⟨_, rfl⟩
    rw [← hp2]
    have HPB := Lib.hid hp2
    clear hxb hkb hmb HT1 hp2 HXA HRR
    go_wp2_with fail
    go_loopg [9, 10] (remX sa) (fun gn x y wr => ∃ (sa : List Fr) (va : Value) (sb : List Fr) (vb : Value) (p q : Option Addr), gn = remX sa ∧ x = .pointer p ∧ y = .pointer q ∧ Hid (p = hd sa) ∧ Hid (q = hd sb) ∧ Hid (Two w.heap.size w wr (.func (.func 24) #[] #[]) sA va sa sB vb sb) ∧ Hid (Jn true R sa sb))
    case atStart => exact ⟨sa, va, sb, vb, p, p2, rfl, rfl, rfl, HPA, HPB, HT2, HJ⟩
    case round =>
      clear HT2 HJ HPA HPB
      obtain ⟨sa, va, sb, vb, p, q, hgn, rfl, rfl, HPA, HPB, HT, HJ⟩ := hrel
      rcases HJ.out with ⟨rfl, rfl, hr⟩ | ⟨fa, ra, fb, rb, rfl, rfl, ha0, hb0, hsh, hr⟩
      · obtain rfl : p = none := HPA.out
        have HF : Hid (true = R) := Lib.hid hr.symm
        clear hr
        go_wp2_with fail
        go_ret
        exact ⟨congrArg (fun b => Ending.returned (.bool b)) HF.out, HT.out.bel⟩
      · obtain rfl : p = some ⟨fa.g, fa.o, none⟩ := HPA.out
        obtain rfl : q = some ⟨fb.g, fb.o, none⟩ := HPB.out
        have hla := HT.out.a.live
        have hlb := HT.out.b.live
        have hsa := HT.out.a.sm fa (by simp)
        have hsk := hsa.2
        have HEQ := Lib.hid (fun m hn ht => same1_any fa.x fb.x fa.g fa.o fb.g fb.o (wr.drewN m) (hla.keep (keeps_below (drew_below wr m))) (hlb.keep (keeps_below (drew_below wr m))) hn ht)
        have HR := Lib.hid hr
        have HA0 := Lib.hid ha0
        have HB0 := Lib.hid hb0
        have HSH := Lib.hid hsh
        obtain ⟨x, i, g, o⟩ := fa
        obtain ⟨y, j, g2, o2⟩ := fb
        cases x with
        | mk k t l br bl no ta =>
        cases y with
        | mk k' t' l' br' bl' no' ta' =>
          obtain ⟨a, cap, nv, tv, ⟨-, -, c2, -, -, -, -⟩, -, -, -⟩ := hla.open
          obtain ⟨a', cap', nv', tv', ⟨-, -, d2, -, -, -, -⟩, -, -, -⟩ := hlb.open
          simp only [smk] at hsk
          simp only [noa, tla] at HEQ
          have HEQ := Lib.hid (fun m => HEQ.out m (by omega) (by omega))
          simp only at c2 d2 HR HA0 HB0
          obtain ⟨bw, hbw⟩ : ∃ b, b = lkw true (.mk k t l br bl no ta) (.mk k' t' l' br' bl' no' ta') := ⟨_, rfl⟩
          rw [← hbw] at HEQ
          have HBW := Lib.hid hbw
          by_cases hle : l.length = l'.length
          · cases bw
            · have HF : Hid (false = R) := Lib.hid (by rw [HR.out, lk_no true HBW.out.symm]; rfl)
              have nn : ((l.length : Int) != (l'.length : Int)) = false := by rw [hle]; exact bne_self_eq_false _
              clear hla hlb hsa hsk hr ha0 hb0 hsh hbw hle
              go_wp2_with fail
              go_quiet (first | (go_at_call 30; exact Calls.quiet_of (HEQ.out _)))
              have HT9 := Lib.hid (HT.out.drewN nq)
              go_wp2_with fail
              go_ret
              exact ⟨congrArg (fun b => Ending.returned (.bool b)) HF.out, HT9.out.bel⟩
            · have HR2 : Hid (lkS true (⟨.mk k t l br bl no ta, i, g, o⟩ :: ra) (⟨.mk k' t' l' br' bl' no' ta', j, g2, o2⟩ :: rb) = R) := Lib.hid (by rw [HR.out, ← lk_go true (fa := ⟨.mk k t l br bl no ta, i, g, o⟩) (fb := ⟨.mk k' t' l' br' bl' no' ta', j, g2, o2⟩) HA0.out HB0.out HBW.out.symm])
              have HS2 : Hid (Shp (⟨.mk k t l br bl no ta, i, g, o⟩ :: ra) (⟨.mk k' t' l' br' bl' no' ta', j, g2, o2⟩ :: rb)) := Lib.hid (.cons _ _ _ _ (by rw [HA0.out, HB0.out]) hle HSH.out)
              have nn : ((l.length : Int) != (l'.length : Int)) = false := by rw [hle]; exact bne_self_eq_false _
              have HG := Lib.hid hgn
              clear hla hlb hsa hsk hr ha0 hb0 hsh hbw hle hgn
              go_wp2_with fail
              go_quiet (first | (go_at_call 30; exact Calls.quiet_of (HEQ.out _)))
              have HT9 := Lib.hid (HT.out.drewN nq)
              clear HT HEQ c2 d2
              go_wp2_with fail
              refine (nextp_any HT9.out.a).mono ?_
              rintro e w1 ⟨la, sa, va1, hxa, rfl, hka, hma⟩
              have HT1 := Lib.hid (HT9.out.nextA hka hma)
              have HXA := Lib.hid hxa
              obtain ⟨p, hp⟩ : ∃ p, p = hd sa := ⟨_, rfl⟩
              rw [← hp]
              have HPA := Lib.hid hp
              have HGN : Hid (remX sa < gk) := Lib.hid (by rw [HG.out, ← hxa.cnt]; simp only [remX]; omega)
              clear hxa hka hma HT9 hp
              go_wp2_with fail
              refine (nextp_any HT1.out.b).mono ?_
              rintro e w2 ⟨lb, sb, vb1, hxb, rfl, hkb, hmb⟩
              have HT2 := Lib.hid (HT1.out.nextB hkb hmb)
              have HJ : Hid (Jn true R sa sb) := Lib.hid (by
                have h := HXA.out.two true hxb HS2.out
                rw [HR2.out] at h
                exact h)
              obtain ⟨p2, hp2⟩ : ∃ p, p = hd sb := ⟨_, rfl⟩
              rw [← hp2]
              have HPB := Lib.hid hp2
              clear hxb hkb hmb HT1 hp2 HXA HR2 HS2
              go_wp2_with fail
              go_roundg (remX sa)
              case measure => exact HGN.out
              case rel => exact ⟨sa, va1, sb, vb1, p, p2, rfl, rfl, rfl, HPA, HPB, HT2, HJ⟩
          · have HF : Hid (false = R) := Lib.hid (by rw [HR.out, lk_len true (x := .mk k t l br bl no ta) (y := .mk k' t' l' br' bl' no' ta') hle]; rfl)
            have nn : ((l.length : Int) != (l'.length : Int)) = true := by simp; omega
            clear hla hlb hsa hsk hr ha0 hb0 hsh hbw hle
            go_wp2_with fail
            go_quiet (fail)
            have HT9 := Lib.hid (HT.out.drewN nq)
            go_wp2_with fail
            go_ret
            exact ⟨congrArg (fun b => Ending.returned (.bool b)) HF.out, HT9.out.bel⟩
set_option maxRecDepth 100000 in
theorem psame_any (n n2 : Nd) (c c2 : List Value) (w : World) (h1 : NdAt w c n) (h2 : NdAt w c2 n2) (h : OkT n) (h' : OkT n2) :
    Calls Try.prog 11 #[.agg c.toArray, .agg c2.toArray] w fun e w' => e = .returned (.bool (lk true n n2)) ∧ Below w.heap.size w w' := by
  have H := Lib.hid (fun W (hb : Below w.heap.size w W) => thrs_any n n2 c c2 W (h1.bel hb) (h2.bel hb) h h')
  cases n; cases n2; obtain ⟨_, _, _, _, rfl, -⟩ := h1.inv; obtain ⟨_, _, _, _, rfl, -⟩ := h2.inv; clear h1 h2 h h'
  go_enter Try.func11, Try.ntmps11
  go_wp2_with fail
  refine (H.out _ (by first | exact below2 _ _ _ | exact below1 _ _ | exact Below.refl _ _)).mono ?_
  rintro e w1 ⟨rfl, hb1⟩
  have B1 : Hid (Below w.heap.size w w1) := Lib.hid (Below.trans (by first | exact below2 _ _ _ | exact below1 _ _ | exact Below.refl _ _) (hb1.mono (by simp <;> omega)))
  clear hb1
  go_wp2_with fail
  go_ret
  exact ⟨rfl, B1.out⟩
end Go.Proofs.Ytkdaombcbcegfaa
