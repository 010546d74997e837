/-
  PoolTwice, over the pool's five calls.
-/
import Derived.Test.YtkngnkonddpbeaaPoolTold
import Derived.Test.YtkngnkonddpbeaaPoolKid
import Derived.Test.YtkngnkonddpbeaaNode
import Derived.Test.YtkngnkonddpbeaaTreeIn
import Derived.Deep.RegionWith
import Derived.Deep.RegionHeld3
import Derived.Deep.CutRange
namespace Go.Proofs.Ytkngnkonddpbeaa
open Go.RowKit Go.PlainAid

theorem nd_belowT {W : World} {c : List Value} {n : Nd} (h : NdAt W c n) : NdIn W (fun k => k < W.heap.size) c n := by
  induction h with
  | mk k t l br bl no ta lv nv tv cs hn ht hl hc ih =>
    obtain ⟨a1, c1, e1, g1⟩ := hn
    obtain ⟨a2, c2, e2, g2⟩ := ht
    obtain ⟨a3, c3, e3, g3⟩ := hl
    exact .mk k t l br bl no ta lv nv tv cs ⟨a1, c1, e1, fun h0 => by obtain ⟨g, o, k1, k2, k3⟩ := g1 h0; exact ⟨g, o, k1, k2, k2, k3⟩⟩ ⟨a2, c2, e2, fun h0 => by obtain ⟨g, o, k1, k2, k3⟩ := g2 h0; exact ⟨g, o, k1, k2, k2, k3⟩⟩ ⟨a3, c3, e3, fun h0 => by obtain ⟨g, o, k1, k2, k3⟩ := g3 h0; exact ⟨g, o, k1, k2, k2, k3⟩⟩ ih
theorem smk_in {b : Nat} : ∀ {l : List Nd} {i : Nat} {x : Nd}, l[i]? = some x → smkL b l → smk b x
  | [], _, _, h, _ => by simp at h
  | y :: t, 0, x, h, hs => by
    simp only [List.getElem?_cons_zero, Option.some.injEq] at h
    subst h
    simp only [smkL] at hs
    exact hs.1
  | y :: t, i + 1, x, h, hs => by
    simp only [List.getElem?_cons_succ] at h
    simp only [smkL] at hs
    exact smk_in h hs.2
/-- The pool at work in this walk: beside what came in. -/
def Pt (PA : World → (Nat → Prop) → (Nat → Prop) → Value → List Nd → Prop) (w : World) (p : Value) (xs : List Nd) (W : World) : Prop := PAt PA (fun k => k < w.heap.size) w.heap.size p xs W ∧ Below w.heap.size w W
section
variable {PA : World → (Nat → Prop) → (Nat → Prop) → Value → List Nd → Prop}
theorem Pt.below (I : PoolI PA) {w W W' : World} {p : Value} {xs : List Nd} (h : Pt PA w p xs W) (hb : Below W.heap.size W W') : Pt PA w p xs W' := ⟨h.1.below I hb, h.2.trans (hb.mono h.2.size)⟩
theorem Pt.pk {w W : World} {p : Value} {xs : List Nd} (h : Pt PA w p xs W) : Pk xs := by
  obtain ⟨F, -, -, -, h4, -⟩ := h.1
  exact h4
theorem Pt.put (I : PoolI PA) {w W : World} {p : Value} {xs : List Nd} (h : Pt PA w p xs W) {n : Nd} {c : List Value} (hn : NdAt w c n) (ho : OkP n) (hl : xs.length + cnt n ≤ 50000) :
    Calls Try.prog 10 #[p, .agg c.toArray] W fun e w' => e = .returned (.int .i64 (pidx n xs : Int)) ∧ Pt PA w p (pad n xs) w' :=
  (h.1.put I (fun _ hk => hk) ((nd_belowT hn).keep (keeps_below h.2)) ho hl).mono fun _ _ ⟨h1, h2, h3⟩ => ⟨h1, h2, h.2.trans h3⟩
theorem Pt.len (I : PoolI PA) {w W : World} {p : Value} {xs : List Nd} (h : Pt PA w p xs W) : Calls Try.prog 12 #[p] W fun e w' => e = .returned (.int .i64 (xs.length : Int)) ∧ Pt PA w p xs w' :=
  (h.1.len I).mono fun _ _ ⟨h1, h2, h3⟩ => ⟨h1, h2, h.2.trans (h3.mono h.2.size)⟩
theorem Pt.size (I : PoolI PA) {w W : World} {p : Value} {xs : List Nd} (h : Pt PA w p xs W) (id : Int) : Calls Try.prog 13 #[p, .int .i64 id] W fun e w' => e = .returned (.int .i64 (psz xs id : Int)) ∧ Pt PA w p xs w' :=
  (h.1.size I id).mono fun _ _ ⟨h1, h2, h3⟩ => ⟨h1, h2, h.2.trans (h3.mono h.2.size)⟩
end
set_option maxRecDepth 100000 in
set_option maxHeartbeats 8000000 in
theorem poolTwice_walk {PA : World → (Nat → Prop) → (Nat → Prop) → Value → List Nd → Prop} (I : PoolI PA) (v : Value) (l : List Nd) (w : World) (h : RowN w v l) (hb : ∀ x ∈ l, cnt x ≤ 1048576 ∧ smk 1048576 x ∧ Szt x) :
    Calls Try.prog 5 #[v] w fun e w' => e = .returned (.bool true) ∧ Below w.heap.size w w' := by
  obtain ⟨cs, hsl, hcs⟩ := h
  have hsl' := hsl
  obtain ⟨a, cp, rfl, -⟩ := hsl
  have HI := Lib.hid I
  have HNW := Lib.hid (pat_new I w (fun k => k < w.heap.size))
  have HTD : Hid (∀ W, Calls Try.prog 7 #[] W fun e w' => e = .returned (.bool true) ∧ Below W.heap.size W w') := Lib.hid (fun W => told11_any I W)
  by_cases g6 : 4 < l.length
  · have d6 : decide ((4 : Int) < (l.length : Int)) = true := decide_eq_true (by omega)
    clear hsl' hcs
    go_enter Try.func5, Try.ntmps5
    go_wp2_with fail
    refine HNW.out.mono ?_
    rintro e w1 ⟨g, rfl, -, hb1⟩
    have HB1 := Lib.hid hb1
    clear hb1
    go_wp2_with fail
    refine (HTD.out _).mono ?_
    rintro e w9 ⟨rfl, hb9⟩
    have HB9 := Lib.hid (HB1.out.trans (hb9.mono HB1.out.size))
    clear hb9
    go_wp2_with fail
    go_ret
    exact ⟨rfl, HB9.out⟩
  have d6 : decide ((4 : Int) < (l.length : Int)) = false := decide_eq_false (by omega)
  have HK := Lib.hid (fun q x hx => kids hsl' hcs q x hx)
  have HBU := Lib.hid hb
  clear hsl' hcs I hb
  go_enter Try.func5, Try.ntmps5
  go_wp2_with fail
  refine HNW.out.mono ?_
  rintro e w1 ⟨g, rfl, hp1, hb1⟩
  have HT0 : Hid (Pt PA w (.pointer (some ⟨g, 0, none⟩)) [] w1) := Lib.hid ⟨hp1, hb1⟩
  clear hp1 hb1
  go_wp2_with fail
  go_loopg [4] l.length (fun gn i wr => ∃ (q : Nat) (xs : List Nd), gn = l.length - q ∧ q ≤ l.length ∧ i = .int .i64 (q : Int) ∧ Hid (Pt PA w (.pointer (some ⟨g, 0, none⟩)) xs wr) ∧ Hid (xs.length ≤ q * 150))
  case atStart => exact ⟨0, [], rfl, Nat.zero_le _, rfl, HT0, Lib.hid (by simp)⟩
  case round =>
    obtain ⟨q, xs, hgn, hq, rfl, HT, HL⟩ := hrel
    by_cases hlt : q < l.length
    · obtain ⟨x, hx⟩ : ∃ x, l[q]? = some x := ⟨_, List.getElem?_eq_getElem hlt⟩
      obtain ⟨g0, o0, k, t, lv, br, bl, nv, tv, rfl, hn, hce⟩ := HK.out q x hx
      have hbx := HBU.out x (List.mem_of_getElem? hx)
      have HCE : Hid (∀ w', Below w.heap.size w w' → w'.cell? ⟨g0, o0 + q * 7, none⟩ = some (.int .i64 k) ∧ w'.cell? ⟨g0, o0 + q * 7 + 1, none⟩ = some (.string t) ∧ w'.cell? ⟨g0, o0 + q * 7 + 2, none⟩ = some (lv) ∧ w'.cell? ⟨g0, o0 + q * 7 + 3, none⟩ = some (.bool br) ∧ w'.cell? ⟨g0, o0 + q * 7 + 4, none⟩ = some (.bool bl) ∧ w'.cell? ⟨g0, o0 + q * 7 + 5, none⟩ = some (nv) ∧ w'.cell? ⟨g0, o0 + q * 7 + 6, none⟩ = some (tv)) := Lib.hid hce
      have HN := Lib.hid hn
      have HCT : Hid (∀ W, Pt PA w (.pointer (some ⟨g, 0, none⟩)) xs W → Calls Try.prog 9 #[.agg #[.int .i64 k, .string t, lv, .bool br, .bool bl, nv, tv]] W fun e w' => e = .returned (.int .i64 (cnt x : Int)) ∧ Hid (Pt PA w (.pointer (some ⟨g, 0, none⟩)) xs w')) := Lib.hid (fun W hp => (rtcount_any 1048576 (by omega) x hbx.1 _ W (hn.bel hp.2)).mono fun e w' h => ⟨h.1, Lib.hid (hp.below HI.out h.2)⟩)
      have HCT2 : Hid (∀ W ys, Pt PA w (.pointer (some ⟨g, 0, none⟩)) ys W → Calls Try.prog 9 #[.agg #[.int .i64 k, .string t, lv, .bool br, .bool bl, nv, tv]] W fun e w' => e = .returned (.int .i64 (cnt x : Int)) ∧ Hid (Pt PA w (.pointer (some ⟨g, 0, none⟩)) ys w')) := Lib.hid (fun W ys hp => (rtcount_any 1048576 (by omega) x hbx.1 _ W (hn.bel hp.2)).mono fun e w' h => ⟨h.1, Lib.hid (hp.below HI.out h.2)⟩)
      obtain ⟨C, hC⟩ : ∃ C, C = cnt x := ⟨_, rfl⟩
      rw [← hC] at HCT HCT2
      have HCC := Lib.hid hC
      have HBX := Lib.hid hbx
      obtain ⟨e0, e1, e2, e3, e4, e5, e6⟩ := hce _ HT.out.2
      have qn : (q : Int) < (l.length : Int) := by omega
      have q0 : (0 : Int) ≤ (q : Int) := by omega
      have HX := Lib.hid hx
      clear hn hce hC hbx hx
      go_wp2_with fail
      refine (HCT.out _ HT.out).mono ?_
      rintro e w2 ⟨rfl, HT2⟩
      by_cases h150 : 150 < C
      · have d1 : decide ((150 : Int) < (C : Int)) = true := decide_eq_true (by omega)
        clear e0 e1 e2 e3 e4 e5 e6
        go_wp2_with fail
        refine (HTD.out _).mono ?_
        rintro e w9 ⟨rfl, hb9⟩
        have HB9 := Lib.hid (HT2.out.2.trans (hb9.mono HT2.out.2.size))
        clear hb9
        go_wp2_with fail
        go_ret
        exact ⟨rfl, HB9.out⟩
      have d1 : decide ((150 : Int) < (C : Int)) = false := decide_eq_false (by omega)
      have hok : OkP x := ⟨by have := HCC.out; omega, HBX.out.2⟩
      have hl5 : xs.length + cnt x ≤ 50000 := by have := HL.out; have := HCC.out; omega
      have HOK := Lib.hid hok
      have HL5 := Lib.hid hl5
      have hpk := HT.out.pk
      obtain ⟨r1, r2, r3⟩ := pidx_again hpk x
      obtain ⟨r4, r5⟩ := pidx_le hpk x
      obtain ⟨r6, r7⟩ := pad_grow x xs
      have HPK := Lib.hid hpk
      have HKD := Lib.hid (fun y (hy : y ∈ kds' x) => pidx_kid hpk hy)
      obtain ⟨ys, hys⟩ : ∃ ys, ys = pad x xs := ⟨_, rfl⟩
      obtain ⟨X, hX⟩ : ∃ X, X = pidx x xs := ⟨_, rfl⟩
      have QP : Hid (∀ W, Pt PA w (.pointer (some ⟨g, 0, none⟩)) xs W → Calls Try.prog 10 #[.pointer (some ⟨g, 0, none⟩), .agg #[.int .i64 k, .string t, lv, .bool br, .bool bl, nv, tv]] W fun e w' => e = .returned (.int .i64 (X : Int)) ∧ Hid (Pt PA w (.pointer (some ⟨g, 0, none⟩)) ys w')) := Lib.hid (fun W hp => by rw [hX, hys]; exact (hp.put HI.out HN.out hok hl5).mono fun e w' h => ⟨h.1, Lib.hid h.2⟩)
      have hyl : ys.length + cnt x ≤ 50000 := by have := HL.out; have := HCC.out; rw [hys]; omega
      rw [← hys] at r1 r2 r3 r5 r6 r7 HKD
      rw [← hX] at r2 r3 r4 r5 HKD
      have QP2 : Hid (∀ W, Pt PA w (.pointer (some ⟨g, 0, none⟩)) ys W → Calls Try.prog 10 #[.pointer (some ⟨g, 0, none⟩), .agg #[.int .i64 k, .string t, lv, .bool br, .bool bl, nv, tv]] W fun e w' => e = .returned (.int .i64 (X : Int)) ∧ Hid (Pt PA w (.pointer (some ⟨g, 0, none⟩)) ys w')) := Lib.hid (fun W hp => by
        have h := hp.put HI.out HN.out hok hyl
        rw [r1, r2] at h
        exact h.mono fun e w' h => ⟨h.1, Lib.hid h.2⟩)
      have QS : Hid (∀ W, Pt PA w (.pointer (some ⟨g, 0, none⟩)) ys W → Calls Try.prog 13 #[.pointer (some ⟨g, 0, none⟩), .int .i64 (X : Int)] W fun e w' => e = .returned (.int .i64 (C : Int)) ∧ Hid (Pt PA w (.pointer (some ⟨g, 0, none⟩)) ys w')) := Lib.hid (fun W hp => by
        have h := hp.size HI.out (X : Int)
        rw [r3, ← HCC.out] at h
        exact h.mono fun e w' h => ⟨h.1, Lib.hid h.2⟩)
      have QL : Hid (∀ W zs, Pt PA w (.pointer (some ⟨g, 0, none⟩)) zs W → Calls Try.prog 12 #[.pointer (some ⟨g, 0, none⟩)] W fun e w' => e = .returned (.int .i64 (zs.length : Int)) ∧ Hid (Pt PA w (.pointer (some ⟨g, 0, none⟩)) zs w')) := Lib.hid (fun W zs hp => (hp.len HI.out).mono fun e w' h => ⟨h.1, Lib.hid h.2⟩)
      have HYL : Hid (ys.length + cnt x ≤ 50000) := Lib.hid hyl
      have HY5 : Hid (ys.length ≤ (q + 1) * 150) := Lib.hid (by have := HL.out; have := HCC.out; omega)
      obtain ⟨Nn, hNn⟩ : ∃ N, N = xs.length := ⟨_, rfl⟩
      obtain ⟨M, hM⟩ : ∃ N, N = ys.length := ⟨_, rfl⟩
      have QLx := Lib.hid (fun W hp => QL.out W xs hp)
      have QLy := Lib.hid (fun W hp => QL.out W ys hp)
      rw [← hNn] at QLx r6 r7
      rw [← hM] at QLy r5 r6 r7
      rw [← HCC.out] at r7
      have HMM := Lib.hid hM
      have hn5 : Nn ≤ 50000 := by have := HL5.out; omega
      have hm5 : M ≤ 50000 := by have := HYL.out; omega
      have f1 : decide (M < Nn) = false := decide_eq_false (by omega)
      obtain ⟨D, hD⟩ : ∃ D : Nat, (M : Int) - (Nn : Int) = (D : Int) := ⟨M - Nn, by omega⟩
      have f2 : IntKind.i64.wrap ((M : Int) - (Nn : Int)) = (D : Int) := by rw [IntKind.wrap_i64]; omega
      have f3 : decide (C < D) = false := decide_eq_false (by omega)
      have f4 : decide ((X : Int) < 1) = false := decide_eq_false (by omega)
      have f4a : decide (X < 1) = false := decide_eq_false (by omega)
      have f4b : decide (X = 0) = false := decide_eq_false (by omega)
      have f5 : decide (M < X) = false := decide_eq_false (by omega)
      have f6 : ((X : Int) != (X : Int)) = false := bne_self_eq_false _
      have f7 : ((M : Int) != (M : Int)) = false := bne_self_eq_false _
      have f8 : ((C : Int) != (C : Int)) = false := bne_self_eq_false _
      clear hD hok hl5 hpk r1 r2 r3 r4 r5 r6 r7 hys hX hyl hNn hM e0 e1 e2 e3 e4 e5 e6 HCT HT HPK HL5
      go_wp2_with fail
      refine (QLx.out _ HT2.out).mono ?_
      rintro e w3 ⟨rfl, HT3⟩
      obtain ⟨e0, e1, e2, e3, e4, e5, e6⟩ := HCE.out _ HT3.out.2
      clear HT2
      go_wp2_with fail
      refine (QP.out _ HT3.out).mono ?_
      rintro e w4 ⟨rfl, HT4⟩
      clear e0 e1 e2 e3 e4 e5 e6 HT3
      go_wp2_with fail
      refine (QLy.out _ HT4.out).mono ?_
      rintro e w5 ⟨rfl, HT5⟩
      obtain ⟨e0, e1, e2, e3, e4, e5, e6⟩ := HCE.out _ HT5.out.2
      have HBd : Hid (Pt PA w (.pointer (some ⟨g, 0, none⟩)) ys w5.drew) := Lib.hid (HT5.out.below HI.out (Below.drew (Below.refl _ _)))
      have CC := Lib.hid (fun w' (hb : Below w.heap.size w w') => (⟨HCE.out w' hb, Lib.hid hb⟩ : (w'.cell? ⟨g0, o0 + q * 7, none⟩ = some (.int .i64 k) ∧ w'.cell? ⟨g0, o0 + q * 7 + 1, none⟩ = some (.string t) ∧ w'.cell? ⟨g0, o0 + q * 7 + 2, none⟩ = some (lv) ∧ w'.cell? ⟨g0, o0 + q * 7 + 3, none⟩ = some (.bool br) ∧ w'.cell? ⟨g0, o0 + q * 7 + 4, none⟩ = some (.bool bl) ∧ w'.cell? ⟨g0, o0 + q * 7 + 5, none⟩ = some (nv) ∧ w'.cell? ⟨g0, o0 + q * 7 + 6, none⟩ = some (tv)) ∧ Hid (Below w.heap.size w w')))
      clear HT4
      go_wp2_with fail
      go_cut [91] from 42 to 91 (fun z wx => z = .bool false ∧ Hid (Pt PA w (.pointer (some ⟨g, 0, none⟩)) ys wx))
      case first =>
        go_region_held3 (fun w' => (w'.cell? ⟨g0, o0 + q * 7, none⟩ = some (.int .i64 k) ∧ w'.cell? ⟨g0, o0 + q * 7 + 1, none⟩ = some (.string t) ∧ w'.cell? ⟨g0, o0 + q * 7 + 2, none⟩ = some (lv) ∧ w'.cell? ⟨g0, o0 + q * 7 + 3, none⟩ = some (.bool br) ∧ w'.cell? ⟨g0, o0 + q * 7 + 4, none⟩ = some (.bool bl) ∧ w'.cell? ⟨g0, o0 + q * 7 + 5, none⟩ = some (nv) ∧ w'.cell? ⟨g0, o0 + q * 7 + 6, none⟩ = some (tv)) ∧ Hid (Below w.heap.size w w')) (first | exact CC.out _ HTv.out.2 | exact CC.out _ HBd.out.2 | exact CC.out _ HT5.out.2) (first
          | (go_at_call 9; refine (HCT2.out _ ys (by first | exact HTv.out | exact HBd.out | exact HT5.out)).mono ?_; rintro e w6 ⟨rfl, HTv⟩)
          | (go_at_call 10; refine (QP2.out _ (by first | exact HTv.out | exact HBd.out | exact HT5.out)).mono ?_; rintro e w6 ⟨rfl, HTv⟩)
          | (go_at_call 12; refine (QLy.out _ (by first | exact HTv.out | exact HBd.out | exact HT5.out)).mono ?_; rintro e w6 ⟨rfl, HTv⟩)
          | (go_at_call 13; refine (QS.out _ (by first | exact HTv.out | exact HBd.out | exact HT5.out)).mono ?_; rintro e w6 ⟨rfl, HTv⟩))
        all_goals go_wp2_with fail
        all_goals go_meet
        all_goals exact ⟨rfl, HTv⟩
      case rest =>
        obtain ⟨rfl, HTY⟩ := hcut
        have hn0 := HN.out
        cases x with
        | mk k0 t0 l0 br0 bl0 no0 ta0 =>
        obtain ⟨lv', nv', tv', cs2, hee, -, -, hl2, hc2⟩ := hn0.inv
        simp only [List.cons.injEq, Value.int.injEq, Value.string.injEq, Value.bool.injEq, and_true, true_and] at hee
        obtain ⟨-, -, hee, -⟩ := hee
        have hl2' := hl2
        obtain ⟨a2, c2, hlv, -⟩ := hl2
        rw [hlv] at hee hl2'
        have HKL := Lib.hid (fun i y hy => kids hl2' hc2 i y hy)
        have HKP := Lib.hid (fun i y (hy : l0[i]? = some y) => HKD.out y (kid_mem hy))
        have HKO : Hid (∀ (i : Nat) (y : Nd), l0[i]? = some y → OkP y ∧ ys.length + cnt y ≤ 50000) := Lib.hid (fun i y hy => by
          have h1 := cnt_at hy
          have h2 := HCC.out
          have h3 := HYL.out
          have h4 := HBX.out.2.1
          have h4z := HBX.out.2.2.inv.2.2.2
          simp only [cnt] at h2 h3
          simp only [smk] at h4
          exact ⟨⟨by omega, smk_in hy h4.2.2, h4z y (List.mem_of_getElem? hy)⟩, by omega⟩)
        subst hee
        obtain ⟨N0, hN0⟩ : ∃ N, N = l0.length := ⟨_, rfl⟩
        rw [← hN0] at hl2' HN HCE
        have HN0 := Lib.hid hN0
        have hN9 : N0 ≤ 150 := by
          have h1 := HCC.out
          have h2 := len_cntL l0
          simp only [cnt] at h1
          omega
        clear hn0 hl2' hc2 hlv hN0 e0 e1 e2 e3 e4 e5 e6 CC HBd HT5 QP QP2 QS QL QLx HCT2 HKD HOK HN HBX HYL HBU f1 f2 f3 f4 f4a f4b f5 f6 f8
        go_wp2_with fail
        go_loopg [9] N0 (fun gn i wq => ∃ (r : Nat), gn = N0 - r ∧ r ≤ N0 ∧ i = .int .i64 (r : Int) ∧ Hid (Pt PA w (.pointer (some ⟨g, 0, none⟩)) ys wq))
        case atStart => exact ⟨0, rfl, Nat.zero_le _, rfl, HTY⟩
        case round =>
          clear HTY
          obtain ⟨r, hgr, hr, rfl, HTQ⟩ := hrel
          obtain ⟨e0, e1, e2, e3, e4, e5, e6⟩ := HCE.out _ HTQ.out.2
          by_cases hrl : r < N0
          · obtain ⟨y, hy⟩ : ∃ x, l0[r]? = some x := ⟨_, List.getElem?_eq_getElem (by rw [← HN0.out]; exact hrl)⟩
            obtain ⟨g3, o3, k3, t3, lv3, br3, bl3, nv3, tv3, rfl, hn3, hc3⟩ := HKL.out r y hy
            obtain ⟨d0, d1', d2, d3, d4, d5, d6'⟩ := hc3 _ HTQ.out.2
            obtain ⟨k1, k2, k3'⟩ := HKP.out r y hy
            obtain ⟨ho, hl9⟩ := HKO.out r y hy
            have rn : (r : Int) < (N0 : Int) := by omega
            have r0 : (0 : Int) ≤ (r : Int) := by omega
            obtain ⟨Y, hY⟩ : ∃ Y, Y = pidx y ys := ⟨_, rfl⟩
            have QK : Hid (Calls Try.prog 10 #[.pointer (some ⟨g, 0, none⟩), .agg #[.int .i64 k3, .string t3, lv3, .bool br3, .bool bl3, nv3, tv3]] wr fun e w' => e = .returned (.int .i64 (Y : Int)) ∧ Hid (Pt PA w (.pointer (some ⟨g, 0, none⟩)) ys w')) := Lib.hid (by
              have h := HTQ.out.put HI.out hn3 ho hl9
              rw [k1, ← hY] at h
              exact h.mono fun e w' h => ⟨h.1, Lib.hid h.2⟩)
            rw [← hY] at k2 k3'
            have g1 : decide (X ≤ Y) = false := decide_eq_false (by omega)
            have g1a : decide ((X : Int) ≤ (Y : Int)) = false := decide_eq_false (by omega)
            have g2 : decide ((Y : Int) < 1) = false := decide_eq_false (by omega)
            have g2a : decide (Y < 1) = false := decide_eq_false (by omega)
            have g2b : decide (Y = 0) = false := decide_eq_false (by omega)
            clear hc3 hn3 k1 k2 k3' ho hl9 hY hy
            go_wp2_with fail
            refine QK.out.mono ?_
            rintro e w7 ⟨rfl, HT7⟩
            clear d0 d1' d2 d3 d4 d5 d6' e0 e1 e2 e3 e4 e5 e6 QK HTQ
            go_wp2_with fail
            refine (QLy.out _ HT7.out).mono ?_
            rintro e w8 ⟨rfl, HT8⟩
            go_wp2_with fail
            go_roundg (N0 - (r + 1))
            case measure => omega
            case rel => exact ⟨r + 1, rfl, hrl, by go_num, HT8⟩
          · obtain rfl : r = N0 := by omega
            clear hrl
            go_wp2_with fail
            go_roundg (l.length - (q + 1))
            case measure => omega
            case rel => exact ⟨q + 1, ys, rfl, hlt, by go_num, HTQ, HY5⟩
    · obtain rfl : q = l.length := by omega
      clear hlt
      go_wp2_with fail
      refine (HTD.out _).mono ?_
      rintro e w9 ⟨rfl, hb9⟩
      have HB9 := Lib.hid (HT.out.2.trans (hb9.mono HT.out.2.size))
      clear hb9
      go_wp2_with fail
      go_ret
      exact ⟨rfl, HB9.out⟩
end Go.Proofs.Ytkngnkonddpbeaa
