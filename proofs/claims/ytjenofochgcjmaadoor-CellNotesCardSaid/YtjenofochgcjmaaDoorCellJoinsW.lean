/-
  CellJoins, over the five calls.
-/
import Derived.Test.YtjenofochgcjmaaDoorCellAsksW
namespace Go.Proofs.YtjenofochgcjmaaDoor
open Go.RowKit Go.PlainAid

theorem ext_app {a b : ByteArray} {p : Nat} (h : p ≤ a.size) : (a ++ b).extract 0 p = a.extract 0 p := by
  apply ByteArray.ext
  have h' : p ≤ a.data.size := h
  simp [Array.extract_append]
  omega
theorem trim_app (a b : ByteArray) (hb : ∀ i, i < b.size → tb (bt b i) = true) : (a ++ b).extract 0 (tr (a ++ b) 0 (a ++ b).size) = a.extract 0 (tr a 0 a.size) := by
  rw [tr_app a b hb]
  exact ext_app (tr_spec a 0 a.size).1
theorem lcol_nl (a : ByteArray) (c : Nat) : lcol (a ++ ⟨#[10]⟩) c = 0 := by
  have h : lnf (a ++ ⟨#[10]⟩) (a ++ ⟨#[10]⟩).size = a.size + 1 := by
    rw [ByteArray.size_append, lnf_app_r, show lnf ⟨#[10]⟩ (⟨#[10]⟩ : ByteArray).size = 1 by decide +kernel]
    rfl
  unfold lcol
  rw [h, if_neg (by omega), ct_end (by rw [ByteArray.size_append]; show ¬ a.size + 1 < a.size + 1; omega)]
set_option maxRecDepth 100000 in
set_option maxHeartbeats 4000000 in
theorem cellJoins_walk {TT : World → Prop} (C : CellI TT) (a b : ByteArray) (x : Int) (w : World) (ht : TT w) (ha : a.size ≤ maxLen) (hb : b.size ≤ maxLen) :
    Calls Tryd.prog 4 #[.string a, .string b, .int .i64 x] w fun e w' => e = .returned (.bool true) ∧ Below w.heap.size w w' := by
  have H0 : Hid (Cq TT w w) := Lib.hid ⟨ht, Below.refl _ _⟩
  have HT : Hid (∀ W, Cq TT w W → Calls Tryd.prog 7 #[] W fun e w' => e = .returned (.bool true) ∧ Hid (Cq TT w w')) := Lib.hid (fun W h => (told12_any C W h.1).mono fun _ _ ⟨h1, h2⟩ => ⟨h1, Lib.hid (h.go C h2.out.2)⟩)
  have hq : ∀ {W : World}, Cq TT w W → ∀ m, Cq TT w (W.drewN m) := fun h m => h.go C (drew_below _ m)
  have VA : Hid (∀ W, Cq TT w W → Calls Tryd.prog 18 #[.string a] W fun e w' => e = .returned (.bool (vd a 0)) ∧ Hid (Cq TT w w')) := Lib.hid (fun W h => (rvalid_any a W ha).mono fun _ _ ⟨h1, m, h2⟩ => ⟨h1, Lib.hid (by rw [h2]; exact hq h m)⟩)
  have VB : Hid (∀ W, Cq TT w W → Calls Tryd.prog 18 #[.string b] W fun e w' => e = .returned (.bool (vd b 0)) ∧ Hid (Cq TT w w')) := Lib.hid (fun W h => (rvalid_any b W hb).mono fun _ _ ⟨h1, m, h2⟩ => ⟨h1, Lib.hid (by rw [h2]; exact hq h m)⟩)
  clear ha hb
  by_cases h1 : 200 < a.size
  · have d1 : decide ((200 : Int) < (a.size : Int)) = true := decide_eq_true (by omega)
    clear ht hq VA VB
    go_enter Tryd.func4, Tryd.ntmps4
    go_wp2_with fail
    refine (HT.out _ H0.out).mono ?_
    rintro e w1 ⟨rfl, K1⟩
    go_wp2_with fail
    go_ret
    exact ⟨rfl, K1.out.2⟩
  have d1 : decide ((200 : Int) < (a.size : Int)) = false := decide_eq_false (by omega)
  by_cases h2 : 200 < b.size
  · have d2 : decide ((200 : Int) < (b.size : Int)) = true := decide_eq_true (by omega)
    clear ht hq VA VB
    go_enter Tryd.func4, Tryd.ntmps4
    go_wp2_with fail
    refine (HT.out _ H0.out).mono ?_
    rintro e w1 ⟨rfl, K1⟩
    go_wp2_with fail
    go_ret
    exact ⟨rfl, K1.out.2⟩
  have d2 : decide ((200 : Int) < (b.size : Int)) = false := decide_eq_false (by omega)
  cases hva : vd a 0
  · rw [hva] at VA
    clear ht hq VB
    go_enter Tryd.func4, Tryd.ntmps4
    go_wp2_with fail
    refine (VA.out _ H0.out).mono ?_
    rintro e w1 ⟨rfl, K1⟩
    go_wp2_with fail
    refine (HT.out _ K1.out).mono ?_
    rintro e w2 ⟨rfl, K2⟩
    go_wp2_with fail
    go_ret
    exact ⟨rfl, K2.out.2⟩
  cases hvb : vd b 0
  · rw [hva] at VA
    rw [hvb] at VB
    clear ht hq
    go_enter Tryd.func4, Tryd.ntmps4
    go_wp2_with fail
    refine (VA.out _ H0.out).mono ?_
    rintro e w1 ⟨rfl, K1⟩
    go_wp2_with fail
    refine (VB.out _ K1.out).mono ?_
    rintro e w3 ⟨rfl, K3⟩
    go_wp2_with fail
    refine (HT.out _ K3.out).mono ?_
    rintro e w2 ⟨rfl, K2⟩
    go_wp2_with fail
    go_ret
    exact ⟨rfl, K2.out.2⟩
  rw [hva] at VA
  rw [hvb] at VB
  obtain ⟨k, hk, ek⟩ := mod_in x 1001 (by omega)
  have ek : (IntKind.u64.wrap x).tmod 1001 = (k : Int) := ek
  have hsz : (a ++ b).size = a.size + b.size := ByteArray.size_append
  have hs3 : (a ++ ⟨#[32, 32, 9]⟩ : ByteArray).size = a.size + 3 := ByteArray.size_append
  have hs1 : (a ++ ⟨#[10]⟩ : ByteArray).size = a.size + 1 := ByteArray.size_append
  have hla := lcol_le a k
  have hca := ct_le a a.size 0 (by omega)
  have hcb := ct_le b b.size 0 (by omega)
  have hap := lcol_app b k hva
  have P1 := Lib.hid (fun W (h : Cq TT w W) => C.l h (a ++ b) k (by omega) (by omega))
  have P2 := Lib.hid (fun W (h : Cq TT w W) => C.l h a k (by omega) (by omega))
  have P3 := Lib.hid (fun W (h : Cq TT w W) => C.l h b (lcol a k) (by omega) (by omega))
  have P4 := Lib.hid (fun W (h : Cq TT w W) => C.t h (a ++ ⟨#[32, 32, 9]⟩) (by omega))
  have P5 := Lib.hid (fun W (h : Cq TT w W) => C.t h a (by omega))
  have P6 := Lib.hid (fun W (h : Cq TT w W) => C.l h (a ++ ⟨#[10]⟩) k (by omega) (by omega))
  have P7 := Lib.hid (fun W (h : Cq TT w W) => C.w h (a ++ b) (by omega))
  have P8 := Lib.hid (fun W (h : Cq TT w W) => C.w h a (by omega))
  have P9 := Lib.hid (fun W (h : Cq TT w W) => C.w h b (by omega))
  rw [hap] at P1
  rw [trim_app a ⟨#[32, 32, 9]⟩ (fun i hi => by
    have hi : i < 3 := hi
    match i, hi with
    | 0, _ => decide +kernel
    | 1, _ => decide +kernel
    | 2, _ => decide +kernel)] at P4
  rw [lcol_nl] at P6
  rw [ct_both b hva] at P7
  obtain ⟨u, hu⟩ : ∃ u, u = lcol a k := ⟨_, rfl⟩
  rw [← hu] at P1 P2 P3
  obtain ⟨v, hv⟩ : ∃ v, v = lcol b u := ⟨_, rfl⟩
  rw [← hv] at P1 P3
  obtain ⟨t, ht2⟩ : ∃ t, t = a.extract 0 (tr a 0 a.size) := ⟨_, rfl⟩
  rw [← ht2] at P4 P5
  obtain ⟨c1, hc1⟩ : ∃ c, c = ct a 0 := ⟨_, rfl⟩
  obtain ⟨c2, hc2⟩ : ∃ c, c = ct b 0 := ⟨_, rfl⟩
  rw [← hc1] at P7 P8 hca
  rw [← hc2] at P7 P9 hcb
  have hu2 : u ≤ 2000 := by omega
  have hc : c1 ≤ 200 ∧ c2 ≤ 200 := by omega
  have G1 : IntKind.i64.wrap ((c1 : Int) + (c2 : Int)) = (c1 : Int) + (c2 : Int) := by rw [IntKind.wrap_i64]; omega
  have G2 : wrap64 ((c1 : Int) + (c2 : Int)) = (c1 : Int) + (c2 : Int) := by have := IntKind.wrap_i64 ((c1 : Int) + (c2 : Int)); unfold wrap64; omega
  have hcc : (((c1 + c2 : Nat) : Int) == (c1 : Int) + (c2 : Int)) = true := by simp
  clear ht hq hu hv ht2 hc1 hc2 hla hca hcb hap hsz hs3 hs1 C
  go_enter Tryd.func4, Tryd.ntmps4
  go_wp2_with fail
  refine (VA.out _ H0.out).mono ?_
  rintro e w1 ⟨rfl, K1⟩
  go_wp2_with fail
  refine (VB.out _ K1.out).mono ?_
  rintro e w3 ⟨rfl, K3⟩
  go_wp2_with fail
  refine (HT.out _ K3.out).mono ?_
  rintro e w4 ⟨rfl, K4⟩
  go_wp2_with fail
  refine (P1.out _ K4.out).mono ?_
  rintro e w5 ⟨rfl, K5⟩
  go_wp2_with fail
  refine (P2.out _ K5.out).mono ?_
  rintro e w6 ⟨rfl, K6⟩
  go_wp2_with fail
  refine (P3.out _ K6.out).mono ?_
  rintro e w7 ⟨rfl, K7⟩
  go_wp2_with fail
  refine (P4.out _ K7.out).mono ?_
  rintro e w8 ⟨rfl, K8⟩
  go_wp2_with fail
  refine (P5.out _ K8.out).mono ?_
  rintro e w9 ⟨rfl, K9⟩
  go_wp2_with fail
  refine (P6.out _ K9.out).mono ?_
  rintro e wA ⟨rfl, KA⟩
  go_wp2_with fail
  refine (P7.out _ KA.out).mono ?_
  rintro e wB ⟨rfl, KB⟩
  go_wp2_with fail
  refine (P8.out _ KB.out).mono ?_
  rintro e wC ⟨rfl, KC⟩
  go_wp2_with fail
  refine (P9.out _ KC.out).mono ?_
  rintro e wD ⟨rfl, KD⟩
  go_wp2_with fail
  go_ret
  exact ⟨by simp, KD.out.2⟩
end Go.Proofs.YtjenofochgcjmaaDoor
