/-
  THE DOCUMENT's flat, Width, front of documents that may be.
-/
import Derived.Test.YtbjgoigdhijbgaaDoorFlatFns
import Derived.Test.YtbjgoigdhijbgaaDoorRefDocD
import Derived.Test.YtbjgoigdhijbgaaDoorRefUtf
set_option linter.all false
namespace Go.Proofs.YtbjgoigdhijbgaaDoor
open Go.RowKit Go.PlainAid

theorem ctx_app : ∀ (a b : List Dc), ctx (a ++ b) = ctx a ++ ctx b
  | [], b => by show ctx b = (⟨#[]⟩ : ByteArray) ++ ctx b; apply ByteArray.ext; simp
  | x :: a, b => by show wrt x ++ ctx (a ++ b) = (wrt x ++ ctx a) ++ ctx b; rw [ctx_app a b, ByteArray.append_assoc]
theorem wsum_app : ∀ (a b : List Dc), wsum (a ++ b) = wsum a + wsum b
  | [], b => by show wsum b = 0 + wsum b; omega
  | x :: a, b => by show ct (wrt x) 0 + wsum (a ++ b) = (ct (wrt x) 0 + wsum a) + wsum b; rw [wsum_app a b]; omega
/-- Is there one among these that is no text? -/
def stp9 : List Dc → Bool
  | [] => false
  | x :: t => if dkd x = 1 then stp9 t else true
theorem fsum_app : ∀ (a b : List Dc), fsum (a ++ b) = fsum a + if stp9 a = true then 0 else fsum b
  | [], b => by show fsum b = 0 + fsum b; omega
  | x :: a, b => by
    have h := fsum_app a b
    simp only [List.cons_append, fsum, stp9]
    split
    · rw [h]; omega
    · simp
theorem stp9_app : ∀ (a b : List Dc), stp9 (a ++ b) = (stp9 a || stp9 b)
  | [], b => by simp [stp9]
  | x :: a, b => by
    simp only [List.cons_append, stp9]
    split
    · exact stp9_app a b
    · simp
theorem lvsL_drop : ∀ {l : List Dc} {i : Nat} {x : Dc}, l[i]? = some x → lvsL (l.drop i) = lvs x ++ lvsL (l.drop (i + 1))
  | [], _, _, h => by simp at h
  | y :: t, 0, x, h => by
    simp only [List.getElem?_cons_zero, Option.some.injEq] at h
    subst h
    simp only [List.drop_zero, lvsL, List.drop_succ_cons]
  | y :: t, i + 1, x, h => by
    simp only [List.getElem?_cons_succ] at h
    simp only [List.drop_succ_cons]
    exact lvsL_drop h
/-- A leaf of a document that may be has no parts. -/
theorem drt_leaf {k n : Int} {t : ByteArray} {l : List Dc} (h : drt (.mk k n t l) = true) (hk : lfk k = true) : l = [] := by
  simp only [drt, Bool.and_eq_true] at h
  have h1 := h.1
  unfold dal at h1
  have hk : k = 1 ∨ k = 2 ∨ k = 3 ∨ k = 4 := by unfold lfk at hk; simp only [Bool.or_eq_true, beq_iff_eq] at hk; omega
  rcases hk with e | e | e | e <;> subst e <;> simp at h1 <;> first | exact h1.1.2 | exact h1.2.1 | exact h1.2
theorem drt_at {l : List Dc} (h : drtL l = true) {x : Dc} (hx : x ∈ l) : drt x = true := by
  induction l with
  | nil => cases hx
  | cons y t ih =>
    simp only [drtL, Bool.and_eq_true] at h
    rcases List.mem_cons.1 hx with e | e
    · rw [e]; exact h.1
    · exact ih h.2 e
theorem lvs_other {k n : Int} {t : ByteArray} {l : List Dc} (hk : lfk k = false) : lvs (.mk k n t l) = lvsL l := lvs_in (x := .mk k n t l) hk
theorem lvs_lf {k n : Int} {t : ByteArray} {l : List Dc} (hk : lfk k = true) : lvs (.mk k n t l) = [.mk k n t l] := lvs_leaf (x := .mk k n t l) hk
theorem lfk_not {k : Int} (h1 : ¬ k = 1) (h2 : ¬ k = 2) (h3 : ¬ k = 3) (h4 : ¬ k = 4) : lfk k = false := by unfold lfk; simp [h1, h2, h3, h4]
theorem ba_empty_r (a : ByteArray) : a ++ (⟨#[]⟩ : ByteArray) = a := by apply ByteArray.ext; simp
theorem ctx_1 {n : Int} {t : ByteArray} {l : List Dc} : ctx (lvs (.mk 1 n t l)) = t := by rw [lvs_lf rfl]; show t ++ (⟨#[]⟩ : ByteArray) = t; exact ba_empty_r t
theorem ctx_2 {n : Int} {t : ByteArray} {l : List Dc} : ctx (lvs (.mk 2 n t l)) = ⟨#[32]⟩ := by rw [lvs_lf rfl]; show (⟨#[32]⟩ : ByteArray) ++ (⟨#[]⟩ : ByteArray) = _; exact ba_empty_r _
theorem ctx_o {k n : Int} {t : ByteArray} {l : List Dc} (h : drt (.mk k n t l) = true) (h1 : ¬ k = 1) (h2 : ¬ k = 2) : ctx (lvs (.mk k n t l)) = ctx (lvsL l) := by
  by_cases h3 : k = 3
  · subst h3
    rw [lvs_lf rfl, drt_leaf h rfl]; show wrt (.mk 3 n t []) ++ (⟨#[]⟩ : ByteArray) = (⟨#[]⟩ : ByteArray); rw [ba_empty_r]; rfl
  by_cases h4 : k = 4
  · subst h4
    rw [lvs_lf rfl, drt_leaf h rfl]; show wrt (.mk 4 n t []) ++ (⟨#[]⟩ : ByteArray) = (⟨#[]⟩ : ByteArray); rw [ba_empty_r]; rfl
  rw [lvs_other (lfk_not h1 h2 h3 h4)]
theorem ct_0 : ct ⟨#[]⟩ 0 = 0 := by decide +kernel
theorem ct_32 : ct ⟨#[32]⟩ 0 = 1 := by decide +kernel
theorem wsum_1 {n : Int} {t : ByteArray} {l : List Dc} : wsum (lvs (.mk 1 n t l)) = ct t 0 := by rw [lvs_lf rfl]; rfl
theorem wsum_2 {n : Int} {t : ByteArray} {l : List Dc} : wsum (lvs (.mk 2 n t l)) = 1 := by rw [lvs_lf rfl]; show ct ⟨#[32]⟩ 0 + 0 = 1; rw [ct_32]
theorem wsum_o {k n : Int} {t : ByteArray} {l : List Dc} (h : drt (.mk k n t l) = true) (h1 : ¬ k = 1) (h2 : ¬ k = 2) : wsum (lvs (.mk k n t l)) = wsum (lvsL l) := by
  by_cases h3 : k = 3
  · subst h3
    rw [lvs_lf rfl, drt_leaf h rfl]; show ct ⟨#[]⟩ 0 + 0 = 0; rw [ct_0]
  by_cases h4 : k = 4
  · subst h4
    rw [lvs_lf rfl, drt_leaf h rfl]; show ct ⟨#[]⟩ 0 + 0 = 0; rw [ct_0]
  rw [lvs_other (lfk_not h1 h2 h3 h4)]
theorem ret_s9 {a b : ByteArray} (h : a = b) : Ending.returned (.string a) = .returned (.string b) := by rw [h]
theorem ret_i9 {a b : Nat} (h : a = b) : Ending.returned (.int .i64 (a : Int)) = .returned (.int .i64 (b : Int)) := by rw [h]
set_option maxRecDepth 100000 in
set_option maxHeartbeats 4000000 in
theorem rflat_any : ∀ (m : Nat), m ≤ 90000 → ∀ (x : Dc), dcnt x ≤ m → drt x = true → dtz 1048576 x → ∀ (c : List Value) (w : World), DcAt w c x →
    Calls Tryd.prog 34 #[.agg c.toArray] w fun e w' => e = .returned (.string (ctx (lvs x))) ∧ Below w.heap.size w w'
  | 0, _, n, hn, _, _, _, _, _ => by have := dcnt_pos n; omega
  | m + 1, hm, .mk k n t l, hn, hr, hz, c, w, h => by
    obtain ⟨lv, cs, rfl, hl, hc⟩ := h.inv
    clear h
    simp only [dcnt] at hn
    have hz : t.size ≤ 1048576 ∧ dtzL 1048576 l := by simpa only [dtz] using hz
    have hl0 := hl
    obtain ⟨a, cap, rfl, -⟩ := hl0
    have HK := Lib.hid (kidsD hl hc)
    have hrl : drtL l = true := by simp only [drt, Bool.and_eq_true] at hr; exact hr.2
    have HI : Hid (∀ x ∈ l, ∀ c, DcAt w c x → ∀ W, Below w.heap.size w W → Calls Tryd.prog 34 #[.agg c.toArray] W fun e w' => e = .returned (.string (ctx (lvs x))) ∧ Below W.heap.size W w') :=
      Lib.hid (fun x hx c hxc W hb => rflat_any m (by omega) x (by obtain ⟨i, hi⟩ := List.getElem?_of_mem hx; have := dcnt_at hi; omega) (drt_at hrl hx) (dtz_at hz.2 hx) c W (hxc.bel hb))
    have hlen := len_dcntL l
    have hbd : (ctx (lvsL l)).size ≤ 90000 * 1048576 := Nat.le_trans (ctx_le _ (fun x hx => wrt_sz (lvsL_sz l hz.2 x hx))) (Nat.mul_le_mul_right _ (by have := lvsL_len l; omega))
    obtain ⟨N, hN⟩ : ∃ N, N = l.length := ⟨_, rfl⟩
    rw [← hN] at hlen ⊢
    have HN := Lib.hid hN
    obtain ⟨Z, hZ⟩ : ∃ Z, Z = w.alloc (.cells #[.int .i64 k, .int .i64 n, .string t, .slice a N cap] 24) := ⟨_, rfl⟩
    have hbW : Below w.heap.size w Z := by rw [hZ]; exact below1 _ _
    have HB0 : Hid (Below Z.heap.size Z (w.alloc (.cells #[.int .i64 k, .int .i64 n, .string t, .slice a N cap] 24))) := Lib.hid (by rw [← hZ]; exact Below.refl _ _)
    have HC := Lib.hid (fun W (hb : Below Z.heap.size Z W) => dc_cells (by rw [hZ] at hb; exact hb))
    have UP := Lib.hid (fun W (h : Below Z.heap.size Z W) => hbW.trans (h.mono hbW.size))
    obtain ⟨d0, d1, d2, d3⟩ := HC.out _ HB0.out
    have hln : N ≤ 1048576 := by omega
    have HR := Lib.hid hr
    have HCT : Hid (∀ W, Calls Tryd.prog 35 #[.string t] W fun e w' => e = .returned (.int .i64 (ct t 0 : Int)) ∧ Below W.heap.size W w') := Lib.hid (fun W => (rcount_any t W (by unfold maxLen; omega)).mono fun e w' ⟨h1, n, h2⟩ => ⟨h1, h2 ▸ Below.ofDrewN _ _⟩)
    clear hN hl hc hZ hbW hlen hn hm hz hrl hr
    by_cases h1 : k = 1
    · subst h1
      clear HK HI HCT
      go_enter Tryd.func34, Tryd.ntmps34
      go_wp2_with fail
      go_ret
      exact ⟨ret_s9 ctx_1.symm, UP.out _ HB0.out⟩
    by_cases h2 : k = 2
    · subst h2
      clear HK HI HCT
      go_enter Tryd.func34, Tryd.ntmps34
      go_wp2_with fail
      go_ret
      exact ⟨ret_s9 ctx_2.symm, UP.out _ HB0.out⟩
    rw [ctx_o HR.out h1 h2]
    have f1 : (k == 1) = false := by simp [h1]
    have f2 : (k == 2) = false := by simp [h2]
    have HBD := Lib.hid hbd
    clear h1 h2 HCT hbd
    go_enter Tryd.func34, Tryd.ntmps34
    go_wp2_with fail
    go_loopg [3, 4] N (fun gn acc i wr => ∃ (q : Nat) (S : ByteArray), gn = N - q ∧ q ≤ N ∧ i = .int .i64 (q : Int) ∧ acc = .string S ∧ Hid (ctx (lvsL l) = S ++ ctx (lvsL (l.drop q))) ∧ Hid (Below Z.heap.size Z wr))
    case atStart => exact ⟨0, ⟨#[]⟩, rfl, Nat.zero_le _, rfl, rfl, Lib.hid (by rw [List.drop_zero]; apply ByteArray.ext; simp), HB0⟩
    case round =>
      obtain ⟨q, S, hgn, hq, rfl, rfl, HS, HB⟩ := hrel
      obtain ⟨d0, d1, d2, d3⟩ := HC.out _ HB.out
      have HBw : Hid (Below w.heap.size w wr) := Lib.hid (UP.out _ HB.out)
      by_cases hlt : q < N
      · obtain ⟨x, hx⟩ : ∃ x, l[q]? = some x := ⟨_, List.getElem?_eq_getElem (by rw [← HN.out]; exact hlt)⟩
        obtain ⟨g, o, k', n', t', lv', rfl, hxc, hce⟩ := HK.out q x hx
        obtain ⟨e0, e1, e2, e3⟩ := hce wr HBw.out
        have HI1 := Lib.hid (HI.out x (List.mem_of_getElem? hx) _ hxc wr HBw.out)
        have HK2 : Hid (ctx (lvsL l) = (S ++ ctx (lvs x)) ++ ctx (lvsL (l.drop (q + 1)))) := Lib.hid (by rw [HS.out, lvsL_drop hx, ctx_app, ByteArray.append_assoc])
        obtain ⟨X, hX⟩ : ∃ X, X = ctx (lvs x) := ⟨_, rfl⟩
        rw [← hX] at HI1 HK2
        have hsz : S.size + X.size ≤ 90000 * 1048576 := by
          have h1 := HBD.out
          rw [HK2.out] at h1
          simp only [ByteArray.size_append] at h1
          omega
        have qn : (q : Int) < (N : Int) := by omega
        clear hce hx hX hxc HS
        go_wp2_with fail
        refine HI1.out.mono ?_
        rintro e w1 ⟨rfl, hb1⟩
        have HB1 := Lib.hid (HB.out.trans (hb1.mono HB.out.size))
        clear hb1 HI1
        go_wp2_with fail
        go_roundg (N - (q + 1))
        case measure => omega
        case rel => exact ⟨q + 1, S ++ X, rfl, hlt, by go_num, rfl, HK2, HB1⟩
      · obtain rfl : q = N := by omega
        have HF : Hid (S = ctx (lvsL l)) := Lib.hid (by have := HS.out; rw [List.drop_eq_nil_of_le (by rw [HN.out]; exact Nat.le_refl _)] at this; rw [this]; show S = S ++ (⟨#[]⟩ : ByteArray); exact (ba_empty_r S).symm)
        go_wp2_with fail
        go_ret
        exact ⟨ret_s9 HF.out, HBw.out⟩
set_option maxRecDepth 100000 in
set_option maxHeartbeats 4000000 in
theorem rwidth_any : ∀ (m : Nat), m ≤ 90000 → ∀ (x : Dc), dcnt x ≤ m → drt x = true → dtz 1048576 x → ∀ (c : List Value) (w : World), DcAt w c x →
    Calls Tryd.prog 19 #[.agg c.toArray] w fun e w' => e = .returned (.int .i64 (wsum (lvs x) : Int)) ∧ Below w.heap.size w w'
  | 0, _, n, hn, _, _, _, _, _ => by have := dcnt_pos n; omega
  | m + 1, hm, .mk k n t l, hn, hr, hz, c, w, h => by
    obtain ⟨lv, cs, rfl, hl, hc⟩ := h.inv
    clear h
    simp only [dcnt] at hn
    have hz : t.size ≤ 1048576 ∧ dtzL 1048576 l := by simpa only [dtz] using hz
    have hl0 := hl
    obtain ⟨a, cap, rfl, -⟩ := hl0
    have HK := Lib.hid (kidsD hl hc)
    have hrl : drtL l = true := by simp only [drt, Bool.and_eq_true] at hr; exact hr.2
    have HI : Hid (∀ x ∈ l, ∀ c, DcAt w c x → ∀ W, Below w.heap.size w W → Calls Tryd.prog 19 #[.agg c.toArray] W fun e w' => e = .returned (.int .i64 (wsum (lvs x) : Int)) ∧ Below W.heap.size W w') :=
      Lib.hid (fun x hx c hxc W hb => rwidth_any m (by omega) x (by obtain ⟨i, hi⟩ := List.getElem?_of_mem hx; have := dcnt_at hi; omega) (drt_at hrl hx) (dtz_at hz.2 hx) c W (hxc.bel hb))
    have hlen := len_dcntL l
    have hbd : wsum (lvsL l) ≤ 90000 * 1048576 := Nat.le_trans (wsum_le _ (fun x hx => wrt_sz (lvsL_sz l hz.2 x hx))) (Nat.mul_le_mul_right _ (by have := lvsL_len l; omega))
    obtain ⟨N, hN⟩ : ∃ N, N = l.length := ⟨_, rfl⟩
    rw [← hN] at hlen ⊢
    have HN := Lib.hid hN
    obtain ⟨Z, hZ⟩ : ∃ Z, Z = w.alloc (.cells #[.int .i64 k, .int .i64 n, .string t, .slice a N cap] 24) := ⟨_, rfl⟩
    have hbW : Below w.heap.size w Z := by rw [hZ]; exact below1 _ _
    have HB0 : Hid (Below Z.heap.size Z (w.alloc (.cells #[.int .i64 k, .int .i64 n, .string t, .slice a N cap] 24))) := Lib.hid (by rw [← hZ]; exact Below.refl _ _)
    have HC := Lib.hid (fun W (hb : Below Z.heap.size Z W) => dc_cells (by rw [hZ] at hb; exact hb))
    have UP := Lib.hid (fun W (h : Below Z.heap.size Z W) => hbW.trans (h.mono hbW.size))
    obtain ⟨d0, d1, d2, d3⟩ := HC.out _ HB0.out
    have hln : N ≤ 1048576 := by omega
    have HR := Lib.hid hr
    have HCT : Hid (∀ W, Calls Tryd.prog 35 #[.string t] W fun e w' => e = .returned (.int .i64 (ct t 0 : Int)) ∧ Below W.heap.size W w') := Lib.hid (fun W => (rcount_any t W (by unfold maxLen; omega)).mono fun e w' ⟨h1, n, h2⟩ => ⟨h1, h2 ▸ Below.ofDrewN _ _⟩)
    clear hN hl hc hZ hbW hlen hn hm hz hrl hr
    by_cases h1 : k = 1
    · subst h1
      clear HK HI
      go_enter Tryd.func19, Tryd.ntmps19
      go_wp2_with fail
      refine (HCT.out _).mono ?_
      rintro e w1 ⟨rfl, hb1⟩
      have HB1 := Lib.hid (HB0.out.trans (hb1.mono HB0.out.size))
      clear hb1
      go_wp2_with fail
      go_ret
      exact ⟨ret_i9 wsum_1.symm, UP.out _ HB1.out⟩
    by_cases h2 : k = 2
    · subst h2
      clear HK HI HCT
      go_enter Tryd.func19, Tryd.ntmps19
      go_wp2_with fail
      go_ret
      exact ⟨ret_i9 (a := 1) wsum_2.symm, UP.out _ HB0.out⟩
    rw [wsum_o HR.out h1 h2]
    have f1 : (k == 1) = false := by simp [h1]
    have f2 : (k == 2) = false := by simp [h2]
    have HBD := Lib.hid hbd
    clear h1 h2 HCT hbd
    go_enter Tryd.func19, Tryd.ntmps19
    go_wp2_with fail
    go_loopg [3, 4] N (fun gn acc i wr => ∃ (q S : Nat), gn = N - q ∧ q ≤ N ∧ i = .int .i64 (q : Int) ∧ acc = .int .i64 (S : Int) ∧ Hid (wsum (lvsL l) = S + wsum (lvsL (l.drop q))) ∧ Hid (Below Z.heap.size Z wr))
    case atStart => exact ⟨0, 0, rfl, Nat.zero_le _, rfl, rfl, Lib.hid (by rw [List.drop_zero]; omega), HB0⟩
    case round =>
      obtain ⟨q, S, hgn, hq, rfl, rfl, HS, HB⟩ := hrel
      obtain ⟨d0, d1, d2, d3⟩ := HC.out _ HB.out
      have HBw : Hid (Below w.heap.size w wr) := Lib.hid (UP.out _ HB.out)
      by_cases hlt : q < N
      · obtain ⟨x, hx⟩ : ∃ x, l[q]? = some x := ⟨_, List.getElem?_eq_getElem (by rw [← HN.out]; exact hlt)⟩
        obtain ⟨g, o, k', n', t', lv', rfl, hxc, hce⟩ := HK.out q x hx
        obtain ⟨e0, e1, e2, e3⟩ := hce wr HBw.out
        have HI1 := Lib.hid (HI.out x (List.mem_of_getElem? hx) _ hxc wr HBw.out)
        have HK2 : Hid (wsum (lvsL l) = (S + wsum (lvs x)) + wsum (lvsL (l.drop (q + 1)))) := Lib.hid (by rw [HS.out, lvsL_drop hx, wsum_app]; omega)
        obtain ⟨X, hX⟩ : ∃ X, X = wsum (lvs x) := ⟨_, rfl⟩
        rw [← hX] at HI1 HK2
        have hsz : S + X ≤ 90000 * 1048576 := by
          have h1 := HBD.out
          rw [HK2.out] at h1
          omega
        have qn : (q : Int) < (N : Int) := by omega
        clear hce hx hX hxc HS
        go_wp2_with fail
        refine HI1.out.mono ?_
        rintro e w1 ⟨rfl, hb1⟩
        have HB1 := Lib.hid (HB.out.trans (hb1.mono HB.out.size))
        clear hb1 HI1
        go_wp2_with fail
        go_roundg (N - (q + 1))
        case measure => omega
        case rel => exact ⟨q + 1, S + X, rfl, hlt, by go_num, by go_num, HK2, HB1⟩
      · obtain rfl : q = N := by omega
        have HF : Hid (S = wsum (lvsL l)) := Lib.hid (by have := HS.out; rw [List.drop_eq_nil_of_le (by rw [HN.out]; exact Nat.le_refl _)] at this; rw [this]; rfl)
        go_wp2_with fail
        go_ret
        exact ⟨ret_i9 HF.out, HBw.out⟩
theorem ret_ib9 {a b : Nat} {c d : Bool} (h : a = b) (h' : c = d) : Ending.returned (.tuple #[.int .i64 (a : Int), .bool c]) = .returned (.tuple #[.int .i64 (b : Int), .bool d]) := by rw [h, h']
theorem fs_1 {n : Int} {t : ByteArray} {l : List Dc} : fsum (lvs (.mk 1 n t l)) = ct t 0 ∧ stp9 (lvs (.mk 1 n t l)) = false := by rw [lvs_lf rfl]; exact ⟨rfl, rfl⟩
theorem fs_2 {k n : Int} {t : ByteArray} {l : List Dc} (h : lfk k = true) (h1 : ¬ k = 1) : fsum (lvs (.mk k n t l)) = 0 ∧ stp9 (lvs (.mk k n t l)) = true := by
  rw [lvs_lf h]
  exact ⟨if_neg h1, if_neg h1⟩
set_option maxRecDepth 100000 in
set_option maxHeartbeats 4000000 in
theorem rfront_any : ∀ (m : Nat), m ≤ 90000 → ∀ (x : Dc), dcnt x ≤ m → drt x = true → dtz 1048576 x → ∀ (c : List Value) (w : World), DcAt w c x →
    Calls Tryd.prog 36 #[.agg c.toArray] w fun e w' => e = .returned (.tuple #[.int .i64 (fsum (lvs x) : Int), .bool (stp9 (lvs x))]) ∧ Below w.heap.size w w'
  | 0, _, n, hn, _, _, _, _, _ => by have := dcnt_pos n; omega
  | m + 1, hm, .mk k n t l, hn, hr, hz, c, w, h => by
    obtain ⟨lv, cs, rfl, hl, hc⟩ := h.inv
    clear h
    simp only [dcnt] at hn
    have hz : t.size ≤ 1048576 ∧ dtzL 1048576 l := by simpa only [dtz] using hz
    have hl0 := hl
    obtain ⟨a, cap, rfl, -⟩ := hl0
    have HK := Lib.hid (kidsD hl hc)
    have hrl : drtL l = true := by simp only [drt, Bool.and_eq_true] at hr; exact hr.2
    have HI : Hid (∀ x ∈ l, ∀ c, DcAt w c x → ∀ W, Below w.heap.size w W → Calls Tryd.prog 36 #[.agg c.toArray] W fun e w' => e = .returned (.tuple #[.int .i64 (fsum (lvs x) : Int), .bool (stp9 (lvs x))]) ∧ Below W.heap.size W w') :=
      Lib.hid (fun x hx c hxc W hb => rfront_any m (by omega) x (by obtain ⟨i, hi⟩ := List.getElem?_of_mem hx; have := dcnt_at hi; omega) (drt_at hrl hx) (dtz_at hz.2 hx) c W (hxc.bel hb))
    have hlen := len_dcntL l
    have hbd : fsum (lvsL l) ≤ 90000 * 1048576 := Nat.le_trans (fsum_le _ (lvsL_sz l hz.2)) (Nat.mul_le_mul_right _ (by have := lvsL_len l; omega))
    obtain ⟨N, hN⟩ : ∃ N, N = l.length := ⟨_, rfl⟩
    rw [← hN] at hlen ⊢
    have HN := Lib.hid hN
    obtain ⟨Z, hZ⟩ : ∃ Z, Z = w.alloc (.cells #[.int .i64 k, .int .i64 n, .string t, .slice a N cap] 24) := ⟨_, rfl⟩
    have hbW : Below w.heap.size w Z := by rw [hZ]; exact below1 _ _
    have HB0 : Hid (Below Z.heap.size Z (w.alloc (.cells #[.int .i64 k, .int .i64 n, .string t, .slice a N cap] 24))) := Lib.hid (by rw [← hZ]; exact Below.refl _ _)
    have HC := Lib.hid (fun W (hb : Below Z.heap.size Z W) => dc_cells (by rw [hZ] at hb; exact hb))
    have UP := Lib.hid (fun W (h : Below Z.heap.size Z W) => hbW.trans (h.mono hbW.size))
    obtain ⟨d0, d1, d2, d3⟩ := HC.out _ HB0.out
    have hln : N ≤ 1048576 := by omega
    have HR := Lib.hid hr
    have HCT : Hid (∀ W, Calls Tryd.prog 35 #[.string t] W fun e w' => e = .returned (.int .i64 (ct t 0 : Int)) ∧ Below W.heap.size W w') := Lib.hid (fun W => (rcount_any t W (by unfold maxLen; omega)).mono fun e w' ⟨h1, n, h2⟩ => ⟨h1, h2 ▸ Below.ofDrewN _ _⟩)
    clear hN hl hc hZ hbW hlen hn hm hz hrl hr
    by_cases h1 : k = 1
    · subst h1
      clear HK HI
      go_enter Tryd.func36, Tryd.ntmps36
      go_wp2_with fail
      refine (HCT.out _).mono ?_
      rintro e w1 ⟨rfl, hb1⟩
      have HB1 := Lib.hid (HB0.out.trans (hb1.mono HB0.out.size))
      clear hb1
      go_wp2_with fail
      go_ret2
      exact ⟨ret_ib9 fs_1.1.symm fs_1.2.symm, UP.out _ HB1.out⟩
    by_cases h2 : k = 2
    · subst h2
      clear HK HI HCT h1
      go_enter Tryd.func36, Tryd.ntmps36
      go_wp2_with fail
      go_ret2
      exact ⟨ret_ib9 (a := 0) (fs_2 rfl (by decide)).1.symm (fs_2 rfl (by decide)).2.symm, UP.out _ HB0.out⟩
    by_cases h3 : k = 3
    · subst h3
      clear HK HI HCT h1 h2
      go_enter Tryd.func36, Tryd.ntmps36
      go_wp2_with fail
      go_ret2
      exact ⟨ret_ib9 (a := 0) (fs_2 rfl (by decide)).1.symm (fs_2 rfl (by decide)).2.symm, UP.out _ HB0.out⟩
    by_cases h4 : k = 4
    · subst h4
      clear HK HI HCT h1 h2 h3
      go_enter Tryd.func36, Tryd.ntmps36
      go_wp2_with fail
      go_ret2
      exact ⟨ret_ib9 (a := 0) (fs_2 rfl (by decide)).1.symm (fs_2 rfl (by decide)).2.symm, UP.out _ HB0.out⟩
    rw [lvs_other (lfk_not h1 h2 h3 h4)]
    have f1 : (k == 1) = false := by simp [h1]
    have f2 : (k == 2) = false := by simp [h2]
    have f3 : (k == 3) = false := by simp [h3]
    have f4 : (k == 4) = false := by simp [h4]
    have HBD := Lib.hid hbd
    clear h1 h2 h3 h4 HCT hbd
    go_enter Tryd.func36, Tryd.ntmps36
    go_wp2_with fail
    go_loopg [4, 5] N (fun gn acc i wr => ∃ (q S : Nat), gn = N - q ∧ q ≤ N ∧ i = .int .i64 (q : Int) ∧ acc = .int .i64 (S : Int) ∧ Hid (fsum (lvsL l) = S + fsum (lvsL (l.drop q)) ∧ stp9 (lvsL l) = stp9 (lvsL (l.drop q))) ∧ Hid (Below Z.heap.size Z wr))
    case atStart => exact ⟨0, 0, rfl, Nat.zero_le _, rfl, rfl, Lib.hid (by rw [List.drop_zero]; exact ⟨by omega, rfl⟩), HB0⟩
    case round =>
      obtain ⟨q, S, hgn, hq, rfl, rfl, HS, HB⟩ := hrel
      obtain ⟨d0, d1, d2, d3⟩ := HC.out _ HB.out
      have HBw : Hid (Below w.heap.size w wr) := Lib.hid (UP.out _ HB.out)
      by_cases hlt : q < N
      · obtain ⟨x, hx⟩ : ∃ x, l[q]? = some x := ⟨_, List.getElem?_eq_getElem (by rw [← HN.out]; exact hlt)⟩
        obtain ⟨g, o, k', n', t', lv', rfl, hxc, hce⟩ := HK.out q x hx
        obtain ⟨e0, e1, e2, e3⟩ := hce wr HBw.out
        have HI1 := Lib.hid (HI.out x (List.mem_of_getElem? hx) _ hxc wr HBw.out)
        have HK2 : Hid (fsum (lvsL l) = S + (fsum (lvs x) + if stp9 (lvs x) = true then 0 else fsum (lvsL (l.drop (q + 1)))) ∧ stp9 (lvsL l) = (stp9 (lvs x) || stp9 (lvsL (l.drop (q + 1))))) := Lib.hid (by rw [HS.out.1, HS.out.2, lvsL_drop hx, fsum_app, stp9_app]; exact ⟨rfl, rfl⟩)
        obtain ⟨X, hX⟩ : ∃ X, X = fsum (lvs x) := ⟨_, rfl⟩
        obtain ⟨Y, hY⟩ : ∃ Y, Y = stp9 (lvs x) := ⟨_, rfl⟩
        rw [← hX, ← hY] at HI1 HK2
        have hsz : S + X ≤ 90000 * 1048576 := by
          have h1 := HBD.out
          rw [HK2.out.1] at h1
          omega
        have qn : (q : Int) < (N : Int) := by omega
        clear hce hx hX hY hxc HS
        go_wp2_with fail
        refine HI1.out.mono ?_
        rintro e w1 ⟨rfl, hb1⟩
        have HB1 := Lib.hid (HB.out.trans (hb1.mono HB.out.size))
        clear hb1 HI1
        cases Y
        · have HK3 : Hid (fsum (lvsL l) = (S + X) + fsum (lvsL (l.drop (q + 1))) ∧ stp9 (lvsL l) = stp9 (lvsL (l.drop (q + 1)))) := Lib.hid (by
            have := HK2.out
            simp only [Bool.false_or] at this
            exact ⟨by rw [this.1, if_neg (by decide)]; omega, this.2⟩)
          clear HK2
          go_wp2_with fail
          go_roundg (N - (q + 1))
          case measure => omega
          case rel => exact ⟨q + 1, S + X, rfl, hlt, by go_num, by go_num, HK3, HB1⟩
        · have HK3 : Hid (S + X = fsum (lvsL l) ∧ true = stp9 (lvsL l)) := Lib.hid (by
            have := HK2.out
            simp only [Bool.true_or] at this
            exact ⟨by rw [this.1]; simp, this.2.symm⟩)
          clear HK2
          go_wp2_with fail
          go_ret2
          exact ⟨by rw [← HK3.out.1, ← HK3.out.2]; simp, UP.out _ HB1.out⟩
      · obtain rfl : q = N := by omega
        have HF : Hid (S = fsum (lvsL l) ∧ false = stp9 (lvsL l)) := Lib.hid (by have := HS.out; rw [List.drop_eq_nil_of_le (by rw [HN.out]; exact Nat.le_refl _)] at this; exact ⟨this.1.symm, this.2.symm⟩)
        go_wp2_with fail
        go_ret2
        exact ⟨ret_ib9 HF.out.1 HF.out.2, HBw.out⟩
end Go.Proofs.YtbjgoigdhijbgaaDoor
