/-
  THE DOCUMENT's Count, Forced and deep of documents.
-/
import Derived.Test.YtbjgoigdhijbgaaDoorDocMath
import Derived.Test.YtbjgoigdhijbgaaDoorScanDefs
import Derived.Deep.LoopGhost
import Derived.Deep.QuietTactic
import Derived.Deep.RegionHeld3
import Derived.BigQuiet
import Derived.BigRegion
set_option linter.all false
namespace Go.Proofs.YtbjgoigdhijbgaaDoor
open Go.RowKit Go.PlainAid

theorem retB {b c : Bool} (h : b = c) : Ending.returned (.bool b) = .returned (.bool c) := by rw [h]
theorem DcIn.bel {w W : World} (hb : Below w.heap.size w W) {c : List Value} {n : Dc} (h : DcAt w c n) : DcAt W c n :=
  (h.keep (keeps_below hb)).wide (fun _ hg _ => hg)
theorem DrIn.bel {w W : World} (hb : Below w.heap.size w W) {v : Value} {l : List Dc} (h : DrIn w (fun g => g < w.heap.size) v l) : DrIn W (fun g => g < W.heap.size) v l :=
  (h.keep (keeps_below hb)).wide (fun _ hg _ => hg)
/-- What a walk wants of a document that it has laid into a block of its own. -/
theorem dc_cells {w W : World} {k n : Int} {t : ByteArray} {lv : Value} (hb : Below (w.alloc (.cells #[.int .i64 k, .int .i64 n, .string t, lv] 24)).heap.size (w.alloc (.cells #[.int .i64 k, .int .i64 n, .string t, lv] 24)) W) :
    W.cell? ⟨w.heap.size, 0, none⟩ = some (.int .i64 k) ∧ W.cell? ⟨w.heap.size, 1, none⟩ = some (.int .i64 n) ∧ W.cell? ⟨w.heap.size, 2, none⟩ = some (.string t) ∧ W.cell? ⟨w.heap.size, 3, none⟩ = some lv := by
  have h : ∀ j, W.cell? ⟨w.heap.size, j, none⟩ = (#[.int .i64 k, .int .i64 n, .string t, lv] : Array Value)[j]? := fun j => by
    rw [hb.cell (p := ⟨w.heap.size, j, none⟩) (by show w.heap.size < (w.alloc _).heap.size; simp)]
    rw [cell_of_row (w.alloc _) w.heap.size j _ 24 (0, 0) (by show (w.heap.push _)[w.heap.size]? = _; rw [Array.getElem?_push, if_pos rfl])]
  exact ⟨h 0, h 1, h 2, h 3⟩
/-- A document's part: its cells, wherever one has got. -/
theorem kidsD {w : World} {P : Nat → Prop} {l : List Dc} {cs : Nat → List Value} {a : Option Addr} {cap : Nat} (hl : DsIn w P (.slice a l.length cap) l.length cs) (hc : ∀ i x, l[i]? = some x → DcIn w P (cs i) x) (i : Nat) (x : Dc) (hx : l[i]? = some x) :
    ∃ g o k n t lv, a = some ⟨g, o, none⟩ ∧ DcIn w P [.int .i64 k, .int .i64 n, .string t, lv] x ∧ ∀ W, Below w.heap.size w W →
      W.cell? ⟨g, o + i * 4, none⟩ = some (.int .i64 k) ∧ W.cell? ⟨g, o + i * 4 + 1, none⟩ = some (.int .i64 n) ∧ W.cell? ⟨g, o + i * 4 + 2, none⟩ = some (.string t) ∧ W.cell? ⟨g, o + i * 4 + 3, none⟩ = some lv := by
  have hi : i < l.length := (List.getElem?_eq_some_iff.1 hx).1
  obtain ⟨a', cap', e, -, -, hr⟩ := hl
  simp only [Value.slice.injEq] at e
  obtain ⟨rfl, -, rfl⟩ := e
  obtain ⟨g, o, rfl, -, hg, hcell⟩ := hr (by omega)
  have hn := hc i x hx
  cases x with
  | mk k n t l' =>
    obtain ⟨lv, cs', h, -⟩ := hn.inv
    have hce := hcell i hi
    rw [h] at hn hce
    exact ⟨g, o, k, n, t, lv, rfl, hn, fun W hb => ⟨(hb.cell (p := ⟨g, o + i * 4, none⟩) hg).trans (hce 0 _ rfl), (hb.cell (p := ⟨g, o + i * 4 + 1, none⟩) hg).trans (hce 1 _ rfl), (hb.cell (p := ⟨g, o + i * 4 + 2, none⟩) hg).trans (hce 2 _ rfl), (hb.cell (p := ⟨g, o + i * 4 + 3, none⟩) hg).trans (hce 3 _ rfl)⟩⟩
set_option maxRecDepth 100000 in
set_option maxHeartbeats 4000000 in
theorem rdcount_any : ∀ (m : Nat), m ≤ 1048576 → ∀ (x : Dc), dcnt x ≤ m → ∀ (c : List Value) (w : World), DcAt w c x →
    Calls Tryd.prog 33 #[.agg c.toArray] w fun e w' => e = .returned (.int .i64 (dcnt x : Int)) ∧ Below w.heap.size w w'
  | 0, _, n, hn, _, _, _ => by have := dcnt_pos n; omega
  | m + 1, hm, .mk k n t l, hn, c, w, h => by
    obtain ⟨lv, cs, rfl, hl, hc⟩ := h.inv
    clear h
    simp only [dcnt] at hn ⊢
    have hl0 := hl
    obtain ⟨a, cap, rfl, -⟩ := hl0
    have HK := Lib.hid (kidsD hl hc)
    have HI : Hid (∀ x ∈ l, ∀ c, DcAt w c x → ∀ W, Below w.heap.size w W → Calls Tryd.prog 33 #[.agg c.toArray] W fun e w' => e = .returned (.int .i64 (dcnt x : Int)) ∧ Below W.heap.size W w') :=
      Lib.hid (fun x hx c hxc W hb => rdcount_any m (by omega) x (by obtain ⟨i, hi⟩ := List.getElem?_of_mem hx; have := dcnt_at hi; omega) c W (hxc.bel hb))
    have hlen := len_dcntL l
    obtain ⟨N, hN⟩ : ∃ N, N = l.length := ⟨_, rfl⟩
    rw [← hN] at hlen ⊢
    have HN := Lib.hid hN
    obtain ⟨R, hR⟩ : ∃ R, R = dcntL l := ⟨_, rfl⟩
    rw [← hR] at hn hlen ⊢
    have HRR := Lib.hid hR
    clear hR hN hl hc
    have HB0 : Hid (Below (w.alloc (.cells #[.int .i64 k, .int .i64 n, .string t, .slice a N cap] 24)).heap.size (w.alloc (.cells #[.int .i64 k, .int .i64 n, .string t, .slice a N cap] 24)) (w.alloc (.cells #[.int .i64 k, .int .i64 n, .string t, .slice a N cap] 24))) := Lib.hid (Below.refl _ _)
    go_enter Tryd.func33, Tryd.ntmps33
    go_wp2_with fail
    go_loopg [3, 4] N (fun gn z i wr => ∃ (q s : Nat), gn = N - q ∧ q ≤ N ∧ i = .int .i64 (q : Int) ∧ z = .int .i64 (s : Int) ∧ s ≤ 1048576 ∧ Hid (s + dcntL (l.drop q) = 1 + R) ∧
      Hid (Below (w.alloc (.cells #[.int .i64 k, .int .i64 n, .string t, .slice a N cap] 24)).heap.size (w.alloc (.cells #[.int .i64 k, .int .i64 n, .string t, .slice a N cap] 24)) wr))
    case atStart => exact ⟨0, 1, rfl, Nat.zero_le _, rfl, rfl, by omega, Lib.hid (by rw [List.drop_zero, HRR.out]), HB0⟩
    case round =>
      obtain ⟨q, s, hgn, hq, rfl, rfl, hs, HS, HB⟩ := hrel
      obtain ⟨d0, d1, d2, d3⟩ := dc_cells HB.out
      have HBw : Hid (Below w.heap.size w wr) := Lib.hid ((below1 w _).trans (HB.out.mono (by simp)))
      by_cases hlt : q < N
      · obtain ⟨x, hx⟩ : ∃ x, l[q]? = some x := ⟨_, List.getElem?_eq_getElem (by rw [← HN.out]; exact hlt)⟩
        obtain ⟨g, o, k', n', t', lv', rfl, hxc, hce⟩ := HK.out q x hx
        obtain ⟨e0, e1, e2, e3⟩ := hce wr HBw.out
        have HI1 := Lib.hid (HI.out x (List.mem_of_getElem? hx) _ hxc wr HBw.out)
        have hk := HS.out
        rw [dcntL_drop hx] at hk
        have qn : (q : Int) < (N : Int) := by omega
        have HK2 : Hid (s + dcnt x + dcntL (l.drop (q + 1)) = 1 + R) := Lib.hid (by omega)
        obtain ⟨y, hy⟩ : ∃ y, y = dcnt x := ⟨_, rfl⟩
        rw [← hy] at HI1 HK2 hk
        have sy : s + y ≤ 1048576 := by omega
        clear hce hx hk hy hxc
        go_wp2_with fail
        refine HI1.out.mono ?_
        rintro e w1 ⟨rfl, hb1⟩
        have HB1 := Lib.hid (HB.out.trans (hb1.mono HB.out.size))
        clear hb1
        go_wp2_with fail
        go_roundg (N - (q + 1))
        case measure => omega
        case rel => exact ⟨q + 1, s + y, rfl, hlt, by go_num, by go_num, sy, HK2, HB1⟩
      · obtain rfl : q = N := by omega
        have HF : Hid (s = 1 + R) := Lib.hid (by have := HS.out; rw [List.drop_eq_nil_of_le (by rw [HN.out]; exact Nat.le_refl _)] at this; simpa [dcntL] using this)
        go_wp2_with fail
        go_ret
        exact ⟨retN HF.out, HBw.out⟩
set_option maxRecDepth 100000 in
set_option maxHeartbeats 4000000 in
theorem rdforced_any : ∀ (m : Nat), m ≤ 1048576 → ∀ (x : Dc), dcnt x ≤ m → ∀ (c : List Value) (w : World), DcAt w c x →
    Calls Tryd.prog 17 #[.agg c.toArray] w fun e w' => e = .returned (.bool (dfrc x)) ∧ Below w.heap.size w w'
  | 0, _, n, hn, _, _, _ => by have := dcnt_pos n; omega
  | m + 1, hm, .mk k n t l, hn, c, w, h => by
    obtain ⟨lv, cs, rfl, hl, hc⟩ := h.inv
    clear h
    simp only [dcnt] at hn
    simp only [dfrc, dfr]
    have hl0 := hl
    obtain ⟨a, cap, rfl, -⟩ := hl0
    have HK := Lib.hid (kidsD hl hc)
    have HI : Hid (∀ x ∈ l, ∀ c, DcAt w c x → ∀ W, Below w.heap.size w W → Calls Tryd.prog 17 #[.agg c.toArray] W fun e w' => e = .returned (.bool (dfrc x)) ∧ Below W.heap.size W w') :=
      Lib.hid (fun x hx c hxc W hb => rdforced_any m (by omega) x (by obtain ⟨i, hi⟩ := List.getElem?_of_mem hx; have := dcnt_at hi; omega) c W (hxc.bel hb))
    have hlen := len_dcntL l
    obtain ⟨N, hN⟩ : ∃ N, N = l.length := ⟨_, rfl⟩
    rw [← hN] at hlen ⊢
    have HN := Lib.hid hN
    obtain ⟨Z, hZ⟩ : ∃ Z, Z = w.alloc (.cells #[.int .i64 k, .int .i64 n, .string t, .slice a N cap] 24) := ⟨_, rfl⟩
    have hbW : Below w.heap.size w Z := by rw [hZ]; exact below1 _ _
    have HB0 : Hid (Below Z.heap.size Z (w.alloc (.cells #[.int .i64 k, .int .i64 n, .string t, .slice a N cap] 24))) := Lib.hid (by rw [← hZ]; exact Below.refl _ _)
    have HC := Lib.hid (fun W (hb : Below Z.heap.size Z W) => dc_cells (by rw [hZ] at hb; exact hb))
    have UP := Lib.hid (fun W (h : Below Z.heap.size Z W) => hbW.trans (h.mono hbW.size))
    obtain ⟨d0, d1, d2, d3⟩ := HC.out _ HB0.out
    have hln : N ≤ 1048576 := by omega
    clear hN hl hc hZ hbW hlen
    cases h4 : (k == 4)
    case true =>
      clear hn hm HK HI
      go_enter Tryd.func17, Tryd.ntmps17
      go_wp2_with fail
      go_ret
      exact ⟨by simp, UP.out _ HB0.out⟩
    case false =>
    cases h7 : (k == 7 && n == 1)
    case true =>
      clear hn hm HK HI
      obtain ⟨h8, h9⟩ : (k == 7) = true ∧ (n == 1) = true := by simpa using h7
      go_enter Tryd.func17, Tryd.ntmps17
      go_wp2_with fail
      go_ret
      exact ⟨by simp, UP.out _ HB0.out⟩
    case false =>
    obtain ⟨B, hB⟩ : ∃ B, B = dfrcL l := ⟨_, rfl⟩
    simp only [Bool.false_or]
    rw [← hB]
    have HBB := Lib.hid hB
    clear hB hn
    cases h8 : (k == 7)
    case false =>
      clear h7
      go_enter Tryd.func17, Tryd.ntmps17
      go_wp2_with fail
      go_loopg [3] N (fun gn i wr => ∃ (q : Nat), gn = N - q ∧ q ≤ N ∧ i = .int .i64 (q : Int) ∧ Hid (B = dfrcL (l.drop q)) ∧ Hid (Below Z.heap.size Z wr))
      case atStart => exact ⟨0, rfl, Nat.zero_le _, rfl, Lib.hid HBB.out, HB0⟩
      case round =>
        obtain ⟨q, hgn, hq, rfl, HS, HB⟩ := hrel
        obtain ⟨d0, d1, d2, d3⟩ := HC.out _ HB.out
        have HBw : Hid (Below w.heap.size w wr) := Lib.hid (UP.out _ HB.out)
        by_cases hlt : q < N
        · obtain ⟨x, hx⟩ : ∃ x, l[q]? = some x := ⟨_, List.getElem?_eq_getElem (by rw [← HN.out]; exact hlt)⟩
          obtain ⟨g, o, k', n', t', lv', rfl, hxc, hce⟩ := HK.out q x hx
          obtain ⟨e0, e1, e2, e3⟩ := hce wr HBw.out
          have HI1 := Lib.hid (HI.out x (List.mem_of_getElem? hx) _ hxc wr HBw.out)
          have HK2 : Hid (B = (dfrc x || dfrcL (l.drop (q + 1)))) := Lib.hid (by rw [HS.out, dfrcL_drop hx])
          have qn : (q : Int) < (N : Int) := by omega
          obtain ⟨y, hy⟩ : ∃ y, y = dfrc x := ⟨_, rfl⟩
          rw [← hy] at HI1 HK2
          clear hce hx hy hxc HS
          go_wp2_with fail
          refine HI1.out.mono ?_
          rintro e w1 ⟨rfl, hb1⟩
          have HB1 := Lib.hid (HB.out.trans (hb1.mono HB.out.size))
          clear hb1 HI1
          cases y
          · have HK3 : Hid (B = dfrcL (l.drop (q + 1))) := Lib.hid (by rw [HK2.out, Bool.false_or])
            go_wp2_with fail
            go_roundg (N - (q + 1))
            case measure => omega
            case rel => exact ⟨q + 1, rfl, hlt, by go_num, HK3, HB1⟩
          · have HK3 : Hid (true = B) := Lib.hid (by rw [HK2.out, Bool.true_or])
            go_wp2_with fail
            go_ret
            exact ⟨retB HK3.out, UP.out _ HB1.out⟩
        · obtain rfl : q = N := by omega
          have HF : Hid (false = B) := Lib.hid (by have := HS.out; rw [List.drop_eq_nil_of_le (by rw [HN.out]; exact Nat.le_refl _)] at this; rw [this]; rfl)
          go_wp2_with fail
          go_ret
          exact ⟨retB HF.out, HBw.out⟩
    case true =>
      have h9 : (n == 1) = false := by rw [h8, Bool.true_and] at h7; exact h7
      clear h7
      go_enter Tryd.func17, Tryd.ntmps17
      go_wp2_with fail
      go_loopg [3] N (fun gn i wr => ∃ (q : Nat), gn = N - q ∧ q ≤ N ∧ i = .int .i64 (q : Int) ∧ Hid (B = dfrcL (l.drop q)) ∧ Hid (Below Z.heap.size Z wr))
      case atStart => exact ⟨0, rfl, Nat.zero_le _, rfl, Lib.hid HBB.out, HB0⟩
      case round =>
        obtain ⟨q, hgn, hq, rfl, HS, HB⟩ := hrel
        obtain ⟨d0, d1, d2, d3⟩ := HC.out _ HB.out
        have HBw : Hid (Below w.heap.size w wr) := Lib.hid (UP.out _ HB.out)
        by_cases hlt : q < N
        · obtain ⟨x, hx⟩ : ∃ x, l[q]? = some x := ⟨_, List.getElem?_eq_getElem (by rw [← HN.out]; exact hlt)⟩
          obtain ⟨g, o, k', n', t', lv', rfl, hxc, hce⟩ := HK.out q x hx
          obtain ⟨e0, e1, e2, e3⟩ := hce wr HBw.out
          have HI1 := Lib.hid (HI.out x (List.mem_of_getElem? hx) _ hxc wr HBw.out)
          have HK2 : Hid (B = (dfrc x || dfrcL (l.drop (q + 1)))) := Lib.hid (by rw [HS.out, dfrcL_drop hx])
          have qn : (q : Int) < (N : Int) := by omega
          obtain ⟨y, hy⟩ : ∃ y, y = dfrc x := ⟨_, rfl⟩
          rw [← hy] at HI1 HK2
          clear hce hx hy hxc HS
          go_wp2_with fail
          refine HI1.out.mono ?_
          rintro e w1 ⟨rfl, hb1⟩
          have HB1 := Lib.hid (HB.out.trans (hb1.mono HB.out.size))
          clear hb1 HI1
          cases y
          · have HK3 : Hid (B = dfrcL (l.drop (q + 1))) := Lib.hid (by rw [HK2.out, Bool.false_or])
            go_wp2_with fail
            go_roundg (N - (q + 1))
            case measure => omega
            case rel => exact ⟨q + 1, rfl, hlt, by go_num, HK3, HB1⟩
          · have HK3 : Hid (true = B) := Lib.hid (by rw [HK2.out, Bool.true_or])
            go_wp2_with fail
            go_ret
            exact ⟨retB HK3.out, UP.out _ HB1.out⟩
        · obtain rfl : q = N := by omega
          have HF : Hid (false = B) := Lib.hid (by have := HS.out; rw [List.drop_eq_nil_of_le (by rw [HN.out]; exact Nat.le_refl _)] at this; rw [this]; rfl)
          go_wp2_with fail
          go_ret
          exact ⟨retB HF.out, HBw.out⟩
end Go.Proofs.YtbjgoigdhijbgaaDoor
