/-
  THE DOCUMENT's Same of documents: of one and the same, laid twice.
-/
import Derived.Test.YtnmpapmjkihfcaaRefDocA
set_option linter.all false
namespace Go.Proofs.Ytnmpapmjkihfcaa
open Go.RowKit Go.PlainAid

/-- What a walk wants of two documents that it has laid into blocks of its own. -/
theorem two_cells {w W : World} {k n : Int} {t : ByteArray} {lv : Value} {k' n' : Int} {t' : ByteArray} {lv' : Value} (hb : Below ((w.alloc (.cells #[.int .i64 k, .int .i64 n, .string t, lv] 24)).alloc (.cells #[.int .i64 k', .int .i64 n', .string t', lv'] 24)).heap.size ((w.alloc (.cells #[.int .i64 k, .int .i64 n, .string t, lv] 24)).alloc (.cells #[.int .i64 k', .int .i64 n', .string t', lv'] 24)) W) :
    (W.cell? ⟨w.heap.size, 0, none⟩ = some (.int .i64 k) ∧ W.cell? ⟨w.heap.size, 1, none⟩ = some (.int .i64 n) ∧ W.cell? ⟨w.heap.size, 2, none⟩ = some (.string t) ∧ W.cell? ⟨w.heap.size, 3, none⟩ = some lv) ∧
    (W.cell? ⟨w.heap.size + 1, 0, none⟩ = some (.int .i64 k') ∧ W.cell? ⟨w.heap.size + 1, 1, none⟩ = some (.int .i64 n') ∧ W.cell? ⟨w.heap.size + 1, 2, none⟩ = some (.string t') ∧ W.cell? ⟨w.heap.size + 1, 3, none⟩ = some lv') := by
  have h : ∀ j, W.cell? ⟨w.heap.size, j, none⟩ = (#[.int .i64 k, .int .i64 n, .string t, lv] : Array Value)[j]? := fun j => by
    rw [hb.cell (p := ⟨w.heap.size, j, none⟩) (by show w.heap.size < ((w.alloc _).alloc _).heap.size; simp; omega)]
    rw [cell_of_row _ w.heap.size j _ 24 (0, 0) (by show ((w.heap.push _).push _)[w.heap.size]? = _; rw [Array.getElem?_push, if_neg (by simp), Array.getElem?_push, if_pos rfl])]
  have h2 : ∀ j, W.cell? ⟨w.heap.size + 1, j, none⟩ = (#[.int .i64 k', .int .i64 n', .string t', lv'] : Array Value)[j]? := fun j => by
    rw [hb.cell (p := ⟨w.heap.size + 1, j, none⟩) (by show w.heap.size + 1 < ((w.alloc _).alloc _).heap.size; simp)]
    rw [cell_of_row _ (w.heap.size + 1) j _ 24 (0, 0) (by show ((w.heap.push _).push _)[w.heap.size + 1]? = _; rw [Array.getElem?_push, if_pos (by simp)])]
  exact ⟨⟨h 0, h 1, h 2, h 3⟩, ⟨h2 0, h2 1, h2 2, h2 3⟩⟩
set_option maxRecDepth 100000 in
set_option maxHeartbeats 4000000 in
theorem rdsame_any : ∀ (m : Nat), m ≤ 1048576 → ∀ (x : Dc), dcnt x ≤ m → ∀ (c c' : List Value) (w : World), DcAt w c x → DcAt w c' x →
    Calls Try.prog 15 #[.agg c.toArray, .agg c'.toArray] w fun e w' => e = .returned (.bool true) ∧ Below w.heap.size w w'
  | 0, _, n, hn, _, _, _, _, _ => by have := dcnt_pos n; omega
  | m + 1, hm, .mk k n t l, hn, c, c', w, h, h' => by
    obtain ⟨lv, cs, rfl, hl, hc⟩ := h.inv
    obtain ⟨lv', cs', rfl, hl', hc'⟩ := h'.inv
    clear h h'
    simp only [dcnt] at hn
    have hl0 := hl
    have hl0' := hl'
    obtain ⟨a, cap, rfl, -⟩ := hl0
    obtain ⟨a', cap', rfl, -⟩ := hl0'
    have HK := Lib.hid (kidsD hl hc)
    have HK' := Lib.hid (kidsD hl' hc')
    have HI : Hid (∀ x ∈ l, ∀ c c', DcAt w c x → DcAt w c' x → ∀ W, Below w.heap.size w W → Calls Try.prog 15 #[.agg c.toArray, .agg c'.toArray] W fun e w' => e = .returned (.bool true) ∧ Below W.heap.size W w') :=
      Lib.hid (fun x hx c c' hxc hxc' W hb => rdsame_any m (by omega) x (by obtain ⟨i, hi⟩ := List.getElem?_of_mem hx; have := dcnt_at hi; omega) c c' W (hxc.bel hb) (hxc'.bel hb))
    have hlen := len_dcntL l
    obtain ⟨N, hN⟩ : ∃ N, N = l.length := ⟨_, rfl⟩
    rw [← hN] at hlen ⊢
    have HN := Lib.hid hN
    obtain ⟨Z, hZ⟩ : ∃ Z, Z = (w.alloc (.cells #[.int .i64 k, .int .i64 n, .string t, .slice a N cap] 24)).alloc (.cells #[.int .i64 k, .int .i64 n, .string t, .slice a' N cap'] 24) := ⟨_, rfl⟩
    have hbW : Below w.heap.size w Z := by rw [hZ]; exact (below1 _ _).alloc (by simp) _
    have HB0 : Hid (Below Z.heap.size Z ((w.alloc (.cells #[.int .i64 k, .int .i64 n, .string t, .slice a N cap] 24)).alloc (.cells #[.int .i64 k, .int .i64 n, .string t, .slice a' N cap'] 24))) := Lib.hid (by rw [← hZ]; exact Below.refl _ _)
    have HC := Lib.hid (fun W (hb : Below Z.heap.size Z W) => two_cells (by rw [hZ] at hb; exact hb))
    have UP := Lib.hid (fun W (h : Below Z.heap.size Z W) => hbW.trans (h.mono hbW.size))
    obtain ⟨⟨d0, d1, d2, d3⟩, ⟨e0, e1, e2, e3⟩⟩ := HC.out _ HB0.out
    have hln : N ≤ 1048576 := by omega
    have q1 : (k != k) = false := bne_self_eq_false _
    have q2 : (n != n) = false := bne_self_eq_false _
    have q3 : (t.toList != t.toList) = false := bne_self_eq_false _
    have q4 : ((N : Int) != (N : Int)) = false := bne_self_eq_false _
    clear hN hl hc hl' hc' hZ hbW hlen hn hm
    go_enter Try.func15, Try.ntmps15
    go_wp2_with fail
    go_loopg [5] N (fun gn i wr => ∃ (q : Nat), gn = N - q ∧ q ≤ N ∧ i = .int .i64 (q : Int) ∧ Hid (Below Z.heap.size Z wr))
    case atStart => exact ⟨0, rfl, Nat.zero_le _, rfl, HB0⟩
    case round =>
      obtain ⟨q, hgn, hq, rfl, HB⟩ := hrel
      clear d0 d1 d2 d3 e0 e1 e2 e3
      obtain ⟨⟨d0, d1, d2, d3⟩, ⟨e0, e1, e2, e3⟩⟩ := HC.out _ HB.out
      by_cases hlt : q < N
      · obtain ⟨x, hx⟩ : ∃ x, l[q]? = some x := ⟨_, List.getElem?_eq_getElem (by rw [← HN.out]; exact hlt)⟩
        obtain ⟨g, o, k1, n1, t1, lv1, rfl, hxc, hce⟩ := HK.out q x hx
        obtain ⟨g2, o2, k2, n2, t2, lv2, rfl, hxc2, hce2⟩ := HK'.out q x hx
        have C := Lib.hid (fun W (hb : Below Z.heap.size Z W) => (⟨(HC.out _ hb).1.2.2.2, (HC.out _ hb).2.2.2.2, hce W (UP.out _ hb), hce2 W (UP.out _ hb), Lib.hid hb⟩ :
          W.cell? ⟨w.heap.size, 3, none⟩ = some (.slice (some ⟨g, o, none⟩) N cap) ∧ W.cell? ⟨w.heap.size + 1, 3, none⟩ = some (.slice (some ⟨g2, o2, none⟩) N cap') ∧
          (W.cell? ⟨g, o + q * 4, none⟩ = some (.int .i64 k1) ∧ W.cell? ⟨g, o + q * 4 + 1, none⟩ = some (.int .i64 n1) ∧ W.cell? ⟨g, o + q * 4 + 2, none⟩ = some (.string t1) ∧ W.cell? ⟨g, o + q * 4 + 3, none⟩ = some lv1) ∧
          (W.cell? ⟨g2, o2 + q * 4, none⟩ = some (.int .i64 k2) ∧ W.cell? ⟨g2, o2 + q * 4 + 1, none⟩ = some (.int .i64 n2) ∧ W.cell? ⟨g2, o2 + q * 4 + 2, none⟩ = some (.string t2) ∧ W.cell? ⟨g2, o2 + q * 4 + 3, none⟩ = some lv2) ∧ Hid (Below Z.heap.size Z W)))
        have HIW : Hid (∀ W, Below Z.heap.size Z W → Calls Try.prog 15 #[.agg #[.int .i64 k1, .int .i64 n1, .string t1, lv1], .agg #[.int .i64 k2, .int .i64 n2, .string t2, lv2]] W fun e w' => e = .returned (.bool true) ∧ Below Z.heap.size Z w') :=
          Lib.hid (fun W hb => (HI.out x (List.mem_of_getElem? hx) _ _ hxc hxc2 W (UP.out _ hb)).mono fun e w' ⟨h1, h2⟩ => ⟨h1, hb.trans (h2.mono hb.size)⟩)
        have qn : (q : Int) < (N : Int) := by omega
        have HBd : Hid (Below Z.heap.size Z wr.drew) := Lib.hid (Below.drew HB.out)
        clear hce hce2 hx hxc hxc2
        go_wp2_with fail
        go_region_held3 (fun w' => w'.cell? ⟨w.heap.size, 3, none⟩ = some (.slice (some ⟨g, o, none⟩) N cap) ∧ w'.cell? ⟨w.heap.size + 1, 3, none⟩ = some (.slice (some ⟨g2, o2, none⟩) N cap') ∧
          (w'.cell? ⟨g, o + q * 4, none⟩ = some (.int .i64 k1) ∧ w'.cell? ⟨g, o + q * 4 + 1, none⟩ = some (.int .i64 n1) ∧ w'.cell? ⟨g, o + q * 4 + 2, none⟩ = some (.string t1) ∧ w'.cell? ⟨g, o + q * 4 + 3, none⟩ = some lv1) ∧
          (w'.cell? ⟨g2, o2 + q * 4, none⟩ = some (.int .i64 k2) ∧ w'.cell? ⟨g2, o2 + q * 4 + 1, none⟩ = some (.int .i64 n2) ∧ w'.cell? ⟨g2, o2 + q * 4 + 2, none⟩ = some (.string t2) ∧ w'.cell? ⟨g2, o2 + q * 4 + 3, none⟩ = some lv2) ∧ Hid (Below Z.heap.size Z w')) (first | exact C.out _ HBd.out | exact C.out _ ht1) (first
          | (go_at_call 15; refine (HIW.out _ HBd.out).mono ?_; rintro e w5 ⟨rfl, ht1⟩))
        have HB5 := Lib.hid ht1
        clear ht1
        go_wp2_with fail
        go_roundg (N - (q + 1))
        case measure => omega
        case rel => exact ⟨q + 1, rfl, hlt, by go_num, HB5⟩
      · obtain rfl : q = N := by omega
        go_wp2_with fail
        go_ret
        exact ⟨rfl, UP.out _ HB.out⟩
end Go.Proofs.Ytnmpapmjkihfcaa
