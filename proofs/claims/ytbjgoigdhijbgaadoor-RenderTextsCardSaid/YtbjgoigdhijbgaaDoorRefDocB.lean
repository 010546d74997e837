/-
  THE DOCUMENT's deep and right of documents.
-/
import Derived.Test.YtbjgoigdhijbgaaDoorRefDocA
set_option linter.all false
namespace Go.Proofs.YtbjgoigdhijbgaaDoor
open Go.RowKit Go.PlainAid

set_option maxRecDepth 100000 in
set_option maxHeartbeats 4000000 in
/-- How deep: no deeper than it has parts. -/
theorem rddeep_any : ∀ (m : Nat), m ≤ 1048576 → ∀ (x : Dc), dcnt x ≤ m → ∀ (c : List Value) (w : World) (M : Int), m + 1 ≤ M → M ≤ 2097152 → DcAt w c x →
    Calls Tryd.prog 31 #[.agg c.toArray, .int .i64 M] w fun e w' => (∃ s : Nat, e = .returned (.int .i64 (s : Int)) ∧ s ≤ m) ∧ Below w.heap.size w w'
  | 0, _, n, hn, _, _, _, _, _, _ => by have := dcnt_pos n; omega
  | m + 1, hm, .mk k n t l, hn, c, w, M, hM, hM2, h => by
    obtain ⟨lv, cs, rfl, hl, hc⟩ := h.inv
    clear h
    simp only [dcnt] at hn
    have hl0 := hl
    obtain ⟨a, cap, rfl, -⟩ := hl0
    have HK := Lib.hid (kidsD hl hc)
    have HI : Hid (∀ x ∈ l, ∀ c, DcAt w c x → ∀ W, Below w.heap.size w W → Calls Tryd.prog 31 #[.agg c.toArray, .int .i64 (M - 1)] W fun e w' => (∃ s : Nat, e = .returned (.int .i64 (s : Int)) ∧ s ≤ m) ∧ Below W.heap.size W w') :=
      Lib.hid (fun x hx c hxc W hb => rddeep_any m (by omega) x (by obtain ⟨i, hi⟩ := List.getElem?_of_mem hx; have := dcnt_at hi; omega) c W (M - 1) (by omega) (by omega) (hxc.bel hb))
    have hlen := len_dcntL l
    obtain ⟨N, hN⟩ : ∃ N, N = l.length := ⟨_, rfl⟩
    rw [← hN] at hlen ⊢
    have HN := Lib.hid hN
    obtain ⟨Z, hZ⟩ : ∃ Z, Z = w.alloc (.cells #[.int .i64 k, .int .i64 n, .string t, .slice a N cap] 24) := ⟨_, rfl⟩
    have hbW : Below w.heap.size w Z := by rw [hZ]; exact below1 _ _
    have HB0 : Hid (Below Z.heap.size Z (w.alloc (.cells #[.int .i64 k, .int .i64 n, .string t, .slice a N cap] 24))) := Lib.hid (by rw [← hZ]; exact Below.refl _ _)
    have HC := Lib.hid (fun W (hb : Below Z.heap.size Z W) => dc_cells (by rw [hZ] at hb; exact hb))
    have UP := Lib.hid (fun W (h : Below Z.heap.size Z W) => hbW.trans (h.mono hbW.size))
    have hln : N ≤ 1048576 := by omega
    have hM0 : (0 : Int) < M := by omega
    clear hN hl hc hZ hbW hlen hn
    go_enter Tryd.func31, Tryd.ntmps31
    go_wp2_with fail
    go_loopg [5, 6] N (fun gn z i wr => ∃ (q s : Nat), gn = N - q ∧ q ≤ N ∧ i = .int .i64 (q : Int) ∧ z = .int .i64 (s : Int) ∧ s ≤ m ∧ Hid (Below Z.heap.size Z wr))
    case atStart => exact ⟨0, 0, rfl, Nat.zero_le _, rfl, rfl, Nat.zero_le _, HB0⟩
    case round =>
      obtain ⟨q, s, hgn, hq, rfl, rfl, hs, HB⟩ := hrel
      obtain ⟨d0, d1, d2, d3⟩ := HC.out _ HB.out
      have HBw : Hid (Below w.heap.size w wr) := Lib.hid (UP.out _ HB.out)
      by_cases hlt : q < N
      · obtain ⟨x, hx⟩ : ∃ x, l[q]? = some x := ⟨_, List.getElem?_eq_getElem (by rw [← HN.out]; exact hlt)⟩
        obtain ⟨g, o, k', n', t', lv', rfl, hxc, hce⟩ := HK.out q x hx
        obtain ⟨e0, e1, e2, e3⟩ := hce wr HBw.out
        have HI1 := Lib.hid (HI.out x (List.mem_of_getElem? hx) _ hxc wr HBw.out)
        have qn : (q : Int) < (N : Int) := by omega
        clear hce hx hxc
        go_wp2_with fail
        refine HI1.out.mono ?_
        rintro e w1 ⟨⟨y, rfl, hy⟩, hb1⟩
        have HB1 := Lib.hid (HB.out.trans (hb1.mono HB.out.size))
        clear hb1 HI1
        go_wp2_with fail
        · go_roundg (N - (q + 1))
          case measure => omega
          case rel => exact ⟨q + 1, y, rfl, hlt, by go_num, rfl, by omega, HB1⟩
        · go_roundg (N - (q + 1))
          case measure => omega
          case rel => exact ⟨q + 1, s, rfl, hlt, by go_num, rfl, by omega, HB1⟩
      · obtain rfl : q = N := by omega
        go_wp2_with fail
        go_ret
        exact ⟨⟨s + 1, by simp, by omega⟩, HBw.out⟩
end Go.Proofs.YtbjgoigdhijbgaaDoor
