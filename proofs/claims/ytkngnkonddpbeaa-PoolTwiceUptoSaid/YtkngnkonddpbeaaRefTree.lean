/-
  THE DOCUMENT's Count, Forced, like, Notes, Lits.
-/
import Derived.Test.YtkngnkonddpbeaaTreeMath
import Derived.Test.YtkngnkonddpbeaaSignWalks
import Derived.Test.YtkngnkonddpbeaaScanDefs
import Derived.Deep.LoopGhost
import Derived.Deep.QuietTactic
import Derived.Deep.RegionHeld3
import Derived.BigQuiet
import Derived.BigRegion
namespace Go.Proofs.Ytkngnkonddpbeaa
open Go.RowKit Go.PlainAid

/-- What a walk wants of a node that it has laid into a block of its own. -/
theorem nd_cells {w W : World} {k : Int} {t : ByteArray} {lv nv tv : Value} {br bl : Bool} (hb : Below (w.alloc (.cells #[.int .i64 k, .string t, lv, .bool br, .bool bl, nv, tv] 32)).heap.size (w.alloc (.cells #[.int .i64 k, .string t, lv, .bool br, .bool bl, nv, tv] 32)) W) :
    W.cell? ⟨w.heap.size, 0, none⟩ = some (.int .i64 k) ∧ W.cell? ⟨w.heap.size, 1, none⟩ = some (.string t) ∧ W.cell? ⟨w.heap.size, 2, none⟩ = some lv ∧ W.cell? ⟨w.heap.size, 3, none⟩ = some (.bool br) ∧ W.cell? ⟨w.heap.size, 4, none⟩ = some (.bool bl) ∧ W.cell? ⟨w.heap.size, 5, none⟩ = some nv ∧ W.cell? ⟨w.heap.size, 6, none⟩ = some tv := by
  have h : ∀ j, W.cell? ⟨w.heap.size, j, none⟩ = (#[.int .i64 k, .string t, lv, .bool br, .bool bl, nv, tv] : Array Value)[j]? := fun j => by
    rw [hb.cell (p := ⟨w.heap.size, j, none⟩) (by show w.heap.size < (w.alloc _).heap.size; simp)]
    rw [cell_of_row (w.alloc _) w.heap.size j _ 32 (0, 0) (by show (w.heap.push _)[w.heap.size]? = _; rw [Array.getElem?_push, if_pos rfl])]
  exact ⟨h 0, h 1, h 2, h 3, h 4, h 5, h 6⟩
set_option maxRecDepth 100000 in
set_option maxHeartbeats 4000000 in
theorem rtcount_any : ∀ (m : Nat), m ≤ 1048576 → ∀ (n : Nd), cnt n ≤ m → ∀ (c : List Value) (w : World), NdAt w c n →
    Calls Try.prog 9 #[.agg c.toArray] w fun e w' => e = .returned (.int .i64 (cnt n : Int)) ∧ Below w.heap.size w w'
  | 0, _, n, hn, _, _, _ => by have := cnt_pos n; omega
  | m + 1, hm, .mk k t l br bl no ta, hn, c, w, h => by
    obtain ⟨lv, nv, tv, cs, rfl, -, -, hl, hc⟩ := h.inv
    clear h
    simp only [cnt] at hn ⊢
    have HI : Hid (∀ i x, l[i]? = some x → ∀ W, Below w.heap.size w W → Calls Try.prog 9 #[.agg (cs i).toArray] W fun e w' => e = .returned (.int .i64 (cnt x : Int)) ∧ Below W.heap.size W w') :=
      Lib.hid (fun i x hx W hb => rtcount_any m (by omega) x (by have := cnt_at hx; omega) (cs i) W ((hc i x hx).bel hb))
    have HS : Hid (∀ i x, l[i]? = some x → ∃ k t lv br bl nv tv, cs i = [.int .i64 k, .string t, lv, .bool br, .bool bl, nv, tv]) := Lib.hid (fun i x hx => by
      cases x with
      | mk => obtain ⟨lv, nv, tv, _, h, -⟩ := (hc i _ hx).inv; exact ⟨_, _, _, _, _, _, _, h⟩)
    obtain ⟨a, cap, rfl, hr⟩ := hl
    have HR := Lib.hid hr
    have hlen := len_cntL l
    obtain ⟨N, hN⟩ : ∃ N, N = l.length := ⟨_, rfl⟩
    rw [← hN] at hlen HR ⊢
    have HN := Lib.hid hN
    obtain ⟨R, hR⟩ : ∃ R, R = cntL l := ⟨_, rfl⟩
    rw [← hR] at hn hlen ⊢
    have HRR := Lib.hid hR
    clear hR hN hr hc
    have HB0 : Hid (Below (w.alloc (.cells #[.int .i64 k, .string t, .slice a N cap, .bool br, .bool bl, nv, tv] 32)).heap.size (w.alloc (.cells #[.int .i64 k, .string t, .slice a N cap, .bool br, .bool bl, nv, tv] 32)) (w.alloc (.cells #[.int .i64 k, .string t, .slice a N cap, .bool br, .bool bl, nv, tv] 32))) := Lib.hid (Below.refl _ _)
    go_enter Try.func9, Try.ntmps9
    go_wp2_with fail
    go_loopg [3, 4] N (fun gn z i wr => ∃ (q s : Nat), gn = N - q ∧ q ≤ N ∧ i = .int .i64 (q : Int) ∧ z = .int .i64 (s : Int) ∧ s ≤ 1048576 ∧ Hid (s + cntL (l.drop q) = 1 + R) ∧
      Hid (Below (w.alloc (.cells #[.int .i64 k, .string t, .slice a N cap, .bool br, .bool bl, nv, tv] 32)).heap.size (w.alloc (.cells #[.int .i64 k, .string t, .slice a N cap, .bool br, .bool bl, nv, tv] 32)) wr))
    case atStart => exact ⟨0, 1, rfl, Nat.zero_le _, rfl, rfl, by omega, Lib.hid (by rw [List.drop_zero, HRR.out]), HB0⟩
    case round =>
      obtain ⟨q, s, hgn, hq, rfl, rfl, hs, HK, HB⟩ := hrel
      obtain ⟨d0, d1, d2, d3, d4, d5, d6⟩ := nd_cells HB.out
      have HBw : Hid (Below w.heap.size w wr) := Lib.hid ((below1 w _).trans (HB.out.mono (by simp)))
      by_cases hlt : q < N
      · obtain ⟨x, hx⟩ : ∃ x, l[q]? = some x := ⟨_, List.getElem?_eq_getElem (by rw [← HN.out]; exact hlt)⟩
        obtain ⟨g, o, rfl, hg, hcell⟩ := HR.out (by omega)
        obtain ⟨k', t', lv', br', bl', nv', tv', hcs⟩ := HS.out q x hx
        have HI1 := HI.out q x hx wr HBw.out
        rw [hcs] at HI1
        have hce := hcell q hlt
        rw [hcs] at hce
        have e0 := (HBw.out.cell (p := ⟨g, o + q * 7, none⟩) hg).trans (hce 0 _ rfl)
        have e1 := (HBw.out.cell (p := ⟨g, o + q * 7 + 1, none⟩) hg).trans (hce 1 _ rfl)
        have e2 := (HBw.out.cell (p := ⟨g, o + q * 7 + 2, none⟩) hg).trans (hce 2 _ rfl)
        have e3 := (HBw.out.cell (p := ⟨g, o + q * 7 + 3, none⟩) hg).trans (hce 3 _ rfl)
        have e4 := (HBw.out.cell (p := ⟨g, o + q * 7 + 4, none⟩) hg).trans (hce 4 _ rfl)
        have e5 := (HBw.out.cell (p := ⟨g, o + q * 7 + 5, none⟩) hg).trans (hce 5 _ rfl)
        have e6 := (HBw.out.cell (p := ⟨g, o + q * 7 + 6, none⟩) hg).trans (hce 6 _ rfl)
        have hk := HK.out
        rw [cntL_drop hx] at hk
        have qn : (q : Int) < (N : Int) := by omega
        have HI1 := Lib.hid HI1
        have HK2 : Hid (s + cnt x + cntL (l.drop (q + 1)) = 1 + R) := Lib.hid (by omega)
        obtain ⟨y, hy⟩ : ∃ y, y = cnt x := ⟨_, rfl⟩
        rw [← hy] at HI1 HK2 hk
        have sy : s + y ≤ 1048576 := by omega
        clear hcell hce hcs hx hk hy
        go_wp2_with fail
        refine HI1.out.mono ?_
        rintro e w1 ⟨rfl, hb1⟩
        have HB1 := Lib.hid (HB.out.trans (hb1.mono HB.out.size))
        clear hb1
        go_wp2_with fail
        go_roundg (N - (q + 1))
        case measure => omega
        case rel => exact ⟨q + 1, s + y, rfl, hlt, by go_num, by go_num, sy, HK2, HB1⟩
      · obtain rfl : q = N := by omega
        have HF : Hid (s = 1 + R) := Lib.hid (by have := HK.out; rw [List.drop_eq_nil_of_le (by rw [HN.out]; exact Nat.le_refl _)] at this; simpa [cntL] using this)
        go_wp2_with fail
        go_ret
        exact ⟨retN HF.out, HBw.out⟩
end Go.Proofs.Ytkngnkonddpbeaa
