/-
  PoolAsks, over the pool's five calls.
-/
import Derived.Test.YtkngnkonddpbeaaPoolTold
import Derived.Test.YtkngnkonddpbeaaPoolTail
import Derived.Test.YtkngnkonddpbeaaTreeFewW
import Derived.Test.YtkngnkonddpbeaaNode
import Derived.Deep.RegionWith
import Derived.Deep.RegionHeld3
namespace Go.Proofs.Ytkngnkonddpbeaa
open Go.RowKit Go.PlainAid

theorem nd_below9 {W : World} {c : List Value} {n : Nd} (h : NdAt W c n) : NdIn W (fun k => k < W.heap.size) c n := by
  induction h with
  | mk k t l br bl no ta lv nv tv cs hn ht hl hc ih =>
    obtain ⟨a1, c1, e1, g1⟩ := hn
    obtain ⟨a2, c2, e2, g2⟩ := ht
    obtain ⟨a3, c3, e3, g3⟩ := hl
    exact .mk k t l br bl no ta lv nv tv cs ⟨a1, c1, e1, fun h0 => by obtain ⟨g, o, k1, k2, k3⟩ := g1 h0; exact ⟨g, o, k1, k2, k2, k3⟩⟩ ⟨a2, c2, e2, fun h0 => by obtain ⟨g, o, k1, k2, k3⟩ := g2 h0; exact ⟨g, o, k1, k2, k2, k3⟩⟩ ⟨a3, c3, e3, fun h0 => by obtain ⟨g, o, k1, k2, k3⟩ := g3 h0; exact ⟨g, o, k1, k2, k2, k3⟩⟩ ih
set_option maxRecDepth 100000 in
set_option maxHeartbeats 8000000 in
theorem poolAsks_walk {PA : World → (Nat → Prop) → (Nat → Prop) → Value → List Nd → Prop} (I : PoolI PA) (v : Value) (l : List Nd) (w : World) (h : RowN w v l) (hsz : ∀ x ∈ l, Szt x) :
    Calls Try.prog 3 #[v] w fun e w' => e = .returned (.bool true) ∧ Below w.heap.size w w' := by
  obtain ⟨cs, hsl, hcs⟩ := h
  have hsl' := hsl
  obtain ⟨a, cp, rfl, -⟩ := hsl
  have HI := Lib.hid I
  have HZ9 : Hid (∀ (q : Nat) (x : Nd), l[q]? = some x → Szt x) := Lib.hid (fun q x hx => hsz x (List.mem_of_getElem? hx))
  clear hsz
  have HNW := Lib.hid (pat_new I w (fun k => k < w.heap.size))
  have HTD : Hid (∀ W, Calls Try.prog 7 #[] W fun e w' => e = .returned (.bool true) ∧ Below W.heap.size W w') := Lib.hid (fun W => told11_any I W)
  by_cases g6 : 6 < l.length
  · have d6 : decide ((6 : Int) < (l.length : Int)) = true := decide_eq_true (by omega)
    clear hsl' hcs
    go_enter Try.func3, Try.ntmps3
    go_wp2_with fail
    refine HNW.out.mono ?_
    rintro e w1 ⟨g, rfl, -, hb1⟩
    have HB1 := Lib.hid hb1
    clear hb1
    go_wp2_with fail
    refine (HTD.out _).mono ?_
    rintro e w9 ⟨rfl, hb9⟩
    have HB9 := Lib.hid (HB1.out.trans (hb9.mono HB1.out.size))
    clear hb9
    go_wp2_with fail
    go_ret
    exact ⟨rfl, HB9.out⟩
  have d6 : decide ((6 : Int) < (l.length : Int)) = false := decide_eq_false (by omega)
  have HK := Lib.hid (fun q x hx => kids hsl' hcs q x hx)
  clear hsl' hcs I
  go_enter Try.func3, Try.ntmps3
  go_wp2_with fail
  refine HNW.out.mono ?_
  rintro e w1 ⟨g, rfl, hp1, hb1⟩
  have HT0 := Lib.hid (tw_new HI.out hp1 hb1)
  obtain ⟨b, hb⟩ : ∃ b, b = w1.heap.size := ⟨_, rfl⟩
  rw [← hb] at HT0
  clear hp1 hb1
  go_wp2_with fail
  rw [← hb]
  clear hb
  go_loopg [5] l.length (fun gn i wr => ∃ (q : Nat) (u : Value) (xs : List Nd), gn = l.length - q ∧ q ≤ l.length ∧ i = .int .i64 (q : Int) ∧ Hid (Tw PA w b (.pointer (some ⟨g, 0, none⟩)) u xs xs wr) ∧ Hid (xs.length ≤ q * 120))
  case atStart => exact ⟨0, _, [], rfl, Nat.zero_le _, rfl, HT0, Lib.hid (by simp)⟩
  case round =>
    obtain ⟨q, u, xs, hgn, hq, rfl, HT, HL⟩ := hrel
    by_cases hlt : q < l.length
    · obtain ⟨x, hx⟩ : ∃ x, l[q]? = some x := ⟨_, List.getElem?_eq_getElem hlt⟩
      obtain ⟨g0, o0, k, t, lv, br, bl, nv, tv, rfl, hn, hce⟩ := HK.out q x hx
      have HCE : Hid (∀ w', Below w.heap.size w w' → w'.cell? ⟨g0, o0 + q * 7, none⟩ = some (.int .i64 k) ∧ w'.cell? ⟨g0, o0 + q * 7 + 1, none⟩ = some (.string t) ∧ w'.cell? ⟨g0, o0 + q * 7 + 2, none⟩ = some (lv) ∧ w'.cell? ⟨g0, o0 + q * 7 + 3, none⟩ = some (.bool br) ∧ w'.cell? ⟨g0, o0 + q * 7 + 4, none⟩ = some (.bool bl) ∧ w'.cell? ⟨g0, o0 + q * 7 + 5, none⟩ = some (nv) ∧ w'.cell? ⟨g0, o0 + q * 7 + 6, none⟩ = some (tv)) := Lib.hid hce
      have HN := Lib.hid hn
      have HZX := Lib.hid (HZ9.out q x hx)
      have HFW : Hid (∀ W, Below w.heap.size w W → Calls Try.prog 8 #[.agg #[.int .i64 k, .string t, lv, .bool br, .bool bl, nv, tv]] W fun e w' => e = .returned (.bool (fewB x)) ∧ Below W.heap.size W w') := Lib.hid (fun W hb => fewB_any _ _ W (hn.bel hb))
      obtain ⟨e0, e1, e2, e3, e4, e5, e6⟩ := hce _ HT.out.bel
      have qn : (q : Int) < (l.length : Int) := by omega
      have q0 : (0 : Int) ≤ (q : Int) := by omega
      clear hn hce hx
      cases hf : fewB x
      · rw [hf] at HFW
        go_wp2_with fail
        refine (HFW.out _ HT.out.bel).mono ?_
        rintro e w2 ⟨rfl, hb2⟩
        have HB2 := Lib.hid (HT.out.bel.trans (hb2.mono HT.out.bel.size))
        clear hb2
        go_wp2_with fail
        refine (HTD.out _).mono ?_
        rintro e w9 ⟨rfl, hb9⟩
        have HB9 := Lib.hid (HB2.out.trans (hb9.mono HB2.out.size))
        clear hb9
        go_wp2_with fail
        go_ret
        exact ⟨rfl, HB9.out⟩
      rw [hf] at HFW
      have hok : OkQ x := ⟨fewB_okT hf, HZX.out⟩
      have hc4 := (fewB_ok hf).1
      have HCT : Hid (∀ W, Below w.heap.size w W → Calls Try.prog 9 #[.agg #[.int .i64 k, .string t, lv, .bool br, .bool bl, nv, tv]] W fun e w' => e = .returned (.int .i64 (cnt x : Int)) ∧ Below W.heap.size W w') := Lib.hid (fun W hb => rtcount_any 400 (by omega) x hc4 _ W (HN.out.bel hb))
      obtain ⟨C, hC⟩ : ∃ C, C = cnt x := ⟨_, rfl⟩
      rw [← hC] at HCT hc4
      have HCC := Lib.hid hC
      have HOK := Lib.hid hok
      clear hC hok hf
      go_wp2_with fail
      refine (HFW.out _ HT.out.bel).mono ?_
      rintro e w2 ⟨rfl, hb2⟩
      have HT2 := Lib.hid (HT.out.below HI.out hb2)
      clear hb2
      obtain ⟨e0, e1, e2, e3, e4, e5, e6⟩ := HCE.out _ HT2.out.bel
      go_wp2_with fail
      refine (HCT.out _ HT2.out.bel).mono ?_
      rintro e w3 ⟨rfl, hb3⟩
      have HT3 := Lib.hid (HT2.out.below HI.out hb3)
      clear hb3
      obtain ⟨e0, e1, e2, e3, e4, e5, e6⟩ := HCE.out _ HT3.out.bel
      by_cases h120 : 120 < C
      · have d1 : decide ((120 : Int) < (C : Int)) = true := decide_eq_true (by omega)
        go_wp2_with fail
        refine (HTD.out _).mono ?_
        rintro e w9 ⟨rfl, hb9⟩
        have HB9 := Lib.hid (HT3.out.bel.trans (hb9.mono HT3.out.bel.size))
        clear hb9
        go_wp2_with fail
        go_ret
        exact ⟨rfl, HB9.out⟩
      have d1 : decide ((120 : Int) < (C : Int)) = false := decide_eq_false (by omega)
      have hl5 : xs.length + cnt x ≤ 50000 := by have := HL.out; have := HCC.out; omega
      have QA : Hid (∀ W, Below w3.heap.size w3 W → Calls Try.prog 10 #[.pointer (some ⟨g, 0, none⟩), .agg #[.int .i64 k, .string t, lv, .bool br, .bool bl, nv, tv]] W fun e w' => e = .returned (.int .i64 (pidx x xs : Int)) ∧ Hid (Tw PA w b (.pointer (some ⟨g, 0, none⟩)) u (pad x xs) xs w') ∧ Below w.heap.size w w') := Lib.hid (fun W hb => ((HT3.out.below HI.out hb).putp HI.out (nd_below9 HN.out) HOK.out hl5).mono fun e w' h => ⟨h.1, Lib.hid h.2, h.2.bel⟩)
      have QB : Hid (∀ W, Tw PA w b (.pointer (some ⟨g, 0, none⟩)) u (pad x xs) xs W → Calls Try.prog 11 #[.pointer (some ⟨b, 0, none⟩), .agg #[.int .i64 k, .string t, lv, .bool br, .bool bl, nv, tv]] W fun e w' => e = .returned (.int .i64 (pidx x xs : Int)) ∧ ∃ a' c', Hid (Tw PA w b (.pointer (some ⟨g, 0, none⟩)) (.slice a' (pad x xs).length c') (pad x xs) (pad x xs) w') ∧ Below w.heap.size w w') := Lib.hid (fun W hp => (hp.putx HI.out (nd_below9 HN.out) HOK.out hl5).mono fun e w' h => by
        obtain ⟨h1, v', h2⟩ := h
        obtain ⟨a', c', rfl⟩ := h2.slice
        exact ⟨h1, a', c', Lib.hid h2, h2.bel⟩)
      have hpl := pad_len x xs
      obtain ⟨X, hX⟩ : ∃ X, X = pidx x xs := ⟨_, rfl⟩
      rw [← hX] at QA QB
      obtain ⟨ys, hys⟩ : ∃ ys, ys = pad x xs := ⟨_, rfl⟩
      rw [← hys] at QA QB hpl
      have xx : ((X : Int) != (X : Int)) = false := bne_self_eq_false _
      have yy : ((ys.length : Int) != (ys.length : Int)) = false := bne_self_eq_false _
      have HBd : Hid (Below w3.heap.size w3 w3.drew) := Lib.hid (Below.drew (Below.refl _ _))
      have HBz : Hid (Below w.heap.size w w3.drew) := Lib.hid (HT3.out.bel.trans (HBd.out.mono HT3.out.bel.size))
      have CC := Lib.hid (fun w' (hb : Below w.heap.size w w') => (⟨HCE.out w' hb, Lib.hid hb⟩ : (w'.cell? ⟨g0, o0 + q * 7, none⟩ = some (.int .i64 k) ∧ w'.cell? ⟨g0, o0 + q * 7 + 1, none⟩ = some (.string t) ∧ w'.cell? ⟨g0, o0 + q * 7 + 2, none⟩ = some (lv) ∧ w'.cell? ⟨g0, o0 + q * 7 + 3, none⟩ = some (.bool br) ∧ w'.cell? ⟨g0, o0 + q * 7 + 4, none⟩ = some (.bool bl) ∧ w'.cell? ⟨g0, o0 + q * 7 + 5, none⟩ = some (nv) ∧ w'.cell? ⟨g0, o0 + q * 7 + 6, none⟩ = some (tv)) ∧ Hid (Below w.heap.size w w')))
      clear hX hys
      go_wp2_with fail
      go_cut [59] from 37 to 59 (fun z wx => z = .bool false ∧ ∃ a5 c5, Hid (Tw PA w b (.pointer (some ⟨g, 0, none⟩)) (.slice a5 ys.length c5) ys ys wx))
      case first =>
        go_region_with (first
          | (go_at_call 10; refine (QA.out _ ?_).mono ?_; exact HBd.out; rintro e w4 ⟨rfl, HP4, ht⟩; obtain ⟨s0, s1, s2, s3, s4, s5, s6⟩ := HCE.out _ ht; clear ht)
          | (go_at_call 11; refine (QB.out _ ?_).mono ?_; exact HP4.out; rintro e w5 ⟨rfl, a5, c5, HP5, -⟩; have cb5 := HP5.out.cell)
          | (go_at_call 12; refine (HP5.out.len HI.out).mono ?_; rintro e w6 ⟨rfl, hp6⟩; have HP6 := Lib.hid hp6; have cb6 := HP6.out.cell; clear hp6))
        all_goals go_wp2_with fail
        all_goals go_meet
        all_goals exact ⟨rfl, _, _, HP6⟩
      case rest =>
        obtain ⟨rfl, a5, c5, HP6⟩ := hcut
        have HYL : Hid (ys.length ≤ (q + 1) * 120) := Lib.hid (by have := HL.out; have := HCC.out; omega)
        clear CC HBz HBd QA QB HT2 HT3 HCT HFW e0 e1 e2 e3 e4 e5 e6
        go_wp2_with fail
        go_roundg (l.length - (q + 1))
        case measure => omega
        case rel => exact ⟨q + 1, _, ys, rfl, hlt, by go_num, HP6, HYL⟩
    · obtain rfl : q = l.length := by omega
      obtain ⟨G, hG⟩ := HT.out.tail HI.out
      have HT0' := Lib.hid hG
      have HXL : Hid (xs.length ≤ 720) := Lib.hid (by have := HL.out; omega)
      obtain ⟨a5, c5, rfl⟩ := HT.out.slice
      have cb := hG.cell
      clear hG HT HL HK HNW hgn hq hlt
      go_wp2_with fail
      go_loopg [6] xs.length (fun gn i wr => ∃ (q : Nat), gn = xs.length - q ∧ q ≤ xs.length ∧ i = .int .i64 (q : Int) ∧ Hid (Tl PA w G b (.pointer (some ⟨g, 0, none⟩)) (.slice a5 xs.length c5) xs wr))
      case atStart => exact ⟨0, rfl, Nat.zero_le _, rfl, HT0'⟩
      case round =>
        obtain ⟨q, hgn, hq, rfl, HT⟩ := hrel
        have cb := HT.out.cell
        by_cases hlt : q < xs.length
        · obtain ⟨y, hy⟩ : ∃ y, xs[q]? = some y := ⟨_, List.getElem?_eq_getElem hlt⟩
          obtain ⟨g5, cp5, cc, e, hg5, hrg, hnd⟩ := HT.out.row hy
          simp only [Value.slice.injEq] at e
          obtain ⟨rfl, -, rfl⟩ := e
          have HND := Lib.hid hnd
          have hoy := HT.out.nodes y (List.mem_of_getElem? hy)
          have hnd2 := hnd.nd
          obtain ⟨k, t, L, br, bl, no, tl, lv, nv, tv, cs, ⟨na, nc, rfl, -⟩, ⟨ta, tc, rfl, -⟩, ⟨la, lc, rfl, -⟩, -⟩ := hnd2
          have e0 : wr.cell? ⟨g5, q * 7, none⟩ = some (.int .i64 k) := hrg 0 _ rfl
          have e1 : wr.cell? ⟨g5, q * 7 + 1, none⟩ = some (.string t) := hrg 1 _ rfl
          have e2 : wr.cell? ⟨g5, q * 7 + 2, none⟩ = some (.slice la L.length lc) := hrg 2 _ rfl
          have e3 : wr.cell? ⟨g5, q * 7 + 3, none⟩ = some (.bool br) := hrg 3 _ rfl
          have e4 : wr.cell? ⟨g5, q * 7 + 4, none⟩ = some (.bool bl) := hrg 4 _ rfl
          have e5 : wr.cell? ⟨g5, q * 7 + 5, none⟩ = some (.slice na no.length nc) := hrg 5 _ rfl
          have e6 : wr.cell? ⟨g5, q * 7 + 6, none⟩ = some (.slice ta tl.length tc) := hrg 6 _ rfl
          have hl7 := HXL.out
          have qn : (q : Int) < (xs.length : Int) := by omega
          have q0 : (0 : Int) ≤ (q : Int) := by omega
          have wq : IntKind.i64.wrap ((q : Int) + 1) = (q : Int) + 1 := by rw [IntKind.wrap_i64]; omega
          have CC : Hid (∀ w', (Tl PA w G b (.pointer (some ⟨g, 0, none⟩)) (.slice (some ⟨g5, 0, none⟩) xs.length c5) xs w' ∧ Keeps G wr w') → (w'.cell? ⟨g5, q * 7, none⟩ = some (.int .i64 k) ∧ w'.cell? ⟨g5, q * 7 + 1, none⟩ = some (.string t) ∧ w'.cell? ⟨g5, q * 7 + 2, none⟩ = some (.slice la L.length lc) ∧ w'.cell? ⟨g5, q * 7 + 3, none⟩ = some (.bool br) ∧ w'.cell? ⟨g5, q * 7 + 4, none⟩ = some (.bool bl) ∧ w'.cell? ⟨g5, q * 7 + 5, none⟩ = some (.slice na no.length nc) ∧ w'.cell? ⟨g5, q * 7 + 6, none⟩ = some (.slice ta tl.length tc)) ∧ w'.cell? ⟨b, 0, none⟩ = some (.slice (some ⟨g5, 0, none⟩) xs.length c5) ∧ Hid (Tl PA w G b (.pointer (some ⟨g, 0, none⟩)) (.slice (some ⟨g5, 0, none⟩) xs.length c5) xs w' ∧ Keeps G wr w')) := Lib.hid (fun w' ht => by
            have k9 : ∀ j y, wr.cell? ⟨g5, j, none⟩ = some y → w'.cell? ⟨g5, j, none⟩ = some y := fun j y hc => (keeps_cell ht.2 hg5 (HT.out.live hg5)).trans hc
            exact ⟨⟨k9 _ _ e0, k9 _ _ e1, k9 _ _ e2, k9 _ _ e3, k9 _ _ e4, k9 _ _ e5, k9 _ _ e6⟩, ht.1.cell, Lib.hid ht⟩)
          have HCT : Hid (∀ W, (Tl PA w G b (.pointer (some ⟨g, 0, none⟩)) (.slice (some ⟨g5, 0, none⟩) xs.length c5) xs W ∧ Keeps G wr W) → Calls Try.prog 9 #[.agg #[.int .i64 k, .string t, .slice la L.length lc, .bool br, .bool bl, .slice na no.length nc, .slice ta tl.length tc]] W fun e w' => e = .returned (.int .i64 (cnt (.mk k t L br bl no tl) : Int)) ∧ Tl PA w G b (.pointer (some ⟨g, 0, none⟩)) (.slice (some ⟨g5, 0, none⟩) xs.length c5) xs w' ∧ Keeps G wr w') := Lib.hid (fun W ht => (rtcount_any 5000 (by omega) _ hoy.1.1 _ W (HND.out.keep ht.2).nd).mono fun e w' h9 => ⟨h9.1, ht.1.below HI.out h9.2, ht.2.trans (belK h9.2)⟩)
          have HSZ : Hid (∀ W, (Tl PA w G b (.pointer (some ⟨g, 0, none⟩)) (.slice (some ⟨g5, 0, none⟩) xs.length c5) xs W ∧ Keeps G wr W) → Calls Try.prog 13 #[.pointer (some ⟨g, 0, none⟩), .int .i64 ((q : Int) + 1)] W fun e w' => e = .returned (.int .i64 (cnt (.mk k t L br bl no tl) : Int)) ∧ Tl PA w G b (.pointer (some ⟨g, 0, none⟩)) (.slice (some ⟨g5, 0, none⟩) xs.length c5) xs w' ∧ Keeps G wr w') := Lib.hid (fun W ht => by
            have h8 := ht.1.size HI.out ((q : Int) + 1)
            rw [psz_at hy] at h8
            exact h8.mono fun e w' h9 => ⟨h9.1, h9.2.1, ht.2.trans (belK h9.2.2)⟩)
          have hcy : xs.length + cnt (.mk k t L br bl no tl) ≤ 50000 := by have := hoy.1.1; omega
          have HPT : Hid (∀ W, (Tl PA w G b (.pointer (some ⟨g, 0, none⟩)) (.slice (some ⟨g5, 0, none⟩) xs.length c5) xs W ∧ Keeps G wr W) → Calls Try.prog 10 #[.pointer (some ⟨g, 0, none⟩), .agg #[.int .i64 k, .string t, .slice la L.length lc, .bool br, .bool bl, .slice na no.length nc, .slice ta tl.length tc]] W fun e w' => e = .returned (.int .i64 ((q : Int) + 1)) ∧ Tl PA w G b (.pointer (some ⟨g, 0, none⟩)) (.slice (some ⟨g5, 0, none⟩) xs.length c5) xs w' ∧ Keeps G wr w') := Lib.hid (fun W ht => (ht.1.put HI.out hy (HND.out.keep ht.2) hcy).mono fun e w' h9 => ⟨h9.1, h9.2.1, ht.2.trans h9.2.2⟩)
          have HBd : Hid (Tl PA w G b (.pointer (some ⟨g, 0, none⟩)) (.slice (some ⟨g5, 0, none⟩) xs.length c5) xs wr.drew ∧ Keeps G wr wr.drew) := Lib.hid (by
            have hb : Below wr.heap.size wr wr.drew := Below.drew (Below.refl _ _)
            exact ⟨HT.out.below HI.out hb, belK hb⟩)
          obtain ⟨C, hC⟩ : ∃ C, C = cnt (.mk k t L br bl no tl) := ⟨_, rfl⟩
          rw [← hC] at HCT HSZ
          have xx : ((C : Int) != (C : Int)) = false := bne_self_eq_false _
          have yy : (((q : Int) + 1) != ((q : Int) + 1)) = false := bne_self_eq_false _
          clear hnd hrg hC hy hoy hcy hl7 HT HND hg5
          go_wp2_with fail
          go_region_held3 (fun w' => (w'.cell? ⟨g5, q * 7, none⟩ = some (.int .i64 k) ∧ w'.cell? ⟨g5, q * 7 + 1, none⟩ = some (.string t) ∧ w'.cell? ⟨g5, q * 7 + 2, none⟩ = some (.slice la L.length lc) ∧ w'.cell? ⟨g5, q * 7 + 3, none⟩ = some (.bool br) ∧ w'.cell? ⟨g5, q * 7 + 4, none⟩ = some (.bool bl) ∧ w'.cell? ⟨g5, q * 7 + 5, none⟩ = some (.slice na no.length nc) ∧ w'.cell? ⟨g5, q * 7 + 6, none⟩ = some (.slice ta tl.length tc)) ∧ w'.cell? ⟨b, 0, none⟩ = some (.slice (some ⟨g5, 0, none⟩) xs.length c5) ∧ Hid (Tl PA w G b (.pointer (some ⟨g, 0, none⟩)) (.slice (some ⟨g5, 0, none⟩) xs.length c5) xs w' ∧ Keeps G wr w')) (first | exact CC.out _ h6 | exact CC.out _ h5 | exact CC.out _ h4 | exact CC.out _ HBd.out) (first
            | (go_at_call 13; refine (HSZ.out _ HBd.out).mono ?_; rintro e w4 ⟨rfl, h4⟩)
            | (go_at_call 9; refine (HCT.out _ h4).mono ?_; rintro e w5 ⟨rfl, h5⟩)
            | (go_at_call 10; refine (HPT.out _ h5).mono ?_; rintro e w6 ⟨rfl, h6⟩))
          have HT6 := Lib.hid h6.1
          clear h6 h5 h4 CC HBd HCT HSZ HPT
          go_wp2_with fail
          go_roundg (xs.length - (q + 1))
          case measure => omega
          case rel => exact ⟨q + 1, rfl, hlt, by go_num, HT6⟩
        · obtain rfl : q = xs.length := by omega
          have hl7 := HXL.out
          have wq : IntKind.i64.wrap ((xs.length : Int) + 1) = (xs.length : Int) + 1 := by rw [IntKind.wrap_i64]; omega
          have z0 : ((0 : Int) == (0 : Int)) = true := by decide
          have z1 : ((xs.length : Int) == (xs.length : Int)) = true := beq_self_eq_true _
          have CC : Hid (∀ w', Tl PA w G b (.pointer (some ⟨g, 0, none⟩)) (.slice a5 xs.length c5) xs w' → w'.cell? ⟨b, 0, none⟩ = some (.slice a5 xs.length c5) ∧ Hid (Tl PA w G b (.pointer (some ⟨g, 0, none⟩)) (.slice a5 xs.length c5) xs w')) := Lib.hid (fun w' ht => ⟨ht.cell, Lib.hid ht⟩)
          have HTO : Hid (∀ W, Tl PA w G b (.pointer (some ⟨g, 0, none⟩)) (.slice a5 xs.length c5) xs W → Calls Try.prog 7 #[] W fun e w' => e = .returned (.bool true) ∧ Tl PA w G b (.pointer (some ⟨g, 0, none⟩)) (.slice a5 xs.length c5) xs w') := Lib.hid (fun W ht => (HTD.out W).mono fun e w' h9 => ⟨h9.1, ht.below HI.out h9.2⟩)
          have HSZ : Hid (∀ W id, psz xs id = 0 → Tl PA w G b (.pointer (some ⟨g, 0, none⟩)) (.slice a5 xs.length c5) xs W → Calls Try.prog 13 #[.pointer (some ⟨g, 0, none⟩), .int .i64 id] W fun e w' => e = .returned (.int .i64 0) ∧ Tl PA w G b (.pointer (some ⟨g, 0, none⟩)) (.slice a5 xs.length c5) xs w') := Lib.hid (fun W id hz ht => by
            have h8 := ht.size HI.out id
            rw [hz] at h8
            exact h8.mono fun e w' h9 => ⟨h9.1, h9.2.1⟩)
          have P0 := Lib.hid (psz_zero xs)
          have P1 := Lib.hid (psz_past xs)
          have HLN : Hid (∀ W, Tl PA w G b (.pointer (some ⟨g, 0, none⟩)) (.slice a5 xs.length c5) xs W → Calls Try.prog 12 #[.pointer (some ⟨g, 0, none⟩)] W fun e w' => e = .returned (.int .i64 (xs.length : Int)) ∧ Tl PA w G b (.pointer (some ⟨g, 0, none⟩)) (.slice a5 xs.length c5) xs w') := Lib.hid (fun W ht => ht.len HI.out)
          have HBd : Hid (Tl PA w G b (.pointer (some ⟨g, 0, none⟩)) (.slice a5 xs.length c5) xs wr.drew) := Lib.hid (by
            have hb : Below wr.heap.size wr wr.drew := Below.drew (Below.refl _ _)
            exact HT.out.below HI.out hb)
          clear HT hl7
          go_wp2_with fail
          go_region_held3 (fun w' => w'.cell? ⟨b, 0, none⟩ = some (.slice a5 xs.length c5) ∧ Hid (Tl PA w G b (.pointer (some ⟨g, 0, none⟩)) (.slice a5 xs.length c5) xs w')) (first | exact CC.out _ h7 | exact CC.out _ h5 | exact CC.out _ h4 | exact CC.out _ HBd.out) (first
            | (go_at_call 7; refine (HTO.out _ HBd.out).mono ?_; rintro e w4 ⟨rfl, h4⟩)
            | (go_at_call 13; refine (HSZ.out _ _ ?_ ?_).mono ?_; (first | with_reducible exact P1.out | with_reducible exact P0.out); (first | with_reducible exact h5 | with_reducible exact h4); rintro e w5 ⟨rfl, h5⟩)
            | (go_at_call 12; refine (HLN.out _ h5).mono ?_; rintro e w7 ⟨rfl, h7⟩))
          have HB7 := Lib.hid h7.bel
          clear h7 CC HBd HTO HSZ HLN
          go_wp2_with fail
          go_ret
          exact ⟨rfl, HB7.out⟩
end Go.Proofs.Ytkngnkonddpbeaa
