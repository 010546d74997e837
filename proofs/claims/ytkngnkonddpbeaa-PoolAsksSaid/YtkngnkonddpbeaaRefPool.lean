/-
  THE DOCUMENT's Pool.
-/
import Derived.Test.YtkngnkonddpbeaaRefPoolA
namespace Go.Proofs.Ytkngnkonddpbeaa
open Go.RowKit Go.PlainAid

set_option maxRecDepth 100000 in
set_option maxHeartbeats 8000000 in
theorem rput_first (Gx : Nat → Prop) (b : Nat) (T : TypeId) (base : Nat) (v0 : Value) (xs : List Nd) (k : Int) (t : ByteArray) (l : List Nd) (br bl : Bool) (no ta : List ByteArray) (la na ta2 : Option Addr) (lc nc tc : Nat) (w : World)
    (hok : OkT (.mk k t l br bl no ta)) (hxs : ∀ x ∈ xs, OkT x) (hlen : xs.length + cnt (.mk k t l br bl no ta) ≤ 100000)
    (hb : w.heap[b]? = some (.cells #[v0] T)) (hown : OwnN w (fun g => g ≠ b ∧ Gx g) base v0 xs) (hbb : base ≤ b) (hG : ∀ g, w.heap.size ≤ g → Gx g)
    (hn : NdIn w (fun g => g ≠ b ∧ Gx g ∧ v0.ownBlock ≠ some g) [.int .i64 k, .string t, .slice la l.length lc, .bool br, .bool bl, .slice na no.length nc, .slice ta2 ta.length tc] (.mk k t l br bl no ta))
    (HI : Hid (∀ (x : Nd) (q : Nat), l[q]? = some x → ∀ (xs : List Nd) (v : Value) (c : List Value) (W : World), (∀ y ∈ xs, OkT y) → xs.length + cnt x ≤ 100000 → w.heap.size ≤ W.heap.size → W.heap[b]? = some (.cells #[v] T) → OwnN W (fun g => g ≠ b ∧ Gx g) base v xs → NdIn W (fun g => g ≠ b ∧ Gx g ∧ v.ownBlock ≠ some g) c x → Calls Try.prog 11 #[.pointer (some ⟨b, 0, none⟩), .agg c.toArray] W fun e w' => RPut Gx W b T base v (pad x xs) (pidx x xs) e w')) :
    Calls Try.prog 11 #[.pointer (some ⟨b, 0, none⟩), .agg #[.int .i64 k, .string t, .slice la l.length lc, .bool br, .bool bl, .slice na no.length nc, .slice ta2 ta.length tc]] w fun e w' => RPut Gx w b T base v0 (pad (.mk k t l br bl no ta) xs) (pidx (.mk k t l br bl no ta) xs) e w' := by
  have hbl0 := lt_of_block hb
  have hlt0 : ∀ g, v0.ownBlock = some g → base ≤ g ∧ g < w.heap.size := hown.lt
  obtain ⟨Z, hZ⟩ : ∃ Z, Z = w.alloc (.cells #[.int .i64 k, .string t, .slice la l.length lc, .bool br, .bool bl, .slice na no.length nc, .slice ta2 ta.length tc] 32) := ⟨_, rfl⟩
  have hZs : Z.heap.size = w.heap.size + 1 := by rw [hZ]; simp
  have hbZ : Below w.heap.size w Z := by rw [hZ]; exact below1 _ _
  have hA : Z.heap[w.heap.size]? = some (.cells #[.int .i64 k, .string t, .slice la l.length lc, .bool br, .bool bl, .slice na no.length nc, .slice ta2 ta.length tc] 32) := by rw [hZ]; show (w.heap.push _)[w.heap.size]? = _; rw [Array.getElem?_push, if_pos rfl]
  have HZ : Hid (RLp Gx Z b T base v0 v0 xs (w.alloc (.cells #[.int .i64 k, .string t, .slice la l.length lc, .bool br, .bool bl, .slice na no.length nc, .slice ta2 ta.length tc] 32))) := Lib.hid (by
    rw [← hZ]
    exact ⟨(hbZ.block _ hbl0).trans hb, hown.below hbZ, .inl rfl, Keeps.refl _ _, Below.refl _ _⟩)
  have HN : Hid (NdIn Z (fun g => g ≠ b ∧ Gx g ∧ v0.ownBlock ≠ some g ∧ g < Z.heap.size) [.int .i64 k, .string t, .slice la l.length lc, .bool br, .bool bl, .slice na no.length nc, .slice ta2 ta.length tc] (.mk k t l br bl no ta)) := Lib.hid ((hn.weak (P' := fun g => g ≠ b ∧ Gx g ∧ v0.ownBlock ≠ some g ∧ g < Z.heap.size) (fun g hg hl => ⟨hg.1, hg.2.1, hg.2.2, by omega⟩)).keep (keeps_below hbZ))
  have HAC : Hid (∀ v xs W, RLp Gx Z b T base v0 v xs W → W.cell? ⟨w.heap.size, 0, none⟩ = some (.int .i64 k) ∧ W.cell? ⟨w.heap.size, 1, none⟩ = some (.string t) ∧ W.cell? ⟨w.heap.size, 2, none⟩ = some (.slice la l.length lc) ∧ W.cell? ⟨w.heap.size, 3, none⟩ = some (.bool br) ∧ W.cell? ⟨w.heap.size, 4, none⟩ = some (.bool bl) ∧ W.cell? ⟨w.heap.size, 5, none⟩ = some (.slice na no.length nc) ∧ W.cell? ⟨w.heap.size, 6, none⟩ = some (.slice ta2 ta.length tc)) := Lib.hid (fun v xs W h => by
    have h1 : W.heap[w.heap.size]? = _ := (h.2.2.2.1.2 w.heap.size ⟨by omega, fun e => by have := (hlt0 _ e).2; omega, by omega⟩ (by omega)).trans hA
    refine ⟨?_, ?_, ?_, ?_, ?_, ?_, ?_⟩ <;> rw [cell_of_row W _ _ _ _ _ h1] <;> rfl)
  have HBBB : Hid (base ≤ b) := Lib.hid hbb
  have HGX : Hid (∀ g, w.heap.size ≤ g → Gx g) := Lib.hid hG
  have HWZ : Hid (∀ N, Z.heap.size ≤ N → w.heap.size ≤ N) := Lib.hid (fun N h => by omega)
  have HSEV : Hid (∀ u ∈ ([.int .i64 k, .string t, .slice la l.length lc, .bool br, .bool bl, .slice na no.length nc, .slice ta2 ta.length tc] : List Value), u.oneCell' = true) := Lib.hid HN.out.seven.2
  have HBS : Hid (base ≤ Z.heap.size) := Lib.hid (by omega)
  have HFIN : Hid (∀ v ys W, RLp Gx Z b T base v0 v ys W → ∃ v', W.heap[b]? = some (.cells #[v'] T) ∧ OwnN W (fun g => g ≠ b ∧ Gx g) base v' ys ∧ (v'.ownBlock = v0.ownBlock ∨ ∀ g, v'.ownBlock = some g → w.heap.size ≤ g) ∧ Keeps (fun g => g ≠ b ∧ v0.ownBlock ≠ some g ∧ g < w.heap.size) w W ∧ Below base w W) := Lib.hid (fun v ys W h => by
    obtain ⟨h1, h2, h3, h4, h5⟩ := h
    refine ⟨v, h1, h2, ?_, ⟨by have := h4.1; omega, fun g hg hl => ?_⟩, (hbZ.mono (by omega)).trans h5⟩
    · rcases h3 with h3 | h3
      · exact .inl h3
      · exact .inr (fun g hg => by have := h3 g hg; omega)
    · exact (h4.2 g ⟨hg.1, hg.2.1, by omega⟩ (by omega)).trans (hbZ.block g hl))
  have hok1 := hok.1
  have hok2 := hok.2
  simp only [cnt] at hok1 hlen
  simp only [smk] at hok2
  have HOK := Lib.hid hok
  have hll := len_cntL l
  have l5 : l.length ≤ 5000 := by omega
  have HXS := Lib.hid hxs
  have HLE := Lib.hid hlen
  obtain ⟨cs, hkids⟩ : ∃ cs : Nat → List Value, ∀ (q : Nat) (x : Nd), l[q]? = some x → ∃ g o, la = some ⟨g, o, none⟩ ∧ (g ≠ b ∧ Gx g ∧ v0.ownBlock ≠ some g ∧ g < Z.heap.size) ∧ NdIn Z (fun g => g ≠ b ∧ Gx g ∧ v0.ownBlock ≠ some g ∧ g < Z.heap.size) (cs q) x ∧ ∀ j y, (cs q)[j]? = some y → Z.cell? ⟨g, o + q * 7 + j, none⟩ = some y := by
    have h9 := HN.out
    cases h9 with
    | mk _ _ _ _ _ _ _ _ _ _ cs hn2 ht2 hl2 hc2 =>
      obtain ⟨a, cp, e, hr⟩ := hl2
      simp only [Value.slice.injEq] at e
      obtain ⟨rfl, -, rfl⟩ := e
      refine ⟨cs, fun q x hx => ?_⟩
      have hq : q < l.length := (List.getElem?_eq_some_iff.1 hx).1
      obtain ⟨g, o, e1, e2, e3, e4⟩ := hr (by omega)
      exact ⟨g, o, e1, e2, hc2 q x hx, fun j y hj => e4 q hq j y hj⟩
  have HK := Lib.hid hkids
  clear hkids hn hb hown hG hbb hxs hlen hok hok1 hok2 hA hbZ hlt0
  go_enter Try.func11, Try.ntmps11
  go_wp2_with fail
  go_loopg [5] l.length (fun gn i wr => ∃ (q : Nat) (v : Value) (ys : List Nd), gn = l.length - q ∧ q ≤ l.length ∧ i = .int .i64 (q : Int) ∧ Hid (RLp Gx Z b T base v0 v ys wr) ∧ Hid (padL l xs = padL (l.drop q) ys) ∧ Hid (∀ y ∈ ys, OkT y) ∧ Hid (ys.length + cntL (l.drop q) ≤ xs.length + cntL l))
  case atStart => exact ⟨0, v0, xs, rfl, Nat.zero_le _, rfl, HZ, Lib.hid rfl, HXS, Lib.hid (Nat.le_refl _)⟩
  case round =>
    obtain ⟨q, v, ys, hgn, hq, rfl, HR, HP, HY, HL⟩ := hrel
    obtain ⟨c0, c1, c2, c3, c4, c5, c6⟩ := HAC.out v ys wr HR.out
    by_cases hlt : q < l.length
    · obtain ⟨x, hx⟩ : ∃ x, l[q]? = some x := ⟨_, List.getElem?_eq_getElem hlt⟩
      obtain ⟨g, o, rfl, hg1, hg2, hg3⟩ := HK.out q x hx
      have hrg : wr.rangeAt g (o + q * 7) (cs q) := fun j y hj => (keeps_cell HR.out.2.2.2.1 ⟨hg1.1, hg1.2.2.1, hg1.2.2.2⟩ hg1.2.2.2).trans (hg3 j y hj)
      have h7 := hg2.seven.1
      have HRG := Lib.hid hrg
      have H7 := Lib.hid h7
      have hcn : cnt x + cntL (l.drop (q + 1)) = cntL (l.drop q) := (cntL_drop hx).symm
      have HIX : Hid (Calls Try.prog 11 #[.pointer (some ⟨b, 0, none⟩), .agg (cs q).toArray] wr fun e w' => RPut Gx wr b T base v (pad x ys) (pidx x ys) e w') := Lib.hid (HI.out x q hx ys v (cs q) wr HY.out (by have := HL.out; have := HLE.out; omega) (HWZ.out _ HR.out.2.2.2.1.1) HR.out.1 HR.out.2.1 (HR.out.nd hg2))
      have HX := Lib.hid hx
      have HCN := Lib.hid hcn
      obtain ⟨cc, hcc⟩ : ∃ cc, cc = cs q := ⟨_, rfl⟩
      rw [← hcc] at HRG H7 HIX
      have qn : (q : Int) < (l.length : Int) := by omega
      clear hg1 hg2 hg3 hrg h7 hx hcn hcc
      go_wp2_with (refine wpList_load_ndm g (o + q * 7) cc rfl HRG.out H7.out ?_)
      refine HIX.out.mono ?_
      intro e w1 hp
      obtain ⟨v1, hv1⟩ := HR.out.next hp
      obtain ⟨rfl, -⟩ := hp
      have HR1 := Lib.hid hv1
      clear hv1
      go_wp2_with fail
      go_roundg (l.length - (q + 1))
      case measure => omega
      case rel =>
        refine ⟨q + 1, v1, pad x ys, rfl, hlt, by go_num, HR1, Lib.hid (by rw [HP.out]; exact padL_snoc l q x ys HX.out), Lib.hid (allOk_pad HY.out x ?_), Lib.hid ?_⟩
        · have h1 := HOK.out.1
          have h2 := HOK.out.2
          simp only [cnt] at h1
          simp only [smk] at h2
          have := cnt_at HX.out
          exact ⟨by omega, smk_at9 h2.2.2 HX.out⟩
        · have := pad_len x ys
          have := HL.out
          have := HCN.out
          omega
    · obtain rfl : q = l.length := by omega
      have HP2 : Hid (padL l xs = ys) := Lib.hid (by rw [HP.out, List.drop_length]; simp only [padL])
      have hyl : ys.length + 1 ≤ 100000 := by
        have h1 := HL.out
        have h2 := HLE.out
        rw [List.drop_length] at h1
        simp only [cntL] at h1
        omega
      have HPD : Hid (pad (.mk k t l br bl no ta) xs = if has ys (.mk k t l br bl no ta) then ys else ys ++ [.mk k t l br bl no ta]) := Lib.hid (pad_of HP2.out)
      have HPN : Hid (pidx (.mk k t l br bl no ta) xs = ys.findIdx (fun x => lk false x (.mk k t l br bl no ta)) + 1) := Lib.hid (by unfold pidx; simp only [kds']; rw [HP2.out])
      obtain ⟨a, cp, rfl⟩ := HR.out.slice
      clear HP hq hgn hlt c0 c1 c2 c3 c4 c5 c6 HL HI HXS
      obtain ⟨u, hu⟩ : ∃ u, u = wr := ⟨_, rfl⟩
      rw [← hu] at HR ⊢
      clear hu
      have cb := HR.out.cell
      obtain ⟨c0, c1, c2, c3, c4, c5, c6⟩ := HAC.out _ ys u HR.out
      have ll : ¬ (l.length : Int) < (l.length : Int) := by omega
      go_wp2_with fail
      clear c0 c1 c2 c3 c4 c5 c6 cb
      go_loopg [6] ys.length (fun gn i wr => ∃ (q : Nat), gn = ys.length - q ∧ q ≤ ys.length ∧ i = .int .i64 (q : Int) ∧ Hid (RLp Gx Z b T base v0 (.slice a ys.length cp) ys wr) ∧ Hid (∀ (j : Nat) (y : Nd), j < q → ys[j]? = some y → lk false y (.mk k t l br bl no ta) = false))
      case atStart => exact ⟨0, rfl, Nat.zero_le _, rfl, HR, Lib.hid (fun j y h _ => by omega)⟩
      case round =>
        obtain ⟨q, hgn, hq, rfl, HQ, HF⟩ := hrel
        have cb := HQ.out.cell
        obtain ⟨c0, c1, c2, c3, c4, c5, c6⟩ := HAC.out _ ys wr HQ.out
        by_cases hlt : q < ys.length
        · obtain ⟨x, hx⟩ : ∃ x, ys[q]? = some x := ⟨_, List.getElem?_eq_getElem hlt⟩
          obtain ⟨g, cp2, cc, e, hrg, hnd⟩ := HQ.out.2.1.cells q x hx
          simp only [Value.slice.injEq] at e
          obtain ⟨rfl, -, rfl⟩ := e
          have HND := Lib.hid hnd
          have hnd2 := hnd
          obtain ⟨k2, t2, L2, br2, bl2, no2, tl2, lv2, nv2, tv2, cs2, ⟨na2, nc2, rfl, -⟩, ⟨ta3, tc2, rfl, -⟩, ⟨la2, lc2, rfl, -⟩, -⟩ := hnd2
          have e0 : wr.cell? ⟨g, q * 7, none⟩ = some (.int .i64 k2) := hrg 0 _ rfl
          have e1 : wr.cell? ⟨g, q * 7 + 1, none⟩ = some (.string t2) := hrg 1 _ rfl
          have e2 : wr.cell? ⟨g, q * 7 + 2, none⟩ = some (.slice la2 L2.length lc2) := hrg 2 _ rfl
          have e3 : wr.cell? ⟨g, q * 7 + 3, none⟩ = some (.bool br2) := hrg 3 _ rfl
          have e4 : wr.cell? ⟨g, q * 7 + 4, none⟩ = some (.bool bl2) := hrg 4 _ rfl
          have e5 : wr.cell? ⟨g, q * 7 + 5, none⟩ = some (.slice na2 no2.length nc2) := hrg 5 _ rfl
          have e6 : wr.cell? ⟨g, q * 7 + 6, none⟩ = some (.slice ta3 tl2.length tc2) := hrg 6 _ rfl
          have qn : (q : Int) < (ys.length : Int) := by omega
          have q0 : (0 : Int) ≤ (q : Int) := by omega
          have HLK : Hid (∀ W, Below wr.heap.size wr W → Calls Try.prog 14 #[.agg #[.int .i64 k2, .string t2, .slice la2 L2.length lc2, .bool br2, .bool bl2, .slice na2 no2.length nc2, .slice ta3 tl2.length tc2], .agg #[.int .i64 k, .string t, .slice la l.length lc, .bool br, .bool bl, .slice na no.length nc, .slice ta2 ta.length tc]] W fun e w' => e = .returned (.bool (lk false (.mk k2 t2 L2 br2 bl2 no2 tl2) (.mk k t l br bl no ta))) ∧ Below wr.heap.size wr w') := Lib.hid (fun W hb => (rlikes_any _ _ _ _ W (HND.out.nd.bel hb) ((HQ.out.nd HN.out).nd.bel hb) (HY.out _ (List.mem_of_getElem? hx))).mono fun e w' h9 => ⟨h9.1, hb.trans (h9.2.mono hb.size)⟩)
          have CC : Hid (∀ w', Below wr.heap.size wr w' → (w'.cell? ⟨w.heap.size, 0, none⟩ = some (.int .i64 k) ∧ w'.cell? ⟨w.heap.size, 1, none⟩ = some (.string t) ∧ w'.cell? ⟨w.heap.size, 2, none⟩ = some (.slice la l.length lc) ∧ w'.cell? ⟨w.heap.size, 3, none⟩ = some (.bool br) ∧ w'.cell? ⟨w.heap.size, 4, none⟩ = some (.bool bl) ∧ w'.cell? ⟨w.heap.size, 5, none⟩ = some (.slice na no.length nc) ∧ w'.cell? ⟨w.heap.size, 6, none⟩ = some (.slice ta2 ta.length tc)) ∧ (w'.cell? ⟨g, q * 7, none⟩ = some (.int .i64 k2) ∧ w'.cell? ⟨g, q * 7 + 1, none⟩ = some (.string t2) ∧ w'.cell? ⟨g, q * 7 + 2, none⟩ = some (.slice la2 L2.length lc2) ∧ w'.cell? ⟨g, q * 7 + 3, none⟩ = some (.bool br2) ∧ w'.cell? ⟨g, q * 7 + 4, none⟩ = some (.bool bl2) ∧ w'.cell? ⟨g, q * 7 + 5, none⟩ = some (.slice na2 no2.length nc2) ∧ w'.cell? ⟨g, q * 7 + 6, none⟩ = some (.slice ta3 tl2.length tc2)) ∧ w'.cell? ⟨b, 0, none⟩ = some (.slice (some ⟨g, 0, none⟩) ys.length cp) ∧ Hid (Below wr.heap.size wr w')) := Lib.hid (fun w' hb => by
            have hr := HQ.out.below hb HBS.out
            have k9 : ∀ j y, wr.cell? ⟨g, j, none⟩ = some y → w'.cell? ⟨g, j, none⟩ = some y := fun j y hc => (hb.cell (p := ⟨g, j, none⟩) (World.block_lt_of_cell? _ _ hc)).trans hc
            exact ⟨HAC.out _ ys w' hr, ⟨k9 _ _ e0, k9 _ _ e1, k9 _ _ e2, k9 _ _ e3, k9 _ _ e4, k9 _ _ e5, k9 _ _ e6⟩, hr.cell, Lib.hid hb⟩)
          have HBd : Hid (Below wr.heap.size wr wr.drew) := Lib.hid (Below.drew (Below.refl _ _))
          obtain ⟨R, hR⟩ : ∃ R, R = lk false (.mk k2 t2 L2 br2 bl2 no2 tl2) (.mk k t l br bl no ta) := ⟨_, rfl⟩
          rw [← hR] at HLK
          have HRR := Lib.hid hR
          have HX := Lib.hid hx
          clear hnd hrg hR hx
          go_wp2_with fail
          go_region_held3 (fun w' => (w'.cell? ⟨w.heap.size, 0, none⟩ = some (.int .i64 k) ∧ w'.cell? ⟨w.heap.size, 1, none⟩ = some (.string t) ∧ w'.cell? ⟨w.heap.size, 2, none⟩ = some (.slice la l.length lc) ∧ w'.cell? ⟨w.heap.size, 3, none⟩ = some (.bool br) ∧ w'.cell? ⟨w.heap.size, 4, none⟩ = some (.bool bl) ∧ w'.cell? ⟨w.heap.size, 5, none⟩ = some (.slice na no.length nc) ∧ w'.cell? ⟨w.heap.size, 6, none⟩ = some (.slice ta2 ta.length tc)) ∧ (w'.cell? ⟨g, q * 7, none⟩ = some (.int .i64 k2) ∧ w'.cell? ⟨g, q * 7 + 1, none⟩ = some (.string t2) ∧ w'.cell? ⟨g, q * 7 + 2, none⟩ = some (.slice la2 L2.length lc2) ∧ w'.cell? ⟨g, q * 7 + 3, none⟩ = some (.bool br2) ∧ w'.cell? ⟨g, q * 7 + 4, none⟩ = some (.bool bl2) ∧ w'.cell? ⟨g, q * 7 + 5, none⟩ = some (.slice na2 no2.length nc2) ∧ w'.cell? ⟨g, q * 7 + 6, none⟩ = some (.slice ta3 tl2.length tc2)) ∧ w'.cell? ⟨b, 0, none⟩ = some (.slice (some ⟨g, 0, none⟩) ys.length cp) ∧ Hid (Below wr.heap.size wr w')) (first | exact CC.out _ ht | exact CC.out _ HBd.out) (first
            | (go_at_call 14; refine (HLK.out _ HBd.out).mono ?_; rintro e w3 ⟨rfl, ht⟩))
          have HQ3 := Lib.hid (HQ.out.below ht HBS.out)
          clear ht CC HBd HLK
          cases R
          · go_wp2_with fail
            go_roundg (ys.length - (q + 1))
            case measure => omega
            case rel =>
              refine ⟨q + 1, rfl, hlt, by go_num, HQ3, Lib.hid (fun j y hj hy => ?_)⟩
              rcases Nat.lt_or_ge j q with h | h
              · exact HF.out j y h hy
              · obtain rfl : j = q := by omega
                rw [HX.out] at hy
                cases hy
                exact HRR.out.symm
          · have HIX : Hid (ys.findIdx (fun x => lk false x (.mk k t l br bl no ta)) = q) := Lib.hid (by
              have hxe : ys[q] = _ := (List.getElem?_eq_some_iff.1 HX.out).2
              refine (List.findIdx_eq hlt).2 ⟨by rw [hxe]; exact HRR.out.symm, fun j hj => HF.out j _ hj (List.getElem?_eq_getElem (by omega))⟩)
            have HHS : Hid (has ys (.mk k t l br bl no ta) = true) := Lib.hid (has_iff.2 ⟨q, _, HX.out, HRR.out.symm⟩)
            go_wp2_with fail
            go_ret
            refine ⟨retI (by rw [HPN.out, HIX.out]; go_num), ?_⟩
            rw [HPD.out, if_pos HHS.out]
            exact HFIN.out _ _ _ HQ3.out
        · obtain rfl : q = ys.length := by omega
          have HNS : Hid (has ys (.mk k t l br bl no ta) = false) := Lib.hid (by
            cases hc : has ys (.mk k t l br bl no ta) with
            | false => rfl
            | true =>
              obtain ⟨i, y, hy, hl⟩ := has_iff.1 hc
              rw [HF.out i y (List.getElem?_eq_some_iff.1 hy).1 hy] at hl
              cases hl)
          have HIX : Hid (ys.findIdx (fun x => lk false x (.mk k t l br bl no ta)) = ys.length) := Lib.hid (List.findIdx_eq_length.2 (fun y hm => by
            obtain ⟨i, hi, rfl⟩ := List.getElem_of_mem hm
            exact HF.out i _ hi (List.getElem?_eq_getElem hi)))
          have HR1 : Hid (RowIn (wr.alloc (.cells #[.int .i64 0, .string ⟨#[]⟩, .slice none 0 0, .bool false, .bool false, .slice none 0 0, .slice none 0 0] 32)) (fun g => (g ≠ b ∧ Gx g) ∧ (Value.slice a ys.length cp).ownBlock ≠ some g) (.slice (some ⟨wr.heap.size, 0, none⟩) 1 1) [.mk 0 ⟨#[]⟩ [] false false [] []]) := Lib.hid (rowP_one _ _ ⟨⟨by have := lt_of_block HQ.out.1; omega, HGX.out _ (HWZ.out _ HQ.out.2.2.2.1.1)⟩, fun e => by have := (HQ.out.2.1.lt _ e).2; omega⟩)
          have HFR : Hid (∀ O g, (wr.alloc O).heap.size ≤ g → g ≠ b ∧ Gx g) := Lib.hid (fun O g hg => by
            have h1 := lt_of_block HQ.out.1
            have h2 : (wr.alloc O).heap.size = wr.heap.size + 1 := by simp
            have h3 := HQ.out.2.2.2.1.1
            exact ⟨by omega, HGX.out g (HWZ.out g (by omega))⟩)
          have HBB : Hid (∀ O, base ≤ (wr.alloc O).heap.size) := Lib.hid (fun O => by
            have := HQ.out.2.2.2.1.1
            have := HBS.out
            have : (wr.alloc O).heap.size = wr.heap.size + 1 := by simp
            omega)
          have HL6 : Hid (ys.length + [(Nd.mk 0 ⟨#[]⟩ [] false false [] [])].length ≤ 1048576) := Lib.hid (by simp; omega)
          clear ll HF
          have cb2 : ∀ O, (wr.alloc O).cell? ⟨b, 0, none⟩ = some (.slice a ys.length cp) := fun O => ((below1 wr O).cell (p := ⟨b, 0, none⟩) (lt_of_block HQ.out.1)).trans cb
          have c02 : ∀ O, (wr.alloc O).cell? ⟨w.heap.size, 0, none⟩ = some (.int .i64 k) ∧ (wr.alloc O).cell? ⟨w.heap.size, 1, none⟩ = some (.string t) ∧ (wr.alloc O).cell? ⟨w.heap.size, 2, none⟩ = some (.slice la l.length lc) ∧ (wr.alloc O).cell? ⟨w.heap.size, 3, none⟩ = some (.bool br) ∧ (wr.alloc O).cell? ⟨w.heap.size, 4, none⟩ = some (.bool bl) ∧ (wr.alloc O).cell? ⟨w.heap.size, 5, none⟩ = some (.slice na no.length nc) ∧ (wr.alloc O).cell? ⟨w.heap.size, 6, none⟩ = some (.slice ta2 ta.length tc) := fun O => HAC.out _ ys _ (HQ.out.below (below1 wr O) HBS.out)
          have c0' := fun O => (c02 O).1
          have c1' := fun O => (c02 O).2.1
          have c2' := fun O => (c02 O).2.2.1
          have c3' := fun O => (c02 O).2.2.2.1
          have c4' := fun O => (c02 O).2.2.2.2.1
          have c5' := fun O => (c02 O).2.2.2.2.2.1
          have c6' := fun O => (c02 O).2.2.2.2.2.2
          clear c02
          go_wp2_with fail
          go_cut [] from 41 to 51 (fun wx => ∃ v', Hid (RLp Gx Z b T base v0 v' (ys ++ [.mk k t l br bl no ta]) wx))
          case first =>
            have i0 : (0 : Int) ≤ (ys.length : Int) := by omega
            have i1 : (ys.length : Int) < (ys.length : Int) + 1 := by omega
            have i2 : (ys.length : Int) < ((ys.length + 1 : Nat) : Int) := by omega
            go_region_law (refine step_append_nd rfl _ _ rfl (fun g => g ≠ b ∧ Gx g) base _ ys rfl (HQ.out.2.1.below (Below.drew (below1 _ _))) _ [.mk 0 ⟨#[]⟩ [] false false [] []] rfl (HR1.out.keep (keeps_below (Below.drew (Below.refl _ _)))) HL6.out (HBB.out _) (HFR.out _) ?_; intro v4 w4 hsk hgr hat; obtain ⟨g4, c4, rfl⟩ := ownN_some hsk; have HM := Lib.hid (HQ.out.more HBS.out (Below.drew (below1 _ _)) hsk hgr hat HN.out); have HT := Lib.hid (two_chains HM.out.1 HM.out.2.1 HBBB.out HM.out.2.2.1 HM.out.2.2.2.1 hsk (P := fun W => Hid (RLp Gx Z b T base v0 (.slice (some ⟨g4, 0, none⟩) (ys.length + 1) c4) (ys ++ [.mk k t l br bl no ta]) W)) (fun W k1 k2 k3 k4 k5 => Lib.hid (HM.out.2.2.2.2 W k1 k2 k3 k4 k5))); have f0 := cell_of_one HM.out.2.2.1; have f1 := free_of_one HM.out.2.2.1; have gb : ¬ g4 = b := HM.out.1; have bg : ¬ b = g4 := fun e => HM.out.1 e.symm; obtain ⟨z0, z1, ⟨_, z2⟩, z3, z4, ⟨_, z5⟩, ⟨_, z6⟩⟩ := (last_zero hsk); have zf := last_free hsk; have hsk2 := hsk.set (b := b) (fun h => h.1 rfl) 0 (.slice (some ⟨g4, 0, none⟩) (ys.length + 1) c4); obtain ⟨y0, y1, ⟨_, y2⟩, y3, y4, ⟨_, y5⟩, ⟨_, y6⟩⟩ := (last_zero hsk2); have yf := last_free hsk2; clear hsk2; clear hsk hgr hat)
            all_goals go_wp2_with fail
            all_goals go_meet
            all_goals refine ⟨.slice (some ⟨g4, 0, none⟩) (ys.length + 1) c4, ?_⟩
            · with_reducible exact HT.out.1
            · with_reducible exact HT.out.2
            · with_reducible exact HT.out.1
            · with_reducible exact HT.out.2
            · with_reducible exact HT.out.1
            · with_reducible exact HT.out.2
            · with_reducible exact HT.out.1
            · with_reducible exact HT.out.2
            · with_reducible exact HT.out.1
            · with_reducible exact HT.out.2
            · with_reducible exact HT.out.1
            · with_reducible exact HT.out.2
          case rest =>
            obtain ⟨v5, HR5⟩ := hcut
            obtain ⟨a5, c5, rfl⟩ := HR5.out.slice
            have cb5 := HR5.out.cell
            go_wp2_with fail
            go_ret
            refine ⟨retI (by rw [HPN.out, HIX.out]; simp), ?_⟩
            rw [HPD.out, if_neg (by rw [HNS.out]; simp)]
            exact HFIN.out _ _ _ HR5.out
end Go.Proofs.Ytkngnkonddpbeaa
