/-
  THE PROGRAM's layouts: all parts as they are laid out.
-/
import Derived.Test.YtbjgoigdhijbgaaDoorRendBehind
set_option linter.all false
/- Layouts: a row of parts in memory whose flags are told one by one. -/
namespace Go.Proofs.YtbjgoigdhijbgaaDoor
open Go.RowKit Go.PlainAid

def pr3 (e : Ent) : Prt := (e.x, e.r, e.f)
def cmC (cs : Array Value) (k : Nat) (e : Ent) : Prop := cs[k * 3]? = some (.pointer (some ⟨e.g, e.o, none⟩)) ∧ cs[k * 3 + 1]? = some (.int .i64 e.r) ∧ cs[k * 3 + 2]? = some (.bool e.f)
/-- The parts lie in block g. -/
def RowQ (W : World) (g : Nat) (R : List Ent) : Prop := ∃ cs, W.heap[g]? = some (.cells cs 56 (0, 0)) ∧ R.length * 3 ≤ cs.size ∧ ∀ (k : Nat) (e : Ent), R[k]? = some e → cmC cs k e
theorem RowQ.lt {W : World} {g : Nat} {R : List Ent} (h : RowQ W g R) : g < W.heap.size ∧ ∀ j, W.frozen? ⟨g, j, none⟩ = false := by
  obtain ⟨cs, h1, -⟩ := h
  exact ⟨lt_of_block h1, fun j => frz_of h1 j⟩
theorem RowQ.cells {W : World} {g k : Nat} {R : List Ent} {e : Ent} (h : RowQ W g R) (hk : R[k]? = some e) :
    W.cell? ⟨g, k * 3, none⟩ = some (.pointer (some ⟨e.g, e.o, none⟩)) ∧ W.cell? ⟨g, k * 3 + 1, none⟩ = some (.int .i64 e.r) ∧ W.cell? ⟨g, k * 3 + 2, none⟩ = some (.bool e.f) := by
  obtain ⟨cs, h1, -, h3⟩ := h
  obtain ⟨a, b, c⟩ := h3 k e hk
  exact ⟨(cell_of_row W g _ _ _ _ h1).trans a, (cell_of_row W g _ _ _ _ h1).trans b, (cell_of_row W g _ _ _ _ h1).trans c⟩
theorem RowQ.keep {W W' : World} {g : Nat} {R : List Ent} (h : RowQ W g R) (hb : W'.heap[g]? = W.heap[g]?) : RowQ W' g R := by
  obtain ⟨cs, h1, h2⟩ := h
  exact ⟨cs, hb.trans h1, h2⟩
theorem RowQ.flag {W : World} {g k : Nat} {R : List Ent} {e : Ent} (h : RowQ W g R) (hk : R[k]? = some e) (f : Bool) : RowQ (W.setCell ⟨g, k * 3 + 2, none⟩ (.bool f)) g (R.set k { e with f := f }) := by
  obtain ⟨cs, h1, h2, h3⟩ := h
  have hlt := (List.getElem?_eq_some_iff.1 hk).1
  refine ⟨_, heap_setCell_same W g (k * 3 + 2) _ _ (.bool f) h1, by simpa using h2, fun i x hx => ?_⟩
  by_cases hik : i = k
  · subst hik
    rw [List.getElem?_set_self hlt] at hx
    simp only [Option.some.injEq] at hx
    subst hx
    obtain ⟨a, b, c⟩ := h3 i e hk
    exact ⟨(gs_ne (by omega)).trans a, (gs_ne (by omega)).trans b, gs_eq (by omega)⟩
  · rw [List.getElem?_set_ne (fun e => hik e.symm)] at hx
    obtain ⟨a, b, c⟩ := h3 i x hx
    exact ⟨(gs_ne (by omega)).trans a, (gs_ne (by omega)).trans b, (gs_ne (by omega)).trans c⟩
theorem CmR.rowq {W : World} {b cap : Nat} {a : Option Addr} {R : List Ent} (h : CmR W b (.slice a R.length cap) R) (hR : 0 < R.length) : ∃ g, a = some ⟨g, 0, none⟩ ∧ b ≤ g ∧ g < W.heap.size ∧ RowQ W g R ∧ R.length ≤ cap ∧ cap ≤ maxLen := by
  obtain ⟨h0, ⟨-, h1⟩ | ⟨g, cap', cur, hv, hb, hg, hn, hcm, hz, ht⟩⟩ := h
  · omega
  · simp only [Value.slice.injEq] at hv
    obtain ⟨rfl, -, rfl⟩ := hv
    have hsz : R.length * 3 ≤ cur.size := by
      have := congrArg List.length ht
      rw [flE_len, List.length_take, Array.length_toList] at this
      omega
    refine ⟨g, rfl, hb, lt_of_block hg, ⟨cur, hg, hsz, fun k e hk => ?_⟩, hn, hcm⟩
    have hlt := (List.getElem?_eq_some_iff.1 hk).1
    have hc : ∀ j, j < 3 → cur[k * 3 + j]? = (entV e)[j]? := fun j hj => by
      have h3 := flE_at hk hj
      rw [← ht, List.getElem?_take_of_lt (by omega), Array.getElem?_toList] at h3
      exact h3
    exact ⟨hc 0 (by omega), hc 1 (by omega), hc 2 (by omega)⟩
theorem set_take3 {R : List Ent} {k : Nat} (h : k < R.length) (e : Ent) : ((R.set k e).take (k + 1)).map pr3 = (R.take k).map pr3 ++ [pr3 e] := by
  rw [List.take_add_one, List.getElem?_set_self h, Option.toList_some, List.map_append, List.take_set_of_le (Nat.le_refl k)]
  rfl
theorem set_xr {R : List Ent} {k : Nat} {e e' : Ent} (hk : R[k]? = some e) (h : xr e' = xr e) : (R.set k e').map xr = R.map xr := by
  rw [List.map_set, h]
  apply List.ext_getElem?
  intro i
  by_cases hik : k = i
  · subst hik
    have hlt := (List.getElem?_eq_some_iff.1 hk).1
    rw [List.getElem?_set_self (by simpa using hlt), List.getElem?_map, hk]
    rfl
  · rw [List.getElem?_set_ne hik]
theorem SmAt.far {W : World} {lb m : Nat} {F : Nat → Sm} (h : SmAt W lb m F) {p : Addr} (hp : p.block ≠ lb) (v : Value) : SmAt (W.setCell p v) lb m F :=
  ⟨by simpa using h.1, fun i hi => by
    obtain ⟨a, b, c, d⟩ := h.2 i hi
    exact ⟨(World.cell?_setCell_far W p ⟨lb, i * 4, none⟩ v hp).trans a, (World.cell?_setCell_far W p ⟨lb, i * 4 + 1, none⟩ v hp).trans b, (World.cell?_setCell_far W p ⟨lb, i * 4 + 2, none⟩ v hp).trans c, (World.cell?_setCell_far W p ⟨lb, i * 4 + 3, none⟩ v hp).trans d⟩⟩
/-! ### how far right parts are nested -/
theorem drt_nest7 {k n : Int} {t : ByteArray} {l : List Dc} (h : drt (.mk k n t l) = true) : k = 6 → 0 ≤ n ∧ n ≤ 1000 := drt_nest h
mutual
theorem prO_rgt : ∀ (x : Dc) (r : Int), drt x = true → ∀ e ∈ prO r x, r ≤ e.2 ∧ e.2 ≤ r + 1000 * (dcnt x : Int)
  | .mk k n t l, r, h, e, he => by
    have hp : prO r (.mk k n t l) = (.mk k n t l, r) :: prOL (rgt r (.mk k n t l)) l := prO_eq r _
    have hc : dcnt (.mk k n t l) = 1 + dcntL l := rfl
    rw [hp] at he
    rcases List.mem_cons.1 he with rfl | he
    · refine ⟨Int.le_refl _, ?_⟩
      show r ≤ _
      omega
    · obtain ⟨h1, h2⟩ := prOL_rgt l _ (drt_kids h) e he
      have hr : r ≤ rgt r (.mk k n t l) ∧ rgt r (.mk k n t l) ≤ r + 1000 := by
        by_cases hk : k = 6
        · obtain ⟨a, b⟩ := drt_nest7 h hk
          rw [rgt_mk, if_pos hk]
          omega
        · rw [rgt_mk, if_neg hk]; omega
      rw [hc]
      omega
theorem prOL_rgt : ∀ (l : List Dc) (r : Int), drtL l = true → ∀ e ∈ prOL r l, r ≤ e.2 ∧ e.2 ≤ r + 1000 * (dcntL l : Int)
  | [], r, h, e, he => by cases he
  | x :: t, r, h, e, he => by
    simp only [drtL, Bool.and_eq_true] at h
    simp only [prOL] at he
    have hc : dcntL (x :: t) = dcnt x + dcntL t := rfl
    rw [hc]
    rcases List.mem_append.1 he with he | he
    · obtain ⟨h1, h2⟩ := prO_rgt x r h.1 e he
      omega
    · obtain ⟨h1, h2⟩ := prOL_rgt t r h.2 e he
      omega
end
mutual
theorem prO_sz {b : Nat} : ∀ (x : Dc) (r : Int), dtz b x → ∀ e ∈ prO r x, (dtx e.1).size ≤ b
  | .mk k n t l, r, h, e, he => by
    have hp : prO r (.mk k n t l) = (.mk k n t l, r) :: prOL (rgt r (.mk k n t l)) l := prO_eq r _
    rw [hp] at he
    simp only [dtz] at h
    rcases List.mem_cons.1 he with rfl | he
    · exact h.1
    · exact prOL_sz l _ h.2 e he
theorem prOL_sz {b : Nat} : ∀ (l : List Dc) (r : Int), dtzL b l → ∀ e ∈ prOL r l, (dtx e.1).size ≤ b
  | [], r, h, e, he => by cases he
  | x :: t, r, h, e, he => by
    simp only [dtzL] at h
    simp only [prOL] at he
    rcases List.mem_append.1 he with he | he
    · exact prO_sz x r h.1 e he
    · exact prOL_sz t r h.2 e he
end
end Go.Proofs.YtbjgoigdhijbgaaDoor
/- THE PROGRAM's layouts: all parts as they are laid out. -/
namespace Go.Proofs.YtbjgoigdhijbgaaDoor
open Go.RowKit Go.PlainAid

/-- A block of documents. -/
def DocB (W : World) (g : Nat) : Prop := ∃ cs fr, W.heap[g]? = some (.cells cs 24 fr)
theorem layd_end {W : Int} {L : List (Dc × Int)} {n k up : Nat} {col r : Int} {x : Dc} (hk : L[k]? = some (x, r)) (hm : med (dkd x) = true) (hu : ¬ k < up) : layd W L (n + 1) k col up = (x, r, false) :: layd W L n (k + 1) r up := by
  simp only [layd, hk, hm, hu, decide_false, Bool.not_false, Bool.and_self, if_true]
theorem layd_txt {W : Int} {L : List (Dc × Int)} {n k up : Nat} {col r : Int} {x : Dc} (hk : L[k]? = some (x, r)) (hm : (med (dkd x) && !decide (k < up)) = false) (h7 : dkd x ≠ 7) : layd W L (n + 1) k col up = (x, r, decide (k < up)) :: layd W L n (k + 1) (col + (ct (wrt x) 0 : Int)) up := by
  simp only [layd, hk]
  rw [if_neg (by rw [hm]; simp), if_pos h7]
theorem layd_fit {W : Int} {L : List (Dc × Int)} {n k up : Nat} {col r : Int} {x : Dc} (hk : L[k]? = some (x, r)) (h7 : dkd x = 7) (hu : ¬ k < up) (hf : fitS L k (W - col) = true) : layd W L (n + 1) k col up = (x, r, true) :: layd W L n (k + 1) col (smOf L k).nx := by
  simp only [layd, hk]
  rw [if_neg (by rw [h7]; simp [med]), if_neg (by simpa using h7), if_pos (by simp [hu, hf])]
theorem layd_not {W : Int} {L : List (Dc × Int)} {n k up : Nat} {col r : Int} {x : Dc} (hk : L[k]? = some (x, r)) (h7 : dkd x = 7) (hf : (!decide (k < up) && fitS L k (W - col)) = false) : layd W L (n + 1) k col up = (x, r, decide (k < up)) :: layd W L n (k + 1) col up := by
  simp only [layd, hk]
  rw [if_neg (by rw [h7]; simp [med]), if_neg (by simpa using h7), if_neg (by rw [hf]; simp)]
set_option maxRecDepth 100000 in
set_option maxHeartbeats 8000000 in
theorem laid_any (d : Dc) (hd : dcnt d ≤ 90000) (hr : drt d = true) (hz : dtz 1048576 d) (c : List Value) (W : Int) (hW0 : 1 ≤ W) (hW1 : W ≤ 10000) (w : World) (P : Nat → Prop) (hP : ∀ g, P g → g < w.heap.size) (h : DcIn w P c d) (ht : Tabs w) :
    Calls Tryd.prog 24 #[.agg c.toArray, .int .i64 W] w fun e W' => ∃ g cp R, e = .returned (.slice (some ⟨g, 0, none⟩) R.length cp) ∧ (RowQ W' g R ∧ R.length ≤ cp ∧ cp ≤ maxLen) ∧ (∀ (k : Nat) (e : Ent), R[k]? = some e → LfC W' e.x e.g e.o ∧ (P e.g ∨ DocB W' e.g) ∧ (dtx e.x).size ≤ 1048576) ∧ R.map pr3 = laidD W d ∧ Below w.heap.size w W' := by
  obtain ⟨k, n, t, lv, rfl⟩ : ∃ k n t lv, c = [.int .i64 k, .int .i64 n, .string t, lv] := by
    cases d with
    | mk k n t l => obtain ⟨lv, cs, rfl, -⟩ := h.inv; exact ⟨_, _, _, _, rfl⟩
  obtain ⟨V, hV⟩ : ∃ V, V = w.alloc (.cells #[.int .i64 k, .int .i64 n, .string t, lv] 24) := ⟨_, rfl⟩
  obtain ⟨B, hB⟩ : ∃ B, B = w.heap.size := ⟨_, rfl⟩
  have hbV : Below w.heap.size w V := by rw [hV]; exact below1 _ _
  have hrow : V.heap[B]? = some (.cells #[.int .i64 k, .int .i64 n, .string t, lv] 24) := by rw [hV, hB]; exact new_at9
  have hin : DcIn V (fun g => P g ∨ g = B) [.int .i64 k, .int .i64 n, .string t, lv] d := (h.keep (keeps_below hbV)).wide (fun g h1 h2 => .inl h2)
  have hP2 : ∀ g, (P g ∨ g = B) → g < V.heap.size := fun g hg => by
    rcases hg with hg | rfl
    · exact Nat.lt_of_lt_of_le (hP g hg) hbV.size
    · exact lt_of_block hrow
  have hDIn : DIn V (fun g => P g ∨ g = B) B 0 d := ⟨.inr rfl, lt_of_block hrow, _, hin, fun j u hj => by
    rw [cell_of_row V B _ _ _ _ hrow, Nat.zero_add]
    simpa using hj⟩
  have HI := Lib.hid (inOrder_any d hd hr B 0 V (fun g => P g ∨ g = B) hDIn hP2)
  have hT : Tabs V := ht.below hbV
  obtain ⟨L, hL⟩ : ∃ L, L = prO 0 d := ⟨_, rfl⟩
  obtain ⟨N, hN⟩ : ∃ N, N = dcnt d := ⟨_, rfl⟩
  have hLN : L.length = N := by rw [hL, hN, prO_len]
  have hSub : SubO L := by rw [hL]; exact subO_pr d 0
  have hdr : ∀ e ∈ L, drt e.1 = true := by rw [hL]; exact prO_drt d 0 hr
  have hrg : ∀ e ∈ L, 0 ≤ e.2 ∧ e.2 ≤ 1000 * (N : Int) := by
    rw [hL, hN]
    intro e he
    obtain ⟨h1, h2⟩ := prO_rgt d 0 hr e he
    omega
  have hsz : ∀ e ∈ L, (dtx e.1).size ≤ 1048576 := by rw [hL]; exact prO_sz d 0 hz
  have hfin : laidD W d = layd W L N 0 0 0 := by rw [hN, hL]; exact laidD_prog W (prO_drt d 0 hr)
  have hNp : 0 < N := by rw [hN]; exact dcnt_pos d
  rw [← hL] at HI
  rw [hfin]
  rw [← hN] at hd
  have hct : ∀ e ∈ L, ct (wrt e.1) 0 ≤ 1048576 := fun e he => by
    have h1 := ct_le (wrt e.1) (wrt e.1).size 0 (by omega)
    have h2 := wrt_sz (hsz e he)
    omega
  have hle := fun k => smOf_le hct k
  rw [hLN] at hle
  have HLE := Lib.hid hle
  have HCT := Lib.hid hct
  have HSZ := Lib.hid hsz
  have HRG := Lib.hid hrg
  have HDR := Lib.hid hdr
  have HLN := Lib.hid hLN
  have HBV := Lib.hid hbV
  have HT := Lib.hid hT
  have HVE := Lib.hid hV
  have HBE := Lib.hid hB
  have HP2 := Lib.hid hP2
  have HROW := Lib.hid hrow
  clear hL hN hLN hsz hrg hdr hct hle hfin hbV hT hin hDIn hrow h ht hz hr hP hP2
  go_enter Tryd.func24, Tryd.ntmps24
  go_upto_region 1 with fail
  rw [← HBE.out, ← HVE.out]
  clear hV hB
  go_wp2_with fail
  refine HI.out.mono ?_
  rintro e V1 ⟨a, cap, R0, rfl, hC1, hO1, hX1, hF1, hb1⟩
  have hRN : R0.length = N := by rw [← HLN.out, ← hX1, List.length_map]
  obtain ⟨g, rfl, hg1, hg2, hQ1, hcap⟩ := hC1.rowq (by omega)
  have hLF1 : ∀ (k : Nat) (e : Ent), R0[k]? = some e → LfC V e.x e.g e.o ∧ (P e.g ∨ e.g = B) := fun k e hk => by
    have h1 := hO1 e (List.mem_of_getElem? hk)
    have h2 := h1.lf
    obtain ⟨-, al, cl, y0, y1, y2, y3⟩ := h2
    have hgV : e.g < V.heap.size := HP2.out _ h1.1
    have hc : ∀ j, V.cell? ⟨e.g, j, none⟩ = V1.cell? ⟨e.g, j, none⟩ := fun j => (hb1.cell (p := ⟨e.g, j, none⟩) hgV).symm
    exact ⟨⟨hgV, al, cl, (hc _).trans y0, (hc _).trans y1, (hc _).trans y2, (hc _).trans y3⟩, h1.1⟩
  have hP1 : RowP V1 (some ⟨g, 0, none⟩) cap R0 := {
    cells := fun k e hk => ⟨g, rfl, hg2, hQ1.cells hk⟩
    lf := fun k e hk => lf_box (hLF1 k e hk).1 hb1
    sz := fun k e hk => HSZ.out (xr e) (by rw [← hX1]; exact List.mem_map_of_mem (List.mem_of_getElem? hk))
    cap := hcap }
  have HBE1 := Lib.hid (behind_any R0 L hX1 hSub (by omega) (some ⟨g, 0, none⟩) cap V1 hP1 (HT.out.below hb1))
  rw [hRN] at HBE1 hcap ⊢
  have HQ1 := Lib.hid hQ1
  have HX1 := Lib.hid hX1
  have HF1 := Lib.hid hF1
  have HB1 := Lib.hid hb1
  have HLF := Lib.hid hLF1
  have HRN := Lib.hid hRN
  have HG := Lib.hid (⟨hg1, hg2⟩ : _ ∧ _)
  clear hC1 hO1 hX1 hF1 hb1 hQ1 hLF1 hP1 hRN hg1 hg2
  go_wp2_with fail
  refine HBE1.out.mono ?_
  rintro e V2 ⟨lb, rfl, hlb, hS2, hb2⟩
  have hgl : g ≠ lb := by have := HG.out.2; omega
  have HS2 := Lib.hid hS2
  have HQ2 := Lib.hid (HQ1.out.keep (hb2.block g HG.out.2))
  have HB2 := Lib.hid (HB1.out.trans (hb2.mono HB1.out.size))
  clear hS2 hb2 HQ1 HBE1 HB1 hlb
  go_wp2_with fail
  go_loopg [7, 8, 16] N (fun gn col up c wi => ∃ (k u : Nat) (q : Int) (R : List Ent), gn = N - k ∧ k ≤ N ∧ c = .int .i64 (k : Int) ∧ up = .int .i64 (u : Int) ∧ col = .int .i64 q ∧ u ≤ N ∧ Hid (0 ≤ q ∧ q ≤ 1000000000 + 1048576 * (k : Int)) ∧ Hid (R.length = N) ∧ Hid (R.map xr = L) ∧ Hid (∀ (k : Nat) (e : Ent), R[k]? = some e → LfC V e.x e.g e.o ∧ (P e.g ∨ e.g = B)) ∧ Hid ((R.take k).map pr3 ++ layd W L (N - k) k q u = layd W L N 0 0 0) ∧ Hid (RowQ wi g R) ∧ Hid (SmAt wi lb (N + 1) (smOf L)) ∧ Hid (Below V.heap.size V wi))
  case atStart => exact ⟨0, 0, 0, R0, rfl, Nat.zero_le _, rfl, rfl, rfl, Nat.zero_le _, Lib.hid (by omega), HRN, HX1, HLF, Lib.hid rfl, HQ2, HS2, HB2⟩
  case round =>
    clear HRN HX1 HLF HQ2 HS2 HB2 HF1
    obtain ⟨k', u, q, R, hgn, hkN, rfl, rfl, rfl, huN, HQB, HRN, HRX, HLF, HLY, HQi, HSi, HBi⟩ := hrel
    by_cases hlt : k' < N
    · have kb0 : (0 : Int) ≤ (k' : Int) := Int.natCast_nonneg _
      have kb1 : (k' : Int) < (N : Int) := by omega
      have hkR : k' < R.length := by rw [HRN.out]; exact hlt
      obtain ⟨en, hen⟩ : ∃ en, R[k']? = some en := ⟨_, List.getElem?_eq_getElem hkR⟩
      have hLk : L[k']? = some (en.x, en.r) := by rw [← HRX.out, List.getElem?_map, hen]; rfl
      have hmem : (en.x, en.r) ∈ L := List.mem_of_getElem? hLk
      have hsx := HSZ.out _ hmem
      have hcx := HCT.out _ hmem
      obtain ⟨hr0, hr1⟩ := HRG.out _ hmem
      obtain ⟨hlf0, hpp0⟩ := HLF.out k' en hen
      obtain ⟨hq0, hq1⟩ := HQB.out
      obtain ⟨c0, c1, c2⟩ := HQi.out.cells hen
      have cfz := HQi.out.lt.2
      obtain ⟨x, eg, eo, er, ef⟩ := en
      simp only at hLk hmem hsx hcx hr0 hr1 hlf0 hpp0 c0 c1 c2
      have hNk : N - k' = (N - (k' + 1)) + 1 := by omega
      have hwS : IntKind.i64.wrap (W - q) = W - q := by rw [IntKind.wrap_i64]; omega
      have hwQ : IntKind.i64.wrap (q + (ct (wrt x) 0 : Int)) = q + (ct (wrt x) 0 : Int) := by rw [IntKind.wrap_i64]; omega
      have REL : Hid (∀ (f' : Bool) (q' : Int) (u' : Nat), layd W L ((N - (k' + 1)) + 1) k' q u = (x, er, f') :: layd W L (N - (k' + 1)) (k' + 1) q' u' → (0 ≤ q' ∧ q' ≤ 1000000000 + 1048576 * ((k' : Int) + 1)) → u' ≤ N →
          Hid (0 ≤ q' ∧ q' ≤ 1000000000 + 1048576 * ((k' + 1 : Nat) : Int)) ∧ Hid ((R.set k' ⟨x, eg, eo, er, f'⟩).length = N) ∧ Hid ((R.set k' ⟨x, eg, eo, er, f'⟩).map xr = L) ∧ Hid (∀ (k : Nat) (e : Ent), (R.set k' ⟨x, eg, eo, er, f'⟩)[k]? = some e → LfC V e.x e.g e.o ∧ (P e.g ∨ e.g = B)) ∧ Hid (((R.set k' ⟨x, eg, eo, er, f'⟩).take (k' + 1)).map pr3 ++ layd W L (N - (k' + 1)) (k' + 1) q' u' = layd W L N 0 0 0)) := Lib.hid fun f' q' u' h1 h2 h3 => by
        refine ⟨Lib.hid (by omega), Lib.hid (by rw [List.length_set]; exact HRN.out), Lib.hid ((set_xr (e' := ⟨x, eg, eo, er, f'⟩) hen rfl).trans HRX.out), Lib.hid fun i y hy => ?_, Lib.hid ?_⟩
        · by_cases hik : i = k'
          · subst hik
            rw [List.getElem?_set_self hkR] at hy
            simp only [Option.some.injEq] at hy
            subst hy
            exact ⟨hlf0, hpp0⟩
          · rw [List.getElem?_set_ne (fun e => hik e.symm)] at hy
            exact HLF.out i y hy
        · rw [set_take3 hkR, List.append_assoc, ← HLY.out, hNk, h1]
          rfl
      clear hmem
      have hnx : (smOf L k').nx ≤ N := by
        have h1 := sub_len hSub hLk
        rw [smOf_at hLk]
        rw [HLN.out] at h1
        exact h1
      obtain ⟨m, hm⟩ : ∃ m, m = med (dkd x) := ⟨_, rfl⟩
      by_cases hku : k' < u
      · have hku2 : (k' : Int) < (u : Int) := by omega
        have hdu : decide (k' < u) = true := decide_eq_true hku
        clear hm
        go_upto_region 10 with fail
        obtain ⟨U, hU⟩ : ∃ U, U = wr.setCell ⟨g, k' * 3 + 2, none⟩ (.bool true) := ⟨_, rfl⟩
        have HQ := Lib.hid (hU ▸ HQi.out.flag hen true : RowQ U g (R.set k' ⟨x, eg, eo, er, true⟩))
        have HS := Lib.hid (hU ▸ HSi.out.far (p := ⟨g, k' * 3 + 2, none⟩) hgl (.bool true) : SmAt U lb (N + 1) (smOf L))
        have HB := Lib.hid (hU ▸ HBi.out.setCell (p := ⟨g, k' * 3 + 2, none⟩) HG.out.1 (.bool true) : Below V.heap.size V U)
        rw [← hU]
        clear hU HQi HSi HBi c0 c1 c2 cfz
        obtain ⟨c0, c1, c2⟩ := HQ.out.cells (e := ⟨x, eg, eo, er, true⟩) (List.getElem?_set_self hkR)
        simp only at c0 c1 c2
        have hlf := lf_box hlf0 HB.out
        go_wp2_with fail
        refine (rends_any x eg eo er true U hlf).mono ?_
        rintro e w1 ⟨rfl, hb⟩
        have HQ1 := Lib.hid (HQ.out.keep (hb.block g HQ.out.lt.1))
        have HS1 := Lib.hid (HS.out.down hb)
        have HB1 := Lib.hid (HB.out.trans (hb.mono HB.out.size))
        clear HQ HS HB hb c0 c1 c2 hlf
        obtain ⟨c0, c1, c2⟩ := HQ1.out.cells (e := ⟨x, eg, eo, er, true⟩) (List.getElem?_set_self hkR)
        simp only at c0 c1 c2
        rw [Bool.not_true, Bool.and_false]
        obtain ⟨-, al, cl, y0, y1, y2, y3⟩ := lf_box hlf0 HB1.out
        by_cases h7 : dkd x = 7
        · have h7b : (dkd x != 7) = false := by simp [h7]
          have REL2 := REL.out true q u (by rw [layd_not hLk h7 (by rw [hdu]; rfl)]; simp [hdu]) (by omega) huN
          clear hLk
          go_wp2_with fail
          go_roundg (N - (k' + 1))
          case measure => omega
          case rel => exact ⟨k' + 1, _, _, _, rfl, hlt, by go_num, rfl, rfl, huN, REL2.1, REL2.2.1, REL2.2.2.1, REL2.2.2.2.1, REL2.2.2.2.2, HQ1, HS1, HB1⟩
        · have h7b : (dkd x != 7) = true := by simpa using h7
          go_wp2_with fail
          refine (rwritten_any x eg eo er true w1 (lf_box hlf0 HB1.out)).mono ?_
          rintro e w2 ⟨rfl, hb⟩
          have HQ2 := Lib.hid (HQ1.out.keep (hb.block g HQ1.out.lt.1))
          have HS2 := Lib.hid (HS1.out.down hb)
          have HB2 := Lib.hid (HB1.out.trans (hb.mono HB1.out.size))
          clear HQ1 HS1 HB1 hb c0 c1 c2 y0 y1 y2 y3
          go_wp2_with fail
          refine (cwidth_any (wrt x) w2 (wrt_sz hsx) (HT.out.below HB2.out)).mono ?_
          rintro e w3 ⟨rfl, hb⟩
          have HQ3 := Lib.hid (HQ2.out.keep (hb.block g HQ2.out.lt.1))
          have HS3 := Lib.hid (HS2.out.down hb)
          have HB3 := Lib.hid (HB2.out.trans (hb.mono HB2.out.size))
          clear HQ2 HS2 HB2 hb
          have REL2 := REL.out true (q + (ct (wrt x) 0 : Int)) u (by rw [layd_txt hLk (by rw [hdu]; simp) h7]; simp [hdu]) (by omega) huN
          clear hLk
          go_wp2_with fail
          go_roundg (N - (k' + 1))
          case measure => omega
          case rel => exact ⟨k' + 1, _, _, _, rfl, hlt, by go_num, rfl, rfl, huN, REL2.1, REL2.2.1, REL2.2.2.1, REL2.2.2.2.1, REL2.2.2.2.2, HQ3, HS3, HB3⟩
      · have hku2 : ¬ (k' : Int) < (u : Int) := by omega
        have hdu : decide (k' < u) = false := decide_eq_false hku
        go_upto_region 10 with fail
        obtain ⟨U, hU⟩ : ∃ U, U = wr.setCell ⟨g, k' * 3 + 2, none⟩ (.bool false) := ⟨_, rfl⟩
        have HQ := Lib.hid (hU ▸ HQi.out.flag hen false : RowQ U g (R.set k' ⟨x, eg, eo, er, false⟩))
        have HS := Lib.hid (hU ▸ HSi.out.far (p := ⟨g, k' * 3 + 2, none⟩) hgl (.bool false) : SmAt U lb (N + 1) (smOf L))
        have HB := Lib.hid (hU ▸ HBi.out.setCell (p := ⟨g, k' * 3 + 2, none⟩) HG.out.1 (.bool false) : Below V.heap.size V U)
        rw [← hU]
        clear hU HQi HSi HBi c0 c1 c2 cfz
        obtain ⟨c0, c1, c2⟩ := HQ.out.cells (e := ⟨x, eg, eo, er, false⟩) (List.getElem?_set_self hkR)
        simp only at c0 c1 c2
        have hlf := lf_box hlf0 HB.out
        go_wp2_with fail
        refine (rends_any x eg eo er false U hlf).mono ?_
        rintro e w1 ⟨rfl, hb⟩
        have HQ1 := Lib.hid (HQ.out.keep (hb.block g HQ.out.lt.1))
        have HS1 := Lib.hid (HS.out.down hb)
        have HB1 := Lib.hid (HB.out.trans (hb.mono HB.out.size))
        clear HQ HS HB hb c0 c1 c2 hlf
        obtain ⟨c0, c1, c2⟩ := HQ1.out.cells (e := ⟨x, eg, eo, er, false⟩) (List.getElem?_set_self hkR)
        simp only at c0 c1 c2
        rw [Bool.not_false, Bool.and_true]
        rw [← hm]
        have HM := Lib.hid hm
        clear hm
        cases m
        · have hmf : (med (dkd x) && !decide (k' < u)) = false := by rw [← HM.out]; rfl
          obtain ⟨-, al, cl, y0, y1, y2, y3⟩ := lf_box hlf0 HB1.out
          by_cases h7 : dkd x = 7
          · have h7b : (dkd x != 7) = false := by simp [h7]
            have HFB := Lib.hid (fits_any (smOf L) lb (N + 1) (N + 1) k' (W - q) w1 HS1.out (Nat.lt_succ_of_lt hlt) (by omega) (by omega) (fun i => by have := HLE.out i; omega))
            have hfe : fitS L k' (W - q) = (((smOf L k').fc == (smOf L (smOf L k').nx).fc) && decide (((smOf L k').wd : Int) - ((smOf L (smOf L k').nx).wd : Int) + ((smOf L (smOf L k').nx).fs : Int) ≤ W - q)) := rfl
            rw [← hfe] at HFB
            clear hfe
            obtain ⟨bf, hbf⟩ : ∃ b, b = fitS L k' (W - q) := ⟨_, rfl⟩
            rw [← hbf] at HFB
            have HBF := Lib.hid hbf
            clear hbf
            go_wp2_with fail
            refine HFB.out.mono ?_
            rintro e w2 ⟨rfl, hb⟩
            have HQ2 := Lib.hid (HQ1.out.keep (hb.block g HQ1.out.lt.1))
            have HS2 := Lib.hid (HS1.out.down hb)
            have HB2 := Lib.hid (HB1.out.trans (hb.mono HB1.out.size))
            clear HQ1 HS1 HB1 hb c0 c1 c2 y0 y1 y2 y3 HFB
            obtain ⟨c0, c1, c2⟩ := HQ2.out.cells (e := ⟨x, eg, eo, er, false⟩) (List.getElem?_set_self hkR)
            simp only at c0 c1 c2
            have cfz := HQ2.out.lt.2
            cases bf
            · have REL2 := REL.out false q u (by rw [layd_not hLk h7 (by rw [← HBF.out]; simp)]; simp [hdu]) (by omega) huN
              clear hLk
              go_wp2_with fail
              go_roundg (N - (k' + 1))
              case measure => omega
              case rel => exact ⟨k' + 1, _, _, _, rfl, hlt, by go_num, rfl, rfl, huN, REL2.1, REL2.2.1, REL2.2.2.1, REL2.2.2.2.1, REL2.2.2.2.2, HQ2, HS2, HB2⟩
            · have REL2 := REL.out true q (smOf L k').nx (layd_fit hLk h7 hku HBF.out.symm) (by omega) hnx
              clear hLk
              go_upto_region 16 with fail
              obtain ⟨U2, hU2⟩ : ∃ U2, U2 = w2.setCell ⟨g, k' * 3 + 2, none⟩ (.bool true) := ⟨_, rfl⟩
              have hq3 := HQ2.out.flag (e := ⟨x, eg, eo, er, false⟩) (List.getElem?_set_self hkR) true
              rw [List.set_set, ← hU2] at hq3
              have HQ3 : Hid (RowQ U2 g (R.set k' ⟨x, eg, eo, er, true⟩)) := Lib.hid hq3
              have HS3 := Lib.hid (hU2 ▸ HS2.out.far (p := ⟨g, k' * 3 + 2, none⟩) hgl (.bool true) : SmAt U2 lb (N + 1) (smOf L))
              have HB3 := Lib.hid (hU2 ▸ HB2.out.setCell (p := ⟨g, k' * 3 + 2, none⟩) HG.out.1 (.bool true) : Below V.heap.size V U2)
              rw [← hU2]
              clear hU2 HQ2 HS2 HB2 c0 c1 c2 cfz hq3
              obtain ⟨z0, -⟩ := HS3.out.2 k' (Nat.lt_succ_of_lt hlt)
              have kb2 : (k' : Int) < (N : Int) + 1 := by omega
              go_wp2_with fail
              go_roundg (N - (k' + 1))
              case measure => omega
              case rel => exact ⟨k' + 1, _, _, _, rfl, hlt, by go_num, rfl, rfl, hnx, REL2.1, REL2.2.1, REL2.2.2.1, REL2.2.2.2.1, REL2.2.2.2.2, HQ3, HS3, HB3⟩
          · have h7b : (dkd x != 7) = true := by simpa using h7
            go_wp2_with fail
            refine (rwritten_any x eg eo er false w1 (lf_box hlf0 HB1.out)).mono ?_
            rintro e w2 ⟨rfl, hb⟩
            have HQ2 := Lib.hid (HQ1.out.keep (hb.block g HQ1.out.lt.1))
            have HS2 := Lib.hid (HS1.out.down hb)
            have HB2 := Lib.hid (HB1.out.trans (hb.mono HB1.out.size))
            clear HQ1 HS1 HB1 hb c0 c1 c2 y0 y1 y2 y3
            go_wp2_with fail
            refine (cwidth_any (wrt x) w2 (wrt_sz hsx) (HT.out.below HB2.out)).mono ?_
            rintro e w3 ⟨rfl, hb⟩
            have HQ3 := Lib.hid (HQ2.out.keep (hb.block g HQ2.out.lt.1))
            have HS3 := Lib.hid (HS2.out.down hb)
            have HB3 := Lib.hid (HB2.out.trans (hb.mono HB2.out.size))
            clear HQ2 HS2 HB2 hb
            have REL2 := REL.out false (q + (ct (wrt x) 0 : Int)) u (by rw [layd_txt hLk hmf h7]; simp [hdu]) (by omega) huN
            clear hLk
            go_wp2_with fail
            go_roundg (N - (k' + 1))
            case measure => omega
            case rel => exact ⟨k' + 1, _, _, _, rfl, hlt, by go_num, rfl, rfl, huN, REL2.1, REL2.2.1, REL2.2.2.1, REL2.2.2.2.1, REL2.2.2.2.2, HQ3, HS3, HB3⟩
        · have REL2 := REL.out false er u (layd_end hLk HM.out.symm hku) (by omega) huN
          clear hLk
          go_wp2_with fail
          go_roundg (N - (k' + 1))
          case measure => omega
          case rel => exact ⟨k' + 1, _, _, _, rfl, hlt, by go_num, rfl, rfl, huN, REL2.1, REL2.2.1, REL2.2.2.1, REL2.2.2.2.1, REL2.2.2.2.2, HQ1, HS1, HB1⟩
    · obtain rfl : k' = N := by omega
      have jn : ¬ (k' : Int) < (k' : Int) := by omega
      go_wp2_with fail
      go_ret
      have h1 := HLY.out
      rw [Nat.sub_self, List.take_of_length_le (by rw [HRN.out]; exact Nat.le_refl _), layd, List.append_nil] at h1
      refine ⟨g, cap, R, by rw [HRN.out]; rfl, ⟨HQi.out, by rw [HRN.out]; exact hcap⟩, fun k e hk => ?_, h1, HBV.out.trans (HBi.out.mono HBV.out.size)⟩
      obtain ⟨h2, h3⟩ := HLF.out k e hk
      refine ⟨lf_box h2 HBi.out, h3.imp id (fun hB => ⟨_, (0, 0), (by rw [hB]; exact (HBi.out.block B (lt_of_block HROW.out)).trans HROW.out)⟩), HSZ.out (xr e) (by rw [← HRX.out]; exact List.mem_map_of_mem (List.mem_of_getElem? hk))⟩
end Go.Proofs.YtbjgoigdhijbgaaDoor
