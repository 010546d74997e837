/-
  The statement's own function: a tree with one part of one node turned.
-/
import Derived.Test.YtkdaombcbcegfaaTreeTurn
import Derived.Test.YtkdaombcbcegfaaNdPut
namespace Go.Proofs.Ytkdaombcbcegfaa
open Go.RowKit Go.PlainAid

/-- A row of trees that may be written part by part. -/
def Rw (W : World) (P : Nat → Prop) (base : Nat) (v : Value) (T : List Nd) : Prop :=
  ∃ a c, v = .slice a T.length c ∧ (0 < T.length → ∃ b, ∃ cs : Nat → List Value, a = some ⟨b, 0, none⟩ ∧ base ≤ b ∧ P b ∧ b < W.heap.size ∧ ∀ i x, T[i]? = some x → (cs i).length = 7 ∧ W.rangeAt b (i * 7) (cs i) ∧ W.there b (i * 7) 7 ∧ NdIn W (fun g => P g ∧ g ≠ b) (cs i) x)
theorem OwnN.rw {W : World} {P : Nat → Prop} {base : Nat} {v : Value} {T : List Nd} (h : OwnN W P base v T) : Rw W P base v T := by
  obtain ⟨css, hl, hc, ⟨hx, ⟨rfl, h0⟩ | ⟨g, cap, cur, rfl, hb, hg, hn, hcm, hz, ht⟩⟩, hp⟩ := h
  · exact ⟨none, 0, by rw [h0], fun h => by omega⟩
  · have hsv := OwnN.sevens hl hc
    refine ⟨some ⟨g, 0, none⟩, cap, rfl, fun _ => ⟨g, fun i => css.getD i [], rfl, hb, hp g rfl, lt_of_block hg, fun i x hx => ?_⟩⟩
    have hi : i < T.length := (List.getElem?_eq_some_iff.1 hx).1
    have hci : css[i]? = some css[i] := List.getElem?_eq_getElem (by omega)
    have hgd : css.getD i [] = css[i] := by simp [List.getD_eq_getElem?_getD, hci]
    have h7 := (hsv css[i] (List.getElem_mem _)).1
    show (css.getD i []).length = 7 ∧ W.rangeAt g (i * 7) (css.getD i []) ∧ W.there g (i * 7) 7 ∧ NdIn W (fun b => P b ∧ b ≠ g) (css.getD i []) x
    rw [hgd]
    refine ⟨h7, fun j y hj => ?_, fun j hj => ⟨?_, frz_of hg _⟩, (hc i css[i] x hci hx).weak (fun b hb _ => ⟨hb.1, fun e => hb.2 (by rw [e]; rfl)⟩)⟩
    · have hj7 : j < 7 := by have := (List.getElem?_eq_some_iff.1 hj).1; omega
      have hf := flat7 css (fun c hc => (hsv c hc).1) i css[i] j hci hj7
      rw [hj, ← ht, List.getElem?_take_of_lt (by omega), Array.getElem?_toList] at hf
      rw [cell_of_row W g (i * 7 + j) _ _ _ hg]
      exact hf
    · rw [cell_of_row W g (i * 7 + j) _ _ _ hg, Array.getElem?_eq_getElem (by omega)]
      rfl
theorem keeps_range {P : Nat → Prop} {W W' : World} (hk : Keeps P W W') {b : Nat} (hp : P b) (hb : b < W.heap.size) {o : Nat} {c : List Value} (h : W.rangeAt b o c) : W'.rangeAt b o c := fun j v hj => (keeps_cell hk hp hb).trans (h j v hj)
theorem keeps_there {P : Nat → Prop} {W W' : World} (hk : Keeps P W W') {b : Nat} (hp : P b) (hb : b < W.heap.size) {o n : Nat} (h : W.there b o n) : W'.there b o n := fun j hj => by
  have he := hk.2 b hp hb
  refine ⟨by rw [keeps_cell hk hp hb]; exact (h j hj).1, ?_⟩
  have := (h j hj).2
  unfold World.frozen? at this ⊢
  simp only at this ⊢
  rw [he]
  exact this
theorem Rw.keep {W W' : World} {P : Nat → Prop} (hk : Keeps P W W') {base : Nat} {v : Value} {T : List Nd} (h : Rw W P base v T) : Rw W' P base v T := by
  obtain ⟨a, c, h1, h2⟩ := h
  refine ⟨a, c, h1, fun h0 => ?_⟩
  obtain ⟨b, cs, e, hbs, hp, hb, hr⟩ := h2 h0
  refine ⟨b, cs, e, hbs, hp, Nat.lt_of_lt_of_le hb hk.1, fun i x hx => ?_⟩
  obtain ⟨k1, k2, k3, k4⟩ := hr i x hx
  exact ⟨k1, keeps_range hk hp hb k2, keeps_there hk hp hb k3, k4.keep ⟨hk.1, fun g hg hl => hk.2 g hg.1 hl⟩⟩
theorem Rw.row {W : World} {P : Nat → Prop} {base : Nat} {v : Value} {T : List Nd} (h : Rw W P base v T) : RowIn W P v T := by
  obtain ⟨a, c, rfl, h2⟩ := h
  by_cases h0 : 0 < T.length
  · obtain ⟨b, cs, rfl, -, hp, hb, hr⟩ := h2 h0
    refine ⟨cs, ⟨_, c, rfl, fun _ => ⟨b, 0, rfl, hp, hb, fun i hi j x hj => ?_⟩⟩, fun i x hx => (hr i x hx).2.2.2.weak (fun g hg _ => hg.1)⟩
    have := (hr i T[i] (List.getElem?_eq_getElem hi)).2.1 j x hj
    rw [Nat.zero_add]
    exact this
  · have : T = [] := List.eq_nil_of_length_eq_zero (by omega)
    subst this
    exact ⟨fun _ => [], ⟨a, c, rfl, fun h => absurd h h0⟩, fun i x hx => by simp at hx⟩
/-- One part is stored anew. -/
theorem rw_put {W : World} {P : Nat → Prop} {b : Nat} {cs : Nat → List Value} {T : List Nd} {cp base : Nat} (hbs : base ≤ b) (hp : P b) (hb : b < W.heap.size)
    (hr : ∀ (i : Nat) (x : Nd), T[i]? = some x → (cs i).length = 7 ∧ W.rangeAt b (i * 7) (cs i) ∧ W.there b (i * 7) 7 ∧ NdIn W (fun g => P g ∧ g ≠ b) (cs i) x)
    (q : Nat) (hq : q < T.length) (c' : List Value) (x' : Nd) (hn : NdIn W (fun g => P g ∧ g ≠ b) c' x') : Rw (W.setCells b (q * 7) c') P base (.slice (some ⟨b, 0, none⟩) T.length cp) (T.set q x') := by
  have h7 := hn.seven.1
  have hk : Keeps (fun g => P g ∧ g ≠ b) W (W.setCells b (q * 7) c') := keeps_setCells W (fun h => h.2 rfl) _ _
  refine ⟨some ⟨b, 0, none⟩, cp, by rw [List.length_set], fun _ => ⟨b, fun i => if i = q then c' else cs i, rfl, hbs, hp, by rw [setCells_size]; exact hb, fun i x hx => ?_⟩⟩
  have hi : i < T.length := by have := (List.getElem?_eq_some_iff.1 hx).1; rwa [List.length_set] at this
  obtain ⟨k1, k2, k3, k4⟩ := hr i T[i] (List.getElem?_eq_getElem hi)
  by_cases he : i = q
  · subst he
    rw [List.getElem?_set_self hq] at hx
    simp only [Option.some.injEq] at hx
    subst hx
    show (if i = i then c' else cs i).length = 7 ∧ _
    simp only [if_true]
    exact ⟨h7, World.rangeAt_setCells_same _ _ _ _ (by rw [h7]; exact k3), World.there_setCells k3 _ _ _, hn.keep hk⟩
  · rw [List.getElem?_set_ne (fun e => he e.symm), List.getElem?_eq_getElem hi] at hx
    simp only [Option.some.injEq] at hx
    subst hx
    show (if i = q then c' else cs i).length = 7 ∧ _
    simp only [if_neg he]
    refine ⟨k1, World.rangeAt_setCells_apart k2 _ _ _ ?_, World.there_setCells k3 _ _ _, k4.keep hk⟩
    right
    rw [k1, h7]
    omega
theorem hr_keep {W W' : World} {P : Nat → Prop} {b : Nat} {cs : Nat → List Value} {T : List Nd} (hb2 : Below W.heap.size W W') (hp : P b) (hb : b < W.heap.size)
    (hr : ∀ (i : Nat) (x : Nd), T[i]? = some x → (cs i).length = 7 ∧ W.rangeAt b (i * 7) (cs i) ∧ W.there b (i * 7) 7 ∧ NdIn W (fun g => P g ∧ g ≠ b) (cs i) x) :
    ∀ (i : Nat) (x : Nd), T[i]? = some x → (cs i).length = 7 ∧ W'.rangeAt b (i * 7) (cs i) ∧ W'.there b (i * 7) 7 ∧ NdIn W' (fun g => P g ∧ g ≠ b) (cs i) x := fun i x hx => by
  obtain ⟨k1, k2, k3, k4⟩ := hr i x hx
  exact ⟨k1, keeps_range (P := P) (keeps_below hb2) hp hb k2, keeps_there (P := P) (keeps_below hb2) hp hb k3, k4.keep (keeps_below hb2)⟩
theorem Ab.below {w : World} {ca : Array Value} {W W' : World} (h : Ab w ca W) (hb : Below W.heap.size W W') : Ab w ca W' := by
  obtain ⟨h1, h2, h3, h4⟩ := h
  exact ⟨(hb.block _ (by omega)).trans h1, (hb.block _ (by omega)).trans h2, Nat.le_trans h3 hb.size, h4.trans (hb.mono (by omega))⟩
theorem Ab.put {w : World} {ca : Array Value} {W : World} (h : Ab w ca W) {b : Nat} (hb : w.heap.size + 2 ≤ b) (o : Nat) (vs : List Value) : Ab w ca (W.setCells b o vs) := by
  obtain ⟨h1, h2, h3, h4⟩ := h
  exact ⟨(setCells_other _ _ _ _ _ (by omega)).trans h1, (setCells_other _ _ _ _ _ (by omega)).trans h2, by rw [setCells_size]; exact h3, setCells_below b (by omega) _ _ _ h4⟩
theorem trnL_put {K p n q : Nat} {T : List Nd} {x : Nd} (hx : T[q]? = some x) (h : n ≤ K ∧ K < n + cnt x) : T.take q ++ trnL K p n (T.drop q) = (T.set q (trn (K - n) p x)).take (q + 1) ++ trnL K p (n + cnt x) ((T.set q (trn (K - n) p x)).drop (q + 1)) := by
  have hq : q < T.length := (List.getElem?_eq_some_iff.1 hx).1
  rw [drop_cons' hx]
  simp only [trnL]
  rw [if_pos h, List.drop_set_of_lt (by omega), List.take_add_one, List.getElem?_set_self hq, List.take_set_of_le (Nat.le_refl q)]
  simp
theorem trnL_pass {K p n q : Nat} {T : List Nd} {x : Nd} (hx : T[q]? = some x) (h : ¬ (n ≤ K ∧ K < n + cnt x)) : T.take q ++ trnL K p n (T.drop q) = T.take (q + 1) ++ trnL K p (n + cnt x) (T.drop (q + 1)) := by
  rw [drop_cons' hx]
  simp only [trnL]
  rw [if_neg h, List.take_add_one, hx]
  simp
theorem txs_in {W : World} {P : Nat → Prop} {b : Nat} {a : Option Addr} {n c : Nat} {L : List ByteArray} (h : Txs W b (.slice a n c) L) (hP : ∀ g, b ≤ g → P g) (hn : n = L.length) : StIn W P (.slice a n c) L := by
  subst hn
  refine ⟨a, c, rfl, fun h0 => ?_⟩
  obtain ⟨a', c', e, hr⟩ := txs_st h
  simp only [Value.slice.injEq] at e
  obtain ⟨rfl, -, rfl⟩ := e
  obtain ⟨g, o, rfl, hg, hc⟩ := hr h0
  exact ⟨g, o, rfl, hP g (h.lt g rfl).1, hg, hc⟩
/-- What the function gives: the turned tree, its rows where the tree's were or new. -/
def TRes (w : World) (P : Nat → Prop) (n : Nd) (e : Ending) (w' : World) : Prop :=
  ∃ (c : List Value) (x : Int), e = .returned (.tuple #[.agg c.toArray, .int .i64 x]) ∧ NdIn w' P c n ∧ Below w.heap.size w w'
set_option maxRecDepth 100000 in
set_option maxHeartbeats 8000000 in
theorem turned_more (k : Int) (t : ByteArray) (l : List Nd) (br bl : Bool) (no ta : List ByteArray) (la na ta2 : Option Addr) (lc nc tc : Nat) (K : Nat) (hK : 0 < K) (hK1 : K ≤ 10000) (p : Nat) (w : World) (P : Nat → Prop) (hP : ∀ g, w.heap.size ≤ g → P g)
    (hrow : RowIn w P (.slice la l.length lc) l) (hl : l.length ≤ 5000) (hcn : cntL l ≤ 5000)
    (HC : Hid (∀ (x : Nd) (q : Nat), l[q]? = some x → ∀ (c : List Value) (W : World), NdAt W c x → Calls Try.prog 16 #[.agg c.toArray] W fun e w' => e = .returned (.int .i64 (cnt x : Int)) ∧ Below W.heap.size W w'))
    (HI : Hid (∀ (x : Nd) (q : Nat), l[q]? = some x → ∀ (K' : Nat) (P' : Nat → Prop) (c : List Value) (W : World), K' ≤ 10000 → NdIn W P' c x → (∀ g, W.heap.size ≤ g → P' g) → Calls Try.prog 22 #[.agg c.toArray, .int .i64 (K' : Int), .int .i64 (p : Int)] W fun e w' => TRes W P' (trn K' p x) e w')) :
    Calls Try.prog 22 #[.agg #[.int .i64 k, .string t, .slice la l.length lc, .bool br, .bool bl, .slice na no.length nc, .slice ta2 ta.length tc], .int .i64 (K : Int), .int .i64 (p : Int)] w fun e w' => ∃ (lv : Value) (x : Int), e = .returned (.tuple #[.agg #[.int .i64 k, .string t, lv, .bool br, .bool bl, .slice na no.length nc, .slice ta2 ta.length tc], .int .i64 x]) ∧ RowIn w' P lv (trnL K p 1 l) ∧ Below w.heap.size w w' := by
  obtain ⟨P2, hP2⟩ : ∃ P2 : Nat → Prop, P2 = fun g => P g ∧ g ≠ w.heap.size ∧ g ≠ w.heap.size + 1 := ⟨_, rfl⟩
  have HP2 : Hid (∀ g, w.heap.size + 2 ≤ g → P2 g) := Lib.hid (fun g hg => by rw [hP2]; exact ⟨hP g (by omega), by omega, by omega⟩)
  have HPA : Hid (¬ P2 w.heap.size) := Lib.hid (by rw [hP2]; exact fun h => h.2.1 rfl)
  have HPR : Hid (¬ P2 (w.heap.size + 1)) := Lib.hid (by rw [hP2]; exact fun h => h.2.2 rfl)
  have HPW : Hid (∀ g, P2 g → P g) := Lib.hid (fun g hg => by rw [hP2] at hg; exact hg.1)
  have HS : Hid (∀ W, Below w.heap.size w W → RowIn W (fun g => P2 g ∧ (Value.slice (some ⟨w.heap.size + 2, 0, none⟩) 0 0).ownBlock ≠ some g) (.slice la l.length lc) l) := Lib.hid (fun W hb => by
    obtain ⟨cs, h1, h2⟩ := hrow
    have hw : ∀ g, P g → g < w.heap.size → P2 g ∧ (Value.slice (some ⟨w.heap.size + 2, 0, none⟩) 0 0).ownBlock ≠ some g := fun g hg hlt => by
      rw [hP2]
      exact ⟨⟨hg, by omega, by omega⟩, by simp only [Value.ownBlock, ne_eq, Option.some.injEq]; omega⟩
    exact ⟨cs, (h1.weak hw).keep (keeps_below hb), fun i x hx => ((h2 i x hx).weak hw).keep (keeps_below hb)⟩)
  have HA := Lib.hid (ab_new w #[.int .i64 k, .string t, .slice la l.length lc, .bool br, .bool bl, .slice na no.length nc, .slice ta2 ta.length tc])
  have HA2 := Lib.hid (HA.out.new (.cells #[] 26))
  have HE : Hid (OwnN (((w.alloc (.cells #[.int .i64 k, .string t, .slice la l.length lc, .bool br, .bool bl, .slice na no.length nc, .slice ta2 ta.length tc] 26)).alloc (.cells zN 26)).alloc (.cells #[] 26)) P2 (w.heap.size + 2) (.slice (some ⟨w.heap.size + 2, 0, none⟩) 0 0) []) := Lib.hid (by
    have h := own_new ((w.alloc (.cells #[.int .i64 k, .string t, .slice la l.length lc, .bool br, .bool bl, .slice na no.length nc, .slice ta2 ta.length tc] 26)).alloc (.cells zN 26)) P2 (HP2.out _ (by simp))
    rw [show ((w.alloc (.cells #[.int .i64 k, .string t, .slice la l.length lc, .bool br, .bool bl, .slice na no.length nc, .slice ta2 ta.length tc] 26)).alloc (.cells zN 26)).heap.size = w.heap.size + 2 by simp] at h
    exact h)
  have HL1 : Hid (([] : List Nd).length + l.length ≤ 1048576) := Lib.hid (by simp; omega)
  have HCN := Lib.hid hcn
  have k0 : ((K : Int) == 0) = false := beq_false_of_ne (by omega)
  clear hrow hP hP2 hcn
  go_enter Try.func22, Try.ntmps22
  go_wp2_with (at_builtin; refine wpList_append_nd rfl _ _ rfl P2 (w.heap.size + 2) _ [] rfl HE.out _ l rfl (HS.out _ HA2.out.2.2.2) HL1.out HA2.out.2.2.1 (fun g hg => HP2.out g (Nat.le_trans HA2.out.2.2.1 hg)) ?_; intro v3 w3 hsk hgr hat; have HT3 := Lib.hid hsk.rw; have HA3 := Lib.hid (HA2.out.grown hgr (fun k hk => (HE.out.lt k hk).1)); clear hsk hgr hat; obtain ⟨a3, c3, rfl, -⟩ := id HT3.out)
  rw [List.nil_append] at HT3
  go_loopg [8, 10] l.length (fun gn nv i wr => ∃ (q n : Nat) (T : List Nd), gn = l.length - q ∧ q ≤ l.length ∧ i = .int .i64 (q : Int) ∧ nv = .int .i64 (n : Int) ∧ n ≤ 10000 ∧ Hid (n + cntL (l.drop q) = 1 + cntL l) ∧ Hid (T.length = l.length) ∧ Hid (Rw wr P2 (w.heap.size + 2) (.slice a3 l.length c3) T) ∧ Hid (Ab w #[.int .i64 k, .string t, .slice la l.length lc, .bool br, .bool bl, .slice na no.length nc, .slice ta2 ta.length tc] wr) ∧ Hid (trnL K p 1 l = T.take q ++ trnL K p n (T.drop q)) ∧ Hid (T.drop q = l.drop q))
  case atStart => exact ⟨0, 1, l, rfl, Nat.zero_le _, rfl, rfl, by omega, Lib.hid rfl, Lib.hid rfl, HT3, HA3, Lib.hid (by simp), Lib.hid rfl⟩
  case round =>
    obtain ⟨q, n, T, hgn, hq, rfl, rfl, hn, HCS, HTL, HRW, HAB, HTR, HDR⟩ := hrel
    by_cases hlt : q < l.length
    · obtain ⟨x, hx⟩ : ∃ x, l[q]? = some x := ⟨_, List.getElem?_eq_getElem hlt⟩
      have hTx : T[q]? = some x := by
        have h1 : (T.drop q)[0]? = (l.drop q)[0]? := by rw [HDR.out]
        rw [List.getElem?_drop, List.getElem?_drop] at h1
        simp only [Nat.add_zero] at h1
        rw [h1, hx]
      obtain ⟨a', c', e, hr⟩ := HRW.out
      simp only [Value.slice.injEq] at e
      obtain ⟨rfl, -, rfl⟩ := e
      obtain ⟨b, cs, rfl, hb2, hpb, hbl, hr2⟩ := hr (by rw [HTL.out]; omega)
      obtain ⟨k1, k2, k3, k4⟩ := hr2 q x hTx
      have hcx : cnt x ≤ 5000 := Nat.le_trans (cnt_at hx) HCN.out
      have hns : n + cnt x + cntL (l.drop (q + 1)) = 1 + cntL l := by have := HCS.out; rw [cntL_drop hx] at this; omega
      have HXX : Hid (∀ W, Below wr.heap.size wr W → Calls Try.prog 16 #[.agg (cs q).toArray] W fun e w' => e = .returned (.int .i64 (cnt x : Int)) ∧ Below wr.heap.size wr w') := Lib.hid (fun W hb => (HC.out x q hx (cs q) W (k4.nd.bel hb)).mono fun e w' h => ⟨h.1, hb.trans (h.2.mono hb.size)⟩)
      have HIX : Hid (∀ W, Below wr.heap.size wr W → n ≤ K → Calls Try.prog 22 #[.agg (cs q).toArray, .int .i64 ((K : Int) - (n : Int)), .int .i64 (p : Int)] W fun e w' => ∃ (c2 : List Value) (x2 : Int), e = .returned (.tuple #[.agg c2.toArray, .int .i64 x2]) ∧ Hid (NdIn w' (fun g => P2 g ∧ g ≠ b) c2 (trn (K - n) p x)) ∧ Below wr.heap.size wr w') := Lib.hid (fun W hb hnk => by
        rw [show (K : Int) - (n : Int) = ((K - n : Nat) : Int) by omega]
        refine (HI.out x q hx (K - n) (fun g => P2 g ∧ g ≠ b) (cs q) W (by omega) (k4.keep (keeps_below hb)) (fun g hg => ⟨HP2.out g (Nat.le_trans HAB.out.2.2.1 (Nat.le_trans hb.size hg)), by have := hb.size; omega⟩)).mono ?_
        rintro e w' ⟨c2, x2, h1, h2, h3⟩
        exact ⟨c2, x2, h1, Lib.hid h2, hb.trans (h3.mono hb.size)⟩)
      have HRG : Hid (∀ W, Below wr.heap.size wr W → W.rangeAt b (q * 7) (cs q)) := Lib.hid (fun W hb => (hr_keep hb hpb hbl hr2 q x hTx).2.1)
      have HTH : Hid (∀ W, Below wr.heap.size wr W → W.there b (q * 7) 7) := Lib.hid (fun W hb => (hr_keep hb hpb hbl hr2 q x hTx).2.2.1)
      have H7 := Lib.hid k1
      have HR2 := Lib.hid hr2
      have HTX := Lib.hid hTx
      have HPB := Lib.hid hpb
      have HBL := Lib.hid hbl
      have HB2 := Lib.hid hb2
      have HNS := Lib.hid hns
      have HDR2 : Hid (T.drop (q + 1) = l.drop (q + 1)) := Lib.hid (by have h := congrArg (List.drop 1) HDR.out; rwa [List.drop_drop, List.drop_drop] at h)
      obtain ⟨cc, hcc⟩ : ∃ cc, cc = cs q := ⟨_, rfl⟩
      obtain ⟨cx, hcxx⟩ : ∃ cx, cx = cnt x := ⟨_, rfl⟩
      have HCX := Lib.hid hcxx
      rw [← hcxx] at HXX hcx
      rw [← hcc] at HXX HIX HRG H7
      have qn : (q : Int) < (l.length : Int) := by omega
      clear hr hr2 k1 k2 k3 k4 hTx hpb hbl hns hb2 hcc hcxx hx
      go_wp2_with (refine wpList_load_ndm b (q * 7) cc rfl (HRG.out _ (Below.refl _ _)) H7.out ?_)
      refine (HXX.out _ (Below.refl _ _)).mono ?_
      rintro e w1 ⟨rfl, hb1⟩
      have HB1 := Lib.hid hb1
      clear hb1
      by_cases g1 : n ≤ K
      · have p1 : (n : Int) ≤ (K : Int) := by omega
        by_cases g2 : K < n + cx
        · have p2 : (K : Int) < (n : Int) + (cx : Int) := by omega
          have HIX2 := Lib.hid (HIX.out w1 HB1.out g1)
          go_wp2_with (first | refine wpList_load_ndm b (q * 7) cc rfl (HRG.out _ HB1.out) H7.out ?_ | refine wpList_store_ndm b (q * 7) c2 rfl rfl (HTH.out _ HB2x.out) HN2.out.seven.1 HN2.out.seven.2 ?_)
          refine HIX2.out.mono ?_
          rintro e w2 ⟨c2, x2, rfl, HN2, hb2x⟩
          have HB2x := Lib.hid hb2x
          clear hb2x
          go_wp2_with (first | refine wpList_store_ndm b (q * 7) c2 rfl rfl (HTH.out _ HB2x.out) HN2.out.seven.1 HN2.out.seven.2 ?_)
          go_roundg (l.length - (q + 1))
          case measure => omega
          case rel =>
            refine ⟨q + 1, n + cx, T.set q (trn (K - n) p x), rfl, hlt, by go_num, by go_num, by have := HNS.out; have := HCX.out; have := HCN.out; omega, Lib.hid (by rw [HCX.out]; exact HNS.out), Lib.hid (by rw [List.length_set]; exact HTL.out), Lib.hid ?_, Lib.hid ((HAB.out.below HB2x.out).put HB2.out _ _), Lib.hid (by rw [HTR.out, HCX.out]; exact trnL_put HTX.out ⟨g1, by rw [← HCX.out]; exact g2⟩), Lib.hid (by rw [List.drop_set_of_lt (by omega)]; exact HDR2.out)⟩
            have h := rw_put (base := w.heap.size + 2) (cp := c3) HB2.out HPB.out (Nat.lt_of_lt_of_le HBL.out HB2x.out.size) (hr_keep HB2x.out HPB.out HBL.out HR2.out) q (by rw [HTL.out]; exact hlt) c2 _ HN2.out
            rw [HTL.out] at h
            exact h
        · have p2 : ¬ (K : Int) < (n : Int) + (cx : Int) := by omega
          go_wp2_with fail
          go_roundg (l.length - (q + 1))
          case measure => omega
          case rel =>
            exact ⟨q + 1, n + cx, T, rfl, hlt, by go_num, by go_num, by have := HNS.out; have := HCX.out; have := HCN.out; omega, Lib.hid (by rw [HCX.out]; exact HNS.out), HTL, Lib.hid (HRW.out.keep (keeps_below HB1.out)), Lib.hid (HAB.out.below HB1.out), Lib.hid (by rw [HTR.out, HCX.out]; exact trnL_pass HTX.out (fun h => g2 (by rw [HCX.out]; exact h.2))), HDR2⟩
      · have p1 : ¬ (n : Int) ≤ (K : Int) := by omega
        go_wp2_with fail
        go_roundg (l.length - (q + 1))
        case measure => omega
        case rel =>
          exact ⟨q + 1, n + cx, T, rfl, hlt, by go_num, by go_num, by have := HNS.out; have := HCX.out; have := HCN.out; omega, Lib.hid (by rw [HCX.out]; exact HNS.out), HTL, Lib.hid (HRW.out.keep (keeps_below HB1.out)), Lib.hid (HAB.out.below HB1.out), Lib.hid (by rw [HTR.out, HCX.out]; exact trnL_pass HTX.out (fun h => g1 h.1)), HDR2⟩
    · obtain rfl : q = l.length := by omega
      obtain ⟨⟨b0, b1, b2, b3, b4, b5, b6⟩, bf⟩ := HAB.out.cells
      have HFIN : Hid (∀ (u : Value) (cs2 : Array Value) (j : Nat), RowIn ((wr.setCell ⟨w.heap.size, j, none⟩ u).setRow (w.heap.size + 1) cs2) P (.slice a3 l.length c3) (trnL K p 1 l)) := Lib.hid (fun u cs2 j => by
        have e1 : trnL K p 1 l = T := by rw [HTR.out, HDR.out, List.drop_length, ← HTL.out, List.take_length]; simp [trnL]
        rw [e1]
        have h1 := (HRW.out.keep (keeps_set wr HPA.out j u)).keep (W' := (wr.setCell ⟨w.heap.size, j, none⟩ u).setRow (w.heap.size + 1) cs2) ⟨by rw [setRow_size]; exact Nat.le_refl _, fun g hg _ => setRow_other _ _ _ _ (fun e => HPR.out (e ▸ hg))⟩
        obtain ⟨cs, h2, h3⟩ := h1.row
        exact ⟨cs, h2.weak (fun g hg _ => HPW.out g hg), fun i x hx => (h3 i x hx).weak (fun g hg _ => HPW.out g hg)⟩)
      go_wp2_with (refine wpList_store_nd (w.heap.size + 1) _ _ rfl rfl (HAB.out.res _ _) rfl rfl rfl ?_)
      exact bodyPost_ret (results_row_tmp (p := 6) (u := 7) (ty := 26) rfl _ _ (w.heap.size + 1) 26 #[.int .i64 k, .string t, .slice a3 l.length c3, .bool br, .bool bl, .slice na no.length nc, .slice ta2 ta.length tc] (0, 0) _ rfl (setRow_heap _ _ _ _ _ _ (HAB.out.res _ _)) Try.underlying26 rfl infoNd7 _ rfl) rfl ⟨.slice a3 l.length c3, _, rfl, HFIN.out _ _ _, below_row9 (HAB.out.2.2.2.setCell (Nat.le_refl _) _) (by omega) _⟩
set_option maxRecDepth 100000 in
theorem turned_any (p : Nat) (hp : p ≤ 6) : ∀ (m : Nat), m ≤ 5000 → ∀ (n : Nd), cnt n ≤ m → smk 100 n → txk n → ∀ (K : Nat) (P : Nat → Prop) (c : List Value) (w : World), K ≤ 10000 → NdIn w P c n → (∀ g, w.heap.size ≤ g → P g) →
    Calls Try.prog 22 #[.agg c.toArray, .int .i64 (K : Int), .int .i64 (p : Int)] w fun e w' => TRes w P (trn K p n) e w'
  | 0, _, n, hn, _, _, _, _, _, _, _, _, _ => by have := cnt_pos n; omega
  | m + 1, hm, .mk k t l br bl no ta, hn, hs, ht, K, P, c, w, hK, h, hP => by
    have ih := turned_any p hp m (by omega)
    simp only [cnt] at hn
    simp only [smk] at hs
    simp only [txk] at ht
    have hll := len_cntL l
    cases h with
    | mk _ _ _ _ _ _ _ lv nv tv cs hn2 ht2 hl2 hc2 =>
      have hnn := hn2
      have htt := ht2
      obtain ⟨na, nc, rfl, -⟩ := hnn
      obtain ⟨ta2, tc, rfl, -⟩ := htt
      have hrow : RowIn w P lv l := ⟨cs, hl2, hc2⟩
      obtain ⟨la, lc, rfl, -⟩ := hl2
      by_cases h0 : K = 0
      · subst h0
        have e0 : trn 0 p (.mk k t l br bl no ta) = trz p (.mk k t l br bl no ta) := by simp only [trn, if_true]
        rw [e0]
        have kp : ∀ {W}, Below w.heap.size w W → Keeps P w W := fun hb => keeps_below hb
        have hp7 : p = 0 ∨ p = 1 ∨ p = 2 ∨ p = 3 ∨ p = 4 ∨ p = 5 ∨ p = 6 := by omega
        rcases hp7 with rfl | rfl | rfl | rfl | rfl | rfl | rfl
        · refine (turned_0_0 k t l.length no.length ta.length br bl la na ta2 lc nc tc w).mono ?_
          rintro e w1 ⟨rfl, hb⟩
          exact ⟨[_, _, _, _, _, _, _], _, rfl, NdIn.of_row _ _ _ _ (hn2.keep (kp hb)) (ht2.keep (kp hb)) (hrow.keep (kp hb)), hb⟩
        · refine (turned_0_1 k t l.length no.length ta.length br bl la na ta2 lc nc tc ht.1 w).mono ?_
          rintro e w1 ⟨rfl, hb⟩
          exact ⟨[_, _, _, _, _, _, _], _, rfl, NdIn.of_row _ _ _ _ (hn2.keep (kp hb)) (ht2.keep (kp hb)) (hrow.keep (kp hb)), hb⟩
        · refine (turned_0_2 k t l.length no.length ta.length br bl la na ta2 lc nc tc w).mono ?_
          rintro e w1 ⟨rfl, hb⟩
          exact ⟨[_, _, _, _, _, _, _], _, rfl, NdIn.of_row _ _ _ _ (hn2.keep (kp hb)) (ht2.keep (kp hb)) (hrow.keep (kp hb)), hb⟩
        · refine (turned_0_3 k t l.length ta.length br bl la na ta2 lc nc tc no (by omega) w hn2.at).mono ?_
          rintro e w1 ⟨a, c, rfl, hx, hb⟩
          exact ⟨[_, _, _, _, _, _, _], _, rfl, NdIn.of_row _ _ _ _ (txs_in hx hP (by simp)) (ht2.keep (kp hb)) (hrow.keep (kp hb)), hb⟩
        · refine (turned_0_4 k t l.length no.length br bl la na ta2 lc nc tc ta (by omega) w ht2.at).mono ?_
          rintro e w1 ⟨a, c, rfl, hx, hb⟩
          exact ⟨[_, _, _, _, _, _, _], _, rfl, NdIn.of_row _ _ _ _ (hn2.keep (kp hb)) (txs_in hx hP (by simp)) (hrow.keep (kp hb)), hb⟩
        · refine (turned_0_5 (fun g => P g ∧ g ≠ w.heap.size ∧ g ≠ w.heap.size + 1) k t no.length ta.length br bl la na ta2 lc nc tc l (by omega) w ?_ (fun g hg => ⟨hP g (by omega), by omega, by omega⟩) (fun h => h.2.1 rfl) (fun h => h.2.2 rfl)).mono ?_
          · obtain ⟨cs3, g1, g2⟩ := hrow
            have hw : ∀ g, P g → g < w.heap.size → P g ∧ g ≠ w.heap.size ∧ g ≠ w.heap.size + 1 := fun g hg hl => ⟨hg, by omega, by omega⟩
            exact ⟨cs3, g1.weak hw, fun i x hx => (g2 i x hx).weak hw⟩
          · rintro e w1 ⟨a, c, rfl, ⟨cs3, g1, g2⟩, hb⟩
            exact ⟨[_, _, _, _, _, _, _], _, rfl, NdIn.of_row _ _ _ _ (hn2.keep (kp hb)) (ht2.keep (kp hb)) (show RowIn w1 P (.slice a (l.length + 1) c) (l ++ [nul]) from ⟨cs3, g1.weak (fun g hg _ => hg.1), fun i x hx => (g2 i x hx).weak (fun g hg _ => hg.1)⟩), hb⟩
        · refine (turned_0_6 k t l.length no.length ta.length br bl la na ta2 lc nc tc w).mono ?_
          rintro e w1 ⟨rfl, hb⟩
          exact ⟨[_, _, _, _, _, _, _], _, rfl, NdIn.of_row _ _ _ _ (hn2.keep (kp hb)) (ht2.keep (kp hb)) (hrow.keep (kp hb)), hb⟩
      · refine (turned_more k t l br bl no ta la na ta2 lc nc tc K (by omega) hK p w P hP hrow (by omega) (by omega) (Lib.hid fun x q hx c W h => rtcount_any 5000 (by omega) x (by have := cnt_at hx; omega) c W h) (Lib.hid fun x q hx K' P' c W hK' h hP' => ih x (by have := cnt_at hx; omega) (smk_kid hs.2.2 hx) (txk_at ht.2 hx) K' P' c W hK' h hP')).mono ?_
        rintro e w1 ⟨lv2, x2, rfl, hr2, hb⟩
        have e1 : trn K p (.mk k t l br bl no ta) = .mk k t (trnL K p 1 l) br bl no ta := by simp only [trn, if_neg h0]
        rw [e1]
        exact ⟨[_, _, _, _, _, _, _], _, rfl, NdIn.of_row _ _ _ _ (hn2.keep (keeps_below hb)) (ht2.keep (keeps_below hb)) hr2, hb⟩
end Go.Proofs.Ytkdaombcbcegfaa
