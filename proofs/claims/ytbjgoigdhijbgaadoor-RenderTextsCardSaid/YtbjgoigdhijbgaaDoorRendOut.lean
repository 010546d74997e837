/-
  THE PROGRAM's layouts: Render and Modes.
-/
import Derived.Test.YtbjgoigdhijbgaaDoorRendLaidM
set_option linter.all false
/- THE PROGRAM's layouts: what is written into a builder. -/
namespace Go.Proofs.YtbjgoigdhijbgaaDoor
open Go.RowKit Go.PlainAid Go.Shelf

/-- A builder at b holds these bytes; what it owns lies from B on. -/
structure Bdr (B b : Nat) (S : ByteArray) (W : World) : Prop where
  bld : Lib.IsBuilderF 51 5 B b (Lib.byteCells S.data.toList) W
  lt : B ≤ W.heap.size
/-- What a builder does not own is as it was. -/
structure FrB (B b : Nat) (A C : World) : Prop where
  bel : Below B A C
  keep : ∀ g, g < A.heap.size → SfB B b A g → C.heap[g]? = A.heap[g]?
theorem SfB.loc {B b g : Nat} {A C : World} (h : SfB B b A g) (e : C.heap[g]? = A.heap[g]?) : SfB B b C g := ⟨h.1, h.2.imp id (fun ⟨o, h1, h2⟩ => ⟨o, e.trans h1, h2⟩)⟩
theorem FrB.trans {B b : Nat} {A C D : World} (h : FrB B b A C) (k : FrB B b C D) : FrB B b A D :=
  ⟨h.bel.trans k.bel, fun g hg hs => (k.keep g (Nat.lt_of_lt_of_le hg h.bel.size) (hs.loc (h.keep g hg hs))).trans (h.keep g hg hs)⟩
theorem FrB.of {B b : Nat} {A C : World} (hB : B ≤ A.heap.size) (h : Below A.heap.size A C) : FrB B b A C := ⟨h.mono hB, fun g hg _ => h.block g hg⟩
theorem FrB.refl (B b : Nat) (A : World) : FrB B b A A := ⟨Below.refl _ _, fun _ _ _ => rfl⟩
theorem Bdr.keep {B b : Nat} {S : ByteArray} {A C : World} (h : Bdr B b S A) (hk : Below A.heap.size A C) : Bdr B b S C := ⟨bld_keep h.bld (fun g hg _ => hk.block g hg), Nat.le_trans h.lt hk.size⟩
theorem byte_app (S T : ByteArray) : Lib.byteCells (S ++ T).data.toList = Lib.byteCells S.data.toList ++ Lib.strCells T := by rw [Lib.strCells_eq, ← Lib.byteCells_append]; simp
theorem bwrite_any (B b : Nat) (S T : ByteArray) (W : World) (h : Bdr B b S W) (hs : S.size + T.size ≤ 140737488355328) :
    Calls Tryd.prog 26 #[.pointer (some ⟨b, 0, none⟩), .string T] W fun e w' => e = .returned (.tuple #[.int .i64 (T.size : Int), .nilIface]) ∧ Bdr B b (S ++ T) w' ∧ FrB B b W w' := by
  refine (Any.Builder_WriteString_k bl166 blX B b (Lib.byteCells S.data.toList) T W h.bld (by
    rw [Lib.byteCells_length]
    have h4 : S.data.toList.length = S.size := by simp
    rw [h4]
    exact hs) h.lt).mono ?_
  rintro e w' ⟨rfl, hbu, hb2, hok⟩
  refine ⟨rfl, ⟨by rw [byte_app]; exact .inr hbu, Nat.le_trans h.lt hb2.size⟩, hb2, fun g hg hs => ?_⟩
  exact (tn_bld hb2 hok).block g hg (fun k => k hs)
theorem blk9_size (n : Int) : (blk9 n).size = n.toNat := by show (Array.replicate n.toNat (32 : UInt8)).size = _; simp
theorem blk9_add (m n : Nat) : blk9 (m : Int) ++ blk9 (n : Int) = blk9 ((m + n : Nat) : Int) := by
  apply ByteArray.ext
  simp only [blk9, ByteArray.data_append, Array.replicate_append_replicate, Int.toNat_natCast]
theorem indt_blk (n : Int) : indt n = blk9 ((min n.toNat 20000 : Nat) : Int) := by
  apply ByteArray.ext
  simp [indt, blks, blk9]
set_option maxRecDepth 100000 in
set_option maxHeartbeats 8000000 in
theorem indent_any (B b : Nat) (S : ByteArray) (n : Nat) (W : World) (h : Bdr B b S W) (hn : n ≤ 100000000) (hs : S.size ≤ 100000000000000) :
    Calls Tryd.prog 28 #[.pointer (some ⟨b, 0, none⟩), .int .i64 (n : Int)] W fun e w' => e = .returned (.tuple #[]) ∧ Bdr B b (S ++ blk9 (n : Int)) w' ∧ FrB B b W w' := by
  have HH := Lib.hid h
  clear h
  go_enter Tryd.func28, Tryd.ntmps28
  go_wp2_with fail
  go_loopg [1] n (fun gn r wi => ∃ (m : Nat), gn = m ∧ m ≤ n ∧ r = .int .i64 (m : Int) ∧ Hid (Bdr B b (S ++ blk9 ((n - m : Nat) : Int)) wi) ∧ Hid (FrB B b W wi))
  case atStart => exact ⟨n, rfl, Nat.le_refl _, rfl, Lib.hid (by rw [Nat.sub_self, show ((0 : Nat) : Int) = 0 from rfl, blk9_0, ba_empty_r]; exact HH.out), Lib.hid (FrB.refl _ _ _)⟩
  case round =>
    obtain ⟨m, hgm, hm, rfl, HBi, HFi⟩ := hrel
    by_cases h0 : 0 < m
    · have m0 : (0 : Int) < (m : Int) := by omega
      obtain ⟨q, hq⟩ : ∃ q, q = min m 20000 := ⟨_, rfl⟩
      have hT : indt (m : Int) = blk9 (q : Int) := by rw [indt_blk, hq]; rfl
      obtain ⟨T, hTe⟩ : ∃ T, T = blk9 (q : Int) := ⟨_, rfl⟩
      have hTs : T.size = q := by rw [hTe, blk9_size]; rfl
      have HI := Lib.hid (fun V => cindent_any (m : Int) V)
      rw [hT, ← hTe] at HI
      have hSs : (S ++ blk9 ((n - m : Nat) : Int)).size ≤ 100000100000000 := by
        rw [ByteArray.size_append, blk9_size]; omega
      have hsum : S ++ blk9 ((n - m : Nat) : Int) ++ T = S ++ blk9 ((n - (m - q) : Nat) : Int) := by
        rw [ByteArray.append_assoc, hTe, blk9_add, show n - m + q = n - (m - q) by omega]
      have HSUM := Lib.hid hsum
      have hqm : q ≤ m := by omega
      have hq0 : 0 < q := by omega
      have hwm : IntKind.i64.wrap ((m : Int) - (T.size : Int)) = ((m - q : Nat) : Int) := by rw [hTs, IntKind.wrap_i64]; omega
      have hwm2 : wrap64 ((m : Int) - (T.size : Int)) = ((m - q : Nat) : Int) := by rw [hTs]; unfold wrap64; omega
      obtain ⟨m2, hm2⟩ : ∃ m2, m2 = m - q := ⟨_, rfl⟩
      rw [← hm2] at hwm hwm2 HSUM
      have HW := Lib.hid (fun V hV => bwrite_any B b (S ++ blk9 ((n - m : Nat) : Int)) T V hV (by omega))
      have HM2 := Lib.hid (⟨by omega, by omega⟩ : m2 < m ∧ m2 ≤ n)
      clear hT hTe hTs hq hSs hsum hqm hq0 hm2
      go_wp2_with fail
      refine (HI.out _).mono ?_
      rintro e w1 ⟨rfl, hb1⟩
      have HB1 := Lib.hid (HBi.out.keep hb1)
      have HF1 := Lib.hid (HFi.out.trans (FrB.of HBi.out.lt hb1))
      clear hb1
      go_wp2_with fail
      refine (HW.out _ HB1.out).mono ?_
      rintro e w2 ⟨rfl, hb2, hf2⟩
      have HB2 := Lib.hid hb2
      have HF2 := Lib.hid (HF1.out.trans hf2)
      rw [HSUM.out] at HB2
      clear hb2 hf2
      go_wp2_with fail
      go_roundg m2
      case measure => have := HM2.out; omega
      case rel => exact ⟨m2, rfl, HM2.out.2, rfl, HB2, HF2⟩
    · obtain rfl : m = 0 := by omega
      go_wp2_with fail
      go_end0
      exact ⟨rfl, by have := HBi.out; rwa [Nat.sub_zero] at this, HFi.out⟩
end Go.Proofs.YtbjgoigdhijbgaaDoor
/- THE PROGRAM's layouts: Render. -/
namespace Go.Proofs.YtbjgoigdhijbgaaDoor
open Go.RowKit Go.PlainAid Go.Shelf

theorem emP_end {p : Prt} (h : (med (dkd p.1) && !p.2.2) = true) (t : List Prt) (o : ByteArray) (w : Int) : emP (p :: t) o w = emP t (o ++ ⟨#[10]⟩) p.2.1 := by rw [emP, if_pos h]
theorem emP_no {p : Prt} (h : (med (dkd p.1) && !p.2.2) = false) (h2 : (wrt p.1).size = 0) (t : List Prt) (o : ByteArray) (w : Int) : emP (p :: t) o w = emP t o w := by rw [emP, if_neg (by rw [h]; simp), if_pos h2]
theorem emP_put {p : Prt} (h : (med (dkd p.1) && !p.2.2) = false) (h2 : ¬ (wrt p.1).size = 0) (t : List Prt) (o : ByteArray) (w : Int) : emP (p :: t) o w = emP t (o ++ blk9 w ++ wrt p.1) 0 := by rw [emP, if_neg (by rw [h]; simp), if_neg h2]
theorem emP_nil (o : ByteArray) (w : Int) : emP [] o w = o := rfl
/-- What is read while the builder grows. -/
structure RdB (B b : Nat) (g : Nat) (R : List Ent) (W : World) : Prop where
  row : RowQ W g R
  lf : ∀ (k : Nat) (e : Ent), R[k]? = some e → LfC W e.x e.g e.o ∧ SfB B b W e.g
  sf : SfB B b W g
theorem RdB.keep {B b g : Nat} {R : List Ent} {A C : World} (h : RdB B b g R A) (hf : FrB B b A C) : RdB B b g R C := by
  have hg := hf.keep g h.row.lt.1 h.sf
  refine ⟨h.row.keep hg, fun k e hk => ?_, h.sf.loc hg⟩
  obtain ⟨⟨h1, a, cap, y0, y1, y2, y3⟩, h2⟩ := h.lf k e hk
  have he := hf.keep e.g h1 h2
  have hc : ∀ j, C.cell? ⟨e.g, j, none⟩ = A.cell? ⟨e.g, j, none⟩ := fun j => keeps_cell (P := fun q => q = e.g) ⟨hf.bel.size, fun q hq _ => by rw [hq]; exact he⟩ rfl h1
  exact ⟨⟨Nat.lt_of_lt_of_le h1 hf.bel.size, a, cap, (hc _).trans y0, (hc _).trans y1, (hc _).trans y2, (hc _).trans y3⟩, h2.loc he⟩
theorem SfB.of {B b g : Nat} {A : World} {T : TypeId} {p v : Value} {cs : Array Value} {ty : TypeId} {fr : Nat × Nat} (hb : A.heap[b]? = some (.cells #[p, v] T (0, 0))) (hg : A.heap[g]? = some (.cells cs ty fr)) (h1 : ty ≠ T) (h2 : ty ≠ 5) : SfB B b A g := by
  refine ⟨fun e => ?_, .inr ⟨_, hg, fun c fz e => ?_⟩⟩
  · subst e
    rw [hb] at hg
    injection hg with hg
    injection hg with _ h3 _
    exact h1 h3.symm
  · injection e with _ h3 _
    exact h2 h3
theorem len_tl7 (s : ByteArray) : s.toList.length = s.size := by rw [ByteArray.toList_eq]; rfl
theorem ret_si {a b : ByteArray} {c d : Int} (h : a = b) (h' : c = d) : Ending.returned (.tuple #[.string a, .int .i64 c]) = .returned (.tuple #[.string b, .int .i64 d]) := by rw [h, h']
/-- May it be laid out? -/
def okR (W : Int) (d : Dc) : Bool := decide (1 ≤ W) && decide (W ≤ 10000) && drt d
set_option maxRecDepth 100000 in
set_option maxHeartbeats 8000000 in
theorem prender_any (d : Dc) (hd : dcnt d ≤ 90000) (hz : dtz 1048576 d) (c : List Value) (W : Int) (w : World) (h : DcAt w c d) (ht : Tabs w) :
    Calls Tryd.prog 11 #[.agg c.toArray, .int .i64 W] w fun e w' => e = .returned (.tuple #[.string (if okR W d = true then txtD W d else ⟨#[]⟩), .int .i64 (if okR W d = true then 0 else 1)]) ∧ Below w.heap.size w w' := by
  obtain ⟨k, n, t, lv, rfl⟩ : ∃ k n t lv, c = [.int .i64 k, .int .i64 n, .string t, lv] := by
    cases d with
    | mk k n t l => obtain ⟨lv, cs, rfl, -⟩ := h.inv; exact ⟨_, _, _, _, rfl⟩
  have HM := Lib.hid (rmay_any d hd _ W (w.alloc (.cells #[.int .i64 k, .int .i64 n, .string t, lv] 24)) (h.bel (below1 _ _)))
  obtain ⟨ok, hok⟩ : ∃ b, b = okR W d := ⟨_, rfl⟩
  have hok2 : ok = (decide (1 ≤ W) && decide (W ≤ 10000) && drt d) := hok
  rw [← hok2] at HM
  rw [← hok]
  obtain ⟨T, hTT⟩ : ∃ T, T = txtD W d := ⟨_, rfl⟩
  rw [← hTT]
  have HTT := Lib.hid hTT
  clear hTT
  obtain ⟨d0, d1, d2, d3⟩ := (four_of0 (new_at9 (W := w) (ob := .cells #[.int .i64 k, .int .i64 n, .string t, lv] 24)))
  have HX := Lib.hid h
  have HD := Lib.hid hd
  have HZ := Lib.hid hz
  have HOK := Lib.hid hok2
  clear h hd hz hok hok2
  go_enter Tryd.func11, Tryd.ntmps11
  go_wp2_with fail
  refine HM.out.mono ?_
  rintro e w1 ⟨rfl, hb1⟩
  have hx1 : w1.heap[w.heap.size]? = some (.cells #[.int .i64 k, .int .i64 n, .string t, lv] 24) := (hb1.block _ (by simp)).trans new_at9
  have HB1 : Hid (Below w.heap.size w w1) := Lib.hid ((below1 _ _).trans (hb1.mono (by simp)))
  have hs1 : w.heap.size < w1.heap.size := lt_of_block hx1
  have HX1 := Lib.hid hx1
  clear hb1 d0 d1 d2 d3 HM hx1
  cases ok
  · go_wp2_with fail
    go_ret2
    exact ⟨ret_si (by simp) (by simp), HB1.out⟩
  · have h3 := HOK.out.symm
    simp only [Bool.and_eq_true, decide_eq_true_eq] at h3
    obtain ⟨⟨h31, h32⟩, h33⟩ := h3
    obtain ⟨B, hB⟩ : ∃ B, B = w1.heap.size := ⟨_, rfl⟩
    obtain ⟨W2, hW2⟩ : ∃ W2, W2 = w1.alloc (.cells #[.pointer none, .slice none 0 0] 51) := ⟨_, rfl⟩
    have b2 : Below w1.heap.size w1 W2 := by rw [hW2]; exact below1 _ _
    have hbb : W2.heap[B]? = some (.cells #[.pointer none, .slice none 0 0] 51) := by rw [hW2, hB]; exact new_at9
    have bw2 : Below w.heap.size w W2 := HB1.out.trans (b2.mono HB1.out.size)
    have hin : DcIn W2 (fun g => g < w.heap.size) [.int .i64 k, .int .i64 n, .string t, lv] d := (HX.out.keep (keeps_below bw2)).wide (fun g h1 h2 => h2)
    have HL := Lib.hid (laid_any d HD.out h33 HZ.out _ W h31 h32 W2 (fun g => g < w.heap.size) (fun g hg => Nat.lt_of_lt_of_le hg bw2.size) hin (ht.below bw2))
    have hbd2 : Bdr B B ⟨#[]⟩ W2 := ⟨.inl (Lib.BuilderAtF.of ⟨Nat.le_refl _, .slice none 0 0, hbb, World.ownsRow_nil _ _ _ _, by simp [Value.ownBlock]⟩), by rw [hB]; exact b2.size⟩
    have hx2 : W2.heap[w.heap.size]? = some (.cells #[.int .i64 k, .int .i64 n, .string t, lv] 24) := (b2.block _ hs1).trans HX1.out
    have HBE := Lib.hid hB
    have HWE := Lib.hid hW2
    have HBD2 := Lib.hid hbd2
    have HBB := Lib.hid hbb
    have HBW := Lib.hid bw2
    obtain ⟨d0, d1, d2, d3⟩ := four_of0 hx2
    clear hB hW2 hbd2 hbb bw2 b2 hin hx2 ht
    go_upto_region 5 with fail
    rw [← HBE.out, ← HWE.out]
    go_wp2_with fail
    refine HL.out.mono ?_
    rintro e w3 ⟨g, cp, R, rfl, ⟨hQ, hcp⟩, hlf, hR3, hb3⟩
    have hbb3 := (hb3.block B (lt_of_block HBB.out)).trans HBB.out
    have hxr : R.map xr = prO 0 d := by rw [← laidD_all W d, ← hR3, List.map_map]; rfl
    obtain ⟨N, hN⟩ : ∃ N, N = R.length := ⟨_, rfl⟩
    have hNb : N ≤ 90000 := by
      have h1 := congrArg List.length hxr
      rw [List.length_map, prO_len] at h1
      have := HD.out
      omega
    have hrr : ∀ (k : Nat) (e : Ent), R[k]? = some e → 0 ≤ e.r ∧ e.r ≤ 90000000 := fun k e hk => by
      have h1 : xr e ∈ prO 0 d := by rw [← hxr]; exact List.mem_map_of_mem (List.mem_of_getElem? hk)
      obtain ⟨h2, h3⟩ := prO_rgt d 0 h33 _ h1
      have h4 : (xr e).2 = e.r := rfl
      rw [h4] at h2 h3
      have := HD.out
      omega
    have hRd : RdB B B g R w3 := {
      row := hQ
      lf := fun k e hk => by
        obtain ⟨h1, h2, -⟩ := hlf k e hk
        refine ⟨h1, ?_⟩
        rcases h2 with h2 | ⟨cs, fr, h2⟩
        · have := HBE.out
          exact ⟨by omega, .inl (by omega)⟩
        · exact SfB.of hbb3 h2 (by decide) (by decide)
      sf := by
        obtain ⟨cs, h1, -⟩ := hQ
        exact SfB.of hbb3 h1 (by decide) (by decide) }
    have hsz : ∀ (k : Nat) (e : Ent), R[k]? = some e → (dtx e.x).size ≤ 1048576 := fun k e hk => (hlf k e hk).2.2
    have htx : txtD W d = emP (R.map pr3) ⟨#[]⟩ 0 := by rw [txtD_prog, hR3]
    have hT : T = emP (R.map pr3) ⟨#[]⟩ 0 := HTT.out.trans htx
    rw [← hN] at hcp ⊢
    have HBD3 := Lib.hid (HBD2.out.keep hb3)
    have HRD3 := Lib.hid hRd
    have HB3 := Lib.hid (HBW.out.trans (hb3.mono HBW.out.size))
    have HNE := Lib.hid hN
    have HTE := Lib.hid hT
    have HRR := Lib.hid hrr
    have HSZ := Lib.hid hsz
    have hBw : w.heap.size ≤ B := by rw [HBE.out]; exact HB1.out.size
    have HBw := Lib.hid hBw
    clear hbb3 hxr hrr hRd hsz htx hT hN hQ hlf hR3 hb3 HL HBD2 HBB HBW HWE d0 d1 d2 d3 hBw
    go_wp2_with fail
    go_loopg [7, 19] N (fun gn rv c wi => ∃ (k r : Nat) (S : ByteArray), gn = N - k ∧ k ≤ N ∧ c = .int .i64 (k : Int) ∧ rv = .int .i64 (r : Int) ∧ r ≤ 90000000 ∧ Hid (emP ((R.drop k).map pr3) S (r : Int) = T) ∧ Hid (S.size ≤ k * 100000000) ∧ Hid (Bdr B B S wi) ∧ Hid (RdB B B g R wi) ∧ Hid (Below w.heap.size w wi))
    case atStart => exact ⟨0, 0, ⟨#[]⟩, rfl, Nat.zero_le _, rfl, rfl, by decide, Lib.hid HTE.out.symm, Lib.hid (by decide), HBD3, HRD3, HB3⟩
    case round =>
      clear HBD3 HRD3 HB3 HTE
      obtain ⟨k', r, S, hgn, hkN, rfl, rfl, hr9, HEM, HSS, HBD, HRD, HBW⟩ := hrel
      by_cases hlt : k' < N
      · have kb0 : (0 : Int) ≤ (k' : Int) := Int.natCast_nonneg _
        have kb1 : (k' : Int) < (N : Int) := by omega
        have hkR : k' < R.length := by rw [← HNE.out]; exact hlt
        obtain ⟨en, hen⟩ : ∃ en, R[k']? = some en := ⟨_, List.getElem?_eq_getElem hkR⟩
        have hdr : (R.drop k').map pr3 = pr3 en :: (R.drop (k' + 1)).map pr3 := by
          rw [List.drop_eq_getElem_cons hkR, (List.getElem?_eq_some_iff.1 hen).2]; rfl
        have hem := HEM.out
        rw [hdr] at hem
        obtain ⟨c0, c1, c2⟩ := HRD.out.row.cells hen
        have hsx := HSZ.out k' en hen
        obtain ⟨hr0, hr1⟩ := HRR.out k' en hen
        obtain ⟨x, eg, eo, er, ef⟩ := en
        simp only at c0 c1 c2 hsx hr0 hr1
        obtain ⟨er', her⟩ : ∃ er' : Nat, er = (er' : Int) := ⟨er.toNat, by omega⟩
        subst her
        have hr2 : er' ≤ 90000000 := by omega
        have hss := HSS.out
        have hk9 : k' ≤ 90000 := by omega
        obtain ⟨q, hq⟩ : ∃ q, q = wr.heap.size := ⟨_, rfl⟩
        obtain ⟨V, hV⟩ : ∃ V, V = wr.alloc (.cells #[.pointer (some ⟨eg, eo, none⟩), .int .i64 (er' : Int), .bool ef] 56) := ⟨_, rfl⟩
        have bV : Below wr.heap.size wr V := by rw [hV]; exact below1 _ _
        have hbx : V.heap[q]? = some (.cells #[.pointer (some ⟨eg, eo, none⟩), .int .i64 (er' : Int), .bool ef] 56) := by rw [hV, hq]; exact new_at9
        have HBD1 := Lib.hid (HBD.out.keep bV)
        have HRD1 := Lib.hid (HRD.out.keep (FrB.of HBD.out.lt bV))
        have HBW1 := Lib.hid (HBW.out.trans (bV.mono HBW.out.size))
        obtain ⟨pb, vb, hbb⟩ := bld_block HBD1.out.bld
        have hsq : SfB B B V q := SfB.of hbb hbx (by decide) (by decide)
        have HSQ := Lib.hid hsq
        have HBX := Lib.hid hbx
        have HQ := Lib.hid hq
        have HV := Lib.hid hV
        have HEM2 := Lib.hid hem
        clear hq hV bV hbx hbb hsq hem hdr
        go_upto_region 8 with fail
        rw [← HQ.out, ← HV.out]
        clear HQ HV c0 c1 c2
        obtain ⟨⟨x0, x1, x2⟩, -⟩ := three_of HBX.out
        obtain ⟨m, hm⟩ : ∃ m, m = (med (dkd x) && !ef) := ⟨_, rfl⟩
        have HEN := Lib.hid (rends_any x eg eo (er' : Int) ef V (HRD1.out.lf k' _ hen).1)
        rw [← hm] at HEN
        have HMM := Lib.hid hm
        have HEE := Lib.hid hen
        clear hm hen
        unfold cmV at HEN
        cases m
        · go_wp2_with fail
          refine HEN.out.mono ?_
          rintro e w4 ⟨rfl, hb4⟩
          have HBD2 := Lib.hid (HBD1.out.keep hb4)
          have HRD2 := Lib.hid (HRD1.out.keep (FrB.of HBD1.out.lt hb4))
          have HBW2 := Lib.hid (HBW1.out.trans (hb4.mono HBW1.out.size))
          have HBX2 := Lib.hid ((hb4.block q (lt_of_block HBX.out)).trans HBX.out)
          have HSQ2 := Lib.hid (HSQ.out.loc (hb4.block q (lt_of_block HBX.out)))
          clear hb4 x0 x1 x2 HBD1 HRD1 HBW1 HBX HSQ HEN
          obtain ⟨⟨x0, x1, x2⟩, -⟩ := three_of HBX2.out
          have HWR := Lib.hid (rwritten_any x eg eo (er' : Int) ef w4 (HRD2.out.lf k' _ HEE.out).1)
          unfold cmV at HWR
          obtain ⟨U, hU⟩ : ∃ U, U = wrt x := ⟨_, rfl⟩
          have hUs : U.size ≤ 1048576 := by rw [hU]; exact wrt_sz hsx
          rw [← hU] at HWR
          have HUU := Lib.hid hU
          clear hU
          by_cases h0 : U.size = 0
          · have hl : (U.toList == []) = true := by
              have h1 := ByteArray.toList_eq U
              have h2 : U.data = #[] := Array.eq_empty_of_size_eq_zero h0
              rw [h1, h2]; rfl
            have hl2 : (U.toList != []) = false := by simp [bne, hl]
            have HEM3 := Lib.hid ((emP_no (p := pr3 ⟨x, eg, eo, er', ef⟩) HMM.out.symm (by show (wrt x).size = 0; rw [← HUU.out]; exact h0) _ _ _).symm.trans HEM2.out)
            clear h0
            go_wp2_with fail
            refine HWR.out.mono ?_
            rintro e w5 ⟨rfl, hb5⟩
            have HBD3 := Lib.hid (HBD2.out.keep hb5)
            have HRD3 := Lib.hid (HRD2.out.keep (FrB.of HBD2.out.lt hb5))
            have HBW3 := Lib.hid (HBW2.out.trans (hb5.mono HBW2.out.size))
            clear hb5
            go_wp2_with fail
            go_roundg (N - (k' + 1))
            case measure => omega
            case rel => exact ⟨k' + 1, r, S, rfl, hlt, by go_num, rfl, hr9, HEM3, Lib.hid (Nat.le_trans hss (Nat.mul_le_mul_right _ (Nat.le_succ k'))), HBD3, HRD3, HBW3⟩
          · have hl : (U.toList == []) = false := by
              cases hl : U.toList with
              | nil =>
                have h1 := len_tl7 U
                rw [hl] at h1
                exact absurd h1.symm h0
              | cons => rfl
            have hl2 : (U.toList != []) = true := by simp [bne, hl]
            have HEM3 := Lib.hid ((emP_put (p := pr3 ⟨x, eg, eo, er', ef⟩) HMM.out.symm (by show ¬ (wrt x).size = 0; rw [← HUU.out]; exact h0) _ _ _).symm.trans HEM2.out)
            clear h0
            go_wp2_with fail
            refine HWR.out.mono ?_
            rintro e w5 ⟨rfl, hb5⟩
            have HBD3 := Lib.hid (HBD2.out.keep hb5)
            have HRD3 := Lib.hid (HRD2.out.keep (FrB.of HBD2.out.lt hb5))
            have HBW3 := Lib.hid (HBW2.out.trans (hb5.mono HBW2.out.size))
            clear hb5
            go_wp2_with fail
            have hq1 : r ≤ 100000000 := Nat.le_trans hr9 (by decide)
            have hq2 : S.size ≤ 100000000000000 := Nat.le_trans hss (Nat.le_trans (Nat.mul_le_mul_right _ hk9) (by decide))
            refine (indent_any B B S r w5 HBD3.out hq1 hq2).mono ?_
            rintro e w6 ⟨rfl, hbd6, hf6⟩
            have HBD4 := Lib.hid hbd6
            have HRD4 := Lib.hid (HRD3.out.keep hf6)
            have HBW4 := Lib.hid (HBW3.out.trans (hf6.bel.mono HBw.out))
            clear hbd6 hf6
            go_wp2_with fail
            have hs4 : (S ++ blk9 (r : Int)).size ≤ k' * 100000000 + 90000000 := by rw [ByteArray.size_append, blk9_size]; omega
            refine (bwrite_any B B (S ++ blk9 (r : Int)) U w6 HBD4.out (by omega)).mono ?_
            rintro e w7 ⟨rfl, hbd7, hf7⟩
            have HBD5 := Lib.hid hbd7
            have HRD5 := Lib.hid (HRD4.out.keep hf7)
            have HBW5 := Lib.hid (HBW4.out.trans (hf7.bel.mono HBw.out))
            have hs5 : (S ++ blk9 (r : Int) ++ U).size ≤ (k' + 1) * 100000000 := by rw [ByteArray.size_append]; omega
            clear hbd7 hf7
            have HEM4 : Hid (emP ((R.drop (k' + 1)).map pr3) (S ++ blk9 (r : Int) ++ U) ((0 : Nat) : Int) = T) := Lib.hid (by have := HEM3.out; rw [HUU.out]; exact this)
            go_wp2_with fail
            go_roundg (N - (k' + 1))
            case measure => omega
            case rel => exact ⟨k' + 1, 0, S ++ blk9 (r : Int) ++ U, rfl, hlt, by go_num, rfl, by decide, HEM4, Lib.hid hs5, HBD5, HRD5, HBW5⟩
        · have HEM3 := Lib.hid ((emP_end (p := pr3 ⟨x, eg, eo, er', ef⟩) HMM.out.symm _ _ _).symm.trans HEM2.out)
          go_wp2_with fail
          refine HEN.out.mono ?_
          rintro e w4 ⟨rfl, hb4⟩
          have HBD2 := Lib.hid (HBD1.out.keep hb4)
          have HRD2 := Lib.hid (HRD1.out.keep (FrB.of HBD1.out.lt hb4))
          have HBW2 := Lib.hid (HBW1.out.trans (hb4.mono HBW1.out.size))
          have HBX2 := Lib.hid ((hb4.block q (lt_of_block HBX.out)).trans HBX.out)
          have HSQ2 := Lib.hid (HSQ.out.loc (hb4.block q (lt_of_block HBX.out)))
          clear hb4 x0 x1 x2 HBD1 HRD1 HBW1 HBX HSQ HEN
          go_wp2_with fail
          refine (bwrite_any B B S ⟨#[10]⟩ w4 HBD2.out (by show S.size + 1 ≤ _; omega)).mono ?_
          rintro e w5 ⟨rfl, hbd5, hf5⟩
          have HBD3 := Lib.hid hbd5
          have HRD3 := Lib.hid (HRD2.out.keep hf5)
          have HBW3 := Lib.hid (HBW2.out.trans (hf5.bel.mono HBw.out))
          obtain ⟨⟨x0, x1, x2⟩, -⟩ := three_of ((hf5.keep q (lt_of_block HBX2.out) HSQ2.out).trans HBX2.out)
          have hs5 : (S ++ (⟨#[10]⟩ : ByteArray)).size ≤ (k' + 1) * 100000000 := by rw [ByteArray.size_append]; show S.size + 1 ≤ _; omega
          clear hbd5 hf5
          go_wp2_with fail
          go_roundg (N - (k' + 1))
          case measure => omega
          case rel => exact ⟨k' + 1, er', S ++ ⟨#[10]⟩, rfl, hlt, by go_num, rfl, hr2, HEM3, Lib.hid hs5, HBD3, HRD3, HBW3⟩
      · obtain rfl : k' = N := by omega
        have jn : ¬ (k' : Int) < (k' : Int) := by omega
        have hem := HEM.out
        rw [List.drop_eq_nil_of_le (by rw [← HNE.out]; exact Nat.le_refl _)] at hem
        have hST : S = T := hem
        have HS := Lib.hid (Any.Builder_String_any_k bl169 blX B B _ _ HBD.out.bld HBD.out.lt)
        have e7 : (⟨S.data.toList.toArray⟩ : ByteArray) = S := by simp
        rw [e7] at HS
        subst hST
        clear hem e7
        go_wp2_with fail
        refine HS.out.mono ?_
        rintro e w9 ⟨rfl, -, hb9, -⟩
        have HB9 := Lib.hid (HBW.out.trans (hb9.mono HBw.out))
        clear hb9
        go_wp2_with fail
        go_ret2
        exact ⟨ret_si (by simp) (by simp), HB9.out⟩
end Go.Proofs.YtbjgoigdhijbgaaDoor
/- THE PROGRAM's layouts: Modes. -/
namespace Go.Proofs.YtbjgoigdhijbgaaDoor
open Go.RowKit Go.PlainAid Go.Shelf

/-- A row of bools of one's own. -/
abbrev BlR (W : World) (b : Nat) (v : Value) (M : List Bool) : Prop := W.ownsRow b 4 1 v M.length (M.map Value.bool)
theorem infoBl : (Tryd.prog.info? 4).map (fun i => (i.zero, i.size, i.bytes)) = some (some (.bool false), 1, 1) := by kernel_rfl
theorem run_append_bl {w : World} (ty : TypeId) (base : Nat) (v : Value) (M : List Bool) (hown : BlR w base v M) (q : Nat) (f : Bool)
    (hc : w.heap[q]? = some (.cells #[.bool f] 4 (0, 0))) (hl : M.length ≤ 1000000) (hbase : base ≤ w.heap.size) :
    ∃ v' w', (Builtin.append_ #[30, 30] ty #[v, .slice (some ⟨q, 0, none⟩) 1 1]).run Tryd.prog w = .ok v' w' ∧ BlR w' base v' (M ++ [f]) ∧ w.grownBy w' v.ownBlock := by
  obtain ⟨i0, hi, hz0, hz1, hz2⟩ := info_parts infoBl
  have c0 : w.cell? ⟨q, 0, none⟩ = some (.bool f) := cell_of_row w q 0 _ _ _ hc
  obtain ⟨v', w', hr, h2, h3, -, h5⟩ := run_append_own_at (P := Tryd.prog) w base 30 ty 4 i0 _ 1 1 Tryd.underlying30 hi hz0 hz1 hz2 rfl (by decide) v M.length (M.map Value.bool) hown ⟨q, 0, none⟩ 1 1 [Value.bool f] rfl
    (fun j y hj => by
      match j, hj with
      | 0, hj => simp only [List.getElem?_cons_zero, Option.some.injEq] at hj; subst hj; simpa [Addr.add] using c0
      | j + 1, hj => simp at hj)
    (by intro y hy; simp only [List.mem_cons, List.not_mem_nil, or_false] at hy; subst hy; rfl) (by unfold maxLen; omega) (by omega) hbase
  refine ⟨v', w', hr, ?_, h3⟩
  show w'.ownsRow base _ 1 v' (M ++ [f]).length ((M ++ [f]).map Value.bool)
  simp only [List.length_append, List.length_cons, List.length_nil, List.map_append, List.map_cons, List.map_nil]
  exact h2
theorem wpList_append_bl {w : World} {ops : Array Oper} {rest : List Oper} {o : Oper} {a : Act} {Q : Exit → Act → World → Prop} (hgd : o.guard = none) (s' x' : Operand)
    (ho : o.op = .call { callee := .builtin .append, args := #[s', x'], argTypes := #[30, 30] }) (base : Nat) (v : Value) (M : List Bool) (hs : a.eval s' = v) (hown : BlR w base v M) (q : Nat) (f : Bool) (hx : a.eval x' = .slice (some ⟨q, 0, none⟩) 1 1)
    (hc : w.heap[q]? = some (.cells #[.bool f] 4 (0, 0))) (hl : M.length ≤ 1000000) (hbase : base ≤ w.heap.size)
    (h : ∀ v' w', BlR w' base v' (M ++ [f]) → w.grownBy w' v.ownBlock → wpList Tryd.prog ops Q rest (a.put o.dst v') w') :
    wpList Tryd.prog ops Q (o :: rest) a w := by
  refine wpList_plain hgd fun K hK => ?_
  obtain ⟨v', w', hr, h2, h3⟩ := run_append_bl o.type base v M hown q f hc hl hbase
  unfold Oper.wp execOp
  simp only [ho, resolve, invoke, builtin, Sem.run_bind, Sem.run_pure, Result.andThen_ok, List.map_toArray, List.map_cons, List.map_nil, hs, hx, hr]
  exact hK _ _ (h v' w' h2 h3)
theorem BlR.keep {W W' : World} {b : Nat} {v : Value} {M : List Bool} (h : BlR W b v M) (hk : Below W.heap.size W W') : BlR W' b v M := by
  obtain ⟨h0, h1 | ⟨g, cap, cur, rfl, hb, hg, h2⟩⟩ := h
  · exact ⟨h0, .inl h1⟩
  · exact ⟨h0, .inr ⟨g, cap, cur, rfl, hb, (hk.block g (lt_of_block hg)).trans hg, h2⟩⟩
theorem BlR.own {W : World} {b k : Nat} {v : Value} {M : List Bool} (h : BlR W b v M) (hk : v.ownBlock = some k) : b ≤ k := by
  obtain ⟨-, ⟨rfl, -⟩ | ⟨g, cap, cur, rfl, hb, hg, -⟩⟩ := h
  · cases hk
  · cases hk; exact hb
theorem BlR.grown {W W' : World} {b : Nat} {v : Value} {M : List Bool} (h : BlR W b v M) (hg : W.grownBy W' v.ownBlock) (hb : b ≤ W.heap.size) : Below b W W' :=
  (Below.refl b W).grown hg hb (fun k hk => h.own hk)
theorem BlR.slice {W : World} {b : Nat} {v : Value} {M : List Bool} (h : BlR W b v M) : ∃ a c, v = .slice a M.length c ∧ M.length ≤ c ∧ c ≤ maxLen := by
  obtain ⟨-, ⟨rfl, e⟩ | ⟨g, cap, cur, rfl, -, -, h5, h6, -⟩⟩ := h
  · exact ⟨_, _, by rw [e], by omega, Nat.zero_le _⟩
  · exact ⟨_, _, rfl, h5, h6⟩
theorem BlR.nil (W : World) (b : Nat) : BlR W b (.slice none 0 0) [] := World.ownsRow_nil _ _ _ _
theorem BlR.weak {W : World} {b b' : Nat} {v : Value} {M : List Bool} (h : BlR W b v M) (hb : b' ≤ b) : BlR W b' v M := by
  obtain ⟨h0, h1 | ⟨g, cap, cur, rfl, hb2, h2⟩⟩ := h
  · exact ⟨h0, .inl h1⟩
  · exact ⟨h0, .inr ⟨g, cap, cur, rfl, Nat.le_trans hb hb2, h2⟩⟩
/-- The flags of the groups among them. -/
def mdsL (l : List Prt) : List Bool := (l.filter fun p => dkd p.1 == 7).map (·.2.2)
theorem mdsL_snoc (l : List Prt) (p : Prt) : mdsL (l ++ [p]) = mdsL l ++ if (dkd p.1 == 7) = true then [p.2.2] else [] := by
  unfold mdsL
  rw [List.filter_append, List.map_append]
  congr 1
  by_cases h : (dkd p.1 == 7) = true
  · rw [if_pos h, List.filter_cons, if_pos h]; rfl
  · rw [if_neg h, List.filter_cons, if_neg h]; rfl
theorem mdsL_le (l : List Prt) : (mdsL l).length ≤ l.length := by unfold mdsL; rw [List.length_map]; exact List.length_filter_le _ _
set_option maxRecDepth 100000 in
set_option maxHeartbeats 8000000 in
theorem pmodes_any (d : Dc) (hd : dcnt d ≤ 90000) (hz : dtz 1048576 d) (c : List Value) (W : Int) (w : World) (h : DcAt w c d) (ht : Tabs w) :
    Calls Tryd.prog 13 #[.agg c.toArray, .int .i64 W] w fun e w' => ∃ v, e = .returned v ∧ BlR w' w.heap.size v (if okR W d = true then mdsD W d else []) ∧ Below w.heap.size w w' := by
  obtain ⟨k, n, t, lv, rfl⟩ : ∃ k n t lv, c = [.int .i64 k, .int .i64 n, .string t, lv] := by
    cases d with
    | mk k n t l => obtain ⟨lv, cs, rfl, -⟩ := h.inv; exact ⟨_, _, _, _, rfl⟩
  have HM := Lib.hid (rmay_any d hd _ W (w.alloc (.cells #[.int .i64 k, .int .i64 n, .string t, lv] 24)) (h.bel (below1 _ _)))
  obtain ⟨ok, hok⟩ : ∃ b, b = okR W d := ⟨_, rfl⟩
  have hok2 : ok = (decide (1 ≤ W) && decide (W ≤ 10000) && drt d) := hok
  rw [← hok2] at HM
  rw [← hok]
  obtain ⟨T, hTT⟩ : ∃ T, T = mdsD W d := ⟨_, rfl⟩
  rw [← hTT]
  have HTT := Lib.hid hTT
  obtain ⟨d0, d1, d2, d3⟩ := (four_of0 (new_at9 (W := w) (ob := .cells #[.int .i64 k, .int .i64 n, .string t, lv] 24)))
  have HX := Lib.hid h
  have HD := Lib.hid hd
  have HZ := Lib.hid hz
  have HOK := Lib.hid hok2
  clear h hd hz hok hok2 hTT
  go_enter Tryd.func13, Tryd.ntmps13
  go_wp2_with fail
  refine HM.out.mono ?_
  rintro e w1 ⟨rfl, hb1⟩
  have hx1 : w1.heap[w.heap.size]? = some (.cells #[.int .i64 k, .int .i64 n, .string t, lv] 24) := (hb1.block _ (by simp)).trans new_at9
  have HB1 : Hid (Below w.heap.size w w1) := Lib.hid ((below1 _ _).trans (hb1.mono (by simp)))
  clear hb1 d0 d1 d2 d3 HM
  obtain ⟨d0, d1, d2, d3⟩ := four_of0 hx1
  clear hx1
  cases ok
  · go_wp2_with fail
    go_ret
    exact ⟨.slice none 0 0, rfl, by first | exact BlR.nil _ _ | simpa using BlR.nil _ _, HB1.out⟩
  · have h3 := HOK.out.symm
    simp only [Bool.and_eq_true, decide_eq_true_eq] at h3
    obtain ⟨⟨h31, h32⟩, h33⟩ := h3
    have hin : DcIn w1 (fun g => g < w.heap.size) [.int .i64 k, .int .i64 n, .string t, lv] d := (HX.out.keep (keeps_below HB1.out)).wide (fun g h1 h2 => h2)
    have HL := Lib.hid (laid_any d HD.out h33 HZ.out _ W h31 h32 w1 (fun g => g < w.heap.size) (fun g hg => Nat.lt_of_lt_of_le hg HB1.out.size) hin (ht.below HB1.out))
    clear hin ht
    go_wp2_with fail
    refine HL.out.mono ?_
    rintro e w3 ⟨g, cp, R, rfl, ⟨hQ, hcp⟩, hlf, hR3, hb3⟩
    obtain ⟨N, hN⟩ : ∃ N, N = R.length := ⟨_, rfl⟩
    have hxr : R.map xr = prO 0 d := by rw [← laidD_all W d, ← hR3, List.map_map]; rfl
    have hNb : N ≤ 90000 := by
      have h1 := congrArg List.length hxr
      rw [List.length_map, prO_len] at h1
      have := HD.out
      omega
    have hT : T = mdsL (R.map pr3) := by rw [hR3]; exact HTT.out
    rw [← hN] at hcp ⊢
    obtain ⟨s, hs⟩ : ∃ s, s = w3.heap.size := ⟨_, rfl⟩
    have HQ := Lib.hid hQ
    have HLF := Lib.hid (fun k e hk => (hlf k e hk).1)
    have HB3 := Lib.hid (HB1.out.trans (hb3.mono HB1.out.size))
    have HNE := Lib.hid hN
    have HTE := Lib.hid hT
    have HS := Lib.hid hs
    have HGL : Hid (g < s) := Lib.hid (by rw [hs]; exact hQ.lt.1)
    have hnil : Hid (BlR w3 s (.slice none 0 0) []) := Lib.hid (BlR.nil _ _)
    have hbl0 : Hid (Below s w3 w3) := Lib.hid (Below.refl _ _)
    clear hxr hT hN hQ hlf hR3 hb3 HL d0 d1 d2 d3 hs
    go_wp2_with fail
    go_loopg [5, 16] N (fun gn v c wi => ∃ (k : Nat) (M : List Bool), gn = N - k ∧ k ≤ N ∧ c = .int .i64 (k : Int) ∧ Hid (BlR wi s v M) ∧ Hid (M = mdsL ((R.take k).map pr3)) ∧ Hid (Below s w3 wi))
    case atStart => exact ⟨0, [], rfl, Nat.zero_le _, rfl, hnil, Lib.hid rfl, hbl0⟩
    case round =>
      clear hnil hbl0
      obtain ⟨k', M, hgn, hkN, rfl, HBL, HME, HBi⟩ := hrel
      have hsi : s ≤ wr.heap.size := by have := HBi.out.size; have := HS.out; omega
      by_cases hlt : k' < N
      · have kb0 : (0 : Int) ≤ (k' : Int) := Int.natCast_nonneg _
        have kb1 : (k' : Int) < (N : Int) := by omega
        have hkR : k' < R.length := by rw [← HNE.out]; exact hlt
        obtain ⟨en, hen⟩ : ∃ en, R[k']? = some en := ⟨_, List.getElem?_eq_getElem hkR⟩
        have hM2 : mdsL ((R.take (k' + 1)).map pr3) = M ++ if (dkd en.x == 7) = true then [en.f] else [] := by
          rw [List.take_add_one, hen, Option.toList_some, List.map_append, List.map_cons, List.map_nil, mdsL_snoc, ← HME.out]
          rfl
        have hMl : M.length ≤ 90000 := by
          have h1 := mdsL_le ((R.take k').map pr3)
          rw [← HME.out, List.length_map, List.length_take] at h1
          omega
        have bsi : Below s w3 wr := HBi.out
        obtain ⟨c0, c1, c2⟩ := HQ.out.cells hen
        obtain ⟨hg3, al, cl, y0, -, -, -⟩ := HLF.out k' en hen
        have p0 := (bsi.cell (p := ⟨g, k' * 3, none⟩) HGL.out).trans c0
        have p1 := (bsi.cell (p := ⟨g, k' * 3 + 1, none⟩) HGL.out).trans c1
        have p2 := (bsi.cell (p := ⟨g, k' * 3 + 2, none⟩) HGL.out).trans c2
        have hgs : en.g < s := by rw [HS.out]; exact hg3
        have z0 := (bsi.cell (p := ⟨en.g, en.o, none⟩) hgs).trans y0
        obtain ⟨x, eg, eo, er, ef⟩ := en
        simp only at p0 p1 p2 z0 hgs hM2
        obtain ⟨q, hq⟩ : ∃ q, q = wr.heap.size := ⟨_, rfl⟩
        obtain ⟨V, hV⟩ : ∃ V, V = wr.alloc (.cells #[.pointer (some ⟨eg, eo, none⟩), .int .i64 er, .bool ef] 56) := ⟨_, rfl⟩
        have bV : Below wr.heap.size wr V := by rw [hV]; exact below1 _ _
        have hbx : V.heap[q]? = some (.cells #[.pointer (some ⟨eg, eo, none⟩), .int .i64 er, .bool ef] 56) := by rw [hV, hq]; exact new_at9
        have HBL1 := Lib.hid (HBL.out.keep bV)
        have HBi1 := Lib.hid (HBi.out.trans (bV.mono hsi))
        have hsv : s ≤ V.heap.size := Nat.le_trans hsi bV.size
        have zz := (bV.cell (p := ⟨eg, eo, none⟩) (Nat.lt_of_lt_of_le hgs hsi)).trans z0
        have HQE := Lib.hid hq
        have HV := Lib.hid hV
        have HBX := Lib.hid hbx
        have HM2 := Lib.hid hM2
        clear hq hV hbx bV y0 c0 c1 c2 hg3 bsi hM2
        go_upto_region 7 with fail
        rw [← HQE.out, ← HV.out]
        clear HQE HV p0 p1 p2 z0
        obtain ⟨⟨x0, x1, x2⟩, -⟩ := three_of HBX.out
        by_cases h7 : dkd x = 7
        · have h7b : (dkd x == 7) = true := by simpa using h7
          rw [h7b, if_pos rfl] at HM2
          obtain ⟨av, cv, rfl, hcv, hcv2⟩ := HBL1.out.slice
          have HAB := Lib.hid (HBL1.out.keep (below1 V (.cells #[.bool ef] 4)))
          go_wp2_with (at_builtin; go_must (refine wpList_append_bl rfl _ _ rfl s _ M rfl HAB.out V.heap.size ef rfl (new_at9 (W := V)) (by omega) (by simp; omega) ?_); intro v5 w5 hown hgrow)
          have hb5 : Below s V w5 := ((below1 V (.cells #[.bool ef] 4)).mono hsv).trans (HAB.out.grown hgrow (by simp; omega))
          go_roundg (N - (k' + 1))
          case measure => omega
          case rel => exact ⟨k' + 1, M ++ [ef], rfl, hlt, by go_num, Lib.hid hown, Lib.hid HM2.out.symm, Lib.hid (HBi1.out.trans hb5)⟩
        · have h7b : (dkd x == 7) = false := by simpa using h7
          rw [h7b, if_neg (by simp), List.append_nil] at HM2
          go_wp2_with fail
          go_roundg (N - (k' + 1))
          case measure => omega
          case rel => exact ⟨k' + 1, M, rfl, hlt, by go_num, HBL1, Lib.hid HM2.out.symm, HBi1⟩
      · obtain rfl : k' = N := by omega
        have jn : ¬ (k' : Int) < (k' : Int) := by omega
        have hM := HME.out
        rw [List.take_of_length_le (by rw [← HNE.out]; exact Nat.le_refl _), ← HTE.out] at hM
        subst hM
        have hsw : w.heap.size ≤ s := by rw [HS.out]; exact HB3.out.size
        obtain ⟨av, cv, rfl, -, -⟩ := HBL.out.slice
        go_wp2_with fail
        go_ret
        exact ⟨_, rfl, by first | exact HBL.out.weak hsw | simpa using HBL.out.weak hsw, HB3.out.trans (HBi.out.mono hsw)⟩
end Go.Proofs.YtbjgoigdhijbgaaDoor
