/-
  THE PROGRAM's split: the closure that cuts.
-/
import Derived.Test.YtaaijenbcfjdlaaSplitForm
import Derived.Laws.ResultCell
namespace Go.Proofs.Ytaaijenbcfjdlaa
open Go.RowKit Go.PlainAid

/-- A block that was made stays. -/
def KM (W w' : World) : Prop := ∀ B, Mk W B 0 0 false false → Mk w' B 0 0 false false
theorem Mk.below {W W' : World} {B : Nat} {a b : Int} {n c : Bool} (h : Mk W B a b n c) (hb : Below W.heap.size W W') : Mk W' B a b n c := by
  unfold Mk at h ⊢; rw [hb.block _ (lt_of_block h)]; exact h
theorem km_of {W W' : World} (hb : Below W.heap.size W W') : KM W W' := fun _ h => h.below hb
theorem mk_new_d (w : World) (a b : Int) (n c : Bool) : Mk (w.alloc (.cells #[.int .i64 a, .int .i64 b, .bool n, .bool c] 23)).drew w.heap.size a b n c := mk_new w a b n c
theorem Mk.put4 {W : World} {B : Nat} {a b : Int} {n c : Bool} (h : Mk W B a b n c) (a' b' : Int) (n' c' : Bool) : Mk ((((W.setCell ⟨B, 0, none⟩ (.int .i64 a')).setCell ⟨B, 1, none⟩ (.int .i64 b')).setCell ⟨B, 2, none⟩ (.bool n')).setCell ⟨B, 3, none⟩ (.bool c')) B a' b' n' c' := by
  have h0 : Mk (W.setCell ⟨B, 0, none⟩ (.int .i64 a')) B a' b n c := by
    have := Lib.heap_setCell_same (i := 0) h (.int .i64 a')
    unfold Mk; simpa using this
  have h3 := (((h0.to b').note n'))
  have := Lib.heap_setCell_same (i := 3) h3 (.bool c')
  unfold Mk; simpa using this
theorem grown_set {a W : World} {r : Nat} (h : a.grownBy W (some r)) {B : Nat} (hB : a.heap.size ≤ B ∨ B = r) (i : Nat) (u : Value) : a.grownBy (W.setCell ⟨B, i, none⟩ u) (some r) := by
  have g : W.grownBy (W.setCell ⟨B, i, none⟩ u) (some B) := ⟨by simp [World.setCell], by simp [World.setCell], by simp [World.setCell], by simp, fun k _ hne => Below.heap_setCell _ _ _ _ (by intro e; exact hne (by rw [e]))⟩
  refine ⟨g.os.trans h.os, g.tape.trans h.tape, g.output.trans h.output, Nat.le_trans h.size g.size, fun k hk hne => (g.block k (Nat.lt_of_lt_of_le hk h.size) ?_).trans (h.block k hk hne)⟩
  intro e
  simp only [Option.some.injEq] at e
  rcases hB with hB | hB
  · omega
  · exact hne (by rw [e, hB])
theorem grown_bel {a W W' : World} {r : Option Nat} (h : a.grownBy W r) (hb : Below W.heap.size W W') : a.grownBy W' r :=
  ⟨hb.os.trans h.os, hb.tape.trans h.tape, hb.output.trans h.output, Nat.le_trans h.size hb.size, fun k hk hne => (hb.block k (Nat.lt_of_lt_of_le hk h.size)).trans (h.block k hk hne)⟩
theorem Cw.set {w W : World} {s : ByteArray} {v : Value} {k : Nat} (h : Cw w W s v k) {B : Nat} (hB : w.heap.size + 2 < B) (i : Nat) (u : Value) : Cw w (W.setCell ⟨B, i, none⟩ u) s v k := by
  obtain ⟨h1, h2, h3, h4⟩ := h
  refine ⟨?_, ?_, ?_, h4.setCell (by show w.heap.size ≤ B; omega) _⟩
  · rw [Below.heap_setCell _ _ _ _ (by show w.heap.size ≠ B; omega)]; exact h1
  · rw [Below.heap_setCell _ _ _ _ (by show w.heap.size + 1 ≠ B; omega)]; exact h2
  · rw [Below.heap_setCell _ _ _ _ (by show w.heap.size + 2 ≠ B; omega)]; exact h3
theorem Mk.other {W : World} {B : Nat} {a b : Int} {n c : Bool} (h : Mk W B a b n c) {B' : Nat} (hB : B ≠ B') (i : Nat) (u : Value) : Mk (W.setCell ⟨B', i, none⟩ u) B a b n c := by
  unfold Mk at h ⊢; rw [Below.heap_setCell _ _ _ _ hB]; exact h
set_option maxRecDepth 100000 in
theorem cut_end (s : ByteArray) (a : Option Addr) (N cap : Nat) (w W : World) (h : Cw w W s (.slice a N cap) N) :
    Calls Try.prog 32 #[.pointer (some ⟨w.heap.size + 2, 0, none⟩), .pointer (some ⟨w.heap.size + 1, 0, none⟩), .pointer (some ⟨w.heap.size, 0, none⟩)] W fun e W' => e = .returned (.tuple #[.agg #[.int .i64 0, .int .i64 0, .bool false, .bool false], .bool false]) ∧ Below W.heap.size W W' := by
  obtain ⟨c1, c2, c3⟩ := (h.below (below1 W (.cells #[.int .i64 0, .int .i64 0, .bool false, .bool false] 23))).cells
  clear h
  go_enter Try.func32, Try.ntmps32
  go_wp2_with fail
  refine bodyPost_ret (v := .tuple #[.agg #[.int .i64 0, .int .i64 0, .bool false, .bool false], .bool false]) (by rw [results_cell_tmp rfl]; go_simp) rfl ?_
  exact ⟨rfl, below1 _ _⟩
set_option maxRecDepth 100000 in
set_option maxHeartbeats 4000000 in
theorem cut_go {s : ByteArray} {L : List Tk3} {j0 : Nat} (hsc : sc s j0 = some L) (hs : s.size ≤ 1048576) (hl : L.length ≤ 1048576) (v : Value) (k : Nat) (x : Tk3) (hx : L[k]? = some x) (w W : World) (ht : TRow w v (toks s L)) (h : Cw w W s v k) :
    Calls Try.prog 32 #[.pointer (some ⟨w.heap.size + 2, 0, none⟩), .pointer (some ⟨w.heap.size + 1, 0, none⟩), .pointer (some ⟨w.heap.size, 0, none⟩)] W fun e W' => e = .returned (.tuple #[.agg #[.int .i64 (k : Int), .int .i64 ((k + itn (L.drop k) : Nat) : Int), .bool (x.1 == 11), .bool (decide (2 ≤ nls s L k))], .bool true]) ∧ Cw w W' s v (k + itn (L.drop k)) ∧ W.grownBy W' (some (w.heap.size + 2)) := by
  have htW : TRow W v (toks s L) := ht.below h.2.2.2
  have HFE := Lib.hid (fun (h11 : x.1 ≠ 11) W2 hW => formEnd_any hl v k x hx h11 W2 hW (s := s))
  have HCM := Lib.hid (fun W2 => comm8_any x.1 (x.2.1 : Int) (s.extract x.2.1 x.2.2) W2)
  have HBL := Lib.hid (fun W2 hW => blankg_any hsc hs hl v (k : Int) W2 hW)
  have hk : k < L.length := (List.getElem?_eq_some_iff.1 hx).1
  have hdr := drop_cons hx
  obtain ⟨K, ya, ye⟩ := x
  obtain ⟨P, hP⟩ : ∃ P, P = s.extract ya ye := ⟨_, rfl⟩
  obtain ⟨b, hb⟩ : ∃ b, b = decide (2 ≤ nls s L k) := ⟨_, rfl⟩
  obtain ⟨n, hn⟩ : ∃ n, n = (K == 11) := ⟨_, rfl⟩
  have hin := itn_in hk
  have hi1 : n = true → itn (L.drop k) = 1 := fun e => by rw [hdr, itn_note]; rw [hn] at e; simpa using e
  have hi2 : n = false → K ≠ 11 := fun e => by rw [hn] at e; simpa using e
  obtain ⟨q, hq⟩ : ∃ q, q = k + itn (L.drop k) := ⟨_, rfl⟩
  simp only at HFE HCM ⊢
  rw [← hq] at hin HFE ⊢
  rw [← hP, ← hn] at HCM
  rw [← hb] at HBL ⊢
  rw [← hn]
  have hi3 : n = true → q = k + 1 := fun e => by rw [hq, hi1 e]
  obtain ⟨T, hT⟩ : ∃ T, T = toks s L := ⟨_, rfl⟩
  have hxT : T[k]? = some (K, P, (ya : Int)) := by rw [hT, hP]; exact toks_at hx
  have hTl : T.length = L.length := by rw [hT, toks_len]
  rw [← hT] at HFE HBL htW
  obtain ⟨N, hN⟩ : ∃ N, N = L.length := ⟨_, rfl⟩
  rw [← hN] at hk hin hl hTl
  have HFE := Lib.hid (fun (e : n = false) W2 hW => HFE.out (hi2 e) W2 hW)
  clear hdr hi1 hi2 hq hb hn hP hsc hx hT ht hN
  have HTW := Lib.hid htW
  have HI3 := Lib.hid hi3
  clear hi3
  obtain ⟨a, cap, rfl, hr⟩ := htW
  obtain ⟨g, o, rfl, hg, hc⟩ := hr (by omega)
  obtain ⟨t1, t2, t3⟩ := hc k _ hxT
  simp only at t1 t2 t3
  rw [hTl] at h HFE HBL HTW ⊢
  obtain ⟨c1, c2, c3⟩ := h.cells
  have HC := Lib.hid h
  have kn : (k : Int) < (N : Int) := by omega
  have kne : ((k : Int) == (N : Int)) = false := beq_false_of_ne (by omega)
  obtain ⟨Wa, hWa⟩ : ∃ Wa, Wa = W.alloc (.cells #[.int .i64 0, .int .i64 0, .bool false, .bool false] 23) := ⟨_, rfl⟩
  have hbW : Below W.heap.size W Wa := by rw [hWa]; exact below1 _ _
  have hszW : W.heap.size < Wa.heap.size := by rw [hWa]; simp
  have C := Lib.hid (fun W2 (hb : Below Wa.heap.size Wa W2) => (⟨(hb.cell (p := ⟨w.heap.size, 0, none⟩) (by have := lt_of_block h.1; show w.heap.size < Wa.heap.size; omega)).trans ((hbW.cell (p := ⟨w.heap.size, 0, none⟩) (lt_of_block h.1)).trans c1),
    (hb.cell (p := ⟨w.heap.size + 1, 0, none⟩) (by have := lt_of_block h.2.1; show w.heap.size + 1 < Wa.heap.size; omega)).trans ((hbW.cell (p := ⟨w.heap.size + 1, 0, none⟩) (lt_of_block h.2.1)).trans c2),
    (hb.cell (p := ⟨w.heap.size + 2, 0, none⟩) (by have := lt_of_block h.2.2.1; show w.heap.size + 2 < Wa.heap.size; omega)).trans ((hbW.cell (p := ⟨w.heap.size + 2, 0, none⟩) (lt_of_block h.2.2.1)).trans c3),
    (hb.cell (p := ⟨g, o + k * 3, none⟩) (by show g < Wa.heap.size; omega)).trans ((hbW.cell (p := ⟨g, o + k * 3, none⟩) hg).trans t1),
    (hb.cell (p := ⟨g, o + k * 3 + 1, none⟩) (by show g < Wa.heap.size; omega)).trans ((hbW.cell (p := ⟨g, o + k * 3 + 1, none⟩) hg).trans t2),
    (hb.cell (p := ⟨g, o + k * 3 + 2, none⟩) (by show g < Wa.heap.size; omega)).trans ((hbW.cell (p := ⟨g, o + k * 3 + 2, none⟩) hg).trans t3), Lib.hid hb⟩ :
    W2.cell? ⟨w.heap.size, 0, none⟩ = some (.string s) ∧ W2.cell? ⟨w.heap.size + 1, 0, none⟩ = some (.slice (some ⟨g, o, none⟩) N cap) ∧ W2.cell? ⟨w.heap.size + 2, 0, none⟩ = some (.int .i64 (k : Int)) ∧
    W2.cell? ⟨g, o + k * 3, none⟩ = some (.int .i64 K) ∧ W2.cell? ⟨g, o + k * 3 + 1, none⟩ = some (.string P) ∧ W2.cell? ⟨g, o + k * 3 + 2, none⟩ = some (.int .i64 (ya : Int)) ∧ Hid (Below Wa.heap.size Wa W2)))
  have D1 : Hid (∀ W2, Below Wa.heap.size Wa W2 → Calls Try.prog 33 #[.agg #[.int .i64 K, .string P, .int .i64 (ya : Int)]] W2 fun e w' => e = .returned (.bool n) ∧ Below Wa.heap.size Wa w' ∧ KM W2 w') := Lib.hid fun W2 hb => (HCM.out W2).mono fun e w' ⟨h1, h2⟩ => ⟨h1, hb.trans (h2.mono hb.size), km_of h2⟩
  have D2 : Hid (∀ W2, Below Wa.heap.size Wa W2 → Calls Try.prog 34 #[.string s, .slice (some ⟨g, o, none⟩) N cap, .int .i64 (k : Int)] W2 fun e w' => e = .returned (.bool b) ∧ Below Wa.heap.size Wa w' ∧ KM W2 w') := Lib.hid fun W2 hb => (HBL.out W2 ((HTW.out.below hbW).below hb)).mono fun e w' ⟨h1, h2⟩ => ⟨h1, hb.trans (h2.mono hb.size), km_of h2⟩
  have HWa : Hid (Below Wa.heap.size Wa (W.alloc (.cells #[.int .i64 0, .int .i64 0, .bool false, .bool false] 23)).drew) := Lib.hid (by rw [hWa]; exact Below.drew (Below.refl _ _))
  have G1 : IntKind.i64.wrap ((k : Int) + 1) = (k : Int) + 1 := by rw [IntKind.wrap_i64]; omega
  have HbW := Lib.hid hbW
  obtain ⟨c1, c2, c3, t1, t2, t3, -⟩ := C.out _ (Below.refl Wa.heap.size Wa)
  rw [hWa] at c1 c2 c3 t1 t2 t3
  have HszW := Lib.hid hszW
  have HWA := Lib.hid hWa
  clear HCM HBL hc hxT hWa hbW hszW hTl h hr
  go_enter Try.func32, Try.ntmps32
  go_wp2_with fail
  go_cut [5] from 11 to 23 (fun p wx => ∃ B, p = .pointer (some ⟨B, 0, none⟩) ∧ Hid (Wa.heap.size ≤ B) ∧ Hid (Mk wx B (k : Int) ((k : Int) + 1) n b) ∧ Hid (Below Wa.heap.size Wa wx))
  case first =>
    have Hsz : Wa.heap.size = W.heap.size + 1 := by rw [HWA.out]; simp
    have HSZ := Lib.hid Hsz
    clear Hsz
    have HWb : Hid (Below Wa.heap.size Wa ((W.alloc (.cells #[.int .i64 0, .int .i64 0, .bool false, .bool false] 23)).alloc (.cells #[.int .i64 0, .int .i64 0, .bool false, .bool false] 23)).drew) := Lib.hid (Below.drew (by rw [HWA.out]; exact below1 _ _))
    go_region_held3 (fun w' => w'.cell? ⟨w.heap.size, 0, none⟩ = some (.string s) ∧ w'.cell? ⟨w.heap.size + 1, 0, none⟩ = some (.slice (some ⟨g, o, none⟩) N cap) ∧ w'.cell? ⟨w.heap.size + 2, 0, none⟩ = some (.int .i64 (k : Int)) ∧
      w'.cell? ⟨g, o + k * 3, none⟩ = some (.int .i64 K) ∧ w'.cell? ⟨g, o + k * 3 + 1, none⟩ = some (.string P) ∧ w'.cell? ⟨g, o + k * 3 + 2, none⟩ = some (.int .i64 (ya : Int)) ∧ Hid (Below Wa.heap.size Wa w')) (first
      | (refine C.out _ ?_; repeat' (first | exact ht2 | exact ht1 | exact HWa.out | exact HWb.out | exact ht2.size | exact ht1.size | exact HWa.out.size | exact HWb.out.size | exact Nat.le_of_eq HSZ.out | refine Below.alloc ?_ ?_ _ | refine Below.setCell ?_ ?_ _))) (first
      | (go_at_call 33; refine (D1.out _ (by repeat' (first | exact HWa.out | exact HWb.out | exact HWa.out.size | exact HWb.out.size | refine Below.alloc ?_ ?_ _))).mono ?_; rintro e w1 ⟨rfl, ht1, hm1⟩; try (have m1 := hm1 _ (mk_new_d _ _ _ _ _); simp at m1))
      | (go_at_call 34; refine (D2.out _ (by repeat' (first | exact ht1 | exact ht1.size | refine Below.alloc ?_ ?_ _))).mono ?_; rintro e w2 ⟨rfl, ht2, hm2⟩; try ((first | have m2 := hm2 _ m1 | have m2 := hm2 _ (mk_new _ _ _ _ _)); obtain ⟨q0, q1, q2, q3⟩ := m2.cells; have f0 := frz_of m2 0; have f1 := frz_of m2 1; have f2 := frz_of m2 2; have f3 := frz_of m2 3)))
    all_goals go_wp2_with fail
    all_goals go_meet
    · exact ⟨_, rfl, Lib.hid ht2.size, Lib.hid (mk_new w2 _ _ _ _), Lib.hid (ht2.alloc ht2.size _)⟩
    · exact ⟨_, rfl, Lib.hid ht1.size, Lib.hid (m2.put4 _ _ _ _), Lib.hid ((((ht2.setCell ht1.size _).setCell ht1.size _).setCell ht1.size _).setCell ht1.size _)⟩
    · have hz := Nat.le_of_eq HSZ.out
      exact ⟨_, rfl, Lib.hid hz, Lib.hid (m2.put4 _ _ _ _), Lib.hid ((((ht2.setCell hz _).setCell hz _).setCell hz _).setCell hz _)⟩
  case rest =>
    obtain ⟨B, rfl, HLE, HM, HBX⟩ := hcut
    clear c1 c2 c3 t1 t2 t3 D1 D2
    have HCx : Hid (Cw w wc s (.slice (some ⟨g, o, none⟩) N cap) k) := Lib.hid ((HC.out.below HbW.out).below (HBX.out.mono (by omega)))
    have hG : W.grownBy wc (some (w.heap.size + 2)) := grown_bel (World.grownBy.refl _ _) (HbW.out.trans (HBX.out.mono HbW.out.size))
    have HG := Lib.hid hG
    have HA : Hid (Mk wc W.heap.size 0 0 false false) := Lib.hid (Mk.below (W := Wa) (by rw [HWA.out]; exact mk_new _ _ _ _ _) HBX.out)
    have HLT : Hid (w.heap.size + 2 < W.heap.size) := Lib.hid (lt_of_block HC.out.2.2.1)
    clear hG
    obtain ⟨m0, m1, m2, m3⟩ := HM.out.cells
    go_upto_if 26 with fail
    go_cut [27] from 28 to 30 (fun _ wx => Hid (Mk wx B (k : Int) (q : Int) n b) ∧ Hid (Mk wx W.heap.size 0 0 false false) ∧ Hid (Cw w wx s (.slice (some ⟨g, o, none⟩) N cap) k) ∧ Hid (W.grownBy wx (some (w.heap.size + 2))))
    case first =>
      cases n
      · obtain ⟨e1, e2, e3⟩ := HCx.out.cells
        have HF := Lib.hid (HFE.out rfl wc ((HTW.out.below HbW.out).below HBX.out))
        go_wp2_with fail
        refine HF.out.mono ?_
        rintro e w3 ⟨rfl, hb3⟩
        have HM3 := Lib.hid (HM.out.below hb3)
        have HC3 := Lib.hid (HCx.out.below hb3)
        have HA3 := Lib.hid (HA.out.below hb3)
        have HG3 := Lib.hid (grown_bel HG.out hb3)
        have fB := frz_of HM3.out 1
        obtain ⟨q0, q1, q2, q3⟩ := HM3.out.cells
        clear e1 e2 e3 m0 m1 m2 m3 hb3
        go_wp2_with fail
        go_meet
        have hBle := HLE.out
        have hW := HszW.out
        have hlt := HLT.out
        exact ⟨Lib.hid (HM3.out.to (q : Int)), Lib.hid (HA3.out.other (by omega) _ _), Lib.hid (HC3.out.set (by omega) _ _), Lib.hid (grown_set HG3.out (.inl (by omega)) _ _)⟩
      · obtain rfl : q = k + 1 := HI3.out rfl
        go_wp2_with fail
        go_meet
        exact ⟨HM, HA, HCx, HG⟩
    case rest =>
      clear HM HA HCx HG HBX m0 m1 m2 m3
      obtain ⟨HM, HA, HCx, HG⟩ := hcut
      obtain ⟨q0, q1, q2, q3⟩ := HM.out.cells
      have fr := frz_of HCx.out.2.2.1 0
      have e3 := HCx.out.cells.2.2
      have hne1 : ¬ B = w.heap.size + 2 := by have := HLE.out; have := HLT.out; have := HszW.out; omega
      have hne2 : ¬ w.heap.size + 2 = B := fun e => hne1 e.symm
      have HB0 : Mk (wc.setCell ⟨w.heap.size + 2, 0, none⟩ (.int .i64 (q : Int))) B (k : Int) (q : Int) n b := HM.out.other (by have := HLE.out; have := HLT.out; have := HszW.out; omega) _ _
      obtain ⟨p0, p1, p2, p3⟩ := HB0.cells
      clear HB0
      go_upto_region 7 with fail
      clear p0 p1 p2 p3
      obtain ⟨X, hX⟩ : ∃ X, X = wc.setCell ⟨w.heap.size + 2, 0, none⟩ (.int .i64 (q : Int)) := ⟨_, rfl⟩
      rw [← hX]
      have HB1 : Hid (Mk X B (k : Int) (q : Int) n b) := Lib.hid (by rw [hX]; exact HM.out.other (by have := HLE.out; have := HLT.out; have := HszW.out; omega) _ _)
      have HA1 : Hid (Mk X W.heap.size 0 0 false false) := Lib.hid (by rw [hX]; exact HA.out.other (by have := HLT.out; omega) _ _)
      have HC1 : Hid (Cw w X s (.slice (some ⟨g, o, none⟩) N cap) q) := Lib.hid (by rw [hX]; exact HCx.out.to q)
      have HG1 : Hid (W.grownBy X (some (w.heap.size + 2))) := Lib.hid (by rw [hX]; exact grown_set HG.out (.inr rfl) _ _)
      obtain ⟨p0, p1, p2, p3⟩ := HB1.out.cells
      obtain ⟨a0, a1, a2, a3⟩ := HA1.out.cells
      have g0 := frz_of HA1.out 0
      have g1 := frz_of HA1.out 1
      have g2 := frz_of HA1.out 2
      have g3 := frz_of HA1.out 3
      clear hX q0 q1 q2 q3 fr e3 hne1 hne2
      go_wp2_with fail
      have HA2 := HA1.out.put4 (k : Int) (q : Int) n b
      obtain ⟨r0, r1, r2, r3⟩ := HA2.cells
      clear HA2
      refine bodyPost_ret (v := .tuple #[.agg #[.int .i64 (k : Int), .int .i64 (q : Int), .bool n, .bool b], .bool true]) (by rw [results_cell_tmp rfl]; go_simp) rfl ?_
      have hz : W.heap.size ≤ W.heap.size := Nat.le_refl _
      exact ⟨by rfl, (((HC1.out.set HLT.out _ _).set HLT.out _ _).set HLT.out _ _).set HLT.out _ _, grown_set (grown_set (grown_set (grown_set HG1.out (.inl hz) _ _) (.inl hz) _ _) (.inl hz) _ _) (.inl hz) _ _⟩
end Go.Proofs.Ytaaijenbcfjdlaa
