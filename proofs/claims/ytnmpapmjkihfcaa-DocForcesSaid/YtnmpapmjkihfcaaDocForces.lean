/-
  A row is forced, if one of it is; a hard forces all that it stands in (promise 15.2): for every two documents and every number the statement DocForces returns true. No condition.
-/
import Derived.Test.YtnmpapmjkihfcaaBase
import Derived.Test.YtnmpapmjkihfcaaDoc
import Derived.Test.YtnmpapmjkihfcaaDocTold
import Derived.Test.YtnmpapmjkihfcaaRefDocD
import Derived.Test.YtnmpapmjkihfcaaRefDocS
import Derived.Deep.LoopGhost
import Derived.Deep.RegionHeld3
set_option linter.all false
namespace Go.Proofs.Ytnmpapmjkihfcaa.docForces
open Go.ChangeShapes Go.WideShapes Go.RowKit Go.PlainAid

def tT : Dc := .mk 1 0 ⟨#[116]⟩ []
def XD : Nat → Dc
  | 0 => .mk 4 0 ⟨#[]⟩ []
  | i + 1 => .mk 7 0 ⟨#[]⟩ [tT, XD i]
theorem XD_cnt : ∀ i, dcnt (XD i) = 2 * i + 1
  | 0 => rfl
  | i + 1 => by simp only [XD, dcnt, dcntL, XD_cnt i, tT]; omega
theorem XD_frc : ∀ i, dfrc (XD i) = true
  | 0 => rfl
  | i + 1 => by simp only [XD, dfrc, dfrcL, XD_frc i, Bool.true_or, Bool.or_true]
theorem XD_dtz : ∀ i, dtz 1048576 (XD i)
  | 0 => ⟨by show (0 : Nat) ≤ 1048576; omega, trivial⟩
  | i + 1 => ⟨by show (0 : Nat) ≤ 1048576; omega, ⟨by show (1 : Nat) ≤ 1048576; omega, trivial⟩, XD_dtz i, trivial⟩
theorem XD_nx (k : Int) : ∀ i, ∃ k l, XD i = .mk k 0 ⟨#[]⟩ l
  | 0 => ⟨_, _, rfl⟩
  | i + 1 => ⟨_, _, rfl⟩
theorem DcIn.on {A B : World} {P : Nat → Prop} {c : List Value} {x : Dc} (h : DcIn A P c x) (hb : Below A.heap.size A B) (ob : Obj) : DcIn (B.alloc ob) P c x := h.keep (keeps_below (hb.alloc hb.size ob))
theorem at_on {B : World} {x : Nat} {o ob : Obj} (h : B.heap[x]? = some o) : (B.alloc ob).heap[x]? = some o := (Lib.alloc_old B _ _ (lt_of_block h)).trans h
theorem kp1 {A B : World} {ob : Obj} (h : Hid (Below (A.alloc ob).heap.size (A.alloc ob) B)) : B.heap[A.heap.size]? = some ob := (h.out.block _ (by simp)).trans new_at
theorem kp2 {A B C : World} {ob : Obj} (h : Hid (Below (A.alloc ob).heap.size (A.alloc ob) B)) (h2 : Hid (Below B.heap.size B C)) : C.heap[A.heap.size]? = some ob := (h2.out.block _ (lt_of_block (kp1 h))).trans (kp1 h)
set_option maxRecDepth 100000 in
set_option maxHeartbeats 4000000 in
theorem core (b1 b2 : Bool) (d d' : Dc) (c c' : List Value) (n0 : Int) (w : World) (g : DcAt w c d) (g' : DcAt w c' d') (hf : fwD d = true) (hf' : fwD d' = true) (e1 : dfrc d = b1) (e2 : dfrc d' = b2) :
    Calls Try.prog 5 #[.agg c.toArray, .agg c'.toArray, .int .i64 n0] w fun e w' => e = .returned (.bool true) ∧ Below w.heap.size w w' := by
  have HF0 : Hid (∀ W, Below w.heap.size w W → Calls Try.prog 7 #[.agg c.toArray] W fun e w' => e = .returned (.bool true) ∧ Below W.heap.size W w') := Lib.hid fun W hb => hf ▸ fwD_any d c W (g.bel hb)
  have HF0' : Hid (∀ W, Below w.heap.size w W → Calls Try.prog 7 #[.agg c'.toArray] W fun e w' => e = .returned (.bool true) ∧ Below W.heap.size W w') := Lib.hid fun W hb => hf' ▸ fwD_any d' c' W (g'.bel hb)
  have HT0 : Hid (∀ W, Calls Try.prog 8 #[] W fun e w' => e = .returned (.bool true) ∧ Below W.heap.size W w') := Lib.hid fun W => told15_any W
  obtain ⟨o1, o2⟩ := fwD_ok hf
  obtain ⟨o1', o2'⟩ := fwD_ok hf'
  have o3 := dtz_mono (show 100 ≤ 1048576 by omega) _ o2
  have o3' := dtz_mono (show 100 ≤ 1048576 by omega) _ o2'
  obtain ⟨m, hm⟩ : ∃ m, m = dcnt d := ⟨_, rfl⟩
  obtain ⟨m', hm'⟩ : ∃ m, m = dcnt d' := ⟨_, rfl⟩
  obtain ⟨k, n, t, lv, rfl⟩ : ∃ k n t lv, c = [.int .i64 k, .int .i64 n, .string t, lv] := by
    cases d with
    | mk k n t l => obtain ⟨lv, cs, rfl, -⟩ := g.inv; exact ⟨_, _, _, _, rfl⟩
  obtain ⟨k', n', t', lv', rfl⟩ : ∃ k n t lv, c' = [.int .i64 k, .int .i64 n, .string t, lv] := by
    cases d' with
    | mk k n t l => obtain ⟨lv, cs, rfl, -⟩ := g'.inv; exact ⟨_, _, _, _, rfl⟩
  obtain ⟨Z, hZ⟩ : ∃ Z, Z = (w.alloc (.cells #[.int .i64 k, .int .i64 n, .string t, lv] 24)).alloc (.cells #[.int .i64 k', .int .i64 n', .string t', lv'] 24) := ⟨_, rfl⟩
  have hbW : Below w.heap.size w Z := by rw [hZ]; exact (below1 _ _).alloc (by simp) _
  have hzs : Z.heap.size = w.heap.size + 2 := by rw [hZ]; simp
  have HB0 : Hid (Below Z.heap.size Z ((w.alloc (.cells #[.int .i64 k, .int .i64 n, .string t, lv] 24)).alloc (.cells #[.int .i64 k', .int .i64 n', .string t', lv'] 24))) := Lib.hid (by rw [← hZ]; exact Below.refl _ _)
  have UP := Lib.hid (fun W (h : Below Z.heap.size Z W) => hbW.trans (h.mono hbW.size))
  have CC := Lib.hid (fun W (hb : Below Z.heap.size Z W) => (⟨(two_cells (by rw [hZ] at hb; exact hb)).1, (two_cells (by rw [hZ] at hb; exact hb)).2, Lib.hid hb⟩ :
    (W.cell? ⟨w.heap.size, 0, none⟩ = some (.int .i64 k) ∧ W.cell? ⟨w.heap.size, 1, none⟩ = some (.int .i64 n) ∧ W.cell? ⟨w.heap.size, 2, none⟩ = some (.string t) ∧ W.cell? ⟨w.heap.size, 3, none⟩ = some lv) ∧
    (W.cell? ⟨w.heap.size + 1, 0, none⟩ = some (.int .i64 k') ∧ W.cell? ⟨w.heap.size + 1, 1, none⟩ = some (.int .i64 n') ∧ W.cell? ⟨w.heap.size + 1, 2, none⟩ = some (.string t') ∧ W.cell? ⟨w.heap.size + 1, 3, none⟩ = some lv') ∧ Hid (Below Z.heap.size Z W)))
  have DF : Hid (∀ W, Below Z.heap.size Z W → Calls Try.prog 7 #[.agg #[.int .i64 k, .int .i64 n, .string t, lv]] W fun e w' => e = .returned (.bool true) ∧ Below Z.heap.size Z w') := Lib.hid fun W h => (HF0.out W (UP.out W h)).mono fun e w' ⟨h1, h2⟩ => ⟨h1, h.trans (h2.mono h.size)⟩
  have DF' : Hid (∀ W, Below Z.heap.size Z W → Calls Try.prog 7 #[.agg #[.int .i64 k', .int .i64 n', .string t', lv']] W fun e w' => e = .returned (.bool true) ∧ Below Z.heap.size Z w') := Lib.hid fun W h => (HF0'.out W (UP.out W h)).mono fun e w' ⟨h1, h2⟩ => ⟨h1, h.trans (h2.mono h.size)⟩
  have DT : Hid (∀ W, Below Z.heap.size Z W → Calls Try.prog 8 #[] W fun e w' => e = .returned (.bool true) ∧ Below Z.heap.size Z w' ∧ Hid (Below W.heap.size W w')) := Lib.hid fun W h => (HT0.out W).mono fun e w' ⟨h1, h2⟩ => ⟨h1, h.trans (h2.mono h.size), Lib.hid h2⟩
  -- what is asked of documents
  have HFo : Hid (∀ x b c W, dcnt x ≤ 5000 → dfrc x = b → DcAt W c x → Below Z.heap.size Z W → Calls Try.prog 11 #[.agg c.toArray] W fun e w' => e = .returned (.bool b) ∧ Below Z.heap.size Z w' ∧ Hid (Below W.heap.size W w')) := Lib.hid fun x b c W hx hb hd h => (pdforced_any x (by omega) c W hd).mono fun e w' ⟨h1, h2⟩ => ⟨by rw [h1, hb], h.trans (h2.mono h.size), Lib.hid h2⟩
  have HCo : Hid (∀ x (M : Nat) c W, dcnt x ≤ 5000 → dcnt x = M → DcAt W c x → Below Z.heap.size Z W → Calls Try.prog 13 #[.agg c.toArray] W fun e w' => e = .returned (.int .i64 (M : Int)) ∧ Below Z.heap.size Z w' ∧ Hid (Below W.heap.size W w')) := Lib.hid fun x M c W hx hb hd h => (pdcount_any x (by omega) c W hd).mono fun e w' ⟨h1, h2⟩ => ⟨by rw [h1, hb], h.trans (h2.mono h.size), Lib.hid h2⟩
  have GA : Hid (∀ W, Below Z.heap.size Z W → DcAt W [.int .i64 k, .int .i64 n, .string t, lv] d) := Lib.hid fun W h => g.bel (UP.out W h)
  have GB : Hid (∀ W, Below Z.heap.size Z W → DcAt W [.int .i64 k', .int .i64 n', .string t', lv'] d') := Lib.hid fun W h => g'.bel (UP.out W h)
  have PA : Hid (∀ W, Below Z.heap.size Z W → Calls Try.prog 11 #[.agg #[.int .i64 k, .int .i64 n, .string t, lv]] W fun e w' => e = .returned (.bool b1) ∧ Below Z.heap.size Z w') := Lib.hid fun W h => (HFo.out d b1 _ W (by omega) e1 (GA.out W h) h).mono fun e w' ⟨h1, h2, _⟩ => ⟨h1, h2⟩
  have PB : Hid (∀ W, Below Z.heap.size Z W → Calls Try.prog 11 #[.agg #[.int .i64 k', .int .i64 n', .string t', lv']] W fun e w' => e = .returned (.bool b2) ∧ Below Z.heap.size Z w') := Lib.hid fun W h => (HFo.out d' b2 _ W (by omega) e2 (GB.out W h) h).mono fun e w' ⟨h1, h2, _⟩ => ⟨h1, h2⟩
  have CA : Hid (∀ W, Below Z.heap.size Z W → Calls Try.prog 13 #[.agg #[.int .i64 k, .int .i64 n, .string t, lv]] W fun e w' => e = .returned (.int .i64 (m : Int)) ∧ Below Z.heap.size Z w' ∧ Hid (Below W.heap.size W w')) := Lib.hid fun W h => HCo.out d m _ W (by omega) hm.symm (GA.out W h) h
  have CB : Hid (∀ W, Below Z.heap.size Z W → Calls Try.prog 13 #[.agg #[.int .i64 k', .int .i64 n', .string t', lv']] W fun e w' => e = .returned (.int .i64 (m' : Int)) ∧ Below Z.heap.size Z w' ∧ Hid (Below W.heap.size W w')) := Lib.hid fun W h => HCo.out d' m' _ W (by omega) hm'.symm (GB.out W h) h
  -- makers of both, of the first
  have M5 : Hid (∀ V g, V.heap[g]? = some (.cells #[.int .i64 k, .int .i64 n, .string t, lv, .int .i64 k', .int .i64 n', .string t', lv'] 24) → Below Z.heap.size Z V → Calls Try.prog 17 #[.slice (some ⟨g, 0, none⟩) 2 2] V fun e w' => ∃ a c, e = .returned (.agg #[.int .i64 5, .int .i64 0, .string ⟨#[]⟩, .slice a 2 c]) ∧ Below Z.heap.size Z w' ∧ Hid (Below V.heap.size V w') ∧
      Hid (∀ W, Below w'.heap.size w' W → Below Z.heap.size Z W → Calls Try.prog 11 #[.agg #[.int .i64 5, .int .i64 0, .string ⟨#[]⟩, .slice a 2 c]] W fun e w' => e = .returned (.bool (b1 || b2)) ∧ Below Z.heap.size Z w') ∧
      Hid (DcAt w' [.int .i64 5, .int .i64 0, .string ⟨#[]⟩, .slice a 2 c] (.mk 5 0 ⟨#[]⟩ [d, d']))) := Lib.hid fun V g h hb =>
    (cat_any [d, d'] (by simp only [dcntL]; omega) ⟨o3, o3', trivial⟩ _ V (fun g => g < V.heap.size) (fun g h => h) (row2 (lt_of_block h) h (GA.out V hb) (GB.out V hb))).mono fun e w' h => by
      obtain ⟨a, c, q1, q2, q3⟩ := h.sl
      have q4 := hb.trans (q2.mono hb.size)
      have q5 : DcAt w' [.int .i64 5, .int .i64 0, .string ⟨#[]⟩, .slice a 2 c] (.mk 5 0 ⟨#[]⟩ [d, d']) := q3.wide (fun g hg _ => hg)
      exact ⟨a, c, q1, q4, Lib.hid q2, Lib.hid fun W h2 h3 => (HFo.out (.mk 5 0 ⟨#[]⟩ [d, d']) (b1 || b2) _ W (by simp only [dcnt, dcntL]; omega) (by simp [dfrc, dfrcL, dfr, e1, e2]) (q5.down h2) h3).mono fun e w' ⟨h1, h2, _⟩ => ⟨h1, h2⟩, Lib.hid q5⟩
  have M7 : Hid (∀ V g, V.heap[g]? = some (.cells #[.int .i64 k, .int .i64 n, .string t, lv, .int .i64 k', .int .i64 n', .string t', lv'] 24) → Below Z.heap.size Z V → Calls Try.prog 19 #[.slice (some ⟨g, 0, none⟩) 2 2] V fun e w' => ∃ a c, e = .returned (.agg #[.int .i64 7, .int .i64 0, .string ⟨#[]⟩, .slice a 2 c]) ∧ Below Z.heap.size Z w' ∧
      Hid (∀ W, Below w'.heap.size w' W → Below Z.heap.size Z W → Calls Try.prog 11 #[.agg #[.int .i64 7, .int .i64 0, .string ⟨#[]⟩, .slice a 2 c]] W fun e w' => e = .returned (.bool (b1 || b2)) ∧ Below Z.heap.size Z w')) := Lib.hid fun V g h hb =>
    (group_any [d, d'] (by simp only [dcntL]; omega) ⟨o3, o3', trivial⟩ _ V (fun g => g < V.heap.size) (fun g h => h) (row2 (lt_of_block h) h (GA.out V hb) (GB.out V hb))).mono fun e w' h => by
      obtain ⟨a, c, q1, q2, q3⟩ := h.sl
      have q4 := hb.trans (q2.mono hb.size)
      have q5 : DcAt w' [.int .i64 7, .int .i64 0, .string ⟨#[]⟩, .slice a 2 c] (.mk 7 0 ⟨#[]⟩ [d, d']) := q3.wide (fun g hg _ => hg)
      exact ⟨a, c, q1, q4, Lib.hid fun W h2 h3 => (HFo.out (.mk 7 0 ⟨#[]⟩ [d, d']) (b1 || b2) _ W (by simp only [dcnt, dcntL]; omega) (by simp [dfrc, dfrcL, dfr, e1, e2]) (q5.down h2) h3).mono fun e w' ⟨h1, h2, _⟩ => ⟨h1, h2⟩⟩
  have M6 : Hid (∀ V g, V.heap[g]? = some (.cells #[.int .i64 k, .int .i64 n, .string t, lv] 24) → Below Z.heap.size Z V → Calls Try.prog 18 #[.int .i64 4, .slice (some ⟨g, 0, none⟩) 1 1] V fun e w' => ∃ a c, e = .returned (.agg #[.int .i64 6, .int .i64 4, .string ⟨#[]⟩, .slice a 1 c]) ∧ Below Z.heap.size Z w' ∧
      Hid (∀ W, Below w'.heap.size w' W → Below Z.heap.size Z W → Calls Try.prog 11 #[.agg #[.int .i64 6, .int .i64 4, .string ⟨#[]⟩, .slice a 1 c]] W fun e w' => e = .returned (.bool b1) ∧ Below Z.heap.size Z w')) := Lib.hid fun V g h hb =>
    (nest_any [d] (by simp only [dcntL]; omega) ⟨o3, trivial⟩ 4 _ V (fun g => g < V.heap.size) (fun g h => h) (row1 (lt_of_block h) h (GA.out V hb))).mono fun e w' h => by
      obtain ⟨a, c, q1, q2, q3⟩ := h.sl
      have q4 := hb.trans (q2.mono hb.size)
      have q5 : DcAt w' [.int .i64 6, .int .i64 4, .string ⟨#[]⟩, .slice a 1 c] (.mk 6 4 ⟨#[]⟩ [d]) := q3.wide (fun g hg _ => hg)
      exact ⟨a, c, q1, q4, Lib.hid fun W h2 h3 => (HFo.out (.mk 6 4 ⟨#[]⟩ [d]) b1 _ W (by simp only [dcnt, dcntL]; omega) (by simp [dfrc, dfrcL, dfr, e1]) (q5.down h2) h3).mono fun e w' ⟨h1, h2, _⟩ => ⟨h1, h2⟩⟩
  have M8 : Hid (∀ V g, V.heap[g]? = some (.cells #[.int .i64 k, .int .i64 n, .string t, lv] 24) → Below Z.heap.size Z V → Calls Try.prog 20 #[.slice (some ⟨g, 0, none⟩) 1 1] V fun e w' => ∃ a c, e = .returned (.agg #[.int .i64 7, .int .i64 1, .string ⟨#[]⟩, .slice a 1 c]) ∧ Below Z.heap.size Z w' ∧
      Hid (∀ W, Below w'.heap.size w' W → Below Z.heap.size Z W → Calls Try.prog 11 #[.agg #[.int .i64 7, .int .i64 1, .string ⟨#[]⟩, .slice a 1 c]] W fun e w' => e = .returned (.bool true) ∧ Below Z.heap.size Z w')) := Lib.hid fun V g h hb =>
    (broken_any2 [d] (by simp only [dcntL]; omega) ⟨o3, trivial⟩ _ V (fun g => g < V.heap.size) (fun g h => h) (row1 (lt_of_block h) h (GA.out V hb))).mono fun e w' h => by
      obtain ⟨a, c, q1, q2, q3⟩ := h.sl
      have q4 := hb.trans (q2.mono hb.size)
      have q5 : DcAt w' [.int .i64 7, .int .i64 1, .string ⟨#[]⟩, .slice a 1 c] (.mk 7 1 ⟨#[]⟩ [d]) := q3.wide (fun g hg _ => hg)
      exact ⟨a, c, q1, q4, Lib.hid fun W h2 h3 => (HFo.out (.mk 7 1 ⟨#[]⟩ [d]) true _ W (by simp only [dcnt, dcntL]; omega) (by simp [dfrc, dfrcL, dfr]) (q5.down h2) h3).mono fun e w' ⟨h1, h2, _⟩ => ⟨h1, h2⟩⟩
  -- groups round a hard
  have HTt : Hid (∀ V, Below Z.heap.size Z V → Calls Try.prog 16 #[.string ⟨#[116]⟩] V fun e w' => ∃ a c, e = .returned (.agg #[.int .i64 1, .int .i64 0, .string ⟨#[116]⟩, .slice a 0 c]) ∧ Hid (Below Z.heap.size Z w') ∧ Hid (∀ W P, DcIn W P [.int .i64 1, .int .i64 0, .string ⟨#[116]⟩, .slice a 0 c] tT) ∧ Hid (Below V.heap.size V w')) := Lib.hid fun V hb => (text_any ⟨#[116]⟩ (by show (1 : Nat) ≤ 1048576; omega) V (fun _ => False)).mono fun e w' h => by
    obtain ⟨a, c, q1, q2, q3⟩ := h.sl
    exact ⟨a, c, q1, Lib.hid (hb.trans (q2.mono hb.size)), Lib.hid fun W P => q3.bare, Lib.hid q2⟩
  have HGr : Hid (∀ q, q ≤ 40 → ∀ V g x k1 n1 t1 lv1 a1 c1, V.heap[g]? = some (.cells #[.int .i64 1, .int .i64 0, .string ⟨#[116]⟩, .slice a1 0 c1, .int .i64 k1, .int .i64 n1, .string t1, lv1] 24) → g ≠ x → x < V.heap.size → Below Z.heap.size Z V → DcIn V (fun g => g ≠ x) [.int .i64 k1, .int .i64 n1, .string t1, lv1] (XD q) → (∀ W P, DcIn W P [.int .i64 1, .int .i64 0, .string ⟨#[116]⟩, .slice a1 0 c1] tT) → Calls Try.prog 19 #[.slice (some ⟨g, 0, none⟩) 2 2] V fun e w' => ∃ a c, e = .returned (.agg #[.int .i64 7, .int .i64 0, .string ⟨#[]⟩, .slice a 2 c]) ∧ Hid (Below Z.heap.size Z w') ∧ Hid (DcIn w' (fun g => g ≠ x) [.int .i64 7, .int .i64 0, .string ⟨#[]⟩, .slice a 2 c] (XD (q + 1))) ∧ Hid (∀ o, V.heap[x]? = some o → w'.heap[x]? = some o)) := Lib.hid fun q hq V g x k1 n1 t1 lv1 a1 c1 h hg hx hb hd ht =>
    (group_any [tT, XD q] (by have := XD_cnt q; simp only [dcntL]; rw [this]; simp only [tT, dcnt, dcntL]; omega) ⟨⟨by show (1 : Nat) ≤ 1048576; omega, trivial⟩, XD_dtz q, trivial⟩ _ V (fun g => g ≠ x ∧ g < V.heap.size) (fun g h => h.2) (row2 ⟨hg, lt_of_block h⟩ h (ht _ _) (hd.wide (fun g hg h => ⟨h, hg⟩)))).mono fun e w' h => by
      obtain ⟨a, c, q1, q2, q3⟩ := h.sl.off (y := x) (fun g h => h.1) hx
      exact ⟨a, c, q1, Lib.hid (hb.trans (q2.mono hb.size)), Lib.hid q3, Lib.hid (fun o ho => (q2.block x hx).trans ho)⟩
  have HXF : Hid (∀ q c W, q ≤ 31 → DcAt W c (XD q) → Below Z.heap.size Z W → Calls Try.prog 11 #[.agg c.toArray] W fun e w' => e = .returned (.bool true) ∧ Below Z.heap.size Z w' ∧ Hid (Below W.heap.size W w')) := Lib.hid fun q c W hq hd h => HFo.out (XD q) true c W (by rw [XD_cnt]; omega) (XD_frc q) hd h
  have HC5 : Hid (∀ W a c, DcAt W [.int .i64 5, .int .i64 0, .string ⟨#[]⟩, .slice a 2 c] (.mk 5 0 ⟨#[]⟩ [d, d']) → Below Z.heap.size Z W → Calls Try.prog 13 #[.agg #[.int .i64 5, .int .i64 0, .string ⟨#[]⟩, .slice a 2 c]] W fun e w' => e = .returned (.int .i64 ((m : Int) + (m' : Int) + 1)) ∧ Below Z.heap.size Z w' ∧ Hid (Below W.heap.size W w')) := Lib.hid fun W a c hd h => by
    have e9 : (m : Int) + (m' : Int) + 1 = ((m + m' + 1 : Nat) : Int) := by omega
    rw [e9]
    exact HCo.out (.mk 5 0 ⟨#[]⟩ [d, d']) (m + m' + 1) _ W (by simp only [dcnt, dcntL]; omega) (by simp only [dcnt, dcntL]; omega) hd h
  obtain ⟨r, hr, er⟩ : ∃ r : Nat, r < 31 ∧ (IntKind.u64.wrap n0).tmod 31 = (r : Int) := by
    have := IntKind.wrap_u64 n0
    have h0 := Int.tmod_nonneg (a := IntKind.u64.wrap n0) 31 (by omega)
    have h1 := Int.tmod_lt_of_pos (IntKind.u64.wrap n0) (b := 31) (by omega)
    have h2 := Int.toNat_of_nonneg h0
    exact ⟨((IntKind.u64.wrap n0).tmod 31).toNat, by omega, h2.symm⟩
  have hm5 : m ≤ 500 := by omega
  have hm5' : m' ≤ 500 := by omega
  have q4 : ((m : Int) + (m' : Int) + 1 == (m : Int) + (m' : Int) + 1) = true := beq_self_eq_true _
  have HZS := Lib.hid hzs
  clear g g' hf hf' e1 e2 o1 o2 o1' o2' o3 o3' hm hm' HF0 HF0' HT0 HFo HCo hZ hbW hzs
  have HBd0 : True := trivial
  obtain ⟨⟨d0, d1, d2, d3⟩, ⟨f0, f1, f2, f3⟩, -⟩ := CC.out _ HB0.out
  go_enter Try.func5, Try.ntmps5
  go_wp2_with fail
  refine (DF.out _ HB0.out).mono ?_
  rintro e w2 ⟨rfl, ht⟩
  clear d0 d1 d2 d3 f0 f1 f2 f3
  obtain ⟨⟨d0, d1, d2, d3⟩, ⟨f0, f1, f2, f3⟩, HB2⟩ := CC.out _ ht
  clear ht HB0
  go_wp2_with fail
  refine (DF'.out _ HB2.out).mono ?_
  rintro e w3 ⟨rfl, ht⟩
  clear d0 d1 d2 d3 f0 f1 f2 f3
  obtain ⟨⟨d0, d1, d2, d3⟩, ⟨f0, f1, f2, f3⟩, HB3⟩ := CC.out _ ht
  clear ht HB2
  go_wp2_with fail
  have HBd : Hid (Below Z.heap.size Z w3.drew) := Lib.hid (Below.drew HB3.out)
  go_region_held3 (fun w' => (w'.cell? ⟨w.heap.size, 0, none⟩ = some (.int .i64 k) ∧ w'.cell? ⟨w.heap.size, 1, none⟩ = some (.int .i64 n) ∧ w'.cell? ⟨w.heap.size, 2, none⟩ = some (.string t) ∧ w'.cell? ⟨w.heap.size, 3, none⟩ = some lv) ∧
    (w'.cell? ⟨w.heap.size + 1, 0, none⟩ = some (.int .i64 k') ∧ w'.cell? ⟨w.heap.size + 1, 1, none⟩ = some (.int .i64 n') ∧ w'.cell? ⟨w.heap.size + 1, 2, none⟩ = some (.string t') ∧ w'.cell? ⟨w.heap.size + 1, 3, none⟩ = some lv') ∧ Hid (Below Z.heap.size Z w')) (first | exact CC.out _ ht | exact CC.out _ HBd.out) (first
    | (go_at_call 11; (first | with_reducible refine (PA.out _ ht).mono ?_ | with_reducible refine (PB.out _ ht).mono ?_ | with_reducible refine (PA.out _ HBd.out).mono ?_ | with_reducible refine (PB.out _ HBd.out).mono ?_); rintro e w4 ⟨rfl, ht⟩))


  obtain ⟨⟨d0, d1, d2, d3⟩, ⟨f0, f1, f2, f3⟩, HB4⟩ := CC.out _ ht
  clear ht HB3 HBd PA PB DF DF'
  go_upto_region 4 with fail
  go_cut [60] from 24 to 60 (fun z wx => z = .bool false ∧ Hid (Below Z.heap.size Z wx))
  case first =>
    clear HXF HTt HGr HC5 CA CB DT
    cases b1 <;> cases b2
    all_goals
      simp only [Bool.or_true, Bool.or_false, Bool.true_or, Bool.false_or] at M5 M7
      go_wp2_with fail
      refine (M5.out _ _ (new_at' rfl) (HB4.out.alloc HB4.out.size _)).mono ?_
      rintro e w5 ⟨a5, c5, rfl, ht, -, hp5, -⟩
      go_wp2_with fail
      refine (hp5.out _ (Below.refl _ _) ht).mono ?_
      rintro e w6 ⟨rfl, ht6⟩
      clear d0 d1 d2 d3 f0 f1 f2 f3
      obtain ⟨⟨d0, d1, d2, d3⟩, ⟨f0, f1, f2, f3⟩, HB6⟩ := CC.out _ ht6
      clear ht ht6 hp5
      go_wp2_with fail
      refine (M6.out _ _ (new_at' rfl) (HB6.out.alloc HB6.out.size _)).mono ?_
      rintro e w7 ⟨a7, c7, rfl, ht, hp7⟩
      go_wp2_with fail
      refine (hp7.out _ (Below.refl _ _) ht).mono ?_
      rintro e w8 ⟨rfl, ht8⟩
      clear d0 d1 d2 d3 f0 f1 f2 f3
      obtain ⟨⟨d0, d1, d2, d3⟩, ⟨f0, f1, f2, f3⟩, HB8⟩ := CC.out _ ht8
      clear ht ht8 hp7
      go_wp2_with fail
      refine (M7.out _ _ (new_at' rfl) (HB8.out.alloc HB8.out.size _)).mono ?_
      rintro e w9 ⟨a9, c9, rfl, ht, hp9⟩
      go_wp2_with fail
      refine (hp9.out _ (Below.refl _ _) ht).mono ?_
      rintro e w10 ⟨rfl, ht10⟩
      clear d0 d1 d2 d3 f0 f1 f2 f3
      obtain ⟨⟨d0, d1, d2, d3⟩, ⟨f0, f1, f2, f3⟩, HB10⟩ := CC.out _ ht10
      clear ht ht10 hp9
      go_wp2_with fail
      refine (M8.out _ _ (new_at' rfl) (HB10.out.alloc HB10.out.size _)).mono ?_
      rintro e w11 ⟨a11, c11, rfl, ht, hp11⟩
      go_wp2_with fail
      refine (hp11.out _ (Below.refl _ _) ht).mono ?_
      rintro e w12 ⟨rfl, ht12⟩
      clear d0 d1 d2 d3 f0 f1 f2 f3
      have HB12 := Lib.hid ht12
      clear ht ht12 hp11
      go_wp2_with fail
      go_meet
      exact ⟨rfl, HB12⟩
  case rest =>
    obtain ⟨rfl, HB12⟩ := hcut
    clear d0 d1 d2 d3 f0 f1 f2 f3 M6 M7 M8 HB4
    go_wp2_with fail
    go_loopg [10] r (fun gn i wr => ∃ (q : Nat) (kk : Int) (a : Option Addr) (N cap : Nat), gn = r - q ∧ q ≤ r ∧ i = .int .i64 (q : Int) ∧ Hid (wr.heap[wc.heap.size]? = some (.cells #[.int .i64 kk, .int .i64 0, .string ⟨#[]⟩, .slice a N cap] 24)) ∧ Hid (DcIn wr (fun g => g ≠ wc.heap.size) [.int .i64 kk, .int .i64 0, .string ⟨#[]⟩, .slice a N cap] (XD q)) ∧ Hid (Below Z.heap.size Z wr))
    case atStart =>
      exact ⟨0, 4, none, 0, 0, rfl, Nat.zero_le _, rfl, Lib.hid new_at, Lib.hid (leaf_at _ _ _ _ _), Lib.hid (HB12.out.alloc HB12.out.size _)⟩
    case round =>
      obtain ⟨q, kk, a, N, cap, hgn, hq, rfl, HX, HD, HB⟩ := hrel
      obtain ⟨⟨x0, x1, x2, x3⟩, xf⟩ := four_of HX.out
      by_cases hlt : q < r
      · have qn : (q : Int) < (r : Int) := by omega
        have HBd : Hid (Below Z.heap.size Z wr.drew) := Lib.hid (Below.drew HB.out)
        have HXd : Hid (wr.drew.heap[wc.heap.size]? = some (.cells #[.int .i64 kk, .int .i64 0, .string ⟨#[]⟩, .slice a N cap] 24)) := Lib.hid HX.out
        have HDd : Hid (DcIn wr.drew (fun g => g ≠ wc.heap.size) [.int .i64 kk, .int .i64 0, .string ⟨#[]⟩, .slice a N cap] (XD q)) := Lib.hid (DcIn.keep (W := wr) (W' := wr.drew) ⟨Nat.le_refl _, fun _ _ _ => rfl⟩ HD.out)
        have hxd : wc.heap.size < wr.heap.size := lt_of_block HX.out
        have HXL : Hid (wc.heap.size < wr.drew.heap.size) := Lib.hid hxd
        clear hxd
        have q40 : q ≤ 40 := by omega
        go_wp2_with fail
        go_region_with (first
          | (go_at_call 16; refine (HTt.out _ HBd.out).mono ?_; rintro e w13 ⟨a13, c13, rfl, hb13, hd13, hk13⟩; have HX13 : Hid (w13.heap[wc.heap.size]? = some (.cells #[.int .i64 kk, .int .i64 0, .string ⟨#[]⟩, .slice a N cap] 24)) := Lib.hid ((hk13.out.block _ HXL.out).trans HXd.out); obtain ⟨⟨s0, s1, s2, s3⟩, -⟩ := four_of HX13.out)
          | (go_at_call 19; refine (HGr.out q q40 _ _ wc.heap.size kk 0 ⟨#[]⟩ (.slice a N cap) a13 c13 (new_at' rfl) ?_ ?_ ?_ ?_ ?_).mono ?_; (have := hk13.out.size; have := HXL.out; omega); (have := hk13.out.size; have := HXL.out; simp <;> omega); (exact hb13.out.alloc hb13.out.size _); (exact DcIn.on HDd.out hk13.out _); (exact hd13.out); rintro e w14 ⟨a14, c14, rfl, hb14, hd14, hk14⟩; obtain ⟨⟨u0, u1, u2, u3⟩, uf⟩ := four_of (hk14.out _ (at_on HX13.out))))
        all_goals
          have HX14 := Lib.hid (hk14.out _ (at_on HX13.out))
          clear HXd HDd HXL HTt HGr hk13 hk14 HBd x0 x1 x2 x3 xf s0 s1 s2 s3
          go_wp2_with fail
          go_roundg (r - (q + 1))
        all_goals first
          | (case measure => omega)
          | skip
        all_goals
          have hzx : Z.heap.size ≤ wc.heap.size := HB12.out.size
          refine ⟨q + 1, 7, a14, 2, c14, rfl, hlt, by go_num, Lib.hid (set_four HX14.out _ _ _ _), Lib.hid (DcIn.keep ⟨by simp, fun g hg hl => ?_⟩ hd14.out), Lib.hid (hb14.out.trans ((set_fourB (Nat.le_refl _) _ _ _ _).mono hzx))⟩
          rw [Below.heap_setCell _ _ _ _ hg, Below.heap_setCell _ _ _ _ hg, Below.heap_setCell _ _ _ _ hg, Below.heap_setCell _ _ _ _ hg]
      · obtain rfl : q = r := by omega
        clear HTt HGr
        go_wp2_with fail
        have hq31 : q ≤ 31 := by omega
        have HDA : Hid (DcAt wr [.int .i64 kk, .int .i64 0, .string ⟨#[]⟩, .slice a N cap] (XD q)) := Lib.hid (HD.out.wide (fun g hg _ => hg))
        have CD := Lib.hid (fun W (hb : Below wr.heap.size wr W) => (⟨(CC.out W (HB.out.trans (hb.mono HB.out.size))).1, (CC.out W (HB.out.trans (hb.mono HB.out.size))).2.1, (four_of ((hb.block _ (lt_of_block HX.out)).trans HX.out)).1, Lib.hid hb⟩ :
          (W.cell? ⟨w.heap.size, 0, none⟩ = some (.int .i64 k) ∧ W.cell? ⟨w.heap.size, 1, none⟩ = some (.int .i64 n) ∧ W.cell? ⟨w.heap.size, 2, none⟩ = some (.string t) ∧ W.cell? ⟨w.heap.size, 3, none⟩ = some lv) ∧
          (W.cell? ⟨w.heap.size + 1, 0, none⟩ = some (.int .i64 k') ∧ W.cell? ⟨w.heap.size + 1, 1, none⟩ = some (.int .i64 n') ∧ W.cell? ⟨w.heap.size + 1, 2, none⟩ = some (.string t') ∧ W.cell? ⟨w.heap.size + 1, 3, none⟩ = some lv') ∧
          (W.cell? ⟨wc.heap.size, 0, none⟩ = some (.int .i64 kk) ∧ W.cell? ⟨wc.heap.size, 1, none⟩ = some (.int .i64 0) ∧ W.cell? ⟨wc.heap.size, 2, none⟩ = some (.string ⟨#[]⟩) ∧ W.cell? ⟨wc.heap.size, 3, none⟩ = some (.slice a N cap)) ∧ Hid (Below wr.heap.size wr W)))
        have UZ := Lib.hid (fun W (hb : Below wr.heap.size wr W) => HB.out.trans (hb.mono HB.out.size))
        have RT : Hid (∀ W, Below wr.heap.size wr W → Calls Try.prog 8 #[] W fun e w' => e = .returned (.bool true) ∧ Below wr.heap.size wr w' ∧ Hid (Below W.heap.size W w')) := Lib.hid fun W h => (DT.out W (UZ.out W h)).mono fun e w' ⟨h1, _, h2⟩ => ⟨h1, h.trans (h2.out.mono h.size), h2⟩
        have RX : Hid (∀ W, Below wr.heap.size wr W → Calls Try.prog 11 #[.agg #[.int .i64 kk, .int .i64 0, .string ⟨#[]⟩, .slice a N cap]] W fun e w' => e = .returned (.bool true) ∧ Below wr.heap.size wr w' ∧ Hid (Below W.heap.size W w')) := Lib.hid fun W h => (HXF.out q _ W hq31 (HDA.out.down h) (UZ.out W h)).mono fun e w' ⟨h1, _, h2⟩ => ⟨h1, h.trans (h2.out.mono h.size), h2⟩
        have RA : Hid (∀ W, Below wr.heap.size wr W → Calls Try.prog 13 #[.agg #[.int .i64 k, .int .i64 n, .string t, lv]] W fun e w' => e = .returned (.int .i64 (m : Int)) ∧ Below wr.heap.size wr w' ∧ Hid (Below W.heap.size W w')) := Lib.hid fun W h => (CA.out W (UZ.out W h)).mono fun e w' ⟨h1, _, h2⟩ => ⟨h1, h.trans (h2.out.mono h.size), h2⟩
        have RB : Hid (∀ W, Below wr.heap.size wr W → Calls Try.prog 13 #[.agg #[.int .i64 k', .int .i64 n', .string t', lv']] W fun e w' => e = .returned (.int .i64 (m' : Int)) ∧ Below wr.heap.size wr w' ∧ Hid (Below W.heap.size W w')) := Lib.hid fun W h => (CB.out W (UZ.out W h)).mono fun e w' ⟨h1, _, h2⟩ => ⟨h1, h.trans (h2.out.mono h.size), h2⟩
        have R5 : Hid (∀ V g, V.heap[g]? = some (.cells #[.int .i64 k, .int .i64 n, .string t, lv, .int .i64 k', .int .i64 n', .string t', lv'] 24) → Below wr.heap.size wr V → Calls Try.prog 17 #[.slice (some ⟨g, 0, none⟩) 2 2] V fun e w' => ∃ a c, e = .returned (.agg #[.int .i64 5, .int .i64 0, .string ⟨#[]⟩, .slice a 2 c]) ∧ Below wr.heap.size wr w' ∧ Hid (Below V.heap.size V w') ∧
            Hid (∀ W, Below w'.heap.size w' W → Calls Try.prog 13 #[.agg #[.int .i64 5, .int .i64 0, .string ⟨#[]⟩, .slice a 2 c]] W fun e w'' => e = .returned (.int .i64 ((m : Int) + (m' : Int) + 1)) ∧ Below wr.heap.size wr w'' ∧ Hid (Below W.heap.size W w''))) := Lib.hid fun V g h hb =>
          (M5.out V g h (UZ.out V hb)).mono fun e w' ⟨a, c, h1, h2, h3, _, h5⟩ => ⟨a, c, h1, hb.trans (h3.out.mono hb.size), h3, Lib.hid fun W hW => (HC5.out W a c (h5.out.down hW) (h2.trans (hW.mono h2.size))).mono fun e w'' ⟨g1, g2, g3⟩ => ⟨g1, (hb.trans (h3.out.mono hb.size)).trans ((hW.mono (hb.trans (h3.out.mono hb.size)).size).trans (g3.out.mono (Nat.le_trans (hb.trans (h3.out.mono hb.size)).size hW.size))), g3⟩⟩
        have UW := Lib.hid (fun W (hb : Below wr.heap.size wr W) => UP.out W (UZ.out W hb))
        have HBr : Hid (Below wr.heap.size wr wr) := Lib.hid (Below.refl _ _)
        have HBd : Hid (Below wr.heap.size wr wr.drew) := Lib.hid (Below.drew (Below.refl _ _))
        obtain ⟨⟨d0, d1, d2, d3⟩, ⟨f0, f1, f2, f3⟩, -⟩ := CD.out _ HBr.out
        clear UZ DT HXF CA CB M5 HC5 HDA GA GB UP CC HB12 HZS HB HX HD
        go_wp2_with fail
        go_region_held3 (fun W => (W.cell? ⟨w.heap.size, 0, none⟩ = some (.int .i64 k) ∧ W.cell? ⟨w.heap.size, 1, none⟩ = some (.int .i64 n) ∧ W.cell? ⟨w.heap.size, 2, none⟩ = some (.string t) ∧ W.cell? ⟨w.heap.size, 3, none⟩ = some lv) ∧
          (W.cell? ⟨w.heap.size + 1, 0, none⟩ = some (.int .i64 k') ∧ W.cell? ⟨w.heap.size + 1, 1, none⟩ = some (.int .i64 n') ∧ W.cell? ⟨w.heap.size + 1, 2, none⟩ = some (.string t') ∧ W.cell? ⟨w.heap.size + 1, 3, none⟩ = some lv') ∧
          (W.cell? ⟨wc.heap.size, 0, none⟩ = some (.int .i64 kk) ∧ W.cell? ⟨wc.heap.size, 1, none⟩ = some (.int .i64 0) ∧ W.cell? ⟨wc.heap.size, 2, none⟩ = some (.string ⟨#[]⟩) ∧ W.cell? ⟨wc.heap.size, 3, none⟩ = some (.slice a N cap)) ∧ Hid (Below wr.heap.size wr W))
          (first | exact CD.out _ ht | exact CD.out _ (ht.alloc ht.size _) | exact CD.out _ HBd.out)
          (first
          | (go_at_call 8; refine (RT.out _ HBd.out).mono ?_; rintro e w20 ⟨rfl, ht, hk⟩)
          | (go_at_call 11; refine (RX.out _ ht).mono ?_; rintro e w21 ⟨rfl, ht, hk⟩)
          | (go_at_call 17; refine (R5.out _ _ ?_ ?_).mono ?_; (first | exact new_at' rfl | exact kp1 (by assumption) | exact kp2 (by assumption) (by assumption)); (first | exact ht | exact ht.alloc ht.size _); rintro e w22 ⟨a22, c22, rfl, ht, hk, hc22⟩; have hb22 := Lib.hid (Below.refl w22.heap.size w22))
          | (go_at_call 13; (first | with_reducible refine (RA.out _ ht).mono ?_ | with_reducible refine (RA.out _ (ht.alloc ht.size _)).mono ?_ | with_reducible refine (RB.out _ ht).mono ?_ | with_reducible refine (RB.out _ (ht.alloc ht.size _)).mono ?_ | with_reducible refine (hc22.out _ hb22.out).mono ?_ | with_reducible refine (hc22.out _ (by assumption)).mono ?_); rintro e w23 ⟨rfl, ht, hk⟩))
        have HB23 : Hid (Below w.heap.size w w23) := Lib.hid (UW.out _ ht)
        have h8 : IntKind.i64.wrap ((m : Int) + (m' : Int)) = (m : Int) + (m' : Int) := by rw [IntKind.wrap_i64]; omega
        have h9 : IntKind.i64.wrap ((m : Int) + (m' : Int) + 1) = (m : Int) + (m' : Int) + 1 := by rw [IntKind.wrap_i64]; omega
        rw [h8, h9, q4]
        clear ht hk RT RX RA RB R5 CD h8 h9
        go_wp2_with fail
        go_ret
        exact ⟨rfl, HB23.out⟩
set_option maxRecDepth 100000 in
set_option maxHeartbeats 4000000 in
theorem walk (c : List Value) (d : Dc) (c' : List Value) (d' : Dc) (n0 : Int) (w : World) (g : DcAt w c d) (g' : DcAt w c' d') :
    Calls Try.prog 5 #[.agg c.toArray, .agg c'.toArray, .int .i64 n0] w fun e w' => e = .returned (.bool true) ∧ Below w.heap.size w w' := by
  have HF0 : Hid (∀ W, Below w.heap.size w W → Calls Try.prog 7 #[.agg c.toArray] W fun e w' => e = .returned (.bool (fwD d)) ∧ Below W.heap.size W w') := Lib.hid fun W hb => fwD_any d c W (g.bel hb)
  have HF1 : Hid (∀ W, Below w.heap.size w W → Calls Try.prog 7 #[.agg c'.toArray] W fun e w' => e = .returned (.bool (fwD d')) ∧ Below W.heap.size W w') := Lib.hid fun W hb => fwD_any d' c' W (g'.bel hb)
  have HT : Hid (∀ W, Below w.heap.size w W → Calls Try.prog 8 #[] W fun e w' => e = .returned (.bool true) ∧ Below W.heap.size W w') := Lib.hid fun W _ => told15_any W
  obtain ⟨k, n, t, lv, rfl⟩ : ∃ k n t lv, c = [.int .i64 k, .int .i64 n, .string t, lv] := by
    cases d with
    | mk k n t l => obtain ⟨lv, cs, rfl, -⟩ := g.inv; exact ⟨_, _, _, _, rfl⟩
  obtain ⟨k', n', t', lv', rfl⟩ : ∃ k n t lv, c' = [.int .i64 k, .int .i64 n, .string t, lv] := by
    cases d' with
    | mk k n t l => obtain ⟨lv, cs, rfl, -⟩ := g'.inv; exact ⟨_, _, _, _, rfl⟩
  obtain ⟨Z, hZ⟩ : ∃ Z, Z = (w.alloc (.cells #[.int .i64 k, .int .i64 n, .string t, lv] 24)).alloc (.cells #[.int .i64 k', .int .i64 n', .string t', lv'] 24) := ⟨_, rfl⟩
  have HB0 : Hid (Below w.heap.size w ((w.alloc (.cells #[.int .i64 k, .int .i64 n, .string t, lv] 24)).alloc (.cells #[.int .i64 k', .int .i64 n', .string t', lv'] 24))) := Lib.hid ((below1 _ _).alloc (by simp) _)
  have CC := Lib.hid (fun W (hb : Below ((w.alloc (.cells #[.int .i64 k, .int .i64 n, .string t, lv] 24)).alloc (.cells #[.int .i64 k', .int .i64 n', .string t', lv'] 24)).heap.size ((w.alloc (.cells #[.int .i64 k, .int .i64 n, .string t, lv] 24)).alloc (.cells #[.int .i64 k', .int .i64 n', .string t', lv'] 24)) W) => two_cells hb)
  have HR : Hid (Below ((w.alloc (.cells #[.int .i64 k, .int .i64 n, .string t, lv] 24)).alloc (.cells #[.int .i64 k', .int .i64 n', .string t', lv'] 24)).heap.size ((w.alloc (.cells #[.int .i64 k, .int .i64 n, .string t, lv] 24)).alloc (.cells #[.int .i64 k', .int .i64 n', .string t', lv'] 24)) ((w.alloc (.cells #[.int .i64 k, .int .i64 n, .string t, lv] 24)).alloc (.cells #[.int .i64 k', .int .i64 n', .string t', lv'] 24))) := Lib.hid (Below.refl _ _)
  cases hf : fwD d
  · rw [hf] at HF0
    obtain ⟨⟨d0, d1, d2, d3⟩, ⟨f0, f1, f2, f3⟩⟩ := CC.out _ HR.out
    clear g g' hZ
    go_enter Try.func5, Try.ntmps5
    go_wp2_with fail
    refine (HF0.out _ HB0.out).mono ?_
    rintro e w1 ⟨rfl, hb1⟩
    have HB1 : Hid (Below w.heap.size w w1) := Lib.hid (HB0.out.trans (hb1.mono HB0.out.size))
    clear hb1
    go_wp2_with fail
    refine (HT.out _ HB1.out).mono ?_
    rintro e w2 ⟨rfl, hb2⟩
    have HB2 : Hid (Below w.heap.size w w2) := Lib.hid (HB1.out.trans (hb2.mono HB1.out.size))
    clear hb2
    go_wp2_with fail
    go_ret
    exact ⟨rfl, HB2.out⟩
  · cases hf' : fwD d'
    · rw [hf] at HF0
      rw [hf'] at HF1
      obtain ⟨⟨d0, d1, d2, d3⟩, ⟨f0, f1, f2, f3⟩⟩ := CC.out _ HR.out
      clear g g' hZ
      go_enter Try.func5, Try.ntmps5
      go_wp2_with fail
      refine (HF0.out _ HB0.out).mono ?_
      rintro e w1 ⟨rfl, hb1⟩
      have HB1 : Hid (Below w.heap.size w w1) := Lib.hid (HB0.out.trans (hb1.mono HB0.out.size))
      clear d0 d1 d2 d3 f0 f1 f2 f3
      obtain ⟨⟨d0, d1, d2, d3⟩, ⟨f0, f1, f2, f3⟩⟩ := CC.out _ hb1
      have HC1 := Lib.hid hb1
      clear hb1
      go_wp2_with fail
      refine (HF1.out _ HB1.out).mono ?_
      rintro e w3 ⟨rfl, hb3⟩
      have HB3 : Hid (Below w.heap.size w w3) := Lib.hid (HB1.out.trans (hb3.mono HB1.out.size))
      clear hb3
      go_wp2_with fail
      refine (HT.out _ HB3.out).mono ?_
      rintro e w2 ⟨rfl, hb2⟩
      have HB2 : Hid (Below w.heap.size w w2) := Lib.hid (HB3.out.trans (hb2.mono HB3.out.size))
      clear hb2
      go_wp2_with fail
      go_ret
      exact ⟨rfl, HB2.out⟩
    · exact core (dfrc d) (dfrc d') d d' _ _ n0 w g g' hf hf' rfl rfl
set_option maxRecDepth 100000 in
theorem lifted (os : Os) (started : os.Started) (H : Type) (enc : TypeId × Value → H) :
    ReturnsInHanded {} Try.checked os 5 .any (Rows.docForcesSpec.pre6 enc Try.prog Try.f5 Rows.docForcesRow.domain false) (Rows.docForcesSpec.post enc Try.prog Try.f5 false true false false) := by
  refine returnsInHanded_of_change (C := Try.checked) ownKnobNone started (by kernel_rfl) Try.func5
    (ChangeSpec.witness6 (enc := enc) (C := Try.checked) false ⟨#[], #[.agg #[.int .i64 0, .int .i64 0, .string ByteArray.empty, .slice none 0 0], .agg #[.int .i64 0, .int .i64 0, .string ByteArray.empty, .slice none 0 0], .int .i64 0], []⟩ 8 (by kernel_rfl) (by kernel_rfl) (by kernel_rfl) (by kernel_rfl)) ?_
  intro W base args ds gs before hval0 hW hcnd _
  have hval : ∀ (j : Nat) t v, Try.f5.params[j]? = some t → args[j]? = some v → Value.okWide Try.prog W .any base t v := hval0
  have hW' := hW
  obtain ⟨p, q, hA0, hV, rfl, hfz, hnd⟩ := hW
  have hA : DataW.TrodAll enc Try.prog W 0 (fun _ => true) true Try.f5.params.toList args.toList ds p := hA0
  rw [Try.params5] at hA hval
  obtain ⟨v0, vs0, d0, ds0, p0, q0, hargs, rfl, rfl, h0, r0⟩ := trodAll_cons hA
  obtain ⟨v1, vs1, d1, ds1, p1, q1, rfl, rfl, rfl, h1, r1⟩ := trodAll_cons r0
  obtain ⟨v2, vs2, d2, ds2, p2, q2, rfl, rfl, rfl, h2, r2⟩ := trodAll_cons r1
  obtain ⟨rfl, rfl, rfl⟩ := trodAll_nil r2
  obtain rfl : args = #[v0, v1, v2] := by cases args; simp_all
  obtain ⟨rfl, rfl⟩ := trodVars_none hV
  have k0 := h0
  have lt0 : ∀ x ∈ p0, x.block < W.heap.size := by obtain ⟨m, hm⟩ := k0; exact DataW.trod_lt m _ _ _ hm
  obtain ⟨c0, n0, rfl, g0⟩ := open_doc (hval 0 24 v0 rfl rfl) h0
  have k1 := h1
  have lt1 : ∀ x ∈ p1, x.block < W.heap.size := by obtain ⟨m, hm⟩ := k1; exact DataW.trod_lt m _ _ _ hm
  obtain ⟨c1, n1, rfl, g1⟩ := open_doc (hval 1 24 v1 rfl rfl) h1
  obtain ⟨a2, rfl, rfl, rfl, w2⟩ := open_int Try.underlying3 (hval 2 3 v2 rfl rfl) h2
  clear hA0 hval0
  refine (walk c0 n0 c1 n1 a2 W g0 g1).mono fun e W' ⟨he, bel⟩ => ?_
  subst he
  exact ⟨_, rfl, _, _, _, [], _, [], hW', trodAll_mk1 (shut_bool Try.underlying4 _), (trodAll_cons_mk (Below.trod laidOutP (by kernel_rfl) (of_decide_eq_true (by kernel_rfl)) k0 bel lt0) (trodAll_cons_mk (Below.trod laidOutP (by kernel_rfl) (of_decide_eq_true (by kernel_rfl)) k1 bel lt1) (trodAll_cons_mk (shut_int Try.underlying3 w2) trodAll_mk0))), rfl, bel.frame _, fun h => by cases h⟩
theorem over : Rows.DocForcesSaid :=
  OpenClaim.holds_of_wide 5 Try.f5 rfl rfl rfl rfl rfl rfl rfl ⟨rfl, rfl, rfl, rfl, rfl⟩ rfl rfl rfl rfl rfl (by kernel_rfl) Try.func5 (by kernel_rfl)
    (of_decide_eq_true (by kernel_rfl)) (by unfold Func.isWrapper; first | (rw [if_pos (by decide +kernel)]; kernel_rfl) | (rw [if_neg (by decide +kernel)]; exact ⟨rfl, rfl⟩))
    (fun os started H enc _ => lifted os started H enc)
/-- THE STATEMENT. -/
theorem proved : Rows.DocForcesSaid := over
#print axioms proved
end Go.Proofs.Ytnmpapmjkihfcaa.docForces
