/-
  What the statements of layer 15 ask each time: it holds.
-/
import Derived.Test.YtnmpapmjkihfcaaDocRow
import Derived.Deep.RegionHeld3
set_option linter.all false
namespace Go.Proofs.Ytnmpapmjkihfcaa
open Go.ChangeShapes Go.WideShapes Go.RowKit Go.PlainAid
def tA : Dc := .mk 1 0 ⟨#[97]⟩ []
def tN4 : Dc := .mk 6 4 ⟨#[]⟩ [tA]
def tG : Dc := .mk 7 0 ⟨#[]⟩ [tA, .mk 2 0 ⟨#[]⟩ [], tN4]
theorem new_at {W : World} {ob : Obj} : (W.alloc ob).heap[W.heap.size]? = some ob := by
  show (W.heap.push _)[W.heap.size]? = _
  rw [Array.getElem?_push, if_pos rfl]
theorem new_at' {W : World} {ob : Obj} {n : Nat} (h : n = W.heap.size) : (W.alloc ob).heap[n]? = some ob := by subst h; exact new_at
theorem new_un {W : World} {oa ob : Obj} {n : Nat} (h : n = W.heap.size) : ((W.alloc oa).alloc ob).heap[n]? = some oa := by
  subst h
  show ((W.heap.push _).push _)[W.heap.size]? = _
  rw [Array.getElem?_push_lt (by simp), Array.getElem_push_eq]
abbrev zD : Obj := .cells #[.int .i64 0, .int .i64 0, .string ⟨#[]⟩, .slice none 0 0] 24
/-- Behind the region that makes g. -/
def Gd (w wx : World) (s x : Nat) (a1 : Option Addr) (c1 : Nat) (a3 : Option Addr) (c3 : Nat) : Prop :=
  wx.heap[x]? = some (.cells #[.int .i64 7, .int .i64 0, .string ⟨#[]⟩, .slice a3 3 c3] 24) ∧ wx.heap[s]? = some (.cells #[.int .i64 1, .int .i64 0, .string ⟨#[97]⟩, .slice a1 0 c1] 24) ∧ Below w.heap.size w wx ∧
  DcAt wx [.int .i64 7, .int .i64 0, .string ⟨#[]⟩, .slice a3 3 c3] tG
theorem Gd.new {w Z w3 : World} {s : Nat} {a1 a3 : Option Addr} {c1 c3 : Nat} {P : Nat → Prop} (hwZ : Below w.heap.size w Z) (hz0 : Z.heap[s]? = some (.cells #[.int .i64 1, .int .i64 0, .string ⟨#[97]⟩, .slice a1 0 c1] 24)) (hb : Below Z.heap.size Z w3)
    (hd : DcIn w3 P [.int .i64 7, .int .i64 0, .string ⟨#[]⟩, .slice a3 3 c3] tG) : Gd w (w3.alloc (.cells #[.int .i64 7, .int .i64 0, .string ⟨#[]⟩, .slice a3 3 c3] 24)) s w3.heap.size a1 c1 a3 c3 := by
  have hb' := hb.alloc hb.size (.cells #[.int .i64 7, .int .i64 0, .string ⟨#[]⟩, .slice a3 3 c3] 24)
  exact ⟨new_at, (hb'.block s (lt_of_block hz0)).trans hz0, hwZ.trans (hb'.mono hwZ.size), (hd.wide (Q := fun g => g < w3.heap.size) (fun g hg _ => hg)).down (below1 _ _)⟩
theorem Gd.old {w Z w3 : World} {s x : Nat} {a1 a3 : Option Addr} {c1 c3 : Nat} (hwZ : Below w.heap.size w Z) (hz0 : Z.heap[s]? = some (.cells #[.int .i64 1, .int .i64 0, .string ⟨#[97]⟩, .slice a1 0 c1] 24)) (hb : Below Z.heap.size Z w3)
    (hx : w3.heap[x]? = some zD) (hxZ : Z.heap.size ≤ x)
    (hd : DcIn w3 (fun g => g ≠ x) [.int .i64 7, .int .i64 0, .string ⟨#[]⟩, .slice a3 3 c3] tG) : Gd w ((((w3.setCell ⟨x, 0, none⟩ (.int .i64 7)).setCell ⟨x, 1, none⟩ (.int .i64 0)).setCell ⟨x, 2, none⟩ (.string ⟨#[]⟩)).setCell ⟨x, 3, none⟩ (.slice a3 3 c3)) s x a1 c1 a3 c3 := by
  have hb' := hb.trans (set_fourB (W := w3) hxZ (.int .i64 7) (.int .i64 0) (.string ⟨#[]⟩) (.slice a3 3 c3))
  refine ⟨set_four hx _ _ _ _, (hb'.block s (lt_of_block hz0)).trans hz0, hwZ.trans (hb'.mono hwZ.size), DcIn.wide (P := fun g => g ≠ x) (fun g hg _ => hg) (DcIn.keep ?_ hd)⟩
  refine ⟨by simp, fun g hg hl => ?_⟩
  rw [Below.heap_setCell _ _ _ _ hg, Below.heap_setCell _ _ _ _ hg, Below.heap_setCell _ _ _ _ hg, Below.heap_setCell _ _ _ _ hg]
/-- A block that was made meanwhile. -/
def Zx (W : World) (x : Nat) : Prop := W.heap[x]? = some zD
theorem Gd.old2 {w Z w3 : World} {s x y : Nat} {a1 a3 : Option Addr} {c1 c3 : Nat} (hwZ : Below w.heap.size w Z) (hz0 : Z.heap[s]? = some (.cells #[.int .i64 1, .int .i64 0, .string ⟨#[97]⟩, .slice a1 0 c1] 24)) (hb : Below Z.heap.size Z w3)
    (hx : Zx w3 y) (e : y = x) (hxZ : Z.heap.size ≤ y)
    (hd : DcIn w3 (fun g => g ≠ y) [.int .i64 7, .int .i64 0, .string ⟨#[]⟩, .slice a3 3 c3] tG) : Gd w ((((w3.setCell ⟨x, 0, none⟩ (.int .i64 7)).setCell ⟨x, 1, none⟩ (.int .i64 0)).setCell ⟨x, 2, none⟩ (.string ⟨#[]⟩)).setCell ⟨x, 3, none⟩ (.slice a3 3 c3)) s x a1 c1 a3 c3 := by
  subst e
  exact Gd.old hwZ hz0 hb hx hxZ hd
set_option maxRecDepth 100000 in
set_option maxHeartbeats 100000000 in
theorem told15_any (w : World) : Calls Try.prog 8 #[] w fun e w' => e = .returned (.bool true) ∧ Below w.heap.size w w' := by
  have HT := Lib.hid (fun W => (text_any ⟨#[97]⟩ (by show (1 : Nat) ≤ 1048576; omega) W (fun _ => False)).mono fun e w' h => h.sl)
  go_enter Try.func8, Try.ntmps8
  go_wp2_with fail
  refine (HT.out _).mono ?_
  rintro e w1 ⟨a1, c1, rfl, hb1, hd1⟩
  go_wp2_with fail
  obtain ⟨Z, hZ⟩ : ∃ Z, Z = (w1.alloc (.cells #[.int .i64 1, .int .i64 0, .string { data := #[97] }, .slice a1 0 c1] 24)) := ⟨_, rfl⟩
  have HZS : Hid (Z.heap.size = w1.heap.size + 1) := Lib.hid (by rw [hZ]; simp)
  have HZ0 : Hid (Z.heap[w1.heap.size]? = some (.cells #[.int .i64 1, .int .i64 0, .string { data := #[97] }, .slice a1 0 c1] 24)) := Lib.hid (by rw [hZ]; exact new_at)
  have HDA : Hid (∀ W P, DcIn W P [.int .i64 1, .int .i64 0, .string { data := #[97] }, .slice a1 0 c1] tA) := Lib.hid (fun W P => hd1.bare)
  have HWZ : Hid (Below w.heap.size w Z) := Lib.hid (hb1.trans (by rw [hZ]; exact (below1 _ _).mono hb1.size))
  have HN : Hid (∀ V g x, V.heap[g]? = some (.cells #[.int .i64 1, .int .i64 0, .string { data := #[97] }, .slice a1 0 c1] 24) → g ≠ x → x < V.heap.size → Below Z.heap.size Z V → Calls Try.prog 18 #[.int .i64 4, .slice (some ⟨g, 0, none⟩) 1 1] V fun e w' => ∃ a c, e = .returned (.agg #[.int .i64 6, .int .i64 4, .string ⟨#[]⟩, .slice a 1 c]) ∧ Hid (Below V.heap.size V w') ∧ Hid (Below Z.heap.size Z w') ∧ Hid (DcIn w' (fun g => g ≠ x) [.int .i64 6, .int .i64 4, .string ⟨#[]⟩, .slice a 1 c] tN4) ∧ Hid (∀ o, V.heap[x]? = some o → w'.heap[x]? = some o)) := Lib.hid fun V g x h hg hx hb =>
    (nest_any [tA] (by simp [dcntL, dcnt, tA]) ⟨⟨by show (1 : Nat) ≤ 1048576; omega, trivial⟩, trivial⟩ 4 _ V (fun g => g ≠ x ∧ g < V.heap.size) (fun g h => h.2) (row1 ⟨hg, lt_of_block h⟩ h (HDA.out _ _))).mono fun e w' h => by
      obtain ⟨a, c, q1, q2, q3⟩ := h.sl.off (y := x) (fun g h => h.1) hx
      exact ⟨a, c, q1, Lib.hid q2, Lib.hid (hb.trans (q2.mono hb.size)), Lib.hid q3, Lib.hid (fun o ho => (q2.block x hx).trans ho)⟩
  have HG : Hid (∀ V g x a2 c2, V.heap[g]? = some (.cells #[.int .i64 1, .int .i64 0, .string { data := #[97] }, .slice a1 0 c1, .int .i64 2, .int .i64 0, .string { data := #[] }, .slice none 0 0, .int .i64 6, .int .i64 4, .string { data := #[] }, .slice a2 1 c2] 24) → g ≠ x → x < V.heap.size → Below Z.heap.size Z V → DcIn V (fun g => g ≠ x) [.int .i64 6, .int .i64 4, .string ⟨#[]⟩, .slice a2 1 c2] tN4 → Calls Try.prog 19 #[.slice (some ⟨g, 0, none⟩) 3 3] V fun e w' => ∃ a c, e = .returned (.agg #[.int .i64 7, .int .i64 0, .string ⟨#[]⟩, .slice a 3 c]) ∧ Hid (Below V.heap.size V w') ∧ Hid (Below Z.heap.size Z w') ∧ Hid (DcIn w' (fun g => g ≠ x) [.int .i64 7, .int .i64 0, .string ⟨#[]⟩, .slice a 3 c] tG) ∧ Hid (∀ o, V.heap[x]? = some o → w'.heap[x]? = some o)) := Lib.hid fun V g x a2 c2 h hg hx hb hd =>
    (group_any [tA, .mk 2 0 ⟨#[]⟩ [], tN4] (by simp [dcntL, dcnt, tA, tN4]) (by simp [dtzL, dtz, tA, tN4, ByteArray.size]) _ V (fun g => g ≠ x ∧ g < V.heap.size) (fun g h => h.2) (row3 ⟨hg, lt_of_block h⟩ h (HDA.out _ _) (leaf_at V _ 2 0 ⟨#[]⟩) (hd.wide (fun g hg h => ⟨h, hg⟩)))).mono fun e w' h => by
      obtain ⟨a, c, q1, q2, q3⟩ := h.sl.off (y := x) (fun g h => h.1) hx
      exact ⟨a, c, q1, Lib.hid q2, Lib.hid (hb.trans (q2.mono hb.size)), Lib.hid q3, Lib.hid (fun o ho => (q2.block x hx).trans ho)⟩
  have HB0 : Hid (Below Z.heap.size Z (w1.alloc (.cells #[.int .i64 1, .int .i64 0, .string { data := #[97] }, .slice a1 0 c1] 24))) := Lib.hid (by rw [← hZ]; exact Below.refl _ _)
  clear hd1 hb1 hZ
  go_cut [2] from 4 to 10 (fun p wx => ∃ x a3 c3, p = .pointer (some ⟨x, 0, none⟩) ∧ Hid (Gd w wx w1.heap.size x a1 c1 a3 c3))
  case first =>
    go_region_with (first
      | (go_at_call 18; refine (HN.out _ _ (w1.heap.size + 1) ?_ ?_ ?_ ?_).mono ?_; (first | exact new_at' (by simp) | exact new_un (by simp) | (simp [World.alloc, World.drew, Array.getElem?_push] <;> done)); (omega); (simp <;> omega); (first | exact HB0.out | exact Below.drew HB0.out | exact Below.drew (HB0.out.alloc (by have := HB0.out.size; simpa using this) _)  | exact Below.drew ((HB0.out.alloc (by have := HB0.out.size; simpa using this) _).alloc (by have := HB0.out.size; simp at this ⊢; omega) _)); rintro e w2 ⟨a2, c2, rfl, hb2, hz2, hd2, hx2⟩; have hxx : Hid (Zx w2 (w1.heap.size + 1)) := Lib.hid (hx2.out zD (by first | exact new_at' (by simp) | exact new_un (by simp) | (simp [World.alloc, World.drew, Array.getElem?_push] <;> done))); clear hx2; obtain ⟨⟨s0, s1, s2, s3⟩, -⟩ := four_of ((hz2.out.block w1.heap.size (lt_of_block HZ0.out)).trans HZ0.out))
      | (go_at_call 18; refine (HN.out _ _ (w1.heap.size + 2) ?_ ?_ ?_ ?_).mono ?_; (first | exact new_at' (by simp) | exact new_un (by simp) | (simp [World.alloc, World.drew, Array.getElem?_push] <;> done)); (omega); (simp <;> omega); (first | exact HB0.out | exact Below.drew HB0.out | exact Below.drew (HB0.out.alloc (by have := HB0.out.size; simpa using this) _)  | exact Below.drew ((HB0.out.alloc (by have := HB0.out.size; simpa using this) _).alloc (by have := HB0.out.size; simp at this ⊢; omega) _)); rintro e w2 ⟨a2, c2, rfl, hb2, hz2, hd2, hx2⟩; have hxx : Hid (Zx w2 (w1.heap.size + 2)) := Lib.hid (hx2.out zD (by first | exact new_at' (by simp) | exact new_un (by simp) | (simp [World.alloc, World.drew, Array.getElem?_push] <;> done))); clear hx2; obtain ⟨⟨s0, s1, s2, s3⟩, -⟩ := four_of ((hz2.out.block w1.heap.size (lt_of_block HZ0.out)).trans HZ0.out))
      | (go_at_call 18; refine (HN.out _ _ w1.heap.size ?_ ?_ ?_ ?_).mono ?_; (first | exact new_at' (by simp) | exact new_un (by simp) | (simp [World.alloc, World.drew, Array.getElem?_push] <;> done)); (omega); (simp <;> omega); (first | exact HB0.out | exact Below.drew HB0.out | exact Below.drew (HB0.out.alloc (by have := HB0.out.size; simpa using this) _)  | exact Below.drew ((HB0.out.alloc (by have := HB0.out.size; simpa using this) _).alloc (by have := HB0.out.size; simp at this ⊢; omega) _)); rintro e w2 ⟨a2, c2, rfl, hb2, hz2, hd2, -⟩; obtain ⟨⟨s0, s1, s2, s3⟩, -⟩ := four_of ((hz2.out.block w1.heap.size (lt_of_block HZ0.out)).trans HZ0.out); obtain ⟨⟨r0, r1, r2, r3⟩, -⟩ := four_of (((below1 w2 (.cells #[.int .i64 0, .int .i64 0, .string { data := #[] }, .slice none 0 0] 24)).block w1.heap.size (lt_of_block ((hz2.out.block w1.heap.size (lt_of_block HZ0.out)).trans HZ0.out))).trans ((hz2.out.block w1.heap.size (lt_of_block HZ0.out)).trans HZ0.out)))
      | (go_at_call 19; refine (HG.out _ _ (w1.heap.size + 1) a2 c2 ?_ ?_ ?_ ?_ ?_).mono ?_; (first | exact new_at' (by simp) | exact new_un (by simp) | (simp [World.alloc, World.drew, Array.getElem?_push] <;> done)); (have q1 := lt_of_block hxx.out; omega); (have q1 : (w1.heap.size + 1) < w2.heap.size := lt_of_block hxx.out; simp <;> omega); (first | exact hz2.out.alloc hz2.out.size _ | exact (hz2.out.alloc hz2.out.size _).alloc (by have := hz2.out.size; simp; omega) _); (exact hd2.out.keep (keeps_below (below1 _ _))); rintro e w3 ⟨a3, c3, rfl, hb3, hz3, hd3, hx3⟩; have hx3' : Hid (Zx w3 (w1.heap.size + 1)) := Lib.hid (hx3.out zD (((below1 w2 _).block _ (lt_of_block hxx.out)).trans hxx.out)); obtain ⟨⟨e0, e1, e2, e3⟩, ef⟩ := four_of hx3'.out; clear hx3)
      | (go_at_call 19; refine (HG.out _ _ (w1.heap.size + 2) a2 c2 ?_ ?_ ?_ ?_ ?_).mono ?_; (first | exact new_at' (by simp) | exact new_un (by simp) | (simp [World.alloc, World.drew, Array.getElem?_push] <;> done)); (have q1 := lt_of_block hxx.out; omega); (have q1 : (w1.heap.size + 2) < w2.heap.size := lt_of_block hxx.out; simp <;> omega); (first | exact hz2.out.alloc hz2.out.size _ | exact (hz2.out.alloc hz2.out.size _).alloc (by have := hz2.out.size; simp; omega) _); (exact hd2.out.keep (keeps_below (below1 _ _))); rintro e w3 ⟨a3, c3, rfl, hb3, hz3, hd3, hx3⟩; have hx3' : Hid (Zx w3 (w1.heap.size + 2)) := Lib.hid (hx3.out zD (((below1 w2 _).block _ (lt_of_block hxx.out)).trans hxx.out)); obtain ⟨⟨e0, e1, e2, e3⟩, ef⟩ := four_of hx3'.out; clear hx3)
      | (go_at_call 19; refine (HG.out _ _ w2.heap.size a2 c2 ?_ ?_ ?_ ?_ ?_).mono ?_; (first | exact new_at' (by simp) | exact new_un (by simp) | (simp [World.alloc, World.drew, Array.getElem?_push] <;> done)); (omega); (simp <;> omega); (first | exact hz2.out.alloc hz2.out.size _ | exact (hz2.out.alloc hz2.out.size _).alloc (by have := hz2.out.size; simp; omega) _); (exact hd2.out.fresh (below2 _ _ _) (by omega)); rintro e w3 ⟨a3, c3, rfl, hb3, hz3, hd3, hx3⟩; have hx3' : Hid (Zx w3 w2.heap.size) := Lib.hid (hx3.out zD (by first | exact new_at' (by simp) | exact new_un (by simp) | (simp [World.alloc, World.drew, Array.getElem?_push] <;> done))); obtain ⟨⟨e0, e1, e2, e3⟩, ef⟩ := four_of hx3'.out; clear hx3)
      | (go_at_call 19; refine (HG.out _ _ (w2.heap.size + 1) a2 c2 ?_ ?_ ?_ ?_ ?_).mono ?_; (first | exact new_at' (by simp) | exact new_un (by simp) | (simp [World.alloc, World.drew, Array.getElem?_push] <;> done)); (omega); (simp <;> omega); (first | exact hz2.out.alloc hz2.out.size _ | exact (hz2.out.alloc hz2.out.size _).alloc (by have := hz2.out.size; simp; omega) _); (exact hd2.out.fresh (below2 _ _ _) (by omega)); rintro e w3 ⟨a3, c3, rfl, hb3, hz3, hd3, hx3⟩; have hx3' : Hid (Zx w3 (w2.heap.size + 1)) := Lib.hid (hx3.out zD (by first | exact new_at' (by simp) | exact new_un (by simp) | (simp [World.alloc, World.drew, Array.getElem?_push] <;> done))); obtain ⟨⟨e0, e1, e2, e3⟩, ef⟩ := four_of hx3'.out; clear hx3)
      | (go_at_call 19; refine (HG.out _ _ w1.heap.size a2 c2 ?_ ?_ ?_ ?_ ?_).mono ?_; (first | exact new_at' (by simp) | exact new_un (by simp) | (simp [World.alloc, World.drew, Array.getElem?_push] <;> done)); (have q1 := hz2.out.size; have q2 := HZS.out; omega); (have q1 := hz2.out.size; have q2 := HZS.out; simp <;> omega); (first | exact hz2.out.alloc hz2.out.size _ | exact (hz2.out.alloc hz2.out.size _).alloc (by have := hz2.out.size; simp; omega) _); (exact hd2.out.keep (keeps_below (below1 _ _))); rintro e w3 ⟨a3, c3, rfl, hb3, hz3, hd3, -⟩))
    all_goals go_wp2_with fail
    all_goals go_meet
    all_goals refine ⟨_, a3, c3, rfl, Lib.hid ?_⟩
    all_goals first
      | with_reducible exact Gd.new HWZ.out HZ0.out hz3.out hd3.out
      | (with_reducible refine Gd.old2 HWZ.out HZ0.out hz3.out hx3'.out ?_ ?_ hd3.out; (first | rfl | omega); (have := HZS.out; have := hz2.out.size; omega))
      | trace_state
  case rest =>
    obtain ⟨x, a3, c3, rfl, hgd⟩ := hcut
    obtain ⟨hx, hs, hbw, hdg⟩ := hgd.out
    have HUP := Lib.hid (fun W (h : Below wc.heap.size wc W) => hbw.trans (h.mono hbw.size))
    have HCF := Lib.hid (fun W (h : Below wc.heap.size wc W) => ((⟨(four_of ((h.block x (lt_of_block hx)).trans hx)).1, (four_of ((h.block w1.heap.size (lt_of_block hs)).trans hs)).1⟩ : (W.cell? ⟨x, 0, none⟩ = some (.int .i64 7) ∧ W.cell? ⟨x, 1, none⟩ = some (.int .i64 0) ∧ W.cell? ⟨x, 2, none⟩ = some (.string ⟨#[]⟩) ∧ W.cell? ⟨x, 3, none⟩ = some (.slice a3 3 c3)) ∧ (W.cell? ⟨w1.heap.size, 0, none⟩ = some (.int .i64 1) ∧ W.cell? ⟨w1.heap.size, 1, none⟩ = some (.int .i64 0) ∧ W.cell? ⟨w1.heap.size, 2, none⟩ = some (.string ⟨#[97]⟩) ∧ W.cell? ⟨w1.heap.size, 3, none⟩ = some (.slice a1 0 c1)))))
    have HB : Hid (Below wc.heap.size wc wc) := Lib.hid (Below.refl _ _)
    have HM : Hid (∀ W, Below wc.heap.size wc W → Calls Try.prog 9 #[.agg #[.int .i64 7, .int .i64 0, .string ⟨#[]⟩, .slice a3 3 c3]] W fun e w' => e = .returned (.bool true) ∧ Hid (Below wc.heap.size wc w')) := Lib.hid fun W h => (pdmay_any tG (by simp [tG, tA, tN4, dcnt, dcntL]) _ W (hdg.down h)).mono fun e w' ⟨q1, q2⟩ => ⟨q1.trans (by rw [show drt tG = true by decide +kernel]), Lib.hid (h.trans (q2.mono h.size))⟩
    have HF : Hid (∀ W, Below wc.heap.size wc W → Calls Try.prog 11 #[.agg #[.int .i64 7, .int .i64 0, .string ⟨#[]⟩, .slice a3 3 c3]] W fun e w' => e = .returned (.bool false) ∧ Hid (Below wc.heap.size wc w')) := Lib.hid fun W h => (pdforced_any tG (by simp [tG, tA, tN4, dcnt, dcntL]) _ W (hdg.down h)).mono fun e w' ⟨q1, q2⟩ => ⟨q1, Lib.hid (h.trans (q2.mono h.size))⟩
    have HN : Hid (∀ W, Below wc.heap.size wc W → Calls Try.prog 13 #[.agg #[.int .i64 7, .int .i64 0, .string ⟨#[]⟩, .slice a3 3 c3]] W fun e w' => e = .returned (.int .i64 5) ∧ Hid (Below wc.heap.size wc w')) := Lib.hid fun W h => (pdcount_any tG (by simp [tG, tA, tN4, dcnt, dcntL]) _ W (hdg.down h)).mono fun e w' ⟨q1, q2⟩ => ⟨q1, Lib.hid (h.trans (q2.mono h.size))⟩
    have HBR : Hid (∀ V g, V.heap[g]? = some (.cells #[.int .i64 1, .int .i64 0, .string { data := #[97] }, .slice a1 0 c1] 24) → Below wc.heap.size wc V → Calls Try.prog 20 #[.slice (some ⟨g, 0, none⟩) 1 1] V fun e w' => ∃ a c, e = .returned (.agg #[.int .i64 7, .int .i64 1, .string ⟨#[]⟩, .slice a 1 c]) ∧ Hid (Below wc.heap.size wc w') ∧ Hid (∀ W, Below w'.heap.size w' W → Calls Try.prog 11 #[.agg #[.int .i64 7, .int .i64 1, .string ⟨#[]⟩, .slice a 1 c]] W fun e w2 => e = .returned (.bool true) ∧ Hid (Below wc.heap.size wc w2))) := Lib.hid fun V g h hb =>
      (broken_any2 [tA] (by simp [dcntL, dcnt, tA]) ⟨⟨by show (1 : Nat) ≤ 1048576; omega, trivial⟩, trivial⟩ _ V (fun g => g < V.heap.size) (fun g h => h) (row1 (lt_of_block h) h (HDA.out _ _))).mono fun e w' h => by
        obtain ⟨a, c, q1, q2, q3⟩ := h.sl
        have q4 := hb.trans (q2.mono hb.size)
        have q5 : DcAt w' [.int .i64 7, .int .i64 1, .string ⟨#[]⟩, .slice a 1 c] (.mk 7 1 ⟨#[]⟩ [tA]) := q3.wide (fun g hg _ => hg)
        exact ⟨a, c, q1, Lib.hid q4, Lib.hid fun W h2 => (pdforced_any (.mk 7 1 ⟨#[]⟩ [tA]) (by simp [tA, dcnt, dcntL]) _ W (q5.down h2)).mono fun e w2 ⟨r1, r2⟩ => ⟨r1, Lib.hid ((q4.trans (h2.mono q4.size)).trans (r2.mono ((q4.trans (h2.mono q4.size)).size)))⟩⟩
    have HCT : Hid (∀ V g, V.heap[g]? = some (.cells #[.int .i64 4, .int .i64 0, .string { data := #[] }, .slice none 0 0] 24) → Below wc.heap.size wc V → Calls Try.prog 17 #[.slice (some ⟨g, 0, none⟩) 1 1] V fun e w' => ∃ a c, e = .returned (.agg #[.int .i64 5, .int .i64 0, .string ⟨#[]⟩, .slice a 1 c]) ∧ Hid (Below wc.heap.size wc w') ∧ Hid (∀ W, Below w'.heap.size w' W → Calls Try.prog 11 #[.agg #[.int .i64 5, .int .i64 0, .string ⟨#[]⟩, .slice a 1 c]] W fun e w2 => e = .returned (.bool true) ∧ Hid (Below wc.heap.size wc w2))) := Lib.hid fun V g h hb =>
      (cat_any [.mk 4 0 ⟨#[]⟩ []] (by simp [dcntL, dcnt]) (by simp [dtzL, dtz, ByteArray.size]) _ V (fun g => g < V.heap.size) (fun g h => h) (row1 (lt_of_block h) h (leaf_at _ _ _ _ _))).mono fun e w' h => by
        obtain ⟨a, c, q1, q2, q3⟩ := h.sl
        have q4 := hb.trans (q2.mono hb.size)
        have q5 : DcAt w' [.int .i64 5, .int .i64 0, .string ⟨#[]⟩, .slice a 1 c] (.mk 5 0 ⟨#[]⟩ [.mk 4 0 ⟨#[]⟩ []]) := q3.wide (fun g hg _ => hg)
        exact ⟨a, c, q1, Lib.hid q4, Lib.hid fun W h2 => (pdforced_any (.mk 5 0 ⟨#[]⟩ [.mk 4 0 ⟨#[]⟩ []]) (by simp [dcnt, dcntL]) _ W (q5.down h2)).mono fun e w2 ⟨r1, r2⟩ => ⟨r1, Lib.hid ((q4.trans (h2.mono q4.size)).trans (r2.mono ((q4.trans (h2.mono q4.size)).size)))⟩⟩
    have HM0 : Hid (∀ W, Below wc.heap.size wc W → Calls Try.prog 9 #[.agg #[.int .i64 0, .int .i64 0, .string ⟨#[]⟩, .slice none 0 0]] W fun e w' => e = .returned (.bool false) ∧ Hid (Below wc.heap.size wc w')) := Lib.hid fun W h => (pdmay_any (.mk 0 0 ⟨#[]⟩ []) (by simp [dcnt, dcntL]) _ W (leaf_at _ _ _ _ _)).mono fun e w' ⟨q1, q2⟩ => ⟨q1, Lib.hid (h.trans (q2.mono h.size))⟩
    have HTN : Hid (∀ W, Below wc.heap.size wc W → Calls Try.prog 16 #[.string ⟨#[97, 10]⟩] W fun e w' => ∃ a c, e = .returned (.agg #[.int .i64 1, .int .i64 0, .string ⟨#[97, 10]⟩, .slice a 0 c]) ∧ Hid (Below wc.heap.size wc w') ∧ Hid (∀ W, Below w'.heap.size w' W → Calls Try.prog 9 #[.agg #[.int .i64 1, .int .i64 0, .string ⟨#[97, 10]⟩, .slice a 0 c]] W fun e w2 => e = .returned (.bool false) ∧ Hid (Below wc.heap.size wc w2))) := Lib.hid fun V hb =>
      (text_any ⟨#[97, 10]⟩ (by show (2 : Nat) ≤ 1048576; omega) V (fun _ => False)).mono fun e w' h => by
        obtain ⟨a, c, q1, q2, q3⟩ := h.sl
        have q4 := hb.trans (q2.mono hb.size)
        exact ⟨a, c, q1, Lib.hid q4, Lib.hid fun W h2 => (pdmay_any (.mk 1 0 ⟨#[97, 10]⟩ []) (by simp [dcnt, dcntL]) _ W q3.bare).mono fun e w2 ⟨r1, r2⟩ => ⟨r1, Lib.hid ((q4.trans (h2.mono q4.size)).trans (r2.mono ((q4.trans (h2.mono q4.size)).size)))⟩⟩
    obtain ⟨⟨d0, d1, d2, d3⟩, ⟨e0, e1, e2, e3⟩⟩ := HCF.out _ HB.out
    clear hx hs hbw hdg hgd
    go_wp2_with fail
    refine (HM.out _ HB.out).mono ?_
    rintro e w3 ⟨rfl, hb3⟩
    obtain ⟨⟨f0, f1, f2, f3⟩, ⟨g0, g1, g2, g3⟩⟩ := HCF.out _ hb3.out
    go_wp2_with fail
    refine (HF.out _ hb3.out).mono ?_
    rintro e w4 ⟨rfl, hb4⟩
    obtain ⟨⟨h0, h1, h2, h3⟩, ⟨i0, i1, i2, i3⟩⟩ := HCF.out _ hb4.out
    go_wp2_with fail
    refine (HBR.out _ _ (new_at' rfl) (hb4.out.alloc hb4.out.size _)).mono ?_
    rintro e w5 ⟨a5, c5, rfl, hb5, hf5⟩
    go_wp2_with fail
    refine (hf5.out _ (Below.refl _ _)).mono ?_
    rintro e w6 ⟨rfl, hb6⟩
    go_wp2_with fail
    refine (HCT.out _ _ (new_at' rfl) (hb6.out.alloc hb6.out.size _)).mono ?_
    rintro e w7 ⟨a7, c7, rfl, hb7, hf7⟩
    go_wp2_with fail
    refine (hf7.out _ (Below.refl _ _)).mono ?_
    rintro e w8 ⟨rfl, hb8⟩
    obtain ⟨⟨j0, j1, j2, j3⟩, -⟩ := HCF.out _ hb8.out
    go_wp2_with fail
    refine (HN.out _ hb8.out).mono ?_
    rintro e w9 ⟨rfl, hb9⟩
    go_wp2_with fail
    refine (HM0.out _ hb9.out).mono ?_
    rintro e w10 ⟨rfl, hb10⟩
    go_wp2_with fail
    refine (HTN.out _ hb10.out).mono ?_
    rintro e w11 ⟨a11, c11, rfl, hb11, hf11⟩
    go_wp2_with fail
    refine (hf11.out _ (Below.refl _ _)).mono ?_
    rintro e w12 ⟨rfl, hb12⟩
    go_wp2_with fail
    go_ret
    exact ⟨rfl, HUP.out _ hb12.out⟩
end Go.Proofs.Ytnmpapmjkihfcaa
