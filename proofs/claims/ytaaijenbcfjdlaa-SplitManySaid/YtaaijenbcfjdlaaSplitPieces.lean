/-
  Forms and notes in any order, with a blank line ahead or not: what such a text scans as, and its items.
-/
import Derived.Test.YtaaijenbcfjdlaaSplitJoin
namespace Go.Proofs.Ytaaijenbcfjdlaa
open Go.RowKit Go.PlainAid

def wantF : ByteArray := { data := #[102, 40, 120, 44, 32, 37, 105, 110, 10, 32, 121, 41, 32, 45, 62, 32, 122, 46] }
def wantN : ByteArray := { data := #[37, 32, 99] }
def want8 (note : Bool) : ByteArray := if note then wantN else wantF
def pcFF : ByteArray := { data := #[102, 40, 120, 44, 32, 37, 105, 110, 10, 32, 121, 41, 32, 45, 62, 32, 122, 46, 10] }
def pcFB : ByteArray := { data := #[10, 10, 102, 40, 120, 44, 32, 37, 105, 110, 10, 32, 121, 41, 32, 45, 62, 32, 122, 46, 10] }
def pcNF : ByteArray := { data := #[37, 32, 99, 10] }
def pcNB : ByteArray := { data := #[10, 10, 37, 32, 99, 10] }
def pc8 (note b : Bool) : ByteArray := if note then (if b then pcNB else pcNF) else (if b then pcFB else pcFF)
theorem made_of {P : ByteArray} {L : List Tk3} {v : It} {t : Tell} {z : Tk3} (h1 : scanR P = (L, 0)) (h2 : 0 < P.size) (h3 : bt P (P.size - 1) = 10) (h4 : L[L.length - 1]? = some z) (h5 : z.2.2 ≤ P.size ∧ nlr P z.2.2 (P.size - z.2.2) = 1) (h6 : sp P L 0 = [v]) (h7 : Closed L v.1) (h8 : t = (v.2.2.1, v.2.2.2, byt P L v.1 v.2.1)) : Made P L [t] := by
  refine ⟨h1, h2, h3, ⟨z, h4, h5.1, h5.2⟩, by rw [h6]; rfl, fun j y hy => ?_⟩
  rw [h6] at hy
  match j, hy with
  | 0, hy =>
    simp only [List.getElem?_cons_zero, Option.some.injEq] at hy
    subst hy
    exact ⟨h7, by rw [h8]; rfl⟩
  | j + 1, hy => simp at hy
def lFF : List Tk3 := (scanF pcFF).1
def lFB : List Tk3 := (scanF pcFB).1
def lNF : List Tk3 := [(11, 0, 3)]
def lNB : List Tk3 := [(11, 2, 5)]
theorem made_FF : Made pcFF lFF [(false, false, wantF)] :=
  made_of (v := (0, 10, false, false)) (z := (10, 17, 18)) (by rw [scan_F]; decide +kernel) (by decide +kernel) (by decide +kernel) (by decide +kernel) (by decide +kernel)
    (by rw [sp_go (x := (1, 0, 1)) (by decide +kernel), sp_end (by decide +kernel)]; decide +kernel) (.inr ⟨(10, 17, 18), by decide +kernel, rfl⟩) (by decide +kernel)
theorem made_FB : Made pcFB lFB [(false, false, wantF)] :=
  made_of (v := (0, 10, false, false)) (z := (10, 19, 20)) (by rw [scan_F]; decide +kernel) (by decide +kernel) (by decide +kernel) (by decide +kernel) (by decide +kernel)
    (by rw [sp_go (x := (1, 2, 3)) (by decide +kernel), sp_end (by decide +kernel)]; decide +kernel) (.inr ⟨(10, 19, 20), by decide +kernel, rfl⟩) (by decide +kernel)
theorem made_NF : Made pcNF lNF [(true, false, wantN)] :=
  made_of (v := (0, 1, true, false)) (z := (11, 0, 3)) (by rw [scan_F]; decide +kernel) (by decide +kernel) (by decide +kernel) (by decide +kernel) (by decide +kernel)
    (by rw [sp_go (x := (11, 0, 3)) (by decide +kernel), sp_end (by decide +kernel)]; decide +kernel) (.inl ⟨(11, 0, 3), by decide +kernel, rfl⟩) (by decide +kernel)
theorem made_NB : Made pcNB lNB [(true, false, wantN)] :=
  made_of (v := (0, 1, true, false)) (z := (11, 2, 5)) (by rw [scan_F]; decide +kernel) (by decide +kernel) (by decide +kernel) (by decide +kernel) (by decide +kernel)
    (by rw [sp_go (x := (11, 2, 5)) (by decide +kernel), sp_end (by decide +kernel)]; decide +kernel) (.inl ⟨(11, 2, 5), by decide +kernel, rfl⟩) (by decide +kernel)
theorem made_pc : ∀ note b, ∃ M, Made (pc8 note b) M [(note, false, want8 note)] ∧ ∃ x, M[0]? = some x ∧ decide (1 ≤ nlr (pc8 note b) 0 x.2.1) = b
  | false, false => ⟨_, made_FF, (1, 0, 1), by decide +kernel, by decide +kernel⟩
  | false, true => ⟨_, made_FB, (1, 2, 3), by decide +kernel, by decide +kernel⟩
  | true, false => ⟨_, made_NF, (11, 0, 3), by decide +kernel, by decide +kernel⟩
  | true, true => ⟨_, made_NB, (11, 2, 5), by decide +kernel, by decide +kernel⟩
theorem pc8_size : ∀ note b, (pc8 note b).size ≤ 21 := by decide
/-- So many of them. -/
def mk8 (ns bs : Nat → Bool) : Nat → ByteArray
  | 0 => { data := #[] }
  | i + 1 => mk8 ns bs i ++ pc8 (ns i) (bs i)
def tell8 (ns bs : Nat → Bool) (i : Nat) : List Tell := (List.range i).map fun j => (ns j, bs j && decide (0 < j), want8 (ns j))
theorem tell8_succ (ns bs : Nat → Bool) (i : Nat) : tell8 ns bs (i + 1) = tell8 ns bs i ++ [(ns i, bs i && decide (0 < i), want8 (ns i))] := by
  unfold tell8; rw [List.range_succ, List.map_append]; rfl
theorem mk8_size (ns bs : Nat → Bool) : ∀ i, (mk8 ns bs i).size ≤ 21 * i
  | 0 => Nat.le_refl _
  | i + 1 => by
    have h1 := mk8_size ns bs i
    have h2 := pc8_size (ns i) (bs i)
    simp only [mk8, ByteArray.size_append]
    omega
theorem mk8_made (ns bs : Nat → Bool) : ∀ i, i ≤ 1000 → ∃ L, Made (mk8 ns bs (i + 1)) L (tell8 ns bs (i + 1))
  | 0, _ => by
    obtain ⟨M, h1, -⟩ := made_pc (ns 0) (bs 0)
    refine ⟨M, ?_⟩
    have e : mk8 ns bs (0 + 1) = pc8 (ns 0) (bs 0) := ByteArray.empty_append
    rw [e, tell8_succ]
    simpa [tell8] using h1
  | i + 1, hi => by
    obtain ⟨L, h⟩ := mk8_made ns bs i (by omega)
    obtain ⟨M, h1, x, h2, h3⟩ := made_pc (ns (i + 1)) (bs (i + 1))
    have z1 := mk8_size ns bs (i + 1)
    have z2 := pc8_size (ns (i + 1)) (bs (i + 1))
    have := h.join h1 h2 (by omega)
    rw [h3] at this
    refine ⟨L ++ shf (mk8 ns bs (i + 1)).size M, ?_⟩
    · rw [tell8_succ, show (bs (i + 1) && decide (0 < i + 1)) = bs (i + 1) by simp]
      exact this
/-- So many of them scan so, and have these items. -/
theorem many_is (ns bs : Nat → Bool) (n : Nat) (hn : n ≤ 1000) : ∃ L, scanR (mk8 ns bs n) = (L, 0) ∧ (sp (mk8 ns bs n) L 0).length = n ∧ ∀ (j : Nat) (y : It), (sp (mk8 ns bs n) L 0)[j]? = some y →
    y.2.2.1 = ns j ∧ y.2.2.2 = (bs j && decide (0 < j)) ∧ bytI (mk8 ns bs n) L y.1 y.2.1 = want8 (ns j) := by
  match n with
  | 0 =>
    refine ⟨[], ?_, ?_, fun j y hy => ?_⟩
    · show scanR { data := #[] } = _
      rw [scan_F]; decide +kernel
    · rw [sp_end (by decide)]; rfl
    · rw [sp_end (by decide)] at hy; simp at hy
  | n + 1 =>
    obtain ⟨L, h1, -, -, -, h5, h6⟩ := mk8_made ns bs n (by omega)
    refine ⟨L, h1, by rw [h5]; unfold tell8; simp, fun j y hy => ?_⟩
    obtain ⟨-, g2⟩ := h6 j y hy
    obtain ⟨-, -, p3, -, p5, p6, -⟩ := sp_each _ L _ 0 (Nat.le_refl _) j y hy
    have hp := itn_pos (L.drop y.1)
    have hj : j < n + 1 := by
      have := (List.getElem?_eq_some_iff.1 g2).1
      unfold tell8 at this; simpa using this
    unfold tell8 at g2
    rw [List.getElem?_map, List.getElem?_range hj] at g2
    simp only [Option.map_some, Option.some.injEq, Prod.mk.injEq] at g2
    exact ⟨g2.1.symm, g2.2.1.symm, by rw [bytI_in (by omega) p6]; exact g2.2.2.symm⟩
theorem pc_split (note b : Bool) (S : ByteArray) : S ++ pc8 note b = (if b then S ++ { data := #[10, 10] } else S) ++ (if note then { data := #[37, 32, 99, 10] } else { data := #[102, 40, 120, 44, 32, 37, 105, 110, 10, 32, 121, 41, 32, 45, 62, 32, 122, 46, 10] }) := by
  cases note <;> cases b
  · rfl
  · show S ++ pcFB = (S ++ _) ++ _
    rw [ByteArray.append_assoc]; rfl
  · rfl
  · show S ++ pcNB = (S ++ _) ++ _
    rw [ByteArray.append_assoc]; rfl
end Go.Proofs.Ytaaijenbcfjdlaa
