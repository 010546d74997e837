/-
  The document's own Escape: what the walks speak of.
-/
import Derived.Test.YtjenofochgcjmaaDoorRefInt
import Derived.Test.YtjenofochgcjmaaDoorRefUtf
import Derived.Test.YtjenofochgcjmaaDoorMath
import Derived.Test.YtjenofochgcjmaaDoorLitEscs
/- The contract of the document's own Escape. -/
namespace Go.Proofs.YtjenofochgcjmaaDoor
open Go.RowKit Go.PlainAid

/-- The letters that mean something, and what. -/
def nmS : ByteArray := { data := #[98, 100, 101, 102, 110, 114, 115, 116, 118] }
def nmM : List Int := [8, 127, 27, 12, 10, 13, 32, 9, 11]
theorem nm_all : ∀ k : Fin 9, ltr (bt nmS k.val) = nmM.getD k.val 0 ∧ nmM.getD k.val 0 ≠ 0 ∧ 0 ≤ nmM.getD k.val 0 ∧ nmM.getD k.val 0 < 128 := by decide +kernel
theorem nm_none {c : Int} (h : ∀ k, k < 9 → bt nmS k ≠ c) : ltr c = 0 := by
  have e0 := h 0 (by omega)
  have e1 := h 1 (by omega)
  have e2 := h 2 (by omega)
  have e3 := h 3 (by omega)
  have e4 := h 4 (by omega)
  have e5 := h 5 (by omega)
  have e6 := h 6 (by omega)
  have e7 := h 7 (by omega)
  have e8 := h 8 (by omega)
  rw [show bt nmS 0 = 98 by decide +kernel] at e0
  rw [show bt nmS 1 = 100 by decide +kernel] at e1
  rw [show bt nmS 2 = 101 by decide +kernel] at e2
  rw [show bt nmS 3 = 102 by decide +kernel] at e3
  rw [show bt nmS 4 = 110 by decide +kernel] at e4
  rw [show bt nmS 5 = 114 by decide +kernel] at e5
  rw [show bt nmS 6 = 115 by decide +kernel] at e6
  rw [show bt nmS 7 = 116 by decide +kernel] at e7
  rw [show bt nmS 8 = 118 by decide +kernel] at e8
  unfold ltr
  rw [if_neg (by omega), if_neg (by omega), if_neg (by omega), if_neg (by omega), if_neg (by omega), if_neg (by omega), if_neg (by omega), if_neg (by omega), if_neg (by omega)]
theorem pt_small {v : Int} (h0 : 0 ≤ v) (h1 : v < 55296) : isPt v = true := decide_eq_true (by omega)
theorem esc_in {s : ByteArray} {a : Nat} (h : a < s.size) (h92 : bt s a = 92) : esc s a = if isPt (mnt s (a + 1)).1 = true then ((mnt s (a + 1)).1, 1 + (mnt s (a + 1)).2) else (-1, 0) := by
  unfold esc
  rw [if_pos ⟨h, h92⟩]
theorem rc_none {s : ByteArray} {b : Int} {m j : Nat} (h : ¬ dg (bt s j) < b) : rc s b (m + 1) j = 0 := by
  simp only [rc, if_neg h]
theorem rc_some {s : ByteArray} {b : Int} {m j : Nat} (h : dg (bt s j) < b) : 0 < rc s b (m + 1) j := by
  simp only [rc, if_pos h]; omega
theorem esc_out {s : ByteArray} {a : Nat} (h : ¬ (a + 1 < s.size ∧ bt s a = 92)) : esc s a = (-1, 0) := by
  by_cases h1 : a < s.size ∧ bt s a = 92
  · have hz : a + 1 = s.size := by
      by_cases h2 : a + 1 < s.size
      · exact absurd ⟨h2, h1.2⟩ h
      · omega
    have h0 : bt s (a + 1) = 0 := bt_end s (by omega)
    have hm : mnt s (a + 1) = (-1, 0) := by
      unfold mnt
      rw [rc_none (by rw [h0, dg_zero]; omega), if_neg (by omega), h0, if_neg (by omega), if_neg (by omega), if_pos (.inl (by omega))]
    rw [esc_in h1.1 h1.2, hm, if_neg (by decide)]
  · unfold esc
    rw [if_neg h1]
theorem dg_oct {c : Int} (h : dg c < 8) : 48 ≤ c ∧ c ≤ 55 := by
  unfold dg at h
  split at h
  · omega
  · split at h
    · omega
    · split at h
      · omega
      · omega
theorem oct_dg {c : Int} (h0 : 48 ≤ c) (h1 : c ≤ 55) : dg c < 8 := by unfold dg; rw [if_pos (by omega)]; omega
theorem esc_name {s : ByteArray} {a : Nat} (h : a + 1 < s.size) (h92 : bt s a = 92) {k : Nat} (hk : k < 9) (hc : bt nmS k = bt s (a + 1)) : esc s a = (nmM.getD k 0, 2) := by
  obtain ⟨n1, n2, n3, n4⟩ := nm_all ⟨k, hk⟩
  simp only at n1 n2 n3 n4
  rw [hc] at n1
  have hl : ltr (bt s (a + 1)) ≠ 0 := by rw [n1]; exact n2
  have hr : 98 ≤ bt s (a + 1) ∧ bt s (a + 1) ≤ 118 := by
    unfold ltr at hl
    repeat' split at hl
    all_goals omega
  have ha := nc_ascii h (by omega)
  have hm : mnt s (a + 1) = (nmM.getD k 0, 1) := by
    unfold mnt
    rw [rc_none (fun h' => by have := dg_oct h'; omega), if_neg (by omega), if_neg (by omega), if_neg (by omega), ha.1, if_neg (by omega), if_pos ⟨by omega, hl⟩, ha.2, n1]
  rw [esc_in (by omega) h92, hm, if_pos (pt_small n3 (by first | omega | (simp only; omega)))]
  all_goals rfl
theorem esc_oct8 {s : ByteArray} {a : Nat} (h : a + 1 < s.size) (h92 : bt s a = 92) (h0 : 48 ≤ bt s (a + 1)) (h1 : bt s (a + 1) ≤ 55) : esc s a = (rv s 8 3 (a + 1) 0, 1 + rc s 8 3 (a + 1)) := by
  have hm : mnt s (a + 1) = (rv s 8 3 (a + 1) 0, rc s 8 3 (a + 1)) := by
    unfold mnt
    rw [if_pos (rc_some (oct_dg h0 h1))]
  have := rv_oct s (a + 1)
  rw [esc_in (by omega) h92, hm, if_pos (pt_small this.1 (by first | omega | (simp only; omega)))]
  all_goals rfl
theorem mnt_x {s : ByteArray} {j : Nat} (h : bt s j = 120) : mnt s j = hxd s j := by
  unfold mnt
  rw [rc_none (fun h' => by have := dg_oct h'; omega), if_neg (by omega), if_pos h]
theorem esc_xo {s : ByteArray} {a : Nat} (h : a + 1 < s.size) (h92 : bt s a = 92) (hx : bt s (a + 1) = 120) (hb : bt s (a + 2) = 123) :
    esc s a = if rc s 16 6 (a + 3) = 0 ∨ bt s (a + 3 + rc s 16 6 (a + 3)) ≠ 125 ∨ isPt (rv s 16 6 (a + 3) 0) = false then (-1, 0) else (rv s 16 6 (a + 3) 0, 4 + rc s 16 6 (a + 3)) := by
  rw [esc_in (by omega) h92, mnt_x hx]
  unfold hxd
  rw [show a + 1 + 1 = a + 2 by omega, show a + 1 + 2 = a + 3 by omega, if_pos hb]
  by_cases c1 : rc s 16 6 (a + 3) = 0 ∨ bt s (a + 3 + rc s 16 6 (a + 3)) ≠ 125
  · rw [if_pos c1, if_neg (by decide), if_pos (c1.imp id .inl)]
  · rw [if_neg c1]
    simp only
    cases hp : isPt (rv s 16 6 (a + 3) 0)
    · rw [if_neg (by decide), if_pos (.inr (.inr rfl))]
    · rw [if_pos rfl, if_neg (by
        rintro (h' | h' | h')
        · exact c1 (.inl h')
        · exact c1 (.inr h')
        · cases h')]
      rw [show 1 + (rc s 16 6 (a + 3) + 3) = 4 + rc s 16 6 (a + 3) by omega]
theorem esc_xx {s : ByteArray} {a : Nat} (h : a + 1 < s.size) (h92 : bt s a = 92) (hx : bt s (a + 1) = 120) (hb : bt s (a + 2) ≠ 123) :
    esc s a = if rc s 16 2 (a + 2) < 2 then (-1, 0) else (rv s 16 2 (a + 2) 0, 4) := by
  rw [esc_in (by omega) h92, mnt_x hx]
  unfold hxd
  rw [show a + 1 + 1 = a + 2 by omega, if_neg hb]
  by_cases c1 : rc s 16 2 (a + 2) < 2
  · rw [if_pos c1, if_pos c1, if_neg (by decide)]
  · rw [if_neg c1, if_neg c1]
    have hv := rv_bd s 16 (by omega) 2 (a + 2) 0 (by omega)
    have h1 := pow_bd 16 (by omega) (rc s 16 2 (a + 2)) 2 (rc_le s 16 2 (a + 2))
    have h2 : (16 : Int) ^ 2 = 256 := by decide
    rw [if_pos (pt_small hv.1 (by first | omega | (simp only; omega)))]
    all_goals rfl
theorem esc_ctl {s : ByteArray} {a : Nat} (h : a + 1 < s.size) (h92 : bt s a = 92) (hx : bt s (a + 1) = 94) :
    esc s a = if (64 ≤ bt s (a + 2) ∧ bt s (a + 2) ≤ 95) ∨ (97 ≤ bt s (a + 2) ∧ bt s (a + 2) ≤ 122) then (bt s (a + 2) % 32, 3) else (-1, 0) := by
  have hm : mnt s (a + 1) = ctl (bt s (a + 2)) := by
    unfold mnt
    rw [rc_none (fun h' => by have := dg_oct h'; omega), if_neg (by omega), if_neg (by omega), if_pos hx]
  rw [esc_in (by omega) h92, hm]
  unfold ctl
  by_cases c1 : (64 ≤ bt s (a + 2) ∧ bt s (a + 2) ≤ 95) ∨ (97 ≤ bt s (a + 2) ∧ bt s (a + 2) ≤ 122)
  · rw [if_pos c1, if_pos c1, if_pos (pt_small (by first | omega | (simp only; omega)) (by first | omega | (simp only; omega)))]
    all_goals rfl
  · rw [if_neg c1, if_neg c1, if_neg (by decide)]
theorem esc_else {s : ByteArray} {a : Nat} (h : a + 1 < s.size) (h92 : bt s a = 92) (h8 : ¬ (48 ≤ bt s (a + 1) ∧ bt s (a + 1) ≤ 55)) (hx : bt s (a + 1) ≠ 120) (hu : bt s (a + 1) ≠ 94) (hl : ltr (bt s (a + 1)) = 0) :
    esc s a = if nc s (a + 1) < 32 then (-1, 0) else (nc s (a + 1), 1 + nl s (a + 1)) := by
  have hm : mnt s (a + 1) = if nc s (a + 1) < 32 then (-1, 0) else (nc s (a + 1), nl s (a + 1)) := by
    unfold mnt
    rw [rc_none (fun h' => h8 (dg_oct h')), if_neg (by omega), if_neg hx, if_neg hu]
    by_cases c1 : nc s (a + 1) < 32
    · rw [if_pos (.inr c1), if_pos c1]
    · rw [if_neg (by omega), if_neg c1, if_neg (fun h' => h'.2 hl)]
  rw [esc_in (by omega) h92, hm]
  by_cases c1 : nc s (a + 1) < 32
  · rw [if_pos c1, if_pos c1, if_neg (by decide)]
  · rw [if_neg c1, if_neg c1, if_pos (nc_pt (by omega))]

end Go.Proofs.YtjenofochgcjmaaDoor
/- The document's own Escape: what stands for no escape. -/
namespace Go.Proofs.YtjenofochgcjmaaDoor
open Go.RowKit Go.PlainAid

def RNext (s : ByteArray) (j v n : Int) : Prop := ∀ W, Calls Tryd.prog 20 #[.string s, .int .i64 j] W fun e w' => e = .returned (.tuple #[.int .i64 v, .int .i64 n]) ∧ ∃ q, w' = W.drewN q
/-- The means lie in a block of their own. -/
def MeansAt (w w' : World) : Prop := (∀ k, k < 9 → w'.cell? ⟨w.heap.size, k, none⟩ = some (.int .i64 (nmM.getD k 0))) ∧ Below w.heap.size w w'
theorem means_at (w : World) (cs : Array Value) (t : TypeId) (h : cs = (nmM.map (Value.int .i64)).toArray) : MeansAt w (w.alloc (.cells cs t)) := by
  refine ⟨fun k hk => ?_, (Below.refl _ _).alloc (Nat.le_refl _) _⟩
  rw [World.cell?_alloc_new, h]
  have hk' : k < nmM.length := hk
  simp [List.getD_eq_getElem?_getD, List.getElem?_eq_getElem hk']
end Go.Proofs.YtjenofochgcjmaaDoor
