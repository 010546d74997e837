/-
  The document's own Escape: what stands for no escape.
-/
import Derived.Test.YtnejkdaiopjchaaDoorRefEscMath
namespace Go.Proofs.YtnejkdaiopjchaaDoor
open Go.RowKit Go.PlainAid

/-- What run and Next answer. -/
def RunM (s : ByteArray) (j b m v n : Int) : Prop := ∀ W, Calls Tryd.prog 32 #[.string s, .int .i64 j, .int .i64 b, .int .i64 m] W fun e w' => e = .returned (.tuple #[.int .i64 v, .int .i64 n]) ∧ ∃ q, w' = W.drewN q
def RNext (s : ByteArray) (j v n : Int) : Prop := ∀ W, Calls Tryd.prog 29 #[.string s, .int .i64 j] W fun e w' => e = .returned (.tuple #[.int .i64 v, .int .i64 n]) ∧ ∃ q, w' = W.drewN q
def EscR (s : ByteArray) (j v n : Int) : Prop := ∀ W, Calls Tryd.prog 14 #[.string s, .int .i64 j] W fun e w' => e = .returned (.tuple #[.int .i64 v, .int .i64 n]) ∧ Below W.heap.size W w'
/-- The means lie in a block of their own. -/
def MeansAt (w w' : World) : Prop := (∀ k, k < 9 → w'.cell? ⟨w.heap.size, k, none⟩ = some (.int .i64 (nmM.getD k 0))) ∧ Below w.heap.size w w'
theorem means_at (w : World) (cs : Array Value) (t : TypeId) (h : cs = (nmM.map (Value.int .i64)).toArray) : MeansAt w (w.alloc (.cells cs t)) := by
  refine ⟨fun k hk => ?_, (Below.refl _ _).alloc (Nat.le_refl _) _⟩
  rw [World.cell?_alloc_new, h]
  have hk' : k < nmM.length := hk
  simp [List.getD_eq_getElem?_getD, List.getElem?_eq_getElem hk']
set_option maxRecDepth 100000 in
theorem resc_neg (s : ByteArray) (k : Int) (h : k < 0) : EscR s k (-1) 0 := by
  intro w
  go_enter Tryd.func14, Tryd.ntmps14
  go_wp2_with fail
  go_ret2
  exact ⟨rfl, Below.refl _ _⟩
set_option maxRecDepth 100000 in
theorem resc_short (s : ByteArray) (a : Nat) (h : s.size ≤ a + 1) (hs : s.size ≤ 1048576) : EscR s a (-1) 0 := by
  intro w
  have g0 : (s.size : Int) - 1 ≤ (a : Int) := by omega
  go_enter Tryd.func14, Tryd.ntmps14
  go_wp2_with fail
  go_ret2
  exact ⟨rfl, Below.refl _ _⟩
set_option maxRecDepth 100000 in
theorem resc_none (s : ByteArray) (a : Nat) (h : a + 1 < s.size) (hn : bt s a ≠ 92) (hs : s.size ≤ 1048576) : EscR s a (-1) 0 := by
  intro w
  have g0 : ¬ (s.size : Int) - 1 ≤ (a : Int) := by omega
  have gx := get_bt s a (by omega)
  have g1 : (bt s a != 92) = true := by simpa using hn
  obtain ⟨c, hc⟩ : ∃ c, c = bt s a := ⟨_, rfl⟩
  rw [← hc] at gx g1
  clear hc hn
  go_enter Tryd.func14, Tryd.ntmps14
  go_wp2_with fail
  go_ret2
  exact ⟨rfl, Below.refl _ _⟩
end Go.Proofs.YtnejkdaiopjchaaDoor
