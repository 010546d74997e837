/-
  The document's own Quoted: what stands between no quotes.
-/
import Derived.Test.YtnejkdaiopjchaaDoorRefEscDef
import Derived.Test.YtnejkdaiopjchaaDoorLitQuo
namespace Go.Proofs.YtnejkdaiopjchaaDoor
open Go.RowKit Go.PlainAid

set_option maxRecDepth 100000 in
set_option maxHeartbeats 4000000 in
theorem rquo_bad (s : ByteArray) (hs : s.size ≤ 1048576) (hb : btw s = false) (w : World) :
    Calls Tryd.prog 16 #[.string s] w fun e w' => QuoAre w (quo s) e w' := by
  have e : quo s = none := by unfold quo; rw [if_neg (by rw [hb]; rintro ⟨-, h⟩; cases h)]
  rw [e]
  clear e
  unfold btw at hb
  by_cases h : 2 ≤ s.size
  · rw [decide_eq_true h, Bool.true_and] at hb
    have h1 : decide ((s.size : Int) < 2) = false := decide_eq_false (by omega)
    have h2 : (0 : Int) < (s.size : Int) := by omega
    have h3 : (0 : Int) ≤ (s.size : Int) - 1 := by omega
    have h4 : (s.size : Int) - 1 < (s.size : Int) := by omega
    have h5 : (s.size : Int) - 1 ≤ (s.size : Int) := by omega
    have e1 : ((s.size : Int) - 1).toNat = s.size - 1 := by omega
    have g0 := get_bt s 0 (by omega)
    have g1 := get_bt s (s.size - 1) (by omega)
    obtain ⟨a, ha⟩ : ∃ a, a = bt s 0 := ⟨_, rfl⟩
    obtain ⟨b, hb'⟩ : ∃ b, b = bt s (s.size - 1) := ⟨_, rfl⟩
    rw [← ha] at g0 hb
    rw [← hb'] at g1 hb
    clear ha hb'
    cases h34 : (a != 34)
    · have h34' : a = 34 := by simpa using h34
      clear h34
      subst h34'
      have hne : (b != 34) = true := by
        have : ¬ (34 : Int) = b := fun h => by rw [← h] at hb; simp at hb
        simpa using fun h : b = 34 => this h.symm
      clear hb
      go_enter Tryd.func16, Tryd.ntmps16
      go_wp2_with fail
      go_quiet (fail)
      go_wp2_with fail
      go_ret2
      exact QuoAre.bad rfl (Below.ofDrewN _ _)
    · cases h39 : (a != 39)
      · have h39' : a = 39 := by simpa using h39
        clear h39 h34
        subst h39'
        have hne : (b != 39) = true := by
          have : ¬ (39 : Int) = b := fun h => by rw [← h] at hb; simp at hb
          simpa using fun h : b = 39 => this h.symm
        clear hb
        go_enter Tryd.func16, Tryd.ntmps16
        go_wp2_with fail
        go_quiet (fail)
        go_wp2_with fail
        go_ret2
        exact QuoAre.bad rfl (Below.ofDrewN _ _)
      · clear hb
        go_enter Tryd.func16, Tryd.ntmps16
        go_wp2_with fail
        go_quiet (fail)
        go_wp2_with fail
        go_ret2
        exact QuoAre.bad rfl (Below.ofDrewN _ _)
  · have h1 : decide ((s.size : Int) < 2) = true := decide_eq_true (by omega)
    clear hb h
    go_enter Tryd.func16, Tryd.ntmps16
    go_wp2_with fail
    go_quiet (fail)
    go_wp2_with fail
    go_ret2
    exact QuoAre.bad rfl (Below.ofDrewN _ _)
end Go.Proofs.YtnejkdaiopjchaaDoor
