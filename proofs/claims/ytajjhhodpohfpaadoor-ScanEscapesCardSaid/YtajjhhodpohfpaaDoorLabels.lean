/-
  A scope whose run jumps to any of its labels: what holds at each, and a measure that each way from a label to the next one lowers. Plain: no program.
-/
import Derived.Tactics
import Derived.Tactics2
import Derived.Scope
import Derived.WalkMore
namespace Go.Proofs.YtajjhhodpohfpaaDoor
open Go

/-- As Q; by a goto: what that label asks. -/
def Jumps (J : Nat → Act → World → Prop) (Q : Exit → Act → World → Prop) : Exit → Act → World → Prop
  | .goto l, a, w => J l a w
  | e, a, w => Q e a w
section
variable {P : Program} {a : Act} {w : World} {Q : Exit → Act → World → Prop} {J : Nat → Act → World → Prop}
theorem jumps_goto (l : Nat) : Jumps J Q (.goto l) a w = J l a w := rfl
theorem jumps_normal : Jumps J Q .normal a w = Q .normal a w := rfl
theorem jumps_ret : Jumps J Q .ret a w = Q .ret a w := rfl
theorem jumps_exit (n : Nat) : Jumps J Q (.exit n) a w = Q (.exit n) a w := rfl
theorem wp_mono {c : Code} {Q R : Exit → Act → World → Prop} (h : ∀ e a w, Q e a w → R e a w) (hc : c.wp P Q a w) : c.wp P R a w := by
  intro b k cs
  obtain ⟨e, a₁, w₁, hq, harr⟩ := hc b k cs
  exact ⟨e, a₁, w₁, h _ _ _ hq, harr⟩
/-- The ways from the labels, and the first one, which may go on as one of these. -/
theorem wp_scope_labels {c : Code} (L : Nat → Code) (J : Nat → Act → World → Prop) (μ : Nat → Act → World → Nat) (hf : ∀ l a w, J l a w → findLabel c l = some (Code.skip.seq (L l)))
    (pass : ∀ l a w, J l a w → (L l).wp P (Jumps (fun l' a' w' => J l' a' w' ∧ μ l' a' w' < μ l a w) Q) a w)
    (first : (∀ l a w, J l a w → (L l).wp P (Jumps J Q) a w) → c.wp P (Jumps J Q) a w) : (Code.scope c).wp P Q a w := by
  intro b k cs
  have key : ∀ n l a w, μ l a w = n → J l a w → ∃ e a' w', Q e a' w' ∧ Arrives P (lone (b.at a (.code (Code.skip.seq (L l)) :: .inScope c :: k)) cs w) b k cs e a' w' := by
    intro n
    induction n using Nat.strongRecOn with
    | _ n ih =>
      intro l a w hn hJ
      obtain ⟨e, a₁, w₁, hq, harr⟩ := (show (Code.skip.seq (L l)).wp P _ a w from wp_seq (wp_skip (pass l a w hJ))) b (.inScope c :: k) cs
      cases e with
      | normal => exact ⟨.normal, a₁, w₁, hq, Steps.trans harr (.one step_inScope)⟩
      | exit id => exact ⟨.exit id, a₁, w₁, hq, fun k' hk => harr k' (by simp [exitTo, hk])⟩
      | goto l' =>
        have hq' : J l' a₁ w₁ ∧ μ l' a₁ w₁ < μ l a w := hq
        obtain ⟨e₂, a₂, w₂, hq₂, harr₂⟩ := ih _ (by omega) l' a₁ w₁ rfl hq'.1
        have hg : gotoIn l' (.inScope c :: k) = some (.code (Code.skip.seq (L l')) :: .inScope c :: k) := by simp [gotoIn, hf l' a₁ w₁ hq'.1]
        exact ⟨e₂, a₂, w₂, hq₂, .of_steps (harr _ hg) harr₂⟩
      | ret => exact ⟨_, a₁, w₁, hq, harr⟩
      | panic ch => exact ⟨_, a₁, w₁, hq, harr⟩
      | outgrown => exact ⟨_, a₁, w₁, hq, harr⟩
  have hfirst := first (fun l a w hJ => wp_mono (fun e a' w' hq => by
    cases e with
    | goto l' => exact (show J l' a' w' ∧ _ from hq).1
    | normal => exact hq
    | exit id => exact hq
    | ret => exact hq
    | panic ch => exact hq
    | outgrown => exact hq) (pass l a w hJ))
  obtain ⟨e, a₁, w₁, hq, harr⟩ := hfirst b (.inScope c :: k) cs
  cases e with
  | normal => exact ⟨.normal, a₁, w₁, hq, .head step_scope (Steps.trans harr (.one step_inScope))⟩
  | exit id => exact ⟨.exit id, a₁, w₁, hq, fun k' hk => .head step_scope (harr k' (by simp [exitTo, hk]))⟩
  | goto l =>
    obtain ⟨e₂, a₂, w₂, hq₂, harr₂⟩ := key _ l a₁ w₁ rfl hq
    have hg : gotoIn l (.inScope c :: k) = some (.code (Code.skip.seq (L l)) :: .inScope c :: k) := by simp [gotoIn, hf l a₁ w₁ hq]
    exact ⟨e₂, a₂, w₂, hq₂, .of_steps (.head step_scope (harr _ hg)) harr₂⟩
  | ret => exact ⟨_, a₁, w₁, hq, .of_steps (.one step_scope) harr⟩
  | panic ch => exact ⟨_, a₁, w₁, hq, .of_steps (.one step_scope) harr⟩
  | outgrown => exact ⟨_, a₁, w₁, hq, .of_steps (.one step_scope) harr⟩
theorem wp_scope_two {c r0 r1 : Code} (J : Nat → Act → World → Prop) (μ : Nat → Act → World → Nat) (h0 : findLabel c 0 = some (Code.skip.seq r0)) (h1 : findLabel c 1 = some (Code.skip.seq r1)) (hJ : ∀ l a w, J l a w → l = 0 ∨ l = 1)
    (pass0 : ∀ a w, J 0 a w → r0.wp P (Jumps (fun l' a' w' => J l' a' w' ∧ μ l' a' w' < μ 0 a w) Q) a w)
    (pass1 : ∀ a w, J 1 a w → r1.wp P (Jumps (fun l' a' w' => J l' a' w' ∧ μ l' a' w' < μ 1 a w) Q) a w)
    (first : (∀ a w, J 0 a w → r0.wp P (Jumps J Q) a w) → c.wp P (Jumps J Q) a w) : (Code.scope c).wp P Q a w := by
  refine wp_scope_labels (fun l => if l = 0 then r0 else r1) J μ (fun l a w h => ?_) (fun l a w h => ?_) (fun h => first fun a w hj => h 0 a w hj)
  · rcases hJ l a w h with rfl | rfl
    · exact h0
    · exact h1
  · rcases hJ l a w h with rfl | rfl
    · exact pass0 a w h
    · exact pass1 a w h
theorem wp_scope_three {c r0 r1 r2 : Code} (J : Nat → Act → World → Prop) (μ : Nat → Act → World → Nat) (h0 : findLabel c 0 = some (Code.skip.seq r0)) (h1 : findLabel c 1 = some (Code.skip.seq r1)) (h2 : findLabel c 2 = some (Code.skip.seq r2)) (hJ : ∀ l a w, J l a w → l = 0 ∨ l = 1 ∨ l = 2)
    (pass0 : ∀ a w, J 0 a w → r0.wp P (Jumps (fun l' a' w' => J l' a' w' ∧ μ l' a' w' < μ 0 a w) Q) a w)
    (pass1 : ∀ a w, J 1 a w → r1.wp P (Jumps (fun l' a' w' => J l' a' w' ∧ μ l' a' w' < μ 1 a w) Q) a w)
    (pass2 : ∀ a w, J 2 a w → r2.wp P (Jumps (fun l' a' w' => J l' a' w' ∧ μ l' a' w' < μ 2 a w) Q) a w)
    (first : (∀ a w, J 0 a w → r0.wp P (Jumps J Q) a w) → c.wp P (Jumps J Q) a w) : (Code.scope c).wp P Q a w := by
  refine wp_scope_labels (fun l => if l = 0 then r0 else if l = 1 then r1 else r2) J μ (fun l a w h => ?_) (fun l a w h => ?_) (fun h => first fun a w hj => h 0 a w hj)
  · rcases hJ l a w h with rfl | rfl | rfl
    · exact h0
    · exact h1
    · exact h2
  · rcases hJ l a w h with rfl | rfl | rfl
    · exact pass0 a w h
    · exact pass1 a w h
    · exact pass2 a w h
end
end Go.Proofs.YtajjhhodpohfpaaDoor
