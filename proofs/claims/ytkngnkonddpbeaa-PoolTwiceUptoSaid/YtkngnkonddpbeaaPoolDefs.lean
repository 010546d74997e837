/-
  What the statements of layer 11 ask of the program's pool: its five calls, whatever it is made of.
-/
import Derived.Test.YtkngnkonddpbeaaPoolMath
import Derived.Test.YtkngnkonddpbeaaNdRow
import Derived.Test.YtkngnkonddpbeaaRefTop
import Derived.Test.YtkngnkonddpbeaaTreeSz
namespace Go.Proofs.Ytkngnkonddpbeaa
open Go.RowKit Go.PlainAid

/-- What a tree that is put bears. -/
def OkP (n : Nd) : Prop := cnt n ≤ 5000 ∧ smk 1048576 n ∧ Szt n
def OkQ (n : Nd) : Prop := OkT n ∧ Szt n
theorem OkQ.p {n : Nd} (h : OkQ n) : OkP n := ⟨h.1.1, smk_mono (by omega) n h.1.2, h.2⟩
/-- Size. -/
def psz (xs : List Nd) (id : Int) : Nat := if 1 ≤ id ∧ id ≤ xs.length then (xs[id.toNat - 1]?.map cnt).getD 0 else 0
/-- The program's pool: PA W G F p xs: in the world W p is a pool that holds the trees xs; what it is made of lies in blocks F; the rows of trees that it was handed lie in blocks G. -/
structure PoolI (PA : World → (Nat → Prop) → (Nat → Prop) → Value → List Nd → Prop) : Prop where
  keep : ∀ {W W' : World} {G F : Nat → Prop} {p : Value} {xs : List Nd}, PA W G F p xs → Keeps (fun k => F k ∨ G k) W W' → PA W' G F p xs
  more : ∀ {W : World} {G G' F : Nat → Prop} {p : Value} {xs : List Nd}, PA W G F p xs → (∀ k, G k → G' k) → PA W G' F p xs
  lt : ∀ {W : World} {G F : Nat → Prop} {p : Value} {xs : List Nd}, PA W G F p xs → ∀ k, F k → k < W.heap.size
  new : ∀ (w : World) (G : Nat → Prop), Calls Try.prog 6 #[] w fun e w' => ∃ (g : Nat) (F : Nat → Prop), e = .returned (.pointer (some ⟨g, 0, none⟩)) ∧ PA w' G F (.pointer (some ⟨g, 0, none⟩)) [] ∧ (∀ k, F k → w.heap.size ≤ k) ∧ Below w.heap.size w w'
  put : ∀ (w : World) (G F : Nat → Prop) (p : Value) (xs : List Nd) (n : Nd) (c : List Value), PA w G F p xs → Pk xs → (∀ y ∈ xs, OkP y) → NdIn w G c n → (∀ k, G k → ¬ F k ∧ k < w.heap.size) → OkP n → xs.length + cnt n ≤ 50000 →
    Calls Try.prog 10 #[p, .agg c.toArray] w fun e w' => e = .returned (.int .i64 (pidx n xs : Int)) ∧ ∃ F' : Nat → Prop, PA w' G F' p (pad n xs) ∧ (∀ k, F' k → F k ∨ w.heap.size ≤ k) ∧ Keeps (fun k => ¬ F k) w w' ∧ ∀ B, (∀ k, F k → B ≤ k) → B ≤ w.heap.size → Below B w w'
  len : ∀ (w : World) (G F : Nat → Prop) (p : Value) (xs : List Nd), PA w G F p xs → Calls Try.prog 12 #[p] w fun e w' => e = .returned (.int .i64 (xs.length : Int)) ∧ Below w.heap.size w w'
  size : ∀ (w : World) (G F : Nat → Prop) (p : Value) (xs : List Nd) (id : Int), PA w G F p xs → Calls Try.prog 13 #[p, .int .i64 id] w fun e w' => e = .returned (.int .i64 (psz xs id : Int)) ∧ Below w.heap.size w w'
  put0 : ∀ (w : World) (c : List Value) (n : Nd), NdAt w c n → Calls Try.prog 10 #[.pointer none, .agg c.toArray] w fun e w' => e = .returned (.int .i64 0) ∧ Below w.heap.size w w'
  len0 : ∀ (w : World), Calls Try.prog 12 #[.pointer none] w fun e w' => e = .returned (.int .i64 0) ∧ Below w.heap.size w w'
  size0 : ∀ (w : World) (id : Int), Calls Try.prog 13 #[.pointer none, .int .i64 id] w fun e w' => e = .returned (.int .i64 0) ∧ Below w.heap.size w w'
/-- A pool at work, what it was handed lying in blocks G, its own from B on. -/
def PAt (PA : World → (Nat → Prop) → (Nat → Prop) → Value → List Nd → Prop) (G : Nat → Prop) (B : Nat) (p : Value) (xs : List Nd) (W : World) : Prop :=
  ∃ F : Nat → Prop, PA W G F p xs ∧ (∀ k, F k → B ≤ k) ∧ B ≤ W.heap.size ∧ Pk xs ∧ ∀ y ∈ xs, OkP y
section
variable {PA : World → (Nat → Prop) → (Nat → Prop) → Value → List Nd → Prop}
theorem PAt.below (I : PoolI PA) {G : Nat → Prop} {B : Nat} {p : Value} {xs : List Nd} {W W' : World} (h : PAt PA G B p xs W) (hb : Below W.heap.size W W') : PAt PA G B p xs W' := by
  obtain ⟨F, h1, h2, h3, h4⟩ := h
  exact ⟨F, I.keep h1 ⟨hb.size, fun k _ hl => hb.block k hl⟩, h2, Nat.le_trans h3 hb.size, h4⟩
theorem okP_pad {xs : List Nd} (h : ∀ x ∈ xs, OkP x) (n : Nd) (ho : OkP n) : ∀ x ∈ pad n xs, OkP x := by
  have key : ∀ (m : Nat) (n : Nd), cnt n ≤ m → OkP n → ∀ xs : List Nd, (∀ x ∈ xs, OkP x) → ∀ x ∈ pad n xs, OkP x := by
    intro m
    induction m with
    | zero => intro n hn; have := cnt_pos n; omega
    | succ m ih =>
      intro n hn ho xs hxs
      cases n with
      | mk k t l br bl no ta =>
        simp only [cnt] at hn
        have hl : ∀ (l : List Nd), cntL l ≤ m → smkL 1048576 l → cntL l ≤ 5000 → ∀ xs : List Nd, (∀ x ∈ l, Szt x) → (∀ x ∈ xs, OkP x) → ∀ x ∈ padL l xs, OkP x := by
          intro l
          induction l with
          | nil => intro _ _ _ xs _ hx; simpa only [padL] using hx
          | cons y u ihl =>
            intro h1 h2 h3 xs hz hx
            simp only [cntL] at h1 h3
            simp only [smkL] at h2
            simp only [padL]
            have := cnt_pos y
            exact ihl (by omega) h2.2 (by omega) _ (fun x hx => hz x (by simp [hx])) (ih y (by omega) ⟨by omega, h2.1, hz y (by simp)⟩ xs hx)
        have ho1 := ho.1
        have ho2 := ho.2.1
        have ho3 := ho.2.2.inv.2.2.2
        simp only [cnt] at ho1
        simp only [smk] at ho2
        have hp := hl l (by omega) ho2.2.2 (by omega) xs ho3 hxs
        simp only [pad]
        split
        · exact hp
        · intro x hx
          rcases List.mem_append.1 hx with hx | hx
          · exact hp x hx
          · simp only [List.mem_singleton] at hx
            rw [hx]; exact ho
  exact key (cnt n) n (Nat.le_refl _) ho xs h
/-- Put, at work. -/
theorem PAt.put (I : PoolI PA) {G : Nat → Prop} {B : Nat} {p : Value} {xs : List Nd} {w : World} (h : PAt PA G B p xs w) (hG : ∀ k, G k → k < B) {n : Nd} {c : List Value} (hn : NdIn w G c n) (ho : OkP n) (hl : xs.length + cnt n ≤ 50000) :
    Calls Try.prog 10 #[p, .agg c.toArray] w fun e w' => e = .returned (.int .i64 (pidx n xs : Int)) ∧ PAt PA G B p (pad n xs) w' ∧ Below B w w' := by
  obtain ⟨F, h1, h2, h3, h4, h5⟩ := h
  refine (I.put w G F p xs n c h1 h4 h5 hn (fun k hk => ⟨fun hf => by have := h2 k hf; have := hG k hk; omega, by have := hG k hk; omega⟩) ho hl).mono ?_
  rintro e w' ⟨rfl, F', g1, g2, g3, g4⟩
  refine ⟨rfl, ⟨F', g1, fun k hk => ?_, Nat.le_trans h3 g3.1, pk_pad n xs h4, okP_pad h5 n ho⟩, g4 B h2 h3⟩
  rcases g2 k hk with h | h
  · exact h2 k h
  · omega
theorem PAt.len (I : PoolI PA) {G : Nat → Prop} {B : Nat} {p : Value} {xs : List Nd} {w : World} (h : PAt PA G B p xs w) : Calls Try.prog 12 #[p] w fun e w' => e = .returned (.int .i64 (xs.length : Int)) ∧ PAt PA G B p xs w' ∧ Below w.heap.size w w' := by
  obtain ⟨F, h1, h2, h3, h4⟩ := h
  refine (I.len w G F p xs h1).mono ?_
  rintro e w' ⟨rfl, hb⟩
  exact ⟨rfl, ⟨F, I.keep h1 ⟨hb.size, fun k _ hl => hb.block k hl⟩, h2, Nat.le_trans h3 hb.size, h4⟩, hb⟩
theorem PAt.size (I : PoolI PA) {G : Nat → Prop} {B : Nat} {p : Value} {xs : List Nd} {w : World} (h : PAt PA G B p xs w) (id : Int) : Calls Try.prog 13 #[p, .int .i64 id] w fun e w' => e = .returned (.int .i64 (psz xs id : Int)) ∧ PAt PA G B p xs w' ∧ Below w.heap.size w w' := by
  obtain ⟨F, h1, h2, h3, h4⟩ := h
  refine (I.size w G F p xs id h1).mono ?_
  rintro e w' ⟨rfl, hb⟩
  exact ⟨rfl, ⟨F, I.keep h1 ⟨hb.size, fun k _ hl => hb.block k hl⟩, h2, Nat.le_trans h3 hb.size, h4⟩, hb⟩
theorem pat_new (I : PoolI PA) (w : World) (G : Nat → Prop) : Calls Try.prog 6 #[] w fun e w' => ∃ g : Nat, e = .returned (.pointer (some ⟨g, 0, none⟩)) ∧ PAt PA G w.heap.size (.pointer (some ⟨g, 0, none⟩)) [] w' ∧ Below w.heap.size w w' :=
  (I.new w G).mono fun e w' ⟨g, F, h1, h2, h3, h4⟩ => ⟨g, h1, ⟨F, h2, h3, h4.size, pk_nil, fun y h => by simp at h⟩, h4⟩
end
theorem szt_pad : ∀ (m : Nat) (n : Nd), cnt n ≤ m → Szt n → ∀ xs : List Nd, (∀ x ∈ xs, Szt x) → ∀ x ∈ pad n xs, Szt x := by
  intro m
  induction m with
  | zero => intro n hn; have := cnt_pos n; omega
  | succ m ih =>
    intro n hn ho xs hxs
    cases n with
    | mk k t l br bl no ta =>
      simp only [cnt] at hn
      have hl : ∀ (l : List Nd), cntL l ≤ m → (∀ x ∈ l, Szt x) → ∀ xs : List Nd, (∀ x ∈ xs, Szt x) → ∀ x ∈ padL l xs, Szt x := by
        intro l
        induction l with
        | nil => intro _ _ xs hx; simpa only [padL] using hx
        | cons y u ihl =>
          intro h1 h2 xs hx
          simp only [cntL] at h1
          simp only [padL]
          exact ihl (by omega) (fun x hx => h2 x (by simp [hx])) _ (ih y (by omega) (h2 y (by simp)) xs hx)
      have hp := hl l (by omega) ho.inv.2.2.2 xs hxs
      simp only [pad]
      split
      · exact hp
      · intro x hx
        rcases List.mem_append.1 hx with hx | hx
        · exact hp x hx
        · simp only [List.mem_singleton] at hx
          rw [hx]; exact ho
end Go.Proofs.Ytkngnkonddpbeaa
