/-
  What the walk of the document's Pool leans on: its row, the two orders of its stores.
-/
import Derived.Test.YtkngnkonddpbeaaNdPut
import Derived.Test.YtkngnkonddpbeaaRefTop
import Derived.Test.YtkngnkonddpbeaaPoolMath
import Derived.Deep.RegionHeld3
import Derived.Deep.RegionLaw
import Derived.Deep.CutRange
namespace Go.Proofs.Ytkngnkonddpbeaa
open Go.RowKit Go.PlainAid

/-- What Put gives: the number; the pool's row with what is new; all else stands. -/
def RPut (Gx : Nat → Prop) (w : World) (b : Nat) (T : TypeId) (base : Nat) (v : Value) (ys : List Nd) (k : Nat) (e : Ending) (w' : World) : Prop :=
  e = .returned (.int .i64 (k : Int)) ∧ ∃ v', w'.heap[b]? = some (.cells #[v'] T) ∧ OwnN w' (fun g => g ≠ b ∧ Gx g) base v' ys ∧ (v'.ownBlock = v.ownBlock ∨ ∀ g, v'.ownBlock = some g → w.heap.size ≤ g) ∧ Keeps (fun g => g ≠ b ∧ v.ownBlock ≠ some g ∧ g < w.heap.size) w w' ∧ Below base w w'
/-- What stands while the loops go. -/
def RLp (Gx : Nat → Prop) (Z : World) (b : Nat) (T : TypeId) (base : Nat) (v0 v : Value) (xs : List Nd) (W : World) : Prop :=
  W.heap[b]? = some (.cells #[v] T) ∧ OwnN W (fun g => g ≠ b ∧ Gx g) base v xs ∧ (v.ownBlock = v0.ownBlock ∨ ∀ g, v.ownBlock = some g → Z.heap.size ≤ g) ∧ Keeps (fun g => g ≠ b ∧ v0.ownBlock ≠ some g ∧ g < Z.heap.size) Z W ∧ Below base Z W
theorem RLp.below {Gx : Nat → Prop} {Z : World} {b : Nat} {T : TypeId} {base : Nat} {v0 v : Value} {xs : List Nd} {W W' : World} (h : RLp Gx Z b T base v0 v xs W) (hb : Below W.heap.size W W') (hbs : base ≤ Z.heap.size) : RLp Gx Z b T base v0 v xs W' := by
  obtain ⟨h1, h2, h3, h4, h5⟩ := h
  exact ⟨(hb.block _ (lt_of_block h1)).trans h1, h2.below hb, h3, h4.trans (keeps_below hb), h5.trans (hb.mono (Nat.le_trans hbs h4.1))⟩
/-- A tree whose rows are none of the pool's: it stands. -/
theorem RLp.nd {Gx : Nat → Prop} {Z : World} {b : Nat} {T : TypeId} {base : Nat} {v0 v : Value} {xs : List Nd} {W : World} (h : RLp Gx Z b T base v0 v xs W) {c : List Value} {n : Nd} (hn : NdIn Z (fun g => g ≠ b ∧ Gx g ∧ v0.ownBlock ≠ some g ∧ g < Z.heap.size) c n) : NdIn W (fun g => g ≠ b ∧ Gx g ∧ v.ownBlock ≠ some g) c n := by
  obtain ⟨h1, h2, h3, h4, h5⟩ := h
  refine (hn.keep ⟨h4.1, fun g hg hl => h4.2 g ⟨hg.1, hg.2.2.1, hg.2.2.2⟩ hl⟩).weak (fun g hg _ => ⟨hg.1, hg.2.1, ?_⟩)
  rcases h3 with h3 | h3
  · rw [h3]; exact hg.2.2.1
  · intro e; have := h3 g e; omega
theorem RLp.next {Gx : Nat → Prop} {Z : World} {b : Nat} {T : TypeId} {base : Nat} {v0 v : Value} {xs ys : List Nd} {k : Nat} {e : Ending} {W W' : World} (h : RLp Gx Z b T base v0 v xs W) (hp : RPut Gx W b T base v ys k e W') : ∃ v', RLp Gx Z b T base v0 v' ys W' := by
  obtain ⟨h1, h2, h3, h4, h5⟩ := h
  obtain ⟨-, v', g1, g2, g3, g4, g5⟩ := hp
  refine ⟨v', g1, g2, ?_, ⟨Nat.le_trans h4.1 g4.1, fun g hg hl => ?_⟩, h5.trans g5⟩
  · rcases g3 with g3 | g3
    · rw [g3]; exact h3
    · exact .inr (fun g hg => Nat.le_trans h4.1 (g3 g hg))
  · refine (g4.2 g ⟨hg.1, ?_, Nat.lt_of_lt_of_le hl h4.1⟩ (Nat.lt_of_lt_of_le hl h4.1)).trans (h4.2 g hg hl)
    rcases h3 with h3 | h3
    · rw [h3]; exact hg.2.1
    · intro e; have := h3 g e; omega
theorem RLp.slice {Gx : Nat → Prop} {Z : World} {b : Nat} {T : TypeId} {base : Nat} {v0 v : Value} {xs : List Nd} {W : World} (h : RLp Gx Z b T base v0 v xs W) : ∃ a c, v = .slice a xs.length c := h.2.1.slice
theorem RLp.cell {Gx : Nat → Prop} {Z : World} {b : Nat} {T : TypeId} {base : Nat} {v0 v : Value} {xs : List Nd} {W : World} (h : RLp Gx Z b T base v0 v xs W) : W.cell? ⟨b, 0, none⟩ = some v := cell_of_one h.1
theorem nulP_in (W : World) (P : Nat → Prop) : NdIn W P [.int .i64 0, .string ⟨#[]⟩, .slice none 0 0, .bool false, .bool false, .slice none 0 0, .slice none 0 0] (.mk 0 ⟨#[]⟩ [] false false [] []) := NdIn.of_row 0 ⟨#[]⟩ false false ⟨none, 0, rfl, fun h => absurd h (by simp)⟩ ⟨none, 0, rfl, fun h => absurd h (by simp)⟩ (RowIn.nil _ _)
theorem rowP_one (w : World) (P : Nat → Prop) (hP : P w.heap.size) : RowIn (w.alloc (.cells #[.int .i64 0, .string ⟨#[]⟩, .slice none 0 0, .bool false, .bool false, .slice none 0 0, .slice none 0 0] 32)) P (.slice (some ⟨w.heap.size, 0, none⟩) 1 1) [.mk 0 ⟨#[]⟩ [] false false [] []] :=
  (OwnN.made (css := [[.int .i64 0, .string ⟨#[]⟩, .slice none 0 0, .bool false, .bool false, .slice none 0 0, .slice none 0 0]]) (T := [.mk 0 ⟨#[]⟩ [] false false [] []]) rfl (by
    intro i c y h1 h2
    cases i with
    | zero => simp at h1 h2; subst h1 h2; exact nulP_in w P
    | succ i => simp at h1) #[.int .i64 0, .string ⟨#[]⟩, .slice none 0 0, .bool false, .bool false, .slice none 0 0, .slice none 0 0] rfl hP (by show 1 ≤ maxLen; decide) _ rfl).row
/-- One tree more: what stands behind the append, and when the node and the row are stored. -/
theorem RLp.more {Gx : Nat → Prop} {Z : World} {b : Nat} {T : TypeId} {base : Nat} {v0 v : Value} {ys : List Nd} {W WO W4 : World} {g n cp : Nat} {z x : Nd} {c : List Value} (h : RLp Gx Z b T base v0 v ys W) (hbs : base ≤ Z.heap.size) (hb1 : Below W.heap.size W WO)
    (hown : OwnN W4 (fun g => g ≠ b ∧ Gx g) base (.slice (some ⟨g, 0, none⟩) n cp) (ys ++ [z])) (hgr : WO.grownBy W4 v.ownBlock) (hat : Value.ownBlock (.slice (some ⟨g, 0, none⟩) n cp) = v.ownBlock ∨ ∀ k, Value.ownBlock (.slice (some ⟨g, 0, none⟩) n cp) = some k → WO.heap.size ≤ k)
    (hn : NdIn Z (fun g => g ≠ b ∧ Gx g ∧ v0.ownBlock ≠ some g ∧ g < Z.heap.size) c x) :
    g ≠ b ∧ base ≤ g ∧ W4.heap[b]? = some (.cells #[v] T) ∧ NdIn W4 (fun k => (k ≠ b ∧ Gx k) ∧ k ≠ g) c x ∧ ∀ W5, W5.heap[b]? = some (.cells #[.slice (some ⟨g, 0, none⟩) n cp] T) → OwnN W5 (fun g => g ≠ b ∧ Gx g) base (.slice (some ⟨g, 0, none⟩) n cp) (ys ++ [x]) → (∀ k, k ≠ b → k ≠ g → W5.heap[k]? = W4.heap[k]?) → W4.heap.size ≤ W5.heap.size → Below base W4 W5 → RLp Gx Z b T base v0 (.slice (some ⟨g, 0, none⟩) n cp) (ys ++ [x]) W5 := by
  have hnw := h.nd hn
  obtain ⟨h1, h2, h3, h4, h5⟩ := h
  have hbl := lt_of_block h1
  have hsz := hb1.size
  have hlt : ∀ k, v.ownBlock = some k → base ≤ k ∧ k < W.heap.size := h2.lt
  have hgb : g ≠ b := by
    rcases hat with e | e
    · intro he; subst he
      exact (hown.own g rfl).1 rfl
    · have := e g rfl; omega
  have hbv : v.ownBlock ≠ some b := fun e => by
    exact (h2.own b e).1 rfl
  have hB4 : W4.heap[b]? = some (.cells #[v] T) := ((hgr.block b (by omega) (fun e => hbv e.symm)).trans (hb1.block b hbl)).trans h1
  have hgl : base ≤ g := (hown.lt g rfl).1
  have hvg : v.ownBlock = some g ∨ W.heap.size ≤ g := by
    rcases hat with e | e
    · exact .inl e.symm
    · right; have := e g rfl; omega
  refine ⟨hgb, hgl, hB4, ?_, fun W5 k1 k2 k3 k4 k5 => ⟨k1, k2, ?_, ⟨?_, fun k hk hl => ?_⟩, ?_⟩⟩
  · have hkp : Keeps (fun k => k ≠ b ∧ Gx k ∧ v.ownBlock ≠ some k) W W4 := ⟨by have := hgr.size; omega, fun k hk hl => (hgr.block k (by omega) (fun e => hk.2.2 e.symm)).trans (hb1.block k hl)⟩
    refine ((hnw.weak (P' := fun k => (k ≠ b ∧ Gx k ∧ v.ownBlock ≠ some k) ∧ k ≠ g) (fun k hk hl => ⟨hk, fun e => ?_⟩)).keep ⟨hkp.1, fun k hk hl => hkp.2 k hk.1 hl⟩).weak (fun k hk _ => ⟨⟨hk.1.1, hk.1.2.1⟩, hk.2⟩)
    subst e
    rcases hvg with e | e
    · exact hk.2.2 e
    · omega
  · rcases hat with e | e
    · rw [e]; exact h3
    · exact .inr (fun k hk => by have := e k hk; have := h4.1; omega)
  · have := hgr.size; have := h4.1; omega
  · have hkg : k ≠ g := fun e => by
      subst e
      rcases hvg with e | e
      · rcases h3 with h3 | h3
        · rw [h3] at e; exact hk.2.1 e
        · have := h3 k e; omega
      · have := h4.1; omega
    have hkv : some k ≠ v.ownBlock := fun e => by
      rcases h3 with h3 | h3
      · rw [h3] at e; exact hk.2.1 e.symm
      · have := h3 k e.symm; omega
    have hkW : k < W.heap.size := Nat.lt_of_lt_of_le hl h4.1
    exact (k3 k hk.1 hkg).trans ((hgr.block k (by omega) hkv).trans ((hb1.block k hkW).trans (h4.2 k hk hl)))
  · exact Below.trans (Below.grown (h5.trans (hb1.mono (by have := h4.1; omega))) hgr (by have := h4.1; omega) (fun k e => (hlt k e).1)) k5
/-- The two orders in which the node and the row are stored. -/
theorem two_orders {Gx : Nat → Prop} {W4 : World} {b : Nat} {T : TypeId} {base g n cp : Nat} {v : Value} {ys : List Nd} {z x : Nd} {c : List Value} (hgb : g ≠ b) (hgl : base ≤ g) (hbb : base ≤ b) (hB4 : W4.heap[b]? = some (.cells #[v] T)) (hnd : NdIn W4 (fun k => (k ≠ b ∧ Gx k) ∧ k ≠ g) c x)
    (hown : OwnN W4 (fun g => g ≠ b ∧ Gx g) base (.slice (some ⟨g, 0, none⟩) n cp) (ys ++ [z])) {P : World → Prop}
    (hP : ∀ W5, W5.heap[b]? = some (.cells #[.slice (some ⟨g, 0, none⟩) n cp] T) → OwnN W5 (fun g => g ≠ b ∧ Gx g) base (.slice (some ⟨g, 0, none⟩) n cp) (ys ++ [x]) → (∀ k, k ≠ b → k ≠ g → W5.heap[k]? = W4.heap[k]?) → W4.heap.size ≤ W5.heap.size → Below base W4 W5 → P W5) :
    P ((W4.setCells g (ys.length * 7) c).setCell ⟨b, 0, none⟩ (.slice (some ⟨g, 0, none⟩) n cp)) ∧ P ((W4.setCell ⟨b, 0, none⟩ (.slice (some ⟨g, 0, none⟩) n cp)).setCells g (ys.length * 7) c) := by
  have hks : ∀ W : World, W.heap.size ≤ (W.setCell ⟨b, 0, none⟩ (.slice (some ⟨g, 0, none⟩) n cp)).heap.size := fun W => (keeps_set (P := fun _ => False) W (fun h => h) 0 _).1
  refine ⟨hP _ (one_setCell ((setCells_other _ _ _ _ _ (fun e => hgb e.symm)).trans hB4)) ((hown.last hnd).set (fun h => h.1 rfl) 0 _) (fun k h1 h2 => (Below.heap_setCell _ _ _ _ h1).trans (setCells_other _ _ _ _ _ h2)) ?_ ((setCells_below g hgl _ _ _ (Below.refl _ _)).setCell hbb _), hP _ ((setCells_other _ _ _ _ _ (fun e => hgb e.symm)).trans (one_setCell hB4)) ((hown.set (fun h => h.1 rfl) 0 _).last (hnd.keep (keeps_set W4 (fun h => h.1.1 rfl) 0 _))) (fun k h1 h2 => (setCells_other _ _ _ _ _ h2).trans (Below.heap_setCell _ _ _ _ h1)) ?_ (setCells_below g hgl _ _ _ ((Below.refl _ _).setCell hbb _))⟩
  · refine Nat.le_trans ?_ (hks _)
    rw [setCells_size]; exact Nat.le_refl _
  · rw [setCells_size]; exact hks _
theorem two_chains {Gx : Nat → Prop} {W4 : World} {b : Nat} {T : TypeId} {base g n cp : Nat} {v : Value} {ys : List Nd} {z x : Nd} {c0 c1 c2 c3 c4 c5 c6 : Value} (hgb : g ≠ b) (hgl : base ≤ g) (hbb : base ≤ b) (hB4 : W4.heap[b]? = some (.cells #[v] T)) (hnd : NdIn W4 (fun k => (k ≠ b ∧ Gx k) ∧ k ≠ g) [c0, c1, c2, c3, c4, c5, c6] x)
    (hown : OwnN W4 (fun g => g ≠ b ∧ Gx g) base (.slice (some ⟨g, 0, none⟩) n cp) (ys ++ [z])) {P : World → Prop}
    (hP : ∀ W5, W5.heap[b]? = some (.cells #[.slice (some ⟨g, 0, none⟩) n cp] T) → OwnN W5 (fun g => g ≠ b ∧ Gx g) base (.slice (some ⟨g, 0, none⟩) n cp) (ys ++ [x]) → (∀ k, k ≠ b → k ≠ g → W5.heap[k]? = W4.heap[k]?) → W4.heap.size ≤ W5.heap.size → Below base W4 W5 → P W5) :
    P ((((((((W4.setCell ⟨g, ys.length * 7, none⟩ c0).setCell ⟨g, ys.length * 7 + 1, none⟩ c1).setCell ⟨g, ys.length * 7 + 2, none⟩ c2).setCell ⟨g, ys.length * 7 + 3, none⟩ c3).setCell ⟨g, ys.length * 7 + 4, none⟩ c4).setCell ⟨g, ys.length * 7 + 5, none⟩ c5).setCell ⟨g, ys.length * 7 + 6, none⟩ c6).setCell ⟨b, 0, none⟩ (.slice (some ⟨g, 0, none⟩) n cp)) ∧
    P ((((((((W4.setCell ⟨b, 0, none⟩ (.slice (some ⟨g, 0, none⟩) n cp)).setCell ⟨g, ys.length * 7, none⟩ c0).setCell ⟨g, ys.length * 7 + 1, none⟩ c1).setCell ⟨g, ys.length * 7 + 2, none⟩ c2).setCell ⟨g, ys.length * 7 + 3, none⟩ c3).setCell ⟨g, ys.length * 7 + 4, none⟩ c4).setCell ⟨g, ys.length * 7 + 5, none⟩ c5).setCell ⟨g, ys.length * 7 + 6, none⟩ c6) := by
  obtain ⟨h1, h2⟩ := two_orders (c := [c0, c1, c2, c3, c4, c5, c6]) hgb hgl hbb hB4 hnd hown hP
  simp only [World.setCells, Nat.add_assoc, Nat.reduceAdd] at h1 h2
  exact ⟨h1, h2⟩
theorem last_zero {W : World} {P : Nat → Prop} {base g n cp : Nat} {T : List Nd} (h : OwnN W P base (.slice (some ⟨g, 0, none⟩) n cp) (T ++ [.mk 0 ⟨#[]⟩ [] false false [] []])) :
    W.cell? ⟨g, T.length * 7, none⟩ = some (.int .i64 0) ∧ W.cell? ⟨g, T.length * 7 + 1, none⟩ = some (.string ⟨#[]⟩) ∧ (∃ c, W.cell? ⟨g, T.length * 7 + 2, none⟩ = some c) ∧ W.cell? ⟨g, T.length * 7 + 3, none⟩ = some (.bool false) ∧ W.cell? ⟨g, T.length * 7 + 4, none⟩ = some (.bool false) ∧ (∃ c, W.cell? ⟨g, T.length * 7 + 5, none⟩ = some c) ∧ (∃ c, W.cell? ⟨g, T.length * 7 + 6, none⟩ = some c) := by
  obtain ⟨g', cp', c, e, hr, hn⟩ := h.cells T.length _ (by rw [List.getElem?_append_right (Nat.le_refl _), Nat.sub_self]; rfl)
  simp only [Value.slice.injEq, Option.some.injEq, Addr.mk.injEq, and_true] at e
  obtain ⟨rfl, -, -⟩ := e
  cases hn
  exact ⟨hr 0 _ rfl, hr 1 _ rfl, ⟨_, hr 2 _ rfl⟩, hr 3 _ rfl, hr 4 _ rfl, ⟨_, hr 5 _ rfl⟩, ⟨_, hr 6 _ rfl⟩⟩
theorem last_free {W : World} {P : Nat → Prop} {base g n cp : Nat} {T : List Nd} (h : OwnN W P base (.slice (some ⟨g, 0, none⟩) n cp) T) (j : Nat) : W.frozen? ⟨g, j, none⟩ = false := by
  obtain ⟨css, -, -, ⟨-, h0 | ⟨g', cap', cur, hv, hb, hg, -⟩⟩, -⟩ := h
  · exact absurd h0.1 (by simp)
  · simp only [Value.slice.injEq, Option.some.injEq, Addr.mk.injEq, and_true] at hv
    obtain ⟨rfl, -, -⟩ := hv
    exact frz_of hg j
theorem ownN_some {W : World} {P : Nat → Prop} {base : Nat} {v : Value} {T : List Nd} {z : Nd} (h : OwnN W P base v (T ++ [z])) : ∃ g cp, v = .slice (some ⟨g, 0, none⟩) (T.length + 1) cp := by
  obtain ⟨g, cp, c, e, -⟩ := h.cells T.length z (by rw [List.getElem?_append_right (Nat.le_refl _), Nat.sub_self]; rfl)
  exact ⟨g, cp, by rw [e]; simp⟩
theorem smk_at9 {b : Nat} : ∀ {l : List Nd} {i : Nat} {x : Nd}, smkL b l → l[i]? = some x → smk b x
  | [], _, _, _, h => by simp at h
  | y :: t, 0, x, hs, h => by
    simp only [List.getElem?_cons_zero, Option.some.injEq] at h
    simp only [smkL] at hs
    exact h ▸ hs.1
  | y :: t, i + 1, x, hs, h => by
    simp only [List.getElem?_cons_succ] at h
    simp only [smkL] at hs
    exact smk_at9 hs.2 h
theorem allOk_pad {xs : List Nd} (h : ∀ x ∈ xs, OkT x) : ∀ (n : Nd), OkT n → ∀ x ∈ pad n xs, OkT x := by
  have key : ∀ (m : Nat) (n : Nd), cnt n ≤ m → OkT n → ∀ xs : List Nd, (∀ x ∈ xs, OkT x) → ∀ x ∈ pad n xs, OkT x := by
    intro m
    induction m with
    | zero => intro n hn; have := cnt_pos n; omega
    | succ m ih =>
      intro n hn ho xs hxs
      cases n with
      | mk k t l br bl no ta =>
        simp only [cnt] at hn
        have hl : ∀ (l : List Nd), cntL l ≤ m → smkL 100 l → cntL l ≤ 5000 → ∀ xs : List Nd, (∀ x ∈ xs, OkT x) → ∀ x ∈ padL l xs, OkT x := by
          intro l
          induction l with
          | nil => intro _ _ _ xs hx; simpa only [padL] using hx
          | cons y u ihl =>
            intro h1 h2 h3 xs hx
            simp only [cntL] at h1 h3
            simp only [smkL] at h2
            simp only [padL]
            have := cnt_pos y
            exact ihl (by omega) h2.2 (by omega) _ (ih y (by omega) ⟨by omega, h2.1⟩ xs hx)
        have ho1 := ho.1
        have ho2 := ho.2
        simp only [cnt] at ho1
        simp only [smk] at ho2
        have hp := hl l (by omega) ho2.2.2 (by omega) xs hxs
        simp only [pad]
        split
        · exact hp
        · intro x hx
          rcases List.mem_append.1 hx with hx | hx
          · exact hp x hx
          · simp only [List.mem_singleton] at hx
            rw [hx]; exact ho
  exact fun n ho => key (cnt n) n (Nat.le_refl _) ho xs h
theorem pad_of {k : Int} {t : ByteArray} {l : List Nd} {br bl : Bool} {no ta : List ByteArray} {xs ys : List Nd} (h : padL l xs = ys) : pad (.mk k t l br bl no ta) xs = if has ys (.mk k t l br bl no ta) then ys else ys ++ [.mk k t l br bl no ta] := by
  subst h
  exact pad_eq _ _
theorem padL_snoc (l : List Nd) (q : Nat) (x : Nd) (xs : List Nd) (h : l[q]? = some x) : padL (l.drop q) xs = padL (l.drop (q + 1)) (pad x xs) := by
  rw [drop_cons' h]
  simp only [padL]
end Go.Proofs.Ytkngnkonddpbeaa
