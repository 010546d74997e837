/-
  THE PROGRAM's May, Forced and Count of documents.
-/
import Derived.Test.YtbjgoigdhijbgaaDoorDocIter
import Derived.Test.YtbjgoigdhijbgaaDoorRefDocD
import Derived.Test.YtbjgoigdhijbgaaDoorDocAlone
set_option linter.all false
namespace Go.Proofs.YtbjgoigdhijbgaaDoor
open Go.RowKit Go.PlainAid Go.Shelf
attribute [local go_sem] Oper.semAt_some

set_option maxRecDepth 100000 in
theorem parts_any (k n : Int) (t : ByteArray) (lv : Value) (w : World) : Calls Tryd.prog 49 #[.agg #[.int .i64 k, .int .i64 n, .string t, lv]] w fun e w' => e = .returned (.func (.func 56) #[] #[.pointer (some ⟨w.heap.size, 0, none⟩)]) ∧ w' = w.alloc (.cells #[.int .i64 k, .int .i64 n, .string t, lv] 24) := by
  go_enter Tryd.func49, Tryd.ntmps49
  go_wp2_with fail
  go_ret
  exact ⟨rfl, rfl⟩
theorem fold2 {β : Type} (T : Array β) (a b : Nat) (x y : β) : (#[a, b].zip #[x, y]).foldl (fun t p => t.setIfInBounds p.1 p.2) T = (T.setIfInBounds a x).setIfInBounds b y := by simp
/-- A variable in a block of its own. -/
def Bx (W : World) (b : Nat) (ty : TypeId) (v : Value) : Prop := W.heap[b]? = some (.cells #[v] ty (0, 0))
theorem Bx.cell {W : World} {b : Nat} {ty : TypeId} {v : Value} (h : Bx W b ty v) : W.cell? ⟨b, 0, none⟩ = some v := (cell_of_row W b 0 _ _ _ h).trans rfl
theorem Bx.frz {W : World} {b : Nat} {ty : TypeId} {v : Value} (h : Bx W b ty v) : W.frozen? ⟨b, 0, none⟩ = false := frz_of h 0
theorem Bx.set {W : World} {b : Nat} {ty : TypeId} {v : Value} (h : Bx W b ty v) (u : Value) : Bx (W.setCell ⟨b, 0, none⟩ u) b ty u := one_setCell h
theorem Bx.other {W : World} {b b' : Nat} {ty : TypeId} {v : Value} (h : Bx W b ty v) (hne : b ≠ b') (u : Value) : Bx (W.setCell ⟨b', 0, none⟩ u) b ty v := by
  unfold Bx
  rw [Below.heap_setCell _ _ _ _ hne]; exact h
theorem DcIn.apart {w W : World} {c : List Value} {d : Dc} (h : DcAt w c d) (hb : Below w.heap.size w W) {M : Nat → Prop} (hm : ∀ g, M g → w.heap.size ≤ g) : DcIn W (fun g => g < W.heap.size ∧ ¬ M g) c d :=
  (h.keep (keeps_below hb)).wide (fun g h1 h2 => ⟨h1, fun hg => by have h2 : g < w.heap.size := h2; have := hm g hg; omega⟩)
/-! ### Forced and May -/
mutual
theorem ord_frc : ∀ (p : Nat) (x : Dc), ((ord p x).any fun y => dfr (dkd y.1) (dnn y.1)) = dfrc x
  | p, .mk k n t l => by simp only [ord, List.any_cons, dfrc]; rw [ordL_frc (p + 1) l]; rfl
theorem ordL_frc : ∀ (p : Nat) (l : List Dc), ((ordL p l).any fun y => dfr (dkd y.1) (dnn y.1)) = dfrcL l
  | _, [] => by simp only [ordL, List.any_nil, dfrcL]
  | p, x :: t => by simp only [ordL, List.any_append, ord_frc p x, ordL_frc p t, dfrcL]
end
/-- Alone. -/
def alD (x : Dc) : Bool := dal (dkd x) (dnn x) (dtx x) (decide ((dks x).length = 0))
mutual
theorem ord_rt : ∀ (p : Nat) (x : Dc), ((ord p x).all fun y => alD y.1) = drt x
  | p, .mk k n t l => by
    have e : l.isEmpty = decide (l.length = 0) := by cases l <;> simp
    simp only [ord, List.all_cons, drt, e]
    rw [ordL_rt (p + 1) l]; rfl
theorem ordL_rt : ∀ (p : Nat) (l : List Dc), ((ordL p l).all fun y => alD y.1) = drtL l
  | _, [] => by simp only [ordL, List.all_nil, drtL]
  | p, x :: t => by simp only [ordL, List.all_append, ord_rt p x, ordL_rt p t, drtL]
end
theorem map_any {L : List (Dc × Nat)} {f : Dc → Bool} {xs : List Vs} (h : xs.map prV = L) : (L.any fun y => f y.1) = xs.any fun v => f v.x := by
  rw [← h, List.any_map]; rfl
theorem map_all {L : List (Dc × Nat)} {f : Dc → Bool} {xs : List Vs} (h : xs.map prV = L) : (L.all fun y => f y.1) = xs.all fun v => f v.x := by
  rw [← h, List.all_map]; rfl
theorem res_bool {fn : Func} {p : Tmp} (h : fn.results = #[.cell p 4]) (tmps : Array Value) (w : World) (g : Nat) (v : Bool) (hp : tmps.getD p undef = .pointer (some ⟨g, 0, none⟩)) (hc : w.cell? ⟨g, 0, none⟩ = some (.bool v)) : (results fn tmps).run Tryd.prog w = .ok (.bool v) w := by
  have hp' : tmps[p]?.getD undef = .pointer (some ⟨g, 0, none⟩) := by simpa using hp
  have u := Tryd.underlying4
  have i := Tryd.isAgg4
  simp [results, h, hp', asAddr, go_sem, hc, u, i]
/-- Forced's walk: nothing forced has come; something forced has come. -/
def IF (b : Nat) (pre : List Vs) (W : World) : Prop := Bx W b 4 (.bool false) ∧ (pre.any fun v => dfr (dkd v.x) (dnn v.x)) = false
def XF (b : Nat) (c : Code) (pre : List Vs) (W : World) : Prop := c = .ret ∧ Bx W b 4 (.bool true) ∧ (pre.any fun v => dfr (dkd v.x) (dnn v.x)) = true
/-- May's walk: all that has come is alone; one that has come is not. -/
def IM (b cb : Nat) (pre : List Vs) (W : World) : Prop := Bx W b 4 (.bool false) ∧ Bx W cb 3 (.int .i64 (pre.length : Int)) ∧ (pre.all fun v => alD v.x) = true
def XM (b : Nat) (c : Code) (pre : List Vs) (W : World) : Prop := c = .ret ∧ Bx W b 4 (.bool false) ∧ (pre.all fun v => alD v.x) = false
set_option maxRecDepth 100000 in
set_option maxHeartbeats 4000000 in
theorem pdmay_any (d : Dc) (hd : dcnt d ≤ 100000) (c : List Value) (w : World) (h : DcAt w c d) :
    Calls Tryd.prog 37 #[.agg c.toArray] w fun e w' => e = .returned (.bool (drt d)) ∧ Below w.heap.size w w' := by
  obtain ⟨k, n, t, lv, rfl⟩ : ∃ k n t lv, c = [.int .i64 k, .int .i64 n, .string t, lv] := by
    cases d with
    | mk k n t l => obtain ⟨lv, cs, rfl, -⟩ := h.inv; exact ⟨_, _, _, _, rfl⟩
  refine (callsIn_wide (n := 0)).1 ?_
  refine callsIn_of_wp_marks Tryd.func37 rfl trivial ?_ rfl
  simp only [Tryd.ntmps37, List.size_toArray, List.length_cons, List.length_nil, Nat.reduceAdd, Nat.reduceSub, Array.replicate_succ, Array.replicate_zero, List.push_toArray, List.append_toArray, List.nil_append, List.cons_append]
  gi_wp2
  refine ⟨trivial, rfl, ?_⟩
  refine (callsIn_wide.2 (parts_any k n t lv _)).mono ?_
  rintro e w' ⟨rfl, rfl⟩
  gi_wp2
  obtain ⟨b, hb⟩ : ∃ b, b = w.heap.size + 1 := ⟨_, rfl⟩
  obtain ⟨WL, hWL⟩ : ∃ WL, WL = ((((w.alloc (.cells #[.int .i64 k, .int .i64 n, .string t, lv] 24)).alloc (.cells #[.bool false] 4)).alloc (.cells #[.int .i64 0] 3)).alloc (.cells #[.int .i64 k, .int .i64 n, .string t, lv] 24)) := ⟨_, rfl⟩
  rw [← hWL, ← hb]
  have sWL : WL.heap.size = w.heap.size + 4 := by rw [hWL]; simp
  have bWL : Below w.heap.size w WL := by rw [hWL]; exact ((((Below.refl _ w).alloc (Nat.le_refl _) _).alloc (by simp) _).alloc (by simp; omega) _).alloc (by simp; omega) _
  have box0 : Bx WL b 4 (.bool false) := by
    unfold Bx
    rw [hWL, hb]
    show ((((w.heap.push _).push _).push _).push _)[w.heap.size + 1]? = _
    rw [Array.getElem?_push, if_neg (by simp), Array.getElem?_push, if_neg (by simp), Array.getElem?_push, if_pos (by simp)]
  have box1 : Bx WL (b + 1) 3 (.int .i64 0) := by
    unfold Bx
    rw [hWL, hb]
    show ((((w.heap.push _).push _).push _).push _)[w.heap.size + 1 + 1]? = _
    rw [Array.getElem?_push, if_neg (by simp), Array.getElem?_push, if_pos (by simp)]
  have hcell : ∀ j, WL.cell? ⟨b + 1 + 1, j, none⟩ = (#[.int .i64 k, .int .i64 n, .string t, lv] : Array Value)[j]? := fun j => by
    rw [cell_of_row WL (b + 1 + 1) j _ 24 (0, 0) (by
      rw [hWL, hb]
      show ((((w.heap.push _).push _).push _).push _)[w.heap.size + 1 + 1 + 1]? = _
      rw [Array.getElem?_push, if_pos (by simp)])]
  have hin := DcIn.apart h bWL (M := fun g => g = b ∨ g = b + 1) (fun g hg => by omega)
  have HB := Lib.hid bWL
  have HS := Lib.hid sWL
  have HBB := Lib.hid hb
  clear hWL h
  refine rf_walk rfl (enters_of Tryd.func56 (by kernel_rfl) rfl) (parts1_its (fun g => g = b ∨ g = b + 1) WL (b + 1 + 1) (fun g hg => by omega) k n t lv d (by omega) (hcell 0) (hcell 1) (hcell 2) (hcell 3) (by omega) hin) (fun _ => rfl) (fun g hg => by omega)
    (IM b (b + 1)) (XM b)
    (fun xs A B hA hk => ⟨by have hA := hA.1; unfold Bx at hA ⊢; rw [hk b (.inl rfl)]; exact hA, by have hA := hA.2.1; unfold Bx at hA ⊢; rw [hk (b + 1) (.inr rfl)]; exact hA, hA.2.2⟩) (fun _ _ A B hA hk => ⟨hA.1, by have hA := hA.2.1; unfold Bx at hA ⊢; rw [hk b (.inl rfl)]; exact hA, hA.2.2⟩) ⟨box0, box1, rfl⟩
    (fun x => { tmps := #[.agg #[.int .i64 k, .int .i64 n, .string t, lv], .pointer (some ⟨w.heap.size, 0, none⟩), .pointer (some ⟨b, 0, none⟩), .pointer (some ⟨b + 1, 0, none⟩), .pointer (some ⟨x.g, x.o, none⟩), .int .i64 (x.p : Int), .agg #[.int .i64 k, .int .i64 n, .string t, lv], .func (.func 56) #[] #[.pointer (some ⟨b + 1 + 1, 0, none⟩)], .pointer (some ⟨x.g, x.o, none⟩), .int .i64 (x.p : Int), undef, undef, undef, undef, undef, undef, undef, undef, undef, undef, undef, undef, undef], defers := [] }) ?assign ?body ?done ?stop
  case assign =>
    intro l x W K hK
    clear hb
    simp only [encV, fold2]
    gi_wp2
    exact hK
  case body =>
    intro l pre x W hI hD hlen
    obtain ⟨hI, hI1, hpre⟩ := hI
    obtain ⟨hp, hkx, hne, -, a, cap, d0, d1, d2, d3⟩ := hD
    have hne1 : x.g ≠ b + 1 := fun e => hne (.inr e)
    have hc := hI1.cell
    have hf := hI1.frz
    have g0 := fun u => (cell_set_ne (W := W) (i := 0) (u := u) hne1).trans d0
    have g1 := fun u => (cell_set_ne (W := W) (i := 0) (u := u) hne1).trans d1
    have g2 := fun u => (cell_set_ne (W := W) (i := 0) (u := u) hne1).trans d2
    have g3 := fun u => (cell_set_ne (W := W) (i := 0) (u := u) hne1).trans d3
    have hl2 : pre.length < 100000 := by omega
    have hp2 : x.p ≤ 100001 := by omega
    have HI := Lib.hid hI
    have HI1 := Lib.hid hI1
    have HP := Lib.hid hpre
    have HA : Hid (((pre ++ [x]).all fun v => alD v.x) = alD x.x) := Lib.hid (by rw [List.all_append, HP.out, Bool.true_and, List.all_cons, List.all_nil, Bool.and_true])
    have HAL := Lib.hid (fun u => alone_any (by omega) (g0 u) (g1 u) (g2 u) (g3 u))
    have hW1 : Tn (fun g => g = b ∨ g = b + 1) W (W.setCell ⟨b + 1, 0, none⟩ (.int .i64 ((pre.length : Int) + 1))) := (Tn.refl (fun g => g = b ∨ g = b + 1) W).set (b := b + 1) (.inr rfl) _ _
    have hB1 : Bx (W.setCell ⟨b + 1, 0, none⟩ (.int .i64 ((pre.length : Int) + 1))) (b + 1) 3 (.int .i64 (((pre ++ [x]).length : Nat) : Int)) := by
      rw [List.length_append, List.length_cons, List.length_nil]
      simpa using hI1.set (.int .i64 ((pre.length : Int) + 1))
    have hB0 : Bx (W.setCell ⟨b + 1, 0, none⟩ (.int .i64 ((pre.length : Int) + 1))) b 4 (.bool false) := hI.other (by omega) _
    have hb1 := Lib.hid hB0.cell
    have hb2 := Lib.hid hB0.frz
    have hp3 : ¬ (200000 : Int) < (x.p : Int) := by omega
    have hl3 : ¬ (2000000 : Int) < (pre.length : Int) + 1 := by omega
    have good : Hid (alD x.x = true → rndQ (fun g => g = b ∨ g = b + 1) (IM b (b + 1)) (XM b) (pre ++ [x]) W .normal { tmps := #[], defers := [] } (W.setCell ⟨b + 1, 0, none⟩ (.int .i64 ((pre.length : Int) + 1)))) := Lib.hid (fun hv => ⟨hW1, hB0, hB1, by rw [HA.out, hv]⟩)
    have bad : Hid (alD x.x = false → rndQ (fun g => g = b ∨ g = b + 1) (IM b (b + 1)) (XM b) (pre ++ [x]) W .ret { tmps := #[], defers := [] } ((W.setCell ⟨b + 1, 0, none⟩ (.int .i64 ((pre.length : Int) + 1))).setCell ⟨b, 0, none⟩ (.bool false))) := Lib.hid (fun hv => ⟨hW1.set (b := b) (.inl rfl) _ _, rfl, hB0.set _, by rw [HA.out, hv]⟩)
    have dE : alD x.x = dal (dkd x.x) (dnn x.x) (dtx x.x) (decide ((dks x.x).length = 0)) := rfl
    rw [← dE] at HAL
    obtain ⟨v, hv⟩ : ∃ v, v = alD x.x := ⟨_, rfl⟩
    rw [← hv] at HAL good bad
    clear hI hI1 hpre hlen box0 box1 hcell hin sWL bWL hb hne hne1 d0 d1 d2 d3 g0 g1 g2 g3 hW1 hB1 hB0 hv dE HA hp hkx hp2
    gi_wp2
    refine ⟨trivial, rfl, ?_⟩
    refine (CallsIn.inRound l (callsIn_wide.2 (HAL.out _))).mono ?_
    rintro e w1 ⟨rfl, rfl⟩
    have hb1 := hb1.out
    have hb2 := hb2.out
    cases v
    · gi_wp2
      exact bad.out trivial
    · gi_wp2
      exact good.out trivial
  case done =>
    intro K xs W hS hI hK hle hT
    obtain ⟨hI, -, hany⟩ := hI
    have hx : drt d = true := by rw [← ord_rt 1 d, map_all (f := alD) hS]; exact hany
    have HX := Lib.hid hx
    have hf := hI.frz
    have hc := hI.cell
    have HI := Lib.hid hI
    have HT := Lib.hid hT
    have HK := Lib.hid hK
    have HL := Lib.hid hle
    clear hS hI hT hK hany hle box0 box1 hcell hin sWL bWL hb hx
    gi_wp2
    have hKb : K ≠ b := by have := HL.out; have := HS.out; have := HBB.out; omega
    have hK2 : (W.setCell ⟨b, 0, none⟩ (.bool true)).heap[K]? = some (.deferred (some [])) := (Below.heap_setCell _ _ _ _ hKb).trans HK.out
    refine ⟨by simp, .inl ⟨_, _, rfl, run_takeDeferred hK2, ?_⟩⟩
    have hc : ((W.setCell ⟨b, 0, none⟩ (.bool true)).putObj K (.deferred none)).cell? ⟨b, 0, none⟩ = some (.bool true) := by
      unfold World.cell?
      simp only
      rw [World.putObj_heap_other (fun e => hKb e.symm)]
      exact (HI.out.set (.bool true)).cell
    refine ⟨_, res_bool rfl _ _ b _ rfl hc, retB HX.out.symm, ?_⟩
    have h1 : Below w.heap.size w (W.setCell ⟨b, 0, none⟩ (.bool true)) := (HB.out.trans (HT.out.below (by have := HS.out; omega) (fun g hg => by have := HBB.out; omega))).setCell (p := ⟨b, 0, none⟩) (by have := HBB.out; show w.heap.size ≤ b; omega) _
    exact h1.grown (grownBy_putObj' _ _ _) h1.size (fun k e => by cases e; have := HS.out; have := HL.out; omega)
  case stop =>
    intro K c pre x rest W hS hI hK hle hT
    obtain ⟨rfl, hI, hany⟩ := hI
    have hx : drt d = false := by
      rw [← ord_rt 1 d, map_all (f := alD) hS, show pre ++ x :: rest = (pre ++ [x]) ++ rest by simp, List.all_append, hany, Bool.false_and]
    have HX := Lib.hid hx
    have HI := Lib.hid hI
    have HT := Lib.hid hT
    have HK := Lib.hid hK
    have HL := Lib.hid hle
    clear hS hI hT hK hany hle box0 box1 hcell hin sWL bWL hb hx
    gi_wp2
    have hKb : K ≠ b := by have := HL.out; have := HS.out; have := HBB.out; omega
    refine ⟨by simp, .inl ⟨_, _, rfl, run_takeDeferred HK.out, ?_⟩⟩
    have hc : (W.putObj K (.deferred none)).cell? ⟨b, 0, none⟩ = some (.bool false) := by
      unfold World.cell?
      simp only
      rw [World.putObj_heap_other (fun e => hKb e.symm)]
      exact HI.out.cell
    refine ⟨_, res_bool rfl _ _ b _ rfl hc, retB HX.out.symm, ?_⟩
    have h1 : Below w.heap.size w W := HB.out.trans (HT.out.below (by have := HS.out; omega) (fun g hg => by have := HBB.out; omega))
    exact h1.grown (grownBy_putObj' _ _ _) h1.size (fun k e => by cases e; have := HS.out; have := HL.out; omega)
end Go.Proofs.YtbjgoigdhijbgaaDoor
