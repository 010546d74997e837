/-
  THE PROGRAM's parentheses: its four functions.
-/
import Derived.Test.YtbjgoigdhijbgaaPrnSet
import Derived.Deep.RegionHeld3
import Derived.Deep.CutRange
import Derived.BigRegion
set_option linter.all false
namespace Go.Proofs.Ytbjgoigdhijbgaa
open Go.RowKit Go.PlainAid

theorem ba_len_toList (s : ByteArray) : s.toList.length = s.size := by rw [ByteArray.toList_eq]; rfl
theorem seven_new (w : World) (k : Int) (t : ByteArray) (v2 v3 v4 v5 v6 : Value) : (w.alloc (.cells #[.int .i64 k, .string t, v2, v3, v4, v5, v6] 25)).cell? ⟨w.heap.size, 0, none⟩ = some (.int .i64 k) ∧ (w.alloc (.cells #[.int .i64 k, .string t, v2, v3, v4, v5, v6] 25)).cell? ⟨w.heap.size, 1, none⟩ = some (.string t) ∧ True :=
  ⟨cell_of_row _ _ 0 _ _ _ (alloc_at9 w _), cell_of_row _ _ 1 _ _ _ (alloc_at9 w _), trivial⟩
/-- An atom, a variable or a macro. -/
def nmB (s : ByteArray) : Bool := if h : 0 < s.size then (!((s[0].toNat : Int) == 36) && !((s[0].toNat : Int) == 34) && (decide ((s[0].toNat : Int) < 48) || decide (57 < (s[0].toNat : Int)))) else true
set_option maxRecDepth 100000 in
set_option maxHeartbeats 4000000 in
theorem named_any (s : ByteArray) (w : World) :
    Calls Try.prog 21 #[.string s] w fun e w' => e = .returned (.bool (nmB s)) ∧ Below w.heap.size w w' := by
  by_cases h0 : 0 < s.size
  · have hn : nmB s = (!((s[0].toNat : Int) == 36) && !((s[0].toNat : Int) == 34) && (decide ((s[0].toNat : Int) < 48) || decide (57 < (s[0].toNat : Int)))) := dif_pos h0
    rw [hn]
    clear hn
    have he : s.toList.isEmpty = false := by
      have h1 : s.toList.length = s.size := by rw [ba_len_toList]
      cases hl : s.toList with
      | nil => rw [hl] at h1; simp at h1; omega
      | cons => rfl
    go_enter Try.func21, Try.ntmps21
    go_wp2_with fail
    all_goals
      go_ret
      exact ⟨by simp_all, Below.refl _ _⟩
  · have hn : nmB s = true := dif_neg h0
    rw [hn]
    have he : s.toList.isEmpty = true := by
      have h1 : s.toList.length = s.size := by rw [ba_len_toList]
      cases hl : s.toList with
      | nil => rfl
      | cons => rw [hl] at h1; simp at h1; omega
    clear hn
    go_enter Try.func21, Try.ntmps21
    go_wp2_with fail
    go_ret
    exact ⟨rfl, Below.refl _ _⟩
/-- Level. -/
def lvlI (k : Int) (t : ByteArray) : Nat := if k = 13 then (if (t.toList == [99, 97, 116, 99, 104]) = true then 0 else 10) else if k = 14 then bn t.toList else 11
abbrev ndV (k : Int) (t : ByteArray) (v2 v3 v4 v5 v6 : Value) : Value := .agg #[.int .i64 k, .string t, v2, v3, v4, v5, v6]
set_option maxRecDepth 100000 in
set_option maxHeartbeats 4000000 in
theorem plevel_any (k : Int) (t : ByteArray) (v2 v3 v4 v5 v6 : Value) (w : World) :
    Calls Try.prog 11 #[.agg #[.int .i64 k, .string t, v2, v3, v4, v5, v6]] w fun e w' => e = .returned (.int .i64 (lvlI k t : Int)) ∧ Below w.heap.size w w' := by
  have HB := Lib.hid (fun W => pbin_any t W)
  obtain ⟨c0, c1, -⟩ := seven_new w k t v2 v3 v4 v5 v6
  have HN := Lib.hid (below1 w (.cells #[.int .i64 k, .string t, v2, v3, v4, v5, v6] 25))
  by_cases h13 : k = 13
  · rw [show lvlI k t = if (t.toList == [99, 97, 116, 99, 104]) = true then 0 else 10 from if_pos h13]
    subst h13
    cases ht : (t.toList == [99, 97, 116, 99, 104])
    all_goals
      go_enter Try.func11, Try.ntmps11
      go_wp2_with fail
      go_ret
      exact ⟨rfl, HN.out⟩
  · by_cases h14 : k = 14
    · rw [show lvlI k t = bn t.toList from (if_neg h13).trans (if_pos h14)]
      subst h14
      clear h13
      go_enter Try.func11, Try.ntmps11
      go_wp2_with fail
      refine (HB.out _).mono ?_
      rintro e w1 ⟨rfl, hb1⟩
      have HB1 : Hid (Below w.heap.size w w1) := Lib.hid (HN.out.trans (hb1.mono HN.out.size))
      clear hb1
      go_wp2_with fail
      go_ret
      exact ⟨rfl, HB1.out⟩
    · rw [show lvlI k t = 11 from (if_neg h13).trans (if_neg h14)]
      have e1 : (k == 13) = false := by simpa using h13
      have e2 : (k == 14) = false := by simpa using h14
      clear h13 h14
      go_enter Try.func11, Try.ntmps11
      go_wp2_with fail
      go_ret
      exact ⟨rfl, HN.out⟩
set_option maxRecDepth 100000 in
set_option maxHeartbeats 4000000 in
theorem pneed_any (k : Int) (t : ByteArray) (v2 v3 v4 v5 v6 : Value) (l : Int) (w : World) :
    Calls Try.prog 13 #[.agg #[.int .i64 k, .string t, v2, v3, v4, v5, v6], .int .i64 l] w fun e w' => e = .returned (.bool (decide ((lvlI k t : Int) < l))) ∧ Below w.heap.size w w' := by
  have HB := Lib.hid (fun W => plevel_any k t v2 v3 v4 v5 v6 W)
  obtain ⟨m, hm⟩ : ∃ m : Nat, m = lvlI k t := ⟨_, rfl⟩
  rw [← hm] at HB ⊢
  clear hm
  by_cases h : (m : Int) < l
  all_goals
    go_enter Try.func13, Try.ntmps13
    go_wp2_with fail
    refine (HB.out _).mono ?_
    rintro e w1 ⟨rfl, hb1⟩
    go_wp2_with fail
    go_ret
    exact ⟨by simp [h] <;> omega, (below1 _ _).trans (hb1.mono (below1 _ _).size)⟩
/-- Bare, Hugs. -/
def barI (k : Int) (t : ByteArray) : Bool := if k = 1 then nmB t else bareL.contains k
def hgO (op : ByteArray) : Bool := op.toList == [61] || op.toList == [58, 58] || op.toList == [61, 62] || op.toList == [58, 61]
def hugI (op : ByteArray) (k : Int) : Bool := hgO op && hugL.contains k
theorem lst_cell (W : World) (l : List Int) (t : TypeId) (cs : Array Value) (h : cs = (l.map fun k => Value.int .i64 k).toArray) : ∀ i k, l[i]? = some k → (W.alloc (.cells cs t)).cell? ⟨W.heap.size, i, none⟩ = some (.int .i64 k) := by
  intro i k hk
  rw [World.cell?_alloc_new, h, List.getElem?_toArray, List.getElem?_map, hk]
  rfl
set_option maxRecDepth 100000 in
set_option maxHeartbeats 4000000 in
theorem pbare_any (k : Int) (t : ByteArray) (v2 v3 v4 v5 v6 : Value) (w : World) (hk : -9223372036854775808 ≤ k ∧ k ≤ 9223372036854775807) :
    Calls Try.prog 9 #[.agg #[.int .i64 k, .string t, v2, v3, v4, v5, v6]] w fun e w' => e = .returned (.bool (barI k t)) ∧ Below w.heap.size w w' := by
  have HM := Lib.hid (fun W => named_any t W)
  obtain ⟨c0, c1, -⟩ := seven_new w k t v2 v3 v4 v5 v6
  have HN := Lib.hid (below1 w (.cells #[.int .i64 k, .string t, v2, v3, v4, v5, v6] 25))
  by_cases h1 : k = 1
  · rw [show barI k t = nmB t from if_pos h1]
    subst h1
    clear hk
    go_enter Try.func9, Try.ntmps9
    go_wp2_with fail
    refine (HM.out _).mono ?_
    rintro e w1 ⟨rfl, hb1⟩
    have HB1 : Hid (Below w.heap.size w w1) := Lib.hid (HN.out.trans (hb1.mono HN.out.size))
    clear hb1
    go_wp2_with fail
    go_ret
    exact ⟨rfl, HB1.out⟩
  · rw [show barI k t = bareL.contains k from if_neg h1, ← has_bare hk]
    have e1 : (k == 1) = false := by simpa using h1
    clear h1 hk
    have HC := Lib.hid (fun V W (hb : Below (World.alloc V (.cells #[.int .i64 2, .int .i64 3, .int .i64 8, .int .i64 9, .int .i64 10, .int .i64 11, .int .i64 12] 3)).heap.size (World.alloc V (.cells #[.int .i64 2, .int .i64 3, .int .i64 8, .int .i64 9, .int .i64 10, .int .i64 11, .int .i64 12] 3)) W) => of_any bareL V.heap.size 7 7 W rfl (fun i x hx => (hb.cell (p := ⟨V.heap.size, i, none⟩) (by simp)).trans (lst_cell V bareL _ _ rfl i x hx)) (by decide) (by decide) (Nat.lt_of_lt_of_le (by simp) hb.size))
    obtain ⟨A, hA⟩ : ∃ A, A = ofI bareL 0 := ⟨_, rfl⟩
    rw [← hA] at HC ⊢
    clear hA
    have HH := Lib.hid (fun W => has_any A k W)
    obtain ⟨b, hb⟩ : ∃ b, b = hasI A k := ⟨_, rfl⟩
    rw [← hb] at HH ⊢
    clear hb
    obtain ⟨V, hV⟩ : ∃ V, V = w.alloc (.cells #[.int .i64 k, .string t, v2, v3, v4, v5, v6] 25) := ⟨_, rfl⟩
    have hbV : Below w.heap.size w V := by rw [hV]; exact below1 _ _
    have hq : w.heap.size < V.heap.size := by rw [hV]; simp
    have CC : Hid (∀ W, Below V.heap.size V W → W.cell? ⟨w.heap.size, 0, none⟩ = some (.int .i64 k) ∧ Hid (Below V.heap.size V W)) := Lib.hid fun W h => ⟨(h.cell (p := ⟨w.heap.size, 0, none⟩) hq).trans (by rw [hV]; exact c0), Lib.hid h⟩
    have BA := Lib.hid (fun W (h : Below V.heap.size V W) ob => h.alloc (o := ob) (by exact h.size))
    have HV := Lib.hid hV
    have HBV := Lib.hid hbV
    go_enter Try.func9, Try.ntmps9
    go_upto_region 3 with fail
    rw [← HV.out]
    clear hV hbV hq c0 c1
    have hd : V.cell? ⟨w.heap.size, 0, none⟩ = some (.int .i64 k) ∧ Hid (Below V.heap.size V V) := CC.out _ (Below.refl _ _)
    have DA : Hid (∀ ob, Below V.heap.size V (V.alloc ob).drew) := Lib.hid fun ob => Below.drew (below1 V ob)
    have CD : Hid (∀ ob, (V.alloc ob).drew.cell? ⟨w.heap.size, 0, none⟩ = some (.int .i64 k)) := Lib.hid fun ob => (CC.out _ (DA.out ob)).1
    go_region_held3 (fun W => W.cell? ⟨w.heap.size, 0, none⟩ = some (.int .i64 k)) (first | exact CD.out _ | exact hd.1 | exact (CC.out _ ht6).1 | exact (CC.out _ ht).1) (first
      | (go_at_call 19; refine (HC.out V _ (Below.drew (Below.refl _ _))).mono ?_; rintro e w3 ⟨rfl, ht0⟩; have ht := (DA.out _).trans (ht0.mono (DA.out _).size))
      | (go_at_call 20; refine (HH.out _).mono ?_; rintro e w4 ⟨rfl, ht4⟩; have ht6 := ht.trans (ht4.mono ht.size); have ht5 := HBV.out.trans (ht6.mono HBV.out.size)))
    have HT := Lib.hid ht5
    clear ht ht6 ht5
    go_wp2_with fail
    go_ret
    exact ⟨rfl, HT.out⟩
end Go.Proofs.Ytbjgoigdhijbgaa
