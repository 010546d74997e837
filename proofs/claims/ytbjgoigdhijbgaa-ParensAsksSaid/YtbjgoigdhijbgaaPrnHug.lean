/-
  THE PROGRAM's parentheses: what hugs.
-/
import Derived.Test.YtbjgoigdhijbgaaPrnFns
set_option linter.all false
namespace Go.Proofs.Ytbjgoigdhijbgaa
open Go.RowKit Go.PlainAid

set_option maxRecDepth 100000 in
set_option maxHeartbeats 8000000 in
theorem phugs_any (op : ByteArray) (k : Int) (t : ByteArray) (v2 v3 v4 v5 v6 : Value) (w : World) (hk : -9223372036854775808 ≤ k ∧ k ≤ 9223372036854775807) :
    Calls Try.prog 7 #[.string op, .agg #[.int .i64 k, .string t, v2, v3, v4, v5, v6]] w fun e w' => e = .returned (.bool (hugI op k)) ∧ Below w.heap.size w w' := by
  obtain ⟨c0, c1, -⟩ := seven_new w k t v2 v3 v4 v5 v6
  have HN := Lib.hid (below1 w (.cells #[.int .i64 k, .string t, v2, v3, v4, v5, v6] 25))
  have hop : ((op.toList == [61]) = true ∧ hgO op = true) ∨ ((op.toList == [61]) = false ∧ (op.toList == [58, 58]) = true ∧ hgO op = true) ∨ ((op.toList == [61]) = false ∧ (op.toList == [58, 58]) = false ∧ (op.toList == [61, 62]) = true ∧ hgO op = true) ∨ ((op.toList == [61]) = false ∧ (op.toList == [58, 58]) = false ∧ (op.toList == [61, 62]) = false ∧ (op.toList == [58, 61]) = true ∧ hgO op = true) ∨ ((op.toList == [61]) = false ∧ (op.toList == [58, 58]) = false ∧ (op.toList == [61, 62]) = false ∧ (op.toList == [58, 61]) = false ∧ hgO op = false) := by
    unfold hgO
    cases (op.toList == [61]) <;> cases (op.toList == [58, 58]) <;> cases (op.toList == [61, 62]) <;> cases (op.toList == [58, 61]) <;> simp
  have hgd : hgO op = true → hugI op k = hasI (ofI hugL 0) k := fun h => by rw [hugI, h, Bool.true_and, has_hug hk]
  have hgn : hgO op = false → hugI op k = false := fun h => by rw [hugI, h, Bool.false_and]
  obtain ⟨R, hR⟩ : ∃ R, R = hugI op k := ⟨_, rfl⟩
  rw [← hR] at hgd hgn ⊢
  obtain ⟨O, hO⟩ : ∃ O, O = hgO op := ⟨_, rfl⟩
  rw [← hO] at hop hgd hgn
  clear hR hO hk
  have HC := Lib.hid (fun V W (hb : Below (World.alloc V (.cells #[.int .i64 2, .int .i64 4, .int .i64 5, .int .i64 6, .int .i64 8, .int .i64 9, .int .i64 10, .int .i64 11, .int .i64 15, .int .i64 17, .int .i64 18, .int .i64 19, .int .i64 20, .int .i64 21] 3)).heap.size (World.alloc V (.cells #[.int .i64 2, .int .i64 4, .int .i64 5, .int .i64 6, .int .i64 8, .int .i64 9, .int .i64 10, .int .i64 11, .int .i64 15, .int .i64 17, .int .i64 18, .int .i64 19, .int .i64 20, .int .i64 21] 3)) W) => of_any hugL V.heap.size 14 14 W rfl (fun i x hx => (hb.cell (p := ⟨V.heap.size, i, none⟩) (by simp)).trans (lst_cell V hugL _ _ rfl i x hx)) (by decide) (by decide) (Nat.lt_of_lt_of_le (by simp) hb.size))
  obtain ⟨A, hA⟩ : ∃ A, A = ofI hugL 0 := ⟨_, rfl⟩
  rw [← hA] at HC hgd
  clear hA
  have HH := Lib.hid (fun W => has_any A k W)
  obtain ⟨b, hb⟩ : ∃ b, b = hasI A k := ⟨_, rfl⟩
  rw [← hb] at HH hgd
  clear hb
  have HGD := Lib.hid hgd
  have HGN := Lib.hid hgn
  clear hgd hgn
  obtain ⟨V, hV⟩ : ∃ V, V = w.alloc (.cells #[.int .i64 k, .string t, v2, v3, v4, v5, v6] 25) := ⟨_, rfl⟩
  have hbV : Below w.heap.size w V := by rw [hV]; exact below1 _ _
  have hq : w.heap.size < V.heap.size := by rw [hV]; simp
  have CC : Hid (∀ W, Below V.heap.size V W → W.cell? ⟨w.heap.size, 0, none⟩ = some (.int .i64 k) ∧ Hid (Below V.heap.size V W)) := Lib.hid fun W h => ⟨(h.cell (p := ⟨w.heap.size, 0, none⟩) hq).trans (by rw [hV]; exact c0), Lib.hid h⟩
  have HV := Lib.hid hV
  have HBV := Lib.hid hbV
  have hd : V.cell? ⟨w.heap.size, 0, none⟩ = some (.int .i64 k) ∧ Hid (Below V.heap.size V V) := CC.out _ (Below.refl _ _)
  have DA : Hid (∀ ob, Below V.heap.size V (V.alloc ob).drew) := Lib.hid fun ob => Below.drew (below1 V ob)
  have CD : Hid (∀ ob, (V.alloc ob).drew.cell? ⟨w.heap.size, 0, none⟩ = some (.int .i64 k)) := Lib.hid fun ob => (CC.out _ (DA.out ob)).1
  clear hV hbV hq c0 c1
  rcases hop with ⟨e1, e9⟩ | ⟨e1, e2, e9⟩ | ⟨e1, e2, e3, e9⟩ | ⟨e1, e2, e3, e4, e9⟩ | ⟨e1, e2, e3, e4, e9⟩
  rotate_right
  · have hr := HGN.out e9
    rw [hr]
    clear hr e9
    go_enter Try.func7, Try.ntmps7
    go_wp2_with fail
    go_ret
    exact ⟨rfl, HN.out⟩
  all_goals
    have hr := HGD.out e9
    rw [hr]
    clear hr e9
    go_enter Try.func7, Try.ntmps7
    go_upto_region 6 with fail
    rw [← HV.out]
    go_region_held3 (fun W => W.cell? ⟨w.heap.size, 0, none⟩ = some (.int .i64 k)) (first | exact CD.out _ | exact hd.1 | exact (CC.out _ ht6).1 | exact (CC.out _ ht).1) (first
      | (go_at_call 19; refine (HC.out V _ (Below.drew (Below.refl _ _))).mono ?_; rintro e w3 ⟨rfl, ht0⟩; have ht := (DA.out _).trans (ht0.mono (DA.out _).size))
      | (go_at_call 20; refine (HH.out _).mono ?_; rintro e w4 ⟨rfl, ht4⟩; have ht6 := ht.trans (ht4.mono ht.size); have ht5 := HBV.out.trans (ht6.mono HBV.out.size)))
    have HT := Lib.hid ht5
    clear ht ht6 ht5
    go_wp2_with fail
    go_ret
    exact ⟨rfl, HT.out⟩
end Go.Proofs.Ytbjgoigdhijbgaa
