/-
  The program's own way to one token.
-/
import Derived.Test.YtajjhhodpohfpaaDoorScanNumber
import Derived.Test.YtajjhhodpohfpaaDoorScanDefs
namespace Go.Proofs.YtajjhhodpohfpaaDoor
open Go.RowKit Go.PlainAid

/-- What the program's calls ask of the world: its tables. -/
def STabs (w : World) : Prop := LTabs w ∧ TabM w
theorem STabs.below {w w' : World} (h : STabs w) (hb : Below w.heap.size w w') : STabs w' := by
  refine ⟨h.1.below hb, ?_⟩
  obtain ⟨cs, t, fr, h1, h2, h3⟩ := h.2
  exact ⟨cs, t, fr, (hb.block _ (Array.getElem?_eq_some_iff.1 h1).1).trans h1, h2, h3⟩
theorem STabs.drewN {w : World} (h : STabs w) (n : Nat) : STabs (w.drewN n) := h
/-- A kind and an end that are the token at byte k, or end where it begins if there is none. -/
def TokOk (s : ByteArray) (k : Nat) (K : Int) (E : Nat) : Prop := ((one s k).1 = 0 → E = k) ∧ ((one s k).1 ≠ 0 → (K, E) = one s k)
def TokAns (s : ByteArray) (k : Nat) (w : World) (e : Ending) (w' : World) : Prop := (∃ (K : Int) (E : Nat), e = .returned (.tuple #[.int .i64 K, .int .i64 E]) ∧ TokOk s k K E) ∧ Below w.heap.size w w'
theorem tok_tk {s : ByteArray} {k : Nat} {kd : Int} {x : Nat} (hkd : kd ≠ 0) (h : one s k = tk kd x) : TokOk s k kd (if x = 0 then k else x) := by
  unfold TokOk
  rw [h]
  unfold tk
  by_cases hx : x = 0
  · rw [if_pos hx, if_pos hx]; exact ⟨fun _ => rfl, fun h => absurd rfl h⟩
  · rw [if_neg hx, if_neg hx]; exact ⟨fun h => absurd h hkd, fun _ => rfl⟩
theorem tok_is {s : ByteArray} {k : Nat} {kd : Int} {x : Nat} (hkd : kd ≠ 0) (h : one s k = (kd, x)) : TokOk s k kd x := by
  unfold TokOk
  rw [h]
  exact ⟨fun h => absurd h hkd, fun _ => rfl⟩
theorem tok_sign {s : ByteArray} {k : Nat} (h : one s k = if lgL (s.data.toList.drop k) = 0 then (0, 0) else (9, k + lgL (s.data.toList.drop k))) : TokOk s k 9 (k + lgL (s.data.toList.drop k)) := by
  unfold TokOk
  rw [h]
  by_cases hx : lgL (s.data.toList.drop k) = 0
  · rw [if_pos hx, hx]; exact ⟨fun _ => rfl, fun h => absurd rfl h⟩
  · rw [if_neg hx]; exact ⟨fun h => (by cases h), fun _ => rfl⟩
theorem tok_macro {s : ByteArray} {k : Nat} (h : bt s k = 63) : TokOk s k 7 (if fst (bt s (mcb s k)) = true then fw inn s (mcb s k) else k) := by
  unfold TokOk
  rw [one_63 h]
  cases fst (bt s (mcb s k))
  · rw [if_neg (by decide), if_neg (by decide)]; exact ⟨fun _ => rfl, fun h => absurd rfl h⟩
  · rw [if_pos rfl, if_pos rfl]; exact ⟨fun h => (by cases h), fun _ => rfl⟩
theorem tok_num {s : ByteArray} {k : Nat} (hk : k < s.size) (h : beg (bt s k) = 3) : TokOk s k (pnum s k).1 (pnum s k).2 := by
  have := pnum_num hk h
  unfold TokOk
  rw [one_num h]
  exact ⟨this.1, this.2⟩
theorem blt_fw {s : ByteArray} {k : Nat} (h : k < s.size) : k < fw bl s k ↔ bl (bt s k) = true := by
  cases hb : bl (bt s k)
  · rw [fw_stop hb]; simp
  · rw [fw_go h hb]
    have := fw_ge bl s (k + 1)
    exact ⟨fun _ => rfl, fun _ => by omega⟩
theorem stops_is {s : ByteArray} {k : Nat} (hk : k < s.size) : (decide (k + 1 = s.size) || (bt s (k + 1) == 37 || bl (bt s (k + 1)))) = true ↔ (k + 1 = s.size ∨ bt s (k + 1) = 37 ∨ k + 1 < fw bl s (k + 1)) := by
  by_cases h : k + 1 = s.size
  · rw [decide_eq_true h]; simp [h]
  · rw [blt_fw (by omega : k + 1 < s.size), decide_eq_false h]
    simp [h]
set_option maxRecDepth 100000 in
set_option maxHeartbeats 1000000 in
theorem tok_com (s : ByteArray) (k : Nat) (hk : k < s.size) (hs : s.size ≤ 1048576) (h : bt s k = 37) (w : World) (_ht : STabs w) :
    Calls Tryd.prog 20 #[.string s, .int .i64 k] w fun e w' => TokAns s k w e w' := by
  have gx := get_bt s k hk
  have HC := Lib.hid (fun W => comment_any s k hk hs W)
  have HOK : Hid (TokOk s k 11 (tr s k (ix s 10 k))) := tok_is (by decide) (one_37 h)
  rw [h] at gx
  clear h _ht
  go_enter Tryd.func20, Tryd.ntmps20
  go_wp2_with fail
  refine (HC.out _).mono ?_
  rintro e w' ⟨rfl, hb⟩
  go_wp2_with fail
  go_ret2
  exact ⟨⟨_, _, rfl, HOK.out⟩, hb⟩
set_option maxRecDepth 100000 in
set_option maxHeartbeats 1000000 in
theorem tok_dot (s : ByteArray) (k : Nat) (hk : k < s.size) (hs : s.size ≤ 1048576) (h : bt s k = 46) (h2 : k + 1 = s.size ∨ bt s (k + 1) = 37 ∨ k + 1 < fw bl s (k + 1)) (w : World) (_ht : STabs w) :
    Calls Tryd.prog 20 #[.string s, .int .i64 k] w fun e w' => TokAns s k w e w' := by
  have gx := get_bt s k hk
  have HS := fun W => stops_any s (k + 1) (by omega) W
  rw [(stops_is hk).2 h2, show ((k + 1 : Nat) : Int) = (k : Int) + 1 by omega] at HS
  have HS := Lib.hid HS
  have HOK : Hid (TokOk s k 10 (k + 1)) := tok_is (by decide) (one_dot h h2)
  rw [h] at gx
  clear h h2 _ht
  go_enter Tryd.func20, Tryd.ntmps20
  go_wp2_with fail
  refine (HS.out _).mono ?_
  rintro e w' ⟨rfl, rfl⟩
  go_wp2_with fail
  go_ret2
  exact ⟨⟨_, _, rfl, HOK.out⟩, Below.refl _ _⟩
set_option maxRecDepth 100000 in
set_option maxHeartbeats 1000000 in
theorem tok_pt (s : ByteArray) (k : Nat) (hk : k < s.size) (hs : s.size ≤ 1048576) (h : bt s k = 46) (h2 : ¬ (k + 1 = s.size ∨ bt s (k + 1) = 37 ∨ k + 1 < fw bl s (k + 1))) (w : World) (ht : STabs w) :
    Calls Tryd.prog 20 #[.string s, .int .i64 k] w fun e w' => TokAns s k w e w' := by
  have gx := get_bt s k hk
  have HS := fun W => stops_any s (k + 1) (by omega) W
  have hst : (decide (k + 1 = s.size) || (bt s (k + 1) == 37 || bl (bt s (k + 1)))) = false := by
    cases hb : (decide (k + 1 = s.size) || (bt s (k + 1) == 37 || bl (bt s (k + 1))))
    · rfl
    · exact absurd ((stops_is hk).1 hb) h2
  rw [hst, show ((k + 1 : Nat) : Int) = (k : Int) + 1 by omega] at HS
  have HS := Lib.hid HS
  have HB : Hid (∀ W, Calls Tryd.prog 39 #[.int .u8 46] W fun e w' => e = .returned (.int .i64 0) ∧ W = w') := Lib.hid (fun W => begins_any 46 W)
  have HL := fun W (hW : TabM W) => longest_any s k W hW
  rw [lg_at s k hk] at HL
  have HL := Lib.hid HL
  have HOK : Hid (TokOk s k 9 (k + lgL (s.data.toList.drop k))) := tok_sign (one_sign (by omega) (fun g => h2 g.2) (by rw [h]; decide) (by omega) (by omega) (by omega) (by omega))
  obtain ⟨g, hg⟩ : ∃ g, g = lgL (s.data.toList.drop k) := ⟨_, rfl⟩
  have hg3 : g ≤ 3 := by rw [hg]; have := lg_le s k; rw [lg_at s k hk] at this; exact this
  rw [← hg] at HL HOK
  have HT := Lib.hid ht
  rw [h] at gx
  clear h h2 ht hst hg
  go_enter Tryd.func20, Tryd.ntmps20
  go_wp2_with fail
  refine (HS.out _).mono ?_
  rintro e w' ⟨rfl, rfl⟩
  go_wp2_with fail
  refine (HB.out _).mono ?_
  rintro e w' ⟨rfl, rfl⟩
  go_wp2_with fail
  refine (HL.out _ HT.out.2).mono ?_
  rintro e w' ⟨rfl, hb⟩
  go_wp2_with fail
  go_ret2
  exact ⟨⟨_, k + g, rfl, HOK.out⟩, hb⟩
set_option maxRecDepth 100000 in
set_option maxHeartbeats 1000000 in
theorem tok_39 (s : ByteArray) (k : Nat) (hk : k < s.size) (hs : s.size ≤ 1048576) (h : bt s k = 39) (w : World) (ht : STabs w) :
    Calls Tryd.prog 20 #[.string s, .int .i64 k] w fun e w' => TokAns s k w e w' := by
  have gx := get_bt s k hk
  have HC := Lib.hid (fun W (hW : STabs W) => quotedp_any s k 39 hk h (by decide) hs W hW.1.1)
  have HOK : Hid (TokOk s k 1 (if qx s 39 (k + 1) = 0 then k else qx s 39 (k + 1))) := tok_tk (by decide) (one_39 h)
  obtain ⟨Q, hQ⟩ : ∃ Q : Nat, Q = if qx s 39 (k + 1) = 0 then k else qx s 39 (k + 1) := ⟨_, rfl⟩
  rw [← hQ] at HC HOK
  have HT := Lib.hid ht
  rw [h] at gx
  clear h ht hQ
  go_enter Tryd.func20, Tryd.ntmps20
  go_wp2_with fail
  refine (HC.out _ HT.out).mono ?_
  rintro e w' ⟨rfl, n, rfl⟩
  go_wp2_with fail
  go_ret2
  exact ⟨⟨_, _, rfl, HOK.out⟩, drew_below _ _⟩
set_option maxRecDepth 100000 in
set_option maxHeartbeats 1000000 in
theorem tok_34 (s : ByteArray) (k : Nat) (hk : k < s.size) (hs : s.size ≤ 1048576) (h : bt s k = 34) (w : World) (ht : STabs w) :
    Calls Tryd.prog 20 #[.string s, .int .i64 k] w fun e w' => TokAns s k w e w' := by
  have gx := get_bt s k hk
  have HC := Lib.hid (fun W (hW : STabs W) => quotedp_any s k 34 hk h (by decide) hs W hW.1.1)
  have HOK : Hid (TokOk s k 6 (if qx s 34 (k + 1) = 0 then k else qx s 34 (k + 1))) := tok_tk (by decide) (one_34 h)
  obtain ⟨Q, hQ⟩ : ∃ Q : Nat, Q = if qx s 34 (k + 1) = 0 then k else qx s 34 (k + 1) := ⟨_, rfl⟩
  rw [← hQ] at HC HOK
  have HT := Lib.hid ht
  rw [h] at gx
  clear h ht hQ
  go_enter Tryd.func20, Tryd.ntmps20
  go_wp2_with fail
  refine (HC.out _ HT.out).mono ?_
  rintro e w' ⟨rfl, n, rfl⟩
  go_wp2_with fail
  go_ret2
  exact ⟨⟨_, _, rfl, HOK.out⟩, drew_below _ _⟩
set_option maxRecDepth 100000 in
set_option maxHeartbeats 1000000 in
theorem tok_36 (s : ByteArray) (k : Nat) (hk : k < s.size) (hs : s.size ≤ 1048576) (h : bt s k = 36) (w : World) (ht : STabs w) :
    Calls Tryd.prog 20 #[.string s, .int .i64 k] w fun e w' => TokAns s k w e w' := by
  have gx := get_bt s k hk
  have HC := Lib.hid (fun W (hW : STabs W) => charp_any s k hk hs W hW.1)
  have HOK : Hid (TokOk s k 5 (if che s k = 0 then k else che s k)) := tok_tk (by decide) (one_36 h)
  obtain ⟨Q, hQ⟩ : ∃ Q : Nat, Q = if che s k = 0 then k else che s k := ⟨_, rfl⟩
  rw [← hQ] at HC HOK
  have HT := Lib.hid ht
  rw [h] at gx
  clear h ht hQ
  go_enter Tryd.func20, Tryd.ntmps20
  go_wp2_with fail
  refine (HC.out _ HT.out).mono ?_
  rintro e w' ⟨rfl, hb⟩
  go_wp2_with fail
  go_ret2
  exact ⟨⟨_, _, rfl, HOK.out⟩, hb⟩
set_option maxRecDepth 100000 in
set_option maxHeartbeats 1000000 in
theorem tok_63 (s : ByteArray) (k : Nat) (hk : k < s.size) (hs : s.size ≤ 1048576) (h : bt s k = 63) (w : World) (_ht : STabs w) :
    Calls Tryd.prog 20 #[.string s, .int .i64 k] w fun e w' => TokAns s k w e w' := by
  have gx := get_bt s k hk
  have HC := Lib.hid (fun W => macro_any s k hk hs W)
  have HOK : Hid (TokOk s k 7 (if fst (bt s (mcb s k)) = true then fw inn s (mcb s k) else k)) := tok_macro h
  obtain ⟨Q, hQ⟩ : ∃ Q : Nat, Q = if fst (bt s (mcb s k)) = true then fw inn s (mcb s k) else k := ⟨_, rfl⟩
  rw [← hQ] at HC HOK
  rw [h] at gx
  clear h _ht hQ
  go_enter Tryd.func20, Tryd.ntmps20
  go_wp2_with fail
  refine (HC.out _).mono ?_
  rintro e w' ⟨rfl, rfl⟩
  go_wp2_with fail
  go_ret2
  exact ⟨⟨_, _, rfl, HOK.out⟩, Below.refl _ _⟩
set_option maxRecDepth 100000 in
set_option maxHeartbeats 1000000 in
theorem tok_numb (s : ByteArray) (k : Nat) (hk : k < s.size) (hs : s.size ≤ 1048576) (h : beg (bt s k) = 3) (w : World) (_ht : STabs w) :
    Calls Tryd.prog 20 #[.string s, .int .i64 k] w fun e w' => TokAns s k w e w' := by
  have gx := get_bt s k hk
  have c37 : (bt s k == 37) = false := beq_false_of_ne (fun e => by rw [e] at h; exact absurd h (by decide))
  have c46 : (bt s k == 46) = false := beq_false_of_ne (fun e => by rw [e] at h; exact absurd h (by decide))
  have c39 : (bt s k == 39) = false := beq_false_of_ne (fun e => by rw [e] at h; exact absurd h (by decide))
  have c34 : (bt s k == 34) = false := beq_false_of_ne (fun e => by rw [e] at h; exact absurd h (by decide))
  have c36 : (bt s k == 36) = false := beq_false_of_ne (fun e => by rw [e] at h; exact absurd h (by decide))
  have c63 : (bt s k == 63) = false := beq_false_of_ne (fun e => by rw [e] at h; exact absurd h (by decide))
  have HN := Lib.hid (fun W => numberp_any s k hk h hs W)
  have HOK : Hid (TokOk s k (pnum s k).1 (pnum s k).2) := tok_num hk h
  unfold npair at HN
  obtain ⟨p, hp⟩ : ∃ p, p = pnum s k := ⟨_, rfl⟩
  rw [← hp] at HN HOK
  have HB := fun W => begins_any (bt s k) W
  rw [h] at HB
  have HB := Lib.hid HB
  obtain ⟨c, hc⟩ : ∃ c, c = bt s k := ⟨_, rfl⟩
  rw [← hc] at gx HB c37 c46 c39 c34 c36 c63
  clear hc hp h _ht
  go_enter Tryd.func20, Tryd.ntmps20
  go_wp2_with fail
  refine (HB.out _).mono ?_
  rintro e w' ⟨rfl, rfl⟩
  go_wp2_with fail
  refine (HN.out _).mono ?_
  rintro e w' ⟨rfl, hb⟩
  go_wp2_with fail
  go_ret2
  exact ⟨⟨_, _, rfl, HOK.out⟩, hb⟩
set_option maxRecDepth 100000 in
set_option maxHeartbeats 1000000 in
theorem tok_atom (s : ByteArray) (k : Nat) (hk : k < s.size) (hs : s.size ≤ 1048576) (h : beg (bt s k) = 1) (w : World) (_ht : STabs w) :
    Calls Tryd.prog 20 #[.string s, .int .i64 k] w fun e w' => TokAns s k w e w' := by
  have gx := get_bt s k hk
  have c37 : (bt s k == 37) = false := beq_false_of_ne (fun e => by rw [e] at h; exact absurd h (by decide))
  have c46 : (bt s k == 46) = false := beq_false_of_ne (fun e => by rw [e] at h; exact absurd h (by decide))
  have c39 : (bt s k == 39) = false := beq_false_of_ne (fun e => by rw [e] at h; exact absurd h (by decide))
  have c34 : (bt s k == 34) = false := beq_false_of_ne (fun e => by rw [e] at h; exact absurd h (by decide))
  have c36 : (bt s k == 36) = false := beq_false_of_ne (fun e => by rw [e] at h; exact absurd h (by decide))
  have c63 : (bt s k == 63) = false := beq_false_of_ne (fun e => by rw [e] at h; exact absurd h (by decide))
  have HN := Lib.hid (fun W => name_any s k hk hs W)
  have HOK : Hid (TokOk s k (if rs (s.extract k (fw inn s k)) = true then 8 else beg (bt s k)) (fw inn s k)) := tok_is (by rw [h]; split <;> decide) (one_name (by omega) (by omega))
  obtain ⟨p, hp⟩ : ∃ p : Int, p = if rs (s.extract k (fw inn s k)) = true then 8 else beg (bt s k) := ⟨_, rfl⟩
  obtain ⟨F, hF⟩ : ∃ F, F = fw inn s k := ⟨_, rfl⟩
  rw [← hp, ← hF] at HN HOK
  have HB := fun W => begins_any (bt s k) W
  rw [h] at HB
  have HB := Lib.hid HB
  obtain ⟨c, hc⟩ : ∃ c, c = bt s k := ⟨_, rfl⟩
  rw [← hc] at gx HB c37 c46 c39 c34 c36 c63
  clear hc hp hF h _ht
  go_enter Tryd.func20, Tryd.ntmps20
  go_wp2_with fail
  refine (HB.out _).mono ?_
  rintro e w' ⟨rfl, rfl⟩
  go_wp2_with fail
  refine (HN.out _).mono ?_
  rintro e w' ⟨rfl, rfl⟩
  go_wp2_with fail
  go_ret2
  exact ⟨⟨_, _, rfl, HOK.out⟩, Below.refl _ _⟩
set_option maxRecDepth 100000 in
set_option maxHeartbeats 1000000 in
theorem tok_var (s : ByteArray) (k : Nat) (hk : k < s.size) (hs : s.size ≤ 1048576) (h : beg (bt s k) = 2) (w : World) (_ht : STabs w) :
    Calls Tryd.prog 20 #[.string s, .int .i64 k] w fun e w' => TokAns s k w e w' := by
  have gx := get_bt s k hk
  have c37 : (bt s k == 37) = false := beq_false_of_ne (fun e => by rw [e] at h; exact absurd h (by decide))
  have c46 : (bt s k == 46) = false := beq_false_of_ne (fun e => by rw [e] at h; exact absurd h (by decide))
  have c39 : (bt s k == 39) = false := beq_false_of_ne (fun e => by rw [e] at h; exact absurd h (by decide))
  have c34 : (bt s k == 34) = false := beq_false_of_ne (fun e => by rw [e] at h; exact absurd h (by decide))
  have c36 : (bt s k == 36) = false := beq_false_of_ne (fun e => by rw [e] at h; exact absurd h (by decide))
  have c63 : (bt s k == 63) = false := beq_false_of_ne (fun e => by rw [e] at h; exact absurd h (by decide))
  have HN := Lib.hid (fun W => name_any s k hk hs W)
  have HOK : Hid (TokOk s k (if rs (s.extract k (fw inn s k)) = true then 8 else beg (bt s k)) (fw inn s k)) := tok_is (by rw [h]; split <;> decide) (one_name (by omega) (by omega))
  obtain ⟨p, hp⟩ : ∃ p : Int, p = if rs (s.extract k (fw inn s k)) = true then 8 else beg (bt s k) := ⟨_, rfl⟩
  obtain ⟨F, hF⟩ : ∃ F, F = fw inn s k := ⟨_, rfl⟩
  rw [← hp, ← hF] at HN HOK
  have HB := fun W => begins_any (bt s k) W
  rw [h] at HB
  have HB := Lib.hid HB
  obtain ⟨c, hc⟩ : ∃ c, c = bt s k := ⟨_, rfl⟩
  rw [← hc] at gx HB c37 c46 c39 c34 c36 c63
  clear hc hp hF h _ht
  go_enter Tryd.func20, Tryd.ntmps20
  go_wp2_with fail
  refine (HB.out _).mono ?_
  rintro e w' ⟨rfl, rfl⟩
  go_wp2_with fail
  refine (HN.out _).mono ?_
  rintro e w' ⟨rfl, rfl⟩
  go_wp2_with fail
  go_ret2
  exact ⟨⟨_, _, rfl, HOK.out⟩, Below.refl _ _⟩
set_option maxRecDepth 100000 in
set_option maxHeartbeats 1000000 in
theorem tok_sgn (s : ByteArray) (k : Nat) (hk : k < s.size) (hs : s.size ≤ 1048576) (h1 : bt s k ≠ 37) (h2 : bt s k ≠ 46) (h3 : beg (bt s k) = 0) (h4 : bt s k ≠ 39) (h5 : bt s k ≠ 34) (h6 : bt s k ≠ 36) (h7 : bt s k ≠ 63) (w : World) (ht : STabs w) :
    Calls Tryd.prog 20 #[.string s, .int .i64 k] w fun e w' => TokAns s k w e w' := by
  have gx := get_bt s k hk
  have c37 : (bt s k == 37) = false := beq_false_of_ne h1
  have c46 : (bt s k == 46) = false := beq_false_of_ne h2
  have c39 : (bt s k == 39) = false := beq_false_of_ne h4
  have c34 : (bt s k == 34) = false := beq_false_of_ne h5
  have c36 : (bt s k == 36) = false := beq_false_of_ne h6
  have c63 : (bt s k == 63) = false := beq_false_of_ne h7
  have HL := fun W (hW : TabM W) => longest_any s k W hW
  rw [lg_at s k hk] at HL
  have HL := Lib.hid HL
  have HOK : Hid (TokOk s k 9 (k + lgL (s.data.toList.drop k))) := tok_sign (one_sign h1 (fun g => h2 g.1) h3 h4 h5 h6 h7)
  obtain ⟨g, hg⟩ : ∃ g, g = lgL (s.data.toList.drop k) := ⟨_, rfl⟩
  have hg3 : g ≤ 3 := by rw [hg]; have := lg_le s k; rw [lg_at s k hk] at this; exact this
  rw [← hg] at HL HOK
  have HT := Lib.hid ht
  have HB := fun W => begins_any (bt s k) W
  rw [h3] at HB
  have HB := Lib.hid HB
  obtain ⟨c, hc⟩ : ∃ c, c = bt s k := ⟨_, rfl⟩
  rw [← hc] at gx HB c37 c46 c39 c34 c36 c63
  clear hc ht hg h1 h2 h3 h4 h5 h6 h7
  go_enter Tryd.func20, Tryd.ntmps20
  go_wp2_with fail
  refine (HB.out _).mono ?_
  rintro e w' ⟨rfl, rfl⟩
  go_wp2_with fail
  refine (HL.out _ HT.out.2).mono ?_
  rintro e w' ⟨rfl, hb⟩
  go_wp2_with fail
  go_ret2
  exact ⟨⟨_, k + g, rfl, HOK.out⟩, hb⟩
/-- token. -/
theorem token_any (s : ByteArray) (k : Nat) (hk : k < s.size) (hs : s.size ≤ 1048576) (w : World) (ht : STabs w) :
    Calls Tryd.prog 20 #[.string s, .int .i64 k] w fun e w' => TokAns s k w e w' := by
  by_cases c1 : bt s k = 37
  · exact tok_com s k hk hs c1 w ht
  by_cases c2 : bt s k = 46
  · by_cases c3 : k + 1 = s.size ∨ bt s (k + 1) = 37 ∨ k + 1 < fw bl s (k + 1)
    · exact tok_dot s k hk hs c2 c3 w ht
    · exact tok_pt s k hk hs c2 c3 w ht
  by_cases c5 : bt s k = 39
  · exact tok_39 s k hk hs c5 w ht
  by_cases c6 : bt s k = 34
  · exact tok_34 s k hk hs c6 w ht
  by_cases c7 : bt s k = 36
  · exact tok_36 s k hk hs c7 w ht
  by_cases c8 : bt s k = 63
  · exact tok_63 s k hk hs c8 w ht
  have hr := beg_range (bt s k)
  by_cases b3 : beg (bt s k) = 3
  · exact tok_numb s k hk hs b3 w ht
  by_cases b1 : beg (bt s k) = 1
  · exact tok_atom s k hk hs b1 w ht
  by_cases b2 : beg (bt s k) = 2
  · exact tok_var s k hk hs b2 w ht
  · exact tok_sgn s k hk hs c1 c2 (by omega) c5 c6 c7 c8 w ht
end Go.Proofs.YtajjhhodpohfpaaDoor
