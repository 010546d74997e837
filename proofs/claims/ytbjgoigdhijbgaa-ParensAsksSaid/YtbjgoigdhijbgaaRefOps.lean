/-
  THE DOCUMENT's Binary, Side, Prefix, Left, Right.
-/
import Derived.Test.YtbjgoigdhijbgaaOpsMath
import Derived.Test.YtbjgoigdhijbgaaSignWalks
import Derived.Deep.LoopGhost
import Derived.Deep.QuietTactic
namespace Go.Proofs.Ytbjgoigdhijbgaa
open Go.RowKit Go.PlainAid

theorem allocs_below : ∀ (os : List Obj) (w : World), Below w.heap.size w (os.foldl World.alloc w)
  | [], w => Below.refl _ w
  | o :: t, w => (below1 w o).trans ((allocs_below t (w.alloc o)).mono (by simp))
theorem allocs_at : ∀ (os : List Obj) (w : World) (i : Nat) (o : Obj), os[i]? = some o → (os.foldl World.alloc w).heap[w.heap.size + i]? = some o
  | [], _, _, _, h => by simp at h
  | p :: t, w, 0, o, h => by
    simp only [List.getElem?_cons_zero, Option.some.injEq] at h
    subst h
    show (t.foldl World.alloc (w.alloc p)).heap[w.heap.size]? = _
    rw [(allocs_below t (w.alloc p)).block _ (by simp)]
    show (w.heap.push p)[w.heap.size]? = _
    rw [Array.getElem?_push, if_pos rfl]
  | p :: t, w, i + 1, o, h => by
    simp only [List.getElem?_cons_succ] at h
    have := allocs_at t (w.alloc p) i o h
    rw [show (w.alloc p).heap.size + i = w.heap.size + (i + 1) by simp; omega] at this
    exact this
def rowO (r : List (List UInt8)) : Obj := .cells (r.map fun x => Value.string ⟨x.toArray⟩).toArray 9
def outO (g : Nat) : Obj := .cells #[.slice (some ⟨g, 0, none⟩) 0 0, .slice (some ⟨g + 1, 0, none⟩) 1 1, .slice (some ⟨g + 2, 0, none⟩) 1 1, .slice (some ⟨g + 3, 0, none⟩) 2 2, .slice (some ⟨g + 4, 0, none⟩) 1 1, .slice (some ⟨g + 5, 0, none⟩) 1 1, .slice (some ⟨g + 6, 0, none⟩) 8 8, .slice (some ⟨g + 7, 0, none⟩) 2 2, .slice (some ⟨g + 8, 0, none⟩) 8 8, .slice (some ⟨g + 9, 0, none⟩) 6 6] 23
theorem out_at (g : Nat) : ∀ i r, opTab[i]? = some r → (#[Value.slice (some ⟨g, 0, none⟩) 0 0, .slice (some ⟨g + 1, 0, none⟩) 1 1, .slice (some ⟨g + 2, 0, none⟩) 1 1, .slice (some ⟨g + 3, 0, none⟩) 2 2, .slice (some ⟨g + 4, 0, none⟩) 1 1, .slice (some ⟨g + 5, 0, none⟩) 1 1, .slice (some ⟨g + 6, 0, none⟩) 8 8, .slice (some ⟨g + 7, 0, none⟩) 2 2, .slice (some ⟨g + 8, 0, none⟩) 8 8, .slice (some ⟨g + 9, 0, none⟩) 6 6] : Array Value)[i]? = some (Value.slice (some ⟨g + i, 0, none⟩) r.length r.length) := by
  intro i r h
  match i, h with
  | 0, h => cases h; rfl
  | 1, h => cases h; rfl
  | 2, h => cases h; rfl
  | 3, h => cases h; rfl
  | 4, h => cases h; rfl
  | 5, h => cases h; rfl
  | 6, h => cases h; rfl
  | 7, h => cases h; rfl
  | 8, h => cases h; rfl
  | 9, h => cases h; rfl
  | n + 10, h => cases h
theorem tb_new (w : World) : TbAt ((opTab.map rowO ++ [outO w.heap.size]).foldl World.alloc w) w.heap.size := by
  intro i r h
  have hi : i < 10 := (List.getElem?_eq_some_iff.1 h).1
  have hl : (opTab.map rowO).length = 10 := rfl
  refine ⟨?_, fun k x hx => ?_⟩
  · have h10 := allocs_at (opTab.map rowO ++ [outO w.heap.size]) w 10 (outO w.heap.size) (by rw [List.getElem?_append_right (by omega), hl]; rfl)
    rw [cell_of_row _ _ _ _ _ _ h10]
    exact out_at _ i r h
  · have hr := allocs_at (opTab.map rowO ++ [outO w.heap.size]) w i (rowO r) (by rw [List.getElem?_append_left (by omega), List.getElem?_map, h]; rfl)
    rw [cell_of_row _ _ _ _ _ _ hr]
    simp [hx]
theorem tb_lt {i : Nat} {r : List (List UInt8)} (h : opTab[i]? = some r) : i < 10 ∧ r.length ≤ 8 := by
  have key : ∀ n : Fin 10, ∀ r, opTab[n.val]? = some r → r.length ≤ 8 := by decide +kernel
  have hi : i < 10 := (List.getElem?_eq_some_iff.1 h).1
  exact ⟨hi, key ⟨i, hi⟩ r h⟩
theorem drop_in {r : List (List UInt8)} {k : Nat} {x y : List UInt8} (h : r[k]? = some x) : (r.drop k).contains y = (x == y || (r.drop (k + 1)).contains y) := by
  have hi : k < r.length := (List.getElem?_eq_some_iff.1 h).1
  have h2 : r[k] = x := (List.getElem?_eq_some_iff.1 h).2
  rw [List.drop_eq_getElem_cons hi, h2, List.contains_cons]
  rw [BEq.comm (a := y)]
set_option maxRecDepth 100000 in
set_option maxHeartbeats 4000000 in
theorem rbin_any (s : ByteArray) (w : World) :
    Calls Try.prog 15 #[.string s] w fun e w' => e = .returned (.int .i64 (bn s.toList : Int)) ∧ Below w.heap.size w w' := by
  obtain ⟨R, hR⟩ : ∃ R, R = bn s.toList := ⟨_, rfl⟩
  rw [← hR]
  have HR := Lib.hid hR
  clear hR
  obtain ⟨g, hg⟩ : ∃ g, g = w.heap.size := ⟨_, rfl⟩
  have HG := Lib.hid hg
  clear hg
  go_enter Try.func15, Try.ntmps15
  go_wp2_with fail
  go_loopg [4] 10 (fun gn i wr => ∃ (k : Nat), gn = 10 - k ∧ k ≤ 10 ∧ i = .int .i64 (k : Int) ∧ Hid (R = bnr (opTab.drop k) k s.toList) ∧ Hid (TbAt wr w.heap.size) ∧ Hid (Below w.heap.size w wr))
  case atStart =>
    refine ⟨0, rfl, Nat.zero_le _, rfl, Lib.hid (by rw [HR.out]; rfl), Lib.hid ?_, Lib.hid ?_⟩
    · exact tb_new w
    · exact allocs_below (opTab.map rowO ++ [outO w.heap.size]) w
  case round =>
    obtain ⟨i, hgn, hi, rfl, HK, HT, HB⟩ := hrel
    by_cases hlt : i < 10
    · obtain ⟨r, hr⟩ : ∃ r, opTab[i]? = some r := ⟨_, List.getElem?_eq_getElem (show i < opTab.length from hlt)⟩
      obtain ⟨-, hr8⟩ := tb_lt hr
      obtain ⟨c1, c2⟩ := HT.out i r hr
      have HC2 := Lib.hid c2
      have HK2 : Hid (R = if r.contains s.toList then i else bnr (opTab.drop (i + 1)) (i + 1) s.toList) := Lib.hid (by rw [HK.out, bnr_drop hr])
      have i10 : (i : Int) < 10 := by omega
      obtain ⟨m, hm⟩ : ∃ m, m = r.length := ⟨_, rfl⟩
      rw [← hm] at c1 hr8
      have HM := Lib.hid hm
      clear c2 hr hm
      go_wp2_with fail
      go_loopg [5] m (fun gn j wq => ∃ (k : Nat), gn = m - k ∧ k ≤ m ∧ j = .int .i64 (k : Int) ∧ wq = wr ∧ Hid (R = if (r.drop k).contains s.toList then i else bnr (opTab.drop (i + 1)) (i + 1) s.toList))
      case atStart => exact ⟨0, rfl, Nat.zero_le _, rfl, rfl, Lib.hid (by rw [HK2.out]; rfl)⟩
      case round =>
        obtain ⟨k, hgn2, hk, rfl, rfl, HI⟩ := hrel
        by_cases hlt2 : k < m
        · obtain ⟨x, hx⟩ : ∃ x, r[k]? = some x := ⟨_, List.getElem?_eq_getElem (by rw [← HM.out]; exact hlt2)⟩
          have d1 := HC2.out k x hx
          have km : (k : Int) < (m : Int) := by omega
          have HI2 : Hid (R = if (x == s.toList || (r.drop (k + 1)).contains s.toList) then i else bnr (opTab.drop (i + 1)) (i + 1) s.toList) := Lib.hid (by rw [HI.out, drop_in hx])
          clear hx
          cases he : (x == s.toList)
          · have HI3 : Hid (R = if (r.drop (k + 1)).contains s.toList then i else bnr (opTab.drop (i + 1)) (i + 1) s.toList) := Lib.hid (by rw [HI2.out, he, Bool.false_or])
            go_wp2_with fail
            go_roundg (m - (k + 1))
            case measure => omega
            case rel => exact ⟨k + 1, rfl, hlt2, by go_num, rfl, HI3⟩
          · have HI3 : Hid (i = R) := Lib.hid (by rw [HI2.out, he, Bool.true_or, if_pos rfl])
            go_wp2_with fail
            go_ret
            exact ⟨retN HI3.out, HB.out⟩
        · obtain rfl : k = m := by omega
          have HI3 : Hid (R = bnr (opTab.drop (i + 1)) (i + 1) s.toList) := Lib.hid (by rw [HI.out, List.drop_eq_nil_of_le (by rw [HM.out]; exact Nat.le_refl _)]; rfl)
          go_wp2_with fail
          go_roundg (10 - (i + 1))
          case measure => omega
          case rel => exact ⟨i + 1, rfl, hlt, by go_num, HI3, HT, HB⟩
    · obtain rfl : i = 10 := by omega
      have HF : Hid (0 = R) := Lib.hid (by rw [HK.out]; rfl)
      go_wp2_with fail
      go_ret
      exact ⟨retN HF.out, HB.out⟩
theorem sd_cell (n m : Nat) (h : sdt[n]? = some m) : (#[Value.int .i64 0, .int .i64 2, .int .i64 1, .int .i64 2, .int .i64 2, .int .i64 2, .int .i64 3, .int .i64 2, .int .i64 1, .int .i64 1] : Array Value)[n]? = some (Value.int .i64 (m : Int)) := by
  match n, h with
  | 0, h => cases h; rfl
  | 1, h => cases h; rfl
  | 2, h => cases h; rfl
  | 3, h => cases h; rfl
  | 4, h => cases h; rfl
  | 5, h => cases h; rfl
  | 6, h => cases h; rfl
  | 7, h => cases h; rfl
  | 8, h => cases h; rfl
  | 9, h => cases h; rfl
  | n + 10, h => cases h
set_option maxRecDepth 100000 in
theorem rside_any (s : ByteArray) (w : World) :
    Calls Try.prog 18 #[.string s] w fun e w' => e = .returned (.int .i64 (sd s.toList : Int)) ∧ Below w.heap.size w w' := by
  have H := Lib.hid (fun W => rbin_any s W)
  have h9 := bn_le s.toList
  have hs := sd_cell _ _ (sd_at s.toList)
  obtain ⟨n, hn⟩ : ∃ n, n = bn s.toList := ⟨_, rfl⟩
  rw [← hn] at h9 hs H
  obtain ⟨m, hm⟩ : ∃ m, m = sd s.toList := ⟨_, rfl⟩
  rw [← hm] at hs ⊢
  have HC := Lib.hid (fun (W : World) (hb : Below (w.alloc (.cells #[.int .i64 0, .int .i64 2, .int .i64 1, .int .i64 2, .int .i64 2, .int .i64 2, .int .i64 3, .int .i64 2, .int .i64 1, .int .i64 1] 3)).heap.size (w.alloc (.cells #[.int .i64 0, .int .i64 2, .int .i64 1, .int .i64 2, .int .i64 2, .int .i64 2, .int .i64 3, .int .i64 2, .int .i64 1, .int .i64 1] 3)) W) =>
    (show W.cell? ⟨w.heap.size, n, none⟩ = some (.int .i64 (m : Int)) from (hb.cell (p := ⟨w.heap.size, n, none⟩) (by show w.heap.size < (w.alloc _).heap.size; simp)).trans (by
      rw [cell_of_row (w.alloc _) w.heap.size n _ 3 (0, 0) (by show (w.heap.push _)[w.heap.size]? = _; rw [Array.getElem?_push, if_pos rfl])]
      exact hs)))
  have n10 : (n : Int) < 10 := by omega
  clear hs hn hm
  go_enter Try.func18, Try.ntmps18
  go_wp2_with fail
  refine (H.out _).mono ?_
  rintro e w1 ⟨rfl, hb1⟩
  have B1 : Hid (Below w.heap.size w w1) := Lib.hid ((below1 _ _).trans (hb1.mono (by simp)))
  have c := HC.out _ hb1
  clear hb1
  go_wp2_with fail
  go_ret
  exact ⟨rfl, B1.out⟩
set_option maxRecDepth 100000 in
theorem rleft_any (s : ByteArray) (w : World) :
    Calls Try.prog 16 #[.string s] w fun e w' => e = .returned (.int .i64 (lf s.toList : Int)) ∧ Below w.heap.size w w' := by
  have H := Lib.hid (fun W => rbin_any s W)
  have HS := Lib.hid (fun W => rside_any s W)
  have h9 := bn_le s.toList
  obtain ⟨R, hR⟩ : ∃ R, R = lf s.toList := ⟨_, rfl⟩
  rw [← hR]
  unfold lf at hR
  obtain ⟨n, hn⟩ : ∃ n, n = bn s.toList := ⟨_, rfl⟩
  obtain ⟨m, hm⟩ : ∃ m, m = sd s.toList := ⟨_, rfl⟩
  rw [← hn] at h9 H hR
  rw [← hm] at HS hR
  clear hn hm
  by_cases h0 : 0 < n
  · have p0 : (0 : Int) < (n : Int) := by omega
    rw [decide_eq_true h0, Bool.true_and] at hR
    cases h1 : ((m : Int) != 1)
    · have HR : Hid (n = R) := Lib.hid (if_own (c := 1) rfl hR h1)
      clear hR
      go_enter Try.func16, Try.ntmps16
      go_wp2_with fail
      refine (H.out _).mono ?_
      rintro e w1 ⟨rfl, hb1⟩
      have B1 := Lib.hid hb1
      clear hb1
      go_wp2_with fail
      refine (HS.out _).mono ?_
      rintro e w2 ⟨rfl, hb2⟩
      have B2 := Lib.hid (B1.out.trans (hb2.mono B1.out.size))
      clear hb2
      go_wp2_with fail
      go_ret
      exact ⟨retN HR.out, B2.out⟩
    · have HR : Hid ((n : Int) + 1 = (R : Int)) := Lib.hid (if_more (c := 1) rfl hR h1)
      clear hR
      go_enter Try.func16, Try.ntmps16
      go_wp2_with fail
      refine (H.out _).mono ?_
      rintro e w1 ⟨rfl, hb1⟩
      have B1 := Lib.hid hb1
      clear hb1
      go_wp2_with fail
      refine (HS.out _).mono ?_
      rintro e w2 ⟨rfl, hb2⟩
      have B2 := Lib.hid (B1.out.trans (hb2.mono B1.out.size))
      clear hb2
      go_wp2_with fail
      go_ret
      exact ⟨retI HR.out, B2.out⟩
  · obtain rfl : n = 0 := by omega
    have HR : Hid (0 = R) := Lib.hid (by rw [hR]; rfl)
    clear hR h0
    go_enter Try.func16, Try.ntmps16
    go_wp2_with fail
    refine (H.out _).mono ?_
    rintro e w1 ⟨rfl, hb1⟩
    have B1 := Lib.hid hb1
    clear hb1
    go_wp2_with fail
    go_ret
    exact ⟨retN HR.out, B1.out⟩
set_option maxRecDepth 100000 in
theorem rright_any (s : ByteArray) (w : World) :
    Calls Try.prog 17 #[.string s] w fun e w' => e = .returned (.int .i64 (rt s.toList : Int)) ∧ Below w.heap.size w w' := by
  have H := Lib.hid (fun W => rbin_any s W)
  have HS := Lib.hid (fun W => rside_any s W)
  have h9 := bn_le s.toList
  obtain ⟨R, hR⟩ : ∃ R, R = rt s.toList := ⟨_, rfl⟩
  rw [← hR]
  unfold rt at hR
  obtain ⟨n, hn⟩ : ∃ n, n = bn s.toList := ⟨_, rfl⟩
  obtain ⟨m, hm⟩ : ∃ m, m = sd s.toList := ⟨_, rfl⟩
  rw [← hn] at h9 H hR
  rw [← hm] at HS hR
  clear hn hm
  by_cases h0 : 0 < n
  · have p0 : (0 : Int) < (n : Int) := by omega
    rw [decide_eq_true h0, Bool.true_and] at hR
    cases h1 : ((m : Int) != 2)
    · have HR : Hid (n = R) := Lib.hid (if_own (c := 2) rfl hR h1)
      clear hR
      go_enter Try.func17, Try.ntmps17
      go_wp2_with fail
      refine (H.out _).mono ?_
      rintro e w1 ⟨rfl, hb1⟩
      have B1 := Lib.hid hb1
      clear hb1
      go_wp2_with fail
      refine (HS.out _).mono ?_
      rintro e w2 ⟨rfl, hb2⟩
      have B2 := Lib.hid (B1.out.trans (hb2.mono B1.out.size))
      clear hb2
      go_wp2_with fail
      go_ret
      exact ⟨retN HR.out, B2.out⟩
    · have HR : Hid ((n : Int) + 1 = (R : Int)) := Lib.hid (if_more (c := 2) rfl hR h1)
      clear hR
      go_enter Try.func17, Try.ntmps17
      go_wp2_with fail
      refine (H.out _).mono ?_
      rintro e w1 ⟨rfl, hb1⟩
      have B1 := Lib.hid hb1
      clear hb1
      go_wp2_with fail
      refine (HS.out _).mono ?_
      rintro e w2 ⟨rfl, hb2⟩
      have B2 := Lib.hid (B1.out.trans (hb2.mono B1.out.size))
      clear hb2
      go_wp2_with fail
      go_ret
      exact ⟨retI HR.out, B2.out⟩
  · obtain rfl : n = 0 := by omega
    have HR : Hid (0 = R) := Lib.hid (by rw [hR]; rfl)
    clear hR h0
    go_enter Try.func17, Try.ntmps17
    go_wp2_with fail
    refine (H.out _).mono ?_
    rintro e w1 ⟨rfl, hb1⟩
    have B1 := Lib.hid hb1
    clear hb1
    go_wp2_with fail
    go_ret
    exact ⟨retN HR.out, B1.out⟩
end Go.Proofs.Ytbjgoigdhijbgaa
