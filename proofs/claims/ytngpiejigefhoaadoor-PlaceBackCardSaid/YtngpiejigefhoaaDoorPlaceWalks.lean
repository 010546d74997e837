/-
  The contracts of package place: Ends (over strings.Count), Lines, the closure that halves, Line, Column, Start.
-/
import Derived.Test.YtngpiejigefhoaaDoorUtfTold
import Derived.Test.YtngpiejigefhoaaDoorPlaceMath
import Derived.WalkKit
import Derived.OwnWalk
import Derived.Laws.MakeOwn
import Derived.Laws.OwnMore
import Derived.WalkLawsBesides
import Derived.Deep.QuietTactic
import Derived.BigQuiet
import Derived.Lib.Hide
import Derived.Lib.Bytealg
namespace Go.Proofs.YtngpiejigefhoaaDoor
open Go.RowKit Go.PlainAid

theorem nlc_take (s : ByteArray) : ∀ k, k ≤ s.size → nlc s k = (s.data.toList.take k).count 10
  | 0, _ => rfl
  | k + 1, h => by
    have hk : k < s.data.toList.length := by rw [Array.length_toList]; exact h
    rw [List.take_succ_eq_append_getElem hk, List.count_append, ← nlc_take s k (by omega)]
    simp only [nlc]
    have e : bt s k = ((s.data.toList[k]).toNat : Int) := (get_bt s k (by omega)).symm
    rw [e, List.count_cons, List.count_nil]
    by_cases h1 : s.data.toList[k] = 10
    · rw [h1]; rfl
    · have h2 : ¬ ((s.data.toList[k]).toNat : Int) = 10 := fun h2 => h1 (UInt8.toNat_inj.1 (by have : (10 : UInt8).toNat = 10 := rfl; omega))
      rw [if_neg h2, if_neg (by simpa using h1)]
theorem count_nlc (s : ByteArray) : Lib.countByte s.data.toList 10 = nlc s s.size := by
  rw [nlc_take s _ (Nat.le_refl _), List.take_of_length_le (by rw [Array.length_toList]; exact Nat.le_refl _)]
  rfl

theorem scount_any (s : ByteArray) (w : World) :
    Calls Tryd.prog 16 #[.string s, .string ⟨#[10]⟩] w fun e w' => e = .returned (.int .i64 (nlc s s.size)) ∧ w = w' := by
  rw [← count_nlc s]
  go_enter Tryd.func16, Tryd.ntmps16
  go_wp2
  rw [run_callFunc_extern Tryd.func23 (by kernel_rfl) (by kernel_rfl) (by kernel_rfl) (e := Extern.BytealgCount.count) (by kernel_rfl), Lib.run_countString]
  simp only [Result.andThen]
  rw [Oper.upon_value]
  go_wp2
  go_ret
  exact ⟨rfl, rfl⟩
theorem ends_any (s : ByteArray) (w : World) :
    Calls Tryd.prog 8 #[.string s] w fun e w' => e = .returned (.int .i64 (nlc s s.size)) ∧ w = w' := by
  have H := Lib.hid (fun W => scount_any s W)
  go_enter Tryd.func8, Tryd.ntmps8
  go_wp2_with fail
  refine (H.out _).mono ?_
  rintro e w' ⟨rfl, rfl⟩
  go_wp2
  go_ret
  exact ⟨rfl, rfl⟩

theorem info3 : (Tryd.prog.info? 3).map (fun i => (i.zero, i.size, i.bytes)) = some (some (.int .i64 0), 1, 8) := by kernel_rfl
/-- 'make([]T, 1, n + 1)', T of one cell: one zero element is owned. -/
theorem wpList_make_one {P : Program} (w : World) {ops : Array Oper} {rest : List Oper} {o : Oper} {a : Act} {Q : Exit → Act → World → Prop}
    (hg : o.guard = none) (l c : Operand) (t : TypeId) (hop : o.op = Op.makeSlice t l c)
    (base : Nat) (e : TypeId) (i : TypeInfo) (z : Value) (h1 : P.underlying t = some (.slice e)) (h2 : P.info? e = some i) (h3 : i.zero = some z) (h4 : i.size = 1) (hz1 : z.cells = #[z])
    (kl kc : IntKind) (C : Int) (n : Nat) (hl : a.eval l = .int kl 1) (hc : a.eval c = .int kc C) (hC : C = (n : Int) + 1) (b2 : i.bytes * (n + 1) ≤ 281474976710656) (b3 : n + 1 ≤ maxLen) (b4 : base ≤ w.heap.size)
    (hK : ∀ w', w'.ownsRow base e 1 (.slice (some ⟨w.heap.size, 0, none⟩) 1 (n + 1)) 1 [z] → w.grownBy w' none → wpList P ops Q rest (a.put o.dst (.slice (some ⟨w.heap.size, 0, none⟩) 1 (n + 1))) w') :
    wpList P ops Q (o :: rest) a w := by
  refine wpList_plain hg fun K hK' => ?_
  have hb' : (i.bytes : Int) * ((n : Int) + 1) ≤ 281474976710656 := by
    have h : ((i.bytes * (n + 1) : Nat) : Int) ≤ 281474976710656 := by omega
    rwa [Int.natCast_mul, Int.natCast_add, Int.natCast_one] at h
  have hrun := run_make (P := P) w t e i z h1 h2 h3 kl kc 1 ((n : Int) + 1) (by omega) (by omega) hb' (by unfold maxLen at b3; omega)
  have en : ((n : Int) + 1).toNat = n + 1 := by omega
  subst hC
  simp only [en, Int.toNat_one, h4, Nat.mul_one, hz1] at hrun
  unfold Oper.wp
  simp [execOp, hop, hl, hc, hrun, Result.andThen]
  refine hK' _ _ (hK _ ⟨rfl, .inr ⟨w.heap.size, n + 1, _, rfl, b4, heap_alloc_new w _, by omega, b3, ?_, ?_⟩⟩ (World.grownBy_alloc w _ none))
  · rw [size_madeCells, Nat.mul_one]
  · unfold madeCells
    rw [Array.range_succ_eq_map]
    simp

theorem own_below {w w' : World} {base : Nat} {e : TypeId} {size : Nat} {v : Value} {n : Nat} {xs : List Value} (h : w.ownsRow base e size v n xs) (hb : Below w.heap.size w w') : w'.ownsRow base e size v n xs := by
  obtain ⟨h1, h2 | ⟨g, cap, cur, h3, h4, h5, h6⟩⟩ := h
  · exact ⟨h1, .inl h2⟩
  · refine ⟨h1, .inr ⟨g, cap, cur, h3, h4, ?_, h6⟩⟩
    rw [hb.block g (by have := (Array.getElem?_eq_some_iff.1 h5).1; exact this)]
    exact h5
/-- Numbers as cells. -/
def ncells (zs : List Nat) : List Value := zs.map fun (j : Nat) => Value.int .i64 (j : Int)
/-- So far: the slice that holds where the lines begin that begin among the first k bytes. -/
def Lk (W w : World) (k : Nat) (s : ByteArray) (v : Value) : Prop :=
  w.ownsRow W.heap.size 3 1 v (nlc s k + 1) (ncells (lnl s k)) ∧ Below W.heap.size W w
theorem lk_put {W w w1 w2 : World} {k : Nat} {s : ByteArray} {v v' : Value} (h : Lk W w k s v) (hb : bt s k = 10) (h1 : Below w.heap.size w w1) (o : Obj)
    (hown : w2.ownsRow W.heap.size 3 1 v' (nlc s k + 1 + 1) (ncells (lnl s k) ++ [.int .i64 ((k : Int) + 1)])) (hg : (w1.alloc o).grownBy w2 v.ownBlock) : Lk W w2 (k + 1) s v' := by
  obtain ⟨b1, b2⟩ := h
  refine ⟨?_, ?_⟩
  · rw [nlc_hit hb, lnl_hit hb]
    have e : ncells (lnl s k ++ [k + 1]) = ncells (lnl s k) ++ [.int .i64 ((k : Int) + 1)] := by simp [ncells]
    rw [e]
    exact hown
  · have hb1 : Below W.heap.size W w1 := b2.trans (h1.mono b2.size)
    exact (hb1.alloc hb1.size o).grown hg (Nat.le_trans hb1.size (by simp)) fun j hj => (b1.lt j hj).1
theorem lk_skip {W w w1 : World} {k : Nat} {s : ByteArray} {v : Value} (h : Lk W w k s v) (hb : bt s k ≠ 10) (h1 : Below w.heap.size w w1) : Lk W w1 (k + 1) s v := by
  obtain ⟨b1, b2⟩ := h
  refine ⟨?_, b2.trans (h1.mono b2.size)⟩
  rw [nlc_miss hb, lnl_miss hb]
  exact own_below b1 h1
/-- What Lines hands back: a slice of its own that holds where each line begins. -/
def LinesAre (s : ByteArray) (w : World) (e : Ending) (w' : World) : Prop :=
  ∃ g cap, e = .returned (.slice (some ⟨g, 0, none⟩) (nlc s s.size + 1) cap) ∧ w.heap.size ≤ g ∧ g < w'.heap.size ∧ (∀ j, j < nlc s s.size + 1 → w'.cell? ⟨g, j, none⟩ = some (.int .i64 (lb s s.size j))) ∧ Below w.heap.size w w'
theorem lk_end {W w : World} {s : ByteArray} {v : Value} (h : Lk W w s.size s v) : LinesAre s W (.returned v) w := by
  obtain ⟨h1, h2⟩ := h
  have hlt := h1.lt
  obtain ⟨hl, ⟨rfl, h0⟩ | ⟨g, cap, cur, rfl, hb, hg, r⟩⟩ := h1
  · omega
  · have hgl := hlt g rfl
    refine ⟨g, cap, rfl, hb, hgl.2, fun j hj => ?_, h2⟩
    have hc := World.ownsRow.cellAt ⟨hl, .inr ⟨g, cap, cur, rfl, hb, hg, r⟩⟩ j (by omega)
    rw [hc]
    unfold ncells lb
    rw [List.getElem?_map, List.getElem?_eq_getElem (by rw [lnl_len]; exact hj)]
    simp only [Option.map_some, List.getD_eq_getElem?_getD]
    rw [List.getElem?_eq_getElem (by rw [lnl_len]; exact hj)]
    rfl
theorem cell_one_new (w : World) (u : Value) (t : TypeId) : ∀ j x, [u][j]? = some x → (w.alloc (.cells #[u] t)).cell? ((⟨w.heap.size, 0, none⟩ : Addr).add j) = some x := by
  intro j x hj
  match j, hj with
  | 0, hj => simp at hj; subst hj; simp [Addr.add]

set_option maxRecDepth 100000 in
set_option maxHeartbeats 4000000 in
theorem lines_any (s : ByteArray) (w : World) (hs : s.size ≤ 1099511627776) :
    Calls Tryd.prog 11 #[.string s] w fun e w' => LinesAre s w e w' := by
  obtain ⟨i0, hi, hz0, hz1, hz2⟩ := info_parts info3
  have HE := Lib.hid (fun W => ends_any s W)
  have hn := nlc_le s s.size
  have gb := get_bt s
  obtain ⟨N, hN⟩ : ∃ N, N = nlc s s.size := ⟨_, rfl⟩
  rw [← hN] at HE hn
  have HN := Lib.hid hN
  clear hN
  have hz2' := Lib.hid hz2
  clear hz2
  go_enter Tryd.func11, Tryd.ntmps11
  go_wp2_with fail
  refine (HE.out _).mono ?_
  rintro e w1 ⟨rfl, rfl⟩
  go_wp2_with (at_make; refine wpList_make_one _ rfl _ _ 29 rfl w.heap.size 3 i0 (.int .i64 0) Tryd.underlying29 hi hz0 hz1 rfl _ _ _ N rfl rfl rfl (by rw [hz2'.out]; omega) (by unfold maxLen; omega) (Nat.le_refl _) ?_; intro w1 hown hgrow)
  have HL : Hid (Lk w w1 0 s (.slice (some ⟨w.heap.size, 0, none⟩) 1 (N + 1))) := ⟨hown, (Below.refl _ _).grown hgrow (Nat.le_refl _) (fun k hk => by cases hk)⟩
  clear hown hgrow
  go_wp2_with fail
  go_loopw [3, 11] (fun v i wr => ∃ k : Nat, k ≤ s.size ∧ i = .int .i64 k ∧ Hid (Lk w wr k s v)) (fun _ i _ => s.size - (intOf i).toNat)
  case atStart => exact ⟨0, Nat.zero_le _, rfl, HL⟩
  case round =>
    obtain ⟨k, hk, rfl, HK⟩ := hrel
    obtain ⟨wB, rfl⟩ : ∃ wB : World, wB = wr := ⟨_, rfl⟩
    by_cases hlt : k < s.size
    · have hnk := nlc_le s k
      have x0 := bt_nonneg s k
      have x1 := bt_le s k
      by_cases hb : bt s k = 10
      · have HB := Lib.hid hb
        have hbe : (bt s k == 10) = true := by rw [hb]; rfl
        have g10 : ((({ data := #[10] } : ByteArray)[0]'(by decide)).toNat : Int) = 10 := rfl
        clear hb
        go_wp2_with fail
        go_quiet (fail)
        have zle : w.heap.size ≤ wB.heap.size := HK.out.2.size
        go_wp2_with (at_builtin; (refine wpList_append_own _ rfl _ _ 29 rfl w.heap.size 3 i0 (.int .i64 0) 1 8 Tryd.underlying29 hi hz0 hz1 hz2'.out rfl (by decide) _ _ _ rfl ((own_below HK.out.1 (Below.ofDrewN wB _)).alloc _) ⟨wB.heap.size, 0, none⟩ 1 1 [.int .i64 ((k : Int) + 1)] rfl rfl (cell_one_new _ _ _) (by intro u hu; simp at hu; subst hu; rfl) (by unfold maxLen; omega) (by omega) (by simp; omega) ?_); intro v' w2 hown hgrow _)
        have R := Lib.hid (lk_put HK.out HB.out (Below.ofDrewN wB _) _ hown hgrow)
        clear hown hgrow
        go_wp2_with fail
        go_roundw
        case rel => exact ⟨k + 1, by omega, by go_num, R⟩
        case measure => simp [intOf]; omega
      · have HB := Lib.hid hb
        have hbe : (bt s k == 10) = false := beq_false_of_ne hb
        have g10 : ((({ data := #[10] } : ByteArray)[0]'(by decide)).toNat : Int) = 10 := rfl
        clear hb
        go_wp2_with fail
        go_quiet (fail)
        go_wp2_with fail
        go_roundw
        case rel => exact ⟨k + 1, by omega, by go_num, lk_skip HK.out HB.out (Below.ofDrewN wB _)⟩
        case measure => simp [intOf]; omega
    · obtain rfl : k = s.size := by omega
      have R := Lib.hid (lk_end HK.out)
      go_wp2_with fail
      go_ret
      exact R.out

set_option maxRecDepth 100000 in
set_option maxHeartbeats 4000000 in
/-- THE CLOSURE THAT HALVES: the last one that is not behind the place, or the first one. -/
theorem find_any (w : World) (B g cap L r : Nat) (x : Int) (z : Nat → Nat) (hB : w.cell? ⟨B, 0, none⟩ = some (.slice (some ⟨g, 0, none⟩) L cap)) (hc : ∀ j, j < L → w.cell? ⟨g, j, none⟩ = some (.int .i64 (z j)))
    (hr : r < L) (hL : L ≤ 2199023255552) (hz : ∀ j, 1 ≤ j → j < L → ((z j : Int) ≤ x ↔ j ≤ r)) :
    Calls Tryd.prog 25 #[.int .i64 x, .pointer (some ⟨B, 0, none⟩)] w fun e w' => e = .returned (.int .i64 r) ∧ ∃ n, w' = w.drewN n := by
  have HC := Lib.hid hc
  have HZ := Lib.hid hz
  clear hc hz
  have l0 : 1 ≤ L := by omega
  go_enter Tryd.func25, Tryd.ntmps25
  go_wp2_with fail
  go_quiet (fail)
  go_wp2_with fail
  go_loopw [4, 5] (fun f l wr => ∃ a b : Nat, a ≤ r ∧ r ≤ b ∧ b < L ∧ f = .int .i64 a ∧ l = .int .i64 b ∧ Hid (∃ n, wr = w.drewN n)) (fun f l _ => (intOf l - intOf f).toNat)
  case atStart => exact ⟨0, L - 1, Nat.zero_le _, by omega, by omega, rfl, by go_num, ⟨_, rfl⟩⟩
  case round =>
    obtain ⟨a, b, ha, hb, hbL, rfl, rfl, HW⟩ := hrel
    obtain ⟨n0, rfl⟩ := HW.out
    by_cases hab : a < b
    · obtain ⟨m, hm⟩ : ∃ m : Nat, m = b - (b - a) / 2 := ⟨_, rfl⟩
      have m1 : a < m := by omega
      have m2 : m ≤ b := by omega
      have m3 : (b : Int) - ((b : Int) - a) / 2 = m := by omega
      have hcm := HC.out m (by omega)
      have HM := Lib.hid (HZ.out m (by omega) (by omega))
      clear hm
      by_cases hx : (z m : Int) ≤ x
      · have m4 : m ≤ r := HM.out.1 hx
        go_wp2_with fail
        go_roundw
        case rel => exact ⟨m, b, m4, hb, hbL, rfl, rfl, ⟨_, rfl⟩⟩
        case measure => simp [intOf]; omega
      · have m4 : r < m := by have := mt HM.out.2 hx; omega
        have hx' : x < (z m : Int) := by omega
        clear hx
        go_wp2_with fail
        go_roundw
        case rel => exact ⟨a, m - 1, ha, by omega, by omega, rfl, by go_num, ⟨_, rfl⟩⟩
        case measure => simp [intOf]; omega
    · obtain rfl : a = r := by omega
      obtain rfl : b = a := by omega
      go_wp2_with fail
      go_ret
      exact ⟨rfl, _, rfl⟩

theorem within_any (s : ByteArray) (x : Int) (w : World) :
    Calls Tryd.prog 19 #[.string s, .int .i64 x] w fun e w' => e = .returned (.int .i64 (cl s x)) ∧ w = w' := by
  by_cases h0 : x < 0
  · have e : cl s x = 0 := by unfold cl; rw [if_pos h0]
    rw [e]
    go_enter Tryd.func19, Tryd.ntmps19
    go_wp2
    go_ret
    exact ⟨rfl, rfl⟩
  by_cases h1 : x ≤ s.size
  · have e : ((cl s x : Nat) : Int) = x := by unfold cl; rw [if_neg h0, if_pos h1]; omega
    rw [e]
    have h2 : 0 ≤ x := by omega
    go_enter Tryd.func19, Tryd.ntmps19
    go_wp2
    go_ret
    exact ⟨rfl, rfl⟩
  · have e : cl s x = s.size := by unfold cl; rw [if_neg h0, if_neg h1]
    rw [e]
    have h2 : 0 ≤ x := by omega
    go_enter Tryd.func19, Tryd.ntmps19
    go_wp2
    go_ret
    exact ⟨rfl, rfl⟩

/-- finder: the slice in a new block, the closure over it. -/
theorem finder_any (a : Option Addr) (n c : Nat) (w : World) :
    Calls Tryd.prog 17 #[.slice a n c] w fun e w' => e = .returned (.func (.func 25) #[] #[.pointer (some ⟨w.heap.size, 0, none⟩)]) ∧ w' = w.alloc (.cells #[.slice a n c] 29) := by
  go_enter Tryd.func17, Tryd.ntmps17
  go_wp2
  go_ret
  exact ⟨rfl, rfl⟩
/-- The closure's call behind Lines. -/
theorem found {s : ByteArray} {x : Int} {w1 : World} {g cap : Nat} (hg : g < w1.heap.size) (hc : ∀ j, j < nlc s s.size + 1 → w1.cell? ⟨g, j, none⟩ = some (.int .i64 (lb s s.size j))) (hs : s.size ≤ 1099511627776) :
    Calls Tryd.prog 25 #[.int .i64 x, .pointer (some ⟨w1.heap.size, 0, none⟩)] (w1.alloc (.cells #[.slice (some ⟨g, 0, none⟩) (nlc s s.size + 1) cap] 29)) fun e w' =>
      e = .returned (.int .i64 (nlc s (cl s x) : Nat)) ∧ ∃ n, w' = (w1.alloc (.cells #[.slice (some ⟨g, 0, none⟩) (nlc s s.size + 1) cap] 29)).drewN n :=
  find_any _ w1.heap.size g cap (nlc s s.size + 1) (nlc s (cl s x)) x (lb s s.size) (by rw [World.cell?_alloc_at _ _ _ _ rfl]; rfl)
    (fun j hj => by rw [World.cell?_alloc_past _ _ _ hg]; exact hc j hj) (by have := nlc_mono s (cl_le s x); omega) (by have := nlc_le s s.size; omega) fun j h1 h2 => lb_find h1 h2
theorem lk_lt (s : ByteArray) (x : Int) : nlc s (cl s x) < nlc s s.size + 1 := by have := nlc_mono s (cl_le s x); omega
set_option maxRecDepth 100000 in
set_option maxHeartbeats 4000000 in
theorem line_any (s : ByteArray) (x : Int) (w : World) (hs : s.size ≤ 1099511627776) :
    Calls Tryd.prog 10 #[.string s, .int .i64 x] w fun e w' => e = .returned (.int .i64 ((nlc s (cl s x) : Int) + 1)) ∧ Below w.heap.size w w' := by
  have HL := Lib.hid (lines_any s w hs)
  have hn := nlc_le s s.size
  have hr := lk_lt s x
  obtain ⟨R, hR⟩ : ∃ R, R = nlc s (cl s x) := ⟨_, rfl⟩
  rw [← hR] at hr ⊢
  have HR := Lib.hid hR
  clear hR
  go_enter Tryd.func10, Tryd.ntmps10
  go_wp2_with fail
  refine HL.out.mono ?_
  rintro e w1 ⟨g, cap, rfl, hg, hg2, hc, hb⟩
  have HF := found (x := x) (cap := cap) hg2 hc hs
  have HB := Lib.hid hb
  rw [← HR.out] at HF
  have HF := Lib.hid HF
  clear hc hb
  go_wp2_with fail
  refine (finder_any _ _ _ _).mono ?_
  rintro e w2 ⟨rfl, hw2⟩
  subst hw2
  go_wp2_with fail
  refine HF.out.mono ?_
  rintro e w3 ⟨rfl, n, rfl⟩
  go_wp2
  go_ret
  exact ⟨rfl, (HB.out.alloc HB.out.size _).trans ((Below.ofDrewN _ _).mono (by simp; have := HB.out.size; omega))⟩

/-- The text between the beginning of a place's line and the place. -/
def ahead (s : ByteArray) (x : Int) : ByteArray := s.extract (lb s s.size (nlc s (cl s x))) (cl s x)
set_option maxRecDepth 100000 in
set_option maxHeartbeats 4000000 in
theorem column_any (s : ByteArray) (x : Int) (w : World) (ht : Tabs w) (hs : s.size ≤ 1099511627776) :
    Calls Tryd.prog 14 #[.string s, .int .i64 x] w fun e w' => e = .returned (.int .i64 (ct (ahead s x) 0)) ∧ Below w.heap.size w w' := by
  have HT := Lib.hid ht
  have HL := Lib.hid (lines_any s w hs)
  have hn := nlc_le s s.size
  have hr := lk_lt s x
  have c1 := cl_le s x
  have c2 : lb s s.size (nlc s (cl s x)) ≤ cl s x := (lb_iff hr).2 (Nat.le_refl _)
  have cc : cl s (cl s x : Nat) = cl s x := cl_nat c1
  have hz : (ahead s x).size ≤ maxLen := by unfold ahead maxLen; rw [size_ext _ _ _ c1]; omega
  have HW := Lib.hid (fun W => within_any s x W)
  obtain ⟨C, hC⟩ : ∃ C, C = ct (ahead s x) 0 := ⟨_, rfl⟩
  rw [← hC]
  have HC : Hid (∀ W, Tabs W → Calls Tryd.prog 20 #[.string (ahead s x)] W fun e w' => e = .returned (.int .i64 C) ∧ ∃ n, w' = W.drewN n) := by
    rw [hC]; exact fun W hT => count_any (ahead s x) W hT hz
  unfold ahead at HC
  clear hC hz ht
  obtain ⟨p, hp⟩ : ∃ p, p = cl s x := ⟨_, rfl⟩
  rw [← hp] at hr c1 c2 cc HW HC
  obtain ⟨R, hR⟩ : ∃ R, R = nlc s p := ⟨_, rfl⟩
  rw [← hR] at hr c2 HC
  obtain ⟨q, hq⟩ : ∃ q, q = lb s s.size R := ⟨_, rfl⟩
  rw [← hq] at c2 HC
  have HR := Lib.hid hR
  have HQ := Lib.hid hq
  have CC := Lib.hid cc
  clear hR hq hp cc
  go_enter Tryd.func14, Tryd.ntmps14
  go_wp2_with fail
  refine HL.out.mono ?_
  rintro e w1 ⟨g, cap, rfl, hg, hg2, hc, hb⟩
  have HF := found (x := (p : Int)) (cap := cap) hg2 hc hs
  rw [CC.out, ← HR.out] at HF
  have hcell := hc R hr
  rw [← HQ.out] at hcell
  have HF := Lib.hid HF
  have HB := Lib.hid hb
  have HT1 := Lib.hid ((HT.out.below hb).below (Below.alloc (Below.refl _ w1) (Nat.le_refl _) (.cells #[.slice (some ⟨g, 0, none⟩) (nlc s s.size + 1) cap] 29)))
  clear hc hb
  go_wp2_with fail
  refine (finder_any _ _ _ _).mono ?_
  rintro e w2 ⟨rfl, hw2⟩
  subst hw2
  go_wp2_with fail
  refine (HW.out _).mono ?_
  rintro e w3 ⟨rfl, rfl⟩
  go_wp2_with fail
  refine HF.out.mono ?_
  rintro e w3 ⟨rfl, n, rfl⟩
  go_wp2_with fail
  refine (HC.out _ (HT1.out.drewN n)).mono ?_
  rintro e w4 ⟨rfl, n2, rfl⟩
  go_wp2
  go_ret
  exact ⟨rfl, (HB.out.alloc HB.out.size _).trans ((Below.ofDrewN _ _).mono (by simp; have := HB.out.size; omega))⟩

set_option maxRecDepth 100000 in
theorem start_out (s : ByteArray) (x : Int) (w : World) (hs : s.size ≤ 1099511627776) (h : x < 1 ∨ (nlc s s.size : Int) + 1 < x) :
    Calls Tryd.prog 9 #[.string s, .int .i64 x] w fun e w' => e = .returned (.tuple #[.int .i64 0, .int .i64 6]) ∧ Below w.heap.size w w' := by
  have HL := Lib.hid (lines_any s w hs)
  have hn := nlc_le s s.size
  rcases h with h | h
  · go_enter Tryd.func9, Tryd.ntmps9
    go_wp2_with fail
    refine HL.out.mono ?_
    rintro e w1 ⟨g, cap, rfl, hg, hg2, hc, hb⟩
    have HB := Lib.hid hb
    clear hb hc
    go_wp2
    go_ret2
    exact ⟨rfl, HB.out⟩
  · have h1 : 1 ≤ x := by omega
    go_enter Tryd.func9, Tryd.ntmps9
    go_wp2_with fail
    refine HL.out.mono ?_
    rintro e w1 ⟨g, cap, rfl, hg, hg2, hc, hb⟩
    have HB := Lib.hid hb
    clear hb hc
    go_wp2
    go_ret2
    exact ⟨rfl, HB.out⟩
set_option maxRecDepth 100000 in
theorem start_in (s : ByteArray) (j : Nat) (w : World) (hs : s.size ≤ 1099511627776) (h : j < nlc s s.size + 1) :
    Calls Tryd.prog 9 #[.string s, .int .i64 ((j : Int) + 1)] w fun e w' => e = .returned (.tuple #[.int .i64 (lb s s.size j), .int .i64 0]) ∧ Below w.heap.size w w' := by
  have HL := Lib.hid (lines_any s w hs)
  have hn := nlc_le s s.size
  obtain ⟨q, hq⟩ : ∃ q, q = lb s s.size j := ⟨_, rfl⟩
  rw [← hq]
  have HQ := Lib.hid hq
  clear hq
  go_enter Tryd.func9, Tryd.ntmps9
  go_wp2_with fail
  refine HL.out.mono ?_
  rintro e w1 ⟨g, cap, rfl, hg, hg2, hc, hb⟩
  have HB := Lib.hid hb
  have hcell := hc j h
  rw [← HQ.out] at hcell
  clear hb hc
  go_wp2
  go_ret2
  exact ⟨rfl, HB.out⟩
end Go.Proofs.YtngpiejigefhoaaDoor
