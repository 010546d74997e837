/-
  What one level has goes one way; operands have no lesser level but on the side to which it groups (promise 9.2): for every two integers the statement OpsSides returns true. No condition.
-/
import Derived.Test.YtbinennnddfplaaBase
import Derived.Test.YtbinennnddfplaaOpsTold
import Derived.Deep.CutRange
import Derived.BigRegion
import Derived.BigQuiet
namespace Go.Proofs.Ytbinennnddfplaa.opsSides
open Go.ChangeShapes Go.WideShapes Go.ChangeAt Go.RowKit Go.PlainAid

/-- The operators. -/
def opl : List (List UInt8) := [[58, 58], [124], [61], [33], [111, 114, 101, 108, 115, 101], [97, 110, 100, 97, 108, 115, 111], [61, 61], [47, 61], [61, 60], [60], [62, 61], [62], [61, 58, 61], [61, 47, 61], [43, 43], [45, 45], [43], [45], [98, 111, 114], [98, 120, 111, 114], [98, 115, 108], [98, 115, 114], [111, 114], [120, 111, 114], [42], [47], [100, 105, 118], [114, 101, 109], [98, 97, 110, 100], [97, 110, 100]]
theorem opl_all : ∀ k : Fin 30, 1 ≤ bn (opl.getD k.val []) := by decide +kernel
theorem opl_cell (w : World) (t : TypeId) (cs : Array Value) (k : Nat) (hk : k < 30) (h : cs = (opl.map fun l => Value.string ⟨l.toArray⟩).toArray) : (w.alloc (.cells cs t)).cell? ⟨w.heap.size, k, none⟩ = some (.string ⟨(opl.getD k []).toArray⟩) := by
  rw [World.cell?_alloc_new, h, List.getElem?_toArray, List.getElem?_map]
  have : opl[k]? = some (opl.getD k []) := by
    rw [List.getD, List.getElem?_eq_getElem (by exact hk)]; rfl
  rw [this]; rfl
theorem bytes_list (X : List UInt8) : (⟨X.toArray⟩ : ByteArray).toList = X := by simp
theorem dup {x : List UInt8} (h : 1 ≤ bn x) : (sd x = 1 ∧ lf x = bn x ∧ rt x = bn x + 1) ∨ (sd x = 2 ∧ lf x = bn x + 1 ∧ rt x = bn x) ∨ (sd x = 3 ∧ lf x = bn x + 1 ∧ rt x = bn x + 1) := by
  have h0 : 0 < bn x := h
  unfold lf rt
  rcases sd_of x h with e | e | e <;> rw [e, decide_eq_true h0] <;> simp
theorem mod_lt (x : Int) : ∃ r : Nat, r < 30 ∧ (IntKind.u64.wrap x).tmod 30 = (r : Int) := by
  have := IntKind.wrap_u64 x
  have h0 := Int.tmod_nonneg (a := IntKind.u64.wrap x) 30 (by omega)
  have h1 := Int.tmod_lt_of_pos (IntKind.u64.wrap x) (b := 30) (by omega)
  have h2 := Int.toNat_of_nonneg h0
  exact ⟨((IntKind.u64.wrap x).tmod 30).toNat, by omega, h2.symm⟩
set_option maxRecDepth 100000 in
set_option maxHeartbeats 4000000 in
theorem walk (x y : Int) (w : World) :
    Calls Try.prog 4 #[.int .i64 x, .int .i64 y] w fun e w' => e = .returned (.bool true) ∧ Below w.heap.size w w' := by
  obtain ⟨r, hr, er⟩ := mod_lt x
  obtain ⟨q, hq, eq⟩ := mod_lt y
  have hx1 := opl_all ⟨r, hr⟩
  have hy1 := opl_all ⟨q, hq⟩
  simp only at hx1 hy1
  have CX := Lib.hid (fun (W : World) t cs h => opl_cell W t cs r hr h)
  have CY := Lib.hid (fun (W : World) t cs h => opl_cell W t cs q hq h)
  obtain ⟨X, hX⟩ : ∃ X, X = opl.getD r [] := ⟨_, rfl⟩
  obtain ⟨Y, hY⟩ : ∃ Y, Y = opl.getD q [] := ⟨_, rfl⟩
  rw [← hX] at CX hx1
  rw [← hY] at CY hy1
  clear hX hY
  have hx9 := bn_le X
  have hsame : bn X = bn Y → sd X = sd Y := fun e => by unfold sd; rw [e]
  have hd := dup hx1
  obtain ⟨p, hp⟩ : ∃ n, n = bn X := ⟨_, rfl⟩
  obtain ⟨u, hu⟩ : ∃ n, n = bn Y := ⟨_, rfl⟩
  obtain ⟨sx, hsx⟩ : ∃ n, n = sd X := ⟨_, rfl⟩
  obtain ⟨sy, hsy⟩ : ∃ n, n = sd Y := ⟨_, rfl⟩
  obtain ⟨l, hl⟩ : ∃ n, n = lf X := ⟨_, rfl⟩
  obtain ⟨t, ht⟩ : ∃ n, n = rt X := ⟨_, rfl⟩
  have PX := Lib.hid (fun W => pbin_is ⟨X.toArray⟩ p (by rw [hp, bytes_list]) W)
  have PY := Lib.hid (fun W => pbin_is ⟨Y.toArray⟩ u (by rw [hu, bytes_list]) W)
  have SX := Lib.hid (fun W => pside_is ⟨X.toArray⟩ sx (by rw [hsx, bytes_list]) W)
  have SY := Lib.hid (fun W => pside_is ⟨Y.toArray⟩ sy (by rw [hsy, bytes_list]) W)
  have LX := Lib.hid (fun W => pleft_is ⟨X.toArray⟩ l (by rw [hl, bytes_list]) W)
  have RX := Lib.hid (fun W => pright_is ⟨X.toArray⟩ t (by rw [ht, bytes_list]) W)
  rw [← hp, ← hu, ← hsx, ← hsy] at hsame
  rw [← hp, ← hsx, ← hl, ← ht] at hd
  rw [← hp] at hx1 hx9
  clear hp hu hsx hsy hl ht hy1
  have HSA := Lib.hid hsame
  have HD := Lib.hid hd
  clear hsame hd
  obtain ⟨S, hS⟩ : ∃ S : ByteArray, S = ⟨X.toArray⟩ := ⟨_, rfl⟩
  obtain ⟨T, hT⟩ : ∃ S : ByteArray, S = ⟨Y.toArray⟩ := ⟨_, rfl⟩
  rw [← hS] at CX PX SX LX RX
  rw [← hT] at CY PY SY
  clear hS hT
  go_enter Try.func4, Try.ntmps4
  go_upto_region 1 with fail
  go_cut [5] from 12 to 12 (fun v wx => v = .slice (some ⟨w.heap.size, 0, none⟩) 30 30 ∧ Hid (∃ t cs, wx = w.alloc (.cells cs t) ∧ cs = (opl.map fun l => Value.string ⟨l.toArray⟩).toArray))
  case first =>
    go_wp2_with fail
    go_meet
    exact ⟨rfl, Lib.hid ⟨_, _, rfl, rfl⟩⟩
  case rest =>
    obtain ⟨rfl, HW⟩ := hcut
    have B0 : Hid (Below w.heap.size w wc) := Lib.hid (by obtain ⟨_, _, h, -⟩ := HW.out; rw [h]; exact below1 _ _)
    have c1 : wc.cell? ⟨w.heap.size, r, none⟩ = some (.string S) := by obtain ⟨_, _, h, h2⟩ := HW.out; rw [h]; exact CX.out _ _ _ h2
    have c2 : wc.cell? ⟨w.heap.size, q, none⟩ = some (.string T) := by obtain ⟨_, _, h, h2⟩ := HW.out; rw [h]; exact CY.out _ _ _ h2
    have r1 : (0 : Int) ≤ (r : Int) := by omega
    have r2 : (r : Int) < 30 := by omega
    have q1 : (0 : Int) ≤ (q : Int) := by omega
    have q2 : (q : Int) < 30 := by omega
    clear HW CX CY
    go_wp2_with fail
    go_quiet (fail)
    have B1 : Hid (Below w.heap.size w (wc.drewN nq)) := Lib.hid (B0.out.trans ((drew_below wc nq).mono B0.out.size))
    clear B0 c1 c2 r1 r2 q1 q2 er eq
    have p1 : decide ((p : Int) < 1) = false := decide_eq_false (by omega)
    have p9 : decide (9 < (p : Int)) = false := decide_eq_false (by omega)
    have pp : ((p : Int) == (p : Int)) = true := beq_self_eq_true _
    have pq : ((p : Int) + 1 == (p : Int)) = false := beq_false_of_ne (by omega)
    by_cases hpu : p = u
    · subst hpu
      obtain rfl : sx = sy := HSA.out rfl
      have ss : ((sx : Int) != (sx : Int)) = false := bne_self_eq_false _
      go_wp2_with fail
      refine (PX.out _).mono ?_
      rintro e w2 ⟨rfl, hb2⟩
      have B2 : Hid (Below w.heap.size w w2) := Lib.hid (B1.out.trans (hb2.mono B1.out.size))
      clear hb2 B1
      go_wp2_with fail
      refine (PY.out _).mono ?_
      rintro e w3 ⟨rfl, hb3⟩
      have B3 : Hid (Below w.heap.size w w3) := Lib.hid (B2.out.trans (hb3.mono B2.out.size))
      clear hb3 B2
      go_wp2_with fail
      refine (SX.out _).mono ?_
      rintro e w4 ⟨rfl, hb4⟩
      have B4 : Hid (Below w.heap.size w w4) := Lib.hid (B3.out.trans (hb4.mono B3.out.size))
      clear hb4 B3
      go_wp2_with fail
      refine (SY.out _).mono ?_
      rintro e w4b ⟨rfl, hb4b⟩
      have B4b : Hid (Below w.heap.size w w4b) := Lib.hid (B4.out.trans (hb4b.mono B4.out.size))
      clear hb4b B4
      rename Hid (Below w.heap.size w w4b) => B4
      go_wp2_with fail
      rcases HD.out with ⟨rfl, rfl, rfl⟩ | ⟨rfl, rfl, rfl⟩ | ⟨rfl, rfl, rfl⟩
      · refine (LX.out _).mono ?_
        rintro e w5 ⟨rfl, hb5⟩
        have B5 : Hid (Below w.heap.size w w5) := Lib.hid (B4.out.trans (hb5.mono B4.out.size))
        clear hb5 B4
        go_wp2_with fail
        refine (RX.out _).mono ?_
        rintro e w6 ⟨rfl, hb6⟩
        have B6 : Hid (Below w.heap.size w w6) := Lib.hid (B5.out.trans (hb6.mono B5.out.size))
        clear hb6 B5
        go_wp2_with fail
        refine (told9_any _).mono ?_
        rintro e w7 ⟨rfl, hb7⟩
        have B7 : Hid (Below w.heap.size w w7) := Lib.hid (B6.out.trans (hb7.mono B6.out.size))
        clear hb7 B6
        go_wp2_with fail
        refine (SX.out _).mono ?_
        rintro e w8 ⟨rfl, hb8⟩
        have B8 : Hid (Below w.heap.size w w8) := Lib.hid (B7.out.trans (hb8.mono B7.out.size))
        clear hb8 B7
        go_wp2_with fail
        refine (SX.out _).mono ?_
        rintro e w9 ⟨rfl, hb9⟩
        have B9 : Hid (Below w.heap.size w w9) := Lib.hid (B8.out.trans (hb9.mono B8.out.size))
        clear hb9 B8
        go_wp2_with fail
        refine (LX.out _).mono ?_
        rintro e w10 ⟨rfl, hb10⟩
        have B10 : Hid (Below w.heap.size w w10) := Lib.hid (B9.out.trans (hb10.mono B9.out.size))
        clear hb10 B9
        go_wp2_with fail
        refine (LX.out _).mono ?_
        rintro e w11 ⟨rfl, hb11⟩
        have B11 : Hid (Below w.heap.size w w11) := Lib.hid (B10.out.trans (hb11.mono B10.out.size))
        clear hb11 B10
        go_wp2_with fail
        refine (RX.out _).mono ?_
        rintro e w12 ⟨rfl, hb12⟩
        have B12 : Hid (Below w.heap.size w w12) := Lib.hid (B11.out.trans (hb12.mono B11.out.size))
        clear hb12 B11
        go_wp2_with fail
        refine (RX.out _).mono ?_
        rintro e w13 ⟨rfl, hb13⟩
        have B13 : Hid (Below w.heap.size w w13) := Lib.hid (B12.out.trans (hb13.mono B12.out.size))
        clear hb13 B12
        go_wp2_with fail
        go_ret
        exact ⟨rfl, B13.out⟩
      · refine (LX.out _).mono ?_
        rintro e w5 ⟨rfl, hb5⟩
        have B5 : Hid (Below w.heap.size w w5) := Lib.hid (B4.out.trans (hb5.mono B4.out.size))
        clear hb5 B4
        go_wp2_with fail
        refine (RX.out _).mono ?_
        rintro e w6 ⟨rfl, hb6⟩
        have B6 : Hid (Below w.heap.size w w6) := Lib.hid (B5.out.trans (hb6.mono B5.out.size))
        clear hb6 B5
        go_wp2_with fail
        refine (told9_any _).mono ?_
        rintro e w7 ⟨rfl, hb7⟩
        have B7 : Hid (Below w.heap.size w w7) := Lib.hid (B6.out.trans (hb7.mono B6.out.size))
        clear hb7 B6
        go_wp2_with fail
        refine (SX.out _).mono ?_
        rintro e w8 ⟨rfl, hb8⟩
        have B8 : Hid (Below w.heap.size w w8) := Lib.hid (B7.out.trans (hb8.mono B7.out.size))
        clear hb8 B7
        go_wp2_with fail
        refine (SX.out _).mono ?_
        rintro e w9 ⟨rfl, hb9⟩
        have B9 : Hid (Below w.heap.size w w9) := Lib.hid (B8.out.trans (hb9.mono B8.out.size))
        clear hb9 B8
        go_wp2_with fail
        refine (LX.out _).mono ?_
        rintro e w10 ⟨rfl, hb10⟩
        have B10 : Hid (Below w.heap.size w w10) := Lib.hid (B9.out.trans (hb10.mono B9.out.size))
        clear hb10 B9
        go_wp2_with fail
        refine (LX.out _).mono ?_
        rintro e w11 ⟨rfl, hb11⟩
        have B11 : Hid (Below w.heap.size w w11) := Lib.hid (B10.out.trans (hb11.mono B10.out.size))
        clear hb11 B10
        go_wp2_with fail
        refine (RX.out _).mono ?_
        rintro e w12 ⟨rfl, hb12⟩
        have B12 : Hid (Below w.heap.size w w12) := Lib.hid (B11.out.trans (hb12.mono B11.out.size))
        clear hb12 B11
        go_wp2_with fail
        refine (RX.out _).mono ?_
        rintro e w13 ⟨rfl, hb13⟩
        have B13 : Hid (Below w.heap.size w w13) := Lib.hid (B12.out.trans (hb13.mono B12.out.size))
        clear hb13 B12
        go_wp2_with fail
        go_ret
        exact ⟨rfl, B13.out⟩
      · refine (LX.out _).mono ?_
        rintro e w5 ⟨rfl, hb5⟩
        have B5 : Hid (Below w.heap.size w w5) := Lib.hid (B4.out.trans (hb5.mono B4.out.size))
        clear hb5 B4
        go_wp2_with fail
        refine (RX.out _).mono ?_
        rintro e w6 ⟨rfl, hb6⟩
        have B6 : Hid (Below w.heap.size w w6) := Lib.hid (B5.out.trans (hb6.mono B5.out.size))
        clear hb6 B5
        go_wp2_with fail
        refine (told9_any _).mono ?_
        rintro e w7 ⟨rfl, hb7⟩
        have B7 : Hid (Below w.heap.size w w7) := Lib.hid (B6.out.trans (hb7.mono B6.out.size))
        clear hb7 B6
        go_wp2_with fail
        refine (SX.out _).mono ?_
        rintro e w8 ⟨rfl, hb8⟩
        have B8 : Hid (Below w.heap.size w w8) := Lib.hid (B7.out.trans (hb8.mono B7.out.size))
        clear hb8 B7
        go_wp2_with fail
        refine (SX.out _).mono ?_
        rintro e w9 ⟨rfl, hb9⟩
        have B9 : Hid (Below w.heap.size w w9) := Lib.hid (B8.out.trans (hb9.mono B8.out.size))
        clear hb9 B8
        go_wp2_with fail
        refine (LX.out _).mono ?_
        rintro e w10 ⟨rfl, hb10⟩
        have B10 : Hid (Below w.heap.size w w10) := Lib.hid (B9.out.trans (hb10.mono B9.out.size))
        clear hb10 B9
        go_wp2_with fail
        refine (LX.out _).mono ?_
        rintro e w11 ⟨rfl, hb11⟩
        have B11 : Hid (Below w.heap.size w w11) := Lib.hid (B10.out.trans (hb11.mono B10.out.size))
        clear hb11 B10
        go_wp2_with fail
        refine (RX.out _).mono ?_
        rintro e w12 ⟨rfl, hb12⟩
        have B12 : Hid (Below w.heap.size w w12) := Lib.hid (B11.out.trans (hb12.mono B11.out.size))
        clear hb12 B11
        go_wp2_with fail
        refine (RX.out _).mono ?_
        rintro e w13 ⟨rfl, hb13⟩
        have B13 : Hid (Below w.heap.size w w13) := Lib.hid (B12.out.trans (hb13.mono B12.out.size))
        clear hb13 B12
        go_wp2_with fail
        go_ret
        exact ⟨rfl, B13.out⟩
    · have pu : ((p : Int) == (u : Int)) = false := beq_false_of_ne (by omega)
      go_wp2_with fail
      refine (PX.out _).mono ?_
      rintro e w2 ⟨rfl, hb2⟩
      have B2 : Hid (Below w.heap.size w w2) := Lib.hid (B1.out.trans (hb2.mono B1.out.size))
      clear hb2 B1
      go_wp2_with fail
      refine (PY.out _).mono ?_
      rintro e w3 ⟨rfl, hb3⟩
      have B3 : Hid (Below w.heap.size w w3) := Lib.hid (B2.out.trans (hb3.mono B2.out.size))
      clear hb3 B2
      go_wp2_with fail
      rename Hid (Below w.heap.size w w3) => B4
      rcases HD.out with ⟨rfl, rfl, rfl⟩ | ⟨rfl, rfl, rfl⟩ | ⟨rfl, rfl, rfl⟩
      · refine (LX.out _).mono ?_
        rintro e w5 ⟨rfl, hb5⟩
        have B5 : Hid (Below w.heap.size w w5) := Lib.hid (B4.out.trans (hb5.mono B4.out.size))
        clear hb5 B4
        go_wp2_with fail
        refine (RX.out _).mono ?_
        rintro e w6 ⟨rfl, hb6⟩
        have B6 : Hid (Below w.heap.size w w6) := Lib.hid (B5.out.trans (hb6.mono B5.out.size))
        clear hb6 B5
        go_wp2_with fail
        refine (told9_any _).mono ?_
        rintro e w7 ⟨rfl, hb7⟩
        have B7 : Hid (Below w.heap.size w w7) := Lib.hid (B6.out.trans (hb7.mono B6.out.size))
        clear hb7 B6
        go_wp2_with fail
        refine (SX.out _).mono ?_
        rintro e w8 ⟨rfl, hb8⟩
        have B8 : Hid (Below w.heap.size w w8) := Lib.hid (B7.out.trans (hb8.mono B7.out.size))
        clear hb8 B7
        go_wp2_with fail
        refine (SX.out _).mono ?_
        rintro e w9 ⟨rfl, hb9⟩
        have B9 : Hid (Below w.heap.size w w9) := Lib.hid (B8.out.trans (hb9.mono B8.out.size))
        clear hb9 B8
        go_wp2_with fail
        refine (LX.out _).mono ?_
        rintro e w10 ⟨rfl, hb10⟩
        have B10 : Hid (Below w.heap.size w w10) := Lib.hid (B9.out.trans (hb10.mono B9.out.size))
        clear hb10 B9
        go_wp2_with fail
        refine (LX.out _).mono ?_
        rintro e w11 ⟨rfl, hb11⟩
        have B11 : Hid (Below w.heap.size w w11) := Lib.hid (B10.out.trans (hb11.mono B10.out.size))
        clear hb11 B10
        go_wp2_with fail
        refine (RX.out _).mono ?_
        rintro e w12 ⟨rfl, hb12⟩
        have B12 : Hid (Below w.heap.size w w12) := Lib.hid (B11.out.trans (hb12.mono B11.out.size))
        clear hb12 B11
        go_wp2_with fail
        refine (RX.out _).mono ?_
        rintro e w13 ⟨rfl, hb13⟩
        have B13 : Hid (Below w.heap.size w w13) := Lib.hid (B12.out.trans (hb13.mono B12.out.size))
        clear hb13 B12
        go_wp2_with fail
        go_ret
        exact ⟨rfl, B13.out⟩
      · refine (LX.out _).mono ?_
        rintro e w5 ⟨rfl, hb5⟩
        have B5 : Hid (Below w.heap.size w w5) := Lib.hid (B4.out.trans (hb5.mono B4.out.size))
        clear hb5 B4
        go_wp2_with fail
        refine (RX.out _).mono ?_
        rintro e w6 ⟨rfl, hb6⟩
        have B6 : Hid (Below w.heap.size w w6) := Lib.hid (B5.out.trans (hb6.mono B5.out.size))
        clear hb6 B5
        go_wp2_with fail
        refine (told9_any _).mono ?_
        rintro e w7 ⟨rfl, hb7⟩
        have B7 : Hid (Below w.heap.size w w7) := Lib.hid (B6.out.trans (hb7.mono B6.out.size))
        clear hb7 B6
        go_wp2_with fail
        refine (SX.out _).mono ?_
        rintro e w8 ⟨rfl, hb8⟩
        have B8 : Hid (Below w.heap.size w w8) := Lib.hid (B7.out.trans (hb8.mono B7.out.size))
        clear hb8 B7
        go_wp2_with fail
        refine (SX.out _).mono ?_
        rintro e w9 ⟨rfl, hb9⟩
        have B9 : Hid (Below w.heap.size w w9) := Lib.hid (B8.out.trans (hb9.mono B8.out.size))
        clear hb9 B8
        go_wp2_with fail
        refine (LX.out _).mono ?_
        rintro e w10 ⟨rfl, hb10⟩
        have B10 : Hid (Below w.heap.size w w10) := Lib.hid (B9.out.trans (hb10.mono B9.out.size))
        clear hb10 B9
        go_wp2_with fail
        refine (LX.out _).mono ?_
        rintro e w11 ⟨rfl, hb11⟩
        have B11 : Hid (Below w.heap.size w w11) := Lib.hid (B10.out.trans (hb11.mono B10.out.size))
        clear hb11 B10
        go_wp2_with fail
        refine (RX.out _).mono ?_
        rintro e w12 ⟨rfl, hb12⟩
        have B12 : Hid (Below w.heap.size w w12) := Lib.hid (B11.out.trans (hb12.mono B11.out.size))
        clear hb12 B11
        go_wp2_with fail
        refine (RX.out _).mono ?_
        rintro e w13 ⟨rfl, hb13⟩
        have B13 : Hid (Below w.heap.size w w13) := Lib.hid (B12.out.trans (hb13.mono B12.out.size))
        clear hb13 B12
        go_wp2_with fail
        go_ret
        exact ⟨rfl, B13.out⟩
      · refine (LX.out _).mono ?_
        rintro e w5 ⟨rfl, hb5⟩
        have B5 : Hid (Below w.heap.size w w5) := Lib.hid (B4.out.trans (hb5.mono B4.out.size))
        clear hb5 B4
        go_wp2_with fail
        refine (RX.out _).mono ?_
        rintro e w6 ⟨rfl, hb6⟩
        have B6 : Hid (Below w.heap.size w w6) := Lib.hid (B5.out.trans (hb6.mono B5.out.size))
        clear hb6 B5
        go_wp2_with fail
        refine (told9_any _).mono ?_
        rintro e w7 ⟨rfl, hb7⟩
        have B7 : Hid (Below w.heap.size w w7) := Lib.hid (B6.out.trans (hb7.mono B6.out.size))
        clear hb7 B6
        go_wp2_with fail
        refine (SX.out _).mono ?_
        rintro e w8 ⟨rfl, hb8⟩
        have B8 : Hid (Below w.heap.size w w8) := Lib.hid (B7.out.trans (hb8.mono B7.out.size))
        clear hb8 B7
        go_wp2_with fail
        refine (SX.out _).mono ?_
        rintro e w9 ⟨rfl, hb9⟩
        have B9 : Hid (Below w.heap.size w w9) := Lib.hid (B8.out.trans (hb9.mono B8.out.size))
        clear hb9 B8
        go_wp2_with fail
        refine (LX.out _).mono ?_
        rintro e w10 ⟨rfl, hb10⟩
        have B10 : Hid (Below w.heap.size w w10) := Lib.hid (B9.out.trans (hb10.mono B9.out.size))
        clear hb10 B9
        go_wp2_with fail
        refine (LX.out _).mono ?_
        rintro e w11 ⟨rfl, hb11⟩
        have B11 : Hid (Below w.heap.size w w11) := Lib.hid (B10.out.trans (hb11.mono B10.out.size))
        clear hb11 B10
        go_wp2_with fail
        refine (RX.out _).mono ?_
        rintro e w12 ⟨rfl, hb12⟩
        have B12 : Hid (Below w.heap.size w w12) := Lib.hid (B11.out.trans (hb12.mono B11.out.size))
        clear hb12 B11
        go_wp2_with fail
        refine (RX.out _).mono ?_
        rintro e w13 ⟨rfl, hb13⟩
        have B13 : Hid (Below w.heap.size w w13) := Lib.hid (B12.out.trans (hb13.mono B12.out.size))
        clear hb13 B12
        go_wp2_with fail
        go_ret
        exact ⟨rfl, B13.out⟩
set_option maxRecDepth 100000 in
theorem lifted (os : Os) (started : os.Started) (H : Type) (enc : TypeId × Value → H) :
    ReturnsInHanded {} Try.checked os 4 .any (Rows.opsSidesSpec.pre6 enc Try.prog Try.f4 Rows.opsSidesRow.domain false) (Rows.opsSidesSpec.post enc Try.prog Try.f4 false true false false) := by
  refine returnsInHanded_of_change (C := Try.checked) ownKnobNone started (by kernel_rfl) Try.func4
    (ChangeSpec.witness6 (enc := enc) (C := Try.checked) false ⟨#[], #[.int .i64 0, .int .i64 0], []⟩ 8 (by kernel_rfl) (by kernel_rfl) (by kernel_rfl) (by kernel_rfl)) ?_
  intro W base args ds gs before hval0 hW hcnd _
  have hval : ∀ (j : Nat) t v, Try.f4.params[j]? = some t → args[j]? = some v → Value.okWide Try.prog W .any base t v := hval0
  have hW' := hW
  obtain ⟨p, q, hA0, hV, rfl, hfz, hnd⟩ := hW
  have hA : DataW.TrodAll enc Try.prog W 0 (fun _ => true) true Try.f4.params.toList args.toList ds p := hA0
  rw [Try.params4] at hA hval
  obtain ⟨v0, vs0, d0, ds0, p0, q0, hargs, rfl, rfl, h0, r0⟩ := trodAll_cons hA
  obtain ⟨v1, vs1, d1, ds1, p1, q1, rfl, rfl, rfl, h1, r1⟩ := trodAll_cons r0
  obtain ⟨rfl, rfl, rfl⟩ := trodAll_nil r1
  obtain rfl : args = #[v0, v1] := by cases args; simp_all
  obtain ⟨rfl, rfl⟩ := trodVars_none hV
  obtain ⟨a0, rfl, rfl, rfl, w0⟩ := open_int Try.underlying3 (hval 0 3 v0 rfl rfl) h0
  obtain ⟨a1, rfl, rfl, rfl, w1⟩ := open_int Try.underlying3 (hval 1 3 v1 rfl rfl) h1
  clear hA0 hval0
  simp only [List.append_nil] at hW'
  refine (walk a0 a1 W).mono fun e W' ⟨he, bel⟩ => ?_
  subst he
  exact ⟨_, rfl, _, _, _, [], _, [], hW', trodAll_mk1 (shut_bool Try.underlying4 _), (trodAll_cons_mk (shut_int Try.underlying3 w0) (trodAll_cons_mk (shut_int Try.underlying3 w1) trodAll_mk0)), rfl, bel.frame _, fun h => by cases h⟩
theorem over : Rows.OpsSidesSaid :=
  OpenClaim.holds_of_wide 4 Try.f4 rfl rfl rfl rfl rfl rfl rfl ⟨rfl, rfl, rfl, rfl, rfl⟩ rfl rfl rfl rfl rfl (by kernel_rfl) Try.func4 (by kernel_rfl)
    (of_decide_eq_true (by kernel_rfl)) (by unfold Func.isWrapper; first | (rw [if_pos (by decide +kernel)]; kernel_rfl) | (rw [if_neg (by decide +kernel)]; exact ⟨rfl, rfl⟩))
    (fun os started H enc _ => lifted os started H enc)
/-- THE STATEMENT. -/
theorem proved : Rows.OpsSidesSaid := over
#print axioms proved
end Go.Proofs.Ytbinennnddfplaa.opsSides
