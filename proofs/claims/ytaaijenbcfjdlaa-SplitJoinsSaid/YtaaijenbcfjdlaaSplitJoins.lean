/-
  Two texts of whole forms, one behind the other, have both's items (promise 8.1): for every two texts the statement SplitJoins returns true. No condition.
-/
import Derived.Test.YtaaijenbcfjdlaaBase
import Derived.Test.YtaaijenbcfjdlaaSplitTold
import Derived.Test.YtaaijenbcfjdlaaSplitJoin
namespace Go.Proofs.Ytaaijenbcfjdlaa.splitJoins
open Go.ChangeShapes Go.WideShapes Go.ChangeAt Go.RowKit Go.PlainAid

theorem itAt_front {W : World} {a : Option Addr} {cap : Nat} {I J : List It} (h : ItAt W (.slice a (I ++ J).length cap) (I ++ J)) : ItAt W (.slice a I.length cap) I := by
  obtain ⟨a', cap', h1, h2⟩ := h
  simp only [Value.slice.injEq] at h1
  obtain ⟨rfl, -, rfl⟩ := h1
  refine ⟨a, cap, rfl, fun h0 => ?_⟩
  obtain ⟨g, g1, g2, g3⟩ := h2 (by rw [List.length_append]; omega)
  exact ⟨g, g1, g2, fun i y hy => g3 i y (by rw [List.getElem?_append_left (List.getElem?_eq_some_iff.1 hy).1]; exact hy)⟩
set_option maxRecDepth 100000 in
set_option maxHeartbeats 8000000 in
theorem walk (a : ByteArray) (_ : a.size ≤ maxLen) (b : ByteArray) (_ : b.size ≤ maxLen) (w : World) :
    Calls Try.prog 5 #[.string a, .string b] w fun e w' => e = .returned (.bool true) ∧ Below w.heap.size w w' := by
  by_cases g1 : (500 : Int) < (a.size : Int)
  · go_enter Try.func5, Try.ntmps5
    go_wp2_with fail
    refine (told8_any _).mono ?_
    rintro e w1 ⟨rfl, hb1⟩
    have B1 := Lib.hid hb1
    clear hb1
    go_wp2_with fail
    go_ret
    exact ⟨rfl, B1.out⟩
  by_cases g2 : (500 : Int) < (b.size : Int)
  · go_enter Try.func5, Try.ntmps5
    go_wp2_with fail
    refine (told8_any _).mono ?_
    rintro e w1 ⟨rfl, hb1⟩
    have B1 := Lib.hid hb1
    clear hb1
    go_wp2_with fail
    go_ret
    exact ⟨rfl, B1.out⟩
  have hz4 : ({ data := #[32, 120, 46, 10] } : ByteArray).size = 4 := rfl
  obtain ⟨A, hA⟩ : ∃ A : ByteArray, A = a ++ { data := #[32, 120, 46, 10] } := ⟨_, rfl⟩
  have hAs : A.size = a.size + 4 := by rw [hA, ByteArray.size_append, hz4]
  have hAn : bt A (A.size - 1) = 10 := by rw [hAs, hA, show a.size + 4 - 1 = a.size + 3 by omega, bt_app_r]; decide
  obtain ⟨L, c, hL⟩ : ∃ L c, scanR A = (L, c) := ⟨_, _, rfl⟩
  obtain ⟨M, d, hM⟩ : ∃ L c, scanR b = (L, c) := ⟨_, _, rfl⟩
  obtain ⟨Q, q, hQ⟩ : ∃ L c, scanR (A ++ b) = (L, c) := ⟨_, _, rfl⟩
  have zab : (A ++ b).size ≤ 1100 := by rw [ByteArray.size_append]; omega
  have HS1 := Lib.hid (fun W => rscan_is A L c hL (by omega) W)
  have HS2 := Lib.hid (fun W => rscan_is b M d hM (by omega) W)
  have HS3 := Lib.hid (fun W => rscan_is (A ++ b) Q q hQ (by omega) W)
  have HA := Lib.hid hA
  by_cases hc : c = 0
  · by_cases hd : d = 0
    · subst hc hd
      have hj := joinN_is (A := A) (c := b) (by omega) hAn hL hM (by omega)
      rw [hQ] at hj
      obtain ⟨rfl, rfl⟩ := Prod.mk.inj hj
      obtain ⟨-, -, sL⟩ := scan_good hL
      obtain ⟨-, -, sM⟩ := scan_good hM
      obtain ⟨-, -, sQ⟩ := scan_good hQ
      have hl1 : L.length ≤ 504 := by
        have h : (scanR A).1.length ≤ A.size := scan_len A
        rw [hL] at h; exact Nat.le_trans h (by omega)
      have hl2 : M.length ≤ 500 := by
        have h : (scanR b).1.length ≤ b.size := scan_len b
        rw [hM] at h; exact Nat.le_trans h (by omega)
      have hl3 : (L ++ shf A.size M).length ≤ 1100 := by rw [List.length_append, shf_len]; omega
      have hP1 := Lib.hid (fun v W h => split_any8 sL (by omega) (by omega) v W h)
      have hP2 := Lib.hid (fun v W h => split_any8 sM (by omega) (by omega) v W h)
      have hP3 := Lib.hid (fun v W h => split_any8 sQ (by omega) (by omega) v W h)
      have HJ := Lib.hid (fun (h : ∀ y ∈ sp A L 0, Closed L y.1) => sp_join (s := A) (c := b) (L := L) (M := M) sL h)
      have hc1 : ∀ z : Tk3, L[L.length - 1]? = some z → z.1 = 10 → ∀ y ∈ sp A L 0, Closed L y.1 := fun z h1 h2 y hy => by
        obtain ⟨j, hj⟩ := List.getElem?_of_mem hy
        exact closed_dot (sp_each A L _ 0 (Nat.le_refl _) j y hj).2.2.2.2.1 h1 h2
      have HC1 := Lib.hid hc1
      have i1 := sp_len A L _ 0 (Nat.le_refl _)
      have i2 := sp_len b M _ 0 (Nat.le_refl _)
      have HFT := Lib.hid (fun j (y : It) (hy : (sp b M 0)[j]? = some y) => (⟨Nat.le_of_lt (sp_each b M _ 0 (Nat.le_refl _) j y hy).2.2.2.2.1, (sp_each b M _ 0 (Nat.le_refl _) j y hy).2.2.2.2.2.1⟩ : y.1 ≤ M.length ∧ y.2.1 ≤ M.length))
      obtain ⟨I1, hI1⟩ : ∃ I, I = sp A L 0 := ⟨_, rfl⟩
      obtain ⟨I2, hI2⟩ : ∃ I, I = sp b M 0 := ⟨_, rfl⟩
      obtain ⟨I3, hI3⟩ : ∃ I, I = sp (A ++ b) (L ++ shf A.size M) 0 := ⟨_, rfl⟩
      rw [← hI1] at hP1 HJ HC1 i1
      rw [← hI2] at hP2 HJ i2 HFT
      rw [← hI3] at hP3 HJ
      have HIT := Lib.hid (fun W va vb h1 h2 => items_same I1 va vb (by omega) W h1 h2)
      clear hL hM hQ sL sM sQ hI1 hI2 hI3 hc1
      subst hA
      go_enter Try.func5, Try.ntmps5
      go_wp2_with fail
      refine (HS1.out _).mono ?_
      rintro e w1 ⟨v1, rfl, ha1, hb1⟩
      have A1 := Lib.hid (trow_of ha1)
      have B1 := Lib.hid hb1
      clear hb1 ha1
      go_wp2_with fail
      refine (HS2.out _).mono ?_
      rintro e w2 ⟨v2, rfl, ha2, hb2⟩
      have A2 := Lib.hid (trow_of ha2)
      have A12 := Lib.hid (A1.out.below hb2)
      have B2 : Hid (Below w.heap.size w w2) := Lib.hid (B1.out.trans (hb2.mono B1.out.size))
      clear hb2 ha2
      go_wp2_with fail
      refine (HS3.out _).mono ?_
      rintro e w3 ⟨v3, rfl, ha3, hb3⟩
      have A3 := Lib.hid (trow_of ha3)
      have A13 := Lib.hid (A12.out.below hb3)
      have A23 := Lib.hid (A2.out.below hb3)
      have B3 : Hid (Below w.heap.size w w3) := Lib.hid (B2.out.trans (hb3.mono B2.out.size))
      obtain ⟨al, cl, rfl, hrl⟩ := A13.out
      have hrl2 : 0 < L.length → ∃ g o, al = some ⟨g, o, none⟩ ∧ g < w3.heap.size ∧ ∀ (i : Nat) (x : Tk3), L[i]? = some x → w3.cell? ⟨g, o + i * 3, none⟩ = some (.int .i64 x.1) := fun h0 => by
        obtain ⟨g, o, h1, h2, h3⟩ := hrl (by rw [toks_len]; exact h0)
        exact ⟨g, o, h1, h2, fun i x hx => (h3 i _ (toks_at hx)).1⟩
      have HRL := Lib.hid hrl2
      rw [toks_len] at A13 ⊢
      clear hb3 ha3 hrl hrl2 A1 A12 A2
      go_wp2_with fail
      refine (hP1.out _ _ A13.out).mono ?_
      rintro e w4 ⟨vx, rfl, h4⟩
      have X4 := Lib.hid (itAt_of h4)
      have B34 := Lib.hid h4.2
      clear h4
      go_wp2_with fail
      refine (hP2.out _ _ (A23.out.below B34.out)).mono ?_
      rintro e w5 ⟨vy, rfl, h5⟩
      have Y5 := Lib.hid (itAt_of h5)
      have X5 := Lib.hid (X4.out.below h5.2)
      have B35 : Hid (Below w3.heap.size w3 w5) := Lib.hid (B34.out.trans (h5.2.mono B34.out.size))
      clear h5
      go_wp2_with fail
      refine (hP3.out _ _ (A3.out.below B35.out)).mono ?_
      rintro e w6 ⟨vz, rfl, h6⟩
      have Z6 := Lib.hid (itAt_of h6)
      have X6 := Lib.hid (X5.out.below h6.2)
      have Y6 := Lib.hid (Y5.out.below h6.2)
      have B36 : Hid (Below w3.heap.size w3 w6) := Lib.hid (B35.out.trans (h6.2.mono B35.out.size))
      have B6 : Hid (Below w.heap.size w w6) := Lib.hid (B3.out.trans (B36.out.mono B3.out.size))
      obtain ⟨ax, cx, rfl, hrx⟩ := X6.out
      obtain ⟨ay, cy, rfl, hry⟩ := Y6.out
      obtain ⟨az, cz, rfl, hrz⟩ := Z6.out
      have hcap := ik_cap h6
      have HRY := Lib.hid hry
      have HRZ := Lib.hid hrz
      clear h6 hrx hry hrz X4 X5 Y5
      obtain ⟨N, hN⟩ : ∃ N, N = L.length := ⟨_, rfl⟩
      have HN := Lib.hid hN
      rw [← hN] at hl1 i1 HRL A13 HJ HC1 ⊢
      clear hN
      by_cases h0 : N = 0
      · subst h0
        go_wp2_with fail
        refine (told8_any _).mono ?_
        rintro e w7 ⟨rfl, hb7⟩
        have B7 : Hid (Below w.heap.size w w7) := Lib.hid (B6.out.trans (hb7.mono B6.out.size))
        clear hb7
        go_wp2_with fail
        go_ret
        exact ⟨rfl, B7.out⟩
      · obtain ⟨k, rfl⟩ : ∃ k, N = k + 1 := ⟨N - 1, by omega⟩
        obtain ⟨z, hz⟩ : ∃ z, L[k]? = some z := ⟨_, List.getElem?_eq_getElem (by rw [← HN.out]; omega)⟩
        obtain ⟨gl, ol, rfl, hgl, hcl⟩ := HRL.out (by omega)
        have ck := (B36.out.cell (p := ⟨gl, ol + k * 3, none⟩) hgl).trans (hcl k z hz)
        have HCZ := Lib.hid (HC1.out z (by rw [Nat.add_sub_cancel]; exact hz))
        obtain ⟨Kz, za, ze⟩ := z
        simp only at ck HCZ
        have n0 : (((k + 1 : Nat) : Int) == 0) = false := beq_false_of_ne (by omega)
        have n1 : ((k : Int) + 1 == 0) = false := beq_false_of_ne (by omega)
        have kN : (k : Int) < (k : Int) + 1 := by omega
        clear hz hcl
        by_cases hK : Kz = 10
        · obtain ⟨W, hW1, hW2, hW3⟩ := HJ.out (HCZ.out hK)
          have hKn : (Kz != 10) = false := by rw [hK]; rfl
          have hzl : I3.length = I1.length + I2.length := by rw [hW1, List.length_append, hW2]
          have HW1 := Lib.hid hW1
          have HW3 := Lib.hid hW3
          have hfr : ItAt w6 (.slice az I1.length cz) I1 := by
            have := Z6.out
            rw [hW1] at this
            exact itAt_front this
          have HFR := Lib.hid hfr
          rw [hzl] at hcap HRZ ⊢
          obtain ⟨n1', hn1⟩ : ∃ n, n = I1.length := ⟨_, rfl⟩
          obtain ⟨n2', hn2⟩ : ∃ n, n = I2.length := ⟨_, rfl⟩
          rw [← hn1] at hcap HRZ i1 HFR X6 ⊢
          rw [← hn2] at hcap HRZ HRY i2 ⊢
          have HN1 := Lib.hid hn1
          have HN2 := Lib.hid hn2
          have q1 : ((n1' : Int) + (n2' : Int) != (n1' : Int) + (n2' : Int)) = false := by simp
          have q2 : (n1' : Int) ≤ (cz : Int) := by omega
          have q3 : (0 : Int) ≤ (n1' : Int) := by omega
          clear hn1 hn2 hW1 hW2 hW3 hzl hfr hK
          go_wp2_with fail
          refine (HIT.out _ _ _ HFR.out X6.out).mono ?_
          rintro e w7 ⟨rfl, n7, rfl⟩
          go_wp2_with fail
          go_loopg [14] n2' (fun gn i wr => ∃ (j : Nat), gn = n2' - j ∧ j ≤ n2' ∧ i = .int .i64 (j : Int) ∧ Hid (Below w6.heap.size w6 wr))
          case atStart => exact ⟨0, rfl, Nat.zero_le _, rfl, Lib.hid (drew_below _ _)⟩
          case round =>
            obtain ⟨j, hgn, hj, rfl, HW⟩ := hrel
            by_cases hlt : j < n2'
            · obtain ⟨u, hu⟩ : ∃ u, I2[j]? = some u := ⟨_, List.getElem?_eq_getElem (by rw [← HN2.out]; exact hlt)⟩
              have hw := HW3.out j u hu
              have HU := Lib.hid hu
              have h3 : I3[n1' + j]? = W[j]? := by rw [HW1.out, List.getElem?_append_right (by rw [HN1.out]; omega), HN1.out, Nat.add_sub_cancel_left]
              rw [hw] at h3
              obtain ⟨gy, rfl, hgy, hcy⟩ := HRY.out (by omega)
              obtain ⟨gz, rfl, hgz, hcz⟩ := HRZ.out (by omega)
              obtain ⟨y0, y1, y2, y3⟩ := hcy j u hu
              obtain ⟨z0, z1, z2, z3⟩ := hcz (n1' + j) _ h3
              obtain ⟨F, T, nt, bk⟩ := u
              simp only at y0 y1 y2 y3 z0 z1 z2 z3
              obtain ⟨bz, hbz⟩ : ∃ bz, bz = if j = 0 then decide (2 ≤ nls (a ++ { data := #[32, 120, 46, 10] } ++ b) (L ++ shf (a ++ { data := #[32, 120, 46, 10] }).size M) ((k + 1 : Nat) : Int)) else bk := ⟨_, rfl⟩
              rw [← hbz] at z3
              rw [show ((k + 1 + F : Nat) : Int) = (F : Int) + ((k : Int) + 1) by omega] at z0
              rw [show ((k + 1 + T : Nat) : Int) = (T : Int) + ((k : Int) + 1) by omega] at z1
              have Z0 := (HW.out.cell (p := ⟨gz, (n1' + j) * 4, none⟩) hgz).trans z0
              have Z1 := (HW.out.cell (p := ⟨gz, (n1' + j) * 4 + 1, none⟩) hgz).trans z1
              have Z2 := (HW.out.cell (p := ⟨gz, (n1' + j) * 4 + 2, none⟩) hgz).trans z2
              have Z3 := (HW.out.cell (p := ⟨gz, (n1' + j) * 4 + 3, none⟩) hgz).trans z3
              have hgy2 : gy < wr.heap.size := Nat.lt_of_lt_of_le hgy HW.out.size
              have Y0 : (wr.alloc (.cells #[.int .i64 ((F : Int) + ((k : Int) + 1)), .int .i64 ((T : Int) + ((k : Int) + 1)), .bool nt, .bool bz] 23)).cell? ⟨gy, j * 4, none⟩ = some (.int .i64 (F : Int)) := by rw [World.cell?_alloc_past _ _ _ hgy2]; exact (HW.out.cell (p := ⟨gy, j * 4, none⟩) hgy).trans y0
              have Y1 : (wr.alloc (.cells #[.int .i64 ((F : Int) + ((k : Int) + 1)), .int .i64 ((T : Int) + ((k : Int) + 1)), .bool nt, .bool bz] 23)).cell? ⟨gy, j * 4 + 1, none⟩ = some (.int .i64 (T : Int)) := by rw [World.cell?_alloc_past _ _ _ hgy2]; exact (HW.out.cell (p := ⟨gy, j * 4 + 1, none⟩) hgy).trans y1
              have Y2 : (wr.alloc (.cells #[.int .i64 ((F : Int) + ((k : Int) + 1)), .int .i64 ((T : Int) + ((k : Int) + 1)), .bool nt, .bool bz] 23)).cell? ⟨gy, j * 4 + 2, none⟩ = some (.bool nt) := by rw [World.cell?_alloc_past _ _ _ hgy2]; exact (HW.out.cell (p := ⟨gy, j * 4 + 2, none⟩) hgy).trans y2
              have Y3 : (wr.alloc (.cells #[.int .i64 ((F : Int) + ((k : Int) + 1)), .int .i64 ((T : Int) + ((k : Int) + 1)), .bool nt, .bool bz] 23)).cell? ⟨gy, j * 4 + 3, none⟩ = some (.bool bk) := by rw [World.cell?_alloc_past _ _ _ hgy2]; exact (HW.out.cell (p := ⟨gy, j * 4 + 3, none⟩) hgy).trans y3
              have X0 : (wr.alloc (.cells #[.int .i64 ((F : Int) + ((k : Int) + 1)), .int .i64 ((T : Int) + ((k : Int) + 1)), .bool nt, .bool bz] 23)).cell? ⟨wr.heap.size, 0, none⟩ = some (.int .i64 ((F : Int) + ((k : Int) + 1))) := by simp
              have X1 : (wr.alloc (.cells #[.int .i64 ((F : Int) + ((k : Int) + 1)), .int .i64 ((T : Int) + ((k : Int) + 1)), .bool nt, .bool bz] 23)).cell? ⟨wr.heap.size, 1, none⟩ = some (.int .i64 ((T : Int) + ((k : Int) + 1))) := by simp
              have X2 : (wr.alloc (.cells #[.int .i64 ((F : Int) + ((k : Int) + 1)), .int .i64 ((T : Int) + ((k : Int) + 1)), .bool nt, .bool bz] 23)).cell? ⟨wr.heap.size, 2, none⟩ = some (.bool nt) := by simp
              have X3 : (wr.alloc (.cells #[.int .i64 ((F : Int) + ((k : Int) + 1)), .int .i64 ((T : Int) + ((k : Int) + 1)), .bool nt, .bool bz] 23)).cell? ⟨wr.heap.size, 3, none⟩ = some (.bool bz) := by simp
              have C := Lib.hid (fun W (hb : Below (wr.alloc (.cells #[.int .i64 ((F : Int) + ((k : Int) + 1)), .int .i64 ((T : Int) + ((k : Int) + 1)), .bool nt, .bool bz] 23)).heap.size (wr.alloc (.cells #[.int .i64 ((F : Int) + ((k : Int) + 1)), .int .i64 ((T : Int) + ((k : Int) + 1)), .bool nt, .bool bz] 23)) W) => (⟨(hb.cell (p := ⟨wr.heap.size, 0, none⟩) (by simp)).trans X0, (hb.cell (p := ⟨wr.heap.size, 1, none⟩) (by simp)).trans X1, (hb.cell (p := ⟨wr.heap.size, 2, none⟩) (by simp)).trans X2, (hb.cell (p := ⟨wr.heap.size, 3, none⟩) (by simp)).trans X3, (hb.cell (p := ⟨gy, j * 4, none⟩) (by simp; omega)).trans Y0, (hb.cell (p := ⟨gy, j * 4 + 1, none⟩) (by simp; omega)).trans Y1, (hb.cell (p := ⟨gy, j * 4 + 2, none⟩) (by simp; omega)).trans Y2, (hb.cell (p := ⟨gy, j * 4 + 3, none⟩) (by simp; omega)).trans Y3, Lib.hid hb⟩ : W.cell? ⟨wr.heap.size, 0, none⟩ = some (.int .i64 ((F : Int) + ((k : Int) + 1))) ∧ W.cell? ⟨wr.heap.size, 1, none⟩ = some (.int .i64 ((T : Int) + ((k : Int) + 1))) ∧ W.cell? ⟨wr.heap.size, 2, none⟩ = some (.bool nt) ∧ W.cell? ⟨wr.heap.size, 3, none⟩ = some (.bool bz) ∧ W.cell? ⟨gy, j * 4, none⟩ = some (.int .i64 (F : Int)) ∧ W.cell? ⟨gy, j * 4 + 1, none⟩ = some (.int .i64 (T : Int)) ∧ W.cell? ⟨gy, j * 4 + 2, none⟩ = some (.bool nt) ∧ W.cell? ⟨gy, j * 4 + 3, none⟩ = some (.bool bk) ∧ Hid (Below (wr.alloc (.cells #[.int .i64 ((F : Int) + ((k : Int) + 1)), .int .i64 ((T : Int) + ((k : Int) + 1)), .bool nt, .bool bz] 23)).heap.size (wr.alloc (.cells #[.int .i64 ((F : Int) + ((k : Int) + 1)), .int .i64 ((T : Int) + ((k : Int) + 1)), .bool nt, .bool bz] 23)) W)))
              have HW3 : Hid (Below (wr.alloc (.cells #[.int .i64 ((F : Int) + ((k : Int) + 1)), .int .i64 ((T : Int) + ((k : Int) + 1)), .bool nt, .bool bz] 23)).heap.size (wr.alloc (.cells #[.int .i64 ((F : Int) + ((k : Int) + 1)), .int .i64 ((T : Int) + ((k : Int) + 1)), .bool nt, .bool bz] 23)) (wr.alloc (.cells #[.int .i64 ((F : Int) + ((k : Int) + 1)), .int .i64 ((T : Int) + ((k : Int) + 1)), .bool nt, .bool bz] 23)).drew) := Lib.hid (Below.drew (Below.refl _ _))
              have jn : (j : Int) < (n2' : Int) := by omega
              have jz : (n1' : Int) + (j : Int) < (n1' : Int) + (n2' : Int) := by omega
              have e0 : ((F : Int) + ((k : Int) + 1) != (F : Int) + ((k : Int) + 1)) = false := by simp
              have e1 : ((T : Int) + ((k : Int) + 1) != (T : Int) + ((k : Int) + 1)) = false := by simp
              have e2 : (nt != nt) = false := by simp
              have HW9 : Hid (Below w6.heap.size w6 (wr.alloc (.cells #[.int .i64 ((F : Int) + ((k : Int) + 1)), .int .i64 ((T : Int) + ((k : Int) + 1)), .bool nt, .bool bz] 23))) := Lib.hid (HW.out.alloc HW.out.size _)
              have HBZ := Lib.hid hbz
              clear hcy hcz hu hw h3 hbz y0 y1 y2 y3 z0 z1 z2 z3
              have hFb : F ≤ M.length ∧ T ≤ M.length := HFT.out j _ HU.out
              have k1 : IntKind.i64.wrap ((F : Int) + ((k : Int) + 1)) = (F : Int) + ((k : Int) + 1) := by rw [IntKind.wrap_i64]; omega
              have k2 : IntKind.i64.wrap ((T : Int) + ((k : Int) + 1)) = (T : Int) + ((k : Int) + 1) := by rw [IntKind.wrap_i64]; omega
              have e0' : ((F : Int) + ((k : Int) + 1) != IntKind.i64.wrap ((F : Int) + ((k : Int) + 1))) = false := by rw [k1]; simp
              have e1' : ((T : Int) + ((k : Int) + 1) != IntKind.i64.wrap ((T : Int) + ((k : Int) + 1))) = false := by rw [k2]; simp
              by_cases hj0 : j = 0
              · have d0 : decide ((0 : Int) < (j : Int)) = false := decide_eq_false (by omega)
                have d1 : decide (0 < j) = false := decide_eq_false (by omega)
                clear hj0
                go_wp2_with fail
                go_quiet (fail)
                go_wp2_with fail
                go_roundg (n2' - (j + 1))
                case measure => omega
                case rel => exact ⟨j + 1, rfl, hlt, by go_num, Lib.hid (HW9.out.trans ((drew_below _ _).mono HW9.out.size))⟩
              · have d0 : decide ((0 : Int) < (j : Int)) = true := decide_eq_true (by omega)
                have d1 : decide (0 < j) = true := decide_eq_true (by omega)
                have hbk : bz = bk := by rw [HBZ.out, if_neg hj0]
                subst hbk
                have e3 : (bz != bz) = false := by simp
                clear hj0
                go_wp2_with fail
                go_quiet (fail)
                go_wp2_with fail
                go_roundg (n2' - (j + 1))
                case measure => omega
                case rel => exact ⟨j + 1, rfl, hlt, by go_num, Lib.hid (HW9.out.trans ((drew_below _ _).mono HW9.out.size))⟩
            · obtain rfl : j = n2' := by omega
              have B9 : Hid (Below w.heap.size w wr) := Lib.hid (B6.out.trans (HW.out.mono B6.out.size))
              go_wp2_with fail
              refine (told8_any _).mono ?_
              rintro e w9 ⟨rfl, hb9⟩
              have B10 : Hid (Below w.heap.size w w9) := Lib.hid (B9.out.trans (hb9.mono B9.out.size))
              clear hb9
              go_wp2_with fail
              go_ret
              exact ⟨rfl, B10.out⟩
        · have hKn : (Kz != 10) = true := by simpa using hK
          clear hK
          go_wp2_with fail
          refine (told8_any _).mono ?_
          rintro e w7 ⟨rfl, hb7⟩
          have B7 : Hid (Below w.heap.size w w7) := Lib.hid (B6.out.trans (hb7.mono B6.out.size))
          clear hb7
          go_wp2_with fail
          go_ret
          exact ⟨rfl, B7.out⟩
    · have hcn : (d != 0) = true := by simpa using hd
      subst hc
      clear hL hM hQ hd
      subst hA
      go_enter Try.func5, Try.ntmps5
      go_wp2_with fail
      refine (HS1.out _).mono ?_
      rintro e w1 ⟨v1, rfl, -, hb1⟩
      have B1 := Lib.hid hb1
      clear hb1
      go_wp2_with fail
      refine (HS2.out _).mono ?_
      rintro e w2 ⟨v2, rfl, -, hb2⟩
      have B2 : Hid (Below w.heap.size w w2) := Lib.hid (B1.out.trans (hb2.mono B1.out.size))
      clear hb2
      go_wp2_with fail
      refine (HS3.out _).mono ?_
      rintro e w3 ⟨v3, rfl, -, hb3⟩
      have B3 : Hid (Below w.heap.size w w3) := Lib.hid (B2.out.trans (hb3.mono B2.out.size))
      clear hb3
      go_wp2_with fail
      refine (told8_any _).mono ?_
      rintro e w4 ⟨rfl, hb4⟩
      have B4 : Hid (Below w.heap.size w w4) := Lib.hid (B3.out.trans (hb4.mono B3.out.size))
      clear hb4
      go_wp2_with fail
      go_ret
      exact ⟨rfl, B4.out⟩
  · have hcn : (c != 0) = true := by simpa using hc
    clear hL hM hQ hc
    subst hA
    go_enter Try.func5, Try.ntmps5
    go_wp2_with fail
    refine (HS1.out _).mono ?_
    rintro e w1 ⟨v1, rfl, -, hb1⟩
    have B1 := Lib.hid hb1
    clear hb1
    go_wp2_with fail
    refine (HS2.out _).mono ?_
    rintro e w2 ⟨v2, rfl, -, hb2⟩
    have B2 : Hid (Below w.heap.size w w2) := Lib.hid (B1.out.trans (hb2.mono B1.out.size))
    clear hb2
    go_wp2_with fail
    refine (HS3.out _).mono ?_
    rintro e w3 ⟨v3, rfl, -, hb3⟩
    have B3 : Hid (Below w.heap.size w w3) := Lib.hid (B2.out.trans (hb3.mono B2.out.size))
    clear hb3
    go_wp2_with fail
    refine (told8_any _).mono ?_
    rintro e w4 ⟨rfl, hb4⟩
    have B4 : Hid (Below w.heap.size w w4) := Lib.hid (B3.out.trans (hb4.mono B3.out.size))
    clear hb4
    go_wp2_with fail
    go_ret
    exact ⟨rfl, B4.out⟩
set_option maxRecDepth 100000 in
theorem lifted (os : Os) (started : os.Started) (H : Type) (enc : TypeId × Value → H) :
    ReturnsInHanded {} Try.checked os 5 .any (Rows.splitJoinsSpec.pre6 enc Try.prog Try.f5 Rows.splitJoinsRow.domain false) (Rows.splitJoinsSpec.post enc Try.prog Try.f5 false true false false) := by
  refine returnsInHanded_of_change (C := Try.checked) ownKnobNone started (by kernel_rfl) Try.func5
    (ChangeSpec.witness6 (enc := enc) (C := Try.checked) false ⟨#[], #[.string ByteArray.empty, .string ByteArray.empty], []⟩ 8 (by kernel_rfl) (by kernel_rfl) (by kernel_rfl) (by kernel_rfl)) ?_
  intro W base args ds gs before hval0 hW hcnd _
  have hval : ∀ (j : Nat) t v, Try.f5.params[j]? = some t → args[j]? = some v → Value.okWide Try.prog W .any base t v := hval0
  have hW' := hW
  obtain ⟨p, q, hA0, hV, rfl, hfz, hnd⟩ := hW
  have hA : DataW.TrodAll enc Try.prog W 0 (fun _ => true) true Try.f5.params.toList args.toList ds p := hA0
  rw [Try.params5] at hA hval
  obtain ⟨v0, vs0, d0, ds0, p0, q0, hargs, rfl, rfl, h0, r0⟩ := trodAll_cons hA
  obtain ⟨v1, vs1, d1, ds1, p1, q1, rfl, rfl, rfl, h1, r1⟩ := trodAll_cons r0
  obtain ⟨rfl, rfl, rfl⟩ := trodAll_nil r1
  obtain rfl : args = #[v0, v1] := by cases args; simp_all
  obtain ⟨rfl, rfl⟩ := trodVars_none hV
  obtain ⟨a0, rfl, rfl, rfl, w0⟩ := Go.ChangeMaps.open_string Try.underlying9 (hval 0 9 v0 rfl rfl) h0
  obtain ⟨a1, rfl, rfl, rfl, w1⟩ := Go.ChangeMaps.open_string Try.underlying9 (hval 1 9 v1 rfl rfl) h1
  clear hA0 hval0
  simp only [List.append_nil] at hW'
  refine (walk a0 w0 a1 w1 W).mono fun e W' ⟨he, bel⟩ => ?_
  subst he
  exact ⟨_, rfl, _, _, _, [], _, [], hW', trodAll_mk1 (shut_bool Try.underlying4 _), (trodAll_cons_mk (Go.ChangeMaps.shut_string Try.underlying9 w0) (trodAll_cons_mk (Go.ChangeMaps.shut_string Try.underlying9 w1) trodAll_mk0)), rfl, bel.frame _, fun h => by cases h⟩
theorem over : Rows.SplitJoinsSaid :=
  OpenClaim.holds_of_wide 5 Try.f5 rfl rfl rfl rfl rfl rfl rfl ⟨rfl, rfl, rfl, rfl, rfl⟩ rfl rfl rfl rfl rfl (by kernel_rfl) Try.func5 (by kernel_rfl)
    (of_decide_eq_true (by kernel_rfl)) (by unfold Func.isWrapper; first | (rw [if_pos (by decide +kernel)]; kernel_rfl) | (rw [if_neg (by decide +kernel)]; exact ⟨rfl, rfl⟩))
    (fun os started H enc _ => lifted os started H enc)
/-- THE STATEMENT. -/
theorem proved : Rows.SplitJoinsSaid := over
#print axioms proved
end Go.Proofs.Ytaaijenbcfjdlaa.splitJoins
