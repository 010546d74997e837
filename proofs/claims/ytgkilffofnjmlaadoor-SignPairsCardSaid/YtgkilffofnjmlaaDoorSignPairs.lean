/-
  What opens is closed by its pair, and nothing opens and closes (promise 5.2): for every two integers the statement SignPairs returns true, where sign's table lies as the text lays it.
-/
import Derived.Test.YtgkilffofnjmlaaDoorSignLaid
import Derived.Test.YtgkilffofnjmlaaDoorRefSign
import Derived.BigRegion
import Derived.Deep.CutRange
import Derived.Test.YtgkilffofnjmlaaDoorCards
import Derived.Test.YtgkilffofnjmlaaDoorTie
namespace Go.Proofs.YtgkilffofnjmlaaDoor.signPairs
open Go.ChangeShapes Go.WideShapes Go.ChangeAt Go.RowKit Go.PlainAid

def pws : List (List UInt8) := [[40], [123], [91], [60, 60], [41], [125], [93], [62, 62], [98, 101, 103, 105, 110], [99, 97, 115, 101], [105, 102], [114, 101, 99, 101, 105, 118, 101], [101, 110, 100], [102, 117, 110], [111, 102], [45, 62], [97, 102, 116, 101, 114], [119, 104, 101, 110]]
def pw (r : Nat) : ByteArray := ⟨(pws.getD r []).toArray⟩
theorem pw_facts : ∀ r : Fin 18, ops 9 (pw r.val) = decide (r.val < 4) ∧ cls 9 (pw r.val) = decide (4 ≤ r.val ∧ r.val < 8) ∧ ops 8 (pw r.val) = decide (8 ≤ r.val ∧ r.val < 12) ∧ cls 8 (pw r.val) = decide (r.val = 12) ∧ ops 1 (pw r.val) = false ∧ cls 1 (pw r.val) = false := by decide +kernel
theorem pw_pair : ∀ r : Fin 4, pr (pw r.val) = pw (r.val + 4) ∧ cls 9 (pw (r.val + 4)) = true ∧ (pw (r.val + 4)).toList.isEmpty = false := by decide +kernel
theorem pw_none : ∀ r : Fin 18, 4 ≤ r.val → pr (pw r.val) = { data := #[] } := by decide +kernel
/-- What lies in the block of the words. -/
theorem pw_val (r : Nat) (hr : r < 18) : ([Value.string { data := #[40] }, Value.string { data := #[123] }, Value.string { data := #[91] }, Value.string { data := #[60, 60] }, Value.string { data := #[41] }, Value.string { data := #[125] }, Value.string { data := #[93] }, Value.string { data := #[62, 62] }, Value.string { data := #[98, 101, 103, 105, 110] }, Value.string { data := #[99, 97, 115, 101] }, Value.string { data := #[105, 102] }, Value.string { data := #[114, 101, 99, 101, 105, 118, 101] }, Value.string { data := #[101, 110, 100] }, Value.string { data := #[102, 117, 110] }, Value.string { data := #[111, 102] }, Value.string { data := #[45, 62] }, Value.string { data := #[97, 102, 116, 101, 114] }, Value.string { data := #[119, 104, 101, 110] }] : List Value)[r]'hr = .string (pw r) := by
  show (pws.map fun l => Value.string ⟨l.toArray⟩)[r]'(by simpa [pws] using hr) = _
  rw [List.getElem_map]
  unfold pw
  rw [List.getD_eq_getElem?_getD, List.getElem?_eq_getElem (show r < pws.length from hr)]
  rfl
theorem build_tok (k : Int) (s : ByteArray) (w : World) : (Instr.build 23 #[(0, .int .i64 k), (1, .string s)]).run Tryd.prog w = .ok (.agg #[.int .i64 k, .string s, .int .i64 0]) w := run_build w 23 _ _ (by kernel_rfl)
/-- The words and the token lie where the walk laid them. -/
def Pk (w W : World) (t : Nat) (K : Int) (S : ByteArray) : Prop :=
  (∀ j, j < 18 → W.cell? ⟨w.heap.size, j, none⟩ = some (.string (pw j))) ∧ (W.cell? ⟨t, 0, none⟩ = some (.int .i64 K) ∧ W.cell? ⟨t, 1, none⟩ = some (.string S) ∧ W.cell? ⟨t, 2, none⟩ = some (.int .i64 0)) ∧ w.heap.size < W.heap.size ∧ t < W.heap.size ∧ Below w.heap.size w W
theorem Pk.below {w W W' : World} {t : Nat} {K : Int} {S : ByteArray} (h : Pk w W t K S) (hb : Below W.heap.size W W') : Pk w W' t K S := by
  obtain ⟨h1, ⟨h2, h3, h4⟩, h5, h6, h7⟩ := h
  exact ⟨fun j hj => (hb.cell (p := ⟨w.heap.size, j, none⟩) h5).trans (h1 j hj), ⟨(hb.cell (p := ⟨t, 0, none⟩) h6).trans h2, (hb.cell (p := ⟨t, 1, none⟩) h6).trans h3, (hb.cell (p := ⟨t, 2, none⟩) h6).trans h4⟩, Nat.lt_of_lt_of_le h5 hb.size, Nat.lt_of_lt_of_le h6 hb.size, h7.trans (hb.mono h7.size)⟩
theorem pk_a (w : World) (cs is : Array Value) (t u v : TypeId) (K : Int) (S : ByteArray) (h : cs = (pws.map fun l => Value.string ⟨l.toArray⟩).toArray) : Pk w (((w.alloc (.cells cs t)).alloc (.cells is u)).alloc (.cells #[.int .i64 K, .string S, .int .i64 0] v)).drew (w.heap.size + 1 + 1) K S := by
  have h0 := ls_at w cs t pws h
  have z1 : (w.alloc (.cells cs t)).heap.size = w.heap.size + 1 := by simp
  have z2 : ((w.alloc (.cells cs t)).alloc (.cells is u)).heap.size = w.heap.size + 1 + 1 := by simp
  have b1 : Below (w.heap.size + 1) (w.alloc (.cells cs t)) (((w.alloc (.cells cs t)).alloc (.cells is u)).alloc (.cells #[.int .i64 K, .string S, .int .i64 0] v)) := by
    rw [← z1]; exact below2 _ _ _
  have hc : ∀ j, (((w.alloc (.cells cs t)).alloc (.cells is u)).alloc (.cells #[.int .i64 K, .string S, .int .i64 0] v)).cell? ⟨w.heap.size + 1 + 1, j, none⟩ = (#[.int .i64 K, .string S, .int .i64 0] : Array Value)[j]? := fun j => by
    rw [← z2]; exact World.cell?_alloc_new _ _ _ _
  refine ⟨fun j hj => (b1.cell (p := ⟨w.heap.size, j, none⟩) (by show w.heap.size < _; omega)).trans (h0 j hj), ⟨hc 0, hc 1, hc 2⟩, ?_, ?_, ((below1 w _).trans (b1.mono (by omega))).drew⟩
  · show w.heap.size < (((w.heap.push _).push _).push _).size; simp only [Array.size_push]; omega
  · show w.heap.size + 1 + 1 < (((w.heap.push _).push _).push _).size; simp only [Array.size_push]; omega
theorem pk_b (w : World) (cs is : Array Value) (t u v : TypeId) (K : Int) (S : ByteArray) (h : cs = (pws.map fun l => Value.string ⟨l.toArray⟩).toArray) : Pk w (((w.alloc (.cells cs t)).alloc (.cells #[.int .i64 K, .string S, .int .i64 0] v)).alloc (.cells is u)).drew (w.heap.size + 1) K S := by
  have h0 := ls_at w cs t pws h
  have z1 : (w.alloc (.cells cs t)).heap.size = w.heap.size + 1 := by simp
  have z2 : ((w.alloc (.cells cs t)).alloc (.cells #[.int .i64 K, .string S, .int .i64 0] v)).heap.size = w.heap.size + 1 + 1 := by simp
  have b1 : Below (w.heap.size + 1) (w.alloc (.cells cs t)) (((w.alloc (.cells cs t)).alloc (.cells #[.int .i64 K, .string S, .int .i64 0] v)).alloc (.cells is u)) := by
    rw [← z1]; exact below2 _ _ _
  have b2 : Below (w.heap.size + 1 + 1) ((w.alloc (.cells cs t)).alloc (.cells #[.int .i64 K, .string S, .int .i64 0] v)) (((w.alloc (.cells cs t)).alloc (.cells #[.int .i64 K, .string S, .int .i64 0] v)).alloc (.cells is u)) := by
    rw [← z2]; exact below1 _ _
  have hc : ∀ j, (((w.alloc (.cells cs t)).alloc (.cells #[.int .i64 K, .string S, .int .i64 0] v)).alloc (.cells is u)).cell? ⟨w.heap.size + 1, j, none⟩ = (#[.int .i64 K, .string S, .int .i64 0] : Array Value)[j]? := fun j => by
    rw [b2.cell (p := ⟨w.heap.size + 1, j, none⟩) (by show w.heap.size + 1 < _; omega), ← z1]; exact World.cell?_alloc_new _ _ _ _
  refine ⟨fun j hj => (b1.cell (p := ⟨w.heap.size, j, none⟩) (by show w.heap.size < _; omega)).trans (h0 j hj), ⟨hc 0, hc 1, hc 2⟩, ?_, ?_, ((below1 w _).trans (b1.mono (by omega))).drew⟩
  · show w.heap.size < (((w.heap.push _).push _).push _).size; simp only [Array.size_push]; omega
  · show w.heap.size + 1 < (((w.heap.push _).push _).push _).size; simp only [Array.size_push]; omega
def kds : List Int := [9, 8, 1]
def kd (q : Nat) : Int := kds.getD q 0
theorem kd_val (q : Nat) (hq : q < 3) : ([Value.int .i64 9, Value.int .i64 8, Value.int .i64 1] : List Value)[q]'hq = .int .i64 (kd q) := by
  show (kds.map fun l => Value.int .i64 l)[q]'(by simpa [kds] using hq) = _
  rw [List.getElem_map]
  unfold kd
  rw [List.getD_eq_getElem?_getD, List.getElem?_eq_getElem (show q < kds.length from hq)]
  rfl
def po (q r : Nat) : Bool := decide ((q = 0 ∧ r < 4) ∨ (q = 1 ∧ 8 ≤ r ∧ r < 12))
def pcl (q r : Nat) : Bool := decide ((q = 0 ∧ 4 ≤ r ∧ r < 8) ∨ (q = 1 ∧ r = 12))
theorem ops_all : ∀ q : Fin 3, ∀ r : Fin 18, ops (kd q.val) (pw r.val) = po q.val r.val ∧ cls (kd q.val) (pw r.val) = pcl q.val r.val := by decide +kernel
theorem ret_valb {a b : Bool} (h : a = b) : Value.bool a = Value.bool b := by rw [h]
set_option maxRecDepth 100000 in
set_option maxHeartbeats 1000000 in
theorem walk (x y : Int) (w : World) (ht : TabM w) :
    Calls Tryd.prog 5 #[.int .i64 x, .int .i64 y] w fun e w' => e = .returned (.bool true) ∧ Below w.heap.size w w' := by
  have HT := Lib.hid ht
  clear ht
  obtain ⟨r, hr, er⟩ : ∃ r : Nat, r < 18 ∧ (IntKind.u64.wrap x).tmod 18 = (r : Int) := by
    have := IntKind.wrap_u64 x
    have h0 := Int.tmod_nonneg (a := IntKind.u64.wrap x) 18 (by omega)
    have h1 := Int.tmod_lt_of_pos (IntKind.u64.wrap x) (b := 18) (by omega)
    have h2 := Int.toNat_of_nonneg h0
    exact ⟨((IntKind.u64.wrap x).tmod 18).toNat, by omega, h2.symm⟩
  obtain ⟨q, hq, eq⟩ : ∃ q : Nat, q < 3 ∧ (IntKind.u64.wrap y).tmod 3 = (q : Int) := by
    have := IntKind.wrap_u64 y
    have h0 := Int.tmod_nonneg (a := IntKind.u64.wrap y) 3 (by omega)
    have h1 := Int.tmod_lt_of_pos (IntKind.u64.wrap y) (b := 3) (by omega)
    have h2 := Int.toNat_of_nonneg h0
    exact ⟨((IntKind.u64.wrap y).tmod 3).toNat, by omega, h2.symm⟩
  have HV := pw_val r hr
  have HU := kd_val q hq
  obtain ⟨ho, hc⟩ := ops_all ⟨q, hq⟩ ⟨r, hr⟩
  simp only at ho hc
  obtain ⟨o, eo⟩ : ∃ o, o = po q r := ⟨_, rfl⟩
  obtain ⟨c, ec⟩ : ∃ c, c = pcl q r := ⟨_, rfl⟩
  obtain ⟨S, hS⟩ : ∃ S : ByteArray, S = pw r := ⟨_, rfl⟩
  obtain ⟨K, hK⟩ : ∃ K : Int, K = kd q := ⟨_, rfl⟩
  rw [← hS] at HV ho hc
  rw [← hK] at HU ho hc
  rw [← eo] at ho
  rw [← ec] at hc
  have HS := Lib.hid hS
  have HK := Lib.hid hK
  have EO := Lib.hid eo
  have EC := Lib.hid ec
  have HO := Lib.hid (fun W => opens_is K 0 S o ho W)
  have HC := Lib.hid (fun W => closes_is K 0 S c hc W)
  clear hS hK eo ec ho hc
  have hbd := fun W : World => build_tok K S W
  go_enter Tryd.func5, Tryd.ntmps5
  go_wp2_with fail
  go_cut [6] from 12 to 29 (fun t wx => ∃ T, t = .pointer (some ⟨T, 0, none⟩) ∧ Hid (Pk w wx T K S))
  case first =>
    go_region
    all_goals go_wp2_with fail
    all_goals go_meet
    all_goals first | exact ⟨_, rfl, Lib.hid (pk_a _ _ _ _ _ _ _ _ rfl)⟩ | exact ⟨_, rfl, Lib.hid (pk_b _ _ _ _ _ _ _ _ rfl)⟩
  case rest =>
    obtain ⟨T, rfl, HP⟩ := hcut
    obtain ⟨W2, hW2⟩ : ∃ W2, W2 = wc := ⟨_, rfl⟩
    obtain ⟨c0, c1, c2⟩ := HP.out.2.1
    clear hbd HV HU
    go_upto_region 4 with fail
    go_cut [8] from 37 to 56 (fun b wx => b = .bool o ∧ wx = wc)
    case first =>
      have hq3 : q = 0 ∨ q = 1 ∨ q = 2 := by omega
      have hr5 : r < 4 ∨ (4 ≤ r ∧ r < 8) ∨ (8 ≤ r ∧ r < 12) ∨ 12 ≤ r := by omega
      rcases hq3 with rfl | rfl | rfl
      · obtain rfl : K = 9 := HK.out
        rcases hr5 with h | h | h | h
        all_goals
          go_wp2_with fail
          go_meet
          refine ⟨ret_valb ?_, rfl⟩
          rw [EO.out]; unfold po
          first | exact decide_eq_decide.2 (by omega) | (simp; omega) | (simp; done)
      · obtain rfl : K = 8 := HK.out
        rcases hr5 with h | h | h | h
        all_goals
          go_wp2_with fail
          go_meet
          refine ⟨ret_valb ?_, rfl⟩
          rw [EO.out]; unfold po
          first | exact decide_eq_decide.2 (by omega) | (simp; omega) | (simp; done)
      · obtain rfl : K = 1 := HK.out
        go_wp2_with fail
        go_meet
        exact ⟨ret_valb (by rw [EO.out]; unfold po; simp), rfl⟩
    case rest =>
      obtain ⟨rfl, rfl⟩ := hcut
      go_upto_region 5 with fail
      go_cut [9] from 57 to 76 (fun b wx => b = .bool c ∧ wx = wc)
      case first =>
        have hq3 : q = 0 ∨ q = 1 ∨ q = 2 := by omega
        have hr5 : r < 4 ∨ (4 ≤ r ∧ r < 8) ∨ (8 ≤ r ∧ r < 12) ∨ r = 12 ∨ 12 < r := by omega
        rcases hq3 with rfl | rfl | rfl
        · obtain rfl : K = 9 := HK.out
          rcases hr5 with h | h | h | h | h
          all_goals
            go_wp2_with fail
            go_meet
            refine ⟨ret_valb ?_, rfl⟩
            rw [EC.out]; unfold pcl
            first | exact decide_eq_decide.2 (by omega) | (simp; omega) | (simp; done)
        · obtain rfl : K = 8 := HK.out
          by_cases h : r = 12
          · subst h
            go_wp2_with fail
            go_meet
            refine ⟨ret_valb ?_, rfl⟩
            rw [EC.out]; rfl
          · have h12 : ((r : Int) == 12) = false := beq_false_of_ne (by omega)
            go_wp2_with fail
            go_meet
            refine ⟨ret_valb ?_, rfl⟩
            rw [EC.out]; unfold pcl; simp; omega
        · obtain rfl : K = 1 := HK.out
          go_wp2_with fail
          go_meet
          refine ⟨ret_valb ?_, rfl⟩
          rw [EC.out]; unfold pcl; simp
      case rest =>
        obtain ⟨rfl, rfl⟩ := hcut
        have hoo : (o != o) = false := by simp
        have hcc : (c != c) = false := by simp
        have hpos := Lib.hid HT.out.pos
        by_cases h4 : r < 4
        · obtain ⟨p1, p2, p3⟩ := pw_pair ⟨r, h4⟩
          simp only at p1 p2 p3
          obtain ⟨X, hX⟩ : ∃ X, X = pw (r + 4) := ⟨_, rfl⟩
          rw [← hX] at p1 p2 p3
          have HX := Lib.hid hX
          clear hX
          have HPR := Lib.hid (fun W => pair_is S X (by rw [HS.out]; exact p1) W)
          have HCX := Lib.hid (fun W => closes_is 9 0 X true p2 W)
          clear p1 p2
          go_wp2_with fail
          refine (HO.out _).mono ?_
          rintro e w1 ⟨rfl, hb1⟩
          have HP1 := Lib.hid (HP.out.below hb1)
          clear hb1 c0 c1 c2
          obtain ⟨c0, c1, c2⟩ := HP1.out.2.1
          go_wp2_with fail
          refine (HC.out _).mono ?_
          rintro e w2 ⟨rfl, hb2⟩
          have HP2 := Lib.hid (HP1.out.below hb2)
          clear hb2 c0 c1 c2
          obtain ⟨c0, c1, c2⟩ := HP2.out.2.1
          go_wp2_with fail
          refine (HPR.out _).mono ?_
          rintro e w3 ⟨rfl, rfl⟩
          go_wp2_with fail
          refine (told5_any _ (HT.out.below HP2.out.2.2.2.2 hpos.out)).mono ?_
          rintro e w3 ⟨rfl, hb3⟩
          have HP3 := Lib.hid (HP2.out.below hb3)
          clear hb3 c0 c1 c2
          have hcell : w3.cell? ⟨w.heap.size, r + 4, none⟩ = some (.string X) := by rw [HX.out]; exact HP3.out.1 (r + 4) (by omega)
          have hxx : (X.toList == X.toList) = true := beq_self_eq_true _
          have hbx := fun W : World => build_tok 9 X W
          go_wp2_with fail
          refine (HCX.out _).mono ?_
          rintro e w4 ⟨rfl, hb4⟩
          have HB := Lib.hid (HP3.out.below hb4).2.2.2.2
          clear hb4
          go_wp2_with fail
          go_ret
          exact ⟨rfl, HB.out⟩
        · have hpn := pw_none ⟨r, hr⟩ (by simp only; omega)
          simp only at hpn
          have HPR := Lib.hid (fun W => pair_is S { data := #[] } (by rw [HS.out]; exact hpn) W)
          clear hpn
          go_wp2_with fail
          refine (HO.out _).mono ?_
          rintro e w1 ⟨rfl, hb1⟩
          have HP1 := Lib.hid (HP.out.below hb1)
          clear hb1 c0 c1 c2
          obtain ⟨c0, c1, c2⟩ := HP1.out.2.1
          go_wp2_with fail
          refine (HC.out _).mono ?_
          rintro e w2 ⟨rfl, hb2⟩
          have HP2 := Lib.hid (HP1.out.below hb2)
          clear hb2 c0 c1 c2
          obtain ⟨c0, c1, c2⟩ := HP2.out.2.1
          go_wp2_with fail
          refine (HPR.out _).mono ?_
          rintro e w3 ⟨rfl, rfl⟩
          go_wp2_with fail
          refine (told5_any _ (HT.out.below HP2.out.2.2.2.2 hpos.out)).mono ?_
          rintro e w3 ⟨rfl, hb3⟩
          have HP3 := Lib.hid (HP2.out.below hb3)
          clear hb3 c0 c1 c2
          have h4' : decide ((r : Int) < 4) = false := by simp; omega
          go_wp2_with fail
          go_ret
          exact ⟨rfl, HP3.out.2.2.2.2⟩
set_option maxRecDepth 100000 in
theorem lifted (os : Os) (started : os.Started) (H : Type) (enc : TypeId × Value → H) :
    ReturnsInHanded {} Tryd.checked os 5 .any (fun w args => (Rows.signPairsSpec.pre enc Tryd.prog Tryd.f5 [] false w args ∧ laidMetH Tryd.prog signLaid w) ∧ sizedMet enc Tryd.prog Tryd.f5 (OpenSpec.ofChange Rows.signPairsSpec) false w args)
      (Rows.signPairsSpec.post enc Tryd.prog Tryd.f5 false true false false) := by
  refine returnsInHanded_of_change_and (C := Tryd.checked) (X := fun w _ => laidMetH Tryd.prog signLaid w) (fun _ _ _ hh h => h.of_heap hh) own5 started (by kernel_rfl) Tryd.func5
    (ChangeSpec.witness_shaped (enc := enc) (C := Tryd.checked) (os := os) (X := fun w _ => laidMetH Tryd.prog signLaid w) false (World.doorLaid Tryd.prog 400 os) #[.int .i64 0, .int .i64 0] 8 rfl (World.shaped_of_RefB (by kernel_rfl) (by kernel_rfl)) (by kernel_rfl) (by kernel_rfl) (by kernel_rfl) (door_met5 os _)) ?_
  intro W base args ds gs before hval0 hW _ _ hL _
  have hval : ∀ (j : Nat) t v, Tryd.f5.params[j]? = some t → args[j]? = some v → Value.okWide Tryd.prog W .any base t v := hval0
  have hW' := hW
  obtain ⟨p, q, hA0, hV, rfl, hfz, hnd⟩ := hW
  have hA : DataW.TrodAll enc Tryd.prog W 0 (fun _ => true) true Tryd.f5.params.toList args.toList ds p := hA0
  rw [Tryd.params5] at hA hval
  obtain ⟨v0, vs0, d0, ds0, p0, q0, hargs, rfl, rfl, h0, r0⟩ := trodAll_cons hA
  obtain ⟨v1, vs1, d1, ds1, p1, q1, rfl, rfl, rfl, h1, r1⟩ := trodAll_cons r0
  obtain ⟨rfl, rfl, rfl⟩ := trodAll_nil r1
  obtain rfl : args = #[v0, v1] := by cases args; simp_all
  obtain ⟨rfl, rfl⟩ := trodVars_none hV
  obtain ⟨a0, rfl, rfl, rfl, w0⟩ := open_int Tryd.underlying3 (hval 0 3 v0 rfl rfl) h0
  obtain ⟨a1, rfl, rfl, rfl, w1⟩ := open_int Tryd.underlying3 (hval 1 3 v1 rfl rfl) h1
  clear hA0 hval0
  simp only [List.append_nil] at hW'
  refine (walk a0 a1 W (mtab_of_laid hL)).mono fun e W' ⟨he, bel⟩ => ?_
  subst he
  exact ⟨_, rfl, _, _, _, [], _, [], hW', trodAll_mk1 (shut_bool Tryd.underlying4 _), (trodAll_cons_mk (shut_int Tryd.underlying3 w0) (trodAll_cons_mk (shut_int Tryd.underlying3 w1) trodAll_mk0)), rfl, bel.frame _, fun h => by cases h⟩
theorem over : Rows.SignPairsSaid :=
  OpenClaim.holds_of_wide 5 Tryd.f5 rfl rfl rfl rfl rfl rfl rfl ⟨rfl, rfl, rfl, rfl, rfl⟩ rfl rfl rfl rfl rfl (by kernel_rfl) Tryd.func5 (by kernel_rfl)
    (of_decide_eq_true (by kernel_rfl)) (by unfold Func.isWrapper; first | (rw [if_pos (by decide +kernel)]; kernel_rfl) | (rw [if_neg (by decide +kernel)]; exact ⟨rfl, rfl⟩))
    (fun os started H enc _ => lifted os started H enc)
/-- THE TIED CARD. -/
theorem proved : Rows.SignPairsCardSaid :=
  Claim7.holds_tied_plain_at .later [] [.data] true Rows.signPairsCard.stood.harness false
    over (fun _ h => by cases h) (by kernel_rfl) (fun _ h => by cases h) signPairs_row_tie rfl ⟨rfl, rfl⟩ (by kernel_rfl) rfl
    (fun f fn hf hfn => by
      obtain rfl : f = 5 := Option.some.inj ((show Tryd.prog.funcNamed "galley/galleylaw5.SignPairs" = some 5 by kernel_rfl).symm.trans hf) |>.symm
      obtain rfl : fn = Tryd.f5 := (Option.some.inj (Tryd.func5.symm.trans hfn)).symm
      exact ⟨by kernel_rfl, fun j t ht => by
        rw [Tryd.params5] at ht
        have hm : t ∈ [3] := by
          have := Array.mem_of_getElem? ht
          simpa using this
        have hall : ([3].all fun u => !Tryd.prog.wantsStandIn u) = true := by kernel_rfl
        exact (show Tryd.prog.wantsStandIn t = false by simpa using List.all_eq_true.1 hall t hm)⟩)
    (by kernel_rfl)
#print axioms proved
end Go.Proofs.YtgkilffofnjmlaaDoor.signPairs
