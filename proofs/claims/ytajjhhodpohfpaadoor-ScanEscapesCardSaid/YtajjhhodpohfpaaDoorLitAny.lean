/-
  What package strings' IndexAny gives at the letters e and E, whatever the text: where the first one of them stands.
-/
import Derived.Test.YtajjhhodpohfpaaDoorLitInts
import Derived.Test.YtajjhhodpohfpaaDoorUtfs
import Derived.Shelf.Strings.IndexAnyAll
import Derived.Shelf.Small.Utf8
import Derived.Deep.LoopGhost
import Derived.Lib.OthersKept
namespace Go.Proofs.YtajjhhodpohfpaaDoor
open Go.RowKit Go.PlainAid

def anyRen : Go.Shelf.Ren :=
  ⟨fun
    | 119 => 102
    | 137 => 49
    | 152 => 94
    | 153 => 79
    | 217 => 67
    | 224 => 97
    | 225 => 96
    | 226 => 95
    | 227 => 70
    | 228 => 84
    | 266 => 82
    | n => n,
   fun
    | 0 => 0
    | 3 => 3
    | 4 => 4
    | 5 => 5
    | 9 => 9
    | 21 => 21
    | 46 => 27
    | 116 => 67
    | 117 => 68
    | 124 => 71
    | n => n,
   fun n => n⟩
theorem anyLays : Lays.n153 Tryd.prog anyRen := {
  mixed := by kernel_rfl
  f119 := Tryd.func102
  f137 := Tryd.func49
  f152 := Tryd.func94
  f153 := Tryd.func79
  f217 := Tryd.func67
  f224 := Tryd.func97
  f225 := Tryd.func96
  f226 := Tryd.func95
  f227 := Tryd.func70
  f228 := Tryd.func84
  f266 := Tryd.func82
  t0 := Tryd.underlying0
  a0 := Tryd.isAgg0
  z0 := Tryd.sizeOf0
  v0 := Tryd.zeroValue0
  t3 := Tryd.underlying3
  a3 := Tryd.isAgg3
  z3 := Tryd.sizeOf3
  v3 := Tryd.zeroValue3
  t4 := Tryd.underlying4
  a4 := Tryd.isAgg4
  z4 := Tryd.sizeOf4
  v4 := Tryd.zeroValue4
  t5 := Tryd.underlying5
  a5 := Tryd.isAgg5
  z5 := Tryd.sizeOf5
  v5 := Tryd.zeroValue5
  t9 := Tryd.underlying9
  a9 := Tryd.isAgg9
  z9 := Tryd.sizeOf9
  v9 := Tryd.zeroValue9
  t21 := Tryd.underlying21
  a21 := Tryd.isAgg21
  z21 := Tryd.sizeOf21
  v21 := Tryd.zeroValue21
  t46 := Tryd.underlying27
  a46 := Tryd.isAgg27
  z46 := Tryd.sizeOf27
  v46 := Tryd.zeroValue27
  t116 := Tryd.underlying67
  a116 := Tryd.isAgg67
  z116 := Tryd.sizeOf67
  t117 := Tryd.underlying68
  a117 := Tryd.isAgg68
  z117 := Tryd.sizeOf68
  v117 := Tryd.zeroValue68
  t124 := Tryd.underlying71
  a124 := Tryd.isAgg71
  z124 := Tryd.sizeOf71
  v124 := Tryd.zeroValue71
}

/-- Does e or E stand at byte k? -/
def isE (s : ByteArray) (k : Nat) : Bool := bt s k == 69 || bt s k == 101
/-- The first e or E from byte k on; the size, if there is none. -/
def ixe (s : ByteArray) (k : Nat) : Nat := if _h : k < s.size then (if isE s k = true then k else ixe s (k + 1)) else s.size
termination_by s.size - k
theorem ixe_spec (s : ByteArray) : ∀ m k : Nat, s.size - k ≤ m → k ≤ s.size → k ≤ ixe s k ∧ ixe s k ≤ s.size ∧ (∀ i, k ≤ i → i < ixe s k → isE s i = false) ∧ (ixe s k < s.size → isE s (ixe s k) = true) := by
  intro m
  induction m with
  | zero =>
    intro k h hk
    have e : ixe s k = s.size := by rw [ixe, dif_neg (by omega)]
    rw [e]
    exact ⟨hk, Nat.le_refl _, fun i h1 h2 => by omega, fun h => by omega⟩
  | succ m ih =>
    intro k h hk
    by_cases hlt : k < s.size
    · by_cases hc : isE s k = true
      · have e : ixe s k = k := by rw [ixe, dif_pos hlt, if_pos hc]
        rw [e]
        exact ⟨Nat.le_refl _, hk, fun i h1 h2 => by omega, fun _ => hc⟩
      · have e : ixe s k = ixe s (k + 1) := by rw [ixe, dif_pos hlt, if_neg hc]
        rw [e]
        obtain ⟨h1, h2, h3, h4⟩ := ih (k + 1) (by omega) hlt
        refine ⟨by omega, h2, fun i i1 i2 => ?_, h4⟩
        by_cases hi : i = k
        · rw [hi]; simpa using hc
        · exact h3 i (by omega) i2
    · have e : ixe s k = s.size := by rw [ixe, dif_neg hlt]
      rw [e]
      exact ⟨hk, Nat.le_refl _, fun i h1 h2 => by omega, fun h => by omega⟩
theorem ixe_is {s : ByteArray} {k p : Nat} (hk : k ≤ p) (hp : p ≤ s.size) (h : ∀ i, k ≤ i → i < p → isE s i = false) (he : p < s.size → isE s p = true) : ixe s k = p := by
  obtain ⟨h1, h2, h3, h4⟩ := ixe_spec s (s.size - k) k (Nat.le_refl _) (by omega)
  by_cases a : ixe s k < p
  · have := h _ h1 a
    rw [h4 (by omega)] at this
    cases this
  · by_cases b : p < ixe s k
    · have := h3 _ hk b
      rw [he (by omega)] at this
      cases this
    · omega
def ixa (s : ByteArray) : Int := if ixe s 0 < s.size then (ixe s 0 : Nat) else -1
theorem isE_nat {s : ByteArray} {k : Nat} (h : k < s.size) : (([101, 69] : List UInt8).contains (s[k]'h)) = isE s k := by
  have gb := get_bt s k h
  unfold isE
  rw [← gb]
  by_cases h1 : s[k]'h = 101
  · rw [h1]; rfl
  · by_cases h2 : s[k]'h = 69
    · rw [h2]; rfl
    · have n1 : ¬ ((s[k]'h).toNat : Int) = 101 := fun e => h1 (UInt8.toNat_inj.1 (by have : (101 : UInt8).toNat = 101 := rfl; omega))
      have n2 : ¬ ((s[k]'h).toNat : Int) = 69 := fun e => h2 (UInt8.toNat_inj.1 (by have : (69 : UInt8).toNat = 69 := rfl; omega))
      rw [beq_false_of_ne n1, beq_false_of_ne n2]
      simp [h1, h2]
theorem ixa_list (s : ByteArray) : Lib.indexAny s.data.toList [101, 69] = ixa s := by
  obtain ⟨-, h2, h3, h4⟩ := ixe_spec s s.size 0 (by omega) (by omega)
  have hno : Lib.NoAny s.data.toList [101, 69] (ixe s 0) := fun j b hj hb => by
    have hjs : j < s.size := by omega
    have e : s.data.toList[j]? = some (s[j]'hjs) := Lib.data_getElem? s j hjs
    rw [e] at hb
    obtain rfl := Option.some.inj hb
    rw [isE_nat hjs]
    exact h3 j (Nat.zero_le _) hj
  unfold ixa
  by_cases h : ixe s 0 < s.size
  · rw [if_pos h]
    exact Lib.indexAny_hit hno (Lib.data_getElem? s _ h) (by rw [isE_nat h]; exact h4 h)
  · rw [if_neg h]
    refine Lib.indexAny_none ?_
    have : s.data.toList.length = ixe s 0 := by rw [Array.length_toList]; show s.size = _; omega
    rw [this]
    exact hno
theorem anyInfo : (Tryd.prog.info? (anyRen.t 116)).map (fun i => (i.zero, i.size)) = some (some (.agg (Array.replicate 256 (.bool false))), 256) := by kernel_rfl
/-- A text of more than eight bytes. -/
theorem any_long (s : ByteArray) (h8 : 8 < s.size) (hs : s.size < 4294967281) (w : World) :
    Calls Tryd.prog 79 #[.string s, .string { data := #[101, 69] }] w fun e w' => e = .returned (.int .i64 (ixa s)) ∧ Below w.heap.size w w' := by
  have h := Any.strings_IndexAny_long anyLays (zero_of_info anyInfo).1 (zero_of_info anyInfo).2 s ⟨#[101, 69]⟩ w (by decide) h8 hs (by decide) (fun j b hb => by
    have : b ∈ ([101, 69] : List UInt8) := List.mem_of_getElem? hb
    rcases List.mem_cons.1 this with rfl | h
    · decide
    · rcases List.mem_cons.1 h with rfl | h
      · decide
      · cases h)
  refine h.mono fun e w' ⟨h1, h2⟩ => ?_
  rw [h1, h2]
  exact ⟨by rw [← ixa_list s], ((Below.refl _ _).alloc (Nat.le_refl _) _).alloc (by simp) _⟩
theorem sindexByte_any (s : ByteArray) (c : UInt8) (w : World) :
    Calls Tryd.prog 49 #[.string s, .int .u8 (c.toNat : Int)] w fun e w' => e = .returned (.int .i64 (ixr s (c.toNat : Int))) ∧ w = w' := by
  have H := Lib.hid (fun W => indexByte_any s c W)
  go_enter Tryd.func49, Tryd.ntmps49
  go_wp2_with fail
  refine (H.out _).mono ?_
  rintro e w' ⟨rfl, rfl⟩
  go_wp2_with fail
  go_ret
  exact ⟨rfl, rfl⟩
theorem validRune_any (r : Int) (w : World) : Calls Tryd.prog 102 #[.int .i32 r] w fun e w' => e = .returned (.bool (Lib.validRune r)) ∧ w = w' :=
  (Any.utf8_ValidRune (ρ := anyRen) { anyLays with } r w).mono fun _ _ ⟨h, h'⟩ => ⟨h, h'.symm⟩
theorem irune_low (r : Int) (h0 : 0 ≤ r) (h1 : r < 128) (w : World) :
    Calls Tryd.prog 94 #[.string { data := #[101, 69] }, .int .i32 r] w fun e w' => e = .returned (.int .i64 (Lib.indexByte [101, 69] r.toNat.toUInt8)) ∧ w = w' :=
  (Any.strings_IndexRune_ascii (ρ := anyRen) { anyLays with } ⟨#[101, 69]⟩ r w h0 h1).mono fun _ _ ⟨h, h'⟩ => ⟨h, h'.symm⟩
set_option maxRecDepth 100000 in
theorem irune_high (r : Int) (h0 : 128 ≤ r) (h1 : r ≤ 2147483647) (w : World) :
    Calls Tryd.prog 94 #[.string { data := #[101, 69] }, .int .i32 r] w fun e w' => e = .returned (.int .i64 (-1)) ∧ Below w.heap.size w w' := by
  have g1 : decide (r < 128) = false := decide_eq_false (by omega)
  by_cases hr : r = 65533
  · subst hr
    clear h0 h1 g1
    have n0 := fun ty => run_next_ascii (P := Tryd.prog) w ⟨#[101, 69]⟩ 0 ty (by decide) (by decide)
    have n1 := fun ty => run_next_ascii (P := Tryd.prog) w ⟨#[101, 69]⟩ 1 ty (by decide) (by decide)
    have n2 := fun ty => run_next_end (P := Tryd.prog) w ⟨#[101, 69]⟩ 2 ty (by decide)
    go_enter Tryd.func94, Tryd.ntmps94
    go_wp2_with fail
    refine wp_loop_rounds 3 ?_
    rw [rounds_succ]
    go_wp2_with fail
    rw [rounds_succ]
    go_wp2_with fail
    rw [rounds_succ]
    go_wp2_with fail
    go_ret
    exact ⟨rfl, below_iter w _ _⟩
  · have g2 : (r == 65533) = false := beq_false_of_ne hr
    have HV := Lib.hid (fun W => validRune_any r W)
    cases hv : Lib.validRune r
    · rw [hv] at HV
      clear hr hv
      go_enter Tryd.func94, Tryd.ntmps94
      go_wp2_with fail
      refine (HV.out _).mono ?_
      rintro e w' ⟨rfl, rfl⟩
      go_wp2_with fail
      go_ret
      exact ⟨rfl, Below.refl _ _⟩
    · rw [hv] at HV
      have hv' : Utf8.valid r = true := (validRune_eq r).trans hv
      obtain ⟨e2, e4, e8⟩ := encode_facts r hv' h0
      obtain ⟨E, hE⟩ : ∃ E, E = Utf8.encode r := ⟨_, rfl⟩
      have hE' : Utf8.encode r = E := hE.symm
      rw [← hE] at e2 e4 e8
      have gz : (({ data := #[101, 69] } : ByteArray).size : Int) = 2 := rfl
      clear hr hv hv' hE
      by_cases hz : E.size = 2
      · obtain ⟨c, hc⟩ : ∃ c : UInt8, E[1]'(by omega) = c := ⟨_, rfl⟩
        have hE1 : (E[1]'(by omega)).toNat = c.toNat := by rw [hc]
        have h128 : 128 ≤ c.toNat := by
          have := e8 (by omega)
          have e' : E.size - 1 = 1 := by omega
          simp only [e'] at this
          omega
        have g69 : ((({ data := #[101, 69] } : ByteArray)[1]'(by decide)).toNat : Int) = 69 := rfl
        have HI := Lib.hid (fun W => sindexByte_any ByteArray.empty c W)
        have ei : ixr ByteArray.empty (c.toNat : Int) = -1 := by
          unfold ixr
          rw [if_neg]
          have : ByteArray.empty.size = 0 := by decide
          omega
        rw [ei] at HI
        obtain ⟨x, hx⟩ : ∃ x : Int, x = (c.toNat : Int) := ⟨_, rfl⟩
        have gE : ∀ h, ((E[1]'h).toNat : Int) = x := fun h => by rw [hx]; exact_mod_cast hE1
        rw [← hx] at HI
        have gne : ((69 : Int) != x) = true := by simp; omega
        have w2 : IntKind.i64.wrap 2 = 2 := by decide
        clear ei hE1 hc e8 hx h128
        go_enter Tryd.func94, Tryd.ntmps94
        go_wp2_with fail
        refine (HV.out _).mono ?_
        rintro e w' ⟨rfl, rfl⟩
        go_wp2_with fail
        go_step3
        go_wp2_with fail
        refine wp_loop_rounds 1 ?_
        rw [rounds_succ]
        go_wp2_with fail
        go_step3
        go_wp2_with fail
        go_quiet (fail)
        go_wp2_with fail
        go_quiet (first | (go_at_call 49; exact (HI.out _).mono fun _ _ ⟨h, h'⟩ => ⟨h, _, h'.symm⟩))
        go_wp2_with fail
        rw [Exit.noGoto_ret]
        simp only [Exit.inBlock, Exit.then]
        rw [Exit.noGoto_ret]
        go_ret
        exact ⟨rfl, Below.ofDrewN _ _⟩
      · have hz' : ¬ ((E.size : Int) - 1 < 2) := by omega
        go_enter Tryd.func94, Tryd.ntmps94
        go_wp2_with fail
        refine (HV.out _).mono ?_
        rintro e w' ⟨rfl, rfl⟩
        go_wp2_with fail
        go_step3
        go_wp2_with fail
        refine wp_loop_rounds 1 ?_
        rw [rounds_succ]
        go_wp2_with fail
        rw [Exit.noGoto_ret]
        go_ret
        exact ⟨rfl, Below.refl _ _⟩
theorem ixb_low (x : Int) (h0 : 0 ≤ x) (h1 : x < 128) : decide (0 ≤ Lib.indexByte [101, 69] x.toNat.toUInt8) = (x == 69 || x == 101) := by
  have key : ∀ n : Fin 128, decide (0 ≤ Lib.indexByte [101, 69] n.val.toUInt8) = ((n.val : Int) == 69 || (n.val : Int) == 101) := by decide +kernel
  have := key ⟨x.toNat, by omega⟩
  simp only at this
  have e : ((x.toNat : Nat) : Int) = x := Int.toNat_of_nonneg h0
  rw [e] at this
  exact this
/-- A text of at most eight bytes. -/
theorem any_short (s : ByteArray) (h8 : s.size ≤ 8) (w : World) :
    Calls Tryd.prog 79 #[.string s, .string { data := #[101, 69] }] w fun e w' => e = .returned (.int .i64 (ixa s)) ∧ Below w.heap.size w w' := by
  have HE : Hid (∀ p, (∀ i, i < p → isE s i = false) → (p < s.size → isE s p = true) → p ≤ s.size → ixa s = if p < s.size then (p : Int) else -1) := fun p h1 h2 h3 => by
    have e := ixe_is (s := s) (k := 0) (p := p) (by omega) h3 (fun i _ hi => h1 i hi) h2
    unfold ixa
    rw [e]
  have g8 : decide ((8 : Int) < (s.size : Int)) = false := decide_eq_false (by omega)
  have ge : ((⟨#[101, 69]⟩ : ByteArray).toList == []) = false := by rw [ByteArray.toList_eq]; rfl
  obtain ⟨V, hV⟩ : ∃ V, V = ixa s := ⟨_, rfl⟩
  rw [← hV] at HE ⊢
  clear hV
  go_enter Tryd.func79, Tryd.ntmps79
  go_wp2_with go_in
  go_loopg [9, 10] s.size (fun gn _ _ wr => ∃ k : Nat, gn = s.size - k ∧ k ≤ s.size ∧ Hid (Below w.heap.size w wr ∧ wr.heap[w.heap.size]? = some (.stringIter s k)) ∧ Hid (∀ i, i < k → isE s i = false))
  case atStart => exact ⟨0, rfl, Nat.zero_le _, ⟨below_iter w s 0, World.iter_heap w s 0⟩, fun i hi => absurd hi (Nat.not_lt_zero _)⟩
  case round =>
    obtain ⟨k, hgn, hk, HW, HK⟩ := hrel
    by_cases hlt : k < s.size
    · obtain ⟨r0, r1, r2, r3, r4⟩ := rune_at hlt
      have D := dec_conts s k
      obtain ⟨r, hr⟩ : ∃ r : Int, ((Utf8.decode s k).1 : Int) = r := ⟨_, rfl⟩
      obtain ⟨d, hd⟩ : ∃ d, (Utf8.decode s k).2 = d := ⟨_, rfl⟩
      have hnx : ∀ ty, (Instr.next (.pointer (some ⟨w.heap.size, 0, none⟩)) true ty).run Tryd.prog wr = .ok (.tuple #[.bool true, .int .i64 k, .int .i32 r]) (wr.iterAt w.heap.size s (k + d)) := fun ty => by
        rw [Lib.run_next_any_at wr w.heap.size s k ty HW.out.2 hlt, hr, hd]
      have HB : Hid (Below w.heap.size w (wr.iterAt w.heap.size s (k + d)) ∧ (wr.iterAt w.heap.size s (k + d)).heap[w.heap.size]? = some (.stringIter s (k + d))) :=
        ⟨Lib.below_iterAt HW.out.1 (Nat.le_refl _) s (k + d), Lib.iterAt_heap wr w.heap.size s k (k + d) HW.out.2⟩
      rw [hr] at r0 r1 r2 r3 r4
      rw [hd] at r3 r4 D
      clear hr hd r2
      obtain ⟨W1, hW1⟩ : ∃ W1, W1 = wr.iterAt w.heap.size s (k + d) := ⟨_, rfl⟩
      rw [← hW1] at hnx HB
      clear hW1
      by_cases h128 : bt s k < 128
      · obtain ⟨hrb, rfl⟩ := r3 h128
        have HR := Lib.hid (fun W => irune_low r r0 (by omega) W)
        have hb := ixb_low r r0 (by omega)
        have hE : isE s k = (r == 69 || r == 101) := by unfold isE; rw [hrb]
        rw [← hE] at hb
        obtain ⟨x, hx⟩ : ∃ x, x = Lib.indexByte [101, 69] r.toNat.toUInt8 := ⟨_, rfl⟩
        rw [← hx] at HR hb
        clear hx hE hrb r3 r4 D h128
        cases he : isE s k
        · have HK2 : Hid (∀ i, i < k + 1 → isE s i = false) := fun i hi => by
            by_cases h : i < k
            · exact HK.out i h
            · obtain rfl : i = k := by omega
              exact he
          rw [he] at hb
          clear he
          go_wp2_with fail
          refine (HR.out _).mono ?_
          rintro e w' ⟨rfl, rfl⟩
          go_wp2_with fail
          go_roundg (s.size - (k + 1))
          case measure => omega
          case rel => exact ⟨k + 1, rfl, hlt, HB, HK2⟩
        · have HF := Lib.hid (HE.out k HK.out (fun _ => he) hk)
          rw [if_pos hlt] at HF
          rw [he] at hb
          clear he
          go_wp2_with fail
          refine (HR.out _).mono ?_
          rintro e w' ⟨rfl, rfl⟩
          go_wp2_with fail
          go_ret
          exact ⟨ret_int HF.out.symm, HB.out.1⟩
      · obtain ⟨h1, h2⟩ := r4 (by omega)
        have HR := Lib.hid (fun W => irune_high r h1 r1 W)
        have HK2 : Hid (∀ i, i < k + d → isE s i = false) := fun i hi => by
          by_cases h : i < k
          · exact HK.out i h
          · have h8 : 128 ≤ bt s i := by
              by_cases hik : i = k
              · rw [hik]; omega
              · have := (D.1 (i - k) (by omega) (by omega)).1
                rw [show k + (i - k) = i by omega] at this
                exact this
            unfold isE
            rw [beq_false_of_ne (by omega), beq_false_of_ne (by omega)]
            rfl
        have hkd : k + d ≤ s.size := by
          by_cases hd1 : d = 1
          · omega
          · have := (D.1 (d - 1) (by omega) (by omega)).2
            omega
        clear r3 r4 D h128
        go_wp2_with fail
        refine (HR.out _).mono ?_
        rintro e w2 ⟨rfl, hb2⟩
        have HB2 : Hid (Below w.heap.size w w2 ∧ w2.heap[w.heap.size]? = some (.stringIter s (k + d))) := by
          have hlt2 : w.heap.size < W1.heap.size := by
            have := HB.out.2
            apply Classical.byContradiction
            intro h
            rw [Array.getElem?_eq_none (by omega)] at this
            cases this
          exact ⟨HB.out.1.trans (hb2.mono HB.out.1.size), (hb2.block _ hlt2).trans HB.out.2⟩
        clear hb2
        go_wp2_with fail
        go_roundg (s.size - (k + d))
        case measure => omega
        case rel => exact ⟨k + d, rfl, hkd, HB2, HK2⟩
    · obtain rfl : k = s.size := by omega
      have hnx : ∀ ty, (Instr.next (.pointer (some ⟨w.heap.size, 0, none⟩)) true ty).run Tryd.prog wr = .ok (.tuple #[.bool false]) wr := fun ty => Lib.run_next_end_at wr w.heap.size s s.size ty HW.out.2 (by omega)
      have HF := Lib.hid (HE.out s.size HK.out (fun h => absurd h (by omega)) (Nat.le_refl _))
      rw [if_neg (Nat.lt_irrefl _)] at HF
      go_wp2_with fail
      go_ret
      exact ⟨ret_int HF.out.symm, HW.out.1⟩
theorem any_any (s : ByteArray) (hs : s.size < 4294967281) (w : World) :
    Calls Tryd.prog 79 #[.string s, .string { data := #[101, 69] }] w fun e w' => e = .returned (.int .i64 (ixa s)) ∧ Below w.heap.size w w' := by
  by_cases h8 : s.size ≤ 8
  · exact any_short s h8 w
  · exact any_long s (by omega) hs w
end Go.Proofs.YtajjhhodpohfpaaDoor
