/-
  A number's digits in a base, with _ between or not: form and value. And the statements' own whole.
-/
import Derived.Test.YtnejkdaiopjchaaDoorLitFlts
namespace Go.Proofs.YtnejkdaiopjchaaDoor
open Go.RowKit Go.PlainAid

theorem vnL_ge {b : Nat} (hb : 1 ≤ b) : ∀ (l : List UInt8) (v : Nat), v ≤ vnL b v l
  | [], _ => Nat.le_refl _
  | x :: l, v => by
    simp only [vnL]
    split
    · exact vnL_ge hb l v
    · have := vnL_ge hb l (v * b + (dg (x.toNat : Int)).toNat)
      have : v * 1 ≤ v * b := Nat.mul_le_mul_left v hb
      omega
/-- Digits below b, and _. -/
def Els (b : Nat) (l : List UInt8) : Prop := ∀ x ∈ l, x = 95 ∨ dg (x.toNat : Int) < (b : Int)
theorem under_nat (x : UInt8) : (x.toNat : Int) = 95 ↔ x = 95 := ⟨fun h => UInt8.toNat_inj.1 (by have : (95 : UInt8).toNat = 95 := rfl; omega), fun h => by rw [h]; rfl⟩
/-- Without them. -/
def bare (l : List UInt8) : List UInt8 := l.filter fun x => x != 95
theorem vnL_bare (b : Nat) : ∀ (l : List UInt8) (v : Nat), vnL b v (bare l) = vnL b v l
  | [], _ => rfl
  | x :: l, v => by
    by_cases h : x = 95
    · subst h
      have e : bare (95 :: l) = bare l := by simp [bare]
      have e2 : vnL b v (95 :: l) = vnL b v l := by simp only [vnL]; rw [if_pos (show (((95 : UInt8).toNat : Nat) : Int) = 95 from rfl)]
      rw [e, e2, vnL_bare b l v]
    · have e : bare (x :: l) = x :: bare l := by simp [bare, h]
      have hn : ¬ (x.toNat : Int) = 95 := fun h' => h ((under_nat x).1 h')
      rw [e]
      simp only [vnL, if_neg hn]
      exact vnL_bare b l _
theorem bare_els {b : Nat} {l : List UInt8} (h : Els b l) : ∀ x ∈ bare l, x ≠ 95 ∧ dg (x.toNat : Int) < (b : Int) := fun x hx => by
  simp only [bare, List.mem_filter, bne_iff_ne, ne_eq] at hx
  exact ⟨hx.2, (h x hx.1).resolve_left hx.2⟩
theorem fmL_all {b : Nat} : ∀ (l : List UInt8) (h : Bool), (∀ x ∈ l, x ≠ 95 ∧ dg (x.toNat : Int) < (b : Int)) → l ≠ [] → fmL b h l = true
  | [], _, _, h => absurd rfl h
  | x :: l, h, hl, _ => by
    have hx := hl x (by simp)
    have h1 : ¬ ((x.toNat : Int) = 95 ∧ h = true) := fun h' => hx.1 ((under_nat x).1 h'.1)
    simp only [fmL, if_neg h1, if_pos hx.2]
    cases l with
    | nil => rfl
    | cons y l => exact fmL_all (y :: l) true (fun z hz => hl z (by simp [hz])) (by simp)
theorem fmL_ne {b : Int} {l : List UInt8} (h : fmL b false l = true) : l ≠ [] := by
  rintro rfl
  cases h
theorem bare_ne {b : Nat} (hb : b ≤ 36) {l : List UInt8} (h : fmL b false l = true) : bare l ≠ [] := by
  cases l with
  | nil => cases h
  | cons x l =>
    have hx : x ≠ 95 := by
      rintro rfl
      have e : fmL (b : Int) false (95 :: l) = if dg (((95 : UInt8).toNat : Nat) : Int) < (b : Int) then fmL b true l else false := by
        simp only [fmL]
        rw [if_neg (by rintro ⟨-, h⟩; cases h)]
      rw [e, if_neg (by have : dg (((95 : UInt8).toNat : Nat) : Int) = 36 := by decide
                        omega)] at h
      cases h
    simp [bare, hx]
/-- The text of a base's number. -/
def baseT (b : Nat) : ByteArray := if 10 ≤ b then decT.extract (b / 10) (b / 10 + 1) ++ decT.extract (b % 10) (b % 10 + 1) else decT.extract (b % 10) (b % 10 + 1)
theorem baseT_is : ∀ b : Fin 37, 2 ≤ b.val → fmL 10 false (baseT b.val).data.toList = true ∧ vnL 10 0 (baseT b.val).data.toList = b.val ∧ (baseT b.val).size ≤ 2 ∧ ∀ x ∈ (baseT b.val).data.toList, x ≠ 35 := by decide +kernel
theorem drop_mid (x : UInt8) : ∀ (a t : List UInt8), (a ++ x :: t).drop (a.length + 1) = t
  | [], _ => rfl
  | _ :: a, t => drop_mid x a t
/-- A number behind its base. -/
theorem igr_base {b : Nat} (h2 : 2 ≤ b) (h36 : b ≤ 36) {S : ByteArray} {n : Nat} (hf : fmL b false S.data.toList = true) (hv : vnL b 0 S.data.toList = n) (hn : n < 18446744073709551616) :
    igr (baseT b ++ { data := #[35] } ++ S) = ((n : Int), 0) := by
  obtain ⟨p1, p2, p3, p4⟩ := baseT_is ⟨b, by omega⟩ h2
  simp only at p1 p2 p3 p4
  have hl : (baseT b ++ { data := #[35] } ++ S).data.toList = (baseT b).data.toList ++ 35 :: S.data.toList := by simp
  have hs : (baseT b).data.toList.length = (baseT b).size := list_size _
  have hp : Lib.indexByte (baseT b ++ { data := #[35] } ++ S).data.toList 35 = ((baseT b).size : Nat) := by rw [hl, index_app 35 _ _ p4, hs]
  have hz : (baseT b ++ { data := #[35] } ++ S).size = (baseT b).size + 1 + S.size := by rw [ByteArray.size_append, ByteArray.size_append]; rfl
  have hB : nm (baseT b ++ { data := #[35] } ++ S) 10 (baseT b).size 0 = ((b : Int), 0) := by
    rw [← nm_ext _ 10 0 (baseT b).size (by omega) (by omega)]
    have e : ((baseT b ++ { data := #[35] } ++ S).extract 0 (baseT b).size).data.toList = (baseT b).data.toList := by
      have := ext_left (t := 35 :: S.data.toList) hl
      rwa [hs] at this
    rw [nm_of (by rw [List.drop_zero, e]; exact p1) (by rw [List.drop_zero, e, p2]; omega), List.drop_zero, e, p2]
  have hd : (baseT b ++ { data := #[35] } ++ S).data.toList.drop ((baseT b).size + 1) = S.data.toList := by
    rw [hl, ← hs]
    exact drop_mid _ _ _
  rw [igr_based hp p3 hB h2 h36, nm_of (by rw [hd]; exact hf) (by rw [hd, hv]; exact hn), hd, hv]
theorem igr_ten {S : ByteArray} {n : Nat} (hE : Els 10 S.data.toList) (hf : fmL 10 false S.data.toList = true) (hv : vnL 10 0 S.data.toList = n) (hn : n < 18446744073709551616) : igr S = ((n : Int), 0) := by
  have h35 : ∀ x ∈ S.data.toList, x ≠ 35 := fun x hx e => by
    rcases hE x hx with h | h
    · rw [h] at e; cases e
    · rw [e] at h
      have : dg (((35 : UInt8).toNat : Nat) : Int) = 36 := by decide
      omega
  rw [igr_plain (index_no 35 _ h35), nm_of (by rw [List.drop_zero]; exact hf) (by rw [List.drop_zero, hv]; exact hn), List.drop_zero, hv]

theorem take_snoc {s : ByteArray} {k : Nat} (h : k < s.size) : ∃ x : UInt8, s.data.toList.take (k + 1) = s.data.toList.take k ++ [x] ∧ bt s k = (x.toNat : Int) ∧ (s.extract k (k + 1)).data.toList = [x] ∧ x ∈ s.data.toList := by
  have hl : k < s.data.toList.length := by rw [list_size]; exact h
  refine ⟨s.data.toList[k], List.take_succ_eq_append_getElem hl, (get_bt s k h).symm, ?_, List.getElem_mem hl⟩
  rw [Lib.extract_data, List.drop_eq_getElem_cons hl, Nat.add_sub_cancel_left]
  rfl
theorem bare_snoc (l : List UInt8) (x : UInt8) : bare (l ++ [x]) = if x = 95 then bare l else bare l ++ [x] := by
  unfold bare
  rw [List.filter_append]
  by_cases h : x = 95 <;> simp [h]
theorem bare_len (l : List UInt8) : (bare l).length ≤ l.length := List.length_filter_le _ _
/-- What 'whole' asks of a text: its bytes, its form, its value. -/
structure WholeT (b n : Nat) (S : ByteArray) : Prop where
  els : Els b S.data.toList
  form : fmL b false S.data.toList = true
  val : vnL b 0 S.data.toList = n
  size : S.size ≤ 200

def IntAt (s : ByteArray) (n : Int) : Prop := ∀ W, Calls Tryd.prog 9 #[.string s] W fun x w' => x = .returned (.tuple #[.int .u64 n, .int .i64 0]) ∧ Below W.heap.size W w'
set_option maxRecDepth 100000 in
set_option maxHeartbeats 4000000 in
theorem whole_any (S : ByteArray) (b n : Nat) (h2 : 2 ≤ b) (h36 : b ≤ 36) (hn : n < 18446744073709551616) (hS : WholeT b n S) (w : World) :
    Calls Tryd.prog 19 #[.string S, .int .i64 b] w fun e w' => e = .returned (.bool true) ∧ Below w.heap.size w w' := by
  have hsz := hS.size
  have HS := Lib.hid hS
  clear hS
  have gb := get_bt S
  go_enter Tryd.func19, Tryd.ntmps19
  go_wp2_with fail
  go_loopg [5, 6] S.size (fun gn x i wr => ∃ (k : Nat) (T : ByteArray), gn = S.size - k ∧ k ≤ S.size ∧ x = .string T ∧ i = .int .i64 k ∧ T.size ≤ k ∧ Hid (∃ m, wr = w.drewN m) ∧ Hid (T.data.toList = bare (S.data.toList.take k)))
  case atStart => exact ⟨0, ⟨#[]⟩, rfl, Nat.zero_le _, rfl, rfl, Nat.le_refl _, ⟨0, rfl⟩, Lib.hid rfl⟩
  case round =>
    obtain ⟨k, T, hgn, hk, rfl, rfl, hT, HW, HTl⟩ := hrel
    obtain ⟨m0, rfl⟩ := HW.out
    by_cases hlt : k < S.size
    · obtain ⟨x, x1, x2, x3, -⟩ := take_snoc hlt
      obtain ⟨P, hP⟩ : ∃ P, S.extract k (k + 1) = P := ⟨_, rfl⟩
      rw [hP] at x3
      have hPz : P.size = 1 := by rw [← list_size, x3]; rfl
      have hy := gb k hlt
      by_cases h95 : x = 95
      · have g95 : (bt S k != 95) = false := by rw [x2, h95]; rfl
        have HN := Lib.hid (show T.data.toList = bare (S.data.toList.take (k + 1)) by rw [x1, bare_snoc, if_pos h95]; exact HTl.out)
        clear x1 x2 x3 h95 hPz
        go_wp2_with fail
        go_roundg (S.size - (k + 1))
        case measure => omega
        case rel => exact ⟨k + 1, T, rfl, hlt, rfl, by go_num, by omega, ⟨_, rfl⟩, HN⟩
      · have g95 : (bt S k != 95) = true := by
          rw [x2]
          simpa using fun h => h95 ((under_nat x).1 h)
        have HN := Lib.hid (show (T ++ P).data.toList = bare (S.data.toList.take (k + 1)) by rw [x1, bare_snoc, if_neg h95, ByteArray.toList_data_append, HTl.out, x3])
        clear x1 x2 x3 h95
        go_wp2_with fail
        go_roundg (S.size - (k + 1))
        case measure => omega
        case rel => exact ⟨k + 1, T ++ P, rfl, hlt, rfl, by go_num, by rw [ByteArray.size_append]; omega, ⟨_, rfl⟩, HN⟩
    · obtain rfl : k = S.size := by omega
      have HT0 : Hid (T.data.toList = bare S.data.toList) := by
        have := HTl.out
        rw [List.take_of_length_le (by rw [list_size]; exact Nat.le_refl _)] at this
        exact this
      have hT2 := HS.out
      have HTW : Hid (WholeT b n T) := ⟨fun x hx => .inr ((bare_els hT2.els x (by rw [← HT0.out]; exact hx)).2), by rw [HT0.out]; exact fmL_all _ _ (bare_els hT2.els) (bare_ne h36 hT2.form), by rw [HT0.out, vnL_bare]; exact hT2.val, by omega⟩
      have HTE : Hid (∀ x ∈ T.data.toList, x ≠ 95 ∧ dg (x.toNat : Int) < (b : Int)) := fun x hx => bare_els hT2.els x (by rw [← HT0.out]; exact hx)
      have bz := (baseT_is ⟨b, by omega⟩ h2).2.2.1
      simp only at bz
      have k35 : ({ data := #[35] } : ByteArray).size = 1 := rfl
      have I1 : Hid (IntAt (baseT b ++ { data := #[35] } ++ S) n) := fun W => integer_is _ _ _ (by rw [ByteArray.size_append, ByteArray.size_append]; omega) (igr_base h2 h36 hT2.form hT2.val hn) W
      have I2 : Hid (IntAt (baseT b ++ { data := #[35] } ++ T) n) := fun W => integer_is _ _ _ (by rw [ByteArray.size_append, ByteArray.size_append]; omega) (igr_base h2 h36 HTW.out.form HTW.out.val hn) W
      have I3 : Hid (b = 10 → IntAt S n) := fun hb W => integer_is _ _ _ (by omega) (igr_ten (by rw [← hb]; exact hT2.els) (by have := hT2.form; rw [hb] at this; exact this) (by rw [← hb]; exact hT2.val) hn) W
      have em : ((b : Int)).tmod 10 = ((b % 10 : Nat) : Int) := by rw [Int.tmod_eq_emod_of_nonneg (by omega)]; omega
      have ed : ((b : Int)).tdiv 10 = ((b / 10 : Nat) : Int) := by rw [Int.tdiv_eq_ediv_of_nonneg (by omega)]; omega
      have m10 : b % 10 < 10 := Nat.mod_lt _ (by omega)
      have d10 : b / 10 < 10 := by omega
      have eP : baseT b = if 10 ≤ b then ({ data := #[48, 49, 50, 51, 52, 53, 54, 55, 56, 57] } : ByteArray).extract (b / 10) (b / 10 + 1) ++ ({ data := #[48, 49, 50, 51, 52, 53, 54, 55, 56, 57] } : ByteArray).extract (b % 10) (b % 10 + 1) else ({ data := #[48, 49, 50, 51, 52, 53, 54, 55, 56, 57] } : ByteArray).extract (b % 10) (b % 10 + 1) := rfl
      obtain ⟨P, hP⟩ : ∃ P, P = baseT b := ⟨_, rfl⟩
      rw [← hP] at I1 I2 bz eP
      obtain ⟨y, hy⟩ : ∃ y, y = b % 10 := ⟨_, rfl⟩
      obtain ⟨z, hz⟩ : ∃ z, z = b / 10 := ⟨_, rfl⟩
      rw [← hy] at em m10 eP
      rw [← hz] at ed d10 eP
      have h10 : ({ data := #[48, 49, 50, 51, 52, 53, 54, 55, 56, 57] } : ByteArray).size = 10 := rfl
      have z1 : (({ data := #[48, 49, 50, 51, 52, 53, 54, 55, 56, 57] } : ByteArray).extract y (y + 1)).size = 1 := by rw [size_ext _ _ _ (by omega)]; omega
      have z2 : (({ data := #[48, 49, 50, 51, 52, 53, 54, 55, 56, 57] } : ByteArray).extract z (z + 1)).size = 1 := by rw [size_ext _ _ _ (by omega)]; omega
      clear hP hy hz hT2 HTl gb k35 h10
      have hcase : (10 ≤ b ∧ ({ data := #[48, 49, 50, 51, 52, 53, 54, 55, 56, 57] } : ByteArray).extract z (z + 1) ++ ({ data := #[48, 49, 50, 51, 52, 53, 54, 55, 56, 57] } : ByteArray).extract y (y + 1) = P) ∨ (¬ 10 ≤ b ∧ ({ data := #[48, 49, 50, 51, 52, 53, 54, 55, 56, 57] } : ByteArray).extract y (y + 1) = P) := by
        by_cases hb10 : 10 ≤ b
        · rw [if_pos hb10] at eP; exact .inl ⟨hb10, eP.symm⟩
        · rw [if_neg hb10] at eP; exact .inr ⟨hb10, eP.symm⟩
      have HGT := Lib.hid (get_bt T)
      clear eP
      rcases hcase with ⟨hb10, eP⟩ | ⟨hb10, eP⟩
      all_goals
        go_wp2_with fail
        refine (I1.out _).mono ?_
        rintro e w1 ⟨rfl, hb1⟩
        have HB1 : Hid (Below w.heap.size w w1) := (Below.ofDrewN w _).trans hb1
        clear hb1
        go_wp2_with fail
        refine (I2.out _).mono ?_
        rintro e w2 ⟨rfl, hb2⟩
        have HB2 : Hid (Below w.heap.size w w2) := HB1.out.trans (hb2.mono HB1.out.size)
        clear hb2
        go_wp2_with fail
        go_loopg [12, 13] T.size (fun gn v i wr => ∃ (k V : Nat), gn = T.size - k ∧ k ≤ T.size ∧ v = .int .u64 V ∧ i = .int .i64 k ∧ Hid (∃ m, wr = w2.drewN m) ∧ Hid (vnL b V (T.data.toList.drop k) = n))
        case atStart => exact ⟨0, 0, rfl, Nat.zero_le _, rfl, rfl, ⟨0, rfl⟩, by rw [List.drop_zero]; exact HTW.out.val⟩
        case round =>
          obtain ⟨k, V, hgn, hk, rfl, rfl, HW2, HV⟩ := hrel
          obtain ⟨m2, rfl⟩ := HW2.out
          by_cases hlt : k < T.size
          · obtain ⟨x, hx, hxb⟩ := drop_bt hlt
            have gx := HGT.out k hlt
            have hmem : x ∈ T.data.toList := List.mem_of_mem_drop (i := k) (by rw [hx]; simp)
            obtain ⟨n95, hd⟩ := HTE.out x hmem
            have hn95 : ¬ (x.toNat : Int) = 95 := fun h => n95 ((under_nat x).1 h)
            have hv2 : vnL b (V * b + (dg (x.toNat : Int)).toNat) (T.data.toList.drop (k + 1)) = n := by
              have := HV.out
              rw [hx] at this
              simp only [vnL, if_neg hn95] at this
              exact this
            rw [hxb] at gx
            obtain ⟨q, hq⟩ : ∃ q, q = (x.toNat : Int) := ⟨_, rfl⟩
            rw [← hq] at gx hd hv2
            have hqb : 0 ≤ q ∧ q ≤ 255 := by have := UInt8.toNat_lt x; omega
            have hd0 := (dg_bd q).1
            obtain ⟨d, hdd⟩ : ∃ d : Nat, dg q = (d : Int) := ⟨(dg q).toNat, by omega⟩
            rw [hdd] at hd hv2
            have hge := vnL_ge (b := b) (by omega) (T.data.toList.drop (k + 1)) (V * b + (d : Int).toNat)
            rw [hv2] at hge
            rw [Int.toNat_natCast] at hge hv2
            have HV2 := Lib.hid hv2
            have w0 : IntKind.u64.wrap (b : Int) = (b : Int) := by rw [IntKind.wrap_u64]; omega
            have w1' : IntKind.u64.wrap ((V : Int) * (b : Int)) = (V : Int) * (b : Int) := by
              have e : (V : Int) * (b : Int) = ((V * b : Nat) : Int) := by push_cast; rfl
              rw [e, IntKind.wrap_u64]; omega
            have w2' : IntKind.u64.wrap ((V : Int) * (b : Int) + (d : Int)) = (V : Int) * (b : Int) + (d : Int) := by
              have e : (V : Int) * (b : Int) = ((V * b : Nat) : Int) := by push_cast; rfl
              rw [e, IntKind.wrap_u64]; omega
            have w3' : IntKind.u64.wrap (d : Int) = (d : Int) := by rw [IntKind.wrap_u64]; omega
            clear hx hxb hmem n95 hn95 hq hge hv2
            have hdc : (97 ≤ q ∧ q - 97 + 10 = (d : Int)) ∨ (¬ 97 ≤ q ∧ 65 ≤ q ∧ q - 65 + 10 = (d : Int)) ∨ (¬ 97 ≤ q ∧ ¬ 65 ≤ q ∧ q - 48 = (d : Int)) := by
              unfold dg at hdd
              split at hdd
              · exact .inr (.inr ⟨by omega, by omega, by omega⟩)
              · split at hdd
                · exact .inr (.inl ⟨by omega, by omega, by omega⟩)
                · split at hdd
                  · exact .inl ⟨by omega, by omega⟩
                  · omega
            obtain ⟨hq0, hq1⟩ := hqb
            clear hdd hd0
            rcases hdc with ⟨c1, c2⟩ | ⟨c1, c2, c3⟩ | ⟨c1, c2, c3⟩
            all_goals
              go_wp2_with fail
              go_roundg (T.size - (k + 1))
              case measure => omega
              case rel => exact ⟨k + 1, V * b + d, rfl, hlt, by push_cast; rfl, by go_num, ⟨_, rfl⟩, HV2⟩
          · obtain rfl : k = T.size := by omega
            have hVn := HV.out
            rw [drop_all (by omega)] at hVn
            obtain rfl : V = n := hVn
            by_cases h10 : b = 10
            · have I3' := Lib.hid (I3.out h10)
              subst h10
              go_wp2_with fail
              refine (I3'.out _).mono ?_
              rintro e w3 ⟨rfl, hb3⟩
              have HB3 : Hid (Below w.heap.size w w3) := HB2.out.trans (((Below.ofDrewN w2 _).trans hb3).mono HB2.out.size)
              clear hb3
              go_wp2_with fail
              go_ret
              exact ⟨rfl, HB3.out⟩
            · have g10 : ((b : Int) == 10) = false := beq_false_of_ne (by omega)
              have HB3 : Hid (Below w.heap.size w (w2.drewN m2)) := HB2.out.trans ((Below.ofDrewN w2 _).mono HB2.out.size)
              go_wp2_with fail
              go_ret
              exact ⟨rfl, HB3.out⟩
end Go.Proofs.YtnejkdaiopjchaaDoor
