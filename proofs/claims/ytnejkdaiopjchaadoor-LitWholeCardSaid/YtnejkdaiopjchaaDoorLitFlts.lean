/-
  Floats over the list of a text's bytes: what stands ahead of the point, between, behind e. And the statements' own digits.
-/
import Derived.Test.YtnejkdaiopjchaaDoorLitForms
namespace Go.Proofs.YtnejkdaiopjchaaDoor
open Go.RowKit Go.PlainAid

/-- A number's digits. -/
def Dig (l : List UInt8) : Prop := l ≠ [] ∧ ∀ x ∈ l, 48 ≤ x.toNat ∧ x.toNat ≤ 57
theorem fmL_dig : ∀ (a t : List UInt8) (h : Bool), (∀ x ∈ a, 48 ≤ x.toNat ∧ x.toNat ≤ 57) → a ≠ [] → fmL 10 h (a ++ t) = fmL 10 true t
  | [], _, _, _, h => absurd rfl h
  | x :: a, t, h, hd, _ => by
    have hx := hd x (by simp)
    have h1 : ¬ ((x.toNat : Int) = 95 ∧ h = true) := by omega
    have h2 : dg (x.toNat : Int) < 10 := by unfold dg; rw [if_pos (by omega)]; omega
    show fmL 10 h (x :: (a ++ t)) = _
    simp only [fmL, if_neg h1, if_pos h2]
    cases a with
    | nil => rfl
    | cons y a => exact fmL_dig (y :: a) t true (fun z hz => hd z (by simp [hz])) (by simp)
theorem Dig.fm {l : List UInt8} (h : Dig l) (t : List UInt8) (b : Bool) : fmL 10 b (l ++ t) = fmL 10 true t := fmL_dig l t b h.2 h.1
theorem Dig.whole {l : List UInt8} (h : Dig l) : fmL 10 false l = true := by
  have := h.fm [] false
  rw [List.append_nil] at this
  rw [this]; rfl
theorem Dig.no {l : List UInt8} (h : Dig l) {c : UInt8} (hc : c.toNat < 48 ∨ 57 < c.toNat) : ∀ x ∈ l, x ≠ c := fun x hx e => by
  have := h.2 x hx
  rw [e] at this
  omega
theorem index_app (c : UInt8) : ∀ (a t : List UInt8), (∀ x ∈ a, x ≠ c) → Lib.indexByte (a ++ c :: t) c = (a.length : Nat)
  | [], t, _ => by simp [Lib.indexByte]
  | x :: a, t, h => by
    have ih := index_app c a t (fun y hy => h y (by simp [hy]))
    have hx : (x == c) = false := beq_false_of_ne (h x (by simp))
    show Lib.indexByte (x :: (a ++ c :: t)) c = _
    have hne : ((a.length : Nat) : Int) ≠ -1 := by omega
    simp only [Lib.indexByte, hx, ih, beq_false_of_ne hne]
    simp
theorem index_no (c : UInt8) : ∀ (a : List UInt8), (∀ x ∈ a, x ≠ c) → Lib.indexByte a c = -1
  | [], _ => rfl
  | x :: a, h => by
    have ih := index_no c a (fun y hy => h y (by simp [hy]))
    have hx : (x == c) = false := beq_false_of_ne (h x (by simp))
    simp [Lib.indexByte, hx, ih]
theorem list_size (s : ByteArray) : s.data.toList.length = s.size := by rw [Array.length_toList]; rfl
theorem ext_left {s : ByteArray} {a t : List UInt8} (h : s.data.toList = a ++ t) : (s.extract 0 a.length).data.toList = a := by
  rw [Lib.extract_data, h]; simp
theorem ext_right {s : ByteArray} {a t : List UInt8} {c : UInt8} (h : s.data.toList = a ++ c :: t) : (s.extract (a.length + 1) s.size).data.toList = t := by
  rw [Lib.extract_data, h, ← list_size, h]
  simp
  exact List.take_of_length_le (by omega)
theorem fm_whole (s : ByteArray) (b : Int) : fm s b s.size 0 false = fmL b false s.data.toList := by
  rw [fm_list s b _ 0 false (Nat.le_refl _), List.drop_zero]
/-- What may stand behind e. -/
def exqL : List UInt8 → Bool
  | [] => false
  | x :: l => if x = 43 ∨ x = 45 then fmL 10 false l else fmL 10 false (x :: l)
theorem exq_list (s : ByteArray) (l : List UInt8) (h : s.data.toList = l) : exq s 0 = exqL l := by
  subst h
  unfold exq
  by_cases hz : s.size = 0
  · obtain rfl := empty_of hz
    decide +kernel
  · obtain ⟨x, hx, hb⟩ := drop_bt (s := s) (k := 0) (by omega)
    rw [List.drop_zero] at hx
    rw [hx, hb, fm_list s 10 _ 1 false (Nat.le_refl _), fm_list s 10 _ 0 false (Nat.le_refl _), List.drop_zero, hx]
    have e : ((x.toNat : Int) = 43 ∨ (x.toNat : Int) = 45) ↔ (x = 43 ∨ x = 45) := by
      constructor
      · rintro (h | h)
        · exact .inl (UInt8.toNat_inj.1 (by have : (43 : UInt8).toNat = 43 := rfl; omega))
        · exact .inr (UInt8.toNat_inj.1 (by have : (45 : UInt8).toNat = 45 := rfl; omega))
      · rintro (h | h)
        · exact .inl (by rw [h]; rfl)
        · exact .inr (by rw [h]; rfl)
    by_cases hs : x = 43 ∨ x = 45
    · rw [if_pos (e.2 hs)]; simp [exqL, hs]
    · rw [if_neg (fun h => hs (e.1 h))]; simp [exqL, hs]
theorem any_app (c : UInt8) (hc : c = 101 ∨ c = 69) : ∀ (a t : List UInt8), (∀ x ∈ a, x ≠ 101 ∧ x ≠ 69) → Lib.indexAny (a ++ c :: t) [101, 69] = (a.length : Nat) := fun a t h => by
  refine Lib.indexAny_hit (x := c) (fun j b hj hb => ?_) (by simp) (by rcases hc with rfl | rfl <;> rfl)
  rw [List.getElem?_append_left hj] at hb
  have := h b (List.mem_of_getElem? hb)
  simp [this.1, this.2]
theorem any_no (a : List UInt8) (h : ∀ x ∈ a, x ≠ 101 ∧ x ≠ 69) : Lib.indexAny a [101, 69] = -1 := by
  refine Lib.indexAny_none (fun j b _ hb => ?_)
  have := h b (List.mem_of_getElem? hb)
  simp [this.1, this.2]
theorem flr_e {R : ByteArray} {a t : List UInt8} {c : UInt8} (hc : c = 101 ∨ c = 69) (h : R.data.toList = a ++ c :: t) (ha : ∀ x ∈ a, x ≠ 101 ∧ x ≠ 69) : flr R = (fmL 10 false a && exqL t) := by
  obtain ⟨e, hlt⟩ := ixe_hit (s := R) (p := a.length) (by rw [h]; exact any_app c hc a t ha)
  unfold flr
  rw [e, if_pos hlt, ← fm_ext R 10 0 a.length (by omega) (by omega), fm_whole, ext_left (t := c :: t) h]
  have := exq_tail R (a.length + 1) 0 (by omega) (by omega)
  rw [Nat.add_zero] at this
  rw [← this, exq_list _ t (ext_right h)]
theorem flr_no {R : ByteArray} {a : List UInt8} (h : R.data.toList = a) (ha : ∀ x ∈ a, x ≠ 101 ∧ x ≠ 69) : flr R = fmL 10 false a := by
  have := ixe_miss (s := R) (by rw [h]; exact any_no a ha)
  unfold flr
  rw [if_neg this, fm_whole, h]
theorem flt_app {s : ByteArray} {a t : List UInt8} (h : s.data.toList = a ++ 46 :: t) (ha : ∀ x ∈ a, x ≠ 46) : ∃ R : ByteArray, R.data.toList = t ∧ flt s = (fmL 10 false a && flr R) := by
  obtain ⟨e, hlt⟩ := ix_hit (s := s) (c := 46) (p := a.length) (by rw [h]; exact index_app 46 a t ha)
  have e' : ix s 46 0 = a.length := e
  refine ⟨s.extract (a.length + 1) s.size, ext_right h, ?_⟩
  unfold flt
  rw [e', if_pos hlt, ← fm_ext s 10 0 a.length (by omega) (by omega), fm_whole, ext_left (t := 46 :: t) h]
theorem flt_no {s : ByteArray} (h : ∀ x ∈ s.data.toList, x ≠ 46) : flt s = false := by
  have := ix_miss (s := s) (c := 46) (index_no 46 _ h)
  have h' : ¬ ix s 46 0 < s.size := this
  unfold flt
  rw [if_neg h']
theorem dig_e {l : List UInt8} (h : Dig l) : ∀ x ∈ l, x ≠ 101 ∧ x ≠ 69 := fun x hx => ⟨h.no (c := 101) (.inr (by decide)) x hx, h.no (c := 69) (.inr (by decide)) x hx⟩
theorem dig_p {l : List UInt8} (h : Dig l) : ∀ x ∈ l, x ≠ 46 := h.no (c := 46) (.inl (by decide))
theorem exqL_dig {l t : List UInt8} (h : Dig l) : exqL (l ++ t) = fmL 10 true t := by
  obtain ⟨x, l', rfl⟩ : ∃ x l', l = x :: l' := by
    cases l with
    | nil => exact absurd rfl h.1
    | cons x l' => exact ⟨x, l', rfl⟩
  have h1 := h.no (c := 43) (.inl (by decide)) x (by simp)
  have h2 := h.no (c := 45) (.inl (by decide)) x (by simp)
  show exqL (x :: (l' ++ t)) = _
  simp only [exqL, h1, h2, or_self, if_false]
  exact h.fm t false
theorem exqL_sign {l t : List UInt8} {c : UInt8} (hc : c = 43 ∨ c = 45) (h : Dig l) : exqL (c :: (l ++ t)) = fmL 10 true t := by
  simp only [exqL, hc, if_true]
  exact h.fm t false

/-- The text of some digits. -/
def DigT (S : ByteArray) : Prop := Dig S.data.toList ∧ S.size ≤ 5
theorem digits4_any (a : Int) (w : World) :
    Calls Tryd.prog 22 #[.int .i64 a] w fun e w' => (∃ S, e = .returned (.string S) ∧ DigT S) ∧ w = w' := by
  obtain ⟨c, hc0, hc1, er⟩ : ∃ c : Nat, c < 100000 ∧ 0 ≤ c ∧ (IntKind.u64.wrap a).tmod 100000 = (c : Int) := by
    have := IntKind.wrap_u64 a
    have h0 := Int.tmod_nonneg (a := IntKind.u64.wrap a) 100000 (by omega)
    have h1 := Int.tmod_lt_of_pos (IntKind.u64.wrap a) (b := 100000) (by omega)
    exact ⟨((IntKind.u64.wrap a).tmod 100000).toNat, by omega, by omega, by omega⟩
  go_enter Tryd.func22, Tryd.ntmps22
  go_wp2_with fail
  go_loopg [3, 4] 5 (fun gn v x wr => ∃ (k d : Nat) (S : ByteArray), gn = 5 - k ∧ k < 5 ∧ d < 100000 ∧ v = .int .i64 d ∧ x = .string S ∧ wr = w ∧ S.size = k ∧ Hid (d < 10 ^ (5 - k)) ∧ Hid (∀ x ∈ S.data.toList, 48 ≤ x.toNat ∧ x.toNat ≤ 57))
  case atStart => exact ⟨0, c, ⟨#[]⟩, rfl, by omega, by omega, rfl, rfl, rfl, rfl, Lib.hid (by omega), Lib.hid (fun x hx => by cases hx)⟩
  case round =>
    obtain ⟨k, d, S, hgn, hk, hd, rfl, rfl, rfl, hz, HD, HS⟩ := hrel
    obtain ⟨y, hy⟩ : ∃ y : Nat, y = d % 10 := ⟨_, rfl⟩
    have em : ((d : Int)).tmod 10 = (y : Int) := by rw [Int.tmod_eq_emod_of_nonneg (by omega), hy]; omega
    have ed : ((d : Int)).tdiv 10 = ((d / 10 : Nat) : Int) := by rw [Int.tdiv_eq_ediv_of_nonneg (by omega)]; omega
    have hy10 : y < 10 := by omega
    have hz0 : ({ data := #[48, 49, 50, 51, 52, 53, 54, 55, 56, 57] } : ByteArray).size = 10 := rfl
    have hz1 : (({ data := #[48, 49, 50, 51, 52, 53, 54, 55, 56, 57] } : ByteArray).extract y (y + 1)).size = 1 := by rw [size_ext _ _ _ (by rw [hz0]; omega)]; omega
    obtain ⟨P, hP⟩ : ∃ P, P = ({ data := #[48, 49, 50, 51, 52, 53, 54, 55, 56, 57] } : ByteArray).extract y (y + 1) := ⟨_, rfl⟩
    have HP : Hid (∀ x ∈ P.data.toList, 48 ≤ x.toNat ∧ x.toNat ≤ 57) := by
      rw [hP, Lib.extract_data]
      intro x hx
      have := List.mem_of_mem_drop (List.mem_of_mem_take hx)
      have key : ∀ x ∈ ([48, 49, 50, 51, 52, 53, 54, 55, 56, 57] : List UInt8), 48 ≤ x.toNat ∧ x.toNat ≤ 57 := by decide +kernel
      exact key x this
    rw [← hP] at hz1
    obtain ⟨q, hq⟩ : ∃ q, q = d / 10 := ⟨_, rfl⟩
    rw [← hq] at ed
    have HQ := Lib.hid hq
    have HY := Lib.hid hy
    have hq2 : q < 100000 := by omega
    clear hy hq hz0
    have hP' := hP.symm
    clear hP
    have HPS : Hid (DigT (P ++ S)) := by
      refine ⟨⟨?_, fun x hx => ?_⟩, by rw [ByteArray.size_append]; omega⟩
      · intro h0
        have := list_size (P ++ S)
        rw [h0, ByteArray.size_append] at this
        simp at this
        omega
      · rw [ByteArray.toList_data_append] at hx
        rcases List.mem_append.1 hx with h | h
        · exact HP.out x h
        · exact HS.out x h
    have HPS2 : Hid (∀ x ∈ (P ++ S).data.toList, 48 ≤ x.toNat ∧ x.toNat ≤ 57) := HPS.out.1.2
    have hz3 : (P ++ S).size = k + 1 := by rw [ByteArray.size_append]; omega
    by_cases hq0 : q = 0
    · subst hq0
      go_wp2_with fail
      go_ret
      exact ⟨⟨_, rfl, HPS.out⟩, rfl⟩
    · have gq : ((q : Int) == 0) = false := beq_false_of_ne (by omega)
      have hk4 : k < 4 := by
        apply Classical.byContradiction
        intro h
        have h1 := HD.out
        rw [show 5 - k = 1 by omega] at h1
        have := HQ.out
        omega
      have HD2 := Lib.hid (show q < 10 ^ (5 - (k + 1)) by
        have h1 := HD.out
        have h2 := HQ.out
        rw [show 5 - k = (5 - (k + 1)) + 1 by omega, Nat.pow_succ] at h1
        rw [h2]
        exact Nat.div_lt_of_lt_mul (by rw [Nat.mul_comm]; exact h1))
      go_wp2_with fail
      go_roundg (5 - (k + 1))
      case measure => omega
      case rel => exact ⟨k + 1, q, P ++ S, rfl, by omega, hq2, rfl, rfl, rfl, hz3, HD2, HPS2⟩
end Go.Proofs.YtnejkdaiopjchaaDoor
