/-
  Plain facts on bytes: code points, digits, names, escapes, signs.
-/
import Derived.PlainAid
import Derived.Laws.BitsLemmas
import Derived.Laws.BitsAllLaws
import Derived.Laws.RangeAny
set_option linter.all false
/- Plain facts on the bytes of a text: which code point begins at a byte, how long it is, what a valid text is, how many code points it has. Nothing of the program stands here. -/
namespace Go.Proofs.YtbjgoigdhijbgaaDoor
open Go.PlainAid

/-- Is a number a code point? -/
def isPt (c : Int) : Bool := decide (0 ≤ c ∧ c < 55296 ∨ 57344 ≤ c ∧ c < 1114112)
/-- Does a byte follow on? -/
def isCo (x : Int) : Bool := decide (128 ≤ x ∧ x < 192)
/-- How many bytes are begun by a byte; 0: none. -/
def ln (x : Int) : Nat := if x < 128 then 1 else if x < 192 then 0 else if x < 224 then 2 else if x < 240 then 3 else if x < 248 then 4 else 0
def hdOf : Nat → Int
  | 2 => 192
  | 3 => 224
  | 4 => 240
  | _ => 0
def lstOf : Nat → Int
  | 2 => 128
  | 3 => 2048
  | 4 => 65536
  | _ => 0
/-- The bits of a head (less h) and of the i bytes behind it. -/
def jp (s : ByteArray) (k : Nat) (h : Int) : Nat → Int
  | 0 => bt s k - h
  | i + 1 => jp s k h i * 64 + (bt s (k + (i + 1)) - 128)
/-- The i bytes behind k follow on. -/
def okn (s : ByteArray) (k : Nat) : Nat → Bool
  | 0 => true
  | i + 1 => okn s k i && isCo (bt s (k + (i + 1)))
def jv (s : ByteArray) (k n : Nat) : Int := if okn s k (n - 1) = true then jp s k (hdOf n) (n - 1) else -1
/-- The code point at byte k; -1: none. -/
def nc (s : ByteArray) (k : Nat) : Int :=
  if ln (bt s k) = 0 ∨ s.size < k + ln (bt s k) then -1
  else if jv s k (ln (bt s k)) < lstOf (ln (bt s k)) then -1
  else if isPt (jv s k (ln (bt s k))) = true then jv s k (ln (bt s k)) else -1
/-- How many bytes it has; 1 if there is none. -/
def nl (s : ByteArray) (k : Nat) : Nat := if nc s k < 0 then 1 else ln (bt s k)

theorem nc_pt {s : ByteArray} {k : Nat} (h : ¬ nc s k < 0) : isPt (nc s k) = true := by
  unfold nc at h ⊢
  split
  · simp_all
  · split
    · simp_all
    · split
      · assumption
      · simp_all
theorem nl_pos (s : ByteArray) (k : Nat) : 1 ≤ nl s k := by
  unfold nl
  split
  · omega
  · rename_i h
    unfold nc at h
    split at h
    · omega
    · omega
theorem nc_in {s : ByteArray} {k : Nat} (h : ¬ nc s k < 0) : ln (bt s k) ≠ 0 ∧ k + ln (bt s k) ≤ s.size := by
  unfold nc at h
  split at h
  · omega
  · omega
theorem nl_in (s : ByteArray) (k : Nat) (hk : k < s.size) : k + nl s k ≤ s.size := by
  unfold nl
  split
  · omega
  · rename_i h; exact (nc_in h).2
theorem ln_le (x : Int) : ln x ≤ 4 := by
  unfold ln
  repeat' split
  all_goals omega
theorem nl_le (s : ByteArray) (k : Nat) : nl s k ≤ 4 := by unfold nl; split; omega; exact ln_le _

/-- All from byte k on is code points. -/
def vd (s : ByteArray) (k : Nat) : Bool := if _h : k < s.size then (if nc s k < 0 then false else vd s (k + nl s k)) else true
termination_by s.size - k
decreasing_by have := nl_pos s k; omega
/-- How many from byte k on. -/
def ct (s : ByteArray) (k : Nat) : Nat := if _h : k < s.size then 1 + ct s (k + nl s k) else 0
termination_by s.size - k
decreasing_by have := nl_pos s k; omega
theorem vd_end {s : ByteArray} {k : Nat} (h : ¬ k < s.size) : vd s k = true := by rw [vd]; simp [h]
theorem vd_bad {s : ByteArray} {k : Nat} (h : k < s.size) (hn : nc s k < 0) : vd s k = false := by rw [vd]; simp [h, hn]
theorem vd_go {s : ByteArray} {k : Nat} (h : k < s.size) (hn : ¬ nc s k < 0) : vd s k = vd s (k + nl s k) := by rw [vd]; simp [h, hn]
theorem ct_end {s : ByteArray} {k : Nat} (h : ¬ k < s.size) : ct s k = 0 := by rw [ct]; simp [h]
theorem ct_go {s : ByteArray} {k : Nat} (h : k < s.size) : ct s k = 1 + ct s (k + nl s k) := by rw [ct]; simp [h]
theorem ct_le (s : ByteArray) : ∀ m k : Nat, s.size - k ≤ m → ct s k ≤ s.size - k := by
  intro m
  induction m with
  | zero => intro k h; rw [ct_end (by omega)]; omega
  | succ m ih =>
    intro k h
    by_cases hk : k < s.size
    · rw [ct_go hk]
      have := nl_pos s k
      have := nl_in s k hk
      have := ih (k + nl s k) (by omega)
      omega
    · rw [ct_end hk]; omega

/-! ### two texts one behind the other -/
theorem bt_app_l (a b : ByteArray) (i : Nat) (h : i < a.size) : bt (a ++ b) i = bt a i := by
  unfold bt
  rw [dif_pos h, dif_pos (by rw [ByteArray.size_append]; omega)]
  simp [ByteArray.getElem_append_left, h]
theorem bt_app_r (a b : ByteArray) (i : Nat) : bt (a ++ b) (a.size + i) = bt b i := by
  unfold bt
  by_cases h : i < b.size
  · rw [dif_pos h, dif_pos (by rw [ByteArray.size_append]; omega)]
    rw [ByteArray.getElem_append_right (by omega)]
    simp
  · rw [dif_neg h, dif_neg (by rw [ByteArray.size_append]; omega)]
theorem jp_congr {s t : ByteArray} {k j : Nat} {h : Int} : ∀ i : Nat, (∀ x, x ≤ i → bt s (k + x) = bt t (j + x)) → jp s k h i = jp t j h i
  | 0, e => by have := e 0 (Nat.le_refl _); simp only [Nat.add_zero] at this; simp only [jp, this]
  | i + 1, e => by simp only [jp]; rw [jp_congr i (fun x hx => e x (by omega)), e (i + 1) (Nat.le_refl _)]
theorem okn_congr {s t : ByteArray} {k j : Nat} : ∀ i : Nat, (∀ x, x ≤ i → bt s (k + x) = bt t (j + x)) → okn s k i = okn t j i
  | 0, _ => rfl
  | i + 1, e => by simp only [okn]; rw [okn_congr i (fun x hx => e x (by omega)), e (i + 1) (Nat.le_refl _)]
theorem jv_congr {s t : ByteArray} {k j n : Nat} (e : ∀ x, x < n → bt s (k + x) = bt t (j + x)) (hn : n ≠ 0) : jv s k n = jv t j n := by
  unfold jv
  rw [jp_congr (n - 1) (fun x hx => e x (by omega)), okn_congr (n - 1) (fun x hx => e x (by omega))]
theorem nc_congr {s t : ByteArray} {k j : Nat} (h0 : bt s k = bt t j) (hs : k + ln (bt t j) ≤ s.size) (ht : j + ln (bt t j) ≤ t.size) (e : ∀ x, x < ln (bt t j) → bt s (k + x) = bt t (j + x)) : nc s k = nc t j := by
  unfold nc
  rw [h0]
  by_cases hz : ln (bt t j) = 0
  · simp [hz]
  · have n1 : ¬ (ln (bt t j) = 0 ∨ s.size < k + ln (bt t j)) := by omega
    have n2 : ¬ (ln (bt t j) = 0 ∨ t.size < j + ln (bt t j)) := by omega
    simp only [if_neg n1, if_neg n2, jv_congr e hz]
/-- Within the second text all is as in it alone. -/
theorem nc_app_r (a b : ByteArray) (i : Nat) : nc (a ++ b) (a.size + i) = nc b i := by
  have e : ∀ x, bt (a ++ b) (a.size + i + x) = bt b (i + x) := fun x => by rw [Nat.add_assoc]; exact bt_app_r a b (i + x)
  have h0 := e 0
  simp only [Nat.add_zero] at h0
  by_cases h : i + ln (bt b i) ≤ b.size
  · exact nc_congr h0 (by rw [ByteArray.size_append]; omega) h (fun x _ => e x)
  · unfold nc
    rw [h0, if_pos (by rw [ByteArray.size_append]; omega), if_pos (by omega)]
theorem nl_app_r (a b : ByteArray) (i : Nat) : nl (a ++ b) (a.size + i) = nl b i := by
  unfold nl
  rw [nc_app_r, bt_app_r]
/-- What is whole in the first text is that in both. -/
theorem nc_app_l {a : ByteArray} (b : ByteArray) {i : Nat} (h : ¬ nc a i < 0) : nc (a ++ b) i = nc a i := by
  obtain ⟨h1, h2⟩ := nc_in h
  have e : ∀ x, x < ln (bt a i) → bt (a ++ b) (i + x) = bt a (i + x) := fun x hx => bt_app_l a b _ (by omega)
  exact nc_congr (e 0 (by omega)) (by rw [ByteArray.size_append]; omega) h2 e
theorem nl_app_l {a : ByteArray} (b : ByteArray) {i : Nat} (h : ¬ nc a i < 0) : nl (a ++ b) i = nl a i := by
  unfold nl
  rw [nc_app_l b h, bt_app_l a b i (by have := nc_in h; omega)]
theorem vd_app_r (a b : ByteArray) : ∀ m i : Nat, b.size - i ≤ m → vd (a ++ b) (a.size + i) = vd b i := by
  intro m
  induction m with
  | zero => intro i h; rw [vd_end (s := b) (by omega), vd_end (by rw [ByteArray.size_append]; omega)]
  | succ m ih =>
    intro i h
    by_cases hi : i < b.size
    · have hi' : a.size + i < (a ++ b).size := by rw [ByteArray.size_append]; omega
      by_cases hn : nc b i < 0
      · rw [vd_bad hi hn, vd_bad hi' (by rw [nc_app_r]; exact hn)]
      · rw [vd_go hi hn, vd_go hi' (by rw [nc_app_r]; exact hn), nl_app_r, Nat.add_assoc]
        have := nl_pos b i
        exact ih _ (by omega)
    · rw [vd_end hi, vd_end (by rw [ByteArray.size_append]; omega)]
theorem ct_app_r (a b : ByteArray) : ∀ m i : Nat, b.size - i ≤ m → ct (a ++ b) (a.size + i) = ct b i := by
  intro m
  induction m with
  | zero => intro i h; rw [ct_end (s := b) (by omega), ct_end (by rw [ByteArray.size_append]; omega)]
  | succ m ih =>
    intro i h
    by_cases hi : i < b.size
    · have hi' : a.size + i < (a ++ b).size := by rw [ByteArray.size_append]; omega
      rw [ct_go hi, ct_go hi', nl_app_r, Nat.add_assoc]
      have := nl_pos b i
      rw [ih _ (by omega)]
    · rw [ct_end hi, ct_end (by rw [ByteArray.size_append]; omega)]
theorem vd_app {a : ByteArray} (b : ByteArray) : ∀ m i : Nat, a.size - i ≤ m → i ≤ a.size → vd a i = true → vd (a ++ b) i = vd b 0 := by
  intro m
  induction m with
  | zero =>
    intro i h hi _
    obtain rfl : i = a.size := by omega
    exact vd_app_r a b b.size 0 (by omega)
  | succ m ih =>
    intro i h hi hv
    by_cases hlt : i < a.size
    · by_cases hn : nc a i < 0
      · rw [vd_bad hlt hn] at hv; cases hv
      · rw [vd_go hlt hn] at hv
        have hlt' : i < (a ++ b).size := by rw [ByteArray.size_append]; omega
        rw [vd_go hlt' (by rw [nc_app_l b hn]; exact hn), nl_app_l b hn]
        have := nl_pos a i
        exact ih _ (by omega) (nl_in a i hlt) hv
    · obtain rfl : i = a.size := by omega
      exact vd_app_r a b b.size 0 (by omega)
theorem ct_app {a : ByteArray} (b : ByteArray) : ∀ m i : Nat, a.size - i ≤ m → i ≤ a.size → vd a i = true → ct (a ++ b) i = ct a i + ct b 0 := by
  intro m
  induction m with
  | zero =>
    intro i h hi _
    obtain rfl : i = a.size := by omega
    rw [ct_end (s := a) (by omega), Nat.zero_add]
    exact ct_app_r a b b.size 0 (by omega)
  | succ m ih =>
    intro i h hi hv
    by_cases hlt : i < a.size
    · by_cases hn : nc a i < 0
      · rw [vd_bad hlt hn] at hv; cases hv
      · rw [vd_go hlt hn] at hv
        have hlt' : i < (a ++ b).size := by rw [ByteArray.size_append]; omega
        rw [ct_go hlt', ct_go hlt, nl_app_l b hn]
        have := nl_pos a i
        rw [ih _ (by omega) (nl_in a i hlt) hv]
        omega
    · obtain rfl : i = a.size := by omega
      rw [ct_end (s := a) (by omega), Nat.zero_add]
      exact ct_app_r a b b.size 0 (by omega)
/-- TWO VALID TEXTS ARE VALID TOGETHER. -/
theorem vd_both {a b : ByteArray} (ha : vd a 0 = true) (hb : vd b 0 = true) : vd (a ++ b) 0 = true := by
  rw [vd_app b a.size 0 (by omega) (by omega) ha, hb]
theorem ct_both {a : ByteArray} (b : ByteArray) (ha : vd a 0 = true) : ct (a ++ b) 0 = ct a 0 + ct b 0 :=
  ct_app b a.size 0 (by omega) (by omega) ha

theorem size_ext (s : ByteArray) (a b : Nat) (hb : b ≤ s.size) : (s.extract a b).size = b - a := by
  rw [ByteArray.size_extract]; omega
theorem bt_ext (s : ByteArray) (a b i : Nat) (hb : b ≤ s.size) (hi : a + i < b) : bt (s.extract a b) i = bt s (a + i) := by
  unfold bt
  rw [dif_pos (by rw [size_ext s a b hb]; omega), dif_pos (by omega)]
  simp [ByteArray.getElem_extract]
theorem jv_ext (s : ByteArray) (k n : Nat) (hn : n ≠ 0) (h : k + n ≤ s.size) : jv (s.extract k (k + n)) 0 n = jv s k n :=
  jv_congr (fun x hx => by rw [Nat.zero_add]; exact bt_ext s k (k + n) x h (by omega)) hn

/-! ### bits -/
theorem wraps_i64 (n : Int) (h0 : 0 ≤ n) (h1 : n < 2 ^ 63) : IntKind.i64.wrap n = n := by rw [IntKind.wrap_i64]; omega
theorem i64_or6 (x y : Int) (hx0 : 0 ≤ x) (hx : x < 1099511627776) (h0 : 0 ≤ y) (h1 : y < 64) : bits .or .i64 (x * 64) y = x * 64 + y :=
  bits_join .i64 63 (by decide) wraps_i64 6 (x * 64) y (by omega) (by omega) (by omega) h0 h1 (by omega)
theorem i64_and63 (x : Int) (h0 : 0 ≤ x) (h1 : x < 1099511627776) : bits .and .i64 x 63 = x % 64 := bits_mask .i64 63 (by decide) wraps_i64 6 (by decide) x h0 (by omega)
theorem nat_xor_head : ∀ a : Fin 256, (192 ≤ a.val → a.val < 224 → a.val ^^^ 192 = a.val - 192) ∧ (224 ≤ a.val → a.val < 240 → a.val ^^^ 224 = a.val - 224) ∧ (240 ≤ a.val → a.val < 248 → a.val ^^^ 240 = a.val - 240) ∧ a.val ^^^ 0 = a.val := by decide +kernel
theorem u8_xor_head (x : Int) (n : Nat) (h0 : 0 ≤ x) (h1 : x ≤ 255) (hl : ln x = n) (hn : n ≠ 0) : bits .xor .u8 x (hdOf n) = x - hdOf n := by
  have hx := nat_xor_head ⟨x.toNat, by omega⟩
  simp only at hx
  have bd : 0 ≤ hdOf n ∧ hdOf n < 256 := by unfold hdOf; split <;> omega
  rw [u8_xor x (hdOf n) h0 (by omega) bd.1 bd.2]
  unfold ln at hl
  split at hl
  · subst hl; simp only [hdOf]; have := hx.2.2.2; simp only [Int.reduceToNat]; rw [this]; omega
  · split at hl
    · omega
    · split at hl
      · subst hl; simp only [hdOf]; have := hx.1 (by omega) (by omega); simp only [Int.reduceToNat]; rw [this]; omega
      · split at hl
        · subst hl; simp only [hdOf]; have := hx.2.1 (by omega) (by omega); simp only [Int.reduceToNat]; rw [this]; omega
        · split at hl
          · subst hl; simp only [hdOf]; have := hx.2.2.1 (by omega) (by omega); simp only [Int.reduceToNat]; rw [this]; omega
          · omega
end Go.Proofs.YtbjgoigdhijbgaaDoor
/- Plain facts on digits: what a sign counts as one, the form and the value of digits with single _ between, runs of digits. Nothing of the program stands here. -/
namespace Go.Proofs.YtbjgoigdhijbgaaDoor
open Go.PlainAid

/-- What a sign counts as a digit or letter; 36: nothing. -/
def dg (c : Int) : Int := if 48 ≤ c ∧ c ≤ 57 then c - 48 else if 65 ≤ c ∧ c ≤ 90 then c - 55 else if 97 ≤ c ∧ c ≤ 122 then c - 87 else 36
theorem dg_bd (c : Int) : 0 ≤ dg c ∧ dg c ≤ 36 := by unfold dg; repeat' split
                                                     all_goals omega
theorem dg_high {c : Int} (h : 128 ≤ c) : dg c = 36 := by unfold dg; rw [if_neg (by omega), if_neg (by omega), if_neg (by omega)]
theorem dg_zero : dg 0 = 36 := by decide
theorem dg_under : dg 95 = 36 := by decide
theorem dg_end {s : ByteArray} {k : Nat} (h : s.size ≤ k) : dg (bt s k) = 36 := by rw [bt_end s h]; exact dg_zero

/-- Digits below b from byte k up to byte e, with single _ between two of them; h: is there one ahead? -/
def fm (s : ByteArray) (b : Int) (e k : Nat) (h : Bool) : Bool :=
  if _h : k < e then (if bt s k = 95 ∧ h = true then fm s b e (k + 1) false else if dg (bt s k) < b then fm s b e (k + 1) true else false) else h
termination_by e - k
/-- Their value, behind v. -/
def vn (s : ByteArray) (b : Nat) (e k : Nat) (v : Nat) : Nat :=
  if _h : k < e then (if bt s k = 95 then vn s b e (k + 1) v else vn s b e (k + 1) (v * b + (dg (bt s k)).toNat)) else v
termination_by e - k
theorem fm_end {s : ByteArray} {b : Int} {e k : Nat} {h : Bool} (hk : ¬ k < e) : fm s b e k h = h := by rw [fm, dif_neg hk]
theorem fm_under {s : ByteArray} {b : Int} {e k : Nat} (hk : k < e) (hu : bt s k = 95) : fm s b e k true = fm s b e (k + 1) false := by rw [fm, dif_pos hk, if_pos ⟨hu, rfl⟩]
theorem fm_digit {s : ByteArray} {b : Int} {e k : Nat} {h : Bool} (hk : k < e) (hb : b ≤ 36) (hd : dg (bt s k) < b) : fm s b e k h = fm s b e (k + 1) true := by
  rw [fm, dif_pos hk, if_neg (by rintro ⟨hu, -⟩; rw [hu, dg_under] at hd; omega), if_pos hd]
theorem fm_bad {s : ByteArray} {b : Int} {e k : Nat} {h : Bool} (hk : k < e) (hu : ¬ (bt s k = 95 ∧ h = true)) (hd : ¬ dg (bt s k) < b) : fm s b e k h = false := by
  rw [fm, dif_pos hk, if_neg hu, if_neg hd]
theorem vn_end {s : ByteArray} {b e k v : Nat} (hk : ¬ k < e) : vn s b e k v = v := by rw [vn, dif_neg hk]
theorem vn_under {s : ByteArray} {b e k v : Nat} (hk : k < e) (hu : bt s k = 95) : vn s b e k v = vn s b e (k + 1) v := by rw [vn, dif_pos hk, if_pos hu]
theorem vn_digit {s : ByteArray} {b e k v : Nat} (hk : k < e) (hu : bt s k ≠ 95) : vn s b e k v = vn s b e (k + 1) (v * b + (dg (bt s k)).toNat) := by rw [vn, dif_pos hk, if_neg hu]
theorem vn_ge {s : ByteArray} {b e : Nat} (hb : 1 ≤ b) : ∀ m k v : Nat, e - k ≤ m → v ≤ vn s b e k v := by
  intro m
  induction m with
  | zero => intro k v h; rw [vn_end (by omega)]; exact Nat.le_refl _
  | succ m ih =>
    intro k v h
    by_cases hk : k < e
    · by_cases hu : bt s k = 95
      · rw [vn_under hk hu]; exact ih _ _ (by omega)
      · rw [vn_digit hk hu]
        have := ih (k + 1) (v * b + (dg (bt s k)).toNat) (by omega)
        have : v * 1 ≤ v * b := Nat.mul_le_mul_left v hb
        omega
    · rw [vn_end hk]; exact Nat.le_refl _
/-- Digits of a base with their value: 0 and 8 of what is none such, 0 and 6 of what is too great. -/
def nm (s : ByteArray) (b : Nat) (e k : Nat) : Int × Int :=
  if fm s b e k false = true then (if vn s b e k 0 < 18446744073709551616 then ((vn s b e k 0 : Nat), 0) else (0, 6)) else (0, 8)

/-- Runs of at most m digits below b from byte j on: how many; their value behind v. -/
def rc (s : ByteArray) (b : Int) : Nat → Nat → Nat
  | 0, _ => 0
  | m + 1, j => if dg (bt s j) < b then 1 + rc s b m (j + 1) else 0
def rv (s : ByteArray) (b : Int) : Nat → Nat → Int → Int
  | 0, _, v => v
  | m + 1, j, v => if dg (bt s j) < b then rv s b m (j + 1) (v * b + dg (bt s j)) else v
theorem rc_le (s : ByteArray) (b : Int) : ∀ m j, rc s b m j ≤ m
  | 0, _ => Nat.le_refl _
  | m + 1, j => by
    simp only [rc]
    split
    · have := rc_le s b m (j + 1); omega
    · omega
theorem rc_in (s : ByteArray) (b : Int) (hb : b ≤ 36) : ∀ m j, j ≤ s.size → j + rc s b m j ≤ s.size
  | 0, _, h => h
  | m + 1, j, h => by
    simp only [rc]
    split
    · rename_i hd
      have hj : j < s.size := by
        apply Classical.byContradiction
        intro hn
        rw [dg_end (by omega)] at hd
        omega
      have := rc_in s b hb m (j + 1) hj
      omega
    · omega
theorem rv_bd (s : ByteArray) (b : Int) (hb : 1 ≤ b) : ∀ m j v, 0 ≤ v → 0 ≤ rv s b m j v ∧ rv s b m j v < (v + 1) * b ^ rc s b m j
  | 0, _, v, h => by simp only [rv, rc, Int.pow_zero]; omega
  | m + 1, j, v, h => by
    simp only [rv, rc]
    split
    · rename_i hd
      have d0 := (dg_bd (bt s j)).1
      have hv : 0 ≤ v * b := Int.mul_nonneg h (by omega)
      have := rv_bd s b hb m (j + 1) (v * b + dg (bt s j)) (by omega)
      refine ⟨this.1, Int.lt_of_lt_of_le this.2 ?_⟩
      have e : (v + 1) * b ^ (1 + rc s b m (j + 1)) = ((v + 1) * b) * b ^ rc s b m (j + 1) := by rw [Nat.add_comm, Int.pow_succ, Int.mul_comm (b ^ _) b, Int.mul_assoc]
      rw [e]
      refine Int.mul_le_mul_of_nonneg_right ?_ (Int.pow_nonneg (by omega))
      have e2 : (v + 1) * b = v * b + b := by rw [Int.add_mul, Int.one_mul]
      omega
    · simp only [Int.pow_zero]; omega
/-- Within a piece to the end all is as at its place in the whole. -/
theorem bt_tail (s : ByteArray) (a i : Nat) (ha : a ≤ s.size) : bt (s.extract a s.size) i = bt s (a + i) := by
  by_cases h : a + i < s.size
  · exact bt_ext s a s.size i (Nat.le_refl _) h
  · rw [bt_end s (by omega), bt_end _ (by rw [size_ext s a s.size (Nat.le_refl _)]; omega)]
theorem rc_congr {s t : ByteArray} {b : Int} : ∀ (m j i : Nat), (∀ x, x < m → bt s (j + x) = bt t (i + x)) → rc s b m j = rc t b m i
  | 0, _, _, _ => rfl
  | m + 1, j, i, h => by
    have h0 := h 0 (by omega)
    simp only [Nat.add_zero] at h0
    simp only [rc, h0]
    rw [rc_congr m (j + 1) (i + 1) (fun x hx => by have := h (x + 1) (by omega); rw [show j + 1 + x = j + (x + 1) by omega, show i + 1 + x = i + (x + 1) by omega]; exact this)]
theorem rv_congr {s t : ByteArray} {b : Int} : ∀ (m j i : Nat) (v : Int), (∀ x, x < m → bt s (j + x) = bt t (i + x)) → rv s b m j v = rv t b m i v
  | 0, _, _, _, _ => rfl
  | m + 1, j, i, v, h => by
    have h0 := h 0 (by omega)
    simp only [Nat.add_zero] at h0
    simp only [rv, h0]
    rw [rv_congr m (j + 1) (i + 1) _ (fun x hx => by have := h (x + 1) (by omega); rw [show j + 1 + x = j + (x + 1) by omega, show i + 1 + x = i + (x + 1) by omega]; exact this)]
theorem rc_tail (s : ByteArray) (b : Int) (m a i : Nat) (ha : a ≤ s.size) : rc (s.extract a s.size) b m i = rc s b m (a + i) :=
  rc_congr m i (a + i) (fun x _ => by rw [bt_tail s a _ ha, Nat.add_assoc])
theorem rv_tail (s : ByteArray) (b : Int) (m a i : Nat) (v : Int) (ha : a ≤ s.size) : rv (s.extract a s.size) b m i v = rv s b m (a + i) v :=
  rv_congr m i (a + i) v (fun x _ => by rw [bt_tail s a _ ha, Nat.add_assoc])
theorem fm_congr {s t : ByteArray} {b : Int} {e f : Nat} : ∀ (m k j : Nat) (h : Bool), e - k ≤ m → e - k = f - j → (∀ x, x < e - k → bt s (k + x) = bt t (j + x)) → fm s b e k h = fm t b f j h := by
  intro m
  induction m with
  | zero => intro k j h hm hef _; rw [fm_end (by omega), fm_end (by omega)]
  | succ m ih =>
    intro k j h hm hef hx
    by_cases hk : k < e
    · have h0 := hx 0 (by omega)
      simp only [Nat.add_zero] at h0
      have hx' : ∀ x, x < e - (k + 1) → bt s (k + 1 + x) = bt t (j + 1 + x) := fun x hlt => by
        have := hx (x + 1) (by omega)
        rw [show k + 1 + x = k + (x + 1) by omega, show j + 1 + x = j + (x + 1) by omega]; exact this
      have e1 : fm s b e k h = if bt s k = 95 ∧ h = true then fm s b e (k + 1) false else if dg (bt s k) < b then fm s b e (k + 1) true else false := by rw [fm, dif_pos hk]
      have e2 : fm t b f j h = if bt t j = 95 ∧ h = true then fm t b f (j + 1) false else if dg (bt t j) < b then fm t b f (j + 1) true else false := by rw [fm, dif_pos (by omega)]
      rw [e1, e2, h0, ih (k + 1) (j + 1) false (by omega) (by omega) hx', ih (k + 1) (j + 1) true (by omega) (by omega) hx']
    · rw [fm_end (by omega), fm_end (by omega)]
theorem vn_congr {s t : ByteArray} {b e f : Nat} : ∀ (m k j v : Nat), e - k ≤ m → e - k = f - j → (∀ x, x < e - k → bt s (k + x) = bt t (j + x)) → vn s b e k v = vn t b f j v := by
  intro m
  induction m with
  | zero => intro k j v hm hef _; rw [vn_end (by omega), vn_end (by omega)]
  | succ m ih =>
    intro k j v hm hef hx
    by_cases hk : k < e
    · have h0 := hx 0 (by omega)
      simp only [Nat.add_zero] at h0
      have hx' : ∀ x, x < e - (k + 1) → bt s (k + 1 + x) = bt t (j + 1 + x) := fun x hlt => by
        have := hx (x + 1) (by omega)
        rw [show k + 1 + x = k + (x + 1) by omega, show j + 1 + x = j + (x + 1) by omega]; exact this
      have e1 : vn s b e k v = if bt s k = 95 then vn s b e (k + 1) v else vn s b e (k + 1) (v * b + (dg (bt s k)).toNat) := by rw [vn, dif_pos hk]
      have e2 : vn t b f j v = if bt t j = 95 then vn t b f (j + 1) v else vn t b f (j + 1) (v * b + (dg (bt t j)).toNat) := by rw [vn, dif_pos (by omega)]
      rw [e1, e2, h0, ih (k + 1) (j + 1) v (by omega) (by omega) hx', ih (k + 1) (j + 1) _ (by omega) (by omega) hx']
    · rw [vn_end (by omega), vn_end (by omega)]
theorem nm_congr {s t : ByteArray} {b e f k j : Nat} (h : e - k = f - j) (hx : ∀ x, x < e - k → bt s (k + x) = bt t (j + x)) : nm s b e k = nm t b f j := by
  unfold nm
  rw [fm_congr (e - k) k j false (Nat.le_refl _) h hx, vn_congr (e - k) k j 0 (Nat.le_refl _) h hx]
theorem nm_ext (s : ByteArray) (b a e : Nat) (_ha : a ≤ e) (he : e ≤ s.size) : nm (s.extract a e) b (s.extract a e).size 0 = nm s b e a :=
  nm_congr (by rw [size_ext s a e he]; omega) (fun x hx => by rw [size_ext s a e he] at hx; rw [Nat.zero_add]; exact bt_ext s a e x he (by omega))
theorem fm_ext (s : ByteArray) (b : Int) (a e : Nat) (_ha : a ≤ e) (he : e ≤ s.size) : fm (s.extract a e) b (s.extract a e).size 0 false = fm s b e a false :=
  fm_congr (e - a) 0 a false (by rw [size_ext s a e he]; omega) (by rw [size_ext s a e he]; omega) (fun x hx => by rw [size_ext s a e he] at hx; rw [Nat.zero_add]; exact bt_ext s a e x he (by omega))
/-- What is told of the form alone. -/
theorem nm_form (s : ByteArray) (b e k : Nat) : ((nm s b e k).2 != 8) = fm s b e k false := by
  unfold nm
  cases fm s b e k false
  · rfl
  · rw [if_pos rfl]
    split <;> rfl

/-- The first byte c from byte k on; the size, if there is none. -/
def ix (s : ByteArray) (c : Int) (k : Nat) : Nat := if _h : k < s.size then (if bt s k = c then k else ix s c (k + 1)) else s.size
termination_by s.size - k
theorem ix_spec (s : ByteArray) (c : Int) : ∀ m k : Nat, s.size - k ≤ m → k ≤ s.size → k ≤ ix s c k ∧ ix s c k ≤ s.size ∧ (∀ i, k ≤ i → i < ix s c k → bt s i ≠ c) ∧ (ix s c k < s.size → bt s (ix s c k) = c) := by
  intro m
  induction m with
  | zero =>
    intro k h hk
    have e : ix s c k = s.size := by rw [ix, dif_neg (by omega)]
    rw [e]
    exact ⟨hk, Nat.le_refl _, fun i h1 h2 => by omega, fun h => by omega⟩
  | succ m ih =>
    intro k h hk
    by_cases hlt : k < s.size
    · by_cases hc : bt s k = c
      · have e : ix s c k = k := by rw [ix, dif_pos hlt, if_pos hc]
        rw [e]
        exact ⟨Nat.le_refl _, hk, fun i h1 h2 => by omega, fun _ => hc⟩
      · have e : ix s c k = ix s c (k + 1) := by rw [ix, dif_pos hlt, if_neg hc]
        rw [e]
        obtain ⟨h1, h2, h3, h4⟩ := ih (k + 1) (by omega) hlt
        refine ⟨by omega, h2, fun i i1 i2 => ?_, h4⟩
        by_cases hi : i = k
        · rw [hi]; exact hc
        · exact h3 i (by omega) i2
    · have e : ix s c k = s.size := by rw [ix, dif_neg hlt]
      rw [e]
      exact ⟨hk, Nat.le_refl _, fun i h1 h2 => by omega, fun h => by omega⟩
theorem ix_is {s : ByteArray} {c : Int} {k p : Nat} (hk : k ≤ p) (hp : p ≤ s.size) (h : ∀ i, k ≤ i → i < p → bt s i ≠ c) (he : p < s.size → bt s p = c) : ix s c k = p := by
  obtain ⟨h1, h2, h3, h4⟩ := ix_spec s c (s.size - k) k (Nat.le_refl _) (by omega)
  by_cases a : ix s c k < p
  · exact absurd (h4 (by omega)) (h _ h1 a)
  · by_cases b : p < ix s c k
    · exact absurd (he (by omega)) (h3 _ hk b)
    · omega
end Go.Proofs.YtbjgoigdhijbgaaDoor
/- Plain facts on names: what a byte begins, which bytes stand within a name, the reserved words, what a plain name is. Nothing of the program stands here. -/
namespace Go.Proofs.YtbjgoigdhijbgaaDoor
open Go.PlainAid

/-- What begins with a byte: 1 a to z, 2 A to Z and _, 3 digits, 0 nothing. -/
def beg (c : Int) : Int := if 97 ≤ c ∧ c ≤ 122 then 1 else if (65 ≤ c ∧ c ≤ 90) ∨ c = 95 then 2 else if 48 ≤ c ∧ c ≤ 57 then 3 else 0
/-- May it stand within a name? -/
def inn (c : Int) : Bool := beg c != 0 || c == 64
/-- The reserved words. -/
def ws : List (List UInt8) := [
  [97, 102, 116, 101, 114], [97, 110, 100], [97, 110, 100, 97, 108, 115, 111], [98, 97, 110, 100], [98, 101, 103, 105, 110], [98, 110, 111, 116],
  [98, 111, 114], [98, 115, 108], [98, 115, 114], [98, 120, 111, 114], [99, 97, 115, 101], [99, 97, 116, 99, 104],
  [100, 105, 118], [101, 110, 100], [102, 117, 110], [105, 102], [110, 111, 116], [111, 102],
  [111, 114], [111, 114, 101, 108, 115, 101], [114, 101, 99, 101, 105, 118, 101], [114, 101, 109], [119, 104, 101, 110], [120, 111, 114]]
/-- The j-th of them. -/
def wd (j : Nat) : ByteArray := ⟨(ws.getD j []).toArray⟩
/-- Is a text one of them? -/
def rs (s : ByteArray) : Bool := ws.any fun l => s.data.toList == l
/-- Are all its bytes such as stand within a name? -/
def inns (s : ByteArray) : Bool := s.data.toList.all fun x => inn (x.toNat : Int)
/-- Is it a plain name? -/
def pl (s : ByteArray) : Bool := (beg (bt s 0) == 1) && inns s && !rs s

theorem rs_yes {s : ByteArray} {j : Nat} (hj : j < 24) (h : s.data.toList = ws.getD j []) : rs s = true := by
  unfold rs
  rw [List.any_eq_true]
  refine ⟨ws.getD j [], ?_, by rw [h]; exact beq_self_eq_true _⟩
  rw [List.getD_eq_getElem?_getD, List.getElem?_eq_getElem (show j < ws.length from hj)]
  exact List.getElem_mem _
theorem rs_no {s : ByteArray} (h : ∀ j, j < 24 → s.data.toList ≠ ws.getD j []) : rs s = false := by
  unfold rs
  rw [List.any_eq_false]
  intro x hx
  obtain ⟨j, hj, rfl⟩ := List.getElem_of_mem hx
  have := h j hj
  rw [List.getD_eq_getElem?_getD, List.getElem?_eq_getElem hj] at this
  simpa using this
theorem bt_inn {s : ByteArray} (h : inns s = true) (k : Nat) (hk : k < s.size) : inn (bt s k) = true := by
  unfold inns at h
  rw [List.all_eq_true] at h
  have hl : k < s.data.toList.length := by rw [Array.length_toList]; exact hk
  have := h _ (List.getElem_mem hl)
  rw [← get_bt s k hk]
  exact this
theorem inns_of {s : ByteArray} (h : ∀ k, k < s.size → inn (bt s k) = true) : inns s = true := by
  unfold inns
  rw [List.all_eq_true]
  intro x hx
  obtain ⟨k, hk, rfl⟩ := List.getElem_of_mem hx
  have hk' : k < s.size := by rw [Array.length_toList] at hk; exact hk
  have := h k hk'
  rw [← get_bt s k hk'] at this
  exact this
theorem inns_not {s : ByteArray} {k : Nat} (hk : k < s.size) (h : inn (bt s k) = false) : inns s = false := by
  cases e : inns s
  · rfl
  · rw [bt_inn e k hk] at h; cases h
theorem inns_app (a b : ByteArray) : inns (a ++ b) = (inns a && inns b) := by
  unfold inns
  rw [ByteArray.toList_data_append, List.all_append]
theorem pl_empty : pl ⟨#[]⟩ = false := by decide +kernel
theorem pl_begin {s : ByteArray} (h : beg (bt s 0) ≠ 1) : pl s = false := by
  unfold pl
  rw [beq_false_of_ne h]; rfl
theorem pl_inner {s : ByteArray} (h : inns s = false) : pl s = false := by
  unfold pl
  rw [h]; simp
theorem pl_res {s : ByteArray} (h : beg (bt s 0) = 1) (h1 : inns s = true) : pl s = !rs s := by
  unfold pl
  rw [h, h1]; rfl
/-- What follows where all is inner and it begins with a small letter. -/
theorem beg_none {c : Int} (h : 127 < c) : beg c = 0 := by unfold beg; rw [if_neg (by omega), if_neg (by omega), if_neg (by omega)]
theorem inn_none {c : Int} (h : 127 < c) : inn c = false := by unfold inn; rw [beg_none h, beq_false_of_ne (by omega)]; rfl
theorem beg_range (c : Int) : 0 ≤ beg c ∧ beg c ≤ 3 := by
  unfold beg
  repeat' split
  all_goals omega
theorem inn_of_beg {c : Int} (h : 0 < beg c) : inn c = true := by
  unfold inn
  have : (beg c != 0) = true := by simp; omega
  rw [this]; rfl
theorem beg_digit (c : Int) : (beg c == 3) = (decide (48 ≤ c) && decide (c ≤ 57)) := by
  unfold beg
  repeat' split
  all_goals simp
  all_goals omega

/-- A text that begins with q is no reserved word. -/
theorem rs_q {s : ByteArray} {l : List UInt8} (h : s.data.toList = 113 :: l) : rs s = false := by
  unfold rs
  rw [h]
  simp [ws]
theorem pl_q (x y : UInt8) : pl (⟨#[113]⟩ ++ ⟨[x, y].toArray⟩ ++ ⟨#[113]⟩) = (inn (x.toNat : Int) && inn (y.toNat : Int)) := by
  have hl : (⟨#[113]⟩ ++ ⟨[x, y].toArray⟩ ++ ⟨#[113]⟩ : ByteArray).data.toList = 113 :: [x, y, 113] := by
    rw [ByteArray.toList_data_append, ByteArray.toList_data_append]; rfl
  have hi : inns (⟨#[113]⟩ ++ ⟨[x, y].toArray⟩ ++ ⟨#[113]⟩) = (inn (x.toNat : Int) && inn (y.toNat : Int)) := by
    unfold inns
    rw [hl]
    have e : inn (((113 : UInt8).toNat : Nat) : Int) = true := by decide +kernel
    simp only [List.all_cons, List.all_nil, e, Bool.and_true, Bool.true_and]
  have hs : 0 < (⟨#[113]⟩ ++ ⟨[x, y].toArray⟩ ++ ⟨#[113]⟩ : ByteArray).size := by
    rw [ByteArray.size_append, ByteArray.size_append]
    show 0 < 1 + 2 + 1
    decide
  have hb : bt (⟨#[113]⟩ ++ ⟨[x, y].toArray⟩ ++ ⟨#[113]⟩) 0 = 113 := by
    rw [← get_bt _ 0 hs]
    have : (⟨#[113]⟩ ++ ⟨[x, y].toArray⟩ ++ ⟨#[113]⟩ : ByteArray)[0]'hs = (⟨#[113]⟩ ++ ⟨[x, y].toArray⟩ ++ ⟨#[113]⟩ : ByteArray).data.toList[0]'hs := rfl
    rw [this]
    simp only [hl, List.getElem_cons_zero]
    rfl
  unfold pl
  rw [hb, hi, rs_q hl]
  show (true && _ && true) = _
  simp
theorem wd_facts : ∀ r : Fin 24, rs (wd r) = true ∧ pl (wd r) = false ∧ rs (wd r ++ ⟨#[95]⟩) = false ∧ rs ((wd r).extract 0 ((wd r).size - 1)) = false ∧ ((wd r).data.toList == [111, 114, 120]) = false ∧ 1 ≤ (wd r).size ∧ (wd r).size ≤ 7 := by decide +kernel
theorem wd_more : ∀ r : Fin 24, ∀ d : Fin 26, rs (wd r ++ ⟨[UInt8.ofNat (97 + d)].toArray⟩) = false ∧ pl (wd r ++ ⟨[UInt8.ofNat (97 + d)].toArray⟩) = true := by decide +kernel
end Go.Proofs.YtbjgoigdhijbgaaDoor
/- Plain facts on escapes: what stands behind a \, what it means and how many bytes it has. Nothing of the program stands here. -/
namespace Go.Proofs.YtbjgoigdhijbgaaDoor
open Go.PlainAid

theorem nc_tail (s : ByteArray) (a i : Nat) (ha : a ≤ s.size) : nc (s.extract a s.size) i = nc s (a + i) := by
  have e : ∀ x, bt (s.extract a s.size) (i + x) = bt s (a + i + x) := fun x => by rw [Nat.add_assoc]; exact bt_tail s a (i + x) ha
  have h0 := e 0
  simp only [Nat.add_zero] at h0
  have hz : (s.extract a s.size).size = s.size - a := size_ext s a s.size (Nat.le_refl _)
  by_cases h : a + i + ln (bt s (a + i)) ≤ s.size
  · exact nc_congr h0 (by omega) h (fun x _ => e x)
  · unfold nc
    rw [h0, if_pos (by rw [hz]; omega), if_pos (by omega)]
theorem nl_tail (s : ByteArray) (a i : Nat) (ha : a ≤ s.size) : nl (s.extract a s.size) i = nl s (a + i) := by
  unfold nl
  rw [nc_tail s a i ha, bt_tail s a i ha]
theorem nc_ascii {s : ByteArray} {k : Nat} (hk : k < s.size) (h : bt s k < 128) : nc s k = bt s k ∧ nl s k = 1 := by
  have h0 := bt_nonneg s k
  have e : ln (bt s k) = 1 := by unfold ln; rw [if_pos h]
  have hj : jv s k 1 = bt s k := by
    unfold jv
    rw [if_pos (by rfl)]
    simp only [Nat.sub_self, jp, hdOf]
    omega
  have hc : nc s k = bt s k := by
    unfold nc
    rw [e, if_neg (by omega), hj, if_neg (by simp only [lstOf]; omega), if_pos (show isPt (bt s k) = true from decide_eq_true (by omega))]
  exact ⟨hc, by unfold nl; rw [hc, if_neg (by omega), e]⟩
/-- What a small letter means behind a \; 0: nothing. -/
def ltr (c : Int) : Int :=
  if c = 98 then 8 else if c = 100 then 127 else if c = 101 then 27 else if c = 102 then 12 else if c = 110 then 10 else if c = 114 then 13 else if c = 115 then 32 else if c = 116 then 9 else if c = 118 then 11 else 0
/-- What ^ and a byte mean. -/
def ctl (c : Int) : Int × Nat := if (64 ≤ c ∧ c ≤ 95) ∨ (97 ≤ c ∧ c ≤ 122) then (c % 32, 2) else (-1, 0)
/-- What x at byte j begins. -/
def hxd (s : ByteArray) (j : Nat) : Int × Nat :=
  if bt s (j + 1) = 123 then (if rc s 16 6 (j + 2) = 0 ∨ bt s (j + 2 + rc s 16 6 (j + 2)) ≠ 125 then (-1, 0) else (rv s 16 6 (j + 2) 0, rc s 16 6 (j + 2) + 3))
  else if rc s 16 2 (j + 1) < 2 then (-1, 0) else (rv s 16 2 (j + 1) 0, 3)
/-- What an escape means whose \ stands ahead of byte j, and how many bytes it has from j on; the number may be no code point. -/
def mnt (s : ByteArray) (j : Nat) : Int × Nat :=
  if 0 < rc s 8 3 j then (rv s 8 3 j 0, rc s 8 3 j)
  else if bt s j = 120 then hxd s j
  else if bt s j = 94 then ctl (bt s (j + 1))
  else if s.size ≤ j ∨ nc s j < 32 then (-1, 0)
  else if (97 ≤ bt s j ∧ bt s j ≤ 122) ∧ ltr (bt s j) ≠ 0 then (ltr (bt s j), nl s j)
  else (nc s j, nl s j)
/-- The code point that the escape means whose \ stands at byte k, and how many bytes it has; -1 and 0. -/
def esc (s : ByteArray) (k : Nat) : Int × Nat :=
  if k < s.size ∧ bt s k = 92 then (if isPt (mnt s (k + 1)).1 = true then ((mnt s (k + 1)).1, 1 + (mnt s (k + 1)).2) else (-1, 0)) else (-1, 0)
theorem hxd_tail (s : ByteArray) (a i : Nat) (ha : a ≤ s.size) : hxd (s.extract a s.size) i = hxd s (a + i) := by
  unfold hxd
  have e1 := bt_tail s a (i + 1) ha
  have e2 := rc_tail s 16 6 a (i + 2) ha
  have e3 := rv_tail s 16 6 a (i + 2) 0 ha
  have e4 := rc_tail s 16 2 a (i + 1) ha
  have e5 := rv_tail s 16 2 a (i + 1) 0 ha
  have e6 := bt_tail s a (i + 2 + rc s 16 6 (a + (i + 2))) ha
  rw [e1, e2, e3, e4, e5, e6]
  simp only [Nat.add_assoc]
theorem mnt_tail (s : ByteArray) (a i : Nat) (ha : a ≤ s.size) : mnt (s.extract a s.size) i = mnt s (a + i) := by
  have hz : (s.extract a s.size).size = s.size - a := size_ext s a s.size (Nat.le_refl _)
  have hsz : (s.size - a ≤ i) = (s.size ≤ a + i) := propext ⟨fun h => by omega, fun h => by omega⟩
  unfold mnt
  rw [rc_tail s 8 3 a i ha, rv_tail s 8 3 a i 0 ha, bt_tail s a i ha, hxd_tail s a i ha, bt_tail s a (i + 1) ha, nc_tail s a i ha, nl_tail s a i ha, hz, Nat.add_assoc]
  simp only [hsz]
theorem esc_tail (s : ByteArray) (a i : Nat) (ha : a ≤ s.size) : esc (s.extract a s.size) i = esc s (a + i) := by
  have hz : (s.extract a s.size).size = s.size - a := size_ext s a s.size (Nat.le_refl _)
  have hsz : (i < s.size - a) = (a + i < s.size) := propext ⟨fun h => by omega, fun h => by omega⟩
  unfold esc
  rw [mnt_tail s a (i + 1) ha, bt_tail s a i ha, hz, Nat.add_assoc]
  simp only [hsz]
theorem pow_bd (b : Int) (hb : 1 ≤ b) : ∀ n m : Nat, n ≤ m → b ^ n ≤ b ^ m := by
  intro n m h
  induction m with
  | zero => obtain rfl : n = 0 := by omega
            exact Int.le_refl _
  | succ m ih =>
    by_cases e : n = m + 1
    · rw [e]; exact Int.le_refl _
    · have := ih (by omega)
      have h0 : 0 ≤ b ^ m := Int.pow_nonneg (by omega)
      have : b ^ m * 1 ≤ b ^ m * b := Int.mul_le_mul_of_nonneg_left hb h0
      rw [Int.pow_succ]
      omega
theorem rv_hex (s : ByteArray) (m j : Nat) (hm : m ≤ 6) : 0 ≤ rv s 16 m j 0 ∧ rv s 16 m j 0 < 16777216 := by
  have h := rv_bd s 16 (by omega) m j 0 (by omega)
  have h1 := pow_bd 16 (by omega) (rc s 16 m j) 6 (by have := rc_le s 16 m j; omega)
  have h2 : (16 : Int) ^ 6 = 16777216 := by decide
  omega
theorem rv_oct (s : ByteArray) (j : Nat) : 0 ≤ rv s 8 3 j 0 ∧ rv s 8 3 j 0 < 512 := by
  have h := rv_bd s 8 (by omega) 3 j 0 (by omega)
  have h1 := pow_bd 8 (by omega) (rc s 8 3 j) 3 (rc_le s 8 3 j)
  have h2 : (8 : Int) ^ 3 = 512 := by decide
  omega
theorem ctl_bd (c : Int) : -1 ≤ (ctl c).1 ∧ (ctl c).1 < 32 ∧ (ctl c).2 ≤ 2 := by
  unfold ctl
  split <;> (simp only; omega)
theorem hxd_bd (s : ByteArray) (j : Nat) : -1 ≤ (hxd s j).1 ∧ (hxd s j).1 < 16777216 ∧ (hxd s j).2 ≤ 9 := by
  have h1 := rv_hex s 6 (j + 2) (by omega)
  have h2 := rv_hex s 2 (j + 1) (by omega)
  have h3 := rc_le s 16 6 (j + 2)
  unfold hxd
  split
  · split <;> (simp only; omega)
  · split <;> (simp only; omega)
theorem nc_bd (s : ByteArray) (k : Nat) : -1 ≤ nc s k ∧ nc s k < 1114112 := by
  by_cases h : nc s k < 0
  · refine ⟨?_, by omega⟩
    unfold nc at h ⊢
    split
    · omega
    · split
      · omega
      · split
        · rename_i h1; have := of_decide_eq_true h1; omega
        · omega
  · have := of_decide_eq_true (nc_pt h); omega
theorem ltr_bd (c : Int) : 0 ≤ ltr c ∧ ltr c ≤ 127 := by
  unfold ltr
  repeat' split
  all_goals omega
theorem mnt_bd (s : ByteArray) (j : Nat) : -1 ≤ (mnt s j).1 ∧ (mnt s j).1 < 16777216 ∧ (mnt s j).2 ≤ 9 := by
  have h1 := rv_oct s j
  have h2 := rc_le s 8 3 j
  have h3 := hxd_bd s j
  have h4 := ctl_bd (bt s (j + 1))
  have h5 := nc_bd s j
  have h6 := nl_le s j
  have h7 := ltr_bd (bt s j)
  unfold mnt
  split
  · simp only; omega
  · split
    · exact h3
    · split
      · omega
      · split
        · simp only; omega
        · split <;> (simp only; omega)
theorem esc_bd (s : ByteArray) (k : Nat) : -1 ≤ (esc s k).1 ∧ (esc s k).1 < 16777216 ∧ (esc s k).2 ≤ 10 := by
  have := mnt_bd s (k + 1)
  unfold esc
  split
  · split <;> (simp only; omega)
  · simp only; omega
end Go.Proofs.YtbjgoigdhijbgaaDoor
/- Signs: the longest one that a text's rest begins with; what opens, what closes, and with what. -/
namespace Go.Proofs.YtbjgoigdhijbgaaDoor
open Go.RowKit Go.PlainAid

/-- All signs, longer ones first. -/
def sgs : List (List UInt8) := [[61, 58, 61], [61, 47, 61], [60, 60], [62, 62], [45, 62], [60, 45], [60, 61], [61, 62], [58, 61], [58, 58], [61, 61], [47, 61], [61, 60], [62, 61], [124, 124], [43, 43], [45, 45], [40], [41], [123], [125], [91], [93], [44], [59], [58], [61], [124], [33], [35], [43], [45], [42], [47], [60], [62], [46]]
def sg (k : Nat) : List UInt8 := sgs.getD k []
/-- How long the first one of the rest of the signs is, that the text begins with; m signs are left. -/
def lgf (l : List UInt8) : Nat → Nat
  | 0 => 0
  | m + 1 => if (sg (36 - m)).isPrefixOf l = true then (sg (36 - m)).length else lgf l m
def lgL (l : List UInt8) : Nat := lgf l 37
/-- Longest. -/
def lg (s : ByteArray) (a : Int) : Nat := if 0 ≤ a ∧ a < s.size then lgL (s.data.toList.drop a.toNat) else 0
theorem lgf_step (l : List UInt8) (k : Nat) (h : k < 37) : lgf l (37 - k) = if (sg k).isPrefixOf l = true then (sg k).length else lgf l (37 - (k + 1)) := by
  obtain ⟨m, hm⟩ : ∃ m, 37 - k = m + 1 := ⟨36 - k, by omega⟩
  rw [hm]
  have e1 : 36 - m = k := by omega
  have e2 : 37 - (k + 1) = m := by omega
  rw [e2]
  show (if (sg (36 - m)).isPrefixOf l = true then (sg (36 - m)).length else lgf l m) = _
  rw [e1]
theorem lgf_end (l : List UInt8) : lgf l (37 - 37) = 0 := rfl
theorem sg_facts : ∀ k : Fin 37, 1 ≤ (sg k.val).length ∧ (sg k.val).length ≤ 3 ∧ (sg k.val).all (· != 0) = true := by decide +kernel
theorem lgf_le (l : List UInt8) : ∀ m, m ≤ 37 → lgf l m ≤ 3
  | 0, _ => Nat.zero_le _
  | m + 1, h => by
    have f := (sg_facts ⟨36 - m, by omega⟩).2.1
    unfold lgf
    split
    · exact f
    · exact lgf_le l m (by omega)
theorem lg_le (s : ByteArray) (a : Int) : lg s a ≤ 3 := by
  unfold lg; split
  · exact lgf_le _ 37 (by omega)
  · omega
theorem lgL_nil : lgL [] = 0 := by decide +kernel
theorem lg_at (s : ByteArray) (k : Nat) (h : k < s.size) : lg s k = lgL (s.data.toList.drop k) := by
  unfold lg; rw [if_pos (by omega)]; rfl
theorem lg_out (s : ByteArray) (a : Int) (h : a < 0 ∨ s.size ≤ a) : lg s a = 0 := by
  unfold lg; rw [if_neg (by omega)]

/-! A sign as three bytes, 0 behind its end; a piece of a text as three bytes. -/
def ga (k : Nat) : Int := (((sg k).getD 0 0).toNat : Int)
def gb (k : Nat) : Int := (((sg k).getD 1 0).toNat : Int)
def gc (k : Nat) : Int := (((sg k).getD 2 0).toNat : Int)
/-- Byte j of what n bytes of a text, copied into three zeroes, leave. -/
def pc (l : List UInt8) (n j : Nat) : Int := if j < n then ((l.getD j 0).toNat : Int) else 0

theorem n0 {a : UInt8} (h : (a != 0) = true) : ¬ (a.toNat : Int) = 0 := by
  intro e
  have : a.toNat = 0 := by omega
  have : a = 0 := UInt8.toNat_inj.1 this
  simp [this] at h
theorem ueq {a b : UInt8} : ((a.toNat : Int) = (b.toNat : Int)) ↔ a = b := ⟨fun h => UInt8.toNat_inj.1 (by omega), fun h => by rw [h]⟩
/-- The piece is the sign just if the text begins with the sign. -/
theorem piece_is (g l : List UInt8) (h1 : 1 ≤ g.length) (h3 : g.length ≤ 3) (hz : g.all (· != 0) = true) :
    g.isPrefixOf l = true ↔ (pc l g.length 0 = ((g.getD 0 0).toNat : Int) ∧ pc l g.length 1 = ((g.getD 1 0).toNat : Int) ∧ pc l g.length 2 = ((g.getD 2 0).toNat : Int)) := by
  match g, h1, h3, hz with
  | [a], _, _, hz =>
    simp at hz
    have na : ¬ (a.toNat : Int) = 0 := n0 (by simpa using hz)
    match l with
    | [] => simp [pc, List.isPrefixOf]; omega
    | x :: l => simp [pc, List.isPrefixOf]; rw [ueq]; exact eq_comm
  | [a, b], _, _, hz =>
    simp at hz
    have na : ¬ (a.toNat : Int) = 0 := n0 (by simpa using hz.1)
    have nb : ¬ (b.toNat : Int) = 0 := n0 (by simpa using hz.2)
    match l with
    | [] => simp [pc, List.isPrefixOf]; omega
    | [x] => simp [pc, List.isPrefixOf]; omega
    | x :: y :: l => simp [pc, List.isPrefixOf]; rw [ueq, ueq]; constructor <;> (rintro ⟨rfl, rfl⟩; exact ⟨rfl, rfl⟩)
  | [a, b, c], _, _, hz =>
    simp at hz
    have na : ¬ (a.toNat : Int) = 0 := n0 (by simpa using hz.1)
    have nb : ¬ (b.toNat : Int) = 0 := n0 (by simpa using hz.2.1)
    have nc : ¬ (c.toNat : Int) = 0 := n0 (by simpa using hz.2.2)
    match l with
    | [] => simp [pc, List.isPrefixOf]; omega
    | [x] => simp [pc, List.isPrefixOf]; omega
    | [x, y] => simp [pc, List.isPrefixOf]; omega
    | x :: y :: z :: l => simp [pc, List.isPrefixOf]; rw [ueq, ueq, ueq]; constructor <;> (rintro ⟨rfl, rfl, rfl⟩; exact ⟨rfl, rfl, rfl⟩)
theorem prefix_len {g l : List UInt8} (h : g.isPrefixOf l = true) : g.length ≤ l.length := by
  have := List.isPrefixOf_iff_prefix.1 h
  exact this.length_le
/-- How many bytes a sign of three bytes has. -/
def sz3 (a b c : Int) : Nat := if a = 0 then 0 else if b = 0 then 1 else if c = 0 then 2 else 3
theorem sz_sg : ∀ k : Fin 37, sz3 (ga k.val) (gb k.val) (gc k.val) = (sg k.val).length := by decide +kernel

/-! What opens, what closes. -/
def opq (l : List UInt8) : Bool := l == [40] || l == [123] || l == [91] || l == [60, 60]
def opw (l : List UInt8) : Bool := l == [98, 101, 103, 105, 110] || l == [99, 97, 115, 101] || l == [105, 102] || l == [114, 101, 99, 101, 105, 118, 101]
def clq (l : List UInt8) : Bool := l == [41] || l == [125] || l == [93] || l == [62, 62]
def clw (l : List UInt8) : Bool := l == [101, 110, 100]
def prL (l : List UInt8) : List UInt8 := if l = [40] then [41] else if l = [123] then [125] else if l = [91] then [93] else if l = [60, 60] then [62, 62] else []
def pr (s : ByteArray) : ByteArray := ⟨(prL s.data.toList).toArray⟩
def ops (k : Int) (s : ByteArray) : Bool := if k = 9 then opq s.data.toList else if k = 8 then opw s.data.toList else false
def cls (k : Int) (s : ByteArray) : Bool := if k = 9 then clq s.data.toList else if k = 8 then clw s.data.toList else false
end Go.Proofs.YtbjgoigdhijbgaaDoor
