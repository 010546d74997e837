/-
  Plain facts on the bytes of a text: which code point begins at a byte, how long it is, what a valid text is, how many code points it has. Nothing of the program stands here.
-/
import Derived.PlainAid
import Derived.Laws.BitsLemmas
import Derived.Laws.BitsAllLaws
namespace Go.Proofs.YtnejkdaiopjchaaDoor
open Go.PlainAid

/-- Is a number a code point? -/
def isPt (c : Int) : Bool := decide (0 ≤ c ∧ c < 55296 ∨ 57344 ≤ c ∧ c < 1114112)
/-- Does a byte follow on? -/
def isCo (x : Int) : Bool := decide (128 ≤ x ∧ x < 192)
/-- How many bytes are begun by a byte; 0: none. -/
def ln (x : Int) : Nat := if x < 128 then 1 else if x < 192 then 0 else if x < 224 then 2 else if x < 240 then 3 else if x < 248 then 4 else 0
def hdOf : Nat → Int
  | 2 => 192
  | 3 => 224
  | 4 => 240
  | _ => 0
def lstOf : Nat → Int
  | 2 => 128
  | 3 => 2048
  | 4 => 65536
  | _ => 0
/-- The bits of a head (less h) and of the i bytes behind it. -/
def jp (s : ByteArray) (k : Nat) (h : Int) : Nat → Int
  | 0 => bt s k - h
  | i + 1 => jp s k h i * 64 + (bt s (k + (i + 1)) - 128)
/-- The i bytes behind k follow on. -/
def okn (s : ByteArray) (k : Nat) : Nat → Bool
  | 0 => true
  | i + 1 => okn s k i && isCo (bt s (k + (i + 1)))
def jv (s : ByteArray) (k n : Nat) : Int := if okn s k (n - 1) = true then jp s k (hdOf n) (n - 1) else -1
/-- The code point at byte k; -1: none. -/
def nc (s : ByteArray) (k : Nat) : Int :=
  if ln (bt s k) = 0 ∨ s.size < k + ln (bt s k) then -1
  else if jv s k (ln (bt s k)) < lstOf (ln (bt s k)) then -1
  else if isPt (jv s k (ln (bt s k))) = true then jv s k (ln (bt s k)) else -1
/-- How many bytes it has; 1 if there is none. -/
def nl (s : ByteArray) (k : Nat) : Nat := if nc s k < 0 then 1 else ln (bt s k)

theorem nc_pt {s : ByteArray} {k : Nat} (h : ¬ nc s k < 0) : isPt (nc s k) = true := by
  unfold nc at h ⊢
  split
  · simp_all
  · split
    · simp_all
    · split
      · assumption
      · simp_all
theorem nl_pos (s : ByteArray) (k : Nat) : 1 ≤ nl s k := by
  unfold nl
  split
  · omega
  · rename_i h
    unfold nc at h
    split at h
    · omega
    · omega
theorem nc_in {s : ByteArray} {k : Nat} (h : ¬ nc s k < 0) : ln (bt s k) ≠ 0 ∧ k + ln (bt s k) ≤ s.size := by
  unfold nc at h
  split at h
  · omega
  · omega
theorem nl_in (s : ByteArray) (k : Nat) (hk : k < s.size) : k + nl s k ≤ s.size := by
  unfold nl
  split
  · omega
  · rename_i h; exact (nc_in h).2
theorem ln_le (x : Int) : ln x ≤ 4 := by
  unfold ln
  repeat' split
  all_goals omega
theorem nl_le (s : ByteArray) (k : Nat) : nl s k ≤ 4 := by unfold nl; split; omega; exact ln_le _

/-- All from byte k on is code points. -/
def vd (s : ByteArray) (k : Nat) : Bool := if _h : k < s.size then (if nc s k < 0 then false else vd s (k + nl s k)) else true
termination_by s.size - k
decreasing_by have := nl_pos s k; omega
/-- How many from byte k on. -/
def ct (s : ByteArray) (k : Nat) : Nat := if _h : k < s.size then 1 + ct s (k + nl s k) else 0
termination_by s.size - k
decreasing_by have := nl_pos s k; omega
theorem vd_end {s : ByteArray} {k : Nat} (h : ¬ k < s.size) : vd s k = true := by rw [vd]; simp [h]
theorem vd_bad {s : ByteArray} {k : Nat} (h : k < s.size) (hn : nc s k < 0) : vd s k = false := by rw [vd]; simp [h, hn]
theorem vd_go {s : ByteArray} {k : Nat} (h : k < s.size) (hn : ¬ nc s k < 0) : vd s k = vd s (k + nl s k) := by rw [vd]; simp [h, hn]
theorem ct_end {s : ByteArray} {k : Nat} (h : ¬ k < s.size) : ct s k = 0 := by rw [ct]; simp [h]
theorem ct_go {s : ByteArray} {k : Nat} (h : k < s.size) : ct s k = 1 + ct s (k + nl s k) := by rw [ct]; simp [h]
theorem ct_le (s : ByteArray) : ∀ m k : Nat, s.size - k ≤ m → ct s k ≤ s.size - k := by
  intro m
  induction m with
  | zero => intro k h; rw [ct_end (by omega)]; omega
  | succ m ih =>
    intro k h
    by_cases hk : k < s.size
    · rw [ct_go hk]
      have := nl_pos s k
      have := nl_in s k hk
      have := ih (k + nl s k) (by omega)
      omega
    · rw [ct_end hk]; omega

/-! ### two texts one behind the other -/
theorem bt_app_l (a b : ByteArray) (i : Nat) (h : i < a.size) : bt (a ++ b) i = bt a i := by
  unfold bt
  rw [dif_pos h, dif_pos (by rw [ByteArray.size_append]; omega)]
  simp [ByteArray.getElem_append_left, h]
theorem bt_app_r (a b : ByteArray) (i : Nat) : bt (a ++ b) (a.size + i) = bt b i := by
  unfold bt
  by_cases h : i < b.size
  · rw [dif_pos h, dif_pos (by rw [ByteArray.size_append]; omega)]
    rw [ByteArray.getElem_append_right (by omega)]
    simp
  · rw [dif_neg h, dif_neg (by rw [ByteArray.size_append]; omega)]
theorem jp_congr {s t : ByteArray} {k j : Nat} {h : Int} : ∀ i : Nat, (∀ x, x ≤ i → bt s (k + x) = bt t (j + x)) → jp s k h i = jp t j h i
  | 0, e => by have := e 0 (Nat.le_refl _); simp only [Nat.add_zero] at this; simp only [jp, this]
  | i + 1, e => by simp only [jp]; rw [jp_congr i (fun x hx => e x (by omega)), e (i + 1) (Nat.le_refl _)]
theorem okn_congr {s t : ByteArray} {k j : Nat} : ∀ i : Nat, (∀ x, x ≤ i → bt s (k + x) = bt t (j + x)) → okn s k i = okn t j i
  | 0, _ => rfl
  | i + 1, e => by simp only [okn]; rw [okn_congr i (fun x hx => e x (by omega)), e (i + 1) (Nat.le_refl _)]
theorem jv_congr {s t : ByteArray} {k j n : Nat} (e : ∀ x, x < n → bt s (k + x) = bt t (j + x)) (hn : n ≠ 0) : jv s k n = jv t j n := by
  unfold jv
  rw [jp_congr (n - 1) (fun x hx => e x (by omega)), okn_congr (n - 1) (fun x hx => e x (by omega))]
theorem nc_congr {s t : ByteArray} {k j : Nat} (h0 : bt s k = bt t j) (hs : k + ln (bt t j) ≤ s.size) (ht : j + ln (bt t j) ≤ t.size) (e : ∀ x, x < ln (bt t j) → bt s (k + x) = bt t (j + x)) : nc s k = nc t j := by
  unfold nc
  rw [h0]
  by_cases hz : ln (bt t j) = 0
  · simp [hz]
  · have n1 : ¬ (ln (bt t j) = 0 ∨ s.size < k + ln (bt t j)) := by omega
    have n2 : ¬ (ln (bt t j) = 0 ∨ t.size < j + ln (bt t j)) := by omega
    simp only [if_neg n1, if_neg n2, jv_congr e hz]
/-- Within the second text all is as in it alone. -/
theorem nc_app_r (a b : ByteArray) (i : Nat) : nc (a ++ b) (a.size + i) = nc b i := by
  have e : ∀ x, bt (a ++ b) (a.size + i + x) = bt b (i + x) := fun x => by rw [Nat.add_assoc]; exact bt_app_r a b (i + x)
  have h0 := e 0
  simp only [Nat.add_zero] at h0
  by_cases h : i + ln (bt b i) ≤ b.size
  · exact nc_congr h0 (by rw [ByteArray.size_append]; omega) h (fun x _ => e x)
  · unfold nc
    rw [h0, if_pos (by rw [ByteArray.size_append]; omega), if_pos (by omega)]
theorem nl_app_r (a b : ByteArray) (i : Nat) : nl (a ++ b) (a.size + i) = nl b i := by
  unfold nl
  rw [nc_app_r, bt_app_r]
/-- What is whole in the first text is that in both. -/
theorem nc_app_l {a : ByteArray} (b : ByteArray) {i : Nat} (h : ¬ nc a i < 0) : nc (a ++ b) i = nc a i := by
  obtain ⟨h1, h2⟩ := nc_in h
  have e : ∀ x, x < ln (bt a i) → bt (a ++ b) (i + x) = bt a (i + x) := fun x hx => bt_app_l a b _ (by omega)
  exact nc_congr (e 0 (by omega)) (by rw [ByteArray.size_append]; omega) h2 e
theorem nl_app_l {a : ByteArray} (b : ByteArray) {i : Nat} (h : ¬ nc a i < 0) : nl (a ++ b) i = nl a i := by
  unfold nl
  rw [nc_app_l b h, bt_app_l a b i (by have := nc_in h; omega)]
theorem vd_app_r (a b : ByteArray) : ∀ m i : Nat, b.size - i ≤ m → vd (a ++ b) (a.size + i) = vd b i := by
  intro m
  induction m with
  | zero => intro i h; rw [vd_end (s := b) (by omega), vd_end (by rw [ByteArray.size_append]; omega)]
  | succ m ih =>
    intro i h
    by_cases hi : i < b.size
    · have hi' : a.size + i < (a ++ b).size := by rw [ByteArray.size_append]; omega
      by_cases hn : nc b i < 0
      · rw [vd_bad hi hn, vd_bad hi' (by rw [nc_app_r]; exact hn)]
      · rw [vd_go hi hn, vd_go hi' (by rw [nc_app_r]; exact hn), nl_app_r, Nat.add_assoc]
        have := nl_pos b i
        exact ih _ (by omega)
    · rw [vd_end hi, vd_end (by rw [ByteArray.size_append]; omega)]
theorem ct_app_r (a b : ByteArray) : ∀ m i : Nat, b.size - i ≤ m → ct (a ++ b) (a.size + i) = ct b i := by
  intro m
  induction m with
  | zero => intro i h; rw [ct_end (s := b) (by omega), ct_end (by rw [ByteArray.size_append]; omega)]
  | succ m ih =>
    intro i h
    by_cases hi : i < b.size
    · have hi' : a.size + i < (a ++ b).size := by rw [ByteArray.size_append]; omega
      rw [ct_go hi, ct_go hi', nl_app_r, Nat.add_assoc]
      have := nl_pos b i
      rw [ih _ (by omega)]
    · rw [ct_end hi, ct_end (by rw [ByteArray.size_append]; omega)]
theorem vd_app {a : ByteArray} (b : ByteArray) : ∀ m i : Nat, a.size - i ≤ m → i ≤ a.size → vd a i = true → vd (a ++ b) i = vd b 0 := by
  intro m
  induction m with
  | zero =>
    intro i h hi _
    obtain rfl : i = a.size := by omega
    exact vd_app_r a b b.size 0 (by omega)
  | succ m ih =>
    intro i h hi hv
    by_cases hlt : i < a.size
    · by_cases hn : nc a i < 0
      · rw [vd_bad hlt hn] at hv; cases hv
      · rw [vd_go hlt hn] at hv
        have hlt' : i < (a ++ b).size := by rw [ByteArray.size_append]; omega
        rw [vd_go hlt' (by rw [nc_app_l b hn]; exact hn), nl_app_l b hn]
        have := nl_pos a i
        exact ih _ (by omega) (nl_in a i hlt) hv
    · obtain rfl : i = a.size := by omega
      exact vd_app_r a b b.size 0 (by omega)
theorem ct_app {a : ByteArray} (b : ByteArray) : ∀ m i : Nat, a.size - i ≤ m → i ≤ a.size → vd a i = true → ct (a ++ b) i = ct a i + ct b 0 := by
  intro m
  induction m with
  | zero =>
    intro i h hi _
    obtain rfl : i = a.size := by omega
    rw [ct_end (s := a) (by omega), Nat.zero_add]
    exact ct_app_r a b b.size 0 (by omega)
  | succ m ih =>
    intro i h hi hv
    by_cases hlt : i < a.size
    · by_cases hn : nc a i < 0
      · rw [vd_bad hlt hn] at hv; cases hv
      · rw [vd_go hlt hn] at hv
        have hlt' : i < (a ++ b).size := by rw [ByteArray.size_append]; omega
        rw [ct_go hlt', ct_go hlt, nl_app_l b hn]
        have := nl_pos a i
        rw [ih _ (by omega) (nl_in a i hlt) hv]
        omega
    · obtain rfl : i = a.size := by omega
      rw [ct_end (s := a) (by omega), Nat.zero_add]
      exact ct_app_r a b b.size 0 (by omega)
/-- TWO VALID TEXTS ARE VALID TOGETHER. -/
theorem vd_both {a b : ByteArray} (ha : vd a 0 = true) (hb : vd b 0 = true) : vd (a ++ b) 0 = true := by
  rw [vd_app b a.size 0 (by omega) (by omega) ha, hb]
theorem ct_both {a : ByteArray} (b : ByteArray) (ha : vd a 0 = true) : ct (a ++ b) 0 = ct a 0 + ct b 0 :=
  ct_app b a.size 0 (by omega) (by omega) ha

theorem size_ext (s : ByteArray) (a b : Nat) (hb : b ≤ s.size) : (s.extract a b).size = b - a := by
  rw [ByteArray.size_extract]; omega
theorem bt_ext (s : ByteArray) (a b i : Nat) (hb : b ≤ s.size) (hi : a + i < b) : bt (s.extract a b) i = bt s (a + i) := by
  unfold bt
  rw [dif_pos (by rw [size_ext s a b hb]; omega), dif_pos (by omega)]
  simp [ByteArray.getElem_extract]
theorem jv_ext (s : ByteArray) (k n : Nat) (hn : n ≠ 0) (h : k + n ≤ s.size) : jv (s.extract k (k + n)) 0 n = jv s k n :=
  jv_congr (fun x hx => by rw [Nat.zero_add]; exact bt_ext s k (k + n) x h (by omega)) hn

/-! ### bits -/
theorem wraps_i64 (n : Int) (h0 : 0 ≤ n) (h1 : n < 2 ^ 63) : IntKind.i64.wrap n = n := by rw [IntKind.wrap_i64]; omega
theorem i64_or6 (x y : Int) (hx0 : 0 ≤ x) (hx : x < 1099511627776) (h0 : 0 ≤ y) (h1 : y < 64) : bits .or .i64 (x * 64) y = x * 64 + y :=
  bits_join .i64 63 (by decide) wraps_i64 6 (x * 64) y (by omega) (by omega) (by omega) h0 h1 (by omega)
theorem i64_and63 (x : Int) (h0 : 0 ≤ x) (h1 : x < 1099511627776) : bits .and .i64 x 63 = x % 64 := bits_mask .i64 63 (by decide) wraps_i64 6 (by decide) x h0 (by omega)
theorem nat_xor_head : ∀ a : Fin 256, (192 ≤ a.val → a.val < 224 → a.val ^^^ 192 = a.val - 192) ∧ (224 ≤ a.val → a.val < 240 → a.val ^^^ 224 = a.val - 224) ∧ (240 ≤ a.val → a.val < 248 → a.val ^^^ 240 = a.val - 240) ∧ a.val ^^^ 0 = a.val := by decide +kernel
theorem u8_xor_head (x : Int) (n : Nat) (h0 : 0 ≤ x) (h1 : x ≤ 255) (hl : ln x = n) (hn : n ≠ 0) : bits .xor .u8 x (hdOf n) = x - hdOf n := by
  have hx := nat_xor_head ⟨x.toNat, by omega⟩
  simp only at hx
  have bd : 0 ≤ hdOf n ∧ hdOf n < 256 := by unfold hdOf; split <;> omega
  rw [u8_xor x (hdOf n) h0 (by omega) bd.1 bd.2]
  unfold ln at hl
  split at hl
  · subst hl; simp only [hdOf]; have := hx.2.2.2; simp only [Int.reduceToNat]; rw [this]; omega
  · split at hl
    · omega
    · split at hl
      · subst hl; simp only [hdOf]; have := hx.1 (by omega) (by omega); simp only [Int.reduceToNat]; rw [this]; omega
      · split at hl
        · subst hl; simp only [hdOf]; have := hx.2.1 (by omega) (by omega); simp only [Int.reduceToNat]; rw [this]; omega
        · split at hl
          · subst hl; simp only [hdOf]; have := hx.2.2.1 (by omega) (by omega); simp only [Int.reduceToNat]; rw [this]; omega
          · omega
end Go.Proofs.YtnejkdaiopjchaaDoor
