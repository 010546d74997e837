/-
  Package utf beyond Next and Valid: Put, what the laws tell, what a code point's bytes read as.
-/
import Derived.Test.YtbjgoigdhijbgaaDoorUtfWalks
import Derived.Laws.IdiomStrings
import Derived.Test.YtbjgoigdhijbgaaDoorMath
import Derived.Lib.DecodeN
import Derived.Lib.SpaceUEq
set_option linter.all false
/- The contract of package utf's Put: a code point's bytes are the language's own, and nothing that was there is written; what is no code point has none. -/
namespace Go.Proofs.YtbjgoigdhijbgaaDoor
open Go.RowKit Go.PlainAid

theorem u8_or0 (x : Int) (h0 : 0 ≤ x) (h1 : x < 256) : bits .or .u8 0 x = x := by
  have := bits_join .u8 8 (by decide) wraps_u8 8 0 x (by decide) (by decide) (by decide) h0 (by omega) (by omega)
  rw [this]; omega
theorem pt_valid {c : Int} (h : isPt c = true) : Utf8.valid c = true := by
  have := of_decide_eq_true h
  unfold Utf8.valid
  simp only [Bool.or_eq_true, Bool.and_eq_true, decide_eq_true_eq]
  omega
theorem enc1 {c : Int} (h : isPt c = true) (h1 : c < 128) : Utf8.encode c = ⟨[UInt8.ofNat c.toNat].toArray⟩ := by
  unfold Utf8.encode
  simp only [pt_valid h, if_true]
  rw [if_pos (by omega)]
theorem enc2 {c : Int} (h : isPt c = true) (h0 : 128 ≤ c) (h1 : c < 2048) : Utf8.encode c = ⟨[UInt8.ofNat (192 + c.toNat / 64), UInt8.ofNat (128 + c.toNat % 64)].toArray⟩ := by
  unfold Utf8.encode
  simp only [pt_valid h, if_true]
  rw [if_neg (by omega), if_pos (by omega)]
theorem enc3 {c : Int} (h : isPt c = true) (h0 : 2048 ≤ c) (h1 : c < 65536) : Utf8.encode c = ⟨[UInt8.ofNat (224 + c.toNat / 4096), UInt8.ofNat (128 + c.toNat / 64 % 64), UInt8.ofNat (128 + c.toNat % 64)].toArray⟩ := by
  unfold Utf8.encode
  simp only [pt_valid h, if_true]
  rw [if_neg (by omega), if_neg (by omega), if_pos (by omega)]
theorem enc4 {c : Int} (h : isPt c = true) (h0 : 65536 ≤ c) : Utf8.encode c = ⟨[UInt8.ofNat (240 + c.toNat / 262144), UInt8.ofNat (128 + c.toNat / 4096 % 64), UInt8.ofNat (128 + c.toNat / 64 % 64), UInt8.ofNat (128 + c.toNat % 64)].toArray⟩ := by
  unfold Utf8.encode
  simp only [pt_valid h, if_true]
  rw [if_neg (by omega), if_neg (by omega), if_neg (by omega)]
theorem pt_bd {c : Int} (h : isPt c = true) : 0 ≤ c ∧ c < 1114112 := by
  have := of_decide_eq_true h
  omega
theorem byte_is {x : Int} {n : Nat} (h : x = n) (hn : n < 256) : x = ((UInt8.ofNat n).toNat : Int) := by
  rw [h, UInt8.toNat_ofNat']
  omega

/-- The bytes of a code point; none of what is none. -/
def pu (c : Int) : ByteArray := if isPt c = true then Utf8.encode c else ⟨#[]⟩

end Go.Proofs.YtbjgoigdhijbgaaDoor
/- What the statements of layer 1 ask of a few texts each time: it holds. -/
namespace Go.Proofs.YtbjgoigdhijbgaaDoor
open Go.RowKit Go.PlainAid

theorem Tabs.below {w w' : World} (h : Tabs w) (hb : Below w.heap.size w w') : Tabs w' := by
  have key : ∀ {a : Addr} {v : Value}, w.cell? a = some v → w'.cell? a = some v := fun hc => (hb.cell (World.block_lt_of_cell? _ _ hc)).trans hc
  exact ⟨fun k hk => key (h.1 k hk), fun k hk => key (h.2.1 k hk), fun k hk => key (h.2.2 k hk)⟩
theorem Below.ofDrewN (w : World) (n : Nat) : Below w.heap.size w (w.drewN n) := ⟨rfl, rfl, rfl, Nat.le_refl _, fun _ _ => rfl⟩

theorem t_next (w : World) (ht : Tabs w) : Calls Tryd.prog 59 #[.string { data := #[195, 169] }, .int .i64 0] w fun e w' => e = .returned (.tuple #[.int .i64 233, .int .i64 2]) ∧ ∃ n, w' = w.drewN n := by
  have h := next_in ⟨#[195, 169]⟩ 0 w ht (by decide) (by unfold maxLen; decide)
  have e1 : nc ⟨#[195, 169]⟩ 0 = 233 := by decide +kernel
  have e2 : nl ⟨#[195, 169]⟩ 0 = 2 := by decide +kernel
  rw [e1, e2] at h
  exact h
theorem t_count (w : World) (ht : Tabs w) : Calls Tryd.prog 52 #[.string { data := #[97, 195, 169] }] w fun e w' => e = .returned (.int .i64 2) ∧ ∃ n, w' = w.drewN n := by
  have h := count_any ⟨#[97, 195, 169]⟩ w ht (by unfold maxLen; decide)
  have e1 : nl ⟨#[97, 195, 169]⟩ 0 = 1 := by decide +kernel
  have e2 : nl ⟨#[97, 195, 169]⟩ (0 + 1) = 2 := by decide +kernel
  rw [ct_go (by decide), e1, ct_go (by decide), e2, ct_end (by decide)] at h
  exact h
end Go.Proofs.YtbjgoigdhijbgaaDoor
/- What the bytes of a code point read as. -/
namespace Go.Proofs.YtbjgoigdhijbgaaDoor
open Go.RowKit Go.PlainAid

theorem bt_lit (l : List UInt8) (i : Nat) (h : i < l.length) : bt ⟨l.toArray⟩ i = ((l[i]).toNat : Int) := by
  unfold bt
  rw [dif_pos (show i < (⟨l.toArray⟩ : ByteArray).size from by simpa [ByteArray.size] using h)]
  rfl
theorem ofNat_val (n : Nat) (h : n < 256) : ((UInt8.ofNat n).toNat : Int) = n := by
  rw [UInt8.toNat_ofNat']; omega
theorem isCo_yes {x : Int} (h : 128 ≤ x) (h1 : x < 192) : isCo x = true := decide_eq_true ⟨h, h1⟩
/-- Reading what a head and its followers say. -/
theorem nc_of {s : ByteArray} {k n : Nat} {c : Int} (hl : ln (bt s k) = n) (hn : n ≠ 0) (hs : k + n ≤ s.size) (ho : okn s k (n - 1) = true) (hj : jp s k (hdOf n) (n - 1) = c) (hlst : lstOf n ≤ c) (hp : isPt c = true) : nc s k = c := by
  have hv : jv s k n = c := by unfold jv; rw [if_pos ho, hj]
  unfold nc
  rw [hl, if_neg (by omega), hv, if_neg (by omega), if_pos hp]
theorem nl_of {s : ByteArray} {k n : Nat} {c : Int} (hl : ln (bt s k) = n) (hc : nc s k = c) (h0 : 0 ≤ c) : nl s k = n := by
  unfold nl
  rw [hc, if_neg (by omega), hl]

/-- A CODE POINT's BYTES: so many; they read as it; none of them can't stand in a text. -/
def Reads (s : ByteArray) (c : Int) : Prop := s.size = lenOf c ∧ nc s 0 = c ∧ nl s 0 = lenOf c ∧ ln (bt s 0) = lenOf c
theorem reads_enc {c : Int} (hp : isPt c = true) : Reads (Utf8.encode c) c := by
  have hb := pt_bd hp
  by_cases h1 : c < 128
  · have e : lenOf c = 1 := by unfold lenOf; rw [if_pos h1]
    have hs : (Utf8.encode c).size = 1 := by rw [enc1 hp h1]; rfl
    have b0 : bt (Utf8.encode c) 0 = c := by
      rw [enc1 hp h1, bt_lit _ 0 (by simp)]
      have := ofNat_val c.toNat (by omega)
      simp only [List.getElem_cons_zero]; omega
    have hl : ln (bt (Utf8.encode c) 0) = 1 := by rw [b0]; unfold ln; rw [if_pos h1]
    have hc : nc (Utf8.encode c) 0 = c := nc_of hl (by omega) (by omega) rfl (by simp only [jp, hdOf, Nat.sub_self]; omega) (by simp only [lstOf]; omega) hp
    unfold Reads
    rw [e]
    exact ⟨hs, hc, nl_of hl hc hb.1, hl⟩
  by_cases h2 : c < 2048
  · have e : lenOf c = 2 := by unfold lenOf; rw [if_neg h1, if_pos h2]
    have hs : (Utf8.encode c).size = 2 := by rw [enc2 hp (by omega) h2]; rfl
    have b0 : bt (Utf8.encode c) 0 = 192 + c / 64 := by
      rw [enc2 hp (by omega) h2, bt_lit _ 0 (by simp)]
      have := ofNat_val (192 + c.toNat / 64) (by omega)
      simp only [List.getElem_cons_zero]; omega
    have b1 : bt (Utf8.encode c) 1 = 128 + c % 64 := by
      rw [enc2 hp (by omega) h2, bt_lit _ 1 (by simp)]
      have := ofNat_val (128 + c.toNat % 64) (by omega)
      simp only [List.getElem_cons_zero, List.getElem_cons_succ]; omega
    have hl : ln (bt (Utf8.encode c) 0) = 2 := by rw [b0]; unfold ln; rw [if_neg (by omega), if_neg (by omega), if_pos (by omega)]
    have hc : nc (Utf8.encode c) 0 = c := nc_of hl (by omega) (by omega) (by simp only [okn, Nat.zero_add, b1, Nat.reduceSub, Bool.true_and]; exact isCo_yes (by omega) (by omega)) (by simp only [jp, hdOf, Nat.zero_add, Nat.reduceSub, b0, b1]; omega) (by simp only [lstOf]; omega) hp
    unfold Reads
    rw [e]
    exact ⟨hs, hc, nl_of hl hc hb.1, hl⟩
  by_cases h3 : c < 65536
  · have e : lenOf c = 3 := by unfold lenOf; rw [if_neg h1, if_neg h2, if_pos h3]
    have hs : (Utf8.encode c).size = 3 := by rw [enc3 hp (by omega) h3]; rfl
    have b0 : bt (Utf8.encode c) 0 = 224 + c / 4096 := by
      rw [enc3 hp (by omega) h3, bt_lit _ 0 (by simp)]
      have := ofNat_val (224 + c.toNat / 4096) (by omega)
      simp only [List.getElem_cons_zero]; omega
    have b1 : bt (Utf8.encode c) 1 = 128 + c / 64 % 64 := by
      rw [enc3 hp (by omega) h3, bt_lit _ 1 (by simp)]
      have := ofNat_val (128 + c.toNat / 64 % 64) (by omega)
      simp only [List.getElem_cons_zero, List.getElem_cons_succ]; omega
    have b2 : bt (Utf8.encode c) 2 = 128 + c % 64 := by
      rw [enc3 hp (by omega) h3, bt_lit _ 2 (by simp)]
      have := ofNat_val (128 + c.toNat % 64) (by omega)
      simp only [List.getElem_cons_zero, List.getElem_cons_succ]; omega
    have hl : ln (bt (Utf8.encode c) 0) = 3 := by rw [b0]; unfold ln; rw [if_neg (by omega), if_neg (by omega), if_neg (by omega), if_pos (by omega)]
    have hc : nc (Utf8.encode c) 0 = c := nc_of hl (by omega) (by omega) (by simp only [okn, Nat.zero_add, b1, b2, Nat.reduceSub, Nat.reduceAdd, Bool.true_and, Bool.and_eq_true]; exact ⟨isCo_yes (by omega) (by omega), isCo_yes (by omega) (by omega)⟩) (by simp only [jp, hdOf, Nat.zero_add, Nat.reduceSub, Nat.reduceAdd, b0, b1, b2]; omega) (by simp only [lstOf]; omega) hp
    unfold Reads
    rw [e]
    exact ⟨hs, hc, nl_of hl hc hb.1, hl⟩
  · have e : lenOf c = 4 := by unfold lenOf; rw [if_neg h1, if_neg h2, if_neg h3]
    have hs : (Utf8.encode c).size = 4 := by rw [enc4 hp (by omega)]; rfl
    have b0 : bt (Utf8.encode c) 0 = 240 + c / 262144 := by
      rw [enc4 hp (by omega), bt_lit _ 0 (by simp)]
      have := ofNat_val (240 + c.toNat / 262144) (by omega)
      simp only [List.getElem_cons_zero]; omega
    have b1 : bt (Utf8.encode c) 1 = 128 + c / 4096 % 64 := by
      rw [enc4 hp (by omega), bt_lit _ 1 (by simp)]
      have := ofNat_val (128 + c.toNat / 4096 % 64) (by omega)
      simp only [List.getElem_cons_zero, List.getElem_cons_succ]; omega
    have b2 : bt (Utf8.encode c) 2 = 128 + c / 64 % 64 := by
      rw [enc4 hp (by omega), bt_lit _ 2 (by simp)]
      have := ofNat_val (128 + c.toNat / 64 % 64) (by omega)
      simp only [List.getElem_cons_zero, List.getElem_cons_succ]; omega
    have b3 : bt (Utf8.encode c) 3 = 128 + c % 64 := by
      rw [enc4 hp (by omega), bt_lit _ 3 (by simp)]
      have := ofNat_val (128 + c.toNat % 64) (by omega)
      simp only [List.getElem_cons_zero, List.getElem_cons_succ]; omega
    have hl : ln (bt (Utf8.encode c) 0) = 4 := by rw [b0]; unfold ln; rw [if_neg (by omega), if_neg (by omega), if_neg (by omega), if_neg (by omega), if_pos (by omega)]
    have hc : nc (Utf8.encode c) 0 = c := nc_of hl (by omega) (by omega) (by simp only [okn, Nat.zero_add, b1, b2, b3, Nat.reduceSub, Nat.reduceAdd, Bool.true_and, Bool.and_eq_true]; exact ⟨⟨isCo_yes (by omega) (by omega), isCo_yes (by omega) (by omega)⟩, isCo_yes (by omega) (by omega)⟩) (by simp only [jp, hdOf, Nat.zero_add, Nat.reduceSub, Nat.reduceAdd, b0, b1, b2, b3]; omega) (by simp only [lstOf]; omega) hp
    unfold Reads
    rw [e]
    exact ⟨hs, hc, nl_of hl hc hb.1, hl⟩
theorem lenOf_pos (c : Int) : 1 ≤ lenOf c ∧ lenOf c ≤ 4 := by
  unfold lenOf
  repeat' split
  all_goals omega
/-- It is one valid text of one code point. -/
theorem vd_enc {c : Int} (hp : isPt c = true) : vd (Utf8.encode c) 0 = true := by
  obtain ⟨h1, h2, h3, -⟩ := reads_enc hp
  have hb := pt_bd hp
  have := lenOf_pos c
  rw [vd_go (by omega) (by omega), h3]
  exact vd_end (by omega)
theorem ct_enc {c : Int} (hp : isPt c = true) : ct (Utf8.encode c) 0 = 1 := by
  obtain ⟨h1, h2, h3, -⟩ := reads_enc hp
  have := lenOf_pos c
  rw [ct_go (by omega), h3, ct_end (by omega)]
end Go.Proofs.YtbjgoigdhijbgaaDoor
/- More plain facts on valid texts: what none of them holds, and what is cut off. -/
namespace Go.Proofs.YtbjgoigdhijbgaaDoor
open Go.RowKit Go.PlainAid

theorem nc_okn {s : ByteArray} {k : Nat} (h : ¬ nc s k < 0) : okn s k (ln (bt s k) - 1) = true := by
  apply Classical.byContradiction
  intro ho
  have hv : jv s k (ln (bt s k)) = -1 := by unfold jv; rw [if_neg ho]
  apply h
  unfold nc
  rw [hv]
  split
  · omega
  · split
    · omega
    · split <;> omega
theorem ln_lt {x : Int} (h : ln x ≠ 0) : x < 248 := by
  unfold ln at h
  repeat' split at h
  all_goals omega
/-- No byte of a valid text is 248 or more. -/
theorem vd_no (s : ByteArray) : ∀ m i : Nat, s.size - i ≤ m → vd s i = true → ∀ j, i ≤ j → j < s.size → bt s j < 248 := by
  intro m
  induction m with
  | zero => intro i h _ j h1 h2; omega
  | succ m ih =>
    intro i h hv j h1 h2
    have hlt : i < s.size := by omega
    by_cases hn : nc s i < 0
    · rw [vd_bad hlt hn] at hv; cases hv
    · rw [vd_go hlt hn] at hv
      have hp := nl_pos s i
      have hl : nl s i = ln (bt s i) := by unfold nl; rw [if_neg hn]
      by_cases hj : i + nl s i ≤ j
      · exact ih _ (by omega) hv j hj h2
      · by_cases h0 : j = i
        · subst h0; exact ln_lt (nc_in hn).1
        · have := okn_all _ (nc_okn hn) (j - i) (by omega) (by omega)
          have e : i + (j - i) = j := by omega
          rw [e] at this
          omega
/-- What begins as a valid text is valid just if what is behind that is. -/
theorem vd_pre {a u : ByteArray} (hs : a.size ≤ u.size) (e : ∀ i, i < a.size → bt u i = bt a i) : ∀ m i : Nat, a.size - i ≤ m → i ≤ a.size → vd a i = true → vd u i = vd u a.size := by
  intro m
  induction m with
  | zero =>
    intro i h hi _
    obtain rfl : i = a.size := by omega
    rfl
  | succ m ih =>
    intro i h hi hv
    by_cases hlt : i < a.size
    · by_cases hn : nc a i < 0
      · rw [vd_bad hlt hn] at hv; cases hv
      · rw [vd_go hlt hn] at hv
        obtain ⟨h1, h2⟩ := nc_in hn
        have hc : nc u i = nc a i := nc_congr (e i hlt) (by omega) h2 (fun x hx => e _ (by omega))
        have hl : nl u i = nl a i := by unfold nl; rw [hc, e i hlt]
        rw [vd_go (by omega) (by rw [hc]; exact hn), hl]
        have := nl_pos a i
        exact ih _ (by omega) (nl_in a i hlt) hv
    · obtain rfl : i = a.size := by omega
      rfl
theorem vd_empty : vd ⟨#[]⟩ 0 = true := vd_end (by decide)
/-- A valid text and a code point of some bytes, the last of which is cut off. -/
theorem vd_cut {s0 : ByteArray} {c : Int} (h0 : vd s0 0 = true) (hp : isPt c = true) (hc : 128 ≤ c) : vd ((s0 ++ Utf8.encode c).extract 0 ((s0 ++ Utf8.encode c).size - 1)) 0 = false := by
  obtain ⟨r1, -, -, r4⟩ := reads_enc hp
  have h2 : 2 ≤ lenOf c := by
    unfold lenOf
    rw [if_neg (by omega)]
    repeat' split
    all_goals omega
  have hsz : (s0 ++ Utf8.encode c).size = s0.size + lenOf c := by rw [ByteArray.size_append, r1]
  have hu : ((s0 ++ Utf8.encode c).extract 0 ((s0 ++ Utf8.encode c).size - 1)).size = s0.size + lenOf c - 1 := by rw [size_ext _ _ _ (by omega), hsz]; omega
  have hb : ∀ i, i < s0.size + lenOf c - 1 → bt ((s0 ++ Utf8.encode c).extract 0 ((s0 ++ Utf8.encode c).size - 1)) i = bt (s0 ++ Utf8.encode c) i := fun i hi => by
    rw [bt_ext _ _ _ _ (by omega) (by omega), Nat.zero_add]
  rw [vd_pre (a := s0) (by omega) (fun i hi => by rw [hb i (by omega), bt_app_l _ _ _ hi]) s0.size 0 (by omega) (by omega) h0]
  refine vd_bad (by omega) ?_
  have e0 : bt ((s0 ++ Utf8.encode c).extract 0 ((s0 ++ Utf8.encode c).size - 1)) s0.size = bt (Utf8.encode c) 0 := by
    rw [hb _ (by omega)]
    have := bt_app_r s0 (Utf8.encode c) 0
    rw [Nat.add_zero] at this
    exact this
  unfold nc
  rw [e0, r4, hu, if_pos (.inr (by omega))]
  omega
/-- A byte 255 in the place of byte k. -/
def put255 (s : ByteArray) (k : Nat) : ByteArray := s.extract 0 k ++ ⟨#[255]⟩ ++ s.extract (k + 1) s.size
theorem put255_size {s : ByteArray} {k : Nat} (hk : k < s.size) : (put255 s k).size = s.size := by
  unfold put255
  rw [ByteArray.size_append, ByteArray.size_append, size_ext _ _ _ (by omega), size_ext _ _ _ (by omega)]
  show k - 0 + 1 + (s.size - (k + 1)) = s.size
  omega
theorem put255_at {s : ByteArray} {k : Nat} (hk : k < s.size) : bt (put255 s k) k = 255 := by
  unfold put255
  have e : (s.extract 0 k).size = k := by rw [size_ext _ _ _ (by omega)]; omega
  rw [bt_app_l _ _ _ (by rw [ByteArray.size_append, e]; show k < k + 1; omega)]
  have := bt_app_r (s.extract 0 k) ⟨#[255]⟩ 0
  rw [e, Nat.add_zero] at this
  rw [this]
  rfl
theorem put255_nc {s : ByteArray} {k : Nat} (hk : k < s.size) : nc (put255 s k) k = -1 ∧ nl (put255 s k) k = 1 := by
  have h : nc (put255 s k) k = -1 := by
    unfold nc
    rw [put255_at hk, if_pos (.inl (by decide))]
  exact ⟨h, by unfold nl; rw [h]; rfl⟩
theorem put255_vd {s : ByteArray} {k : Nat} (hk : k < s.size) : vd (put255 s k) 0 = false := by
  apply Classical.byContradiction
  intro h
  have := vd_no (put255 s k) _ 0 (Nat.le_refl _) (by simpa using h) k (by omega) (by rw [put255_size hk]; exact hk)
  rw [put255_at hk] at this
  omega
end Go.Proofs.YtbjgoigdhijbgaaDoor
/- What the language's own range over a text finds at a byte: where a code point begins, that one; a byte that begins none counts by itself. -/
namespace Go.Proofs.YtbjgoigdhijbgaaDoor
open Go.PlainAid

theorem get_nat (s : ByteArray) (k : Nat) : (((s.get! k).toNat : Nat) : Int) = bt s k := by
  by_cases h : k < s.size
  · have e : s.get! k = s[k]'h := by simp [ByteArray.get!, getElem!_pos, h]; rfl
    rw [e]
    exact get_bt s k h
  · rw [bt_end s (by omega)]
    have e : s.get! k = 0 := by
      show s.data[k]! = 0
      rw [getElem!_neg _ _ (by exact h)]
      rfl
    rw [e]
    rfl
/-- The bytes behind the first one of what is found there follow on; it ends within the text. -/
theorem dec_conts (s : ByteArray) (k : Nat) : (∀ j, 1 ≤ j → j < (Utf8.decode s k).2 → 128 ≤ bt s (k + j) ∧ k + j < s.size) ∧ (Utf8.decode s k).2 ≤ 4 := by
  rw [Lib.decode_at]
  obtain ⟨h1, h2, h3, h4⟩ := Lib.decodeN_conts (s.size - k) (s.get! k).toNat (s.get! (k + 1)).toNat (s.get! (k + 2)).toNat (s.get! (k + 3)).toNat
  refine ⟨fun j hj1 hj2 => ?_, h4⟩
  have g1 := get_nat s (k + 1)
  have g2 := get_nat s (k + 2)
  have g3 := get_nat s (k + 3)
  obtain rfl | rfl | rfl : j = 1 ∨ j = 2 ∨ j = 3 := by omega
  · have := h1 (by omega); omega
  · have := h2 (by omega); omega
  · have := h3 (by omega); omega
theorem ln_cases {x : Int} (h : ln x ≠ 0) : (x < 128 ∧ ln x = 1) ∨ (192 ≤ x ∧ x < 224 ∧ ln x = 2) ∨ (224 ≤ x ∧ x < 240 ∧ ln x = 3) ∨ (240 ≤ x ∧ x < 248 ∧ ln x = 4) := by
  by_cases h1 : x < 128
  · exact .inl ⟨h1, by unfold ln; rw [if_pos h1]⟩
  by_cases h2 : x < 192
  · exact absurd (by unfold ln; rw [if_neg h1, if_pos h2]) h
  by_cases h3 : x < 224
  · exact .inr (.inl ⟨by omega, h3, by unfold ln; rw [if_neg h1, if_neg h2, if_pos h3]⟩)
  by_cases h4 : x < 240
  · exact .inr (.inr (.inl ⟨by omega, h4, by unfold ln; rw [if_neg h1, if_neg h2, if_neg h3, if_pos h4]⟩))
  by_cases h5 : x < 248
  · exact .inr (.inr (.inr ⟨by omega, h5, by unfold ln; rw [if_neg h1, if_neg h2, if_neg h3, if_neg h4, if_pos h5]⟩))
  · exact absurd (by unfold ln; rw [if_neg h1, if_neg h2, if_neg h3, if_neg h4, if_neg h5]) h
/-- WHERE A CODE POINT BEGINS IT IS FOUND. -/
theorem dec_nc {s : ByteArray} {k : Nat} (h : ¬ nc s k < 0) : ((Utf8.decode s k).1 : Int) = nc s k ∧ (Utf8.decode s k).2 = nl s k := by
  rw [Lib.decode_at]
  have g0 := get_nat s k
  have g1 := get_nat s (k + 1)
  have g2 := get_nat s (k + 2)
  have g3 := get_nat s (k + 3)
  have b0 := bt_nonneg s k
  have b1 := bt_le s k
  obtain ⟨hl0, hin⟩ := nc_in h
  have hnl : nl s k = ln (bt s k) := by unfold nl; rw [if_neg h]
  have hp := nc_pt h
  have hj : nc s k = jv s k (ln (bt s k)) ∧ lstOf (ln (bt s k)) ≤ jv s k (ln (bt s k)) := by
    unfold nc at h ⊢
    rw [if_neg (by omega)] at h ⊢
    split at h
    · omega
    · rename_i hlt
      rw [if_neg hlt]
      split at h
      · rename_i hpt
        rw [if_pos hpt]
        exact ⟨rfl, by omega⟩
      · omega
  obtain ⟨hj1, hj2⟩ := hj
  have hok : okn s k (ln (bt s k) - 1) = true := by
    apply Classical.byContradiction
    intro ho
    have hv : jv s k (ln (bt s k)) = -1 := by unfold jv; rw [if_neg ho]
    omega
  have hv : nc s k = jp s k (hdOf (ln (bt s k))) (ln (bt s k) - 1) := by rw [hj1]; unfold jv; rw [if_pos hok]
  rw [hnl]
  rw [← hj1] at hj2
  have hpt := of_decide_eq_true hp
  clear hp hj1 hnl h
  obtain ⟨x, hx⟩ : ∃ x, x = bt s k := ⟨_, rfl⟩
  rw [← hx] at g0 b0 b1 hl0 hin hj2 hok hv ⊢
  have hjp0 : jp s k 0 0 = x := by simp only [jp, ← hx]; omega
  have hcase := ln_cases hl0
  rcases hcase with ⟨c1, e⟩ | ⟨c0, c1, e⟩ | ⟨c0, c1, e⟩ | ⟨c0, c1, e⟩
  · rw [e] at hv hj2 hin hok ⊢
    simp only [hdOf, Nat.sub_self, hjp0] at hv
    unfold Lib.decodeN
    rw [if_pos (by omega)]
    exact ⟨by simp only; omega, rfl⟩
  · rw [e] at hv hj2 hin hok ⊢
    simp only [Nat.reduceSub, okn, Bool.true_and, Nat.zero_add] at hok
    have k1 := of_decide_eq_true hok
    simp only [Nat.reduceSub, jp, hdOf, Nat.zero_add, ← hx] at hv
    simp only [lstOf] at hj2
    unfold Lib.decodeN
    rw [if_neg (by omega), if_pos (by omega), if_pos (by omega)]
    exact ⟨by simp only; omega, rfl⟩
  · rw [e] at hv hj2 hin hok ⊢
    simp only [Nat.reduceSub, okn, Bool.true_and, Nat.zero_add, Nat.reduceAdd, Bool.and_eq_true] at hok
    have k1 := of_decide_eq_true hok.1
    have k2 := of_decide_eq_true hok.2
    simp only [Nat.reduceSub, jp, hdOf, Nat.zero_add, Nat.reduceAdd, ← hx] at hv
    simp only [lstOf] at hj2
    unfold Lib.decodeN
    rw [if_neg (by omega), if_neg (by omega), if_pos (by omega), if_pos (by omega)]
    exact ⟨by simp only; omega, rfl⟩
  · rw [e] at hv hj2 hin hok ⊢
    simp only [Nat.reduceSub, okn, Bool.true_and, Nat.zero_add, Nat.reduceAdd, Bool.and_eq_true] at hok
    have k1 := of_decide_eq_true hok.1.1
    have k2 := of_decide_eq_true hok.1.2
    have k3 := of_decide_eq_true hok.2
    simp only [Nat.reduceSub, jp, hdOf, Nat.zero_add, Nat.reduceAdd, ← hx] at hv
    simp only [lstOf] at hj2
    unfold Lib.decodeN
    rw [if_neg (by omega), if_neg (by omega), if_neg (by omega), if_pos (by omega), if_pos (by omega)]
    exact ⟨by simp only; omega, rfl⟩
end Go.Proofs.YtbjgoigdhijbgaaDoor
