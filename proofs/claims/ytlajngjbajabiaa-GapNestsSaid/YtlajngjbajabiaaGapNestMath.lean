/-
  Brackets and words in one another, and beside one another: what such texts scan as, and how deep they are.
-/
import Derived.Test.YtlajngjbajabiaaGapTx
namespace Go.Proofs.Ytlajngjbajabiaa
open Go.RowKit Go.PlainAid

theorem vdk (P : ByteArray) (n : Nat) (h : P.size ≤ n) (hd : vdF P n 0 = true) : vd P 0 = true := by rw [vd_F P n 0 (by omega)]; exact hd
theorem sg_tx (P : ByteArray) (c : Int) (m : Nat) (hv : vd P 0 = true) (hs : P.size = m) (hm0 : m ≠ 0) (hf : bl (bt P 0) = false) (hc : bt P 0 = c) (h37 : c ≠ 37) (h46 : c ≠ 46) (hbg : beg c = 0) (h39 : c ≠ 39) (h34 : c ≠ 34) (h36 : c ≠ 36) (h63 : c ≠ 63)
    (hm : ∀ l, lgL (P.data.toList ++ l) = m) {Y : ByteArray} {R : List Kt} (h : Tx Y R) : Tx (P ++ Y) ((9, P) :: R) := by
  have := Tx.cons hv (n := m) (by omega) (by omega) hf (one_sg (P := P) (Y := Y) (by omega) hc h37 h46 hbg h39 h34 h36 h63 (hm _) hm0) (by decide) (fun i h1 h2 => by omega) h
  rw [← hs, show P.extract 0 P.size = P from ByteArray.extract_zero_size] at this
  exact this
theorem nm_tx (P Q : ByteArray) (n : Nat) (kd : Int) (hv : vd P 0 = true) (hP : n ≤ P.size) (hn : 0 < n) (hc : beg (bt P 0) = 1) (hi : ∀ i, i < n → inn (bt P i) = true) (hQ : P.extract 0 n = Q) (hk : (if rs Q = true then (8 : Int) else 1) = kd) (hk0 : kd ≠ 0) (hf : bl (bt P 0) = false)
    (hb : ∀ i, n ≤ i → i < P.size → bl (bt P i) = true) {Y : ByteArray} {R : List Kt} (hs : (n < P.size ∧ inn (bt P n) = false) ∨ (n = P.size ∧ Stop Y)) (h : Tx Y R) : Tx (P ++ Y) ((kd, Q) :: R) := by
  have h1 := one_nm (Y := Y) hP hn hc hi hs
  rw [hQ, hk] at h1
  have := Tx.cons hv hn hP hf h1 hk0 hb h
  rw [hQ] at this
  exact this
def opl : List (List UInt8) := [[40], [123], [91], [60, 60], [98, 101, 103, 105, 110, 32], [99, 97, 115, 101, 32], [105, 102, 32], [114, 101, 99, 101, 105, 118, 101, 32], [102, 117, 110, 40]]
def shl : List (List UInt8) := [[41], [125], [93], [62, 62], [32, 101, 110, 100], [32, 101, 110, 100], [32, 101, 110, 100], [32, 101, 110, 100], [41, 32, 101, 110, 100]]
def opb (w : Nat) : ByteArray := ⟨(opl.getD w []).toArray⟩
def shb (w : Nat) : ByteArray := ⟨(shl.getD w []).toArray⟩
def kEnd : Kt := (8, { data := #[101, 110, 100] })
def kX : Kt := (1, { data := #[120] })
/-- The tokens of what opens, and of what closes. -/
def Ro : Nat → List Kt
  | 0 => [(9, { data := #[40] })]
  | 1 => [(9, { data := #[123] })]
  | 2 => [(9, { data := #[91] })]
  | 3 => [(9, { data := #[60, 60] })]
  | 4 => [(8, { data := #[98, 101, 103, 105, 110] })]
  | 5 => [(8, { data := #[99, 97, 115, 101] })]
  | 6 => [(8, { data := #[105, 102] })]
  | 7 => [(8, { data := #[114, 101, 99, 101, 105, 118, 101] })]
  | _ => [(8, { data := #[102, 117, 110] }), (9, { data := #[40] })]
def Rc : Nat → List Kt
  | 0 => [(9, { data := #[41] })]
  | 1 => [(9, { data := #[125] })]
  | 2 => [(9, { data := #[93] })]
  | 3 => [(9, { data := #[62, 62] })]
  | 8 => [(9, { data := #[41] }), kEnd]
  | _ => [kEnd]
theorem t40 {Y : ByteArray} {R : List Kt} (h : Tx Y R) : Tx ({ data := #[40] } ++ Y) ((9, { data := #[40] }) :: R) :=
  sg_tx _ 40 1 (vdk _ 1 (by decide) (by decide +kernel)) rfl (by decide) (by decide) (by decide) (by decide) (by decide) (by decide) (by decide) (by decide) (by decide) (by decide) (fun _ => rfl) h
theorem t123 {Y : ByteArray} {R : List Kt} (h : Tx Y R) : Tx ({ data := #[123] } ++ Y) ((9, { data := #[123] }) :: R) :=
  sg_tx _ 123 1 (vdk _ 1 (by decide) (by decide +kernel)) rfl (by decide) (by decide) (by decide) (by decide) (by decide) (by decide) (by decide) (by decide) (by decide) (by decide) (fun _ => rfl) h
theorem t91 {Y : ByteArray} {R : List Kt} (h : Tx Y R) : Tx ({ data := #[91] } ++ Y) ((9, { data := #[91] }) :: R) :=
  sg_tx _ 91 1 (vdk _ 1 (by decide) (by decide +kernel)) rfl (by decide) (by decide) (by decide) (by decide) (by decide) (by decide) (by decide) (by decide) (by decide) (by decide) (fun _ => rfl) h
theorem t60 {Y : ByteArray} {R : List Kt} (h : Tx Y R) : Tx ({ data := #[60, 60] } ++ Y) ((9, { data := #[60, 60] }) :: R) :=
  sg_tx _ 60 2 (vdk _ 2 (by decide) (by decide +kernel)) rfl (by decide) (by decide) (by decide) (by decide) (by decide) (by decide) (by decide) (by decide) (by decide) (by decide) (fun _ => rfl) h
theorem t41 {Y : ByteArray} {R : List Kt} (h : Tx Y R) : Tx ({ data := #[41] } ++ Y) ((9, { data := #[41] }) :: R) :=
  sg_tx _ 41 1 (vdk _ 1 (by decide) (by decide +kernel)) rfl (by decide) (by decide) (by decide) (by decide) (by decide) (by decide) (by decide) (by decide) (by decide) (by decide) (fun _ => rfl) h
theorem t125 {Y : ByteArray} {R : List Kt} (h : Tx Y R) : Tx ({ data := #[125] } ++ Y) ((9, { data := #[125] }) :: R) :=
  sg_tx _ 125 1 (vdk _ 1 (by decide) (by decide +kernel)) rfl (by decide) (by decide) (by decide) (by decide) (by decide) (by decide) (by decide) (by decide) (by decide) (by decide) (fun _ => rfl) h
theorem t93 {Y : ByteArray} {R : List Kt} (h : Tx Y R) : Tx ({ data := #[93] } ++ Y) ((9, { data := #[93] }) :: R) :=
  sg_tx _ 93 1 (vdk _ 1 (by decide) (by decide +kernel)) rfl (by decide) (by decide) (by decide) (by decide) (by decide) (by decide) (by decide) (by decide) (by decide) (by decide) (fun _ => rfl) h
theorem t62s {Y : ByteArray} {R : List Kt} (h : Tx Y R) : Tx ({ data := #[62, 62] } ++ Y) ((9, { data := #[62, 62] }) :: R) :=
  sg_tx _ 62 2 (vdk _ 2 (by decide) (by decide +kernel)) rfl (by decide) (by decide) (by decide) (by decide) (by decide) (by decide) (by decide) (by decide) (by decide) (by decide) (fun _ => rfl) h
/-- A word with a blank behind. -/
theorem tword (P Q : ByteArray) (n : Nat) (hv : vdF P 20 0 = true) (hz : P.size = n + 1) (hz2 : n + 1 ≤ 20) (hn : 0 < n) (hc : beg (bt P 0) = 1) (hi : ∀ i, i < n → inn (bt P i) = true) (hQ : P.extract 0 n = Q) (hk : rs Q = true) (hl : bt P n = 32) {Y : ByteArray} {R : List Kt} (h : Tx Y R) : Tx (P ++ Y) ((8, Q) :: R) :=
  nm_tx P Q n 8 (vdk P 20 (by omega) hv) (by omega) hn hc hi hQ (by rw [hk]; rfl) (by decide) (by
    cases hb : bl (bt P 0)
    · rfl
    · rcases bl_four hb with e | e | e | e <;> rw [e] at hc <;> exact absurd hc (by decide)) (fun i h1 h2 => by rw [show i = n by omega, hl]; rfl) (.inl ⟨by omega, by rw [hl]; rfl⟩) h
theorem tend {Y : ByteArray} {R : List Kt} (hs : Stop Y) (h : Tx Y R) : Tx ({ data := #[101, 110, 100] } ++ Y) (kEnd :: R) :=
  nm_tx _ _ 3 8 (vdk _ 3 (by decide) (by decide +kernel)) (by decide) (by decide) (by decide) (by decide) (by decide +kernel) (by decide +kernel) (by decide) (by decide) (fun i h1 h2 => absurd h2 (by show ¬ i < 3; omega)) (.inr ⟨rfl, hs⟩) h
theorem tx {Y : ByteArray} {R : List Kt} (hs : Stop Y) (h : Tx Y R) : Tx ({ data := #[120] } ++ Y) (kX :: R) :=
  nm_tx _ _ 1 1 (vdk _ 1 (by decide) (by decide +kernel)) (by decide) (by decide) (by decide) (by decide) (by decide +kernel) (by decide +kernel) (by decide) (by decide) (fun i h1 h2 => absurd h2 (by show ¬ i < 1; omega)) (.inr ⟨rfl, hs⟩) h
theorem tfun {Y : ByteArray} {R : List Kt} (hs : Stop Y) (h : Tx Y R) : Tx ({ data := #[102, 117, 110] } ++ Y) ((8, { data := #[102, 117, 110] }) :: R) :=
  nm_tx _ _ 3 8 (vdk _ 3 (by decide) (by decide +kernel)) (by decide) (by decide) (by decide) (by decide) (by decide +kernel) (by decide +kernel) (by decide) (by decide) (fun i h1 h2 => absurd h2 (by show ¬ i < 3; omega)) (.inr ⟨rfl, hs⟩) h
theorem t32 {Y : ByteArray} {R : List Kt} (h : Tx Y R) : Tx ({ data := #[32] } ++ Y) R :=
  Tx.blank (vdk _ 1 (by decide) (by decide +kernel)) (by decide) h
theorem stop_app {P Y : ByteArray} (hP : 0 < P.size) (h : inn (bt P 0) = false) : Stop (P ++ Y) := .inr (by rw [bt_app_l _ _ _ hP]; exact h)
theorem op_tx {Y : ByteArray} {R : List Kt} (h : Tx Y R) : ∀ w, w < 9 → Tx (opb w ++ Y) (Ro w ++ R)
  | 0, _ => t40 h
  | 1, _ => t123 h
  | 2, _ => t91 h
  | 3, _ => t60 h
  | 4, _ => tword _ _ 5 (by decide +kernel) rfl (by decide) (by decide) (by decide) (by decide) (by decide +kernel) (by decide +kernel) (by decide) h
  | 5, _ => tword _ _ 4 (by decide +kernel) rfl (by decide) (by decide) (by decide) (by decide) (by decide +kernel) (by decide +kernel) (by decide) h
  | 6, _ => tword _ _ 2 (by decide +kernel) rfl (by decide) (by decide) (by decide) (by decide) (by decide +kernel) (by decide +kernel) (by decide) h
  | 7, _ => tword _ _ 7 (by decide +kernel) rfl (by decide) (by decide) (by decide) (by decide) (by decide +kernel) (by decide +kernel) (by decide) h
  | 8, _ => by
    have := tfun (stop_app (by decide) (by decide)) (t40 h)
    rw [← ByteArray.append_assoc] at this
    exact this
theorem send {Y : ByteArray} {R : List Kt} (hs : Stop Y) (h : Tx Y R) : Tx ({ data := #[32, 101, 110, 100] } ++ Y) (kEnd :: R) := by
  have := t32 (tend hs h)
  rw [← ByteArray.append_assoc] at this
  exact this
theorem sh_tx {Y : ByteArray} {R : List Kt} (hs : Stop Y) (h : Tx Y R) : ∀ w, w < 9 → Tx (shb w ++ Y) (Rc w ++ R)
  | 0, _ => t41 h
  | 1, _ => t125 h
  | 2, _ => t93 h
  | 3, _ => t62s h
  | 4, _ => send hs h
  | 5, _ => send hs h
  | 6, _ => send hs h
  | 7, _ => send hs h
  | 8, _ => by
    have := t41 (send hs h)
    rw [← ByteArray.append_assoc] at this
    exact this
theorem sh_stop : ∀ w : Fin 9, 0 < (shb w.val).size ∧ inn (bt (shb w.val) 0) = false := by decide
/-! ### so many of them -/
/-- So many of one text, one behind the other, as a loop puts them. -/
def repL (P : ByteArray) : Nat → ByteArray
  | 0 => { data := #[] }
  | k + 1 => repL P k ++ P
theorem emp_app (P : ByteArray) : ({ data := #[] } : ByteArray) ++ P = P := ByteArray.empty_append
theorem app_emp (P : ByteArray) : P ++ ({ data := #[] } : ByteArray) = P := ByteArray.append_empty
theorem repL_front (P : ByteArray) : ∀ k, repL P (k + 1) = P ++ repL P k
  | 0 => by show { data := #[] } ++ P = P ++ { data := #[] }; rw [emp_app, app_emp]
  | k + 1 => by
    show repL P (k + 1) ++ P = P ++ repL P (k + 1)
    rw [repL_front P k, ByteArray.append_assoc, ← repL_front P k]
    rw [repL_front P k]
    show P ++ (repL P (k + 1)) = _
    rw [repL_front P k]
theorem repL_size (P : ByteArray) : ∀ k, (repL P k).size = k * P.size
  | 0 => by show 0 = _; omega
  | k + 1 => by show (repL P k ++ P).size = _; rw [ByteArray.size_append, repL_size P k, Nat.succ_mul]
def repT (X : List Kt) : Nat → List Kt → List Kt
  | 0, T => T
  | k + 1, T => X ++ repT X k T
theorem stop_rep (w : Nat) (hw : w < 9) : ∀ k, Stop (repL (shb w) k)
  | 0 => .inl rfl
  | k + 1 => by
    obtain ⟨h1, h2⟩ := sh_stop ⟨w, hw⟩
    rw [repL_front]
    exact stop_app h1 h2
theorem sh_rep (w : Nat) (hw : w < 9) : ∀ k, Tx (repL (shb w) k) (repT (Rc w) k [])
  | 0 => Tx.nil
  | k + 1 => by rw [repL_front]; exact sh_tx (stop_rep w hw k) (sh_rep w hw k) w hw
theorem op_rep (w : Nat) (hw : w < 9) {Y : ByteArray} {R : List Kt} (h : Tx Y R) : ∀ k, Tx (repL (opb w) k ++ Y) (repT (Ro w) k R)
  | 0 => by show Tx ({ data := #[] } ++ Y) R; rw [emp_app]; exact h
  | k + 1 => by
    rw [repL_front, ByteArray.append_assoc]
    exact op_tx (op_rep w hw h k) w hw
/-- In one another. -/
def nst1 (w k : Nat) : ByteArray := repL (opb w) k ++ { data := #[120] } ++ repL (shb w) k
theorem nst1_tx (w k : Nat) (hw : w < 9) : Tx (nst1 w k) (repT (Ro w) k (kX :: repT (Rc w) k [])) := by
  unfold nst1
  rw [ByteArray.append_assoc]
  exact op_rep w hw (tx (stop_rep w hw k) (sh_rep w hw k)) k
/-- Beside one another. -/
def blk (w : Nat) : ByteArray := opb w ++ { data := #[120] } ++ shb w ++ { data := #[32] }
theorem blk_tx {Y : ByteArray} {R : List Kt} (w : Nat) (hw : w < 9) (h : Tx Y R) : Tx (blk w ++ Y) ((Ro w ++ (kX :: Rc w)) ++ R) := by
  unfold blk
  rw [ByteArray.append_assoc, ByteArray.append_assoc, ByteArray.append_assoc, List.append_assoc]
  obtain ⟨h1, h2⟩ := sh_stop ⟨w, hw⟩
  exact op_tx (tx (stop_app h1 h2) (sh_tx (stop_app (by decide) (by decide)) (t32 h) w hw)) w hw
theorem blk_rep (w : Nat) (hw : w < 9) : ∀ k, Tx (repL (blk w) k) (repT (Ro w ++ (kX :: Rc w)) k [])
  | 0 => Tx.nil
  | k + 1 => by rw [repL_front]; exact blk_tx w hw (blk_rep w hw k)
/-! ### how deep -/
def nk (x : Kt) (t : List Kt) : Int := nh (x.1, x.2, 0) (t.map fun y => (y.1, y.2, 0))
def dlk : List Kt → Int → Int → Int
  | [], _, m => m
  | x :: t, o, m => dlk t (max (o + nk x t) 0) (max m (max (o + nk x t) 0))
theorem nh_nk (x : Tok) (t : List Tok) : nh x t = nk (x.1, x.2.1) (t.map fun y => (y.1, y.2.1)) := by
  unfold nk nh
  have : par t = par ((t.map fun y => ((y.1, y.2.1) : Kt)).map fun y => ((y.1, y.2, 0) : Tok)) := by
    cases t with
    | nil => rfl
    | cons y t => rfl
  rw [this]
theorem dl_k : ∀ (T : List Tok) (o m : Int), dl T o m = dlk (T.map fun y => (y.1, y.2.1)) o m
  | [], _, _ => rfl
  | x :: t, o, m => by
    rw [List.map_cons]
    simp only [dl, dlk]
    rw [nh_nk, dl_k t]
def dw (w : Nat) : Int := if w = 8 then 2 else 1
theorem dlk_one (x : Kt) (t : List Kt) (a m : Int) (n : Int) (h : nk x t = n) : dlk (x :: t) a m = dlk t (max (a + n) 0) (max m (max (a + n) 0)) := by rw [← h]; rfl
theorem nk_sign (s : ByteArray) (t : List Kt) : nk (9, s) t = if opq s.toList then 1 else if clq s.toList then -1 else 0 := rfl
theorem nk_word (s : ByteArray) (t : List Kt) (h : isFun s = false) : nk (8, s) t = if opw s.toList then 1 else if clw s.toList then -1 else 0 := by
  unfold nk nh
  rw [if_neg (show ¬ ((8 : Int) = 9) by decide), if_pos rfl]
  simp [h]
theorem nk_fun (t : List Kt) : nk (8, { data := #[102, 117, 110] }) ((9, { data := #[40] }) :: t) = 1 := by
  unfold nk nh
  rw [if_neg (by decide), if_pos rfl, if_neg (by decide +kernel), if_neg (by decide +kernel), if_pos]
  rw [Bool.and_eq_true]
  exact ⟨by decide +kernel, by show ((9 : Int) == 9 && ({ data := #[40] } : ByteArray).toList == [40]) = true; decide +kernel⟩
theorem nk_x (t : List Kt) : nk kX t = 0 := rfl
theorem nk_end (t : List Kt) : nk kEnd t = -1 := by
  unfold kEnd
  rw [nk_word _ _ (by decide +kernel), if_neg (by decide +kernel), if_pos (by decide +kernel)]
theorem op_dl (T : List Kt) (a m : Int) (ha : 0 ≤ a) (hm : a ≤ m) : ∀ w, w < 9 → dlk (Ro w ++ T) a m = dlk T (a + dw w) (max m (a + dw w)) := by
  have one : ∀ (x : Kt), nk x T = 1 → dlk ([x] ++ T) a m = dlk T (a + 1) (max m (a + 1)) := fun x h => by
    show dlk (x :: T) a m = _
    rw [dlk_one x T a m 1 h]
    congr 1 <;> omega
  intro w hw
  match w, hw with
  | 0, _ => exact one _ (by rw [nk_sign, if_pos (by decide +kernel)])
  | 1, _ => exact one _ (by rw [nk_sign, if_pos (by decide +kernel)])
  | 2, _ => exact one _ (by rw [nk_sign, if_pos (by decide +kernel)])
  | 3, _ => exact one _ (by rw [nk_sign, if_pos (by decide +kernel)])
  | 4, _ => exact one _ (by rw [nk_word _ _ (by decide +kernel), if_pos (by decide +kernel)])
  | 5, _ => exact one _ (by rw [nk_word _ _ (by decide +kernel), if_pos (by decide +kernel)])
  | 6, _ => exact one _ (by rw [nk_word _ _ (by decide +kernel), if_pos (by decide +kernel)])
  | 7, _ => exact one _ (by rw [nk_word _ _ (by decide +kernel), if_pos (by decide +kernel)])
  | 8, _ =>
    show dlk ((8, { data := #[102, 117, 110] }) :: (9, { data := #[40] }) :: T) a m = dlk T (a + 2) (max m (a + 2))
    rw [dlk_one _ _ a m 1 (nk_fun T), dlk_one _ T _ _ 1 (by rw [nk_sign, if_pos (by decide +kernel)])]
    congr 1 <;> omega
theorem x_dl (T : List Kt) (a m : Int) (ha : 0 ≤ a) (hm : a ≤ m) : dlk (kX :: T) a m = dlk T a m := by
  rw [dlk_one _ T a m 0 (nk_x T)]
  congr 1 <;> omega
theorem cl_dl (T : List Kt) (a m : Int) (hm : a ≤ m) : ∀ w, w < 9 → dw w ≤ a → dlk (Rc w ++ T) a m = dlk T (a - dw w) m := by
  have one : ∀ (x : Kt), nk x T = -1 → 1 ≤ a → dlk ([x] ++ T) a m = dlk T (a - 1) m := fun x h h1 => by
    show dlk (x :: T) a m = _
    rw [dlk_one x T a m (-1) h]
    congr 1 <;> omega
  intro w hw
  match w, hw with
  | 0, _ => exact one _ (by rw [nk_sign, if_neg (by decide +kernel), if_pos (by decide +kernel)])
  | 1, _ => exact one _ (by rw [nk_sign, if_neg (by decide +kernel), if_pos (by decide +kernel)])
  | 2, _ => exact one _ (by rw [nk_sign, if_neg (by decide +kernel), if_pos (by decide +kernel)])
  | 3, _ => exact one _ (by rw [nk_sign, if_neg (by decide +kernel), if_pos (by decide +kernel)])
  | 4, _ => exact one _ (nk_end T)
  | 5, _ => exact one _ (nk_end T)
  | 6, _ => exact one _ (nk_end T)
  | 7, _ => exact one _ (nk_end T)
  | 8, _ =>
    intro h1
    have h2 : (2 : Int) ≤ a := h1
    show dlk ((9, { data := #[41] }) :: kEnd :: T) a m = dlk T (a - 2) m
    rw [dlk_one _ _ a m (-1) (by rw [nk_sign, if_neg (by decide +kernel), if_pos (by decide +kernel)]), dlk_one _ T _ _ (-1) (nk_end T)]
    congr 1 <;> omega
theorem dw_pos (w : Nat) : 1 ≤ dw w := by unfold dw; split <;> omega
theorem op_rep_dl (w : Nat) (hw : w < 9) (T : List Kt) : ∀ (k : Nat) (a m : Int), 0 ≤ a → a ≤ m → dlk (repT (Ro w) k T) a m = dlk T (a + dw w * k) (max m (a + dw w * k))
  | 0, a, m, ha, hm => by
    show dlk T a m = _
    rw [show a + dw w * ((0 : Nat) : Int) = a by simp]
    congr 1; omega
  | k + 1, a, m, ha, hm => by
    have := dw_pos w
    show dlk (Ro w ++ repT (Ro w) k T) a m = _
    rw [op_dl _ a m ha hm w hw, op_rep_dl w hw T k _ _ (by omega) (by omega)]
    have e : a + dw w * ((k + 1 : Nat) : Int) = a + dw w + dw w * (k : Int) := by rw [Int.natCast_add, Int.mul_add]; simp; omega
    have h0 : 0 ≤ dw w * (k : Int) := Int.mul_nonneg (by omega) (by omega)
    rw [e]
    congr 1; omega
theorem cl_rep_dl (w : Nat) (hw : w < 9) (T : List Kt) : ∀ (k : Nat) (a m : Int), a ≤ m → dw w * k ≤ a → dlk (repT (Rc w) k T) a m = dlk T (a - dw w * k) m
  | 0, a, m, hm, _ => by
    show dlk T a m = _
    rw [show a - dw w * ((0 : Nat) : Int) = a by simp]
  | k + 1, a, m, hm, h => by
    have := dw_pos w
    have e : dw w * ((k + 1 : Nat) : Int) = dw w + dw w * (k : Int) := by rw [Int.natCast_add, Int.mul_add]; simp; omega
    have h0 : 0 ≤ dw w * (k : Int) := Int.mul_nonneg (by omega) (by omega)
    rw [e] at h
    show dlk (Rc w ++ repT (Rc w) k T) a m = _
    rw [cl_dl _ a m hm w hw (by omega), cl_rep_dl w hw T k _ _ (by omega) (by omega), e]
    congr 1; omega
theorem nst1_dl (w k : Nat) (hw : w < 9) : dlk (repT (Ro w) k (kX :: repT (Rc w) k [])) 0 0 = dw w * k := by
  have h0 : 0 ≤ dw w * (k : Int) := Int.mul_nonneg (by have := dw_pos w; omega) (by omega)
  rw [op_rep_dl w hw _ k 0 0 (by omega) (by omega), x_dl _ _ _ (by omega) (by omega), cl_rep_dl w hw [] k _ _ (by omega) (by omega)]
  show max 0 (0 + dw w * (k : Int)) = _
  omega
theorem blk_dl (w : Nat) (hw : w < 9) (T : List Kt) (m : Int) (hm : 0 ≤ m) : dlk ((Ro w ++ (kX :: Rc w)) ++ T) 0 m = dlk T 0 (max m (dw w)) := by
  have := dw_pos w
  rw [List.append_assoc, op_dl _ 0 m (by omega) hm w hw]
  show dlk (kX :: (Rc w ++ T)) _ _ = _
  rw [x_dl _ _ _ (by omega) (by omega), cl_dl _ _ _ (by omega) w hw (by omega)]
  congr 1 <;> omega
theorem blk_rep_dl (w : Nat) (hw : w < 9) : ∀ (k : Nat) (m : Int), 0 ≤ m → dlk (repT (Ro w ++ (kX :: Rc w)) k []) 0 m = if k = 0 then m else max m (dw w)
  | 0, _, _ => rfl
  | k + 1, m, hm => by
    have := dw_pos w
    show dlk ((Ro w ++ (kX :: Rc w)) ++ repT (Ro w ++ (kX :: Rc w)) k []) 0 m = _
    have e : (if k + 1 = 0 then m else max m (dw w)) = max m (dw w) := if_neg (by omega)
    rw [blk_dl w hw _ m hm, blk_rep_dl w hw k _ (by omega), e]
    split <;> omega
/-- What a text that scans as these gives. -/
theorem tx_scan {Y : ByteArray} {R : List Kt} (h : Tx Y R) (hz : Y.size ≤ 65536) : ∃ L, scanR Y = (L, 0) ∧ dl (toks Y L) 0 0 = dlk R 0 0 ∧ L.length ≤ Y.size := by
  obtain ⟨v, L, h1, h2⟩ := h
  have h3 := scan_of hz v h1
  refine ⟨L, h3, ?_, ?_⟩
  · rw [dl_k, ← h2]
    unfold toks
    rw [List.map_map]
    rfl
  · have := scan_len Y
    rw [h3] at this; exact this
theorem opb_size : ∀ w : Fin 9, (opb w.val).size ≤ 8 ∧ (shb w.val).size ≤ 5 := by decide
end Go.Proofs.Ytlajngjbajabiaa
