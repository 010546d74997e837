/-
  Plain facts on names: what a byte begins, which bytes stand within a name, the reserved words, what a plain name is. Nothing of the program stands here.
-/
import Derived.PlainAid
namespace Go.Proofs.YtnejkdaiopjchaaDoor
open Go.PlainAid

/-- What begins with a byte: 1 a to z, 2 A to Z and _, 3 digits, 0 nothing. -/
def beg (c : Int) : Int := if 97 ≤ c ∧ c ≤ 122 then 1 else if (65 ≤ c ∧ c ≤ 90) ∨ c = 95 then 2 else if 48 ≤ c ∧ c ≤ 57 then 3 else 0
/-- May it stand within a name? -/
def inn (c : Int) : Bool := beg c != 0 || c == 64
/-- The reserved words. -/
def ws : List (List UInt8) := [
  [97, 102, 116, 101, 114], [97, 110, 100], [97, 110, 100, 97, 108, 115, 111], [98, 97, 110, 100], [98, 101, 103, 105, 110], [98, 110, 111, 116],
  [98, 111, 114], [98, 115, 108], [98, 115, 114], [98, 120, 111, 114], [99, 97, 115, 101], [99, 97, 116, 99, 104],
  [100, 105, 118], [101, 110, 100], [102, 117, 110], [105, 102], [110, 111, 116], [111, 102],
  [111, 114], [111, 114, 101, 108, 115, 101], [114, 101, 99, 101, 105, 118, 101], [114, 101, 109], [119, 104, 101, 110], [120, 111, 114]]
/-- The j-th of them. -/
def wd (j : Nat) : ByteArray := ⟨(ws.getD j []).toArray⟩
/-- Is a text one of them? -/
def rs (s : ByteArray) : Bool := ws.any fun l => s.data.toList == l
/-- Are all its bytes such as stand within a name? -/
def inns (s : ByteArray) : Bool := s.data.toList.all fun x => inn (x.toNat : Int)
/-- Is it a plain name? -/
def pl (s : ByteArray) : Bool := (beg (bt s 0) == 1) && inns s && !rs s

theorem rs_yes {s : ByteArray} {j : Nat} (hj : j < 24) (h : s.data.toList = ws.getD j []) : rs s = true := by
  unfold rs
  rw [List.any_eq_true]
  refine ⟨ws.getD j [], ?_, by rw [h]; exact beq_self_eq_true _⟩
  rw [List.getD_eq_getElem?_getD, List.getElem?_eq_getElem (show j < ws.length from hj)]
  exact List.getElem_mem _
theorem rs_no {s : ByteArray} (h : ∀ j, j < 24 → s.data.toList ≠ ws.getD j []) : rs s = false := by
  unfold rs
  rw [List.any_eq_false]
  intro x hx
  obtain ⟨j, hj, rfl⟩ := List.getElem_of_mem hx
  have := h j hj
  rw [List.getD_eq_getElem?_getD, List.getElem?_eq_getElem hj] at this
  simpa using this
theorem bt_inn {s : ByteArray} (h : inns s = true) (k : Nat) (hk : k < s.size) : inn (bt s k) = true := by
  unfold inns at h
  rw [List.all_eq_true] at h
  have hl : k < s.data.toList.length := by rw [Array.length_toList]; exact hk
  have := h _ (List.getElem_mem hl)
  rw [← get_bt s k hk]
  exact this
theorem inns_of {s : ByteArray} (h : ∀ k, k < s.size → inn (bt s k) = true) : inns s = true := by
  unfold inns
  rw [List.all_eq_true]
  intro x hx
  obtain ⟨k, hk, rfl⟩ := List.getElem_of_mem hx
  have hk' : k < s.size := by rw [Array.length_toList] at hk; exact hk
  have := h k hk'
  rw [← get_bt s k hk'] at this
  exact this
theorem inns_not {s : ByteArray} {k : Nat} (hk : k < s.size) (h : inn (bt s k) = false) : inns s = false := by
  cases e : inns s
  · rfl
  · rw [bt_inn e k hk] at h; cases h
theorem inns_app (a b : ByteArray) : inns (a ++ b) = (inns a && inns b) := by
  unfold inns
  rw [ByteArray.toList_data_append, List.all_append]
theorem pl_empty : pl ⟨#[]⟩ = false := by decide +kernel
theorem pl_begin {s : ByteArray} (h : beg (bt s 0) ≠ 1) : pl s = false := by
  unfold pl
  rw [beq_false_of_ne h]; rfl
theorem pl_inner {s : ByteArray} (h : inns s = false) : pl s = false := by
  unfold pl
  rw [h]; simp
theorem pl_res {s : ByteArray} (h : beg (bt s 0) = 1) (h1 : inns s = true) : pl s = !rs s := by
  unfold pl
  rw [h, h1]; rfl
/-- What follows where all is inner and it begins with a small letter. -/
theorem beg_none {c : Int} (h : 127 < c) : beg c = 0 := by unfold beg; rw [if_neg (by omega), if_neg (by omega), if_neg (by omega)]
theorem inn_none {c : Int} (h : 127 < c) : inn c = false := by unfold inn; rw [beg_none h, beq_false_of_ne (by omega)]; rfl
theorem beg_range (c : Int) : 0 ≤ beg c ∧ beg c ≤ 3 := by
  unfold beg
  repeat' split
  all_goals omega
theorem inn_of_beg {c : Int} (h : 0 < beg c) : inn c = true := by
  unfold inn
  have : (beg c != 0) = true := by simp; omega
  rw [this]; rfl
theorem beg_digit (c : Int) : (beg c == 3) = (decide (48 ≤ c) && decide (c ≤ 57)) := by
  unfold beg
  repeat' split
  all_goals simp
  all_goals omega

/-- A text that begins with q is no reserved word. -/
theorem rs_q {s : ByteArray} {l : List UInt8} (h : s.data.toList = 113 :: l) : rs s = false := by
  unfold rs
  rw [h]
  simp [ws]
theorem pl_q (x y : UInt8) : pl (⟨#[113]⟩ ++ ⟨[x, y].toArray⟩ ++ ⟨#[113]⟩) = (inn (x.toNat : Int) && inn (y.toNat : Int)) := by
  have hl : (⟨#[113]⟩ ++ ⟨[x, y].toArray⟩ ++ ⟨#[113]⟩ : ByteArray).data.toList = 113 :: [x, y, 113] := by
    rw [ByteArray.toList_data_append, ByteArray.toList_data_append]; rfl
  have hi : inns (⟨#[113]⟩ ++ ⟨[x, y].toArray⟩ ++ ⟨#[113]⟩) = (inn (x.toNat : Int) && inn (y.toNat : Int)) := by
    unfold inns
    rw [hl]
    have e : inn (((113 : UInt8).toNat : Nat) : Int) = true := by decide +kernel
    simp only [List.all_cons, List.all_nil, e, Bool.and_true, Bool.true_and]
  have hs : 0 < (⟨#[113]⟩ ++ ⟨[x, y].toArray⟩ ++ ⟨#[113]⟩ : ByteArray).size := by
    rw [ByteArray.size_append, ByteArray.size_append]
    show 0 < 1 + 2 + 1
    decide
  have hb : bt (⟨#[113]⟩ ++ ⟨[x, y].toArray⟩ ++ ⟨#[113]⟩) 0 = 113 := by
    rw [← get_bt _ 0 hs]
    have : (⟨#[113]⟩ ++ ⟨[x, y].toArray⟩ ++ ⟨#[113]⟩ : ByteArray)[0]'hs = (⟨#[113]⟩ ++ ⟨[x, y].toArray⟩ ++ ⟨#[113]⟩ : ByteArray).data.toList[0]'hs := rfl
    rw [this]
    simp only [hl, List.getElem_cons_zero]
    rfl
  unfold pl
  rw [hb, hi, rs_q hl]
  show (true && _ && true) = _
  simp
theorem wd_facts : ∀ r : Fin 24, rs (wd r) = true ∧ pl (wd r) = false ∧ rs (wd r ++ ⟨#[95]⟩) = false ∧ rs ((wd r).extract 0 ((wd r).size - 1)) = false ∧ ((wd r).data.toList == [111, 114, 120]) = false ∧ 1 ≤ (wd r).size ∧ (wd r).size ≤ 7 := by decide +kernel
theorem wd_more : ∀ r : Fin 24, ∀ d : Fin 26, rs (wd r ++ ⟨[UInt8.ofNat (97 + d)].toArray⟩) = false ∧ pl (wd r ++ ⟨[UInt8.ofNat (97 + d)].toArray⟩) = true := by decide +kernel
end Go.Proofs.YtnejkdaiopjchaaDoor
