/-
  Signs: the longest one that a text's rest begins with; what opens, what closes, and with what.
-/
import Derived.PlainAid
namespace Go.Proofs.YtgkilffofnjmlaaDoor
open Go.RowKit Go.PlainAid

/-- All signs, longer ones first. -/
def sgs : List (List UInt8) := [[61, 58, 61], [61, 47, 61], [60, 60], [62, 62], [45, 62], [60, 45], [60, 61], [61, 62], [58, 61], [58, 58], [61, 61], [47, 61], [61, 60], [62, 61], [124, 124], [43, 43], [45, 45], [40], [41], [123], [125], [91], [93], [44], [59], [58], [61], [124], [33], [35], [43], [45], [42], [47], [60], [62], [46]]
def sg (k : Nat) : List UInt8 := sgs.getD k []
/-- How long the first one of the rest of the signs is, that the text begins with; m signs are left. -/
def lgf (l : List UInt8) : Nat → Nat
  | 0 => 0
  | m + 1 => if (sg (36 - m)).isPrefixOf l = true then (sg (36 - m)).length else lgf l m
def lgL (l : List UInt8) : Nat := lgf l 37
/-- Longest. -/
def lg (s : ByteArray) (a : Int) : Nat := if 0 ≤ a ∧ a < s.size then lgL (s.data.toList.drop a.toNat) else 0
theorem lgf_step (l : List UInt8) (k : Nat) (h : k < 37) : lgf l (37 - k) = if (sg k).isPrefixOf l = true then (sg k).length else lgf l (37 - (k + 1)) := by
  obtain ⟨m, hm⟩ : ∃ m, 37 - k = m + 1 := ⟨36 - k, by omega⟩
  rw [hm]
  have e1 : 36 - m = k := by omega
  have e2 : 37 - (k + 1) = m := by omega
  rw [e2]
  show (if (sg (36 - m)).isPrefixOf l = true then (sg (36 - m)).length else lgf l m) = _
  rw [e1]
theorem lgf_end (l : List UInt8) : lgf l (37 - 37) = 0 := rfl
theorem sg_facts : ∀ k : Fin 37, 1 ≤ (sg k.val).length ∧ (sg k.val).length ≤ 3 ∧ (sg k.val).all (· != 0) = true := by decide +kernel
theorem lgf_le (l : List UInt8) : ∀ m, m ≤ 37 → lgf l m ≤ 3
  | 0, _ => Nat.zero_le _
  | m + 1, h => by
    have f := (sg_facts ⟨36 - m, by omega⟩).2.1
    unfold lgf
    split
    · exact f
    · exact lgf_le l m (by omega)
theorem lg_le (s : ByteArray) (a : Int) : lg s a ≤ 3 := by
  unfold lg; split
  · exact lgf_le _ 37 (by omega)
  · omega
theorem lgL_nil : lgL [] = 0 := by decide +kernel
theorem lg_at (s : ByteArray) (k : Nat) (h : k < s.size) : lg s k = lgL (s.data.toList.drop k) := by
  unfold lg; rw [if_pos (by omega)]; rfl
theorem lg_out (s : ByteArray) (a : Int) (h : a < 0 ∨ s.size ≤ a) : lg s a = 0 := by
  unfold lg; rw [if_neg (by omega)]

/-! A sign as three bytes, 0 behind its end; a piece of a text as three bytes. -/
def ga (k : Nat) : Int := (((sg k).getD 0 0).toNat : Int)
def gb (k : Nat) : Int := (((sg k).getD 1 0).toNat : Int)
def gc (k : Nat) : Int := (((sg k).getD 2 0).toNat : Int)
/-- Byte j of what n bytes of a text, copied into three zeroes, leave. -/
def pc (l : List UInt8) (n j : Nat) : Int := if j < n then ((l.getD j 0).toNat : Int) else 0

theorem n0 {a : UInt8} (h : (a != 0) = true) : ¬ (a.toNat : Int) = 0 := by
  intro e
  have : a.toNat = 0 := by omega
  have : a = 0 := UInt8.toNat_inj.1 this
  simp [this] at h
theorem ueq {a b : UInt8} : ((a.toNat : Int) = (b.toNat : Int)) ↔ a = b := ⟨fun h => UInt8.toNat_inj.1 (by omega), fun h => by rw [h]⟩
/-- The piece is the sign just if the text begins with the sign. -/
theorem piece_is (g l : List UInt8) (h1 : 1 ≤ g.length) (h3 : g.length ≤ 3) (hz : g.all (· != 0) = true) :
    g.isPrefixOf l = true ↔ (pc l g.length 0 = ((g.getD 0 0).toNat : Int) ∧ pc l g.length 1 = ((g.getD 1 0).toNat : Int) ∧ pc l g.length 2 = ((g.getD 2 0).toNat : Int)) := by
  match g, h1, h3, hz with
  | [a], _, _, hz =>
    simp at hz
    have na : ¬ (a.toNat : Int) = 0 := n0 (by simpa using hz)
    match l with
    | [] => simp [pc, List.isPrefixOf]; omega
    | x :: l => simp [pc, List.isPrefixOf]; rw [ueq]; exact eq_comm
  | [a, b], _, _, hz =>
    simp at hz
    have na : ¬ (a.toNat : Int) = 0 := n0 (by simpa using hz.1)
    have nb : ¬ (b.toNat : Int) = 0 := n0 (by simpa using hz.2)
    match l with
    | [] => simp [pc, List.isPrefixOf]; omega
    | [x] => simp [pc, List.isPrefixOf]; omega
    | x :: y :: l => simp [pc, List.isPrefixOf]; rw [ueq, ueq]; constructor <;> (rintro ⟨rfl, rfl⟩; exact ⟨rfl, rfl⟩)
  | [a, b, c], _, _, hz =>
    simp at hz
    have na : ¬ (a.toNat : Int) = 0 := n0 (by simpa using hz.1)
    have nb : ¬ (b.toNat : Int) = 0 := n0 (by simpa using hz.2.1)
    have nc : ¬ (c.toNat : Int) = 0 := n0 (by simpa using hz.2.2)
    match l with
    | [] => simp [pc, List.isPrefixOf]; omega
    | [x] => simp [pc, List.isPrefixOf]; omega
    | [x, y] => simp [pc, List.isPrefixOf]; omega
    | x :: y :: z :: l => simp [pc, List.isPrefixOf]; rw [ueq, ueq, ueq]; constructor <;> (rintro ⟨rfl, rfl, rfl⟩; exact ⟨rfl, rfl, rfl⟩)
theorem prefix_len {g l : List UInt8} (h : g.isPrefixOf l = true) : g.length ≤ l.length := by
  have := List.isPrefixOf_iff_prefix.1 h
  exact this.length_le
/-- How many bytes a sign of three bytes has. -/
def sz3 (a b c : Int) : Nat := if a = 0 then 0 else if b = 0 then 1 else if c = 0 then 2 else 3
theorem sz_sg : ∀ k : Fin 37, sz3 (ga k.val) (gb k.val) (gc k.val) = (sg k.val).length := by decide +kernel

/-! What opens, what closes. -/
def opq (l : List UInt8) : Bool := l == [40] || l == [123] || l == [91] || l == [60, 60]
def opw (l : List UInt8) : Bool := l == [98, 101, 103, 105, 110] || l == [99, 97, 115, 101] || l == [105, 102] || l == [114, 101, 99, 101, 105, 118, 101]
def clq (l : List UInt8) : Bool := l == [41] || l == [125] || l == [93] || l == [62, 62]
def clw (l : List UInt8) : Bool := l == [101, 110, 100]
def prL (l : List UInt8) : List UInt8 := if l = [40] then [41] else if l = [123] then [125] else if l = [91] then [93] else if l = [60, 60] then [62, 62] else []
def pr (s : ByteArray) : ByteArray := ⟨(prL s.data.toList).toArray⟩
def ops (k : Int) (s : ByteArray) : Bool := if k = 9 then opq s.data.toList else if k = 8 then opw s.data.toList else false
def cls (k : Int) (s : ByteArray) : Bool := if k = 9 then clq s.data.toList else if k = 8 then clw s.data.toList else false
end Go.Proofs.YtgkilffofnjmlaaDoor
