/-
  The contract of Longest.
-/
import Derived.Test.YtajjhhodpohfpaaDoorSignWalks
import Derived.Laws.Rows
import Derived.Laws.CopyRow
import Derived.Laws.CopyOwn
import Derived.Deep.RegionLaw
import Derived.Deep.RegionWith
import Derived.BigRegion
namespace Go.Proofs.YtajjhhodpohfpaaDoor
open Go.RowKit Go.PlainAid

/-- The table of signs lies as the text lays it. -/
def TabM (w : World) : Prop := ∃ cs t fr, w.heap[2]? = some (.cells cs t fr) ∧ cs.size = 111 ∧ ∀ k, k < 37 → cs.extract (k * 3) (k * 3 + 3) = #[.int .u8 (ga k), .int .u8 (gb k), .int .u8 (gc k)]
theorem TabM.drewN {w : World} (h : TabM w) (n : Nat) : TabM (w.drewN n) := h
theorem TabM.below {w w' : World} {B : Nat} (h : TabM w) (hb : Below B w w') (hB : 2 < B) : TabM w' := by
  obtain ⟨cs, t, fr, h1, h2, h3⟩ := h
  exact ⟨cs, t, fr, (hb.block _ hB).trans h1, h2, h3⟩
theorem run_index_agg {P : Program} (w : World) (t e : TypeId) (n m k : Nat) (cs : Array Value) (f : Nat) (h : P.underlying t = some (.array n e)) (he : P.underlying e = some (.array m f)) (hi : (P.info? e).map (·.size) = some 3) (hk : k < n) :
    (Instr.index t (.agg cs) (.int .i64 k)).run P w = .ok (.agg (cs.extract (k * 3) (k * 3 + 3))) w := by
  have hk' : (0 : Int) ≤ (k : Int) ∧ (k : Int) < (n : Int) := by omega
  cases hq : P.info? e with
  | none => simp [hq] at hi
  | some i =>
    have hs : i.size = 3 := by simpa [hq] using hi
    simp [Instr.index, run_underlying h, asIntOf, part, isAgg, run_underlying he, sizeOf, typeInfo, hq, hs, hk]
theorem pc_list (l : List UInt8) (n : Nat) (hn : n ≤ 3) : ((l.take n).map (fun x : UInt8 => Value.int .u8 (x.toNat : Int)) ++ ([Value.int .u8 0, Value.int .u8 0, Value.int .u8 0] : List Value).drop (Nat.min l.length n)) = [Value.int .u8 (pc l n 0), Value.int .u8 (pc l n 1), Value.int .u8 (pc l n 2)] := by
  have hn4 : n = 0 ∨ n = 1 ∨ n = 2 ∨ n = 3 := by omega
  rcases hn4 with rfl | rfl | rfl | rfl <;> rcases l with _ | ⟨x, _ | ⟨y, _ | ⟨z, l⟩⟩⟩ <;> first | rfl | skip
  all_goals simp [pc]
/-- 'copy(piece[:n], t)' into a new block of three zeroes. -/
theorem run_copy_cut {P : Program} (w : World) (dT sT ty elem : TypeId) (g n dCap : Nat) (t : ByteArray) (T : TypeId) (hu : P.underlying dT = some (.slice elem)) (hs : (P.info? elem).map (·.size) = some 1)
    (hg : w.heap[g]? = some (.cells #[.int .u8 0, .int .u8 0, .int .u8 0] T (0, 0))) (hn : n ≤ 3) :
    (Builtin.copy_ #[dT, sT] ty #[.slice (some ⟨g, 0, none⟩) n dCap, .string t]).run P w = .ok (goInt (Nat.min t.size n)) (w.setRow g #[.int .u8 (pc t.data.toList n 0), .int .u8 (pc t.data.toList n 1), .int .u8 (pc t.data.toList n 2)]) := by
  have hl : ((t.data.toList.take (Nat.min t.size n)).map (fun x : UInt8 => Value.int .u8 (x.toNat : Int))).length = Nat.min t.size n := by
    rw [List.length_map, List.length_take, Array.length_toList]
    show min (Nat.min t.size n) t.size = _
    exact Nat.min_eq_left (Nat.min_le_left _ _)
  have he : t.data.toList.take (Nat.min t.size n) = t.data.toList.take n := by
    by_cases h : t.size ≤ n
    · have e : Nat.min t.size n = t.size := Nat.min_eq_left h
      rw [e, List.take_of_length_le (by rw [Array.length_toList]; exact Nat.le_refl _), List.take_of_length_le (by rw [Array.length_toList]; exact h)]
    · have e : Nat.min t.size n = n := Nat.min_eq_right (by omega)
      rw [e]
  have hst := run_storeCells_at (P := P) g 0 T ((t.data.toList.take (Nat.min t.size n)).map (fun x : UInt8 => Value.int .u8 (x.toNat : Int))) 0 _ w hg (by rw [hl]; have : Nat.min t.size n ≤ n := Nat.min_le_right t.size n; show 0 + 0 + _ ≤ 3; omega) (by
    intro v hv
    obtain ⟨x, _, rfl⟩ := List.mem_map.1 hv
    rfl)
  have hp := pc_list t.data.toList n hn
  rw [hl, he] at hst
  simp only [Nat.add_zero, Nat.zero_add, List.take_zero, List.nil_append] at hst
  rw [show t.data.toList.length = t.size by rw [Array.length_toList]; rfl] at hp
  rw [hp] at hst
  cases hq : P.info? elem with
  | none => simp [hq] at hs
  | some i =>
    have hs1 : i.size = 1 := by simpa [hq] using hs
    simp [Builtin.copy_, run_underlying hu, Builtin.lenOf, Builtin.firstCells, sizeOf, typeInfo, hq]
    rw [← List.map_take, he, hst]
    simp [Result.andThen]
/-- .. as one step of a region that draws. -/
theorem step_copy_cut {P : Program} {ops : Array Oper} {o : Oper} {a : Act} {w : World} {K : Act → World → Prop} {Q : Exit → Act → World → Prop} {E : Prop} (hgd : o.guard = none) (d x : Operand) (dT sT : TypeId)
    (ho : o.op = .call { callee := .builtin .copy, args := #[d, x], argTypes := #[dT, sT] }) (elem : TypeId) (hu : P.underlying dT = some (.slice elem)) (hs : (P.info? elem).map (·.size) = some 1) (g n dCap : Nat) (hd : a.eval d = .slice (some ⟨g, 0, none⟩) n dCap)
    (t : ByteArray) (hx : a.eval x = .string t) (T : TypeId) (hg : w.heap[g]? = some (.cells #[.int .u8 0, .int .u8 0, .int .u8 0] T (0, 0))) (hn : n ≤ 3)
    (h : ∀ w', Hid (w'.heap[g]? = some (.cells #[.int .u8 (pc t.data.toList n 0), .int .u8 (pc t.data.toList n 1), .int .u8 (pc t.data.toList n 2)] T (0, 0))) → Hid (∀ k, k ≠ g → w'.heap[k]? = w.heap[k]?) → Hid (Below g w w') → K (a.put o.dst (goInt (Nat.min t.size n : Nat))) w') :
    if Region.wanted o (yielded ops a.tmps) = true then Oper.wp P o a w K Q else E := by
  have hw : Region.wanted o (yielded ops a.tmps) = true := by simp [Region.wanted, hgd]
  rw [if_pos hw]
  have hrun := run_copy_cut (P := P) w dT sT o.type elem g n dCap t T hu hs hg hn
  unfold Oper.wp
  simp [execOp, ho, resolve, invoke, builtin, hd, hx, hrun, Result.andThen]
  exact h _ (Lib.hid (setRow_heap w g _ _ T _ hg)) (Lib.hid (fun k hk => setRow_other w g k _ hk)) (Lib.hid (below_setRow (Below.refl _ _) (Nat.le_refl _) _))
end Go.Proofs.YtajjhhodpohfpaaDoor
