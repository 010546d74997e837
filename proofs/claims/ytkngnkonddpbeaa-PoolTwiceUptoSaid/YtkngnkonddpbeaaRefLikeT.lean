/-
  THE DOCUMENT's like (Same): what differs at the top, by comments or by how many parts there are.
-/
import Derived.Test.YtkngnkonddpbeaaRefLikeA
namespace Go.Proofs.Ytkngnkonddpbeaa
open Go.RowKit Go.PlainAid

set_option maxRecDepth 100000 in
set_option maxHeartbeats 4000000 in
theorem rlike_d2t (k : Int) (t : ByteArray) (a : Option Addr) (N cap : Nat) (br bl : Bool) (nv tv : Value) (a2 : Option Addr) (N2 cap2 : Nat) (nv2 tv2 : Value) (w : World) (b1 b2 : Bool)
    (TX1 : Hid (∀ W, Below w.heap.size w W → Calls Try.prog 20 #[nv, nv2] W fun e w' => e = .returned (.bool b1) ∧ Below W.heap.size W w'))
    (TX2 : Hid (∀ W, Below w.heap.size w W → Calls Try.prog 20 #[tv, tv2] W fun e w' => e = .returned (.bool b2) ∧ Below W.heap.size W w'))
    (h : (b1 && b2 && decide (N = N2)) = false) :
    Calls Try.prog 17 #[.agg #[.int .i64 k, .string t, .slice a N cap, .bool br, .bool bl, nv, tv], .agg #[.int .i64 k, .string t, .slice a2 N2 cap2, .bool br, .bool bl, nv2, tv2], .bool true] w fun e w' => e = .returned (.bool false) ∧ Below w.heap.size w w' := by
  have gk : (k != k) = false := bne_self_eq_false _
  have gt : (t.toList != t.toList) = false := bne_self_eq_false _
  have gb : (bl != bl) = false := bne_self_eq_false _
  have gr : (br != br) = false := bne_self_eq_false _
  obtain ⟨Z, hZ⟩ : ∃ Z, Z = (w.alloc (.cells #[.int .i64 k, .string t, .slice a N cap, .bool br, .bool bl, nv, tv] 32)).alloc (.cells #[.int .i64 k, .string t, .slice a2 N2 cap2, .bool br, .bool bl, nv2, tv2] 32) := ⟨_, rfl⟩
  have hbW : Below w.heap.size w Z := by rw [hZ]; exact below2 _ _ _
  have HB0 : Hid (Below Z.heap.size Z ((w.alloc (.cells #[.int .i64 k, .string t, .slice a N cap, .bool br, .bool bl, nv, tv] 32)).alloc (.cells #[.int .i64 k, .string t, .slice a2 N2 cap2, .bool br, .bool bl, nv2, tv2] 32))) := Lib.hid (by rw [← hZ]; exact Below.refl _ _)
  have HC := Lib.hid (fun W (hb : Below Z.heap.size Z W) => nd2_cells (by rw [hZ] at hb; exact hb))
  have UP := Lib.hid (fun W (h : Below Z.heap.size Z W) => hbW.trans (h.mono hbW.size))
  clear hZ hbW
  obtain ⟨⟨p0, p1, p2, p3, p4, p5, p6⟩, ⟨q0, q1, q2, q3, q4, q5, q6⟩⟩ := HC.out _ HB0.out
  cases b1
  · clear h
    go_enter Try.func17, Try.ntmps17
    go_wp2_with fail
    refine (TX1.out _ (UP.out _ HB0.out)).mono ?_
    rintro e w1 ⟨rfl, hb1⟩
    have HB1 : Hid (Below Z.heap.size Z w1) := Lib.hid (HB0.out.trans (hb1.mono HB0.out.size))
    obtain ⟨⟨p0, p1, p2, p3, p4, p5, p6⟩, ⟨q0, q1, q2, q3, q4, q5, q6⟩⟩ := HC.out _ HB1.out
    clear hb1
    go_wp2_with fail
    go_ret
    exact ⟨by rfl, UP.out _ HB1.out⟩
  cases b2
  · clear h
    go_enter Try.func17, Try.ntmps17
    go_wp2_with fail
    refine (TX1.out _ (UP.out _ HB0.out)).mono ?_
    rintro e w1 ⟨rfl, hb1⟩
    have HB1 : Hid (Below Z.heap.size Z w1) := Lib.hid (HB0.out.trans (hb1.mono HB0.out.size))
    obtain ⟨⟨p0, p1, p2, p3, p4, p5, p6⟩, ⟨q0, q1, q2, q3, q4, q5, q6⟩⟩ := HC.out _ HB1.out
    clear hb1
    go_wp2_with fail
    refine (TX2.out _ (UP.out _ HB1.out)).mono ?_
    rintro e w2 ⟨rfl, hb2⟩
    have HB2 : Hid (Below Z.heap.size Z w2) := Lib.hid (HB1.out.trans (hb2.mono HB1.out.size))
    obtain ⟨⟨p0, p1, p2, p3, p4, p5, p6⟩, ⟨q0, q1, q2, q3, q4, q5, q6⟩⟩ := HC.out _ HB2.out
    clear hb2
    go_wp2_with fail
    go_ret
    exact ⟨by rfl, UP.out _ HB2.out⟩
  have hNN : ¬ N = N2 := by intro e; simp [e] at h
  have gl : ((N : Int) != (N2 : Int)) = true := by simp; omega
  clear h
  go_enter Try.func17, Try.ntmps17
  go_wp2_with fail
  refine (TX1.out _ (UP.out _ HB0.out)).mono ?_
  rintro e w1 ⟨rfl, hb1⟩
  have HB1 : Hid (Below Z.heap.size Z w1) := Lib.hid (HB0.out.trans (hb1.mono HB0.out.size))
  obtain ⟨⟨p0, p1, p2, p3, p4, p5, p6⟩, ⟨q0, q1, q2, q3, q4, q5, q6⟩⟩ := HC.out _ HB1.out
  clear hb1
  go_wp2_with fail
  refine (TX2.out _ (UP.out _ HB1.out)).mono ?_
  rintro e w2 ⟨rfl, hb2⟩
  have HB2 : Hid (Below Z.heap.size Z w2) := Lib.hid (HB1.out.trans (hb2.mono HB1.out.size))
  obtain ⟨⟨p0, p1, p2, p3, p4, p5, p6⟩, ⟨q0, q1, q2, q3, q4, q5, q6⟩⟩ := HC.out _ HB2.out
  clear hb2
  go_wp2_with fail
  go_ret
  exact ⟨by rfl, UP.out _ HB2.out⟩
end Go.Proofs.Ytkngnkonddpbeaa
