/-
  THE PROGRAM's Forced, Lits.
-/
import Derived.Test.YtkdaombcbcegfaaTreeUse
import Derived.Test.YtkdaombcbcegfaaTreeSz
import Derived.Test.YtkdaombcbcegfaaRefLits
import Derived.Test.YtkdaombcbcegfaaStrClone
namespace Go.Proofs.Ytkdaombcbcegfaa
open Go.RowKit Go.PlainAid

def remFX : List Fr → Bool
  | [] => false
  | f :: r => ofr f.x || remF (f :: r)
def remLX : List Fr → List ByteArray
  | [] => []
  | f :: r => olt f.x ++ remL (f :: r)
theorem Nx.frc {st st' : List Fr} {ls : List Nd} (h : Nx st ls st') : remF st = remFX st' := by
  cases st' with
  | nil => exact h.force.1 rfl
  | cons f r => exact h.force.2 f r rfl
theorem Nx.lit {st st' : List Fr} {ls : List Nd} (h : Nx st ls st') : remL st = remLX st' := by
  cases st' with
  | nil => exact h.lits.1 rfl
  | cons f r => exact h.lits.2 f r rfl
theorem remF_dum (n : Nd) (g o : Nat) : remF [⟨dum n, 0, g, o⟩] = frc n := by simp only [remF, todo_zero, dum, pts, frcL, Bool.or_false]
theorem remL_dum (n : Nd) (g o : Nat) : remL [⟨dum n, 0, g, o⟩] = lts n := by simp only [remL, todo_zero, dum, pts, ltsL, List.append_nil]
/-- A row of texts is appended to one of one's own: and which block it lies in then. -/
theorem run_append_st {w : World} (ty : TypeId) (base : Nat) (v : Value) (I : List ByteArray) (hown : Txs w base v I) (sv : Value) (L : List ByteArray) (hst : StAt w sv L)
    (h63 : I.length + L.length ≤ 1048576) (hbase : base ≤ w.heap.size) :
    ∃ v' w', (Builtin.append_ #[22, 22] ty #[v, sv]).run Try.prog w = .ok v' w' ∧ Txs w' base v' (I ++ L) ∧ w.grownBy w' v.ownBlock ∧ (v'.ownBlock = v.ownBlock ∨ ∀ g, v'.ownBlock = some g → w.heap.size ≤ g) := by
  obtain ⟨i0, hi, hz0, hz1, hz2⟩ := info_parts infoStr
  obtain ⟨ao, cap, rfl, hr⟩ := hst
  cases ao with
  | some ad =>
    have hnews : ∀ (j : Nat) (u : Value), (L.map Value.string)[j]? = some u → w.cell? (ad.add j) = some u := by
      intro j u hj
      rw [List.getElem?_map] at hj
      obtain ⟨y, hy, rfl⟩ := Option.map_eq_some_iff.1 hj
      have hl : j < L.length := (List.getElem?_eq_some_iff.1 hy).1
      obtain ⟨g, o', e, -, hc⟩ := hr (by omega)
      cases e
      have := hc j y hy
      rcases Nat.eq_zero_or_pos j with h0 | h0
      · subst h0
        simpa [Addr.add] using this
      · have h1 : ¬ j = 0 := by omega
        simpa [Addr.add, h1] using this
    obtain ⟨v', w', hrun, h1, h2, h3⟩ := run_append_where (P := Try.prog) w base 22 ty 9 i0 _ 1 16 Try.underlying22 hi hz0 hz1 hz2 rfl (by decide) v I.length (I.map Value.string) hown ad L.length cap (L.map Value.string) (by simp) hnews (by intro u hu; simp only [List.mem_map] at hu; obtain ⟨y, -, rfl⟩ := hu; rfl) (by unfold maxLen; omega) (by omega) hbase
    refine ⟨v', w', hrun, ?_, h2, h3⟩
    unfold Txs
    rw [List.length_append, List.map_append]
    exact h1
  | none =>
    have h0 : L = [] := by
      cases L with
      | nil => rfl
      | cons y t => obtain ⟨g, o', e, -⟩ := hr (by simp); cases e
    subst h0
    have hrun : (Builtin.append_ #[22, 22] ty #[v, .slice none 0 cap]).run Try.prog w = .ok v w := by
      rcases hown.2 with ⟨rfl, _⟩ | ⟨g, c, cur, rfl, _, _, hnc, _⟩
      · simp [Builtin.append_, run_underlying Try.underlying22, sizeOf, typeInfo, hi, Builtin.lenOf, Builtin.firstCells]
      · simp [Builtin.append_, run_underlying Try.underlying22, sizeOf, typeInfo, hi, Builtin.lenOf, Builtin.firstCells, hnc, storeCells]
    exact ⟨v, w, hrun, by rw [List.append_nil]; exact hown, World.grownBy.refl w _, .inl rfl⟩
theorem wpList_append_stw {w : World} {ops : Array Oper} {rest : List Oper} {o : Oper} {a : Act} {Q : Exit → Act → World → Prop} (hgd : o.guard = none) (s x : Operand)
    (ho : o.op = .call { callee := .builtin .append, args := #[s, x], argTypes := #[22, 22] })
    (base : Nat) (v : Value) (I : List ByteArray) (hs : a.eval s = v) (hown : Txs w base v I) (sv : Value) (L : List ByteArray) (hx : a.eval x = sv) (hst : StAt w sv L)
    (h63 : I.length + L.length ≤ 1048576) (hbase : base ≤ w.heap.size)
    (h : ∀ v' w', Txs w' base v' (I ++ L) → w.grownBy w' v.ownBlock → (v'.ownBlock = v.ownBlock ∨ ∀ g, v'.ownBlock = some g → w.heap.size ≤ g) → wpList Try.prog ops Q rest (a.put o.dst v') w') : wpList Try.prog ops Q (o :: rest) a w := by
  obtain ⟨v', w', hrun, h1, h2, h3⟩ := run_append_st o.type base v I hown sv L hst h63 hbase
  refine wpList_plain hgd fun K hK => ?_
  unfold Oper.wp
  simp [execOp, ho, resolve, invoke, builtin, hs, hx, hrun, Result.andThen]
  exact hK _ _ (h v' w' h1 h2 h3)
/-- What one owns of a row: its block. -/
def Ob (v : Value) (g : Nat) : Prop := v.ownBlock = some g
theorem grown_mv {W W' : World} {v v' : Value} (hg : W.grownBy W' v.ownBlock) (hw : v'.ownBlock = v.ownBlock ∨ ∀ g, v'.ownBlock = some g → W.heap.size ≤ g) : Mv (Ob v) W (Ob v') W' :=
  ⟨hg.os, hg.tape, hg.output, hg.size, fun k hk hn => hg.block k hk (fun e => hn e.symm), fun k hk => by
    rcases hw with h | h
    · exact .inl (by unfold Ob at *; rw [← h]; exact hk)
    · exact .inr (h k hk)⟩
/-- A row of texts of one's own that a walk does not own. -/
theorem txs_mv {W W' : World} {O O' : Nat → Prop} {base : Nat} {z : Value} {I : List ByteArray} (h : Txs W base z I) (hm : Mv O W O' W') (ho : ∀ g, z.ownBlock = some g → ¬ O g) : Txs W' base z I :=
  row_block h (fun g e => hm.block g (h.lt g e).2 (ho g e))
theorem own_mv {W W' : World} {O O' P : Nat → Prop} {base : Nat} {z : Value} {I : List ByteArray} (h : Txs W base z I) (hm : Mv O W O' W') (ho : ∀ g, z.ownBlock = some g → ¬ O g ∧ ¬ P g) : ∀ g, z.ownBlock = some g → ¬ O' g ∧ ¬ P g := fun g e =>
  ⟨fun h' => (hm.own g h').elim (ho g e).1 (fun a => by have := (h.lt g e).2; omega), (ho g e).2⟩
theorem cloned_any (t : ByteArray) (h : Sz t) (w : World) : Calls Try.prog 25 #[.string t] w fun e w' => e = .returned (.string t) ∧ Below w.heap.size w w' := clonew_any t h w
set_option maxRecDepth 100000 in
set_option maxHeartbeats 4000000 in
theorem pforced_any (n : Nd) (c : List Value) (w : World) (h1 : NdAt w c n) (h : OkT n) :
    Calls Try.prog 20 #[.agg c.toArray] w fun e w' => e = .returned (.bool (frc n)) ∧ Below w.heap.size w w' := by
  obtain ⟨Z, hZ⟩ : ∃ Z, Z = w.alloc (.cells c.toArray 26) := ⟨_, rfl⟩
  have hb0 : Below w.heap.size w Z := by rw [hZ]; exact below1 _ _
  obtain ⟨s, hs⟩ : ∃ s, s = Z.heap.size := ⟨_, rfl⟩
  have hws : w.heap.size ≤ s := by rw [hs]; exact hb0.size
  have HST := Lib.hid (start_any n c w Z h1 h hb0 (.func 24) #[] #[] s hs)
  have HUP := Lib.hid (fun W hb => (hb0.trans (Below.mono (B' := w.heap.size) (B := Z.heap.size) (w := Z) (w' := W) hb hb0.size) : Below w.heap.size w W))
  have HWS := Lib.hid hws
  obtain ⟨N, hN⟩ : ∃ N, N = frc n := ⟨_, rfl⟩
  have HN : Hid (∀ g o, remF [⟨dum n, 0, g, o⟩] = N) := Lib.hid (fun g o => by rw [remF_dum, hN])
  obtain ⟨P, hP⟩ : ∃ P, P = Pk w.heap.size s := ⟨_, rfl⟩
  rw [← hP] at HST
  rw [hZ] at HST HUP
  rw [← hN]
  cases n; obtain ⟨_, _, _, _, rfl, -⟩ := h1.inv; clear h1 h hb0 hZ hs hws hN hP
  go_enter Try.func20, Try.ntmps20
  go_wp2_with fail
  refine HST.out.mono ?_
  rintro e w1 ⟨rfl, hb1, v1, hk1⟩
  have HB1 := Lib.hid (HUP.out w1 hb1)
  have HK1 := Lib.hid hk1
  clear hb1 hk1 HST HUP
  go_wp2_with fail
  refine (nextp_any HK1.out).mono ?_
  rintro e w2 ⟨ls, st, v2, hx, rfl, hk2, hm2⟩
  have HB2 : Hid (Below w.heap.size w w2) := Lib.hid (HB1.out.trans (HK1.out.mvb hm2 HWS.out))
  have HK2 := Lib.hid hk2
  have HR : Hid (remFX st = N) := Lib.hid (by rw [← hx.frc, HN.out])
  obtain ⟨p, hp⟩ : ∃ p, p = hd st := ⟨_, rfl⟩
  rw [← hp]
  have HP := Lib.hid hp
  clear hx hk2 hm2 HK1 HB1 HN hp
  go_wp2_with fail
  go_loopg [4] (remX st) (fun gn x wr => ∃ (st0 : List Fr) (v0 : Value) (p0 : Option Addr), gn = remX st0 ∧ x = .pointer p0 ∧ Hid (p0 = hd st0) ∧ Hid (Wk wr P s (.func (.func 24) #[] #[]) v0 st0) ∧ Hid (Below w.heap.size w wr) ∧ Hid (remFX st0 = N))
  case atStart => exact ⟨st, v2, p, rfl, rfl, HP, HK2, HB2, HR⟩
  case round =>
    obtain ⟨st0, v0, p0, hgn, rfl, HP0, HK, HB, HRR⟩ := hrel
    cases st0 with
    | nil =>
      obtain rfl : p0 = none := HP0.out
      have HF : Hid (false = N) := Lib.hid HRR.out
      go_wp2_with fail
      go_ret
      exact ⟨congrArg (fun b => Ending.returned (.bool b)) HF.out, HB.out⟩
    | cons f r =>
      obtain rfl : p0 = some ⟨f.g, f.o, none⟩ := HP0.out
      have hRR := HRR.out
      simp only [remFX] at hRR
      have hlv := HK.out.live
      obtain ⟨x, i, g, o⟩ := f
      cases x with
      | mk k t l br bl no ta =>
        obtain ⟨a, cap, nv, tv, ⟨-, -, -, d3, -, d5, d6⟩, ⟨na, nc, rfl, -⟩, ⟨ta', tc, rfl, -⟩, -⟩ := hlv.open
        simp only [ofr] at d3 d5 d6 hRR
        cases hof : (br || !no.isEmpty || !ta.isEmpty)
        · rw [hof, Bool.false_or] at hRR
          simp only [Bool.or_eq_false_iff] at hof
          obtain ⟨⟨rfl, hno⟩, hta⟩ := hof
          obtain rfl : no = [] := by simpa using hno
          obtain rfl : ta = [] := by simpa using hta
          simp only [List.length_nil] at d5 d6
          have HRR2 := Lib.hid hRR
          clear hRR hno hta
          go_wp2_with fail
          refine (nextp_any HK.out).mono ?_
          rintro e w4 ⟨ls4, st4, v4, hx, rfl, hk4, hm4⟩
          have HB4 : Hid (Below w.heap.size w w4) := Lib.hid (HB.out.trans (HK.out.mvb hm4 HWS.out))
          have HK4 := Lib.hid hk4
          have HR4 : Hid (remFX st4 = N) := Lib.hid (by rw [← hx.frc, HRR2.out])
          have HGN : Hid (remX st4 < gk) := Lib.hid (by rw [hgn, ← hx.cnt]; simp only [remX]; omega)
          obtain ⟨p4, hp4⟩ : ∃ p, p = hd st4 := ⟨_, rfl⟩
          rw [← hp4]
          have HP4 := Lib.hid hp4
          clear hx hk4 hm4 HK HB HRR HRR2 hgn hp4 d3 d5 d6
          go_wp2_with fail
          go_roundg (remX st4)
          case measure => exact HGN.out
          case rel => exact ⟨st4, v4, p4, rfl, rfl, HP4, HK4, HB4, HR4⟩
        · rw [hof, Bool.true_or] at hRR
          have HF := Lib.hid hRR
          clear hRR
          cases br
          · cases no with
            | nil =>
              cases ta with
              | nil => simp at hof
              | cons y ys =>
                have q1 : ((List.length (α := ByteArray) [] : Nat) : Int) = 0 := rfl
                have q2 : (0 : Int) < (((y :: ys : List ByteArray).length : Nat) : Int) := by simp only [List.length_cons]; omega
                clear hof
                go_wp2_with fail
                go_ret
                exact ⟨congrArg (fun b => Ending.returned (.bool b)) HF.out, HB.out⟩
            | cons y ys =>
              have q2 : (0 : Int) < (((y :: ys : List ByteArray).length : Nat) : Int) := by simp only [List.length_cons]; omega
              clear hof
              go_wp2_with fail
              go_ret
              exact ⟨congrArg (fun b => Ending.returned (.bool b)) HF.out, HB.out⟩
          · clear hof
            go_wp2_with fail
            go_ret
            exact ⟨congrArg (fun b => Ending.returned (.bool b)) HF.out, HB.out⟩
set_option maxRecDepth 100000 in
set_option maxHeartbeats 4000000 in
theorem plits_any (n : Nd) (c : List Value) (w : World) (h1 : NdAt w c n) (h : OkT n) (hsz : Szd n) :
    Calls Try.prog 8 #[.agg c.toArray] w fun e w' => StsAre w (lts n) e w' := by
  obtain ⟨Z, hZ⟩ : ∃ Z, Z = w.alloc (.cells c.toArray 26) := ⟨_, rfl⟩
  have hb0 : Below w.heap.size w Z := by rw [hZ]; exact below1 _ _
  obtain ⟨s, hs⟩ : ∃ s, s = Z.heap.size := ⟨_, rfl⟩
  have hws : w.heap.size ≤ s := by rw [hs]; exact hb0.size
  have HST := Lib.hid (start_any n c w Z h1 h hb0 (.func 24) #[] #[] s hs)
  have HUP := Lib.hid (fun W hb => (hb0.trans (Below.mono (B' := w.heap.size) (B := Z.heap.size) (w := Z) (w' := W) hb hb0.size) : Below w.heap.size w W))
  have HWS := Lib.hid hws
  obtain ⟨N, hN⟩ : ∃ N, N = lts n := ⟨_, rfl⟩
  have HN : Hid (∀ g o, remL [⟨dum n, 0, g, o⟩] = N) := Lib.hid (fun g o => by rw [remL_dum, hN])
  have HN5 : Hid (N.length ≤ 1048576) := Lib.hid (by rw [hN]; exact h.lts)
  have HSZ : Hid (∀ t ∈ N, Sz t) := Lib.hid (by rw [hN]; exact hsz.2)
  obtain ⟨P, hP⟩ : ∃ P, P = Pk w.heap.size s := ⟨_, rfl⟩
  rw [← hP] at HST
  rw [hZ] at HST HUP
  rw [← hN]
  cases n; obtain ⟨_, _, _, _, rfl, -⟩ := h1.inv; clear h1 h hsz hb0 hZ hs hws hN hP
  go_enter Try.func8, Try.ntmps8
  go_wp2_with fail
  refine HST.out.mono ?_
  rintro e w1 ⟨rfl, hb1, v1, hk1⟩
  have HB1 := Lib.hid (HUP.out w1 hb1)
  have HK1 := Lib.hid hk1
  clear hb1 hk1 HST HUP
  go_wp2_with fail
  refine (nextp_any HK1.out).mono ?_
  rintro e w2 ⟨ls, st, v2, hx, rfl, hk2, hm2⟩
  have HB2 : Hid (Below w.heap.size w w2) := Lib.hid (HB1.out.trans (HK1.out.mvb hm2 HWS.out))
  have HK2 := Lib.hid hk2
  have HR : Hid ([] ++ remLX st = N) := Lib.hid (by rw [← hx.lit, HN.out, List.nil_append])
  obtain ⟨p, hp⟩ : ∃ p, p = hd st := ⟨_, rfl⟩
  rw [← hp]
  have HP := Lib.hid hp
  clear hx hk2 hm2 HK1 HB1 HN hp
  go_wp2_with fail
  go_loopg [3, 5] (remX st) (fun gn z x wr => ∃ (st0 : List Fr) (v0 : Value) (p0 : Option Addr) (I : List ByteArray), gn = remX st0 ∧ x = .pointer p0 ∧ Hid (p0 = hd st0) ∧ Hid (Wk wr P s (.func (.func 24) #[] #[]) v0 st0) ∧ Hid (Below w.heap.size w wr) ∧ Hid (Txs wr w.heap.size z I) ∧ Hid (∀ g, z.ownBlock = some g → ¬ Og s v0 g ∧ ¬ P g) ∧ Hid (I ++ remLX st0 = N))
  case atStart => exact ⟨st, v2, p, [], rfl, rfl, HP, HK2, HB2, Lib.hid (txs_nil _ _), Lib.hid (fun g h => by simp [Value.ownBlock] at h), HR⟩
  case round =>
    obtain ⟨st0, v0, p0, I, hgn, rfl, HP0, HK, HB, HTX, HOO, HRR⟩ := hrel
    cases st0 with
    | nil =>
      obtain rfl : p0 = none := HP0.out
      have HF : Hid (I = N) := Lib.hid (by have := HRR.out; simpa [remLX] using this)
      go_wp2_with fail
      go_ret
      exact ⟨_, rfl, by rw [← HF.out]; exact HTX.out, HB.out⟩
    | cons f r =>
      obtain rfl : p0 = some ⟨f.g, f.o, none⟩ := HP0.out
      have hRR := HRR.out
      simp only [remLX] at hRR
      have hlv := HK.out.live
      obtain ⟨x, i, g, o⟩ := f
      cases x with
      | mk k t l br bl no ta =>
        obtain ⟨a, cap, nv, tv, ⟨d0, d1, -, -, -, -, -⟩, -, -, -⟩ := hlv.open
        simp only [olt] at d0 d1 hRR
        cases hk1 : (k == 1)
        · rw [hk1] at hRR
          have HRR2 : Hid (I ++ remL (⟨.mk k t l br bl no ta, i, g, o⟩ :: r) = N) := Lib.hid (by simpa using hRR)
          clear hRR
          go_wp2_with fail
          refine (nextp_any HK.out).mono ?_
          rintro e w4 ⟨ls4, st4, v4, hx, rfl, hk4, hm4⟩
          have HB4 : Hid (Below w.heap.size w w4) := Lib.hid (HB.out.trans (HK.out.mvb hm4 HWS.out))
          have HK4 := Lib.hid hk4
          have HR4 : Hid (I ++ remLX st4 = N) := Lib.hid (by rw [← hx.lit, HRR2.out])
          have HGN : Hid (remX st4 < gk) := Lib.hid (by rw [hgn, ← hx.cnt]; simp only [remX]; omega)
          have HT4 := Lib.hid (txs_mv HTX.out hm4 (fun g h => (HOO.out g h).1))
          have HO4 := Lib.hid (own_mv HTX.out hm4 HOO.out)
          obtain ⟨p4, hp4⟩ : ∃ p, p = hd st4 := ⟨_, rfl⟩
          rw [← hp4]
          have HP4 := Lib.hid hp4
          clear hx hk4 hm4 HK HB HRR HRR2 hgn hp4 d0 d1
          go_wp2_with fail
          go_roundg (remX st4)
          case measure => exact HGN.out
          case rel => exact ⟨st4, v4, p4, I, rfl, rfl, HP4, HK4, HB4, HT4, HO4, HR4⟩
        · rw [hk1] at hRR
          have HRR2 : Hid ((I ++ [t]) ++ remL (⟨.mk k t l br bl no ta, i, g, o⟩ :: r) = N) := Lib.hid (by simpa using hRR)
          have hst : Sz t := HSZ.out t (by rw [← HRR2.out]; simp)
          have HLE : Hid (I.length + [t].length ≤ 1048576) := Lib.hid (by have := HN5.out; rw [← HRR2.out] at this; simp only [List.length_append] at this; omega)
          have HCL := Lib.hid (fun W => cloned_any t hst W)
          have hpp := HK.out.pp
          have hap := HK.out.in
          have HNX : Hid (∀ (w4 w6 : World) (z' : Value), Below wr.heap.size wr w4 → Txs w6 w.heap.size z' (I ++ [t]) → (w4.alloc (.cells #[.string t] 9)).grownBy w6 u3.ownBlock → (z'.ownBlock = u3.ownBlock ∨ ∀ g, z'.ownBlock = some g → (w4.alloc (.cells #[.string t] 9)).heap.size ≤ g) →
              Wk w6 P s (.func (.func 24) #[] #[]) v0 (⟨.mk k t l br bl no ta, i, g, o⟩ :: r) ∧ Below w.heap.size w w6 ∧ ∀ g, z'.ownBlock = some g → ¬ Og s v0 g ∧ ¬ P g) := Lib.hid (fun w4 w6 z' hb4 ht6 hg6 hw6 => by
            have hb5 : Below wr.heap.size wr (w4.alloc (.cells #[.string t] 9)) := hb4.alloc hb4.size _
            have hm : Mv (Ob u3) wr (Ob z') w6 := (mv_below _ hb5).trans (grown_mv hg6 hw6)
            refine ⟨HK.out.keep hm (fun g hg ho => (HOO.out g ho).2 hg) (fun g hg ho => (HOO.out g ho).1 hg), HB.out.trans (hm.below HB.out.size (fun g hg => (HTX.out.lt g hg).1)), fun g hg => ?_⟩
            rcases hm.own g hg with h | h
            · exact HOO.out g h
            · exact ⟨fun h' => by have := hap g h'; omega, fun h' => by have := hpp g h'; have := HK.out.size; omega⟩)
          have HSO : Hid (∀ w4 : World, StAt (w4.alloc (.cells #[.string t] 9)) (.slice (some ⟨w4.heap.size, 0, none⟩) 1 1) [t]) := Lib.hid (fun w4 => st_one w4 t)
          clear hRR hst hlv hpp hap
          go_wp2_with fail
          refine (HCL.out _).mono ?_
          rintro e w4 ⟨rfl, hb4⟩
          have HB4 := Lib.hid hb4
          have HT5 := Lib.hid (HTX.out.bel (hb4.alloc hb4.size (.cells #[.string t] 9)))
          have HS5 : Hid (w.heap.size ≤ (w4.alloc (.cells #[.string t] 9)).heap.size) := Lib.hid (by have := HB.out.size; have := hb4.size; simp; omega)
          clear hb4 d0 d1
          go_wp2_with (at_builtin; go_must (refine wpList_append_stw rfl _ _ rfl w.heap.size _ I rfl HT5.out _ [t] rfl (HSO.out _) HLE.out HS5.out ?_); intro z6 w6 h1 h2 h3; have H6 := Lib.hid (HNX.out _ _ _ HB4.out h1 h2 h3); have HT6 := Lib.hid h1; clear h1 h2 h3)
          refine (nextp_any H6.out.1).mono ?_
          rintro e w7 ⟨ls4, st4, v4, hx, rfl, hk4, hm4⟩
          have HB7 : Hid (Below w.heap.size w w7) := Lib.hid (H6.out.2.1.trans (H6.out.1.mvb hm4 HWS.out))
          have HK4 := Lib.hid hk4
          have HR4 : Hid ((I ++ [t]) ++ remLX st4 = N) := Lib.hid (by rw [← hx.lit, HRR2.out])
          have HGN : Hid (remX st4 < gk) := Lib.hid (by rw [hgn, ← hx.cnt]; simp only [remX]; omega)
          have HT7 := Lib.hid (txs_mv HT6.out hm4 (fun g h => (H6.out.2.2 g h).1))
          have HO7 := Lib.hid (own_mv HT6.out hm4 H6.out.2.2)
          obtain ⟨p4, hp4⟩ : ∃ p, p = hd st4 := ⟨_, rfl⟩
          rw [← hp4]
          have HP4 := Lib.hid hp4
          clear hx hk4 hm4 HK HB HRR HRR2 hgn hp4 H6 HT6 HNX
          go_wp2_with fail
          go_roundg (remX st4)
          case measure => exact HGN.out
          case rel => exact ⟨st4, v4, p4, I ++ [t], rfl, rfl, HP4, HK4, HB7, HT7, HO7, HR4⟩
end Go.Proofs.Ytkdaombcbcegfaa
