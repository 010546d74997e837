/-
  THE DOCUMENT's Last, Note.
-/
import Derived.Test.YtjenofochgcjmaaDoorCellMath
import Derived.Test.YtjenofochgcjmaaDoorRefUtf
import Derived.Test.YtjenofochgcjmaaDoorRefScanC
import Derived.Test.YtjenofochgcjmaaDoorTreeMath
namespace Go.Proofs.YtjenofochgcjmaaDoor
open Go.RowKit Go.PlainAid

set_option maxRecDepth 100000 in
theorem rlast_any (s : ByteArray) (hs : s.size ≤ 1048576) (c : Nat) (hc : c ≤ 10000000) (w : World) :
    Calls Tryd.prog 11 #[.string s, .int .i64 (c : Int)] w fun e w' => e = .returned (.int .i64 (lcol s c : Int)) ∧ ∃ n, w' = w.drewN n := by
  have HC0 := Lib.hid (fun W => rcount_any s W (by unfold maxLen; omega))
  have HCP := Lib.hid (fun (p : Nat) (hp : p ≤ s.size) W => rcount_any (s.extract p s.size) W (by rw [size_ext s p _ (Nat.le_refl _)]; unfold maxLen; omega))
  obtain ⟨R, hR⟩ : ∃ R, R = lnf s s.size := ⟨_, rfl⟩
  obtain ⟨v, hv⟩ : ∃ v, v = lcol s c := ⟨_, rfl⟩
  rw [← hv]
  have HV0 : Hid (R = 0 → c + ct s 0 = v) := Lib.hid (fun h => by rw [hv]; unfold lcol; rw [← hR, if_pos h])
  have HV1 : Hid (R ≠ 0 → R ≤ s.size ∧ ct (s.extract R s.size) 0 = v) := Lib.hid (fun h => by
    have hle : R ≤ s.size := by rw [hR]; exact lnf_le s s.size
    refine ⟨hle, ?_⟩
    rw [hv, ct_tail s hle]
    unfold lcol
    rw [← hR, if_neg h])
  have HR := Lib.hid hR
  have HG := Lib.hid (get_bt s)
  have HCT : Hid (ct s 0 ≤ s.size) := Lib.hid (by have := ct_le s s.size 0 (by omega); omega)
  clear hR hv
  go_enter Tryd.func11, Tryd.ntmps11
  go_wp2_with fail
  go_loopg [5] s.size (fun gn i wr => ∃ j : Nat, gn = j ∧ j ≤ s.size ∧ i = .int .i64 (j : Int) ∧ wr = w ∧ Hid (R = lnf s j))
  case atStart => exact ⟨s.size, rfl, Nat.le_refl _, rfl, rfl, HR⟩
  case round =>
    obtain ⟨j, hgn, hj, rfl, rfl, HJ⟩ := hrel
    by_cases h0 : 0 < j
    · obtain ⟨n, rfl⟩ : ∃ n, j = n + 1 := ⟨j - 1, by omega⟩
      have gx := HG.out n (by omega)
      have k1 : ((n : Int) + 1 - 1).toNat = n := by omega
      have hstep := HJ.out
      simp only [lnf] at hstep
      obtain ⟨b, hb⟩ : ∃ c, c = bt s n := ⟨_, rfl⟩
      rw [← hb] at gx hstep
      by_cases h10 : b = 10
      · rw [if_pos h10] at hstep
        obtain ⟨g1, g2⟩ := HV1.out (by omega)
        rw [hstep] at g1 g2
        have HC := Lib.hid (HCP.out (n + 1) g1 wr)
        rw [g2] at HC
        have k2 : ((n : Int) + 1).toNat = n + 1 := by omega
        subst h10
        clear hstep hb g2 HC0 HCP HV0 HV1 HR HJ
        go_wp2_with fail
        refine HC.out.mono ?_
        rintro e w1 ⟨rfl, hw1⟩
        go_wp2_with fail
        go_ret
        exact ⟨rfl, hw1⟩
      · rw [if_neg h10] at hstep
        have HF := Lib.hid hstep
        have hne : (b != 10) = true := by simpa using h10
        clear hstep hb
        go_wp2_with fail
        go_roundg n
        case measure => omega
        case rel => exact ⟨n, rfl, by omega, by go_num, rfl, HF⟩
    · obtain rfl : j = 0 := by omega
      have hv0 := HV0.out HJ.out
      have hct := HCT.out
      obtain ⟨C, hC⟩ : ∃ C, C = ct s 0 := ⟨_, rfl⟩
      have HC := Lib.hid (HC0.out wr)
      rw [← hC] at HC hv0 hct
      have HF := Lib.hid hv0
      clear hC hv0 HC0 HCP HV0 HV1 HR HJ HCT
      go_wp2_with fail
      refine HC.out.mono ?_
      rintro e w1 ⟨rfl, hw1⟩
      go_wp2_with fail
      go_ret
      exact ⟨by rw [← HF.out]; exact retI (by go_num), hw1⟩
theorem ext_all {s : ByteArray} {p : Nat} (hp : p ≤ s.size) : ((s.extract 0 p).toList == s.toList) = decide (p = s.size) := by
  by_cases h : p = s.size
  · rw [h, decide_eq_true rfl, show s.extract 0 s.size = s by apply ByteArray.ext; simp]
    exact beq_self_eq_true _
  · rw [decide_eq_false h]
    apply beq_false_of_ne
    intro e
    have := ba_eq (x := s.extract 0 p) (y := s) (by rw [e]; exact beq_self_eq_true _)
    have h2 := congrArg ByteArray.size this
    rw [size_ext s 0 p hp] at h2
    omega
set_option maxRecDepth 100000 in
theorem rnote_any1 (s : ByteArray) (hs : s.size ≤ 1048576) (w : World) :
    Calls Tryd.prog 17 #[.string s] w fun e w' => e = .returned (.bool (ntb s)) ∧ w = w' := by
  have HT := Lib.hid (fun W => rtrim_any s hs W)
  have HE := Lib.hid (ext_all (s := s) (p := tr s 0 s.size) (tr_spec s 0 s.size).1)
  obtain ⟨v, hv⟩ : ∃ v, v = ntb s := ⟨_, rfl⟩
  rw [← hv]
  have HV := Lib.hid hv
  have HG := Lib.hid (get_bt s)
  clear hv
  go_enter Tryd.func17, Tryd.ntmps17
  go_wp2_with fail
  go_loopg [3] s.size (fun gn i wr => ∃ j : Nat, gn = s.size - j ∧ j ≤ s.size ∧ i = .int .i64 (j : Int) ∧ wr = w ∧ Hid (∀ i, i < j → bt s i ≠ 10))
  case atStart => exact ⟨0, rfl, Nat.zero_le _, rfl, rfl, Lib.hid (fun i h => by omega)⟩
  case round =>
    obtain ⟨j, hgn, hj, rfl, rfl, HJ⟩ := hrel
    by_cases h0 : j < s.size
    · have gx := HG.out j h0
      have jn : (j : Int) < (s.size : Int) := by omega
      obtain ⟨b, hb⟩ : ∃ c, c = bt s j := ⟨_, rfl⟩
      rw [← hb] at gx
      by_cases h10 : b = 10
      · have HF : Hid (false = v) := Lib.hid (by
          have : lnf s s.size ≠ 0 := fun h => (lnf_none s s.size).1 h j h0 (by rw [← hb, h10])
          rw [HV.out]; unfold ntb; rw [decide_eq_false this]; rfl)
        subst h10
        clear hb
        go_wp2_with fail
        go_ret
        exact ⟨congrArg (fun b => Ending.returned (.bool b)) HF.out, rfl⟩
      · have HF : Hid (∀ i, i < j + 1 → bt s i ≠ 10) := Lib.hid (fun i hi => by
          by_cases he : i = j
          · rw [he, ← hb]; exact h10
          · exact HJ.out i (by omega))
        have hne : (b == 10) = false := by simpa using h10
        clear hb
        go_wp2_with fail
        go_roundg (s.size - (j + 1))
        case measure => omega
        case rel => exact ⟨j + 1, rfl, h0, by go_num, rfl, HF⟩
    · obtain rfl : j = s.size := by omega
      have hl : lnf s s.size = 0 := (lnf_none _ _).2 HJ.out
      by_cases hz : s.size = 0
      · have hse : s = ⟨#[]⟩ := by apply ByteArray.ext; exact Array.eq_empty_of_size_eq_zero hz
        subst hse
        have HF : Hid (false = v) := Lib.hid (by rw [HV.out]; rfl)
        go_wp2_with fail
        go_ret
        exact ⟨congrArg (fun b => Ending.returned (.bool b)) HF.out, rfl⟩
      · have gx := HG.out 0 (by omega)
        have HV2 : Hid (v = (decide (bt s 0 = 37) && decide (tr s 0 s.size = s.size))) := Lib.hid (by rw [HV.out]; unfold ntb; rw [hl, decide_eq_true (show 0 < s.size by omega)]; simp)
        have hne : s.toList.isEmpty = false := by
          rw [ba_list]
          cases h : s.data.toList with
          | nil => exact absurd (by simpa using congrArg List.length h) hz
          | cons => rfl
        obtain ⟨b, hb⟩ : ∃ c, c = bt s 0 := ⟨_, rfl⟩
        rw [← hb] at gx HV2
        clear hl hb
        cases h37 : (b == 37)
        · have HF : Hid (false = v) := Lib.hid (by rw [HV2.out, decide_eq_false (by simpa using h37)]; rfl)
          go_wp2_with fail
          go_ret
          exact ⟨congrArg (fun b => Ending.returned (.bool b)) HF.out, rfl⟩
        · have HF : Hid (((s.extract 0 (tr s 0 s.size)).toList == s.toList) = v) := Lib.hid (by rw [HV2.out, HE.out, decide_eq_true (show b = 37 by simpa using h37), Bool.true_and])
          obtain ⟨t, ht⟩ : ∃ t, t = s.extract 0 (tr s 0 s.size) := ⟨_, rfl⟩
          rw [← ht] at HT HF
          clear ht HE HV2 HV HJ
          go_wp2_with fail
          refine (HT.out _).mono ?_
          rintro e w1 ⟨rfl, rfl⟩
          go_wp2_with fail
          go_ret
          exact ⟨congrArg (fun b => Ending.returned (.bool b)) HF.out, rfl⟩
theorem infoU8c : (Tryd.prog.info? 5).map (fun i => (i.zero, i.size, i.bytes)) = some (some (.int .u8 0), 1, 1) := by kernel_rfl
/-- A row of blanks of one's own. -/
def Blk (W : World) (base : Nat) (v : Value) (q : Nat) : Prop := W.ownsRow base 5 1 v q (List.replicate q (.int .u8 32))
theorem blk_cut {W : World} {base : Nat} {v : Value} {q : Nat} (h : Blk W base v q) : ∃ a n c, v = .slice a n c := by
  obtain ⟨-, ⟨rfl, -⟩ | ⟨g, cap, cur, rfl, -⟩⟩ := h
  · exact ⟨_, _, _, rfl⟩
  · exact ⟨_, _, _, rfl⟩
theorem conv_blk {W : World} {base : Nat} {v : Value} {q : Nat} (h : Blk W base v q) : (convert 37 9 v).run Tryd.prog W = .ok (.string (blks q)) W := by
  have h' := h
  obtain ⟨hl, ⟨rfl, rfl⟩ | ⟨g, cap, cur, rfl, hb, hg, hn, hcm, hz, ht⟩⟩ := h
  · rfl
  · have := run_convert_bytes_back (P := Tryd.prog) W 37 9 5 ⟨g, 0, none⟩ cap (List.replicate q (32 : UInt8)) Tryd.underlying37 Tryd.underlying5 Tryd.underlying9 (fun j hj => by
      rw [List.length_replicate] at hj
      have hc := World.ownsRow.cells h' (g := g) rfl j (.int .u8 32) (by rw [List.getElem?_replicate, if_pos hj])
      rw [hc, List.getElem_replicate]
      rfl)
    rw [List.length_replicate] at this
    exact this
theorem wpList_append_b {w : World} {ops : Array Oper} {rest : List Oper} {o : Oper} {a : Act} {Q : Exit → Act → World → Prop} (hgd : o.guard = none) (s x : Operand)
    (ho : o.op = .call { callee := .builtin .append, args := #[s, x], argTypes := #[37, 37] })
    (base : Nat) (v : Value) (q : Nat) (hs : a.eval s = v) (hown : Blk w base v q) (g : Nat) (hx : a.eval x = .slice (some ⟨g, 0, none⟩) 1 1) (hc : w.cell? ⟨g, 0, none⟩ = some (.int .u8 32))
    (hq : q ≤ 1048576) (hbase : base ≤ w.heap.size)
    (h : ∀ v' w', Blk w' base v' (q + 1) → w.grownBy w' v.ownBlock → wpList Tryd.prog ops Q rest (a.put o.dst v') w') : wpList Tryd.prog ops Q (o :: rest) a w := by
  obtain ⟨i0, hi, hz0, hz1, hz2⟩ := info_parts infoU8c
  refine wpList_append_own w hgd s x 37 ho base 5 i0 (.int .u8 0) 1 1 Tryd.underlying37 hi hz0 hz1 hz2 rfl (by decide) v q (List.replicate q (.int .u8 32)) hs hown ⟨g, 0, none⟩ 1 1 [.int .u8 32] hx rfl ?_ (by intro u hu; simp only [List.mem_cons, List.not_mem_nil, or_false] at hu; rw [hu]; rfl) (by unfold maxLen; omega) (by omega) hbase ?_
  · intro j u hj
    match j, hj with
    | 0, hj => cases hj; simpa [Addr.add] using hc
    | j + 1, hj => simp at hj
  · intro v' w' h1 h2 _
    refine h v' w' ?_ h2
    unfold Blk
    rw [List.replicate_succ']
    exact h1
set_option maxRecDepth 100000 in
theorem rindent_any (n : Int) (w : World) :
    Calls Tryd.prog 13 #[.int .i64 n] w fun e w' => e = .returned (.string (indt n)) ∧ Below w.heap.size w w' := by
  obtain ⟨M, hM⟩ : ∃ M, M = min n.toNat 20000 := ⟨_, rfl⟩
  have HR : Hid (indt n = blks M) := Lib.hid (by unfold indt; rw [hM])
  have hM1 : M ≤ 20000 := by omega
  have HM1 : ∀ q : Nat, q < M → (q : Int) < n ∧ (q : Int) < 20000 := fun q h => by omega
  have HM2 : ¬ ((M : Int) < n ∧ (M : Int) < 20000) := by omega
  have HM1 := Lib.hid HM1
  have HM2 := Lib.hid HM2
  clear hM
  go_enter Tryd.func13, Tryd.ntmps13
  go_wp2_with fail
  go_loopg [3, 4] M (fun gn z i wr => ∃ q : Nat, gn = M - q ∧ q ≤ M ∧ i = .int .i64 (q : Int) ∧ Hid (Blk wr w.heap.size z q) ∧ Hid (Below w.heap.size w wr))
  case atStart => exact ⟨0, rfl, Nat.zero_le _, rfl, Lib.hid (World.ownsRow_nil _ _ _ _), Lib.hid (Below.refl _ _)⟩
  case round =>
    obtain ⟨q, hgn, hq, rfl, HO, HB⟩ := hrel
    obtain ⟨va, vn, vc, rfl⟩ := blk_cut HO.out
    by_cases hlt : q < M
    · obtain ⟨g1, g2⟩ := HM1.out q hlt
      have HO1 : Hid (Blk (wr.alloc (.cells #[.int .u8 32] 5)) w.heap.size (.slice va vn vc) q) := Lib.hid (own_bel HO.out (below1 _ _))
      have HC1 : Hid ((wr.alloc (.cells #[.int .u8 32] 5)).cell? ⟨wr.heap.size, 0, none⟩ = some (.int .u8 32)) := Lib.hid (by rw [World.cell?_alloc_new]; rfl)
      have HS1 : Hid (w.heap.size ≤ (wr.alloc (.cells #[.int .u8 32] 5)).heap.size) := Lib.hid (by have := HB.out.size; simp; omega)
      have HL := Lib.hid (fun k e => (HO1.out.lt k e).1)
      have hq6 : q ≤ 1048576 := by omega
      go_wp2_with (at_builtin; go_must (refine wpList_append_b rfl _ _ rfl w.heap.size _ q rfl HO1.out wr.heap.size rfl HC1.out hq6 HS1.out ?_); intro v6 w6 h1 h2; have HO6 := Lib.hid h1; have HB6 := Lib.hid ((HB.out.alloc HB.out.size _).grown h2 HS1.out HL.out); clear h1 h2)
      go_roundg (M - (q + 1))
      case measure => omega
      case rel => exact ⟨q + 1, rfl, hlt, by go_num, HO6, HB6⟩
    · obtain rfl : q = M := by omega
      have hcv := conv_blk HO.out
      by_cases g1 : (q : Int) < n
      · have g2 : ¬ ((q : Int) < 20000) := fun h => HM2.out ⟨g1, h⟩
        go_wp2_with fail
        go_ret
        exact ⟨congrArg (fun s => Ending.returned (.string s)) HR.out.symm, HB.out⟩
      · go_wp2_with fail
        go_ret
        exact ⟨congrArg (fun s => Ending.returned (.string s)) HR.out.symm, HB.out⟩
end Go.Proofs.YtjenofochgcjmaaDoor
